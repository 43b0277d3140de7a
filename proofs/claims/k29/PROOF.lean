import PyProof.Rows.All
import Wide.All
import OpenK.AllK
import Wide.FinOn
import Lean
import PyProof.EqAt
import PyProof.EqKinds
import PyProof.TupleCall
import PySem.Challenge.RW_ratehall_k29_code_rows
set_option maxHeartbeats 4000000
set_option compiler.extract_closed false
set_option bootstrap.genMatcherCode false
local macro_rules| `(tactic|walk_at "l")=>`(tactic|(rintro _ _ _ _ ⟨⟩;subst_vars;rfl))
local macro_rules| `(tactic|omega)=>`(tactic|with_reducible first|exact qa0 _|lia|fail)
local macro_rules| `(term|∅)=>`(term|by omega)
set_option Elab.async false
set_option linter.all false
set_option maxRecDepth 100000
open PySem.W (instObj methodObj hideAll hideAll_get of_hideAll lookIn plainGet hasDictIn handedIn plainGet_of isFn plainOver takerIn makesIn typeIn emptyDict keepIn methodCall_KW kitx_list kitx_dict callWith_K callWith_K0 cellsFrom_some fnOf codeIn exmOne exm_one nsIn excIn mg_of kIn_of mg_none_of binds_K)
abbrev GE:=@List.getElem_mem
abbrev GM:=@List.length_map
abbrev GT:=@Int.toNat_natCast
abbrev fm:=@List.getElem?_eq_getElem
abbrev qaa:=@Nat.le_refl
abbrev qab:=@List.mem_singleton
abbrev qac:=@List.take_succ_eq_append_getElem
abbrev qad:=@List.getElem?_eq_some_iff
abbrev qae:=@Nat.lt_of_lt_of_le
abbrev qaf:=@List.mem_cons
abbrev qag:=@List.length_append
abbrev qah:=@List.size_toArray
abbrev qai:=@PySem.F.excBase_ValueError
abbrev qaj:=@List.mem_cons_of_mem
abbrev qak:=@List.filter_eq_self
abbrev qal:=@PySem.boot_len
abbrev qam:=@Bool.false_ne_true
abbrev qan:=@PySem.F.plainAttrs_list
abbrev qao:=@List.getElem?_map
abbrev qap:=@Nat.le_trans
abbrev qaq:=@List.getElem_of_mem
abbrev qar:=@Nat.zero_le
abbrev qas:=@Nat.ne_of_lt
abbrev qat:=@PyProof.Rows.boot_isinstance
abbrev qau:=@List.mem_of_getElem?
abbrev qav:=@Nat.pow_le_pow_right
abbrev qaw:=@List.mem_append_right
abbrev qax:=@List.mem_range
abbrev qay:=@PySem.F.slot_list_append
abbrev qaz:=@PySem.F.type_list_append
abbrev qaA:=@Int.eq_ofNat_of_zero_le
abbrev qaB:=@Int.toNat_of_nonneg
abbrev qaC:=@Option.some.inj
abbrev qaD:=@List.mem_append
abbrev qaE:=@List.ext_getElem
abbrev qaF:=@List.map_append
abbrev qaG:=@PyProof.Rows.boot_list
abbrev qaH:=@Nat.mul_left_comm
abbrev qaI:=@List.length_take
abbrev qaJ:=@List.mem_map
abbrev qaK:=@Nat.mul_assoc
abbrev qaL:=@List.mem_cons_self
abbrev qaM:=@Nat.lt_of_le_of_lt
abbrev qaN:=@Nat.div_le_self
abbrev qaO:=@List.take_length
abbrev qaP:=@List.length_set
abbrev qaQ:=@PyProof.Rows.callWith_type1
abbrev qaR:=@List.map_map
abbrev qaS:=@List.getElem?_append_right
abbrev qaT:=@Nat.le_of_ble_eq_true
abbrev qaU:=@PyProof.Rows.boot_tuple
abbrev qaV:=@Nat.lt_succ_iff_lt_or_eq
abbrev qaW:=@PyProof.Rows.boot_sum
abbrev qaX:=@List.not_mem_nil
abbrev qaY:=@Ne.symm
abbrev qaZ:=@List.getElem?_append_left
abbrev qa0:=@Int.natCast_nonneg
abbrev qa1:=@List.getElem?_set_self
abbrev qa2:=@List.take_of_length_le
abbrev qa3:=@Int.emod_lt_of_pos
abbrev qa4:=@List.mem_filter
abbrev qa5:=@Int.emod_nonneg
abbrev qa6:=@List.lookup_cons
abbrev qa7:=@List.sum_cons
abbrev qa8:=@List.length_replicate
abbrev qa9:=@Nat.mul_comm
abbrev qba:=@Nat.gcd_dvd_right
abbrev qbb:=@Int.zero_add
abbrev qbc:=@List.map_set
abbrev qbd:=@Nat.gcd_pos_of_pos_left
abbrev qbe:=@List.mem_append_left
abbrev qbf:=@List.getElem?_of_mem
abbrev qbg:=@PySem.W.kia_one
abbrev qbh:=@Nat.le_of_lt
abbrev qbi:=@Nat.gcd_dvd_left
abbrev qbj:=@List.map_congr_left
abbrev qbk:=@Nat.le_of_dvd
abbrev qbl:=@List.append_nil
abbrev qbm:=@List.getElem?_set_ne
abbrev qbn:=@Bool.and_eq_true
abbrev qbo:=@List.all_eq_true
abbrev qbp:=@List.append_assoc
abbrev qbq:=@List.getD_eq_getElem?_getD
abbrev qbr:=@List.range_succ
abbrev qbs:=@List.pairwise_iff_getElem
abbrev qbt:=@Nat.eq_of_mul_eq_mul_left
abbrev qbu:=@List.getElem?_eq_none
abbrev qbv:=@Nat.eq_zero_or_pos
abbrev qbw:=@Int.natAbs_natCast
abbrev qbx:=@List.getElem_map
abbrev qby:=@Nat.lt_irrefl
abbrev qbz:=@List.length_range
abbrev qbA:=@PySem.mem_of_lookup
abbrev qbB:=@List.getElem_set
abbrev qbC:=@Nat.div_mul_cancel
abbrev qbD:=@Int.mul_le_mul
abbrev qbE:=@List.length_filter_le
abbrev qbF:=@List.take_append_drop
abbrev qbG:=@PyProof.Rows.boot_all
abbrev qbH:=@Bool.eq_iff_iff
abbrev qbI:=@List.nodup_append
abbrev qbJ:=@Option.isSome_iff_exists
abbrev qbK:=@PyProof.Rows.slot_tuple_getitem
abbrev qbL:=@Array.length_toList
abbrev qbM:=@List.replicate_succ
abbrev qbN:=@List.getElem?_range
abbrev qbO:=@Int.mul_le_mul_of_nonneg_right
abbrev qbP:=@List.filter_append
abbrev qbQ:=@List.find?_cons
abbrev qbR:=@Option.map_some
abbrev qbS:=@Nat.not_lt_zero
abbrev qbT:=@List.foldl_append
abbrev qbU:=@Int.fmod_eq_emod_of_nonneg
abbrev qbV:=@Nat.div_pos
abbrev qbW:=@Nat.ne_of_gt
abbrev qbX:=@List.filter_cons
abbrev qbY:=@Nat.mul_le_mul_left
abbrev qbZ:=@List.length_zipWith
abbrev qb0:=@Bool.true_and
abbrev qb1:=@Nat.gcd_pos_of_pos_right
abbrev qb2:=@PySem.F.slot_list_extend
abbrev qb3:=@PySem.F.type_list_extend
abbrev qb4:=@List.nodup_cons
abbrev qb5:=@List.of_mem_zip
abbrev qb6:=@List.forIn_cons
abbrev qb7:=@Int.natCast_mul
abbrev qb8:=@Nat.mul_right_comm
abbrev qb9:=@PySem.F.plainAttrs_dict
abbrev qca:=@List.length_eq_zero_iff
abbrev qcb:=@List.flatten_cons
abbrev qcc:=@Nat.lt_or_ge
abbrev qcd:=@Nat.mul_le_mul
abbrev qce:=@Int.mul_nonneg
abbrev qcf:=@PyProof.Rows.boot_bool
abbrev qcg:=@List.length_drop
abbrev qch:=@Nat.le_add_right
abbrev qci:=@Nat.dvd_trans
abbrev qcj:=@Bool.and_true
abbrev qck:=@Nat.log2_lt
abbrev qcl:=@Nat.mul_pos
open PySem.W (Frag)
namespace _L
open PySem PySem.Spec PyProof.Rows
noncomputable abbrev Key:=Sum Int Str
noncomputable def pC:Key->Value->Bool
 | .inl k,v=>Value.isInt k v
 | .inr x,v=>Value.isStrOf x v
noncomputable def Zpo (w:World):Key->Int
 | .inl k=>hashInt k
 | .inr x=>hashStr w x
theorem mf:∀{k:Key}{v:Value},pC k v=true->(∃i t,k=Sum.inl i/\v=Value.int i t)\/(∃x t,k=Sum.inr x/\v=Value.str x t)
 | .inl i,v,h=>by
  obtain⟨t,e⟩:=Value.isInt_shape (k:=i) (v:=v) h;exact .inl ⟨i,t,rfl,e⟩
 | .inr x,v,h=>by
  obtain⟨t,e⟩:=Value.isStrOf_shape (x:=x) (v:=v) h;exact .inr ⟨x,t,rfl,e⟩
theorem ZjL(i:Int)(t:Tok):pC (.inl i) (.int i t)=true:=by simp[pC,Value.isInt]
theorem ZkK(x:Str)(t:Tok):pC (.inr x) (.str x t)=true:=by simp[pC,Value.isStrOf]
theorem Zol(a b:Int):decide ((Sum.inl a:Key)=Sum.inl b)=(a==b):=by
 by_cases e:a=b
 .subst e;simp
 .have h:¬(Sum.inl a:Key)=Sum.inl b:=λq=>e (Sum.inl.inj q);rw[decide_eq_false h];exact(beq_eq_false_iff_ne.mpr e).symm
theorem Zn5(a b:Str):decide ((Sum.inr a:Key)=Sum.inr b)=decide (a=b):=by
 by_cases e:a=b
 .subst e;simp
 .have h:¬(Sum.inr a:Key)=Sum.inr b:=λq=>e (Sum.inr.inj q);rw[decide_eq_false h,decide_eq_false e]
theorem Zoo(a:Int)(b:Str):decide ((Sum.inl a:Key)=Sum.inr b)=false:=decide_eq_false (λq=>nomatch q)
theorem ZnI(a:Str)(b:Int):decide ((Sum.inr a:Key)=Sum.inl b)=false:=decide_eq_false (λq=>nomatch q)
noncomputable def fQ (prog:Program) (w:World):PySem.KeyKind prog w Key where
 is:=pC
 hash:=Zpo w
 inj:=λv a b bK au=>by
  rcases mf bK with⟨i,t,rfl,rfl⟩|⟨x,t,rfl,rfl⟩
  .rcases mf au with⟨j,u,rfl,e⟩|⟨y,u,rfl,e⟩
   .injection e with bJ _;rw[bJ]
   .exact nomatch e
  .rcases mf au with⟨j,u,rfl,e⟩|⟨y,u,rfl,e⟩
   .exact nomatch e
   .injection e with bJ _;rw[bJ]
 byValue:=λk v h=>by
  rcases mf h with⟨i,t,rfl,rfl⟩|⟨x,t,rfl,rfl⟩<;>rfl
 pyHash:=λcz h=>by
  rcases mf cz with⟨i,t,rfl,rfl⟩|⟨x,t,rfl,rfl⟩
  .exact wpAny_pyHash_int h
  .exact wpAny_pyHash_str h
 eqBool:=λhu cz h=>by
  rcases mf hu with⟨i,t,rfl,rfl⟩|⟨x,t,rfl,rfl⟩
  .rcases mf cz with⟨j,u,rfl,rfl⟩|⟨y,u,rfl,rfl⟩
   .rw[Zol] at h;exact wpAny_eqBool_int h
   .rw[Zoo] at h;exact SeqAt.EqAt.int_str i t y u _ _ _ _ h
  .rcases mf cz with⟨j,u,rfl,rfl⟩|⟨y,u,rfl,rfl⟩
   .rw[ZnI] at h;exact SeqAt.EqAt.str_int x t j u _ _ _ _ h
   .rw[Zn5] at h;exact wpAny_eqBool_str h
 «strs»:=λk x t v h=>by
  rcases mf h with⟨i,u,rfl,e⟩|⟨y,u,rfl,e⟩
  .exact nomatch e
  .injection e with bJ _
   subst bJ;cases v<;>rfl
theorem ZhG(prog:Program)(w:World)(i:Int)(t:Tok):(fQ prog w).is (.inl i) (.int i t)=true:=ZjL i t
theorem ZhV(prog:Program)(w:World)(x:Str)(t:Tok):(fQ prog w).is (.inr x) (.str x t)=true:=ZkK x t
inductive V where
 |non|bl (b:Bool)|int (i:Int)|str (x:Str)|byt (b:Array UInt8)|flt (b:UInt64)|ref (a:Addr)|ty (n:String)
 deriving DecidableEq
def c4:V->Value->Prop
 | .non,u=>u=Value.none
 | .bl b,u=>u=Value.bool b
 | .int i,u=>∃t,u=Value.int i t
 | .str x,u=>∃t,u=Value.str x t
 | .byt b,u=>∃t,u=Value.bytes b t
 | .flt b,u=>∃t,u=Value.float b t
 | .ref a,u=>u=Value.ref a
 | .ty n,u=>u=Value.type n
abbrev cW:List V->List Value->Prop:=Paired c4
theorem cW.length{xs:List V}{us:List Value}(r:cW xs us):xs.length=us.length:=Paired.length r
theorem cW.get:∀{xs:List V}{us:List Value}{i:Nat}{x:V},cW xs us->xs[i]? =some x->∃u,us[i]? =some u/\c4 x u
 |_,_,_,_,.nil,e=>by simp at e
 |_,_,0,_,.cons r _,e=>by simp at e;subst e;exact⟨_,rfl,r⟩
 |_,_,i+1,x,.cons _ t,e=>by
  obtain⟨u,ay,aD⟩:=cW.get (i:=i) (x:=x) t (by simpa using e);exact⟨u,by simpa using ay,aD⟩
theorem cW.set{x:V}{u:Value}(r:c4 x u):∀{xs:List V}{us:List Value}(i:Nat),cW xs us->cW (xs.set i x) (us.set i u)
 |_,_,_,.nil=> .nil
 |_,_,0,.cons _ t=> .cons r t
 |_,_,i+1,.cons q t=> .cons q (cW.set r i t)
theorem cW.append:∀{xs ys:List V}{us ws:List Value},cW xs us->cW ys ws->cW (xs++ys) (us++ws)
 |_,_,_,_,.nil,s=>s
 |_,_,_,_,.cons r t,s=> .cons r (cW.append t s)
theorem cW.take:∀{xs:List V}{us:List Value}(n:Nat),cW xs us->cW (xs.take n) (us.take n)
 |_,_,0,_=> .nil
 |_,_,_+1,.nil=> .nil
 |_,_,n+1,.cons r t=> .cons r (cW.take n t)
theorem cW.drop:∀{xs:List V}{us:List Value}(n:Nat),cW xs us->cW (xs.drop n) (us.drop n)
 |_,_,0,r=>r
 |_,_,_+1,.nil=> .nil
 |_,_,n+1,.cons _ t=>cW.drop n t
def im:Option V->Option Value->Prop
 |some v,some u=>c4 v u
 |none,none=>True
 |_,_=>False
def KV {d0:Type}:List (d0×V)->List (d0×Value)->Prop:=Paired λ(p:d0×V) (q:d0×Value)=>p.1=q.1/\c4 p.2 q.2
noncomputable def kV:Key->V
 | .inl i=> .int i
 | .inr x=> .str x
inductive HO where
 |lst (xs:List V)
 |tup (xs:List V)
 |dK (kvs:List (Key×V))|dT (kvs:List (List Key×V))
 |set (S:Int->Bool) (n:Nat)
 |ins (C dx:Addr) (fs:List (Str×V))
 |own (x:Addr)
 |xd (fs:List (Str×V))
 |met (f x:Addr)
 |rng (lo hi:Int)
 |frz (o:Obj) (u:HO)
 |tbl (ci:Array Value)
 |ext (n5:Heap->Prop)
noncomputable abbrev Hp:=Addr->Option HO
noncomputable def upd (H:Hp) (a:Addr) (o:HO):Hp:=λb=>if b=a then some o else H b
theorem Ze{H:Hp}{a:Addr}{o:HO}:upd H a o a=some o:=by unfold upd;rw[if_pos rfl]
theorem b3{H:Hp}{a b:Addr}{o:HO}(h:b≠a):upd H a o b=H b:=by unfold upd;rw[if_neg h]
theorem e_{H:Hp}{a b:Addr}{o u:HO}(h:H a=some o)(h':H b=some u)(d:o≠u):a≠b:=by
 intro e;subst e;rw[h] at h';exact d (qaC h')
theorem dh{H:Hp}{a b:Addr}{o:HO}(h:H a=some o)(h':H b=none):a≠b:=by
 intro e;subst e;rw[h] at h';cases h'
section
variable (P:Program)(w:World)
def Z3 (H:Hp) (h:Heap) (a:Addr):HO->Prop
 | .lst xs=>xs.length<=sizeLine/\∃(its:List Value)(n:Nat),cW xs its/\h.get? a=some {cls:= .type "list",data:= .seq its.toArray n}
 | .tup xs=>xs.length<=sizeLine/\∃its:List Value,cW xs its/\IsTup h a its.toArray
 | .dK kvs=>kvs.length<=sizeLine/\(a==sysModules)=false/\∃vs,KV kvs vs/\h.DictOf (fQ P w) a vs
 | .dT kvs=>kvs.length<=sizeLine/\(a==sysModules)=false/\∃xs:List (List Key×Addr×Value),
   Paired (λ(p:List Key×V) (q:List Key×Addr×Value)=>p.1=q.1/\H q.2.1=some (.tup (p.1.map kV))/\c4 p.2 q.2.2) kvs xs/\
   ∃o b7 ep,h.get? a=some o/\o.ExactDict/\o.data= .dict b7 ep/\b7.toList=xs.map (entryOfKey (tupleKind (fQ P w)))/\(xs.map (·.1)).Nodup
 | .set S n=>h.SetOf (intKind P w) a S n
 | .ins C dx fs=>H dx=some (.own a)/\fs.length<=1000/\dx≠a/\h.get? a=some (instObj C dx)/\
   ∃er,h.Ns1 dx er/\(∀f,im (fs.lookup f) (er f))/\PySem.Within er (fs.map (·.1))
 | .own _=>∃o,h.get? a=some o
 | .xd fs=>∃er,h.Ns1 a er/\∀f,im (fs.lookup f) (er f)
 | .rng lo hi=>∃t u v,h.get? a=some {cls:= .type "range",data:= .fields #[.int lo t,.int hi u,.int 1 v]}
 | .frz o u=>h.get? a=some o/\Z3 H h a u
 | .tbl ci=>h.get? a=some {cls:= .none,data:= .fields ci}
 | .met f x=>h.get? a=some (methodObj (.ref f) (.ref x))
 | .ext n5=>n5 h/\(∃o,h.get? a=some o)/\∀ay aD:Heap,n5 ay->(∀o,ay.get? a=some o->aD.get? a=some o)->n5 aD
def HOk(H:Hp)(h:Heap):Prop:=∀a o,H a=some o->Z3 P w H h a o
end
section
variable {P:Program}{w:World}{H aj:Hp}{h h':Heap}{a:Addr}{o:HO}
theorem Z3.lt(x:Z3 P w H h a o):a<h.objs.size:=by
 cases o with
 |lst xs=>obtain⟨_,_,_,_,e⟩:=x;exact Heap.lt_size e
 |tup xs=>obtain⟨_,_,_,p⟩:=x;exact p.lt
 |dK kvs=>obtain⟨_,_,_,_,o,_,_,e,_⟩:=x;exact Heap.lt_size e
 |dT kvs=>obtain⟨_,_,_,_,o,_,_,e,_⟩:=x;exact Heap.lt_size e
 |set S n=>obtain⟨o,_,_,_,e,_⟩:=x;exact Heap.lt_size e
 |ins C dx fs=>obtain⟨_,_,_,e,_⟩:=x;exact Heap.lt_size e
 |own y=>obtain⟨_,e⟩:=x;exact Heap.lt_size e
 |xd fs=>obtain⟨_,⟨_,_,_,e,_⟩,_⟩:=x;exact Heap.lt_size e
 |rng lo hi=>obtain⟨_,_,_,e⟩:=x;exact Heap.lt_size e
 |frz dj u=>obtain⟨e,_⟩:=x;exact Heap.lt_size e
 |tbl ci=>exact Heap.lt_size (show h.get? a=some _ from x)
 |met f y=>exact Heap.lt_size (show h.get? a=some _ from x)
 |ext n5=>obtain⟨_,⟨_,e⟩,_⟩:=x;exact Heap.lt_size e
theorem Paired.mapP{cX f3:Type}{F G:cX->f3->Prop}:∀{At:List cX}{l₂:List f3},Paired F At l₂->(∀a b,F a b->G a b)->Paired G At l₂
 |_,_,.nil,_=> .nil
 |_,_,.cons r t,f=> .cons (f _ _ r) (Paired.mapP t f)
theorem Z3.stay(x:Z3 P w H h a o)(k:∀b u,(b=a\/H b=some (.own a))->h.get? b=some u->h'.get? b=some u)
  (b6:∀b,H b=some (.own a)->aj b=some (.own a)) (bY:∀b xs,H b=some (.tup xs)->aj b=some (.tup xs)):Z3 P w aj h' a o:=by
 induction o with
 |lst xs=>obtain⟨z,its,n,r,e⟩:=x;exact⟨z,its,n,r,k _ _ (.inl rfl) e⟩
 |tup xs=>obtain⟨z,its,r,dj,e,c⟩:=x;exact⟨z,its,r,dj,k _ _ (.inl rfl) e,c⟩
 |dK kvs=>obtain⟨z,y,vs,r,dj,b7,ep,e,c⟩:=x;exact⟨z,y,vs,r,dj,b7,ep,k _ _ (.inl rfl) e,c⟩
 |dT kvs=>
  obtain⟨z,y,xs,r,dj,b7,ep,e,c⟩:=x;exact⟨z,y,xs,Paired.mapP r λp q z=>⟨z.1,bY _ _ z.2.1,z.2.2⟩,dj,b7,ep,k _ _ (.inl rfl) e,c⟩
 |set S n=>obtain⟨dj,b7,ep,t,e,c⟩:=x;exact⟨dj,b7,ep,t,k _ _ (.inl rfl) e,c⟩
 |ins C dx fs=>
  obtain⟨d,z,ne,e,er,⟨es,b7,ep,bX,c⟩,r⟩:=x;exact⟨b6 _ d,z,ne,k _ _ (.inl rfl) e,er,⟨es,b7,ep,k _ _ (.inr d) bX,c⟩,r⟩
 |own y=>obtain⟨dj,e⟩:=x;exact⟨dj,k _ _ (.inl rfl) e⟩
 |xd fs=>obtain⟨er,⟨es,b7,ep,e,c⟩,r⟩:=x;exact⟨er,⟨es,b7,ep,k _ _ (.inl rfl) e,c⟩,r⟩
 |rng lo hi=>obtain⟨t,u,v,e⟩:=x;exact⟨t,u,v,k _ _ (.inl rfl) e⟩
 |frz dj u b_=>obtain⟨e,q⟩:=x;exact⟨k _ _ (.inl rfl) e,b_ q⟩
 |tbl ci=>
  have e:h.get? a=some {cls:= .none,data:= .fields ci}:=x;show h'.get? a=some {cls:= .none,data:= .fields ci};exact k a _ (.inl rfl) e
 |met f y=>
  have e:h.get? a=some (methodObj (.ref f) (.ref y)):=x;show h'.get? a=some (methodObj (.ref f) (.ref y));exact k a _ (.inl rfl) e
 |ext n5=>obtain⟨p,⟨o,e⟩,st⟩:=x;exact⟨st _ _ p λo q=>k _ _ (.inl rfl) q,⟨o,k _ _ (.inl rfl) e⟩,st⟩
theorem HOk.lt(x:HOk P w H h)(e:H a=some o):a<h.objs.size:=(x a o e).lt
theorem HOk.fresh(x:HOk P w H h)(e:h.objs.size<=a):H a=none:=by
 cases q:H a with
 |none=>rfl
 |some u=>exact absurd (qae (x.lt q) e) (qby _)
theorem HOk.kept(x:HOk P w H h)(k:∀b u,h.get? b=some u->h'.get? b=some u):HOk P w H h':=λa o e=>
 (x a o e).stay (λb u _ q=>k b u q) (λ_ q=>q) λ_ _ q=>q
theorem HOk.laid(x:HOk P w H h)(k:∀b u,h.get? b=some u->h'.get? b=some u)(bO:h.objs.size<=a)(new:Z3 P w (upd H a o) h' a o):HOk P w (upd H a o) h':=λb u e=>by
 have b':=x.fresh bO
 by_cases au:b=a
 .subst au;rw[Ze] at e;cases e;exact new
 .rw[b3 au] at e;exact(x b u e).stay (λc v _ q=>k c v q) (λc q=>by rw[b3 (dh q b')];exact q) λc xs q=>by rw[b3 (dh q b')];exact q
end
def Rd(H:Hp)(a:Addr)(u:HO):Prop:=H a=some u\/∃o,H a=some (.frz o u)
theorem Rd.ok{P:Program}{w:World}{H:Hp}{h:Heap}{a:Addr}{u:HO}(r:Rd H a u)(x:HOk P w H h):Z3 P w H h a u:=by
 rcases r with r|⟨o,r⟩
 .exact x a u r
 .obtain⟨_,q⟩:=x a _ r;exact q
def Mut:Option HO->Prop
 |some (.lst _)=>True
 |some (.dK _)=>True
 |some (.dT _)=>True
 |some (.set _ _)=>True
 |some (.ins _ _ _)=>True
 |some (.ext _)=>True
 |_=>False
section
variable {P:Program}{w:World}{H:Hp}{h h':Heap}{x e:Addr}{cT:HO}
theorem HOk.write(ok:HOk P w H h)(i9:Mut (H x))(b9:e=x\/H e=some (.own x))(k:∀b u,b≠e->h.get? b=some u->h'.get? b=some u)(mh:∃u,h'.get? e=some u)
  (new:Z3 P w (upd H x cT) h' x cT):HOk P w (upd H x cT) h':=λb u q=>by
 have Au:∀c y,H c=some (.own y)->c≠x:=λc y r z=>by subst z;rw[r] at i9;exact i9
 have HS:∀c xs,H c=some (.tup xs)->c≠x:=λc xs r z=>by subst z;rw[r] at i9;exact i9
 by_cases au:b=x
 .subst au;rw[Ze] at q;cases q;exact new
 .rw[b3 au] at q
  by_cases n6:b=e
  .have io:H b=some (.own x):=by
    rcases b9 with z|z
    .exact absurd (n6.trans z) au
    .rw[n6];exact z
   rw[q] at io;cases io;obtain⟨v,cz⟩:=mh;exact⟨v,by rw[n6];exact cz⟩
  .refine(ok b u q).stay (λc v a_ r=>k c v ?_ r) (λc r=>by rw[b3 (Au c b r)];exact r) λc xs r=>by rw[b3 (HS c xs r)];exact r
   rcases a_ with rfl|a_
   .exact n6
   .rintro rfl;rcases b9 with z|z
    .exact Au c b a_ z
    .rw[a_] at z;cases z;exact au rfl
end
structure Un(fs ex:List Addr)(H aj:Hp)(h h':Heap):Prop where
 keep:∀b o,h.get? b=some o->H b=none->b∉fs->b∉ex->h'.get? b=some o
 slot:∀b o,h.get? b=some o->H b=none->b∈fs->b∉ex->∃sl,h'.get? b=some {o with slots:=sl}
 free:∀b o,h.get? b=some o->H b=none->b∉ex->aj b=none
 there:∀b o,h.get? b=some o->b∉ex->∃cT,h'.get? b=some cT
 tups:∀b xs,H b=some (.tup xs)->aj b=some (.tup xs)
 frzs:∀b o u,H b=some (.frz o u)->aj b=some (.frz o u)
 tbls:∀b ci,H b=some (.tbl ci)->∃more,aj b=some (.tbl (ci++more))
section
variable {fs tq ex TB:List Addr}{H aA aP:Hp}{h ay aD h':Heap}{a x e:Addr}{o:HO}
theorem Un.any(u:Un fs ex H aA h ay){b:Addr}{dj:Obj}(q:h.get? b=some dj)(n:H b=none)(ar:b∉ex):∃sl,ay.get? b=some {dj with slots:=sl}:=by
 by_cases au:b∈fs
 .exact u.slot b dj q n au ar
 .exact⟨dj.slots,u.keep b dj q n au ar⟩
theorem Un.kept(k:∀b u,h.get? b=some u->h'.get? b=some u):Un fs ex H H h h':=
 ⟨λb dj q _ _ _=>k b dj q,λb dj q _ _ _=>⟨dj.slots,k b dj q⟩,λ_ _ _ n _=>n,λb dj q _=>⟨dj,k b dj q⟩,λ_ _ q=>q,λ_ _ _ q=>q,λ_ ci q=>⟨#[],by rw[q];simp⟩⟩
theorem Un.refl:Un fs ex H H h h:=Un.kept λ_ _ q=>q
theorem Un.laid(k:∀b u,h.get? b=some u->h'.get? b=some u)(bO:h.objs.size<=a)(b':H a=none):Un fs ex H (upd H a o) h h' where
 keep:=λb u q _ _ _=>k b u q
 slot:=λb u q _ _ _=>⟨u.slots,k b u q⟩
 free:=λb u q n _=>by rw[b3 (qas (qae (Heap.lt_size q) bO))];exact n
 there:=λb u q _=>⟨u,k b u q⟩
 tups:=λb xs q=>by rw[b3 (dh q b')];exact q
 frzs:=λb u xs q=>by rw[b3 (dh q b')];exact q
 tbls:=λb ci q=>⟨#[],by rw[b3 (dh q b'),q];simp⟩
theorem Un.write(i9:Mut (H x))(b9:e=x\/H e=some (.own x))(k:∀b u,b≠e->h.get? b=some u->h'.get? b=some u)(mh:∃u,h'.get? e=some u):Un fs ex H (upd H x o) h h':=by
 have ar:∀b,H b=none->b≠x:=λb n z=>by subst z;rw[n] at i9;exact i9
 have au:∀b,H b=none->b≠e:=λb n z=>by
  subst z;rcases b9 with r|r
  .exact ar b n r
  .rw[n] at r;cases r
 have bL:∀b u,H b=some u->¬Mut (some u)->b≠x:=λb u q nm z=>by subst z;rw[q] at i9;exact nm i9
 refine⟨λb u q n _ _=>k b u (au b n) q,λb u q n _ _=>⟨u.slots,k b u (au b n) q⟩,λb u q n _=>by rw[b3 (ar b n)];exact n,λb u q _=>?_,
  λb xs q=>by rw[b3 (bL b _ q λz=>z)];exact q,λb u xs q=>by rw[b3 (bL b _ q λz=>z)];exact q,λb ci q=>⟨#[],by rw[b3 (bL b _ q λz=>z),q];simp⟩⟩
 by_cases n6:b=e
 .subst n6;exact mh
 .exact⟨u,k b u n6 q⟩
end
noncomputable def trk (h:Heap) (H:Hp):List Addr:=(List.range h.objs.size).filter λa=>(H a).isSome
noncomputable def mi (h:Heap) (H:Hp):Heap:=hideAll h (trk h H)
theorem HV(h:Heap)(H:Hp):(mi h H).objs.size=h.objs.size:=PySem.W.hideAll_size _ _
theorem Zl4{h:Heap}{H:Hp}{b:Addr}{o:Obj}(e:h.get? b=some o)(n:H b=none):(mi h H).get? b=some o:=
 hideAll_get _ e λbL=>by
  have q:(H b).isSome=true:=(qa4.mp bL).2;rw[n] at q;simp at q
theorem ZmH{h:Heap}{H:Hp}{b:Addr}{o:Obj}(e:(mi h H).get? b=some o):h.get? b=some o/\H b=none:=by
 have cv:h.get? b=some o:=of_hideAll (trk h H) e;refine⟨cv,?_⟩;cases q:H b with
 |none=>rfl
 |some x=>
  have bL:b∈trk h H:=qa4.mpr ⟨qax.mpr (Heap.lt_size cv),by simp[q]⟩;have z:(mi h H).get? b=none:=PySem.W.hideAll_none (trk h H) bL;rw[z] at e;cases e
structure Mod(K:Frag)(mg:Str->Option Value)(base:Heap):Prop where
 kin:K.In base
 glob:base.Ns mainGlobals mg
 blt:∃j5,base.Ns builtinsNs j5/\∀x:Str,x≠"__name__" ->j5 x=bootBuiltins x
 nolimit:base.NoLimit
structure Cx where
 prog:Program
 w:World
 K:Frag
 mg:Str->Option Value
 base:Heap
 A:Around
 N:List Str
 s₀:Shared
 H₀:Hp
 env:Env
 outer:List Env
 stack:List Env
 ex:List Addr
 fn:Str->Bool
 calm:Bool
 pn:List (Addr×Obj)
 xe:Value->Shared->Prop
noncomputable def frs (l:List Env):List Addr:=l.filterMap (·.frame)
noncomputable abbrev Cx.fs (X:Cx):List Addr:=frs X.outer
def Vis(cf:Scope)(x:Str):Prop:=cf.names.lookup x=some .local\/cf.names.lookup x=some .cell\/cf.names.lookup x=some .free
def Loc(cf:Scope)(x:Str):Prop:=cf.names.lookup x=some .local\/cf.names.lookup x=some .cell
def Zn3(env:Env)(h:Heap)(m:Str->Option Value)(x:Str)(u:Value):Prop:=
 (env.kindOf x=some .local/\m x=some u)\/((env.kindOf x=some .cell\/env.kindOf x=some .free)/\∃c,env.cells.lookup x=some c/\h.IsCell c (some u))
structure Cx.Ok(X:Cx):Prop where
 mod:Mod X.K X.mg X.base
 kind:X.env.scope.kind= .function
 glob:X.env.globals=mainGlobals
 blt:X.env.builtins=builtinsNs
 above:X.s₀.heap.objs.size<=X.env.locals
 inj:∀x y c,X.env.cells.lookup x=some c->X.env.cells.lookup y=some c->x=y
 has:∀x,(X.env.kindOf x=some .cell\/X.env.kindOf x=some .free)->∃c,X.env.cells.lookup x=some c
 cab:∀x c,X.fn x=true->X.env.cells.lookup x=some c->X.s₀.heap.objs.size<=c
 hd:X.calm=true->X.A.handled=none
 frames:X.A.frames=some X.stack
 stk:X.stack=X.outer\/(X.stack=X.env::X.outer/\X.env.frame=some X.env.locals)
 exf:∀b∈X.ex,b≠X.env.locals/\∀x c,X.env.cells.lookup x=some c->c≠b
 bs:∀b o,X.base.get? b=some o->X.s₀.heap.get? b=some o/\X.H₀ b=none
 bsz:X.base.objs.size<=X.s₀.heap.objs.size
 noex:∀b o,X.base.get? b=some o->b∉X.ex
 exfs:∀b∈X.ex,b∉X.fs
 funs:X.s₀.heap.FunFrames X.base X.outer
 frf:∀b∈X.fs,X.H₀ b=none
structure Inv(X:Cx)(aq:List (Addr×Obj))(ao:List (Option V))(H:Hp)(s:Shared):Prop where
 ok:X.Ok
 os:s.os=X.s₀.os
 bare:AllBare s.gens
 base:Un X.fs X.ex X.H₀ H X.s₀.heap s.heap
 loc:∃m,s.heap.Ns X.env.locals m/\∀(i:Nat)(x:Str)(v:V),X.N[i]? =some x->ao[i]? =some (some v)->Vis X.env.scope x->∃u,c4 v u/\Zn3 X.env s.heap m x u
 cell:∀x c,X.env.cells.lookup x=some c->∃v,s.heap.IsCell c v
 free:H X.env.locals=none
 freeC:∀x c,X.env.cells.lookup x=some c->H c=none
 pin:∀p∈X.pn++aq,s.heap.get? p.1=some p.2/\H p.1=none/\p.1≠X.env.locals/\p.1∉X.fs/\∀v,p.2.data≠ .cell v
 hok:HOk X.prog X.w H s.heap
 len:ao.length=X.N.length
section
variable {X:Cx}{aq:List (Addr×Obj)}{ao:List (Option V)}{H aj:Hp}{s:Shared}{h':Heap}
theorem Cx.Ok.nofr(ok:X.Ok){b:Addr}{o:Obj}(e:X.base.get? b=some o):b∉X.fs:=λau=>by
 have:=(ok.funs.mem au).1;rw[e] at this;cases this
theorem Inv.bs(I:Inv X aq ao H s):∀b o,X.base.get? b=some o->s.heap.get? b=some o/\H b=none:=λb o e=>
 ⟨I.base.keep b o (I.ok.bs b o e).1 (I.ok.bs b o e).2 (I.ok.nofr e) (I.ok.noex b o e),I.base.free b o (I.ok.bs b o e).1 (I.ok.bs b o e).2 (I.ok.noex b o e)⟩
theorem Inv.bk(I:Inv X aq ao H s):∀b o,X.base.get? b=some o->s.heap.get? b=some o:=λb o e=>(I.bs b o e).1
theorem Inv.mod(I:Inv X aq ao H s):Mod X.K X.mg X.base:=I.ok.mod
theorem Inv.kIn(I:Inv X aq ao H s):X.K.In s.heap:=I.ok.mod.kin.keeps I.bk
theorem Inv.lt(I:Inv X aq ao H s):X.env.locals<s.heap.objs.size:=let⟨_,b',_⟩:=I.loc;b'.lt
theorem Inv.sz(I:Inv X aq ao H s):X.s₀.heap.objs.size<=s.heap.objs.size:=qap I.ok.above (qbh I.lt)
theorem Inv.nofs(I:Inv X aq ao H s){a:Addr}(h:s.heap.objs.size<=a):a∉X.fs:=λau=>by
 obtain⟨_,o,b6,_⟩:=I.ok.funs.mem au;exact absurd (qae (Heap.lt_size b6) (qap I.sz h)) (qby _)
theorem Inv.cne(I:Inv X aq ao H s):∀x c,X.env.cells.lookup x=some c->c≠X.env.locals:=λx c e z=>by
 obtain⟨v,o,b6,hd⟩:=I.cell x c e;obtain⟨m,⟨cT,b7,ep,mj,ip,_⟩,_⟩:=I.loc;rw[z,mj] at b6;cases b6;rw[ip] at hd;cases hd
theorem Inv.funs(I:Inv X aq ao H s):s.heap.FunFrames X.base X.outer:=by
 have all:∀(l:List Env),(∀b∈frs l,b∈X.fs)->X.s₀.heap.FunFrames X.base l->s.heap.FunFrames X.base l:=by
  intro l
  induction l with
  |nil=>intro _ _;trivial
  |cons env r b_=>
   intro hs ap;obtain⟨bH,⟨L,o,bS,b',b6,hd⟩,aC⟩:=ap;have gX:L∈X.fs:=hs L (by unfold frs;rw[List.filterMap_cons,bS];exact qaL);obtain⟨sl,e⟩:=I.base.slot L o b6 (I.ok.frf L gX) gX λz=>I.ok.exfs L z gX;exact⟨bH,⟨L,_,bS,b',e,hd⟩,b_ (λb au=>hs b (by unfold frs;rw[List.filterMap_cons,bS];exact qaj _ au)) aC⟩
 exact all X.outer (λ_ au=>au) I.ok.funs
theorem Inv.stack(I:Inv X aq ao H s):s.heap.FunFrames X.base X.stack:=by
 rcases I.ok.stk with e|⟨e,bS⟩
 .rw[e];exact I.funs
 .rw[e];obtain⟨m,b',_⟩:=I.loc;refine .cons (by rw[I.ok.kind];decide) bS b' ?_ I.funs;exact Heap.get?_none_of_le (qap I.ok.bsz I.ok.above)
theorem Inv.stkSub(I:Inv X aq ao H s):∀b∈frs X.stack,b∈X.env.locals::X.fs:=λb au=>by
 rcases I.ok.stk with e|⟨e,bS⟩
 .rw[e] at au;exact qaj _ au
 .rw[e] at au;unfold frs at au;rw[List.filterMap_cons,bS] at au;exact au
theorem Inv.stkFree(I:Inv X aq ao H s):∀b∈frs X.stack,H b=none:=λb au=>by
 rcases qaf.mp (I.stkSub b au) with e|au
 .rw[e];exact I.free
 .obtain⟨_,o,b6,_⟩:=I.ok.funs.mem au;exact I.base.free b o b6 (I.ok.frf b au) λz=>I.ok.exfs b z au
theorem Inv.step{g':Array GenState}{t':Nat}{d':Drawn}{ch:List Addr}(I:Inv X aq ao H s)
  (lw:∀b∈ch,(b∈X.ex\/X.s₀.heap.objs.size<=b)/\b≠X.env.locals/\(∀x c,X.env.cells.lookup x=some c->c≠b)/\∀p∈X.pn++aq,p.1≠b)
  (keep:∀b o,b≠X.env.locals->b∉X.fs->b∉ch->s.heap.get? b=some o->H b=none->h'.get? b=some o)
  (slot:∀b o,b≠X.env.locals->b∈X.fs->b∉ch->s.heap.get? b=some o->H b=none->∃sl,h'.get? b=some {o with slots:=sl}) (free:∀b o,b∉ch->s.heap.get? b=some o->H b=none->aj b=none)
  (there:∀b o,b∉ch->s.heap.get? b=some o->∃cT,h'.get? b=some cT)
  (tups:∀b xs,H b=some (.tup xs)->aj b=some (.tup xs)) (frzs:∀b o u,H b=some (.frz o u)->aj b=some (.frz o u)) (tbls:∀b ci,H b=some (.tbl ci)->∃more,aj b=some (.tbl (ci++more)))
  (ns:∀m,s.heap.Ns X.env.locals m->h'.Ns X.env.locals m) (hok:HOk X.prog X.w aj h') (bR:AllBare g'):
  Inv X aq ao aj {s with heap:=h',gens:=g',drawn:=d',toks:=t'}:=by
 have pD:∀b o,X.s₀.heap.get? b=some o->b≠X.env.locals:=λb o e=>qas (qae (Heap.lt_size e) I.ok.above);have tr:∀b o,X.s₀.heap.get? b=some o->b∉X.ex->b∉ch:=λb o e ar au=>by
  rcases(lw b au).1 with z|z
  .exact ar z
  .exact absurd (qae (Heap.lt_size e) z) (qby _)
 have Av:∀x c,X.env.cells.lookup x=some c->∀v,s.heap.IsCell c v->h'.IsCell c v:=λx c e v ⟨o,b6,hd⟩=>by
  have qR:c∉ch:=λz=>(lw c z).2.2.1 x c e rfl
  by_cases a_:c∈X.fs
  .obtain⟨sl,q⟩:=slot c o (I.cne x c e) a_ qR b6 (I.freeC x c e);exact⟨_,q,hd⟩
  .exact⟨o,keep c o (I.cne x c e) a_ qR b6 (I.freeC x c e),hd⟩
 refine⟨I.ok,I.os,bR,⟨λb o e n au ar=>?_,λb o e n au ar=>?_,λb o e n ar=>?_,λb o e ar=>?_,λb xs e=>tups b xs (I.base.tups b xs e),λb o xs e=>frzs b o xs (I.base.frzs b o xs e),λb ci e=>?_⟩,?_,λx c e=>?_,?_,λx c e=>?_,λp bO=>?_,hok,I.len⟩
 .exact keep b o (pD b o e) au (tr b o e ar) (I.base.keep b o e n au ar) (I.base.free b o e n ar)
 .obtain⟨sl,bJ⟩:=I.base.slot b o e n au ar;obtain⟨qS,bX⟩:=slot b _ (pD b o e) au (tr b o e ar) bJ (I.base.free b o e n ar);exact⟨qS,bX⟩
 .obtain⟨cT,bJ⟩:=I.base.there b o e ar;exact free b cT (tr b o e ar) bJ (I.base.free b o e n ar)
 .obtain⟨cT,bJ⟩:=I.base.there b o e ar;exact there b cT (tr b o e ar) bJ
 .obtain⟨hg,bJ⟩:=I.base.tbls b ci e;obtain⟨h1,bX⟩:=tbls b _ bJ;exact⟨hg++h1,by rw[bX,Array.append_assoc]⟩
 .obtain⟨m,b',ap⟩:=I.loc;refine⟨m,ns m b',λi x v bJ bX dn=>?_⟩;obtain⟨u,r,l⟩:=ap i x v bJ bX dn;refine⟨u,r,?_⟩;rcases l with l|⟨k,c,e,z⟩
  .exact .inl l
  .exact .inr ⟨k,c,e,Av x c e _ z⟩
 .obtain⟨v,z⟩:=I.cell x c e;exact⟨v,Av x c e v z⟩
 .obtain⟨m,⟨o,_,_,b6,_⟩,_⟩:=I.loc;exact free _ o (λz=>(lw _ z).2.1 rfl) b6 I.free
 .obtain⟨v,o,b6,hd⟩:=I.cell x c e;exact free c o (λz=>(lw c z).2.2.1 x c e rfl) b6 (I.freeC x c e)
 .obtain⟨e,n,ne,pE,d⟩:=I.pin p bO;have qR:p.1∉ch:=λz=>(lw p.1 z).2.2.2 p bO rfl;exact⟨keep p.1 p.2 ne pE qR e n,free p.1 p.2 qR e n,ne,pE,d⟩
theorem Inv.un{t':Nat}(I:Inv X aq ao H s)(u:Un X.fs [] H aj s.heap h')(hok:HOk X.prog X.w aj h'):Inv X aq ao aj {s with heap:=h',toks:=t'}:=by
 obtain⟨m,⟨o,b7,ep,b6,r⟩,_⟩:=id I.loc;obtain⟨sl,gX⟩:=u.any b6 I.free (by simp);exact I.step (g':=s.gens) (d':=s.drawn) (ch:=[]) (λ_ z=>nomatch z) (λb o _ au _ e n=>u.keep b o e n au (by simp)) (λb o _ au _ e n=>u.slot b o e n au (by simp)) (λb o _ e n=>u.free b o e n (by simp)) (λb o _ e=>u.there b o e (by simp)) u.tups u.frzs u.tbls (λcH bL=>by
  obtain⟨cT,vX,vY,mj,c'⟩:=bL;rw[b6] at mj;cases mj;exact⟨_,vX,vY,gX,c'⟩) hok I.bare
theorem Inv.call{g':Array GenState}{t':Nat}{d':Drawn}{ch:List Addr}(I:Inv X aq ao H s)(u:Un (frs X.stack) ch H aj s.heap h')(hok:HOk X.prog X.w aj h')(bR:AllBare g')
  (lw:∀b∈ch,(b∈X.ex\/X.s₀.heap.objs.size<=b)/\b≠X.env.locals/\(∀x c,X.env.cells.lookup x=some c->c≠b)/\∀p∈X.pn++aq,p.1≠b):
  Inv X aq ao aj {s with heap:=h',gens:=g',drawn:=d',toks:=t'}:=by
 obtain⟨m,⟨o,b7,ep,b6,r⟩,_⟩:=id I.loc;obtain⟨sl,gX⟩:=u.any b6 I.free λz=>(lw _ z).2.1 rfl;exact I.step (ch:=ch) lw (λb o gX au a_ e n=>u.keep b o e n (λz=>(qaf.mp (I.stkSub b z)).elim gX au) a_) (λb o _ _ a_ e n=>u.any e n a_) (λb o a_ e n=>u.free b o e n a_) (λb o a_ e=>u.there b o e a_) u.tups u.frzs u.tbls (λcH bL=>by
  obtain⟨cT,vX,vY,mj,c'⟩:=bL;rw[b6] at mj;cases mj;exact⟨_,vX,vY,gX,c'⟩) hok bR
theorem Inv.turned{t':Nat}{it:Addr}(I:Inv X aq ao H s)(k:∀b o,b≠it->s.heap.get? b=some o->h'.get? b=some o)(b':H it=none)(gX:it≠X.env.locals)
  (ay:it∈X.ex\/X.s₀.heap.objs.size<=it) (aD:∀x c,X.env.cells.lookup x=some c->c≠it) (cj:∀p∈X.pn++aq,p.1≠it):Inv X aq ao H {s with heap:=h',toks:=t'}:=by
 have qT:∀b u,H b=some u->b≠it:=λb u e z=>by rw[z,b'] at e;cases e
 refine I.step (g':=s.gens) (d':=s.drawn) (ch:=[it]) (λb au=>?_) (λb o _ _ a_ e _=>k b o (λz=>a_ (by simp[z])) e) (λb o _ _ a_ e _=>⟨o.slots,k b o (λz=>a_ (by simp[z])) e⟩) (λ_ _ _ _ n=>n)
  (λb o a_ e=>⟨o,k b o (λz=>a_ (by simp[z])) e⟩) (λ_ _ e=>e) (λ_ _ _ e=>e) (λb ci e=>⟨#[],by rw[e];simp⟩) (λm bL=>?_) (λb u e=>?_) I.bare
 .have e:b=it:=by simpa using au
  subst e;exact⟨ay,gX,aD,cj⟩
 .obtain⟨o,b7,ep,b6,r⟩:=bL;exact⟨o,b7,ep,k _ o (qaY gX) b6,r⟩
 .refine(I.hok b u e).stay (λc v a_ q=>k c v ?_ q) (λ_ q=>q) λ_ _ q=>q;rcases a_ with z|z
  .rw[z];exact qT b u e
  .exact qT c _ z
theorem Inv.tok(I:Inv X aq ao H s)(t:Nat):Inv X aq ao H {s with toks:=t}:=I.un (h':=s.heap) (t':=t) Un.refl I.hok
theorem Inv.kept{t':Nat}(I:Inv X aq ao H s)(k:∀b u,s.heap.get? b=some u->h'.get? b=some u):Inv X aq ao H {s with heap:=h',toks:=t'}:=I.un (Un.kept k) (I.hok.kept k)
theorem Inv.laid{a:Addr}{o:HO}{t':Nat}(I:Inv X aq ao H s)(k:∀b u,s.heap.get? b=some u->h'.get? b=some u)(bO:s.heap.objs.size<=a)(new:Z3 X.prog X.w (upd H a o) h' a o):
  Inv X aq ao (upd H a o) {s with heap:=h',toks:=t'}:=I.un (Un.laid k bO (I.hok.fresh bO)) (I.hok.laid k bO new)
theorem Inv.write{x e:Addr}{o:HO}{t':Nat}(I:Inv X aq ao H s)(i9:Mut (H x))(b9:e=x\/H e=some (.own x))(k:∀b u,b≠e->s.heap.get? b=some u->h'.get? b=some u)(mh:∃u,h'.get? e=some u)
  (new:Z3 X.prog X.w (upd H x o) h' x o):Inv X aq ao (upd H x o) {s with heap:=h',toks:=t'}:=I.un (Un.write i9 b9 k mh) (I.hok.write i9 b9 k mh new)
theorem Inv.pins_of{lx:List (Addr×Obj)}(I:Inv X aq ao H s)(h:∀p∈lx,s.heap.get? p.1=some p.2/\H p.1=none/\p.1≠X.env.locals/\p.1∉X.fs/\∀v,p.2.data≠ .cell v):Inv X lx ao H s:=
 ⟨I.ok,I.os,I.bare,I.base,I.loc,I.cell,I.free,I.freeC,λp bO=>(qaD.mp bO).elim (λz=>I.pin p (qbe _ z)) (h p),I.hok,I.len⟩
theorem vZ{N:List Str}(eV:N.Nodup){i j:Nat}{x:Str}(a:N[i]? =some x)(b:N[j]? =some x):i=j:=by
 obtain⟨ay,bJ⟩:=qad.mp a;obtain⟨aD,bX⟩:=qad.mp b;exact(List.getElem_inj eV).mp (bJ.trans bX.symm)
theorem v0{M:Model}{A:Around}{E:Value->Shared->Prop}{i:Nat}{x:Str}{v:V}{u:Value}{Q:Unit->Shared->Prop}(I:Inv X aq ao H s)(eV:X.N.Nodup)(hi:X.N[i]? =some x)(ar:Loc X.env.scope x)(r:c4 v u)
  (h:∀s',Inv X aq (ao.set i (some v)) H s'->(∃a,Heap.SameBut a s.heap s'.heap/\(a=X.env.locals\/X.env.cells.lookup x=some a))->Q () s') (bS:X.fn x=true\/X.env.scope.names.lookup x=some .local:=by first|exact .inl rfl|exact .inr rfl|assumption):wpAny M A (storeName X.env x u) Q E s:=by
 obtain⟨m,b',ap⟩:=id I.loc;have v1:(X.env.scope.kind== .class||(X.env.scope.kind== .module&&X.env.locals != X.env.globals))=false:=by rw[I.ok.kind];rfl
 have Aw:i<ao.length:=by rw[I.len];exact(qad.mp hi).1
 have cne:=I.cne;have Ax:∀{a:Addr}{h':Heap},(∃o,s.heap.get? a=some o/\H a=none)->Heap.SameBut a s.heap h'->HOk X.prog X.w H h':=λ{a h'} bK hs b dj e=>by
  obtain⟨_,_,Ay⟩:=bK;refine(I.hok b dj e).stay (λc eH a_ q=>(hs.2 c ?_).trans q) (λ_ q=>q) λ_ _ q=>q;rintro rfl;rcases a_ with rfl|a_
  .rw[Ay] at e;cases e
  .rw[Ay] at a_;cases a_
 rcases ar with bH|bH
 .refine wpAny_storeName_local bH b' (λh' HW hs=>?_) v1;obtain⟨HX,_,_,HY,_⟩:=id b';refine h _ ⟨I.ok,I.os,I.bare,⟨λb o e n au ar=>?_,λb o e n au ar=>?_,I.base.free,λb o e ar=>?_,I.base.tups,I.base.frzs,I.base.tbls⟩,⟨_,HW,λj y iM bJ bX dn=>?_⟩,λy c e=>?_,I.free,I.freeC,λp bO=>?_,Ax ⟨HX,HY,I.free⟩ hs,by simpa using I.len⟩ ⟨_,hs,.inl rfl⟩
  .exact(hs.2 b (qas (qae (Heap.lt_size e) I.ok.above))).trans (I.base.keep b o e n au ar)
  .obtain⟨sl,bJ⟩:=I.base.slot b o e n au ar;exact⟨sl,(hs.2 b (qas (qae (Heap.lt_size e) I.ok.above))).trans bJ⟩
  .obtain⟨cT,bJ⟩:=I.base.there b o e ar;exact⟨cT,(hs.2 b (qas (qae (Heap.lt_size e) I.ok.above))).trans bJ⟩
  .by_cases bP:j=i
   .subst bP;rw[hi] at bJ;cases bJ;rw[qa1 Aw] at bX;cases bX;exact⟨u,r,.inl ⟨bH,by simp⟩⟩
   .rw[qbm (qaY bP)] at bX;obtain⟨ts,c',q⟩:=ap j y iM bJ bX dn;refine⟨ts,c',?_⟩;rcases q with⟨k,e⟩|⟨k,c,e,z⟩
    .refine .inl ⟨k,?_⟩;have:y≠x:=λe=>bP (vZ eV bJ (e▸hi));simp[this,e]
    .exact .inr ⟨k,c,e,z.sameBut hs (cne y c e)⟩
  .obtain⟨eH,z⟩:=I.cell y c e;exact⟨eH,z.sameBut hs (cne y c e)⟩
  .obtain⟨e,n,ne,pE,d⟩:=I.pin p bO;exact⟨(hs.2 p.1 ne).trans e,n,ne,pE,d⟩
 .have pF:X.fn x=true:=by
   rcases bS with z|z
   .exact z
   .rw[z] at bH;cases bH
  obtain⟨c,a_⟩:=I.ok.has x (.inl bH);obtain⟨eH,z⟩:=I.cell x c a_;refine wpAny_storeName_cell I.ok.kind bH a_ z (λh' ml hs=>?_);obtain⟨f4,Az,HZ⟩:=id z;refine h {s with heap:=h'} ⟨I.ok,I.os,I.bare,⟨λb o e n au ar=>?_,λb o e n au ar=>?_,I.base.free,λb o e ar=>?_,I.base.tups,I.base.frzs,I.base.tbls⟩,⟨m,b'.sameBut hs (qaY (cne x c a_)),λj y iM bJ bX dn=>?_⟩,λy d7 e=>?_,I.free,I.freeC,λp bO=>?_,Ax ⟨f4,Az,I.freeC x c a_⟩ hs,by simpa using I.len⟩ ⟨c,hs,.inr a_⟩
  .exact(hs.2 b (qas (qae (Heap.lt_size e) (I.ok.cab x c pF a_)))).trans (I.base.keep b o e n au ar)
  .obtain⟨sl,bJ⟩:=I.base.slot b o e n au ar;exact⟨sl,(hs.2 b (qas (qae (Heap.lt_size e) (I.ok.cab x c pF a_)))).trans bJ⟩
  .obtain⟨cT,bJ⟩:=I.base.there b o e ar;exact⟨cT,(hs.2 b (qas (qae (Heap.lt_size e) (I.ok.cab x c pF a_)))).trans bJ⟩
  .by_cases bP:j=i
   .subst bP;rw[hi] at bJ;cases bJ;rw[qa1 Aw] at bX;cases bX;exact⟨u,r,.inr ⟨.inl bH,c,a_,ml⟩⟩
   .rw[qbm (qaY bP)] at bX;obtain⟨ts,c',q⟩:=ap j y iM bJ bX dn;refine⟨ts,c',?_⟩;rcases q with q|⟨k,d7,e,gY⟩
    .exact .inl q
    .refine .inr ⟨k,d7,e,gY.sameBut hs ?_⟩;rintro rfl;exact bP (vZ eV bJ (I.ok.inj _ _ _ e a_▸hi))
  .by_cases n7:d7=c
   .subst n7;exact⟨_,ml⟩
   .obtain⟨j6,cO⟩:=I.cell y d7 e;exact⟨j6,cO.sameBut hs n7⟩
  .obtain⟨e,n,ne,pE,d⟩:=I.pin p bO;refine⟨(hs.2 p.1 ?_).trans e,n,ne,pE,d⟩;intro q;rw[q,Az] at e;have io:f4=p.2:=qaC e;exact d eH (by rw[<-io];exact HZ)
theorem qU{M:Model}{A:Around}{E:Value->Shared->Prop}{i:Nat}{x:Str}{v:V}{u:Value}{Q:Unit->Shared->Prop}(I:Inv X aq ao H s)(eV:X.N.Nodup)(hi:X.N[i]? =some x)(ar:Loc X.env.scope x)(r:c4 v u)
  (h:∀s',Inv X aq (ao.set i (some v)) H s'->Q () s') (bS:X.fn x=true\/X.env.scope.names.lookup x=some .local:=by first|exact .inl rfl|exact .inr rfl|assumption):wpAny M A (storeName X.env x u) Q E s:=
 v0 I eV hi ar r (λs' ek _=>h s' ek) bS
theorem Inv.call'{s':Shared}{ch:List Addr}(I:Inv X aq ao H s)(b6:s'.os=s.os)(u:Un (frs X.stack) ch H aj s.heap s'.heap)(hok:HOk X.prog X.w aj s'.heap)(bR:AllBare s'.gens)
  (lw:∀b∈ch,(b∈X.ex\/X.s₀.heap.objs.size<=b)/\b≠X.env.locals/\(∀x c,X.env.cells.lookup x=some c->c≠b)/\∀p∈X.pn++aq,p.1≠b):Inv X aq ao aj s':=by
 obtain⟨h',g',d',t',cT⟩:=s';have e:cT=s.os:=b6;subst e;exact I.call (g':=g') (t':=t') (d':=d') u hok bR lw
end
noncomputable abbrev XK:=Value->Option Addr->Hp->Prop
noncomputable abbrev St:=List (Option V)
noncomputable abbrev VK:=V->Hp->Prop
noncomputable abbrev TE:=St->Hp->VK->Prop
noncomputable abbrev TT:=St->Hp->(Bool->Hp->Prop)->Prop
noncomputable abbrev TA:=St->Hp->(List V->Hp->Prop)->Prop
structure Vd where
 nx:St->Hp->Prop
 rt:VK
 bk:St->Hp->Prop:=λ_ _=>False
 ct:St->Hp->Prop:=λ_ _=>False
noncomputable abbrev TS:=Vd->St->Hp->Prop
def EP(X:Cx)(aq:List (Addr×Obj))(ao:St)(Q:VK)(u:Value)(s':Shared):Prop:=∃v aj,Inv X aq ao aj s'/\c4 v u/\Q v aj
def TP(X:Cx)(aq:List (Addr×Obj))(ao:St)(Q:Bool->Hp->Prop)(b:Bool)(s':Shared):Prop:=∃aj,Inv X aq ao aj s'/\Q b aj
def AP(X:Cx)(aq:List (Addr×Obj))(ao:St)(Q:List V->Hp->Prop)(us:List Value)(s':Shared):Prop:=∃vs aj,Inv X aq ao aj s'/\cW vs us/\Q vs aj
def SP(X:Cx)(aq:List (Addr×Obj))(D:Vd)(f:Flow)(s':Shared):Prop:=
 match f with
 | .next=>∃b1 aj,Inv X aq b1 aj s'/\D.nx b1 aj
 | .brk=>∃b1 aj,Inv X aq b1 aj s'/\D.bk b1 aj
 | .cont=>∃b1 aj,Inv X aq b1 aj s'/\D.ct b1 aj
 | .ret u=>∃v b1 aj,Inv X aq b1 aj s'/\c4 v u/\D.rt v aj
def PE(X:Cx)(e:Expr)(t:TE):Prop:=
 ∀(aq:List (Addr×Obj))(s:Shared)(ao:St)(H:Hp)(Q:VK),Inv X aq ao H s->t ao H Q->wpAny (model X.prog X.w) X.A (eval e X.env) (EP X aq ao Q) X.xe s
def PT(X:Cx)(e:Expr)(t:TT):Prop:=
 ∀(aq:List (Addr×Obj))(s:Shared)(ao:St)(H:Hp)(Q:Bool->Hp->Prop),Inv X aq ao H s->t ao H Q->wpAny (model X.prog X.w) X.A (isTrue e X.env (eval e X.env)) (TP X aq ao Q) X.xe s
def PW(X:Cx)(e:Expr)(t:TT):Prop:=
 ∀(n8:Sem Value)(aq:List (Addr×Obj))(s:Shared)(ao:St)(H:Hp)(Q:Bool->Hp->Prop),Inv X aq ao H s->t ao H Q->wpAny (model X.prog X.w) X.A (isTrue e X.env n8) (TP X aq ao Q) X.xe s
theorem PW.pt{X:Cx}{e:Expr}{t:TT}(h:PW X e t):PT X e t:=h _
def PA(X:Cx)(b7:List Expr)(t:TA):Prop:=
 ∀(pos:Pos)(aq:List (Addr×Obj))(s:Shared)(ao:St)(H:Hp)(Q:List V->Hp->Prop),Inv X aq ao H s->t ao H Q->wpAny (model X.prog X.w) X.A (spliced (backTo pos (starEach b7 X.env))) (AP X aq ao Q) X.xe s
def PS(X:Cx)(st:Stmt)(t:TS):Prop:=
 ∀(aq:List (Addr×Obj))(s:Shared)(ao:St)(H:Hp)(D:Vd),Inv X aq ao H s->t D ao H->wpAny (model X.prog X.w) X.A (exec st X.env) (SP X aq D) X.xe s
def PSs(X:Cx)(st:List Stmt)(t:TS):Prop:=
 ∀(aq:List (Addr×Obj))(s:Shared)(ao:St)(H:Hp)(D:Vd),Inv X aq ao H s->t D ao H->wpAny (model X.prog X.w) X.A (execs st X.env) (SP X aq D) X.xe s
theorem thn{cX:Type}{t:Sem cX}{Q n9:cX->Shared->Prop}{M:Model}{A:Around}{E:Value->Shared->Prop}{s:Shared}(h:wpAny M A t Q E s)(fH:∀a s,Q a s->n9 a s):wpAny M A t n9 E s:=wpAny_mono h fH λ_ _ x=>x
section
variable {X:Cx}
theorem bin{a b:Expr}{cp cN:TE}(bK:PE X a cp)(au:PE X b cN){aq:List (Addr×Obj)}{s:Shared}{ao:St}{H:Hp}{R:V->V->Hp->Prop}(I:Inv X aq ao H s)(h:cp ao H λx aA=>cN ao aA λy aP=>R x y aP)
  {cX:Type} {Q:cX->Shared->Prop} {f:Value->Value->Sem cX}
  (bS:∀v u bQ x y aP,Inv X aq ao aP bQ->c4 x v->c4 y u->R x y aP->wpAny (model X.prog X.w) X.A (f v u) Q X.xe bQ):
  wpAny (model X.prog X.w) X.A (eval a X.env) (λv dL=>wpAny (model X.prog X.w) X.A (eval b X.env) (λu j7=>wpAny (model X.prog X.w) X.A (f v u) Q X.xe j7) X.xe dL) X.xe s:=by
 refine thn (bK aq s ao H _ I h) λv a' ⟨x,aA,bT,cE,cJ⟩=>?_;refine thn (au aq a' ao aA _ bT cJ) λu bQ ⟨y,aP,cU,cY,cP⟩=>?_;exact bS v u bQ x y aP cU cE cY cP
def ZiN (i:Nat):TE:=λao H Q=>∃v,ao[i]? =some (some v)/\Q v H
def tC (v:V):TE:=λ_ H Q=>Q v H
theorem Znl{i:Nat}{x:Str}{pos:Pos}(eV:X.N[i]? =some x)(cz:Vis X.env.scope x)(hd:(x==("__debug__" :Str))=false:=by decide)(gi:(x==("__classdict__" :Str))=false:=by decide):PE X (.Name x pos) (ZiN i):=by
 intro aq s ao H Q I h;obtain⟨v,e,h⟩:=h;obtain⟨m,b',ap⟩:=I.loc;obtain⟨u,r,l⟩:=ap i x v eV e cz;have fI:EP X aq ao Q u s:=⟨v,H,I,r,h⟩;rcases l with⟨bH,bL⟩|⟨bH,c,a_,nf⟩
 .exact wpAny_Name (wpAny_loadName_local I.ok.kind bH b' bL fI) hd
 .rcases bH with bH|bH
  .exact wpAny_Name (wpAny_loadName_cell I.ok.kind bH a_ nf fI) hd
  .exact wpAny_Name (wpAny_loadName_free I.ok.kind bH a_ nf fI gi) hd
theorem bM{i j pos}:PE X (.Constant (.int i) j pos) (tC (.int i)):=λ_ _ _ H _ I h=>wpAny_Constant_int ⟨.int i,H,I.tok _,⟨_,rfl⟩,h⟩
theorem Wr{b j pos}:PE X (.Constant (.bool b) j pos) (tC (.bl b)):=λ_ _ _ H _ I h=>Constant_bool ⟨.bl b,H,I,rfl,h⟩
theorem Ue{j pos}:PE X (.Constant .none j pos) (tC .non):=λ_ _ _ H _ I h=>Constant_none ⟨.non,H,I,rfl,h⟩
theorem Yo{x j pos}:PE X (.Constant (.str x) j pos) (tC (.str x)):=λ_ _ _ H _ I h=>Calls.Constant_str ⟨.str x,H,I.tok _,⟨_,rfl⟩,h⟩
def Gl(X:Cx)(x:Str):Prop:=X.env.kindOf x=some .globalImplicit
theorem mn{E:Value->Shared->Prop}{aq:List (Addr×Obj)}{s:Shared}{ao:St}{H:Hp}{x:Str}{u:Value}{pos:Pos}{Q:Value->Shared->Prop}(I:Inv X aq ao H s)(bR:Gl X x)(bL:X.mg x=some u)(h:Q u s)
  (hd:(x==("__debug__" :Str))=false:=by decide):wpAny (model X.prog X.w) X.A (eval (.Name x pos) X.env) Q E s:=
 Calls.Name_function_global I.ok.kind bR (Calls.loadGlobal_global (by rw[I.ok.glob];exact I.mod.glob.keeps I.bk) bL h) hd
theorem ly{E:Value->Shared->Prop}{aq:List (Addr×Obj)}{s:Shared}{ao:St}{H:Hp}{x:Str}{u:Value}{pos:Pos}{Q:Value->Shared->Prop}(I:Inv X aq ao H s)(bR:Gl X x)(bL:X.mg x=none)(cz:bootBuiltins x=some u)(h:Q u s)
  (b':x≠"__name__" :=by decide) (hd:(x==("__debug__" :Str))=false:=by decide):wpAny (model X.prog X.w) X.A (eval (.Name x pos) X.env) Q E s:=by
 obtain⟨j5,ay,aD⟩:=I.mod.blt;exact Calls.Name_function_global I.ok.kind bR (Calls.loadGlobal_builtin (by rw[I.ok.glob];exact I.mod.glob.keeps I.bk) bL (by rw[I.ok.blt];exact ay.keeps I.bk) ((aD x b').trans cz) h) hd
theorem ng{x:Str}{v:V}{u:Value}{pos:Pos}(bR:Gl X x)(bL:X.mg x=some u)(r:c4 v u)(hd:(x==("__debug__" :Str))=false:=by decide):PE X (.Name x pos) (tC v):=
 λ_ _ _ H _ I h=>mn I bR bL ⟨v,H,I,r,h⟩ hd
theorem jA{x:Str}{v:V}{u:Value}{pos:Pos}(bR:Gl X x)(bL:X.mg x=none)(cz:bootBuiltins x=some u)(r:c4 v u)(b':x≠"__name__" :=by decide)(hd:(x==("__debug__" :Str))=false:=by decide):PE X (.Name x pos) (tC v):=
 λ_ _ _ H _ I h=>ly I bR bL cz ⟨v,H,I,r,h⟩ b' hd
variable {a b:Expr}{cp cN:TE}{pos:Pos}
variable {gZ tt:TT}{rest:List Expr}
def AA (t u:TT):TT:=λao H Q=>t ao H λc aA=>if c=true then u ao aA Q else Q false aA
def tOr (t u:TT):TT:=λao H Q=>t ao H λc aA=>if c=true then Q true aA else u ao aA Q
def AB (t:TT):TT:=λao H Q=>t ao H λc aA=>Q (!c) aA
theorem v2(bK:PT X a gZ):PW X (.BoolOp .And [a] pos) gZ:=by
 intro mo aq s ao H Q I h;refine isTrue_and (thn (bK aq s ao H Q I h) λc a' e=>?_);cases c with
 |true=>exact isTrue_and_nil e
 |false=>exact e
theorem mq(bK:PT X a gZ):PW X (.BoolOp .Or [a] pos) gZ:=by
 intro mo aq s ao H Q I h;refine isTrue_or (thn (bK aq s ao H Q I h) λc a' e=>?_);cases c with
 |false=>exact isTrue_or_nil e
 |true=>exact e
theorem v3(bK:PT X a gZ)(au:PW X (.BoolOp .And (b::rest) pos) tt):PW X (.BoolOp .And (a::b::rest) pos) (AA gZ tt):=by
 intro mo aq s ao H Q I h;refine isTrue_and (thn (bK aq s ao H _ I h) λc a' ⟨aA,bT,cJ⟩=>?_);cases c with
 |true=>exact au mo aq a' ao aA Q bT cJ
 |false=>exact⟨aA,bT,cJ⟩
theorem jB(bK:PT X a gZ)(au:PW X (.BoolOp .Or (b::rest) pos) tt):PW X (.BoolOp .Or (a::b::rest) pos) (tOr gZ tt):=by
 intro mo aq s ao H Q I h;refine isTrue_or (thn (bK aq s ao H _ I h) λc a' ⟨aA,bT,cJ⟩=>?_);cases c with
 |true=>exact⟨aA,bT,cJ⟩
 |false=>exact au mo aq a' ao aA Q bT cJ
theorem hh(bK:PT X a gZ):PT X (.UnaryOp .Not a pos) (AB gZ):=by
 intro aq s ao H Q I h;exact isTrue_not (bK aq s ao H (λc aA=>Q (!c) aA) I h)
def AC (cp cN:TE):TE:=λao H Q=>cp ao H λx aA=>∃c,x= .bl c/\if c=true then cN ao aA Q else Q (.bl false) aA
def AD (cp:TE):TE:=λao H Q=>cp ao H λx aA=>∃c,x= .bl c/\Q (.bl (!c)) aA
theorem tv{op}{t:TE}(h:PE X a t):PE X (.BoolOp op [a] pos) t:=λaq s ao H Q I hw=>BoolOp_one (h aq s ao H Q I hw)
theorem qV(bK:PE X a cp)(au:PE X (.BoolOp .And (b::rest) pos) cN):PE X (.BoolOp .And (a::b::rest) pos) (AC cp cN):=by
 intro aq s ao H Q I h;refine BoolOp_and (thn (bK aq s ao H _ I h) λv a' ⟨x,aA,bT,cE,cJ⟩=>?_);obtain⟨c,rfl,cJ⟩:=cJ;cases cE;refine wpAny_truthy_bool ?_;cases c with
 |true=>exact au aq a' ao aA Q bT cJ
 |false=>exact⟨.bl false,aA,bT,rfl,cJ⟩
theorem AE(bK:PE X a cp):PE X (.UnaryOp .Not a pos) (AD cp):=by
 intro aq s ao H Q I h;refine UnaryOp_ (thn (bK aq s ao H _ I h) λv a' ⟨x,aA,bT,cE,cJ⟩=>?_);obtain⟨c,rfl,cJ⟩:=cJ;cases cE;exact not_of (wpAny_truthy_bool ⟨.bl (!c),aA,bT,rfl,cJ⟩)
def tIf (t:TT) (cp cN:TE):TE:=λao H Q=>t ao H λc aA=>if c=true then cp ao aA Q else cN ao aA Q
theorem H1{c:Expr}(a_:PT X c gZ)(bK:PE X a cp)(au:PE X b cN):PE X (.IfExp c a b pos) (tIf gZ cp cN):=by
 intro aq s ao H Q I h;refine wpAny_IfExp (thn (a_ aq s ao H _ I h) λd a' ⟨aA,bT,cJ⟩=>?_);cases d with
 |true=>exact bK aq a' ao aA Q bT cJ
 |false=>exact au aq a' ao aA Q bT cJ
end
def SqL(K:Frag)(H:Hp)(a:Addr)(xs:List V):Prop:=
 Rd H a (.lst xs)\/
  ∃(o:Obj)(its:Array Value)(n:Nat),K.lookup a=some o/\o.cls= .type "list" /\o.dict=none/\o.data= .seq its n/\its.size<=sizeLine/\cW xs its.toList
def SqT(K:Frag)(H:Hp)(a:Addr)(xs:List V):Prop:=
 Rd H a (.tup xs)\/
  ∃(o:Obj)(its:Array Value)(n:Nat),K.lookup a=some o/\o.cls= .type "tuple" /\o.data= .seq its n/\its.size<=sizeLine/\cW xs its.toList
noncomputable def H2:Value->Option V
 | .none=>some .non
 | .bool b=>some (.bl b)
 | .int i _=>some (.int i)
 | .str x _=>some (.str x)
 | .bytes b _=>some (.byt b)
 | .float b _=>some (.flt b)
 | .ref a=>some (.ref a)
 | .type n=>some (.ty n)
 |_=>none
theorem c4.abs{x:V}{u:Value}(r:c4 x u):H2 u=some x:=by
 cases x with
 |non=>cases r;rfl
 |bl _=>cases r;rfl
 |int _=>obtain⟨t,rfl⟩:=r;rfl
 |str _=>obtain⟨t,rfl⟩:=r;rfl
 |byt _=>obtain⟨t,rfl⟩:=r;rfl
 |flt _=>obtain⟨t,rfl⟩:=r;rfl
 |ref _=>cases r;rfl
 |ty _=>cases r;rfl
theorem c4.inj{x y:V}{u:Value}(r:c4 x u)(q:c4 y u):x=y:=qaC (r.abs.symm.trans q.abs)
theorem cW.inj:∀{xs ys:List V}{us:List Value},cW xs us->cW ys us->xs=ys
 |_,_,_,.nil,.nil=>rfl
 |_,_,_,.cons r t,.cons c' t'=>by rw[r.inj c',cW.inj t t']
section
variable {X:Cx}{aq:List (Addr×Obj)}{ao:St}{H:Hp}{s:Shared}{a:Addr}{xs ys:List V}
theorem SqL.of{K:Frag}(h:H a=some (.lst xs)):SqL K H a xs:= .inl (.inl h)
theorem SqT.of{K:Frag}(h:H a=some (.tup xs)):SqT K H a xs:= .inl (.inl h)
theorem Inv.list(I:Inv X aq ao H s)(h:SqL X.K H a xs):∃its:List Value,cW xs its/\PlainL s.heap a its.toArray/\xs.length<=sizeLine:=by
 rcases h with h|⟨o,its,n,bH,a_,hd,hs,bU,r⟩
 .obtain⟨z,its,n,r,e⟩:=h.ok I.hok;exact⟨its,r,⟨_,n,e,rfl,rfl,rfl⟩,z⟩
 .refine⟨its.toList,r,⟨o,n,I.kIn a o bH,a_,hd,by simpa using hs⟩,?_⟩;have e:=r.length;simp only[qbL] at e;omega
theorem Inv.tuple(I:Inv X aq ao H s)(h:SqT X.K H a xs):∃its:List Value,cW xs its/\IsTup s.heap a its.toArray/\xs.length<=sizeLine:=by
 rcases h with h|⟨o,its,n,bH,a_,hs,bU,r⟩
 .obtain⟨z,its,r,p⟩:=h.ok I.hok;exact⟨its,r,p,z⟩
 .refine⟨its.toList,r,⟨o,I.kIn a o bH,a_,n,by simpa using hs⟩,?_⟩;have e:=r.length;simp only[qbL] at e;omega
theorem Inv.list_inj(I:Inv X aq ao H s)(h:SqL X.K H a xs)(h':SqL X.K H a ys):xs=ys:=by
 obtain⟨its,r,⟨o,n,e,_,_,d⟩,_⟩:=I.list h;obtain⟨its',c',⟨cT,fJ,cv,_,_,d'⟩,_⟩:=I.list h';rw[e] at cv;cases cv;rw[d] at d'
 injection d' with i_ _
 have:its=its':=by simpa using congrArg Array.toList i_
 subst this;exact r.inj c'
theorem Inv.tuple_inj(I:Inv X aq ao H s)(h:SqT X.K H a xs)(h':SqT X.K H a ys):xs=ys:=by
 obtain⟨its,r,⟨o,e,_,n,d⟩,_⟩:=I.tuple h;obtain⟨its',c',⟨cT,cv,_,fJ,d'⟩,_⟩:=I.tuple h';rw[e] at cv;cases cv;rw[d] at d'
 injection d' with i_ _
 have:its=its':=by simpa using congrArg Array.toList i_
 subst this;exact r.inj c'
end
section
variable {X:Cx}{st:Stmt}{rest:List Stmt}{t u:TS}{e:Expr}{cM:TE}{pos:Pos}
def tNext:TS:=λD ao H=>D.nx ao H
def AF (t u:TS):TS:=λD ao H=>t {D with nx:=u D} ao H
theorem dV:PSs X [] tNext:=λ_ _ ao H _ I h=>wpAny_execs_nil ⟨ao,H,I,h⟩
theorem bN(ay:PS X st t)(aD:PSs X rest u):PSs X (st::rest) (AF t u):=by
 intro aq s ao H D I h;refine wpAny_execs_cons (thn (ay aq s ao H {D with nx:=u D} I h) λf a' q=>?_);cases f with
 |next=>
  obtain⟨b1,aj,ek,q⟩:=q;exact aD aq a' b1 aj D ek q
 |ret v=>exact q
 |brk=>exact q
 |cont=>exact q
theorem b0(ay:PS X st t):PSs X [st] t:=by
 intro aq s ao H D I h;refine wpAny_execs_cons (thn (ay aq s ao H D I h) λf a' q=>?_);cases f with
 |next=>exact wpAny_execs_nil q
 |ret v=>exact q
 |brk=>exact q
 |cont=>exact q
theorem Inv.quiet{aq:List (Addr×Obj)}{ao:St}{H:Hp}{s:Shared}(I:Inv X aq ao H s):interactive X.env=false:=by simp[interactive,I.ok.kind]
def AG (cM:TE):TS:=λD ao H=>cM ao H λ_ aA=>D.nx ao aA
theorem et(b9:PE X e cM)(hs:swapsWith e none pos.line X.env=pure false:=by rfl):PS X (.Expr e pos) (AG cM):=by
 intro aq s ao H D I h;exact wpAny_Expr_any (thn (b9 aq s ao H _ I h) λv a' ⟨x,aA,bT,cE,cJ⟩=>⟨ao,aA,bT,cJ⟩) I.quiet hs
def AH (cM:TE):TS:=λD ao H=>cM ao H D.rt
theorem c9(b9:PE X e cM):PS X (.Return (some e) pos) (AH cM):=by
 intro aq s ao H D I h;exact wpAny_Return_some (thn (b9 aq s ao H _ I h) λv a' ⟨x,aA,bT,cE,cJ⟩=>⟨x,ao,aA,bT,cE,cJ⟩)
def AI (c:TT) (t u:TS):TS:=λD ao H=>c ao H λb aA=>if b=true then t D ao aA else u D ao aA
theorem dO{c:Expr}{a b:List Stmt}{dP:TT}(a_:PT X c dP)(bK:PSs X a t)(au:PSs X b u):PS X (.If c a b pos) (AI dP t u):=by
 intro aq s ao H D I h;refine wpAny_If (thn (a_ aq s ao H _ I h) λd a' ⟨aA,bT,cJ⟩=>?_);cases d with
 |true=>exact bK aq a' ao aA D bT cJ
 |false=>exact au aq a' ao aA D bT cJ
def tNever:TS:=λ_ _ _=>False
theorem H3:PS X st tNever:=λ_ _ _ _ _ _ h=>h.elim
end
noncomputable abbrev TG:=V->St->Hp->(St->Hp->Prop)->Prop
noncomputable abbrev TGs:=List V->St->Hp->(St->Hp->Prop)->Prop
def PG(X:Cx)(target:Expr)(t:TG):Prop:=
 ∀(aq:List (Addr×Obj))(s:Shared)(ao:St)(H:Hp)(v:V)(u:Value)(Q:St->Hp->Prop),Inv X aq ao H s->c4 v u->t v ao H Q->
  wpAny (model X.prog X.w) X.A (assign target X.env u) (λ_ s'=>∃b1 aj,Inv X aq b1 aj s'/\Q b1 aj) X.xe s
def PGs(X:Cx)(du:List Expr)(t:TGs):Prop:=
 ∀(aq:List (Addr×Obj))(s:Shared)(ao:St)(H:Hp)(vs:List V)(us:List Value)(Q:St->Hp->Prop),Inv X aq ao H s->cW vs us->t vs ao H Q->
  wpAny (model X.prog X.w) X.A (assignInOrder ((assignEach du X.env).map (·.2)) us) (λ_ s'=>∃b1 aj,Inv X aq b1 aj s'/\Q b1 aj) X.xe s
noncomputable abbrev ZdH:=V->V->V->Hp->(Hp->Prop)->Prop
def Zjh(X:Cx)(t:ZdH):Prop:=
 ∀(aq:List (Addr×Obj))(s:Shared)(ao:St)(H:Hp)(o i v:V)(dE gP u:Value)(Q:Hp->Prop),Inv X aq ao H s->c4 o dE->c4 i gP->c4 v u->t o i v H Q->
  wpAny (model X.prog X.w) X.A (setItem dE gP u) (λ_ s'=>∃aj,Inv X aq ao aj s'/\Q aj) X.xe s
noncomputable abbrev TIp:=V->V->Hp->VK->Prop
def PIp(X:Cx)(op:Operator)(t:TIp):Prop:=
 ∀(aq:List (Addr×Obj))(s:Shared)(ao:St)(H:Hp)(x y:V)(v u:Value)(Q:VK),Inv X aq ao H s->c4 x v->c4 y u->t x y H Q->
  wpAny (model X.prog X.w) X.A (inplaceOp op v u) (EP X aq ao Q) X.xe s
section
variable {X:Cx}{pos:Pos}
def UE (i:Nat):TG:=λv ao H Q=>Q (ao.set i (some v)) H
theorem cr{i:Nat}{x:Str}(eV:X.N.Nodup)(hi:X.N[i]? =some x)(ar:Loc X.env.scope x)(bS:X.fn x=true\/X.env.scope.names.lookup x=some .local:=by first|exact .inl rfl|exact .inr rfl|assumption):PG X (.Name x pos) (UE i):=by
 intro aq s ao H v u Q I r h;exact wpAny_assign_Name (qU I eV hi ar r (λs' ek=>⟨_,H,ek,h⟩) bS)
def gNil:TGs:=λvs ao H Q=>vs=[]/\Q ao H
def AJ (t:TG) (u:TGs):TGs:=λvs ao H Q=>∃v r,vs=v::r/\t v ao H λb1 aj=>u r b1 aj Q
theorem e0:PGs X [] gNil:=by
 intro aq s ao H vs us Q I r h;obtain⟨e,h⟩:=h;subst e;cases r;exact assignInOrder_nil ⟨ao,H,I,h⟩
theorem c_{e:Expr}{b7:List Expr}{t:TG}{u:TGs}(ay:PG X e t)(aD:PGs X b7 u)
  (hs:(assignEach (e::b7) X.env).map (·.2)=assign e X.env::(assignEach b7 X.env).map (·.2):=by rfl):PGs X (e::b7) (AJ t u):=by
 intro aq s ao H vs us Q I r h;obtain⟨v,TC,bJ,h⟩:=h;subst bJ;cases r with
 |cons r e'=>
  rw[hs];refine assignInOrder_cons (thn (ay aq s ao H _ _ _ I r h) λ_ a' ⟨pG,aA,bT,cJ⟩=>?_);exact aD aq a' pG aA _ _ Q bT e' cJ
def v4 (K:Frag) (n:Nat) (t:TGs):TG:=λv ao H Q=>∃a xs,v= .ref a/\SqT K H a xs/\xs.length=n/\t xs ao H Q
theorem ZnX{b7:List Expr}{k:Nat}{t:TGs}{n:Nat}(a_:X.calm=true)(h:PGs X b7 t)
  (b':(assignEach b7 X.env).length=n:=by rfl) (dM:(assignEach b7 X.env).findIdx? (·.1)=none:=by rfl):PG X (.Tuple b7 k pos) (v4 X.K n t):=by
 intro aq s ao H v u Q I r hw;obtain⟨a,xs,bJ,cC,ap,hw⟩:=hw;subst bJ;cases r;obtain⟨its,dC,bY,bU⟩:=I.tuple cC;refine assign_Tuple_tuple (I.ok.hd a_) bY (by simp[b',<-ap,dC.length]) dM λh' ar=>?_;have bT:Inv X aq ao H {s with heap:=h'}:=I.kept (t':=s.toks) λb o e=>ar b o (qas (Heap.lt_size e)) e;exact h aq _ ao H xs _ Q bT (by simpa using dC) hw
def AK (to ti:TE) (t:ZdH):TG:=λv ao H Q=>to ao H λo aA=>ti ao aA λi aP=>t o i v aP λb5=>Q ao b5
theorem iN{o i:Expr}{to ti:TE}{t:ZdH}(b6:PE X o to)(hi:PE X i ti)(hs:Zjh X t)
  (bK:∀v,assign (.Subscript o i pos) X.env v=(do
   let dE<-holding [v] (eval o X.env)
   let gP<-holding [v,dE] (eval i X.env)
   standAt pos
   holding [v,dE,gP] (setItem dE gP v)
   release [v,dE,gP] []):=by intro _;rfl):PG X (.Subscript o i pos) (AK to ti t):=by
 intro aq s ao H v u Q I r h;rw[bK];refine wpAny_bind (wpAny_holding (thn (b6 aq s ao H _ I h) λdE a' ⟨x,aA,bT,cE,cJ⟩=>?_));refine wpAny_bind (wpAny_holding (thn (hi aq a' ao aA _ bT cJ) λgP bQ ⟨y,aP,cU,cY,cP⟩=>?_));refine wpAny_bind (wpAny_standAt (wpAny_bind (wpAny_holding (thn (hs aq bQ ao aP x y v dE gP u _ cU cE cY r cP) λ_ bV ⟨b5,d_,gJ⟩=>?_))));exact wpAny_release ⟨ao,b5,d_,gJ⟩
def qW (cM:TE) (g:TG):TS:=λD ao H=>cM ao H λx aA=>g x ao aA D.nx
theorem hN{c5 e:Expr}{cM:TE}{g:TG}(b9:PE X e cM)(bR:PG X c5 g)(hs:swapsWithSole [c5] e pos.line X.env=pure false:=by rfl)(hw:swappedStores [c5] e X.env=pure none:=by rfl)
  (ay:(assignEach [c5] X.env).map (·.2)=[assign c5 X.env]:=by rfl):PS X (.Assign [c5] e pos) (qW cM g):=by
 intro aq s ao H D I h;refine wpAny_Assign_stores (thn (b9 aq s ao H _ I h) λv a' ⟨x,aA,bT,cE,cJ⟩=>?_) hs hw;rw[ay];exact thn (bR aq a' ao aA x v _ bT cE cJ) λ_ bQ q=>q
theorem cA{i:Nat}{x:Str}{e:Expr}{cM:TE}{kH:Pos}(eV:X.N.Nodup)(hi:X.N[i]? =some x)(ar:Loc X.env.scope x)(b9:PE X e cM)(hs:swapsWith e (some (.Name x kH)) pos.line X.env=pure false:=by rfl)(bS:X.fn x=true\/X.env.scope.names.lookup x=some .local:=by first|exact .inl rfl|exact .inr rfl|assumption):
  PS X (.Assign [.Name x kH] e pos) (qW cM (UE i)):=by
 intro aq s ao H D I h;refine wpAny_Assign_Name (thn (b9 aq s ao H _ I h) λv a' ⟨y,aA,bT,cE,cJ⟩=>?_) hs;exact qU bT eV hi ar cE (λbQ cU=>⟨_,aA,cU,cJ⟩) bS
def H4 (i:Nat) (cM:TE) (ti:TIp):TS:=λD ao H=>∃x,ao[i]? =some (some x)/\cM ao H λy aA=>ti x y aA λz aP=>D.nx (ao.set i (some z)) aP
theorem AL{i:Nat}{x:Str}{e:Expr}{cM:TE}{op:Operator}{ti:TIp}{kH:Pos}(eV:X.N.Nodup)(hi:X.N[i]? =some x)(ar:Loc X.env.scope x)(b9:PE X e cM)(b6:PIp X op ti)(bS:X.fn x=true\/X.env.scope.names.lookup x=some .local:=by first|exact .inl rfl|exact .inr rfl|assumption):
  PS X (.AugAssign (.Name x kH) op e pos) (H4 i cM ti):=by
 intro aq s ao H D I h;obtain⟨v,bJ,h⟩:=h;obtain⟨m,b',ap⟩:=I.loc;have H5:Vis X.env.scope x:=by rcases ar with k|k;exact .inl k;exact .inr (.inl k)
 obtain⟨u,r,l⟩:=ap i x v hi bJ H5;refine wpAny_AugAssign_Name ?_;have go:wpAny (model X.prog X.w) X.A (eval e X.env) (λw j7=>wpAny (model X.prog X.w) X.A (inplaceOp op u w) (λr iO=>wpAny (model X.prog X.w) X.A (storeName X.env x r) (λ_=>SP X aq D .next) X.xe iO) X.xe j7) X.xe s:=by
  refine thn (b9 aq s ao H _ I h) λw a' ⟨y,aA,bT,cE,cJ⟩=>?_;refine thn (b6 aq a' ao aA v y u w _ bT r cE cJ) λz bQ ⟨TD,aP,cU,cY,cP⟩=>?_;exact qU cU eV hi ar cY (λbV d_=>⟨_,aP,d_,cP⟩) bS
 rcases l with⟨bH,bL⟩|⟨bH,c,a_,nf⟩
 .exact wpAny_loadName_local I.ok.kind bH b' bL go
 .rcases bH with bH|bH
  .exact wpAny_loadName_cell I.ok.kind bH a_ nf go
  .rcases ar with k|k
   .have:X.env.scope.names.lookup x=some .free:=bH;rw[k] at this;cases this
   .have:X.env.scope.names.lookup x=some .free:=bH;rw[k] at this;cases this
def AM (to ti cM:TE) (n_:V->V->Hp->VK->Prop) (n':TIp) (oa:ZdH):TS:=λD ao H=>to ao H λo aA=>ti ao aA λi aP=>n_ o i aP λx b5=>cM ao b5 λy bZ=>n' x y bZ λz b4=>oa o i z b4 λcZ=>D.nx ao cZ
def Zl3(X:Cx)(t:V->V->Hp->VK->Prop):Prop:=
 ∀(aq:List (Addr×Obj))(s:Shared)(ao:St)(H:Hp)(o i:V)(dE gP:Value)(Q:VK),Inv X aq ao H s->c4 o dE->c4 i gP->t o i H Q->
  wpAny (model X.prog X.w) X.A (getItem dE gP) (EP X aq ao Q) X.xe s
theorem tw{o i e:Expr}{to ti cM:TE}{n_:V->V->Hp->VK->Prop}{n':TIp}{oa:ZdH}{op:Operator}{kI:Pos}(b6:PE X o to)(hi:PE X i ti)(bR:Zl3 X n_)(b9:PE X e cM)(bO:PIp X op n')(hs:Zjh X oa)
  (bK:∀dE gP new,augStore i dE gP new=(do holding [new,dE,gP] (setItem dE gP new);release [new,dE,gP] [];pure .next):=by intros;rfl):PS X (.AugAssign (.Subscript o i kI) op e pos) (AM to ti cM n_ n' oa):=by
 intro aq s ao H D I h;refine wpAny_AugAssign_SubscriptAny (thn (b6 aq s ao H _ I h) λdE a' ⟨x1,aA,bT,cE,cJ⟩=>?_) bK;refine thn (hi aq a' ao aA _ bT cJ) λgP bQ ⟨x2,aP,cU,cY,cP⟩=>?_;refine thn (bR aq bQ ao aP x1 x2 dE gP _ cU cE cY cP) λjC bV ⟨x3,b5,d_,iq,gJ⟩=>?_;refine thn (b9 aq bV ao b5 _ d_ gJ) λv cd ⟨x4,bZ,ob,i',qX⟩=>?_;refine thn (bO aq cd ao bZ x3 x4 jC v _ ob iq i' qX) λnew cB ⟨x5,b4,iP,qY,qZ⟩=>?_;exact thn (hs aq cB ao b4 x1 x2 x5 dE gP new _ iP cE cY qY qZ) λ_ c8 ⟨cZ,g0,v5⟩=>⟨ao,cZ,g0,v5⟩
def ipI (f:Int->Int->Int):TIp:=λx y H Q=>∃i j,x= .int i/\y= .int j/\Q (.int (f i j)) H
theorem q0:PIp X .Add (ipI λi j=>i+j):=by
 intro aq s ao H x y v u Q I cE cY h;obtain⟨i,j,bJ,bX,q⟩:=h;subst bJ;subst bX;obtain⟨t,rfl⟩:=cE;obtain⟨t',rfl⟩:=cY;exact iadd_int ⟨.int _,H,I.tok _,⟨_,rfl⟩,q⟩
theorem H6:PIp X .Sub (ipI λi j=>i-j):=by
 intro aq s ao H x y v u Q I cE cY h;obtain⟨i,j,bJ,bX,q⟩:=h;subst bJ;subst bX;obtain⟨t,rfl⟩:=cE;obtain⟨t',rfl⟩:=cY;exact isub_int ⟨.int _,H,I.tok _,⟨_,rfl⟩,q⟩
end
section
variable {X:Cx}{pos:Pos}
def AN (c:TT) (cN:TS):TS:=λD ao H=>∃W:Nat->St->Hp->Prop,(∃m,W m ao H)/\∀m ao H,W m ao H->
 c ao H λb aA=>if b=true then ∃N:St->Hp->Prop,(∀b1 aj,N b1 aj->∃cH,cH<m/\W cH b1 aj)/\cN {D with nx:=N,ct:=N,bk:=D.nx} ao aA else D.nx ao aA
theorem v6{c:Expr}{body:List Stmt}{dP:TT}{cN:TS}(bO:PassesOwn (model X.prog X.w) X.A X.env X.xe)(a_:PT X c dP)(au:PSs X body cN):PS X (.While c body [] pos) (AN dP cN):=by
 intro aq s ao H D I h;obtain⟨W,⟨mu,ey⟩,turn⟩:=h;refine wpAny_While (codeAny_whileLoop (λn s'=>∃b1 aj,Inv X aq b1 aj s'/\W n b1 aj) ?_ mu ⟨ao,H,I,ey⟩);rintro n a' ⟨pG,aA,bT,eL⟩;refine wpAny_passesOwn bO (thn (a_ aq a' pG aA _ bT (turn n pG aA eL)) λb bQ ⟨aP,cU,cP⟩=>?_);cases b with
 |true=>
  obtain⟨N,eV,cP⟩:=cP;rw[if_pos rfl];refine wpAny_passesOwn bO (thn (au aq bQ pG aP _ cU cP) λf bV gJ=>?_);cases f with
  |next=>
   obtain⟨kJ,b5,d_,jD⟩:=gJ;obtain⟨cH,bL,lz⟩:=eV kJ b5 jD;exact⟨cH,bL,kJ,b5,d_,lz⟩
  |cont=>
   obtain⟨kJ,b5,d_,jD⟩:=gJ;obtain⟨cH,bL,lz⟩:=eV kJ b5 jD;exact⟨cH,bL,kJ,b5,d_,lz⟩
  |brk=>exact gJ
  |ret v=>exact gJ
 |false=>
  rw[if_neg qam];exact wpAny_execs_nil ⟨pG,aP,cU,cP⟩
end
structure It where
 go:Nat->Hp->Prop
 yld:Nat->Hp->V->Hp->Prop
 stop:Nat->Hp->Prop
def hx(X:Cx)(aq:List (Addr×Obj))(H:Hp)(b:Addr):Prop:=
 H b=none/\b≠X.env.locals/\b∉X.fs/\(b∈X.ex\/X.s₀.heap.objs.size<=b)/\(∀x c,X.env.cells.lookup x=some c->c≠b)/\∀p∈X.pn++aq,p.1≠b
theorem Inv.fpOk{X:Cx}{aq:List (Addr×Obj)}{ao:St}{H aj:Hp}{s:Shared}{b:Addr}(I:Inv X aq ao H s)(au:s.heap.objs.size<=b)(b':aj b=none):hx X aq aj b:=by
 refine⟨b',qbW (qae I.lt au),I.nofs au,.inr (qap I.sz au),λx c e z=>?_,λp bO z=>?_⟩
 .obtain⟨v,q⟩:=I.cell x c e;exact absurd (qae q.lt (by rw[z];exact au)) (qby _)
 .exact absurd (qae (Heap.lt_size (I.pin p bO).1) (by rw[z];exact au)) (qby _)
structure V2(P:Program)(w:World)(K:Frag)(c5:Expr)(J:It)(fp:List Addr)(it:Addr)(d1:Nat->Heap->Prop):Prop where
 mem:it∈fp
 obj:∀i h,d1 i h->∀b∈fp,∃o,h.get? b=some o/\∀v,o.data≠ .cell v
 keep:∀i h h',d1 i h->(∀b∈fp,∀o,h.get? b=some o->h'.get? b=some o)->d1 i h'
 item:∀(X:Cx),X.prog=P->X.w=w->X.K=K->X.calm=true->∀(i:Nat)(aq:List (Addr×Obj))(s:Shared)(ao:St)(H:Hp)(E:Value->Shared->Prop),Inv X aq ao H s->(∀b∈fp,hx X aq H b)->d1 i s.heap->J.go i H->
  wpAny (model P w) X.A (pyNext (.ref it)) (λr a'=>∃u,r=some u/\
   wpAny (model P w) X.A (letOwnedTupleGo c5 (.ref it) u) (λ_ bQ=>∃x aj,Inv X aq ao aj bQ/\c4 x u/\J.yld i H x aj/\d1 (i+1) bQ.heap/\∀b∈fp,aj b=none) E a') E s
 done:∀(X:Cx),X.prog=P->X.w=w->X.K=K->X.calm=true->∀(i:Nat)(aq:List (Addr×Obj))(s:Shared)(ao:St)(H:Hp)(E:Value->Shared->Prop),Inv X aq ao H s->(∀b∈fp,hx X aq H b)->d1 i s.heap->J.stop i H->
  wpAny (model P w) X.A (pyNext (.ref it)) (λr a'=>r=none/\Inv X aq ao H a') E s
 self:∀(A:Around)(i:Nat)(s:Shared)(Q:Value->Shared->Prop)(E:Value->Shared->Prop),d1 i s.heap->Q (.ref it) s->wpAny (model P w) A (pyIter (.ref it)) Q E s
noncomputable abbrev TI:=St->Hp->(It->Hp->Prop)->Prop
def PIE(X:Cx)(aq:List (Addr×Obj))(ao:St)(c5:Expr)(R:It->Hp->Prop)(pH:Value)(bQ:Shared):Prop:=
 ∃(it:Addr)(fp:List Addr)(d1:Nat->Heap->Prop)(J:It)(aj:Hp),pH= .ref it/\Inv X aq ao aj bQ/\V2 X.prog X.w X.K c5 J fp it d1/\d1 0 bQ.heap/\(∀b∈fp,hx X aq aj b)/\R J aj
def PI(X:Cx)(c5 eM:Expr)(e1:TI):Prop:=
 ∀(aq:List (Addr×Obj))(s:Shared)(ao:St)(H:Hp)(R:It->Hp->Prop),Inv X aq ao H s->e1 ao H R->
  wpAny (model X.prog X.w) X.A (eval eM X.env) (λv a'=>wpAny (model X.prog X.w) X.A (pyIter v) (PIE X aq ao c5 R) X.xe a') X.xe s
theorem q1{M:Model}{A:Around}{E:Value->Shared->Prop}{s:Shared}{c5:Expr}{it:Addr}{u:Value}{o:Obj}{n:String}{vs:Array Value}{Q:Unit->Shared->Prop}(b6:s.heap.get? it=some o)(a_:o.cls= .type n)(hd:o.data= .fields vs)
  (b':["enumerate","zip","dict_itemiterator","dict_reverseitemiterator","odict_iterator","itertools.zip_longest","itertools.pairwise"].contains n=false) (fH:Q () s):wpAny M A (letOwnedTupleGo c5 (.ref it) u) Q E s:=by
 unfold letOwnedTupleGo;cases c5<;>first
  |exact wpAny_pure fH
  |(cases u<;>first
    |exact wpAny_pure fH
    |(refine wpAny_bind (wpAny_load b6 ?_)
      rw[a_,hd];show wpAny M A (if(["enumerate","zip","dict_itemiterator","dict_reverseitemiterator","odict_iterator","itertools.zip_longest","itertools.pairwise"].contains n&&vs[0]? ==some (rawInt _))=true then _ else _) Q E s;rw[if_neg (by intro h;rw[b',Bool.false_and] at h;cases h)];exact wpAny_pure fH))
noncomputable def Itl (K:Frag) (a:Addr):It:=
 ⟨λi H=>∃xs x,SqL K H a xs/\xs[i]? =some x,λi H x aj=>aj=H/\∀xs,SqL K H a xs->xs[i]? =some x,λi H=>∃xs,SqL K H a xs/\xs.length<=i⟩
noncomputable def Itt (K:Frag) (a:Addr):It:=
 ⟨λi H=>∃xs x,SqT K H a xs/\xs[i]? =some x,λi H x aj=>aj=H/\∀xs,SqT K H a xs->xs[i]? =some x,λi H=>∃xs,SqT K H a xs/\xs.length<=i⟩
noncomputable def Itr (lo:Int) (n:Nat):It:=⟨λi _=>i<n,λi H x aj=>aj=H/\x= .int (lo+i),λi _=>n<=i⟩
theorem H7{P:Program}{w:World}{K:Frag}{c5:Expr}(a it:Addr):V2 P w K c5 (Itl K a) [it] it (λi h=>h.IsListIter it a i) where
 mem:=by simp
 obj:=λi h st b au=>by
  have e:b=it:=by simpa using au
  subst e;obtain⟨o,e,c,d⟩:=st;exact⟨o,e,λv z=>by rw[d] at z;cases z⟩
 keep:=λi h h' st k=>st.at λo e=>k it (by simp) o e
 item:=by
  intro X dv hw hK a_ i aq s ao H E I bS st bR;subst dv hw hK;obtain⟨xs,x,cC,ar⟩:=bR;obtain⟨its,dC,p,bU⟩:=I.list cC;obtain⟨u,hu,fv⟩:=dC.get ar;obtain⟨ea,f1,f2,da,eN,dQ⟩:=bS it (by simp);refine wpAny_pyNext_list_item st p.isList (x:=u) (by simpa using hu) λh' ja iQ=>?_;have bT:Inv X aq ao H {s with heap:=h'}:=I.turned (t':=s.toks) (λb o au e=>(iQ.2 b au).trans e) ea f1 da eN dQ;obtain⟨o,e,c,d⟩:=id ja;exact⟨u,rfl,q1 (s:={s with heap:=h'}) e c d (by decide) ⟨x,H,bT,fv,⟨rfl,λys bW=>by rw[I.list_inj bW cC];exact ar⟩,ja,λb au=>(bS b au).1⟩⟩
 done:=by
  intro X dv hw hK a_ i aq s ao H E I bS st bR;subst dv hw hK;obtain⟨xs,cC,ar⟩:=bR;obtain⟨its,dC,p,bU⟩:=I.list cC;obtain⟨ea,f1,f2,da,eN,dQ⟩:=bS it (by simp);have ap:=dC.length;exact wpAny_pyNext_list_end (I.ok.hd a_) st p.isList (by simp;omega) λh' c7=>⟨rfl,I.turned (t':=s.toks) (λb o au e=>c7 b o au e) ea f1 da eN dQ⟩
 self:=λ_ _ _ _ _ st h=>wpAny_pyIter_listiter st h
theorem H8{P:Program}{w:World}{K:Frag}{c5:Expr}(a it:Addr):V2 P w K c5 (Itt K a) [it] it (λi h=>h.IsTupleIter it a i) where
 mem:=by simp
 obj:=λi h st b au=>by
  have e:b=it:=by simpa using au
  subst e;obtain⟨o,e,c,d⟩:=st;exact⟨o,e,λv z=>by rw[d] at z;cases z⟩
 keep:=λi h h' st k=>st.at λo e=>k it (by simp) o e
 item:=by
  intro X dv hw hK a_ i aq s ao H E I bS st bR;subst dv hw hK;obtain⟨xs,x,cC,ar⟩:=bR;obtain⟨its,dC,p,bU⟩:=I.tuple cC;obtain⟨u,hu,fv⟩:=dC.get ar;obtain⟨ea,f1,f2,da,eN,dQ⟩:=bS it (by simp);refine wpAny_pyNext_tuple_item st (show s.heap.IsTuple a its.toArray from p) (x:=u) (by simpa using hu) λh' ja iQ=>?_;have bT:Inv X aq ao H {s with heap:=h'}:=I.turned (t':=s.toks) (λb o au e=>(iQ.2 b au).trans e) ea f1 da eN dQ;obtain⟨o,e,c,d⟩:=id ja;exact⟨u,rfl,q1 (s:={s with heap:=h'}) e c d (by decide) ⟨x,H,bT,fv,⟨rfl,λys bW=>by rw[I.tuple_inj bW cC];exact ar⟩,ja,λb au=>(bS b au).1⟩⟩
 done:=by
  intro X dv hw hK a_ i aq s ao H E I bS st bR;subst dv hw hK;obtain⟨xs,cC,ar⟩:=bR;obtain⟨its,dC,p,bU⟩:=I.tuple cC;obtain⟨ea,f1,f2,da,eN,dQ⟩:=bS it (by simp);have ap:=dC.length;exact wpAny_pyNext_tuple_end (I.ok.hd a_) st (show s.heap.IsTuple a its.toArray from p) (by simp;omega) λh' c7=>⟨rfl,I.turned (t':=s.toks) (λb o au e=>c7 b o au e) ea f1 da eN dQ⟩
 self:=λ_ _ _ _ _ st h=>wpAny_pyIter_tupleiter st h
theorem H9{P:Program}{w:World}{K:Frag}{c5:Expr}(it:Addr)(lo:Int)(n:Nat):V2 P w K c5 (Itr lo n) [it] it (λi h=>IsRangeIter h it (lo+(i:Nat)*1) ((n:Int)-(i:Nat)) 1) where
 mem:=by simp
 obj:=λi h st b au=>by
  have e:b=it:=by simpa using au
  subst e;exact⟨_,st,λv z=>by
   have gY:Data.fields _=Data.cell v:=z;cases gY⟩
 keep:=λi h h' st k=>k it (by simp) _ st
 item:=by
  intro X dv hw hK a_ i aq s ao H E I bS st bR;subst dv hw hK;obtain⟨ea,f1,f2,da,eN,dQ⟩:=bS it (by simp);have W:=Walks.range (prog:=X.prog) (w:=X.w) (I.ok.hd a_) it lo 1 n;refine W.item i s _ _ bR st λv h' ce cz ja iu=>?_;obtain⟨t,rfl⟩:=cz;have bT:Inv X aq ao H {s with heap:=h',toks:=ce}:=I.turned (λb o au e=>iu b o (by simpa using au) e) ea f1 da eN dQ;refine⟨_,rfl,q1 (s:={s with heap:=h',toks:=ce}) (n:="range_iterator") ja rfl rfl (by decide) ⟨.int (lo+i),H,bT,⟨t,?_⟩,⟨rfl,rfl⟩,ja,λb au=>(bS b au).1⟩⟩;rw[Int.mul_one]
 done:=by
  intro X dv hw hK a_ i aq s ao H E I bS st bR;subst dv hw hK;obtain⟨ea,f1,f2,da,eN,dQ⟩:=bS it (by simp);exact wpAny_pyNext_range_end (I.ok.hd a_) st (by have:n<=i:=bR;omega) λh' c7=>⟨rfl,I.turned (t':=s.toks) (λb o au e=>c7 b o au e) ea f1 da eN dQ⟩
 self:=λ_ _ _ _ _ st h=>wpAny_pyIter_rangeiter st h
section
variable {X:Cx}{c5:Expr}
def v7 (K:Frag) (dS:TE):TI:=λao H R=>dS ao H λx aA=>∃a,x= .ref a/\(∃xs,SqL K aA a xs)/\R (Itl K a) aA
def oc (K:Frag) (dS:TE):TI:=λao H R=>dS ao H λx aA=>∃a,x= .ref a/\(∃xs,SqT K aA a xs)/\R (Itt K a) aA
theorem Zm7{l:Expr}{dS:TE}(ap:PE X l dS):PI X c5 l (v7 X.K dS):=by
 intro aq s ao H R I h;refine thn (ap aq s ao H _ I h) λv a' ⟨x,aA,bT,cE,cJ⟩=>?_;obtain⟨a,e,⟨xs,cC⟩,q⟩:=cJ;subst e;cases cE;obtain⟨its,dC,p,bU⟩:=bT.list cC;refine wpAny_pyIter_list p.isList ?_;refine⟨a'.heap.objs.size,[a'.heap.objs.size],_,_,aA,rfl,bT.kept (t':=a'.toks) λb o e=>Heap.get?_push_of_some _ e,H7 a _,⟨_,Heap.get?_push_size _ rfl,rfl,rfl⟩,λb au=>?_,q⟩;have e:b=a'.heap.objs.size:=by simpa using au
 subst e;exact bT.fpOk (qaa _) (bT.hok.fresh (qaa _))
theorem ZnO{l:Expr}{dS:TE}(ap:PE X l dS):PI X c5 l (oc X.K dS):=by
 intro aq s ao H R I h;refine thn (ap aq s ao H _ I h) λv a' ⟨x,aA,bT,cE,cJ⟩=>?_;obtain⟨a,e,⟨xs,cC⟩,q⟩:=cJ;subst e;cases cE;obtain⟨its,dC,p,bU⟩:=bT.tuple cC;refine wpAny_pyIter_tuple (show a'.heap.IsTuple a its.toArray from p) ?_;refine⟨a'.heap.objs.size,[a'.heap.objs.size],_,_,aA,rfl,bT.kept (t':=a'.toks) λb o e=>Heap.get?_push_of_some _ e,H8 a _,⟨_,Heap.get?_push_size _ rfl,rfl,rfl⟩,λb au=>?_,q⟩;have e:b=a'.heap.objs.size:=by simpa using au
 subst e;exact bT.fpOk (qaa _) (bT.hok.fresh (qaa _))
theorem AO{aq:List (Addr×Obj)}{ao:St}{H:Hp}{s:Shared}{R:It->Hp->Prop}{E:Value->Shared->Prop}{lo hi:Int}{t u v:Tok}{ce:Nat}(I:Inv X aq ao H s)(ay: -(2 ^ 62)<=lo)(aD:lo<2 ^ 62)(cj: -(2 ^ 62)<=hi)(cS:hi<2 ^ 62)
  (q:R (Itr lo (hi-lo).toNat) H):wpAny (model X.prog X.w) X.A (pyIter (.ref s.heap.objs.size)) (PIE X aq ao c5 R) E {s with heap:=s.heap.push {cls:= .type "range",data:= .fields #[.int lo t,.int hi u,.int 1 v]},toks:=ce}:=by
 refine wpAny_pyIter_range (IsRange.new ..) (small_one ay aD cj cS) ?_;have bT:Inv X aq ao H {s with heap:=s.heap.push {cls:= .type "range",data:= .fields #[.int lo t,.int hi u,.int 1 v]},toks:=ce}:=I.kept λb o e=>Heap.get?_push_of_some _ e;refine⟨(s.heap.push {cls:= .type "range",data:= .fields #[.int lo t,.int hi u,.int 1 v]}).objs.size,[(s.heap.push {cls:= .type "range",data:= .fields #[.int lo t,.int hi u,.int 1 v]}).objs.size],_,_,H,rfl,
  bT.kept (t':=ce) λb o e=>Heap.get?_push_of_some _ e,H9 _ lo (hi-lo).toNat,?_,λb au=>?_,q⟩
 .have bJ:lo+((0:Nat):Int)*1=lo:=by simp
  have bX:(((hi-lo).toNat:Nat):Int)-((0:Nat):Int)=Builtin.Range.rangeSize lo hi 1:=by rw[rangeSize_one];split<;>omega
  show IsRangeIter _ _ (lo+((0:Nat):Int)*1) ((((hi-lo).toNat:Nat):Int)-((0:Nat):Int)) 1;rw[bJ,bX];exact Heap.get?_push_size _ rfl
 .have e:b=(s.heap.push {cls:= .type "range",data:= .fields #[.int lo t,.int hi u,.int 1 v]}).objs.size:=by simpa using au
  subst e;exact bT.fpOk (qaa _) (bT.hok.fresh (qaa _))
def AQ (cp:TA):TI:=λao H R=>cp ao H λvs aA=>∃j:Int,vs=[.int j]/\ -(2 ^ 62)<=j/\j<2 ^ 62/\R (Itr 0 j.toNat) aA
def AR (cp:TA):TI:=λao H R=>cp ao H λvs aA=>∃i j:Int,vs=[.int i,.int j]/\(-(2 ^ 62)<=i/\i<2 ^ 62/\ -(2 ^ 62)<=j/\j<2 ^ 62)/\R (Itr i (j-i).toNat) aA
theorem g4{a:Expr}{cp:TA}{p pos:Pos}(bR:Gl X "range")(bL:X.mg "range" =none)(bK:PA X [a] cp)(hs:starEach [a] X.env=[(false,eval a X.env)]:=by rfl):PI X c5 (.Call (.Name "range" p) [a] [] pos) (AQ cp):=by
 intro aq s ao H R I h;refine Call_ (ly I bR bL boot_range (qaQ (thn (bK pos aq s ao H _ I h) λus a' ⟨vs,aA,bT,cE,cJ⟩=>?_) hs rfl));obtain⟨j,e,cJ,cP,q⟩:=cJ;subst e;cases cE with
 |cons r e'=>
  cases e';obtain⟨t,rfl⟩:=r;exact call_range_1 (AO bT ∅ ∅ cJ cP (by simpa using q))
theorem H_{a b:Expr}{cp:TA}{p pos:Pos}(bR:Gl X "range")(bL:X.mg "range" =none)(bK:PA X [a,b] cp)(hs:starEach [a,b] X.env=[(false,eval a X.env),(false,eval b X.env)]:=by rfl)(fa:starEach [b] X.env=[(false,eval b X.env)]:=by rfl):
  PI X c5 (.Call (.Name "range" p) [a,b] [] pos) (AR cp):=by
 intro aq s ao H R I h;refine Call_ (ly I bR bL boot_range (qaQ (thn (bK pos aq s ao H _ I h) λus a' ⟨vs,aA,bT,cE,cJ⟩=>?_) (by rw[hs,fa]) (by rw[fa];rfl)));obtain⟨i,j,e,⟨cJ,cP,gJ,qX⟩,q⟩:=cJ;subst e;cases cE with
 |cons r e'=>
  cases e' with
  |cons c' e'=>
   cases e';obtain⟨t,rfl⟩:=r;obtain⟨t',rfl⟩:=c';exact call_range_2 (AO bT cJ cP gJ qX q)
def AS (e1:TI) (g:TG) (cN:TS):TS:=λD ao H=>e1 ao H λJ aA=>∃W:Nat->Nat->St->Hp->Prop,(∃m,W 0 m ao aA)/\∀i m ao H,W i m ao H->
 (J.stop i H/\D.nx ao H)\/(J.go i H/\∃N:St->Hp->Prop,(∀b1 aj,N b1 aj->∃cH,cH<m/\W (i+1) cH b1 aj)/\∀x aj,J.yld i H x aj->g x ao aj λcx aP=>cN {D with nx:=N,ct:=N,bk:=D.nx} cx aP)
noncomputable def ZaJ (fp:List Addr) (h:Heap):List (Addr×Obj):=fp.filterMap λb=>(h.get? b).map λo=>(b,o)
theorem pI{fp:List Addr}{h:Heap}{b:Addr}{o:Obj}(au:b∈fp)(e:h.get? b=some o):(b,o)∈ZaJ fp h:=List.mem_filterMap.mpr ⟨b,au,by rw[e];rfl⟩
theorem Zkd{fp:List Addr}{h:Heap}{p:Addr×Obj}(bO:p∈ZaJ fp h):p.1∈fp/\h.get? p.1=some p.2:=by
 obtain⟨b,au,e⟩:=List.mem_filterMap.mp bO;cases q:h.get? b with
 |none=>rw[q] at e;cases e
 |some o=>
  rw[q] at e;have cv:(b,o)=p:=qaC e;subst cv;exact⟨au,q⟩
theorem Inv.pinned{aq:List (Addr×Obj)}{ao:St}{H:Hp}{s:Shared}{fp:List Addr}(I:Inv X aq ao H s)(bS:∀b∈fp,hx X aq H b)(b6:∀b∈fp,∃o,s.heap.get? b=some o/\∀v,o.data≠ .cell v):Inv X (aq++ZaJ fp s.heap) ao H s:=
 I.pins_of λp bO=>(qaD.mp bO).elim (λz=>I.pin p (qaw _ z)) λz=>by
  obtain⟨au,e⟩:=Zkd z;obtain⟨ea,f1,f2,_⟩:=bS p.1 au;obtain⟨o,cv,d⟩:=b6 p.1 au;rw[e] at cv;cases cv;exact⟨e,ea,f1,f2,d⟩
theorem Inv.unpinned{aq pl:List (Addr×Obj)}{ao:St}{H:Hp}{s:Shared}(I:Inv X (aq++pl) ao H s):Inv X aq ao H s:=I.pins_of λp bO=>I.pin p (qaw _ (qbe _ bO))
theorem d4{eM:Expr}{body:List Stmt}{e1:TI}{g:TG}{cN:TS}{pos:Pos}(bO:PassesOwn (model X.prog X.w) X.A X.env X.xe)(a_:X.calm=true)(hi:PI X c5 eM e1)(bR:PG X c5 g)(au:PSs X body cN)
  (hs:∀x,foldedSetIterable eM X.env x=pure x:=by intro _;rfl):PS X (.For c5 eM body [] pos) (AS e1 g cN):=by
 intro aq s ao H D I h;refine wpAny_For (thn (hi aq s ao H _ I h) λv a' ay=>thn ay λpH bQ aD=>?_) hs;obtain⟨it,fp,d1,J,aP,e,cU,T,jE,f2,W,⟨mu,ey⟩,turn⟩:=aD;subst e;have v8:∀{aj:Hp},(∀b∈fp,aj b=none)->∀b∈fp,hx X aq aj b:=λb' b au=>⟨b' b au,(f2 b au).2⟩;refine codeAny_forLoop_any (λn s'=>∃i b1 aj,Inv X aq b1 aj s'/\d1 i s'.heap/\(∀b∈fp,aj b=none)/\W i n b1 aj) ?_ mu ⟨0,ao,aP,cU,jE,λb au=>(f2 b au).1,ey⟩;rintro n bV ⟨i,kJ,b5,d_,jF,hP,lz⟩;rcases turn i n kJ b5 lz with⟨stop,od⟩|⟨go,N,eV,step⟩
 .refine wpAny_passesOwn bO (thn (T.done X rfl rfl rfl a_ i aq bV kJ b5 X.xe d_ (v8 hP) jF stop) λr cd ⟨aC,ob⟩=>?_);subst aC;exact wpAny_execs_nil ⟨kJ,b5,ob,od⟩
 .refine wpAny_passesOwn bO (thn (T.item X rfl rfl rfl a_ i aq bV kJ b5 X.xe d_ (v8 hP) jF go) λr cd ⟨u,aC,cS⟩=>?_);subst aC;refine wpAny_passesOwn bO (thn cS λ_ cB ⟨x,b4,iP,qY,H',jG,gQ⟩=>?_);have Ia:=iP.pinned (v8 gQ) (T.obj _ _ jG);refine wpAny_passesOwn bO (thn (bR _ cB kJ b4 x u _ Ia qY (step x b4 H')) λ_ c8 ⟨Ib,cZ,g0,v5⟩=>?_);refine wpAny_passesOwn bO (thn (au _ c8 Ib cZ _ g0 v5) λf d5 nh=>?_);have again:∀{kK:St}{di:Hp},Inv X (aq++ZaJ fp cB.heap) kK di d5->N kK di->∃m,m<n/\∃i b1 aj,Inv X aq b1 aj d5/\d1 i d5.heap/\(∀b∈fp,aj b=none)/\W i m b1 aj:=λ{kK di} h2 q2=>by
   obtain⟨cH,bL,tx⟩:=eV kK di q2;refine⟨cH,bL,i+1,kK,di,h2.unpinned,T.keep _ _ _ jG λb au o e=>(h2.pin (b,o) (qaw _ (qaw _ (pI au e)))).1,λb au=>?_,tx⟩;obtain⟨o,e,d⟩:=T.obj _ _ jG b au;exact(h2.pin (b,o) (qaw _ (qaw _ (pI au e)))).2.1
  cases f with
  |next=>obtain⟨kK,di,h2,q2⟩:=nh;exact again h2 q2
  |cont=>obtain⟨kK,di,h2,q2⟩:=nh;exact again h2 q2
  |brk=>obtain⟨kK,di,h2,nh⟩:=nh;exact⟨kK,di,h2.unpinned,nh⟩
  |ret v=>obtain⟨x7,kK,di,h2,q3,nh⟩:=nh;exact⟨x7,kK,di,h2.unpinned,q3,nh⟩
end
theorem YT{lo:Int}{n:Nat}{g:TG}{cN:TS}{D:Vd}{ao:St}{H:Hp}(Pv:Nat->St->Hp->Prop)(c0:Pv 0 ao H)
  (hs:∀i ao H,i<n->Pv i ao H->g (.int (lo+i)) ao H λcx aP=>cN {D with nx:=Pv (i+1),ct:=Pv (i+1),bk:=D.nx} cx aP) (hd:∀ao H,Pv n ao H->D.nx ao H):
  ∃W:Nat->Nat->St->Hp->Prop,(∃m,W 0 m ao H)/\∀i m ao H,W i m ao H->
   ((Itr lo n).stop i H/\D.nx ao H)\/((Itr lo n).go i H/\∃N:St->Hp->Prop,(∀b1 aj,N b1 aj->∃cH,cH<m/\W (i+1) cH b1 aj)/\∀x aj,(Itr lo n).yld i H x aj->g x ao aj λcx aP=>cN {D with nx:=N,ct:=N,bk:=D.nx} cx aP):=by
 refine⟨λi m ao H=>m=n-i/\i<=n/\Pv i ao H,⟨n,by simp,qar _,c0⟩,?_⟩;rintro i m ao H ⟨rfl,hi,p⟩
 by_cases dw:i<n
 .refine .inr ⟨dw,Pv (i+1),λb1 aj iR=>⟨n-(i+1),∅,rfl,dw,iR⟩,λx aj y=>?_⟩;obtain⟨e,y⟩:=y;subst e y;exact hs i ao _ dw p
 .have e:i=n:=by omega
  subst e;exact .inl ⟨qaa _,hd ao H p⟩
noncomputable abbrev R2:=V->V->Hp->VK->Prop
def OpR(X:Cx)(f:Value->Value->Sem Value)(r:R2):Prop:=
 ∀(aq:List (Addr×Obj))(s:Shared)(ao:St)(H:Hp)(x y:V)(v u:Value)(Q:VK),Inv X aq ao H s->c4 x v->c4 y u->r x y H Q->
  wpAny (model X.prog X.w) X.A (f v u) (EP X aq ao Q) X.xe s
def YL(X:Cx)(f:Value)(r:List V->Hp->VK->Prop):Prop:=
 ∀(aq:List (Addr×Obj))(s:Shared)(ao:St)(H:Hp)(xs:List V)(us:List Value)(Q:VK),Inv X aq ao H s->cW xs us->r xs H Q->
  wpAny (model X.prog X.w) X.A (call f us) (EP X aq ao Q) X.xe s
def ZpZ(X:Cx)(r:V->Hp->(Bool->Hp->Prop)->Prop):Prop:=
 ∀(aq:List (Addr×Obj))(s:Shared)(ao:St)(H:Hp)(x:V)(v:Value)(Q:Bool->Hp->Prop),Inv X aq ao H s->c4 x v->r x H Q->
  wpAny (model X.prog X.w) X.A (truthy v) (TP X aq ao Q) X.xe s
def tOp (r:R2) (cp cN:TE):TE:=λao H Q=>cp ao H λx aA=>cN ao aA λy aP=>r x y aP Q
def rI (C:Int->Int->Prop) (g:Int->Int->V):R2:=λx y H Q=>∃i j,x= .int i/\y= .int j/\C i j/\Q (g i j) H
def rI0 (g:Int->Int->V):R2:=λx y H Q=>∃i j,x= .int i/\y= .int j/\Q (g i j) H
section
variable {X:Cx}{a b c:Expr}{cp cN dP:TE}{pos:Pos}
theorem v9(bK:PE X a cp)(au:PE X b cN){aq:List (Addr×Obj)}{s:Shared}{ao:St}{H:Hp}{R:V->V->Hp->Prop}(I:Inv X aq ao H s)
  (h:cp ao H λx aA=>cN ao aA λy aP=>R x y aP) {Q:Value->Shared->Prop} {f:Value->Value->Sem Value}
  (bS:∀v u bQ x y aP,Inv X aq ao aP bQ->c4 x v->c4 y u->R x y aP->wpAny (model X.prog X.w) X.A (f v u) Q X.xe bQ):
  wpAny (model X.prog X.w) X.A (eval a X.env) (λv dL=>wpAny (model X.prog X.w) X.A (eval b X.env) (λu j7=>wpAny (model X.prog X.w) X.A (f v u) Q X.xe j7) X.xe dL) X.xe s:=by
 refine thn (bK aq s ao H _ I h) λv a' ⟨x,aA,bT,cE,cJ⟩=>?_;refine thn (au aq a' ao aA _ bT cJ) λu bQ ⟨y,aP,cU,cY,cP⟩=>?_;exact bS v u bQ x y aP cU cE cY cP
theorem cm{op:Operator}{r:R2}(b6:OpR X (binaryOp op) r)(bK:PE X a cp)(au:PE X b cN):PE X (.BinOp a op b pos) (tOp r cp cN):=by
 intro aq s ao H Q I h;exact wpAny_BinOp (v9 bK au I h λv u bQ x y aP cU cy cI q=>b6 aq bQ ao aP x y v u Q cU cy cI q)
theorem opI{f:Value->Value->Sem Value}{C:Int->Int->Prop}{g:Int->Int->Int}
  (rule:∀(i j:Int)(t u:Tok)(s:Shared)(Q:Value->Shared->Prop)(E:Value->Shared->Prop),C i j->Q (.int (g i j) s.toks) {s with toks:=s.toks+1}->wpAny (model X.prog X.w) X.A (f (.int i t) (.int j u)) Q E s):
  OpR X f (rI C λi j=> .int (g i j)):=by
 intro aq s ao H x y v u Q I cy cI h;obtain⟨i,j,rfl,rfl,a_,q⟩:=h;obtain⟨t,rfl⟩:=cy;obtain⟨t',rfl⟩:=cI;exact rule i j t t' s _ _ a_ ⟨.int (g i j),H,I.tok _,⟨_,rfl⟩,q⟩
theorem ZnY{f:Value->Value->Sem Value}{g:Int->Int->Int}
  (rule:∀(i j:Int)(t u:Tok)(s:Shared)(Q:Value->Shared->Prop)(E:Value->Shared->Prop),Q (.int (g i j) s.toks) {s with toks:=s.toks+1}->wpAny (model X.prog X.w) X.A (f (.int i t) (.int j u)) Q E s):
  OpR X f (rI0 λi j=> .int (g i j)):=by
 intro aq s ao H x y v u Q I cy cI h;obtain⟨i,j,rfl,rfl,q⟩:=h;obtain⟨t,rfl⟩:=cy;obtain⟨t',rfl⟩:=cI;exact rule i j t t' s _ _ ⟨.int (g i j),H,I.tok _,⟨_,rfl⟩,q⟩
theorem Zlb{f:Value->Value->Sem Value}{g:Int->Int->Bool}
  (rule:∀(i j:Int)(t u:Tok)(s:Shared)(Q:Value->Shared->Prop)(E:Value->Shared->Prop),Q (.bool (g i j)) s->wpAny (model X.prog X.w) X.A (f (.int i t) (.int j u)) Q E s):
  OpR X f (rI0 λi j=> .bl (g i j)):=by
 intro aq s ao H x y v u Q I cy cI h;obtain⟨i,j,rfl,rfl,q⟩:=h;obtain⟨t,rfl⟩:=cy;obtain⟨t',rfl⟩:=cI;exact rule i j t t' s _ _ ⟨.bl (g i j),H,I,rfl,q⟩
def Znn(i j:Int):Prop:=0<=j/\j<=1000000/\i.natAbs<2 ^ 64
def Zjo(i j:Int):Prop:=(-(2 ^ 64)<i/\i<2 ^ 64)\/(-(2 ^ 64)<j/\j<2 ^ 64)
theorem Zjo.ok{i j:Int}(h:Zjo i j):IntMulOk i j:=by
 rcases h with⟨ay,aD⟩|⟨ay,aD⟩
 .exact .of_left (intBits_le_64 ay aD)
 .exact .of_right (intBits_le_64 ay aD)
theorem Ic:OpR X (binaryOp .Add) (rI0 λi j=> .int (i+j)):=ZnY λ_ _ _ _ _ _ _ q=>add_int q
theorem mv:OpR X (binaryOp .Sub) (rI0 λi j=> .int (i-j)):=ZnY λ_ _ _ _ _ _ _ q=>sub_int q
theorem eI:OpR X (binaryOp .Mod) (rI (λ_ j=>0<j) λi j=> .int (i % j)):=opI λi j _ _ _ _ _ a_ q=>by
 have ay:(0:Int)<j:=a_;exact mod_int' ∅ (by rw[qbU i ∅];exact q)
theorem AT:OpR X (binaryOp .Pow) (rI Znn λi j=> .int (i ^ j.toNat)):=opI λ_ _ _ _ _ _ _ a_ q=>pow_int_small a_.1 a_.2.1 a_.2.2 q
end
noncomputable def AV:V->V->Bool
 | .non,.non=>true| .non,.int _=>true| .int _,.non=>true| .non,.bl _=>true| .bl _,.non=>true| .non,.str _=>true| .str _,.non=>true
 | .int _,.int _=>true| .bl _,.bl _=>true| .str _,.str _=>true| .byt _,.byt _=>true
 | .int _,.str _=>true| .str _,.int _=>true| .bl _,.str _=>true| .str _,.bl _=>true
 |_,_=>false
def rEq:R2:=λx y H Q=>AV x y=true/\Q (.bl (decide (x=y))) H
def rNe:R2:=λx y H Q=>AV x y=true/\Q (.bl (!decide (x=y))) H
theorem Zih{i j:Int}:decide (V.int i=V.int j)=(i==j):=by
 rw[qbH];simp
theorem Zhf{i j:Bool}:decide (V.bl i=V.bl j)=(i==j):=by
 rw[qbH];simp
theorem Zib{i j:Str}:decide (V.str i=V.str j)=(i==j):=by
 rw[qbH];simp
theorem Ziy{i j:Array UInt8}:decide (V.byt i=V.byt j)=(i.toList==j.toList):=by
 rw[qbH];cases i;cases j;simp
section
variable {X:Cx}{a b c:Expr}{cp cN dP:TE}{pos:Pos}
theorem fi{aq:List (Addr×Obj)}{ao:St}{H:Hp}{s:Shared}{Q:VK}{k k':Bool}(I:Inv X aq ao H s)(q:Q (.bl k) H)(e:k=k'):EP X aq ao Q (.bool k') s:=by
 subst e;exact⟨.bl k,H,I,rfl,q⟩
theorem Ie:OpR X (compareOp .Eq) rEq:=by
 intro aq s ao H x y v u Q I cy cI h;obtain⟨hs,q⟩:=h;cases x with
 |non=>
  cases cy;cases y with
  |non=>cases cI;exact PySem.EqNone.eq_none_none (fi I q (by simp))
  |bl j=>cases cI;exact PySem.EqNone.eq_none_bool (fi I q (by simp))
  |int j=>obtain⟨t',rfl⟩:=cI;exact PySem.EqNone.eq_none_int (fi I q (by simp))
  |str j=>obtain⟨t',rfl⟩:=cI;exact PySem.EqNone.eq_none_str (fi I q (by simp))
  |_=>exact absurd (show false=true from hs) qam
 |bl i=>
  cases cy;cases y with
  |non=>cases cI;exact PySem.EqNone.eq_bool_none (fi I q (by simp))
  |bl j=>cases cI;exact eq_bool (fi I q Zhf)
  |str j=>obtain⟨t',rfl⟩:=cI;exact PySem.EqMixed.eq_bool_str (fi I q (by simp))
  |_=>exact absurd (show false=true from hs) qam
 |int i=>
  obtain⟨t,rfl⟩:=cy;cases y with
  |non=>cases cI;exact PySem.EqNone.eq_int_none (fi I q (by simp))
  |int j=>obtain⟨t',rfl⟩:=cI;exact eq_int (fi I q Zih)
  |str j=>obtain⟨t',rfl⟩:=cI;exact PySem.EqMixed.eq_int_str (fi I q (by simp))
  |_=>exact absurd (show false=true from hs) qam
 |str i=>
  obtain⟨t,rfl⟩:=cy;cases y with
  |non=>cases cI;exact PySem.EqNone.eq_str_none (fi I q (by simp))
  |bl j=>cases cI;exact PySem.EqMixed.eq_str_bool (fi I q (by simp))
  |int j=>obtain⟨t',rfl⟩:=cI;exact PySem.EqMixed.eq_str_int (fi I q (by simp))
  |str j=>obtain⟨t',rfl⟩:=cI;exact eq_str (fi I q Zib)
  |_=>exact absurd (show false=true from hs) qam
 |byt i=>
  obtain⟨t,rfl⟩:=cy;cases y with
  |byt j=>obtain⟨t',rfl⟩:=cI;exact PySem.W.eq_bytes (fi I q Ziy)
  |_=>exact absurd (show false=true from hs) qam
 |_=>cases y<;>exact absurd (show false=true from hs) qam
theorem Ig:OpR X (compareOp .NotEq) rNe:=by
 intro aq s ao H x y v u Q I cy cI h;obtain⟨hs,q⟩:=h;cases x with
 |non=>
  cases cy;cases y with
  |non=>cases cI;exact PySem.EqNone.ne_none_none (fi I q (by simp))
  |bl j=>cases cI;exact PySem.EqNone.ne_none_bool (fi I q (by simp))
  |int j=>obtain⟨t',rfl⟩:=cI;exact PySem.EqNone.ne_none_int (fi I q (by simp))
  |str j=>obtain⟨t',rfl⟩:=cI;exact PySem.EqNone.ne_none_str (fi I q (by simp))
  |_=>exact absurd (show false=true from hs) qam
 |bl i=>
  cases cy;cases y with
  |non=>cases cI;exact PySem.EqNone.ne_bool_none (fi I q (by simp))
  |bl j=>cases cI;exact ne_bool (fi I q (congrArg not Zhf))
  |str j=>obtain⟨t',rfl⟩:=cI;exact PySem.EqMixed.ne_bool_str (fi I q (by simp))
  |_=>exact absurd (show false=true from hs) qam
 |int i=>
  obtain⟨t,rfl⟩:=cy;cases y with
  |non=>cases cI;exact PySem.EqNone.ne_int_none (fi I q (by simp))
  |int j=>obtain⟨t',rfl⟩:=cI;exact ne_int (fi I q (congrArg not Zih))
  |str j=>obtain⟨t',rfl⟩:=cI;exact PySem.EqMixed.ne_int_str (fi I q (by simp))
  |_=>exact absurd (show false=true from hs) qam
 |str i=>
  obtain⟨t,rfl⟩:=cy;cases y with
  |non=>cases cI;exact PySem.EqNone.ne_str_none (fi I q (by simp))
  |bl j=>cases cI;exact PySem.EqMixed.ne_str_bool (fi I q (by simp))
  |int j=>obtain⟨t',rfl⟩:=cI;exact PySem.EqMixed.ne_str_int (fi I q (by simp))
  |str j=>obtain⟨t',rfl⟩:=cI;exact ne_str (fi I q (congrArg not Zib))
  |_=>exact absurd (show false=true from hs) qam
 |byt i=>
  obtain⟨t,rfl⟩:=cy;cases y with
  |byt j=>obtain⟨t',rfl⟩:=cI;exact PySem.W.ne_bytes (fi I q (congrArg not Ziy))
  |_=>exact absurd (show false=true from hs) qam
 |_=>cases y<;>exact absurd (show false=true from hs) qam
theorem tz:OpR X (compareOp .Lt) (rI0 λi j=> .bl (decide (i<j))):=Zlb λ_ _ _ _ _ _ _ q=>lt_int q
theorem mw:OpR X (compareOp .Gt) (rI0 λi j=> .bl (decide (j<i))):=Zlb λ_ _ _ _ _ _ _ q=>gt_int q
theorem q4:OpR X (compareOp .GtE) (rI0 λi j=> .bl (decide (j<=i))):=Zlb λ_ _ _ _ _ _ _ q=>ge_int q
theorem v_:OpR X (compareOp .Is) (λx y H Q=>y= .non/\Q (.bl (decide (x= .non))) H):=by
 intro aq s ao H x y v u Q I cy cI h;obtain⟨rfl,q⟩:=h;cases cI;refine is_none_gen (fi I q ?_);cases x<;>first
  |(cases cy;rfl)
  |(obtain⟨t,rfl⟩:=cy;rfl)
theorem OpR.or{f:Value->Value->Sem Value}{r c':R2}(h:OpR X f r)(h':OpR X f c'):OpR X f (λx y H Q=>r x y H Q\/c' x y H Q):=by
 intro aq s ao H x y v u Q I cy cI q;rcases q with q|q
 .exact h aq s ao H x y v u Q I cy cI q
 .exact h' aq s ao H x y v u Q I cy cI q
theorem dD(b:Expr){op:CmpOp}(h:op≠ .In:=by decide)(aD:op≠ .NotIn:=by decide):behindInMarks op b=false:=by
 have bJ:(op==CmpOp.In)=false:=by cases op<;>first|rfl|exact absurd rfl h
 have bX:(op==CmpOp.NotIn)=false:=by cases op<;>first|rfl|exact absurd rfl aD
 cases b<;>simp[behindInMarks,bJ,bX]
theorem lA{op:CmpOp}{r:R2}(b6:OpR X (compareOp op) r)(bK:PE X a cp)(au:PE X b cN)(bL:behindInMarks op b=false):PE X (.Compare a [op] [b] pos) (tOp r cp cN):=by
 intro aq s ao H Q I h;exact wpAny_Compare1 (v9 bK au I h λv u bQ x y aP cU cy cI q=>b6 aq bQ ao aP x y v u Q cU cy cI q) bL
def AW (t:TE):TT:=λao H Q=>t ao H λx aj=>∃k,x= .bl k/\Q k aj
theorem dW{op:CmpOp}{r:R2}(b6:OpR X (compareOp op) r)(bK:PE X a cp)(au:PE X b cN)(bL:behindInMarks op b=false):PT X (.Compare a [op] [b] pos) (AW (tOp r cp cN)):=by
 intro aq s ao H Q I h;refine wpAny_isTrue_Compare1 (thn (bK aq s ao H _ I h) λv a' ⟨x,aA,bT,cE,cJ⟩=>thn (au aq a' ao aA _ bT cJ) λu bQ ⟨y,aP,cU,cY,cP⟩=>
  thn (b6 aq bQ ao aP x y v u _ cU cE cY cP) λc bV ⟨z,b5,d_,iq,k,e,gJ⟩=>?_) bL
 subst e;cases iq;exact wpAny_truthy_bool ⟨b5,d_,gJ⟩
def AX (r c':R2) (cp cN dP:TE):TE:=λao H Q=>cp ao H λx aA=>cN ao aA λy aP=>r x y aP λz b5=>∃k,z= .bl k/\
 (if k=true then dP ao b5 λeH bZ=>c' y eH bZ Q else Q (.bl false) b5)
theorem Ih{op v':CmpOp}{r c':R2}(b6:OpR X (compareOp op) r)(mj:OpR X (compareOp v') c')(bK:PE X a cp)(au:PE X b cN)(a_:PE X c dP)
  (bL:lastMarks [op,v'] [b,c]=false:=by with_unfolding_all rfl):PE X (.Compare a [op,v'] [b,c] pos) (AX r c' cp cN dP):=by
 intro aq s ao H Q I h;refine Compare_chain (thn (bK aq s ao H _ I h) λv a' ⟨x,aA,bT,cE,cJ⟩=>chain_link (thn (au aq a' ao aA _ bT cJ) λu bQ ⟨y,aP,cU,cY,cP⟩=>
  thn (b6 aq bQ ao aP x y v u _ cU cE cY cP) λd bV ⟨z,b5,d_,iq,k,e,gJ⟩=>?_)) bL
 subst e;cases iq;refine wpAny_truthy_bool ?_;cases k with
 |false=>exact ite_ff ⟨.bl false,b5,d_,rfl,gJ⟩
 |true=>exact ite_tt (chain_last (thn (a_ aq bV ao b5 _ d_ gJ) λeH cd ⟨gY,bZ,ob,i',qX⟩=>mj aq cd ao bZ y gY u eH Q ob cY i' qX))
def q5(K:Frag)(x:V)(H:Hp)(k:Bool):Prop:=
 match x with
 | .non=>k=false
 | .bl b=>k=b
 | .int i=>k=(i != 0)
 | .str y=>y.length<=sizeLine/\k=((y.length:Int) != 0)
 | .byt y=>y.size<=sizeLine/\k=((y.size:Int) != 0)
 | .ref p=>(∃xs,SqL K H p xs/\k= !xs.isEmpty)\/(∃xs,SqT K H p xs/\k= !xs.isEmpty)\/∃kvs,H p=some (.dK kvs)/\k= !kvs.isEmpty
 |_=>False
theorem Zja{d0:Type}{kvs:List (d0×V)}{vs:List (d0×Value)}(r:KV kvs vs):(!vs.isEmpty)= !kvs.isEmpty:=by
 cases r<;>rfl
theorem Zd4{xs:List V}{its:List Value}(r:cW xs its):(!its.toArray.isEmpty)= !xs.isEmpty:=by
 cases r<;>simp
theorem oe:(sizeLine:Nat)<2 ^ 63:=by rw[sizeLine_eq];decide
theorem Ii:ZpZ X (λx H Q=>∃k,q5 X.K x H k/\Q k H):=by
 intro aq s ao H x v Q I cy h;obtain⟨k,e,q⟩:=h;have ap:=oe;have hs:sizeLine=16777216:=sizeLine_eq;cases x with
 |non=>
  cases cy;have cv:k=false:=e;subst cv;exact truthy_none ⟨H,I,q⟩
 |bl b=>
  cases cy;have cv:k=b:=e;subst cv;exact wpAny_truthy_bool ⟨H,I,q⟩
 |int i=>
  obtain⟨t,rfl⟩:=cy;have cv:k=(i != 0):=e;subst cv;exact PySem.P.truthy_int ⟨H,I,q⟩
 |str y=>
  obtain⟨t,rfl⟩:=cy;obtain⟨bW,cv⟩:y.length<=sizeLine/\k=((y.length:Int) != 0):=e;subst cv;exact PySem.P.truthy_str ∅ ⟨H,I.tok _,q⟩
 |byt y=>
  obtain⟨t,rfl⟩:=cy;obtain⟨bW,cv⟩:y.size<=sizeLine/\k=((y.size:Int) != 0):=e;subst cv;exact PySem.W.truthy_bytes ∅ ⟨H,I.tok _,q⟩
 |ref p=>
  cases cy;have cv:(∃xs,SqL X.K H p xs/\k= !xs.isEmpty)\/(∃xs,SqT X.K H p xs/\k= !xs.isEmpty)\/∃kvs,H p=some (.dK kvs)/\k= !kvs.isEmpty:=e;rcases cv with⟨xs,ar,cv⟩|⟨xs,ar,cv⟩|⟨kvs,ar,cv⟩
  .subst cv;obtain⟨its,r,pl,bU⟩:=I.list ar;have dY:=r.length;exact wpAny_truthy_list pl.isList (by simp only[qah];omega) ⟨H,I.tok _,by rw[Zd4 r];exact q⟩
  .subst cv;obtain⟨its,r,pl,bU⟩:=I.tuple ar;have dY:=r.length;exact truthy_tuple pl (by simp only[qah];omega) ⟨H,I.tok _,by rw[Zd4 r];exact q⟩
  .subst cv;obtain⟨bU,g5,vs,r,m⟩:kvs.length<=sizeLine/\(p==sysModules)=false/\∃vs,KV kvs vs/\s.heap.DictOf (fQ X.prog X.w) p vs:=I.hok p _ ar;have dY:kvs.length=vs.length:=Paired.length r;exact wpAny_truthy_dict g5 m ∅ ⟨H,I.tok _,by rw[Zja r];exact q⟩
 |_=>exact(show False from e).elim
theorem ZlR(bK:PE X a cp)(b9:∀n8,isTrue a X.env n8=(do let v<-n8;standAt a.pos;holding [v] (truthy v))):
  PT X a (λao H Q=>cp ao H λx aj=>∃k,q5 X.K x aj k/\Q k aj):=by
 intro aq s ao H Q I h;exact isTrue_plain (thn (bK aq s ao H _ I h) λv a' ⟨x,aA,bT,cE,cJ⟩=>Ii aq a' ao aA x v Q bT cE cJ) (b9 _)
theorem Ij:OpR X (binaryOp .Add) (λx y H Q=>∃i j,x= .str i/\y= .str j/\i.length+j.length<=sizeLine/\Q (.str (i++j)) H):=by
 intro aq s ao H x y v u Q I cy cI h;obtain⟨i,j,rfl,rfl,bU,q⟩:=h;obtain⟨t,rfl⟩:=cy;obtain⟨t',rfl⟩:=cI;exact add_str (λt' ce=>⟨.str (i++j),H,I.tok _,⟨_,rfl⟩,q⟩) bU
theorem W8{x:V}{us:List Value}(r:cW [x] us):∃u,us=[u]/\c4 x u:=by
 cases r with
 |cons cE cY=>cases cY;exact⟨_,rfl,cE⟩
theorem Zgf{x y:V}{us:List Value}(r:cW [x,y] us):∃u eH,us=[u,eH]/\c4 x u/\c4 y eH:=by
 cases r with
 |cons cE cY=>
  cases cY with
  |cons iq i'=>cases i';exact⟨_,_,rfl,cE,iq⟩
theorem Ik(a_:X.calm=true):YL X (.builtin "max") (λxs H Q=>∃i j,xs=[.int i,.int j]/\Q (.int (if j > i then j else i)) H):=by
 intro aq s ao H xs us Q I r h;obtain⟨i,j,rfl,q⟩:=h;obtain⟨u,eH,rfl,⟨t,rfl⟩,⟨t',rfl⟩⟩:=Zgf r;refine max_two_ints (I.ok.hd a_) λh' ce k=>⟨_,H,I.kept k,?_,q⟩
 by_cases bP:j > i
 .rw[if_pos bP,if_pos bP];exact⟨_,rfl⟩
 .rw[if_neg bP,if_neg bP];exact⟨_,rfl⟩
theorem AY(a_:X.calm=true):YL X (.builtin "min") (λxs H Q=>∃i j,xs=[.int i,.int j]/\Q (.int (if j<i then j else i)) H):=by
 intro aq s ao H xs us Q I r h;obtain⟨i,j,rfl,q⟩:=h;obtain⟨u,eH,rfl,⟨t,rfl⟩,⟨t',rfl⟩⟩:=Zgf r;refine min_two_ints (I.ok.hd a_) λh' ce k=>⟨_,H,I.kept k,?_,q⟩
 by_cases bP:j<i
 .rw[if_pos bP,if_pos bP];exact⟨_,rfl⟩
 .rw[if_neg bP,if_neg bP];exact⟨_,rfl⟩
theorem Il:YL X (.type "int") (λxs H Q=>(∃i,xs=[.int i]/\Q (.int i) H)\/∃k,xs=[.bl k]/\Q (.int (if k then 1 else 0)) H):=by
 intro aq s ao H xs us Q I r h;rcases h with⟨i,rfl,q⟩|⟨k,rfl,q⟩
 .obtain⟨u,rfl,t,rfl⟩:=W8 r;exact call_int_int ⟨.int i,H,I,⟨_,rfl⟩,q⟩
 .obtain⟨u,rfl,cE⟩:=W8 r;cases cE;exact call_int_bool ⟨.int (if k then 1 else 0),H,I.tok _,⟨_,rfl⟩,q⟩
def Zbu(K:Frag)(x:V)(H:Hp)(n:Nat):Prop:=
 match x with
 | .str y=>y.length<=sizeLine/\n=y.length
 | .byt y=>y.size<=sizeLine/\n=y.size
 | .ref p=>(∃xs,SqL K H p xs/\n=xs.length)\/∃xs,SqT K H p xs/\n=xs.length
 |_=>False
theorem Im:YL X (.builtin "len") (λxs H Q=>∃x n,xs=[x]/\Zbu X.K x H n/\Q (.int n) H):=by
 intro aq s ao H xs us Q I r h;obtain⟨x,n,rfl,e,q⟩:=h;obtain⟨u,rfl,cy⟩:=W8 r;have ap:=oe;have hs:sizeLine=16777216:=sizeLine_eq;cases x with
 |str y=>
  obtain⟨t,rfl⟩:=cy;obtain⟨bW,cv⟩:y.length<=sizeLine/\n=y.length:=e;subst cv;exact len_str ∅ ⟨.int _,H,I.tok _,⟨_,rfl⟩,q⟩
 |byt y=>
  obtain⟨t,rfl⟩:=cy;obtain⟨bW,cv⟩:y.size<=sizeLine/\n=y.size:=e;subst cv;exact PySem.W.len_bytes ∅ ⟨.int _,H,I.tok _,⟨_,rfl⟩,q⟩
 |ref p=>
  cases cy;have cv:(∃xs,SqL X.K H p xs/\n=xs.length)\/∃xs,SqT X.K H p xs/\n=xs.length:=e;rcases cv with⟨xs,ar,cv⟩|⟨xs,ar,cv⟩
  .subst cv;obtain⟨its,c',pl,bU⟩:=I.list ar;have dY:=c'.length;exact Calls.call_len_list pl.isList (by simp only[qah];omega) ⟨.int xs.length,H,I.tok _,⟨_,by simp only[qah];rw[dY]⟩,q⟩
  .subst cv;obtain⟨its,c',pl,bU⟩:=I.tuple ar;have dY:=c'.length;exact len_tuple pl (by simp only[qah];omega) ⟨.int xs.length,H,I.tok _,⟨_,by simp only[qah];rw[dY]⟩,q⟩
 |_=>exact(show False from e).elim
end
structure og(h:Heap)(x dx C:Addr)(er:Str->Option Value):Prop where
 obj:h.get? x=some (instObj C dx)
 ns:h.Ns1 dx er
 ne:dx≠x
theorem Zkx{h:Heap}{dx:Addr}{er:Str->Option Value}(n:h.Ns1 dx er):∃es,h.get? dx=some es/\∀name,lookIn name es=some (er name):=by
 obtain⟨o,b7,ep,b6,hd,bH,_,bL⟩:=n;refine⟨o,b6,λname=>?_⟩;have e:=bL name;unfold nsFind findBy at e;rw[<-Array.find?_toList] at e;unfold lookIn;rw[hd];dsimp only
 split
 .rename_i y q;rw[q] at e;exact congrArg some e
 .rename_i q;rw[q] at e;have a:b7.toList.any (·.refKey)=false:=by
   rw[List.any_eq_false];intro y bW;obtain⟨z,t,wb⟩:=bH y (Array.mem_toList_iff.mp bW);simp[DictEntry.refKey,wb]
  have c6:¬b7.toList.any (·.refKey)=true:=by rw[a];exact qam
  rw[if_neg c6];exact congrArg some e
theorem og.look{h:Heap}{x dx C:Addr}{er:Str->Option Value}(I:og h x dx C er):∃es,PySem.W.InstAt h x (instObj C dx) C (some es)/\∀name,lookIn name es=some (er name):=
 let⟨es,b6,ap⟩:=Zkx I.ns
 ⟨es,⟨I.obj,rfl,rfl,b6⟩,ap⟩
section
variable {prog:Program}{w:World}{A:Around}{E:Value->Shared->Prop}{s:Shared}{K:Frag}{x dx C f:Addr}{er:Str->Option Value}{name:Str}{v:Value}
theorem ZmO{Io:Bool}{Q:Value->Shared->Prop}(X:K.In s.heap)(I:og s.heap x dx C er)(bR:plainGet K C name=true)(b8:hasDictIn K C=true)
  (bK:PySem.W.findIn K (.ref C) name=some none) (cz:er name=some v) (pJ:handedIn v=true) (h:Q v {s with toks:=s.toks+1}):
  wpAny (model prog w) A (getAttr (.ref x) name Io) Q E s:=by
 obtain⟨es,J,ap⟩:=I.look;exact PySem.W.get_value X J (plainGet_of bR).1 (PySem.W.findObj_own b8 bK rfl (by rw[ap,cz])) pJ h
theorem Zl6{pl:Sem Bool}{Q:Value×List Value->Shared->Prop}(X:K.In s.heap)(I:og s.heap x dx C er)(bR:plainGet K C name=true)
  (bS:PySem.W.findIn K (.ref C) name=some (some (.ref f))) (bY:isFn K (.ref f)=true) (cz:er name=none) (h:Q (.ref f,[.ref x]) s):
  wpAny (model prog w) A (getMethod (.ref x) name pl) Q E s:=by
 obtain⟨es,J,ap⟩:=I.look;exact PySem.W.method_fn X J (plainGet_of bR).1 (plainGet_of bR).2 bS (beq_iff_eq.mp bY) (by show(lookIn name es).map (·.isSome)=some false;rw[ap,cz];rfl) h
theorem ZmC{ns:List Str}{Q:Unit->Shared->Prop}(X:K.In s.heap)(I:og s.heap x dx C er)
  (hs:PySem.W.findIn K (.ref C) "__setattr__" =some (some (.builtin "object.__setattr__"))) (bO:plainOver K C=true) (bY:takerIn K C name=some none) (b8:hasDictIn K C=true)
  (hw:PySem.Within er ns) (hsz:ns.length<=sizeLine)
  (h:∀h',og h' x dx C (λy=>if y=name then some v else er y)->Heap.SameBut dx s.heap h'->Q () {s with heap:=h',toks:=s.toks+2}):
  wpAny (model prog w) A (setAttr (.ref x) name v) Q E s:=by
 obtain⟨es,J,ap⟩:=I.look;refine PySem.W.set_plain X J hs (PySem.W.osa_open (s:={s with toks:=s.toks+1}) (r:=none) X J bO bY λb=>?_);obtain⟨cu,a_,ip⟩:=PySem.W.any_some b8;have ar:s.heap.get? x=some ⟨.ref C,some dx,.plain,#[]⟩:=I.obj;refine wpAny_bind (wpAny_pure (wpAny_bind (wpAny_bind (wpAny_loadPart ar (wpAny_bind (PySem.W.Looks.here (s:={s with toks:=s.toks+1}) (PySem.W.looks_clsIn X a_) ?_))))));rw[ip];refine wpAny_pure (a:=some dx) (wpAny_bind (wpAny_pure (wpAny_bind ?_)));refine wpAny_nsSet1 (s:={s with toks:=s.toks+1}) I.ns λh' kL fa=>?_;obtain⟨oD,TF,TH,Ip,Iq,mx⟩:=kL.count (PySem.Within.cons name v hw);refine wpAny_bind (wpAny_lookBehind Ip (by rw[Iq];exact pastItsLine_dict (qap mx (by rw[List.length_cons];omega))) ?_);exact wpAny_pure (h _ ⟨(fa.2 _ (qaY I.ne)).trans I.obj,kL,I.ne⟩ fa)
theorem AZ{R:Result->Shared->Prop}{vs:List Value}{kw:List (Str×Value)}(X:K.In s.heap)(bL:makesIn K C=true)
  (hi:PySem.W.findIn K (.ref C) "__init__" =some (some (.ref f))) (bS:typeIn K (.ref f)=some (.type "function"))
  (h:codeAny (model prog w) (A.under (.builtin "type.__call__" ⟨.ref C::vs,kw⟩)) (.call (.ref f) ⟨.ref (s.heap.objs.size+1)::vs,kw⟩) (PySem.W.InitBack (s.heap.objs.size+1) R)
   {s with heap:=(s.heap.push emptyDict).push (instObj C s.heap.objs.size)}):
  codeAny (model prog w) A (.call (.ref C) ⟨vs,kw⟩) R s:=by
 obtain⟨b8,g,d,t,os⟩:=s;exact PySem.W.make_core (PySem.W.makes_of X bL) (PySem.W.looks_findIn X hi) (λself=>PySem.W.bind_fn X self bS) (.inl rfl) h
end
noncomputable def gj (f:Str) (v:V):List (Str×V)->List (Str×V)
 | []=>[(f,v)]
 |(g,x)::r=>if g=f then(g,v)::r else(g,x)::gj f v r
theorem Zdj(f g:Str)(v:V):∀fs:List (Str×V),(gj f v fs).lookup g=if g=f then some v else fs.lookup g
 | []=>by
  show List.lookup g [(f,v)]=_
  by_cases h:g=f
  .have au:(g==f)=true:=beq_iff_eq.mpr h;simp only[List.lookup,au,if_pos h]
  .have au:(g==f)=false:=beq_eq_false_iff_ne.mpr h;simp only[List.lookup,au,if_neg h]
 |(k,x)::r=>by
  have b_:=Zdj f g v r;rw[show gj f v ((k,x)::r)=(if k=f then(k,v)::r else(k,x)::gj f v r) from rfl]
  by_cases bH:k=f
  .rw[if_pos bH]
   by_cases h:g=k
   .have au:(g==k)=true:=beq_iff_eq.mpr h;simp only[List.lookup,au,if_pos (h.trans bH)]
   .have au:(g==k)=false:=beq_eq_false_iff_ne.mpr h;simp only[List.lookup,au,if_neg (λe:g=f=>h (e.trans bH.symm))]
  .rw[if_neg bH]
   by_cases h:g=k
   .have au:(g==k)=true:=beq_iff_eq.mpr h;simp only[List.lookup,au,if_neg (λe:g=f=>bH (h.symm.trans e))]
   .have au:(g==k)=false:=beq_eq_false_iff_ne.mpr h;simp only[List.lookup,au];exact b_
theorem wc(f:Str)(v:V):∀fs:List (Str×V),f∈(gj f v fs).map (·.1)/\∀g,g∈fs.map (·.1)->g∈(gj f v fs).map (·.1)
 | []=>⟨by simp[gj],λg h=>by simp at h⟩
 |(k,x)::r=>by
  obtain⟨dF,eb⟩:=wc f v r;rw[show gj f v ((k,x)::r)=(if k=f then(k,v)::r else(k,x)::gj f v r) from rfl]
  by_cases bH:k=f
  .rw[if_pos bH];subst bH;exact⟨by simp,λg h=>by simpa using h⟩
  .rw[if_neg bH];refine⟨?_,λg h=>?_⟩
   .rw[List.map_cons];exact qaj _ dF
   .rw[List.map_cons] at h|-;rcases qaf.mp h with e|e
    .exact qaf.mpr (.inl e)
    .exact qaj _ (eb g e)
theorem Zdn(f:Str)(v:V):∀fs:List (Str×V),(gj f v fs).length<=fs.length+1
 | []=>by simp[gj]
 |(k,x)::r=>by
  have b_:=Zdn f v r;rw[show gj f v ((k,x)::r)=(if k=f then(k,v)::r else(k,x)::gj f v r) from rfl]
  by_cases bH:k=f
  .rw[if_pos bH,List.length_cons,List.length_cons];omega
  .rw[if_neg bH,List.length_cons,List.length_cons];omega
theorem im.some_of{v:V}{o:Option Value}(r:im (some v) o):∃u,o=some u/\c4 v u:=by
 cases o with
 |none=>exact(show False from r).elim
 |some u=>exact⟨u,rfl,r⟩
theorem im.none_of{o:Option Value}(r:im none o):o=none:=by
 cases o with
 |none=>rfl
 |some u=>exact(show False from r).elim
theorem Ir{v:V}{u:Value}(r:c4 v u):handedIn u=true:=by
 cases v with
 |non=>cases (show u=Value.none from r);rfl
 |bl b=>cases (show u=Value.bool b from r);rfl
 |int i=>obtain⟨t,e⟩:=(show ∃t,u=Value.int i t from r);cases e;rfl
 |str x=>obtain⟨t,e⟩:=(show ∃t,u=Value.str x t from r);cases e;rfl
 |byt b=>obtain⟨t,e⟩:=(show ∃t,u=Value.bytes b t from r);cases e;rfl
 |flt b=>obtain⟨t,e⟩:=(show ∃t,u=Value.float b t from r);cases e;rfl
 |ref a=>cases (show u=Value.ref a from r);rfl
 |ty n=>cases (show u=Value.type n from r);rfl
section
variable {P:Program}{w:World}{H aj:Hp}{h h':Heap}{a C dx:Addr}{fs tq:List (Str×V)}
theorem ZcL(hok:HOk P w H h)(e:H a=some (.ins C dx fs)):∃er,og h a dx C er/\(∀f,im (fs.lookup f) (er f))/\PySem.Within er (fs.map (·.1))/\fs.length<=1000/\H dx=some (.own a):=by
 obtain⟨d,z,ne,dj,er,n,r,q⟩:=(show Z3 P w H h a (.ins C dx fs) from hok a _ e);exact⟨er,⟨dj,n,ne⟩,r,q,z,d⟩
end
structure Cls(K:Frag)(C:Addr):Prop where
 pg:plainGet K C Str.empty=true
 hd:hasDictIn K C=true
 po:plainOver K C=true
 sa:PySem.W.findIn K (.ref C) "__setattr__" =some (some (.builtin "object.__setattr__"))
theorem Cls.get{K:Frag}{C:Addr}(c:Cls K C)(f:Str):plainGet K C f=true:=c.pg
def jb(K:Frag)(C:Addr)(f:Str):Prop:=PySem.W.findIn K (.ref C) f=some none
theorem jb.taker{K:Frag}{C:Addr}{f:Str}(n:jb K C f):takerIn K C f=some none:=by
 unfold takerIn;rw[show PySem.W.findIn K (.ref C) f=some none from n]
 rfl
structure ZdD(K:Frag)(C:Addr)(m:Str)(f:Addr):Prop where
 at_:PySem.W.findIn K (.ref C) m=some (some (.ref f))
 fn:isFn K (.ref f)=true
 kp:keepIn K (.ref f)=true
section
variable {X:Cx}{aq:List (Addr×Obj)}{ao:St}{H:Hp}{s:Shared}{a C dx:Addr}{fs:List (Str×V)}{f:Str}{v:V}{A:Around}{E:Value->Shared->Prop}
theorem Zjw{b:Bool}{Q:Value->Shared->Prop}(I:Inv X aq ao H s)(e:H a=some (.ins C dx fs))(c:Cls X.K C)(n:jb X.K C f)(l:fs.lookup f=some v)
  (h:∀u s',Inv X aq ao H s'->c4 v u->Q u s'):wpAny (model X.prog X.w) A (getAttr (.ref a) f b) Q E s:=by
 obtain⟨er,O,r,_,_,_⟩:=ZcL I.hok e;obtain⟨u,hu,fv⟩:=im.some_of (v:=v) (o:=er f) (by rw[<-l];exact r f);exact ZmO I.kIn O (c.get f) c.hd n hu (Ir fv) (h u _ (I.tok _) fv)
theorem UH{m:Str}{g:Addr}{pl:Sem Bool}{Q:Value×List Value->Shared->Prop}(I:Inv X aq ao H s)(e:H a=some (.ins C dx fs))(c:Cls X.K C)(k:ZdD X.K C m g)(l:fs.lookup m=none)
  (h:Q (.ref g,[.ref a]) s):wpAny (model X.prog X.w) A (getMethod (.ref a) m pl) Q E s:=by
 obtain⟨er,O,r,_,_,_⟩:=ZcL I.hok e;have b':er m=none:=im.none_of (by rw[<-l];exact r m);exact Zl6 I.kIn O (c.get m) k.at_ k.fn b' h
theorem Zjv{y:V}{u:Value}{Q:Unit->Shared->Prop}(I:Inv X aq ao H s)(e:H a=some (.ins C dx fs))(c:Cls X.K C)(n:jb X.K C f)(ap:fs.length<1000)(cI:c4 y u)
  (h:∀s',Inv X aq ao (upd H a (.ins C dx (gj f y fs))) s'->Q () s'):wpAny (model X.prog X.w) A (setAttr (.ref a) f u) Q E s:=by
 obtain⟨er,O,r,e1,_,b6⟩:=ZcL I.hok e;have bU:(fs.map (·.1)).length<=sizeLine:=by rw[GM,sizeLine_eq];omega
 refine ZmC I.kIn O c.sa c.po n.taker c.hd e1 bU λh' O' iQ=>h _ ?_;have hd:∃o,h'.get? dx=some o:=let⟨o,_,_,cv,_⟩:=O'.ns;⟨o,cv⟩
 refine I.write (x:=a) (e:=dx) (by rw[e];exact True.intro) (.inr b6) (λb q au z=>(iQ.2 b au).trans z) hd ?_;refine⟨by rw[b3 O.ne];exact b6,?_,O.ne,O'.obj,_,O'.ns,λg=>?_,λg bR=>?_⟩
 .have:=Zdn f y fs;omega
 .show im ((gj f y fs).lookup g) (if g=f then some u else er g);rw[Zdj]
  by_cases q:g=f
  .rw[if_pos q,if_pos q];exact cI
  .rw[if_neg q,if_neg q];exact r g
 .by_cases q:g=f
  .rw[q];exact(wc f y fs).1
  .refine(wc f y fs).2 g (e1 g λz=>bR ?_);show(if g=f then some u else er g)=none;rw[if_neg q];exact z
theorem Inv.made(I:Inv X aq ao H s):Inv X aq ao (upd (upd H s.heap.objs.size (.own (s.heap.objs.size+1))) (s.heap.objs.size+1) (.ins C s.heap.objs.size []))
  {s with heap:=(s.heap.push emptyDict).push (instObj C s.heap.objs.size)}:=by
 have bJ:(s.heap.push emptyDict).get? s.heap.objs.size=some emptyDict:=Heap.get?_push_size s.heap rfl;have bX:((s.heap.push emptyDict).push (instObj C s.heap.objs.size)).get? (s.heap.objs.size+1)=some (instObj C s.heap.objs.size):=by
  have:=Heap.get?_push_size (s.heap.push emptyDict) (o:=instObj C s.heap.objs.size) rfl
  rwa [Heap.size_push] at this
 have dn:(s.heap.push emptyDict).Ns s.heap.objs.size (λ_=>none):=⟨emptyDict,#[],_,bJ,rfl,(λe b9=>absurd b9 (by simp)),λ_=>rfl⟩;have bT:=I.laid (a:=s.heap.objs.size) (o:= .own (s.heap.objs.size+1)) (h':=s.heap.push emptyDict) (t':=s.toks) (λb u q=>Heap.get?_push_of_some _ q) (qaa _) ⟨_,bJ⟩;refine bT.laid (a:=s.heap.objs.size+1) (o:= .ins C s.heap.objs.size []) (t':=s.toks) (λb u q=>Heap.get?_push_of_some _ q) (Nat.le_of_eq (Heap.size_push _ _)) ?_;have ne:s.heap.objs.size≠s.heap.objs.size+1:=qas (Nat.lt_succ_self _);refine⟨by rw[b3 ne,Ze],qar _,ne,bX,λ_=>none,(Heap.Ns1.of_empty dn).at λo q=>Heap.get?_push_of_some _ q,λ_=>True.intro,λy bW=>absurd rfl bW⟩
theorem Zm1{prog:Program}{w:World}{env:Env}{e:Expr}{f:Str}{pos:Pos}{s:Shared}{Q:Value->Shared->Prop}(au:attributeBase e f env (eval e env)=eval e env)
  (h:wpAny (model prog w) A (eval e env) (λo dL=>wpAny (model prog w) A (getAttr o f true) Q E dL) E s):wpAny (model prog w) A (eval (.Attribute e f pos) env) Q E s:=
 Attribute_any_ h (by rw[arm_eval_Attribute,au])
end
def wd (K:Frag) (cp:TE) (f:Str):TE:=λao H Q=>cp ao H λx aA=>∃a C dx fs v,x= .ref a/\aA a=some (.ins C dx fs)/\Cls K C/\jb K C f/\fs.lookup f=some v/\Q v aA
def we (K:Frag) (cp fK:TE) (f:Str):TS:=λD ao H=>fK ao H λy aA=>cp ao aA λx aP=>∃a C dx fs,x= .ref a/\aP a=some (.ins C dx fs)/\Cls K C/\jb K C f/\fs.length<1000/\
 D.nx ao (upd aP a (.ins C dx (gj f y fs)))
section
variable {X:Cx}{o e value:Expr}{f:Str}{pos kH kI:Pos}{cp fK:TE}
theorem Zor(b9:PE X e cp)(au:attributeBase e f X.env (eval e X.env)=eval e X.env):PE X (.Attribute e f pos) (wd X.K cp f):=by
 intro aq s ao H Q I h;refine Zm1 au (thn (b9 aq s ao H _ I h) λu a' ⟨x,aA,bT,cy,a,C,dx,fs,v,ex,cw,c,n,l,q⟩=>?_);subst ex;obtain rfl:u=Value.ref a:=cy;exact Zjw bT cw c n l λts bQ cU fv=>⟨v,aA,cU,fv,q⟩
theorem Zn1(bK:PE X o cp)(cz:PE X value fK)(hs:swapsWith value (some (.Attribute o f kH)) pos.line X.env=pure false):PS X (.Assign [.Attribute o f kH] value pos) (we X.K cp fK f):=by
 intro aq s ao H D I h;refine plainObj_wpAny_Assign_Attribute (thn (cz aq s ao H _ I h) λu a' ⟨y,aA,bT,cI,q⟩=>thn (bK aq a' ao aA _ bT q) λdE bQ ⟨x,aP,cU,cy,a,C,dx,fs,ex,cw,c,n,l,cP⟩=>?_) hs;subst ex;obtain rfl:dE=Value.ref a:=cy;exact Zjv cU cw c n l cI λbV d_=>⟨ao,_,d_,cP⟩
theorem ZoG{pl:Sem Bool}{m:Str}{eD:Pos}{args:List Expr}{aq:List (Addr×Obj)}{s:Shared}{ao:St}{H:Hp}{Q:Value->Shared->Prop}{cM:TE}(b9:PE X e cM)(I:Inv X aq ao H s)
  (h:cM ao H λx aA=>∃a C dx fs g,x= .ref a/\aA a=some (.ins C dx fs)/\Cls X.K C/\ZdD X.K C m g/\fs.lookup m=none/\
   ∀a',Inv X aq ao aA a'->wpAny (model X.prog X.w) X.A (callWith pos (.ref g) [.ref a] (backTo pos (starEach args X.env)) (backToKw pos (keywordEach [] X.env))) Q X.xe a')
  (bY:eval (.Call (.Attribute e m eD) args [] pos) X.env=(do
   let dE<-eval e X.env
   standAt eD.atName
   let(f,first)<-holding [dE] (getMethod dE m pl)
   callWith pos f first (backTo pos (starEach args X.env)) (backToKw pos (keywordEach [] X.env)))):
  wpAny (model X.prog X.w) X.A (eval (.Call (.Attribute e m eD) args [] pos) X.env) Q X.xe s:=by
 refine methodCall_KW (pl:=pl) (thn (b9 aq s ao H _ I h) λu a' ⟨x,aA,bT,cy,a,C,dx,fs,g,ex,cw,c,k,l,q⟩=>?_) bY;subst ex;obtain rfl:u=Value.ref a:=cy;exact UH bT cw c k l (q a' bT)
end
section
variable {X:Cx}{aq:List (Addr×Obj)}{ao:St}{H:Hp}{s:Shared}{A:Around}{E:Value->Shared->Prop}{Q:Value->Shared->Prop}{c:Value}{b:Bool}
inductive WH(K:Frag)(H:Hp):V->Value->Prop where
 |non:WH K H .non (.type "NoneType")
 |bl (x:Bool):WH K H (.bl x) (.type "bool")
 |int (i:Int):WH K H (.int i) (.type "int")
 |str (x:Str):WH K H (.str x) (.type "str")
 |flt (x:UInt64):WH K H (.flt x) (.type "float")
 |lst {a:Addr} {xs:List V} (e:H a=some (.lst xs)):WH K H (.ref a) (.type "list")
 |frz {a:Addr} {o:Obj} {xs:List V} (e:H a=some (.frz o (.lst xs))):WH K H (.ref a) (.type "list")
 |tup {a:Addr} {xs:List V} (e:H a=some (.tup xs)):WH K H (.ref a) (.type "tuple")
 |dK {a:Addr} {kvs:List (Key×V)} (e:H a=some (.dK kvs)):WH K H (.ref a) (.type "dict")
 |dT {a:Addr} {kvs:List (List Key×V)} (e:H a=some (.dT kvs)):WH K H (.ref a) (.type "dict")
 |ins {a C dx:Addr} {fs:List (Str×V)} (e:H a=some (.ins C dx fs)) (cl:Cls K C) (bK:PySem.W.findIn K (.ref C) "__class__" =some (some (.builtin "object.__class__")))
   (b':PySem.W.specialIn K (.builtin "object.__class__") "__get__" =some (some (.builtin "getset_descriptor.__get__"))) (lB:PySem.W.takesIn K (.builtin "object.__class__")=some true)
   (bL:PySem.W.mroIn K C (.type "object")=some true):WH K H (.ref a) (.ref C)
theorem Zkj{x:V}{u t:Value}(I:Inv X aq ao H s)(cy:c4 x u)(ty:WH X.K H x t)(e:PySem.W.kitOne X.K t c=some b)(h:∀ce,Q (.bool b) {s with toks:=ce}):
  wpAny (model X.prog X.w) A (call (.builtin "isinstance") [u,c]) Q E s:=by
 cases ty with
 |non=>cases (show u=Value.none from cy);exact qbg PySem.W.kitx_none I.kIn True.intro e (λz=>nomatch z) h
 |bl y=>cases (show u=Value.bool y from cy);exact qbg PySem.W.kitx_bool I.kIn True.intro e (λz=>nomatch z) h
 |int i=>obtain⟨t,q⟩:=(show ∃t,u=Value.int i t from cy);cases q;exact qbg PySem.W.kitx_int I.kIn True.intro e (λz=>nomatch z) h
 |str y=>obtain⟨t,q⟩:=(show ∃t,u=Value.str y t from cy);cases q;exact qbg PySem.W.kitx_str I.kIn True.intro e (λz=>nomatch z) h
 |flt y=>obtain⟨t,q⟩:=(show ∃t,u=Value.float y t from cy);cases q;exact qbg PySem.W.kitx_float I.kIn True.intro e (λz=>nomatch z) h
 | @lst a xs cw=>
  cases (show u=Value.ref a from cy);obtain⟨_,_,n,_,ay⟩:=(show Z3 X.prog X.w H s.heap a (.lst xs) from I.hok a _ cw);exact qbg kitx_list I.kIn ⟨_,ay,rfl⟩ e (λz=>nomatch z) h
 | @frz a dj xs cw=>
  cases (show u=Value.ref a from cy);obtain⟨_,_,_,n,_,ay⟩:=(show Z3 X.prog X.w H s.heap a (.frz dj (.lst xs)) from I.hok a _ cw);exact qbg kitx_list I.kIn ⟨_,ay,rfl⟩ e (λz=>nomatch z) h
 | @tup a xs cw=>
  cases (show u=Value.ref a from cy);obtain⟨_,_,_,p⟩:=(show Z3 X.prog X.w H s.heap a (.tup xs) from I.hok a _ cw);obtain⟨o,ay,aD,_⟩:=p;exact qbg PySem.W.kitx_tuple I.kIn ⟨o,ay,aD⟩ e (λz=>nomatch z) h
 | @dK a kvs cw=>
  cases (show u=Value.ref a from cy);obtain⟨_,_,vs,_,p⟩:=(show Z3 X.prog X.w H s.heap a (.dK kvs) from I.hok a _ cw);obtain⟨o,b7,ep,ay,aD,_⟩:=p;exact qbg kitx_dict I.kIn ⟨o,ay,aD.1⟩ e (λz=>nomatch z) h
 | @dT a kvs cw=>
  cases (show u=Value.ref a from cy);obtain⟨_,_,xs,_,o,b7,ep,ay,aD,_⟩:=(show Z3 X.prog X.w H s.heap a (.dT kvs) from I.hok a _ cw);exact qbg kitx_dict I.kIn ⟨o,ay,aD.1⟩ e (λz=>nomatch z) h
 | @ins a C dx fs cw cl bK b' lB bL=>
  cases (show u=Value.ref a from cy);obtain⟨er,O,_⟩:=ZcL I.hok cw;obtain⟨es,J,_⟩:=O.look;exact qbg (PySem.W.kitx_own (cl.get _) cl.hd bK b' lB bL) I.kIn J e (λz=>nomatch z) h
end
structure ez(k:Nat)(A:Around):Prop where
 hd:A.handled=none
 dp:A.depth+3*k+5<recursionLimit
 un:A.units+16*k+200<cLine
theorem ez.mono{j k:Nat}{A:Around}(r:ez k A)(h:j<=k):ez j A:=⟨r.hd,by have:=r.dp;omega,by have:=r.un;omega⟩
theorem ez.deeper{k:Nat}{A:Around}(r:ez (k+1) A)(env:Env):ez k (A.deeper env):=
 ⟨r.hd,by have:=r.dp;show A.depth+1+3*k+5<_;omega,by have:=r.un;show A.units+3+16*k+200<_;omega⟩
theorem ZiE{A:Around}{C:Addr}{us:List Value}{kw:List (Str×Value)}:(A.under (.builtin "type.__call__" ⟨.ref C::us,kw⟩)).depth=A.depth+1:=by
 first|rfl|simp[Around.under,Code.weight,Code.isCreation,Code.isGuard,Code.isCaller,Code.frames,Code.isFrame,guardIds]
theorem ZiP{A:Around}{C:Addr}{us:List Value}{kw:List (Str×Value)}:(A.under (.builtin "type.__call__" ⟨.ref C::us,kw⟩)).units=A.units+1:=by
 first|rfl|simp[Around.under,Code.cUnits,Code.frames,Code.isFrame]
theorem ez.make{k:Nat}{A:Around}(r:ez (k+1) A)(C:Addr)(us:List Value)(kw:List (Str×Value)):ez k (A.under (.builtin "type.__call__" ⟨.ref C::us,kw⟩)):=
 ⟨r.hd,by have:=r.dp;rw[ZiE];omega,by have:=r.un;rw[ZiP];omega⟩
theorem ez.depth{k:Nat}{A:Around}(r:ez k A):A.depth<recursionLimit:=by have:=r.dp;omega
theorem ez.units{k:Nat}{A:Around}(r:ez k A):A.units+64<cLine:=by have:=r.un;omega
def tNil:TA:=λ_ H Q=>Q [] H
def A0 (cp:TE) (b2:TA):TA:=λao H Q=>cp ao H λx aA=>b2 ao aA λxs aP=>Q (x::xs) aP
section
variable {X:Cx}{e:Expr}{b7:List Expr}{cM:TE}{t:TA}{pos:Pos}
theorem bG:PA X [] tNil:=λ_ _ _ _ H Q I h=>Calls.spliced_nil ⟨[],H,I,.nil,h⟩
theorem az(bK:PE X e cM)(aC:PA X b7 t)(hs:starEach (e::b7) X.env=(false,eval e X.env)::starEach b7 X.env:=by rfl):PA X (e::b7) (A0 cM t):=by
 intro pos aq s ao H Q I h;rw[hs];show wpAny _ _ (spliced ((false,eval e X.env)::backTo pos (starEach b7 X.env))) _ _ s;refine Calls.spliced_cons (thn (bK aq s ao H _ I h) λu a' ⟨x,aA,bT,cE,cJ⟩=>?_);exact thn (aC pos aq a' ao aA _ bT cJ) λus bQ ⟨xs,aP,cU,cY,cP⟩=>⟨x::xs,aP,cU,.cons cE cY,cP⟩
def A1 (t:TA):TE:=λao H Q=>t ao H λxs aA=>xs.length<=sizeLine/\∀p,aA p=none->Q (.ref p) (upd aA p (.tup xs))
def wf (t:TA):TE:=λao H Q=>t ao H λxs aA=>xs.length<=sizeLine/\∀p,aA p=none->Q (.ref p) (upd aA p (.lst xs))
theorem fz{x1}(h:PA X b7 t):PE X (.Tuple b7 x1 pos) (A1 t):=by
 intro aq s ao H Q I cC;refine wpAny_Tuple_spliced (thn (h pos aq s ao H _ I cC) λus a' ⟨xs,aA,bT,r,z,q⟩=>⟨by rw[<-r.length];exact z,?_⟩);have bS:aA a'.heap.objs.size=none:=bT.hok.fresh (qaa _);refine⟨.ref a'.heap.objs.size,upd aA a'.heap.objs.size (.tup xs),bT.laid (t':=a'.toks) (λb u e=>Heap.get?_push_of_some _ e) (qaa _) ?_,rfl,q _ bS⟩;exact⟨z,us,r,⟨_,Heap.get?_push_size _ rfl,rfl,_,rfl⟩⟩
theorem fA(h:PA X b7 t):PE X (.List b7 pos) (wf t):=by
 intro aq s ao H Q I cC;refine wpAny_List_spliced (thn (h pos aq s ao H _ I cC) λus a' ⟨xs,aA,bT,r,z,q⟩=>⟨by rw[<-r.length];exact z,?_⟩);have bS:aA a'.heap.objs.size=none:=bT.hok.fresh (qaa _);refine⟨.ref a'.heap.objs.size,upd aA a'.heap.objs.size (.lst xs),bT.laid (t':=a'.toks) (λb u e=>Heap.get?_push_of_some _ e) (qaa _) ?_,rfl,q _ bS⟩;exact⟨z,us,0,r,Heap.get?_push_size _ rfl⟩
end
noncomputable abbrev Sp:=List V->Hp->VK->XK->Prop
noncomputable abbrev CXT:=List Env->Hp->Shared->XK->Value->Shared->Prop
structure Zdy(P:Program)(w:World)(K:Frag)(mg:Str->Option Value)(base:Heap)(A:Around)(outer:List Env)(s:Shared)(H:Hp):Prop where
 frames:A.frames=some outer
 mod:Mod K mg base
 bs:∀b o,base.get? b=some o->s.heap.get? b=some o/\H b=none
 bsz:base.objs.size<=s.heap.objs.size
 funs:s.heap.FunFrames base outer
 frf:∀b∈frs outer,H b=none
 hok:HOk P w H s.heap
 bare:AllBare s.gens
def CE(outer:List Env)(P:Program)(w:World)(H:Hp)(s:Shared)(Q:VK)(u:Value)(s':Shared):Prop:=
 ∃v aj,s'.os=s.os/\AllBare s'.gens/\Un (frs outer) [] H aj s.heap s'.heap/\HOk P w aj s'.heap/\c4 v u/\Q v aj
def CR(CX:CXT)(outer:List Env)(P:Program)(w:World)(H:Hp)(s:Shared)(Q:VK)(E:XK)(r:Result)(s':Shared):Prop:=
 match r with
 | .ok (.ret u)=>CE outer P w H s Q u s'
 | .ok _=>False
 | .error e=>CX outer H s E e s'
structure YE(P:Program)(w:World)(K:Frag)(mg:Str->Option Value)(base:Heap)(CX:CXT)(k:Nat)(f:Addr)(fd:FuncData)(ci:List Str)(sp:Sp):Prop where
 len:∀vs H Q E,sp vs H Q E->vs.length=ci.length
 run:∀(A:Around)(outer:List Env)(s:Shared)(H:Hp)(args:Args)(us:List Value)(vs:List V)(Q:VK)(E:XK),ez k A->Zdy P w K mg base A outer s H->BindsTo s fd args (ci.zip us)->cW vs us->sp vs H Q E->
  codeAny (model P w) A (.call (.ref f) args) (CR CX outer P w H s Q E) s
theorem YE.mono{P:Program}{w:World}{K:Frag}{mg:Str->Option Value}{base:Heap}{CX:CXT}{j k:Nat}{f:Addr}{fd:FuncData}{ci:List Str}{sp:Sp}(F:YE P w K mg base CX j f fd ci sp)(h:j<=k):
  YE P w K mg base CX k f fd ci sp:=⟨F.len,λA outer s H args us vs Q E aC=>F.run A outer s H args us vs Q E (aC.mono h)⟩
theorem Zdy.make{P:Program}{w:World}{K:Frag}{mg:Str->Option Value}{base:Heap}{A:Around}{outer:List Env}{s:Shared}{H:Hp}(e:Zdy P w K mg base A outer s H)(C:Addr)(us:List Value)(kw:List (Str×Value)):
  Zdy P w K mg base (A.under (.builtin "type.__call__" ⟨.ref C::us,kw⟩)) outer s H:=⟨by first|exact e.frames|(simpa[Around.under,Code.envs,Code.isFrame,pushEnvs] using e.frames),e.mod,e.bs,e.bsz,e.funs,e.frf,e.hok,e.bare⟩
section
variable {X:Cx}{aq:List (Addr×Obj)}{ao:St}{H:Hp}{s s':Shared}
theorem Inv.env0(I:Inv X aq ao H s):Zdy X.prog X.w X.K X.mg X.base X.A X.stack s H:=
 ⟨I.ok.frames,I.ok.mod,I.bs,qap I.ok.bsz I.sz,I.stack,I.stkFree,I.hok,I.bare⟩
theorem Inv.after{Q:VK}{u:Value}(I:Inv X aq ao H s)(h:CE X.stack X.prog X.w H s Q u s'):EP X aq ao Q u s':=by
 obtain⟨v,aj,os,bare,un,hok,r,q⟩:=h;obtain⟨b8,g,d,t,Iu⟩:=s';obtain rfl:Iu=s.os:=os;exact⟨v,aj,I.call (h':=b8) (g':=g) (d':=d) (t':=t) (ch:=[]) un hok bare (λb z=>absurd z (by simp)),r,q⟩
end
def wg (sp:Sp) (dH:List V) (E:XK) (t:TA):TE:=λao H Q=>t ao H λvs aA=>sp (vs++dH) aA Q E
def q6 (C:Addr) (m:Str) (sp:Sp) (dH:List V) (E:XK) (cp:TE) (t:TA):TE:=λao H Q=>cp ao H λx aA=>∃a dx fs,x= .ref a/\aA a=some (.ins C dx fs)/\fs.lookup m=none/\
 t ao aA λvs aP=>sp (x::(vs++dH)) aP Q E
def q7 (C:Addr) (sp:Sp) (dH:List V) (E:XK) (t:TA):TE:=λao H Q=>t ao H λvs aA=>∀x dx,aA x=none->aA dx=none->dx≠x->
 sp (.ref x::(vs++dH)) (upd (upd aA dx (.own x)) x (.ins C dx [])) (λv aP=>v= .non/\Q (.ref x) aP) E
def Wp(K:Frag)(fd:FuncData)(ci:List Str)(cq:List Value):Prop:=
 ∀(s:Shared)(us:List Value),K.In s.heap->(us++cq).length=ci.length->BindsTo s fd ⟨us,[]⟩ (ci.zip (us++cq))
theorem Wp.all{K:Frag}{fd:FuncData}{ci:List Str}(h:∀us:List Value,us.length=ci.length->bindArgs fd ⟨us,[]⟩=pure (ci.zip us)):Wp K fd ci []:=λs us _ ap=>by
 rw[qbl] at ap|-;exact .of_eq (h us ap)
def WC(CX:CXT)(X:Cx)(E:XK):Prop:=∀(aq:List (Addr×Obj))(ao:St)(H:Hp)(s:Shared)(e:Value)(s':Shared),Inv X aq ao H s->CX X.stack H s E e s'->X.xe e s'
section
variable {X:Cx}{CX:CXT}{k:Nat}{f C:Addr}{fd:FuncData}{ci:List Str}{sp:Sp}{dH:List V}{cq:List Value}{E:XK}{x m:Str}{p pos eD:Pos}{e o:Expr}{b7:List Expr}{cp:TE}{t:TA}
theorem wh{aq:List (Addr×Obj)}{ao:St}{H:Hp}{s:Shared}{Q:VK}{us:List Value}{vs:List V}(F:YE X.prog X.w X.K X.mg X.base CX k f fd ci sp)(aC:ez k X.A)(au:Wp X.K fd ci cq)(hd:cW dH cq)(ar:WC CX X E)
  (I:Inv X aq ao H s) (r:cW vs us) (h:sp (vs++dH) H Q E):wpAny (model X.prog X.w) X.A (call (.ref f) us) (EP X aq ao Q) X.xe s:=by
 have cY:cW (vs++dH) (us++cq):=r.append hd;have ap:(us++cq).length=ci.length:=by rw[<-cY.length];exact F.len _ _ _ _ h
 refine wpAny_call (codeAny_mono (F.run X.A X.stack s H ⟨us,[]⟩ (us++cq) (vs++dH) Q E aC I.env0 (au s us I.kIn ap) cY h) λr s' cC=>?_);cases r with
 |error e=>exact ar aq ao H s e s' I cC
 |ok fl=>
  cases fl with
  |ret u=>exact I.after cC
  |next=>exact False.elim cC
  |brk=>exact False.elim cC
  |cont=>exact False.elim cC
theorem ZmR(F:YE X.prog X.w X.K X.mg X.base CX k f fd ci sp)(aC:ez k X.A)(bR:Gl X x)(bL:X.mg x=some (.ref f))(bH:keepIn X.K (.ref f)=true)(au:Wp X.K fd ci cq)(hd:cW dH cq)(ar:WC CX X E)
  (bK:PA X (e::b7) t) (fj:(x==("__debug__" :Str))=false:=by decide) (b9:starEach (e::b7) X.env=(false,eval e X.env)::starEach b7 X.env:=by rfl) (e2:(backTo pos (starEach b7 X.env)).any (·.1)=false:=by rfl):
  PE X (.Call (.Name x p) (e::b7) [] pos) (wg sp dH E t):=by
 intro aq s ao H Q I h;refine wpAny_Call_Name_kw (mn I bR bL ?_ fj);refine callWith_K (h₀:=X.base) I.ok.mod.kin bH (thn (bK pos aq s ao H _ I h) λus a' ⟨vs,aA,bT,r,q⟩=>⟨bT.kIn,?_⟩) b9 e2;exact wh F aC au hd ar bT r q
theorem tA{pl:Sem Bool}(b9:PE X o cp)(c:Cls X.K C)(bL:ZdD X.K C m f)(F:YE X.prog X.w X.K X.mg X.base CX k f fd ci sp)(aC:ez k X.A)(au:Wp X.K fd ci cq)(hd:cW dH cq)(ar:WC CX X E)(bK:PA X (e::b7) t)
  (dM:starEach (e::b7) X.env=(false,eval e X.env)::starEach b7 X.env:=by rfl) (e2:(backTo pos (starEach b7 X.env)).any (·.1)=false:=by rfl)
  (bY:eval (.Call (.Attribute o m eD) (e::b7) [] pos) X.env=(do
   let dE<-eval o X.env
   standAt eD.atName
   let(f,first)<-holding [dE] (getMethod dE m pl)
   callWith pos f first (backTo pos (starEach (e::b7) X.env)) (backToKw pos (keywordEach [] X.env))):=by rfl):
  PE X (.Call (.Attribute o m eD) (e::b7) [] pos) (q6 C m sp dH E cp t):=by
 intro aq s ao H Q I h;refine methodCall_KW (pl:=pl) (thn (b9 aq s ao H _ I h) λu a' ⟨x,aA,bT,cy,a,dx,fs,ex,cw,l,q⟩=>?_) bY;subst ex;obtain rfl:u=Value.ref a:=cy;refine UH bT cw c bL l ?_;refine callWith_K (first:=[.ref a]) (h₀:=X.base) I.ok.mod.kin bL.kp (thn (bK pos aq a' ao aA _ bT q) λus bQ ⟨vs,aP,cU,r,cP⟩=>⟨cU.kIn,?_⟩) dM e2;exact wh (us:= .ref a::us) (vs:= .ref a::vs) F aC au hd ar cU (.cons rfl r) cP
theorem ZlH{pl:Sem Bool}(b9:PE X o cp)(c:Cls X.K C)(bL:ZdD X.K C m f)(F:YE X.prog X.w X.K X.mg X.base CX k f fd ci sp)(aC:ez k X.A)(au:Wp X.K fd ci cq)(hd:cW dH cq)(ar:WC CX X E)
  (bY:eval (.Call (.Attribute o m eD) [] [] pos) X.env=(do
   let dE<-eval o X.env
   standAt eD.atName
   let(f,first)<-holding [dE] (getMethod dE m pl)
   callWith pos f first (backTo pos (starEach [] X.env)) (backToKw pos (keywordEach [] X.env))):=by rfl):
  PE X (.Call (.Attribute o m eD) [] [] pos) (q6 C m sp dH E cp tNil):=by
 intro aq s ao H Q I h;refine methodCall_KW (pl:=pl) (thn (b9 aq s ao H _ I h) λu a' ⟨x,aA,bT,cy,a,dx,fs,ex,cw,l,q⟩=>?_) bY;subst ex;obtain rfl:u=Value.ref a:=cy;refine UH bT cw c bL l ?_;exact callWith_K0 (first:=[.ref a]) bT.kIn bL.kp (wh (us:=[.ref a]) (vs:=[.ref a]) F aC au hd ar bT (.cons rfl .nil) q)
structure Mk(K:Frag)(C f:Addr):Prop where
 makes:makesIn K C=true
 init:PySem.W.findIn K (.ref C) "__init__" =some (some (.ref f))
 fn:isFn K (.ref f)=true
 kp:keepIn K (.ref C)=true
theorem A2{aq:List (Addr×Obj)}{ao:St}{H:Hp}{s:Shared}{Q:VK}{us:List Value}{vs:List V}(M:Mk X.K C f)(F:YE X.prog X.w X.K X.mg X.base CX k f fd ci sp)(aC:ez (k+1) X.A)(au:Wp X.K fd ci cq)(hd:cW dH cq)
  (ar:WC CX X E) (I:Inv X aq ao H s) (r:cW vs us)
  (h:∀x dx,H x=none->H dx=none->dx≠x->sp (.ref x::(vs++dH)) (upd (upd H dx (.own x)) x (.ins C dx [])) (λv aP=>v= .non/\Q (.ref x) aP) E):
  wpAny (model X.prog X.w) X.A (call (.ref C) us) (EP X aq ao Q) X.xe s:=by
 have cC:=h (s.heap.objs.size+1) s.heap.objs.size (I.hok.fresh (Nat.le_succ _)) (I.hok.fresh (qaa _)) (qas (Nat.lt_succ_self _));have cU:=Inv.made (C:=C) I;have cY:cW (V.ref (s.heap.objs.size+1)::(vs++dH)) (Value.ref (s.heap.objs.size+1)::(us++cq)):= .cons rfl (r.append hd);have ap:(Value.ref (s.heap.objs.size+1)::us++cq).length=ci.length:=by
  have e:=cY.length;rw[F.len _ _ _ _ cC] at e;exact e.symm
 refine wpAny_call (AZ (f:=f) I.kIn M.makes M.init (beq_iff_eq.mp M.fn) (codeAny_mono (F.run _ X.stack _ _ ⟨Value.ref (s.heap.objs.size+1)::us,[]⟩ (Value.ref (s.heap.objs.size+1)::(us++cq)) _ _ E (aC.make C us [])
  (cU.env0.make C us []) (au _ (Value.ref (s.heap.objs.size+1)::us) cU.kIn ap) cY cC) λr s' j8=>?_))
 cases r with
 |error e=>exact ar aq ao _ _ e s' cU j8
 |ok fl=>
  cases fl with
  |ret u=>
   obtain⟨v,aj,d_,dC,e3,gJ⟩:=cU.after j8;subst e3;exact⟨dC,⟨V.ref (s.heap.objs.size+1),aj,d_,rfl,gJ⟩⟩
  |next=>exact False.elim j8
  |brk=>exact False.elim j8
  |cont=>exact False.elim j8
theorem Zm4(M:Mk X.K C f)(F:YE X.prog X.w X.K X.mg X.base CX k f fd ci sp)(aC:ez (k+1) X.A)(bR:Gl X x)(bL:X.mg x=some (.ref C))(au:Wp X.K fd ci cq)(hd:cW dH cq)(ar:WC CX X E)
  (bK:PA X (e::b7) t) (fj:(x==("__debug__" :Str))=false:=by decide) (b9:starEach (e::b7) X.env=(false,eval e X.env)::starEach b7 X.env:=by rfl) (e2:(backTo pos (starEach b7 X.env)).any (·.1)=false:=by rfl):
  PE X (.Call (.Name x p) (e::b7) [] pos) (q7 C sp dH E t):=by
 intro aq s ao H Q I h;refine wpAny_Call_Name_kw (mn I bR bL ?_ fj);refine callWith_K (h₀:=X.base) I.ok.mod.kin M.kp (thn (bK pos aq s ao H _ I h) λus a' ⟨vs,aA,bT,r,q⟩=>⟨bT.kIn,?_⟩) b9 e2;exact A2 M F aC au hd ar bT r q
theorem ZlO(M:Mk X.K C f)(F:YE X.prog X.w X.K X.mg X.base CX k f fd ci sp)(aC:ez (k+1) X.A)(bR:Gl X x)(bL:X.mg x=some (.ref C))(au:Wp X.K fd ci cq)(hd:cW dH cq)(ar:WC CX X E)
  (fj:(x==("__debug__" :Str))=false:=by decide):PE X (.Call (.Name x p) [] [] pos) (q7 C sp dH E tNil):=by
 intro aq s ao H Q I h;refine wpAny_Call_Name_kw (mn I bR bL ?_ fj);exact callWith_K0 I.kIn M.kp (A2 (us:=[]) M F aC au hd ar I .nil h)
end
structure Zu(N P:List Str)(cf:Scope):Prop where
 kind:cf.kind= .function
 co:cf.isCoroutine=false
 gen:cf.isGenerator=false
 nd:N.Nodup
 pre:N.take P.length=P
 par:∀x∈P,cf.names.lookup x=some .local\/cf.names.lookup x=some .cell
 nofree:∀y∈cf.names,y.2≠ .free
theorem ZfG{kindOf:Str->Option NameKind}{x:Str}:∀{binds:List (Str×Value)}{m:Str->Option Value},(∀v,(x,v)∉binds)->bindL kindOf binds m x=m x
 | [],_,_=>rfl
 |(n,v)::r,m,h=>by
  unfold bindL;rw[ZfG λw hw=>h w (qaj _ hw)]
  split
  .have:x≠n:=by rintro rfl;exact h v qaL
   simp[this]
  .rfl
theorem Zfr{kindOf:Str->Option NameKind}{x:Str}:∀{binds:List (Str×Value)}{m:Str->Option Value},(∀v,(x,v)∉binds)->bindC kindOf binds m x=m x
 | [],_,_=>rfl
 |(n,v)::r,m,h=>by
  unfold bindC;rw[Zfr λw hw=>h w (qaj _ hw)]
  split
  .rfl
  .have:x≠n:=by rintro rfl;exact h v qaL
   simp[this]
theorem A3{kindOf:Str->Option NameKind}{x:Str}{v:Value}:∀{P:List Str}{vs:List Value}{i:Nat}{m:Str->Option Value},P.Nodup->P[i]? =some x->vs[i]? =some v->kindOf x=some .local->
  bindL kindOf (P.zip vs) m x=some v
 | [],_,_,_,_,h,_,_=>by simp at h
 |_::_,[],_,_,_,_,h,_=>by simp at h
 |p::P,w::vs,0,m,nd,ay,aD,bH=>by
  simp at ay aD;subst ay;subst aD;show bindL kindOf ((p,w)::P.zip vs) m p=_;unfold bindL;rw[ZfG λv cz=>(qb4.mp nd).1 (qb5 cz).1,if_pos bH];simp
 |p::P,w::vs,i+1,m,nd,ay,aD,bH=>by
  show bindL kindOf ((p,w)::P.zip vs) m x=_;unfold bindL;exact A3 (i:=i) (qb4.mp nd).2 (by simpa using ay) (by simpa using aD) bH
theorem ZfS{kindOf:Str->Option NameKind}{x:Str}{v:Value}:∀{P:List Str}{vs:List Value}{i:Nat}{m:Str->Option Value},P.Nodup->P[i]? =some x->vs[i]? =some v->kindOf x≠some .local->
  bindC kindOf (P.zip vs) m x=some v
 | [],_,_,_,_,h,_,_=>by simp at h
 |_::_,[],_,_,_,_,h,_=>by simp at h
 |p::P,w::vs,0,m,nd,ay,aD,bH=>by
  simp at ay aD;subst ay;subst aD;show bindC kindOf ((p,w)::P.zip vs) m p=_;unfold bindC;rw[Zfr λv cz=>(qb4.mp nd).1 (qb5 cz).1,if_neg bH];simp
 |p::P,w::vs,i+1,m,nd,ay,aD,bH=>by
  show bindC kindOf ((p,w)::P.zip vs) m x=_;unfold bindC;exact ZfS (i:=i) (qb4.mp nd).2 (by simpa using ay) (by simpa using aD) bH
noncomputable def start (N:List Str) (vs:List V):St:=vs.map some++List.replicate (N.length-vs.length) none
noncomputable def ZJ (CX:CXT) (P:Program) (w:World) (K:Frag) (mg:Str->Option Value) (base:Heap) (N:List Str) (qual:Str) (scope:Scope) (f:Addr) (cu:Value) (A:Around) (outer:List Env) (s:Shared) (H:Hp) (E:XK):Cx where
 prog:=P
 w:=w
 K:=K
 mg:=mg
 base:=base
 A:=A.deeper (envOfC qual scope s.heap.objs.size f cu)
 N:=N
 s₀:=s
 H₀:=H
 env:=envOfC qual scope s.heap.objs.size f cu
 outer:=outer
 stack:=envOfC qual scope s.heap.objs.size f cu::outer
 ex:=[]
 calm:=true
 fn:=λ_=>true
 pn:=[]
 xe:=λe s'=>wpAny (model P w) (A.deeper (envOfC qual scope s.heap.objs.size f cu)) (leaving (envOfC qual scope s.heap.objs.size f cu) e) (λ_ oh=>CX outer H s E e oh) (λcv oh=>CX outer H s E cv oh) s'
theorem Zgk{cf:Scope}{n:Nat}{x:Str}(h:cf.names.lookup x=some .cell):∃c,(cellsFrom n cf.names []).lookup x=some c:=by
 have q:=cellsFrom_some cf.names n [] (.inl h);exact qbJ.mp q
theorem Zj2{CX:CXT}{P:Program}{w:World}{K:Frag}{mg:Str->Option Value}{base:Heap}{N ci:List Str}{qual:Str}{scope:Scope}{f:Addr}{cu:Value}{A:Around}{outer:List Env}{s a':Shared}{H:Hp}{E:XK}{us:List Value}{vs:List V}
  (S:Zu N ci scope) (hd:A.handled=none) (gw:Zdy P w K mg base A outer s H) (ap:vs.length=ci.length) (r:cW vs us)
  (x:InCallC s s.heap.objs.size (bindL (envOfC qual scope s.heap.objs.size f cu).kindOf (ci.zip us) λ_=>none) (cellsFrom (s.heap.objs.size+1) scope.names []) (bindC (envOfC qual scope s.heap.objs.size f cu).kindOf (ci.zip us) λ_=>none) a'):
  Inv (ZJ CX P w K mg base N qual scope f cu A outer s H E) [] (start N vs) H a':=by
 have e2:ci.length<=N.length:=by have:=congrArg List.length S.pre;rw[qaI] at this;omega
 obtain⟨ay,ce,rfl,bH⟩:=x.done;have q8:∀b:Addr,b∉(ZJ CX P w K mg base N qual scope f cu A outer s H E).ex:=λb z=>absurd (show b∈([]:List Addr) from z) (by simp);refine⟨⟨gw.mod,S.kind,rfl,rfl,qaa _,λy z c ay aD=>?_,λy bW=>?_,λy c _ h=>?_,λ_=>hd,Around.frames_deeper gw.frames,.inr ⟨rfl,rfl⟩,λb z=>absurd z (q8 b),gw.bs,gw.bsz,λb _ _=>q8 b,λb z=>absurd z (q8 b),gw.funs,gw.frf⟩,
  rfl,gw.bare,Un.kept bH,⟨_,x.toInCall.ns,λi y v ay aD cj=>?_⟩,λy c h=>⟨_,x.cell y c h⟩,gw.hok.fresh (qaa _),λy c h=>?_,λp bO=>absurd (show p∈([]:List (Addr×Obj)) from bO) (by simp),gw.hok.kept bH,?_⟩
 .exact name_of_addr x.apart (qbA ay) (qbA aD)
 .have bW:scope.names.lookup y=some .cell\/scope.names.lookup y=some .free:=bW;rcases bW with bW|bW
  .exact Zgk bW
  .exact absurd rfl (S.nofree _ (qbA bW))
 .exact qbh (x.above y c (qbA h))
 .have hi:i<vs.length:=by
   unfold start at aD
   by_cases hi:i<vs.length
   .exact hi
   .rw[qaS (by simpa using hi)] at aD;rw[List.getElem?_replicate] at aD
    split at aD<;>cases aD
  have bK:vs[i]? =some v:=by
   unfold start at aD;rw[qaZ (by simpa using hi),qao] at aD;cases e:vs[i]? with
   |none=>rw[e] at aD;cases aD
   |some a=>rw[e] at aD;cases aD;rfl
  obtain⟨u,hu,dC⟩:=r.get bK;have bO:ci[i]? =some y:=by
   rw[<-S.pre,List.getElem?_take_of_lt ∅];exact ay
  have A4:ci.Nodup:=by rw[<-S.pre];exact S.nd.sublist (List.take_sublist _ _)
  refine⟨u,dC,?_⟩;rcases S.par y (qau bO) with k|k
  .exact .inl ⟨k,A3 A4 bO hu k⟩
  .obtain⟨c,e⟩:=Zgk (n:=s.heap.objs.size+1) k;refine .inr ⟨.inl k,c,e,?_⟩;have q:=x.cell y c e;rw[ZfS A4 bO hu (by show scope.names.lookup y≠_;rw[k];decide)] at q;exact q
 .exact gw.hok.fresh (qbh (x.above y c (qbA h)))
 .unfold start;show _=N.length;rw[qag,GM,qa8];omega
theorem Zmc{CX:CXT}{P:Program}{w:World}{K:Frag}{mg:Str->Option Value}{base:Heap}{k:Nat}{f:Addr}{name qual:Str}{params:Arguments}{body:List Stmt}{scope:Scope}{tD kV fR fk cD ct f4:Value}{an es:Option Addr}
  {hy:Array (Option Value)} {N ci:List Str} {sp:Sp} (lk:K.lookup f=some ⟨f4,es,.func (fnOf name qual params body scope tD kV fR fk an cD ct),hy⟩) (gi:codeIn K cD qual=true) (S:Zu N ci scope)
  (len:∀vs H Q E,sp vs H Q E->vs.length=ci.length)
  (q9:∀(A:Around)(outer:List Env)(s:Shared)(H:Hp)(vs:List V)(Q:VK)(E:XK),ez k (A.deeper (envOfC qual scope s.heap.objs.size f cD))->sp vs H Q E->
   ∃t,PSs (ZJ CX P w K mg base N qual scope f cD A outer s H E) body t/\t {nx:=λ_ aj=>Q .non aj,rt:=Q} (start N vs) H):
  YE P w K mg base CX (k+1) f (fnOf name qual params body scope tD kV fR fk an cD ct) ci sp:=by
 refine⟨len,λA outer s H args us vs Q E aC gw au r jc=>?_⟩;have ap:=len _ _ _ _ jc;have e4:K.In s.heap:=gw.mod.kin.keeps λb o e=>(gw.bs b o e).1;have Iv:s.heap.NoLimit:=gw.mod.nolimit.keeps λb o e=>(gw.bs b o e).1;have oi:∀y∈ci.zip us,scope.names.lookup y.1=some .local\/(scope.names.lookup y.1=some .cell/\((cellsFrom (s.heap.objs.size+1) scope.names []).lookup y.1).isSome=true):=λ⟨n,v⟩ bW=>by
  rcases S.par n (qb5 bW).1 with q|q
  .exact .inl q
  .exact .inr ⟨q,cellsFrom_some _ _ _ (.inl q)⟩
 refine codeAny_call_function aC.depth (e4 _ _ lk) rfl S.co S.gen rfl (PySem.W.codeRec_of e4 gi) (au _ _ _ _ ?_);refine wpAny_newFunctionEnv_cells S.kind oi λenv b9 a' x=>?_;subst b9;refine⟨Iv.keeps x.toInCall.keep,codeAny_func ?_⟩;obtain⟨t,bY,cC⟩:=q9 A outer s H vs Q E (aC.deeper _) jc;have I:Inv (ZJ CX P w K mg base N qual scope f cD A outer s H E) [] (start N vs) H a':=Zj2 S aC.hd gw ap r x;refine wpAny_mono (bY [] a' (start N vs) H _ I cC) (λfl s' hs=>?_) λe s' hs=>hs;have fI:∀{b1:St}{aj:Hp}{v:V}{u:Value},Inv (ZJ CX P w K mg base N qual scope f cD A outer s H E) [] b1 aj s'->c4 v u->Q v aj->CE outer P w H s Q u s':=
  λ{b1 aj v u} J dC q=>⟨v,aj,J.os,J.bare,J.base,J.hok,dC,q⟩
 cases fl with
 |ret u=>
  obtain⟨v,b1,aj,J,dC,q⟩:=hs;exact fI J dC q
 |next=>
  obtain⟨b1,aj,J,q⟩:=hs;exact fI (v:=V.non) (u:=Value.none) J rfl q
 |brk=>
  obtain⟨_,_,_,q⟩:=hs;exact False.elim q
 |cont=>
  obtain⟨_,_,_,q⟩:=hs;exact False.elim q
section
variable {X:Cx}{x:Str}{p pos:Pos}{e:Expr}{b7:List Expr}{t:TA}{id T:String}{r:List V->Hp->VK->Prop}
def tCB (r:List V->Hp->VK->Prop) (t:TA):TE:=λao H Q=>t ao H λvs aA=>r vs aA Q
theorem dk(a_:YL X (.builtin id) r)(bR:Gl X x)(bL:X.mg x=none)(cz:bootBuiltins x=some (.builtin id))(bK:PA X (e::b7) t)(b':x≠"__name__" :=by decide)(fj:(x==("__debug__" :Str))=false:=by decide)
  (b9:starEach (e::b7) X.env=(false,eval e X.env)::starEach b7 X.env:=by rfl) (e2:(backTo pos (starEach b7 X.env)).any (·.1)=false:=by rfl):PE X (.Call (.Name x p) (e::b7) [] pos) (tCB r t):=by
 intro aq s ao H Q I h;refine wpAny_Call_Name_kw (ly I bR bL cz ?_ b' fj);exact PyProof.Rows.callWith_builtin1 (thn (bK pos aq s ao H _ I h) λus a' ⟨vs,aA,bT,cE,cJ⟩=>a_ aq a' ao aA vs us Q bT cE cJ) b9 e2
theorem iv(a_:YL X (.type T) r)(bR:Gl X x)(bL:X.mg x=none)(cz:bootBuiltins x=some (.type T))(bK:PA X (e::b7) t)(b':x≠"__name__" :=by decide)(fj:(x==("__debug__" :Str))=false:=by decide)
  (b9:starEach (e::b7) X.env=(false,eval e X.env)::starEach b7 X.env:=by rfl) (e2:(backTo pos (starEach b7 X.env)).any (·.1)=false:=by rfl):PE X (.Call (.Name x p) (e::b7) [] pos) (tCB r t):=by
 intro aq s ao H Q I h;refine wpAny_Call_Name_kw (ly I bR bL cz ?_ b' fj);exact qaQ (thn (bK pos aq s ao H _ I h) λus a' ⟨vs,aA,bT,cE,cJ⟩=>a_ aq a' ao aA vs us Q bT cE cJ) b9 e2
end
end _L
namespace HT
open PySem PyProof.Rows
section
variable {prog:Program}{w:World}{A:Around}{E:Value->Shared->Prop}{s:Shared}
theorem ZmQ{t b:Addr}{vs ws:List Value}{Q:Value->Shared->Prop}(bY:IsTup s.heap t vs.toArray)(au:IsTup s.heap b ws.toArray)(cz:vs≠[])
  (ay:ws=[]->Q (.ref t) s) (aD:ws≠[]->Q (.ref s.heap.objs.size) {s with heap:=s.heap.push {cls:= .type "tuple",data:= .seq (vs++ws).toArray}})
  (hsz:vs.length+ws.length<=sizeLine):wpAny (model prog w) A (binaryOp .Add (.ref t) (.ref b)) Q E s:=by
 obtain⟨⟨cls,dd,data,sl⟩,b6,a_,n,hd⟩:=id bY;obtain⟨⟨TM,tE,data2,A5⟩,tF,hQ,fL,kM⟩:=id au;simp only at a_ hd hQ kM;subst a_ hd hQ kM;have e:vs.toArray++ws.toArray=(vs++ws).toArray:=by simp
 by_cases hw:ws=[]
 .exact concat_meets ⟨_,b6,rfl⟩ ⟨_,tF,rfl⟩ noFill_tuple_add seq_tuple_add PySem.F.slot_tuple_add PySem.F.entry_tuple_add (PySem.F.args_tuple_add_2 _ _)
   (tuple_addW1 t b vs.toArray ws.toArray n fL dd tE sl A5 (by simpa using cz) (by simp[hw])) ⟨b6,tF,ay hw⟩
 .refine concat_meets ⟨_,b6,rfl⟩ ⟨_,tF,rfl⟩ noFill_tuple_add seq_tuple_add PySem.F.slot_tuple_add PySem.F.entry_tuple_add (PySem.F.args_tuple_add_2 _ _)
   (tuple_addW2 t b vs.toArray ws.toArray n fL dd tE sl A5 (by simpa using cz) (by simpa using hw) (by rw[qah,qah];exact hsz)) ⟨b6,tF,?_⟩
  rw[e];exact aD hw
noncomputable def sIx (n d:Nat):Option Int->Nat
 |none=>d
 |some v=>if v<0 then(v+(n:Int)).toNat else min v.toNat n
theorem ZlW(n d:Nat):sIx n d none=d:=rfl
theorem ZmB(n d k:Nat):sIx n d (some (k:Int))=min k n:=by
 show(if(k:Int)<0 then((k:Int)+(n:Int)).toNat else min (k:Int).toNat n)=min k n;rw[if_neg ∅,GT]
theorem Zny(n d:Nat)(hd:d<=n)(o:Option Int):sIx n d o<=n:=by
 cases o with
 |none=>exact hd
 |some v=>
  show(if v<0 then(v+(n:Int)).toNat else min v.toNat n)<=n
  by_cases cz:v<0
  .rw[if_pos cz];omega
  .rw[if_neg cz];exact Nat.min_le_right _ _
theorem Zid(v:Int)(n d:Nat):(if v<0 then max (v+(n:Int)) 0 else min v (n:Int))=((sIx n d (some v):Nat):Int):=by
 show(if v<0 then max (v+(n:Int)) 0 else min v (n:Int))=(((if v<0 then(v+(n:Int)).toNat else min v.toNat n):Nat):Int)
 by_cases cz:v<0
 .simp only[if_pos cz];omega
 .simp only[if_neg cz];omega
theorem ZjF(lo hi:Option Int)(n:Nat):Builtin.Slice.sliceAdjust lo hi 1 (n:Int)=(((sIx n 0 lo:Nat):Int),((sIx n n hi:Nat):Int)):=by
 have ay:¬((1:Int)<0):=by omega
 unfold Builtin.Slice.sliceAdjust;simp only[ay,if_false];refine Prod.ext ?_ ?_
 .cases lo with
  |none=>rfl
  |some v=>exact Zid v n 0
 .cases hi with
  |none=>rfl
  |some v=>exact Zid v n n
theorem Zi2(i j:Nat):Builtin.Slice.slicePlaces (i:Int) (j:Int) 1=j-i:=by
 unfold Builtin.Slice.slicePlaces;have ay:(1:Int) > 0:=by omega
 simp only[ay,if_true,Int.ediv_one]
 split<;>omega
theorem A6{v:Value}{o:Option Int}{Q:Option Int->Shared->Prop}(p:IsPart v o)(h:Q o s):wpAny (model prog w) A (Builtin.Slice.slicePartIndex v) Q E s:=by
 cases p with
 |none=>exact slicePart_none h
 |int i t=>exact slicePart_int h
theorem Iw{sl:Addr}{fB g6:Value}{lo hi:Option Int}{n:Nat}{Q:Int×Int×Nat->Shared->Prop}(hs:s.heap.IsSliceOf sl fB g6 .none)(pl:IsPart fB lo)(iS:IsPart g6 hi)
  (h:Q (((sIx n 0 lo:Nat):Int),1,sIx n n hi-sIx n 0 lo) s):wpAny (model prog w) A (Builtin.Slice.sliceApplied (.ref sl) (pure (n:Int))) Q E s:=by
 obtain⟨os,q_,j9,h3⟩:=id hs;unfold Builtin.Slice.sliceApplied Builtin.Slice.sliceFields;refine wpAny_bind (wpAny_bind (wpAny_field q_ h3 (x:=fB) rfl (wpAny_bind (wpAny_field q_ h3 (x:=g6) rfl (wpAny_bind (wpAny_field q_ h3 (x:= .none) rfl (wpAny_pure ?_)))))));refine wpAny_bind (slicePart_none ?_);show wpAny _ _ (if((1:Int)==0)=true then _ else _) _ _ s;rw[if_neg (by decide)];refine wpAny_bind (A6 pl (wpAny_bind (A6 iS (wpAny_bind (wpAny_pure ?_)))));show wpAny _ _ (match Builtin.Slice.sliceAdjust lo hi 1 (n:Int) with|(lo,hi)=>pure (lo,(1:Int),Builtin.Slice.slicePlaces lo hi 1)) _ _ s;rw[ZjF lo hi n];show wpAny _ _ (pure (((sIx n 0 lo:Nat):Int),(1:Int),Builtin.Slice.slicePlaces ((sIx n 0 lo:Nat):Int) ((sIx n n hi:Nat):Int) 1)) _ _ s;rw[Zi2];exact wpAny_pure h
theorem Ix(xs:Array Value)(i k:Nat):((List.range k).filterMap λ(m:Nat)=>xs[((i:Int)+(m:Int)*1).toNat]?).toArray=((xs.toList.drop i).take k).toArray:=by
 have e:(λ(m:Nat)=>xs[((i:Int)+(m:Int)*1).toNat]?)=λm=>xs[i+m]? :=by
  funext m
  have:((i:Int)+(m:Int)*1).toNat=i+m:=by omega
  rw[this]
 rw[e];have:=pick_run xs i k;rw[List.filterMap_map] at this;have bX:((λx=>xs[x]?)∘λx=>i+x)=λm=>xs[i+m]? :=rfl;rw[bX] at this;rw[this]
theorem ZcT{t sl:Addr}{items:Array Value}{fB g6:Value}{lo hi:Option Int}{Q:Value->Shared->Prop}(bY:IsTup s.heap t items)(hs:s.heap.IsSliceOf sl fB g6 .none)(pl:IsPart fB lo)(iS:IsPart g6 hi)
  (hw:¬(sIx items.size 0 lo=0/\sIx items.size items.size hi=items.size))
  (h:Q (.ref s.heap.objs.size) {s with heap:=s.heap.push {cls:= .type "tuple",data:= .seq ((items.toList.drop (sIx items.size 0 lo)).take (sIx items.size items.size hi-sIx items.size 0 lo)).toArray}})
  (hsz:items.size<=sizeLine):wpAny (model prog w) A (getItem (.ref t) (.ref sl)) Q E s:=by
 have tG:sizeOk (.seq ((items.toList.drop (sIx items.size 0 lo)).take (sIx items.size items.size hi-sIx items.size 0 lo)).toArray):=by
  show((items.toList.drop (sIx items.size 0 lo)).take (sIx items.size items.size hi-sIx items.size 0 lo)).toArray.size<=sizeLine;rw[qah,qaI,qcg,qbL];omega
 have bP:sIx items.size items.size hi<=items.size:=Zny _ _ (qaa _) hi;obtain⟨os,q_,j9,h3⟩:=id hs;have Iy:s.TypeIs (.ref sl) "slice" :=⟨os,q_,j9⟩;unfold getItem
 try with_reducible refine wpAny_holding ?_
 first|refine wpAny_bind (wpAny_pure ?_)|skip
 refine wpAny_bind (wpAny_sequenceKey bY.typeIs (by decide) ?_);refine wpAny_bind (wpAny_callSpecial?_slot (name:=Str.ofString "__getitem__") bY.typeIs qbK
  (wpAny_call_entry qbK bY.typeIs entry_tuple_getitem ?_ (args_tuple_getitem _ _)))
 show wpAny _ _ (Builtin.Tuple.tupleItemsOf (.ref t) >>= _) _ _ s;refine wpAny_bind (tupleItemsOf_ bY ?_);refine wpAny_bind (wpAny_typeOf Iy ?_);rw[if_pos (by decide)];refine wpAny_bind (Iw hs pl iS ?_);have my:¬((((sIx items.size 0 lo:Nat):Int)==0&&(1:Int)==1&&(sIx items.size items.size hi-sIx items.size 0 lo)==items.size)=true):=by
  intro q;rw[qbn,qbn] at q;have cJ:((sIx items.size 0 lo:Nat):Int)=0:=eq_of_beq q.1.1;have cP:sIx items.size items.size hi-sIx items.size 0 lo=items.size:=eq_of_beq q.2;exact hw ⟨∅,∅⟩
 show wpAny _ _ (if(((sIx items.size 0 lo:Nat):Int)==0&&(1:Int)==1&&(sIx items.size items.size hi-sIx items.size 0 lo)==items.size)=true then _ else _) _ _ s;rw[if_neg my,Ix]
 first
  |exact wpAny_bind (m:=Builtin.Tuple.tupleExact _) (wpAny_newObj_type (wpAny_pure ⟨_,rfl,wpAny_pure h⟩) tG)
  |exact wpAny_bind (m:=Builtin.Tuple.tupleExact _) (wpAny_newObj_type (wpAny_bind (wpAny_pure (wpAny_pure ⟨_,rfl,wpAny_pure h⟩))) tG)
  |exact wpAny_bind (wpAny_bind (m:=Builtin.Tuple.tupleExact _) (wpAny_newObj_type (wpAny_pure (wpAny_pure ⟨_,rfl,wpAny_pure h⟩)) tG))
  |exact wpAny_bind (wpAny_bind (m:=Builtin.Tuple.tupleExact _) (wpAny_newObj_type (wpAny_pure ⟨_,rfl,wpAny_pure h⟩) tG))
end
end HT
namespace _L
open PySem PySem.Spec PyProof.Rows
noncomputable abbrev TO:=St->Hp->(Option Int->Hp->Prop)->Prop
def PO(X:Cx)(e:Option Expr)(t:TO):Prop:=
 ∀(aq:List (Addr×Obj))(s:Shared)(ao:St)(H:Hp)(Q:Option Int->Hp->Prop),Inv X aq ao H s->t ao H Q->
  wpAny (model X.prog X.w) X.A (evalPart e X.env) (λu s'=>∃o aj,Inv X aq ao aj s'/\IsPart u o/\Q o aj) X.xe s
def tNoPart:TO:=λ_ H Q=>Q none H
def A7 (t:TE):TO:=λao H Q=>t ao H λx aA=>∃i,x= .int i/\Q (some i) aA
theorem A8{ns:List Int}:∀{us:List Value},cW (ns.map V.int) us->IntsAre us ns:=by
 induction ns with
 |nil=>intro us r;rw[List.map_nil] at r;cases r;exact .nil
 |cons n ns b_=>
  intro us r;rw[List.map_cons] at r;cases r with
  |cons cE cY=>
   obtain⟨t,e⟩:=cE;subst e;exact .cons n t (b_ cY)
section
variable {X:Cx}{e:Expr}{cM:TE}{lo hi:Option Expr}{dS th:TO}{pos eE:Pos}
theorem A9:PO X none tNoPart:=by
 intro aq s ao H Q I h;rw[evalPart_none];exact wpAny_pure ⟨none,H,I,.none,h⟩
theorem A_(h:PE X e cM):PO X (some e) (A7 cM):=by
 intro aq s ao H Q I hw;rw[evalPart_some];refine thn (h aq s ao H _ I hw) λu a' ⟨x,aA,bT,cE,cJ⟩=>?_;obtain⟨i,rfl,q⟩:=cJ;obtain⟨t,rfl⟩:=cE;exact⟨some i,aA,bT,.int i t,q⟩
def SlR(X:Cx)(r:V->Option Int->Option Int->Hp->VK->Prop):Prop:=
 ∀(aq:List (Addr×Obj))(s:Shared)(ao:St)(H:Hp)(x:V)(v fB g6:Value)(lo hi:Option Int)(sl:Addr)(Q:VK),Inv X aq ao H s->c4 x v->s.heap.IsSliceOf sl fB g6 .none->IsPart fB lo->IsPart g6 hi->r x lo hi H Q->
  ∃T id,typeLookup (.type T) "__getitem__" =pure (some (.builtin id))/\s.TypeIs v T/\wpAny (model X.prog X.w) X.A (getItem v (.ref sl)) (EP X aq ao Q) X.xe s
theorem SlR.or{r c':V->Option Int->Option Int->Hp->VK->Prop}(h:SlR X r)(h':SlR X c'):SlR X (λx lo hi H Q=>r x lo hi H Q\/c' x lo hi H Q):=by
 intro aq s ao H x v fB g6 lo hi sl Q I cy hs pl iS q;rcases q with q|q
 .exact h aq s ao H x v fB g6 lo hi sl Q I cy hs pl iS q
 .exact h' aq s ao H x v fB g6 lo hi sl Q I cy hs pl iS q
def tSl (r:V->Option Int->Option Int->Hp->VK->Prop) (cM:TE) (dS th:TO):TE:=λao H Q=>cM ao H λx aA=>dS ao aA λl aP=>th ao aP λu b5=>r x l u b5 Q
theorem A'{r:V->Option Int->Option Int->Hp->VK->Prop}(aC:SlR X r)(b9:PE X e cM)(ap:PO X lo dS)(hu:PO X hi th):PE X (.Subscript e (.Slice lo hi none eE) pos) (tSl r cM dS th):=by
 intro aq s ao H Q I h;refine Subscript_ (thn (b9 aq s ao H _ I h) λv a' ⟨x,aA,bT,cE,cJ⟩=>?_);refine wpAny_Slice (thn (ap aq a' ao aA _ bT cJ) λfB bQ ⟨l,aP,cU,pl,cP⟩=>thn (hu aq bQ ao aP _ cU cP) λg6 bV ⟨u,b5,d_,iS,gJ⟩=>?_);rw[evalPart_none];refine wpAny_pure ?_;have ob:Inv X aq ao b5 {bV with heap:=bV.heap.push {cls:= .type "slice",data:= .fields #[fB,g6,.none]}}:=d_.kept (t':=bV.toks) λb dj q=>Heap.get?_push_of_some _ q;obtain⟨T,id,c1,bY,bR⟩:=aC aq {bV with heap:=bV.heap.push {cls:= .type "slice",data:= .fields #[fB,g6,.none]}} ao b5 x v fB g6 l u bV.heap.objs.size Q ob cE (Heap.IsSliceOf.new ..) pl iS gJ;show wpAny (model X.prog X.w) X.A (subscriptTail e (.Slice lo hi none eE) v (.ref bV.heap.objs.size)) (EP X aq ao Q) X.xe {bV with heap:=bV.heap.push {cls:= .type "slice",data:= .fields #[fB,g6,.none]}};exact tail_any (ops:=[.ref bV.heap.objs.size,v]) bY c1 bR (by with_unfolding_all rfl)
noncomputable def kN (xs:List V) (lo hi:Option Int):List V:=(xs.drop (HT.sIx xs.length 0 lo)).take (HT.sIx xs.length xs.length hi-HT.sIx xs.length 0 lo)
theorem Ba(xs:List V)(lo hi:Option Int):(kN xs lo hi).length<=xs.length:=by
 unfold kN;rw[qaI,qcg];omega
def Bb (K:Frag):V->Option Int->Option Int->Hp->VK->Prop:=λx lo hi H Q=>∃a xs,x= .ref a/\SqT K H a xs/\
 ¬(HT.sIx xs.length 0 lo=0/\HT.sIx xs.length xs.length hi=xs.length)/\∀p,H p=none->Q (.ref p) (upd H p (.tup (kN xs lo hi)))
theorem IA:SlR X (Bb X.K):=by
 intro aq s ao H x v fB g6 lo hi sl Q I cy hs pl iS h;obtain⟨a,xs,rfl,ar,hw,q⟩:=h;cases cy;obtain⟨its,r,bY,bU⟩:=I.tuple ar;have dY:its.toArray.size=xs.length:=by rw[qah];exact r.length.symm
 refine⟨"tuple",_,qbK.lookup,bY.typeIs,?_⟩;refine HT.ZcT bY hs pl iS (by rw[dY];exact hw) ?_ (by rw[dY];exact bU);rw[dY];refine⟨.ref s.heap.objs.size,_,I.laid (t':=s.toks) (o:= .tup (kN xs lo hi)) (λb dj q=>Heap.get?_push_of_some _ q) (qaa _) ?_,rfl,q _ (I.hok.fresh (qaa _))⟩;exact⟨qap (Ba xs lo hi) bU,_,(r.drop (HT.sIx xs.length 0 lo)).take (HT.sIx xs.length xs.length hi-HT.sIx xs.length 0 lo),IsTup.new _ _⟩
def tH (K:Frag):R2:=λx y H Q=>∃a b xs ys,x= .ref a/\y= .ref b/\SqT K H a xs/\SqT K H b ys/\xs≠[]/\xs.length+ys.length<=sizeLine/\
 (ys=[]->Q (.ref a) H)/\(ys≠[]->∀p,H p=none->Q (.ref p) (upd H p (.tup (xs++ys))))
theorem cW.nil_iff{xs:List V}{us:List Value}(r:cW xs us):us=[]↔xs=[]:=by
 cases r with
 |nil=>simp
 |cons _ _=>simp
theorem IB:OpR X (binaryOp .Add) (tH X.K):=by
 intro aq s ao H x y v u Q I cy cI h;obtain⟨a,b,xs,ys,rfl,rfl,bK,au,ar,bU,cJ,cP⟩:=h;cases cy;cases cI;obtain⟨its,cE,eW,_⟩:=I.tuple bK;obtain⟨iw,cY,eE,_⟩:=I.tuple au;refine HT.ZmQ eW eE (λz=>ar (cE.nil_iff.mp z)) (λz=>⟨.ref a,H,I,rfl,cJ (cY.nil_iff.mp z)⟩) (λz=>?_) (by rw[<-cE.length,<-cY.length];exact bU);refine⟨.ref s.heap.objs.size,_,I.laid (t':=s.toks) (o:= .tup (xs++ys)) (λb dj q=>Heap.get?_push_of_some _ q) (qaa _) ?_,rfl,cP (λw=>z (cY.nil_iff.mpr w)) _ (I.hok.fresh (qaa _))⟩;exact⟨by rw[qag];exact bU,_,cE.append cY,IsTup.new _ _⟩
end
noncomputable def ixN (n:Nat) (i:Int):Option Nat:=if 0<=i then(if i<n then some i.toNat else none) else if -(n:Int)<=i then some (i+n).toNat else none
noncomputable def atI {cX:Type} (xs:List cX) (i:Int):Option cX:=(ixN xs.length i).bind λj=>xs[j]?
theorem Zix{n:Nat}{i:Int}{j:Nat}(h:ixN n i=some j):seqIndex? i n=some j/\j<n/\ -(n:Int)<=i/\i<n:=by
 unfold ixN at h
 by_cases c0:0<=i
 .rw[if_pos c0] at h
  by_cases ay:i<n
  .rw[if_pos ay] at h;have e:i.toNat=j:=qaC h;exact⟨by rw[seqIndex_of c0 ay,e],∅,∅,ay⟩
  .rw[if_neg ay] at h;cases h
 .rw[if_neg c0] at h
  by_cases ay: -(n:Int)<=i
  .rw[if_pos ay] at h;have e:(i+n).toNat=j:=qaC h;exact⟨by rw[seqIndex_neg ∅ ay,e],∅,ay,∅⟩
  .rw[if_neg ay] at h;cases h
theorem ZcI{cX:Type}{xs:List cX}{i:Int}{v:cX}(h:atI xs i=some v):∃j,seqIndex? i xs.length=some j/\xs[j]? =some v/\j<xs.length/\ -(xs.length:Int)<=i/\i<xs.length:=by
 unfold atI at h;cases e:ixN xs.length i with
 |none=>rw[e] at h;cases h
 |some j=>
  rw[e] at h;obtain⟨ay,aD,cj,cS⟩:=Zix e;exact⟨j,ay,h,aD,cj,cS⟩
theorem iT{cX:Type}{xs:List cX}{j:Nat}{v:cX}(h:xs[j]? =some v):atI xs (j:Int)=some v:=by
 have bP:j<xs.length:=(qad.mp h).1;have e:ixN xs.length (j:Int)=some j:=by
  unfold ixN;rw[if_pos ∅,if_pos ∅];simp
 unfold atI;rw[e];exact h
def Znb(b:Expr):Prop:=∀o i,subscripted b false o i=operate [o,i] (getItem o i)
def IxR(X:Cx)(r:R2):Prop:=
 ∀(value slice:Expr)(aq:List (Addr×Obj))(s:Shared)(ao:St)(H:Hp)(x y:V)(v u:Value)(Q:VK),Inv X aq ao H s->c4 x v->c4 y u->r x y H Q->
  subscripted slice false v u=operate [v,u] (getItem v u)->wpAny (model X.prog X.w) X.A (subscriptTail value slice v u) (EP X aq ao Q) X.xe s
def MtR(X:Cx)(id:String)(r:V->List V->Hp->VK->Prop):Prop:=
 ∀(aq:List (Addr×Obj))(s:Shared)(ao:St)(H:Hp)(x:V)(xs:List V)(v:Value)(us:List Value)(Q:VK),Inv X aq ao H s->c4 x v->cW xs us->r x xs H Q->
  wpAny (model X.prog X.w) X.A (call (.builtin id) (v::us)) (EP X aq ao Q) X.xe s
section
variable {X:Cx}{a b:Expr}{cp cN:TE}{pos:Pos}
theorem IxR.or{r c':R2}(h:IxR X r)(h':IxR X c'):IxR X (λx y H Q=>r x y H Q\/c' x y H Q):=by
 intro value slice aq s ao H x y v u Q I cy cI q hs;rcases q with q|q
 .exact h value slice aq s ao H x y v u Q I cy cI q hs
 .exact h' value slice aq s ao H x y v u Q I cy cI q hs
theorem cn{r:R2}(aC:IxR X r)(bK:PE X a cp)(au:PE X b cN)(hs:Znb b):PE X (.Subscript a b pos) (tOp r cp cN):=by
 intro aq s ao H Q I h;exact Subscript_ (v9 bK au I h λv u bQ x y aP cU cy cI q=>aC a b aq bQ ao aP x y v u Q cU cy cI q (hs _ _))
def Zfb (K:Frag):R2:=λx y H Q=>∃p xs i v,x= .ref p/\y= .int i/\SqL K H p xs/\atI xs i=some v/\Q v H
def wi (K:Frag):R2:=λx y H Q=>∃p xs i v,x= .ref p/\y= .int i/\SqT K H p xs/\atI xs i=some v/\Q v H
def rIxS:R2:=λx y H Q=>∃z i c,x= .str z/\y= .int i/\z.length<=sizeLine/\atI z.cps.toList i=some c/\Q (.str ⟨#[c]⟩) H
theorem IC:IxR X (Zfb X.K):=by
 intro value slice aq s ao H x y v u Q I cy cI h hs;obtain⟨p,xs,i,z,rfl,rfl,cC,b9,q⟩:=h;cases cy;obtain⟨t,rfl⟩:=cI;obtain⟨its,r,pl,bU⟩:=I.list cC;obtain⟨j,ay,aD,cj,cS,ec⟩:=ZcI b9;obtain⟨w,f5,kO⟩:=r.get aD;have ap:=r.length;have b':=oe;have fI:EP X aq ao Q w s:=⟨z,H,I,kO,q⟩
 by_cases c0:0<=i
 .have bP:i.toNat=j:=by
   rw[seqIndex_of c0 ec] at ay;exact qaC ay
  exact item_listR pl.isList c0 ∅ (by rw[bP];simpa using f5) fI hs
 .have bP:(i+(its.toArray.size:Int)).toNat=j:=by
   rw[seqIndex_neg ∅ cS] at ay;rw[qah,<-ap];exact qaC ay
  exact subscriptTail_builtinR (x:=w) pl.isList.typeIs slot_list_getitem.lookup
   (wpAny_getItem_list_neg (Q:=λr s'=>r=w/\EP X aq ao Q r s') pl.isList ∅ (by rw[qah]<;>omega) ∅ (by rw[bP];simpa using f5) ⟨rfl,fI⟩) hs
theorem ID:IxR X (wi X.K):=by
 intro value slice aq s ao H x y v u Q I cy cI h hs;obtain⟨p,xs,i,z,rfl,rfl,cC,b9,q⟩:=h;cases cy;obtain⟨t,rfl⟩:=cI;obtain⟨its,r,pl,bU⟩:=I.tuple cC;obtain⟨j,ay,aD,cj,cS,ec⟩:=ZcI b9;obtain⟨w,f5,kO⟩:=r.get aD;have ap:=r.length;have b':=oe;have fI:EP X aq ao Q w s:=⟨z,H,I,kO,q⟩;exact subscriptTail_builtinR (x:=w) pl.typeIs slot_tuple_getitem.lookup
  (getItem_tuple (j:=j) (Q:=λr s'=>r=w/\EP X aq ao Q r s') pl ∅ ∅ (by rw[qah,<-ap];exact ay) (by simpa using f5) ⟨rfl,fI⟩) hs
theorem IE:IxR X rIxS:=by
 intro value slice aq s ao H x y v u Q I cy cI h hs;obtain⟨z,i,c,rfl,rfl,bU,b9,q⟩:=h;obtain⟨t,rfl⟩:=cy;obtain⟨t',rfl⟩:=cI;obtain⟨j,ay,aD,cj,cS,ec⟩:=ZcI b9;have ap:z.cps.toList.length=z.length:=by simp[Str.length]
 rw[ap] at ay cS ec;have b':=oe;exact tail_any (typeIs_str s z t) slot_str_getitem.lookup (getItem_str (c:=c) (by
  have bJ:decide (i< -(2 ^ 63:Int))=false:=decide_eq_false ∅;have bX:decide (i≥2 ^ 63)=false:=decide_eq_false ∅;rw[bJ,bX,Bool.or_false]) (by rw[ay];simpa using aD) ⟨.str ⟨#[c]⟩,H,I.tok _,⟨_,rfl⟩,q⟩) hs
def rIx (K:Frag):R2:=λx y H Q=>Zfb K x y H Q\/wi K x y H Q\/rIxS x y H Q
theorem IF:IxR X (rIx X.K):=IC.or (ID.or IE)
theorem IG(its:List Value)(n j:Nat)(u:Value):Obj.mapSeq (·.setIfInBounds j u) {cls:= .type "list",data:= .seq its.toArray n}={cls:= .type "list",data:= .seq (its.set j u).toArray n}:=by
 simp[Obj.mapSeq]
theorem Inv.lst{aq:List (Addr×Obj)}{ao:St}{H:Hp}{s:Shared}{p:Addr}{xs:List V}(I:Inv X aq ao H s)(h:H p=some (.lst xs)):
  ∃(its:List Value)(n:Nat),cW xs its/\s.heap.get? p=some {cls:= .type "list",data:= .seq its.toArray n}/\xs.length<=sizeLine:=by
 obtain⟨z,its,n,r,e⟩:=I.hok p _ h;exact⟨its,n,r,e,z⟩
theorem Inv.lstUpd{aq:List (Addr×Obj)}{ao:St}{H:Hp}{s:Shared}{p:Addr}{xs ys:List V}{its its':List Value}{n fJ:Nat}{f:Obj->Obj}(I:Inv X aq ao H s)(h:H p=some (.lst xs))
  (b6:s.heap.get? p=some {cls:= .type "list",data:= .seq its.toArray n}) (bS:f {cls:= .type "list",data:= .seq its.toArray n}={cls:= .type "list",data:= .seq its'.toArray fJ}) (r:cW ys its') (bU:ys.length<=sizeLine) (t:Nat):
  Inv X aq ao (upd H p (.lst ys)) {s with heap:=s.heap.update p f,toks:=t}:=by
 have e:(s.heap.update p f).get? p=some {cls:= .type "list",data:= .seq its'.toArray fJ}:=by
  rw[Heap.get?_update_self f b6 (by rw[bS]<;>rfl),bS]
 refine I.write (x:=p) (e:=p) (by rw[h];trivial) (.inl rfl) (λb u au q=>(Heap.get?_update_other _ _ (qaY au)).trans q) ⟨_,e⟩ ?_;exact⟨bU,its',fJ,r,e⟩
def rSetL:V->V->V->Hp->(Hp->Prop)->Prop:=λo i v H Q=>∃p xs k j,o= .ref p/\i= .int k/\H p=some (.lst xs)/\ixN xs.length k=some j/\Q (upd H p (.lst (xs.set j v)))
theorem iU:Zjh X rSetL:=by
 intro aq s ao H o i v dE gP u Q I ro ri dC h;obtain⟨p,xs,k,j,rfl,rfl,bO,bP,q⟩:=h;cases ro;obtain⟨t,rfl⟩:=ri;obtain⟨its,n,r,b6,bU⟩:=I.lst bO;obtain⟨ay,aD,cj,cS⟩:=Zix bP;have ap:=r.length;have b':=oe;have ek:Inv X aq ao (upd H p (.lst (xs.set j v))) {s with heap:=s.heap.update p (Obj.mapSeq (·.setIfInBounds j u))}:=
  I.lstUpd bO b6 (IG its n j u) (r.set dC j) (by rw[qaP];exact bU) s.toks
 by_cases c0:0<=k
 .have bH:k.toNat=j:=by
   rw[seqIndex_of c0 cS] at ay;exact qaC ay
  exact PySem.W.ki_setAt b6 c0 ∅ (by rw[qah,<-ap];exact cS) (by rw[bH];exact⟨_,ek,q⟩)
 .have bH:(k+(its.toArray.size:Int)).toNat=j:=by
   rw[seqIndex_neg ∅ cj] at ay;rw[qah,<-ap];exact qaC ay
  exact PySem.W.ki_setBack b6 ∅ (by rw[qah,<-ap];exact cj) ∅ (by rw[bH];exact⟨_,ek,q⟩)
theorem ZgK(lo hi:Option Int)(n:Nat):(sliceBounds lo hi none n).1=((HT.sIx n 0 lo:Nat):Int)/\(sliceBounds lo hi none n).2.1=((HT.sIx n n hi:Nat):Int)/\(sliceBounds lo hi none n).2.2=1:=by
 refine⟨?_,?_,rfl⟩
 .cases lo with
  |none=>simp[sliceBounds,HT.sIx]
  |some i=>
   simp only[sliceBounds,HT.sIx,Option.getD_none,show(1:Int) > 0 by decide,if_true]
   by_cases h:i<0
   .simp only[h,if_true]<;>omega
   .simp only[h,if_false]<;>omega
 .cases hi with
  |none=>simp[sliceBounds,HT.sIx]
  |some i=>
   simp only[sliceBounds,HT.sIx,Option.getD_none,show(1:Int) > 0 by decide,if_true]
   by_cases h:i<0
   .simp only[h,if_true]<;>omega
   .simp only[h,if_false]<;>omega
theorem Zf6(its:List Value)(lo hi:Option Int):slicePick its.toArray lo hi none=((its.drop (HT.sIx its.length 0 lo)).take (HT.sIx its.length its.length hi-HT.sIx its.length 0 lo)).toArray:=by
 obtain⟨ay,aD,cj⟩:=ZgK lo hi its.toArray.size;unfold slicePick;rw[ay,aD,cj];simp only[sliceRange_one,pick_run,qah]<;>rfl
def Bc (K:Frag):V->Option Int->Option Int->Hp->VK->Prop:=λx lo hi H Q=>∃a xs,x= .ref a/\SqL K H a xs/\∀p,H p=none->Q (.ref p) (upd H p (.lst (kN xs lo hi)))
theorem IH:SlR X (Bc X.K):=by
 intro aq s ao H x v fB g6 lo hi sl Q I cy hs pl iS h;obtain⟨a,xs,rfl,ar,q⟩:=h;cases cy;obtain⟨its,r,bY,bU⟩:=I.list ar;have dY:=r.length;refine⟨"list",_,slot_list_getitem.lookup,bY.isList.typeIs,?_⟩;refine wpAny_getItem_list_slice bY.isList hs pl iS .none (by simp) ?_ (by rw[qah]<;>omega);rw[Zf6,<-dY];refine⟨.ref s.heap.objs.size,_,I.laid (t':=s.toks) (o:= .lst (kN xs lo hi)) (λb dj q=>Heap.get?_push_of_some _ q) (qaa _) ?_,rfl,q _ (I.hok.fresh (qaa _))⟩;exact⟨qap (Ba xs lo hi) bU,_,0,(r.drop (HT.sIx xs.length 0 lo)).take (HT.sIx xs.length xs.length hi-HT.sIx xs.length 0 lo),Heap.get?_push_size _ rfl⟩
theorem II:YL X (.type "list") (λxs H Q=>∃p ys,xs=[.ref p]/\(SqL X.K H p ys\/SqT X.K H p ys)/\∀l,H l=none->Q (.ref l) (upd H l (.lst ys))):=by
 intro aq s ao H xs us Q I r h;obtain⟨p,ys,rfl,cC,q⟩:=h;obtain⟨u,rfl,cy⟩:=W8 r;cases cy;have fI:∀(its:List Value),cW ys its->ys.length<=sizeLine->∀(h':Heap)(d7:Nat),(∀b cT,s.heap.get? b=some cT->h'.get? b=some cT)->
   h'.get? s.heap.objs.size=some {cls:= .type "list",dict:=none,data:= .seq its.toArray d7,slots:=#[]}->EP X aq ao Q (.ref s.heap.objs.size) {s with heap:=h'}:=λits c' bU h' d7 kp e=>
  ⟨.ref s.heap.objs.size,_,I.laid (t':=s.toks) kp (qaa _) (show Z3 X.prog X.w _ h' _ (.lst ys) from⟨bU,its,d7,c',e⟩),rfl,q _ (I.hok.fresh (qaa _))⟩
 rcases cC with cC|cC
 .obtain⟨its,c',pl,bU⟩:=I.list cC;have dY:=c'.length;obtain⟨o,b6,a_,n,hd⟩:=pl.isList;exact call_list_seq p (.inl rfl) b6 a_ hd (λh' d7 kp e=>fI its c' bU h' d7 kp e) (by simp only[qah]<;>omega)
 .obtain⟨its,c',pl,bU⟩:=I.tuple cC;have dY:=c'.length;obtain⟨o,b6,a_,n,hd⟩:=pl;exact call_list_seq p (.inr rfl) b6 a_ hd (λh' d7 kp e=>fI its c' bU h' d7 kp e) (by simp only[qah]<;>omega)
theorem IJ:YL X (.type "tuple") (λxs H Q=>∃p ys,xs=[.ref p]/\((SqL X.K H p ys/\∀l,H l=none->Q (.ref l) (upd H l (.tup ys)))\/(SqT X.K H p ys/\Q (.ref p) H))):=by
 intro aq s ao H xs us Q I r h;obtain⟨p,ys,rfl,h⟩:=h;obtain⟨u,rfl,cy⟩:=W8 r;cases cy;rcases h with⟨cC,q⟩|⟨cC,q⟩
 .obtain⟨its,c',pl,bU⟩:=I.list cC;have dY:=c'.length;refine call_tuple_list pl.isList (λh' kp=>?_) (by simp only[qah]<;>omega);have bT:Inv X aq ao H {s with heap:=h'}:=I.kept (t':=s.toks) kp;have cU:Inv X aq ao (upd H h'.objs.size (.tup ys)) {s with heap:=h'.push {cls:= .type "tuple",data:= .seq its.toArray}}:=
   bT.laid (t':=s.toks) (λb o e=>Heap.get?_push_of_some _ e) (qaa _) (show Z3 X.prog X.w _ _ _ (.tup ys) from⟨bU,its,c',IsTup.new _ _⟩)
  exact⟨.ref h'.objs.size,_,cU,rfl,q _ (bT.hok.fresh (qaa _))⟩
 .obtain⟨its,c',pl,bU⟩:=I.tuple cC;exact call_tuple_same pl ⟨.ref p,H,I,rfl,q⟩
def tyV(K:Frag)(T:String)(x:V)(H:Hp):Prop:=match x with
 | .str _=>T="str"
 | .int _=>T="int"
 | .ref p=>(T="list" /\∃xs,SqL K H p xs)\/(T="tuple" /\∃o,K.lookup p=some o/\o.cls= .type "tuple" /\o.dict=none)\/
   (T="dict" /\((∃kvs,H p=some (.dK kvs))\/∃kvs,H p=some (.dT kvs)))\/(T="set" /\∃S n,H p=some (.set S n))
 |_=>False
theorem ZnW{aq:List (Addr×Obj)}{ao:St}{H:Hp}{s:Shared}{T:String}{x:V}{v:Value}(I:Inv X aq ao H s)(r:c4 x v)(ty:tyV X.K T x H):
  s.TypeIs v T/\∀a,v= .ref a->∃dj,s.heap.get? a=some dj/\dj.dict=none:=by
 cases x with
 |str z=>
  obtain⟨t,rfl⟩:=r;cases (show T="str" from ty);exact⟨typeIs_str s z t,λ_ e=>nomatch e⟩
 |int i=>
  obtain⟨t,rfl⟩:=r;cases (show T="int" from ty);exact⟨typeIs_int s i t,λ_ e=>nomatch e⟩
 |ref p=>
  cases r;rcases ty with⟨rfl,xs,cC⟩|⟨rfl,o,bH,a_,hd⟩|⟨rfl,bH⟩|⟨rfl,S,n,bH⟩
  .obtain⟨its,_,pl,_⟩:=I.list cC;refine⟨pl.isList.typeIs,λa e=>?_⟩;cases e;obtain⟨o,n,e,c,hd,_⟩:=pl;exact⟨o,e,hd⟩
  .refine⟨⟨o,I.kIn p o bH,a_⟩,λa e=>?_⟩;cases e;exact⟨o,I.kIn _ o bH,hd⟩
  .have z:∃o,s.heap.get? p=some o/\o.ExactDict:=by
    rcases bH with⟨kvs,bH⟩|⟨kvs,bH⟩
    .obtain⟨_,_,_,_,o,_,_,e,ex,_⟩:=I.hok p _ bH;exact⟨o,e,ex⟩
    .obtain⟨_,_,_,_,o,_,_,e,ex,_⟩:=I.hok p _ bH;exact⟨o,e,ex⟩
   obtain⟨o,e,ex⟩:=z;refine⟨⟨o,e,ex.1⟩,λa bX=>?_⟩;cases bX;exact⟨o,e,ex.2.1⟩
  .obtain⟨o,_,_,_,e,ex,_⟩:=I.hok p _ bH;refine⟨⟨o,e,ex.1⟩,λa bX=>?_⟩;cases bX;exact⟨o,e,ex.2.1⟩
 |_=>exact False.elim ty
def tBM (K:Frag) (T:String) (r:V->List V->Hp->VK->Prop) (to:TE) (t:TA):TE:=λao H Q=>to ao H λx aA=>tyV K T x aA/\t ao aA λxs aP=>r x xs aP Q
variable {o e:Expr}{b7:List Expr}{to:TE}{t:TA}{name:Str}{eD fM:Pos}{T id:String}{r:V->List V->Hp->VK->Prop}
theorem Zo8(ni:PlainAttrs T)(slot:Slot T name id)(jd:typeOf (.builtin id)=pure (.type "method_descriptor"))(bL:MtR X id r)(b6:PE X o to)(bK:PA X (e::b7) t)
  (oj:attributeBase o name X.env (eval o X.env)=eval o X.env:=by rfl)
  (nj:((backTo fM (starEach (e::b7) X.env)).all (λx=>!x.1)&&(backToKw fM (keywordEach [] X.env)).all (λx=>x.1.isSome)
   &&decide ((e::b7).length+([]:List Keyword).length+(if([]:List Keyword).isEmpty then 0 else 1)<30))=true:=by rfl)
  (ol:(eD.endLine==fM.line)=true:=by rfl) (hs:starEach (e::b7) X.env=(false,eval e X.env)::starEach b7 X.env:=by rfl) (om:(backTo fM (starEach b7 X.env)).any (·.1)=false:=by rfl):
  PE X (.Call (.Attribute o name eD) (e::b7) [] fM) (tBM X.K T r to t):=by
 intro aq s ao H Q I h;refine wpAny_Call_method_late oj nj ol rfl (thn (b6 aq s ao H _ I h) λv a' ⟨x,aA,bT,cE,ty,cJ⟩=>?_);obtain⟨ay,aD⟩:=ZnW bT cE ty;refine⟨T,id,ni,slot,jd,ay,aD,?_⟩;have mz:=bK fM aq a' ao aA _ bT cJ;rw[hs] at mz|-;refine Calls.callWith_builtin (by show(false||(backTo fM (starEach b7 X.env)).any (·.1))=false;rw[om]<;>rfl) (Calls.evalArgs_plain ?_);exact thn mz λus bQ ⟨vs,aP,cU,cY,cP⟩=>bL aq bQ ao aP x vs v us Q cU cE cY cP
end
def MtM(X:Cx)(id:String)(r:V->List V->Hp->VK->Prop):Prop:=
 ∀(aq:List (Addr×Obj))(s:Shared)(ao:St)(H:Hp)(x:V)(xs:List V)(v:Value)(us:List Value)(Q:VK),Inv X aq ao H s->c4 x v->cW xs us->r x xs H Q->
  wpAny (model X.prog X.w) X.A (call (.builtin id) (v::us)) (EP X aq ao Q) X.xe s
theorem cW.one:∀{x:V}{us:List Value},cW [x] us->∃u,us=[u]/\c4 x u
 |_,_,.cons r .nil=>⟨_,rfl,r⟩
theorem cW.two:∀{x y:V}{us:List Value},cW [x,y] us->∃u v,us=[u,v]/\c4 x u/\c4 y v
 |_,_,_,.cons r (.cons q .nil)=>⟨_,_,rfl,r,q⟩
theorem cW.rep{xs:List V}{us:List Value}(h:cW xs us):∀k:Nat,cW (List.replicate k xs).flatten (List.replicate k us).flatten
 |0=> .nil
 |k+1=>by
  rw[qbM,qbM,qcb,qcb];exact cW.append h (cW.rep h k)
theorem Zfh(its:List Value):∀(k:Nat)(dG:List Value),
  List.foldl (λx1 x2=>x1++x2) dG.toArray (List.replicate k its.toArray)=(dG++(List.replicate k its).flatten).toArray
 |0,dG=>by simp
 |k+1,dG=>by
  have e:dG.toArray++its.toArray=(dG++its).toArray:=by simp
  have bX:(dG++its)++(List.replicate k its).flatten=dG++(List.replicate (k+1) its).flatten:=by
   rw[qbM,qcb,qbp]
  rw[<-bX,<-Zfh its k (dG++its),<-e,qbM,List.foldl_cons]
section
variable {X:Cx}{aq:List (Addr×Obj)}{ao:St}{H:Hp}{s:Shared}{l b:Addr}{xs ys zs:List V}
theorem Inv.lset{its its':List Value}{n:Nat}{f:Array Value->Array Value}{t':Nat}(I:Inv X aq ao H s)(iV:H l=some (.lst xs))
  (e:s.heap.get? l=some {cls:= .type "list",data:= .seq its.toArray n}) (bS:f its.toArray=its'.toArray) (cz:cW ys its') (bU:ys.length<=sizeLine):
  Inv X aq ao (upd H l (.lst ys)) {s with heap:=s.heap.update l (Obj.mapSeq f),toks:=t'}:=by
 have q:=PySem.IsL.update e f;rw[bS] at q;refine I.write (x:=l) (e:=l) (by rw[iV];exact trivial) (.inl rfl) (λon u au hu=>(Heap.get?_update_other s.heap (Obj.mapSeq f) (qaY au)).trans hu) ⟨_,q⟩ ?_;exact⟨bU,its',_,cz,q⟩
theorem Inv.lnew{its:List Value}{t':Nat}(I:Inv X aq ao H s)(cz:cW ys its)(bU:ys.length<=sizeLine):
  Inv X aq ao (upd H s.heap.objs.size (.lst ys)) {s with heap:=s.heap.push {cls:= .type "list",data:= .seq its.toArray},toks:=t'}:=
 I.laid (λ_ _ q=>Heap.get?_push_of_some _ q) (qaa _) ⟨bU,its,0,cz,Heap.get?_push_size _ rfl⟩
theorem Inv.fresh(I:Inv X aq ao H s):H s.heap.objs.size=none:=I.hok.fresh (qaa _)
theorem Inv.lstM(I:Inv X aq ao H s)(iV:H l=some (.lst xs)):xs.length<=sizeLine/\∃(its:List Value)(n:Nat),cW xs its/\xs.length=its.length/\s.heap.get? l=some {cls:= .type "list",data:= .seq its.toArray n}:=by
 obtain⟨z,its,n,r,e⟩:=I.hok l _ iV;exact⟨z,its,n,r,r.length,e⟩
theorem Zgj{n:Nat}(h:n<=sizeLine):Builtin.List.listTooLong n=false:=by
 unfold Builtin.List.listTooLong;exact decide_eq_false ∅
end
section
variable {X:Cx}
def rAppend:V->List V->Hp->VK->Prop:=λx vs H Q=>∃l xs y,x= .ref l/\vs=[y]/\H l=some (.lst xs)/\xs.length<sizeLine/\Q .non (upd H l (.lst (xs++ [y])))
theorem iy:MtM X "list.append" rAppend:=by
 intro aq s ao H x vs v us Q I cy dC h;obtain⟨l,xs,y,rfl,rfl,iV,bU,q⟩:=h;cases cy;obtain⟨u,rfl,fv⟩:=dC.one;obtain⟨z,its,n,r,ap,e⟩:=I.lstM iV;refine call_meets F.slot_list_append ⟨_,e,rfl⟩ F.entry_list_append (F.args_list_append_2 _ _) (PySem.list_append l its.toArray n u (by rw[qah];omega)) ⟨e,?_⟩;refine⟨.non,_,I.lset (its':=its++ [u]) iV e (by simp) (r.append (.cons fv .nil)) ?_,rfl,q⟩;rw[qag,List.length_singleton];omega
def rExtend:V->List V->Hp->VK->Prop:=λx vs H Q=>∃l b xs zs,x= .ref l/\vs=[.ref b]/\H l=some (.lst xs)/\H b=some (.lst zs)/\xs.length+zs.length<=sizeLine/\Q .non (upd H l (.lst (xs++zs)))
theorem wj:MtM X "list.extend" rExtend:=by
 intro aq s ao H x vs v us Q I cy dC h;obtain⟨l,b,xs,zs,rfl,rfl,iV,fC,bU,q⟩:=h;cases cy;obtain⟨u,rfl,fv⟩:=dC.one;cases fv;obtain⟨z,its,n,r,ap,e⟩:=I.lstM iV;obtain⟨cO,iw,fL,cY,iz,bX⟩:=I.lstM fC;have hsz:its.toArray.size+iw.toArray.size<=sizeLine:=by rw[qah,qah];omega
 have wk:¬(!its.toArray.isEmpty&&Builtin.List.listTooLong (its.toArray.size+iw.toArray.size))=true:=by
  rw[Zgj hsz,Bool.and_false];exact qam
 refine call_meets F.slot_list_extend ⟨_,e,rfl⟩ F.entry_list_extend (F.args_list_extend_2 _ _)
  (AutoSeq1.list_extend_list_list_0 l its.toArray n b iw.toArray fL wk (by rw[qah];omega) ∅) ⟨e,bX,?_⟩
 refine⟨.non,_,I.lset (its':=its++iw) iV e (by simp) (r.append cY) ?_,rfl,q⟩;rw[qag];omega
def rCat:R2:=λx y H Q=>∃l b xs zs,x= .ref l/\y= .ref b/\H l=some (.lst xs)/\H b=some (.lst zs)/\xs.length+zs.length<=sizeLine/\∀p,H p=none->Q (.ref p) (upd H p (.lst (xs++zs)))
theorem IK:OpR X (binaryOp .Add) rCat:=by
 intro aq s ao H x y v u Q I cy cI h;obtain⟨l,b,xs,zs,rfl,rfl,iV,fC,bU,q⟩:=h;cases cy;cases cI;obtain⟨z,its,n,r,ap,e⟩:=I.lstM iV;obtain⟨cO,iw,fL,cY,iz,bX⟩:=I.lstM fC;refine PySem.P.add_list e bX ?_ (by rw[qah,qah];omega);have cw:its.toArray++iw.toArray=(its++iw).toArray:=by simp
 rw[cw];exact⟨.ref _,_,I.lnew (t':=s.toks) (r.append cY) (by rw[qag];omega),rfl,q _ I.fresh⟩
def rRep:R2:=λx y H Q=>∃l k xs,x= .ref l/\y= .int k/\H l=some (.lst xs)/\ -(2 ^ 63)<=k/\k<2 ^ 63/\xs.length*k.toNat<=sizeLine/\
 ∀p,H p=none->Q (.ref p) (upd H p (.lst (List.replicate k.toNat xs).flatten))
theorem Zm6{cX:Type}(xs:List cX)(k:Nat):(List.replicate k xs).flatten.length=k*xs.length:=by
 induction k with
 |zero=>simp
 |succ k b_=>rw[qbM,qcb,qag,b_,Nat.succ_mul,Nat.add_comm]
theorem IL:OpR X (binaryOp .Mult) rRep:=by
 intro aq s ao H x y v u Q I cy cI h;obtain⟨l,k,xs,rfl,rfl,iV,ay,aD,bU,q⟩:=h;cases cy;obtain⟨t,rfl⟩:=cI;obtain⟨z,its,n,r,ap,e⟩:=I.lstM iV;have dY:its.toArray.size*k.toNat<=sizeLine:=by rw[qah,<-ap];exact bU
 have IM:¬its.toArray.size*k.toNat > (2 ^ 63-1) / 8:=by
  have:(sizeLine:Nat)<=(2 ^ 63-1) / 8:=by decide
  omega
 have IN:¬(!Builtin.List.listFitsIndex k)=true:=by
  rw[fitsIndex_both ay aD];exact qam
 have wk:¬Builtin.List.listTooLong (its.toArray.size*k.toNat)=true:=by
  rw[Zgj dY];exact qam
 have nk:List.foldl (λx1 x2=>x1++x2) #[] (List.replicate (if its.toArray.isEmpty=true then 0 else k.toNat) its.toArray)=(List.replicate k.toNat its).flatten.toArray:=by
  have ea:∀m:Nat,List.foldl (λx1 x2=>x1++x2) #[] (List.replicate m its.toArray)=(List.replicate m its).flatten.toArray:=λm=>by
   have:=Zfh its m [];rw[List.nil_append] at this;exact this
  rw[ea];cases its with
  |nil=>simp
  |cons a c'=>rw[if_neg (by simp)]
 refine wpAny_binaryOp_repeat_ref (T:="list") (U:="int") (by decide) ⟨_,e,rfl⟩ (λs'=>typeIs_int s' k t) noFill_list_mul F.fills_int_mul F.slot_int_rmul repeat_list F.slot_int_index.lookup
  (call_meets F.slot_int_rmul (typeIs_int s k t) F.entry_int_rmul (F.args_int_rmul_2 _ _) (int___rmul___int_list k t l its.toArray n)
   ⟨e,rfl,⟨_,e,rfl⟩,call_meets F.slot_list_mul ⟨_,e,rfl⟩ F.entry_list_mul (F.args_list_mul_2 _ _) (AutoListH.list___mul___list_int_3 l its.toArray n k t IN IM wk) ⟨e,?_⟩⟩)
 rw[nk];exact⟨.ref _,_,I.lnew (t':=s.toks) (r.rep k.toNat) (by rw[Zm6,qa9];exact bU),rfl,q _ I.fresh⟩
end
end _L
namespace Att
open PySem PySem.W PySem.Calls PyProof.Rows
theorem IP{P:Params}{h:Heap}:∀(ns:List Int)(vs:List Value),WellAll P h vs (ns.map WData.int)->IntsAre vs ns:=by
 intro ns
 induction ns with
 |nil=>
  intro vs w;rw[List.map_nil] at w;cases w;exact .nil
 |cons n ns b_=>
  intro vs w;rw[List.map_cons] at w;cases w with
  |cons a b=>
   cases a;exact .cons _ _ (b_ _ b)
theorem Zkm{l:OpenLaw}{n:Nat}(b':l.most=some n){P:Params}{h:Heap}{args:List WData}{wl:List Value}
  (tI:l.row.toRowW.claim.pre args=true) (h4:WellAll P h wl args):
  ∃a vs ns,wl=[Value.ref a]/\args=[WData.list (ns.map WData.int)]/\h.get? a=some {cls:= .type "list",data:= .seq vs.toArray}/\IntsAre vs ns/\ns.length<=n:=by
 have nl:WShape.hasAll [] args [.list .int]=true:=(pre_splitW tI).1;have a_:l.pre.holds [] {args:=args}=true:=(pre_splitW tI).2;obtain⟨d,r,rfl,ay,aD⟩:=hasAllW_cons nl;obtain rfl:=hasAllW_nil aD;obtain⟨xs,rfl,cj⟩:=hasW_list ay;obtain⟨ns,rfl⟩:=items_int cj;have dY:ns.length<=n:=by
  unfold OpenLaw.pre at a_;have cS:(WTm.not (.lt (.lit (.int (n:Int))) (.len (.arg 0)))).holds [] {args:=[.list (ns.map .int)]}=true:=by
   have cS:=(holds_andW a_).1;rw[b'] at cS;exact cS
  have ec:=condW_of cS (w_not (w_lt w_lit (w_len_list (w_arg rfl))));rw[GM] at ec;refine Nat.le_of_not_lt λq=>?_;have io:(n:Int)<((ns.length:Nat):Int):=by omega
  first
   |(rw[decide_eq_true io] at ec;exact absurd ec (by decide))
   |(simp at ec;omega)
 cases h4 with
 |cons eL j6=>
  cases j6;cases eL with
  |list b6 h5=>exact⟨_,_,ns,rfl,rfl,b6,IP ns _ h5,dY⟩
theorem IQ(l:OpenLaw)(args:List WData):l.row.toRowW.claim.post args (.bool true) args=true:=
 postW_of (r:=l.row.toRowW) (X:=(true==true))
  (show WShape.has [] (.bool true) .bool=true by first|rfl|decide|simp[WShape.has,WShape.arms,WShape.armsAll])
  (show(WTm.eq .res (.lit (.bool true))).value [] {args:=args,res:=some (.bool true),after:=args}=some (.bool (true==true)) from w_eq_bool (w_res rfl) w_lit) rfl
theorem ZhW{l:OpenLaw}{n:Nat}{q:Program}{pK:List Str}{pL:(Str->Option Value)->Heap->Prop}{np:World->Heap->Prop}{d:DefRec}
  (b':l.most=some n) (lC:d.params.defaults=[])
  (call:∀(w:World)(s₀ dL:Shared)(mg j5:Str->Option Value)(fS:Addr)(o:Obj)(fk cu fR:Value)(a:Addr)(vs:List Value)(ns:List Int),
   Ground q pK [] pL w s₀ mg j5 dL.heap->np w dL.heap->
   dL.heap.get? fS=some o->o.data= .func (docDef d.name d.params d.body d.scope fk cu fR)->dL.heap.CodeRec cu d.name->mg d.name=some (.ref fS)->
   dL.heap.get? a=some {cls:= .type "list",data:= .seq vs.toArray}->IntsAre vs ns->ns.length<=n->dL.gens=#[]->
   codeAny (model l.prog w) callerA (.call (.ref fS) ⟨[.ref a],[]⟩) (λr s'=>r= .ok (.ret (.bool true))/\OldK dL.heap s'.heap/\s'.os=dL.os/\AllBare s'.gens) dL):
  WalkO q pK pL np l.row.toRowW d [] (λf vs=>PySem.call f vs):=by
 intro w s₀ dL mg j5 G Y fS o fk cu fR tD kV b6 hd gi tJ pM bR args wl as tI hlay oo h4 hlo;obtain rfl:tD= .none:=Dflts.none tJ lC;obtain rfl:kV= .none:=Dflts.noKw tJ;obtain⟨a,vs,ns,rfl,rfl,wm,wn,dY⟩:=Zkm b' tI h4;refine enter_call (codeAny_mono (call w s₀ dL mg j5 fS o fk cu fR a vs ns G Y b6 (fd_plain hd) gi pM wm wn dY bR) λr s' cC=>?_);obtain⟨rfl,aD,cj,cS⟩:=cC;exact⟨.inl ⟨.bool true,.bool true,[],rfl,λ_=>rfl,.bool true,IQ l _,λ_=>⟨List.Pairwise.nil,λ_ bL=>(nomatch bL)⟩⟩,aD,cj,cS⟩
end Att
namespace _L
open PySem PySem.Spec PyProof.Rows
theorem Bd:∀{vs:List Value}{ns:List Int},IntsAre vs ns->cW (ns.map V.int) vs
 |_,_,.nil=> .nil
 |_,_,.cons n t h=> .cons ⟨t,rfl⟩ (Bd h)
def wo(H:Hp):Prop:=∀b,H b=none\/∃o xs,H b=some (.frz o (.lst xs))
theorem ZlQ{P:Program}{w:World}{K:Frag}{mg j5:Str->Option Value}{CX:CXT}{k:Nat}{fS a:Addr}{fd:FuncData}{x:Str}{sp:Sp}{dL:Shared}{vs:List Value}{ns:List Int}
  (e4:K.In dL.heap) (pN:dL.heap.Ns mainGlobals mg) (au:dL.heap.Ns builtinsNs j5) (nq:∀x:Str,x≠"__name__" ->j5 x=bootBuiltins x) (IR:dL.heap.NoLimit) (bR:dL.gens=#[])
  (bK:dL.heap.get? a=some {cls:= .type "list",data:= .seq vs.toArray}) (hi:IntsAre vs ns) (ap:ns.length<=sizeLine) (aC:ez k callerA)
  (F:∀base:Heap,K.In base->base.Ns mainGlobals mg->YE P w K mg base CX k fS fd [x] sp) (IS:∀(s:Shared)(u:Value),BindsTo s fd ⟨[u],[]⟩ [(x,u)])
  (jc:∀H:Hp,wo H->SqL K H a (ns.map V.int)->sp [.ref a] H (λv _=>v= .bl true) λ_ _ _=>False)
  (wq:∀H e s',CX [] H dL (λ_ _ _=>False) e s'->False):
  codeAny (model P w) callerA (.call (.ref fS) ⟨[.ref a],[]⟩) (λr s'=>r= .ok (.ret (.bool true))/\OldK dL.heap s'.heap/\s'.os=dL.os/\AllBare s'.gens) dL:=by
 have dC:=Bd hi;have IT:=hi.length;have Be:∀H:Hp,wo H->SqL K H a (ns.map V.int)->HOk P w H dL.heap->(∀b,H b≠none->b=a)->(H a≠none->K.lookup a=none)->
   codeAny (model P w) callerA (.call (.ref fS) ⟨[.ref a],[]⟩) (λr s'=>r= .ok (.ret (.bool true))/\OldK dL.heap s'.heap/\s'.os=dL.os/\AllBare s'.gens) dL:=by
  intro H hO g5 hok mz hK;have Bf:∀{b:Addr}{o:Obj},dL.heap.get? b=some o->H b=none->(mi dL.heap H).get? b=some o:=λe n=>Zl4 e n;have q8:∀{b:Addr}{o:Obj}{b7:Array DictEntry}{ep:Nat},dL.heap.get? b=some o->o.data= .dict b7 ep->H b=none:=λ{b o b7 ep} e d=>by
   cases q:H b with
   |none=>rfl
   |some u=>
    have cv:b=a:=mz b (by rw[q];simp);subst cv;rw[bK] at e;cases e;have d':Data.seq vs.toArray _=Data.dict b7 ep:=d;cases d'
  have tK:∀{b:Addr}{m:Str->Option Value},dL.heap.Ns b m->(mi dL.heap H).Ns b m:=λ{b m} ⟨o,b7,ep,e,d,r⟩=>⟨o,b7,ep,Bf e (q8 e d),d,r⟩;have Bg:K.In (mi dL.heap H):=λb o e=>Bf (e4 b o e) (by
   cases q:H b with
   |none=>rfl
   |some u=>
    have cv:b=a:=mz b (by rw[q];simp);subst cv;rw[hK (by rw[q];simp)] at e;cases e)
  have IU:Mod K mg (mi dL.heap H):=⟨Bg,tK pN,⟨j5,tK au,nq⟩,let⟨IV,ay,aD⟩:=IR;⟨IV,tK ay,aD⟩⟩;have gw:Zdy P w K mg (mi dL.heap H) callerA [] dL H:=⟨rfl,IU,λb o e=>ZmH e,Nat.le_of_eq (HV _ _),trivial,λb au=>absurd (show b∈([]:List Addr) from au) (by simp),hok,.of_eq bR⟩;refine codeAny_mono ((F _ Bg (tK pN)).run callerA [] dL H ⟨[.ref a],[]⟩ [.ref a] [.ref a] _ _ aC gw (IS dL (.ref a)) (.cons rfl .nil) (jc H hO g5)) λr s' h=>?_;cases r with
  |error e=>exact(wq H e s' h).elim
  |ok fl=>
   cases fl with
   |next=>exact False.elim h
   |brk=>exact False.elim h
   |cont=>exact False.elim h
   |ret u=>
    obtain⟨v,aj,os,bare,un,IW,c',q⟩:=h;have io:v= .bl true:=q;subst io;obtain rfl:u=Value.bool true:=c';refine⟨rfl,OldK.of_keep λb o e=>?_,os,bare⟩;cases q:H b with
    |none=>exact un.keep b o e q (by intro z;exact absurd (show b∈([]:List Addr) from z) (by simp)) (by simp)
    |some u=>
     rcases hO b with z|⟨dj,xs,z⟩
     .rw[q] at z;cases z
     .have cO:=un.frzs b dj _ z;obtain⟨bJ,_⟩:=hok b _ z;obtain⟨bX,_⟩:=IW b _ cO;rw[e] at bJ;cases bJ;exact bX
 cases bH:K.lookup a with
 |some o=>
  have e:=e4 a o bH;rw[bK] at e;cases e;refine Be (λ_=>none) (λ_=> .inl rfl) (.inr ⟨_,vs.toArray,_,bH,rfl,rfl,rfl,by rw[qah,IT];exact ap,by simpa using dC⟩) (λb u z=>by have gY:(none:Option HO)=some u:=z;cases gY) (λb z=>absurd rfl z) λz=>absurd rfl z
 |none=>
  refine Be (λb=>if b=a then some (.frz {cls:= .type "list",data:= .seq vs.toArray} (.lst (ns.map V.int))) else none) (λb=>?_) (.inl (.inr ⟨{cls:= .type "list",data:= .seq vs.toArray},if_pos rfl⟩)) (λb u z=>?_) (λb z=>?_) λ_=>bH
  .by_cases au:b=a
   .exact .inr ⟨_,_,if_pos au⟩
   .exact .inl (if_neg au)
  .by_cases au:b=a
   .have gY:=(if_pos au).symm.trans z;cases gY;subst au;exact⟨bK,by rw[GM];exact ap,vs,_,dC,bK⟩
   .have gY:=(if_neg au).symm.trans z;cases gY
  .by_cases au:b=a
   .exact au
   .exact absurd (if_neg au) z
theorem Zng{l:PySem.W.OpenLaw}{n k:Nat}{q:Program}{pK:List Str}{pL:(Str->Option Value)->Heap->Prop}{np:World->Heap->Prop}{d:DefRec}{K:Params->Frag}{CX:World->CXT}{sp:World->Sp}{x:Str}
  (b':l.most=some n) (kL:n<=sizeLine) (lC:d.params.defaults=[]) (aC:ez k callerA)
  (q':∀(w:World)(h:Heap),np w h->(K w.params).In h)
  (F:∀(w:World)(mg:Str->Option Value)(fS:Addr)(h:Heap),(K w.params).In h->h.Ns mainGlobals mg->mg d.name=some (.ref fS)->
   ∃fd:FuncData,(∀(s:Shared)(u:Value),BindsTo s fd ⟨[u],[]⟩ [(x,u)])/\
    ∀base:Heap,(K w.params).In base->base.Ns mainGlobals mg->YE l.prog w (K w.params) mg base (CX w) k fS fd [x] (sp w))
  (jc:∀(w:World)(H:Hp)(a:Addr)(ns:List Int),ns.length<=n->wo H->SqL (K w.params) H a (ns.map V.int)->sp w [.ref a] H (λv _=>v= .bl true) λ_ _ _=>False)
  (wq:∀(w:World)(H:Hp)(s:Shared)(e:Value)(s':Shared),CX w [] H s (λ_ _ _=>False) e s'->False):
  PySem.W.WalkO q pK pL np l.row.toRowW d [] (λf vs=>PySem.call f vs):=by
 refine Att.ZhW b' lC λw s₀ dL mg j5 fS o fk cu fR a vs ns G Y b6 hd gi pM wm wn dY bR=>?_;have e4:=q' w _ Y;obtain⟨fd,au,fD⟩:=F w mg fS _ e4 G.T.g pM;exact ZlQ e4 G.T.g G.T.b G.T.builtins G.T.nolimit bR wm wn (qap dY kL) aC fD au (λH hO g5=>jc w H a ns dY hO g5) λH e s'=>wq w H dL e s'
noncomputable def YJ (s:Stmt) (j:Nat):Stmt:=match s with
 | .ClassDef _ _ _ body _ _ _ _ _ _ _=>body.getD j (.Pass ⟨0,0,0,0⟩)
 |_=> .Pass ⟨0,0,0,0⟩
noncomputable def kP (s:Stmt):Arguments:=match s with
 | .FunctionDef _ a _ _ _ _ _ _ _ _=>a
 |_=>{posonlyargs:=[],args:=[],vararg:=none,kwonlyargs:=[],kw_defaults:=[],kwarg:=none,defaults:=[]}
noncomputable def jH (s:Stmt):List Stmt:=match s with
 | .FunctionDef _ _ b _ _ _ _ _ _ _=>b
 |_=>[]
noncomputable def cs (s:Stmt):Scope:=match s with
 | .FunctionDef _ _ _ _ _ _ cf _ _ _=>cf
 |_=>{kind:= .function,names:=[],isGenerator:=false,isCoroutine:=false}
abbrev E0:XK:=λ_ _ _=>False
structure Fun(K:Frag)(x qual:Str)(st:Stmt)(f:Addr)(fd:FuncData):Prop where
 ex:∃(f4:Value)(es:Option Addr)(kV fR fk:Value)(an:Option Addr)(cD ct:Value)(hy:Array (Option Value)),
  fd=fnOf x qual (kP st) (jH st) (cs st) .none kV fR fk an cD ct/\K.lookup f=some ⟨f4,es,.func fd,hy⟩/\codeIn K cD qual=true
 kp:keepIn K (.ref f)=true
section
variable {P:Program}{w:World}{K:Frag}{mg:Str->Option Value}{base:Heap}
theorem Fun.binds{x qual:Str}{st:Stmt}{f:Addr}{fd:FuncData}{ci:List Str}(F:Fun K x qual st f fd)
  (h:∀(kV fR fk:Value)(an:Option Addr)(cD ct:Value)(us:List Value),us.length=ci.length->bindArgs (fnOf x qual (kP st) (jH st) (cs st) .none kV fR fk an cD ct) ⟨us,[]⟩=pure (ci.zip us)):Wp K fd ci []:=by
 obtain⟨f4,es,kV,fR,fk,an,cD,ct,hy,rfl,lk,gi⟩:=F.ex;exact .all (h kV fR fk an cD ct)
theorem pO{x qual:Str}{st:Stmt}{f:Addr}{f4:Value}{es an:Option Addr}{hy:Array (Option Value)}{kV fR fk cD ct:Value}(l:K.lookup f=some ⟨f4,es,.func (fnOf x qual (kP st) (jH st) (cs st) .none kV fR fk an cD ct),hy⟩)
  (c:codeIn K cD qual=true) (k:keepIn K (.ref f)=true):Fun K x qual st f (fnOf x qual (kP st) (jH st) (cs st) .none kV fR fk an cD ct):=⟨⟨f4,es,kV,fR,fk,an,cD,ct,hy,rfl,l,c⟩,k⟩
end
theorem ed{n:Nat}(h:n<=1000):n<sizeLine:=qaM h (by decide)
section
variable {X:Cx}
theorem pv(i:Nat){x:Str}{pos:Pos}(eV:X.N[i]? =some x:=by rfl)(cz:Vis X.env.scope x:=by first|exact Or.inl rfl|exact Or.inr (Or.inl rfl)|exact Or.inr (Or.inr rfl))(hd:(x==("__debug__" :Str))=false:=by decide)
  (gi:(x==("__classdict__" :Str))=false:=by decide):PE X (.Name x pos) (ZiN i):=Znl eV cz hd gi
end
theorem Zhq{A B:Prop}(h:B):if false=true then A else B:=by
 rw[if_neg qam];exact h
theorem ZgY{A B:Prop}(h:A):if true=true then A else B:=by
 rw[if_pos rfl];exact h
theorem Zbh{c A B:Prop}[Decidable c](ay:c->A)(aD:¬c->B):if c then A else B:=by
 by_cases h:c
 .rw[if_pos h];exact ay h
 .rw[if_neg h];exact aD h
def Zd(H aj:Hp):Prop:=∀b o,H b=some o->aj b=some o
theorem Zd.refl(H:Hp):Zd H H:=λ_ _ h=>h
theorem Zd.trans{H aA aP:Hp}(a:Zd H aA)(b:Zd aA aP):Zd H aP:=λc o h=>b c o (a c o h)
theorem Zd.seq{K:Frag}{H aj:Hp}{a:Addr}{xs:List V}(e:Zd H aj)(h:SqL K H a xs):SqL K aj a xs:=by
 rcases h with(h|⟨o,h⟩)|h
 .exact .inl (.inl (e _ _ h))
 .exact .inl (.inr ⟨o,e _ _ h⟩)
 .exact .inr h
section
variable {d0:Type}[DecidableEq d0]
noncomputable def valV (kvs:List (d0×V)) (k:d0):Option V:=(kvs.find? λkv=>decide (kv.1=k)).map (·.2)
noncomputable def gx (kvs:List (d0×V)) (k:d0) (v:V):List (d0×V):=
 if(kvs.any λkv=>decide (kv.1=k))=true then kvs.map (λkv=>if kv.1=k then(kv.1,v) else kv) else kvs++ [(k,v)]
theorem jI{p:d0×V}{r:List (d0×V)}{k:d0}(e:p.1=k):valV (p::r) k=some p.2:=by simp[valV,qbQ,e]
theorem jJ{p:d0×V}{r:List (d0×V)}{k:d0}(e:¬p.1=k):valV (p::r) k=valV r k:=by simp[valV,qbQ,e]
theorem Vc(k:d0):∀kvs:List (d0×V),(kvs.any λkv=>decide (kv.1=k))=(valV kvs k).isSome
 | []=>rfl
 |p::r=>by
  rw[List.any_cons]
  by_cases e:p.1=k
  .simp only[jI e,decide_eq_true e,Bool.true_or,Option.isSome_some]
  .rw[jJ e,decide_eq_false e,Bool.false_or];exact Vc k r
theorem Bh(k j:d0)(y:V):∀kvs:List (d0×V),valV (kvs.map λkv=>if kv.1=k then(kv.1,y) else kv) j=(valV kvs j).map λx=>if j=k then y else x
 | []=>rfl
 |p::r=>by
  have b_:=Bh k j y r;rw[List.map_cons]
  by_cases h:p.1=k
  .rw[if_pos h]
   by_cases e:p.1=j
   .rw[jI (p:=(p.1,y)) e,jI e,qbR,if_pos (e.symm.trans h)]
   .rw[jJ (p:=(p.1,y)) e,jJ e,b_]
  .rw[if_neg h]
   by_cases e:p.1=j
   .rw[jI (p:=p) e,jI e,qbR,if_neg (λz=>h (e.trans z))]
   .rw[jJ (p:=p) e,jJ e,b_]
theorem ZfH(k j:d0)(y:V):∀kvs:List (d0×V),valV kvs k=none->valV (kvs++ [(k,y)]) j=if j=k then some y else valV kvs j
 | [],_=>by
  by_cases e:k=j
  .rw[if_pos e.symm];exact jI (p:=(k,y)) e
  .rw[if_neg (λz=>e z.symm)];exact jJ (p:=(k,y)) e
 |p::r,b'=>by
  rw[List.cons_append];have bH:¬p.1=k:=λz=>by rw[jI z] at b';cases b'
  rw[jJ bH] at b';have b_:=ZfH k j y r b'
  by_cases e:p.1=j
  .rw[jI e,jI e,if_neg (λz=>bH (e.trans z))]
  .rw[jJ e,jJ e,b_]
theorem IX(kvs:List (d0×V))(k j:d0)(y:V):valV (gx kvs k y) j=if j=k then some y else valV kvs j:=by
 unfold gx
 by_cases a:(kvs.any λkv=>decide (kv.1=k))=true
 .rw[if_pos a,Bh];rw[Vc] at a
  by_cases e:j=k
  .obtain⟨x,ar⟩:=qbJ.mp a;rw[if_pos e,e,ar,qbR,if_pos rfl]
  .rw[if_neg e];cases valV kvs j with
   |none=>rfl
   |some x=>rw[qbR,if_neg e]
 .rw[if_neg a];refine ZfH k j y kvs ?_;rw[Vc] at a;cases q:valV kvs k with
  |none=>rfl
  |some x=>rw[q] at a;exact(a rfl).elim
theorem Zau(kvs:List (d0×V))(k:d0)(v:V):(gx kvs k v).length<=kvs.length+1:=by
 unfold gx
 split
 .rw[GM];omega
 .rw[qag,List.length_cons,List.length_nil];omega
theorem Za1{kvs:List (d0×V)}{k:d0}(v:V)(h:valV kvs k=none):gx kvs k v=kvs++ [(k,v)]:=by
 unfold gx;rw[Vc,h];exact if_neg (by decide)
theorem im.isSome_eq{o:Option V}{u:Option Value}(r:im o u):o.isSome=u.isSome:=by
 cases o with
 |none=>cases u with
  |none=>rfl
  |some _=>exact(show False from r).elim
 |some _=>cases u with
  |none=>exact(show False from r).elim
  |some _=>rfl
theorem KV.val{kvs:List (d0×V)}{vs:List (d0×Value)}(r:KV kvs vs)(k:d0):im (valV kvs k) (valueAt vs k):=by
 unfold KV at r
 induction r with
 |nil=>exact True.intro
 | @cons p q ci qs h t b_=>
  obtain⟨ay,aD⟩:=h
  by_cases e:p.1=k
  .have cv:q.1=k:=ay.symm.trans e;have b:valueAt (q::qs) k=some q.2:=by simp[valueAt,qbQ,cv]
   rw[jI e,b];exact aD
  .have cv:¬q.1=k:=λz=>e (ay.trans z);have b:valueAt (q::qs) k=valueAt qs k:=by simp[valueAt,qbQ,cv]
   rw[jJ e,b];exact b_
theorem KV.any{kvs:List (d0×V)}{vs:List (d0×Value)}(r:KV kvs vs)(k:d0):(kvs.any λkv=>decide (kv.1=k))=vs.any λkv=>decide (kv.1=k):=by
 unfold KV at r
 induction r with
 |nil=>rfl
 |cons h t b_=>rw[List.any_cons,List.any_cons,b_,h.1]
theorem KV.repl{kvs:List (d0×V)}{vs:List (d0×Value)}(r:KV kvs vs)(k:d0){y:V}{u:Value}(cI:c4 y u):
  KV (kvs.map λkv=>if kv.1=k then(kv.1,y) else kv) (vs.map λkv=>if kv.1=k then(kv.1,u) else kv):=by
 unfold KV at r|-
 induction r with
 |nil=>exact .nil
 | @cons p q ci qs h t b_=>
  rw[List.map_cons,List.map_cons];refine .cons ?_ b_;obtain⟨ay,aD⟩:=h
  by_cases e:p.1=k
  .rw[if_pos e,if_pos (ay.symm.trans e)];exact⟨ay,cI⟩
  .rw[if_neg e,if_neg (λz=>e (ay.trans z))];exact⟨ay,aD⟩
theorem KV.put{kvs:List (d0×V)}{vs:List (d0×Value)}(r:KV kvs vs)(k:d0){y:V}{u:Value}(cI:c4 y u):KV (gx kvs k y) (stored vs k u):=by
 unfold gx stored;rw[r.any k]
 by_cases e:(vs.any λkv=>decide (kv.1=k))=true
 .rw[if_pos e,if_pos e];exact r.repl k cI
 .rw[if_neg e,if_neg e];exact Paired.snoc r ⟨rfl,cI⟩
theorem KV.length{kvs:List (d0×V)}{vs:List (d0×Value)}(r:KV kvs vs):kvs.length=vs.length:=Paired.length r
end
theorem pP{P:Program}{w:World}{k:Key}{u:Value}(r:c4 (kV k) u):(fQ P w).is k u=true:=by
 cases k with
 |inl i=>obtain⟨t,e⟩:=(show ∃t,u=Value.int i t from r);subst e;exact ZhG P w i t
 |inr x=>obtain⟨t,e⟩:=(show ∃t,u=Value.str x t from r);subst e;exact ZhV P w x t
theorem IY{a b:Key}(e:kV a=kV b):a=b:=by
 cases a with
 |inl i=>cases b with
  |inl j=>have cv:V.int i=V.int j:=e;injection cv with cv;rw[cv]
  |inr y=>exact nomatch (show V.int i=V.str y from e)
 |inr x=>cases b with
  |inl j=>exact nomatch (show V.str x=V.int j from e)
  |inr y=>have cv:V.str x=V.str y:=e;injection cv with cv;rw[cv]
theorem Bi{P:Program}{w:World}:∀{gv:List Key}{us:List Value},cW (gv.map kV) us->ItemsAre (fQ P w) gv us
 | [],_,r=>by rw[List.map_nil] at r;cases r;exact .nil
 |k::gv,_,r=>by
  rw[List.map_cons] at r;cases r with
  |cons h t=>exact .cons (pP h) (Bi t)
abbrev KT (H:Hp):List (List Key×V)->List (List Key×Addr×Value)->Prop:=Paired λp q=>p.1=q.1/\H q.2.1=some (.tup (p.1.map kV))/\c4 p.2 q.2.2
theorem KT.val{H:Hp}{kvs:List (List Key×V)}{xs:List (List Key×Addr×Value)}(r:KT H kvs xs)(k:List Key):im (valV kvs k) ((atKey xs k).map (·.2)):=by
 induction r with
 |nil=>exact True.intro
 | @cons p q ci qs h t b_=>
  obtain⟨ay,_,aD⟩:=h
  by_cases e:p.1=k
  .have cv:q.1=k:=ay.symm.trans e;have b:atKey (q::qs) k=some q.2:=by simp[atKey,qbQ,cv]
   rw[jI e,b];exact aD
  .have cv:¬q.1=k:=λz=>e (ay.trans z);have b:atKey (q::qs) k=atKey qs k:=by simp[atKey,qbQ,cv]
   rw[jJ e,b];exact b_
theorem KT.repl{H:Hp}{kvs:List (List Key×V)}{xs:List (List Key×Addr×Value)}(r:KT H kvs xs)(k:List Key){y:V}{u:Value}(cI:c4 y u):
  KT H (kvs.map λkv=>if kv.1=k then(kv.1,y) else kv) (xs.map (putAt k u)):=by
 induction r with
 |nil=>exact .nil
 | @cons p q ci qs h t b_=>
  rw[List.map_cons,List.map_cons];refine .cons ?_ b_;obtain⟨ay,aD,cj⟩:=h;unfold putAt
  by_cases e:p.1=k
  .rw[if_pos e,if_pos (ay.symm.trans e)];exact⟨ay,aD,cI⟩
  .rw[if_neg e,if_neg (λz=>e (ay.trans z))];exact⟨ay,aD,cj⟩
theorem KT.put{H:Hp}{kvs:List (List Key×V)}{xs:List (List Key×Addr×Value)}(r:KT H kvs xs)(k:List Key){b:Addr}{y:V}{u:Value}(au:H b=some (.tup (k.map kV)))(cI:c4 y u):
  KT H (gx kvs k y) (storedH xs k b u):=by
 have e:(kvs.any λkv=>decide (kv.1=k))=(atKey xs k).isSome:=by
  rw[Vc,(r.val k).isSome_eq,Option.isSome_map]
 unfold gx storedH;rw[e]
 by_cases q:(atKey xs k).isSome=true
 .rw[if_pos q,if_pos q];exact r.repl k cI
 .rw[if_neg q,if_neg q];exact Paired.snoc r ⟨rfl,au,cI⟩
theorem KT.keeps{H aj:Hp}{kvs:List (List Key×V)}{xs:List (List Key×Addr×Value)}(r:KT H kvs xs)(bY:∀b ys,H b=some (.tup ys)->aj b=some (.tup ys)):KT aj kvs xs:=
 Paired.mapP r λ_ _ z=>⟨z.1,bY _ _ z.2.1,z.2.2⟩
section
variable {P:Program}{w:World}{H:Hp}{h:Heap}{a:Addr}
theorem Zmz{u:HO}(ok:HOk P w H h)(e:Rd H a u):Z3 P w H h a u:=e.ok ok
theorem Zaq{kvs:List (Key×V)}(ok:HOk P w H h)(e:Rd H a (.dK kvs)):kvs.length<=sizeLine/\(a==sysModules)=false/\∃vs,KV kvs vs/\h.DictOf (fQ P w) a vs:=
 show Z3 P w H h a (.dK kvs) from Zmz ok e
theorem ZcK{kvs:List (Key×V)}(ok:HOk P w H h)(e:H a=some (.dK kvs)):kvs.length<=sizeLine/\(a==sysModules)=false/\∃vs,KV kvs vs/\h.DictOf (fQ P w) a vs:=Zaq ok (.inl e)
theorem ra{gv:List Key}(ok:HOk P w H h)(e:H a=some (.tup (gv.map kV))):(tupleKind (fQ P w)).is h gv a:=by
 obtain⟨_,its,r,o,ay,aD,n,cj⟩:=(show Z3 P w H h a (.tup (gv.map kV)) from ok a _ e);exact⟨o,its.toArray,n,ay,aD,cj,by simpa using Bi r⟩
theorem ZdY{kvs:List (List Key×V)}(ok:HOk P w H h)(e:Rd H a (.dT kvs)):kvs.length<=sizeLine/\(a==sysModules)=false/\
  ∃xs,KT H kvs xs/\h.DictOfH (tupleKind (fQ P w)) a xs:=by
 obtain⟨z,y,xs,r,o,b7,ep,ay,aD,cj,cS,ec⟩:=(show Z3 P w H h a (.dT kvs) from Zmz ok e);refine⟨z,y,xs,r,o,b7,ep,ay,aD,cj,cS,λx ar=>?_,ec⟩;have all:∀{l:List (List Key×V)}{m:List (List Key×Addr×Value)},KT H l m->∀x∈m,(tupleKind (fQ P w)).is h x.1 x.2.1:=by
  intro l m q
  induction q with
  |nil=>intro x ar;exact nomatch ar
  | @cons p q ci qs cC t b_=>
   intro x ar;rcases qaf.mp ar with e|ar
   .subst e;exact ra ok (by rw[<-cC.1];exact cC.2.1)
   .exact b_ x ar
 exact all r x ar
theorem Zo4{kvs:List (List Key×V)}(ok:HOk P w H h)(e:H a=some (.dT kvs)):kvs.length<=sizeLine/\(a==sysModules)=false/\
  ∃xs,KT H kvs xs/\h.DictOfH (tupleKind (fQ P w)) a xs:=ZdY ok (.inl e)
end
def Us(H:Hp)(a:Addr)(y:V)(r:Option V):Prop:=
 (∃kvs k,Rd H a (.dK kvs)/\y=kV k/\r=valV kvs k)\/∃kvs k b,Rd H a (.dT kvs)/\y= .ref b/\H b=some (.tup (k.map kV))/\r=valV kvs k
def Ze7(H:Hp)(a:Addr)(y v:V)(aj:Hp):Prop:=
 (∃kvs k,H a=some (.dK kvs)/\y=kV k/\kvs.length<sizeLine/\aj=upd H a (.dK (gx kvs k v)))\/
 ∃kvs k b,H a=some (.dT kvs)/\y= .ref b/\H b=some (.tup (k.map kV))/\kvs.length<sizeLine/\aj=upd H a (.dT (gx kvs k v))
theorem Us.k{H:Hp}{a:Addr}{kvs:List (Key×V)}{k:Key}(e:H a=some (.dK kvs)):Us H a (kV k) (valV kvs k):= .inl ⟨kvs,k,.inl e,rfl,rfl⟩
theorem Ze7.k{H:Hp}{a:Addr}{kvs:List (Key×V)}{k:Key}{v:V}(e:H a=some (.dK kvs))(ap:kvs.length<sizeLine):Ze7 H a (kV k) v (upd H a (.dK (gx kvs k v))):= .inl ⟨kvs,k,e,rfl,ap,rfl⟩
section
variable {X:Cx}{aq:List (Addr×Obj)}{ao:St}{H:Hp}{s:Shared}{a:Addr}{y v:V}{u r:Value}{o:Option V}{A:Around}{E:Value->Shared->Prop}
theorem Inv.big(I:Inv X aq ao H s):sysModules<s.heap.objs.size:=by
 have h:mainGlobals<s.heap.objs.size:=(I.mod.glob.keeps I.bk).lt;exact Nat.lt_trans (by decide) h
theorem IZ{Q:Value->Shared->Prop}(hu:A.units+1<cLine)(I:Inv X aq ao H s)(g:Us H a y (some v))(cI:c4 y u)(h:∀eH s',Inv X aq ao H s'->c4 v eH->Q eH s'):
  wpAny (model X.prog X.w) A (getItem (.ref a) u) Q E s:=by
 rcases g with⟨kvs,k,e,eA,l⟩|⟨kvs,k,b,e,eA,c7,l⟩
 .subst eA;obtain⟨z,hd,vs,rel,dd⟩:=Zaq I.hok e;obtain⟨eH,hw,kO⟩:=im.some_of (v:=v) (o:=valueAt vs k) (by rw[l];exact rel.val k);exact wpAny_getItem_of (pP cI) dd.mapOf hw (h eH _ (I.tok _) kO)
 .subst eA;cases (show u=Value.ref b from cI);obtain⟨z,hd,xs,rel,dd⟩:=ZdY I.hok e;obtain⟨eH,hw,kO⟩:=im.some_of (v:=v) (o:=(atKey xs k).map (·.2)) (by rw[l];exact rel.val k);obtain⟨p,bO,lD⟩:=Option.map_eq_some_iff.mp hw;refine wpAny_getItem_heap (tupleKind_room_in1 hu) (ra I.hok c7) dd bO ?_;rw[lD];exact h eH _ (I.tok _) kO
theorem ZpH{Q:Value->Shared->Prop}(hu:A.units+1<cLine)(I:Inv X aq ao H s)(g:Us H a y o)(cI:c4 y u)(h:∀s',Inv X aq ao H s'->Q (.bool o.isSome) s'):
  wpAny (model X.prog X.w) A (compareOp .In u (.ref a)) Q E s:=by
 rcases g with⟨kvs,k,e,eA,l⟩|⟨kvs,k,b,e,eA,c7,l⟩
 .subst eA;obtain⟨z,hd,vs,rel,dd⟩:=Zaq I.hok e;refine wpAny_in_of (pP cI) hd dd.mapOf ?_;rw[<-(rel.val k).isSome_eq,<-l];exact h _ (I.tok _)
 .subst eA;cases (show u=Value.ref b from cI);obtain⟨z,hd,xs,rel,dd⟩:=ZdY I.hok e;refine wpAny_in_heap (tupleKind_room_in1 hu) (ra I.hok c7) hd dd ?_;have q:=(rel.val k).isSome_eq;rw[Option.isSome_map] at q;rw[<-q,<-l];exact h _ (I.tok _)
theorem ZmS{Q:Value->Shared->Prop}(hu:A.units+1<cLine)(I:Inv X aq ao H s)(g:Us H a y o)(cI:c4 y u)(h:∀s',Inv X aq ao H s'->Q (.bool (!o.isSome)) s'):
  wpAny (model X.prog X.w) A (compareOp .NotIn u (.ref a)) Q E s:=by
 rcases g with⟨kvs,k,e,eA,l⟩|⟨kvs,k,b,e,eA,c7,l⟩
 .subst eA;obtain⟨z,hd,vs,rel,dd⟩:=Zaq I.hok e;refine wpAny_notIn_of (pP cI) hd dd.mapOf ?_;rw[<-(rel.val k).isSome_eq,<-l];exact h _ (I.tok _)
 .subst eA;cases (show u=Value.ref b from cI);obtain⟨z,hd,xs,rel,dd⟩:=ZdY I.hok e;refine wpAny_notIn_heap (tupleKind_room_in1 hu) (ra I.hok c7) hd dd ?_;have q:=(rel.val k).isSome_eq;rw[Option.isSome_map] at q;rw[<-q,<-l];exact h _ (I.tok _)
theorem tL{h':Heap}{t':Nat}{dj:HO}(I:Inv X aq ao H s)(i9:Mut (H a))(hs:Heap.SameBut a s.heap h')(b9:∃q,h'.get? a=some q)(new:Z3 X.prog X.w (upd H a dj) h' a dj):
  Inv X aq ao (upd H a dj) {s with heap:=h',toks:=t'}:=
 I.write (x:=a) (e:=a) i9 (.inl rfl) (λb q au z=>(hs.2 b au).trans z) b9 new
theorem wr{P:Program}{w:World}{aj:Hp}{h':Heap}{kvs:List (Key×V)}{vs:List (Key×Value)}(z:kvs.length<=sizeLine)(hd:(a==sysModules)=false)(rel:KV kvs vs)(dd:h'.DictOf (fQ P w) a vs):
  Z3 P w aj h' a (.dK kvs):=⟨z,hd,vs,rel,dd⟩
theorem ZkQ{aj:Hp}{Q:Unit->Shared->Prop}(hu:A.units+1<cLine)(I:Inv X aq ao H s)(g:Ze7 H a y v aj)(cI:c4 y u)(dC:c4 v r)(h:∀s',Inv X aq ao aj s'->Q () s'):
  wpAny (model X.prog X.w) A (setItem (.ref a) u r) Q E s:=by
 rcases g with⟨kvs,k,e,eA,l,wt⟩|⟨kvs,k,b,e,eA,c7,l,wt⟩
 .subst eA wt;obtain⟨z,hd,vs,rel,dd⟩:=ZcK I.hok e;have bU:vs.length<=sizeLine:=by rw[<-rel.length];exact z
  have ap:(gx kvs k v).length<=sizeLine:=by have:=Zau kvs k v;omega
  refine wpAny_setItem_pairs (hsz:=bU) (pP cI) dd λh' dd' hs=>h _ ?_;have b9:∃q,h'.get? a=some q:=let⟨q,_,_,cC,_⟩:=dd';⟨q,cC⟩
  exact tL I (by rw[e];exact True.intro) hs b9 (wr ap hd (rel.put k dC) dd')
 .subst eA wt;cases (show u=Value.ref b from cI);obtain⟨z,hd,xs,rel,dd⟩:=Zo4 I.hok e;have bU:xs.length<=sizeLine:=by rw[<-Paired.length rel];exact z
  have ap:(gx kvs k v).length<=sizeLine:=by have:=Zau kvs k v;omega
  refine wpAny_setItem_heap (hsz:=bU) (tupleKind_room_in1 hu) (ra I.hok c7) dd λh' dd' hs=>h _ ?_;obtain⟨q,b7,ep,cC,aD,cj,cS,_,ec⟩:=dd';refine tL I (by rw[e];exact True.intro) hs ⟨q,cC⟩ ⟨ap,hd,_,(rel.put k c7 dC).keeps λc ys j_=>?_,q,b7,ep,cC,aD,cj,cS,ec⟩;rw[b3 (e_ j_ e (λz=>nomatch z))];exact j_
end
section
variable {X:Cx}{aq:List (Addr×Obj)}{ao:St}{H:Hp}{s:Shared}{a:Addr}{kvs:List (Key×V)}{k:Key}{u:Value}{A:Around}{E:Value->Shared->Prop}
theorem Zpe{Q:Value->Shared->Prop}(I:Inv X aq ao H s)(e:Rd H a (.dK kvs))(h:∀t s',Inv X aq ao H s'->Q (.int kvs.length t) s'):wpAny (model X.prog X.w) A (call (.builtin "len") [.ref a]) Q E s:=by
 obtain⟨z,hd,vs,rel,dd⟩:=Zaq I.hok e;refine call_len_dict hd dd (by rw[<-rel.length];rw[sizeLine_eq] at z;omega) ?_;rw[<-rel.length];exact h _ _ (I.tok _)
end
theorem I0{X:Cx}{aq:List (Addr×Obj)}{ao:St}{H:Hp}{s:Shared}{a:Addr}{y:V}{o:Option V}(I:Inv X aq ao H s)(g:Us H a y o):s.TypeIs (.ref a) "dict" :=by
 rcases g with⟨kvs,k,e,_,_⟩|⟨kvs,k,b,e,_,_,_⟩
 .obtain⟨_,_,vs,_,dd⟩:=Zaq I.hok e;exact dd.typeIs
 .obtain⟨_,_,xs,_,dd⟩:=ZdY I.hok e;exact dd.typeIs
theorem Bj{P:Program}{w:World}{H:Hp}(h:Heap)(au:sysModules<h.objs.size):Z3 P w H (h.push {cls:= .type "dict",data:= .dict #[]}) h.objs.size (.dK []):=
 ⟨qar _,beq_eq_false_iff_ne.mpr (qaY (qas au)),[],.nil,Heap.DictOf.new h⟩
def tDNewK:TE:=λ_ H Q=>∀p,H p=none->Q (.ref p) (upd H p (.dK []))
section
variable {X:Cx}{pos:Pos}
theorem wu:PE X (.Dict [] [] pos) tDNewK:=λaq s ao H Q I h=>
 wpAny_Dict_empty ⟨.ref s.heap.objs.size,_,I.laid (a:=s.heap.objs.size) (o:= .dK []) (t':=s.toks) (λ_ _ q=>Heap.get?_push_of_some _ q) (qaa _) (Bj s.heap I.big),rfl,h _ (I.hok.fresh (qaa _))⟩
end
def tM:List (TE×TE)->St->Hp->(List (V×V)->Hp->Prop)->Prop
 | [],_,H,Q=>Q [] H
 |(ce,fK)::r,ao,H,Q=>ce ao H λx aA=>fK ao aA λy aP=>tM r ao aP λci b5=>Q ((x,y)::ci) b5
abbrev VV:List (V×V)->List (Value×Value)->Prop:=Paired λp q=>c4 p.1 q.1/\c4 p.2 q.2
def PPs(X:Cx)(pos:Pos)(keys:List (Option Expr))(rb:List Expr)(mA:List (TE×TE)):Prop:=
 ∀(aq:List (Addr×Obj))(s:Shared)(ao:St)(H:Hp)(Q:List (V×V)->Hp->Prop),Inv X aq ao H s->tM mA ao H Q->
  wpAny (model X.prog X.w) X.A (evalPairs (pairTrees keys rb X.env pos)) (λvs s'=>∃ci aj,Inv X aq ao aj s'/\VV ci vs/\Q ci aj) X.xe s
theorem ZmT{X:Cx}{pos:Pos}:PPs X pos [] [] []:=λaq s ao H Q I h=>pairTrees_nil_walk ⟨[],H,I,.nil,h⟩
theorem I1{X:Cx}{pos:Pos}{k v:Expr}{gv:List (Option Expr)}{vs:List Expr}{ce fK:TE}{mA:List (TE×TE)}(bH:PE X k ce)(cz:PE X v fK)(aC:PPs X pos gv vs mA):
  PPs X pos (some k::gv) (v::vs) ((ce,fK)::mA):=λaq s ao H Q I h=>
 pairTrees_cons_walk (thn (bH aq s ao H _ I h) λu a' ⟨x,aA,bT,cy,cJ⟩=>thn (cz aq a' ao aA _ bT cJ) λj6 bQ ⟨y,aP,cU,cI,cP⟩=>
  thn (aC aq bQ ao aP _ cU cP) λws bV ⟨ci,b5,d_,rel,gJ⟩=>⟨(x,y)::ci,b5,d_,.cons ⟨cy,cI⟩ rel,gJ⟩)
noncomputable def g7 (kvs more:List (Key×V)):List (Key×V):=more.foldl (λdG kv=>gx dG kv.1 kv.2) kvs
theorem KV.merge:∀{more:List (Key×V)}{rs:List (Key×Value)}{kvs:List (Key×V)}{vs:List (Key×Value)},KV more rs->KV kvs vs->KV (g7 kvs more) (merged vs rs):=by
 intro more rs kvs vs r;unfold KV at r
 induction r generalizing kvs vs with
 |nil=>intro q;exact q
 | @cons p q ci qs h t b_=>
  intro oq;have e:KV (gx kvs p.1 p.2) (stored vs q.1 q.2):=by
   have:=oq.put p.1 h.2;rw[<-h.1];exact this
  exact b_ e
theorem tN:∀(more kvs:List (Key×V)),(g7 kvs more).length<=kvs.length+more.length
 | [],kvs=>by show kvs.length<=kvs.length+0;omega
 |p::r,kvs=>by
  have ay:=tN r (gx kvs p.1 p.2);have aD:=Zau kvs p.1 p.2;show(g7 (gx kvs p.1 p.2) r).length<=_;rw[List.length_cons];omega
theorem Zd5{P:Program}{w:World}:∀{kvs:List (Key×V)}{ws:List (Value×Value)},VV (kvs.map λkv=>(kV kv.1,kv.2)) ws->∃rs,Carries (fQ P w) ws rs/\KV kvs rs
 | [],_,r=>by rw[List.map_nil] at r;cases r;exact⟨[],True.intro,.nil⟩
 |p::kvs,_,r=>by
  rw[List.map_cons] at r;cases r with
  | @cons a b as bs h t=>
   obtain⟨rs,c,q⟩:=Zd5 (P:=P) (w:=w) t;obtain⟨gl,iW⟩:=b;exact⟨(p.1,iW)::rs,⟨pP h.1,rfl,c⟩,.cons ⟨rfl,h.2⟩ q⟩
def I2 (mA:List (TE×TE)):TE:=λao H Q=>∀p,H p=none->tM mA ao (upd H p (.dK [])) λci aP=>aP p=some (.dK [])/\∃kvs:List (Key×V),ci=kvs.map (λkv=>(kV kv.1,kv.2))/\kvs.length<=15/\Q (.ref p) (upd aP p (.dK (g7 [] kvs)))
theorem I3{X:Cx}{pos:Pos}{keys:List (Option Expr)}{rb:List Expr}{mA:List (TE×TE)}(h:PPs X pos keys rb mA)(h5:keys.all (·.isSome)=true)(ap:keys.length=rb.length)(c0:keys≠[])
  (I4:keys.length<=15):PE X (.Dict keys rb pos) (I2 mA):=by
 intro aq s ao H Q I q;have b':=I.hok.fresh (qaa s.heap.objs.size);have bT:=I.laid (a:=s.heap.objs.size) (o:= .dK []) (h':=s.heap.push {cls:= .type "dict",data:= .dict #[]}) (t':=s.toks) (λ_ _ q=>Heap.get?_push_of_some _ q) (qaa _) (Bj s.heap I.big);refine wpAny_Dict_walk (knd:=fQ X.prog X.w) h5 ap c0 I4 (thn (h aq _ ao _ _ bT (q _ b')) λws bQ ⟨ci,aP,cU,rel,e,kvs,ep,lk,cP⟩=>?_);subst ep;obtain⟨rs,c,I5⟩:=Zd5 (P:=X.prog) (w:=X.w) rel;obtain⟨z,hd,TN,oq,dd⟩:=ZcK cU.hok e;cases oq;refine⟨rs,c,dd,λh' dd' hs=>⟨.ref s.heap.objs.size,_,?_,rfl,cP⟩⟩;have bU:(g7 [] kvs).length<=sizeLine:=by
  have ay:=tN kvs [];rw[List.length_nil] at ay;rw[sizeLine_eq];omega
 have b9:∃q,h'.get? s.heap.objs.size=some q:=let⟨q,_,_,cC,_⟩:=dd';⟨q,cC⟩
 exact tL cU (by rw[e];exact True.intro) hs b9 (wr bU hd (I5.merge .nil) dd')
section
variable {X:Cx}
theorem I6:YL X (.builtin "len") (λxs H Q=>∃a kvs,xs=[V.ref a]/\H a=some (.dK kvs)/\Q (.int kvs.length) H):=by
 intro aq s ao H xs us Q I r h;obtain⟨a,kvs,rfl,bK,q⟩:=h;obtain⟨u,rfl,fv⟩:=W8 r;cases fv;exact Zpe I (.inl bK) λt s' ek=>⟨.int kvs.length,H,ek,⟨t,rfl⟩,q⟩
end
namespace Rd
section
variable {ao:St}{H:Hp}{Q:VK}{D:Vd}{t u:TS}{cp cN cM:TE}{r:R2}
theorem var{i:Nat}{v:V}(h:ao[i]? =some (some v))(q:Q v H):ZiN i ao H Q:=⟨v,h,q⟩
theorem con{v:V}(q:Q v H):tC v ao H Q:=q
theorem op(h:cp ao H λx aA=>cN ao aA λy aP=>r x y aP Q):tOp r cp cN ao H Q:=h
theorem i0{g:Int->Int->V}{i j:Int}(q:Q (g i j) H):rI0 g (.int i) (.int j) H Q:=⟨i,j,rfl,rfl,q⟩
theorem iC{C:Int->Int->Prop}{g:Int->Int->V}{i j:Int}(c:C i j)(q:Q (g i j) H):rI C g (.int i) (.int j) H Q:=⟨i,j,rfl,rfl,c,q⟩
theorem eqI{i j:Int}(q:Q (.bl (decide (i=j))) H):rEq (.int i) (.int j) H Q:=⟨rfl,by
 have e:decide (V.int i=V.int j)=decide (i=j):=by
  by_cases h:i=j
  .rw[h];simp
  .rw[decide_eq_false h,decide_eq_false (λz=>h (V.int.inj z))]
 rw[e];exact q⟩
theorem neI{i j:Int}(q:Q (.bl (!decide (i=j))) H):rNe (.int i) (.int j) H Q:=⟨rfl,by
 have e:decide (V.int i=V.int j)=decide (i=j):=by
  by_cases h:i=j
  .rw[h];simp
  .rw[decide_eq_false h,decide_eq_false (λz=>h (V.int.inj z))]
 rw[e];exact q⟩
theorem Zps{Q:Bool->Hp->Prop}(h:cM ao H λx aj=>∃k,x= .bl k/\Q k aj):AW cM ao H Q:=h
theorem bl{k:Bool}{Q:Bool->Prop}(q:Q k):∃k',V.bl k= .bl k'/\Q k':=⟨k,rfl,q⟩
theorem seq(h:t {D with nx:=u D} ao H):AF t u D ao H:=h
theorem asg{g:TG}(h:cM ao H λx aA=>g x ao aA D.nx):qW cM g D ao H:=h
theorem ifs{c:TT}(h:c ao H λb aA=>if b=true then t D ao aA else u D ao aA):AI c t u D ao H:=h
theorem ret(h:cM ao H D.rt):AH cM D ao H:=h
theorem next(h:D.nx ao H):tNext D ao H:=h
theorem drop(h:cM ao H λ_ aA=>D.nx ao aA):AG cM D ao H:=h
theorem nil{Q:List V->Hp->Prop}(h:Q [] H):tNil ao H Q:=h
theorem cons{b2:TA}{Q:List V->Hp->Prop}(h:cp ao H λx aA=>b2 ao aA λxs aP=>Q (x::xs) aP):A0 cp b2 ao H Q:=h
theorem call{sp:Sp}{dH:List V}{E:XK}{du:TA}(h:du ao H λvs aA=>sp (vs++dH) aA Q E):wg sp dH E du ao H Q:=h
theorem cb{r:List V->Hp->VK->Prop}{du:TA}(h:du ao H λvs aA=>r vs aA Q):tCB r du ao H Q:=h
theorem tup{du:TA}(h:du ao H λxs aA=>xs.length<=sizeLine/\∀p,aA p=none->Q (.ref p) (upd aA p (.tup xs))):A1 du ao H Q:=h
theorem lst{du:TA}(h:du ao H λxs aA=>xs.length<=sizeLine/\∀p,aA p=none->Q (.ref p) (upd aA p (.lst xs))):wf du ao H Q:=h
theorem Zpu{t u:TT}{Q:Bool->Hp->Prop}(h:t ao H λc aA=>if c=true then u ao aA Q else Q false aA):AA t u ao H Q:=h
theorem or_{t u:TT}{Q:Bool->Hp->Prop}(h:t ao H λc aA=>if c=true then Q true aA else u ao aA Q):tOr t u ao H Q:=h
theorem ZpD{t:TT}{Q:Bool->Hp->Prop}(h:t ao H λc aA=>Q (!c) aA):AB t ao H Q:=h
theorem ZpT(h:cp ao H λx aA=>∃c,x= .bl c/\if c=true then cN ao aA Q else Q (.bl false) aA):AC cp cN ao H Q:=h
theorem ZpI(h:cp ao H λx aA=>∃c,x= .bl c/\Q (.bl (!c)) aA):AD cp ao H Q:=h
end
end Rd
section
variable {X:Cx}
theorem I7:OpR X (binaryOp .Mult) (rI (λi j=>IntMulOk i j) λi j=> .int (i*j)):=opI λ_ _ _ _ _ _ _ a_ q=>mul_int q a_
theorem fo:OpR X (binaryOp .FloorDiv) (rI (λ_ j=>0<j/\j.natAbs.log2<9000) λi j=> .int (i / j)):=opI λi j _ _ _ _ _ a_ q=>by
 rw[<-Int.fdiv_eq_ediv_of_nonneg i (Int.le_of_lt a_.1)] at q;exact floordiv_int (by have:=a_.1;omega) q (.inl (PyProof.noPylong_of_log2 a_.2))
theorem I8:YL X (.builtin "isinstance") (λxs H Q=>∃x n t b,xs=[x,.ty n]/\WH X.K H x t/\PySem.W.kitOne X.K t (.type n)=some b/\Q (.bl b) H):=by
 intro aq s ao H xs us Q I r h;obtain⟨x,n,t,b,rfl,ty,e,q⟩:=h;obtain⟨u,v,rfl,fv,dC⟩:=r.two;obtain rfl:v=Value.type n:=dC;exact Zkj I fv ty e λce=>⟨.bl b,H,I.tok ce,rfl,q⟩
theorem ZgE{c:TT}{cN:TS}{D:Vd}{ao:St}{H:Hp}(W:Nat->St->Hp->Prop)(m:Nat)(c0:W m ao H)
  (hs:∀m ao H,W m ao H->c ao H λb aA=>if b=true then ∃N:St->Hp->Prop,(∀b1 aj,N b1 aj->∃cH,cH<m/\W cH b1 aj)/\cN {D with nx:=N,ct:=N,bk:=D.nx} ao aA else D.nx ao aA):AN c cN D ao H:=
 ⟨W,⟨m,c0⟩,hs⟩
theorem Zju{W:Nat->St->Hp->Prop}{m:Nat}{cN:TS}{D:Vd}{ao:St}{aA:Hp}
  (h:cN {D with nx:=λb1 aj=>∃cH,cH<m/\W cH b1 aj,ct:=λb1 aj=>∃cH,cH<m/\W cH b1 aj,bk:=D.nx} ao aA):
  ∃N:St->Hp->Prop,(∀b1 aj,N b1 aj->∃cH,cH<m/\W cH b1 aj)/\cN {D with nx:=N,ct:=N,bk:=D.nx} ao aA:=⟨_,λ_ _ z=>z,h⟩
def Bk (t:TS):TS:=λD ao H=>∃J:St->Hp->Prop,(∀b1 aj,J b1 aj->D.nx b1 aj)/\t {D with nx:=J} ao H
theorem tO{st:Stmt}{t:TS}(h:PS X st t):PS X st (Bk t):=by
 intro aq s ao H D I cC;obtain⟨J,jK,q⟩:=cC;refine thn (h aq s ao H _ I q) λf a' cJ=>?_;cases f with
 |next=>obtain⟨b1,aj,ek,j⟩:=cJ;exact⟨b1,aj,ek,jK _ _ j⟩
 |brk=>exact cJ
 |cont=>exact cJ
 |ret v=>exact cJ
end
namespace Rd
theorem Zmn{A B:Prop}(h:B):if(!true)=true then A else B:=Zhq h
theorem Zmp{A B:Prop}(h:A):if(!false)=true then A else B:=ZgY h
section
variable {ao:St}{H:Hp}{Q:VK}{D:Vd}{t u:TS}{cp cN cM:TE}
theorem cut(J:St->Hp->Prop)(jK:∀b1 aj,J b1 aj->D.nx b1 aj)(h:t {D with nx:=J} ao H):Bk t D ao H:=⟨J,jK,h⟩
theorem ZpU{e1:TI}{g:TG}{cN:TS}(h:e1 ao H λJ aA=>∃W:Nat->Nat->St->Hp->Prop,(∃m,W 0 m ao aA)/\∀i m ao H,W i m ao H->
  (J.stop i H/\D.nx ao H)\/(J.go i H/\∃N:St->Hp->Prop,(∀b1 aj,N b1 aj->∃cH,cH<m/\W (i+1) cH b1 aj)/\∀x aj,J.yld i H x aj->g x ao aj λcx aP=>cN {D with nx:=N,ct:=N,bk:=D.nx} cx aP)):AS e1 g cN D ao H:=h
theorem Zpl{du:TA}{R:It->Hp->Prop}(h:du ao H λvs aA=>∃j:Int,vs=[.int j]/\ -(2 ^ 62)<=j/\j<2 ^ 62/\R (Itr 0 j.toNat) aA):AQ du ao H R:=h
theorem Zpp{du:TA}{R:It->Hp->Prop}(h:du ao H λvs aA=>∃i j:Int,vs=[.int i,.int j]/\(-(2 ^ 62)<=i/\i<2 ^ 62/\ -(2 ^ 62)<=j/\j<2 ^ 62)/\R (Itr i (j-i).toNat) aA):AR du ao H R:=h
theorem Yv{K:Frag}{n:Nat}{du:TGs}{a:Addr}{xs:List V}{Q:St->Hp->Prop}(hs:SqT K H a xs)(b':xs.length=n)(h:du xs ao H Q):v4 K n du (.ref a) ao H Q:=⟨a,xs,rfl,hs,b',h⟩
theorem Zpn{Q:St->Hp->Prop}(h:Q ao H):gNil [] ao H Q:=⟨rfl,h⟩
theorem ZoR{g:TG}{gs:TGs}{v:V}{r:List V}{Q:St->Hp->Prop}(h:g v ao H λb1 aj=>gs r b1 aj Q):AJ g gs (v::r) ao H Q:=⟨v,r,rfl,h⟩
end
end Rd
theorem cF{H:Hp}{p:Addr}{o:HO}(bO:H p=none):Zd H (upd H p o):=λc u e=>by rw[b3 (dh e bO)];exact e
theorem Zd.new{H aj:Hp}{q:Addr}{o:HO}(bI:Zd H aj)(cC:H q=none):Zd H (upd aj q o):=λc u e=>by rw[b3 (dh e cC)];exact bI c u e
theorem Zd.seqT{K:Frag}{H aj:Hp}{a:Addr}{xs:List V}(e:Zd H aj)(h:SqT K H a xs):SqT K aj a xs:=by
 rcases h with(h|⟨o,h⟩)|h
 .exact .inl (.inl (e _ _ h))
 .exact .inl (.inr ⟨o,e _ _ h⟩)
 .exact .inr h
namespace Rd
section
variable {ao:St}{H:Hp}{Q:VK}{D:Vd}{K:Frag}
theorem ixt{p:Addr}{xs:List V}{i:Int}{v:V}(h:SqT K H p xs)(e:atI xs i=some v)(q:Q v H):wi K (.ref p) (.int i) H Q:=⟨p,xs,i,v,rfl,rfl,h,e,q⟩
theorem ixl{p:Addr}{xs:List V}{i:Int}{v:V}(h:SqL K H p xs)(e:atI xs i=some v)(q:Q v H):Zfb K (.ref p) (.int i) H Q:=⟨p,xs,i,v,rfl,rfl,h,e,q⟩
theorem bm{T:String}{r:V->List V->Hp->VK->Prop}{to:TE}{t:TA}(h:to ao H λx aA=>tyV K T x aA/\t ao aA λxs aP=>r x xs aP Q):tBM K T r to t ao H Q:=h
theorem tyl{p:Addr}{xs:List V}{B:Prop}(h:H p=some (.lst xs))(q:B):tyV K "list" (.ref p) H/\B:=⟨.inl ⟨rfl,xs,.of h⟩,q⟩
theorem app{p:Addr}{xs:List V}{y:V}(h:H p=some (.lst xs))(ap:xs.length<sizeLine)(q:Q .non (upd H p (.lst (xs++ [y])))):rAppend (.ref p) [y] H Q:=⟨p,xs,y,rfl,rfl,h,ap,q⟩
end
end Rd
noncomputable def emb (ix:List Nat) (ao:St):St:=none::ix.map λj=>(ao[j]?).join
noncomputable def Zr (X:Cx) (cf:Scope) (cl:List (Str×Addr)) (C:Addr) (N:List Str) (s:Shared) (H:Hp) (fp:List Addr):Cx where
 prog:=X.prog
 w:=X.w
 K:=X.K
 mg:=X.mg
 base:=X.base
 A:=X.A
 N:=N
 s₀:=s
 H₀:=H
 env:=compEnvC cf cl C X.env
 outer:=X.stack
 stack:=X.stack
 ex:=fp
 fn:=λ_=>false
 calm:=X.calm
 pn:=[]
 xe:=λ_ _=>False
structure Wg(X:Cx)(cf:Scope)(x:Str)(zs:List Str)(ix:List Nat):Prop where
 kind:cf.kind= .function
 nocell:∀y∈cf.names,y.2≠ .cell
 names:∀y∈cf.names,y.2= .local->cf.names.lookup y.1=some .local
 free:∀y∈cf.names,y.2= .free->X.env.kindOf y.1=some .cell\/X.env.kindOf y.1=some .free
 zfree:∀z∈zs,cf.names.lookup z=some .free
 at_:ix.map (λj=>X.N[j]?)=zs.map some
theorem WV{env:Env}{x:Str}:∀{names:List (Str×NameKind)}{k:NameKind},
  (names.map λ(n,k)=>if(k==NameKind.free&&env.scope.kind== .function&&env.kindOf n==some .cell) then(n,NameKind.cell) else(n,k)).lookup x=some k->
  ∃k',names.lookup x=some k'/\(k=k'\/(k'= .free/\k= .cell))
 | [],_,h=>by simp at h
 |(n,j)::r,k,h=>by
  have h':List.lookup x ((if(j==NameKind.free&&env.scope.kind== .function&&env.kindOf n==some .cell)=true then(n,NameKind.cell) else(n,j))::(r.map λ(n,k)=>if(k==NameKind.free&&env.scope.kind== .function&&env.kindOf n==some .cell) then(n,NameKind.cell) else(n,k)))=some k:=h;cases ar:x==n with
  |true=>
   refine⟨j,by simp[qa6,ar],?_⟩
   by_cases a_:(j==NameKind.free&&env.scope.kind== .function&&env.kindOf n==some .cell)=true
   .rw[if_pos a_] at h';simp only[qa6,ar] at h';cases h';simp only[qbn,beq_iff_eq] at a_;exact .inr ⟨a_.1.1,rfl⟩
   .rw[if_neg a_] at h';simp only[qa6,ar] at h';cases h';exact .inl rfl
  |false=>
   have aD:List.lookup x (r.map λ(n,k)=>if(k==NameKind.free&&env.scope.kind== .function&&env.kindOf n==some .cell) then(n,NameKind.cell) else(n,k))=some k:=by
    by_cases a_:(j==NameKind.free&&env.scope.kind== .function&&env.kindOf n==some .cell)=true
    .rw[if_pos a_] at h';simpa only[qa6,ar] using h'
    .rw[if_neg a_] at h';simpa only[qa6,ar] using h'
   obtain⟨k',e,q⟩:=WV aD;exact⟨k',by simp only[qa6,ar];exact e,q⟩
theorem nr{x:Str}{k:NameKind}:∀{names:List (Str×NameKind)},names.lookup x=some k->(x,k)∈names:=λh=>qbA h
theorem Zbc(env:Env):∀(names:List (Str×NameKind))(dG:List (Str×Addr)),
  (∀y∈names,y.2= .free->∃c,env.cells.lookup y.1=some c)->(∀y c,dG.lookup y=some c->env.cells.lookup y=some c)->
  ∃cl:List (Str×Addr),(forIn names dG (λx (r:List (Str×Addr))=>if x.2==NameKind.free then(do let a<-cellOf env x.1;pure (ForInStep.yield ((x.1,a)::r))) else pure (ForInStep.yield r)):Sem (List (Str×Addr)))=pure cl/\
   (∀y c,cl.lookup y=some c->env.cells.lookup y=some c)/\(∀y,(∃c,dG.lookup y=some c)\/(y,NameKind.free)∈names->∃c,cl.lookup y=some c)
 | [],dG,_,bK=>⟨dG,rfl,bK,λy h=>h.elim id λz=>absurd z (by simp)⟩
 |(n,k)::r,dG,bS,bK=>by
  have aC:∀y∈r,y.2= .free->∃c,env.cells.lookup y.1=some c:=λy bW=>bS y (qaj _ bW)
  by_cases bH:k= .free
  .subst bH;obtain⟨c,a_⟩:=bS (n,.free) qaL rfl;have em:∀y d7,((n,c)::dG).lookup y=some d7->env.cells.lookup y=some d7:=λy d7 h=>by
    cases bW:y==n with
    |true=>
     simp only[qa6,bW] at h;cases h;rw[beq_iff_eq.mp bW];exact a_
    |false=>
     simp only[qa6,bW] at h;exact bK y d7 h
   obtain⟨cl,e,ay,aD⟩:=Zbc env r ((n,c)::dG) aC em;refine⟨cl,?_,ay,λy h=>aD y ?_⟩
   .rw[qb6];have:cellOf env n=pure c:=by unfold cellOf;rw[a_]
    simp only[beq_self_eq_true,if_true,this];exact e
   .rcases h with⟨d7,h⟩|h
    .cases bW:y==n with
     |true=>exact .inl ⟨c,by simp only[qa6,bW]⟩
     |false=>exact .inl ⟨d7,by simp only[qa6,bW];exact h⟩
    .rcases qaf.mp h with h|h
     .cases h;exact .inl ⟨c,by simp⟩
     .exact .inr h
  .obtain⟨cl,e,ay,aD⟩:=Zbc env r dG aC bK;refine⟨cl,?_,ay,λy h=>aD y ?_⟩
   .rw[qb6];have au:(k==NameKind.free)=false:=by simpa using bH
    simp only[au,Bool.false_eq_true,if_false];exact e
   .rcases h with h|h
    .exact .inl h
    .rcases qaf.mp h with h|h
     .cases h;exact absurd rfl bH
     .exact .inr h
def PIf(X:Cx)(ifs:List Expr)(t:TT):Prop:=
 ∀(aq:List (Addr×Obj))(s:Shared)(ao:St)(H:Hp)(Q:Bool->Hp->Prop),Inv X aq ao H s->t ao H Q->
  wpAny (model X.prog X.w) X.A (forIn ifs true λc r=>if r=true then do let ok<-isTrue c X.env (eval c X.env);pure (ForInStep.yield ok) else pure (ForInStep.yield r)) (TP X aq ao Q) X.xe s
def tAll:TT:=λ_ H Q=>Q true H
section
variable {X:Cx}
theorem e5:PIf X [] tAll:=λ_ _ _ H _ I h=>wpAny_pure ⟨H,I,h⟩
theorem rc{c:Expr}{t:TT}(a_:PT X c t):PIf X [c] t:=by
 intro aq s ao H Q I h;rw[qb6];simp only[if_true];refine wpAny_bind (wpAny_bind (thn (a_ aq s ao H _ I h) λb a' q=>wpAny_pure ?_));exact wpAny_pure q
end
section
variable {prog:Program}{w:World}{A:Around}{R:Result->Shared->Prop}{s:Shared}
theorem ZbY{fT target eM:Expr}{ifs:List Expr}{scope:Scope}{pos:Pos}{it dG:Value}{env:Env}(I:Nat->Shared->Prop)
  (turn:∀n s,I n s->wpAny (model prog w) A (pyNext it) (λr dL=>match r with
   |none=>R (.ok .next) dL
   |some v=>wpAny (model prog w) A (letOwnedTupleGo target it v) (λ_ s₀=>wpAny (model prog w) A (assign target env v) (λ_ j7=>
     wpAny (model prog w) A (forIn ifs true λc r=>if r=true then do let ok<-isTrue c env (eval c env);pure (ForInStep.yield ok) else pure (ForInStep.yield r)) (λok iO=>
      if ok=true then wpAny (model prog w) A (eval fT env) (λx pQ=>
       wpAny (model prog w) A (call (.builtin "list.append") [dG,x]) (λ_ Bl=>∃m,m<n/\I m Bl) (λ_ _=>False) pQ) (λ_ _=>False) iO
      else ∃m,m<n/\I m iO) (λ_ _=>False) j7) (λ_ _=>False) s₀) (λ_ _=>False) dL) (λ_ _=>False) s)
  (n:Nat) (h:I n s):
  codeAny (model prog w) A (.compLoop (.ListComp fT [⟨target,eM,ifs,0⟩] scope pos) 0 it dG env) R s:=by
 refine codeAny_loop rfl I (λn s g8=>?_) n h;show wpAny _ A ((compTurn (.ListComp fT [⟨target,eM,ifs,0⟩] scope pos) 0 it dG env).onRaise (λx=>do noteFrame x env;theTreesLotGoes x)) _ _ s;refine wpAny_noted ?_;rw[compTurn_list];refine wpAny_bind (wpAny_standAt (wpAny_bind (wpAny_mono (turn n s g8) (λr dL h₁=>?_) λ_ _ z=>z.elim)));cases r with
 |none=>exact wpAny_pure h₁
 |some v=>
  refine wpAny_bind (wpAny_mono h₁ (λ_ s₀ h₀=>?_) λ_ _ z=>z.elim);refine wpAny_bind (wpAny_mono h₀ (λ_ j7 wv=>wpAny_bind (wpAny_mono wv (λok iO Bm=>?_) λ_ _ z=>z.elim)) λ_ _ z=>z.elim);cases ok with
  |false=>exact wpAny_pure ⟨rfl,Bm⟩
  |true=>
   exact wpAny_bind (wpAny_bind (wpAny_mono Bm (λx pQ ww=>wpAny_bind (wpAny_mono ww (λ_ Bl rd=>wpAny_pure (wpAny_pure ⟨rfl,rd⟩)) λ_ _ z=>z.elim)) λ_ _ z=>z.elim))
end
def wx (ix:List Nat) (e1:TI) (g:TG) (dP:TT) (cM:TE):TE:=λao H Q=>e1 ao H λJ aA=>∀p,aA p=none->
 ∃W:Nat->Nat->List V->St->Hp->Prop,(∃m,W 0 m [] (emb ix ao) (upd aA p (.lst [])))/\∀i m ys b1 aj,W i m ys b1 aj->
  (J.stop i aj/\Q (.ref p) aj)\/(J.go i aj/\∀x aP,J.yld i aj x aP->g x b1 aP λcx b5=>dP cx b5 λb bZ=>
   if b=true then cM cx bZ λv b4=>b4 p=some (.lst ys)/\ys.length<sizeLine/\∃cH,cH<m/\W (i+1) cH (ys++ [v]) cx (upd b4 p (.lst (ys++ [v])))
   else ∃cH,cH<m/\W (i+1) cH ys cx bZ)
section
variable {X:Cx}
theorem ZiH{aq:List (Addr×Obj)}{ao:St}{H:Hp}{s:Shared}{cf:Scope}{x:Str}{zs:List Str}{ix:List Nat}{cl:List (Str×Addr)}{fp:List Addr}{h₁:Heap}{ce:Nat}
  (S:Wg X cf x zs ix) (I:Inv X aq ao H s) (f6:∀y c,cl.lookup y=some c->X.env.cells.lookup y=some c) (h7:∀y,(y,NameKind.free)∈cf.names->∃c,cl.lookup y=some c)
  (j':∀b∈fp,hx X aq H b/\b<s.heap.objs.size) (pN:h₁.Ns s.heap.objs.size λ_=>none) (bH:∀b o,s.heap.get? b=some o->h₁.get? b=some o):
  Inv (Zr X cf cl s.heap.objs.size (x::zs) s H fp) [] (emb ix ao) H {s with heap:=h₁,toks:=ce}:=by
 have sub:∀b∈frs X.stack,b∈X.env.locals::X.fs:=I.stkSub;have wy:∀b∈fp,b∉frs X.stack:=λb au z=>by
  obtain⟨⟨_,f1,f2,_⟩,_⟩:=j' b au;rcases qaf.mp (sub b z) with e|e
  .exact f1 e
  .exact f2 e
 have cut:∀y,(Zr X cf cl s.heap.objs.size (x::zs) s H fp).env.kindOf y=some .cell\/(Zr X cf cl s.heap.objs.size (x::zs) s H fp).env.kindOf y=some .free->∃c,cl.lookup y=some c:=λy bW=>by
  have q:∃k,(relabel cf X.env).names.lookup y=some k/\(k= .cell\/k= .free):=by
   rcases bW with bW|bW
   .exact⟨_,bW,.inl rfl⟩
   .exact⟨_,bW,.inr rfl⟩
  obtain⟨k,e,bH⟩:=q;obtain⟨k',cv,q⟩:=WV e;have:k'= .free:=by
   rcases q with q|⟨q,_⟩
   .rcases bH with z|z
    .exact absurd (q.symm.trans z) (S.nocell _ (nr cv))
    .exact q.symm.trans z
   .exact q
  subst this;exact h7 y (nr cv)
 refine⟨⟨I.ok.mod,S.kind,I.ok.glob,I.ok.blt,qaa _,λy z c ay aD=>I.ok.inj y z c (f6 _ _ ay) (f6 _ _ aD),cut,λy c bS _=>?_,I.ok.hd,I.ok.frames,.inl rfl,λb au=>?_,I.bs,qap I.ok.bsz I.sz,λb o e au=>?_,wy,I.stack,I.stkFree⟩,
  rfl,I.bare,Un.kept bH,⟨_,pN,λi y v ay aD cj=>?_⟩,λy c h=>?_,I.hok.fresh (qaa _),λy c h=>I.freeC y c (f6 y c h),λp bO=>absurd (show p∈([]:List (Addr×Obj)) from bO) (by simp),I.hok.kept bH,?_⟩
 .exact absurd (show false=true from bS) (by decide)
 .obtain⟨⟨ea,f1,f2,da,eN,dQ⟩,ap⟩:=j' b au;exact⟨qas ap,λy c h=>eN y c (f6 y c h)⟩
 .obtain⟨⟨ea,f1,f2,da,eN,dQ⟩,ap⟩:=j' b au;rcases da with z|z
  .exact I.ok.noex b o e z
  .exact absurd (qae (Heap.lt_size e) (qap I.ok.bsz z)) (qby _)
 ·
  cases i with
  |zero=>
   have:(none:Option (Option V))=some (some v)\/(some none:Option (Option V))=some (some v):= .inr aD;rcases this with z|z<;>cases z
  |succ i=>
   have ka:zs[i]? =some y:=ay;have g9:(ix.map λj=>(ao[j]?).join)[i]? =some (some v):=aD;have bK:(ix.map λj=>X.N[j]?)[i]? =some (some y):=by rw[S.at_,qao,ka];rfl
   rw[qao] at g9 bK;cases e:ix[i]? with
   |none=>rw[e] at g9;cases g9
   |some j=>
    rw[e] at g9 bK;have em:X.N[j]? =some y:=qaC bK;have bP:(ao[j]?).join=some v:=qaC g9;have wz:ao[j]? =some (some v):=by
     cases q:ao[j]? with
     |none=>rw[q] at bP;cases bP
     |some o=>rw[q] at bP;exact congrArg some bP
    obtain⟨m,b',ap⟩:=I.loc;have fq:=S.zfree y (qau ka);have oi:=S.free _ (nr fq) rfl;have cz:Vis X.env.scope y:=by
     rcases oi with z|z
     .exact .inr (.inl z)
     .exact .inr (.inr z)
    obtain⟨u,r,q⟩:=ap j y v em wz cz;refine⟨u,r,?_⟩;rcases q with⟨wA,_⟩|⟨_,c,a_,nf⟩
    .have re:X.env.kindOf y=some .local:=wA;rcases oi with z|z<;>(rw[z] at re;cases re)
    .obtain⟨d7,ml⟩:=h7 y (nr fq);have j_:d7=c:=by have:=f6 y d7 ml;rw[a_] at this;exact(qaC this).symm
     subst j_;refine .inr ⟨?_,d7,ml,?_⟩
     .have wB:Vis (relabel cf X.env) y:=cj;rcases wB with z|z|z
      .obtain⟨k',cv,q⟩:=WV z;rw[fq] at cv;cases cv;rcases q with q|⟨_,q⟩<;>cases q
      .exact .inl z
      .exact .inr z
     .obtain⟨o,b6,hd⟩:=nf;exact⟨o,bH _ _ b6,hd⟩
 .obtain⟨v,o,b6,hd⟩:=I.cell y c (f6 y c h);exact⟨v,o,bH _ _ b6,hd⟩
 .show(none::ix.map λj=>(ao[j]?).join).length=(x::zs).length;have:=congrArg List.length S.at_;simp only[GM] at this;simp only[List.length_cons,GM,this]
structure Zmd(ok:Cx->Prop)(P:Program)(w:World)(K:Frag)(c5:Expr)(J:It)(fp:List Addr)(it:Addr)(d1:Nat->Heap->Prop):Prop where
 obj:∀i h,d1 i h->∀b∈fp,∃o,h.get? b=some o/\∀v,o.data≠ .cell v
 keep:∀i h h',d1 i h->(∀b∈fp,∀o,h.get? b=some o->h'.get? b=some o)->d1 i h'
 item:∀(X:Cx),X.prog=P->X.w=w->X.K=K->ok X->∀(i:Nat)(aq:List (Addr×Obj))(s:Shared)(ao:St)(H:Hp)(E:Value->Shared->Prop),Inv X aq ao H s->(∀b∈fp,hx X aq H b)->d1 i s.heap->J.go i H->
  wpAny (model P w) X.A (pyNext (.ref it)) (λr a'=>∃u,r=some u/\
   wpAny (model P w) X.A (letOwnedTupleGo c5 (.ref it) u) (λ_ bQ=>∃x aj,Inv X aq ao aj bQ/\c4 x u/\J.yld i H x aj/\d1 (i+1) bQ.heap/\∀b∈fp,aj b=none) E a') E s
 done:∀(X:Cx),X.prog=P->X.w=w->X.K=K->ok X->∀(i:Nat)(aq:List (Addr×Obj))(s:Shared)(ao:St)(H:Hp)(E:Value->Shared->Prop),Inv X aq ao H s->(∀b∈fp,hx X aq H b)->d1 i s.heap->J.stop i H->
  wpAny (model P w) X.A (pyNext (.ref it)) (λr a'=>r=none/\Inv X aq ao H a') E s
 self:∀(A:Around)(i:Nat)(s:Shared)(Q:Value->Shared->Prop)(E:Value->Shared->Prop),d1 i s.heap->Q (.ref it) s->wpAny (model P w) A (pyIter (.ref it)) Q E s
theorem V2.c{P:Program}{w:World}{K:Frag}{c5:Expr}{J:It}{fp:List Addr}{it:Addr}{d1:Nat->Heap->Prop}(T:V2 P w K c5 J fp it d1):Zmd (λX=>X.calm=true) P w K c5 J fp it d1:=
 ⟨T.obj,T.keep,T.item,T.done,T.self⟩
def Bn(X:Cx)(aq:List (Addr×Obj))(ao:St)(Q:VK)(dG:Value)(C:Addr)(s':Shared):Prop:=
 ∃p aj m,dG=Value.ref p/\s'.heap.Ns C m/\Inv X aq ao aj s'/\hx X aq aj C/\Q (.ref p) aj
theorem Zee{aq:List (Addr×Obj)}{ao:St}{H:Hp}{s:Shared}{cf:Scope}{x:Str}{zs:List Str}{ix:List Nat}{cl:List (Str×Addr)}{fp:List Addr}{it:Addr}{d1:Nat->Heap->Prop}{J:It}
  {fT c5 eM:Expr} {ifs:List Expr} {pos:Pos} {g:TG} {dP:TT} {cM:TE} {Q:VK} {E:Value->Shared->Prop} {RR:Value->Addr->Result->Shared->Prop} {Bo:Cx->Prop}
  (a_:∀C N s H,Bo (Zr X cf cl C N s H fp)) (S:Wg X cf x zs ix) (I:Inv X aq ao H s) (f6:∀y c,cl.lookup y=some c->X.env.cells.lookup y=some c) (h7:∀y,(y,NameKind.free)∈cf.names->∃c,cl.lookup y=some c)
  (T:Zmd Bo X.prog X.w X.K c5 J fp it d1) (st:d1 0 s.heap) (j':∀b∈fp,hx X aq H b)
  (hz:∀C s H,PG (Zr X cf cl C (x::zs) s H fp) c5 g/\PIf (Zr X cf cl C (x::zs) s H fp) ifs dP/\PE (Zr X cf cl C (x::zs) s H fp) fT cM)
  (cC:∀p,H p=none->∃W:Nat->Nat->List V->St->Hp->Prop,(∃m,W 0 m [] (emb ix ao) (upd H p (.lst [])))/\∀i m ys b1 aj,W i m ys b1 aj->
   (J.stop i aj/\Q (.ref p) aj)\/(J.go i aj/\∀x aP,J.yld i aj x aP->g x b1 aP λcx b5=>dP cx b5 λb bZ=>
    if b=true then cM cx bZ λv b4=>b4 p=some (.lst ys)/\ys.length<sizeLine/\∃cH,cH<m/\W (i+1) cH (ys++ [v]) cx (upd b4 p (.lst (ys++ [v])))
    else ∃cH,cH<m/\W (i+1) cH ys cx bZ))
  (db:∀dG C f s',Bn X aq ao Q dG C s'->RR dG C (.ok f) s'):
  wpAny (model X.prog X.w) X.A (newList []) (λdG iO=>wpAny (model X.prog X.w) X.A (newFunctionEnv cf X.env.globals cl [] X.env.qual none .none (some X.env)) (λrf pQ=>
   codeAny (model X.prog X.w) X.A (.compStart (.ListComp fT [⟨c5,eM,ifs,0⟩] cf pos) 0 (.ref it) dG {rf with scope:=relabel cf X.env}) (RR dG rf.locals) pQ) E iO) E s:=by
 refine wpAny_newObj_type (wpAny_newFunctionEnv S.nocell (by intro y bW;simp at bW) (λh₁ hns₁ rh=>?_) S.kind);have d_:Inv X aq ao (upd H s.heap.objs.size (.lst [])) {s with heap:=s.heap.push {cls:= .type "list",dict:=none,data:= .seq ([]:List Value).toArray}}:=I.lnew (its:=[]) (ys:=[]) (t':=s.toks) .nil (qar _);dsimp only at hns₁ rh|-;obtain⟨W,⟨mu,ey⟩,turn⟩:=cC s.heap.objs.size (I.hok.fresh (qaa _));have lt:∀b∈fp,b<s.heap.objs.size:=λb au=>by
  obtain⟨o,e,_⟩:=T.obj 0 s.heap st b au;exact Heap.lt_size e
 have up:∀b∈fp,∀o,(upd H s.heap.objs.size o) b=H b:=λb au o=>b3 (qas (lt b au));have kp:∀b o,(s.heap.push {cls:= .type "list",dict:=none,data:= .seq ([]:List Value).toArray}).get? b=some o->h₁.get? b=some o:=λb o e=>
  rh.extBut b o (qas (Heap.lt_size e)) (Heap.get?_push_of_some _ e)
 have da:∀b∈fp,hx X aq (upd H s.heap.objs.size (.lst [])) b/\b<(s.heap.push {cls:= .type "list",dict:=none,data:= .seq ([]:List Value).toArray}).objs.size:=λb au=>by
  obtain⟨nt,q⟩:=j' b au;refine⟨⟨(up b au _).trans nt,q⟩,?_⟩;rw[Heap.size_push];exact Nat.lt_succ_of_lt (lt b au)
 generalize ot:({s with heap:=s.heap.push {cls:= .type "list",dict:=none,data:= .seq ([]:List Value).toArray}}:Shared)=bV at d_;have rj:s.heap.push {cls:= .type "list",dict:=none,data:= .seq ([]:List Value).toArray}=bV.heap:=by rw[<-ot]
 rw[rj] at kp da hns₁|-;have jF:d1 0 h₁:=T.keep 0 _ _ st λb _ o e=>kp b o (by rw[<-rj];exact Heap.get?_push_of_some _ e);have mB:Inv (Zr X cf cl bV.heap.objs.size (x::zs) bV (upd H s.heap.objs.size (.lst [])) fp) [] (emb ix ao) (upd H s.heap.objs.size (.lst [])) {bV with heap:=h₁,toks:=bV.toks}:=
  ZiH S d_ f6 h7 da hns₁ kp
 obtain⟨bR,wC,b9⟩:=hz bV.heap.objs.size bV (upd H s.heap.objs.size (.lst []));have ou:∀{aj:Hp},(∀b∈fp,aj b=none)->∀b∈fp,hx (Zr X cf cl bV.heap.objs.size (x::zs) bV (upd H s.heap.objs.size (.lst [])) fp) [] aj b:=λ{aj} b' b au=>
  ⟨b' b au,(mB.ok.exf b au).1,mB.ok.exfs b au,.inl au,(mB.ok.exf b au).2,λp bO=>absurd (show p∈([]:List (Addr×Obj)) from bO) (by simp)⟩
 have rk:∀cd:Shared,cd={bV with heap:=h₁,toks:=bV.toks}->
   codeAny (model X.prog X.w) X.A (.compLoop (.ListComp fT [⟨c5,eM,ifs,0⟩] cf pos) 0 (.ref it) (.ref s.heap.objs.size) (compEnvC cf cl bV.heap.objs.size X.env)) (RR (.ref s.heap.objs.size) bV.heap.objs.size) cd:=by
  rintro cd rfl;refine ZbY (λn s'=>∃i ys b1 aj,Inv (Zr X cf cl bV.heap.objs.size (x::zs) bV (upd H s.heap.objs.size (.lst [])) fp) [] b1 aj s'/\d1 i s'.heap/\(∀b∈fp,aj b=none)/\W i n ys b1 aj) ?_ mu
   ⟨0,[],emb ix ao,_,mB,jF,λb au=>(da b au).1.1,ey⟩
  rintro n cB ⟨i,ys,mC,b4,iP,jG,gQ,pR⟩;rcases turn i n ys mC b4 pR with⟨stop,od⟩|⟨go,step⟩
  .refine thn (T.done (Zr X cf cl bV.heap.objs.size (x::zs) bV (upd H s.heap.objs.size (.lst [])) fp) rfl rfl rfl (a_ _ _ _ _) i [] cB mC b4 _ iP (ou gQ) jG stop) λr c8 ⟨aC,g0⟩=>?_;subst aC;obtain⟨rl,wD,_⟩:=g0.loc;refine db _ _ _ _ ⟨s.heap.objs.size,b4,rl,rfl,wD,?_,d_.fpOk (qaa _) g0.free,od⟩;exact d_.call' g0.os g0.base g0.hok g0.bare λb au=>by
    obtain⟨⟨ea,f1,f2,da,eN,dQ⟩,_⟩:=da b au;exact⟨da,f1,eN,dQ⟩
  .refine thn (T.item (Zr X cf cl bV.heap.objs.size (x::zs) bV (upd H s.heap.objs.size (.lst [])) fp) rfl rfl rfl (a_ _ _ _ _) i [] cB mC b4 _ iP (ou gQ) jG go) λr c8 ⟨u,aC,dq⟩=>?_;subst aC;refine thn dq λ_ d5 ⟨x7,di,h2,q3,wE,jL,mD⟩=>?_;have wF:=h2.pinned (ou mD) (T.obj _ _ jL);refine thn (bR _ d5 mC di x7 u _ wF q3 (step x7 di wE)) λ_ d2 ⟨ov,eJ,rn,rp⟩=>?_;refine thn (wC _ d2 ov eJ _ rn rp) λb fE ⟨hj,rq,kQ⟩=>?_;have again:∀{ow:List V}{b1:St}{aj:Hp}{cH:Nat}{s':Shared},Inv (Zr X cf cl bV.heap.objs.size (x::zs) bV (upd H s.heap.objs.size (.lst [])) fp) ([]++ZaJ fp d5.heap) b1 aj s'->W (i+1) cH ow b1 aj->cH<n->
     ∃m,m<n/\∃i ys b1 aj,Inv (Zr X cf cl bV.heap.objs.size (x::zs) bV (upd H s.heap.objs.size (.lst [])) fp) [] b1 aj s'/\d1 i s'.heap/\(∀b∈fp,aj b=none)/\W i m ys b1 aj:=λ{ow b1 aj cH s'} Iz kR bL=>by
    refine⟨cH,bL,i+1,ow,b1,aj,Iz.unpinned,T.keep _ _ _ jL λb au o e=>(Iz.pin (b,o) (qaw _ (qaw _ (pI au e)))).1,λb au=>?_,kR⟩;obtain⟨o,e,d⟩:=T.obj _ _ jL b au;exact(Iz.pin (b,o) (qaw _ (qaw _ (pI au e)))).2.1
   cases b with
   |false=>
    rw[if_neg qam] at kQ|-;obtain⟨cH,bL,kR⟩:=kQ;exact again rq kR bL
   |true=>
    rw[if_pos rfl] at kQ|-;refine thn (b9 _ fE ov hj _ rq kQ) λv wG ⟨y,rr,wH,wI,ap,bU,cH,bL,kR⟩=>?_;refine thn (iy _ wG ov rr (.ref s.heap.objs.size) [y] (.ref s.heap.objs.size) [v] (λz aj=>z= .non/\aj=upd rr s.heap.objs.size (.lst (ys++ [y]))) wH rfl (.cons wI .nil) ⟨_,ys,y,rfl,rfl,ap,bU,rfl,rfl⟩) λ_ I9 ⟨z,I_,wJ,_,_,hk⟩=>?_;subst hk;exact again wJ kR bL
 exact codeAny_compStart_list (rk _ (by subst ot;rfl)) (T.self _ 0 _ _ _ jF (rk _ (by subst ot;rfl)))
theorem VY{cf:Scope}{x:Str}{zs:List Str}{ix:List Nat}(ok:X.Ok)(S:Wg X cf x zs ix):
  ∃cl,closureFor cf X.env=pure cl/\(∀y c,cl.lookup y=some c->X.env.cells.lookup y=some c)/\∀y,(y,NameKind.free)∈cf.names->∃c,cl.lookup y=some c:=by
 obtain⟨cl,e,ay,aD⟩:=Zbc X.env cf.names [] (λy bW bS=>ok.has y.1 (S.free y bW bS)) (λy c h=>by simp at h);refine⟨cl,?_,ay,λy bW=>aD y (.inr bW)⟩;unfold closureFor;simp only;rw[e]
 rfl
theorem jM{fT c5 eM:Expr}{ifs:List Expr}{cf:Scope}{pos:Pos}{x:Str}{zs:List Str}{ix:List Nat}{e1:TI}{g:TG}{dP:TT}{cM:TE}
  (a_:X.calm=true) (S:Wg X cf x zs ix) (hi:PI X c5 eM e1)
  (hz:∀cl C s H fp,PG (Zr X cf cl C (x::zs) s H fp) c5 g/\PIf (Zr X cf cl C (x::zs) s H fp) ifs dP/\PE (Zr X cf cl C (x::zs) s H fp) fT cM)
  (hs:∀x,foldedSetIterable eM X.env x=pure x:=by intro _;rfl):
  PE X (.ListComp fT [⟨c5,eM,ifs,0⟩] cf pos) (wx ix e1 g dP cM):=by
 intro aq s ao H Q I h;obtain⟨cl,ox,f6,h7⟩:=VY I.ok S;rw[eval_ListComp];refine wpAny_comprehension_free (use:=none) rfl hs ox S.kind S.names (thn (hi aq s ao H _ I h) λv a' ay=>thn ay λpH bQ aD=>?_);obtain⟨it,fp,d1,J,aP,e,cU,T,jE,f2,cC⟩:=aD;subst e;refine Zee (RR:=λdG C=>compPost (model X.prog X.w) X.A X.xe none (EP X aq ao Q) dG C) (λ_ _ _ _=>a_) S cU f6 h7 T.c jE f2 (λC s H=>hz cl C s H fp) cC λdG C f s' h=>?_;obtain⟨p,aj,m,rfl,bL,ek,⟨eh,g1,g2,g3,je,kb⟩,q⟩:=h;exact⟨m,bL,λh' au=>⟨.ref p,aj,ek.turned (t':=s'.toks) (λb o jf e=>(au.2 b jf).trans e) eh g1 g3 je kb,rfl,q⟩⟩
theorem ru{fT c5 eM:Expr}{ifs:List Expr}{cf:Scope}{pos py rv:Pos}{x y:Str}{zs:List Str}{ix:List Nat}{e1:TI}{g:TG}{dP:TT}{cM:TE}{j:Nat}
  (a_:X.calm=true) (S:Wg X cf x zs ix) (hi:PI X c5 eM e1)
  (hz:∀cl C s H fp,PG (Zr X cf cl C (x::zs) s H fp) c5 g/\PIf (Zr X cf cl C (x::zs) s H fp) ifs dP/\PE (Zr X cf cl C (x::zs) s H fp) fT cM)
  (eV:X.N.Nodup) (bP:X.N[j]? =some y) (bW:Loc X.env.scope y)
  (tP:swapsWith (.ListComp fT [⟨c5,eM,ifs,0⟩] cf pos) (some (.Name y py)) rv.line X.env=pure true:=by rfl)
  (bS:X.fn y=true\/X.env.scope.names.lookup y=some .local:=by first|exact .inl rfl|exact .inr rfl|assumption)
  (hs:∀x,foldedSetIterable eM X.env x=pure x:=by intro _;rfl):
  PS X (.Assign [.Name y py] (.ListComp fT [⟨c5,eM,ifs,0⟩] cf pos) rv) (qW (wx ix e1 g dP cM) (UE j)):=by
 intro aq s ao H D I h;obtain⟨cl,ox,f6,h7⟩:=VY I.ok S;rw[exec_Assign_Name_used _ _ _ _ tP];refine wpAny_bind (wpAny_standAt (wpAny_bind ?_));show wpAny _ X.A (do let _<-comprehension (.ListComp fT [⟨c5,eM,ifs,0⟩] cf pos) cf X.env _ (newList []) false (eval eM X.env) (some (assign (.Name y py) X.env))) _ _ s;refine wpAny_bind (wpAny_mono (wpAny_comprehension_free (use:=some (assign (.Name y py) X.env)) (Q:=λ_ s'=>SP X aq D .next s') rfl hs ox S.kind S.names
  (thn (hi aq s ao H _ I h) λv a' ay=>thn ay λpH bQ aD=>?_)) (λ_ s' cC=>wpAny_pure (wpAny_pure cC)) λ_ _ e=>e)
 obtain⟨it,fp,d1,J,aP,e,cU,T,jE,f2,cC⟩:=aD;subst e;refine Zee (Q:=λx aA=>UE j x ao aA D.nx) (RR:=λdG C=>compPost (model X.prog X.w) X.A X.xe (some (assign (.Name y py) X.env)) (λ_ s'=>SP X aq D .next s') dG C) (λ_ _ _ _=>a_) S cU f6 h7 T.c jE f2 (λC s H=>hz cl C s H fp) cC λdG C f s' h=>?_;obtain⟨p,aj,m,rfl,bL,ek,⟨eh,g1,g2,g3,je,kb⟩,q⟩:=h;show wpAny _ X.A (assign (.Name y py) X.env (.ref p)) _ _ _;refine wpAny_assign_Name (v0 ek eV bP bW (show c4 (.ref p) (.ref p) from rfl) (λoh I'' ⟨c,mE,n7⟩=>?_) bS);have jf:C≠c:=by
  rcases n7 with z|z
  .rw[z];exact g1
  .exact qaY (je _ _ z)
 exact⟨m,bL.sameBut mE jf,λh' au=>⟨_,aj,I''.turned (t':=oh.toks) (λb o jf e=>(au.2 b jf).trans e) eh g1 g3 je kb,q⟩⟩
end
def en(v:Value)(h:Heap)(e:Addr):Prop:=∃o vs,h.get? e=some o/\o.data= .fields vs/\vs[2]? =some v
abbrev ZiI(h:Heap)(e:Addr):Prop:=en .none h e
noncomputable def I' (x:Addr):HO:= .ext λh=>ZiI h x
def Kp (P:Heap->Prop) {cX:Type}:Sem cX->Prop
 | .pure _=>True
 | .raise _=>True
 | .unsupported _=>True
 | .finish _=>True
 | .rule _ k=>Kp P (k ())
 | .at _ k=>Kp P (k ())
 | .load _ _ k=>∀o,Kp P (k o)
 | .update a _ f k=>(∀h,P h->P (h.update a f))/\Kp P (k ())
 | .alloc o k=>(∀h,P h->P (h.push o))/\∀a,Kp P (k a)
 | .loadIfAlive _ k=>∀o,Kp P (k o)
 | .point _ k=>Kp P (k ())
 | .ask k=>∀x,Kp P (k x)
 | .stack k=>∀x,Kp P (k x)
 |_=>False
section
variable {cX f3:Type}{P:Heap->Prop}{M:Model}{A:Around}{E:Value->Shared->Prop}{s:Shared}
theorem Kp.wp{tQ:PySem.Ctx}{Q:cX->Pos->Shared->Prop}{E:Value->Pos->Shared->Prop}(t:Sem cX):∀(p:Pos)(s:Shared),Kp P t->P s.heap->Sem.wp M tQ t Q E p s->
  Sem.wp M tQ t (λa p s'=>Q a p s'/\P s'.heap) (λe p s'=>E e p s'/\P s'.heap) p s:=by
 induction t with
 |pure a=>exact λp s _ bO h=>⟨h,bO⟩
 |raise a=>exact λp s _ bO h=>⟨h,bO⟩
 |unsupported w=>exact λp s _ bO h=>h
 |finish w=>exact λp s _ bO h=>h
 |rule _ k b_=>exact λp s bH bO h=>b_ () p s bH bO h
 | «at» iR k b_=>exact λp s bH bO h=>b_ () iR s bH bO h
 |load _ _ k b_=>exact λp s bH bO ⟨o,e,h⟩=>⟨o,e,b_ o p s (bH o) bO h⟩
 |update _ _ _ k b_=>exact λp s bH bO ⟨e,h⟩=>⟨e,b_ () p _ bH.2 (bH.1 _ bO) h⟩
 |alloc _ k b_=>exact λp s bH bO h=>b_ _ p _ (bH.2 _) (bH.1 _ bO) h
 |loadIfAlive _ k b_=>exact λp s bH bO h=>b_ _ p s (bH _) bO h
 |point _ k b_=>exact λp s bH bO h=>b_ () p s bH bO h
 |ask k b_=>exact λp s bH bO h=>b_ _ p s (bH _) bO h
 |stack k b_=>exact λp s bH bO h=>b_ _ p s (bH _) bO h
 |register=>exact λp s bH _ _=>False.elim bH
 |fresh=>exact λp s bH _ _=>False.elim bH
 |choose=>exact λp s bH _ _=>False.elim bH
 |os=>exact λp s bH _ _=>False.elim bH
 |call=>exact λp s bH _ _=>False.elim bH
 |handled=>exact λp s bH _ _=>False.elim bH
 |newGen=>exact λp s bH _ _=>False.elim bH
 |genState=>exact λp s bH _ _=>False.elim bH
 |resume=>exact λp s bH _ _=>False.elim bH
 |yield=>exact λp s bH _ _=>False.elim bH
 |fork=>exact λp s bH _ _=>False.elim bH
 |thread=>exact λp s bH _ _=>False.elim bH
 |await=>exact λp s bH _ _=>False.elim bH
theorem Kp.any{t:Sem cX}{Q:cX->Shared->Prop}(k:Kp P t)(bO:P s.heap)(h:wpAny M A t Q E s):wpAny M A t (λa s'=>Q a s'/\P s'.heap) (λe s'=>E e s'/\P s'.heap) s:=λtQ p Ja=>Kp.wp t p s k bO (h tQ p Ja)
theorem Kp.bind{f:cX->Sem f3}(m:Sem cX):Kp P m->(∀a,Kp P (f a))->Kp P (m.bind f):=by
 induction m with
 |pure a=>exact λ_ bS=>bS a
 |raise a=>exact λ_ _=>trivial
 |unsupported w=>exact λ_ _=>trivial
 |finish w=>exact λ_ _=>trivial
 |rule _ k b_=>exact λbH bS=>b_ () bH bS
 | «at» _ k b_=>exact λbH bS=>b_ () bH bS
 |load _ _ k b_=>exact λbH bS o=>b_ o (bH o) bS
 |update _ _ _ k b_=>exact λbH bS=>⟨bH.1,b_ () bH.2 bS⟩
 |alloc _ k b_=>exact λbH bS=>⟨bH.1,λa=>b_ a (bH.2 a) bS⟩
 |loadIfAlive _ k b_=>exact λbH bS o=>b_ o (bH o) bS
 |point _ k b_=>exact λbH bS=>b_ () bH bS
 |ask k b_=>exact λbH bS o=>b_ o (bH o) bS
 |stack k b_=>exact λbH bS o=>b_ o (bH o) bS
 |register=>exact λbH _=>False.elim bH
 |fresh=>exact λbH _=>False.elim bH
 |choose=>exact λbH _=>False.elim bH
 |os=>exact λbH _=>False.elim bH
 |call=>exact λbH _=>False.elim bH
 |handled=>exact λbH _=>False.elim bH
 |newGen=>exact λbH _=>False.elim bH
 |genState=>exact λbH _=>False.elim bH
 |resume=>exact λbH _=>False.elim bH
 |yield=>exact λbH _=>False.elim bH
 |fork=>exact λbH _=>False.elim bH
 |thread=>exact λbH _=>False.elim bH
 |await=>exact λbH _=>False.elim bH
theorem Kp.bd{m:Sem cX}{f:cX->Sem f3}(bL:Kp P m)(bS:∀a,Kp P (f a)):Kp P (m >>= f):=Kp.bind m bL bS
theorem Kp.pure(a:cX):Kp P (Pure.pure a:Sem cX):=trivial
theorem Kp.uns(w:String):Kp P (PySem.unsupported w:Sem cX):=trivial
theorem Kp.ite{c:Prop}[Decidable c]{a b:Sem cX}(bK:Kp P a)(au:Kp P b):Kp P (if c then a else b):=by split<;>assumption
end
section
variable {e:Addr}{dU:Value}
theorem en.slots{h:Heap}{a:Addr}{g:Obj->Array (Option Value)}(x:en dU h e):en dU (h.update a λo=>{o with slots:=g o}) e:=by
 obtain⟨o,vs,b6,hd,aD⟩:=x
 by_cases bK:a=e
 .subst bK;exact⟨_,vs,Heap.get?_update_self _ b6 (Obj.isFreed_of_fields (vs:=vs) hd),hd,aD⟩
 .exact⟨o,vs,(Heap.get?_update_other _ _ bK).trans b6,hd,aD⟩
theorem en.field{h:Heap}{a:Addr}{i:Nat}{v:Value}(hi:i≠2)(x:en dU h e):en dU (h.update a (Obj.mapFields (·.setIfInBounds i v))) e:=by
 obtain⟨o,vs,b6,hd,aD⟩:=x
 by_cases bK:a=e
 .subst bK;exact⟨_,_,Heap.get?_update_self _ b6 (Obj.isFreed_of_fields (Obj.data_mapFields hd _)),Obj.data_mapFields hd _,by rw[Array.getElem?_setIfInBounds_ne hi];exact aD⟩
 .exact⟨o,vs,(Heap.get?_update_other _ _ bK).trans b6,hd,aD⟩
theorem en.push{h:Heap}{dj:Obj}(x:en dU h e):en dU (h.push dj) e:=
 let⟨o,vs,b6,r⟩:=x;⟨o,vs,Heap.get?_push_of_some _ b6,r⟩
theorem en.keeps{h h':Heap}(x:en dU h e)(k:∀o,h.get? e=some o->h'.get? e=some o):en dU h' e:=let⟨o,vs,b6,r⟩:=x;⟨o,vs,k _ b6,r⟩
theorem Ze6{a:Addr}:Kp (λh=>en dU h e) (load a):=λ_=>trivial
theorem ZhD{v:Value}:Kp (λh=>en dU h e) (fieldsOf v):=by
 unfold fieldsOf;cases v<;>first|exact Kp.uns _|skip
 refine Kp.bd Ze6 λo=>?_
 split<;>trivial
theorem Za8{v:Value}{i:Nat}:Kp (λh=>en dU h e) (field v i):=by
 unfold field;refine Kp.bd ZhD λo=>?_
 split<;>trivial
theorem ZeT{a:Addr}{i:Nat}{x:Value}(hi:i≠2):Kp (λh=>en dU h e) (updateField a i x):=by
 unfold updateField;refine Kp.bd Ze6 λo=>?_
 split
 .split
  .exact⟨λ_ h=>h.field hi,trivial⟩
  .trivial
 .trivial
theorem wK{v:Value}{i:Nat}{x:Value}(hi:i≠2):Kp (λh=>en dU h e) (setField v i x):=by
 unfold setField;cases v<;>first|exact Kp.uns _|exact ZeT hi
theorem Zj4{env:Env}{outer:List Env}:Kp (λh=>en dU h e) (behindIsImport env outer):=by
 unfold behindIsImport;refine Kp.ite (Kp.pure _) (Kp.ite (Kp.pure _) (Kp.bd Za8 λ_=>Kp.pure _))
theorem Jb:Kp (λh=>en dU h e) underTheClaimsCaller:=by
 unfold underTheClaimsCaller;exact Kp.bd (λ_=>trivial) λ_=>Kp.pure _
theorem ZmW{env:Env}{Bp:Bool}{outer:List Env}:Kp (λh=>en dU h e) (keptBack env Bp outer):=by
 cases outer with
 |nil=>exact Kp.ite (Kp.pure _) (Kp.bd Jb λ_=>Kp.pure _)
 |cons c r=>exact Kp.pure _
theorem Bq:∀l:List Env,Kp (λh=>en dU h e) (readyFrames l)
 | []=>Kp.pure _
 |env::outer=>by
  unfold readyFrames;cases env.frame with
  |none=>exact Kp.uns _
  |some f=>
   refine Kp.bd Ze6 λo=>?_;refine Kp.ite (Kp.pure _) (Kp.bd Zj4 λBp=>Kp.bd ZmW λkc=>Kp.bd ⟨λ_ h=>h.slots,trivial⟩ λ_=>Bq outer)
theorem Zjj{env:Env}:Kp (λh=>en dU h e) (PySem.frameOf env):=by
 unfold PySem.frameOf;refine Kp.bd (Kp.bd (λ_=>trivial) λ_=>Kp.pure _) λl=>Kp.bd ?_ λo=>?_
 .generalize (l.dropWhile λx=>x.frame != env.frame)=k;cases k with
  |nil=>exact Kp.pure _
  |cons a r=>exact Kp.bd (Bq _) λ_=>Kp.pure _
 .cases o with
  |none=>exact Kp.uns _
  |some x=>exact Kp.pure _
theorem Zaf{v:Value}{f:Option Addr}:Kp (λh=>en dU h e) (setFlight v f):=by
 unfold setFlight;refine Kp.bd Za8 λt=>?_;exact Kp.ite (wK (by decide)) (Kp.pure _)
theorem Zle{f:Addr}{b:Bool}:Kp (λh=>en dU h e) (entryPlaceOf f b):=by
 unfold entryPlaceOf;refine Kp.bd (λ_=>trivial) λTR=>?_
 split<;>exact Kp.pure _
theorem ZkC{ty:String}{vs:List Value}:Kp (λh=>en dU h e) (newFields ty vs):=by
 unfold newFields newObj;have tR:Kp (λh=>en dU h e) (newObjAsIs (.type ty) (.fields vs.toArray)):=⟨λ_ h=>h.push,λ_=>trivial⟩;dsimp only
 split
 .exact Kp.uns _
 .exact tR
theorem Zia{v:Value}{env:Env}:Kp (λh=>en dU h e) (noteFrame v env):=by
 unfold noteFrame;cases env.frame with
 |none=>exact Kp.uns _
 |some f=>
  have tR:∀hd:Value,Kp (λh=>en dU h e) (do let x<-PySem.frameOf env;let pl<-entryPlaceOf f (hd != Value.none);let b<-EntryCells.newEntry hd x .none (rawInt f) .none pl;setField v 1 b):=λhd=>
   Kp.bd Zjj λx=>Kp.bd Zle λpl=>Kp.bd ZkC λb=>wK (by decide)
  refine Kp.bd Za8 λhd=>?_;refine Kp.ite ?_ (tR hd);refine Kp.bd Za8 λt=>Kp.ite (Kp.pure _) (Kp.bd (wK (by decide)) λ_=>tR hd)
theorem Zel{v:Value}{env:Env}:Kp (λh=>en dU h e) (leaving env v):=Kp.bd Zia λ_=>Zaf
section
variable {M:Model}{A:Around}{E:Value->Shared->Prop}{s:Shared}{base:Heap}{l outer:List Env}{env:Env}{L:Addr}{cls a0:Value}{Q:Unit->Shared->Prop}
theorem Kp.to{P R:Heap->Prop}{t:Sem Unit}(k:Kp P t)(bO:P s.heap)(h:wpAny M A t (λ_ s'=>∃h',s'={s with heap:=h'}/\R h') (λ_ _=>False) s)(fH:∀h',R h'->P h'->Q () {s with heap:=h'}):wpAny M A t Q E s:=
 wpAny_mono (k.any bO h) (λ_ _ ⟨⟨h',e,r⟩,p⟩=>by subst e;exact fH h' r p) λ_ _ z=>z.1.elim
theorem ZjD(hl:en dU s.heap e)(fq:A.frames=some (env::outer))(bS:env.frame=some L)(g_:Heap.FlyingW base (env::outer) e cls a0 s.heap)
  (fH:∀h',Heap.FlyingW base outer e cls a0 h'->s.heap.UpToSlots h'->en dU h' e->Q () {s with heap:=h'}):wpAny M A (leaving env (.ref e)) Q E s:=
 Zel.to (R:=λh'=>Heap.FlyingW base outer e cls a0 h'/\s.heap.UpToSlots h') hl (wpAny_leaves_onW fq bS g_ λh' a b=>⟨h',rfl,a,b⟩) λh' r p=>fH h' r.1 r.2 p
theorem Zhu{h:Heap}{args:List Value}(fq:A.frames=some (env::outer))(bS:env.frame=some L)(Jc:base.StaysIn h)(ap:h.FunFrames base (env::outer))(ar:Heap.MadeExcOf h s.heap e cls args)
  (fH:∀h' t,Heap.FlyingW base outer e cls (.ref t) h'->h'.TupAt t args->base.get? t=none->s.heap.UpToSlots h'->ZiI h' e->Q () {s with heap:=h'}):wpAny M A (leaving env (.ref e)) Q E s:=by
 have hl:ZiI s.heap e:=by
  obtain⟨t,b9,_⟩:=ar.there;exact⟨_,_,b9,rfl,rfl⟩
 exact Zel.to (R:=λh'=>∃t,Heap.FlyingW base outer e cls (.ref t) h'/\h'.TupAt t args/\base.get? t=none/\s.heap.UpToSlots h') hl (wpAny_leaves_madeW fq bS Jc ap ar λh' t a b c d=>⟨h',rfl,t,a,b,c,d⟩) λh' ⟨t,a,b,c,d⟩ p=>fH h' t a b c d p
theorem Zkl(hl:en dU s.heap e)(fq:A.frames=some (env::outer))(bS:env.frame=some L)(g_:Heap.FlyingW base (env::outer) e cls a0 s.heap)
  (fH:∀h',Heap.HeldW base (env::outer) e cls a0 L h'->s.heap.UpToSlots h'->en dU h' e->Q () {s with heap:=h'}):wpAny M A (noteFrame (.ref e) env) Q E s:=
 Zia.to (R:=λh'=>Heap.HeldW base (env::outer) e cls a0 L h'/\s.heap.UpToSlots h') hl (wpAny_looks_onW fq bS g_ λh' a b=>⟨h',rfl,a,b⟩) λh' r p=>fH h' r.1 r.2 p
theorem Znz(hl:en dU s.heap e)(b8:Heap.HeldW base l e cls a0 L s.heap)(fH:∀h',Heap.FlyingW base l e cls a0 h'->s.heap.UpToSlots h'->en dU h' e->Q () {s with heap:=h'}):wpAny M A (setFlight (.ref e) none) Q E s:=
 Zaf.to (R:=λh'=>Heap.FlyingW base l e cls a0 h'/\s.heap.UpToSlots h') hl (wpAny_landsW b8 λh' a b=>⟨h',rfl,a,b⟩) λh' r p=>fH h' r.1 r.2 p
theorem ZgL(hl:en dU s.heap e)(b8:Heap.FlyingW base l e cls a0 s.heap)(fH:∀h',Heap.FlyingW base l e cls a0 h'->s.heap.UpToSlots h'->en dU h' e->Q () {s with heap:=h'}):wpAny M A (setFlight (.ref e) none) Q E s:=
 Zaf.to (R:=λh'=>Heap.FlyingW base l e cls a0 h'/\s.heap.UpToSlots h') hl (lands_againW b8 λh' a b=>⟨h',rfl,a,b⟩) λh' r p=>fH h' r.1 r.2 p
end
end
def Zmf(E:XK)(cls:Value)(H:Hp)(v:Value):Prop:=(v= .none/\E cls none H)\/∃bX,v= .ref bX/\H bX=some (I' bX)/\E cls (some bX) H
@[reducible] def noC (E:XK):XK:=λcls o H=>match o with|none=>E cls none H|some _=>False
def CXX (P:Program) (w:World):CXT:=λouter H s E e s'=>
 ∃(cw:Addr)(cls a0:Value)(aj:Hp)(B:Heap),e= .ref cw/\s'.os=s.os/\AllBare s'.gens/\Un (frs outer) [] H aj s.heap s'.heap/\HOk P w aj s'.heap/\
  Heap.FlyingW B outer cw cls a0 s'.heap/\(∀b o,s'.heap.get? b=some o->(aj b≠none\/((∃cT,s.heap.get? b=some cT)/\b∉frs outer))->B.get? b=some o)/\∃v,en v s'.heap cw/\Zmf E cls aj v
theorem HOk.stays{P:Program}{w:World}{H:Hp}{h h' B:Heap}(ok:HOk P w H h)(fC:∀b o,h.get? b=some o->H b≠none->B.get? b=some o)(st:B.StaysIn h'):HOk P w H h':=λa o e=>
 (ok a o e).stay (λb u au q=>st b u (fC b u q (by
  rcases au with rfl|au
  .rw[e];exact λz=>nomatch z
  .rw[au];exact λz=>nomatch z))) (λ_ q=>q) λ_ _ q=>q
theorem Z3.got{P:Program}{w:World}{H:Hp}{h:Heap}{a:Addr}{o:HO}(x:Z3 P w H h a o):∃dj,h.get? a=some dj:=by
 cases o with
 |lst xs=>obtain⟨_,_,_,_,e⟩:=x;exact⟨_,e⟩
 |tup xs=>obtain⟨_,_,_,p⟩:=x;obtain⟨dj,e,_⟩:=p;exact⟨dj,e⟩
 |dK kvs=>obtain⟨_,_,_,_,o,_,_,e,_⟩:=x;exact⟨o,e⟩
 |dT kvs=>obtain⟨_,_,_,_,o,_,_,e,_⟩:=x;exact⟨o,e⟩
 |set S n=>obtain⟨o,_,_,_,e,_⟩:=x;exact⟨o,e⟩
 |ins C dx fs=>obtain⟨_,_,_,e,_⟩:=x;exact⟨_,e⟩
 |own y=>exact x
 |xd fs=>obtain⟨_,⟨o,_,_,e,_⟩,_⟩:=x;exact⟨o,e⟩
 |rng lo hi=>obtain⟨_,_,_,e⟩:=x;exact⟨_,e⟩
 |frz dj u=>obtain⟨e,_⟩:=x;exact⟨dj,e⟩
 |tbl ci=>exact⟨_,(show h.get? a=some _ from x)⟩
 |met f y=>exact⟨_,(show h.get? a=some _ from x)⟩
 |ext n5=>obtain⟨_,e,_⟩:=x;exact e
theorem Un.fly{fs:List Addr}{H aj:Hp}{h ay aD B:Heap}(u:Un fs [] H aj h ay)(fC:∀b o,ay.get? b=some o->(aj b≠none\/((∃cT,h.get? b=some cT)/\b∉fs))->B.get? b=some o)
  (st:B.StaysIn aD) (sl:ay.UpToSlots aD) (bS:∀b∈fs,∀o,h.get? b=some o->∀vs,o.data≠ .fields vs) (pF:∀b∈fs,H b=none):Un fs [] H aj h aD where
 keep:=λb o e n au ar=>st b o (fC b o (u.keep b o e n au ar) (.inr ⟨⟨_,e⟩,au⟩))
 slot:=λb o e n au ar=>by
  obtain⟨a',bJ⟩:=u.slot b o e n au ar;obtain⟨bQ,bX⟩:=sl b _ bJ (bS b au o e);exact⟨bQ,bX⟩
 free:=u.free
 there:=λb o e ar=>by
  by_cases au:b∈fs
  .obtain⟨a',bJ⟩:=u.slot b o e (pF b au) au ar;obtain⟨bQ,bX⟩:=sl b _ bJ (bS b au o e);exact⟨_,bX⟩
  .obtain⟨cT,bJ⟩:=u.there b o e ar;exact⟨cT,st b cT (fC b cT bJ (.inr ⟨⟨_,e⟩,au⟩))⟩
 tups:=u.tups
 frzs:=u.frzs
 tbls:=u.tbls
section
variable {P:Program}{w:World}{K:Frag}{mg:Str->Option Value}{base:Heap}{N:List Str}{qual:Str}{scope:Scope}{f:Addr}{cu:Value}{A:Around}{outer:List Env}{s₀:Shared}{H₀:Hp}{E:XK}
noncomputable abbrev cxX (P:Program) (w:World) (K:Frag) (mg:Str->Option Value) (base:Heap) (N:List Str) (qual:Str) (scope:Scope) (f:Addr) (cu:Value) (A:Around) (outer:List Env) (s₀:Shared) (H₀:Hp) (E:XK):Cx:=
 ZJ (CXX P w) P w K mg base N qual scope f cu A outer s₀ H₀ E
theorem Zlt{aq:List (Addr×Obj)}{ao:St}{H aj:Hp}{s s':Shared}{cw:Addr}{cls a0 dU:Value}{B:Heap}(I:Inv (cxX P w K mg base N qual scope f cu A outer s₀ H₀ E) aq ao H s)
  (os:s'.os=s.os) (bare:AllBare s'.gens) (u:Un (frs (cxX P w K mg base N qual scope f cu A outer s₀ H₀ E).stack) [] H aj s.heap s'.heap) (ok:HOk P w aj s'.heap)
  (fl:Heap.FlyingW B (cxX P w K mg base N qual scope f cu A outer s₀ H₀ E).stack cw cls a0 s'.heap)
  (fC:∀b o,s'.heap.get? b=some o->(aj b≠none\/((∃cT,s.heap.get? b=some cT)/\b∉frs (cxX P w K mg base N qual scope f cu A outer s₀ H₀ E).stack))->B.get? b=some o) (hl:en dU s'.heap cw) (q:Zmf E cls aj dU):
  (cxX P w K mg base N qual scope f cu A outer s₀ H₀ E).xe (.ref cw) s':=by
 have fq:(A.deeper (envOfC qual scope s₀.heap.objs.size f cu)).frames=some (envOfC qual scope s₀.heap.objs.size f cu::outer):=I.ok.frames;refine ZjD hl (L:=s₀.heap.objs.size) fq rfl fl λaD tS sl Jd=>?_;have Br:∀b o,s₀.heap.get? b=some o->b∉frs outer->(∃cT,s.heap.get? b=some cT)/\b∉frs (cxX P w K mg base N qual scope f cu A outer s₀ H₀ E).stack:=λb o e b'=>
  ⟨I.base.there b o e (by intro z;exact absurd (show b∈([]:List Addr) from z) (by simp)),λz=>by
   rcases qaf.mp (I.stkSub b z) with q|q
   .have au:=Heap.lt_size e;have io:b=s₀.heap.objs.size:=q;rw[io] at au;exact qby _ au
   .exact b' q⟩
 have jg:Un (frs outer) [] H₀ aj s₀.heap s'.heap:=by
  have eO:Un (frs outer) [] H₀ H s₀.heap s.heap:=I.base;refine⟨λb o e n au ar=>?_,λb o e n au ar=>?_,λb o e n ar=>?_,λb o e ar=>?_,λb xs e=>u.tups b xs (eO.tups b xs e),λb o v e=>u.frzs b o v (eO.frzs b o v e),λb ci e=>?_⟩
  .exact u.keep b o (eO.keep b o e n au ar) (eO.free b o e n ar) (Br b o e au).2 ar
  .obtain⟨a',bJ⟩:=eO.slot b o e n au ar;obtain⟨bQ,bX⟩:=u.any bJ (eO.free b o e n ar) ar;exact⟨bQ,bX⟩
  .obtain⟨cT,bJ⟩:=eO.there b o e ar;exact u.free b cT bJ (eO.free b o e n ar) ar
  .obtain⟨cT,bJ⟩:=eO.there b o e ar;exact u.there b cT bJ ar
  .obtain⟨hg,bJ⟩:=eO.tbls b ci e;obtain⟨h1,bX⟩:=u.tbls b _ bJ;exact⟨hg++h1,by rw[bX,Array.append_assoc]⟩
 have rx:∀b o,s'.heap.get? b=some o->(aj b≠none\/((∃cT,s₀.heap.get? b=some cT)/\b∉frs outer))->B.get? b=some o:=λb o e h=>fC b o e (h.imp id λ⟨⟨cT,z⟩,b'⟩=>Br b cT z b');have Je:HOk P w aj aD:=ok.stays (λb o e n=>fC b o e (.inl n)) tS.1;refine⟨cw,cls,a0,aj,B,rfl,os.trans I.os,bare,jg.fly rx tS.1 sl (λb au o e=>?_) (I.ok.frf),Je,tS,λb o e h=>?_,dU,Jd,q⟩
 .obtain⟨_,cT,cv,d⟩:=I.ok.funs.mem au;have ry:s₀.heap.get? b=some cT:=cv;rw[e] at ry;cases ry;exact d
 .have ex:∃cT,s'.heap.get? b=some cT:=by
   rcases h with h|⟨h,b'⟩
   .cases cP:aj b with
    |none=>exact absurd cP h
    |some v=>exact(ok b v cP).got
   .obtain⟨wL,qZ⟩:=h;exact jg.there b wL qZ (by simp)
  obtain⟨cT,cv⟩:=ex;have bX:=rx b cT cv h;have dn:=tS.1 b cT bX;have ha:aD.get? b=some o:=e;rw[dn] at ha;cases ha;exact bX
theorem cG:WC (CXX P w) (cxX P w K mg base N qual scope f cu A outer s₀ H₀ E) E:=by
 intro aq ao H s e s' I h;obtain⟨cw,cls,a0,aj,B,rfl,os,bare,u,ok,fl,fC,v,hl,q⟩:=h;exact Zlt I os bare u ok fl fC hl q
def wM (cls:Value) (E:XK) (t:TA):TS:=λ_ ao H=>t ao H λvs aA=>vs.length<=sizeLine/\E cls none aA
theorem ZkS{aq:List (Addr×Obj)}{ao:St}{H:Hp}{s:Shared}{h':Heap}{cw:Addr}{cls:Value}{us:List Value}(I:Inv (cxX P w K mg base N qual scope f cu A outer s₀ H₀ E) aq ao H s)
  (ar:Heap.MadeExcOf s.heap h' cw cls us) (q:E cls none H):(cxX P w K mg base N qual scope f cu A outer s₀ H₀ E).xe (.ref cw) {s with heap:=h'}:=by
 have fq:(A.deeper (envOfC qual scope s₀.heap.objs.size f cu)).frames=some (envOfC qual scope s₀.heap.objs.size f cu::outer):=I.ok.frames;have hz:∀env∈(cxX P w K mg base N qual scope f cu A outer s₀ H₀ E).stack,∀b,env.frame=some b->b∈frs (cxX P w K mg base N qual scope f cu A outer s₀ H₀ E).stack:=λenv b9 b au=>List.mem_filterMap.mpr ⟨env,b9,au⟩;have wN:∀b o,s.heap.get? b=some o->(H b≠none\/((∃cT,s₀.heap.get? b=some cT)/\b∉frs outer))->(hideAll s.heap (frs (cxX P w K mg base N qual scope f cu A outer s₀ H₀ E).stack)).get? b=some o:=λb o e h=>
  hideAll_get _ e λz=>by
   rcases h with h|⟨⟨cT,cv⟩,b'⟩
   .exact h (I.stkFree b z)
   .rcases qaf.mp (I.stkSub b z) with q|q
    .have au:=Heap.lt_size cv;have io:b=s₀.heap.objs.size:=q;rw[io] at au;exact qby _ au
    .exact b' q
 refine Zhu (base:=hideAll s.heap (frs (cxX P w K mg base N qual scope f cu A outer s₀ H₀ E).stack)) (h:=s.heap) (L:=s₀.heap.objs.size) fq rfl (λb o e=>of_hideAll _ e) (PySem.W.funFrames_hide I.stack hz) ar λcj t fl _ _ sl Jf=>?_;have qS:s.heap.UpToSlots cj:=(Heap.UpToSlots.of_keeps ar.keeps).trans sl;have eO:Un (frs outer) [] H₀ H s₀.heap s.heap:=I.base;have Jg:HOk P w H cj:=I.hok.stays (λb o e n=>wN b o e (.inl n)) fl.1;refine⟨cw,cls,_,H,_,rfl,I.os,I.bare,eO.fly wN fl.1 qS (λb au o e=>?_) I.ok.frf,Jg,fl,λb o e h=>?_,.none,Jf,.inl ⟨rfl,q⟩⟩
 .obtain⟨_,cT,cv,d⟩:=I.ok.funs.mem au;have ry:s₀.heap.get? b=some cT:=cv;rw[e] at ry;cases ry;exact d
 .have ex:∃cT,s.heap.get? b=some cT:=by
   rcases h with h|⟨⟨wL,qZ⟩,_⟩
   .cases cP:H b with
    |none=>exact absurd cP h
    |some v=>exact(I.hok b v cP).got
   .exact eO.there b wL qZ (by simp)
  obtain⟨cT,cv⟩:=ex;have bX:=wN b cT cv h;have dn:=fl.1 b cT bX;have ha:cj.get? b=some o:=e;rw[dn] at ha;cases ha;exact bX
theorem ZlY{x:Str}{gK fM pos:Pos}{mF:Expr}{rest:List Expr}{t:TA}{C:Addr}{B nu wO:String}{bm:List Value}(O:OwnCls x C bm nu mg base)(FB:ExcBaseFacts B nu wO bm)
  (bR:Gl (cxX P w K mg base N qual scope f cu A outer s₀ H₀ E) x) (bK:PA (cxX P w K mg base N qual scope f cu A outer s₀ H₀ E) (mF::rest) t)
  (b9:starEach (mF::rest) (cxX P w K mg base N qual scope f cu A outer s₀ H₀ E).env=(false,eval mF (cxX P w K mg base N qual scope f cu A outer s₀ H₀ E).env)::starEach rest (cxX P w K mg base N qual scope f cu A outer s₀ H₀ E).env:=by rfl)
  (om:(backTo fM (starEach rest (cxX P w K mg base N qual scope f cu A outer s₀ H₀ E).env)).any (·.1)=false:=by rfl) (fj:(x==("__debug__" :Str))=false:=by decide):
  PS (cxX P w K mg base N qual scope f cu A outer s₀ H₀ E) (.Raise (some (.Call (.Name x gK) (mF::rest) [] fM)) none pos) (wM (.ref C) E t):=by
 intro aq s ao H D I h;obtain⟨dS,Jh,nm,q,bs,hdct,sn,sub,ab,col,dd,k0,k1,k2,k3,k5,mN,nv,eV,tT,T⟩:=O.obj;refine wpAny_Raise_call_subT (C:=C) (nm:=nm) (q:=q) (N:=Jh) (bs:=bs) (bm:=dS) (hdct:=hdct) (sn:=sn) (sub:=sub) (ab:=ab) (col:=col) (dd:=dd) (k0:=k0) (k1:=k1) (k2:=k2) (k3:=k3) (k5:=k5)
  FB (mN:=mN) (T.hasType FB.hasBase) (I.ok.hd rfl) (by rw[b9];show(false||(backTo fM (starEach rest (cxX P w K mg base N qual scope f cu A outer s₀ H₀ E).env)).any (·.1))=false;rw[om];rfl) tT (mn I bR O.bound ⟨rfl,?_⟩ fj)
 have h':=bK fM aq s ao H _ I h;rw[b9] at h'|-;refine Calls.evalArgs_plain (thn h' λus bQ ⟨vs,aP,cU,r,bU,cP⟩=>⟨rfl,by rw[<-r.length];exact bU,cU.bk _ _ nv,eV.keeps cU.bk,T.keeps cU.bk,λcj e bL=>ZkS cU bL cP⟩)
end
mutual
inductive fr(K:Frag)(H:Hp):V->PyData->Prop
 |non:fr K H .non .none
 |bl (b:Bool):fr K H (.bl b) (.bool b)
 |int (i:Int):fr K H (.int i) (.int i)
 |str (x:Str):fr K H (.str x) (.str x)
 |lst {a:Addr} {xs:List V} {cq:List PyData} (h:SqL K H a xs) (r:DRels K H xs cq):fr K H (.ref a) (.list cq)
 |tup {a:Addr} {xs:List V} {cq:List PyData} (h:SqT K H a xs) (r:DRels K H xs cq):fr K H (.ref a) (.tuple cq)
inductive DRels(K:Frag)(H:Hp):List V->List PyData->Prop
 |nil:DRels K H [] []
 |cons {x:V} {d:PyData} {xs:List V} {cq:List PyData} (h:fr K H x d) (r:DRels K H xs cq):DRels K H (x::xs) (d::cq)
end
theorem DRels.ints{K:Frag}{H:Hp}:∀ns:List Int,DRels K H (ns.map V.int) (ns.map PyData.int)
 | []=> .nil
 |n::ns=> .cons (.int n) (DRels.ints ns)
section
variable {X:Cx}{aq:List (Addr×Obj)}{ao:St}{H:Hp}{s:Shared}
mutual
theorem fr.reads(I:Inv X aq ao H s):∀{x:V}{d:PyData}{v:Value},fr X.K H x d->c4 x v->∃as,Reads s.heap v d as
 |_,_,_,.non,r=>by cases (show _=Value.none from r);exact⟨_,.none⟩
 |_,_,_,.bl b,r=>by cases (show _=Value.bool b from r);exact⟨_,.bool b⟩
 |_,_,_,.int i,r=>by obtain⟨t,e⟩:=r;cases e;exact⟨_,.int i t⟩
 |_,_,_,.str x,r=>by obtain⟨t,e⟩:=r;cases e;exact⟨_,.str x t⟩
 |_,_,_,.lst (a:=a) h rs,r=>by
  cases (show _=Value.ref a from r);obtain⟨its,dC,p,bU⟩:=I.list h;obtain⟨o,b6,a_,n,hd⟩:=p.isList;obtain⟨as,q⟩:=DRels.reads I rs dC;exact⟨_,.list b6 a_ hd (by simpa using q)⟩
 |_,_,_,.tup (a:=a) h rs,r=>by
  cases (show _=Value.ref a from r);obtain⟨its,dC,p,bU⟩:=I.tuple h;obtain⟨o,b6,a_,n,hd⟩:=(show s.heap.IsTuple a its.toArray from p);obtain⟨as,q⟩:=DRels.reads I rs dC;exact⟨_,.tuple b6 a_ hd (by simpa using q)⟩
theorem DRels.reads(I:Inv X aq ao H s):∀{xs:List V}{cq:List PyData}{vs:List Value},DRels X.K H xs cq->cW xs vs->∃as,ReadsAll s.heap vs cq as
 |_,_,_,.nil,.nil=>⟨_,.nil⟩
 |_,_,_,.cons h r,.cons q t=>by
  obtain⟨as,e⟩:=fr.reads I h q;obtain⟨bs,cv⟩:=DRels.reads I r t;exact⟨_,.cons e cv⟩
end
end
def nw (K:Frag) (neg:Bool):R2:=λx y H Q=>∃dx dy,fr K H x dx/\fr K H y dy/\dx.canLay0=true/\dy.canLay0=true/\dx.depth<=60/\Q (.bl (if neg then !PyData.eqv dx dy else PyData.eqv dx dy)) H
section
variable {X:Cx}
theorem Ji(hu:X.A.units+64<cLine):OpR X (compareOp .Eq) (nw X.K false):=by
 intro aq s ao H x y v u Q I cy cI h;obtain⟨dx,dy,ay,aD,fg,e6,dp,q⟩:=h;obtain⟨as,cE⟩:=ay.reads I cy;obtain⟨bs,cY⟩:=aD.reads I cI;exact SeqAt.compareEq_reads cE cY fg e6 (by have:min dx.depth dy.depth<=dx.depth:=Nat.min_le_left _ _;omega) ⟨.bl _,H,I,rfl,q⟩
theorem Jj(hu:X.A.units+64<cLine):OpR X (compareOp .NotEq) (nw X.K true):=by
 intro aq s ao H x y v u Q I cy cI h;obtain⟨dx,dy,ay,aD,fg,e6,dp,q⟩:=h;obtain⟨as,cE⟩:=ay.reads I cy;obtain⟨bs,cY⟩:=aD.reads I cI;exact SeqAt.compareNe_reads cE cY fg e6 (by have:min dx.depth dy.depth<=dx.depth:=Nat.min_le_left _ _;omega) ⟨.bl _,H,I,rfl,q⟩
end
section
variable {P:Program}{w:World}{K:Frag}{mg:Str->Option Value}{base:Heap}
theorem Fun.okX{x qual:Str}{st:Stmt}{f:Addr}{fd:FuncData}{N ci:List Str}{k:Nat}{sp:Sp}(F:Fun K x qual st f fd)(S:Zu N ci (cs st))(len:∀vs H Q E,sp vs H Q E->vs.length=ci.length)
  (q9:∀(cD:Value)(A:Around)(outer:List Env)(s:Shared)(H:Hp)(vs:List V)(Q:VK)(E:XK),ez k (A.deeper (envOfC qual (cs st) s.heap.objs.size f cD))->sp vs H Q E->
   ∃t,PSs (cxX P w K mg base N qual (cs st) f cD A outer s H E) (jH st) t/\t {nx:=λ_ aj=>Q .non aj,rt:=Q} (start N vs) H):YE P w K mg base (CXX P w) (k+1) f fd ci sp:=by
 obtain⟨f4,es,kV,fR,fk,an,cD,ct,hy,rfl,lk,gi⟩:=F.ex;exact Zmc lk gi S len λA outer s H vs Q E aC jc=>q9 cD A outer s H vs Q E aC jc
theorem WP{X:Cx}:WC (CXX X.prog X.w) X E0:=by
 intro aq ao H s e s' I h;obtain⟨cw,cls,a0,aj,B,_,_,_,_,_,_,_,_,_,z⟩:=h;rcases z with⟨_,z⟩|⟨_,_,_,z⟩
 .exact z.elim
 .exact z.elim
end
section
variable {X:Cx}
def rOr (r c':R2):R2:=λx y H Q=>r x y H Q\/c' x y H Q
def ZdP:R2:=λx y H Q=>∃i j,x= .str i/\y= .str j/\i.length+j.length<=sizeLine/\Q (.str (i++j)) H
def tU:R2:=rI0 λi j=> .int (i+j)
def Zjl:R2:=rI (λi j=>IntMulOk i j) λi j=> .int (i*j)
theorem Jk:OpR X (binaryOp .Add) (rOr tU (rOr ZdP (rOr rCat (tH X.K)))):=Ic.or (Ij.or (IK.or IB))
theorem fh:OpR X (binaryOp .Mult) (rOr Zjl rRep):=I7.or IL
theorem Znj(hu:X.A.units+64<cLine):OpR X (compareOp .Eq) (rOr rEq (nw X.K false)):=Ie.or (Ji hu)
theorem ZnC(hu:X.A.units+64<cLine):OpR X (compareOp .NotEq) (rOr rNe (nw X.K true)):=Ig.or (Jj hu)
end
namespace Rd
section
variable {ao:St}{H:Hp}{Q:VK}{D:Vd}{K:Frag}{c':R2}
theorem ZpQ{i j:Int}(q:Q (.int (i+j)) H):rOr tU c' (.int i) (.int j) H Q:= .inl ⟨i,j,rfl,rfl,q⟩
theorem ZoC{cE:R2}{i j:Str}(ap:i.length+j.length<=sizeLine)(q:Q (.str (i++j)) H):rOr cE (rOr ZdP c') (.str i) (.str j) H Q:= .inr (.inl ⟨i,j,rfl,rfl,ap,q⟩)
theorem Zk8{cE cY:R2}{a b:Addr}{xs ys:List V}(bK:H a=some (.lst xs))(au:H b=some (.lst ys))(ap:xs.length+ys.length<=sizeLine)(q:∀p,H p=none->Q (.ref p) (upd H p (.lst (xs++ys)))):
  rOr cE (rOr cY (rOr rCat c')) (.ref a) (.ref b) H Q:= .inr (.inr (.inl ⟨a,b,xs,ys,rfl,rfl,bK,au,ap,q⟩))
theorem mulI{i j:Int}(c:IntMulOk i j)(q:Q (.int (i*j)) H):rOr Zjl c' (.int i) (.int j) H Q:= .inl ⟨i,j,rfl,rfl,c,q⟩
theorem Zpt{i j:Int}(q:Q (.bl (decide (i=j))) H):rOr rEq c' (.int i) (.int j) H Q:= .inl (eqI q)
theorem ZpX{i j:Int}(q:Q (.bl (!decide (i=j))) H):rOr rNe c' (.int i) (.int j) H Q:= .inl (neI q)
theorem ZpE{i j:Bool}(q:Q (.bl (!(i==j))) H):rOr rNe c' (.bl i) (.bl j) H Q:= .inl ⟨rfl,by rw[Zhf];exact q⟩
theorem Zot{x y:V}{dx dy:PyData}(ar:fr K H x dx)(bW:fr K H y dy)(rz:dx.canLay0=true)(wP:dy.canLay0=true)(dp:dx.depth<=60)(q:Q (.bl (PyData.eqv dx dy)) H):rOr rEq (nw K false) x y H Q:=
 .inr ⟨dx,dy,ar,bW,rz,wP,dp,q⟩
theorem ZiM{x y:V}{dx dy:PyData}(ar:fr K H x dx)(bW:fr K H y dy)(rz:dx.canLay0=true)(wP:dy.canLay0=true)(dp:dx.depth<=60)(q:Q (.bl (!PyData.eqv dx dy)) H):rOr rNe (nw K true) x y H Q:=
 .inr ⟨dx,dy,ar,bW,rz,wP,dp,q⟩
theorem Zod{p:Addr}{xs:List V}{i:Int}{v:V}(h:SqL K H p xs)(e:atI xs i=some v)(q:Q v H):rIx K (.ref p) (.int i) H Q:= .inl (ixl h e q)
theorem Znx{p:Addr}{xs:List V}{i:Int}{v:V}(h:SqT K H p xs)(e:atI xs i=some v)(q:Q v H):rIx K (.ref p) (.int i) H Q:= .inr (.inl (ixt h e q))
theorem Zp1{C:Nat->Prop}{p:Addr}{xs:List V}(h:SqL K H p xs)(q:C xs.length):∃x n,[V.ref p]=[x]/\Zbu K x H n/\C n:=⟨_,_,rfl,.inl ⟨xs,h,rfl⟩,q⟩
theorem ZoS{C:Nat->Prop}{p:Addr}{xs:List V}(h:SqT K H p xs)(q:C xs.length):∃x n,[V.ref p]=[x]/\Zbu K x H n/\C n:=⟨_,_,rfl,.inr ⟨xs,h,rfl⟩,q⟩
theorem lenS{C:Nat->Prop}{y:Str}(h:y.length<=sizeLine)(q:C y.length):∃x n,[V.str y]=[x]/\Zbu K x H n/\C n:=⟨_,_,rfl,⟨h,rfl⟩,q⟩
theorem Zpa{i:Nat}{v:V}{b1:St}{Q:St->Hp->Prop}(e:ao.set i (some v)=b1)(h:Q b1 H):UE i v ao H Q:=by
 subst e;exact h
theorem ifP{c A B:Prop}[Decidable c](h:c)(a:A):if decide c=true then A else B:=by rw[decide_eq_true h];exact ZgY a
theorem ifN{c A B:Prop}[Decidable c](h:¬c)(b:B):if decide c=true then A else B:=by rw[decide_eq_false h];exact Zhq b
theorem ZpS{c A B:Prop}[Decidable c](h:c)(b:B):if(!decide c)=true then A else B:=by rw[decide_eq_true h];exact Zhq b
theorem ZpR{c A B:Prop}[Decidable c](h:¬c)(a:A):if(!decide c)=true then A else B:=by rw[decide_eq_false h];exact ZgY a
theorem ZpA{b:Bool}{C:Bool->Prop}(q:C b):∃k,q5 K (.bl b) H k/\C k:=⟨b,rfl,q⟩
end
end Rd
namespace Rd
section
variable {H:Hp}{C:Bool->Prop}{K:Frag}
theorem Zi3{i:Int}(q:C true):∃x fJ t b,[V.int i,.ty "int"]=[x,.ty fJ]/\WH K H x t/\PySem.W.kitOne K t (.type fJ)=some b/\C b:=⟨_,_,_,true,rfl,.int i,rfl,q⟩
theorem ZhJ{i:Int}(q:C false):∃x fJ t b,[V.int i,.ty "bool"]=[x,.ty fJ]/\WH K H x t/\PySem.W.kitOne K t (.type fJ)=some b/\C b:=⟨_,_,_,false,rfl,.int i,rfl,q⟩
theorem ZiF{i:Str}(q:C true):∃x fJ t b,[V.str i,.ty "str"]=[x,.ty fJ]/\WH K H x t/\PySem.W.kitOne K t (.type fJ)=some b/\C b:=⟨_,_,_,true,rfl,.str i,rfl,q⟩
theorem Zhw{p:Addr}{xs:List V}(h:H p=some (.lst xs))(q:C true):∃x fJ t b,[V.ref p,.ty "list"]=[x,.ty fJ]/\WH K H x t/\PySem.W.kitOne K t (.type fJ)=some b/\C b:=⟨_,_,_,true,rfl,.lst h,rfl,q⟩
theorem ZgA{p:Addr}{xs:List V}(h:H p=some (.tup xs))(q:C true):∃x fJ t b,[V.ref p,.ty "tuple"]=[x,.ty fJ]/\WH K H x t/\PySem.W.kitOne K t (.type fJ)=some b/\C b:=⟨_,_,_,true,rfl,.tup h,rfl,q⟩
end
end Rd
noncomputable def Zis (rA cf:Scope) (N zs:List Str) (ix:List Nat):Bool:=
 decide (cf.kind= .function)&&(cf.names.all λy=>decide (y.2≠ .cell))&&(cf.names.all λy=>decide (y.2= .local->cf.names.lookup y.1=some .local))&&
 (cf.names.all λy=>decide (y.2= .free->rA.names.lookup y.1=some .cell\/rA.names.lookup y.1=some .free))&&(zs.all λz=>decide (cf.names.lookup z=some .free))&&decide (ix.map (λj=>N[j]?)=zs.map some)
theorem eB{X:Cx}{cf:Scope}{x:Str}{zs:List Str}{ix:List Nat}(rA:Scope)(N:List Str)(bJ:X.env.scope=rA)(bX:X.N=N)(h:Zis rA cf N zs ix=true):Wg X cf x zs ix:=by
 unfold Zis at h;simp only[qbn,qbo,decide_eq_true_eq] at h;obtain⟨⟨⟨⟨⟨ay,aD⟩,cj⟩,cS⟩,ec⟩,dq⟩:=h;subst bJ bX;exact⟨ay,aD,cj,cS,ec,dq⟩
def VD(CX:CXT)(X:Cx)(J:St->Prop)(E:XK):Prop:=∀(aq:List (Addr×Obj))(ao:St)(H:Hp)(s:Shared)(e:Value)(s':Shared),J ao->Inv X aq ao H s->CX X.stack H s E e s'->X.xe e s'
def Zd9 (J:St->Prop) (sp:Sp) (dH:List V) (E:XK) (t:TA):TE:=λao H Q=>J ao/\t ao H λvs aA=>sp (vs++dH) aA Q E
def Zew (J:St->Prop) (C:Addr) (m:Str) (sp:Sp) (dH:List V) (E:XK) (cp:TE) (t:TA):TE:=λao H Q=>J ao/\cp ao H λx aA=>∃a dx fs,x= .ref a/\aA a=some (.ins C dx fs)/\fs.lookup m=none/\
 t ao aA λvs aP=>sp (x::(vs++dH)) aP Q E
def ZgX (J:St->Prop) (C:Addr) (sp:Sp) (dH:List V) (E:XK) (t:TA):TE:=λao H Q=>J ao/\t ao H λvs aA=>∀x dx,aA x=none->aA dx=none->dx≠x->
 sp (.ref x::(vs++dH)) (upd (upd aA dx (.own x)) x (.ins C dx [])) (λv aP=>v= .non/\Q (.ref x) aP) E
section
variable {X:Cx}{CX:CXT}{k:Nat}{f C:Addr}{fd:FuncData}{ci:List Str}{sp:Sp}{dH:List V}{cq:List Value}{E:XK}{J:St->Prop}{x m:Str}{p pos eD:Pos}{e o:Expr}{b7:List Expr}{cp:TE}{t:TA}
def ZnF(CX:CXT)(X:Cx)(ao:St)(E:XK):Prop:=∀(aq:List (Addr×Obj))(H:Hp)(s:Shared)(e:Value)(s':Shared),Inv X aq ao H s->CX X.stack H s E e s'->X.xe e s'
theorem Zn9{aq:List (Addr×Obj)}{ao:St}{H:Hp}{s:Shared}{Q:VK}{us:List Value}{vs:List V}(F:YE X.prog X.w X.K X.mg X.base CX k f fd ci sp)(aC:ez k X.A)(au:Wp X.K fd ci cq)(hd:cW dH cq)(ar:ZnF CX X ao E)
  (I:Inv X aq ao H s) (r:cW vs us) (h:sp (vs++dH) H Q E):wpAny (model X.prog X.w) X.A (call (.ref f) us) (EP X aq ao Q) X.xe s:=by
 have cY:cW (vs++dH) (us++cq):=r.append hd;have ap:(us++cq).length=ci.length:=by rw[<-cY.length];exact F.len _ _ _ _ h
 refine wpAny_call (codeAny_mono (F.run X.A X.stack s H ⟨us,[]⟩ (us++cq) (vs++dH) Q E aC I.env0 (au s us I.kIn ap) cY h) λr s' cC=>?_);cases r with
 |error e=>exact ar aq H s e s' I cC
 |ok fl=>
  cases fl with
  |ret u=>exact I.after cC
  |next=>exact False.elim cC
  |brk=>exact False.elim cC
  |cont=>exact False.elim cC
theorem ZlZ(F:YE X.prog X.w X.K X.mg X.base CX k f fd ci sp)(aC:ez k X.A)(bR:Gl X x)(bL:X.mg x=some (.ref f))(bH:keepIn X.K (.ref f)=true)(au:Wp X.K fd ci cq)(hd:cW dH cq)(ar:VD CX X J E)
  (bK:PA X (e::b7) t) (fj:(x==("__debug__" :Str))=false:=by decide) (b9:starEach (e::b7) X.env=(false,eval e X.env)::starEach b7 X.env:=by rfl) (e2:(backTo pos (starEach b7 X.env)).any (·.1)=false:=by rfl):
  PE X (.Call (.Name x p) (e::b7) [] pos) (Zd9 J sp dH E t):=by
 intro aq s ao H Q I h;obtain⟨jK,h⟩:=h;refine wpAny_Call_Name_kw (mn I bR bL ?_ fj);refine callWith_K (h₀:=X.base) I.ok.mod.kin bH (thn (bK pos aq s ao H _ I h) λus a' ⟨vs,aA,bT,r,q⟩=>⟨bT.kIn,?_⟩) b9 e2;exact Zn9 F aC au hd (λaq H s e s'=>ar aq ao H s e s' jK) bT r q
theorem ZlE{pl:Sem Bool}(b9:PE X o cp)(c:Cls X.K C)(bL:ZdD X.K C m f)(F:YE X.prog X.w X.K X.mg X.base CX k f fd ci sp)(aC:ez k X.A)(au:Wp X.K fd ci cq)(hd:cW dH cq)(ar:VD CX X J E)(bK:PA X (e::b7) t)
  (dM:starEach (e::b7) X.env=(false,eval e X.env)::starEach b7 X.env:=by rfl) (e2:(backTo pos (starEach b7 X.env)).any (·.1)=false:=by rfl)
  (bY:eval (.Call (.Attribute o m eD) (e::b7) [] pos) X.env=(do
   let dE<-eval o X.env
   standAt eD.atName
   let(f,first)<-holding [dE] (getMethod dE m pl)
   callWith pos f first (backTo pos (starEach (e::b7) X.env)) (backToKw pos (keywordEach [] X.env))):=by rfl):
  PE X (.Call (.Attribute o m eD) (e::b7) [] pos) (Zew J C m sp dH E cp t):=by
 intro aq s ao H Q I h;obtain⟨jK,h⟩:=h;refine methodCall_KW (pl:=pl) (thn (b9 aq s ao H _ I h) λu a' ⟨x,aA,bT,cy,a,dx,fs,ex,cw,l,q⟩=>?_) bY;subst ex;obtain rfl:u=Value.ref a:=cy;refine UH bT cw c bL l ?_;refine callWith_K (first:=[.ref a]) (h₀:=X.base) I.ok.mod.kin bL.kp (thn (bK pos aq a' ao aA _ bT q) λus bQ ⟨vs,aP,cU,r,cP⟩=>⟨cU.kIn,?_⟩) dM e2;exact Zn9 (us:= .ref a::us) (vs:= .ref a::vs) F aC au hd (λaq H s e s'=>ar aq ao H s e s' jK) cU (.cons rfl r) cP
def Zls(X:Cx)(body:List Stmt)(cN:(St->Prop)->XK->TS):Prop:=∀(J:St->Prop)(fU:XK)(pn:List (Addr×Obj))(iX:Value->Shared->Prop),PassesOwn (model X.prog X.w) X.A X.env iX->
 VD (CXX X.prog X.w) {X with pn:=pn,xe:=iX} J fU->PSs {X with pn:=pn,xe:=iX} body (cN J fU)
def Zkc(X:Cx)(kd:List Stmt)(th:TS):Prop:=∀(ke:Around),PSs {X with A:=ke,calm:=false,xe:=λ_ _=>False} kd th
def Bs (K:Frag) (c:Value) (cN:(St->Prop)->XK->TS) (th:TS):TS:=λD ao H=>∃(J:St->Prop)(fU:XK),cN J (noC fU) D ao H/\∀b1 cls aj,J b1->fU cls none aj->exmOne K cls c=some true/\th D b1 aj
theorem Jl{body:List Stmt}{lE:Stmt}{kd:List Stmt}{x:Str}{gK kS pos:Pos}{cN:(St->Prop)->XK->TS}{th:TS}{C:Addr}
  (dM:X.stack=X.env::X.outer) (fq:X.env.frame=some X.env.locals) (bR:Gl X x) (bL:X.mg x=some (.ref C)) (au:Zls X body cN) (hs:Zkc X (lE::kd) th) (fj:(x==("__debug__" :Str))=false:=by decide):
  PS X (.Try body [.ExceptHandler (some (.Name x gK)) none (lE::kd) kS] [] [] pos) (Bs X.K (.ref C) cN th):=by
 intro aq s ao H D I h;obtain⟨J,fU,fV,b8⟩:=h;have wQ:X.A.frames=some (X.env::X.outer):=by rw[I.ok.frames,dM]
 refine wpAny_Try_except ?_
 let iX:Value->Shared->Prop:=λe dL=>wpAny (model X.prog X.w) X.A (noteFrame e X.env) (λ_ j7=>wpAny (model X.prog X.w) X.A (setFlight e none) (λ_ iO=>wpAny (model X.prog X.w) X.A (handleBy e X.env [.ExceptHandler (some (.Name x gK)) none (lE::kd) kS]) (SP X aq D) X.xe iO) X.xe j7) X.xe dL
 have own:PassesOwn (model X.prog X.w) X.A X.env iX:=PassesOwn.looking;have kc:∀{xe:Value->Shared->Prop}{lx:List (Addr×Obj)}{b1:St}{aj:Hp}{s':Shared},Inv {X with pn:=X.pn++aq,xe:=xe} lx b1 aj s'->Inv X aq b1 aj s':=λ{xe lx b1 aj s'} J=>by
  have o:=J.ok;exact⟨⟨o.mod,o.kind,o.glob,o.blt,o.above,o.inj,o.has,o.cab,o.hd,o.frames,o.stk,o.exf,o.bs,o.bsz,o.noex,o.exfs,o.funs,o.frf⟩,J.os,J.bare,J.base,J.loc,J.cell,J.free,J.freeC,λp bO=>J.pin p (qbe _ bO),J.hok,J.len⟩
 have wR:Inv {X with pn:=X.pn++aq,xe:=iX} [] ao H s:=by
  have o:=I.ok;exact⟨⟨o.mod,o.kind,o.glob,o.blt,o.above,o.inj,o.has,o.cab,o.hd,o.frames,o.stk,o.exf,o.bs,o.bsz,o.noex,o.exfs,o.funs,o.frf⟩,I.os,I.bare,I.base,I.loc,I.cell,I.free,I.freeC,λp bO=>I.pin p (by simpa using bO),I.hok,I.len⟩
 have wS:VD (CXX X.prog X.w) {X with pn:=X.pn++aq,xe:=iX} J (noC fU):=by
  intro lx b1 aA a' e s' jK bT hcx;obtain⟨cw,cls,a0,aj,B,rfl,os,bare,un,ok,fl,fC,_,_,q⟩:=hcx;rcases q with⟨_,q⟩|⟨_,_,_,q⟩
  case inr=>exact False.elim q
  have ek:=kc bT;obtain⟨wT,wU⟩:=b8 b1 cls aj jK q;have wV:Heap.FlyingW B (X.env::X.outer) cw cls a0 s'.heap:=by rw[<-dM];exact fl
  show wpAny _ _ _ _ _ _;refine wpAny_looks_onW wQ fq wV λww held₄ rB=>?_;refine wpAny_landsW held₄ λrd fl₅ rC=>?_;have there:∀{dq:Heap},Heap.FlyingW B (X.env::X.outer) cw cls a0 dq->s'.heap.UpToSlots dq->Inv X aq b1 aj {s' with heap:=dq}:=λ{dq} pS sl=>by
   have wW:Un (frs X.stack) [] aA aj a'.heap dq:=un.fly fC pS.1 sl (λb au o e=>by
    obtain⟨_,cT,cv,d⟩:=ek.stack.mem au;rw[e] at cv;cases cv;exact d) ek.stkFree
   exact ek.call' (s':={s' with heap:=dq}) os wW (ok.stays (λb o e n=>fC b o e (.inl n)) pS.1) bare (λb z=>absurd z (by simp))
  have rD:∀{c8:Shared},Inv X aq b1 aj c8->Inv {X with A:=X.A.mark (some (.ref cw)),calm:=false,xe:=λ_ _=>False} aq b1 aj c8:=λ{c8} J=>by
   have o:=J.ok;exact⟨⟨o.mod,o.kind,o.glob,o.blt,o.above,o.inj,o.has,o.cab,λz=>absurd (show false=true from z) qam,o.frames,o.stk,o.exf,o.bs,o.bsz,o.noex,o.exfs,o.funs,o.frf⟩,J.os,J.bare,J.base,J.loc,J.cell,J.free,J.freeC,J.pin,J.hok,J.len⟩
  have iP:=rD (there fl₅ (rB.trans rC));refine wpAny_handleBy_cons (codeAny_handlers_test ?_) (by intro q;cases q);refine mn iP bR bL ?_ fj;obtain⟨dj,wX,wY⟩:=fl₅.there;have LT:PySem.W.Looks (model X.prog X.w) rd (typeOf (.ref cw)) cls:=by
   subst wY;exact(PySem.W.Looks.ld wX).andThen .now
  refine(exm_one iP.kIn LT wT).here ?_;refine codeAny_handlers_suite ?_;refine lands_againW fl₅ λBt fl₆ wZ=>?_;have g0:=rD (there fl₆ ((rB.trans rC).trans wZ));refine wpAny_mono (hs (X.A.mark (some (.ref cw))) aq {s' with heap:=Bt} b1 aj D g0 wU) (λf bQ aD=>?_) λ_ _ z=>False.elim z;show SP X aq D f bQ;have mG:∀{cx:St}{aP:Hp},Inv {X with A:=X.A.mark (some (.ref cw)),calm:=false,xe:=λ_ _=>False} aq cx aP bQ->Inv X aq cx aP bQ:=λ{cx aP} J=>by
   have o:=J.ok;exact⟨⟨o.mod,o.kind,o.glob,o.blt,o.above,o.inj,o.has,o.cab,I.ok.hd,I.ok.frames,o.stk,o.exf,o.bs,o.bsz,o.noex,o.exfs,o.funs,o.frf⟩,J.os,J.bare,J.base,J.loc,J.cell,J.free,J.freeC,J.pin,J.hok,J.len⟩
  cases f with
  |next=>obtain⟨cx,aP,eP,cP⟩:=aD;exact⟨cx,aP,mG eP,cP⟩
  |brk=>obtain⟨cx,aP,eP,cP⟩:=aD;exact⟨cx,aP,mG eP,cP⟩
  |cont=>obtain⟨cx,aP,eP,cP⟩:=aD;exact⟨cx,aP,mG eP,cP⟩
  |ret u=>obtain⟨v,cx,aP,eP,cY,cP⟩:=aD;exact⟨v,cx,aP,mG eP,cY,cP⟩
 refine wpAny_mono (au J (noC fU) (X.pn++aq) iX own wS [] s ao H D wR fV) (λf a' ay=>?_) λe a' ay=>ay;cases f with
 |next=>
  obtain⟨cx,aP,eP,cP⟩:=ay;show wpAny _ _ (execs [] X.env) _ _ _;exact wpAny_pure ⟨cx,aP,kc eP,cP⟩
 |brk=>obtain⟨cx,aP,eP,cP⟩:=ay;exact⟨cx,aP,kc eP,cP⟩
 |cont=>obtain⟨cx,aP,eP,cP⟩:=ay;exact⟨cx,aP,kc eP,cP⟩
 |ret u=>obtain⟨v,cx,aP,eP,cY,cP⟩:=ay;exact⟨v,cx,aP,kc eP,cY,cP⟩
end
mutual
theorem fr.same{K:Frag}{H aj:Hp}(e:Zd H aj):∀{x:V}{d:PyData},fr K H x d->fr K aj x d
 |_,_,.non=> .non
 |_,_,.bl b=> .bl b
 |_,_,.int i=> .int i
 |_,_,.str x=> .str x
 |_,_,.lst h r=> .lst (e.seq h) (DRels.same e r)
 |_,_,.tup h r=> .tup (e.seqT h) (DRels.same e r)
theorem DRels.same{K:Frag}{H aj:Hp}(e:Zd H aj):∀{xs:List V}{cq:List PyData},DRels K H xs cq->DRels K aj xs cq
 |_,_,.nil=> .nil
 |_,_,.cons h r=> .cons (fr.same e h) (DRels.same e r)
end
section
variable {K:Frag}{H:Hp}
theorem fr.ints{p:Addr}{ns:List Int}(h:SqL K H p (ns.map V.int)):fr K H (.ref p) (.list (ns.map PyData.int)):= .lst h (DRels.ints ns)
namespace Rd
variable {Q:VK}
end Rd
end
structure Walks(J:It)(n:Nat)(f:Nat->V)(H:Hp):Prop where
 go:∀aj i,Zd H aj->i<n->J.go i aj
 yld:∀aj i x aP,Zd H aj->i<n->J.yld i aj x aP->aP=aj/\x=f i
 stop:∀aj,Zd H aj->J.stop n aj
theorem Wf{lo:Int}{n:Nat}{H:Hp}:Walks (Itr lo n) n (λi=> .int (lo+i)) H:=⟨λ_ _ _ h=>h,λ_ _ _ _ _ _ h=>h,λ_ _=>qaa _⟩
theorem eF{K:Frag}{a:Addr}{xs:List V}{H:Hp}(h:SqL K H a xs):Walks (Itl K a) xs.length (λi=>xs.getD i .non) H:=
 ⟨λaj i e hi=>⟨xs,xs[i],e.seq h,by simp[hi]⟩,λaj i x aP e hi y=>⟨y.1,by
  have:=y.2 xs (e.seq h);simp[List.getD,this]⟩,λaj e=>⟨xs,e.seq h,qaa _⟩⟩
theorem rE{K:Frag}{a:Addr}{xs:List V}{H:Hp}(h:SqT K H a xs):Walks (Itt K a) xs.length (λi=>xs.getD i .non) H:=
 ⟨λaj i e hi=>⟨xs,xs[i],e.seqT h,by simp[hi]⟩,λaj i x aP e hi y=>⟨y.1,by
  have:=y.2 xs (e.seqT h);simp[List.getD,this]⟩,λaj e=>⟨xs,e.seqT h,qaa _⟩⟩
theorem Yr{J:It}{n:Nat}{f:Nat->V}{H0:Hp}(w:Walks J n f H0){g:TG}{cN:TS}{D:Vd}{ao:St}{H:Hp}(Pv:Nat->St->Hp->Prop)(c0:Pv 0 ao H)(bH:∀i ao H,Pv i ao H->Zd H0 H)
  (hs:∀i ao H,i<n->Pv i ao H->g (f i) ao H λcx aP=>cN {D with nx:=Pv (i+1),ct:=Pv (i+1),bk:=D.nx} cx aP) (hd:∀ao H,Pv n ao H->D.nx ao H):
  ∃W:Nat->Nat->St->Hp->Prop,(∃m,W 0 m ao H)/\∀i m ao H,W i m ao H->
   (J.stop i H/\D.nx ao H)\/(J.go i H/\∃N:St->Hp->Prop,(∀b1 aj,N b1 aj->∃cH,cH<m/\W (i+1) cH b1 aj)/\∀x aj,J.yld i H x aj->g x ao aj λcx aP=>cN {D with nx:=N,ct:=N,bk:=D.nx} cx aP):=by
 refine⟨λi m ao H=>m=n-i/\i<=n/\Pv i ao H,⟨n,by simp,qar _,c0⟩,?_⟩;rintro i m ao H ⟨rfl,hi,p⟩;have bI:=bH i ao H p
 by_cases dw:i<n
 .refine .inr ⟨w.go H i bI dw,Pv (i+1),λb1 aj iR=>⟨n-(i+1),∅,rfl,dw,iR⟩,λx aj y=>?_⟩;obtain⟨rfl,rfl⟩:=w.yld H i x aj bI dw y;exact hs i ao _ dw p
 .have e:i=n:=by omega
  subst e;exact .inl ⟨w.stop H bI,hd ao H p⟩
theorem Yf{ix:List Nat}{dP:TT}{cM:TE}{Q:Addr->Hp->Prop}{ao:St}{H:Hp}{J:It}{n:Nat}{f:Nat->V}(w:Walks J n f H)(b':n<sizeLine)(c:Nat->Bool)(r:Nat->V)
  (a_:∀i aj (cQ:Bool->Hp->Prop),i<n->Zd H aj->(∀bZ,Zd aj bZ->cQ (c i) bZ)->dP (some (f i)::ix.map λj=>(ao[j]?).join) aj cQ)
  (b9:∀i aj (cQ:VK),i<n->c i=true->Zd H aj->(∀b4,Zd aj b4->cQ (r i) b4)->cM (some (f i)::ix.map λj=>(ao[j]?).join) aj cQ)
  (q:∀p aj,H p=none->Zd H aj->aj p=some (.lst (((List.range n).filter c).map r))->Q p aj):
  ∀p,H p=none->∃W:Nat->Nat->List V->St->Hp->Prop,(∃m,W 0 m [] (emb ix ao) (upd H p (.lst [])))/\∀i m ys b1 aj,W i m ys b1 aj->
   (J.stop i aj/\Q p aj)\/(J.go i aj/\∀x aP,J.yld i aj x aP->UE 0 x b1 aP λcx b5=>dP cx b5 λb bZ=>
    if b=true then cM cx bZ λv b4=>b4 p=some (.lst ys)/\ys.length<sizeLine/\∃cH,cH<m/\W (i+1) cH (ys++ [v]) cx (upd b4 p (.lst (ys++ [v])))
    else ∃cH,cH<m/\W (i+1) cH ys cx bZ):=by
 intro p bO;refine⟨λi m ys b1 aj=>m=n-i/\i<=n/\(∃a,b1=a::ix.map λj=>(ao[j]?).join)/\Zd H aj/\aj p=some (.lst ys)/\ys=((List.range i).filter c).map r,
  ⟨n,by simp,qar _,⟨none,rfl⟩,cF bO,Ze,rfl⟩,?_⟩
 rintro i m ys b1 aj ⟨rfl,hi,⟨a,rfl⟩,bI,bW,ap⟩
 by_cases dw:i<n
 .refine .inr ⟨w.go aj i bI dw,λx aP y=>?_⟩;obtain⟨rfl,rfl⟩:=w.yld aj i x aP bI dw y;show dP ((a::ix.map λj=>(ao[j]?).join).set 0 (some (f i))) aP _;have dY:ys.length<=i:=by
   rw[ap,GM];exact qap (qbE _ _) (by simp)
  refine a_ i aP _ dw bI λbZ cd=>?_;have oy:=bI.trans cd;have pT:=cd _ _ bW;have step:(List.range (i+1)).filter c=(List.range i).filter c++(if c i=true then[i] else[]):=by
   rw[qbr,qbP]
   congr 1
   by_cases h:c i=true<;>simp[h]
  by_cases gR:c i=true
  .rw[gR,if_pos rfl];refine b9 i bZ _ dw gR oy λb4 cB=>⟨cB _ _ pT,∅,n-(i+1),∅,rfl,dw,⟨_,rfl⟩,(oy.trans cB).new bO,Ze,?_⟩;rw[step,if_pos gR,qaF,ap]
   rfl
  .have rF:c i=false:=by simpa using gR
   rw[rF,if_neg qam];refine⟨n-(i+1),∅,rfl,dw,⟨_,rfl⟩,oy,pT,?_⟩;rw[step,if_neg gR,qbl,ap]
 .have e:i=n:=by omega
  subst e;exact .inl ⟨w.stop aj bI,q p aj bO bI (by rw[<-ap];exact bW)⟩
structure df(A:List Addr)(H aj:Hp):Prop where
 keep:∀b o,H b=some o->b∉A->aj b=some o
 tups:∀b xs,H b=some (.tup xs)->aj b=some (.tup xs)
theorem Zd.frame{A:List Addr}{H aj:Hp}(e:Zd H aj):df A H aj:=⟨λb o h _=>e b o h,λb xs h=>e b _ h⟩
theorem df.refl{A:List Addr}{H:Hp}:df A H H:=(Zd.refl H).frame
theorem df.trans{A:List Addr}{H aA aP:Hp}(a:df A H aA)(b:df A aA aP):df A H aP:=⟨λc o h n=>b.keep c o (a.keep c o h n) n,λc xs h=>b.tups c xs (a.tups c xs h)⟩
theorem df.mono{A B:List Addr}{H aj:Hp}(a:df A H aj)(h:∀x∈A,x∈B):df B H aj:=⟨λc o e n=>a.keep c o e λz=>n (h c z),a.tups⟩
theorem gy{A:List Addr}{H:Hp}{p:Addr}{o cT:HO}(bO:p∈A)(h:H p=some o)(bY:∀xs,o≠ .tup xs):df A H (upd H p cT):=by
 refine⟨λb u e n=>?_,λb xs e=>?_⟩
 .have z:b≠p:=λz=>n (by rw[z];exact bO);rw[b3 z];exact e
 .have z:b≠p:=λz=>bY xs (by rw[z,h] at e;exact qaC e);rw[b3 z];exact e
def V0(A ke:List Addr)(H:Hp):Prop:=∀a∈ke,a∈A\/H a=none
theorem V0.refl{A:List Addr}{H:Hp}:V0 A A H:=λ_ h=> .inl h
section
variable {K:Frag}{H aj:Hp}{A ke:List Addr}
namespace Rd
variable {Q:VK}
end Rd
end
noncomputable def Its (x:Str):It:=⟨λi _=>i<x.cps.size,λi H v aj=>aj=H/\∃c,x.cps[i]? =some c/\v= .str ⟨#[c]⟩,λi _=>x.cps.size<=i⟩
theorem Jm{P:Program}{w:World}{K:Frag}{c5:Expr}(it:Addr)(x:Str)(t:Tok)(ty:String)(jd:ty="str_ascii_iterator" \/ty="str_iterator"):V2 P w K c5 (Its x) [it] it (λi h=>h.IsStrIter it ty x t i) where
 mem:=by simp
 obj:=λi h st b au=>by
  have e:b=it:=by simpa using au
  subst e;obtain⟨o,e,c,d⟩:=st;exact⟨o,e,λv z=>by rw[d] at z;cases z⟩
 keep:=λi h h' st k=>let⟨o,b6,r⟩:=st;⟨o,k it (by simp) o b6,r⟩
 item:=by
  intro X dv hw hK a_ i aq s ao H E I bS st bR;subst dv hw hK;obtain⟨ea,f1,f2,da,eN,dQ⟩:=bS it (by simp);have hi:i<x.cps.size:=bR;have fI:∀h':Heap,h'.IsStrIter it ty x t (i+1)->Heap.SameBut it s.heap h'->∃u,some (Value.str ⟨#[x.cps[i]]⟩ s.toks)=some u/\
    wpAny (model X.prog X.w) X.A (letOwnedTupleGo c5 (.ref it) u) (λ_ bQ=>∃y aj,Inv X aq ao aj bQ/\c4 y u/\(Its x).yld i H y aj/\bQ.heap.IsStrIter it ty x t (i+1)/\∀b∈[it],aj b=none) E {s with heap:=h',toks:=s.toks+1}:=λh' ja iQ=>by
   have bT:Inv X aq ao H {s with heap:=h',toks:=s.toks+1}:=I.turned (t':=s.toks+1) (λb o au e=>(iQ.2 b au).trans e) ea f1 da eN dQ;obtain⟨o,e,c,d⟩:=id ja;refine⟨_,rfl,q1 (s:={s with heap:=h',toks:=s.toks+1}) e c d (by rcases jd with rfl|rfl<;>decide) ⟨.str ⟨#[x.cps[i]]⟩,H,bT,⟨_,rfl⟩,⟨rfl,x.cps[i],by simp[hi],rfl⟩,ja,λb au=>(bS b au).1⟩⟩
  rcases jd with rfl|rfl
  .exact wpAny_pyNext_ascii_item st (c:=x.cps[i]) (by simp[hi]) fI
  .exact wpAny_pyNext_wide_item st (c:=x.cps[i]) (by simp[hi]) fI
 done:=by
  intro X dv hw hK a_ i aq s ao H E I bS st bR;subst dv hw hK;obtain⟨ea,f1,f2,da,eN,dQ⟩:=bS it (by simp);have hi:x.cps.size<=i:=bR;rcases jd with rfl|rfl
  .exact wpAny_pyNext_ascii_end (I.ok.hd a_) st (by simp[hi]) λh' c7=>⟨rfl,I.turned (t':=s.toks) (λb o au e=>c7 b o au e) ea f1 da eN dQ⟩
  .exact wpAny_pyNext_wide_end (I.ok.hd a_) st (by simp[hi]) λh' c7=>⟨rfl,I.turned (t':=s.toks) (λb o au e=>c7 b o au e) ea f1 da eN dQ⟩
 self:=λ_ _ _ _ _ st h=>by
  rcases jd with rfl|rfl
  .exact wpAny_pyIter_striter_ascii st h
  .exact wpAny_pyIter_striter_wide st h
section
variable {X:Cx}{c5:Expr}
def Bu (dS:TE):TI:=λao H R=>dS ao H λx aA=>∃y,x= .str y/\R (Its y) aA
theorem Jn{l:Expr}{dS:TE}(ap:PE X l dS):PI X c5 l (Bu dS):=by
 intro aq s ao H R I h;refine thn (ap aq s ao H _ I h) λv a' ⟨x,aA,bT,cE,cJ⟩=>?_;obtain⟨y,e,q⟩:=cJ;subst e;obtain⟨t,rfl⟩:=cE;have fI:∀ty:String,(ty="str_ascii_iterator" \/ty="str_iterator")->PIE X aq ao c5 R (.ref a'.heap.objs.size) {a' with heap:=a'.heap.push {cls:= .type ty,data:= .fields #[.str y t,.int 0 0]}}:=λty jd=>by
  refine⟨a'.heap.objs.size,[a'.heap.objs.size],_,_,aA,rfl,bT.kept (t':=a'.toks) λb o e=>Heap.get?_push_of_some _ e,Jm _ y t ty jd,⟨_,Heap.get?_push_size _ rfl,rfl,rfl⟩,λb au=>?_,q⟩;have e:b=a'.heap.objs.size:=by simpa using au
  subst e;exact bT.fpOk (qaa _) (bT.hok.fresh (qaa _))
 cases bK:y.cps.all (· <128)
 .exact wpAny_pyIter_wide bK (fI _ (.inr rfl))
 .exact wpAny_pyIter_ascii bK (fI _ (.inl rfl))
theorem Zj8{x:Str}{H:Hp}:Walks (Its x) x.cps.size (λi=> .str ⟨#[x.cps.getD i 0]⟩) H:=
 ⟨λ_ _ _ h=>h,λaj i v aP _ hi ⟨e,c,a_,cz⟩=>⟨e,by rw[cz];simp[Array.getD,hi] at a_|-;exact a_.symm⟩,λ_ _=>qaa _⟩
def rLeS:R2:=λx y H Q=>∃i j,x= .str i/\y= .str j/\Q (.bl (!decide (j.cps.toList<i.cps.toList))) H
theorem Bv:OpR X (compareOp .LtE) rLeS:=by
 intro aq s ao H x y v u Q I cy cI h;obtain⟨i,j,rfl,rfl,q⟩:=h;obtain⟨t,rfl⟩:=cy;obtain⟨t',rfl⟩:=cI;exact PySem.P.le_str ⟨.bl _,H,I,rfl,q⟩
theorem Bw{s:Shared}:∀{bs:List Bool}{us:List Value},cW (bs.map V.bl) us->us=bs.map Value.bool
 | [],_,r=>by cases r;rfl
 |b::bs,_,r=>by
  cases r with
  |cons cE cY=>
   have e:_=Value.bool b:=cE;rw[e,Bw (s:=s) cY]
   rfl
theorem Jo{s:Shared}{h':Heap}{o:Obj}(bH:∀b x,b∉[s.heap.objs.size]->(s.heap.push o).get? b=some x->h'.get? b=some x):∀b x,s.heap.get? b=some x->h'.get? b=some x:=
 λb x e=>bH b x (λbL=>by rw[qab.mp bL] at e;exact qby _ (Heap.lt_size e)) (Heap.get?_push_of_some _ e)
theorem Zi6(bs:List Bool):((List.range bs.length).all λi=>(bs[i]?).getD true)=bs.all id:=by
 rw[qbH,qbo,qbo]
 constructor
 .intro h b au;obtain⟨i,hi,rfl⟩:=qaq au;have:=h i (qax.mpr hi);simpa[fm hi] using this
 .intro h i hi;have eQ:=qax.mp hi;simp only[fm eQ,Option.getD_some];exact h _ (GE eQ)
theorem ZkV(a_:X.calm=true):YL X (.builtin "all") (λxs H Q=>∃(p:Addr)(bs:List Bool),xs=[.ref p]/\SqL X.K H p (bs.map V.bl)/\Q (.bl (bs.all id)) H):=by
 intro aq s ao H xs us Q I r h;obtain⟨p,bs,rfl,cC,q⟩:=h;obtain⟨u,rfl,cy⟩:=W8 r;cases cy;obtain⟨its,dC,pl,bU⟩:=I.list cC;have e3:=Bw (s:=s) dC;subst e3;have ap:=pl.isList;have dw:p<s.heap.objs.size:=by obtain⟨_,e,_⟩:=ap;exact Heap.lt_size e
 refine call_all_walk (wpAny_pyIter_list ap ?_);refine⟨s.heap.objs.size,[s.heap.objs.size,p],[s.heap.objs.size],(bs.map Value.bool).toArray.size,_,_,λi=>(bs[i]?).getD true,rfl,PySem.Walks.list (A:=X.A.in1) (I.ok.hd a_) _ p (qas dw) (bs.map Value.bool).toArray,
  ⟨⟨_,Heap.get?_push_size _ rfl,rfl,rfl⟩,ap.push _⟩,λi v s' n9 cR dv fH=>?_,λh' ce bH=>?_⟩
 .have rG:(bs.map Value.bool)[i]? =some v:=by simpa using dv
  rw[qao] at rG;cases e:bs[i]? with
  |none=>rw[e] at rG;cases rG
  |some b=>
   rw[e] at rG;cases rG;have Bx:n9 ((bs[i]?).getD true) s':=fH;rw[e] at Bx;exact wpAny_truthy_bool Bx
 .have e:((List.range (bs.map Value.bool).toArray.size).all λi=>(bs[i]?).getD true)=bs.all id:=by
   rw[qah,GM];exact Zi6 bs
  rw[e];exact⟨.bl (bs.all id),H,I.kept (Jo bH),rfl,q⟩
theorem Zkq(a_:X.calm=true):YL X (.builtin "sum") (λxs H Q=>∃(p:Addr)(ns:List Int),xs=[.ref p]/\SqL X.K H p (ns.map V.int)/\Q (.int ns.sum) H):=by
 intro aq s ao H xs us Q I r h;obtain⟨p,ns,rfl,cC,q⟩:=h;obtain⟨u,rfl,cy⟩:=W8 r;cases cy;obtain⟨its,dC,pl,bU⟩:=I.list cC;have hi:=A8 dC;obtain⟨xs,ar⟩:=hi.allInts.items;have eu:s.heap.IsList p (intItems xs):=ar▸pl.isList;refine sum_intListG (I.ok.hd a_) eu λh' ce t' bH=>?_;have bJ:ns=xs.toList.map (·.1):=by
  rw[<-nums_intItems,<-ar];exact(show numsOf its.toArray.toList=ns from hi.numsOf).symm
 have bX:preSum (numAt xs) xs.size=ns.sum:=by
  rw[preSum_eq,qa2 (by simp),bJ]
 rw[bX];exact⟨.int ns.sum,H,I.kept bH,⟨_,rfl⟩,q⟩
end
structure ZjB(K:Frag)(x qual:Str)(st:Stmt)(dT:Addr)(f:Addr)(fd:FuncData):Prop where
 ex:∃(f4:Value)(es:Option Addr)(kV fR fk:Value)(an:Option Addr)(cD ct:Value)(hy:Array (Option Value)),
  fd=fnOf x qual (kP st) (jH st) (cs st) (.ref dT) kV fR fk an cD ct/\K.lookup f=some ⟨f4,es,.func fd,hy⟩/\codeIn K cD qual=true
 kp:keepIn K (.ref f)=true
section
variable {P:Program}{w:World}{K:Frag}{mg:Str->Option Value}{base:Heap}
theorem ZjB.okX{x qual:Str}{st:Stmt}{dT f:Addr}{fd:FuncData}{N ci:List Str}{k:Nat}{sp:Sp}(F:ZjB K x qual st dT f fd)(S:Zu N ci (cs st))(len:∀vs H Q E,sp vs H Q E->vs.length=ci.length)
  (q9:∀(cD:Value)(A:Around)(outer:List Env)(s:Shared)(H:Hp)(vs:List V)(Q:VK)(E:XK),ez k (A.deeper (envOfC qual (cs st) s.heap.objs.size f cD))->sp vs H Q E->
   ∃t,PSs (cxX P w K mg base N qual (cs st) f cD A outer s H E) (jH st) t/\t {nx:=λ_ aj=>Q .non aj,rt:=Q} (start N vs) H):YE P w K mg base (CXX P w) (k+1) f fd ci sp:=by
 obtain⟨f4,es,kV,fR,fk,an,cD,ct,hy,rfl,lk,gi⟩:=F.ex;exact Zmc lk gi S len λA outer s H vs Q E aC jc=>q9 cD A outer s H vs Q E aC jc
theorem ZmY{x qual:Str}{st:Stmt}{dT f:Addr}{f4:Value}{es an:Option Addr}{hy:Array (Option Value)}{kV fR fk cD ct:Value}(l:K.lookup f=some ⟨f4,es,.func (fnOf x qual (kP st) (jH st) (cs st) (.ref dT) kV fR fk an cD ct),hy⟩)
  (c:codeIn K cD qual=true) (k:keepIn K (.ref f)=true):ZjB K x qual st dT f (fnOf x qual (kP st) (jH st) (cs st) (.ref dT) kV fR fk an cD ct):=⟨⟨f4,es,kV,fR,fk,an,cD,ct,hy,rfl,l,c⟩,k⟩
theorem Jp{h₀:Heap}{x:Str}{C:Addr}{By:List Value}{nu:String}(X:K.In h₀)(g:h₀.Ns mainGlobals mg)(e:nsIn K mainGlobals x=some (some (.ref C)))(q:excIn K C By nu=true):OwnCls x C By nu mg h₀:=by
 refine⟨mg_of X g e,?_⟩;unfold excIn at q
 split at q
 .rename_i dd cu sl b6
  split at q
  .rename_i TU bm k0 k1 k2 k3 n k5 bL hs;simp only[qbn,beq_iff_eq,Bool.not_eq_true'] at q;obtain⟨⟨⟨⟨⟨rfl,rfl⟩,Bz⟩,bY⟩,hok⟩,tT⟩:=q;obtain⟨nm,bs,TV,ns,od,hd,sn,sub,ab,col,TW⟩:=cu;dsimp only at bL Bz hok tT;subst bL Bz;have gA:sl=#[k0,k1,k2,k3,some (.builtin n),k5]:=by
    obtain⟨l⟩:=sl;simp only at hs;rw[hs]
   subst gA;exact⟨bm,ns,nm,od,bs,hd,sn,sub,ab,col,dd,k0,k1,k2,k3,k5,_,X _ _ b6,.of_isNs (PySem.W.isNs_of_in X hok),PySem.W.nsMap_none_of_in X hok tT,PySem.W.tail_of_in X bY⟩
  .cases q
 .cases q
section
variable {N:List Str}{qual:Str}{scope:Scope}{f:Addr}{cu:Value}{A:Around}{outer:List Env}{s₀:Shared}{H₀:Hp}{E:XK}
theorem hm{x:Str}{gK fM pos:Pos}{mF:Expr}{rest:List Expr}{t:TA}{C:Addr}{B nu wO:String}{bm:List Value}(e:nsIn K mainGlobals x=some (some (.ref C)))(q:excIn K C bm nu=true)(FB:ExcBaseFacts B nu wO bm)
  (bR:Gl (cxX P w K mg base N qual scope f cu A outer s₀ H₀ E) x) (bK:PA (cxX P w K mg base N qual scope f cu A outer s₀ H₀ E) (mF::rest) t)
  (b9:starEach (mF::rest) (cxX P w K mg base N qual scope f cu A outer s₀ H₀ E).env=(false,eval mF (cxX P w K mg base N qual scope f cu A outer s₀ H₀ E).env)::starEach rest (cxX P w K mg base N qual scope f cu A outer s₀ H₀ E).env:=by rfl)
  (om:(backTo fM (starEach rest (cxX P w K mg base N qual scope f cu A outer s₀ H₀ E).env)).any (·.1)=false:=by rfl) (fj:(x==("__debug__" :Str))=false:=by decide):
  PS (cxX P w K mg base N qual scope f cu A outer s₀ H₀ E) (.Raise (some (.Call (.Name x gK) (mF::rest) [] fM)) none pos) (wM (.ref C) E t):=by
 intro aq s ao H D I h;exact ZlY (Jp I.ok.mod.kin I.ok.mod.glob e q) FB bR bK b9 om fj aq s ao H D I h
end
end
section
variable {X:Cx}
def rSlS:V->Option Int->Option Int->Hp->VK->Prop:=λx lo hi H Q=>∃z,x= .str z/\z.length<=sizeLine/\Q (.str (Txt.slice z lo hi)) H
theorem Jq:SlR X rSlS:=by
 intro aq s ao H x v fB g6 lo hi sl Q I cy hs pl iS h;obtain⟨z,rfl,bU,q⟩:=h;obtain⟨t,rfl⟩:=cy;refine⟨"str",_,F.slot_str_getitem.lookup,typeIs_str _ _ _,?_⟩;have fI:∀l u:Option (Int×Tok),l.map (·.1)=lo->u.map (·.1)=hi->partValue l=fB->partValue u=g6->wpAny (model X.prog X.w) X.A (getItem (.str z t) (.ref sl)) (EP X aq ao Q) X.xe s:=λl u bJ bX dn ha=>by
  obtain⟨o,b6,a_,hd⟩:=hs;subst bJ bX dn ha;exact wpAny_getItem_str_slice (l:=l) (u:=u) (st:=none) ⟨o,b6,a_,hd⟩ rfl (post_val_or_str ⟨qap (Txt.slice_le z _ _) bU,λt' k=>⟨.str _,H,I.tok k,⟨_,rfl⟩,q⟩⟩)
 cases pl with
 |none=>
  cases iS with
  |none=>exact fI none none rfl rfl rfl rfl
  |int j t'=>exact fI none (some (j,t')) rfl rfl rfl rfl
 |int i ti=>
  cases iS with
  |none=>exact fI (some (i,ti)) none rfl rfl rfl rfl
  |int j t'=>exact fI (some (i,ti)) (some (j,t')) rfl rfl rfl rfl
def w0 (K:Frag):V->Option Int->Option Int->Hp->VK->Prop:=λx lo hi H Q=>Bc K x lo hi H Q\/(Bb K x lo hi H Q\/rSlS x lo hi H Q)
theorem Jr:SlR X (w0 X.K):=IH.or (IA.or Jq)
end
structure Vn(K:Frag)(C:Addr)(fs:List Str):Prop where
 out:∀f∈fs,jb K C f
theorem Vn.get{K:Frag}{C:Addr}{fs:List Str}{f:Str}(h:Vn K C fs)(m:fs.contains f=true):jb K C f:=h.out f (by simpa using m)
namespace Rd
section
variable {ao:St}{H:Hp}{Q:VK}{D:Vd}{K:Frag}
theorem slL{a:Addr}{xs:List V}{lo hi:Option Int}(h:SqL K H a xs)(q:∀p,H p=none->Q (.ref p) (upd H p (.lst (kN xs lo hi)))):w0 K (.ref a) lo hi H Q:= .inl ⟨a,xs,rfl,h,q⟩
theorem sl{r:V->Option Int->Option Int->Hp->VK->Prop}{cM:TE}{dS th:TO}(h:cM ao H λx aA=>dS ao aA λl aP=>th ao aP λu b5=>r x l u b5 Q):tSl r cM dS th ao H Q:=h
theorem ZnM{Q:Option Int->Hp->Prop}(h:Q none H):tNoPart ao H Q:=h
theorem Zp5{cM:TE}{Q:Option Int->Hp->Prop}(h:cM ao H λx aA=>∃i,x= .int i/\Q (some i) aA):A7 cM ao H Q:=h
theorem ZoI{i:Int}{C:Int->Prop}(h:C i):∃j,V.int i= .int j/\C j:=⟨i,rfl,h⟩
theorem ZpC{cp:TE}{f:Str}(h:cp ao H λx aA=>∃a C dx fs v,x= .ref a/\aA a=some (.ins C dx fs)/\Cls K C/\jb K C f/\fs.lookup f=some v/\Q v aA):wd K cp f ao H Q:=h
theorem fld{a C dx:Addr}{fs:List (Str×V)}{f:Str}{v:V}{G:V->Prop}(h:H a=some (.ins C dx fs))(c:Cls K C)(n:jb K C f)(l:fs.lookup f=some v)(q:G v):
  ∃c6 C dx fs v,V.ref a= .ref c6/\H c6=some (.ins C dx fs)/\Cls K C/\jb K C f/\fs.lookup f=some v/\G v:=⟨a,C,dx,fs,v,rfl,h,c,n,l,q⟩
theorem ZoV{C:Addr}{m:Str}{sp:Sp}{dH:List V}{E:XK}{cp:TE}{t:TA}(h:cp ao H λx aA=>∃a dx fs,x= .ref a/\aA a=some (.ins C dx fs)/\fs.lookup m=none/\t ao aA λvs aP=>sp (x::(vs++dH)) aP Q E):q6 C m sp dH E cp t ao H Q:=h
theorem Zo0{C:Addr}{sp:Sp}{dH:List V}{E:XK}{t:TA}(h:t ao H λvs aA=>∀x dx,aA x=none->aA dx=none->dx≠x->
  sp (.ref x::(vs++dH)) (upd (upd aA dx (.own x)) x (.ins C dx [])) (λv aP=>v= .non/\Q (.ref x) aP) E):q7 C sp dH E t ao H Q:=h
theorem Zp4{cp fK:TE}{f:Str}(h:fK ao H λy aA=>cp ao aA λx aP=>∃a C dx fs,x= .ref a/\aP a=some (.ins C dx fs)/\Cls K C/\jb K C f/\fs.length<1000/\D.nx ao (upd aP a (.ins C dx (gj f y fs)))):we K cp fK f D ao H:=h
theorem ZoT{a C dx:Addr}{fs tq:List (Str×V)}{f:Str}{y:V}(h:H a=some (.ins C dx fs))(c:Cls K C)(n:jb K C f)(l:fs.length<1000)(e:gj f y fs=tq)(q:D.nx ao (upd H a (.ins C dx tq))):
  ∃c6 C dx fs,V.ref a= .ref c6/\H c6=some (.ins C dx fs)/\Cls K C/\jb K C f/\fs.length<1000/\D.nx ao (upd H c6 (.ins C dx (gj f y fs))):=⟨a,C,dx,fs,rfl,h,c,n,l,by rw[e];exact q⟩
theorem raise{cls:Value}{E:XK}{t:TA}(h:t ao H λvs aA=>vs.length<=sizeLine/\E cls none aA):wM cls E t D ao H:=h
theorem ZnZ{v:V}{G:Prop}(q:G):[v].length<=sizeLine/\G:=⟨by show 1<=sizeLine;decide,q⟩
theorem Zo5{cM:TE}{R:It->Hp->Prop}(h:cM ao H λx aA=>∃a,x= .ref a/\(∃xs,SqL K aA a xs)/\R (Itl K a) aA):v7 K cM ao H R:=h
theorem Zpm{cM:TE}{R:It->Hp->Prop}(h:cM ao H λx aA=>∃y,x= .str y/\R (Its y) aA):Bu cM ao H R:=h
theorem ZoX{y:Str}{G:Str->Prop}(h:G y):∃z,V.str y= .str z/\G z:=⟨y,rfl,h⟩
theorem ZoL{ix:List Nat}{e1:TI}{g:TG}{dP:TT}{cM:TE}(h:e1 ao H λJ aA=>∀p,aA p=none->
 ∃W:Nat->Nat->List V->St->Hp->Prop,(∃m,W 0 m [] (emb ix ao) (upd aA p (.lst [])))/\∀i m ys b1 aj,W i m ys b1 aj->
  (J.stop i aj/\Q (.ref p) aj)\/(J.go i aj/\∀x aP,J.yld i aj x aP->g x b1 aP λcx b5=>dP cx b5 λb bZ=>
   if b=true then cM cx bZ λv b4=>b4 p=some (.lst ys)/\ys.length<sizeLine/\∃cH,cH<m/\W (i+1) cH (ys++ [v]) cx (upd b4 p (.lst (ys++ [v])))
   else ∃cH,cH<m/\W (i+1) cH ys cx bZ)):wx ix e1 g dP cM ao H Q:=h
theorem Zp2{Q:Bool->Hp->Prop}(h:Q true H):tAll ao H Q:=h
theorem lk0{f:Str}{v:V}{r:List (Str×V)}:((f,v)::r).lookup f=some v:=by simp
theorem lk1{f g:Str}{v:V}{o:Option V}{r:List (Str×V)}(n:(f==g)=false)(h:r.lookup f=o):((g,v)::r).lookup f=o:=by rw[qa6,n];exact h
theorem lkN{f:Str}:([]:List (Str×V)).lookup f=none:=rfl
theorem pf0{f:Str}{v x:V}{r:List (Str×V)}:gj f v ((f,x)::r)=(f,v)::r:=by simp[gj]
theorem pf1{f g:Str}{v x:V}{r c':List (Str×V)}(n:(g==f)=false)(h:gj f v r=c'):gj f v ((g,x)::r)=(g,x)::c':=by
 have:¬g=f:=by simpa using n
 simp[gj,this,h]
theorem pfN{f:Str}{v:V}:gj f v []=[(f,v)]:=rfl
end
end Rd
namespace Rd
section
variable {H:Hp}{Q:VK}{K:Frag}
theorem ifD{c A B:Prop}[Decidable c](a:c->A)(b:¬c->B):if decide c=true then A else B:=by
 by_cases h:c
 .exact ifP h (a h)
 .exact ifN h (b h)
theorem ZpG{p:Addr}{bs:List Bool}{G:List Bool->Prop}(h:SqL K H p (bs.map V.bl))(q:G bs):∃(iR:Addr)(pU:List Bool),[V.ref p]=[.ref iR]/\SqL K H iR (pU.map V.bl)/\G pU:=⟨p,bs,rfl,h,q⟩
theorem leS{x y:Str}(q:Q (.bl (!decide (y.cps.toList<x.cps.toList))) H):rLeS (.str x) (.str y) H Q:=⟨x,y,rfl,rfl,q⟩
theorem Zo3{ao:St}{r c':R2}{cp cN dP:TE}(h:cp ao H λx aA=>cN ao aA λy aP=>r x y aP λz b5=>∃k,z= .bl k/\(if k=true then dP ao b5 λeH bZ=>c' y eH bZ Q else Q (.bl false) b5)):AX r c' cp cN dP ao H Q:=h
end
end Rd
namespace Rd
section
variable {H:Hp}{Q:VK}{K:Frag}
theorem Zp3{z:Str}{i:Int}{c:Nat}(h:z.length<=sizeLine)(e:atI z.cps.toList i=some c)(q:Q (.str ⟨#[c]⟩) H):rIx K (.str z) (.int i) H Q:= .inr (.inr ⟨z,i,c,rfl,rfl,h,e,q⟩)
theorem Znt{a:Addr}{xs:List V}{G:Addr->Prop}(h:SqL K H a xs)(q:G a):∃c6,V.ref a= .ref c6/\(∃xs,SqL K H c6 xs)/\G c6:=⟨a,rfl,⟨xs,h⟩,q⟩
theorem Zo6{j:Int}{G:Int->Prop}(ay: -(2 ^ 62)<=j)(aD:j<2 ^ 62)(q:G j):∃k,[V.int j]=[.int k]/\ -(2 ^ 62)<=k/\k<2 ^ 62/\G k:=⟨j,rfl,ay,aD,q⟩
theorem Zpf{i j:Int}{G:Int->Int->Prop}(ay: -(2 ^ 62)<=i/\i<2 ^ 62/\ -(2 ^ 62)<=j/\j<2 ^ 62)(q:G i j):∃mH mI,[V.int i,.int j]=[.int mH,.int mI]/\(-(2 ^ 62)<=mH/\mH<2 ^ 62/\ -(2 ^ 62)<=mI/\mI<2 ^ 62)/\G mH mI:=⟨i,j,rfl,ay,q⟩
theorem ZpK{i j:Int}{G:Int->Int->Prop}(q:G i j):∃mH mI,[V.int i,.int j]=[.int mH,.int mI]/\G mH mI:=⟨i,j,rfl,q⟩
end
end Rd
noncomputable def hid (H:Hp) (r:Addr):Hp:=λb=>if b=r then none else H b
theorem rH{H:Hp}{r:Addr}:hid H r r=none:=by unfold hid;rw[if_pos rfl]
theorem U3{H:Hp}{r b:Addr}(h:b≠r):hid H r b=H b:=by unfold hid;rw[if_neg h]
theorem mJ{H:Hp}{r:Addr}:Zd (hid H r) H:=λb o e=>by
 by_cases h:b=r
 .rw[h,rH] at e;cases e
 .rw[U3 h] at e;exact e
theorem BA:∀ns:List Int,PyData.canLayAll0 (ns.map PyData.int)=true
 | []=>by simp[PyData.canLayAll0]
 |n::ns=>by
  have:=BA ns;simp[PyData.canLayAll0,PyData.canLay0] at this|-;exact this
theorem pV(ns:List Int):(PyData.list (ns.map PyData.int)).canLay0=true:=by
 have:=BA ns;simp[PyData.canLay0];simpa using this
theorem tV:∀ns:List Int,PyData.depthAll (ns.map PyData.int)<=1
 | []=>by simp[PyData.depthAll]
 |n::ns=>by
  have:=tV ns;simp[PyData.depthAll,PyData.depth] at this|-;exact this
theorem BB(ns:List Int):(PyData.list (ns.map PyData.int)).depth<=60:=by
 have:=tV ns;simp only[PyData.depth];omega
namespace Rd
end Rd
namespace Rd
section
variable {ao:St}{H:Hp}{Q:VK}{K:Frag}{J:St->Prop}{E:XK}{sp:Sp}{dH:List V}{t:TA}{cp:TE}
theorem Zph{C:Addr}{m:Str}(bP:J ao)(h:cp ao H λx aA=>∃a dx fs,x= .ref a/\aA a=some (.ins C dx fs)/\fs.lookup m=none/\t ao aA λvs aP=>sp (x::(vs++dH)) aP Q E):Zew J C m sp dH E cp t ao H Q:=⟨bP,h⟩
theorem ZoN(bP:J ao)(h:t ao H λvs aA=>sp (vs++dH) aA Q E):Zd9 J sp dH E t ao H Q:=⟨bP,h⟩
theorem ZoY{C:Addr}(bP:J ao)(h:t ao H λvs aA=>∀x dx,aA x=none->aA dx=none->dx≠x->
  sp (.ref x::(vs++dH)) (upd (upd aA dx (.own x)) x (.ins C dx [])) (λv aP=>v= .non/\Q (.ref x) aP) E):ZgX J C sp dH E t ao H Q:=⟨bP,h⟩
theorem Zpz{c:Value}{cN:(St->Prop)->XK->TS}{th:TS}{D:Vd}(fU:XK)(au:cN (λs=>s=ao) (noC fU) D ao H)(b8:∀cls aj,fU cls none aj->exmOne K cls c=some true/\th D ao aj):Bs K c cN th D ao H:=
 ⟨λs=>s=ao,fU,au,λ_ cls aj e h=>e▸b8 cls aj h⟩
end
end Rd
namespace Rd
section
variable {ao:St}{H:Hp}
theorem Zpw{to ti:TE}{t:ZdH}{v:V}{Q:St->Hp->Prop}(h:to ao H λo aA=>ti ao aA λi aP=>t o i v aP λb5=>Q ao b5):AK to ti t v ao H Q:=h
theorem ZnE{p:Addr}{xs:List V}{k:Int}{v:V}{Q:Hp->Prop}(bO:H p=some (.lst xs))(c0:0<=k)(ay:k<xs.length)(q:Q (upd H p (.lst (xs.set k.toNat v)))):rSetL (.ref p) (.int k) v H Q:=
 ⟨p,xs,k,k.toNat,rfl,rfl,bO,by unfold ixN;rw[if_pos c0,if_pos ay],q⟩
end
end Rd
noncomputable def only(q:Addr) (o:HO):Hp:=λa=>if a=q then some o else none
theorem rJ{q:Addr}{o:HO}:only q o q=some o:=by unfold only;rw[if_pos rfl]
theorem Uj{q:Addr}{o:HO}{H:Hp}(h:H q=some o):Zd (only q o) H:=λb x e=>by
 unfold only at e
 by_cases c:b=q
 .rw[if_pos c] at e;rw[c];cases e;exact h
 .rw[if_neg c] at e;cases e
section
variable {X:Cx}{K:Frag}
theorem Zm3(e:X.K=K):OpR X (binaryOp .Add) (rOr tU (rOr ZdP (rOr rCat (tH K)))):=e▸Jk
theorem gS(e:X.K=K)(hu:X.A.units+64<cLine):OpR X (compareOp .Eq) (rOr rEq (nw K false)):=e▸Znj hu
theorem jh(e:X.K=K)(hu:X.A.units+64<cLine):OpR X (compareOp .NotEq) (rOr rNe (nw K true)):=e▸ZnC hu
theorem Zpr(e:X.K=K):IxR X (rIx K):=e▸IF
theorem BC(e:X.K=K):SlR X (w0 K):=e▸Jr
def w1 (K:Frag):List V->Hp->VK->Prop:=λxs H Q=>∃x n,xs=[x]/\Zbu K x H n/\Q (.int n) H
theorem ZoW(e:X.K=K):YL X (.builtin "len") (w1 K):=e▸Im
theorem fW{e:Expr}{cp:TE}{f:Str}{pos:Pos}(fF:X.K=K)(b9:PE X e cp)(au:attributeBase e f X.env (eval e X.env)=eval e X.env):PE X (.Attribute e f pos) (wd K cp f):=fF▸Zor b9 au
theorem kf{o value:Expr}{cp fK:TE}{f:Str}{pos kH:Pos}(fF:X.K=K)(bK:PE X o cp)(cz:PE X value fK)(hs:swapsWith value (some (.Attribute o f kH)) pos.line X.env=pure false):
  PS X (.Assign [.Attribute o f kH] value pos) (we K cp fK f):=fF▸Zn1 bK cz hs
theorem eG{c5 l:Expr}{dS:TE}(fF:X.K=K)(ap:PE X l dS):PI X c5 l (v7 K dS):=fF▸Zm7 ap
theorem rK{c5 l:Expr}{dS:TE}(fF:X.K=K)(ap:PE X l dS):PI X c5 l (oc K dS):=fF▸ZnO ap
def BD (K:Frag) (cp:TE):TT:=λao H Q=>cp ao H λx aj=>∃k,q5 K x aj k/\Q k aj
theorem fX{a:Expr}{cp:TE}(fF:X.K=K)(bK:PE X a cp)(b9:∀n8,isTrue a X.env n8=(do let v<-n8;standAt a.pos;holding [v] (truthy v))):PT X a (BD K cp):=fF▸ZlR bK b9
def BE (K:Frag):List V->Hp->VK->Prop:=λxs H Q=>∃x n t b,xs=[x,.ty n]/\WH K H x t/\PySem.W.kitOne K t (.type n)=some b/\Q (.bl b) H
theorem kT(e:X.K=K):YL X (.builtin "isinstance") (BE K):=e▸I8
def w2 (K:Frag):List V->Hp->VK->Prop:=λxs H Q=>∃p ys,xs=[.ref p]/\(SqL K H p ys\/SqT K H p ys)/\∀l,H l=none->Q (.ref l) (upd H l (.lst ys))
theorem lF(e:X.K=K):YL X (.type "list") (w2 K):=e▸II
def Js (K:Frag):List V->Hp->VK->Prop:=λxs H Q=>∃p ys,xs=[.ref p]/\((SqL K H p ys/\∀l,H l=none->Q (.ref l) (upd H l (.tup ys)))\/(SqT K H p ys/\Q (.ref p) H))
theorem tW(e:X.K=K):YL X (.type "tuple") (Js K):=e▸IJ
def BF (K:Frag):List V->Hp->VK->Prop:=λxs H Q=>∃(p:Addr)(bs:List Bool),xs=[.ref p]/\SqL K H p (bs.map V.bl)/\Q (.bl (bs.all id)) H
theorem rL(e:X.K=K)(a_:X.calm=true):YL X (.builtin "all") (BF K):=e▸ZkV a_
def BG (K:Frag):List V->Hp->VK->Prop:=λxs H Q=>∃(p:Addr)(ns:List Int),xs=[.ref p]/\SqL K H p (ns.map V.int)/\Q (.int ns.sum) H
theorem mK(e:X.K=K)(a_:X.calm=true):YL X (.builtin "sum") (BG K):=e▸Zkq a_
theorem hA{o e:Expr}{b7:List Expr}{to:TE}{t:TA}{name:Str}{eD fM:Pos}{T id:String}{r:V->List V->Hp->VK->Prop}(fF:X.K=K)(ni:PlainAttrs T)(slot:Slot T name id)(jd:typeOf (.builtin id)=pure (.type "method_descriptor"))(bL:MtR X id r)(b6:PE X o to)(bK:PA X (e::b7) t)
  (oj:attributeBase o name X.env (eval o X.env)=eval o X.env:=by rfl)
  (nj:((backTo fM (starEach (e::b7) X.env)).all (λx=>!x.1)&&(backToKw fM (keywordEach [] X.env)).all (λx=>x.1.isSome)
   &&decide ((e::b7).length+([]:List Keyword).length+(if([]:List Keyword).isEmpty then 0 else 1)<30))=true:=by rfl)
  (ol:(eD.endLine==fM.line)=true:=by rfl) (hs:starEach (e::b7) X.env=(false,eval e X.env)::starEach b7 X.env:=by rfl) (om:(backTo fM (starEach b7 X.env)).any (·.1)=false:=by rfl):
  PE X (.Call (.Attribute o name eD) (e::b7) [] fM) (tBM K T r to t):=fF▸Zo8 ni slot jd bL b6 bK oj nj ol hs om
theorem e7{b7:List Expr}{k:Nat}{t:TGs}{n:Nat}{pos:Pos}(fF:X.K=K)(a_:X.calm=true)(h:PGs X b7 t)(b':(assignEach b7 X.env).length=n:=by rfl)(dM:(assignEach b7 X.env).findIdx? (·.1)=none:=by rfl):
  PG X (.Tuple b7 k pos) (v4 K n t):=fF▸ZnX a_ h b' dM
end
namespace Rd
section
variable {ao:St}{H:Hp}{Q:VK}{K:Frag}
theorem tru{cp:TE}{Q:Bool->Hp->Prop}(h:cp ao H λx aj=>∃k,q5 K x aj k/\Q k aj):BD K cp ao H Q:=h
theorem ZpL{xs:List V}(h:∃x n,xs=[x]/\Zbu K x H n/\Q (.int n) H):w1 K xs H Q:=h
theorem ZpN{xs:List V}(h:∃x n t b,xs=[x,.ty n]/\WH K H x t/\PySem.W.kitOne K t (.type n)=some b/\Q (.bl b) H):BE K xs H Q:=h
theorem Zpk{xs:List V}(h:∃(p:Addr)(bs:List Bool),xs=[.ref p]/\SqL K H p (bs.map V.bl)/\Q (.bl (bs.all id)) H):BF K xs H Q:=h
theorem Vk{p:Addr}{xs:List V}(h:SqL K H p xs)(q:∀l,H l=none->Q (.ref l) (upd H l (.lst xs))):w2 K [.ref p] H Q:=⟨p,xs,rfl,.inl h,q⟩
theorem ZmE{p:Addr}{xs:List V}(h:SqT K H p xs)(q:∀l,H l=none->Q (.ref l) (upd H l (.lst xs))):w2 K [.ref p] H Q:=⟨p,xs,rfl,.inr h,q⟩
theorem Zgn{p:Addr}{ns:List Int}(h:SqL K H p (ns.map V.int))(q:Q (.int ns.sum) H):BG K [.ref p] H Q:=⟨p,ns,rfl,h,q⟩
end
end Rd
def HU(A:Around):Prop:=A.units+64<cLine
theorem ez.hu{k:Nat}{A:Around}(h:ez k A):HU A:=h.units
theorem oA{i n a:Nat}(h:a=n)(k:i<n):i<a:=h▸k
theorem oB{n a m c:Nat}(h:a=n)(k:n<=m)(e:Nat.ble m c=true):a<=c:=h▸qap k (qaT e)
theorem oD{a m c:Nat}(k:a<=m)(e:Nat.ble m c=true):a<=c:=qap k (qaT e)
theorem oE{i n a:Nat}(h:a=n)(k:i<n):(i:Int)<(a:Int):=Int.ofNat_lt.mpr (h▸k)
theorem oF{i a:Nat}(k:i<a):(i:Int)<(a:Int):=Int.ofNat_lt.mpr k
theorem ixk{X:Cx}(K:Frag)(e:X.K=K:=by rfl):IxR X (rIx K):=Zpr e
theorem eX{X:Cx}(K:Frag)(e:X.K=K:=by rfl):OpR X (binaryOp .Add) (rOr tU (rOr ZdP (rOr rCat (tH K)))):=Zm3 e
theorem fb{X:Cx}(K:Frag)(e:X.K=K:=by rfl):YL X (.builtin "len") (w1 K):=ZoW e
structure Ex(K:Frag)(mg:Str->Option Value)(nm:Str)(X:Addr):Prop where
 g:nsIn K mainGlobals nm=some (some (.ref X))
 m:mg nm=some (.ref X)
 e:excIn K X [.type "ValueError",.type "Exception",.type "BaseException",.type "object"] "ValueError.__new__" =true
theorem scI{N P:List Str}{cf:Scope}(a:cf.kind= .function:=by rfl)(b:cf.isCoroutine=false:=by rfl)(c:cf.isGenerator=false:=by rfl)(d:N.Nodup:=by decide+kernel)(e:N.take P.length=P:=by rfl)(f:∀x∈P,cf.names.lookup x=some .local\/cf.names.lookup x=some .cell:=by decide+kernel)(g:∀y∈cf.names,y.2≠ .free:=by decide+kernel):Zu N P cf:=⟨a,b,c,d,e,f,g⟩
structure Dn(K:Frag)(mg:Str->Option Value)(nm q:Str)(s:Stmt)(ci:List Str) where
 f:Addr
 d:FuncData
 F:Fun K nm q s f d
 b:Wp K d ci []
 m:mg nm=some (.ref f)
structure Dm(K:Frag)(C:Addr)(nm q:Str)(s:Stmt)(ci:List Str) where
 f:Addr
 d:FuncData
 F:Fun K nm q s f d
 b:Wp K d ci []
 M:ZdD K C nm f
structure Di(K:Frag)(C:Addr)(q:Str)(s:Stmt)(ci:List Str) where
 f:Addr
 d:FuncData
 F:Fun K "__init__" q s f d
 b:Wp K d ci []
 M:Mk K C f
abbrev BOk(nm q:Str)(s:Stmt)(ci:List Str):Prop:=∀us:List Value,us.length=ci.length->∀(kV fR fk:Value)(an:Option Addr)(cD ct:Value),bindArgs (fnOf nm q (kP s) (jH s) (cs s) .none kV fR fk an cD ct) ⟨us,[]⟩=pure (ci.zip us)
section
variable {P:Program}{w:World}{K:Frag}{mg:Str->Option Value}{base h:Heap}{nm q:Str}{st:Stmt}{ci:List Str}{C f:Addr}{f4:Value}{es an:Option Addr}{hy:Array (Option Value)}{kV dc fk cu ct:Value}
noncomputable def Dn.of (X:K.In h) (G:h.Ns mainGlobals mg) (a:nsIn K mainGlobals nm=some (some (.ref f))) (l:K.lookup f=some ⟨f4,es,.func (fnOf nm q (kP st) (jH st) (cs st) .none kV dc fk an cu ct),hy⟩) (c:codeIn K cu q=true) (k:keepIn K (.ref f)=true)
  (au:BOk nm q st ci):Dn K mg nm q st ci:=⟨f,_,pO l c k,(pO l c k).binds λa1 a2 a3 a4 a5 a6 us e=>au us e a1 a2 a3 a4 a5 a6,mg_of X G a⟩
noncomputable def Dm.of (a:PySem.W.findIn K (.ref C) nm=some (some (.ref f))) (i:isFn K (.ref f)=true) (l:K.lookup f=some ⟨f4,es,.func (fnOf nm q (kP st) (jH st) (cs st) .none kV dc fk an cu ct),hy⟩) (c:codeIn K cu q=true) (k:keepIn K (.ref f)=true)
  (au:BOk nm q st ci):Dm K C nm q st ci:=⟨f,_,pO l c k,(pO l c k).binds λa1 a2 a3 a4 a5 a6 us e=>au us e a1 a2 a3 a4 a5 a6,⟨a,i,k⟩⟩
noncomputable def Di.of (z:makesIn K C=true) (y:keepIn K (.ref C)=true) (a:PySem.W.findIn K (.ref C) "__init__" =some (some (.ref f))) (i:isFn K (.ref f)=true) (l:K.lookup f=some ⟨f4,es,.func (fnOf "__init__" q (kP st) (jH st) (cs st) .none kV dc fk an cu ct),hy⟩) (c:codeIn K cu q=true) (k:keepIn K (.ref f)=true)
  (au:BOk "__init__" q st ci):Di K C q st ci:=⟨f,_,pO l c k,(pO l c k).binds λa1 a2 a3 a4 a5 a6 us e=>au us e a1 a2 a3 a4 a5 a6,⟨z,a,i,y⟩⟩
theorem ZlA{cX:Type _}{P:List cX->Prop}(h:P [])(us:List cX)(e:us.length=0):P us:=match us,e with| [],_=>h
theorem lenS{cX:Type _}{n:Nat}{P:List cX->Prop}(h:∀a (us:List cX),us.length=n->P (a::us))(us:List cX)(e:us.length=n+1):P us:=match us,e with|a::us,e=>h a us (Nat.succ.inj e)
theorem Znm:Vn K C []:=⟨λ_ h=>nomatch h⟩
theorem Zm2{x:Str}{xs:List Str}(h:PySem.W.findIn K (.ref C) x=some none)(t:Vn K C xs):Vn K C (x::xs):=⟨λf bS=>by
 rcases qaf.mp bS with e|e
 .rw[e];exact h
 .exact t.out f e⟩
theorem ZnT{dT:Addr}{a:Array Value}{n:Nat}(h:K.lookup dT=some ⟨f4,es,.seq a n,hy⟩):∃f4 es n sl,K.lookup dT=some ⟨f4,es,.seq a n,sl⟩:=⟨_,_,_,_,h⟩
abbrev OkN(P:Program)(w:World)(base:Heap)(k:Nat)(D:Dn K mg nm q st ci)(sp:Sp):Prop:=YE P w K mg base (CXX P w) k D.f D.d ci sp
abbrev OkM(P:Program)(w:World)(mg:Str->Option Value)(base:Heap)(k:Nat)(D:Dm K C nm q st ci)(sp:Sp):Prop:=YE P w K mg base (CXX P w) k D.f D.d ci sp
abbrev OkI(P:Program)(w:World)(mg:Str->Option Value)(base:Heap)(k:Nat)(D:Di K C q st ci)(sp:Sp):Prop:=YE P w K mg base (CXX P w) k D.f D.d ci sp
end
section
variable {X:Cx}{CX:CXT}{j k:Nat}{C:Addr}{ci:List Str}{sp:Sp}{E:XK}{x m q:Str}{st:Stmt}{p pos eD:Pos}{e o:Expr}{b7:List Expr}{cp:TE}{t:TA}{J:St->Prop}
theorem c2(D:Dn X.K X.mg x q st ci)(F:YE X.prog X.w X.K X.mg X.base CX j D.f D.d ci sp)(aC:ez k X.A)(ar:WC CX X E)(bK:PA X (e::b7) t)(bP:Nat.ble j k=true:=by rfl)(bR:Gl X x:=by rfl)
  (fj:(x==("__debug__" :Str))=false:=by decide) (b9:starEach (e::b7) X.env=(false,eval e X.env)::starEach b7 X.env:=by rfl) (e2:(backTo pos (starEach b7 X.env)).any (·.1)=false:=by rfl):
  PE X (.Call (.Name x p) (e::b7) [] pos) (wg sp [] E t):=ZmR (F.mono (qaT bP)) aC bR D.m D.F.kp D.b .nil ar bK fj b9 e2
theorem BH(D:Dn X.K X.mg x q st ci)(F:YE X.prog X.w X.K X.mg X.base CX j D.f D.d ci sp)(aC:ez k X.A)(ar:VD CX X J E)(bK:PA X (e::b7) t)(bP:Nat.ble j k=true:=by rfl)(bR:Gl X x:=by rfl)
  (fj:(x==("__debug__" :Str))=false:=by decide) (b9:starEach (e::b7) X.env=(false,eval e X.env)::starEach b7 X.env:=by rfl) (e2:(backTo pos (starEach b7 X.env)).any (·.1)=false:=by rfl):
  PE X (.Call (.Name x p) (e::b7) [] pos) (Zd9 J sp [] E t):=ZlZ (F.mono (qaT bP)) aC bR D.m D.F.kp D.b .nil ar bK fj b9 e2
theorem hB{pl:Sem Bool}(b9:PE X o cp)(c:Cls X.K C)(D:Dm X.K C m q st ci)(F:YE X.prog X.w X.K X.mg X.base CX j D.f D.d ci sp)(aC:ez k X.A)(ar:WC CX X E)(bK:PA X (e::b7) t)(bP:Nat.ble j k=true:=by rfl)
  (dM:starEach (e::b7) X.env=(false,eval e X.env)::starEach b7 X.env:=by rfl) (e2:(backTo pos (starEach b7 X.env)).any (·.1)=false:=by rfl)
  (bY:eval (.Call (.Attribute o m eD) (e::b7) [] pos) X.env=(do
   let dE<-eval o X.env
   standAt eD.atName
   let(f,first)<-holding [dE] (getMethod dE m pl)
   callWith pos f first (backTo pos (starEach (e::b7) X.env)) (backToKw pos (keywordEach [] X.env))):=by rfl):
  PE X (.Call (.Attribute o m eD) (e::b7) [] pos) (q6 C m sp [] E cp t):=tA b9 c D.M (F.mono (qaT bP)) aC D.b .nil ar bK dM e2 bY
theorem kg{pl:Sem Bool}(b9:PE X o cp)(c:Cls X.K C)(D:Dm X.K C m q st ci)(F:YE X.prog X.w X.K X.mg X.base CX j D.f D.d ci sp)(aC:ez k X.A)(ar:WC CX X E)(bP:Nat.ble j k=true:=by rfl)
  (bY:eval (.Call (.Attribute o m eD) [] [] pos) X.env=(do
   let dE<-eval o X.env
   standAt eD.atName
   let(f,first)<-holding [dE] (getMethod dE m pl)
   callWith pos f first (backTo pos (starEach [] X.env)) (backToKw pos (keywordEach [] X.env))):=by rfl):
  PE X (.Call (.Attribute o m eD) [] [] pos) (q6 C m sp [] E cp tNil):=ZlH b9 c D.M (F.mono (qaT bP)) aC D.b .nil ar bY
theorem Jt{pl:Sem Bool}(b9:PE X o cp)(c:Cls X.K C)(D:Dm X.K C m q st ci)(F:YE X.prog X.w X.K X.mg X.base CX j D.f D.d ci sp)(aC:ez k X.A)(ar:VD CX X J E)(bK:PA X (e::b7) t)(bP:Nat.ble j k=true:=by rfl)
  (dM:starEach (e::b7) X.env=(false,eval e X.env)::starEach b7 X.env:=by rfl) (e2:(backTo pos (starEach b7 X.env)).any (·.1)=false:=by rfl)
  (bY:eval (.Call (.Attribute o m eD) (e::b7) [] pos) X.env=(do
   let dE<-eval o X.env
   standAt eD.atName
   let(f,first)<-holding [dE] (getMethod dE m pl)
   callWith pos f first (backTo pos (starEach (e::b7) X.env)) (backToKw pos (keywordEach [] X.env))):=by rfl):
  PE X (.Call (.Attribute o m eD) (e::b7) [] pos) (Zew J C m sp [] E cp t):=ZlE b9 c D.M (F.mono (qaT bP)) aC D.b .nil ar bK dM e2 bY
theorem Ju(D:Di X.K C q st ci)(F:YE X.prog X.w X.K X.mg X.base CX j D.f D.d ci sp)(aC:ez (k+1) X.A)(bL:X.mg x=some (.ref C))(ar:WC CX X E)(bK:PA X (e::b7) t)(bP:Nat.ble j k=true:=by rfl)(bR:Gl X x:=by rfl)
  (fj:(x==("__debug__" :Str))=false:=by decide) (b9:starEach (e::b7) X.env=(false,eval e X.env)::starEach b7 X.env:=by rfl) (e2:(backTo pos (starEach b7 X.env)).any (·.1)=false:=by rfl):
  PE X (.Call (.Name x p) (e::b7) [] pos) (q7 C sp [] E t):=Zm4 D.M (F.mono (qaT bP)) aC bR bL D.b .nil ar bK fj b9 e2
theorem w3(D:Di X.K C q st ci)(F:YE X.prog X.w X.K X.mg X.base CX j D.f D.d ci sp)(aC:ez (k+1) X.A)(bL:X.mg x=some (.ref C))(ar:WC CX X E)(bP:Nat.ble j k=true:=by rfl)(bR:Gl X x:=by rfl)
  (fj:(x==("__debug__" :Str))=false:=by decide):PE X (.Call (.Name x p) [] [] pos) (q7 C sp [] E tNil):=ZlO D.M (F.mono (qaT bP)) aC bR bL D.b .nil ar fj
end
section
variable {X:Cx}
def rDIn:R2:=λy x H Q=>∃a o,x= .ref a/\Us H a y o/\Q (.bl o.isSome) H
def rDNotIn:R2:=λy x H Q=>∃a o,x= .ref a/\Us H a y o/\Q (.bl (!o.isSome)) H
theorem Jv(hu:X.A.units+64<cLine):OpR X (compareOp .In) rDIn:=by
 intro aq s ao H x y v u Q I cy cI h;obtain⟨a,o,rfl,g,q⟩:=h;cases cI;exact ZpH ∅ I g cy λs' ek=>⟨.bl o.isSome,H,ek,rfl,q⟩
theorem BI(hu:X.A.units+64<cLine):OpR X (compareOp .NotIn) rDNotIn:=by
 intro aq s ao H x y v u Q I cy cI h;obtain⟨a,o,rfl,g,q⟩:=h;cases cI;exact ZmS ∅ I g cy λs' ek=>⟨.bl (!o.isSome),H,ek,rfl,q⟩
def rIxD:R2:=λx y H Q=>∃a v,x= .ref a/\Us H a y (some v)/\Q v H
theorem Jw(hu:X.A.units+64<cLine):IxR X rIxD:=by
 intro value slice aq s ao H x y v u Q I cy cI h hs;obtain⟨a,z,rfl,g,q⟩:=h;cases cy;exact tail_any (I0 I g) PySem.F.slot_dict_getitem.lookup (IZ ∅ I g cI λeH s' ek kO=>⟨z,H,ek,kO,q⟩) hs
def rSetD:V->V->V->Hp->(Hp->Prop)->Prop:=λo i v H Q=>∃a bZ,o= .ref a/\Ze7 H a i v bZ/\Q bZ
theorem tX(hu:X.A.units+64<cLine):Zjh X rSetD:=by
 intro aq s ao H o i v dE gP u Q I ro ri dC h;obtain⟨a,bZ,rfl,g,q⟩:=h;cases ro;exact ZkQ ∅ I g ri dC λs' ek=>⟨bZ,ek,q⟩
theorem BJ{P:Program}{w:World}{k:Key}{u:Value}(h:(fQ P w).is k u=true):c4 (kV k) u:=by
 cases k with
 |inl i=>exact Value.isInt_shape h
 |inr x=>exact Value.isStrOf_shape h
theorem w4:∀{xs:List V}{us:List Value},us.length=xs.length->(∀(j:Nat)(v:V)(u:Value),xs[j]? =some v->us[j]? =some u->c4 v u)->cW xs us
 | [],[],_,_=> .nil
 |x::xs,u::us,ap,h=> .cons (h 0 x u rfl rfl) (w4 (by simpa using ap) λj v w bJ bX=>h (j+1) v w (by simpa using bJ) (by simpa using bX))
 | [],_::_,ap,_=>by simp at ap
 |_::_,[],ap,_=>by simp at ap
theorem KV.at{kvs:List (Key×V)}{vs:List (Key×Value)}(r:KV kvs vs):∀{j:Nat}{k:Key}{x:Value},vs[j]? =some (k,x)->∃v,kvs[j]? =some (k,v):=by
 unfold KV at r
 induction r with
 |nil=>intro j k x e;simp at e
 | @cons p q ci qs h t b_=>
  intro j k x e;cases j with
  |zero=>
   simp at e;subst e;have ay:p.1=k:=h.1;exact⟨p.2,by simp[<-ay]⟩
  |succ j=>
   obtain⟨v,z⟩:=b_ (j:=j) (k:=k) (x:=x) (by simpa using e);exact⟨v,by simpa using z⟩
def rListD:List V->Hp->VK->Prop:=λxs H Q=>∃a kvs,xs=[V.ref a]/\H a=some (.dK kvs)/\∀l,H l=none->Q (.ref l) (upd H l (.lst (kvs.map λkv=>kV kv.1)))
theorem Jx(a_:X.calm=true):YL X (.type "list") rListD:=by
 intro aq s ao H xs us Q I r h;obtain⟨a,kvs,rfl,bK,q⟩:=h;obtain⟨u,rfl,fv⟩:=W8 r;cases fv;obtain⟨z,hd,vs,rel,dd⟩:=ZcK I.hok bK;obtain⟨ep,hn⟩:=dd.dictAt;refine PySem.W.kdl_call (PySem.W.kdl_dict (knd:=fQ X.prog X.w) (kvs:=vs) (ep:=ep) hd) (I.ok.hd a_) hn (by rw[<-rel.length];exact z) λh' ce dG c bH tJ rM=>?_;refine⟨.ref s.heap.objs.size,_,I.laid (a:=s.heap.objs.size) (o:= .lst (kvs.map λkv=>kV kv.1)) (t':=ce) bH (qaa _) ⟨by rw[GM];exact z,dG.toList,c,?_,by simpa using tJ⟩,rfl,q _ (I.hok.fresh (qaa _))⟩;refine w4 (by rw[qbL,rM.1,GM,rel.length]) λj v u bJ bX=>?_;obtain⟨k,x,ar,w5⟩:=rM.2 j u (by rw[<-Array.getElem?_toList];exact bX);obtain⟨iM,pJ⟩:=rel.at ar;rw[qao,pJ] at bJ;cases bJ;exact BJ w5
end
section
variable {X:Cx}{aq:List (Addr×Obj)}{ao:List (Option V)}{H aj:Hp}{s:Shared}{h':Heap}
theorem Inv.turnedL{t':Nat}{fp:List Addr}(I:Inv X aq ao H s)(k:∀b o,b∉fp->s.heap.get? b=some o->h'.get? b=some o)(bS:∀b∈fp,hx X aq H b):Inv X aq ao H {s with heap:=h',toks:=t'}:=by
 have qT:∀b u,H b=some u->b∉fp:=λb u e z=>by rw[(bS b z).1] at e;cases e
 refine I.step (g':=s.gens) (d':=s.drawn) (ch:=fp) (λb au=>?_) (λb o _ _ a_ e _=>k b o a_ e) (λb o _ _ a_ e _=>⟨o.slots,k b o a_ e⟩) (λ_ _ _ _ n=>n)
  (λb o a_ e=>⟨o,k b o a_ e⟩) (λ_ _ e=>e) (λ_ _ _ e=>e) (λb ci e=>⟨#[],by rw[e];simp⟩) (λm bL=>?_) (λb u e=>?_) I.bare
 .obtain⟨ea,f1,f2,da,eN,dQ⟩:=bS b au;exact⟨da,f1,eN,dQ⟩
 .obtain⟨o,b7,ep,b6,r⟩:=bL;exact⟨o,b7,ep,k _ o (λz=>(bS _ z).2.1 rfl) b6,r⟩
 .refine(I.hok b u e).stay (λc v a_ q=>k c v ?_ q) (λ_ q=>q) λ_ _ q=>q;rcases a_ with z|z
  .rw[z];exact qT b u e
  .exact qT c _ z
theorem Inv.turnedNew{t':Nat}{fp:List Addr}{T:Addr}{o:HO}(I:Inv X aq ao H s)(k:∀b o,b∉fp->s.heap.get? b=some o->h'.get? b=some o)(bS:∀b∈fp,hx X aq H b)(bO:s.heap.objs.size<=T)(new:Z3 X.prog X.w (upd H T o) h' T o):
  Inv X aq ao (upd H T o) {s with heap:=h',toks:=t'}:=by
 have J:Inv X aq ao H {s with heap:=h',toks:=t'}:=I.turnedL k bS;have b':=I.hok.fresh bO;obtain⟨ea,f1,f2,da,eN,dQ⟩:=I.fpOk bO b';refine Inv.step (s:={s with heap:=h',toks:=t'}) (h':=h') (g':=s.gens) (d':=s.drawn) (t':=t') (ch:=[T]) J (λb au=>?_) (λb o _ _ a_ e _=>e) (λb o _ _ a_ e _=>⟨o.slots,e⟩) (λb o a_ e n=>?_)
  (λb o a_ e=>⟨o,e⟩) (λb xs e=>?_) (λb o u e=>?_) (λb ci e=>⟨#[],?_⟩) (λm bL=>bL) (λb u e=>?_) I.bare
 .have e:b=T:=by simpa using au
  subst e;exact⟨da,f1,eN,dQ⟩
 .rw[b3 (λz=>a_ (by simp[z]))];exact n
 .rw[b3 (dh e b')];exact e
 .rw[b3 (dh e b')];exact e
 .rw[b3 (dh e b')];simpa using e
 .by_cases au:b=T
  .subst au;rw[Ze] at e;cases e;exact new
  .rw[b3 au] at e;exact(J.hok b u e).stay (λc v _ q=>q) (λc q=>by rw[b3 (dh q b')];exact q) λc xs q=>by rw[b3 (dh q b')];exact q
end
noncomputable def Ite (K:Frag) (a:Addr):It:=
 ⟨λi H=>∃xs x,SqL K H a xs/\xs[i]? =some x,λi H v aj=>∃t x,H t=none/\v= .ref t/\aj=upd H t (.tup [.int i,x])/\∀xs,SqL K H a xs->xs[i]? =some x,λi H=>∃xs,SqL K H a xs/\xs.length<=i⟩
theorem Jy{P:Program}{w:World}{K:Frag}{iY:List Expr}{k1:Nat}{pos:Pos}(a e it:Addr)(BK:e≠it):V2 P w K (.Tuple iY k1 pos) (Ite K a) [e,it] e (λi h=>(∃jC,IsEnum h e it i jC)/\h.IsListIter it a i) where
 mem:=by simp
 obj:=λi h st b au=>by
  obtain⟨⟨jC,b9⟩,o,ay,aD,cj⟩:=st;rcases qaf.mp au with rfl|au
  .exact⟨_,b9,λv z=>by
    have gY:Data.fields _=Data.cell v:=z;cases gY⟩
  .rw[qab.mp au];exact⟨o,ay,λv z=>by rw[cj] at z;cases z⟩
 keep:=λi h h' st k=>⟨let⟨jC,b9⟩:=st.1;⟨jC,k e (by simp) _ b9⟩,st.2.at λo q=>k it (by simp) o q⟩
 item:=by
  intro X dv hw hK a_ i aq s ao H E I bS st bR;subst dv hw hK;obtain⟨xs,x,cC,ar⟩:=bR;obtain⟨its,dC,p,bU⟩:=I.list cC;obtain⟨u,hu,fv⟩:=dC.get ar;obtain⟨⟨jC,b9⟩,jN⟩:=st;refine wpAny_pyNext_enum_item b9 jN p.isList (x:=u) (by simpa using hu) BK λh' b6 hit' c1 hsz bH=>?_;have fq:=I.hok.fresh (qaa s.heap.objs.size);have BL:e<s.heap.objs.size:=Heap.lt_size b9;have tY:it<s.heap.objs.size:=by obtain⟨_,y,_⟩:=jN;exact Heap.lt_size y
  refine⟨_,rfl,wpAny_letOwnedTupleGo_enum b6 λaD oz fa=>?_⟩;have lG:aD.get? s.heap.objs.size=some {cls:= .type "tuple",data:= .seq #[.int i s.toks,u]}:=fa.extBut _ _ (qbW BL) c1;have bT:Inv X aq ao (upd H s.heap.objs.size (.tup [.int i,x])) {s with heap:=aD,toks:=s.toks+1}:=
   I.turnedNew (fp:=[e,it]) (λb o au q=>by
    have eK:b≠e:=λz=>au (by simp[z]);have fL:b≠it:=λz=>au (by simp[z]);exact fa.extBut b o eK (bH b o eK fL q)) bS (qaa _) ⟨by show 2<=sizeLine;decide,[.int i s.toks,u],.cons ⟨_,rfl⟩ (.cons fv .nil),_,lG,rfl,_,rfl⟩
  refine⟨.ref s.heap.objs.size,_,bT,rfl,⟨_,x,fq,rfl,rfl,λys bW=>by rw[I.list_inj bW cC];exact ar⟩,⟨⟨_,oz⟩,hit'.at λo q=>fa.extBut _ _ BK.symm q⟩,λb au=>?_⟩;have mL:b≠s.heap.objs.size:=by
   rcases qaf.mp au with rfl|au
   .exact qas BL
   .rw[qab.mp au];exact qas tY
  rw[b3 mL];exact(bS b au).1
 done:=by
  intro X dv hw hK a_ i aq s ao H E I bS st bR;subst dv hw hK;obtain⟨xs,cC,ar⟩:=bR;obtain⟨its,dC,p,bU⟩:=I.list cC;obtain⟨⟨jC,b9⟩,jN⟩:=st;have ap:=dC.length;exact wpAny_pyNext_enum_end (I.ok.hd a_) b9 jN p.isList (by simp;omega) λh' c7=>⟨rfl,I.turnedL (t':=s.toks) (fp:=[e,it]) (λb o au q=>c7 b o (λz=>au (by simp[z])) q) bS⟩
 self:=λ_ _ _ _ _ st h=>wpAny_pyIter_enum st.1.choose_spec h
section
variable {X:Cx}
def BM (K:Frag) (cp:TA):TI:=λao H R=>cp ao H λvs aA=>∃a,vs=[.ref a]/\(∃xs,SqL K aA a xs)/\R (Ite K a) aA
theorem kh{K:Frag}{a:Expr}{cp:TA}{p pos kI:Pos}{iY:List Expr}{k1:Nat}(fF:X.K=K)(bR:Gl X "enumerate")(bL:X.mg "enumerate" =none)(bK:PA X [a] cp)(hs:starEach [a] X.env=[(false,eval a X.env)]:=by rfl):
  PI X (.Tuple iY k1 kI) (.Call (.Name "enumerate" p) [a] [] pos) (BM K cp):=by
 subst fF;intro aq s ao H R I h;refine Call_ (ly I bR bL boot_enumerate (qaQ (thn (bK pos aq s ao H _ I h) λus a' ⟨vs,aA,bT,cE,cJ⟩=>?_) hs rfl));obtain⟨b,rfl,⟨xs,cC⟩,q⟩:=cJ;obtain⟨u,rfl,fv⟩:=W8 cE;cases fv;obtain⟨its,dC,pl,bU⟩:=bT.list cC;refine call_enumerate_list pl.isList λh' b9 jN hsz bH=>?_;refine wpAny_pyIter_enum b9 ?_;have cU:Inv X aq ao aA {a' with heap:=h'}:=bT.kept (t':=a'.toks) bH;refine⟨a'.heap.objs.size+1,[a'.heap.objs.size+1,a'.heap.objs.size],_,_,aA,rfl,cU,Jy b _ _ (Nat.succ_ne_self _),⟨⟨_,b9⟩,jN⟩,λc a_=>?_,q⟩;rcases qaf.mp a_ with rfl|a_
 .exact bT.fpOk (Nat.le_succ _) (bT.hok.fresh (Nat.le_succ _))
 .rw[qab.mp a_];exact bT.fpOk (qaa _) (bT.hok.fresh (qaa _))
end
def rLenD:List V->Hp->VK->Prop:=λxs H Q=>∃a kvs,xs=[V.ref a]/\H a=some (.dK kvs)/\Q (.int kvs.length) H
theorem Zjf{X:Cx}:YL X (.builtin "len") rLenD:=I6
noncomputable def ny (n:Nat) (ix:List Nat) (ao:St):St:=List.replicate n none++ix.map λj=>(ao[j]?).join
def w6 (n:Nat) (ix:List Nat) (e1:TI) (g:TG) (dP:TT) (cM:TE):TE:=λao H Q=>e1 ao H λJ aA=>∀p,aA p=none->
 ∃W:Nat->Nat->List V->St->Hp->Prop,(∃m,W 0 m [] (ny n ix ao) (upd aA p (.lst [])))/\∀i m ys b1 aj,W i m ys b1 aj->
  (J.stop i aj/\Q (.ref p) aj)\/(J.go i aj/\∀x aP,J.yld i aj x aP->g x b1 aP λcx b5=>dP cx b5 λb bZ=>
   if b=true then cM cx bZ λv b4=>b4 p=some (.lst ys)/\ys.length<sizeLine/\∃cH,cH<m/\W (i+1) cH (ys++ [v]) cx (upd b4 p (.lst (ys++ [v])))
   else ∃cH,cH<m/\W (i+1) cH ys cx bZ)
section
variable {X:Cx}
theorem Zh1{aq:List (Addr×Obj)}{ao:St}{H:Hp}{s:Shared}{cf:Scope}{x:Str}{xs:List Str}{zs:List Str}{ix:List Nat}{cl:List (Str×Addr)}{fp:List Addr}{h₁:Heap}{ce:Nat}
  (S:Wg X cf x zs ix) (I:Inv X aq ao H s) (f6:∀y c,cl.lookup y=some c->X.env.cells.lookup y=some c) (h7:∀y,(y,NameKind.free)∈cf.names->∃c,cl.lookup y=some c)
  (j':∀b∈fp,hx X aq H b/\b<s.heap.objs.size) (pN:h₁.Ns s.heap.objs.size λ_=>none) (bH:∀b o,s.heap.get? b=some o->h₁.get? b=some o):
  Inv (Zr X cf cl s.heap.objs.size (xs++zs) s H fp) [] (ny xs.length ix ao) H {s with heap:=h₁,toks:=ce}:=by
 have sub:∀b∈frs X.stack,b∈X.env.locals::X.fs:=I.stkSub;have wy:∀b∈fp,b∉frs X.stack:=λb au z=>by
  obtain⟨⟨_,f1,f2,_⟩,_⟩:=j' b au;rcases qaf.mp (sub b z) with e|e
  .exact f1 e
  .exact f2 e
 have cut:∀y,(Zr X cf cl s.heap.objs.size (xs++zs) s H fp).env.kindOf y=some .cell\/(Zr X cf cl s.heap.objs.size (xs++zs) s H fp).env.kindOf y=some .free->∃c,cl.lookup y=some c:=λy bW=>by
  have q:∃k,(relabel cf X.env).names.lookup y=some k/\(k= .cell\/k= .free):=by
   rcases bW with bW|bW
   .exact⟨_,bW,.inl rfl⟩
   .exact⟨_,bW,.inr rfl⟩
  obtain⟨k,e,bH⟩:=q;obtain⟨k',cv,q⟩:=WV e;have:k'= .free:=by
   rcases q with q|⟨q,_⟩
   .rcases bH with z|z
    .exact absurd (q.symm.trans z) (S.nocell _ (nr cv))
    .exact q.symm.trans z
   .exact q
  subst this;exact h7 y (nr cv)
 refine⟨⟨I.ok.mod,S.kind,I.ok.glob,I.ok.blt,qaa _,λy z c ay aD=>I.ok.inj y z c (f6 _ _ ay) (f6 _ _ aD),cut,λy c bS _=>?_,I.ok.hd,I.ok.frames,.inl rfl,λb au=>?_,I.bs,qap I.ok.bsz I.sz,λb o e au=>?_,wy,I.stack,I.stkFree⟩,
  rfl,I.bare,Un.kept bH,⟨_,pN,λi y v ay aD cj=>?_⟩,λy c h=>?_,I.hok.fresh (qaa _),λy c h=>I.freeC y c (f6 y c h),λp bO=>absurd (show p∈([]:List (Addr×Obj)) from bO) (by simp),I.hok.kept bH,?_⟩
 .exact absurd (show false=true from bS) (by decide)
 .obtain⟨⟨ea,f1,f2,da,eN,dQ⟩,ap⟩:=j' b au;exact⟨qas ap,λy c h=>eN y c (f6 y c h)⟩
 .obtain⟨⟨ea,f1,f2,da,eN,dQ⟩,ap⟩:=j' b au;rcases da with z|z
  .exact I.ok.noex b o e z
  .exact absurd (qae (Heap.lt_size e) (qap I.ok.bsz z)) (qby _)
 ·
  have dY:xs.length<=i:=by
   rcases qcc i xs.length with z|z
   .have g9:(List.replicate xs.length none++ix.map λj=>(ao[j]?).join)[i]? =some (some v):=aD;rw[qaZ (by rw[qa8];exact z),List.getElem?_replicate,if_pos z] at g9;cases g9
   .exact z
  .obtain⟨i,rfl⟩:∃mH,i=xs.length+mH:=⟨i-xs.length,∅⟩;have ka:zs[i]? =some y:=by
    have ka:(xs++zs)[xs.length+i]? =some y:=ay;rw[qaS (qch _ _),Nat.add_sub_cancel_left] at ka;exact ka
   have g9:(ix.map λj=>(ao[j]?).join)[i]? =some (some v):=by
    have g9:(List.replicate xs.length none++ix.map λj=>(ao[j]?).join)[xs.length+i]? =some (some v):=aD;rw[qaS (by rw[qa8];exact qch _ _),qa8,Nat.add_sub_cancel_left] at g9;exact g9
   have bK:(ix.map λj=>X.N[j]?)[i]? =some (some y):=by rw[S.at_,qao,ka];rfl
   rw[qao] at g9 bK;cases e:ix[i]? with
   |none=>rw[e] at g9;cases g9
   |some j=>
    rw[e] at g9 bK;have em:X.N[j]? =some y:=qaC bK;have bP:(ao[j]?).join=some v:=qaC g9;have wz:ao[j]? =some (some v):=by
     cases q:ao[j]? with
     |none=>rw[q] at bP;cases bP
     |some o=>rw[q] at bP;exact congrArg some bP
    obtain⟨m,b',ap⟩:=I.loc;have fq:=S.zfree y (qau ka);have oi:=S.free _ (nr fq) rfl;have cz:Vis X.env.scope y:=by
     rcases oi with z|z
     .exact .inr (.inl z)
     .exact .inr (.inr z)
    obtain⟨u,r,q⟩:=ap j y v em wz cz;refine⟨u,r,?_⟩;rcases q with⟨wA,_⟩|⟨_,c,a_,nf⟩
    .have re:X.env.kindOf y=some .local:=wA;rcases oi with z|z<;>(rw[z] at re;cases re)
    .obtain⟨d7,ml⟩:=h7 y (nr fq);have j_:d7=c:=by have:=f6 y d7 ml;rw[a_] at this;exact(qaC this).symm
     subst j_;refine .inr ⟨?_,d7,ml,?_⟩
     .have wB:Vis (relabel cf X.env) y:=cj;rcases wB with z|z|z
      .obtain⟨k',cv,q⟩:=WV z;rw[fq] at cv;cases cv;rcases q with q|⟨_,q⟩<;>cases q
      .exact .inl z
      .exact .inr z
     .obtain⟨o,b6,hd⟩:=nf;exact⟨o,bH _ _ b6,hd⟩
 .obtain⟨v,o,b6,hd⟩:=I.cell y c (f6 y c h);exact⟨v,o,bH _ _ b6,hd⟩
 .show(List.replicate xs.length none++ix.map λj=>(ao[j]?).join).length=(xs++zs).length;have:=congrArg List.length S.at_;simp only[GM] at this;simp only[qag,qa8,GM,this]
theorem Zc7{aq:List (Addr×Obj)}{ao:St}{H:Hp}{s:Shared}{cf:Scope}{x:Str}{xs:List Str}{zs:List Str}{ix:List Nat}{cl:List (Str×Addr)}{fp:List Addr}{it:Addr}{d1:Nat->Heap->Prop}{J:It}
  {fT c5 eM:Expr} {ifs:List Expr} {pos:Pos} {g:TG} {dP:TT} {cM:TE} {Q:VK} {E:Value->Shared->Prop} {RR:Value->Addr->Result->Shared->Prop}
  (a_:X.calm=true) (S:Wg X cf x zs ix) (I:Inv X aq ao H s) (f6:∀y c,cl.lookup y=some c->X.env.cells.lookup y=some c) (h7:∀y,(y,NameKind.free)∈cf.names->∃c,cl.lookup y=some c)
  (T:V2 X.prog X.w X.K c5 J fp it d1) (st:d1 0 s.heap) (j':∀b∈fp,hx X aq H b)
  (hz:∀C s H,PG (Zr X cf cl C (xs++zs) s H fp) c5 g/\PIf (Zr X cf cl C (xs++zs) s H fp) ifs dP/\PE (Zr X cf cl C (xs++zs) s H fp) fT cM)
  (cC:∀p,H p=none->∃W:Nat->Nat->List V->St->Hp->Prop,(∃m,W 0 m [] (ny xs.length ix ao) (upd H p (.lst [])))/\∀i m ys b1 aj,W i m ys b1 aj->
   (J.stop i aj/\Q (.ref p) aj)\/(J.go i aj/\∀x aP,J.yld i aj x aP->g x b1 aP λcx b5=>dP cx b5 λb bZ=>
    if b=true then cM cx bZ λv b4=>b4 p=some (.lst ys)/\ys.length<sizeLine/\∃cH,cH<m/\W (i+1) cH (ys++ [v]) cx (upd b4 p (.lst (ys++ [v])))
    else ∃cH,cH<m/\W (i+1) cH ys cx bZ))
  (db:∀dG C f s',Bn X aq ao Q dG C s'->RR dG C (.ok f) s'):
  wpAny (model X.prog X.w) X.A (newList []) (λdG iO=>wpAny (model X.prog X.w) X.A (newFunctionEnv cf X.env.globals cl [] X.env.qual none .none (some X.env)) (λrf pQ=>
   codeAny (model X.prog X.w) X.A (.compStart (.ListComp fT [⟨c5,eM,ifs,0⟩] cf pos) 0 (.ref it) dG {rf with scope:=relabel cf X.env}) (RR dG rf.locals) pQ) E iO) E s:=by
 refine wpAny_newObj_type (wpAny_newFunctionEnv S.nocell (by intro y bW;simp at bW) (λh₁ hns₁ rh=>?_) S.kind);have d_:Inv X aq ao (upd H s.heap.objs.size (.lst [])) {s with heap:=s.heap.push {cls:= .type "list",dict:=none,data:= .seq ([]:List Value).toArray}}:=I.lnew (its:=[]) (ys:=[]) (t':=s.toks) .nil (qar _);dsimp only at hns₁ rh|-;obtain⟨W,⟨mu,ey⟩,turn⟩:=cC s.heap.objs.size (I.hok.fresh (qaa _));have lt:∀b∈fp,b<s.heap.objs.size:=λb au=>by
  obtain⟨o,e,_⟩:=T.obj 0 s.heap st b au;exact Heap.lt_size e
 have up:∀b∈fp,∀o,(upd H s.heap.objs.size o) b=H b:=λb au o=>b3 (qas (lt b au));have kp:∀b o,(s.heap.push {cls:= .type "list",dict:=none,data:= .seq ([]:List Value).toArray}).get? b=some o->h₁.get? b=some o:=λb o e=>
  rh.extBut b o (qas (Heap.lt_size e)) (Heap.get?_push_of_some _ e)
 have da:∀b∈fp,hx X aq (upd H s.heap.objs.size (.lst [])) b/\b<(s.heap.push {cls:= .type "list",dict:=none,data:= .seq ([]:List Value).toArray}).objs.size:=λb au=>by
  obtain⟨nt,q⟩:=j' b au;refine⟨⟨(up b au _).trans nt,q⟩,?_⟩;rw[Heap.size_push];exact Nat.lt_succ_of_lt (lt b au)
 generalize ot:({s with heap:=s.heap.push {cls:= .type "list",dict:=none,data:= .seq ([]:List Value).toArray}}:Shared)=bV at d_;have rj:s.heap.push {cls:= .type "list",dict:=none,data:= .seq ([]:List Value).toArray}=bV.heap:=by rw[<-ot]
 rw[rj] at kp da hns₁|-;have jF:d1 0 h₁:=T.keep 0 _ _ st λb _ o e=>kp b o (by rw[<-rj];exact Heap.get?_push_of_some _ e);have mB:Inv (Zr X cf cl bV.heap.objs.size (xs++zs) bV (upd H s.heap.objs.size (.lst [])) fp) [] (ny xs.length ix ao) (upd H s.heap.objs.size (.lst [])) {bV with heap:=h₁,toks:=bV.toks}:=
  Zh1 S d_ f6 h7 da hns₁ kp
 obtain⟨bR,wC,b9⟩:=hz bV.heap.objs.size bV (upd H s.heap.objs.size (.lst []));have ou:∀{aj:Hp},(∀b∈fp,aj b=none)->∀b∈fp,hx (Zr X cf cl bV.heap.objs.size (xs++zs) bV (upd H s.heap.objs.size (.lst [])) fp) [] aj b:=λ{aj} b' b au=>
  ⟨b' b au,(mB.ok.exf b au).1,mB.ok.exfs b au,.inl au,(mB.ok.exf b au).2,λp bO=>absurd (show p∈([]:List (Addr×Obj)) from bO) (by simp)⟩
 have rk:∀cd:Shared,cd={bV with heap:=h₁,toks:=bV.toks}->
   codeAny (model X.prog X.w) X.A (.compLoop (.ListComp fT [⟨c5,eM,ifs,0⟩] cf pos) 0 (.ref it) (.ref s.heap.objs.size) (compEnvC cf cl bV.heap.objs.size X.env)) (RR (.ref s.heap.objs.size) bV.heap.objs.size) cd:=by
  rintro cd rfl;refine ZbY (λn s'=>∃i ys b1 aj,Inv (Zr X cf cl bV.heap.objs.size (xs++zs) bV (upd H s.heap.objs.size (.lst [])) fp) [] b1 aj s'/\d1 i s'.heap/\(∀b∈fp,aj b=none)/\W i n ys b1 aj) ?_ mu
   ⟨0,[],ny xs.length ix ao,_,mB,jF,λb au=>(da b au).1.1,ey⟩
  rintro n cB ⟨i,ys,mC,b4,iP,jG,gQ,pR⟩;rcases turn i n ys mC b4 pR with⟨stop,od⟩|⟨go,step⟩
  .refine thn (T.done (Zr X cf cl bV.heap.objs.size (xs++zs) bV (upd H s.heap.objs.size (.lst [])) fp) rfl rfl rfl a_ i [] cB mC b4 _ iP (ou gQ) jG stop) λr c8 ⟨aC,g0⟩=>?_;subst aC;obtain⟨rl,wD,_⟩:=g0.loc;refine db _ _ _ _ ⟨s.heap.objs.size,b4,rl,rfl,wD,?_,d_.fpOk (qaa _) g0.free,od⟩;exact d_.call' g0.os g0.base g0.hok g0.bare λb au=>by
    obtain⟨⟨ea,f1,f2,da,eN,dQ⟩,_⟩:=da b au;exact⟨da,f1,eN,dQ⟩
  .refine thn (T.item (Zr X cf cl bV.heap.objs.size (xs++zs) bV (upd H s.heap.objs.size (.lst [])) fp) rfl rfl rfl a_ i [] cB mC b4 _ iP (ou gQ) jG go) λr c8 ⟨u,aC,dq⟩=>?_;subst aC;refine thn dq λ_ d5 ⟨x7,di,h2,q3,wE,jL,mD⟩=>?_;have wF:=h2.pinned (ou mD) (T.obj _ _ jL);refine thn (bR _ d5 mC di x7 u _ wF q3 (step x7 di wE)) λ_ d2 ⟨ov,eJ,rn,rp⟩=>?_;refine thn (wC _ d2 ov eJ _ rn rp) λb fE ⟨hj,rq,kQ⟩=>?_;have again:∀{ow:List V}{b1:St}{aj:Hp}{cH:Nat}{s':Shared},Inv (Zr X cf cl bV.heap.objs.size (xs++zs) bV (upd H s.heap.objs.size (.lst [])) fp) ([]++ZaJ fp d5.heap) b1 aj s'->W (i+1) cH ow b1 aj->cH<n->
     ∃m,m<n/\∃i ys b1 aj,Inv (Zr X cf cl bV.heap.objs.size (xs++zs) bV (upd H s.heap.objs.size (.lst [])) fp) [] b1 aj s'/\d1 i s'.heap/\(∀b∈fp,aj b=none)/\W i m ys b1 aj:=λ{ow b1 aj cH s'} Iz kR bL=>by
    refine⟨cH,bL,i+1,ow,b1,aj,Iz.unpinned,T.keep _ _ _ jL λb au o e=>(Iz.pin (b,o) (qaw _ (qaw _ (pI au e)))).1,λb au=>?_,kR⟩;obtain⟨o,e,d⟩:=T.obj _ _ jL b au;exact(Iz.pin (b,o) (qaw _ (qaw _ (pI au e)))).2.1
   cases b with
   |false=>
    rw[if_neg qam] at kQ|-;obtain⟨cH,bL,kR⟩:=kQ;exact again rq kR bL
   |true=>
    rw[if_pos rfl] at kQ|-;refine thn (b9 _ fE ov hj _ rq kQ) λv wG ⟨y,rr,wH,wI,ap,bU,cH,bL,kR⟩=>?_;refine thn (iy _ wG ov rr (.ref s.heap.objs.size) [y] (.ref s.heap.objs.size) [v] (λz aj=>z= .non/\aj=upd rr s.heap.objs.size (.lst (ys++ [y]))) wH rfl (.cons wI .nil) ⟨_,ys,y,rfl,rfl,ap,bU,rfl,rfl⟩) λ_ I9 ⟨z,I_,wJ,_,_,hk⟩=>?_;subst hk;exact again wJ kR bL
 exact codeAny_compStart_list (rk _ (by subst ot;rfl)) (T.self _ 0 _ _ _ jF (rk _ (by subst ot;rfl)))
theorem ho{fT c5 eM:Expr}{ifs:List Expr}{cf:Scope}{pos:Pos}{x:Str}{xs:List Str}{zs:List Str}{ix:List Nat}{e1:TI}{g:TG}{dP:TT}{cM:TE}
  (a_:X.calm=true) (S:Wg X cf x zs ix) (hi:PI X c5 eM e1)
  (hz:∀cl C s H fp,PG (Zr X cf cl C (xs++zs) s H fp) c5 g/\PIf (Zr X cf cl C (xs++zs) s H fp) ifs dP/\PE (Zr X cf cl C (xs++zs) s H fp) fT cM)
  (hs:∀x,foldedSetIterable eM X.env x=pure x:=by intro _;rfl):
  PE X (.ListComp fT [⟨c5,eM,ifs,0⟩] cf pos) (w6 xs.length ix e1 g dP cM):=by
 intro aq s ao H Q I h;obtain⟨cl,ox,f6,h7⟩:=VY I.ok S;rw[eval_ListComp];refine wpAny_comprehension_free (use:=none) rfl hs ox S.kind S.names (thn (hi aq s ao H _ I h) λv a' ay=>thn ay λpH bQ aD=>?_);obtain⟨it,fp,d1,J,aP,e,cU,T,jE,f2,cC⟩:=aD;subst e;refine Zc7 (RR:=λdG C=>compPost (model X.prog X.w) X.A X.xe none (EP X aq ao Q) dG C) a_ S cU f6 h7 T jE f2 (λC s H=>hz cl C s H fp) cC λdG C f s' h=>?_;obtain⟨p,aj,m,rfl,bL,ek,⟨eh,g1,g2,g3,je,kb⟩,q⟩:=h;exact⟨m,bL,λh' au=>⟨.ref p,aj,ek.turned (t':=s'.toks) (λb o jf e=>(au.2 b jf).trans e) eh g1 g3 je kb,rfl,q⟩⟩
theorem Jz{fT c5 eM:Expr}{ifs:List Expr}{cf:Scope}{pos py rv:Pos}{x y:Str}{xs:List Str}{zs:List Str}{ix:List Nat}{e1:TI}{g:TG}{dP:TT}{cM:TE}{j:Nat}
  (a_:X.calm=true) (S:Wg X cf x zs ix) (hi:PI X c5 eM e1)
  (hz:∀cl C s H fp,PG (Zr X cf cl C (xs++zs) s H fp) c5 g/\PIf (Zr X cf cl C (xs++zs) s H fp) ifs dP/\PE (Zr X cf cl C (xs++zs) s H fp) fT cM)
  (eV:X.N.Nodup) (bP:X.N[j]? =some y) (bW:Loc X.env.scope y)
  (tP:swapsWith (.ListComp fT [⟨c5,eM,ifs,0⟩] cf pos) (some (.Name y py)) rv.line X.env=pure true:=by rfl)
  (bS:X.fn y=true\/X.env.scope.names.lookup y=some .local:=by first|exact .inl rfl|exact .inr rfl|assumption)
  (hs:∀x,foldedSetIterable eM X.env x=pure x:=by intro _;rfl):
  PS X (.Assign [.Name y py] (.ListComp fT [⟨c5,eM,ifs,0⟩] cf pos) rv) (qW (w6 xs.length ix e1 g dP cM) (UE j)):=by
 intro aq s ao H D I h;obtain⟨cl,ox,f6,h7⟩:=VY I.ok S;rw[exec_Assign_Name_used _ _ _ _ tP];refine wpAny_bind (wpAny_standAt (wpAny_bind ?_));show wpAny _ X.A (do let _<-comprehension (.ListComp fT [⟨c5,eM,ifs,0⟩] cf pos) cf X.env _ (newList []) false (eval eM X.env) (some (assign (.Name y py) X.env))) _ _ s;refine wpAny_bind (wpAny_mono (wpAny_comprehension_free (use:=some (assign (.Name y py) X.env)) (Q:=λ_ s'=>SP X aq D .next s') rfl hs ox S.kind S.names
  (thn (hi aq s ao H _ I h) λv a' ay=>thn ay λpH bQ aD=>?_)) (λ_ s' cC=>wpAny_pure (wpAny_pure cC)) λ_ _ e=>e)
 obtain⟨it,fp,d1,J,aP,e,cU,T,jE,f2,cC⟩:=aD;subst e;refine Zc7 (Q:=λx aA=>UE j x ao aA D.nx) (RR:=λdG C=>compPost (model X.prog X.w) X.A X.xe (some (assign (.Name y py) X.env)) (λ_ s'=>SP X aq D .next s') dG C) a_ S cU f6 h7 T jE f2 (λC s H=>hz cl C s H fp) cC λdG C f s' h=>?_;obtain⟨p,aj,m,rfl,bL,ek,⟨eh,g1,g2,g3,je,kb⟩,q⟩:=h;show wpAny _ X.A (assign (.Name y py) X.env (.ref p)) _ _ _;refine wpAny_assign_Name (v0 ek eV bP bW (show c4 (.ref p) (.ref p) from rfl) (λoh I'' ⟨c,mE,n7⟩=>?_) bS);have jf:C≠c:=by
  rcases n7 with z|z
  .rw[z];exact g1
  .exact qaY (je _ _ z)
 exact⟨m,bL.sameBut mE jf,λh' au=>⟨_,aj,I''.turned (t':=oh.toks) (λb o jf e=>(au.2 b jf).trans e) eh g1 g3 je kb,q⟩⟩
end
structure VW(J:It)(n:Nat)(y:Nat->Hp->V->Hp->Prop)(H:Hp):Prop where
 go:∀aj i,Zd H aj->i<n->J.go i aj
 yld:∀aj i x aP,Zd H aj->i<n->J.yld i aj x aP->y i aj x aP
 stop:∀aj,Zd H aj->J.stop n aj
theorem Walks.y{J:It}{n:Nat}{f:Nat->V}{H:Hp}(w:Walks J n f H):VW J n (λi aj v aP=>aP=aj/\v=f i) H:=⟨w.go,w.yld,w.stop⟩
theorem ki{K:Frag}{a:Addr}{xs:List V}{H:Hp}(h:SqL K H a xs):VW (Ite K a) xs.length (λi aj v aP=>∃t,aj t=none/\v= .ref t/\aP=upd aj t (.tup [.int i,xs.getD i .non])) H:=
 ⟨λaj i e hi=>⟨xs,xs[i],e.seq h,by simp[hi]⟩,λaj i x aP e hi ⟨t,z,bY,cz,aD,bU⟩=>⟨t,bY,cz,by
  have:=bU xs (e.seq h);rw[aD];simp[List.getD,this]⟩,λaj e=>⟨xs,e.seq h,qaa _⟩⟩
theorem Z2{own:Nat}{ix:List Nat}{g:TG}{dP:TT}{cM:TE}{Q:Addr->Hp->Prop}{ao:St}{H:Hp}{J:It}{n:Nat}{y:Nat->Hp->V->Hp->Prop}(w:VW J n y H)(b':n<sizeLine)(s:Nat->List (Option V))(hs:∀i,(s i).length=own)(c:Nat->Bool)(R:Nat->V->Hp->Prop)
  (mono:∀i v aA aP,Zd aA aP->R i v aA->R i v aP)
  (bR:∀i a aj v aP (f7:St->Hp->Prop),i<n->Zd H aj->y i aj v aP->a.length=own->(∀b5,Zd aj b5->f7 (s i++ix.map λj=>(ao[j]?).join) b5)->g v (a++ix.map λj=>(ao[j]?).join) aP f7)
  (a_:∀i aj (cQ:Bool->Hp->Prop),i<n->Zd H aj->(∀bZ,Zd aj bZ->cQ (c i) bZ)->dP (s i++ix.map λj=>(ao[j]?).join) aj cQ)
  (b9:∀p i aj (cQ:VK),i<n->c i=true->H p=none->(∃ys,aj p=some (.lst ys))->Zd H aj->(∀v b4,Zd aj b4->R i v (hid b4 p)->cQ v b4)->cM (s i++ix.map λj=>(ao[j]?).join) aj cQ)
  (q:∀p aj ys,H p=none->Zd H aj->aj p=some (.lst ys)->Paired (λi v=>R i v (hid aj p)) ((List.range n).filter c) ys->Q p aj):
  ∀p,H p=none->∃W:Nat->Nat->List V->St->Hp->Prop,(∃m,W 0 m [] (ny own ix ao) (upd H p (.lst [])))/\∀i m ys b1 aj,W i m ys b1 aj->
   (J.stop i aj/\Q p aj)\/(J.go i aj/\∀x aP,J.yld i aj x aP->g x b1 aP λcx b5=>dP cx b5 λb bZ=>
    if b=true then cM cx bZ λv b4=>b4 p=some (.lst ys)/\ys.length<sizeLine/\∃cH,cH<m/\W (i+1) cH (ys++ [v]) cx (upd b4 p (.lst (ys++ [v])))
    else ∃cH,cH<m/\W (i+1) cH ys cx bZ):=by
 intro p bO;have BN:∀{aA aP:Hp},Zd aA aP->Zd (hid aA p) (hid aP p):=λ{aA aP} e b o z=>by
  by_cases h:b=p
  .rw[h,rH] at z;cases z
  .rw[U3 h] at z|-;exact e b o z
 have BO:∀{aA:Hp}{o:HO},Zd (hid aA p) (hid (upd aA p o) p):=λ{aA o} b u z=>by
  by_cases h:b=p
  .rw[h,rH] at z;cases z
  .rw[U3 h] at z|-;rw[b3 h];exact z
 refine⟨λi m ys b1 aj=>m=n-i/\i<=n/\(∃a,a.length=own/\b1=a++ix.map λj=>(ao[j]?).join)/\Zd H aj/\aj p=some (.lst ys)/\Paired (λi v=>R i v (hid aj p)) ((List.range i).filter c) ys,
  ⟨n,by simp,qar _,⟨List.replicate own none,qa8,rfl⟩,cF bO,Ze,.nil⟩,?_⟩
 rintro i m ys b1 aj ⟨rfl,hi,⟨a,bK,rfl⟩,bI,bW,ap⟩
 by_cases dw:i<n
 .refine .inr ⟨w.go aj i bI dw,λx aP rN=>?_⟩;have dY:ys.length<=i:=by
   rw[<-Paired.length ap];exact qap (qbE _ _) (by simp)
  refine bR i a aj x aP _ dw bI (w.yld aj i x aP bI dw rN) bK λb5 bV=>?_;refine a_ i b5 _ dw (bI.trans bV) λbZ cd=>?_;have oy:=(bI.trans bV).trans cd;have pT:=cd _ _ (bV _ _ bW);have step:(List.range (i+1)).filter c=(List.range i).filter c++(if c i=true then[i] else[]):=by
   rw[qbr,qbP]
   congr 1
   by_cases h:c i=true<;>simp[h]
  have ji:Paired (λi v=>R i v (hid bZ p)) ((List.range i).filter c) ys:=Paired.mapP ap λ_ _ z=>mono _ _ _ _ (BN (bV.trans cd)) z
  by_cases gR:c i=true
  .rw[gR,if_pos rfl];refine b9 p i bZ _ dw gR bO ⟨ys,pT⟩ oy λv b4 cB qY=>⟨cB _ _ pT,∅,n-(i+1),∅,rfl,dw,⟨s i,hs i,rfl⟩,(oy.trans cB).new bO,Ze,?_⟩;rw[step,if_pos gR];exact Paired.snoc (Paired.mapP ji λ_ _ z=>mono _ _ _ _ ((BN cB).trans BO) z) (mono _ _ _ _ BO qY)
  .have rF:c i=false:=by simpa using gR
   rw[rF,if_neg qam];refine⟨n-(i+1),∅,rfl,dw,⟨s i,hs i,rfl⟩,oy,pT,?_⟩;rw[step,if_neg gR,qbl];exact ji
 .have e:i=n:=by omega
  subst e;exact .inl ⟨w.stop aj bI,q p aj ys bO bI bW ap⟩
theorem tZ{H:Hp}{p u:Addr}{o:HO}(h:∃ys,H p=some (.lst ys))(hu:H u=none):hid (upd H u o) p u=some o:=by
 have n:u≠p:=λz=>by
  obtain⟨ys,e⟩:=h;rw[<-z,hu] at e;cases e
 rw[U3 n,Ze]
theorem t0{H aj:Hp}{p u:Addr}{o:HO}(h:∃ys,H p=some (.lst ys))(hu:H u=none)(e8:aj u=some o):hid aj p u=some o:=by
 have n:u≠p:=λz=>by
  obtain⟨ys,e⟩:=h;rw[<-z,hu] at e;cases e
 rw[U3 n,e8]
theorem Zac{H aj:Hp}{p b:Addr}{xs:List V}(h:∃ys,H p=some (.lst ys))(s:Zd H aj)(e:aj b=some (.tup xs)):hid aj p b=some (.tup xs):=by
 have n:b≠p:=λz=>by
  obtain⟨ys,cv⟩:=h;rw[z,s _ _ cv] at e;cases e
 rw[U3 n,e]
theorem t1{R:Nat->V->Hp->Prop}{H:Hp}{r:Nat->V}(h:∀i v,R i v H->v=r i):∀{is:List Nat}{ys:List V},Paired (λi v=>R i v H) is ys->ys=is.map r
 |_,_,.nil=>rfl
 |_,_,.cons a t=>by rw[h _ _ a,t1 h t];rfl
theorem Ym{J:It}{n:Nat}{y:Nat->Hp->V->Hp->Prop}{H0:Hp}(w:VW J n y H0){g:TG}{cN:TS}{D:Vd}{ao:St}{H:Hp}(Pv:Nat->St->Hp->Prop)(c0:Pv 0 ao H)(bH:∀i ao H,Pv i ao H->Zd H0 H)
  (hs:∀i ao H v aj,i<n->Pv i ao H->y i H v aj->g v ao aj λcx aP=>cN {D with nx:=Pv (i+1),ct:=Pv (i+1),bk:=D.nx} cx aP) (hd:∀ao H,Pv n ao H->D.nx ao H):
  ∃W:Nat->Nat->St->Hp->Prop,(∃m,W 0 m ao H)/\∀i m ao H,W i m ao H->
   (J.stop i H/\D.nx ao H)\/(J.go i H/\∃N:St->Hp->Prop,(∀b1 aj,N b1 aj->∃cH,cH<m/\W (i+1) cH b1 aj)/\∀x aj,J.yld i H x aj->g x ao aj λcx aP=>cN {D with nx:=N,ct:=N,bk:=D.nx} cx aP):=by
 refine⟨λi m ao H=>m=n-i/\i<=n/\Pv i ao H,⟨n,by simp,qar _,c0⟩,?_⟩;rintro i m ao H ⟨rfl,hi,p⟩;have bI:=bH i ao H p
 by_cases dw:i<n
 .exact .inr ⟨w.go H i bI dw,Pv (i+1),λb1 aj iR=>⟨n-(i+1),∅,rfl,dw,iR⟩,λx aj rN=>hs i ao H x aj dw p (w.yld H i x aj bI dw rN)⟩
 .have e:i=n:=by omega
  subst e;exact .inl ⟨w.stop H bI,hd ao H p⟩
namespace Rd
section
variable {ao:St}{H:Hp}{Q:VK}{D:Vd}{K:Frag}
theorem Zog{n:Nat}{ix:List Nat}{e1:TI}{g:TG}{dP:TT}{cM:TE}(h:e1 ao H λJ aA=>∀p,aA p=none->
 ∃W:Nat->Nat->List V->St->Hp->Prop,(∃m,W 0 m [] (ny n ix ao) (upd aA p (.lst [])))/\∀i m ys b1 aj,W i m ys b1 aj->
  (J.stop i aj/\Q (.ref p) aj)\/(J.go i aj/\∀x aP,J.yld i aj x aP->g x b1 aP λcx b5=>dP cx b5 λb bZ=>
   if b=true then cM cx bZ λv b4=>b4 p=some (.lst ys)/\ys.length<sizeLine/\∃cH,cH<m/\W (i+1) cH (ys++ [v]) cx (upd b4 p (.lst (ys++ [v])))
   else ∃cH,cH<m/\W (i+1) cH ys cx bZ)):w6 n ix e1 g dP cM ao H Q:=h
theorem Zo9{du:TA}{R:It->Hp->Prop}(h:du ao H λvs aA=>∃a,vs=[.ref a]/\(∃xs,SqL K aA a xs)/\R (Ite K a) aA):BM K du ao H R:=h
theorem ZnV{a:Addr}{xs:List V}{G:Addr->Prop}(h:SqL K H a xs)(q:G a):∃c6,[V.ref a]=[.ref c6]/\(∃xs,SqL K H c6 xs)/\G c6:=⟨a,rfl,⟨xs,h⟩,q⟩
theorem ZpJ(h:∀p,H p=none->Q (.ref p) (upd H p (.dK []))):tDNewK ao H Q:=h
theorem Zpj{a:Addr}{kvs:List (Key×V)}{x:Str}(h:H a=some (.dK kvs))(q:Q (.bl (valV kvs (Sum.inr x)).isSome) H):rDIn (.str x) (.ref a) H Q:=⟨a,_,rfl,Us.k (k:=Sum.inr x) h,q⟩
theorem Zpi{a:Addr}{kvs:List (Key×V)}{x:Int}(h:H a=some (.dK kvs))(q:Q (.bl (!(valV kvs (Sum.inl x)).isSome)) H):rDNotIn (.int x) (.ref a) H Q:=⟨a,_,rfl,Us.k (k:=Sum.inl x) h,q⟩
theorem ZoM{a:Addr}{kvs:List (Key×V)}{x:Int}{v:V}(h:H a=some (.dK kvs))(e:valV kvs (Sum.inl x)=some v)(q:Q v H):rIxD (.ref a) (.int x) H Q:=⟨a,v,rfl,by rw[<-e];exact Us.k (k:=Sum.inl x) h,q⟩
theorem Zo2{a:Addr}{kvs:List (Key×V)}{x:Str}{v:V}{Q:Hp->Prop}(h:H a=some (.dK kvs))(ap:kvs.length<sizeLine)(q:Q (upd H a (.dK (gx kvs (Sum.inr x) v)))):rSetD (.ref a) (.str x) v H Q:=⟨a,_,rfl,Ze7.k (k:=Sum.inr x) h ap,q⟩
theorem Zpc{a:Addr}{kvs:List (Key×V)}{x:Int}{v:V}{Q:Hp->Prop}(h:H a=some (.dK kvs))(ap:kvs.length<sizeLine)(q:Q (upd H a (.dK (gx kvs (Sum.inl x) v)))):rSetD (.ref a) (.int x) v H Q:=⟨a,_,rfl,Ze7.k (k:=Sum.inl x) h ap,q⟩
theorem Zpx{a:Addr}{kvs:List (Key×V)}(h:H a=some (.dK kvs))(q:Q (.int kvs.length) H):rLenD [.ref a] H Q:=⟨a,kvs,rfl,h,q⟩
theorem ZoJ{a:Addr}{kvs:List (Key×V)}(h:H a=some (.dK kvs))(q:∀l,H l=none->Q (.ref l) (upd H l (.lst (kvs.map λkv=>kV kv.1)))):rListD [.ref a] H Q:=⟨a,kvs,rfl,h,q⟩
theorem ZpM{to ti cM:TE}{n_:V->V->Hp->VK->Prop}{n':TIp}{oa:ZdH}(h:to ao H λo aA=>ti ao aA λi aP=>n_ o i aP λx b5=>cM ao b5 λy bZ=>n' x y bZ λz b4=>oa o i z b4 λcZ=>D.nx ao cZ):AM to ti cM n_ n' oa D ao H:=h
theorem ipi{f:Int->Int->Int}{i j:Int}(q:Q (.int (f i j)) H):ipI f (.int i) (.int j) H Q:=⟨i,j,rfl,rfl,q⟩
end
end Rd
section
variable {X:Cx}
theorem JA:Zl3 X (Zfb X.K):=by
 intro aq s ao H o i dE gP Q I ro ri h;obtain⟨p,xs,k,z,rfl,rfl,cC,b9,q⟩:=h;cases ro;obtain⟨t,rfl⟩:=ri;obtain⟨its,r,pl,bU⟩:=I.list cC;obtain⟨j,ay,aD,cj,cS,ec⟩:=ZcI b9;obtain⟨w,f5,kO⟩:=r.get aD;have ap:=r.length;have b':=oe;have fI:EP X aq ao Q w s:=⟨z,H,I,kO,q⟩
 by_cases c0:0<=k
 .have bP:k.toNat=j:=by
   rw[seqIndex_of c0 ec] at ay;exact qaC ay
  exact wpAny_getItem_list pl.isList c0 ∅ (by rw[bP];simpa using f5) fI
 .have bP:(k+(its.toArray.size:Int)).toNat=j:=by
   rw[seqIndex_neg ∅ cS] at ay;rw[qah,<-ap];exact qaC ay
  exact wpAny_getItem_list_neg pl.isList ∅ (by rw[qah]<;>omega) ∅ (by rw[bP];simpa using f5) fI
theorem t2{K:Frag}(e:X.K=K):Zl3 X (Zfb K):=e▸JA
end
section
variable {X:Cx}{K:Frag}
def BP (cp:TA):TE:=λao H Q=>cp ao H λvs aA=>∃n:Nat,vs=[.int n]/\n<=2 ^ 24/\∀l,aA l=none->Q (.ref l) (upd aA l (.lst ((List.range n).map λi:Nat=>V.int i)))
theorem JB{a:Expr}{cp:TA}{p eW pos JC:Pos}(a_:X.calm=true)(hR:Gl X "list")(hC:X.mg "list" =none)(bR:Gl X "range")(bL:X.mg "range" =none)(bK:PA X [a] cp)
  (hs:starEach [a] X.env=[(false,eval a X.env)]:=by rfl)
  (b9:starEach [Expr.Call (.Name "range" p) [a] [] pos] X.env=(false,eval (.Call (.Name "range" p) [a] [] pos) X.env)::starEach [] X.env:=by rfl):
  PE X (.Call (.Name "list" eW) [.Call (.Name "range" p) [a] [] pos] [] JC) (BP cp):=by
 intro aq s ao H Q I h;refine wpAny_Call_Name_kw (ly I hR hC boot_list ?_);refine qaQ ?_ b9 rfl;rw[b9];show wpAny _ _ (spliced ((false,eval (.Call (.Name "range" p) [a] [] pos) X.env):: [])) _ _ s;refine Calls.spliced_cons (Call_ (ly I bR bL boot_range (qaQ (thn (bK pos aq s ao H _ I h) λus a' ⟨vs,aA,bT,cE,cJ⟩=>?_) hs rfl)));obtain⟨n,e,b',q⟩:=cJ;subst e;obtain⟨u,rfl,t,rfl⟩:=W8 cE;refine call_range_1 (Calls.spliced_nil ?_);refine call_list_range (bT.ok.hd a_) (IsRange.new ..) (small_one ∅ ∅ ∅ ∅) (n:=n) (by rw[rangeSize_one];split<;>omega) b' λh' ce dG d7 bH g5 rM=>?_;have cU:Inv X aq ao aA {a' with heap:=a'.heap.push {cls:= .type "range",data:= .fields #[.int 0 a'.toks,.int n t,.int 1 (a'.toks+1)]},toks:=a'.toks+1+1}:=bT.kept λb o e=>Heap.get?_push_of_some _ e;have bU:((List.range n).map λi:Nat=>V.int i).length<=sizeLine:=by
  rw[GM,qbz,sizeLine_eq];omega
 refine⟨.ref (a'.heap.push {cls:= .type "range",data:= .fields #[.int 0 a'.toks,.int n t,.int 1 (a'.toks+1)]}).objs.size,_,cU.laid (a:=(a'.heap.push {cls:= .type "range",data:= .fields #[.int 0 a'.toks,.int n t,.int 1 (a'.toks+1)]}).objs.size) (o:= .lst ((List.range n).map λi:Nat=>V.int i)) (t':=ce) bH (qaa _) ⟨bU,dG.toList,d7,?_,by simpa using g5⟩,rfl,q _ (cU.hok.fresh (qaa _))⟩;refine w4 (by rw[qbL,rM.1,GM,qbz]) λj v u bJ bX=>?_;obtain⟨JD,bP⟩:=rM.2 j u (by rw[<-Array.getElem?_toList];exact bX);have JE:j<n:=by
  have:=(qad.mp bJ).1;simpa using this
 rw[qao,qbN JE] at bJ;cases bJ;rw[bP];exact⟨JD,by simp⟩
end
namespace Rd
section
variable {ao:St}{H:Hp}{Q:VK}{K:Frag}
theorem ZpB{cp:TA}(h:cp ao H λvs aA=>∃n:Nat,vs=[.int n]/\n<=2 ^ 24/\∀l,aA l=none->Q (.ref l) (upd aA l (.lst ((List.range n).map λi:Nat=>V.int i)))):BP cp ao H Q:=h
end
end Rd
theorem Zg4(ns ms:List Int):PyData.eqv (.list (ns.map PyData.int)) (.list (ms.map PyData.int))=decide (ns=ms):=by
 have h:∀ns ms:List Int,PyData.eqvAll (ns.map PyData.int) (ms.map PyData.int)=decide (ns=ms):=by
  intro ns
  induction ns with
  |nil=>intro ms;cases ms<;>simp[PyData.eqvAll]
  |cons n ns b_=>
   intro ms;cases ms with
   |nil=>simp[PyData.eqvAll]
   |cons m ms=>
    simp only[List.map_cons,PyData.eqvAll,PyData.eqv,b_]
    by_cases e:n=m
    .subst e;simp
    .simp[e]
 simp only[PyData.eqv];exact h ns ms
section
variable {X:Cx}
def rUpdD:V->List V->Hp->VK->Prop:=λx vs H Q=>∃a b kvs more,x= .ref a/\vs=[.ref b]/\a≠b/\H a=some (.dK kvs)/\H b=some (.dK more)/\kvs.length+more.length<=sizeLine/\Q .non (upd H a (.dK (g7 kvs more)))
theorem JF:MtR X "dict.update" rUpdD:=by
 intro aq s ao H x xs v us Q I cy rs h;obtain⟨a,b,kvs,more,rfl,rfl,ne,bK,au,ap,q⟩:=h;cases cy;obtain⟨u,rfl,fv⟩:=W8 rs;cases fv;obtain⟨z,hd,vs,rel,dd⟩:=ZcK I.hok bK;obtain⟨cO,kM,JG,BQ,tE⟩:=ZcK I.hok au;refine call_meetsIn PySem.F.slot_dict_update dd.typeIs PySem.F.entry_dict_update (PySem.F.args_dict_update_2 _ _) (meets_dict_update (fQ X.prog X.w) a b ne kM) ⟨vs,JG,dd,tE,by rw[<-rel.length,<-BQ.length];exact ap,λh' dd' _ hs=>?_⟩;have bL:=tN more kvs;have b9:∃q,h'.get? a=some q:=let⟨q,_,_,cC,_⟩:=dd';⟨q,cC⟩
 exact⟨.non,_,tL (t':=s.toks) I (by rw[bK];exact True.intro) hs b9 (wr ∅ hd (BQ.merge rel) dd'),rfl,q⟩
end
theorem ZiG{own:Nat}{ix:List Nat}{g:TG}{dP:TT}{Q:Addr->Hp->Prop}{ao:St}{H:Hp}{J:It}{n:Nat}{y:Nat->Hp->V->Hp->Prop}(w:VW J n y H)(b':n<sizeLine)(s:Nat->List (Option V))(hs:∀i,(s i).length=own)
  (bR:∀i a aj v aP (f7:St->Hp->Prop),i<n->Zd H aj->y i aj v aP->a.length=own->(∀b5,Zd aj b5->f7 (s i++ix.map λj=>(ao[j]?).join) b5)->g v (a++ix.map λj=>(ao[j]?).join) aP f7)
  (a_:∀i aj (cQ:Bool->Hp->Prop),i<n->Zd H aj->cQ true aj->dP (s i++ix.map λj=>(ao[j]?).join) aj cQ)
  (q:∀p aj (ck:List Addr),H p=none->Zd H aj->aj p=some (.lst (ck.map V.ref))->ck.length=n->ck.Nodup->(∀x∈ck,H x=none/\x≠p/\aj x=some (.lst []))->Q p aj):
  ∀p,H p=none->∃W:Nat->Nat->List V->St->Hp->Prop,(∃m,W 0 m [] (ny own ix ao) (upd H p (.lst [])))/\∀i m ys b1 aj,W i m ys b1 aj->
   (J.stop i aj/\Q p aj)\/(J.go i aj/\∀x aP,J.yld i aj x aP->g x b1 aP λcx b5=>dP cx b5 λb bZ=>
    if b=true then wf tNil cx bZ λv b4=>b4 p=some (.lst ys)/\ys.length<sizeLine/\∃cH,cH<m/\W (i+1) cH (ys++ [v]) cx (upd b4 p (.lst (ys++ [v])))
    else ∃cH,cH<m/\W (i+1) cH ys cx bZ):=by
 intro p bO;refine⟨λi m ys b1 aj=>m=n-i/\i<=n/\(∃a,a.length=own/\b1=a++ix.map λj=>(ao[j]?).join)/\Zd H aj/\∃ck:List Addr,ys=ck.map V.ref/\aj p=some (.lst (ck.map V.ref))/\ck.length=i/\ck.Nodup/\∀x∈ck,H x=none/\x≠p/\aj x=some (.lst []),
  ⟨n,by simp,qar _,⟨List.replicate own none,qa8,rfl⟩,cF bO,[],rfl,Ze,rfl,.nil,by simp⟩,?_⟩
 rintro i m ys b1 aj ⟨rfl,hi,⟨a,bK,rfl⟩,bI,ck,rfl,bW,ds,fY,jj⟩
 by_cases dw:i<n
 .refine .inr ⟨w.go aj i bI dw,λx aP rN=>?_⟩;refine bR i a aj x aP _ dw bI (w.yld aj i x aP bI dw rN) bK λb5 bV=>?_;refine a_ i b5 _ dw (bI.trans bV) ?_;rw[if_pos rfl];show(0:Nat)<=sizeLine/\_;refine⟨qar _,λu hu=>?_⟩;have BR:=bI.trans bV;have BS:=bV _ _ bW;have BU:u≠p:=λz=>by rw[z,BS] at hu;cases hu
  have cd:Zd b5 (upd b5 u (.lst [])):=cF hu;refine⟨cd _ _ BS,by rw[GM];omega,n-(i+1),∅,rfl,dw,⟨s i,hs i,rfl⟩,(BR.trans cd).new bO,ck++ [u],by simp,by rw[Ze];simp,by simp[ds],?_,λx ar=>?_⟩
  .refine qbI.mpr ⟨fY,by simp,λx ar z bU=>?_⟩;rw[qab.mp bU];intro e;have:=bV _ _ (jj x ar).2.2;rw[e,hu] at this;cases this
  .rcases qaD.mp ar with z|z
   .obtain⟨ay,aD,cj⟩:=jj x z;exact⟨ay,aD,by rw[b3 aD];exact cd _ _ (bV _ _ cj)⟩
   .rw[qab.mp z];refine⟨?_,BU,by rw[b3 BU,Ze]⟩;cases e:H u with
    |none=>rfl
    |some o=>rw[BR _ _ e] at hu;cases hu
 .have e:i=n:=by omega
  subst e;exact .inl ⟨w.stop aj bI,q p aj ck bO bI bW ds fY jj⟩
namespace Rd
section
variable {H:Hp}{Q:VK}
theorem Zpy{a b:Addr}{kvs more:List (Key×V)}(ne:a≠b)(bK:H a=some (.dK kvs))(au:H b=some (.dK more))(ap:kvs.length+more.length<=sizeLine)(q:Q .non (upd H a (.dK (g7 kvs more)))):rUpdD (.ref a) [.ref b] H Q:=⟨a,b,kvs,more,rfl,rfl,ne,bK,au,ap,q⟩
end
end Rd
section
variable {X:Cx}{aq:List (Addr×Obj)}{ao:St}{H:Hp}{s:Shared}
theorem Inv.freeze{a:Addr}{kvs:List (Key×V)}(I:Inv X aq ao H s)(e:Rd H a (.dK kvs)):∃o,s.heap.get? a=some o/\Inv X aq ao (upd H a (.frz o (.dK kvs))) s:=by
 have ok:Z3 X.prog X.w H s.heap a (.dK kvs):=e.ok I.hok;rcases e with e|⟨o,e⟩
 .obtain⟨_,_,vs,_,dd⟩:=ZcK I.hok e;obtain⟨ep,hn⟩:=dd.dictAt;obtain⟨o,b7,b6,_⟩:=id hn;exact⟨o,b6,I.write (x:=a) (e:=a) (o:= .frz o (.dK kvs)) (t':=s.toks) (by rw[e];exact True.intro) (.inl rfl) (λb u _ q=>q) ⟨o,b6⟩ ⟨b6,ok⟩⟩
 .have ar:upd H a (.frz o (.dK kvs))=H:=by
   funext b
   by_cases z:b=a
   .rw[z,Ze,e]
   .rw[b3 z]
  exact⟨o,(show Z3 X.prog X.w H s.heap a (.frz o (.dK kvs)) from I.hok a _ e).1,by rw[ar];exact I⟩
theorem KV.fwd{kvs:List (Key×V)}{vs:List (Key×Value)}(r:KV kvs vs):∀{j:Nat}{kv:Key×V},kvs[j]? =some kv->∃u,vs[j]? =some (kv.1,u)/\c4 kv.2 u:=by
 unfold KV at r
 induction r with
 |nil=>intro j kv e;simp at e
 | @cons p q ci qs h t b_=>
  intro j kv e;cases j with
  |zero=>
   simp at e;subst e;obtain⟨cJ,cP⟩:=q;exact⟨cP,by simp[h.1],h.2⟩
  |succ j=>
   obtain⟨u,ay,aD⟩:=b_ (j:=j) (kv:=kv) (by simpa using e);exact⟨u,by simpa using ay,aD⟩
end
noncomputable def Itv (d:Addr) (o:Obj) (kvs:List (Key×V)):It:=
 ⟨λi H=>H d=some (.frz o (.dK kvs))/\i<kvs.length,λi H x aj=>aj=H/\∃kv,kvs[i]? =some kv/\x=kv.2,λi H=>H d=some (.frz o (.dK kvs))/\kvs.length<=i⟩
noncomputable def Itp (d:Addr) (o:Obj) (kvs:List (Key×V)):It:=
 ⟨λi H=>H d=some (.frz o (.dK kvs))/\i<kvs.length,λi H x aj=>∃t kv,kvs[i]? =some kv/\H t=none/\x= .ref t/\aj=upd H t (.tup [kV kv.1,kv.2]),λi H=>H d=some (.frz o (.dK kvs))/\kvs.length<=i⟩
theorem JH:entryFor table "dict_itemiterator.__iter__" =some Builtin.«dict_keyiterator.__iter__»:=entryFor_alias (id':="dict_keyiterator.__iter__") (by kernel_rfl) rfl (by decide+kernel) (by kernel_rfl)
theorem Zf2{P:Program}{w:World}{A:Around}{E:Value->Shared->Prop}{s:Shared}{it d:Addr}{i n ep:Nat}{ok dE:Value}{Q:Value->Shared->Prop}(jN:IsItemIter s.heap it d i n ep ok dE)(h:Q (.ref it) s):wpAny (model P w) A (pyIter (.ref it)) Q E s:=by
 have ty:s.TypeIs (.ref it) "dict_itemiterator" :=⟨_,jN,rfl⟩;refine wpAny_pyIter_slot ty PySem.F.slot_dict_itemiterator_iter (wpAny_call_entry PySem.F.slot_dict_itemiterator_iter ty JH (show wpAny _ _ (ret (Value.ref it)) _ _ s from wpAny_pure ⟨_,rfl,"dict_itemiterator",_,ty,PySem.F.slot_dict_itemiterator_next.lookup,h⟩) (PySem.F.args_dict_itemiterator_iter_1 _))
section
variable {P:Program}{w:World}{K:Frag}
theorem JI{c5:Expr}(d it:Addr)(o:Obj)(kvs:List (Key×V))(vs:List (Key×Value))(ep:Nat)(rel:KV kvs vs)(hd:∀h:Heap,h.get? d=some o->h.DictAt (fQ P w) d vs ep):V2 P w K c5 (Itv d o kvs) [it] it (λi h=>h.IsValIter it d i vs.length ep) where
 mem:=by simp
 obj:=λi h st b au=>by
  have e:b=it:=by simpa using au
  subst e;obtain⟨o,e,c,dd⟩:=st;exact⟨o,e,λv z=>by rw[dd] at z;cases z⟩
 keep:=λi h h' st k=>st.at λo q=>k it (by simp) o q
 item:=by
  intro X dv hw hK a_ i aq s ao H E I bS st bR;subst dv hw hK;obtain⟨b9,hi⟩:=bR;have b6:=(show Z3 X.prog X.w H s.heap d (.frz o (.dK kvs)) from I.hok d _ b9).1;obtain⟨ea,f1,f2,da,eN,dQ⟩:=bS it (by simp);obtain⟨u,hu,fv⟩:=rel.fwd (fm hi);refine wpAny_pyNext_values_item st (hd _ b6) hu λh' ja iQ=>?_;have bT:Inv X aq ao H {s with heap:=h',toks:=s.toks}:=I.turned (t':=s.toks) (λb q au e=>(iQ.2 b au).trans e) ea f1 da eN dQ;obtain⟨q,e,c,dd⟩:=id ja;exact⟨_,rfl,q1 (s:={s with heap:=h',toks:=s.toks}) e c dd (by decide) ⟨_,H,bT,fv,⟨rfl,kvs[i],fm hi,rfl⟩,ja,λb au=>(bS b au).1⟩⟩
 done:=by
  intro X dv hw hK a_ i aq s ao H E I bS st bR;subst dv hw hK;obtain⟨b9,hi⟩:=bR;have b6:=(show Z3 X.prog X.w H s.heap d (.frz o (.dK kvs)) from I.hok d _ b9).1;obtain⟨ea,f1,f2,da,eN,dQ⟩:=bS it (by simp);exact wpAny_pyNext_values_end (I.ok.hd a_) st (hd _ b6) (qbu (by rw[<-rel.length];exact hi)) λh' c7=>⟨rfl,I.turned (t':=s.toks) (λb q au e=>c7 b q au e) ea f1 da eN dQ⟩
 self:=λ_ _ _ _ _ st h=>wpAny_pyIter_valiter st h
theorem JJ{iY:List Expr}{k1:Nat}{pos:Pos}(d it:Addr)(o:Obj)(kvs:List (Key×V))(vs:List (Key×Value))(ep:Nat)(rel:KV kvs vs)(hd:∀h:Heap,h.get? d=some o->h.DictAt (fQ P w) d vs ep):
  V2 P w K (.Tuple iY k1 pos) (Itp d o kvs) [it] it (λi h=>∃ok dE,IsItemIter h it d i vs.length ep ok dE) where
 mem:=by simp
 obj:=λi h st b au=>by
  obtain⟨ok,dE,e⟩:=st;rw[qab.mp au];exact⟨_,e,λv z=>by
   have gY:Data.fields _=Data.cell v:=z;cases gY⟩
 keep:=λi h h' st k=>let⟨ok,dE,e⟩:=st;⟨ok,dE,k it (by simp) _ e⟩
 item:=by
  intro X dv hw hK a_ i aq s ao H E I bS st bR;subst dv hw hK;obtain⟨b9,hi⟩:=bR;obtain⟨ok,dE,jN⟩:=st;have b6:=(show Z3 X.prog X.w H s.heap d (.frz o (.dK kvs)) from I.hok d _ b9).1;obtain⟨u,hu,fv⟩:=rel.fwd (fm hi);refine wpAny_pyNext_items_item jN (hd _ b6) hu λjk h' wb hout c1 hsz bH=>?_;have fq:=I.hok.fresh (qaa s.heap.objs.size);have tY:it<s.heap.objs.size:=Heap.lt_size jN;refine⟨_,rfl,wpAny_letOwnedTupleGo_items hout λaD oz fa=>?_⟩;have lG:aD.get? s.heap.objs.size=some {cls:= .type "tuple",data:= .seq #[jk,u]}:=fa.extBut _ _ (qbW tY) c1;have bT:Inv X aq ao (upd H s.heap.objs.size (.tup [kV kvs[i].1,kvs[i].2])) {s with heap:=aD,toks:=s.toks}:=
   I.turnedNew (fp:=[it]) (λb q au e=>by
    have eK:b≠it:=λz=>au (by simp[z]);exact fa.extBut b q eK (bH b q eK e)) bS (qaa _) ⟨by show 2<=sizeLine;decide,[jk,u],.cons (BJ wb) (.cons fv .nil),_,lG,rfl,_,rfl⟩
  refine⟨.ref s.heap.objs.size,_,bT,rfl,⟨_,kvs[i],fm hi,fq,rfl,rfl⟩,⟨_,_,oz⟩,λb au=>?_⟩;have mL:b≠s.heap.objs.size:=by rw[qab.mp au];exact qas tY
  rw[b3 mL];exact(bS b au).1
 done:=by
  intro X dv hw hK a_ i aq s ao H E I bS st bR;subst dv hw hK;obtain⟨b9,hi⟩:=bR;obtain⟨ok,dE,jN⟩:=st;have b6:=(show Z3 X.prog X.w H s.heap d (.frz o (.dK kvs)) from I.hok d _ b9).1;obtain⟨ea,f1,f2,da,eN,dQ⟩:=bS it (by simp);exact wpAny_pyNext_items_end (I.ok.hd a_) jN (hd _ b6) (qbu (by rw[<-rel.length];exact hi)) λh' c7=>⟨rfl,I.turned (t':=s.toks) (λb q au e=>c7 b q au e) ea f1 da eN dQ⟩
 self:=λ_ _ _ _ _ st h=>by
  obtain⟨ok,dE,e⟩:=st;exact Zf2 e h
end
section
variable {X:Cx}{c5:Expr}
def BV (h6:TE):TI:=λao H R=>h6 ao H λx aA=>∃a kvs,x= .ref a/\Rd aA a (.dK kvs)/\∀o,R (Itv a o kvs) (upd aA a (.frz o (.dK kvs)))
def BW (h6:TE):TI:=λao H R=>h6 ao H λx aA=>∃a kvs,x= .ref a/\Rd aA a (.dK kvs)/\∀o,R (Itp a o kvs) (upd aA a (.frz o (.dK kvs)))
theorem JK{d:Expr}{h6:TE}{eD fM:Pos}(hd:PE X d h6)(oj:attributeBase d "values" X.env (eval d X.env)=eval d X.env:=by rfl)(ol:(eD.endLine==fM.line)=true:=by rfl):
  PI X c5 (.Call (.Attribute d "values" eD) [] [] fM) (BV h6):=by
 intro aq s ao H R I h;refine wpAny_Call_method0_late oj ol (thn (hd aq s ao H _ I h) λv a' ⟨x,aA,bT,cE,cJ⟩=>?_);obtain⟨a,kvs,rfl,aC,q⟩:=cJ;cases cE;obtain⟨z,hD,vs,rel,dd⟩:=Zaq bT.hok aC;obtain⟨ep,hn⟩:=dd.dictAt;obtain⟨o,b6,cU⟩:=bT.freeze aC;have rO:∀h:Heap,h.get? a=some o->h.DictAt (fQ X.prog X.w) a vs ep:=λh e=>hn.at' λcT cv=>by rw[b6] at cv;cases cv;exact e
 refine⟨"dict","dict.values",qb9,PySem.F.slot_dict_values,PySem.F.type_dict_values,dd.typeIs,dd.mapOf.noDict,Calls.callWith_builtin rfl (PySem.evalArgs_none ?_)⟩;refine call_meetsIn PySem.F.slot_dict_values dd.typeIs PySem.F.entry_dict_values (PySem.F.args_dict_values_1 _) (meets_dict_values (fQ X.prog X.w) a hD) ⟨⟨vs,dd⟩,?_⟩;refine wpAny_pyIter_values (knd:=fQ X.prog X.w) (d:=a) (kvs:=vs) (ep:=ep) ⟨_,Heap.get?_push_size _ rfl,rfl,rfl⟩ (rO _ (Heap.get?_push_of_some _ b6)) ?_;have d_:Inv X aq ao (upd aA a (.frz o (.dK kvs))) {a' with heap:=a'.heap.push {cls:= .type "dict_values",data:= .fields #[.ref a]}}:=cU.kept (t':=a'.toks) λb o e=>Heap.get?_push_of_some _ e;refine⟨(a'.heap.push {cls:= .type "dict_values",data:= .fields #[.ref a]}).objs.size,[(a'.heap.push {cls:= .type "dict_values",data:= .fields #[.ref a]}).objs.size],_,_,_,rfl,d_.kept (t':=a'.toks) λb o e=>Heap.get?_push_of_some _ e,JI a _ o kvs vs ep rel rO,⟨_,Heap.get?_push_size _ rfl,rfl,rfl⟩,λb au=>?_,q o⟩;rw[qab.mp au];exact d_.fpOk (qaa _) (d_.hok.fresh (qaa _))
theorem BX{iY:List Expr}{k1:Nat}{kI:Pos}{d:Expr}{h6:TE}{eD fM:Pos}(hd:PE X d h6)(oj:attributeBase d "items" X.env (eval d X.env)=eval d X.env:=by rfl)(ol:(eD.endLine==fM.line)=true:=by rfl):
  PI X (.Tuple iY k1 kI) (.Call (.Attribute d "items" eD) [] [] fM) (BW h6):=by
 intro aq s ao H R I h;refine wpAny_Call_method0_late oj ol (thn (hd aq s ao H _ I h) λv a' ⟨x,aA,bT,cE,cJ⟩=>?_);obtain⟨a,kvs,rfl,aC,q⟩:=cJ;cases cE;obtain⟨z,hD,vs,rel,dd⟩:=Zaq bT.hok aC;obtain⟨ep,hn⟩:=dd.dictAt;obtain⟨o,b6,cU⟩:=bT.freeze aC;have rO:∀h:Heap,h.get? a=some o->h.DictAt (fQ X.prog X.w) a vs ep:=λh e=>hn.at' λcT cv=>by rw[b6] at cv;cases cv;exact e
 refine⟨"dict","dict.items",qb9,PySem.F.slot_dict_items,PySem.F.type_dict_items,dd.typeIs,dd.mapOf.noDict,Calls.callWith_builtin rfl (PySem.evalArgs_none ?_)⟩;refine call_meetsIn PySem.F.slot_dict_items dd.typeIs PySem.F.entry_dict_items (PySem.F.args_dict_items_1 _) (meets_dict_items (fQ X.prog X.w) a hD) ⟨⟨vs,dd⟩,?_⟩;refine wpAny_pyIter_items (knd:=fQ X.prog X.w) (d:=a) (kvs:=vs) (ep:=ep) ⟨_,Heap.get?_push_size _ rfl,rfl,rfl⟩ (rO _ (Heap.get?_push_of_some _ b6)) ?_;have d_:Inv X aq ao (upd aA a (.frz o (.dK kvs))) {a' with heap:=a'.heap.push {cls:= .type "dict_items",data:= .fields #[.ref a]}}:=cU.kept (t':=a'.toks) λb o e=>Heap.get?_push_of_some _ e;refine⟨(a'.heap.push {cls:= .type "dict_items",data:= .fields #[.ref a]}).objs.size,[(a'.heap.push {cls:= .type "dict_items",data:= .fields #[.ref a]}).objs.size],_,_,_,rfl,d_.kept (t':=a'.toks) λb o e=>Heap.get?_push_of_some _ e,JJ a _ o kvs vs ep rel rO,⟨_,_,Heap.get?_push_size _ rfl⟩,λb au=>?_,q o⟩;rw[qab.mp au];exact d_.fpOk (qaa _) (d_.hok.fresh (qaa _))
end
namespace Rd
section
variable {ao:St}{H:Hp}{Q:VK}
theorem ZoK{h6:TE}{R:It->Hp->Prop}(h:h6 ao H λx aA=>∃a kvs,x= .ref a/\_L.Rd aA a (.dK kvs)/\∀o,R (Itv a o kvs) (upd aA a (.frz o (.dK kvs)))):BV h6 ao H R:=h
theorem ZkR{h6:TE}{R:It->Hp->Prop}(h:h6 ao H λx aA=>∃a kvs,x= .ref a/\_L.Rd aA a (.dK kvs)/\∀o,R (Itp a o kvs) (upd aA a (.frz o (.dK kvs)))):BW h6 ao H R:=h
end
end Rd
theorem JL{d:Addr}{o:Obj}{kvs:List (Key×V)}{H:Hp}(h:H d=some (.frz o (.dK kvs))):VW (Itv d o kvs) kvs.length (λi aj v aP=>aP=aj/\∃kv,kvs[i]? =some kv/\v=kv.2) H:=
 ⟨λaj i s hi=>⟨s _ _ h,hi⟩,λ_ _ _ _ _ _ y=>y,λaj s=>⟨s _ _ h,qaa _⟩⟩
theorem BY{d:Addr}{o:Obj}{kvs:List (Key×V)}{H:Hp}(h:H d=some (.frz o (.dK kvs))):VW (Itp d o kvs) kvs.length (λi aj v aP=>∃t kv,kvs[i]? =some kv/\aj t=none/\v= .ref t/\aP=upd aj t (.tup [kV kv.1,kv.2])) H:=
 ⟨λaj i s hi=>⟨s _ _ h,hi⟩,λ_ _ _ _ _ _ y=>y,λaj s=>⟨s _ _ h,qaa _⟩⟩
noncomputable def Itz (K:Frag) (a b:Addr):It:=
 ⟨λi H=>∃xs x ys y,SqL K H a xs/\xs[i]? =some x/\SqL K H b ys/\ys[i]? =some y,λi H v aj=>∃t x y,H t=none/\v= .ref t/\aj=upd H t (.tup [x,y])/\(∀xs,SqL K H a xs->xs[i]? =some x)/\∀ys,SqL K H b ys->ys[i]? =some y,λi H=>∃xs ys,SqL K H a xs/\SqL K H b ys/\(xs.length<=i\/ys.length<=i)⟩
theorem lH{h:Heap}{l b:Addr}{xs:Array Value}{o:Obj}(ap:h.IsList l xs)(b6:h.get? b=some o)(a_:o.cls≠ .type "list"):l≠b:=λz=>by
 subst z;obtain⟨cT,ay,aD,_⟩:=ap;rw[b6] at ay;cases ay;exact a_ aD
structure ZjH(h:Heap)(z TI TO dF eb a b:Addr)(i:Nat):Prop where
 zip:IsZip h z TI TO .none
 ti:IsPair h TI (.ref dF) (.ref eb)
 to:∃x y,IsPair h TO x y
 l1:h.IsListIter dF a i
 l2:h.IsListIter eb b i
structure ZaU(z TI TO dF eb:Addr):Prop where
 TIz:TI≠z
 TOz:TO≠z
 i1z:dF≠z
 i2z:eb≠z
 TITO:TI≠TO
 TIi1:TI≠dF
 TIi2:TI≠eb
 TOi1:TO≠dF
 TOi2:TO≠eb
 i12:dF≠eb
theorem BZ(n:Nat):ZaU (n+4) (n+2) (n+3) n (n+1):=⟨show n+2≠n+4 by omega,show n+3≠n+4 by omega,show n≠n+4 by omega,show n+1≠n+4 by omega,show n+2≠n+3 by omega,show n+2≠n by omega,show n+2≠n+1 by omega,show n+3≠n by omega,show n+3≠n+1 by omega,show n≠n+1 by omega⟩
theorem ZjH.apart{h:Heap}{z TI TO dF eb a b:Addr}{i:Nat}{xs ys:Array Value}(D:ZaU z TI TO dF eb)(st:ZjH h z TI TO dF eb a b i)(bK:h.IsList a xs)(au:h.IsList b ys):ZipApart z TI TO dF eb a b:=by
 obtain⟨x,y,hE⟩:=st.to;obtain⟨mM,eW,fg,_⟩:=st.l1;obtain⟨hb,eE,e6,_⟩:=st.l2;have eK:mM.cls≠ .type "list" :=by rw[fg];decide
 have fL:hb.cls≠ .type "list" :=by rw[e6];decide
 exact⟨D.TIz,D.TOz,D.i1z,D.i2z,D.TITO,D.TIi1,D.TIi2,D.TOi1,D.TOi2,D.i12,lH bK st.zip (show Value.type "zip" ≠Value.type "list" by decide),lH bK hE (show Value.type "tuple" ≠Value.type "list" by decide),lH bK eW eK,lH bK eE fL,lH au st.zip (show Value.type "zip" ≠Value.type "list" by decide),lH au hE (show Value.type "tuple" ≠Value.type "list" by decide),lH au eW eK,lH au eE fL⟩
theorem JM{P:Program}{w:World}{K:Frag}{iY:List Expr}{k1:Nat}{pos:Pos}(a b z TI TO dF eb:Addr)(D:ZaU z TI TO dF eb):V2 P w K (.Tuple iY k1 pos) (Itz K a b) [z,TI,TO,dF,eb] z (λi h=>ZjH h z TI TO dF eb a b i) where
 mem:=by simp
 obj:=λi h st c a_=>by
  obtain⟨x,y,hE⟩:=st.to;obtain⟨mM,eW,_,i_⟩:=st.l1;obtain⟨hb,eE,_,hS⟩:=st.l2;simp only[qaf,qaX,or_false] at a_;rcases a_ with rfl|rfl|rfl|rfl|rfl
  .exact⟨_,st.zip,λv q=>by cases (show Data.fields _=Data.cell v from q)⟩
  .exact⟨_,st.ti,λv q=>by cases (show Data.seq _ _=Data.cell v from q)⟩
  .exact⟨_,hE,λv q=>by cases (show Data.seq _ _=Data.cell v from q)⟩
  .exact⟨mM,eW,λv q=>by rw[i_] at q;cases q⟩
  .exact⟨hb,eE,λv q=>by rw[hS] at q;cases q⟩
 keep:=λi h h' st k=>by
  obtain⟨x,y,hE⟩:=st.to;exact⟨k z (by simp) _ st.zip,k TI (by simp) _ st.ti,⟨x,y,k TO (by simp) _ hE⟩,st.l1.at λo q=>k dF (by simp) o q,st.l2.at λo q=>k eb (by simp) o q⟩
 item:=by
  intro X dv hw hK a_ i aq s ao H E I bS st bR;subst dv hw hK;obtain⟨xs,x,ys,y,hc,ar,h8,bW⟩:=bR;obtain⟨rP,mO,eW,rQ⟩:=I.list hc;obtain⟨iw,mP,eE,t3⟩:=I.list h8;obtain⟨iA,e9,oG⟩:=mO.get ar;obtain⟨jg,he,oH⟩:=mP.get bW;obtain⟨a0,eO,hE⟩:=st.to;refine wpAny_pyNext_zip_item (st.apart D eW.isList eE.isList) st.zip st.ti hE st.l1 st.l2 eW.isList eE.isList (x:=iA) (y:=jg) (by simpa using e9) (by simpa using he) λh' kU w7 ka g9 c1 hsz bH=>?_;have fq:=I.hok.fresh (qaa s.heap.objs.size);have lt:∀{c:Addr}{o:Obj},s.heap.get? c=some o->c<s.heap.objs.size:=λe=>Heap.lt_size e;have nz:=lt st.zip;have w8:dF<s.heap.objs.size:=by obtain⟨_,q,_⟩:=st.l1;exact lt q
  have w9:eb<s.heap.objs.size:=by obtain⟨_,q,_⟩:=st.l2;exact lt q
  refine⟨_,rfl,wpAny_letOwnedTupleGo_zip kU λaD w_ fa=>?_⟩;have lG:IsPair aD s.heap.objs.size iA jg:=fa.extBut _ _ (qbW nz) c1;have bT:Inv X aq ao (upd H s.heap.objs.size (.tup [x,y])) {s with heap:=aD}:=
   I.turnedNew (t':=s.toks) (fp:=[z,TI,TO,dF,eb]) (λc o a_ q=>by
    have eK:c≠z:=λe=>a_ (by simp[e]);have fL:c≠TO:=λe=>a_ (by simp[e]);have jD:c≠dF:=λe=>a_ (by simp[e]);have kW:c≠eb:=λe=>a_ (by simp[e]);exact fa.extBut c o eK (bH c o eK fL jD kW q)) bS (qaa _) ⟨by show 2<=sizeLine;decide,[iA,jg],.cons oG (.cons oH .nil),_,lG,rfl,_,rfl⟩
  refine⟨.ref s.heap.objs.size,_,bT,rfl,⟨_,x,y,fq,rfl,rfl,λzs bU=>by rw[I.list_inj bU hc];exact ar,λzs bU=>by rw[I.list_inj bU h8];exact bW⟩,⟨w_,fa.extBut _ _ D.TIz (bH _ _ D.TIz D.TITO D.TIi1 D.TIi2 st.ti),⟨_,_,fa.extBut _ _ D.TOz w7⟩,ka.at λo q=>fa.extBut _ _ D.i1z q,g9.at λo q=>fa.extBut _ _ D.i2z q⟩,λc a_=>?_⟩;have mL:c≠s.heap.objs.size:=by
   simp only[qaf,qaX,or_false] at a_;rcases a_ with rfl|rfl|rfl|rfl|rfl
   .exact qas nz
   .exact qas (lt st.ti)
   .exact qas (lt hE)
   .exact qas w8
   .exact qas w9
  rw[b3 mL];exact(bS c a_).1
 done:=by
  intro X dv hw hK a_ i aq s ao H E I bS st bR;subst dv hw hK;obtain⟨xs,ys,hc,h8,ar⟩:=bR;obtain⟨rP,mO,eW,rQ⟩:=I.list hc;obtain⟨iw,mP,eE,t3⟩:=I.list h8;obtain⟨a0,eO,hE⟩:=st.to;have bJ:=mO.length;have bX:=mP.length;exact wpAny_pyNext_zip_end (I.ok.hd a_) (st.apart D eW.isList eE.isList) st.zip st.ti hE st.l1 st.l2 eW.isList eE.isList (by rcases ar with q|q;exact .inl (by simp;omega);exact .inr (by simp;omega)) λh' c7=>⟨rfl,I.turnedL (t':=s.toks) (fp:=[z,TI,TO,dF,eb]) (λc o a_ q=>c7 c o (λe=>a_ (by simp[e])) (λe=>a_ (by simp[e])) (λe=>a_ (by simp[e])) (λe=>a_ (by simp[e])) q) bS⟩
 self:=λ_ _ _ _ _ st h=>wpAny_pyIter_zip st.zip h
section
variable {X:Cx}
def B0 (K:Frag) (cp:TA):TI:=λao H R=>cp ao H λvs aA=>∃a b,vs=[.ref a,.ref b]/\(∃xs,SqL K aA a xs)/\(∃ys,SqL K aA b ys)/\R (Itz K a b) aA
theorem t4{K:Frag}{a b:Expr}{cp:TA}{p pos kI:Pos}{iY:List Expr}{k1:Nat}(fF:X.K=K)(bR:Gl X "zip")(bL:X.mg "zip" =none)(bK:PA X [a,b] cp)(hs:starEach [a,b] X.env=(false,eval a X.env)::starEach [b] X.env:=by rfl)(e2:(backTo pos (starEach [b] X.env)).any (·.1)=false:=by rfl):
  PI X (.Tuple iY k1 kI) (.Call (.Name "zip" p) [a,b] [] pos) (B0 K cp):=by
 subst fF;intro aq s ao H R I h;refine Call_ (ly I bR bL boot_zip (qaQ (thn (bK pos aq s ao H _ I h) λus a' ⟨vs,aA,bT,cE,cJ⟩=>?_) hs e2));obtain⟨gl,iW,rfl,⟨xs,hc⟩,⟨ys,h8⟩,q⟩:=cJ;obtain⟨iA,jg,rfl,oG,oH⟩:=Zgf cE;cases oG;cases oH;obtain⟨rP,mO,eW,rQ⟩:=bT.list hc;obtain⟨iw,mP,eE,t3⟩:=bT.list h8;refine call_zip_2 eW.isList eE.isList λh' bU JN JO ay aD hsz bH=>?_;refine wpAny_pyIter_zip bU ?_;have cU:Inv X aq ao aA {a' with heap:=h'}:=bT.kept (t':=a'.toks) bH;have ei:∀k:Nat,a'.heap.objs.size<=a'.heap.objs.size+k:=λk=>qch _ _;refine⟨a'.heap.objs.size+4,[a'.heap.objs.size+4,a'.heap.objs.size+2,a'.heap.objs.size+3,a'.heap.objs.size,a'.heap.objs.size+1],_,_,aA,rfl,cU,JM gl iW _ _ _ _ _ (BZ _),⟨bU,JN,⟨_,_,JO⟩,ay,aD⟩,λc a_=>?_,q⟩;simp only[qaf,qaX,or_false] at a_;rcases a_ with rfl|rfl|rfl|rfl|rfl
 .exact bT.fpOk (ei 4) (bT.hok.fresh (ei 4))
 .exact bT.fpOk (ei 2) (bT.hok.fresh (ei 2))
 .exact bT.fpOk (ei 3) (bT.hok.fresh (ei 3))
 .exact bT.fpOk (qaa _) (bT.hok.fresh (qaa _))
 .exact bT.fpOk (ei 1) (bT.hok.fresh (ei 1))
end
theorem t5{K:Frag}{a b:Addr}{xs ys:List V}{H:Hp}(ay:SqL K H a xs)(aD:SqL K H b ys)(ap:xs.length=ys.length):VW (Itz K a b) xs.length (λi aj v aP=>∃t,aj t=none/\v= .ref t/\aP=upd aj t (.tup [xs.getD i .non,ys.getD i .non])) H:=
 ⟨λaj i e hi=>⟨xs,xs[i],ys,ys[i],e.seq ay,by simp[hi],e.seq aD,by simp⟩,λaj i x aP e hi ⟨t,z,gY,bY,cz,hu,bU,kU⟩=>⟨t,bY,cz,by
  have bJ:=bU xs (e.seq ay);have bX:=kU ys (e.seq aD);rw[hu];simp[List.getD,bJ,bX]⟩,λaj e=>⟨xs,ys,e.seq ay,e.seq aD,.inl (qaa _)⟩⟩
namespace Rd
section
variable {K:Frag}{ao:St}{H:Hp}
theorem ZpY{du:TA}{R:It->Hp->Prop}(h:du ao H λvs aA=>∃a b,vs=[.ref a,.ref b]/\(∃xs,SqL K aA a xs)/\(∃ys,SqL K aA b ys)/\R (Itz K a b) aA):B0 K du ao H R:=h
end
end Rd
section
variable {X:Cx}{K:Frag}
def w' (K:Frag):List V->Hp->VK->Prop:=λxs H Q=>∃a p ys,xs=[.ref a,.ref p]/\SqL K H a ys/\H p=some (.tup [.ty "list",.ty "tuple"])/\Q (.bl true) H
theorem JP:YL X (.builtin "isinstance") (w' X.K):=by
 intro aq s ao H xs us Q I r h;obtain⟨a,p,ys,rfl,cC,bO,q⟩:=h;obtain⟨u,v,rfl,fv,dC⟩:=r.two;cases fv;cases dC;obtain⟨its,TX,pl,bU⟩:=I.list cC;obtain⟨mM,ay,fg,_⟩:=pl.isList;obtain⟨_,iw,mP,pt⟩:=(show Z3 X.prog X.w H s.heap p (.tup [.ty "list",.ty "tuple"]) from I.hok p _ bO);obtain⟨hb,aD,e6,fL,hS⟩:=pt;obtain⟨jl,nA,rfl,cE,cY⟩:=mP.two;obtain rfl:jl=Value.type "list" :=cE;obtain rfl:nA=Value.type "tuple" :=cY;obtain⟨cls,dd,TY,sl⟩:=hb;dsimp only at e6 hS;subst e6 hS;exact PySem.W.kia_tup (its:=[Value.type "list",Value.type "tuple"]) kitx_list I.kIn ⟨mM,ay,fg⟩ aD (b:=true) (by rfl) (λz=>nomatch z) λce=>⟨.bl true,H,I.tok ce,rfl,q⟩
theorem JQ(e:X.K=K):YL X (.builtin "isinstance") (w' K):=e▸JP
end
namespace Rd
theorem Zp0{K:Frag}{H:Hp}{Q:VK}{a p:Addr}{ys:List V}(h:SqL K H a ys)(bO:H p=some (.tup [.ty "list",.ty "tuple"]))(q:Q (.bl true) H):w' K [.ref a,.ref p] H Q:=⟨a,p,ys,rfl,h,bO,q⟩
end Rd
namespace Rd
end Rd
end _L
namespace _L
open PySem PySem.Spec PySem.W PyProof.Rows Builtin Builtin.ObjectAttr Builtin.Getset_descriptor
def oI(x C:Addr)(h:Heap):Prop:=∃o,h.get? x=some o/\o.cls= .ref C
theorem oI.type{M:Model}{h:Heap}{x C:Addr}(I:oI x C h):Looks M h (typeOf (.ref x)) (.ref C):=by
 obtain⟨o,ay,aD⟩:=I;exact aD▸(Looks.ld ay).andThen .now
structure Up(K:Frag)(C:Addr):Prop where
 cl:(clsIn K C).isSome=true
 ga:findIn K (.ref C) "__getattribute__" =some (some (.builtin "BaseException.__getattribute__"))
 gk:findIn K (.ref C) "__getattr__" =some none
 ca:findIn K (.ref C) "__class__" =some (some (.builtin "object.__class__"))
 cg:specialIn K (.builtin "object.__class__") "__get__" =some (some (.builtin "getset_descriptor.__get__"))
 ct:takesIn K (.builtin "object.__class__")=some true
 sub:subIn K (.ref C) (.type "BaseException")=some true
 mr:mroIn K C (.type "object")=some true
section
variable {prog:Program}{w:World}{A:Around}{E:Value->Shared->Prop}{s:Shared}{K:Frag}{x C:Addr}
theorem Zk2{M:Model}{h:Heap}(X:K.In h)(c:Up K C):Looks M h (Builtin.ObjectAttr.find (.ref x) (.ref C) "__class__") (.bind (.builtin "getset_descriptor.__get__") (.builtin "object.__class__")):=by
 have t6:=looks_findIn (M:=M) X c.ca;have _L:Looks M h (Builtin.ObjectAttr.getOf (some (.builtin "object.__class__"))) (some (.builtin "getset_descriptor.__get__")):=looks_specialIn X c.cg;have xa:=looks_takesIn (M:=M) X c.ct;exact t6.andThen (_L.andThen ((show Looks M h (Builtin.ObjectAttr.dataDescriptor? (some (.builtin "object.__class__")) (some (.builtin "getset_descriptor.__get__"))) (some (.builtin "getset_descriptor.__get__",.builtin "object.__class__")) from xa.andThen .now).andThen (Looks.tag .now)))
theorem JR{iB:Value}{R:Result->Shared->Prop}(X:K.In s.heap)(I:oI x C s.heap)(c:Up K C)(h:R (.ok (.ret (.ref C))) s):codeAny (model prog w) A (.call (.builtin "getset_descriptor.__get__") ⟨[.builtin "object.__class__",.ref x,iB],[]⟩) R s:=by
 obtain⟨b8,g,xb,t,os⟩:=s;have rR:=I.type (M:=model prog w);have t6:=looks_mroIn (M:=model prog w) X c.mr;refine codeAny_call_builtin KF.slot_gs.plain KF.entry_gs (KF.slot_gs.check _ _ _ _ _ _ _ _ KF.type_class (KF.args_gs _ _ _) ?_);unfold Builtin.«getset_descriptor.__get__» descrGet;rw[dga_obj];refine wpAny_bind (wpAny_pure ?_);unfold descrGetter descrCheckInstance descrNameAndClass isInstance;simp only[KF.owner_class]
 repeat lk
 refine⟨Code.quiet_builtin _ (by decide+kernel),codeAny_builtin KF.entry_class ?_⟩;unfold Builtin.«object.__class__» shownTypeOf
 repeat lk
 exact h
theorem ZkG{ce:Tok}{Q:Fin->Shared->Prop}(X:K.In s.heap)(I:oI x C s.heap)(c:Up K C)
  (h:Q (.done (.ret (.ref C))) s):wpAny (model prog w) A (Builtin.«object.__getattribute__» ⟨[.ref x,.str "__class__" ce],[]⟩) Q E s:=by
 obtain⟨b8,g,d,t,os⟩:=s;have rR:=I.type (M:=model prog w);have xa:=Zk2 (M:=model prog w) (x:=x) X c;show wpAny _ _ (typeOf (.ref x) >>= _) _ _ _;refine wpAny_bind (rR.at (wpAny_bind (xa.at ?_)));show wpAny _ _ (holding [Value.builtin "object.__class__"] (call (.builtin "getset_descriptor.__get__") [.builtin "object.__class__",.ref x,.ref C]) >>= ret) _ _ _;exact wpAny_bind (wpAny_holding (wpAny_call (JR (s:=⟨b8,g,d,t,os⟩) X I c (wpAny_pure h))))
theorem Zkp{Q:Option Value->Shared->Prop}(X:K.In s.heap)(I:oI x C s.heap)(c:Up K C)(h:Q (some (.ref C)) {s with toks:=s.toks+1}):wpAny (model prog w) A (getAttr? (.ref x) "__class__") Q E s:=by
 obtain⟨b8,g,d,t,os⟩:=s;have rR:=I.type (M:=model prog w);have t6:=looks_findIn (M:=model prog w) X c.ga;have _L:=looks_findIn (M:=model prog w) X c.gk;have JS:Looks (model prog w) b8 (isSubtype (.ref C) (.type "BaseException")) true:=looks_subIn X c.sub;have JT:Looks (model prog w) b8 (isInstance (.ref x) (.type "BaseException")) true:=rR.andThen JS;unfold getAttr? getAttrBy? getAttrBy;refine wpAny_bind (wpAny_mkText (wpAny_bind (wpAny_attempt (wpAny_holding (wpAny_bind (rR.at (wpAny_bind (t6.at ?_))))))));show wpAny _ _ (getAttrByItsOwn _ _ _ _ _ _) _ _ _;unfold getAttrByItsOwn hookBefore;refine wpAny_bind (_L.at (wpAny_bind (wpAny_attempt (wpAny_holding ?_))));show wpAny _ _ (bindSpecial _ _ >>= _) _ _ _;rw[F.excAttr_ValueError.ga.bind (.ref x)];refine wpAny_bind (wpAny_pure (wpAny_call (codeAny_call_builtin F.excAttr_ValueError.ga.plain F.entry_bexc_ga ?_)));have bH:builtinKind "BaseException.__getattribute__" =some .slot:=by decide+kernel
 have jc:splitId "BaseException.__getattribute__" =some ("BaseException","__getattribute__"):=by decide+kernel
 have bK:=F.args_bexc_ga (.ref x) (.str "__class__" t);have JU:∀(Q:Unit->Shared->Prop)(E:Value->Shared->Prop),Q () ⟨b8,g,d,t+1,os⟩->wpAny (model prog w) A.in1 (checkBuiltinCall "BaseException.__getattribute__" ⟨[.ref x,.str "__class__" t],[]⟩) Q E ⟨b8,g,d,t+1,os⟩:=λQ E fH=>by
  simp only[checkBuiltinCall,bH,jc];refine wpAny_bind (JT.at ?_);simp only[Bool.not_true,Bool.false_eq_true,if_false];cases JV:Manifest.signature? "BaseException.__getattribute__" with
  |none=>exact wpAny_pure fH
  |some sig=>
   simp only[argsOk,JV] at bK;have aD:Bind.checkArgs "BaseException.__getattribute__" sig ⟨[.ref x,.str "__class__" t],[]⟩=pure ():=bK;show wpAny _ _ (Bind.checkArgs "BaseException.__getattribute__" sig ⟨[.ref x,.str "__class__" t],[]⟩) Q E _;rw[aD];exact wpAny_pure fH
 refine JU _ _ ?_;refine ZkG (s:=⟨b8,g,d,t+1,os⟩) (A:=A.in1) X I c ?_;exact handed_on rfl (wpAny_pure h)
theorem JW(c:Up K C):KitX K (.ref x) (.ref C) (oI x C) where
 ty:=λ_ _ _ I=>I.type
 it:=λ_ _ X _=>by
  obtain⟨JX,mx⟩:=qbJ.mp c.cl;unfold clsIn at mx
  split at mx
  .rename_i d7 d' cd' qS b6;intro ke n9 cR s' k q;unfold isType loadHead;exact wpAny_bind (wpAny_loadPart (k _ _ (X _ _ b6)) (wpAny_pure q))
  .cases mx
 ne:=λh iB dd its n sl X JY=>by
  obtain⟨JX,mx⟩:=qbJ.mp c.cl;refine Bool.eq_false_iff.mpr λq=>?_;have e:C=iB:=Value.ref.inj (beq_iff_eq.mp q);subst e;unfold clsIn at mx
  split at mx
  .rename_i d7 d' cd' qS b6;have z:=(X _ _ b6).symm.trans JY;cases z
  .cases mx
 ca:=λX I k=>Zkp X I c k
end
noncomputable def t7 (x C:Addr) (v:Value):HO:= .ext λh=>oI x C h/\en v h x
noncomputable abbrev nB (x C:Addr):HO:=t7 x C .none
section
variable {X:Cx}
def B1 (K:Frag):List V->Hp->VK->Prop:=λxs H Q=>∃(x C:Addr)(dU:Value)(c:V)(u:Value)(b:Bool),xs=[.ref x,c]/\H x=some (t7 x C dU)/\Up K C/\(∀v,c4 c v->v=u)/\kitOne K (.ref C) u=some b/\Q (.bl b) H
theorem JZ{K:Frag}(e:X.K=K):YL X (.builtin "isinstance") (B1 K):=by
 subst e;intro aq s ao H xs us Q I r h;obtain⟨x,C,dU,c,u,b,rfl,ar,j_,hu,bH,q⟩:=h;cases r with
 |cons cE e'=>
  obtain⟨v,rfl,dC⟩:=W8 e';cases (show _=Value.ref x from cE);have e3:=hu v dC;subst e3;obtain⟨⟨J0,_⟩,_,_⟩:=(show Z3 X.prog X.w H s.heap x (t7 x C dU) from I.hok x _ ar);exact kia_one (JW j_) I.kIn J0 bH (λz=>nomatch z) λce=>⟨.bl b,H,I.tok ce,rfl,q⟩
end
end _L
namespace _L
open PySem PySem.Spec PyProof.Rows
section
variable {X:Cx}{aq:List (Addr×Obj)}{ao:List (Option V)}{H:Hp}{s:Shared}
theorem Inv.track{cw:Addr}{o:HO}(I:Inv X aq ao H s)(c0:∀dj,X.s₀.heap.get? cw=some dj->cw∈X.ex)(gX:cw≠X.env.locals)(a_:∀x c,X.env.cells.lookup x=some c->c≠cw)(bO:∀p∈X.pn++aq,p.1≠cw)(b':H cw=none)
  (new:Z3 X.prog X.w (upd H cw o) s.heap cw o):Inv X aq ao (upd H cw o) s:=by
 refine⟨I.ok,I.os,I.bare,⟨I.base.keep,I.base.slot,λb dj e n ar=>?_,I.base.there,λb xs e=>?_,λb dj u e=>?_,λb ci e=>?_⟩,I.loc,I.cell,?_,λx c e=>?_,λp t8=>?_,λb u e=>?_,I.len⟩
 .rw[b3 (λz=>ar (by rw[z];exact c0 dj (by rw[<-z];exact e)))];exact I.base.free b dj e n ar
 .rw[b3 (dh (I.base.tups b xs e) b')];exact I.base.tups b xs e
 .rw[b3 (dh (I.base.frzs b dj u e) b')];exact I.base.frzs b dj u e
 .obtain⟨more,q⟩:=I.base.tbls b ci e;exact⟨more,by rw[b3 (dh q b')];exact q⟩
 .rw[b3 (qaY gX)];exact I.free
 .rw[b3 (a_ x c e)];exact I.freeC x c e
 .obtain⟨a,b,r⟩:=I.pin p t8;exact⟨a,by rw[b3 (bO p t8)];exact b,r⟩
 .by_cases au:b=cw
  .subst au;rw[Ze] at e;cases e;exact new
  .rw[b3 au] at e;exact(I.hok b u e).stay (λc v _ q=>q) (λc q=>by rw[b3 (dh q b')];exact q) λc xs q=>by rw[b3 (dh q b')];exact q
theorem Inv.dropName{h':Heap}{t':Nat}{j:Nat}{n:Str}{m:Str->Option Value}{v:Option Value}(I:Inv X aq ao H s)(eV:X.N.Nodup)(bP:X.N[j]? =some n)(hs:Heap.SameBut X.env.locals s.heap h')
  (bL:∀(i:Nat) x w,X.N[i]? =some x->ao[i]? =some (some w)->Vis X.env.scope x->∃u,c4 w u/\Zn3 X.env s.heap m x u) (b':h'.Ns X.env.locals (λx=>if x=n then v else m x)):Inv X aq (ao.set j none) H {s with heap:=h',toks:=t'}:=by
 have pD:∀b o,X.s₀.heap.get? b=some o->b≠X.env.locals:=λb o e=>qas (qae (Heap.lt_size e) I.ok.above);have k:∀b o,b≠X.env.locals->s.heap.get? b=some o->h'.get? b=some o:=λb o au e=>(hs.2 b au).trans e;refine⟨I.ok,I.os,I.bare,⟨λb o e fJ au ar=>k b o (pD b o e) (I.base.keep b o e fJ au ar),λb o e fJ au ar=>?_,I.base.free,λb o e ar=>?_,I.base.tups,I.base.frzs,I.base.tbls⟩,⟨_,b',λi x w bJ bX dn=>?_⟩,λx c e=>?_,I.free,I.freeC,λp bO=>?_,λb u e=>?_,by rw[qaP];exact I.len⟩
 .obtain⟨sl,q⟩:=I.base.slot b o e fJ au ar;exact⟨sl,k b _ (pD b o e) q⟩
 .obtain⟨cT,q⟩:=I.base.there b o e ar;exact⟨cT,k b cT (pD b o e) q⟩
 .by_cases xc:i=j
  .subst xc;have:(ao.set i none)[i]? =some none\/(ao.set i none)[i]? =none:=by
    rcases qcc i ao.length with z|z
    .exact .inl (by rw[qa1 z])
    .exact .inr (qbu (by rw[qaP];exact z))
   rcases this with z|z<;>(rw[z] at bX;cases bX)
  .rw[qbm (λz=>xc z.symm)] at bX;obtain⟨u,r,l⟩:=bL i x w bJ bX dn;have nx:x≠n:=λz=>xc (vZ eV (by rw[bJ,z]) bP);refine⟨u,r,?_⟩;rcases l with⟨a,b⟩|⟨a,c,e,o,b6,hd⟩
   .exact .inl ⟨a,by simp only[if_neg nx];exact b⟩
   .exact .inr ⟨a,c,e,o,k c o (I.cne x c e) b6,hd⟩
 .obtain⟨w,o,b6,hd⟩:=I.cell x c e;exact⟨w,o,k c o (I.cne x c e) b6,hd⟩
 .obtain⟨a,b,c,r⟩:=I.pin p bO;exact⟨k _ _ c a,b,c,r⟩
 .refine(I.hok b u e).stay (λc iM a_ q=>k c iM ?_ q) (λ_ q=>q) λ_ _ q=>q;rcases a_ with z|z
  .rw[z];exact dh e I.free
  .exact dh z I.free
end
section
variable {X:Cx}
def J2 (K:Frag) (c:Value) (j:Nat) (cN:(St->Prop)->XK->TS) (th:Addr->TS):TS:=λD ao H=>∃(J:St->Prop)(fU:XK),cN J (noC fU) D ao H/\∀b1 cls aj,J b1->fU cls none aj->exmOne K cls c=some true/\∃C,cls= .ref C/\∀cw,aj cw=none->
 th cw {D with nx:=λcx aP=>D.nx (cx.set j none) aP,bk:=λcx aP=>D.bk (cx.set j none) aP,ct:=λcx aP=>D.ct (cx.set j none) aP} (b1.set j (some (.ref cw))) (upd aj cw (nB cw C))
def B2 (K:Frag) (c:Value) (j:Nat) (cN:(St->Prop)->XK->TS) (th:TS):TS:=λD ao H=>∃(J:St->Prop)(fU:XK),cN J (noC fU) D ao H/\∀b1 cls aj,J b1->fU cls none aj->exmOne K cls c=some true/\∃C,cls= .ref C/\∀cw,aj cw=none->
 th {D with nx:=λcx aP=>D.nx (cx.set j none) aP,bk:=λcx aP=>D.bk (cx.set j none) aP,ct:=λcx aP=>D.ct (cx.set j none) aP} (b1.set j (some (.ref cw))) (upd aj cw (nB cw C))
theorem ZjR{n:Str}{j:Nat}{body:List Stmt}{lE:Stmt}{kd:List Stmt}{x:Str}{gK kS pos:Pos}{cN:(St->Prop)->XK->TS}{th:Addr->TS}{C:Addr}
  (dM:X.stack=X.env::X.outer) (fq:X.env.frame=some X.env.locals) (bR:Gl X x) (bL:X.mg x=some (.ref C)) (au:Zls X body cN) (hs:∀cw,PSs {X with A:=X.A.mark (some (.ref cw)),calm:=false,xe:=λ_ _=>False} (lE::kd) (th cw)) (eV:X.N.Nodup) (bP:X.N[j]? =some n) (nC:X.env.scope.names.lookup n=some .local) (fj:(x==("__debug__" :Str))=false:=by decide):
  PS X (.Try body [.ExceptHandler (some (.Name x gK)) (some n) (lE::kd) kS] [] [] pos) (J2 X.K (.ref C) j cN th):=by
 intro aq s ao H D I h;obtain⟨J,fU,fV,b8⟩:=h;have wQ:X.A.frames=some (X.env::X.outer):=by rw[I.ok.frames,dM]
 refine wpAny_Try_except ?_
 let iX:Value->Shared->Prop:=λe dL=>wpAny (model X.prog X.w) X.A (noteFrame e X.env) (λ_ j7=>wpAny (model X.prog X.w) X.A (setFlight e none) (λ_ iO=>wpAny (model X.prog X.w) X.A (handleBy e X.env [.ExceptHandler (some (.Name x gK)) (some n) (lE::kd) kS]) (SP X aq D) X.xe iO) X.xe j7) X.xe dL
 have own:PassesOwn (model X.prog X.w) X.A X.env iX:=PassesOwn.looking;have kc:∀{xe:Value->Shared->Prop}{lx:List (Addr×Obj)}{b1:St}{aj:Hp}{s':Shared},Inv {X with pn:=X.pn++aq,xe:=xe} lx b1 aj s'->Inv X aq b1 aj s':=λ{xe lx b1 aj s'} J=>by
  have o:=J.ok;exact⟨⟨o.mod,o.kind,o.glob,o.blt,o.above,o.inj,o.has,o.cab,o.hd,o.frames,o.stk,o.exf,o.bs,o.bsz,o.noex,o.exfs,o.funs,o.frf⟩,J.os,J.bare,J.base,J.loc,J.cell,J.free,J.freeC,λp bO=>J.pin p (qbe _ bO),J.hok,J.len⟩
 have wR:Inv {X with pn:=X.pn++aq,xe:=iX} [] ao H s:=by
  have o:=I.ok;exact⟨⟨o.mod,o.kind,o.glob,o.blt,o.above,o.inj,o.has,o.cab,o.hd,o.frames,o.stk,o.exf,o.bs,o.bsz,o.noex,o.exfs,o.funs,o.frf⟩,I.os,I.bare,I.base,I.loc,I.cell,I.free,I.freeC,λp bO=>I.pin p (by simpa using bO),I.hok,I.len⟩
 have wS:VD (CXX X.prog X.w) {X with pn:=X.pn++aq,xe:=iX} J (noC fU):=by
  intro lx b1 aA a' e s' jK bT hcx;obtain⟨cw,cls,a0,aj,B,rfl,os,bare,un,ok,fl,fC,_,hl,q⟩:=hcx;rcases q with⟨rfl,q⟩|⟨_,_,_,q⟩
  case inr=>exact False.elim q
  have ek:=kc bT;obtain⟨wT,t9,rfl,wU⟩:=b8 b1 cls aj jK q;have wV:Heap.FlyingW B (X.env::X.outer) cw (.ref t9) a0 s'.heap:=by rw[<-dM];exact fl
  show wpAny _ _ _ _ _ _;refine Zkl hl wQ fq wV λww held₄ rB J3=>?_;refine Znz J3 held₄ λrd fl₅ rC J4=>?_;have there:∀{dq:Heap},Heap.FlyingW B (X.env::X.outer) cw (.ref t9) a0 dq->s'.heap.UpToSlots dq->Inv X aq b1 aj {s' with heap:=dq}:=λ{dq} pS sl=>by
   have wW:Un (frs X.stack) [] aA aj a'.heap dq:=un.fly fC pS.1 sl (λb au o e=>by
    obtain⟨_,cT,cv,d⟩:=ek.stack.mem au;rw[e] at cv;cases cv;exact d) ek.stkFree
   exact ek.call' (s':={s' with heap:=dq}) os wW (ok.stays (λb o e n=>fC b o e (.inl n)) pS.1) bare (λb z=>absurd z (by simp))
  have rD:∀{c8:Shared},Inv X aq b1 aj c8->Inv {X with A:=X.A.mark (some (.ref cw)),calm:=false,xe:=λ_ _=>False} aq b1 aj c8:=λ{c8} J=>by
   have o:=J.ok;exact⟨⟨o.mod,o.kind,o.glob,o.blt,o.above,o.inj,o.has,o.cab,λz=>absurd (show false=true from z) qam,o.frames,o.stk,o.exf,o.bs,o.bsz,o.noex,o.exfs,o.funs,o.frf⟩,J.os,J.bare,J.base,J.loc,J.cell,J.free,J.freeC,J.pin,J.hok,J.len⟩
  have iP:=rD (there fl₅ (rB.trans rC));refine wpAny_handleBy_cons (codeAny_handlers_test ?_) (by intro q;cases q);refine mn iP bR bL ?_ fj;obtain⟨dj,wX,wY⟩:=fl₅.there;have LT:PySem.W.Looks (model X.prog X.w) rd (typeOf (.ref cw)) (.ref t9):=by
   exact wY▸(PySem.W.Looks.ld wX).andThen .now
  refine(exm_one iP.kIn LT wT).here ?_;refine codeAny_handlers_suite_as ?_;refine ZgL J4 fl₅ λBt fl₆ wZ J7=>?_;have g0:=rD (there fl₆ ((rB.trans rC).trans wZ));obtain⟨t_,mh,TZ⟩:=fl.there;have jC:∀b o,a'.heap.get? b=some o->b≠cw:=λb o e z=>by
   subst z
   by_cases bS:b∈frs X.stack
   .obtain⟨_,cT,cv,d⟩:=ek.stack.mem bS;obtain⟨sl,io⟩:=un.any cv (ek.stkFree b bS) (by simp);obtain⟨T0,vs,kj,_,rS,_⟩:=fl.first;rw[io] at kj;cases kj;exact d vs rS
   .have:=fC b t_ mh (.inr ⟨⟨o,e⟩,bS⟩);rw[fl.2.1] at this;cases this
  have jf:aj cw=none:=by
   cases e:aj cw with
   |none=>rfl
   |some o=>
    have:=fC cw t_ mh (.inl (by rw[e];simp));rw[fl.2.1] at this;cases this
  have c0:∀dj,X.s₀.heap.get? cw=some dj->cw∈X.ex:=λdj e=>by
   by_cases ar:cw∈X.ex
   .exact ar
   .obtain⟨cT,io⟩:=ek.base.there cw dj e ar;exact absurd rfl (jC cw cT io)
  obtain⟨B3,B4,J9⟩:=fl₆.there;have h2:=Inv.track (o:=nB cw t9) g0 c0 (λz=>by
   obtain⟨m,⟨o,b7,ep,b6,_⟩,_⟩:=ek.loc;exact jC _ o b6 z.symm) (λy c e=>by
   obtain⟨v,o,b6,_⟩:=ek.cell y c e;exact jC c o b6) (λiR t8=>jC _ _ (ek.pin iR t8).1) jf ⟨⟨⟨B3,B4,J9⟩,J7⟩,⟨B3,B4⟩,λay aD ⟨⟨o,a1,a2⟩,n⟩ k=>⟨⟨o,k o a1,a2⟩,n.keeps k⟩⟩
  refine qU (X:={X with A:=X.A.mark (some (.ref cw)),calm:=false,xe:=λ_ _=>False}) h2 eV bP (.inl nC) (show c4 (.ref cw) (.ref cw) from rfl) (λd5 rn=>?_) (.inr nC);refine wpAny_mono (hs cw aq d5 _ _ _ rn (wU cw jf)) (λf bQ aD=>?_) λ_ _ z=>False.elim z;have mG:∀{cx:St}{aP:Hp}{bQ:Shared},Inv {X with A:=X.A.mark (some (.ref cw)),calm:=false,xe:=λ_ _=>False} aq cx aP bQ->Inv X aq cx aP bQ:=λ{cx aP bQ} J=>by
   have o:=J.ok;exact⟨⟨o.mod,o.kind,o.glob,o.blt,o.above,o.inj,o.has,o.cab,I.ok.hd,I.ok.frames,o.stk,o.exf,o.bs,o.bsz,o.noex,o.exfs,o.funs,o.frf⟩,J.os,J.bare,J.base,J.loc,J.cell,J.free,J.freeC,J.pin,J.hok,J.len⟩
  have ua:∀{cx:St}{aP:Hp}{bQ:Shared}{Q:Unit->Shared->Prop},Inv X aq cx aP bQ->(∀bV,Inv X aq (cx.set j none) aP bV->Q () bV)->wpAny (model X.prog X.w) X.A (do bindName X.env n .none;unbindBehindTheSuite X.env n kS) Q X.xe bQ:=λ{cx aP bQ Q} J cC=>by
   refine wpAny_bind (wpAny_bindName (qU (u:= .none) J eV bP (.inl nC) (show c4 .non .none from rfl) (λbV iD=>?_) (.inr nC)));obtain⟨m,b',ap⟩:=iD.loc;have v1:(X.env.scope.kind== .class||(X.env.scope.kind== .module&&X.env.locals != X.env.globals))=false:=by rw[iD.ok.kind];rfl
   have B6:X.env.kindOf n=some .local:=nC;unfold unbindBehindTheSuite;refine wpAny_onRaise ?_;unfold unbindName;refine wpAny_bind (wpAny_point (wpAny_bind ?_));unfold deleteName;simp only[B6,v1];rw[if_neg (by decide)];refine wpAny_bind (wpAny_nsDel_keeps b' λwv v hn₂ J_=>?_);have oJ:Inv X aq ((cx.set j (some .non)).set j none) aP {bV with heap:=wv,toks:=bV.toks}:=iD.dropName eV bP J_ ap hn₂;rw[List.set_set] at oJ;have fc:j<cx.length:=by rw[J.len];exact(qad.mp bP).1
   have J':(m n).isSome=true:=by
    obtain⟨u,r,l⟩:=ap j n .non bP (by rw[qa1 fc]) (.inl nC);rcases l with⟨_,b⟩|⟨a,_⟩
    .rw[b];rfl
    .rcases a with a|a<;>(rw[B6] at a;cases a)
   rw[J'];simp only[if_true,Bool.not_true,Bool.false_eq_true,if_false];exact wpAny_pure (wpAny_point (cC _ oJ))
  show wpAny (model X.prog X.w) X.A (do bindName X.env n .none;unbindBehindTheSuite X.env n kS) (λ_ iO=>SP X aq D f iO) X.xe bQ;cases f with
  |next=>obtain⟨cx,aP,eP,cP⟩:=aD;exact ua (mG eP) λbV iD=>⟨_,aP,iD,cP⟩
  |brk=>obtain⟨cx,aP,eP,cP⟩:=aD;exact ua (mG eP) λbV iD=>⟨_,aP,iD,cP⟩
  |cont=>obtain⟨cx,aP,eP,cP⟩:=aD;exact ua (mG eP) λbV iD=>⟨_,aP,iD,cP⟩
  |ret u=>obtain⟨v,cx,aP,eP,cY,cP⟩:=aD;exact ua (mG eP) λbV iD=>⟨v,_,aP,iD,cY,cP⟩
 refine wpAny_mono (au J (noC fU) (X.pn++aq) iX own wS [] s ao H D wR fV) (λf a' ay=>?_) λe a' ay=>ay;cases f with
 |next=>
  obtain⟨cx,aP,eP,cP⟩:=ay;show wpAny _ _ (execs [] X.env) _ _ _;exact wpAny_pure ⟨cx,aP,kc eP,cP⟩
 |brk=>obtain⟨cx,aP,eP,cP⟩:=ay;exact⟨cx,aP,kc eP,cP⟩
 |cont=>obtain⟨cx,aP,eP,cP⟩:=ay;exact⟨cx,aP,kc eP,cP⟩
 |ret u=>obtain⟨v,cx,aP,eP,cY,cP⟩:=ay;exact⟨v,cx,aP,kc eP,cY,cP⟩
theorem Ka{n:Str}{j:Nat}{body:List Stmt}{lE:Stmt}{kd:List Stmt}{x:Str}{gK kS pos:Pos}{cN:(St->Prop)->XK->TS}{th:TS}{C:Addr}
  (dM:X.stack=X.env::X.outer) (fq:X.env.frame=some X.env.locals) (bR:Gl X x) (bL:X.mg x=some (.ref C)) (au:Zls X body cN) (hs:Zkc X (lE::kd) th) (eV:X.N.Nodup) (bP:X.N[j]? =some n) (nC:X.env.scope.names.lookup n=some .local) (fj:(x==("__debug__" :Str))=false:=by decide):
  PS X (.Try body [.ExceptHandler (some (.Name x gK)) (some n) (lE::kd) kS] [] [] pos) (B2 X.K (.ref C) j cN th):=
 ZjR (th:=λ_=>th) dM fq bR bL au (λcw=>hs _) eV bP nC fj
end
namespace Rd
section
variable {ao:St}{H:Hp}{Q:VK}{K:Frag}
theorem Zo7{c:Value}{j:Nat}{cN:(St->Prop)->XK->TS}{th:TS}{D:Vd}(fU:XK)(au:cN (λs=>s=ao) (noC fU) D ao H)(b8:∀cls aj,fU cls none aj->exmOne K cls c=some true/\∃C,cls= .ref C/\∀cw,aj cw=none->
  th {D with nx:=λcx aP=>D.nx (cx.set j none) aP,bk:=λcx aP=>D.bk (cx.set j none) aP,ct:=λcx aP=>D.ct (cx.set j none) aP} (ao.set j (some (.ref cw))) (upd aj cw (nB cw C))):B2 K c j cN th D ao H:=
 ⟨λs=>s=ao,fU,au,λ_ cls aj e h=>e▸b8 cls aj h⟩
theorem Zpq{x C B:Addr}{dU:Value}{b:Bool}(h:H x=some (t7 x C dU))(j_:Up K C)(k:PySem.W.kitOne K (.ref C) (.ref B)=some b)(q:Q (.bl b) H):B1 K [.ref x,.ref B] H Q:=⟨x,C,dU,.ref B,.ref B,b,rfl,h,j_,λv r=>r,k,q⟩
end
end Rd
theorem ZkX{K:Frag}{C:Addr}{bm:List Value}{n:String}(h:excIn K C bm n=true):(PySem.W.clsIn K C).isSome=true:=by
 unfold excIn at h
 split at h
 .rename_i dd cu sl b6;unfold PySem.W.clsIn;rw[b6]
  rfl
 .cases h
section
variable {X:Cx}{CX:CXT}{j k:Nat}{C:Addr}{ci:List Str}{sp:Sp}{E:XK}{x q:Str}{st:Stmt}{p pos:Pos}{e:Expr}{b7:List Expr}{t:TA}{J:St->Prop}
theorem Kb(D:Di X.K C q st ci)(F:YE X.prog X.w X.K X.mg X.base CX j D.f D.d ci sp)(aC:ez (k+1) X.A)(bL:X.mg x=some (.ref C))(ar:VD CX X J E)(bK:PA X (e::b7) t)(bP:Nat.ble j k=true:=by rfl)(bR:Gl X x:=by rfl)
  (fj:(x==("__debug__" :Str))=false:=by decide) (b9:starEach (e::b7) X.env=(false,eval e X.env)::starEach b7 X.env:=by rfl) (e2:(backTo pos (starEach b7 X.env)).any (·.1)=false:=by rfl):
  PE X (.Call (.Name x p) (e::b7) [] pos) (ZgX J C sp [] E t):=by
 intro aq s ao H Q I h;obtain⟨jK,h⟩:=h;have B7:=F.mono (qaT bP);refine wpAny_Call_Name_kw (mn I bR bL ?_ fj);refine callWith_K (h₀:=X.base) I.ok.mod.kin D.M.kp (thn (bK pos aq s ao H _ I h) λus a' ⟨vs,aA,bT,r,h⟩=>⟨bT.kIn,?_⟩) b9 e2;have cC:=h (a'.heap.objs.size+1) a'.heap.objs.size (bT.hok.fresh (Nat.le_succ _)) (bT.hok.fresh (qaa _)) (qas (Nat.lt_succ_self _));have cU:=Inv.made (C:=C) bT;have cY:cW (V.ref (a'.heap.objs.size+1)::(vs++ [])) (Value.ref (a'.heap.objs.size+1)::(us++ [])):= .cons rfl (r.append .nil);have ap:(Value.ref (a'.heap.objs.size+1)::us++ []).length=ci.length:=by
  have e:=cY.length;rw[B7.len _ _ _ _ cC] at e;exact e.symm
 have au:=D.b {a' with heap:=(a'.heap.push emptyDict).push (instObj C a'.heap.objs.size)} (Value.ref (a'.heap.objs.size+1)::us) cU.kIn ap;rw[List.cons_append] at au;refine wpAny_call (AZ (f:=D.f) bT.kIn D.M.makes D.M.init (beq_iff_eq.mp D.M.fn) (codeAny_mono (B7.run _ X.stack _ _ ⟨Value.ref (a'.heap.objs.size+1)::us,[]⟩ (Value.ref (a'.heap.objs.size+1)::(us++ [])) _ _ E (aC.make C us [])
  (cU.env0.make C us []) au cY cC) λr s' j8=>?_))
 cases r with
 |error e=>exact ar aq ao _ _ e s' jK cU j8
 |ok fl=>
  cases fl with
  |ret u=>
   obtain⟨v,aj,d_,dC,e3,gJ⟩:=cU.after j8;subst e3;exact⟨dC,⟨V.ref (a'.heap.objs.size+1),aj,d_,rfl,gJ⟩⟩
  |next=>exact False.elim j8
  |brk=>exact False.elim j8
  |cont=>exact False.elim j8
end
section
variable {X:Cx}{K:Frag}
def B8 (K:Frag):V->List V->Hp->VK->Prop:=λx vs H Q=>∃(l:Addr)(ns:List Int)(k:Int),x= .ref l/\vs=[.int k]/\SqL K H l (ns.map V.int)/\Q (.int (ns.count k:Nat)) H
theorem Kc(fF:X.K=K):MtM X "list.count" (B8 K):=by
 subst fF;intro aq s ao H x vs v us Q I cy dC h;obtain⟨l,ns,k,rfl,rfl,iV,q⟩:=h;cases cy;obtain⟨u,rfl,t,rfl⟩:=W8 dC;obtain⟨its,r,pl,bU⟩:=I.list iV;exact count_list_ints pl.isList (A8 r) ⟨.int _,H,I.tok _,⟨_,rfl⟩,q⟩
end
namespace Rd
theorem Zop{H:Hp}{K:Frag}{Q:VK}{l:Addr}{ns:List Int}{k:Int}(h:SqL K H l (ns.map V.int))(q:Q (.int (ns.count k:Nat)) H):B8 K (.ref l) [.int k] H Q:=⟨l,ns,k,rfl,rfl,h,q⟩
end Rd
section
variable {prog:Program}{w:World}{A:Around}{E:Value->Shared->Prop}{s:Shared}
theorem Zlg{it t:Addr}{i:Nat}{items:Array Value}{x:Value}{Q:Value->Shared->Prop}(a1:s.heap.IsTupleIter it t i)(a2:s.heap.IsTuple t items)(a3:items[i]? =some x)(fH:∀h',h'.IsTupleIter it t (i+1)->Heap.SameBut it s.heap h'->Q x {s with heap:=h'}):
  wpAny (model prog w) A (Builtin.SmallTypes.nextOf (.ref it)) Q E s:=by
 obtain⟨o,b6,a_,hd⟩:=id a1;obtain⟨T1,Kd,_,xf,oK⟩:=a2;unfold Builtin.SmallTypes.nextOf;refine wpAny_bind (wpAny_callSpecial?_slot (name:=Str.ofString "__next__") a1.typeIs F.slot_tuple_iterator_next (wpAny_call_entry F.slot_tuple_iterator_next a1.typeIs F.entry_tuple_iterator_next ?_ (F.args_tuple_iterator_next_1 _)));show wpAny _ _ (field (.ref it) 0 >>= _) _ _ s;refine wpAny_bind (wpAny_field b6 hd (x:= .ref t) rfl ?_);rw[if_neg (show ¬((Value.ref t==Value.none)=true) from qam)];refine wpAny_bind (wpAny_field b6 hd (x:= .int i 0) rfl (wpAny_bind (wpAny_seqItems Kd oK ?_)));simp only[GT,a3];refine wpAny_bind (wpAny_setField b6 hd (by simp) (wpAny_pure ⟨x,rfl,wpAny_pure (fH _ ?_ (Heap.SameBut.update ..))⟩));refine⟨_,Heap.get?_update_self _ b6 (Obj.isFreed_of_fields (Obj.data_mapFields hd _)),(Obj.cls_mapFields ..).trans a_,?_⟩;rw[Obj.data_mapFields hd];simp[rawInt]
structure ub(h:Heap)(z TI TO dF eb a b:Addr)(i:Nat):Prop where
 zip:IsZip h z TI TO .none
 ti:IsPair h TI (.ref dF) (.ref eb)
 to:∃x y,IsPair h TO x y
 l1:h.IsListIter dF a i
 l2:h.IsTupleIter eb b i
theorem ZjZ{h:Heap}{t b:Addr}{ys:Array Value}{o:Obj}(bY:h.IsTuple t ys)(b6:h.get? b=some o)(a_:o.cls≠ .type "tuple"):t≠b:=λz=>by
 subst z;obtain⟨cT,eW,eE,_⟩:=bY;rw[b6] at eW;cases eW;exact a_ eE
theorem ZjP{z TI TO dF eb a b:Addr}{i:Nat}{xs ys:Array Value}{x y:Value}{Q:Option Value->Shared->Prop}(D:ZaU z TI TO dF eb)(st:ub s.heap z TI TO dF eb a b i)(bK:s.heap.IsList a xs)(au:s.heap.IsTuple b ys)(Ke:b≠TO)(ar:xs[i]? =some x)(bW:ys[i]? =some y)
  (fH:∀h',IsZip h' z TI TO (rawInt s.heap.objs.size)->IsPair h' TO x y->h'.IsListIter dF a (i+1)->h'.IsTupleIter eb b (i+1)->IsPair h' s.heap.objs.size x y->(∀c o,c≠z->c≠TO->c≠dF->c≠eb->s.heap.get? c=some o->h'.get? c=some o)->Q (some (.ref s.heap.objs.size)) {s with heap:=h'}):
  wpAny (model prog w) A (pyNext (.ref z)) Q E s:=by
 obtain⟨B9,nt,hE⟩:=st.to;obtain⟨mM,g1,fg,_⟩:=id st.l1;obtain⟨hb,g2,e6,_⟩:=id st.l2;have xg:a≠z:=lH bK st.zip (show Value.type "zip" ≠Value.type "list" by decide);have Kf:b≠z:=ZjZ au st.zip (show Value.type "zip" ≠Value.type "tuple" by decide);have Kg:b≠dF:=ZjZ au g1 (by rw[fg];decide);have c1:s.TypeIs (.ref z) "zip" :=⟨_,st.zip,rfl⟩;unfold pyNext;refine wpAny_bind (wpAny_attempt (wpAny_callSpecial?_slot (name:=Str.ofString "__next__") c1 F.slot_zip_next (wpAny_call_entry F.slot_zip_next c1 F.entry_zip_next ?_ (F.args_zip_next_1 _))));show wpAny _ _ (field (.ref z) 2 >>= _) _ _ _;refine wpAny_bind (wpAny_field st.zip rfl (x:= .bool false) rfl (wpAny_bind (wpAny_field st.zip rfl (x:= .ref TI) rfl (wpAny_bind (wpAny_seqItems st.ti rfl (wpAny_bind ?_))))));unfold Builtin.SmallTypes.ownedTupleIsFree;refine wpAny_bind (wpAny_field st.zip rfl (x:= .none) rfl (wpAny_pure ?_));simp only[if_true];refine wpAny_bind (wpAny_rule (wpAny_bind (wpAny_field st.zip rfl (x:= .ref TO) rfl (wpAny_bind (wpAny_setField_rec st.zip (by simp) λxh cK k1=>?_)))));replace cK:IsZip xh z TI TO .ellipsis:=cK;refine wpAny_bind ?_;simp only[List.zipIdx_cons,List.zipIdx_nil,qb6,List.forIn_nil];refine wpAny_bind (wpAny_bind (wpAny_onRaise (wpAny_bind (wpAny_nextOf_list_item (st.l1.extBut k1.extBut D.i1z) (bK.extBut k1.extBut xg) ar λxi l2 k2=>wpAny_pure ?_))));have B_:IsPair xi TO B9 nt:=k2.extBut _ _ D.TOi1 (k1.extBut _ _ D.TOz hE);refine wpAny_bind (wpAny_seqItems B_ rfl (wpAny_bind (wpAny_updateSeq_pair B_ λB' xj k3=>?_)));replace xj:IsPair B' TO x nt:=xj;refine wpAny_bind (wpAny_letGo (wpAny_pure (wpAny_bind (wpAny_bind (wpAny_onRaise (wpAny_bind ?_))))));refine Zlg (((st.l2.extBut k1.extBut D.i2z).extBut k2.extBut D.i12.symm).extBut k3.extBut D.TOi2.symm) (((au.extBut k1.extBut Kf).extBut k2.extBut Kg).extBut k3.extBut Ke) bW λKh l4 oL=>wpAny_pure ?_;have Ca:IsPair Kh TO x nt:=oL.extBut _ _ D.TOi2 xj;refine wpAny_bind (wpAny_seqItems Ca rfl (wpAny_bind (wpAny_updateSeq_pair Ca λjO uc k5=>?_)));replace uc:IsPair jO TO x y:=uc;refine wpAny_bind (wpAny_letGo (wpAny_pure (wpAny_pure (wpAny_bind (wpAny_seqItems uc rfl (wpAny_bind (wpAny_newTuple ?_)))))));have sz:jO.objs.size=s.heap.objs.size:=by rw[k5.1,oL.1,k3.1,k2.1,k1.1]
 have ef:IsZip jO z TI TO .ellipsis:=k5.extBut _ _ D.TOz.symm (oL.extBut _ _ D.i2z.symm (k3.extBut _ _ D.TOz.symm (k2.extBut _ _ D.i1z.symm cK)));have Ki:∀c o,c≠z->c≠TO->c≠dF->c≠eb->s.heap.get? c=some o->jO.get? c=some o:=λc o eK fL jD kW q=>k5.extBut _ _ fL (oL.extBut _ _ kW (k3.extBut _ _ fL (k2.extBut _ _ jD (k1.extBut _ _ eK q))));have f1:jO.IsListIter dF a (i+1):=((l2.extBut k3.extBut D.TOi1.symm).extBut oL.extBut D.i12).extBut k5.extBut D.TOi1.symm;have f2:jO.IsTupleIter eb b (i+1):=l4.extBut k5.extBut D.TOi2.symm;have nz:z<jO.objs.size:=Heap.lt_size ef;refine wpAny_bind ?_;unfold Builtin.SmallTypes.ownedTupleHandOut;have eR:IsZip (jO.push {cls:= .type "tuple",data:= .seq #[x,y]}) z TI TO .ellipsis:=Heap.get?_push_of_some _ ef;refine wpAny_bind (wpAny_setField_rec eR (by simp) λKj fw rT=>?_);replace fw:IsZip Kj z TI TO (rawInt jO.objs.size):=fw;refine wpAny_setField_rec fw (by simp) λud gT uf=>?_;replace gT:IsZip ud z TI TO (rawInt jO.objs.size):=gT;have up:∀c o,c≠z->jO.get? c=some o->ud.get? c=some o:=λc o n q=>uf.extBut _ _ n (rT.extBut _ _ n (Heap.get?_push_of_some _ q));have Cb:IsPair ud jO.objs.size x y:=uf.extBut _ _ (qbW nz) (rT.extBut _ _ (qbW nz) (Heap.get?_push_size _ rfl));rw[sz] at gT Cb;refine wpAny_pure ⟨_,rfl,wpAny_pure ?_⟩;show Q (some (.ref jO.objs.size)) _;rw[sz];exact fH ud gT (up _ _ D.TOz uc) (f1.at λo q=>up _ o D.i1z q) (f2.at λo q=>up _ o D.i2z q) Cb λc o eK fL jD kW q=>up c o eK (Ki c o eK fL jD kW q)
theorem Zk9{z TI TO dF eb a b:Addr}{i:Nat}{xs:Array Value}{Q:Option Value->Shared->Prop}(b8:A.handled=none)(D:ZaU z TI TO dF eb)(st:ub s.heap z TI TO dF eb a b i)(bK:s.heap.IsList a xs)(ar:xs[i]? =none)
  (fH:∀h',(∀c o,c≠z->c≠TO->c≠dF->c≠eb->s.heap.get? c=some o->h'.get? c=some o)->Q none {s with heap:=h'}):wpAny (model prog w) A (pyNext (.ref z)) Q E s:=by
 have xg:a≠z:=lH bK st.zip (show Value.type "zip" ≠Value.type "list" by decide);have c1:s.TypeIs (.ref z) "zip" :=⟨_,st.zip,rfl⟩;unfold pyNext;refine wpAny_bind (wpAny_attempt (wpAny_callSpecial?_slot (name:=Str.ofString "__next__") c1 F.slot_zip_next (wpAny_call_entry F.slot_zip_next c1 F.entry_zip_next ?_ (F.args_zip_next_1 _))));show wpAny _ _ (field (.ref z) 2 >>= _) _ _ _;refine wpAny_bind (wpAny_field st.zip rfl (x:= .bool false) rfl (wpAny_bind (wpAny_field st.zip rfl (x:= .ref TI) rfl (wpAny_bind (wpAny_seqItems st.ti rfl (wpAny_bind ?_))))));unfold Builtin.SmallTypes.ownedTupleIsFree;refine wpAny_bind (wpAny_field st.zip rfl (x:= .none) rfl (wpAny_pure ?_));simp only[if_true];refine wpAny_bind (wpAny_rule (wpAny_bind (wpAny_field st.zip rfl (x:= .ref TO) rfl (wpAny_bind (wpAny_setField_rec st.zip (by simp) λxh cK k1=>?_)))));replace cK:IsZip xh z TI TO .ellipsis:=cK;refine wpAny_bind ?_;simp only[List.zipIdx_cons,List.zipIdx_nil,qb6,List.forIn_nil];refine wpAny_bind (wpAny_bind (wpAny_onRaise (wpAny_bind (wpAny_nextOf_list_end b8 (st.l1.extBut k1.extBut D.i1z) (bK.extBut k1.extBut xg) ar λxi e k2 b9=>?_))));obtain⟨t_,xk,Cc⟩:=b9;have cO:IsZip xi z TI TO .ellipsis:=k2 _ _ D.i1z.symm cK;have Kk:e≠z:=λy=>by
  subst y;rw[cO] at xk;cases xk;simp at Cc
 refine wpAny_setField_rec cO (by simp) λB' _ k3=>?_;refine wpAny_bind (wpAny_isInstance (T:="StopIteration") (b:=true) ⟨t_,k3.extBut _ _ Kk xk,Cc⟩ isSubtype_stop ?_);exact wpAny_pure (fH _ λc o eK _ jD _ q=>k3.extBut _ _ eK (k2 _ _ jD (k1.extBut _ _ eK q)))
noncomputable def oM (h:Heap) (a b:Addr):Heap:=
 ((((h.push {cls:= .type "list_iterator",data:= .fields #[.ref a,.int 0 0]}).push {cls:= .type "tuple_iterator",data:= .fields #[.ref b,.int 0 0]}).push {cls:= .type "tuple",data:= .seq #[.ref h.objs.size,.ref (h.objs.size+1)]}).push {cls:= .type "tuple",data:= .seq #[.none,.none]}).push
  {cls:= .type "zip",data:= .fields #[.none,.bool false,.bool false,.ref (h.objs.size+2),.ref (h.objs.size+3)]}
theorem Kl(a b:Addr)(xs ys:Array Value):Meets (Builtin.«zip.__new__» ⟨[.type "zip",.ref a,.ref b],[]⟩) (λ_ R s=>s.heap.IsList a xs/\s.heap.IsTuple b ys/\R (.ok (.ret (.ref (s.heap.objs.size+4)))) {s with heap:=oM s.heap a b}):=
 .of_wp λprog w A R s h=>by
  obtain⟨bO,g,d,ce,os⟩:=s;obtain⟨iA,jg,h⟩:=h;have T2:=sub_zip;have jl:Heap.IsList (Shared.heap ⟨bO,g,d,ce,os⟩) a xs:=iA;have nA:Heap.IsTuple (Shared.heap ⟨bO.push {cls:= .type "list_iterator",data:= .fields #[.ref a,.int 0 0]},g,d,ce,os⟩) b ys:=jg.push _;unfold oM at h
  wp_walk using wpAny_pyIter_list jl,wpAny_pyIter_tuple nA
  simp only[Heap.size_push];exact⟨_,rfl,h⟩
theorem ZkP{a b:Addr}{xs ys:Array Value}{Q:Value->Shared->Prop}(bK:s.heap.IsList a xs)(au:s.heap.IsTuple b ys)
  (h:∀h',ub h' (s.heap.objs.size+4) (s.heap.objs.size+2) (s.heap.objs.size+3) s.heap.objs.size (s.heap.objs.size+1) a b 0->(∀c o,s.heap.get? c=some o->h'.get? c=some o)->Q (.ref (s.heap.objs.size+4)) {s with heap:=h'}):wpAny (model prog w) A (call (.type "zip") [.ref a,.ref b]) Q E s:=by
 refine callType_new F.called_zip (by decide) (F.typeCall_zip_2 _ _) (F.newCall_zip_2 _ _) (λobj=>F.args_object_init_3 obj _ _) F.entry_zip_new (Kl a b xs ys) ⟨bK,au,?_⟩;have kb:(oM s.heap a b).get? (s.heap.objs.size+4)=some _:=Heap.get?_push_at (by simp only[Heap.size_push]) rfl;have je:(oM s.heap a b).get? (s.heap.objs.size+3)=some _:=Heap.get?_push_of_some _ (Heap.get?_push_at (by simp only[Heap.size_push]) rfl);have g3:(oM s.heap a b).get? (s.heap.objs.size+2)=some _:=Heap.get?_push_of_some _ (Heap.get?_push_of_some _ (Heap.get?_push_at (by simp only[Heap.size_push]) rfl));have g2:(oM s.heap a b).get? (s.heap.objs.size+1)=some _:=Heap.get?_push_of_some _ (Heap.get?_push_of_some _ (Heap.get?_push_of_some _ (Heap.get?_push_at (by simp only[Heap.size_push]) rfl)));have g1:(oM s.heap a b).get? s.heap.objs.size=some _:=Heap.get?_push_of_some _ (Heap.get?_push_of_some _ (Heap.get?_push_of_some _ (Heap.get?_push_of_some _ (Heap.get?_push_size _ rfl))));exact⟨⟨_,kb,rfl⟩,h _ ⟨kb,g3,⟨_,_,je⟩,⟨_,g1,rfl,rfl⟩,⟨_,g2,rfl,rfl⟩⟩ λc o x=>Heap.get?_push_of_some _ (Heap.get?_push_of_some _ (Heap.get?_push_of_some _ (Heap.get?_push_of_some _ (Heap.get?_push_of_some _ x))))⟩
end
noncomputable def ug (K:Frag) (a b:Addr):It:=
 ⟨λi H=>∃xs x ys y,SqL K H a xs/\xs[i]? =some x/\H b=some (.tup ys)/\ys[i]? =some y,λi H v aj=>∃t x y,H t=none/\v= .ref t/\aj=upd H t (.tup [x,y])/\(∀xs,SqL K H a xs->xs[i]? =some x)/\∀ys,H b=some (.tup ys)->ys[i]? =some y,λi H=>∃xs,SqL K H a xs/\xs.length<=i⟩
theorem Km{P:Program}{w:World}{K:Frag}{iY:List Expr}{k1:Nat}{pos:Pos}(a b z TI TO dF eb:Addr)(D:ZaU z TI TO dF eb):V2 P w K (.Tuple iY k1 pos) (ug K a b) [z,TI,TO,dF,eb] z (λi h=>ub h z TI TO dF eb a b i) where
 mem:=by simp
 obj:=λi h st c a_=>by
  obtain⟨x,y,hE⟩:=st.to;obtain⟨mM,eW,_,i_⟩:=st.l1;obtain⟨hb,eE,_,hS⟩:=st.l2;simp only[qaf,qaX,or_false] at a_;rcases a_ with rfl|rfl|rfl|rfl|rfl
  .exact⟨_,st.zip,λv q=>by cases (show Data.fields _=Data.cell v from q)⟩
  .exact⟨_,st.ti,λv q=>by cases (show Data.seq _ _=Data.cell v from q)⟩
  .exact⟨_,hE,λv q=>by cases (show Data.seq _ _=Data.cell v from q)⟩
  .exact⟨mM,eW,λv q=>by rw[i_] at q;cases q⟩
  .exact⟨hb,eE,λv q=>by rw[hS] at q;cases q⟩
 keep:=λi h h' st k=>by
  obtain⟨x,y,hE⟩:=st.to;exact⟨k z (by simp) _ st.zip,k TI (by simp) _ st.ti,⟨x,y,k TO (by simp) _ hE⟩,st.l1.at λo q=>k dF (by simp) o q,st.l2.at λo q=>k eb (by simp) o q⟩
 item:=by
  intro X dv hw hK a_ i aq s ao H E I bS st bR;subst dv hw hK;obtain⟨xs,x,ys,y,hc,ar,h8,bW⟩:=bR;obtain⟨rP,mO,eW,rQ⟩:=I.list hc;obtain⟨iw,mP,eE,t3⟩:=I.tuple (.of h8);obtain⟨iA,e9,oG⟩:=mO.get ar;obtain⟨jg,he,oH⟩:=mP.get bW;obtain⟨a0,eO,hE⟩:=st.to;have Kn:b≠TO:=λe=>by have:=(bS TO (by simp)).1;rw[<-e,h8] at this;cases this
  refine ZjP D st eW.isList (show s.heap.IsTuple b iw.toArray from eE) Kn (x:=iA) (y:=jg) (by simpa using e9) (by simpa using he) λh' kU w7 ka g9 c1 bH=>?_;have fq:=I.hok.fresh (qaa s.heap.objs.size);have lt:∀{c:Addr}{o:Obj},s.heap.get? c=some o->c<s.heap.objs.size:=λe=>Heap.lt_size e;have nz:=lt st.zip;have w8:dF<s.heap.objs.size:=by obtain⟨_,q,_⟩:=st.l1;exact lt q
  have w9:eb<s.heap.objs.size:=by obtain⟨_,q,_⟩:=st.l2;exact lt q
  refine⟨_,rfl,wpAny_letOwnedTupleGo_zip kU λaD w_ fa=>?_⟩;have lG:IsPair aD s.heap.objs.size iA jg:=fa.extBut _ _ (qbW nz) c1;have bT:Inv X aq ao (upd H s.heap.objs.size (.tup [x,y])) {s with heap:=aD}:=
   I.turnedNew (t':=s.toks) (fp:=[z,TI,TO,dF,eb]) (λc o a_ q=>by
    have eK:c≠z:=λe=>a_ (by simp[e]);have fL:c≠TO:=λe=>a_ (by simp[e]);have jD:c≠dF:=λe=>a_ (by simp[e]);have kW:c≠eb:=λe=>a_ (by simp[e]);exact fa.extBut c o eK (bH c o eK fL jD kW q)) bS (qaa _) ⟨by show 2<=sizeLine;decide,[iA,jg],.cons oG (.cons oH .nil),_,lG,rfl,_,rfl⟩
  refine⟨.ref s.heap.objs.size,_,bT,rfl,⟨_,x,y,fq,rfl,rfl,λzs bU=>by rw[I.list_inj bU hc];exact ar,λzs bU=>by rw[h8] at bU;cases bU;exact bW⟩,⟨w_,fa.extBut _ _ D.TIz (bH _ _ D.TIz D.TITO D.TIi1 D.TIi2 st.ti),⟨_,_,fa.extBut _ _ D.TOz w7⟩,ka.at λo q=>fa.extBut _ _ D.i1z q,g9.at λo q=>fa.extBut _ _ D.i2z q⟩,λc a_=>?_⟩;have mL:c≠s.heap.objs.size:=by
   simp only[qaf,qaX,or_false] at a_;rcases a_ with rfl|rfl|rfl|rfl|rfl
   .exact qas nz
   .exact qas (lt st.ti)
   .exact qas (lt hE)
   .exact qas w8
   .exact qas w9
  rw[b3 mL];exact(bS c a_).1
 done:=by
  intro X dv hw hK a_ i aq s ao H E I bS st bR;subst dv hw hK;obtain⟨xs,hc,ar⟩:=bR;obtain⟨rP,mO,eW,rQ⟩:=I.list hc;have bJ:=mO.length;exact Zk9 (I.ok.hd a_) D st eW.isList (by simp;omega) λh' c7=>⟨rfl,I.turnedL (t':=s.toks) (fp:=[z,TI,TO,dF,eb]) (λc o a_ q=>c7 c o (λe=>a_ (by simp[e])) (λe=>a_ (by simp[e])) (λe=>a_ (by simp[e])) (λe=>a_ (by simp[e])) q) bS⟩
 self:=λ_ _ _ _ _ st h=>wpAny_pyIter_zip st.zip h
section
variable {X:Cx}
def Cd (K:Frag) (cp:TA):TI:=λao H R=>cp ao H λvs aA=>∃a b,vs=[.ref a,.ref b]/\(∃xs,SqL K aA a xs)/\(∃ys,aA b=some (.tup ys))/\R (ug K a b) aA
theorem Ko{K:Frag}{a b:Expr}{cp:TA}{p pos kI:Pos}{iY:List Expr}{k1:Nat}(fF:X.K=K)(bR:Gl X "zip")(bL:X.mg "zip" =none)(bK:PA X [a,b] cp)(hs:starEach [a,b] X.env=(false,eval a X.env)::starEach [b] X.env:=by rfl)(e2:(backTo pos (starEach [b] X.env)).any (·.1)=false:=by rfl):
  PI X (.Tuple iY k1 kI) (.Call (.Name "zip" p) [a,b] [] pos) (Cd K cp):=by
 subst fF;intro aq s ao H R I h;refine Call_ (ly I bR bL boot_zip (qaQ (thn (bK pos aq s ao H _ I h) λus a' ⟨vs,aA,bT,cE,cJ⟩=>?_) hs e2));obtain⟨gl,iW,rfl,⟨xs,hc⟩,⟨ys,h8⟩,q⟩:=cJ;obtain⟨iA,jg,rfl,oG,oH⟩:=Zgf cE;cases oG;cases oH;obtain⟨rP,mO,eW,rQ⟩:=bT.list hc;obtain⟨iw,mP,eE,t3⟩:=bT.tuple (.of h8);refine ZkP eW.isList (show a'.heap.IsTuple iW iw.toArray from eE) λh' bU bH=>?_;refine wpAny_pyIter_zip bU.zip ?_;have cU:Inv X aq ao aA {a' with heap:=h'}:=bT.kept (t':=a'.toks) bH;have ei:∀k:Nat,a'.heap.objs.size<=a'.heap.objs.size+k:=λk=>qch _ _;refine⟨a'.heap.objs.size+4,[a'.heap.objs.size+4,a'.heap.objs.size+2,a'.heap.objs.size+3,a'.heap.objs.size,a'.heap.objs.size+1],_,_,aA,rfl,cU,Km gl iW _ _ _ _ _ (BZ _),bU,λc a_=>?_,q⟩;simp only[qaf,qaX,or_false] at a_;rcases a_ with rfl|rfl|rfl|rfl|rfl
 .exact bT.fpOk (ei 4) (bT.hok.fresh (ei 4))
 .exact bT.fpOk (ei 2) (bT.hok.fresh (ei 2))
 .exact bT.fpOk (ei 3) (bT.hok.fresh (ei 3))
 .exact bT.fpOk (qaa _) (bT.hok.fresh (qaa _))
 .exact bT.fpOk (ei 1) (bT.hok.fresh (ei 1))
end
theorem Kq{K:Frag}{a b:Addr}{xs ys:List V}{H:Hp}(ay:SqL K H a xs)(aD:H b=some (.tup ys))(ap:xs.length=ys.length):VW (ug K a b) xs.length (λi aj v aP=>∃t,aj t=none/\v= .ref t/\aP=upd aj t (.tup [xs.getD i .non,ys.getD i .non])) H:=
 ⟨λaj i e hi=>⟨xs,xs[i],ys,ys[i],e.seq ay,by simp[hi],e _ _ aD,by simp⟩,λaj i x aP e hi ⟨t,z,gY,bY,cz,hu,bU,kU⟩=>⟨t,bY,cz,by
  have bJ:=bU xs (e.seq ay);have bX:=kU ys (e _ _ aD);rw[hu];simp[List.getD,bJ,bX]⟩,λaj e=>⟨xs,e.seq ay,qaa _⟩⟩
namespace Rd
variable {ao:St}{H:Hp}{K:Frag}
theorem Zpb{du:TA}{R:It->Hp->Prop}(h:du ao H λvs aA=>∃a b,vs=[.ref a,.ref b]/\(∃xs,SqL K aA a xs)/\(∃ys,aA b=some (.tup ys))/\R (ug K a b) aA):Cd K du ao H R:=h
end Rd
end _L
namespace My
@[irreducible] noncomputable def G (a b:Int):Int:=((Int.gcd a b:Nat):Int)
theorem Zep(n m:Nat):G (n:Int) (m:Int)=((Nat.gcd n m:Nat):Int):=by
 unfold G
 rfl
theorem ZjK{a b:Int}(bK:0<=a)(au:b=0):G a b=a:=by
 subst au;obtain⟨n,rfl⟩:=qaA bK;have:=Zep n 0;rw[Nat.gcd_zero_right] at this;exact this
theorem Zno{a b:Int}(bK:0<=a)(au:0<b):G b (Int.fmod a b)=G a b:=by
 obtain⟨n,rfl⟩:=qaA bK;obtain⟨m,rfl⟩:=qaA (Int.le_of_lt au);rw[qbU _ (qa0 m),<-Int.natCast_emod,Zep,Zep,Nat.gcd_comm n m,Nat.gcd_rec m n,Nat.gcd_comm]
structure S(k:Nat)(x:Int):Prop where
 lo:0<=x
 hi:x.toNat<2 ^ (2048*2 ^ k)
theorem Kr{j k:Nat}(h:j<=k):2 ^ (2048*2 ^ j)<=2 ^ (2048*2 ^ k):=
 qav (by decide) (qbY _ (qav (by decide) h))
theorem S.mono{j k:Nat}{x:Int}(h:S j x)(bP:j<=k):S k x:=⟨h.lo,qae h.hi (Kr bP)⟩
end My
namespace Fo
noncomputable abbrev Trip:=Int×Int×Bool
noncomputable abbrev ZY:=List (Int×Option Trip)
noncomputable def keys (b2:ZY):List Int:=b2.map (·.1)
theorem Zal(b2:ZY)(w:Int)(s:Option Trip):keys (b2++ [(w,s)])=keys b2++ [w]:=by simp[keys]
theorem ZdO{b2:ZY}{i:Nat}{w:Int}{s:Option Trip}(h:b2[i]? =some (w,s)):w∈keys b2:=qaJ.mpr ⟨(w,s),qau h,rfl⟩
theorem ZcN{b2:ZY}{w:Int}(h:w∈keys b2):∃(i:Nat)(s:Option Trip),b2[i]? =some (w,s):=by
 obtain⟨⟨eH,s⟩,bL,rfl⟩:=qaJ.mp h;obtain⟨i,hi⟩:=qbf bL;exact⟨i,s,hi⟩
structure Wd(dZ:Int->List Trip)(first:Int)(b2:ZY):Prop where
 head:b2[0]? =some (first,none)
 nodup:(keys b2).Nodup
 steps:∀(i:Nat)(w p b:Int)(al:Bool),b2[i]? =some (w,some (p,b,al))->(w,b,al)∈dZ p/\∃(j:Nat)(s:Option Trip),j<i/\b2[j]? =some (p,s)
 only:∀(i:Nat)(w:Int),b2[i]? =some (w,none)->i=0
def Uu(dZ:Int->List Trip)(b2:ZY)(d:Nat):Prop:=∀(j:Nat)(w:Int)(s:Option Trip),j<d->b2[j]? =some (w,s)->∀t∈dZ w,t.1∈keys b2
section
variable {dZ:Int->List Trip}{first:Int}{b2:ZY}
theorem Zkf:Wd dZ first [(first,none)]:=by
 refine⟨rfl,by simp[keys],λi w p b al h=>?_,λi w h=>?_⟩
 .cases i with
  |zero=>simp at h
  |succ i=>simp at h
 .cases i with
  |zero=>rfl
  |succ i=>simp at h
theorem ZeZ{b2:ZY}{x y:Int×Option Trip}{i:Nat}(h:(b2++ [x])[i]? =some y):b2[i]? =some y\/(i=b2.length/\y=x):=by
 rcases qcc i b2.length with c|c
 .rw[qaZ c] at h;exact .inl h
 .rw[qaS c] at h;have:i-b2.length=0:=by
   rcases qbv (i-b2.length) with z|z
   .exact z
   .rw[qbu (by simp;omega)] at h;cases h
  rw[this] at h;simp at h;exact .inr ⟨∅,h.symm⟩
theorem ZcO{b2:ZY}{x y:Int×Option Trip}{i:Nat}(h:b2[i]? =some y):(b2++ [x])[i]? =some y:=by
 rw[qaZ (qad.mp h).1];exact h
theorem Wd.snoc(g:Wd dZ first b2){w p b:Int}{al:Bool}{j:Nat}{s:Option Trip}(bO:b2[j]? =some (p,s))(hw:(w,b,al)∈dZ p)(b':w∉keys b2):Wd dZ first (b2++ [(w,some (p,b,al))]):=by
 have bP:=(qad.mp bO).1;refine⟨ZcO g.head,?_,λi eH iR on al' h=>?_,λi eH h=>?_⟩
 .rw[Zal];refine qbI.mpr ⟨g.nodup,by simp,λx ar y bW=>?_⟩;rw[qab.mp bW];intro e;exact b' (e▸ar)
 .rcases ZeZ h with z|⟨rfl,z⟩
  .obtain⟨ay,mI,s',aD,cj⟩:=g.steps i eH iR on al' z;exact⟨ay,mI,s',aD,ZcO cj⟩
  .cases z;exact⟨hw,j,s,bP,ZcO bO⟩
 .rcases ZeZ h with z|⟨rfl,z⟩
  .exact g.only i eH z
  .cases z
theorem Uu.snoc{d:Nat}(h:Uu dZ b2 d)(hd:d<=b2.length)(w:Int)(s:Option Trip):Uu dZ (b2++ [(w,s)]) d:=λj eH s' bP e t bY=>by
 rw[Zal];refine qbe _ ?_;rcases ZeZ e with z|⟨rfl,_⟩
 .exact h j eH s' bP z t bY
 .omega
theorem Uu.next{d:Nat}{w:Int}{s:Option Trip}(h:Uu dZ b2 d)(e:b2[d]? =some (w,s))(all:∀t∈dZ w,t.1∈keys b2):Uu dZ b2 (d+1):=λj eH s' bP cv t bY=>by
 rcases qaV.mp bP with z|rfl
 .exact h j eH s' z cv t bY
 .rw[e] at cv;cases cv;exact all t bY
inductive WT(dZ:Int->List Trip)(a:Int):Int->Prop
 |refl:WT dZ a a
 |step {b c:Int} {t:Int} {al:Bool}:WT dZ a b->(c,t,al)∈dZ b->WT dZ a c
theorem WT.trans{a b c:Int}(h:WT dZ a b)(k:WT dZ b c):WT dZ a c:=by
 induction k with
 |refl=>exact h
 |step _ e b_=>exact .step b_ e
def Zl2(dZ:Int->List Trip):Prop:=∀(a b t:Int)(al:Bool),(b,t,al)∈dZ a->(a,t,!al)∈dZ b
theorem WT.symm(au:Zl2 dZ){a b:Int}(h:WT dZ a b):WT dZ b a:=by
 induction h with
 |refl=>exact .refl
 |step _ e b_=>exact(WT.step .refl (au _ _ _ _ e)).trans b_
theorem Wd.hang(g:Wd dZ first b2):∀(i:Nat)(w:Int)(s:Option Trip),b2[i]? =some (w,s)->WT dZ first w:=by
 intro i
 induction i using Nat.strongRecOn with
 |_ i b_=>
  intro w s h;cases s with
  |none=>
   have:=g.only i w h;subst this;rw[g.head] at h;cases h;exact .refl
  |some x=>
   obtain⟨p,b,al⟩:=x;obtain⟨ay,j,s',aD,cj⟩:=g.steps i w p b al h;exact .step (b_ j aD p s' cj) ay
theorem Wd.keys_iff(g:Wd dZ first b2)(c:Uu dZ b2 b2.length)(w:Int):w∈keys b2↔WT dZ first w:=by
 constructor
 .intro h;obtain⟨i,s,hi⟩:=ZcN h;exact g.hang i w s hi
 .intro h
  induction h with
  |refl=>exact ZdO g.head
  |step _ e b_=>
   obtain⟨i,s,hi⟩:=ZcN b_;exact c i _ s (qad.mp hi).1 hi _ e
theorem Wd.rg(g:Wd dZ first b2){n:Int}(c0:0<=first/\first<n)(hw:∀a,∀t∈dZ a,0<=t.1/\t.1<n):∀w∈keys b2,0<=w/\w<n:=by
 intro w h;obtain⟨i,s,hi⟩:=ZcN h;have:=g.hang i w s hi;cases this with
 |refl=>exact c0
 |step _ e=>exact hw _ _ e
theorem Zcu{gv:List Int}{n:Nat}(nd:gv.Nodup)(h:∀w∈gv,0<=w/\w<(n:Int)):gv.length<=n:=by
 have ay:=nd.length_le_of_subset (l₂:=(List.range n).map λi:Nat=>(i:Int)) (λw hw=>by
  obtain⟨a,b⟩:=h w hw;exact qaJ.mpr ⟨w.toNat,qax.mpr ∅,∅⟩)
 simpa using ay
end
structure Vq(dZ:Int->List Trip)(n:Nat)(F:List (Int×ZY))(i:Nat):Prop where
 tree:∀x∈F,Wd dZ x.1 x.2/\Uu dZ x.2 x.2.length/\0<=x.1/\x.1<(i:Int)
 all:∀w:Int,0<=w->w<(i:Int)->∃x∈F,w∈keys x.2
 rise:F.Pairwise λx y=>x.1<y.1
 least:∀x∈F,∀w∈keys x.2,x.1<=w
section
variable {dZ:Int->List Trip}{n i:Nat}{F:List (Int×ZY)}
theorem Zlo:Vq dZ n [] 0:=⟨by simp,λw c0 ay=>by omega,.nil,by simp⟩
theorem Vq.skip(h:Vq dZ n F i)(hi:∃x∈F,(i:Int)∈keys x.2):Vq dZ n F (i+1):=
 ⟨λx ar=>by obtain⟨a,b,c,d⟩:=h.tree x ar;exact⟨a,b,c,∅⟩,λw c0 ay=>by
  by_cases e:w=(i:Int)
  .rw[e];exact hi
  .exact h.all w c0 ∅,h.rise,h.least⟩
theorem Vq.grow(au:Zl2 dZ)(hw:∀a,∀t∈dZ a,0<=t.1/\t.1<(n:Int))(hz:i<n)(h:Vq dZ n F i)(hi:∀x∈F,(i:Int)∉keys x.2){b2:ZY}(g:Wd dZ i b2)(c:Uu dZ b2 b2.length):Vq dZ n (F++ [((i:Int),b2)]) (i+1):=by
 refine⟨λx ar=>?_,λw c0 ay=>?_,List.pairwise_append.mpr ⟨h.rise,by simp,λx ar y bW=>?_⟩,λx ar=>?_⟩
 .rcases qaD.mp ar with z|z
  .obtain⟨a,b,c,d⟩:=h.tree x z;exact⟨a,b,c,∅⟩
  .rw[qab.mp z];exact⟨g,c,by simp,by simp;omega⟩
 .by_cases e:w=(i:Int)
  .exact⟨_,qaw _ (qab.mpr rfl),by rw[e];exact ZdO g.head⟩
  .obtain⟨x,ar,bH⟩:=h.all w c0 ∅;exact⟨x,qbe _ ar,bH⟩
 .rw[qab.mp bW];exact(h.tree x ar).2.2.2
 .rcases qaD.mp ar with z|z
  .exact h.least x z
  .rw[qab.mp z];intro w bH;rcases Int.lt_or_le w (i:Int) with y|y
   .exfalso;have aC:=g.rg ⟨∅,∅⟩ hw w bH;obtain⟨fN,kk,w5⟩:=h.all w aC.1 y;obtain⟨g',d7,_,_⟩:=h.tree fN kk;have ay:=(g'.keys_iff d7 w).mp w5;have aD:=((g.keys_iff c w).mp bH).symm au;exact hi fN kk ((g'.keys_iff d7 _).mpr (ay.trans aD))
   .exact y
end
end Fo
namespace Pc
inductive Yu(E:List (Nat×Nat)):Nat->Nat->Prop where
 |refl (a:Nat):Yu E a a
 |fwd {a b c:Nat}:Yu E a b->(b,c)∈E->Yu E a c
 |bwd {a b c:Nat}:Yu E a b->(c,b)∈E->Yu E a c
theorem Yu.trans{E:List (Nat×Nat)}{a b c:Nat}(h:Yu E a b)(k:Yu E b c):Yu E a c:=by
 induction k with
 |refl=>exact h
 |fwd _ e b_=>exact .fwd b_ e
 |bwd _ e b_=>exact .bwd b_ e
theorem Yu.symm{E:List (Nat×Nat)}{a b:Nat}(h:Yu E a b):Yu E b a:=by
 induction h with
 |refl=>exact .refl _
 |fwd _ e b_=>exact(Yu.bwd (.refl _) e).trans b_
 |bwd _ e b_=>exact(Yu.fwd (.refl _) e).trans b_
theorem Yu.lt{E:List (Nat×Nat)}{n a b:Nat}(h9:∀e∈E,e.1<n/\e.2<n)(h:Yu E a b)(bK:a<n):b<n:=by
 induction h with
 |refl=>exact bK
 |fwd _ e b_=>exact(h9 _ e).2
 |bwd _ e b_=>exact(h9 _ e).1
noncomputable def step (l:Nat->Nat) (e:Nat×Nat):Nat->Nat:=λw=>if w=e.1\/w=e.2 then min (l e.1) (l e.2) else l w
noncomputable def lap (E:List (Nat×Nat)) (l:Nat->Nat):Nat->Nat:=E.foldl step l
noncomputable def Yt (E:List (Nat×Nat)):Nat->(Nat->Nat)->Nat->Nat
 |0,l=>l
 |k+1,l=>lap E (Yt E k l)
theorem xl(l:Nat->Nat)(e:Nat×Nat)(w:Nat):step l e w<=l w:=by
 unfold step
 split
 .rename_i h;rcases h with rfl|rfl
  .exact Nat.min_le_left _ _
  .exact Nat.min_le_right _ _
 .exact qaa _
theorem uh(F:List (Nat×Nat)):∀(l:Nat->Nat)(w:Nat),F.foldl step l w<=l w:=by
 induction F with
 |nil=>intro l w;exact qaa _
 |cons e F b_=>intro l w;exact qap (b_ (step l e) w) (xl l e w)
theorem Ce(F:List (Nat×Nat)):∀(l:Nat->Nat)(e:Nat×Nat),e∈F->F.foldl step l e.1<=l e.2/\F.foldl step l e.2<=l e.1:=by
 induction F with
 |nil=>intro l e h;cases h
 |cons f F b_=>
  intro l e h;rcases qaf.mp h with rfl|h
  .have a:=uh F (step l e) e.1;have b:=uh F (step l e) e.2;have c:step l e e.1<=l e.2:=by unfold step;rw[if_pos (.inl rfl)];exact Nat.min_le_right _ _
   have d:step l e e.2<=l e.1:=by unfold step;rw[if_pos (.inr rfl)];exact Nat.min_le_left _ _
   exact⟨qap a c,qap b d⟩
  .have:=b_ (step l f) e h;exact⟨qap this.1 (xl l f e.2),qap this.2 (xl l f e.1)⟩
def mQ(E:List (Nat×Nat))(l:Nat->Nat):Prop:=∀w,Yu E w (l w)
theorem Ks{E:List (Nat×Nat)}{l:Nat->Nat}{e:Nat×Nat}(h:mQ E l)(b9:e∈E):mQ E (step l e):=by
 intro w;unfold step
 split
 .rename_i hw;have ab:Yu E e.1 e.2:= .fwd (.refl _) b9;have wa:Yu E w e.1:=by
   rcases hw with rfl|rfl
   .exact .refl _
   .exact ab.symm
  rcases Nat.le_total (l e.1) (l e.2) with q|q
  .rw[Nat.min_eq_left q];exact wa.trans (h e.1)
  .rw[Nat.min_eq_right q];exact(wa.trans ab).trans (h e.2)
 .exact h w
theorem ZhQ{E:List (Nat×Nat)}(F:List (Nat×Nat)):∀(l:Nat->Nat),mQ E l->(∀e∈F,e∈E)->mQ E (F.foldl step l):=by
 induction F with
 |nil=>intro l h _;exact h
 |cons e F b_=>intro l h k;exact b_ _ (Ks h (k e qaL)) λx ar=>k x (qaj _ ar)
theorem ui{E:List (Nat×Nat)}{l:Nat->Nat}(h:mQ E l):∀k,mQ E (Yt E k l)
 |0=>h
 |k+1=>ZhQ E _ (ui h k) λ_ x=>x
theorem Zgl{p q:Nat->Bool}:∀{xs:List Nat}{a:Nat},(∀x∈xs,p x=true->q x=true)->a∈xs->p a=false->q a=true->xs.countP p+1<=xs.countP q
 | [],_,_,h,_,_=>by cases h
 |x::xs,a,s,h,ni,nD=>by
  have mono:xs.countP p<=xs.countP q:=List.countP_mono_left λy bW=>s y (qaj _ bW);rw[List.countP_cons,List.countP_cons];rcases qaf.mp h with rfl|h'
  .rw[ni,nD];simp;omega
  .have b_:=Zgl (λy bW=>s y (qaj _ bW)) h' ni nD
   by_cases rV:p x=true
   .rw[rV,s x qaL rV];simp;omega
   .have uj:p x=false:=by simpa using rV
    rw[uj];simp;omega
theorem Znp{E:List (Nat×Nat)}{m w:Nat}{p:Nat->Bool}(h:Yu E m w)(bL:p m=true)(hw:p w=false):
  ∃a b,Yu E m a/\p a=true/\p b=false/\((a,b)∈E\/(b,a)∈E):=by
 induction h with
 |refl=>rw[bL] at hw;cases hw
 | @fwd b c au e b_=>
  by_cases q:p b=true
  .exact⟨b,c,au,q,hw,.inl e⟩
  .exact b_ (by simpa using q)
 | @bwd b c au e b_=>
  by_cases q:p b=true
  .exact⟨b,c,au,q,hw,.inr e⟩
  .exact b_ (by simpa using q)
theorem Zmo{E:List (Nat×Nat)}{n m:Nat}(h9:∀e∈E,e.1<n/\e.2<n)(bL:m<n)(least:∀v,Yu E m v->m<=v):
  ∀k,(∀w,Yu E m w->Yt E k (λi=>i) w=m)\/k+1<=(List.range n).countP (λw=>Yt E k (λi=>i) w==m)
 |0=>by
  right
  show 0+1<=(List.range n).countP (λw=>w==m);exact List.countP_pos_iff.mpr ⟨m,qax.mpr bL,by simp⟩
 |k+1=>by
  have Kt:mQ E (Yt E k (λi=>i)):=ui (λw=> .refl w) k;have Cf:mQ E (Yt E (k+1) (λi=>i)):=ui (λw=> .refl w) (k+1);have Ku:∀w,Yt E (k+1) (λi=>i) w<=Yt E k (λi=>i) w:=λw=>uh E _ w;have stays:∀w,Yu E m w->Yt E k (λi=>i) w=m->Yt E (k+1) (λi=>i) w=m:=λw hw e=>by
   have a:=Ku w;have b:=least _ (hw.trans (Cf w));omega
  have self:∀k,Yt E k (λi=>i) m=m:=λk=>by
   have bQ:mQ E (Yt E k (λi=>i)):=ui (λw=> .refl w) k;have b:=least _ (bQ m);have c:∀j,Yt E j (λi=>i) m<=m:=λj=>by
    induction j with
    |zero=>exact qaa _
    |succ j b_=>exact qap (uh E _ m) b_
   have:=c k;omega
  rcases Zmo h9 bL least k with h|h
  .left
   exact λw hw=>stays w hw (h w hw)
  .by_cases all:∀w,Yu E m w->Yt E k (λi=>i) w=m
   .left
    exact λw hw=>stays w hw (all w hw)
   .right
    obtain⟨w,hw⟩:=Classical.not_forall.mp all;obtain⟨Kv,Kw⟩:=Classical.not_imp.mp hw;obtain⟨a,b,ca,ni,Kx,e⟩:=Znp (p:=λw=>Yt E k (λi=>i) w==m) Kv (by simp[self k]) (by simpa using Kw);have T3:Yt E k (λi=>i) a=m:=by simpa using ni
    have cb:Yu E m b:=by
     rcases e with e|e
     .exact .fwd ca e
     .exact .bwd ca e
    have mL:Yt E (k+1) (λi=>i) b=m:=by
     have l1:=least _ (cb.trans (Cf b));have l2:Yt E (k+1) (λi=>i) b<=Yt E k (λi=>i) a:=by
      rcases e with e|e
      .exact(Ce E _ (a,b) e).2
      .exact(Ce E _ (b,a) e).1
     omega
    have au:b<n:=cb.lt h9 bL;have:=Zgl (p:=λw=>Yt E k (λi=>i) w==m) (q:=λw=>Yt E (k+1) (λi=>i) w==m) (xs:=List.range n) (a:=b)
     (λx ar rV=>?_) (qax.mpr au) Kx (by simp[mL])
    .omega
    .have uj:Yt E k (λi=>i) x=m:=by simpa using rV
     have rz:Yu E m x:=by have:=Kt x;rw[uj] at this;exact this.symm
     simp[stays x rz uj]
theorem Zft{E:List (Nat×Nat)}:∀(k w:Nat),w<=k->∃m,Yu E w m/\∀v,Yu E w v->m<=v
 |0,w,h=>⟨w,.refl w,λv _=>by omega⟩
 |k+1,w,h=>by
  by_cases q:∃v,Yu E w v/\v<w
  .obtain⟨v,dU,T4⟩:=q;obtain⟨m,pW,uk⟩:=Zft (E:=E) k v ∅;exact⟨m,dU.trans pW,λu Ky=>uk u (dU.symm.trans Ky)⟩
  .exact⟨w,.refl w,λv dU=>by
    by_cases cz:v<w
    .exact absurd ⟨v,dU,cz⟩ q
    .omega⟩
theorem UD{E:List (Nat×Nat)}{n:Nat}(h9:∀e∈E,e.1<n/\e.2<n){w:Nat}(hw:w<n):
  Yu E w (Yt E n (λi=>i) w)/\∀v,Yu E w v->Yt E n (λi=>i) w<=v:=by
 obtain⟨m,pW,uk⟩:=Zft (E:=E) w w (qaa _);have bL:m<n:=pW.lt h9 hw;have least:∀v,Yu E m v->m<=v:=λv dU=>uk v (pW.trans dU);rcases Zmo h9 bL least n with h|h
 .have e:=h w pW.symm;rw[e];exact⟨pW,uk⟩
 .have:=List.countP_le_length (p:=λw=>Yt E n (λi=>i) w==m) (l:=List.range n);rw[qbz] at this;omega
end Pc
set_option Elab.async false
set_option linter.all false
set_option maxRecDepth 100000
set_option maxHeartbeats 4000000
local macro_rules| `(tactic|omega)=>`(tactic|with_reducible first|exact qa0 _|exact _L.oA (by assumption) (by assumption)|exact _L.oB (by assumption) (by assumption) rfl|exact _L.oC (by assumption) (by assumption) rfl|exact _L.oD (by assumption) rfl|exact _L.oE (by assumption) (by assumption)|exact _L.oF (by assumption)|lia|fail)
local macro_rules| `(tactic|walk_at "mul")=>`(tactic|k_dflt (first|with_reducible assumption|exact _L.Zjo.ok (Or.inr ⟨∅,∅⟩)|exact _L.Zjo.ok (Or.inl ⟨∅,∅⟩)))
local macro_rules| `(tactic|walk_at "lk")=>`(tactic|first|exact _L.Rd.lk0|exact _L.Rd.lkN|(refine _L.Rd.lk1 (by decide+kernel) ?_;walk_at "lk"))
local macro_rules| `(tactic|walk_at "pf")=>`(tactic|first|exact _L.Rd.pf0|exact _L.Rd.pfN|(apply _L.Rd.pf1;(decide+kernel);walk_at "pf"))
local macro_rules| `(tactic|walk_at "na")=>`(tactic|exact _L.Vn.get (by with_reducible assumption) (by decide+kernel))
local macro_rules| `(tactic|walk_at "cond")=>`(tactic|k_dflt (first|with_reducible assumption|decide|omega|(simp;done)|(simp only[List.length_cons,List.length_nil,GM,qag];omega)))
local macro_rules| `(tactic|walk_at "rdis")=>`(tactic|((with_reducible show ∃x n t b,_=_/\_L.WH _ _ x t/\_);first|with_reducible apply _L.Rd.Zi3|with_reducible apply _L.Rd.ZhJ|with_reducible apply _L.Rd.is_int_str|with_reducible apply _L.Rd.is_int_list|with_reducible apply _L.Rd.is_int_tuple|with_reducible apply _L.Rd.is_int_dict|with_reducible apply _L.Rd.is_bl_int|with_reducible apply _L.Rd.is_bl_bool|with_reducible apply _L.Rd.is_bl_str|with_reducible apply _L.Rd.is_bl_list|with_reducible apply _L.Rd.is_bl_tuple|with_reducible apply _L.Rd.is_bl_dict|with_reducible apply _L.Rd.is_str_int|with_reducible apply _L.Rd.is_str_bool|with_reducible apply _L.Rd.ZiF|with_reducible apply _L.Rd.is_str_list|with_reducible apply _L.Rd.is_str_tuple|with_reducible apply _L.Rd.is_str_dict|with_reducible apply _L.Rd.is_non_int|with_reducible apply _L.Rd.is_non_bool|with_reducible apply _L.Rd.is_non_str|with_reducible apply _L.Rd.is_non_list|with_reducible apply _L.Rd.is_non_tuple|with_reducible apply _L.Rd.is_non_dict|with_reducible refine _L.Rd.is_lst_int (by with_reducible assumption) ?_|with_reducible refine _L.Rd.is_lst_bool (by with_reducible assumption) ?_|with_reducible refine _L.Rd.is_lst_str (by with_reducible assumption) ?_|with_reducible refine _L.Rd.Zhw (by with_reducible assumption) ?_|with_reducible refine _L.Rd.is_lst_tuple (by with_reducible assumption) ?_|with_reducible refine _L.Rd.is_lst_dict (by with_reducible assumption) ?_|with_reducible refine _L.Rd.is_tup_int (by with_reducible assumption) ?_|with_reducible refine _L.Rd.is_tup_bool (by with_reducible assumption) ?_|with_reducible refine _L.Rd.is_tup_str (by with_reducible assumption) ?_|with_reducible refine _L.Rd.is_tup_list (by with_reducible assumption) ?_|with_reducible refine _L.Rd.ZgA (by with_reducible assumption) ?_|with_reducible refine _L.Rd.is_tup_dict (by with_reducible assumption) ?_|with_reducible refine _L.Rd.is_dK_int (by with_reducible assumption) ?_|with_reducible refine _L.Rd.is_dK_bool (by with_reducible assumption) ?_|with_reducible refine _L.Rd.is_dK_str (by with_reducible assumption) ?_|with_reducible refine _L.Rd.is_dK_list (by with_reducible assumption) ?_|with_reducible refine _L.Rd.is_dK_tuple (by with_reducible assumption) ?_|with_reducible refine _L.Rd.is_dK_dict (by with_reducible assumption) ?_))
local macro_rules| `(tactic|walk_at "side")=>`(tactic|k_dflt (first|with_reducible assumption|decide|(dsimp only;decide)|(dsimp only[_L.Znn];decide)|omega|(dsimp only;omega)))
local macro_rules| `(tactic|walk_at "hp")=>`(tactic|with_reducible (first|assumption|((show _L.SqL _ _ _ _);(first|exact _L.SqL.of (by assumption)|exact _L.OffL.sq (by assumption)|exact _L.Zd.seq (by assumption) (by assumption)))|((show _L.SqT _ _ _ _);(first|exact _L.SqT.of (by assumption)|exact _L.OffT.sq (by assumption)|exact _L.Zd.seqT (by assumption) (by assumption)))))
local macro_rules| `(tactic|walk_at "rd")=>`(tactic|first|with_reducible (first|apply _L.Rd.seq|apply _L.Rd.asg|apply _L.Rd.ret|apply _L.Rd.ifs|apply _L.Rd.next|apply _L.Rd.drop|apply _L.Rd.op|apply _L.Rd.Zps|apply _L.Rd.con|(show _L.ZiN _ _ _ _;refine _L.Rd.var (by k_dflt rfl) ?_)|(show _L.UE _ _ _ _ _;refine _L.Rd.Zpa (by k_dflt (dsimp only[_L.start,List.map_cons,List.map_nil,List.cons_append,List.nil_append,List.length_cons,List.length_nil,Nat.reduceAdd,Nat.reduceSub,List.replicate,List.set];(try rfl))) ?_)|apply _L.Rd.call|apply _L.Rd.cons|apply _L.Rd.nil|apply _L.Rd.cb|apply _L.Rd.tup|apply _L.Rd.lst|apply _L.Rd.Zpu|apply _L.Rd.or_|apply _L.Rd.ZpD|apply _L.Rd.ZpT|apply _L.Rd.ZpI|apply _L.Rd.i0|(show _L.rI _ _ _ _ _ _;refine _L.Rd.iC (by walk_at "side") ?_)|apply _L.Rd.bl|apply _L.Rd.ZpQ|(show _L.rOr _L.Zjl _ _ _ _ _;refine _L.Rd.mulI (by walk_at "mul") ?_)|apply _L.Rd.Zpt|apply _L.Rd.ZpX|apply _L.Rd.ZpE|(show _L.rOr _ (_L.rOr _L.ZdP _) (_L.V.str _) (_L.V.str _) _ _;refine _L.Rd.ZoC (by walk_at "side") ?_)|(show _L.rIx _ _ _ _ _;refine _L.Rd.Znx (by walk_at "hp") (by k_dflt rfl) ?_)|(show _L.rIx _ _ _ _ _;refine _L.Rd.Zod (by walk_at "hp") (by k_dflt (first|rfl|with_reducible assumption)) ?_)|(show ∃a,_L.V.ref _=_L.V.ref a/\(∃xs,_L.SqL _ _ a xs)/\_;refine _L.Rd.Znt (by walk_at "hp") ?_)|(show ∃k,[_L.V.int _]=[_L.V.int k]/\_;refine _L.Rd.Zo6 (by k_dflt omega) (by k_dflt omega) ?_)|(show ∃i j,[_L.V.int _,_L.V.int _]=[_L.V.int i,_L.V.int j]/\_;refine _L.Rd.Zpf (by k_dflt omega) ?_)|apply _L.Rd.ZpK|(show ∃x n,_=_/\_L.Zbu _ x _ n/\_;refine _L.Rd.ZoS (by walk_at "hp") ?_)|(show ∃x n,_=_/\_L.Zbu _ x _ n/\_;refine _L.Rd.Zp1 (by walk_at "hp") ?_)|(show ∃x n,_=_/\_L.Zbu _ x _ n/\_;refine _L.Rd.lenS (by walk_at "side") ?_))|walk_at "rdis" |with_reducible (first|apply _L.Rd.ZpA|apply _L.Rd.tru|apply _L.Rd.ZpL|apply _L.Rd.ZpN|apply _L.Rd.Zpk|apply _L.Rd.bm|(show _L.tyV _ _ _ _/\_;refine _L.Rd.tyl (by with_reducible assumption) ?_)|(show _L.rAppend _ _ _ _;refine _L.Rd.app (by with_reducible assumption) (by walk_at "side") ?_)|apply _L.ZgY|apply _L.Zhq|apply _L.Rd.Zmn|apply _L.Rd.Zmp|(show if decide _=true then _ else _;refine _L.Rd.ifP (by walk_at "cond") ?_)|(show if decide _=true then _ else _;refine _L.Rd.ifN (by walk_at "cond") ?_)|(show if(!decide _)=true then _ else _;refine _L.Rd.ZpS (by walk_at "cond") ?_)|(show if(!decide _)=true then _ else _;refine _L.Rd.ZpR (by walk_at "cond") ?_)|apply _L.Rd.sl|apply _L.Rd.ZnM|apply _L.Rd.Zp5|apply _L.Rd.ZoI|apply _L.Rd.ZpC|(show ∃a C dx fs v,_L.V.ref _=_L.V.ref a/\_=some (_L.HO.ins C dx fs)/\_L.Cls _ C/\_;refine _L.Rd.fld (by with_reducible assumption) (by with_reducible assumption) (by k_dflt (walk_at "na")) (by k_dflt (walk_at "lk")) ?_)|(show _L.Zew _ _ _ _ _ _ _ _ _ _ _;refine _L.Rd.Zph (by k_dflt rfl) ?_)|(show _L.Zd9 _ _ _ _ _ _ _ _;refine _L.Rd.ZoN (by k_dflt rfl) ?_)|(show _L.ZgX _ _ _ _ _ _ _ _ _;refine _L.Rd.ZoY (by k_dflt rfl) ?_)|apply _L.Rd.Zpw|(show _L.rSetL _ _ _ _ _;refine _L.Rd.ZnE (by with_reducible assumption) (by k_dflt omega) (by walk_at "cond") ?_)|apply _L.Rd.ZoV|apply _L.Rd.Zo0|apply _L.Rd.Zp4|(show ∃a C dx fs,_L.V.ref _=_L.V.ref a/\_=some (_L.HO.ins C dx fs)/\_L.Cls _ C/\_;refine _L.Rd.ZoT (by with_reducible (first|assumption|exact _L.Ze)) (by with_reducible assumption) (by k_dflt (walk_at "na")) (by k_dflt (simp only[List.length_cons,List.length_nil];decide)) (by k_dflt (walk_at "pf")) ?_)|apply _L.Rd.raise|apply _L.Rd.ZnZ|apply _L.Rd.Zo5|apply _L.Rd.Zpm|apply _L.Rd.ZoX|apply _L.Rd.Zp2|apply _L.Rd.ZoL|(show ∃p bs,[_L.V.ref _]=[_L.V.ref p]/\_L.SqL _ _ p (List.map _L.V.bl bs)/\_;refine _L.Rd.ZpG (by walk_at "hp") ?_)|apply _L.Rd.leS|apply _L.Rd.Zo3)|((with_reducible show if(!(_==_))=true then _ else _);first|refine _L.Rd.Zmn ?_|refine _L.Rd.Zmp ?_)|((with_reducible show if(_==_)=true then _ else _);first|refine _L.ZgY ?_|refine _L.Zhq ?_)|with_reducible (first|apply _L.Rd.Zog|apply _L.Rd.Zo9|(show ∃a,_=_/\(∃xs,_L.SqL _ _ a xs)/\_;refine _L.Rd.ZnV (by walk_at "hp") ?_)|apply _L.Rd.ZpY|apply _L.Rd.ZpJ)|((with_reducible show _L.rDIn _ _ _ _);first|with_reducible refine _L.Rd.Zpj (by with_reducible assumption) ?_|with_reducible refine _L.Rd.dinI (by with_reducible assumption) ?_)|((with_reducible show _L.rDNotIn _ _ _ _);first|with_reducible refine _L.Rd.dninS (by with_reducible assumption) ?_|with_reducible refine _L.Rd.Zpi (by with_reducible assumption) ?_)|((with_reducible show _L.rIxD _ _ _ _);first|with_reducible refine _L.Rd.dgetS (by with_reducible assumption) (by with_reducible assumption) ?_|with_reducible refine _L.Rd.ZoM (by with_reducible assumption) (by with_reducible assumption) ?_)|((with_reducible show _L.rSetD _ _ _ _ _);first|with_reducible refine _L.Rd.Zo2 (by with_reducible assumption) (by walk_at "side") ?_|with_reducible refine _L.Rd.Zpc (by with_reducible assumption) (by walk_at "side") ?_)|with_reducible (first|(show _L.rLenD _ _ _;refine _L.Rd.Zpx (by with_reducible assumption) ?_)|(show _L.rListD _ _ _;refine _L.Rd.ZoJ (by with_reducible assumption) ?_)|apply _L.Rd.ZpM|apply _L.Rd.ipi|(show _L.Zfb _ _ _ _ _;refine _L.Rd.ixl (by walk_at "hp") (by k_dflt (first|rfl|with_reducible assumption)) ?_)|apply _L.Rd.ZpU|apply _L.Rd.Zpl|apply _L.Rd.Zpp|apply _L.Rd.Zpn|apply _L.Rd.ZoR))
local macro_rules| `(tactic|walk_at "rds")=>`(tactic|repeat' (walk_at "rd"))
local macro_rules| `(tactic|walk_at "a")=>`(tactic|try dsimp only[_L.cxX,_L.ZJ,_L.Zr])
local macro_rules| `(tactic|nofun)=>`(tactic|walk_at "rds")
set_option hygiene false
local macro_rules| `(%[$a,$b|0])=>do
  let p:=λx:Lean.Term=>if x.raw.isOfKind `num then `(pv $x) else pure x
  `(cn (ixk K) $(<-p a) $(<-p b) (λ_ _=>rfl))
local macro_rules| `(%[$xs,*|2])=>do
  let p:=λx:Lean.Term=>if x.raw.isOfKind `num then `(pv $x) else pure x
  let mut r<-`(bG)
  for x in xs.getElems.reverse do r<-`(az $(<-p x) $r)
  pure r
local macro_rules
|`(%[$f,$n,$s|1])=>`($f (i:=$n) $s rfl (Or.inl rfl))
|`(%[$f,$n,$s,$x|1])=>do
  let p:=λx:Lean.Term=>if x.raw.isOfKind `num then `(pv $x) else pure x
  `($f (i:=$n) $s rfl (Or.inl rfl) $(<-p x))
set_option hygiene true
namespace _N
open PySem _L
noncomputable def top (i:Nat):Stmt:=PySem.Challenge.pw_ratehall_k29_code_rows.main.body.getD i (.Pass ⟨0,0,0,0⟩)
noncomputable abbrev Cg:Stmt:=top 71
noncomputable abbrev Ch:Stmt:=top 73
noncomputable abbrev Ci:Stmt:=top 75
noncomputable abbrev Cj:Stmt:=top 77
noncomputable abbrev ul:Stmt:=top 78
noncomputable abbrev Ck:Stmt:=top 80
noncomputable abbrev Cm:Stmt:=top 79
noncomputable abbrev um:Stmt:=top 81
noncomputable abbrev xm:Stmt:=top 82
noncomputable abbrev Cn:Stmt:=top 83
noncomputable abbrev Co:Stmt:=top 84
noncomputable abbrev xn:Stmt:=top 51
noncomputable abbrev Cp:Stmt:=YJ (top 55) 1
noncomputable abbrev Cq:Stmt:=top 20
noncomputable abbrev Cr:Stmt:=top 21
noncomputable abbrev Cs:Stmt:=top 57
noncomputable abbrev Ct:Stmt:=top 22
noncomputable abbrev Cu:Stmt:=YJ (top 55) 11
noncomputable abbrev Cv:Stmt:=YJ (top 55) 3
noncomputable abbrev Cw:Stmt:=YJ (top 55) 2
noncomputable abbrev Cy:Stmt:=YJ (top 55) 0
noncomputable abbrev Cz:Stmt:=top 76
noncomputable abbrev xo:Stmt:=YJ (top 55) 10
noncomputable abbrev CA:Stmt:=YJ (top 55) 12
noncomputable abbrev CB:Stmt:=YJ (top 55) 8
noncomputable abbrev xp:Stmt:=top 26
noncomputable abbrev xq:Stmt:=top 48
noncomputable abbrev xr:Stmt:=YJ (top 55) 9
noncomputable abbrev xt:Stmt:=top 25
noncomputable abbrev uo:Stmt:=top 47
noncomputable abbrev CC:Stmt:=YJ (top 55) 5
noncomputable abbrev CD:Stmt:=top 46
noncomputable abbrev CF:Stmt:=YJ (top 55) 7
noncomputable abbrev xu:Stmt:=top 30
noncomputable abbrev CG:Stmt:=top 31
noncomputable abbrev CH:Stmt:=top 29
noncomputable abbrev CI:Stmt:=top 16
noncomputable abbrev CJ:Stmt:=top 18
noncomputable abbrev CK:Stmt:=top 19
noncomputable abbrev CL:Stmt:=top 38
noncomputable abbrev CM:Stmt:=top 37
noncomputable abbrev CN:Stmt:=top 17
noncomputable abbrev xv:Stmt:=top 36
noncomputable abbrev xw:Stmt:=top 34
noncomputable abbrev Kz:Stmt:=top 32
noncomputable abbrev KA:Stmt:=top 40
noncomputable abbrev CO:Stmt:=top 39
noncomputable abbrev CP:Stmt:=top 35
noncomputable abbrev CQ:Stmt:=top 43
noncomputable abbrev xx:Stmt:=top 44
noncomputable abbrev xy:Stmt:=top 60
noncomputable abbrev CS:Stmt:=top 56
noncomputable abbrev CT:Stmt:=top 61
noncomputable abbrev xA:Stmt:=top 59
noncomputable abbrev xB:Stmt:=top 27
noncomputable abbrev CU:Stmt:=YJ (top 24) 5
noncomputable abbrev CV:Stmt:=YJ (top 24) 3
noncomputable abbrev rW:Stmt:=YJ (top 24) 0
noncomputable abbrev uq:Stmt:=top 66
noncomputable abbrev xC:Stmt:=top 67
noncomputable abbrev xD:Stmt:=top 69
noncomputable abbrev xE:Stmt:=YJ (top 68) 2
noncomputable abbrev xF:Stmt:=YJ (top 68) 1
noncomputable abbrev CW:Stmt:=top 64
noncomputable abbrev rX:Stmt:=YJ (top 68) 0
noncomputable abbrev CY:Stmt:=top 65
noncomputable abbrev CZ:Stmt:=top 87
noncomputable abbrev oN:Stmt:=top 85
noncomputable abbrev C0:Stmt:=top 88
noncomputable abbrev C1:Stmt:=top 72
noncomputable abbrev C2:Stmt:=top 74
noncomputable abbrev C3:Stmt:=top 86
noncomputable abbrev ur:Stmt:=top 89
theorem xG:Zu ["_law_script","_law_k","_law_lap","_law_cell"] ["_law_script","_law_k"] (cs Cg):=scI
theorem ut:Zu ["_law_one","_law_other","_law_rest"] ["_law_one","_law_other"] (cs Ch):=scI
theorem lI:Zu ["_law_rates","_law_belts","_law_label","_law_turn","_law_belt","_law_low","_law_found","_law_work","_law_both","_law_other"] ["_law_rates","_law_belts"] (cs Ci):=scI
theorem pX:Zu ["_law_cell","_law_slots","_law_great","_law_mix","_law_constant","_law_terms","_law_k"] ["_law_cell","_law_slots","_law_great"] (cs Cj):=scI
theorem nE:Zu ["_law_script","_law_at","_law_belts","_law_many","_law_great","_law_forms","_law_work","_law_slots","_law_given","_law_some","_law_k"] ["_law_script","_law_at","_law_belts","_law_many","_law_great"] (cs ul):=scI
theorem xH:Zu ["_law_belts","_law_lying","_law_work","_law_k","_law_belt"] ["_law_belts","_law_lying","_law_work"] (cs Ck):=scI
theorem xI:Zu ["_law_belts","_law_lying","_law_work","_law_k","_law_belt"] ["_law_belts","_law_lying","_law_work"] (cs Cm):=scI
theorem oO:Zu ["_law_belts","_law_rates","_law_cells","_law_lying","_law_left","_law_row","_law_step","_law_some","_law_work"] ["_law_belts","_law_rates","_law_cells"] (cs um):=scI
theorem pY:Zu ["_law_belts","_law_row","_law_lying","_law_found","_law_work","_law_k","_law_belt"] ["_law_belts","_law_row"] (cs xm):=scI
theorem pZ:Zu ["_law_belts","_law_rates","_law_row","_law_cell","_law_rooms","_law_k","_law_belt","_law_given","_law_many"] ["_law_belts","_law_rates","_law_row","_law_cell"] (cs Cn):=scI
theorem p0:Zu ["_law_belts","_law_rates","_law_rooms","_law_laps_here","_law_k","_law_belt","_law_part"] ["_law_belts","_law_rates","_law_rooms"] (cs Co):=scI
theorem KC:Zu ["thing"] ["thing"] (cs xn):=scI
theorem C4:Zu ["self","name","number"] ["self","name"] (cs Cp):=scI
theorem KD:Zu ["thing"] ["thing"] (cs Cq):=scI
theorem KE:Zu ["thing","least"] ["thing","least"] (cs Cr):=scI
theorem KG:Zu ["start"] ["start"] (cs Cs):=scI
theorem KH:Zu ["thing","bound"] ["thing","bound"] (cs Ct):=scI
theorem KI:Zu ["self","work"] ["self","work"] (cs Cu):=scI
theorem KJ:Zu ["self","row"] ["self","row"] (cs Cv):=scI
theorem KL:Zu ["self","giver","taker","give","take","start"] ["self","giver","taker","give","take","start"] (cs Cw):=scI
theorem KN:Zu ["self"] ["self"] (cs Cy):=scI
theorem nF:Zu ["_law_names_here","_law_belts","_law_hall","_law_name","_law_giver","_law_taker","_law_give","_law_take","_law_start"] ["_law_names_here","_law_belts"] (cs Cz):=scI
theorem KO:Zu ["self","work"] ["self","work"] (cs xo):=scI
theorem KP:Zu ["self","belt"] ["self","belt"] (cs CA):=scI
theorem KQ:Zu ["self","belt"] ["self","belt"] (cs CB):=scI
theorem KR:Zu ["hall","work"] ["hall","work"] (cs xp):=scI
theorem KS:Zu ["hall","work"] ["hall","work"] (cs xq):=scI
theorem KU:Zu ["self","work"] ["self","work"] (cs xr):=scI
theorem KW:Zu ["hall","work"] ["hall","work"] (cs xt):=scI
theorem xJ:Zu ["hall","work","forms","slots","form"] ["hall","work","forms"] (cs uo):=scI
theorem KX:Zu ["self"] ["self"] (cs CC):=scI
theorem xK:Zu ["hall","forms","work","work_forms"] ["hall","forms"] (cs CD):=scI
theorem KY:Zu ["self"] ["self"] (cs CF):=scI
theorem uu:Zu ["hall","ways","belt","row"] ["hall"] (cs xu):=scI
theorem mR:Zu ["ways","first","tree","reached","done","work","other","belt","along"] ["ways","first"] (cs CG):=scI
theorem p1:Zu ["hall","ways","seen","forest","work","tree"] ["hall"] (cs CH):=scI
theorem uv:Zu ["one","other","rest"] ["one","other"] (cs CI):=scI
theorem C5:Zu ["top","bottom","common"] ["top","bottom"] (cs CJ):=scI
theorem KZ:Zu ["one","other"] ["one","other"] (cs CK):=scI
theorem K0:Zu ["row","along"] ["row","along"] (cs CL):=scI
theorem uw:Zu ["hall","tree","shares","work","step"] ["hall","tree"] (cs CM):=scI
theorem K1:Zu ["one","other"] ["one","other"] (cs CN):=scI
theorem mS:Zu ["hall","forest","rates","tree","shares","common","share","work"] ["hall","forest"] (cs xv):=scI
theorem K2:Zu ["hall","counts"] ["hall","counts"] (cs xw):=scI
theorem K3:Zu ["hall","forest","belt","row","tree","to_giver","to_taker","shared","back"] ["hall","forest","belt"] (cs CO):=scI
theorem rY:Zu ["hall","forest","rates","belt","change"] ["hall"] (cs CP):=scI
theorem C6:Zu ["hall","rates"] ["hall"] (cs CQ):=scI
theorem K4:Zu ["hall"] ["hall"] (cs xx):=scI
theorem C7:Zu ["hall","rooms","starts"] ["hall","rooms"] (cs xy):=scI
theorem ux:Zu ["names","rows","hall","name","row"] ["names","rows"] (cs CS):=scI
theorem K5:Zu ["row","room"] ["row","room"] (cs CT):=scI
theorem C8:Zu ["hall","rooms","belts"] ["hall","rooms"] (cs xA):=scI
theorem K6:Zu ["heaps","takes"] ["heaps","takes"] (cs xB):=scI
theorem K7:Zu ["self","work"] ["self","work"] (cs CU):=scI
theorem oP:Zu ["self","row","heaps","work","belt","take","give"] ["self","row"] (cs CV):=scI
theorem C9:Zu ["self","hall","works"] ["self","hall"] (cs rW):=scI
theorem K8:Zu ["hall","rooms","rates","row"] ["hall","rooms","rates","row"] (cs uq):=scI
theorem p2:Zu ["hall","rooms","rates","given","laps","room","many"] ["hall","rooms","rates"] (cs xC):=scI
theorem K9:Zu ["box","form","slots"] ["box","form","slots"] (cs xD):=scI
theorem K_:Zu ["self","belt","piece","many"] ["self","belt","piece","many"] (cs xE):=scI
theorem oQ:Zu ["self","work","forms","slots","belt","take","boxes","give"] ["self","work","forms"] (cs xF):=scI
theorem rZ:Zu ["rooms","firsts","boxes","room"] ["rooms"] (cs CW):=scI
theorem C_:Zu ["self","hall","rooms","works"] ["self","hall","rooms"] (cs rX):=scI
theorem oR:Zu ["hall","rooms","row","forms","rates","laps","writer","code","lap","work"] ["hall","rooms","row","forms"] (cs CY):=scI
theorem p3:Zu ["_law_hall","_law_rooms","_law_row","_law_forms","_law_found","_law_refused","e"] ["_law_hall","_law_rooms","_law_row","_law_forms"] (cs CZ):=scI
theorem hT:Zu ["_law_belts","_law_rooms","_law_row","_law_forms","_law_given","_law_taken","_law_bases","_law_code_here","_law_work","_law_slots","_law_k","_law_belt","_law_at","_law_step","_law_constant","_law_terms","_law_named"] ["_law_belts","_law_rooms","_law_row","_law_forms"] (cs oN):=scI
theorem r0:Zu ["_law_first","_law_hall","_law_room","_law_found","_law_refused"] ["_law_first"] (cs C0):=scI
theorem kX:Zu ["_law_cell","_law_many","_law_letters","_law_long","_law_at","_law_some","_law_k","_law_word","_law_place","_law_turn"] ["_law_cell","_law_many"] (cs C1):=scI
theorem lJ:Zu ["_law_cell","_law_rates","_law_top","_law_ample","_law_mix","_law_giver","_law_taker","_law_both","_law_times_by","_law_give","_law_take","_law_start"] ["_law_cell","_law_rates","_law_top","_law_ample"] (cs C2):=scI
theorem r1:Zu ["_law_found","_law_due","_law_numbers","_law_term","_law_number"] ["_law_found","_law_due"] (cs C3):=scI
theorem hF:Zu ["_law_script","_law_first","_law_many","_law_rates","_law_belts","_law_k","_law_forms","_law_row","_law_rooms","_law_laps_here","_law_rows","_law_hall","_law_handed","_law_found","_law_refused","_law_due","_law_one","_law_other"] ["_law_script"] (cs ur):=scI
set_option genInjectivity false
set_option genSizeOf false
set_option genSizeOfSpec false
set_option genInjectivity false in
set_option genSizeOf false in
structure Tp(K:Frag)(mg:Str->Option Value) where
 {e:Addr}
 aE:mg "Floor" =some (.ref e)
 o:Cls K e
 G:Vn K e ["takes","gives","heaps"]
 {t:Addr}
 ae:mg "Hall" =some (.ref t)
 a:Cls K t
 c:Vn K t ["numbers","rows"]
 {b:Addr}
 aw:mg "Writer" =some (.ref b)
 l:Cls K b
 C:Vn K b ["takes","gives","rooms","firsts","given","taken"]
 x0:Dn K mg "_law_cell_at" "_law_cell_at" Cg ["_law_script","_law_k"]
 x1:Dn K mg "_law_common" "_law_common" Ch ["_law_one","_law_other"]
 x2:Dn K mg "_law_least" "_law_least" Ci ["_law_rates","_law_belts"]
 x3:Dn K mg "_law_form_by" "_law_form_by" Cj ["_law_cell","_law_slots","_law_great"]
 x4:Dn K mg "_law_forms_by" "_law_forms_by" ul ["_law_script","_law_at","_law_belts","_law_many","_law_great"]
 x5:Dn K mg "_law_turned" "_law_turned" Ck ["_law_belts","_law_lying","_law_work"]
 x6:Dn K mg "_law_ready" "_law_ready" Cm ["_law_belts","_law_lying","_law_work"]
 x7:Dn K mg "_law_any_round" "_law_any_round" um ["_law_belts","_law_rates","_law_cells"]
 x8:Dn K mg "_law_peaks" "_law_peaks" xm ["_law_belts","_law_row"]
 x9:Dn K mg "_law_rooms_by" "_law_rooms_by" Cn ["_law_belts","_law_rates","_law_row","_law_cell"]
 aZ:Dn K mg "_law_laps" "_law_laps" Co ["_law_belts","_law_rates","_law_rooms"]
 a0:Dn K mg "is_name" "is_name" xn ["thing"]
 aF:Dm K t "work" "Hall.work" Cp ["self","name"]
 a1:Dn K mg "is_whole" "is_whole" Cq ["thing"]
 am:Dn K mg "is_from" "is_from" Cr ["thing","least"]
 a2:Dn K mg "need_start" "need_start" Cs ["start"]
 an:Dn K mg "is_number_below" "is_number_below" Ct ["thing","bound"]
 ax:Dm K t "need_work" "Hall.need_work" Cu ["self","work"]
 aQ:Dm K t "lay" "Hall.lay" Cv ["self","row"]
 {w:Addr}
 {x:FuncData}
 {C':Addr}
 {xL:Tok}
 y:ZdD K t "belt" w
 U:ZjB K "belt" "Hall.belt" Cw C' w x
 T5:∃f4 es n sl,K.lookup C'=some ⟨f4,es,.seq #[.int 0 xL] n,sl⟩
 z:Wp K x ["self","giver","taker","give","take","start"] []
 T6:Wp K x ["self","giver","taker","give","take","start"] [.int 0 xL]
 T7:cW [.int 0] [.int 0 xL]
 aG:Di K t "Hall.__init__" Cy ["self"]
 a3:Dn K mg "_law_made" "_law_made" Cz ["_law_names_here","_law_belts"]
 a4:Dm K t "leaving" "Hall.leaving" xo ["self","work"]
 a5:Dm K t "need_belt" "Hall.need_belt" CA ["self","belt"]
 aH:Dm K t "belt_at" "Hall.belt_at" CB ["self","belt"]
 aI:Dn K mg "gives_of" "gives_of" xp ["hall","work"]
 a6:Dn K mg "given_by" "given_by" xq ["hall","work"]
 a7:Dm K t "entering" "Hall.entering" xr ["self","work"]
 aJ:Dn K mg "takes_of" "takes_of" xt ["hall","work"]
 a8:Dn K mg "need_work_forms" "need_work_forms" uo ["hall","work","forms"]
 af:Dm K t "names" "Hall.names" CC ["self"]
 a9:Dn K mg "need_forms" "need_forms" CD ["hall","forms"]
 ag:Dm K t "belts" "Hall.belts" CF ["self"]
 ba:Dn K mg "ways_of" "ways_of" xu ["hall"]
 bb:Dn K mg "tree_from" "tree_from" CG ["ways","first"]
 bc:Dn K mg "forest_of" "forest_of" CH ["hall"]
 aK:Dn K mg "divisor" "divisor" CI ["one","other"]
 aL:Dn K mg "ratio" "ratio" CJ ["top","bottom"]
 bd:Dn K mg "times" "times" CK ["one","other"]
 be:Dn K mg "gain" "gain" CL ["row","along"]
 bf:Dn K mg "shares_of" "shares_of" CM ["hall","tree"]
 aR:Dn K mg "multiple" "multiple" CN ["one","other"]
 bg:Dn K mg "rates_by" "rates_by" xv ["hall","forest"]
 bh:Dn K mg "change_of" "change_of" xw ["hall","counts"]
 T8:Dn K mg "way_to" "way_to" Kz ["tree","work"]
 T9:Dn K mg "shared_steps" "shared_steps" KA ["one","other"]
 bi:Dn K mg "ring_through" "ring_through" CO ["hall","forest","belt"]
 bj:Dn K mg "rates_of" "rates_of" CP ["hall"]
 bk:Dn K mg "round_rates" "round_rates" CQ ["hall"]
 aS:Dn K mg "starts_of" "starts_of" xx ["hall"]
 aT:Dn K mg "need_rooms" "need_rooms" xy ["hall","rooms"]
 bl:Dn K mg "hall_of" "hall_of" CS ["names","rows"]
 bm:Dn K mg "back_of" "back_of" CT ["row","room"]
 bn:Dn K mg "backed" "backed" xA ["hall","rooms"]
 bo:Dn K mg "enough" "enough" xB ["heaps","takes"]
 bp:Dm K e "need_work" "Floor.need_work" CU ["self","work"]
 bq:Dm K e "go" "Floor.go" CV ["self","row"]
 br:Di K e "Floor.__init__" rW ["self","hall"]
 bs:Dn K mg "need_fit" "need_fit" uq ["hall","rooms","rates","row"]
 bt:Dn K mg "need_laps" "need_laps" xC ["hall","rooms","rates"]
 bu:Dn K mg "row_of" "row_of" xD ["box","form","slots"]
 aU:Dm K b "boxes_of" "Writer.boxes_of" xE ["self","belt","piece","many"]
 bv:Dm K b "rows_for" "Writer.rows_for" xF ["self","work","forms"]
 bw:Dn K mg "first_boxes" "first_boxes" CW ["rooms"]
 bx:Di K b "Writer.__init__" rX ["self","hall","rooms"]
 aV:Dn K mg "code_of" "code_of" CY ["hall","rooms","row","forms"]
 aW:Dn K mg "_law_asked" "_law_asked" CZ ["_law_hall","_law_rooms","_law_row","_law_forms"]
 bz:Dn K mg "_law_code" "_law_code" oN ["_law_belts","_law_rooms","_law_row","_law_forms"]
 bA:Dn K mg "_law_bound_good" "_law_bound_good" C0 ["_law_first"]
 bB:Dn K mg "_law_names" "_law_names" C1 ["_law_cell","_law_many"]
 bC:Dn K mg "_law_belt_by" "_law_belt_by" C2 ["_law_cell","_law_rates","_law_top","_law_ample"]
 bD:Dn K mg "_law_row_good" "_law_row_good" C3 ["_law_found","_law_due"]
 aX:Dn K mg "law" "law" ur ["_law_script"]
 R:mg "all" =none
 ah:mg "bool" =none
 i:mg "enumerate" =none
 av:mg "int" =none
 g:mg "isinstance" =none
 f:mg "len" =none
 j:mg "list" =none
 bE:mg "max" =none
 aO:mg "min" =none
 h:mg "range" =none
 T_:mg "reversed" =none
 bF:mg "str" =none
 A:mg "sum" =none
 m:mg "tuple" =none
 S:mg "zip" =none
 {V:Addr}
 X:Ex K mg "RateError" V
 {aB:Addr}
 Y:Ex K mg "NoName" aB
 {aM:Addr}
 ak:Ex K mg "Twice" aM
 {N:Addr}
 D:Ex K mg "TooMuch" N
 {p:Addr}
 H:Ex K mg "NoWork" p
 {Z:Addr}
 aa:Ex K mg "NoBelt" Z
 {ab:Addr}
 I:Ex K mg "NoRate" ab
 {aN:Addr}
 T:Ex K mg "Empty" aN
 {K':Addr}
 F:Ex K mg "NotBalanced" K'
 {k:Addr}
 r:Ex K mg "TooLong" k
 {ac:Addr}
 J:Ex K mg "NoRoom" ac
 {ad:Addr}
 q:Ex K mg "NoForm" ad
 {La:Addr}
 L:Ex K mg "NoFit" La
 al:exmOne K (.ref aN) (.ref aN)=some true
 E:exmOne K (.ref k) (.ref k)=some true
 ai:Up K k
 u:PySem.W.kitOne K (.ref k) (.ref V)=some true
 {Lb:Tok}
 M:mg "MOST_LETTERS" =some (.int 8 Lb)
 {Lc:Tok}
 O:mg "MOST_WORKS" =some (.int 30 Lc)
 {Ld:Tok}
 P:mg "MOST_BELTS" =some (.int 60 Ld)
 {Le:Tok}
 Q:mg "MOST_TURNS" =some (.int 400 Le)
 {Lf:Tok}
 B:mg "MOST_ROWS" =some (.int 3000 Lf)
 aY:∀(s:Shared)(v:Value),BindsTo s aX.d ⟨[v],[]⟩ [("_law_script",v)]
variable {P:Program}{w:World}{K:Frag}{mg:Str->Option Value}{base:Heap}(T:Tp K mg)
set_option genInjectivity true
set_option genSizeOf true
set_option genSizeOfSpec true
theorem Db{a b:Int}(bK:0<=a)(au:0<b):My.G b (a % b)=My.G a b:=by
 rw[<-qbU _ (Int.le_of_lt au)];exact My.Zno bK au
theorem Zp7{k:Nat}{x:Int}(h:My.S k x):Builtin.Int.intBits x<=2048*2 ^ k:=by
 unfold Builtin.Int.intBits
 split
 .exact qar _
 .rename_i bU;have c0:x.natAbs≠0:=by
   intro e;apply bU;have:x=0:=by omega
   rw[this]
   rfl
  have e:x.natAbs=x.toNat:=by have:=h.lo;omega
  have:=(qck c0).mpr (by rw[e];exact h.hi);omega
theorem Zp6{k:Nat}{x:Int}(h:My.S k x)(bH:k<=2):x.natAbs.log2<9000:=by
 by_cases c0:x.natAbs=0
 .rw[c0];decide+kernel
 .have e:x.natAbs=x.toNat:=by have:=h.lo;omega
  have l:=(qck c0).mpr (by rw[e];exact(h.mono bH).hi);omega
def Zmk(K:Frag):Sp:=λvs H Q _=>∃(a:Addr)(ns:List Int),vs=[.ref a]/\SqL K H a (ns.map V.int)/\ns.length<=63/\∀aj,Q (.bl true) aj
def Lg(T:Tp K mg):Sp:=Zmk K
noncomputable def hU (x:Str):Bool:=decide (1<=x.length)&&decide (x.length<=8)&&x.cps.toList.all λc=>decide (97<=c)&&decide (c<=122)
structure B5 where
 giver:Int
 taker:Int
 give:Int
 take:Int
 start:Int
noncomputable def B5.v (b:B5):List V:=[.int b.giver,.int b.taker,.int b.give,.int b.take,.int b.start]
structure HM where
 names:List Str
 belts:List B5
def ev (H:Hp):List V->List B5->Prop:=Paired λv b=>∃t,v= .ref t/\H t=some (.tup b.v)
noncomputable def numsOf (ns:List Str):List (Key×V):=ns.zipIdx.map λp=>(Sum.inr p.1,V.int p.2)
theorem UL(ns:List Str):(numsOf ns).length=ns.length:=by unfold numsOf;simp
theorem Lh(ns:List Str)(x:Str):numsOf (ns++ [x])=numsOf ns++ [(Sum.inr x,.int ns.length)]:=by
 unfold numsOf;rw[List.zipIdx_append];simp
theorem Zc6(ns:List Str):((numsOf ns).map λkv=>kV kv.1)=ns.map V.str:=by
 unfold numsOf;rw[qaR];have:((λkv:Key×V=>kV kv.1)∘λp:Str×Nat=>((Sum.inr p.1:Key),V.int p.2))=(V.str∘λp:Str×Nat=>p.1):=rfl;rw[this,<-qaR,List.zipIdx_map_fst]
theorem ZfP(ns:List Str)(x:Str):(valV (numsOf ns) (Sum.inr x)).isSome=decide (x∈ns):=by
 rw[<-Vc];rw[qbH,List.any_eq_true,decide_eq_true_eq];have e:x∈ns↔V.str x∈ns.map V.str:=by
  constructor
  .exact List.mem_map_of_mem
  .intro h;obtain⟨y,bW,e⟩:=qaJ.mp h;cases e;exact bW
 rw[e,<-Zc6,qaJ]
 constructor
 .rintro⟨p,bO,h⟩;exact⟨p,bO,by rw[of_decide_eq_true h];rfl⟩
 .rintro⟨p,bO,h⟩;exact⟨p,bO,decide_eq_true (IY h)⟩
theorem Li{ns:List Str}{x:Str}(h:x∉ns):valV (numsOf ns) (Sum.inr x)=none:=by
 have:=ZfP ns x;rw[decide_eq_false h] at this;cases e:valV (numsOf ns) (Sum.inr x) with
 |none=>rfl
 |some v=>rw[e] at this;cases this
theorem Lj{ns:List Str}{x:Str}(h:x∉ns):gx (numsOf ns) (Sum.inr x) (.int ns.length)=numsOf (ns++ [x]):=by
 rw[Za1 _ (Li h),Lh]
def dr(H:Hp)(p:Addr)(ap:HM)(fp:List Addr):Prop:=
 ∃(dx a b:Addr)(bs:List V),fp=[p,dx,a,b]/\H p=some (.ins T.t dx [("numbers",.ref a),("rows",.ref b)])/\H dx=some (.own p)/\H a=some (.dK (numsOf ap.names))/\H b=some (.lst bs)/\a≠b/\ev H bs ap.belts
theorem ev.keep{H aj:Hp}(t:∀b xs,H b=some (.tup xs)->aj b=some (.tup xs)):∀{bs:List V}{ls:List B5},ev H bs ls->ev aj bs ls
 |_,_,.nil=> .nil
 |_,_,.cons ⟨a,e,h⟩ r=> .cons ⟨a,e,t _ _ h⟩ (ev.keep t r)
theorem ev.length{H:Hp}{bs:List V}{ls:List B5}(h:ev H bs ls):bs.length=ls.length:=Paired.length h
theorem ev.snoc{H:Hp}:∀{bs:List V}{ls:List B5}{t:Addr}{b:B5},ev H bs ls->H t=some (.tup b.v)->ev H (bs++ [.ref t]) (ls++ [b])
 |_,_,_,_,.nil,h=> .cons ⟨_,rfl,h⟩ .nil
 |_,_,_,_,.cons x r,h=> .cons x (ev.snoc r h)
theorem ev.at{H:Hp}:∀{bs:List V}{ls:List B5}{i:Nat}{b:B5},ev H bs ls->ls[i]? =some b->∃t,bs[i]? =some (.ref t)/\H t=some (.tup b.v)
 |_,_,_,_,.nil,e=>by simp at e
 |_,_,0,_,.cons ⟨t,bJ,h⟩ _,e=>by simp at e;subst e;exact⟨t,by simp[bJ],h⟩
 |_,_,i+1,b,.cons _ r,e=>by
  obtain⟨t,ay,aD⟩:=ev.at (i:=i) (b:=b) r (by simpa using e);exact⟨t,by simpa using ay,aD⟩
section
variable {K:Frag}{mg:Str->Option Value}{T:Tp K mg}{H aj:Hp}{p:Addr}{ap:HM}{fp:List Addr}
theorem dr.dom(h:dr T H p ap fp):∀x∈fp,H x≠none:=by
 obtain⟨dx,a,b,bs,rfl,ay,aD,cj,cS,_⟩:=h;intro x ar;simp only[qaf,qaX,or_false] at ar;rcases ar with rfl|rfl|rfl|rfl
 .rw[ay];simp
 .rw[aD];simp
 .rw[cj];simp
 .rw[cS];simp
theorem dr.keep(h:dr T H p ap fp)(k:∀x∈fp,aj x=H x)(t:∀b xs,H b=some (.tup xs)->aj b=some (.tup xs)):dr T aj p ap fp:=by
 obtain⟨dx,a,b,bs,rfl,ay,aD,cj,cS,ec,dq⟩:=h;exact⟨dx,a,b,bs,rfl,(k p (by simp)).trans ay,(k dx (by simp)).trans aD,(k a (by simp)).trans cj,(k b (by simp)).trans cS,ec,dq.keep t⟩
theorem dr.off{A:List Addr}(h:dr T H p ap fp)(f:df A H aj)(d:∀x∈fp,x∉A):dr T aj p ap fp:=by
 refine h.keep (λx ar=>?_) f.tups;cases q:H x with
 |none=>exact absurd q (h.dom x ar)
 |some o=>exact f.keep x o q (d x ar)
theorem Zko{m:Str}{G:Prop}(h:dr T H p ap fp)(hg:(m== "numbers")=false)(h1:(m== "rows")=false)(q:G):∃a dx fs,V.ref p= .ref a/\H a=some (.ins T.t dx fs)/\fs.lookup m=none/\G:=by
 obtain⟨dx,a,b,bs,rfl,ay,_⟩:=h;exact⟨p,dx,_,rfl,ay,Rd.lk1 hg (Rd.lk1 h1 Rd.lkN),q⟩
theorem dr.same(h:dr T H p ap fp)(e:Zd H aj):dr T aj p ap fp:=h.off (A:=[]) e.frame (by simp)
end
noncomputable def dB:B5:=⟨0,0,0,0,0⟩
noncomputable def dz (ls:List B5) (w:Int):List Nat:=(List.range ls.length).filter λi=>decide ((ls.getD i dB).taker=w)
noncomputable def dR (ls:List B5) (w:Int):List Nat:=(List.range ls.length).filter λi=>decide ((ls.getD i dB).giver=w)
theorem ev.getD{H:Hp}{bs:List V}{ls:List B5}{i:Nat}(h:ev H bs ls)(hi:i<ls.length):∃t,bs.getD i .non= .ref t/\H t=some (.tup (ls.getD i dB).v):=by
 obtain⟨t,ay,aD⟩:=h.at (fm hi);exact⟨t,by simp[List.getD,ay],by simpa[List.getD,hi] using aD⟩
theorem jm{n:Nat}(h:n<=10000):n<sizeLine:=qaM h (by decide)
noncomputable def oS (ls:List B5) (i:Nat) (w:Int):List Fo.Trip:=(if(ls.getD i dB).giver=w then[((ls.getD i dB).taker,(i:Int),true)] else[])++(if(ls.getD i dB).taker=w then[((ls.getD i dB).giver,(i:Int),false)] else[])
noncomputable def kY (ls:List B5) (k:Nat) (w:Int):List Fo.Trip:=(List.range k).flatMap λi=>oS ls i w
noncomputable def gm (ls:List B5):Int->List Fo.Trip:=kY ls ls.length
theorem ZhN(ls:List B5)(k:Nat)(w:Int):kY ls (k+1) w=kY ls k w++oS ls k w:=by
 unfold kY;rw[qbr,List.flatMap_append];simp
theorem r2{cX:Type}{xs:List cX}(nd:xs.Nodup){i j:Nat}(hi:i<xs.length)(bP:j<xs.length)(e:xs[i]=xs[j]):i=j:=by
 rcases Nat.lt_trichotomy i j with h|h|h
 .exact absurd e (qbs.mp nd i j hi bP h)
 .exact h
 .exact absurd e.symm (qbs.mp nd j i bP hi h)
theorem ft{H aj:Hp}{x:Addr}(s:Zd H aj)(h:aj x=none):H x=none:=by
 cases e:H x with
 |none=>rfl
 |some o=>rw[s _ _ e] at h;cases h
theorem cL{cX:Type}{xs:List cX}{i:Nat}{d:cX}(h:i<xs.length):xs.getD i d=xs[i]:=by simp[List.getD,h]
theorem V6{ls:List B5}{w:Int}{t:Fo.Trip}(h:t∈gm ls w):∃(i:Nat)(hi:i<ls.length),t∈oS ls i w:=by
 unfold gm kY at h;obtain⟨i,hi,bY⟩:=List.mem_flatMap.mp h;exact⟨i,qax.mp hi,bY⟩
theorem p4{ls:List B5}{w:Int}{t:Fo.Trip}{i:Nat}(hi:i<ls.length)(h:t∈oS ls i w):t∈gm ls w:=by
 unfold gm kY;exact List.mem_flatMap.mpr ⟨i,qax.mpr hi,h⟩
theorem Y6{ls:List B5}{i:Nat}{w:Int}{t:Fo.Trip}:t∈oS ls i w↔((ls.getD i dB).giver=w/\t=((ls.getD i dB).taker,(i:Int),true))\/((ls.getD i dB).taker=w/\t=((ls.getD i dB).giver,(i:Int),false)):=by
 unfold oS;rw[qaD]
 by_cases ay:(ls.getD i dB).giver=w<;>by_cases aD:(ls.getD i dB).taker=w<;>simp[ay,aD]
theorem uy(ls:List B5):Fo.Zl2 (gm ls):=by
 intro a b t al h;obtain⟨i,hi,bY⟩:=V6 h;refine p4 hi ?_;rw[Y6] at bY|-;rcases bY with⟨ay,aD⟩|⟨ay,aD⟩
 .injection aD with bJ bX
  injection bX with bX dn
  exact .inr ⟨bJ.symm,by rw[<-ay,bX,dn];rfl⟩
 .injection aD with bJ bX
  injection bX with bX dn
  exact .inl ⟨bJ.symm,by rw[<-ay,bX,dn];rfl⟩
def Z0(ls:List B5)(n:Nat):Prop:=∀b∈ls,0<=b.giver/\b.giver<(n:Int)/\0<=b.taker/\b.taker<(n:Int)
theorem Z0.at{ls:List B5}{n i:Nat}(h:Z0 ls n)(hi:i<ls.length):0<=(ls.getD i dB).giver/\(ls.getD i dB).giver<(n:Int)/\0<=(ls.getD i dB).taker/\(ls.getD i dB).taker<(n:Int):=by
 rw[cL hi];exact h _ (GE hi)
theorem UV{ls:List B5}{n:Nat}(h:Z0 ls n):∀a,∀t∈gm ls a,0<=t.1/\t.1<(n:Int):=by
 intro a t bY;obtain⟨i,hi,bL⟩:=V6 bY;have:=h.at hi;rw[Y6] at bL;rcases bL with⟨_,rfl⟩|⟨_,rfl⟩<;>(dsimp only;omega)
def jn (H:Hp):List Fo.Trip->List V->Prop:=Paired λx v=>∃t,v= .ref t/\H t=some (.tup [.int x.1,.int x.2.1,.bl x.2.2])
theorem jn.keep{H aj:Hp}(t:∀b xs,H b=some (.tup xs)->aj b=some (.tup xs)){vs:List V}{l:List Fo.Trip}(h:jn H l vs):jn aj l vs:=Paired.mapP h λ_ _ ⟨a,e,z⟩=>⟨a,e,t _ _ z⟩
theorem jn.snoc{H:Hp}:∀{l:List Fo.Trip}{vs:List V}{x:Fo.Trip}{t:Addr},jn H l vs->H t=some (.tup [.int x.1,.int x.2.1,.bl x.2.2])->jn H (l++ [x]) (vs++ [.ref t])
 |_,_,_,_,.nil,h=> .cons ⟨_,rfl,h⟩ .nil
 |_,_,_,_,.cons y r,h=> .cons y (jn.snoc r h)
theorem jn.length{H:Hp}{l:List Fo.Trip}{vs:List V}(h:jn H l vs):l.length=vs.length:=Paired.length h
theorem jn.at{H:Hp}:∀{l:List Fo.Trip}{vs:List V}{i:Nat}{x:Fo.Trip},jn H l vs->l[i]? =some x->∃t,vs[i]? =some (.ref t)/\H t=some (.tup [.int x.1,.int x.2.1,.bl x.2.2])
 |_,_,_,_,.nil,e=>by simp at e
 |_,_,0,_,.cons ⟨t,bJ,h⟩ _,e=>by simp at e;subst e;exact⟨t,by simp[bJ],h⟩
 |_,_,i+1,b,.cons _ r,e=>by
  obtain⟨t,ay,aD⟩:=jn.at (i:=i) (x:=b) r (by simpa using e);exact⟨t,by simpa using ay,aD⟩
def WA(H:Hp)(ck:List Addr)(W:Int->List Fo.Trip):Prop:=∀(j:Nat)(h:j<ck.length),∃vs,H ck[j]=some (.lst vs)/\jn H (W (j:Int)) vs
theorem WA.same{H aj:Hp}{ck:List Addr}{W:Int->List Fo.Trip}(h:WA H ck W)(s:Zd H aj):WA aj ck W:=λj bP=>by
 obtain⟨vs,ay,aD⟩:=h j bP;exact⟨vs,s _ _ ay,aD.keep λ_ _ e=>s _ _ e⟩
theorem WA.add{H:Hp}{ck:List Addr}{W:Int->List Fo.Trip}(h:WA H ck W)(nd:ck.Nodup){g:Nat}(bR:g<ck.length){vs:List V}(cz:H ck[g]=some (.lst vs))(bY:jn H (W (g:Int)) vs){t:Addr}{x:Fo.Trip}(oT:H t=some (.tup [.int x.1,.int x.2.1,.bl x.2.2])):
  WA (upd H ck[g] (.lst (vs++ [.ref t]))) ck (λj=>W j++(if(g:Int)=j then[x] else[])):=by
 have ei:∀b xs,H b=some (.tup xs)->(upd H ck[g] (.lst (vs++ [.ref t]))) b=some (.tup xs):=λb xs e=>by rw[b3 (e_ e cz (by intro z;cases z))];exact e
 intro j bP
 by_cases e:j=g
 .subst e;refine⟨vs++ [.ref t],Ze,?_⟩;dsimp only;rw[if_pos rfl];exact(bY.keep ei).snoc (ei _ _ oT)
 .obtain⟨us,ay,aD⟩:=h j bP;have ne:ck[j]≠ck[g]:=λz=>e (r2 nd bP bR z);refine⟨us,by rw[b3 ne];exact ay,?_⟩;dsimp only;rw[if_neg ∅,qbl];exact aD.keep ei
structure Zcv(H:Hp)(r:Addr)(ck:List Addr)(n:Nat)(W:Int->List Fo.Trip):Prop where
 at_:H r=some (.lst (ck.map V.ref))
 len:ck.length=n
 nd:ck.Nodup
 wa:WA H ck W
theorem Zcv.same{H aj:Hp}{r:Addr}{ck:List Addr}{n:Nat}{W:Int->List Fo.Trip}(h:Zcv H r ck n W)(s:Zd H aj):Zcv aj r ck n W:=⟨s _ _ h.at_,h.len,h.nd,h.wa.same s⟩
theorem Ze9{ck:List Addr}{g:Int}(c0:0<=g)(ay:g.toNat<ck.length):atI (ck.map V.ref) g=some (.ref ck[g.toNat]):=by
 have:=iT (xs:=ck.map V.ref) (j:=g.toNat) (v:= .ref ck[g.toNat]) (by simp[ay])
 rwa [qaB c0] at this
def p5 (H:Hp) (v:V):Option Fo.Trip->Prop
 |none=>v= .non
 |some (p,b,al)=>∃t,v= .ref t/\H t=some (.tup [.int p,.int b,.bl al])
theorem p5.keep{H aj:Hp}(t:∀b xs,H b=some (.tup xs)->aj b=some (.tup xs)){v:V}:∀{s:Option Fo.Trip},p5 H v s->p5 aj v s
 |none,h=>h
 |some (_,_,_),⟨a,e,z⟩=>⟨a,e,t _ _ z⟩
def Ent (H:Hp):List (Key×V)->Fo.ZY->Prop:=Paired λkv x=>kv.1=Sum.inl x.1/\p5 H kv.2 x.2
theorem Ent.keep{H aj:Hp}(t:∀b xs,H b=some (.tup xs)->aj b=some (.tup xs)){kvs:List (Key×V)}{b2:Fo.ZY}(h:Ent H kvs b2):Ent aj kvs b2:=Paired.mapP h λ_ _ ⟨a,z⟩=>⟨a,z.keep t⟩
theorem Ent.snoc{H:Hp}:∀{kvs:List (Key×V)}{b2:Fo.ZY}{w:Int}{v:V}{s:Option Fo.Trip},Ent H kvs b2->p5 H v s->Ent H (kvs++ [(Sum.inl w,v)]) (b2++ [(w,s)])
 |_,_,_,_,_,.nil,h=> .cons ⟨rfl,h⟩ .nil
 |_,_,_,_,_,.cons y r,h=> .cons y (Ent.snoc r h)
theorem Ent.length{H:Hp}{kvs:List (Key×V)}{b2:Fo.ZY}(h:Ent H kvs b2):kvs.length=b2.length:=Paired.length h
theorem Ent.keys{H:Hp}:∀{kvs:List (Key×V)}{b2:Fo.ZY},Ent H kvs b2->kvs.map (·.1)=(Fo.keys b2).map Sum.inl
 |_,_,.nil=>rfl
 |_,_,.cons ⟨a,_⟩ r=>by
  have:=Ent.keys r;unfold Fo.keys at this|-;rw[List.map_cons,List.map_cons,List.map_cons,a,this]
theorem Ent.some{H:Hp}:∀{kvs:List (Key×V)}{b2:Fo.ZY}{w:Int},Ent H kvs b2->((valV kvs (Sum.inl w)).isSome=true↔w∈Fo.keys b2):=by
 intro kvs b2 w h;rw[<-Vc,List.any_eq_true];have bH:=h.keys
 constructor
 .rintro⟨kv,bL,e⟩;have bJ:kv.1=Sum.inl w:=of_decide_eq_true e;have:kv.1∈kvs.map (·.1):=List.mem_map_of_mem bL;rw[bH,bJ] at this;obtain⟨eH,r3,bX⟩:=qaJ.mp this;cases bX;exact r3
 .intro hw;have:(Sum.inl w:Key)∈(Fo.keys b2).map Sum.inl:=List.mem_map_of_mem hw;rw[<-bH] at this;obtain⟨kv,bL,e⟩:=qaJ.mp this;exact⟨kv,bL,decide_eq_true e⟩
def Vw(H:Hp)(d:Addr)(b2:Fo.ZY):Prop:=∃kvs,H d=some (.dK kvs)/\Ent H kvs b2
theorem Vw.same{H aj:Hp}{d:Addr}{b2:Fo.ZY}(h:Vw H d b2)(s:Zd H aj):Vw aj d b2:=by
 obtain⟨kvs,ay,aD⟩:=h;exact⟨kvs,s _ _ ay,aD.keep λ_ _ e=>s _ _ e⟩
theorem Dc:∀(more kvs:List (Key×V))(k:Key),(valV (g7 kvs more) k).isSome=((valV kvs k).isSome||(valV more k).isSome)
 | [],kvs,k=>by
  show(valV kvs k).isSome=((valV kvs k).isSome||(valV ([]:List (Key×V)) k).isSome);have:valV ([]:List (Key×V)) k=none:=rfl;rw[this,Option.isSome_none,Bool.or_false]
 |(j,v)::r,kvs,k=>by
  show(valV (g7 (gx kvs j v) r) k).isSome=_;rw[Dc r (gx kvs j v) k,IX]
  by_cases e:j=k
  .subst e;rw[if_pos rfl,jI rfl];simp
  .rw[if_neg (λz=>e z.symm),jJ e]
theorem Paired.get'{cX f3:Type}{P:cX->f3->Prop}:∀{xs:List cX}{ys:List f3}{i:Nat}{x:cX},Paired P xs ys->xs[i]? =some x->∃y,ys[i]? =some y/\P x y
 |_,_,_,_,.nil,e=>by simp at e
 |_,_,0,_,.cons h _,e=>by simp at e;subst e;exact⟨_,rfl,h⟩
 |_,_,i+1,x,.cons _ r,e=>by
  obtain⟨y,ay,aD⟩:=Paired.get' (i:=i) (x:=x) r (by simpa using e);exact⟨y,by simpa using ay,aD⟩
def hV (H:Hp):List Addr->List (Int×Fo.ZY)->Prop:=Paired λd x=>Vw H d x.2
theorem hV.same{H aj:Hp}{cq:List Addr}{F:List (Int×Fo.ZY)}(h:hV H cq F)(s:Zd H aj):hV aj cq F:=Paired.mapP h λ_ _ z=>z.same s
theorem hV.snoc{H:Hp}:∀{cq:List Addr}{F:List (Int×Fo.ZY)}{d:Addr}{x:Int×Fo.ZY},hV H cq F->Vw H d x.2->hV H (cq++ [d]) (F++ [x])
 |_,_,_,_,.nil,h=> .cons h .nil
 |_,_,_,_,.cons y r,h=> .cons y (hV.snoc r h)
theorem hV.keep{H aj:Hp}(t:∀b xs,H b=some (.tup xs)->aj b=some (.tup xs)):∀{cq:List Addr}{F:List (Int×Fo.ZY)},hV H cq F->(∀d∈cq,∀kvs,H d=some (.dK kvs)->aj d=some (.dK kvs))->hV aj cq F
 |_,_,.nil,_=> .nil
 |_,_,.cons ⟨kvs,ay,aD⟩ r,k=> .cons ⟨kvs,k _ (by simp) _ ay,aD.keep t⟩ (hV.keep t r λd hd=>k d (qaj _ hd))
theorem hV.length{H:Hp}{cq:List Addr}{F:List (Int×Fo.ZY)}(h:hV H cq F):cq.length=F.length:=Paired.length h
structure Zk1(H:Hp)(f:Addr)(cq:List Addr)(F:List (Int×Fo.ZY)):Prop where
 at_:H f=some (.lst (cq.map V.ref))
 trees:hV H cq F
theorem Z1{ns:List Int}{k:Int}(c0:0<=k)(ay:k<ns.length):atI (ns.map V.int) k=some (.int (ns.getD k.toNat 0)):=by
 obtain⟨n,rfl⟩:=qaA c0;have b':n<ns.length:=by omega
 refine iT ?_;simp[List.getD,b']
theorem Zme{n a:Nat}(h:a<2 ^ n):Builtin.Int.intBits (a:Int)<=n:=by
 unfold Builtin.Int.intBits
 split
 .exact qar _
 .rename_i bU;have c0:(a:Int).natAbs≠0:=by
   intro e;apply bU;have:(a:Int)=0:=by omega
   rw[this]
   rfl
  have e:(a:Int).natAbs=a:=qbw a;have:=(qck c0).mpr (by rw[e];exact h);omega
theorem Zfe{n m a b:Nat}(bK:a<2 ^ n)(au:b<2 ^ m)(h:n+m<=10000000):IntMulOk (a:Int) (b:Int):=by
 have gl:=Zme bK;have iW:=Zme au;have k:Builtin.Int.intTooBig ((Builtin.Int.intBits (a:Int):Int)+(Builtin.Int.intBits (b:Int):Int))=false:=by
  unfold Builtin.Int.intTooBig;rw[PySem.bitsLine_eq];exact decide_eq_false ∅
 unfold IntMulOk;rw[k];simp
theorem Lk{a:Nat}(h:a<2 ^ 8000):(a:Int).natAbs.log2<9000:=by
 rw[qbw]
 by_cases c0:a=0
 .rw[c0];decide+kernel
 .have:=(qck c0).mpr h;omega
theorem Zlv{a b:Nat}(au:0<b)(h:b<2 ^ 8000):0<(b:Int)/\(b:Int).natAbs.log2<9000:=⟨∅,Lk h⟩
theorem r4{a b n m:Nat}(bK:a<2 ^ n)(au:b<2 ^ m):a*b<2 ^ (n+m):=by
 rw[Nat.pow_add];exact Nat.mul_lt_mul'' bK au
def Bal(B:B5)(al:Bool)(x y:Nat×Nat):Prop:=if al=true then x.1*y.2*B.take.toNat=y.1*x.2*B.give.toNat else x.1*y.2*B.give.toNat=y.1*x.2*B.take.toNat
structure jP(ls:List B5)(b2:Fo.ZY)(zs:List (Int×(Nat×Nat)))(d:Nat):Prop where
 keys:zs.map (·.1)=(Fo.keys b2).take d
 pos:∀x∈zs,0<x.2.1/\0<x.2.2/\Nat.gcd x.2.1 x.2.2=1
 size:∀(i:Nat) x,zs[i]? =some x->x.2.1<2 ^ (110*i+1)/\x.2.2<2 ^ (110*i+1)
 first:∀(i:Nat)(w:Int),i<d->b2[i]? =some (w,none)->zs[i]? =some (w,(1,1))
 step:∀(i:Nat)(w p b:Int)(al:Bool),i<d->b2[i]? =some (w,some (p,b,al))->∃(j:Nat)(x y:Nat×Nat),j<i/\zs[i]? =some (w,x)/\zs[j]? =some (p,y)/\Bal (ls.getD b.toNat dB) al x y
theorem Ll{ls:List B5}{b2:Fo.ZY}:jP ls b2 [] 0:=⟨rfl,by simp,by simp,λi w h=>absurd h (qbS _),λi w p b al h=>absurd h (qbS _)⟩
theorem jP.len{ls:List B5}{b2:Fo.ZY}{zs:List (Int×(Nat×Nat))}{d:Nat}(h:jP ls b2 zs d)(hd:d<=b2.length):zs.length=d:=by
 have:=congrArg List.length h.keys;rw[GM,qaI] at this;simp[Fo.keys] at this;omega
theorem ZlB{cX:Type}{zs:List cX}{x y:cX}{i:Nat}(h:(zs++ [x])[i]? =some y):zs[i]? =some y\/(i=zs.length/\y=x):=by
 rcases qcc i zs.length with c|c
 .rw[qaZ c] at h;exact .inl h
 .rw[qaS c] at h;have:i-zs.length=0:=by
   rcases qbv (i-zs.length) with z|z
   .exact z
   .rw[qbu (by simp;omega)] at h;cases h
  rw[this] at h;simp at h;exact .inr ⟨∅,h.symm⟩
theorem uz{cX:Type}{zs:List cX}{x y:cX}{i:Nat}(h:zs[i]? =some y):(zs++ [x])[i]? =some y:=by
 rw[qaZ (qad.mp h).1];exact h
theorem ZdZ{cX:Type}{zs:List cX}{x:cX}:(zs++ [x])[zs.length]? =some x:=by rw[qaS (qaa _),Nat.sub_self];rfl
theorem jP.more{ls:List B5}{b2:Fo.ZY}{zs:List (Int×(Nat×Nat))}{d:Nat}(h:jP ls b2 zs d)(hd:d<b2.length){w:Int}{st:Option Fo.Trip}(e:b2[d]? =some (w,st)){x:Nat×Nat}(bO:0<x.1/\0<x.2/\Nat.gcd x.1 x.2=1)(hs:x.1<2 ^ (110*d+1)/\x.2<2 ^ (110*d+1))
  (b':st=none->x=(1,1)) (dM:∀p b al,st=some (p,b,al)->∃(j:Nat)(y:Nat×Nat),zs[j]? =some (p,y)/\Bal (ls.getD b.toNat dB) al x y):jP ls b2 (zs++ [(w,x)]) (d+1):=by
 have ap:=h.len (qbh hd);have bH:(Fo.keys b2)[d]? =some w:=by unfold Fo.keys;rw[qao,e];rfl
 refine⟨?_,λy bW=>?_,λi y bW=>?_,λi eH hi cv=>?_,λi eH p b al hi cv=>?_⟩
 .rw[qaF,h.keys,List.take_succ,bH];rfl
 .rcases qaD.mp bW with z|z
  .exact h.pos y z
  .rw[qab.mp z];exact bO
 .rcases ZlB bW with z|⟨cK,cO⟩
  .exact h.size i y z
  .rw[cO,cK,ap];exact hs
 .rcases qaV.mp hi with z|z
  .exact uz (h.first i eH z cv)
  .subst z;rw[e] at cv;cases cv;rw[b' rfl,<-ap];exact ZdZ
 .rcases qaV.mp hi with z|z
  .obtain⟨j,fN,iE,ay,aD,cj,cS⟩:=h.step i eH p b al z cv;exact⟨j,fN,iE,ay,uz aD,uz cj,cS⟩
  .subst z;rw[e] at cv;cases cv;obtain⟨j,y,ay,aD⟩:=dM p b al rfl;have bP:=(qad.mp ay).1;refine⟨j,x,y,∅,?_,uz ay,aD⟩;rw[<-ap];exact ZdZ
def ShE (H:Hp):List (Key×V)->List (Int×(Nat×Nat))->Prop:=Paired λkv x=>kv.1=Sum.inl x.1/\∃t,kv.2= .ref t/\H t=some (.tup [.int (x.2.1:Nat),.int (x.2.2:Nat)])
theorem ShE.keep{H aj:Hp}(t:∀b xs,H b=some (.tup xs)->aj b=some (.tup xs)){kvs:List (Key×V)}{zs:List (Int×(Nat×Nat))}(h:ShE H kvs zs):ShE aj kvs zs:=Paired.mapP h λ_ _ ⟨a,c,e,z⟩=>⟨a,c,e,t _ _ z⟩
theorem ShE.snoc{H:Hp}:∀{kvs:List (Key×V)}{zs:List (Int×(Nat×Nat))}{w:Int}{t:Addr}{x:Nat×Nat},ShE H kvs zs->H t=some (.tup [.int (x.1:Nat),.int (x.2:Nat)])->ShE H (kvs++ [(Sum.inl w,.ref t)]) (zs++ [(w,x)])
 |_,_,_,_,_,.nil,h=> .cons ⟨rfl,_,rfl,h⟩ .nil
 |_,_,_,_,_,.cons y r,h=> .cons y (ShE.snoc r h)
theorem ShE.length{H:Hp}{kvs:List (Key×V)}{zs:List (Int×(Nat×Nat))}(h:ShE H kvs zs):kvs.length=zs.length:=Paired.length h
theorem ShE.get{H:Hp}:∀{kvs:List (Key×V)}{zs:List (Int×(Nat×Nat))}{p:Int},ShE H kvs zs->p∈zs.map (·.1)->∃(y:Nat×Nat)(t:Addr),(p,y)∈zs/\valV kvs (Sum.inl p)=some (.ref t)/\H t=some (.tup [.int (y.1:Nat),.int (y.2:Nat)])
 |_,_,_,.nil,h=>by simp at h
 |_,_,p,.cons (a:=kv) (b:=z) ⟨a,t,e,bY⟩ r,h=>by
  obtain⟨k,v⟩:=kv;obtain⟨w,x⟩:=z;dsimp only at a e bY;subst a e
  by_cases c:w=p
  .subst c;exact⟨x,t,by simp,jI rfl,bY⟩
  .have h':p∈_:=(qaf.mp h).resolve_left (λy=>c y.symm);obtain⟨y,t',ay,aD,cj⟩:=ShE.get r h';exact⟨y,t',qaj _ ay,by rw[jJ (λy=>c (Sum.inl.inj y))];exact aD,cj⟩
theorem ShE.none{H:Hp}{kvs:List (Key×V)}{zs:List (Int×(Nat×Nat))}{p:Int}(h:ShE H kvs zs)(bO:p∉zs.map (·.1)):valV kvs (Sum.inl p)=none:=by
 cases e:valV kvs (Sum.inl p) with
 |none=>rfl
 |some v=>
  exfalso;have:(valV kvs (Sum.inl p)).isSome=true:=by rw[e];rfl
  rw[<-Vc,List.any_eq_true] at this;obtain⟨kv,bL,bX⟩:=this;obtain⟨i,hi,rfl⟩:=qaq bL;obtain⟨z,bU,a,_⟩:=Paired.get' h (fm hi);have dn:kvs[i].1=Sum.inl p:=of_decide_eq_true bX;rw[a] at dn;have:z.1=p:=Sum.inl.inj dn;exact bO (qaJ.mpr ⟨z,qau bU,this⟩)
theorem Zi0{y u:Nat×Nat}{x:Nat×Nat}{cV ce G n:Nat}(lK:0<y.1)(iF:0<y.2)(eh:0<cV)(hf:0<ce)(hu:u.1=cV / G)(cz:u.2=ce / G)(f8:G=Nat.gcd cV ce)(ar:x.1=y.1*u.1 / Nat.gcd (y.1*u.1) (y.2*u.2))(kZ:x.2=y.2*u.2 / Nat.gcd (y.1*u.1) (y.2*u.2)):
  (0<x.1/\0<x.2/\Nat.gcd x.1 x.2=1)/\x.1*y.2*ce=y.1*x.2*cV/\x.1<=y.1*cV/\x.2<=y.2*ce:=by
 have T':0<G:=by rw[f8];exact qbd _ eh
 have i_:G ∣ cV:=by rw[f8];exact qbi _ _
 have hS:G ∣ ce:=by rw[f8];exact qba _ _
 have bJ:cV=u.1*G:=by rw[hu,qbC i_]
 have bX:ce=u.2*G:=by rw[cz,qbC hS]
 have Lm:0<u.1:=by rcases qbv u.1 with z|z;rw[z,Nat.zero_mul] at bJ;omega;exact z
 have nG:0<u.2:=by rcases qbv u.2 with z|z;rw[z,Nat.zero_mul] at bX;omega;exact z
 have xM:0<y.1*u.1:=qcl lK Lm;have Ln:0<y.2*u.2:=qcl iF nG;have lL:0<Nat.gcd (y.1*u.1) (y.2*u.2):=qbd _ xM;have fg:x.1*Nat.gcd (y.1*u.1) (y.2*u.2)=y.1*u.1:=by rw[ar,qbC (qbi _ _)]
 have e6:x.2*Nat.gcd (y.1*u.1) (y.2*u.2)=y.2*u.2:=by rw[kZ,qbC (qba _ _)]
 refine⟨⟨?_,?_,?_⟩,?_,?_,?_⟩
 .rw[ar];exact qbV (qbk xM (qbi _ _)) lL
 .rw[kZ];exact qbV (qbk Ln (qba _ _)) lL
 .rw[ar,kZ];exact Nat.gcd_div_gcd_div_gcd_of_pos_left xM
 .generalize Nat.gcd (y.1*u.1) (y.2*u.2)=g at*;have k:x.1*(y.2*u.2)=(y.1*u.1)*x.2:=by rw[<-e6,<-fg,qa9 x.2 g,qaK]
  calc x.1*y.2*ce=x.1*(y.2*u.2)*G:=by rw[bX];simp only[qaK]
   _=(y.1*u.1)*x.2*G:=by rw[k]
   _=y.1*x.2*cV:=by rw[bJ,qb8 y.1 u.1 x.2,qaK (y.1*x.2)]
 .have ay:x.1<=y.1*u.1:=by rw[ar];exact qaN _ _
  have aD:u.1<=cV:=by rw[hu];exact qaN _ _
  exact qap ay (qbY _ aD)
 .have ay:x.2<=y.2*u.2:=by rw[kZ];exact qaN _ _
  have aD:u.2<=ce:=by rw[cz];exact qaN _ _
  exact qap ay (qbY _ aD)
theorem Zn4{H:Hp}{kvs:List (Key×V)}{b2:Fo.ZY}{i:Nat}{kv:Key×V}(h:Ent H kvs b2)(e:kvs[i]? =some kv):∃w st,b2[i]? =some (w,st)/\kv.1=Sum.inl w/\p5 H kv.2 st:=by
 obtain⟨⟨w,st⟩,ay,aD,cj⟩:=Paired.get' h e;exact⟨w,st,ay,aD,cj⟩
theorem Zfc{H:Hp}{a:Addr}{u:HO}(h:_L.Rd H a u):H a≠none:=by
 rcases h with h|⟨o,h⟩<;>(rw[h];simp)
theorem r5{H:Hp}{d:Addr}{kvs:List (Key×V)}{o:Obj}(h:_L.Rd H d (.dK kvs)):df [d] H (upd H d (.frz o (.dK kvs))):=by
 refine⟨λb x e n=>?_,λb xs e=>?_⟩
 .rw[b3 (λz=>n (by simp[z]))];exact e
 .have:b≠d:=λz=>by
   rw[z] at e;rcases h with h|⟨cT,h⟩<;>(rw[h] at e;cases e)
  rw[b3 this];exact e
def WS(ls:List B5):Prop:=∀i<ls.length,∃cV ce,0<cV/\0<ce/\cV<2 ^ 110/\ce<2 ^ 110/\(ls.getD i dB).give=((cV:Nat):Int)/\(ls.getD i dB).take=((ce:Nat):Int)
theorem Lo{ls:List B5}{n:Nat}{F:List (Int×Fo.ZY)}(au:Z0 ls n)(hw:Fo.Vq (gm ls) n F n){i j:Nat}{x y:Int×Fo.ZY}(hi:F[i]? =some x)(bP:F[j]? =some y)(ne:i≠j):∀w∈Fo.keys x.2,w∉Fo.keys y.2:=by
 intro w ay aD;obtain⟨g1,fg,_,_⟩:=hw.tree x (qau hi);obtain⟨g2,e6,_,_⟩:=hw.tree y (qau bP);have a1:=(g1.keys_iff fg w).mp ay;have a2:=(g2.keys_iff e6 w).mp aD;have bJ:=hw.least x (qau hi) y.1 ((g1.keys_iff fg _).mpr (a1.trans (a2.symm (uy ls))));have bX:=hw.least y (qau bP) x.1 ((g2.keys_iff e6 _).mpr (a2.trans (a1.symm (uy ls))));obtain⟨eQ,h_⟩:=qad.mp hi;obtain⟨gp,mT⟩:=qad.mp bP;rcases Nat.lt_or_gt_of_ne ne with z|z
 .have:=qbs.mp hw.rise i j eQ gp z;rw[h_,mT] at this;omega
 .have:=qbs.mp hw.rise j i gp eQ z;rw[h_,mT] at this;omega
theorem uA{cX f3:Type}{P Dd:cX->f3->Prop}:∀{xs:List cX}{ys:List f3},Paired P xs ys->(∀x y,x∈xs->P x y->Dd x y)->Paired Dd xs ys
 |_,_,.nil,_=> .nil
 |_,_,.cons h r,f=> .cons (f _ _ (by simp) h) (uA r λx y ar=>f x y (qaj _ ar))
def Wl (H:Hp):List Addr->List (Int×Fo.ZY)->Prop:=Paired λd x=>∃kvs,_L.Rd H d (.dK kvs)/\Ent H kvs x.2
theorem hV.r{H:Hp}{cq:List Addr}{F:List (Int×Fo.ZY)}(h:hV H cq F):Wl H cq F:=Paired.mapP h λ_ _ ⟨kvs,a,b⟩=>⟨kvs,.inl a,b⟩
theorem Wl.same{H aj:Hp}{cq:List Addr}{F:List (Int×Fo.ZY)}(h:Wl H cq F)(s:Zd H aj):Wl aj cq F:=Paired.mapP h λ_ _ ⟨kvs,a,b⟩=>⟨kvs,a.imp (s _ _) (λ⟨o,z⟩=>⟨o,s _ _ z⟩),b.keep λ_ _ e=>s _ _ e⟩
theorem Wl.length{H:Hp}{cq:List Addr}{F:List (Int×Fo.ZY)}(h:Wl H cq F):cq.length=F.length:=Paired.length h
theorem ZnJ{H:Hp}{d:Addr}{k1 k2:List (Key×V)}(ay:_L.Rd H d (.dK k1))(aD:_L.Rd H d (.dK k2)):k1=k2:=by
 rcases ay with a|⟨mM,a⟩<;>rcases aD with b|⟨hb,b⟩<;>(rw[a] at b;cases b)<;>rfl
theorem Wl.frz{H:Hp}{cq:List Addr}{F:List (Int×Fo.ZY)}(h:Wl H cq F){d:Addr}{kvs:List (Key×V)}{o:Obj}(hd:_L.Rd H d (.dK kvs)):Wl (upd H d (.frz o (.dK kvs))) cq F:=Paired.mapP h λd' _ ⟨k,a,b⟩=>by
 refine⟨k,?_,b.keep (r5 hd).tups⟩
 by_cases z:d'=d
 .subst z;rw[ZnJ a hd];exact .inr ⟨o,Ze⟩
 .rcases a with a|⟨cT,a⟩
  .exact .inl (by rw[b3 z];exact a)
  .exact .inr ⟨cT,by rw[b3 z];exact a⟩
noncomputable def lcmL (zs:List (Int×(Nat×Nat))):Nat:=zs.foldl (λc x=>Nat.lcm c x.2.2) 1
theorem Lp(zs:List (Int×(Nat×Nat)))(x:Int×(Nat×Nat)):lcmL (zs++ [x])=Nat.lcm (lcmL zs) x.2.2:=by unfold lcmL;rw[qbT];rfl
theorem ZlU{a b:Nat}:a / Nat.gcd a b*b=Nat.lcm a b:=by
 unfold Nat.lcm;rw[Nat.div_mul_right_comm (qbi a b)]
theorem De{a b n m:Nat}(bK:a<2 ^ n)(au:b<2 ^ m):Nat.lcm a b<2 ^ (n+m):=by
 unfold Nat.lcm;exact qaM (qaN _ _) (r4 bK au)
def oU(ls:List B5)(x:Int×Fo.ZY)(rs:List Int):Prop:=∃zs,jP ls x.2 zs x.2.length/\∀y∈zs,rs[y.1.toNat]? =some ((lcmL zs / y.2.2*y.2.1:Nat):Int)
noncomputable def oV (hG:List Int) (b:B5):Int:=hG.getD b.giver.toNat 0*b.give-hG.getD b.taker.toNat 0*b.take
structure Zpg(ls:List B5)(n:Nat)(rs:List Int):Prop where
 len:rs.length=n
 pos:∀c∈rs,∃k:Nat,c=(k:Int)/\0<k/\k<2 ^ 420000
theorem Df:∀(zs:List (Int×(Nat×Nat)))(c:Nat),c ∣ zs.foldl (λc x=>Nat.lcm c x.2.2) c/\∀y∈zs,y.2.2 ∣ zs.foldl (λc x=>Nat.lcm c x.2.2) c
 | [],c=>⟨Nat.dvd_refl _,by simp⟩
 |z::zs,c=>by
  obtain⟨ay,aD⟩:=Df zs (Nat.lcm c z.2.2);refine⟨qci (Nat.dvd_lcm_left _ _) ay,λy bW=>?_⟩;rcases qaf.mp bW with rfl|bW
  .exact qci (Nat.dvd_lcm_right _ _) ay
  .exact aD y bW
theorem Dg:∀(zs:List (Int×(Nat×Nat)))(c m:Nat),c ∣ m->(∀y∈zs,y.2.2 ∣ m)->zs.foldl (λc x=>Nat.lcm c x.2.2) c ∣ m
 | [],_,_,h,_=>h
 |z::zs,c,m,h,k=>Dg zs _ m (Nat.lcm_dvd h (k z (by simp))) λy bW=>k y (qaj _ bW)
theorem xN{zs:List (Int×(Nat×Nat))}{y:Int×(Nat×Nat)}(h:y∈zs):y.2.2 ∣ lcmL zs:=(Df zs 1).2 y h
theorem Zlp{zs:List (Int×(Nat×Nat))}{m:Nat}(h:∀y∈zs,y.2.2 ∣ m):lcmL zs ∣ m:=Dg zs 1 m (Nat.one_dvd m) h
theorem Dh{zs:List (Int×(Nat×Nat))}(h:∀y∈zs,0<y.2.2):0<lcmL zs:=by
 unfold lcmL;have jk:∀(zs:List (Int×(Nat×Nat)))(c:Nat),0<c->(∀y∈zs,0<y.2.2)->0<zs.foldl (λc x=>Nat.lcm c x.2.2) c:=by
  intro zs
  induction zs with
  |nil=>intro c a_ _;exact a_
  |cons z zs b_=>intro c a_ k;exact b_ _ (Nat.lcm_pos a_ (k z (by simp))) λy bW=>k y (qaj _ bW)
 exact jk zs 1 (by decide) h
theorem ZhA{ls:List B5}{b2:Fo.ZY}{first:Int}{dZ:Int->List Fo.Trip}{zs:List (Int×(Nat×Nat))}(bR:Fo.Wd dZ first b2)(h:jP ls b2 zs b2.length){k:Nat}(bH:∀y∈zs,k ∣ lcmL zs / y.2.2*y.2.1):k=1:=by
 have r6:0<b2.length:=(qad.mp bR.head).1;have c0:=qau (h.first 0 first r6 bR.head);have Lq:k ∣ lcmL zs:=by
  have:=bH _ c0;simpa using this
 have Ua:0<lcmL zs:=Dh λy bW=>(h.pos y bW).2.1;obtain⟨c,a_⟩:=Lq;have k0:0<k:=by
  rcases qbv k with z|z
  .rw[z,Nat.zero_mul] at a_;omega
  .exact z
 have all:∀y∈zs,y.2.2 ∣ c:=by
  intro y bW;obtain⟨eW,eE,xO⟩:=h.pos y bW;obtain⟨m,bL⟩:=bH y bW;have bJ:lcmL zs / y.2.2*y.2.2=lcmL zs:=qbC (xN bW);have bX:k*(c*y.2.1)=k*(y.2.2*m):=by
   calc k*(c*y.2.1)=lcmL zs*y.2.1:=by rw[a_,qaK]
    _=(lcmL zs / y.2.2*y.2.1)*y.2.2:=by
     conv=>lhs;rw[<-bJ]
     rw[qb8]
    _=k*m*y.2.2:=by rw[bL]
    _=k*(y.2.2*m):=by rw[qaK,qa9 m]
  have dn:=qbt k0 bX;have d:y.2.2 ∣ c*y.2.1:=⟨m,dn⟩;exact Nat.Coprime.dvd_of_dvd_mul_right (show Nat.gcd y.2.2 y.2.1=1 by rw[Nat.gcd_comm];exact xO) d
 have hd:=Zlp all;rw[a_] at hd;have mU:0<c:=by
  rcases qbv c with z|z
  .rw[z,Nat.mul_zero] at a_;omega
  .exact z
 have:=qbk mU hd;rcases qcc k 2 with z|z
 .omega
 .have:2*c<=k*c:=Nat.mul_le_mul_right c z;omega
structure VH(ls:List B5)(z:Int->Nat):Prop where
 pos:∀w,0<z w
 bal:∀i<ls.length,(ls.getD i dB).give.toNat*z (ls.getD i dB).giver=(ls.getD i dB).take.toNat*z (ls.getD i dB).taker
theorem Zhr{ls:List B5}{z:Int->Nat}(bU:VH ls z)(hsz:WS ls){b2:Fo.ZY}{first:Int}{zs:List (Int×(Nat×Nat))}(bR:Fo.Wd (gm ls) first b2)(h:jP ls b2 zs b2.length):
  ∀(i:Nat)(y:Int×(Nat×Nat)),zs[i]? =some y->y.2.1*z first=y.2.2*z y.1:=by
 have uB:=h.len (qaa _);intro i
 induction i using Nat.strongRecOn with
 |_ i b_=>
  intro y bW;have hi:i<b2.length:=by have:=(qad.mp bW).1;omega
  obtain⟨⟨w,st⟩,e⟩:∃x,b2[i]? =some x:=⟨b2[i],fm hi⟩;cases st with
  |none=>
   have ay:=h.first i w hi e;rw[bW] at ay;cases ay;have Lr:=bR.only i w e;subst Lr;rw[bR.head] at e;cases e;simp
  |some x=>
   obtain⟨p,b,al⟩:=x;obtain⟨j,fN,iE,bP,ay,aD,au⟩:=h.step i w p b al hi e;rw[bW] at ay;cases ay;have xP:=b_ j bP _ aD;obtain⟨hw,_⟩:=bR.steps i w p b al e;obtain⟨bi,uC,bL⟩:=V6 hw;obtain⟨_,iF,_⟩:=h.pos _ (qau aD);obtain⟨cV,ce,eh,hf,_,_,f9,dt⟩:=hsz bi uC;have k4:=bU.bal bi uC;rw[Y6] at bL;unfold Bal at au;dsimp only at xP iF|-;rcases bL with⟨hg,h1⟩|⟨hg,h1⟩
   .injection h1 with bJ bX
    injection bX with bX dn
    subst dn;rw[if_pos rfl,bX,GT,f9,dt,GT,GT] at au;rw[f9,dt,GT,GT,hg,<-bJ] at k4;refine qbt (qcl iF hf) ?_
    calc iE.2*ce*(fN.1*z first)=fN.1*iE.2*ce*z first:=by simp only[qa9,qaH,qaK]
     _=iE.1*fN.2*cV*z first:=by rw[au]
     _=fN.2*cV*(iE.1*z first):=by simp only[qa9,qaH,qaK]
     _=fN.2*iE.2*(cV*z p):=by rw[xP];simp only[qa9,qaH,qaK]
     _=iE.2*ce*(fN.2*z w):=by rw[k4];simp only[qa9,qaH,qaK]
   .injection h1 with bJ bX
    injection bX with bX dn
    subst dn;rw[if_neg (by decide),bX,GT,f9,dt,GT,GT] at au;rw[f9,dt,GT,GT,hg,<-bJ] at k4;refine qbt (qcl iF eh) ?_
    calc iE.2*cV*(fN.1*z first)=fN.1*iE.2*cV*z first:=by simp only[qa9,qaH,qaK]
     _=iE.1*fN.2*ce*z first:=by rw[au]
     _=fN.2*ce*(iE.1*z first):=by simp only[qa9,qaH,qaK]
     _=fN.2*iE.2*(ce*z p):=by rw[xP];simp only[qa9,qaH,qaK]
     _=iE.2*cV*(fN.2*z w):=by rw[<-k4];simp only[qa9,qaH,qaK]
theorem Zdo{ls:List B5}{z:Int->Nat}(bU:VH ls z)(hsz:WS ls){b2:Fo.ZY}{first:Int}{zs:List (Int×(Nat×Nat))}(bR:Fo.Wd (gm ls) first b2)(h:jP ls b2 zs b2.length){y:Int×(Nat×Nat)}(bW:y∈zs):
  lcmL zs / y.2.2*y.2.1*z first=lcmL zs*z y.1:=by
 obtain⟨i,hi⟩:=qbf bW;have e:=Zhr bU hsz bR h i y hi
 calc lcmL zs / y.2.2*y.2.1*z first=lcmL zs / y.2.2*(y.2.1*z first):=by rw[qaK]
  _=lcmL zs / y.2.2*y.2.2*z y.1:=by rw[e,qaK]
  _=lcmL zs*z y.1:=by rw[qbC (xN bW)]
theorem ZmN{zs:List (Int×(Nat×Nat))}(h:∀y∈zs,y.2.2<2 ^ 6700):lcmL zs<2 ^ (6700*zs.length+1):=by
 have jk:∀(zs:List (Int×(Nat×Nat)))(c n:Nat),c<2 ^ n->(∀y∈zs,y.2.2<2 ^ 6700)->zs.foldl (λc x=>Nat.lcm c x.2.2) c<2 ^ (n+6700*zs.length):=by
  intro zs
  induction zs with
  |nil=>intro c n a_ _;simpa using a_
  |cons z zs b_=>
   intro c n a_ k;have:=b_ (Nat.lcm c z.2.2) (n+6700) (De a_ (k z (by simp))) λy bW=>k y (qaj _ bW);have e:n+6700+6700*zs.length=n+6700*(z::zs).length:=by simp[Nat.mul_succ];omega
   rw[e] at this;exact this
 have:=jk zs 1 1 (by decide) h;rw[Nat.add_comm];exact this
section
variable {ls:List B5}{n:Nat}{F:List (Int×Fo.ZY)}{rs:List Int}
theorem Zht{x:Int×Fo.ZY}{zs:List (Int×(Nat×Nat))}(h:jP ls x.2 zs x.2.length){w:Int}(hw:w∈Fo.keys x.2):∃y∈zs,y.1=w:=by
 have ay:=h.keys;have aD:(Fo.keys x.2).take x.2.length=Fo.keys x.2:=qa2 (by simp[Fo.keys]);rw[aD] at ay;rw[<-ay] at hw;obtain⟨y,bW,e⟩:=qaJ.mp hw;exact⟨y,bW,e⟩
theorem Zg6(dN:Z0 ls n)(b':n<=60)(f_:Fo.Vq (gm ls) n F n)(fO:rs.length=n)(fe:∀x∈F,oU ls x rs):Zpg ls n rs:=by
 refine⟨fO,λc a_=>?_⟩;obtain⟨i,hi,rfl⟩:=qaq a_;obtain⟨x,ar,bH⟩:=f_.all (i:Int) ∅ ∅;obtain⟨zs,bR,bU⟩:=fe x ar;obtain⟨y,bW,eA⟩:=Zht bR bH;have ay:=bU y bW;rw[eA,GT,fm hi] at ay;obtain⟨g,iG,eh,g1⟩:=f_.tree x ar;have ia:x.2.length<=60:=by
  have:=Fo.Zcu (n:=n) g.nodup (g.rg ⟨eh,g1⟩ (UV dN));simp[Fo.keys] at this;omega
 have uB:=bR.len (qaa _);have sz:∀y∈zs,y.2.1<2 ^ 6700/\y.2.2<2 ^ 6700:=λy bW=>by
  obtain⟨j,bP⟩:=qbf bW;have fc:=(qad.mp bP).1;obtain⟨a,b⟩:=bR.size j y bP;have e:(2:Nat) ^ (110*j+1)<=2 ^ 6700:=qav (by decide) ∅;exact⟨qae a e,qae b e⟩
 have nv:=ZmN λy bW=>(sz y bW).2;obtain⟨eW,eE,_⟩:=bR.pos y bW;refine⟨_,qaC ay,qcl (qbV (qbk (Dh λy bW=>(bR.pos y bW).2.1) (xN bW)) eE) eW,?_⟩;refine qae (r4 (qaM (qaN _ _) nv) (sz y bW).1) (qav (by decide) ?_);have:6700*zs.length<=6700*60:=qbY _ ∅;omega
theorem ZbJ{z:Int->Nat}(bU:VH ls z)(hsz:WS ls)(dN:Z0 ls n)(f_:Fo.Vq (gm ls) n F n)(fO:rs.length=n)(fe:∀x∈F,oU ls x rs){i:Nat}(hi:i<ls.length):oV rs (ls.getD i dB)=0:=by
 obtain⟨a0,a1,eO,gl⟩:=dN.at hi;obtain⟨cV,ce,eh,hf,_,_,f9,dt⟩:=hsz i hi;have k4:=bU.bal i hi;rw[f9,dt,GT,GT] at k4;obtain⟨x,ar,bH⟩:=f_.all (ls.getD i dB).giver a0 a1;obtain⟨g,iG,x0,x1⟩:=f_.tree x ar;have xQ:(ls.getD i dB).taker∈Fo.keys x.2:=by
  obtain⟨j,s,bP⟩:=Fo.ZcN bH;exact iG j _ s (qad.mp bP).1 bP ((ls.getD i dB).taker,(i:Int),true) (p4 hi (Y6.mpr (.inl ⟨rfl,rfl⟩)))
 obtain⟨zs,bR,hs⟩:=fe x ar;obtain⟨p6,Dj,Ls⟩:=Zht bR bH;obtain⟨r7,Dk,Lu⟩:=Zht bR xQ;have cE:=hs p6 Dj;have cY:=hs r7 Dk;have eL:=Zdo bU hsz g bR Dj;have j6:=Zdo bU hsz g bR Dk;rw[Ls] at cE eL;rw[Lu] at cY j6;have bJ:rs.getD (ls.getD i dB).giver.toNat 0=((lcmL zs / p6.2.2*p6.2.1:Nat):Int):=by rw[qbq,cE];rfl
 have bX:rs.getD (ls.getD i dB).taker.toNat 0=((lcmL zs / r7.2.2*r7.2.1:Nat):Int):=by rw[qbq,cY];rfl
 generalize lcmL zs / p6.2.2*p6.2.1=A at*;generalize lcmL zs / r7.2.2*r7.2.1=B at*;have jk:A*cV=B*ce:=by
  refine Nat.eq_of_mul_eq_mul_right (bU.pos x.1) ?_
  calc A*cV*z x.1=A*z x.1*cV:=qb8 _ _ _
   _=lcmL zs*z (ls.getD i dB).giver*cV:=by rw[eL]
   _=lcmL zs*(cV*z (ls.getD i dB).giver):=by simp only[qa9,qaH,qaK]
   _=lcmL zs*z (ls.getD i dB).taker*ce:=by rw[k4];simp only[qa9,qaH,qaK]
   _=B*z x.1*ce:=by rw[j6]
   _=B*ce*z x.1:=qb8 _ _ _
 unfold oV;rw[bJ,bX,f9,dt];have k2:(A:Int)*(cV:Int)=(B:Int)*(ce:Int):=by
  rw[<-qb7,<-qb7,jk]
 omega
end
theorem Paired.get{cX f3:Type}{P:cX->f3->Prop}:∀{xs:List cX}{ys:List f3}{i:Nat}{x:cX},Paired P xs ys->xs[i]? =some x->∃y,ys[i]? =some y/\P x y
 |_,_,_,_,.nil,e=>by simp at e
 |_,_,0,_,.cons h _,e=>by simp at e;subst e;exact⟨_,rfl,h⟩
 |_,_,i+1,x,.cons _ r,e=>by
  obtain⟨y,ay,aD⟩:=Paired.get (i:=i) (x:=x) r (by simpa using e);exact⟨y,by simpa using ay,aD⟩
theorem xR{cX f3:Type}{P:cX->f3->Prop}:∀{xs:List cX}{ys:List f3},xs.length=ys.length->(∀(i:Nat) x y,xs[i]? =some x->ys[i]? =some y->P x y)->Paired P xs ys
 | [],[],_,_=> .nil
 |x::xs,y::ys,ap,h=> .cons (h 0 x y rfl rfl) (xR (by simpa using ap) λi a b bJ bX=>h (i+1) a b (by simpa using bJ) (by simpa using bX))
 | [],_::_,ap,_=>by simp at ap
 |_::_,[],ap,_=>by simp at ap
theorem Zhi{f3 xS:Type}{S:xS->f3->Prop}{L:List xS}{d:xS}{ys:List f3}(h:Paired (λi v=>S (L.getD i d) v) ((List.range L.length).filter λ_=>true) ys):Paired S L ys:=by
 rw[qak.mpr (by simp)] at h;refine xR (by rw[<-Paired.length h,qbz]) λi x y bJ bX=>?_;have hi:i<L.length:=(qad.mp bJ).1;obtain⟨iE,ay,aD⟩:=Paired.get (i:=i) (x:=i) h (by simp[hi]);rw[bX] at ay;cases ay;simpa[List.getD,bJ] using aD
def hW (H:Hp):List (Int×Int)->List V->Prop:=Paired λx v=>∃t,v= .ref t/\H t=some (.tup [.int x.1,.int x.2])
theorem hW.keep{H aj:Hp}(t:∀b xs,H b=some (.tup xs)->aj b=some (.tup xs)){vs:List V}{l:List (Int×Int)}(h:hW H l vs):hW aj l vs:=Paired.mapP h λ_ _ ⟨a,e,z⟩=>⟨a,e,t _ _ z⟩
def LL (H:Hp):List (List (Int×Int))->List Addr->Prop:=Paired λl a=>∃vs,H a=some (.lst vs)/\hW H l vs
theorem LL.dom{H:Hp}:∀{ls:List (List (Int×Int))}{as:List Addr},LL H ls as->∀x∈as,H x≠none
 |_,_,.nil,_,ar=>by simp at ar
 |_,_,.cons ⟨vs,h,_⟩ r,x,ar=>by
  rcases qaf.mp ar with rfl|ar
  .rw[h];simp
  .exact LL.dom r x ar
theorem LL.keep{H aj:Hp}(t:∀b xs,H b=some (.tup xs)->aj b=some (.tup xs)):∀{ls:List (List (Int×Int))}{as:List Addr},LL H ls as->(∀x∈as,aj x=H x)->LL aj ls as
 |_,_,.nil,_=> .nil
 |_,_,.cons ⟨vs,h,p⟩ r,k=> .cons ⟨vs,(k _ (by simp)).trans h,p.keep t⟩ (LL.keep t r λx ar=>k x (qaj _ ar))
noncomputable def takeRow (ls:List B5) (w:Int):List (Int×Int):=(dz ls w).map λi:Nat=>((i:Int),(ls.getD i dB).take)
noncomputable def giveRow (ls:List B5) (w:Int):List (Int×Int):=(dR ls w).map λi:Nat=>((i:Int),(ls.getD i dB).give)
structure FM where
 many:Int
 rows:List B5
 heaps:List Int
noncomputable def r8 (fl:FM):List (List (Int×Int)):=(List.range fl.many.toNat).map λw:Nat=>takeRow fl.rows w
noncomputable def uD (fl:FM):List (List (Int×Int)):=(List.range fl.many.toNat).map λw:Nat=>giveRow fl.rows w
def jo(H:Hp)(p:Addr)(fl:FM)(fp:List Addr):Prop:=
 ∃(dx a b c:Addr)(ck eS:List Addr),fp=p::dx::a::b::c::(ck++eS)/\H p=some (.ins T.e dx [("takes",.ref a),("gives",.ref b),("heaps",.ref c)])/\H dx=some (.own p)/\H a=some (.lst (ck.map V.ref))/\H b=some (.lst (eS.map V.ref))/\
  H c=some (.lst (fl.heaps.map V.int))/\LL H (r8 fl) ck/\LL H (uD fl) eS/\fl.heaps.length=fl.rows.length/\0<=fl.many
section
variable {K:Frag}{mg:Str->Option Value}{T:Tp K mg}{H aj:Hp}{p:Addr}{fl:FM}{fp:List Addr}
theorem jo.dom(h:jo T H p fl fp):∀x∈fp,H x≠none:=by
 obtain⟨dx,a,b,c,ck,eS,rfl,ay,aD,cj,cS,ec,dq,hH,lM,r9⟩:=h;intro x ar;simp only[qaf,qaD] at ar;rcases ar with rfl|rfl|rfl|rfl|rfl|ar|ar
 .rw[ay];simp
 .rw[aD];simp
 .rw[cj];simp
 .rw[cS];simp
 .rw[ec];simp
 .exact dq.dom x ar
 .exact hH.dom x ar
theorem jo.off{A:List Addr}(h:jo T H p fl fp)(f:df A H aj)(d:∀x∈fp,x∉A):jo T aj p fl fp:=by
 have k:∀x∈fp,aj x=H x:=λx ar=>by
  cases q:H x with
  |none=>exact absurd q (h.dom x ar)
  |some o=>exact f.keep x o q (d x ar)
 obtain⟨dx,a,b,c,ck,eS,rfl,ay,aD,cj,cS,ec,dq,hH,lM,r9⟩:=h;exact⟨dx,a,b,c,ck,eS,rfl,(k p (by simp)).trans ay,(k dx (by simp)).trans aD,(k a (by simp)).trans cj,(k b (by simp)).trans cS,(k c (by simp)).trans ec,
  dq.keep f.tups (λx ar=>k x (by simp[ar])),hH.keep f.tups (λx ar=>k x (by simp[ar])),lM,r9⟩
theorem jo.same(h:jo T H p fl fp)(e:Zd H aj):jo T aj p fl fp:=h.off (A:=[]) e.frame (by simp)
theorem ZiO{m:Str}{G:Prop}(h:jo T H p fl fp)(hg:(m== "takes")=false)(h1:(m== "gives")=false)(xT:(m== "heaps")=false)(q:G):∃a dx fs,V.ref p= .ref a/\H a=some (.ins T.e dx fs)/\fs.lookup m=none/\G:=by
 obtain⟨dx,a,b,c,ck,eS,rfl,ay,_⟩:=h;exact⟨p,dx,_,rfl,ay,Rd.lk1 hg (Rd.lk1 h1 (Rd.lk1 xT Rd.lkN)),q⟩
end
noncomputable def fZ (rows:List B5) (hs:List Int) (w:Int):Bool:=(rows.zip hs).all λx=>!(decide (x.1.taker=w))||decide (x.1.take<=x.2)
theorem xU{w:Int}:∀{rows:List B5}{hs:List Int},(∀(i:Nat)(r:B5)(h:Int),rows[i]? =some r->hs[i]? =some h->r.taker=w->r.take<=h)->fZ rows hs w=true
 | [],_,_=>by simp[fZ]
 |_::_,[],_=>by simp[fZ]
 |r::rs,h::hs,q=>by
  have e:=xU (rows:=rs) (hs:=hs) (w:=w) λi c' h' a b=>q (i+1) c' h' (by simpa using a) (by simpa using b);unfold fZ at e|-;rw[List.zip_cons_cons,List.all_cons,e,qcj]
  by_cases c:r.taker=w
  .rw[decide_eq_true (q 0 r h rfl rfl c),Bool.or_true]
  .rw[decide_eq_false c];rfl
theorem xV{w:Int}:∀{rows:List B5}{hs:List Int}(i:Nat){r:B5}{h:Int},rows[i]? =some r->hs[i]? =some h->r.taker=w->h<r.take->fZ rows hs w=false
 | [],_,_,_,_,a,_,_,_=>by simp at a
 |_::_,[],_,_,_,_,a,_,_=>by simp at a
 |r::rs,h::hs,0,c',h',a,b,c,d=>by
  simp only[List.getElem?_cons_zero,Option.some.injEq] at a b;subst a b;unfold fZ;rw[List.zip_cons_cons,List.all_cons,decide_eq_true c,decide_eq_false (show ¬r.take<=h by omega)]
  rfl
 |r::rs,h::hs,i+1,c',h',a,b,c,d=>by
  have e:=xV (rows:=rs) (hs:=hs) (w:=w) i (r:=c') (h:=h') (by simpa using a) (by simpa using b) c d;unfold fZ at e|-;rw[List.zip_cons_cons,List.all_cons,e,Bool.and_false]
noncomputable def eY (rows:List B5) (hs:List Int) (w:Int):List Int:=(rows.zip hs).map λx=>x.2-(if x.1.taker=w then x.1.take else 0)+(if x.1.giver=w then x.1.give else 0)
theorem lN{rows:List B5}{hs:List Int}{w:Int}(h:hs.length=rows.length):(eY rows hs w).length=hs.length:=by unfold eY;simp;omega
theorem Uk{rows:List B5}{hs:List Int}{w:Int}{i:Nat}(ay:i<rows.length)(aD:i<hs.length)(cj:i<(eY rows hs w).length):(eY rows hs w)[i]=hs[i]-(if rows[i].taker=w then rows[i].take else 0)+(if rows[i].giver=w then rows[i].give else 0):=by
 have e:(eY rows hs w)[i]? =some (hs[i]-(if rows[i].taker=w then rows[i].take else 0)+(if rows[i].giver=w then rows[i].give else 0)):=by
  unfold eY;rw[qao,fm (by rw[List.length_zip];omega)];simp
 rw[fm cj] at e;exact qaC e
noncomputable def r_ (hs:List Int) (l:List (Int×Int)):Bool:=l.all λx=>decide (x.2<=hs.getD x.1.toNat 0)
theorem ZiT{rows:List B5}{hs:List Int}{w:Int}(h:hs.length=rows.length):r_ hs (takeRow rows w)=fZ rows hs w:=by
 cases e:r_ hs (takeRow rows w) with
 |true=>
  refine(xU λi r x a b c=>?_).symm;have hi:i<rows.length:=(qad.mp a).1;have kl:rows.getD i dB=r:=by simp[List.getD,a]
  have m:((i:Int),r.take)∈takeRow rows w:=by
   unfold takeRow dz;refine qaJ.mpr ⟨i,qa4.mpr ⟨qax.mpr hi,decide_eq_true (by rw[kl];exact c)⟩,by rw[kl]⟩
  have:=of_decide_eq_true (qbo.mp e _ m);simpa[List.getD,b] using this
 |false=>
  unfold r_ at e;rw[List.all_eq_false] at e;obtain⟨x,ar,d⟩:=e;unfold takeRow dz at ar;obtain⟨i,hi,rfl⟩:=qaJ.mp ar;obtain⟨ay,aD⟩:=qa4.mp hi;have aC:=qax.mp ay;have h_:=fm aC;have r':=fm (show i<hs.length by omega);have kl:rows.getD i dB=rows[i]:=by simp[List.getD,h_]
  rw[kl] at aD d;refine(xV i h_ r' (of_decide_eq_true aD) ?_).symm;have d':¬rows[i].take<=hs.getD (i:Int).toNat 0:=λz=>d (decide_eq_true z);have f9:hs.getD (i:Int).toNat 0=hs[i]:=by simp[List.getD,r']
  rw[f9] at d';omega
theorem oW{ls:List B5}{w:Int}{i:Nat}(h:i∈dz ls w):i<ls.length:=qax.mp (qa4.mp h).1
theorem p7{ls:List B5}{w:Int}{i:Nat}(h:i∈dR ls w):i<ls.length:=qax.mp (qa4.mp h).1
theorem UJ{ls:List B5}{w:Int}:(dz ls w).length<=ls.length:=qap (qbE _ _) (by simp)
theorem UN{ls:List B5}{w:Int}:(dR ls w).length<=ls.length:=qap (qbE _ _) (by simp)
noncomputable def bump (f:Nat->Int) (hs:List Int) (is:List Nat):List Int:=is.foldl (λhs i=>hs.set i (hs.getD i 0+f i)) hs
theorem Va(f:Nat->Int):∀(is:List Nat)(hs:List Int),(bump f hs is).length=hs.length
 | [],_=>rfl
 |i::is,hs=>by
  show(bump f (hs.set i _) is).length=_;rw[Va f is,qaP]
theorem xW(f:Nat->Int):∀(is:List Nat)(hs:List Int)(j:Nat),is.Nodup->j<hs.length->(bump f hs is).getD j 0=hs.getD j 0+if j∈is then f j else 0
 | [],hs,j,_,_=>by simp[bump]
 |i::is,hs,j,nd,bP=>by
  obtain⟨eK,fL⟩:=qb4.mp nd;show(bump f (hs.set i (hs.getD i 0+f i)) is).getD j 0=_;rw[xW f is _ j fL (by rw[qaP];exact bP)]
  by_cases e:i=j
  .subst e;have bJ:(hs.set i (hs.getD i 0+f i)).getD i 0=hs.getD i 0+f i:=by rw[qbq,qa1 bP];rfl
   rw[bJ,if_neg eK,if_pos qaL,Int.add_zero]
  .have bJ:(hs.set i (hs.getD i 0+f i)).getD j 0=hs.getD j 0:=by rw[qbq,qbm e,qbq]
   rw[bJ];have:(j∈i::is)↔j∈is:=by simp[qaY e]
   simp only[this]
theorem uE(n:Nat)(c:Nat->Bool):((List.range n).filter c).Nodup:=List.nodup_range.filter c
theorem Lv{rows:List B5}{hs:List Int}{w:Int}(h:hs.length=rows.length):
  bump (λi=>(rows.getD i dB).give) (bump (λi=>-(rows.getD i dB).take) hs (dz rows w)) (dR rows w)=eY rows hs w:=by
 have l1:=Va (λi=>-(rows.getD i dB).take) (dz rows w) hs;refine qaE (by rw[Va,l1,lN h]) λi ay aD=>?_;rw[Va,l1] at ay;have aC:i<rows.length:=by omega
 rw[Uk aC ay aD];have gw:∀(xs:List Int)(ar:i<xs.length),xs[i]=xs.getD i 0:=λxs ar=>by simp[List.getD,ar]
 rw[gw _ (by rw[Va,l1];exact ay),xW _ (dR rows w) _ _ (uE _ _) (by rw[l1];exact ay),xW _ (dz rows w) _ _ (uE _ _) ay,<-gw hs ay];have kl:rows.getD i dB=rows[i]:=by simp[List.getD,aC]
 have hg:i∈dz rows w↔rows[i].taker=w:=by
  unfold dz;rw[qa4,qax,kl,decide_eq_true_eq];exact⟨λz=>z.2,λz=>⟨aC,z⟩⟩
 have h1:i∈dR rows w↔rows[i].giver=w:=by
  unfold dR;rw[qa4,qax,kl,decide_eq_true_eq];exact⟨λz=>z.2,λz=>⟨aC,z⟩⟩
 simp only[hg,h1,kl]
 split<;>split<;>omega
noncomputable def turnR (many:Int) (rows:List B5) (hs:List Int) (w:Int):Except Bool (List Int):=if 0<=w/\w<many then(if fZ rows hs w=true then .ok (eY rows hs w) else .error false) else .error true
noncomputable def goR (many:Int) (rows:List B5):List Int->List Int->Except Bool (List Int)
 |hs,[]=> .ok hs
 |hs,w::ws=>match turnR many rows hs w with
  | .ok eo=>goR many rows eo ws
  | .error e=> .error e
theorem Zbb{many:Int}{rows:List B5}:∀{xs:List Int}{hs eo:List Int}{ys:List Int},goR many rows hs xs= .ok eo->goR many rows hs (xs++ys)=goR many rows eo ys
 | [],hs,eo,ys,h=>by
  have:hs=eo:=by simpa[goR] using h
  rw[this];rfl
 |x::xs,hs,eo,ys,h=>by
  show(match turnR many rows hs x with| .ok eo=>goR many rows eo (xs++ys)| .error e=> .error e)=_;have h':(match turnR many rows hs x with| .ok eo=>goR many rows eo xs| .error e=> .error e)= .ok eo:=h;cases e:turnR many rows hs x with
  |ok ay=>
   rw[e] at h';exact Zbb (xs:=xs) h'
  |error b=>rw[e] at h';cases h'
theorem Zie{many:Int}{rows:List B5}:∀{xs:List Int}{hs:List Int}{b:Bool}{ys:List Int},goR many rows hs xs= .error b->goR many rows hs (xs++ys)= .error b
 | [],hs,b,ys,h=>by cases h
 |x::xs,hs,b,ys,h=>by
  show(match turnR many rows hs x with| .ok eo=>goR many rows eo (xs++ys)| .error e=> .error e)=_;have h':(match turnR many rows hs x with| .ok eo=>goR many rows eo xs| .error e=> .error e)= .error b:=h;cases e:turnR many rows hs x with
  |ok ay=>
   rw[e] at h';exact Zie (xs:=xs) h'
  |error c=>rw[e] at h';exact h'
theorem uF{many:Int}{rows:List B5}{jQ hs:List Int}{ws:List Int}{i:Nat}{w:Int}(h:goR many rows jQ (ws.take i)= .ok hs)(e:ws[i]? =some w):goR many rows jQ (ws.take (i+1))=turnR many rows hs w:=by
 have hi:=(qad.mp e);rw[List.take_succ,e];show goR many rows jQ (ws.take i++ [w])=_;rw[Zbb h];show(match turnR many rows hs w with| .ok eo=>goR many rows eo []| .error e=> .error e)=_;cases turnR many rows hs w<;>rfl
theorem Zgr{many:Int}{rows:List B5}{jQ hs:List Int}{ws:List Int}{i:Nat}{w:Int}{b:Bool}(h:goR many rows jQ (ws.take i)= .ok hs)(e:ws[i]? =some w)(t:turnR many rows hs w= .error b):goR many rows jQ ws= .error b:=by
 have:=Zie (ys:=ws.drop (i+1)) ((uF h e).trans t)
 rwa [qbF] at this
theorem Lw{many:Int}{rows:List B5}{hs eo:List Int}{w:Int}(h:hs.length=rows.length)(e:turnR many rows hs w= .ok eo):eo.length=rows.length:=by
 unfold turnR at e
 split at e
 .split at e
  .cases e;rw[lN h,h]
  .cases e
 .cases e
theorem xX{many:Int}{rows:List B5}:∀{ws:List Int}{hs eo:List Int},hs.length=rows.length->goR many rows hs ws= .ok eo->eo.length=rows.length
 | [],hs,eo,h,e=>by
  have:hs=eo:=by simpa[goR] using e
  rw[<-this];exact h
 |w::ws,hs,eo,h,e=>by
  have cv:(match turnR many rows hs w with| .ok eo=>goR many rows eo ws| .error e=> .error e)= .ok eo:=e;cases q:turnR many rows hs w with
  |ok ay=>
   rw[q] at cv;exact xX (Lw h q) cv
  |error b=>rw[q] at cv;cases cv
theorem Dl{fl:FM}{w:Int}(c0:0<=w)(ay:w<fl.many):(r8 fl)[w.toNat]? =some (takeRow fl.rows w):=by
 unfold r8;have:w.toNat<fl.many.toNat:=by omega
 rw[qao,qbN this];show some (takeRow fl.rows (w.toNat:Int))=_;rw[qaB c0]
theorem Do{fl:FM}{w:Int}(c0:0<=w)(ay:w<fl.many):(uD fl)[w.toNat]? =some (giveRow fl.rows w):=by
 unfold uD;have:w.toNat<fl.many.toNat:=by omega
 rw[qao,qbN this];show some (giveRow fl.rows (w.toNat:Int))=_;rw[qaB c0]
theorem LL.at{H:Hp}{ls:List (List (Int×Int))}{ck:List Addr}{w:Int}{l:List (Int×Int)}(h:LL H ls ck)(c0:0<=w)(e:ls[w.toNat]? =some l):∃x vs,atI (ck.map V.ref) w=some (.ref x)/\H x=some (.lst vs)/\hW H l vs:=by
 obtain⟨x,ay,vs,aD,cj⟩:=Paired.get h e;refine⟨x,vs,?_,aD,cj⟩;have:=iT (xs:=ck.map V.ref) (j:=w.toNat) (v:= .ref x) (by rw[qao,ay];rfl)
 rwa [qaB c0] at this
theorem LL.len{H:Hp}{ls:List (List (Int×Int))}{ck:List Addr}(h:LL H ls ck):ck.length=ls.length:=(Paired.length h).symm
theorem Dp{H:Hp}{f':List Nat}{f:Nat->Int}{ys:List V}(h:Paired (λi v=>∃t,v=V.ref t/\H t=some (.tup [.int (f'.getD i 0:Nat),.int (f (f'.getD i 0))])) ((List.range (f'.map λi:Nat=>V.int i).length).filter λ_=>true) ys):hW H (f'.map λi:Nat=>((i:Int),f i)) ys:=by
 rw[GM] at h;have ay:Paired (λ(j:Nat) v=>∃t,v=V.ref t/\H t=some (.tup [.int (j:Nat),.int (f j)])) f' ys:=Zhi (L:=f') (d:=0) h;refine xR (by rw[GM];exact Paired.length ay) λi x y bJ bX=>?_;rw[qao] at bJ;cases e:f'[i]? with
 |none=>rw[e] at bJ;cases bJ
 |some j=>
  rw[e] at bJ;cases bJ;obtain⟨iE,dn,cj⟩:=Paired.get ay e;rw[bX] at dn;cases dn;exact cj
theorem Lx{ls:List B5}{w:Int}{n:Nat}(h:n=ls.length):∀x∈takeRow ls w,0<=x.1/\x.1<n:=by
 intro x ar;obtain⟨i,hi,rfl⟩:=qaJ.mp ar;have:=oW hi;show 0<=(i:Int)/\(i:Int)<n;omega
theorem Zc4{ls:List B5}{w:Int}:(takeRow ls w).length<=ls.length:=by unfold takeRow;rw[GM];exact UJ
def Zco(ls:List B5)(rs:List Int):Prop:=∀b∈ls,b.give*rs.getD b.giver.toNat 0=b.take*rs.getD b.taker.toNat 0
noncomputable def startsL (ls:List B5):List Int:=ls.map B5.start
structure Rts(ls:List B5)(n:Nat)(z:Int->Nat)(rs:List Int):Prop where
 len:rs.length=n
 pos:∀r∈rs,1<=r
 bal:Zco ls rs
 wood:∃F,Fo.Vq (gm ls) n F n/\∀x∈F,oU ls x rs
def k6(rs ss:List Int):Prop:=rs.length=ss.length/\∀i<rs.length,ss.getD i 0<=rs.getD i 0
theorem xY{f:Nat->Bool}:∀{is:List Nat}{ys:List V},Paired (λi v=>v=V.bl (f i)) is ys->ys=(is.map f).map V.bl
 |_,_,.nil=>rfl
 |_,_,.cons a r=>by rw[a,xY r];rfl
theorem ZcA{n:Nat}{P:Nat->Prop}[∀i,Decidable (P i)]:(((List.range n).map λi=>decide (P i)).all id)=true↔∀i<n,P i:=by
 simp
noncomputable def p8 (b:B5) (r:Int):B5:=⟨b.taker,b.giver,b.take,b.give,r-b.start⟩
noncomputable def gU (ls:List B5) (rs:List Int):List B5:=(List.range ls.length).map λi=>p8 (ls.getD i dB) (rs.getD i 0)
theorem uG{ls:List B5}{rs:List Int}:(gU ls rs).length=ls.length:=by simp[gU]
theorem Dq{H:Hp}{f:Nat->B5}:∀{is:List Nat}{ys:List V},Paired (λi v=>∃u,v=V.ref u/\H u=some (.tup (f i).v)) is ys->ev H ys (is.map f)
 |_,_,.nil=> .nil
 |_,_,.cons a r=> .cons a (Dq r)
theorem ev.app{H:Hp}:∀{bs hG:List V}{ls gv:List B5},ev H bs ls->ev H hG gv->ev H (bs++hG) (ls++gv)
 |_,_,_,_,.nil,h=>h
 |_,_,_,_,.cons x r,h=> .cons x (ev.app r h)
def ZcH(dg:List Str):Prop:=dg.Nodup/\(∀x∈dg,hU x=true)/\dg.length<=30
theorem Zcx{ns:List Int}{k:Int}(c0:0<=k)(ay:k<ns.length):atI (ns.map V.int) k=some (.int (ns.getD k.toNat 0)):=Z1 c0 ay
theorem xZ{n:Nat}{a:Int}(h:a.natAbs<2 ^ n):Builtin.Int.intBits a<=n:=by
 unfold Builtin.Int.intBits
 split
 .exact qar _
 .rename_i bU;have c0:a.natAbs≠0:=by
   intro e;apply bU;have:a=0:=by omega
   rw[this]
   rfl
  have:=(qck c0).mpr h;omega
theorem mulI{n m:Nat}{a b:Int}(bK:a.natAbs<2 ^ n)(au:b.natAbs<2 ^ m)(h:n+m<=10000000):IntMulOk a b:=by
 have gl:=xZ bK;have iW:=xZ au;have k:Builtin.Int.intTooBig ((Builtin.Int.intBits a:Int)+(Builtin.Int.intBits b:Int))=false:=by
  unfold Builtin.Int.intTooBig;rw[PySem.bitsLine_eq];exact decide_eq_false ∅
 unfold IntMulOk;rw[k];simp
theorem Ly:∀i<26,("abcdefghijklmnopqrstuvwxyz" :Str).cps.toList[i]? =some (97+i):=by decide+kernel
theorem Lz:("abcdefghijklmnopqrstuvwxyz" :Str).length<=sizeLine:=by decide+kernel
theorem LA{i:Int}(c0:0<=i)(ay:i<26):atI ("abcdefghijklmnopqrstuvwxyz" :Str).cps.toList i=some (97+i.toNat):=by
 have:=iT (Ly i.toNat ∅)
 rwa [qaB c0] at this
theorem ZiZ(x:Str):hU x=true↔1<=x.length/\x.length<=8/\∀c∈x.cps.toList,97<=c/\c<=122:=by
 unfold hU;simp only[qbn,decide_eq_true_eq,qbo];exact⟨λh=>⟨h.1.1,h.1.2,h.2⟩,λh=>⟨⟨h.1,h.2.1⟩,h.2.2⟩⟩
theorem ZjJ(x y:Str):(x++y).cps.toList=x.cps.toList++y.cps.toList:=by
 show(x.cps++y.cps).toList=_;simp
theorem x_(x:Str):x.length=x.cps.toList.length:=by simp[Str.length]
noncomputable def cellX (ns:List Int) (k:Int):Int:=if(ns.length:Int)=0 then 0 else if k / ns.length=0 then ns.getD (k % ns.length).toNat 0 else ns.getD (k % ns.length).toNat 0*(2*(k / ns.length)+1) % 1000003+31*(k / ns.length)
theorem x'{n:Nat}(h:n<=100000000):(n:Int).natAbs.log2<9000:=by
 rw[qbw]
 by_cases c0:n=0
 .rw[c0];decide+kernel
 .have:=(qck c0).mpr (show n<2 ^ 30 by omega);omega
theorem iH{x:Int}(c0:0<=x)(ay:x<=100000000):x.natAbs.log2<9000:=by
 obtain⟨n,rfl⟩:=qaA c0;exact x' ∅
structure Bel(n:Nat)(b:B5):Prop where
 rg:0<=b.giver/\b.giver<(n:Int)/\0<=b.taker/\b.taker<(n:Int)
 sz:1<=b.give/\1<=b.take
 st:0<=b.start/\b.start<=1000
 few:b.give<=1000/\b.take<=1000
def Zka(rs:List Int):Prop:=∀r∈rs,1<=r/\r<=6
theorem ZoA{f x y:Nat}(ar:1<=x):f*y / Nat.gcd x y*x=f*x / Nat.gcd x y*y:=by
 have eh:0<Nat.gcd x y:=qbd _ ar;obtain⟨a,bK⟩:=qbi x y;obtain⟨b,au⟩:=qba x y;generalize Nat.gcd x y=g at*;subst bK au;have bJ:f*(g*b) / g=f*b:=by rw[qaH];exact Nat.mul_div_cancel_left _ eh
 have bX:f*(g*a) / g=f*a:=by rw[qaH];exact Nat.mul_div_cancel_left _ eh
 rw[bJ,bX];simp only[qaK,qaH,qa9]
theorem VM{H aA aP:Hp}{fp jR:List Addr}(s:Zd H aA)(n:∀x∈fp,H x=none)(ei:df fp aA aP)(gr:V0 fp jR aA):Zd H aP/\∀x∈jR,H x=none:=by
 refine⟨λb o e=>ei.keep _ _ (s _ _ e) (λz=>by have:=n b z;rw[e] at this;cases this),λx ar=>?_⟩;rcases gr x ar with z|z
 .exact n x z
 .exact ft s z
noncomputable def chN (c at_:Int) (k p:Nat):Nat:=97+((if(p:Int)=at_ then c / 64+3*(k:Int) else c / (64+(p:Int))) % 26).toNat
theorem ZnR(c at_:Int)(k p:Nat):97<=chN c at_ k p/\chN c at_ k p<=122:=by unfold chN;omega
theorem Zoe{c at_:Int}{k k' p:Nat}(bO:(p:Int)=at_)(h:k<8)(h':k'<8)(n:k≠k'):chN c at_ k p≠chN c at_ k' p:=by
 unfold chN;rw[if_pos bO,if_pos bO];omega
structure ZaX(c at_:Int)(eT:Nat)(dg:List Str):Prop where
 cps:∀k x,dg[k]? =some x->x.cps.toList=(List.range eT).map (chN c at_ k)
theorem ZaX.name{c at_:Int}{eT:Nat}{dg:List Str}(h:ZaX c at_ eT dg)(ay:1<=eT)(aD:eT<=8):∀n∈dg,hU n=true:=λn b'=>by
 obtain⟨k,bH⟩:=qbf b';have e:=h.cps k n bH;rw[ZiZ,x_,e];refine⟨by simpa using ay,by simpa using aD,λx ar=>?_⟩;obtain⟨i,_,rfl⟩:=qaJ.mp ar;exact ZnR c at_ k i
theorem ZaX.nodup{c at_:Int}{eT:Nat}{dg:List Str}(h:ZaX c at_ eT dg)(ap:dg.length<=8)(c0:0<=at_)(ay:at_<(eT:Int)):dg.Nodup:=by
 rw[List.nodup_iff_pairwise_ne,qbs];intro i j hi bP hij e;have bJ:=h.cps i _ (fm hi);have bX:=h.cps j _ (fm bP);rw[e,bX] at bJ;have bO:at_.toNat<eT:=by omega
 have dn:=congrArg (λl=>l[at_.toNat]?) bJ;simp[bO] at dn;exact Zoe (c:=c) (at_:=at_) (k:=j) (k':=i) (p:=at_.toNat) ∅ ∅ ∅ ∅ dn
theorem LB{x:Int}(c0:0<=x)(ay:x<=100000):x.natAbs.log2<9000:=iH c0 ∅
noncomputable def labT (E:List (Nat×Nat)) (n w:Nat):Nat:=Pc.Yt E n (λi=>i) w
noncomputable def d3 (ls:List B5):List (Nat×Nat):=ls.map λb=>(b.giver.toNat,b.taker.toNat)
theorem ZgM{ls:List B5}{n:Nat}(h:Z0 ls n):∀e∈d3 ls,e.1<n/\e.2<n:=by
 intro e b9;obtain⟨b,au,rfl⟩:=qaJ.mp b9;have:=h b au;dsimp only;omega
theorem Zkb{ls:List B5}{n:Nat}(au:Z0 ls n){a b:Nat}(h:Pc.Yu (d3 ls) a b):Fo.WT (gm ls) (a:Int) (b:Int):=by
 induction h with
 |refl=>exact .refl
 |fwd _ e b_=>
  obtain⟨x,ar,bX⟩:=qaJ.mp e;obtain⟨i,hi,rfl⟩:=qaq ar;have aC:=au _ ar
  injection bX with dn ha
  refine .step (t:=(i:Int)) (al:=true) b_ (p4 hi ?_);rw[Y6,cL hi];exact .inl ⟨∅,by congr 1;omega⟩
 |bwd _ e b_=>
  obtain⟨x,ar,bX⟩:=qaJ.mp e;obtain⟨i,hi,rfl⟩:=qaq ar;have aC:=au _ ar
  injection bX with dn ha
  refine .step (t:=(i:Int)) (al:=false) b_ (p4 hi ?_);rw[Y6,cL hi];exact .inr ⟨∅,by congr 1;omega⟩
theorem Znk{E:List (Nat×Nat)}{n:Nat}(h9:∀e∈E,e.1<n/\e.2<n){a b:Nat}(bK:a<n)(au:b<n)(h:Pc.Yu E a b):labT E n a=labT E n b:=by
 obtain⟨fg,l1⟩:=Pc.UD h9 bK;obtain⟨e6,l2⟩:=Pc.UD h9 au;have ay:=l1 _ (h.trans e6);have aD:=l2 _ (h.symm.trans fg);unfold labT;omega
noncomputable def gL (f:Nat->Nat) (m:Nat):List Int:=(List.range m).map λw=>((f w:Nat):Int)
theorem ZlS(f:Nat->Nat)(m:Nat):(gL f m).length=m:=by simp[gL]
theorem ZcS{f:Nat->Nat}{m g:Nat}(h:g<m):atI ((gL f m).map V.int) (g:Int)=some (.int (f g:Nat)):=iT (by simp[gL,h])
theorem Zkt{f:Nat->Nat}{m:Nat}{e:Nat×Nat}(ay:e.1<m)(aD:e.2<m):((gL f m).set e.1 ((min (f e.1) (f e.2):Nat):Int)).set e.2 ((min (f e.1) (f e.2):Nat):Int)=gL (Pc.step f e) m:=by
 refine qaE (by simp[gL]) λj a1 a2=>?_;have bP:j<m:=by simpa[gL] using a2
 rw[qbB,qbB];simp only[gL,qbx,List.getElem_range,Pc.step]
 by_cases e6:e.2=j
 .rw[if_pos e6,if_pos (.inr e6.symm)]
 .rw[if_neg e6]
  by_cases fg:e.1=j
  .rw[if_pos fg,if_pos (.inl fg.symm)]
  .rw[if_neg fg,if_neg (λz=>z.elim (λy=>fg y.symm) (λy=>e6 y.symm))]
theorem Zik{ls:List B5}{ys:List Int}(a_:∀j<ls.length,((ls.getD j dB).giver∈ys↔(ls.getD j dB).taker∈ys)){a w:Int}(h:Fo.WT (gm ls) a w)(bK:a∈ys):w∈ys:=by
 induction h with
 |refl=>exact bK
 |step _ m b_=>
  obtain⟨i,hi,bL⟩:=V6 m;rcases Y6.mp bL with⟨bJ,bX⟩|⟨bJ,bX⟩
  .have dn:=congrArg Prod.fst bX;dsimp only at dn;rw[dn];exact(a_ i hi).mp (bJ▸b_)
  .have dn:=congrArg Prod.fst bX;dsimp only at dn;rw[dn];exact(a_ i hi).mpr (bJ▸b_)
noncomputable def p9 (rs:List Int) (ys:List Int):Nat:=ys.foldl (λc w=>Nat.gcd c (rs.getD w.toNat 0).toNat) 0
theorem ya(rs:List Int):∀(ys:List Int)(c:Nat),ys.foldl (λc w=>Nat.gcd c (rs.getD w.toNat 0).toNat) c ∣ c/\∀w∈ys,ys.foldl (λc w=>Nat.gcd c (rs.getD w.toNat 0).toNat) c ∣ (rs.getD w.toNat 0).toNat
 | [],c=>⟨Nat.dvd_refl c,by simp⟩
 |w::ys,c=>by
  obtain⟨ay,aD⟩:=ya rs ys (Nat.gcd c (rs.getD w.toNat 0).toNat);refine⟨qci ay (qbi _ _),λv cz=>?_⟩;rcases qaf.mp cz with z|z
  .rw[z];exact qci ay (qba _ _)
  .exact aD v z
def ZaN(ls:List B5)(n:Nat)(rs:List Int):Prop:=∀(f:Int)(ys:List Int),0<=f->f<(n:Int)->f∈ys->(∀j<ls.length,((ls.getD j dB).giver∈ys↔(ls.getD j dB).taker∈ys))->p9 rs ys=1
theorem Zld{ls:List B5}{n:Nat}{F:List (Int×Fo.ZY)}{rs:List Int}(f_:Fo.Vq (gm ls) n F n)(fe:∀x∈F,oU ls x rs):ZaN ls n rs:=by
 intro f ys ea f1 bS a_;obtain⟨x,ar,bH⟩:=f_.all f ea f1;obtain⟨bR,ib,_,_⟩:=f_.tree x ar;obtain⟨zs,bU,jp⟩:=fe x ar;refine ZhA bR bU λy bW=>?_;have uH:y.1∈Fo.keys x.2:=by
  have ay:=bU.keys;have aD:(Fo.keys x.2).take x.2.length=Fo.keys x.2:=qa2 (by simp[Fo.keys]);rw[aD] at ay;rw[<-ay];exact qaJ.mpr ⟨y,bW,rfl⟩
 have cj:=(bR.keys_iff ib y.1).mp uH;have cS:=(bR.keys_iff ib f).mp bH;have ec:y.1∈ys:=Zik a_ (Fo.WT.trans (Fo.WT.symm (uy ls) cS) cj) bS;have dq:=(ya rs ys 0).2 _ ec;have hH:=jp y bW;have lM:rs.getD y.1.toNat 0=((lcmL zs / y.2.2*y.2.1:Nat):Int):=by rw[List.getD,hH];rfl
 rw[lM,GT] at dq;exact dq
section
variable {ls:List B5}{n:Nat}{rs rs':List Int}
theorem Zg5{rs rs':List Int}{a b:Nat}:∀(ys:List Int)(c e:Nat),c*b=a*e->(∀v∈ys,(rs.getD v.toNat 0).toNat*b=a*(rs'.getD v.toNat 0).toNat)->ys.foldl (λc w=>Nat.gcd c (rs.getD w.toNat 0).toNat) c*b=a*ys.foldl (λc w=>Nat.gcd c (rs'.getD w.toNat 0).toNat) e
 | [],c,e,h,_=>h
 |v::ys,c,e,h,q=>by
  refine Zg5 ys _ _ ?_ λw hw=>q w (by simp[hw]);rw[<-Nat.gcd_mul_right,h,q v (by simp),Nat.gcd_mul_left]
theorem ZiD(dN:Z0 ls n)(hsz:WS ls)(ap:rs.length=n)(eu:rs'.length=n)(cJ:∀r∈rs,1<=r)(cP:∀r∈rs',1<=r)(k1:Zco ls rs)(k2:Zco ls rs')(l1:ZaN ls n rs)(l2:ZaN ls n rs'):rs'=rs:=by
 have bO:∀{xs:List Int},xs.length=n->(∀r∈xs,1<=r)->∀v:Nat,v<n->1<=xs.getD v 0:=λ{xs} e q v cz=>by
  rw[cL (by rw[e];exact cz)];exact q _ (GE _)
 refine qaE (by rw[ap,eu]) λw a1 a2=>?_;have hw:w<n:=by rw[<-ap];exact a2
 rw[<-cL (d:=0) a1,<-cL (d:=0) a2]
 classical
 obtain⟨ys,uI⟩:∃ys:List Int,∀v:Int,v∈ys↔(0<=v/\v<(n:Int))/\Fo.WT (gm ls) w v:=by
  refine⟨((List.range n).map λv:Nat=>(v:Int)).filter λv=>decide (Fo.WT (gm ls) (w:Int) v),λv=>?_⟩;simp only[qa4,qaJ,qax,decide_eq_true_eq]
  constructor
  .rintro⟨⟨u,hu,rfl⟩,b8⟩;exact⟨⟨∅,∅⟩,b8⟩
  .rintro⟨⟨a,b⟩,b8⟩;exact⟨⟨v.toNat,∅,∅⟩,b8⟩
 have cl:∀j<ls.length,((ls.getD j dB).giver∈ys↔(ls.getD j dB).taker∈ys):=λj bP=>by
  obtain⟨gl,iW,oX,p_⟩:=dN.at bP;rw[uI,uI]
  constructor
  .rintro⟨_,b8⟩;exact⟨⟨oX,p_⟩,.step b8 (p4 bP (Y6.mpr (.inl ⟨rfl,rfl⟩)))⟩
  .rintro⟨_,b8⟩;exact⟨⟨gl,iW⟩,.step b8 (p4 bP (Y6.mpr (.inr ⟨rfl,rfl⟩)))⟩
 have uJ:(w:Int)∈ys:=(uI _).mpr ⟨⟨∅,∅⟩,.refl⟩;have g1:=l1 (w:Int) ys ∅ ∅ uJ cl;have g2:=l2 (w:Int) ys ∅ ∅ uJ cl;have jk:∀v,Fo.WT (gm ls) (w:Int) v->(rs.getD v.toNat 0).toNat*(rs'.getD w 0).toNat=(rs.getD w 0).toNat*(rs'.getD v.toNat 0).toNat:=by
  intro v cz
  induction cz with
  |refl=>rw[GT]
  | @step b c t al _ m b_=>
   obtain⟨i,hi,bL⟩:=V6 m;have fC:=k1 (ls.getD i dB) (by rw[cL hi];exact GE hi);have Dr:=k2 (ls.getD i dB) (by rw[cL hi];exact GE hi);obtain⟨cV,ce,eh,hf,_,_,f9,dt⟩:=hsz i hi;obtain⟨gl,iW,oX,p_⟩:=dN.at hi;have mV:=Y6.mp bL;generalize ls.getD i dB=bb at*;have eW:=bO ap cJ bb.giver.toNat ∅;have eE:=bO ap cJ bb.taker.toNat ∅;have xO:=bO eu cP bb.giver.toNat ∅;have LC:=bO eu cP bb.taker.toNat ∅;obtain⟨A,yb⟩:∃A:Nat,rs.getD bb.giver.toNat 0=(A:Int):=⟨(rs.getD bb.giver.toNat 0).toNat,∅⟩;obtain⟨B,p'⟩:∃B:Nat,rs.getD bb.taker.toNat 0=(B:Int):=⟨(rs.getD bb.taker.toNat 0).toNat,∅⟩;obtain⟨ke,yc⟩:∃A:Nat,rs'.getD bb.giver.toNat 0=(A:Int):=⟨(rs'.getD bb.giver.toNat 0).toNat,∅⟩;obtain⟨uK,yd⟩:∃B:Nat,rs'.getD bb.taker.toNat 0=(B:Int):=⟨(rs'.getD bb.taker.toNat 0).toNat,∅⟩;rw[yb,p',f9,dt] at fC;rw[yc,yd,f9,dt] at Dr;have Ds:cV*A=ce*B:=by exact_mod_cast fC
   have rx:cV*ke=ce*uK:=by exact_mod_cast Dr
   generalize (rs'.getD w 0).toNat=R at*;generalize (rs.getD w 0).toNat=S at*;rcases mV with⟨x1,x2⟩|⟨x1,x2⟩
   .have x3:=congrArg Prod.fst x2;dsimp only at x3;rw[<-x1,yb,yc] at b_;rw[x3,p',yd];simp only[GT] at b_|-;refine qbt hf ?_
    calc ce*(B*R)=cV*A*R:=by rw[Ds,qaK]
     _=cV*(A*R):=qaK _ _ _
     _=cV*(S*ke):=by rw[b_]
     _=S*(cV*ke):=qaH _ _ _
     _=ce*(S*uK):=by rw[rx,qaH]
   .have x3:=congrArg Prod.fst x2;dsimp only at x3;rw[<-x1,p',yd] at b_;rw[x3,yb,yc];simp only[GT] at b_|-;refine qbt eh ?_
    calc cV*(A*R)=ce*B*R:=by rw[<-Ds,qaK]
     _=ce*(B*R):=qaK _ _ _
     _=ce*(S*uK):=by rw[b_]
     _=S*(ce*uK):=qaH _ _ _
     _=cV*(S*ke):=by rw[<-rx,qaH]
 have aD:=Zg5 (rs:=rs) (rs':=rs') ys 0 0 (by simp) λv cz=>jk v ((uI v).mp cz).2;have cj:p9 rs ys*(rs'.getD w 0).toNat=(rs.getD w 0).toNat*p9 rs' ys:=aD;rw[g1,g2,Nat.one_mul,Nat.mul_one] at cj;have eW:=bO ap cJ w hw;have eE:=bO eu cP w hw;omega
end
theorem Rts.least{ls:List B5}{n:Nat}{z:Int->Nat}{rs:List Int}(h:Rts ls n z rs):ZaN ls n rs:=let⟨_,a,b⟩:=h.wood;Zld a b
noncomputable def gcdC (rs:List Int) (lb:Nat->Nat) (w k:Nat):Nat:=(List.range k).foldl (λa o=>if lb o=lb w then Nat.gcd a (rs.getD o 0).toNat else a) 0
noncomputable def gb (ls:List B5) (rs:List Int):List Int:=(List.range rs.length).map λw=>rs.getD w 0 / (gcdC rs (labT (d3 ls) rs.length) w rs.length:Int)
theorem ye(rs:List Int)(lb:Nat->Nat)(w k:Nat):gcdC rs lb w (k+1)=if lb k=lb w then Nat.gcd (gcdC rs lb w k) (rs.getD k 0).toNat else gcdC rs lb w k:=by
 unfold gcdC;rw[qbr,qbT]
 rfl
theorem uL{rs:List Int}{lb:Nat->Nat}{w:Nat}:∀{k o:Nat},o<k->lb o=lb w->gcdC rs lb w k ∣ (rs.getD o 0).toNat
 |k+1,o,h,e=>by
  rw[ye];rcases qaV.mp h with z|rfl
  .have b_:=uL (rs:=rs) (lb:=lb) (w:=w) z e
   split
   .exact qci (qbi _ _) b_
   .exact b_
  .rw[if_pos e];exact qba _ _
theorem Zir{rs:List Int}{lb:Nat->Nat}{w D:Nat}:∀{k:Nat},(∀o<k,lb o=lb w->D ∣ (rs.getD o 0).toNat)->D ∣ gcdC rs lb w k
 |0,_=>Nat.dvd_zero _
 |k+1,h=>by
  rw[ye];have b_:=Zir (rs:=rs) (lb:=lb) (w:=w) (D:=D) (k:=k) λo b6 e=>h o ∅ e
  split
  .rename_i e;exact Nat.dvd_gcd b_ (h k ∅ e)
  .exact b_
structure Zim(ls:List B5)(rs L:List Int):Prop where
 len:L.length=rs.length
 pos:∀r∈L,1<=r
 le:∀w<rs.length,L.getD w 0<=rs.getD w 0
 bal:Zco ls L
 least:ZaN ls rs.length L
theorem ZfD{ls:List B5}{rs:List Int}{w:Nat}(hw:w<rs.length):(gb ls rs).getD w 0=rs.getD w 0 / (gcdC rs (labT (d3 ls) rs.length) w rs.length:Int):=by
 unfold gb;simp[List.getD,hw]
theorem Zeo{rs:List Int}{lb:Nat->Nat}{w v k:Nat}(e:lb w=lb v):gcdC rs lb w k=gcdC rs lb v k:=by unfold gcdC;rw[e]
theorem Zg1{ls:List B5}{rs:List Int}(dN:Z0 ls rs.length)(bO:∀r∈rs,1<=r)(au:Zco ls rs):Zim ls rs (gb ls rs):=by
 have h9:=ZgM dN;have eZ:∀w<rs.length,1<=rs.getD w 0:=λw hw=>by rw[cL hw];exact bO _ (GE hw)
 have eh:∀w<rs.length,0<gcdC rs (labT (d3 ls) rs.length) w rs.length:=λw hw=>by
  have ay:=uL (rs:=rs) (lb:=labT (d3 ls) rs.length) (w:=w) hw rfl;have:=eZ w hw;exact Nat.pos_of_dvd_of_pos ay ∅
 have sb:∀w<rs.length,(gb ls rs).getD w 0*(gcdC rs (labT (d3 ls) rs.length) w rs.length:Int)=rs.getD w 0:=λw hw=>by
  rw[ZfD hw];refine Int.ediv_mul_cancel ?_;have ay:=Int.ofNat_dvd.mpr (uL (rs:=rs) (lb:=labT (d3 ls) rs.length) (w:=w) hw rfl);have:=eZ w hw
  rwa [qaB ∅] at ay
 have pos:∀w<rs.length,1<=(gb ls rs).getD w 0:=λw hw=>by
  have ay:=sb w hw;have aD:=eZ w hw
  by_cases z:(gb ls rs).getD w 0<=0
  .have:=qbO z (show(0:Int)<=(gcdC rs (labT (d3 ls) rs.length) w rs.length:Int) by omega);omega
  .omega
 have len:(gb ls rs).length=rs.length:=by simp[gb]
 refine⟨len,λr aC=>?_,λw hw=>?_,λb km=>?_,λf ys ea f1 bS a_=>?_⟩
 .obtain⟨i,hi,rfl⟩:=qaq aC;rw[<-cL (d:=0) hi];exact pos i ∅
 .have ay:=sb w hw;have aD:=pos w hw;have cj:=eh w hw;have:=Int.mul_le_mul_of_nonneg_left (show(1:Int)<=(gcdC rs (labT (d3 ls) rs.length) w rs.length:Int) by omega) (show(0:Int)<=(gb ls rs).getD w 0 by omega);omega
 .obtain⟨gl,iW,oX,p_⟩:=dN b km;have c0:=au b km;have bR:b.giver.toNat<rs.length:=by omega
  have bY:b.taker.toNat<rs.length:=by omega
  have bL:(b.giver.toNat,b.taker.toNat)∈d3 ls:=qaJ.mpr ⟨b,km,rfl⟩;have ap:=Znk h9 bR bY (.fwd (.refl _) bL);have bJ:=sb _ bR;have bX:=sb _ bY;rw[<-Zeo (rs:=rs) (k:=rs.length) ap] at bX;rw[<-bJ,<-bX,<-Int.mul_assoc,<-Int.mul_assoc] at c0;exact Int.eq_of_mul_eq_mul_right (by have:=eh _ bR;omega) c0
 .have g_:f.toNat<rs.length:=by omega
  have ay:=(ya (gb ls rs) ys 0).2
  change ∀w∈ys,p9 (gb ls rs) ys ∣ _ at ay
  have aD:p9 (gb ls rs) ys*gcdC rs (labT (d3 ls) rs.length) f.toNat rs.length ∣ gcdC rs (labT (d3 ls) rs.length) f.toNat rs.length:=Zir λo b6 e=>by
   have rF:=(Pc.UD h9 g_).1;have LD:=(Pc.UD h9 b6).1;have lO:Pc.Yu (d3 ls) f.toNat o:=rF.trans (by
    have hs:=LD.symm;unfold labT at e;rw[e] at hs;exact hs)
   have b8:=Zkb dN lO;rw[qaB ea] at b8;have bL:=Zik a_ b8 bS;have cj:=ay _ bL;rw[GT] at cj;have cS:=sb o b6;rw[Zeo (rs:=rs) (k:=rs.length) e] at cS;have ec:(rs.getD o 0).toNat=((gb ls rs).getD o 0).toNat*gcdC rs (labT (d3 ls) rs.length) f.toNat rs.length:=by
    rw[<-cS];have:=pos o b6;obtain⟨q,cC⟩:∃q:Nat,(gb ls rs).getD o 0=(q:Int):=⟨((gb ls rs).getD o 0).toNat,∅⟩;rw[cC,<-qb7,GT,GT]
   rw[ec];exact Nat.mul_dvd_mul_right cj _
  have g:=eh _ g_;have cj:p9 (gb ls rs) ys ∣ 1:=by
   refine Nat.dvd_of_mul_dvd_mul_right g ?_;rw[Nat.one_mul];exact aD
  exact Nat.eq_one_of_dvd_one cj
theorem Zg8{ls:List B5}{rs L:List Int}(h:Zim ls rs L)(dN:Z0 ls rs.length)(hsz:WS ls){z:Int->Nat}{rs':List Int}(db:Rts ls rs.length z rs'):rs'=L:=
 ZiD dN hsz h.len db.len h.pos db.pos h.bal db.bal h.least db.least
noncomputable def k7 (H:Hp) (a:Addr):Hp:=λb=>if b=a then H a else none
theorem V7{H:Hp}{a:Addr}:k7 H a a=H a:=by unfold k7;rw[if_pos rfl]
theorem Vb{H aj:Hp}{a:Addr}(h:aj a=H a):Zd (k7 H a) aj:=λb o e=>by
 unfold k7 at e
 split at e
 .next z=>rw[z,h,e]
 .cases e
theorem qa{n:Nat}(h:n<=1000000):n<sizeLine:=qaM h (by decide)
theorem Zbj{H:Hp}:∀{l:List (Int×Int)}{vs:List V}{i:Nat},hW H l vs->i<l.length->∃t,vs.getD i .non= .ref t/\H t=some (.tup [.int (l.getD i (0,0)).1,.int (l.getD i (0,0)).2])
 |_,_,_,.nil,e=>by simp at e
 |_,_,0,.cons ⟨t,bJ,h⟩ _,_=>⟨t,by simp[bJ],h⟩
 |_,_,i+1,.cons _ r,e=>by
  obtain⟨t,ay,aD⟩:=Zbj (i:=i) r (by simpa using e);exact⟨t,by simpa using ay,by simpa using aD⟩
def ic (H:Hp):List V->List (Int×Int)->Prop:=Paired λv t=>∃a,v= .ref a/\H a=some (.tup [.int t.1,.int t.2])
theorem ic.keep{H aj:Hp}(k:∀b xs,H b=some (.tup xs)->aj b=some (.tup xs)){vs:List V}{l:List (Int×Int)}(h:ic H vs l):ic aj vs l:=Paired.mapP h λ_ _ ⟨a,e,z⟩=>⟨a,e,k _ _ z⟩
theorem ic.length{H:Hp}{vs:List V}{l:List (Int×Int)}(h:ic H vs l):vs.length=l.length:=Paired.length h
theorem ic.snoc{H:Hp}:∀{vs:List V}{l:List (Int×Int)}{x:Int×Int}{t:Addr},ic H vs l->H t=some (.tup [.int x.1,.int x.2])->ic H (vs++ [.ref t]) (l++ [x])
 |_,_,_,_,.nil,h=> .cons ⟨_,rfl,h⟩ .nil
 |_,_,_,_,.cons y r,h=> .cons y (ic.snoc r h)
theorem ic.getD{H:Hp}:∀{vs:List V}{l:List (Int×Int)}{i:Nat},ic H vs l->i<l.length->∃t,vs.getD i .non= .ref t/\H t=some (.tup [.int (l.getD i (0,0)).1,.int (l.getD i (0,0)).2])
 |_,_,_,.nil,e=>by simp at e
 |_,_,0,.cons ⟨t,bJ,h⟩ _,_=>⟨t,by simp[bJ],h⟩
 |_,_,i+1,.cons _ r,e=>by
  obtain⟨t,ay,aD⟩:=ic.getD (i:=i) r (by simpa using e);exact⟨t,by simpa using ay,by simpa using aD⟩
theorem qb{f:Nat->Int}:∀{is:List Nat}{ys:List V},Paired (λi v=>v=V.int (f i)) is ys->ys=(is.map f).map V.int
 |_,_,.nil=>rfl
 |_,_,.cons a r=>by rw[a,qb r];rfl
theorem US{cX f3:Type}(f:cX->f3)(l:List cX)(d:cX):((List.range l.length).map λi=>f (l.getD i d))=l.map f:=by
 refine qaE (by simp) λi ay aD=>?_;have hi:i<l.length:=by simpa using aD
 simp[List.getD,hi]
noncomputable abbrev ZX:=Int×List (Int×Int)
def kn(H:Hp)(v:V)(f:ZX):Prop:=∃a hI fG,v= .ref a/\H a=some (.tup [.int f.1,.ref hI])/\H hI=some (.tup fG)/\ic H fG f.2
theorem kn.keep{H aj:Hp}(k:∀b xs,H b=some (.tup xs)->aj b=some (.tup xs)){v:V}{f:ZX}(h:kn H v f):kn aj v f:=by
 obtain⟨a,hI,fG,e,ay,aD,cj⟩:=h;exact⟨a,hI,fG,e,k _ _ ay,k _ _ aD,cj.keep k⟩
def oY(H:Hp)(v:V)(fs:List ZX):Prop:=∃a vs,v= .ref a/\H a=some (.tup vs)/\Paired (kn H) vs fs
theorem oY.keep{H aj:Hp}(k:∀b xs,H b=some (.tup xs)->aj b=some (.tup xs)){v:V}{f:List ZX}(h:oY H v f):oY aj v f:=by
 obtain⟨a,vs,e,ay,aD⟩:=h;exact⟨a,vs,e,k _ _ ay,Paired.mapP aD λ_ _ z=>z.keep k⟩
def jq(H:Hp)(vs:List V)(fss:List (List ZX)):Prop:=Paired (oY H) vs fss
theorem jq.keep{H aj:Hp}(k:∀b xs,H b=some (.tup xs)->aj b=some (.tup xs)){vs:List V}{f:List (List ZX)}(h:jq H vs f):jq aj vs f:=Paired.mapP h λ_ _ z=>z.keep k
theorem mW{cX f3:Type}{P:cX->f3->Prop}{d:cX}{e:f3}:∀{xs:List cX}{ys:List f3}{i:Nat},Paired P xs ys->i<ys.length->P (xs.getD i d) (ys.getD i e)
 |_,_,_,.nil,h=>by simp at h
 |_,_,0,.cons h _,_=>by simpa using h
 |_,_,i+1,.cons _ r,h=>by simpa using mW (i:=i) r (by simpa using h)
noncomputable def slotN (rows:List B5) (w:Int):Int:=((takeRow rows w).map (·.2)).sum
noncomputable def Z9 (rows:List B5) (w:Int):Int:=((giveRow rows w).map (·.2)).sum
structure yf(n:Int)(f:ZX):Prop where
 few:f.2.length<=1000
 ter:∀t∈f.2,0<=t.1/\t.1<n/\t.2.natAbs<=4
structure Dt(rows:List B5)(w:Int)(fs:List ZX):Prop where
 len:(fs.length:Int)=Z9 rows w
 few:fs.length<=100000
 ok:∀f∈fs,yf (slotN rows w) f
def oZ(rows:List B5)(w:Int)(fs:List ZX):Prop:=(fs.length:Int)=Z9 rows w/\∀f∈fs,∀t∈f.2,0<=t.1/\t.1<slotN rows w
def o0(n:Nat)(rows:List B5)(fss:List (List ZX)):Prop:=fss.length=n/\∀i<fss.length,oZ rows i (fss.getD i [])
def ZeX(fss:List (List ZX)):Prop:=∀fs∈fss,fs.length<=200000/\∀f∈fs,f.2.length<=2000
noncomputable def firstL (rs:List Int) (i:Nat):Int:=(rs.take i).sum
noncomputable def Zff (l x y:Nat):Nat:=l / Nat.gcd l (x / Nat.gcd x y)*(x / Nat.gcd x y)
noncomputable def lapsL (ms gs:List Int):Nat->Nat
 |0=>1
 |i+1=>Zff (lapsL ms gs i) (ms.getD i 0).toNat (gs.getD i 0).toNat
noncomputable def givL (ls:List B5) (rs:List Int):List Int:=ls.map λb=>b.give*rs.getD b.giver.toNat 0
theorem ZaZ{ls:List B5}{rs:List Int}:(givL ls rs).length=ls.length:=by simp[givL]
theorem Ziv{bs:List V}{ls:List B5}{rs:List Int}(h:bs.length=ls.length):((List.range bs.length).filter λ_=>true).map (λi=>V.int ((ls.getD i dB).give*rs.getD (ls.getD i dB).giver.toNat 0))=(givL ls rs).map V.int:=by
 rw[qak.mpr (by simp),h];unfold givL;refine qaE (by simp) λi ay aD=>?_;have:i<ls.length:=by simpa using ay
 simp[List.getD,this]
theorem ZmJ{l x y:Nat}:Zff l x y<=l*x:=by
 unfold Zff;exact qcd (qaN _ _) (qaN _ _)
theorem ZaG{ms gs:List Int}(h:∀x∈ms,x<=1000000):∀i≤ms.length,lapsL ms gs i<2 ^ (20*i+1)
 |0,_=>by unfold lapsL;decide
 |i+1,hi=>by
  have b_:=ZaG (gs:=gs) h i ∅;have ar:=h _ (GE (show i<ms.length by omega));have ay:=ZmJ (l:=lapsL ms gs i) (x:=(ms.getD i 0).toNat) (y:=(gs.getD i 0).toNat);have aD:(ms.getD i 0).toNat<2 ^ 20:=by rw[cL (show i<ms.length by omega)];omega
  have cj:lapsL ms gs i*(ms.getD i 0).toNat<2 ^ (20*i+1)*2 ^ 20:=Nat.mul_lt_mul'' b_ aD;rw[<-Nat.pow_add,show 20*i+1+20=20*(i+1)+1 by omega] at cj;exact qaM ay cj
theorem ZcR{ls:List B5}{rs:List Int}(au:Z0 ls rs.length)(bR:∀l∈ls,1<=l.give/\l.give<=1000)(aC:∀r∈rs,1<=r/\r<=1000):∀x∈givL ls rs,1<=x/\x<=1000000:=λx ar=>by
 obtain⟨l,ap,rfl⟩:=qaJ.mp ar;have b:=au l ap;have g:=bR l ap;have r:=aC _ (show rs.getD l.giver.toNat 0∈rs by rw[cL ∅];exact GE _);generalize rs.getD l.giver.toNat 0=z at*;have ay:1*1<=l.give*z:=qbD ∅ ∅ ∅ ∅;have aD:l.give*z<=1000*1000:=qbD ∅ ∅ ∅ ∅;omega
theorem sc:∀{xs:List Int},(∀x∈xs,1<=x/\x<=1000000)->0<=xs.sum/\xs.sum<=1000000*xs.length
 | [],_=>by simp
 |x::xs,h=>by
  have b_:=sc (xs:=xs) λy bW=>h y (qaj _ bW);have:=h x (qaL ..);rw[qa7,List.length_cons];omega
structure ZdJ(many:Int)(rows:List B5)(fss:List (List ZX)):Prop where
 len:fss.length=many.toNat
 ok:∀w,0<=w->w<many->Dt rows w (fss.getD w.toNat [])
theorem ZdJ.good{n:Nat}{rows:List B5}{fss:List (List ZX)}(h:ZdJ n rows fss):o0 n rows fss/\ZeX fss:=by
 have ap:=h.len;refine⟨⟨∅,λi hi=>?_⟩,λfs bS=>?_⟩
 .have:=h.ok i ∅ ∅;rw[GT] at this;exact⟨this.len,λf bS t bY=>⟨((this.ok f bS).ter t bY).1,((this.ok f bS).ter t bY).2.1⟩⟩
 .obtain⟨i,hi,rfl⟩:=qaq bS;have:=h.ok i ∅ ∅;rw[GT,cL hi] at this;exact⟨by have:=this.few;omega,λf bS=>by have:=(this.ok f bS).few;omega⟩
structure Zdv(n:Nat)(ls:List B5)(ms rs ws:List Int):Prop where
 all:∀w∈ws,0<=w/\w<(n:Int)
 cnt:((List.range n).map λv:Nat=>((ws.count (v:Int):Nat):Int))=rs
 run:∃hs,goR n (ls++gU ls ms) ((ls++gU ls ms).map B5.start) ws= .ok hs
noncomputable def gH (ls:List B5) (ms hs:List Int):List Int:=hs++(List.range ls.length).map λi=>ms.getD i 0-hs.getD i 0
theorem Zk7{ls:List B5}{ms:List Int}:(ls++gU ls ms).map B5.start=gH ls ms (startsL ls):=by
 unfold gH gU;rw[qaF,qaR];refine congrArg (startsL ls++ ·) (qbj λi hi=>?_);have eQ:=qax.mp hi;show ms.getD i 0-(ls.getD i dB).start=_;simp[startsL,List.getD,eQ]
theorem LF{ls:List B5}{ms hs:List Int}{w:Int}(ap:hs.length=ls.length):fZ (ls++gU ls ms) (gH ls ms hs) w=true↔fZ ls hs w=true/\∀k<ls.length,(ls.getD k dB).giver=w->hs.getD k 0+(ls.getD k dB).give<=ms.getD k 0:=by
 unfold fZ gH;rw[List.zip_append ap.symm,List.all_append,qbn];refine and_congr_right λ_=>?_;unfold gU;rw[List.zip_map',List.all_map,qbo]
 constructor
 .intro h k bH bR;have:=h k (qax.mpr bH);simp only[Function.comp,p8,bR,decide_true,Bool.not_true,Bool.false_or,decide_eq_true_eq] at this;omega
 .intro h k bH;simp only[Function.comp,p8]
  by_cases c:(ls.getD k dB).giver=w
  .have:=h k (qax.mp bH) c;simp only[c,decide_true,Bool.not_true,Bool.false_or,decide_eq_true_eq];omega
  .simp only[c,decide_false,Bool.not_false,Bool.true_or]
theorem LG{ls:List B5}{ms hs:List Int}{w:Int}(ap:hs.length=ls.length):eY (ls++gU ls ms) (gH ls ms hs) w=gH ls ms (eY ls hs w):=by
 have e:eY ls hs w=(ls.zip hs).map λx=>x.2-(if x.1.taker=w then x.1.take else 0)+(if x.1.giver=w then x.1.give else 0):=rfl;unfold gH;show((ls++gU ls ms).zip (hs++_)).map _=_;rw[List.zip_append ap.symm,qaF,<-e];refine congrArg (eY ls hs w++ ·) ?_;unfold gU;rw[List.zip_map',qaR];refine qbj λi hi=>?_;have eQ:=qax.mp hi;have fa:=Uk (w:=w) eQ (show i<hs.length by omega) (by rw[lN ap];omega);rw[cL (show i<(eY ls hs w).length by rw[lN ap];omega),fa];show(ms.getD i 0-hs.getD i 0)-(if(ls.getD i dB).giver=w then(ls.getD i dB).give else 0)+(if(ls.getD i dB).taker=w then(ls.getD i dB).take else 0)=_;rw[cL eQ,cL (show i<hs.length by omega)]
 split<;>split<;>omega
theorem Zbd{bs:List V}{ls:List B5}(h:bs.length=ls.length):((List.range bs.length).filter λ_=>true).map (λi=>V.int (ls.getD i dB).start)=(startsL ls).map V.int:=by
 rw[qak.mpr (by simp),h];unfold startsL;refine qaE (by simp) λi ay aD=>?_;have:i<ls.length:=by simpa using ay
 simp[List.getD,this]
theorem sd{ls:List B5}:(startsL ls).length=ls.length:=by simp[startsL]
theorem Du:∀{l:List Int}{i:Nat}{x:Int},i<l.length->(l.set i x).sum=l.sum-l.getD i 0+x
 | [],_,_,h=>by simp at h
 |a::l,0,x,_=>by simp;omega
 |a::l,i+1,x,h=>by
  have:=Du (l:=l) (i:=i) (x:=x) (by simpa using h);simp at this|-;omega
theorem Dv:∀{l:List Int},(∀i<l.length,0<=l.getD i 0)->0<=l.sum
 | [],_=>by simp
 |a::l,h=>by
  have ay:=Dv (l:=l) λi hi=>by simpa using h (i+1) (by simpa using hi)
  have aD:=h 0 (by simp);simp at aD|-;omega
theorem Dw:∀{l:List Int},(∀i<l.length,0<=l.getD i 0)->l.sum=0->∀i<l.length,l.getD i 0=0
 | [],_,_,_,h=>by simp at h
 |a::l,h,e,i,hi=>by
  have ap:∀i<l.length,0<=l.getD i 0:=λi hi=>by simpa using h (i+1) (by simpa using hi)
  have ay:=Dv ap;have aD:=h 0 (by simp);simp at aD e;cases i with
  |zero=>simp;omega
  |succ i=>simpa using Dw ap ∅ i (by simpa using hi)
structure Ze5(ls:List B5)(rs ws:List Int):Prop where
 all:∀w∈ws,0<=w/\w<(rs.length:Int)
 cnt:((List.range rs.length).map λv:Nat=>((ws.count (v:Int):Nat):Int))=rs
 run:∃hs,goR rs.length ls (startsL ls) ws= .ok hs
noncomputable def shG (ls:List B5) (hs ws:List Int):List Int:=ws.foldl (eY ls) hs
theorem Dx{ls:List B5}{hs ws:List Int}{w:Int}:shG ls hs (ws++ [w])=eY ls (shG ls hs ws) w:=by unfold shG;rw[qbT];rfl
theorem Zil{ls:List B5}:∀{ws hs:List Int},hs.length=ls.length->(shG ls hs ws).length=ls.length
 | [],_,h=>h
 |w::ws,hs,h=>Zil (ws:=ws) (hs:=eY ls hs w) (by rw[lN h];exact h)
def VR(ls:List B5)(ws ms:List Int)(n:Nat):Prop:=∀i<n,∀j<ls.length,(ls.getD j dB).giver=ws.getD i 0->(shG ls (startsL ls) (ws.take i)).getD j 0+(ls.getD j dB).give<=ms.getD j 0
theorem ZnN{ls:List B5}{rs ws ms:List Int}(h:Ze5 ls rs ws)(bO:VR ls ws ms ws.length):Zdv rs.length ls ms rs ws:=by
 refine⟨h.all,h.cnt,gH ls ms (shG ls (startsL ls) ws),?_⟩;rw[Zk7];obtain⟨hs,aC⟩:=h.run;have jk:∀i≤ws.length,goR rs.length ls (startsL ls) (ws.take i)= .ok (shG ls (startsL ls) (ws.take i))/\goR rs.length (ls++gU ls ms) (gH ls ms (startsL ls)) (ws.take i)= .ok (gH ls ms (shG ls (startsL ls) (ws.take i))):=λi=>by
  induction i with
  |zero=>exact λ_=>⟨rfl,rfl⟩
  |succ i b_=>
   intro hi;obtain⟨a1,a2⟩:=b_ ∅;have f5:=fm (show i<ws.length by omega);have ap:=Zil (ls:=ls) (ws:=ws.take i) (sd (ls:=ls));have hw:=h.all _ (GE (show i<ws.length by omega));have qc:=bO i ∅;rw[cL (show i<ws.length by omega)] at qc;have bJ:=uF a1 f5;have bX:=uF a2 f5;have dt:=qac (show i<ws.length by omega);have b7:shG ls (startsL ls) (ws.take (i+1))=eY ls (shG ls (startsL ls) (ws.take i)) ws[i]:=by rw[dt,Dx]
   rw[b7,bJ,bX];have dM:=λb t=>Zgr (b:=b) a1 f5 t;generalize shG ls (startsL ls) (ws.take i)=gs at*;generalize ws[i]=w at*
   by_cases c:fZ ls gs w=true
   .have e6:fZ (ls++gU ls ms) (gH ls ms gs) w=true:=(LF ap).mpr ⟨c,qc⟩;unfold turnR;rw[if_pos hw,if_pos hw,if_pos c,if_pos e6,LG ap];exact⟨rfl,rfl⟩
   .have:=dM false (by unfold turnR;rw[if_pos hw,if_neg c]);rw[aC] at this;cases this
 have:=(jk ws.length (qaa _)).2
 rwa [qaO] at this
theorem VR.up{ls:List B5}{ws ms Dy:List Int}{n:Nat}(h:VR ls ws ms n)(u:∀j<ls.length,ms.getD j 0<=Dy.getD j 0):VR ls ws Dy n:=λi hi j bP e=>by
 have ay:=h i hi j bP e;have aD:=u j bP;omega
theorem yg{pre:List Int}{w x:Int}:((pre++ [w]).count x:Int)=(pre.count x:Int)+if x=w then 1 else 0:=by
 rw[List.count_append,List.count_singleton]
 by_cases c:x=w
 .simp[c]
 .rw[if_neg c,if_neg (by simpa using qaY c)];simp
theorem ZjI{ls:List B5}{rs ws hs d8:List Int}{i w:Nat}(h:goR rs.length ls (startsL ls) ws= .ok hs/\(∀w∈ws,0<=w/\w<(rs.length:Int))/\(∀v<rs.length,0<=d8.getD v 0)/\(∀v<rs.length,((ws.count (v:Int):Nat):Int)+d8.getD v 0=rs.getD v 0)/\d8.sum=rs.sum-(i:Int))(ap:d8.length=rs.length)(hw:w<rs.length)(c0:0<d8.getD w 0)(aC:fZ ls hs w=true):
  goR rs.length ls (startsL ls) (ws++ [(w:Int)])= .ok (eY ls hs w)/\(∀v∈ws++ [(w:Int)],0<=v/\v<(rs.length:Int))/\(∀v<rs.length,0<=(d8.set w (d8.getD w 0-1)).getD v 0)/\(∀v<rs.length,(((ws++ [(w:Int)]).count (v:Int):Nat):Int)+(d8.set w (d8.getD w 0-1)).getD v 0=rs.getD v 0)/\(d8.set w (d8.getD w 0-1)).sum=rs.sum-((i+1:Nat):Int):=by
 obtain⟨ay,aD,cj,cS,ec⟩:=h;have at_:∀v<rs.length,(d8.set w (d8.getD w 0-1)).getD v 0=d8.getD v 0-if w=v then 1 else 0:=λv cz=>by
  rw[cL (by rw[qaP];omega),qbB,cL (show v<d8.length by omega)]
  by_cases c:w=v
  .subst c;rw[if_pos rfl,if_pos rfl,cL (show w<d8.length by omega)]
  .rw[if_neg c,if_neg c];omega
 refine⟨?_,λv cz=>?_,λv cz=>?_,λv cz=>?_,?_⟩
 .rw[Zbb ay];show(match turnR rs.length ls hs w with| .ok eo=>goR rs.length ls eo []| .error e=> .error e)=_;unfold turnR;rw[if_pos ⟨∅,∅⟩,if_pos aC]
  rfl
 .rcases qaD.mp cz with z|z
  .exact aD v z
  .rw[qab.mp z];omega
 .rw[at_ v cz];have:=cj v cz
  split
  .next c=>subst c;omega
  .omega
 .rw[at_ v cz,yg];have:=cS v cz
  by_cases c:w=v
  .subst c;rw[if_pos rfl,if_pos rfl];omega
  .rw[if_neg ∅,if_neg c];omega
 .rw[Du ∅];omega
theorem LH{ls:List B5}{rs ws hs d8:List Int}{i:Nat}(h:goR rs.length ls (startsL ls) ws= .ok hs/\(∀w∈ws,0<=w/\w<(rs.length:Int))/\(∀v<rs.length,0<=d8.getD v 0)/\(∀v<rs.length,((ws.count (v:Int):Nat):Int)+d8.getD v 0=rs.getD v 0)/\d8.sum=rs.sum-(i:Int))(ap:d8.length=rs.length)(hi:(i:Int)=rs.sum):Ze5 ls rs ws:=by
 obtain⟨ay,aD,cj,cS,ec⟩:=h;refine⟨aD,qaE (by simp) λv a1 a2=>?_,hs,ay⟩;have dq:=Dw (l:=d8) (λi hi=>cj i ∅) ∅ v ∅;have hH:=cS v a2;rw[dq,cL a2] at hH;simp;omega
theorem ZkM{ls:List B5}{ws hs fs:List Int}{i:Nat}{w:Int}(h:hs=shG ls (startsL ls) (ws.take i)/\(∀j<ls.length,(ls.getD j dB).start<=fs.getD j 0)/\VR ls ws fs i)(hi:i<ws.length)(e:ws.getD i 0=w)(gs:List Int)(lP:(∀k<ls.length,fs.getD k 0<=gs.getD k 0)/\∀k<ls.length,(ls.getD k dB).giver=w->hs.getD k 0+(ls.getD k dB).give<=gs.getD k 0):
  eY ls hs w=shG ls (startsL ls) (ws.take (i+1))/\(∀j<ls.length,(ls.getD j dB).start<=gs.getD j 0)/\VR ls ws gs (i+1):=by
 obtain⟨ay,aD,cj⟩:=h;refine⟨?_,λj bP=>Int.le_trans (aD j bP) (lP.1 j bP),λk bH j bP mT=>?_⟩
 .rw[qac hi,Dx,<-ay,<-e,cL hi]
 .by_cases c:k=i
  .subst c;rw[<-ay];exact lP.2 j bP (mT.trans e)
  .exact Int.le_trans (cj k ∅ j bP mT) (lP.1 j bP)
theorem Zll{ls:List B5}{hs fs gs:List Int}{j:Nat}{w:Int}(lP:(∀k<ls.length,fs.getD k 0<=gs.getD k 0)/\∀k<j,(ls.getD k dB).giver=w->hs.getD k 0+(ls.getD k dB).give<=gs.getD k 0)(bP:j<ls.length)(bR:gs.length=ls.length):
  ((ls.getD j dB).giver=w->(∀k<ls.length,fs.getD k 0<=(gs.set j (if hs.getD j 0+(ls.getD j dB).give > gs.getD j 0 then hs.getD j 0+(ls.getD j dB).give else gs.getD j 0)).getD k 0)/\∀k<j+1,(ls.getD k dB).giver=w->hs.getD k 0+(ls.getD k dB).give<=(gs.set j (if hs.getD j 0+(ls.getD j dB).give > gs.getD j 0 then hs.getD j 0+(ls.getD j dB).give else gs.getD j 0)).getD k 0)/\
  (¬(ls.getD j dB).giver=w->(∀k<ls.length,fs.getD k 0<=gs.getD k 0)/\∀k<j+1,(ls.getD k dB).giver=w->hs.getD k 0+(ls.getD k dB).give<=gs.getD k 0):=by
 obtain⟨ay,aD⟩:=lP;have at_:∀(x:Int),∀k<ls.length,(gs.set j x).getD k 0=if j=k then x else gs.getD k 0:=λx k bH=>by
  rw[cL (by rw[qaP];omega),qbB,cL (show k<gs.length by omega)]
 refine⟨λc=>⟨λk bH=>?_,λk bH e=>?_⟩,λc=>⟨ay,λk bH e=>?_⟩⟩
 .rw[at_ _ k bH];have:=ay k bH
  split
  .next z=>subst z;split<;>omega
  .exact this
 .rw[at_ _ k ∅]
  by_cases z:j=k
  .subst z;rw[if_pos rfl]
   split<;>omega
  .rw[if_neg z];exact aD k ∅ e
 .by_cases z:k=j
  .subst z;exact absurd e c
  .exact aD k ∅ e
noncomputable abbrev Row3:=Int×Int×List (Int×Int)
def k8(H:Hp)(v:V)(r:Row3):Prop:=∃a hI fG,v= .ref a/\H a=some (.tup [.int r.1,.int r.2.1,.ref hI])/\H hI=some (.tup fG)/\ic H fG r.2.2
theorem k8.keep{H aj:Hp}(k:∀b xs,H b=some (.tup xs)->aj b=some (.tup xs)){v:V}{r:Row3}(h:k8 H v r):k8 aj v r:=by
 obtain⟨a,hI,fG,e,ay,aD,cj⟩:=h;exact⟨a,hI,fG,e,k _ _ ay,k _ _ aD,cj.keep k⟩
def hp(H:Hp)(vs:List V)(rs:List Row3):Prop:=Paired (k8 H) vs rs
theorem hp.keep{H aj:Hp}(k:∀b xs,H b=some (.tup xs)->aj b=some (.tup xs)){vs:List V}{rs:List Row3}(h:hp H vs rs):hp aj vs rs:=Paired.mapP h λ_ _ z=>z.keep k
theorem hp.append{H:Hp}:∀{vs d6:List V}{rs rs':List Row3},hp H vs rs->hp H d6 rs'->hp H (vs++d6) (rs++rs')
 |_,_,_,_,.nil,h=>h
 |_,_,_,_,.cons x r,h=> .cons x (hp.append r h)
noncomputable def jr (ms:List Int):List Int:=(List.range ms.length).map (firstL ms)
theorem yh{ms:List Int}{i:Nat}(h:i<ms.length):(jr ms).getD i 0=firstL ms i:=by simp[jr,List.getD,h]
noncomputable def bxN (ms:List Int) (b:Nat) (pc:Int) (m:Nat):List Int:=(List.range m).map λv:Nat=>firstL ms b+(pc+(v:Int)) % ms.getD b 0
theorem qd{ms:List Int}{b:Nat}{pc:Int}{m:Nat}:(bxN ms b pc m).length=m:=by simp[bxN]
noncomputable def addU (n:Nat) (f d:Nat->Int) (is:List Nat):List Int:=(List.range n).map λi=>f i+if i∈is then d i else 0
theorem Zbp{n:Nat}{f d:Nat->Int}{is:List Nat}:(addU n f d is).length=n:=by simp[addU]
theorem uM{n:Nat}{f d:Nat->Int}:addU n f d []=(List.range n).map f:=by simp[addU]
theorem ZcC{n m:Nat}{f d:Nat->Int}{is:List Nat}(h:m<n)(bL:m∉is):(addU n f d is).getD m 0=f m:=by simp[addU,List.getD,h,bL]
theorem Zbn{n m:Nat}{f d:Nat->Int}{is:List Nat}(h:m<n)(bL:m∉is):(addU n f d is).set m (f m+d m)=addU n f d (is++ [m]):=by
 refine qaE (by simp[addU]) λi ay aD=>?_;have hi:i<n:=by simpa[addU] using aD
 rw[qbB]
 by_cases c:m=i
 .subst c;simp[addU]
 .rw[if_neg c];simp[addU,qaY c]
noncomputable def boxU (ms:List Int) (f d:Nat->Int) (is:List Nat):List Int:=is.flatMap λi=>bxN ms i (f i) (d i).toNat
theorem Zas{ms:List Int}{f d:Nat->Int}{is:List Nat}{m:Nat}:boxU ms f d (is++ [m])=boxU ms f d is++bxN ms m (f m) (d m).toNat:=by simp[boxU]
noncomputable def tkF (rows:List B5) (pre:List Int) (i:Nat):Int:=(rows.getD i dB).take*(pre.count (rows.getD i dB).taker:Nat)
noncomputable def gvF (rows:List B5) (pre:List Int) (i:Nat):Int:=(rows.getD i dB).start+(rows.getD i dB).give*(pre.count (rows.getD i dB).giver:Nat)
noncomputable def tkL (rows:List B5) (pre:List Int):List Int:=(List.range rows.length).map (tkF rows pre)
noncomputable def gvL (rows:List B5) (pre:List Int):List Int:=(List.range rows.length).map (gvF rows pre)
theorem Zlf{rows:List B5}{pre:List Int}{w:Int}{i:Nat}:tkF rows (pre++ [w]) i=tkF rows pre i+if(rows.getD i dB).taker=w then(rows.getD i dB).take else 0:=by
 unfold tkF;rw[yg,Int.mul_add]
 split<;>simp
theorem ZlJ{rows:List B5}{pre:List Int}{w:Int}{i:Nat}:gvF rows (pre++ [w]) i=gvF rows pre i+if(rows.getD i dB).giver=w then(rows.getD i dB).give else 0:=by
 unfold gvF;rw[yg,Int.mul_add]
 split<;>simp<;>omega
theorem ZkF{rows:List B5}{w:Int}{i:Nat}(h:i<rows.length):i∈dz rows w↔(rows.getD i dB).taker=w:=by
 unfold dz;simp[h]
theorem ZkL{rows:List B5}{w:Int}{i:Nat}(h:i<rows.length):i∈dR rows w↔(rows.getD i dB).giver=w:=by
 unfold dR;simp[h]
theorem Dz{rows:List B5}{pre:List Int}{w:Int}:addU rows.length (tkF rows pre) (λi=>(rows.getD i dB).take) (dz rows w)=tkL rows (pre++ [w]):=by
 refine qbj λi hi=>?_;rw[Zlf];have:=ZkF (w:=w) (qax.mp hi);simp only[this]
theorem DB{rows:List B5}{pre:List Int}{w:Int}:addU rows.length (gvF rows pre) (λi=>(rows.getD i dB).give) (dR rows w)=gvL rows (pre++ [w]):=by
 refine qbj λi hi=>?_;rw[ZlJ];have:=ZkL (w:=w) (qax.mp hi);simp only[this]
theorem Zgz{is:List Nat}(h:is.Nodup){j:Nat}(bP:j<is.length):is[j]∉is.take j:=by
 have aD:=h;rw[<-qbF (j+1) is,qac bP] at aD;exact λz=>(qbI.mp (qbI.mp aD).1).2.2 _ z _ (by simp) rfl
theorem ZhL{rows:List B5}{w:Int}:(dz rows w).Nodup:=uE _ _
theorem Zhy{rows:List B5}{w:Int}:(dR rows w).Nodup:=uE _ _
noncomputable def mkR (ss:List Int) (u:Int) (f:ZX):Row3:=(u,f.1,f.2.map λt=>(ss.getD t.1.toNat 0,t.2))
noncomputable def LI (rows:List B5) (ms pre:List Int) (w:Int):List Int:=boxU ms (tkF rows pre) (λi=>(rows.getD i dB).take) (dz rows w)
noncomputable def se (rows:List B5) (ms pre:List Int) (w:Int):List Int:=boxU ms (gvF rows pre) (λi=>(rows.getD i dB).give) (dR rows w)
noncomputable def lQ (rows:List B5) (ms pre:List Int) (w:Int) (fs:List ZX):List Row3:=List.zipWith (mkR (LI rows ms pre w)) (se rows ms pre w) fs
noncomputable def codeL (rows:List B5) (ms:List Int) (fss:List (List ZX)):List Int->List Int->List Row3
 |_,[]=>[]
 |pre,w::ws=>lQ rows ms pre w (fss.getD w.toNat [])++codeL rows ms fss (pre++ [w]) ws
theorem Zbo{rows:List B5}{ms:List Int}{fss:List (List ZX)}:∀{pre ws:List Int}{w:Int},codeL rows ms fss pre (ws++ [w])=codeL rows ms fss pre ws++lQ rows ms (pre++ws) w (fss.getD w.toNat [])
 |pre,[],w=>by simp[codeL]
 |pre,v::ws,w=>by
  show lQ .. ++codeL rows ms fss (pre++ [v]) (ws++ [w])=_;rw[Zbo,<-qbp,qbp pre]
  rfl
def js(H:Hp)(p:Addr)(n:Nat)(rows:List B5)(ms:List Int)(g t:Addr)(cV ce:List Int):Prop:=
 ∃(dx a b c d:Addr)(ck eS:List Addr)(fs:List Int),H p=some (.ins T.b dx [("takes",.ref a),("gives",.ref b),("rooms",.ref c),("firsts",.ref d),("given",.ref g),("taken",.ref t)])/\H a=some (.lst (ck.map V.ref))/\H b=some (.lst (eS.map V.ref))/\
  LL H (r8 ⟨n,rows,[]⟩) ck/\LL H (uD ⟨n,rows,[]⟩) eS/\H c=some (.lst (ms.map V.int))/\H d=some (.lst (fs.map V.int))/\fs=jr ms/\ms.length=rows.length/\H g=some (.lst (cV.map V.int))/\H t=some (.lst (ce.map V.int))/\cV.length=rows.length/\ce.length=rows.length/\
  (∀x∈a::b::c::d::(ck++eS),x≠g/\x≠t)/\g≠t
theorem LL.go{H aj:Hp}{A:List Addr}(f:df A H aj):∀{ls:List (List (Int×Int))}{is:List Addr},LL H ls is->(∀x∈is,x∉A)->LL aj ls is
 |_,_,.nil,_=> .nil
 |_,_,.cons ⟨vs,ay,aD⟩ r,d=> .cons ⟨vs,f.keep _ _ ay (d _ (by simp)),aD.keep λb xs e=>f.tups _ _ e⟩ (LL.go f r λx ar=>d x (by simp[ar]))
section
variable {K:Frag}{mg:Str->Option Value}{T:Tp K mg}{H aj:Hp}{p g t:Addr}{n:Nat}{rows:List B5}{ms cV ce ko kq:List Int}
theorem js.step(h:js T H p n rows ms g t cV ce)(f:df [g,t] H aj)(ay:aj g=some (.lst (ko.map V.int)))(aD:aj t=some (.lst (kq.map V.int)))(l1:ko.length=rows.length)(l2:kq.length=rows.length):js T aj p n rows ms g t ko kq:=by
 obtain⟨dx,a,b,c,d,ck,eS,fs,bJ,bX,dn,ha,nH,nI,nJ,nK,o1,iI,hk,qe,sf,jS,nL⟩:=h;have iZ:∀x∈a::b::c::d::(ck++eS),x∉[g,t]:=λx ar z=>by
  rcases qaf.mp z with z|z
  .exact(jS x ar).1 z
  .exact(jS x ar).2 (qab.mp z)
 refine⟨dx,a,b,c,d,ck,eS,fs,f.keep _ _ bJ ?_,f.keep _ _ bX (iZ a (by simp)),f.keep _ _ dn (iZ b (by simp)),LL.go f ha (λx ar=>iZ x (by simp[ar])),LL.go f nH (λx ar=>iZ x (by simp[ar])),f.keep _ _ nI (iZ c (by simp)),f.keep _ _ nJ (iZ d (by simp)),nK,o1,ay,aD,l1,l2,jS,nL⟩;intro z;rcases qaf.mp z with z|z
 .rw[z,iI] at bJ;cases bJ
 .rw[qab.mp z,hk] at bJ;cases bJ
theorem js.same(h:js T H p n rows ms g t cV ce)(s:Zd H aj):js T aj p n rows ms g t cV ce:=by
 obtain⟨dx,a,b,c,d,ck,eS,fs,bJ,bX,dn,ha,nH,nI,nJ,nK,o1,iI,hk,qe,sf,jS,nL⟩:=id h;exact h.step s.frame (s _ _ iI) (s _ _ hk) qe sf
theorem ZhB{m:Str}{G:Prop}(h:js T H p n rows ms g t cV ce)(hg:(m== "takes")=false)(h1:(m== "gives")=false)(xT:(m== "rooms")=false)(DC:(m== "firsts")=false)(LJ:(m== "given")=false)(rl:(m== "taken")=false)(q:G):∃a dx fs,V.ref p= .ref a/\H a=some (.ins T.b dx fs)/\fs.lookup m=none/\G:=by
 obtain⟨dx,a,b,c,d,ck,eS,fs,bJ,_⟩:=h;exact⟨p,dx,_,rfl,bJ,Rd.lk1 hg (Rd.lk1 h1 (Rd.lk1 xT (Rd.lk1 DC (Rd.lk1 LJ (Rd.lk1 rl Rd.lkN))))),q⟩
end
theorem ZfV{H:Hp}{d:Addr}{ss:List Int}{du:List (Int×Int)}{zs:List V}(h:Paired (λ(i:Nat) v=>∃u,v=V.ref u/\(hid H d) u=some (.tup [.int (ss.getD (du.getD i (0,0)).1.toNat 0),.int (du.getD i (0,0)).2])) (List.range du.length) zs):ic H zs (du.map λt=>(ss.getD t.1.toNat 0,t.2)):=by
 rw[<-US (λt:Int×Int=>(ss.getD t.1.toNat 0,t.2)) du (0,0)];generalize List.range du.length=is at h
 induction h with
 |nil=>exact .nil
 |cons b8 t b_=>
  obtain⟨u,rfl,e⟩:=b8;exact .cons ⟨u,rfl,mJ _ _ e⟩ b_
theorem ZgH{f':List Nat}{f:Nat->Int}{j:Nat}(h:j<f'.length):((f'.take (j+1)).map f).sum=((f'.take j).map f).sum+f f'[j]:=by
 rw[qac h,qaF,List.sum_append];simp
theorem Zfl{A:List Addr}{H aj:Hp}{r:Addr}{o:HO}(f:df A H aj)(aC:H r=none):df A H (upd aj r o):=
 ⟨λb z e n=>by rw[b3 (dh e aC)];exact f.keep b z e n,λb xs e=>by rw[b3 (dh e aC)];exact f.tups b xs e⟩
theorem Zmx{f':List Nat}{f:Nat->Int}{H:Hp}{vs:List V}{i:Nat}(h:hW H (f'.map λi:Nat=>((i:Int),f i)) vs)(hi:i<f'.length):∃t,vs.getD i .non= .ref t/\H t=some (.tup [.int (f'[i]:Nat),.int (f f'[i])]):=by
 obtain⟨v,cz,t,rfl,bY⟩:=Paired.get h (i:=i) (x:=((f'[i]:Int),f f'[i])) (by rw[qao,fm hi];rfl);exact⟨t,by simp[List.getD,cz],bY⟩
theorem Zh8{ck:List Addr}{w:Int}{x:Addr}(h:atI (ck.map V.ref) w=some (.ref x)):x∈ck:=by
 unfold atI at h;cases e:ixN (ck.map V.ref).length w with
 |none=>rw[e] at h;cases h
 |some j=>
  rw[e] at h;have aD:(ck.map V.ref)[j]? =some (.ref x):=h;rw[qao] at aD;cases bX:ck[j]? with
  |none=>rw[bX] at aD;cases aD
  |some y=>
   rw[bX] at aD;cases aD;exact qau bX
def ZaK(rows:List B5):Prop:=∀l∈rows,0<=l.give/\l.give<=1000/\0<=l.take/\l.take<=1000/\0<=l.start/\l.start<=1000
theorem ZmA{rows:List B5}{pre:List Int}(h:ZaK rows):∀i<rows.length,0<=tkF rows pre i/\tkF rows pre i<=1000*(pre.length:Int):=λi hi=>by
 have au:=h _ (show rows.getD i dB∈rows by rw[cL hi];exact GE _);unfold tkF;have a_:=List.count_le_length (a:=(rows.getD i dB).taker) (l:=pre);generalize rows.getD i dB=b at*;exact⟨qce ∅ ∅,qbD ∅ ∅ ∅ ∅⟩
theorem Zms{rows:List B5}{pre:List Int}(h:ZaK rows):∀i<rows.length,0<=gvF rows pre i/\gvF rows pre i<=1000+1000*(pre.length:Int):=λi hi=>by
 have au:=h _ (show rows.getD i dB∈rows by rw[cL hi];exact GE _);unfold gvF;have a_:=List.count_le_length (a:=(rows.getD i dB).giver) (l:=pre);generalize rows.getD i dB=b at*;have ay:0<=b.give*(pre.count b.giver:Nat):=qce ∅ ∅;have aD:b.give*(pre.count b.giver:Nat)<=1000*(pre.length:Int):=qbD ∅ ∅ ∅ ∅;omega
theorem Zl1{H:Hp}{d:Addr}{ss us:List Int}{fs:List ZX}{zs:List V}(h:Paired (λ(i:Nat) v=>k8 (hid H d) v (mkR ss (us.getD i 0) (fs.getD i (0,[])))) (List.range us.length) zs)(ap:us.length=fs.length):hp H zs (List.zipWith (mkR ss) us fs):=by
 have e:List.zipWith (mkR ss) us fs=(List.range us.length).map λi=>mkR ss (us.getD i 0) (fs.getD i (0,[])):=by
  refine qaE (by simp[ap]) λi ay aD=>?_;have a1:i<us.length:=by simpa using aD
  have a2:i<fs.length:=by omega
  simp[List.getD,a1,a2]
 rw[e];generalize List.range us.length=is at h
 induction h with
 |nil=>exact .nil
 |cons b8 t b_=>exact .cons (b8.keep λb xs z=>mJ _ _ z) b_
theorem Ziz{rows:List B5}:gvL rows []=startsL rows:=by
 unfold gvL startsL;refine qaE (by simp) λi ay aD=>?_;have hi:i<rows.length:=by simpa using ay
 simp[gvF,List.getD,hi]
theorem DD{rows:List B5}:tkL rows []=List.replicate rows.length 0:=by
 unfold tkL;refine qaE (by simp) λi ay aD=>?_;simp[tkF]
noncomputable def repL (n:Nat) (ws:List Int):List Int:=(List.replicate n ws).flatten
theorem DE{n:Nat}{ws:List Int}:(repL n ws).length=n*ws.length:=by simp[repL]
theorem Zkg{n:Nat}{ws:List Int}:repL (n+1) ws=repL n ws++ws:=by
 unfold repL;rw[List.replicate_succ',List.flatten_append];simp
theorem yi{p:Nat->Bool}{f:Nat->Int}:∀{is:List Nat},((is.filter p).map f).sum=(is.map λi=>if p i=true then f i else 0).sum
 | []=>rfl
 |i::is=>by
  rw[qbX,List.map_cons,qa7]
  split
  .rw[List.map_cons,qa7,yi]
  .rw[yi,qbb]
theorem DF{ls:List B5}{w:Int}:Z9 ls w=(ls.map λb=>if b.giver=w then b.give else 0).sum:=by
 unfold Z9 giveRow;rw[qaR];show((dR ls w).map λi=>(ls.getD i dB).give).sum=_;unfold dR;rw[yi,<-US (λb:B5=>if b.giver=w then b.give else 0) ls dB];refine congrArg List.sum (qbj λi _=>?_)
 by_cases c:(ls.getD i dB).giver=w
 .rw[if_pos (by simpa using c),if_pos c]
 .rw[if_neg (by simpa using c),if_neg c]
theorem LK{ls:List B5}{f g:B5->Int}:(ls.map f).sum+(ls.map g).sum=(ls.map λb=>f b+g b).sum:=by
 induction ls with
 |nil=>rfl
 |cons b ls b_=>simp only[List.map_cons,qa7];omega
theorem DG{ls:List B5}:∀{ws:List Int},(ws.map λw=>Z9 ls w).sum=(ls.map λb=>b.give*(ws.count b.giver:Int)).sum
 | []=>by
  show(0:Int)=_;have:(ls.map λb=>b.give*(([]:List Int).count b.giver:Int))=ls.map λ_=>(0:Int):=qbj λb _=>by simp
  rw[this]
  induction ls with
  |nil=>rfl
  |cons b ls b_=>rw[List.map_cons,qa7,<-b_ (by simp)];rfl
 |w::ws=>by
  rw[List.map_cons,qa7,DG,DF,LK];refine congrArg List.sum (qbj λb _=>?_);rw[List.count_cons]
  by_cases c:b.giver=w
  .rw[if_pos c,if_pos (by simp[c]),Int.natCast_add,Int.mul_add];simp;omega
  .rw[if_neg c,if_neg (by simp;exact λz=>c z.symm)];simp
theorem Zm5{n:Nat}{ls:List B5}{ms rs ws:List Int}(h:Zdv n ls ms rs ws)(au:Z0 ls n):(ws.map λw=>Z9 ls w).sum=(givL ls rs).sum:=by
 rw[DG];unfold givL;refine congrArg List.sum (qbj λb jT=>?_);have gl:=au b jT;rw[<-h.cnt];have:b.giver.toNat<n:=by omega
 simp only[List.getD,qao,qbN this];simp only[qbR,Option.getD_some];rw[qaB gl.1]
theorem Zgx{ls:List B5}{hs:List Int}{w:Int}(ap:hs.length=ls.length)(h:fZ ls hs w=true){i:Nat}(hi:i<ls.length)(bY:ls[i].taker=w):ls[i].take<=hs[i]'∅:=by
 unfold fZ at h;rw[qbo] at h;have:=h (ls[i],hs[i]'∅) (List.mem_iff_getElem.mpr ⟨i,by simp;omega,by simp⟩);simpa[bY] using this
theorem Zdi{ls:List B5}{m:Int}{i j:Nat}(hi:i<ls.length)(bP:j<ls.length)(bJ:ls[j].taker=ls[i].giver)(bX:ls[j].giver=ls[i].taker)(iJ:1<=ls[i].take)(d9:1<=ls[j].take):
  ∀{ws hs eo:List Int},(ap:hs.length=ls.length)->hs[i]'∅=0->hs[j]'∅=0->goR m ls hs ws= .ok eo->ls[i].giver∉ws
 | [],_,_,_,_,_,_=>by simp
 |w::ws,hs,eo,ap,cK,cO,h=>by
  have h':(match turnR m ls hs w with| .ok eo=>goR m ls eo ws| .error e=> .error e)= .ok eo:=h;unfold turnR at h'
  by_cases fg:0<=w/\w<m
  case neg=>rw[if_neg fg] at h';cases h'
  rw[if_pos fg] at h'
  by_cases e6:fZ ls hs w=true
  case neg=>rw[if_neg e6] at h';cases h'
  rw[if_pos e6] at h';have eK:ls[i].taker≠w:=λz=>by have:=Zgx ap e6 hi z;omega
  have fL:ls[i].giver≠w:=λz=>by have:=Zgx ap e6 bP (bJ.trans z);omega
  have l2:(eY ls hs w).length=ls.length:=by rw[lN ap];exact ap
  have a':=Uk (w:=w) hi (show i<hs.length by omega) ∅;have bQ:=Uk (w:=w) bP (show j<hs.length by omega) ∅;rw[if_neg eK,if_neg fL] at a';rw[if_neg (by rw[bJ];exact fL),if_neg (by rw[bX];exact eK)] at bQ;have:=Zdi hi bP bJ bX iJ d9 (ws:=ws) l2 (by rw[a'];omega) (by rw[bQ];omega) h';simp only[qaf,not_or];exact⟨fL,this⟩
theorem Zig{n:Nat}{ls:List B5}{ms rs ws:List Int}(h:Zdv n ls ms rs ws)(au:Z0 ls n)(aC:∀r∈rs,1<=r)(k9:k6 ms (startsL ls))(ap:∀l∈ls,1<=l.give/\1<=l.take/\0<=l.start):∀x∈ms,1<=x:=λx ar=>by
 obtain⟨i,hi,rfl⟩:=qaq ar;have dY:ms.length=ls.length:=by rw[k9.1];simp[startsL]
 have ds:i<ls.length:=by omega
 have ay:=k9.2 i hi;rw[cL hi] at ay;have bJ:(startsL ls).getD i 0=ls[i].start:=by simp[startsL,List.getD,ds]
 rw[bJ] at ay;have sg:=ap _ (GE ds)
 by_cases c:1<=ms[i]
 .exact c
 exfalso;have gX:(ls++gU ls ms).length=ls.length+ls.length:=by rw[qag,uG]
 obtain⟨hs,bR⟩:=h.run;have ff:(ls++gU ls ms)[i]'∅=ls[i]:=List.getElem_append_left ds;have uN:(ls++gU ls ms)[ls.length+i]'∅=p8 ls[i] ms[i]:=by
  rw[List.getElem_append_right ∅];simp[gU,List.getD,ds,hi]
 have:=Zdi (ls:=ls++gU ls ms) (i:=i) (j:=ls.length+i) ∅ ∅ (by rw[ff,uN];rfl) (by rw[ff,uN];rfl) (by rw[ff];exact sg.2.1) (by rw[uN];exact sg.1) (by simp) (by rw[qbx,ff];omega) (by rw[qbx,uN];show ms[i]-ls[i].start=0;omega) bR;rw[ff] at this;have bb:=au _ (GE ds);have a_:((ws.count ls[i].giver:Nat):Int)=rs.getD ls[i].giver.toNat 0:=by
  have b':ls[i].giver.toNat<n:=by omega
  rw[<-h.cnt];simp only[List.getD,qao,qbN b'];simp only[qbR,Option.getD_some];rw[qaB bb.1]
 rw[List.count_eq_zero_of_not_mem this] at a_;have fO:rs.length=n:=by rw[<-h.cnt];simp
 have:=aC _ (show rs.getD ls[i].giver.toNat 0∈rs by rw[cL ∅];exact GE _);omega
theorem Zip{ms gs:List Int}(ap:gs.length=ms.length)(bR:∀x∈gs,1<=x/\x<=1000000)(h:¬3000<(lapsL ms gs ms.length:Int)*gs.sum):lapsL ms gs ms.length<=3000:=by
 cases gs with
 |nil=>
  have:ms=[]:=qca.mp (by rw[<-ap];rfl);subst this
  decide
 |cons g gs=>
  have ay:=(sc (xs:=gs) λy bW=>bR y (qaj _ bW)).1;have aD:=bR g (qaL ..);generalize lapsL ms (g::gs) ms.length=l at*;rw[qa7] at h;have cj:(l:Int)*1<=(l:Int)*(g+gs.sum):=Int.mul_le_mul_of_nonneg_left ∅ ∅;omega
theorem Zho{rs:List Int}(h:∀r∈rs,1<=r):∀r∈rs,r<=rs.sum:=by
 induction rs with
 |nil=>simp
 |cons a rs b_=>
  have DH:=b_ λr aC=>h r (qaj _ aC);have c0:0<=rs.sum:=by
   clear b_ DH;have bO:∀r∈rs,1<=r:=λr aC=>h r (qaj _ aC);clear h
   induction rs with
   |nil=>simp
   |cons b rs LM=>rw[qa7];have:=bO b (qaL ..);have:=LM λr aC=>bO r (qaj _ aC);omega
  have bK:=h a (qaL ..);intro r aC;rw[qa7];rcases qaf.mp aC with rfl|aC
  .omega
  .have:=DH r aC;omega
theorem js.step3{T:Tp K mg}{H aA aj:Hp}{p g t z:Addr}{n:Nat}{rows:List B5}{ms cV ce ko kq:List Int}(h:js T H p n rows ms g t cV ce)(bU:H z=none)(s:Zd H aA)(f:df [g,t,z] aA aj)(ay:aj g=some (.lst (ko.map V.int)))(aD:aj t=some (.lst (kq.map V.int)))(l1:ko.length=rows.length)(l2:kq.length=rows.length):js T aj p n rows ms g t ko kq:=by
 obtain⟨dx,a,b,c,d,ck,eS,fs,bJ,bX,dn,ha,nH,nI,nJ,nK,o1,iI,hk,qe,sf,jS,nL⟩:=h;have iZ:∀x∈a::b::c::d::(ck++eS),H x≠none->x∉[g,t,z]:=λx ar nn y=>by
  simp only[qaf,qaX,or_false] at y;rcases y with y|y|y
  .exact(jS x ar).1 y
  .exact(jS x ar).2 y
  .exact nn (by rw[y];exact bU)
 have je:=LL.go (A:=[]) s.frame ha (by simp);have kb:=LL.go (A:=[]) s.frame nH (by simp);refine⟨dx,a,b,c,d,ck,eS,fs,f.keep _ _ (s _ _ bJ) ?_,f.keep _ _ (s _ _ bX) (iZ a (by simp) (by rw[bX];simp)),f.keep _ _ (s _ _ dn) (iZ b (by simp) (by rw[dn];simp)),LL.go f je (λx ar=>iZ x (by simp[ar]) (ha.dom x ar)),LL.go f kb (λx ar=>iZ x (by simp[ar]) (nH.dom x ar)),f.keep _ _ (s _ _ nI) (iZ c (by simp) (by rw[nI];simp)),f.keep _ _ (s _ _ nJ) (iZ d (by simp) (by rw[nJ];simp)),nK,o1,ay,aD,l1,l2,jS,nL⟩;intro y;simp only[qaf,qaX,or_false] at y;rcases y with y|y|y
 .rw[y,iI] at bJ;cases bJ
 .rw[y,hk] at bJ;cases bJ
 .rw[y,bU] at bJ;cases bJ
theorem LN{ls:List B5}(h:∀l∈ls,0<=l.give):∀{ws:List Int}{j:Nat},0<=((ws.take j).map λw=>Z9 ls w).sum/\((ws.take j).map λw=>Z9 ls w).sum<=(ws.map λw=>Z9 ls w).sum:=by
 have eh:∀w,0<=Z9 ls w:=λw=>by
  rw[DF]
  induction ls with
  |nil=>simp
  |cons b ls b_=>
   rw[List.map_cons,qa7];have:=b_ λl ap=>h l (qaj _ ap);have:=h b (qaL ..)
   split<;>omega
 have kr:∀us:List Int,0<=(us.map λw=>Z9 ls w).sum:=λus=>by
  induction us with
  |nil=>simp
  |cons u us b_=>rw[List.map_cons,qa7];have:=eh u;omega
 intro ws j;refine⟨kr _,?_⟩;have e:(ws.map λw=>Z9 ls w).sum=((ws.take j).map λw=>Z9 ls w).sum+((ws.drop j).map λw=>Z9 ls w).sum:=by
  rw[<-List.sum_append,<-qaF,qbF]
 have:=kr (ws.drop j);omega
structure Ug(ap:HM):Prop where
 nm:ZcH ap.names
 few:ap.belts.length<=60
 bt:Z0 ap.belts ap.names.length
 bs:∀l∈ap.belts,1<=l.give/\l.give<=1000/\1<=l.take/\l.take<=1000/\0<=l.start/\l.start<=1000
theorem Ug.sized{ap:HM}(h:Ug ap):WS ap.belts:=λi hi=>by
 have:=h.bs _ (show ap.belts.getD i dB∈ap.belts by rw[cL hi];exact GE _);exact⟨(ap.belts.getD i dB).give.toNat,(ap.belts.getD i dB).take.toNat,∅,∅,qae (show _<2 ^ 10 by omega) (qav (by decide) (by decide)),qae (show _<2 ^ 10 by omega) (qav (by decide) (by decide)),∅,∅⟩
theorem Ug.small{ap:HM}(h:Ug ap):ZaK ap.belts:=λl bL=>by have:=h.bs l bL;omega
theorem yj{ms:List Int}{f d:Nat->Int}:∀{is:List Nat},(∀i∈is,0<=d i)->((boxU ms f d is).length:Int)=(is.map d).sum
 | [],_=>rfl
 |i::is,h=>by
  have b_:=yj (ms:=ms) (f:=f) (is:=is) λj bP=>h j (qaj _ bP);have c0:=h i (qaL ..);show((bxN ms i (f i) (d i).toNat++boxU ms f d is).length:Int)=_;rw[qag,qd,List.map_cons,qa7];omega
theorem LO{rows:List B5}{ms pre:List Int}{w:Int}{fs:List ZX}(h:oZ rows w fs)(au:((se rows ms pre w).length:Int)=Z9 rows w):((lQ rows ms pre w fs).length:Int)=Z9 rows w:=by
 have:=h.1;unfold lQ;rw[qbZ];omega
theorem DI{rows:List B5}{ms pre:List Int}{w:Int}(h:ZaK rows):((se rows ms pre w).length:Int)=Z9 rows w:=by
 unfold se;rw[yj λi hi=>(h _ (show rows.getD i dB∈rows by rw[cL (p7 hi)];exact GE _)).1];unfold Z9 giveRow;rw[qaR]
 rfl
theorem Znf{rm g x:Int}(g1:1<=g)(oq:0<=rm)(x0:0<=x)(x1:x<=1):rm<=((rm+g-1) / g+x)*g/\((rm+g-1) / g+x)*g<=rm+2*g:=by
 have e:=Int.emod_add_mul_ediv (rm+g-1) g;have a0:=qa5 (rm+g-1) (show g≠0 by omega);have a1:=qa3 (rm+g-1) (show 0<g by omega);rw[Int.mul_comm] at e;rw[Int.add_mul];have c0:0<=x*g:=qce x0 ∅;have ay:x*g<=1*g:=qbO x1 ∅;generalize (rm+g-1) / g*g=z at*;omega
noncomputable def jU (ls:List B5) (w:Int) (j:Nat):List Nat:=(List.range j).filter λi=>decide ((ls.getD i dB).taker=w)
noncomputable def gB (ls:List B5) (w:Int) (j:Nat):List Nat:=(List.range j).filter λi=>decide ((ls.getD i dB).giver=w)
theorem Zhg{ls:List B5}{w:Int}{j:Nat}:jU ls w (j+1)=jU ls w j++if(ls.getD j dB).taker=w then[j] else[]:=by
 unfold jU;rw[qbr,qbP]
 by_cases c:(ls.getD j dB).taker=w
 .rw[if_pos c,qbX,if_pos (by simpa using c)];rfl
 .rw[if_neg c,qbX,if_neg (by simpa using c)];rfl
theorem Zb0{ls:List B5}{w:Int}{j:Nat}:gB ls w (j+1)=gB ls w j++if(ls.getD j dB).giver=w then[j] else[]:=by
 unfold gB;rw[qbr,qbP]
 by_cases c:(ls.getD j dB).giver=w
 .rw[if_pos c,qbX,if_pos (by simpa using c)];rfl
 .rw[if_neg c,qbX,if_neg (by simpa using c)];rfl
theorem ZhP{ls:List B5}{w:Int}{j:Nat}:j∉jU ls w j:=λz=>by have:=qax.mp (qa4.mp z).1;omega
theorem ZhH{ls:List B5}{w:Int}{j:Nat}:j∉gB ls w j:=λz=>by have:=qax.mp (qa4.mp z).1;omega
theorem Zlw{ms:List Int}{b:Nat}{pc:Int}{m:Nat}:bxN ms b pc (m+1)=bxN ms b pc m++ [firstL ms b+(pc+(m:Int)) % ms.getD b 0]:=by
 unfold bxN;rw[qbr,qaF]
 rfl
theorem Zlr{ss us:List Int}{u:Int}{fs:List ZX}{a:Nat}(bK:us.length=a)(bS:a<fs.length):List.zipWith (mkR ss) (us++ [u]) (fs.take (a+1))=List.zipWith (mkR ss) us (fs.take a)++ [mkR ss u (fs.getD a (0,[]))]:=by
 rw[qac bS,List.zipWith_append (by rw[qaI];omega),cL bS]
 rfl
theorem Zfs{ls:List B5}{ms:List Int}{f d:Nat->Int}{w:Int}{j k:Nat}(h:j<=k):(boxU ms f d (gB ls w j)).length<=(boxU ms f d (gB ls w k)).length:=by
 have e:gB ls w k=gB ls w j++((List.range (k-j)).map (j+ ·)).filter λi=>decide ((ls.getD i dB).giver=w):=by
  unfold gB;rw[<-qbP,<-List.range_add,show j+(k-j)=k by omega]
 rw[e];unfold boxU;rw[List.flatMap_append,qag];omega
theorem Zjk{ms:List Int}:((List.range (((ms.map V.int).length:Nat):Int).toNat).filter λ_=>true).map (λv:Nat=>V.int (firstL ms v))=(jr ms).map V.int:=by
 rw[qak.mpr (by simp),GT,GM];unfold jr;rw[qaR]
 rfl
theorem ZhC{bs:List V}{ls:List B5}(h:bs.length=ls.length):((List.range bs.length).filter λ_=>true).map (λ_:Nat=>V.int 0)=(tkL ls []).map V.int:=by
 rw[qak.mpr (by simp),DD,h];refine qaE (by simp) λi ay aD=>?_;simp
theorem Zfi{rows:List B5}{ms:List Int}{fss:List (List ZX)}:∀{ws ws' pre:List Int},(codeL rows ms fss pre ws).length<=(codeL rows ms fss pre (ws++ws')).length
 | [],_,_=>qar _
 |w::ws,ws',pre=>by
  show(lQ .. ++codeL rows ms fss (pre++ [w]) ws).length<=(lQ .. ++codeL rows ms fss (pre++ [w]) (ws++ws')).length;have:=Zfi (rows:=rows) (ms:=ms) (fss:=fss) (ws:=ws) (ws':=ws') (pre:=pre++ [w]);rw[qag,qag];omega
noncomputable def o2 (t:Int×Int):PyData:= .tuple [.int t.1,.int t.2]
noncomputable def sh (r:Row3):PyData:= .tuple [.int r.1,.int r.2.1,.tuple (r.2.2.map o2)]
theorem yk:∀du:List (Int×Int),PyData.canLayAll0 (du.map o2)=true
 | []=>by simp[PyData.canLayAll0]
 |t::du=>by
  have:=yk du;simp only[List.map_cons,PyData.canLayAll0,o2,PyData.canLay0,qcj,qb0];exact this
theorem yl(r:Row3):(sh r).canLay0=true:=by
 have:=yk r.2.2;simp only[sh,PyData.canLay0,PyData.canLayAll0,qcj,qb0];exact this
theorem ym:∀du:List (Int×Int),PyData.depthAll (du.map o2)<=3
 | []=>by simp[PyData.depthAll]
 |t::du=>by
  have:=ym du;simp only[List.map_cons,PyData.depthAll,o2,PyData.depth];omega
theorem LP(r:Row3):(sh r).depth<=60:=by
 have:=ym r.2.2;simp only[sh,PyData.depth,PyData.depthAll];omega
theorem yn{K:Frag}{H:Hp}:∀{vs:List V}{du:List (Int×Int)},ic H vs du->DRels K H vs (du.map o2)
 |_,_,.nil=> .nil
 |_,_,.cons ⟨a,e,h⟩ r=>by rw[e];exact .cons (.tup (.of h) (.cons (.int _) (.cons (.int _) .nil))) (yn r)
theorem Ziq{K:Frag}{H:Hp}{v:V}{r:Row3}(h:k8 H v r):fr K H v (sh r):=by
 obtain⟨a,hI,fG,rfl,ay,aD,cj⟩:=h;exact .tup (.of ay) (.cons (.int _) (.cons (.int _) (.cons (.tup (.of aD) (yn cj)) .nil)))
theorem DJ{ls:List B5}{n:Nat}(h:∀l∈ls,Bel n l):WS ls:=λi hi=>by
 rw[cL hi];have b:=h _ (GE hi);obtain⟨cK,cO⟩:=b.sz;obtain⟨f1,f2⟩:=b.few;generalize ls[i]=l at*;exact⟨l.give.toNat,l.take.toNat,∅,∅,∅,∅,∅,∅⟩
noncomputable def bB:B5:=⟨0,0,1,1,1⟩
theorem DK:∀l∈[bB,bB],Bel 1 l:=λl ap=>by
 obtain rfl:l=bB:=by simpa using ap
 exact⟨by decide,by decide,by decide,by decide⟩
theorem yo:Z0 [bB,bB] 1:=λl ap=>(DK l ap).rg
theorem ZhI{z:Int->Nat}{rs:List Int}(h:Rts [bB,bB] 1 z rs):rs=[1]:=by
 have au:Zco [bB,bB] [1]:=λl ap=>by
  obtain rfl:l=bB:=by simpa using ap
  rfl
 have gX:=Zg1 (ls:=[bB,bB]) (rs:=[1]) yo (by simp) au;have e:=Zg8 gX yo (DJ DK) h;have ay:=gX.len;have aD:=gX.le 0 (by decide);have cj:=gX.pos;rw[<-e] at ay aD cj
 match rs,ay,aD,cj with
 | [a],_,aD,cj=>
  have cS:=cj a (by simp);have ec:a<=1:=aD;rw[show a=1 by omega]
theorem ZjS{m:Int}(h:m=1498\/m=1500\/m=1501):k6 [m,2] (startsL [bB,bB])/\Zdv 1 [bB,bB] [m,2] [1] [0]:=by
 rcases h with rfl|rfl|rfl
 all_goals exact⟨⟨rfl,by decide⟩,⟨by decide,by decide,_,rfl⟩⟩
theorem Zd1{m:Int}(h:m=1498\/m=1500\/m=1501):(m=1501/\3000<(lapsL [m,2] (givL [bB,bB] [1]) [m,2].length:Int)*(givL [bB,bB] [1]).sum)\/(m<=1500/\¬3000<(lapsL [m,2] (givL [bB,bB] [1]) [m,2].length:Int)*(givL [bB,bB] [1]).sum/\(lapsL [m,2] (givL [bB,bB] [1]) [m,2].length:Int)=m/\(givL [bB,bB] [1]).sum=2):=by
 rcases h with rfl|rfl|rfl
 .exact .inr ⟨by decide,by decide+kernel,by decide+kernel,by decide+kernel⟩
 .exact .inr ⟨by decide,by decide+kernel,by decide+kernel,by decide+kernel⟩
 .exact .inl ⟨rfl,by decide+kernel⟩
theorem LQ:Ug ⟨["bound"],[bB,bB]⟩:=⟨⟨by simp,λx ar=>(by rw[qab.mp ar];decide+kernel),by decide⟩,by decide,yo,λl ap=>(by
 obtain rfl:l=bB:=by simpa using ap
 decide)⟩
theorem LR:Ug ⟨[],[]⟩:=⟨⟨List.nodup_nil,by simp,by decide⟩,by decide,λl ap=>(by cases ap),λl ap=>(by cases ap)⟩
theorem LS{c:Int}:o0 1 [bB,bB] [[(c,[(0,1)]),(7,[(1,1)])]]:=by
 refine⟨rfl,λi hi=>?_⟩;obtain rfl:i=0:=by
  have:i<1:=hi;omega
 refine⟨by show(2:Int)=Z9 [bB,bB] 0;decide,λf bS t bY=>?_⟩;have e:slotN [bB,bB] ((0:Nat):Int)=2:=by decide
 rw[e];have si:f∈[(c,[((0:Int),(1:Int))]),(7,[(1,1)])]:=bS;rcases qaf.mp si with rfl|si
 .obtain rfl:t=(0,1):=by simpa using bY
  decide
 .obtain rfl:f=(7,[(1,1)]):=by simpa using si
  obtain rfl:t=(1,1):=by simpa using bY
  decide
local macro_rules| `(tactic|walk_at "rd")=>`(tactic|first|with_reducible (first|(show ∃a dx fs,_L.V.ref _=_L.V.ref a/\_/\List.lookup _ fs=none/\_;refine _N.Zko (by with_reducible assumption) (by k_dflt (decide+kernel)) (by k_dflt (decide+kernel)) ?_)|(show ∃a dx fs,_L.V.ref _=_L.V.ref a/\_/\List.lookup _ fs=none/\_;refine _N.ZiO (by with_reducible assumption) (by k_dflt (decide+kernel)) (by k_dflt (decide+kernel)) (by k_dflt (decide+kernel)) ?_)|(show ∃a dx fs,_L.V.ref _=_L.V.ref a/\_/\List.lookup _ fs=none/\_;refine _N.ZhB (by with_reducible assumption) (by k_dflt (decide+kernel)) (by k_dflt (decide+kernel)) (by k_dflt (decide+kernel)) (by k_dflt (decide+kernel)) (by k_dflt (decide+kernel)) (by k_dflt (decide+kernel)) ?_)|refine _L.Rd.Zpq (by with_reducible assumption) (by with_reducible assumption) (by with_reducible assumption) ?_)|fail "none here")
inductive VS(T:Tp K mg)(vs:List V)(H:Hp)(Q:VK)(cR:XK):Prop
 |mk (p:Addr) (ns:List Int) (k:Int) (de:vs=[.ref p,.int k]) (cK:SqL K H p (ns.map V.int)) (cO:ns.length<=63) (dm:0<=k) (dI:k<=100000) (ef:Q (.int (cellX ns k)) H):VS T vs H Q cR
theorem ZgF{T:Tp K mg}{H:Hp}{Q:VK}{E:XK}{p:Addr}{ns:List Int}{k:Int}(g5:SqL K H p (ns.map V.int))(ap:ns.length<=63)(bH:0<=k/\k<=100000)(q:Q (.int (cellX ns k)) H):VS T ([.ref p,.int k]++ []) H Q E:=⟨p,ns,k,rfl,g5,ap,bH.1,bH.2,q⟩
local macro_rules| `(tactic|walk_at "rd")=>`(tactic|first|((with_reducible show _N.VS _ _ _ _ _);with_reducible refine _N.ZgF (by walk_at "hp") (by assumption) ∅ ?_)|fail "none here")
theorem o3:OkN P w base 1 T.x0 (VS T):=by
 refine T.x0.F.okX xG (by walk_at "l") (λcD A outer s H vs Q E aC h=>?_)
 .have hu:=aC.hu;obtain⟨p,ns,k,rfl,g5,dY,k0,k1,q⟩:=h;unfold cellX at q;refine⟨_,(bN (dO (dW (gS (K:=K) rfl hu) (dk (fb K) (by rfl) T.f qal %[0|2]) bM (dD _)) (b0 (c9 bM)) dV)
     (bN %[cA,2,xG.nd,cm fo (pv 1) (dk (fb K) (by rfl) T.f qal %[0|2])|1]
     (bN %[cA,3,xG.nd,%[0,cm eI (pv 1) (dk (fb K) (by rfl) T.f qal %[0|2])|0]|1]
     (bN (dO (dW (gS (K:=K) rfl hu) (pv 2) bM (dD _)) (b0 (c9 (pv 3))) dV)
     (b0 (c9 (cm (eX K) (cm eI (cm fh (pv 3) (cm (eX K) (cm fh bM (pv 2)) bM)) bM) (cm fh bM (pv 2))))))))),?_⟩
  walk_at "a"
  nofun;refine Rd.ifD (λd=>?_) (λd=>?_)
  .have d':(ns.length:Int)=0:=by simpa using d
   rw[if_pos d'] at q;nofun;exact q
  .have d':¬(ns.length:Int)=0:=by simpa using d
   rw[if_neg d'] at q;have e:((ns.map V.int).length:Int)=ns.length:=by simp
   have Ub:0<((ns.map V.int).length:Int):=by omega
   have Uc:((ns.map V.int).length:Int).natAbs.log2<9000:=x' (by rw[GM];omega);have bK:=Zcx (ns:=ns) (k:=k % (ns.map V.int).length) (qa5 _ ∅) (by rw[e];exact qa3 _ ∅);have hc:0<=k / ((ns.map V.int).length:Int):=Int.ediv_nonneg k0 ∅;have h8:k / ((ns.map V.int).length:Int)<=k:=Int.ediv_le_self _ k0;have lR:IntMulOk (ns.getD (k % ((ns.map V.int).length:Int)).toNat 0) (2*(k / ((ns.map V.int).length:Int))+1):=IntMulOk.of_right (qap (xZ (n:=30) ∅) (by decide));rw[<-e] at q;nofun;refine Rd.ifD (λhS=>?_) (λhS=>?_)
   .rw[if_pos hS] at q;nofun;exact q
   .rw[if_neg hS] at q;nofun;exact q
inductive DL(T:Tp K mg)(vs:List V)(H:Hp)(Q:VK)(cR:XK):Prop
 |mk (a b:Nat) (de:vs=[.int a,.int b]) (cK:Q (.int (Nat.gcd a b:Nat)) H):DL T vs H Q cR
theorem uO:OkN P w base 1 T.x1 (DL T):=by
 refine T.x1.F.okX ut (by walk_at "l") (λcD A outer s H vs Q E aC h=>?_)
 .have hu:=aC.hu;obtain⟨a0,eO,rfl,q⟩:=h;rw[<-My.Zep] at q;refine⟨_,(bN (v6 PassesOwn.leaving (dW (jh (K:=K) rfl hu) (pv 1) bM (dD _)) (bN %[cA,2,ut.nd,cm eI (pv 0) (pv 1)|1]
     (bN %[cA,0,ut.nd,1|1]
     (b0 %[cA,1,ut.nd,2|1]))))
     (b0 (c9 (pv 0)))),?_⟩
  walk_at "a"
  walk_at "rd";refine ZgE (λm ao aj=>aj=H/\∃(x y:Int)(r:Option V),m=y.toNat/\ao=[some (.int x),some (.int y),r]/\0<=x/\0<=y/\My.G x y=My.G a0 eO) _ ⟨rfl,a0,eO,none,rfl,rfl,∅,∅,rfl⟩ ?_;rintro m ao aj ⟨rfl,x,y,r,rfl,rfl,ar,bW,f8⟩;nofun;refine Zbh (λc=>Zju ?_) (λc=>?_)
  .have nM:0<y:=by
    have:¬y=0:=by simpa using c
    omega
   nofun;exact⟨_,(by have:=qa5 x (show y≠0 by omega);have:=qa3 x nM;omega),rfl,y,x % y,some (.int (x % y)),rfl,rfl,bW,qa5 x ∅,(Db ar nM).trans f8⟩
  .have nM:y=0:=by simpa using c
   have e:x=My.G a0 eO:=by rw[<-f8,My.ZjK ar nM]
   nofun;rw[e];exact q
inductive DM(T:Tp K mg)(vs:List V)(H:Hp)(Q:VK)(cR:XK):Prop
 |mk (a gC:Addr) (bs:List V) (ls:List B5) (rs:List Int) (de:vs=[.ref a,.ref gC]) (cK:SqL K H a (rs.map V.int)) (cO:H gC=some (.lst bs)) (dm:ev H bs ls) (dI:Z0 ls rs.length) (ef:rs.length<=30) (eR:(∀r∈rs,1<=r/\r<=1000)) (fw:∀(r:Addr)(aj:Hp),H r=none->Zd H aj->aj r=some (.lst ((gb ls rs).map V.int))->Q (.ref r) aj):DM T vs H Q cR
theorem LU:OkN P w base 2 T.x2 (DM T):=by
 refine T.x2.F.okX lI (by walk_at "l") (λcD A outer s H vs Q E aC h=>?_)
 .have hu:=aC.hu;obtain⟨a,gC,bs,ls,rs,rfl,bK,ks,c1,dN,bL,k_,q⟩:=h;have ej:=c1.length;have h9:=ZgM dN;generalize mV:rs.length=m at*;refine⟨_,(bN %[cA,2,lI.nd,JB rfl (by rfl) T.j (by rfl) T.h %[dk (fb K) (by rfl) T.f qal %[0|2]|2]|1]
     (bN (d4 PassesOwn.leaving rfl (eG (K:=K) rfl (pv 0)) %[cr,3,lI.nd|1] (b0 (d4 PassesOwn.leaving rfl (eG (K:=K) rfl (pv 1)) %[cr,4,lI.nd|1] (bN %[cA,5,lI.nd,dk (AY rfl) (by rfl) T.aO PyProof.Rows.boot_min %[%[2,%[4,bM|0]|0],%[2,%[4,bM|0]|0]|2]|1]
     (bN (hN (pv 5) (iN (pv 2) %[4,bM|0] iU))
     (b0 (hN (pv 5) (iN (pv 2) %[4,bM|0] iU))))))))
     (bN %[cA,6,lI.nd,fA bG|1]
     (bN (d4 PassesOwn.leaving rfl (g4 rfl T.h %[dk (fb K) (by rfl) T.f qal %[0|2]|2]) %[cr,7,lI.nd|1] (bN %[cA,8,lI.nd,bM|1]
     (bN (d4 PassesOwn.leaving rfl (g4 rfl T.h %[dk (fb K) (by rfl) T.f qal %[0|2]|2]) %[cr,9,lI.nd|1] (b0 (dO (dW (gS (K:=K) rfl hu) %[2,9|0] %[2,7|0] (dD _)) (b0 %[cA,8,lI.nd,c2 T.x1 (uO T) aC cG %[8,%[0,9|0]|2]|1]) dV)))
     (b0 (et (hA (K:=K) rfl qan qay qaz iy (pv 6) %[cm fo %[0,7|0] (pv 8)|2]))))))
     (b0 (c9 (pv 6))))))),?_⟩
  walk_at "a"
  have fO:((rs.map V.int).length:Int)=(m:Int):=by simp[mV]
  nofun;refine Rd.ZpB ?_;nofun;refine⟨m,by rw[fO],∅,λl ap=>?_⟩;have LV:((List.range m).map λi:Nat=>V.int i)=(gL (Pc.Yt (d3 ls) 0 λi=>i) m).map V.int:=by unfold gL;rw[qaR];rfl
  rw[LV];have lS:(upd H l (.lst ((gL (Pc.Yt (d3 ls) 0 λi=>i) m).map V.int))) l=some (.lst ((gL (Pc.Yt (d3 ls) 0 λi=>i) m).map V.int)):=Ze;have a':Zd H (upd H l (.lst ((gL (Pc.Yt (d3 ls) 0 λi=>i) m).map V.int))):=cF ap;generalize upd H l (.lst ((gL (Pc.Yt (d3 ls) 0 λi=>i) m).map V.int))=aA at*;have hc:=a' _ _ ks;have uP:=a'.seq bK;nofun;refine Yr (eF bK) (λi ao aj=>Zd H aj/\(∃a1 a2 a3,ao=[some (.ref a),some (.ref gC),some (.ref l),a1,a2,a3,none,none,none,none])/\aj l=some (.lst ((gL (Pc.Yt (d3 ls) i λi=>i) m).map V.int))) ⟨a',⟨_,_,_,rfl⟩,lS⟩ (λi ao aj h=>h.1) ?_ ?_
  .rintro i ao aP hi ⟨bQ,⟨a1,a2,a3,rfl⟩,iz⟩;have h8:=bQ _ _ ks;generalize (rs.map V.int).getD i .non=jl at*;nofun;refine Yr (eF (SqL.of ks)) (λj ao aj=>Zd H aj/\(∃a2 a3,ao=[some (.ref a),some (.ref gC),some (.ref l),some jl,a2,a3,none,none,none,none])/\aj l=some (.lst ((gL (((d3 ls).take j).foldl Pc.step (Pc.Yt (d3 ls) i λi=>i)) m).map V.int))) ⟨bQ,⟨_,_,rfl⟩,iz⟩ (λj ao aj h=>h.1) ?_ ?_
   .rintro j ao b5 bP ⟨bV,⟨a2,a3,rfl⟩,qf⟩;have fc:j<ls.length:=by omega
    obtain⟨t,LW,bY⟩:=c1.at (fm fc);have c7:bs.getD j .non= .ref t:=by simp[List.getD,LW]
    rw[c7];have DN:j<(d3 ls).length:=by simp[d3,fc]
    have ep:(d3 ls)[j]=(ls[j].giver.toNat,ls[j].taker.toNat):=by simp[d3]
    obtain⟨bJ,bX⟩:=h9 _ (GE DN);obtain⟨gl,iW,oX,p_⟩:=dN _ (GE fc);have dt:((d3 ls).take (j+1)).foldl Pc.step (Pc.Yt (d3 ls) i λi=>i)=Pc.step (((d3 ls).take j).foldl Pc.step (Pc.Yt (d3 ls) i λi=>i)) (d3 ls)[j]:=by
     rw[qac DN,qbT];rfl
    rw[dt];generalize ((d3 ls).take j).foldl Pc.step (Pc.Yt (d3 ls) i λi=>i)=f at*;rw[ep] at bJ bX|-;have fu:=bV _ _ bY;generalize ls[j]=bb at*;have eZ:=ZcS (f:=f) bJ;have gV:=ZcS (f:=f) bX;have dM:=Zkt (f:=f) bJ bX;have kt:=ZlS f m;dsimp only[B5.v] at fu eZ gV dM bJ bX;rw[qaB gl] at eZ;rw[qaB oX] at gV;have Ud:=SqL.of (K:=K) qf;nofun;have LX:(if((f bb.taker.toNat:Nat):Int)<((f bb.giver.toNat:Nat):Int) then((f bb.taker.toNat:Nat):Int) else((f bb.giver.toNat:Nat):Int))=((min (f bb.giver.toNat) (f bb.taker.toNat):Nat):Int):=by split<;>omega
    rw[LX];nofun;have ji:(upd b5 l (.lst (((gL f m).map V.int).set bb.giver.toNat (.int ((min (f bb.giver.toNat) (f bb.taker.toNat):Nat):Int))))) l=some (.lst (((gL f m).map V.int).set bb.giver.toNat (.int ((min (f bb.giver.toNat) (f bb.taker.toNat):Nat):Int)))):=Ze;have cd:Zd H (upd b5 l (.lst (((gL f m).map V.int).set bb.giver.toNat (.int ((min (f bb.giver.toNat) (f bb.taker.toNat):Nat):Int))))):=bV.new ap;generalize upd b5 l (.lst (((gL f m).map V.int).set bb.giver.toNat (.int ((min (f bb.giver.toNat) (f bb.taker.toNat):Nat):Int))))=bZ at*;have gD:=cd _ _ bY;dsimp only[B5.v] at gD;nofun;refine Rd.ZnE ji ∅ (by rw[qaP,GM,kt];omega) ?_;nofun;refine⟨cd.new ap,⟨_,_,rfl⟩,?_⟩;rw[Ze,<-dM,qbc,qbc]
   .rintro ao b5 ⟨bV,⟨a2,a3,rfl⟩,qf⟩;have e2:(d3 ls).length=bs.length:=by simp[d3];omega
    rw[<-e2,qaO] at qf;nofun;exact⟨bV,⟨_,_,_,rfl⟩,qf⟩
  .rintro ao aP ⟨bQ,⟨a1,a2,a3,rfl⟩,iz⟩;rw[GM,mV] at iz
   change aP l=some (.lst ((gL (labT (d3 ls) m) m).map V.int)) at iz
   nofun;refine⟨qar _,λr aC=>?_⟩;have bV:Zd aP (upd aP r (.lst [])):=cF aC;have iK:(upd aP r (.lst [])) r=some (.lst []):=Ze;have ku:H r=none:=ft bQ aC;have qf:=bV _ _ iz;have uQ:l≠r:=dh iz aC;generalize upd aP r (.lst [])=b5 at*;have fx:=bQ.trans bV;have DO:=fx.seq bK;nofun;rw[GM,mV];have hn:∀w<m,atI (rs.map V.int) (w:Int)=some (.int (rs.getD w 0))/\1<=rs.getD w 0/\rs.getD w 0<=1000:=λw hw=>by
    have r3:w<rs.length:=by omega
    have e:rs.getD w 0=rs[w]:=by simp[List.getD,r3]
    rw[e];exact⟨iT (by simp[r3]),k_ _ (GE r3)⟩
   refine YT (n:=m) (λi ao aj=>Zd H aj/\(∃a4 a5 a6,ao=[some (.ref a),some (.ref gC),some (.ref l),a1,a2,a3,some (.ref r),a4,a5,a6])/\aj l=some (.lst ((gL (labT (d3 ls) m) m).map V.int))/\aj r=some (.lst (((gb ls rs).take i).map V.int))) ⟨fx,⟨_,_,_,rfl⟩,qf,iK⟩ ?_ ?_
   .rintro i ao bZ hi ⟨cd,⟨a4,a5,a6,rfl⟩,ji,hq⟩;have uR:=cd.seq bK;have Uf:=SqL.of (K:=K) ji;nofun;rw[GM,mV];refine YT (n:=m) (λj ao aj=>aj=bZ/\(∃a6,ao=[some (.ref a),some (.ref gC),some (.ref l),a1,a2,a3,some (.ref r),some (.int (0+(i:Int))),some (.int (gcdC rs (labT (d3 ls) m) i j:Nat)),a6])) ⟨rfl,_,rfl⟩ ?_ ?_
    .rintro j ao b4 bP ⟨rfl,a6,rfl⟩;rw[qbb,qbb,ye];have eZ:=ZcS (f:=labT (d3 ls) m) (m:=m) bP;have gV:=ZcS (f:=labT (d3 ls) m) (m:=m) hi;obtain⟨ay,aD,cj⟩:=hn j bP;generalize labT (d3 ls) m j=lj at*;generalize labT (d3 ls) m i=li at*;generalize gcdC rs (labT (d3 ls) m) i j=g at*;obtain⟨v,cz⟩:∃v:Nat,rs.getD j 0=(v:Int):=⟨(rs.getD j 0).toNat,∅⟩;rw[cz] at ay|-;rw[GT];nofun;refine Rd.ifD (λc=>?_) (λc=>?_)
     .rw[if_pos ∅];nofun;refine⟨g,v,rfl,?_⟩;nofun;exact⟨rfl,_,rfl⟩
     .rw[if_neg ∅];nofun;exact⟨rfl,_,rfl⟩
    .rintro ao b4 ⟨rfl,a6,rfl⟩;obtain⟨ay,aD,cj⟩:=hn i hi;have sg:=ZfD (ls:=ls) (rs:=rs) (w:=i) ∅;rw[mV] at sg;have kt:(gb ls rs).length=m:=by simp[gb,mV]
     have lB:(gb ls rs).take (i+1)=(gb ls rs).take i++ [rs.getD i 0 / (gcdC rs (labT (d3 ls) m) i m:Int)]:=by
      rw[qac ∅,<-cL (d:=0) ∅,sg]
     rw[lB];have g1:=uL (rs:=rs) (lb:=labT (d3 ls) m) (w:=i) hi rfl;have g2:0<gcdC rs (labT (d3 ls) m) i m:=Nat.pos_of_dvd_of_pos g1 ∅;have g3:=qbk ∅ g1;generalize gcdC rs (labT (d3 ls) m) i m=g at*;have hR:0<(g:Int)/\(g:Int).natAbs.log2<9000:=⟨∅,LB ∅ ∅⟩;rw[qbb];have la:(((gb ls rs).take i).map V.int).length<sizeLine:=ed (by rw[GM,qaI];omega);generalize (gb ls rs).take i=X at*;generalize rs.getD i 0=v at*;nofun;refine⟨cd.new ku,⟨_,_,_,rfl⟩,by rw[b3 uQ];exact ji,?_⟩;rw[Ze,qaF]
     rfl
   .rintro ao bZ ⟨cd,⟨a4,a5,a6,rfl⟩,ji,hq⟩;rw[qa2 (by simp[gb,mV])] at hq;nofun;exact q r bZ ku cd hq
inductive DP(T:Tp K mg)(vs:List V)(H:Hp)(Q:VK)(cR:XK):Prop
 |mk (c sl:Int) (gr:Bool) (de:vs=[.int c,.int sl,.bl gr]) (cK:0<=sl) (cO:sl<=100000) (dm:∀(r:Addr)(aj:Hp)(f:ZX),Zd H aj->kn aj (.ref r) f->yf sl f->Q (.ref r) aj):DP T vs H Q cR
theorem LY:OkN P w base 1 T.x3 (DP T):=by
 refine T.x3.F.okX pX (by walk_at "l") (λcD A outer s H vs Q E aC h=>?_)
 .have hu:=aC.hu;obtain⟨c,sl,gr,rfl,Uh,Ui,q⟩:=h;have Ul:(10:Int) ^ Int.toNat 29=100000000000000000000000000000:=rfl;refine⟨_,(bN %[cA,3,pX.nd,cm eI (cm fh (pv 0) bM) bM|1]
     (bN %[cA,4,pX.nd,cm mv (cm eI (pv 3) bM) bM|1]
     (bN (tO (dO (fX (K:=K) rfl (pv 2) (λ_=>rfl)) (b0 %[cA,4,pX.nd,cm mv (cm eI (pv 0) (cm fh bM (cm AT bM bM))) (cm AT bM bM)|1]) dV))
     (bN %[cA,5,pX.nd,fA bG|1]
     (bN (d4 PassesOwn.leaving rfl (g4 rfl T.h %[cm fh (cm eI (cm fo (pv 3) bM) bM) (dk (AY rfl) (by rfl) T.aO PyProof.Rows.boot_min %[1,bM|2])|2]) %[cr,6,pX.nd|1] (b0 (et (hA (K:=K) rfl qan qay qaz iy (pv 5) %[fz %[cm eI (cm fo (pv 3) (cm (eX K) bM (cm fh bM (pv 6)))) (pv 1),cm mv (cm eI (cm fo (pv 3) (cm (eX K) bM (cm fh bM (pv 6)))) bM) bM|2]|2]))))
     (b0 (c9 (fz %[4,iv (tW (K:=K) rfl) (by rfl) T.m qaU %[5|2]|2])))))))),?_⟩
  walk_at "a"
  nofun;have mu:0<=c*48271 % 2147483647:=by omega
  have hg:c*48271 % 2147483647<2147483647:=by omega
  generalize c*48271 % 2147483647=dX at*;refine Rd.cut (λb1 aj=>aj=H/\∃nN:Int,b1=[some (.int c),some (.int sl),some (.bl gr),some (.int dX),some (.int nN),none,none]) ?k1 ?dF
  case dF=>
   cases gr with
   |true=>
    nofun;exact⟨rfl,_,rfl⟩
   |false=>
    nofun;exact⟨rfl,_,rfl⟩
  case k1=>
   rintro b1 aj ⟨rfl,nN,rfl⟩;nofun;refine⟨qar _,λt bY=>?_⟩;have bV:Zd aj (upd aj t (.lst [])):=cF bY;have lT:(upd aj t (.lst [])) t=some (.lst []):=Ze;generalize upd aj t (.lst [])=b5 at*;have yp:(0<=(if 1<sl then 1 else sl)/\(if 1<sl then 1 else sl)<=1):=by split<;>omega
   have lR:IntMulOk (dX / 41 % 4) ((if 1<sl then 1 else sl)):=mulI (n:=10) (m:=10) ∅ (by have:=yp.1;have:=yp.2;generalize (if 1<sl then 1 else sl)=z at *;omega) (by decide);have LZ:0<(if 1<sl then 1 else sl)->0<sl:=by split<;>omega
   have oq:0<=dX / 41 % 4*(if 1<sl then 1 else sl):=qce ∅ ∅;have cE:dX / 41 % 4*(if 1<sl then 1 else sl)<=3*1:=qbD ∅ ∅ ∅ ∅;have cY:0<dX / 41 % 4*(if 1<sl then 1 else sl)->0<(if 1<sl then 1 else sl):=λz=>by
    rcases(Int.le_iff_lt_or_eq.mp yp.1).symm.imp Eq.symm id with e|e
    .rw[e,Int.mul_zero] at z;omega
    .exact e
   nofun;generalize (if 1<sl then 1 else sl)=mm at*;generalize dX / 41 % 4*mm=nn at*;refine YT (n:=nn.toNat) (λj ao bZ=>∃(fG:List V)(du:List (Int×Int))(a6:Option V),ao=[some (.int c),some (.int sl),some (.bl gr),some (.int dX),some (.int nN),some (.ref t),a6]/\Zd aj bZ/\bZ t=some (.lst fG)/\ic bZ fG du/\du.length=j/\∀x∈du,0<=x.1/\x.1<sl/\x.2.natAbs<=4) ⟨[],[],_,rfl,bV,lT,.nil,rfl,by simp⟩ ?_ ?_
   .rintro j ao bZ bP ⟨fG,du,L0,rfl,cd,gD,gc,ji,yq⟩;have Um:j<4:=by omega
    have gK:0<sl:=LZ (cY ∅);have i_:0<164+5*(0+(j:Int))/\(164+5*(0+(j:Int))).natAbs.log2<9000:=⟨∅,iH ∅ ∅⟩;have hS:0<7+2*(0+(j:Int))/\(7+2*(0+(j:Int))).natAbs.log2<9000:=⟨∅,iH ∅ ∅⟩;have L1:0<sl/\sl.natAbs.log2<9000:=⟨∅,iH ∅ ∅⟩;have uS:fG.length<sizeLine:=jm (by have:=gc.length;omega);nofun;have eL:=qa5 (dX / (164+5*(0+(j:Int)))) (show sl≠0 by omega);have j6:=qa3 (dX / (164+5*(0+(j:Int)))) gK;have lz:(dX / (7+2*(0+(j:Int))) % 9-4).natAbs<=4:=by omega
    generalize dX / (164+5*(0+(j:Int))) % sl=x1 at*;generalize dX / (7+2*(0+(j:Int))) % 9-4=x2 at*;refine⟨by show 2<=sizeLine;decide,λu e9=>?_⟩;have cB:Zd bZ (upd bZ u (.tup [V.int x1,V.int x2])):=cF e9;have sj:(upd bZ u (.tup [V.int x1,V.int x2])) u=some (.tup [V.int x1,V.int x2]):=Ze;generalize upd bZ u (.tup [V.int x1,V.int x2])=b4 at*;have o4:=cB _ _ gD;nofun;have qg:df [t] b4 (upd b4 t (.lst (fG++ [.ref u]))):=gy (by simp) o4 (by intro _ z;cases z);refine⟨fG++ [.ref u],du++ [(x1,x2)],_,rfl,(cd.trans cB).new bY,Ze,((gc.keep λb xs e=>cB _ _ e).keep qg.tups).snoc (x:=(x1,x2)) (qg.tups _ _ sj),by simp[ji],λx ar=>?_⟩;rcases qaD.mp ar with z|z
    .exact yq x z
    .rw[qab.mp z];exact⟨eL,j6,lz⟩
   .rintro ao bZ ⟨fG,du,L0,rfl,cd,gD,gc,ji,yq⟩;have DQ:=SqL.of (K:=K) gD;nofun;refine⟨t,fG,rfl,.inl ⟨DQ,λw hw=>?_⟩⟩;have cB:Zd bZ (upd bZ w (.tup fG)):=cF hw;have sj:(upd bZ w (.tup fG)) w=some (.tup fG):=Ze;generalize upd bZ w (.tup fG)=b4 at*;nofun;refine⟨by show 2<=sizeLine;decide,λu e9=>?_⟩;have c8:Zd b4 (upd b4 u (.tup [V.int nN,V.ref w])):=cF e9;have uT:(upd b4 u (.tup [V.int nN,V.ref w])) u=some (.tup [V.int nN,V.ref w]):=Ze;generalize upd b4 u (.tup [V.int nN,V.ref w])=cZ at*;have lU:=cB.trans c8;exact q u cZ (nN,du) (cd.trans lU) ⟨u,w,fG,rfl,uT,c8 _ _ sj,gc.keep λb xs e=>lU _ _ e⟩ ⟨by show du.length<=1000;omega,yq⟩
inductive DR(T:Tp K mg)(vs:List V)(H:Hp)(Q:VK)(cR:XK):Prop
 |mk (p gC:Addr) (ns:List Int) (bs:List V) (ls:List B5) (a0:Int) (m:Nat) (gr:Bool) (de:vs=[.ref p,.int a0,.ref gC,.int m,.bl gr]) (cK:SqL K H p (ns.map V.int)) (cO:ns.length<=63) (dm:H gC=some (.lst bs)) (dI:ev H bs ls) (ef:ls.length<=5) (eR:(∀l∈ls,Bel m l)) (fw:0<=a0) (gT:a0<=1000) (jt:m<=4) (kx:∀(r:Addr)(aj:Hp)(ys:List V)(fss:List (List ZX)),H r=none->Zd H aj->aj r=some (.lst ys)->jq aj ys fss->ZdJ m ls fss->Q (.ref r) aj):DR T vs H Q cR
theorem DS{H:Hp}:∀{ys:List V}{fss:List (List ZX)}{v:V}{fs:List ZX},jq H ys fss->oY H v fs->jq H (ys++ [v]) (fss++ [fs])
 |_,_,_,_,.nil,h=> .cons h .nil
 |_,_,_,_,.cons x r,h=> .cons x (DS r h)
theorem DT{H:Hp}:∀{ys:List V}{fs:List ZX}{v:V}{f:ZX},Paired (kn H) ys fs->kn H v f->Paired (kn H) (ys++ [v]) (fs++ [f])
 |_,_,_,_,.nil,h=> .cons h .nil
 |_,_,_,_,.cons x r,h=> .cons x (DT r h)
theorem Zgt{is:List Nat}{f:Nat->Int}(h:∀i∈is,0<=f i/\f i<=1000):0<=(is.map f).sum/\(is.map f).sum<=1000*is.length:=by
 induction is with
 |nil=>simp
 |cons i is b_=>
  have a1:=b_ λj bP=>h j (qaj _ bP);have a2:=h i qaL;simp only[List.map_cons,qa7,List.length_cons];omega
theorem L3:OkN P w base 2 T.x4 (DR T):=by
 refine T.x4.F.okX nE (by walk_at "l") (λcD A outer s H vs Q E aC h=>?_)
 .have hu:=aC.hu;obtain⟨p,gC,ns,bs,ls,a0,m,gr,rfl,g5,dY,ks,c1,kt,dM,de,cK,bL,q⟩:=h;have ej:=c1.length;have hn:∀i<ls.length,Bel m (ls.getD i dB):=λi hi=>dM _ (by rw[cL hi];exact GE _);refine⟨_,(bN %[cA,5,nE.nd,fA bG|1]
     (bN (d4 PassesOwn.leaving rfl (g4 rfl T.h %[3|2]) (cr (i:=6) nE.nd rfl (Or.inr rfl)) (bN %[cA,7,nE.nd,dk (mK (K:=K) rfl rfl) (by rfl) T.A qaW %[ho (xs:=["_law_belt"]) rfl (eB (x:="_law_belt") (zs:=["_law_work"]) (ix:=[6]) (cs ul) ["_law_script","_law_at","_law_belts","_law_many","_law_great","_law_forms","_law_work","_law_slots","_law_given","_law_some","_law_k"] rfl rfl (by decide+kernel)) (eG (K:=K) rfl (pv 2)) (λcl C s H fp=>⟨%[cr,0,(show(["_law_belt","_law_work"]:List Str).Nodup by decide+kernel)|1],(rc (dW (gS (K:=K) rfl hu) %[0,bM|0] (pv 1) (dD _))),%[0,bM|0]⟩)|2]|1]
     (bN %[cA,8,nE.nd,dk (mK (K:=K) rfl rfl) (by rfl) T.A qaW %[ho (xs:=["_law_belt"]) rfl (eB (x:="_law_belt") (zs:=["_law_work"]) (ix:=[6]) (cs ul) ["_law_script","_law_at","_law_belts","_law_many","_law_great","_law_forms","_law_work","_law_slots","_law_given","_law_some","_law_k"] rfl rfl (by decide+kernel)) (eG (K:=K) rfl (pv 2)) (λcl C s H fp=>⟨%[cr,0,(show(["_law_belt","_law_work"]:List Str).Nodup by decide+kernel)|1],(rc (dW (gS (K:=K) rfl hu) %[0,bM|0] (pv 1) (dD _))),%[0,bM|0]⟩)|2]|1]
     (bN %[cA,9,nE.nd,fA bG|1]
     (bN (d4 PassesOwn.leaving rfl (g4 rfl T.h %[8|2]) %[cr,10,nE.nd|1] (bN (et (hA (K:=K) rfl qan qay qaz iy (pv 9) %[c2 T.x3 (LY T) aC cG %[c2 T.x0 (o3 T) aC cG %[0,1|2],7,4|2]|2]))
     (b0 %[cA,1,nE.nd,cm (eX K) (pv 1) bM|1])))
     (b0 (et (hA (K:=K) rfl qan qay qaz iy (pv 5) %[iv (tW (K:=K) rfl) (by rfl) T.m qaU %[9|2]|2]))))))))
     (b0 (c9 (pv 5))))),?_⟩
  walk_at "a"
  nofun;refine⟨qar _,λr aC=>?_⟩;have a':Zd H (upd H r (.lst [])):=cF aC;have jl:(upd H r (.lst [])) r=some (.lst []):=Ze;generalize upd H r (.lst [])=aA at*;nofun;refine YT (n:=m) (λi ao aj=>∃(ys:List V)(fss:List (List ZX))(a6 a7 a8 a9 hY:Option V)(at_:Int),ao=[some (.ref p),some (.int at_),some (.ref gC),some (.int m),some (.bl gr),some (.ref r),a6,a7,a8,a9,hY]/\Zd H aj/\aj r=some (.lst ys)/\jq aj ys fss/\fss.length=i/\(∀j<i,Dt ls j (fss.getD j []))/\a0<=at_/\at_<=a0+5000*i) ⟨[],[],_,_,_,_,_,a0,rfl,a',jl,.nil,rfl,λj bP=>absurd bP (qbS _),∅,∅⟩ ?_ ?_
  .rintro i ao aP hi ⟨ys,fss,a6,a7,a8,a9,hY,at_,rfl,bQ,gd,uU,iz,yr,eO,gl⟩;have L4:=bQ _ _ ks;have L5:=SqL.of (K:=K) L4;have h_:(0:Int)+(i:Int)=(i:Int):=by omega
   nofun;refine Z2 (own:=1) (eF L5).y (jm ∅) (λj=>[some (bs.getD j .non)]) (λ_=>rfl) (λj=>decide ((ls.getD j dB).taker=0+(i:Int))) (λj v _=>v= .int (ls.getD j dB).take) (λ_ _ _ _ _ z=>z) (λj c6 aj v b5 f7 hi bI y em k=>?_) (λj aj cQ hi bI k=>?_) (λhJ j aj cQ hi gR hp0 fP bI k=>?_) (λd b5 zs hd bI eu db=>?_)
   .obtain⟨rfl,rfl⟩:=y;obtain⟨x1,rfl⟩:∃x1,c6=[x1]:=by
     match c6,em with
     | [x1],_=>exact⟨x1,rfl⟩
    nofun;exact k _ (Zd.refl _)
   .obtain⟨t,dt,bY⟩:=c1.getD (show j<ls.length by omega);rw[dt];have jV:=bI _ _ (bQ _ _ bY);dsimp only[B5.v] at jV;nofun;exact k aj (Zd.refl aj)
   .obtain⟨t,dt,bY⟩:=c1.getD (show j<ls.length by omega);rw[dt];have jV:=bI _ _ (bQ _ _ bY);dsimp only[B5.v] at jV;nofun;exact k _ aj (Zd.refl aj) rfl
   .rw[ej] at db;have eA:=qb db;have L6:(((List.range ls.length).filter λj=>decide ((ls.getD j dB).taker=0+(i:Int))).map λj=>(ls.getD j dB).take).sum=slotN ls i:=by
     unfold slotN takeRow dz;rw[qaR,h_];rfl
    have Uo:0<=slotN ls i/\slotN ls i<=5000:=by
     have ay:=Zgt (is:=dz ls i) (f:=λj=>(ls.getD j dB).take) λj bP=>by
      have:=(hn j (oW bP)).few;have:=(hn j (oW bP)).sz;omega
     have aD:=UJ (ls:=ls) (w:=(i:Int));have cj:slotN ls i=((dz ls i).map λj=>(ls.getD j dB).take).sum:=by unfold slotN takeRow;rw[qaR];rfl
     rw[cj];omega
    have h3:=SqL.of (K:=K) (eA▸eu);have fx:=bQ.trans bI;have L7:=fx _ _ ks;have L8:=SqL.of (K:=K) L7;nofun;refine⟨d,_,rfl,h3,?_⟩;rw[L6];generalize L9:slotN ls (i:Int)=sn at*;nofun;refine Z2 (own:=1) (eF L8).y (jm ∅) (λj=>[some (bs.getD j .non)]) (λ_=>rfl) (λj=>decide ((ls.getD j dB).giver=0+(i:Int))) (λj v _=>v= .int (ls.getD j dB).give) (λ_ _ _ _ _ z=>z) (λj c6 aj v b5 f7 hi bI y em k=>?_) (λj aj cQ hi bI k=>?_) (λhJ j aj cQ hi gR hp0 fP bI k=>?_) (λhS bZ zs2 kM sm2 hl2' uV=>?_)
    .obtain⟨rfl,rfl⟩:=y;obtain⟨x1,rfl⟩:∃x1,c6=[x1]:=by
      match c6,em with
      | [x1],_=>exact⟨x1,rfl⟩
     nofun;exact k _ (Zd.refl _)
    .obtain⟨t,dt,bY⟩:=c1.getD (show j<ls.length by omega);rw[dt];have jV:=bI _ _ (fx _ _ bY);dsimp only[B5.v] at jV;nofun;exact k aj (Zd.refl aj)
    .obtain⟨t,dt,bY⟩:=c1.getD (show j<ls.length by omega);rw[dt];have jV:=bI _ _ (fx _ _ bY);dsimp only[B5.v] at jV;nofun;exact k _ aj (Zd.refl aj) rfl
    .rw[ej] at uV;have L_:=qb uV;have L':(((List.range ls.length).filter λj=>decide ((ls.getD j dB).giver=0+(i:Int))).map λj=>(ls.getD j dB).give).sum=Z9 ls i:=by
      unfold Z9 giveRow dR;rw[qaR,h_];rfl
     have Uq:0<=Z9 ls i/\Z9 ls i<=5000:=by
      have ay:=Zgt (is:=dR ls i) (f:=λj=>(ls.getD j dB).give) λj bP=>by
       have:=(hn j (p7 bP)).few;have:=(hn j (p7 bP)).sz;omega
      have aD:=UN (ls:=ls) (w:=(i:Int));have cj:Z9 ls i=((dR ls i).map λj=>(ls.getD j dB).give).sum:=by unfold Z9 giveRow;rw[qaR];rfl
      rw[cj];omega
     have Ma:=SqL.of (K:=K) (L_▸hl2');have hr:=fx.trans sm2;nofun;refine⟨hS,_,rfl,Ma,?_⟩;rw[L'];have DU:Z9 ls (i:Int)=Z9 ls (i:Int):=rfl;generalize f8:Z9 ls (i:Int)=gn at*;nofun;refine⟨qar _,λo b6=>?_⟩;have cB:Zd bZ (upd bZ o (.lst [])):=cF b6;have sj:(upd bZ o (.lst [])) o=some (.lst []):=Ze;have Ur:H o=none:=ft hr b6;generalize upd bZ o (.lst [])=b4 at*;have Ut:Zd aP b4:=(bI.trans sm2).trans cB;nofun;refine YT (n:=gn.toNat) (λj ao aj=>∃(vs:List V)(fs:List ZX)(hY:Option V),ao=[some (.ref p),some (.int (at_+j)),some (.ref gC),some (.int m),some (.bl gr),some (.ref r),some (.int (0+(i:Int))),some (.int sn),some (.int gn),some (.ref o),hY]/\Zd bZ aj/\aj o=some (.lst vs)/\Paired (kn aj) vs fs/\fs.length=j/\∀f∈fs,yf sn f) ⟨[],[],hY,by simp,cB,sj,.nil,rfl,by simp⟩ ?_ ?_
     .rintro j ao cZ bP ⟨vs,fs,Mb,rfl,c8,yt,uW,sk,yu⟩;have lc:=hr.trans c8;have yv:=lc.seq g5;have sm:=Paired.length uW;have Uv:vs.length<sizeLine:=jm ∅;nofun;refine⟨_,sn,gr,rfl,∅,∅,λu di f d5 bS DV=>?_⟩;have Mc:=d5 _ _ yt;nofun;have ie:df [o] di (upd di o (.lst (vs++ [.ref u]))):=gy (by simp) Mc (by intro _ z;cases z);have mT:at_+(j:Int)+1=at_+((j+1:Nat):Int):=by omega
      refine⟨vs++ [.ref u],fs++ [f],_,by rw[mT],(c8.trans d5).new b6,Ze,DT (Paired.mapP uW λ_ _ z=>(z.keep λb xs e=>d5 _ _ e).keep ie.tups) (bS.keep ie.tups),by simp[sk],λx ar=>?_⟩;rcases qaD.mp ar with z|z
      .exact yu x z
      .rw[qab.mp z];exact DV
     .rintro ao cZ ⟨vs,fs,Mb,rfl,c8,yt,uW,sk,yu⟩;have Md:=SqL.of (K:=K) yt;have yw:Zd aP cZ:=(bI.trans sm2).trans c8;have uX:=yw _ _ gd;have o5:=Paired.length uU;have Me:ys.length<sizeLine:=jm ∅;nofun;refine⟨o,vs,rfl,.inl ⟨Md,λo6 hw=>?_⟩⟩;have d5:Zd cZ (upd cZ o6 (.tup vs)):=cF hw;have o7:(upd cZ o6 (.tup vs)) o6=some (.tup vs):=Ze;generalize upd cZ o6 (.tup vs)=di at*;have so:=d5 _ _ uX;nofun;have ie:df [r] di (upd di r (.lst (ys++ [.ref o6]))):=gy (by simp) so (by intro _ z;cases z);refine⟨ys++ [.ref o6],fss++ [fs],_,_,_,_,_,_,rfl,(bQ.trans (yw.trans d5)).new aC,Ze,DS ((uU.keep λb xs e=>d5 _ _ (yw _ _ e)).keep ie.tups) ⟨o6,vs,rfl,ie.tups _ _ o7,Paired.mapP uW λ_ _ z=>(z.keep λb xs e=>d5 _ _ e).keep ie.tups⟩,by simp[iz],λj bP=>?_,∅,∅⟩;rcases qaV.mp bP with z|z
      .have:=yr j z;rw[cL (by rw[qag];omega),List.getElem_append_left ∅];rw[cL ∅] at this;exact this
      .subst z;rw[cL (by rw[qag];simp;omega),List.getElem_append_right ∅];simp only[iz,Nat.sub_self,List.getElem_cons_zero];refine⟨by rw[f8];omega,∅,?_⟩;rw[L9];exact yu
  .rintro ao aP ⟨ys,fss,a6,a7,a8,a9,hY,at_,rfl,bQ,gd,uU,iz,yr,eO,gl⟩;nofun;refine q r aP ys fss aC bQ gd uU ⟨∅,λw ey eL=>?_⟩;have:=yr w.toNat ∅
   rwa [qaB ey] at this
inductive DW(T:Tp K mg)(vs:List V)(H:Hp)(Q:VK)(cR:XK):Prop
 |mk (a b:Addr) (w:Int) (bs:List V) (rows:List B5) (hs:List Int) (de:vs=[.ref a,.ref b,.int w]) (cK:H a=some (.lst bs)) (cO:a≠b) (dm:ev H bs rows) (dI:H b=some (.lst (hs.map V.int))) (ef:hs.length=rows.length) (eR:rows.length<=1000) (fw:∀aj,df [b] H aj->aj b=some (.lst ((eY rows hs w).map V.int))->Q .non aj):DW T vs H Q cR
theorem DX:OkN P w base 1 T.x5 (DW T):=by
 refine T.x5.F.okX xH (by walk_at "l") (λcD A outer s H vs Q E aC h=>?_)
 .have hu:=aC.hu;obtain⟨a,b,w,bs,rows,hs,rfl,bK,ht,c1,au,ap,bU,q⟩:=h;have ej:=c1.length;refine⟨_,(b0 (d4 PassesOwn.leaving rfl (kh (K:=K) rfl rfl T.i %[0|2]) (e7 (K:=K) (n:=2) rfl rfl (c_ %[cr,3,xH.nd|1] (c_ %[cr,4,xH.nd|1] e0))) (bN (tO (dO (dW (gS (K:=K) rfl hu) %[4,bM|0] (pv 2) (dD _)) (b0 (hN (cm mv %[1,3|0] %[4,bM|0]) (iN (pv 1) (pv 3) iU))) dV))
     (b0 (dO (dW (gS (K:=K) rfl hu) %[4,bM|0] (pv 2) (dD _)) (b0 (hN (cm (eX K) %[1,3|0] %[4,bM|0]) (iN (pv 1) (pv 3) iU))) dV))))),?_⟩
  walk_at "a"
  nofun;refine Ym (H0:=k7 H a) (ki (xs:=bs) ?_) (λi ao aj=>df [b] H aj/\(∃a1 a2,ao=[some (.ref a),some (.ref b),some (.int w),a1,a2])/\aj b=some (.lst (((eY rows hs w).take i++hs.drop i).map V.int))) ⟨df.refl,⟨_,_,rfl⟩,by simpa using au⟩ (λi ao aj h=>Vb ?_) ?_ ?_
  .exact SqL.of (by rw[V7];exact bK)
  .rw[h.1.keep _ _ bK (by simpa using ht),bK]
  .rintro i ao aA v aP hi ⟨f1,⟨a1,a2,rfl⟩,fV⟩ ⟨t,bY,rfl,rfl⟩;have ds:i<rows.length:=by omega
   have qh:i<hs.length:=by omega
   obtain⟨u,e9,he⟩:=c1.at (fm ds);have c7:bs.getD i .non= .ref u:=by simp[List.getD,e9]
   rw[c7];refine Rd.Yv (.of Ze) rfl ?_;have bQ:Zd aA (upd aA t (.tup [.int i,.ref u])):=cF bY;have Uw:b≠t:=dh fV bY;generalize upd aA t (.tup [.int i,.ref u])=aP at*;have ig:=bQ _ _ fV;have ih:=bQ _ _ (f1.tups _ _ he);have f2:df [b] H aP:=f1.trans bQ.frame;have gA:=lN (rows:=rows) (hs:=hs) (w:=w) ap;have DY:=Uk (w:=w) ds qh ∅;have yx:((eY rows hs w).take i++hs.drop i)[i]? =some hs[i]:=by
    rw[qaS (by rw[qaI];omega),qaI,show i-min i (eY rows hs w).length=0 by omega,List.getElem?_drop];simp[qh]
   have fe:∀z,((eY rows hs w).take i++hs.drop i).set i z=(eY rows hs w).take i++z::hs.drop (i+1):=λz=>by
    rw[List.set_append_right _ _ (by rw[qaI];omega),qaI,show i-min i (eY rows hs w).length=0 by omega,List.drop_eq_getElem_cons qh]
    rfl
   have DZ:(eY rows hs w).take (i+1)++hs.drop (i+1)=(eY rows hs w).take i++(eY rows hs w)[i]'∅::hs.drop (i+1):=by
    rw[qac ∅,qbp]
    rfl
   rw[DZ,DY];clear DZ DY;have Mf:((eY rows hs w).take i++hs.drop i).length=hs.length:=by rw[qag,qaI,qcg];omega
   generalize (eY rows hs w).take i++hs.drop i=X at fV ig Mf yx fe;have gV:atI (X.map V.int) (i:Int)=some (.int hs[i]):=iT (by rw[qao,yx];rfl);have Ux:=SqL.of (K:=K) ig;generalize rows[i]=r at*;generalize hs[i]=b8 at*;dsimp only[B5.v] at ih;have Uy:(i:Int)<((X.map V.int).length:Int):=by rw[GM];omega
   nofun;have Mg:X.set i b8=X:=List.ext_getElem? λj=>by
    by_cases e:i=j
    .subst e;rw[qa1 ∅,yx]
    .rw[qbm e]
   refine Rd.cut (λb1 aj=>df [b] H aj/\b1=[some (.ref a),some (.ref b),some (.int w),some (.int i),some (.ref u)]/\aj b=some (.lst ((X.set i (b8-(if r.taker=w then r.take else 0))).map V.int))) ?k1 ?dF
   case dF=>
    nofun;refine Rd.ifD (λc=>?_) (λc=>?_)
    .nofun;rw[if_pos c];exact⟨f2.trans (gy (by simp) ig (by intro _ z;cases z)),rfl,by rw[Ze,qbc];rfl⟩
    .nofun;rw[if_neg c,Int.sub_zero,Mg];exact⟨f2,rfl,ig⟩
   case k1=>
    rintro b1 b5 ⟨da,rfl,lV⟩;have uY:b5 u=some (.tup [.int r.giver,.int r.taker,.int r.give,.int r.take,.int r.start]):=da.tups _ _ he;have Uz:=SqL.of (K:=K) lV;have UA:(X.set i (b8-(if r.taker=w then r.take else 0))).length=X.length:=qaP;have lW:atI ((X.set i (b8-(if r.taker=w then r.take else 0))).map V.int) (i:Int)=some (.int (b8-(if r.taker=w then r.take else 0))):=iT (by rw[qao,qa1 ∅];rfl);have UB:(i:Int)<(((X.set i (b8-(if r.taker=w then r.take else 0))).map V.int).length:Int):=by rw[GM];omega
    have nO:∀z,(X.set i (b8-(if r.taker=w then r.take else 0))).set i z=X.set i z:=λz=>List.set_set ..;have UF:X.set i (b8-(if r.taker=w then r.take else 0))=X.set i (b8-(if r.taker=w then r.take else 0)):=rfl;generalize q':X.set i (b8-(if r.taker=w then r.take else 0))=Y at*;nofun;refine Rd.ifD (λc=>?_) (λc=>?_)
    .nofun;refine⟨da.trans (gy (by simp) lV (by intro _ z;cases z)),⟨_,_,rfl⟩,?_⟩;rw[Ze,if_pos c,<-fe,<-nO,qbc]
     rfl
    .nofun;refine⟨da,⟨_,_,rfl⟩,?_⟩;rw[lV,if_neg c,Int.add_zero,<-fe,q']
  .rintro ao aA ⟨f1,⟨a1,a2,rfl⟩,fV⟩;nofun;have bJ:(eY rows hs w).take bs.length=eY rows hs w:=qa2 (by rw[lN ap];omega);have bX:hs.drop bs.length=[]:=List.drop_of_length_le ∅;rw[bJ,bX,qbl] at fV;exact q aA f1 fV
inductive D0(T:Tp K mg)(vs:List V)(H:Hp)(Q:VK)(cR:XK):Prop
 |mk (a b:Addr) (w:Int) (bs:List V) (rows:List B5) (hs:List Int) (de:vs=[.ref a,.ref b,.int w]) (cK:SqL K H a bs) (cO:ev H bs rows) (dm:SqL K H b (hs.map V.int)) (dI:hs.length=rows.length) (ef:rows.length<=1000) (eR:∀aj,Zd H aj->Q (.bl (fZ rows hs w)) aj):D0 T vs H Q cR
theorem Mh:OkN P w base 1 T.x6 (D0 T):=by
 refine T.x6.F.okX xI (by walk_at "l") (λcD A outer s H vs Q E aC h=>?_)
 .have hu:=aC.hu;obtain⟨a,b,w,bs,rows,hs,rfl,bK,c1,au,ap,bU,q⟩:=h;have ej:=c1.length;refine⟨_,(bN (d4 PassesOwn.leaving rfl (kh (K:=K) rfl rfl T.i %[0|2]) (e7 (K:=K) (n:=2) rfl rfl (c_ %[cr,3,xI.nd|1] (c_ %[cr,4,xI.nd|1] e0))) (b0 (dO (PW.pt (v3 (dW (gS (K:=K) rfl hu) %[4,bM|0] (pv 2) (dD _)) (v2 (dW tz %[1,3|0] %[4,bM|0] (dD _))))) (b0 (c9 Wr)) dV)))
     (b0 (c9 Wr))),?_⟩
  walk_at "a"
  nofun;refine Ym (ki bK) (λi ao aj=>Zd H aj/\(∃a1 a2,ao=[some (.ref a),some (.ref b),some (.int w),a1,a2])/\∀j r h,j<i->rows[j]? =some r->hs[j]? =some h->r.taker=w->r.take<=h) ⟨Zd.refl H,⟨_,_,rfl⟩,by intro j r h z;omega⟩ (λi ao aj h=>h.1) ?_ ?_
  .rintro i ao aA v aP hi ⟨a',⟨a1,a2,rfl⟩,bO⟩ ⟨t,bY,rfl,rfl⟩;have ds:i<rows.length:=by omega
   have qh:i<hs.length:=by omega
   have kl:rows[i]? =some rows[i]:=fm ds;have r':hs[i]? =some hs[i]:=fm qh;obtain⟨u,e9,he⟩:=c1.at kl;have c7:bs.getD i .non= .ref u:=by simp[List.getD,e9]
   have gV:atI (hs.map V.int) (i:Int)=some (.int hs[i]):=iT (by simp[qh]);rw[c7];refine Rd.Yv (.of Ze) rfl ?_;have bQ:Zd H (upd aA t (.tup [.int i,.ref u])):=a'.trans (cF bY);generalize upd aA t (.tup [.int i,.ref u])=aP at*;have ig:=bQ.seq au;have ih:=bQ _ _ he;generalize rows[i]=r at*;generalize hs[i]=b8 at*;dsimp only[B5.v] at ih;have step:(r.taker=w->r.take<=b8)->∀(j:Nat)(r:B5)(h:Int),j<i+1->rows[j]? =some r->hs[j]? =some h->r.taker=w->r.take<=h:=λg j c' h' bP a b=>by
    rcases qaV.mp bP with z|rfl
    .exact bO j c' h' z a b
    .rw[kl] at a;rw[r'] at b;cases a;cases b;exact g
   nofun;refine Rd.ifD (λc=>?_) (λc=>?_)
   .nofun;refine Rd.ifD (λd=>?_) (λd=>?_)
    .nofun;rw[<-xV i kl r' c d];exact q _ bQ
    .nofun;exact⟨bQ,⟨_,_,rfl⟩,step (λ_=>by omega)⟩
   .nofun;exact⟨bQ,⟨_,_,rfl⟩,step (λz=>absurd z c)⟩
  .rintro ao aj ⟨a',⟨a1,a2,rfl⟩,bO⟩;nofun;rw[<-xU (rows:=rows) (hs:=hs) (w:=w) λj r h a b=>bO j r h (by have:=(qad.mp a).1;omega) a b];exact q _ a'
inductive D1(T:Tp K mg)(vs:List V)(H:Hp)(Q:VK)(cR:XK):Prop
 |mk (b r c:Addr) (bs:List V) (ls:List B5) (rs ns:List Int) (de:vs=[.ref b,.ref r,.ref c]) (cK:H b=some (.lst bs)) (cO:ev H bs ls) (dm:ls.length<=1000) (dI:SqL K H r (rs.map V.int)) (ef:rs.length<=30) (eR:0<=rs.sum) (fw:rs.sum<=400) (gT:(∀r∈rs,0<=r)) (jt:SqL K H c (ns.map V.int)) (kx:ns.length<=63) (nP:∀(v:V)(aj:Hp),Zd H aj->(v= .non\/∃(ws:List Int)(a:Addr),v= .ref a/\ws.length<=400/\H a=none/\aj a=some (.lst (ws.map V.int))/\Ze5 ls rs ws)->Q v aj):D1 T vs H Q cR
theorem Mi:OkN P w base 2 T.x7 (D1 T):=by
 refine T.x7.F.okX oO (by walk_at "l") (λcD A outer s H vs Q E aC h=>?_)
 .have hu:=aC.hu;obtain⟨b,r,c,bs,ls,rs,ns,rfl,au,c1,o8,gW,la,jQ,hD,Mj,a_,Ml,q⟩:=h;have ej:=c1.length;have nQ:=SqL.of (K:=K) au;refine⟨_,(bN (cA (i:=3) oO.nd rfl (Or.inr rfl) (jM rfl (eB (x:="_law_belt") (zs:=[]) (ix:=[]) (cs um) ["_law_belts","_law_rates","_law_cells","_law_lying","_law_left","_law_row","_law_step","_law_some","_law_work"] rfl rfl (by decide+kernel)) (eG (K:=K) rfl (pv 0)) (λcl C s H fp=>⟨%[cr,0,(show(["_law_belt"]:List Str).Nodup by decide+kernel)|1],e5,%[0,bM|0]⟩)))
     (bN (cA (i:=4) oO.nd rfl (Or.inr rfl) (iv (lF (K:=K) rfl) (by rfl) T.j qaG %[1|2]))
     (bN %[cA,5,oO.nd,fA bG|1]
     (bN (d4 PassesOwn.leaving rfl (g4 rfl T.h %[dk (mK (K:=K) rfl rfl) (by rfl) T.A qaW %[1|2]|2]) %[cr,6,oO.nd|1] (bN (ru (j:=7) rfl (eB (x:="_law_work") (zs:=["_law_belts","_law_lying","_law_left"]) (ix:=[0,3,4]) (cs um) ["_law_belts","_law_rates","_law_cells","_law_lying","_law_left","_law_row","_law_step","_law_some","_law_work"] rfl rfl (by decide+kernel)) (g4 rfl T.h %[dk (fb K) (by rfl) T.f qal %[1|2]|2]) (λcl C s H fp=>⟨%[cr,0,(show(["_law_work","_law_belts","_law_lying","_law_left"]:List Str).Nodup by decide+kernel)|1],(rc (PW.pt (v3 (dW mw %[3,0|0] bM (dD _)) (v2 (fX (K:=K) rfl (c2 T.x6 (Mh T) aC WP %[1,2,0|2]) (λ_=>rfl)))))),(pv 0)⟩) oO.nd rfl (Or.inl rfl))
     (bN (dO (dW (gS (K:=K) rfl hu) (pv 7) (fA bG) (dD _)) (b0 (c9 Ue)) dV)
     (bN %[cA,8,oO.nd,%[7,cm eI (cm fo (cm eI (cm fh (c2 T.x0 (o3 T) aC cG %[2,6|2]) bM) bM) bM) (dk (fb K) (by rfl) T.f qal %[7|2])|0]|1]
     (bN (et (c2 T.x5 (DX T) aC cG %[0,3,8|2]))
     (bN (hN (cm mv %[4,8|0] bM) (iN (pv 4) (pv 8) iU))
     (b0 (et (hA (K:=K) rfl qan qay qaz iy (pv 5) %[8|2])))))))))
     (b0 (c9 (pv 5))))))),?_⟩
  walk_at "a"
  nofun;refine Yf (eF nQ) (ed ∅) (λ_=>true) (λi=> .int (ls.getD i dB).start) (λi aj cQ hi bI k=>?_) (λi aj cQ hi _ bI k=>?_) (λeT aA sr a' mX=>?_)
  .nofun;exact k aj (Zd.refl aj)
  .obtain⟨t,eC,dJ⟩:=c1.getD (i:=i) ∅;rw[eC];have fu:=bI _ _ dJ;generalize ls.getD i dB=bb at*;dsimp only[B5.v] at fu;nofun;exact k aj (Zd.refl aj)
  rw[Zbd ej] at mX;nofun;refine Rd.Vk (a'.seq gW) (λi1 yy=>?_);have bQ:Zd aA (upd aA i1 (.lst (rs.map V.int))):=cF yy;have D2:(upd aA i1 (.lst (rs.map V.int))) i1=some (.lst (rs.map V.int)):=Ze;generalize upd aA i1 (.lst (rs.map V.int))=aP at*;nofun;refine⟨qar _,λlf uZ=>?_⟩;have bV:Zd aP (upd aP lf (.lst [])):=cF uZ;have Mm:(upd aP lf (.lst [])) lf=some (.lst (([]:List Int).map V.int)):=Ze;generalize upd aP lf (.lst [])=b5 at*;have fx:=a'.trans (bQ.trans bV);have iK:=fx.seq gW;have yz:b≠eT:=λz=>by rw[z,sr] at au;cases au
  have su:eT≠i1:=dh mX yy;have uQ:eT≠lf:=dh (bQ _ _ mX) uZ;have u0:i1≠lf:=dh D2 uZ;have Mn:H i1=none:=ft a' yy;have D3:H lf=none:=ft (a'.trans bQ) uZ;nofun;refine Rd.Zgn iK ?_;nofun;refine YT (n:=rs.sum.toNat) (λi ao aj=>∃(ws hs d8:List Int)(a6 a7 a8:Option V),ao=[some (.ref b),some (.ref r),some (.ref c),some (.ref eT),some (.ref i1),some (.ref lf),a6,a7,a8]/\Zd H aj/\ws.length=i/\hs.length=ls.length/\d8.length=rs.length/\(goR rs.length ls (startsL ls) ws= .ok hs/\(∀w∈ws,0<=w/\w<(rs.length:Int))/\(∀v<rs.length,0<=d8.getD v 0)/\(∀v<rs.length,((ws.count (v:Int):Nat):Int)+d8.getD v 0=rs.getD v 0)/\d8.sum=rs.sum-(i:Int))/\aj eT=some (.lst (hs.map V.int))/\aj i1=some (.lst (d8.map V.int))/\aj lf=some (.lst (ws.map V.int))) ⟨[],startsL ls,rs,_,_,_,rfl,fx,rfl,sd,rfl,⟨rfl,by simp,λv cz=>Mj _ (by rw[cL cz];exact GE _),by simp,by simp⟩,bV _ _ (bQ _ _ mX),bV _ _ D2,Mm⟩ ?_ ?_
  .rintro i ao bZ hi ⟨ws,hs,d8,a6,a7,a8,rfl,cd,h4,gA,kt,db,o9,yA,yB⟩;have gc:=c1.keep λb xs e=>cd _ _ e;have lX:=cd _ _ au;have hq:=cd.seq gW;have nR:=cd.seq a_;have Mo:=SqL.of (K:=K) yA;have Mp:((rs.map V.int).length:Int)=(rs.length:Int):=by simp
   nofun;refine Yf Wf (ed (by simp;omega)) (λv=>decide (0<d8.getD v 0)&&fZ ls hs v) (λv=> .int (v:Int)) (λv aj cQ cz bI k=>?_) (λv aj cQ cz _ bI k=>?_) (λD4 b4 hso cB D5=>?_)
   .rw[qbb];have pJ:v<rs.length:=by simp at cz;exact cz
    have eZ:=Z1 (ns:=d8) (k:=(v:Int)) ∅ ∅;rw[GT] at eZ;have eu:=bI.seq Mo;nofun
    by_cases hd:0<d8.getD v 0
    .rw[decide_eq_true hd,qb0] at k;nofun;refine⟨b,eT,(v:Int),bs,ls,_,rfl,.of (bI _ _ lX),gc.keep (λb xs e=>bI _ _ e),.of (bI _ _ o9),gA,o8,λcZ c8=>?_⟩;nofun;exact k cZ c8
    .rw[decide_eq_false hd,Bool.false_and] at k;nofun;exact k aj (Zd.refl aj)
   .rw[qbb];nofun;exact k aj (Zd.refl aj)
   have yC:((List.range (((rs.map V.int).length:Nat):Int).toNat).filter λv=>decide (0<d8.getD v 0)&&fZ ls hs v).map (λv:Nat=>V.int (v:Int))=(((List.range rs.length).filter λv=>decide (0<d8.getD v 0)&&fZ ls hs v).map λv:Nat=>(v:Int)).map V.int:=by
    rw[GT,GM,qaR]
    rfl
   rw[yC] at D5;have lY:∀v∈(List.range rs.length).filter (λv=>decide (0<d8.getD v 0)&&fZ ls hs v),v<rs.length/\0<d8.getD v 0/\fZ ls hs v=true:=λv cz=>by
    have ay:=qa4.mp cz;rw[qbn,decide_eq_true_eq] at ay;exact⟨qax.mp ay.1,ay.2⟩
   have g_:((List.range rs.length).filter (λv=>decide (0<d8.getD v 0)&&fZ ls hs v)).length<=30:=qap (qbE _ _) (by rw[qbz];exact la);generalize (List.range rs.length).filter (λv=>decide (0<d8.getD v 0)&&fZ ls hs v)=fs at*;nofun;refine⟨qar _,λe b9=>?_⟩;have gM:Zd b4 (upd b4 e (.lst [])):=cF b9;have Mq:(upd b4 e (.lst [])) e=some (.lst (([]:List Int).map V.int)):=Ze;generalize upd b4 e (.lst [])=cZ at*;have Mr:=SqL.of (K:=K) (gM _ _ D5);have lU:=cB.trans gM;have lc:=cd.trans lU;refine Rd.Zot (fr.ints Mr) (fr.ints (SqL.of Mq)) (pV _) (pV _) (BB _) ?_;rw[Zg4];refine Rd.bl ?_
   by_cases z:fs=[]
   .rw[decide_eq_true (by rw[z];rfl)];nofun;exact q _ _ lc (.inl rfl)
   rw[decide_eq_false (λy=>z (List.map_eq_nil_iff.mp y))];have fp:0<((((fs.map λv:Nat=>(v:Int)).map V.int).length:Nat):Int):=by
    have:=List.length_pos_iff.mpr z;simp;omega
   have mU:=qa5 (cellX ns (0+(i:Int))*69621 % 2147483647 / 5) (show((((fs.map λv:Nat=>(v:Int)).map V.int).length:Nat):Int)≠0 by omega);have fg:=qa3 (cellX ns (0+(i:Int))*69621 % 2147483647 / 5) fp;obtain⟨w,hw,hn⟩:∃w∈fs,atI ((fs.map λv:Nat=>(v:Int)).map V.int) (cellX ns (0+(i:Int))*69621 % 2147483647 / 5 % ((((fs.map λv:Nat=>(v:Int)).map V.int).length:Nat):Int))=some (.int (w:Int)):=by
    generalize cellX ns (0+(i:Int))*69621 % 2147483647 / 5 % ((((fs.map λv:Nat=>(v:Int)).map V.int).length:Nat):Int)=ix at*;obtain⟨k,rfl⟩:=qaA mU;have bH:k<fs.length:=by simp at fg;omega
    exact⟨fs[k],GE bH,iT (by simp[bH])⟩
   obtain⟨Ms,uJ,sv⟩:=lY w hw;have D6:=lU.seq nR;have nS:=lU _ _ lX;have yD:=gc.keep λb xs e=>lU _ _ e;have Mt:=lU _ _ o9;have Mu:=lU _ _ yA;have Mv:=lU _ _ yB;nofun;refine⟨b,eT,(w:Int),bs,ls,_,rfl,nS,yz,yD,Mt,gA,o8,λdi mD Mw=>?_⟩;have u1:Zd H di:=λx o e=>mD.keep _ _ (lc _ _ e) (by simp;exact λy=>by rw[y,sr] at e;cases e);have Mx:=mD.keep _ _ Mu (by simpa using su.symm);have Mz:=mD.keep _ _ Mv (by simpa using uQ.symm);have UG:=SqL.of (K:=K) Mx;have eZ:=Z1 (ns:=d8) (k:=(w:Int)) ∅ ∅;rw[GT] at eZ;have UI:(w:Int)<((d8.map V.int).length:Int):=by rw[GM];omega
   have mY:(ws.map V.int).length<sizeLine:=ed (by rw[GM];omega);nofun;rw[GT,<-qbc];have yE:(d8.set w (d8.getD w 0-1)).length=rs.length:=by rw[qaP];exact kt
   have uV:=ZjI db kt Ms uJ sv;generalize d8.set w (d8.getD w 0-1)=l2 at*;have mZ:Zd H (upd di i1 (.lst (l2.map V.int))):=u1.new Mn;have MA:(upd di i1 (.lst (l2.map V.int))) eT=_:=(b3 su).trans Mw;have MB:(upd di i1 (.lst (l2.map V.int))) i1=_:=Ze;have UK:(upd di i1 (.lst (l2.map V.int))) lf=_:=(b3 u0.symm).trans Mz;generalize upd di i1 (.lst (l2.map V.int))=eJ at*;nofun;exact⟨ws++ [(w:Int)],_,l2,_,_,_,rfl,mZ.new D3,by simp[h4],by rw[lN gA];exact gA,yE,uV,(b3 uQ).trans MA,(b3 u0).trans MB,by rw[Ze,qaF];rfl⟩
  .rintro ao bZ ⟨ws,hs,d8,a6,a7,a8,rfl,cd,h4,gA,kt,db,o9,yA,yB⟩;nofun;exact q _ bZ cd (.inr ⟨ws,lf,rfl,∅,D3,yB,LH db kt ∅⟩)
inductive D7(T:Tp K mg)(vs:List V)(H:Hp)(Q:VK)(cR:XK):Prop
 |mk (b r:Addr) (bs:List V) (ls:List B5) (ws:List Int) (de:vs=[.ref b,.ref r]) (cK:H b=some (.lst bs)) (cO:ev H bs ls) (dm:ls.length<=100) (dI:(∀l∈ls,0<=l.start/\l.start<=1000/\0<=l.give/\l.give<=1000/\0<=l.take)) (ef:SqL K H r (ws.map V.int)) (eR:ws.length<=400) (fw:∀(rm:List Int)(a:Addr)(aj:Hp),rm.length=ls.length->(∀x∈rm,0<=x/\x<=500000)->(∀j<ls.length,(ls.getD j dB).start<=rm.getD j 0)->VR ls ws rm ws.length->H a=none->Zd H aj->aj a=some (.lst (rm.map V.int))->Q (.ref a) aj):D7 T vs H Q cR
theorem MC:OkN P w base 2 T.x8 (D7 T):=by
 refine T.x8.F.okX pY (by walk_at "l") (λcD A outer s H vs Q E aC h=>?_)
 .have hu:=aC.hu;obtain⟨b,r,bs,ls,ws,rfl,au,c1,o8,o_,m0,mY,q⟩:=h;have ej:=c1.length;have nQ:=SqL.of (K:=K) au;refine⟨_,(bN (ru (j:=2) rfl (eB (x:="_law_belt") (zs:=[]) (ix:=[]) (cs xm) ["_law_belts","_law_row","_law_lying","_law_found","_law_work","_law_k","_law_belt"] rfl rfl (by decide+kernel)) (eG (K:=K) rfl (pv 0)) (λcl C s H fp=>⟨%[cr,0,(show(["_law_belt"]:List Str).Nodup by decide+kernel)|1],e5,%[0,bM|0]⟩) pY.nd rfl (Or.inl rfl))
     (bN %[cA,3,pY.nd,iv (lF (K:=K) rfl) (by rfl) T.j qaG %[2|2]|1]
     (bN (d4 PassesOwn.leaving rfl (eG (K:=K) rfl (pv 1)) %[cr,4,pY.nd|1] (bN (d4 PassesOwn.leaving rfl (kh (K:=K) rfl rfl T.i %[0|2]) (e7 (K:=K) (n:=2) rfl rfl (c_ %[cr,5,pY.nd|1] (c_ %[cr,6,pY.nd|1] e0))) (b0 (dO (dW (gS (K:=K) rfl hu) %[6,bM|0] (pv 4) (dD _)) (b0 (hN (dk (Ik rfl) (by rfl) T.bE PyProof.Rows.boot_max %[%[3,5|0],cm (eX K) %[2,5|0] %[6,bM|0]|2]) (iN (pv 3) (pv 5) iU))) dV)))
     (b0 (et (c2 T.x5 (DX T) aC cG %[0,2,4|2])))))
     (b0 (c9 (pv 3)))))),?_⟩
  walk_at "a"
  nofun;refine Yf (eF nQ) (ed ∅) (λ_=>true) (λi=> .int (ls.getD i dB).start) (λi aj cQ hi bI k=>?_) (λi aj cQ hi _ bI k=>?_) (λeT aA sr a' mX=>?_)
  .nofun;exact k aj (Zd.refl aj)
  .obtain⟨t,eC,dJ⟩:=c1.getD (i:=i) ∅;rw[eC];have fu:=bI _ _ dJ;generalize ls.getD i dB=bb at*;dsimp only[B5.v] at fu;nofun;exact k aj (Zd.refl aj)
  rw[Zbd ej] at mX;nofun;refine Rd.Vk (.of mX) (λfd yF=>?_);have bQ:Zd aA (upd aA fd (.lst ((startsL ls).map V.int))):=cF yF;have MD:(upd aA fd (.lst ((startsL ls).map V.int))) fd=some (.lst ((startsL ls).map V.int)):=Ze;generalize upd aA fd (.lst ((startsL ls).map V.int))=aP at*;have gE:=a'.trans bQ;have yz:b≠eT:=λz=>by rw[z,sr] at au;cases au
  have su:eT≠fd:=dh mX yF;have yG:H fd=none:=ft a' yF;have UM:b≠fd:=λz=>by rw[z,yG] at au;cases au
  have dM:∀x∈startsL ls,0<=x/\x<=1000:=λx ar=>by
   obtain⟨l,ap,rfl⟩:=qaJ.mp ar;exact⟨(o_ l ap).1,(o_ l ap).2.1⟩
  nofun;refine Yr (eF m0) (λi ao aj=>∃(hs fs:List Int)(a4 a5 a6:Option V),ao=[some (.ref b),some (.ref r),some (.ref eT),some (.ref fd),a4,a5,a6]/\Zd H aj/\hs.length=ls.length/\fs.length=ls.length/\(∀x∈hs,x<=1000+1000*(i:Int))/\(∀x∈fs,0<=x/\x<=2000+1000*(i:Int))/\(hs=shG ls (startsL ls) (ws.take i)/\(∀j<ls.length,(ls.getD j dB).start<=fs.getD j 0)/\VR ls ws fs i)/\aj eT=some (.lst (hs.map V.int))/\aj fd=some (.lst (fs.map V.int))) ⟨startsL ls,startsL ls,_,_,_,rfl,gE,sd,sd,λx ar=>(by have:=dM x ar;omega),λx ar=>(by have:=dM x ar;omega),⟨rfl,λj bP=>(by simp[startsL,List.getD,bP]),λi hi=>absurd hi ∅⟩,bQ _ _ mX,MD⟩ (λ_ _ _ h=>by obtain⟨_,_,_,_,_,_,s,_⟩:=h;exact s) ?_ ?_
  .rintro i ao b5 hi ⟨hs,fs,a4,a5,a6,rfl,bV,gA,g_,mE,u2,dv,D8,yH⟩;have ju:i<ws.length:=by rw[GM] at hi;exact hi
   have m1:(ws.map V.int).getD i .non= .int (ws.getD i 0):=by rw[cL ju];simp[List.getD,ju]
   rw[m1];have ME:=ZkM (w:=ws.getD i 0) dv ju rfl;have tP:=dv.1;generalize ws.getD i 0=w at*;have lV:=bV _ _ au;nofun;refine Ym (H0:=k7 b5 b) (ki (xs:=bs) ?_) (λj ao aj=>∃(gs:List Int)(a5 a6:Option V),ao=[some (.ref b),some (.ref r),some (.ref eT),some (.ref fd),some (.int w),a5,a6]/\Zd H aj/\gs.length=ls.length/\(∀x∈gs,0<=x/\x<=2000+1000*(i:Int))/\((∀k<ls.length,fs.getD k 0<=gs.getD k 0)/\∀k<j,(ls.getD k dB).giver=w->hs.getD k 0+(ls.getD k dB).give<=gs.getD k 0)/\aj eT=some (.lst (hs.map V.int))/\aj fd=some (.lst (gs.map V.int))) ⟨fs,_,_,rfl,bV,g_,u2,⟨λ_ _=>Int.le_refl _,λk bH=>absurd bH ∅⟩,D8,yH⟩ (λj ao aj h=>Vb ?_) ?_ ?_
   .exact SqL.of (by rw[V7];exact lV)
   .obtain⟨_,_,_,_,s',_⟩:=h;rw[s' _ _ au,lV]
   .rintro j ao bZ v b4 bP ⟨gs,a5,a6,rfl,cd,hR,o',lP,o9,yI⟩ ⟨t,bY,rfl,rfl⟩;have fc:j<ls.length:=by omega
    obtain⟨u,e9,he⟩:=c1.at (fm fc);have c7:bs.getD j .non= .ref u:=by simp[List.getD,e9]
    rw[c7];refine Rd.Yv (.of Ze) rfl ?_;have cB:Zd bZ (upd bZ t (.tup [.int j,.ref u])):=cF bY;generalize upd bZ t (.tup [.int j,.ref u])=b4 at*;have fy:=cd.trans cB;have ih:=fy _ _ he;have sw:=cB _ _ o9;have D9:=cB _ _ yI;have UO:=o_ _ (GE fc);have yJ:=Zll (hs:=hs) (w:=w) lP fc hR;rw[cL fc] at yJ;have kj:=mE _ (show hs.getD j 0∈hs by rw[cL ∅];exact GE _);have kZ:=o' _ (show gs.getD j 0∈gs by rw[cL ∅];exact GE _);have eZ:=Z1 (ns:=hs) (k:=(j:Int)) ∅ ∅;have gV:=Z1 (ns:=gs) (k:=(j:Int)) ∅ ∅;rw[GT] at eZ gV;have hc:=SqL.of (K:=K) sw;have h8:=SqL.of (K:=K) D9;have MF:(j:Int)<((gs.map V.int).length:Int):=by rw[GM];omega
    generalize ls[j]=l at*;generalize hs.getD j 0=ar at*;generalize gs.getD j 0=pa at*;dsimp only[B5.v] at ih;nofun;refine Rd.ifD (λc=>?_) (λc=>?_)
    .nofun;refine⟨gs.set j (if ar+l.give > pa then ar+l.give else pa),_,_,rfl,fy.new yG,by rw[qaP];exact hR,λx kk=>?_,yJ.1 c,(b3 su).trans sw,by rw[Ze,qbc];rfl⟩;rcases List.mem_or_eq_of_mem_set kk with z|z
     .exact o' x z
     .split at z<;>omega
    .nofun;exact⟨gs,_,_,rfl,fy,hR,o',yJ.2 c,sw,D9⟩
   .rintro ao bZ ⟨gs,a5,a6,rfl,cd,hR,o',lP,o9,yI⟩;nofun;refine⟨b,eT,w,bs,ls,_,rfl,cd _ _ au,yz,c1.keep (λb xs e=>cd _ _ e),o9,gA,∅,λb4 gQ sw=>?_⟩;have fy:Zd H b4:=λx o e=>gQ.keep _ _ (cd _ _ e) (by simp;exact λy=>by rw[y,sr] at e;cases e);nofun;rw[ej] at lP;refine⟨_,gs,_,_,_,rfl,fy,by rw[lN gA];exact gA,hR,λx ar=>?_,λx ar=>?_,ME gs lP,sw,gQ.keep _ _ yI (by simpa using su.symm)⟩
    .obtain⟨⟨l,y⟩,bO,rfl⟩:=qaJ.mp ar;have eu:=o_ l (qb5 bO).1;have UQ:=mE y (qb5 bO).2;dsimp only
     split<;>split<;>omega
    .have:=o' x ar;omega
  .rintro ao b5 ⟨hs,fs,a4,a5,a6,rfl,bV,gA,g_,mE,u2,dv,D8,yH⟩;nofun;have e:(ws.map V.int).length=ws.length:=by simp
   rw[e] at dv u2;exact q fs fd b5 g_ (λx ar=>by have:=u2 x ar;omega) dv.2.1 dv.2.2 yG bV yH
inductive D_(T:Tp K mg)(vs:List V)(H:Hp)(Q:VK)(cR:XK):Prop
 |mk (b r e:Addr) (c:Int) (bs:List V) (ls:List B5) (rs ws:List Int) (de:vs=[.ref b,.ref r,.ref e,.int c]) (cK:H b=some (.lst bs)) (cO:ev H bs ls) (dm:ls.length<=100) (dI:Z0 ls rs.length) (ef:(∀l∈ls,0<=l.start/\l.start<=1000/\1<=l.give/\l.give<=1000/\0<=l.take)) (eR:SqL K H r (rs.map V.int)) (fw:(∀x∈rs,1<=x/\x<=3)) (gT:SqL K H e (ws.map V.int)) (jt:ws.length<=400) (kx:0<=c) (nP:∀(ms:List Int)(a:Addr)(aj:Hp),ms.length=ls.length->(∀x∈ms,x<=600000)->(∀j<ls.length,(ls.getD j dB).start<=ms.getD j 0)->VR ls ws ms ws.length->H a=none->Zd H aj->aj a=some (.lst (ms.map V.int))->Q (.ref a) aj):D_ T vs H Q cR
theorem MG:OkN P w base 3 T.x9 (D_ T):=by
 refine T.x9.F.okX pZ (by walk_at "l") (λcD A outer s H vs Q E aC h=>?_)
 .have hu:=aC.hu;obtain⟨b,r,e,c,bs,ls,rs,ws,rfl,au,c1,o8,dN,o_,gW,jp,b9,mY,mU,q⟩:=h;have ej:=c1.length;refine⟨_,(bN %[cA,4,pZ.nd,c2 T.x8 (MC T) aC cG %[0,2|2]|1]
     (bN (d4 PassesOwn.leaving rfl (kh (K:=K) rfl rfl T.i %[0|2]) (e7 (K:=K) (n:=2) rfl rfl (c_ %[cr,5,pZ.nd|1] (c_ %[cr,6,pZ.nd|1] e0))) (bN %[cA,7,pZ.nd,cm fh %[6,bM|0] %[1,%[6,bM|0]|0]|1]
     (b0 (dO (dW mw (cm eI (cm fo (pv 3) (cm (eX K) bM (pv 5))) bM) bM (dD _)) (bN %[cA,8,pZ.nd,cm fo (cm mv (cm (eX K) %[4,5|0] (pv 7)) bM) (pv 7)|1]
     (b0 (hN (cm fh (cm (eX K) (pv 8) (cm eI (cm fo (pv 3) (cm (eX K) bM (pv 5))) bM)) (pv 7)) (iN (pv 4) (pv 5) iU)))) (b0 (dO (dW (gS (K:=K) rfl hu) (cm eI (cm fo (pv 3) (cm (eX K) bM (pv 5))) bM) bM (dD _)) (b0 (hN (cm (eX K) %[4,5|0] (cm eI (cm fo (pv 3) (cm (eX K) bM (pv 5))) bM)) (iN (pv 4) (pv 5) iU))) dV))))))
     (b0 (c9 (pv 4))))),?_⟩
  walk_at "a"
  nofun;refine⟨b,e,bs,ls,ws,rfl,au,c1,o8,λl bL=>(by have:=o_ l bL;omega),b9,mY,λrm a aA fO k_ dM qc bK a' uP=>?_⟩;have fV:=a' _ _ au;nofun;refine Ym (H0:=k7 aA b) (ki (xs:=bs) ?_) (λj ao aj=>∃(fs:List Int)(a5 a6 a7 a8:Option V),ao=[some (.ref b),some (.ref r),some (.ref e),some (.int c),some (.ref a),a5,a6,a7,a8]/\Zd H aj/\fs.length=ls.length/\(∀k<ls.length,rm.getD k 0<=fs.getD k 0/\fs.getD k 0<=600000/\(j<=k->fs.getD k 0=rm.getD k 0))/\aj a=some (.lst (fs.map V.int))) ⟨rm,_,_,_,_,rfl,a',fO,λk bH=>⟨Int.le_refl _,by have:=k_ _ (show rm.getD k 0∈rm by rw[cL ∅];exact GE _);omega,λ_=>rfl⟩,uP⟩ (λj ao aj h=>Vb ?_) ?_ ?_
  .exact SqL.of (by rw[V7];exact fV)
  .obtain⟨_,_,_,_,_,_,s',_⟩:=h;rw[s' _ _ au,fV]
  .rintro j ao bZ v b4 bP ⟨fs,a5,a6,a7,a8,rfl,cd,g_,ky,uR⟩ ⟨t,bY,rfl,rfl⟩;have fc:j<ls.length:=by omega
   obtain⟨u,e9,he⟩:=c1.getD (i:=j) fc;rw[e9];refine Rd.Yv (.of Ze) rfl ?_;have cB:Zd bZ (upd bZ t (.tup [.int j,.ref u])):=cF bY;generalize upd bZ t (.tup [.int j,.ref u])=b4 at*;have fy:=cd.trans cB;have ih:=fy _ _ he;have D':=cB _ _ uR;have UR:=SqL.of (K:=K) D';have lZ:=fy.seq gW;have kz:ls.getD j dB∈ls:=by rw[cL fc];exact GE _
   have nq:=dN _ kz;have Ea:=o_ _ kz;have Eb:=ky j fc;have UT:=k_ _ (show rm.getD j 0∈rm by rw[cL ∅];exact GE _);have nx:∀y:Int,rm.getD j 0<=y->y<=600000->∀k<ls.length,rm.getD k 0<=(fs.set j y).getD k 0/\(fs.set j y).getD k 0<=600000/\(j+1<=k->(fs.set j y).getD k 0=rm.getD k 0):=λy lK iF k bH=>by
    rw[cL (show k<(fs.set j y).length by rw[qaP];omega),qbB]
    by_cases z:j=k
    .subst z;rw[if_pos rfl];exact⟨lK,iF,λz=>by omega⟩
    .rw[if_neg z];have:=ky k bH;rw[cL (show k<fs.length by omega)] at this;exact⟨this.1,this.2.1,λy=>this.2.2 ∅⟩
   have MH:∀k<ls.length,rm.getD k 0<=fs.getD k 0/\fs.getD k 0<=600000/\(j+1<=k->fs.getD k 0=rm.getD k 0):=λk bH=>⟨(ky k bH).1,(ky k bH).2.1,λz=>(ky k bH).2.2 ∅⟩;have gV:=Z1 (ns:=fs) (k:=(j:Int)) ∅ ∅;rw[GT,Eb.2.2 (qaa _)] at gV;clear Eb ky;generalize rm.getD j 0=dX at*;generalize ls.getD j dB=bb at*;have m0:=jp _ (show rs.getD bb.giver.toNat 0∈rs by rw[cL ∅];exact GE _);have eZ:=Z1 (ns:=rs) (k:=bb.giver) ∅ ∅;generalize rs.getD bb.giver.toNat 0=e' at*;have lR:IntMulOk bb.give e':=mulI (n:=10) (m:=10) ∅ ∅ (by decide);have g1:1*1<=bb.give*e':=qbD ∅ ∅ ∅ ∅;have g2:bb.give*e'<=1000*3:=qbD ∅ ∅ ∅ ∅;have i_:0<3+(j:Int)/\(3+(j:Int)).natAbs.log2<9000:=⟨∅,iH ∅ ∅⟩;have hS:0<11+(j:Int)/\(11+(j:Int)).natAbs.log2<9000:=⟨∅,iH ∅ ∅⟩;have L1:0<5+(j:Int)/\(5+(j:Int)).natAbs.log2<9000:=⟨∅,iH ∅ ∅⟩;have UU:0<7+(j:Int)/\(7+(j:Int)).natAbs.log2<9000:=⟨∅,iH ∅ ∅⟩;have MI:(j:Int)<((fs.map V.int).length:Int):=by rw[GM];omega
   dsimp only[B5.v] at ih;nofun;have UW:0<bb.give*e'/\(bb.give*e').natAbs.log2<9000:=⟨∅,iH ∅ ∅⟩;generalize bb.give*e'=iG at*;refine Rd.ifD (λf1=>?_) (λf1=>?_)
   .have x0:0<=c / (11+(j:Int)) % 2/\c / (11+(j:Int)) % 2<=1:=by omega
    have kA:=Znf (rm:=dX) (g:=iG) (x:=c / (11+(j:Int)) % 2) ∅ ∅ x0.1 x0.2;have nt:0<=(dX+iG-1) / iG:=Int.ediv_nonneg ∅ ∅;have cJ:(dX+iG-1) / iG<=dX+iG-1:=Int.ediv_le_self _ ∅;have MJ:IntMulOk ((dX+iG-1) / iG+c / (11+(j:Int)) % 2) iG:=mulI (n:=30) (m:=20) ∅ ∅ (by decide);nofun;generalize ((dX+iG-1) / iG+c / (11+(j:Int)) % 2)*iG=y at*;exact⟨fs.set j y,_,_,_,_,rfl,fy.new bK,by rw[qaP];exact g_,nx y kA.1 ∅,by rw[Ze,qbc];rfl⟩
   .nofun;refine Rd.ifD (λf2=>?_) (λf2=>?_)
    .have x0:0<=c / (7+(j:Int)) % 3/\c / (7+(j:Int)) % 3<=2:=by omega
     nofun;generalize c / (7+(j:Int)) % 3=y at*;exact⟨fs.set j (dX+y),_,_,_,_,rfl,fy.new bK,by rw[qaP];exact g_,nx (dX+y) ∅ ∅,by rw[Ze,qbc];rfl⟩
    .nofun;exact⟨fs,_,_,_,_,rfl,fy,g_,MH,D'⟩
  .rintro ao bZ ⟨fs,a5,a6,a7,a8,rfl,cd,g_,ky,uR⟩;nofun;refine q fs a bZ g_ (λx ar=>?_) (λj bP=>Int.le_trans (dM j bP) (ky j bP).1) (qc.up λj bP=>(ky j bP).1) bK cd uR;obtain⟨k,bH,rfl⟩:=qaq ar;have:=(ky k ∅).2.1
   rwa [cL bH] at this
inductive Ec(T:Tp K mg)(vs:List V)(H:Hp)(Q:VK)(cR:XK):Prop
 |mk (b r c:Addr) (bs:List V) (ls:List B5) (rs ms:List Int) (de:vs=[.ref b,.ref r,.ref c]) (cK:H b=some (.lst bs)) (cO:ev H bs ls) (dm:ls.length<=60) (dI:Z0 ls rs.length) (ef:(∀l∈ls,1<=l.give/\l.give<=1000)) (eR:SqL K H r (rs.map V.int)) (fw:(∀x∈rs,1<=x/\x<=1000)) (gT:SqL K H c (ms.map V.int)) (jt:ms.length=ls.length) (kx:(∀x∈ms,1<=x/\x<=1000000)) (nP:∀aj,Zd H aj->Q (.int (lapsL ms (givL ls rs) ms.length:Nat)) aj):Ec T vs H Q cR
theorem MK:OkN P w base 2 T.aZ (Ec T):=by
 refine T.aZ.F.okX p0 (by walk_at "l") (λcD A outer s H vs Q E aC h=>?_)
 .have hu:=aC.hu;obtain⟨b,r,c,bs,ls,rs,ms,rfl,au,c1,o8,dN,bR,gW,jp,a_,hC,kB,q⟩:=h;have ej:=c1.length;have l0:=ZcR dN bR jp;have hR:(givL ls rs).length=ms.length:=by rw[ZaZ,hC]
  refine⟨_,(bN %[cA,3,p0.nd,bM|1]
     (bN (d4 PassesOwn.leaving rfl (kh (K:=K) rfl rfl T.i %[0|2]) (e7 (K:=K) (n:=2) rfl rfl (c_ %[cr,4,p0.nd|1] (c_ %[cr,5,p0.nd|1] e0))) (bN %[cA,6,p0.nd,cm fo %[2,4|0] (c2 T.x1 (uO T) aC cG %[%[2,4|0],cm fh %[5,bM|0] %[1,%[5,bM|0]|0]|2])|1]
     (b0 %[cA,3,p0.nd,cm fh (cm fo (pv 3) (c2 T.x1 (uO T) aC cG %[3,6|2])) (pv 6)|1])))
     (b0 (c9 (pv 3))))),?_⟩
  walk_at "a"
  nofun;refine Ym (ki (xs:=bs) (SqL.of au)) (λi ao aj=>Zd H aj/\∃a4 a5 a6,ao=[some (.ref b),some (.ref r),some (.ref c),some (.int (lapsL ms (givL ls rs) i:Nat)),a4,a5,a6]) ⟨Zd.refl _,_,_,_,rfl⟩ (λi ao aj h=>h.1) ?_ ?_
  .rintro i ao bZ v b4 hi ⟨cd,a4,a5,a6,rfl⟩ ⟨t,bY,rfl,rfl⟩;have ds:i<ls.length:=by omega
   obtain⟨u,e9,he⟩:=c1.getD (i:=i) ds;rw[e9];refine Rd.Yv (.of Ze) rfl ?_;have cB:Zd bZ (upd bZ t (.tup [.int i,.ref u])):=cF bY;generalize upd bZ t (.tup [.int i,.ref u])=b4 at*;have fy:=cd.trans cB;have ih:=fy _ _ he;have lZ:=fy.seq gW;have sx:=fy.seq a_;have ar:=kB _ (show ms.getD i 0∈ms by rw[cL ∅];exact GE _);have bW:=l0 _ (show(givL ls rs).getD i 0∈givL ls rs by rw[cL ∅];exact GE _);have dw:=ZaG (ms:=ms) (gs:=givL ls rs) (λx ar=>(kB x ar).2) i ∅;have yK:lapsL ms (givL ls rs) (i+1)=Zff (lapsL ms (givL ls rs) i) (ms.getD i 0).toNat ((givL ls rs).getD i 0).toNat:=rfl;rw[yK];have Ed:(givL ls rs).getD i 0=(ls.getD i dB).give*rs.getD (ls.getD i dB).giver.toNat 0:=by simp[givL,List.getD,ds]
   rw[Ed];rw[Ed] at bW;have gV:=Z1 (ns:=ms) (k:=(i:Int)) ∅ ∅;rw[GT] at gV;have kz:ls.getD i dB∈ls:=by rw[cL ds];exact GE _
   have nq:=dN _ kz;have Ea:=bR _ kz;generalize ls.getD i dB=bb at*;have m0:=jp _ (show rs.getD bb.giver.toNat 0∈rs by rw[cL ∅];exact GE _);have eZ:=Z1 (ns:=rs) (k:=bb.giver) ∅ ∅;generalize rs.getD bb.giver.toNat 0=e' at*;have UX:IntMulOk bb.give e':=mulI (n:=10) (m:=10) ∅ ∅ (by decide);obtain⟨x,ex⟩:=qaA (show 0<=ms.getD i 0 by omega);obtain⟨y,eA⟩:=qaA (show 0<=bb.give*e' by omega);rw[ex] at ar gV;rw[eA] at bW;rw[ex,eA,GT,GT];generalize lapsL ms (givL ls rs) i=l at*;have lL:0<Nat.gcd x y:=qbd _ ∅;have gq:Nat.gcd x y<=x:=Nat.gcd_le_left _ ∅;have ML:0<((Nat.gcd x y:Nat):Int)/\((Nat.gcd x y:Nat):Int).natAbs.log2<9000:=⟨∅,iH ∅ ∅⟩;have u3:0<x / Nat.gcd x y:=qbV (qbk ∅ (qbi ..)) lL;have MM:x / Nat.gcd x y<=x:=qaN _ _;dsimp only[B5.v] at ih;nofun;rw[eA];refine⟨x,y,rfl,?_⟩;nofun;have dt:(x:Int) / ((Nat.gcd x y:Nat):Int)=((x / Nat.gcd x y:Nat):Int):=rfl;rw[dt];unfold Zff;generalize x / Nat.gcd x y=pt at*;refine⟨l,pt,rfl,?_⟩;have g2:0<Nat.gcd l pt:=qb1 _ u3;have g3:Nat.gcd l pt<=pt:=Nat.gcd_le_right _ u3;have UY:0<((Nat.gcd l pt:Nat):Int)/\((Nat.gcd l pt:Nat):Int).natAbs.log2<9000:=⟨∅,iH ∅ ∅⟩;have dl:l / Nat.gcd l pt<=l:=qaN _ _;have lR:IntMulOk ((l:Int) / ((Nat.gcd l pt:Nat):Int)) (pt:Int):=mulI (n:=20*i+1) (m:=20) (by show(((l / Nat.gcd l pt:Nat):Int)).natAbs<_;rw[qbw];exact qaM dl dw) (by rw[qbw];omega) ∅;nofun;exact⟨fy,_,_,_,rfl⟩
  .rintro ao bZ ⟨cd,a4,a5,a6,rfl⟩;rw[ej,<-hC];nofun;exact q bZ cd
inductive Ee(T:Tp K mg)(vs:List V)(H:Hp)(Q:VK)(cR:XK):Prop
 |mk (x:Str) (de:vs=[.str x]) (cK:x.length<=sizeLine) (cO:∀aj,Zd H aj->Q (.bl (hU x)) aj):Ee T vs H Q cR
noncomputable def letter (c:Nat):Bool:=decide (97<=c)&&decide (c<=122)
theorem Ef(c d:Nat):decide ((⟨#[c]⟩:Str).cps.toList<(⟨#[d]⟩:Str).cps.toList)=decide (c<d):=by
 show decide ([c]< [d])=decide (c<d);have e:([c]< [d])↔c<d:=by
  constructor
  .intro h;cases h with
   |rel h=>exact h
   |cons h=>cases h
  .exact λh=> .rel h
 by_cases h:c<d
 .rw[decide_eq_true h,decide_eq_true (e.mpr h)]
 .rw[decide_eq_false h,decide_eq_false (λz=>h (e.mp z))]
theorem MN:("a" :Str)=⟨#[97]⟩:=by decide+kernel
theorem MO:("z" :Str)=⟨#[122]⟩:=by decide+kernel
theorem Zjt(x:Str):(((List.range x.cps.size).map λi=>letter (x.cps.getD i 0)).all id)=x.cps.toList.all letter:=by
 rw[List.all_map,qbH,qbo,qbo]
 constructor
 .intro h c a_;obtain⟨i,hi,rfl⟩:=qaq a_;have eQ:i<x.cps.size:=by simpa using hi
  have:=h i (qax.mpr eQ);simpa[Array.getD,eQ] using this
 .intro h i hi;have eQ:=qax.mp hi;have:=h x.cps[i] (by simp);simpa[Array.getD,eQ] using this
theorem Zcp(x:Str):hU x=(decide (1<=x.length)&&decide (x.length<=8)&&x.cps.toList.all letter):=rfl
theorem MP:OkN P w base 1 T.a0 (Ee T):=by
 refine T.a0.F.okX KC (by walk_at "l") (λcD A outer s H vs Q E aC h=>?_)
 .have hu:=aC.hu;obtain⟨x,rfl,ar,q⟩:=h;refine⟨_,(bN (dO (hh (fX (K:=K) rfl (dk (kT (K:=K) rfl) (by rfl) T.g qat %[0,jA (v:= .ty "str") (by rfl) T.bF PyProof.Rows.boot_str rfl|2]) (λ_=>rfl))) (b0 (c9 Wr)) dV)
     (bN (dO (PW.pt (jB (dW tz (dk (fb K) (by rfl) T.f qal %[0|2]) bM (dD _)) (mq (dW mw (dk (fb K) (by rfl) T.f qal %[0|2]) (ng (v:= .int 8) rfl T.M ⟨_,rfl⟩) (dD _))))) (b0 (c9 Wr)) dV)
     (b0 (c9 (dk (rL (K:=K) rfl rfl) (by rfl) T.R qbG %[jM rfl (eB (x:="sign") (zs:=[]) (ix:=[]) (cs xn) ["thing"] rfl rfl (by decide+kernel)) (Jn (pv 0)) (λcl C s H fp=>⟨%[cr,0,(show(["sign"]:List Str).Nodup by decide+kernel)|1],e5,(Ih Bv Bv Yo (pv 0) Yo)⟩)|2]))))),?_⟩
  walk_at "a"
  nofun;refine Zbh (λc=>?_) (λc=>?_)
  .have d7:¬1<=x.length:=by simp at c;omega
   nofun;have e:hU x=false:=by rw[Zcp,decide_eq_false d7];rfl
   rw[<-e];exact q H (Zd.refl H)
  .have d7:1<=x.length:=by simp at c;omega
   nofun;refine Zbh (λd=>?_) (λd=>?_)
   .have d':¬x.length<=8:=by simp at d;omega
    nofun;have e:hU x=false:=by rw[Zcp,decide_eq_false d',Bool.and_false];rfl
    rw[<-e];exact q H (Zd.refl H)
   .have d':x.length<=8:=by simp at d;omega
    have b':x.cps.size<sizeLine:=ed (by have:x.cps.size=x.length:=rfl;omega);nofun;refine Yf Zj8 b' (λ_=>true) (λi=> .bl (letter (x.cps.getD i 0))) (λi aj cQ hi bI k=>?_) (λi aj cQ hi _ bI k=>?_) (λp aj bO bI ap=>?_)
    .nofun;exact k aj (Zd.refl aj)
    .nofun;rw[MN,MO,Ef];generalize x.cps.getD i 0=cc at k|-;refine Zbh (λz=>?_) (λz=>?_)
     .nofun;have e:(!decide (122<cc))=letter cc:=by
       have gY:97<=cc:=by simpa using z
       unfold letter;rw[decide_eq_true gY,qb0]
       by_cases y:cc<=122
       .rw[decide_eq_true y,decide_eq_false ∅];rfl
       .rw[decide_eq_false y,decide_eq_true ∅];rfl
      rw[Ef,e];exact k aj (Zd.refl aj)
     .have e:false=letter cc:=by
       have gY:¬97<=cc:=by simpa using z
       unfold letter;rw[decide_eq_false gY];rfl
      rw[e];exact k aj (Zd.refl aj)
    .have eu:aj p=some (.lst (((List.range x.cps.size).map λi=>letter (x.cps.getD i 0)).map V.bl)):=by
      rw[ap,qak.mpr (by simp),qaR];rfl
     nofun;rw[Zjt];have e:x.cps.toList.all letter=hU x:=by rw[Zcp,decide_eq_true d7,decide_eq_true d'];rfl
     rw[e];exact q aj bI
inductive yL(vs:List V)(H:Hp)(Q:VK)(E:XK):Prop
 |mk (p:Addr) (x:Str) (ap:HM) (fp:List Addr) (de:vs=[.ref p,.str x]) (cK:dr T H p ap fp) (cO:x.length<=sizeLine) (dm:ap.names.length<=1000) (dI:(hU x=false->∀aj,Zd H aj->E (.ref T.aB) none aj)) (ef:(hU x=true->x∈ap.names->∀aj,Zd H aj->E (.ref T.aM) none aj)) (eR:(hU x=true->x∉ap.names->30<=ap.names.length->∀aj,Zd H aj->E (.ref T.N) none aj)) (fw:(hU x=true->x∉ap.names->ap.names.length<30->∀(aj:Hp)(el:List Addr),dr T aj p ⟨ap.names++ [x],ap.belts⟩ el->df fp H aj->V0 fp el H->Q (.int ap.names.length) aj)):yL vs H Q E
theorem U6{T:Tp K mg}{H:Hp}{Q:VK}{E:XK}{p:Addr}{x:Str}{ap:HM}{fp:List Addr}(h:dr T H p ap fp)(b':hU x=true)(ar:x∉ap.names)(dY:ap.names.length<30)
  (q:∀(aj:Hp)(el:List Addr),dr T aj p ⟨ap.names++ [x],ap.belts⟩ el->df fp H aj->V0 fp el H->Q (.int ap.names.length) aj):yL T (.ref p::([.str x]++ [])) H Q E:=by
 have pb:x.length<=sizeLine:=by
  have:x.length<=8:=by
   have e:=b';unfold hU at e;simp only[qbn,decide_eq_true_eq] at e;exact e.1.2
  exact qbh (ed ∅)
 exact⟨p,x,ap,fp,rfl,h,pb,∅,λz=>(by rw[b'] at z;cases z),λ_ z=>absurd z ar,λ_ _ z=>absurd z ∅,λ_ _ _=>q⟩
theorem yM:OkM P w mg base 2 T.aF (yL T):=by
 have gf:=T.a;have gg:=T.c;refine T.aF.F.okX C4 (by walk_at "l") (λcD A outer s H vs Q E aC h=>?_)
 .have hu:=aC.hu;obtain⟨p,x,ap,fp,rfl,b8,ar,bU,bJ,bX,dn,q⟩:=h;obtain⟨dx,a,b,bs,rfl,ay,aD,cj,cS,ht,dq⟩:=id b8;have qi:p≠a:=e_ ay cj (by intro z;cases z);have yN:dx≠a:=e_ aD cj (by intro z;cases z);refine⟨_,(bN (dO (hh (fX (K:=K) rfl (c2 T.a0 (MP T) aC cG %[1|2]) (λ_=>rfl))) (b0 (hm T.Y.g T.Y.e qai rfl %[Yo|2])) dV)
     (bN (dO (dW (Jv hu) (pv 1) (fW (K:=K) rfl (pv 0) rfl) (by with_unfolding_all rfl)) (b0 (hm T.ak.g T.ak.e qai rfl %[Yo|2])) dV)
     (bN (dO (dW q4 (dk Zjf (by rfl) T.f qal %[fW (K:=K) rfl (pv 0) rfl|2]) (ng (v:= .int 30) rfl T.O ⟨_,rfl⟩) (dD _)) (b0 (hm T.D.g T.D.e qai rfl %[Yo|2])) dV)
     (bN %[cA,2,C4.nd,dk Zjf (by rfl) T.f qal %[fW (K:=K) rfl (pv 0) rfl|2]|1]
     (bN (hN (pv 2) (iN (fW (K:=K) rfl (pv 0) rfl) (pv 1) (tX hu)))
     (b0 (c9 (pv 2)))))))),?_⟩
  walk_at "a"
  nofun;refine⟨x,rfl,ar,λaA hZ=>?_⟩;have g1:=hZ _ _ ay;have g3:=hZ _ _ cj;have kU:(numsOf ap.names).length<sizeLine:=ed (by rw[UL];exact bU);nofun;cases b':hU x with
  |false=>
   nofun;exact bJ b' aA hZ
  |true=>
   nofun;rw[ZfP];refine Zbh (λc=>?_) (λc=>?_)
   .nofun;exact bX b' (of_decide_eq_true c) aA hZ
   .have d7:x∉ap.names:=λz=>c (decide_eq_true z);nofun;rw[UL];refine Zbh (λd=>?_) (λd=>?_)
    .have d':30<=ap.names.length:=by simp at d;omega
     nofun;exact dn b' d7 d' aA hZ
    .have d':ap.names.length<30:=by simp at d;omega
     nofun;rw[UL,Lj d7];have ei:df [p,dx,a,b] H (upd aA a (.dK (numsOf (ap.names++ [x])))):=hZ.frame.trans (gy (by simp) g3 (by intro _ z;cases z));refine q b' d7 d' _ [p,dx,a,b] ⟨dx,a,b,bs,rfl,?_,?_,Ze,?_,ht,dq.keep ei.tups⟩ ei V0.refl
     .rw[b3 qi];exact g1
     .rw[b3 yN];exact hZ _ _ aD
     .rw[b3 ht.symm];exact hZ _ _ cS
inductive V9(T:Tp K mg)(vs:List V)(H:Hp)(Q:VK)(cR:XK):Prop
 |mk (i:Int) (de:vs=[.int i]) (cK:Q (.bl true) H):V9 T vs H Q cR
theorem ZhF{T:Tp K mg}{H:Hp}{Q:VK}{E:XK}{i:Int}(q:Q (.bl true) H):V9 T ([.int i]++ []) H Q E:=⟨i,rfl,q⟩
local macro_rules| `(tactic|walk_at "rd")=>`(tactic|first|((with_reducible show _N.V9 _ _ _ _ _);with_reducible refine _N.ZhF ?_)|fail "none here")
theorem MQ:OkN P w base 1 T.a1 (V9 T):=by
 refine T.a1.F.okX KD (by walk_at "l") (λcD A outer s H vs Q E aC h=>?_)
 .have hu:=aC.hu;obtain⟨i,rfl,q⟩:=h;refine⟨_,(b0 (c9 (qV (dk (kT (K:=K) rfl) (by rfl) T.g qat %[0,jA (v:= .ty "int") (by rfl) T.av PyProof.Rows.boot_int rfl|2]) (tv (AE (dk (kT (K:=K) rfl) (by rfl) T.g qat %[0,jA (v:= .ty "bool") (by rfl) T.ah qcf rfl|2])))))),?_⟩
  walk_at "a"
  nofun;exact q
inductive UP(T:Tp K mg)(vs:List V)(H:Hp)(Q:VK)(cR:XK):Prop
 |mk (i l:Int) (de:vs=[.int i,.int l]) (cK:Q (.bl (decide (l<=i))) H):UP T vs H Q cR
theorem Zjm{T:Tp K mg}{H:Hp}{Q:VK}{E:XK}{i l:Int}(q:Q (.bl (decide (l<=i))) H):UP T ([.int i,.int l]++ []) H Q E:=⟨i,l,rfl,q⟩
local macro_rules| `(tactic|walk_at "rd")=>`(tactic|first|((with_reducible show _N.UP _ _ _ _ _);with_reducible refine _N.Zjm ?_)|fail "none here")
theorem sy:OkN P w base 2 T.am (UP T):=by
 refine T.am.F.okX KE (by walk_at "l") (λcD A outer s H vs Q E aC h=>?_)
 .have hu:=aC.hu;obtain⟨i,l,rfl,q⟩:=h;refine⟨_,(b0 (c9 (qV (c2 T.a1 (MQ T) aC cG %[0|2]) (tv (lA q4 (pv 0) (pv 1) (dD _)))))),?_⟩
  walk_at "a"
  nofun;exact q
inductive Eg(vs:List V)(H:Hp)(Q:VK)(E:XK):Prop
 |mk (i:Int) (de:vs=[.int i]) (cK:(¬0<=i->E (.ref T.ab) none H)) (cO:(0<=i->Q .non H)):Eg vs H Q E
theorem MR:OkN P w base 3 T.a2 (Eg T):=by
 refine T.a2.F.okX KG (by walk_at "l") (λcD A outer s H vs Q E aC h=>?_)
 .have hu:=aC.hu;obtain⟨i,rfl,bJ,q⟩:=h;refine⟨_,(b0 (dO (hh (fX (K:=K) rfl (c2 T.am (sy T) aC cG %[0,bM|2]) (λ_=>rfl))) (b0 (hm T.I.g T.I.e qai rfl %[Yo|2])) dV)),?_⟩
  walk_at "a"
  nofun
  by_cases c:0<=i
  .rw[decide_eq_true c];nofun;exact q c
  .rw[decide_eq_false c];nofun;exact bJ c
inductive WG(T:Tp K mg)(vs:List V)(H:Hp)(Q:VK)(cR:XK):Prop
 |mk (i b:Int) (de:vs=[.int i,.int b]) (cK:Q (.bl (decide (0<=i/\i<b))) H):WG T vs H Q cR
theorem Zcy{T:Tp K mg}{H:Hp}{Q:VK}{E:XK}{i b:Int}(q:Q (.bl (decide (0<=i/\i<b))) H):WG T ([.int i,.int b]++ []) H Q E:=⟨i,b,rfl,q⟩
local macro_rules| `(tactic|walk_at "rd")=>`(tactic|first|((with_reducible show _N.WG _ _ _ _ _);with_reducible refine _N.Zcy ?_)|fail "none here")
theorem sA:OkN P w base 3 T.an (WG T):=by
 refine T.an.F.okX KH (by walk_at "l") (λcD A outer s H vs Q E aC h=>?_)
 .have hu:=aC.hu;obtain⟨i,b,rfl,q⟩:=h;refine⟨_,(b0 (c9 (qV (c2 T.am (sy T) aC cG %[0,bM|2]) (tv (lA tz (pv 0) (pv 1) (dD _)))))),?_⟩
  walk_at "a"
  nofun;refine Zbh (λc=>?_) (λc=>?_)
  .have d7:0<=i:=of_decide_eq_true c;nofun;have e:decide (i<b)=decide (0<=i/\i<b):=by rw[decide_eq_decide];exact⟨λz=>⟨d7,z⟩,λz=>z.2⟩
   rw[e];exact q
  .have d7:¬0<=i:=λz=>c (decide_eq_true z);nofun;have e:false=decide (0<=i/\i<b):=(decide_eq_false (λz=>d7 z.1)).symm;rw[e];exact q
inductive Eh(vs:List V)(H:Hp)(Q:VK)(E:XK):Prop
 |mk (p:Addr) (i:Int) (ap:HM) (fp:List Addr) (de:vs=[.ref p,.int i]) (cK:dr T H p ap fp) (cO:(¬(0<=i/\i<ap.names.length)->E (.ref T.p) none H)) (dm:(0<=i->i<ap.names.length->Q .non H)):Eh vs H Q E
theorem u4:OkM P w mg base 4 T.ax (Eh T):=by
 have gf:=T.a;have gg:=T.c;refine T.ax.F.okX KI (by walk_at "l") (λcD A outer s H vs Q E aC h=>?_)
 .have hu:=aC.hu;obtain⟨p,i,ap,fp,rfl,b8,bJ,q⟩:=h;obtain⟨dx,a,b,bs,rfl,ay,aD,cj,cS,ht,dq⟩:=id b8;refine⟨_,(b0 (dO (hh (fX (K:=K) rfl (c2 T.an (sA T) aC cG %[1,dk Zjf (by rfl) T.f qal %[fW (K:=K) rfl (pv 0) rfl|2]|2]) (λ_=>rfl))) (b0 (hm T.H.g T.H.e qai rfl %[Yo|2])) dV)),?_⟩
  walk_at "a"
  nofun;rw[UL]
  by_cases c:0<=i/\i<ap.names.length
  .rw[decide_eq_true c];nofun;exact q c.1 c.2
  .rw[decide_eq_false c];nofun;exact bJ c
inductive Ei(vs:List V)(H:Hp)(Q:VK)(E:XK):Prop
 |mk (p u:Addr) (b:B5) (ap:HM) (fp:List Addr) (de:vs=[.ref p,.ref u]) (cK:dr T H p ap fp) (cO:H u=some (.tup b.v)) (dm:ap.belts.length<=1000) (dI:∀(aj:Hp)(el:List Addr),dr T aj p ⟨ap.names,ap.belts++ [b]⟩ el->df fp H aj->V0 fp el H->Q (.int ap.belts.length) aj):Ei vs H Q E
theorem Ej:OkM P w mg base 1 T.aQ (Ei T):=by
 have gf:=T.a;have gg:=T.c;refine T.aQ.F.okX KJ (by walk_at "l") (λcD A outer s H vs Q E aC h=>?_)
 .have hu:=aC.hu;obtain⟨p,u,b,ap,fp,rfl,b8,e8,bU,q⟩:=h;obtain⟨dx,a,bb,bs,rfl,ay,aD,cj,cS,ht,dq⟩:=id b8;have u5:p≠bb:=e_ ay cS (by intro z;cases z);have yO:dx≠bb:=e_ aD cS (by intro z;cases z);have UZ:u≠bb:=e_ e8 cS (by intro z;cases z);have kU:bs.length<sizeLine:=ed (by rw[dq.length];exact bU);have Ek:=dq.length;refine⟨_,(bN (et (hA (K:=K) rfl qan qay qaz iy (fW (K:=K) rfl (pv 0) rfl) %[1|2]))
     (b0 (c9 (cm mv (dk (fb K) (by rfl) T.f qal %[fW (K:=K) rfl (pv 0) rfl|2]) bM)))),?_⟩
  walk_at "a"
  nofun;have k1:(upd H bb (.lst (bs++ [.ref u]))) p=some (.ins T.t dx [("numbers",.ref a),("rows",.ref bb)]):=by rw[b3 u5];exact ay
  have oL:(upd H bb (.lst (bs++ [.ref u]))) bb=some (.lst (bs++ [.ref u])):=Ze;nofun;have jW:((bs++ [V.ref u]).length:Int)-1=ap.belts.length:=by simp[Ek]
  rw[jW];have ei:df [p,dx,a,bb] H (upd H bb (.lst (bs++ [.ref u]))):=gy (by simp) cS (by intro _ z;cases z);refine q _ [p,dx,a,bb] ⟨dx,a,bb,_,rfl,k1,?_,?_,oL,ht,(dq.keep ei.tups).snoc (ei.tups _ _ e8)⟩ ei V0.refl
  .rw[b3 yO];exact aD
  .rw[b3 ht];exact cj
inductive sB(vs:List V)(H:Hp)(Q:VK)(E:XK):Prop
 |mk (p:Addr) (b:B5) (ap:HM) (fp:List Addr) (de:vs= .ref p::b.v) (cK:dr T H p ap fp) (cO:ap.belts.length<=1000) (dm:(¬(0<=b.giver/\b.giver<ap.names.length/\0<=b.taker/\b.taker<ap.names.length)->∀aj,Zd H aj->E (.ref T.p) none aj)) (dI:((0<=b.giver/\b.giver<ap.names.length/\0<=b.taker/\b.taker<ap.names.length)->¬(1<=b.give/\1<=b.take/\0<=b.start)->∀aj,Zd H aj->E (.ref T.ab) none aj)) (ef:((0<=b.giver/\b.giver<ap.names.length/\0<=b.taker/\b.taker<ap.names.length)->(1<=b.give/\1<=b.take/\0<=b.start)->60<=ap.belts.length->∀aj,Zd H aj->E (.ref T.N) none aj)) (eR:((0<=b.giver/\b.giver<ap.names.length/\0<=b.taker/\b.taker<ap.names.length)->(1<=b.give/\1<=b.take/\0<=b.start)->ap.belts.length<60->∀(aj:Hp)(el:List Addr),dr T aj p ⟨ap.names,ap.belts++ [b]⟩ el->df fp H aj->V0 fp el H->Q (.int ap.belts.length) aj)):sB vs H Q E
theorem Zaj{T:Tp K mg}{H:Hp}{Q:VK}{E:XK}{p:Addr}{g t cV ce st:Int}{ap:HM}{fp:List Addr}(h:dr T H p ap fp)
  (ay:0<=g) (aD:g<ap.names.length) (cj:0<=t) (cS:t<ap.names.length) (ec:1<=cV) (dq:1<=ce) (hH:0<=st) (dY:ap.belts.length<60)
  (q:∀(aj:Hp)(el:List Addr),dr T aj p ⟨ap.names,ap.belts++ [⟨g,t,cV,ce,st⟩]⟩ el->df fp H aj->V0 fp el H->Q (.int ap.belts.length) aj):sB T [.ref p,.int g,.int t,.int cV,.int ce,.int st] H Q E:=
 ⟨p,⟨g,t,cV,ce,st⟩,ap,fp,rfl,h,∅,λz=>absurd ⟨ay,aD,cj,cS⟩ z,λ_ z=>absurd ⟨ec,dq,hH⟩ z,λ_ _ z=>absurd z ∅,λ_ _ _=>q⟩
theorem El:YE P w K mg base (CXX P w) 5 T.w T.x ["self","giver","taker","give","take","start"] (sB T):=by
 have gf:=T.a;have gg:=T.c;refine T.U.okX KL (by walk_at "l") (λcD A outer s H vs Q E aC h=>?_)
 .have hu:=aC.hu;obtain⟨p,b,ap,fp,rfl,b8,bU,bJ,bX,dn,q⟩:=h;obtain⟨dx,a,bb,bs,rfl,ay,aD,cj,cS,ht,dq⟩:=id b8;obtain⟨g,t,cV,ce,st⟩:=b;have Ek:=dq.length;refine⟨_,(bN (et (hB (pv 0) T.a T.ax (u4 T) aC cG %[1|2]))
     (bN (et (hB (pv 0) T.a T.ax (u4 T) aC cG %[2|2]))
     (bN (dO (PW.pt (jB (hh (fX (K:=K) rfl (c2 T.am (sy T) aC cG %[3,bM|2]) (λ_=>rfl))) (mq (hh (fX (K:=K) rfl (c2 T.am (sy T) aC cG %[4,bM|2]) (λ_=>rfl)))))) (b0 (hm T.I.g T.I.e qai rfl %[Yo|2])) dV)
     (bN (et (c2 T.a2 (MR T) aC cG %[5|2]))
     (bN (dO (dW q4 (dk (fb K) (by rfl) T.f qal %[fW (K:=K) rfl (pv 0) rfl|2]) (ng (v:= .int 60) rfl T.P ⟨_,rfl⟩) (dD _)) (b0 (hm T.D.g T.D.e qai rfl %[Yo|2])) dV)
     (b0 (c9 (hB (pv 0) T.a T.aQ (Ej T) aC cG %[fz %[1,2,3,4,5|2]|2])))))))),?_⟩
  walk_at "a"
  dsimp only[B5.v] at*;nofun;refine⟨p,g,ap,_,rfl,b8,λz=>bJ ∅ H (Zd.refl H),λeh g1=>?_⟩;nofun;refine⟨p,t,ap,_,rfl,b8,λz=>bJ ∅ H (Zd.refl H),λhf iJ=>?_⟩;have ws:0<=g/\g<ap.names.length/\0<=t/\t<ap.names.length:=⟨eh,g1,hf,iJ⟩;nofun
  by_cases c:1<=cV
  .rw[decide_eq_true c];nofun
   by_cases d:1<=ce
   .rw[decide_eq_true d];nofun;refine⟨st,rfl,λz=>bX ws ∅ H (Zd.refl H),λf=>?_⟩;nofun;refine Rd.ifD (λl=>?_) (λl=>?_)
    .nofun;exact dn ws ∅ ∅ H (Zd.refl H)
    nofun;refine⟨by show 5<=sizeLine;decide,λu e8=>?_⟩;have sn:Zd H (upd H u (.tup [.int g,.int t,.int cV,.int ce,.int st])):=cF e8;have qj:=b8.same sn;nofun;refine⟨p,u,⟨g,t,cV,ce,st⟩,ap,_,rfl,qj,Ze,bU,λaj el gN ei gr=>?_⟩;refine q ws ∅ ∅ aj el gN (sn.frame.trans ei) (λx ar=>?_);rcases gr x ar with z|z
    .exact .inl z
    .refine .inr ?_;cases e:H x with
     |none=>rfl
     |some o=>rw[sn _ _ e] at z;cases z
   .rw[decide_eq_false d];nofun;exact bX ws ∅ H (Zd.refl H)
  .rw[decide_eq_false c];nofun;exact bX ws ∅ H (Zd.refl H)
inductive yP(vs:List V)(H:Hp)(Q:VK)(cR:XK):Prop
 |mk (p dx:Addr) (de:vs=[.ref p]) (cK:H p=some (.ins T.t dx [])) (cO:H dx=some (.own p)) (dm:∀(aj:Hp)(fp:List Addr),dr T aj p ⟨[],[]⟩ fp->(∀x∈fp,x=p\/x=dx\/H x=none)->(∀b o,H b=some o->b≠p->aj b=some o)->Q .non aj):yP vs H Q cR
theorem Zhe{T:Tp K mg}{H:Hp}{Q:Addr->Hp->Prop}{E:XK}
  (q:∀(p:Addr)(fp:List Addr)(aj:Hp),dr T aj p ⟨[],[]⟩ fp->(∀x∈fp,H x=none)->Zd H aj->Q p aj):
  ∀x dx,H x=none->H dx=none->dx≠x->yP T (.ref x::([]++ [])) (upd (upd H dx (.own x)) x (.ins T.t dx [])) (λv aP=>v= .non/\Q x aP) E:=by
 intro x dx ar h0 ne;refine⟨x,dx,rfl,Ze,by rw[b3 ne,Ze],λaj fp b8 bS bH=>⟨rfl,q x fp aj b8 (λy bW=>?_) (λb o e=>bH b o ?_ (dh e ar))⟩⟩
 .rcases bS y bW with rfl|rfl|h
  .exact ar
  .exact h0
  .by_cases ay:y=x
   .rw[ay];exact ar
   .by_cases aD:y=dx
    .rw[aD];exact h0
    .rw[b3 ay,b3 aD] at h;exact h
 .rw[b3 (dh e ar),b3 (dh e h0)];exact e
local macro_rules| `(tactic|walk_at "rd")=>`(tactic|first|with_reducible refine _N.Zhe ?_|fail "none here")
theorem yQ:OkI P w mg base 1 T.aG (yP T):=by
 have gf:=T.a;have gg:=T.c;refine T.aG.F.okX KN (by walk_at "l") (λcD A outer s H vs Q E aC h=>?_)
 .have hu:=aC.hu;obtain⟨p,dx,rfl,bO,h0,q⟩:=h;refine⟨_,(bN (kf (K:=K) rfl (pv 0) wu rfl)
     (b0 (kf (K:=K) rfl (pv 0) (fA bG) rfl))),?_⟩
  walk_at "a"
  nofun;intro a bK;have qi:p≠a:=dh bO bK;have yN:dx≠a:=dh h0 bK;have qk:p≠dx:=e_ bO h0 (by intro z;cases z);have fP:(upd H a (.dK [])) p=some (.ins T.t dx []):=by rw[b3 qi];exact bO
  nofun;refine⟨qar _,λb au=>?_⟩;have nT:H b=none:=by
   by_cases ay:b=p
   .rw[ay,Ze] at au;cases au
   .by_cases aD:b=a
    .rw[aD];exact bK
    .rw[b3 ay,b3 aD] at au;exact au
  have u5:p≠b:=dh bO nT;have yO:dx≠b:=dh h0 nT;have ht:a≠b:=by
   intro z;rw[<-z,b3 qi.symm,Ze] at au;cases au
  have lD:(upd (upd (upd H a (.dK [])) p (.ins T.t dx [("numbers",.ref a)])) b (.lst [])) p=some (.ins T.t dx [("numbers",.ref a)]):=by rw[b3 u5,Ze]
  nofun;refine q _ [p,dx,a,b] ⟨dx,a,b,[],rfl,Ze,?_,?_,?_,ht,.nil⟩ (λx ar=>?_) (λc o e a_=>?_)
  .rw[b3 qk.symm,b3 yO,b3 qk.symm,b3 yN];exact h0
  .rw[b3 qi.symm,b3 ht,b3 qi.symm,Ze];rfl
  .rw[b3 u5.symm,Ze]
  .simp only[qaf,qaX,or_false] at ar;rcases ar with rfl|rfl|rfl|rfl
   .exact .inl rfl
   .exact .inr (.inl rfl)
   .exact .inr (.inr bK)
   .exact .inr (.inr nT)
  .rw[b3 a_,b3 (dh e nT),b3 a_,b3 (dh e bK)];exact e
inductive Em(vs:List V)(H:Hp)(Q:VK)(cR:XK):Prop
 |mk (gK gC:Addr) (dg:List Str) (bs:List V) (ls:List B5) (de:vs=[.ref gK,.ref gC]) (cK:SqL K H gK (dg.map V.str)) (cO:(∀n∈dg,hU n=true)) (dm:dg.Nodup) (dI:0<dg.length) (ef:dg.length<=30) (eR:H gC=some (.lst bs)) (fw:ev H bs ls) (gT:(∀l∈ls,Bel dg.length l)) (jt:ls.length<=60) (kx:∀(p:Addr)(fp:List Addr)(aj:Hp),dr T aj p ⟨dg,ls⟩ fp->(∀x∈fp,H x=none)->Zd H aj->Q (.ref p) aj):Em vs H Q cR
theorem MS:OkN P w base 6 T.a3 (Em T):=by
 have u6:YE P w K mg base (CXX P w) 5 T.w T.x ["self","giver","taker","give","take","start"] (sB T):=(El T).mono (by decide);have gf:=T.a;have gg:=T.c;refine T.a3.F.okX nF (by walk_at "l") (λcD A outer s H vs Q E aC h=>?_)
 .have hu:=aC.hu;obtain⟨gK,gC,dg,bs,ls,rfl,En,jv,fY,kr,eK,ks,c1,MT,kt,q⟩:=h;have ej:=c1.length;refine⟨_,(bN %[cA,2,nF.nd,w3 T.aG (yQ T) aC T.ae cG|1]
     (bN (d4 PassesOwn.leaving rfl (eG (K:=K) rfl (pv 0)) %[cr,3,nF.nd|1] (b0 (et (hB (pv 2) T.a T.aF (yM T) aC cG %[3|2]))))
     (bN (d4 PassesOwn.leaving rfl (eG (K:=K) rfl (pv 1)) (e7 (K:=K) (n:=5) rfl rfl (c_ %[cr,4,nF.nd|1] (c_ %[cr,5,nF.nd|1] (c_ %[cr,6,nF.nd|1] (c_ %[cr,7,nF.nd|1] (c_ %[cr,8,nF.nd|1] e0)))))) (b0 (et (tA (pv 2) T.a T.y u6 aC T.z .nil cG %[4,5,6,7,8|2]))))
     (b0 (c9 (pv 2)))))),?_⟩
  walk_at "a"
  nofun;intro bO fp bZ b8 bS bI;have pd:=bI.seq En;nofun;refine Yr (eF En) (λi ao aj=>∃el k0,ao=[some (.ref gK),some (.ref gC),some (.ref bO),k0,none,none,none,none,none]/\dr T aj bO ⟨dg.take i,[]⟩ el/\Zd H aj/\∀x∈el,H x=none) ⟨fp,_,rfl,b8,bI,bS⟩ (λi ao aj ⟨_,_,_,_,s,_⟩=>s) ?_ ?_
  .rintro i ao aj hi ⟨el,k0,rfl,qj,s',fJ⟩;have ds:i<dg.length:=by rw[GM] at hi;exact hi
   have e3:(dg.map V.str).getD i .non= .str dg[i]:=by simp[List.getD,ds]
   rw[e3];nofun;have nk:dg[i]∉dg.take i:=by
    have aD:=fY;rw[<-qbF (i+1) dg,qac ds] at aD;exact λz=>(qbI.mp (qbI.mp aD).1).2.2 _ z _ (by simp) rfl
   refine U6 qj (jv _ (GE ds)) nk (by simp;omega) (λaP jR gN ei gr=>?_);obtain⟨bQ,fL⟩:=VM s' fJ ei gr;refine⟨jR,_,rfl,?_,bQ,fL⟩;rw[qac ds];exact gN
  .rintro ao aj ⟨el,k0,rfl,qj,s',fJ⟩;rw[GM,qaO] at qj;have j8:=s' _ _ ks;nofun;refine Yr (eF (SqL.of ks)) (λi ao aj=>∃(el:List Addr)(a1 a2 a3 a4 a5:Option V),ao=[some (.ref gK),some (.ref gC),some (.ref bO),k0,a1,a2,a3,a4,a5]/\dr T aj bO ⟨dg,ls.take i⟩ el/\Zd H aj/\∀x∈el,H x=none)
    ⟨el,_,_,_,_,_,rfl,qj,s',fJ⟩ (λi ao aj ⟨_,_,_,_,_,_,_,_,s,_⟩=>s) ?_ ?_
   .rintro i ao bZ hi ⟨ql,a1,a2,a3,a4,a5,rfl,kC,cd,kW⟩;have ds:i<ls.length:=by omega
    obtain⟨t,eC,dJ⟩:=c1.at (fm ds);have c7:bs.getD i .non= .ref t:=by simp[List.getD,eC]
    rw[c7];have bL:=MT _ (GE ds);have dt:=qac ds;have gD:=cd _ _ dJ;generalize ls[i]=l at*;obtain⟨cE,cY,iq,i'⟩:=bL.rg;obtain⟨cK,dm⟩:=bL.sz;dsimp only[B5.v] at gD;refine Rd.Yv (.of gD) rfl ?_;nofun;refine Zaj kC cE (by simp;omega) iq (by simp;omega) cK dm bL.st.1 (by simp;omega) (λb4 Eo nU gQ MU=>?_);obtain⟨cB,MV⟩:=VM cd kW gQ MU;refine⟨Eo,_,_,_,_,_,rfl,?_,cB,MV⟩;rw[dt];exact nU
   .rintro ao bZ ⟨ql,a1,a2,a3,a4,a5,rfl,kC,cd,kW⟩;rw[ej,qaO] at kC;nofun;exact q bO ql bZ kC kW cd
inductive Ep(vs:List V)(H:Hp)(Q:VK)(E:XK):Prop
 |mk (p:Addr) (w:Int) (ap:HM) (fp:List Addr) (de:vs=[.ref p,.int w]) (cK:dr T H p ap fp) (cO:ap.belts.length<=1000) (dm:(¬(0<=w/\w<ap.names.length)->E (.ref T.p) none H)) (dI:(0<=w->w<ap.names.length->∀r aj,H r=none->Zd H aj->aj r=some (.lst ((dR ap.belts w).map λi:Nat=>V.int i))->Q (.ref r) aj)):Ep vs H Q E
theorem MW:OkM P w mg base 5 T.a4 (Ep T):=by
 have gf:=T.a;have gg:=T.c;refine T.a4.F.okX KO (by walk_at "l") (λcD A outer s H vs Q E aC h=>?_)
 .have hu:=aC.hu;obtain⟨p,w,ap,fp,rfl,b8,bU,bJ,q⟩:=h;obtain⟨dx,a,b,bs,rfl,ay,aD,cj,cS,ht,dq⟩:=id b8;have au:=dq.length;refine⟨_,(bN (et (hB (pv 0) T.a T.ax (u4 T) aC cG %[1|2]))
     (b0 (c9 (ho (xs:=["belt","row"]) rfl (eB (x:="belt") (zs:=["work"]) (ix:=[1]) (cs xo) ["self","work"] rfl rfl (by decide+kernel)) (kh (K:=K) rfl rfl T.i %[fW (K:=K) rfl (pv 0) rfl|2]) (λcl C s H fp=>⟨(e7 (K:=K) (n:=2) rfl rfl (c_ %[cr,0,(show(["belt","row","work"]:List Str).Nodup by decide+kernel)|1] (c_ %[cr,1,(show(["belt","row","work"]:List Str).Nodup by decide+kernel)|1] e0))),(rc (dW (gS (K:=K) rfl hu) %[1,bM|0] (pv 2) (dD _))),(pv 0)⟩))))),?_⟩
  walk_at "a"
  nofun;refine⟨p,w,ap,_,rfl,b8,bJ,λey eL=>?_⟩;nofun;refine Z2 (own:=2) (ki (SqL.of cS)) (ed ∅) (λi=>[some (.int i),some (bs.getD i .non)]) (λ_=>rfl) (λi=>decide ((ap.belts.getD i dB).giver=w)) (λi v _=>v= .int i) (λ_ _ _ _ _ z=>z) (λi c6 aj v aP f7 hi bI y bK k=>?_) (λi aj cQ hi bI k=>?_) (λhJ i aj cQ hi a_ hp0 fP bI k=>?_) (λr aj ys aC bI eu db=>?_)
  .obtain⟨t,bY,rfl,rfl⟩:=y;obtain⟨x1,x2,rfl⟩:∃x1 x2,c6=[x1,x2]:=by
    match c6,bK with
    | [x1,x2],_=>exact⟨x1,x2,rfl⟩
   refine Rd.Yv (.of Ze) rfl ?_;nofun;exact k _ (cF bY)
  .obtain⟨t,eC,dJ⟩:=dq.getD (i:=i) ∅;rw[eC];have fu:=bI _ _ dJ;generalize ap.belts.getD i dB=bb at*;dsimp only[B5.v] at fu;nofun;exact k aj (Zd.refl aj)
  .nofun;exact k _ aj (Zd.refl aj) rfl
  .refine q ey eL r aj aC bI ?_;rw[eu,t1 (R:=λi v _=>v=V.int (i:Nat)) (H:=aj) (r:=λi:Nat=>V.int i) (λ_ _ z=>z) db,au]
   rfl
inductive Er(vs:List V)(H:Hp)(Q:VK)(E:XK):Prop
 |mk (p:Addr) (i:Int) (ap:HM) (fp:List Addr) (de:vs=[.ref p,.int i]) (cK:dr T H p ap fp) (cO:(¬(0<=i/\i<ap.belts.length)->E (.ref T.Z) none H)) (dm:(0<=i->i<ap.belts.length->Q .non H)):Er vs H Q E
theorem MX:OkM P w mg base 4 T.a5 (Er T):=by
 have gf:=T.a;have gg:=T.c;refine T.a5.F.okX KP (by walk_at "l") (λcD A outer s H vs Q E aC h=>?_)
 .have hu:=aC.hu;obtain⟨p,i,ap,fp,rfl,b8,bJ,q⟩:=h;obtain⟨dx,a,b,bs,rfl,ay,aD,cj,cS,ht,dq⟩:=id b8;refine⟨_,(b0 (dO (hh (fX (K:=K) rfl (c2 T.an (sA T) aC cG %[1,dk (fb K) (by rfl) T.f qal %[fW (K:=K) rfl (pv 0) rfl|2]|2]) (λ_=>rfl))) (b0 (hm T.aa.g T.aa.e qai rfl %[Yo|2])) dV)),?_⟩
  walk_at "a"
  nofun;rw[dq.length]
  by_cases c:0<=i/\i<ap.belts.length
  .rw[decide_eq_true c];nofun;exact q c.1 c.2
  .rw[decide_eq_false c];nofun;exact bJ c
inductive Es(vs:List V)(H:Hp)(Q:VK)(E:XK):Prop
 |mk (p:Addr) (i:Int) (ap:HM) (fp:List Addr) (de:vs=[.ref p,.int i]) (cK:dr T H p ap fp) (cO:(¬(0<=i/\i<ap.belts.length)->E (.ref T.Z) none H)) (dm:(0<=i->i<ap.belts.length->∀(t:Addr)(b:B5),ap.belts[i.toNat]? =some b->H t=some (.tup b.v)->Q (.ref t) H)):Es vs H Q E
theorem yR:OkM P w mg base 5 T.aH (Es T):=by
 have gf:=T.a;have gg:=T.c;refine T.aH.F.okX KQ (by walk_at "l") (λcD A outer s H vs Q E aC h=>?_)
 .have hu:=aC.hu;obtain⟨p,i,ap,fp,rfl,b8,bJ,q⟩:=h;obtain⟨dx,a,b,bs,rfl,ay,aD,cj,cS,ht,dq⟩:=id b8;refine⟨_,(bN (et (hB (pv 0) T.a T.a5 (MX T) aC cG %[1|2]))
     (b0 (c9 %[fW (K:=K) rfl (pv 0) rfl,1|0]))),?_⟩
  walk_at "a"
  nofun;refine⟨p,i,ap,_,rfl,b8,bJ,λi0 dF=>?_⟩;have hi:i.toNat<ap.belts.length:=by omega
  have h_:=fm hi;obtain⟨t,eC,dJ⟩:=dq.at h_;have eZ:atI bs i=some (.ref t):=by
   have:=iT eC
   rwa [qaB i0] at this
  nofun;exact q i0 dF t _ h_ dJ
inductive Et(vs:List V)(H:Hp)(Q:VK)(E:XK):Prop
 |mk (p:Addr) (w:Int) (ap:HM) (fp:List Addr) (de:vs=[.ref p,.int w]) (cK:dr T H p ap fp) (cO:ap.belts.length<=1000) (dm:0<=w) (dI:w<ap.names.length) (ef:∀r aj ys,H r=none->Zd H aj->aj r=some (.lst ys)->hW aj (giveRow ap.belts w) ys->Q (.ref r) aj):Et vs H Q E
theorem yS:OkN P w base 6 T.aI (Et T):=by
 have gf:=T.a;have gg:=T.c;refine T.aI.F.okX KR (by walk_at "l") (λcD A outer s H vs Q E aC h=>?_)
 .have hu:=aC.hu;obtain⟨p,w,ap,fp,rfl,b8,bU,ey,eL,q⟩:=h;refine⟨_,(b0 (c9 (ho (xs:=["belt"]) rfl (eB (x:="belt") (zs:=["hall"]) (ix:=[0]) (cs xp) ["hall","work"] rfl rfl (by decide+kernel)) (eG (K:=K) rfl (hB (pv 0) T.a T.a4 (MW T) aC cG %[1|2])) (λcl C s H fp=>⟨%[cr,0,(show(["belt","hall"]:List Str).Nodup by decide+kernel)|1],e5,(fz %[0,%[hB (pv 1) T.a T.aH (yR T) aC WP %[0|2],bM|0]|2])⟩)))),?_⟩
  walk_at "a"
  nofun;refine⟨p,w,ap,fp,rfl,b8,bU,λz=>absurd ⟨ey,eL⟩ z,λ_ _ e aA b9 a' qm=>?_⟩;have ii:=b8.same a';have jW:=UN (ls:=ap.belts) (w:=w);nofun;refine Z2 (own:=1) (eF (SqL.of qm)).y (ed (by rw[GM];omega)) (λi=>[some (.int ((dR ap.belts w).getD i 0:Nat))]) (λ_=>rfl) (λ_=>true) (λi v H=>∃t,v=V.ref t/\H t=some (.tup [.int ((dR ap.belts w).getD i 0:Nat),.int (ap.belts.getD ((dR ap.belts w).getD i 0) dB).give])) (λ_ _ _ _ e ⟨t,cK,cO⟩=>⟨t,cK,e _ _ cO⟩) (λi c6 aj v aP f7 hi bI y em k=>?_) (λi aj cQ hi bI k=>?_) (λhJ i aj cQ hi a_ hp0 fP bI k=>?_) (λr aj ys hL bI eu db=>?_)
  .obtain⟨rfl,rfl⟩:=y;obtain⟨x1,rfl⟩:∃x1,c6=[x1]:=by
    match c6,em with
    | [x1],_=>exact⟨x1,rfl⟩
   have eQ:i<(dR ap.belts w).length:=by simpa using hi
   have e3:((dR ap.belts w).map λi:Nat=>V.int i).getD i .non= .int ((dR ap.belts w).getD i 0:Nat):=by simp[List.getD,eQ]
   rw[e3];nofun;exact k _ (Zd.refl _)
  .nofun;exact k aj (Zd.refl aj)
  .have eQ:i<(dR ap.belts w).length:=by simpa using hi
   have bL:(dR ap.belts w).getD i 0∈dR ap.belts w:=by
    have:(dR ap.belts w).getD i 0=(dR ap.belts w)[i]:=by simp[List.getD,eQ]
    rw[this];exact GE eQ
   have dw:=p7 bL;generalize (dR ap.belts w).getD i 0=j at*;have gN:=ii.same bI;nofun;refine⟨p,(j:Int),ap,fp,rfl,gN,λz=>absurd ⟨qa0 j,∅⟩ z,λ_ _ t b au bY=>?_⟩;have km:ap.belts[j]? =some b:=au;have c7:ap.belts.getD j dB=b:=by simp[List.getD,km]
   rw[c7] at k;dsimp only[B5.v] at bY;nofun;refine⟨by show 2<=sizeLine;decide,λu e8=>?_⟩;exact k _ _ (cF e8) ⟨u,rfl,tZ fP e8⟩
  .refine q r aj ys ?_ (a'.trans bI) eu ?_
   .cases e:H r with
    |none=>rfl
    |some o=>rw[a' _ _ e] at hL;cases hL
   .exact(Dp db).keep λb xs z=>mJ _ _ z
inductive Eu(vs:List V)(H:Hp)(Q:VK)(cR:XK):Prop
 |mk (p:Addr) (w:Int) (ap:HM) (fp:List Addr) (de:vs=[.ref p,.int w]) (cK:dr T H p ap fp) (cO:ap.belts.length<=1000) (dm:0<=w) (dI:w<ap.names.length) (ef:∀aj,Zd H aj->Q (.int ((giveRow ap.belts w).map (·.2)).sum) aj):Eu vs H Q cR
theorem MY:OkN P w base 7 T.a6 (Eu T):=by
 refine T.a6.F.okX KS (by walk_at "l") (λcD A outer s H vs Q E aC h=>?_)
 .have hu:=aC.hu;obtain⟨p,w,ap,fp,rfl,b8,bU,ey,eL,q⟩:=h;refine⟨_,(b0 (c9 (dk (mK (K:=K) rfl rfl) (by rfl) T.A qaW %[ho (xs:=["belt","give"]) rfl (eB (x:="belt") (zs:=[]) (ix:=[]) (cs xq) ["hall","work"] rfl rfl (by decide+kernel)) (eG (K:=K) rfl (c2 T.aI (yS T) aC cG %[0,1|2])) (λcl C s H fp=>⟨(e7 (K:=K) (n:=2) rfl rfl (c_ %[cr,0,(show(["belt","give"]:List Str).Nodup by decide+kernel)|1] (c_ %[cr,1,(show(["belt","give"]:List Str).Nodup by decide+kernel)|1] e0))),e5,(pv 1)⟩)|2]))),?_⟩
  walk_at "a"
  nofun;refine⟨p,w,ap,fp,rfl,b8,bU,ey,eL,λr aA ys aC a' gW dv=>?_⟩;have o5:ys.length=(giveRow ap.belts w).length:=(Paired.length dv).symm;have hR:(giveRow ap.belts w).length<=1000:=by unfold giveRow;rw[GM];exact qap UN bU
  generalize giveRow ap.belts w=gr at*;have yT:=SqL.of (K:=K) gW;nofun;refine Z2 (own:=2) (eF yT).y (ed ∅) (λi=>[some (.int (gr.getD i (0,0)).1),some (.int (gr.getD i (0,0)).2)]) (λ_=>rfl) (λ_=>true) (λi v _=>v= .int (gr.getD i (0,0)).2) (λ_ _ _ _ _ z=>z) (λi c6 aj v b5 f7 hi bI y em k=>?_) (λi aj cQ hi bI k=>?_) (λhJ i aj cQ hi gR hp0 fP bI k=>?_) (λd b5 zs hd bI eu db=>?_)
  .obtain⟨rfl,rfl⟩:=y;obtain⟨x1,x2,rfl⟩:∃x1 x2,c6=[x1,x2]:=by
    match c6,em with
    | [x1,x2],_=>exact⟨x1,x2,rfl⟩
   obtain⟨t,dt,bY⟩:=Zbj dv (i:=i) ∅;rw[dt];refine Rd.Yv (.of (bI _ _ bY)) rfl ?_;nofun;exact k _ (Zd.refl _)
  .nofun;exact k aj (Zd.refl aj)
  .nofun;exact k _ aj (Zd.refl aj) rfl
  .rw[qak.mpr (by simp),o5] at db;have eA:=qb db;rw[US (λt:Int×Int=>t.2)] at eA;have h3:=SqL.of (K:=K) (eA▸eu);nofun;refine⟨d,_,rfl,h3,?_⟩;exact q b5 (a'.trans bI)
inductive Ev(vs:List V)(H:Hp)(Q:VK)(E:XK):Prop
 |mk (p:Addr) (w:Int) (ap:HM) (fp:List Addr) (de:vs=[.ref p,.int w]) (cK:dr T H p ap fp) (cO:ap.belts.length<=1000) (dm:(¬(0<=w/\w<ap.names.length)->E (.ref T.p) none H)) (dI:(0<=w->w<ap.names.length->∀r aj,H r=none->Zd H aj->aj r=some (.lst ((dz ap.belts w).map λi:Nat=>V.int i))->Q (.ref r) aj)):Ev vs H Q E
theorem MZ:OkM P w mg base 5 T.a7 (Ev T):=by
 have gf:=T.a;have gg:=T.c;refine T.a7.F.okX KU (by walk_at "l") (λcD A outer s H vs Q E aC h=>?_)
 .have hu:=aC.hu;obtain⟨p,w,ap,fp,rfl,b8,bU,bJ,q⟩:=h;obtain⟨dx,a,b,bs,rfl,ay,aD,cj,cS,ht,dq⟩:=id b8;have au:=dq.length;refine⟨_,(bN (et (hB (pv 0) T.a T.ax (u4 T) aC cG %[1|2]))
     (b0 (c9 (ho (xs:=["belt","row"]) rfl (eB (x:="belt") (zs:=["work"]) (ix:=[1]) (cs xr) ["self","work"] rfl rfl (by decide+kernel)) (kh (K:=K) rfl rfl T.i %[fW (K:=K) rfl (pv 0) rfl|2]) (λcl C s H fp=>⟨(e7 (K:=K) (n:=2) rfl rfl (c_ %[cr,0,(show(["belt","row","work"]:List Str).Nodup by decide+kernel)|1] (c_ %[cr,1,(show(["belt","row","work"]:List Str).Nodup by decide+kernel)|1] e0))),(rc (dW (gS (K:=K) rfl hu) %[1,bM|0] (pv 2) (dD _))),(pv 0)⟩))))),?_⟩
  walk_at "a"
  nofun;refine⟨p,w,ap,_,rfl,b8,bJ,λey eL=>?_⟩;nofun;refine Z2 (own:=2) (ki (SqL.of cS)) (ed ∅) (λi=>[some (.int i),some (bs.getD i .non)]) (λ_=>rfl) (λi=>decide ((ap.belts.getD i dB).taker=w)) (λi v _=>v= .int i) (λ_ _ _ _ _ z=>z) (λi c6 aj v aP f7 hi bI y bK k=>?_) (λi aj cQ hi bI k=>?_) (λhJ i aj cQ hi a_ hp0 fP bI k=>?_) (λr aj ys aC bI eu db=>?_)
  .obtain⟨t,bY,rfl,rfl⟩:=y;obtain⟨x1,x2,rfl⟩:∃x1 x2,c6=[x1,x2]:=by
    match c6,bK with
    | [x1,x2],_=>exact⟨x1,x2,rfl⟩
   refine Rd.Yv (.of Ze) rfl ?_;nofun;exact k _ (cF bY)
  .obtain⟨t,eC,dJ⟩:=dq.getD (i:=i) ∅;rw[eC];have fu:=bI _ _ dJ;generalize ap.belts.getD i dB=bb at*;dsimp only[B5.v] at fu;nofun;exact k aj (Zd.refl aj)
  .nofun;exact k _ aj (Zd.refl aj) rfl
  .refine q ey eL r aj aC bI ?_;rw[eu,t1 (R:=λi v _=>v=V.int (i:Nat)) (H:=aj) (r:=λi:Nat=>V.int i) (λ_ _ z=>z) db,au]
   rfl
inductive Ew(vs:List V)(H:Hp)(Q:VK)(E:XK):Prop
 |mk (p:Addr) (w:Int) (ap:HM) (fp:List Addr) (de:vs=[.ref p,.int w]) (cK:dr T H p ap fp) (cO:ap.belts.length<=1000) (dm:0<=w) (dI:w<ap.names.length) (ef:∀r aj ys,H r=none->Zd H aj->aj r=some (.lst ys)->hW aj (takeRow ap.belts w) ys->Q (.ref r) aj):Ew vs H Q E
theorem yU:OkN P w base 6 T.aJ (Ew T):=by
 have gf:=T.a;have gg:=T.c;refine T.aJ.F.okX KW (by walk_at "l") (λcD A outer s H vs Q E aC h=>?_)
 .have hu:=aC.hu;obtain⟨p,w,ap,fp,rfl,b8,bU,ey,eL,q⟩:=h;refine⟨_,(b0 (c9 (ho (xs:=["belt"]) rfl (eB (x:="belt") (zs:=["hall"]) (ix:=[0]) (cs xt) ["hall","work"] rfl rfl (by decide+kernel)) (eG (K:=K) rfl (hB (pv 0) T.a T.a7 (MZ T) aC cG %[1|2])) (λcl C s H fp=>⟨%[cr,0,(show(["belt","hall"]:List Str).Nodup by decide+kernel)|1],e5,(fz %[0,%[hB (pv 1) T.a T.aH (yR T) aC WP %[0|2],bM|0]|2])⟩)))),?_⟩
  walk_at "a"
  nofun;refine⟨p,w,ap,fp,rfl,b8,bU,λz=>absurd ⟨ey,eL⟩ z,λ_ _ e aA b9 a' qm=>?_⟩;have ii:=b8.same a';have jW:=UJ (ls:=ap.belts) (w:=w);nofun;refine Z2 (own:=1) (eF (SqL.of qm)).y (ed (by rw[GM];omega)) (λi=>[some (.int ((dz ap.belts w).getD i 0:Nat))]) (λ_=>rfl) (λ_=>true) (λi v H=>∃t,v=V.ref t/\H t=some (.tup [.int ((dz ap.belts w).getD i 0:Nat),.int (ap.belts.getD ((dz ap.belts w).getD i 0) dB).take])) (λ_ _ _ _ e ⟨t,cK,cO⟩=>⟨t,cK,e _ _ cO⟩) (λi c6 aj v aP f7 hi bI y em k=>?_) (λi aj cQ hi bI k=>?_) (λhJ i aj cQ hi a_ hp0 fP bI k=>?_) (λr aj ys hL bI eu db=>?_)
  .obtain⟨rfl,rfl⟩:=y;obtain⟨x1,rfl⟩:∃x1,c6=[x1]:=by
    match c6,em with
    | [x1],_=>exact⟨x1,rfl⟩
   have eQ:i<(dz ap.belts w).length:=by simpa using hi
   have e3:((dz ap.belts w).map λi:Nat=>V.int i).getD i .non= .int ((dz ap.belts w).getD i 0:Nat):=by simp[List.getD,eQ]
   rw[e3];nofun;exact k _ (Zd.refl _)
  .nofun;exact k aj (Zd.refl aj)
  .have eQ:i<(dz ap.belts w).length:=by simpa using hi
   have bL:(dz ap.belts w).getD i 0∈dz ap.belts w:=by
    have:(dz ap.belts w).getD i 0=(dz ap.belts w)[i]:=by simp[List.getD,eQ]
    rw[this];exact GE eQ
   have dw:=oW bL;generalize (dz ap.belts w).getD i 0=j at*;have gN:=ii.same bI;nofun;refine⟨p,(j:Int),ap,fp,rfl,gN,λz=>absurd ⟨qa0 j,∅⟩ z,λ_ _ t b au bY=>?_⟩;have km:ap.belts[j]? =some b:=au;have c7:ap.belts.getD j dB=b:=by simp[List.getD,km]
   rw[c7] at k;dsimp only[B5.v] at bY;nofun;refine⟨by show 2<=sizeLine;decide,λu e8=>?_⟩;exact k _ _ (cF e8) ⟨u,rfl,tZ fP e8⟩
  .refine q r aj ys ?_ (a'.trans bI) eu ?_
   .cases e:H r with
    |none=>rfl
    |some o=>rw[a' _ _ e] at hL;cases hL
   .exact(Dp db).keep λb xs z=>mJ _ _ z
inductive Ey(vs:List V)(H:Hp)(Q:VK)(E:XK):Prop
 |mk (p:Addr) (w:Int) (v:V) (ap:HM) (fp:List Addr) (fs:List ZX) (de:vs=[.ref p,.int w,v]) (cK:dr T H p ap fp) (cO:ap.belts.length<=1000) (dm:0<=w) (dI:w<ap.names.length) (ef:oY H v fs) (eR:fs.length<=200000) (fw:(∀f∈fs,f.2.length<=2000)) (gT:(¬oZ ap.belts w fs->∀aj,Zd H aj->E (.ref T.ad) none aj)) (jt:(oZ ap.belts w fs->∀aj,Zd H aj->Q .non aj)):Ey vs H Q E
theorem M0:OkN P w base 8 T.a8 (Ey T):=by
 refine T.a8.F.okX xJ (by walk_at "l") (λcD A outer s H vs Q E aC h=>?_)
 .have hu:=aC.hu;obtain⟨p,w,v,ap,fp,fs,rfl,b8,bU,ey,eL,M3,m2,uS,pe,q⟩:=h;obtain⟨a,vs,rfl,bK,fD⟩:=M3;have sm:=Paired.length fD;have U0:=SqT.of (K:=K) bK;refine⟨_,(bN (dO (dW (jh (K:=K) rfl hu) (dk (fb K) (by rfl) T.f qal %[2|2]) (c2 T.a6 (MY T) aC cG %[0,1|2]) (dD _)) (b0 (hm T.q.g T.q.e qai rfl %[Yo|2])) dV)
     (bN (cA (i:=3) xJ.nd rfl (Or.inr rfl) (dk (mK (K:=K) rfl rfl) (by rfl) T.A qaW %[ho (xs:=["belt","take"]) rfl (eB (x:="belt") (zs:=[]) (ix:=[]) (cs uo) ["hall","work","forms","slots","form"] rfl rfl (by decide+kernel)) (eG (K:=K) rfl (c2 T.aJ (yU T) aC cG %[0,1|2])) (λcl C s H fp=>⟨(e7 (K:=K) (n:=2) rfl rfl (c_ %[cr,0,(show(["belt","take"]:List Str).Nodup by decide+kernel)|1] (c_ %[cr,1,(show(["belt","take"]:List Str).Nodup by decide+kernel)|1] e0))),e5,(pv 1)⟩)|2]))
     (b0 (d4 PassesOwn.leaving rfl (rK (K:=K) rfl (pv 2)) %[cr,4,xJ.nd|1] (b0 (dO (hh (fX (K:=K) rfl (dk (rL (K:=K) rfl rfl) (by rfl) T.R qbG %[ho (xs:=["slot","factor"]) rfl (eB (x:="slot") (zs:=["slots"]) (ix:=[3]) (cs uo) ["hall","work","forms","slots","form"] rfl rfl (by decide+kernel)) (rK (K:=K) rfl %[4,bM|0]) (λcl C s H fp=>⟨(e7 (K:=K) (n:=2) rfl rfl (c_ %[cr,0,(show(["slot","factor","slots"]:List Str).Nodup by decide+kernel)|1] (c_ %[cr,1,(show(["slot","factor","slots"]:List Str).Nodup by decide+kernel)|1] e0))),e5,(c2 T.an (sA T) aC WP %[0,2|2])⟩)|2]) (λ_=>rfl))) (b0 (hm T.q.g T.q.e qai rfl %[Yo|2])) dV)))))),?_⟩
  walk_at "a"
  nofun;refine⟨p,w,ap,fp,rfl,b8,bU,ey,eL,λaA a'=>?_⟩;have DU:Z9 ap.belts w=((giveRow ap.belts w).map (·.2)).sum:=rfl;have jw:slotN ap.belts w=((takeRow ap.belts w).map (·.2)).sum:=rfl;have M4:oZ ap.belts w fs↔((vs.length:Int)=Z9 ap.belts w/\∀f∈fs,∀t∈f.2,0<=t.1/\t.1<slotN ap.belts w):=by rw[sm];exact Iff.rfl
  rw[M4] at pe q;rw[DU] at pe q;generalize ((giveRow ap.belts w).map (·.2)).sum=gn at*;have ii:=b8.same a';nofun
  by_cases dY:(vs.length:Int)=gn
  case neg=>
   nofun;exact pe (λz=>dY z.1) _ a'
  nofun;refine⟨p,w,ap,fp,rfl,ii,bU,ey,eL,λr aP ys aC bQ gW dv=>?_⟩;have o5:ys.length=(takeRow ap.belts w).length:=(Paired.length dv).symm;have hR:(takeRow ap.belts w).length<=1000:=qap Zc4 bU;generalize takeRow ap.belts w=gr at*;have yT:=SqL.of (K:=K) gW;nofun;refine Z2 (own:=2) (eF yT).y (ed ∅) (λi=>[some (.int (gr.getD i (0,0)).1),some (.int (gr.getD i (0,0)).2)]) (λ_=>rfl) (λ_=>true) (λi v _=>v= .int (gr.getD i (0,0)).2) (λ_ _ _ _ _ z=>z) (λi c6 aj v b5 f7 hi bI y em k=>?_) (λi aj cQ hi bI k=>?_) (λhJ i aj cQ hi gR hp0 fP bI k=>?_) (λd b5 zs hd bI eu db=>?_)
  .obtain⟨rfl,rfl⟩:=y;obtain⟨x1,x2,rfl⟩:∃x1 x2,c6=[x1,x2]:=by
    match c6,em with
    | [x1,x2],_=>exact⟨x1,x2,rfl⟩
   obtain⟨t,dt,bY⟩:=Zbj dv (i:=i) ∅;rw[dt];refine Rd.Yv (.of (bI _ _ bY)) rfl ?_;nofun;exact k _ (Zd.refl _)
  .nofun;exact k aj (Zd.refl aj)
  .nofun;exact k _ aj (Zd.refl aj) rfl
  .rw[qak.mpr (by simp),o5] at db;have eA:=qb db;rw[US (λt:Int×Int=>t.2)] at eA;have h3:=SqL.of (K:=K) (eA▸eu);nofun;refine⟨d,_,rfl,h3,?_⟩;rw[<-jw];generalize slotN ap.belts w=sn at*;have i2:=a'.trans (bQ.trans bI);have DO:=i2 _ _ bK;have Ez:=SqT.of (K:=K) DO;nofun;unfold oc;nofun;refine⟨a,rfl,⟨_,Ez⟩,?_⟩;refine Yr (rE Ez) (λi ao aj=>Zd b5 aj/\(∃a1,ao=[some (.ref p),some (.int w),some (.ref a),some (.int sn),a1])/\∀j<i,∀t∈(fs.getD j (0,[])).2,0<=t.1/\t.1<sn) ⟨Zd.refl _,⟨_,rfl⟩,λj bP=>absurd bP ∅⟩ (λi ao aj h=>h.1) ?_ ?_
   .rintro i ao bZ hi ⟨cd,⟨a1,rfl⟩,kA⟩;have ds:i<fs.length:=by omega
    obtain⟨fS,hI,fG,cw,l3,qn,c1⟩:=mW (d:=V.non) (e:=((0,[]):ZX)) fD ds;rw[cw];have lY:fs.getD i (0,[])∈fs:=by rw[cL ds];exact GE _
    have nj:=uS _ lY;have M5:(∀t∈(fs.getD i (0,[])).2,0<=t.1/\t.1<sn)->∀j<i+1,∀t∈(fs.getD j (0,[])).2,0<=t.1/\t.1<sn:=λz j bP=>by
     by_cases yV:j=i
     .rw[yV];exact z
     .exact kA j ∅
    generalize fs.getD i (0,[])=f at*;have hr:=i2.trans cd;have U1:=hr _ _ l3;have M6:=hr _ _ qn;have EA:=SqT.of (K:=K) M6;have ia:=c1.length;nofun
    try unfold oc
    try nofun
    refine⟨hI,rfl,⟨_,EA⟩,?_⟩;refine Z2 (own:=2) (rE EA).y (qa ∅) (λi=>[some (.int (f.2.getD i (0,0)).1),some (.int (f.2.getD i (0,0)).2)]) (λ_=>rfl) (λ_=>true) (λi v _=>v= .bl (decide (0<=(f.2.getD i (0,0)).1/\(f.2.getD i (0,0)).1<sn))) (λ_ _ _ _ _ z=>z) (λi c6 aj v b5 f7 hi bI y em k=>?_) (λi aj cQ hi bI k=>?_) (λhJ i aj cQ hi gR hp0 fP bI k=>?_) (λd b4 zs hd sm5 EB EC=>?_)
    .obtain⟨rfl,rfl⟩:=y;obtain⟨x1,x2,rfl⟩:∃x1 x2,c6=[x1,x2]:=by
      match c6,em with
      | [x1,x2],_=>exact⟨x1,x2,rfl⟩
     obtain⟨t,dt,bY⟩:=c1.getD (i:=i) ∅;rw[dt];refine Rd.Yv (.of (bI _ _ (hr _ _ bY))) rfl ?_;nofun;exact k _ (Zd.refl _)
    .nofun;exact k aj (Zd.refl aj)
    .nofun;exact k _ aj (Zd.refl aj) rfl
    .rw[qak.mpr (by simp),ia] at EC;have M7:=xY EC;have U2:=SqL.of (K:=K) (M7▸EB);have h5:(((List.range f.2.length).map λi=>decide (0<=(f.2.getD i (0,0)).1/\(f.2.getD i (0,0)).1<sn)).all id)=true↔∀t∈f.2,0<=t.1/\t.1<sn:=by
      rw[ZcA]
      constructor
      .intro h t bY;obtain⟨i,hi,rfl⟩:=qaq bY;have:=h i hi;rw[cL hi] at this;exact this
      .intro h i hi;exact h _ (by rw[cL hi];exact GE _)
     generalize (List.range f.2.length).map (λi=>decide (0<=(f.2.getD i (0,0)).1/\(f.2.getD i (0,0)).1<sn))=bs at*;nofun
     by_cases ib:∀t∈f.2,0<=t.1/\t.1<sn
     .rw[h5.mpr ib];nofun;exact⟨cd.trans sm5,⟨_,rfl⟩,M5 ib⟩
     .rw[show bs.all id=false from Bool.eq_false_iff.mpr λz=>ib (h5.mp z)];nofun;exact pe (λz=>ib (z.2 f lY)) _ ((i2.trans cd).trans sm5)
   .rintro ao bZ ⟨cd,⟨a1,rfl⟩,kA⟩;nofun;refine q ⟨dY,λf bS t bY=>?_⟩ bZ (i2.trans cd);obtain⟨i,hi,rfl⟩:=qaq bS;have:=kA i ∅ t;rw[cL hi] at this;exact this bY
inductive ED(vs:List V)(H:Hp)(Q:VK)(E:XK):Prop
 |mk (p:Addr) (ap:HM) (fp:List Addr) (de:vs=[.ref p]) (cK:dr T H p ap fp) (cO:∀r aj,H r=none->Zd H aj->aj r=some (.lst (ap.names.map V.str))->Q (.ref r) aj):ED vs H Q E
theorem qo:OkM P w mg base 1 T.af (ED T):=by
 have gf:=T.a;have gg:=T.c;refine T.af.F.okX KX (by walk_at "l") (λcD A outer s H vs Q E aC h=>?_)
 .have hu:=aC.hu;obtain⟨p,ap,fp,rfl,b8,q⟩:=h;obtain⟨dx,a,b,bs,rfl,ay,aD,cj,cS,ht,dq⟩:=id b8;refine⟨_,(b0 (c9 (iv (Jx rfl) (by rfl) T.j qaG %[fW (K:=K) rfl (pv 0) rfl|2]))),?_⟩
  walk_at "a"
  nofun;intro l eu;rw[Zc6];exact q l _ eu (cF eu) Ze
inductive EE(vs:List V)(H:Hp)(Q:VK)(E:XK):Prop
 |mk (p c:Addr) (ap:HM) (fp:List Addr) (d6:List V) (fss:List (List ZX)) (de:vs=[.ref p,.ref c]) (cK:dr T H p ap fp) (cO:ap.belts.length<=1000) (dm:ap.names.length<=1000) (dI:SqL K H c d6) (ef:jq H d6 fss) (eR:fss.length<=1000) (fw:ZeX fss) (gT:(¬o0 ap.names.length ap.belts fss->∀aj,Zd H aj->E (.ref T.ad) none aj)) (jt:(o0 ap.names.length ap.belts fss->∀aj,Zd H aj->Q .non aj)):EE vs H Q E
theorem M8:OkN P w base 9 T.a9 (EE T):=by
 have gf:=T.a;have gg:=T.c;refine T.a9.F.okX xK (by walk_at "l") (λcD A outer s H vs Q E aC h=>?_)
 .have hu:=aC.hu;obtain⟨p,c,ap,fp,d6,fss,rfl,b8,bU,Ml,a_,fD,m2,nj,pe,q⟩:=h;have sm:=Paired.length fD;refine⟨_,(bN (dO (dW (jh (K:=K) rfl hu) (dk (fb K) (by rfl) T.f qal %[1|2]) (dk (fb K) (by rfl) T.f qal %[kg (pv 0) T.a T.af (qo T) aC cG|2]) (dD _)) (b0 (hm T.q.g T.q.e qai rfl %[Yo|2])) dV)
     (b0 (d4 PassesOwn.leaving rfl (kh (K:=K) rfl rfl T.i %[1|2]) (e7 (K:=K) (n:=2) rfl rfl (c_ %[cr,2,xK.nd|1] (c_ %[cr,3,xK.nd|1] e0))) (b0 (et (c2 T.a8 (M0 T) aC cG %[0,2,3|2])))))),?_⟩
  walk_at "a"
  nofun;refine⟨p,ap,fp,rfl,b8,λr aA aC a' gW=>?_⟩;have U4:=SqL.of (K:=K) gW;have lO:=a'.seq a_;nofun
  by_cases dY:fss.length=ap.names.length
  case neg=>
   have jx:¬(d6.length:Int)=((ap.names.map V.str).length:Int):=by rw[GM];omega
   nofun;exact pe (λz=>dY z.1) _ a'
  have jx:(d6.length:Int)=((ap.names.map V.str).length:Int):=by rw[GM];omega
  nofun;refine Ym (ki lO) (λi ao aj=>Zd aA aj/\(∃a1 a2,ao=[some (.ref p),some (.ref c),a1,a2])/\∀j<i,oZ ap.belts j (fss.getD j [])) ⟨Zd.refl _,⟨_,_,rfl⟩,λj bP=>absurd bP ∅⟩ (λi ao aj h=>h.1) ?_ ?_
  .rintro i ao aP v b5 hi ⟨bQ,⟨a1,a2,rfl⟩,kA⟩ ⟨t,bY,rfl,rfl⟩;have bV:Zd aP (upd aP t (.tup [.int i,d6.getD i .non])):=cF bY;have lT:(upd aP t (.tup [.int i,d6.getD i .non])) t=some (.tup [.int i,d6.getD i .non]):=Ze;generalize upd aP t (.tup [.int i,d6.getD i .non])=b5 at*;have fx:=a'.trans (bQ.trans bV);refine Rd.Yv (.of lT) rfl ?_;have hw:=(mW (d:=V.non) (e:=([]:List ZX)) fD (i:=i) ∅).keep (λb xs e=>fx _ _ e);generalize d6.getD i .non=u at*;nofun;refine⟨p,i,u,ap,fp,_,rfl,b8.same fx,bU,∅,∅,hw,(nj _ (by rw[cL ∅];exact GE _)).1,(nj _ (by rw[cL ∅];exact GE _)).2,λz bZ cd=>pe (λy=>z (y.2 i ∅)) _ (fx.trans cd),λz bZ cd=>?_⟩;nofun;refine⟨bQ.trans (bV.trans cd),⟨_,_,rfl⟩,λj bP=>?_⟩
   by_cases yV:j=i
   .rw[yV];exact z
   .exact kA j ∅
  .rintro ao aP ⟨bQ,⟨a1,a2,rfl⟩,kA⟩;nofun;exact q ⟨dY,λi hi=>kA i ∅⟩ aP (a'.trans bQ)
inductive VB(vs:List V)(H:Hp)(Q:VK)(cR:XK):Prop
 |mk (p:Addr) (ap:HM) (fp:List Addr) (de:vs=[.ref p]) (cK:dr T H p ap fp) (cO:∀(q:Addr)(aj:Hp)(bs:List V),H q=none->Zd H aj->aj q=some (.lst bs)->ev aj bs ap.belts->Q (.ref q) aj):VB vs H Q cR
theorem Zgb{T:Tp K mg}{H:Hp}{Q:VK}{E:XK}{p:Addr}{ap:HM}{fp:List Addr}(h:dr T H p ap fp)
  (q:∀(q:Addr)(aj:Hp)(bs:List V),H q=none->Zd H aj->aj q=some (.lst bs)->ev aj bs ap.belts->Q (.ref q) aj):VB T (.ref p::([]++ [])) H Q E:=⟨p,ap,fp,rfl,h,q⟩
local macro_rules| `(tactic|walk_at "rd")=>`(tactic|first|((with_reducible show _N.VB _ _ _ _ _);with_reducible refine _N.Zgb (by with_reducible assumption) ?_)|fail "none here")
theorem qp:OkM P w mg base 1 T.ag (VB T):=by
 have gf:=T.a;have gg:=T.c;refine T.ag.F.okX KY (by walk_at "l") (λcD A outer s H vs Q E aC h=>?_)
 .have hu:=aC.hu;obtain⟨p,ap,fp,rfl,b8,q⟩:=h;obtain⟨dx,a,b,bs,rfl,ay,aD,cj,cS,ht,dq⟩:=id b8;refine⟨_,(b0 (c9 (iv (lF (K:=K) rfl) (by rfl) T.j qaG %[fW (K:=K) rfl (pv 0) rfl|2]))),?_⟩
  walk_at "a"
  nofun;refine Rd.Vk (.of cS) (λl eu=>?_);exact q l _ bs eu (cF eu) Ze (dq.keep ((cF eu).frame (A:=[])).tups)
inductive EF(vs:List V)(H:Hp)(Q:VK)(cR:XK):Prop
 |mk (p:Addr) (ap:HM) (fp:List Addr) (de:vs=[.ref p]) (cK:dr T H p ap fp) (cO:ap.names.length<=1000) (dm:ap.belts.length<=1000) (dI:Z0 ap.belts ap.names.length) (ef:∀(r:Addr)(ck:List Addr)(aj:Hp),H r=none->Zd H aj->Zcv aj r ck ap.names.length (gm ap.belts)->Q (.ref r) aj):EF vs H Q cR
theorem M9:OkN P w base 2 T.ba (EF T):=by
 have gf:=T.a;have gg:=T.c;refine T.ba.F.okX uu (by walk_at "l") (λcD A outer s H vs Q E aC h=>?_)
 .have hu:=aC.hu;obtain⟨p,ap,fp,rfl,b8,b',bU,dN,q⟩:=h;refine⟨_,(bN (Jz (j:=1) (xs:=["name"]) rfl (eB (x:="name") (zs:=[]) (ix:=[]) (cs xu) ["hall","ways","belt","row"] rfl rfl (by decide+kernel)) (eG (K:=K) rfl (kg (pv 0) T.a T.af (qo T) aC cG)) (λcl C s H fp=>⟨%[cr,0,(show(["name"]:List Str).Nodup by decide+kernel)|1],e5,(fA bG)⟩) uu.nd rfl (Or.inl rfl))
     (bN (d4 PassesOwn.leaving rfl (kh (K:=K) rfl rfl T.i %[kg (pv 0) T.a T.ag (qp T) aC cG|2]) (e7 (K:=K) (n:=2) rfl rfl (c_ %[cr,2,uu.nd|1] (c_ %[cr,3,uu.nd|1] e0))) (bN (et (hA (K:=K) rfl qan qay qaz iy %[1,%[3,bM|0]|0] %[fz %[%[3,bM|0],2,Wr|2]|2]))
     (b0 (et (hA (K:=K) rfl qan qay qaz iy %[1,%[3,bM|0]|0] %[fz %[%[3,bM|0],2,Wr|2]|2])))))
     (b0 (c9 (pv 1))))),?_⟩
  walk_at "a"
  nofun;refine⟨p,ap,fp,rfl,b8,λnm aA jv a' sC=>?_⟩;nofun;refine ZiG (own:=1) (eF (SqL.of sC)).y (ed (by rw[GM];exact b')) (λi=>[some ((ap.names.map V.str).getD i .non)]) (λ_=>rfl) (λi c6 aj v aP f7 hi bI y sD k=>?_) (λi aj cQ hi bI k=>?_) (λr aP ck aC bQ gd ds fY jj=>?_)
  .obtain⟨rfl,rfl⟩:=y;obtain⟨x1,rfl⟩:∃x1,c6=[x1]:=by
    match c6,sD with
    | [x1],_=>exact⟨x1,rfl⟩
   nofun;exact k _ (Zd.refl _)
  .exact k
  rw[GM] at ds;have qq:=a'.trans bQ;have gN:=b8.same qq;have ku:H r=none:=ft a' aC;have EG:∀x∈ck,H x=none:=λx ar=>ft a' (jj x ar).1;have EH:∀x∈ck,r≠x:=λx ar z=>(jj x ar).2.1 z.symm;nofun;intro u b5 bs sE bV ih c1;have ej:=c1.length;have EI:∀x∈ck,u≠x:=λx ar z=>by
   have:=(jj x ar).2.2;rw[<-z,sE] at this;cases this
  nofun;refine Ym (ki (SqL.of (rJ (q:=u) (o:= .lst bs)))) (λk ao aj=>∃(a1 a2:Option V),ao=[some (.ref p),some (.ref r),a1,a2]/\Zd H aj/\aj u=some (.lst bs)/\aj r=some (.lst (ck.map V.ref))/\ev aj bs ap.belts/\WA aj ck (kY ap.belts k)/\∀(j:Nat)(h:j<ck.length) vs,aj ck[j]=some (.lst vs)->vs.length<=2*k)
   ⟨_,_,rfl,qq.trans bV,ih,bV _ _ gd,c1,λj bP=>⟨[],bV _ _ (jj _ (GE bP)).2.2,.nil⟩,λj bP vs e=>?_⟩ ?_ ?_ ?_
  .rw[bV _ _ (jj _ (GE bP)).2.2] at e;cases e;exact qar _
  .rintro k ao aj ⟨_,_,_,_,h,_⟩;exact Uj h
  .rintro k ao bZ v b4 bH ⟨a1,a2,rfl,cd,uY,hq,gc,sF,hsz⟩ ⟨t,bY,rfl,rfl⟩;have iL:k<ap.belts.length:=by omega
   obtain⟨eh,g1,hf,iJ⟩:=dN.at iL;obtain⟨cN,fV,ig⟩:=gc.getD iL;rw[fV];refine Rd.Yv (.of Ze) rfl ?_;have cB:Zd bZ (upd bZ t (.tup [.int k,.ref cN])):=cF bY;generalize upd bZ t (.tup [.int k,.ref cN])=b4 at*;have M_:∀j:Int,kY ap.belts (k+1) j=(kY ap.belts k j++(if(ap.belts.getD k dB).giver=j then[((ap.belts.getD k dB).taker,(k:Int),true)] else[]))++(if(ap.belts.getD k dB).taker=j then[((ap.belts.getD k dB).giver,(k:Int),false)] else[]):=λj=>by
    rw[ZhN,oS,qbp]
   generalize ap.belts.getD k dB=b at*;have EJ:=cB _ _ ig;dsimp only[B5.v] at EJ;have lZ:=cB _ _ hq;have yW:=sF.same cB;have gq:b.giver.toNat<ck.length:=by omega
   have dS:b.taker.toNat<ck.length:=by omega
   have U5:=Ze9 eh gq;have U7:=Ze9 hf dS;have f9:((b.giver.toNat:Nat):Int)=b.giver:=qaB eh;have dt:((b.taker.toNat:Nat):Int)=b.taker:=qaB hf;obtain⟨vs,pf,M'⟩:=yW b.giver.toNat gq;have yX:∀(j:Nat)(h:j<ck.length) vs,b4 ck[j]=some (.lst vs)->vs.length<=2*k:=λj bP us e=>by
    obtain⟨EK,ay,_⟩:=sF j bP;have:=cB _ _ ay;rw[e] at this;cases this;exact hsz j bP _ ay
   have U8:vs.length<sizeLine:=jm (by have:=yX _ gq _ pf;omega);nofun;refine⟨by show 3<=sizeLine;decide,λd9 dJ=>?_⟩;have c8:Zd b4 (upd b4 d9 (.tup [.int b.taker,.int k,.bl true])):=cF dJ;have qr:(upd b4 d9 (.tup [.int b.taker,.int k,.bl true])) d9=some (.tup [.int b.taker,.int k,.bl true]):=Ze;generalize upd b4 d9 (.tup [.int b.taker,.int k,.bl true])=cZ at*;have EL:=c8 _ _ pf;nofun;have yY:=(yW.same c8).add fY gq EL (M'.keep λ_ _ e=>c8 _ _ e) (x:=(b.taker,(k:Int),true)) qr;have yZ:r≠ck[b.giver.toNat]:=EH _ (GE gq);have Na:u≠ck[b.giver.toNat]:=EI _ (GE gq);have so:(upd cZ ck[b.giver.toNat] (.lst (vs++ [.ref d9]))) r=some (.lst (ck.map V.ref)):=by rw[b3 yZ];exact c8 _ _ lZ
   have Nb:(upd cZ ck[b.giver.toNat] (.lst (vs++ [.ref d9]))) u=some (.lst bs):=by rw[b3 Na];exact c8 _ _ (cB _ _ uY)
   have m3:∀c xs,cZ c=some (.tup xs)->(upd cZ ck[b.giver.toNat] (.lst (vs++ [.ref d9]))) c=some (.tup xs):=λc xs e=>by rw[b3 (e_ e EL (by intro z;cases z))];exact e
   have y0:=m3 _ _ (c8 _ _ EJ);have y1:ev (upd cZ ck[b.giver.toNat] (.lst (vs++ [.ref d9]))) bs ap.belts:=((gc.keep λ_ _ e=>cB _ _ e).keep λ_ _ e=>c8 _ _ e).keep m3;have Nc:Zd H (upd cZ ck[b.giver.toNat] (.lst (vs++ [.ref d9]))):=((cd.trans cB).trans c8).new (EG _ (GE gq));have y2:∀(j:Nat)(h:j<ck.length) us,(upd cZ ck[b.giver.toNat] (.lst (vs++ [.ref d9]))) ck[j]=some (.lst us)->us.length<=2*k+1:=λj bP us e=>by
    by_cases z:j=b.giver.toNat
    .subst z;rw[Ze] at e;cases e;have:=yX _ gq _ pf;simp;omega
    .have ne:ck[j]≠ck[b.giver.toNat]:=λy=>z (r2 fY bP gq y);rw[b3 ne] at e;obtain⟨EK,ay,_⟩:=yW j bP;have:=c8 _ _ ay;rw[e] at this;cases this;have:=yX j bP _ ay;omega
   generalize upd cZ ck[b.giver.toNat] (.lst (vs++ [.ref d9]))=di at*;obtain⟨us,hc,h8⟩:=yY b.taker.toNat dS;have U9:us.length<sizeLine:=jm (by have:=y2 _ dS _ hc;omega);nofun;refine⟨by show 3<=sizeLine;decide,λij fu=>?_⟩;have d2:Zd di (upd di ij (.tup [.int b.giver,.int k,.bl false])):=cF fu;have sG:(upd di ij (.tup [.int b.giver,.int k,.bl false])) ij=some (.tup [.int b.giver,.int k,.bl false]):=Ze;generalize upd di ij (.tup [.int b.giver,.int k,.bl false])=eJ at*;have EM:=d2 _ _ hc;nofun;have EN:=(yY.same d2).add fY dS EM (h8.keep λ_ _ e=>d2 _ _ e) (x:=(b.giver,(k:Int),false)) sG;have Nd:r≠ck[b.taker.toNat]:=EH _ (GE dS);have Nf:u≠ck[b.taker.toNat]:=EI _ (GE dS);have Ng:∀c xs,eJ c=some (.tup xs)->(upd eJ ck[b.taker.toNat] (.lst (us++ [.ref ij]))) c=some (.tup xs):=λc xs e=>by rw[b3 (e_ e EM (by intro z;cases z))];exact e
   refine⟨_,_,rfl,(Nc.trans d2).new (EG _ (GE dS)),by rw[b3 Nf];exact d2 _ _ Nb,by rw[b3 Nd];exact d2 _ _ so,(y1.keep λ_ _ e=>d2 _ _ e).keep Ng,?_,λj bP ws e=>?_⟩
   .have Nh:(λj=>(λj=>kY ap.belts k j++(if((b.giver.toNat:Nat):Int)=j then[(b.taker,(k:Int),true)] else[])) j++(if((b.taker.toNat:Nat):Int)=j then[(b.giver,(k:Int),false)] else[]))=kY ap.belts (k+1):=by
     funext j
     rw[M_ j,f9,dt]
    rw[Nh] at EN;exact EN
   .by_cases z:j=b.taker.toNat
    .subst z;rw[Ze] at e;cases e;have:=y2 _ dS _ hc;simp;omega
    .have ne:ck[j]≠ck[b.taker.toNat]:=λy=>z (r2 fY bP dS y);rw[b3 ne] at e;obtain⟨EK,ay,_⟩:=yY j bP;have:=d2 _ _ ay;rw[e] at this;cases this;have:=y2 j bP _ ay;omega
  .rintro ao bZ ⟨a1,a2,rfl,cd,uY,hq,gc,sF,hsz⟩;rw[ej] at sF;nofun;exact q r ck bZ ku cd ⟨hq,ds,fY,sF⟩
inductive EO(T:Tp K mg)(vs:List V)(H:Hp)(Q:VK)(cR:XK):Prop
 |mk (r:Addr) (ck:List Addr) (n:Nat) (W:Int->List Fo.Trip) (first:Int) (de:vs=[.ref r,.int first]) (cK:Zcv H r ck n W) (cO:n<=1000) (dm:(∀a,∀t∈W a,0<=t.1/\t.1<(n:Int))) (dI:0<=first) (ef:first<(n:Int)) (eR:∀(d:Addr)(aj:Hp)(b2:Fo.ZY),H d=none->Zd H aj->Vw aj d b2->Fo.Wd W first b2->Fo.Uu W b2 b2.length->Q (.ref d) aj):EO T vs H Q cR
theorem Ni:OkN P w base 1 T.bb (EO T):=by
 refine T.bb.F.okX mR (by walk_at "l") (λcD A outer s H vs Q E aC h=>?_)
 .have hu:=aC.hu;obtain⟨r,ck,n,W,first,rfl,hw,b',jX,ea,f1,q⟩:=h;have ds:=hw.len;refine⟨_,(bN %[cA,2,mR.nd,I3 (I1 (pv 1) Ue ZmT) rfl rfl (by simp) (by decide)|1]
     (bN %[cA,3,mR.nd,fA %[1|2]|1]
     (bN %[cA,4,mR.nd,bM|1]
     (bN (v6 PassesOwn.leaving (dW tz (pv 4) (dk (fb K) (by rfl) T.f qal %[3|2]) (dD _)) (bN %[cA,5,mR.nd,%[3,4|0]|1]
     (bN (AL (i:=4) mR.nd rfl (Or.inl rfl) bM q0)
     (b0 (d4 PassesOwn.leaving rfl (eG (K:=K) rfl %[0,5|0]) (e7 (K:=K) (n:=3) rfl rfl (c_ %[cr,6,mR.nd|1] (c_ %[cr,7,mR.nd|1] (c_ %[cr,8,mR.nd|1] e0)))) (b0 (dO (dW (BI hu) (pv 6) (pv 2) (by with_unfolding_all rfl)) (bN (hN (fz %[5,7,8|2]) (iN (pv 2) (pv 6) (tX hu)))
     (b0 (et (hA (K:=K) rfl qan qay qaz iy (pv 3) %[6|2])))) dV)))))))
     (b0 (c9 (pv 2))))))),?_⟩
  walk_at "a"
  nofun;intro d hd;dsimp only[tM];nofun;refine⟨Ze,[(Sum.inl first,.non)],rfl,by simp,?_⟩;have l5:(upd (upd H d (.dK [])) d (.dK (g7 [] [(Sum.inl first,.non)]))) d=some (.dK [(Sum.inl first,.non)]):=Ze;have a':Zd H (upd (upd H d (.dK [])) d (.dK (g7 [] [(Sum.inl first,.non)]))):=(cF hd).new hd;generalize upd (upd H d (.dK [])) d (.dK (g7 [] [(Sum.inl first,.non)]))=aA at*;nofun;refine(λc a_=>?_);have bQ:Zd aA (upd aA c (.lst [V.int first])):=cF a_;have hQ:(upd aA c (.lst [V.int first])) c=some (.lst ((Fo.keys [(first,none)]).map V.int)):=Ze;have kM:=bQ _ _ l5;have u7:H c=none:=ft a' a_;have EQ:c≠d:=λz=>by rw[z,l5] at a_;cases a_
  generalize upd aA c (.lst [V.int first])=aP at*;have gE:=a'.trans bQ;have dJ:Vw aP d [(first,none)]:=⟨_,kM,.cons ⟨rfl,rfl⟩ .nil⟩;clear l5 kM a' bQ a_;nofun;refine ZgE (λm ao aj=>∃(b2:Fo.ZY)(i3:Nat)(a1 a2 a3 a4:Option V),ao=[some (.ref r),some (.int first),some (.ref d),some (.ref c),some (.int i3),a1,a2,a3,a4]/\Zd H aj/\Vw aj d b2/\aj c=some (.lst ((Fo.keys b2).map V.int))/\i3<=b2.length/\Fo.Wd W first b2/\Fo.Uu W b2 i3/\m=n+1-i3) (n+1)
   ⟨[(first,none)],0,_,_,_,_,rfl,gE,dJ,hQ,qar _,Fo.Zkf,λj w s bP=>absurd bP (qbS _),rfl⟩ ?_
  rintro m ao b5 ⟨b2,i3,a1,a2,a3,a4,rfl,bV,fu,l6,qt,bR,ib,rfl⟩;have iL:((Fo.keys b2).map V.int).length=b2.length:=by simp[Fo.keys]
  have ph:b2.length<=n:=by
   have:=Fo.Zcu (n:=n) bR.nodup (bR.rg ⟨ea,f1⟩ jX);simpa[Fo.keys] using this
  nofun;rw[iL];refine Rd.ifD (λz=>?_) (λz=>?_)
  .have oK:i3<b2.length:=by omega
   obtain⟨⟨w,st⟩,f5⟩:∃x,b2[i3]? =some x:=⟨b2[i3],fm oK⟩;have Nj:=Fo.ZdO f5;obtain⟨ey,eL⟩:=bR.rg ⟨ea,f1⟩ jX w Nj;have eZ:atI ((Fo.keys b2).map V.int) (i3:Int)=some (.int w):=iT (by rw[qao];unfold Fo.keys;rw[qao,f5];rfl);have h4:w.toNat<ck.length:=by omega
   have Nk:=Ze9 ey h4;have y3:=hw.same bV;have sv:=y3.at_;obtain⟨vs,ER,pf⟩:=hw.wa w.toNat h4;rw[qaB ey] at pf;have U_:=bV _ _ ER;have sm:=pf.length;refine Zju ?_;nofun;refine⟨_,rfl,?_⟩;nofun;refine Yr (eF (SqL.of ER)) (λj ao aj=>∃(b2:Fo.ZY)(a2 a3 a4:Option V),ao=[some (.ref r),some (.int first),some (.ref d),some (.ref c),some (.int (i3+1)),some (.int w),a2,a3,a4]/\Zd H aj/\Vw aj d b2/\aj c=some (.lst ((Fo.keys b2).map V.int))/\Fo.Wd W first b2/\Fo.Uu W b2 i3/\b2[i3]? =some (w,st)/\∀t∈(W w).take j,t.1∈Fo.keys b2)
    ⟨b2,_,_,_,rfl,bV,fu,l6,bR,ib,f5,by simp⟩ (λj ao aj ⟨_,_,_,_,_,s,_⟩=>s) ?_ ?_
   .rintro j ao bZ bP ⟨b2,a2,a3,a4,rfl,cd,⟨kvs,qu,jY⟩,nR,bR,ib,f5,h5⟩;have fc:j<(W w).length:=by omega
    obtain⟨t,eC,gD⟩:=pf.at (fm fc);have c7:vs.getD j .non= .ref t:=by simp[List.getD,eC]
    rw[c7];have ES:(W w)[j]∈W w:=GE fc;have lB:(W w).take (j+1)=(W w).take j++ [(W w)[j]]:=qac fc;have o4:=cd _ _ gD;have m0:=jX w _ ES;generalize (W w)[j]=x at*;obtain⟨o,b,al⟩:=x;refine Rd.Yv (.of o4) rfl ?_;dsimp only at*;have ph:b2.length<=n:=by
     have:=Fo.Zcu (n:=n) bR.nodup (bR.rg ⟨ea,f1⟩ jX);simpa[Fo.keys] using this
    have sH:kvs.length<sizeLine:=ed (by rw[jY.length];omega);have U':((Fo.keys b2).map V.int).length<sizeLine:=ed (by simp[Fo.keys];omega);nofun;have hs:=jY.some (w:=o)
    by_cases b6:o∈Fo.keys b2
    .rw[hs.mpr b6];nofun;refine⟨b2,_,_,_,rfl,cd,⟨kvs,qu,jY⟩,nR,bR,ib,f5,?_⟩;rw[lB];intro t' jV;rcases qaD.mp jV with y|y
     .exact h5 t' y
     .rw[qab.mp y];exact b6
    .have my:valV kvs (Sum.inl o)=none:=by
      cases e:valV kvs (Sum.inl o) with
      |none=>rfl
      |some v=>exact absurd (hs.mp (by rw[e];rfl)) b6
     rw[my,Option.isSome_none];nofun;refine⟨by show 3<=sizeLine;decide,λd9 dJ=>?_⟩;have cB:Zd bZ (upd bZ d9 (.tup [.int w,.int b,.bl al])):=cF dJ;have Nl:(upd bZ d9 (.tup [.int w,.int b,.bl al])) d9=some (.tup [.int w,.int b,.bl al]):=Ze;have pi:=cB _ _ qu;have sx:=cB _ _ nR;have Nn:Ent (upd bZ d9 (.tup [.int w,.int b,.bl al])) kvs b2:=jY.keep λ_ _ e=>cB _ _ e;generalize upd bZ d9 (.tup [.int w,.int b,.bl al])=b4 at*;nofun;rw[Za1 _ my];have sI:∀a xs,b4 a=some (.tup xs)->(upd b4 d (.dK (kvs++ [(Sum.inl o,.ref d9)]))) a=some (.tup xs):=λa xs e=>by rw[b3 (e_ e pi (by intro z;cases z))];exact e
     have D6:(upd b4 d (.dK (kvs++ [(Sum.inl o,.ref d9)]))) c=some (.lst ((Fo.keys b2).map V.int)):=by rw[b3 EQ];exact sx
     have y4:(upd b4 d (.dK (kvs++ [(Sum.inl o,.ref d9)]))) d=some (.dK (kvs++ [(Sum.inl o,.ref d9)])):=Ze;have y5:=(Nn.keep sI).snoc (w:=o) (v:= .ref d9) (s:=some (w,b,al)) ⟨d9,rfl,sI _ _ Nl⟩;have c8:Zd H (upd b4 d (.dK (kvs++ [(Sum.inl o,.ref d9)]))):=(cd.trans cB).new hd;generalize upd b4 d (.dK (kvs++ [(Sum.inl o,.ref d9)]))=cZ at*;nofun;have ET:=(qad.mp f5).1;refine⟨b2++ [(o,some (w,b,al))],_,_,_,rfl,c8.new u7,⟨_,by rw[b3 EQ.symm];exact y4,y5.keep λa xs e=>by rw[b3 (e_ e D6 (by intro z;cases z))];exact e⟩,?_,bR.snoc f5 ES b6,ib.snoc ∅ _ _,Fo.ZcO f5,?_⟩
     .rw[Ze,Fo.Zal,qaF];rfl
     .rw[lB,Fo.Zal];intro t' jV;rcases qaD.mp jV with y|y
      .exact qbe _ (h5 t' y)
      .rw[qab.mp y];exact qaw _ (qab.mpr rfl)
   .rintro ao bZ ⟨b2,a2,a3,a4,rfl,cd,gD,nR,bR,ib,f5,h5⟩;rw[<-sm,qaO] at h5;have ET:=(qad.mp f5).1;nofun;exact⟨n+1-(i3+1),∅,b2,i3+1,_,_,_,_,rfl,cd,gD,nR,ET,bR,ib.next f5 h5,rfl⟩
  .have e:i3=b2.length:=by omega
   subst e;nofun;exact q d b5 b2 hd bV fu bR ib
inductive EU(vs:List V)(H:Hp)(Q:VK)(cR:XK):Prop
 |mk (p:Addr) (ap:HM) (fp:List Addr) (de:vs=[.ref p]) (cK:dr T H p ap fp) (cO:ap.names.length<=60) (dm:ap.belts.length<=1000) (dI:Z0 ap.belts ap.names.length) (ef:∀(f:Addr)(cq:List Addr)(aj:Hp)(F:List (Int×Fo.ZY)),H f=none->Zd H aj->Zk1 aj f cq F->(∀d∈cq,H d=none)->Fo.Vq (gm ap.belts) ap.names.length F ap.names.length->F.length<=ap.names.length->Q (.ref f) aj):EU vs H Q cR
theorem No:OkN P w base 3 T.bc (EU T):=by
 refine T.bc.F.okX p1 (by walk_at "l") (λcD A outer s H vs Q E aC h=>?_)
 .have hu:=aC.hu;obtain⟨p,ap,fp,rfl,b8,b',bU,dN,q⟩:=h;refine⟨_,(bN %[cA,1,p1.nd,c2 T.ba (M9 T) aC cG %[0|2]|1]
     (bN %[cA,2,p1.nd,wu|1]
     (bN %[cA,3,p1.nd,fA bG|1]
     (bN (d4 PassesOwn.leaving rfl (g4 rfl T.h %[dk (fb K) (by rfl) T.f qal %[1|2]|2]) %[cr,4,p1.nd|1] (b0 (dO (dW (BI hu) (pv 4) (pv 2) (by with_unfolding_all rfl)) (bN %[cA,5,p1.nd,c2 T.bb (Ni T) aC cG %[1,4|2]|1]
     (bN (et (hA (K:=K) rfl qb9 PySem.F.slot_dict_update PySem.F.type_dict_update JF (pv 2) %[5|2]))
     (b0 (et (hA (K:=K) rfl qan qay qaz iy (pv 3) %[5|2]))))) dV)))
     (b0 (c9 (pv 3))))))),?_⟩
  walk_at "a"
  nofun;refine⟨p,ap,fp,rfl,b8,∅,bU,dN,λr ck aA aC a' y6=>?_⟩;nofun;intro gM ik;have bQ:Zd aA (upd aA gM (.dK [])):=cF ik;have fa:(upd aA gM (.dK [])) gM=some (.dK []):=Ze;have Ve:H gM=none:=ft a' ik;generalize upd aA gM (.dK [])=aP at*;nofun;refine⟨qar _,λf bS=>?_⟩;have bV:Zd aP (upd aP f (.lst [])):=cF bS;have lg:(upd aP f (.lst [])) f=some (.lst (([]:List Addr).map V.ref)):=Ze;have Np:=bV _ _ fa;have EV:aA f=none:=ft bQ bS;have EW:H f=none:=ft a' EV;generalize upd aP f (.lst [])=b5 at*;have i2:=bQ.trans bV;have y3:=y6.same i2;have sv:=y3.at_;have h4:((ck.map V.ref).length:Int)=(ap.names.length:Int):=by rw[GM,y6.len]
  nofun;rw[h4];refine YT (n:=ap.names.length) (λi ao aj=>∃(kvs:List (Key×V))(cq:List Addr)(F:List (Int×Fo.ZY))(a1 a2:Option V),ao=[some (.ref p),some (.ref r),some (.ref gM),some (.ref f),a1,a2]/\Zd aA aj/\aj gM=some (.dK kvs)/\aj f=some (.lst (cq.map V.ref))/\hV aj cq F/\
   (∀d∈cq,d≠gM/\H d=none)/\kvs.length<=60*i/\(∀w:Int,(valV kvs (Sum.inl w)).isSome=true↔∃x∈F,w∈Fo.keys x.2)/\Fo.Vq (gm ap.belts) ap.names.length F i/\F.length<=i)
   ⟨[],[],[],_,_,rfl,i2,Np,lg,.nil,by simp,qar _,λw=>⟨λz=>(by cases z),λ⟨x,ar,_⟩=>(by cases ar)⟩,Fo.Zlo,qaa _⟩ ?_ ?_
  .rintro i ao bZ hi ⟨kvs,cq,F,a1,a2,rfl,cd,qv,lh,gc,h3,iL,hz,f_,y7⟩;rw[qbb];nofun;have hs:=hz (i:Int)
   by_cases ar:∃x∈F,(i:Int)∈Fo.keys x.2
   .rw[hs.mpr ar];nofun;exact⟨kvs,cq,F,_,_,rfl,cd,qv,lh,gc,h3,∅,hz,f_.skip ar,∅⟩
   .have my:(valV kvs (Sum.inl (i:Int))).isSome=false:=by
     cases e:(valV kvs (Sum.inl (i:Int))).isSome with
     |false=>rfl
     |true=>exact absurd (hs.mp e) ar
    rw[my];nofun;refine⟨r,ck,ap.names.length,gm ap.belts,(i:Int),rfl,y6.same cd,∅,UV dN,∅,∅,λd b4 b2 u8 cB o4 bR ib=>?_⟩;obtain⟨more,pi,jY⟩:=id o4;have y8:gM≠d:=dh qv u8;have u9:=cB _ _ qv;have u_:=cB _ _ lh;have kD:=gc.same cB;have Nq:=bR.rg (n:=(ap.names.length:Int)) ⟨∅,∅⟩ (UV dN);have ia:b2.length<=ap.names.length:=by
     have:=Fo.Zcu (n:=ap.names.length) bR.nodup Nq;simpa[Fo.keys] using this
    have hC:more.length<=60:=by rw[jY.length];omega
    nofun;refine⟨.inr (.inr (.inl ⟨rfl,.inl ⟨_,u9⟩⟩)),?_⟩;nofun;refine Rd.Zpy y8 u9 pi (qbh (jm ∅)) ?_;have Nr:=Dc more kvs;have EX:=tN more kvs;have sI:∀a xs,b4 a=some (.tup xs)->(upd b4 gM (.dK (g7 kvs more))) a=some (.tup xs):=λa xs e=>by rw[b3 (e_ e u9 (by intro z;cases z))];exact e
    have y9:(upd b4 gM (.dK (g7 kvs more))) gM=some (.dK (g7 kvs more)):=Ze;have u':(upd b4 gM (.dK (g7 kvs more))) f=some (.lst (cq.map V.ref)):=by rw[b3 (e_ u_ u9 (by intro z;cases z))];exact u_
    have y4:Vw (upd b4 gM (.dK (g7 kvs more))) d b2:=⟨more,by rw[b3 y8.symm];exact pi,jY.keep sI⟩;have yD:hV (upd b4 gM (.dK (g7 kvs more))) cq F:=kD.keep sI (λd' ip gv e=>by rw[b3 (h3 d' ip).1];exact e);have c8:Zd aA (upd b4 gM (.dK (g7 kvs more))):=(cd.trans cB).new ik;generalize upd b4 gM (.dK (g7 kvs more))=cZ at*;have Vf:(cq.map V.ref).length<sizeLine:=ed (by rw[GM,gc.length];omega);nofun;have m3:∀a xs,cZ a=some (.tup xs)->(upd cZ f (.lst (cq.map V.ref++ [.ref d]))) a=some (.tup xs):=λa xs e=>by rw[b3 (e_ e u' (by intro z;cases z))];exact e
    have y_:∀a gv,cZ a=some (.dK gv)->(upd cZ f (.lst (cq.map V.ref++ [.ref d]))) a=some (.dK gv):=λa gv e=>by rw[b3 (e_ e u' (by intro z;cases z))];exact e
    obtain⟨Nt,Nu,y5⟩:=y4;refine⟨g7 kvs more,cq++ [d],F++ [((i:Int),b2)],_,_,rfl,c8.new EV,y_ _ _ y9,by rw[Ze,qaF];rfl,(yD.keep m3 λd' _ gv e=>y_ _ _ e).snoc ⟨Nt,y_ _ _ Nu,y5.keep m3⟩,λd' ip=>?_,∅,λw=>?_,f_.grow (uy _) (UV dN) hi (λx kk bH=>ar ⟨x,kk,bH⟩) bR ib,by simp;omega⟩
    .rcases qaD.mp ip with z|z
     .exact h3 d' z
     .rw[qab.mp z];exact⟨y8.symm,ft (a'.trans cd) u8⟩
    .rw[Nr,Bool.or_eq_true,hz w,jY.some]
     constructor
     .rintro(⟨x,kj,kZ⟩|z)
      .exact⟨x,qbe _ kj,kZ⟩
      .exact⟨_,qaw _ (qab.mpr rfl),z⟩
     .rintro⟨x,kj,kZ⟩;rcases qaD.mp kj with z|z
      .exact .inl ⟨x,z,kZ⟩
      .rw[qab.mp z] at kZ;exact .inr kZ
  .rintro ao bZ ⟨kvs,cq,F,a1,a2,rfl,cd,qv,lh,gc,h3,iL,hz,f_,y7⟩;nofun;exact q f cq bZ F EW (a'.trans cd) ⟨lh,gc⟩ (λd hd=>(h3 d hd).2) f_ y7
inductive UC(T:Tp K mg)(vs:List V)(H:Hp)(Q:VK)(cR:XK):Prop
 |mk (a b:Nat) (de:vs=[.int a,.int b]) (cK:Q (.int (Nat.gcd a b:Nat)) H):UC T vs H Q cR
theorem Zjg{T:Tp K mg}{H:Hp}{Q:VK}{E:XK}{a b:Nat}(q:Q (.int (Nat.gcd a b:Nat)) H):UC T ([.int a,.int b]++ []) H Q E:=⟨a,b,rfl,q⟩
local macro_rules| `(tactic|walk_at "rd")=>`(tactic|first|((with_reducible show _N.UC _ _ _ _ _);with_reducible refine _N.Zjg ?_)|fail "none here")
theorem y':OkN P w base 1 T.aK (UC T):=by
 refine T.aK.F.okX uv (by walk_at "l") (λcD A outer s H vs Q E aC h=>?_)
 .have hu:=aC.hu;obtain⟨a0,eO,rfl,q⟩:=h;rw[<-My.Zep] at q;refine⟨_,(bN (v6 PassesOwn.leaving (dW mw (pv 1) bM (dD _)) (bN %[cA,2,uv.nd,cm eI (pv 0) (pv 1)|1]
     (bN %[cA,0,uv.nd,1|1]
     (b0 %[cA,1,uv.nd,2|1]))))
     (b0 (c9 (pv 0)))),?_⟩
  walk_at "a"
  walk_at "rd";refine ZgE (λm ao aj=>aj=H/\∃(x y:Int)(r:Option V),m=y.toNat/\ao=[some (.int x),some (.int y),r]/\0<=x/\0<=y/\My.G x y=My.G a0 eO) _ ⟨rfl,a0,eO,none,rfl,rfl,∅,∅,rfl⟩ ?_;rintro m ao aj ⟨rfl,x,y,r,rfl,rfl,ar,bW,f8⟩;nofun;refine Zbh (λc=>Zju ?_) (λc=>?_)
  .have nM:0<y:=of_decide_eq_true c;nofun;exact⟨_,(by have:=qa5 x (show y≠0 by omega);have:=qa3 x nM;omega),rfl,y,x % y,some (.int (x % y)),rfl,rfl,bW,qa5 x ∅,(Db ar nM).trans f8⟩
  .have nM:¬0<y:=λz=>c (decide_eq_true z);have e:x=My.G a0 eO:=by rw[<-f8,My.ZjK ar (show y=0 by omega)]
   nofun;rw[e];exact q
inductive EY(T:Tp K mg)(vs:List V)(H:Hp)(Q:VK)(cR:XK):Prop
 |mk (a b:Nat) (de:vs=[.int a,.int b]) (cK:0<b) (cO:b<2 ^ 8000) (dm:∀(p:Addr)(aj:Hp),H p=none->Zd H aj->aj p=some (.tup [.int (a / Nat.gcd a b:Nat),.int (b / Nat.gcd a b:Nat)])->Q (.ref p) aj):EY T vs H Q cR
theorem za:OkN P w base 2 T.aL (EY T):=by
 refine T.aL.F.okX C5 (by walk_at "l") (λcD A outer s H vs Q E aC h=>?_)
 .have hu:=aC.hu;obtain⟨a,b,rfl,eO,gl,q⟩:=h;have lL:0<Nat.gcd a b:=qb1 _ eO;have gq:Nat.gcd a b<2 ^ 8000:=qaM (qbk eO (qba a b)) gl;have Nv:=Zlv (a:=a) lL gq;refine⟨_,(bN %[cA,2,C5.nd,c2 T.aK (y' T) aC cG %[0,1|2]|1]
     (b0 (c9 (fz %[cm fo (pv 0) (pv 2),cm fo (pv 1) (pv 2)|2])))),?_⟩
  walk_at "a"
  nofun;refine⟨by show 2<=sizeLine;decide,λp bO=>?_⟩;exact q p _ bO (cF bO) Ze
inductive EZ(T:Tp K mg)(vs:List V)(H:Hp)(Q:VK)(cR:XK):Prop
 |mk (p q:Addr) (x y u v n m:Nat) (de:vs=[.ref p,.ref q]) (cK:H p=some (.tup [.int x,.int y])) (cO:H q=some (.tup [.int u,.int v])) (dm:0<y) (dI:0<v) (ef:x<2 ^ n) (eR:y<2 ^ n) (fw:u<2 ^ m) (gT:v<2 ^ m) (jt:n+m<=8000) (kx:∀(r:Addr)(aj:Hp),H r=none->Zd H aj->aj r=some (.tup [.int (x*u / Nat.gcd (x*u) (y*v):Nat),.int (y*v / Nat.gcd (x*u) (y*v):Nat)])->Q (.ref r) aj):EZ T vs H Q cR
theorem Nw:OkN P w base 3 T.bd (EZ T):=by
 refine T.bd.F.okX KZ (by walk_at "l") (λcD A outer s H vs Q E aC h=>?_)
 .have hu:=aC.hu;obtain⟨p,q,x,y,u,v,n,m,rfl,ay,aD,lK,nG,xs,ys,us,d6,nm,k⟩:=h;have hg:=Zfe xs us ∅;have h1:=Zfe ys d6 ∅;refine⟨_,(b0 (c9 (c2 T.aL (za T) aC cG %[cm fh %[0,bM|0] %[1,bM|0],cm fh %[0,bM|0] %[1,bM|0]|2]))),?_⟩
  walk_at "a"
  nofun;exact⟨x*u,y*v,rfl,qcl lK nG,qae (r4 ys d6) (qav (by decide) nm),k⟩
structure ZoH(b:B5)(cV ce:Nat):Prop where
 g:b.give=(cV:Int)
 t:b.take=(ce:Int)
 eh:0<cV
 hf:0<ce
 gq:cV<2 ^ 110
 dS:ce<2 ^ 110
inductive E1(T:Tp K mg)(vs:List V)(H:Hp)(Q:VK)(cR:XK):Prop
 |mk (t:Addr) (b:B5) (al:Bool) (cV ce:Nat) (de:vs=[.ref t,.bl al]) (cK:H t=some (.tup b.v)) (cO:ZoH b cV ce) (dm:∀(p:Addr)(aj:Hp)(x y:Nat),H p=none->Zd H aj->aj p=some (.tup [.int x,.int y])->(if al=true then x=cV / Nat.gcd cV ce/\y=ce / Nat.gcd cV ce else x=ce / Nat.gcd ce cV/\y=cV / Nat.gcd ce cV)->Q (.ref p) aj):E1 T vs H Q cR
theorem Nx:OkN P w base 3 T.be (E1 T):=by
 refine T.be.F.okX K0 (by walk_at "l") (λcD A outer s H vs Q E aC h=>?_)
 .have hu:=aC.hu;obtain⟨t,b,al,cV,ce,rfl,bY,sz,q⟩:=h;obtain⟨g,f0,eh,hf,gq,dS⟩:=sz;dsimp only[B5.v] at bY;rw[g,f0] at bY;have big:(2:Nat) ^ 110<=2 ^ 8000:=qav (by decide) (by decide);refine⟨_,(b0 (c9 (H1 (fX (K:=K) rfl (pv 1) (λ_=>rfl)) (c2 T.aL (za T) aC cG %[%[0,bM|0],%[0,bM|0]|2]) (c2 T.aL (za T) aC cG %[%[0,bM|0],%[0,bM|0]|2])))),?_⟩
  walk_at "a"
  nofun;unfold tIf;nofun;cases al with
  |true=>
   nofun;exact⟨cV,ce,rfl,hf,qae dS big,λp aj bO s h=>q p aj _ _ bO s h ⟨rfl,rfl⟩⟩
  |false=>
   nofun;exact⟨ce,cV,rfl,eh,qae gq big,λp aj bO s h=>q p aj _ _ bO s h ⟨rfl,rfl⟩⟩
inductive E2(vs:List V)(H:Hp)(Q:VK)(cR:XK):Prop
 |mk (p d:Addr) (ap:HM) (fp:List Addr) (kvs:List (Key×V)) (b2:Fo.ZY) (first:Int) (de:vs=[.ref p,.ref d]) (cK:dr T H p ap fp) (cO:d∉fp) (dm:_L.Rd H d (.dK kvs)) (dI:Ent H kvs b2) (ef:Fo.Wd (gm ap.belts) first b2) (eR:b2.length<=60) (fw:WS ap.belts) (gT:∀(e:Addr)(o:Obj)(aj:Hp)(ew:List (Key×V))(zs:List (Int×(Nat×Nat))),H e=none->Zd (upd H d (.frz o (.dK kvs))) aj->aj e=some (.dK ew)->ShE aj ew zs->jP ap.belts b2 zs b2.length->Q (.ref e) aj):E2 vs H Q cR
theorem Ny:OkN P w base 6 T.bf (E2 T):=by
 have gf:=T.a;have gg:=T.c;refine T.bf.F.okX uw (by walk_at "l") (λcD A outer s H vs Q E aC h=>?_)
 .have hu:=aC.hu;obtain⟨p,d,ap,fp,kvs,b2,first,rfl,b8,Nz,hd,jY,bR,ia,hsz,q⟩:=h;have iL:=jY.length;refine⟨_,(bN %[cA,2,uw.nd,wu|1]
     (bN (d4 PassesOwn.leaving rfl (BX (pv 1)) (e7 (K:=K) (n:=2) rfl rfl (c_ %[cr,3,uw.nd|1] (c_ %[cr,4,uw.nd|1] e0))) (b0 (dO (dW v_ (pv 4) Ue (dD _)) (b0 (hN (fz %[bM,bM|2]) (iN (pv 2) (pv 3) (tX hu)))) (b0 (hN (c2 T.bd (Nw T) aC cG %[cn (Jw hu) (pv 2) %[4,bM|0] (λ_ _=>rfl),c2 T.be (Nx T) aC cG %[hB (pv 0) T.a T.aH (yR T) aC cG %[%[4,bM|0]|2],%[4,bM|0]|2]|2]) (iN (pv 2) (pv 3) (tX hu)))))))
     (b0 (c9 (pv 2))))),?_⟩
  walk_at "a"
  nofun;intro e b9;have E3:d≠e:=λz=>Zfc hd (by rw[z];exact b9);have a':Zd H (upd H e (.dK [])):=cF b9;have qm:(upd H e (.dK [])) e=some (.dK []):=Ze;have l5:_L.Rd (upd H e (.dK [])) d (.dK kvs):=by
   rcases hd with h|⟨o,h⟩
   .exact .inl (a' _ _ h)
   .exact .inr ⟨o,a' _ _ h⟩
  generalize upd H e (.dK [])=aA at*;nofun;refine Rd.ZkR ?_;nofun;refine⟨d,kvs,rfl,l5,λo=>?_⟩;have zb:=r5 (o:=o) hd;have hv:dr T (upd H d (.frz o (.dK kvs))) p ap fp:=b8.off zb (λx ar z=>Nz (by rw[<-qab.mp z];exact ar));have NA:Ent (upd H d (.frz o (.dK kvs))) kvs b2:=jY.keep zb.tups;have E4:(upd H d (.frz o (.dK kvs))) e=none:=by rw[b3 E3.symm];exact b9
  have bV:Zd (upd H d (.frz o (.dK kvs))) (upd aA d (.frz o (.dK kvs))):=λb x c7=>by
   by_cases z:b=d
   .rw[z,Ze] at c7|-;exact c7
   .rw[b3 z] at c7|-;exact a' _ _ c7
  have zc:(upd H d (.frz o (.dK kvs))) d=some (.frz o (.dK kvs)):=Ze;have nV:(upd aA d (.frz o (.dK kvs))) e=some (.dK []):=by rw[b3 E3.symm];exact qm
  have NB:=λaj ew zs=>q e o aj ew zs b9;generalize upd aA d (.frz o (.dK kvs))=bZ at*;generalize upd H d (.frz o (.dK kvs))=b5 at*;clear q l5 qm a' zb;refine Ym (BY zc) (λi ao aj=>∃(ew:List (Key×V))(zs:List (Int×(Nat×Nat)))(a1 a2:Option V),ao=[some (.ref p),some (.ref d),some (.ref e),a1,a2]/\Zd b5 aj/\aj e=some (.dK ew)/\ShE aj ew zs/\jP ap.belts b2 zs i/\ew.length<=i)
   ⟨[],[],_,_,rfl,bV,nV,.nil,Ll,qaa _⟩ (λi ao aj ⟨_,_,_,_,_,s,_⟩=>s) ?_ ?_
  .rintro i ao b4 v cZ hi ⟨ew,zs,a1,a2,rfl,cB,m4,nl,gh,xQ⟩ ⟨t,kv,sJ,bY,rfl,rfl⟩;obtain⟨w,st,sK,fF,dM⟩:=Zn4 NA sJ;have ds:i<b2.length:=(qad.mp sK).1;have uB:=gh.len (qbh ds);have NC:w∉zs.map (·.1):=by
    rw[gh.keys];intro bL;obtain⟨j,bP,bX⟩:=qaq bL;rw[List.getElem_take] at bX;have fc:j<i:=by rw[qaI] at bP;omega
    have ND:j<(Fo.keys b2).length:=by rw[qaI] at bP;omega
    have E5:i<(Fo.keys b2).length:=by simp[Fo.keys];exact ds
    have h_:(Fo.keys b2)[i]=w:=by
     have:(Fo.keys b2)[i]? =some w:=by unfold Fo.keys;rw[qao,sK];rfl
     rw[fm E5] at this;exact qaC this
    have:=r2 bR.nodup ND E5 (bX.trans h_.symm);omega
   obtain⟨k,val⟩:=kv;dsimp only at fF dM;subst fF;refine Rd.Yv (.of Ze) rfl ?_;have ll:Zd b4 (upd b4 t (.tup [kV (Sum.inl w),val])):=cF bY;have c8:=cB.trans ll;have E6:=ll _ _ m4;have va:ShE (upd b4 t (.tup [kV (Sum.inl w),val])) ew zs:=nl.keep λ_ _ e=>ll _ _ e;generalize upd b4 t (.tup [kV (Sum.inl w),val])=cZ at*;have zd:kV (Sum.inl w)= .int w:=rfl;rw[zd];have sH:ew.length<sizeLine:=ed ∅;have my:=va.none NC;nofun;refine⟨rfl,?_⟩;cases st with
   |none=>
    have e3:val= .non:=dM;subst e3;nofun;refine⟨by show 2<=sizeLine;decide,λd9 dJ=>?_⟩;have d5:Zd cZ (upd cZ d9 (.tup [.int 1,.int 1])):=cF dJ;have hH:(upd cZ d9 (.tup [.int 1,.int 1])) d9=some (.tup [.int 1,.int 1]):=Ze;have ze:=d5 _ _ E6;have zf:ShE (upd cZ d9 (.tup [.int 1,.int 1])) ew zs:=va.keep λ_ _ e=>d5 _ _ e;generalize upd cZ d9 (.tup [.int 1,.int 1])=di at*;nofun;rw[Za1 _ my];have sL:∀a xs,di a=some (.tup xs)->(upd di e (.dK (ew++ [(Sum.inl w,.ref d9)]))) a=some (.tup xs):=λa xs cw=>by rw[b3 (e_ cw ze (by intro z;cases z))];exact cw
    refine⟨_,zs++ [(w,(1,1))],_,_,rfl,(c8.trans d5).new E4,Ze,(zf.keep sL).snoc (x:=(1,1)) (sL _ _ hH),gh.more ds sK ⟨by decide,by decide,by decide⟩ ⟨?_,?_⟩ (λ_=>rfl) (λp b al z=>by cases z),by simp;omega⟩
    .exact qae (by decide:(1:Nat)<2 ^ 1) (qav (by decide) ∅)
    .exact qae (by decide:(1:Nat)<2 ^ 1) (qav (by decide) ∅)
   |some x=>
    obtain⟨vb,b,al⟩:=x;obtain⟨d9,e3,dJ⟩:=dM;subst e3;have qr:=c8 _ _ dJ;obtain⟨NE,j,Vg,bP,NF⟩:=bR.steps i w vb b al sK;have NG:vb∈zs.map (·.1):=by
     rw[gh.keys];have bH:(Fo.keys b2)[j]? =some vb:=by unfold Fo.keys;rw[qao,NF];rfl
     have:((Fo.keys b2).take i)[j]? =some vb:=by rw[List.getElem?_take,if_pos bP];exact bH
     exact qau this
    obtain⟨y,ty,E7,Vh,jd⟩:=va.get NG;obtain⟨vd,zg⟩:=qbf E7;have fc:=(qad.mp zg).1;obtain⟨lK,iF,p6⟩:=gh.pos _ E7;obtain⟨ve,pj⟩:=gh.size vd _ zg;obtain⟨bi,uC,jT⟩:=V6 NE;have c7:b=(bi:Int):=by
     rw[Y6] at jT;rcases jT with⟨_,z⟩|⟨_,z⟩<;>(injection z with _ cO;injection cO)
    obtain⟨cV,ce,eh,hf,gq,dS,f9,dt⟩:=hsz bi uC;have zh:=hv.same c8;have NH:decide (V.ref d9=V.non)=false:=decide_eq_false (by intro z;cases z);rw[NH];nofun;refine⟨p,b,ap,fp,rfl,zh,λz=>absurd ⟨∅,∅⟩ z,λ_ _ cN B fC NI=>?_⟩;have p':ap.belts.getD bi dB=B:=by
     rw[c7,GT] at fC;simp[List.getD,fC]
    rw[p'] at f9 dt;nofun;refine⟨cN,B,al,cV,ce,rfl,NI,⟨f9,dt,eh,hf,gq,dS⟩,λij di u v fu d5 hH pk=>?_⟩;have b':110*vd+1+110<=110*i+1:=by omega
    have NJ:∃NK G2 M,NK=Nat.gcd M G2/\True:=⟨_,0,0,rfl,trivial⟩;have jk:∃nW gZ:Nat,0<nW/\0<gZ/\nW<2 ^ 110/\gZ<2 ^ 110/\u=nW / Nat.gcd nW gZ/\v=gZ / Nat.gcd nW gZ/\(∀x:Nat×Nat,x.1*y.2*gZ=y.1*x.2*nW->Bal B al x y):=by
     cases al with
     |true=>
      rw[if_pos rfl] at pk;refine⟨cV,ce,eh,hf,gq,dS,pk.1,pk.2,λx ar=>?_⟩;unfold Bal;rw[if_pos rfl,f9,dt,GT,GT];exact ar
     |false=>
      rw[if_neg (by decide)] at pk;refine⟨ce,cV,hf,eh,dS,gq,pk.1,pk.2,λx ar=>?_⟩;unfold Bal;rw[if_neg (by decide),f9,dt,GT,GT];exact ar
    clear pk NJ;obtain⟨nW,gZ,E8,E9,E_,E',vf,e3,k4⟩:=jk;have NL:u<2 ^ 110:=by rw[vf];exact qaM (qaN _ _) E_
    have fB:v<2 ^ 110:=by rw[e3];exact qaM (qaN _ _) E'
    have nG:0<v:=by
     rw[e3];exact qbV (qbk E9 (qba _ _)) (qbd _ E8)
    nofun;refine⟨ty,ij,y.1,y.2,u,v,110*vd+1,110,rfl,d5 _ _ jd,hH,iF,nG,ve,pj,NL,fB,∅,λlm eJ gD d2 lM=>?_⟩;obtain⟨bO,fV,NM,NN⟩:=Zi0 (y:=y) (u:=(u,v)) (x:=(y.1*u / Nat.gcd (y.1*u) (y.2*v),y.2*v / Nat.gcd (y.1*u) (y.2*v))) (n:=0) lK iF E8 E9 vf e3 rfl rfl rfl;have zi:=d5.trans d2;have qw:=zi _ _ E6;have sM:ShE eJ ew zs:=va.keep λ_ _ e=>zi _ _ e;nofun;rw[Za1 _ my];have sL:∀a xs,eJ a=some (.tup xs)->(upd eJ e (.dK (ew++ [(Sum.inl w,.ref lm)]))) a=some (.tup xs):=λa xs cw=>by rw[b3 (e_ cw qw (by intro z;cases z))];exact cw
    have NO:y.1*nW<2 ^ (110*i+1):=qae (r4 ve E_) (qav (by decide) b');have NP:y.2*gZ<2 ^ (110*i+1):=qae (r4 pj E') (qav (by decide) b');refine⟨_,zs++ [(w,(y.1*u / Nat.gcd (y.1*u) (y.2*v),y.2*v / Nat.gcd (y.1*u) (y.2*v)))],_,_,rfl,(c8.trans zi).new E4,Ze,(sM.keep sL).snoc (sL _ _ lM),gh.more ds sK bO ⟨qaM NM NO,qaM NN NP⟩ (λz=>by cases z) (λiR on al' z=>?_),by simp;omega⟩;cases z;refine⟨vd,y,zg,?_⟩;rw[c7,GT,p'];exact k4 _ fV
  .rintro ao b4 ⟨ew,zs,a1,a2,rfl,cB,m4,nl,gh,xQ⟩;rw[iL] at gh;nofun;exact NB b4 ew zs cB m4 nl gh
inductive Fa(T:Tp K mg)(vs:List V)(H:Hp)(Q:VK)(cR:XK):Prop
 |mk (a b n:Nat) (de:vs=[.int a,.int b]) (cK:0<b) (cO:b<2 ^ 8000) (dm:a<2 ^ n) (dI:n<=1000000) (ef:Q (.int (a / Nat.gcd a b*b:Nat)) H):Fa T vs H Q cR
theorem Fb:OkN P w base 2 T.aR (Fa T):=by
 refine T.aR.F.okX K1 (by walk_at "l") (λcD A outer s H vs Q E aC h=>?_)
 .have hu:=aC.hu;obtain⟨a,b,n,rfl,eO,gl,b',kL,q⟩:=h;have lL:0<Nat.gcd a b:=qb1 _ eO;have gq:Nat.gcd a b<2 ^ 8000:=qaM (qbk eO (qba a b)) gl;have Nv:=Zlv (a:=a) lL gq;have NQ:a / Nat.gcd a b<2 ^ n:=qaM (qaN _ _) b';have lR:IntMulOk ((a:Int) / (Nat.gcd a b:Nat)) (b:Int):=Zfe (a:=a / Nat.gcd a b) NQ gl ∅;refine⟨_,(b0 (c9 (cm fh (cm fo (pv 0) (c2 T.aK (y' T) aC cG %[0,1|2])) (pv 1)))),?_⟩
  walk_at "a"
  nofun;exact q
inductive Fc(vs:List V)(H:Hp)(Q:VK)(cR:XK):Prop
 |mk (p f:Addr) (ap:HM) (fp cq:List Addr) (F:List (Int×Fo.ZY)) (de:vs=[.ref p,.ref f]) (cK:dr T H p ap fp) (cO:H f=some (.lst (cq.map V.ref))) (dm:Wl H cq F) (dI:(∀d∈cq,d∉fp)) (ef:(∀d∈cq,d≠f)) (eR:Fo.Vq (gm ap.belts) ap.names.length F ap.names.length) (fw:Z0 ap.belts ap.names.length) (gT:ap.names.length<=60) (jt:WS ap.belts) (kx:∀(r:Addr)(aj:Hp)(rs:List Int),H r=none->df cq H aj->Wl aj cq F->aj r=some (.lst (rs.map V.int))->rs.length=ap.names.length->(∀x∈F,oU ap.belts x rs)->Q (.ref r) aj):Fc vs H Q cR
theorem NR:OkN P w base 7 T.bg (Fc T):=by
 have gf:=T.a;have gg:=T.c;refine T.bg.F.okX mS (by walk_at "l") (λcD A outer s H vs Q E aC h=>?_)
 .have hu:=aC.hu;obtain⟨p,f,ap,fp,cq,F,rfl,b8,bS,c1,lC,qt,f_,dN,b',hsz,q⟩:=h;have oK:=c1.length;refine⟨_,(bN (ru (j:=2) rfl (eB (x:="name") (zs:=[]) (ix:=[]) (cs xv) ["hall","forest","rates","tree","shares","common","share","work"] rfl rfl (by decide+kernel)) (eG (K:=K) rfl (kg (pv 0) T.a T.af (qo T) aC cG)) (λcl C s H fp=>⟨%[cr,0,(show(["name"]:List Str).Nodup by decide+kernel)|1],e5,bM⟩) mS.nd rfl (Or.inl rfl))
     (bN (d4 PassesOwn.leaving rfl (eG (K:=K) rfl (pv 1)) %[cr,3,mS.nd|1] (bN %[cA,4,mS.nd,c2 T.bf (Ny T) aC cG %[0,3|2]|1]
     (bN %[cA,5,mS.nd,bM|1]
     (bN (d4 PassesOwn.leaving rfl (JK (pv 4)) %[cr,6,mS.nd|1] (b0 %[cA,5,mS.nd,c2 T.aR (Fb T) aC cG %[5,%[6,bM|0]|2]|1]))
     (b0 (d4 PassesOwn.leaving rfl (BX (pv 4)) (e7 (K:=K) (n:=2) rfl rfl (c_ %[cr,7,mS.nd|1] (c_ %[cr,6,mS.nd|1] e0))) (b0 (hN (cm fh (cm fo (pv 5) %[6,bM|0]) %[6,bM|0]) (iN (pv 2) (pv 7) iU)))))))))
     (b0 (c9 (pv 2))))),?_⟩
  walk_at "a"
  nofun;refine⟨p,ap,fp,rfl,b8,λnm aA jv a' sC=>?_⟩;nofun;refine Yf (eF (SqL.of sC)) (ed (by rw[GM];omega)) (λ_=>true) (λ_=> .int 1) (λi aj cQ hi bI k=>?_) (λi aj cQ hi _ bI k=>?_) (λr aP aC bQ gd=>?_)
  .nofun;exact k aj (Zd.refl aj)
  .nofun;exact k aj (Zd.refl aj)
  have iK:aP r=some (.lst ((List.replicate ap.names.length (1:Int)).map V.int)):=by
   rw[gd,qak.mpr (by simp),GM];refine congrArg (λz=>some (HO.lst z)) ?_;refine qaE (by simp) λi ay aD=>?_;simp
  clear gd;have qq:=a'.trans bQ;have ku:H r=none:=ft a' aC;have nX:=qq _ _ bS;have oo:∀d∈cq,r≠d:=λd hd z=>by
   obtain⟨i,hi,rfl⟩:=qaq hd;obtain⟨x,_,kvs,a,_⟩:=Paired.get' c1 (fm hi);exact Zfc a (by rw[<-z];exact ku)
  have u0:f≠r:=dh bS ku;nofun;refine Yr (eF (SqL.of (rJ (q:=f) (o:= .lst (cq.map V.ref))))) (λi ao aj=>∃(rs:List Int)(a1 a2 a3 a4 a5:Option V),ao=[some (.ref p),some (.ref f),some (.ref r),a1,a2,a3,a4,a5]/\df cq H aj/\Wl aj cq F/\aj f=some (.lst (cq.map V.ref))/\aj r=some (.lst (rs.map V.int))/\rs.length=ap.names.length/\∀(k:Nat) x,k<i->F[k]? =some x->oU ap.belts x rs)
   ⟨_,_,_,_,_,_,rfl,qq.frame,c1.same qq,nX,iK,by simp,λk x bH=>absurd bH (qbS _)⟩ ?_ ?_ ?_
  .rintro i ao aj ⟨_,_,_,_,_,_,_,_,_,h,_⟩;exact Uj h
  .rintro i ao b5 hi ⟨rs,a1,a2,a3,a4,a5,rfl,hP,m5,lg,iK,fO,fe⟩;have eQ:i<cq.length:=by simpa using hi
   have h_:(cq.map V.ref).getD i .non= .ref cq[i]:=by simp[List.getD,eQ]
   rw[h_];obtain⟨x,ar,kvs,hd,jY⟩:=Paired.get' m5 (fm eQ);have sN:=GE eQ;generalize cq[i]=d at*;obtain⟨g,iG,eh,g1⟩:=f_.tree x (qau ar);have zj:=g.rg ⟨eh,g1⟩ (UV dN);have ia:x.2.length<=60:=by
    have:=Fo.Zcu (n:=ap.names.length) g.nodup zj;simp[Fo.keys] at this;omega
   have hv:=b8.off hP (λy bW z=>lC y z bW);nofun;refine⟨p,d,ap,fp,kvs,x.2,x.1,rfl,hv,lC d sN,hd,jY,g,ia,hsz,λe o bZ ew zs b9 cd nV nl gh=>?_⟩;have il:df cq H bZ:=hP.trans (((r5 (o:=o) hd).mono (by intro y bW;rw[qab.mp bW];exact sN)).trans cd.frame);have gc:=(m5.frz (o:=o) hd).same cd;have lh:bZ f=some (.lst (cq.map V.ref)):=il.keep _ _ bS (λz=>qt f z rfl);have NS:=oo d sN;have hq:bZ r=some (.lst (rs.map V.int)):=cd _ _ (by rw[b3 NS];exact iK);have zk:∀d'∈cq,e≠d':=λd' ip z=>by
    obtain⟨j,bP,rfl⟩:=qaq ip;obtain⟨fN,_,k',a,_⟩:=Paired.get' m5 (fm bP);exact Zfc a (by rw[<-z];exact b9)
   have zl:r≠e:=λz=>by rw[z,b9] at iK;cases iK
   have Fd:f≠e:=λz=>by rw[z,b9] at lg;cases lg
   have sO:H e=none:=by
    cases ee:H e with
    |none=>rfl
    |some cT=>
     by_cases z:e∈cq
     .exact absurd rfl (zk e z)
     .rw[hP.keep _ _ ee z] at b9;cases b9
   have uB:=gh.len (qaa _);have iL:=nl.length;nofun;refine Rd.ZoK ?_;nofun;refine⟨e,ew,rfl,.inl nV,λhb=>?_⟩;have m4:(upd bZ e (.frz hb (.dK ew))) e=some (.frz hb (.dK ew)):=Ze;have zm:∀a xs,bZ a=some (.tup xs)->(upd bZ e (.frz hb (.dK ew))) a=some (.tup xs):=(r5 (o:=hb) (.inl nV)).tups;have Fe:=nl.keep zm;have lZ:(upd bZ e (.frz hb (.dK ew))) r=some (.lst (rs.map V.int)):=by rw[b3 zl];exact hq
   have u_:(upd bZ e (.frz hb (.dK ew))) f=some (.lst (cq.map V.ref)):=by rw[b3 Fd];exact lh
   have gQ:df cq H (upd bZ e (.frz hb (.dK ew))):=⟨λb y c7 n=>by rw[b3 (λz=>by rw[z,sO] at c7;cases c7)];exact il.keep _ _ c7 n,λb xs c7=>zm _ _ (il.tups _ _ c7)⟩;have kD:Wl (upd bZ e (.frz hb (.dK ew))) cq F:=by
    refine uA gc λd' fN ip ⟨k,a,b⟩=>⟨k,?_,b.keep zm⟩;have:=(zk d' ip).symm;rcases a with a|⟨cT,a⟩
    .exact .inl (by rw[b3 this];exact a)
    .exact .inr ⟨cT,by rw[b3 this];exact a⟩
   generalize upd bZ e (.frz hb (.dK ew))=b4 at*;refine Ym (JL m4) (λk ao aj=>aj=b4/\∃(C:Nat)(a4:Option V),ao=[some (.ref p),some (.ref f),some (.ref r),some (.ref d),some (.ref e),some (.int C),a4,a5]/\C=lcmL (zs.take k)/\C<2 ^ (6700*k+1)) ⟨rfl,1,_,rfl,rfl,by decide⟩ (λi ao aj h=>h.1▸Zd.refl b4) ?_ ?_
   .rintro k ao cZ v di bH ⟨rfl,C,a4,rfl,nv,vg⟩ ⟨rfl,kv,sJ,rfl⟩;obtain⟨y,bW,_,t,dt,bY⟩:=Paired.get' Fe sJ;rw[dt];have sH:k<zs.length:=(qad.mp bW).1;obtain⟨lK,iF,_⟩:=gh.pos y (qau bW);have NT:=(gh.size k y bW).2;have pj:y.2.2<2 ^ 6700:=qae NT (qav (by decide) ∅);have NU:zs.take (k+1)=zs.take k++ [y]:=by rw[List.take_succ,bW];rfl
    nofun;refine⟨C,y.2.2,6700*k+1,rfl,iF,qae pj (qav (by decide) (by decide)),vg,∅,?_⟩;rw[ZlU];refine⟨rfl,_,_,rfl,by rw[NU,Lp,nv],?_⟩;have:=De vg pj;have dn:6700*(k+1)+1=6700*k+1+6700:=by omega
    rw[dn];exact this
   .rintro ao cZ ⟨rfl,C,a4,rfl,nv,vg⟩;rw[iL,qaO] at nv;nofun;refine Rd.ZkR ?_;nofun;refine⟨e,ew,rfl,.inr ⟨hb,m4⟩,λln=>?_⟩;have ze:(upd cZ e (.frz ln (.dK ew))) e=some (.frz ln (.dK ew)):=Ze;have m3:∀a xs,cZ a=some (.tup xs)->(upd cZ e (.frz ln (.dK ew))) a=some (.tup xs):=(r5 (o:=ln) (.inr ⟨hb,m4⟩)).tups;have zf:=Fe.keep m3;have so:(upd cZ e (.frz ln (.dK ew))) r=some (.lst (rs.map V.int)):=by rw[b3 zl];exact lZ
    have NV:(upd cZ e (.frz ln (.dK ew))) f=some (.lst (cq.map V.ref)):=by rw[b3 Fd];exact u_
    have mD:df cq H (upd cZ e (.frz ln (.dK ew))):=⟨λb y c7 n=>by rw[b3 (λz=>by rw[z,sO] at c7;cases c7)];exact gQ.keep _ _ c7 n,λb xs c7=>m3 _ _ (gQ.tups _ _ c7)⟩;have y1:Wl (upd cZ e (.frz ln (.dK ew))) cq F:=by
     refine uA kD λd' fN ip ⟨k,a,b⟩=>⟨k,?_,b.keep m3⟩;have:=(zk d' ip).symm;rcases a with a|⟨cT,a⟩
     .exact .inl (by rw[b3 this];exact a)
     .exact .inr ⟨cT,by rw[b3 this];exact a⟩
    generalize upd cZ e (.frz ln (.dK ew))=di at*;have sH:zs.map (·.1)=Fo.keys x.2:=by
     have ay:=gh.keys;have aD:(Fo.keys x.2).take x.2.length=Fo.keys x.2:=qa2 (by simp[Fo.keys]);rw[ay,aD]
    have zn:∀(j:Nat) y,zs[j]? =some y->y.1∈Fo.keys x.2:=λj y bW=>by rw[<-sH];exact qaJ.mpr ⟨y,qau bW,rfl⟩
    have NW:∀(j k:Nat) y z,zs[j]? =some y->zs[k]? =some z->j≠k->y.1≠z.1:=λj k y z bW bU ne ee=>by
     have nd:(zs.map (·.1)).Nodup:=by rw[sH];exact g.nodup
     obtain⟨bP,mT⟩:=qad.mp bW;obtain⟨bH,fF⟩:=qad.mp bU;refine ne (r2 nd (by simpa using bP) (by simpa using bH) ?_);rw[qbx,qbx,mT,fF];exact ee
    refine Ym (BY (rJ (q:=e) (o:= .frz ln (.dK ew)))) (λk ao aj=>∃(rs':List Int)(a6 a7:Option V),ao=[some (.ref p),some (.ref f),some (.ref r),some (.ref d),some (.ref e),some (.int C),a6,a7]/\df cq H aj/\Wl aj cq F/\aj e=some (.frz ln (.dK ew))/\aj f=some (.lst (cq.map V.ref))/\aj r=some (.lst (rs'.map V.int))/\rs'.length=ap.names.length/\ShE aj ew zs/\
     (∀(j:Nat) y,j<k->zs[j]? =some y->rs'[y.1.toNat]? =some ((C / y.2.2*y.2.1:Nat):Int))/\∀v:Int,0<=v->v∉Fo.keys x.2->rs'[v.toNat]? =rs[v.toNat]?)
     ⟨rs,_,_,rfl,mD,y1,ze,NV,so,fO,zf,λj y bP=>absurd bP (qbS _),λ_ _ _=>rfl⟩ ?_ ?_ ?_
    .rintro k ao aj ⟨_,_,_,_,_,_,h,_⟩;exact Uj h
    .rintro k ao eJ v hj bH ⟨rs',a6,a7,rfl,ie,zo,qw,qx,zp,zq,sM,zr,zt⟩ ⟨t,kv,sJ,bY,rfl,rfl⟩;obtain⟨y,bW,fF,ty,dt,jd⟩:=Paired.get' sM sJ;obtain⟨iu,Vi⟩:=kv;dsimp only at fF dt;subst fF dt;refine Rd.Yv (.of Ze) rfl ?_;have ll:Zd eJ (upd eJ t (.tup [kV (Sum.inl y.1),.ref ty])):=cF bY;have NX:=ll _ _ zp;have Vj:=ll _ _ jd;have l7:df cq H (upd eJ t (.tup [kV (Sum.inl y.1),.ref ty])):=ie.trans ll.frame;have NY:=zo.same ll;have NZ:=ll _ _ qw;have sP:=ll _ _ qx;have N0:ShE (upd eJ t (.tup [kV (Sum.inl y.1),.ref ty])) ew zs:=sM.keep λ_ _ e=>ll _ _ e;generalize upd eJ t (.tup [kV (Sum.inl y.1),.ref ty])=hj at*;have zd:kV (Sum.inl y.1)= .int y.1:=rfl;rw[zd];obtain⟨lK,iF,_⟩:=gh.pos y (qau bW);obtain⟨N1,N2⟩:=gh.size k y bW;have Vl:k<zs.length:=(qad.mp bW).1;have ve:y.2.1<2 ^ 6700:=qae N1 (qav (by decide) ∅);have pj:y.2.2<2 ^ 6700:=qae N2 (qav (by decide) ∅);have Vm:=Zlv (a:=0) iF (qae pj (qav (by decide) (by decide)));have lR:IntMulOk ((C:Int) / (y.2.2:Nat)) ((y.2.1:Nat):Int):=Zfe (a:=C / y.2.2) (qaM (qaN _ _) vg) ve ∅;obtain⟨ey,eL⟩:=zj y.1 (zn k y bW);nofun;have e3:(C:Int) / ((y.2.2:Nat):Int)*((y.2.1:Nat):Int)=((C / y.2.2*y.2.1:Nat):Int):=rfl;rw[e3];have zu:∀a xs,hj a=some (.tup xs)->(upd hj r (.lst ((rs'.map V.int).set y.1.toNat (.int ((C / y.2.2*y.2.1:Nat):Int))))) a=some (.tup xs):=λa xs cw=>by rw[b3 (e_ cw NX (by intro z;cases z))];exact cw
     have h4:y.1.toNat<rs'.length:=by omega
     nofun;refine⟨rs'.set y.1.toNat ((C / y.2.2*y.2.1:Nat):Int),_,_,rfl,⟨λb z c7 n=>by rw[b3 (λc=>by rw[c,ku] at c7;cases c7)];exact l7.keep _ _ c7 n,λb xs c7=>zu _ _ (l7.tups _ _ c7)⟩,?_,by rw[b3 zl.symm];exact NZ,by rw[b3 u0];exact sP,by rw[Ze,qbc],by rw[qaP];exact zq,N0.keep zu,λj z bP bU=>?_,λv nG cz=>?_⟩
     .refine uA NY λd' fN ip ⟨k',a,b⟩=>⟨k',?_,b.keep zu⟩;have:=(oo d' ip).symm;rcases a with a|⟨cT,a⟩
      .exact .inl (by rw[b3 this];exact a)
      .exact .inr ⟨cT,by rw[b3 this];exact a⟩
     .rcases qaV.mp bP with c|c
      .have ne:=NW j k z y bU bW ∅;obtain⟨de,_⟩:=zj z.1 (zn j z bU);rw[qbm ∅];exact zr j z c bU
      .subst c;rw[bW] at bU;cases bU;rw[qa1 h4]
     .have ne:v≠y.1:=λc=>cz (by rw[c];exact zn k y bW);rw[qbm ∅];exact zt v nG cz
    .rintro ao eJ ⟨rs',a6,a7,rfl,ie,zo,qw,qx,zp,zq,sM,zr,zt⟩;refine⟨rs',_,_,_,_,_,rfl,ie,zo,qx,zp,zq,λk fN bH kk=>?_⟩;rcases qaV.mp bH with c|c
     .obtain⟨N3,Ff,kU⟩:=fe k fN c kk;refine⟨N3,Ff,λy bW=>?_⟩;obtain⟨g',Vo,N4,N5⟩:=f_.tree fN (qau kk);have uH:y.1∈Fo.keys fN.2:=by
       have ay:=Ff.keys;have aD:(Fo.keys fN.2).take fN.2.length=Fo.keys fN.2:=qa2 (by simp[Fo.keys]);rw[aD] at ay;rw[<-ay];exact qaJ.mpr ⟨y,bW,rfl⟩
      rw[zt y.1 (g'.rg ⟨N4,N5⟩ (UV dN) _ uH).1 (Lo dN f_ kk ar ∅ _ uH)];exact kU y bW
     .subst c;rw[ar] at kk;cases kk;refine⟨zs,gh,λy bW=>?_⟩;obtain⟨j,bP⟩:=qbf bW;rw[<-nv];exact zr j y (by rw[iL];exact(qad.mp bP).1) bP
  .rintro ao b5 ⟨rs,a1,a2,a3,a4,a5,rfl,hP,m5,lg,iK,fO,fe⟩;nofun;refine q r b5 rs ku hP m5 iK fO (λx ar=>?_);obtain⟨k,bH⟩:=qbf ar;have:=(qad.mp bH).1;exact fe k x (by rw[GM,oK];exact this) bH
inductive Fg(vs:List V)(H:Hp)(Q:VK)(cR:XK):Prop
 |mk (p c:Addr) (ap:HM) (fp:List Addr) (hG:List Int) (de:vs=[.ref p,.ref c]) (cK:dr T H p ap fp) (cO:ap.belts.length<=1000) (dm:SqL K H c (hG.map V.int)) (dI:Z0 ap.belts hG.length) (ef:WS ap.belts) (eR:(∀c∈hG,∃k:Nat,c=(k:Int)/\k<2 ^ 420000)) (fw:∀(r:Addr)(aj:Hp),H r=none->Zd H aj->aj r=some (.lst ((ap.belts.map (oV hG)).map V.int))->Q (.ref r) aj):Fg vs H Q cR
theorem N6:OkN P w base 2 T.bh (Fg T):=by
 have gf:=T.a;have gg:=T.c;refine T.bh.F.okX K2 (by walk_at "l") (λcD A outer s H vs Q E aC h=>?_)
 .have hu:=aC.hu;obtain⟨p,nD,ap,fp,hG,rfl,b8,bU,a_,dN,hsz,j9,q⟩:=h;refine⟨_,(b0 (c9 (jM rfl (eB (x:="row") (zs:=["counts"]) (ix:=[1]) (cs xw) ["hall","counts"] rfl rfl (by decide+kernel)) (eG (K:=K) rfl (kg (pv 0) T.a T.ag (qp T) aC cG)) (λcl C s H fp=>⟨%[cr,0,(show(["row","counts"]:List Str).Nodup by decide+kernel)|1],e5,(cm mv (cm fh %[1,%[0,bM|0]|0] %[0,bM|0]) (cm fh %[1,%[0,bM|0]|0] %[0,bM|0]))⟩)))),?_⟩
  walk_at "a"
  nofun;intro u aA bs sE hZ e9 c1;have lS:=c1.length;have au:bs.length<sizeLine:=ed (by rw[lS];exact bU);nofun;refine Yf (eF (SqL.of e9)) au (λ_=>true) (λi=> .int (oV hG (ap.belts.getD i dB))) (λi aj cQ hi bI k=>?_) (λi aj cQ hi _ bI k=>?_) (λr aj aC bI hL=>?_)
  .nofun;exact k aj (Zd.refl aj)
  .have ds:i<ap.belts.length:=by omega
   obtain⟨t,eC,dJ⟩:=c1.getD (i:=i) ds;rw[eC];obtain⟨cE,cY,iq,i'⟩:=dN.at ds;obtain⟨cV,ce,eh,hf,gq,dS,f9,dt⟩:=hsz i ds;have fu:=bI _ _ dJ;unfold oV at k;generalize ap.belts.getD i dB=bb at*;have Fh:∀{v:Int},0<=v->v<hG.length->hG.getD v.toNat 0∈hG:=λ{v} nG jl=>by rw[cL ∅];exact GE _
   obtain⟨k1,bJ,l1⟩:=j9 _ (Fh cE cY);obtain⟨k2,bX,l2⟩:=j9 _ (Fh iq i');have hg:IntMulOk (hG.getD bb.giver.toNat 0) bb.give:=by rw[bJ,f9];exact Zfe l1 gq (by decide)
   have h1:IntMulOk (hG.getD bb.taker.toNat 0) bb.take:=by rw[bX,dt];exact Zfe l2 dS (by decide)
   have ml:SqL K aj nD (hG.map V.int):=(hZ.trans bI).seq a_;have a1:=Z1 cE cY;have a2:=Z1 iq i';dsimp only[B5.v] at fu;nofun;exact k aj (Zd.refl aj)
  .refine q r aj (ft hZ aC) (hZ.trans bI) ?_;rw[hL,qak.mpr (by simp),lS];refine congrArg (λz=>some (HO.lst z)) ?_;refine qaE (by simp) λi ay aD=>?_;have:i<ap.belts.length:=by simpa using ay
   simp[List.getD,this]
inductive Fi(T:Tp K mg)(vs:List V)(N7:Hp)(n9:VK)(cR:XK):Prop
 |mk (a b c:V) (de:vs=[a,b,c]) (cK:False):Fi T vs N7 n9 cR
theorem N8:OkN P w base 6 T.bi (Fi T):=by
 have gf:=T.a;have gg:=T.c;refine T.bi.F.okX K3 (by walk_at "l") (λcD A outer s H vs Q E aC h=>?_)
 .have hu:=aC.hu;obtain⟨_,_,_,_,fD⟩:=h;exact fD.elim
inductive Fj(vs:List V)(H:Hp)(Q:VK)(cR:XK):Prop
 |mk (p:Addr) (ap:HM) (fp:List Addr) (z:Int->Nat) (de:vs=[.ref p]) (cK:dr T H p ap fp) (cO:ap.names.length<=60) (dm:ap.belts.length<=1000) (dI:Z0 ap.belts ap.names.length) (ef:WS ap.belts) (eR:VH ap.belts z) (fw:∀(t r:Addr)(aj:Hp)(rs:List Int)(F:List (Int×Fo.ZY)),Zd H aj->H r=none->aj t=some (.tup [.ref r,.non])->aj r=some (.lst (rs.map V.int))->rs.length=ap.names.length->Fo.Vq (gm ap.belts) ap.names.length F ap.names.length->(∀x∈F,oU ap.belts x rs)->Q (.ref t) aj):Fj vs H Q cR
theorem N9:OkN P w base 8 T.bj (Fj T):=by
 refine T.bj.F.okX rY (by walk_at "l") (λcD A outer s H vs Q E aC h=>?_)
 .have hu:=aC.hu;obtain⟨p,ap,fp,z,rfl,b8,b',bU,dN,hsz,nY,q⟩:=h;refine⟨_,(bN %[cA,1,rY.nd,c2 T.bc (No T) aC cG %[0|2]|1]
     (bN %[cA,2,rY.nd,c2 T.bg (NR T) aC cG %[0,1|2]|1]
     (bN (d4 PassesOwn.leaving rfl (kh (K:=K) rfl rfl T.i %[c2 T.bh (N6 T) aC cG %[0,2|2]|2]) (e7 (K:=K) (n:=2) rfl rfl (c_ %[cr,3,rY.nd|1] (c_ %[cr,4,rY.nd|1] e0))) (b0 (dO (dW (jh (K:=K) rfl hu) (pv 4) bM (dD _)) (b0 (c9 (fz %[Ue,c2 T.bi (N8 T) aC cG %[0,1,3|2]|2]))) dV)))
     (b0 (c9 (fz %[2,Ue|2])))))),?_⟩
  walk_at "a"
  nofun;refine⟨p,ap,fp,rfl,b8,b',bU,dN,λf cq aA F EW a' fD nk f_ y7=>?_⟩;have ii:=b8.same a';have lC:∀d∈cq,d∉fp:=λd hd y=>b8.dom d y (nk d hd);have qt:∀d∈cq,d≠f:=λd hd y=>by
   obtain⟨i,hi,e⟩:=qaq hd;obtain⟨x,_,kvs,a,_⟩:=Paired.get' fD.trees (fm hi);rw[e,y,fD.at_] at a;cases a
  nofun;refine⟨p,f,ap,fp,cq,F,rfl,ii,fD.at_,fD.trees.r,lC,qt,f_,dN,b',hsz,λr aP rs ku fr2 lG gd fO fe=>?_⟩;have bQ:Zd H aP:=λb o e=>fr2.keep _ _ (a' _ _ e) (λy=>by have:=nk b y;rw[e] at this;cases this);have gN:=b8.same bQ;have N_:H r=none:=ft a' ku;have jZ:=Zg6 dN b' f_ fO fe;nofun;refine⟨p,r,ap,fp,rs,rfl,gN,bU,.of gd,by rw[fO];exact dN,hsz,λc a_=>(by obtain⟨k,a,_,b⟩:=jZ.pos c a_;exact⟨k,a,b⟩),λc b5 u7 bV l6=>?_⟩;have iK:=bV _ _ gd;have N':=bQ.trans bV;nofun;refine Ym (ki (SqL.of l6)) (λi ao aj=>Zd b5 aj/\∃a1 a2,ao=[some (.ref p),some (.ref f),some (.ref r),a1,a2]) ⟨Zd.refl b5,_,_,rfl⟩ (λi ao aj h=>h.1) ?_ ?_
  .rintro i ao bZ v b4 hi ⟨cd,a1,a2,rfl⟩ ⟨t,bY,rfl,rfl⟩;have ds:i<ap.belts.length:=by simpa using hi
   have h_:((ap.belts.map (oV rs)).map V.int).getD i .non= .int 0:=by
    have:=ZbJ nY hsz dN f_ fO fe ds;rw[cL ds] at this;simp[List.getD,ds,this]
   rw[h_];refine Rd.Yv (.of Ze) rfl ?_;nofun;exact⟨cd.trans (cF bY),_,_,rfl⟩
  .rintro ao bZ ⟨cd,a1,a2,rfl⟩;have hq:=cd _ _ iK;nofun;refine⟨by show 2<=sizeLine;decide,λt bY=>?_⟩;exact q t r _ rs F ((N'.trans cd).trans (cF bY)) N_ Ze (cF bY _ _ hq) fO f_ fe
inductive Fk(vs:List V)(H:Hp)(Q:VK)(E:XK):Prop
 |mk (p:Addr) (ap:HM) (fp:List Addr) (z:Int->Nat) (de:vs=[.ref p]) (cK:dr T H p ap fp) (cO:ap.names.length<=60) (dm:ap.belts.length<=1000) (dI:Z0 ap.belts ap.names.length) (ef:WS ap.belts) (eR:VH ap.belts z) (fw:∀(r:Addr)(aj:Hp)(rs:List Int),Zd H aj->H r=none->aj r=some (.lst (rs.map V.int))->Rts ap.belts ap.names.length z rs->(rs.sum<=400->Q (.ref r) aj)/\(400<rs.sum->E (.ref T.k) none aj)):Fk vs H Q E
theorem Oa:OkN P w base 9 T.bk (Fk T):=by
 refine T.bk.F.okX C6 (by walk_at "l") (λcD A outer s H vs Q E aC h=>?_)
 .have hu:=aC.hu;obtain⟨p,ap,fp,z,rfl,b8,b',bU,dN,hsz,nY,q⟩:=h;refine⟨_,(bN %[cA,1,C6.nd,%[c2 T.bj (N9 T) aC cG %[0|2],bM|0]|1]
     (bN (dO (dW v_ (pv 1) Ue (dD _)) (b0 (hm T.F.g T.F.e qai rfl %[Yo|2])) dV)
     (bN (dO (dW mw (dk (mK (K:=K) rfl rfl) (by rfl) T.A qaW %[1|2]) (ng (v:= .int 400) rfl T.Q ⟨_,rfl⟩) (dD _)) (b0 (hm T.r.g T.r.e qai rfl %[Yo|2])) dV)
     (b0 (c9 (pv 1)))))),?_⟩
  walk_at "a"
  nofun;refine⟨p,ap,fp,z,rfl,b8,b',bU,dN,hsz,nY,λt r aj rs F a' aC bY gW fO f_ fe=>?_⟩;have jZ:=Zg6 dN b' f_ fO fe;have db:Rts ap.belts ap.names.length z rs:=⟨fO,λc a_=>(by obtain⟨k,a,b,_⟩:=jZ.pos c a_;omega),λb au=>(by
   obtain⟨i,hi,e⟩:=qaq au;have:=ZbJ nY hsz dN f_ fO fe hi;rw[cL hi,e] at this;unfold oV at this;rw[Int.mul_comm b.give,Int.mul_comm b.take];omega),F,f_,fe⟩
  obtain⟨cJ,cP⟩:=q r aj rs a' aC gW db;nofun;refine⟨rfl,?_⟩;nofun;refine Rd.Zgn (.of gW) ?_;nofun;refine Zbh (λc=>?_) (λc=>?_)
  .nofun;exact cP (by have:=of_decide_eq_true c;omega)
  .nofun;exact cJ (by
    by_cases y:400<rs.sum
    .exact absurd (decide_eq_true y) c
    .omega)
inductive Fl(vs:List V)(H:Hp)(Q:VK)(cR:XK):Prop
 |mk (p:Addr) (ap:HM) (fp:List Addr) (de:vs=[.ref p]) (cK:dr T H p ap fp) (cO:ap.belts.length<=1000) (dm:∀(r:Addr)(aj:Hp),H r=none->Zd H aj->aj r=some (.lst ((startsL ap.belts).map V.int))->Q (.ref r) aj):Fl vs H Q cR
theorem Fm:OkN P w base 2 T.aS (Fl T):=by
 have gf:=T.a;have gg:=T.c;refine T.aS.F.okX K4 (by walk_at "l") (λcD A outer s H vs Q E aC h=>?_)
 .have hu:=aC.hu;obtain⟨p,ap,fp,rfl,b8,bU,q⟩:=h;refine⟨_,(b0 (c9 (jM rfl (eB (x:="row") (zs:=[]) (ix:=[]) (cs xx) ["hall"] rfl rfl (by decide+kernel)) (eG (K:=K) rfl (kg (pv 0) T.a T.ag (qp T) aC cG)) (λcl C s H fp=>⟨%[cr,0,(show(["row"]:List Str).Nodup by decide+kernel)|1],e5,%[0,bM|0]⟩)))),?_⟩
  walk_at "a"
  nofun;intro u aA bs sE hZ e9 c1;have lS:=c1.length;have au:bs.length<sizeLine:=ed (by rw[lS];exact bU);nofun;refine Yf (eF (SqL.of e9)) au (λ_=>true) (λi=> .int (ap.belts.getD i dB).start) (λi aj cQ hi bI k=>?_) (λi aj cQ hi _ bI k=>?_) (λr aj aC bI hL=>?_)
  .nofun;exact k aj (Zd.refl aj)
  .have ds:i<ap.belts.length:=by omega
   obtain⟨t,eC,dJ⟩:=c1.getD (i:=i) ds;rw[eC];have fu:=bI _ _ dJ;generalize ap.belts.getD i dB=bb at*;dsimp only[B5.v] at fu;nofun;exact k aj (Zd.refl aj)
  .refine q r aj (ft hZ aC) (hZ.trans bI) ?_;rw[hL,qak.mpr (by simp),lS];unfold startsL;refine congrArg (λz=>some (HO.lst z)) ?_;refine qaE (by simp) λi ay aD=>?_;have:i<ap.belts.length:=by simpa using ay
   simp[List.getD,this]
inductive Fn(vs:List V)(H:Hp)(Q:VK)(E:XK):Prop
 |mk (p c:Addr) (ap:HM) (fp:List Addr) (rs:List Int) (de:vs=[.ref p,.ref c]) (cK:dr T H p ap fp) (cO:ap.belts.length<=1000) (dm:SqL K H c (rs.map V.int)) (dI:rs.length<=1000) (ef:(¬k6 rs (startsL ap.belts)->∀aj,Zd H aj->E (.ref T.ac) none aj)) (eR:(k6 rs (startsL ap.belts)->∀aj,Zd H aj->Q .non aj)):Fn vs H Q E
theorem Fp:OkN P w base 3 T.aT (Fn T):=by
 refine T.aT.F.okX C7 (by walk_at "l") (λcD A outer s H vs Q E aC h=>?_)
 .have hu:=aC.hu;obtain⟨p,c,ap,fp,rs,rfl,b8,bU,a_,la,bJ,q⟩:=h;refine⟨_,(bN %[cA,2,C7.nd,c2 T.aS (Fm T) aC cG %[0|2]|1]
     (bN (dO (PW.pt (jB (hh (fX (K:=K) rfl (dk (JQ (K:=K) rfl) (by rfl) T.g qat %[1,fz %[jA (v:= .ty "list") (by rfl) T.j qaG rfl,jA (v:= .ty "tuple") (by rfl) T.m qaU rfl|2]|2]) (λ_=>rfl))) (mq (dW (jh (K:=K) rfl hu) (dk (fb K) (by rfl) T.f qal %[1|2]) (dk (fb K) (by rfl) T.f qal %[2|2]) (dD _))))) (b0 (hm T.J.g T.J.e qai rfl %[Yo|2])) dV)
     (b0 (dO (hh (fX (K:=K) rfl (dk (rL (K:=K) rfl rfl) (by rfl) T.R qbG %[ho (xs:=["room","start"]) rfl (eB (x:="room") (zs:=[]) (ix:=[]) (cs xy) ["hall","rooms","starts"] rfl rfl (by decide+kernel)) (t4 (K:=K) rfl rfl T.S %[1,2|2]) (λcl C s H fp=>⟨(e7 (K:=K) (n:=2) rfl rfl (c_ %[cr,0,(show(["room","start"]:List Str).Nodup by decide+kernel)|1] (c_ %[cr,1,(show(["room","start"]:List Str).Nodup by decide+kernel)|1] e0))),e5,(c2 T.am (sy T) aC WP %[0,1|2])⟩)|2]) (λ_=>rfl))) (b0 (hm T.J.g T.J.e qai rfl %[Yo|2])) dV)))),?_⟩
  walk_at "a"
  nofun;refine⟨p,ap,fp,rfl,b8,bU,λr aA aC a' gW=>?_⟩;have lO:=a'.seq a_;have Ob:=SqL.of (K:=K) gW;have gA:(startsL ap.belts).length=ap.belts.length:=by simp[startsL]
  generalize startsL ap.belts=ss at*;nofun;refine⟨by show 2<=sizeLine;decide,λu e9=>?_⟩;have bQ:Zd aA (upd aA u (.tup [V.ty "list",V.ty "tuple"])):=cF e9;have nA:(upd aA u (.tup [V.ty "list",V.ty "tuple"])) u=some (.tup [V.ty "list",V.ty "tuple"]):=Ze;generalize upd aA u (.tup [V.ty "list",V.ty "tuple"])=aP at*;have hQ:=bQ.seq lO;have fa:=bQ.seq Ob;have gE:=a'.trans bQ;nofun;refine Rd.Zp0 hQ nA ?_;nofun;have jW:(((rs.map V.int).length:Int)=((ss.map V.int).length:Int))↔rs.length=ss.length:=by simp only[GM];omega
  by_cases dY:rs.length=ss.length
  .rw[if_neg (by simp[dY])];nofun;refine⟨c,r,rfl,⟨_,hQ⟩,⟨_,fa⟩,?_⟩;refine Z2 (own:=2) (t5 hQ fa (by simp[dY])) (ed (by rw[GM];exact la)) (λi=>[some (.int (rs.getD i 0)),some (.int (ss.getD i 0))]) (λ_=>rfl) (λ_=>true) (λi v _=>v= .bl (decide (ss.getD i 0<=rs.getD i 0))) (λ_ _ _ _ _ z=>z) (λi c6 aj v b5 f7 hi bI y em k=>?_) (λi aj cQ hi bI k=>?_) (λhJ i aj cQ hi gR hp0 fP bI k=>?_) (λd b5 ys hd bI eu db=>?_)
   .obtain⟨t,bY,rfl,rfl⟩:=y;obtain⟨x1,x2,rfl⟩:∃x1 x2,c6=[x1,x2]:=by
     match c6,em with
     | [x1,x2],_=>exact⟨x1,x2,rfl⟩
    have Fq:i<rs.length:=by rw[GM] at hi;exact hi
    have j0:i<ss.length:=by omega
    have m1:(rs.map V.int).getD i .non= .int (rs.getD i 0):=by rw[cL Fq];simp[List.getD,Fq]
    have pm:(ss.map V.int).getD i .non= .int (ss.getD i 0):=by rw[cL j0];simp[List.getD,j0]
    rw[m1,pm];refine Rd.Yv (.of Ze) rfl ?_;nofun;exact k _ (cF bY)
   .nofun;exact k aj (Zd.refl aj)
   .nofun;exact k _ aj (Zd.refl aj) rfl
   .rw[qak.mpr (by simp),GM] at db;have eA:=xY db;have h3:=SqL.of (K:=K) (eA▸eu);have fx:=gE.trans bI;nofun
    by_cases h5:k6 rs ss
    .rw[ZcA.mpr h5.2];nofun;exact q h5 _ fx
    .have bS:(((List.range rs.length).map λi=>decide (ss.getD i 0<=rs.getD i 0)).all id)=false:=by
      cases e:(((List.range rs.length).map λi=>decide (ss.getD i 0<=rs.getD i 0)).all id) with
      |false=>rfl
      |true=>exact absurd ⟨dY,ZcA.mp e⟩ h5
     rw[bS];nofun;exact bJ h5 _ fx
  .rw[if_pos (by simp;omega)];nofun;exact bJ (λz=>dY z.1) _ gE
inductive Fs(vs:List V)(H:Hp)(Q:VK)(E:XK):Prop
 |mk (lp ba:Addr) (dg:List Str) (bs:List V) (ls:List B5) (de:vs=[.ref lp,.ref ba]) (cK:H lp=some (.lst (dg.map V.str))) (cO:H ba=some (.lst bs)) (dm:ev H bs ls) (dI:ZcH dg) (ef:ls.length<=1000) (eR:∀(p:Addr)(fp:List Addr)(aj:Hp),dr T aj p ⟨dg,ls⟩ fp->(∀x∈fp,H x=none)->Zd H aj->Q (.ref p) aj):Fs vs H Q E
theorem Oc:OkN P w base 3 T.bl (Fs T):=by
 have gf:=T.a;have gg:=T.c;refine T.bl.F.okX ux (by walk_at "l") (λcD A outer s H vs Q E aC h=>?_)
 .have hu:=aC.hu;obtain⟨lp,ba,dg,bs,ls,rfl,sQ,lq,c1,⟨fY,jv,Vp⟩,bU,q⟩:=h;have ej:=c1.length;refine⟨_,(bN %[cA,2,ux.nd,w3 T.aG (yQ T) aC T.ae cG|1]
     (bN (d4 PassesOwn.leaving rfl (eG (K:=K) rfl (pv 0)) %[cr,3,ux.nd|1] (b0 (et (hB (pv 2) T.a T.aF (yM T) aC cG %[3|2]))))
     (bN (d4 PassesOwn.leaving rfl (eG (K:=K) rfl (pv 1)) %[cr,4,ux.nd|1] (b0 (et (hB (pv 2) T.a T.aQ (Ej T) aC cG %[4|2]))))
     (b0 (c9 (pv 2)))))),?_⟩
  walk_at "a"
  nofun;intro bO fp aA b8 bS bI;have Vr:lp∉fp:=λz=>by rw[bS lp z] at sQ;cases sQ
  have Vs:ba∉fp:=λz=>by rw[bS ba z] at lq;cases lq
  have Vt:=bI _ _ sQ;nofun;refine Yr (eF (SqL.of (rJ (q:=lp) (o:= .lst (dg.map V.str))))) (λi ao aj=>∃(el:List Addr)(a1:Option V),ao=[some (.ref lp),some (.ref ba),some (.ref bO),a1,none]/\dr T aj bO ⟨dg.take i,[]⟩ el/\Zd H aj/\(∀x∈el,H x=none)) ⟨fp,_,rfl,by simpa using b8,bI,bS⟩ ?_ ?_ ?_
  .rintro i ao aj ⟨_,_,_,_,h,_⟩;exact Uj (h _ _ sQ)
  .rintro i ao aP hi ⟨jR,a1,rfl,gN,bQ,nX⟩;have eQ:i<dg.length:=by simpa using hi
   have e3:(dg.map V.str).getD i .non= .str dg[i]:=by simp[List.getD,eQ]
   rw[e3];have hok:=jv _ (GE eQ);have nk:dg[i]∉dg.take i:=λz=>by
    obtain⟨j,bP,e⟩:=qaq z;rw[List.getElem_take] at e;have gp:j<i:=by rw[qaI] at bP;omega
    have:=(List.getElem_inj (xs:=dg) (h₀:=by omega) (h₁:=eQ) fY).mp e;omega
   have Od:=qac eQ;generalize dg[i]=x at*;nofun;refine U6 gN hok nk (by simp;omega) (λb5 sR hv hP Oe=>?_);refine⟨sR,_,rfl,by rw[Od];exact hv,λb o e=>hP.keep _ _ (bQ _ _ e) (λz=>by rw[nX b z] at e;cases e),λx ar=>?_⟩;rcases Oe x ar with z|z
   .exact nX x z
   .exact ft bQ z
  rintro ao aP ⟨jR,a1,rfl,gN,bQ,nX⟩;rw[GM,qaO] at gN;have Vu:=bQ _ _ lq;nofun;refine Yr (eF (SqL.of (rJ (q:=ba) (o:= .lst bs)))) (λi ao aj=>∃(el:List Addr)(a2:Option V),ao=[some (.ref lp),some (.ref ba),some (.ref bO),a1,a2]/\dr T aj bO ⟨dg,ls.take i⟩ el/\Zd H aj/\(∀x∈el,H x=none)) ⟨jR,_,rfl,by simpa using gN,bQ,nX⟩ ?_ ?_ ?_
  .rintro i ao aj ⟨_,_,_,_,h,_⟩;exact Uj (h _ _ lq)
  .rintro i ao b5 hi ⟨sR,a2,rfl,hv,bV,lg⟩;have ds:i<ls.length:=by omega
   obtain⟨t,eC,dJ⟩:=c1.at (fm ds);have c7:bs.getD i .non= .ref t:=by simp[List.getD,eC]
   rw[c7];have dt:=qac ds;generalize ls[i]=l at*;nofun;refine⟨bO,t,l,⟨dg,ls.take i⟩,sR,rfl,hv,bV _ _ dJ,by simp;omega,λbZ ql kC il Of=>?_⟩;refine⟨ql,_,rfl,by rw[dt];exact kC,λb o e=>il.keep _ _ (bV _ _ e) (λz=>by rw[lg b z] at e;cases e),λx ar=>?_⟩;rcases Of x ar with z|z
   .exact lg x z
   .exact ft bV z
  rintro ao b5 ⟨sR,a2,rfl,hv,bV,lg⟩;rw[ej,qaO] at hv;nofun;exact q bO sR b5 hv lg bV
inductive Ft(T:Tp K mg)(vs:List V)(H:Hp)(Q:VK)(cR:XK):Prop
 |mk (t:Addr) (b:B5) (r:Int) (de:vs=[.ref t,.int r]) (cK:H t=some (.tup b.v)) (cO:∀u aj,H u=none->Zd H aj->aj u=some (.tup (p8 b r).v)->Q (.ref u) aj):Ft T vs H Q cR
theorem Og:OkN P w base 1 T.bm (Ft T):=by
 refine T.bm.F.okX K5 (by walk_at "l") (λcD A outer s H vs Q E aC h=>?_)
 .have hu:=aC.hu;obtain⟨t,b,r,rfl,bY,q⟩:=h;dsimp only[B5.v] at bY;refine⟨_,(b0 (c9 (fz %[%[0,bM|0],%[0,bM|0],%[0,bM|0],%[0,bM|0],cm mv (pv 1) %[0,bM|0]|2]))),?_⟩
  walk_at "a"
  nofun;refine⟨by show 5<=sizeLine;decide,λu e8=>?_⟩;exact q u _ e8 (cF e8) Ze
inductive Fu(vs:List V)(H:Hp)(Q:VK)(E:XK):Prop
 |mk (p c:Addr) (ap:HM) (fp:List Addr) (rs:List Int) (de:vs=[.ref p,.ref c]) (cK:dr T H p ap fp) (cO:ap.belts.length<=400) (dm:ZcH ap.names) (dI:SqL K H c (rs.map V.int)) (ef:rs.length<=1000) (eR:(¬k6 rs (startsL ap.belts)->∀aj,Zd H aj->E (.ref T.ac) none aj)) (fw:(k6 rs (startsL ap.belts)->∀(eE:Addr)(jR:List Addr)(aj:Hp),dr T aj eE ⟨ap.names,ap.belts++gU ap.belts rs⟩ jR->(∀x∈jR,H x=none)->Zd H aj->Q (.ref eE) aj)):Fu vs H Q E
theorem Oh:OkN P w base 4 T.bn (Fu T):=by
 have gf:=T.a;have gg:=T.c;refine T.bn.F.okX C8 (by walk_at "l") (λcD A outer s H vs Q E aC h=>?_)
 .have hu:=aC.hu;obtain⟨p,c,ap,fp,rs,rfl,b8,bU,jv,a_,la,bJ,q⟩:=h;refine⟨_,(bN (et (c2 T.aT (Fp T) aC cG %[0,1|2]))
     (bN %[cA,2,C8.nd,kg (pv 0) T.a T.ag (qp T) aC cG|1]
     (b0 (c9 (c2 T.bl (Oc T) aC cG %[kg (pv 0) T.a T.af (qo T) aC cG,cm (eX K) (pv 2) (ho (xs:=["row","room"]) rfl (eB (x:="row") (zs:=[]) (ix:=[]) (cs xA) ["hall","rooms","belts"] rfl rfl (by decide+kernel)) (t4 (K:=K) rfl rfl T.S %[2,1|2]) (λcl C s H fp=>⟨(e7 (K:=K) (n:=2) rfl rfl (c_ %[cr,0,(show(["row","room"]:List Str).Nodup by decide+kernel)|1] (c_ %[cr,1,(show(["row","room"]:List Str).Nodup by decide+kernel)|1] e0))),e5,(c2 T.bm (Og T) aC WP %[0,1|2])⟩))|2]))))),?_⟩
  walk_at "a"
  nofun;refine⟨p,c,ap,fp,rs,rfl,b8,∅,a_,la,bJ,λFv aA a'=>?_⟩;have ii:=b8.same a';have dY:rs.length=ap.belts.length:=by have:=Fv.1;simpa[startsL] using this
  nofun;intro b aP bs au bQ ig lG;have gN:=ii.same bQ;nofun;refine⟨p,ap,fp,rfl,gN,λn b5 b' bV Oi=>?_⟩;have lV:=bV _ _ ig;have Fw:=SqL.of (K:=K) lV;have m5:=lG.keep (λb xs e=>bV _ _ e);have ej:=m5.length;have i2:=a'.trans (bQ.trans bV);have l6:=i2.seq a_;nofun;refine⟨b,c,rfl,⟨_,Fw⟩,⟨_,l6⟩,?_⟩;refine Z2 (own:=2) (t5 Fw l6 (by rw[GM];omega)) (ed ∅) (λi=>[some (bs.getD i .non),some (.int (rs.getD i 0))]) (λ_=>rfl) (λ_=>true) (λi v aj=>∃u,v= .ref u/\aj u=some (.tup (p8 (ap.belts.getD i dB) (rs.getD i 0)).v)) (λ_ _ _ _ s ⟨u,x,y⟩=>⟨u,x,s _ _ y⟩) (λi c6 aj v bZ f7 hi bI y em k=>?_) (λi aj cQ hi bI k=>?_) (λhJ i aj cQ hi gR hp0 fP bI k=>?_) (λd bZ ys hd bI qu db=>?_)
  .obtain⟨t,bY,rfl,rfl⟩:=y;obtain⟨x1,x2,rfl⟩:∃x1 x2,c6=[x1,x2]:=by
    match c6,em with
    | [x1,x2],_=>exact⟨x1,x2,rfl⟩
   have j0:i<rs.length:=by omega
   have pm:(rs.map V.int).getD i .non= .int (rs.getD i 0):=by rw[cL j0];simp[List.getD,j0]
   rw[pm];refine Rd.Yv (.of Ze) rfl ?_;nofun;exact k _ (cF bY)
  .nofun;exact k aj (Zd.refl aj)
  .obtain⟨t,eC,dJ⟩:=m5.getD (i:=i) ∅;rw[eC];nofun;refine⟨t,_,_,rfl,bI _ _ dJ,λu b4 hu cB zv=>?_⟩;exact k _ b4 cB ⟨u,rfl,by rw[U3 (λz=>by rw[z] at hu;obtain⟨ys,e⟩:=fP;rw[e] at hu;cases hu)];exact zv⟩
  rw[qak.mpr (by simp),ej] at db;have Fx:ev bZ ys (gU ap.belts rs):=(Dq db).keep λb xs e=>mJ _ _ e;have oK:=Fx.length;rw[uG] at oK;have lX:=bI _ _ lV;have Oj:=bI _ _ Oi;nofun;refine Rd.Zk8 lX qu (qbh (ed ∅)) (λe b9=>?_);have cB:Zd bZ (upd bZ e (.lst (bs++ys))):=cF b9;have m4:(upd bZ e (.lst (bs++ys))) e=some (.lst (bs++ys)):=Ze;generalize upd bZ e (.lst (bs++ys))=b4 at*;have fy:=(i2.trans bI).trans cB;nofun;refine⟨n,e,ap.names,bs++ys,ap.belts++gU ap.belts rs,rfl,cB _ _ Oj,m4,((m5.keep λb xs e=>bI _ _ e).app Fx).keep (λb xs e=>cB _ _ e),jv,by rw[qag,uG];omega,λeE jR cZ zh u' c8=>?_⟩;exact q Fv eE jR cZ zh (λx ar=>ft fy (u' x ar)) (fy.trans c8)
inductive Fy(T:Tp K mg)(vs:List V)(H:Hp)(Q:VK)(cR:XK):Prop
 |mk (a b:Addr) (hs:List Int) (l:List (Int×Int)) (xs:List V) (de:vs=[.ref a,.ref b]) (cK:SqL K H a (hs.map V.int)) (cO:SqL K H b xs) (dm:hW H l xs) (dI:(∀x∈l,0<=x.1/\x.1<hs.length)) (ef:l.length<=1000) (eR:∀aj,Zd H aj->Q (.bl (r_ hs l)) aj):Fy T vs H Q cR
theorem Ol:OkN P w base 1 T.bo (Fy T):=by
 refine T.bo.F.okX K6 (by walk_at "l") (λcD A outer s H vs Q E aC h=>?_)
 .have hu:=aC.hu;obtain⟨a,b,hs,l,xs,rfl,bK,au,bO,aC,bU,q⟩:=h;have gF:l.length=xs.length:=Paired.length bO;refine⟨_,(b0 (c9 (dk (rL (K:=K) rfl rfl) (by rfl) T.R qbG %[ho (xs:=["belt","take"]) rfl (eB (x:="belt") (zs:=["heaps"]) (ix:=[0]) (cs xB) ["heaps","takes"] rfl rfl (by decide+kernel)) (eG (K:=K) rfl (pv 1)) (λcl C s H fp=>⟨(e7 (K:=K) (n:=2) rfl rfl (c_ %[cr,0,(show(["belt","take","heaps"]:List Str).Nodup by decide+kernel)|1] (c_ %[cr,1,(show(["belt","take","heaps"]:List Str).Nodup by decide+kernel)|1] e0))),e5,(lA q4 %[2,0|0] (pv 1) (dD _))⟩)|2]))),?_⟩
  walk_at "a"
  nofun;refine Z2 (own:=2) (eF au).y (ed ∅) (λi=>[some (.int (l.getD i (0,0)).1),some (.int (l.getD i (0,0)).2)]) (λ_=>rfl) (λ_=>true) (λi v _=>v= .bl (decide ((l.getD i (0,0)).2<=hs.getD (l.getD i (0,0)).1.toNat 0))) (λ_ _ _ _ _ z=>z) (λi c6 aj v aP f7 hi bI y em k=>?_) (λi aj cQ hi bI k=>?_) (λhJ i aj cQ hi a_ hp0 fP bI k=>?_) (λr aj ys hL bI eu db=>?_)
  .obtain⟨rfl,rfl⟩:=y;obtain⟨x1,x2,rfl⟩:∃x1 x2,c6=[x1,x2]:=by
    match c6,em with
    | [x1,x2],_=>exact⟨x1,x2,rfl⟩
   obtain⟨v,cz,t,rfl,bY⟩:=Paired.get bO (fm (show i<l.length by omega));have c7:xs.getD i .non= .ref t:=by simp[List.getD,cz]
   have jW:l.getD i (0,0)=l[i]:=by simp[List.getD,show i<l.length by omega]
   rw[c7];rw[jW] at k;refine Rd.Yv (.of (bI _ _ bY)) rfl ?_;nofun;exact k _ (Zd.refl _)
  .nofun;exact k aj (Zd.refl aj)
  .have jW:l.getD i (0,0)=l[i]:=by simp[List.getD,show i<l.length by omega]
   obtain⟨oq,cE⟩:=aC _ (GE (show i<l.length by omega));rw[jW] at k|-;generalize l[i]=x at*;have eo:=bI.seq bK;have eZ:=Z1 oq cE;nofun;exact k _ aj (Zd.refl aj) rfl
  .have e:ys=(l.map λx=>decide (x.2<=hs.getD x.1.toNat 0)).map V.bl:=by
    rw[t1 (R:=λi v _=>v=V.bl (decide ((l.getD i (0,0)).2<=hs.getD (l.getD i (0,0)).1.toNat 0))) (H:=aj) (r:=λi=>V.bl (decide ((l.getD i (0,0)).2<=hs.getD (l.getD i (0,0)).1.toNat 0))) (λ_ _ z=>z) db,qak.mpr (by simp),<-gF];refine qaE (by simp) λi ay aD=>?_;have hi:i<l.length:=by simpa using ay
    have jW:l.getD i (0,0)=l[i]:=by simp[List.getD,hi]
    rw[qbx,qbx,qbx,List.getElem_range,jW]
   rw[e] at eu;nofun;have bX:(l.map λx=>decide (x.2<=hs.getD x.1.toNat 0)).all id=r_ hs l:=by rw[List.all_map];rfl
   rw[bX];exact q aj bI
inductive Fz(vs:List V)(H:Hp)(Q:VK)(E:XK):Prop
 |mk (p:Addr) (w:Int) (fl:FM) (fp:List Addr) (de:vs=[.ref p,.int w]) (cK:jo T H p fl fp) (cO:(¬(0<=w/\w<fl.many)->E (.ref T.p) none H)) (dm:(0<=w->w<fl.many->Q .non H)):Fz vs H Q E
theorem Om:OkM P w mg base 4 T.bp (Fz T):=by
 have zw:=T.o;have zx:=T.G;refine T.bp.F.okX K7 (by walk_at "l") (λcD A outer s H vs Q E aC h=>?_)
 .have hu:=aC.hu;obtain⟨p,w,fl,fp,rfl,bS,bJ,q⟩:=h;obtain⟨dx,a,b,c,ck,eS,rfl,ay,aD,cj,cS,ec,dq,hH,lM,r9⟩:=id bS;refine⟨_,(b0 (dO (hh (fX (K:=K) rfl (c2 T.an (sA T) aC cG %[1,dk (fb K) (by rfl) T.f qal %[fW (K:=K) rfl (pv 0) rfl|2]|2]) (λ_=>rfl))) (b0 (hm T.H.g T.H.e qai rfl %[Yo|2])) dV)),?_⟩
  walk_at "a"
  nofun;have jW:((ck.map V.ref).length:Int)=fl.many:=by
   rw[GM,dq.len];unfold r8;simp only[GM,qbz];omega
  rw[jW]
  by_cases c:0<=w/\w<fl.many
  .rw[decide_eq_true c];nofun;exact q c.1 c.2
  .rw[decide_eq_false c];nofun;exact bJ c
inductive FA(vs:List V)(H:Hp)(Q:VK)(E:XK):Prop
 |mk (p q:Addr) (ws:List Int) (fl:FM) (fp:List Addr) (de:vs=[.ref p,.ref q]) (cK:jo T H p fl fp) (cO:SqL K H q (ws.map V.int)) (dm:fl.rows.length<=1000) (dI:(goR fl.many fl.rows fl.heaps ws= .error true->∀aj,Zd H aj->E (.ref T.p) none aj)) (ef:(goR fl.many fl.rows fl.heaps ws= .error false->∀aj,Zd H aj->E (.ref T.aN) none aj)) (eR:(∀hs,goR fl.many fl.rows fl.heaps ws= .ok hs->∀(aj:Hp)(el:List Addr),jo T aj p ⟨fl.many,fl.rows,hs⟩ el->df fp H aj->V0 fp el H->Q .non aj)):FA vs H Q E
theorem ZfX{f:Nat->Int}{hs:List Int}{is:List Nat}{i:Nat}(h:i<is.length):bump f hs (is.take (i+1))=(bump f hs (is.take i)).set is[i] ((bump f hs (is.take i)).getD is[i] 0+f is[i]):=by
 unfold bump;rw[qac h,qbT]
 rfl
theorem Zj9{f':List Nat}{f:Nat->Int}{H:Hp}{vs:List V}{i:Nat}(h:hW H (f'.map λi:Nat=>((i:Int),f i)) vs)(hi:i<f'.length):∃t,vs.getD i .non= .ref t/\H t=some (.tup [.int (f'[i]:Nat),.int (f f'[i])]):=by
 obtain⟨v,cz,t,rfl,bY⟩:=Paired.get h (i:=i) (x:=((f'[i]:Int),f f'[i])) (by rw[qao,fm hi];rfl);exact⟨t,by simp[List.getD,cz],bY⟩
theorem On:OkM P w mg base 5 T.bq (FA T):=by
 have zw:=T.o;have zx:=T.G;refine T.bq.F.okX oP (by walk_at "l") (λcD A outer s H vs Q E aC h=>?_)
 .have hu:=aC.hu;obtain⟨p,nD,ws,fl,fp,rfl,bS,cC,bU,bJ,bX,q⟩:=h;obtain⟨dx,a,b,c,ck,eS,rfl,ay,aD,cj,cS,ec,dq,hH,lM,r9⟩:=id bS;refine⟨_,(bN %[cA,2,oP.nd,iv (lF (K:=K) rfl) (by rfl) T.j qaG %[fW (K:=K) rfl (pv 0) rfl|2]|1]
     (bN (d4 PassesOwn.leaving rfl (eG (K:=K) rfl (pv 1)) %[cr,3,oP.nd|1] (bN (et (hB (pv 0) T.o T.bp (Om T) aC cG %[3|2]))
     (bN (dO (hh (fX (K:=K) rfl (c2 T.bo (Ol T) aC cG %[2,%[fW (K:=K) rfl (pv 0) rfl,3|0]|2]) (λ_=>rfl))) (b0 (hm T.T.g T.T.e qai rfl %[Yo|2])) dV)
     (bN (d4 PassesOwn.leaving rfl (eG (K:=K) rfl %[fW (K:=K) rfl (pv 0) rfl,3|0]) (e7 (K:=K) (n:=2) rfl rfl (c_ %[cr,4,oP.nd|1] (c_ %[cr,5,oP.nd|1] e0))) (b0 (tw (pv 2) (pv 4) (t2 (K:=K) rfl) (pv 5) H6 iU)))
     (b0 (d4 PassesOwn.leaving rfl (eG (K:=K) rfl %[fW (K:=K) rfl (pv 0) rfl,3|0]) (e7 (K:=K) (n:=2) rfl rfl (c_ %[cr,4,oP.nd|1] (c_ %[cr,6,oP.nd|1] e0))) (b0 (tw (pv 2) (pv 4) (t2 (K:=K) rfl) (pv 6) q0 iU))))))))
     (b0 (kf (K:=K) rfl (pv 0) (pv 2) rfl)))),?_⟩
  walk_at "a"
  nofun;refine Rd.Vk (.of ec) (λr aC=>?_);have a':Zd H (upd H r (.lst (fl.heaps.map V.int))):=cF aC;have gW:(upd H r (.lst (fl.heaps.map V.int))) r=some (.lst (fl.heaps.map V.int)):=Ze;generalize upd H r (.lst (fl.heaps.map V.int))=aA at*;have hc:=a'.seq cC;nofun;refine Yr (eF cC) (λi ao aj=>Zd H aj/\(∃a1 a2 a3 a4,ao=[some (.ref p),some (.ref nD),some (.ref r),a1,a2,a3,a4])/\∃hs,goR fl.many fl.rows fl.heaps (ws.take i)= .ok hs/\aj r=some (.lst (hs.map V.int))) ⟨a',⟨_,_,_,_,rfl⟩,fl.heaps,rfl,gW⟩ (λi ao aj h=>h.1) ?_ ?_
  .rintro i ao aP hi ⟨bQ,⟨a1,a2,a3,a4,rfl⟩,hs,bR,gd⟩;have ju:i<ws.length:=by simpa using hi
   have f5:=fm ju;have e3:(ws.map V.int).getD i .non= .int ws[i]:=by simp[List.getD,ju]
   rw[e3];have gh:=uF bR f5;have dM:=λb=>Zgr (b:=b) bR f5;generalize ws[i]=w at*;have nX:=bS.same bQ;have dY:hs.length=fl.rows.length:=xX lM bR;nofun;refine⟨p,w,fl,_,rfl,nX,λz=>bJ (dM true (by unfold turnR;rw[if_neg z])) aP bQ,λey eL=>?_⟩;have g1:=bQ _ _ ay;have g3:=bQ _ _ cj;have je:=bQ _ _ cS;obtain⟨x,vs,eZ,ar,qy⟩:=dq.at ey (Dl ey eL);obtain⟨y,d6,gV,bW,sS⟩:=hH.at ey (Do ey eL);have pa:=bQ _ _ ar;have Oo:=bQ _ _ bW;have dS:=Zc4 (ls:=fl.rows) (w:=w);nofun;refine⟨r,x,hs,takeRow fl.rows w,vs,rfl,.of gd,.of pa,qy.keep λ_ _ z=>bQ _ _ z,Lx dY,∅,λb5 bV=>?_⟩;rw[ZiT dY];cases oo:fZ fl.rows hs w with
   |false=>
    nofun;exact bX (dM false (by unfold turnR;rw[if_pos ⟨ey,eL⟩,oo];rfl)) b5 (bQ.trans bV)
   |true=>
    have hok:goR fl.many fl.rows fl.heaps (ws.take (i+1))= .ok (eY fl.rows hs w):=by
     rw[gh];unfold turnR;rw[if_pos ⟨ey,eL⟩,oo,if_pos rfl]
    have i2:=bQ.trans bV;have k1:=i2 _ _ ay;have k3:=i2 _ _ cj;have Vv:=i2 _ _ ar;have iK:=bV _ _ gd;have Vx:x≠r:=dh ar aC;have Vy:y≠r:=dh bW aC;have fB:vs.length=(dz fl.rows w).length:=by rw[<-Paired.length qy];unfold takeRow;simp
    have zy:d6.length=(dR fl.rows w).length:=by rw[<-Paired.length sS];unfold giveRow;simp
    nofun;refine Yr (eF (SqL.of ar)) (λj ao aj=>Zd H aj/\(∃a2 a3 a4,ao=[some (.ref p),some (.ref nD),some (.ref r),some (.int w),a2,a3,a4])/\aj r=some (.lst ((bump (λi=>-(fl.rows.getD i dB).take) hs ((dz fl.rows w).take j)).map V.int))) ⟨i2,⟨_,_,_,rfl⟩,iK⟩ (λi ao aj h=>h.1) ?_ ?_
    .rintro j ao bZ bP ⟨cd,⟨a2,a3,a4,rfl⟩,hq⟩;have gp:j<(dz fl.rows w).length:=by omega
     obtain⟨t,eC,dJ⟩:=Zj9 qy gp;have dw:=oW (GE gp);have pU:=ZfX (f:=λi=>-(fl.rows.getD i dB).take) (hs:=hs) gp;rw[eC];refine Rd.Yv (.of (cd _ _ dJ)) rfl ?_;generalize (dz fl.rows w)[j]=m at*;have bl:=Va (λi=>-(fl.rows.getD i dB).take) ((dz fl.rows w).take j) hs;generalize bump (λi=>-(fl.rows.getD i dB).take) hs ((dz fl.rows w).take j)=us at*;have lW:=Z1 (ns:=us) (k:=(m:Int)) (qa0 m) ∅;have Op:(m:Int)<((us.map V.int).length:Int):=by simp;omega
     nofun;refine⟨cd.new aC,⟨_,_,_,rfl⟩,?_⟩;rw[Ze,pU,qbc]
     rfl
    .rintro ao bZ ⟨cd,⟨a2,a3,a4,rfl⟩,hq⟩;have hg:=cd _ _ ay;have DC:=cd _ _ cS;have Vz:=cd _ _ bW;rw[fB,qaO] at hq;nofun;have bl:=Va (λi=>-(fl.rows.getD i dB).take) (dz fl.rows w) hs;refine Yr (eF (SqL.of bW)) (λj ao aj=>Zd H aj/\(∃a2 a3 a4,ao=[some (.ref p),some (.ref nD),some (.ref r),some (.int w),a2,a3,a4])/\aj r=some (.lst ((bump (λi=>(fl.rows.getD i dB).give) (bump (λi=>-(fl.rows.getD i dB).take) hs (dz fl.rows w)) ((dR fl.rows w).take j)).map V.int))) ⟨cd,⟨_,_,_,rfl⟩,hq⟩ (λi ao aj h=>h.1) ?_ ?_
     .rintro j ao b4 bP ⟨cB,⟨a2,a3,a4,rfl⟩,lZ⟩;have gp:j<(dR fl.rows w).length:=by omega
      obtain⟨t,eC,dJ⟩:=Zj9 sS gp;have dw:=p7 (GE gp);have pU:=ZfX (f:=λi=>(fl.rows.getD i dB).give) (hs:=bump (λi=>-(fl.rows.getD i dB).take) hs (dz fl.rows w)) gp;rw[eC];refine Rd.Yv (.of (cB _ _ dJ)) rfl ?_;generalize (dR fl.rows w)[j]=m at*;have VA:=Va (λi=>(fl.rows.getD i dB).give) ((dR fl.rows w).take j) (bump (λi=>-(fl.rows.getD i dB).take) hs (dz fl.rows w));generalize bump (λi=>(fl.rows.getD i dB).give) (bump (λi=>-(fl.rows.getD i dB).take) hs (dz fl.rows w)) ((dR fl.rows w).take j)=us at*;have lW:=Z1 (ns:=us) (k:=(m:Int)) (qa0 m) ∅;have Op:(m:Int)<((us.map V.int).length:Int):=by simp;omega
      nofun;refine⟨cB.new aC,⟨_,_,_,rfl⟩,?_⟩;rw[Ze,pU,qbc]
      rfl
     .rintro ao b4 ⟨cB,⟨a2,a3,a4,rfl⟩,lZ⟩;rw[zy,qaO,Lv dY] at lZ;nofun;exact⟨cB,⟨_,_,_,_,rfl⟩,_,hok,lZ⟩
  .rintro ao aP ⟨bQ,⟨a1,a2,a3,a4,rfl⟩,hs,bR,gd⟩;rw[GM,qaO] at bR;have g1:=bQ _ _ ay;have Oq:p≠r:=dh ay aC;nofun;have da:df [p] aP (upd aP p (.ins T.e dx [("takes",.ref a),("gives",.ref b),("heaps",.ref r)])):=gy (by simp) g1 (by intro _ z;cases z);have iu:∀x,x≠p->H x≠none->(upd aP p (.ins T.e dx [("takes",.ref a),("gives",.ref b),("heaps",.ref r)])) x=H x:=λx n d=>by
    rw[b3 n];cases e:H x with
    |none=>exact absurd e d
    |some o=>exact bQ _ _ e
   have f0:∀on xs,H on=some (.tup xs)->(upd aP p (.ins T.e dx [("takes",.ref a),("gives",.ref b),("heaps",.ref r)])) on=some (.tup xs):=λon xs z=>da.tups _ _ (bQ _ _ z);have xf:∀{ls:List (List (Int×Int))}{is:List Addr},LL H ls is->∀x∈is,x≠p:=λ{ls is} l x ar z=>by
    obtain⟨i,hi,rfl⟩:=qaq ar;have j0:i<ls.length:=by rw[<-l.len];exact hi
    obtain⟨y,dn,vs,ha,_⟩:=Paired.get l (fm j0);rw[fm hi] at dn;cases dn;rw[z,ay] at ha;cases ha
   have Ot:df (p::dx::a::b::c::(ck++eS)) H (upd aP p (.ins T.e dx [("takes",.ref a),("gives",.ref b),("heaps",.ref r)])):=bQ.frame.trans (da.mono (by simp));refine q hs bR _ (p::dx::a::b::r::(ck++eS)) ⟨dx,a,b,r,ck,eS,rfl,Ze,?_,?_,?_,?_,dq.keep f0 (λx ar=>iu x (xf dq x ar) (dq.dom x ar)),hH.keep f0 (λx ar=>iu x (xf hH x ar) (hH.dom x ar)),xX lM bR,r9⟩ Ot (λx ar=>?_)
   .exact(iu _ (e_ aD ay (by intro z;cases z)) (by rw[aD];simp)).trans aD
   .exact(iu _ (e_ cj ay (by intro z;cases z)) (by rw[cj];simp)).trans cj
   .exact(iu _ (e_ cS ay (by intro z;cases z)) (by rw[cS];simp)).trans cS
   .rw[b3 Oq.symm];exact gd
   .simp only[qaf,qaD] at ar|-;rcases ar with rfl|rfl|rfl|rfl|rfl|ar|ar
    .exact .inl (.inl rfl)
    .exact .inl (.inr (.inl rfl))
    .exact .inl (.inr (.inr (.inl rfl)))
    .exact .inl (.inr (.inr (.inr (.inl rfl))))
    .exact .inr aC
    .exact .inl (.inr (.inr (.inr (.inr (.inr (.inl ar))))))
    .exact .inl (.inr (.inr (.inr (.inr (.inr (.inr ar))))))
inductive zz(vs:List V)(H:Hp)(Q:VK)(E:XK):Prop
 |mk (p dx h:Addr) (ap:HM) (fp:List Addr) (de:vs=[.ref p,.ref h]) (cK:H p=some (.ins T.e dx [])) (cO:H dx=some (.own p)) (dm:dr T H h ap fp) (dI:ap.names.length<=1000) (ef:ap.belts.length<=1000) (eR:∀(aj:Hp)(el:List Addr),jo T aj p ⟨ap.names.length,ap.belts,ap.belts.map B5.start⟩ el->(∀x∈el,x=p\/x=dx\/H x=none)->(∀b o,H b=some o->b≠p->aj b=some o)->Q .non aj):zz vs H Q E
theorem Zf4{T:Tp K mg}{H:Hp}{h:Addr}{ap:HM}{fp:List Addr}{Q:Addr->Hp->Prop}{E:XK}(b8:dr T H h ap fp)(b':ap.names.length<=1000)(au:ap.belts.length<=1000)
  (q:∀(p:Addr)(el:List Addr)(aj:Hp),jo T aj p ⟨ap.names.length,ap.belts,ap.belts.map B5.start⟩ el->(∀x∈el,H x=none)->Zd H aj->Q p aj):
  ∀x dx,H x=none->H dx=none->dx≠x->zz T (.ref x::([.ref h]++ [])) (upd (upd H dx (.own x)) x (.ins T.e dx [])) (λv aP=>v= .non/\Q x aP) E:=by
 intro x dx ar h0 ne;have bI:Zd H (upd (upd H dx (.own x)) x (.ins T.e dx [])):=λb o e=>by rw[b3 (dh e ar),b3 (dh e h0)];exact e
 refine⟨x,dx,h,ap,fp,rfl,Ze,by rw[b3 ne,Ze],b8.same bI,b',au,λaj el b8 bS bH=>⟨rfl,q x el aj b8 (λy bW=>?_) (λb o e=>bH b o (bI b o e) (dh e ar))⟩⟩;rcases bS y bW with rfl|rfl|h
 .exact ar
 .exact h0
 .by_cases ay:y=x
  .rw[ay];exact ar
  .by_cases aD:y=dx
   .rw[aD];exact h0
   .rw[b3 ay,b3 aD] at h;exact h
theorem Zmm{H0 H:Hp}{n:Nat}{r:Addr}{f:Int->List (Int×Int)}{ys:List V}(h:Paired (λ(i:Nat) v=>∃x vs,v=V.ref x/\H0 x=none/\(hid H r) x=some (.lst vs)/\hW (hid H r) (f (0+(i:Int))) vs) ((List.range n).filter λ_=>true) ys):
  ∃ck:List Addr,ys=ck.map V.ref/\(∀x∈ck,H0 x=none/\x≠r)/\LL H ((List.range n).map λw:Nat=>f w) ck:=by
 rw[qak.mpr (by simp)] at h;generalize List.range n=is at h
 induction h with
 |nil=>exact⟨[],rfl,by simp,.nil⟩
 | @cons i v is ys b8 t b_=>
  obtain⟨ck,e,d,l⟩:=b_;obtain⟨x,vs,rfl,c0,ay,aD⟩:=b8;rw[qbb] at aD;have nx:x≠r:=λz=>by rw[z,rH] at ay;cases ay
  refine⟨x::ck,by rw[e];rfl,λy bW=>?_,.cons ⟨vs,mJ _ _ ay,aD.keep λb xs z=>mJ _ _ z⟩ l⟩;rcases qaf.mp bW with rfl|bW
  .exact⟨c0,nx⟩
  .exact d y bW
theorem Ou:OkI P w mg base 7 T.br (zz T):=by
 have zw:=T.o;have zx:=T.G;have gf:=T.a;have gg:=T.c;refine T.br.F.okX C9 (by walk_at "l") (λcD A outer s H vs Q E aC h=>?_)
 .have hu:=aC.hu;obtain⟨p,dx,bK,ap,fp,rfl,bO,h0,b8,b',pp,q⟩:=h;have pq:p∉fp:=by
   intro z;obtain⟨Ov,a,b,bs,rfl,ay,aD,cj,cS,ht,dq⟩:=b8;simp only[qaf,qaX,or_false] at z;rcases z with rfl|rfl|rfl|rfl
   .rw[ay] at bO
    injection bO with e
    injection e with bJ bX dn
    cases dn
   .rw[aD] at bO;cases bO
   .rw[cj] at bO;cases bO
   .rw[cS] at bO;cases bO
  refine⟨_,(bN %[cA,2,C9.nd,dk (fb K) (by rfl) T.f qal %[kg (pv 1) T.a T.af (qo T) aC cG|2]|1]
     (bN (kf (K:=K) rfl (pv 0) (ho (xs:=["work"]) rfl (eB (x:="work") (zs:=["hall"]) (ix:=[1]) (cs rW) ["self","hall","works"] rfl rfl (by decide+kernel)) (g4 rfl T.h %[2|2]) (λcl C s H fp=>⟨%[cr,0,(show(["work","hall"]:List Str).Nodup by decide+kernel)|1],e5,(c2 T.aJ (yU T) aC WP %[1,0|2])⟩)) rfl)
     (bN (kf (K:=K) rfl (pv 0) (ho (xs:=["work"]) rfl (eB (x:="work") (zs:=["hall"]) (ix:=[1]) (cs rW) ["self","hall","works"] rfl rfl (by decide+kernel)) (g4 rfl T.h %[2|2]) (λcl C s H fp=>⟨%[cr,0,(show(["work","hall"]:List Str).Nodup by decide+kernel)|1],e5,(c2 T.aI (yS T) aC WP %[1,0|2])⟩)) rfl)
     (b0 (kf (K:=K) rfl (pv 0) (jM rfl (eB (x:="row") (zs:=[]) (ix:=[]) (cs rW) ["self","hall","works"] rfl rfl (by decide+kernel)) (eG (K:=K) rfl (kg (pv 1) T.a T.ag (qp T) aC cG)) (λcl C s H fp=>⟨%[cr,0,(show(["row"]:List Str).Nodup by decide+kernel)|1],e5,%[0,bM|0]⟩)) rfl))))),?_⟩
  walk_at "a"
  nofun;refine⟨bK,ap,fp,rfl,b8,λnm aA jv a' sC=>?_⟩;have ii:=b8.same a';have fP:=a' _ _ bO;have l5:=a' _ _ h0;have m6:(ap.names.map V.str).length=ap.names.length:=by simp
  nofun;refine Z2 (own:=1) Wf.y (ed (by rw[m6];exact b')) (λi=>[some (.int (0+(i:Int)))]) (λ_=>rfl) (λ_=>true) (λ(i:Nat) v aP=>∃x vs,v=V.ref x/\aA x=none/\aP x=some (.lst vs)/\hW aP (takeRow ap.belts (0+(i:Int))) vs) (λ_ _ _ _ e ⟨x,vs,cK,cO,dm,dI⟩=>⟨x,vs,cK,cO,e _ _ dm,dI.keep λ_ _ z=>e _ _ z⟩) (λi c6 aj v aP f7 hi bI y em k=>?_) (λi aj cQ hi bI k=>?_) (λhJ i aj cQ hi a_ hp0 hp1' bI k=>?_) (λdA aP ys hra bQ sT db=>?_)
  .obtain⟨rfl,rfl⟩:=y;obtain⟨x1,rfl⟩:∃x1,c6=[x1]:=by
    match c6,em with
    | [x1],_=>exact⟨x1,rfl⟩
   nofun;exact k _ (Zd.refl _)
  .nofun;exact k aj (Zd.refl aj)
  .nofun;refine⟨bK,0+(i:Int),ap,fp,rfl,ii.same bI,pp,∅,∅,λx b5 vs ar bV rS dv=>?_⟩;refine k _ b5 bV ⟨x,vs,rfl,?_,t0 hp1' ar rS,dv.keep λb xs z=>Zac hp1' bV z⟩;cases e:aA x with
   |none=>rfl
   |some o=>rw[bI _ _ e] at ar;cases ar
  obtain⟨ck,rfl,jj,qz⟩:=Zmm db;rw[m6,GT] at qz;have lD:=bQ _ _ fP;have kM:=bQ _ _ l5;have gN:=ii.same bQ;have qk:p≠dx:=e_ bO h0 (by intro z;cases z);have l8:p≠dA:=e_ lD sT (by intro z;cases z);have FC:∀{x:Addr},aA x=none->H x=none:=λ{x} ar=>by
   cases e:H x with
   |none=>rfl
   |some o=>rw[a' _ _ e] at ar;cases ar
  nofun;have da:df [p] aP (upd aP p (.ins T.e dx [("takes",.ref dA)])):=gy (by simp) lD (by intro _ z;cases z);have nZ:(upd aP p (.ins T.e dx [("takes",.ref dA)])) p=some (.ins T.e dx [("takes",.ref dA)]):=Ze;have zc:=da.keep _ _ kM (by simpa using qk.symm);have zA:=da.keep _ _ sT (by simpa using l8.symm);have hv:=gN.off da (λx ar z=>pq (by rw[<-qab.mp z];exact ar));have l9:∀x∈ck,x≠p:=λx ar z=>by
   have:=(jj x ar).1;rw[z,fP] at this;cases this
  have sU:LL (upd aP p (.ins T.e dx [("takes",.ref dA)])) _ ck:=qz.keep da.tups (λx ar=>b3 (l9 x ar));have k3:∀b o,H b=some o->b≠p->(upd aP p (.ins T.e dx [("takes",.ref dA)])) b=some o:=λb o e n=>da.keep _ _ (bQ _ _ (a' _ _ e)) (by simpa using n);generalize upd aP p (.ins T.e dx [("takes",.ref dA)])=b5 at*;clear da;nofun;refine Z2 (own:=1) Wf.y (ed (by rw[m6];exact b')) (λi=>[some (.int (0+(i:Int)))]) (λ_=>rfl) (λ_=>true) (λ(i:Nat) v aP=>∃x vs,v=V.ref x/\b5 x=none/\aP x=some (.lst vs)/\hW aP (giveRow ap.belts (0+(i:Int))) vs) (λ_ _ _ _ e ⟨x,vs,cK,cO,dm,dI⟩=>⟨x,vs,cK,cO,e _ _ dm,dI.keep λ_ _ z=>e _ _ z⟩) (λi c6 aj v aP f7 hi bI y em k=>?_) (λi aj cQ hi bI k=>?_) (λhJ i aj cQ hi a_ hp0 hp1' bI k=>?_) (λeg bZ ys k_ cd sV vh=>?_)
  .obtain⟨rfl,rfl⟩:=y;obtain⟨x1,rfl⟩:∃x1,c6=[x1]:=by
    match c6,em with
    | [x1],_=>exact⟨x1,rfl⟩
   nofun;exact k _ (Zd.refl _)
  .nofun;exact k aj (Zd.refl aj)
  .nofun;refine⟨bK,0+(i:Int),ap,fp,rfl,hv.same bI,pp,∅,∅,λx b4 vs ar cB hx5 dv=>?_⟩;refine k _ b4 cB ⟨x,vs,rfl,?_,t0 hp1' ar hx5,dv.keep λb xs z=>Zac hp1' cB z⟩;cases e:b5 x with
   |none=>rfl
   |some o=>rw[bI _ _ e] at ar;cases ar
  obtain⟨eS,rfl,vi,qA⟩:=Zmm vh;rw[m6,GT] at qA;have n0:=cd _ _ nZ;have qu:=cd _ _ zc;have n1:=cd _ _ zA;have kC:=hv.same cd;have vj:LL bZ _ ck:=sU.keep (λb xs z=>cd _ _ z) (λx ar=>by
   cases e:b5 x with
   |none=>exact absurd e (sU.dom x ar)
   |some o=>exact cd _ _ e)
  have FD:p≠eg:=e_ n0 sV (by intro z;cases z);have hP:∀{x:Addr},b5 x=none->H x=none:=λ{x} ar=>by
   cases e:H x with
   |none=>rfl
   |some o=>
    by_cases n:x=p
    .rw[n,nZ] at ar;cases ar
    .rw[k3 _ _ e n] at ar;cases ar
  nofun;have dQ:df [p] bZ (upd bZ p (.ins T.e dx [("takes",.ref dA),("gives",.ref eg)])):=gy (by simp) n0 (by intro _ z;cases z);have vk:(upd bZ p (.ins T.e dx [("takes",.ref dA),("gives",.ref eg)])) p=some (.ins T.e dx [("takes",.ref dA),("gives",.ref eg)]):=Ze;have pi:=dQ.keep _ _ qu (by simpa using qk.symm);have vl:=dQ.keep _ _ n1 (by simpa using l8.symm);have qB:=dQ.keep _ _ sV (by simpa using FD.symm);have nU:=kC.off dQ (λx ar z=>pq (by rw[<-qab.mp z];exact ar));have n2:∀x∈eS,x≠p:=λx ar z=>by
   have:=(vi x ar).1;rw[z,nZ] at this;cases this
  have sW:LL (upd bZ p (.ins T.e dx [("takes",.ref dA),("gives",.ref eg)])) _ ck:=vj.keep dQ.tups (λx ar=>b3 (l9 x ar));have sX:LL (upd bZ p (.ins T.e dx [("takes",.ref dA),("gives",.ref eg)])) _ eS:=qA.keep dQ.tups (λx ar=>b3 (n2 x ar));have k5:∀b o,H b=some o->b≠p->(upd bZ p (.ins T.e dx [("takes",.ref dA),("gives",.ref eg)])) b=some o:=λb o e n=>dQ.keep _ _ (cd _ _ (k3 _ _ e n)) (by simpa using n);generalize upd bZ p (.ins T.e dx [("takes",.ref dA),("gives",.ref eg)])=b4 at*;clear dQ;nofun;intro u cZ bs sE c8 zB c1;have sk:=c1.length;have nS:bs.length<sizeLine:=ed (by rw[sk];exact pp);nofun;refine Yf (eF (SqL.of zB)) nS (λ_=>true) (λi=> .int ((ap.belts.map B5.start).getD i 0)) (λi aj cQ hi bI k=>?_) (λi aj cQ hi _ bI k=>?_) (λeU di zC d5 zD=>?_)
  .nofun;exact k aj (Zd.refl aj)
  .have ds:i<ap.belts.length:=by omega
   obtain⟨t,eC,dJ⟩:=c1.at (fm ds);have c7:bs.getD i .non= .ref t:=by simp[List.getD,eC]
   have Ow:(ap.belts.map B5.start).getD i 0=ap.belts[i].start:=by simp[List.getD,ds]
   rw[c7];rw[Ow] at k;have fu:=bI _ _ dJ;generalize ap.belts[i]=bb at*;dsimp only[B5.v] at fu;nofun;exact k aj (Zd.refl aj)
  have FE:di eU=some (.lst ((ap.belts.map B5.start).map V.int)):=by
   rw[zD,qak.mpr (by simp),sk]
   congr 2
   refine qaE (by simp) λi ay aD=>?_;have:i<ap.belts.length:=by simpa using ay
   simp[List.getD,this]
  have vm:=c8.trans d5;have vn:=vm _ _ vk;have qC:p≠eU:=e_ vn FE (by intro z;cases z);nofun;have FF:df [p] di (upd di p (.ins T.e dx [("takes",.ref dA),("gives",.ref eg),("heaps",.ref eU)])):=gy (by simp) vn (by intro _ z;cases z);have iu:∀x,x≠p->b4 x≠none->(upd di p (.ins T.e dx [("takes",.ref dA),("gives",.ref eg),("heaps",.ref eU)])) x=b4 x:=λx n d=>by
   rw[b3 n];cases e:b4 x with
   |none=>exact absurd e d
   |some o=>exact vm _ _ e
  have f0:∀b xs,b4 b=some (.tup xs)->(upd di p (.ins T.e dx [("takes",.ref dA),("gives",.ref eg),("heaps",.ref eU)])) b=some (.tup xs):=λb xs z=>FF.tups _ _ (vm _ _ z);have uf:∀b o,H b=some o->b≠p->(upd di p (.ins T.e dx [("takes",.ref dA),("gives",.ref eg),("heaps",.ref eU)])) b=some o:=λb o e n=>FF.keep _ _ (vm _ _ (k5 _ _ e n)) (by simpa using n);have gQ:∀{x:Addr},b4 x=none->H x=none:=λ{x} ar=>by
   cases e:H x with
   |none=>rfl
   |some o=>
    by_cases n:x=p
    .rw[n,vk] at ar;cases ar
    .rw[k5 _ _ e n] at ar;cases ar
  have qg:cZ eU=none->H eU=none:=λar=>gQ (by
   cases e:b4 eU with
   |none=>rfl
   |some o=>rw[c8 _ _ e] at ar;cases ar)
  refine q _ (p::dx::dA::eg::eU::(ck++eS)) ⟨dx,dA,eg,eU,ck,eS,rfl,Ze,?_,?_,?_,?_,sW.keep f0 (λx ar=>iu x (l9 x ar) (sW.dom x ar)),sX.keep f0 (λx ar=>iu x (n2 x ar) (sX.dom x ar)),by simp,qa0 _⟩ (λx ar=>?_) uf
  .exact(iu _ qk.symm (by rw[pi];simp)).trans pi
  .exact(iu _ l8.symm (by rw[vl];simp)).trans vl
  .exact(iu _ FD.symm (by rw[qB];simp)).trans qB
  .rw[b3 qC.symm];exact FE
  .simp only[qaf,qaD] at ar;rcases ar with rfl|rfl|rfl|rfl|rfl|ar|ar
   .exact .inl rfl
   .exact .inr (.inl rfl)
   .exact .inr (.inr (FC hra))
   .exact .inr (.inr (hP k_))
   .exact .inr (.inr (qg zC))
   .exact .inr (.inr (FC (jj x ar).1))
   .exact .inr (.inr (hP (vi x ar).1))
inductive FG(vs:List V)(H:Hp)(Q:VK)(E:XK):Prop
 |mk (p c d e:Addr) (ap:HM) (fp:List Addr) (ms rs ws:List Int) (de:vs=[.ref p,.ref c,.ref d,.ref e]) (cK:dr T H p ap fp) (cO:ap.belts.length<=400) (dm:ZcH ap.names) (dI:SqL K H c (ms.map V.int)) (ef:ms.length<=1000) (eR:k6 ms (startsL ap.belts)) (fw:SqL K H d (rs.map V.int)) (gT:rs.length=ap.names.length) (jt:rs.length<=60) (kx:H e=some (.lst (ws.map V.int))) (nP:ws.length<=2000) (zE:Zdv ap.names.length ap.belts ms rs ws) (zF:∀aj,Zd H aj->Q .non aj):FG vs H Q E
theorem Ox:OkN P w base 9 T.bs (FG T):=by
 have zw:=T.o;have zx:=T.G;refine T.bs.F.okX K8 (by walk_at "l") (λcD A outer s H vs Q E aC h=>?_)
 .have hu:=aC.hu;obtain⟨p,c,d,e,ap,fp,ms,rs,ws,rfl,b8,bU,jv,a_,Oy,k9,hd,FH,la,sO,mY,jy,q⟩:=h;have mz:=jy.all;have fC:=jy.cnt;have b9:=SqL.of (K:=K) sO;have Mp:((rs.map V.int).length:Int)=(rs.length:Int):=by simp
  refine⟨_,(bN (dO (hh (fX (K:=K) rfl (dk (rL (K:=K) rfl rfl) (by rfl) T.R qbG %[jM rfl (eB (x:="work") (zs:=["rates"]) (ix:=[2]) (cs uq) ["hall","rooms","rates","row"] rfl rfl (by decide+kernel)) (eG (K:=K) rfl (pv 3)) (λcl C s H fp=>⟨%[cr,0,(show(["work","rates"]:List Str).Nodup by decide+kernel)|1],e5,(c2 T.an (sA T) aC WP %[0,dk (fb K) (by rfl) T.f qal %[1|2]|2])⟩)|2]) (λ_=>rfl))) (b0 (hm T.L.g T.L.e qai rfl %[Yo|2])) dV)
     (bN (dO (dW (jh (K:=K) rfl hu) (jM rfl (eB (x:="work") (zs:=["row"]) (ix:=[3]) (cs uq) ["hall","rooms","rates","row"] rfl rfl (by decide+kernel)) (g4 rfl T.h %[dk (fb K) (by rfl) T.f qal %[2|2]|2]) (λcl C s H fp=>⟨%[cr,0,(show(["work","row"]:List Str).Nodup by decide+kernel)|1],e5,(hA (K:=K) rfl qan PySem.F.slot_list_count PySem.F.type_list_count (Kc (K:=K) rfl) (pv 1) %[0|2])⟩)) (pv 2) (dD _)) (b0 (hm T.L.g T.L.e qai rfl %[Yo|2])) dV)
     (b0 (Jl rfl rfl rfl T.T.m (λJ fU pn iX ownT sY=>(b0 (et (Jt (Kb T.br (Ou T) aC T.aE sY %[BH T.bn (Oh T) aC sY %[0,1|2]|2]) T.o T.bq (On T) aC sY %[3|2])))) (λke=>(b0 H3)))))),?_⟩
  walk_at "a"
  nofun;refine Yf (eF b9) (jm (by rw[GM];omega)) (λ_=>true) (λi=> .bl (decide (0<=ws.getD i 0/\ws.getD i 0<((rs.map V.int).length:Int)))) (λi aj cQ hi bI k=>?_) (λi aj cQ hi _ bI k=>?_) (λa1 aA uP a' fV=>?_)
  .nofun;exact k aj (Zd.refl aj)
  .have ju:i<ws.length:=by rw[GM] at hi;exact hi
   have m1:(ws.map V.int).getD i .non= .int (ws.getD i 0):=by rw[cL ju];simp[List.getD,ju]
   rw[m1];have ip:=bI.seq hd;nofun;exact k aj (Zd.refl aj)
  have c7:((List.range (ws.map V.int).length).filter λ_=>true).map (λi=>V.bl (decide (0<=ws.getD i 0/\ws.getD i 0<((rs.map V.int).length:Int))))=((ws.map λw=>decide (0<=w/\w<(ap.names.length:Int)))).map V.bl:=by
   rw[qak.mpr (by simp)];simp only[GM,FH];refine qaE (by simp) λi ay aD=>?_;have cj:i<ws.length:=by simpa using aD
   simp[List.getD,cj]
  rw[c7] at fV;have VC:=SqL.of (K:=K) fV;have Oz:((ws.map λw=>decide (0<=w/\w<(ap.names.length:Int))).all id)=true↔∀w∈ws,0<=w/\w<(ap.names.length:Int):=by simp
  nofun;rw[Oz.mpr mz];nofun;refine Yf Wf (ed (by simp;omega)) (λ_=>true) (λv=> .int (ws.count (v:Int):Nat)) (λv aj cQ cz bI k=>?_) (λv aj cQ cz _ bI k=>?_) (λa2 aP ha2 bQ ig=>?_)
  .rw[qbb];nofun;exact k aj (Zd.refl aj)
  .rw[qbb];have oz:=(a'.trans bI) _ _ sO;nofun;refine Rd.Zop (.of oz) ?_;exact k aj (Zd.refl aj)
  have j_:((List.range (((rs.map V.int).length:Nat):Int).toNat).filter λ_=>true).map (λv:Nat=>V.int ((ws.count (v:Int):Nat):Int))=((List.range ap.names.length).map λv:Nat=>((ws.count (v:Int):Nat):Int)).map V.int:=by
   rw[qak.mpr (by simp),GT,GM,FH,qaR]
   rfl
  rw[j_] at ig;have gE:=a'.trans bQ;nofun;refine Rd.ZiM (fr.ints (SqL.of (K:=K) ig)) (fr.ints (gE.seq hd)) (pV _) (pV _) (BB _) ?_;rw[Zg4];refine Rd.bl ?_;rw[decide_eq_true fC];nofun;dsimp only;refine Rd.Zpz (λ_ _ _=>False) ?_ (λ_ _ z=>z.elim);nofun;refine⟨p,c,ap,fp,ms,rfl,b8.same gE,bU,jv,gE.seq a_,Oy,λz=>absurd k9 z,λ_ eE jR b5 hv lg bV=>?_⟩;nofun;have ej:(ap.belts++gU ap.belts ms).length<=1000:=by rw[qag,uG];omega
  refine Zf4 hv (by dsimp only;omega) ej (λfl ql bZ g_ lh cd=>?_);have qD:=gE.trans (bV.trans cd);have nV:=qD.seq b9;obtain⟨hs,FI⟩:=jy.run;nofun;refine⟨fl,e,ws,_,ql,rfl,g_,nV,ej,λz=>(by dsimp only at z;rw[FI] at z;cases z),λz=>(by dsimp only at z;rw[FI] at z;cases z),λhs z b4 Eo hfl5 gQ _=>?_⟩;exact q b4 (λb o x=>gQ.keep _ _ (qD _ _ x) λy=>by have:=lh b y;rw[(gE.trans bV) _ _ x] at this;cases this)
inductive FJ(vs:List V)(H:Hp)(Q:VK)(E:XK):Prop
 |mk (p c d:Addr) (ap:HM) (fp:List Addr) (ms rs:List Int) (de:vs=[.ref p,.ref c,.ref d]) (cK:dr T H p ap fp) (cO:ap.belts.length<=100) (dm:SqL K H c (ms.map V.int)) (dI:ms.length=ap.belts.length) (ef:(∀x∈ms,1<=x/\x<=1000000)) (eR:SqL K H d (rs.map V.int)) (fw:Z0 ap.belts rs.length) (gT:(∀l∈ap.belts,1<=l.give/\l.give<=1000)) (jt:(∀r∈rs,1<=r/\r<=1000)) (kx:(3000<(lapsL ms (givL ap.belts rs) ms.length:Int)*(givL ap.belts rs).sum->∀aj,Zd H aj->E (.ref T.k) none aj)) (nP:(¬3000<(lapsL ms (givL ap.belts rs) ms.length:Int)*(givL ap.belts rs).sum->∀aj,Zd H aj->Q (.int (lapsL ms (givL ap.belts rs) ms.length:Nat)) aj)):FJ vs H Q E
theorem OA:OkN P w base 3 T.bt (FJ T):=by
 have gf:=T.a;have gg:=T.c;refine T.bt.F.okX p2 (by walk_at "l") (λcD A outer s H vs Q E aC h=>?_)
 .have hu:=aC.hu;obtain⟨p,c,d,ap,fp,ms,rs,rfl,b8,bU,a_,hC,kB,hd,dN,bR,jp,bJ,q⟩:=h;have l0:=ZcR dN bR jp;have hR:(givL ap.belts rs).length=ms.length:=by rw[ZaZ,hC]
  refine⟨_,(bN (ru (j:=3) rfl (eB (x:="row") (zs:=["rates"]) (ix:=[2]) (cs xC) ["hall","rooms","rates","given","laps","room","many"] rfl rfl (by decide+kernel)) (eG (K:=K) rfl (kg (pv 0) T.a T.ag (qp T) aC cG)) (λcl C s H fp=>⟨%[cr,0,(show(["row","rates"]:List Str).Nodup by decide+kernel)|1],e5,(cm fh %[0,bM|0] %[1,%[0,bM|0]|0])⟩) p2.nd rfl (Or.inl rfl))
     (bN %[cA,4,p2.nd,bM|1]
     (bN (d4 PassesOwn.leaving rfl (t4 (K:=K) rfl rfl T.S %[1,3|2]) (e7 (K:=K) (n:=2) rfl rfl (c_ %[cr,5,p2.nd|1] (c_ %[cr,6,p2.nd|1] e0))) (b0 %[cA,4,p2.nd,c2 T.aR (Fb T) aC cG %[4,cm fo (pv 5) (c2 T.aK (y' T) aC cG %[5,6|2])|2]|1]))
     (bN (dO (dW mw (cm fh (pv 4) (dk (mK (K:=K) rfl rfl) (by rfl) T.A qaW %[3|2])) (ng (v:= .int 3000) rfl T.B ⟨_,rfl⟩) (dD _)) (b0 (hm T.r.g T.r.e qai rfl %[Yo|2])) dV)
     (b0 (c9 (pv 4))))))),?_⟩
  walk_at "a"
  nofun;intro u aA bs sE hZ e9 c1;have lS:=c1.length;have au:bs.length<sizeLine:=ed (by rw[lS];omega);have l5:=hZ.seq hd;nofun;refine Yf (eF (SqL.of e9)) au (λ_=>true) (λi=> .int ((ap.belts.getD i dB).give*rs.getD (ap.belts.getD i dB).giver.toNat 0)) (λi aj cQ hi bI k=>?_) (λi aj cQ hi _ bI k=>?_) (λr aP gd bQ l_=>?_)
  .nofun;exact k aj (Zd.refl aj)
  .have ds:i<ap.belts.length:=by omega
   obtain⟨t,eC,dJ⟩:=c1.getD (i:=i) ds;rw[eC];have fu:=bI _ _ dJ;have kz:ap.belts.getD i dB∈ap.belts:=by rw[cL ds];exact GE _
   have nq:=dN _ kz;have Ea:=bR _ kz;generalize ap.belts.getD i dB=bb at*;have m0:=jp _ (show rs.getD bb.giver.toNat 0∈rs by rw[cL ∅];exact GE _);have eZ:=Z1 (ns:=rs) (k:=bb.giver) ∅ ∅;generalize rs.getD bb.giver.toNat 0=e' at*;have lR:IntMulOk bb.give e':=mulI (n:=10) (m:=10) ∅ ∅ (by decide);have kM:=bI.seq l5;dsimp only[B5.v] at fu;nofun;exact k aj (Zd.refl aj)
  rw[Ziv lS] at l_;generalize givL ap.belts rs=gs at*;have gE:=hZ.trans bQ;have hQ:=gE.seq a_;have zG:=SqL.of (K:=K) l_;nofun;refine⟨c,r,rfl,⟨_,hQ⟩,⟨_,zG⟩,?_⟩;refine Ym (t5 hQ zG (by simp;omega)) (λi ao aj=>Zd aP aj/\∃a5 a6,ao=[some (.ref p),some (.ref c),some (.ref d),some (.ref r),some (.int (lapsL ms gs i:Nat)),a5,a6]) ⟨Zd.refl _,_,_,rfl⟩ (λi ao aj h=>h.1) ?_ ?_
  .rintro i ao bZ v b4 hi ⟨cd,a5,a6,rfl⟩ ⟨t,bY,rfl,rfl⟩;have zH:i<ms.length:=by rw[GM] at hi;exact hi
   have m1:(ms.map V.int).getD i .non= .int (ms.getD i 0):=by rw[cL zH];simp[List.getD,zH]
   have zI:i<gs.length:=by omega
   have pm:(gs.map V.int).getD i .non= .int (gs.getD i 0):=by rw[cL zI];simp[List.getD,zI]
   rw[m1,pm];have ar:=kB _ (show ms.getD i 0∈ms by rw[cL zH];exact GE _);have bW:=l0 _ (show gs.getD i 0∈gs by rw[cL zI];exact GE _);have dw:=ZaG (ms:=ms) (gs:=gs) (λx ar=>(kB x ar).2) i ∅;have yK:lapsL ms gs (i+1)=Zff (lapsL ms gs i) (ms.getD i 0).toNat (gs.getD i 0).toNat:=rfl;rw[yK];obtain⟨x,ex⟩:=qaA (show 0<=ms.getD i 0 by omega);obtain⟨y,eA⟩:=qaA (show 0<=gs.getD i 0 by omega);rw[ex,eA,GT,GT];rw[ex] at ar;rw[eA] at bW;generalize lapsL ms gs i=l at*;refine Rd.Yv (.of Ze) rfl ?_;have cB:Zd bZ (upd bZ t (.tup [V.int (x:Int),.int (y:Int)])):=cF bY;generalize upd bZ t (.tup [V.int (x:Int),.int (y:Int)])=b4 at*;have lL:0<Nat.gcd x y:=qbd _ ∅;have gq:Nat.gcd x y<=x:=Nat.gcd_le_left _ ∅;have ML:0<((Nat.gcd x y:Nat):Int)/\((Nat.gcd x y:Nat):Int).natAbs.log2<9000:=⟨∅,iH ∅ ∅⟩;have u3:0<x / Nat.gcd x y:=qbV (qbk ∅ (qbi ..)) lL;have MM:x / Nat.gcd x y<=x:=qaN _ _;nofun;have dt:(x:Int) / ((Nat.gcd x y:Nat):Int)=((x / Nat.gcd x y:Nat):Int):=rfl;rw[dt];refine⟨l,x / Nat.gcd x y,20*i+1,rfl,u3,?_,dw,∅,?_⟩
   .exact qae (show x / Nat.gcd x y<2 ^ 20 by omega) (qav (by decide) (by decide))
   nofun;exact⟨cd.trans cB,_,_,rfl⟩
  .rintro ao bZ ⟨cd,a5,a6,rfl⟩;rw[GM];have dw:=ZaG (ms:=ms) (gs:=gs) (λx ar=>(kB x ar).2) ms.length (qaa _);have mE:=sc l0;have kE:=cd.seq zG;have hr:=gE.trans cd;generalize lapsL ms gs ms.length=l at*;have hs:gs.sum.natAbs<2 ^ 40:=by omega
   have lR:IntMulOk (l:Int) gs.sum:=mulI (n:=20*ms.length+1) (m:=40) (by rw[qbw];exact dw) hs ∅;nofun;refine Rd.Zgn kE ?_;nofun;refine Rd.ifD (λc=>?_) (λc=>?_)
   .nofun;exact bJ c bZ hr
   .nofun;exact q c bZ hr
inductive FK(T:Tp K mg)(vs:List V)(H:Hp)(Q:VK)(cR:XK):Prop
 |mk (bx:Int) (v:V) (s:Addr) (f:ZX) (ss:List Int) (de:vs=[.int bx,v,.ref s]) (cK:kn H v f) (cO:f.2.length<=2000) (dm:SqL K H s (ss.map V.int)) (dI:(∀t∈f.2,0<=t.1/\t.1<(ss.length:Int))) (ef:∀u aj,Zd H aj->k8 aj (.ref u) (mkR ss bx f)->Q (.ref u) aj):FK T vs H Q cR
theorem OB:OkN P w base 1 T.bu (FK T):=by
 refine T.bu.F.okX K9 (by walk_at "l") (λcD A outer s H vs Q E aC h=>?_)
 .have hu:=aC.hu;obtain⟨bx,v,s,f,ss,rfl,fD,m2,hs,au,q⟩:=h;obtain⟨fS,hI,fG,rfl,ay,aD,cj⟩:=fD;have ia:=cj.length;have FL:=SqT.of (K:=K) aD;refine⟨_,(b0 (c9 (fz %[0,%[1,bM|0],iv (tW (K:=K) rfl) (by rfl) T.m qaU %[ho (xs:=["slot","factor"]) rfl (eB (x:="slot") (zs:=["slots"]) (ix:=[2]) (cs xD) ["box","form","slots"] rfl rfl (by decide+kernel)) (rK (K:=K) rfl %[1,bM|0]) (λcl C s H fp=>⟨(e7 (K:=K) (n:=2) rfl rfl (c_ %[cr,0,(show(["slot","factor","slots"]:List Str).Nodup by decide+kernel)|1] (c_ %[cr,1,(show(["slot","factor","slots"]:List Str).Nodup by decide+kernel)|1] e0))),e5,(fz %[%[2,0|0],1|2])⟩)|2]|2]))),?_⟩
  walk_at "a"
  nofun;unfold oc;nofun;refine⟨hI,rfl,⟨_,FL⟩,?_⟩;refine Z2 (own:=2) (rE FL).y (jm ∅) (λi=>[some (.int (f.2.getD i (0,0)).1),some (.int (f.2.getD i (0,0)).2)]) (λ_=>rfl) (λ_=>true) (λi v aP=>∃u,v= .ref u/\aP u=some (.tup [.int (ss.getD (f.2.getD i (0,0)).1.toNat 0),.int (f.2.getD i (0,0)).2])) (λ_ _ _ _ e ⟨u,cK,cO⟩=>⟨u,cK,e _ _ cO⟩) (λi c6 aj v b5 f7 hi bI y em k=>?_) (λi aj cQ hi bI k=>?_) (λhJ i aj cQ hi gR hp0 fP bI k=>?_) (λd b5 zs hd bI eu db=>?_)
  .obtain⟨rfl,rfl⟩:=y;obtain⟨x1,x2,rfl⟩:∃x1 x2,c6=[x1,x2]:=by
    match c6,em with
    | [x1,x2],_=>exact⟨x1,x2,rfl⟩
   obtain⟨t,dt,bY⟩:=cj.getD (i:=i) ∅;rw[dt];refine Rd.Yv (.of (bI _ _ bY)) rfl ?_;nofun;exact k _ (Zd.refl _)
  .nofun;exact k aj (Zd.refl aj)
  .have km:=au _ (show f.2.getD i (0,0)∈f.2 by rw[cL ∅];exact GE _);have eo:=bI.seq hs;generalize f.2.getD i (0,0)=f0 at*;have eZ:=Z1 (ns:=ss) (k:=f0.1) km.1 km.2;nofun;refine⟨by show 2<=sizeLine;decide,λu e8=>?_⟩;exact k _ _ (cF e8) ⟨u,rfl,tZ fP e8⟩
  .rw[qak.mpr (by simp),ia] at db;have vo:=ZfV db;nofun;refine⟨d,_,rfl,.inl ⟨.of eu,λl r6=>?_⟩⟩;have cd:Zd b5 (upd b5 l (.tup zs)):=cF r6;have vp:(upd b5 l (.tup zs)) l=some (.tup zs):=Ze;generalize upd b5 l (.tup zs)=bZ at*;nofun;refine⟨by show 3<=sizeLine;decide,λu e8=>?_⟩;have cB:Zd bZ (upd bZ u (.tup [.int bx,.int f.1,.ref l])):=cF e8;exact q u _ (bI.trans (cd.trans cB)) ⟨u,l,zs,rfl,Ze,cB _ _ vp,vo.keep λb xs e=>cB _ _ (cd _ _ e)⟩
inductive FN(vs:List V)(H:Hp)(Q:VK)(cR:XK):Prop
 |mk (p:Addr) (b pc:Int) (m:Nat) (n:Nat) (rows:List B5) (ms:List Int) (g t:Addr) (cV ce:List Int) (de:vs=[.ref p,.int b,.int pc,.int m]) (cK:js T H p n rows ms g t cV ce) (cO:0<=b) (dm:b<(rows.length:Int)) (dI:m<=1000) (ef:0<=pc) (eR:pc<=1000000000000000) (fw:(∀x∈ms,1<=x/\x<=1000000)) (gT:∀(r:Addr)(aj:Hp),H r=none->Zd H aj->aj r=some (.lst ((bxN ms b.toNat pc m).map V.int))->Q (.ref r) aj):FN vs H Q cR
theorem FO:OkM P w mg base 1 T.aU (FN T):=by
 have zJ:=T.l;have zK:=T.C;refine T.aU.F.okX K_ (by walk_at "l") (λcD A outer s H vs Q E aC h=>?_)
 .have hu:=aC.hu;obtain⟨p,b,pc,m,n,rows,ms,g,t,cV,ce,rfl,hw,eO,gl,bL,B9,eW,kF,q⟩:=h;obtain⟨dx,a,bb,c,d,ck,eS,fs,bJ,bX,dn,ha,nH,nI,nJ,nK,o1,iI,hk,qe,sf,jS,nL⟩:=id hw;have OC:=SqL.of (K:=K) nI;have OD:=SqL.of (K:=K) nJ;have VE:fs.length=rows.length:=by rw[nK];simp[jr,o1]
  have eZ:=Z1 (ns:=fs) (k:=b) eO ∅;have OE:bxN ms b.toNat pc m=(List.range m).map λv:Nat=>fs.getD b.toNat 0+(pc+(v:Int)) % ms.getD b.toNat 0:=by
   rw[nK,yh ∅]
   rfl
  rw[OE] at q;have gV:=Z1 (ns:=ms) (k:=b) eO ∅;have ar:=kF _ (show ms.getD b.toNat 0∈ms by rw[cL ∅];exact GE _);have gF:0<ms.getD b.toNat 0/\(ms.getD b.toNat 0).natAbs.log2<9000:=⟨∅,iH ∅ ∅⟩;generalize ms.getD b.toNat 0=rm at*;generalize fs.getD b.toNat 0=i4 at*;refine⟨_,(b0 (c9 (jM rfl (eB (x:="number") (zs:=["self","belt"]) (ix:=[0,1]) (cs xE) ["self","belt","piece","many"] rfl rfl (by decide+kernel)) (H_ rfl T.h %[2,cm (eX K) (pv 2) (pv 3)|2]) (λcl C s H fp=>⟨%[cr,0,(show(["number","self","belt"]:List Str).Nodup by decide+kernel)|1],e5,(cm (eX K) %[fW (K:=K) rfl (pv 1) rfl,2|0] (cm eI (pv 0) %[fW (K:=K) rfl (pv 1) rfl,2|0]))⟩)))),?_⟩
  walk_at "a"
  nofun;have OF:(pc+(m:Int)-pc).toNat=m:=by omega
  refine Yf Wf (ed ∅) (λ_=>true) (λv=> .int (i4+(pc+(v:Int)) % rm)) (λv aj cQ cz bI k=>?_) (λv aj cQ cz _ bI k=>?_) (λr aA gW a' fV=>?_)
  .nofun;exact k aj (Zd.refl aj)
  .have f1:=bI _ _ bJ;have pS:=bI.seq OC;have l':=bI.seq OD;nofun;exact k aj (Zd.refl aj)
  .rw[qak.mpr (by simp),OF] at fV;exact q r aA gW a' (by rw[fV,qaR];rfl)
inductive FP(vs:List V)(H:Hp)(Q:VK)(cR:XK):Prop
 |mk (p:Addr) (w:Int) (v:V) (n:Nat) (rows:List B5) (ms:List Int) (g t:Addr) (pre:List Int) (fs:List ZX) (de:vs=[.ref p,.int w,v]) (cK:js T H p n rows ms g t (gvL rows pre) (tkL rows pre)) (cO:rows.length<=60) (dm:ZaK rows) (dI:(∀x∈ms,1<=x/\x<=1000000)) (ef:0<=w) (eR:w<(n:Int)) (fw:oY H v fs) (gT:oZ rows w fs) (jt:(∀f∈fs,f.2.length<=2000)) (kx:pre.length<=2000000) (nP:∀(r:Addr)(aj:Hp)(xs:List V),H r=none->df [g,t] H aj->aj g=some (.lst ((gvL rows (pre++ [w])).map V.int))->aj t=some (.lst ((tkL rows (pre++ [w])).map V.int))->aj r=some (.lst xs)->hp aj xs (lQ rows ms pre w fs)->Q (.ref r) aj):FP vs H Q cR
def WJ1 (p fS sl g t:Addr) (w:Int) (H:Hp) (G U Z:List Int) (n:Int) (j:Nat):St->Hp->Prop:=λao aj=>∃(ss:List Int)(a4 a5 a6 a7:Option V),ao=[some (.ref p),some (.int w),some (.ref fS),some (.ref sl),a4,a5,a6,a7]/\df [g,t] H aj/\aj g=some (.lst (G.map V.int))/\aj t=some (.lst (U.map V.int))/\aj sl=some (.lst (ss.map V.int))/\ss=Z/\(ss.length:Int)=n/\ss.length<=1000*j
def WJ2 (p fS sl bl g t:Addr) (w:Int) (H:Hp) (G U Z ss:List Int) (n:Int) (j:Nat):St->Hp->Prop:=λao aj=>∃(us:List Int)(a4 a5 a7:Option V),ao=[some (.ref p),some (.int w),some (.ref fS),some (.ref sl),a4,a5,some (.ref bl),a7]/\df [g,t] H aj/\aj g=some (.lst (G.map V.int))/\aj t=some (.lst (U.map V.int))/\aj bl=some (.lst (us.map V.int))/\aj sl=some (.lst (ss.map V.int))/\us=Z/\(us.length:Int)=n/\us.length<=1000*j
theorem OG:OkM P w mg base 2 T.bv (FP T):=by
 have zJ:=T.l;have zK:=T.C;refine T.bv.F.okX oQ (by walk_at "l") (λcD A outer s H vs Q E aC h=>?_)
 .have hu:=aC.hu;obtain⟨p,w,v,n,rows,ms,g,t,pre,fs,rfl,hw,la,hD,kF,ey,eL,fD,f8,m2,VF,q⟩:=h;have OH:=ZmA (pre:=pre) hD;have o':=Zms (pre:=pre) hD;obtain⟨dx,a,b,c,d,ck,eS,VG,bJ,bX,dn,ha,nH,nI,nJ,nK,o1,iI,hk,qe,sf,jS,nL⟩:=id hw;obtain⟨fS,qE,rfl,l3,sZ⟩:=fD;obtain⟨x,vs,eZ,ar,qy⟩:=ha.at ey (Dl (fl:=⟨n,rows,[]⟩) ey eL);obtain⟨y,d6,gV,bW,sS⟩:=nH.at ey (Do (fl:=⟨n,rows,[]⟩) ey eL);have fB:vs.length=(dz rows w).length:=by rw[<-Paired.length qy];unfold takeRow;simp
  have zy:d6.length=(dR rows w).length:=by rw[<-Paired.length sS];unfold giveRow;simp
  have jW:(dz rows w).length<=60:=qap UJ la;have d8:(dR rows w).length<=60:=qap UN la;have nx:x≠g/\x≠t:=jS x (by simp[Zh8 eZ]);have FQ:y≠g/\y≠t:=jS y (by simp[Zh8 gV]);have s0:g∈[g,t]/\t∈[g,t]:=by simp
  have VI:fS∉[g,t]:=λz=>by
   rcases qaf.mp z with z|z
   .rw[z,iI] at l3;cases l3
   .rw[qab.mp z,hk] at l3;cases l3
  refine⟨_,(bN (cA (i:=3) oQ.nd rfl (Or.inr rfl) (fA bG))
     (bN (d4 PassesOwn.leaving rfl (eG (K:=K) rfl %[fW (K:=K) rfl (pv 0) rfl,1|0]) (e7 (K:=K) (n:=2) rfl rfl (c_ %[cr,4,oQ.nd|1] (c_ %[cr,5,oQ.nd|1] e0))) (bN (et (hA (K:=K) rfl qan qb2 qb3 wj (pv 3) %[hB (pv 0) T.l T.aU (FO T) aC cG %[4,%[fW (K:=K) rfl (pv 0) rfl,4|0],5|2]|2]))
     (b0 (tw (fW (K:=K) rfl (pv 0) rfl) (pv 4) (t2 (K:=K) rfl) (pv 5) q0 iU))))
     (bN %[cA,6,oQ.nd,fA bG|1]
     (bN (d4 PassesOwn.leaving rfl (eG (K:=K) rfl %[fW (K:=K) rfl (pv 0) rfl,1|0]) (e7 (K:=K) (n:=2) rfl rfl (c_ %[cr,4,oQ.nd|1] (c_ %[cr,7,oQ.nd|1] e0))) (bN (et (hA (K:=K) rfl qan qb2 qb3 wj (pv 6) %[hB (pv 0) T.l T.aU (FO T) aC cG %[4,%[fW (K:=K) rfl (pv 0) rfl,4|0],7|2]|2]))
     (b0 (tw (fW (K:=K) rfl (pv 0) rfl) (pv 4) (t2 (K:=K) rfl) (pv 7) q0 iU))))
     (b0 (c9 (ho (xs:=["box","form"]) rfl (eB (x:="box") (zs:=["slots"]) (ix:=[3]) (cs xF) ["self","work","forms","slots","belt","take","boxes","give"] rfl rfl (by decide+kernel)) (Ko (K:=K) rfl rfl T.S %[6,2|2]) (λcl C s H fp=>⟨(e7 (K:=K) (n:=2) rfl rfl (c_ %[cr,0,(show(["box","form","slots"]:List Str).Nodup by decide+kernel)|1] (c_ %[cr,1,(show(["box","form","slots"]:List Str).Nodup by decide+kernel)|1] e0))),e5,(c2 T.bu (OB T) aC WP %[0,1,2|2])⟩)))))))),?_⟩
  walk_at "a"
  nofun;refine⟨qar _,λsl gA=>?_⟩;have a':Zd H (upd H sl (.lst [])):=cF gA;have OI:(upd H sl (.lst [])) sl=some (.lst (([]:List Int).map V.int)):=Ze;generalize upd H sl (.lst [])=aA at*;have m7:sl≠g:=λz=>by rw[z,iI] at gA;cases gA
  have st:sl≠t:=λz=>by rw[z,hk] at gA;cases gA
  have f1:=a' _ _ bJ;have f2:=a' _ _ bX;have da:=a' _ _ ar;nofun;refine Ym (H0:=k7 H x) (eF (xs:=vs) ?_).y (λj=>WJ1 p fS sl g t w H (gvL rows pre) (addU rows.length (tkF rows pre) (λi=>(rows.getD i dB).take) ((dz rows w).take j)) (boxU ms (tkF rows pre) (λi=>(rows.getD i dB).take) ((dz rows w).take j)) (((dz rows w).take j).map λi=>(rows.getD i dB).take).sum j) ⟨[],_,_,_,_,rfl,a'.frame,a' _ _ iI,by rw[List.take_zero,uM];exact a' _ _ hk,OI,rfl,rfl,by simp⟩ (λj ao aj h=>Vb ?_) ?_ ?_
  .exact SqL.of (by rw[V7];exact ar)
  .obtain⟨_,_,_,_,_,_,ei,_⟩:=h;rw[ei.keep _ _ ar (by simp[nx]),ar]
  .rintro j ao gO iM aP bP ⟨ss,a4,a5,a6,a7,rfl,ei,l_,dJ,vq,ik,nO,hsz⟩ ⟨rfl,rfl⟩;have gp:j<(dz rows w).length:=by omega
   obtain⟨f0,eC,oT⟩:=Zmx qy gp;have dw:=oW (GE gp);have dM:=ZgH (f:=λi=>(rows.getD i dB).take) gp;have fY:=Zgz ZhL gp;rw[qac gp];rw[qac gp] at dM;rw[eC];refine Rd.Yv (.of (ei.tups _ _ oT)) rfl ?_;rw[<-nO] at dM;have ia:=Zbp (n:=rows.length) (f:=tkF rows pre) (d:=λi=>(rows.getD i dB).take) (is:=(dz rows w).take j);have zL:=ZcC (f:=tkF rows pre) (d:=λi=>(rows.getD i dB).take) dw fY;have fe:=Zbn (f:=tkF rows pre) (d:=λi=>(rows.getD i dB).take) dw fY;have jw:boxU ms (tkF rows pre) (λi=>(rows.getD i dB).take) ((dz rows w).take j++ [(dz rows w)[j]])=ss++bxN ms (dz rows w)[j] (tkF rows pre (dz rows w)[j]) (rows.getD (dz rows w)[j] dB).take.toNat:=by rw[Zas,ik]
   have cz:=OH (dz rows w)[j] dw;generalize (dz rows w)[j]=m at*;rw[jw];rw[<-fe];clear fe jw ik;generalize addU rows.length (tkF rows pre) (λi=>(rows.getD i dB).take) ((dz rows w).take j)=kq at*;clear nO;have jT:=hD _ (show rows.getD m dB∈rows by rw[cL dw];exact GE _);obtain⟨d1,ph⟩:=qaA jT.2.2.1;rw[ph];rw[ph] at dM jT;rw[GT];have lW:=Z1 (ns:=kq) (k:=(m:Int)) (qa0 m) ∅;rw[GT,zL] at lW;have OJ:=hw.step ei l_ dJ qe ia;have lD:aP p=some (.ins T.b dx [("takes",.ref a),("gives",.ref b),("rooms",.ref c),("firsts",.ref d),("given",.ref g),("taken",.ref t)]):=ei.keep _ _ bJ (λz=>by
    rcases qaf.mp z with z|z
    .rw[z,iI] at bJ;cases bJ
    .rw[qab.mp z,hk] at bJ;cases bJ)
   have FR:=SqL.of (K:=K) dJ;generalize tkF rows pre m=fK at*;nofun;refine⟨p,m,fK,d1,n,rows,ms,g,t,gvL rows pre,kq,rfl,OJ,∅,∅,∅,cz.1,∅,kF,λr b5 iK bV hq=>?_⟩;rw[GT] at hq;have jx:=qd (ms:=ms) (b:=m) (pc:=fK) (m:=d1);generalize bxN ms m fK d1=ns at*;have OK:=bV _ _ vq;nofun;refine⟨sl,r,_,_,rfl,rfl,OK,hq,qbh (qa (by simp only[GM];omega)),?_⟩;rw[<-qaF];have fu:=bV _ _ dJ;have nZ:=bV _ _ lD;have OL:=bV _ _ l_;have gD:(upd b5 sl (.lst ((ss++ns).map V.int))) t=some (.lst (kq.map V.int)):=(b3 (qaY st)).trans fu;have kE:(upd b5 sl (.lst ((ss++ns).map V.int))) g=some (.lst ((gvL rows pre).map V.int)):=(b3 (qaY m7)).trans OL;have n0:(upd b5 sl (.lst ((ss++ns).map V.int))) p=some (.ins T.b dx [("takes",.ref a),("gives",.ref b),("rooms",.ref c),("firsts",.ref d),("given",.ref g),("taken",.ref t)]):=(b3 (λz=>by rw[z,gA] at bJ;cases bJ)).trans nZ;have qv:(upd b5 sl (.lst ((ss++ns).map V.int))) sl=some (.lst ((ss++ns).map V.int)):=Ze;have il:df [g,t] H (upd b5 sl (.lst ((ss++ns).map V.int))):=Zfl (ei.trans bV.frame) gA;generalize upd b5 sl (.lst ((ss++ns).map V.int))=bZ at*;have VJ:=SqL.of (K:=K) gD;have uS:(m:Int)<((kq.map V.int).length:Int):=by rw[GM];omega
   nofun;refine⟨ss++ns,_,_,_,_,rfl,il.trans (gy s0.2 gD (by intro _ z;cases z)),(b3 nL).trans kE,?_,(b3 st).trans qv,rfl,by rw[dM,qag,jx];omega,by rw[qag,jx];omega⟩;rw[Ze,qbc]
   rfl
  .rintro ao aP ⟨ss,a4,a5,a6,a7,rfl,ei,l_,dJ,vq,ik,nO,hsz⟩;rw[fB,qaO] at nO ik dJ;rw[Dz] at dJ;have ia:(tkL rows (pre++ [w])).length=rows.length:=by simp[tkL]
   have OM:(ss.length:Int)=slotN rows w:=by
    rw[nO];unfold slotN takeRow;rw[qaR]
    rfl
   clear nO;nofun;refine⟨qar _,λbl ej=>?_⟩;have bV:Zd aP (upd aP bl (.lst [])):=cF ej;have ON:(upd aP bl (.lst [])) bl=some (.lst (([]:List Int).map V.int)):=Ze;generalize upd aP bl (.lst [])=b5 at*;have bg:bl≠g:=λz=>by rw[z,l_] at ej;cases ej
   have bt:bl≠t:=λz=>by rw[z,dJ] at ej;cases ej
   have bs:bl≠sl:=λz=>by rw[z,vq] at ej;cases ej
   have FS:p∉[g,t]:=λz=>by
    rcases qaf.mp z with z|z
    .rw[z,iI] at bJ;cases bJ
    .rw[qab.mp z,hk] at bJ;cases bJ
   have FT:H bl=none:=by
    cases e:H bl with
    |none=>rfl
    |some o=>
     have:=ei.keep _ _ e (by simp[bg,bt]);rw[ej] at this;cases this
   have hP:df [g,t] H b5:=ei.trans bV.frame;have f1:=hP.keep _ _ bJ FS;have f2:=hP.keep _ _ dn (by have:=jS b (by simp);simp[this]);have da:=hP.keep _ _ bW (by simp[FQ]);nofun;refine Ym (H0:=k7 b5 y) (eF (xs:=d6) ?_).y (λj=>WJ2 p fS sl bl g t w H (addU rows.length (gvF rows pre) (λi=>(rows.getD i dB).give) ((dR rows w).take j)) (tkL rows (pre++ [w])) (boxU ms (gvF rows pre) (λi=>(rows.getD i dB).give) ((dR rows w).take j)) ss (((dR rows w).take j).map λi=>(rows.getD i dB).give).sum j) ⟨[],_,_,_,rfl,hP,by rw[List.take_zero,uM];exact bV _ _ l_,bV _ _ dJ,ON,bV _ _ vq,rfl,rfl,by simp⟩ (λj ao aj h=>Vb ?_) ?_ ?_
   .exact SqL.of (by rw[V7];exact da)
   .obtain⟨_,_,_,_,_,OO,_⟩:=h;rw[OO.keep _ _ bW (by simp[FQ]),da]
   .rintro j ao gO iM bZ bP ⟨us,a4,a5,a7,rfl,il,kE,gD,zM,zN,j1,qF,OP⟩ ⟨rfl,rfl⟩;have gp:j<(dR rows w).length:=by omega
    obtain⟨f0,eC,oT⟩:=Zmx sS gp;have dw:=p7 (GE gp);have dM:=ZgH (f:=λi=>(rows.getD i dB).give) gp;have fY:=Zgz Zhy gp;rw[qac gp];rw[qac gp] at dM;rw[eC];refine Rd.Yv (.of (il.tups _ _ oT)) rfl ?_;rw[<-qF] at dM;have hR:=Zbp (n:=rows.length) (f:=gvF rows pre) (d:=λi=>(rows.getD i dB).give) (is:=(dR rows w).take j);have zO:=ZcC (f:=gvF rows pre) (d:=λi=>(rows.getD i dB).give) dw fY;have fe:=Zbn (f:=gvF rows pre) (d:=λi=>(rows.getD i dB).give) dw fY;have jw:boxU ms (gvF rows pre) (λi=>(rows.getD i dB).give) ((dR rows w).take j++ [(dR rows w)[j]])=us++bxN ms (dR rows w)[j] (gvF rows pre (dR rows w)[j]) (rows.getD (dR rows w)[j] dB).give.toNat:=by rw[Zas,j1]
    have cz:=o' (dR rows w)[j] dw;generalize (dR rows w)[j]=m at*;rw[jw];rw[<-fe];clear fe jw j1;generalize addU rows.length (gvF rows pre) (λi=>(rows.getD i dB).give) ((dR rows w).take j)=ko at*;clear qF;have jT:=hD _ (show rows.getD m dB∈rows by rw[cL dw];exact GE _);obtain⟨d1,ph⟩:=qaA jT.1;rw[ph];rw[ph] at dM jT;rw[GT];have lW:=Z1 (ns:=ko) (k:=(m:Int)) (qa0 m) ∅;rw[GT,zO] at lW;have OQ:=hw.step il kE gD hR ia;have n0:=il.keep _ _ bJ FS;have VL:=SqL.of (K:=K) kE;generalize gvF rows pre m=fK at*;nofun;refine⟨p,m,fK,d1,n,rows,ms,g,t,ko,tkL rows (pre++ [w]),rfl,OQ,∅,∅,∅,cz.1,∅,kF,λr b4 lZ cB uX=>?_⟩;rw[GT] at uX;have jx:=qd (ms:=ms) (b:=m) (pc:=fK) (m:=d1);generalize bxN ms m fK d1=ns at*;have OR:=cB _ _ zM;nofun;refine⟨bl,r,_,_,rfl,rfl,OR,uX,qbh (qa (by simp only[GM];omega)),?_⟩;rw[<-qaF];have qr:(upd b4 bl (.lst ((us++ns).map V.int))) t=some (.lst ((tkL rows (pre++ [w])).map V.int)):=(b3 (qaY bt)).trans (cB _ _ gD);have FU:(upd b4 bl (.lst ((us++ns).map V.int))) g=some (.lst (ko.map V.int)):=(b3 (qaY bg)).trans (cB _ _ kE);have zP:(upd b4 bl (.lst ((us++ns).map V.int))) p=some (.ins T.b dx [("takes",.ref a),("gives",.ref b),("rooms",.ref c),("firsts",.ref d),("given",.ref g),("taken",.ref t)]):=(b3 (λz=>by rw[z,FT] at bJ;cases bJ)).trans (cB _ _ n0);have y9:(upd b4 bl (.lst ((us++ns).map V.int))) sl=some (.lst (ss.map V.int)):=(b3 (qaY bs)).trans (cB _ _ zN);have nS:(upd b4 bl (.lst ((us++ns).map V.int))) bl=some (.lst ((us++ns).map V.int)):=Ze;have qg:df [g,t] H (upd b4 bl (.lst ((us++ns).map V.int))):=Zfl (il.trans cB.frame) FT;generalize upd b4 bl (.lst ((us++ns).map V.int))=cZ at*;have VN:=SqL.of (K:=K) FU;have uS:(m:Int)<((ko.map V.int).length:Int):=by rw[GM];omega
    nofun;refine⟨us++ns,_,_,_,rfl,qg.trans (gy s0.1 FU (by intro _ z;cases z)),?_,(b3 (qaY nL)).trans qr,(b3 bg).trans nS,(b3 m7).trans y9,rfl,by rw[dM,qag,jx];omega,by rw[qag,jx];omega⟩;rw[Ze,qbc]
    rfl
   .rintro ao bZ ⟨us,a4,a5,a7,rfl,il,kE,gD,zM,zN,j1,qF,OP⟩;rw[zy,qaO] at qF j1 kE;rw[DB] at kE;have VO:(us.length:Int)=Z9 rows w:=by
     rw[qF];unfold Z9 giveRow;rw[qaR]
     rfl
    clear qF;have g_:=Paired.length sZ;have qG:=f8.1;have lh:=il.tups _ _ l3;have nQ:=SqL.of (K:=K) zM;have OS:=SqL.of (K:=K) zN;have VP:us.length=qE.length:=by omega
    nofun;refine Rd.Zpb ?_;nofun;refine⟨bl,fS,rfl,⟨_,nQ⟩,⟨_,lh⟩,?_⟩;refine Z2 (own:=2) (Kq nQ lh (by rw[GM];omega)) (qa (by rw[GM];omega)) (λi=>[some (.int (us.getD i 0)),some (qE.getD i .non)]) (λ_=>rfl) (λ_=>true) (λi v aP=>k8 aP v (mkR ss (us.getD i 0) (fs.getD i (0,[])))) (λ_ _ _ _ e z=>z.keep λb xs y=>e _ _ y) (λi c6 aj v b4 f7 hi bI y em k=>?_) (λi aj cQ hi bI k=>?_) (λhJ i aj cQ hi gR hp0 fP bI k=>?_) (λd' b4 zs hd bI eu db=>?_)
    .obtain⟨f0,bY,rfl,rfl⟩:=y;obtain⟨x1,x2,rfl⟩:∃x1 x2,c6=[x1,x2]:=by
      match c6,em with
      | [x1,x2],_=>exact⟨x1,x2,rfl⟩
     have j0:i<us.length:=by rw[GM] at hi;exact hi
     have pm:(us.map V.int).getD i .non= .int (us.getD i 0):=by rw[cL j0];simp[List.getD,j0]
     rw[pm];refine Rd.Yv (.of Ze) rfl ?_;nofun;exact k _ (cF bY)
    .nofun;exact k aj (Zd.refl aj)
    .have j0:i<fs.length:=by rw[GM] at hi;omega
     have s1:=mW (d:=V.non) (e:=((0,[]):ZX)) sZ j0;have lY:fs.getD i (0,[])∈fs:=by rw[cL j0];exact GE _
     nofun;refine⟨us.getD i 0,qE.getD i .non,sl,fs.getD i (0,[]),ss,rfl,s1.keep (λb xs e=>bI _ _ (il.tups _ _ e)),m2 _ lY,bI.seq OS,λf0 oT=>?_,λu cZ c8 zB=>?_⟩
     .rw[OM];exact f8.2 _ lY f0 oT
     .nofun;exact k _ _ c8 (zB.keep λb xs z=>Zac fP c8 z)
    .rw[qak.mpr (by simp),GM] at db;have FV:=Zl1 db ∅;rw[ik,j1] at FV;have u8:H d'=none:=by
      cases e:H d' with
      |none=>rfl
      |some o=>
       by_cases bL:d'∈[g,t]
       .rcases qaf.mp bL with z|z
        .rw[z,kE] at hd;cases hd
        .rw[qab.mp z,gD] at hd;cases hd
       .have:=il.keep _ _ e bL;rw[hd] at this;cases this
     exact q d' b4 zs u8 (il.trans bI.frame) (bI _ _ kE) (bI _ _ gD) eu FV
inductive FW(T:Tp K mg)(vs:List V)(H:Hp)(Q:VK)(cR:XK):Prop
 |mk (c:Addr) (rs:List Int) (de:vs=[.ref c]) (cK:SqL K H c (rs.map V.int)) (cO:rs.length<=100) (dm:∀(r:Addr)(aj:Hp),H r=none->Zd H aj->aj r=some (.lst (((List.range rs.length).map (firstL rs)).map V.int))->Q (.ref r) aj):FW T vs H Q cR
theorem OT:OkN P w base 1 T.bw (FW T):=by
 refine T.bw.F.okX rZ (by walk_at "l") (λcD A outer s H vs Q E aC h=>?_)
 .have hu:=aC.hu;obtain⟨c,rs,rfl,a_,la,q⟩:=h;refine⟨_,(bN %[cA,1,rZ.nd,fA bG|1]
     (bN %[cA,2,rZ.nd,bM|1]
     (bN (d4 PassesOwn.leaving rfl (eG (K:=K) rfl (pv 0)) %[cr,3,rZ.nd|1] (bN (et (hA (K:=K) rfl qan qay qaz iy (pv 1) %[2|2]))
     (b0 (AL (i:=2) rZ.nd rfl (Or.inl rfl) (pv 3) q0))))
     (b0 (c9 (pv 1)))))),?_⟩
  walk_at "a"
  nofun;refine⟨qar _,λb au=>?_⟩;have a':Zd H (upd H b (.lst [])):=cF au;have jl:(upd H b (.lst [])) b=some (.lst (([]:List Int).map V.int)):=Ze;generalize upd H b (.lst [])=aA at*;have lO:=a'.seq a_;nofun;refine Yr (eF a_) (λi ao aj=>Zd H aj/\∃a1,ao=[some (.ref c),some (.ref b),some (.int (firstL rs i)),a1]/\aj b=some (.lst (((List.range i).map (firstL rs)).map V.int))) ⟨a',_,rfl,jl⟩ (λi ao aj h=>h.1) ?_ ?_
  .rintro i ao aP hi ⟨bQ,a1,rfl,ig⟩;have vr:i<rs.length:=by rw[GM] at hi;exact hi
   have m1:(rs.map V.int).getD i .non= .int (rs.getD i 0):=by rw[cL vr];simp[List.getD,vr]
   rw[m1];have bU:(((List.range i).map (firstL rs)).map V.int).length<sizeLine:=ed (by simp;omega);have yC:firstL rs (i+1)=firstL rs i+rs.getD i 0:=by
    unfold firstL;rw[qac vr,List.sum_append,cL vr];simp
   rw[yC];nofun;refine⟨.int (firstL rs i),rfl,?_⟩;nofun;refine⟨bQ.new au,_,rfl,?_⟩;rw[Ze,qbr,qaF,qaF]
   rfl
  .rintro ao aP ⟨bQ,a1,rfl,ig⟩;rw[GM] at ig;nofun;exact q b aP au bQ ig
inductive zQ(vs:List V)(H:Hp)(Q:VK)(E:XK):Prop
 |mk (p dx h c:Addr) (ap:HM) (fp:List Addr) (ms:List Int) (de:vs=[.ref p,.ref h,.ref c]) (cK:H p=some (.ins T.b dx [])) (cO:H dx=some (.own p)) (dm:dr T H h ap fp) (dI:ap.names.length<=1000) (ef:ap.belts.length<=60) (eR:H c=some (.lst (ms.map V.int))) (fw:ms.length=ap.belts.length) (gT:∀(aj:Hp)(g t:Addr),js T aj p ap.names.length ap.belts ms g t (gvL ap.belts []) (tkL ap.belts [])->H g=none->H t=none->(∀b o,H b=some o->b≠p->aj b=some o)->Q .non aj):zQ vs H Q E
theorem ZeQ{T:Tp K mg}{H:Hp}{h c:Addr}{ap:HM}{fp:List Addr}{ms:List Int}{Q:Addr->Hp->Prop}{E:XK}(b8:dr T H h ap fp)(b':ap.names.length<=1000)(au:ap.belts.length<=60)(a_:H c=some (.lst (ms.map V.int)))(bL:ms.length=ap.belts.length)
  (q:∀(p g t:Addr)(aj:Hp),js T aj p ap.names.length ap.belts ms g t (gvL ap.belts []) (tkL ap.belts [])->H g=none->H t=none->Zd H aj->Q p aj):
  ∀x dx,H x=none->H dx=none->dx≠x->zQ T (.ref x::([.ref h,.ref c]++ [])) (upd (upd H dx (.own x)) x (.ins T.b dx [])) (λv aP=>v= .non/\Q x aP) E:=by
 intro x dx ar h0 ne;have bI:Zd H (upd (upd H dx (.own x)) x (.ins T.b dx [])):=λb o e=>by rw[b3 (dh e ar),b3 (dh e h0)];exact e
 refine⟨x,dx,h,c,ap,fp,ms,rfl,Ze,by rw[b3 ne,Ze],b8.same bI,b',au,bI _ _ a_,bL,λaj g t hw bR bY iu=>⟨rfl,q x g t aj hw (ft bI bR) (ft bI bY) (λb o e=>iu b o (bI b o e) (dh e ar))⟩⟩
theorem Zoq{H0 H:Hp}{n:Nat}{r:Addr}{f:Int->List (Int×Int)}{ys:List V}(h:Paired (λ(i:Nat) v=>∃x vs,v=V.ref x/\H0 x=none/\(hid H r) x=some (.lst vs)/\hW (hid H r) (f (0+(i:Int))) vs) ((List.range n).filter λ_=>true) ys):
  ∃ck:List Addr,ys=ck.map V.ref/\(∀x∈ck,H0 x=none/\x≠r)/\LL H ((List.range n).map λw:Nat=>f w) ck:=by
 rw[qak.mpr (by simp)] at h;generalize List.range n=is at h
 induction h with
 |nil=>exact⟨[],rfl,by simp,.nil⟩
 | @cons i v is ys b8 t b_=>
  obtain⟨ck,e,d,l⟩:=b_;obtain⟨x,vs,rfl,c0,ay,aD⟩:=b8;rw[qbb] at aD;have nx:x≠r:=λz=>by rw[z,rH] at ay;cases ay
  refine⟨x::ck,by rw[e];rfl,λy bW=>?_,.cons ⟨vs,mJ _ _ ay,aD.keep λb xs z=>mJ _ _ z⟩ l⟩;rcases qaf.mp bW with rfl|bW
  .exact⟨c0,nx⟩
  .exact d y bW
theorem OU:OkI P w mg base 7 T.bx (zQ T):=by
 have gf:=T.a;have gg:=T.c;have zJ:=T.l;have zK:=T.C;refine T.bx.F.okX C_ (by walk_at "l") (λcD A outer s H vs Q E aC h=>?_)
 .have hu:=aC.hu;obtain⟨p,dx,bK,c,ap,fp,ms,rfl,bO,h0,b8,b',pp,a_,hC,q⟩:=h;have pq:p∉fp:=by
   intro z;obtain⟨Ov,a,b,bs,rfl,ay,aD,cj,cS,ht,dq⟩:=b8;simp only[qaf,qaX,or_false] at z;rcases z with rfl|rfl|rfl|rfl
   .rw[ay] at bO
    injection bO with e
    injection e with bJ bX dn
    cases dn
   .rw[aD] at bO;cases bO
   .rw[cj] at bO;cases bO
   .rw[cS] at bO;cases bO
  have s2:c≠p:=e_ a_ bO (by intro z;cases z);refine⟨_,(bN %[cA,3,C_.nd,dk (fb K) (by rfl) T.f qal %[kg (pv 1) T.a T.af (qo T) aC cG|2]|1]
     (bN (kf (K:=K) rfl (pv 0) (ho (xs:=["work"]) rfl (eB (x:="work") (zs:=["hall"]) (ix:=[1]) (cs rX) ["self","hall","rooms","works"] rfl rfl (by decide+kernel)) (g4 rfl T.h %[3|2]) (λcl C s H fp=>⟨%[cr,0,(show(["work","hall"]:List Str).Nodup by decide+kernel)|1],e5,(c2 T.aJ (yU T) aC WP %[1,0|2])⟩)) rfl)
     (bN (kf (K:=K) rfl (pv 0) (ho (xs:=["work"]) rfl (eB (x:="work") (zs:=["hall"]) (ix:=[1]) (cs rX) ["self","hall","rooms","works"] rfl rfl (by decide+kernel)) (g4 rfl T.h %[3|2]) (λcl C s H fp=>⟨%[cr,0,(show(["work","hall"]:List Str).Nodup by decide+kernel)|1],e5,(c2 T.aI (yS T) aC WP %[1,0|2])⟩)) rfl)
     (bN (kf (K:=K) rfl (pv 0) (iv (lF (K:=K) rfl) (by rfl) T.j qaG %[2|2]) rfl)
     (bN (kf (K:=K) rfl (pv 0) (c2 T.bw (OT T) aC cG %[2|2]) rfl)
     (bN (kf (K:=K) rfl (pv 0) (c2 T.aS (Fm T) aC cG %[1|2]) rfl)
     (b0 (kf (K:=K) rfl (pv 0) (jM rfl (eB (x:="room") (zs:=[]) (ix:=[]) (cs rX) ["self","hall","rooms","works"] rfl rfl (by decide+kernel)) (eG (K:=K) rfl (pv 2)) (λcl C s H fp=>⟨%[cr,0,(show(["room"]:List Str).Nodup by decide+kernel)|1],e5,bM⟩)) rfl)))))))),?_⟩
  walk_at "a"
  nofun;refine⟨bK,ap,fp,rfl,b8,λnm aA jv a' sC=>?_⟩;have ii:=b8.same a';have fP:=a' _ _ bO;have lO:=a' _ _ a_;have m6:(ap.names.map V.str).length=ap.names.length:=by simp
  nofun;refine Z2 (own:=1) Wf.y (ed (by rw[m6];exact b')) (λi=>[some (.int (0+(i:Int)))]) (λ_=>rfl) (λ_=>true) (λ(i:Nat) v aP=>∃x vs,v=V.ref x/\aA x=none/\aP x=some (.lst vs)/\hW aP (takeRow ap.belts (0+(i:Int))) vs) (λ_ _ _ _ e ⟨x,vs,cK,cO,dm,dI⟩=>⟨x,vs,cK,cO,e _ _ dm,dI.keep λ_ _ z=>e _ _ z⟩) (λi c6 aj v aP f7 hi bI y em k=>?_) (λi aj cQ hi bI k=>?_) (λhJ i aj cQ hi a_ hp0 hp1' bI k=>?_) (λdA aP ys hra bQ sT db=>?_)
  .obtain⟨rfl,rfl⟩:=y;obtain⟨x1,rfl⟩:∃x1,c6=[x1]:=by
    match c6,em with
    | [x1],_=>exact⟨x1,rfl⟩
   nofun;exact k _ (Zd.refl _)
  .nofun;exact k aj (Zd.refl aj)
  .nofun;refine⟨bK,0+(i:Int),ap,fp,rfl,ii.same bI,∅,∅,∅,λx b5 vs ar bV rS dv=>?_⟩;exact k _ b5 bV ⟨x,vs,rfl,ft bI ar,t0 hp1' ar rS,dv.keep λb xs z=>Zac hp1' bV z⟩
  obtain⟨ck,rfl,jj,qz⟩:=Zoq db;rw[m6,GT] at qz;have lD:=bQ _ _ fP;have hQ:=bQ _ _ lO;have gN:=ii.same bQ;have l8:dA≠p:=e_ sT lD (by intro z;cases z);have l9:∀x∈ck,x≠p:=λx ar z=>by
   have:=(jj x ar).1;rw[z,fP] at this;cases this
  nofun;have da:df [p] aP (upd aP p (.ins T.b dx [("takes",.ref dA)])):=gy (by simp) lD (by intro _ z;cases z);have nZ:(upd aP p (.ins T.b dx [("takes",.ref dA)])) p=some (.ins T.b dx [("takes",.ref dA)]):=Ze;have k3:∀b o,H b=some o->b≠p->(upd aP p (.ins T.b dx [("takes",.ref dA)])) b=some o:=λb o e n=>da.keep _ _ (bQ _ _ (a' _ _ e)) (by simpa using n);have zA:=da.keep _ _ sT (by simpa using l8);have l6:=da.keep _ _ hQ (by simpa using s2);have hv:=gN.off da (λx ar z=>pq (by rw[<-qab.mp z];exact ar));have sU:=LL.go da qz (λx ar=>by simpa using l9 x ar);generalize upd aP p (.ins T.b dx [("takes",.ref dA)])=b5 at*;clear da;nofun;refine Z2 (own:=1) Wf.y (ed (by rw[m6];exact b')) (λi=>[some (.int (0+(i:Int)))]) (λ_=>rfl) (λ_=>true) (λ(i:Nat) v aP=>∃x vs,v=V.ref x/\b5 x=none/\aP x=some (.lst vs)/\hW aP (giveRow ap.belts (0+(i:Int))) vs) (λ_ _ _ _ e ⟨x,vs,cK,cO,dm,dI⟩=>⟨x,vs,cK,cO,e _ _ dm,dI.keep λ_ _ z=>e _ _ z⟩) (λi c6 aj v aP f7 hi bI y em k=>?_) (λi aj cQ hi bI k=>?_) (λhJ i aj cQ hi a_ hp0 hp1' bI k=>?_) (λeg bZ ys k_ cd sV vh=>?_)
  .obtain⟨rfl,rfl⟩:=y;obtain⟨x1,rfl⟩:∃x1,c6=[x1]:=by
    match c6,em with
    | [x1],_=>exact⟨x1,rfl⟩
   nofun;exact k _ (Zd.refl _)
  .nofun;exact k aj (Zd.refl aj)
  .nofun;refine⟨bK,0+(i:Int),ap,fp,rfl,hv.same bI,∅,∅,∅,λx b4 vs ar cB hx5 dv=>?_⟩;exact k _ b4 cB ⟨x,vs,rfl,ft bI ar,t0 hp1' ar hx5,dv.keep λb xs z=>Zac hp1' cB z⟩
  obtain⟨eS,rfl,vi,qA⟩:=Zoq vh;rw[m6,GT] at qA;have n0:=cd _ _ nZ;have nR:=cd _ _ l6;have n1:=cd _ _ zA;have kC:=hv.same cd;have vj:=LL.go (A:=[]) cd.frame sU (by simp);have s3:eg≠p:=e_ sV n0 (by intro z;cases z);have n2:∀x∈eS,x≠p:=λx ar z=>by
   have:=(vi x ar).1;rw[z,nZ] at this;cases this
  nofun;have dQ:df [p] bZ (upd bZ p (.ins T.b dx [("takes",.ref dA),("gives",.ref eg)])):=gy (by simp) n0 (by intro _ z;cases z);have vk:(upd bZ p (.ins T.b dx [("takes",.ref dA),("gives",.ref eg)])) p=some (.ins T.b dx [("takes",.ref dA),("gives",.ref eg)]):=Ze;have k5:∀b o,H b=some o->b≠p->(upd bZ p (.ins T.b dx [("takes",.ref dA),("gives",.ref eg)])) b=some o:=λb o e n=>dQ.keep _ _ (cd _ _ (k3 _ _ e n)) (by simpa using n);have vl:=dQ.keep _ _ n1 (by simpa using l8);have qB:=dQ.keep _ _ sV (by simpa using s3);have sx:=dQ.keep _ _ nR (by simpa using s2);have nU:=kC.off dQ (λx ar z=>pq (by rw[<-qab.mp z];exact ar));have sW:=LL.go dQ vj (λx ar=>by simpa using l9 x ar);have sX:=LL.go dQ qA (λx ar=>by simpa using n2 x ar);generalize upd bZ p (.ins T.b dx [("takes",.ref dA),("gives",.ref eg)])=b4 at*;clear dQ qz sU vj qA db vh k3;nofun;refine Rd.Vk (.of sx) (λeU zC=>?_);have c8:Zd b4 (upd b4 eU (.lst (ms.map V.int))):=cF zC;have FX:(upd b4 eU (.lst (ms.map V.int))) eU=some (.lst (ms.map V.int)):=Ze;generalize upd b4 eU (.lst (ms.map V.int))=cZ at*;have zP:=c8 _ _ vk;have qC:eU≠p:=e_ FX zP (by intro z;cases z);nofun;have l':df [p] cZ (upd cZ p (.ins T.b dx [("takes",.ref dA),("gives",.ref eg),("rooms",.ref eU)])):=gy (by simp) zP (by intro _ z;cases z);have vn:(upd cZ p (.ins T.b dx [("takes",.ref dA),("gives",.ref eg),("rooms",.ref eU)])) p=some (.ins T.b dx [("takes",.ref dA),("gives",.ref eg),("rooms",.ref eU)]):=Ze;have rT:∀b o,H b=some o->b≠p->(upd cZ p (.ins T.b dx [("takes",.ref dA),("gives",.ref eg),("rooms",.ref eU)])) b=some o:=λb o e n=>l'.keep _ _ (c8 _ _ (k5 _ _ e n)) (by simpa using n);have OV:=l'.keep _ _ (c8 _ _ vl) (by simpa using l8);have OW:=l'.keep _ _ (c8 _ _ qB) (by simpa using s3);have zD:=l'.keep _ _ FX (by simpa using qC);have FY:=l'.keep _ _ (c8 _ _ sx) (by simpa using s2);have vt:=(nU.same c8).off l' (λx ar z=>pq (by rw[<-qab.mp z];exact ar));have FZ:=LL.go l' (LL.go (A:=[]) c8.frame sW (by simp)) (λx ar=>by simpa using l9 x ar);have F0:=LL.go l' (LL.go (A:=[]) c8.frame sX (by simp)) (λx ar=>by simpa using n2 x ar);generalize upd cZ p (.ins T.b dx [("takes",.ref dA),("gives",.ref eg),("rooms",.ref eU)])=di at*;clear l' sW sX k5;nofun;refine⟨c,ms,rfl,.of FY,∅,λi5 eJ oo d2 F1=>?_⟩;have F2:=d2 _ _ vn;have zR:i5≠p:=e_ F1 F2 (by intro z;cases z);nofun;have ma:df [p] eJ (upd eJ p (.ins T.b dx [("takes",.ref dA),("gives",.ref eg),("rooms",.ref eU),("firsts",.ref i5)])):=gy (by simp) F2 (by intro _ z;cases z);have OX:(upd eJ p (.ins T.b dx [("takes",.ref dA),("gives",.ref eg),("rooms",.ref eU),("firsts",.ref i5)])) p=some (.ins T.b dx [("takes",.ref dA),("gives",.ref eg),("rooms",.ref eU),("firsts",.ref i5)]):=Ze;have zS:∀b o,H b=some o->b≠p->(upd eJ p (.ins T.b dx [("takes",.ref dA),("gives",.ref eg),("rooms",.ref eU),("firsts",.ref i5)])) b=some o:=λb o e n=>ma.keep _ _ (d2 _ _ (rT _ _ e n)) (by simpa using n);have qH:=ma.keep _ _ (d2 _ _ OV) (by simpa using l8);have F3:=ma.keep _ _ (d2 _ _ OW) (by simpa using s3);have F4:=ma.keep _ _ (d2 _ _ zD) (by simpa using qC);have F5:=ma.keep _ _ F1 (by simpa using zR);have OY:=ma.keep _ _ (d2 _ _ FY) (by simpa using s2);have vu:=(vt.same d2).off ma (λx ar z=>pq (by rw[<-qab.mp z];exact ar));have zT:=LL.go ma (LL.go (A:=[]) d2.frame FZ (by simp)) (λx ar=>by simpa using l9 x ar);have zU:=LL.go ma (LL.go (A:=[]) d2.frame F0 (by simp)) (λx ar=>by simpa using n2 x ar);generalize upd eJ p (.ins T.b dx [("takes",.ref dA),("gives",.ref eg),("rooms",.ref eU),("firsts",.ref i5)])=hj at*;clear ma FZ F0 rT;nofun;refine⟨bK,ap,fp,rfl,vu,∅,λrg gO jX sa F6=>?_⟩;have F7:=sa _ _ OX;have zV:rg≠p:=e_ F6 F7 (by intro z;cases z);have yZ:∀x∈dA::eg::eU::i5::(ck++eS),x≠rg:=λx ar=>by
   simp only[qaf,qaD] at ar;rcases ar with rfl|rfl|rfl|rfl|ar|ar
   .exact dh qH jX
   .exact dh F3 jX
   .exact dh F4 jX
   .exact dh F5 jX
   .exact λz=>zT.dom x ar (by rw[z];exact jX)
   .exact λz=>zU.dom x ar (by rw[z];exact jX)
  have zW:H rg=none:=by
   cases e:H rg with
   |none=>rfl
   |some o=>rw[zS _ _ e zV] at jX;cases jX
  nofun;have mb:df [p] gO (upd gO p (.ins T.b dx [("takes",.ref dA),("gives",.ref eg),("rooms",.ref eU),("firsts",.ref i5),("given",.ref rg)])):=gy (by simp) F7 (by intro _ z;cases z);have OZ:(upd gO p (.ins T.b dx [("takes",.ref dA),("gives",.ref eg),("rooms",.ref eU),("firsts",.ref i5),("given",.ref rg)])) p=some (.ins T.b dx [("takes",.ref dA),("gives",.ref eg),("rooms",.ref eU),("firsts",.ref i5),("given",.ref rg)]):=Ze;have F8:∀b o,H b=some o->b≠p->(upd gO p (.ins T.b dx [("takes",.ref dA),("gives",.ref eg),("rooms",.ref eU),("firsts",.ref i5),("given",.ref rg)])) b=some o:=λb o e n=>mb.keep _ _ (sa _ _ (zS _ _ e n)) (by simpa using n);have F9:=mb.keep _ _ (sa _ _ qH) (by simpa using l8);have s4:=mb.keep _ _ (sa _ _ F3) (by simpa using s3);have F_:=mb.keep _ _ (sa _ _ F4) (by simpa using qC);have F':=mb.keep _ _ (sa _ _ F5) (by simpa using zR);have Ga:=mb.keep _ _ F6 (by simpa using zV);have O0:=mb.keep _ _ (sa _ _ OY) (by simpa using s2);have Gb:=LL.go mb (LL.go (A:=[]) sa.frame zT (by simp)) (λx ar=>by simpa using l9 x ar);have Gc:=LL.go mb (LL.go (A:=[]) sa.frame zU (by simp)) (λx ar=>by simpa using n2 x ar);generalize upd gO p (.ins T.b dx [("takes",.ref dA),("gives",.ref eg),("rooms",.ref eU),("firsts",.ref i5),("given",.ref rg)])=lr at*;clear mb zT zU zS;have O1:=SqL.of (K:=K) O0;nofun;refine Yf (eF O1) (ed (by rw[GM];omega)) (λ_=>true) (λi=> .int 0) (λi aj cQ hi bI k=>?_) (λi aj cQ hi _ bI k=>?_) (λrt Hc jZ cf zX=>?_)
  .nofun;exact k aj (Zd.refl aj)
  .nofun;exact k aj (Zd.refl aj)
  rw[qak.mpr (by simp),GM] at zX;have Gd:=cf _ _ OZ;have Ge:rt≠p:=e_ zX Gd (by intro z;cases z);have iZ:∀x∈dA::eg::eU::i5::(ck++eS),x≠rt:=λx ar=>by
   simp only[qaf,qaD] at ar;rcases ar with rfl|rfl|rfl|rfl|ar|ar
   .exact dh F9 jZ
   .exact dh s4 jZ
   .exact dh F_ jZ
   .exact dh F' jZ
   .exact λz=>Gb.dom x ar (by rw[z];exact jZ)
   .exact λz=>Gc.dom x ar (by rw[z];exact jZ)
  have zY:H rt=none:=by
   cases e:H rt with
   |none=>rfl
   |some o=>rw[F8 _ _ e Ge] at jZ;cases jZ
  nofun;have fd:df [p] Hc (upd Hc p (.ins T.b dx [("takes",.ref dA),("gives",.ref eg),("rooms",.ref eU),("firsts",.ref i5),("given",.ref rg),("taken",.ref rt)])):=gy (by simp) Gd (by intro _ z;cases z);have O2:=LL.go fd (LL.go (A:=[]) cf.frame Gb (by simp)) (λx ar=>by simpa using l9 x ar);have O3:=LL.go fd (LL.go (A:=[]) cf.frame Gc (by simp)) (λx ar=>by simpa using n2 x ar);rw[Ziz,DD] at q;refine q _ rg rt ⟨dx,dA,eg,eU,i5,ck,eS,_,Ze,fd.keep _ _ (cf _ _ F9) (by simpa using l8),fd.keep _ _ (cf _ _ s4) (by simpa using s3),O2,O3,fd.keep _ _ (cf _ _ F_) (by simpa using qC),fd.keep _ _ (cf _ _ F') (by simpa using zR),rfl,hC,fd.keep _ _ (cf _ _ Ga) (by simpa using zV),?_,by simp[startsL],by rw[qa8],λx ar=>⟨yZ x ar,iZ x ar⟩,dh Ga jZ⟩ zW zY (λb o e n=>fd.keep _ _ (cf _ _ (F8 _ _ e n)) (by simpa using n));rw[fd.keep _ _ zX (by simpa using Ge)]
  congr 2
  refine qaE (by simp[hC]) λi ay aD=>?_;simp
inductive Gf(vs:List V)(H:Hp)(Q:VK)(E:XK):Prop
 |mk (p c e f:Addr) (ap:HM) (fp:List Addr) (ms rs ws:List Int) (d6:List V) (fss:List (List ZX)) (z:Int->Nat) (de:vs=[.ref p,.ref c,.ref e,.ref f]) (cK:dr T H p ap fp) (cO:Ug ap) (dm:H c=some (.lst (ms.map V.int))) (dI:(∀x∈ms,x<=1000000)) (ef:H e=some (.lst (ws.map V.int))) (eR:ws.length<=400) (fw:SqL K H f d6) (gT:jq H d6 fss) (jt:fss.length<=1000) (kx:ZeX fss) (nP:o0 ap.names.length ap.belts fss) (zE:VH ap.belts z) (zF:(∀rs',Rts ap.belts ap.names.length z rs'->rs'=rs)) (Gg:rs.sum<=400) (Gh:k6 ms (startsL ap.belts)) (Gi:Zdv ap.names.length ap.belts ms rs ws) (Gj:(3000<(lapsL ms (givL ap.belts rs) ms.length:Int)*(givL ap.belts rs).sum->∀aj,Zd H aj->E (.ref T.k) none aj)) (O4:(¬3000<(lapsL ms (givL ap.belts rs) ms.length:Int)*(givL ap.belts rs).sum->∀(u r:Addr)(aj:Hp)(xs:List V),H r=none->Zd H aj->aj u=some (.tup [.int (lapsL ms (givL ap.belts rs) ms.length:Nat),.ref r])->aj r=some (.lst xs)->hp aj xs (codeL ap.belts ms fss [] (repL (lapsL ms (givL ap.belts rs) ms.length) ws))->(xs.length:Int)=(lapsL ms (givL ap.belts rs) ms.length:Int)*(givL ap.belts rs).sum->Q (.ref u) aj)):Gf vs H Q E
theorem Gk:OkN P w base 10 T.aV (Gf T):=by
 have zJ:=T.l;have zK:=T.C;refine T.aV.F.okX oR (by walk_at "l") (λcD A outer s H vs Q E aC h=>?_)
 .have hu:=aC.hu;obtain⟨p,c,e,f,ap,fp,ms,rs,ws,d6,fss,z,rfl,b8,g8,a_,kB,b9,mY,bS,fD,m2,qI,f8,nY,zZ,hD,k9,jy,rp,kQ⟩:=h;have jx:=g8.nm.2.2;have ej:=g8.few;have e2:=Paired.length fD;have hC:ms.length=ap.belts.length:=by rw[k9.1];simp[startsL]
  refine⟨_,(bN (et (c2 T.a9 (M8 T) aC cG %[0,3|2]))
     (bN %[cA,4,oR.nd,c2 T.bk (Oa T) aC cG %[0|2]|1]
     (bN (et (c2 T.aT (Fp T) aC cG %[0,1|2]))
     (bN (et (c2 T.bs (Ox T) aC cG %[0,1,4,2|2]))
     (bN %[cA,5,oR.nd,c2 T.bt (OA T) aC cG %[0,1,4|2]|1]
     (bN %[cA,6,oR.nd,Ju T.bx (OU T) aC T.aw cG %[0,1|2]|1]
     (bN %[cA,7,oR.nd,fA bG|1]
     (bN (d4 PassesOwn.leaving rfl (g4 rfl T.h %[5|2]) %[cr,8,oR.nd|1] (b0 (d4 PassesOwn.leaving rfl (eG (K:=K) rfl (pv 2)) %[cr,9,oR.nd|1] (b0 (et (hA (K:=K) rfl qan qb2 qb3 wj (pv 7) %[hB (pv 6) T.l T.bv (OG T) aC cG %[9,%[3,9|0]|2]|2]))))))
     (b0 (c9 (fz %[5,7|2]))))))))))),?_⟩
  walk_at "a"
  nofun;refine⟨p,f,ap,fp,d6,fss,rfl,b8,∅,∅,bS,fD,m2,qI,λz=>absurd f8 z,λ_ aA a'=>?_⟩;nofun;refine⟨p,ap,fp,z,rfl,b8.same a',∅,∅,g8.bt,g8.sized,nY,λr aP rs' bQ ku gd db=>?_⟩;obtain rfl:rs=rs':=(zZ rs' db).symm;refine⟨λ_=>?_,λz=>absurd z ∅⟩;have gE:=a'.trans bQ;have k_:=Zho db.pos;have fO:=db.len;nofun;refine⟨p,c,ap,fp,ms,rfl,b8.same gE,∅,.of (gE _ _ a_),∅,λz=>absurd k9 z,λ_ b5 bV=>?_⟩;have fx:=gE.trans bV;nofun;refine⟨p,c,r,e,ap,fp,ms,rs,ws,rfl,b8.same fx,∅,g8.nm,.of (fx _ _ a_),∅,k9,.of (bV _ _ gd),fO,∅,fx _ _ b9,∅,jy,λbZ cd=>?_⟩;have hr:=fx.trans cd;have O5:=Zig jy g8.bt db.pos k9 (λl bL=>by have:=g8.bs l bL;omega);have Gm:∀x∈ms,1<=x/\x<=1000000:=λx ar=>⟨O5 x ar,kB x ar⟩;nofun;refine⟨p,c,r,ap,fp,ms,rs,rfl,b8.same hr,∅,.of (hr _ _ a_),hC,Gm,.of ((bV.trans cd) _ _ gd),by rw[fO];exact g8.bt,λl bL=>(by have:=g8.bs l bL;omega),λx ar=>⟨db.pos x ar,by have:=k_ x ar;omega⟩,λz b4 cB=>rp z b4 (hr.trans cB),λks b4 cB=>?_⟩;have O6:=kQ ks;have fy:=hr.trans cB;have l0:=ZcR (rs:=rs) (by rw[fO];exact g8.bt) (λl bL=>by have:=g8.bs l bL;omega) (λx ar=>⟨db.pos x ar,by have:=k_ x ar;omega⟩);have kt:=Zip (by rw[ZaZ,hC]) l0 ks;have vv:=Zm5 jy g8.bt;have jc:=(sc l0).1;generalize gX:lapsL ms (givL ap.belts rs) ms.length=L at*;generalize (givL ap.belts rs).sum=S at*;nofun;refine ZeQ (b8.same fy) ∅ g8.few (fy _ _ a_) hC (λz0 g t cZ hw zW zY c8=>?_);have lc:=fy.trans c8;nofun;refine⟨qar _,λcu gi=>?_⟩;have d5:Zd cZ (upd cZ cu (.lst [])):=cF gi;have s5:(upd cZ cu (.lst [])) cu=some (.lst []):=Ze;generalize upd cZ cu (.lst [])=di at*;have O7:=hw.same d5;obtain⟨O8,O9⟩:cZ g≠none/\cZ t≠none:=by
   obtain⟨_,_,_,_,_,_,_,_,_,_,_,_,_,_,_,_,_,iI,hk,_⟩:=hw;rw[iI,hk];simp
  have Gn:cu≠g:=λz=>O8 (by rw[<-z];exact gi);have Go:cu≠t:=λz=>O9 (by rw[<-z];exact gi);have O_:H g=none:=ft fy zW;have Pa:H t=none:=ft fy zY;have s6:H cu=none:=ft lc gi;have Gp:di g=some (.lst ((gvL ap.belts []).map V.int))/\di t=some (.lst ((tkL ap.belts []).map V.int)):=by
   obtain⟨_,_,_,_,_,_,_,_,_,_,_,_,_,_,_,_,_,iI,hk,_⟩:=O7;exact⟨iI,hk⟩
  have hR:∀pre,(gvL ap.belts pre).length=ap.belts.length:=λpre=>by simp[gvL]
  have ia:∀pre,(tkL ap.belts pre).length=ap.belts.length:=λpre=>by simp[tkL]
  nofun;refine YT (n:=L) (λi ao aj=>∃(xs:List V)(a8 a9:Option V),ao=[some (.ref p),some (.ref c),some (.ref e),some (.ref f),some (.ref r),some (.int (L:Nat)),some (.ref z0),some (.ref cu),a8,a9]/\Zd H aj/\df [g,t,cu] di aj/\aj g=some (.lst ((gvL ap.belts (repL i ws)).map V.int))/\aj t=some (.lst ((tkL ap.belts (repL i ws)).map V.int))/\aj cu=some (.lst xs)/\hp aj xs (codeL ap.belts ms fss [] (repL i ws))/\(xs.length:Int)=(i:Int)*S) ⟨[],_,_,rfl,lc.trans d5,df.refl,Gp.1,Gp.2,s5,.nil,by simp⟩ ?_ ?_
  .rintro i ao eJ hi ⟨xs,a8,a9,rfl,d2,ie,z1,sG,j2,j3,gF⟩;have qw:=SqL.of (K:=K) (d2 _ _ b9);nofun;refine Yr (eF (SqL.of (K:=K) b9)) (λj ao aj=>∃(xs:List V)(a9:Option V),ao=[some (.ref p),some (.ref c),some (.ref e),some (.ref f),some (.ref r),some (.int (L:Nat)),some (.ref z0),some (.ref cu),some (.int (0+(i:Int))),a9]/\Zd H aj/\df [g,t,cu] di aj/\aj g=some (.lst ((gvL ap.belts (repL i ws++ws.take j)).map V.int))/\aj t=some (.lst ((tkL ap.belts (repL i ws++ws.take j)).map V.int))/\aj cu=some (.lst xs)/\hp aj xs (codeL ap.belts ms fss [] (repL i ws++ws.take j))/\(xs.length:Int)=(i:Int)*S+((ws.take j).map λw=>Z9 ap.belts w).sum) ⟨xs,_,rfl,d2,ie,by simpa using z1,by simpa using sG,j2,by simpa using j3,by simpa using gF⟩ (λ_ _ _ h=>by obtain⟨_,_,_,s,_⟩:=h;exact s) ?_ ?_
   .clear j2 gF z1 sG ie d2 qw j3;rintro j ao hj bP ⟨xs,a9,rfl,fE,l7,s7,s8,pr,m8,gF⟩;have vw:j<ws.length:=by rw[GM] at bP;exact bP
    have e3:(ws.map V.int).getD j .non= .int ws[j]:=by simp[List.getD,vw]
    rw[e3];have sv:=jy.all _ (GE vw);have Pb:=(LN (ls:=ap.belts) (λl bL=>by have:=g8.bs l bL;omega) (ws:=ws) (j:=j+1)).2;have Pd:((ws.take (j+1)).map λw=>Z9 ap.belts w).sum=((ws.take j).map λw=>Z9 ap.belts w).sum+Z9 ap.belts ws[j]:=by
     rw[qac vw,qaF,List.sum_append];simp
    have Pe:repL i ws++ws.take (j+1)=(repL i ws++ws.take j)++ [ws[j]]:=by rw[qac vw,qbp]
    have Pf:(repL i ws++ws.take j).length<=2000000:=by
     rw[qag,DE,qaI];have:i*ws.length<=2999*400:=qcd ∅ mY;omega
    rw[vv] at Pb;rw[Pe];generalize repL i ws++ws.take j=pre at*;generalize ws[j]=w at*;obtain⟨c3,rfl⟩:=qaA sv.1;have pF:fss.length=ap.names.length:=f8.1;have z2:=mW (d:=V.non) (e:=([]:List ZX)) fD (i:=c3) ∅;have qG:=f8.2 c3 ∅;have z3:=qI _ (show fss.getD c3 []∈fss by rw[cL ∅];exact GE _);have z4:c3<d6.length:=by omega
    have eZ:atI d6 (c3:Int)=some (d6.getD c3 .non):=iT (by simp[List.getD,z4]);have sP:=fE.seq bS;have Pg:=hw.step3 gi d5 l7 s7 s8 (hR pre) (ia pre);have j9:=Zbo (rows:=ap.belts) (ms:=ms) (fss:=fss) (pre:=[]) (ws:=pre) (w:=(c3:Int));rw[List.nil_append,GT] at j9;rw[j9];generalize d6.getD c3 .non=Gq at*;generalize fss.getD c3 []=fs at*;nofun;refine⟨z0,c3,Gq,ap.names.length,ap.belts,ms,g,t,pre,fs,rfl,Pg,g8.few,g8.small,Gm,∅,∅,z2.keep (λb xs e=>fE _ _ e),qG,λf bS=>z3.2 f bS,Pf,λdA gO ys hra fra hga hta Ph Gr=>?_⟩;have Pj:cu∉[g,t]:=by simp[Gn,Go]
    have ps:=fra.keep _ _ pr Pj;have o5:(ys.length:Int)=Z9 ap.belts (c3:Int):=by rw[Paired.length Gr,LO qG (DI g8.small)]
    have VQ:((i:Int)+1)*S<=(L:Int)*S:=qbO ∅ jc;have VT:((i:Int)+1)*S=(i:Int)*S+S:=by rw[Int.add_mul];omega
    nofun;refine⟨cu,dA,_,_,rfl,rfl,ps,Ph,qbh (jm ∅),?_⟩;have sa:Zd H gO:=λb o x=>fra.keep _ _ (fE _ _ x) (λy=>by
     rcases qaf.mp y with y|y
     .rw[y,O_] at x;cases x
     .rw[qab.mp y,Pa] at x;cases x)
    have Pk:df [g,t,cu] di gO:=l7.trans (fra.mono (by simp));have vx:df [g,t,cu] gO (upd gO cu (.lst (xs++ys))):=gy (by simp) ps (by intro _ z;cases z);nofun;exact⟨xs++ys,_,rfl,sa.new s6,Pk.trans vx,(b3 (qaY Gn)).trans hga,(b3 (qaY Go)).trans hta,Ze,((m8.keep fra.tups).append Gr).keep vx.tups,by rw[qag,Pd];omega⟩
   .rintro ao hj ⟨xs,a9,rfl,fE,l7,s7,s8,pr,m8,gF⟩;rw[GM,qaO] at s7 s8 m8 gF;rw[<-Zkg] at s7 s8 m8;rw[vv] at gF;nofun;exact⟨xs,_,_,rfl,fE,l7,s7,s8,pr,m8,by rw[gF,Int.natCast_add,Int.add_mul];omega⟩
  .rintro ao eJ ⟨xs,a8,a9,rfl,d2,ie,z1,sG,j2,j3,gF⟩;nofun;refine⟨by show 2<=sizeLine;decide,λu hu=>?_⟩;have sn:Zd eJ (upd eJ u (.tup [.int (L:Nat),.ref cu])):=cF hu;exact O6 u cu _ xs s6 (d2.trans sn) Ze (sn _ _ j2) (j3.keep λb xs e=>sn _ _ e) gF
inductive Gs(vs:List V)(H:Hp)(Q:VK)(E:XK):Prop
 |mk (p c e f:Addr) (ap:HM) (fp:List Addr) (ms rs ws:List Int) (d6:List V) (fss:List (List ZX)) (z:Int->Nat) (de:vs=[.ref p,.ref c,.ref e,.ref f]) (cK:dr T H p ap fp) (cO:Ug ap) (dm:H c=some (.lst (ms.map V.int))) (dI:(∀x∈ms,x<=1000000)) (ef:H e=some (.lst (ws.map V.int))) (eR:ws.length<=400) (fw:SqL K H f d6) (gT:jq H d6 fss) (jt:fss.length<=1000) (kx:ZeX fss) (nP:o0 ap.names.length ap.belts fss) (zE:VH ap.belts z) (zF:(∀rs',Rts ap.belts ap.names.length z rs'->rs'=rs)) (Gg:rs.sum<=400) (Gh:k6 ms (startsL ap.belts)) (Gi:Zdv ap.names.length ap.belts ms rs ws) (Gj:(3000<(lapsL ms (givL ap.belts rs) ms.length:Int)*(givL ap.belts rs).sum->∀t aj,Zd H aj->aj t=some (.tup [.non,.bl true])->Q (.ref t) aj)) (O4:(¬3000<(lapsL ms (givL ap.belts rs) ms.length:Int)*(givL ap.belts rs).sum->∀(t u r:Addr)(aj:Hp)(xs:List V),Zd H aj->aj t=some (.tup [.ref u,.bl false])->aj u=some (.tup [.int (lapsL ms (givL ap.belts rs) ms.length:Nat),.ref r])->aj r=some (.lst xs)->hp aj xs (codeL ap.belts ms fss [] (repL (lapsL ms (givL ap.belts rs) ms.length) ws))->(xs.length:Int)=(lapsL ms (givL ap.belts rs) ms.length:Int)*(givL ap.belts rs).sum->Q (.ref t) aj)):Gs vs H Q E
theorem Gu:OkN P w base 11 T.aW (Gs T):=by
 refine T.aW.F.okX p3 (by walk_at "l") (λcD A outer s H vs Q E aC h=>?_)
 .have hu:=aC.hu;obtain⟨p,c,e,f,ap,fp,ms,rs,ws,d6,fss,z,rfl,b8,g8,a_,kB,b9,mY,bS,fD,m2,qI,f8,nY,zZ,hD,k9,jy,cJ,cP⟩:=h;have xe:=T.ai;have k1:=T.u;refine⟨_,(bN %[cA,4,p3.nd,Ue|1]
     (bN %[cA,5,p3.nd,Wr|1]
     (bN (Ka (j:=6) rfl rfl rfl T.r.m (λJ fU pn iX ownT sY=>(b0 %[cA,4,p3.nd,BH T.aV (Gk T) aC sY %[0,1,2,3|2]|1])) (λke=>(b0 %[cA,5,p3.nd,dk (JZ (K:=K) rfl) (by rfl) T.g qat %[6,ng (v:= .ref T.V) rfl T.X.m rfl|2]|1])) p3.nd rfl rfl)
     (b0 (c9 (fz %[4,5|2])))))),?_⟩
  walk_at "a"
  nofun;refine _L.Rd.Zo7 (λcls _ aj=>Zd H aj/\cls= .ref T.k/\3000<(lapsL ms (givL ap.belts rs) ms.length:Int)*(givL ap.belts rs).sum) ?_ ?_
  .nofun;refine⟨p,c,e,f,ap,fp,ms,rs,ws,d6,fss,z,rfl,b8,g8,a_,kB,b9,mY,bS,fD,m2,qI,f8,nY,zZ,hD,k9,jy,λy aj s=>⟨s,rfl,y⟩,λy u r aj xs _ s e8 hL hX gF=>?_⟩;nofun;refine⟨by show 2<=sizeLine;decide,λt bY=>?_⟩;have sn:Zd aj (upd aj t (.tup [.ref u,.bl false])):=cF bY;exact cP y t u r _ xs (s.trans sn) Ze (sn _ _ e8) (sn _ _ hL) (hX.keep λb xs e=>sn _ _ e) gF
  .rintro cls aA ⟨a',rfl,y⟩;refine⟨T.E,_,rfl,λcw Pl=>?_⟩;have VU:(upd aA cw (nB cw T.k)) cw=some (nB cw T.k):=Ze;have bQ:Zd H (upd aA cw (nB cw T.k)):=a'.trans (cF Pl);generalize upd aA cw (nB cw T.k)=aP at*;nofun;refine⟨by show 2<=sizeLine;decide,λt bY=>?_⟩;exact cJ y t _ (bQ.trans (cF bY)) Ze
inductive Gv(T:Tp K mg)(vs:List V)(H:Hp)(Q:VK)(cR:XK):Prop
 |mk (b c e f:Addr) (bs:List V) (ls:List B5) (ms ws:List Int) (d6:List V) (fss:List (List ZX)) (de:vs=[.ref b,.ref c,.ref e,.ref f]) (cK:H b=some (.lst bs)) (cO:ev H bs ls) (dm:ls.length<=60) (dI:ZaK ls) (ef:SqL K H c (ms.map V.int)) (eR:ms.length=ls.length) (fw:(∀x∈ms,1<=x/\x<=1000000)) (gT:SqL K H e (ws.map V.int)) (jt:ws.length<=2000000) (kx:(∀w∈ws,0<=w/\w<(fss.length:Int))) (nP:SqL K H f d6) (zE:jq H d6 fss) (zF:fss.length<=1000) (Gg:o0 fss.length ls fss) (Gh:ZeX fss) (Gi:(codeL ls ms fss [] ws).length<=10000) (Gj:∀(r:Addr)(aj:Hp)(xs:List V),H r=none->Zd H aj->aj r=some (.lst xs)->hp aj xs (codeL ls ms fss [] ws)->Q (.ref r) aj):Gv T vs H Q cR
def CJ1 (b c e f ff ce ba cu:Addr) (H:Hp) (G U F:List Int) (R:List Row3):St->Hp->Prop:=λao aj=>∃(xs:List V)(a8 a9 hY lu pu i6 i7 i8 hM:Option V),ao=[some (.ref b),some (.ref c),some (.ref e),some (.ref f),some (.ref ff),some (.ref ce),some (.ref ba),some (.ref cu),a8,a9,hY,lu,pu,i6,i7,i8,hM]/\Zd H aj/\aj ff=some (.lst (G.map V.int))/\aj ce=some (.lst (U.map V.int))/\aj ba=some (.lst (F.map V.int))/\aj cu=some (.lst xs)/\hp aj xs R
def CJ2 (b c e f ff ce ba cu:Addr) (H:Hp) (c3:Nat) (G U F:List Int) (xs:List V) (R:List Row3) (j:Nat) (Z:List Int):St->Hp->Prop:=λao aj=>∃(sl:Addr)(ss:List Int)(hY lu pu i6 i7 i8 hM:Option V),ao=[some (.ref b),some (.ref c),some (.ref e),some (.ref f),some (.ref ff),some (.ref ce),some (.ref ba),some (.ref cu),some (.int c3),some (.ref sl),hY,lu,pu,i6,i7,i8,hM]/\Zd H aj/\aj ff=some (.lst (G.map V.int))/\aj ce=some (.lst (U.map V.int))/\aj ba=some (.lst (F.map V.int))/\aj cu=some (.lst xs)/\hp aj xs R/\aj sl=some (.lst (ss.map V.int))/\sl≠ff/\sl≠cu/\sl≠ce/\ss.length<=1000*j/\ss=Z
def CJ3 (b c e f ff ce ba cu:Addr) (H:Hp) (c3:Nat) (sl:Addr) (ss:List Int) (fs:List ZX) (base:List Row3) (G U F Z:List Int):St->Hp->Prop:=λao aj=>∃(us:List Int)(ys:List V)(hY lu i6 i7 i8 hM:Option V),ao=[some (.ref b),some (.ref c),some (.ref e),some (.ref f),some (.ref ff),some (.ref ce),some (.ref ba),some (.ref cu),some (.int c3),some (.ref sl),hY,lu,some (.int (us.length:Nat)),i6,i7,i8,hM]/\Zd H aj/\aj ff=some (.lst (G.map V.int))/\aj ce=some (.lst (U.map V.int))/\aj ba=some (.lst (F.map V.int))/\aj cu=some (.lst ys)/\hp aj ys (base++List.zipWith (mkR ss) us (fs.take us.length))/\aj sl=some (.lst (ss.map V.int))/\us=Z
def CJ4 (b c e f ff ce ba cu:Addr) (H:Hp) (c3 j:Nat) (sl u:Addr) (ss:List Int) (G U F:List Int) (n:Nat) (R:List Row3):St->Hp->Prop:=λao aj=>∃(ys:List V)(i6 i7 i8 hM:Option V),ao=[some (.ref b),some (.ref c),some (.ref e),some (.ref f),some (.ref ff),some (.ref ce),some (.ref ba),some (.ref cu),some (.int c3),some (.ref sl),some (.int j),some (.ref u),some (.int n),i6,i7,i8,hM]/\Zd H aj/\aj ff=some (.lst (G.map V.int))/\aj ce=some (.lst (U.map V.int))/\aj ba=some (.lst (F.map V.int))/\aj cu=some (.lst ys)/\hp aj ys R/\aj sl=some (.lst (ss.map V.int))
theorem Pm:OkN P w base 1 T.bz (Gv T):=by
 refine T.bz.F.okX hT (by walk_at "l") (λcD A outer s H vs Q E aC h=>?_)
 .have hu:=aC.hu;obtain⟨b,c,e,f,bs,ls,ms,ws,d6,fss,rfl,au,c1,o8,hD,a_,hC,kF,b9,mY,Pn,bS,fD,m2,f8,qI,f6,q⟩:=h;have ej:=c1.length;have nQ:=SqL.of (K:=K) au;have e2:=Paired.length fD;have VX:((ms.map V.int).length:Int)=(ms.length:Int):=by simp
  refine⟨_,(bN (ru (j:=4) rfl (eB (x:="_law_belt") (zs:=[]) (ix:=[]) (cs oN) ["_law_belts","_law_rooms","_law_row","_law_forms","_law_given","_law_taken","_law_bases","_law_code_here","_law_work","_law_slots","_law_k","_law_belt","_law_at","_law_step","_law_constant","_law_terms","_law_named"] rfl rfl (by decide+kernel)) (eG (K:=K) rfl (pv 0)) (λcl C s H fp=>⟨%[cr,0,(show(["_law_belt"]:List Str).Nodup by decide+kernel)|1],e5,%[0,bM|0]⟩) hT.nd rfl (Or.inl rfl))
     (bN (cA (i:=5) hT.nd rfl (Or.inr rfl) (jM rfl (eB (x:="_law_belt") (zs:=[]) (ix:=[]) (cs oN) ["_law_belts","_law_rooms","_law_row","_law_forms","_law_given","_law_taken","_law_bases","_law_code_here","_law_work","_law_slots","_law_k","_law_belt","_law_at","_law_step","_law_constant","_law_terms","_law_named"] rfl rfl (by decide+kernel)) (eG (K:=K) rfl (pv 0)) (λcl C s H fp=>⟨%[cr,0,(show(["_law_belt"]:List Str).Nodup by decide+kernel)|1],e5,bM⟩)))
     (bN (cA (i:=6) hT.nd rfl (Or.inr rfl) (jM rfl (eB (x:="_law_k") (zs:=["_law_rooms"]) (ix:=[1]) (cs oN) ["_law_belts","_law_rooms","_law_row","_law_forms","_law_given","_law_taken","_law_bases","_law_code_here","_law_work","_law_slots","_law_k","_law_belt","_law_at","_law_step","_law_constant","_law_terms","_law_named"] rfl rfl (by decide+kernel)) (g4 rfl T.h %[dk (fb K) (by rfl) T.f qal %[1|2]|2]) (λcl C s H fp=>⟨%[cr,0,(show(["_law_k","_law_rooms"]:List Str).Nodup by decide+kernel)|1],e5,(dk (mK (K:=K) rfl rfl) (by rfl) T.A qaW %[A' (BC (K:=K) rfl) (pv 1) A9 (A_ (pv 0))|2])⟩)))
     (bN %[cA,7,hT.nd,fA bG|1]
     (bN (d4 PassesOwn.leaving rfl (eG (K:=K) rfl (pv 2)) %[cr,8,hT.nd|1] (bN (cA (i:=9) hT.nd rfl (Or.inr rfl) (fA bG))
     (bN (d4 PassesOwn.leaving rfl (kh (K:=K) rfl rfl T.i %[0|2]) (e7 (K:=K) (n:=2) rfl rfl (c_ (cr (i:=10) hT.nd rfl (Or.inr rfl)) (c_ %[cr,11,hT.nd|1] e0))) (b0 (dO (dW (gS (K:=K) rfl hu) %[11,bM|0] (pv 8) (dD _)) (bN (cA (i:=9) hT.nd rfl (Or.inr rfl) (cm (eX K) (pv 9) (jM rfl (eB (x:="_law_step") (zs:=["_law_rooms","_law_taken","_law_bases","_law_k"]) (ix:=[1,5,6,10]) (cs oN) ["_law_belts","_law_rooms","_law_row","_law_forms","_law_given","_law_taken","_law_bases","_law_code_here","_law_work","_law_slots","_law_k","_law_belt","_law_at","_law_step","_law_constant","_law_terms","_law_named"] rfl rfl (by decide+kernel)) (g4 rfl T.h %[%[11,bM|0]|2]) (λcl C s H fp=>⟨%[cr,0,(show(["_law_step","_law_rooms","_law_taken","_law_bases","_law_k"]:List Str).Nodup by decide+kernel)|1],e5,(cm (eX K) %[3,4|0] (cm eI (cm (eX K) %[2,4|0] (pv 0)) %[1,4|0]))⟩))))
     (b0 (hN (cm (eX K) %[5,10|0] %[11,bM|0]) (iN (pv 5) (pv 10) iU)))) dV)))
     (bN %[cA,12,hT.nd,bM|1]
     (b0 (d4 PassesOwn.leaving rfl (kh (K:=K) rfl rfl T.i %[0|2]) (e7 (K:=K) (n:=2) rfl rfl (c_ (cr (i:=10) hT.nd rfl (Or.inr rfl)) (c_ %[cr,11,hT.nd|1] e0))) (b0 (d4 PassesOwn.leaving rfl (g4 rfl T.h %[cm fh %[11,bM|0] (iv Il (by rfl) T.av PyProof.Rows.boot_int %[lA (gS (K:=K) rfl hu) %[11,bM|0] (pv 8) (dD _)|2])|2]) %[cr,13,hT.nd|1] (bN (hN %[%[3,8|0],12|0] (e7 (K:=K) (n:=2) rfl rfl (c_ %[cr,14,hT.nd|1] (c_ %[cr,15,hT.nd|1] e0))))
     (bN %[cA,16,hT.nd,iv (tW (K:=K) rfl) (by rfl) T.m qaU %[ho (xs:=["_law_slot","_law_factor"]) rfl (eB (x:="_law_slot") (zs:=["_law_slots"]) (ix:=[9]) (cs oN) ["_law_belts","_law_rooms","_law_row","_law_forms","_law_given","_law_taken","_law_bases","_law_code_here","_law_work","_law_slots","_law_k","_law_belt","_law_at","_law_step","_law_constant","_law_terms","_law_named"] rfl rfl (by decide+kernel)) (rK (K:=K) rfl (pv 15)) (λcl C s H fp=>⟨(e7 (K:=K) (n:=2) rfl rfl (c_ %[cr,0,(show(["_law_slot","_law_factor","_law_slots"]:List Str).Nodup by decide+kernel)|1] (c_ %[cr,1,(show(["_law_slot","_law_factor","_law_slots"]:List Str).Nodup by decide+kernel)|1] e0))),e5,(fz %[%[2,0|0],1|2])⟩)|2]|1]
     (bN (et (hA (K:=K) rfl qan qay qaz iy (pv 7) %[fz %[cm (eX K) %[6,10|0] (cm eI %[4,10|0] %[1,10|0]),14,16|2]|2]))
     (bN (hN (cm (eX K) %[4,10|0] bM) (iN (pv 4) (pv 10) iU))
     (b0 %[cA,12,hT.nd,cm (eX K) (pv 12) bM|1])))))))))))))
     (b0 (c9 (pv 7)))))))),?_⟩
  walk_at "a"
  nofun;refine Yf (eF nQ) (ed ∅) (λ_=>true) (λi=> .int (ls.getD i dB).start) (λi aj cQ hi bI k=>?_) (λi aj cQ hi _ bI k=>?_) (λff aA hgi a' qJ=>?_)
  .nofun;exact k aj (Zd.refl aj)
  .obtain⟨t,eC,dJ⟩:=c1.getD (i:=i) ∅;rw[eC];have fu:=bI _ _ dJ;generalize ls.getD i dB=bb at*;dsimp only[B5.v] at fu;nofun;exact k aj (Zd.refl aj)
  rw[Zbd ej,<-Ziz] at qJ;have fV:=SqL.of (K:=K) (a' _ _ au);nofun;refine Yf (eF fV) (ed ∅) (λ_=>true) (λi=> .int 0) (λi aj cQ hi bI k=>?_) (λi aj cQ hi _ bI k=>?_) (λce aP lB bQ s9=>?_)
  .nofun;exact k aj (Zd.refl aj)
  .nofun;exact k aj (Zd.refl aj)
  rw[ZhC ej] at s9;have gE:=a'.trans bQ;have hQ:=gE.seq a_;nofun;refine Yf Wf (ed (by rw[GT,GM];omega)) (λ_=>true) (λv=> .int (firstL ms v)) (λv aj cQ cz bI k=>?_) (λv aj cQ cz _ bI k=>?_) (λba b5 lq bV vy=>?_)
  .nofun;exact k aj (Zd.refl aj)
  .rw[qbb];have pJ:v<=ms.length:=by rw[GT,GM] at cz;omega
   have l6:=bI.seq hQ;have Po:kN (ms.map V.int) none (some (v:Int))=(ms.take v).map V.int:=by
    unfold kN;rw[HT.ZlW,HT.ZmB,GM,Nat.min_eq_left pJ,List.drop_zero,Nat.sub_zero,List.map_take]
   nofun;refine Rd.slL l6 (λhl Pp=>?_);rw[Po];have m7:Zd aj (upd aj hl (.lst ((ms.take v).map V.int))):=cF Pp;have Pq:(upd aj hl (.lst ((ms.take v).map V.int))) hl=some (.lst ((ms.take v).map V.int)):=Ze;generalize upd aj hl (.lst ((ms.take v).map V.int))=Hg at*;nofun;refine Rd.Zgn (.of Pq) ?_;exact k Hg m7
  rw[Zjk] at vy;have fx:=gE.trans bV;nofun;refine⟨qar _,λcu gi=>?_⟩;have cd:Zd b5 (upd b5 cu (.lst [])):=cF gi;have Gw:(upd b5 cu (.lst [])) cu=some (.lst []):=Ze;generalize upd b5 cu (.lst [])=bZ at*;have hr:=fx.trans cd;have Gx:=cd _ _ (bV _ _ (bQ _ _ qJ));have Gy:=cd _ _ (bV _ _ s9);have Gz:=cd _ _ vy;have s0:ff≠ce:=dh qJ lB;have Pr:ff≠ba:=dh (bQ _ _ qJ) lq;have GA:ff≠cu:=dh (bV _ _ (bQ _ _ qJ)) gi;have Ps:ce≠ba:=dh s9 lq;have GB:ce≠cu:=dh (bV _ _ s9) gi;have Pu:ba≠cu:=dh vy gi;have Pw:H ce=none:=ft a' lB;have VZ:H ba=none:=ft gE lq;have s6:H cu=none:=ft fx gi;have nV:=hr.seq b9;have g_:(jr ms).length=ms.length:=by simp[jr]
  clear qJ s9 vy fV hQ a' bQ bV cd gE fx;nofun;refine Yr (eF b9) (λi=>CJ1 b c e f ff ce ba cu H (gvL ls (ws.take i)) (tkL ls (ws.take i)) (jr ms) (codeL ls ms fss [] (ws.take i))) ⟨[],_,_,_,_,_,_,_,_,_,rfl,hr,Gx,Gy,Gz,Gw,.nil⟩ (λ_ _ _ h=>by obtain⟨_,_,_,_,_,_,_,_,_,_,_,s,_⟩:=h;exact s) ?_ ?_
  .clear Gx Gy Gz Gw nV hr;rintro i ao b4 hi ⟨xs,a8,a9,hY,lu,pu,i6,i7,i8,hM,rfl,cB,vz,vA,z5,s_,qK⟩;have ju:i<ws.length:=by rw[GM] at hi;exact hi
   have e3:(ws.map V.int).getD i .non= .int ws[i]:=by simp[List.getD,ju]
   have Px:=Pn _ (GE ju);have j9:=Zbo (rows:=ls) (ms:=ms) (fss:=fss) (pre:=[]) (ws:=ws.take i) (w:=ws[i]);have ta:=Zfi (rows:=ls) (ms:=ms) (fss:=fss) (ws:=ws.take (i+1)) (ws':=ws.drop (i+1)) (pre:=[]);rw[qbF,qac ju,j9,qag] at ta;rw[e3,qac ju,j9,List.nil_append];rw[List.nil_append] at ta;have V1:(ws.take i).length<=2000000:=by rw[qaI];omega
   have gF:=Paired.length qK;generalize codeL ls ms fss [] (ws.take i)=base at*;generalize ws.take i=pre at*;generalize ws[i]=w at*;clear e3 j9;obtain⟨c3,rfl⟩:=qaA Px.1;rw[GT] at ta|-;have z2:=mW (d:=V.non) (e:=([]:List ZX)) fD (i:=c3) ∅;have qG:=f8.2 c3 ∅;have z3:=qI _ (show fss.getD c3 []∈fss by rw[cL ∅];exact GE _);have z4:c3<d6.length:=by omega
   have Nk:atI d6 (c3:Int)=some (d6.getD c3 .non):=iT (by simp[List.getD,z4]);generalize d6.getD c3 .non=Gq at*;generalize fss.getD c3 []=fs at*;obtain⟨fS,qE,rfl,l3,sZ⟩:=z2;have V3:=Paired.length sZ;nofun;refine⟨qar _,λmc jQ=>?_⟩;have c8:Zd b4 (upd b4 mc (.lst [])):=cF jQ;have Py:(upd b4 mc (.lst [])) mc=some (.lst (([]:List Int).map V.int)):=Ze;generalize upd b4 mc (.lst [])=cZ at*;have nS:=(cB.trans c8) _ _ au;have Pz:=c8 _ _ vz;have PB:=c8 _ _ vA;have PD:=c8 _ _ z5;have PF:=c8 _ _ s_;have PH:=qK.keep λb xs e=>c8 _ _ e;have V4:H mc=none:=ft cB jQ;have PJ:=ZmA (pre:=pre) hD;have PL:=Zms (pre:=pre) hD;have lc:=cB.trans c8;have PM:mc≠ff:=qaY (dh vz jQ);have PN:mc≠cu:=qaY (dh s_ jQ);have PP:mc≠ce:=qaY (dh vA jQ);clear vz vA z5 s_ qK;nofun;refine Ym (H0:=k7 cZ b) (ki (xs:=bs) ?_) (λj=>CJ2 b c e f ff ce ba cu H c3 (gvL ls pre) (addU ls.length (tkF ls pre) (λi=>(ls.getD i dB).take) (jU ls c3 j)) (jr ms) xs base j (boxU ms (tkF ls pre) (λi=>(ls.getD i dB).take) (jU ls c3 j))) ⟨mc,[],_,_,_,_,_,_,_,rfl,lc,Pz,by rw[show jU ls c3 0=[] from rfl,uM];exact PB,PD,PF,PH,Py,PM,PN,PP,by simp,rfl⟩ (λj ao aj h=>Vb ?_) ?_ ?_
   .exact SqL.of (by rw[V7];exact nS)
   .obtain⟨_,_,_,_,_,_,_,_,_,_,s',_⟩:=h;rw[s' _ _ au,nS]
   .rintro j ao di v eJ bP ⟨sl,ss,hY,lu,pu,i6,i7,i8,hM,rfl,d5,z6,vB,z7,s5,z8,z9,z_,z',GC,hsz,ik⟩ ⟨t,bY,rfl,rfl⟩;have fc:j<ls.length:=by omega
    obtain⟨u,e9,he⟩:=c1.getD (i:=j) fc;rw[e9];refine Rd.Yv (.of Ze) rfl ?_;have d2:Zd di (upd di t (.tup [.int j,.ref u])):=cF bY;generalize upd di t (.tup [.int j,.ref u])=eJ at*;have mZ:=d5.trans d2;have ih:=mZ _ _ he;have md:=d2 _ _ z6;have m9:=d2 _ _ vB;have n3:=d2 _ _ z7;have j2:=d2 _ _ s5;have qL:=d2 _ _ z9;have j3:=z8.keep λb xs e=>d2 _ _ e;have PQ:=mZ.seq a_;rw[Zhg];have fY:=ZhP (ls:=ls) (w:=(c3:Int)) (j:=j);have zL:=ZcC (f:=tkF ls pre) (d:=λi=>(ls.getD i dB).take) fc fY;have fe:=Zbn (f:=tkF ls pre) (d:=λi=>(ls.getD i dB).take) fc fY;have sD:=Zbp (n:=ls.length) (f:=tkF ls pre) (d:=λi=>(ls.getD i dB).take) (is:=jU ls c3 j);have jw:boxU ms (tkF ls pre) (λi=>(ls.getD i dB).take) (jU ls c3 j++ [j])=ss++bxN ms j (tkF ls pre j) (ls.getD j dB).take.toNat:=by rw[Zas,ik]
    have jT:=hD _ (show ls.getD j dB∈ls by rw[cL fc];exact GE _);have cz:=PJ j fc;have PR:=kF _ (show ms.getD j 0∈ms by rw[cL ∅];exact GE _);have eZ:=Z1 (ns:=jr ms) (k:=(j:Int)) ∅ ∅;rw[GT,yh ∅] at eZ;have gV:=Z1 (ns:=ms) (k:=(j:Int)) ∅ ∅;rw[GT] at gV;have lW:=Z1 (ns:=addU ls.length (tkF ls pre) (λi=>(ls.getD i dB).take) (jU ls c3 j)) (k:=(j:Int)) ∅ ∅;rw[GT,zL] at lW;have PU:bxN ms j (tkF ls pre j) (ls.getD j dB).take.toNat=(List.range (ls.getD j dB).take.toNat).map λv:Nat=>firstL ms j+(tkF ls pre j+(v:Int)) % ms.getD j 0:=rfl;have pp:(bxN ms j (tkF ls pre j) (ls.getD j dB).take.toNat).length=(ls.getD j dB).take.toNat:=qd;have sN:0<ms.getD j 0/\(ms.getD j 0).natAbs.log2<9000:=⟨∅,iH ∅ ∅⟩;have MI:(j:Int)<(((addU ls.length (tkF ls pre) (λi=>(ls.getD i dB).take) (jU ls c3 j)).map V.int).length:Int):=by rw[GM];omega
    by_cases d:(ls.getD j dB).taker=(c3:Int)
    case neg=>
     rw[if_neg d,qbl];generalize ls.getD j dB=bb at*;dsimp only[B5.v] at ih;nofun;exact⟨sl,ss,_,_,_,_,_,_,_,rfl,mZ,md,m9,n3,j2,j3,qL,z_,z',GC,∅,ik⟩
    rw[if_pos d,jw,<-fe];clear fe jw;generalize PV:addU ls.length (tkF ls pre) (λi=>(ls.getD i dB).take) (jU ls c3 j)=tu at*;clear PV;generalize bxN ms j (tkF ls pre j) (ls.getD j dB).take.toNat=ns at*;generalize tkF ls pre j=fK at*;generalize firstL ms j=kG at*;generalize ms.getD j 0=dX at*;generalize ls.getD j dB=bb at*;have PX:=SqL.of (K:=K) m9;have PY:=SqL.of (K:=K) n3;dsimp only[B5.v] at ih;nofun;refine Yf Wf (jm ∅) (λ_=>true) (λv=> .int (kG+(fK+(v:Int)) % dX)) (λv aj cQ cz bI k=>?_) (λv aj cQ cz _ bI k=>?_) (λdA hj hra fE qH=>?_)
    .nofun;exact k aj (Zd.refl aj)
    .rw[qbb];have g1:=bI.seq PX;have g2:=bI.seq PY;have g3:=bI.seq PQ;nofun;exact k aj (Zd.refl aj)
    rw[qak.mpr (by simp)] at qH;have PZ:(List.range bb.take.toNat).map (λv:Nat=>V.int (kG+(fK+(v:Int)) % dX))=ns.map V.int:=by rw[PU,qaR];rfl
    rw[PZ] at qH;refine Rd.Zk8 (fE _ _ qL) qH (qbh (qa (by simp only[qag,GM];omega))) (λz bU=>?_);rw[<-qaF];have sz:Zd hj (upd hj z (.lst ((ss++ns).map V.int))):=cF bU;have P0:(upd hj z (.lst ((ss++ns).map V.int))) z=some (.lst ((ss++ns).map V.int)):=Ze;have pw:=fE.trans sz;have vC:=pw _ _ m9;have uY:=pw _ _ ih;have vD:=pw _ _ md;have Aa:=pw _ _ n3;have pr:=pw _ _ j2;have GD:z≠ce:=qaY (dh (fE _ _ m9) bU);have P1:z≠ff:=qaY (dh (fE _ _ md) bU);have P2:z≠cu:=qaY (dh (fE _ _ j2) bU);have m8:=j3.keep λb xs e=>pw _ _ e;generalize upd hj z (.lst ((ss++ns).map V.int))=gO at*;have V5:=SqL.of (K:=K) vC;have Ab:=mZ.trans pw;nofun;have vx:df [ce] gO (upd gO ce (.lst ((tu.set j (fK+bb.take)).map V.int))):=gy (by simp) vC (by intro _ z;cases z);rw[GT,<-qbc];exact⟨z,ss++ns,_,_,_,_,_,_,_,rfl,Ab.new Pw,(b3 s0).trans vD,Ze,(b3 (qaY Ps)).trans Aa,(b3 (qaY GB)).trans pr,m8.keep vx.tups,(b3 GD).trans P0,P1,P2,GD,by rw[qag];omega,rfl⟩
   .rintro ao di ⟨sl,ss,hY,lu,pu,i6,i7,i8,hM,rfl,d5,z6,vB,z7,s5,z8,z9,z_,z',GC,hsz,ik⟩;have gw:jU ls (c3:Int) ls.length=dz ls c3:=rfl;rw[ej,gw,Dz] at vB;rw[ej,gw] at ik;have V8:(ss.length:Int)=slotN ls c3:=by
     rw[ik,yj λi hi=>(hD _ (show ls.getD i dB∈ls by rw[cL (oW hi)];exact GE _)).2.2.1];unfold slotN takeRow;rw[qaR]
     rfl
    have GF:lQ ls ms pre c3 fs=List.zipWith (mkR ss) (boxU ms (gvF ls pre) (λi=>(ls.getD i dB).give) (gB ls c3 ls.length)) fs:=by rw[ik];rfl
    have GG:=DI (ms:=ms) (pre:=pre) (w:=(c3:Int)) hD;have GH:se ls ms pre c3=boxU ms (gvF ls pre) (λi=>(ls.getD i dB).give) (gB ls c3 ls.length):=rfl;rw[GH] at GG;rw[GF] at ta|-;rw[qbZ] at ta;have V_:=qG.1;have y0:=d5 _ _ au;clear ik GF GH;nofun;refine Ym (H0:=k7 di b) (ki (xs:=bs) ?_) (λj=>CJ3 b c e f ff ce ba cu H c3 sl ss fs base (addU ls.length (gvF ls pre) (λi=>(ls.getD i dB).give) (gB ls c3 j)) (tkL ls (pre++ [(c3:Int)])) (jr ms) (boxU ms (gvF ls pre) (λi=>(ls.getD i dB).give) (gB ls c3 j))) ⟨[],xs,_,_,_,_,_,_,rfl,d5,by rw[show gB ls c3 0=[] from rfl,uM];exact z6,vB,z7,s5,by simpa using z8,z9,rfl⟩ (λj ao aj h=>Vb ?_) ?_ ?_
    .exact SqL.of (by rw[V7];exact y0)
    .obtain⟨_,_,_,_,_,_,_,_,_,s',_⟩:=h;rw[s' _ _ au,y0]
    .rintro j ao eJ v hj bP ⟨us,ys,hY,lu,i6,i7,i8,hM,rfl,d2,md,m9,n3,j2,j3,qL,j1⟩ ⟨t,bY,rfl,rfl⟩;have fc:j<ls.length:=by omega
     obtain⟨u,e9,he⟩:=c1.getD (i:=j) fc;rw[e9];refine Rd.Yv (.of Ze) rfl ?_;have fE:Zd eJ (upd eJ t (.tup [.int j,.ref u])):=cF bY;generalize upd eJ t (.tup [.int j,.ref u])=hj at*;have px:=d2.trans fE;have ih:=px _ _ he;have vD:=fE _ _ md;have vC:=fE _ _ m9;have Aa:=fE _ _ n3;have pr:=fE _ _ j2;have P4:=fE _ _ qL;have m8:=j3.keep λb xs e=>fE _ _ e;clear md m9 n3 j2 qL j3 d2 fE;rw[Zb0];have fY:=ZhH (ls:=ls) (w:=(c3:Int)) (j:=j);have zO:=ZcC (f:=gvF ls pre) (d:=λi=>(ls.getD i dB).give) fc fY;have fe:=Zbn (f:=gvF ls pre) (d:=λi=>(ls.getD i dB).give) fc fY;have sD:=Zbp (n:=ls.length) (f:=gvF ls pre) (d:=λi=>(ls.getD i dB).give) (is:=gB ls c3 j);have jw:boxU ms (gvF ls pre) (λi=>(ls.getD i dB).give) (gB ls c3 j++ [j])=us++bxN ms j (gvF ls pre j) (ls.getD j dB).give.toNat:=by rw[Zas,j1]
     have jT:=hD _ (show ls.getD j dB∈ls by rw[cL fc];exact GE _);have cz:=PL j fc;have PR:=kF _ (show ms.getD j 0∈ms by rw[cL ∅];exact GE _);have eZ:=Z1 (ns:=jr ms) (k:=(j:Int)) ∅ ∅;rw[GT,yh ∅] at eZ;have gV:=Z1 (ns:=ms) (k:=(j:Int)) ∅ ∅;rw[GT] at gV;have kA:(ls.getD j dB).giver=(c3:Int)->us.length+(ls.getD j dB).give.toNat<=fs.length:=λd=>by
      have ay:=Zfs (ls:=ls) (ms:=ms) (f:=gvF ls pre) (d:=λi=>(ls.getD i dB).give) (w:=(c3:Int)) (j:=j+1) (k:=ls.length) ∅;rw[Zb0,if_pos d,jw,qag,qd] at ay;omega
     have P5:us.length<=fs.length:=by
      have ay:=Zfs (ls:=ls) (ms:=ms) (f:=gvF ls pre) (d:=λi=>(ls.getD i dB).give) (w:=(c3:Int)) (j:=j) (k:=ls.length) ∅;rw[<-j1] at ay;omega
     have GI:∀m,bxN ms j (gvF ls pre j) (m+1)=bxN ms j (gvF ls pre j) m++ [firstL ms j+(gvF ls pre j+(m:Int)) % ms.getD j 0]:=λm=>Zlw;have GJ:∀m,(bxN ms j (gvF ls pre j) m).length=m:=λm=>qd;have sN:0<ms.getD j 0/\(ms.getD j 0).natAbs.log2<9000:=⟨∅,iH ∅ ∅⟩;have nT:bxN ms j (gvF ls pre j) 0=[]:=rfl;have gh:∀l∈[addU ls.length (gvF ls pre) (λi=>(ls.getD i dB).give) (gB ls c3 j)],l.set j (gvF ls pre j)=l:=λl ap=>by
      rw[qab.mp ap];refine qaE (by simp) λk ay aD=>?_;rw[qbB]
      split
      .next z=>subst z;rw[<-zO,cL aD]
      .rfl
     have gh:=gh _ (qab.mpr rfl);have GK:∀n:Nat,((ls.getD j dB).giver=(c3:Int)->n=(ls.getD j dB).give.toNat)->(¬(ls.getD j dB).giver=(c3:Int)->n=0)->(addU ls.length (gvF ls pre) (λi=>(ls.getD i dB).give) (gB ls c3 j)).set j (gvF ls pre j+(n:Int))=addU ls.length (gvF ls pre) (λi=>(ls.getD i dB).give) (gB ls c3 j++if(ls.getD j dB).giver=(c3:Int) then[j] else[])/\us++bxN ms j (gvF ls pre j) n=boxU ms (gvF ls pre) (λi=>(ls.getD i dB).give) (gB ls c3 j++if(ls.getD j dB).giver=(c3:Int) then[j] else[]):=λn eK kr=>by
      by_cases d:(ls.getD j dB).giver=(c3:Int)
      .rw[if_pos d,jw,<-fe,eK d,qaB jT.1];exact⟨rfl,rfl⟩
      .rw[if_neg d,qbl,kr d,nT,qbl,<-j1];exact⟨by simpa using gh,rfl⟩
     clear fe jw;generalize addU ls.length (gvF ls pre) (λi=>(ls.getD i dB).give) (gB ls c3 j++if(ls.getD j dB).giver=(c3:Int) then[j] else[])=AU at*;generalize boxU ms (gvF ls pre) (λi=>(ls.getD i dB).give) (gB ls c3 j++if(ls.getD j dB).giver=(c3:Int) then[j] else[])=P6 at*;clear j1;generalize addU ls.length (gvF ls pre) (λi=>(ls.getD i dB).give) (gB ls c3 j)=gu at*;generalize V':bxN ms j (gvF ls pre j)=bn at*;generalize gvF ls pre j=gG at*;generalize firstL ms j=kG at*;generalize ms.getD j 0=dX at*;obtain⟨x,ar,kj,tb⟩:∃x:Int,(if decide ((ls.getD j dB).giver=(c3:Int))=true then(1:Int) else 0)=x/\((ls.getD j dB).giver=(c3:Int)->x=1)/\(¬(ls.getD j dB).giver=(c3:Int)->x=0):=⟨_,rfl,λd=>by rw[decide_eq_true d];rfl,λd=>by rw[decide_eq_false d];rfl⟩;have Wa:0<=x/\x<=1:=by
      by_cases d:(ls.getD j dB).giver=(c3:Int)
      .rw[kj d];omega
      .rw[tb d];omega
     have P7:0<(ls.getD j dB).give*x->(ls.getD j dB).giver=(c3:Int):=λy=>by
      by_cases d:(ls.getD j dB).giver=(c3:Int)
      .exact d
      .rw[tb d,Int.mul_zero] at y;omega
     have lR:IntMulOk (ls.getD j dB).give x:=mulI (n:=10) (m:=10) ∅ ∅ (by decide);have pd:=GK ((ls.getD j dB).give*x).toNat (λd=>by rw[kj d,Int.mul_one]) (λd=>by rw[tb d,Int.mul_zero];rfl);have P8:hj ff=some (.lst ((gu.set j (gG+((0:Nat):Int))).map V.int)):=by rw[show gG+((0:Nat):Int)=gG by omega,gh];exact vD
     have pp:us.length+((ls.getD j dB).give*x).toNat<=fs.length:=by
      by_cases d:(ls.getD j dB).giver=(c3:Int)
      .rw[kj d,Int.mul_one];exact kA d
      .rw[tb d,Int.mul_zero];exact P5
     clear GK kA P7 gh vD kj tb;generalize nq:ls.getD j dB=bb at*;dsimp only[B5.v] at ih;nofun;refine .inr ⟨_,rfl,?_⟩;rw[ar];nofun;generalize bb.give*x=pa at*;refine YT (n:=pa.toNat) (λk=>CJ4 b c e f ff ce ba cu H c3 j sl u ss (gu.set j (gG+(k:Int))) (tkL ls (pre++ [(c3:Int)])) (jr ms) (us++bn k).length (base++List.zipWith (mkR ss) (us++bn k) (fs.take (us++bn k).length))) ⟨ys,_,_,_,_,by rw[nT,qbl],px,P8,vC,Aa,pr,by rw[nT,qbl];exact m8,P4⟩ ?_ ?_
     .rintro k ao gO bH ⟨ys,i6,i7,i8,hM,rfl,sa,tc,Ac,vE,ps,qM,vF⟩;have iL:(us++bn k).length=us.length+k:=by rw[qag,GJ]
      have hn:us.length+k<fs.length:=by omega
      obtain⟨GL,hI,fG,Ad,P9,qn,vo⟩:=mW (d:=V.non) (e:=((0,[]):ZX)) sZ hn;have lY:fs.getD (us.length+k) (0,[])∈fs:=by rw[cL hn];exact GE _
      have P_:=qG.2 _ lY;have nj:=z3.2 _ lY;have P':us.length+k<qE.length:=by omega
      have Qa:atI qE ((us.length+k:Nat):Int)=some (.ref GL):=iT (by rw[<-Ad];simp[List.getD,P']);have GN:=Zlr (ss:=ss) (us:=us++bn k) (u:=kG+(gG+(k:Int)) % dX) (fs:=fs) iL hn;have bJ:us++bn (k+1)=(us++bn k)++ [kG+(gG+(k:Int)) % dX]:=by rw[GI,qbp]
      have bX:((us++bn k)++ [kG+(gG+(k:Int)) % dX]).length=us.length+k+1:=by rw[qag,iL];rfl
      rw[bJ,bX,GN,iL];rw[iL] at qM;have hR:(gu.set j (gG+(k:Int))).length=ls.length:=by rw[qaP];exact sD
      have lW:=Z1 (ns:=gu.set j (gG+(k:Int))) (k:=(j:Int)) ∅ ∅;rw[GT,cL (show j<(gu.set j (gG+(k:Int))).length by omega),List.getElem_set_self] at lW;have Qb:(gu.set j (gG+(k:Int))).set j (gG+(k:Int)+1)=gu.set j (gG+((k+1:Nat):Int)):=by rw[List.set_set,show gG+(k:Int)+1=gG+((k+1:Nat):Int) by omega]
      have MF:(j:Int)<(((gu.set j (gG+(k:Int))).map V.int).length:Int):=by rw[GM];omega
      have o5:=Paired.length qM;have Me:ys.length<sizeLine:=qa (by rw[o5,qag,qbZ,qaI];omega);clear GN bJ bX GI GJ;generalize fs.getD (us.length+k) (0,[])=i4 at*;generalize us.length+k=at_ at*;generalize List.zipWith (mkR ss) (us++bn k) (fs.take at_)=Qc at*;generalize gu.set j (gG+(k:Int))=g3 at*;have Qd:=SqL.of (K:=K) tc;have Qe:=SqL.of (K:=K) vE;have Qf:=SqL.of (K:=K) vF;have Qg:=sa.seq a_;have Wb:=sa.seq bS;have Qh:=sa _ _ l3;have Qi:=sa _ _ P9;have GO:=SqT.of (K:=K) (sa _ _ qn);have ia:=vo.length;nofun;refine Rd.Znx (.of Qh) Qa ?_;refine Rd.Yv (.of Qi) rfl ?_;nofun;unfold oc;nofun;refine⟨hI,rfl,⟨_,GO⟩,?_⟩;refine Z2 (own:=2) (rE GO).y (jm ∅) (λi=>[some (.int (i4.2.getD i (0,0)).1),some (.int (i4.2.getD i (0,0)).2)]) (λ_=>rfl) (λ_=>true) (λi v aP=>∃u,v= .ref u/\aP u=some (.tup [.int (ss.getD (i4.2.getD i (0,0)).1.toNat 0),.int (i4.2.getD i (0,0)).2])) (λ_ _ _ _ e ⟨u,cK,cO⟩=>⟨u,cK,e _ _ cO⟩) (λi c6 aj v b5 f7 hi bI y em k=>?_) (λi aj cQ hi bI k=>?_) (λhJ i aj cQ hi gR hp0 fP bI k=>?_) (λdd lr zs hdd bI eu db=>?_)
      .obtain⟨rfl,rfl⟩:=y;obtain⟨x1,x2,rfl⟩:∃x1 x2,c6=[x1,x2]:=by
        match c6,em with
        | [x1,x2],_=>exact⟨x1,x2,rfl⟩
       obtain⟨t,dt,bY⟩:=vo.getD (i:=i) ∅;rw[dt];refine Rd.Yv (.of (bI _ _ (sa _ _ bY))) rfl ?_;nofun;exact k _ (Zd.refl _)
      .nofun;exact k aj (Zd.refl aj)
      .have km:=P_ _ (show i4.2.getD i (0,0)∈i4.2 by rw[cL ∅];exact GE _);have eo:=bI.seq Qf;generalize i4.2.getD i (0,0)=f0 at*;have Wc:=Z1 (ns:=ss) (k:=f0.1) km.1 ∅;nofun;refine⟨by show 2<=sizeLine;decide,λu e8=>?_⟩;exact k _ _ (cF e8) ⟨u,rfl,tZ fP e8⟩
      rw[qak.mpr (by simp),ia] at db;have Qj:=ZfV db;nofun;refine⟨dd,_,rfl,.inl ⟨.of eu,λl r6=>?_⟩⟩;have cf:Zd lr (upd lr l (.tup zs)):=cF r6;have vc:(upd lr l (.tup zs)) l=some (.tup zs):=Ze;generalize upd lr l (.tup zs)=Hc at*;have td:=bI.trans cf;have vG:=td.seq Qd;have We:=td.seq Qe;have n7:=td.seq Qg;have Wh:=td _ _ ps;nofun;refine⟨by show 3<=sizeLine;decide,λz bU=>?_⟩;have m_:Zd Hc (upd Hc z (.tup [.int (kG+(gG+(k:Int)) % dX),.int i4.1,.ref l])):=cF bU;have vH:(upd Hc z (.tup [.int (kG+(gG+(k:Int)) % dX),.int i4.1,.ref l])) z=some (.tup [.int (kG+(gG+(k:Int)) % dX),.int i4.1,.ref l]):=Ze;generalize upd Hc z (.tup [.int (kG+(gG+(k:Int)) % dX),.int i4.1,.ref l])=Hd at*;have pz:=td.trans m_;have Qk:=pz _ _ ps;have Ql:k8 Hd (.ref z) (mkR ss (kG+(gG+(k:Int)) % dX) i4):=⟨z,l,zs,rfl,vH,m_ _ _ vc,Qj.keep λb xs e=>m_ _ _ (cf _ _ e)⟩;have Qm:hp Hd (ys++ [.ref z]) (base++(Qc++ [mkR ss (kG+(gG+(k:Int)) % dX) i4])):=by
       rw[<-qbp];exact(qM.keep λb xs e=>pz _ _ e).append (.cons Ql .nil)
      have Qn:df [cu] Hd (upd Hd cu (.lst (ys++ [.ref z]))):=gy (by simp) Qk (by intro _ z;cases z);have GP:(upd Hd cu (.lst (ys++ [.ref z]))) ff=some (.lst (g3.map V.int)):=(b3 GA).trans (pz _ _ tc);have Qo:(upd Hd cu (.lst (ys++ [.ref z]))) ce=_:=(b3 GB).trans (pz _ _ Ac);have Qp:(upd Hd cu (.lst (ys++ [.ref z]))) ba=_:=(b3 Pu).trans (pz _ _ vE);have Qq:(upd Hd cu (.lst (ys++ [.ref z]))) sl=_:=(b3 z').trans (pz _ _ vF);have Qr:(upd Hd cu (.lst (ys++ [.ref z]))) cu=some (.lst (ys++ [.ref z])):=Ze;have Qs:=Qm.keep Qn.tups;have Qt:Zd H (upd Hd cu (.lst (ys++ [.ref z]))):=(sa.trans pz).new s6;nofun;generalize upd Hd cu (.lst (ys++ [.ref z]))=He at*;have Wi:=SqL.of (K:=K) GP;nofun;have frf:df [ff] He (upd He ff (.lst ((g3.set j (gG+(k:Int)+1)).map V.int))):=gy (by simp) GP (by intro _ z;cases z);rw[GT,<-qbc];rw[Qb] at frf|-;exact⟨ys++ [.ref z],_,_,_,_,rfl,Qt.new hgi,Ze,(b3 (qaY s0)).trans Qo,(b3 (qaY Pr)).trans Qp,(b3 (qaY GA)).trans Qr,Qs.keep frf.tups,(b3 z_).trans Qq⟩
     .rintro ao gO ⟨ys,i6,i7,i8,hM,rfl,sa,tc,Ac,vE,ps,qM,vF⟩;rw[pd.1] at tc;rw[pd.2] at qM|-;nofun;exact⟨P6,ys,_,_,_,_,_,_,rfl,sa,tc,Ac,vE,ps,qM,vF,rfl⟩
    .rintro ao eJ ⟨us,ys,hY,lu,i6,i7,i8,hM,rfl,d2,md,m9,n3,j2,j3,qL,j1⟩;have bJ:gB ls (c3:Int) ls.length=dR ls c3:=rfl;rw[ej] at md j1;rw[bJ,DB] at md;rw[<-j1] at GG|-;have Qu:fs.take us.length=fs:=qa2 ∅;rw[Qu] at j3;nofun;exact⟨ys,_,_,_,_,_,_,_,_,_,rfl,d2,md,m9,n3,j2,j3⟩
  .rintro ao b4 ⟨xs,a8,a9,hY,lu,pu,i6,i7,i8,hM,rfl,cB,vz,vA,z5,s_,qK⟩;rw[GM,qaO] at qK;nofun;exact q cu b4 xs s6 cB s_ qK
inductive GQ(T:Tp K mg)(vs:List V)(H:Hp)(Q:VK)(cR:XK):Prop
 |mk (a:Int) (de:vs=[.int a]) (cK:∀aj,Zd H aj->Q (.bl true) aj):GQ T vs H Q cR
theorem Qv:OkN P w base 12 T.bA (GQ T):=by
 have u6:YE P w K mg base (CXX P w) 11 T.w T.x ["self","giver","taker","give","take","start"] (sB T):=(El T).mono (by decide);have gf:=T.a;have gg:=T.c;refine T.bA.F.okX r0 (by walk_at "l") (λcD A outer s H vs Q E aC h=>?_)
 .have hu:=aC.hu;obtain⟨a,rfl,q⟩:=h;refine⟨_,(bN %[cA,1,r0.nd,w3 T.aG (yQ T) aC T.ae cG|1]
     (bN (dO (dW (jh (K:=K) rfl hu) (c2 T.aV (Gk T) aC cG %[1,fA bG,fA bG,fA bG|2]) (fz %[bM,fA bG|2]) (dD _)) (b0 (c9 Wr)) dV)
     (bN (et (hB (pv 1) T.a T.aF (yM T) aC cG %[Yo|2]))
     (bN (et (tA (pv 1) T.a T.y u6 aC T.z .nil cG %[bM,bM,bM,bM,bM|2]))
     (bN (et (tA (pv 1) T.a T.y u6 aC T.z .nil cG %[bM,bM,bM,bM,bM|2]))
     (bN %[cA,2,r0.nd,%[fA %[bM,bM,bM|2],cm eI (pv 0) bM|0]|1]
     (bN (hN (c2 T.aW (Gu T) aC cG %[1,fA %[2,bM|2],fA %[bM|2],fA %[fz %[fz %[cm eI (pv 0) bM,fz %[fz %[bM,bM|2]|2]|2],fz %[bM,fz %[fz %[bM,bM|2]|2]|2]|2]|2]|2]) (e7 (K:=K) (n:=2) rfl rfl (c_ %[cr,3,r0.nd|1] (c_ %[cr,4,r0.nd|1] e0))))
     (bN (dO (dW mw (pv 2) bM (dD _)) (b0 (c9 (pv 4))) dV)
     (b0 (c9 (qV (AE (pv 4)) (qV (lA (gS (K:=K) rfl hu) %[3,bM|0] (pv 2) (dD _)) (tv (lA (gS (K:=K) rfl hu) (dk (fb K) (by rfl) T.f qal %[%[3,bM|0]|2]) (cm fh bM (pv 2)) (dD _))))))))))))))),?_⟩
  walk_at "a"
  nofun;intro bO fp aA b8 bS a';nofun;refine⟨qar _,λc a_=>?_⟩;have bQ:Zd aA (upd aA c (.lst [])):=cF a_;have nA:(upd aA c (.lst [])) c=some (.lst (([]:List Int).map V.int)):=Ze;generalize upd aA c (.lst [])=aP at*;nofun;refine⟨qar _,λe b9=>?_⟩;have bV:Zd aP (upd aP e (.lst [])):=cF b9;have lT:(upd aP e (.lst [])) e=some (.lst (([]:List Int).map V.int)):=Ze;generalize upd aP e (.lst [])=b5 at*;nofun;refine⟨qar _,λf si=>?_⟩;have cd:Zd b5 (upd b5 f (.lst [])):=cF si;have vp:(upd b5 f (.lst [])) f=some (.lst []):=Ze;generalize upd b5 f (.lst [])=bZ at*;have qD:=(bQ.trans bV).trans cd;nofun;refine⟨bO,c,e,f,⟨[],[]⟩,fp,[],[],[],[],[],λ_=>1,rfl,b8.same qD,LR,(bV.trans cd) _ _ nA,by simp,cd _ _ lT,by simp,.of vp,.nil,by simp,(by intro x ar;cases ar),⟨rfl,λi hi=>absurd hi (by simp)⟩,⟨λ_=>by decide,λi hi=>absurd hi (by simp)⟩,λrs' db=>qca.mp db.len,by decide,⟨rfl,λi hi=>absurd hi (by simp)⟩,⟨by simp,rfl,_,rfl⟩,λy=>absurd y (by decide),λ_ u r b4 xs _ cB e8 hL _ gF=>?_⟩;obtain rfl:xs=[]:=qca.mp (by have:(xs.length:Int)=0:=gF.trans (by decide);omega);clear gF;nofun;refine⟨qar _,λg bR=>?_⟩;have c8:Zd b4 (upd b4 g (.lst [])):=cF bR;have uT:(upd b4 g (.lst [])) g=some (.lst []):=Ze;generalize upd b4 g (.lst [])=cZ at*;nofun;refine⟨by show 2<=sizeLine;decide,λg2 l_=>?_⟩;have d5:Zd cZ (upd cZ g2 (.tup [.int 1,.ref g])):=cF l_;have o7:(upd cZ g2 (.tup [.int 1,.ref g])) g2=some (.tup [.int 1,.ref g]):=Ze;generalize upd cZ g2 (.tup [.int 1,.ref g])=di at*;have vI:=c8.trans d5;have Ae:(PyData.tuple [.int 1,.list []]).canLay0=true:=by decide
  refine Rd.ZiM (dx:= .tuple [.int 1,.list []]) (dy:= .tuple [.int 1,.list []]) (.tup (.of (vI _ _ e8)) (.cons (.int _) (.cons (.lst (.of (vI _ _ hL)) .nil) .nil))) (.tup (.of o7) (.cons (.int _) (.cons (.lst (.of (d5 _ _ uT)) .nil) .nil))) Ae Ae (by decide) ?_;rw[SeqAt.eqv_refl _ Ae];have Af:=(qD.trans cB).trans vI;have u1:=a'.trans Af;have vt:=b8.same Af;clear e8 hL uT o7 nA lT vp c8 d5 vI cB qD bQ bV cd b8;nofun;refine U6 vt (by decide+kernel) (by simp) (by decide) (λeJ fp8 hh8 ie GR=>?_);obtain⟨mZ,qx⟩:=VM u1 bS ie GR;nofun;refine Zaj hh8 (by decide) (by decide) (by decide) (by decide) (by decide) (by decide) (by decide) (by decide) (λhj fp9 vu l7 GS=>?_);obtain⟨px,sP⟩:=VM mZ qx l7 GS;nofun;refine Zaj vu (by decide) (by decide) (by decide) (by decide) (by decide) (by decide) (by decide) (by decide) (λgO Qw hha fra GU=>?_);obtain⟨Ab,l3⟩:=VM px sP fra GU;clear vt hh8 vu ie l7 fra GR GS GU u1 Af mZ px bS qx sP;nofun;refine⟨by show 3<=sizeLine;decide,λiA e9=>?_⟩;have iQ:Zd gO (upd gO iA (.lst [.int 1498,.int 1500,.int 1501])):=cF e9;have GV:(upd gO iA (.lst [.int 1498,.int 1500,.int 1501])) iA=some (.lst (([1498,1500,1501]:List Int).map V.int)):=Ze;generalize upd gO iA (.lst [.int 1498,.int 1500,.int 1501])=lr at*;have eZ:=Z1 (ns:=[1498,1500,1501]) (k:=a % 3) ∅ (by show _<(3:Int);omega);have bL:([1498,1500,1501]:List Int).getD (a % 3).toNat 0=1498\/([1498,1500,1501]:List Int).getD (a % 3).toNat 0=1500\/([1498,1500,1501]:List Int).getD (a % 3).toNat 0=1501:=by
   rcases(show(a % 3).toNat=0\/(a % 3).toNat=1\/(a % 3).toNat=2 by omega) with e|e|e<;>rw[e]
   .exact .inl rfl
   .exact .inr (.inl rfl)
   .exact .inr (.inr rfl)
  generalize ([1498,1500,1501]:List Int).getD (a % 3).toNat 0=m at*;have Qx:=SqL.of (K:=K) GV;nofun;refine⟨by show 2<=sizeLine;decide,λe6 hQ=>?_⟩;have cf:Zd lr (upd lr e6 (.lst [.int m,.int 2])):=cF hQ;have vc:(upd lr e6 (.lst [.int m,.int 2])) e6=some (.lst ([m,2].map V.int)):=Ze;generalize upd lr e6 (.lst [.int m,.int 2])=Hc at*;nofun;intro bX oz;have m_:Zd Hc (upd Hc bX (.lst [.int 0])):=cF oz;have vH:(upd Hc bX (.lst [.int 0])) bX=some (.lst (([0]:List Int).map V.int)):=Ze;generalize upd Hc bX (.lst [.int 0])=Hd at*;nofun;refine⟨by show 2<=sizeLine;decide,λiJ eC=>?_⟩;have vJ:Zd Hd (upd Hd iJ (.tup [.int 0,.int 1])):=cF eC;have GW:(upd Hd iJ (.tup [.int 0,.int 1])) iJ=some (.tup [.int 0,.int 1]):=Ze;generalize upd Hd iJ (.tup [.int 0,.int 1])=J1 at*;nofun;intro d9 dJ;have jE:Zd J1 (upd J1 d9 (.tup [.ref iJ])):=cF dJ;have GX:(upd J1 d9 (.tup [.ref iJ])) d9=some (.tup [.ref iJ]):=Ze;generalize upd J1 d9 (.tup [.ref iJ])=eP at*;nofun;refine⟨by show 2<=sizeLine;decide,λij fu=>?_⟩;have jF:Zd eP (upd eP ij (.tup [.int (a % 5),.ref d9])):=cF fu;have GY:(upd eP ij (.tup [.int (a % 5),.ref d9])) ij=some (.tup [.int (a % 5),.ref d9]):=Ze;generalize upd eP ij (.tup [.int (a % 5),.ref d9])=iD at*;nofun;refine⟨by show 2<=sizeLine;decide,λlm gD=>?_⟩;have GZ:Zd iD (upd iD lm (.tup [.int 1,.int 1])):=cF gD;have G0:(upd iD lm (.tup [.int 1,.int 1])) lm=some (.tup [.int 1,.int 1]):=Ze;generalize upd iD lm (.tup [.int 1,.int 1])=oJ at*;nofun;intro m' o4;have jG:Zd oJ (upd oJ m' (.tup [.ref lm])):=cF o4;have G1:(upd oJ m' (.tup [.ref lm])) m'=some (.tup [.ref lm]):=Ze;generalize upd oJ m' (.tup [.ref lm])=J5 at*;nofun;refine⟨by show 2<=sizeLine;decide,λna qr=>?_⟩;have vK:Zd J5 (upd J5 na (.tup [.int 7,.ref m'])):=cF qr;have G3:(upd J5 na (.tup [.int 7,.ref m'])) na=some (.tup [.int 7,.ref m']):=Ze;generalize upd J5 na (.tup [.int 7,.ref m'])=J6 at*;nofun;refine⟨by show 2<=sizeLine;decide,λlv Qy=>?_⟩;have jL:Zd J6 (upd J6 lv (.tup [.ref ij,.ref na])):=cF Qy;have G4:(upd J6 lv (.tup [.ref ij,.ref na])) lv=some (.tup [.ref ij,.ref na]):=Ze;generalize upd J6 lv (.tup [.ref ij,.ref na])=te at*;nofun;intro pb yE;have qN:Zd te (upd te pb (.lst [.ref lv])):=cF yE;have Qz:(upd te pb (.lst [.ref lv])) pb=some (.lst [.ref lv]):=Ze;generalize upd te pb (.lst [.ref lv])=J8 at*;nofun;have G5:∀b xs,te b=some (.tup xs)->J8 b=some (.tup xs):=λb xs e=>qN _ _ e;have tx:=G5 _ _ G4;have G6:=qN _ _ (jL _ _ G3);have pR:=qN _ _ (jL _ _ (vK _ _ G1));have G7:=qN _ _ (jL _ _ (vK _ _ (jG _ _ G0)));have tf:=((((GZ.trans jG).trans vK).trans jL).trans qN);have lz:=tf _ _ GY;have j6:=tf _ _ (jF _ _ GX);have eL:=tf _ _ (jF _ _ (jE _ _ GW));have vL:=((vJ.trans jE).trans jF).trans tf;have QA:jq J8 [.ref lv] [[(a % 5,[(0,1)]),(7,[(1,1)])]]:= .cons ⟨lv,_,rfl,tx,.cons ⟨ij,d9,_,rfl,lz,j6,.cons ⟨iJ,rfl,eL⟩ .nil⟩ (.cons ⟨na,m',_,rfl,G6,pR,.cons ⟨lm,rfl,G7⟩ .nil⟩ .nil)⟩ .nil;have G8:=(cf.trans m_).trans vL;have QB:=(hha.same iQ).same G8;have G9:=((Ab.trans iQ).trans G8);have QC:=(m_.trans vL) _ _ vc;have QD:=vL _ _ vH;clear eL j6 lz G7 pR G6 tx G5 vJ jE jF GZ jG vK jL qN GW GX GY G0 G1 G3 G4 tf vL GV Qx vc vH eZ;have G_:=ZjS bL;refine⟨bO,e6,bX,pb,⟨["bound"],[bB,bB]⟩,Qw,[m,2],[1],[0],[.ref lv],[[(a % 5,[(0,1)]),(7,[(1,1)])]],λ_=>1,rfl,QB,LQ,QC,λx ar=>(by simp at ar;omega),QD,by decide,.of Qz,QA,by simp,λfs vv=>(by obtain rfl:=qab.mp vv;exact⟨by simp,λf bS=>by simp at bS;rcases bS with rfl|rfl<;>simp⟩),LS,⟨λ_=>by decide,λi hi=>(by rcases(show i=0\/i=1 by simp at hi;omega) with rfl|rfl<;>rfl)⟩,λrs' db=>ZhI db,by decide,G_.1,G_.2,λy t aj s bY=>?_,λy t u r aj xs s bY e8 hL _ gF=>?_⟩
  .rcases Zd1 bL with⟨e,_⟩|⟨_,z,_⟩
   .subst e;refine Rd.Yv (.of bY) rfl ?_;nofun;exact q aj (G9.trans s)
   .exact absurd y z
  .rcases Zd1 bL with⟨_,z⟩|⟨e,_,bJ,bX⟩
   .exact absurd z y
   .rw[bJ] at e8 gF;rw[bX] at gF;refine Rd.Yv (.of bY) rfl ?_;have Wj:=SqL.of (K:=K) hL;nofun;rw[decide_eq_true (show(xs.length:Int)=2*m by omega)];exact q aj (G9.trans s)
inductive G'(T:Tp K mg)(vs:List V)(H:Hp)(Q:VK)(cR:XK):Prop
 |mk (c:Int) (m:Nat) (de:vs=[.int c,.int m]) (cK:m<=8) (cO:∀(r:Addr)(aj:Hp)(dg:List Str),H r=none->Zd H aj->aj r=some (.lst (dg.map V.str))->(∀n∈dg,hU n=true)->dg.Nodup->dg.length=m->(∃eT:Nat,∀n∈dg,n.length=eT)->Q (.ref r) aj):G' T vs H Q cR
theorem QE:OkN P w base 1 T.bB (G' T):=by
 refine T.bB.F.okX kX (by walk_at "l") (λcD A outer s H vs Q E aC h=>?_)
 .have hu:=aC.hu;obtain⟨c,m,rfl,bL,q⟩:=h;have al:=Lz;refine⟨_,(bN %[cA,2,kX.nd,Yo|1]
     (bN %[cA,3,kX.nd,cm (eX K) bM (cm eI (pv 0) bM)|1]
     (bN %[cA,4,kX.nd,cm eI (cm fo (pv 0) bM) (pv 3)|1]
     (bN %[cA,5,kX.nd,fA bG|1]
     (bN (d4 PassesOwn.leaving rfl (g4 rfl T.h %[1|2]) %[cr,6,kX.nd|1] (bN %[cA,7,kX.nd,Yo|1]
     (bN (d4 PassesOwn.leaving rfl (g4 rfl T.h %[3|2]) %[cr,8,kX.nd|1] (bN %[cA,9,kX.nd,cm fo (pv 0) (cm (eX K) bM (pv 8))|1]
     (bN (tO (dO (dW (gS (K:=K) rfl hu) (pv 8) (pv 4) (dD _)) (b0 %[cA,9,kX.nd,cm (eX K) (cm fo (pv 0) bM) (cm fh bM (pv 6))|1]) dV))
     (b0 %[cA,7,kX.nd,cm (eX K) (pv 7) %[2,cm eI (pv 9) bM|0]|1]))))
     (b0 (et (hA (K:=K) rfl qan qay qaz iy (pv 5) %[7|2]))))))
     (b0 (c9 (pv 5)))))))),?_⟩
  walk_at "a"
  have gC:0<1+c % 8:=by omega
  nofun;have a0:=qa5 (c / 8) (show 1+c % 8≠0 by omega);have a1:=qa3 (c / 8) gC;generalize c / 8 % (1+c % 8)=at_ at*;obtain⟨eT,QF⟩:∃l:Nat,1+c % 8=(l:Int):=⟨(1+c % 8).toNat,∅⟩;rw[QF] at a1|-;have QG:1<=eT:=by omega
  have QH:eT<=8:=by omega
  refine⟨qar _,λr aC=>?_⟩;have a':Zd H (upd H r (.lst [])):=cF aC;have jl:(upd H r (.lst [])) r=some (.lst (([]:List Str).map V.str)):=Ze;generalize upd H r (.lst [])=aA at*;nofun;refine YT (n:=m) (λi ao aj=>∃(dg:List Str)(a6 a7 a8 a9:Option V),ao=[some (.int c),some (.int m),some (.str "abcdefghijklmnopqrstuvwxyz"),some (.int eT),some (.int at_),some (.ref r),a6,a7,a8,a9]/\Zd H aj/\aj r=some (.lst (dg.map V.str))/\dg.length=i/\ZaX c at_ eT dg) ⟨[],_,_,_,_,rfl,a',jl,rfl,⟨λk x e=>by simp at e⟩⟩ ?_ ?_
  .rintro i ao aP hi ⟨dg,a6,a7,a8,a9,rfl,bQ,gd,iz,kL⟩;have bU:(dg.map V.str).length<sizeLine:=ed (by rw[GM];omega);nofun;refine YT (n:=eT) (λj ao aj=>aj=aP/\∃(w:Str)(a8 a9:Option V),ao=[some (.int c),some (.int m),some (.str "abcdefghijklmnopqrstuvwxyz"),some (.int eT),some (.int at_),some (.ref r),some (.int (0+(i:Int))),some (.str w),a8,a9]/\w.cps.toList=(List.range j).map (chN c at_ i)) ⟨rfl,"",_,_,rfl,rfl⟩ ?_ ?_
   .rintro j ao aj bP ⟨rfl,w,QI,QJ,rfl,hw⟩;have i_:0<64+(0+(j:Int))/\(64+(0+(j:Int))).natAbs.log2<9000:=⟨∅,iH ∅ ∅⟩;nofun;refine Rd.cut (λb1 aP=>aP=aj/\∃t:Int,b1=[some (.int c),some (.int m),some (.str "abcdefghijklmnopqrstuvwxyz"),some (.int eT),some (.int at_),some (.ref r),some (.int (0+(i:Int))),some (.str w),some (.int (0+(j:Int))),some (.int t)]/\chN c at_ i j=97+(t % 26).toNat) ?k1 ?dF
    case dF=>
     nofun;refine Rd.ifD (λz=>?_) (λz=>?_)
     .nofun;refine⟨rfl,_,rfl,?_⟩;unfold chN;rw[if_pos ∅,qbb]
     .nofun;refine⟨rfl,_,rfl,?_⟩;unfold chN;rw[if_neg ∅,qbb]
    case k1=>
     rintro b1 b5 ⟨rfl,t,rfl,bY⟩;nofun;have hf:0<=t % 26:=by omega
     have iJ:t % 26<26:=by omega
     refine Rd.Zp3 al (LA hf iJ) ?_;rw[<-bY];have QK:w.length=j:=by rw[x_,hw];simp
     refine Rd.ZoC (qbh (ed (by rw[QK];show j+1<=1000;omega))) ?_;nofun;refine⟨rfl,_,_,_,rfl,?_⟩;rw[ZjJ,hw,qbr,qaF]
     rfl
   .rintro ao aj ⟨rfl,w,QI,QJ,rfl,hw⟩;nofun;refine⟨dg++ [w],_,_,_,_,rfl,bQ.new aC,by rw[Ze,qaF];rfl,by simp[iz],⟨λk x e=>?_⟩⟩;rcases qcc k dg.length with z|z
    .rw[qaZ z] at e;exact kL.cps k x e
    .rw[qaS z] at e;have bH:k-dg.length=0:=by
      rcases qbv (k-dg.length) with y|y
      .exact y
      .rw[qbu (by simp;omega)] at e;cases e
     rw[bH] at e;obtain rfl:w=x:=by simpa using e
     have:k=i:=by omega
     rw[this];exact hw
  .rintro ao aP ⟨dg,a6,a7,a8,a9,rfl,bQ,gd,iz,kL⟩;nofun;exact q r aP dg aC bQ gd (kL.name QG QH) (kL.nodup ∅ a0 a1) iz ⟨_,λn b'=>by
    obtain⟨k,bH⟩:=qbf b';rw[x_,kL.cps k n bH,GM,qbz]⟩
inductive Ha(T:Tp K mg)(vs:List V)(H:Hp)(Q:VK)(cR:XK):Prop
 |mk (c:Int) (a:Addr) (rs:List Int) (iB:Nat) (am:Bool) (de:vs=[.int c,.ref a,.int iB,.bl am]) (cK:SqL K H a (rs.map V.int)) (cO:0<rs.length) (dm:rs.length<=30) (dI:Zka rs) (ef:0<iB) (eR:iB<=10) (fw:∀(u:Addr)(aj:Hp)(b:B5),H u=none->Zd H aj->aj u=some (.tup b.v)->Bel rs.length b->b.give*rs.getD b.giver.toNat 0=b.take*rs.getD b.taker.toNat 0->Q (.ref u) aj):Ha T vs H Q cR
theorem QL:OkN P w base 2 T.bC (Ha T):=by
 refine T.bC.F.okX lJ (by walk_at "l") (λcD A outer s H vs Q E aC h=>?_)
 .have hu:=aC.hu;obtain⟨c,a,rs,iB,am,rfl,mz,kr,eK,cS,Wk,Wm,q⟩:=h;have QM:0<(iB:Int):=by omega
  have gA:((rs.map V.int).length:Int)=(rs.length:Int):=by simp
  have gK:0<((rs.map V.int).length:Int):=by omega
  refine⟨_,(bN %[cA,4,lJ.nd,cm eI (cm fh (pv 0) bM) bM|1]
     (bN %[cA,5,lJ.nd,cm eI (pv 4) (dk (fb K) (by rfl) T.f qal %[1|2])|1]
     (bN %[cA,6,lJ.nd,cm eI (cm fo (pv 4) bM) (dk (fb K) (by rfl) T.f qal %[1|2])|1]
     (bN %[cA,7,lJ.nd,c2 T.x1 (uO T) aC cG %[%[1,5|0],%[1,6|0]|2]|1]
     (bN %[cA,8,lJ.nd,cm (eX K) bM (cm eI (cm fo (pv 4) bM) (pv 2))|1]
     (bN %[cA,9,lJ.nd,cm fo (cm fh (pv 8) %[1,6|0]) (pv 7)|1]
     (bN %[cA,10,lJ.nd,cm fo (cm fh (pv 8) %[1,5|0]) (pv 7)|1]
     (bN %[cA,11,lJ.nd,cm eI (cm fo (pv 4) bM) bM|1]
     (bN (tO (dO (PW.pt (jB (fX (K:=K) rfl (pv 3) (λ_=>rfl)) (mq (PW.pt (v3 (dW q4 (pv 5) (pv 6) (dD _)) (v2 (dW mw (cm eI (cm fo (pv 4) bM) bM) bM (dD _)))))))) (b0 %[cA,11,lJ.nd,cm (eX K) (pv 11) (cm fh (pv 10) %[1,6|0])|1]) dV))
     (b0 (c9 (fz %[5,6,9,10,11|2])))))))))))),?_⟩
  walk_at "a"
  nofun;have mu:0<=c*48271 % 2147483647:=by omega
  have hg:c*48271 % 2147483647<2147483647:=by omega
  generalize c*48271 % 2147483647=dX at*;have cE:=qa5 dX (show((rs.map V.int).length:Int)≠0 by omega);have cY:=qa3 dX gK;have iq:=qa5 (dX / 7) (show((rs.map V.int).length:Int)≠0 by omega);have i':=qa3 (dX / 7) gK;generalize dX % ((rs.map V.int).length:Int)=g at*;generalize dX / 7 % ((rs.map V.int).length:Int)=t at*;rw[gA] at cY i';have Hb:∀{w:Int},0<=w->w<(rs.length:Int)->∃x:Nat,rs.getD w.toNat 0=(x:Int)/\1<=x/\x<=6:=λ{w} ey eL=>by
   have bL:rs.getD w.toNat 0∈rs:=by rw[cL ∅];exact GE _
   obtain⟨eW,eE⟩:=cS _ bL;exact⟨(rs.getD w.toNat 0).toNat,∅,∅,∅⟩
  obtain⟨x,ex,x0,x1⟩:=Hb cE cY;obtain⟨y,eA,lK,iF⟩:=Hb iq i';have eZ:=Zcx cE cY;have gV:=Zcx iq i';rw[ex] at eZ;rw[eA] at gV;have Wn:=qa5 (dX / 49) (show(iB:Int)≠0 by omega);have Wo:=qa3 (dX / 49) QM;obtain⟨f,Ad⟩:∃f:Nat,1+dX / 49 % (iB:Int)=(f:Int):=⟨(1+dX / 49 % (iB:Int)).toNat,∅⟩;have ea:1<=f:=by omega
  have f1:f<=10:=by omega
  have eh:0<Nat.gcd x y:=qbd _ ∅;have pa:Nat.gcd x y<=x:=qbk ∅ (qbi _ _);have Oo:Nat.gcd x y<=y:=qbk ∅ (qba _ _);have GL:x<=f*x:=Nat.le_mul_of_pos_left x ∅;have Wq:y<=f*y:=Nat.le_mul_of_pos_left y ∅;have Ws:f*x<=10*6:=qcd f1 x1;have Wt:f*y<=10*6:=qcd f1 iF;have eW:1<=f*y / Nat.gcd x y:=qbV ∅ eh;have eE:1<=f*x / Nat.gcd x y:=qbV ∅ eh;have xO:f*x / Nat.gcd x y<=60:=qap (qaN _ _) ∅;have LC:f*y / Nat.gcd x y<=60:=qap (qaN _ _) ∅;have Wu:IntMulOk (1+dX / 49 % (iB:Int)) (x:Int):=mulI (n:=10) (m:=10) ∅ ∅ (by decide);have MJ:IntMulOk (1+dX / 49 % (iB:Int)) (y:Int):=mulI (n:=10) (m:=10) ∅ ∅ (by decide);have Wv:0<((Nat.gcd x y:Nat):Int)/\((Nat.gcd x y:Nat):Int).natAbs.log2<9000:=⟨∅,x' ∅⟩;refine Rd.Zod mz eZ ?_;nofun;refine⟨x,y,rfl,?_⟩;nofun;rw[Ad];have f9:(f:Int)*(y:Int) / ((Nat.gcd x y:Nat):Int)=((f*y / Nat.gcd x y:Nat):Int):=rfl;have dt:(f:Int)*(x:Int) / ((Nat.gcd x y:Nat):Int)=((f*x / Nat.gcd x y:Nat):Int):=rfl;rw[f9,dt];have k4:=ZoA (f:=f) (y:=y) x0;generalize f*y / Nat.gcd x y=cV at*;generalize f*x / Nat.gcd x y=ce at*;have Ww:IntMulOk (ce:Int) (y:Int):=mulI (n:=10) (m:=10) ∅ ∅ (by decide);have mc:0<=dX / 98 % 3/\dX / 98 % 3<=2:=by omega
  have ty:(ce:Int)*(y:Int)<=60*6:=qbD ∅ ∅ ∅ ∅;have Wx:0<=(ce:Int)*(y:Int):=qce ∅ ∅;refine Rd.cut (λb1 aj=>aj=H/\∃st:Int,b1=[some (.int c),some (.ref a),some (.int iB),some (.bl am),some (.int dX),some (.int g),some (.int t),some (.int (Nat.gcd x y:Nat)),some (.int f),some (.int cV),some (.int ce),some (.int st)]/\0<=st/\st<=1000) ?k1 ?dF
  case dF=>
   cases am with
   |true=>
    nofun;exact⟨rfl,_,rfl,∅,∅⟩
   |false=>
    nofun;refine Rd.ifD (λi_=>?_) (λi_=>?_)
    .nofun;refine Rd.ifD (λhS=>?_) (λhS=>?_)
     .nofun;exact⟨rfl,_,rfl,∅,∅⟩
     .nofun;exact⟨rfl,_,rfl,∅,∅⟩
    .nofun;exact⟨rfl,_,rfl,∅,∅⟩
  case k1=>
   rintro b1 aj ⟨rfl,st,rfl,QN,vJ⟩;nofun;refine⟨by show 5<=sizeLine;decide,λu e9=>?_⟩;exact q u _ ⟨g,t,cV,ce,st⟩ e9 (cF e9) Ze ⟨⟨cE,cY,iq,i'⟩,⟨by dsimp only;omega,by dsimp only;omega⟩,⟨QN,vJ⟩,⟨by dsimp only;omega,by dsimp only;omega⟩⟩ (by dsimp only;rw[ex,eA];exact_mod_cast k4)
inductive Hj(T:Tp K mg)(vs:List V)(H:Hp)(Q:VK)(cR:XK):Prop
 |mk (v iM:V) (r:Row3) (de:vs=[v,iM]) (cK:k8 H v r) (cO:k8 H iM r) (dm:r.2.2.length<=2000) (dI:∀aj,Zd H aj->Q (.bl true) aj):Hj T vs H Q cR
theorem QO:OkN P w base 1 T.bD (Hj T):=by
 refine T.bD.F.okX r1 (by walk_at "l") (λcD A outer s H vs Q E aC h=>?_)
 .have hu:=aC.hu;obtain⟨v,iM,r,rfl,ay,aD,bU,q⟩:=h;have QP:=Ziq (K:=K) ay;have QQ:=Ziq (K:=K) aD;obtain⟨a,hI,fG,rfl,bK,qn,c1⟩:=ay;have ia:=c1.length;have Wy:=SqT.of (K:=K) bK;have DQ:=SqT.of (K:=K) qn;refine⟨_,(bN (dO (PW.pt (jB (hh (fX (K:=K) rfl (dk (kT (K:=K) rfl) (by rfl) T.g qat %[0,jA (v:= .ty "tuple") (by rfl) T.m qaU rfl|2]) (λ_=>rfl))) (jB (dW (jh (K:=K) rfl hu) (dk (fb K) (by rfl) T.f qal %[0|2]) bM (dD _)) (mq (hh (fX (K:=K) rfl (dk (kT (K:=K) rfl) (by rfl) T.g qat %[%[0,bM|0],jA (v:= .ty "tuple") (by rfl) T.m qaU rfl|2]) (λ_=>rfl))))))) (b0 (c9 Wr)) dV)
     (bN %[cA,2,r1.nd,fA %[%[0,bM|0],%[0,bM|0]|2]|1]
     (bN (d4 PassesOwn.leaving rfl (rK (K:=K) rfl %[0,bM|0]) %[cr,3,r1.nd|1] (bN (dO (hh (fX (K:=K) rfl (dk (kT (K:=K) rfl) (by rfl) T.g qat %[3,jA (v:= .ty "tuple") (by rfl) T.m qaU rfl|2]) (λ_=>rfl))) (b0 (c9 Wr)) dV)
     (b0 %[cA,2,r1.nd,cm (eX K) (pv 2) (iv (lF (K:=K) rfl) (by rfl) T.j qaG %[3|2])|1])))
     (bN (d4 PassesOwn.leaving rfl (eG (K:=K) rfl (pv 2)) %[cr,4,r1.nd|1] (b0 (dO (PW.pt (jB (hh (fX (K:=K) rfl (dk (kT (K:=K) rfl) (by rfl) T.g qat %[4,jA (v:= .ty "int") (by rfl) T.av PyProof.Rows.boot_int rfl|2]) (λ_=>rfl))) (mq (fX (K:=K) rfl (dk (kT (K:=K) rfl) (by rfl) T.g qat %[4,jA (v:= .ty "bool") (by rfl) T.ah qcf rfl|2]) (λ_=>rfl))))) (b0 (c9 Wr)) dV)))
     (b0 (c9 (lA (gS (K:=K) rfl hu) (pv 0) (pv 1) (dD _)))))))),?_⟩
  walk_at "a"
  nofun;refine⟨by show 2<=sizeLine;decide,λkr QR=>?_⟩;have a':Zd H (upd H kr (.lst [.int r.1,.int r.2.1])):=cF QR;have jl:(upd H kr (.lst [.int r.1,.int r.2.1])) kr=some (.lst ([r.1,r.2.1].map V.int)):=Ze;generalize upd H kr (.lst [.int r.1,.int r.2.1])=aA at*;have uP:=a' _ _ bK;have Hq:=SqT.of (K:=K) (a' _ _ qn);nofun;unfold oc;nofun;refine⟨hI,rfl,⟨_,Hq⟩,?_⟩;refine Yr (rE Hq) (λi ao aj=>∃(eK:Addr)(ns:List Int)(a3 a4:Option V),ao=[some (.ref a),some iM,some (.ref eK),a3,a4]/\Zd aA aj/\aj eK=some (.lst (ns.map V.int))/\ns.length=2+2*i) ⟨kr,_,_,_,rfl,Zd.refl _,jl,rfl⟩ (λ_ _ _ h=>by obtain⟨_,_,_,_,_,s,_⟩:=h;exact s) ?_ ?_
  .rintro i ao aP hi ⟨eK,ns,a3,a4,rfl,bQ,pd,jx⟩;obtain⟨t,dt,bY⟩:=c1.getD (i:=i) ∅;rw[dt];have dJ:=bQ _ _ (a' _ _ bY);generalize r.2.2.getD i (0,0)=f0 at*;have FR:=SqT.of (K:=K) dJ;nofun;refine Rd.ZmE FR (λw hw=>?_);have bV:Zd aP (upd aP w (.lst [.int f0.1,.int f0.2])):=cF hw;have lT:(upd aP w (.lst [.int f0.1,.int f0.2])) w=some (.lst ([f0.1,f0.2].map V.int)):=Ze;generalize upd aP w (.lst [.int f0.1,.int f0.2])=b5 at*;refine Rd.Zk8 (bV _ _ pd) lT (qbh (jm (by simp only[qag,GM];show _+2<=_;omega))) (λz bU=>?_);rw[<-qaF];nofun;exact⟨z,ns++ [f0.1,f0.2],_,_,rfl,(bQ.trans bV).trans (cF bU),Ze,by rw[qag];show _+2=_;omega⟩
  .rintro ao aP ⟨eK,ns,a3,a4,rfl,bQ,pd,jx⟩;have QS:=SqL.of (K:=K) pd;nofun;refine Yr (eF QS) (λi ao aj=>Zd aP aj/\∃a4,ao=[some (.ref a),some iM,some (.ref eK),a3,a4]) ⟨Zd.refl _,_,rfl⟩ (λ_ _ _ h=>h.1) ?_ ?_
   .rintro i ao b5 hi ⟨bV,a4,rfl⟩;have eQ:i<ns.length:=by rw[GM] at hi;exact hi
    have e3:(ns.map V.int).getD i .non= .int ns[i]:=by simp[List.getD,eQ]
    rw[e3];nofun;exact⟨bV,_,rfl⟩
   .rintro ao b5 ⟨bV,a4,rfl⟩;have fx:=(a'.trans bQ).trans bV;nofun;refine Rd.Zot (QP.same fx) (QQ.same fx) (yl r) (yl r) (LP r) ?_;rw[SeqAt.eqv_refl _ (yl r)];nofun;exact q b5 fx
theorem ZoZ(ws:List Int)(lo hi:Option Int):∃us:List Int,kN (ws.map V.int) lo hi=us.map V.int/\us.length<=ws.length:=by
 refine⟨(ws.drop (HT.sIx ws.length 0 lo)).take (HT.sIx ws.length ws.length hi-HT.sIx ws.length 0 lo),?_,?_⟩
 .unfold kN;rw[List.map_take,List.map_drop,GM]
 .rw[qaI,qcg];omega
noncomputable def pA (rs:List Int) (w:Int):Nat:=if 0<(rs.getD w.toNat 0).toNat then(rs.getD w.toNat 0).toNat else 1
theorem QT{ls:List B5}{rs:List Int}(dN:Z0 ls rs.length)(hsz:WS ls)(kS:∀r∈rs,1<=r)(au:Zco ls rs):VH ls (pA rs):=by
 have bU:∀w:Int,0<=w->w<(rs.length:Int)->((pA rs w:Nat):Int)=rs.getD w.toNat 0:=λw a b=>by
  have ay:1<=rs.getD w.toNat 0:=by rw[cL ∅];exact kS _ (GE _)
  unfold pA;rw[if_pos ∅];omega
 refine⟨λw=>by unfold pA;split<;>omega,λi hi=>?_⟩;obtain⟨cV,ce,eh,hf,gq,dS,f9,dt⟩:=hsz i hi;obtain⟨gl,iW,oX,p_⟩:=dN.at hi;have ay:=au (ls.getD i dB) (by rw[cL hi];exact GE hi);rw[<-bU _ gl iW,<-bU _ oX p_,f9,dt] at ay;rw[f9,dt,GT,GT];have:((cV*pA rs (ls.getD i dB).giver:Nat):Int)=((ce*pA rs (ls.getD i dB).taker:Nat):Int):=by rw[qb7,qb7];exact ay
 exact Int.ofNat.inj this
theorem Zg3{cX:Type}{f:cX->PyData}(h:∀a,(f a).canLay0=true):∀l:List cX,PyData.canLayAll0 (l.map f)=true
 | []=>by simp[PyData.canLayAll0]
 |a::l=>by
  have:=Zg3 h l;simp only[List.map_cons,PyData.canLayAll0,h a,qb0];exact this
theorem Ze8{cX:Type}{f:cX->PyData}{n:Nat}(h:∀a,(f a).depth<=n):∀l:List cX,PyData.depthAll (l.map f)<=n+1
 | []=>by simp[PyData.depthAll]
 |a::l=>by
  have ay:=Ze8 h l;have aD:=h a;simp only[List.map_cons,PyData.depthAll];omega
noncomputable def nb (f:ZX):PyData:= .tuple [.int f.1,.tuple (f.2.map o2)]
noncomputable def ZaW (fs:List ZX):PyData:= .tuple (fs.map nb)
noncomputable def tg (ms ws:List Int) (fss:List (List ZX)):PyData:= .list [.list (ms.map PyData.int),.list (ws.map PyData.int),.list (fss.map ZaW)]
theorem Zlj(f:ZX):(nb f).canLay0=true:=by
 have:=yk f.2;simp only[nb,PyData.canLay0,PyData.canLayAll0,qcj,qb0];exact this
theorem qO(ms ws:List Int)(fss:List (List ZX)):(tg ms ws fss).canLay0=true:=by
 have ay:=pV ms;have aD:=pV ws;have cj:=Zg3 (f:=ZaW) (λfs=>(by
  have:=Zg3 (f:=nb) Zlj fs;simp only[ZaW,PyData.canLay0];exact this)) fss
 simp only[tg,PyData.canLay0,PyData.canLayAll0,qcj];simp only[PyData.canLay0] at ay aD;rw[ay,aD,cj]
 rfl
theorem ZjG(f:ZX):(nb f).depth<=10:=by
 have:=ym f.2;simp only[nb,PyData.depth,PyData.depthAll];omega
theorem Hr(ms ws:List Int)(fss:List (List ZX)):(tg ms ws fss).depth<=60:=by
 have ay:=tV ms;have aD:=tV ws;have cj:=Ze8 (f:=ZaW) (n:=20) (λfs=>(by
  have:=Ze8 (f:=nb) ZjG fs;simp only[ZaW,PyData.depth];omega)) fss
 simp only[tg,PyData.depth,PyData.depthAll];omega
theorem QU{K:Frag}{H:Hp}{v:V}{f:ZX}(h:kn H v f):fr K H v (nb f):=by
 obtain⟨a,hI,fG,rfl,ay,aD,cj⟩:=h;exact .tup (.of ay) (.cons (.int _) (.cons (.tup (.of aD) (yn cj)) .nil))
theorem Hs{K:Frag}{H:Hp}:∀{vs:List V}{fs:List ZX},Paired (kn H) vs fs->DRels K H vs (fs.map nb)
 |_,_,.nil=> .nil
 |_,_,.cons h r=> .cons (QU h) (Hs r)
theorem Ht{K:Frag}{H:Hp}:∀{vs:List V}{fss:List (List ZX)},jq H vs fss->DRels K H vs (fss.map ZaW)
 |_,_,.nil=> .nil
 |_,_,.cons ⟨a,vs,e,ay,aD⟩ r=>by rw[e];exact .cons (.tup (.of ay) (Hs aD)) (Ht r)
theorem vM{K:Frag}{H:Hp}{t a b c:Addr}{ms ws:List Int}{vs:List V}{fss:List (List ZX)}(bY:H t=some (.lst [.ref a,.ref b,.ref c]))(bK:SqL K H a (ms.map V.int))(au:SqL K H b (ws.map V.int))(a_:SqL K H c vs)(fD:jq H vs fss):fr K H (.ref t) (tg ms ws fss):=
 .lst (.of bY) (.cons (fr.ints bK) (.cons (fr.ints au) (.cons (.lst a_ (Ht fD)) .nil)))
theorem QV{L:Nat}{ws:List Int}:(List.replicate L (ws.map V.int)).flatten=(repL L ws).map V.int:=by
 unfold repL;rw[List.map_flatten,List.map_replicate]
theorem Zei{rows:List B5}{ms:List Int}{fss:List (List ZX)}(h:ZeX fss):∀{ws pre:List Int},∀r∈codeL rows ms fss pre ws,r.2.2.length<=2000
 | [],_,_,aC=>by cases aC
 |w::ws,pre,r,aC=>by
  rcases qaD.mp aC with z|z
  .obtain⟨i,hi,rfl⟩:=qaq z;unfold lQ at hi|-;rw[qbZ] at hi;rw[List.getElem_zipWith];show(List.map _ _).length<=2000;rw[GM];have hw:w.toNat<fss.length:=by
    by_cases c:w.toNat<fss.length
    .exact c
    .have:fss.getD w.toNat []=[]:=by simp[List.getD,c]
     rw[this] at hi;simp at hi
   exact(h _ (show fss.getD w.toNat []∈fss by rw[cL hw];exact GE _)).2 _ (GE _)
  .exact Zei h r z
theorem Znw:OkN P w base 13 T.aX (Lg T):=by
 refine T.aX.F.okX hF (λvs H Q E h=>?_) (λcD A outer s H vs Q E aC h=>?_)
 .obtain⟨a,ns,rfl,_⟩:=h
  rfl
 .have hu:=aC.hu;obtain⟨p,ns,rfl,g5,dY,k⟩:=h;refine⟨_,(bN %[cA,1,hF.nd,c2 T.x0 (o3 T) aC cG %[0,bM|2]|1]
     (bN (dO (dW (gS (K:=K) rfl hu) (cm eI (pv 1) bM) bM (dD _)) (b0 (c9 (c2 T.bA (Qv T) aC cG %[cm fo (pv 1) bM|2]))) dV)
     (bN %[cA,2,hF.nd,cm (eX K) bM (cm eI (pv 1) bM)|1]
     (bN (cA (i:=3) hF.nd rfl (Or.inr rfl) (ho (xs:=["_law_k"]) rfl (eB (x:="_law_k") (zs:=["_law_script"]) (ix:=[0]) (cs ur) ["_law_script","_law_first","_law_many","_law_rates","_law_belts","_law_k","_law_forms","_law_row","_law_rooms","_law_laps_here","_law_rows","_law_hall","_law_handed","_law_found","_law_refused","_law_due","_law_one","_law_other"] rfl rfl (by decide+kernel)) (g4 rfl T.h %[2|2]) (λcl C s H fp=>⟨%[cr,0,(show(["_law_k","_law_script"]:List Str).Nodup by decide+kernel)|1],e5,(cm (eX K) bM (cm eI (c2 T.x0 (o3 T) aC WP %[1,cm (eX K) bM (pv 0)|2]) bM))⟩)))
     (bN %[cA,4,hF.nd,fA bG|1]
     (bN (d4 PassesOwn.leaving rfl (g4 rfl T.h %[cm eI (cm fo (pv 1) bM) bM|2]) %[cr,5,hF.nd|1] (b0 (et (hA (K:=K) rfl qan qay qaz iy (pv 4) %[c2 T.bC (QL T) aC cG %[c2 T.x0 (o3 T) aC cG %[0,cm (eX K) bM (pv 5)|2],3,bM,lA (gS (K:=K) rfl hu) (cm eI (cm fo (pv 1) bM) bM) bM (dD _)|2]|2]))))
     (bN (cA (i:=3) hF.nd rfl (Or.inr rfl) (c2 T.x2 (LU T) aC cG %[3,4|2]))
     (bN %[cA,6,hF.nd,c2 T.x4 (L3 T) aC cG %[0,bM,4,2,lA (gS (K:=K) rfl hu) (cm eI (cm fo (pv 1) bM) bM) bM (dD _)|2]|1]
     (bN %[cA,7,hF.nd,c2 T.x7 (Mi T) aC cG %[4,3,iv (lF (K:=K) rfl) (by rfl) T.j qaG %[A' (BC (K:=K) rfl) (pv 0) (A_ bM) A9|2]|2]|1]
     (bN (dO (dW v_ (pv 7) Ue (dD _)) (b0 (c9 Wr)) dV)
     (bN %[cA,8,hF.nd,c2 T.x9 (MG T) aC cG %[4,3,7,cm eI (cm fh (c2 T.x0 (o3 T) aC cG %[0,bM|2]) bM) bM|2]|1]
     (bN %[cA,9,hF.nd,c2 T.aZ (MK T) aC cG %[4,3,8|2]|1]
     (bN %[cA,10,hF.nd,cm fh (pv 9) (dk (mK (K:=K) rfl rfl) (by rfl) T.A qaW %[jM rfl (eB (x:="_law_belt") (zs:=["_law_rates"]) (ix:=[3]) (cs ur) ["_law_script","_law_first","_law_many","_law_rates","_law_belts","_law_k","_law_forms","_law_row","_law_rooms","_law_laps_here","_law_rows","_law_hall","_law_handed","_law_found","_law_refused","_law_due","_law_one","_law_other"] rfl rfl (by decide+kernel)) (eG (K:=K) rfl (pv 4)) (λcl C s H fp=>⟨%[cr,0,(show(["_law_belt","_law_rates"]:List Str).Nodup by decide+kernel)|1],e5,(cm fh %[0,bM|0] %[1,%[0,bM|0]|0])⟩)|2])|1]
     (bN %[cA,11,hF.nd,c2 T.a3 (MS T) aC cG %[c2 T.bB (QE T) aC cG %[c2 T.x0 (o3 T) aC cG %[0,bM|2],2|2],4|2]|1]
     (bN %[cA,12,hF.nd,fA %[iv (lF (K:=K) rfl) (by rfl) T.j qaG %[8|2],iv (lF (K:=K) rfl) (by rfl) T.j qaG %[7|2],iv (lF (K:=K) rfl) (by rfl) T.j qaG %[6|2]|2]|1]
     (bN (hN (c2 T.aW (Gu T) aC cG %[11,%[12,bM|0],%[12,bM|0],%[12,bM|0]|2]) (e7 (K:=K) (n:=2) rfl rfl (c_ %[cr,13,hF.nd|1] (c_ %[cr,14,hF.nd|1] e0))))
     (bN (dO (PW.pt (jB (dW (jh (K:=K) rfl hu) (pv 12) (fA %[8,7,6|2]) (dD _)) (jB (dW (jh (K:=K) rfl hu) (pv 14) (lA mw (pv 10) (ng (v:= .int 3000) rfl T.B ⟨_,rfl⟩) (dD _)) (dD _)) (mq (dW (jh (K:=K) rfl hu) (ng (v:= .int 3000) rfl T.B ⟨_,rfl⟩) bM (dD _)))))) (b0 (c9 Wr)) dV)
     (bN (dO (fX (K:=K) rfl (pv 14) (λ_=>rfl)) (b0 (c9 Wr)) dV)
     (bN (dO (PW.pt (jB (hh (fX (K:=K) rfl (dk (kT (K:=K) rfl) (by rfl) T.g qat %[13,jA (v:= .ty "tuple") (by rfl) T.m qaU rfl|2]) (λ_=>rfl))) (jB (dW (jh (K:=K) rfl hu) (dk (fb K) (by rfl) T.f qal %[13|2]) bM (dD _)) (jB (fX (K:=K) rfl (dk (kT (K:=K) rfl) (by rfl) T.g qat %[%[13,bM|0],jA (v:= .ty "bool") (by rfl) T.ah qcf rfl|2]) (λ_=>rfl)) (mq (dW (jh (K:=K) rfl hu) %[13,bM|0] (pv 9) (dD _))))))) (b0 (c9 Wr)) dV)
     (bN %[cA,15,hF.nd,c2 T.bz (Pm T) aC cG %[4,8,cm fh (pv 7) (pv 9),6|2]|1]
     (bN (dO (PW.pt (jB (hh (fX (K:=K) rfl (dk (kT (K:=K) rfl) (by rfl) T.g qat %[%[13,bM|0],jA (v:= .ty "list") (by rfl) T.j qaG rfl|2]) (λ_=>rfl))) (mq (dW (jh (K:=K) rfl hu) (dk (fb K) (by rfl) T.f qal %[%[13,bM|0]|2]) (dk (fb K) (by rfl) T.f qal %[15|2]) (dD _))))) (b0 (c9 Wr)) dV)
     (bN (d4 PassesOwn.leaving rfl (t4 (K:=K) rfl rfl T.S %[%[13,bM|0],15|2]) (e7 (K:=K) (n:=2) rfl rfl (c_ %[cr,16,hF.nd|1] (c_ %[cr,17,hF.nd|1] e0))) (b0 (dO (hh (fX (K:=K) rfl (c2 T.bD (QO T) aC cG %[16,17|2]) (λ_=>rfl))) (b0 (c9 Wr)) dV)))
     (b0 (c9 Wr)))))))))))))))))))))))),?_⟩
  walk_at "a"
  nofun;have ea:1<=1+cellX ns 0 % 4/\1+cellX ns 0 % 4<=4:=by omega
  generalize cellX ns 0=tj at*;refine Rd.ifD (λd=>?_) (λd=>?_)
  .nofun;refine⟨_,rfl,λaj s'=>?_⟩;nofun;exact k aj
  obtain⟨m,bL⟩:∃m:Nat,1+tj % 4=(m:Int):=⟨(1+tj % 4).toNat,∅⟩;nofun;rw[bL] at ea|-;refine Z2 (own:=1) Wf.y (ed ∅) (λj=>[some (.int (0+(j:Int)))]) (λ_=>rfl) (λ_=>true) (λj v _=>v= .int (1+cellX ns (2+(0+(j:Int))) % 3)) (λ_ _ _ _ _ z=>z) (λj c6 aj v b5 f7 hi bI y em k=>?_) (λj aj cQ hi bI k=>?_) (λhJ j aj cQ hi gR hp0 fP bI k=>?_) (λdA aA zs hra a' hra1 db=>?_)
  .obtain⟨rfl,rfl⟩:=y;obtain⟨x1,rfl⟩:∃x1,c6=[x1]:=by
    match c6,em with
    | [x1],_=>exact⟨x1,rfl⟩
   nofun;exact k _ (Zd.refl _)
  .nofun;exact k aj (Zd.refl aj)
  .have Wz:=bI.seq g5;have bP:j<m:=by omega
   nofun;exact k _ aj (Zd.refl aj) rfl
  rw[qak.mpr (by simp),show((m:Nat):Int).toNat=m from rfl] at db;have eA:=qb db;have jp:∀r∈(List.range m).map (λj:Nat=>1+cellX ns (2+(0+(j:Int))) % 3),1<=r/\r<=3:=λr aC=>by
   obtain⟨j,_,rfl⟩:=qaJ.mp aC;omega
  have fO:((List.range m).map (λj:Nat=>1+cellX ns (2+(0+(j:Int))) % 3)).length=m:=by simp
  generalize (List.range m).map (λj:Nat=>1+cellX ns (2+(0+(j:Int))) % 3)=rs at*;subst eA;have Hu:Zka rs:=λr aC=>by have:=jp r aC;omega
  have Ag:=SqL.of (K:=K) hra1;have Hv:=a'.seq g5;nofun;refine⟨qar _,λb au=>?_⟩;have bV:Zd aA (upd aA b (.lst [])):=cF au;have lT:(upd aA b (.lst [])) b=some (.lst []):=Ze;generalize upd aA b (.lst [])=b5 at*;nofun;refine YT (n:=(tj / 4 % 5).toNat) (λi ao aj=>∃(bs:List V)(ls:List B5)(a5:Option V),ao=[some (.ref p),some (.int tj),some (.int m),some (.ref dA),some (.ref b),a5,none,none,none,none,none,none,none,none,none,none,none,none]/\Zd aA aj/\aj b=some (.lst bs)/\ev aj bs ls/\ls.length=i/\(∀l∈ls,Bel m l)/\Zco ls rs) ⟨[],[],_,rfl,bV,lT,.nil,rfl,by simp,λl ap=>(by cases ap)⟩ ?_ ?_
  .rintro i ao bZ hi ⟨bs,ls,a6,rfl,cd,lX,gc,ji,gI,Ah⟩;have WB:=cd.seq Hv;have n1:=cd.seq Ag;have ej:=gc.length;have pp:bs.length<sizeLine:=ed ∅;nofun;refine⟨_,dA,rs,2,_,rfl,n1,∅,∅,Hu,∅,∅,λu b4 bb hu cB zv hBb QW=>?_⟩;have nc:=cB _ _ lX;nofun;have gQ:df [b] b4 (upd b4 b (.lst (bs++ [.ref u]))):=gy (by simp) nc (by intro _ z;cases z);refine⟨bs++ [.ref u],ls++ [bb],_,rfl,(cd.trans cB).new au,Ze,((gc.keep λb xs e=>cB _ _ e).keep gQ.tups).snoc (gQ.tups _ _ zv),by simp[ji],λl ap=>?_,λl ap=>?_⟩
   .rcases qaD.mp ap with z|z
    .exact gI l z
    .rw[qab.mp z,<-fO];exact hBb
   .rcases qaD.mp ap with z|z
    .exact Ah l z
    .rw[qab.mp z];exact QW
  rintro ao bZ ⟨bs,ls,a6,rfl,cd,lX,gc,ji,gI,Ah⟩;have EB:ls.length<=4:=by omega
  have hr:=a'.trans cd;have n1:=cd.seq Ag;have dN:Z0 ls rs.length:=λl bL=>by rw[fO];exact(gI l bL).rg
  have n4:=Zg1 dN (λr aC=>(jp r aC).1) Ah;nofun;refine⟨dA,b,bs,ls,rs,rfl,n1,lX,gc,dN,∅,λr aC=>(by have:=jp r aC;omega),λeg b4 k_ cB qB=>?_⟩;generalize WD:gb ls rs=LL at*;have fy:=hr.trans cB;have Hw:=fy.seq g5;have nc:=cB _ _ lX;have kD:ev b4 bs ls:=gc.keep λb xs e=>cB _ _ e;have vN:=SqL.of (K:=K) qB;have WE:LL.length=m:=by rw[n4.len];exact fO
  have pB:∀x∈LL,1<=x/\x<=3:=λx ar=>by
   obtain⟨w,hw,rfl⟩:=qaq ar;have ay:=n4.le w ∅;rw[cL hw,cL (show w<rs.length by omega)] at ay;have aD:=jp _ (GE (show w<rs.length by omega));exact⟨n4.pos _ (GE hw),∅⟩
  have Hx:∀xs:List Int,(∀x∈xs,1<=x/\x<=3)->0<=xs.sum/\xs.sum<=3*xs.length:=λxs=>by
   induction xs with
   |nil=>simp
   |cons a xs b_=>
    intro h;rw[qa7,List.length_cons];have:=b_ λx ar=>h x (qaj _ ar);have:=h a (qaL ..);omega
  have QX:=Hx LL pB;have hsz:=DJ gI;have qP:Z0 ls LL.length:=by rw[n4.len];exact dN
  have ej:=kD.length;clear Hx Hu Ag hra1 n1 a' bV cd gc lX Hv;nofun;refine⟨p,b,ns,bs,ls,11,m,_,rfl,Hw,∅,nc,kD,∅,gI,∅,∅,∅,λme cZ ys fss DV c8 Hy hF6 Ai=>?_⟩;have lc:=fy.trans c8;have yv:=lc.seq g5;obtain⟨Hz,Aj⟩:=Ai.good;nofun;refine Rd.slL yv (λmU u7=>?_);obtain⟨us,vf,WF⟩:=ZoZ ns (some 6) none;rw[vf];have d5:Zd cZ (upd cZ mU (.lst (us.map V.int))):=cF u7;have o7:(upd cZ mU (.lst (us.map V.int))) mU=some (.lst (us.map V.int)):=Ze;generalize upd cZ mU (.lst (us.map V.int))=di at*;nofun;refine Rd.Vk (.of o7) (λfg lO=>?_);have d2:Zd di (upd di fg (.lst (us.map V.int))):=cF lO;have HA:(upd di fg (.lst (us.map V.int))) fg=some (.lst (us.map V.int)):=Ze;generalize upd di fg (.lst (us.map V.int))=eJ at*;have tk:=c8.trans (d5.trans d2);nofun;refine⟨b,eg,fg,bs,ls,LL,us,rfl,tk _ _ nc,kD.keep (λb xs e=>tk _ _ e),∅,tk.seq vN,∅,QX.1,∅,λr aC=>(by have:=pB r aC;omega),.of HA,∅,λv hj fE cz=>?_⟩;rcases cz with rfl|⟨ws,e',rfl,h4,_,m0,HB⟩
  .nofun;refine⟨rfl,?_⟩;nofun;exact k _
  have tl:=tk.trans fE;have px:=fy.trans tl;have QY:=px.seq g5;have HC:=hF6.keep λb xs e=>(d5.trans (d2.trans fE)) _ _ e;have HD:=(d5.trans (d2.trans fE)) _ _ Hy;clear o7 HA d5 d2 fE hF6 Hy c8 tk;nofun;refine⟨rfl,?_⟩;nofun;refine⟨b,eg,e',_,bs,ls,LL,ws,rfl,tl _ _ nc,kD.keep (λb xs e=>tl _ _ e),∅,qP,λl bL=>(by have:=(gI l bL).st;have:=(gI l bL).sz;have:=(gI l bL).few;omega),tl.seq vN,pB,.of m0,h4,∅,λms mr gO hC kB hmst qc hmr sa Ak=>?_⟩;have vO:=tl.trans sa;have jy:=ZnN HB qc;have dM:k6 ms (startsL ls):=⟨by rw[hC,sd],λi hi=>by
   have:=hmst i ∅;have ds:i<ls.length:=by omega
   simpa[startsL,List.getD,ds] using this⟩
  have QZ:=Zig jy qP (λx ar=>(pB x ar).1) dM (λl bL=>by have:=(gI l bL).st;have:=(gI l bL).sz;omega);have kF:∀x∈ms,1<=x/\x<=1000000:=λx ar=>⟨QZ x ar,by have:=kB x ar;omega⟩;have l0:=ZcR qP (λl bL=>by have:=(gI l bL).sz;have:=(gI l bL).few;omega) (λx ar=>by have:=pB x ar;omega);have lq:=vO _ _ nc;have HE:=kD.keep λb xs e=>vO _ _ e;nofun;refine⟨b,eg,mr,bs,ls,LL,ms,rfl,lq,HE,∅,qP,λl bL=>(by have:=(gI l bL).sz;have:=(gI l bL).few;omega),vO.seq vN,λx ar=>(by have:=pB x ar;omega),.of Ak,hC,kF,λlr iQ=>?_⟩;have dw:=ZaG (ms:=ms) (gs:=givL ls LL) (λx ar=>(kF x ar).2) ms.length (qaa _);have vP:=vO.trans iQ;have nq:=SqL.of (K:=K) (vP _ _ nc);have s4:=vP.seq vN;nofun;refine Yf (eF nq) (ed ∅) (λ_=>true) (λi=> .int ((ls.getD i dB).give*LL.getD (ls.getD i dB).giver.toNat 0)) (λi aj cQ hi bI k=>?_) (λi aj cQ hi _ bI k=>?_) (λff Hc hgi cf vG=>?_)
  .nofun;exact k aj (Zd.refl aj)
  .have ds:i<ls.length:=by omega
   obtain⟨t,eC,dJ⟩:=kD.getD (i:=i) ds;rw[eC];have fu:=(vP.trans bI) _ _ dJ;have kz:ls.getD i dB∈ls:=by rw[cL ds];exact GE _
   have fV:=qP _ kz;have ig:=(gI _ kz).few;have lV:=(gI _ kz).sz;generalize ls.getD i dB=bb at*;have WI:=pB _ (show LL.getD bb.giver.toNat 0∈LL by rw[cL ∅];exact GE _);have eZ:=Z1 (ns:=LL) (k:=bb.giver) ∅ ∅;generalize LL.getD bb.giver.toNat 0=cE at*;have lR:IntMulOk bb.give cE:=mulI (n:=10) (m:=10) ∅ ∅ (by decide);have hq:=bI.seq s4;dsimp only[B5.v] at fu;nofun;exact k aj (Zd.refl aj)
  rw[Ziv ej] at vG;have hR:(givL ls LL).length=ls.length:=ZaZ;have mE:=sc l0;have lR:IntMulOk (lapsL ms (givL ls LL) ms.length:Int) (givL ls LL).sum:=mulI (n:=20*ms.length+1) (m:=40) (by rw[qbw];exact dw) ∅ ∅;have HF:=vP.trans cf;have Q0:=fy.trans HF;have Q1:=Q0.seq g5;have kt:=λy=>Zip (ms:=ms) (gs:=givL ls LL) ∅ l0 y;generalize f8:lapsL ms (givL ls LL) ms.length=L at*;nofun;refine Rd.Zgn (.of vG) ?_;nofun;generalize HG:(givL ls LL).sum=S at*;refine⟨_,m,rfl,∅,λlp Hd dg sQ m_ hnad HH fY jx _=>?_⟩;have Al:=HF.trans m_;nofun;refine⟨lp,b,dg,bs,ls,rfl,.of hnad,HH,fY,∅,∅,Al _ _ nc,kD.keep (λb xs e=>Al _ _ e),by rw[jx];exact gI,∅,λbK fp He hhe j' gM=>?_⟩;have Q2:=Al.trans gM;have vQ:=((iQ.trans cf).trans m_).trans gM;have vR:=vQ _ _ Ak;have vS:=(sa.trans vQ) _ _ m0;have vT:=(sa.trans vQ) _ _ HD;have vU:=HC.keep λb xs e=>(sa.trans vQ) _ _ e;clear Ak m0 HD HC vG hnad Q1 QY yv Hw lq HE nq s4;nofun;refine Rd.Vk (.of vR) (λay ii=>?_);have vV:Zd He (upd He ay (.lst (ms.map V.int))):=cF ii;have HI:(upd He ay (.lst (ms.map V.int))) ay=some (.lst (ms.map V.int)):=Ze;generalize upd He ay (.lst (ms.map V.int))=Hf at*;nofun;refine Rd.Vk (.of (vV _ _ vS)) (λaD gN=>?_);have m7:Zd Hf (upd Hf aD (.lst (ws.map V.int))):=cF gN;have HJ:(upd Hf aD (.lst (ws.map V.int))) aD=some (.lst (ws.map V.int)):=Ze;generalize upd Hf aD (.lst (ws.map V.int))=Hg at*;nofun;refine Rd.Vk (.of ((vV.trans m7) _ _ vT)) (λcj hv=>?_);have vW:Zd Hg (upd Hg cj (.lst ys)):=cF hv;have HK:(upd Hg cj (.lst ys)) cj=some (.lst ys):=Ze;generalize upd Hg cj (.lst ys)=Hh at*;nofun;refine⟨by show 3<=sizeLine;decide,λcS kC=>?_⟩;have tm:Zd Hh (upd Hh cS (.lst [.ref ay,.ref aD,.ref cj])):=cF kC;have tn:(upd Hh cS (.lst [.ref ay,.ref aD,.ref cj])) cS=some (.lst [.ref ay,.ref aD,.ref cj]):=Ze;generalize upd Hh cS (.lst [.ref ay,.ref aD,.ref cj])=Hi at*;have tp:=((vV.trans m7).trans vW).trans tm;have Am:=((m7.trans vW).trans tm) _ _ HI;have An:=(vW.trans tm) _ _ HJ;have mo:=tm _ _ HK;have s1:=vU.keep λb xs e=>tp _ _ e;have WJ:=SqL.of (K:=K) tn;have Q3:=Q2.trans tp;clear vV m7 vW tm HI HJ HK;have jv:LL.length=dg.length:=by omega
  rw[jv] at jy;nofun;refine⟨bK,ay,aD,cj,⟨dg,ls⟩,fp,ms,LL,ws,ys,fss,pA LL,rfl,hhe.same tp,⟨⟨fY,HH,by dsimp only;omega⟩,by dsimp only;omega,λl bL=>(by dsimp only;rw[jx];exact(gI l bL).rg),λl bL=>(by have:=(gI l bL).sz;have:=(gI l bL).few;have:=(gI l bL).st;omega)⟩,Am,λx ar=>(kF x ar).2,An,h4,.of mo,s1,by have:=Ai.len;omega,Aj,by dsimp only;rw[jx];exact Hz,QT qP hsz n4.pos n4.bal,λrs' db=>?_,∅,dM,jy,λy t aj s' bY=>?_,λy t u r aj xs s' bY e8 hL hX gF=>?_⟩
  .dsimp only at db;rw[<-jv,n4.len] at db;exact Zg8 n4 dN hsz db
  .dsimp only at y;rw[f8,HG] at y;refine Rd.Yv (.of bY) rfl ?_;have Q4:=s' _ _ tn;nofun;refine⟨by show 3<=sizeLine;decide,λec nU=>?_⟩;have qQ:Zd aj (upd aj ec (.lst [.ref mr,.ref e',.ref me])):=cF nU;have Ao:(upd aj ec (.lst [.ref mr,.ref e',.ref me])) ec=some (.lst [.ref mr,.ref e',.ref me]):=Ze;generalize upd aj ec (.lst [.ref mr,.ref e',.ref me])=Hk at*;have jz:=s'.trans qQ;have j4:=tp.trans jz;refine Rd.ZiM (vM (jz _ _ tn) (.of (jz _ _ Am)) (.of (jz _ _ An)) (.of (jz _ _ mo)) (s1.keep λb xs e=>jz _ _ e)) (vM Ao (.of (j4 _ _ vR)) (.of (j4 _ _ vS)) (.of (j4 _ _ vT)) (vU.keep λb xs e=>j4 _ _ e)) (qO _ _ _) (qO _ _ _) (Hr _ _ _) ?_;rw[SeqAt.eqv_refl _ (qO _ _ _)];nofun;rw[decide_eq_true y];nofun;exact k _
  .dsimp only at y e8 hX gF;rw[f8] at e8 hX;rw[f8,HG] at y gF;refine Rd.Yv (.of bY) rfl ?_;have Q4:=s' _ _ tn;nofun;refine⟨by show 3<=sizeLine;decide,λec nU=>?_⟩;have qQ:Zd aj (upd aj ec (.lst [.ref mr,.ref e',.ref me])):=cF nU;have Ao:(upd aj ec (.lst [.ref mr,.ref e',.ref me])) ec=some (.lst [.ref mr,.ref e',.ref me]):=Ze;generalize upd aj ec (.lst [.ref mr,.ref e',.ref me])=Hk at*;have jz:=s'.trans qQ;have j4:=tp.trans jz;refine Rd.ZiM (vM (jz _ _ tn) (.of (jz _ _ Am)) (.of (jz _ _ An)) (.of (jz _ _ mo)) (s1.keep λb xs e=>jz _ _ e)) (vM Ao (.of (j4 _ _ vR)) (.of (j4 _ _ vS)) (.of (j4 _ _ vT)) (vU.keep λb xs e=>j4 _ _ e)) (qO _ _ _) (qO _ _ _) (Hr _ _ _) ?_;rw[SeqAt.eqv_refl _ (qO _ _ _)];nofun;rw[decide_eq_false y];have he:=qQ _ _ e8;have gd:=qQ _ _ hL;have WK:=SqT.of (K:=K) he;have WL:=SqL.of (K:=K) gd;have Q5:=kt y;have HL:=hX.keep λb xs e=>qQ _ _ e;have Q6:=Q3.trans jz;have EX:=j4 _ _ vR;have Q7:=j4 _ _ vS;have ky:=j4 _ _ vT;have Q8:=vU.keep λb xs e=>j4 _ _ e;nofun;have Q9:ws.length*L<=400*3000:=qcd h4 Q5;refine .inr ⟨e',L,ws.map V.int,rfl,rfl,Q7,∅,∅,by rw[GM,GT];exact qap Q9 (by decide),λbr Q_=>?_⟩;rw[GT,QV];have sl:Zd Hk (upd Hk br (.lst ((repL L ws).map V.int))):=cF Q_;have fB:(upd Hk br (.lst ((repL L ws).map V.int))) br=some (.lst ((repL L ws).map V.int)):=Ze;generalize upd Hk br (.lst ((repL L ws).map V.int))=Hl at*;have HN:=Q6.trans sl;have WM:=Paired.length HL;have Q':(repL L ws).length<=2000000:=by rw[DE,qa9];omega
   have sD:=Ai.len;nofun;refine⟨b,mr,br,me,bs,ls,ms,repL L ws,ys,fss,rfl,HN _ _ nc,kD.keep (λb xs e=>HN _ _ e),∅,λl bL=>(by have:=(gI l bL).sz;have:=(gI l bL).few;have:=(gI l bL).st;omega),.of (sl _ _ EX),hC,kF,.of fB,Q',λw hw=>?_,.of (sl _ _ ky),Q8.keep (λb xs e=>sl _ _ e),∅,by rw[show fss.length=m by omega];exact Hz,Aj,∅,λxb Hm zs hdr bI hdrm HP=>?_⟩
   .obtain⟨l,ap,hw⟩:=List.mem_flatten.mp hw;rw[List.eq_of_mem_replicate ap] at hw;have:=HB.all w hw;omega
   have uB:=Paired.length HP;have Ap:=sl.trans bI;have Ra:=Ap _ _ he;have WN:=SqT.of (K:=K) Ra;have Rb:=Ap _ _ gd;have HQ:=SqL.of (K:=K) Rb;have HR:=SqL.of (K:=K) hdrm;have Rc:=HL.keep λb xs e=>Ap _ _ e;have WO:(xs.length:Int)=(zs.length:Int):=by omega
   nofun;refine⟨r,xb,rfl,⟨_,HQ⟩,⟨_,HR⟩,?_⟩;refine Ym (t5 HQ HR ∅) (λi ao aj=>Zd Hm aj/\∃hM Aq,ao=[some (.ref p),some (.int tj),some (.int m),some (.ref eg),some (.ref b),a6,some (.ref me),some (.ref e'),some (.ref mr),some (.int L),some (.int (L*S)),some (.ref bK),some (.ref cS),some (.ref u),some (.bl false),some (.ref xb),hM,Aq]) ⟨Zd.refl _,_,_,rfl⟩ (λi ao aj h=>h.1) ?_ ?_
   .rintro i ao Hn v Ho hi ⟨sn,hM,Aq,rfl⟩ ⟨t',jV,rfl,rfl⟩;have Ar:i<(codeL ls ms fss [] (repL L ws)).length:=by omega
    have g1:=mW (d:=V.non) (e:=((0,0,[]):Row3)) Rc Ar;have g2:=mW (d:=V.non) (e:=((0,0,[]):Row3)) HP Ar;have g3:=Zei Aj _ (show(codeL ls ms fss [] (repL L ws)).getD i (0,0,[])∈codeL ls ms fss [] (repL L ws) by rw[cL Ar];exact GE _);refine Rd.Yv (.of Ze) rfl ?_;have D4:Zd Hn (upd Hn t' (.tup [xs.getD i .non,zs.getD i .non])):=cF jV;generalize upd Hn t' (.tup [xs.getD i .non,zs.getD i .non])=Ho at*;have As:=sn.trans D4;generalize xs.getD i .non=x1 at*;generalize zs.getD i .non=x2 at*;nofun;refine⟨x1,x2,_,rfl,g1.keep (λb xs e=>As _ _ e),g2.keep (λb xs e=>As _ _ e),g3,λWQ sp=>?_⟩;nofun;exact⟨As.trans sp,_,_,rfl⟩
   .rintro ao Hn ⟨sn,hM,Aq,rfl⟩;nofun;exact k _
theorem walk{l:PySem.W.OpenLaw}{q:Program}{pK:List Str}{pL:(Str->Option Value)->Heap->Prop}{np:World->Heap->Prop}{d:DefRec}{K:Params->Frag}(b':l.most=some 63)(lC:d.params.defaults=[])(qt:d.name="law")
  (q':∀(w:World)(h:Heap),np w h->(K w.params).In h)
  (F:∀(w:World)(mg:Str->Option Value)(h:Heap),(K w.params).In h->h.Ns mainGlobals mg->∃T:Tp (K w.params) mg,True):
  PySem.W.WalkO q pK pL np l.row.toRowW d [] (λf vs=>PySem.call f vs):=by
 refine _L.Zng (n:=63) (k:=13) (x:="_law_script") (CX:=λw=>CXX l.prog w) (sp:=λw=>Zmk (K w.params)) b' (by decide) lC ⟨rfl,by decide,by decide⟩ q' (λw mg fS h e4 G pM=>?_) (λ_ _ a ns ap _ g5=>⟨a,ns,rfl,g5,ap,λ_=>rfl⟩) ?_
 .obtain⟨T,_⟩:=F w mg h e4 G;rw[qt,T.aX.m] at pM;cases pM;exact⟨T.aX.d,T.aY,λbase _ _=>Znw T⟩
 .intro w H s e s' z;obtain⟨_,_,_,_,_,_,_,_,_,_,_,_,_,_,z⟩:=z;rcases z with⟨_,z⟩|⟨_,_,_,z⟩<;>exact z
end _N
namespace PySem.W.Fast
def tw4041462538028325491:=Nat
def tw6073696939795588362:=Nat
def tw11280878664268246328:=Nat
def tw9410873255681762381:=Nat
def tw3445712420815046716:=Nat
def tw7929335627893995556:=Nat
def tw2355771346144908367:=Nat
def tw10448749531262005145:=Nat
def tw644378803850852938:=Nat
def tw8333933637944333767:=Nat
def tw11929265989361097378:=Nat
def tw8231884893082453161:=Nat
def tw1840644085492023255:=Nat
def tw2575816252001815081:=Nat
def tw1896987145375861964:=Nat
def tw10811582126277387941:=Nat
def tw8615529078902452707:=Nat
def tw11848162628484251682:=Nat
def tw5810667946292897866:=Nat
def tw17342414502559754501:=Nat
def tw13837035043729913316:=Nat
def tw13106246854764325388:=Nat
def tw6255655963008431470:=Nat
def tw2839729138821156900:=Nat
def tw3145138007794618454:=Nat
def tw7118409294298404305:=Nat
def tw5840308178740827632:=Nat
def tw17319035739950667394:=Nat
def tw15583184484045306366:=Nat
def tw313302923073957379:=Nat
def tw14638283563895650654:=Nat
def tw1420400534342224252:=Nat
def tw13761785164059547203:=Nat
def tw1839939565277136699:=Nat
def tw12807411798991601219:=Nat
def tw7001723520628771630:=Nat
def tw15144204121384843777:=Nat
def tw5819268177181423455:=Nat
def tw15056329780435320634:=Nat
def tw11818340223981824127:=Nat
def tw901787421578716186:=Nat
def tw746285545061572707:=Nat
def tw14690917806996862794:=Nat
def tw2459230410779657599:=Nat
def tw8185718418997593643:=Nat
def tw11339563865836561829:=Nat
def tw6300636121741045077:=Nat
def tw8775580564439791590:=Nat
def tw2080216622144835034:=Nat
def tw10412663202264238586:=Nat
def tw13284868556622858536:=Nat
def tw10916924759511072855:=Nat
def tw17232584694234605853:=Nat
def tw16882039043301352529:=Nat
def tw2946739126764807797:=Nat
def tw15209626756894425708:=Nat
def tw17663611153837779864:=Nat
def tw17899273326843415635:=Nat
def tw16134860105626417311:=Nat
def tw11128498424614001197:=Nat
def tw11585558083476954929:=Nat
def tw11594798010256053812:=Nat
def tw9314001214887998297:=Nat
def tw8882688847986739692:=Nat
def tw5567106900543487218:=Nat
def tw14665324813735518741:=Nat
def tw4954923867200006900:=Nat
def tw10569063325735530312:=Nat
def tw9412390669988652150:=Nat
def tw12705015398479578318:=Nat
def tw16279673331283703312:=Nat
def tw6035037069911075360:=Nat
def tw6729331223751404920:=Nat
def tw9719405056009054752:=Nat
def tw7047043655536021488:=Nat
def tw4172043267035103767:=Nat
def tw15695031541770893014:=Nat
def tw16137450442500390844:=Nat
def tw15909483016692037345:=Nat
def tw7173697674394831037:=Nat
def tw16956461401307393647:=Nat
def tw8300208118771480299:=Nat
def tw5735530163693400545:=Nat
def tw6801692330871470717:=Nat
def tw18224163283320488754:=Nat
def tw11383722530741652532:=Nat
def tw4414674945829142189:=Nat
def tw17055610980410427455:=Nat
def tw6417496433458748459:=Nat
def tw6812256289519679089:=Nat
def tw7829886517671522369:=Nat
def tw15267910095194338564:=Nat
def tw12931166950342770982:=Nat
def tw7782112495939338768:=Nat
def tw10827566770676659433:=Nat
def tw2154494108549741486:=Nat
def tw7038552498743165415:=Nat
def tw2566742219948164443:=Nat
def tw15225237961367926224:=Nat
def tw16751161216924551452:=Nat
def tw17720017745456083956:=Nat
def tw14252008277757191169:=Nat
def tw11766128665157971843:=Nat
def tw15566588523313004514:=Nat
def tw14744420763649053237:=Nat
def tw2230652051831088368:=Nat
def tw11125562510302665731:=Nat
def tw7742500453192910051:=Nat
def tw10751894734532519983:=Nat
def tw14716064867144552745:=Nat
def tw6909088585856512037:=Nat
def tw7923577629464751686:=Nat
def tw1179566106204890582:=Nat
def tw1284067304029201648:=Nat
def tw16920763315841771187:=Nat
def tw11164225506742166302:=Nat
def tw8762468625467473658:=Nat
def tw14760424960992682596:=Nat
def tw7374498503338176815:=Nat
def tw8366441294653734690:=Nat
def tw7154147375691755997:=Nat
def tw17686768597766789906:=Nat
def tw2638700115648038612:=Nat
def tw2144368175909951152:=Nat
def tw3492999734577218305:=Nat
def tw7211976859056933919:=Nat
def tw13694120414986245712:=Nat
def tw5658063129006822205:=Nat
def tw14004482441755742871:=Nat
def tw11150745761763121389:=Nat
def tw9697471285153770276:=Nat
def tw2365231458309336624:=Nat
def tw6870155666656020407:=Nat
def tw10037903339554128325:=Nat
def tw3907235140238148621:=Nat
def tw7241679209036792212:=Nat
def tw12298326911505485698:=Nat
def tw8074097277461551885:=Nat
def tw10701627521016581397:=Nat
def tw4055770360373781916:=Nat
def tw12309156284133524496:=Nat
def tw10152896834118674348:=Nat
def tw13710203610486074030:=Nat
def tw7706579566885707688:=Nat
def tw15904626779338020911:=Nat
def tw6480222413077775948:=Nat
def tw17864748369902358537:=Nat
def tw12503298553435211599:=Nat
def tw67955654057734488:=Nat
def tw2743196951184416751:=Nat
def tw10998360995834655890:=Nat
def tw18401032895777915550:=Nat
def tw18066221940910774187:=Nat
def tw7643195803985520942:=Nat
def tw3832113257942723948:=Nat
def tw17009349574091752906:=Nat
def tw2797672898236768451:=Nat
def tw4384848152101747166:=Nat
def tw18136004549591840671:=Nat
def tw11852123646852120119:=Nat
def tw4342963891277635922:=Nat
def tw2745933687461354889:=Nat
def tw15981557935664721474:=Nat
def tw10236556887458072472:=Nat
def tw14933758913375007393:=Nat
def tw465504023918844:=Nat
def tw6128577460731938862:=Nat
def tw12813278577854185429:=Nat
def tw2478988363765127725:=Nat
def tw4644966803355304819:=Nat
def tw10369496959936171196:=Nat
def tw2997592675674349451:=Nat
def tw6260334896850473268:=Nat
def tw6627288855224345755:=Nat
def tw5576782621176897590:=Nat
def tw16095639026311238447:=Nat
def tw8767809593432119937:=Nat
def tw4505423227156773581:=Nat
def tw16116814437680929214:=Nat
def tw16325296164551302540:=Nat
def tw256439031833224578:=Nat
def tw18129722949346102485:=Nat
def tw9402031914407438218:=Nat
def tw7588386237676611347:=Nat
def tw1151868910718255433:=Nat
def tw1125580815099593962:=Nat
def tw15780316367453988025:=Nat
def tw15035968448573748264:=Nat
def tw5953624098467260650:=Nat
def tw14022082464007153977:=Nat
def tw211663742266607609:=Nat
def tw3044534947561973455:=Nat
def tw7821086217741459258:=Nat
def tw13246527329630946002:=Nat
def tw688456055197467714:=Nat
def tw14713805239540333907:=Nat
def tw4021147515539881777:=Nat
def tw16748160306558447144:=Nat
def tw14128256913047378069:=Nat
def tw17055994183790462175:=Nat
def tw16268307228593035493:=Nat
def tw9454887940136151398:=Nat
def tw2459856990165624042:=Nat
def tw17146214255383792737:=Nat
def tw16775248337497061551:=Nat
def tw10909522049657004190:=Nat
def tw15867612759060665523:=Nat
def tw8894990574234676118:=Nat
def tw17923940287919196351:=Nat
def tw8054622616658661360:=Nat
def tw15194126153311598216:=Nat
def tw17809646082790771846:=Nat
def tw7395350988508433700:=Nat
def tw3478757131136419103:=Nat
def tw6286680247633905068:=Nat
def tw3711996883147486745:=Nat
def tw9257823337220279776:=Nat
def tw12756844399006142392:=Nat
def tw6341937693495430907:=Nat
def tw7634854850233943698:=Nat
def tw3882141812170850014:=Nat
def tw2197700931112625301:=Nat
def tw14315119558981423003:=Nat
def tw11774423862170668072:=Nat
def tw17185029519922160601:=Nat
def tw16313177900284801528:=Nat
def tw17624158404201758941:=Nat
def tw1091227590683976810:=Nat
def tw1937060155934533872:=Nat
def tw6284177661393359359:=Nat
def tw15473310033253177661:=Nat
def tw6401296711793541056:=Nat
def tw16433308931654425496:=Nat
def tw16962653473965487028:=Nat
def tw3745553405402493582:=Nat
def tw9410682191369298971:=Nat
def tw3356462336822895169:=Nat
def tw13518664906324090188:=Nat
def tw10840196815088074564:=Nat
def tw18332811833331288120:=Nat
def tw15726339385887524339:=Nat
def tw13620408994389542833:=Nat
def tw1815900775430108970:=Nat
def tw3619176145393571823:=Nat
def tw10652507383689956508:=Nat
def tw11618736477230152585:=Nat
def tw6831779812616573225:=Nat
def tw385008087472566783:=Nat
def tw13897005851962577370:=Nat
def tw16895291426014777999:=Nat
def tw2596873652119590579:=Nat
def tw15784915769507460714:=Nat
def tw15723478598930250175:=Nat
def tw9355690527837335631:=Nat
def tw5398827665913385270:=Nat
def tw10709253574854441798:=Nat
def tw3644028602902939192:=Nat
def tw5349598674396893083:=Nat
def tw2014146121724812611:=Nat
def tw8649839088817875588:=Nat
def tw4280201686937495283:=Nat
def tw6331415902325173737:=Nat
def tw3030919991950401591:=Nat
def tw10100698827057032484:=Nat
def tw13548079740468926218:=Nat
def tw4239904357447156286:=Nat
def tw6563263689574155371:=Nat
def tw16432288778185581855:=Nat
def tw14627652183601456432:=Nat
def tw16084463654995364881:=Nat
def tw4128461069874205489:=Nat
def tw4607133430824197298:=Nat
def tw3343403877743262833:=Nat
def tw2742143918458008919:=Nat
def tw13966865745705322161:=Nat
def tw1699400647515145501:=Nat
def tw17613568428552279815:=Nat
def tw5633982722564870697:=Nat
def tw11336458675496297139:=Nat
def tw17083584893541565048:=Nat
def tw16002806153365021075:=Nat
def tw9059256358791602734:=Nat
def tw12619102007685363164:=Nat
def tw13683632160628518555:=Nat
def tw12122040351789257121:=Nat
def tw7839546725637360068:=Nat
def tw3188913902091036502:=Nat
def tw3895276021254560732:=Nat
def tw8018075211780671346:=Nat
def tw14781671963545245542:=Nat
def tw5860689371498909121:=Nat
def tw371638877374186591:=Nat
def tw10362456439012611656:=Nat
def tw1132183129998826846:=Nat
def tw5394321666955300709:=Nat
def tw9140017654064547588:=Nat
def tw5650625780218405630:=Nat
def tw14386890671461475477:=Nat
def tw6876501933765000630:=Nat
def tw9080526213025315589:=Nat
def tw14605162934140509988:=Nat
def tw4430255022618988456:=Nat
def tw16245919444839260798:=Nat
def tw13953315572357820319:=Nat
def tw10383832345854493633:=Nat
def tw15504483780814191503:=Nat
def tw4191156308079493389:=Nat
def tw16036398375980171056:=Nat
def tw13438446005389572921:=Nat
def tw17937262121909588925:=Nat
def tw2474154626077360906:=Nat
def tw8105613865351064733:=Nat
def tw12081021466412916933:=Nat
def tw9083741917159897995:=Nat
def tw16269485407787708887:=Nat
def tw11846733782930309614:=Nat
def tw3815568383483846935:=Nat
def tw2051983302421737663:=Nat
def tw7101714853521340589:=Nat
def tw14891559544999863183:=Nat
def tw8955453589651856727:=Nat
def tw2752091975221549329:=Nat
def tw6526130729759977099:=Nat
def tw14751692471753964813:=Nat
def tw10309514938573425906:=Nat
def tw4030275191190069054:=Nat
def tw17340188273298288094:=Nat
def tw4449617330002975679:=Nat
def tw6371226560083774165:=Nat
def tw1366404199777558695:=Nat
def tw8495034410486785834:=Nat
def tw8064268121045418458:=Nat
def tw1082721986247765321:=Nat
def tw5508941839126188555:=Nat
def tw15320757774089863660:=Nat
def tw11428035675885737028:=Nat
def tw8308509053287619575:=Nat
def tw8694292470850745535:=Nat
def tw3358663489241074112:=Nat
def tw15833767142339251932:=Nat
def tw4349868305447566000:=Nat
def tw5423199655232046285:=Nat
def tw13480465263481386163:=Nat
def tw12437920358083127735:=Nat
def tw15965354718803132699:=Nat
def tw2693754827345739934:=Nat
def tw9629708704837180926:=Nat
def tw3729029321953085136:=Nat
def tw13754947778782500728:=Nat
def tw577442603303297712:=Nat
def tw5740171674920526665:=Nat
def tw5080073179753249756:=Nat
def tw590383669127060428:=Nat
def tw674199775128786566:=Nat
def tw15289069497025601839:=Nat
def tw8372250906069577397:=Nat
def tw5756629888431272616:=Nat
def tw18150865228001867839:=Nat
def tw13657040557904316547:=Nat
def tw9819443684248874764:=Nat
def tw9812428549112181877:=Nat
def tw4330447551918789799:=Nat
def tw9165472816243359077:=Nat
def tw2839810648896607635:=Nat
def tw16975742535423100875:=Nat
def tw11511838193873558687:=Nat
def tw604132258545688244:=Nat
def tw360034024177742670:=Nat
def tw5712498871306584174:=Nat
def tw72278230907975791:=Nat
def tw336961395068524571:=Nat
def tw2491954778336501133:=Nat
def tw764512217977945736:=Nat
def tw907369082328255355:=Nat
def tw11318304873037266120:=Nat
def tw18221908443932311495:=Nat
def tw11240937603900333191:=Nat
def tw10770671780147859223:=Nat
def tw384678533856294636:=Nat
def tw5745815797453104203:=Nat
def tw3254285023933460975:=Nat
def tw15206209337232582298:=Nat
def tw13456041002826238470:=Nat
def tw10591612862930616249:=Nat
def tw1880747453755459540:=Nat
def tw14514753705065968776:=Nat
def tw14735500288889835990:=Nat
def tw12201816954601107225:=Nat
def tw2824350815855187025:=Nat
def tw18254864517605430014:=Nat
def tw17039885932158785203:=Nat
def tw13454124567541683234:=Nat
def tw11478072680828670058:=Nat
def tw16348114187793236503:=Nat
def tw6112042041185932622:=Nat
def tw2667539359394002200:=Nat
def tw15354966503260657487:=Nat
def tw2659578115542923487:=Nat
def tw4445150196973020864:=Nat
def tw10413028585472447591:=Nat
def tw4386839208661983421:=Nat
def tw13664940464749936958:=Nat
def tw3158178257861841447:=Nat
def tw10893446200212713215:=Nat
def tw14334534450970798730:=Nat
def tw16695085109246330714:=Nat
def tw12704010697545969011:=Nat
def tw4867988851544318686:=Nat
def tw975021581040220493:=Nat
def tw6088154488627612027:=Nat
def tw3019660545902701168:=Nat
def tw17934040127612780580:=Nat
def tw17239332954192770381:=Nat
def tw12399381113908797650:=Nat
def tw14638610630836584785:=Nat
def tw16510107584519113623:=Nat
def tw9531258584376057828:=Nat
def tw15618365967941779565:=Nat
def tw16409136615248136986:=Nat
def tw10593752063292376744:=Nat
def tw16950062700085905480:=Nat
def tw6923249061448426088:=Nat
def tw10972686528585278441:=Nat
def tw4749658905037198297:=Nat
def tw11533358406059636423:=Nat
def tw13024933178686934431:=Nat
def tw18070215261897304894:=Nat
def tw8212172589148071314:=Nat
def tw16829970479498473028:=Nat
def tw11283660094302877165:=Nat
def tw5392286633987128992:=Nat
def tw1091132496017535553:=Nat
def tw17071345306887681189:=Nat
def tw15792251477562123405:=Nat
def tw11449134262353946994:=Nat
def tw3314667698786387768:=Nat
def tw8705022960727857217:=Nat
def tw9395450992680734157:=Nat
def tw8523801470009240153:=Nat
def tw9651843687999430137:=Nat
def tw10695835266192271757:=Nat
def tw720606415280349575:=Nat
def tw12180424596435077863:=Nat
def tw14629415988201854836:=Nat
def tw3273041783105565431:=Nat
def tw7426398393366722498:=Nat
def tw7462552922886173774:=Nat
def tw6212583824302593055:=Nat
def tw5105081735577130330:=Nat
def tw17018226925617015500:=Nat
def tw11209466786761564991:=Nat
def tw1902443581830878745:=Nat
def tw1913270306315743777:=Nat
def tw8332737510871620331:=Nat
def tw4987100869538306358:=Nat
def tw4522197313219950877:=Nat
def tw8902092819957731061:=Nat
def tw8032765751900597513:=Nat
def tw15041622887094601848:=Nat
def tw15130797411161835829:=Nat
def tw13165170933679157348:=Nat
def tw12841323982476663662:=Nat
def tw16070312333300587093:=Nat
def tw725955309844822326:=Nat
def tw2470951494581584020:=Nat
def tw10635291670687765848:=Nat
def tw3513824415831993256:=Nat
def tw9120875804064065606:=Nat
def tw14589108216526113767:=Nat
def tw12597404839439407894:=Nat
def tw16385375391652991507:=Nat
def tw16522725708599463257:=Nat
def tw5356876352836171576:=Nat
def tw17466419034058156825:=Nat
def tw12207124383419567674:=Nat
def tw11217924208722664630:=Nat
def tw3067801824104298466:=Nat
def tw12008903492904111894:=Nat
def tw2569284100571329683:=Nat
def tw9529836626362790101:=Nat
def tw4852804771712454580:=Nat
def tw6602151409153319132:=Nat
def tw2704717805421083484:=Nat
def tw10072511639233787975:=Nat
def tw11582765564366924105:=Nat
def tw9071948460244730015:=Nat
def tw7788149637074704607:=Nat
def tw16773156019719993698:=Nat
def tw15324375661116595881:=Nat
def tw14699673719849502602:=Nat
def tw13856630570790678085:=Nat
def tw9093892586778361261:=Nat
def tw1467620329240052327:=Nat
def tw5992335607506647284:=Nat
def tw2200836820658919436:=Nat
def tw7415703956043055254:=Nat
def tw14450806147115128042:=Nat
def tw7924932424154871692:=Nat
def tw6909393325059708682:=Nat
def tw16765354610953709696:=Nat
def tw7759190039045569754:=Nat
def tw1895245024206966153:=Nat
def tw17677017026639577772:=Nat
def tw8435686643323005001:=Nat
def tw14897691022534968202:=Nat
def tw13780545961315115178:=Nat
def tw11226774741843669771:=Nat
def tw4484072537883389576:=Nat
def tw13160544576933806370:=Nat
def tw3755886471275941086:=Nat
def tw7648777455537483962:=Nat
def tw7124674314237980377:=Nat
def tw3677314060838513784:=Nat
def tw5349097467387048900:=Nat
def tw8206441799133011815:=Nat
def tw14479664211364623204:=Nat
def tw822359780858473606:=Nat
def tw4317415536124107929:=Nat
def tw10957823479073766032:=Nat
def tw16002531907631018310:=Nat
def tw9847104125850827194:=Nat
def tw3837566986720994752:=Nat
def tw2715291192035189157:=Nat
def tw1091822101754234759:=Nat
def tw13921049219915280575:=Nat
def tw14196822316589806136:=Nat
def tw14498100954440055741:=Nat
def tw14760219861262425404:=Nat
def tw14552083835894722388:=Nat
def tw7429764097277965528:=Nat
def tw1604829143456418752:=Nat
def tw1656159280895140025:=Nat
def tw1264587335089195578:=Nat
def tw6547914449710259519:=Nat
def tw18177021144026682310:=Nat
def tw17528159643710890051:=Nat
def tw16863995866603784332:=Nat
def tw7692568742670547514:=Nat
def tw11063080268725720723:=Nat
def tw14304919359402189714:=Nat
def tw1607446388404580566:=Nat
def tw12326746866152715125:=Nat
def tw17357134306487849573:=Nat
def tw1324397252116456749:=Nat
def tw4033966239132805258:=Nat
def tw10327109235714068708:=Nat
def tw1191259118348874645:=Nat
def tw9314623124504380778:=Nat
def tw16462528007897875512:=Nat
def tw8661097853174508542:=Nat
def tw4361080512960219545:=Nat
def tw15100009917381227822:=Nat
def tw3117724613501821779:=Nat
def tw2089525407684963015:=Nat
def tw16154740143954505407:=Nat
def tw5237282962064988583:=Nat
def tw9544593480485001435:=Nat
def tw8640286191761308087:=Nat
def tw8234383708624221506:=Nat
def tw15618235671830964565:=Nat
def tw11623884732200634423:=Nat
def tw15981643387212624882:=Nat
def tw11204664943212050040:=Nat
def tw17863680992219035215:=Nat
def tw3686885829098112425:=Nat
def tw9851332893532239757:=Nat
def tw8197951864435772880:=Nat
def tw9205920277481780238:=Nat
def tw10344682836595519980:=Nat
def tw1489049548672254842:=Nat
def tw5353096691430498121:=Nat
def tw1130185860156014621:=Nat
def tw13718148291060353797:=Nat
def tw17542942333531032572:=Nat
def tw59887523921196404:=Nat
def tw11709746482209595124:=Nat
def tw310950260208393671:=Nat
def tw8748042810273590498:=Nat
def tw8366138589766140072:=Nat
def tw13124460107132835386:=Nat
def tw12133741146224840352:=Nat
def tw45836670454311979:=Nat
def tw14053900733698877681:=Nat
def tw17212756701386940249:=Nat
def tw11696635433734098051:=Nat
def tw16560383346871413785:=Nat
def tw6048961068183800991:=Nat
def tw5582464474917155745:=Nat
def tw4875578428710557488:=Nat
def tw12801153365486453689:=Nat
def tw3478187221062219801:=Nat
def tw1064780980793446687:=Nat
def tw2771376257765492506:=Nat
def tw12922986645125371702:=Nat
def tw13011679401667520872:=Nat
def tw3608376986479464978:=Nat
def tw2581425449763744361:=Nat
def tw8256366225512369974:=Nat
def tw3570747952616079286:=Nat
def tw9746229226122347958:=Nat
def tw6208721871219657067:=Nat
def tw8515330736166945075:=Nat
def tw4325907332347709999:=Nat
def tw9313441838652363865:=Nat
def tw13920510735179990929:=Nat
def tw17401132588228726732:=Nat
def tw6755389549902440942:=Nat
def tw12002505819848805481:=Nat
def tw13901567356532374782:=Nat
def tw10594181456633712691:=Nat
def tw3464287523267397920:=Nat
def tw7669193694398187575:=Nat
def tw5745849705465433914:=Nat
def tw9804838478061924162:=Nat
def tw16586732850724377357:=Nat
def tw9088520736605769550:=Nat
def tw18436614891620051489:=Nat
def tw7270645886384976450:=Nat
def tw2666170682815809787:=Nat
def tw8599774465833586455:=Nat
def tw18037662952483037335:=Nat
def tw11818566005151962696:=Nat
def tw12900169124744878657:=Nat
def tw13742613501042434612:=Nat
def tw3612874487496635441:=Nat
def tw14898182636164314189:=Nat
def tw10084763818730198146:=Nat
def tw4860800405115799327:=Nat
def tw9336530925373468287:=Nat
def tw11527595713599632694:=Nat
def tw1607290839122908467:=Nat
def tw4837718065660122664:=Nat
def tw12454526579902392585:=Nat
def tw6146562712626063433:=Nat
def tw1853828728606826362:=Nat
def tw10800500089178424965:=Nat
def tw14595880277315823881:=Nat
def tw16132292897386615847:=Nat
def tw2707720672432422999:=Nat
def tw11049686873962110484:=Nat
def tw13090763123908446918:=Nat
end PySem.W.Fast
open PySem PySem.W PyProof.Rows
local macro_rules| `(tactic|walk_at "dn")=>`(tactic|(refine' _L.Dn.of (by assumption) (by assumption) ?a ?l ?c ?k ?b;(case a=>k_is);(case l=>k_is);(case c=>k_is);(case k=>k_is);(case b=>(repeat refine _L.lenS λ_=>?_);exact _L.ZlA λ_ _ _ _ _ _=>rfl)))
local macro_rules| `(tactic|walk_at "dm")=>`(tactic|(refine' _L.Dm.of ?a ?i ?l ?c ?k ?b;(case a=>k_is);(case i=>k_is);(case l=>k_is);(case c=>k_is);(case k=>k_is);(case b=>(repeat refine _L.lenS λ_=>?_);exact _L.ZlA λ_ _ _ _ _ _=>rfl)))
local macro_rules| `(tactic|walk_at "di")=>`(tactic|(refine' _L.Di.of ?z ?y ?a ?i ?l ?c ?k ?b;(case z=>k_is);(case y=>k_is);(case a=>k_is);(case i=>k_is);(case l=>k_is);(case c=>k_is);(case k=>k_is);(case b=>(repeat refine _L.lenS λ_=>?_);exact _L.ZlA λ_ _ _ _ _ _=>rfl)))
local macro_rules| `(tactic|walk_at "na")=>`(tactic|((repeat refine _L.Zm2 (by k_is) ?_);exact _L.Znm))
local macro_rules| `(tactic|walk_at "ex")=>`(tactic|(refine' ⟨?g,mg_of (by assumption) (by assumption) ?m,?e⟩;(case g=>k_is);(case m=>k_is);(case e=>k_exc)))
local macro_rules| `(tactic|walk_at "xc")=>`(tactic|exact⟨_L.ZkX (show excIn _ _ [.type "ValueError",.type "Exception",.type "BaseException",.type "object"] "ValueError.__new__" =true by k_exc),by k_is,by k_is,by k_is,by k_is,by k_is,by k_is,by k_is⟩)
set_option maxRecDepth 100000 in
set_option maxHeartbeats 0 in
theorem PySem.Challenge.cw_ratehall_k29_code_rows_holds : PySem.Challenge.rw_ratehall_k29_code_rows.Holds := by
 w_on;o_law;k_head;(case hw=>w_witness2)
 k_fill
 refine _N.walk (l:=PySem.Challenge.rw_ratehall_k29_code_rows) rfl rfl rfl (λw h Y=>kIn_of Y) ?F
 case F=>
  intro w mg h e4 G
  refine' ⟨_N.Tp.mk (mg_of e4 G ?Re) ⟨?Rf,?Rg,?Rh,?Ri⟩ ?Rj (mg_of e4 G ?Rk) ⟨?Rl,?Rm,?Rn,?Ro⟩ ?Rp (mg_of e4 G ?Rq) ⟨?Rr,?Rs,?Rt,?Ru⟩ ?Rv ?Rw ?Rx ?Ry ?Rz ?RA ?RB ?RC ?RD ?RE ?RF ?RG ?RH ?RI ?RJ ?RK ?RL ?RM ?RN ?RO ⟨?RP,?RQ,?RS⟩ (_L.ZmY ?RT ?RU ?RV) (_L.ZnT ?RW) ?RX ?RY (.cons ⟨_,rfl⟩ .nil) ?RZ ?R0 ?R1 ?R3 ?R4 ?R5 ?R6 ?R7 ?R8 ?R9 ?R_ ?R' ?Sa ?Sb ?Sc ?Sd ?Se ?Sf ?Sg ?Sh ?Si ?Sj ?Sk ?Sl ?Sm ?Sn ?So ?Sq ?Sr ?Ss ?Su ?Sv ?Sw ?Sx ?Sy ?Sz ?SA ?SD ?SE ?SF ?SG ?SH ?SI ?SJ ?SK ?SM ?SN ?SO ?SQ ?SR ?SS ?SU ?SV (mg_none_of e4 G ?SW) (mg_none_of e4 G ?SX) (mg_none_of e4 G ?SY) (mg_none_of e4 G ?S0) (mg_none_of e4 G ?S1) (mg_none_of e4 G ?S2) (mg_none_of e4 G ?S3) (mg_none_of e4 G ?S4) (mg_none_of e4 G ?S5) (mg_none_of e4 G ?S6) (mg_none_of e4 G ?S7) (mg_none_of e4 G ?S8) (mg_none_of e4 G ?S9) (mg_none_of e4 G ?S_) (mg_none_of e4 G ?S') ?Ta ?Tb ?Tc ?Td ?Te ?Tf ?Tg ?Th ?Ti ?Tj ?Tk ?Tl ?Tn ?To ?Tq ?Tr ?Ts (mg_of e4 G ?Tt) (mg_of e4 G ?Tu) (mg_of e4 G ?Tv) (mg_of e4 G ?Tw) (mg_of e4 G ?Tx) ?Tz,trivial⟩
  case Re|Rf|Rg|Rh|Ri=>k_is
  case Rj=>walk_at "na"
  case Rk|Rl|Rm|Rn|Ro=>k_is
  case Rp=>walk_at "na"
  case Rq|Rr|Rs|Rt|Ru=>k_is
  case Rv=>walk_at "na"
  case Rw|Rx|Ry|Rz|RA|RB|RC|RD|RE|RF|RG|RH=>walk_at "dn"
  case RI=>walk_at "dm"
  case RJ|RK|RL|RM=>walk_at "dn"
  case RN|RO=>walk_at "dm"
  case RP|RQ|RS|RT|RU|RV|RW=>k_is
  case RX=>exact λs us X ap=>(match us,(show us.length=6 by simpa using ap) with| [_,_,_,_,_,_],_=>binds_K X rfl (by k_is) rfl rfl rfl)
  case RY=>exact λs us X ap=>(match us,(show us.length=5 by simpa using ap) with| [_,_,_,_,_],_=>binds_K X rfl (by k_is) rfl rfl rfl)
  case RZ=>walk_at "di"
  case R0=>walk_at "dn"
  case R1|R3|R4=>walk_at "dm"
  case R5|R6=>walk_at "dn"
  case R7=>walk_at "dm"
  case R8|R9=>walk_at "dn"
  case R_=>walk_at "dm"
  case R'=>walk_at "dn"
  case Sa=>walk_at "dm"
  case Sb|Sc|Sd|Se|Sf|Sg|Sh|Si|Sj|Sk|Sl|Sm|Sn|So|Sq|Sr|Ss|Su|Sv|Sw|Sx|Sy=>walk_at "dn"
  case Sz|SA=>walk_at "dm"
  case SD=>walk_at "di"
  case SE|SF|SG=>walk_at "dn"
  case SH|SI=>walk_at "dm"
  case SJ=>walk_at "dn"
  case SK=>walk_at "di"
  case SM|SN|SO|SQ|SR|SS|SU|SV=>walk_at "dn"
  case SW|SX|SY|S0|S1|S2|S3|S4|S5|S6|S7|S8|S9|S_|S'=>k_is
  case Ta|Tb|Tc|Td|Te|Tf|Tg|Th|Ti|Tj|Tk|Tl|Tn=>walk_at "ex"
  case To|Tq=>kts_exm
  case Tr=>walk_at "xc"
  case Ts=>kit_is
  case Tt|Tu|Tv|Tw|Tx=>k_is
  case Tz=>exact λs v=> .of_eq rfl
#print axioms PySem.Challenge.cw_ratehall_k29_code_rows_holds
