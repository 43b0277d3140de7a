import PyProof.Rows.All
import Wide.All
import OpenK.AllK
import Wide.FinOn
import Lean
import PyProof.EqAt
import PyProof.EqKinds
import PyProof.TupleCall
import PyProof.FactsAll.set
import PySem.Challenge.RW_ratehall_k18_rooms_that_fit
set_option maxHeartbeats 4000000
set_option compiler.extract_closed false
set_option bootstrap.genMatcherCode false
local macro_rules| `(tactic|omega)=>`(tactic|with_reducible first|exact qaN _|lia|fail)
set_option Elab.async false
set_option linter.all false
set_option maxRecDepth 100000
open PySem.W (instObj methodObj hideAll hideAll_get of_hideAll lookIn plainGet hasDictIn handedIn plainGet_of isFn plainOver takerIn makesIn typeIn emptyDict keepIn methodCall_KW kitx_list kitx_dict callWith_K callWith_K0 cellsFrom_some fnOf codeIn nsIn excIn mg_of exmOne kIn_of mg_none_of binds_K)
abbrev GE:=@List.length_map
abbrev GM:=@List.getElem?_eq_some_iff
abbrev GT:=@List.getElem?_eq_getElem
abbrev fm:=@List.getElem_mem
abbrev FM:=@Nat.le_refl
abbrev qaa:=@Int.toNat_natCast
abbrev qab:=@List.mem_singleton
abbrev qac:=@List.length_append
abbrev qad:=@Nat.lt_of_lt_of_le
abbrev qae:=@List.size_toArray
abbrev qaf:=@List.mem_cons
abbrev qag:=@Bool.false_ne_true
abbrev qah:=@List.mem_map
abbrev qai:=@PySem.boot_len
abbrev qaj:=@List.getElem?_map
abbrev qak:=@Nat.ne_of_lt
abbrev qal:=@List.mem_of_getElem?
abbrev qam:=@List.take_succ_eq_append_getElem
abbrev qan:=@PyProof.Rows.boot_isinstance
abbrev qao:=@List.filter_eq_self
abbrev qap:=@Option.some.inj
abbrev qaq:=@List.mem_append_right
abbrev qar:=@List.mem_append
abbrev qas:=@List.mem_cons_of_mem
abbrev qat:=@List.getElem_of_mem
abbrev qau:=@Nat.pow_le_pow_right
abbrev qav:=@Nat.lt_of_le_of_lt
abbrev qaw:=@List.ext_getElem
abbrev qax:=@PySem.F.plainAttrs_list
abbrev qay:=@PySem.F.excBase_ValueError
abbrev qaz:=@Nat.le_trans
abbrev qaA:=@Nat.zero_le
abbrev qaB:=@List.getElem?_append_left
abbrev qaC:=@Nat.lt_or_ge
abbrev qaD:=@PySem.F.slot_list_append
abbrev qaE:=@PySem.F.type_list_append
abbrev qaF:=@List.not_mem_nil
abbrev qaG:=@List.map_append
abbrev qaH:=@Nat.not_lt_zero
abbrev qaI:=@Nat.mul_assoc
abbrev qaJ:=@List.getElem?_append_right
abbrev qaK:=@Array.getElem?_eq_getElem
abbrev qaL:=@List.mem_range
abbrev qaM:=@PyProof.Rows.boot_list
abbrev qaN:=@Int.natCast_nonneg
abbrev qaO:=@List.length_singleton
abbrev qaP:=@List.length_take
abbrev qaQ:=@Nat.div_le_self
abbrev qaR:=@Int.emod_nonneg
abbrev qaS:=@List.take_of_length_le
abbrev qaT:=@Nat.mul_left_comm
abbrev qaU:=@Nat.eq_zero_or_pos
abbrev qaV:=@PyProof.Rows.callWith_type1
abbrev qaW:=@List.getElem?_eq_none
abbrev qaX:=@Nat.le_of_lt
abbrev qaY:=@List.mem_filter
abbrev qaZ:=@List.mem_cons_self
abbrev qa0:=@Nat.div_mul_cancel
abbrev qa1:=@List.length_drop
abbrev qa2:=@Bool.and_eq_true
abbrev qa3:=@List.lookup_cons
abbrev qa4:=@List.take_length
abbrev qa5:=@List.getElem_append_left
abbrev qa6:=@Int.toNat_of_nonneg
abbrev qa7:=@Nat.le_of_ble_eq_true
abbrev qa8:=@List.mem_append_left
abbrev qa9:=@List.getD_eq_getElem?_getD
abbrev qba:=@List.getElem?_of_mem
abbrev qbb:=@List.nodup_iff_pairwise_ne
abbrev qbc:=@Int.emod_lt_of_pos
abbrev qbd:=@PySem.W.kia_one
abbrev qbe:=@Nat.le_of_dvd
abbrev qbf:=@List.getElem_map
abbrev qbg:=@Nat.eq_of_mul_eq_mul_left
abbrev qbh:=@List.getElem_append_right
abbrev qbi:=@Array.length_toList
abbrev qbj:=@Nat.gcd_dvd_right
abbrev qbk:=@List.length_replicate
abbrev qbl:=@Nat.lt_irrefl
abbrev qbm:=@Nat.lt_succ_iff_lt_or_eq
abbrev qbn:=@Bool.eq_iff_iff
abbrev qbo:=@Nat.mul_comm
abbrev qbp:=@List.mem_iff_getElem
abbrev qbq:=@List.mem_of_mem_drop
abbrev qbr:=@List.getElem?_set_self
abbrev qbs:=@List.nodup_append
abbrev qbt:=@List.replicate_succ
abbrev qbu:=@List.nodup_cons
abbrev qbv:=@List.pairwise_iff_getElem
abbrev qbw:=@Array.getElem?_toList
abbrev qbx:=@List.all_eq_true
abbrev qby:=@Nat.gcd_dvd_left
abbrev qbz:=@List.map_map
abbrev qbA:=@Int.zero_add
abbrev qbB:=@List.getElem?_set_ne
abbrev qbC:=@Nat.lt_succ_of_lt
abbrev qbD:=@Int.eq_ofNat_of_zero_le
abbrev qbE:=@Nat.gcd_pos_of_pos_left
abbrev qbF:=@Int.natCast_mul
abbrev qbG:=@PySem.mem_of_lookup
abbrev qbH:=@Nat.mul_pos
abbrev qbI:=@Nat.lt_succ_self
abbrev qbJ:=@Ne.symm
abbrev qbK:=@List.take_append_drop
abbrev qbL:=@List.find?_cons
abbrev qbM:=@List.reverse_cons
abbrev qbN:=@Option.isSome_iff_exists
abbrev qbO:=@PyProof.Rows.slot_tuple_getitem
abbrev qbP:=@PyProof.Rows.callWith_builtin1
abbrev qbQ:=@PySem.F.plainAttrs_dict
abbrev qbR:=@Int.mul_comm
abbrev qbS:=@List.length_set
abbrev qbT:=@List.length_filter_le
abbrev qbU:=@List.flatten_cons
abbrev qbV:=@List.pairwise_map
abbrev qbW:=@Int.fmod_eq_emod_of_nonneg
abbrev qbX:=@Nat.ne_of_gt
abbrev qbY:=@List.map_set
abbrev qbZ:=@Nat.mul_le_mul_left
abbrev qb0:=@Nat.dvd_trans
abbrev qb1:=@Int.mul_assoc
abbrev qb2:=@List.append_nil
abbrev qb3:=@List.range_succ
abbrev qb4:=@Bool.false_eq_true
abbrev qb5:=@Nat.mul_right_comm
abbrev qb6:=@Sum.inl.inj
abbrev qb7:=@Nat.le_succ
abbrev qb8:=@Nat.add_sub_cancel_left
abbrev qb9:=@Nat.div_pos
abbrev qca:=@PyProof.Rows.boot_tuple
abbrev qcb:=@List.append_assoc
abbrev qcc:=@List.drop_sublist
abbrev qcd:=@List.pairwise_lt_range
abbrev qce:=@Nat.zero_add
abbrev qcf:=@Int.mul_left_comm
abbrev qcg:=@Nat.le_add_right
abbrev qch:=@List.any_eq_true
abbrev qci:=@List.all_cons
abbrev qcj:=@List.any_cons
abbrev qck:=@Bool.true_and
open PySem.W (Frag)
namespace L2
open PySem PySem.Spec PyProof.Rows
noncomputable abbrev Key:=Sum Int Str
noncomputable def n':Key→Value→Bool
 | .inl k,v=>Value.isInt k v
 | .inr x,v=>Value.isStrOf x v
noncomputable def Zpk (w:World):Key→Int
 | .inl k=>hashInt k
 | .inr x=>hashStr w x
theorem lg:∀{k:Key}{v:Value},n' k v=true→(∃i t,k=Sum.inl i∧v=Value.int i t)∨(∃x t,k=Sum.inr x∧v=Value.str x t)
 | .inl i,v,h=>by
  obtain⟨t,e⟩:=Value.isInt_shape (k:=i) (v:=v) h;exact .inl ⟨i,t,rfl,e⟩
 | .inr x,v,h=>by
  obtain⟨t,e⟩:=Value.isStrOf_shape (x:=x) (v:=v) h;exact .inr ⟨x,t,rfl,e⟩
theorem Zks(i:Int)(t:Tok):n' (.inl i) (.int i t)=true:=by simp[n',Value.isInt]
theorem Zkf(x:Str)(t:Tok):n' (.inr x) (.str x t)=true:=by simp[n',Value.isStrOf]
theorem ZnX(a b:Int):decide ((Sum.inl a:Key)=Sum.inl b)=(a==b):=by
 by_cases e:a=b
 ·subst e;simp
 ·have h:¬(Sum.inl a:Key)=Sum.inl b:=λq=>e (qb6 q);rw[decide_eq_false h];exact(beq_eq_false_iff_ne.mpr e).symm
theorem ZmU(a b:Str):decide ((Sum.inr a:Key)=Sum.inr b)=decide (a=b):=by
 by_cases e:a=b
 ·subst e;simp
 ·have h:¬(Sum.inr a:Key)=Sum.inr b:=λq=>e (Sum.inr.inj q);rw[decide_eq_false h,decide_eq_false e]
theorem Zno(a:Int)(b:Str):decide ((Sum.inl a:Key)=Sum.inr b)=false:=decide_eq_false (λq=>nomatch q)
theorem ZnU(a:Str)(b:Int):decide ((Sum.inr a:Key)=Sum.inl b)=false:=decide_eq_false (λq=>nomatch q)
noncomputable def e_ (prog:Program) (w:World):PySem.KeyKind prog w Key where
 is:=n'
 hash:=Zpk w
 inj:=λv a b aZ ag=>by
  rcases lg aZ with⟨i,t,rfl,rfl⟩|⟨x,t,rfl,rfl⟩
  ·rcases lg ag with⟨j,u,rfl,e⟩|⟨y,u,rfl,e⟩
   ·injection e with aW _;rw[aW]
   ·exact nomatch e
  ·rcases lg ag with⟨j,u,rfl,e⟩|⟨y,u,rfl,e⟩
   ·exact nomatch e
   ·injection e with aW _;rw[aW]
 byValue:=λk v h=>by
  rcases lg h with⟨i,t,rfl,rfl⟩|⟨x,t,rfl,rfl⟩<;>rfl
 pyHash:=λcn h=>by
  rcases lg cn with⟨i,t,rfl,rfl⟩|⟨x,t,rfl,rfl⟩
  ·exact wpAny_pyHash_int h
  ·exact wpAny_pyHash_str h
 eqBool:=λhu cn h=>by
  rcases lg hu with⟨i,t,rfl,rfl⟩|⟨x,t,rfl,rfl⟩
  ·rcases lg cn with⟨j,u,rfl,rfl⟩|⟨y,u,rfl,rfl⟩
   ·rw[ZnX] at h;exact wpAny_eqBool_int h
   ·rw[Zno] at h;exact SeqAt.EqAt.int_str i t y u _ _ _ _ h
  ·rcases lg cn with⟨j,u,rfl,rfl⟩|⟨y,u,rfl,rfl⟩
   ·rw[ZnU] at h;exact SeqAt.EqAt.str_int x t j u _ _ _ _ h
   ·rw[ZmU] at h;exact wpAny_eqBool_str h
 «strs»:=λk x t v h=>by
  rcases lg h with⟨i,u,rfl,e⟩|⟨y,u,rfl,e⟩
  ·exact nomatch e
  ·injection e with aW _
   subst aW;cases v<;>rfl
theorem Zhp(prog:Program)(w:World)(i:Int)(t:Tok):(e_ prog w).is (.inl i) (.int i t)=true:=Zks i t
theorem ZgY(prog:Program)(w:World)(x:Str)(t:Tok):(e_ prog w).is (.inr x) (.str x t)=true:=Zkf x t
inductive V where
 |non|bl (b:Bool)|int (i:Int)|str (x:Str)|byt (b:Array UInt8)|flt (b:UInt64)|ref (a:Addr)|ty (n:String)
 deriving DecidableEq
noncomputable def c2:V→Value→Prop
 | .non,u=>u=Value.none
 | .bl b,u=>u=Value.bool b
 | .int i,u=>∃t,u=Value.int i t
 | .str x,u=>∃t,u=Value.str x t
 | .byt b,u=>∃t,u=Value.bytes b t
 | .flt b,u=>∃t,u=Value.float b t
 | .ref a,u=>u=Value.ref a
 | .ty n,u=>u=Value.type n
noncomputable abbrev cZ:List V→List Value→Prop:=Paired c2
theorem cZ.length{xs:List V}{us:List Value}(r:cZ xs us):xs.length=us.length:=Paired.length r
theorem cZ.get:∀{xs:List V}{us:List Value}{i:Nat}{x:V},cZ xs us→xs[i]? =some x→∃u,us[i]? =some u∧c2 x u
 |_,_,_,_,.nil,e=>by simp at e
 |_,_,0,_,.cons r _,e=>by simp at e;subst e;exact⟨_,rfl,r⟩
 |_,_,i+1,x,.cons _ t,e=>by
  obtain⟨u,ai,aw⟩:=cZ.get (i:=i) (x:=x) t (by simpa using e);exact⟨u,by simpa using ai,aw⟩
theorem cZ.set{x:V}{u:Value}(r:c2 x u):∀{xs:List V}{us:List Value}(i:Nat),cZ xs us→cZ (xs.set i x) (us.set i u)
 |_,_,_,.nil=> .nil
 |_,_,0,.cons _ t=> .cons r t
 |_,_,i+1,.cons q t=> .cons q (cZ.set r i t)
theorem cZ.append:∀{xs ys:List V}{us ck:List Value},cZ xs us→cZ ys ck→cZ (xs++ys) (us++ck)
 |_,_,_,_,.nil,s=>s
 |_,_,_,_,.cons r t,s=> .cons r (cZ.append t s)
theorem cZ.take:∀{xs:List V}{us:List Value}(n:Nat),cZ xs us→cZ (xs.take n) (us.take n)
 |_,_,0,_=> .nil
 |_,_,_+1,.nil=> .nil
 |_,_,n+1,.cons r t=> .cons r (cZ.take n t)
theorem cZ.drop:∀{xs:List V}{us:List Value}(n:Nat),cZ xs us→cZ (xs.drop n) (us.drop n)
 |_,_,0,r=>r
 |_,_,_+1,.nil=> .nil
 |_,_,n+1,.cons _ t=>cZ.drop n t
noncomputable def hY:Option V→Option Value→Prop
 |some v,some u=>c2 v u
 |none,none=>True
 |_,_=>False
noncomputable def KV {dY:Type}:List (dY×V)→List (dY×Value)→Prop:=Paired λ(p:dY×V) (q:dY×Value)=>p.1=q.1∧c2 p.2 q.2
noncomputable def kV:Key→V
 | .inl i=> .int i
 | .inr x=> .str x
inductive HO where
 |lst (xs:List V)
 |tup (xs:List V)
 |dK (kvs:List (Key×V))|dT (kvs:List (List Key×V))
 |set (S:Int→Bool) (n:Nat)
 |ins (C aY:Addr) (fs:List (Str×V))
 |own (x:Addr)
 |xd (fs:List (Str×V))
 |met (f x:Addr)
 |rng (lo hi:Int)
 |frz (o:Obj) (u:HO)
 |tbl (ps:Array Value)
 |ext (m0:Heap→Prop)
noncomputable abbrev Hp:=Addr→Option HO
noncomputable def upd (H:Hp) (a:Addr) (o:HO):Hp:=λb=>if b=a then some o else H b
theorem Ze{H:Hp}{a:Addr}{o:HO}:upd H a o a=some o:=by unfold upd;rw[if_pos rfl]
theorem cq{H:Hp}{a b:Addr}{o:HO}(h:b≠a):upd H a o b=H b:=by unfold upd;rw[if_neg h]
theorem ha{H:Hp}{a b:Addr}{o u:HO}(h:H a=some o)(h':H b=some u)(d:o≠u):a≠b:=by
 intro e;subst e;rw[h] at h';exact d (qap h')
theorem dw{H:Hp}{a b:Addr}{o:HO}(h:H a=some o)(h':H b=none):a≠b:=by
 intro e;subst e;rw[h] at h';cases h'
section
variable (P:Program)(w:World)
noncomputable def ZY (H:Hp) (h:Heap) (a:Addr):HO→Prop
 | .lst xs=>xs.length≤sizeLine∧∃(its:List Value)(n:Nat),cZ xs its∧h.get? a=some {cls:= .type "list",data:= .seq its.toArray n}
 | .tup xs=>xs.length≤sizeLine∧∃its:List Value,cZ xs its∧IsTup h a its.toArray
 | .dK kvs=>kvs.length≤sizeLine∧(a==sysModules)=false∧∃vs,KV kvs vs∧h.DictOf (e_ P w) a vs
 | .dT kvs=>kvs.length≤sizeLine∧(a==sysModules)=false∧∃xs:List (List Key×Addr×Value),
   Paired (λ(p:List Key×V) (q:List Key×Addr×Value)=>p.1=q.1∧H q.2.1=some (.tup (p.1.map kV))∧c2 p.2 q.2.2) kvs xs∧
   ∃o aN ep,h.get? a=some o∧o.ExactDict∧o.data= .dict aN ep∧aN.toList=xs.map (entryOfKey (tupleKind (e_ P w)))∧(xs.map (·.1)).Nodup
 | .set S n=>h.SetOf (intKind P w) a S n
 | .ins C aY fs=>H aY=some (.own a)∧fs.length≤1000∧aY≠a∧h.get? a=some (instObj C aY)∧
   ∃es,h.Ns1 aY es∧(∀f,hY (fs.lookup f) (es f))∧PySem.Within es (fs.map (·.1))
 | .own _=>∃o,h.get? a=some o
 | .xd fs=>∃es,h.Ns1 a es∧∀f,hY (fs.lookup f) (es f)
 | .rng lo hi=>∃t u v,h.get? a=some {cls:= .type "range",data:= .fields #[.int lo t,.int hi u,.int 1 v]}
 | .frz o u=>h.get? a=some o∧ZY H h a u
 | .tbl ps=>h.get? a=some {cls:= .none,data:= .fields ps}
 | .met f x=>h.get? a=some (methodObj (.ref f) (.ref x))
 | .ext m0=>m0 h∧(∃o,h.get? a=some o)∧∀ai aw:Heap,m0 ai→(∀o,ai.get? a=some o→aw.get? a=some o)→m0 aw
def HOk(H:Hp)(h:Heap):Prop:=∀a o,H a=some o→ZY P w H h a o
end
section
variable {P:Program}{w:World}{H H':Hp}{h h':Heap}{a:Addr}{o:HO}
theorem ZY.lt(x:ZY P w H h a o):a<h.objs.size:=by
 cases o with
 |lst xs=>obtain⟨_,_,_,_,e⟩:=x;exact Heap.lt_size e
 |tup xs=>obtain⟨_,_,_,p⟩:=x;exact p.lt
 |dK kvs=>obtain⟨_,_,_,_,o,_,_,e,_⟩:=x;exact Heap.lt_size e
 |dT kvs=>obtain⟨_,_,_,_,o,_,_,e,_⟩:=x;exact Heap.lt_size e
 |set S n=>obtain⟨o,_,_,_,e,_⟩:=x;exact Heap.lt_size e
 |ins C aY fs=>obtain⟨_,_,_,e,_⟩:=x;exact Heap.lt_size e
 |own y=>obtain⟨_,e⟩:=x;exact Heap.lt_size e
 |xd fs=>obtain⟨_,⟨_,_,_,e,_⟩,_⟩:=x;exact Heap.lt_size e
 |rng lo hi=>obtain⟨_,_,_,e⟩:=x;exact Heap.lt_size e
 |frz dx u=>obtain⟨e,_⟩:=x;exact Heap.lt_size e
 |tbl ps=>exact Heap.lt_size (show h.get? a=some _ from x)
 |met f y=>exact Heap.lt_size (show h.get? a=some _ from x)
 |ext m0=>obtain⟨_,⟨_,e⟩,_⟩:=x;exact Heap.lt_size e
theorem Paired.mapP{db hb:Type}{F G:db→hb→Prop}:∀{l₁:List db}{l₂:List hb},Paired F l₁ l₂→(∀a b,F a b→G a b)→Paired G l₁ l₂
 |_,_,.nil,_=> .nil
 |_,_,.cons r t,f=> .cons (f _ _ r) (Paired.mapP t f)
theorem ZY.stay(x:ZY P w H h a o)(k:∀b u,(b=a∨H b=some (.own a))→h.get? b=some u→h'.get? b=some u)
  (bc:∀b,H b=some (.own a)→H' b=some (.own a)) (cu:∀b xs,H b=some (.tup xs)→H' b=some (.tup xs)):ZY P w H' h' a o:=by
 induction o with
 |lst xs=>obtain⟨z,its,n,r,e⟩:=x;exact⟨z,its,n,r,k _ _ (.inl rfl) e⟩
 |tup xs=>obtain⟨z,its,r,dx,e,c⟩:=x;exact⟨z,its,r,dx,k _ _ (.inl rfl) e,c⟩
 |dK kvs=>obtain⟨z,y,vs,r,dx,aN,ep,e,c⟩:=x;exact⟨z,y,vs,r,dx,aN,ep,k _ _ (.inl rfl) e,c⟩
 |dT kvs=>
  obtain⟨z,y,xs,r,dx,aN,ep,e,c⟩:=x;exact⟨z,y,xs,Paired.mapP r λp q z=>⟨z.1,cu _ _ z.2.1,z.2.2⟩,dx,aN,ep,k _ _ (.inl rfl) e,c⟩
 |set S n=>obtain⟨dx,aN,ep,t,e,c⟩:=x;exact⟨dx,aN,ep,t,k _ _ (.inl rfl) e,c⟩
 |ins C aY fs=>
  obtain⟨d,z,ne,e,es,⟨et,aN,ep,a7,c⟩,r⟩:=x;exact⟨bc _ d,z,ne,k _ _ (.inl rfl) e,es,⟨et,aN,ep,k _ _ (.inr d) a7,c⟩,r⟩
 |own y=>obtain⟨dx,e⟩:=x;exact⟨dx,k _ _ (.inl rfl) e⟩
 |xd fs=>obtain⟨es,⟨et,aN,ep,e,c⟩,r⟩:=x;exact⟨es,⟨et,aN,ep,k _ _ (.inl rfl) e,c⟩,r⟩
 |rng lo hi=>obtain⟨t,u,v,e⟩:=x;exact⟨t,u,v,k _ _ (.inl rfl) e⟩
 |frz dx u cO=>obtain⟨e,q⟩:=x;exact⟨k _ _ (.inl rfl) e,cO q⟩
 |tbl ps=>
  have e:h.get? a=some {cls:= .none,data:= .fields ps}:=x;show h'.get? a=some {cls:= .none,data:= .fields ps};exact k a _ (.inl rfl) e
 |met f y=>
  have e:h.get? a=some (methodObj (.ref f) (.ref y)):=x;show h'.get? a=some (methodObj (.ref f) (.ref y));exact k a _ (.inl rfl) e
 |ext m0=>obtain⟨p,⟨o,e⟩,st⟩:=x;exact⟨st _ _ p λo q=>k _ _ (.inl rfl) q,⟨o,k _ _ (.inl rfl) e⟩,st⟩
theorem HOk.lt(x:HOk P w H h)(e:H a=some o):a<h.objs.size:=(x a o e).lt
theorem HOk.fresh(x:HOk P w H h)(e:h.objs.size≤a):H a=none:=by
 cases q:H a with
 |none=>rfl
 |some u=>exact absurd (qad (x.lt q) e) (qbl _)
theorem HOk.kept(x:HOk P w H h)(k:∀b u,h.get? b=some u→h'.get? b=some u):HOk P w H h':=λa o e=>
 (x a o e).stay (λb u _ q=>k b u q) (λ_ q=>q) λ_ _ q=>q
theorem HOk.laid(x:HOk P w H h)(k:∀b u,h.get? b=some u→h'.get? b=some u)(aS:h.objs.size≤a)(new:ZY P w (upd H a o) h' a o):HOk P w (upd H a o) h':=λb u e=>by
 have bA:=x.fresh aS
 by_cases ag:b=a
 ·subst ag;rw[Ze] at e;cases e;exact new
 ·rw[cq ag] at e;exact(x b u e).stay (λc v _ q=>k c v q) (λc q=>by rw[cq (dw q bA)];exact q) λc xs q=>by rw[cq (dw q bA)];exact q
end
def Rd(H:Hp)(a:Addr)(u:HO):Prop:=H a=some u∨∃o,H a=some (.frz o u)
theorem Rd.ok{P:Program}{w:World}{H:Hp}{h:Heap}{a:Addr}{u:HO}(r:Rd H a u)(x:HOk P w H h):ZY P w H h a u:=by
 rcases r with r|⟨o,r⟩
 ·exact x a u r
 ·obtain⟨_,q⟩:=x a _ r;exact q
noncomputable def Mut:Option HO→Prop
 |some (.lst _)=>True
 |some (.dK _)=>True
 |some (.dT _)=>True
 |some (.set _ _)=>True
 |some (.ins _ _ _)=>True
 |some (.ext _)=>True
 |_=>False
section
variable {P:Program}{w:World}{H:Hp}{h h':Heap}{x e:Addr}{cM:HO}
theorem HOk.write(ok:HOk P w H h)(iX:Mut (H x))(cp:e=x∨H e=some (.own x))(k:∀b u,b≠e→h.get? b=some u→h'.get? b=some u)(lh:∃u,h'.get? e=some u)
  (new:ZY P w (upd H x cM) h' x cM):HOk P w (upd H x cM) h':=λb u q=>by
 have yj:∀c y,H c=some (.own y)→c≠x:=λc y r z=>by subst z;rw[r] at iX;exact iX
 have Ed:∀c xs,H c=some (.tup xs)→c≠x:=λc xs r z=>by subst z;rw[r] at iX;exact iX
 by_cases ag:b=x
 ·subst ag;rw[Ze] at q;cases q;exact new
 ·rw[cq ag] at q
  by_cases m1:b=e
  ·have hc:H b=some (.own x):=by
    rcases cp with z|z
    ·exact absurd (m1.trans z) ag
    ·rw[m1];exact z
   rw[q] at hc;cases hc;obtain⟨v,cn⟩:=lh;exact⟨v,by rw[m1];exact cn⟩
  ·refine(ok b u q).stay (λc v ax r=>k c v ?_ r) (λc r=>by rw[cq (yj c b r)];exact r) λc xs r=>by rw[cq (Ed c xs r)];exact r
   rcases ax with rfl|ax
   ·exact m1
   ·rintro rfl;rcases cp with z|z
    ·exact yj c b ax z
    ·rw[ax] at z;cases z;exact ag rfl
end
structure Un(fs ex:List Addr)(H H':Hp)(h h':Heap):Prop where
 keep:∀b o,h.get? b=some o→H b=none→b∉fs→b∉ex→h'.get? b=some o
 slot:∀b o,h.get? b=some o→H b=none→b∈fs→b∉ex→∃sl,h'.get? b=some {o with slots:=sl}
 free:∀b o,h.get? b=some o→H b=none→b∉ex→H' b=none
 there:∀b o,h.get? b=some o→b∉ex→∃cM,h'.get? b=some cM
 tups:∀b xs,H b=some (.tup xs)→H' b=some (.tup xs)
 frzs:∀b o u,H b=some (.frz o u)→H' b=some (.frz o u)
 tbls:∀b ps,H b=some (.tbl ps)→∃more,H' b=some (.tbl (ps++more))
section
variable {fs rx ex QT:List Addr}{H aj ay:Hp}{h ai aw h':Heap}{a x e:Addr}{o:HO}
theorem Un.any(u:Un fs ex H aj h ai){b:Addr}{dx:Obj}(q:h.get? b=some dx)(n:H b=none)(ao:b∉ex):∃sl,ai.get? b=some {dx with slots:=sl}:=by
 by_cases ag:b∈fs
 ·exact u.slot b dx q n ag ao
 ·exact⟨dx.slots,u.keep b dx q n ag ao⟩
theorem Un.kept(k:∀b u,h.get? b=some u→h'.get? b=some u):Un fs ex H H h h':=
 ⟨λb dx q _ _ _=>k b dx q,λb dx q _ _ _=>⟨dx.slots,k b dx q⟩,λ_ _ _ n _=>n,λb dx q _=>⟨dx,k b dx q⟩,λ_ _ q=>q,λ_ _ _ q=>q,λ_ ps q=>⟨#[],by rw[q];simp⟩⟩
theorem Un.refl:Un fs ex H H h h:=Un.kept λ_ _ q=>q
theorem Un.laid(k:∀b u,h.get? b=some u→h'.get? b=some u)(aS:h.objs.size≤a)(bA:H a=none):Un fs ex H (upd H a o) h h' where
 keep:=λb u q _ _ _=>k b u q
 slot:=λb u q _ _ _=>⟨u.slots,k b u q⟩
 free:=λb u q n _=>by rw[cq (qak (qad (Heap.lt_size q) aS))];exact n
 there:=λb u q _=>⟨u,k b u q⟩
 tups:=λb xs q=>by rw[cq (dw q bA)];exact q
 frzs:=λb u xs q=>by rw[cq (dw q bA)];exact q
 tbls:=λb ps q=>⟨#[],by rw[cq (dw q bA),q];simp⟩
theorem Un.write(iX:Mut (H x))(cp:e=x∨H e=some (.own x))(k:∀b u,b≠e→h.get? b=some u→h'.get? b=some u)(lh:∃u,h'.get? e=some u):Un fs ex H (upd H x o) h h':=by
 have ao:∀b,H b=none→b≠x:=λb n z=>by subst z;rw[n] at iX;exact iX
 have ag:∀b,H b=none→b≠e:=λb n z=>by
  subst z;rcases cp with r|r
  ·exact ao b n r
  ·rw[n] at r;cases r
 have a6:∀b u,H b=some u→¬Mut (some u)→b≠x:=λb u q nm z=>by subst z;rw[q] at iX;exact nm iX
 refine⟨λb u q n _ _=>k b u (ag b n) q,λb u q n _ _=>⟨u.slots,k b u (ag b n) q⟩,λb u q n _=>by rw[cq (ao b n)];exact n,λb u q _=>?_,
  λb xs q=>by rw[cq (a6 b _ q λz=>z)];exact q,λb u xs q=>by rw[cq (a6 b _ q λz=>z)];exact q,λb ps q=>⟨#[],by rw[cq (a6 b _ q λz=>z),q];simp⟩⟩
 by_cases m1:b=e
 ·subst m1;exact lh
 ·exact⟨u,k b u m1 q⟩
end
noncomputable def trk (h:Heap) (H:Hp):List Addr:=(List.range h.objs.size).filter λa=>(H a).isSome
noncomputable def li (h:Heap) (H:Hp):Heap:=hideAll h (trk h H)
theorem Ee(h:Heap)(H:Hp):(li h H).objs.size=h.objs.size:=PySem.W.hideAll_size _ _
theorem Zlb{h:Heap}{H:Hp}{b:Addr}{o:Obj}(e:h.get? b=some o)(n:H b=none):(li h H).get? b=some o:=
 hideAll_get _ e λa6=>by
  have q:(H b).isSome=true:=(qaY.mp a6).2;rw[n] at q;simp at q
theorem ZmC{h:Heap}{H:Hp}{b:Addr}{o:Obj}(e:(li h H).get? b=some o):h.get? b=some o∧H b=none:=by
 have cx:h.get? b=some o:=of_hideAll (trk h H) e;refine⟨cx,?_⟩;cases q:H b with
 |none=>rfl
 |some x=>
  have a6:b∈trk h H:=qaY.mpr ⟨qaL.mpr (Heap.lt_size cx),by simp[q]⟩;have z:(li h H).get? b=none:=PySem.W.hideAll_none (trk h H) a6;rw[z] at e;cases e
structure Mod(K:Frag)(mg:Str→Option Value)(base:Heap):Prop where
 kin:K.In base
 glob:base.Ns mainGlobals mg
 blt:∃jm,base.Ns builtinsNs jm∧∀x:Str,x≠"__name__" →jm x=bootBuiltins x
 nolimit:base.NoLimit
structure Cx where
 prog:Program
 w:World
 K:Frag
 mg:Str→Option Value
 base:Heap
 A:Around
 N:List Str
 s₀:Shared
 H₀:Hp
 env:Env
 outer:List Env
 stack:List Env
 ex:List Addr
 fn:Str→Bool
 calm:Bool
 pn:List (Addr×Obj)
 xe:Value→Shared→Prop
noncomputable def frs (l:List Env):List Addr:=l.filterMap (·.frame)
noncomputable abbrev Cx.fs (X:Cx):List Addr:=frs X.outer
def Vis(cE:Scope)(x:Str):Prop:=cE.names.lookup x=some .local∨cE.names.lookup x=some .cell∨cE.names.lookup x=some .free
def Loc(cE:Scope)(x:Str):Prop:=cE.names.lookup x=some .local∨cE.names.lookup x=some .cell
def ZnF(env:Env)(h:Heap)(m:Str→Option Value)(x:Str)(u:Value):Prop:=
 (env.kindOf x=some .local∧m x=some u)∨((env.kindOf x=some .cell∨env.kindOf x=some .free)∧∃c,env.cells.lookup x=some c∧h.IsCell c (some u))
structure Cx.Ok(X:Cx):Prop where
 mod:Mod X.K X.mg X.base
 kind:X.env.scope.kind= .function
 glob:X.env.globals=mainGlobals
 blt:X.env.builtins=builtinsNs
 above:X.s₀.heap.objs.size≤X.env.locals
 inj:∀x y c,X.env.cells.lookup x=some c→X.env.cells.lookup y=some c→x=y
 has:∀x,(X.env.kindOf x=some .cell∨X.env.kindOf x=some .free)→∃c,X.env.cells.lookup x=some c
 cab:∀x c,X.fn x=true→X.env.cells.lookup x=some c→X.s₀.heap.objs.size≤c
 hd:X.calm=true→X.A.handled=none
 frames:X.A.frames=some X.stack
 stk:X.stack=X.outer∨(X.stack=X.env::X.outer∧X.env.frame=some X.env.locals)
 exf:∀b∈X.ex,b≠X.env.locals∧∀x c,X.env.cells.lookup x=some c→c≠b
 bs:∀b o,X.base.get? b=some o→X.s₀.heap.get? b=some o∧X.H₀ b=none
 bsz:X.base.objs.size≤X.s₀.heap.objs.size
 noex:∀b o,X.base.get? b=some o→b∉X.ex
 exfs:∀b∈X.ex,b∉X.fs
 funs:X.s₀.heap.FunFrames X.base X.outer
 frf:∀b∈X.fs,X.H₀ b=none
structure Inv(X:Cx)(ah:List (Addr×Obj))(ae:List (Option V))(H:Hp)(s:Shared):Prop where
 ok:X.Ok
 os:s.os=X.s₀.os
 bare:AllBare s.gens
 base:Un X.fs X.ex X.H₀ H X.s₀.heap s.heap
 loc:∃m,s.heap.Ns X.env.locals m∧∀(i:Nat)(x:Str)(v:V),X.N[i]? =some x→ae[i]? =some (some v)→Vis X.env.scope x→∃u,c2 v u∧ZnF X.env s.heap m x u
 cell:∀x c,X.env.cells.lookup x=some c→∃v,s.heap.IsCell c v
 free:H X.env.locals=none
 freeC:∀x c,X.env.cells.lookup x=some c→H c=none
 pin:∀p∈X.pn++ah,s.heap.get? p.1=some p.2∧H p.1=none∧p.1≠X.env.locals∧p.1∉X.fs∧∀v,p.2.data≠ .cell v
 hok:HOk X.prog X.w H s.heap
 len:ae.length=X.N.length
section
variable {X:Cx}{ah:List (Addr×Obj)}{ae:List (Option V)}{H H':Hp}{s:Shared}{h':Heap}
theorem Cx.Ok.nofr(ok:X.Ok){b:Addr}{o:Obj}(e:X.base.get? b=some o):b∉X.fs:=λag=>by
 have:=(ok.funs.mem ag).1;rw[e] at this;cases this
theorem Inv.bs(I:Inv X ah ae H s):∀b o,X.base.get? b=some o→s.heap.get? b=some o∧H b=none:=λb o e=>
 ⟨I.base.keep b o (I.ok.bs b o e).1 (I.ok.bs b o e).2 (I.ok.nofr e) (I.ok.noex b o e),I.base.free b o (I.ok.bs b o e).1 (I.ok.bs b o e).2 (I.ok.noex b o e)⟩
theorem Inv.bk(I:Inv X ah ae H s):∀b o,X.base.get? b=some o→s.heap.get? b=some o:=λb o e=>(I.bs b o e).1
theorem Inv.mod(I:Inv X ah ae H s):Mod X.K X.mg X.base:=I.ok.mod
theorem Inv.kIn(I:Inv X ah ae H s):X.K.In s.heap:=I.ok.mod.kin.keeps I.bk
theorem Inv.lt(I:Inv X ah ae H s):X.env.locals<s.heap.objs.size:=let⟨_,bA,_⟩:=I.loc;bA.lt
theorem Inv.sz(I:Inv X ah ae H s):X.s₀.heap.objs.size≤s.heap.objs.size:=qaz I.ok.above (qaX I.lt)
theorem Inv.nofs(I:Inv X ah ae H s){a:Addr}(h:s.heap.objs.size≤a):a∉X.fs:=λag=>by
 obtain⟨_,o,bc,_⟩:=I.ok.funs.mem ag;exact absurd (qad (Heap.lt_size bc) (qaz I.sz h)) (qbl _)
theorem Inv.cne(I:Inv X ah ae H s):∀x c,X.env.cells.lookup x=some c→c≠X.env.locals:=λx c e z=>by
 obtain⟨v,o,bc,hd⟩:=I.cell x c e;obtain⟨m,⟨cM,aN,ep,jU,ih,_⟩,_⟩:=I.loc;rw[z,jU] at bc;cases bc;rw[ih] at hd;cases hd
theorem Inv.funs(I:Inv X ah ae H s):s.heap.FunFrames X.base X.outer:=by
 have all:∀(l:List Env),(∀b∈frs l,b∈X.fs)→X.s₀.heap.FunFrames X.base l→s.heap.FunFrames X.base l:=by
  intro l
  induction l with
  |nil=>intro _ _;trivial
  |cons env r cO=>
   intro hs af;obtain⟨aR,⟨L,o,bB,bA,bc,hd⟩,av⟩:=af;have e6:L∈X.fs:=hs L (by unfold frs;rw[List.filterMap_cons,bB];exact qaZ);obtain⟨sl,e⟩:=I.base.slot L o bc (I.ok.frf L e6) e6 λz=>I.ok.exfs L z e6;exact⟨aR,⟨L,_,bB,bA,e,hd⟩,cO (λb ag=>hs b (by unfold frs;rw[List.filterMap_cons,bB];exact qas _ ag)) av⟩
 exact all X.outer (λ_ ag=>ag) I.ok.funs
theorem Inv.stack(I:Inv X ah ae H s):s.heap.FunFrames X.base X.stack:=by
 rcases I.ok.stk with e|⟨e,bB⟩
 ·rw[e];exact I.funs
 ·rw[e];obtain⟨m,bA,_⟩:=I.loc;refine .cons (by rw[I.ok.kind];decide) bB bA ?_ I.funs;exact Heap.get?_none_of_le (qaz I.ok.bsz I.ok.above)
theorem Inv.stkSub(I:Inv X ah ae H s):∀b∈frs X.stack,b∈X.env.locals::X.fs:=λb ag=>by
 rcases I.ok.stk with e|⟨e,bB⟩
 ·rw[e] at ag;exact qas _ ag
 ·rw[e] at ag;unfold frs at ag;rw[List.filterMap_cons,bB] at ag;exact ag
theorem Inv.stkFree(I:Inv X ah ae H s):∀b∈frs X.stack,H b=none:=λb ag=>by
 rcases qaf.mp (I.stkSub b ag) with e|ag
 ·rw[e];exact I.free
 ·obtain⟨_,o,bc,_⟩:=I.ok.funs.mem ag;exact I.base.free b o bc (I.ok.frf b ag) λz=>I.ok.exfs b z ag
theorem Inv.step{g':Array GenState}{t':Nat}{d':Drawn}{ch:List Addr}(I:Inv X ah ae H s)
  (hk:∀b∈ch,(b∈X.ex∨X.s₀.heap.objs.size≤b)∧b≠X.env.locals∧(∀x c,X.env.cells.lookup x=some c→c≠b)∧∀p∈X.pn++ah,p.1≠b)
  (keep:∀b o,b≠X.env.locals→b∉X.fs→b∉ch→s.heap.get? b=some o→H b=none→h'.get? b=some o)
  (slot:∀b o,b≠X.env.locals→b∈X.fs→b∉ch→s.heap.get? b=some o→H b=none→∃sl,h'.get? b=some {o with slots:=sl}) (free:∀b o,b∉ch→s.heap.get? b=some o→H b=none→H' b=none)
  (there:∀b o,b∉ch→s.heap.get? b=some o→∃cM,h'.get? b=some cM)
  (tups:∀b xs,H b=some (.tup xs)→H' b=some (.tup xs)) (frzs:∀b o u,H b=some (.frz o u)→H' b=some (.frz o u)) (tbls:∀b ps,H b=some (.tbl ps)→∃more,H' b=some (.tbl (ps++more)))
  (ns:∀m,s.heap.Ns X.env.locals m→h'.Ns X.env.locals m) (hok:HOk X.prog X.w H' h') (aM:AllBare g'):
  Inv X ah ae H' {s with heap:=h',gens:=g',drawn:=d',toks:=t'}:=by
 have oa:∀b o,X.s₀.heap.get? b=some o→b≠X.env.locals:=λb o e=>qak (qad (Heap.lt_size e) I.ok.above);have ry:∀b o,X.s₀.heap.get? b=some o→b∉X.ex→b∉ch:=λb o e ao ag=>by
  rcases(hk b ag).1 with z|z
  ·exact ao z
  ·exact absurd (qad (Heap.lt_size e) z) (qbl _)
 have yk:∀x c,X.env.cells.lookup x=some c→∀v,s.heap.IsCell c v→h'.IsCell c v:=λx c e v ⟨o,bc,hd⟩=>by
  have pi:c∉ch:=λz=>(hk c z).2.2.1 x c e rfl
  by_cases ax:c∈X.fs
  ·obtain⟨sl,q⟩:=slot c o (I.cne x c e) ax pi bc (I.freeC x c e);exact⟨_,q,hd⟩
  ·exact⟨o,keep c o (I.cne x c e) ax pi bc (I.freeC x c e),hd⟩
 refine⟨I.ok,I.os,aM,⟨λb o e n ag ao=>?_,λb o e n ag ao=>?_,λb o e n ao=>?_,λb o e ao=>?_,λb xs e=>tups b xs (I.base.tups b xs e),λb o xs e=>frzs b o xs (I.base.frzs b o xs e),λb ps e=>?_⟩,?_,λx c e=>?_,?_,λx c e=>?_,λp aS=>?_,hok,I.len⟩
 ·exact keep b o (oa b o e) ag (ry b o e ao) (I.base.keep b o e n ag ao) (I.base.free b o e n ao)
 ·obtain⟨sl,aW⟩:=I.base.slot b o e n ag ao;obtain⟨pj,a7⟩:=slot b _ (oa b o e) ag (ry b o e ao) aW (I.base.free b o e n ao);exact⟨pj,a7⟩
 ·obtain⟨cM,aW⟩:=I.base.there b o e ao;exact free b cM (ry b o e ao) aW (I.base.free b o e n ao)
 ·obtain⟨cM,aW⟩:=I.base.there b o e ao;exact there b cM (ry b o e ao) aW
 ·obtain⟨iz,aW⟩:=I.base.tbls b ps e;obtain⟨ii,a7⟩:=tbls b _ aW;exact⟨iz++ii,by rw[a7,Array.append_assoc]⟩
 ·obtain⟨m,bA,af⟩:=I.loc;refine⟨m,ns m bA,λi x v aW a7 c_=>?_⟩;obtain⟨u,r,l⟩:=af i x v aW a7 c_;refine⟨u,r,?_⟩;rcases l with l|⟨k,c,e,z⟩
  ·exact .inl l
  ·exact .inr ⟨k,c,e,yk x c e _ z⟩
 ·obtain⟨v,z⟩:=I.cell x c e;exact⟨v,yk x c e v z⟩
 ·obtain⟨m,⟨o,_,_,bc,_⟩,_⟩:=I.loc;exact free _ o (λz=>(hk _ z).2.1 rfl) bc I.free
 ·obtain⟨v,o,bc,hd⟩:=I.cell x c e;exact free c o (λz=>(hk c z).2.2.1 x c e rfl) bc (I.freeC x c e)
 ·obtain⟨e,n,ne,me,d⟩:=I.pin p aS;have pi:p.1∉ch:=λz=>(hk p.1 z).2.2.2 p aS rfl;exact⟨keep p.1 p.2 ne me pi e n,free p.1 p.2 pi e n,ne,me,d⟩
theorem Inv.un{t':Nat}(I:Inv X ah ae H s)(u:Un X.fs [] H H' s.heap h')(hok:HOk X.prog X.w H' h'):Inv X ah ae H' {s with heap:=h',toks:=t'}:=by
 obtain⟨m,⟨o,aN,ep,bc,r⟩,_⟩:=id I.loc;obtain⟨sl,e6⟩:=u.any bc I.free (by simp);exact I.step (g':=s.gens) (d':=s.drawn) (ch:=[]) (λ_ z=>nomatch z) (λb o _ ag _ e n=>u.keep b o e n ag (by simp)) (λb o _ ag _ e n=>u.slot b o e n ag (by simp)) (λb o _ e n=>u.free b o e n (by simp)) (λb o _ e=>u.there b o e (by simp)) u.tups u.frzs u.tbls (λcQ a6=>by
  obtain⟨cM,tR,tS,jU,dt⟩:=a6;rw[bc] at jU;cases jU;exact⟨_,tR,tS,e6,dt⟩) hok I.bare
theorem Inv.call{g':Array GenState}{t':Nat}{d':Drawn}{ch:List Addr}(I:Inv X ah ae H s)(u:Un (frs X.stack) ch H H' s.heap h')(hok:HOk X.prog X.w H' h')(aM:AllBare g')
  (hk:∀b∈ch,(b∈X.ex∨X.s₀.heap.objs.size≤b)∧b≠X.env.locals∧(∀x c,X.env.cells.lookup x=some c→c≠b)∧∀p∈X.pn++ah,p.1≠b):
  Inv X ah ae H' {s with heap:=h',gens:=g',drawn:=d',toks:=t'}:=by
 obtain⟨m,⟨o,aN,ep,bc,r⟩,_⟩:=id I.loc;obtain⟨sl,e6⟩:=u.any bc I.free λz=>(hk _ z).2.1 rfl;exact I.step (ch:=ch) hk (λb o e6 ag ax e n=>u.keep b o e n (λz=>(qaf.mp (I.stkSub b z)).elim e6 ag) ax) (λb o _ _ ax e n=>u.any e n ax) (λb o ax e n=>u.free b o e n ax) (λb o ax e=>u.there b o e ax) u.tups u.frzs u.tbls (λcQ a6=>by
  obtain⟨cM,tR,tS,jU,dt⟩:=a6;rw[bc] at jU;cases jU;exact⟨_,tR,tS,e6,dt⟩) hok aM
theorem Inv.turned{t':Nat}{it:Addr}(I:Inv X ah ae H s)(k:∀b o,b≠it→s.heap.get? b=some o→h'.get? b=some o)(bA:H it=none)(e6:it≠X.env.locals)
  (ai:it∈X.ex∨X.s₀.heap.objs.size≤it) (aw:∀x c,X.env.cells.lookup x=some c→c≠it) (cC:∀p∈X.pn++ah,p.1≠it):Inv X ah ae H {s with heap:=h',toks:=t'}:=by
 have pk:∀b u,H b=some u→b≠it:=λb u e z=>by rw[z,bA] at e;cases e
 refine I.step (g':=s.gens) (d':=s.drawn) (ch:=[it]) (λb ag=>?_) (λb o _ _ ax e _=>k b o (λz=>ax (by simp[z])) e) (λb o _ _ ax e _=>⟨o.slots,k b o (λz=>ax (by simp[z])) e⟩) (λ_ _ _ _ n=>n)
  (λb o ax e=>⟨o,k b o (λz=>ax (by simp[z])) e⟩) (λ_ _ e=>e) (λ_ _ _ e=>e) (λb ps e=>⟨#[],by rw[e];simp⟩) (λm a6=>?_) (λb u e=>?_) I.bare
 ·have e:b=it:=by simpa using ag
  subst e;exact⟨ai,e6,aw,cC⟩
 ·obtain⟨o,aN,ep,bc,r⟩:=a6;exact⟨o,aN,ep,k _ o (qbJ e6) bc,r⟩
 ·refine(I.hok b u e).stay (λc v ax q=>k c v ?_ q) (λ_ q=>q) λ_ _ q=>q;rcases ax with z|z
  ·rw[z];exact pk b u e
  ·exact pk c _ z
theorem Inv.tok(I:Inv X ah ae H s)(t:Nat):Inv X ah ae H {s with toks:=t}:=I.un (h':=s.heap) (t':=t) Un.refl I.hok
theorem Inv.kept{t':Nat}(I:Inv X ah ae H s)(k:∀b u,s.heap.get? b=some u→h'.get? b=some u):Inv X ah ae H {s with heap:=h',toks:=t'}:=I.un (Un.kept k) (I.hok.kept k)
theorem Inv.laid{a:Addr}{o:HO}{t':Nat}(I:Inv X ah ae H s)(k:∀b u,s.heap.get? b=some u→h'.get? b=some u)(aS:s.heap.objs.size≤a)(new:ZY X.prog X.w (upd H a o) h' a o):
  Inv X ah ae (upd H a o) {s with heap:=h',toks:=t'}:=I.un (Un.laid k aS (I.hok.fresh aS)) (I.hok.laid k aS new)
theorem Inv.write{x e:Addr}{o:HO}{t':Nat}(I:Inv X ah ae H s)(iX:Mut (H x))(cp:e=x∨H e=some (.own x))(k:∀b u,b≠e→s.heap.get? b=some u→h'.get? b=some u)(lh:∃u,h'.get? e=some u)
  (new:ZY X.prog X.w (upd H x o) h' x o):Inv X ah ae (upd H x o) {s with heap:=h',toks:=t'}:=I.un (Un.write iX cp k lh) (I.hok.write iX cp k lh new)
theorem Inv.pins_of{ob:List (Addr×Obj)}(I:Inv X ah ae H s)(h:∀p∈ob,s.heap.get? p.1=some p.2∧H p.1=none∧p.1≠X.env.locals∧p.1∉X.fs∧∀v,p.2.data≠ .cell v):Inv X ob ae H s:=
 ⟨I.ok,I.os,I.bare,I.base,I.loc,I.cell,I.free,I.freeC,λp aS=>(qar.mp aS).elim (λz=>I.pin p (qa8 _ z)) (h p),I.hok,I.len⟩
theorem tT{N:List Str}(d_:N.Nodup){i j:Nat}{x:Str}(a:N[i]? =some x)(b:N[j]? =some x):i=j:=by
 obtain⟨ai,aW⟩:=GM.mp a;obtain⟨aw,a7⟩:=GM.mp b;exact(List.getElem_inj d_).mp (aW.trans a7.symm)
theorem tU{M:Model}{A:Around}{E:Value→Shared→Prop}{i:Nat}{x:Str}{v:V}{u:Value}{Q:Unit→Shared→Prop}(I:Inv X ah ae H s)(d_:X.N.Nodup)(hi:X.N[i]? =some x)(ao:Loc X.env.scope x)(r:c2 v u)
  (h:∀s',Inv X ah (ae.set i (some v)) H s'→(∃a,Heap.SameBut a s.heap s'.heap∧(a=X.env.locals∨X.env.cells.lookup x=some a))→Q () s') (bB:X.fn x=true∨X.env.scope.names.lookup x=some .local:=by first|exact .inl rfl|exact .inr rfl|assumption):wpAny M A (storeName X.env x u) Q E s:=by
 obtain⟨m,bA,af⟩:=id I.loc;have tV:(X.env.scope.kind== .class||(X.env.scope.kind== .module&&X.env.locals != X.env.globals))=false:=by rw[I.ok.kind];rfl
 have yl:i<ae.length:=by rw[I.len];exact(GM.mp hi).1
 have cne:=I.cne;have ym:∀{a:Addr}{h':Heap},(∃o,s.heap.get? a=some o∧H a=none)→Heap.SameBut a s.heap h'→HOk X.prog X.w H h':=λ{a h'} aZ hs b dx e=>by
  obtain⟨_,_,yn⟩:=aZ;refine(I.hok b dx e).stay (λc dC ax q=>(hs.2 c ?_).trans q) (λ_ q=>q) λ_ _ q=>q;rintro rfl;rcases ax with rfl|ax
  ·rw[yn] at e;cases e
  ·rw[yn] at ax;cases ax
 rcases ao with aR|aR
 ·refine wpAny_storeName_local aR bA (λh' Ef hs=>?_) tV;obtain⟨Eg,_,_,pm,_⟩:=id bA;refine h _ ⟨I.ok,I.os,I.bare,⟨λb o e n ag ao=>?_,λb o e n ag ao=>?_,I.base.free,λb o e ao=>?_,I.base.tups,I.base.frzs,I.base.tbls⟩,⟨_,Ef,λj y lj aW a7 c_=>?_⟩,λy c e=>?_,I.free,I.freeC,λp aS=>?_,ym ⟨Eg,pm,I.free⟩ hs,by simpa using I.len⟩ ⟨_,hs,.inl rfl⟩
  ·exact(hs.2 b (qak (qad (Heap.lt_size e) I.ok.above))).trans (I.base.keep b o e n ag ao)
  ·obtain⟨sl,aW⟩:=I.base.slot b o e n ag ao;exact⟨sl,(hs.2 b (qak (qad (Heap.lt_size e) I.ok.above))).trans aW⟩
  ·obtain⟨cM,aW⟩:=I.base.there b o e ao;exact⟨cM,(hs.2 b (qak (qad (Heap.lt_size e) I.ok.above))).trans aW⟩
  ·by_cases aJ:j=i
   ·subst aJ;rw[hi] at aW;cases aW;rw[qbr yl] at a7;cases a7;exact⟨u,r,.inl ⟨aR,by simp⟩⟩
   ·rw[qbB (qbJ aJ)] at a7;obtain⟨mf,dt,q⟩:=af j y lj aW a7 c_;refine⟨mf,dt,?_⟩;rcases q with⟨k,e⟩|⟨k,c,e,z⟩
    ·refine .inl ⟨k,?_⟩;have:y≠x:=λe=>aJ (tT d_ aW (e▸hi));simp[this,e]
    ·exact .inr ⟨k,c,e,z.sameBut hs (cne y c e)⟩
  ·obtain⟨dC,z⟩:=I.cell y c e;exact⟨dC,z.sameBut hs (cne y c e)⟩
  ·obtain⟨e,n,ne,me,d⟩:=I.pin p aS;exact⟨(hs.2 p.1 ne).trans e,n,ne,me,d⟩
 ·have pp:X.fn x=true:=by
   rcases bB with z|z
   ·exact z
   ·rw[z] at aR;cases aR
  obtain⟨c,ax⟩:=I.ok.has x (.inl aR);obtain⟨dC,z⟩:=I.cell x c ax;refine wpAny_storeName_cell I.ok.kind aR ax z (λh' ll hs=>?_);obtain⟨fX,yo,Eh⟩:=id z;refine h {s with heap:=h'} ⟨I.ok,I.os,I.bare,⟨λb o e n ag ao=>?_,λb o e n ag ao=>?_,I.base.free,λb o e ao=>?_,I.base.tups,I.base.frzs,I.base.tbls⟩,⟨m,bA.sameBut hs (qbJ (cne x c ax)),λj y lj aW a7 c_=>?_⟩,λy dO e=>?_,I.free,I.freeC,λp aS=>?_,ym ⟨fX,yo,I.freeC x c ax⟩ hs,by simpa using I.len⟩ ⟨c,hs,.inr ax⟩
  ·exact(hs.2 b (qak (qad (Heap.lt_size e) (I.ok.cab x c pp ax)))).trans (I.base.keep b o e n ag ao)
  ·obtain⟨sl,aW⟩:=I.base.slot b o e n ag ao;exact⟨sl,(hs.2 b (qak (qad (Heap.lt_size e) (I.ok.cab x c pp ax)))).trans aW⟩
  ·obtain⟨cM,aW⟩:=I.base.there b o e ao;exact⟨cM,(hs.2 b (qak (qad (Heap.lt_size e) (I.ok.cab x c pp ax)))).trans aW⟩
  ·by_cases aJ:j=i
   ·subst aJ;rw[hi] at aW;cases aW;rw[qbr yl] at a7;cases a7;exact⟨u,r,.inr ⟨.inl aR,c,ax,ll⟩⟩
   ·rw[qbB (qbJ aJ)] at a7;obtain⟨mf,dt,q⟩:=af j y lj aW a7 c_;refine⟨mf,dt,?_⟩;rcases q with q|⟨k,dO,e,fl⟩
    ·exact .inl q
    ·refine .inr ⟨k,dO,e,fl.sameBut hs ?_⟩;rintro rfl;exact aJ (tT d_ aW (I.ok.inj _ _ _ e ax▸hi))
  ·by_cases ky:dO=c
   ·subst ky;exact⟨_,ll⟩
   ·obtain⟨hZ,e0⟩:=I.cell y dO e;exact⟨hZ,e0.sameBut hs ky⟩
  ·obtain⟨e,n,ne,me,d⟩:=I.pin p aS;refine⟨(hs.2 p.1 ?_).trans e,n,ne,me,d⟩;intro q;rw[q,yo] at e;have hc:fX=p.2:=qap e;exact d dC (by rw[←hc];exact Eh)
theorem m2{M:Model}{A:Around}{E:Value→Shared→Prop}{i:Nat}{x:Str}{v:V}{u:Value}{Q:Unit→Shared→Prop}(I:Inv X ah ae H s)(d_:X.N.Nodup)(hi:X.N[i]? =some x)(ao:Loc X.env.scope x)(r:c2 v u)
  (h:∀s',Inv X ah (ae.set i (some v)) H s'→Q () s') (bB:X.fn x=true∨X.env.scope.names.lookup x=some .local:=by first|exact .inl rfl|exact .inr rfl|assumption):wpAny M A (storeName X.env x u) Q E s:=
 tU I d_ hi ao r (λs' eC _=>h s' eC) bB
theorem Inv.call'{s':Shared}{ch:List Addr}(I:Inv X ah ae H s)(bc:s'.os=s.os)(u:Un (frs X.stack) ch H H' s.heap s'.heap)(hok:HOk X.prog X.w H' s'.heap)(aM:AllBare s'.gens)
  (hk:∀b∈ch,(b∈X.ex∨X.s₀.heap.objs.size≤b)∧b≠X.env.locals∧(∀x c,X.env.cells.lookup x=some c→c≠b)∧∀p∈X.pn++ah,p.1≠b):Inv X ah ae H' s':=by
 obtain⟨h',g',d',t',cM⟩:=s';have e:cM=s.os:=bc;subst e;exact I.call (g':=g') (t':=t') (d':=d') u hok aM hk
end
noncomputable abbrev XK:=Value→Option Addr→Hp→Prop
noncomputable abbrev St:=List (Option V)
noncomputable abbrev VK:=V→Hp→Prop
noncomputable abbrev TE:=St→Hp→VK→Prop
noncomputable abbrev TT:=St→Hp→(Bool→Hp→Prop)→Prop
noncomputable abbrev TA:=St→Hp→(List V→Hp→Prop)→Prop
structure Vh where
 nx:St→Hp→Prop
 rt:VK
 bk:St→Hp→Prop:=λ_ _=>False
 ct:St→Hp→Prop:=λ_ _=>False
noncomputable abbrev TS:=Vh→St→Hp→Prop
def EP(X:Cx)(ah:List (Addr×Obj))(ae:St)(Q:VK)(u:Value)(s':Shared):Prop:=∃v H',Inv X ah ae H' s'∧c2 v u∧Q v H'
def TP(X:Cx)(ah:List (Addr×Obj))(ae:St)(Q:Bool→Hp→Prop)(b:Bool)(s':Shared):Prop:=∃H',Inv X ah ae H' s'∧Q b H'
def AP(X:Cx)(ah:List (Addr×Obj))(ae:St)(Q:List V→Hp→Prop)(us:List Value)(s':Shared):Prop:=∃vs H',Inv X ah ae H' s'∧cZ vs us∧Q vs H'
def SP(X:Cx)(ah:List (Addr×Obj))(D:Vh)(f:Flow)(s':Shared):Prop:=
 match f with
 | .next=>∃ci H',Inv X ah ci H' s'∧D.nx ci H'
 | .brk=>∃ci H',Inv X ah ci H' s'∧D.bk ci H'
 | .cont=>∃ci H',Inv X ah ci H' s'∧D.ct ci H'
 | .ret u=>∃v ci H',Inv X ah ci H' s'∧c2 v u∧D.rt v H'
def PE(X:Cx)(e:Expr)(t:TE):Prop:=
 ∀(ah:List (Addr×Obj))(s:Shared)(ae:St)(H:Hp)(Q:VK),Inv X ah ae H s→t ae H Q→wpAny (model X.prog X.w) X.A (eval e X.env) (EP X ah ae Q) X.xe s
def PT(X:Cx)(e:Expr)(t:TT):Prop:=
 ∀(ah:List (Addr×Obj))(s:Shared)(ae:St)(H:Hp)(Q:Bool→Hp→Prop),Inv X ah ae H s→t ae H Q→wpAny (model X.prog X.w) X.A (isTrue e X.env (eval e X.env)) (TP X ah ae Q) X.xe s
def PW(X:Cx)(e:Expr)(t:TT):Prop:=
 ∀(m3:Sem Value)(ah:List (Addr×Obj))(s:Shared)(ae:St)(H:Hp)(Q:Bool→Hp→Prop),Inv X ah ae H s→t ae H Q→wpAny (model X.prog X.w) X.A (isTrue e X.env m3) (TP X ah ae Q) X.xe s
theorem PW.pt{X:Cx}{e:Expr}{t:TT}(h:PW X e t):PT X e t:=h _
def PA(X:Cx)(aN:List Expr)(t:TA):Prop:=
 ∀(pos:Pos)(ah:List (Addr×Obj))(s:Shared)(ae:St)(H:Hp)(Q:List V→Hp→Prop),Inv X ah ae H s→t ae H Q→wpAny (model X.prog X.w) X.A (spliced (backTo pos (starEach aN X.env))) (AP X ah ae Q) X.xe s
def PS(X:Cx)(st:Stmt)(t:TS):Prop:=
 ∀(ah:List (Addr×Obj))(s:Shared)(ae:St)(H:Hp)(D:Vh),Inv X ah ae H s→t D ae H→wpAny (model X.prog X.w) X.A (exec st X.env) (SP X ah D) X.xe s
def PSs(X:Cx)(st:List Stmt)(t:TS):Prop:=
 ∀(ah:List (Addr×Obj))(s:Shared)(ae:St)(H:Hp)(D:Vh),Inv X ah ae H s→t D ae H→wpAny (model X.prog X.w) X.A (execs st X.env) (SP X ah D) X.xe s
theorem thn{db:Type}{t:Sem db}{Q pq:db→Shared→Prop}{M:Model}{A:Around}{E:Value→Shared→Prop}{s:Shared}(h:wpAny M A t Q E s)(jV:∀a s,Q a s→pq a s):wpAny M A t pq E s:=wpAny_mono h jV λ_ _ x=>x
section
variable {X:Cx}
theorem bin{a b:Expr}{a_ c4:TE}(aZ:PE X a a_)(ag:PE X b c4){ah:List (Addr×Obj)}{s:Shared}{ae:St}{H:Hp}{R:V→V→Hp→Prop}(I:Inv X ah ae H s)(h:a_ ae H λx aj=>c4 ae aj λy ay=>R x y ay)
  {db:Type} {Q:db→Shared→Prop} {f:Value→Value→Sem db}
  (bB:∀v u b' x y ay,Inv X ah ae ay b'→c2 x v→c2 y u→R x y ay→wpAny (model X.prog X.w) X.A (f v u) Q X.xe b'):
  wpAny (model X.prog X.w) X.A (eval a X.env) (λv dU=>wpAny (model X.prog X.w) X.A (eval b X.env) (λu kz=>wpAny (model X.prog X.w) X.A (f v u) Q X.xe kz) X.xe dU) X.xe s:=by
 refine thn (aZ ah s ae H _ I h) λv az ⟨x,aj,bD,cH,cA⟩=>?_;refine thn (ag ah az ae aj _ bD cA) λu b' ⟨y,ay,c',cX,cT⟩=>?_;exact bB v u b' x y ay c' cH cX cT
noncomputable def Zh0 (i:Nat):TE:=λae H Q=>∃v,ae[i]? =some (some v)∧Q v H
noncomputable def tC (v:V):TE:=λ_ H Q=>Q v H
theorem ZnI{i:Nat}{x:Str}{pos:Pos}(d_:X.N[i]? =some x)(cn:Vis X.env.scope x)(hd:(x==("__debug__" :Str))=false:=by decide)(jn:(x==("__classdict__" :Str))=false:=by decide):PE X (.Name x pos) (Zh0 i):=by
 intro ah s ae H Q I h;obtain⟨v,e,h⟩:=h;obtain⟨m,bA,af⟩:=I.loc;obtain⟨u,r,l⟩:=af i x v d_ e cn;have eN:EP X ah ae Q u s:=⟨v,H,I,r,h⟩;rcases l with⟨aR,a6⟩|⟨aR,c,ax,mh⟩
 ·exact wpAny_Name (wpAny_loadName_local I.ok.kind aR bA a6 eN) hd
 ·rcases aR with aR|aR
  ·exact wpAny_Name (wpAny_loadName_cell I.ok.kind aR ax mh eN) hd
  ·exact wpAny_Name (wpAny_loadName_free I.ok.kind aR ax mh eN jn) hd
theorem aX{i j pos}:PE X (.Constant (.int i) j pos) (tC (.int i)):=λ_ _ _ H _ I h=>wpAny_Constant_int ⟨.int i,H,I.tok _,⟨_,rfl⟩,h⟩
theorem Z2{b j pos}:PE X (.Constant (.bool b) j pos) (tC (.bl b)):=λ_ _ _ H _ I h=>Constant_bool ⟨.bl b,H,I,rfl,h⟩
theorem W7{j pos}:PE X (.Constant .none j pos) (tC .non):=λ_ _ _ H _ I h=>Constant_none ⟨.non,H,I,rfl,h⟩
theorem Y1{x j pos}:PE X (.Constant (.str x) j pos) (tC (.str x)):=λ_ _ _ H _ I h=>Calls.Constant_str ⟨.str x,H,I.tok _,⟨_,rfl⟩,h⟩
def Gl(X:Cx)(x:Str):Prop:=X.env.kindOf x=some .globalImplicit
theorem m4{E:Value→Shared→Prop}{ah:List (Addr×Obj)}{s:Shared}{ae:St}{H:Hp}{x:Str}{u:Value}{pos:Pos}{Q:Value→Shared→Prop}(I:Inv X ah ae H s)(aM:Gl X x)(a6:X.mg x=some u)(h:Q u s)
  (hd:(x==("__debug__" :Str))=false:=by decide):wpAny (model X.prog X.w) X.A (eval (.Name x pos) X.env) Q E s:=
 Calls.Name_function_global I.ok.kind aM (Calls.loadGlobal_global (by rw[I.ok.glob];exact I.mod.glob.keeps I.bk) a6 h) hd
theorem jW{E:Value→Shared→Prop}{ah:List (Addr×Obj)}{s:Shared}{ae:St}{H:Hp}{x:Str}{u:Value}{pos:Pos}{Q:Value→Shared→Prop}(I:Inv X ah ae H s)(aM:Gl X x)(a6:X.mg x=none)(cn:bootBuiltins x=some u)(h:Q u s)
  (bA:x≠"__name__" :=by decide) (hd:(x==("__debug__" :Str))=false:=by decide):wpAny (model X.prog X.w) X.A (eval (.Name x pos) X.env) Q E s:=by
 obtain⟨jm,ai,aw⟩:=I.mod.blt;exact Calls.Name_function_global I.ok.kind aM (Calls.loadGlobal_builtin (by rw[I.ok.glob];exact I.mod.glob.keeps I.bk) a6 (by rw[I.ok.blt];exact ai.keeps I.bk) ((aw x bA).trans cn) h) hd
theorem m5{x:Str}{v:V}{u:Value}{pos:Pos}(aM:Gl X x)(a6:X.mg x=some u)(r:c2 v u)(hd:(x==("__debug__" :Str))=false:=by decide):PE X (.Name x pos) (tC v):=
 λ_ _ _ H _ I h=>m4 I aM a6 ⟨v,H,I,r,h⟩ hd
theorem jD{x:Str}{v:V}{u:Value}{pos:Pos}(aM:Gl X x)(a6:X.mg x=none)(cn:bootBuiltins x=some u)(r:c2 v u)(bA:x≠"__name__" :=by decide)(hd:(x==("__debug__" :Str))=false:=by decide):PE X (.Name x pos) (tC v):=
 λ_ _ _ H _ I h=>jW I aM a6 cn ⟨v,H,I,r,h⟩ bA hd
variable {a b:Expr}{a_ c4:TE}{pos:Pos}
variable {gQ rz:TT}{rest:List Expr}
noncomputable def yp (t u:TT):TT:=λae H Q=>t ae H λc aj=>if c=true then u ae aj Q else Q false aj
noncomputable def tOr (t u:TT):TT:=λae H Q=>t ae H λc aj=>if c=true then Q true aj else u ae aj Q
noncomputable def yq (t:TT):TT:=λae H Q=>t ae H λc aj=>Q (!c) aj
theorem m6(aZ:PT X a gQ):PW X (.BoolOp .And [a] pos) gQ:=by
 intro pr ah s ae H Q I h;refine isTrue_and (thn (aZ ah s ae H Q I h) λc az e=>?_);cases c with
 |true=>exact isTrue_and_nil e
 |false=>exact e
theorem jX(aZ:PT X a gQ):PW X (.BoolOp .Or [a] pos) gQ:=by
 intro pr ah s ae H Q I h;refine isTrue_or (thn (aZ ah s ae H Q I h) λc az e=>?_);cases c with
 |false=>exact isTrue_or_nil e
 |true=>exact e
theorem mi(aZ:PT X a gQ)(ag:PW X (.BoolOp .And (b::rest) pos) rz):PW X (.BoolOp .And (a::b::rest) pos) (yp gQ rz):=by
 intro pr ah s ae H Q I h;refine isTrue_and (thn (aZ ah s ae H _ I h) λc az ⟨aj,bD,cA⟩=>?_);cases c with
 |true=>exact ag pr ah az ae aj Q bD cA
 |false=>exact⟨aj,bD,cA⟩
theorem jo(aZ:PT X a gQ)(ag:PW X (.BoolOp .Or (b::rest) pos) rz):PW X (.BoolOp .Or (a::b::rest) pos) (tOr gQ rz):=by
 intro pr ah s ae H Q I h;refine isTrue_or (thn (aZ ah s ae H _ I h) λc az ⟨aj,bD,cA⟩=>?_);cases c with
 |true=>exact⟨aj,bD,cA⟩
 |false=>exact ag pr ah az ae aj Q bD cA
theorem ij(aZ:PT X a gQ):PT X (.UnaryOp .Not a pos) (yq gQ):=by
 intro ah s ae H Q I h;exact isTrue_not (aZ ah s ae H (λc aj=>Q (!c) aj) I h)
noncomputable def yr (a_ c4:TE):TE:=λae H Q=>a_ ae H λx aj=>∃c,x= .bl c∧if c=true then c4 ae aj Q else Q (.bl false) aj
noncomputable def yt (a_:TE):TE:=λae H Q=>a_ ae H λx aj=>∃c,x= .bl c∧Q (.bl (!c)) aj
theorem mj{op}{t:TE}(h:PE X a t):PE X (.BoolOp op [a] pos) t:=λah s ae H Q I hw=>BoolOp_one (h ah s ae H Q I hw)
theorem ml(aZ:PE X a a_)(ag:PE X (.BoolOp .And (b::rest) pos) c4):PE X (.BoolOp .And (a::b::rest) pos) (yr a_ c4):=by
 intro ah s ae H Q I h;refine BoolOp_and (thn (aZ ah s ae H _ I h) λv az ⟨x,aj,bD,cH,cA⟩=>?_);obtain⟨c,rfl,cA⟩:=cA;cases cH;refine wpAny_truthy_bool ?_;cases c with
 |true=>exact ag ah az ae aj Q bD cA
 |false=>exact⟨.bl false,aj,bD,rfl,cA⟩
theorem tW(aZ:PE X a a_):PE X (.UnaryOp .Not a pos) (yt a_):=by
 intro ah s ae H Q I h;refine UnaryOp_ (thn (aZ ah s ae H _ I h) λv az ⟨x,aj,bD,cH,cA⟩=>?_);obtain⟨c,rfl,cA⟩:=cA;cases cH;exact not_of (wpAny_truthy_bool ⟨.bl (!c),aj,bD,rfl,cA⟩)
noncomputable def tIf (t:TT) (a_ c4:TE):TE:=λae H Q=>t ae H λc aj=>if c=true then a_ ae aj Q else c4 ae aj Q
theorem Ei{c:Expr}(ax:PT X c gQ)(aZ:PE X a a_)(ag:PE X b c4):PE X (.IfExp c a b pos) (tIf gQ a_ c4):=by
 intro ah s ae H Q I h;refine wpAny_IfExp (thn (ax ah s ae H _ I h) λd az ⟨aj,bD,cA⟩=>?_);cases d with
 |true=>exact aZ ah az ae aj Q bD cA
 |false=>exact ag ah az ae aj Q bD cA
end
def SqL(K:Frag)(H:Hp)(a:Addr)(xs:List V):Prop:=
 Rd H a (.lst xs)∨
  ∃(o:Obj)(its:Array Value)(n:Nat),K.lookup a=some o∧o.cls= .type "list" ∧o.dict=none∧o.data= .seq its n∧its.size≤sizeLine∧cZ xs its.toList
def SqT(K:Frag)(H:Hp)(a:Addr)(xs:List V):Prop:=
 Rd H a (.tup xs)∨
  ∃(o:Obj)(its:Array Value)(n:Nat),K.lookup a=some o∧o.cls= .type "tuple" ∧o.data= .seq its n∧its.size≤sizeLine∧cZ xs its.toList
noncomputable def Ej:Value→Option V
 | .none=>some .non
 | .bool b=>some (.bl b)
 | .int i _=>some (.int i)
 | .str x _=>some (.str x)
 | .bytes b _=>some (.byt b)
 | .float b _=>some (.flt b)
 | .ref a=>some (.ref a)
 | .type n=>some (.ty n)
 |_=>none
theorem c2.abs{x:V}{u:Value}(r:c2 x u):Ej u=some x:=by
 cases x with
 |non=>cases r;rfl
 |bl _=>cases r;rfl
 |int _=>obtain⟨t,rfl⟩:=r;rfl
 |str _=>obtain⟨t,rfl⟩:=r;rfl
 |byt _=>obtain⟨t,rfl⟩:=r;rfl
 |flt _=>obtain⟨t,rfl⟩:=r;rfl
 |ref _=>cases r;rfl
 |ty _=>cases r;rfl
theorem c2.inj{x y:V}{u:Value}(r:c2 x u)(q:c2 y u):x=y:=qap (r.abs.symm.trans q.abs)
theorem cZ.inj:∀{xs ys:List V}{us:List Value},cZ xs us→cZ ys us→xs=ys
 |_,_,_,.nil,.nil=>rfl
 |_,_,_,.cons r t,.cons dt t'=>by rw[r.inj dt,cZ.inj t t']
section
variable {X:Cx}{ah:List (Addr×Obj)}{ae:St}{H:Hp}{s:Shared}{a:Addr}{xs ys:List V}
theorem SqL.of{K:Frag}(h:H a=some (.lst xs)):SqL K H a xs:= .inl (.inl h)
theorem SqT.of{K:Frag}(h:H a=some (.tup xs)):SqT K H a xs:= .inl (.inl h)
theorem Inv.list(I:Inv X ah ae H s)(h:SqL X.K H a xs):∃its:List Value,cZ xs its∧PlainL s.heap a its.toArray∧xs.length≤sizeLine:=by
 rcases h with h|⟨o,its,n,aR,ax,hd,hs,hz,r⟩
 ·obtain⟨z,its,n,r,e⟩:=h.ok I.hok;exact⟨its,r,⟨_,n,e,rfl,rfl,rfl⟩,z⟩
 ·refine⟨its.toList,r,⟨o,n,I.kIn a o aR,ax,hd,by simpa using hs⟩,?_⟩;have e:=r.length;simp only[qbi] at e;omega
theorem Inv.tuple(I:Inv X ah ae H s)(h:SqT X.K H a xs):∃its:List Value,cZ xs its∧IsTup s.heap a its.toArray∧xs.length≤sizeLine:=by
 rcases h with h|⟨o,its,n,aR,ax,hs,hz,r⟩
 ·obtain⟨z,its,r,p⟩:=h.ok I.hok;exact⟨its,r,p,z⟩
 ·refine⟨its.toList,r,⟨o,I.kIn a o aR,ax,n,by simpa using hs⟩,?_⟩;have e:=r.length;simp only[qbi] at e;omega
theorem Inv.list_inj(I:Inv X ah ae H s)(h:SqL X.K H a xs)(h':SqL X.K H a ys):xs=ys:=by
 obtain⟨its,r,⟨o,n,e,_,_,d⟩,_⟩:=I.list h;obtain⟨its',dt,⟨cM,fK,cx,_,_,d'⟩,_⟩:=I.list h';rw[e] at cx;cases cx;rw[d] at d'
 injection d' with d1 _
 have:its=its':=by simpa using congrArg Array.toList d1
 subst this;exact r.inj dt
end
section
variable {X:Cx}{ah:List (Addr×Obj)}{ae:St}{H:Hp}{s:Shared}{E:Value→Shared→Prop}
end
section
variable {X:Cx}{st:Stmt}{rest:List Stmt}{t u:TS}{e:Expr}{cV:TE}{pos:Pos}
noncomputable def tNext:TS:=λD ae H=>D.nx ae H
noncomputable def yu (t u:TS):TS:=λD ae H=>t {D with nx:=u D} ae H
theorem el:PSs X [] tNext:=λ_ _ ae H _ I h=>wpAny_execs_nil ⟨ae,H,I,h⟩
theorem b_(ai:PS X st t)(aw:PSs X rest u):PSs X (st::rest) (yu t u):=by
 intro ah s ae H D I h;refine wpAny_execs_cons (thn (ai ah s ae H {D with nx:=u D} I h) λf az q=>?_);cases f with
 |next=>
  obtain⟨ci,H',eC,q⟩:=q;exact aw ah az ci H' D eC q
 |ret v=>exact q
 |brk=>exact q
 |cont=>exact q
theorem cy(ai:PS X st t):PSs X [st] t:=by
 intro ah s ae H D I h;refine wpAny_execs_cons (thn (ai ah s ae H D I h) λf az q=>?_);cases f with
 |next=>exact wpAny_execs_nil q
 |ret v=>exact q
 |brk=>exact q
 |cont=>exact q
theorem Inv.quiet{ah:List (Addr×Obj)}{ae:St}{H:Hp}{s:Shared}(I:Inv X ah ae H s):interactive X.env=false:=by simp[interactive,I.ok.kind]
noncomputable def yv (cV:TE):TS:=λD ae H=>cV ae H λ_ aj=>D.nx ae aj
theorem fL(cp:PE X e cV)(hs:swapsWith e none pos.line X.env=pure false:=by rfl):PS X (.Expr e pos) (yv cV):=by
 intro ah s ae H D I h;exact wpAny_Expr_any (thn (cp ah s ae H _ I h) λv az ⟨x,aj,bD,cH,cA⟩=>⟨ae,aj,bD,cA⟩) I.quiet hs
noncomputable def yw (cV:TE):TS:=λD ae H=>cV ae H D.rt
theorem c9(cp:PE X e cV):PS X (.Return (some e) pos) (yw cV):=by
 intro ah s ae H D I h;exact wpAny_Return_some (thn (cp ah s ae H _ I h) λv az ⟨x,aj,bD,cH,cA⟩=>⟨x,ae,aj,bD,cH,cA⟩)
noncomputable def yx (c:TT) (t u:TS):TS:=λD ae H=>c ae H λb aj=>if b=true then t D ae aj else u D ae aj
theorem ec{c:Expr}{a b:List Stmt}{dN:TT}(ax:PT X c dN)(aZ:PSs X a t)(ag:PSs X b u):PS X (.If c a b pos) (yx dN t u):=by
 intro ah s ae H D I h;refine wpAny_If (thn (ax ah s ae H _ I h) λd az ⟨aj,bD,cA⟩=>?_);cases d with
 |true=>exact aZ ah az ae aj D bD cA
 |false=>exact ag ah az ae aj D bD cA
end
noncomputable abbrev TG:=V→St→Hp→(St→Hp→Prop)→Prop
noncomputable abbrev TGs:=List V→St→Hp→(St→Hp→Prop)→Prop
def PG(X:Cx)(target:Expr)(t:TG):Prop:=
 ∀(ah:List (Addr×Obj))(s:Shared)(ae:St)(H:Hp)(v:V)(u:Value)(Q:St→Hp→Prop),Inv X ah ae H s→c2 v u→t v ae H Q→
  wpAny (model X.prog X.w) X.A (assign target X.env u) (λ_ s'=>∃ci H',Inv X ah ci H' s'∧Q ci H') X.xe s
def PGs(X:Cx)(fD:List Expr)(t:TGs):Prop:=
 ∀(ah:List (Addr×Obj))(s:Shared)(ae:St)(H:Hp)(vs:List V)(us:List Value)(Q:St→Hp→Prop),Inv X ah ae H s→cZ vs us→t vs ae H Q→
  wpAny (model X.prog X.w) X.A (assignInOrder ((assignEach fD X.env).map (·.2)) us) (λ_ s'=>∃ci H',Inv X ah ci H' s'∧Q ci H') X.xe s
noncomputable abbrev ZcX:=V→V→V→Hp→(Hp→Prop)→Prop
def Zi4(X:Cx)(t:ZcX):Prop:=
 ∀(ah:List (Addr×Obj))(s:Shared)(ae:St)(H:Hp)(o i v:V)(dZ gH u:Value)(Q:Hp→Prop),Inv X ah ae H s→c2 o dZ→c2 i gH→c2 v u→t o i v H Q→
  wpAny (model X.prog X.w) X.A (setItem dZ gH u) (λ_ s'=>∃H',Inv X ah ae H' s'∧Q H') X.xe s
noncomputable abbrev TIp:=V→V→Hp→VK→Prop
def PIp(X:Cx)(op:Operator)(t:TIp):Prop:=
 ∀(ah:List (Addr×Obj))(s:Shared)(ae:St)(H:Hp)(x y:V)(v u:Value)(Q:VK),Inv X ah ae H s→c2 x v→c2 y u→t x y H Q→
  wpAny (model X.prog X.w) X.A (inplaceOp op v u) (EP X ah ae Q) X.xe s
section
variable {X:Cx}{pos:Pos}
noncomputable def UL (i:Nat):TG:=λv ae H Q=>Q (ae.set i (some v)) H
theorem c6{i:Nat}{x:Str}(d_:X.N.Nodup)(hi:X.N[i]? =some x)(ao:Loc X.env.scope x)(bB:X.fn x=true∨X.env.scope.names.lookup x=some .local:=by first|exact .inl rfl|exact .inr rfl|assumption):PG X (.Name x pos) (UL i):=by
 intro ah s ae H v u Q I r h;exact wpAny_assign_Name (m2 I d_ hi ao r (λs' eC=>⟨_,H,eC,h⟩) bB)
noncomputable def gNil:TGs:=λvs ae H Q=>vs=[]∧Q ae H
noncomputable def yy (t:TG) (u:TGs):TGs:=λvs ae H Q=>∃v r,vs=v::r∧t v ae H λci H'=>u r ci H' Q
theorem gI:PGs X [] gNil:=by
 intro ah s ae H vs us Q I r h;obtain⟨e,h⟩:=h;subst e;cases r;exact assignInOrder_nil ⟨ae,H,I,h⟩
theorem d8{e:Expr}{aN:List Expr}{t:TG}{u:TGs}(ai:PG X e t)(aw:PGs X aN u)
  (hs:(assignEach (e::aN) X.env).map (·.2)=assign e X.env::(assignEach aN X.env).map (·.2):=by rfl):PGs X (e::aN) (yy t u):=by
 intro ah s ae H vs us Q I r h;obtain⟨v,QU,aW,h⟩:=h;subst aW;cases r with
 |cons r pu=>
  rw[hs];refine assignInOrder_cons (thn (ai ah s ae H _ _ _ I r h) λ_ az ⟨oc,aj,bD,cA⟩=>?_);exact aw ah az oc aj _ _ Q bD pu cA
noncomputable def tX (K:Frag) (n:Nat) (t:TGs):TG:=λv ae H Q=>∃a xs,v= .ref a∧SqT K H a xs∧xs.length=n∧t xs ae H Q
theorem ZmX{aN:List Expr}{k:Nat}{t:TGs}{n:Nat}(ax:X.calm=true)(h:PGs X aN t)
  (bA:(assignEach aN X.env).length=n:=by rfl) (dQ:(assignEach aN X.env).findIdx? (·.1)=none:=by rfl):PG X (.Tuple aN k pos) (tX X.K n t):=by
 intro ah s ae H v u Q I r hw;obtain⟨a,xs,aW,cG,af,hw⟩:=hw;subst aW;cases r;obtain⟨its,dk,cu,hz⟩:=I.tuple cG;refine assign_Tuple_tuple (I.ok.hd ax) cu (by simp[bA,←af,dk.length]) dQ λh' ao=>?_;have bD:Inv X ah ae H {s with heap:=h'}:=I.kept (t':=s.toks) λb o e=>ao b o (qak (Heap.lt_size e)) e;exact h ah _ ae H xs _ Q bD (by simpa using dk) hw
noncomputable def yz (to ti:TE) (t:ZcX):TG:=λv ae H Q=>to ae H λo aj=>ti ae aj λi ay=>t o i v ay λbF=>Q ae bF
theorem kA{o i:Expr}{to ti:TE}{t:ZcX}(bc:PE X o to)(hi:PE X i ti)(hs:Zi4 X t)
  (aZ:∀v,assign (.Subscript o i pos) X.env v=(do
   let dZ←holding [v] (eval o X.env)
   let gH←holding [v,dZ] (eval i X.env)
   standAt pos
   holding [v,dZ,gH] (setItem dZ gH v)
   release [v,dZ,gH] []):=by intro _;rfl):PG X (.Subscript o i pos) (yz to ti t):=by
 intro ah s ae H v u Q I r h;rw[aZ];refine wpAny_bind (wpAny_holding (thn (bc ah s ae H _ I h) λdZ az ⟨x,aj,bD,cH,cA⟩=>?_));refine wpAny_bind (wpAny_holding (thn (hi ah az ae aj _ bD cA) λgH b' ⟨y,ay,c',cX,cT⟩=>?_));refine wpAny_bind (wpAny_standAt (wpAny_bind (wpAny_holding (thn (hs ah b' ae ay x y v dZ gH u _ c' cH cX r cT) λ_ bb ⟨bF,dV,fY⟩=>?_))));exact wpAny_release ⟨ae,bF,dV,fY⟩
noncomputable def pw (cV:TE) (g:TG):TS:=λD ae H=>cV ae H λx aj=>g x ae aj D.nx
theorem iA{de e:Expr}{cV:TE}{g:TG}(cp:PE X e cV)(aM:PG X de g)(hs:swapsWithSole [de] e pos.line X.env=pure false:=by rfl)(hw:swappedStores [de] e X.env=pure none:=by rfl)
  (ai:(assignEach [de] X.env).map (·.2)=[assign de X.env]:=by rfl):PS X (.Assign [de] e pos) (pw cV g):=by
 intro ah s ae H D I h;refine wpAny_Assign_stores (thn (cp ah s ae H _ I h) λv az ⟨x,aj,bD,cH,cA⟩=>?_) hs hw;rw[ai];exact thn (aM ah az ae aj x v _ bD cH cA) λ_ b' q=>q
theorem c0{i:Nat}{x:Str}{e:Expr}{cV:TE}{jY:Pos}(d_:X.N.Nodup)(hi:X.N[i]? =some x)(ao:Loc X.env.scope x)(cp:PE X e cV)(hs:swapsWith e (some (.Name x jY)) pos.line X.env=pure false:=by rfl)(bB:X.fn x=true∨X.env.scope.names.lookup x=some .local:=by first|exact .inl rfl|exact .inr rfl|assumption):
  PS X (.Assign [.Name x jY] e pos) (pw cV (UL i)):=by
 intro ah s ae H D I h;refine wpAny_Assign_Name (thn (cp ah s ae H _ I h) λv az ⟨y,aj,bD,cH,cA⟩=>?_) hs;exact m2 bD d_ hi ao cH (λb' c'=>⟨_,aj,c',cA⟩) bB
noncomputable def yA (i j:Nat) (a_:TA):TS:=λD ae H=>a_ ae H λvs aj=>∃v w,vs=[v,w]∧D.nx ((ae.set i (some v)).set j (some w)) aj
theorem yB{i j:Nat}{x y:Str}{a b:Expr}{a_:TA}{tY py pt:Pos}{tZ k2 pt2}(ax:X.calm=true)(d_:X.N.Nodup)(hi:X.N[i]? =some x)(aJ:X.N[j]? =some y)(px:i≠j)
  (ao:X.env.scope.names.lookup x=some .local) (a':X.env.scope.names.lookup y=some .local) (aZ:PA X [a,b] a_)
  (hw:swappedStores [.Tuple [.Name x tY,.Name y py] tZ pt] (.Tuple [a,b] k2 pt2) X.env=pure (some [x,y]))
  (hs:swapsWithSole [.Tuple [.Name x tY,.Name y py] tZ pt] (.Tuple [a,b] k2 pt2) pos.line X.env=pure false:=by rfl):
  PS X (.Assign [.Tuple [.Name x tY,.Name y py] tZ pt] (.Tuple [a,b] k2 pt2) pos) (yA i j a_):=by
 intro ah s ae H D I h;rw[exec_Assign_arm];refine wpAny_bind (wpAny_standAt ?_);rw[hs];refine wpAny_bind (wpAny_pure ?_);rw[if_neg (by decide)];refine wpAny_bind (Tuple_ (thn (aZ _ ah s ae H _ I h) λus az ⟨vs,aj,bD,cH,cA⟩=>?_));obtain⟨v,w,aW,cA⟩:=cA;subst aW;obtain⟨dH,eU,rfl,dk,jp⟩:∃dH eU,us=[dH,eU]∧c2 v dH∧c2 w eU:=by
  cases cH with
  |cons p q=>
   cases q with
   |cons fg hc=>
    cases hc;exact⟨_,_,rfl,p,fg⟩
 refine wpAny_newObj_type ?_ (by show 2≤sizeLine;decide);have c':Inv X ah ae aj {az with heap:=az.heap.push {cls:= .type "tuple",data:= .seq [dH,eU].toArray}}:=bD.kept (t':=az.toks) λb o e=>Heap.get?_push_of_some _ e;rw[hw];refine wpAny_bind (wpAny_pure ?_);show wpAny (model X.prog X.w) X.A (do rule "assign.swapped-stores";let items←unpackItems (.ref az.heap.objs.size) 2 none;assignInOrder [λv=>bindName X.env y v,λv=>bindName X.env x v] items.reverse;pure Flow.next) _ _ _;refine wpAny_bind (wpAny_rule (wpAny_bind (unpackItems_tuple (items:=#[dH,eU]) (I.ok.hd ax) (IsTup.new az.heap _) λh' iB=>?_)));have dV:=c'.kept (h':=h') (t':=az.toks) λb o e=>iB b o (qak (Heap.lt_size e)) e;show wpAny _ _ (assignInOrder [λv=>bindName X.env y v,λv=>bindName X.env x v] [eU,dH] >>= λ_=>pure Flow.next) _ _ _;refine wpAny_bind (assignInOrder_cons (wpAny_bindName (m2 dV d_ aJ (.inl a') jp (λb' jZ=>?_) (.inr a'))));refine assignInOrder_cons (wpAny_bindName (m2 jZ d_ hi (.inl ao) dk (λbb h0=>assignInOrder_nil (wpAny_pure ?_)) (.inr ao)));rw[List.set_comm _ _ (qbJ px)] at h0;exact⟨_,aj,h0,cA⟩
noncomputable def Ek (i:Nat) (cV:TE) (ti:TIp):TS:=λD ae H=>∃x,ae[i]? =some (some x)∧cV ae H λy aj=>ti x y aj λz ay=>D.nx (ae.set i (some z)) ay
theorem yC{i:Nat}{x:Str}{e:Expr}{cV:TE}{op:Operator}{ti:TIp}{jY:Pos}(d_:X.N.Nodup)(hi:X.N[i]? =some x)(ao:Loc X.env.scope x)(cp:PE X e cV)(bc:PIp X op ti)(bB:X.fn x=true∨X.env.scope.names.lookup x=some .local:=by first|exact .inl rfl|exact .inr rfl|assumption):
  PS X (.AugAssign (.Name x jY) op e pos) (Ek i cV ti):=by
 intro ah s ae H D I h;obtain⟨v,aW,h⟩:=h;obtain⟨m,bA,af⟩:=I.loc;have El:Vis X.env.scope x:=by rcases ao with k|k;exact .inl k;exact .inr (.inl k)
 obtain⟨u,r,l⟩:=af i x v hi aW El;refine wpAny_AugAssign_Name ?_;have go:wpAny (model X.prog X.w) X.A (eval e X.env) (λw kz=>wpAny (model X.prog X.w) X.A (inplaceOp op u w) (λr jq=>wpAny (model X.prog X.w) X.A (storeName X.env x r) (λ_=>SP X ah D .next) X.xe jq) X.xe kz) X.xe s:=by
  refine thn (cp ah s ae H _ I h) λw az ⟨y,aj,bD,cH,cA⟩=>?_;refine thn (bc ah az ae aj v y u w _ bD r cH cA) λz b' ⟨QV,ay,c',cX,cT⟩=>?_;exact m2 c' d_ hi ao cX (λbb dV=>⟨_,ay,dV,cT⟩) bB
 rcases l with⟨aR,a6⟩|⟨aR,c,ax,mh⟩
 ·exact wpAny_loadName_local I.ok.kind aR bA a6 go
 ·rcases aR with aR|aR
  ·exact wpAny_loadName_cell I.ok.kind aR ax mh go
  ·rcases ao with k|k
   ·have:X.env.scope.names.lookup x=some .free:=aR;rw[k] at this;cases this
   ·have:X.env.scope.names.lookup x=some .free:=aR;rw[k] at this;cases this
noncomputable def yD (to ti cV:TE) (m7:V→V→Hp→VK→Prop) (m8:TIp) (m9:ZcX):TS:=λD ae H=>to ae H λo aj=>ti ae aj λi ay=>m7 o i ay λx bF=>cV ae bF λy bC=>m8 x y bC λz cj=>m9 o i z cj λc7=>D.nx ae c7
def Zk2(X:Cx)(t:V→V→Hp→VK→Prop):Prop:=
 ∀(ah:List (Addr×Obj))(s:Shared)(ae:St)(H:Hp)(o i:V)(dZ gH:Value)(Q:VK),Inv X ah ae H s→c2 o dZ→c2 i gH→t o i H Q→
  wpAny (model X.prog X.w) X.A (getItem dZ gH) (EP X ah ae Q) X.xe s
theorem t0{o i e:Expr}{to ti cV:TE}{m7:V→V→Hp→VK→Prop}{m8:TIp}{m9:ZcX}{op:Operator}{lm:Pos}(bc:PE X o to)(hi:PE X i ti)(aM:Zk2 X m7)(cp:PE X e cV)(aS:PIp X op m8)(hs:Zi4 X m9)
  (aZ:∀dZ gH new,augStore i dZ gH new=(do holding [new,dZ,gH] (setItem dZ gH new);release [new,dZ,gH] [];pure .next):=by intros;rfl):PS X (.AugAssign (.Subscript o i lm) op e pos) (yD to ti cV m7 m8 m9):=by
 intro ah s ae H D I h;refine wpAny_AugAssign_SubscriptAny (thn (bc ah s ae H _ I h) λdZ az ⟨x1,aj,bD,cH,cA⟩=>?_) aZ;refine thn (hi ah az ae aj _ bD cA) λgH b' ⟨x2,ay,c',cX,cT⟩=>?_;refine thn (aM ah b' ae ay x1 x2 dZ gH _ c' cH cX cT) λjr bb ⟨x3,bF,dV,he,fY⟩=>?_;refine thn (cp ah bb ae bF _ dV fY) λv cI ⟨x4,bC,jZ,js,kB⟩=>?_;refine thn (aS ah cI ae bC x3 x4 jr v _ jZ he js kB) λnew cK ⟨x5,cj,h0,m_,lp⟩=>?_;exact thn (hs ah cK ae cj x1 x2 x5 dZ gH new _ h0 cH cX m_ lp) λ_ dn ⟨c7,hl,t1⟩=>⟨ae,c7,hl,t1⟩
noncomputable def ipI (f:Int→Int→Int):TIp:=λx y H Q=>∃i j,x= .int i∧y= .int j∧Q (.int (f i j)) H
theorem t2:PIp X .Add (ipI λi j=>i+j):=by
 intro ah s ae H x y v u Q I cH cX h;obtain⟨i,j,aW,a7,q⟩:=h;subst aW;subst a7;obtain⟨t,rfl⟩:=cH;obtain⟨t',rfl⟩:=cX;exact iadd_int ⟨.int _,H,I.tok _,⟨_,rfl⟩,q⟩
theorem yE:PIp X .Sub (ipI λi j=>i-j):=by
 intro ah s ae H x y v u Q I cH cX h;obtain⟨i,j,aW,a7,q⟩:=h;subst aW;subst a7;obtain⟨t,rfl⟩:=cH;obtain⟨t',rfl⟩:=cX;exact isub_int ⟨.int _,H,I.tok _,⟨_,rfl⟩,q⟩
end
section
variable {X:Cx}{pos:Pos}
noncomputable def yF (c:TT) (c4:TS):TS:=λD ae H=>∃W:Nat→St→Hp→Prop,(∃m,W m ae H)∧∀m ae H,W m ae H→
 c ae H λb aj=>if b=true then ∃N:St→Hp→Prop,(∀ci H',N ci H'→∃cQ,cQ<m∧W cQ ci H')∧c4 {D with nx:=N,ct:=N,bk:=D.nx} ae aj else D.nx ae aj
theorem mm{c:Expr}{body:List Stmt}{dN:TT}{c4:TS}(aS:PassesOwn (model X.prog X.w) X.A X.env X.xe)(ax:PT X c dN)(ag:PSs X body c4):PS X (.While c body [] pos) (yF dN c4):=by
 intro ah s ae H D I h;obtain⟨W,⟨hm,fM⟩,turn⟩:=h;refine wpAny_While (codeAny_whileLoop (λn s'=>∃ci H',Inv X ah ci H' s'∧W n ci H') ?_ hm ⟨ae,H,I,fM⟩);rintro n az ⟨oc,aj,bD,f_⟩;refine wpAny_passesOwn aS (thn (ax ah az oc aj _ bD (turn n oc aj f_)) λb b' ⟨ay,c',cT⟩=>?_);cases b with
 |true=>
  obtain⟨N,d_,cT⟩:=cT;rw[if_pos rfl];refine wpAny_passesOwn aS (thn (ag ah b' oc ay _ c' cT) λf bb fY=>?_);cases f with
  |next=>
   obtain⟨j0,bF,dV,m'⟩:=fY;obtain⟨cQ,a6,mn⟩:=d_ j0 bF m';exact⟨cQ,a6,j0,bF,dV,mn⟩
  |cont=>
   obtain⟨j0,bF,dV,m'⟩:=fY;obtain⟨cQ,a6,mn⟩:=d_ j0 bF m';exact⟨cQ,a6,j0,bF,dV,mn⟩
  |brk=>exact fY
  |ret v=>exact fY
 |false=>
  rw[if_neg qag];exact wpAny_execs_nil ⟨oc,ay,c',cT⟩
end
structure It where
 go:Nat→Hp→Prop
 yld:Nat→Hp→V→Hp→Prop
 stop:Nat→Hp→Prop
def h1(X:Cx)(ah:List (Addr×Obj))(H:Hp)(b:Addr):Prop:=
 H b=none∧b≠X.env.locals∧b∉X.fs∧(b∈X.ex∨X.s₀.heap.objs.size≤b)∧(∀x c,X.env.cells.lookup x=some c→c≠b)∧∀p∈X.pn++ah,p.1≠b
theorem Inv.fpOk{X:Cx}{ah:List (Addr×Obj)}{ae:St}{H H':Hp}{s:Shared}{b:Addr}(I:Inv X ah ae H s)(ag:s.heap.objs.size≤b)(bA:H' b=none):h1 X ah H' b:=by
 refine⟨bA,qbX (qad I.lt ag),I.nofs ag,.inr (qaz I.sz ag),λx c e z=>?_,λp aS z=>?_⟩
 ·obtain⟨v,q⟩:=I.cell x c e;exact absurd (qad q.lt (by rw[z];exact ag)) (qbl _)
 ·exact absurd (qad (Heap.lt_size (I.pin p aS).1) (by rw[z];exact ag)) (qbl _)
structure U6(P:Program)(w:World)(K:Frag)(de:Expr)(J:It)(fp:List Addr)(it:Addr)(fo:Nat→Heap→Prop):Prop where
 mem:it∈fp
 obj:∀i h,fo i h→∀b∈fp,∃o,h.get? b=some o∧∀v,o.data≠ .cell v
 keep:∀i h h',fo i h→(∀b∈fp,∀o,h.get? b=some o→h'.get? b=some o)→fo i h'
 item:∀(X:Cx),X.prog=P→X.w=w→X.K=K→X.calm=true→∀(i:Nat)(ah:List (Addr×Obj))(s:Shared)(ae:St)(H:Hp)(E:Value→Shared→Prop),Inv X ah ae H s→(∀b∈fp,h1 X ah H b)→fo i s.heap→J.go i H→
  wpAny (model P w) X.A (pyNext (.ref it)) (λr az=>∃u,r=some u∧
   wpAny (model P w) X.A (letOwnedTupleGo de (.ref it) u) (λ_ b'=>∃x H',Inv X ah ae H' b'∧c2 x u∧J.yld i H x H'∧fo (i+1) b'.heap∧∀b∈fp,H' b=none) E az) E s
 done:∀(X:Cx),X.prog=P→X.w=w→X.K=K→X.calm=true→∀(i:Nat)(ah:List (Addr×Obj))(s:Shared)(ae:St)(H:Hp)(E:Value→Shared→Prop),Inv X ah ae H s→(∀b∈fp,h1 X ah H b)→fo i s.heap→J.stop i H→
  wpAny (model P w) X.A (pyNext (.ref it)) (λr az=>r=none∧Inv X ah ae H az) E s
 self:∀(A:Around)(i:Nat)(s:Shared)(Q:Value→Shared→Prop)(E:Value→Shared→Prop),fo i s.heap→Q (.ref it) s→wpAny (model P w) A (pyIter (.ref it)) Q E s
noncomputable abbrev TI:=St→Hp→(It→Hp→Prop)→Prop
def PIE(X:Cx)(ah:List (Addr×Obj))(ae:St)(de:Expr)(R:It→Hp→Prop)(od:Value)(b':Shared):Prop:=
 ∃(it:Addr)(fp:List Addr)(fo:Nat→Heap→Prop)(J:It)(H':Hp),od= .ref it∧Inv X ah ae H' b'∧U6 X.prog X.w X.K de J fp it fo∧fo 0 b'.heap∧(∀b∈fp,h1 X ah H' b)∧R J H'
def PI(X:Cx)(de eO:Expr)(eW:TI):Prop:=
 ∀(ah:List (Addr×Obj))(s:Shared)(ae:St)(H:Hp)(R:It→Hp→Prop),Inv X ah ae H s→eW ae H R→
  wpAny (model X.prog X.w) X.A (eval eO X.env) (λv az=>wpAny (model X.prog X.w) X.A (pyIter v) (PIE X ah ae de R) X.xe az) X.xe s
theorem pz{M:Model}{A:Around}{E:Value→Shared→Prop}{s:Shared}{de:Expr}{it:Addr}{u:Value}{o:Obj}{n:String}{vs:Array Value}{Q:Unit→Shared→Prop}(bc:s.heap.get? it=some o)(ax:o.cls= .type n)(hd:o.data= .fields vs)
  (bA:["enumerate","zip","dict_itemiterator","dict_reverseitemiterator","odict_iterator","itertools.zip_longest","itertools.pairwise"].contains n=false) (jV:Q () s):wpAny M A (letOwnedTupleGo de (.ref it) u) Q E s:=by
 unfold letOwnedTupleGo;cases de<;>first
  |exact wpAny_pure jV
  |(cases u<;>first
    |exact wpAny_pure jV
    |(refine wpAny_bind (wpAny_load bc ?_)
      rw[ax,hd];show wpAny M A (if(["enumerate","zip","dict_itemiterator","dict_reverseitemiterator","odict_iterator","itertools.zip_longest","itertools.pairwise"].contains n&&vs[0]? ==some (rawInt _))=true then _ else _) Q E s;rw[if_neg (by intro h;rw[bA,Bool.false_and] at h;cases h)];exact wpAny_pure jV))
noncomputable def Itl (K:Frag) (a:Addr):It:=
 ⟨λi H=>∃xs x,SqL K H a xs∧xs[i]? =some x,λi H x H'=>H'=H∧∀xs,SqL K H a xs→xs[i]? =some x,λi H=>∃xs,SqL K H a xs∧xs.length≤i⟩
noncomputable def Itr (lo:Int) (n:Nat):It:=⟨λi _=>i<n,λi H x H'=>H'=H∧x= .int (lo+i),λi _=>n≤i⟩
theorem Em{P:Program}{w:World}{K:Frag}{de:Expr}(a it:Addr):U6 P w K de (Itl K a) [it] it (λi h=>h.IsListIter it a i) where
 mem:=by simp
 obj:=λi h st b ag=>by
  have e:b=it:=by simpa using ag
  subst e;obtain⟨o,e,c,d⟩:=st;exact⟨o,e,λv z=>by rw[d] at z;cases z⟩
 keep:=λi h h' st k=>st.at λo e=>k it (by simp) o e
 item:=by
  intro X d0 hw eH ax i ah s ae H E I bB st aM;subst d0 hw eH;obtain⟨xs,x,cG,ao⟩:=aM;obtain⟨its,dk,p,hz⟩:=I.list cG;obtain⟨u,hu,eu⟩:=dk.get ao;obtain⟨dE,f1,f2,dI,eh,em⟩:=bB it (by simp);refine wpAny_pyNext_list_item st p.isList (x:=u) (by simpa using hu) λh' iD iE=>?_;have bD:Inv X ah ae H {s with heap:=h'}:=I.turned (t':=s.toks) (λb o ag e=>(iE.2 b ag).trans e) dE f1 dI eh em;obtain⟨o,e,c,d⟩:=id iD;exact⟨u,rfl,pz (s:={s with heap:=h'}) e c d (by decide) ⟨x,H,bD,eu,⟨rfl,λys a'=>by rw[I.list_inj a' cG];exact ao⟩,iD,λb ag=>(bB b ag).1⟩⟩
 done:=by
  intro X d0 hw eH ax i ah s ae H E I bB st aM;subst d0 hw eH;obtain⟨xs,cG,ao⟩:=aM;obtain⟨its,dk,p,hz⟩:=I.list cG;obtain⟨dE,f1,f2,dI,eh,em⟩:=bB it (by simp);have af:=dk.length;exact wpAny_pyNext_list_end (I.ok.hd ax) st p.isList (by simp;omega) λh' df=>⟨rfl,I.turned (t':=s.toks) (λb o ag e=>df b o ag e) dE f1 dI eh em⟩
 self:=λ_ _ _ _ _ st h=>wpAny_pyIter_listiter st h
theorem En{P:Program}{w:World}{K:Frag}{de:Expr}(it:Addr)(lo:Int)(n:Nat):U6 P w K de (Itr lo n) [it] it (λi h=>IsRangeIter h it (lo+(i:Nat)*1) ((n:Int)-(i:Nat)) 1) where
 mem:=by simp
 obj:=λi h st b ag=>by
  have e:b=it:=by simpa using ag
  subst e;exact⟨_,st,λv z=>by
   have fl:Data.fields _=Data.cell v:=z;cases fl⟩
 keep:=λi h h' st k=>k it (by simp) _ st
 item:=by
  intro X d0 hw eH ax i ah s ae H E I bB st aM;subst d0 hw eH;obtain⟨dE,f1,f2,dI,eh,em⟩:=bB it (by simp);have W:=Walks.range (prog:=X.prog) (w:=X.w) (I.ok.hd ax) it lo 1 n;refine W.item i s _ _ aM st λv h' a5 cn iD kC=>?_;obtain⟨t,rfl⟩:=cn;have bD:Inv X ah ae H {s with heap:=h',toks:=a5}:=I.turned (λb o ag e=>kC b o (by simpa using ag) e) dE f1 dI eh em;refine⟨_,rfl,pz (s:={s with heap:=h',toks:=a5}) (n:="range_iterator") iD rfl rfl (by decide) ⟨.int (lo+i),H,bD,⟨t,?_⟩,⟨rfl,rfl⟩,iD,λb ag=>(bB b ag).1⟩⟩;rw[Int.mul_one]
 done:=by
  intro X d0 hw eH ax i ah s ae H E I bB st aM;subst d0 hw eH;obtain⟨dE,f1,f2,dI,eh,em⟩:=bB it (by simp);exact wpAny_pyNext_range_end (I.ok.hd ax) st (by have:n≤i:=aM;omega) λh' df=>⟨rfl,I.turned (t':=s.toks) (λb o ag e=>df b o ag e) dE f1 dI eh em⟩
 self:=λ_ _ _ _ _ st h=>wpAny_pyIter_rangeiter st h
section
variable {X:Cx}{de:Expr}
noncomputable def t3 (K:Frag) (d4:TE):TI:=λae H R=>d4 ae H λx aj=>∃a,x= .ref a∧(∃xs,SqL K aj a xs)∧R (Itl K a) aj
theorem ZmK{l:Expr}{d4:TE}(af:PE X l d4):PI X de l (t3 X.K d4):=by
 intro ah s ae H R I h;refine thn (af ah s ae H _ I h) λv az ⟨x,aj,bD,cH,cA⟩=>?_;obtain⟨a,e,⟨xs,cG⟩,q⟩:=cA;subst e;cases cH;obtain⟨its,dk,p,hz⟩:=bD.list cG;refine wpAny_pyIter_list p.isList ?_;refine⟨az.heap.objs.size,[az.heap.objs.size],_,_,aj,rfl,bD.kept (t':=az.toks) λb o e=>Heap.get?_push_of_some _ e,Em a _,⟨_,Heap.get?_push_size _ rfl,rfl,rfl⟩,λb ag=>?_,q⟩;have e:b=az.heap.objs.size:=by simpa using ag
 subst e;exact bD.fpOk (FM _) (bD.hok.fresh (FM _))
theorem Eo{ah:List (Addr×Obj)}{ae:St}{H:Hp}{s:Shared}{R:It→Hp→Prop}{E:Value→Shared→Prop}{lo hi:Int}{t u v:Tok}{a5:Nat}(I:Inv X ah ae H s)(ai: -(2 ^ 62)≤lo)(aw:lo<2 ^ 62)(cC: -(2 ^ 62)≤hi)(c3:hi<2 ^ 62)
  (q:R (Itr lo (hi-lo).toNat) H):wpAny (model X.prog X.w) X.A (pyIter (.ref s.heap.objs.size)) (PIE X ah ae de R) E {s with heap:=s.heap.push {cls:= .type "range",data:= .fields #[.int lo t,.int hi u,.int 1 v]},toks:=a5}:=by
 refine wpAny_pyIter_range (IsRange.new ..) (small_one ai aw cC c3) ?_;have bD:Inv X ah ae H {s with heap:=s.heap.push {cls:= .type "range",data:= .fields #[.int lo t,.int hi u,.int 1 v]},toks:=a5}:=I.kept λb o e=>Heap.get?_push_of_some _ e;refine⟨(s.heap.push {cls:= .type "range",data:= .fields #[.int lo t,.int hi u,.int 1 v]}).objs.size,[(s.heap.push {cls:= .type "range",data:= .fields #[.int lo t,.int hi u,.int 1 v]}).objs.size],_,_,H,rfl,
  bD.kept (t':=a5) λb o e=>Heap.get?_push_of_some _ e,En _ lo (hi-lo).toNat,?_,λb ag=>?_,q⟩
 ·have aW:lo+((0:Nat):Int)*1=lo:=by simp
  have a7:(((hi-lo).toNat:Nat):Int)-((0:Nat):Int)=Builtin.Range.rangeSize lo hi 1:=by rw[rangeSize_one];split<;>omega
  show IsRangeIter _ _ (lo+((0:Nat):Int)*1) ((((hi-lo).toNat:Nat):Int)-((0:Nat):Int)) 1;rw[aW,a7];exact Heap.get?_push_size _ rfl
 ·have e:b=(s.heap.push {cls:= .type "range",data:= .fields #[.int lo t,.int hi u,.int 1 v]}).objs.size:=by simpa using ag
  subst e;exact bD.fpOk (FM _) (bD.hok.fresh (FM _))
noncomputable def yG (a_:TA):TI:=λae H R=>a_ ae H λvs aj=>∃j:Int,vs=[.int j]∧ -(2 ^ 62)≤j∧j<2 ^ 62∧R (Itr 0 j.toNat) aj
theorem j1{a:Expr}{a_:TA}{p pos:Pos}(aM:Gl X "range")(a6:X.mg "range" =none)(aZ:PA X [a] a_)(hs:starEach [a] X.env=[(false,eval a X.env)]:=by rfl):PI X de (.Call (.Name "range" p) [a] [] pos) (yG a_):=by
 intro ah s ae H R I h;refine Call_ (jW I aM a6 boot_range (qaV (thn (aZ pos ah s ae H _ I h) λus az ⟨vs,aj,bD,cH,cA⟩=>?_) hs rfl));obtain⟨j,e,cA,cT,q⟩:=cA;subst e;cases cH with
 |cons r pu=>
  cases pu;obtain⟨t,rfl⟩:=r;exact call_range_1 (Eo bD (by omega) (by omega) cA cT (by simpa using q))
noncomputable def yH (eW:TI) (g:TG) (c4:TS):TS:=λD ae H=>eW ae H λJ aj=>∃W:Nat→Nat→St→Hp→Prop,(∃m,W 0 m ae aj)∧∀i m ae H,W i m ae H→
 (J.stop i H∧D.nx ae H)∨(J.go i H∧∃N:St→Hp→Prop,(∀ci H',N ci H'→∃cQ,cQ<m∧W (i+1) cQ ci H')∧∀x H',J.yld i H x H'→g x ae H' λcY ay=>c4 {D with nx:=N,ct:=N,bk:=D.nx} cY ay)
noncomputable def ZaI (fp:List Addr) (h:Heap):List (Addr×Obj):=fp.filterMap λb=>(h.get? b).map λo=>(b,o)
theorem oe{fp:List Addr}{h:Heap}{b:Addr}{o:Obj}(ag:b∈fp)(e:h.get? b=some o):(b,o)∈ZaI fp h:=List.mem_filterMap.mpr ⟨b,ag,by rw[e];rfl⟩
theorem ZjU{fp:List Addr}{h:Heap}{p:Addr×Obj}(aS:p∈ZaI fp h):p.1∈fp∧h.get? p.1=some p.2:=by
 obtain⟨b,ag,e⟩:=List.mem_filterMap.mp aS;cases q:h.get? b with
 |none=>rw[q] at e;cases e
 |some o=>
  rw[q] at e;have cx:(b,o)=p:=qap e;subst cx;exact⟨ag,q⟩
theorem Inv.pinned{ah:List (Addr×Obj)}{ae:St}{H:Hp}{s:Shared}{fp:List Addr}(I:Inv X ah ae H s)(bB:∀b∈fp,h1 X ah H b)(bc:∀b∈fp,∃o,s.heap.get? b=some o∧∀v,o.data≠ .cell v):Inv X (ah++ZaI fp s.heap) ae H s:=
 I.pins_of λp aS=>(qar.mp aS).elim (λz=>I.pin p (qaq _ z)) λz=>by
  obtain⟨ag,e⟩:=ZjU z;obtain⟨dE,f1,f2,_⟩:=bB p.1 ag;obtain⟨o,cx,d⟩:=bc p.1 ag;rw[e] at cx;cases cx;exact⟨e,dE,f1,f2,d⟩
theorem Inv.unpinned{ah pl:List (Addr×Obj)}{ae:St}{H:Hp}{s:Shared}(I:Inv X (ah++pl) ae H s):Inv X ah ae H s:=I.pins_of λp aS=>I.pin p (qaq _ (qa8 _ aS))
theorem gs{eO:Expr}{body:List Stmt}{eW:TI}{g:TG}{c4:TS}{pos:Pos}(aS:PassesOwn (model X.prog X.w) X.A X.env X.xe)(ax:X.calm=true)(hi:PI X de eO eW)(aM:PG X de g)(ag:PSs X body c4)
  (hs:∀x,foldedSetIterable eO X.env x=pure x:=by intro _;rfl):PS X (.For de eO body [] pos) (yH eW g c4):=by
 intro ah s ae H D I h;refine wpAny_For (thn (hi ah s ae H _ I h) λv az ai=>thn ai λod b' aw=>?_) hs;obtain⟨it,fp,fo,J,ay,e,c',T,lq,f2,W,⟨hm,fM⟩,turn⟩:=aw;subst e;have t4:∀{H':Hp},(∀b∈fp,H' b=none)→∀b∈fp,h1 X ah H' b:=λbA b ag=>⟨bA b ag,(f2 b ag).2⟩;refine codeAny_forLoop_any (λn s'=>∃i ci H',Inv X ah ci H' s'∧fo i s'.heap∧(∀b∈fp,H' b=none)∧W i n ci H') ?_ hm ⟨0,ae,ay,c',lq,λb ag=>(f2 b ag).1,fM⟩;rintro n bb ⟨i,j0,bF,dV,kD,kE,mn⟩;rcases turn i n j0 bF mn with⟨stop,na⟩|⟨go,N,d_,step⟩
 ·refine wpAny_passesOwn aS (thn (T.done X rfl rfl rfl ax i ah bb j0 bF X.xe dV (t4 kE) kD stop) λr cI ⟨av,jZ⟩=>?_);subst av;exact wpAny_execs_nil ⟨j0,bF,jZ,na⟩
 ·refine wpAny_passesOwn aS (thn (T.item X rfl rfl rfl ax i ah bb j0 bF X.xe dV (t4 kE) kD go) λr cI ⟨u,av,c3⟩=>?_);subst av;refine wpAny_passesOwn aS (thn c3 λ_ cK ⟨x,cj,h0,m_,Ep,lr,jE⟩=>?_);have Er:=h0.pinned (t4 jE) (T.obj _ _ lr);refine wpAny_passesOwn aS (thn (aM _ cK j0 cj x u _ Er m_ (step x cj Ep)) λ_ dn ⟨Es,c7,hl,t1⟩=>?_);refine wpAny_passesOwn aS (thn (ag _ dn Es c7 _ hl t1) λf dW mo=>?_);have again:∀{j2:St}{dq:Hp},Inv X (ah++ZaI fp cK.heap) j2 dq dW→N j2 dq→∃m,m<n∧∃i ci H',Inv X ah ci H' dW∧fo i dW.heap∧(∀b∈fp,H' b=none)∧W i m ci H':=λ{j2 dq} h2 pA=>by
   obtain⟨cQ,a6,t5⟩:=d_ j2 dq pA;refine⟨cQ,a6,i+1,j2,dq,h2.unpinned,T.keep _ _ _ lr λb ag o e=>(h2.pin (b,o) (qaq _ (qaq _ (oe ag e)))).1,λb ag=>?_,t5⟩;obtain⟨o,e,d⟩:=T.obj _ _ lr b ag;exact(h2.pin (b,o) (qaq _ (qaq _ (oe ag e)))).2.1
  cases f with
  |next=>obtain⟨j2,dq,h2,pA⟩:=mo;exact again h2 pA
  |cont=>obtain⟨j2,dq,h2,pA⟩:=mo;exact again h2 pA
  |brk=>obtain⟨j2,dq,h2,mo⟩:=mo;exact⟨j2,dq,h2.unpinned,mo⟩
  |ret v=>obtain⟨x7,j2,dq,h2,pB,mo⟩:=mo;exact⟨x7,j2,dq,h2.unpinned,pB,mo⟩
end
theorem Um{lo:Int}{n:Nat}{g:TG}{c4:TS}{D:Vh}{ae:St}{H:Hp}(Pv:Nat→St→Hp→Prop)(c8:Pv 0 ae H)
  (hs:∀i ae H,i<n→Pv i ae H→g (.int (lo+i)) ae H λcY ay=>c4 {D with nx:=Pv (i+1),ct:=Pv (i+1),bk:=D.nx} cY ay) (hd:∀ae H,Pv n ae H→D.nx ae H):
  ∃W:Nat→Nat→St→Hp→Prop,(∃m,W 0 m ae H)∧∀i m ae H,W i m ae H→
   ((Itr lo n).stop i H∧D.nx ae H)∨((Itr lo n).go i H∧∃N:St→Hp→Prop,(∀ci H',N ci H'→∃cQ,cQ<m∧W (i+1) cQ ci H')∧∀x H',(Itr lo n).yld i H x H'→g x ae H' λcY ay=>c4 {D with nx:=N,ct:=N,bk:=D.nx} cY ay):=by
 refine⟨λi m ae H=>m=n-i∧i≤n∧Pv i ae H,⟨n,by simp,qaA _,c8⟩,?_⟩;rintro i m ae H ⟨rfl,hi,p⟩
 by_cases dz:i<n
 ·refine .inr ⟨dz,Pv (i+1),λci H' fg=>⟨n-(i+1),by omega,rfl,dz,fg⟩,λx H' y=>?_⟩;obtain⟨e,y⟩:=y;subst e y;exact hs i ae _ dz p
 ·have e:i=n:=by omega
  subst e;exact .inl ⟨FM _,hd ae H p⟩
noncomputable abbrev R2:=V→V→Hp→VK→Prop
def OpR(X:Cx)(f:Value→Value→Sem Value)(r:R2):Prop:=
 ∀(ah:List (Addr×Obj))(s:Shared)(ae:St)(H:Hp)(x y:V)(v u:Value)(Q:VK),Inv X ah ae H s→c2 x v→c2 y u→r x y H Q→
  wpAny (model X.prog X.w) X.A (f v u) (EP X ah ae Q) X.xe s
def UnR(X:Cx)(f:Value→Sem Value)(r:V→Hp→VK→Prop):Prop:=
 ∀(ah:List (Addr×Obj))(s:Shared)(ae:St)(H:Hp)(x:V)(v:Value)(Q:VK),Inv X ah ae H s→c2 x v→r x H Q→
  wpAny (model X.prog X.w) X.A (f v) (EP X ah ae Q) X.xe s
def YC(X:Cx)(f:Value)(r:List V→Hp→VK→Prop):Prop:=
 ∀(ah:List (Addr×Obj))(s:Shared)(ae:St)(H:Hp)(xs:List V)(us:List Value)(Q:VK),Inv X ah ae H s→cZ xs us→r xs H Q→
  wpAny (model X.prog X.w) X.A (call f us) (EP X ah ae Q) X.xe s
def Zo3(X:Cx)(r:V→Hp→(Bool→Hp→Prop)→Prop):Prop:=
 ∀(ah:List (Addr×Obj))(s:Shared)(ae:St)(H:Hp)(x:V)(v:Value)(Q:Bool→Hp→Prop),Inv X ah ae H s→c2 x v→r x H Q→
  wpAny (model X.prog X.w) X.A (truthy v) (TP X ah ae Q) X.xe s
noncomputable def tOp (r:R2) (a_ c4:TE):TE:=λae H Q=>a_ ae H λx aj=>c4 ae aj λy ay=>r x y ay Q
noncomputable def tUn (r:V→Hp→VK→Prop) (a_:TE):TE:=λae H Q=>a_ ae H λx aj=>r x aj Q
noncomputable def rI (C:Int→Int→Prop) (g:Int→Int→V):R2:=λx y H Q=>∃i j,x= .int i∧y= .int j∧C i j∧Q (g i j) H
noncomputable def rI0 (g:Int→Int→V):R2:=λx y H Q=>∃i j,x= .int i∧y= .int j∧Q (g i j) H
noncomputable def rU (g:Int→V):V→Hp→VK→Prop:=λx H Q=>∃i,x= .int i∧Q (g i) H
section
variable {X:Cx}{a b c:Expr}{a_ c4 dN:TE}{pos:Pos}
theorem t6(aZ:PE X a a_)(ag:PE X b c4){ah:List (Addr×Obj)}{s:Shared}{ae:St}{H:Hp}{R:V→V→Hp→Prop}(I:Inv X ah ae H s)
  (h:a_ ae H λx aj=>c4 ae aj λy ay=>R x y ay) {Q:Value→Shared→Prop} {f:Value→Value→Sem Value}
  (bB:∀v u b' x y ay,Inv X ah ae ay b'→c2 x v→c2 y u→R x y ay→wpAny (model X.prog X.w) X.A (f v u) Q X.xe b'):
  wpAny (model X.prog X.w) X.A (eval a X.env) (λv dU=>wpAny (model X.prog X.w) X.A (eval b X.env) (λu kz=>wpAny (model X.prog X.w) X.A (f v u) Q X.xe kz) X.xe dU) X.xe s:=by
 refine thn (aZ ah s ae H _ I h) λv az ⟨x,aj,bD,cH,cA⟩=>?_;refine thn (ag ah az ae aj _ bD cA) λu b' ⟨y,ay,c',cX,cT⟩=>?_;exact bB v u b' x y ay c' cH cX cT
theorem cD{op:Operator}{r:R2}(bc:OpR X (binaryOp op) r)(aZ:PE X a a_)(ag:PE X b c4):PE X (.BinOp a op b pos) (tOp r a_ c4):=by
 intro ah s ae H Q I h;exact wpAny_BinOp (t6 aZ ag I h λv u b' x y ay c' cr cJ q=>bc ah b' ae ay x y v u Q c' cr cJ q)
theorem yI{op:UnaryOp}{r:V→Hp→VK→Prop}(bc:UnR X (unaryOp op) r)(aZ:PE X a a_):PE X (.UnaryOp op a pos) (tUn r a_):=by
 intro ah s ae H Q I h;exact UnaryOp_ (thn (aZ ah s ae H _ I h) λv az ⟨x,aj,bD,cH,cA⟩=>bc ah az ae aj x v Q bD cH cA)
theorem opI{f:Value→Value→Sem Value}{C:Int→Int→Prop}{g:Int→Int→Int}
  (rule:∀(i j:Int)(t u:Tok)(s:Shared)(Q:Value→Shared→Prop)(E:Value→Shared→Prop),C i j→Q (.int (g i j) s.toks) {s with toks:=s.toks+1}→wpAny (model X.prog X.w) X.A (f (.int i t) (.int j u)) Q E s):
  OpR X f (rI C λi j=> .int (g i j)):=by
 intro ah s ae H x y v u Q I cr cJ h;obtain⟨i,j,rfl,rfl,ax,q⟩:=h;obtain⟨t,rfl⟩:=cr;obtain⟨t',rfl⟩:=cJ;exact rule i j t t' s _ _ ax ⟨.int (g i j),H,I.tok _,⟨_,rfl⟩,q⟩
theorem Zm0{f:Value→Value→Sem Value}{g:Int→Int→Int}
  (rule:∀(i j:Int)(t u:Tok)(s:Shared)(Q:Value→Shared→Prop)(E:Value→Shared→Prop),Q (.int (g i j) s.toks) {s with toks:=s.toks+1}→wpAny (model X.prog X.w) X.A (f (.int i t) (.int j u)) Q E s):
  OpR X f (rI0 λi j=> .int (g i j)):=by
 intro ah s ae H x y v u Q I cr cJ h;obtain⟨i,j,rfl,rfl,q⟩:=h;obtain⟨t,rfl⟩:=cr;obtain⟨t',rfl⟩:=cJ;exact rule i j t t' s _ _ ⟨.int (g i j),H,I.tok _,⟨_,rfl⟩,q⟩
theorem ZiH{f:Value→Value→Sem Value}{g:Int→Int→Bool}
  (rule:∀(i j:Int)(t u:Tok)(s:Shared)(Q:Value→Shared→Prop)(E:Value→Shared→Prop),Q (.bool (g i j)) s→wpAny (model X.prog X.w) X.A (f (.int i t) (.int j u)) Q E s):
  OpR X f (rI0 λi j=> .bl (g i j)):=by
 intro ah s ae H x y v u Q I cr cJ h;obtain⟨i,j,rfl,rfl,q⟩:=h;obtain⟨t,rfl⟩:=cr;obtain⟨t',rfl⟩:=cJ;exact rule i j t t' s _ _ ⟨.bl (g i j),H,I,rfl,q⟩
def ZnA(i j:Int):Prop:=0≤j∧j≤1000000∧i.natAbs<2 ^ 64
def ZiL(i j:Int):Prop:=(-(2 ^ 64)<i∧i<2 ^ 64)∨(-(2 ^ 64)<j∧j<2 ^ 64)
theorem ZiL.ok{i j:Int}(h:ZiL i j):IntMulOk i j:=by
 rcases h with⟨ai,aw⟩|⟨ai,aw⟩
 ·exact .of_left (intBits_le_64 ai aw)
 ·exact .of_right (intBits_le_64 ai aw)
theorem Et:OpR X (binaryOp .Add) (rI0 λi j=> .int (i+j)):=Zm0 λ_ _ _ _ _ _ _ q=>add_int q
theorem j3:OpR X (binaryOp .Sub) (rI0 λi j=> .int (i-j)):=Zm0 λ_ _ _ _ _ _ _ q=>sub_int q
theorem eX:OpR X (binaryOp .Mod) (rI (λ_ j=>0<j) λi j=> .int (i % j)):=opI λi j _ _ _ _ _ ax q=>by
 have ai:(0:Int)<j:=ax;exact mod_int' (by omega) (by rw[qbW i (by omega)];exact q)
theorem yJ:OpR X (binaryOp .Pow) (rI ZnA λi j=> .int (i ^ j.toNat)):=opI λ_ _ _ _ _ _ _ ax q=>pow_int_small ax.1 ax.2.1 ax.2.2 q
theorem unI{f:Value→Sem Value}{g:Int→Int}
  (rule:∀(i:Int)(t:Tok)(s:Shared)(Q:Value→Shared→Prop)(E:Value→Shared→Prop),Q (.int (g i) s.toks) {s with toks:=s.toks+1}→wpAny (model X.prog X.w) X.A (f (.int i t)) Q E s):
  UnR X f (rU λi=> .int (g i)):=by
 intro ah s ae H x v Q I cr h;obtain⟨i,rfl,q⟩:=h;obtain⟨t,rfl⟩:=cr;exact rule i t s _ _ ⟨.int (g i),H,I.tok _,⟨_,rfl⟩,q⟩
theorem yK:UnR X (unaryOp .USub) (rU λi=> .int (-i)):=unI λ_ _ _ _ _ q=>neg_int q
end
noncomputable def yL:V→V→Bool
 | .non,.non=>true| .non,.int _=>true| .int _,.non=>true| .non,.bl _=>true| .bl _,.non=>true| .non,.str _=>true| .str _,.non=>true
 | .int _,.int _=>true| .bl _,.bl _=>true| .str _,.str _=>true| .byt _,.byt _=>true
 | .int _,.str _=>true| .str _,.int _=>true| .bl _,.str _=>true| .str _,.bl _=>true
 |_,_=>false
noncomputable def rEq:R2:=λx y H Q=>yL x y=true∧Q (.bl (decide (x=y))) H
noncomputable def rNe:R2:=λx y H Q=>yL x y=true∧Q (.bl (!decide (x=y))) H
theorem ZhS{i j:Int}:decide (V.int i=V.int j)=(i==j):=by
 rw[qbn];simp
theorem Zjn{i j:Bool}:decide (V.bl i=V.bl j)=(i==j):=by
 rw[qbn];simp
theorem Zhy{i j:Str}:decide (V.str i=V.str j)=(i==j):=by
 rw[qbn];simp
theorem ZhB{i j:Array UInt8}:decide (V.byt i=V.byt j)=(i.toList==j.toList):=by
 rw[qbn];cases i;cases j;simp
section
variable {X:Cx}{a b c:Expr}{a_ c4 dN:TE}{pos:Pos}
theorem e7{ah:List (Addr×Obj)}{ae:St}{H:Hp}{s:Shared}{Q:VK}{k gu:Bool}(I:Inv X ah ae H s)(q:Q (.bl k) H)(e:k=gu):EP X ah ae Q (.bool gu) s:=by
 subst e;exact⟨.bl k,H,I,rfl,q⟩
theorem Eu:OpR X (compareOp .Eq) rEq:=by
 intro ah s ae H x y v u Q I cr cJ h;obtain⟨hs,q⟩:=h;cases x with
 |non=>
  cases cr;cases y with
  |non=>cases cJ;exact PySem.EqNone.eq_none_none (e7 I q (by simp))
  |bl j=>cases cJ;exact PySem.EqNone.eq_none_bool (e7 I q (by simp))
  |int j=>obtain⟨t',rfl⟩:=cJ;exact PySem.EqNone.eq_none_int (e7 I q (by simp))
  |str j=>obtain⟨t',rfl⟩:=cJ;exact PySem.EqNone.eq_none_str (e7 I q (by simp))
  |_=>exact absurd (show false=true from hs) qag
 |bl i=>
  cases cr;cases y with
  |non=>cases cJ;exact PySem.EqNone.eq_bool_none (e7 I q (by simp))
  |bl j=>cases cJ;exact eq_bool (e7 I q Zjn)
  |str j=>obtain⟨t',rfl⟩:=cJ;exact PySem.EqMixed.eq_bool_str (e7 I q (by simp))
  |_=>exact absurd (show false=true from hs) qag
 |int i=>
  obtain⟨t,rfl⟩:=cr;cases y with
  |non=>cases cJ;exact PySem.EqNone.eq_int_none (e7 I q (by simp))
  |int j=>obtain⟨t',rfl⟩:=cJ;exact eq_int (e7 I q ZhS)
  |str j=>obtain⟨t',rfl⟩:=cJ;exact PySem.EqMixed.eq_int_str (e7 I q (by simp))
  |_=>exact absurd (show false=true from hs) qag
 |str i=>
  obtain⟨t,rfl⟩:=cr;cases y with
  |non=>cases cJ;exact PySem.EqNone.eq_str_none (e7 I q (by simp))
  |bl j=>cases cJ;exact PySem.EqMixed.eq_str_bool (e7 I q (by simp))
  |int j=>obtain⟨t',rfl⟩:=cJ;exact PySem.EqMixed.eq_str_int (e7 I q (by simp))
  |str j=>obtain⟨t',rfl⟩:=cJ;exact eq_str (e7 I q Zhy)
  |_=>exact absurd (show false=true from hs) qag
 |byt i=>
  obtain⟨t,rfl⟩:=cr;cases y with
  |byt j=>obtain⟨t',rfl⟩:=cJ;exact PySem.W.eq_bytes (e7 I q ZhB)
  |_=>exact absurd (show false=true from hs) qag
 |_=>cases y<;>exact absurd (show false=true from hs) qag
theorem Ev:OpR X (compareOp .NotEq) rNe:=by
 intro ah s ae H x y v u Q I cr cJ h;obtain⟨hs,q⟩:=h;cases x with
 |non=>
  cases cr;cases y with
  |non=>cases cJ;exact PySem.EqNone.ne_none_none (e7 I q (by simp))
  |bl j=>cases cJ;exact PySem.EqNone.ne_none_bool (e7 I q (by simp))
  |int j=>obtain⟨t',rfl⟩:=cJ;exact PySem.EqNone.ne_none_int (e7 I q (by simp))
  |str j=>obtain⟨t',rfl⟩:=cJ;exact PySem.EqNone.ne_none_str (e7 I q (by simp))
  |_=>exact absurd (show false=true from hs) qag
 |bl i=>
  cases cr;cases y with
  |non=>cases cJ;exact PySem.EqNone.ne_bool_none (e7 I q (by simp))
  |bl j=>cases cJ;exact ne_bool (e7 I q (congrArg not Zjn))
  |str j=>obtain⟨t',rfl⟩:=cJ;exact PySem.EqMixed.ne_bool_str (e7 I q (by simp))
  |_=>exact absurd (show false=true from hs) qag
 |int i=>
  obtain⟨t,rfl⟩:=cr;cases y with
  |non=>cases cJ;exact PySem.EqNone.ne_int_none (e7 I q (by simp))
  |int j=>obtain⟨t',rfl⟩:=cJ;exact ne_int (e7 I q (congrArg not ZhS))
  |str j=>obtain⟨t',rfl⟩:=cJ;exact PySem.EqMixed.ne_int_str (e7 I q (by simp))
  |_=>exact absurd (show false=true from hs) qag
 |str i=>
  obtain⟨t,rfl⟩:=cr;cases y with
  |non=>cases cJ;exact PySem.EqNone.ne_str_none (e7 I q (by simp))
  |bl j=>cases cJ;exact PySem.EqMixed.ne_str_bool (e7 I q (by simp))
  |int j=>obtain⟨t',rfl⟩:=cJ;exact PySem.EqMixed.ne_str_int (e7 I q (by simp))
  |str j=>obtain⟨t',rfl⟩:=cJ;exact ne_str (e7 I q (congrArg not Zhy))
  |_=>exact absurd (show false=true from hs) qag
 |byt i=>
  obtain⟨t,rfl⟩:=cr;cases y with
  |byt j=>obtain⟨t',rfl⟩:=cJ;exact PySem.W.ne_bytes (e7 I q (congrArg not ZhB))
  |_=>exact absurd (show false=true from hs) qag
 |_=>cases y<;>exact absurd (show false=true from hs) qag
theorem j4:OpR X (compareOp .Lt) (rI0 λi j=> .bl (decide (i<j))):=ZiH λ_ _ _ _ _ _ _ q=>lt_int q
theorem Ew:OpR X (compareOp .LtE) (rI0 λi j=> .bl (decide (i≤j))):=ZiH λ_ _ _ _ _ _ _ q=>le_int q
theorem og:OpR X (compareOp .Gt) (rI0 λi j=> .bl (decide (j<i))):=ZiH λ_ _ _ _ _ _ _ q=>gt_int q
theorem oh:OpR X (compareOp .GtE) (rI0 λi j=> .bl (decide (j≤i))):=ZiH λ_ _ _ _ _ _ _ q=>ge_int q
theorem t7:OpR X (compareOp .Is) (λx y H Q=>y= .non∧Q (.bl (decide (x= .non))) H):=by
 intro ah s ae H x y v u Q I cr cJ h;obtain⟨rfl,q⟩:=h;cases cJ;refine is_none_gen (e7 I q ?_);cases x<;>first
  |(cases cr;rfl)
  |(obtain⟨t,rfl⟩:=cr;rfl)
theorem t8:OpR X (compareOp .IsNot) (λx y H Q=>y= .non∧Q (.bl (!decide (x= .non))) H):=by
 intro ah s ae H x y v u Q I cr cJ h;obtain⟨rfl,q⟩:=h;cases cJ;refine isnot_none_gen (e7 I q ?_);cases x<;>first
  |(cases cr;rfl)
  |(obtain⟨t,rfl⟩:=cr;rfl)
theorem OpR.or{f:Value→Value→Sem Value}{r dt:R2}(h:OpR X f r)(h':OpR X f dt):OpR X f (λx y H Q=>r x y H Q∨dt x y H Q):=by
 intro ah s ae H x y v u Q I cr cJ q;rcases q with q|q
 ·exact h ah s ae H x y v u Q I cr cJ q
 ·exact h' ah s ae H x y v u Q I cr cJ q
theorem dA(b:Expr){op:CmpOp}(h:op≠ .In:=by decide)(aw:op≠ .NotIn:=by decide):behindInMarks op b=false:=by
 have aW:(op==CmpOp.In)=false:=by cases op<;>first|rfl|exact absurd rfl h
 have a7:(op==CmpOp.NotIn)=false:=by cases op<;>first|rfl|exact absurd rfl aw
 cases b<;>simp[behindInMarks,aW,a7]
theorem lu{op:CmpOp}{r:R2}(bc:OpR X (compareOp op) r)(aZ:PE X a a_)(ag:PE X b c4)(a6:behindInMarks op b=false):PE X (.Compare a [op] [b] pos) (tOp r a_ c4):=by
 intro ah s ae H Q I h;exact wpAny_Compare1 (t6 aZ ag I h λv u b' x y ay c' cr cJ q=>bc ah b' ae ay x y v u Q c' cr cJ q) a6
noncomputable def t9 (t:TE):TT:=λae H Q=>t ae H λx H'=>∃k,x= .bl k∧Q k H'
theorem dF{op:CmpOp}{r:R2}(bc:OpR X (compareOp op) r)(aZ:PE X a a_)(ag:PE X b c4)(a6:behindInMarks op b=false):PT X (.Compare a [op] [b] pos) (t9 (tOp r a_ c4)):=by
 intro ah s ae H Q I h;refine wpAny_isTrue_Compare1 (thn (aZ ah s ae H _ I h) λv az ⟨x,aj,bD,cH,cA⟩=>thn (ag ah az ae aj _ bD cA) λu b' ⟨y,ay,c',cX,cT⟩=>
  thn (bc ah b' ae ay x y v u _ c' cH cX cT) λc bb ⟨z,bF,dV,he,k,e,fY⟩=>?_) a6
 subst e;cases he;exact wpAny_truthy_bool ⟨bF,dV,fY⟩
noncomputable def t_ (r dt:R2) (a_ c4 dN:TE):TE:=λae H Q=>a_ ae H λx aj=>c4 ae aj λy ay=>r x y ay λz bF=>∃k,z= .bl k∧
 (if k=true then dN ae bF λdC bC=>dt y dC bC Q else Q (.bl false) bF)
theorem Ey{op nb:CmpOp}{r dt:R2}(bc:OpR X (compareOp op) r)(jU:OpR X (compareOp nb) dt)(aZ:PE X a a_)(ag:PE X b c4)(ax:PE X c dN)
  (a6:lastMarks [op,nb] [b,c]=false:=by with_unfolding_all rfl):PE X (.Compare a [op,nb] [b,c] pos) (t_ r dt a_ c4 dN):=by
 intro ah s ae H Q I h;refine Compare_chain (thn (aZ ah s ae H _ I h) λv az ⟨x,aj,bD,cH,cA⟩=>chain_link (thn (ag ah az ae aj _ bD cA) λu b' ⟨y,ay,c',cX,cT⟩=>
  thn (bc ah b' ae ay x y v u _ c' cH cX cT) λd bb ⟨z,bF,dV,he,k,e,fY⟩=>?_)) a6
 subst e;cases he;refine wpAny_truthy_bool ?_;cases k with
 |false=>exact ite_ff ⟨.bl false,bF,dV,rfl,fY⟩
 |true=>exact ite_tt (chain_last (thn (ax ah bb ae bF _ dV fY) λdC cI ⟨fl,bC,jZ,js,kB⟩=>jU ah cI ae bC y fl u dC Q jZ cX js kB))
theorem Ez{op nb:CmpOp}{r dt:R2}(bc:OpR X (compareOp op) r)(jU:OpR X (compareOp nb) dt)(aZ:PE X a a_)(ag:PE X b c4)(ax:PE X c dN)
  (a6:lastMarks [op,nb] [b,c]=false:=by with_unfolding_all rfl):PT X (.Compare a [op,nb] [b,c] pos) (t9 (t_ r dt a_ c4 dN)):=by
 intro ah s ae H Q I h;refine isTrue_chain (thn (aZ ah s ae H _ I h) λv az ⟨x,aj,bD,cH,cA⟩=>test_link (thn (ag ah az ae aj _ bD cA) λu b' ⟨y,ay,c',cX,cT⟩=>
  thn (bc ah b' ae ay x y v u _ c' cH cX cT) λd bb ⟨z,bF,dV,he,k,e,fY⟩=>?_)) a6
 subst e;cases he;refine wpAny_truthy_bool ?_;cases k with
 |false=>
  obtain⟨gu,cx,hc⟩:=fY;cases cx;exact ite_ff ⟨bF,dV,hc⟩
 |true=>
  refine ite_tt (test_last (thn (ax ah bb ae bF _ dV fY) λdC cI ⟨fl,bC,jZ,js,kB⟩=>thn (jU ah cI ae bC y fl u dC _ jZ cX js kB) λd' cK ⟨e0,cj,h0,m_,k2,a7,lp⟩=>?_));subst a7;cases m_;exact wpAny_truthy_bool ⟨cj,h0,lp⟩
def pC(K:Frag)(x:V)(H:Hp)(k:Bool):Prop:=
 match x with
 | .non=>k=false
 | .bl b=>k=b
 | .int i=>k=(i != 0)
 | .str y=>y.length≤sizeLine∧k=((y.length:Int) != 0)
 | .byt y=>y.size≤sizeLine∧k=((y.size:Int) != 0)
 | .ref p=>(∃xs,SqL K H p xs∧k= !xs.isEmpty)∨(∃xs,SqT K H p xs∧k= !xs.isEmpty)∨∃kvs,H p=some (.dK kvs)∧k= !kvs.isEmpty
 |_=>False
theorem Zh6{dY:Type}{kvs:List (dY×V)}{vs:List (dY×Value)}(r:KV kvs vs):(!vs.isEmpty)= !kvs.isEmpty:=by
 cases r<;>rfl
theorem ZdX{xs:List V}{its:List Value}(r:cZ xs its):(!its.toArray.isEmpty)= !xs.isEmpty:=by
 cases r<;>simp
theorem mq:(sizeLine:Nat)<2 ^ 63:=by rw[sizeLine_eq];decide
theorem EA:Zo3 X (λx H Q=>∃k,pC X.K x H k∧Q k H):=by
 intro ah s ae H x v Q I cr h;obtain⟨k,e,q⟩:=h;have af:=mq;have hs:sizeLine=16777216:=sizeLine_eq;cases x with
 |non=>
  cases cr;have cx:k=false:=e;subst cx;exact truthy_none ⟨H,I,q⟩
 |bl b=>
  cases cr;have cx:k=b:=e;subst cx;exact wpAny_truthy_bool ⟨H,I,q⟩
 |int i=>
  obtain⟨t,rfl⟩:=cr;have cx:k=(i != 0):=e;subst cx;exact PySem.P.truthy_int ⟨H,I,q⟩
 |str y=>
  obtain⟨t,rfl⟩:=cr;obtain⟨a',cx⟩:y.length≤sizeLine∧k=((y.length:Int) != 0):=e;subst cx;exact PySem.P.truthy_str (by omega) ⟨H,I.tok _,q⟩
 |byt y=>
  obtain⟨t,rfl⟩:=cr;obtain⟨a',cx⟩:y.size≤sizeLine∧k=((y.size:Int) != 0):=e;subst cx;exact PySem.W.truthy_bytes (by omega) ⟨H,I.tok _,q⟩
 |ref p=>
  cases cr;have cx:(∃xs,SqL X.K H p xs∧k= !xs.isEmpty)∨(∃xs,SqT X.K H p xs∧k= !xs.isEmpty)∨∃kvs,H p=some (.dK kvs)∧k= !kvs.isEmpty:=e;rcases cx with⟨xs,ao,cx⟩|⟨xs,ao,cx⟩|⟨kvs,ao,cx⟩
  ·subst cx;obtain⟨its,r,pl,hz⟩:=I.list ao;have ed:=r.length;exact wpAny_truthy_list pl.isList (by simp only[qae];omega) ⟨H,I.tok _,by rw[ZdX r];exact q⟩
  ·subst cx;obtain⟨its,r,pl,hz⟩:=I.tuple ao;have ed:=r.length;exact truthy_tuple pl (by simp only[qae];omega) ⟨H,I.tok _,by rw[ZdX r];exact q⟩
  ·subst cx;obtain⟨hz,er,vs,r,m⟩:kvs.length≤sizeLine∧(p==sysModules)=false∧∃vs,KV kvs vs∧s.heap.DictOf (e_ X.prog X.w) p vs:=I.hok p _ ao;have ed:kvs.length=vs.length:=Paired.length r;exact wpAny_truthy_dict er m (by omega) ⟨H,I.tok _,by rw[Zh6 r];exact q⟩
 |_=>exact(show False from e).elim
theorem Zlu(aZ:PE X a a_)(cp:∀m3,isTrue a X.env m3=(do let v←m3;standAt a.pos;holding [v] (truthy v))):
  PT X a (λae H Q=>a_ ae H λx H'=>∃k,pC X.K x H' k∧Q k H'):=by
 intro ah s ae H Q I h;exact isTrue_plain (thn (aZ ah s ae H _ I h) λv az ⟨x,aj,bD,cH,cA⟩=>EA ah az ae aj x v Q bD cH cA) (cp _)
theorem EB:OpR X (binaryOp .Add) (λx y H Q=>∃i j,x= .str i∧y= .str j∧i.length+j.length≤sizeLine∧Q (.str (i++j)) H):=by
 intro ah s ae H x y v u Q I cr cJ h;obtain⟨i,j,rfl,rfl,hz,q⟩:=h;obtain⟨t,rfl⟩:=cr;obtain⟨t',rfl⟩:=cJ;exact add_str (λt' a5=>⟨.str (i++j),H,I.tok _,⟨_,rfl⟩,q⟩) hz
theorem Wz{x:V}{us:List Value}(r:cZ [x] us):∃u,us=[u]∧c2 x u:=by
 cases r with
 |cons cH cX=>cases cX;exact⟨_,rfl,cH⟩
theorem Zij{x y:V}{us:List Value}(r:cZ [x,y] us):∃u dC,us=[u,dC]∧c2 x u∧c2 y dC:=by
 cases r with
 |cons cH cX=>
  cases cX with
  |cons he js=>cases js;exact⟨_,_,rfl,cH,he⟩
theorem EC(ax:X.calm=true):YC X (.builtin "min") (λxs H Q=>∃i j,xs=[.int i,.int j]∧Q (.int (if j<i then j else i)) H):=by
 intro ah s ae H xs us Q I r h;obtain⟨i,j,rfl,q⟩:=h;obtain⟨u,dC,rfl,⟨t,rfl⟩,⟨t',rfl⟩⟩:=Zij r;refine min_two_ints (I.ok.hd ax) λh' a5 k=>⟨_,H,I.kept k,?_,q⟩
 by_cases aJ:j<i
 ·rw[if_pos aJ,if_pos aJ];exact⟨_,rfl⟩
 ·rw[if_neg aJ,if_neg aJ];exact⟨_,rfl⟩
def ZaY(K:Frag)(x:V)(H:Hp)(n:Nat):Prop:=
 match x with
 | .str y=>y.length≤sizeLine∧n=y.length
 | .byt y=>y.size≤sizeLine∧n=y.size
 | .ref p=>(∃xs,SqL K H p xs∧n=xs.length)∨∃xs,SqT K H p xs∧n=xs.length
 |_=>False
theorem ED:YC X (.builtin "len") (λxs H Q=>∃x n,xs=[x]∧ZaY X.K x H n∧Q (.int n) H):=by
 intro ah s ae H xs us Q I r h;obtain⟨x,n,rfl,e,q⟩:=h;obtain⟨u,rfl,cr⟩:=Wz r;have af:=mq;have hs:sizeLine=16777216:=sizeLine_eq;cases x with
 |str y=>
  obtain⟨t,rfl⟩:=cr;obtain⟨a',cx⟩:y.length≤sizeLine∧n=y.length:=e;subst cx;exact len_str (by omega) ⟨.int _,H,I.tok _,⟨_,rfl⟩,q⟩
 |byt y=>
  obtain⟨t,rfl⟩:=cr;obtain⟨a',cx⟩:y.size≤sizeLine∧n=y.size:=e;subst cx;exact PySem.W.len_bytes (by omega) ⟨.int _,H,I.tok _,⟨_,rfl⟩,q⟩
 |ref p=>
  cases cr;have cx:(∃xs,SqL X.K H p xs∧n=xs.length)∨∃xs,SqT X.K H p xs∧n=xs.length:=e;rcases cx with⟨xs,ao,cx⟩|⟨xs,ao,cx⟩
  ·subst cx;obtain⟨its,dt,pl,hz⟩:=I.list ao;have ed:=dt.length;exact Calls.call_len_list pl.isList (by simp only[qae];omega) ⟨.int xs.length,H,I.tok _,⟨_,by simp only[qae];rw[ed]⟩,q⟩
  ·subst cx;obtain⟨its,dt,pl,hz⟩:=I.tuple ao;have ed:=dt.length;exact len_tuple pl (by simp only[qae];omega) ⟨.int xs.length,H,I.tok _,⟨_,by simp only[qae];rw[ed]⟩,q⟩
 |_=>exact(show False from e).elim
end
structure nc(h:Heap)(x aY C:Addr)(es:Str→Option Value):Prop where
 obj:h.get? x=some (instObj C aY)
 ns:h.Ns1 aY es
 ne:aY≠x
theorem Zjx{h:Heap}{aY:Addr}{es:Str→Option Value}(n:h.Ns1 aY es):∃et,h.get? aY=some et∧∀name,lookIn name et=some (es name):=by
 obtain⟨o,aN,ep,bc,hd,aR,_,a6⟩:=n;refine⟨o,bc,λname=>?_⟩;have e:=a6 name;unfold nsFind findBy at e;rw[←Array.find?_toList] at e;unfold lookIn;rw[hd];dsimp only
 split
 ·rename_i y q;rw[q] at e;exact congrArg some e
 ·rename_i q;rw[q] at e;have a:aN.toList.any (·.refKey)=false:=by
   rw[List.any_eq_false];intro y a';obtain⟨z,t,ua⟩:=aR y (Array.mem_toList_iff.mp a');simp[DictEntry.refKey,ua]
  have du:¬aN.toList.any (·.refKey)=true:=by rw[a];exact qag
  rw[if_neg du];exact congrArg some e
theorem nc.look{h:Heap}{x aY C:Addr}{es:Str→Option Value}(I:nc h x aY C es):∃et,PySem.W.InstAt h x (instObj C aY) C (some et)∧∀name,lookIn name et=some (es name):=
 let⟨et,bc,af⟩:=Zjx I.ns
 ⟨et,⟨I.obj,rfl,rfl,bc⟩,af⟩
section
variable {prog:Program}{w:World}{A:Around}{E:Value→Shared→Prop}{s:Shared}{K:Frag}{x aY C f:Addr}{es:Str→Option Value}{name:Str}{v:Value}
theorem Zmi{EE:Bool}{Q:Value→Shared→Prop}(X:K.In s.heap)(I:nc s.heap x aY C es)(aM:plainGet K C name=true)(cw:hasDictIn K C=true)
  (aZ:PySem.W.findIn K (.ref C) name=some none) (cn:es name=some v) (jt:handedIn v=true) (h:Q v {s with toks:=s.toks+1}):
  wpAny (model prog w) A (getAttr (.ref x) name EE) Q E s:=by
 obtain⟨et,J,af⟩:=I.look;exact PySem.W.get_value X J (plainGet_of aM).1 (PySem.W.findObj_own cw aZ rfl (by rw[af,cn])) jt h
theorem ZkX{pl:Sem Bool}{Q:Value×List Value→Shared→Prop}(X:K.In s.heap)(I:nc s.heap x aY C es)(aM:plainGet K C name=true)
  (bB:PySem.W.findIn K (.ref C) name=some (some (.ref f))) (cu:isFn K (.ref f)=true) (cn:es name=none) (h:Q (.ref f,[.ref x]) s):
  wpAny (model prog w) A (getMethod (.ref x) name pl) Q E s:=by
 obtain⟨et,J,af⟩:=I.look;exact PySem.W.method_fn X J (plainGet_of aM).1 (plainGet_of aM).2 bB (beq_iff_eq.mp cu) (by show(lookIn name et).map (·.isSome)=some false;rw[af,cn];rfl) h
theorem Zl6{ns:List Str}{Q:Unit→Shared→Prop}(X:K.In s.heap)(I:nc s.heap x aY C es)
  (hs:PySem.W.findIn K (.ref C) "__setattr__" =some (some (.builtin "object.__setattr__"))) (aS:plainOver K C=true) (cu:takerIn K C name=some none) (cw:hasDictIn K C=true)
  (hw:PySem.Within es ns) (hsz:ns.length≤sizeLine)
  (h:∀h',nc h' x aY C (λy=>if y=name then some v else es y)→Heap.SameBut aY s.heap h'→Q () {s with heap:=h',toks:=s.toks+2}):
  wpAny (model prog w) A (setAttr (.ref x) name v) Q E s:=by
 obtain⟨et,J,af⟩:=I.look;refine PySem.W.set_plain X J hs (PySem.W.osa_open (s:={s with toks:=s.toks+1}) (r:=none) X J aS cu λb=>?_);obtain⟨cd,ax,ih⟩:=PySem.W.any_some cw;have ao:s.heap.get? x=some ⟨.ref C,some aY,.plain,#[]⟩:=I.obj;refine wpAny_bind (wpAny_pure (wpAny_bind (wpAny_bind (wpAny_loadPart ao (wpAny_bind (PySem.W.Looks.here (s:={s with toks:=s.toks+1}) (PySem.W.looks_clsIn X ax) ?_))))));rw[ih];refine wpAny_pure (a:=some aY) (wpAny_bind (wpAny_pure (wpAny_bind ?_)));refine wpAny_nsSet1 (s:={s with toks:=s.toks+1}) I.ns λh' ms fq=>?_;obtain⟨oD,QW,QX,EF,EG,lv⟩:=ms.count (PySem.Within.cons name v hw);refine wpAny_bind (wpAny_lookBehind EF (by rw[EG];exact pastItsLine_dict (qaz lv (by rw[List.length_cons];omega))) ?_);exact wpAny_pure (h _ ⟨(fq.2 _ (qbJ I.ne)).trans I.obj,ms,I.ne⟩ fq)
theorem EH{R:Result→Shared→Prop}{vs:List Value}{kw:List (Str×Value)}(X:K.In s.heap)(a6:makesIn K C=true)
  (hi:PySem.W.findIn K (.ref C) "__init__" =some (some (.ref f))) (bB:typeIn K (.ref f)=some (.type "function"))
  (h:codeAny (model prog w) (A.under (.builtin "type.__call__" ⟨.ref C::vs,kw⟩)) (.call (.ref f) ⟨.ref (s.heap.objs.size+1)::vs,kw⟩) (PySem.W.InitBack (s.heap.objs.size+1) R)
   {s with heap:=(s.heap.push emptyDict).push (instObj C s.heap.objs.size)}):
  codeAny (model prog w) A (.call (.ref C) ⟨vs,kw⟩) R s:=by
 obtain⟨cw,g,d,t,os⟩:=s;exact PySem.W.make_core (PySem.W.makes_of X a6) (PySem.W.looks_findIn X hi) (λself=>PySem.W.bind_fn X self bB) (.inl rfl) h
end
noncomputable def gv (f:Str) (v:V):List (Str×V)→List (Str×V)
 | []=>[(f,v)]
 |(g,x)::r=>if g=f then(g,v)::r else(g,x)::gv f v r
theorem ZcU(f g:Str)(v:V):∀fs:List (Str×V),(gv f v fs).lookup g=if g=f then some v else fs.lookup g
 | []=>by
  show List.lookup g [(f,v)]=_
  by_cases h:g=f
  ·have ag:(g==f)=true:=beq_iff_eq.mpr h;simp only[List.lookup,ag,if_pos h]
  ·have ag:(g==f)=false:=beq_eq_false_iff_ne.mpr h;simp only[List.lookup,ag,if_neg h]
 |(k,x)::r=>by
  have cO:=ZcU f g v r;rw[show gv f v ((k,x)::r)=(if k=f then(k,v)::r else(k,x)::gv f v r) from rfl]
  by_cases aR:k=f
  ·rw[if_pos aR]
   by_cases h:g=k
   ·have ag:(g==k)=true:=beq_iff_eq.mpr h;simp only[List.lookup,ag,if_pos (h.trans aR)]
   ·have ag:(g==k)=false:=beq_eq_false_iff_ne.mpr h;simp only[List.lookup,ag,if_neg (λe:g=f=>h (e.trans aR.symm))]
  ·rw[if_neg aR]
   by_cases h:g=k
   ·have ag:(g==k)=true:=beq_iff_eq.mpr h;simp only[List.lookup,ag,if_neg (λe:g=f=>aR (h.symm.trans e))]
   ·have ag:(g==k)=false:=beq_eq_false_iff_ne.mpr h;simp only[List.lookup,ag];exact cO
theorem ub(f:Str)(v:V):∀fs:List (Str×V),f∈(gv f v fs).map (·.1)∧∀g,g∈fs.map (·.1)→g∈(gv f v fs).map (·.1)
 | []=>⟨by simp[gv],λg h=>by simp at h⟩
 |(k,x)::r=>by
  obtain⟨e1,fr⟩:=ub f v r;rw[show gv f v ((k,x)::r)=(if k=f then(k,v)::r else(k,x)::gv f v r) from rfl]
  by_cases aR:k=f
  ·rw[if_pos aR];subst aR;exact⟨by simp,λg h=>by simpa using h⟩
  ·rw[if_neg aR];refine⟨?_,λg h=>?_⟩
   ·rw[List.map_cons];exact qas _ e1
   ·rw[List.map_cons] at h⊢;rcases qaf.mp h with e|e
    ·exact qaf.mpr (.inl e)
    ·exact qas _ (fr g e)
theorem ZcI(f:Str)(v:V):∀fs:List (Str×V),(gv f v fs).length≤fs.length+1
 | []=>by simp[gv]
 |(k,x)::r=>by
  have cO:=ZcI f v r;rw[show gv f v ((k,x)::r)=(if k=f then(k,v)::r else(k,x)::gv f v r) from rfl]
  by_cases aR:k=f
  ·rw[if_pos aR,List.length_cons,List.length_cons];omega
  ·rw[if_neg aR,List.length_cons,List.length_cons];omega
theorem hY.some_of{v:V}{o:Option Value}(r:hY (some v) o):∃u,o=some u∧c2 v u:=by
 cases o with
 |none=>exact(show False from r).elim
 |some u=>exact⟨u,rfl,r⟩
theorem hY.none_of{o:Option Value}(r:hY none o):o=none:=by
 cases o with
 |none=>rfl
 |some u=>exact(show False from r).elim
theorem EI{v:V}{u:Value}(r:c2 v u):handedIn u=true:=by
 cases v with
 |non=>cases (show u=Value.none from r);rfl
 |bl b=>cases (show u=Value.bool b from r);rfl
 |int i=>obtain⟨t,e⟩:=(show ∃t,u=Value.int i t from r);cases e;rfl
 |str x=>obtain⟨t,e⟩:=(show ∃t,u=Value.str x t from r);cases e;rfl
 |byt b=>obtain⟨t,e⟩:=(show ∃t,u=Value.bytes b t from r);cases e;rfl
 |flt b=>obtain⟨t,e⟩:=(show ∃t,u=Value.float b t from r);cases e;rfl
 |ref a=>cases (show u=Value.ref a from r);rfl
 |ty n=>cases (show u=Value.type n from r);rfl
section
variable {P:Program}{w:World}{H H':Hp}{h h':Heap}{a C aY:Addr}{fs rx:List (Str×V)}
theorem Zcu(hok:HOk P w H h)(e:H a=some (.ins C aY fs)):∃es,nc h a aY C es∧(∀f,hY (fs.lookup f) (es f))∧PySem.Within es (fs.map (·.1))∧fs.length≤1000∧H aY=some (.own a):=by
 obtain⟨d,z,ne,dx,es,n,r,q⟩:=(show ZY P w H h a (.ins C aY fs) from hok a _ e);exact⟨es,⟨dx,n,ne⟩,r,q,z,d⟩
end
structure Cls(K:Frag)(C:Addr):Prop where
 pg:plainGet K C Str.empty=true
 hd:hasDictIn K C=true
 po:plainOver K C=true
 sa:PySem.W.findIn K (.ref C) "__setattr__" =some (some (.builtin "object.__setattr__"))
theorem Cls.get{K:Frag}{C:Addr}(c:Cls K C)(f:Str):plainGet K C f=true:=c.pg
def iY(K:Frag)(C:Addr)(f:Str):Prop:=PySem.W.findIn K (.ref C) f=some none
theorem iY.taker{K:Frag}{C:Addr}{f:Str}(n:iY K C f):takerIn K C f=some none:=by
 unfold takerIn;rw[show PySem.W.findIn K (.ref C) f=some none from n]
 rfl
structure Zev(K:Frag)(C:Addr)(m:Str)(f:Addr):Prop where
 at_:PySem.W.findIn K (.ref C) m=some (some (.ref f))
 fn:isFn K (.ref f)=true
 kp:keepIn K (.ref f)=true
section
variable {X:Cx}{ah:List (Addr×Obj)}{ae:St}{H:Hp}{s:Shared}{a C aY:Addr}{fs:List (Str×V)}{f:Str}{v:V}{A:Around}{E:Value→Shared→Prop}
theorem Zid{b:Bool}{Q:Value→Shared→Prop}(I:Inv X ah ae H s)(e:H a=some (.ins C aY fs))(c:Cls X.K C)(n:iY X.K C f)(l:fs.lookup f=some v)
  (h:∀u s',Inv X ah ae H s'→c2 v u→Q u s'):wpAny (model X.prog X.w) A (getAttr (.ref a) f b) Q E s:=by
 obtain⟨es,O,r,_,_,_⟩:=Zcu I.hok e;obtain⟨u,hu,eu⟩:=hY.some_of (v:=v) (o:=es f) (by rw[←l];exact r f);exact Zmi I.kIn O (c.get f) c.hd n hu (EI eu) (h u _ (I.tok _) eu)
theorem ZaS{m:Str}{g:Addr}{pl:Sem Bool}{Q:Value×List Value→Shared→Prop}(I:Inv X ah ae H s)(e:H a=some (.ins C aY fs))(c:Cls X.K C)(k:Zev X.K C m g)(l:fs.lookup m=none)
  (h:Q (.ref g,[.ref a]) s):wpAny (model X.prog X.w) A (getMethod (.ref a) m pl) Q E s:=by
 obtain⟨es,O,r,_,_,_⟩:=Zcu I.hok e;have bA:es m=none:=hY.none_of (by rw[←l];exact r m);exact ZkX I.kIn O (c.get m) k.at_ k.fn bA h
theorem ZiS{y:V}{u:Value}{Q:Unit→Shared→Prop}(I:Inv X ah ae H s)(e:H a=some (.ins C aY fs))(c:Cls X.K C)(n:iY X.K C f)(af:fs.length<1000)(cJ:c2 y u)
  (h:∀s',Inv X ah ae (upd H a (.ins C aY (gv f y fs))) s'→Q () s'):wpAny (model X.prog X.w) A (setAttr (.ref a) f u) Q E s:=by
 obtain⟨es,O,r,eW,_,bc⟩:=Zcu I.hok e;have hz:(fs.map (·.1)).length≤sizeLine:=by rw[GE,sizeLine_eq];omega
 refine Zl6 I.kIn O c.sa c.po n.taker c.hd eW hz λh' O' iE=>h _ ?_;have hd:∃o,h'.get? aY=some o:=let⟨o,_,_,cx,_⟩:=O'.ns;⟨o,cx⟩
 refine I.write (x:=a) (e:=aY) (by rw[e];exact True.intro) (.inr bc) (λb q ag z=>(iE.2 b ag).trans z) hd ?_;refine⟨by rw[cq O.ne];exact bc,?_,O.ne,O'.obj,_,O'.ns,λg=>?_,λg aM=>?_⟩
 ·have:=ZcI f y fs;omega
 ·show hY ((gv f y fs).lookup g) (if g=f then some u else es g);rw[ZcU]
  by_cases q:g=f
  ·rw[if_pos q,if_pos q];exact cJ
  ·rw[if_neg q,if_neg q];exact r g
 ·by_cases q:g=f
  ·rw[q];exact(ub f y fs).1
  ·refine(ub f y fs).2 g (eW g λz=>aM ?_);show(if g=f then some u else es g)=none;rw[if_neg q];exact z
theorem Inv.made(I:Inv X ah ae H s):Inv X ah ae (upd (upd H s.heap.objs.size (.own (s.heap.objs.size+1))) (s.heap.objs.size+1) (.ins C s.heap.objs.size []))
  {s with heap:=(s.heap.push emptyDict).push (instObj C s.heap.objs.size)}:=by
 have aW:(s.heap.push emptyDict).get? s.heap.objs.size=some emptyDict:=Heap.get?_push_size s.heap rfl;have a7:((s.heap.push emptyDict).push (instObj C s.heap.objs.size)).get? (s.heap.objs.size+1)=some (instObj C s.heap.objs.size):=by
  have:=Heap.get?_push_size (s.heap.push emptyDict) (o:=instObj C s.heap.objs.size) rfl
  rwa [Heap.size_push] at this
 have c_:(s.heap.push emptyDict).Ns s.heap.objs.size (λ_=>none):=⟨emptyDict,#[],_,aW,rfl,(λe cp=>absurd cp (by simp)),λ_=>rfl⟩;have bD:=I.laid (a:=s.heap.objs.size) (o:= .own (s.heap.objs.size+1)) (h':=s.heap.push emptyDict) (t':=s.toks) (λb u q=>Heap.get?_push_of_some _ q) (FM _) ⟨_,aW⟩;refine bD.laid (a:=s.heap.objs.size+1) (o:= .ins C s.heap.objs.size []) (t':=s.toks) (λb u q=>Heap.get?_push_of_some _ q) (Nat.le_of_eq (Heap.size_push _ _)) ?_;have ne:s.heap.objs.size≠s.heap.objs.size+1:=qak (qbI _);refine⟨by rw[cq ne,Ze],qaA _,ne,a7,λ_=>none,(Heap.Ns1.of_empty c_).at λo q=>Heap.get?_push_of_some _ q,λ_=>True.intro,λy a'=>absurd rfl a'⟩
theorem Zmx{prog:Program}{w:World}{env:Env}{e:Expr}{f:Str}{pos:Pos}{s:Shared}{Q:Value→Shared→Prop}(ag:attributeBase e f env (eval e env)=eval e env)
  (h:wpAny (model prog w) A (eval e env) (λo dU=>wpAny (model prog w) A (getAttr o f true) Q E dU) E s):wpAny (model prog w) A (eval (.Attribute e f pos) env) Q E s:=
 Attribute_any_ h (by rw[arm_eval_Attribute,ag])
end
noncomputable def uc (K:Frag) (a_:TE) (f:Str):TE:=λae H Q=>a_ ae H λx aj=>∃a C aY fs v,x= .ref a∧aj a=some (.ins C aY fs)∧Cls K C∧iY K C f∧fs.lookup f=some v∧Q v aj
noncomputable def ud (K:Frag) (a_ ik:TE) (f:Str):TS:=λD ae H=>ik ae H λy aj=>a_ ae aj λx ay=>∃a C aY fs,x= .ref a∧ay a=some (.ins C aY fs)∧Cls K C∧iY K C f∧fs.length<1000∧
 D.nx ae (upd ay a (.ins C aY (gv f y fs)))
section
variable {X:Cx}{o e value:Expr}{f:Str}{pos jY lm:Pos}{a_ ik:TE}
theorem Znv(cp:PE X e a_)(ag:attributeBase e f X.env (eval e X.env)=eval e X.env):PE X (.Attribute e f pos) (uc X.K a_ f):=by
 intro ah s ae H Q I h;refine Zmx ag (thn (cp ah s ae H _ I h) λu az ⟨x,aj,bD,cr,a,C,aY,fs,v,ex,cL,c,n,l,q⟩=>?_);subst ex;obtain rfl:u=Value.ref a:=cr;exact Zid bD cL c n l λmf b' c' eu=>⟨v,aj,c',eu,q⟩
theorem Zng(aZ:PE X o a_)(cn:PE X value ik)(hs:swapsWith value (some (.Attribute o f jY)) pos.line X.env=pure false):PS X (.Assign [.Attribute o f jY] value pos) (ud X.K a_ ik f):=by
 intro ah s ae H D I h;refine plainObj_wpAny_Assign_Attribute (thn (cn ah s ae H _ I h) λu az ⟨y,aj,bD,cJ,q⟩=>thn (aZ ah az ae aj _ bD q) λdZ b' ⟨x,ay,c',cr,a,C,aY,fs,ex,cL,c,n,l,cT⟩=>?_) hs;subst ex;obtain rfl:dZ=Value.ref a:=cr;exact ZiS c' cL c n l cJ λbb dV=>⟨ae,_,dV,cT⟩
theorem Zn4{pl:Sem Bool}{m:Str}{eI:Pos}{args:List Expr}{ah:List (Addr×Obj)}{s:Shared}{ae:St}{H:Hp}{Q:Value→Shared→Prop}{cV:TE}(cp:PE X e cV)(I:Inv X ah ae H s)
  (h:cV ae H λx aj=>∃a C aY fs g,x= .ref a∧aj a=some (.ins C aY fs)∧Cls X.K C∧Zev X.K C m g∧fs.lookup m=none∧
   ∀az,Inv X ah ae aj az→wpAny (model X.prog X.w) X.A (callWith pos (.ref g) [.ref a] (backTo pos (starEach args X.env)) (backToKw pos (keywordEach [] X.env))) Q X.xe az)
  (cu:eval (.Call (.Attribute e m eI) args [] pos) X.env=(do
   let dZ←eval e X.env
   standAt eI.atName
   let(f,first)←holding [dZ] (getMethod dZ m pl)
   callWith pos f first (backTo pos (starEach args X.env)) (backToKw pos (keywordEach [] X.env)))):
  wpAny (model X.prog X.w) X.A (eval (.Call (.Attribute e m eI) args [] pos) X.env) Q X.xe s:=by
 refine methodCall_KW (pl:=pl) (thn (cp ah s ae H _ I h) λu az ⟨x,aj,bD,cr,a,C,aY,fs,g,ex,cL,c,k,l,q⟩=>?_) cu;subst ex;obtain rfl:u=Value.ref a:=cr;exact ZaS bD cL c k l (q az bD)
end
section
variable {X:Cx}{ah:List (Addr×Obj)}{ae:St}{H:Hp}{s:Shared}{A:Around}{E:Value→Shared→Prop}{Q:Value→Shared→Prop}{c:Value}{b:Bool}
inductive Wq(K:Frag)(H:Hp):V→Value→Prop where
 |non:Wq K H .non (.type "NoneType")
 |bl (x:Bool):Wq K H (.bl x) (.type "bool")
 |int (i:Int):Wq K H (.int i) (.type "int")
 |str (x:Str):Wq K H (.str x) (.type "str")
 |flt (x:UInt64):Wq K H (.flt x) (.type "float")
 |lst {a:Addr} {xs:List V} (e:H a=some (.lst xs)):Wq K H (.ref a) (.type "list")
 |frz {a:Addr} {o:Obj} {xs:List V} (e:H a=some (.frz o (.lst xs))):Wq K H (.ref a) (.type "list")
 |tup {a:Addr} {xs:List V} (e:H a=some (.tup xs)):Wq K H (.ref a) (.type "tuple")
 |dK {a:Addr} {kvs:List (Key×V)} (e:H a=some (.dK kvs)):Wq K H (.ref a) (.type "dict")
 |dT {a:Addr} {kvs:List (List Key×V)} (e:H a=some (.dT kvs)):Wq K H (.ref a) (.type "dict")
 |ins {a C aY:Addr} {fs:List (Str×V)} (e:H a=some (.ins C aY fs)) (cl:Cls K C) (aZ:PySem.W.findIn K (.ref C) "__class__" =some (some (.builtin "object.__class__")))
   (bA:PySem.W.specialIn K (.builtin "object.__class__") "__get__" =some (some (.builtin "getset_descriptor.__get__"))) (j5:PySem.W.takesIn K (.builtin "object.__class__")=some true)
   (a6:PySem.W.mroIn K C (.type "object")=some true):Wq K H (.ref a) (.ref C)
theorem Zj2{x:V}{u t:Value}(I:Inv X ah ae H s)(cr:c2 x u)(ty:Wq X.K H x t)(e:PySem.W.kitOne X.K t c=some b)(h:∀a5,Q (.bool b) {s with toks:=a5}):
  wpAny (model X.prog X.w) A (call (.builtin "isinstance") [u,c]) Q E s:=by
 cases ty with
 |non=>cases (show u=Value.none from cr);exact qbd PySem.W.kitx_none I.kIn True.intro e (λz=>nomatch z) h
 |bl y=>cases (show u=Value.bool y from cr);exact qbd PySem.W.kitx_bool I.kIn True.intro e (λz=>nomatch z) h
 |int i=>obtain⟨t,q⟩:=(show ∃t,u=Value.int i t from cr);cases q;exact qbd PySem.W.kitx_int I.kIn True.intro e (λz=>nomatch z) h
 |str y=>obtain⟨t,q⟩:=(show ∃t,u=Value.str y t from cr);cases q;exact qbd PySem.W.kitx_str I.kIn True.intro e (λz=>nomatch z) h
 |flt y=>obtain⟨t,q⟩:=(show ∃t,u=Value.float y t from cr);cases q;exact qbd PySem.W.kitx_float I.kIn True.intro e (λz=>nomatch z) h
 | @lst a xs cL=>
  cases (show u=Value.ref a from cr);obtain⟨_,_,n,_,ai⟩:=(show ZY X.prog X.w H s.heap a (.lst xs) from I.hok a _ cL);exact qbd kitx_list I.kIn ⟨_,ai,rfl⟩ e (λz=>nomatch z) h
 | @frz a dx xs cL=>
  cases (show u=Value.ref a from cr);obtain⟨_,_,_,n,_,ai⟩:=(show ZY X.prog X.w H s.heap a (.frz dx (.lst xs)) from I.hok a _ cL);exact qbd kitx_list I.kIn ⟨_,ai,rfl⟩ e (λz=>nomatch z) h
 | @tup a xs cL=>
  cases (show u=Value.ref a from cr);obtain⟨_,_,_,p⟩:=(show ZY X.prog X.w H s.heap a (.tup xs) from I.hok a _ cL);obtain⟨o,ai,aw,_⟩:=p;exact qbd PySem.W.kitx_tuple I.kIn ⟨o,ai,aw⟩ e (λz=>nomatch z) h
 | @dK a kvs cL=>
  cases (show u=Value.ref a from cr);obtain⟨_,_,vs,_,p⟩:=(show ZY X.prog X.w H s.heap a (.dK kvs) from I.hok a _ cL);obtain⟨o,aN,ep,ai,aw,_⟩:=p;exact qbd kitx_dict I.kIn ⟨o,ai,aw.1⟩ e (λz=>nomatch z) h
 | @dT a kvs cL=>
  cases (show u=Value.ref a from cr);obtain⟨_,_,xs,_,o,aN,ep,ai,aw,_⟩:=(show ZY X.prog X.w H s.heap a (.dT kvs) from I.hok a _ cL);exact qbd kitx_dict I.kIn ⟨o,ai,aw.1⟩ e (λz=>nomatch z) h
 | @ins a C aY fs cL cl aZ bA j5 a6=>
  cases (show u=Value.ref a from cr);obtain⟨es,O,_⟩:=Zcu I.hok cL;obtain⟨et,J,_⟩:=O.look;exact qbd (PySem.W.kitx_own (cl.get _) cl.hd aZ bA j5 a6) I.kIn J e (λz=>nomatch z) h
end
structure eP(k:Nat)(A:Around):Prop where
 hd:A.handled=none
 dp:A.depth+3*k+5<recursionLimit
 un:A.units+16*k+200<cLine
theorem eP.mono{j k:Nat}{A:Around}(r:eP k A)(h:j≤k):eP j A:=⟨r.hd,by have:=r.dp;omega,by have:=r.un;omega⟩
theorem eP.deeper{k:Nat}{A:Around}(r:eP (k+1) A)(env:Env):eP k (A.deeper env):=
 ⟨r.hd,by have:=r.dp;show A.depth+1+3*k+5<_;omega,by have:=r.un;show A.units+3+16*k+200<_;omega⟩
theorem Zh5{A:Around}{C:Addr}{us:List Value}{kw:List (Str×Value)}:(A.under (.builtin "type.__call__" ⟨.ref C::us,kw⟩)).depth=A.depth+1:=by
 first|rfl|simp[Around.under,Code.weight,Code.isCreation,Code.isGuard,Code.isCaller,Code.frames,Code.isFrame,guardIds]
theorem Zh8{A:Around}{C:Addr}{us:List Value}{kw:List (Str×Value)}:(A.under (.builtin "type.__call__" ⟨.ref C::us,kw⟩)).units=A.units+1:=by
 first|rfl|simp[Around.under,Code.cUnits,Code.frames,Code.isFrame]
theorem eP.make{k:Nat}{A:Around}(r:eP (k+1) A)(C:Addr)(us:List Value)(kw:List (Str×Value)):eP k (A.under (.builtin "type.__call__" ⟨.ref C::us,kw⟩)):=
 ⟨r.hd,by have:=r.dp;rw[Zh5];omega,by have:=r.un;rw[Zh8];omega⟩
theorem eP.depth{k:Nat}{A:Around}(r:eP k A):A.depth<recursionLimit:=by have:=r.dp;omega
theorem eP.units{k:Nat}{A:Around}(r:eP k A):A.units+64<cLine:=by have:=r.un;omega
noncomputable def tNil:TA:=λ_ H Q=>Q [] H
noncomputable def yM (a_:TE) (aL:TA):TA:=λae H Q=>a_ ae H λx aj=>aL ae aj λxs ay=>Q (x::xs) ay
section
variable {X:Cx}{e:Expr}{aN:List Expr}{cV:TE}{t:TA}{pos:Pos}
theorem aK:PA X [] tNil:=λ_ _ _ _ H Q I h=>Calls.spliced_nil ⟨[],H,I,.nil,h⟩
theorem ak(aZ:PE X e cV)(av:PA X aN t)(hs:starEach (e::aN) X.env=(false,eval e X.env)::starEach aN X.env:=by rfl):PA X (e::aN) (yM cV t):=by
 intro pos ah s ae H Q I h;rw[hs];show wpAny _ _ (spliced ((false,eval e X.env)::backTo pos (starEach aN X.env))) _ _ s;refine Calls.spliced_cons (thn (aZ ah s ae H _ I h) λu az ⟨x,aj,bD,cH,cA⟩=>?_);exact thn (av pos ah az ae aj _ bD cA) λus b' ⟨xs,ay,c',cX,cT⟩=>⟨x::xs,ay,c',.cons cH cX,cT⟩
noncomputable def yN (t:TA):TE:=λae H Q=>t ae H λxs aj=>xs.length≤sizeLine∧∀p,aj p=none→Q (.ref p) (upd aj p (.tup xs))
noncomputable def uf (t:TA):TE:=λae H Q=>t ae H λxs aj=>xs.length≤sizeLine∧∀p,aj p=none→Q (.ref p) (upd aj p (.lst xs))
theorem fE{x1}(h:PA X aN t):PE X (.Tuple aN x1 pos) (yN t):=by
 intro ah s ae H Q I cG;refine wpAny_Tuple_spliced (thn (h pos ah s ae H _ I cG) λus az ⟨xs,aj,bD,r,z,q⟩=>⟨by rw[←r.length];exact z,?_⟩);have bB:aj az.heap.objs.size=none:=bD.hok.fresh (FM _);refine⟨.ref az.heap.objs.size,upd aj az.heap.objs.size (.tup xs),bD.laid (t':=az.toks) (λb u e=>Heap.get?_push_of_some _ e) (FM _) ?_,rfl,q _ bB⟩;exact⟨z,us,r,⟨_,Heap.get?_push_size _ rfl,rfl,_,rfl⟩⟩
theorem fN(h:PA X aN t):PE X (.List aN pos) (uf t):=by
 intro ah s ae H Q I cG;refine wpAny_List_spliced (thn (h pos ah s ae H _ I cG) λus az ⟨xs,aj,bD,r,z,q⟩=>⟨by rw[←r.length];exact z,?_⟩);have bB:aj az.heap.objs.size=none:=bD.hok.fresh (FM _);refine⟨.ref az.heap.objs.size,upd aj az.heap.objs.size (.lst xs),bD.laid (t':=az.toks) (λb u e=>Heap.get?_push_of_some _ e) (FM _) ?_,rfl,q _ bB⟩;exact⟨z,us,0,r,Heap.get?_push_size _ rfl⟩
end
noncomputable abbrev Sp:=List V→Hp→VK→XK→Prop
noncomputable abbrev CXT:=List Env→Hp→Shared→XK→Value→Shared→Prop
structure Zc6(P:Program)(w:World)(K:Frag)(mg:Str→Option Value)(base:Heap)(A:Around)(outer:List Env)(s:Shared)(H:Hp):Prop where
 frames:A.frames=some outer
 mod:Mod K mg base
 bs:∀b o,base.get? b=some o→s.heap.get? b=some o∧H b=none
 bsz:base.objs.size≤s.heap.objs.size
 funs:s.heap.FunFrames base outer
 frf:∀b∈frs outer,H b=none
 hok:HOk P w H s.heap
 bare:AllBare s.gens
def CE(outer:List Env)(P:Program)(w:World)(H:Hp)(s:Shared)(Q:VK)(u:Value)(s':Shared):Prop:=
 ∃v H',s'.os=s.os∧AllBare s'.gens∧Un (frs outer) [] H H' s.heap s'.heap∧HOk P w H' s'.heap∧c2 v u∧Q v H'
def CR(CX:CXT)(outer:List Env)(P:Program)(w:World)(H:Hp)(s:Shared)(Q:VK)(E:XK)(r:Result)(s':Shared):Prop:=
 match r with
 | .ok (.ret u)=>CE outer P w H s Q u s'
 | .ok _=>False
 | .error e=>CX outer H s E e s'
structure YN(P:Program)(w:World)(K:Frag)(mg:Str→Option Value)(base:Heap)(CX:CXT)(k:Nat)(f:Addr)(fd:FuncData)(ps:List Str)(sp:Sp):Prop where
 len:∀vs H Q E,sp vs H Q E→vs.length=ps.length
 run:∀(A:Around)(outer:List Env)(s:Shared)(H:Hp)(args:Args)(us:List Value)(vs:List V)(Q:VK)(E:XK),eP k A→Zc6 P w K mg base A outer s H→BindsTo s fd args (ps.zip us)→cZ vs us→sp vs H Q E→
  codeAny (model P w) A (.call (.ref f) args) (CR CX outer P w H s Q E) s
theorem YN.mono{P:Program}{w:World}{K:Frag}{mg:Str→Option Value}{base:Heap}{CX:CXT}{j k:Nat}{f:Addr}{fd:FuncData}{ps:List Str}{sp:Sp}(F:YN P w K mg base CX j f fd ps sp)(h:j≤k):
  YN P w K mg base CX k f fd ps sp:=⟨F.len,λA outer s H args us vs Q E av=>F.run A outer s H args us vs Q E (av.mono h)⟩
theorem Zc6.make{P:Program}{w:World}{K:Frag}{mg:Str→Option Value}{base:Heap}{A:Around}{outer:List Env}{s:Shared}{H:Hp}(e:Zc6 P w K mg base A outer s H)(C:Addr)(us:List Value)(kw:List (Str×Value)):
  Zc6 P w K mg base (A.under (.builtin "type.__call__" ⟨.ref C::us,kw⟩)) outer s H:=⟨by first|exact e.frames|(simpa[Around.under,Code.envs,Code.isFrame,pushEnvs] using e.frames),e.mod,e.bs,e.bsz,e.funs,e.frf,e.hok,e.bare⟩
section
variable {X:Cx}{ah:List (Addr×Obj)}{ae:St}{H:Hp}{s s':Shared}
theorem Inv.env0(I:Inv X ah ae H s):Zc6 X.prog X.w X.K X.mg X.base X.A X.stack s H:=
 ⟨I.ok.frames,I.ok.mod,I.bs,qaz I.ok.bsz I.sz,I.stack,I.stkFree,I.hok,I.bare⟩
theorem Inv.after{Q:VK}{u:Value}(I:Inv X ah ae H s)(h:CE X.stack X.prog X.w H s Q u s'):EP X ah ae Q u s':=by
 obtain⟨v,H',os,bare,un,hok,r,q⟩:=h;obtain⟨cw,g,d,t,ug⟩:=s';obtain rfl:ug=s.os:=os;exact⟨v,H',I.call (h':=cw) (g':=g) (d':=d) (t':=t) (ch:=[]) un hok bare (λb z=>absurd z (by simp)),r,q⟩
end
noncomputable def uh (sp:Sp) (ef:List V) (E:XK) (t:TA):TE:=λae H Q=>t ae H λvs aj=>sp (vs++ef) aj Q E
noncomputable def pD (C:Addr) (m:Str) (sp:Sp) (ef:List V) (E:XK) (a_:TE) (t:TA):TE:=λae H Q=>a_ ae H λx aj=>∃a aY fs,x= .ref a∧aj a=some (.ins C aY fs)∧fs.lookup m=none∧
 t ae aj λvs ay=>sp (x::(vs++ef)) ay Q E
noncomputable def pE (C:Addr) (sp:Sp) (ef:List V) (E:XK) (t:TA):TE:=λae H Q=>t ae H λvs aj=>∀x aY,aj x=none→aj aY=none→aY≠x→
 sp (.ref x::(vs++ef)) (upd (upd aj aY (.own x)) x (.ins C aY [])) (λv ay=>v= .non∧Q (.ref x) ay) E
def Wh(K:Frag)(fd:FuncData)(ps:List Str)(cB:List Value):Prop:=
 ∀(s:Shared)(us:List Value),K.In s.heap→(us++cB).length=ps.length→BindsTo s fd ⟨us,[]⟩ (ps.zip (us++cB))
theorem Wh.all{K:Frag}{fd:FuncData}{ps:List Str}(h:∀us:List Value,us.length=ps.length→bindArgs fd ⟨us,[]⟩=pure (ps.zip us)):Wh K fd ps []:=λs us _ af=>by
 rw[qb2] at af⊢;exact .of_eq (h us af)
def Wo(CX:CXT)(X:Cx)(E:XK):Prop:=∀(ah:List (Addr×Obj))(ae:St)(H:Hp)(s:Shared)(e:Value)(s':Shared),Inv X ah ae H s→CX X.stack H s E e s'→X.xe e s'
section
variable {X:Cx}{CX:CXT}{k:Nat}{f C:Addr}{fd:FuncData}{ps:List Str}{sp:Sp}{ef:List V}{cB:List Value}{E:XK}{x m:Str}{p pos eI:Pos}{e o:Expr}{aN:List Expr}{a_:TE}{t:TA}
theorem ui{ah:List (Addr×Obj)}{ae:St}{H:Hp}{s:Shared}{Q:VK}{us:List Value}{vs:List V}(F:YN X.prog X.w X.K X.mg X.base CX k f fd ps sp)(av:eP k X.A)(ag:Wh X.K fd ps cB)(hd:cZ ef cB)(ao:Wo CX X E)
  (I:Inv X ah ae H s) (r:cZ vs us) (h:sp (vs++ef) H Q E):wpAny (model X.prog X.w) X.A (call (.ref f) us) (EP X ah ae Q) X.xe s:=by
 have cX:cZ (vs++ef) (us++cB):=r.append hd;have af:(us++cB).length=ps.length:=by rw[←cX.length];exact F.len _ _ _ _ h
 refine wpAny_call (codeAny_mono (F.run X.A X.stack s H ⟨us,[]⟩ (us++cB) (vs++ef) Q E av I.env0 (ag s us I.kIn af) cX h) λr s' cG=>?_);cases r with
 |error e=>exact ao ah ae H s e s' I cG
 |ok fF=>
  cases fF with
  |ret u=>exact I.after cG
  |next=>exact False.elim cG
  |brk=>exact False.elim cG
  |cont=>exact False.elim cG
theorem Zmb(F:YN X.prog X.w X.K X.mg X.base CX k f fd ps sp)(av:eP k X.A)(aM:Gl X x)(a6:X.mg x=some (.ref f))(aR:keepIn X.K (.ref f)=true)(ag:Wh X.K fd ps cB)(hd:cZ ef cB)(ao:Wo CX X E)
  (aZ:PA X (e::aN) t) (f':(x==("__debug__" :Str))=false:=by decide) (cp:starEach (e::aN) X.env=(false,eval e X.env)::starEach aN X.env:=by rfl) (fO:(backTo pos (starEach aN X.env)).any (·.1)=false:=by rfl):
  PE X (.Call (.Name x p) (e::aN) [] pos) (uh sp ef E t):=by
 intro ah s ae H Q I h;refine wpAny_Call_Name_kw (m4 I aM a6 ?_ f');refine callWith_K (h₀:=X.base) I.ok.mod.kin aR (thn (aZ pos ah s ae H _ I h) λus az ⟨vs,aj,bD,r,q⟩=>⟨bD.kIn,?_⟩) cp fO;exact ui F av ag hd ao bD r q
theorem yO{pl:Sem Bool}(cp:PE X o a_)(c:Cls X.K C)(a6:Zev X.K C m f)(F:YN X.prog X.w X.K X.mg X.base CX k f fd ps sp)(av:eP k X.A)(ag:Wh X.K fd ps cB)(hd:cZ ef cB)(ao:Wo CX X E)(aZ:PA X (e::aN) t)
  (dQ:starEach (e::aN) X.env=(false,eval e X.env)::starEach aN X.env:=by rfl) (fO:(backTo pos (starEach aN X.env)).any (·.1)=false:=by rfl)
  (cu:eval (.Call (.Attribute o m eI) (e::aN) [] pos) X.env=(do
   let dZ←eval o X.env
   standAt eI.atName
   let(f,first)←holding [dZ] (getMethod dZ m pl)
   callWith pos f first (backTo pos (starEach (e::aN) X.env)) (backToKw pos (keywordEach [] X.env))):=by rfl):
  PE X (.Call (.Attribute o m eI) (e::aN) [] pos) (pD C m sp ef E a_ t):=by
 intro ah s ae H Q I h;refine methodCall_KW (pl:=pl) (thn (cp ah s ae H _ I h) λu az ⟨x,aj,bD,cr,a,aY,fs,ex,cL,l,q⟩=>?_) cu;subst ex;obtain rfl:u=Value.ref a:=cr;refine ZaS bD cL c a6 l ?_;refine callWith_K (first:=[.ref a]) (h₀:=X.base) I.ok.mod.kin a6.kp (thn (aZ pos ah az ae aj _ bD q) λus b' ⟨vs,ay,c',r,cT⟩=>⟨c'.kIn,?_⟩) dQ fO;exact ui (us:= .ref a::us) (vs:= .ref a::vs) F av ag hd ao c' (.cons rfl r) cT
theorem ZlE{pl:Sem Bool}(cp:PE X o a_)(c:Cls X.K C)(a6:Zev X.K C m f)(F:YN X.prog X.w X.K X.mg X.base CX k f fd ps sp)(av:eP k X.A)(ag:Wh X.K fd ps cB)(hd:cZ ef cB)(ao:Wo CX X E)
  (cu:eval (.Call (.Attribute o m eI) [] [] pos) X.env=(do
   let dZ←eval o X.env
   standAt eI.atName
   let(f,first)←holding [dZ] (getMethod dZ m pl)
   callWith pos f first (backTo pos (starEach [] X.env)) (backToKw pos (keywordEach [] X.env))):=by rfl):
  PE X (.Call (.Attribute o m eI) [] [] pos) (pD C m sp ef E a_ tNil):=by
 intro ah s ae H Q I h;refine methodCall_KW (pl:=pl) (thn (cp ah s ae H _ I h) λu az ⟨x,aj,bD,cr,a,aY,fs,ex,cL,l,q⟩=>?_) cu;subst ex;obtain rfl:u=Value.ref a:=cr;refine ZaS bD cL c a6 l ?_;exact callWith_K0 (first:=[.ref a]) bD.kIn a6.kp (ui (us:=[.ref a]) (vs:=[.ref a]) F av ag hd ao bD (.cons rfl .nil) q)
structure Mk(K:Frag)(C f:Addr):Prop where
 makes:makesIn K C=true
 init:PySem.W.findIn K (.ref C) "__init__" =some (some (.ref f))
 fn:isFn K (.ref f)=true
 kp:keepIn K (.ref C)=true
theorem yP{ah:List (Addr×Obj)}{ae:St}{H:Hp}{s:Shared}{Q:VK}{us:List Value}{vs:List V}(M:Mk X.K C f)(F:YN X.prog X.w X.K X.mg X.base CX k f fd ps sp)(av:eP (k+1) X.A)(ag:Wh X.K fd ps cB)(hd:cZ ef cB)
  (ao:Wo CX X E) (I:Inv X ah ae H s) (r:cZ vs us)
  (h:∀x aY,H x=none→H aY=none→aY≠x→sp (.ref x::(vs++ef)) (upd (upd H aY (.own x)) x (.ins C aY [])) (λv ay=>v= .non∧Q (.ref x) ay) E):
  wpAny (model X.prog X.w) X.A (call (.ref C) us) (EP X ah ae Q) X.xe s:=by
 have cG:=h (s.heap.objs.size+1) s.heap.objs.size (I.hok.fresh (qb7 _)) (I.hok.fresh (FM _)) (qak (qbI _));have c':=Inv.made (C:=C) I;have cX:cZ (V.ref (s.heap.objs.size+1)::(vs++ef)) (Value.ref (s.heap.objs.size+1)::(us++cB)):= .cons rfl (r.append hd);have af:(Value.ref (s.heap.objs.size+1)::us++cB).length=ps.length:=by
  have e:=cX.length;rw[F.len _ _ _ _ cG] at e;exact e.symm
 refine wpAny_call (EH (f:=f) I.kIn M.makes M.init (beq_iff_eq.mp M.fn) (codeAny_mono (F.run _ X.stack _ _ ⟨Value.ref (s.heap.objs.size+1)::us,[]⟩ (Value.ref (s.heap.objs.size+1)::(us++cB)) _ _ E (av.make C us [])
  (c'.env0.make C us []) (ag _ (Value.ref (s.heap.objs.size+1)::us) c'.kIn af) cX cG) λr s' oi=>?_))
 cases r with
 |error e=>exact ao ah ae _ _ e s' c' oi
 |ok fF=>
  cases fF with
  |ret u=>
   obtain⟨v,H',dV,dk,eJ,fY⟩:=c'.after oi;subst eJ;exact⟨dk,⟨V.ref (s.heap.objs.size+1),H',dV,rfl,fY⟩⟩
  |next=>exact False.elim oi
  |brk=>exact False.elim oi
  |cont=>exact False.elim oi
theorem ZmL(M:Mk X.K C f)(F:YN X.prog X.w X.K X.mg X.base CX k f fd ps sp)(av:eP (k+1) X.A)(aM:Gl X x)(a6:X.mg x=some (.ref C))(ag:Wh X.K fd ps cB)(hd:cZ ef cB)(ao:Wo CX X E)
  (aZ:PA X (e::aN) t) (f':(x==("__debug__" :Str))=false:=by decide) (cp:starEach (e::aN) X.env=(false,eval e X.env)::starEach aN X.env:=by rfl) (fO:(backTo pos (starEach aN X.env)).any (·.1)=false:=by rfl):
  PE X (.Call (.Name x p) (e::aN) [] pos) (pE C sp ef E t):=by
 intro ah s ae H Q I h;refine wpAny_Call_Name_kw (m4 I aM a6 ?_ f');refine callWith_K (h₀:=X.base) I.ok.mod.kin M.kp (thn (aZ pos ah s ae H _ I h) λus az ⟨vs,aj,bD,r,q⟩=>⟨bD.kIn,?_⟩) cp fO;exact yP M F av ag hd ao bD r q
theorem Zkx(M:Mk X.K C f)(F:YN X.prog X.w X.K X.mg X.base CX k f fd ps sp)(av:eP (k+1) X.A)(aM:Gl X x)(a6:X.mg x=some (.ref C))(ag:Wh X.K fd ps cB)(hd:cZ ef cB)(ao:Wo CX X E)
  (f':(x==("__debug__" :Str))=false:=by decide):PE X (.Call (.Name x p) [] [] pos) (pE C sp ef E tNil):=by
 intro ah s ae H Q I h;refine wpAny_Call_Name_kw (m4 I aM a6 ?_ f');exact callWith_K0 I.kIn M.kp (yP (us:=[]) M F av ag hd ao I .nil h)
end
section
variable {X:Cx}{CX:CXT}{k:Nat}{f C:Addr}{fd:FuncData}{ps c5:List Str}{sp:Sp}{E:XK}{x m:Str}{p pos eI QY:Pos}{e o:Expr}{aN:List Expr}{QZ:List Keyword}{cV a_:TE}{t a5:TA}{nm:Option Str}
variable {g:List Value→List Value→List Value}{Q0:List V→List V→List V}
end
structure Zs(N P:List Str)(cE:Scope):Prop where
 kind:cE.kind= .function
 co:cE.isCoroutine=false
 gen:cE.isGenerator=false
 nd:N.Nodup
 pre:N.take P.length=P
 par:∀x∈P,cE.names.lookup x=some .local∨cE.names.lookup x=some .cell
 nofree:∀y∈cE.names,y.2≠ .free
theorem ZeH{kindOf:Str→Option NameKind}{x:Str}:∀{binds:List (Str×Value)}{m:Str→Option Value},(∀v,(x,v)∉binds)→bindL kindOf binds m x=m x
 | [],_,_=>rfl
 |(n,v)::r,m,h=>by
  unfold bindL;rw[ZeH λw hw=>h w (qas _ hw)]
  split
  ·have:x≠n:=by rintro rfl;exact h v qaZ
   simp[this]
  ·rfl
theorem Ze3{kindOf:Str→Option NameKind}{x:Str}:∀{binds:List (Str×Value)}{m:Str→Option Value},(∀v,(x,v)∉binds)→bindC kindOf binds m x=m x
 | [],_,_=>rfl
 |(n,v)::r,m,h=>by
  unfold bindC;rw[Ze3 λw hw=>h w (qas _ hw)]
  split
  ·rfl
  ·have:x≠n:=by rintro rfl;exact h v qaZ
   simp[this]
theorem yQ{kindOf:Str→Option NameKind}{x:Str}{v:Value}:∀{P:List Str}{vs:List Value}{i:Nat}{m:Str→Option Value},P.Nodup→P[i]? =some x→vs[i]? =some v→kindOf x=some .local→
  bindL kindOf (P.zip vs) m x=some v
 | [],_,_,_,_,h,_,_=>by simp at h
 |_::_,[],_,_,_,_,h,_=>by simp at h
 |p::P,w::vs,0,m,nd,ai,aw,aR=>by
  simp at ai aw;subst ai;subst aw;show bindL kindOf ((p,w)::P.zip vs) m p=_;unfold bindL;rw[ZeH λv cn=>(qbu.mp nd).1 (List.of_mem_zip cn).1,if_pos aR];simp
 |p::P,w::vs,i+1,m,nd,ai,aw,aR=>by
  show bindL kindOf ((p,w)::P.zip vs) m x=_;unfold bindL;exact yQ (i:=i) (qbu.mp nd).2 (by simpa using ai) (by simpa using aw) aR
theorem Zfe{kindOf:Str→Option NameKind}{x:Str}{v:Value}:∀{P:List Str}{vs:List Value}{i:Nat}{m:Str→Option Value},P.Nodup→P[i]? =some x→vs[i]? =some v→kindOf x≠some .local→
  bindC kindOf (P.zip vs) m x=some v
 | [],_,_,_,_,h,_,_=>by simp at h
 |_::_,[],_,_,_,_,h,_=>by simp at h
 |p::P,w::vs,0,m,nd,ai,aw,aR=>by
  simp at ai aw;subst ai;subst aw;show bindC kindOf ((p,w)::P.zip vs) m p=_;unfold bindC;rw[Ze3 λv cn=>(qbu.mp nd).1 (List.of_mem_zip cn).1,if_neg aR];simp
 |p::P,w::vs,i+1,m,nd,ai,aw,aR=>by
  show bindC kindOf ((p,w)::P.zip vs) m x=_;unfold bindC;exact Zfe (i:=i) (qbu.mp nd).2 (by simpa using ai) (by simpa using aw) aR
noncomputable def start (N:List Str) (vs:List V):St:=vs.map some++List.replicate (N.length-vs.length) none
noncomputable def ZI (CX:CXT) (P:Program) (w:World) (K:Frag) (mg:Str→Option Value) (base:Heap) (N:List Str) (qual:Str) (scope:Scope) (f:Addr) (cd:Value) (A:Around) (outer:List Env) (s:Shared) (H:Hp) (E:XK):Cx where
 prog:=P
 w:=w
 K:=K
 mg:=mg
 base:=base
 A:=A.deeper (envOfC qual scope s.heap.objs.size f cd)
 N:=N
 s₀:=s
 H₀:=H
 env:=envOfC qual scope s.heap.objs.size f cd
 outer:=outer
 stack:=envOfC qual scope s.heap.objs.size f cd::outer
 ex:=[]
 calm:=true
 fn:=λ_=>true
 pn:=[]
 xe:=λe s'=>wpAny (model P w) (A.deeper (envOfC qual scope s.heap.objs.size f cd)) (leaving (envOfC qual scope s.heap.objs.size f cd) e) (λ_ nf=>CX outer H s E e nf) (λcx nf=>CX outer H s E cx nf) s'
theorem Zf5{cE:Scope}{n:Nat}{x:Str}(h:cE.names.lookup x=some .cell):∃c,(cellsFrom n cE.names []).lookup x=some c:=by
 have q:=cellsFrom_some cE.names n [] (.inl h);exact qbN.mp q
theorem ZjX{CX:CXT}{P:Program}{w:World}{K:Frag}{mg:Str→Option Value}{base:Heap}{N ps:List Str}{qual:Str}{scope:Scope}{f:Addr}{cd:Value}{A:Around}{outer:List Env}{s az:Shared}{H:Hp}{E:XK}{us:List Value}{vs:List V}
  (S:Zs N ps scope) (hd:A.handled=none) (fh:Zc6 P w K mg base A outer s H) (af:vs.length=ps.length) (r:cZ vs us)
  (x:InCallC s s.heap.objs.size (bindL (envOfC qual scope s.heap.objs.size f cd).kindOf (ps.zip us) λ_=>none) (cellsFrom (s.heap.objs.size+1) scope.names []) (bindC (envOfC qual scope s.heap.objs.size f cd).kindOf (ps.zip us) λ_=>none) az):
  Inv (ZI CX P w K mg base N qual scope f cd A outer s H E) [] (start N vs) H az:=by
 have fO:ps.length≤N.length:=by have:=congrArg List.length S.pre;rw[qaP] at this;omega
 obtain⟨ai,a5,rfl,aR⟩:=x.done;have pF:∀b:Addr,b∉(ZI CX P w K mg base N qual scope f cd A outer s H E).ex:=λb z=>absurd (show b∈([]:List Addr) from z) (by simp);refine⟨⟨fh.mod,S.kind,rfl,rfl,FM _,λy z c ai aw=>?_,λy a'=>?_,λy c _ h=>?_,λ_=>hd,Around.frames_deeper fh.frames,.inr ⟨rfl,rfl⟩,λb z=>absurd z (pF b),fh.bs,fh.bsz,λb _ _=>pF b,λb z=>absurd z (pF b),fh.funs,fh.frf⟩,
  rfl,fh.bare,Un.kept aR,⟨_,x.toInCall.ns,λi y v ai aw cC=>?_⟩,λy c h=>⟨_,x.cell y c h⟩,fh.hok.fresh (FM _),λy c h=>?_,λp aS=>absurd (show p∈([]:List (Addr×Obj)) from aS) (by simp),fh.hok.kept aR,?_⟩
 ·exact name_of_addr x.apart (qbG ai) (qbG aw)
 ·have a':scope.names.lookup y=some .cell∨scope.names.lookup y=some .free:=a';rcases a' with a'|a'
  ·exact Zf5 a'
  ·exact absurd rfl (S.nofree _ (qbG a'))
 ·exact qaX (x.above y c (qbG h))
 ·have hi:i<vs.length:=by
   unfold start at aw
   by_cases hi:i<vs.length
   ·exact hi
   ·rw[qaJ (by simpa using hi)] at aw;rw[List.getElem?_replicate] at aw
    split at aw<;>cases aw
  have aZ:vs[i]? =some v:=by
   unfold start at aw;rw[qaB (by simpa using hi),qaj] at aw;cases e:vs[i]? with
   |none=>rw[e] at aw;cases aw
   |some a=>rw[e] at aw;cases aw;rfl
  obtain⟨u,hu,dk⟩:=r.get aZ;have aS:ps[i]? =some y:=by
   rw[←S.pre,List.getElem?_take_of_lt (by omega)];exact ai
  have yR:ps.Nodup:=by rw[←S.pre];exact S.nd.sublist (List.take_sublist _ _)
  refine⟨u,dk,?_⟩;rcases S.par y (qal aS) with k|k
  ·exact .inl ⟨k,yQ yR aS hu k⟩
  ·obtain⟨c,e⟩:=Zf5 (n:=s.heap.objs.size+1) k;refine .inr ⟨.inl k,c,e,?_⟩;have q:=x.cell y c e;rw[Zfe yR aS hu (by show scope.names.lookup y≠_;rw[k];decide)] at q;exact q
 ·exact fh.hok.fresh (qaX (x.above y c (qbG h)))
 ·unfold start;show _=N.length;rw[qac,GE,qbk];omega
theorem ZlW{CX:CXT}{P:Program}{w:World}{K:Frag}{mg:Str→Option Value}{base:Heap}{k:Nat}{f:Addr}{name qual:Str}{params:Arguments}{body:List Stmt}{scope:Scope}{rA kV fP eD cS ct fX:Value}{an et:Option Addr}
  {hn:Array (Option Value)} {N ps:List Str} {sp:Sp} (lk:K.lookup f=some ⟨fX,et,.func (fnOf name qual params body scope rA kV fP eD an cS ct),hn⟩) (jn:codeIn K cS qual=true) (S:Zs N ps scope)
  (len:∀vs H Q E,sp vs H Q E→vs.length=ps.length)
  (pG:∀(A:Around)(outer:List Env)(s:Shared)(H:Hp)(vs:List V)(Q:VK)(E:XK),eP k (A.deeper (envOfC qual scope s.heap.objs.size f cS))→sp vs H Q E→
   ∃t,PSs (ZI CX P w K mg base N qual scope f cS A outer s H E) body t∧t {nx:=λ_ H'=>Q .non H',rt:=Q} (start N vs) H):
  YN P w K mg base CX (k+1) f (fnOf name qual params body scope rA kV fP eD an cS ct) ps sp:=by
 refine⟨len,λA outer s H args us vs Q E av fh ag r jF=>?_⟩;have af:=len _ _ _ _ jF;have eV:K.In s.heap:=fh.mod.kin.keeps λb o e=>(fh.bs b o e).1;have EJ:s.heap.NoLimit:=fh.mod.nolimit.keeps λb o e=>(fh.bs b o e).1;have ng:∀y∈ps.zip us,scope.names.lookup y.1=some .local∨(scope.names.lookup y.1=some .cell∧((cellsFrom (s.heap.objs.size+1) scope.names []).lookup y.1).isSome=true):=λ⟨n,v⟩ a'=>by
  rcases S.par n (List.of_mem_zip a').1 with q|q
  ·exact .inl q
  ·exact .inr ⟨q,cellsFrom_some _ _ _ (.inl q)⟩
 refine codeAny_call_function av.depth (eV _ _ lk) rfl S.co S.gen rfl (PySem.W.codeRec_of eV jn) (ag _ _ _ _ ?_);refine wpAny_newFunctionEnv_cells S.kind ng λenv cp az x=>?_;subst cp;refine⟨EJ.keeps x.toInCall.keep,codeAny_func ?_⟩;obtain⟨t,cu,cG⟩:=pG A outer s H vs Q E (av.deeper _) jF;have I:Inv (ZI CX P w K mg base N qual scope f cS A outer s H E) [] (start N vs) H az:=ZjX S av.hd fh af r x;refine wpAny_mono (cu [] az (start N vs) H _ I cG) (λfF s' hs=>?_) λe s' hs=>hs;have eN:∀{ci:St}{H':Hp}{v:V}{u:Value},Inv (ZI CX P w K mg base N qual scope f cS A outer s H E) [] ci H' s'→c2 v u→Q v H'→CE outer P w H s Q u s':=
  λ{ci H' v u} J dk q=>⟨v,H',J.os,J.bare,J.base,J.hok,dk,q⟩
 cases fF with
 |ret u=>
  obtain⟨v,ci,H',J,dk,q⟩:=hs;exact eN J dk q
 |next=>
  obtain⟨ci,H',J,q⟩:=hs;exact eN (v:=V.non) (u:=Value.none) J rfl q
 |brk=>
  obtain⟨_,_,_,q⟩:=hs;exact False.elim q
 |cont=>
  obtain⟨_,_,_,q⟩:=hs;exact False.elim q
section
variable {X:Cx}{x:Str}{p pos:Pos}{e:Expr}{aN:List Expr}{t:TA}{id T:String}{r:List V→Hp→VK→Prop}
noncomputable def tCB (r:List V→Hp→VK→Prop) (t:TA):TE:=λae H Q=>t ae H λvs aj=>r vs aj Q
theorem dM(ax:YC X (.builtin id) r)(aM:Gl X x)(a6:X.mg x=none)(cn:bootBuiltins x=some (.builtin id))(aZ:PA X (e::aN) t)(bA:x≠"__name__" :=by decide)(f':(x==("__debug__" :Str))=false:=by decide)
  (cp:starEach (e::aN) X.env=(false,eval e X.env)::starEach aN X.env:=by rfl) (fO:(backTo pos (starEach aN X.env)).any (·.1)=false:=by rfl):PE X (.Call (.Name x p) (e::aN) [] pos) (tCB r t):=by
 intro ah s ae H Q I h;refine wpAny_Call_Name_kw (jW I aM a6 cn ?_ bA f');exact qbP (thn (aZ pos ah s ae H _ I h) λus az ⟨vs,aj,bD,cH,cA⟩=>ax ah az ae aj vs us Q bD cH cA) cp fO
theorem nh(ax:YC X (.type T) r)(aM:Gl X x)(a6:X.mg x=none)(cn:bootBuiltins x=some (.type T))(aZ:PA X (e::aN) t)(bA:x≠"__name__" :=by decide)(f':(x==("__debug__" :Str))=false:=by decide)
  (cp:starEach (e::aN) X.env=(false,eval e X.env)::starEach aN X.env:=by rfl) (fO:(backTo pos (starEach aN X.env)).any (·.1)=false:=by rfl):PE X (.Call (.Name x p) (e::aN) [] pos) (tCB r t):=by
 intro ah s ae H Q I h;refine wpAny_Call_Name_kw (jW I aM a6 cn ?_ bA f');exact qaV (thn (aZ pos ah s ae H _ I h) λus az ⟨vs,aj,bD,cH,cA⟩=>ax ah az ae aj vs us Q bD cH cA) cp fO
end
end L2
namespace HT
open PySem PyProof.Rows
section
open PySem.SeqAt
open PySem.AutoSeq1 (wpAny_loadPart')
open PySem.MeetsSeq PySem.MeetsSeq2 PySem.MeetsSeq3
end
section
variable {prog:Program}{w:World}{A:Around}{E:Value→Shared→Prop}{s:Shared}
theorem Zmr{t b:Addr}{vs ck:List Value}{Q:Value→Shared→Prop}(cu:IsTup s.heap t vs.toArray)(ag:IsTup s.heap b ck.toArray)(cn:vs≠[])
  (ai:ck=[]→Q (.ref t) s) (aw:ck≠[]→Q (.ref s.heap.objs.size) {s with heap:=s.heap.push {cls:= .type "tuple",data:= .seq (vs++ck).toArray}})
  (hsz:vs.length+ck.length≤sizeLine):wpAny (model prog w) A (binaryOp .Add (.ref t) (.ref b)) Q E s:=by
 obtain⟨⟨cls,dd,data,sl⟩,bc,ax,n,hd⟩:=id cu;obtain⟨⟨Q1,rB,data2,yS⟩,rC,ho,ft,j6⟩:=id ag;simp only at ax hd ho j6;subst ax hd ho j6;have e:vs.toArray++ck.toArray=(vs++ck).toArray:=by simp
 by_cases hw:ck=[]
 ·exact concat_meets ⟨_,bc,rfl⟩ ⟨_,rC,rfl⟩ noFill_tuple_add seq_tuple_add PySem.F.slot_tuple_add PySem.F.entry_tuple_add (PySem.F.args_tuple_add_2 _ _)
   (tuple_addW1 t b vs.toArray ck.toArray n ft dd rB sl yS (by simpa using cn) (by simp[hw])) ⟨bc,rC,ai hw⟩
 ·refine concat_meets ⟨_,bc,rfl⟩ ⟨_,rC,rfl⟩ noFill_tuple_add seq_tuple_add PySem.F.slot_tuple_add PySem.F.entry_tuple_add (PySem.F.args_tuple_add_2 _ _)
   (tuple_addW2 t b vs.toArray ck.toArray n ft dd rB sl yS (by simpa using cn) (by simpa using hw) (by rw[qae,qae];exact hsz)) ⟨bc,rC,?_⟩
  rw[e];exact aw hw
noncomputable def sIx (n d:Nat):Option Int→Nat
 |none=>d
 |some v=>if v<0 then(v+(n:Int)).toNat else min v.toNat n
theorem Znr(n d:Nat)(hd:d≤n)(o:Option Int):sIx n d o≤n:=by
 cases o with
 |none=>exact hd
 |some v=>
  show(if v<0 then(v+(n:Int)).toNat else min v.toNat n)≤n
  by_cases cn:v<0
  ·rw[if_pos cn];omega
  ·rw[if_neg cn];exact Nat.min_le_right _ _
theorem ZhU(v:Int)(n d:Nat):(if v<0 then max (v+(n:Int)) 0 else min v (n:Int))=((sIx n d (some v):Nat):Int):=by
 show(if v<0 then max (v+(n:Int)) 0 else min v (n:Int))=(((if v<0 then(v+(n:Int)).toNat else min v.toNat n):Nat):Int)
 by_cases cn:v<0
 ·simp only[if_pos cn];omega
 ·simp only[if_neg cn];omega
theorem ZiM(lo hi:Option Int)(n:Nat):Builtin.Slice.sliceAdjust lo hi 1 (n:Int)=(((sIx n 0 lo:Nat):Int),((sIx n n hi:Nat):Int)):=by
 have ai:¬((1:Int)<0):=by omega
 unfold Builtin.Slice.sliceAdjust;simp only[ai,if_false];refine Prod.ext ?_ ?_
 ·cases lo with
  |none=>rfl
  |some v=>exact ZhU v n 0
 ·cases hi with
  |none=>rfl
  |some v=>exact ZhU v n n
theorem ZiI(i j:Nat):Builtin.Slice.slicePlaces (i:Int) (j:Int) 1=j-i:=by
 unfold Builtin.Slice.slicePlaces;have ai:(1:Int) > 0:=by omega
 simp only[ai,if_true,Int.ediv_one]
 split<;>omega
theorem yT{v:Value}{o:Option Int}{Q:Option Int→Shared→Prop}(p:IsPart v o)(h:Q o s):wpAny (model prog w) A (Builtin.Slice.slicePartIndex v) Q E s:=by
 cases p with
 |none=>exact slicePart_none h
 |int i t=>exact slicePart_int h
theorem EK{sl:Addr}{fZ gR:Value}{lo hi:Option Int}{n:Nat}{Q:Int×Int×Nat→Shared→Prop}(hs:s.heap.IsSliceOf sl fZ gR .none)(pl:IsPart fZ lo)(iF:IsPart gR hi)
  (h:Q (((sIx n 0 lo:Nat):Int),1,sIx n n hi-sIx n 0 lo) s):wpAny (model prog w) A (Builtin.Slice.sliceApplied (.ref sl) (pure (n:Int))) Q E s:=by
 obtain⟨os,pH,lw,j7⟩:=id hs;unfold Builtin.Slice.sliceApplied Builtin.Slice.sliceFields;refine wpAny_bind (wpAny_bind (wpAny_field pH j7 (x:=fZ) rfl (wpAny_bind (wpAny_field pH j7 (x:=gR) rfl (wpAny_bind (wpAny_field pH j7 (x:= .none) rfl (wpAny_pure ?_)))))));refine wpAny_bind (slicePart_none ?_);show wpAny _ _ (if((1:Int)==0)=true then _ else _) _ _ s;rw[if_neg (by decide)];refine wpAny_bind (yT pl (wpAny_bind (yT iF (wpAny_bind (wpAny_pure ?_)))));show wpAny _ _ (match Builtin.Slice.sliceAdjust lo hi 1 (n:Int) with|(lo,hi)=>pure (lo,(1:Int),Builtin.Slice.slicePlaces lo hi 1)) _ _ s;rw[ZiM lo hi n];show wpAny _ _ (pure (((sIx n 0 lo:Nat):Int),(1:Int),Builtin.Slice.slicePlaces ((sIx n 0 lo:Nat):Int) ((sIx n n hi:Nat):Int) 1)) _ _ s;rw[ZiI];exact wpAny_pure h
theorem EL(xs:Array Value)(i k:Nat):((List.range k).filterMap λ(m:Nat)=>xs[((i:Int)+(m:Int)*1).toNat]?).toArray=((xs.toList.drop i).take k).toArray:=by
 have e:(λ(m:Nat)=>xs[((i:Int)+(m:Int)*1).toNat]?)=λm=>xs[i+m]? :=by
  funext m
  have:((i:Int)+(m:Int)*1).toNat=i+m:=by omega
  rw[this]
 rw[e];have:=pick_run xs i k;rw[List.filterMap_map] at this;have a7:((λx=>xs[x]?)∘λx=>i+x)=λm=>xs[i+m]? :=rfl;rw[a7] at this;rw[this]
theorem Zcz{t sl:Addr}{items:Array Value}{fZ gR:Value}{lo hi:Option Int}{Q:Value→Shared→Prop}(cu:IsTup s.heap t items)(hs:s.heap.IsSliceOf sl fZ gR .none)(pl:IsPart fZ lo)(iF:IsPart gR hi)
  (hw:¬(sIx items.size 0 lo=0∧sIx items.size items.size hi=items.size))
  (h:Q (.ref s.heap.objs.size) {s with heap:=s.heap.push {cls:= .type "tuple",data:= .seq ((items.toList.drop (sIx items.size 0 lo)).take (sIx items.size items.size hi-sIx items.size 0 lo)).toArray}})
  (hsz:items.size≤sizeLine):wpAny (model prog w) A (getItem (.ref t) (.ref sl)) Q E s:=by
 have rD:sizeOk (.seq ((items.toList.drop (sIx items.size 0 lo)).take (sIx items.size items.size hi-sIx items.size 0 lo)).toArray):=by
  show((items.toList.drop (sIx items.size 0 lo)).take (sIx items.size items.size hi-sIx items.size 0 lo)).toArray.size≤sizeLine;rw[qae,qaP,qa1,qbi];omega
 have aJ:sIx items.size items.size hi≤items.size:=Znr _ _ (FM _) hi;obtain⟨os,pH,lw,j7⟩:=id hs;have EM:s.TypeIs (.ref sl) "slice" :=⟨os,pH,lw⟩;unfold getItem
 try with_reducible refine wpAny_holding ?_
 first|refine wpAny_bind (wpAny_pure ?_)|skip
 refine wpAny_bind (wpAny_sequenceKey cu.typeIs (by decide) ?_);refine wpAny_bind (wpAny_callSpecial?_slot (name:=Str.ofString "__getitem__") cu.typeIs qbO
  (wpAny_call_entry qbO cu.typeIs entry_tuple_getitem ?_ (args_tuple_getitem _ _)))
 show wpAny _ _ (Builtin.Tuple.tupleItemsOf (.ref t) >>= _) _ _ s;refine wpAny_bind (tupleItemsOf_ cu ?_);refine wpAny_bind (wpAny_typeOf EM ?_);rw[if_pos (by decide)];refine wpAny_bind (EK hs pl iF ?_);have gi:¬((((sIx items.size 0 lo:Nat):Int)==0&&(1:Int)==1&&(sIx items.size items.size hi-sIx items.size 0 lo)==items.size)=true):=by
  intro q;rw[qa2,qa2] at q;have cA:((sIx items.size 0 lo:Nat):Int)=0:=eq_of_beq q.1.1;have cT:sIx items.size items.size hi-sIx items.size 0 lo=items.size:=eq_of_beq q.2;exact hw ⟨by omega,by omega⟩
 show wpAny _ _ (if(((sIx items.size 0 lo:Nat):Int)==0&&(1:Int)==1&&(sIx items.size items.size hi-sIx items.size 0 lo)==items.size)=true then _ else _) _ _ s;rw[if_neg gi,EL]
 first
  |exact wpAny_bind (m:=Builtin.Tuple.tupleExact _) (wpAny_newObj_type (wpAny_pure ⟨_,rfl,wpAny_pure h⟩) rD)
  |exact wpAny_bind (m:=Builtin.Tuple.tupleExact _) (wpAny_newObj_type (wpAny_bind (wpAny_pure (wpAny_pure ⟨_,rfl,wpAny_pure h⟩))) rD)
  |exact wpAny_bind (wpAny_bind (m:=Builtin.Tuple.tupleExact _) (wpAny_newObj_type (wpAny_pure (wpAny_pure ⟨_,rfl,wpAny_pure h⟩)) rD))
  |exact wpAny_bind (wpAny_bind (m:=Builtin.Tuple.tupleExact _) (wpAny_newObj_type (wpAny_pure ⟨_,rfl,wpAny_pure h⟩) rD))
end
end HT
namespace L2
open PySem PySem.Spec PyProof.Rows
noncomputable abbrev TO:=St→Hp→(Option Int→Hp→Prop)→Prop
def PO(X:Cx)(e:Option Expr)(t:TO):Prop:=
 ∀(ah:List (Addr×Obj))(s:Shared)(ae:St)(H:Hp)(Q:Option Int→Hp→Prop),Inv X ah ae H s→t ae H Q→
  wpAny (model X.prog X.w) X.A (evalPart e X.env) (λu s'=>∃o H',Inv X ah ae H' s'∧IsPart u o∧Q o H') X.xe s
noncomputable def tNoPart:TO:=λ_ H Q=>Q none H
noncomputable def yU (t:TE):TO:=λae H Q=>t ae H λx aj=>∃i,x= .int i∧Q (some i) aj
theorem rE{ns:List Int}:∀{us:List Value},cZ (ns.map V.int) us→IntsAre us ns:=by
 induction ns with
 |nil=>intro us r;rw[List.map_nil] at r;cases r;exact .nil
 |cons n ns cO=>
  intro us r;rw[List.map_cons] at r;cases r with
  |cons cH cX=>
   obtain⟨t,e⟩:=cH;subst e;exact .cons n t (cO cX)
section
variable {X:Cx}{e:Expr}{cV:TE}{lo hi:Option Expr}{d4 h3:TO}{pos eK:Pos}
theorem rF:PO X none tNoPart:=by
 intro ah s ae H Q I h;rw[evalPart_none];exact wpAny_pure ⟨none,H,I,.none,h⟩
theorem rG(h:PE X e cV):PO X (some e) (yU cV):=by
 intro ah s ae H Q I hw;rw[evalPart_some];refine thn (h ah s ae H _ I hw) λu az ⟨x,aj,bD,cH,cA⟩=>?_;obtain⟨i,rfl,q⟩:=cA;obtain⟨t,rfl⟩:=cH;exact⟨some i,aj,bD,.int i t,q⟩
def SlR(X:Cx)(r:V→Option Int→Option Int→Hp→VK→Prop):Prop:=
 ∀(ah:List (Addr×Obj))(s:Shared)(ae:St)(H:Hp)(x:V)(v fZ gR:Value)(lo hi:Option Int)(sl:Addr)(Q:VK),Inv X ah ae H s→c2 x v→s.heap.IsSliceOf sl fZ gR .none→IsPart fZ lo→IsPart gR hi→r x lo hi H Q→
  ∃T id,typeLookup (.type T) "__getitem__" =pure (some (.builtin id))∧s.TypeIs v T∧wpAny (model X.prog X.w) X.A (getItem v (.ref sl)) (EP X ah ae Q) X.xe s
theorem SlR.or{r dt:V→Option Int→Option Int→Hp→VK→Prop}(h:SlR X r)(h':SlR X dt):SlR X (λx lo hi H Q=>r x lo hi H Q∨dt x lo hi H Q):=by
 intro ah s ae H x v fZ gR lo hi sl Q I cr hs pl iF q;rcases q with q|q
 ·exact h ah s ae H x v fZ gR lo hi sl Q I cr hs pl iF q
 ·exact h' ah s ae H x v fZ gR lo hi sl Q I cr hs pl iF q
noncomputable def tSl (r:V→Option Int→Option Int→Hp→VK→Prop) (cV:TE) (d4 h3:TO):TE:=λae H Q=>cV ae H λx aj=>d4 ae aj λl ay=>h3 ae ay λu bF=>r x l u bF Q
theorem rH{r:V→Option Int→Option Int→Hp→VK→Prop}(av:SlR X r)(cp:PE X e cV)(af:PO X lo d4)(hu:PO X hi h3):PE X (.Subscript e (.Slice lo hi none eK) pos) (tSl r cV d4 h3):=by
 intro ah s ae H Q I h;refine Subscript_ (thn (cp ah s ae H _ I h) λv az ⟨x,aj,bD,cH,cA⟩=>?_);refine wpAny_Slice (thn (af ah az ae aj _ bD cA) λfZ b' ⟨l,ay,c',pl,cT⟩=>thn (hu ah b' ae ay _ c' cT) λgR bb ⟨u,bF,dV,iF,fY⟩=>?_);rw[evalPart_none];refine wpAny_pure ?_;have jZ:Inv X ah ae bF {bb with heap:=bb.heap.push {cls:= .type "slice",data:= .fields #[fZ,gR,.none]}}:=dV.kept (t':=bb.toks) λb dx q=>Heap.get?_push_of_some _ q;obtain⟨T,id,dg,cu,aM⟩:=av ah {bb with heap:=bb.heap.push {cls:= .type "slice",data:= .fields #[fZ,gR,.none]}} ae bF x v fZ gR l u bb.heap.objs.size Q jZ cH (Heap.IsSliceOf.new ..) pl iF fY;show wpAny (model X.prog X.w) X.A (subscriptTail e (.Slice lo hi none eK) v (.ref bb.heap.objs.size)) (EP X ah ae Q) X.xe {bb with heap:=bb.heap.push {cls:= .type "slice",data:= .fields #[fZ,gR,.none]}};exact tail_any (ops:=[.ref bb.heap.objs.size,v]) cu dg aM (by with_unfolding_all rfl)
noncomputable def iG (xs:List V) (lo hi:Option Int):List V:=(xs.drop (HT.sIx xs.length 0 lo)).take (HT.sIx xs.length xs.length hi-HT.sIx xs.length 0 lo)
theorem yV(xs:List V)(lo hi:Option Int):(iG xs lo hi).length≤xs.length:=by
 unfold iG;rw[qaP,qa1];omega
noncomputable def yW (K:Frag):V→Option Int→Option Int→Hp→VK→Prop:=λx lo hi H Q=>∃a xs,x= .ref a∧SqT K H a xs∧
 ¬(HT.sIx xs.length 0 lo=0∧HT.sIx xs.length xs.length hi=xs.length)∧∀p,H p=none→Q (.ref p) (upd H p (.tup (iG xs lo hi)))
theorem EN:SlR X (yW X.K):=by
 intro ah s ae H x v fZ gR lo hi sl Q I cr hs pl iF h;obtain⟨a,xs,rfl,ao,hw,q⟩:=h;cases cr;obtain⟨its,r,cu,hz⟩:=I.tuple ao;have ed:its.toArray.size=xs.length:=by rw[qae];exact r.length.symm
 refine⟨"tuple",_,qbO.lookup,cu.typeIs,?_⟩;refine HT.Zcz cu hs pl iF (by rw[ed];exact hw) ?_ (by rw[ed];exact hz);rw[ed];refine⟨.ref s.heap.objs.size,_,I.laid (t':=s.toks) (o:= .tup (iG xs lo hi)) (λb dx q=>Heap.get?_push_of_some _ q) (FM _) ?_,rfl,q _ (I.hok.fresh (FM _))⟩;exact⟨qaz (yV xs lo hi) hz,_,(r.drop (HT.sIx xs.length 0 lo)).take (HT.sIx xs.length xs.length hi-HT.sIx xs.length 0 lo),IsTup.new _ _⟩
noncomputable def pI (K:Frag):R2:=λx y H Q=>∃a b xs ys,x= .ref a∧y= .ref b∧SqT K H a xs∧SqT K H b ys∧xs≠[]∧xs.length+ys.length≤sizeLine∧
 (ys=[]→Q (.ref a) H)∧(ys≠[]→∀p,H p=none→Q (.ref p) (upd H p (.tup (xs++ys))))
theorem cZ.nil_iff{xs:List V}{us:List Value}(r:cZ xs us):us=[]↔xs=[]:=by
 cases r with
 |nil=>simp
 |cons _ _=>simp
theorem EO:OpR X (binaryOp .Add) (pI X.K):=by
 intro ah s ae H x y v u Q I cr cJ h;obtain⟨a,b,xs,ys,rfl,rfl,aZ,ag,ao,hz,cA,cT⟩:=h;cases cr;cases cJ;obtain⟨its,cH,eL,_⟩:=I.tuple aZ;obtain⟨jG,cX,eK,_⟩:=I.tuple ag;refine HT.Zmr eL eK (λz=>ao (cH.nil_iff.mp z)) (λz=>⟨.ref a,H,I,rfl,cA (cX.nil_iff.mp z)⟩) (λz=>?_) (by rw[←cH.length,←cX.length];exact hz);refine⟨.ref s.heap.objs.size,_,I.laid (t':=s.toks) (o:= .tup (xs++ys)) (λb dx q=>Heap.get?_push_of_some _ q) (FM _) ?_,rfl,cT (λw=>z (cX.nil_iff.mpr w)) _ (I.hok.fresh (FM _))⟩;exact⟨by rw[qac];exact hz,_,cH.append cX,IsTup.new _ _⟩
end
noncomputable def ixN (n:Nat) (i:Int):Option Nat:=if 0≤i then(if i<n then some i.toNat else none) else if -(n:Int)≤i then some (i+n).toNat else none
noncomputable def atI {db:Type} (xs:List db) (i:Int):Option db:=(ixN xs.length i).bind λj=>xs[j]?
theorem ZhT{n:Nat}{i:Int}{j:Nat}(h:ixN n i=some j):seqIndex? i n=some j∧j<n∧ -(n:Int)≤i∧i<n:=by
 unfold ixN at h
 by_cases c8:0≤i
 ·rw[if_pos c8] at h
  by_cases ai:i<n
  ·rw[if_pos ai] at h;have e:i.toNat=j:=qap h;exact⟨by rw[seqIndex_of c8 ai,e],by omega,by omega,ai⟩
  ·rw[if_neg ai] at h;cases h
 ·rw[if_neg c8] at h
  by_cases ai: -(n:Int)≤i
  ·rw[if_pos ai] at h;have e:(i+n).toNat=j:=qap h;exact⟨by rw[seqIndex_neg (by omega) ai,e],by omega,ai,by omega⟩
  ·rw[if_neg ai] at h;cases h
theorem Zck{db:Type}{xs:List db}{i:Int}{v:db}(h:atI xs i=some v):∃j,seqIndex? i xs.length=some j∧xs[j]? =some v∧j<xs.length∧ -(xs.length:Int)≤i∧i<xs.length:=by
 unfold atI at h;cases e:ixN xs.length i with
 |none=>rw[e] at h;cases h
 |some j=>
  rw[e] at h;obtain⟨ai,aw,cC,c3⟩:=ZhT e;exact⟨j,ai,h,aw,cC,c3⟩
theorem gS{db:Type}{xs:List db}{j:Nat}{v:db}(h:xs[j]? =some v):atI xs (j:Int)=some v:=by
 have aJ:j<xs.length:=(GM.mp h).1;have e:ixN xs.length (j:Int)=some j:=by
  unfold ixN;rw[if_pos (by omega),if_pos (by omega)];simp
 unfold atI;rw[e];exact h
def Zmz(b:Expr):Prop:=∀o i,subscripted b false o i=operate [o,i] (getItem o i)
def IxR(X:Cx)(r:R2):Prop:=
 ∀(value slice:Expr)(ah:List (Addr×Obj))(s:Shared)(ae:St)(H:Hp)(x y:V)(v u:Value)(Q:VK),Inv X ah ae H s→c2 x v→c2 y u→r x y H Q→
  subscripted slice false v u=operate [v,u] (getItem v u)→wpAny (model X.prog X.w) X.A (subscriptTail value slice v u) (EP X ah ae Q) X.xe s
def MtR(X:Cx)(id:String)(r:V→List V→Hp→VK→Prop):Prop:=
 ∀(ah:List (Addr×Obj))(s:Shared)(ae:St)(H:Hp)(x:V)(xs:List V)(v:Value)(us:List Value)(Q:VK),Inv X ah ae H s→c2 x v→cZ xs us→r x xs H Q→
  wpAny (model X.prog X.w) X.A (call (.builtin id) (v::us)) (EP X ah ae Q) X.xe s
section
variable {X:Cx}{a b:Expr}{a_ c4:TE}{pos:Pos}
theorem IxR.or{r dt:R2}(h:IxR X r)(h':IxR X dt):IxR X (λx y H Q=>r x y H Q∨dt x y H Q):=by
 intro value slice ah s ae H x y v u Q I cr cJ q hs;rcases q with q|q
 ·exact h value slice ah s ae H x y v u Q I cr cJ q hs
 ·exact h' value slice ah s ae H x y v u Q I cr cJ q hs
theorem cv{r:R2}(av:IxR X r)(aZ:PE X a a_)(ag:PE X b c4)(hs:Zmz b):PE X (.Subscript a b pos) (tOp r a_ c4):=by
 intro ah s ae H Q I h;exact Subscript_ (t6 aZ ag I h λv u b' x y ay c' cr cJ q=>av a b ah b' ae ay x y v u Q c' cr cJ q (hs _ _))
noncomputable def Zet (K:Frag):R2:=λx y H Q=>∃p xs i v,x= .ref p∧y= .int i∧SqL K H p xs∧atI xs i=some v∧Q v H
noncomputable def uj (K:Frag):R2:=λx y H Q=>∃p xs i v,x= .ref p∧y= .int i∧SqT K H p xs∧atI xs i=some v∧Q v H
noncomputable def rIxS:R2:=λx y H Q=>∃z i c,x= .str z∧y= .int i∧z.length≤sizeLine∧atI z.cps.toList i=some c∧Q (.str ⟨#[c]⟩) H
theorem EQ:IxR X (Zet X.K):=by
 intro value slice ah s ae H x y v u Q I cr cJ h hs;obtain⟨p,xs,i,z,rfl,rfl,cG,cp,q⟩:=h;cases cr;obtain⟨t,rfl⟩:=cJ;obtain⟨its,r,pl,hz⟩:=I.list cG;obtain⟨j,ai,aw,cC,c3,eE⟩:=Zck cp;obtain⟨w,gb,jp⟩:=r.get aw;have af:=r.length;have bA:=mq;have eN:EP X ah ae Q w s:=⟨z,H,I,jp,q⟩
 by_cases c8:0≤i
 ·have aJ:i.toNat=j:=by
   rw[seqIndex_of c8 eE] at ai;exact qap ai
  exact item_listR pl.isList c8 (by omega) (by rw[aJ];simpa using gb) eN hs
 ·have aJ:(i+(its.toArray.size:Int)).toNat=j:=by
   rw[seqIndex_neg (by omega) c3] at ai;rw[qae,←af];exact qap ai
  exact subscriptTail_builtinR (x:=w) pl.isList.typeIs slot_list_getitem.lookup
   (wpAny_getItem_list_neg (Q:=λr s'=>r=w∧EP X ah ae Q r s') pl.isList (by omega) (by rw[qae]<;>omega) (by omega) (by rw[aJ];simpa using gb) ⟨rfl,eN⟩) hs
theorem ER:IxR X (uj X.K):=by
 intro value slice ah s ae H x y v u Q I cr cJ h hs;obtain⟨p,xs,i,z,rfl,rfl,cG,cp,q⟩:=h;cases cr;obtain⟨t,rfl⟩:=cJ;obtain⟨its,r,pl,hz⟩:=I.tuple cG;obtain⟨j,ai,aw,cC,c3,eE⟩:=Zck cp;obtain⟨w,gb,jp⟩:=r.get aw;have af:=r.length;have bA:=mq;have eN:EP X ah ae Q w s:=⟨z,H,I,jp,q⟩;exact subscriptTail_builtinR (x:=w) pl.typeIs slot_tuple_getitem.lookup
  (getItem_tuple (j:=j) (Q:=λr s'=>r=w∧EP X ah ae Q r s') pl (by omega) (by omega) (by rw[qae,←af];exact ai) (by simpa using gb) ⟨rfl,eN⟩) hs
theorem ES:IxR X rIxS:=by
 intro value slice ah s ae H x y v u Q I cr cJ h hs;obtain⟨z,i,c,rfl,rfl,hz,cp,q⟩:=h;obtain⟨t,rfl⟩:=cr;obtain⟨t',rfl⟩:=cJ;obtain⟨j,ai,aw,cC,c3,eE⟩:=Zck cp;have af:z.cps.toList.length=z.length:=by simp[Str.length]
 rw[af] at ai c3 eE;have bA:=mq;exact tail_any (typeIs_str s z t) slot_str_getitem.lookup (getItem_str (c:=c) (by
  have aW:decide (i< -(2 ^ 63:Int))=false:=decide_eq_false (by omega);have a7:decide (i≥2 ^ 63)=false:=decide_eq_false (by omega);rw[aW,a7,Bool.or_false]) (by rw[ai];simpa using aw) ⟨.str ⟨#[c]⟩,H,I.tok _,⟨_,rfl⟩,q⟩) hs
noncomputable def rIx (K:Frag):R2:=λx y H Q=>Zet K x y H Q∨uj K x y H Q∨rIxS x y H Q
theorem ET:IxR X (rIx X.K):=EQ.or (ER.or ES)
theorem EU(its:List Value)(n j:Nat)(u:Value):Obj.mapSeq (·.setIfInBounds j u) {cls:= .type "list",data:= .seq its.toArray n}={cls:= .type "list",data:= .seq (its.set j u).toArray n}:=by
 simp[Obj.mapSeq]
theorem Inv.lst{ah:List (Addr×Obj)}{ae:St}{H:Hp}{s:Shared}{p:Addr}{xs:List V}(I:Inv X ah ae H s)(h:H p=some (.lst xs)):
  ∃(its:List Value)(n:Nat),cZ xs its∧s.heap.get? p=some {cls:= .type "list",data:= .seq its.toArray n}∧xs.length≤sizeLine:=by
 obtain⟨z,its,n,r,e⟩:=I.hok p _ h;exact⟨its,n,r,e,z⟩
theorem Inv.lstUpd{ah:List (Addr×Obj)}{ae:St}{H:Hp}{s:Shared}{p:Addr}{xs ys:List V}{its its':List Value}{n fK:Nat}{f:Obj→Obj}(I:Inv X ah ae H s)(h:H p=some (.lst xs))
  (bc:s.heap.get? p=some {cls:= .type "list",data:= .seq its.toArray n}) (bB:f {cls:= .type "list",data:= .seq its.toArray n}={cls:= .type "list",data:= .seq its'.toArray fK}) (r:cZ ys its') (hz:ys.length≤sizeLine) (t:Nat):
  Inv X ah ae (upd H p (.lst ys)) {s with heap:=s.heap.update p f,toks:=t}:=by
 have e:(s.heap.update p f).get? p=some {cls:= .type "list",data:= .seq its'.toArray fK}:=by
  rw[Heap.get?_update_self f bc (by rw[bB]<;>rfl),bB]
 refine I.write (x:=p) (e:=p) (by rw[h];trivial) (.inl rfl) (λb u ag q=>(Heap.get?_update_other _ _ (qbJ ag)).trans q) ⟨_,e⟩ ?_;exact⟨hz,its',fK,r,e⟩
noncomputable def rSetL:V→V→V→Hp→(Hp→Prop)→Prop:=λo i v H Q=>∃p xs k j,o= .ref p∧i= .int k∧H p=some (.lst xs)∧ixN xs.length k=some j∧Q (upd H p (.lst (xs.set j v)))
theorem mu:Zi4 X rSetL:=by
 intro ah s ae H o i v dZ gH u Q I ro ri dk h;obtain⟨p,xs,k,j,rfl,rfl,aS,aJ,q⟩:=h;cases ro;obtain⟨t,rfl⟩:=ri;obtain⟨its,n,r,bc,hz⟩:=I.lst aS;obtain⟨ai,aw,cC,c3⟩:=ZhT aJ;have af:=r.length;have bA:=mq;have eC:Inv X ah ae (upd H p (.lst (xs.set j v))) {s with heap:=s.heap.update p (Obj.mapSeq (·.setIfInBounds j u))}:=
  I.lstUpd aS bc (EU its n j u) (r.set dk j) (by rw[qbS];exact hz) s.toks
 by_cases c8:0≤k
 ·have aR:k.toNat=j:=by
   rw[seqIndex_of c8 c3] at ai;exact qap ai
  exact PySem.W.ki_setAt bc c8 (by omega) (by rw[qae,←af];exact c3) (by rw[aR];exact⟨_,eC,q⟩)
 ·have aR:(k+(its.toArray.size:Int)).toNat=j:=by
   rw[seqIndex_neg (by omega) cC] at ai;rw[qae,←af];exact qap ai
  exact PySem.W.ki_setBack bc (by omega) (by rw[qae,←af];exact cC) (by omega) (by rw[aR];exact⟨_,eC,q⟩)
theorem Zgo(lo hi:Option Int)(n:Nat):(sliceBounds lo hi none n).1=((HT.sIx n 0 lo:Nat):Int)∧(sliceBounds lo hi none n).2.1=((HT.sIx n n hi:Nat):Int)∧(sliceBounds lo hi none n).2.2=1:=by
 refine⟨?_,?_,rfl⟩
 ·cases lo with
  |none=>simp[sliceBounds,HT.sIx]
  |some i=>
   simp only[sliceBounds,HT.sIx,Option.getD_none,show(1:Int) > 0 by decide,if_true]
   by_cases h:i<0
   ·simp only[h,if_true]<;>omega
   ·simp only[h,if_false]<;>omega
 ·cases hi with
  |none=>simp[sliceBounds,HT.sIx]
  |some i=>
   simp only[sliceBounds,HT.sIx,Option.getD_none,show(1:Int) > 0 by decide,if_true]
   by_cases h:i<0
   ·simp only[h,if_true]<;>omega
   ·simp only[h,if_false]<;>omega
theorem Zft(its:List Value)(lo hi:Option Int):slicePick its.toArray lo hi none=((its.drop (HT.sIx its.length 0 lo)).take (HT.sIx its.length its.length hi-HT.sIx its.length 0 lo)).toArray:=by
 obtain⟨ai,aw,cC⟩:=Zgo lo hi its.toArray.size;unfold slicePick;rw[ai,aw,cC];simp only[sliceRange_one,pick_run,qae]<;>rfl
noncomputable def yX (K:Frag):V→Option Int→Option Int→Hp→VK→Prop:=λx lo hi H Q=>∃a xs,x= .ref a∧SqL K H a xs∧∀p,H p=none→Q (.ref p) (upd H p (.lst (iG xs lo hi)))
theorem EV:SlR X (yX X.K):=by
 intro ah s ae H x v fZ gR lo hi sl Q I cr hs pl iF h;obtain⟨a,xs,rfl,ao,q⟩:=h;cases cr;obtain⟨its,r,cu,hz⟩:=I.list ao;have ed:=r.length;refine⟨"list",_,slot_list_getitem.lookup,cu.isList.typeIs,?_⟩;refine wpAny_getItem_list_slice cu.isList hs pl iF .none (by simp) ?_ (by rw[qae]<;>omega);rw[Zft,←ed];refine⟨.ref s.heap.objs.size,_,I.laid (t':=s.toks) (o:= .lst (iG xs lo hi)) (λb dx q=>Heap.get?_push_of_some _ q) (FM _) ?_,rfl,q _ (I.hok.fresh (FM _))⟩;exact⟨qaz (yV xs lo hi) hz,_,0,(r.drop (HT.sIx xs.length 0 lo)).take (HT.sIx xs.length xs.length hi-HT.sIx xs.length 0 lo),Heap.get?_push_size _ rfl⟩
noncomputable def lx:V→Bool
 | .non=>true
 | .bl _=>true
 | .int _=>true
 | .str _=>true
 |_=>false
noncomputable def eqV:V→V→Bool
 | .non,.non=>true
 | .bl a,.bl b=>a==b
 | .bl a,.int b=>(if a then 1 else 0)==b
 | .int a,.bl b=>a==(if b then 1 else 0)
 | .int a,.int b=>a==b
 | .str a,.str b=>a==b
 |_,_=>false
theorem ZmP{A:Around}{s:Shared}{y x:V}{u v:Value}(cJ:c2 y u)(cr:c2 x v)(EW:lx y=true)(kF:lx x=true):SeqAt.EqAt A s u v (eqV y x):=by
 cases y with
 |non=>
  cases cJ;cases x with
  |non=>cases cr;exact SeqAt.EqAt.same _
  |bl b=>cases cr;exact SeqAt.EqAt.none_bool b
  |int b=>obtain⟨t,rfl⟩:=cr;exact SeqAt.EqAt.none_int b t
  |str b=>obtain⟨t,rfl⟩:=cr;exact SeqAt.EqAt.none_str b t
  |_=>exact absurd (show false=true from kF) qag
 |bl a=>
  cases cJ;cases x with
  |non=>cases cr;exact SeqAt.EqAt.bool_none a
  |bl b=>cases cr;exact SeqAt.EqAt.bool_bool a b
  |int b=>obtain⟨t,rfl⟩:=cr;exact SeqAt.EqAt.bool_int a b t
  |str b=>obtain⟨t,rfl⟩:=cr;exact SeqAt.EqAt.bool_str a b t
  |_=>exact absurd (show false=true from kF) qag
 |int a=>
  obtain⟨t',rfl⟩:=cJ;cases x with
  |non=>cases cr;exact SeqAt.EqAt.int_none a t'
  |bl b=>cases cr;exact SeqAt.EqAt.int_bool a t' b
  |int b=>obtain⟨t,rfl⟩:=cr;exact SeqAt.EqAt.int_int a t' b t
  |str b=>obtain⟨t,rfl⟩:=cr;exact SeqAt.EqAt.int_str a t' b t
  |_=>exact absurd (show false=true from kF) qag
 |str a=>
  obtain⟨t',rfl⟩:=cJ;cases x with
  |non=>cases cr;exact SeqAt.EqAt.str_none a t'
  |bl b=>cases cr;exact SeqAt.EqAt.str_bool a t' b
  |int b=>obtain⟨t,rfl⟩:=cr;exact SeqAt.EqAt.str_int a t' b t
  |str b=>obtain⟨t,rfl⟩:=cr;exact SeqAt.EqAt.str_str a t' b t
  |_=>exact absurd (show false=true from kF) qag
 |_=>exact absurd (show false=true from EW) qag
noncomputable def eqU (x:V) (u:Value):Bool:=match u with
 | .none=>eqV .non x
 | .bool b=>eqV (.bl b) x
 | .int i _=>eqV (.int i) x
 | .str z _=>eqV (.str z) x
 |_=>false
theorem yY{x y:V}{u:Value}(r:c2 y u)(f:lx y=true):eqU x u=eqV y x:=by
 cases y with
 |non=>cases r;rfl
 |bl b=>cases r;rfl
 |int i=>obtain⟨t,rfl⟩:=r;rfl
 |str z=>obtain⟨t,rfl⟩:=r;rfl
 |_=>exact absurd (show false=true from f) qag
theorem uk{x:V}:∀{xs:List V}{us:List Value},cZ xs us→xs.all lx=true→us.any (eqU x)=xs.any λy=>eqV y x
 |_,_,.nil,_=>rfl
 |y::xs,u::us,.cons r t,f=>by
  rw[qci,qa2] at f;rw[qcj,qcj,yY r f.1,uk t f.2]
theorem Zc4{A:Around}{s:Shared}{x:V}{v:Value}(cr:c2 x v)(kF:lx x=true):∀{xs:List V}{us:List Value},cZ xs us→xs.all lx=true→∀u∈us,SeqAt.EqAt A s u v (eqU x u)
 |_,_,.nil,_=>λu hu=>by cases hu
 |y::xs,u::us,.cons r t,f=>λmf hu=>by
  rw[qci,qa2] at f;rcases qaf.mp hu with rfl|hu
  ·rw[yY r f.1];exact ZmP r cr f.1 kF
  ·exact Zc4 cr kF t f.2 mf hu
noncomputable def inV (x:V) (xs:List V):Bool:=xs.any λy=>eqV y x
noncomputable def rIn (K:Frag) (neg:Bool):R2:=λx y H Q=>∃p xs,y= .ref p∧(SqL K H p xs∨SqT K H p xs)∧lx x=true∧xs.all lx=true∧Q (.bl (if neg then !inV x xs else inV x xs)) H
theorem EX:OpR X (compareOp .In) (rIn X.K false):=by
 intro ah s ae H x y v u Q I cr cJ h;obtain⟨p,xs,rfl,cG,kF,fs,q⟩:=h;cases cJ;rcases cG with cG|cG
 ·obtain⟨its,r,pl,hz⟩:=I.list cG;refine SeqAt.in_listAt (eqU x) pl.isList (λw hw=>Zc4 cr kF r fs w (by simpa using hw)) ⟨.bl _,H,I,rfl,?_⟩;rw[show its.toArray.any (eqU x)=its.any (eqU x) by simp,uk r fs];exact q
 ·obtain⟨its,r,pl,hz⟩:=I.tuple cG;refine SeqAt.in_tupleAt (eqU x) pl (λw hw=>Zc4 cr kF r fs w (by simpa using hw)) ⟨.bl _,H,I,rfl,?_⟩;rw[show its.toArray.any (eqU x)=its.any (eqU x) by simp,uk r fs];exact q
theorem EY:YC X (.type "list") (λxs H Q=>∃p ys,xs=[.ref p]∧(SqL X.K H p ys∨SqT X.K H p ys)∧∀l,H l=none→Q (.ref l) (upd H l (.lst ys))):=by
 intro ah s ae H xs us Q I r h;obtain⟨p,ys,rfl,cG,q⟩:=h;obtain⟨u,rfl,cr⟩:=Wz r;cases cr;have eN:∀(its:List Value),cZ ys its→ys.length≤sizeLine→∀(h':Heap)(dO:Nat),(∀b cM,s.heap.get? b=some cM→h'.get? b=some cM)→
   h'.get? s.heap.objs.size=some {cls:= .type "list",dict:=none,data:= .seq its.toArray dO,slots:=#[]}→EP X ah ae Q (.ref s.heap.objs.size) {s with heap:=h'}:=λits dt hz h' dO kp e=>
  ⟨.ref s.heap.objs.size,_,I.laid (t':=s.toks) kp (FM _) (show ZY X.prog X.w _ h' _ (.lst ys) from⟨hz,its,dO,dt,e⟩),rfl,q _ (I.hok.fresh (FM _))⟩
 rcases cG with cG|cG
 ·obtain⟨its,dt,pl,hz⟩:=I.list cG;have ed:=dt.length;obtain⟨o,bc,ax,n,hd⟩:=pl.isList;exact call_list_seq p (.inl rfl) bc ax hd (λh' dO kp e=>eN its dt hz h' dO kp e) (by simp only[qae]<;>omega)
 ·obtain⟨its,dt,pl,hz⟩:=I.tuple cG;have ed:=dt.length;obtain⟨o,bc,ax,n,hd⟩:=pl;exact call_list_seq p (.inr rfl) bc ax hd (λh' dO kp e=>eN its dt hz h' dO kp e) (by simp only[qae]<;>omega)
def tyV(K:Frag)(T:String)(x:V)(H:Hp):Prop:=match x with
 | .str _=>T="str"
 | .int _=>T="int"
 | .ref p=>(T="list" ∧∃xs,SqL K H p xs)∨(T="tuple" ∧∃o,K.lookup p=some o∧o.cls= .type "tuple" ∧o.dict=none)∨
   (T="dict" ∧((∃kvs,H p=some (.dK kvs))∨∃kvs,H p=some (.dT kvs)))∨(T="set" ∧∃S n,H p=some (.set S n))
 |_=>False
theorem ZjI{ah:List (Addr×Obj)}{ae:St}{H:Hp}{s:Shared}{T:String}{x:V}{v:Value}(I:Inv X ah ae H s)(r:c2 x v)(ty:tyV X.K T x H):
  s.TypeIs v T∧∀a,v= .ref a→∃dx,s.heap.get? a=some dx∧dx.dict=none:=by
 cases x with
 |str z=>
  obtain⟨t,rfl⟩:=r;cases (show T="str" from ty);exact⟨typeIs_str s z t,λ_ e=>nomatch e⟩
 |int i=>
  obtain⟨t,rfl⟩:=r;cases (show T="int" from ty);exact⟨typeIs_int s i t,λ_ e=>nomatch e⟩
 |ref p=>
  cases r;rcases ty with⟨rfl,xs,cG⟩|⟨rfl,o,aR,ax,hd⟩|⟨rfl,aR⟩|⟨rfl,S,n,aR⟩
  ·obtain⟨its,_,pl,_⟩:=I.list cG;refine⟨pl.isList.typeIs,λa e=>?_⟩;cases e;obtain⟨o,n,e,c,hd,_⟩:=pl;exact⟨o,e,hd⟩
  ·refine⟨⟨o,I.kIn p o aR,ax⟩,λa e=>?_⟩;cases e;exact⟨o,I.kIn _ o aR,hd⟩
  ·have z:∃o,s.heap.get? p=some o∧o.ExactDict:=by
    rcases aR with⟨kvs,aR⟩|⟨kvs,aR⟩
    ·obtain⟨_,_,_,_,o,_,_,e,ex,_⟩:=I.hok p _ aR;exact⟨o,e,ex⟩
    ·obtain⟨_,_,_,_,o,_,_,e,ex,_⟩:=I.hok p _ aR;exact⟨o,e,ex⟩
   obtain⟨o,e,ex⟩:=z;refine⟨⟨o,e,ex.1⟩,λa a7=>?_⟩;cases a7;exact⟨o,e,ex.2.1⟩
  ·obtain⟨o,_,_,_,e,ex,_⟩:=I.hok p _ aR;refine⟨⟨o,e,ex.1⟩,λa a7=>?_⟩;cases a7;exact⟨o,e,ex.2.1⟩
 |_=>exact False.elim ty
noncomputable def ul (K:Frag) (T:String) (r:V→List V→Hp→VK→Prop) (to:TE):TE:=λae H Q=>to ae H λx aj=>tyV K T x aj∧r x [] aj Q
noncomputable def tBM (K:Frag) (T:String) (r:V→List V→Hp→VK→Prop) (to:TE) (t:TA):TE:=λae H Q=>to ae H λx aj=>tyV K T x aj∧t ae aj λxs ay=>r x xs ay Q
variable {o e:Expr}{aN:List Expr}{to:TE}{t:TA}{name:Str}{eI e2:Pos}{T id:String}{r:V→List V→Hp→VK→Prop}
theorem ZnH(ni:PlainAttrs T)(slot:Slot T name id)(hG:typeOf (.builtin id)=pure (.type "method_descriptor"))(a6:MtR X id r)(bc:PE X o to)
  (j8:attributeBase o name X.env (eval o X.env)=eval o X.env:=by rfl) (j9:(eI.endLine==e2.line)=true:=by rfl):PE X (.Call (.Attribute o name eI) [] [] e2) (ul X.K T r to):=by
 intro ah s ae H Q I h;refine wpAny_Call_method0_late j8 j9 (thn (bc ah s ae H _ I h) λv az ⟨x,aj,bD,cH,ty,cA⟩=>?_);obtain⟨ai,aw⟩:=ZjI bD cH ty;exact⟨T,id,ni,slot,hG,ai,aw,Calls.callWith_builtin rfl (PySem.evalArgs_none (a6 ah az ae aj x [] v [] Q bD cH .nil cA))⟩
theorem Zoc(ni:PlainAttrs T)(slot:Slot T name id)(hG:typeOf (.builtin id)=pure (.type "method_descriptor"))(a6:MtR X id r)(bc:PE X o to)(aZ:PA X (e::aN) t)
  (j8:attributeBase o name X.env (eval o X.env)=eval o X.env:=by rfl)
  (um:((backTo e2 (starEach (e::aN) X.env)).all (λx=>!x.1)&&(backToKw e2 (keywordEach [] X.env)).all (λx=>x.1.isSome)
   &&decide ((e::aN).length+([]:List Keyword).length+(if([]:List Keyword).isEmpty then 0 else 1)<30))=true:=by rfl)
  (j9:(eI.endLine==e2.line)=true:=by rfl) (hs:starEach (e::aN) X.env=(false,eval e X.env)::starEach aN X.env:=by rfl) (nj:(backTo e2 (starEach aN X.env)).any (·.1)=false:=by rfl):
  PE X (.Call (.Attribute o name eI) (e::aN) [] e2) (tBM X.K T r to t):=by
 intro ah s ae H Q I h;refine wpAny_Call_method_late j8 um j9 rfl (thn (bc ah s ae H _ I h) λv az ⟨x,aj,bD,cH,ty,cA⟩=>?_);obtain⟨ai,aw⟩:=ZjI bD cH ty;refine⟨T,id,ni,slot,hG,ai,aw,?_⟩;have iH:=aZ e2 ah az ae aj _ bD cA;rw[hs] at iH⊢;refine Calls.callWith_builtin (by show(false||(backTo e2 (starEach aN X.env)).any (·.1))=false;rw[nj]<;>rfl) (Calls.evalArgs_plain ?_);exact thn iH λus b' ⟨vs,ay,c',cX,cT⟩=>a6 ah b' ae ay x vs v us Q c' cH cX cT
end
def MtM(X:Cx)(id:String)(r:V→List V→Hp→VK→Prop):Prop:=
 ∀(ah:List (Addr×Obj))(s:Shared)(ae:St)(H:Hp)(x:V)(xs:List V)(v:Value)(us:List Value)(Q:VK),Inv X ah ae H s→c2 x v→cZ xs us→r x xs H Q→
  wpAny (model X.prog X.w) X.A (call (.builtin id) (v::us)) (EP X ah ae Q) X.xe s
theorem cZ.one:∀{x:V}{us:List Value},cZ [x] us→∃u,us=[u]∧c2 x u
 |_,_,.cons r .nil=>⟨_,rfl,r⟩
theorem cZ.two:∀{x y:V}{us:List Value},cZ [x,y] us→∃u v,us=[u,v]∧c2 x u∧c2 y v
 |_,_,_,.cons r (.cons q .nil)=>⟨_,_,rfl,r,q⟩
theorem cZ.zero:∀{us:List Value},cZ [] us→us=[]
 |_,.nil=>rfl
theorem cZ.dropLast{xs:List V}{us:List Value}(h:cZ xs us):cZ xs.dropLast us.dropLast:=by
 induction h with
 |nil=>exact .nil
 |cons r t cO=>
  cases t with
  |nil=>exact .nil
  |cons q t'=>exact .cons r cO
theorem cZ.reverse{xs:List V}{us:List Value}(h:cZ xs us):cZ xs.reverse us.reverse:=by
 induction h with
 |nil=>exact .nil
 |cons r t cO=>rw[qbM,qbM];exact cZ.append cO (.cons r .nil)
theorem cZ.rep{xs:List V}{us:List Value}(h:cZ xs us):∀k:Nat,cZ (List.replicate k xs).flatten (List.replicate k us).flatten
 |0=> .nil
 |k+1=>by
  rw[qbt,qbt,qbU,qbU];exact cZ.append h (cZ.rep h k)
theorem EZ{db:Type}(l:List db):l.eraseIdx (l.length-1)=l.dropLast:=by
 induction l with
 |nil=>rfl
 |cons a r cO=>
  cases r with
  |nil=>rfl
  |cons b r=>
   have e:(a::b::r).length-1=((b::r).length-1)+1:=by
    have ai:(a::b::r).length=r.length+2:=rfl;have aw:(b::r).length=r.length+1:=rfl;omega
   rw[e,List.eraseIdx_cons_succ,cO]
   all_goals rfl
theorem Zfc(its:List Value):∀(k:Nat)(dj:List Value),
  List.foldl (λx1 x2=>x1++x2) dj.toArray (List.replicate k its.toArray)=(dj++(List.replicate k its).flatten).toArray
 |0,dj=>by simp
 |k+1,dj=>by
  have e:dj.toArray++its.toArray=(dj++its).toArray:=by simp
  have a7:(dj++its)++(List.replicate k its).flatten=dj++(List.replicate (k+1) its).flatten:=by
   rw[qbt,qbU,qcb]
  rw[←a7,←Zfc its k (dj++its),←e,qbt,List.foldl_cons]
section
variable {X:Cx}{ah:List (Addr×Obj)}{ae:St}{H:Hp}{s:Shared}{l b:Addr}{xs ys zs:List V}
theorem Inv.lset{its its':List Value}{n:Nat}{f:Array Value→Array Value}{t':Nat}(I:Inv X ah ae H s)(gw:H l=some (.lst xs))
  (e:s.heap.get? l=some {cls:= .type "list",data:= .seq its.toArray n}) (bB:f its.toArray=its'.toArray) (cn:cZ ys its') (hz:ys.length≤sizeLine):
  Inv X ah ae (upd H l (.lst ys)) {s with heap:=s.heap.update l (Obj.mapSeq f),toks:=t'}:=by
 have q:=PySem.IsL.update e f;rw[bB] at q;refine I.write (x:=l) (e:=l) (by rw[gw];exact trivial) (.inl rfl) (λly u ag hu=>(Heap.get?_update_other s.heap (Obj.mapSeq f) (qbJ ag)).trans hu) ⟨_,q⟩ ?_;exact⟨hz,its',_,cn,q⟩
theorem Inv.lnew{its:List Value}{t':Nat}(I:Inv X ah ae H s)(cn:cZ ys its)(hz:ys.length≤sizeLine):
  Inv X ah ae (upd H s.heap.objs.size (.lst ys)) {s with heap:=s.heap.push {cls:= .type "list",data:= .seq its.toArray},toks:=t'}:=
 I.laid (λ_ _ q=>Heap.get?_push_of_some _ q) (FM _) ⟨hz,its,0,cn,Heap.get?_push_size _ rfl⟩
theorem Inv.fresh(I:Inv X ah ae H s):H s.heap.objs.size=none:=I.hok.fresh (FM _)
theorem Inv.lstM(I:Inv X ah ae H s)(gw:H l=some (.lst xs)):xs.length≤sizeLine∧∃(its:List Value)(n:Nat),cZ xs its∧xs.length=its.length∧s.heap.get? l=some {cls:= .type "list",data:= .seq its.toArray n}:=by
 obtain⟨z,its,n,r,e⟩:=I.hok l _ gw;exact⟨z,its,n,r,r.length,e⟩
theorem Zgs{n:Nat}(h:n≤sizeLine):Builtin.List.listTooLong n=false:=by
 unfold Builtin.List.listTooLong;exact decide_eq_false (by omega)
end
section
variable {X:Cx}
noncomputable def rAppend:V→List V→Hp→VK→Prop:=λx vs H Q=>∃l xs y,x= .ref l∧vs=[y]∧H l=some (.lst xs)∧xs.length<sizeLine∧Q .non (upd H l (.lst (xs++ [y])))
theorem ju:MtM X "list.append" rAppend:=by
 intro ah s ae H x vs v us Q I cr dk h;obtain⟨l,xs,y,rfl,rfl,gw,hz,q⟩:=h;cases cr;obtain⟨u,rfl,eu⟩:=dk.one;obtain⟨z,its,n,r,af,e⟩:=I.lstM gw;refine call_meets F.slot_list_append ⟨_,e,rfl⟩ F.entry_list_append (F.args_list_append_2 _ _) (PySem.list_append l its.toArray n u (by rw[qae];omega)) ⟨e,?_⟩;refine⟨.non,_,I.lset (its':=its++ [u]) gw e (by simp) (r.append (.cons eu .nil)) ?_,rfl,q⟩;rw[qac,qaO];omega
noncomputable def rExtend:V→List V→Hp→VK→Prop:=λx vs H Q=>∃l b xs zs,x= .ref l∧vs=[.ref b]∧H l=some (.lst xs)∧H b=some (.lst zs)∧xs.length+zs.length≤sizeLine∧Q .non (upd H l (.lst (xs++zs)))
theorem Q2:MtM X "list.extend" rExtend:=by
 intro ah s ae H x vs v us Q I cr dk h;obtain⟨l,b,xs,zs,rfl,rfl,gw,gc,hz,q⟩:=h;cases cr;obtain⟨u,rfl,eu⟩:=dk.one;cases eu;obtain⟨z,its,n,r,af,e⟩:=I.lstM gw;obtain⟨e0,jG,ft,cX,hH,a7⟩:=I.lstM gc;have hsz:its.toArray.size+jG.toArray.size≤sizeLine:=by rw[qae,qae];omega
 have uo:¬(!its.toArray.isEmpty&&Builtin.List.listTooLong (its.toArray.size+jG.toArray.size))=true:=by
  rw[Zgs hsz,Bool.and_false];exact qag
 refine call_meets F.slot_list_extend ⟨_,e,rfl⟩ F.entry_list_extend (F.args_list_extend_2 _ _)
  (AutoSeq1.list_extend_list_list_0 l its.toArray n b jG.toArray ft uo (by rw[qae];omega) (by omega)) ⟨e,a7,?_⟩
 refine⟨.non,_,I.lset (its':=its++jG) gw e (by simp) (r.append cX) ?_,rfl,q⟩;rw[qac];omega
noncomputable def rPop:V→List V→Hp→VK→Prop:=λx vs H Q=>∃l xs y,x= .ref l∧vs=[]∧H l=some (.lst xs)∧xs[xs.length-1]? =some y∧Q y (upd H l (.lst xs.dropLast))
theorem Q3:MtM X "list.pop" rPop:=by
 intro ah s ae H x vs v us Q I cr dk h;obtain⟨l,xs,y,rfl,rfl,gw,a',q⟩:=h;cases cr;have up:=dk.zero;subst up;obtain⟨z,its,n,r,af,e⟩:=I.lstM gw;obtain⟨u,hu,eu⟩:=r.get a';have uq:its.toArray[its.toArray.size-1]? =some u:=by
  show its.toArray[its.length-1]? =some u;rw[←qbw,←af];exact hu
 refine call_meets F.slot_list_pop ⟨_,e,rfl⟩ F.entry_list_pop (F.args_list_pop_1 _) (MeetsSeq.list_pop_last l its.toArray n u uq (by rw[qae];omega)) ⟨e,?_⟩;refine⟨y,_,I.lset (its':=its.dropLast) gw e ?_ r.dropLast ?_,eu,q⟩
 ·show its.toArray.eraseIdxIfInBounds (its.toArray.size-1)=its.dropLast.toArray;rw[qae,List.eraseIdxIfInBounds_toArray,EZ]
 ·rw[List.length_dropLast];omega
noncomputable def rReverse:V→List V→Hp→VK→Prop:=λx vs H Q=>∃l xs,x= .ref l∧vs=[]∧H l=some (.lst xs)∧Q .non (upd H l (.lst xs.reverse))
theorem E1:MtM X "list.reverse" rReverse:=by
 intro ah s ae H x vs v us Q I cr dk h;obtain⟨l,xs,rfl,rfl,gw,q⟩:=h;cases cr;have up:=dk.zero;subst up;obtain⟨z,its,n,r,af,e⟩:=I.lstM gw;refine call_meets F.slot_list_reverse ⟨_,e,rfl⟩ F.entry_list_reverse (F.args_list_reverse_1 _) (AutoSeq1.list_reverse_list_0 l its.toArray n (by rw[qae];omega)) ⟨e,?_⟩;refine⟨.non,_,I.lset (its':=its.reverse) gw e (by simp) r.reverse ?_,rfl,q⟩;rw[List.length_reverse];omega
noncomputable def rCat:R2:=λx y H Q=>∃l b xs zs,x= .ref l∧y= .ref b∧H l=some (.lst xs)∧H b=some (.lst zs)∧xs.length+zs.length≤sizeLine∧∀p,H p=none→Q (.ref p) (upd H p (.lst (xs++zs)))
theorem E2:OpR X (binaryOp .Add) rCat:=by
 intro ah s ae H x y v u Q I cr cJ h;obtain⟨l,b,xs,zs,rfl,rfl,gw,gc,hz,q⟩:=h;cases cr;cases cJ;obtain⟨z,its,n,r,af,e⟩:=I.lstM gw;obtain⟨e0,jG,ft,cX,hH,a7⟩:=I.lstM gc;refine PySem.P.add_list e a7 ?_ (by rw[qae,qae];omega);have cL:its.toArray++jG.toArray=(its++jG).toArray:=by simp
 rw[cL];exact⟨.ref _,_,I.lnew (t':=s.toks) (r.append cX) (by rw[qac];omega),rfl,q _ I.fresh⟩
noncomputable def rRep:R2:=λx y H Q=>∃l k xs,x= .ref l∧y= .int k∧H l=some (.lst xs)∧ -(2 ^ 63)≤k∧k<2 ^ 63∧xs.length*k.toNat≤sizeLine∧
 ∀p,H p=none→Q (.ref p) (upd H p (.lst (List.replicate k.toNat xs).flatten))
theorem ZmN{db:Type}(xs:List db)(k:Nat):(List.replicate k xs).flatten.length=k*xs.length:=by
 induction k with
 |zero=>simp
 |succ k cO=>rw[qbt,qbU,qac,cO,Nat.succ_mul,Nat.add_comm]
theorem E3:OpR X (binaryOp .Mult) rRep:=by
 intro ah s ae H x y v u Q I cr cJ h;obtain⟨l,k,xs,rfl,rfl,gw,ai,aw,hz,q⟩:=h;cases cr;obtain⟨t,rfl⟩:=cJ;obtain⟨z,its,n,r,af,e⟩:=I.lstM gw;have ed:its.toArray.size*k.toNat≤sizeLine:=by rw[qae,←af];exact hz
 have E4:¬its.toArray.size*k.toNat > (2 ^ 63-1) / 8:=by
  have:(sizeLine:Nat)≤(2 ^ 63-1) / 8:=by decide
  omega
 have ur:¬(!Builtin.List.listFitsIndex k)=true:=by
  rw[fitsIndex_both ai aw];exact qag
 have uo:¬Builtin.List.listTooLong (its.toArray.size*k.toNat)=true:=by
  rw[Zgs ed];exact qag
 have oj:List.foldl (λx1 x2=>x1++x2) #[] (List.replicate (if its.toArray.isEmpty=true then 0 else k.toNat) its.toArray)=(List.replicate k.toNat its).flatten.toArray:=by
  have dE:∀m:Nat,List.foldl (λx1 x2=>x1++x2) #[] (List.replicate m its.toArray)=(List.replicate m its).flatten.toArray:=λm=>by
   have:=Zfc its m [];rw[List.nil_append] at this;exact this
  rw[dE];cases its with
  |nil=>simp
  |cons a dt=>rw[if_neg (by simp)]
 refine wpAny_binaryOp_repeat_ref (T:="list") (U:="int") (by decide) ⟨_,e,rfl⟩ (λs'=>typeIs_int s' k t) noFill_list_mul F.fills_int_mul F.slot_int_rmul repeat_list F.slot_int_index.lookup
  (call_meets F.slot_int_rmul (typeIs_int s k t) F.entry_int_rmul (F.args_int_rmul_2 _ _) (int___rmul___int_list k t l its.toArray n)
   ⟨e,rfl,⟨_,e,rfl⟩,call_meets F.slot_list_mul ⟨_,e,rfl⟩ F.entry_list_mul (F.args_list_mul_2 _ _) (AutoListH.list___mul___list_int_3 l its.toArray n k t ur E4 uo) ⟨e,?_⟩⟩)
 rw[oj];exact⟨.ref _,_,I.lnew (t':=s.toks) (r.rep k.toNat) (by rw[ZmN,qbo];exact hz),rfl,q _ I.fresh⟩
end
section
variable {prog:Program}{w:World}{A:Around}{E:Value→Shared→Prop}{s:Shared}
end
section
variable {X:Cx}
end
end L2
namespace Att
open PySem PySem.W PySem.Calls PyProof.Rows
theorem E5{P:Params}{h:Heap}:∀(ns:List Int)(vs:List Value),WellAll P h vs (ns.map WData.int)→IntsAre vs ns:=by
 intro ns
 induction ns with
 |nil=>
  intro vs w;rw[List.map_nil] at w;cases w;exact .nil
 |cons n ns cO=>
  intro vs w;rw[List.map_cons] at w;cases w with
  |cons a b=>
   cases a;exact .cons _ _ (cO _ b)
theorem Zku{l:OpenLaw}{n:Nat}(bA:l.most=some n){P:Params}{h:Heap}{args:List WData}{ut:List Value}
  (rJ:l.row.toRowW.claim.pre args=true) (kG:WellAll P h ut args):
  ∃a vs ns,ut=[Value.ref a]∧args=[WData.list (ns.map WData.int)]∧h.get? a=some {cls:= .type "list",data:= .seq vs.toArray}∧IntsAre vs ns∧ns.length≤n:=by
 have j_:WShape.hasAll [] args [.list .int]=true:=(pre_splitW rJ).1;have ax:l.pre.holds [] {args:=args}=true:=(pre_splitW rJ).2;obtain⟨d,r,rfl,ai,aw⟩:=hasAllW_cons j_;obtain rfl:=hasAllW_nil aw;obtain⟨xs,rfl,cC⟩:=hasW_list ai;obtain⟨ns,rfl⟩:=items_int cC;have ed:ns.length≤n:=by
  unfold OpenLaw.pre at ax;have c3:(WTm.not (.lt (.lit (.int (n:Int))) (.len (.arg 0)))).holds [] {args:=[.list (ns.map .int)]}=true:=by
   have c3:=(holds_andW ax).1;rw[bA] at c3;exact c3
  have eE:=condW_of c3 (w_not (w_lt w_lit (w_len_list (w_arg rfl))));rw[GE] at eE;refine Nat.le_of_not_lt λq=>?_;have hc:(n:Int)<((ns.length:Nat):Int):=by omega
  first
   |(rw[decide_eq_true hc] at eE;exact absurd eE (by decide))
   |(simp at eE;omega)
 cases kG with
 |cons f_ hZ=>
  cases hZ;cases f_ with
  |list bc il=>exact⟨_,_,ns,rfl,rfl,bc,E5 ns _ il,ed⟩
theorem E6(l:OpenLaw)(args:List WData):l.row.toRowW.claim.post args (.bool true) args=true:=
 postW_of (r:=l.row.toRowW) (X:=(true==true))
  (show WShape.has [] (.bool true) .bool=true by first|rfl|decide|simp[WShape.has,WShape.arms,WShape.armsAll])
  (show(WTm.eq .res (.lit (.bool true))).value [] {args:=args,res:=some (.bool true),after:=args}=some (.bool (true==true)) from w_eq_bool (w_res rfl) w_lit) rfl
theorem Zg7{l:OpenLaw}{n:Nat}{q:Program}{ol:List Str}{om:(Str→Option Value)→Heap→Prop}{mv:World→Heap→Prop}{d:DefRec}
  (bA:l.most=some n) (kH:d.params.defaults=[])
  (call:∀(w:World)(s₀ dU:Shared)(mg jm:Str→Option Value)(iI:Addr)(o:Obj)(eD cd fP:Value)(a:Addr)(vs:List Value)(ns:List Int),
   Ground q ol [] om w s₀ mg jm dU.heap→mv w dU.heap→
   dU.heap.get? iI=some o→o.data= .func (docDef d.name d.params d.body d.scope eD cd fP)→dU.heap.CodeRec cd d.name→mg d.name=some (.ref iI)→
   dU.heap.get? a=some {cls:= .type "list",data:= .seq vs.toArray}→IntsAre vs ns→ns.length≤n→dU.gens=#[]→
   codeAny (model l.prog w) callerA (.call (.ref iI) ⟨[.ref a],[]⟩) (λr s'=>r= .ok (.ret (.bool true))∧OldK dU.heap s'.heap∧s'.os=dU.os∧AllBare s'.gens) dU):
  WalkO q ol om mv l.row.toRowW d [] (λf vs=>PySem.call f vs):=by
 intro w s₀ dU mg jm G Y iI o eD cd fP rA kV bc hd jn rK on aM args ut as rJ hlay mw kG hlo;obtain rfl:rA= .none:=Dflts.none rK kH;obtain rfl:kV= .none:=Dflts.noKw rK;obtain⟨a,vs,ns,rfl,rfl,uu,uv,ed⟩:=Zku bA rJ kG;refine enter_call (codeAny_mono (call w s₀ dU mg jm iI o eD cd fP a vs ns G Y bc (fd_plain hd) jn on uu uv ed aM) λr s' cG=>?_);obtain⟨rfl,aw,cC,c3⟩:=cG;exact⟨.inl ⟨.bool true,.bool true,[],rfl,λ_=>rfl,.bool true,E6 l _,λ_=>⟨List.Pairwise.nil,λ_ a6=>(nomatch a6)⟩⟩,aw,cC,c3⟩
section
variable {prog:Program}{w:World}{A:Around}{E:Value→Shared→Prop}{s:Shared}{K:Frag}
end
end Att
namespace L2
open PySem PySem.Spec PyProof.Rows
theorem uw:∀{vs:List Value}{ns:List Int},IntsAre vs ns→cZ (ns.map V.int) vs
 |_,_,.nil=> .nil
 |_,_,.cons n t h=> .cons ⟨t,rfl⟩ (uw h)
def ux(H:Hp):Prop:=∀b,H b=none∨∃o xs,H b=some (.frz o (.lst xs))
theorem Zlx{P:Program}{w:World}{K:Frag}{mg jm:Str→Option Value}{CX:CXT}{k:Nat}{iI a:Addr}{fd:FuncData}{x:Str}{sp:Sp}{dU:Shared}{vs:List Value}{ns:List Int}
  (eV:K.In dU.heap) (oo:dU.heap.Ns mainGlobals mg) (ag:dU.heap.Ns builtinsNs jm) (E7:∀x:Str,x≠"__name__" →jm x=bootBuiltins x) (E8:dU.heap.NoLimit) (aM:dU.gens=#[])
  (aZ:dU.heap.get? a=some {cls:= .type "list",data:= .seq vs.toArray}) (hi:IntsAre vs ns) (af:ns.length≤sizeLine) (av:eP k callerA)
  (F:∀base:Heap,K.In base→base.Ns mainGlobals mg→YN P w K mg base CX k iI fd [x] sp) (E9:∀(s:Shared)(u:Value),BindsTo s fd ⟨[u],[]⟩ [(x,u)])
  (jF:∀H:Hp,ux H→SqL K H a (ns.map V.int)→sp [.ref a] H (λv _=>v= .bl true) λ_ _ _=>False)
  (uy:∀H e s',CX [] H dU (λ_ _ _=>False) e s'→False):
  codeAny (model P w) callerA (.call (.ref iI) ⟨[.ref a],[]⟩) (λr s'=>r= .ok (.ret (.bool true))∧OldK dU.heap s'.heap∧s'.os=dU.os∧AllBare s'.gens) dU:=by
 have dk:=uw hi;have E_:=hi.length;have yZ:∀H:Hp,ux H→SqL K H a (ns.map V.int)→HOk P w H dU.heap→(∀b,H b≠none→b=a)→(H a≠none→K.lookup a=none)→
   codeAny (model P w) callerA (.call (.ref iI) ⟨[.ref a],[]⟩) (λr s'=>r= .ok (.ret (.bool true))∧OldK dU.heap s'.heap∧s'.os=dU.os∧AllBare s'.gens) dU:=by
  intro H hO er hok iH eH;have y0:∀{b:Addr}{o:Obj},dU.heap.get? b=some o→H b=none→(li dU.heap H).get? b=some o:=λe n=>Zlb e n;have pF:∀{b:Addr}{o:Obj}{aN:Array DictEntry}{ep:Nat},dU.heap.get? b=some o→o.data= .dict aN ep→H b=none:=λ{b o aN ep} e d=>by
   cases q:H b with
   |none=>rfl
   |some u=>
    have cx:b=a:=iH b (by rw[q];simp);subst cx;rw[aZ] at e;cases e;have d':Data.seq vs.toArray _=Data.dict aN ep:=d;cases d'
  have rL:∀{b:Addr}{m:Str→Option Value},dU.heap.Ns b m→(li dU.heap H).Ns b m:=λ{b m} ⟨o,aN,ep,e,d,r⟩=>⟨o,aN,ep,y0 e (pF e d),d,r⟩;have y1:K.In (li dU.heap H):=λb o e=>y0 (eV b o e) (by
   cases q:H b with
   |none=>rfl
   |some u=>
    have cx:b=a:=iH b (by rw[q];simp);subst cx;rw[eH (by rw[q];simp)] at e;cases e)
  have nk:Mod K mg (li dU.heap H):=⟨y1,rL oo,⟨jm,rL ag,E7⟩,let⟨Fa,ai,aw⟩:=E8;⟨Fa,rL ai,aw⟩⟩;have fh:Zc6 P w K mg (li dU.heap H) callerA [] dU H:=⟨rfl,nk,λb o e=>ZmC e,Nat.le_of_eq (Ee _ _),trivial,λb ag=>absurd (show b∈([]:List Addr) from ag) (by simp),hok,.of_eq aM⟩;refine codeAny_mono ((F _ y1 (rL oo)).run callerA [] dU H ⟨[.ref a],[]⟩ [.ref a] [.ref a] _ _ av fh (E9 dU (.ref a)) (.cons rfl .nil) (jF H hO er)) λr s' h=>?_;cases r with
  |error e=>exact(uy H e s' h).elim
  |ok fF=>
   cases fF with
   |next=>exact False.elim h
   |brk=>exact False.elim h
   |cont=>exact False.elim h
   |ret u=>
    obtain⟨v,H',os,bare,un,Fb,dt,q⟩:=h;have hc:v= .bl true:=q;subst hc;obtain rfl:u=Value.bool true:=dt;refine⟨rfl,OldK.of_keep λb o e=>?_,os,bare⟩;cases q:H b with
    |none=>exact un.keep b o e q (by intro z;exact absurd (show b∈([]:List Addr) from z) (by simp)) (by simp)
    |some u=>
     rcases hO b with z|⟨dx,xs,z⟩
     ·rw[q] at z;cases z
     ·have e0:=un.frzs b dx _ z;obtain⟨aW,_⟩:=hok b _ z;obtain⟨a7,_⟩:=Fb b _ e0;rw[e] at aW;cases aW;exact a7
 cases aR:K.lookup a with
 |some o=>
  have e:=eV a o aR;rw[aZ] at e;cases e;refine yZ (λ_=>none) (λ_=> .inl rfl) (.inr ⟨_,vs.toArray,_,aR,rfl,rfl,rfl,by rw[qae,E_];exact af,by simpa using dk⟩) (λb u z=>by have fl:(none:Option HO)=some u:=z;cases fl) (λb z=>absurd rfl z) λz=>absurd rfl z
 |none=>
  refine yZ (λb=>if b=a then some (.frz {cls:= .type "list",data:= .seq vs.toArray} (.lst (ns.map V.int))) else none) (λb=>?_) (.inl (.inr ⟨{cls:= .type "list",data:= .seq vs.toArray},if_pos rfl⟩)) (λb u z=>?_) (λb z=>?_) λ_=>aR
  ·by_cases ag:b=a
   ·exact .inr ⟨_,_,if_pos ag⟩
   ·exact .inl (if_neg ag)
  ·by_cases ag:b=a
   ·have fl:=(if_pos ag).symm.trans z;cases fl;subst ag;exact⟨aZ,by rw[GE];exact af,vs,_,dk,aZ⟩
   ·have fl:=(if_neg ag).symm.trans z;cases fl
  ·by_cases ag:b=a
   ·exact ag
   ·exact absurd (if_neg ag) z
theorem Zmd{l:PySem.W.OpenLaw}{n k:Nat}{q:Program}{ol:List Str}{om:(Str→Option Value)→Heap→Prop}{mv:World→Heap→Prop}{d:DefRec}{K:Params→Frag}{CX:World→CXT}{sp:World→Sp}{x:Str}
  (bA:l.most=some n) (ms:n≤sizeLine) (kH:d.params.defaults=[]) (av:eP k callerA)
  (uz:∀(w:World)(h:Heap),mv w h→(K w.params).In h)
  (F:∀(w:World)(mg:Str→Option Value)(iI:Addr)(h:Heap),(K w.params).In h→h.Ns mainGlobals mg→mg d.name=some (.ref iI)→
   ∃fd:FuncData,(∀(s:Shared)(u:Value),BindsTo s fd ⟨[u],[]⟩ [(x,u)])∧
    ∀base:Heap,(K w.params).In base→base.Ns mainGlobals mg→YN l.prog w (K w.params) mg base (CX w) k iI fd [x] (sp w))
  (jF:∀(w:World)(H:Hp)(a:Addr)(ns:List Int),ns.length≤n→ux H→SqL (K w.params) H a (ns.map V.int)→sp w [.ref a] H (λv _=>v= .bl true) λ_ _ _=>False)
  (uy:∀(w:World)(H:Hp)(s:Shared)(e:Value)(s':Shared),CX w [] H s (λ_ _ _=>False) e s'→False):
  PySem.W.WalkO q ol om mv l.row.toRowW d [] (λf vs=>PySem.call f vs):=by
 refine Att.Zg7 bA kH λw s₀ dU mg jm iI o eD cd fP a vs ns G Y bc hd jn on uu uv ed aM=>?_;have eV:=uz w _ Y;obtain⟨fd,ag,j'⟩:=F w mg iI _ eV G.T.g on;exact Zlx eV G.T.g G.T.b G.T.builtins G.T.nolimit aM uu uv (qaz ed ms) av j' ag (λH hO er=>jF w H a ns ed hO er) λH e s'=>uy w H dU e s'
noncomputable def YK (s:Stmt) (j:Nat):Stmt:=match s with
 | .ClassDef _ _ _ body _ _ _ _ _ _ _=>body.getD j (.Pass ⟨0,0,0,0⟩)
 |_=> .Pass ⟨0,0,0,0⟩
noncomputable def ka (s:Stmt):Arguments:=match s with
 | .FunctionDef _ a _ _ _ _ _ _ _ _=>a
 |_=>{posonlyargs:=[],args:=[],vararg:=none,kwonlyargs:=[],kw_defaults:=[],kwarg:=none,defaults:=[]}
noncomputable def jv (s:Stmt):List Stmt:=match s with
 | .FunctionDef _ _ b _ _ _ _ _ _ _=>b
 |_=>[]
noncomputable def cR (s:Stmt):Scope:=match s with
 | .FunctionDef _ _ _ _ _ _ cE _ _ _=>cE
 |_=>{kind:= .function,names:=[],isGenerator:=false,isCoroutine:=false}
noncomputable abbrev E0:XK:=λ_ _ _=>False
structure Fun(K:Frag)(x qual:Str)(st:Stmt)(f:Addr)(fd:FuncData):Prop where
 ex:∃(fX:Value)(et:Option Addr)(kV fP eD:Value)(an:Option Addr)(cS ct:Value)(hn:Array (Option Value)),
  fd=fnOf x qual (ka st) (jv st) (cR st) .none kV fP eD an cS ct∧K.lookup f=some ⟨fX,et,.func fd,hn⟩∧codeIn K cS qual=true
 kp:keepIn K (.ref f)=true
section
variable {P:Program}{w:World}{K:Frag}{mg:Str→Option Value}{base:Heap}
theorem Fun.binds{x qual:Str}{st:Stmt}{f:Addr}{fd:FuncData}{ps:List Str}(F:Fun K x qual st f fd)
  (h:∀(kV fP eD:Value)(an:Option Addr)(cS ct:Value)(us:List Value),us.length=ps.length→bindArgs (fnOf x qual (ka st) (jv st) (cR st) .none kV fP eD an cS ct) ⟨us,[]⟩=pure (ps.zip us)):Wh K fd ps []:=by
 obtain⟨fX,et,kV,fP,eD,an,cS,ct,hn,rfl,lk,jn⟩:=F.ex;exact .all (h kV fP eD an cS ct)
theorem oq{x qual:Str}{st:Stmt}{f:Addr}{fX:Value}{et an:Option Addr}{hn:Array (Option Value)}{kV fP eD cS ct:Value}(l:K.lookup f=some ⟨fX,et,.func (fnOf x qual (ka st) (jv st) (cR st) .none kV fP eD an cS ct),hn⟩)
  (c:codeIn K cS qual=true) (k:keepIn K (.ref f)=true):Fun K x qual st f (fnOf x qual (ka st) (jv st) (cR st) .none kV fP eD an cS ct):=⟨⟨fX,et,kV,fP,eD,an,cS,ct,hn,rfl,l,c⟩,k⟩
end
theorem dR{n:Nat}(h:n≤1000):n<sizeLine:=qav h (by decide)
section
variable {X:Cx}
theorem pv(i:Nat){x:Str}{pos:Pos}(d_:X.N[i]? =some x:=by rfl)(cn:Vis X.env.scope x:=by first|exact Or.inl rfl|exact Or.inr (Or.inl rfl)|exact Or.inr (Or.inr rfl))(hd:(x==("__debug__" :Str))=false:=by decide)
  (jn:(x==("__classdict__" :Str))=false:=by decide):PE X (.Name x pos) (Zh0 i):=ZnI d_ cn hd jn
end
theorem Zey{A B:Prop}(h:B):if false=true then A else B:=by
 rw[if_neg qag];exact h
theorem Zex{A B:Prop}(h:A):if true=true then A else B:=by
 rw[if_pos rfl];exact h
theorem Vi{c A B:Prop}[Decidable c](ai:c→A)(aw:¬c→B):if c then A else B:=by
 by_cases h:c
 ·rw[if_pos h];exact ai h
 ·rw[if_neg h];exact aw h
def Zf(H H':Hp):Prop:=∀b o,H b=some o→H' b=some o
theorem Zf.refl(H:Hp):Zf H H:=λ_ _ h=>h
theorem Zf.trans{H aj ay:Hp}(a:Zf H aj)(b:Zf aj ay):Zf H ay:=λc o h=>b c o (a c o h)
theorem Zf.seq{K:Frag}{H H':Hp}{a:Addr}{xs:List V}(e:Zf H H')(h:SqL K H a xs):SqL K H' a xs:=by
 rcases h with(h|⟨o,h⟩)|h
 ·exact .inl (.inl (e _ _ h))
 ·exact .inl (.inr ⟨o,e _ _ h⟩)
 ·exact .inr h
section
variable {dY:Type}[DecidableEq dY]
noncomputable def valV (kvs:List (dY×V)) (k:dY):Option V:=(kvs.find? λkv=>decide (kv.1=k)).map (·.2)
noncomputable def eF (kvs:List (dY×V)) (k:dY) (v:V):List (dY×V):=
 if(kvs.any λkv=>decide (kv.1=k))=true then kvs.map (λkv=>if kv.1=k then(kv.1,v) else kv) else kvs++ [(k,v)]
theorem Zc9{k:dY}:valV ([]:List (dY×V)) k=none:=rfl
theorem iZ{p:dY×V}{r:List (dY×V)}{k:dY}(e:p.1=k):valV (p::r) k=some p.2:=by simp[valV,qbL,e]
theorem i1{p:dY×V}{r:List (dY×V)}{k:dY}(e:¬p.1=k):valV (p::r) k=valV r k:=by simp[valV,qbL,e]
theorem WV(k:dY):∀kvs:List (dY×V),(kvs.any λkv=>decide (kv.1=k))=(valV kvs k).isSome
 | []=>rfl
 |p::r=>by
  rw[qcj]
  by_cases e:p.1=k
  ·simp only[iZ e,decide_eq_true e,Bool.true_or,Option.isSome_some]
  ·rw[i1 e,decide_eq_false e,Bool.false_or];exact WV k r
theorem y2(k j:dY)(y:V):∀kvs:List (dY×V),valV (kvs.map λkv=>if kv.1=k then(kv.1,y) else kv) j=(valV kvs j).map λx=>if j=k then y else x
 | []=>rfl
 |p::r=>by
  have cO:=y2 k j y r;rw[List.map_cons]
  by_cases h:p.1=k
  ·rw[if_pos h]
   by_cases e:p.1=j
   ·rw[iZ (p:=(p.1,y)) e,iZ e,Option.map_some,if_pos (e.symm.trans h)]
   ·rw[i1 (p:=(p.1,y)) e,i1 e,cO]
  ·rw[if_neg h]
   by_cases e:p.1=j
   ·rw[iZ (p:=p) e,iZ e,Option.map_some,if_neg (λz=>h (e.trans z))]
   ·rw[i1 (p:=p) e,i1 e,cO]
theorem ZeF(k j:dY)(y:V):∀kvs:List (dY×V),valV kvs k=none→valV (kvs++ [(k,y)]) j=if j=k then some y else valV kvs j
 | [],_=>by
  by_cases e:k=j
  ·rw[if_pos e.symm];exact iZ (p:=(k,y)) e
  ·rw[if_neg (λz=>e z.symm)];exact i1 (p:=(k,y)) e
 |p::r,bA=>by
  rw[List.cons_append];have aR:¬p.1=k:=λz=>by rw[iZ z] at bA;cases bA
  rw[i1 aR] at bA;have cO:=ZeF k j y r bA
  by_cases e:p.1=j
  ·rw[iZ e,iZ e,if_neg (λz=>aR (e.trans z))]
  ·rw[i1 e,i1 e,cO]
theorem ot(kvs:List (dY×V))(k j:dY)(y:V):valV (eF kvs k y) j=if j=k then some y else valV kvs j:=by
 unfold eF
 by_cases a:(kvs.any λkv=>decide (kv.1=k))=true
 ·rw[if_pos a,y2];rw[WV] at a
  by_cases e:j=k
  ·obtain⟨x,ao⟩:=qbN.mp a;rw[if_pos e,e,ao,Option.map_some,if_pos rfl]
  ·rw[if_neg e];cases valV kvs j with
   |none=>rfl
   |some x=>rw[Option.map_some,if_neg e]
 ·rw[if_neg a];refine ZeF k j y kvs ?_;rw[WV] at a;cases q:valV kvs k with
  |none=>rfl
  |some x=>rw[q] at a;exact(a rfl).elim
theorem Uc(kvs:List (dY×V))(k:dY)(v:V):(eF kvs k v).length≤kvs.length+1:=by
 unfold eF
 split
 ·rw[GE];omega
 ·rw[qac,List.length_cons,List.length_nil];omega
theorem Vs{kvs:List (dY×V)}{k:dY}(v:V)(h:valV kvs k=none):eF kvs k v=kvs++ [(k,v)]:=by
 unfold eF;rw[WV,h];exact if_neg (by decide)
theorem hY.isSome_eq{o:Option V}{u:Option Value}(r:hY o u):o.isSome=u.isSome:=by
 cases o with
 |none=>cases u with
  |none=>rfl
  |some _=>exact(show False from r).elim
 |some _=>cases u with
  |none=>exact(show False from r).elim
  |some _=>rfl
theorem KV.val{kvs:List (dY×V)}{vs:List (dY×Value)}(r:KV kvs vs)(k:dY):hY (valV kvs k) (valueAt vs k):=by
 unfold KV at r
 induction r with
 |nil=>exact True.intro
 | @cons p q ps en h t cO=>
  obtain⟨ai,aw⟩:=h
  by_cases e:p.1=k
  ·have cx:q.1=k:=ai.symm.trans e;have b:valueAt (q::en) k=some q.2:=by simp[valueAt,qbL,cx]
   rw[iZ e,b];exact aw
  ·have cx:¬q.1=k:=λz=>e (ai.trans z);have b:valueAt (q::en) k=valueAt en k:=by simp[valueAt,qbL,cx]
   rw[i1 e,b];exact cO
theorem KV.any{kvs:List (dY×V)}{vs:List (dY×Value)}(r:KV kvs vs)(k:dY):(kvs.any λkv=>decide (kv.1=k))=vs.any λkv=>decide (kv.1=k):=by
 unfold KV at r
 induction r with
 |nil=>rfl
 |cons h t cO=>rw[qcj,qcj,cO,h.1]
theorem KV.repl{kvs:List (dY×V)}{vs:List (dY×Value)}(r:KV kvs vs)(k:dY){y:V}{u:Value}(cJ:c2 y u):
  KV (kvs.map λkv=>if kv.1=k then(kv.1,y) else kv) (vs.map λkv=>if kv.1=k then(kv.1,u) else kv):=by
 unfold KV at r⊢
 induction r with
 |nil=>exact .nil
 | @cons p q ps en h t cO=>
  rw[List.map_cons,List.map_cons];refine .cons ?_ cO;obtain⟨ai,aw⟩:=h
  by_cases e:p.1=k
  ·rw[if_pos e,if_pos (ai.symm.trans e)];exact⟨ai,cJ⟩
  ·rw[if_neg e,if_neg (λz=>e (ai.trans z))];exact⟨ai,aw⟩
theorem KV.put{kvs:List (dY×V)}{vs:List (dY×Value)}(r:KV kvs vs)(k:dY){y:V}{u:Value}(cJ:c2 y u):KV (eF kvs k y) (stored vs k u):=by
 unfold eF stored;rw[r.any k]
 by_cases e:(vs.any λkv=>decide (kv.1=k))=true
 ·rw[if_pos e,if_pos e];exact r.repl k cJ
 ·rw[if_neg e,if_neg e];exact Paired.snoc r ⟨rfl,cJ⟩
theorem KV.length{kvs:List (dY×V)}{vs:List (dY×Value)}(r:KV kvs vs):kvs.length=vs.length:=Paired.length r
end
theorem nl{P:Program}{w:World}{k:Key}{u:Value}(r:c2 (kV k) u):(e_ P w).is k u=true:=by
 cases k with
 |inl i=>obtain⟨t,e⟩:=(show ∃t,u=Value.int i t from r);subst e;exact Zhp P w i t
 |inr x=>obtain⟨t,e⟩:=(show ∃t,u=Value.str x t from r);subst e;exact ZgY P w x t
theorem Fc{a b:Key}(e:kV a=kV b):a=b:=by
 cases a with
 |inl i=>cases b with
  |inl j=>have cx:V.int i=V.int j:=e;injection cx with cx;rw[cx]
  |inr y=>exact nomatch (show V.int i=V.str y from e)
 |inr x=>cases b with
  |inl j=>exact nomatch (show V.str x=V.int j from e)
  |inr y=>have cx:V.str x=V.str y:=e;injection cx with cx;rw[cx]
theorem y3{P:Program}{w:World}:∀{c5:List Key}{us:List Value},cZ (c5.map kV) us→ItemsAre (e_ P w) c5 us
 | [],_,r=>by rw[List.map_nil] at r;cases r;exact .nil
 |k::c5,_,r=>by
  rw[List.map_cons] at r;cases r with
  |cons h t=>exact .cons (nl h) (y3 t)
noncomputable abbrev KT (H:Hp):List (List Key×V)→List (List Key×Addr×Value)→Prop:=Paired λp q=>p.1=q.1∧H q.2.1=some (.tup (p.1.map kV))∧c2 p.2 q.2.2
theorem KT.val{H:Hp}{kvs:List (List Key×V)}{xs:List (List Key×Addr×Value)}(r:KT H kvs xs)(k:List Key):hY (valV kvs k) ((atKey xs k).map (·.2)):=by
 induction r with
 |nil=>exact True.intro
 | @cons p q ps en h t cO=>
  obtain⟨ai,_,aw⟩:=h
  by_cases e:p.1=k
  ·have cx:q.1=k:=ai.symm.trans e;have b:atKey (q::en) k=some q.2:=by simp[atKey,qbL,cx]
   rw[iZ e,b];exact aw
  ·have cx:¬q.1=k:=λz=>e (ai.trans z);have b:atKey (q::en) k=atKey en k:=by simp[atKey,qbL,cx]
   rw[i1 e,b];exact cO
theorem KT.repl{H:Hp}{kvs:List (List Key×V)}{xs:List (List Key×Addr×Value)}(r:KT H kvs xs)(k:List Key){y:V}{u:Value}(cJ:c2 y u):
  KT H (kvs.map λkv=>if kv.1=k then(kv.1,y) else kv) (xs.map (putAt k u)):=by
 induction r with
 |nil=>exact .nil
 | @cons p q ps en h t cO=>
  rw[List.map_cons,List.map_cons];refine .cons ?_ cO;obtain⟨ai,aw,cC⟩:=h;unfold putAt
  by_cases e:p.1=k
  ·rw[if_pos e,if_pos (ai.symm.trans e)];exact⟨ai,aw,cJ⟩
  ·rw[if_neg e,if_neg (λz=>e (ai.trans z))];exact⟨ai,aw,cC⟩
theorem KT.put{H:Hp}{kvs:List (List Key×V)}{xs:List (List Key×Addr×Value)}(r:KT H kvs xs)(k:List Key){b:Addr}{y:V}{u:Value}(ag:H b=some (.tup (k.map kV)))(cJ:c2 y u):
  KT H (eF kvs k y) (storedH xs k b u):=by
 have e:(kvs.any λkv=>decide (kv.1=k))=(atKey xs k).isSome:=by
  rw[WV,(r.val k).isSome_eq,Option.isSome_map]
 unfold eF storedH;rw[e]
 by_cases q:(atKey xs k).isSome=true
 ·rw[if_pos q,if_pos q];exact r.repl k cJ
 ·rw[if_neg q,if_neg q];exact Paired.snoc r ⟨rfl,ag,cJ⟩
theorem KT.keeps{H H':Hp}{kvs:List (List Key×V)}{xs:List (List Key×Addr×Value)}(r:KT H kvs xs)(cu:∀b ys,H b=some (.tup ys)→H' b=some (.tup ys)):KT H' kvs xs:=
 Paired.mapP r λ_ _ z=>⟨z.1,cu _ _ z.2.1,z.2.2⟩
section
variable {P:Program}{w:World}{H:Hp}{h:Heap}{a:Addr}
theorem ZlF{u:HO}(ok:HOk P w H h)(e:Rd H a u):ZY P w H h a u:=e.ok ok
theorem Zaj{kvs:List (Key×V)}(ok:HOk P w H h)(e:Rd H a (.dK kvs)):kvs.length≤sizeLine∧(a==sysModules)=false∧∃vs,KV kvs vs∧h.DictOf (e_ P w) a vs:=
 show ZY P w H h a (.dK kvs) from ZlF ok e
theorem Zah{kvs:List (Key×V)}(ok:HOk P w H h)(e:H a=some (.dK kvs)):kvs.length≤sizeLine∧(a==sysModules)=false∧∃vs,KV kvs vs∧h.DictOf (e_ P w) a vs:=Zaj ok (.inl e)
theorem pJ{c5:List Key}(ok:HOk P w H h)(e:H a=some (.tup (c5.map kV))):(tupleKind (e_ P w)).is h c5 a:=by
 obtain⟨_,its,r,o,ai,aw,n,cC⟩:=(show ZY P w H h a (.tup (c5.map kV)) from ok a _ e);exact⟨o,its.toArray,n,ai,aw,cC,by simpa using y3 r⟩
theorem ZdM{kvs:List (List Key×V)}(ok:HOk P w H h)(e:Rd H a (.dT kvs)):kvs.length≤sizeLine∧(a==sysModules)=false∧
  ∃xs,KT H kvs xs∧h.DictOfH (tupleKind (e_ P w)) a xs:=by
 obtain⟨z,y,xs,r,o,aN,ep,ai,aw,cC,c3,eE⟩:=(show ZY P w H h a (.dT kvs) from ZlF ok e);refine⟨z,y,xs,r,o,aN,ep,ai,aw,cC,c3,λx ao=>?_,eE⟩;have all:∀{l:List (List Key×V)}{m:List (List Key×Addr×Value)},KT H l m→∀x∈m,(tupleKind (e_ P w)).is h x.1 x.2.1:=by
  intro l m q
  induction q with
  |nil=>intro x ao;exact nomatch ao
  | @cons p q ps en cG t cO=>
   intro x ao;rcases qaf.mp ao with e|ao
   ·subst e;exact pJ ok (by rw[←cG.1];exact cG.2.1)
   ·exact cO x ao
 exact all r x ao
theorem ZoD{kvs:List (List Key×V)}(ok:HOk P w H h)(e:H a=some (.dT kvs)):kvs.length≤sizeLine∧(a==sysModules)=false∧
  ∃xs,KT H kvs xs∧h.DictOfH (tupleKind (e_ P w)) a xs:=ZdM ok (.inl e)
end
def UB(H:Hp)(a:Addr)(y:V)(r:Option V):Prop:=
 (∃kvs k,Rd H a (.dK kvs)∧y=kV k∧r=valV kvs k)∨∃kvs k b,Rd H a (.dT kvs)∧y= .ref b∧H b=some (.tup (k.map kV))∧r=valV kvs k
def Zeg(H:Hp)(a:Addr)(y v:V)(H':Hp):Prop:=
 (∃kvs k,H a=some (.dK kvs)∧y=kV k∧kvs.length<sizeLine∧H'=upd H a (.dK (eF kvs k v)))∨
 ∃kvs k b,H a=some (.dT kvs)∧y= .ref b∧H b=some (.tup (k.map kV))∧kvs.length<sizeLine∧H'=upd H a (.dT (eF kvs k v))
theorem UB.k{H:Hp}{a:Addr}{kvs:List (Key×V)}{k:Key}(e:H a=some (.dK kvs)):UB H a (kV k) (valV kvs k):= .inl ⟨kvs,k,.inl e,rfl,rfl⟩
theorem Zeg.k{H:Hp}{a:Addr}{kvs:List (Key×V)}{k:Key}{v:V}(e:H a=some (.dK kvs))(af:kvs.length<sizeLine):Zeg H a (kV k) v (upd H a (.dK (eF kvs k v))):= .inl ⟨kvs,k,e,rfl,af,rfl⟩
section
variable {X:Cx}{ah:List (Addr×Obj)}{ae:St}{H:Hp}{s:Shared}{a:Addr}{y v:V}{u r:Value}{o:Option V}{A:Around}{E:Value→Shared→Prop}
theorem Inv.big(I:Inv X ah ae H s):sysModules<s.heap.objs.size:=by
 have h:mainGlobals<s.heap.objs.size:=(I.mod.glob.keeps I.bk).lt;exact Nat.lt_trans (by decide) h
theorem Fd{Q:Value→Shared→Prop}(hu:A.units+1<cLine)(I:Inv X ah ae H s)(g:UB H a y (some v))(cJ:c2 y u)(h:∀dC s',Inv X ah ae H s'→c2 v dC→Q dC s'):
  wpAny (model X.prog X.w) A (getItem (.ref a) u) Q E s:=by
 rcases g with⟨kvs,k,e,eM,l⟩|⟨kvs,k,b,e,eM,df,l⟩
 ·subst eM;obtain⟨z,hd,vs,rel,dd⟩:=Zaj I.hok e;obtain⟨dC,hw,jp⟩:=hY.some_of (v:=v) (o:=valueAt vs k) (by rw[l];exact rel.val k);exact wpAny_getItem_of (nl cJ) dd.mapOf hw (h dC _ (I.tok _) jp)
 ·subst eM;cases (show u=Value.ref b from cJ);obtain⟨z,hd,xs,rel,dd⟩:=ZdM I.hok e;obtain⟨dC,hw,jp⟩:=hY.some_of (v:=v) (o:=(atKey xs k).map (·.2)) (by rw[l];exact rel.val k);obtain⟨p,aS,jw⟩:=Option.map_eq_some_iff.mp hw;refine wpAny_getItem_heap (tupleKind_room_in1 hu) (pJ I.hok df) dd aS ?_;rw[jw];exact h dC _ (I.tok _) jp
theorem Zpd{Q:Value→Shared→Prop}(hu:A.units+1<cLine)(I:Inv X ah ae H s)(g:UB H a y o)(cJ:c2 y u)(h:∀s',Inv X ah ae H s'→Q (.bool o.isSome) s'):
  wpAny (model X.prog X.w) A (compareOp .In u (.ref a)) Q E s:=by
 rcases g with⟨kvs,k,e,eM,l⟩|⟨kvs,k,b,e,eM,df,l⟩
 ·subst eM;obtain⟨z,hd,vs,rel,dd⟩:=Zaj I.hok e;refine wpAny_in_of (nl cJ) hd dd.mapOf ?_;rw[←(rel.val k).isSome_eq,←l];exact h _ (I.tok _)
 ·subst eM;cases (show u=Value.ref b from cJ);obtain⟨z,hd,xs,rel,dd⟩:=ZdM I.hok e;refine wpAny_in_heap (tupleKind_room_in1 hu) (pJ I.hok df) hd dd ?_;have q:=(rel.val k).isSome_eq;rw[Option.isSome_map] at q;rw[←q,←l];exact h _ (I.tok _)
theorem ZmM{Q:Value→Shared→Prop}(hu:A.units+1<cLine)(I:Inv X ah ae H s)(g:UB H a y o)(cJ:c2 y u)(h:∀s',Inv X ah ae H s'→Q (.bool (!o.isSome)) s'):
  wpAny (model X.prog X.w) A (compareOp .NotIn u (.ref a)) Q E s:=by
 rcases g with⟨kvs,k,e,eM,l⟩|⟨kvs,k,b,e,eM,df,l⟩
 ·subst eM;obtain⟨z,hd,vs,rel,dd⟩:=Zaj I.hok e;refine wpAny_notIn_of (nl cJ) hd dd.mapOf ?_;rw[←(rel.val k).isSome_eq,←l];exact h _ (I.tok _)
 ·subst eM;cases (show u=Value.ref b from cJ);obtain⟨z,hd,xs,rel,dd⟩:=ZdM I.hok e;refine wpAny_notIn_heap (tupleKind_room_in1 hu) (pJ I.hok df) hd dd ?_;have q:=(rel.val k).isSome_eq;rw[Option.isSome_map] at q;rw[←q,←l];exact h _ (I.tok _)
theorem pK{h':Heap}{t':Nat}{dx:HO}(I:Inv X ah ae H s)(iX:Mut (H a))(hs:Heap.SameBut a s.heap h')(cp:∃q,h'.get? a=some q)(new:ZY X.prog X.w (upd H a dx) h' a dx):
  Inv X ah ae (upd H a dx) {s with heap:=h',toks:=t'}:=
 I.write (x:=a) (e:=a) iX (.inl rfl) (λb q ag z=>(hs.2 b ag).trans z) cp new
theorem rM{P:Program}{w:World}{H':Hp}{h':Heap}{kvs:List (Key×V)}{vs:List (Key×Value)}(z:kvs.length≤sizeLine)(hd:(a==sysModules)=false)(rel:KV kvs vs)(dd:h'.DictOf (e_ P w) a vs):
  ZY P w H' h' a (.dK kvs):=⟨z,hd,vs,rel,dd⟩
theorem ZjH{H':Hp}{Q:Unit→Shared→Prop}(hu:A.units+1<cLine)(I:Inv X ah ae H s)(g:Zeg H a y v H')(cJ:c2 y u)(dk:c2 v r)(h:∀s',Inv X ah ae H' s'→Q () s'):
  wpAny (model X.prog X.w) A (setItem (.ref a) u r) Q E s:=by
 rcases g with⟨kvs,k,e,eM,l,uA⟩|⟨kvs,k,b,e,eM,df,l,uA⟩
 ·subst eM uA;obtain⟨z,hd,vs,rel,dd⟩:=Zah I.hok e;have hz:vs.length≤sizeLine:=by rw[←rel.length];exact z
  have af:(eF kvs k v).length≤sizeLine:=by have:=Uc kvs k v;omega
  refine wpAny_setItem_pairs (hsz:=hz) (nl cJ) dd λh' dd' hs=>h _ ?_;have cp:∃q,h'.get? a=some q:=let⟨q,_,_,cG,_⟩:=dd';⟨q,cG⟩
  exact pK I (by rw[e];exact True.intro) hs cp (rM af hd (rel.put k dk) dd')
 ·subst eM uA;cases (show u=Value.ref b from cJ);obtain⟨z,hd,xs,rel,dd⟩:=ZoD I.hok e;have hz:xs.length≤sizeLine:=by rw[←Paired.length rel];exact z
  have af:(eF kvs k v).length≤sizeLine:=by have:=Uc kvs k v;omega
  refine wpAny_setItem_heap (hsz:=hz) (tupleKind_room_in1 hu) (pJ I.hok df) dd λh' dd' hs=>h _ ?_;obtain⟨q,aN,ep,cG,aw,cC,c3,_,eE⟩:=dd';refine pK I (by rw[e];exact True.intro) hs ⟨q,cG⟩ ⟨af,hd,_,(rel.put k df dk).keeps λc ys hp=>?_,q,aN,ep,cG,aw,cC,c3,eE⟩;rw[cq (ha hp e (λz=>nomatch z))];exact hp
end
section
variable {X:Cx}{ah:List (Addr×Obj)}{ae:St}{H:Hp}{s:Shared}{a:Addr}{kvs:List (Key×V)}{k:Key}{u:Value}{A:Around}{E:Value→Shared→Prop}
theorem Zn8{Q:Value→Shared→Prop}(I:Inv X ah ae H s)(e:Rd H a (.dK kvs))(h:∀t s',Inv X ah ae H s'→Q (.int kvs.length t) s'):wpAny (model X.prog X.w) A (call (.builtin "len") [.ref a]) Q E s:=by
 obtain⟨z,hd,vs,rel,dd⟩:=Zaj I.hok e;refine call_len_dict hd dd (by rw[←rel.length];rw[sizeLine_eq] at z;omega) ?_;rw[←rel.length];exact h _ _ (I.tok _)
end
theorem Fe{X:Cx}{ah:List (Addr×Obj)}{ae:St}{H:Hp}{s:Shared}{a:Addr}{y:V}{o:Option V}(I:Inv X ah ae H s)(g:UB H a y o):s.TypeIs (.ref a) "dict" :=by
 rcases g with⟨kvs,k,e,_,_⟩|⟨kvs,k,b,e,_,_,_⟩
 ·obtain⟨_,_,vs,_,dd⟩:=Zaj I.hok e;exact dd.typeIs
 ·obtain⟨_,_,xs,_,dd⟩:=ZdM I.hok e;exact dd.typeIs
section
variable {X:Cx}{o i e value:Expr}{pos jY lm:Pos}{h4 ty ik:TE}
end
theorem y4{P:Program}{w:World}{H:Hp}(h:Heap)(ag:sysModules<h.objs.size):ZY P w H (h.push {cls:= .type "dict",data:= .dict #[]}) h.objs.size (.dK []):=
 ⟨qaA _,beq_eq_false_iff_ne.mpr (qbJ (qak ag)),[],.nil,Heap.DictOf.new h⟩
noncomputable def tDNewK:TE:=λ_ H Q=>∀p,H p=none→Q (.ref p) (upd H p (.dK []))
section
variable {X:Cx}{pos:Pos}
theorem pL:PE X (.Dict [] [] pos) tDNewK:=λah s ae H Q I h=>
 wpAny_Dict_empty ⟨.ref s.heap.objs.size,_,I.laid (a:=s.heap.objs.size) (o:= .dK []) (t':=s.toks) (λ_ _ q=>Heap.get?_push_of_some _ q) (FM _) (y4 s.heap I.big),rfl,h _ (I.hok.fresh (FM _))⟩
end
noncomputable def rN:List (TE×TE)→St→Hp→(List (V×V)→Hp→Prop)→Prop
 | [],_,H,Q=>Q [] H
 |(a5,ik)::r,ae,H,Q=>a5 ae H λx aj=>ik ae aj λy ay=>rN r ae ay λps bF=>Q ((x,y)::ps) bF
noncomputable abbrev VV:List (V×V)→List (Value×Value)→Prop:=Paired λp q=>c2 p.1 q.1∧c2 p.2 q.2
def PPs(X:Cx)(pos:Pos)(keys:List (Option Expr))(pM:List Expr)(lz:List (TE×TE)):Prop:=
 ∀(ah:List (Addr×Obj))(s:Shared)(ae:St)(H:Hp)(Q:List (V×V)→Hp→Prop),Inv X ah ae H s→rN lz ae H Q→
  wpAny (model X.prog X.w) X.A (evalPairs (pairTrees keys pM X.env pos)) (λvs s'=>∃ps H',Inv X ah ae H' s'∧VV ps vs∧Q ps H') X.xe s
theorem ZmJ{X:Cx}{pos:Pos}:PPs X pos [] [] []:=λah s ae H Q I h=>pairTrees_nil_walk ⟨[],H,I,.nil,h⟩
theorem Ff{X:Cx}{pos:Pos}{k v:Expr}{c5:List (Option Expr)}{vs:List Expr}{a5 ik:TE}{lz:List (TE×TE)}(aR:PE X k a5)(cn:PE X v ik)(av:PPs X pos c5 vs lz):
  PPs X pos (some k::c5) (v::vs) ((a5,ik)::lz):=λah s ae H Q I h=>
 pairTrees_cons_walk (thn (aR ah s ae H _ I h) λu az ⟨x,aj,bD,cr,cA⟩=>thn (cn ah az ae aj _ bD cA) λhZ b' ⟨y,ay,c',cJ,cT⟩=>
  thn (av ah b' ae ay _ c' cT) λck bb ⟨ps,bF,dV,rel,fY⟩=>⟨(x,y)::ps,bF,dV,.cons ⟨cr,cJ⟩ rel,fY⟩)
noncomputable def gT (kvs more:List (Key×V)):List (Key×V):=more.foldl (λdj kv=>eF dj kv.1 kv.2) kvs
theorem KV.merge:∀{more:List (Key×V)}{rs:List (Key×Value)}{kvs:List (Key×V)}{vs:List (Key×Value)},KV more rs→KV kvs vs→KV (gT kvs more) (merged vs rs):=by
 intro more rs kvs vs r;unfold KV at r
 induction r generalizing kvs vs with
 |nil=>intro q;exact q
 | @cons p q ps en h t cO=>
  intro pN;have e:KV (eF kvs p.1 p.2) (stored vs q.1 q.2):=by
   have:=pN.put p.1 h.2;rw[←h.1];exact this
  exact cO e
theorem rO:∀(more kvs:List (Key×V)),(gT kvs more).length≤kvs.length+more.length
 | [],kvs=>by show kvs.length≤kvs.length+0;omega
 |p::r,kvs=>by
  have ai:=rO r (eF kvs p.1 p.2);have aw:=Uc kvs p.1 p.2;show(gT (eF kvs p.1 p.2) r).length≤_;rw[List.length_cons];omega
theorem ZdS{P:Program}{w:World}:∀{kvs:List (Key×V)}{ck:List (Value×Value)},VV (kvs.map λkv=>(kV kv.1,kv.2)) ck→∃rs,Carries (e_ P w) ck rs∧KV kvs rs
 | [],_,r=>by rw[List.map_nil] at r;cases r;exact⟨[],True.intro,.nil⟩
 |p::kvs,_,r=>by
  rw[List.map_cons] at r;cases r with
  | @cons a b as bs h t=>
   obtain⟨rs,c,q⟩:=ZdS (P:=P) (w:=w) t;obtain⟨b1,b2⟩:=b;exact⟨(p.1,b2)::rs,⟨nl h.1,rfl,c⟩,.cons ⟨rfl,h.2⟩ q⟩
noncomputable def Fg (lz:List (TE×TE)):TE:=λae H Q=>∀p,H p=none→rN lz ae (upd H p (.dK [])) λps ay=>ay p=some (.dK [])∧∃kvs:List (Key×V),ps=kvs.map (λkv=>(kV kv.1,kv.2))∧kvs.length≤15∧Q (.ref p) (upd ay p (.dK (gT [] kvs)))
theorem Fh{X:Cx}{pos:Pos}{keys:List (Option Expr)}{pM:List Expr}{lz:List (TE×TE)}(h:PPs X pos keys pM lz)(il:keys.all (·.isSome)=true)(af:keys.length=pM.length)(c8:keys≠[])
  (Fi:keys.length≤15):PE X (.Dict keys pM pos) (Fg lz):=by
 intro ah s ae H Q I q;have bA:=I.hok.fresh (FM s.heap.objs.size);have bD:=I.laid (a:=s.heap.objs.size) (o:= .dK []) (h':=s.heap.push {cls:= .type "dict",data:= .dict #[]}) (t':=s.toks) (λ_ _ q=>Heap.get?_push_of_some _ q) (FM _) (y4 s.heap I.big);refine wpAny_Dict_walk (knd:=e_ X.prog X.w) il af c8 Fi (thn (h ah _ ae _ _ bD (q _ bA)) λck b' ⟨ps,ay,c',rel,e,kvs,ep,lk,cT⟩=>?_);subst ep;obtain⟨rs,c,Fj⟩:=ZdS (P:=X.prog) (w:=X.w) rel;obtain⟨z,hd,Q4,pN,dd⟩:=Zah c'.hok e;cases pN;refine⟨rs,c,dd,λh' dd' hs=>⟨.ref s.heap.objs.size,_,?_,rfl,cT⟩⟩;have hz:(gT [] kvs).length≤sizeLine:=by
  have ai:=rO kvs [];rw[List.length_nil] at ai;rw[sizeLine_eq];omega
 have cp:∃q,h'.get? s.heap.objs.size=some q:=let⟨q,_,_,cG,_⟩:=dd';⟨q,cG⟩
 exact pK c' (by rw[e];exact True.intro) hs cp (rM hz hd (Fj.merge .nil) dd')
section
variable {X:Cx}{ah:List (Addr×Obj)}{ae:St}{H:Hp}{s:Shared}{a:Addr}{y d:V}{u r:Value}{o:Option V}{A:Around}{E:Value→Shared→Prop}
end
section
variable {X:Cx}{o e f:Expr}{eI e2:Pos}{h4 ty Q5:TE}
end
section
variable {X:Cx}{ah:List (Addr×Obj)}{ae:St}{H:Hp}{s:Shared}{a:Addr}{kvs:List (Key×V)}{A:Around}{E:Value→Shared→Prop}
end
section
variable {X:Cx}{ah:List (Addr×Obj)}{ae:St}{H:Hp}{s:Shared}{a:Addr}{y:V}{u:Value}{A:Around}{E:Value→Shared→Prop}
end
section
variable {X:Cx}
theorem Fk:YC X (.builtin "len") (λxs H Q=>∃a kvs,xs=[V.ref a]∧H a=some (.dK kvs)∧Q (.int kvs.length) H):=by
 intro ah s ae H xs us Q I r h;obtain⟨a,kvs,rfl,aZ,q⟩:=h;obtain⟨u,rfl,eu⟩:=Wz r;cases eu;exact Zn8 I (.inl aZ) λt s' eC=>⟨.int kvs.length,H,eC,⟨t,rfl⟩,q⟩
end
section
variable {dY:Type}[DecidableEq dY]
end
namespace Rd
section
variable {ae:St}{H:Hp}{Q:VK}{D:Vh}{t u:TS}{a_ c4 cV:TE}{r:R2}
theorem var{i:Nat}{v:V}(h:ae[i]? =some (some v))(q:Q v H):Zh0 i ae H Q:=⟨v,h,q⟩
theorem con{v:V}(q:Q v H):tC v ae H Q:=q
theorem op(h:a_ ae H λx aj=>c4 ae aj λy ay=>r x y ay Q):tOp r a_ c4 ae H Q:=h
theorem un{r:V→Hp→VK→Prop}(h:a_ ae H λx aj=>r x aj Q):tUn r a_ ae H Q:=h
theorem i0{g:Int→Int→V}{i j:Int}(q:Q (g i j) H):rI0 g (.int i) (.int j) H Q:=⟨i,j,rfl,rfl,q⟩
theorem iC{C:Int→Int→Prop}{g:Int→Int→V}{i j:Int}(c:C i j)(q:Q (g i j) H):rI C g (.int i) (.int j) H Q:=⟨i,j,rfl,rfl,c,q⟩
theorem eqI{i j:Int}(q:Q (.bl (decide (i=j))) H):rEq (.int i) (.int j) H Q:=⟨rfl,by
 have e:decide (V.int i=V.int j)=decide (i=j):=by
  by_cases h:i=j
  ·rw[h];simp
  ·rw[decide_eq_false h,decide_eq_false (λz=>h (V.int.inj z))]
 rw[e];exact q⟩
theorem neI{i j:Int}(q:Q (.bl (!decide (i=j))) H):rNe (.int i) (.int j) H Q:=⟨rfl,by
 have e:decide (V.int i=V.int j)=decide (i=j):=by
  by_cases h:i=j
  ·rw[h];simp
  ·rw[decide_eq_false h,decide_eq_false (λz=>h (V.int.inj z))]
 rw[e];exact q⟩
theorem Zpb{Q:Bool→Hp→Prop}(h:cV ae H λx H'=>∃k,x= .bl k∧Q k H'):t9 cV ae H Q:=h
theorem bl{k:Bool}{Q:Bool→Prop}(q:Q k):∃gu,V.bl k= .bl gu∧Q gu:=⟨k,rfl,q⟩
theorem seq(h:t {D with nx:=u D} ae H):yu t u D ae H:=h
theorem asg{g:TG}(h:cV ae H λx aj=>g x ae aj D.nx):pw cV g D ae H:=h
theorem ifs{c:TT}(h:c ae H λb aj=>if b=true then t D ae aj else u D ae aj):yx c t u D ae H:=h
theorem ret(h:cV ae H D.rt):yw cV D ae H:=h
theorem next(h:D.nx ae H):tNext D ae H:=h
theorem drop(h:cV ae H λ_ aj=>D.nx ae aj):yv cV D ae H:=h
theorem nil{Q:List V→Hp→Prop}(h:Q [] H):tNil ae H Q:=h
theorem cons{aL:TA}{Q:List V→Hp→Prop}(h:a_ ae H λx aj=>aL ae aj λxs ay=>Q (x::xs) ay):yM a_ aL ae H Q:=h
theorem call{sp:Sp}{ef:List V}{E:XK}{fD:TA}(h:fD ae H λvs aj=>sp (vs++ef) aj Q E):uh sp ef E fD ae H Q:=h
theorem cb{r:List V→Hp→VK→Prop}{fD:TA}(h:fD ae H λvs aj=>r vs aj Q):tCB r fD ae H Q:=h
theorem tup{fD:TA}(h:fD ae H λxs aj=>xs.length≤sizeLine∧∀p,aj p=none→Q (.ref p) (upd aj p (.tup xs))):yN fD ae H Q:=h
theorem lst{fD:TA}(h:fD ae H λxs aj=>xs.length≤sizeLine∧∀p,aj p=none→Q (.ref p) (upd aj p (.lst xs))):uf fD ae H Q:=h
theorem Zpj{t u:TT}{Q:Bool→Hp→Prop}(h:t ae H λc aj=>if c=true then u ae aj Q else Q false aj):yp t u ae H Q:=h
theorem or_{t u:TT}{Q:Bool→Hp→Prop}(h:t ae H λc aj=>if c=true then Q true aj else u ae aj Q):tOr t u ae H Q:=h
theorem ZoS{t:TT}{Q:Bool→Hp→Prop}(h:t ae H λc aj=>Q (!c) aj):yq t ae H Q:=h
theorem Zpf(h:a_ ae H λx aj=>∃c,x= .bl c∧if c=true then c4 ae aj Q else Q (.bl false) aj):yr a_ c4 ae H Q:=h
theorem ZoI(h:a_ ae H λx aj=>∃c,x= .bl c∧Q (.bl (!c)) aj):yt a_ ae H Q:=h
theorem par{i j:Nat}{fD:TA}(h:fD ae H λvs aj=>∃v w,vs=[v,w]∧D.nx ((ae.set i (some v)).set j (some w)) aj):yA i j fD D ae H:=h
theorem two{v w:V}{Q:V→V→Prop}(h:Q v w):∃a b,[v,w]=[a,b]∧Q a b:=⟨v,w,rfl,h⟩
end
end Rd
section
variable {X:Cx}
theorem Fl:OpR X (binaryOp .Mult) (rI (λi j=>IntMulOk i j) λi j=> .int (i*j)):=opI λ_ _ _ _ _ _ _ ax q=>mul_int q ax
theorem f0:OpR X (binaryOp .FloorDiv) (rI (λ_ j=>0<j∧j.natAbs.log2<9000) λi j=> .int (i / j)):=opI λi j _ _ _ _ _ ax q=>by
 rw[←Int.fdiv_eq_ediv_of_nonneg i (Int.le_of_lt ax.1)] at q;exact floordiv_int (by have:=ax.1;omega) q (.inl (PyProof.noPylong_of_log2 ax.2))
theorem Fm:YC X (.builtin "isinstance") (λxs H Q=>∃x n t b,xs=[x,.ty n]∧Wq X.K H x t∧PySem.W.kitOne X.K t (.type n)=some b∧Q (.bl b) H):=by
 intro ah s ae H xs us Q I r h;obtain⟨x,n,t,b,rfl,ty,e,q⟩:=h;obtain⟨u,v,rfl,eu,dk⟩:=r.two;obtain rfl:v=Value.type n:=dk;exact Zj2 I eu ty e λa5=>⟨.bl b,H,I.tok a5,rfl,q⟩
theorem Uw{c:TT}{c4:TS}{D:Vh}{ae:St}{H:Hp}(W:Nat→St→Hp→Prop)(m:Nat)(c8:W m ae H)
  (hs:∀m ae H,W m ae H→c ae H λb aj=>if b=true then ∃N:St→Hp→Prop,(∀ci H',N ci H'→∃cQ,cQ<m∧W cQ ci H')∧c4 {D with nx:=N,ct:=N,bk:=D.nx} ae aj else D.nx ae aj):yF c c4 D ae H:=
 ⟨W,⟨m,c8⟩,hs⟩
theorem mx{W:Nat→St→Hp→Prop}{m:Nat}{c4:TS}{D:Vh}{ae:St}{aj:Hp}
  (h:c4 {D with nx:=λci H'=>∃cQ,cQ<m∧W cQ ci H',ct:=λci H'=>∃cQ,cQ<m∧W cQ ci H',bk:=D.nx} ae aj):
  ∃N:St→Hp→Prop,(∀ci H',N ci H'→∃cQ,cQ<m∧W cQ ci H')∧c4 {D with nx:=N,ct:=N,bk:=D.nx} ae aj:=⟨_,λ_ _ z=>z,h⟩
noncomputable def y5 (t:TS):TS:=λD ae H=>∃J:St→Hp→Prop,(∀ci H',J ci H'→D.nx ci H')∧t {D with nx:=J} ae H
theorem nn{st:Stmt}{t:TS}(h:PS X st t):PS X st (y5 t):=by
 intro ah s ae H D I cG;obtain⟨J,np,q⟩:=cG;refine thn (h ah s ae H _ I q) λf az cA=>?_;cases f with
 |next=>obtain⟨ci,H',eC,j⟩:=cA;exact⟨ci,H',eC,np _ _ j⟩
 |brk=>exact cA
 |cont=>exact cA
 |ret v=>exact cA
end
namespace Rd
theorem ZlU{A B:Prop}(h:B):if(!true)=true then A else B:=Zey h
theorem ZlZ{A B:Prop}(h:A):if(!false)=true then A else B:=Zex h
section
variable {ae:St}{H:Hp}{Q:VK}{D:Vh}{t u:TS}{a_ c4 cV:TE}
theorem cut(J:St→Hp→Prop)(np:∀ci H',J ci H'→D.nx ci H')(h:t {D with nx:=J} ae H):y5 t D ae H:=⟨J,np,h⟩
theorem Zpn{eW:TI}{g:TG}{c4:TS}(h:eW ae H λJ aj=>∃W:Nat→Nat→St→Hp→Prop,(∃m,W 0 m ae aj)∧∀i m ae H,W i m ae H→
  (J.stop i H∧D.nx ae H)∨(J.go i H∧∃N:St→Hp→Prop,(∀ci H',N ci H'→∃cQ,cQ<m∧W (i+1) cQ ci H')∧∀x H',J.yld i H x H'→g x ae H' λcY ay=>c4 {D with nx:=N,ct:=N,bk:=D.nx} cY ay)):yH eW g c4 D ae H:=h
theorem ZoX{fD:TA}{R:It→Hp→Prop}(h:fD ae H λvs aj=>∃j:Int,vs=[.int j]∧ -(2 ^ 62)≤j∧j<2 ^ 62∧R (Itr 0 j.toNat) aj):yG fD ae H R:=h
theorem Wd{K:Frag}{n:Nat}{fD:TGs}{a:Addr}{xs:List V}{Q:St→Hp→Prop}(hs:SqT K H a xs)(bA:xs.length=n)(h:fD xs ae H Q):tX K n fD (.ref a) ae H Q:=⟨a,xs,rfl,hs,bA,h⟩
theorem Zo8{Q:St→Hp→Prop}(h:Q ae H):gNil [] ae H Q:=⟨rfl,h⟩
theorem Zon{g:TG}{kI:TGs}{v:V}{r:List V}{Q:St→Hp→Prop}(h:g v ae H λci H'=>kI r ci H' Q):yy g kI (v::r) ae H Q:=⟨v,r,rfl,h⟩
end
end Rd
theorem cP{H:Hp}{p:Addr}{o:HO}(aS:H p=none):Zf H (upd H p o):=λc u e=>by rw[cq (dw e aS)];exact e
theorem Zf.new{H H':Hp}{q:Addr}{o:HO}(sm:Zf H H')(cG:H q=none):Zf H (upd H' q o):=λc u e=>by rw[cq (dw e cG)];exact sm c u e
namespace Rd
section
variable {ae:St}{H:Hp}{Q:VK}{D:Vh}{K:Frag}
theorem ixt{p:Addr}{xs:List V}{i:Int}{v:V}(h:SqT K H p xs)(e:atI xs i=some v)(q:Q v H):uj K (.ref p) (.int i) H Q:=⟨p,xs,i,v,rfl,rfl,h,e,q⟩
theorem ixl{p:Addr}{xs:List V}{i:Int}{v:V}(h:SqL K H p xs)(e:atI xs i=some v)(q:Q v H):Zet K (.ref p) (.int i) H Q:=⟨p,xs,i,v,rfl,rfl,h,e,q⟩
theorem bm{T:String}{r:V→List V→Hp→VK→Prop}{to:TE}{t:TA}(h:to ae H λx aj=>tyV K T x aj∧t ae aj λxs ay=>r x xs ay Q):tBM K T r to t ae H Q:=h
theorem bm0{T:String}{r:V→List V→Hp→VK→Prop}{to:TE}(h:to ae H λx aj=>tyV K T x aj∧r x [] aj Q):ul K T r to ae H Q:=h
theorem tyl{p:Addr}{xs:List V}{B:Prop}(h:H p=some (.lst xs))(q:B):tyV K "list" (.ref p) H∧B:=⟨.inl ⟨rfl,xs,.of h⟩,q⟩
theorem app{p:Addr}{xs:List V}{y:V}(h:H p=some (.lst xs))(af:xs.length<sizeLine)(q:Q .non (upd H p (.lst (xs++ [y])))):rAppend (.ref p) [y] H Q:=⟨p,xs,y,rfl,rfl,h,af,q⟩
end
end Rd
noncomputable def emb (ix:List Nat) (ae:St):St:=none::ix.map λj=>(ae[j]?).join
noncomputable def Zo (X:Cx) (cE:Scope) (cl:List (Str×Addr)) (C:Addr) (N:List Str) (s:Shared) (H:Hp) (fp:List Addr):Cx where
 prog:=X.prog
 w:=X.w
 K:=X.K
 mg:=X.mg
 base:=X.base
 A:=X.A
 N:=N
 s₀:=s
 H₀:=H
 env:=compEnvC cE cl C X.env
 outer:=X.stack
 stack:=X.stack
 ex:=fp
 fn:=λ_=>false
 calm:=X.calm
 pn:=[]
 xe:=λ_ _=>False
structure Y3(X:Cx)(cE:Scope)(x:Str)(zs:List Str)(ix:List Nat):Prop where
 kind:cE.kind= .function
 nocell:∀y∈cE.names,y.2≠ .cell
 names:∀y∈cE.names,y.2= .local→cE.names.lookup y.1=some .local
 free:∀y∈cE.names,y.2= .free→X.env.kindOf y.1=some .cell∨X.env.kindOf y.1=some .free
 zfree:∀z∈zs,cE.names.lookup z=some .free
 at_:ix.map (λj=>X.N[j]?)=zs.map some
theorem Ww{env:Env}{x:Str}:∀{names:List (Str×NameKind)}{k:NameKind},
  (names.map λ(n,k)=>if(k==NameKind.free&&env.scope.kind== .function&&env.kindOf n==some .cell) then(n,NameKind.cell) else(n,k)).lookup x=some k→
  ∃gu,names.lookup x=some gu∧(k=gu∨(gu= .free∧k= .cell))
 | [],_,h=>by simp at h
 |(n,j)::r,k,h=>by
  have h':List.lookup x ((if(j==NameKind.free&&env.scope.kind== .function&&env.kindOf n==some .cell)=true then(n,NameKind.cell) else(n,j))::(r.map λ(n,k)=>if(k==NameKind.free&&env.scope.kind== .function&&env.kindOf n==some .cell) then(n,NameKind.cell) else(n,k)))=some k:=h;cases ao:x==n with
  |true=>
   refine⟨j,by simp[qa3,ao],?_⟩
   by_cases ax:(j==NameKind.free&&env.scope.kind== .function&&env.kindOf n==some .cell)=true
   ·rw[if_pos ax] at h';simp only[qa3,ao] at h';cases h';simp only[qa2,beq_iff_eq] at ax;exact .inr ⟨ax.1.1,rfl⟩
   ·rw[if_neg ax] at h';simp only[qa3,ao] at h';cases h';exact .inl rfl
  |false=>
   have aw:List.lookup x (r.map λ(n,k)=>if(k==NameKind.free&&env.scope.kind== .function&&env.kindOf n==some .cell) then(n,NameKind.cell) else(n,k))=some k:=by
    by_cases ax:(j==NameKind.free&&env.scope.kind== .function&&env.kindOf n==some .cell)=true
    ·rw[if_pos ax] at h';simpa only[qa3,ao] using h'
    ·rw[if_neg ax] at h';simpa only[qa3,ao] using h'
   obtain⟨gu,e,q⟩:=Ww aw;exact⟨gu,by simp only[qa3,ao];exact e,q⟩
theorem my{x:Str}{k:NameKind}:∀{names:List (Str×NameKind)},names.lookup x=some k→(x,k)∈names:=λh=>qbG h
theorem ZaU(env:Env):∀(names:List (Str×NameKind))(dj:List (Str×Addr)),
  (∀y∈names,y.2= .free→∃c,env.cells.lookup y.1=some c)→(∀y c,dj.lookup y=some c→env.cells.lookup y=some c)→
  ∃cl:List (Str×Addr),(forIn names dj (λx (r:List (Str×Addr))=>if x.2==NameKind.free then(do let a←cellOf env x.1;pure (ForInStep.yield ((x.1,a)::r))) else pure (ForInStep.yield r)):Sem (List (Str×Addr)))=pure cl∧
   (∀y c,cl.lookup y=some c→env.cells.lookup y=some c)∧(∀y,(∃c,dj.lookup y=some c)∨(y,NameKind.free)∈names→∃c,cl.lookup y=some c)
 | [],dj,_,aZ=>⟨dj,rfl,aZ,λy h=>h.elim id λz=>absurd z (by simp)⟩
 |(n,k)::r,dj,bB,aZ=>by
  have av:∀y∈r,y.2= .free→∃c,env.cells.lookup y.1=some c:=λy a'=>bB y (qas _ a')
  by_cases aR:k= .free
  ·subst aR;obtain⟨c,ax⟩:=bB (n,.free) qaZ rfl;have e':∀y dO,((n,c)::dj).lookup y=some dO→env.cells.lookup y=some dO:=λy dO h=>by
    cases a':y==n with
    |true=>
     simp only[qa3,a'] at h;cases h;rw[beq_iff_eq.mp a'];exact ax
    |false=>
     simp only[qa3,a'] at h;exact aZ y dO h
   obtain⟨cl,e,ai,aw⟩:=ZaU env r ((n,c)::dj) av e';refine⟨cl,?_,ai,λy h=>aw y ?_⟩
   ·rw[List.forIn_cons];have:cellOf env n=pure c:=by unfold cellOf;rw[ax]
    simp only[beq_self_eq_true,if_true,this];exact e
   ·rcases h with⟨dO,h⟩|h
    ·cases a':y==n with
     |true=>exact .inl ⟨c,by simp only[qa3,a']⟩
     |false=>exact .inl ⟨dO,by simp only[qa3,a'];exact h⟩
    ·rcases qaf.mp h with h|h
     ·cases h;exact .inl ⟨c,by simp⟩
     ·exact .inr h
  ·obtain⟨cl,e,ai,aw⟩:=ZaU env r dj av aZ;refine⟨cl,?_,ai,λy h=>aw y ?_⟩
   ·rw[List.forIn_cons];have ag:(k==NameKind.free)=false:=by simpa using aR
    simp only[ag,qb4,if_false];exact e
   ·rcases h with h|h
    ·exact .inl h
    ·rcases qaf.mp h with h|h
     ·cases h;exact absurd rfl aR
     ·exact .inr h
def PIf(X:Cx)(ifs:List Expr)(t:TT):Prop:=
 ∀(ah:List (Addr×Obj))(s:Shared)(ae:St)(H:Hp)(Q:Bool→Hp→Prop),Inv X ah ae H s→t ae H Q→
  wpAny (model X.prog X.w) X.A (forIn ifs true λc r=>if r=true then do let ok←isTrue c X.env (eval c X.env);pure (ForInStep.yield ok) else pure (ForInStep.yield r)) (TP X ah ae Q) X.xe s
noncomputable def tAll:TT:=λ_ H Q=>Q true H
section
variable {X:Cx}
theorem gx:PIf X [] tAll:=λ_ _ _ H _ I h=>wpAny_pure ⟨H,I,h⟩
theorem rP{c:Expr}{t:TT}(ax:PT X c t):PIf X [c] t:=by
 intro ah s ae H Q I h;rw[List.forIn_cons];simp only[if_true];refine wpAny_bind (wpAny_bind (thn (ax ah s ae H _ I h) λb az q=>wpAny_pure ?_));exact wpAny_pure q
end
section
variable {prog:Program}{w:World}{A:Around}{R:Result→Shared→Prop}{s:Shared}
theorem ZbL{fQ target eO:Expr}{ifs:List Expr}{scope:Scope}{pos:Pos}{it dj:Value}{env:Env}(I:Nat→Shared→Prop)
  (turn:∀n s,I n s→wpAny (model prog w) A (pyNext it) (λr dU=>match r with
   |none=>R (.ok .next) dU
   |some v=>wpAny (model prog w) A (letOwnedTupleGo target it v) (λ_ s₀=>wpAny (model prog w) A (assign target env v) (λ_ kz=>
     wpAny (model prog w) A (forIn ifs true λc r=>if r=true then do let ok←isTrue c env (eval c env);pure (ForInStep.yield ok) else pure (ForInStep.yield r)) (λok jq=>
      if ok=true then wpAny (model prog w) A (eval fQ env) (λx ou=>
       wpAny (model prog w) A (call (.builtin "list.append") [dj,x]) (λ_ y6=>∃m,m<n∧I m y6) (λ_ _=>False) ou) (λ_ _=>False) jq
      else ∃m,m<n∧I m jq) (λ_ _=>False) kz) (λ_ _=>False) s₀) (λ_ _=>False) dU) (λ_ _=>False) s)
  (n:Nat) (h:I n s):
  codeAny (model prog w) A (.compLoop (.ListComp fQ [⟨target,eO,ifs,0⟩] scope pos) 0 it dj env) R s:=by
 refine codeAny_loop rfl I (λn s uB=>?_) n h;show wpAny _ A ((compTurn (.ListComp fQ [⟨target,eO,ifs,0⟩] scope pos) 0 it dj env).onRaise (λx=>do noteFrame x env;theTreesLotGoes x)) _ _ s;refine wpAny_noted ?_;rw[compTurn_list];refine wpAny_bind (wpAny_standAt (wpAny_bind (wpAny_mono (turn n s uB) (λr dU h₁=>?_) λ_ _ z=>z.elim)));cases r with
 |none=>exact wpAny_pure h₁
 |some v=>
  refine wpAny_bind (wpAny_mono h₁ (λ_ s₀ h₀=>?_) λ_ _ z=>z.elim);refine wpAny_bind (wpAny_mono h₀ (λ_ kz uC=>wpAny_bind (wpAny_mono uC (λok jq y7=>?_) λ_ _ z=>z.elim)) λ_ _ z=>z.elim);cases ok with
  |false=>exact wpAny_pure ⟨rfl,y7⟩
  |true=>
   exact wpAny_bind (wpAny_bind (wpAny_mono y7 (λx ou y8=>wpAny_bind (wpAny_mono y8 (λ_ y6 uD=>wpAny_pure (wpAny_pure ⟨rfl,uD⟩)) λ_ _ z=>z.elim)) λ_ _ z=>z.elim))
end
noncomputable def uE (ix:List Nat) (eW:TI) (g:TG) (dN:TT) (cV:TE):TE:=λae H Q=>eW ae H λJ aj=>∀p,aj p=none→
 ∃W:Nat→Nat→List V→St→Hp→Prop,(∃m,W 0 m [] (emb ix ae) (upd aj p (.lst [])))∧∀i m ys ci H',W i m ys ci H'→
  (J.stop i H'∧Q (.ref p) H')∨(J.go i H'∧∀x ay,J.yld i H' x ay→g x ci ay λcY bF=>dN cY bF λb bC=>
   if b=true then cV cY bC λv cj=>cj p=some (.lst ys)∧ys.length<sizeLine∧∃cQ,cQ<m∧W (i+1) cQ (ys++ [v]) cY (upd cj p (.lst (ys++ [v])))
   else ∃cQ,cQ<m∧W (i+1) cQ ys cY bC)
section
variable {X:Cx}
theorem Zib{ah:List (Addr×Obj)}{ae:St}{H:Hp}{s:Shared}{cE:Scope}{x:Str}{zs:List Str}{ix:List Nat}{cl:List (Str×Addr)}{fp:List Addr}{h₁:Heap}{a5:Nat}
  (S:Y3 X cE x zs ix) (I:Inv X ah ae H s) (fa:∀y c,cl.lookup y=some c→X.env.cells.lookup y=some c) (h5:∀y,(y,NameKind.free)∈cE.names→∃c,cl.lookup y=some c)
  (im:∀b∈fp,h1 X ah H b∧b<s.heap.objs.size) (oo:h₁.Ns s.heap.objs.size λ_=>none) (aR:∀b o,s.heap.get? b=some o→h₁.get? b=some o):
  Inv (Zo X cE cl s.heap.objs.size (x::zs) s H fp) [] (emb ix ae) H {s with heap:=h₁,toks:=a5}:=by
 have sub:∀b∈frs X.stack,b∈X.env.locals::X.fs:=I.stkSub;have uF:∀b∈fp,b∉frs X.stack:=λb ag z=>by
  obtain⟨⟨_,f1,f2,_⟩,_⟩:=im b ag;rcases qaf.mp (sub b z) with e|e
  ·exact f1 e
  ·exact f2 e
 have cut:∀y,(Zo X cE cl s.heap.objs.size (x::zs) s H fp).env.kindOf y=some .cell∨(Zo X cE cl s.heap.objs.size (x::zs) s H fp).env.kindOf y=some .free→∃c,cl.lookup y=some c:=λy a'=>by
  have q:∃k,(relabel cE X.env).names.lookup y=some k∧(k= .cell∨k= .free):=by
   rcases a' with a'|a'
   ·exact⟨_,a',.inl rfl⟩
   ·exact⟨_,a',.inr rfl⟩
  obtain⟨k,e,aR⟩:=q;obtain⟨gu,cx,q⟩:=Ww e;have:gu= .free:=by
   rcases q with q|⟨q,_⟩
   ·rcases aR with z|z
    ·exact absurd (q.symm.trans z) (S.nocell _ (my cx))
    ·exact q.symm.trans z
   ·exact q
  subst this;exact h5 y (my cx)
 refine⟨⟨I.ok.mod,S.kind,I.ok.glob,I.ok.blt,FM _,λy z c ai aw=>I.ok.inj y z c (fa _ _ ai) (fa _ _ aw),cut,λy c bB _=>?_,I.ok.hd,I.ok.frames,.inl rfl,λb ag=>?_,I.bs,qaz I.ok.bsz I.sz,λb o e ag=>?_,uF,I.stack,I.stkFree⟩,
  rfl,I.bare,Un.kept aR,⟨_,oo,λi y v ai aw cC=>?_⟩,λy c h=>?_,I.hok.fresh (FM _),λy c h=>I.freeC y c (fa y c h),λp aS=>absurd (show p∈([]:List (Addr×Obj)) from aS) (by simp),I.hok.kept aR,?_⟩
 ·exact absurd (show false=true from bB) (by decide)
 ·obtain⟨⟨dE,f1,f2,dI,eh,em⟩,af⟩:=im b ag;exact⟨qak af,λy c h=>eh y c (fa y c h)⟩
 ·obtain⟨⟨dE,f1,f2,dI,eh,em⟩,af⟩:=im b ag;rcases dI with z|z
  ·exact I.ok.noex b o e z
  ·exact absurd (qad (Heap.lt_size e) (qaz I.ok.bsz z)) (qbl _)
 ·
  cases i with
  |zero=>
   have:(none:Option (Option V))=some (some v)∨(some none:Option (Option V))=some (some v):= .inr aw;rcases this with z|z<;>cases z
  |succ i=>
   have kJ:zs[i]? =some y:=ai;have hq:(ix.map λj=>(ae[j]?).join)[i]? =some (some v):=aw;have aZ:(ix.map λj=>X.N[j]?)[i]? =some (some y):=by rw[S.at_,qaj,kJ];rfl
   rw[qaj] at hq aZ;cases e:ix[i]? with
   |none=>rw[e] at hq;cases hq
   |some j=>
    rw[e] at hq aZ;have e':X.N[j]? =some y:=qap aZ;have aJ:(ae[j]?).join=some v:=qap hq;have uG:ae[j]? =some (some v):=by
     cases q:ae[j]? with
     |none=>rw[q] at aJ;cases aJ
     |some o=>rw[q] at aJ;exact congrArg some aJ
    obtain⟨m,bA,af⟩:=I.loc;have hr:=S.zfree y (qal kJ);have ng:=S.free _ (my hr) rfl;have cn:Vis X.env.scope y:=by
     rcases ng with z|z
     ·exact .inr (.inl z)
     ·exact .inr (.inr z)
    obtain⟨u,r,q⟩:=af j y v e' uG cn;refine⟨u,r,?_⟩;rcases q with⟨uH,_⟩|⟨_,c,ax,mh⟩
    ·have pO:X.env.kindOf y=some .local:=uH;rcases ng with z|z<;>(rw[z] at pO;cases pO)
    ·obtain⟨dO,ll⟩:=h5 y (my hr);have hp:dO=c:=by have:=fa y dO ll;rw[ax] at this;exact(qap this).symm
     subst hp;refine .inr ⟨?_,dO,ll,?_⟩
     ·have uI:Vis (relabel cE X.env) y:=cC;rcases uI with z|z|z
      ·obtain⟨gu,cx,q⟩:=Ww z;rw[hr] at cx;cases cx;rcases q with q|⟨_,q⟩<;>cases q
      ·exact .inl z
      ·exact .inr z
     ·obtain⟨o,bc,hd⟩:=mh;exact⟨o,aR _ _ bc,hd⟩
 ·obtain⟨v,o,bc,hd⟩:=I.cell y c (fa y c h);exact⟨v,o,aR _ _ bc,hd⟩
 ·show(none::ix.map λj=>(ae[j]?).join).length=(x::zs).length;have:=congrArg List.length S.at_;simp only[GE] at this;simp only[List.length_cons,GE,this]
def y9(X:Cx)(ah:List (Addr×Obj))(ae:St)(Q:VK)(dj:Value)(C:Addr)(s':Shared):Prop:=
 ∃p H' m,dj=Value.ref p∧s'.heap.Ns C m∧Inv X ah ae H' s'∧h1 X ah H' C∧Q (.ref p) H'
theorem Zdu{ah:List (Addr×Obj)}{ae:St}{H:Hp}{s:Shared}{cE:Scope}{x:Str}{zs:List Str}{ix:List Nat}{cl:List (Str×Addr)}{fp:List Addr}{it:Addr}{fo:Nat→Heap→Prop}{J:It}
  {fQ de eO:Expr} {ifs:List Expr} {pos:Pos} {g:TG} {dN:TT} {cV:TE} {Q:VK} {E:Value→Shared→Prop} {RR:Value→Addr→Result→Shared→Prop}
  (ax:X.calm=true) (S:Y3 X cE x zs ix) (I:Inv X ah ae H s) (fa:∀y c,cl.lookup y=some c→X.env.cells.lookup y=some c) (h5:∀y,(y,NameKind.free)∈cE.names→∃c,cl.lookup y=some c)
  (T:U6 X.prog X.w X.K de J fp it fo) (st:fo 0 s.heap) (im:∀b∈fp,h1 X ah H b)
  (f3:∀C s H,PG (Zo X cE cl C (x::zs) s H fp) de g∧PIf (Zo X cE cl C (x::zs) s H fp) ifs dN∧PE (Zo X cE cl C (x::zs) s H fp) fQ cV)
  (cG:∀p,H p=none→∃W:Nat→Nat→List V→St→Hp→Prop,(∃m,W 0 m [] (emb ix ae) (upd H p (.lst [])))∧∀i m ys ci H',W i m ys ci H'→
   (J.stop i H'∧Q (.ref p) H')∨(J.go i H'∧∀x ay,J.yld i H' x ay→g x ci ay λcY bF=>dN cY bF λb bC=>
    if b=true then cV cY bC λv cj=>cj p=some (.lst ys)∧ys.length<sizeLine∧∃cQ,cQ<m∧W (i+1) cQ (ys++ [v]) cY (upd cj p (.lst (ys++ [v])))
    else ∃cQ,cQ<m∧W (i+1) cQ ys cY bC))
  (c1:∀dj C f s',y9 X ah ae Q dj C s'→RR dj C (.ok f) s'):
  wpAny (model X.prog X.w) X.A (newList []) (λdj jq=>wpAny (model X.prog X.w) X.A (newFunctionEnv cE X.env.globals cl [] X.env.qual none .none (some X.env)) (λpP ou=>
   codeAny (model X.prog X.w) X.A (.compStart (.ListComp fQ [⟨de,eO,ifs,0⟩] cE pos) 0 (.ref it) dj {pP with scope:=relabel cE X.env}) (RR dj pP.locals) ou) E jq) E s:=by
 refine wpAny_newObj_type (wpAny_newFunctionEnv S.nocell (by intro y a';simp at a') (λh₁ hns₁ pQ=>?_) S.kind);have dV:Inv X ah ae (upd H s.heap.objs.size (.lst [])) {s with heap:=s.heap.push {cls:= .type "list",dict:=none,data:= .seq ([]:List Value).toArray}}:=I.lnew (its:=[]) (ys:=[]) (t':=s.toks) .nil (qaA _);dsimp only at hns₁ pQ⊢;obtain⟨W,⟨hm,fM⟩,turn⟩:=cG s.heap.objs.size (I.hok.fresh (FM _));have lt:∀b∈fp,b<s.heap.objs.size:=λb ag=>by
  obtain⟨o,e,_⟩:=T.obj 0 s.heap st b ag;exact Heap.lt_size e
 have i2:∀b∈fp,∀o,(upd H s.heap.objs.size o) b=H b:=λb ag o=>cq (qak (lt b ag));have kp:∀b o,(s.heap.push {cls:= .type "list",dict:=none,data:= .seq ([]:List Value).toArray}).get? b=some o→h₁.get? b=some o:=λb o e=>
  pQ.extBut b o (qak (Heap.lt_size e)) (Heap.get?_push_of_some _ e)
 have dI:∀b∈fp,h1 X ah (upd H s.heap.objs.size (.lst [])) b∧b<(s.heap.push {cls:= .type "list",dict:=none,data:= .seq ([]:List Value).toArray}).objs.size:=λb ag=>by
  obtain⟨lA,q⟩:=im b ag;refine⟨⟨(i2 b ag _).trans lA,q⟩,?_⟩;rw[Heap.size_push];exact qbC (lt b ag)
 generalize kK:({s with heap:=s.heap.push {cls:= .type "list",dict:=none,data:= .seq ([]:List Value).toArray}}:Shared)=bb at dV;have pR:s.heap.push {cls:= .type "list",dict:=none,data:= .seq ([]:List Value).toArray}=bb.heap:=by rw[←kK]
 rw[pR] at kp dI hns₁⊢;have kD:fo 0 h₁:=T.keep 0 _ _ st λb _ o e=>kp b o (by rw[←pR];exact Heap.get?_push_of_some _ e);have lB:Inv (Zo X cE cl bb.heap.objs.size (x::zs) bb (upd H s.heap.objs.size (.lst [])) fp) [] (emb ix ae) (upd H s.heap.objs.size (.lst [])) {bb with heap:=h₁,toks:=bb.toks}:=
  Zib S dV fa h5 dI hns₁ kp
 obtain⟨aM,uJ,cp⟩:=f3 bb.heap.objs.size bb (upd H s.heap.objs.size (.lst []));have nq:∀{H':Hp},(∀b∈fp,H' b=none)→∀b∈fp,h1 (Zo X cE cl bb.heap.objs.size (x::zs) bb (upd H s.heap.objs.size (.lst [])) fp) [] H' b:=λ{H'} bA b ag=>
  ⟨bA b ag,(lB.ok.exf b ag).1,lB.ok.exfs b ag,.inl ag,(lB.ok.exf b ag).2,λp aS=>absurd (show p∈([]:List (Addr×Obj)) from aS) (by simp)⟩
 have pS:∀cI:Shared,cI={bb with heap:=h₁,toks:=bb.toks}→
   codeAny (model X.prog X.w) X.A (.compLoop (.ListComp fQ [⟨de,eO,ifs,0⟩] cE pos) 0 (.ref it) (.ref s.heap.objs.size) (compEnvC cE cl bb.heap.objs.size X.env)) (RR (.ref s.heap.objs.size) bb.heap.objs.size) cI:=by
  rintro cI rfl;refine ZbL (λn s'=>∃i ys ci H',Inv (Zo X cE cl bb.heap.objs.size (x::zs) bb (upd H s.heap.objs.size (.lst [])) fp) [] ci H' s'∧fo i s'.heap∧(∀b∈fp,H' b=none)∧W i n ys ci H') ?_ hm
   ⟨0,[],emb ix ae,_,lB,kD,λb ag=>(dI b ag).1.1,fM⟩
  rintro n cK ⟨i,ys,lC,cj,h0,lr,jE,pT⟩;rcases turn i n ys lC cj pT with⟨stop,na⟩|⟨go,step⟩
  ·refine thn (T.done (Zo X cE cl bb.heap.objs.size (x::zs) bb (upd H s.heap.objs.size (.lst [])) fp) rfl rfl rfl ax i [] cK lC cj _ h0 (nq jE) lr stop) λr dn ⟨av,hl⟩=>?_;subst av;obtain⟨uK,uL,_⟩:=hl.loc;refine c1 _ _ _ _ ⟨s.heap.objs.size,cj,uK,rfl,uL,?_,dV.fpOk (FM _) hl.free,na⟩;exact dV.call' hl.os hl.base hl.hok hl.bare λb ag=>by
    obtain⟨⟨dE,f1,f2,dI,eh,em⟩,_⟩:=dI b ag;exact⟨dI,f1,eh,em⟩
  ·refine thn (T.item (Zo X cE cl bb.heap.objs.size (x::zs) bb (upd H s.heap.objs.size (.lst [])) fp) rfl rfl rfl ax i [] cK lC cj _ h0 (nq jE) lr go) λr dn ⟨u,av,dS⟩=>?_;subst av;refine thn dS λ_ dW ⟨x7,dq,h2,pB,uM,nr,pU⟩=>?_;have uN:=h2.pinned (nq pU) (T.obj _ _ nr);refine thn (aM _ dW lC dq x7 u _ uN pB (step x7 dq uM)) λ_ eQ ⟨nt,ev,pV,uO⟩=>?_;refine thn (uJ _ eQ nt ev _ pV uO) λb fR ⟨fG,pW,lD⟩=>?_;have again:∀{nu:List V}{ci:St}{H':Hp}{cQ:Nat}{s':Shared},Inv (Zo X cE cl bb.heap.objs.size (x::zs) bb (upd H s.heap.objs.size (.lst [])) fp) ([]++ZaI fp dW.heap) ci H' s'→W (i+1) cQ nu ci H'→cQ<n→
     ∃m,m<n∧∃i ys ci H',Inv (Zo X cE cl bb.heap.objs.size (x::zs) bb (upd H s.heap.objs.size (.lst [])) fp) [] ci H' s'∧fo i s'.heap∧(∀b∈fp,H' b=none)∧W i m ys ci H':=λ{nu ci H' cQ s'} Iz kb a6=>by
    refine⟨cQ,a6,i+1,nu,ci,H',Iz.unpinned,T.keep _ _ _ nr λb ag o e=>(Iz.pin (b,o) (qaq _ (qaq _ (oe ag e)))).1,λb ag=>?_,kb⟩;obtain⟨o,e,d⟩:=T.obj _ _ nr b ag;exact(Iz.pin (b,o) (qaq _ (qaq _ (oe ag e)))).2.1
   cases b with
   |false=>
    rw[if_neg qag] at lD⊢;obtain⟨cQ,a6,kb⟩:=lD;exact again pW kb a6
   |true=>
    rw[if_pos rfl] at lD⊢;refine thn (cp _ fR nt fG _ pW lD) λv io ⟨y,ip,uP,uQ,af,hz,cQ,a6,kb⟩=>?_;refine thn (ju _ io nt ip (.ref s.heap.objs.size) [y] (.ref s.heap.objs.size) [v] (λz H'=>z= .non∧H'=upd ip s.heap.objs.size (.lst (ys++ [y]))) uP rfl (.cons uQ .nil) ⟨_,ys,y,rfl,rfl,af,hz,rfl,rfl⟩) λ_ kL ⟨z,nv,uR,_,_,uS⟩=>?_;subst uS;exact again uR kb a6
 exact codeAny_compStart_list (pS _ (by subst kK;rfl)) (T.self _ 0 _ _ _ kD (pS _ (by subst kK;rfl)))
theorem VO{cE:Scope}{x:Str}{zs:List Str}{ix:List Nat}(ok:X.Ok)(S:Y3 X cE x zs ix):
  ∃cl,closureFor cE X.env=pure cl∧(∀y c,cl.lookup y=some c→X.env.cells.lookup y=some c)∧∀y,(y,NameKind.free)∈cE.names→∃c,cl.lookup y=some c:=by
 obtain⟨cl,e,ai,aw⟩:=ZaU X.env cE.names [] (λy a' bB=>ok.has y.1 (S.free y a' bB)) (λy c h=>by simp at h);refine⟨cl,?_,ai,λy a'=>aw y (.inr a')⟩;unfold closureFor;simp only;rw[e]
 rfl
theorem nw{fQ de eO:Expr}{ifs:List Expr}{cE:Scope}{pos:Pos}{x:Str}{zs:List Str}{ix:List Nat}{eW:TI}{g:TG}{dN:TT}{cV:TE}
  (ax:X.calm=true) (S:Y3 X cE x zs ix) (hi:PI X de eO eW)
  (f3:∀cl C s H fp,PG (Zo X cE cl C (x::zs) s H fp) de g∧PIf (Zo X cE cl C (x::zs) s H fp) ifs dN∧PE (Zo X cE cl C (x::zs) s H fp) fQ cV)
  (hs:∀x,foldedSetIterable eO X.env x=pure x:=by intro _;rfl):
  PE X (.ListComp fQ [⟨de,eO,ifs,0⟩] cE pos) (uE ix eW g dN cV):=by
 intro ah s ae H Q I h;obtain⟨cl,ny,fa,h5⟩:=VO I.ok S;rw[eval_ListComp];refine wpAny_comprehension_free (use:=none) rfl hs ny S.kind S.names (thn (hi ah s ae H _ I h) λv az ai=>thn ai λod b' aw=>?_);obtain⟨it,fp,fo,J,ay,e,c',T,lq,f2,cG⟩:=aw;subst e;refine Zdu (RR:=λdj C=>compPost (model X.prog X.w) X.A X.xe none (EP X ah ae Q) dj C) ax S c' fa h5 T lq f2 (λC s H=>f3 cl C s H fp) cG λdj C f s' h=>?_;obtain⟨p,H',m,rfl,a6,eC,⟨ea,g1,g2,g3,jx,nz⟩,q⟩:=h;exact⟨m,a6,λh' ag=>⟨.ref p,H',eC.turned (t':=s'.toks) (λb o fS e=>(ag.2 b fS).trans e) ea g1 g3 jx nz,rfl,q⟩⟩
theorem rQ{fQ de eO:Expr}{ifs:List Expr}{cE:Scope}{pos py pX:Pos}{x y:Str}{zs:List Str}{ix:List Nat}{eW:TI}{g:TG}{dN:TT}{cV:TE}{j:Nat}
  (ax:X.calm=true) (S:Y3 X cE x zs ix) (hi:PI X de eO eW)
  (f3:∀cl C s H fp,PG (Zo X cE cl C (x::zs) s H fp) de g∧PIf (Zo X cE cl C (x::zs) s H fp) ifs dN∧PE (Zo X cE cl C (x::zs) s H fp) fQ cV)
  (d_:X.N.Nodup) (aJ:X.N[j]? =some y) (a':Loc X.env.scope y)
  (uT:swapsWith (.ListComp fQ [⟨de,eO,ifs,0⟩] cE pos) (some (.Name y py)) pX.line X.env=pure true:=by rfl)
  (bB:X.fn y=true∨X.env.scope.names.lookup y=some .local:=by first|exact .inl rfl|exact .inr rfl|assumption)
  (hs:∀x,foldedSetIterable eO X.env x=pure x:=by intro _;rfl):
  PS X (.Assign [.Name y py] (.ListComp fQ [⟨de,eO,ifs,0⟩] cE pos) pX) (pw (uE ix eW g dN cV) (UL j)):=by
 intro ah s ae H D I h;obtain⟨cl,ny,fa,h5⟩:=VO I.ok S;rw[exec_Assign_Name_used _ _ _ _ uT];refine wpAny_bind (wpAny_standAt (wpAny_bind ?_));show wpAny _ X.A (do let _←comprehension (.ListComp fQ [⟨de,eO,ifs,0⟩] cE pos) cE X.env _ (newList []) false (eval eO X.env) (some (assign (.Name y py) X.env))) _ _ s;refine wpAny_bind (wpAny_mono (wpAny_comprehension_free (use:=some (assign (.Name y py) X.env)) (Q:=λ_ s'=>SP X ah D .next s') rfl hs ny S.kind S.names
  (thn (hi ah s ae H _ I h) λv az ai=>thn ai λod b' aw=>?_)) (λ_ s' cG=>wpAny_pure (wpAny_pure cG)) λ_ _ e=>e)
 obtain⟨it,fp,fo,J,ay,e,c',T,lq,f2,cG⟩:=aw;subst e;refine Zdu (Q:=λx aj=>UL j x ae aj D.nx) (RR:=λdj C=>compPost (model X.prog X.w) X.A X.xe (some (assign (.Name y py) X.env)) (λ_ s'=>SP X ah D .next s') dj C) ax S c' fa h5 T lq f2 (λC s H=>f3 cl C s H fp) cG λdj C f s' h=>?_;obtain⟨p,H',m,rfl,a6,eC,⟨ea,g1,g2,g3,jx,nz⟩,q⟩:=h;show wpAny _ X.A (assign (.Name y py) X.env (.ref p)) _ _ _;refine wpAny_assign_Name (tU eC d_ aJ a' (show c2 (.ref p) (.ref p) from rfl) (λnf I'' ⟨c,uU,ky⟩=>?_) bB);have fS:C≠c:=by
  rcases ky with z|z
  ·rw[z];exact g1
  ·exact qbJ (jx _ _ z)
 exact⟨m,a6.sameBut uU fS,λh' ag=>⟨_,H',I''.turned (t':=nf.toks) (λb o fS e=>(ag.2 b fS).trans e) ea g1 g3 jx nz,q⟩⟩
end
noncomputable def CXX (P:Program) (w:World):CXT:=λouter H s E e s'=>
 ∃(cL:Addr)(cls a0:Value)(H':Hp)(B:Heap),e= .ref cL∧s'.os=s.os∧AllBare s'.gens∧Un (frs outer) [] H H' s.heap s'.heap∧HOk P w H' s'.heap∧
  Heap.FlyingW B outer cL cls a0 s'.heap∧(∀b o,s'.heap.get? b=some o→(H' b≠none∨((∃cM,s.heap.get? b=some cM)∧b∉frs outer))→B.get? b=some o)∧E cls none H'
theorem HOk.stays{P:Program}{w:World}{H:Hp}{h h' B:Heap}(ok:HOk P w H h)(gc:∀b o,h.get? b=some o→H b≠none→B.get? b=some o)(st:B.StaysIn h'):HOk P w H h':=λa o e=>
 (ok a o e).stay (λb u ag q=>st b u (gc b u q (by
  rcases ag with rfl|ag
  ·rw[e];exact λz=>nomatch z
  ·rw[ag];exact λz=>nomatch z))) (λ_ q=>q) λ_ _ q=>q
theorem ZY.got{P:Program}{w:World}{H:Hp}{h:Heap}{a:Addr}{o:HO}(x:ZY P w H h a o):∃dx,h.get? a=some dx:=by
 cases o with
 |lst xs=>obtain⟨_,_,_,_,e⟩:=x;exact⟨_,e⟩
 |tup xs=>obtain⟨_,_,_,p⟩:=x;obtain⟨dx,e,_⟩:=p;exact⟨dx,e⟩
 |dK kvs=>obtain⟨_,_,_,_,o,_,_,e,_⟩:=x;exact⟨o,e⟩
 |dT kvs=>obtain⟨_,_,_,_,o,_,_,e,_⟩:=x;exact⟨o,e⟩
 |set S n=>obtain⟨o,_,_,_,e,_⟩:=x;exact⟨o,e⟩
 |ins C aY fs=>obtain⟨_,_,_,e,_⟩:=x;exact⟨_,e⟩
 |own y=>exact x
 |xd fs=>obtain⟨_,⟨o,_,_,e,_⟩,_⟩:=x;exact⟨o,e⟩
 |rng lo hi=>obtain⟨_,_,_,e⟩:=x;exact⟨_,e⟩
 |frz dx u=>obtain⟨e,_⟩:=x;exact⟨dx,e⟩
 |tbl ps=>exact⟨_,(show h.get? a=some _ from x)⟩
 |met f y=>exact⟨_,(show h.get? a=some _ from x)⟩
 |ext m0=>obtain⟨_,e,_⟩:=x;exact e
theorem Un.fly{fs:List Addr}{H H':Hp}{h ai aw B:Heap}(u:Un fs [] H H' h ai)(gc:∀b o,ai.get? b=some o→(H' b≠none∨((∃cM,h.get? b=some cM)∧b∉fs))→B.get? b=some o)
  (st:B.StaysIn aw) (sl:ai.UpToSlots aw) (bB:∀b∈fs,∀o,h.get? b=some o→∀vs,o.data≠ .fields vs) (pp:∀b∈fs,H b=none):Un fs [] H H' h aw where
 keep:=λb o e n ag ao=>st b o (gc b o (u.keep b o e n ag ao) (.inr ⟨⟨_,e⟩,ag⟩))
 slot:=λb o e n ag ao=>by
  obtain⟨az,aW⟩:=u.slot b o e n ag ao;obtain⟨b',a7⟩:=sl b _ aW (bB b ag o e);exact⟨b',a7⟩
 free:=u.free
 there:=λb o e ao=>by
  by_cases ag:b∈fs
  ·obtain⟨az,aW⟩:=u.slot b o e (pp b ag) ag ao;obtain⟨b',a7⟩:=sl b _ aW (bB b ag o e);exact⟨_,a7⟩
  ·obtain⟨cM,aW⟩:=u.there b o e ao;exact⟨cM,st b cM (gc b cM aW (.inr ⟨⟨_,e⟩,ag⟩))⟩
 tups:=u.tups
 frzs:=u.frzs
 tbls:=u.tbls
section
variable {P:Program}{w:World}{K:Frag}{mg:Str→Option Value}{base:Heap}{N:List Str}{qual:Str}{scope:Scope}{f:Addr}{cd:Value}{A:Around}{outer:List Env}{s₀:Shared}{H₀:Hp}{E:XK}
noncomputable abbrev cxX (P:Program) (w:World) (K:Frag) (mg:Str→Option Value) (base:Heap) (N:List Str) (qual:Str) (scope:Scope) (f:Addr) (cd:Value) (A:Around) (outer:List Env) (s₀:Shared) (H₀:Hp) (E:XK):Cx:=
 ZI (CXX P w) P w K mg base N qual scope f cd A outer s₀ H₀ E
theorem ZkB{ah:List (Addr×Obj)}{ae:St}{H H':Hp}{s s':Shared}{cL:Addr}{cls a0:Value}{B:Heap}(I:Inv (cxX P w K mg base N qual scope f cd A outer s₀ H₀ E) ah ae H s)
  (os:s'.os=s.os) (bare:AllBare s'.gens) (u:Un (frs (cxX P w K mg base N qual scope f cd A outer s₀ H₀ E).stack) [] H H' s.heap s'.heap) (ok:HOk P w H' s'.heap)
  (fF:Heap.FlyingW B (cxX P w K mg base N qual scope f cd A outer s₀ H₀ E).stack cL cls a0 s'.heap)
  (gc:∀b o,s'.heap.get? b=some o→(H' b≠none∨((∃cM,s.heap.get? b=some cM)∧b∉frs (cxX P w K mg base N qual scope f cd A outer s₀ H₀ E).stack))→B.get? b=some o) (q:E cls none H'):
  (cxX P w K mg base N qual scope f cd A outer s₀ H₀ E).xe (.ref cL) s':=by
 have hr:(A.deeper (envOfC qual scope s₀.heap.objs.size f cd)).frames=some (envOfC qual scope s₀.heap.objs.size f cd::outer):=I.ok.frames;refine wpAny_leaves_onW (L:=s₀.heap.objs.size) hr rfl fF λaw rR sl=>?_;have below:∀b o,s₀.heap.get? b=some o→b∉frs outer→(∃cM,s.heap.get? b=some cM)∧b∉frs (cxX P w K mg base N qual scope f cd A outer s₀ H₀ E).stack:=λb o e bA=>
  ⟨I.base.there b o e (by intro z;exact absurd (show b∈([]:List Addr) from z) (by simp)),λz=>by
   rcases qaf.mp (I.stkSub b z) with q|q
   ·have ag:=Heap.lt_size e;have hc:b=s₀.heap.objs.size:=q;rw[hc] at ag;exact qbl _ ag
   ·exact bA q⟩
 have eU:Un (frs outer) [] H₀ H' s₀.heap s'.heap:=by
  have b0:Un (frs outer) [] H₀ H s₀.heap s.heap:=I.base;refine⟨λb o e n ag ao=>?_,λb o e n ag ao=>?_,λb o e n ao=>?_,λb o e ao=>?_,λb xs e=>u.tups b xs (b0.tups b xs e),λb o v e=>u.frzs b o v (b0.frzs b o v e),λb ps e=>?_⟩
  ·exact u.keep b o (b0.keep b o e n ag ao) (b0.free b o e n ao) (below b o e ag).2 ao
  ·obtain⟨az,aW⟩:=b0.slot b o e n ag ao;obtain⟨b',a7⟩:=u.any aW (b0.free b o e n ao) ao;exact⟨b',a7⟩
  ·obtain⟨cM,aW⟩:=b0.there b o e ao;exact u.free b cM aW (b0.free b o e n ao) ao
  ·obtain⟨cM,aW⟩:=b0.there b o e ao;exact u.there b cM aW ao
  ·obtain⟨iz,aW⟩:=b0.tbls b ps e;obtain⟨ii,a7⟩:=u.tbls b _ aW;exact⟨iz++ii,by rw[a7,Array.append_assoc]⟩
 have pY:∀b o,s'.heap.get? b=some o→(H' b≠none∨((∃cM,s₀.heap.get? b=some cM)∧b∉frs outer))→B.get? b=some o:=λb o e h=>gc b o e (h.imp id λ⟨⟨cM,z⟩,bA⟩=>below b cM z bA);have Fn:HOk P w H' aw:=ok.stays (λb o e n=>gc b o e (.inl n)) rR.1;refine⟨cL,cls,a0,H',B,rfl,os.trans I.os,bare,eU.fly pY rR.1 sl (λb ag o e=>?_) (I.ok.frf),Fn,rR,λb o e h=>?_,q⟩
 ·obtain⟨_,cM,cx,d⟩:=I.ok.funs.mem ag;have pZ:s₀.heap.get? b=some cM:=cx;rw[e] at pZ;cases pZ;exact d
 ·have ex:∃cM,s'.heap.get? b=some cM:=by
   rcases h with h|⟨h,bA⟩
   ·cases cT:H' b with
    |none=>exact absurd cT h
    |some v=>exact(ok b v cT).got
   ·obtain⟨uV,lp⟩:=h;exact eU.there b uV lp (by simp)
  obtain⟨cM,cx⟩:=ex;have a7:=pY b cM cx h;have c_:=rR.1 b cM a7;have gU:aw.get? b=some o:=e;rw[c_] at gU;cases gU;exact a7
theorem cW:Wo (CXX P w) (cxX P w K mg base N qual scope f cd A outer s₀ H₀ E) E:=by
 intro ah ae H s e s' I h;obtain⟨cL,cls,a0,H',B,rfl,os,bare,u,ok,fF,gc,q⟩:=h;exact ZkB I os bare u ok fF gc q
noncomputable def uW (cls:Value) (E:XK) (t:TA):TS:=λ_ ae H=>t ae H λvs aj=>vs.length≤sizeLine∧E cls none aj
theorem Zjo{ah:List (Addr×Obj)}{ae:St}{H:Hp}{s:Shared}{h':Heap}{cL:Addr}{cls:Value}{us:List Value}(I:Inv (cxX P w K mg base N qual scope f cd A outer s₀ H₀ E) ah ae H s)
  (ao:Heap.MadeExcOf s.heap h' cL cls us) (q:E cls none H):(cxX P w K mg base N qual scope f cd A outer s₀ H₀ E).xe (.ref cL) {s with heap:=h'}:=by
 have hr:(A.deeper (envOfC qual scope s₀.heap.objs.size f cd)).frames=some (envOfC qual scope s₀.heap.objs.size f cd::outer):=I.ok.frames;have f3:∀env∈(cxX P w K mg base N qual scope f cd A outer s₀ H₀ E).stack,∀b,env.frame=some b→b∈frs (cxX P w K mg base N qual scope f cd A outer s₀ H₀ E).stack:=λenv cp b ag=>List.mem_filterMap.mpr ⟨env,cp,ag⟩;have uX:∀b o,s.heap.get? b=some o→(H b≠none∨((∃cM,s₀.heap.get? b=some cM)∧b∉frs outer))→(hideAll s.heap (frs (cxX P w K mg base N qual scope f cd A outer s₀ H₀ E).stack)).get? b=some o:=λb o e h=>
  hideAll_get _ e λz=>by
   rcases h with h|⟨⟨cM,cx⟩,bA⟩
   ·exact h (I.stkFree b z)
   ·rcases qaf.mp (I.stkSub b z) with q|q
    ·have ag:=Heap.lt_size cx;have hc:b=s₀.heap.objs.size:=q;rw[hc] at ag;exact qbl _ ag
    ·exact bA q
 refine wpAny_leaves_madeW (base:=hideAll s.heap (frs (cxX P w K mg base N qual scope f cd A outer s₀ H₀ E).stack)) (h:=s.heap) (L:=s₀.heap.objs.size) hr rfl (λb o e=>of_hideAll _ e) (PySem.W.funFrames_hide I.stack f3) ao λcC t fF _ _ sl=>?_;have pj:s.heap.UpToSlots cC:=(Heap.UpToSlots.of_keeps ao.keeps).trans sl;have b0:Un (frs outer) [] H₀ H s₀.heap s.heap:=I.base;have Fp:HOk P w H cC:=I.hok.stays (λb o e n=>uX b o e (.inl n)) fF.1;refine⟨cL,cls,_,H,_,rfl,I.os,I.bare,b0.fly uX fF.1 pj (λb ag o e=>?_) I.ok.frf,Fp,fF,λb o e h=>?_,q⟩
 ·obtain⟨_,cM,cx,d⟩:=I.ok.funs.mem ag;have pZ:s₀.heap.get? b=some cM:=cx;rw[e] at pZ;cases pZ;exact d
 ·have ex:∃cM,s.heap.get? b=some cM:=by
   rcases h with h|⟨⟨uV,lp⟩,_⟩
   ·cases cT:H b with
    |none=>exact absurd cT h
    |some v=>exact(I.hok b v cT).got
   ·exact b0.there b uV lp (by simp)
  obtain⟨cM,cx⟩:=ex;have a7:=uX b cM cx h;have c_:=fF.1 b cM a7;have gU:cC.get? b=some o:=e;rw[c_] at gU;cases gU;exact a7
theorem Zld{x:Str}{lE e2 pos:Pos}{lF:Expr}{rest:List Expr}{t:TA}{C:Addr}{B mz uY:String}{bm:List Value}(O:OwnCls x C bm mz mg base)(FB:ExcBaseFacts B mz uY bm)
  (aM:Gl (cxX P w K mg base N qual scope f cd A outer s₀ H₀ E) x) (aZ:PA (cxX P w K mg base N qual scope f cd A outer s₀ H₀ E) (lF::rest) t)
  (cp:starEach (lF::rest) (cxX P w K mg base N qual scope f cd A outer s₀ H₀ E).env=(false,eval lF (cxX P w K mg base N qual scope f cd A outer s₀ H₀ E).env)::starEach rest (cxX P w K mg base N qual scope f cd A outer s₀ H₀ E).env:=by rfl)
  (nj:(backTo e2 (starEach rest (cxX P w K mg base N qual scope f cd A outer s₀ H₀ E).env)).any (·.1)=false:=by rfl) (f':(x==("__debug__" :Str))=false:=by decide):
  PS (cxX P w K mg base N qual scope f cd A outer s₀ H₀ E) (.Raise (some (.Call (.Name x lE) (lF::rest) [] e2)) none pos) (uW (.ref C) E t):=by
 intro ah s ae H D I h;obtain⟨d4,Fq,nm,q,bs,hdct,sn,sub,ab,col,dd,k0,k1,k2,k3,k5,mN,kM,d_,rS,T⟩:=O.obj;refine wpAny_Raise_call_subT (C:=C) (nm:=nm) (q:=q) (N:=Fq) (bs:=bs) (bm:=d4) (hdct:=hdct) (sn:=sn) (sub:=sub) (ab:=ab) (col:=col) (dd:=dd) (k0:=k0) (k1:=k1) (k2:=k2) (k3:=k3) (k5:=k5)
  FB (mN:=mN) (T.hasType FB.hasBase) (I.ok.hd rfl) (by rw[cp];show(false||(backTo e2 (starEach rest (cxX P w K mg base N qual scope f cd A outer s₀ H₀ E).env)).any (·.1))=false;rw[nj];rfl) rS (m4 I aM O.bound ⟨rfl,?_⟩ f')
 have h':=aZ e2 ah s ae H _ I h;rw[cp] at h'⊢;refine Calls.evalArgs_plain (thn h' λus b' ⟨vs,ay,c',r,hz,cT⟩=>⟨rfl,by rw[←r.length];exact hz,c'.bk _ _ kM,d_.keeps c'.bk,T.keeps c'.bk,λcC e a6=>Zjo c' a6 cT⟩)
end
mutual
inductive fT(K:Frag)(H:Hp):V→PyData→Prop
 |non:fT K H .non .none
 |bl (b:Bool):fT K H (.bl b) (.bool b)
 |int (i:Int):fT K H (.int i) (.int i)
 |str (x:Str):fT K H (.str x) (.str x)
 |lst {a:Addr} {xs:List V} {cB:List PyData} (h:SqL K H a xs) (r:DRels K H xs cB):fT K H (.ref a) (.list cB)
 |tup {a:Addr} {xs:List V} {cB:List PyData} (h:SqT K H a xs) (r:DRels K H xs cB):fT K H (.ref a) (.tuple cB)
inductive DRels(K:Frag)(H:Hp):List V→List PyData→Prop
 |nil:DRels K H [] []
 |cons {x:V} {d:PyData} {xs:List V} {cB:List PyData} (h:fT K H x d) (r:DRels K H xs cB):DRels K H (x::xs) (d::cB)
end
theorem DRels.ints{K:Frag}{H:Hp}:∀ns:List Int,DRels K H (ns.map V.int) (ns.map PyData.int)
 | []=> .nil
 |n::ns=> .cons (.int n) (DRels.ints ns)
section
variable {X:Cx}{ah:List (Addr×Obj)}{ae:St}{H:Hp}{s:Shared}
mutual
theorem fT.reads(I:Inv X ah ae H s):∀{x:V}{d:PyData}{v:Value},fT X.K H x d→c2 x v→∃as,Reads s.heap v d as
 |_,_,_,.non,r=>by cases (show _=Value.none from r);exact⟨_,.none⟩
 |_,_,_,.bl b,r=>by cases (show _=Value.bool b from r);exact⟨_,.bool b⟩
 |_,_,_,.int i,r=>by obtain⟨t,e⟩:=r;cases e;exact⟨_,.int i t⟩
 |_,_,_,.str x,r=>by obtain⟨t,e⟩:=r;cases e;exact⟨_,.str x t⟩
 |_,_,_,.lst (a:=a) h rs,r=>by
  cases (show _=Value.ref a from r);obtain⟨its,dk,p,hz⟩:=I.list h;obtain⟨o,bc,ax,n,hd⟩:=p.isList;obtain⟨as,q⟩:=DRels.reads I rs dk;exact⟨_,.list bc ax hd (by simpa using q)⟩
 |_,_,_,.tup (a:=a) h rs,r=>by
  cases (show _=Value.ref a from r);obtain⟨its,dk,p,hz⟩:=I.tuple h;obtain⟨o,bc,ax,n,hd⟩:=(show s.heap.IsTuple a its.toArray from p);obtain⟨as,q⟩:=DRels.reads I rs dk;exact⟨_,.tuple bc ax hd (by simpa using q)⟩
theorem DRels.reads(I:Inv X ah ae H s):∀{xs:List V}{cB:List PyData}{vs:List Value},DRels X.K H xs cB→cZ xs vs→∃as,ReadsAll s.heap vs cB as
 |_,_,_,.nil,.nil=>⟨_,.nil⟩
 |_,_,_,.cons h r,.cons q t=>by
  obtain⟨as,e⟩:=fT.reads I h q;obtain⟨bs,cx⟩:=DRels.reads I r t;exact⟨_,.cons e cx⟩
end
end
noncomputable def kN (K:Frag) (neg:Bool):R2:=λx y H Q=>∃aY hI,fT K H x aY∧fT K H y hI∧aY.canLay0=true∧hI.canLay0=true∧aY.depth≤60∧Q (.bl (if neg then !PyData.eqv aY hI else PyData.eqv aY hI)) H
section
variable {X:Cx}
theorem Fs(hu:X.A.units+64<cLine):OpR X (compareOp .Eq) (kN X.K false):=by
 intro ah s ae H x y v u Q I cr cJ h;obtain⟨aY,hI,ai,aw,dh,dJ,dp,q⟩:=h;obtain⟨as,cH⟩:=ai.reads I cr;obtain⟨bs,cX⟩:=aw.reads I cJ;exact SeqAt.compareEq_reads cH cX dh dJ (by have:min aY.depth hI.depth≤aY.depth:=Nat.min_le_left _ _;omega) ⟨.bl _,H,I,rfl,q⟩
theorem Ft(hu:X.A.units+64<cLine):OpR X (compareOp .NotEq) (kN X.K true):=by
 intro ah s ae H x y v u Q I cr cJ h;obtain⟨aY,hI,ai,aw,dh,dJ,dp,q⟩:=h;obtain⟨as,cH⟩:=ai.reads I cr;obtain⟨bs,cX⟩:=aw.reads I cJ;exact SeqAt.compareNe_reads cH cX dh dJ (by have:min aY.depth hI.depth≤aY.depth:=Nat.min_le_left _ _;omega) ⟨.bl _,H,I,rfl,q⟩
end
section
variable {prog:Program}{w:World}{A:Around}{E:Value→Shared→Prop}
variable {s:Shared}
end
section
variable {X:Cx}{pos:Pos}
end
section
variable {P:Program}{w:World}{K:Frag}{mg:Str→Option Value}{base:Heap}
theorem Fun.okX{x qual:Str}{st:Stmt}{f:Addr}{fd:FuncData}{N ps:List Str}{k:Nat}{sp:Sp}(F:Fun K x qual st f fd)(S:Zs N ps (cR st))(len:∀vs H Q E,sp vs H Q E→vs.length=ps.length)
  (pG:∀(cS:Value)(A:Around)(outer:List Env)(s:Shared)(H:Hp)(vs:List V)(Q:VK)(E:XK),eP k (A.deeper (envOfC qual (cR st) s.heap.objs.size f cS))→sp vs H Q E→
   ∃t,PSs (cxX P w K mg base N qual (cR st) f cS A outer s H E) (jv st) t∧t {nx:=λ_ H'=>Q .non H',rt:=Q} (start N vs) H):YN P w K mg base (CXX P w) (k+1) f fd ps sp:=by
 obtain⟨fX,et,kV,fP,eD,an,cS,ct,hn,rfl,lk,jn⟩:=F.ex;exact ZlW lk jn S len λA outer s H vs Q E av jF=>pG cS A outer s H vs Q E av jF
theorem WH{X:Cx}:Wo (CXX X.prog X.w) X E0:=by
 intro ah ae H s e s' I h;obtain⟨cL,cls,a0,H',B,_,_,_,_,_,_,_,z⟩:=h;exact z.elim
end
section
variable {X:Cx}
noncomputable def rOr (r dt:R2):R2:=λx y H Q=>r x y H Q∨dt x y H Q
noncomputable def ZdI:R2:=λx y H Q=>∃i j,x= .str i∧y= .str j∧i.length+j.length≤sizeLine∧Q (.str (i++j)) H
noncomputable def rT:R2:=rI0 λi j=> .int (i+j)
noncomputable def Zh9:R2:=rI (λi j=>IntMulOk i j) λi j=> .int (i*j)
theorem Fu:OpR X (binaryOp .Add) (rOr rT (rOr ZdI (rOr rCat (pI X.K)))):=Et.or (EB.or (E2.or EO))
theorem gV:OpR X (binaryOp .Mult) (rOr Zh9 rRep):=Fl.or E3
theorem Znn(hu:X.A.units+64<cLine):OpR X (compareOp .Eq) (rOr rEq (kN X.K false)):=Eu.or (Fs hu)
theorem ZmZ(hu:X.A.units+64<cLine):OpR X (compareOp .NotEq) (rOr rNe (kN X.K true)):=Ev.or (Ft hu)
end
namespace Rd
section
variable {ae:St}{H:Hp}{Q:VK}{D:Vh}{K:Frag}{dt:R2}
theorem ZoJ{i j:Int}(q:Q (.int (i+j)) H):rOr rT dt (.int i) (.int j) H Q:= .inl ⟨i,j,rfl,rfl,q⟩
theorem Zk7{cH:R2}{i j:Str}(af:i.length+j.length≤sizeLine)(q:Q (.str (i++j)) H):rOr cH (rOr ZdI dt) (.str i) (.str j) H Q:= .inr (.inl ⟨i,j,rfl,rfl,af,q⟩)
theorem Zar{cH cX:R2}{a b:Addr}{xs ys:List V}(aZ:H a=some (.lst xs))(ag:H b=some (.lst ys))(af:xs.length+ys.length≤sizeLine)(q:∀p,H p=none→Q (.ref p) (upd H p (.lst (xs++ys)))):
  rOr cH (rOr cX (rOr rCat dt)) (.ref a) (.ref b) H Q:= .inr (.inr (.inl ⟨a,b,xs,ys,rfl,rfl,aZ,ag,af,q⟩))
theorem ZoY{i j:Int}(c:IntMulOk i j)(q:Q (.int (i*j)) H):rOr Zh9 dt (.int i) (.int j) H Q:= .inl ⟨i,j,rfl,rfl,c,q⟩
theorem ZpA{i j:Int}(q:Q (.bl (decide (i=j))) H):rOr rEq dt (.int i) (.int j) H Q:= .inl (eqI q)
theorem Zpt{i j:Int}(q:Q (.bl (!decide (i=j))) H):rOr rNe dt (.int i) (.int j) H Q:= .inl (neI q)
theorem Zf7{x y:V}{aY hI:PyData}(ao:fT K H x aY)(a':fT K H y hI)(uZ:aY.canLay0=true)(u0:hI.canLay0=true)(dp:aY.depth≤60)(q:Q (.bl (PyData.eqv aY hI)) H):rOr rEq (kN K false) x y H Q:=
 .inr ⟨aY,hI,ao,a',uZ,u0,dp,q⟩
theorem ZmR{x y:V}{aY hI:PyData}(ao:fT K H x aY)(a':fT K H y hI)(uZ:aY.canLay0=true)(u0:hI.canLay0=true)(dp:aY.depth≤60)(q:Q (.bl (!PyData.eqv aY hI)) H):rOr rNe (kN K true) x y H Q:=
 .inr ⟨aY,hI,ao,a',uZ,u0,dp,q⟩
theorem Znc{p:Addr}{xs:List V}{i:Int}{v:V}(h:SqL K H p xs)(e:atI xs i=some v)(q:Q v H):rIx K (.ref p) (.int i) H Q:= .inl (ixl h e q)
theorem Zpw{p:Addr}{xs:List V}{i:Int}{v:V}(h:SqT K H p xs)(e:atI xs i=some v)(q:Q v H):rIx K (.ref p) (.int i) H Q:= .inr (.inl (ixt h e q))
theorem Zpu{C:Nat→Prop}{p:Addr}{xs:List V}(h:SqL K H p xs)(q:C xs.length):∃x n,[V.ref p]=[x]∧ZaY K x H n∧C n:=⟨_,_,rfl,.inl ⟨xs,h,rfl⟩,q⟩
theorem Zou{C:Nat→Prop}{p:Addr}{xs:List V}(h:SqT K H p xs)(q:C xs.length):∃x n,[V.ref p]=[x]∧ZaY K x H n∧C n:=⟨_,_,rfl,.inr ⟨xs,h,rfl⟩,q⟩
theorem lenS{C:Nat→Prop}{y:Str}(h:y.length≤sizeLine)(q:C y.length):∃x n,[V.str y]=[x]∧ZaY K x H n∧C n:=⟨_,_,rfl,⟨h,rfl⟩,q⟩
theorem Zog{i:Nat}{v:V}{ci:St}{Q:St→Hp→Prop}(e:ae.set i (some v)=ci)(h:Q ci H):UL i v ae H Q:=by
 subst e;exact h
theorem ifP{c A B:Prop}[Decidable c](h:c)(a:A):if decide c=true then A else B:=by rw[decide_eq_true h];exact Zex a
theorem ifN{c A B:Prop}[Decidable c](h:¬c)(b:B):if decide c=true then A else B:=by rw[decide_eq_false h];exact Zey b
theorem ZoQ{c A B:Prop}[Decidable c](h:c)(b:B):if(!decide c)=true then A else B:=by rw[decide_eq_true h];exact Zey b
theorem ZoK{c A B:Prop}[Decidable c](h:¬c)(a:A):if(!decide c)=true then A else B:=by rw[decide_eq_false h];exact Zex a
theorem Zpm{b:Bool}{C:Bool→Prop}(q:C b):∃k,pC K (.bl b) H k∧C k:=⟨b,rfl,q⟩
end
end Rd
namespace Rd
section
variable {H:Hp}{C:Bool→Prop}{K:Frag}
theorem Ziw{i:Int}(q:C true):∃x fK t b,[V.int i,.ty "int"]=[x,.ty fK]∧Wq K H x t∧PySem.W.kitOne K t (.type fK)=some b∧C b:=⟨_,_,_,true,rfl,.int i,rfl,q⟩
theorem Zhm{i:Int}(q:C false):∃x fK t b,[V.int i,.ty "bool"]=[x,.ty fK]∧Wq K H x t∧PySem.W.kitOne K t (.type fK)=some b∧C b:=⟨_,_,_,false,rfl,.int i,rfl,q⟩
theorem Zik{i:Str}(q:C true):∃x fK t b,[V.str i,.ty "str"]=[x,.ty fK]∧Wq K H x t∧PySem.W.kitOne K t (.type fK)=some b∧C b:=⟨_,_,_,true,rfl,.str i,rfl,q⟩
theorem Zhe{p:Addr}{xs:List V}(h:H p=some (.lst xs))(q:C true):∃x fK t b,[V.ref p,.ty "list"]=[x,.ty fK]∧Wq K H x t∧PySem.W.kitOne K t (.type fK)=some b∧C b:=⟨_,_,_,true,rfl,.lst h,rfl,q⟩
theorem ZgG{p:Addr}{xs:List V}(h:H p=some (.tup xs))(q:C true):∃x fK t b,[V.ref p,.ty "tuple"]=[x,.ty fK]∧Wq K H x t∧PySem.W.kitOne K t (.type fK)=some b∧C b:=⟨_,_,_,true,rfl,.tup h,rfl,q⟩
end
end Rd
noncomputable def ZhQ (p0 cE:Scope) (N zs:List Str) (ix:List Nat):Bool:=
 decide (cE.kind= .function)&&(cE.names.all λy=>decide (y.2≠ .cell))&&(cE.names.all λy=>decide (y.2= .local→cE.names.lookup y.1=some .local))&&
 (cE.names.all λy=>decide (y.2= .free→p0.names.lookup y.1=some .cell∨p0.names.lookup y.1=some .free))&&(zs.all λz=>decide (cE.names.lookup z=some .free))&&decide (ix.map (λj=>N[j]?)=zs.map some)
theorem fU{X:Cx}{cE:Scope}{x:Str}{zs:List Str}{ix:List Nat}(p0:Scope)(N:List Str)(aW:X.env.scope=p0)(a7:X.N=N)(h:ZhQ p0 cE N zs ix=true):Y3 X cE x zs ix:=by
 unfold ZhQ at h;simp only[qa2,qbx,decide_eq_true_eq] at h;obtain⟨⟨⟨⟨⟨ai,aw⟩,cC⟩,c3⟩,eE⟩,dS⟩:=h;subst aW a7;exact⟨ai,aw,cC,c3,eE,dS⟩
def Zcl(CX:CXT)(X:Cx)(J:St→Prop)(E:XK):Prop:=∀(ah:List (Addr×Obj))(ae:St)(H:Hp)(s:Shared)(e:Value)(s':Shared),J ae→Inv X ah ae H s→CX X.stack H s E e s'→X.xe e s'
noncomputable def ZdZ (J:St→Prop) (sp:Sp) (ef:List V) (E:XK) (t:TA):TE:=λae H Q=>J ae∧t ae H λvs aj=>sp (vs++ef) aj Q E
section
variable {X:Cx}{CX:CXT}{k:Nat}{f C:Addr}{fd:FuncData}{ps:List Str}{sp:Sp}{ef:List V}{cB:List Value}{E:XK}{J:St→Prop}{x m:Str}{p pos eI:Pos}{e o:Expr}{aN:List Expr}{a_:TE}{t:TA}
def Zm3(CX:CXT)(X:Cx)(ae:St)(E:XK):Prop:=∀(ah:List (Addr×Obj))(H:Hp)(s:Shared)(e:Value)(s':Shared),Inv X ah ae H s→CX X.stack H s E e s'→X.xe e s'
theorem Zph{ah:List (Addr×Obj)}{ae:St}{H:Hp}{s:Shared}{Q:VK}{us:List Value}{vs:List V}(F:YN X.prog X.w X.K X.mg X.base CX k f fd ps sp)(av:eP k X.A)(ag:Wh X.K fd ps cB)(hd:cZ ef cB)(ao:Zm3 CX X ae E)
  (I:Inv X ah ae H s) (r:cZ vs us) (h:sp (vs++ef) H Q E):wpAny (model X.prog X.w) X.A (call (.ref f) us) (EP X ah ae Q) X.xe s:=by
 have cX:cZ (vs++ef) (us++cB):=r.append hd;have af:(us++cB).length=ps.length:=by rw[←cX.length];exact F.len _ _ _ _ h
 refine wpAny_call (codeAny_mono (F.run X.A X.stack s H ⟨us,[]⟩ (us++cB) (vs++ef) Q E av I.env0 (ag s us I.kIn af) cX h) λr s' cG=>?_);cases r with
 |error e=>exact ao ah H s e s' I cG
 |ok fF=>
  cases fF with
  |ret u=>exact I.after cG
  |next=>exact False.elim cG
  |brk=>exact False.elim cG
  |cont=>exact False.elim cG
theorem ZkI(F:YN X.prog X.w X.K X.mg X.base CX k f fd ps sp)(av:eP k X.A)(aM:Gl X x)(a6:X.mg x=some (.ref f))(aR:keepIn X.K (.ref f)=true)(ag:Wh X.K fd ps cB)(hd:cZ ef cB)(ao:Zcl CX X J E)
  (aZ:PA X (e::aN) t) (f':(x==("__debug__" :Str))=false:=by decide) (cp:starEach (e::aN) X.env=(false,eval e X.env)::starEach aN X.env:=by rfl) (fO:(backTo pos (starEach aN X.env)).any (·.1)=false:=by rfl):
  PE X (.Call (.Name x p) (e::aN) [] pos) (ZdZ J sp ef E t):=by
 intro ah s ae H Q I h;obtain⟨np,h⟩:=h;refine wpAny_Call_Name_kw (m4 I aM a6 ?_ f');refine callWith_K (h₀:=X.base) I.ok.mod.kin aR (thn (aZ pos ah s ae H _ I h) λus az ⟨vs,aj,bD,r,q⟩=>⟨bD.kIn,?_⟩) cp fO;exact Zph F av ag hd (λah H s e s'=>ao ah ae H s e s' np) bD r q
def ZpB(X:Cx)(body:List Stmt)(c4:(St→Prop)→XK→TS):Prop:=∀(J:St→Prop)(jy:XK)(pn:List (Addr×Obj))(lG:Value→Shared→Prop),PassesOwn (model X.prog X.w) X.A X.env lG→
 Zcl (CXX X.prog X.w) {X with pn:=pn,xe:=lG} J jy→PSs {X with pn:=pn,xe:=lG} body (c4 J jy)
def Zm1(X:Cx)(p1:List Stmt)(h3:TS):Prop:=∀(gj:Around),PSs {X with A:=gj,calm:=false,xe:=λ_ _=>False} p1 h3
end
section
variable {K:Frag}{H:Hp}
theorem fT.ints{p:Addr}{ns:List Int}(h:SqL K H p (ns.map V.int)):fT K H (.ref p) (.list (ns.map PyData.int)):= .lst h (DRels.ints ns)
namespace Rd
variable {Q:VK}
end Rd
end
structure Walks(J:It)(n:Nat)(f:Nat→V)(H:Hp):Prop where
 go:∀H' i,Zf H H'→i<n→J.go i H'
 yld:∀H' i x ay,Zf H H'→i<n→J.yld i H' x ay→ay=H'∧x=f i
 stop:∀H',Zf H H'→J.stop n H'
theorem VB{lo:Int}{n:Nat}{H:Hp}:Walks (Itr lo n) n (λi=> .int (lo+i)) H:=⟨λ_ _ _ h=>h,λ_ _ _ _ _ _ h=>h,λ_ _=>FM _⟩
theorem gy{K:Frag}{a:Addr}{xs:List V}{H:Hp}(h:SqL K H a xs):Walks (Itl K a) xs.length (λi=>xs.getD i .non) H:=
 ⟨λH' i e hi=>⟨xs,xs[i],e.seq h,by simp[hi]⟩,λH' i x ay e hi y=>⟨y.1,by
  have:=y.2 xs (e.seq h);simp[List.getD,this]⟩,λH' e=>⟨xs,e.seq h,FM _⟩⟩
theorem WG{J:It}{n:Nat}{f:Nat→V}{p2:Hp}(w:Walks J n f p2){g:TG}{c4:TS}{D:Vh}{ae:St}{H:Hp}(Pv:Nat→St→Hp→Prop)(c8:Pv 0 ae H)(aR:∀i ae H,Pv i ae H→Zf p2 H)
  (hs:∀i ae H,i<n→Pv i ae H→g (f i) ae H λcY ay=>c4 {D with nx:=Pv (i+1),ct:=Pv (i+1),bk:=D.nx} cY ay) (hd:∀ae H,Pv n ae H→D.nx ae H):
  ∃W:Nat→Nat→St→Hp→Prop,(∃m,W 0 m ae H)∧∀i m ae H,W i m ae H→
   (J.stop i H∧D.nx ae H)∨(J.go i H∧∃N:St→Hp→Prop,(∀ci H',N ci H'→∃cQ,cQ<m∧W (i+1) cQ ci H')∧∀x H',J.yld i H x H'→g x ae H' λcY ay=>c4 {D with nx:=N,ct:=N,bk:=D.nx} cY ay):=by
 refine⟨λi m ae H=>m=n-i∧i≤n∧Pv i ae H,⟨n,by simp,qaA _,c8⟩,?_⟩;rintro i m ae H ⟨rfl,hi,p⟩;have sm:=aR i ae H p
 by_cases dz:i<n
 ·refine .inr ⟨w.go H i sm dz,Pv (i+1),λci H' fg=>⟨n-(i+1),by omega,rfl,dz,fg⟩,λx H' y=>?_⟩;obtain⟨rfl,rfl⟩:=w.yld H i x H' sm dz y;exact hs i ae _ dz p
 ·have e:i=n:=by omega
  subst e;exact .inl ⟨w.stop H sm,hd ae H p⟩
theorem YX{ix:List Nat}{dN:TT}{cV:TE}{Q:Addr→Hp→Prop}{ae:St}{H:Hp}{J:It}{n:Nat}{f:Nat→V}(w:Walks J n f H)(bA:n<sizeLine)(c:Nat→Bool)(r:Nat→V)
  (ax:∀i H' (ds:Bool→Hp→Prop),i<n→Zf H H'→(∀bC,Zf H' bC→ds (c i) bC)→dN (some (f i)::ix.map λj=>(ae[j]?).join) H' ds)
  (cp:∀i H' (ds:VK),i<n→c i=true→Zf H H'→(∀cj,Zf H' cj→ds (r i) cj)→cV (some (f i)::ix.map λj=>(ae[j]?).join) H' ds)
  (q:∀p H',H p=none→Zf H H'→H' p=some (.lst (((List.range n).filter c).map r))→Q p H'):
  ∀p,H p=none→∃W:Nat→Nat→List V→St→Hp→Prop,(∃m,W 0 m [] (emb ix ae) (upd H p (.lst [])))∧∀i m ys ci H',W i m ys ci H'→
   (J.stop i H'∧Q p H')∨(J.go i H'∧∀x ay,J.yld i H' x ay→UL 0 x ci ay λcY bF=>dN cY bF λb bC=>
    if b=true then cV cY bC λv cj=>cj p=some (.lst ys)∧ys.length<sizeLine∧∃cQ,cQ<m∧W (i+1) cQ (ys++ [v]) cY (upd cj p (.lst (ys++ [v])))
    else ∃cQ,cQ<m∧W (i+1) cQ ys cY bC):=by
 intro p aS;refine⟨λi m ys ci H'=>m=n-i∧i≤n∧(∃a,ci=a::ix.map λj=>(ae[j]?).join)∧Zf H H'∧H' p=some (.lst ys)∧ys=((List.range i).filter c).map r,
  ⟨n,by simp,qaA _,⟨none,rfl⟩,cP aS,Ze,rfl⟩,?_⟩
 rintro i m ys ci H' ⟨rfl,hi,⟨a,rfl⟩,sm,a',af⟩
 by_cases dz:i<n
 ·refine .inr ⟨w.go H' i sm dz,λx ay y=>?_⟩;obtain⟨rfl,rfl⟩:=w.yld H' i x ay sm dz y;show dN ((a::ix.map λj=>(ae[j]?).join).set 0 (some (f i))) ay _;have ed:ys.length≤i:=by
   rw[af,GE];exact qaz (qbT _ _) (by simp)
  refine ax i ay _ dz sm λbC cI=>?_;have kc:=sm.trans cI;have lH:=cI _ _ a';have step:(List.range (i+1)).filter c=(List.range i).filter c++(if c i=true then[i] else[]):=by
   rw[qb3,List.filter_append]
   congr 1
   by_cases h:c i=true<;>simp[h]
  by_cases iJ:c i=true
  ·rw[iJ,if_pos rfl];refine cp i bC _ dz iJ kc λcj cK=>⟨cK _ _ lH,by omega,n-(i+1),by omega,rfl,dz,⟨_,rfl⟩,(kc.trans cK).new aS,Ze,?_⟩;rw[step,if_pos iJ,qaG,af]
   rfl
  ·have u1:c i=false:=by simpa using iJ
   rw[u1,if_neg qag];refine⟨n-(i+1),by omega,rfl,dz,⟨_,rfl⟩,kc,lH,?_⟩;rw[step,if_neg iJ,qb2,af]
 ·have e:i=n:=by omega
  subst e;exact .inl ⟨w.stop H' sm,q p H' aS sm (by rw[←af];exact a')⟩
structure eb(A:List Addr)(H H':Hp):Prop where
 keep:∀b o,H b=some o→b∉A→H' b=some o
 tups:∀b xs,H b=some (.tup xs)→H' b=some (.tup xs)
theorem Zf.frame{A:List Addr}{H H':Hp}(e:Zf H H'):eb A H H':=⟨λb o h _=>e b o h,λb xs h=>e b _ h⟩
theorem eb.refl{A:List Addr}{H:Hp}:eb A H H:=(Zf.refl H).frame
theorem eb.trans{A:List Addr}{H aj ay:Hp}(a:eb A H aj)(b:eb A aj ay):eb A H ay:=⟨λc o h n=>b.keep c o (a.keep c o h n) n,λc xs h=>b.tups c xs (a.tups c xs h)⟩
theorem eb.mono{A B:List Addr}{H H':Hp}(a:eb A H H')(h:∀x∈A,x∈B):eb B H H':=⟨λc o e n=>a.keep c o e λz=>n (h c z),a.tups⟩
theorem jH{A:List Addr}{H:Hp}{p:Addr}{o cM:HO}(aS:p∈A)(h:H p=some o)(cu:∀xs,o≠ .tup xs):eb A H (upd H p cM):=by
 refine⟨λb u e n=>?_,λb xs e=>?_⟩
 ·have z:b≠p:=λz=>n (by rw[z];exact aS);rw[cq z];exact e
 ·have z:b≠p:=λz=>cu xs (by rw[z,h] at e;exact qap e);rw[cq z];exact e
def Uf(A gj:List Addr)(H:Hp):Prop:=∀a∈gj,a∈A∨H a=none
theorem Uf.refl{A:List Addr}{H:Hp}:Uf A A H:=λ_ h=> .inl h
section
variable {K:Frag}{H H':Hp}{A gj:List Addr}
namespace Rd
variable {Q:VK}
end Rd
end
noncomputable def Its (x:Str):It:=⟨λi _=>i<x.cps.size,λi H v H'=>H'=H∧∃c,x.cps[i]? =some c∧v= .str ⟨#[c]⟩,λi _=>x.cps.size≤i⟩
theorem Fv{P:Program}{w:World}{K:Frag}{de:Expr}(it:Addr)(x:Str)(t:Tok)(ty:String)(hG:ty="str_ascii_iterator" ∨ty="str_iterator"):U6 P w K de (Its x) [it] it (λi h=>h.IsStrIter it ty x t i) where
 mem:=by simp
 obj:=λi h st b ag=>by
  have e:b=it:=by simpa using ag
  subst e;obtain⟨o,e,c,d⟩:=st;exact⟨o,e,λv z=>by rw[d] at z;cases z⟩
 keep:=λi h h' st k=>let⟨o,bc,r⟩:=st;⟨o,k it (by simp) o bc,r⟩
 item:=by
  intro X d0 hw eH ax i ah s ae H E I bB st aM;subst d0 hw eH;obtain⟨dE,f1,f2,dI,eh,em⟩:=bB it (by simp);have hi:i<x.cps.size:=aM;have eN:∀h':Heap,h'.IsStrIter it ty x t (i+1)→Heap.SameBut it s.heap h'→∃u,some (Value.str ⟨#[x.cps[i]]⟩ s.toks)=some u∧
    wpAny (model X.prog X.w) X.A (letOwnedTupleGo de (.ref it) u) (λ_ b'=>∃y H',Inv X ah ae H' b'∧c2 y u∧(Its x).yld i H y H'∧b'.heap.IsStrIter it ty x t (i+1)∧∀b∈[it],H' b=none) E {s with heap:=h',toks:=s.toks+1}:=λh' iD iE=>by
   have bD:Inv X ah ae H {s with heap:=h',toks:=s.toks+1}:=I.turned (t':=s.toks+1) (λb o ag e=>(iE.2 b ag).trans e) dE f1 dI eh em;obtain⟨o,e,c,d⟩:=id iD;refine⟨_,rfl,pz (s:={s with heap:=h',toks:=s.toks+1}) e c d (by rcases hG with rfl|rfl<;>decide) ⟨.str ⟨#[x.cps[i]]⟩,H,bD,⟨_,rfl⟩,⟨rfl,x.cps[i],by simp[hi],rfl⟩,iD,λb ag=>(bB b ag).1⟩⟩
  rcases hG with rfl|rfl
  ·exact wpAny_pyNext_ascii_item st (c:=x.cps[i]) (by simp[hi]) eN
  ·exact wpAny_pyNext_wide_item st (c:=x.cps[i]) (by simp[hi]) eN
 done:=by
  intro X d0 hw eH ax i ah s ae H E I bB st aM;subst d0 hw eH;obtain⟨dE,f1,f2,dI,eh,em⟩:=bB it (by simp);have hi:x.cps.size≤i:=aM;rcases hG with rfl|rfl
  ·exact wpAny_pyNext_ascii_end (I.ok.hd ax) st (by simp[hi]) λh' df=>⟨rfl,I.turned (t':=s.toks) (λb o ag e=>df b o ag e) dE f1 dI eh em⟩
  ·exact wpAny_pyNext_wide_end (I.ok.hd ax) st (by simp[hi]) λh' df=>⟨rfl,I.turned (t':=s.toks) (λb o ag e=>df b o ag e) dE f1 dI eh em⟩
 self:=λ_ _ _ _ _ st h=>by
  rcases hG with rfl|rfl
  ·exact wpAny_pyIter_striter_ascii st h
  ·exact wpAny_pyIter_striter_wide st h
section
variable {X:Cx}{de:Expr}
noncomputable def y_ (d4:TE):TI:=λae H R=>d4 ae H λx aj=>∃y,x= .str y∧R (Its y) aj
theorem Fw{l:Expr}{d4:TE}(af:PE X l d4):PI X de l (y_ d4):=by
 intro ah s ae H R I h;refine thn (af ah s ae H _ I h) λv az ⟨x,aj,bD,cH,cA⟩=>?_;obtain⟨y,e,q⟩:=cA;subst e;obtain⟨t,rfl⟩:=cH;have eN:∀ty:String,(ty="str_ascii_iterator" ∨ty="str_iterator")→PIE X ah ae de R (.ref az.heap.objs.size) {az with heap:=az.heap.push {cls:= .type ty,data:= .fields #[.str y t,.int 0 0]}}:=λty hG=>by
  refine⟨az.heap.objs.size,[az.heap.objs.size],_,_,aj,rfl,bD.kept (t':=az.toks) λb o e=>Heap.get?_push_of_some _ e,Fv _ y t ty hG,⟨_,Heap.get?_push_size _ rfl,rfl,rfl⟩,λb ag=>?_,q⟩;have e:b=az.heap.objs.size:=by simpa using ag
  subst e;exact bD.fpOk (FM _) (bD.hok.fresh (FM _))
 cases aZ:y.cps.all (· <128)
 ·exact wpAny_pyIter_wide aZ (eN _ (.inr rfl))
 ·exact wpAny_pyIter_ascii aZ (eN _ (.inl rfl))
theorem ZjA{x:Str}{H:Hp}:Walks (Its x) x.cps.size (λi=> .str ⟨#[x.cps.getD i 0]⟩) H:=
 ⟨λ_ _ _ h=>h,λH' i v ay _ hi ⟨e,c,ax,cn⟩=>⟨e,by rw[cn];simp[Array.getD,hi] at ax⊢;exact ax.symm⟩,λ_ _=>FM _⟩
noncomputable def rLeS:R2:=λx y H Q=>∃i j,x= .str i∧y= .str j∧Q (.bl (!decide (j.cps.toList<i.cps.toList))) H
theorem y':OpR X (compareOp .LtE) rLeS:=by
 intro ah s ae H x y v u Q I cr cJ h;obtain⟨i,j,rfl,rfl,q⟩:=h;obtain⟨t,rfl⟩:=cr;obtain⟨t',rfl⟩:=cJ;exact PySem.P.le_str ⟨.bl _,H,I,rfl,q⟩
theorem u2{s:Shared}:∀{bs:List Bool}{us:List Value},cZ (bs.map V.bl) us→us=bs.map Value.bool
 | [],_,r=>by cases r;rfl
 |b::bs,_,r=>by
  cases r with
  |cons cH cX=>
   have e:_=Value.bool b:=cH;rw[e,u2 (s:=s) cX]
   rfl
theorem za{s:Shared}{h':Heap}{o:Obj}(aR:∀b x,b∉[s.heap.objs.size]→(s.heap.push o).get? b=some x→h'.get? b=some x):∀b x,s.heap.get? b=some x→h'.get? b=some x:=
 λb x e=>aR b x (λa6=>by rw[qab.mp a6] at e;exact qbl _ (Heap.lt_size e)) (Heap.get?_push_of_some _ e)
theorem ZiJ(bs:List Bool):((List.range bs.length).all λi=>(bs[i]?).getD true)=bs.all id:=by
 rw[qbn,qbx,qbx]
 constructor
 ·intro h b ag;obtain⟨i,hi,rfl⟩:=qat ag;have:=h i (qaL.mpr hi);simpa[GT hi] using this
 ·intro h i hi;have dv:=qaL.mp hi;simp only[GT dv,Option.getD_some];exact h _ (fm dv)
theorem Zjy(ax:X.calm=true):YC X (.builtin "all") (λxs H Q=>∃(p:Addr)(bs:List Bool),xs=[.ref p]∧SqL X.K H p (bs.map V.bl)∧Q (.bl (bs.all id)) H):=by
 intro ah s ae H xs us Q I r h;obtain⟨p,bs,rfl,cG,q⟩:=h;obtain⟨u,rfl,cr⟩:=Wz r;cases cr;obtain⟨its,dk,pl,hz⟩:=I.list cG;have eJ:=u2 (s:=s) dk;subst eJ;have af:=pl.isList;have dz:p<s.heap.objs.size:=by obtain⟨_,e,_⟩:=af;exact Heap.lt_size e
 refine call_all_walk (wpAny_pyIter_list af ?_);refine⟨s.heap.objs.size,[s.heap.objs.size,p],[s.heap.objs.size],(bs.map Value.bool).toArray.size,_,_,λi=>(bs[i]?).getD true,rfl,PySem.Walks.list (A:=X.A.in1) (I.ok.hd ax) _ p (qak dz) (bs.map Value.bool).toArray,
  ⟨⟨_,Heap.get?_push_size _ rfl,rfl,rfl⟩,af.push _⟩,λi v s' pq E' d0 jV=>?_,λh' a5 aR=>?_⟩
 ·have p3:(bs.map Value.bool)[i]? =some v:=by simpa using d0
  rw[qaj] at p3;cases e:bs[i]? with
  |none=>rw[e] at p3;cases p3
  |some b=>
   rw[e] at p3;cases p3;have zb:pq ((bs[i]?).getD true) s':=jV;rw[e] at zb;exact wpAny_truthy_bool zb
 ·have e:((List.range (bs.map Value.bool).toArray.size).all λi=>(bs[i]?).getD true)=bs.all id:=by
   rw[qae,GE];exact ZiJ bs
  rw[e];exact⟨.bl (bs.all id),H,I.kept (za aR),rfl,q⟩
theorem ZjJ(ax:X.calm=true):YC X (.builtin "sum") (λxs H Q=>∃(p:Addr)(ns:List Int),xs=[.ref p]∧SqL X.K H p (ns.map V.int)∧Q (.int ns.sum) H):=by
 intro ah s ae H xs us Q I r h;obtain⟨p,ns,rfl,cG,q⟩:=h;obtain⟨u,rfl,cr⟩:=Wz r;cases cr;obtain⟨its,dk,pl,hz⟩:=I.list cG;have hi:=rE dk;obtain⟨xs,ao⟩:=hi.allInts.items;have fi:s.heap.IsList p (intItems xs):=ao▸pl.isList;refine sum_intListG (I.ok.hd ax) fi λh' a5 t' aR=>?_;have aW:ns=xs.toList.map (·.1):=by
  rw[←nums_intItems,←ao];exact(show numsOf its.toArray.toList=ns from hi.numsOf).symm
 have a7:preSum (numAt xs) xs.size=ns.sum:=by
  rw[preSum_eq,qaS (by simp),aW]
 rw[a7];exact⟨.int ns.sum,H,I.kept aR,⟨_,rfl⟩,q⟩
end
structure ZiR(K:Frag)(x qual:Str)(st:Stmt)(dT:Addr)(f:Addr)(fd:FuncData):Prop where
 ex:∃(fX:Value)(et:Option Addr)(kV fP eD:Value)(an:Option Addr)(cS ct:Value)(hn:Array (Option Value)),
  fd=fnOf x qual (ka st) (jv st) (cR st) (.ref dT) kV fP eD an cS ct∧K.lookup f=some ⟨fX,et,.func fd,hn⟩∧codeIn K cS qual=true
 kp:keepIn K (.ref f)=true
section
variable {P:Program}{w:World}{K:Frag}{mg:Str→Option Value}{base:Heap}
theorem ZiR.okX{x qual:Str}{st:Stmt}{dT f:Addr}{fd:FuncData}{N ps:List Str}{k:Nat}{sp:Sp}(F:ZiR K x qual st dT f fd)(S:Zs N ps (cR st))(len:∀vs H Q E,sp vs H Q E→vs.length=ps.length)
  (pG:∀(cS:Value)(A:Around)(outer:List Env)(s:Shared)(H:Hp)(vs:List V)(Q:VK)(E:XK),eP k (A.deeper (envOfC qual (cR st) s.heap.objs.size f cS))→sp vs H Q E→
   ∃t,PSs (cxX P w K mg base N qual (cR st) f cS A outer s H E) (jv st) t∧t {nx:=λ_ H'=>Q .non H',rt:=Q} (start N vs) H):YN P w K mg base (CXX P w) (k+1) f fd ps sp:=by
 obtain⟨fX,et,kV,fP,eD,an,cS,ct,hn,rfl,lk,jn⟩:=F.ex;exact ZlW lk jn S len λA outer s H vs Q E av jF=>pG cS A outer s H vs Q E av jF
theorem Zmt{x qual:Str}{st:Stmt}{dT f:Addr}{fX:Value}{et an:Option Addr}{hn:Array (Option Value)}{kV fP eD cS ct:Value}(l:K.lookup f=some ⟨fX,et,.func (fnOf x qual (ka st) (jv st) (cR st) (.ref dT) kV fP eD an cS ct),hn⟩)
  (c:codeIn K cS qual=true) (k:keepIn K (.ref f)=true):ZiR K x qual st dT f (fnOf x qual (ka st) (jv st) (cR st) (.ref dT) kV fP eD an cS ct):=⟨⟨fX,et,kV,fP,eD,an,cS,ct,hn,rfl,l,c⟩,k⟩
theorem Fx{h₀:Heap}{x:Str}{C:Addr}{zc:List Value}{mz:String}(X:K.In h₀)(g:h₀.Ns mainGlobals mg)(e:nsIn K mainGlobals x=some (some (.ref C)))(q:excIn K C zc mz=true):OwnCls x C zc mz mg h₀:=by
 refine⟨mg_of X g e,?_⟩;unfold excIn at q
 split at q
 ·rename_i dd cd sl bc
  split at q
  ·rename_i Q6 bm k0 k1 k2 k3 n k5 a6 hs;simp only[qa2,beq_iff_eq,Bool.not_eq_true'] at q;obtain⟨⟨⟨⟨⟨rfl,rfl⟩,zd⟩,cu⟩,hok⟩,rS⟩:=q;obtain⟨nm,bs,mro,ns,na,hd,sn,sub,ab,col,Q7⟩:=cd;dsimp only at a6 zd hok rS;subst a6 zd;have ei:sl=#[k0,k1,k2,k3,some (.builtin n),k5]:=by
    obtain⟨l⟩:=sl;simp only at hs;rw[hs]
   subst ei;exact⟨bm,ns,nm,na,bs,hd,sn,sub,ab,col,dd,k0,k1,k2,k3,k5,_,X _ _ bc,.of_isNs (PySem.W.isNs_of_in X hok),PySem.W.nsMap_none_of_in X hok rS,PySem.W.tail_of_in X cu⟩
  ·cases q
 ·cases q
section
variable {N:List Str}{qual:Str}{scope:Scope}{f:Addr}{cd:Value}{A:Around}{outer:List Env}{s₀:Shared}{H₀:Hp}{E:XK}
theorem jI{x:Str}{lE e2 pos:Pos}{lF:Expr}{rest:List Expr}{t:TA}{C:Addr}{B mz uY:String}{bm:List Value}(e:nsIn K mainGlobals x=some (some (.ref C)))(q:excIn K C bm mz=true)(FB:ExcBaseFacts B mz uY bm)
  (aM:Gl (cxX P w K mg base N qual scope f cd A outer s₀ H₀ E) x) (aZ:PA (cxX P w K mg base N qual scope f cd A outer s₀ H₀ E) (lF::rest) t)
  (cp:starEach (lF::rest) (cxX P w K mg base N qual scope f cd A outer s₀ H₀ E).env=(false,eval lF (cxX P w K mg base N qual scope f cd A outer s₀ H₀ E).env)::starEach rest (cxX P w K mg base N qual scope f cd A outer s₀ H₀ E).env:=by rfl)
  (nj:(backTo e2 (starEach rest (cxX P w K mg base N qual scope f cd A outer s₀ H₀ E).env)).any (·.1)=false:=by rfl) (f':(x==("__debug__" :Str))=false:=by decide):
  PS (cxX P w K mg base N qual scope f cd A outer s₀ H₀ E) (.Raise (some (.Call (.Name x lE) (lF::rest) [] e2)) none pos) (uW (.ref C) E t):=by
 intro ah s ae H D I h;exact Zld (Fx I.ok.mod.kin I.ok.mod.glob e q) FB aM aZ cp nj f' ah s ae H D I h
end
end
section
variable {X:Cx}
noncomputable def rSlS:V→Option Int→Option Int→Hp→VK→Prop:=λx lo hi H Q=>∃z,x= .str z∧z.length≤sizeLine∧Q (.str (Txt.slice z lo hi)) H
theorem Fy:SlR X rSlS:=by
 intro ah s ae H x v fZ gR lo hi sl Q I cr hs pl iF h;obtain⟨z,rfl,hz,q⟩:=h;obtain⟨t,rfl⟩:=cr;refine⟨"str",_,F.slot_str_getitem.lookup,typeIs_str _ _ _,?_⟩;have eN:∀l u:Option (Int×Tok),l.map (·.1)=lo→u.map (·.1)=hi→partValue l=fZ→partValue u=gR→wpAny (model X.prog X.w) X.A (getItem (.str z t) (.ref sl)) (EP X ah ae Q) X.xe s:=λl u aW a7 c_ gU=>by
  obtain⟨o,bc,ax,hd⟩:=hs;subst aW a7 c_ gU;exact wpAny_getItem_str_slice (l:=l) (u:=u) (st:=none) ⟨o,bc,ax,hd⟩ rfl (post_val_or_str ⟨qaz (Txt.slice_le z _ _) hz,λt' k=>⟨.str _,H,I.tok k,⟨_,rfl⟩,q⟩⟩)
 cases pl with
 |none=>
  cases iF with
  |none=>exact eN none none rfl rfl rfl rfl
  |int j t'=>exact eN none (some (j,t')) rfl rfl rfl rfl
 |int i ti=>
  cases iF with
  |none=>exact eN (some (i,ti)) none rfl rfl rfl rfl
  |int j t'=>exact eN (some (i,ti)) (some (j,t')) rfl rfl rfl rfl
noncomputable def rV (K:Frag):V→Option Int→Option Int→Hp→VK→Prop:=λx lo hi H Q=>yX K x lo hi H Q∨(yW K x lo hi H Q∨rSlS x lo hi H Q)
theorem Fz:SlR X (rV X.K):=EV.or (EN.or Fy)
end
structure Vz(K:Frag)(C:Addr)(fs:List Str):Prop where
 out:∀f∈fs,iY K C f
theorem Vz.get{K:Frag}{C:Addr}{fs:List Str}{f:Str}(h:Vz K C fs)(m:fs.contains f=true):iY K C f:=h.out f (by simpa using m)
namespace Rd
section
variable {ae:St}{H:Hp}{Q:VK}{D:Vh}{K:Frag}
theorem slL{a:Addr}{xs:List V}{lo hi:Option Int}(h:SqL K H a xs)(q:∀p,H p=none→Q (.ref p) (upd H p (.lst (iG xs lo hi)))):rV K (.ref a) lo hi H Q:= .inl ⟨a,xs,rfl,h,q⟩
theorem sl{r:V→Option Int→Option Int→Hp→VK→Prop}{cV:TE}{d4 h3:TO}(h:cV ae H λx aj=>d4 ae aj λl ay=>h3 ae ay λu bF=>r x l u bF Q):tSl r cV d4 h3 ae H Q:=h
theorem ZnR{Q:Option Int→Hp→Prop}(h:Q none H):tNoPart ae H Q:=h
theorem ZoH{cV:TE}{Q:Option Int→Hp→Prop}(h:cV ae H λx aj=>∃i,x= .int i∧Q (some i) aj):yU cV ae H Q:=h
theorem ZoA{i:Int}{C:Int→Prop}(h:C i):∃j,V.int i= .int j∧C j:=⟨i,rfl,h⟩
theorem Zo9{a_:TE}{f:Str}(h:a_ ae H λx aj=>∃a C aY fs v,x= .ref a∧aj a=some (.ins C aY fs)∧Cls K C∧iY K C f∧fs.lookup f=some v∧Q v aj):uc K a_ f ae H Q:=h
theorem fld{a C aY:Addr}{fs:List (Str×V)}{f:Str}{v:V}{G:V→Prop}(h:H a=some (.ins C aY fs))(c:Cls K C)(n:iY K C f)(l:fs.lookup f=some v)(q:G v):
  ∃du C aY fs v,V.ref a= .ref du∧H du=some (.ins C aY fs)∧Cls K C∧iY K C f∧fs.lookup f=some v∧G v:=⟨a,C,aY,fs,v,rfl,h,c,n,l,q⟩
theorem Zoe{C:Addr}{m:Str}{sp:Sp}{ef:List V}{E:XK}{a_:TE}{t:TA}(h:a_ ae H λx aj=>∃a aY fs,x= .ref a∧aj a=some (.ins C aY fs)∧fs.lookup m=none∧t ae aj λvs ay=>sp (x::(vs++ef)) ay Q E):pD C m sp ef E a_ t ae H Q:=h
theorem Zot{C:Addr}{sp:Sp}{ef:List V}{E:XK}{t:TA}(h:t ae H λvs aj=>∀x aY,aj x=none→aj aY=none→aY≠x→
  sp (.ref x::(vs++ef)) (upd (upd aj aY (.own x)) x (.ins C aY [])) (λv ay=>v= .non∧Q (.ref x) ay) E):pE C sp ef E t ae H Q:=h
theorem ZoR{a_ ik:TE}{f:Str}(h:ik ae H λy aj=>a_ ae aj λx ay=>∃a C aY fs,x= .ref a∧ay a=some (.ins C aY fs)∧Cls K C∧iY K C f∧fs.length<1000∧D.nx ae (upd ay a (.ins C aY (gv f y fs)))):ud K a_ ik f D ae H:=h
theorem Zos{a C aY:Addr}{fs rx:List (Str×V)}{f:Str}{y:V}(h:H a=some (.ins C aY fs))(c:Cls K C)(n:iY K C f)(l:fs.length<1000)(e:gv f y fs=rx)(q:D.nx ae (upd H a (.ins C aY rx))):
  ∃du C aY fs,V.ref a= .ref du∧H du=some (.ins C aY fs)∧Cls K C∧iY K C f∧fs.length<1000∧D.nx ae (upd H du (.ins C aY (gv f y fs))):=⟨a,C,aY,fs,rfl,h,c,n,l,by rw[e];exact q⟩
theorem ZoE{cls:Value}{E:XK}{t:TA}(h:t ae H λvs aj=>vs.length≤sizeLine∧E cls none aj):uW cls E t D ae H:=h
theorem ZnN{v:V}{G:Prop}(q:G):[v].length≤sizeLine∧G:=⟨by show 1≤sizeLine;decide,q⟩
theorem Zor{cV:TE}{R:It→Hp→Prop}(h:cV ae H λx aj=>∃a,x= .ref a∧(∃xs,SqL K aj a xs)∧R (Itl K a) aj):t3 K cV ae H R:=h
theorem Zpp{cV:TE}{R:It→Hp→Prop}(h:cV ae H λx aj=>∃y,x= .str y∧R (Its y) aj):y_ cV ae H R:=h
theorem Zov{y:Str}{G:Str→Prop}(h:G y):∃z,V.str y= .str z∧G z:=⟨y,rfl,h⟩
theorem Zod{ix:List Nat}{eW:TI}{g:TG}{dN:TT}{cV:TE}(h:eW ae H λJ aj=>∀p,aj p=none→
 ∃W:Nat→Nat→List V→St→Hp→Prop,(∃m,W 0 m [] (emb ix ae) (upd aj p (.lst [])))∧∀i m ys ci H',W i m ys ci H'→
  (J.stop i H'∧Q (.ref p) H')∨(J.go i H'∧∀x ay,J.yld i H' x ay→g x ci ay λcY bF=>dN cY bF λb bC=>
   if b=true then cV cY bC λv cj=>cj p=some (.lst ys)∧ys.length<sizeLine∧∃cQ,cQ<m∧W (i+1) cQ (ys++ [v]) cY (upd cj p (.lst (ys++ [v])))
   else ∃cQ,cQ<m∧W (i+1) cQ ys cY bC)):uE ix eW g dN cV ae H Q:=h
theorem ZoO{Q:Bool→Hp→Prop}(h:Q true H):tAll ae H Q:=h
theorem lk0{f:Str}{v:V}{r:List (Str×V)}:((f,v)::r).lookup f=some v:=by simp
theorem lk1{f g:Str}{v:V}{o:Option V}{r:List (Str×V)}(n:(f==g)=false)(h:r.lookup f=o):((g,v)::r).lookup f=o:=by rw[qa3,n];exact h
theorem lkN{f:Str}:([]:List (Str×V)).lookup f=none:=rfl
theorem pf1{f g:Str}{v x:V}{r dt:List (Str×V)}(n:(g==f)=false)(h:gv f v r=dt):gv f v ((g,x)::r)=(g,x)::dt:=by
 have:¬g=f:=by simpa using n
 simp[gv,this,h]
theorem pfN{f:Str}{v:V}:gv f v []=[(f,v)]:=rfl
end
end Rd
namespace Rd
section
variable {H:Hp}{Q:VK}{K:Frag}
theorem ifD{c A B:Prop}[Decidable c](a:c→A)(b:¬c→B):if decide c=true then A else B:=by
 by_cases h:c
 ·exact ifP h (a h)
 ·exact ifN h (b h)
theorem Zpi{p:Addr}{bs:List Bool}{G:List Bool→Prop}(h:SqL K H p (bs.map V.bl))(q:G bs):∃(fg:Addr)(lI:List Bool),[V.ref p]=[.ref fg]∧SqL K H fg (lI.map V.bl)∧G lI:=⟨p,bs,rfl,h,q⟩
theorem leS{x y:Str}(q:Q (.bl (!decide (y.cps.toList<x.cps.toList))) H):rLeS (.str x) (.str y) H Q:=⟨x,y,rfl,rfl,q⟩
theorem Zoo{ae:St}{r dt:R2}{a_ c4 dN:TE}(h:a_ ae H λx aj=>c4 ae aj λy ay=>r x y ay λz bF=>∃k,z= .bl k∧(if k=true then dN ae bF λdC bC=>dt y dC bC Q else Q (.bl false) bF)):t_ r dt a_ c4 dN ae H Q:=h
end
end Rd
namespace Rd
section
variable {H:Hp}{Q:VK}{K:Frag}
theorem un1{g:Int→V}{i:Int}(q:Q (g i) H):rU g (.int i) H Q:=⟨i,rfl,q⟩
theorem Zny{z:Str}{i:Int}{c:Nat}(h:z.length≤sizeLine)(e:atI z.cps.toList i=some c)(q:Q (.str ⟨#[c]⟩) H):rIx K (.str z) (.int i) H Q:= .inr (.inr ⟨z,i,c,rfl,rfl,h,e,q⟩)
theorem Zni{a:Addr}{xs:List V}{G:Addr→Prop}(h:SqL K H a xs)(q:G a):∃du,V.ref a= .ref du∧(∃xs,SqL K H du xs)∧G du:=⟨a,rfl,⟨xs,h⟩,q⟩
theorem ZoC{j:Int}{G:Int→Prop}(ai: -(2 ^ 62)≤j)(aw:j<2 ^ 62)(q:G j):∃k,[V.int j]=[.int k]∧ -(2 ^ 62)≤k∧k<2 ^ 62∧G k:=⟨j,rfl,ai,aw,q⟩
theorem Zps{i j:Int}{G:Int→Int→Prop}(q:G i j):∃ht p4,[V.int i,.int j]=[.int ht,.int p4]∧G ht p4:=⟨i,j,rfl,q⟩
end
end Rd
noncomputable def hid (H:Hp) (r:Addr):Hp:=λb=>if b=r then none else H b
theorem u3{H:Hp}{r:Addr}:hid H r r=none:=by unfold hid;rw[if_pos rfl]
theorem VX{H:Hp}{r b:Addr}(h:b≠r):hid H r b=H b:=by unfold hid;rw[if_neg h]
theorem kd{H:Hp}{r:Addr}:Zf (hid H r) H:=λb o e=>by
 by_cases h:b=r
 ·rw[h,u3] at e;cases e
 ·rw[VX h] at e;exact e
theorem ze:∀ns:List Int,PyData.canLayAll0 (ns.map PyData.int)=true
 | []=>by simp[PyData.canLayAll0]
 |n::ns=>by
  have:=ze ns;simp[PyData.canLayAll0,PyData.canLay0] at this⊢;exact this
theorem mA(ns:List Int):(PyData.list (ns.map PyData.int)).canLay0=true:=by
 have:=ze ns;simp[PyData.canLay0];simpa using this
theorem zf:∀ns:List Int,PyData.depthAll (ns.map PyData.int)≤1
 | []=>by simp[PyData.depthAll]
 |n::ns=>by
  have:=zf ns;simp[PyData.depthAll,PyData.depth] at this⊢;exact this
theorem rW(ns:List Int):(PyData.list (ns.map PyData.int)).depth≤60:=by
 have:=zf ns;simp only[PyData.depth];omega
namespace Rd
section
variable {H:Hp}{Q:VK}{K:Frag}
end
end Rd
namespace Rd
section
variable {ae:St}{H:Hp}{Q:VK}{K:Frag}{J:St→Prop}{E:XK}{sp:Sp}{ef:List V}{t:TA}{a_:TE}
theorem Zop(aJ:J ae)(h:t ae H λvs aj=>sp (vs++ef) aj Q E):ZdZ J sp ef E t ae H Q:=⟨aJ,h⟩
end
end Rd
namespace Rd
section
variable {ae:St}{H:Hp}
theorem Zpz{to ti:TE}{t:ZcX}{v:V}{Q:St→Hp→Prop}(h:to ae H λo aj=>ti ae aj λi ay=>t o i v ay λbF=>Q ae bF):yz to ti t v ae H Q:=h
theorem ZoN{p:Addr}{xs:List V}{k:Int}{v:V}{Q:Hp→Prop}(aS:H p=some (.lst xs))(c8:0≤k)(ai:k<xs.length)(q:Q (upd H p (.lst (xs.set k.toNat v)))):rSetL (.ref p) (.int k) v H Q:=
 ⟨p,xs,k,k.toNat,rfl,rfl,aS,by unfold ixN;rw[if_pos c8,if_pos ai],q⟩
end
end Rd
noncomputable def mid (X hs:List Int) (i:Nat) (v:Int):List V:=(X.take i++v::hs.drop (i+1)).map V.int
section
variable {X hs:List Int}{i:Nat}{v u:Int}
theorem ZjW(h:i<hs.length):(X.take i++hs.drop i).map V.int=mid X hs i hs[i]:=by unfold mid;rw[List.drop_eq_getElem_cons h]
theorem Zma(h:i<X.length):mid X hs i X[i]=(X.take (i+1)++hs.drop (i+1)).map V.int:=by
 unfold mid;rw[qam h,qcb];rfl
theorem Zmp(h:i<hs.length)(e:X.length=hs.length):(mid X hs i v).length=hs.length:=by
 unfold mid;simp only[GE,qac,qaP,List.length_cons,qa1];omega
theorem FA(h:i<hs.length)(e:X.length=hs.length):(mid X hs i v)[i]? =some (.int v):=by
 unfold mid;have l:(X.take i).length=i:=by rw[qaP];omega
 rw[qaj,qaJ (by omega),l,Nat.sub_self]
 rfl
theorem zg(h:i<hs.length)(e:X.length=hs.length):(mid X hs i v).set i (.int u)=mid X hs i u:=by
 unfold mid;have l:(X.take i).length=i:=by rw[qaP];omega
 rw[qaG,qaG,List.set_append_right _ _ (by rw[GE];omega),GE,l,Nat.sub_self]
 rfl
end
noncomputable def only(q:Addr) (o:HO):Hp:=λa=>if a=q then some o else none
theorem p5{q:Addr}{o:HO}:only q o q=some o:=by unfold only;rw[if_pos rfl]
theorem Ur{q:Addr}{o:HO}{H:Hp}(h:H q=some o):Zf (only q o) H:=λb x e=>by
 unfold only at e
 by_cases c:b=q
 ·rw[if_pos c] at e;rw[c];cases e;exact h
 ·rw[if_neg c] at e;cases e
section
variable {X:Cx}{K:Frag}
theorem Zmk(e:X.K=K):OpR X (binaryOp .Add) (rOr rT (rOr ZdI (rOr rCat (pI K)))):=e▸Fu
theorem gJ(e:X.K=K)(hu:X.A.units+64<cLine):OpR X (compareOp .Eq) (rOr rEq (kN K false)):=e▸Znn hu
theorem ke(e:X.K=K)(hu:X.A.units+64<cLine):OpR X (compareOp .NotEq) (rOr rNe (kN K true)):=e▸ZmZ hu
theorem ZoV(e:X.K=K):IxR X (rIx K):=e▸ET
theorem rX(e:X.K=K):SlR X (rV K):=e▸Fz
noncomputable def u4 (K:Frag):List V→Hp→VK→Prop:=λxs H Q=>∃x n,xs=[x]∧ZaY K x H n∧Q (.int n) H
theorem Zoz(e:X.K=K):YC X (.builtin "len") (u4 K):=e▸ED
theorem FC(e:X.K=K):OpR X (compareOp .In) (rIn K false):=e▸EX
theorem gd{e:Expr}{a_:TE}{f:Str}{pos:Pos}(fu:X.K=K)(cp:PE X e a_)(ag:attributeBase e f X.env (eval e X.env)=eval e X.env):PE X (.Attribute e f pos) (uc K a_ f):=fu▸Znv cp ag
theorem nA{o value:Expr}{a_ ik:TE}{f:Str}{pos jY:Pos}(fu:X.K=K)(aZ:PE X o a_)(cn:PE X value ik)(hs:swapsWith value (some (.Attribute o f jY)) pos.line X.env=pure false):
  PS X (.Assign [.Attribute o f jY] value pos) (ud K a_ ik f):=fu▸Zng aZ cn hs
theorem gA{de l:Expr}{d4:TE}(fu:X.K=K)(af:PE X l d4):PI X de l (t3 K d4):=fu▸ZmK af
noncomputable def zh (K:Frag) (a_:TE):TT:=λae H Q=>a_ ae H λx H'=>∃k,pC K x H' k∧Q k H'
theorem hv{a:Expr}{a_:TE}(fu:X.K=K)(aZ:PE X a a_)(cp:∀m3,isTrue a X.env m3=(do let v←m3;standAt a.pos;holding [v] (truthy v))):PT X a (zh K a_):=fu▸Zlu aZ cp
noncomputable def zi (K:Frag):List V→Hp→VK→Prop:=λxs H Q=>∃x n t b,xs=[x,.ty n]∧Wq K H x t∧PySem.W.kitOne K t (.type n)=some b∧Q (.bl b) H
theorem lJ(e:X.K=K):YC X (.builtin "isinstance") (zi K):=e▸Fm
noncomputable def zj (K:Frag):List V→Hp→VK→Prop:=λxs H Q=>∃p ys,xs=[.ref p]∧(SqL K H p ys∨SqT K H p ys)∧∀l,H l=none→Q (.ref l) (upd H l (.lst ys))
theorem ov(e:X.K=K):YC X (.type "list") (zj K):=e▸EY
noncomputable def zk (K:Frag):List V→Hp→VK→Prop:=λxs H Q=>∃(p:Addr)(bs:List Bool),xs=[.ref p]∧SqL K H p (bs.map V.bl)∧Q (.bl (bs.all id)) H
theorem u5(e:X.K=K)(ax:X.calm=true):YC X (.builtin "all") (zk K):=e▸Zjy ax
noncomputable def zl (K:Frag):List V→Hp→VK→Prop:=λxs H Q=>∃(p:Addr)(ns:List Int),xs=[.ref p]∧SqL K H p (ns.map V.int)∧Q (.int ns.sum) H
theorem zm(e:X.K=K)(ax:X.calm=true):YC X (.builtin "sum") (zl K):=e▸ZjJ ax
theorem FD{o:Expr}{to:TE}{name:Str}{eI e2:Pos}{T id:String}{r:V→List V→Hp→VK→Prop}(fu:X.K=K)(ni:PlainAttrs T)(slot:Slot T name id)(hG:typeOf (.builtin id)=pure (.type "method_descriptor"))(a6:MtR X id r)(bc:PE X o to)
  (j8:attributeBase o name X.env (eval o X.env)=eval o X.env:=by rfl) (j9:(eI.endLine==e2.line)=true:=by rfl):PE X (.Call (.Attribute o name eI) [] [] e2) (ul K T r to):=fu▸ZnH ni slot hG a6 bc j8 j9
theorem iK{o e:Expr}{aN:List Expr}{to:TE}{t:TA}{name:Str}{eI e2:Pos}{T id:String}{r:V→List V→Hp→VK→Prop}(fu:X.K=K)(ni:PlainAttrs T)(slot:Slot T name id)(hG:typeOf (.builtin id)=pure (.type "method_descriptor"))(a6:MtR X id r)(bc:PE X o to)(aZ:PA X (e::aN) t)
  (j8:attributeBase o name X.env (eval o X.env)=eval o X.env:=by rfl)
  (um:((backTo e2 (starEach (e::aN) X.env)).all (λx=>!x.1)&&(backToKw e2 (keywordEach [] X.env)).all (λx=>x.1.isSome)
   &&decide ((e::aN).length+([]:List Keyword).length+(if([]:List Keyword).isEmpty then 0 else 1)<30))=true:=by rfl)
  (j9:(eI.endLine==e2.line)=true:=by rfl) (hs:starEach (e::aN) X.env=(false,eval e X.env)::starEach aN X.env:=by rfl) (nj:(backTo e2 (starEach aN X.env)).any (·.1)=false:=by rfl):
  PE X (.Call (.Attribute o name eI) (e::aN) [] e2) (tBM K T r to t):=fu▸Zoc ni slot hG a6 bc aZ j8 um j9 hs nj
theorem gK{aN:List Expr}{k:Nat}{t:TGs}{n:Nat}{pos:Pos}(fu:X.K=K)(ax:X.calm=true)(h:PGs X aN t)(bA:(assignEach aN X.env).length=n:=by rfl)(dQ:(assignEach aN X.env).findIdx? (·.1)=none:=by rfl):
  PG X (.Tuple aN k pos) (tX K n t):=fu▸ZmX ax h bA dQ
end
namespace Rd
section
variable {ae:St}{H:Hp}{Q:VK}{K:Frag}
theorem tru{a_:TE}{Q:Bool→Hp→Prop}(h:a_ ae H λx H'=>∃k,pC K x H' k∧Q k H'):zh K a_ ae H Q:=h
theorem Zpa{xs:List V}(h:∃x n,xs=[x]∧ZaY K x H n∧Q (.int n) H):u4 K xs H Q:=h
theorem ZoZ{xs:List V}(h:∃x n t b,xs=[x,.ty n]∧Wq K H x t∧PySem.W.kitOne K t (.type n)=some b∧Q (.bl b) H):zi K xs H Q:=h
theorem Zo1{xs:List V}(h:∃(p:Addr)(bs:List Bool),xs=[.ref p]∧SqL K H p (bs.map V.bl)∧Q (.bl (bs.all id)) H):zk K xs H Q:=h
theorem UW{p:Addr}{xs:List V}(h:SqL K H p xs)(q:∀l,H l=none→Q (.ref l) (upd H l (.lst xs))):zj K [.ref p] H Q:=⟨p,xs,rfl,.inl h,q⟩
theorem Zn1{p:Addr}{ns:List Int}(h:SqL K H p (ns.map V.int))(q:Q (.int ns.sum) H):zl K [.ref p] H Q:=⟨p,ns,rfl,h,q⟩
end
end Rd
def HU(A:Around):Prop:=A.units+64<cLine
theorem eP.hu{k:Nat}{A:Around}(h:eP k A):HU A:=h.units
theorem oA{i n a:Nat}(h:a=n)(k:i<n):i<a:=h▸k
theorem oB{n a m c:Nat}(h:a=n)(k:n≤m)(e:Nat.ble m c=true):a≤c:=h▸qaz k (qa7 e)
theorem oD{a m c:Nat}(k:a≤m)(e:Nat.ble m c=true):a≤c:=qaz k (qa7 e)
theorem oE{i n a:Nat}(h:a=n)(k:i<n):(i:Int)<(a:Int):=Int.ofNat_lt.mpr (h▸k)
theorem oF{i a:Nat}(k:i<a):(i:Int)<(a:Int):=Int.ofNat_lt.mpr k
theorem ixk{X:Cx}(K:Frag)(e:X.K=K:=by rfl):IxR X (rIx K):=ZoV e
theorem ej{X:Cx}(K:Frag)(e:X.K=K:=by rfl):OpR X (binaryOp .Add) (rOr rT (rOr ZdI (rOr rCat (pI K)))):=Zmk e
theorem fj{X:Cx}(K:Frag)(e:X.K=K:=by rfl):YC X (.builtin "len") (u4 K):=Zoz e
structure Ex(K:Frag)(mg:Str→Option Value)(nm:Str)(X:Addr):Prop where
 g:nsIn K mainGlobals nm=some (some (.ref X))
 m:mg nm=some (.ref X)
 e:excIn K X [.type "ValueError",.type "Exception",.type "BaseException",.type "object"] "ValueError.__new__" =true
theorem scI{N P:List Str}{cE:Scope}(a:cE.kind= .function:=by rfl)(b:cE.isCoroutine=false:=by rfl)(c:cE.isGenerator=false:=by rfl)(d:N.Nodup:=by decide+kernel)(e:N.take P.length=P:=by rfl)(f:∀x∈P,cE.names.lookup x=some .local∨cE.names.lookup x=some .cell:=by decide+kernel)(g:∀y∈cE.names,y.2≠ .free:=by decide+kernel):Zs N P cE:=⟨a,b,c,d,e,f,g⟩
structure Dn(K:Frag)(mg:Str→Option Value)(nm q:Str)(s:Stmt)(ps:List Str) where
 f:Addr
 d:FuncData
 F:Fun K nm q s f d
 b:Wh K d ps []
 m:mg nm=some (.ref f)
structure Dm(K:Frag)(C:Addr)(nm q:Str)(s:Stmt)(ps:List Str) where
 f:Addr
 d:FuncData
 F:Fun K nm q s f d
 b:Wh K d ps []
 M:Zev K C nm f
structure Di(K:Frag)(C:Addr)(q:Str)(s:Stmt)(ps:List Str) where
 f:Addr
 d:FuncData
 F:Fun K "__init__" q s f d
 b:Wh K d ps []
 M:Mk K C f
abbrev BOk(nm q:Str)(s:Stmt)(ps:List Str):Prop:=∀us:List Value,us.length=ps.length→∀(kV fP eD:Value)(an:Option Addr)(cS ct:Value),bindArgs (fnOf nm q (ka s) (jv s) (cR s) .none kV fP eD an cS ct) ⟨us,[]⟩=pure (ps.zip us)
section
variable {P:Program}{w:World}{K:Frag}{mg:Str→Option Value}{base h:Heap}{nm q:Str}{st:Stmt}{ps:List Str}{C f:Addr}{fX:Value}{et an:Option Addr}{hn:Array (Option Value)}{kV dc eD cd ct:Value}
noncomputable def Dn.of (X:K.In h) (G:h.Ns mainGlobals mg) (a:nsIn K mainGlobals nm=some (some (.ref f))) (l:K.lookup f=some ⟨fX,et,.func (fnOf nm q (ka st) (jv st) (cR st) .none kV dc eD an cd ct),hn⟩) (c:codeIn K cd q=true) (k:keepIn K (.ref f)=true)
  (ag:BOk nm q st ps):Dn K mg nm q st ps:=⟨f,_,oq l c k,(oq l c k).binds λa1 a2 a3 a4 eY iq us e=>ag us e a1 a2 a3 a4 eY iq,mg_of X G a⟩
noncomputable def Dm.of (a:PySem.W.findIn K (.ref C) nm=some (some (.ref f))) (i:isFn K (.ref f)=true) (l:K.lookup f=some ⟨fX,et,.func (fnOf nm q (ka st) (jv st) (cR st) .none kV dc eD an cd ct),hn⟩) (c:codeIn K cd q=true) (k:keepIn K (.ref f)=true)
  (ag:BOk nm q st ps):Dm K C nm q st ps:=⟨f,_,oq l c k,(oq l c k).binds λa1 a2 a3 a4 eY iq us e=>ag us e a1 a2 a3 a4 eY iq,⟨a,i,k⟩⟩
noncomputable def Di.of (z:makesIn K C=true) (y:keepIn K (.ref C)=true) (a:PySem.W.findIn K (.ref C) "__init__" =some (some (.ref f))) (i:isFn K (.ref f)=true) (l:K.lookup f=some ⟨fX,et,.func (fnOf "__init__" q (ka st) (jv st) (cR st) .none kV dc eD an cd ct),hn⟩) (c:codeIn K cd q=true) (k:keepIn K (.ref f)=true)
  (ag:BOk "__init__" q st ps):Di K C q st ps:=⟨f,_,oq l c k,(oq l c k).binds λa1 a2 a3 a4 eY iq us e=>ag us e a1 a2 a3 a4 eY iq,⟨z,a,i,y⟩⟩
theorem Zk1{db:Type _}{P:List db→Prop}(h:P [])(us:List db)(e:us.length=0):P us:=match us,e with| [],_=>h
theorem lenS{db:Type _}{n:Nat}{P:List db→Prop}(h:∀a (us:List db),us.length=n→P (a::us))(us:List db)(e:us.length=n+1):P us:=match us,e with|a::us,e=>h a us (Nat.succ.inj e)
theorem Zn2:Vz K C []:=⟨λ_ h=>nomatch h⟩
theorem Zmg{x:Str}{xs:List Str}(h:PySem.W.findIn K (.ref C) x=some none)(t:Vz K C xs):Vz K C (x::xs):=⟨λf bB=>by
 rcases qaf.mp bB with e|e
 ·rw[e];exact h
 ·exact t.out f e⟩
theorem Znw{dT:Addr}{a:Array Value}{n:Nat}(h:K.lookup dT=some ⟨fX,et,.seq a n,hn⟩):∃fX et n sl,K.lookup dT=some ⟨fX,et,.seq a n,sl⟩:=⟨_,_,_,_,h⟩
abbrev OkN(P:Program)(w:World)(base:Heap)(k:Nat)(D:Dn K mg nm q st ps)(sp:Sp):Prop:=YN P w K mg base (CXX P w) k D.f D.d ps sp
abbrev OkM(P:Program)(w:World)(mg:Str→Option Value)(base:Heap)(k:Nat)(D:Dm K C nm q st ps)(sp:Sp):Prop:=YN P w K mg base (CXX P w) k D.f D.d ps sp
abbrev OkI(P:Program)(w:World)(mg:Str→Option Value)(base:Heap)(k:Nat)(D:Di K C q st ps)(sp:Sp):Prop:=YN P w K mg base (CXX P w) k D.f D.d ps sp
end
section
variable {X:Cx}{CX:CXT}{j k:Nat}{C:Addr}{ps:List Str}{sp:Sp}{E:XK}{x m q:Str}{st:Stmt}{p pos eI:Pos}{e o:Expr}{aN:List Expr}{a_:TE}{t:TA}{J:St→Prop}
theorem da(D:Dn X.K X.mg x q st ps)(F:YN X.prog X.w X.K X.mg X.base CX j D.f D.d ps sp)(av:eP k X.A)(ao:Wo CX X E)(aZ:PA X (e::aN) t)(aJ:Nat.ble j k=true:=by rfl)(aM:Gl X x:=by rfl)
  (f':(x==("__debug__" :Str))=false:=by decide) (cp:starEach (e::aN) X.env=(false,eval e X.env)::starEach aN X.env:=by rfl) (fO:(backTo pos (starEach aN X.env)).any (·.1)=false:=by rfl):
  PE X (.Call (.Name x p) (e::aN) [] pos) (uh sp [] E t):=Zmb (F.mono (qa7 aJ)) av aM D.m D.F.kp D.b .nil ao aZ f' cp fO
theorem FE(D:Dn X.K X.mg x q st ps)(F:YN X.prog X.w X.K X.mg X.base CX j D.f D.d ps sp)(av:eP k X.A)(ao:Zcl CX X J E)(aZ:PA X (e::aN) t)(aJ:Nat.ble j k=true:=by rfl)(aM:Gl X x:=by rfl)
  (f':(x==("__debug__" :Str))=false:=by decide) (cp:starEach (e::aN) X.env=(false,eval e X.env)::starEach aN X.env:=by rfl) (fO:(backTo pos (starEach aN X.env)).any (·.1)=false:=by rfl):
  PE X (.Call (.Name x p) (e::aN) [] pos) (ZdZ J sp [] E t):=ZkI (F.mono (qa7 aJ)) av aM D.m D.F.kp D.b .nil ao aZ f' cp fO
theorem gW{pl:Sem Bool}(cp:PE X o a_)(c:Cls X.K C)(D:Dm X.K C m q st ps)(F:YN X.prog X.w X.K X.mg X.base CX j D.f D.d ps sp)(av:eP k X.A)(ao:Wo CX X E)(aZ:PA X (e::aN) t)(aJ:Nat.ble j k=true:=by rfl)
  (dQ:starEach (e::aN) X.env=(false,eval e X.env)::starEach aN X.env:=by rfl) (fO:(backTo pos (starEach aN X.env)).any (·.1)=false:=by rfl)
  (cu:eval (.Call (.Attribute o m eI) (e::aN) [] pos) X.env=(do
   let dZ←eval o X.env
   standAt eI.atName
   let(f,first)←holding [dZ] (getMethod dZ m pl)
   callWith pos f first (backTo pos (starEach (e::aN) X.env)) (backToKw pos (keywordEach [] X.env))):=by rfl):
  PE X (.Call (.Attribute o m eI) (e::aN) [] pos) (pD C m sp [] E a_ t):=yO cp c D.M (F.mono (qa7 aJ)) av D.b .nil ao aZ dQ fO cu
theorem lK{pl:Sem Bool}(cp:PE X o a_)(c:Cls X.K C)(D:Dm X.K C m q st ps)(F:YN X.prog X.w X.K X.mg X.base CX j D.f D.d ps sp)(av:eP k X.A)(ao:Wo CX X E)(aJ:Nat.ble j k=true:=by rfl)
  (cu:eval (.Call (.Attribute o m eI) [] [] pos) X.env=(do
   let dZ←eval o X.env
   standAt eI.atName
   let(f,first)←holding [dZ] (getMethod dZ m pl)
   callWith pos f first (backTo pos (starEach [] X.env)) (backToKw pos (keywordEach [] X.env))):=by rfl):
  PE X (.Call (.Attribute o m eI) [] [] pos) (pD C m sp [] E a_ tNil):=ZlE cp c D.M (F.mono (qa7 aJ)) av D.b .nil ao cu
theorem FF(D:Di X.K C q st ps)(F:YN X.prog X.w X.K X.mg X.base CX j D.f D.d ps sp)(av:eP (k+1) X.A)(a6:X.mg x=some (.ref C))(ao:Wo CX X E)(aZ:PA X (e::aN) t)(aJ:Nat.ble j k=true:=by rfl)(aM:Gl X x:=by rfl)
  (f':(x==("__debug__" :Str))=false:=by decide) (cp:starEach (e::aN) X.env=(false,eval e X.env)::starEach aN X.env:=by rfl) (fO:(backTo pos (starEach aN X.env)).any (·.1)=false:=by rfl):
  PE X (.Call (.Name x p) (e::aN) [] pos) (pE C sp [] E t):=ZmL D.M (F.mono (qa7 aJ)) av aM a6 D.b .nil ao aZ f' cp fO
theorem zn(D:Di X.K C q st ps)(F:YN X.prog X.w X.K X.mg X.base CX j D.f D.d ps sp)(av:eP (k+1) X.A)(a6:X.mg x=some (.ref C))(ao:Wo CX X E)(aJ:Nat.ble j k=true:=by rfl)(aM:Gl X x:=by rfl)
  (f':(x==("__debug__" :Str))=false:=by decide):PE X (.Call (.Name x p) [] [] pos) (pE C sp [] E tNil):=Zkx D.M (F.mono (qa7 aJ)) av aM a6 D.b .nil ao f'
end
section
variable {X:Cx}
noncomputable def rDIn:R2:=λy x H Q=>∃a o,x= .ref a∧UB H a y o∧Q (.bl o.isSome) H
noncomputable def rDNotIn:R2:=λy x H Q=>∃a o,x= .ref a∧UB H a y o∧Q (.bl (!o.isSome)) H
theorem zo(hu:X.A.units+64<cLine):OpR X (compareOp .In) rDIn:=by
 intro ah s ae H x y v u Q I cr cJ h;obtain⟨a,o,rfl,g,q⟩:=h;cases cJ;exact Zpd (by omega) I g cr λs' eC=>⟨.bl o.isSome,H,eC,rfl,q⟩
theorem u6(hu:X.A.units+64<cLine):OpR X (compareOp .NotIn) rDNotIn:=by
 intro ah s ae H x y v u Q I cr cJ h;obtain⟨a,o,rfl,g,q⟩:=h;cases cJ;exact ZmM (by omega) I g cr λs' eC=>⟨.bl (!o.isSome),H,eC,rfl,q⟩
noncomputable def rIxD:R2:=λx y H Q=>∃a v,x= .ref a∧UB H a y (some v)∧Q v H
theorem UV(hu:X.A.units+64<cLine):IxR X rIxD:=by
 intro value slice ah s ae H x y v u Q I cr cJ h hs;obtain⟨a,z,rfl,g,q⟩:=h;cases cr;exact tail_any (Fe I g) PySem.F.slot_dict_getitem.lookup (Fd (by omega) I g cJ λdC s' eC jp=>⟨z,H,eC,jp,q⟩) hs
noncomputable def rSetD:V→V→V→Hp→(Hp→Prop)→Prop:=λo i v H Q=>∃a bC,o= .ref a∧Zeg H a i v bC∧Q bC
theorem p6(hu:X.A.units+64<cLine):Zi4 X rSetD:=by
 intro ah s ae H o i v dZ gH u Q I ro ri dk h;obtain⟨a,bC,rfl,g,q⟩:=h;cases ro;exact ZjH (by omega) I g ri dk λs' eC=>⟨bC,eC,q⟩
theorem zp{P:Program}{w:World}{k:Key}{u:Value}(h:(e_ P w).is k u=true):c2 (kV k) u:=by
 cases k with
 |inl i=>exact Value.isInt_shape h
 |inr x=>exact Value.isStrOf_shape h
theorem zq:∀{xs:List V}{us:List Value},us.length=xs.length→(∀(j:Nat)(v:V)(u:Value),xs[j]? =some v→us[j]? =some u→c2 v u)→cZ xs us
 | [],[],_,_=> .nil
 |x::xs,u::us,af,h=> .cons (h 0 x u rfl rfl) (zq (by simpa using af) λj v w aW a7=>h (j+1) v w (by simpa using aW) (by simpa using a7))
 | [],_::_,af,_=>by simp at af
 |_::_,[],af,_=>by simp at af
theorem KV.at{kvs:List (Key×V)}{vs:List (Key×Value)}(r:KV kvs vs):∀{j:Nat}{k:Key}{x:Value},vs[j]? =some (k,x)→∃v,kvs[j]? =some (k,v):=by
 unfold KV at r
 induction r with
 |nil=>intro j k x e;simp at e
 | @cons p q ps en h t cO=>
  intro j k x e;cases j with
  |zero=>
   simp at e;subst e;have ai:p.1=k:=h.1;exact⟨p.2,by simp[←ai]⟩
  |succ j=>
   obtain⟨v,z⟩:=cO (j:=j) (k:=k) (x:=x) (by simpa using e);exact⟨v,by simpa using z⟩
noncomputable def rListD:List V→Hp→VK→Prop:=λxs H Q=>∃a kvs,xs=[V.ref a]∧H a=some (.dK kvs)∧∀l,H l=none→Q (.ref l) (upd H l (.lst (kvs.map λkv=>kV kv.1)))
theorem FG(ax:X.calm=true):YC X (.type "list") rListD:=by
 intro ah s ae H xs us Q I r h;obtain⟨a,kvs,rfl,aZ,q⟩:=h;obtain⟨u,rfl,eu⟩:=Wz r;cases eu;obtain⟨z,hd,vs,rel,dd⟩:=Zah I.hok aZ;obtain⟨ep,i3⟩:=dd.dictAt;refine PySem.W.kdl_call (PySem.W.kdl_dict (knd:=e_ X.prog X.w) (kvs:=vs) (ep:=ep) hd) (I.ok.hd ax) i3 (by rw[←rel.length];exact z) λh' a5 dj c aR rK zr=>?_;refine⟨.ref s.heap.objs.size,_,I.laid (a:=s.heap.objs.size) (o:= .lst (kvs.map λkv=>kV kv.1)) (t':=a5) aR (FM _) ⟨by rw[GE];exact z,dj.toList,c,?_,by simpa using rK⟩,rfl,q _ (I.hok.fresh (FM _))⟩;refine zq (by rw[qbi,zr.1,GE,rel.length]) λj v u aW a7=>?_;obtain⟨k,x,ao,nB⟩:=zr.2 j u (by rw[←qbw];exact a7);obtain⟨lj,jt⟩:=rel.at ao;rw[qaj,jt] at aW;cases aW;exact zp nB
end
section
variable {X:Cx}{ah:List (Addr×Obj)}{ae:List (Option V)}{H H':Hp}{s:Shared}{h':Heap}
theorem Inv.turnedL{t':Nat}{fp:List Addr}(I:Inv X ah ae H s)(k:∀b o,b∉fp→s.heap.get? b=some o→h'.get? b=some o)(bB:∀b∈fp,h1 X ah H b):Inv X ah ae H {s with heap:=h',toks:=t'}:=by
 have pk:∀b u,H b=some u→b∉fp:=λb u e z=>by rw[(bB b z).1] at e;cases e
 refine I.step (g':=s.gens) (d':=s.drawn) (ch:=fp) (λb ag=>?_) (λb o _ _ ax e _=>k b o ax e) (λb o _ _ ax e _=>⟨o.slots,k b o ax e⟩) (λ_ _ _ _ n=>n)
  (λb o ax e=>⟨o,k b o ax e⟩) (λ_ _ e=>e) (λ_ _ _ e=>e) (λb ps e=>⟨#[],by rw[e];simp⟩) (λm a6=>?_) (λb u e=>?_) I.bare
 ·obtain⟨dE,f1,f2,dI,eh,em⟩:=bB b ag;exact⟨dI,f1,eh,em⟩
 ·obtain⟨o,aN,ep,bc,r⟩:=a6;exact⟨o,aN,ep,k _ o (λz=>(bB _ z).2.1 rfl) bc,r⟩
 ·refine(I.hok b u e).stay (λc v ax q=>k c v ?_ q) (λ_ q=>q) λ_ _ q=>q;rcases ax with z|z
  ·rw[z];exact pk b u e
  ·exact pk c _ z
theorem Inv.turnedNew{t':Nat}{fp:List Addr}{T:Addr}{o:HO}(I:Inv X ah ae H s)(k:∀b o,b∉fp→s.heap.get? b=some o→h'.get? b=some o)(bB:∀b∈fp,h1 X ah H b)(aS:s.heap.objs.size≤T)(new:ZY X.prog X.w (upd H T o) h' T o):
  Inv X ah ae (upd H T o) {s with heap:=h',toks:=t'}:=by
 have J:Inv X ah ae H {s with heap:=h',toks:=t'}:=I.turnedL k bB;have bA:=I.hok.fresh aS;obtain⟨dE,f1,f2,dI,eh,em⟩:=I.fpOk aS bA;refine Inv.step (s:={s with heap:=h',toks:=t'}) (h':=h') (g':=s.gens) (d':=s.drawn) (t':=t') (ch:=[T]) J (λb ag=>?_) (λb o _ _ ax e _=>e) (λb o _ _ ax e _=>⟨o.slots,e⟩) (λb o ax e n=>?_)
  (λb o ax e=>⟨o,e⟩) (λb xs e=>?_) (λb o u e=>?_) (λb ps e=>⟨#[],?_⟩) (λm a6=>a6) (λb u e=>?_) I.bare
 ·have e:b=T:=by simpa using ag
  subst e;exact⟨dI,f1,eh,em⟩
 ·rw[cq (λz=>ax (by simp[z]))];exact n
 ·rw[cq (dw e bA)];exact e
 ·rw[cq (dw e bA)];exact e
 ·rw[cq (dw e bA)];simpa using e
 ·by_cases ag:b=T
  ·subst ag;rw[Ze] at e;cases e;exact new
  ·rw[cq ag] at e;exact(J.hok b u e).stay (λc v _ q=>q) (λc q=>by rw[cq (dw q bA)];exact q) λc xs q=>by rw[cq (dw q bA)];exact q
end
noncomputable def Ite (K:Frag) (a:Addr):It:=
 ⟨λi H=>∃xs x,SqL K H a xs∧xs[i]? =some x,λi H v H'=>∃t x,H t=none∧v= .ref t∧H'=upd H t (.tup [.int i,x])∧∀xs,SqL K H a xs→xs[i]? =some x,λi H=>∃xs,SqL K H a xs∧xs.length≤i⟩
theorem FH{P:Program}{w:World}{K:Frag}{kf:List Expr}{k1:Nat}{pos:Pos}(a e it:Addr)(zt:e≠it):U6 P w K (.Tuple kf k1 pos) (Ite K a) [e,it] e (λi h=>(∃jr,IsEnum h e it i jr)∧h.IsListIter it a i) where
 mem:=by simp
 obj:=λi h st b ag=>by
  obtain⟨⟨jr,cp⟩,o,ai,aw,cC⟩:=st;rcases qaf.mp ag with rfl|ag
  ·exact⟨_,cp,λv z=>by
    have fl:Data.fields _=Data.cell v:=z;cases fl⟩
  ·rw[qab.mp ag];exact⟨o,ai,λv z=>by rw[cC] at z;cases z⟩
 keep:=λi h h' st k=>⟨let⟨jr,cp⟩:=st.1;⟨jr,k e (by simp) _ cp⟩,st.2.at λo q=>k it (by simp) o q⟩
 item:=by
  intro X d0 hw eH ax i ah s ae H E I bB st aM;subst d0 hw eH;obtain⟨xs,x,cG,ao⟩:=aM;obtain⟨its,dk,p,hz⟩:=I.list cG;obtain⟨u,hu,eu⟩:=dk.get ao;obtain⟨⟨jr,cp⟩,eR⟩:=st;refine wpAny_pyNext_enum_item cp eR p.isList (x:=u) (by simpa using hu) zt λh' bc hit' dg hsz aR=>?_;have hr:=I.hok.fresh (FM s.heap.objs.size);have zu:e<s.heap.objs.size:=Heap.lt_size cp;have rY:it<s.heap.objs.size:=by obtain⟨_,y,_⟩:=eR;exact Heap.lt_size y
  refine⟨_,rfl,wpAny_letOwnedTupleGo_enum bc λaw nC fq=>?_⟩;have iu:aw.get? s.heap.objs.size=some {cls:= .type "tuple",data:= .seq #[.int i s.toks,u]}:=fq.extBut _ _ (qbX zu) dg;have bD:Inv X ah ae (upd H s.heap.objs.size (.tup [.int i,x])) {s with heap:=aw,toks:=s.toks+1}:=
   I.turnedNew (fp:=[e,it]) (λb o ag q=>by
    have f4:b≠e:=λz=>ag (by simp[z]);have ft:b≠it:=λz=>ag (by simp[z]);exact fq.extBut b o f4 (aR b o f4 ft q)) bB (FM _) ⟨by show 2≤sizeLine;decide,[.int i s.toks,u],.cons ⟨_,rfl⟩ (.cons eu .nil),_,iu,rfl,_,rfl⟩
  refine⟨.ref s.heap.objs.size,_,bD,rfl,⟨_,x,hr,rfl,rfl,λys a'=>by rw[I.list_inj a' cG];exact ao⟩,⟨⟨_,nC⟩,hit'.at λo q=>fq.extBut _ _ zt.symm q⟩,λb ag=>?_⟩;have p7:b≠s.heap.objs.size:=by
   rcases qaf.mp ag with rfl|ag
   ·exact qak zu
   ·rw[qab.mp ag];exact qak rY
  rw[cq p7];exact(bB b ag).1
 done:=by
  intro X d0 hw eH ax i ah s ae H E I bB st aM;subst d0 hw eH;obtain⟨xs,cG,ao⟩:=aM;obtain⟨its,dk,p,hz⟩:=I.list cG;obtain⟨⟨jr,cp⟩,eR⟩:=st;have af:=dk.length;exact wpAny_pyNext_enum_end (I.ok.hd ax) cp eR p.isList (by simp;omega) λh' df=>⟨rfl,I.turnedL (t':=s.toks) (fp:=[e,it]) (λb o ag q=>df b o (λz=>ag (by simp[z])) q) bB⟩
 self:=λ_ _ _ _ _ st h=>wpAny_pyIter_enum st.1.choose_spec h
section
variable {X:Cx}
noncomputable def zv (K:Frag) (a_:TA):TI:=λae H R=>a_ ae H λvs aj=>∃a,vs=[.ref a]∧(∃xs,SqL K aj a xs)∧R (Ite K a) aj
theorem mB{K:Frag}{a:Expr}{a_:TA}{p pos lm:Pos}{kf:List Expr}{k1:Nat}(fu:X.K=K)(aM:Gl X "enumerate")(a6:X.mg "enumerate" =none)(aZ:PA X [a] a_)(hs:starEach [a] X.env=[(false,eval a X.env)]:=by rfl):
  PI X (.Tuple kf k1 lm) (.Call (.Name "enumerate" p) [a] [] pos) (zv K a_):=by
 subst fu;intro ah s ae H R I h;refine Call_ (jW I aM a6 boot_enumerate (qaV (thn (aZ pos ah s ae H _ I h) λus az ⟨vs,aj,bD,cH,cA⟩=>?_) hs rfl));obtain⟨b,rfl,⟨xs,cG⟩,q⟩:=cA;obtain⟨u,rfl,eu⟩:=Wz cH;cases eu;obtain⟨its,dk,pl,hz⟩:=bD.list cG;refine call_enumerate_list pl.isList λh' cp eR hsz aR=>?_;refine wpAny_pyIter_enum cp ?_;have c':Inv X ah ae aj {az with heap:=h'}:=bD.kept (t':=az.toks) aR;refine⟨az.heap.objs.size+1,[az.heap.objs.size+1,az.heap.objs.size],_,_,aj,rfl,c',FH b _ _ (Nat.succ_ne_self _),⟨⟨_,cp⟩,eR⟩,λc ax=>?_,q⟩;rcases qaf.mp ax with rfl|ax
 ·exact bD.fpOk (qb7 _) (bD.hok.fresh (qb7 _))
 ·rw[qab.mp ax];exact bD.fpOk (FM _) (bD.hok.fresh (FM _))
end
noncomputable def rLenD:List V→Hp→VK→Prop:=λxs H Q=>∃a kvs,xs=[V.ref a]∧H a=some (.dK kvs)∧Q (.int kvs.length) H
theorem Zic{X:Cx}:YC X (.builtin "len") rLenD:=Fk
noncomputable def mC (n:Nat) (ix:List Nat) (ae:St):St:=List.replicate n none++ix.map λj=>(ae[j]?).join
noncomputable def u7 (n:Nat) (ix:List Nat) (eW:TI) (g:TG) (dN:TT) (cV:TE):TE:=λae H Q=>eW ae H λJ aj=>∀p,aj p=none→
 ∃W:Nat→Nat→List V→St→Hp→Prop,(∃m,W 0 m [] (mC n ix ae) (upd aj p (.lst [])))∧∀i m ys ci H',W i m ys ci H'→
  (J.stop i H'∧Q (.ref p) H')∨(J.go i H'∧∀x ay,J.yld i H' x ay→g x ci ay λcY bF=>dN cY bF λb bC=>
   if b=true then cV cY bC λv cj=>cj p=some (.lst ys)∧ys.length<sizeLine∧∃cQ,cQ<m∧W (i+1) cQ (ys++ [v]) cY (upd cj p (.lst (ys++ [v])))
   else ∃cQ,cQ<m∧W (i+1) cQ ys cY bC)
section
variable {X:Cx}
theorem Zhj{ah:List (Addr×Obj)}{ae:St}{H:Hp}{s:Shared}{cE:Scope}{x:Str}{xs:List Str}{zs:List Str}{ix:List Nat}{cl:List (Str×Addr)}{fp:List Addr}{h₁:Heap}{a5:Nat}
  (S:Y3 X cE x zs ix) (I:Inv X ah ae H s) (fa:∀y c,cl.lookup y=some c→X.env.cells.lookup y=some c) (h5:∀y,(y,NameKind.free)∈cE.names→∃c,cl.lookup y=some c)
  (im:∀b∈fp,h1 X ah H b∧b<s.heap.objs.size) (oo:h₁.Ns s.heap.objs.size λ_=>none) (aR:∀b o,s.heap.get? b=some o→h₁.get? b=some o):
  Inv (Zo X cE cl s.heap.objs.size (xs++zs) s H fp) [] (mC xs.length ix ae) H {s with heap:=h₁,toks:=a5}:=by
 have sub:∀b∈frs X.stack,b∈X.env.locals::X.fs:=I.stkSub;have uF:∀b∈fp,b∉frs X.stack:=λb ag z=>by
  obtain⟨⟨_,f1,f2,_⟩,_⟩:=im b ag;rcases qaf.mp (sub b z) with e|e
  ·exact f1 e
  ·exact f2 e
 have cut:∀y,(Zo X cE cl s.heap.objs.size (xs++zs) s H fp).env.kindOf y=some .cell∨(Zo X cE cl s.heap.objs.size (xs++zs) s H fp).env.kindOf y=some .free→∃c,cl.lookup y=some c:=λy a'=>by
  have q:∃k,(relabel cE X.env).names.lookup y=some k∧(k= .cell∨k= .free):=by
   rcases a' with a'|a'
   ·exact⟨_,a',.inl rfl⟩
   ·exact⟨_,a',.inr rfl⟩
  obtain⟨k,e,aR⟩:=q;obtain⟨gu,cx,q⟩:=Ww e;have:gu= .free:=by
   rcases q with q|⟨q,_⟩
   ·rcases aR with z|z
    ·exact absurd (q.symm.trans z) (S.nocell _ (my cx))
    ·exact q.symm.trans z
   ·exact q
  subst this;exact h5 y (my cx)
 refine⟨⟨I.ok.mod,S.kind,I.ok.glob,I.ok.blt,FM _,λy z c ai aw=>I.ok.inj y z c (fa _ _ ai) (fa _ _ aw),cut,λy c bB _=>?_,I.ok.hd,I.ok.frames,.inl rfl,λb ag=>?_,I.bs,qaz I.ok.bsz I.sz,λb o e ag=>?_,uF,I.stack,I.stkFree⟩,
  rfl,I.bare,Un.kept aR,⟨_,oo,λi y v ai aw cC=>?_⟩,λy c h=>?_,I.hok.fresh (FM _),λy c h=>I.freeC y c (fa y c h),λp aS=>absurd (show p∈([]:List (Addr×Obj)) from aS) (by simp),I.hok.kept aR,?_⟩
 ·exact absurd (show false=true from bB) (by decide)
 ·obtain⟨⟨dE,f1,f2,dI,eh,em⟩,af⟩:=im b ag;exact⟨qak af,λy c h=>eh y c (fa y c h)⟩
 ·obtain⟨⟨dE,f1,f2,dI,eh,em⟩,af⟩:=im b ag;rcases dI with z|z
  ·exact I.ok.noex b o e z
  ·exact absurd (qad (Heap.lt_size e) (qaz I.ok.bsz z)) (qbl _)
 ·
  have ed:xs.length≤i:=by
   rcases qaC i xs.length with z|z
   ·have hq:(List.replicate xs.length none++ix.map λj=>(ae[j]?).join)[i]? =some (some v):=aw;rw[qaB (by rw[qbk];exact z),List.getElem?_replicate,if_pos z] at hq;cases hq
   ·exact z
  ·obtain⟨i,rfl⟩:∃ht,i=xs.length+ht:=⟨i-xs.length,by omega⟩;have kJ:zs[i]? =some y:=by
    have kJ:(xs++zs)[xs.length+i]? =some y:=ai;rw[qaJ (qcg _ _),qb8] at kJ;exact kJ
   have hq:(ix.map λj=>(ae[j]?).join)[i]? =some (some v):=by
    have hq:(List.replicate xs.length none++ix.map λj=>(ae[j]?).join)[xs.length+i]? =some (some v):=aw;rw[qaJ (by rw[qbk];exact qcg _ _),qbk,qb8] at hq;exact hq
   have aZ:(ix.map λj=>X.N[j]?)[i]? =some (some y):=by rw[S.at_,qaj,kJ];rfl
   rw[qaj] at hq aZ;cases e:ix[i]? with
   |none=>rw[e] at hq;cases hq
   |some j=>
    rw[e] at hq aZ;have e':X.N[j]? =some y:=qap aZ;have aJ:(ae[j]?).join=some v:=qap hq;have uG:ae[j]? =some (some v):=by
     cases q:ae[j]? with
     |none=>rw[q] at aJ;cases aJ
     |some o=>rw[q] at aJ;exact congrArg some aJ
    obtain⟨m,bA,af⟩:=I.loc;have hr:=S.zfree y (qal kJ);have ng:=S.free _ (my hr) rfl;have cn:Vis X.env.scope y:=by
     rcases ng with z|z
     ·exact .inr (.inl z)
     ·exact .inr (.inr z)
    obtain⟨u,r,q⟩:=af j y v e' uG cn;refine⟨u,r,?_⟩;rcases q with⟨uH,_⟩|⟨_,c,ax,mh⟩
    ·have pO:X.env.kindOf y=some .local:=uH;rcases ng with z|z<;>(rw[z] at pO;cases pO)
    ·obtain⟨dO,ll⟩:=h5 y (my hr);have hp:dO=c:=by have:=fa y dO ll;rw[ax] at this;exact(qap this).symm
     subst hp;refine .inr ⟨?_,dO,ll,?_⟩
     ·have uI:Vis (relabel cE X.env) y:=cC;rcases uI with z|z|z
      ·obtain⟨gu,cx,q⟩:=Ww z;rw[hr] at cx;cases cx;rcases q with q|⟨_,q⟩<;>cases q
      ·exact .inl z
      ·exact .inr z
     ·obtain⟨o,bc,hd⟩:=mh;exact⟨o,aR _ _ bc,hd⟩
 ·obtain⟨v,o,bc,hd⟩:=I.cell y c (fa y c h);exact⟨v,o,aR _ _ bc,hd⟩
 ·show(List.replicate xs.length none++ix.map λj=>(ae[j]?).join).length=(xs++zs).length;have:=congrArg List.length S.at_;simp only[GE] at this;simp only[qac,qbk,GE,this]
theorem ZcJ{ah:List (Addr×Obj)}{ae:St}{H:Hp}{s:Shared}{cE:Scope}{x:Str}{xs:List Str}{zs:List Str}{ix:List Nat}{cl:List (Str×Addr)}{fp:List Addr}{it:Addr}{fo:Nat→Heap→Prop}{J:It}
  {fQ de eO:Expr} {ifs:List Expr} {pos:Pos} {g:TG} {dN:TT} {cV:TE} {Q:VK} {E:Value→Shared→Prop} {RR:Value→Addr→Result→Shared→Prop}
  (ax:X.calm=true) (S:Y3 X cE x zs ix) (I:Inv X ah ae H s) (fa:∀y c,cl.lookup y=some c→X.env.cells.lookup y=some c) (h5:∀y,(y,NameKind.free)∈cE.names→∃c,cl.lookup y=some c)
  (T:U6 X.prog X.w X.K de J fp it fo) (st:fo 0 s.heap) (im:∀b∈fp,h1 X ah H b)
  (f3:∀C s H,PG (Zo X cE cl C (xs++zs) s H fp) de g∧PIf (Zo X cE cl C (xs++zs) s H fp) ifs dN∧PE (Zo X cE cl C (xs++zs) s H fp) fQ cV)
  (cG:∀p,H p=none→∃W:Nat→Nat→List V→St→Hp→Prop,(∃m,W 0 m [] (mC xs.length ix ae) (upd H p (.lst [])))∧∀i m ys ci H',W i m ys ci H'→
   (J.stop i H'∧Q (.ref p) H')∨(J.go i H'∧∀x ay,J.yld i H' x ay→g x ci ay λcY bF=>dN cY bF λb bC=>
    if b=true then cV cY bC λv cj=>cj p=some (.lst ys)∧ys.length<sizeLine∧∃cQ,cQ<m∧W (i+1) cQ (ys++ [v]) cY (upd cj p (.lst (ys++ [v])))
    else ∃cQ,cQ<m∧W (i+1) cQ ys cY bC))
  (c1:∀dj C f s',y9 X ah ae Q dj C s'→RR dj C (.ok f) s'):
  wpAny (model X.prog X.w) X.A (newList []) (λdj jq=>wpAny (model X.prog X.w) X.A (newFunctionEnv cE X.env.globals cl [] X.env.qual none .none (some X.env)) (λpP ou=>
   codeAny (model X.prog X.w) X.A (.compStart (.ListComp fQ [⟨de,eO,ifs,0⟩] cE pos) 0 (.ref it) dj {pP with scope:=relabel cE X.env}) (RR dj pP.locals) ou) E jq) E s:=by
 refine wpAny_newObj_type (wpAny_newFunctionEnv S.nocell (by intro y a';simp at a') (λh₁ hns₁ pQ=>?_) S.kind);have dV:Inv X ah ae (upd H s.heap.objs.size (.lst [])) {s with heap:=s.heap.push {cls:= .type "list",dict:=none,data:= .seq ([]:List Value).toArray}}:=I.lnew (its:=[]) (ys:=[]) (t':=s.toks) .nil (qaA _);dsimp only at hns₁ pQ⊢;obtain⟨W,⟨hm,fM⟩,turn⟩:=cG s.heap.objs.size (I.hok.fresh (FM _));have lt:∀b∈fp,b<s.heap.objs.size:=λb ag=>by
  obtain⟨o,e,_⟩:=T.obj 0 s.heap st b ag;exact Heap.lt_size e
 have i2:∀b∈fp,∀o,(upd H s.heap.objs.size o) b=H b:=λb ag o=>cq (qak (lt b ag));have kp:∀b o,(s.heap.push {cls:= .type "list",dict:=none,data:= .seq ([]:List Value).toArray}).get? b=some o→h₁.get? b=some o:=λb o e=>
  pQ.extBut b o (qak (Heap.lt_size e)) (Heap.get?_push_of_some _ e)
 have dI:∀b∈fp,h1 X ah (upd H s.heap.objs.size (.lst [])) b∧b<(s.heap.push {cls:= .type "list",dict:=none,data:= .seq ([]:List Value).toArray}).objs.size:=λb ag=>by
  obtain⟨lA,q⟩:=im b ag;refine⟨⟨(i2 b ag _).trans lA,q⟩,?_⟩;rw[Heap.size_push];exact qbC (lt b ag)
 generalize kK:({s with heap:=s.heap.push {cls:= .type "list",dict:=none,data:= .seq ([]:List Value).toArray}}:Shared)=bb at dV;have pR:s.heap.push {cls:= .type "list",dict:=none,data:= .seq ([]:List Value).toArray}=bb.heap:=by rw[←kK]
 rw[pR] at kp dI hns₁⊢;have kD:fo 0 h₁:=T.keep 0 _ _ st λb _ o e=>kp b o (by rw[←pR];exact Heap.get?_push_of_some _ e);have lB:Inv (Zo X cE cl bb.heap.objs.size (xs++zs) bb (upd H s.heap.objs.size (.lst [])) fp) [] (mC xs.length ix ae) (upd H s.heap.objs.size (.lst [])) {bb with heap:=h₁,toks:=bb.toks}:=
  Zhj S dV fa h5 dI hns₁ kp
 obtain⟨aM,uJ,cp⟩:=f3 bb.heap.objs.size bb (upd H s.heap.objs.size (.lst []));have nq:∀{H':Hp},(∀b∈fp,H' b=none)→∀b∈fp,h1 (Zo X cE cl bb.heap.objs.size (xs++zs) bb (upd H s.heap.objs.size (.lst [])) fp) [] H' b:=λ{H'} bA b ag=>
  ⟨bA b ag,(lB.ok.exf b ag).1,lB.ok.exfs b ag,.inl ag,(lB.ok.exf b ag).2,λp aS=>absurd (show p∈([]:List (Addr×Obj)) from aS) (by simp)⟩
 have pS:∀cI:Shared,cI={bb with heap:=h₁,toks:=bb.toks}→
   codeAny (model X.prog X.w) X.A (.compLoop (.ListComp fQ [⟨de,eO,ifs,0⟩] cE pos) 0 (.ref it) (.ref s.heap.objs.size) (compEnvC cE cl bb.heap.objs.size X.env)) (RR (.ref s.heap.objs.size) bb.heap.objs.size) cI:=by
  rintro cI rfl;refine ZbL (λn s'=>∃i ys ci H',Inv (Zo X cE cl bb.heap.objs.size (xs++zs) bb (upd H s.heap.objs.size (.lst [])) fp) [] ci H' s'∧fo i s'.heap∧(∀b∈fp,H' b=none)∧W i n ys ci H') ?_ hm
   ⟨0,[],mC xs.length ix ae,_,lB,kD,λb ag=>(dI b ag).1.1,fM⟩
  rintro n cK ⟨i,ys,lC,cj,h0,lr,jE,pT⟩;rcases turn i n ys lC cj pT with⟨stop,na⟩|⟨go,step⟩
  ·refine thn (T.done (Zo X cE cl bb.heap.objs.size (xs++zs) bb (upd H s.heap.objs.size (.lst [])) fp) rfl rfl rfl ax i [] cK lC cj _ h0 (nq jE) lr stop) λr dn ⟨av,hl⟩=>?_;subst av;obtain⟨uK,uL,_⟩:=hl.loc;refine c1 _ _ _ _ ⟨s.heap.objs.size,cj,uK,rfl,uL,?_,dV.fpOk (FM _) hl.free,na⟩;exact dV.call' hl.os hl.base hl.hok hl.bare λb ag=>by
    obtain⟨⟨dE,f1,f2,dI,eh,em⟩,_⟩:=dI b ag;exact⟨dI,f1,eh,em⟩
  ·refine thn (T.item (Zo X cE cl bb.heap.objs.size (xs++zs) bb (upd H s.heap.objs.size (.lst [])) fp) rfl rfl rfl ax i [] cK lC cj _ h0 (nq jE) lr go) λr dn ⟨u,av,dS⟩=>?_;subst av;refine thn dS λ_ dW ⟨x7,dq,h2,pB,uM,nr,pU⟩=>?_;have uN:=h2.pinned (nq pU) (T.obj _ _ nr);refine thn (aM _ dW lC dq x7 u _ uN pB (step x7 dq uM)) λ_ eQ ⟨nt,ev,pV,uO⟩=>?_;refine thn (uJ _ eQ nt ev _ pV uO) λb fR ⟨fG,pW,lD⟩=>?_;have again:∀{nu:List V}{ci:St}{H':Hp}{cQ:Nat}{s':Shared},Inv (Zo X cE cl bb.heap.objs.size (xs++zs) bb (upd H s.heap.objs.size (.lst [])) fp) ([]++ZaI fp dW.heap) ci H' s'→W (i+1) cQ nu ci H'→cQ<n→
     ∃m,m<n∧∃i ys ci H',Inv (Zo X cE cl bb.heap.objs.size (xs++zs) bb (upd H s.heap.objs.size (.lst [])) fp) [] ci H' s'∧fo i s'.heap∧(∀b∈fp,H' b=none)∧W i m ys ci H':=λ{nu ci H' cQ s'} Iz kb a6=>by
    refine⟨cQ,a6,i+1,nu,ci,H',Iz.unpinned,T.keep _ _ _ nr λb ag o e=>(Iz.pin (b,o) (qaq _ (qaq _ (oe ag e)))).1,λb ag=>?_,kb⟩;obtain⟨o,e,d⟩:=T.obj _ _ nr b ag;exact(Iz.pin (b,o) (qaq _ (qaq _ (oe ag e)))).2.1
   cases b with
   |false=>
    rw[if_neg qag] at lD⊢;obtain⟨cQ,a6,kb⟩:=lD;exact again pW kb a6
   |true=>
    rw[if_pos rfl] at lD⊢;refine thn (cp _ fR nt fG _ pW lD) λv io ⟨y,ip,uP,uQ,af,hz,cQ,a6,kb⟩=>?_;refine thn (ju _ io nt ip (.ref s.heap.objs.size) [y] (.ref s.heap.objs.size) [v] (λz H'=>z= .non∧H'=upd ip s.heap.objs.size (.lst (ys++ [y]))) uP rfl (.cons uQ .nil) ⟨_,ys,y,rfl,rfl,af,hz,rfl,rfl⟩) λ_ kL ⟨z,nv,uR,_,_,uS⟩=>?_;subst uS;exact again uR kb a6
 exact codeAny_compStart_list (pS _ (by subst kK;rfl)) (T.self _ 0 _ _ _ kD (pS _ (by subst kK;rfl)))
theorem kg{fQ de eO:Expr}{ifs:List Expr}{cE:Scope}{pos:Pos}{x:Str}{xs:List Str}{zs:List Str}{ix:List Nat}{eW:TI}{g:TG}{dN:TT}{cV:TE}
  (ax:X.calm=true) (S:Y3 X cE x zs ix) (hi:PI X de eO eW)
  (f3:∀cl C s H fp,PG (Zo X cE cl C (xs++zs) s H fp) de g∧PIf (Zo X cE cl C (xs++zs) s H fp) ifs dN∧PE (Zo X cE cl C (xs++zs) s H fp) fQ cV)
  (hs:∀x,foldedSetIterable eO X.env x=pure x:=by intro _;rfl):
  PE X (.ListComp fQ [⟨de,eO,ifs,0⟩] cE pos) (u7 xs.length ix eW g dN cV):=by
 intro ah s ae H Q I h;obtain⟨cl,ny,fa,h5⟩:=VO I.ok S;rw[eval_ListComp];refine wpAny_comprehension_free (use:=none) rfl hs ny S.kind S.names (thn (hi ah s ae H _ I h) λv az ai=>thn ai λod b' aw=>?_);obtain⟨it,fp,fo,J,ay,e,c',T,lq,f2,cG⟩:=aw;subst e;refine ZcJ (RR:=λdj C=>compPost (model X.prog X.w) X.A X.xe none (EP X ah ae Q) dj C) ax S c' fa h5 T lq f2 (λC s H=>f3 cl C s H fp) cG λdj C f s' h=>?_;obtain⟨p,H',m,rfl,a6,eC,⟨ea,g1,g2,g3,jx,nz⟩,q⟩:=h;exact⟨m,a6,λh' ag=>⟨.ref p,H',eC.turned (t':=s'.toks) (λb o fS e=>(ag.2 b fS).trans e) ea g1 g3 jx nz,rfl,q⟩⟩
theorem p8{fQ de eO:Expr}{ifs:List Expr}{cE:Scope}{pos py pX:Pos}{x y:Str}{xs:List Str}{zs:List Str}{ix:List Nat}{eW:TI}{g:TG}{dN:TT}{cV:TE}{j:Nat}
  (ax:X.calm=true) (S:Y3 X cE x zs ix) (hi:PI X de eO eW)
  (f3:∀cl C s H fp,PG (Zo X cE cl C (xs++zs) s H fp) de g∧PIf (Zo X cE cl C (xs++zs) s H fp) ifs dN∧PE (Zo X cE cl C (xs++zs) s H fp) fQ cV)
  (d_:X.N.Nodup) (aJ:X.N[j]? =some y) (a':Loc X.env.scope y)
  (uT:swapsWith (.ListComp fQ [⟨de,eO,ifs,0⟩] cE pos) (some (.Name y py)) pX.line X.env=pure true:=by rfl)
  (bB:X.fn y=true∨X.env.scope.names.lookup y=some .local:=by first|exact .inl rfl|exact .inr rfl|assumption)
  (hs:∀x,foldedSetIterable eO X.env x=pure x:=by intro _;rfl):
  PS X (.Assign [.Name y py] (.ListComp fQ [⟨de,eO,ifs,0⟩] cE pos) pX) (pw (u7 xs.length ix eW g dN cV) (UL j)):=by
 intro ah s ae H D I h;obtain⟨cl,ny,fa,h5⟩:=VO I.ok S;rw[exec_Assign_Name_used _ _ _ _ uT];refine wpAny_bind (wpAny_standAt (wpAny_bind ?_));show wpAny _ X.A (do let _←comprehension (.ListComp fQ [⟨de,eO,ifs,0⟩] cE pos) cE X.env _ (newList []) false (eval eO X.env) (some (assign (.Name y py) X.env))) _ _ s;refine wpAny_bind (wpAny_mono (wpAny_comprehension_free (use:=some (assign (.Name y py) X.env)) (Q:=λ_ s'=>SP X ah D .next s') rfl hs ny S.kind S.names
  (thn (hi ah s ae H _ I h) λv az ai=>thn ai λod b' aw=>?_)) (λ_ s' cG=>wpAny_pure (wpAny_pure cG)) λ_ _ e=>e)
 obtain⟨it,fp,fo,J,ay,e,c',T,lq,f2,cG⟩:=aw;subst e;refine ZcJ (Q:=λx aj=>UL j x ae aj D.nx) (RR:=λdj C=>compPost (model X.prog X.w) X.A X.xe (some (assign (.Name y py) X.env)) (λ_ s'=>SP X ah D .next s') dj C) ax S c' fa h5 T lq f2 (λC s H=>f3 cl C s H fp) cG λdj C f s' h=>?_;obtain⟨p,H',m,rfl,a6,eC,⟨ea,g1,g2,g3,jx,nz⟩,q⟩:=h;show wpAny _ X.A (assign (.Name y py) X.env (.ref p)) _ _ _;refine wpAny_assign_Name (tU eC d_ aJ a' (show c2 (.ref p) (.ref p) from rfl) (λnf I'' ⟨c,uU,ky⟩=>?_) bB);have fS:C≠c:=by
  rcases ky with z|z
  ·rw[z];exact g1
  ·exact qbJ (jx _ _ z)
 exact⟨m,a6.sameBut uU fS,λh' ag=>⟨_,H',I''.turned (t':=nf.toks) (λb o fS e=>(ag.2 b fS).trans e) ea g1 g3 jx nz,q⟩⟩
end
structure Ux(J:It)(n:Nat)(y:Nat→Hp→V→Hp→Prop)(H:Hp):Prop where
 go:∀H' i,Zf H H'→i<n→J.go i H'
 yld:∀H' i x ay,Zf H H'→i<n→J.yld i H' x ay→y i H' x ay
 stop:∀H',Zf H H'→J.stop n H'
theorem Walks.y{J:It}{n:Nat}{f:Nat→V}{H:Hp}(w:Walks J n f H):Ux J n (λi H' v ay=>ay=H'∧v=f i) H:=⟨w.go,w.yld,w.stop⟩
theorem mD{K:Frag}{a:Addr}{xs:List V}{H:Hp}(h:SqL K H a xs):Ux (Ite K a) xs.length (λi H' v ay=>∃t,H' t=none∧v= .ref t∧ay=upd H' t (.tup [.int i,xs.getD i .non])) H:=
 ⟨λH' i e hi=>⟨xs,xs[i],e.seq h,by simp[hi]⟩,λH' i x ay e hi ⟨t,z,cu,cn,aw,hz⟩=>⟨t,cu,cn,by
  have:=hz xs (e.seq h);rw[aw];simp[List.getD,this]⟩,λH' e=>⟨xs,e.seq h,FM _⟩⟩
theorem Yf{own:Nat}{ix:List Nat}{g:TG}{dN:TT}{cV:TE}{Q:Addr→Hp→Prop}{ae:St}{H:Hp}{J:It}{n:Nat}{y:Nat→Hp→V→Hp→Prop}(w:Ux J n y H)(bA:n<sizeLine)(s:Nat→List (Option V))(hs:∀i,(s i).length=own)(c:Nat→Bool)(R:Nat→V→Hp→Prop)
  (mono:∀i v aj ay,Zf aj ay→R i v aj→R i v ay)
  (aM:∀i a H' v ay (gX:St→Hp→Prop),i<n→Zf H H'→y i H' v ay→a.length=own→(∀bF,Zf H' bF→gX (s i++ix.map λj=>(ae[j]?).join) bF)→g v (a++ix.map λj=>(ae[j]?).join) ay gX)
  (ax:∀i H' (ds:Bool→Hp→Prop),i<n→Zf H H'→(∀bC,Zf H' bC→ds (c i) bC)→dN (s i++ix.map λj=>(ae[j]?).join) H' ds)
  (cp:∀p i H' (ds:VK),i<n→c i=true→H p=none→(∃ys,H' p=some (.lst ys))→Zf H H'→(∀v cj,Zf H' cj→R i v (hid cj p)→ds v cj)→cV (s i++ix.map λj=>(ae[j]?).join) H' ds)
  (q:∀p H' ys,H p=none→Zf H H'→H' p=some (.lst ys)→Paired (λi v=>R i v (hid H' p)) ((List.range n).filter c) ys→Q p H'):
  ∀p,H p=none→∃W:Nat→Nat→List V→St→Hp→Prop,(∃m,W 0 m [] (mC own ix ae) (upd H p (.lst [])))∧∀i m ys ci H',W i m ys ci H'→
   (J.stop i H'∧Q p H')∨(J.go i H'∧∀x ay,J.yld i H' x ay→g x ci ay λcY bF=>dN cY bF λb bC=>
    if b=true then cV cY bC λv cj=>cj p=some (.lst ys)∧ys.length<sizeLine∧∃cQ,cQ<m∧W (i+1) cQ (ys++ [v]) cY (upd cj p (.lst (ys++ [v])))
    else ∃cQ,cQ<m∧W (i+1) cQ ys cY bC):=by
 intro p aS;have zw:∀{aj ay:Hp},Zf aj ay→Zf (hid aj p) (hid ay p):=λ{aj ay} e b o z=>by
  by_cases h:b=p
  ·rw[h,u3] at z;cases z
  ·rw[VX h] at z⊢;exact e b o z
 have zx:∀{aj:Hp}{o:HO},Zf (hid aj p) (hid (upd aj p o) p):=λ{aj o} b u z=>by
  by_cases h:b=p
  ·rw[h,u3] at z;cases z
  ·rw[VX h] at z⊢;rw[cq h];exact z
 refine⟨λi m ys ci H'=>m=n-i∧i≤n∧(∃a,a.length=own∧ci=a++ix.map λj=>(ae[j]?).join)∧Zf H H'∧H' p=some (.lst ys)∧Paired (λi v=>R i v (hid H' p)) ((List.range i).filter c) ys,
  ⟨n,by simp,qaA _,⟨List.replicate own none,qbk,rfl⟩,cP aS,Ze,.nil⟩,?_⟩
 rintro i m ys ci H' ⟨rfl,hi,⟨a,aZ,rfl⟩,sm,a',af⟩
 by_cases dz:i<n
 ·refine .inr ⟨w.go H' i sm dz,λx ay nD=>?_⟩;have ed:ys.length≤i:=by
   rw[←Paired.length af];exact qaz (qbT _ _) (by simp)
  refine aM i a H' x ay _ dz sm (w.yld H' i x ay sm dz nD) aZ λbF bb=>?_;refine ax i bF _ dz (sm.trans bb) λbC cI=>?_;have kc:=(sm.trans bb).trans cI;have lH:=cI _ _ (bb _ _ a');have step:(List.range (i+1)).filter c=(List.range i).filter c++(if c i=true then[i] else[]):=by
   rw[qb3,List.filter_append]
   congr 1
   by_cases h:c i=true<;>simp[h]
  have rZ:Paired (λi v=>R i v (hid bC p)) ((List.range i).filter c) ys:=Paired.mapP af λ_ _ z=>mono _ _ _ _ (zw (bb.trans cI)) z
  by_cases iJ:c i=true
  ·rw[iJ,if_pos rfl];refine cp p i bC _ dz iJ aS ⟨ys,lH⟩ kc λv cj cK m_=>⟨cK _ _ lH,by omega,n-(i+1),by omega,rfl,dz,⟨s i,hs i,rfl⟩,(kc.trans cK).new aS,Ze,?_⟩;rw[step,if_pos iJ];exact Paired.snoc (Paired.mapP rZ λ_ _ z=>mono _ _ _ _ ((zw cK).trans zx) z) (mono _ _ _ _ zx m_)
  ·have u1:c i=false:=by simpa using iJ
   rw[u1,if_neg qag];refine⟨n-(i+1),by omega,rfl,dz,⟨s i,hs i,rfl⟩,kc,lH,?_⟩;rw[step,if_neg iJ,qb2];exact rZ
 ·have e:i=n:=by omega
  subst e;exact .inl ⟨w.stop H' sm,q p H' ys aS sm a' af⟩
theorem u8{H:Hp}{p u:Addr}{o:HO}(h:∃ys,H p=some (.lst ys))(hu:H u=none):hid (upd H u o) p u=some o:=by
 have n:u≠p:=λz=>by
  obtain⟨ys,e⟩:=h;rw[←z,hu] at e;cases e
 rw[VX n,Ze]
theorem u9{H H':Hp}{p u:Addr}{o:HO}(h:∃ys,H p=some (.lst ys))(hu:H u=none)(fw:H' u=some o):hid H' p u=some o:=by
 have n:u≠p:=λz=>by
  obtain⟨ys,e⟩:=h;rw[←z,hu] at e;cases e
 rw[VX n,fw]
theorem ZgA{H H':Hp}{p b:Addr}{xs:List V}(h:∃ys,H p=some (.lst ys))(s:Zf H H')(e:H' b=some (.tup xs)):hid H' p b=some (.tup xs):=by
 have n:b≠p:=λz=>by
  obtain⟨ys,cx⟩:=h;rw[z,s _ _ cx] at e;cases e
 rw[VX n,e]
theorem r0{R:Nat→V→Hp→Prop}{H:Hp}{r:Nat→V}(h:∀i v,R i v H→v=r i):∀{is:List Nat}{ys:List V},Paired (λi v=>R i v H) is ys→ys=is.map r
 |_,_,.nil=>rfl
 |_,_,.cons a t=>by rw[h _ _ a,r0 h t];rfl
theorem Wl{J:It}{n:Nat}{y:Nat→Hp→V→Hp→Prop}{p2:Hp}(w:Ux J n y p2){g:TG}{c4:TS}{D:Vh}{ae:St}{H:Hp}(Pv:Nat→St→Hp→Prop)(c8:Pv 0 ae H)(aR:∀i ae H,Pv i ae H→Zf p2 H)
  (hs:∀i ae H v H',i<n→Pv i ae H→y i H v H'→g v ae H' λcY ay=>c4 {D with nx:=Pv (i+1),ct:=Pv (i+1),bk:=D.nx} cY ay) (hd:∀ae H,Pv n ae H→D.nx ae H):
  ∃W:Nat→Nat→St→Hp→Prop,(∃m,W 0 m ae H)∧∀i m ae H,W i m ae H→
   (J.stop i H∧D.nx ae H)∨(J.go i H∧∃N:St→Hp→Prop,(∀ci H',N ci H'→∃cQ,cQ<m∧W (i+1) cQ ci H')∧∀x H',J.yld i H x H'→g x ae H' λcY ay=>c4 {D with nx:=N,ct:=N,bk:=D.nx} cY ay):=by
 refine⟨λi m ae H=>m=n-i∧i≤n∧Pv i ae H,⟨n,by simp,qaA _,c8⟩,?_⟩;rintro i m ae H ⟨rfl,hi,p⟩;have sm:=aR i ae H p
 by_cases dz:i<n
 ·exact .inr ⟨w.go H i sm dz,Pv (i+1),λci H' fg=>⟨n-(i+1),by omega,rfl,dz,fg⟩,λx H' nD=>hs i ae H x H' dz p (w.yld H i x H' sm dz nD)⟩
 ·have e:i=n:=by omega
  subst e;exact .inl ⟨w.stop H sm,hd ae H p⟩
namespace Rd
section
variable {ae:St}{H:Hp}{Q:VK}{D:Vh}{K:Frag}
theorem ZnY{n:Nat}{ix:List Nat}{eW:TI}{g:TG}{dN:TT}{cV:TE}(h:eW ae H λJ aj=>∀p,aj p=none→
 ∃W:Nat→Nat→List V→St→Hp→Prop,(∃m,W 0 m [] (mC n ix ae) (upd aj p (.lst [])))∧∀i m ys ci H',W i m ys ci H'→
  (J.stop i H'∧Q (.ref p) H')∨(J.go i H'∧∀x ay,J.yld i H' x ay→g x ci ay λcY bF=>dN cY bF λb bC=>
   if b=true then cV cY bC λv cj=>cj p=some (.lst ys)∧ys.length<sizeLine∧∃cQ,cQ<m∧W (i+1) cQ (ys++ [v]) cY (upd cj p (.lst (ys++ [v])))
   else ∃cQ,cQ<m∧W (i+1) cQ ys cY bC)):u7 n ix eW g dN cV ae H Q:=h
theorem Zoq{fD:TA}{R:It→Hp→Prop}(h:fD ae H λvs aj=>∃a,vs=[.ref a]∧(∃xs,SqL K aj a xs)∧R (Ite K a) aj):zv K fD ae H R:=h
theorem Zn0{a:Addr}{xs:List V}{G:Addr→Prop}(h:SqL K H a xs)(q:G a):∃du,[V.ref a]=[.ref du]∧(∃xs,SqL K H du xs)∧G du:=⟨a,rfl,⟨xs,h⟩,q⟩
theorem Zpl(h:∀p,H p=none→Q (.ref p) (upd H p (.dK []))):tDNewK ae H Q:=h
theorem Zpx{a:Addr}{kvs:List (Key×V)}{x:Str}(h:H a=some (.dK kvs))(q:Q (.bl (valV kvs (Sum.inr x)).isSome) H):rDIn (.str x) (.ref a) H Q:=⟨a,_,rfl,UB.k (k:=Sum.inr x) h,q⟩
theorem Zob{a:Addr}{kvs:List (Key×V)}{x:Int}(h:H a=some (.dK kvs))(q:Q (.bl (!(valV kvs (Sum.inl x)).isSome)) H):rDNotIn (.int x) (.ref a) H Q:=⟨a,_,rfl,UB.k (k:=Sum.inl x) h,q⟩
theorem Zoa{a:Addr}{kvs:List (Key×V)}{x:Int}{v:V}(h:H a=some (.dK kvs))(e:valV kvs (Sum.inl x)=some v)(q:Q v H):rIxD (.ref a) (.int x) H Q:=⟨a,v,rfl,by rw[←e];exact UB.k (k:=Sum.inl x) h,q⟩
theorem Zow{a:Addr}{kvs:List (Key×V)}{x:Str}{v:V}{Q:Hp→Prop}(h:H a=some (.dK kvs))(af:kvs.length<sizeLine)(q:Q (upd H a (.dK (eF kvs (Sum.inr x) v)))):rSetD (.ref a) (.str x) v H Q:=⟨a,_,rfl,Zeg.k (k:=Sum.inr x) h af,q⟩
theorem Zok{a:Addr}{kvs:List (Key×V)}{x:Int}{v:V}{Q:Hp→Prop}(h:H a=some (.dK kvs))(af:kvs.length<sizeLine)(q:Q (upd H a (.dK (eF kvs (Sum.inl x) v)))):rSetD (.ref a) (.int x) v H Q:=⟨a,_,rfl,Zeg.k (k:=Sum.inl x) h af,q⟩
theorem ZoW{a:Addr}{kvs:List (Key×V)}(h:H a=some (.dK kvs))(q:Q (.int kvs.length) H):rLenD [.ref a] H Q:=⟨a,kvs,rfl,h,q⟩
theorem ZoB{a:Addr}{kvs:List (Key×V)}(h:H a=some (.dK kvs))(q:∀l,H l=none→Q (.ref l) (upd H l (.lst (kvs.map λkv=>kV kv.1)))):rListD [.ref a] H Q:=⟨a,kvs,rfl,h,q⟩
theorem slT{a:Addr}{xs:List V}{lo hi:Option Int}(h:SqT K H a xs)(hw:¬(HT.sIx xs.length 0 lo=0∧HT.sIx xs.length xs.length hi=xs.length))(q:∀p,H p=none→Q (.ref p) (upd H p (.tup (iG xs lo hi)))):rV K (.ref a) lo hi H Q:= .inr (.inl ⟨a,xs,rfl,h,hw,q⟩)
theorem Zo6{cH cX he:R2}{a b:Addr}{xs ys:List V}(aZ:SqT K H a xs)(ag:SqT K H b ys)(ai:xs≠[])(aw:ys≠[])(af:xs.length+ys.length≤sizeLine)(q:∀p,H p=none→Q (.ref p) (upd H p (.tup (xs++ys)))):
  rOr cH (rOr cX (rOr he (pI K))) (.ref a) (.ref b) H Q:= .inr (.inr (.inr ⟨a,b,xs,ys,rfl,rfl,aZ,ag,ai,af,λz=>absurd z aw,λ_=>q⟩))
theorem ZoL{to ti cV:TE}{m7:V→V→Hp→VK→Prop}{m8:TIp}{m9:ZcX}(h:to ae H λo aj=>ti ae aj λi ay=>m7 o i ay λx bF=>cV ae bF λy bC=>m8 x y bC λz cj=>m9 o i z cj λc7=>D.nx ae c7):yD to ti cV m7 m8 m9 D ae H:=h
theorem ipi{f:Int→Int→Int}{i j:Int}(q:Q (.int (f i j)) H):ipI f (.int i) (.int j) H Q:=⟨i,j,rfl,rfl,q⟩
end
end Rd
section
variable {X:Cx}
theorem FI:Zk2 X (Zet X.K):=by
 intro ah s ae H o i dZ gH Q I ro ri h;obtain⟨p,xs,k,z,rfl,rfl,cG,cp,q⟩:=h;cases ro;obtain⟨t,rfl⟩:=ri;obtain⟨its,r,pl,hz⟩:=I.list cG;obtain⟨j,ai,aw,cC,c3,eE⟩:=Zck cp;obtain⟨w,gb,jp⟩:=r.get aw;have af:=r.length;have bA:=mq;have eN:EP X ah ae Q w s:=⟨z,H,I,jp,q⟩
 by_cases c8:0≤k
 ·have aJ:k.toNat=j:=by
   rw[seqIndex_of c8 eE] at ai;exact qap ai
  exact wpAny_getItem_list pl.isList c8 (by omega) (by rw[aJ];simpa using gb) eN
 ·have aJ:(k+(its.toArray.size:Int)).toNat=j:=by
   rw[seqIndex_neg (by omega) c3] at ai;rw[qae,←af];exact qap ai
  exact wpAny_getItem_list_neg pl.isList (by omega) (by rw[qae]<;>omega) (by omega) (by rw[aJ];simpa using gb) eN
theorem u_{K:Frag}(e:X.K=K):Zk2 X (Zet K):=e▸FI
end
section
variable {X:Cx}{K:Frag}
noncomputable def rMax3:List V→Hp→VK→Prop:=λxs H Q=>∃i j k,xs=[.int i,.int j,.int k]∧Q (.int (max (max i j) k)) H
theorem FJ(ax:X.calm=true):YC X (.builtin "max") rMax3:=by
 intro ah s ae H xs us Q I r h;obtain⟨i,j,k,rfl,q⟩:=h;cases r with
 |cons cH cX=>
  obtain⟨u,dC,rfl,⟨t',rfl⟩,⟨Q8,rfl⟩⟩:=Zij cX;obtain⟨t,rfl⟩:=cH;refine max_three_ints (I.ok.hd ax) λh' a5 kC=>⟨_,H,I.kept kC,?_,q⟩;have f5:∀{a b:Int}{a_:Tok},b=a→c2 (.int a) (.int b a_):=λ{a b a_} e=>⟨a_,by rw[e]⟩
  by_cases ai:j > i<;>by_cases aw:k > j<;>by_cases cC:k > i<;>simp only[ai,aw,cC,if_true,if_false]<;>exact f5 (by omega)
noncomputable def rMulS:R2:=λx y H Q=>∃(z:Str)(n:Int),x= .str z∧y= .int n∧MulOk z n∧Q (.str (Txt.mul z n)) H
theorem FK:OpR X (binaryOp .Mult) rMulS:=by
 intro ah s ae H x y v u Q I cr cJ h;obtain⟨z,n,rfl,rfl,ok,q⟩:=h;obtain⟨t,rfl⟩:=cr;obtain⟨t',rfl⟩:=cJ;exact SB.mul ok λt' k=>⟨.str _,H,I.tok _,⟨_,rfl⟩,q⟩
end
namespace Rd
section
variable {ae:St}{H:Hp}{Q:VK}{K:Frag}
theorem Zpy{z:Str}{n:Int}(h:MulOk z n)(q:Q (.str (Txt.mul z n)) H):rMulS (.str z) (.int n) H Q:=⟨z,n,rfl,rfl,h,q⟩
theorem Zpe{i j k:Int}(q:Q (.int (max (max i j) k)) H):rMax3 [.int i,.int j,.int k] H Q:=⟨i,j,k,rfl,q⟩
end
end Rd
theorem Zdd(ns di:List Int):PyData.eqv (.list (ns.map PyData.int)) (.list (di.map PyData.int))=decide (ns=di):=by
 have h:∀ns di:List Int,PyData.eqvAll (ns.map PyData.int) (di.map PyData.int)=decide (ns=di):=by
  intro ns
  induction ns with
  |nil=>intro di;cases di<;>simp[PyData.eqvAll]
  |cons n ns cO=>
   intro di;cases di with
   |nil=>simp[PyData.eqvAll]
   |cons m di=>
    simp only[List.map_cons,PyData.eqvAll,PyData.eqv,cO]
    by_cases e:n=m
    ·subst e;simp
    ·simp[e]
 simp only[PyData.eqv];exact h ns di
section
variable {X:Cx}
noncomputable def rUpdD:V→List V→Hp→VK→Prop:=λx vs H Q=>∃a b kvs more,x= .ref a∧vs=[.ref b]∧a≠b∧H a=some (.dK kvs)∧H b=some (.dK more)∧kvs.length+more.length≤sizeLine∧Q .non (upd H a (.dK (gT kvs more)))
theorem FL:MtR X "dict.update" rUpdD:=by
 intro ah s ae H x xs v us Q I cr rs h;obtain⟨a,b,kvs,more,rfl,rfl,ne,aZ,ag,af,q⟩:=h;cases cr;obtain⟨u,rfl,eu⟩:=Wz rs;cases eu;obtain⟨z,hd,vs,rel,dd⟩:=Zah I.hok aZ;obtain⟨e0,j6,gY,zy,rB⟩:=Zah I.hok ag;refine call_meetsIn PySem.F.slot_dict_update dd.typeIs PySem.F.entry_dict_update (PySem.F.args_dict_update_2 _ _) (meets_dict_update (e_ X.prog X.w) a b ne j6) ⟨vs,gY,dd,rB,by rw[←rel.length,←zy.length];exact af,λh' dd' _ hs=>?_⟩;have a6:=rO more kvs;have cp:∃q,h'.get? a=some q:=let⟨q,_,_,cG,_⟩:=dd';⟨q,cG⟩
 exact⟨.non,_,pK (t':=s.toks) I (by rw[aZ];exact True.intro) hs cp (rM (by omega) hd (zy.merge rel) dd'),rfl,q⟩
end
section
variable {X:Cx}
end
theorem Ziy{own:Nat}{ix:List Nat}{g:TG}{dN:TT}{Q:Addr→Hp→Prop}{ae:St}{H:Hp}{J:It}{n:Nat}{y:Nat→Hp→V→Hp→Prop}(w:Ux J n y H)(bA:n<sizeLine)(s:Nat→List (Option V))(hs:∀i,(s i).length=own)
  (aM:∀i a H' v ay (gX:St→Hp→Prop),i<n→Zf H H'→y i H' v ay→a.length=own→(∀bF,Zf H' bF→gX (s i++ix.map λj=>(ae[j]?).join) bF)→g v (a++ix.map λj=>(ae[j]?).join) ay gX)
  (ax:∀i H' (ds:Bool→Hp→Prop),i<n→Zf H H'→ds true H'→dN (s i++ix.map λj=>(ae[j]?).join) H' ds)
  (q:∀p H' (cN:List Addr),H p=none→Zf H H'→H' p=some (.lst (cN.map V.ref))→cN.length=n→cN.Nodup→(∀x∈cN,H x=none∧x≠p∧H' x=some (.lst []))→Q p H'):
  ∀p,H p=none→∃W:Nat→Nat→List V→St→Hp→Prop,(∃m,W 0 m [] (mC own ix ae) (upd H p (.lst [])))∧∀i m ys ci H',W i m ys ci H'→
   (J.stop i H'∧Q p H')∨(J.go i H'∧∀x ay,J.yld i H' x ay→g x ci ay λcY bF=>dN cY bF λb bC=>
    if b=true then uf tNil cY bC λv cj=>cj p=some (.lst ys)∧ys.length<sizeLine∧∃cQ,cQ<m∧W (i+1) cQ (ys++ [v]) cY (upd cj p (.lst (ys++ [v])))
    else ∃cQ,cQ<m∧W (i+1) cQ ys cY bC):=by
 intro p aS;refine⟨λi m ys ci H'=>m=n-i∧i≤n∧(∃a,a.length=own∧ci=a++ix.map λj=>(ae[j]?).join)∧Zf H H'∧∃cN:List Addr,ys=cN.map V.ref∧H' p=some (.lst (cN.map V.ref))∧cN.length=i∧cN.Nodup∧∀x∈cN,H x=none∧x≠p∧H' x=some (.lst []),
  ⟨n,by simp,qaA _,⟨List.replicate own none,qbk,rfl⟩,cP aS,[],rfl,Ze,rfl,.nil,by simp⟩,?_⟩
 rintro i m ys ci H' ⟨rfl,hi,⟨a,aZ,rfl⟩,sm,cN,rfl,a',dL,h6,lL⟩
 by_cases dz:i<n
 ·refine .inr ⟨w.go H' i sm dz,λx ay nD=>?_⟩;refine aM i a H' x ay _ dz sm (w.yld H' i x ay sm dz nD) aZ λbF bb=>?_;refine ax i bF _ dz (sm.trans bb) ?_;rw[if_pos rfl];show(0:Nat)≤sizeLine∧_;refine⟨qaA _,λu hu=>?_⟩;have zz:=sm.trans bb;have nE:=bb _ _ a';have r1:u≠p:=λz=>by rw[z,nE] at hu;cases hu
  have cI:Zf bF (upd bF u (.lst [])):=cP hu;refine⟨cI _ _ nE,by rw[GE];omega,n-(i+1),by omega,rfl,dz,⟨s i,hs i,rfl⟩,(zz.trans cI).new aS,cN++ [u],by simp,by rw[Ze];simp,by simp[dL],?_,λx ao=>?_⟩
  ·refine qbs.mpr ⟨h6,by simp,λx ao z hz=>?_⟩;rw[qab.mp hz];intro e;have:=bb _ _ (lL x ao).2.2;rw[e,hu] at this;cases this
  ·rcases qar.mp ao with z|z
   ·obtain⟨ai,aw,cC⟩:=lL x z;exact⟨ai,aw,by rw[cq aw];exact cI _ _ (bb _ _ cC)⟩
   ·rw[qab.mp z];refine⟨?_,r1,by rw[cq r1,Ze]⟩;cases e:H u with
    |none=>rfl
    |some o=>rw[zz _ _ e] at hu;cases hu
 ·have e:i=n:=by omega
  subst e;exact .inl ⟨w.stop H' sm,q p H' cN aS sm a' dL h6 lL⟩
namespace Rd
section
variable {H:Hp}{Q:VK}
theorem ZoM{a b:Addr}{kvs more:List (Key×V)}(ne:a≠b)(aZ:H a=some (.dK kvs))(ag:H b=some (.dK more))(af:kvs.length+more.length≤sizeLine)(q:Q .non (upd H a (.dK (gT kvs more)))):rUpdD (.ref a) [.ref b] H Q:=⟨a,b,kvs,more,rfl,rfl,ne,aZ,ag,af,q⟩
end
end Rd
section
variable {X:Cx}{ah:List (Addr×Obj)}{ae:St}{H:Hp}{s:Shared}
theorem Inv.freeze{a:Addr}{kvs:List (Key×V)}(I:Inv X ah ae H s)(e:Rd H a (.dK kvs)):∃o,s.heap.get? a=some o∧Inv X ah ae (upd H a (.frz o (.dK kvs))) s:=by
 have ok:ZY X.prog X.w H s.heap a (.dK kvs):=e.ok I.hok;rcases e with e|⟨o,e⟩
 ·obtain⟨_,_,vs,_,dd⟩:=Zah I.hok e;obtain⟨ep,i3⟩:=dd.dictAt;obtain⟨o,aN,bc,_⟩:=id i3;exact⟨o,bc,I.write (x:=a) (e:=a) (o:= .frz o (.dK kvs)) (t':=s.toks) (by rw[e];exact True.intro) (.inl rfl) (λb u _ q=>q) ⟨o,bc⟩ ⟨bc,ok⟩⟩
 ·have ao:upd H a (.frz o (.dK kvs))=H:=by
   funext b
   by_cases z:b=a
   ·rw[z,Ze,e]
   ·rw[cq z]
  exact⟨o,(show ZY X.prog X.w H s.heap a (.frz o (.dK kvs)) from I.hok a _ e).1,by rw[ao];exact I⟩
theorem KV.fwd{kvs:List (Key×V)}{vs:List (Key×Value)}(r:KV kvs vs):∀{j:Nat}{kv:Key×V},kvs[j]? =some kv→∃u,vs[j]? =some (kv.1,u)∧c2 kv.2 u:=by
 unfold KV at r
 induction r with
 |nil=>intro j kv e;simp at e
 | @cons p q ps en h t cO=>
  intro j kv e;cases j with
  |zero=>
   simp at e;subst e;obtain⟨cA,cT⟩:=q;exact⟨cT,by simp[h.1],h.2⟩
  |succ j=>
   obtain⟨u,ai,aw⟩:=cO (j:=j) (kv:=kv) (by simpa using e);exact⟨u,by simpa using ai,aw⟩
end
noncomputable def Itv (d:Addr) (o:Obj) (kvs:List (Key×V)):It:=
 ⟨λi H=>H d=some (.frz o (.dK kvs))∧i<kvs.length,λi H x H'=>H'=H∧∃kv,kvs[i]? =some kv∧x=kv.2,λi H=>H d=some (.frz o (.dK kvs))∧kvs.length≤i⟩
noncomputable def Itp (d:Addr) (o:Obj) (kvs:List (Key×V)):It:=
 ⟨λi H=>H d=some (.frz o (.dK kvs))∧i<kvs.length,λi H x H'=>∃t kv,kvs[i]? =some kv∧H t=none∧x= .ref t∧H'=upd H t (.tup [kV kv.1,kv.2]),λi H=>H d=some (.frz o (.dK kvs))∧kvs.length≤i⟩
theorem FN:entryFor table "dict_itemiterator.__iter__" =some Builtin.«dict_keyiterator.__iter__»:=entryFor_alias (id':="dict_keyiterator.__iter__") (by kernel_rfl) rfl (by decide+kernel) (by kernel_rfl)
theorem ZfB{P:Program}{w:World}{A:Around}{E:Value→Shared→Prop}{s:Shared}{it d:Addr}{i n ep:Nat}{ok dZ:Value}{Q:Value→Shared→Prop}(eR:IsItemIter s.heap it d i n ep ok dZ)(h:Q (.ref it) s):wpAny (model P w) A (pyIter (.ref it)) Q E s:=by
 have ty:s.TypeIs (.ref it) "dict_itemiterator" :=⟨_,eR,rfl⟩;refine wpAny_pyIter_slot ty PySem.F.slot_dict_itemiterator_iter (wpAny_call_entry PySem.F.slot_dict_itemiterator_iter ty FN (show wpAny _ _ (ret (Value.ref it)) _ _ s from wpAny_pure ⟨_,rfl,"dict_itemiterator",_,ty,PySem.F.slot_dict_itemiterator_next.lookup,h⟩) (PySem.F.args_dict_itemiterator_iter_1 _))
section
variable {P:Program}{w:World}{K:Frag}
theorem FO{de:Expr}(d it:Addr)(o:Obj)(kvs:List (Key×V))(vs:List (Key×Value))(ep:Nat)(rel:KV kvs vs)(hd:∀h:Heap,h.get? d=some o→h.DictAt (e_ P w) d vs ep):U6 P w K de (Itv d o kvs) [it] it (λi h=>h.IsValIter it d i vs.length ep) where
 mem:=by simp
 obj:=λi h st b ag=>by
  have e:b=it:=by simpa using ag
  subst e;obtain⟨o,e,c,dd⟩:=st;exact⟨o,e,λv z=>by rw[dd] at z;cases z⟩
 keep:=λi h h' st k=>st.at λo q=>k it (by simp) o q
 item:=by
  intro X d0 hw eH ax i ah s ae H E I bB st aM;subst d0 hw eH;obtain⟨cp,hi⟩:=aM;have bc:=(show ZY X.prog X.w H s.heap d (.frz o (.dK kvs)) from I.hok d _ cp).1;obtain⟨dE,f1,f2,dI,eh,em⟩:=bB it (by simp);obtain⟨u,hu,eu⟩:=rel.fwd (GT hi);refine wpAny_pyNext_values_item st (hd _ bc) hu λh' iD iE=>?_;have bD:Inv X ah ae H {s with heap:=h',toks:=s.toks}:=I.turned (t':=s.toks) (λb q ag e=>(iE.2 b ag).trans e) dE f1 dI eh em;obtain⟨q,e,c,dd⟩:=id iD;exact⟨_,rfl,pz (s:={s with heap:=h',toks:=s.toks}) e c dd (by decide) ⟨_,H,bD,eu,⟨rfl,kvs[i],GT hi,rfl⟩,iD,λb ag=>(bB b ag).1⟩⟩
 done:=by
  intro X d0 hw eH ax i ah s ae H E I bB st aM;subst d0 hw eH;obtain⟨cp,hi⟩:=aM;have bc:=(show ZY X.prog X.w H s.heap d (.frz o (.dK kvs)) from I.hok d _ cp).1;obtain⟨dE,f1,f2,dI,eh,em⟩:=bB it (by simp);exact wpAny_pyNext_values_end (I.ok.hd ax) st (hd _ bc) (qaW (by rw[←rel.length];exact hi)) λh' df=>⟨rfl,I.turned (t':=s.toks) (λb q ag e=>df b q ag e) dE f1 dI eh em⟩
 self:=λ_ _ _ _ _ st h=>wpAny_pyIter_valiter st h
theorem FP{kf:List Expr}{k1:Nat}{pos:Pos}(d it:Addr)(o:Obj)(kvs:List (Key×V))(vs:List (Key×Value))(ep:Nat)(rel:KV kvs vs)(hd:∀h:Heap,h.get? d=some o→h.DictAt (e_ P w) d vs ep):
  U6 P w K (.Tuple kf k1 pos) (Itp d o kvs) [it] it (λi h=>∃ok dZ,IsItemIter h it d i vs.length ep ok dZ) where
 mem:=by simp
 obj:=λi h st b ag=>by
  obtain⟨ok,dZ,e⟩:=st;rw[qab.mp ag];exact⟨_,e,λv z=>by
   have fl:Data.fields _=Data.cell v:=z;cases fl⟩
 keep:=λi h h' st k=>let⟨ok,dZ,e⟩:=st;⟨ok,dZ,k it (by simp) _ e⟩
 item:=by
  intro X d0 hw eH ax i ah s ae H E I bB st aM;subst d0 hw eH;obtain⟨cp,hi⟩:=aM;obtain⟨ok,dZ,eR⟩:=st;have bc:=(show ZY X.prog X.w H s.heap d (.frz o (.dK kvs)) from I.hok d _ cp).1;obtain⟨u,hu,eu⟩:=rel.fwd (GT hi);refine wpAny_pyNext_items_item eR (hd _ bc) hu λf5 h' ua hout dg hsz aR=>?_;have hr:=I.hok.fresh (FM s.heap.objs.size);have rY:it<s.heap.objs.size:=Heap.lt_size eR;refine⟨_,rfl,wpAny_letOwnedTupleGo_items hout λaw nC fq=>?_⟩;have iu:aw.get? s.heap.objs.size=some {cls:= .type "tuple",data:= .seq #[f5,u]}:=fq.extBut _ _ (qbX rY) dg;have bD:Inv X ah ae (upd H s.heap.objs.size (.tup [kV kvs[i].1,kvs[i].2])) {s with heap:=aw,toks:=s.toks}:=
   I.turnedNew (fp:=[it]) (λb q ag e=>by
    have f4:b≠it:=λz=>ag (by simp[z]);exact fq.extBut b q f4 (aR b q f4 e)) bB (FM _) ⟨by show 2≤sizeLine;decide,[f5,u],.cons (zp ua) (.cons eu .nil),_,iu,rfl,_,rfl⟩
  refine⟨.ref s.heap.objs.size,_,bD,rfl,⟨_,kvs[i],GT hi,hr,rfl,rfl⟩,⟨_,_,nC⟩,λb ag=>?_⟩;have p7:b≠s.heap.objs.size:=by rw[qab.mp ag];exact qak rY
  rw[cq p7];exact(bB b ag).1
 done:=by
  intro X d0 hw eH ax i ah s ae H E I bB st aM;subst d0 hw eH;obtain⟨cp,hi⟩:=aM;obtain⟨ok,dZ,eR⟩:=st;have bc:=(show ZY X.prog X.w H s.heap d (.frz o (.dK kvs)) from I.hok d _ cp).1;obtain⟨dE,f1,f2,dI,eh,em⟩:=bB it (by simp);exact wpAny_pyNext_items_end (I.ok.hd ax) eR (hd _ bc) (qaW (by rw[←rel.length];exact hi)) λh' df=>⟨rfl,I.turned (t':=s.toks) (λb q ag e=>df b q ag e) dE f1 dI eh em⟩
 self:=λ_ _ _ _ _ st h=>by
  obtain⟨ok,dZ,e⟩:=st;exact ZfB e h
end
section
variable {X:Cx}{de:Expr}
noncomputable def zA (h4:TE):TI:=λae H R=>h4 ae H λx aj=>∃a kvs,x= .ref a∧Rd aj a (.dK kvs)∧∀o,R (Itv a o kvs) (upd aj a (.frz o (.dK kvs)))
noncomputable def zB (h4:TE):TI:=λae H R=>h4 ae H λx aj=>∃a kvs,x= .ref a∧Rd aj a (.dK kvs)∧∀o,R (Itp a o kvs) (upd aj a (.frz o (.dK kvs)))
theorem FQ{d:Expr}{h4:TE}{eI e2:Pos}(hd:PE X d h4)(j8:attributeBase d "values" X.env (eval d X.env)=eval d X.env:=by rfl)(j9:(eI.endLine==e2.line)=true:=by rfl):
  PI X de (.Call (.Attribute d "values" eI) [] [] e2) (zA h4):=by
 intro ah s ae H R I h;refine wpAny_Call_method0_late j8 j9 (thn (hd ah s ae H _ I h) λv az ⟨x,aj,bD,cH,cA⟩=>?_);obtain⟨a,kvs,rfl,av,q⟩:=cA;cases cH;obtain⟨z,r2,vs,rel,dd⟩:=Zaj bD.hok av;obtain⟨ep,i3⟩:=dd.dictAt;obtain⟨o,bc,c'⟩:=bD.freeze av;have p9:∀h:Heap,h.get? a=some o→h.DictAt (e_ X.prog X.w) a vs ep:=λh e=>i3.at' λcM cx=>by rw[bc] at cx;cases cx;exact e
 refine⟨"dict","dict.values",qbQ,PySem.F.slot_dict_values,PySem.F.type_dict_values,dd.typeIs,dd.mapOf.noDict,Calls.callWith_builtin rfl (PySem.evalArgs_none ?_)⟩;refine call_meetsIn PySem.F.slot_dict_values dd.typeIs PySem.F.entry_dict_values (PySem.F.args_dict_values_1 _) (meets_dict_values (e_ X.prog X.w) a r2) ⟨⟨vs,dd⟩,?_⟩;refine wpAny_pyIter_values (knd:=e_ X.prog X.w) (d:=a) (kvs:=vs) (ep:=ep) ⟨_,Heap.get?_push_size _ rfl,rfl,rfl⟩ (p9 _ (Heap.get?_push_of_some _ bc)) ?_;have dV:Inv X ah ae (upd aj a (.frz o (.dK kvs))) {az with heap:=az.heap.push {cls:= .type "dict_values",data:= .fields #[.ref a]}}:=c'.kept (t':=az.toks) λb o e=>Heap.get?_push_of_some _ e;refine⟨(az.heap.push {cls:= .type "dict_values",data:= .fields #[.ref a]}).objs.size,[(az.heap.push {cls:= .type "dict_values",data:= .fields #[.ref a]}).objs.size],_,_,_,rfl,dV.kept (t':=az.toks) λb o e=>Heap.get?_push_of_some _ e,FO a _ o kvs vs ep rel p9,⟨_,Heap.get?_push_size _ rfl,rfl,rfl⟩,λb ag=>?_,q o⟩;rw[qab.mp ag];exact dV.fpOk (FM _) (dV.hok.fresh (FM _))
theorem zC{kf:List Expr}{k1:Nat}{lm:Pos}{d:Expr}{h4:TE}{eI e2:Pos}(hd:PE X d h4)(j8:attributeBase d "items" X.env (eval d X.env)=eval d X.env:=by rfl)(j9:(eI.endLine==e2.line)=true:=by rfl):
  PI X (.Tuple kf k1 lm) (.Call (.Attribute d "items" eI) [] [] e2) (zB h4):=by
 intro ah s ae H R I h;refine wpAny_Call_method0_late j8 j9 (thn (hd ah s ae H _ I h) λv az ⟨x,aj,bD,cH,cA⟩=>?_);obtain⟨a,kvs,rfl,av,q⟩:=cA;cases cH;obtain⟨z,r2,vs,rel,dd⟩:=Zaj bD.hok av;obtain⟨ep,i3⟩:=dd.dictAt;obtain⟨o,bc,c'⟩:=bD.freeze av;have p9:∀h:Heap,h.get? a=some o→h.DictAt (e_ X.prog X.w) a vs ep:=λh e=>i3.at' λcM cx=>by rw[bc] at cx;cases cx;exact e
 refine⟨"dict","dict.items",qbQ,PySem.F.slot_dict_items,PySem.F.type_dict_items,dd.typeIs,dd.mapOf.noDict,Calls.callWith_builtin rfl (PySem.evalArgs_none ?_)⟩;refine call_meetsIn PySem.F.slot_dict_items dd.typeIs PySem.F.entry_dict_items (PySem.F.args_dict_items_1 _) (meets_dict_items (e_ X.prog X.w) a r2) ⟨⟨vs,dd⟩,?_⟩;refine wpAny_pyIter_items (knd:=e_ X.prog X.w) (d:=a) (kvs:=vs) (ep:=ep) ⟨_,Heap.get?_push_size _ rfl,rfl,rfl⟩ (p9 _ (Heap.get?_push_of_some _ bc)) ?_;have dV:Inv X ah ae (upd aj a (.frz o (.dK kvs))) {az with heap:=az.heap.push {cls:= .type "dict_items",data:= .fields #[.ref a]}}:=c'.kept (t':=az.toks) λb o e=>Heap.get?_push_of_some _ e;refine⟨(az.heap.push {cls:= .type "dict_items",data:= .fields #[.ref a]}).objs.size,[(az.heap.push {cls:= .type "dict_items",data:= .fields #[.ref a]}).objs.size],_,_,_,rfl,dV.kept (t':=az.toks) λb o e=>Heap.get?_push_of_some _ e,FP a _ o kvs vs ep rel p9,⟨_,_,Heap.get?_push_size _ rfl⟩,λb ag=>?_,q o⟩;rw[qab.mp ag];exact dV.fpOk (FM _) (dV.hok.fresh (FM _))
end
namespace Rd
section
variable {ae:St}{H:Hp}{Q:VK}
theorem Zoi{h4:TE}{R:It→Hp→Prop}(h:h4 ae H λx aj=>∃a kvs,x= .ref a∧L2.Rd aj a (.dK kvs)∧∀o,R (Itv a o kvs) (upd aj a (.frz o (.dK kvs)))):zA h4 ae H R:=h
theorem Zjs{h4:TE}{R:It→Hp→Prop}(h:h4 ae H λx aj=>∃a kvs,x= .ref a∧L2.Rd aj a (.dK kvs)∧∀o,R (Itp a o kvs) (upd aj a (.frz o (.dK kvs)))):zB h4 ae H R:=h
theorem ZlH{a:Addr}{kvs:List (Key×V)}{x:Int}{v:V}(h:L2.Rd H a (.dK kvs))(e:valV kvs (Sum.inl x)=some v)(q:Q v H):rIxD (.ref a) (.int x) H Q:=⟨a,v,rfl,.inl ⟨kvs,Sum.inl x,h,rfl,e.symm⟩,q⟩
theorem ZoT{a:Addr}{kvs:List (Key×V)}{x:Int}(h:L2.Rd H a (.dK kvs))(q:Q (.bl (valV kvs (Sum.inl x)).isSome) H):rDIn (.int x) (.ref a) H Q:=⟨a,_,rfl,.inl ⟨kvs,Sum.inl x,h,rfl,rfl⟩,q⟩
end
end Rd
theorem FR{d:Addr}{o:Obj}{kvs:List (Key×V)}{H:Hp}(h:H d=some (.frz o (.dK kvs))):Ux (Itv d o kvs) kvs.length (λi H' v ay=>ay=H'∧∃kv,kvs[i]? =some kv∧v=kv.2) H:=
 ⟨λH' i s hi=>⟨s _ _ h,hi⟩,λ_ _ _ _ _ _ y=>y,λH' s=>⟨s _ _ h,FM _⟩⟩
theorem zD{d:Addr}{o:Obj}{kvs:List (Key×V)}{H:Hp}(h:H d=some (.frz o (.dK kvs))):Ux (Itp d o kvs) kvs.length (λi H' v ay=>∃t kv,kvs[i]? =some kv∧H' t=none∧v= .ref t∧ay=upd H' t (.tup [kV kv.1,kv.2])) H:=
 ⟨λH' i s hi=>⟨s _ _ h,hi⟩,λ_ _ _ _ _ _ y=>y,λH' s=>⟨s _ _ h,FM _⟩⟩
noncomputable def Itw (K:Frag) (a:Addr) (n:Nat):It:=
 ⟨λi H=>∃xs x,SqL K H a xs∧i<n∧xs[n-1-i]? =some x,λi H x H'=>H'=H∧∀xs,SqL K H a xs→xs[n-1-i]? =some x,λi _=>i=n⟩
theorem FS{P:Program}{w:World}{K:Frag}{de:Expr}(a it:Addr)(n:Nat):U6 P w K de (Itw K a n) [it] it (λi h=>h.IsRevIter it a ((n:Int)-1-i)) where
 mem:=by simp
 obj:=λi h st b ag=>by
  have e:b=it:=by simpa using ag
  subst e;obtain⟨o,e,c,d⟩:=st;exact⟨o,e,λv z=>by rw[d] at z;cases z⟩
 keep:=λi h h' st k=>st.at λo e=>k it (by simp) o e
 item:=by
  intro X d0 hw eH ax i ah s ae H E I bB st aM;subst d0 hw eH;obtain⟨xs,x,cG,f3,ao⟩:=aM;obtain⟨its,dk,p,hz⟩:=I.list cG;obtain⟨u,hu,eu⟩:=dk.get ao;obtain⟨dE,f1,f2,dI,eh,em⟩:=bB it (by simp);have gL:(n:Int)-1-(i:Int)=((n-1-i:Nat):Int):=by omega
  rw[gL] at st;refine wpAny_pyNext_rev_item st p.isList (x:=u) (by simpa using hu) λh' iD iE=>?_;have bD:Inv X ah ae H {s with heap:=h'}:=I.turned (t':=s.toks) (λb o ag e=>(iE.2 b ag).trans e) dE f1 dI eh em;have h7:((n-1-i:Nat):Int)-1=(n:Int)-1-((i+1:Nat):Int):=by omega
  rw[h7] at iD;obtain⟨o,e,c,d⟩:=id iD;exact⟨u,rfl,pz (s:={s with heap:=h'}) e c d (by decide) ⟨x,H,bD,eu,⟨rfl,λys a'=>by rw[I.list_inj a' cG];exact ao⟩,iD,λb ag=>(bB b ag).1⟩⟩
 done:=by
  intro X d0 hw eH ax i ah s ae H E I bB st aM;subst d0 hw eH;obtain⟨dE,f1,f2,dI,eh,em⟩:=bB it (by simp);have u':i=n:=aM;have gL:(n:Int)-1-(i:Int)= -1:=by omega
  rw[gL] at st;exact wpAny_pyNext_rev_end (I.ok.hd ax) st λh' df=>⟨rfl,I.turned (t':=s.toks) (λb o ag e=>df b o ag e) dE f1 dI eh em⟩
 self:=λ_ _ _ _ _ st h=>wpAny_pyIter_revIter st h
section
variable {X:Cx}
noncomputable def zE (K:Frag) (a_:TA):TI:=λae H R=>a_ ae H λvs aj=>∃a xs,vs=[.ref a]∧SqL K aj a xs∧R (Itw K a xs.length) aj
theorem FT{K:Frag}{a de:Expr}{a_:TA}{p pos:Pos}(fu:X.K=K)(aM:Gl X "reversed")(a6:X.mg "reversed" =none)(aZ:PA X [a] a_)(hs:starEach [a] X.env=[(false,eval a X.env)]:=by rfl):
  PI X de (.Call (.Name "reversed" p) [a] [] pos) (zE K a_):=by
 subst fu;intro ah s ae H R I h;refine Call_ (jW I aM a6 boot_reversed (qaV (thn (aZ pos ah s ae H _ I h) λus az ⟨vs,aj,bD,cH,cA⟩=>?_) hs rfl));obtain⟨b,xs,rfl,cG,q⟩:=cA;obtain⟨u,rfl,eu⟩:=Wz cH;cases eu;obtain⟨its,dk,pl,hz⟩:=bD.list cG;have af:=dk.length;refine call_reversed_list pl.isList ?_;have eR:(az.heap.push (revObj b (((its.toArray.size:Nat):Int)-1))).IsRevIter az.heap.objs.size b ((xs.length:Int)-1-((0:Nat):Int)):=by
  refine⟨_,Heap.get?_push_size _ rfl,rfl,?_⟩;show Data.fields #[Value.ref b,rawInt (((its.toArray.size:Nat):Int)-1)]=_;rw[qae,←af];simp
 refine wpAny_pyIter_revIter eR ?_;refine⟨az.heap.objs.size,[az.heap.objs.size],_,_,aj,rfl,bD.kept (t':=az.toks) λb o e=>Heap.get?_push_of_some _ e,FS b _ xs.length,eR,λc ax=>?_,q⟩;have e:c=az.heap.objs.size:=by simpa using ax
 subst e;exact bD.fpOk (FM _) (bD.hok.fresh (FM _))
end
theorem FU{K:Frag}{a:Addr}{xs:List V}{H:Hp}(h:SqL K H a xs):Walks (Itw K a xs.length) xs.length (λi=>xs.reverse.getD i .non) H:=
 ⟨λH' i e hi=>⟨xs,xs[xs.length-1-i],e.seq h,hi,by simp⟩,λH' i x ay e hi y=>⟨y.1,by
  have:=y.2 xs (e.seq h);rw[List.getD,List.getElem?_reverse hi,this]
  rfl⟩,λH' e=>rfl⟩
namespace Rd
theorem ZoG{ae:St}{H:Hp}{K:Frag}{a_:TA}{R:It→Hp→Prop}(h:a_ ae H λvs aj=>∃a xs,vs=[.ref a]∧SqL K aj a xs∧R (Itw K a xs.length) aj):zE K a_ ae H R:=h
end Rd
section
variable {X:Cx}{K:Frag}
noncomputable def ZhN (K:Frag):V→Hp→(Nat→Prop)→Prop:=λx H R=>∃(l:Addr)(ns:List Int),x= .ref l∧SqL K H l (ns.map V.int)∧ns.length+1<4096∧∀n,(ns.Nodup→n=ns.length)→R n
noncomputable def zF (K:Frag) (a_:TA):TE:=λae H Q=>a_ ae H λvs aj=>∃x,vs=[x]∧ZhN K x aj λn=>Q (.int (n:Nat)) aj
theorem zG(ns:List Int)(h:ns.Nodup):∀i,i≤ns.length→firstMet (λi=>ns.getD i 0) i=ns.take i
 |0,_=>rfl
 |i+1,hi=>by
  have dL:i<ns.length:=by omega
  rw[firstMet_succ,zG ns h i (by omega),qam dL];have e:ns.getD i 0=ns[i]:=by simp[List.getD,dL]
  unfold step_dedup;rw[e];have bA:((ns.take i).any (· ==ns[i]))=false:=by
   rw[List.any_eq_false];intro x ao;have h6:=h;rw[←qbK (i+1) ns,qam dL] at h6;have cC:=(qbs.mp (qbs.mp h6).1).2.2 x ao ns[i] (by simp);simpa using cC
  rw[bA]
  rfl
theorem FV{a:Expr}{a_:TA}{p eL pos va:Pos}(eH:X.K=K)(ax:X.calm=true)(r3:Gl X "len")(hJ:X.mg "len" =none)(aM:Gl X "set")(a6:X.mg "set" =none)(aZ:PA X [a] a_)
  (hs:starEach [a] X.env=[(false,eval a X.env)]:=by rfl)
  (cp:starEach [Expr.Call (.Name "set" p) [a] [] pos] X.env=(false,eval (.Call (.Name "set" p) [a] [] pos) X.env)::starEach [] X.env:=by rfl):
  PE X (.Call (.Name "len" eL) [.Call (.Name "set" p) [a] [] pos] [] va) (zF K a_):=by
 subst eH;intro ah s ae H Q I h;refine Call_ (jW I r3 hJ qai ?_);refine qbP ?_ cp;rw[cp];show wpAny _ _ (spliced ((false,eval (.Call (.Name "set" p) [a] [] pos) X.env):: [])) _ _ s;refine Calls.spliced_cons (Call_ (jW I aM a6 boot_set (qaV (thn (aZ pos ah s ae H _ I h) λus az ⟨vs,aj,bD,cH,cA⟩=>?_) hs rfl)));obtain⟨x,e,l,ns,rfl,cG,ag,q⟩:=cA;subst e;obtain⟨u,rfl,cr⟩:=Wz cH;cases cr;obtain⟨its,dk,pl,hz⟩:=bD.list cG;have hi:=rE dk;have hsz:its.toArray.size=ns.length:=by have:=dk.length;simpa using this.symm
 refine call_set_list (bD.ok.hd ax) pl.isList hi (by rw[hsz];exact ag) λh' a5 er aR=>?_;refine Calls.spliced_nil ?_;obtain⟨o,aN,ep,t,bc,f6,hd,_,_,dz,bB,bA⟩:=er;refine call_len_set bc f6 hd bB (by unfold scanBound at dz;omega) ?_;refine⟨.int aN.size,aj,?_,⟨_,rfl⟩,q _ λh6=>?_⟩
 ·exact bD.kept λb o e=>aR b o (Heap.lt_size e) e
 ·rw[bA,hsz,zG ns h6 _ (FM _),qa4]
end
namespace Rd
section
variable {K:Frag}{ae:St}{H:Hp}{Q:VK}
theorem lset{a_:TA}(h:a_ ae H λvs aj=>∃x,vs=[x]∧ZhN K x aj λn=>Q (.int (n:Nat)) aj):zF K a_ ae H Q:=h
end
end Rd
noncomputable def Itz (K:Frag) (a b:Addr):It:=
 ⟨λi H=>∃xs x ys y,SqL K H a xs∧xs[i]? =some x∧SqL K H b ys∧ys[i]? =some y,λi H v H'=>∃t x y,H t=none∧v= .ref t∧H'=upd H t (.tup [x,y])∧(∀xs,SqL K H a xs→xs[i]? =some x)∧∀ys,SqL K H b ys→ys[i]? =some y,λi H=>∃xs ys,SqL K H a xs∧SqL K H b ys∧(xs.length≤i∨ys.length≤i)⟩
theorem mE{h:Heap}{l b:Addr}{xs:Array Value}{o:Obj}(af:h.IsList l xs)(bc:h.get? b=some o)(ax:o.cls≠ .type "list"):l≠b:=λz=>by
 subst z;obtain⟨cM,ai,aw,_⟩:=af;rw[bc] at ai;cases ai;exact ax aw
structure ZiG(h:Heap)(z TI TO e1 fr a b:Addr)(i:Nat):Prop where
 zip:IsZip h z TI TO .none
 ti:IsPair h TI (.ref e1) (.ref fr)
 to:∃x y,IsPair h TO x y
 l1:h.IsListIter e1 a i
 l2:h.IsListIter fr b i
structure Zgf(z TI TO e1 fr:Addr):Prop where
 TIz:TI≠z
 TOz:TO≠z
 i1z:e1≠z
 i2z:fr≠z
 TITO:TI≠TO
 TIi1:TI≠e1
 TIi2:TI≠fr
 TOi1:TO≠e1
 TOi2:TO≠fr
 i12:e1≠fr
theorem FW(n:Nat):Zgf (n+4) (n+2) (n+3) n (n+1):=⟨show n+2≠n+4 by omega,show n+3≠n+4 by omega,show n≠n+4 by omega,show n+1≠n+4 by omega,show n+2≠n+3 by omega,show n+2≠n by omega,show n+2≠n+1 by omega,show n+3≠n by omega,show n+3≠n+1 by omega,show n≠n+1 by omega⟩
theorem ZiG.apart{h:Heap}{z TI TO e1 fr a b:Addr}{i:Nat}{xs ys:Array Value}(D:Zgf z TI TO e1 fr)(st:ZiG h z TI TO e1 fr a b i)(aZ:h.IsList a xs)(ag:h.IsList b ys):ZipApart z TI TO e1 fr a b:=by
 obtain⟨x,y,kh⟩:=st.to;obtain⟨ow,eL,dh,_⟩:=st.l1;obtain⟨hf,eK,dJ,_⟩:=st.l2;have f4:ow.cls≠ .type "list" :=by rw[dh];decide
 have ft:hf.cls≠ .type "list" :=by rw[dJ];decide
 exact⟨D.TIz,D.TOz,D.i1z,D.i2z,D.TITO,D.TIi1,D.TIi2,D.TOi1,D.TOi2,D.i12,mE aZ st.zip (show Value.type "zip" ≠Value.type "list" by decide),mE aZ kh (show Value.type "tuple" ≠Value.type "list" by decide),mE aZ eL f4,mE aZ eK ft,mE ag st.zip (show Value.type "zip" ≠Value.type "list" by decide),mE ag kh (show Value.type "tuple" ≠Value.type "list" by decide),mE ag eL f4,mE ag eK ft⟩
theorem FX{P:Program}{w:World}{K:Frag}{kf:List Expr}{k1:Nat}{pos:Pos}(a b z TI TO e1 fr:Addr)(D:Zgf z TI TO e1 fr):U6 P w K (.Tuple kf k1 pos) (Itz K a b) [z,TI,TO,e1,fr] z (λi h=>ZiG h z TI TO e1 fr a b i) where
 mem:=by simp
 obj:=λi h st c ax=>by
  obtain⟨x,y,kh⟩:=st.to;obtain⟨ow,eL,_,d1⟩:=st.l1;obtain⟨hf,eK,_,d2⟩:=st.l2;simp only[qaf,qaF,or_false] at ax;rcases ax with rfl|rfl|rfl|rfl|rfl
  ·exact⟨_,st.zip,λv q=>by cases (show Data.fields _=Data.cell v from q)⟩
  ·exact⟨_,st.ti,λv q=>by cases (show Data.seq _ _=Data.cell v from q)⟩
  ·exact⟨_,kh,λv q=>by cases (show Data.seq _ _=Data.cell v from q)⟩
  ·exact⟨ow,eL,λv q=>by rw[d1] at q;cases q⟩
  ·exact⟨hf,eK,λv q=>by rw[d2] at q;cases q⟩
 keep:=λi h h' st k=>by
  obtain⟨x,y,kh⟩:=st.to;exact⟨k z (by simp) _ st.zip,k TI (by simp) _ st.ti,⟨x,y,k TO (by simp) _ kh⟩,st.l1.at λo q=>k e1 (by simp) o q,st.l2.at λo q=>k fr (by simp) o q⟩
 item:=by
  intro X d0 hw eH ax i ah s ae H E I bB st aM;subst d0 hw eH;obtain⟨xs,x,ys,y,gB,ao,hK,a'⟩:=aM;obtain⟨zH,r4,eL,ox⟩:=I.list gB;obtain⟨jG,oy,eK,nF⟩:=I.list hK;obtain⟨dH,fx,vb⟩:=r4.get ao;obtain⟨eU,gM,vd⟩:=oy.get a';obtain⟨a0,b0,kh⟩:=st.to;refine wpAny_pyNext_zip_item (st.apart D eL.isList eK.isList) st.zip st.ti kh st.l1 st.l2 eL.isList eK.isList (x:=dH) (y:=eU) (by simpa using fx) (by simpa using gM) λh' nG FY kJ hq dg hsz aR=>?_;have hr:=I.hok.fresh (FM s.heap.objs.size);have lt:∀{c:Addr}{o:Obj},s.heap.get? c=some o→c<s.heap.objs.size:=λe=>Heap.lt_size e;have zI:=lt st.zip;have FZ:e1<s.heap.objs.size:=by obtain⟨_,q,_⟩:=st.l1;exact lt q
  have F0:fr<s.heap.objs.size:=by obtain⟨_,q,_⟩:=st.l2;exact lt q
  refine⟨_,rfl,wpAny_letOwnedTupleGo_zip nG λaw F1 fq=>?_⟩;have iu:IsPair aw s.heap.objs.size dH eU:=fq.extBut _ _ (qbX zI) dg;have bD:Inv X ah ae (upd H s.heap.objs.size (.tup [x,y])) {s with heap:=aw}:=
   I.turnedNew (t':=s.toks) (fp:=[z,TI,TO,e1,fr]) (λc o ax q=>by
    have f4:c≠z:=λe=>ax (by simp[e]);have ft:c≠TO:=λe=>ax (by simp[e]);have m':c≠e1:=λe=>ax (by simp[e]);have r5:c≠fr:=λe=>ax (by simp[e]);exact fq.extBut c o f4 (aR c o f4 ft m' r5 q)) bB (FM _) ⟨by show 2≤sizeLine;decide,[dH,eU],.cons vb (.cons vd .nil),_,iu,rfl,_,rfl⟩
  refine⟨.ref s.heap.objs.size,_,bD,rfl,⟨_,x,y,hr,rfl,rfl,λzs hz=>by rw[I.list_inj hz gB];exact ao,λzs hz=>by rw[I.list_inj hz hK];exact a'⟩,⟨F1,fq.extBut _ _ D.TIz (aR _ _ D.TIz D.TITO D.TIi1 D.TIi2 st.ti),⟨_,_,fq.extBut _ _ D.TOz FY⟩,kJ.at λo q=>fq.extBut _ _ D.i1z q,hq.at λo q=>fq.extBut _ _ D.i2z q⟩,λc ax=>?_⟩;have p7:c≠s.heap.objs.size:=by
   simp only[qaf,qaF,or_false] at ax;rcases ax with rfl|rfl|rfl|rfl|rfl
   ·exact qak zI
   ·exact qak (lt st.ti)
   ·exact qak (lt kh)
   ·exact qak FZ
   ·exact qak F0
  rw[cq p7];exact(bB c ax).1
 done:=by
  intro X d0 hw eH ax i ah s ae H E I bB st aM;subst d0 hw eH;obtain⟨xs,ys,gB,hK,ao⟩:=aM;obtain⟨zH,r4,eL,ox⟩:=I.list gB;obtain⟨jG,oy,eK,nF⟩:=I.list hK;obtain⟨a0,b0,kh⟩:=st.to;have aW:=r4.length;have a7:=oy.length;exact wpAny_pyNext_zip_end (I.ok.hd ax) (st.apart D eL.isList eK.isList) st.zip st.ti kh st.l1 st.l2 eL.isList eK.isList (by rcases ao with q|q;exact .inl (by simp;omega);exact .inr (by simp;omega)) λh' df=>⟨rfl,I.turnedL (t':=s.toks) (fp:=[z,TI,TO,e1,fr]) (λc o ax q=>df c o (λe=>ax (by simp[e])) (λe=>ax (by simp[e])) (λe=>ax (by simp[e])) (λe=>ax (by simp[e])) q) bB⟩
 self:=λ_ _ _ _ _ st h=>wpAny_pyIter_zip st.zip h
section
variable {X:Cx}
noncomputable def zJ (K:Frag) (a_:TA):TI:=λae H R=>a_ ae H λvs aj=>∃a b,vs=[.ref a,.ref b]∧(∃xs,SqL K aj a xs)∧(∃ys,SqL K aj b ys)∧R (Itz K a b) aj
theorem ve{K:Frag}{a b:Expr}{a_:TA}{p pos lm:Pos}{kf:List Expr}{k1:Nat}(fu:X.K=K)(aM:Gl X "zip")(a6:X.mg "zip" =none)(aZ:PA X [a,b] a_)(hs:starEach [a,b] X.env=(false,eval a X.env)::starEach [b] X.env:=by rfl)(fO:(backTo pos (starEach [b] X.env)).any (·.1)=false:=by rfl):
  PI X (.Tuple kf k1 lm) (.Call (.Name "zip" p) [a,b] [] pos) (zJ K a_):=by
 subst fu;intro ah s ae H R I h;refine Call_ (jW I aM a6 boot_zip (qaV (thn (aZ pos ah s ae H _ I h) λus az ⟨vs,aj,bD,cH,cA⟩=>?_) hs fO));obtain⟨b1,b2,rfl,⟨xs,gB⟩,⟨ys,hK⟩,q⟩:=cA;obtain⟨dH,eU,rfl,vb,vd⟩:=Zij cH;cases vb;cases vd;obtain⟨zH,r4,eL,ox⟩:=bD.list gB;obtain⟨jG,oy,eK,nF⟩:=bD.list hK;refine call_zip_2 eL.isList eK.isList λh' hz vf F2 ai aw hsz aR=>?_;refine wpAny_pyIter_zip hz ?_;have c':Inv X ah ae aj {az with heap:=h'}:=bD.kept (t':=az.toks) aR;have gf:∀k:Nat,az.heap.objs.size≤az.heap.objs.size+k:=λk=>qcg _ _;refine⟨az.heap.objs.size+4,[az.heap.objs.size+4,az.heap.objs.size+2,az.heap.objs.size+3,az.heap.objs.size,az.heap.objs.size+1],_,_,aj,rfl,c',FX b1 b2 _ _ _ _ _ (FW _),⟨hz,vf,⟨_,_,F2⟩,ai,aw⟩,λc ax=>?_,q⟩;simp only[qaf,qaF,or_false] at ax;rcases ax with rfl|rfl|rfl|rfl|rfl
 ·exact bD.fpOk (gf 4) (bD.hok.fresh (gf 4))
 ·exact bD.fpOk (gf 2) (bD.hok.fresh (gf 2))
 ·exact bD.fpOk (gf 3) (bD.hok.fresh (gf 3))
 ·exact bD.fpOk (FM _) (bD.hok.fresh (FM _))
 ·exact bD.fpOk (gf 1) (bD.hok.fresh (gf 1))
end
theorem vg{K:Frag}{a b:Addr}{xs ys:List V}{H:Hp}(ai:SqL K H a xs)(aw:SqL K H b ys)(af:xs.length=ys.length):Ux (Itz K a b) xs.length (λi H' v ay=>∃t,H' t=none∧v= .ref t∧ay=upd H' t (.tup [xs.getD i .non,ys.getD i .non])) H:=
 ⟨λH' i e hi=>⟨xs,xs[i],ys,ys[i],e.seq ai,by simp[hi],e.seq aw,by simp⟩,λH' i x ay e hi ⟨t,z,fl,cu,cn,hu,hz,nG⟩=>⟨t,cu,cn,by
  have aW:=hz xs (e.seq ai);have a7:=nG ys (e.seq aw);rw[hu];simp[List.getD,aW,a7]⟩,λH' e=>⟨xs,ys,e.seq ai,e.seq aw,.inl (FM _)⟩⟩
namespace Rd
section
variable {K:Frag}{ae:St}{H:Hp}
theorem Zpo{fD:TA}{R:It→Hp→Prop}(h:fD ae H λvs aj=>∃a b,vs=[.ref a,.ref b]∧(∃xs,SqL K aj a xs)∧(∃ys,SqL K aj b ys)∧R (Itz K a b) aj):zJ K fD ae H R:=h
end
end Rd
section
variable {X:Cx}{K:Frag}
noncomputable def vh (K:Frag):List V→Hp→VK→Prop:=λxs H Q=>∃a p ys,xs=[.ref a,.ref p]∧SqL K H a ys∧H p=some (.tup [.ty "list",.ty "tuple"])∧Q (.bl true) H
theorem F3:YC X (.builtin "isinstance") (vh X.K):=by
 intro ah s ae H xs us Q I r h;obtain⟨a,p,ys,rfl,cG,aS,q⟩:=h;obtain⟨u,v,rfl,eu,dk⟩:=r.two;cases eu;cases dk;obtain⟨its,Q9,pl,hz⟩:=I.list cG;obtain⟨ow,ai,dh,_⟩:=pl.isList;obtain⟨_,jG,oy,pt⟩:=(show ZY X.prog X.w H s.heap p (.tup [.ty "list",.ty "tuple"]) from I.hok p _ aS);obtain⟨hf,aw,dJ,ft,d2⟩:=pt;obtain⟨i4,mF,rfl,cH,cX⟩:=oy.two;obtain rfl:i4=Value.type "list" :=cH;obtain rfl:mF=Value.type "tuple" :=cX;obtain⟨cls,dd,Q_,sl⟩:=hf;dsimp only at dJ d2;subst dJ d2;exact PySem.W.kia_tup (its:=[Value.type "list",Value.type "tuple"]) kitx_list I.kIn ⟨ow,ai,dh⟩ aw (b:=true) (by rfl) (λz=>nomatch z) λa5=>⟨.bl true,H,I.tok a5,rfl,q⟩
theorem F4(e:X.K=K):YC X (.builtin "isinstance") (vh K):=e▸F3
noncomputable def rIndexB:V→List V→Hp→VK→Prop:=λx vs H Q=>∃(l:Addr)(bs:List Bool)(j:Nat),x= .ref l∧vs=[.bl true]∧H l=some (.lst (bs.map V.bl))∧bs[j]? =some true∧(∀m<j,bs[m]? =some false)∧Q (.int j) H
theorem F5:MtM X "list.index" rIndexB:=by
 intro ah s ae H x vs v us Q I cr dk h;obtain⟨l,bs,j,rfl,rfl,gw,aJ,gi,q⟩:=h;cases cr;obtain⟨u,rfl,eu⟩:=Wz dk;obtain rfl:u=Value.bool true:=eu;obtain⟨z,its,n,r,af,e⟩:=I.lstM gw;have eJ:=u2 (s:=s) r;have hL:=(GM.mp aJ).1;have hz:its.toArray.size=bs.length:=by rw[eJ];simp
 have at_:∀(m:Nat)(a6:m<its.toArray.size),its.toArray[m]=Value.bool (bs[m]'(by omega)):=λm a6=>by
  subst eJ;simp
 have bA:=mq;refine call_meets F.slot_list_index ⟨_,e,rfl⟩ F.entry_list_index (F.args_list_index_2 _ _) (PySem.SeqAt.list_indexAt l its.toArray n _ _ (.bool true) (λy=>y==Value.bool true) j (by omega) (by rw[GE] at z;omega) ?_ ?_) ⟨e,λy a'=>?_,?_⟩
 ·rw[at_ j (by omega)];have:=(GM.mp aJ).2;rw[this]
  rfl
 ·intro m a6 vi;rw[at_ m a6];have:=(GM.mp (gi m vi)).2;rw[this]
  rfl
 ·subst eJ;obtain⟨b,_,rfl⟩:=qah.mp (List.mem_toArray.mp a');have cp:(Value.bool b==Value.bool true)=(b==true):=by cases b<;>rfl
  rw[cp];exact PySem.SeqAt.EqAt.bool_bool b true
 ·exact⟨.int j,H,I.tok _,⟨_,rfl⟩,q⟩
end
namespace Rd
theorem Zm4{H:Hp}{Q:VK}{l:Addr}{bs:List Bool}{j:Nat}(h:H l=some (.lst (bs.map V.bl)))(aJ:bs[j]? =some true)(bA:∀m<j,bs[m]? =some false)(q:Q (.int j) H):rIndexB (.ref l) [.bl true] H Q:=⟨l,bs,j,rfl,rfl,h,aJ,bA,q⟩
theorem Zo4{K:Frag}{H:Hp}{Q:VK}{a p:Addr}{ys:List V}(h:SqL K H a ys)(aS:H p=some (.tup [.ty "list",.ty "tuple"]))(q:Q (.bl true) H):vh K [.ref a,.ref p] H Q:=⟨a,p,ys,rfl,h,aS,q⟩
end Rd
section
variable {X:Cx}{K:Frag}
noncomputable def zK (K:Frag):V→List V→Hp→VK→Prop:=λx vs H Q=>∃(l:Addr)(ns:List Int)(k:Int),x= .ref l∧vs=[.int k]∧SqL K H l (ns.map V.int)∧Q (.int (ns.count k:Nat)) H
theorem F6(fu:X.K=K):MtM X "list.count" (zK K):=by
 subst fu;intro ah s ae H x vs v us Q I cr dk h;obtain⟨l,ns,k,rfl,rfl,gw,q⟩:=h;cases cr;obtain⟨u,rfl,t,rfl⟩:=Wz dk;obtain⟨its,r,pl,hz⟩:=I.list gw;exact count_list_ints pl.isList (rE r) ⟨.int _,H,I.tok _,⟨_,rfl⟩,q⟩
section
variable {prog:Program}{w:World}{A:Around}{E:Value→Shared→Prop}{s:Shared}{I l:Addr}{items:Array Value}
end
end
namespace Rd
theorem Zna{H:Hp}{K:Frag}{Q:VK}{l:Addr}{ns:List Int}{k:Int}(h:SqL K H l (ns.map V.int))(q:Q (.int (ns.count k:Nat)) H):zK K (.ref l) [.int k] H Q:=⟨l,ns,k,rfl,rfl,h,q⟩
end Rd
section
variable {X:Cx}
end
namespace Rd
end Rd
end L2
namespace L2
open PySem PySem.Spec PySem.W PyProof.Rows Builtin Builtin.ObjectAttr Builtin.Getset_descriptor
def nH(x C:Addr)(h:Heap):Prop:=∃o,h.get? x=some o∧o.cls= .ref C
theorem nH.type{M:Model}{h:Heap}{x C:Addr}(I:nH x C h):Looks M h (typeOf (.ref x)) (.ref C):=by
 obtain⟨o,ai,aw⟩:=I;exact aw▸(Looks.ld ai).andThen .now
structure YU(K:Frag)(C:Addr):Prop where
 cl:(clsIn K C).isSome=true
 ga:findIn K (.ref C) "__getattribute__" =some (some (.builtin "BaseException.__getattribute__"))
 gk:findIn K (.ref C) "__getattr__" =some none
 ca:findIn K (.ref C) "__class__" =some (some (.builtin "object.__class__"))
 cg:specialIn K (.builtin "object.__class__") "__get__" =some (some (.builtin "getset_descriptor.__get__"))
 ct:takesIn K (.builtin "object.__class__")=some true
 sub:subIn K (.ref C) (.type "BaseException")=some true
 mr:mroIn K C (.type "object")=some true
section
variable {prog:Program}{w:World}{A:Around}{E:Value→Shared→Prop}{s:Shared}{K:Frag}{x C:Addr}
theorem ZkT{M:Model}{h:Heap}(X:K.In h)(c:YU K C):Looks M h (Builtin.ObjectAttr.find (.ref x) (.ref C) "__class__") (.bind (.builtin "getset_descriptor.__get__") (.builtin "object.__class__")):=by
 have r6:=looks_findIn (M:=M) X c.ca;have L2:Looks M h (Builtin.ObjectAttr.getOf (some (.builtin "object.__class__"))) (some (.builtin "getset_descriptor.__get__")):=looks_specialIn X c.cg;have vj:=looks_takesIn (M:=M) X c.ct;exact r6.andThen (L2.andThen ((show Looks M h (Builtin.ObjectAttr.dataDescriptor? (some (.builtin "object.__class__")) (some (.builtin "getset_descriptor.__get__"))) (some (.builtin "getset_descriptor.__get__",.builtin "object.__class__")) from vj.andThen .now).andThen (Looks.tag .now)))
theorem F7{gC:Value}{R:Result→Shared→Prop}(X:K.In s.heap)(I:nH x C s.heap)(c:YU K C)(h:R (.ok (.ret (.ref C))) s):codeAny (model prog w) A (.call (.builtin "getset_descriptor.__get__") ⟨[.builtin "object.__class__",.ref x,gC],[]⟩) R s:=by
 obtain⟨cw,g,dr,t,os⟩:=s;have p_:=I.type (M:=model prog w);have r6:=looks_mroIn (M:=model prog w) X c.mr;refine codeAny_call_builtin KF.slot_gs.plain KF.entry_gs (KF.slot_gs.check _ _ _ _ _ _ _ _ KF.type_class (KF.args_gs _ _ _) ?_);unfold Builtin.«getset_descriptor.__get__» descrGet;rw[dga_obj];refine wpAny_bind (wpAny_pure ?_);unfold descrGetter descrCheckInstance descrNameAndClass isInstance;simp only[KF.owner_class]
 repeat lk
 refine⟨Code.quiet_builtin _ (by decide+kernel),codeAny_builtin KF.entry_class ?_⟩;unfold Builtin.«object.__class__» shownTypeOf
 repeat lk
 exact h
theorem ZjQ{a5:Tok}{Q:Fin→Shared→Prop}(X:K.In s.heap)(I:nH x C s.heap)(c:YU K C)
  (h:Q (.done (.ret (.ref C))) s):wpAny (model prog w) A (Builtin.«object.__getattribute__» ⟨[.ref x,.str "__class__" a5],[]⟩) Q E s:=by
 obtain⟨cw,g,d,t,os⟩:=s;have p_:=I.type (M:=model prog w);have vj:=ZkT (M:=model prog w) (x:=x) X c;show wpAny _ _ (typeOf (.ref x) >>= _) _ _ _;refine wpAny_bind (p_.at (wpAny_bind (vj.at ?_)));show wpAny _ _ (holding [Value.builtin "object.__class__"] (call (.builtin "getset_descriptor.__get__") [.builtin "object.__class__",.ref x,.ref C]) >>= ret) _ _ _;exact wpAny_bind (wpAny_holding (wpAny_call (F7 (s:=⟨cw,g,d,t,os⟩) X I c (wpAny_pure h))))
theorem ZjD{Q:Option Value→Shared→Prop}(X:K.In s.heap)(I:nH x C s.heap)(c:YU K C)(h:Q (some (.ref C)) {s with toks:=s.toks+1}):wpAny (model prog w) A (getAttr? (.ref x) "__class__") Q E s:=by
 obtain⟨cw,g,d,t,os⟩:=s;have p_:=I.type (M:=model prog w);have r6:=looks_findIn (M:=model prog w) X c.ga;have L2:=looks_findIn (M:=model prog w) X c.gk;have F8:Looks (model prog w) cw (isSubtype (.ref C) (.type "BaseException")) true:=looks_subIn X c.sub;have F9:Looks (model prog w) cw (isInstance (.ref x) (.type "BaseException")) true:=p_.andThen F8;unfold getAttr? getAttrBy? getAttrBy;refine wpAny_bind (wpAny_mkText (wpAny_bind (wpAny_attempt (wpAny_holding (wpAny_bind (p_.at (wpAny_bind (r6.at ?_))))))));show wpAny _ _ (getAttrByItsOwn _ _ _ _ _ _) _ _ _;unfold getAttrByItsOwn hookBefore;refine wpAny_bind (L2.at (wpAny_bind (wpAny_attempt (wpAny_holding ?_))));show wpAny _ _ (bindSpecial _ _ >>= _) _ _ _;rw[F.excAttr_ValueError.ga.bind (.ref x)];refine wpAny_bind (wpAny_pure (wpAny_call (codeAny_call_builtin F.excAttr_ValueError.ga.plain F.entry_bexc_ga ?_)));have aR:builtinKind "BaseException.__getattribute__" =some .slot:=by decide+kernel
 have jF:splitId "BaseException.__getattribute__" =some ("BaseException","__getattribute__"):=by decide+kernel
 have aZ:=F.args_bexc_ga (.ref x) (.str "__class__" t);have F_:∀(Q:Unit→Shared→Prop)(E:Value→Shared→Prop),Q () ⟨cw,g,d,t+1,os⟩→wpAny (model prog w) A.in1 (checkBuiltinCall "BaseException.__getattribute__" ⟨[.ref x,.str "__class__" t],[]⟩) Q E ⟨cw,g,d,t+1,os⟩:=λQ E jV=>by
  simp only[checkBuiltinCall,aR,jF];refine wpAny_bind (F9.at ?_);simp only[Bool.not_true,qb4,if_false];cases F':Manifest.signature? "BaseException.__getattribute__" with
  |none=>exact wpAny_pure jV
  |some sig=>
   simp only[argsOk,F'] at aZ;have aw:Bind.checkArgs "BaseException.__getattribute__" sig ⟨[.ref x,.str "__class__" t],[]⟩=pure ():=aZ;show wpAny _ _ (Bind.checkArgs "BaseException.__getattribute__" sig ⟨[.ref x,.str "__class__" t],[]⟩) Q E _;rw[aw];exact wpAny_pure jV
 refine F_ _ _ ?_;refine ZjQ (s:=⟨cw,g,d,t+1,os⟩) (A:=A.in1) X I c ?_;exact handed_on rfl (wpAny_pure h)
theorem Ga(c:YU K C):KitX K (.ref x) (.ref C) (nH x C) where
 ty:=λ_ _ _ I=>I.type
 it:=λ_ _ X _=>by
  obtain⟨Gb,lv⟩:=qbN.mp c.cl;unfold clsIn at lv
  split at lv
  ·rename_i dO d' cd' pj bc;intro gj pq E' s' k q;unfold isType loadHead;exact wpAny_bind (wpAny_loadPart (k _ _ (X _ _ bc)) (wpAny_pure q))
  ·cases lv
 ne:=λh gC dd its n sl X Gc=>by
  obtain⟨Gb,lv⟩:=qbN.mp c.cl;refine Bool.eq_false_iff.mpr λq=>?_;have e:C=gC:=Value.ref.inj (beq_iff_eq.mp q);subst e;unfold clsIn at lv
  split at lv
  ·rename_i dO d' cd' pj bc;have z:=(X _ _ bc).symm.trans Gc;cases z
  ·cases lv
 ca:=λX I k=>ZjD X I c k
end
noncomputable def hx (x C:Addr):HO:= .ext (nH x C)
section
variable {X:Cx}
noncomputable def vk (K:Frag):List V→Hp→VK→Prop:=λxs H Q=>∃(x C:Addr)(c:V)(u:Value)(b:Bool),xs=[.ref x,c]∧H x=some (hx x C)∧YU K C∧(∀v,c2 c v→v=u)∧kitOne K (.ref C) u=some b∧Q (.bl b) H
theorem r7{K:Frag}(e:X.K=K):YC X (.builtin "isinstance") (vk K):=by
 subst e;intro ah s ae H xs us Q I r h;obtain⟨x,C,c,u,b,rfl,ao,hp,hu,aR,q⟩:=h;cases r with
 |cons cH pu=>
  obtain⟨v,rfl,dk⟩:=Wz pu;cases (show _=Value.ref x from cH);have eJ:=hu v dk;subst eJ;obtain⟨Gd,_,_⟩:=(show ZY X.prog X.w H s.heap x (hx x C) from I.hok x _ ao);exact kia_one (Ga hp) I.kIn Gd aR (λz=>nomatch z) λa5=>⟨.bl b,H,I.tok a5,rfl,q⟩
end
end L2
namespace L2
open PySem PySem.Spec PyProof.Rows
section
variable {X:Cx}{ah:List (Addr×Obj)}{ae:List (Option V)}{H:Hp}{s:Shared}
theorem Inv.track{cL:Addr}{o:HO}(I:Inv X ah ae H s)(c8:∀dx,X.s₀.heap.get? cL=some dx→cL∈X.ex)(e6:cL≠X.env.locals)(ax:∀x c,X.env.cells.lookup x=some c→c≠cL)(aS:∀p∈X.pn++ah,p.1≠cL)(bA:H cL=none)
  (new:ZY X.prog X.w (upd H cL o) s.heap cL o):Inv X ah ae (upd H cL o) s:=by
 refine⟨I.ok,I.os,I.bare,⟨I.base.keep,I.base.slot,λb dx e n ao=>?_,I.base.there,λb xs e=>?_,λb dx u e=>?_,λb ps e=>?_⟩,I.loc,I.cell,?_,λx c e=>?_,λp r8=>?_,λb u e=>?_,I.len⟩
 ·rw[cq (λz=>ao (by rw[z];exact c8 dx (by rw[←z];exact e)))];exact I.base.free b dx e n ao
 ·rw[cq (dw (I.base.tups b xs e) bA)];exact I.base.tups b xs e
 ·rw[cq (dw (I.base.frzs b dx u e) bA)];exact I.base.frzs b dx u e
 ·obtain⟨more,q⟩:=I.base.tbls b ps e;exact⟨more,by rw[cq (dw q bA)];exact q⟩
 ·rw[cq (qbJ e6)];exact I.free
 ·rw[cq (ax x c e)];exact I.freeC x c e
 ·obtain⟨a,b,r⟩:=I.pin p r8;exact⟨a,by rw[cq (aS p r8)];exact b,r⟩
 ·by_cases ag:b=cL
  ·subst ag;rw[Ze] at e;cases e;exact new
  ·rw[cq ag] at e;exact(I.hok b u e).stay (λc v _ q=>q) (λc q=>by rw[cq (dw q bA)];exact q) λc xs q=>by rw[cq (dw q bA)];exact q
theorem Inv.dropName{h':Heap}{t':Nat}{j:Nat}{n:Str}{m:Str→Option Value}{v:Option Value}(I:Inv X ah ae H s)(d_:X.N.Nodup)(aJ:X.N[j]? =some n)(hs:Heap.SameBut X.env.locals s.heap h')
  (a6:∀(i:Nat) x w,X.N[i]? =some x→ae[i]? =some (some w)→Vis X.env.scope x→∃u,c2 w u∧ZnF X.env s.heap m x u) (bA:h'.Ns X.env.locals (λx=>if x=n then v else m x)):Inv X ah (ae.set j none) H {s with heap:=h',toks:=t'}:=by
 have oa:∀b o,X.s₀.heap.get? b=some o→b≠X.env.locals:=λb o e=>qak (qad (Heap.lt_size e) I.ok.above);have k:∀b o,b≠X.env.locals→s.heap.get? b=some o→h'.get? b=some o:=λb o ag e=>(hs.2 b ag).trans e;refine⟨I.ok,I.os,I.bare,⟨λb o e fK ag ao=>k b o (oa b o e) (I.base.keep b o e fK ag ao),λb o e fK ag ao=>?_,I.base.free,λb o e ao=>?_,I.base.tups,I.base.frzs,I.base.tbls⟩,⟨_,bA,λi x w aW a7 c_=>?_⟩,λx c e=>?_,I.free,I.freeC,λp aS=>?_,λb u e=>?_,by rw[qbS];exact I.len⟩
 ·obtain⟨sl,q⟩:=I.base.slot b o e fK ag ao;exact⟨sl,k b _ (oa b o e) q⟩
 ·obtain⟨cM,q⟩:=I.base.there b o e ao;exact⟨cM,k b cM (oa b o e) q⟩
 ·by_cases vl:i=j
  ·subst vl;have:(ae.set i none)[i]? =some none∨(ae.set i none)[i]? =none:=by
    rcases qaC i ae.length with z|z
    ·exact .inl (by rw[qbr z])
    ·exact .inr (qaW (by rw[qbS];exact z))
   rcases this with z|z<;>(rw[z] at a7;cases a7)
  ·rw[qbB (λz=>vl z.symm)] at a7;obtain⟨u,r,l⟩:=a6 i x w aW a7 c_;have nx:x≠n:=λz=>vl (tT d_ (by rw[aW,z]) aJ);refine⟨u,r,?_⟩;rcases l with⟨a,b⟩|⟨a,c,e,o,bc,hd⟩
   ·exact .inl ⟨a,by simp only[if_neg nx];exact b⟩
   ·exact .inr ⟨a,c,e,o,k c o (I.cne x c e) bc,hd⟩
 ·obtain⟨w,o,bc,hd⟩:=I.cell x c e;exact⟨w,o,k c o (I.cne x c e) bc,hd⟩
 ·obtain⟨a,b,c,r⟩:=I.pin p aS;exact⟨k _ _ c a,b,c,r⟩
 ·refine(I.hok b u e).stay (λc lj ax q=>k c lj ?_ q) (λ_ q=>q) λ_ _ q=>q;rcases ax with z|z
  ·rw[z];exact dw e I.free
  ·exact dw z I.free
end
section
variable {X:Cx}
noncomputable def zL (K:Frag) (c:Value) (j:Nat) (c4:(St→Prop)→XK→TS) (h3:TS):TS:=λD ae H=>∃(J:St→Prop)(jy:XK),c4 J jy D ae H∧∀ci cls H',J ci→jy cls none H'→exmOne K cls c=some true∧∃C,cls= .ref C∧∀cL,H' cL=none→
 h3 {D with nx:=λcY ay=>D.nx (cY.set j none) ay,bk:=λcY ay=>D.bk (cY.set j none) ay,ct:=λcY ay=>D.ct (cY.set j none) ay} (ci.set j (some (.ref cL))) (upd H' cL (hx cL C))
theorem Ge{n:Str}{j:Nat}{body:List Stmt}{vm:Stmt}{p1:List Stmt}{x:Str}{lE eA pos:Pos}{c4:(St→Prop)→XK→TS}{h3:TS}{C:Addr}
  (dQ:X.stack=X.env::X.outer) (hr:X.env.frame=some X.env.locals) (aM:Gl X x) (a6:X.mg x=some (.ref C)) (ag:ZpB X body c4) (hs:Zm1 X (vm::p1) h3) (d_:X.N.Nodup) (aJ:X.N[j]? =some n) (oz:X.env.scope.names.lookup n=some .local) (f':(x==("__debug__" :Str))=false:=by decide):
  PS X (.Try body [.ExceptHandler (some (.Name x lE)) (some n) (vm::p1) eA] [] [] pos) (zL X.K (.ref C) j c4 h3):=by
 intro ah s ae H D I h;obtain⟨J,jy,h8,cw⟩:=h;have Gf:X.A.frames=some (X.env::X.outer):=by rw[I.ok.frames,dQ]
 refine wpAny_Try_except ?_
 let lG:Value→Shared→Prop:=λe dU=>wpAny (model X.prog X.w) X.A (noteFrame e X.env) (λ_ kz=>wpAny (model X.prog X.w) X.A (setFlight e none) (λ_ jq=>wpAny (model X.prog X.w) X.A (handleBy e X.env [.ExceptHandler (some (.Name x lE)) (some n) (vm::p1) eA]) (SP X ah D) X.xe jq) X.xe kz) X.xe dU
 have own:PassesOwn (model X.prog X.w) X.A X.env lG:=PassesOwn.looking;have p':∀{xe:Value→Shared→Prop}{ob:List (Addr×Obj)}{ci:St}{H':Hp}{s':Shared},Inv {X with pn:=X.pn++ah,xe:=xe} ob ci H' s'→Inv X ah ci H' s':=λ{xe ob ci H' s'} J=>by
  have o:=J.ok;exact⟨⟨o.mod,o.kind,o.glob,o.blt,o.above,o.inj,o.has,o.cab,o.hd,o.frames,o.stk,o.exf,o.bs,o.bsz,o.noex,o.exfs,o.funs,o.frf⟩,J.os,J.bare,J.base,J.loc,J.cell,J.free,J.freeC,λp aS=>J.pin p (qa8 _ aS),J.hok,J.len⟩
 have Gg:Inv {X with pn:=X.pn++ah,xe:=lG} [] ae H s:=by
  have o:=I.ok;exact⟨⟨o.mod,o.kind,o.glob,o.blt,o.above,o.inj,o.has,o.cab,o.hd,o.frames,o.stk,o.exf,o.bs,o.bsz,o.noex,o.exfs,o.funs,o.frf⟩,I.os,I.bare,I.base,I.loc,I.cell,I.free,I.freeC,λp aS=>I.pin p (by simpa using aS),I.hok,I.len⟩
 have Gh:Zcl (CXX X.prog X.w) {X with pn:=X.pn++ah,xe:=lG} J jy:=by
  intro ob ci aj az e s' np bD hcx;obtain⟨cL,cls,a0,H',B,rfl,os,bare,un,ok,fF,gc,q⟩:=hcx;have eC:=p' bD;obtain⟨Gi,r9,rfl,Gj⟩:=cw ci cls H' np q;have Gk:Heap.FlyingW B (X.env::X.outer) cL (.ref r9) a0 s'.heap:=by rw[←dQ];exact fF
  show wpAny _ _ _ _ _ _;refine wpAny_looks_onW Gf hr Gk λy8 held₄ zM=>?_;refine wpAny_landsW held₄ λuD fl₅ zN=>?_;have there:∀{dS:Heap},Heap.FlyingW B (X.env::X.outer) cL (.ref r9) a0 dS→s'.heap.UpToSlots dS→Inv X ah ci H' {s' with heap:=dS}:=λ{dS} r_ sl=>by
   have Gm:Un (frs X.stack) [] aj H' az.heap dS:=un.fly gc r_.1 sl (λb ag o e=>by
    obtain⟨_,cM,cx,d⟩:=eC.stack.mem ag;rw[e] at cx;cases cx;exact d) eC.stkFree
   exact eC.call' (s':={s' with heap:=dS}) os Gm (ok.stays (λb o e n=>gc b o e (.inl n)) r_.1) bare (λb z=>absurd z (by simp))
  have zO:∀{dn:Shared},Inv X ah ci H' dn→Inv {X with A:=X.A.mark (some (.ref cL)),calm:=false,xe:=λ_ _=>False} ah ci H' dn:=λ{dn} J=>by
   have o:=J.ok;exact⟨⟨o.mod,o.kind,o.glob,o.blt,o.above,o.inj,o.has,o.cab,λz=>absurd (show false=true from z) qag,o.frames,o.stk,o.exf,o.bs,o.bsz,o.noex,o.exfs,o.funs,o.frf⟩,J.os,J.bare,J.base,J.loc,J.cell,J.free,J.freeC,J.pin,J.hok,J.len⟩
  have h0:=zO (there fl₅ (zM.trans zN));refine wpAny_handleBy_cons (codeAny_handlers_test ?_) (by intro q;cases q);refine m4 h0 aM a6 ?_ f';obtain⟨dx,Gn,Go⟩:=fl₅.there;have LT:PySem.W.Looks (model X.prog X.w) uD (typeOf (.ref cL)) (.ref r9):=by
   exact Go▸(PySem.W.Looks.ld Gn).andThen .now
  refine(PySem.W.exm_one h0.kIn LT Gi).here ?_;refine codeAny_handlers_suite_as ?_;refine lands_againW fl₅ λQ' fl₆ Gp=>?_;have hl:=zO (there fl₆ ((zM.trans zN).trans Gp));obtain⟨zP,lh,Ra⟩:=fF.there;have jr:∀b o,az.heap.get? b=some o→b≠cL:=λb o e z=>by
   subst z
   by_cases bB:b∈frs X.stack
   ·obtain⟨_,cM,cx,d⟩:=eC.stack.mem bB;obtain⟨sl,hc⟩:=un.any cx (eC.stkFree b bB) (by simp);obtain⟨Rb,vs,mG,_,vn,_⟩:=fF.first;rw[hc] at mG;cases mG;exact d vs vn
   ·have:=gc b zP lh (.inr ⟨⟨o,e⟩,bB⟩);rw[fF.2.1] at this;cases this
  have fS:H' cL=none:=by
   cases e:H' cL with
   |none=>rfl
   |some o=>
    have:=gc cL zP lh (.inl (by rw[e];simp));rw[fF.2.1] at this;cases this
  have c8:∀dx,X.s₀.heap.get? cL=some dx→cL∈X.ex:=λdx e=>by
   by_cases ao:cL∈X.ex
   ·exact ao
   ·obtain⟨cM,hc⟩:=eC.base.there cL dx e ao;exact absurd rfl (jr cL cM hc)
  obtain⟨zQ,zR,Gq⟩:=fl₆.there;have h2:=Inv.track (o:=hx cL r9) hl c8 (λz=>by
   obtain⟨m,⟨o,aN,ep,bc,_⟩,_⟩:=eC.loc;exact jr _ o bc z.symm) (λy c e=>by
   obtain⟨v,o,bc,_⟩:=eC.cell y c e;exact jr c o bc) (λfg r8=>jr _ _ (eC.pin fg r8).1) fS ⟨⟨zQ,zR,Gq⟩,⟨zQ,zR⟩,λai aw ⟨o,a1,a2⟩ k=>⟨o,k o a1,a2⟩⟩
  refine m2 (X:={X with A:=X.A.mark (some (.ref cL)),calm:=false,xe:=λ_ _=>False}) h2 d_ aJ (.inl oz) (show c2 (.ref cL) (.ref cL) from rfl) (λdW pV=>?_) (.inr oz);refine wpAny_mono (hs (X.A.mark (some (.ref cL))) ah dW _ _ _ pV (Gj cL fS)) (λf b' aw=>?_) λ_ _ z=>False.elim z;have r':∀{cY:St}{ay:Hp}{b':Shared},Inv {X with A:=X.A.mark (some (.ref cL)),calm:=false,xe:=λ_ _=>False} ah cY ay b'→Inv X ah cY ay b':=λ{cY ay b'} J=>by
   have o:=J.ok;exact⟨⟨o.mod,o.kind,o.glob,o.blt,o.above,o.inj,o.has,o.cab,I.ok.hd,I.ok.frames,o.stk,o.exf,o.bs,o.bsz,o.noex,o.exfs,o.funs,o.frf⟩,J.os,J.bare,J.base,J.loc,J.cell,J.free,J.freeC,J.pin,J.hok,J.len⟩
  have sb:∀{cY:St}{ay:Hp}{b':Shared}{Q:Unit→Shared→Prop},Inv X ah cY ay b'→(∀bb,Inv X ah (cY.set j none) ay bb→Q () bb)→wpAny (model X.prog X.w) X.A (do bindName X.env n .none;unbindBehindTheSuite X.env n eA) Q X.xe b':=λ{cY ay b' Q} J cG=>by
   refine wpAny_bind (wpAny_bindName (m2 (u:= .none) J d_ aJ (.inl oz) (show c2 .non .none from rfl) (λbb ki=>?_) (.inr oz)));obtain⟨m,bA,af⟩:=ki.loc;have tV:(X.env.scope.kind== .class||(X.env.scope.kind== .module&&X.env.locals != X.env.globals))=false:=by rw[ki.ok.kind];rfl
   have zS:X.env.kindOf n=some .local:=oz;unfold unbindBehindTheSuite;refine wpAny_onRaise ?_;unfold unbindName;refine wpAny_bind (wpAny_point (wpAny_bind ?_));unfold deleteName;simp only[zS,tV];rw[if_neg (by decide)];refine wpAny_bind (wpAny_nsDel_keeps bA λuC v hn₂ Gr=>?_);have zT:Inv X ah ((cY.set j (some .non)).set j none) ay {bb with heap:=uC,toks:=bb.toks}:=ki.dropName d_ aJ Gr af hn₂;rw[List.set_set] at zT;have hL:j<cY.length:=by rw[J.len];exact(GM.mp aJ).1
   have vo:(m n).isSome=true:=by
    obtain⟨u,r,l⟩:=af j n .non aJ (by rw[qbr hL]) (.inl oz);rcases l with⟨_,b⟩|⟨a,_⟩
    ·rw[b];rfl
    ·rcases a with a|a<;>(rw[zS] at a;cases a)
   rw[vo];simp only[if_true,Bool.not_true,qb4,if_false];exact wpAny_pure (wpAny_point (cG _ zT))
  show wpAny (model X.prog X.w) X.A (do bindName X.env n .none;unbindBehindTheSuite X.env n eA) (λ_ jq=>SP X ah D f jq) X.xe b';cases f with
  |next=>obtain⟨cY,ay,iL,cT⟩:=aw;exact sb (r' iL) λbb ki=>⟨_,ay,ki,cT⟩
  |brk=>obtain⟨cY,ay,iL,cT⟩:=aw;exact sb (r' iL) λbb ki=>⟨_,ay,ki,cT⟩
  |cont=>obtain⟨cY,ay,iL,cT⟩:=aw;exact sb (r' iL) λbb ki=>⟨_,ay,ki,cT⟩
  |ret u=>obtain⟨v,cY,ay,iL,cX,cT⟩:=aw;exact sb (r' iL) λbb ki=>⟨v,_,ay,ki,cX,cT⟩
 refine wpAny_mono (ag J jy (X.pn++ah) lG own Gh [] s ae H D Gg h8) (λf az ai=>?_) λe az ai=>ai;cases f with
 |next=>
  obtain⟨cY,ay,iL,cT⟩:=ai;show wpAny _ _ (execs [] X.env) _ _ _;exact wpAny_pure ⟨cY,ay,p' iL,cT⟩
 |brk=>obtain⟨cY,ay,iL,cT⟩:=ai;exact⟨cY,ay,p' iL,cT⟩
 |cont=>obtain⟨cY,ay,iL,cT⟩:=ai;exact⟨cY,ay,p' iL,cT⟩
 |ret u=>obtain⟨v,cY,ay,iL,cX,cT⟩:=ai;exact⟨v,cY,ay,p' iL,cX,cT⟩
end
namespace Rd
section
variable {ae:St}{H:Hp}{Q:VK}{K:Frag}
theorem Zom{c:Value}{j:Nat}{c4:(St→Prop)→XK→TS}{h3:TS}{D:Vh}(jy:XK)(ag:c4 (λs=>s=ae) jy D ae H)(cw:∀cls H',jy cls none H'→exmOne K cls c=some true∧∃C,cls= .ref C∧∀cL,H' cL=none→
  h3 {D with nx:=λcY ay=>D.nx (cY.set j none) ay,bk:=λcY ay=>D.bk (cY.set j none) ay,ct:=λcY ay=>D.ct (cY.set j none) ay} (ae.set j (some (.ref cL))) (upd H' cL (hx cL C))):zL K c j c4 h3 D ae H:=
 ⟨λs=>s=ae,jy,ag,λ_ cls H' e h=>e▸cw cls H' h⟩
theorem Zpc{x C B:Addr}{b:Bool}(h:H x=some (hx x C))(hp:YU K C)(k:PySem.W.kitOne K (.ref C) (.ref B)=some b)(q:Q (.bl b) H):vk K [.ref x,.ref B] H Q:=⟨x,C,.ref B,.ref B,b,rfl,h,hp,λv r=>r,k,q⟩
theorem Zo2{x C:Addr}{n:String}{b:Bool}(h:H x=some (hx x C))(hp:YU K C)(k:PySem.W.kitOne K (.ref C) (.type n)=some b)(q:Q (.bl b) H):vk K [.ref x,.ty n] H Q:=⟨x,C,.ty n,.type n,b,rfl,h,hp,λv r=>r,k,q⟩
end
end Rd
theorem Zkr{K:Frag}{C:Addr}{bm:List Value}{n:String}(h:excIn K C bm n=true):(PySem.W.clsIn K C).isSome=true:=by
 unfold excIn at h
 split at h
 ·rename_i dd cd sl bc;unfold PySem.W.clsIn;rw[bc]
  rfl
 ·cases h
section
variable {X:Cx}
end
end L2
namespace HT
open PySem PyProof.Rows
section
open PySem.SeqAt
open PySem.MeetsSeq PySem.MeetsSeq2 PySem.MeetsSeq3
variable {prog:Program}{w:World}{A:Around}{E:Value→Shared→Prop}{s:Shared}
end
end HT
namespace L2
section
variable {X:Cx}{K:Frag}
open PySem PySem.Spec PyProof.Rows
end
namespace Rd
open PySem PySem.Spec PyProof.Rows
end Rd
end L2
namespace L2
open PySem PySem.Spec PyProof.Rows
section
def Ua(p:Array Nat):Prop:=p.toList.Pairwise (· < ·)
theorem Ua.lt{p:Array Nat}(h:Ua p){i j:Nat}(px:i<j)(aJ:j<p.size):p[i]'(Nat.lt_trans px aJ)<p[j]:=by
 have:=qbv.mp h i j (by simpa using Nat.lt_trans px aJ) (by simpa using aJ) px;simpa using this
theorem Zdk{p:Array Nat}{j:Nat}(av:Ua p):∀(f lo hi:Nat),lo≤hi→hi≤p.size→hi-lo≤f→(∀i (h:i<p.size),i<lo→p[i]<j)→(∀i (h:i<p.size),hi≤i→j≤p[i])→
  SetTable.below.go p j f lo hi≤p.size∧(∀i (h:i<p.size),i<SetTable.below.go p j f lo hi→p[i]<j)∧∀i (h:i<p.size),SetTable.below.go p j f lo hi≤i→j≤p[i]
 |0,lo,hi,ai,aw,cC,c3,eE=>by
  have e:lo=hi:=by omega
  subst e;exact⟨aw,c3,eE⟩
 |f+1,lo,hi,ai,aw,cC,c3,eE=>by
  unfold SetTable.below.go
  by_cases af:lo<hi
  ·rw[if_pos af];have a6:(lo+hi) / 2<p.size:=by omega
   have d9:p.getD ((lo+hi) / 2) j=p[(lo+hi) / 2]:=by simp[Array.getD,a6]
   dsimp only;rw[d9]
   by_cases ax:p[(lo+hi) / 2]<j
   ·rw[if_pos ax];refine Zdk av f _ _ (by omega) aw (by omega) (λi h dv=>?_) eE;rcases qaC i ((lo+hi) / 2) with z|z
    ·exact Nat.lt_trans (av.lt z a6) ax
    ·have:i=(lo+hi) / 2:=by omega
     subst this;exact ax
   ·rw[if_neg ax];refine Zdk av f _ _ (by omega) (by omega) (by omega) c3 λi h dv=>?_;rcases qaC ((lo+hi) / 2) i with z|z
    ·have:=av.lt z h;omega
    ·have:i=(lo+hi) / 2:=by omega
     subst this;omega
  ·rw[if_neg af];have e:lo=hi:=by omega
   subst e;exact⟨aw,c3,eE⟩
theorem Zdc{p:Array Nat}(av:Ua p)(j:Nat):SetTable.below p j≤p.size∧(∀i (h:i<p.size),i<SetTable.below p j→p[i]<j)∧∀i (h:i<p.size),SetTable.below p j≤i→j≤p[i]:=
 Zdk av p.size 0 p.size (qaA _) (FM _) (FM _) (λ_ _ h=>absurd h (qaH _)) λi h z=>absurd h (Nat.not_lt.mpr z)
theorem Gs{p:Array Nat}(av:Ua p){i:Nat}(hi:i<p.size):SetTable.below p (p[i]+1)=i+1:=by
 obtain⟨ai,aw,cC⟩:=Zdc av (p[i]+1);rcases Nat.lt_trichotomy (SetTable.below p (p[i]+1)) (i+1) with z|z|z
 ·have:=cC i hi (by omega);omega
 ·exact z
 ·have af:i+1<p.size:=by omega
  have:=aw (i+1) af z;have:=av.lt (i:=i) (j:=i+1) (qbI i) af;omega
theorem Ziz{p:Array Nat}(av:Ua p):SetTable.below p 0=0:=by
 obtain⟨ai,aw,cC⟩:=Zdc av 0;rcases qaU (SetTable.below p 0) with z|z
 ·exact z
 ·have:=aw 0 (by omega) z;omega
theorem Ua.insert{p:Array Nat}(av:Ua p){j:Nat}(bA:p[SetTable.below p j]? ≠some j):Ua (SetTable.insertAt p (SetTable.below p j) j):=by
 obtain⟨ai,aw,cC⟩:=Zdc av j;unfold Ua;rw[SetTable.toList_insertAt];generalize SetTable.below p j=b at*;refine List.pairwise_append.mpr ⟨av.sublist (List.take_sublist _ _),List.pairwise_cons.mpr ⟨λy a'=>?_,av.sublist (qcc _ _)⟩,λx ao y a'=>?_⟩
 ·obtain⟨k,aR,rfl⟩:=qbp.mp a';rw[List.getElem_drop];rw[qa1,qbi] at aR;have ag:b<p.size:=by omega
  have gZ:j<p[b]:=Nat.lt_of_le_of_ne (cC b ag (FM _)) λe=>bA (by rw[qaK ag,e]);rcases qaU k with rfl|sc
  ·simpa using gZ
  ·have:=av.lt (i:=b) (j:=b+k) (by omega) (by omega);simpa using Nat.lt_trans gZ this
 ·have iB:x<j:=by
   obtain⟨k,aR,rfl⟩:=qbp.mp ao;rw[qaP,qbi] at aR;rw[List.getElem_take];simpa using aw k (by omega) (by omega)
  rcases qaf.mp a' with rfl|a'
  ·exact iB
  ·obtain⟨k,aR,rfl⟩:=qbp.mp a';rw[qa1,qbi] at aR;rw[List.getElem_drop];have:=cC (b+k) (by omega) (by omega);have c3:x<p[b+k]:=qad iB this;simpa using c3
theorem Gu(n:Nat):Ua (Array.range n):=by
 unfold Ua;rw[Array.toList_range];exact qcd
structure Yh(led:Bool)(t:SetTable):Prop where
 rise:Ua t.place
 dum:t.dummies=#[]
 led:t.led=led
variable {led:Bool}{t:SetTable}
theorem Yh.fresh:Yh led (.fresh 0 0 led):=⟨List.Pairwise.nil,rfl,rfl⟩
theorem Yh.standIn(g:Yh led t)(n:Nat):Yh led (t.standIn n):=⟨Gu n,rfl,g.led⟩
theorem Yh.orStandIn(g:Yh led t)(n:Nat):Yh led (t.orStandIn n):=by
 unfold SetTable.orStandIn
 split
 ·exact g
 ·exact g.standIn n
theorem Yh.noDummy(g:Yh led t)(j:Nat):SetTable.has t.dummies j=false:=by
 rw[g.dum];simp[SetTable.has]
theorem Yh.slot_empty(g:Yh led t){j:Nat}(h:t.slot j= .empty):t.place[SetTable.below t.place j]? ≠some j:=by
 intro e;unfold SetTable.slot at h;dsimp only at h;rw[e] at h;simp at h
theorem Zdx(g:Yh led t){aZ:Nat→Int}{h:Int}:∀(f:Nat)(p:SetTable.Probe)(j:Nat)(d:Option Nat),p.dummy=none→SetTable.probe.go t aZ h f p=some (.empty j d)→d=none∧t.slot j= .empty
 |0,p,j,d,aS,e=>by cases e
 |f+1,p,j,d,aS,e=>by
  have Gv:∀q:SetTable.Probe,(t.advance q).dummy=q.dummy:=λq=>by
   unfold SetTable.advance
   split<;>rfl
  unfold SetTable.probe.go at e;cases hs:t.slot p.j with
  |empty=>rw[hs] at e;cases e;exact⟨aS,hs⟩
  |dummy=>
   exfalso;unfold SetTable.slot at hs;dsimp only at hs;rw[g.noDummy] at hs
   split at hs<;>simp at hs
  |live i=>
   rw[hs] at e;dsimp only at e
   split at e
   ·cases e
   ·exact Zdx g f _ j d (by rw[Gv,aS]) e
theorem Yh.put(g:Yh led t){j:Nat}(h:t.slot j= .empty):Yh led (t.put j).1:=by
 refine⟨g.rise.insert (g.slot_empty h),?_,g.led⟩;show(if SetTable.has t.dummies j then _ else t.dummies)=#[];rw[g.noDummy];exact g.dum
theorem Yh.layNew(g:Yh led t)(aN:Array (Int×Value))(h:Int)(x:Value):Yh led (layNew t aN h x).2.1:=by
 unfold PySem.layNew
 split
 ·rename_i slot was e;dsimp only;refine Yh.orStandIn (g.put ?_) _;unfold SetTable.freeSlot at e
  split at e
  ·rename_i j d a7;obtain⟨rfl,hs⟩:=Zdx g _ _ j d rfl a7;cases e;exact hs
  ·cases e
 ·exact g.standIn _
theorem Yh.laid{zU finger Gw:Nat}{pl:Bool}{hs:Array Int}{r:SetTable×Array Nat}(e:SetTable.laid zU finger Gw led pl hs=some r):Yh led r.1:=by
 unfold SetTable.laid at e;cases bc:SetTable.layClean zU hs with
 |none=>rw[bc] at e;cases e
 |some owner=>
  rw[bc] at e;cases e;refine⟨?_,rfl,rfl⟩;show List.Pairwise _ _;simp only[List.toList_toArray];rw[qbV];refine List.Pairwise.filterMap _ (R:=(· < ·)) (λa b hab c ax d hd=>?_) qcd;cases aW:owner.getD a none with
  |none=>rw[aW] at ax;cases ax
  |some x=>
   cases a7:owner.getD b none with
   |none=>rw[a7] at hd;cases hd
   |some y=>rw[aW] at ax;rw[a7] at hd;cases ax;cases hd;exact hab
theorem Yh.relayAll(g:Yh led t)(aN:Array (Int×Value))(n:Nat):Yh led (relayAll t aN n).2.1:=by
 unfold PySem.relayAll
 split
 ·rename_i t' order e;dsimp only
  split
  ·unfold SetTable.relaid at e;rw[g.led] at e;exact Yh.laid e
  ·exact g.standIn _
 ·exact g.standIn _
end
section
noncomputable def keyI:Int×Value→Int
 |(_,.int n _)=>n
 |_=>0
def U9(led:Bool)(c5:List Int)(o:Obj):Prop:=o.ExactSet∧∃aN ep t,o.data= .set aN ep t∧(∀e∈aN.toList,∃n a5,e=(hashInt n,Value.int n a5))∧aN.size<scanBound∧t.fits aN.size=true∧Yh led t∧(aN.toList.map keyI).Perm c5
variable {prog:Program}{w:World}{A:Around}{E:Value→Shared→Prop}{s:Shared}{led:Bool}
theorem vp{l:List (Int×Value)}(h:∀e∈l,∃n a5,e=(hashInt n,Value.int n a5)):ElemsOf (intKind prog w) l:=λe cp=>by
 obtain⟨n,a5,rfl⟩:=h e cp;exact⟨⟨n,intKind_is _ _ _ _,rfl⟩,rfl⟩
theorem vq{l:List (Int×Value)}(h:∀e∈l,∃n a5,e=(hashInt n,Value.int n a5)){n:Int}:(∃e∈l,(intKind prog w).is n e.2=true)↔n∈l.map keyI:=by
 constructor
 ·rintro⟨e,cp,hi⟩;obtain⟨m,a5,rfl⟩:=h e cp;have:n=m:=(intKind prog w).inj _ n m hi (intKind_is _ _ _ _);subst this;exact qah.mpr ⟨_,cp,rfl⟩
 ·intro a6;obtain⟨e,cp,aR⟩:=qah.mp a6;obtain⟨m,a5,rfl⟩:=h e cp;cases aR;exact⟨_,cp,intKind_is _ _ _ _⟩
theorem zV{g:Bool→Sem Unit}(aM:∀(b:Bool)(az:Shared)(i5:Unit→Shared→Prop),i5 () az→wpAny (model prog w) A (g b) i5 E az){a:Addr}{o:Obj}{aN:Array (Int×Value)}{ep:Nat}{t:SetTable}{c5:List Int}{fV:Array (Int×Value)}{dG:SetTable}{was:Bool}{R:Option Bool→Shared→Prop}
  (bc:s.heap.get? a=some o) (f6:o.ExactSet) (hd:o.data= .set aN ep t) (nI:∀e∈fV.toList,∃n a5,e=(hashInt n,Value.int n a5)) (k1:(fV.toList.map keyI).Perm c5) (h8:fV.size<scanBound) (f2:dG.fits fV.size=true) (g2:Yh led dG)
  (q:∀h' cM,Heap.SameBut a s.heap h'→h'.get? a=some cM→U9 led c5 cM→R (some true) {s with heap:=h'}):
  wpAny (model prog w) A (storeSet a fV dG >>= λ_=>if(!was&&dG.tooFull)=true then g (relayAll dG fV (SetTable.grown fV.size)).2.2 >>= λ_=>storeSet a (relayAll dG fV (SetTable.grown fV.size)).1 (relayAll dG fV (SetTable.grown fV.size)).2.1 >>= λ_=>pure (some true) else pure (some true)) R E s:=by
 refine wpAny_bind (wpAny_storeSet_of bc hd ?_ (fits_of_scanBound h8));have iE:=Heap.SameBut.update s.heap a (Obj.putSet fV dG);obtain⟨nJ,_⟩:=SetOf_store (knd:=intKind prog w) (S':=λk=>decide (k∈c5)) bc f6 hd (vp nI) (λk=>by rw[vq nI,k1.mem_iff];simp) h8 f2
 split
 ·have mH:=relayAll_perm dG fV (SetTable.grown fV.size);have dI:=relayAll_fits dG fV (SetTable.grown fV.size);have g3:=g2.relayAll fV (SetTable.grown fV.size);generalize relayAll dG fV (SetTable.grown fV.size)=R at mH dI g3⊢;obtain⟨qa,iM,Rc⟩:=R;dsimp only at mH dI g3⊢;have kO:qa.size=fV.size:=by have:=mH.length_eq;simpa using this
  have lM:qa.size<scanBound:=by rw[kO];exact h8
  have vr:∀e∈qa.toList,∃n a5,e=(hashInt n,Value.int n a5):=λe cp=>nI e (mH.mem_iff.mp cp);have k3:(qa.toList.map keyI).Perm c5:=(mH.map keyI).trans k1;refine wpAny_bind (aM _ _ _ ?_);refine wpAny_bind (wpAny_storeSet_of nJ rfl ?_ (fits_of_scanBound lM));obtain⟨Gx,_⟩:=SetOf_store (knd:=intKind prog w) (S':=λk=>decide (k∈c5)) nJ f6 rfl (vp vr) (λk=>by rw[vq vr,k3.mem_iff];simp) lM dI;exact wpAny_pure (q _ _ (iE.trans (Heap.SameBut.update _ a _)) Gx ⟨f6,qa,_,iM,rfl,vr,lM,dI,g3,k3⟩)
 ·exact wpAny_pure (q _ _ iE nJ ⟨f6,fV,_,dG,rfl,nI,h8,f2,g2,k1⟩)
theorem Zle{a:Addr}{o:Obj}{c5:List Int}{n:Int}{a5:Tok}{Q:Bool→Shared→Prop}(bc:s.heap.get? a=some o)(er:U9 led c5 o)(Re:c5.length+1<scanBound)
  (q:∀h' cM,Heap.SameBut a s.heap h'→h'.get? a=some cM→U9 led (step_dedup c5 n) cM→∀b,Q b {s with heap:=h'}):wpAny (model prog w) A (setAddHashed a (.int n a5) (hashInt n)) Q E s:=by
 obtain⟨f6,aN,ep,t,hd,oG,ag,bB,aM,aS⟩:=er;have zW:ElemsOf (intKind prog w) aN.toList:=vp oG;have qb:aN.size=c5.length:=by have:=aS.length_eq;simpa using this
 have qc:(∃e∈aN.toList,(intKind prog w).is n e.2=true)↔n∈c5:=(vq oG).trans aS.mem_iff;unfold setAddHashed setAddHashedIn;refine wpAny_holding (wpAny_bind (wpAny_setState_of bc hd bB ?_));dsimp only;rw[byScan_of (x:= .int n a5) rfl ag zW,if_pos rfl];refine wpAny_bind ?_;unfold setAddByScan;refine wpAny_bind (wpAny_rule (wpAny_bind (wpAny_setScan_of (knd:=intKind prog w) (k:=n) (intKind_is _ _ _ _) bc hd bB zW ?_)));cases av:aN.toList.findIdx? (λe=>(intKind prog w).is n e.2) with
 |some j=>
  dsimp only;obtain⟨aJ,Gy,_⟩:=List.findIdx?_eq_some_iff_getElem.mp av;have f3:n∈c5:=qc.mp ⟨_,fm aJ,Gy⟩;have e:step_dedup c5 n=c5:=by
   unfold step_dedup;rw[if_pos (by simpa using f3)]
  refine wpAny_pure (wpAny_pure ?_);exact q s.heap o (Heap.SameBut.refl a s.heap) bc (by rw[e];exact⟨f6,aN,ep,t,hd,oG,ag,bB,aM,aS⟩) false
 |none=>
  dsimp only;have Gz:n∉c5:=λz=>by
   obtain⟨e,cp,hi⟩:=qc.mpr z;have:=List.findIdx?_eq_none_iff.mp av e cp;rw[hi] at this;cases this
  have e:step_dedup c5 n=c5++ [n]:=by
   unfold step_dedup;rw[if_neg (by simpa using Gz)]
  have eL:=layNew_perm t aN (hashInt n) (.int n a5);have f1:=layNew_fits t aN (hashInt n) (.int n a5);have g1:=aM.layNew aN (hashInt n) (.int n a5);generalize layNew t aN (hashInt n) (Value.int n a5)=L at eL f1 g1⊢;obtain⟨fV,iN,was,Rf⟩:=L;dsimp only at eL f1 g1⊢;rw[Array.toList_push] at eL;have nI:∀e∈fV.toList,∃n a5,e=(hashInt n,Value.int n a5):=λe cp=>by
   rcases qar.mp (eL.mem_iff.mp cp) with z|z
   ·exact oG e z
   ·exact⟨n,a5,qab.mp z⟩
  have k1:(fV.toList.map keyI).Perm (c5++ [n]):=(eL.map keyI).trans (by rw[qaG];exact aS.append_right _);have fk:fV.size=c5.length+1:=by have:=k1.length_eq;simpa using this
  have h8:fV.size<scanBound:=by omega
  have vt:∀(b:Bool)(az:Shared)(i5:Unit→Shared→Prop),i5 () az→wpAny (model prog w) A (match b with|true=>rule "set.scan.the-table-gave-way" |false=>pure ()) i5 E az:=λb az i5 ai=>by
   cases b
   ·exact wpAny_pure ai
   ·exact wpAny_rule ai
  refine wpAny_bind (vt _ _ _ ?_);have eN:∀h' cM,Heap.SameBut a s.heap h'→h'.get? a=some cM→U9 led (c5++ [n]) cM→wpAny (model prog w) A (pure true) Q E {s with heap:=h'}:=λh' cM x y z=>wpAny_pure (q h' cM x y (by rw[e];exact z) true)
  split
  ·refine wpAny_bind ?_;rw[hashByValue_scannable 8 (x:= .int n a5) rfl];refine wpAny_pure (zV (g:=_) ?_ bc f6 hd nI k1 h8 f1 g1 eN);exact vt
  ·refine wpAny_bind (wpAny_pure (zV (g:=_) ?_ bc f6 hd nI k1 h8 f1 g1 eN));exact vt
end
section
variable {prog:Program}{w:World}{A:Around}{led:Bool}
theorem Zkb(val:Nat→Int)(i:Nat):(firstMet val i).length≤i:=firstMet_length_le val i
theorem Zlv{R:Result→Shared→Prop}{I S:Addr}{fp qd:List Addr}{G:Array GenState→Array GenState→Prop}{n:Nat}{P:Nat→Value→Prop}{St:Nat→Shared→Prop}(W:WalksS prog w A.in1 I fp qd G n P St)(qe:S∉fp)(val:Nat→Int)(zX:∀i v,P i v→∃t,v= .int (val i) t)(ag:n+1<scanBound):
  ∀(k i:Nat)(s:Shared)(o:Obj),n-i=k→i≤n→St i s→s.heap.get? S=some o→U9 led (firstMet val i) o→
   (∀s' cM,Moved (S::qd) G s s'→s'.heap.get? S=some cM→U9 led (firstMet val n) cM→R (.ok (.ret .none)) s')→codeAny (model prog w) A (.builtin "set.update.loop" ⟨[.ref S,.ref I],[]⟩) R s:=by
 have zY:S∉qd:=λz=>qe (W.sub _ z);have i2:∀b∈qd,b∈S::qd:=λb z=>qas _ z;intro k
 induction k with
 |zero=>
  intro i s o aR hi st er sS q;obtain rfl:i=n:=by omega
  refine codeAny_builtin F.entry_set_update_loop ?_;rw[Around.under_plainId F.plain_set_update_loop];refine wpAny_bind (W.done s _ _ st λaz i6=>?_);exact wpAny_pure (q az o (i6.mono i2) (i6.heap S o zY er) sS)
 |succ k cO=>
  intro i s o aR hi st er sS q;have dz:i<n:=by omega
  refine codeAny_builtin F.entry_set_update_loop ?_;rw[Around.under_plainId F.plain_set_update_loop];refine wpAny_bind (W.item i s _ _ dz st λv az d0 GA i6=>?_);obtain⟨t,rfl⟩:=zX i v d0;have lN:=i6.heap S o zY er;refine wpAny_bind (wpAny_holding ?_);unfold setAdd;refine wpAny_holding (wpAny_bind ((intKind prog w).pyHash (k:=val i) (intKind_is _ _ _ _) ?_));have av:(firstMet val i).length+1<scanBound:=by have:=Zkb val i;omega
  refine Zle (s:={az with toks:=az.toks+1}) lN sS av λaw hf iE h2o b' b=>?_;rw[←firstMet_succ] at b';refine wpAny_pure ⟨plainId_quiet F.plain_set_update_loop _,cO (i+1) _ hf (by omega) dz (W.frame _ az _ _ GA (qb7 _) λc ax hy c_=>?_) h2o b' λbb hy mv3 cC g3=>?_⟩
  ·rw[iE.2 c λz=>qe (z▸ax)];exact c_
  ·refine q bb hy (Moved.trans W.gtrans ((i6.mono i2).then_heap (qb7 _) λc sd ax gU=>?_) mv3) cC g3;rw[iE.2 c λz=>ax (z▸qaZ)];exact gU
theorem GB{E:Value→Shared→Prop}{s:Shared}(a:Value){Q:Value→Shared→Prop}
  (h:Q (.ref s.heap.objs.size) {s with heap:=s.heap.push {cls:= .type "set",dict:=none,data:= .set #[] 0 (.fresh 0 0 (!w.params.followText "set-order"))}}):
  codeAny (model prog w) A (.call (.builtin "set.__new__") ⟨[.type "set",a],[]⟩) (wants Q E) s:=by
 refine codeAny_of_tree ?_;refine wpAny_bind (wpAny_of_eq (F.newCall_set_1 a) (wpAny_pure ⟨plainId_quiet F.plain_set_new _,codeAny_builtin F.entry_set_new ?_⟩));rw[Around.under_plainId F.plain_set_new _];unfold Builtin.«set.__new__» Builtin.Frozenset.newClass;have GC:=sub_set_self;obtain⟨aS,g,d,a5,os⟩:=s;dsimp only
 wp_walk
 refine wpAny_askSetting (wpAny_pure ?_);dsimp only;simp only[newObj];exact wpAny_bind (wpAny_alloc (wpAny_pure (wpAny_pure h)))
end
section
variable {prog:Program}{w:World}{A:Around}
theorem ZkD{E:Value→Shared→Prop}{s:Shared}{l:Addr}{items:Array Value}{ns:List Int}{Q:Value→Shared→Prop}(cw:A.handled=none)(af:s.heap.IsList l items)(hi:IntsAre items.toList ns)(ag:items.size+1<scanBound)
  (q:∀(h':Heap)(a5:Nat)(o:Obj),h'.get? s.heap.objs.size=some o→U9 (!w.params.followText "set-order") (firstMet (λi=>ns.getD i 0) items.size) o→
   (∀b o,b<s.heap.objs.size→s.heap.get? b=some o→h'.get? b=some o)→Q (.ref s.heap.objs.size) {s with heap:=h',toks:=a5}):
  wpAny (model prog w) A (call (.type "set") [.ref l]) Q E s:=by
 obtain⟨c,d4,Rg⟩:=F.called_set.mro;have Rh:=F.called_set.made;have GC:=F.called_set.sub;refine wpAny_call (codeAny_of_tree ?_);refine wpAny_pure ⟨Code.quiet_builtin _ (by decide+kernel),codeAny_builtin F.entry_type_call ?_⟩;rw[Around.under_plain (weight_type_call_type "set" [.ref l] []) rfl];have dh:=F.called_set.notType;have dJ:=F.called_set.canCreate;have iv:=F.typeCall_set_1 (.ref l)
 repeat (any_goals (first|assumption|wp_step))
 clear dJ iv;refine codeAny_mono (GB (.ref l) (E:=E) (Q:=λv az=>v= .ref s.heap.objs.size∧az={s with heap:=s.heap.push {cls:= .type "set",dict:=none,data:= .set #[] 0 (.fresh 0 0 (!w.params.followText "set-order"))}}) ⟨rfl,rfl⟩) λr az av=>?_;rcases r with e|fF
 ·exact av
 cases fF with
 |ret v=>
  obtain⟨rfl,rfl⟩:=av;generalize d_:({cls:= .type "set",dict:=none,data:= .set #[] 0 (.fresh 0 0 (!w.params.followText "set-order"))}:Obj)=N;have GD:N.cls= .type "set" :=by rw[←d_]
  have GF:U9 (!w.params.followText "set-order") [] N:=by
   rw[←d_];exact⟨⟨rfl,rfl,rfl⟩,#[],0,_,rfl,by simp,by decide,by rfl,Yh.fresh,by simp⟩
  have er:(s.heap.push N).get? s.heap.objs.size=some N:=Heap.get?_push_size _ (by rw[←d_];rfl);have dg:Shared.TypeIs {s with heap:=s.heap.push N} (.ref s.heap.objs.size) "set" :=⟨_,er,GD⟩;have Ri:=F.called_set.init.lookup;have bi:=F.called_set.init.bind (.ref s.heap.objs.size)
  repeat (any_goals (first|assumption|wp_step))
  refine codeAny_mono (codeAny_call_builtin (R:=wants (λr b'=>r= .none∧∃h' a5 o,b'={s with heap:=h',toks:=a5}∧h'.get? s.heap.objs.size=some o∧U9 (!w.params.followText "set-order") (firstMet (λi=>ns.getD i 0) items.size) o∧(∀b o,b<s.heap.objs.size→s.heap.get? b=some o→h'.get? b=some o)) E) F.called_set.init.plain F.entry_set_init (check_set_init_1 dg ?_)) λr b' av=>?_
  ·have h9:(s.heap.push N).IsList l items:=af.push _;obtain⟨se,zZ,fa,GG,kj⟩:=af;obtain⟨Rj,GH,Rk,GI⟩:=se;simp only at fa kj;subst fa kj;have z0:(s.heap.push N).get? l=some {cls:= .type "list",dict:=GH,data:= .seq items GG,slots:=GI}:=Heap.get?_push_of_some _ zZ;have x1:=F.sub_list_set;have x2:=F.sub_list_frozenset;have x3:(Value.type "list" ==Value.type "dict")=false:=by decide
   have GJ:=er;rw[←d_] at er dg z0⊢;unfold Builtin.«set.__init__» noKeywords Builtin.Frozenset.updateFrom;generalize GK:pyIter=PI
   wp_walk
   subst GK;rw[d_] at z0 er dg⊢;refine wpAny_pyIter_list h9 ?_;refine wpAny_bind (wpAny_runValue ?_);have z1:l<s.heap.objs.size:=Heap.lt_size zZ;have h_:A.in1.in1.in1.handled=none:=by simp[cw]
   have GL:l≠(s.heap.push N).objs.size:=by
    rw[Heap.size_push];exact qak (qbC z1)
   have me:s.heap.objs.size∉[(s.heap.push N).objs.size,l]:=by
    rw[Heap.size_push];simp only[qaf,qaF,or_false,not_or];exact⟨qak (qbI _),qbX z1⟩
   refine Zlv ((Walks.list h_ _ l GL items).toS) me (λi=>ns.getD i 0) (λi v cn=>IntsAre.int_at hi i v (by rw[qbw];exact cn)) ag (items.size-0) 0 _ N (by omega) (qaA _) ⟨⟨_,Heap.get?_push_size _ rfl,rfl,rfl⟩,h9.push _⟩ (Heap.get?_push_of_some _ er) GF λbb hy i6 cC g3=>?_;obtain⟨h',g',d',GN,ug⟩:=bb;obtain rfl:g'=s.gens:=i6.gens;obtain rfl:d'=s.drawn:=i6.drawn;obtain rfl:ug=s.os:=i6.os;show wpAny _ _ _ _ _ _;refine wpAny_pure ?_;show wpAny _ _ (ret Value.none) _ _ _;refine wpAny_pure ⟨rfl,h',GN,hy,rfl,cC,g3,λb o gZ e=>i6.heap b o ?_ (Heap.get?_push_of_some _ (Heap.get?_push_of_some _ e))⟩;rw[Heap.size_push];simp only[qaf,qaF,or_false,not_or];exact⟨qak gZ,qak (qbC gZ)⟩
  ·rcases r with e|fF
   ·exact av
   cases fF with
   |ret v=>
    obtain⟨rfl,h',a5,o,rfl,ai,aw,cC⟩:=av
    repeat (any_goals (first|assumption|wp_step))
    exact q _ _ _ ai aw cC
   |_=>exact av.elim
 |_=>exact av.elim
end
section
theorem qf:Slot "set_iterator" "__next__" "set_iterator.__next__" := .of (owner:="set_iterator") (n:="__next__") (by rw[typeLookup_type,builtinLookup_eq_fast];kernel_rfl) (by decide+kernel) (by decide+kernel) (by decide+kernel) (by first|exact .inl (by decide+kernel)|exact .inr (by decide+kernel)) (by rw[isSubtype_type];kernel_rfl)
theorem z2:Slot "set_iterator" "__iter__" "set_iterator.__iter__" := .of (owner:="set_iterator") (n:="__iter__") (by rw[typeLookup_type,builtinLookup_eq_fast];kernel_rfl) (by decide+kernel) (by decide+kernel) (by decide+kernel) (by first|exact .inl (by decide+kernel)|exact .inr (by decide+kernel)) (by rw[isSubtype_type];kernel_rfl)
theorem GO:entryFor table "set_iterator.__next__" =some Builtin.«set_iterator.__next__»:=entryFor_of_tree (by kernel_rfl)
theorem GP:entryFor table "set_iterator.__iter__" =some Builtin.«dict_keyiterator.__iter__»:=entryFor_alias (id':="dict_keyiterator.__iter__") (by kernel_rfl) rfl (by decide+kernel) (by kernel_rfl)
theorem GQ:entryFor table "set.__iter__" =some Builtin.«frozenset.__iter__»:=entryFor_alias (id':="frozenset.__iter__") (by kernel_rfl) rfl (by decide+kernel) (by kernel_rfl)
theorem z3:Manifest.owners.lookup (String.ofList "set_iterator".toList.reverse.reverse)=some Manifest.sig_set_iterator:=by kernel_rfl
theorem GR(a:Value):argsOk "set_iterator.__next__" ⟨[a],[]⟩:=by
 unfold argsOk;rw[signature?_of (id:="set_iterator.__next__") (n:=['_','_','t','x','e','n','_','_']) (o:="set_iterator".toList.reverse) (by kernel_rfl) z3]
 kernel_rfl
theorem GS(a:Value):argsOk "set_iterator.__iter__" ⟨[a],[]⟩:=by
 unfold argsOk;rw[signature?_of (id:="set_iterator.__iter__") (n:=['_','_','r','e','t','i','_','_']) (o:="set_iterator".toList.reverse) (by kernel_rfl) z3]
 kernel_rfl
noncomputable def jJ (first:Value) (i:Nat) (a:Addr) (n ep:Nat):Obj:={cls:= .type "set_iterator",dict:=none,data:= .fields #[first,.int i 0,.ref a,.int n 0,.int ep 0],slots:=#[]}
variable {prog:Program}{w:World}{A:Around}{E:Value→Shared→Prop}{s:Shared}
theorem GU{GV:Source}{n:Nat}{Q:Nat→Shared→Prop}(bA:n≠0)(h:∀i d,i<n→Q i {s with drawn:=d}):wpAny (model prog w) A (choose GV n) Q E s:=
 λ_ _ _=>⟨bA,h _ _ (Nat.mod_lt _ (Nat.pos_of_ne_zero bA))⟩
theorem vu{db:Type}:∀{l:List db}{i:Nat}(h:i<l.length),(l[i]::l.eraseIdx i).Perm l
 |x::l,0,_=>by simp
 |x::l,i+1,h=>by
  rw[List.getElem_cons_succ,List.eraseIdx_cons_succ];exact(List.Perm.swap _ _ _).trans ((vu (by simpa using h)).cons x)
theorem z4{db:Type}:∀(xs:List db)(s:Shared)(Q:List db→Shared→Prop),(∀ys d,ys.Perm xs→Q ys {s with drawn:=d})→wpAny (model prog w) A (drawOrder xs.length xs) Q E s
 | [],s,Q,h=>wpAny_pure (h [] s.drawn .rfl)
 |x::xs,s,Q,h=>by
  show wpAny _ _ (choose .order (x::xs).length >>= _) _ _ _;refine wpAny_bind (GU (by simp) λi d hi=>?_);rw[GT hi];have aS:=vu (l:=x::xs) hi;generalize (x::xs)[i]=y at aS⊢;have ed:xs.length=((x::xs).eraseIdx i).length:=by rw[List.length_eraseIdx_of_lt hi];rfl
  show wpAny _ _ (drawOrder xs.length ((x::xs).eraseIdx i) >>= _) _ _ _;generalize (x::xs).eraseIdx i=zs at aS ed⊢;rw[ed];refine wpAny_bind (z4 zs _ _ λys d2 a'=>?_);exact wpAny_pure (h (y::ys) d2 ((a'.cons y).trans aS))
 termination_by xs=>xs.length
 decreasing_by simp_wf;omega
theorem z5{db:Type}(next:Nat→Nat):∀(f k:Nat)(l:List db)(out:Array db),f=l.length→(pickOrder.go next f k l out).toList.Perm (out.toList++l)
 |0,k,l,out,e=>by
  obtain rfl:l=[]:=List.eq_nil_of_length_eq_zero e.symm;simp[pickOrder.go]
 |f+1,k,l,out,e=>by
  have hi:next k % l.length<l.length:=Nat.mod_lt _ (by omega);unfold pickOrder.go;rw[GT hi];refine(z5 next f (k+1) _ _ (by rw[List.length_eraseIdx_of_lt hi];omega)).trans ?_;rw[Array.toList_push,qcb];exact(vu hi).append_left _
theorem vv{db:Type}(next:Nat→Nat)(xs:Array db):(pickOrder next xs).toList.Perm xs.toList:=by
 have:=z5 next xs.size 0 xs.toList #[] (by simp);simpa[pickOrder] using this
theorem z6{gj:Around}{it:Addr}{Q:Option Value→Shared→Prop}(cw:A.handled=none){ai:Heap}(ag:Heap.SameBut it s.heap ai)(q:∀h',Heap.ExtBut it s.heap h'→Q none {s with heap:=h'}):
  wpAny (model prog w) A (newExc (.type "StopIteration") [] >>= λe=>(raiseNew e:Sem Fin)) (λ_ _=>False) (λe s'=>wpAny (model prog w) gj (isInstance e (.type "StopIteration") >>= λb=>if b=true then pure none else throw e) Q E s') {s with heap:=ai}:=by
 refine wpAny_bind ?_;simp only[newExc,newTuple];refine wpAny_bind (wpAny_newObj_type ?_ (by size_fits));refine wpAny_bind (m:=firstArgMember _ _) (wpAny_of_eq (a:=Value.none) (by first|rfl|(simp only[firstArgMember];rfl)) ?_);refine wpAny_newObj_type ?_ (by size_fits);simp only[raiseNew];refine wpAny_bind (wpAny_handled ?_);rw[cw];refine wpAny_bind (wpAny_pure (wpAny_throw ?_));exact wpAny_bind (wpAny_isInstance (T:="StopIteration") (b:=true) ⟨_,Heap.get?_push_size _ rfl,rfl⟩ isSubtype_stop (wpAny_pure (q _ ((ag.extBut.push _).push _))))
variable {it a:Addr}{o:Obj}{aN:Array (Int×Value)}{ep i:Nat}{t:SetTable}{Q:Option Value→Shared→Prop}
theorem ZfE{first:Value}(eR:s.heap.get? it=some (jJ first i a aN.size ep))(h:wpAny (model prog w) A.in1 (Builtin.«set_iterator.__next__» ⟨[.ref it],[]⟩) (λeN s'=>∃x,eN= .done (.ret x)∧Q (some x) s') (λe s'=>wpAny (model prog w) A (isInstance e (.type "StopIteration") >>= λb=>if b=true then pure none else throw e) Q E s') s):wpAny (model prog w) A (pyNext (.ref it)) Q E s:=by
 have dg:s.TypeIs (.ref it) "set_iterator" :=⟨_,eR,rfl⟩;unfold pyNext;refine wpAny_bind (wpAny_attempt (wpAny_callSpecial?_slot (name:=Str.ofString "__next__") dg qf (wpAny_call_entry qf dg GO ?_ (GR _))));refine wpAny_mono h (λeN s' z=>?_) λe s' z=>?_
 ·obtain⟨x,rfl,q⟩:=z;exact⟨x,rfl,wpAny_pure q⟩
 ·exact z
theorem Zht{sl nx:Nat}{v:Value}(eR:s.heap.get? it=some (jJ (.int sl 0) i a aN.size ep))(bc:s.heap.get? a=some o)(hd:o.data= .set aN ep t)(bB:t.fits aN.size=true)
  (ao:∀{A:Around}{E:Value→Shared→Prop}(Q:Option (Value×Nat)→Shared→Prop),Q (some (v,nx)) s→wpAny (model prog w) A (setNext a sl i ep) Q E s)
  (q:∀h',h'.get? it=some (jJ (.int nx 0) (i+1) a aN.size ep)→Heap.SameBut it s.heap h'→Q (some v) {s with heap:=h'}):wpAny (model prog w) A (pyNext (.ref it)) Q E s:=by
 refine ZfE eR ?_;unfold Builtin.«set_iterator.__next__»;refine wpAny_bind (m:=slotArgs _ _ _) (wpAny_pure (wpAny_bind (wpAny_fieldsOf eR rfl ?_)));show wpAny _ _ (setEntries a >>= _) _ _ _;refine wpAny_bind (wpAny_setEntries_of bc hd bB ?_);rw[if_neg (by simp)];show wpAny _ _ (setNext a _ _ _ >>= _) _ _ _;simp only[qaa];refine wpAny_bind (ao _ ?_);refine wpAny_bind (wpAny_setField_rec eR (by simp) λai aW b1=>?_);refine wpAny_bind (wpAny_setField_rec (s:={s with heap:=ai}) aW (by simp) λaw a7 b2=>?_);exact wpAny_pure ⟨v,rfl,q aw a7 (b1.trans b2)⟩
theorem Zjt{sl:Nat}(cw:A.handled=none)(eR:s.heap.get? it=some (jJ (.int sl 0) i a aN.size ep))(bc:s.heap.get? a=some o)(hd:o.data= .set aN ep t)(bB:t.fits aN.size=true)
  (ao:∀{A:Around}{E:Value→Shared→Prop}(Q:Option (Value×Nat)→Shared→Prop),Q none s→wpAny (model prog w) A (setNext a sl i ep) Q E s)
  (q:∀h',Heap.ExtBut it s.heap h'→Q none {s with heap:=h'}):wpAny (model prog w) A (pyNext (.ref it)) Q E s:=by
 refine ZfE eR ?_;unfold Builtin.«set_iterator.__next__»;refine wpAny_bind (m:=slotArgs _ _ _) (wpAny_pure (wpAny_bind (wpAny_fieldsOf eR rfl ?_)));show wpAny _ _ (setEntries a >>= _) _ _ _;refine wpAny_bind (wpAny_setEntries_of bc hd bB ?_);rw[if_neg (by simp)];show wpAny _ _ (setNext a _ _ _ >>= _) _ _ _;simp only[qaa];refine wpAny_bind (ao _ ?_);refine wpAny_bind (wpAny_setField_rec eR (by simp) λai aW b1=>?_);exact wpAny_mono (z6 (A:=A.in1) cw b1 q) (λ_ _ z=>False.elim z) λ_ _ z=>z
theorem Zl5{T:Addr}{items:Array Value}{pl:Nat}{k:Int}{v:Value}(eR:s.heap.get? it=some (jJ (.ref T) i a aN.size ep))(dg:s.heap.IsTuple T items)(hi:items[i]? =some (.int pl 0))(cn:aN[pl]? =some (k,v))(bc:s.heap.get? a=some o)(hd:o.data= .set aN ep t)(bB:t.fits aN.size=true)
  (q:∀h',h'.get? it=some (jJ (.ref T) (i+1) a aN.size ep)→Heap.SameBut it s.heap h'→Q (some v) {s with heap:=h'}):wpAny (model prog w) A (pyNext (.ref it)) Q E s:=by
 obtain⟨oH,vw,GW,GX,vx⟩:=dg;refine ZfE eR ?_;unfold Builtin.«set_iterator.__next__»;refine wpAny_bind (m:=slotArgs _ _ _) (wpAny_pure (wpAny_bind (wpAny_fieldsOf eR rfl ?_)));show wpAny _ _ (setEntries a >>= _) _ _ _;refine wpAny_bind (wpAny_setEntries_of bc hd bB ?_);rw[if_neg (by simp)];show wpAny _ _ (seqItems? (.ref T) >>= _) _ _ _;refine wpAny_bind (wpAny_seqItems vw vx ?_);simp only[qaa,hi];unfold setNextDrawn;refine wpAny_bind (wpAny_bind (wpAny_setState_of bc hd bB ?_));dsimp only;rw[if_neg (by simp),cn];refine wpAny_pure ?_;refine wpAny_bind (wpAny_setField_rec eR (by simp) λaw a7 b2=>?_);exact wpAny_pure ⟨v,rfl,q aw a7 b2⟩
theorem ZnW{T:Addr}{items:Array Value}(cw:A.handled=none)(eR:s.heap.get? it=some (jJ (.ref T) i a aN.size ep))(dg:s.heap.IsTuple T items)(hi:items[i]? =none)(bc:s.heap.get? a=some o)(hd:o.data= .set aN ep t)(bB:t.fits aN.size=true)
  (q:∀h',Heap.ExtBut it s.heap h'→Q none {s with heap:=h'}):wpAny (model prog w) A (pyNext (.ref it)) Q E s:=by
 obtain⟨oH,vw,GW,GX,vx⟩:=dg;refine ZfE eR ?_;unfold Builtin.«set_iterator.__next__»;refine wpAny_bind (m:=slotArgs _ _ _) (wpAny_pure (wpAny_bind (wpAny_fieldsOf eR rfl ?_)));show wpAny _ _ (setEntries a >>= _) _ _ _;refine wpAny_bind (wpAny_setEntries_of bc hd bB ?_);rw[if_neg (by simp)];show wpAny _ _ (seqItems? (.ref T) >>= _) _ _ _;refine wpAny_bind (wpAny_seqItems vw vx ?_);simp only[qaa,hi];refine wpAny_bind (wpAny_setField_rec eR (by simp) λc8 fh b0=>?_);refine wpAny_bind (wpAny_setField_rec (s:={s with heap:=c8}) fh (by simp) λai aW b1=>?_);exact wpAny_mono (z6 (A:=A.in1) (s:=s) cw (b0.trans b1) q) (λ_ _ z=>False.elim z) λ_ _ z=>z
theorem ZeQ{sl:Nat}(hw:w.params.followText "set-order" =true)(bc:s.heap.get? a=some o)(hd:o.data= .set aN ep t)(bB:t.fits aN.size=true)(Q:Option (Value×Nat)→Shared→Prop)(q:Q (((pickOrder (w.params.setOrder a ep) aN)[i]?).map λe=>(e.2,sl)) s):wpAny (model prog w) A (setNext a sl i ep) Q E s:=by
 unfold setNext setsByText;refine wpAny_bind (wpAny_setState_of bc hd bB ?_);dsimp only;refine wpAny_bind (wpAny_bind (wpAny_askSetting (wpAny_pure ?_)));show wpAny _ _ (if w.params.followText "set-order" =true then _ else _) _ _ _;rw[if_pos hw,if_neg (by simp)];unfold setWalk setsByText;refine wpAny_bind (wpAny_bind (wpAny_setState_of bc hd bB ?_));dsimp only;refine wpAny_bind (wpAny_bind (wpAny_askSetting (wpAny_pure ?_)));show wpAny _ _ (if w.params.followText "set-order" =true then _ else _) _ _ _;rw[if_pos hw];exact wpAny_bind (wpAny_askSetting (wpAny_pure (wpAny_pure q)))
theorem ZdV{sl:Nat}(hw:w.params.followText "set-order" =false)(bc:s.heap.get? a=some o)(hd:o.data= .set aN ep t)(bB:t.fits aN.size=true)(aS:(!t.plain&&decide (aN.size > 1))=false)(af:t.led=true)(Q:Option (Value×Nat)→Shared→Prop)
  (q:Q (match aN[SetTable.below t.place sl]?,t.place[SetTable.below t.place sl]? with|some (_,x),some j=>some (x,j+1)|_,_=>none) s):wpAny (model prog w) A (setNext a sl i ep) Q E s:=by
 unfold setNext setsByText;refine wpAny_bind (wpAny_setState_of bc hd bB ?_);dsimp only;refine wpAny_bind (wpAny_bind (wpAny_askSetting (wpAny_pure ?_)));show wpAny _ _ (if w.params.followText "set-order" =true then _ else _) _ _ _;rw[if_neg (by rw[hw];simp)];show wpAny _ _ (if(!t.plain&&decide (aN.size > 1))=true then _ else _) _ _ _;rw[if_neg (by rw[aS];simp)];refine wpAny_bind ?_;show wpAny _ _ (if(!t.led&& !aN.isEmpty)=true then _ else _) _ _ _;rw[if_neg (by rw[af];simp)];exact wpAny_pure (wpAny_pure q)
end
section
variable {prog:Program}{w:World}{A:Around}{E:Value→Shared→Prop}{s:Shared}{it a:Addr}{o:Obj}{aN:Array (Int×Value)}{ep i:Nat}{t:SetTable}
theorem Zer{first:Value}{n:Nat}{Q:Value→Shared→Prop}(eR:s.heap.get? it=some (jJ first i a n ep))(q:Q (.ref it) s):wpAny (model prog w) A (pyIter (.ref it)) Q E s:=by
 have dg:s.TypeIs (.ref it) "set_iterator" :=⟨_,eR,rfl⟩;refine wpAny_pyIter_slot dg z2 (wpAny_call_entry z2 dg GP ?_ (GS _));show wpAny _ _ (ret (.ref it)) _ _ s;exact wpAny_pure ⟨_,rfl,"set_iterator",_,dg,qf.lookup,q⟩
theorem ZiE(cw:A.handled=none)(I:Addr)(fS:a≠I)(hw:w.params.followText "set-order" =true)(hd:o.data= .set aN ep t)(bB:t.fits aN.size=true):
  PySem.Walks prog w A I [I,a] [I] aN.size (λi v=>((pickOrder (w.params.setOrder a ep) aN).toList.map (·.2))[i]? =some v) (λi h=>h.get? I=some (jJ (.int (0:Nat) 0) i a aN.size ep)∧h.get? a=some o) where
 sub:=λb ag=>by simp at ag;simp[ag]
 frame:=λ_ _ _ st aR=>⟨aR I (by simp) _ st.1,aR a (by simp) _ st.2⟩
 item:=λi s Q E hi st q=>by
  have hz:(pickOrder (w.params.setOrder a ep) aN).size=aN.size:=by have:=(vv (w.params.setOrder a ep) aN).length_eq;simpa using this
  have dv:i<(pickOrder (w.params.setOrder a ep) aN).size:=by rw[hz];exact hi
  refine Zht (nx:=0) (v:=((pickOrder (w.params.setOrder a ep) aN)[i]).2) st.1 st.2 hd bB (λi5 cA=>ZeQ hw st.2 hd bB i5 (by rw[qaK dv];exact cA)) λh' e b=>?_;exact q _ h' s.toks (by rw[qaj,qbw,qaK dv];rfl) ⟨e,b.extBut a _ fS st.2⟩ λly cM ag cx=>b.extBut ly cM (λz=>ag (by simp[z])) cx
 done:=λs Q E st q=>by
  have hz:(pickOrder (w.params.setOrder a ep) aN).size=aN.size:=by have:=(vv (w.params.setOrder a ep) aN).length_eq;simpa using this
  refine Zjt cw st.1 st.2 hd bB (λi5 cA=>ZeQ hw st.2 hd bB i5 (by rw[Array.getElem?_eq_none (by omega)];exact cA)) λh' e=>q h' s.toks λb cM ag cx=>e b cM (λz=>ag (by simp[z])) cx
 self:=λ_ _ _ _ st q=>Zer st.1 q
noncomputable def oI (t:SetTable) (i:Nat):Nat:=if i=0 then 0 else t.place.getD (i-1) 0+1
theorem Zcf{led:Bool}(g:Yh led t){n:Nat}(hz:t.place.size=n)(hi:i≤n):SetTable.below t.place (oI t i)=i:=by
 unfold oI
 split
 ·rename_i e;rw[e];exact Ziz g.rise
 ·have ai:i-1<t.place.size:=by omega
  have e:t.place.getD (i-1) 0=t.place[i-1]:=by simp[Array.getD,ai]
  rw[e,Gs g.rise ai];omega
theorem Zho{led:Bool}(cw:A.handled=none)(I:Addr)(fS:a≠I)(hw:w.params.followText "set-order" =false)(hd:o.data= .set aN ep t)(bB:t.fits aN.size=true)(aS:(!t.plain&&decide (aN.size > 1))=false)(af:t.led=true)(g:Yh led t):
  PySem.Walks prog w A I [I,a] [I] aN.size (λi v=>(aN.toList.map (·.2))[i]? =some v) (λi h=>h.get? I=some (jJ (.int (oI t i:Nat) 0) i a aN.size ep)∧h.get? a=some o) where
 sub:=λb ag=>by simp at ag;simp[ag]
 frame:=λ_ _ _ st aR=>⟨aR I (by simp) _ st.1,aR a (by simp) _ st.2⟩
 item:=λi s Q E hi st q=>by
  have hz:t.place.size=aN.size:=by simp only[SetTable.fits,qa2,beq_iff_eq] at bB;exact bB.1
  have iO:i<t.place.size:=by omega
  have ag:=Zcf (i:=i) g hz (by omega);refine Zht (nx:=oI t (i+1)) (v:=(aN[i]).2) st.1 st.2 hd bB (λi5 cA=>ZdV hw st.2 hd bB aS af i5 ?_) λh' e b=>?_
  ·rw[ag,qaK hi,qaK iO];have e:oI t (i+1)=t.place[i]+1:=by
    unfold oI;rw[if_neg (by omega)];simp[Array.getD,iO]
   rw[e] at cA;exact cA
  ·exact q _ h' s.toks (by rw[qaj,qbw,qaK hi];rfl) ⟨e,b.extBut a _ fS st.2⟩ λly cM ag cx=>b.extBut ly cM (λz=>ag (by simp[z])) cx
 done:=λs Q E st q=>by
  have hz:t.place.size=aN.size:=by simp only[SetTable.fits,qa2,beq_iff_eq] at bB;exact bB.1
  have ag:=Zcf (i:=aN.size) g hz (FM _);refine Zjt cw st.1 st.2 hd bB (λi5 cA=>ZdV hw st.2 hd bB aS af i5 ?_) λh' e=>q h' s.toks λb cM ag cx=>e b cM (λz=>ag (by simp[z])) cx;rw[ag,Array.getElem?_eq_none (FM _)];exact cA
 self:=λ_ _ _ _ st q=>Zer st.1 q
theorem Zhl(cw:A.handled=none)(I T:Addr)(fS:a≠I)(vf:T≠I)(hd:o.data= .set aN ep t)(bB:t.fits aN.size=true)(ord:List Nat)(aS:ord.Perm (List.range aN.size)):
  PySem.Walks prog w A I [I,a,T] [I] aN.size (λi v=>(ord.map λj=>(aN.getD j (0,.none)).2)[i]? =some v) (λi h=>h.get? I=some (jJ (.ref T) i a aN.size ep)∧h.get? a=some o∧h.IsTuple T (ord.map λ(j:Nat)=>Value.int j 0).toArray) where
 sub:=λb ag=>by simp at ag;simp[ag]
 frame:=λ_ _ _ st aR=>⟨aR I (by simp) _ st.1,aR a (by simp) _ st.2.1,let⟨x,e,r⟩:=st.2.2;⟨x,aR T (by simp) _ e,r⟩⟩
 item:=λi s Q E hi st q=>by
  have af:ord.length=aN.size:=by have:=aS.length_eq;simpa using this
  have iO:i<ord.length:=by omega
  have aJ:ord[i]<aN.size:=by have:=aS.mem_iff.mp (fm iO);simpa using this
  have eJ:(aN.getD ord[i] (0,Value.none))=aN[ord[i]]:=by simp[Array.getD,aJ]
  refine Zl5 (pl:=ord[i]) (k:=(aN[ord[i]]).1) (v:=(aN[ord[i]]).2) st.1 st.2.2 (by simp[iO]) (by rw[qaK aJ]) st.2.1 hd bB λh' e b=>?_;exact q _ h' s.toks (by rw[qaj,GT iO];exact congrArg (λx=>some x.2) eJ) ⟨e,b.extBut a _ fS st.2.1,let⟨x,e,r⟩:=st.2.2;⟨x,b.extBut T _ vf e,r⟩⟩ λly cM ag cx=>b.extBut ly cM (λz=>ag (by simp[z])) cx
 done:=λs Q E st q=>by
  have af:ord.length=aN.size:=by have:=aS.length_eq;simpa using this
  exact ZnW cw st.1 st.2.2 (by simp[af]) st.2.1 hd bB λh' e=>q h' s.toks λb cM ag cx=>e b cM (λz=>ag (by simp[z])) cx
 self:=λ_ _ _ _ st q=>Zer st.1 q
end
section
variable {prog:Program}{w:World}{A:Around}{E:Value→Shared→Prop}{s:Shared}{a:Addr}{o:Obj}
theorem GY{c5:List Int}{Q:Value→Shared→Prop}(bc:s.heap.get? a=some o)(er:U9 (!w.params.followText "set-order") c5 o)
  (q:∀(I:Addr)(L:List Value)(s':Shared)(fp:List Addr)(St:Nat→Heap→Prop)(n:Nat),n=L.length→(∃ns:List Int,IntsAre L ns∧ns.Perm c5)→(∀b o,s.heap.get? b=some o→s'.heap.get? b=some o)→s'.gens=s.gens→s'.os=s.os→s'.toks=s.toks→
   (∀gj:Around,gj.handled=none→PySem.Walks prog w gj I fp [I] n (λi v=>L[i]? =some v) St)→St 0 s'.heap→s.heap.objs.size≤I→(∀b∈fp,b=a∨s.heap.objs.size≤b)→Q (.ref I) s'):wpAny (model prog w) A (pyIter (.ref a)) Q E s:=by
 obtain⟨f6,aN,ep,t,hd,oG,ag,bB,aM,aS⟩:=er;have dg:s.TypeIs (.ref a) "set" :=⟨_,bc,f6.1⟩;have dz:a<s.heap.objs.size:=Heap.lt_size bc;have vy:∀l:List (Int×Value),l.Perm aN.toList→∃ns:List Int,IntsAre (l.map (·.2)) ns∧ns.Perm c5:=λl pl=>by
  refine⟨l.map keyI,?_,(pl.map keyI).trans aS⟩;have af:∀e∈l,∃n a5,e=(hashInt n,Value.int n a5):=λe cp=>oG e (pl.mem_iff.mp cp);clear pl
  induction l with
  |nil=>exact .nil
  |cons x l cO=>
   obtain⟨n,a5,rfl⟩:=af x (by simp);exact .cons n a5 (cO λe cp=>af e (by simp[cp]))
 refine wpAny_pyIter_slot dg F.slot_set_iter (wpAny_call_entry F.slot_set_iter dg GQ ?_ (F.args_set_iter_1 _));unfold Builtin.«frozenset.__iter__» Builtin.Frozenset.sizeOf;refine wpAny_bind (m:=Builtin.Frozenset.slot0 _ _) (wpAny_pure ?_);refine wpAny_bind (wpAny_bind (wpAny_setEntries_of bc hd bB (wpAny_pure ?_)));unfold setDrawn setsByText;refine wpAny_bind (wpAny_bind (wpAny_setState_of bc hd bB ?_));dsimp only;refine wpAny_bind (wpAny_bind (wpAny_askSetting (wpAny_pure (wpAny_pure ?_))));show wpAny _ _ (if(!w.params.followText "set-order" &&(!t.plain&&decide (aN.size > 1)))=true then _ else _) _ _ _
 by_cases ax:(!w.params.followText "set-order" &&(!t.plain&&decide (aN.size > 1)))=true
 ·rw[if_pos ax];refine wpAny_bind ?_;have av:(List.range aN.size).length=aN.size:=List.length_range;have dr:=z4 (prog:=prog) (w:=w) (A:=A.in1) (E:=E) (List.range aN.size) s;rw[av] at dr;refine dr _ λord d eD=>?_;refine wpAny_bind ?_;simp only[newTuple];have se:ord.length=aN.size:=by have:=eD.length_eq;simpa using this
  refine wpAny_newObj_type ?_ ?_
  ·refine wpAny_bind (wpAny_setEpoch_of (Heap.get?_push_of_some _ bc) hd bB ?_);refine wpAny_bind (wpAny_newObj_type (wpAny_pure ⟨_,rfl,"set_iterator",_,⟨_,Heap.get?_push_size _ rfl,rfl⟩,qf.lookup,?_⟩));generalize vz:({cls:= .type "tuple",data:= .seq (List.map (λ(i:Nat)=>rawInt i) ord).toArray 0}:Obj)=oH;have sf:(List.map (λj=>aN.getD j (0,Value.none)) ord).Perm aN.toList:=by
    refine(eD.map _).trans ?_;have:(List.range aN.size).map (λj=>aN.getD j (0,Value.none))=aN.toList:=by
     refine qaw (by simp) λi ai aw=>?_;have cC:i<aN.size:=by simpa using aw
     simp[Array.getD,cC]
    rw[this]
   have GZ:∀gj:Around,gj.handled=none→_:=λgj cw=>Zhl (prog:=prog) (w:=w) (A:=gj) (a:=a) (o:=o) (ep:=ep) cw (s.heap.objs.size+1) s.heap.objs.size (qak (qbC dz)) (qak (qbI _)) hd bB ord eD;have qg:aN.size=(ord.map λj=>(aN.getD j (0,.none)).2).length:=by simp[se]
   rw[show(s.heap.push oH).objs.size=s.heap.objs.size+1 from Heap.size_push ..];refine q _ (ord.map λj=>(aN.getD j (0,.none)).2) _ [s.heap.objs.size+1,a,s.heap.objs.size] _ _ qg (by have:=vy _ sf;rw[qbz] at this;exact this) (λb o e=>Heap.get?_push_of_some _ (Heap.get?_push_of_some _ e)) rfl rfl rfl (λgj cw=>GZ gj cw) ⟨?_,Heap.get?_push_of_some _ (Heap.get?_push_of_some _ bc),?_⟩ (qb7 _) (λb ag=>?_)
   ·have:=Heap.get?_push_size (o:=jJ (.ref s.heap.objs.size) 0 a aN.size ep) (s.heap.push oH) rfl;rw[show(s.heap.push oH).objs.size=s.heap.objs.size+1 from Heap.size_push ..] at this;exact this
   ·exact⟨oH,Heap.get?_push_of_some _ (Heap.get?_push_size _ (by rw[←vz];rfl)),by rw[←vz],0,by rw[←vz];rfl⟩
   ·simp only[qaf,qaF,or_false] at ag;rcases ag with rfl|rfl|rfl
    ·exact .inr (qb7 _)
    ·exact .inl rfl
    ·exact .inr (FM _)
  ·show(List.map _ ord).toArray.size≤sizeLine;rw[qae,GE,se];exact fits_of_scanBound ag
 ·rw[if_neg ax];refine wpAny_bind (wpAny_pure ?_);refine wpAny_bind (wpAny_setEpoch_of bc hd bB ?_);refine wpAny_bind (wpAny_newObj_type (wpAny_pure ⟨_,rfl,"set_iterator",_,⟨_,Heap.get?_push_size _ rfl,rfl⟩,qf.lookup,?_⟩));have im:∀b∈[s.heap.objs.size,a],b=a∨s.heap.objs.size≤b:=λb ag=>by
   simp only[qaf,qaF,or_false] at ag;rcases ag with rfl|rfl
   ·exact .inr (FM _)
   ·exact .inl rfl
  cases hw:w.params.followText "set-order" with
  |true=>
   have sf:=vv (w.params.setOrder a ep) aN;have qg:aN.size=((pickOrder (w.params.setOrder a ep) aN).toList.map (·.2)).length:=by have:=sf.length_eq;simpa using this.symm
   exact q _ _ _ _ _ _ qg (vy _ sf) (λb o e=>Heap.get?_push_of_some _ e) rfl rfl rfl (λgj cw=>ZiE cw _ (qak dz) hw hd bB) ⟨Heap.get?_push_size _ rfl,Heap.get?_push_of_some _ bc⟩ (FM _) im
  |false=>
   rw[hw] at ax aM;have qg:aN.size=(aN.toList.map (·.2)).length:=by simp
   exact q _ _ _ _ _ _ qg (vy _ .rfl) (λb o e=>Heap.get?_push_of_some _ e) rfl rfl rfl (λgj cw=>Zho cw _ (qak dz) hw hd bB (by simpa using ax) aM.led aM) ⟨Heap.get?_push_size _ rfl,Heap.get?_push_of_some _ bc⟩ (FM _) im
end
section
variable {prog:Program}{w:World}{A:Around}{E:Value→Shared→Prop}{s:Shared}{a:Addr}{o:Obj}
theorem G0{Q:Bool→Shared→Prop}(dg:s.TypeIs (.ref a) "set")(q:Q false s):wpAny (model prog w) A (Builtin.List.listLengthHint (.ref a)) Q E s:=by
 unfold Builtin.List.listLengthHint;refine wpAny_bind (wpAny_specialOf dg F.slot_set_len.lookup ?_);generalize hid:("set.__len__" :String)=id0
 wp_delta
 rw[show splitId id0=some ("set","__len__") from by subst hid;decide+kernel];subst hid;refine wpAny_bind (wpAny_isInstance (T:="set") (b:=true) dg sub_set_self ?_);refine wpAny_ite_split (λz=>absurd z (by decide)) (λ_=>wpAny_ite_split (λ_=>?_) (λz=>absurd (by decide+kernel) z));exact wpAny_bind (wpAny_typeOf dg (wpAny_pure q))
theorem G1{c5:List Int}{R:List Value→Shared→Prop}(cw:A.handled=none)(bc:s.heap.get? a=some o)(er:U9 (!w.params.followText "set-order") c5 o)(aR:c5.length≤sizeLine)
  (q:∀(s':Shared)(L:List Value)(ns:List Int),IntsAre L ns→ns.Perm c5→(∀b o,s.heap.get? b=some o→s'.heap.get? b=some o)→s'.gens=s.gens→s'.os=s.os→R L s'):wpAny (model prog w) A (collect (.ref a)) R E s:=by
 have dz:a<s.heap.objs.size:=Heap.lt_size bc;generalize d_:({cls:= .type "list",data:= .seq ([]:List Value).toArray}:Obj)=N;have nJ:(s.heap.push N).get? a=some o:=Heap.get?_push_of_some _ bc;have lN:(s.heap.push N).get? s.heap.objs.size=some N:=Heap.get?_push_size _ (by rw[←d_];rfl);have hM:Shared.TypeIs {s with heap:=s.heap.push N} (.ref a) "set" :=⟨_,nJ,er.1.1⟩;unfold collect;refine wpAny_bind (wpAny_runValue (codeAny_builtin PySem.F.entry_proto_collect ?_));rw[Around.under_plainId PySem.F.plain_proto_collect _];refine wpAny_bind (m:=newList []) (wpAny_newObj_type ?_);refine wpAny_pure ⟨plainId_quiet PySem.F.plain_list_iadd _,codeAny_builtin PySem.F.entry_list_iadd ?_⟩;rw[Around.under_plainId PySem.F.plain_list_iadd _,d_];show wpAny _ A.in1 (Builtin.List.listExtendWith (.ref s.heap.objs.size) (.ref a) (.ref s.heap.objs.size)) _ _ _;unfold Builtin.List.listExtendWith;refine wpAny_bind (wpAny_typeOf hM ?_);have f4:Builtin.List.listSameRef (.ref s.heap.objs.size) (.ref a)=false:=by simp[Builtin.List.listSameRef];exact qbX dz
 have ft:(Value.type "set" ==Value.type "list")=false:=by decide
 have m':(Value.type "set" ==Value.type "tuple")=false:=by decide
 simp only[f4,ft,m',Bool.or_false,qb4,if_false];refine wpAny_bind (GY nJ er λI L b' fp St n sg uB kp d9 G3 dX W st oJ im=>?_);obtain⟨ns,hi,aS⟩:=uB;have sh:=kp _ _ lN;refine wpAny_bind (wpAny_holding (G0 (a:=a) ⟨_,kp _ _ nJ,er.1.1⟩ ?_));have qe:s.heap.objs.size∉fp:=λz=>by
  rcases im _ z with e|e
  ·exact qbX dz e
  ·rw[Heap.size_push] at e;exact absurd e (Nat.not_succ_le_self _)
 have Rl:s.heap.objs.size≠I:=λz=>by rw[←z,Heap.size_push] at oJ;exact absurd oJ (Nat.not_succ_le_self _)
 have G4:=(W A.in1 cw).toS;have qh:n≤sizeLine:=by
  have ai:L.length=ns.length:=IntsAre.length hi;rw[sg,ai,aS.length_eq];exact aR
 have f5:∀(cC:Heap)(c:Nat),St 0 cC→(∀b o,s.heap.get? b=some o→cC.get? b=some o)→cC.get? s.heap.objs.size=some {cls:= .type "list",data:= .seq #[] c}→codeAny (model prog w) A (.builtin "list.extend.loop" ⟨[.ref s.heap.objs.size,.ref I,.ref s.heap.objs.size],[]⟩) (λr s'=>match r with| .ok (.ret v)=>v= .ref s.heap.objs.size∧∃dj dO,s'.heap.get? s.heap.objs.size=some {cls:= .type "list",data:= .seq dj dO}∧dj.toList=L∧(∀b o,s.heap.get? b=some o→s'.heap.get? b=some o)∧s'.gens=s.gens∧s'.os=s.os|_=>False) {b' with heap:=cC}:=by
  intro cC c kD G5 c_;refine codeAny_extend_loopS G4 qh _ qe _ n 0 _ #[] c rfl (qaA _) kD c_ (ItemsOf.nil _) λcI dj qi i6 gU its=>⟨rfl,dj,qi,gU,?_,λb cM e=>i6.heap b cM (λz=>?_) (G5 b cM e),i6.gens.trans d9,i6.os.trans G3⟩
  ·refine List.ext_getElem? λj=>?_
   by_cases aJ:j<n
   ·have eS:j<dj.size:=by rw[its.1];exact aJ
    rw[qbw,its.2 j _ (qaK eS),qaK eS]
   ·rw[qaW (by rw[qbi,its.1];omega),qaW (by rw[←sg];omega)]
  ·have ag:=Heap.lt_size e;rcases qaf.mp z with z|z
   ·exact qbl _ (z▸ag)
   ·rw[qab.mp z] at ag;exact absurd (qaz (Nat.le_of_succ_le (by rw[Heap.size_push] at oJ;exact oJ)) (FM I)) (Nat.not_le_of_gt ag)
 refine wpAny_ite_split (λ_=>?_) (λ_=>wpAny_pure ⟨plainId_quiet PySem.F.plain_extend_loop _,codeAny_mono (f5 _ 0 st (λb o e=>kp b o (Heap.get?_push_of_some _ e)) (by rw[sh,←d_])) λr s' z=>?eN⟩)
 case eN=>
  rcases r with e|f
  ·exact z.elim
  cases f with
  |ret v=>
   obtain⟨rfl,dj,dO,gU,ia,mI,jx,sd⟩:=z;refine wpAny_bind (wpAny_load gU (wpAny_pure ?_));rw[ia];exact q s' L ns hi aS mI jx sd
  |_=>exact z.elim
 refine wpAny_bind (wpAny_rule (wpAny_bind ?_));show wpAny _ _ (updateSeq s.heap.objs.size (·.push .none) >>= λ_=>updateSeq s.heap.objs.size (·.pop)) _ _ _;rw[←d_] at sh;refine wpAny_bind (wpAny_updateSeq sh rfl ?_);have kK:=Heap.get?_update_self (Obj.mapSeq (·.push Value.none)) sh rfl;refine wpAny_updateSeq (hz:=by seq_fits) kK rfl ?_;have G6:=Heap.get?_update_self (Obj.mapSeq (·.pop)) kK rfl;have z7:∀b o,b≠s.heap.objs.size→b'.heap.get? b=some o→((b'.heap.update s.heap.objs.size (Obj.mapSeq (·.push Value.none))).update s.heap.objs.size (Obj.mapSeq (·.pop))).get? b=some o:=λb o ag e=>
  (Heap.get?_update_other _ _ (qbJ ag)).trans ((Heap.get?_update_other _ _ (qbJ ag)).trans e)
 refine wpAny_pure ⟨plainId_quiet PySem.F.plain_extend_loop _,codeAny_mono (f5 _ _ ((W A cw).frame 0 _ _ st λb ag o e=>z7 b o (λz=>qe (z▸ag)) e) (λb o e=>z7 b o (qak (Heap.lt_size e)) (kp b o (Heap.get?_push_of_some _ e))) G6) λr s' z=>?_⟩;rcases r with e|f
 ·exact z.elim
 cases f with
 |ret v=>
  obtain⟨rfl,dj,dO,gU,ia,mI,jx,sd⟩:=z;refine wpAny_bind (wpAny_load gU (wpAny_pure ?_));rw[ia];exact q s' L ns hi aS mI jx sd
 |_=>exact z.elim
end
section
theorem Zi8{l:List Int}{v:Int}(h:l.Nodup):(step_dedup l v).Nodup:=by
 unfold step_dedup
 split
 ·exact h
 ·rename_i z;refine qbs.mpr ⟨h,by simp,λa aZ b ag e=>?_⟩;rw[qab.mp ag] at e;exact z (by rw[qch];exact⟨a,aZ,by simp[e]⟩)
theorem z8(val:Nat→Int):∀i,(firstMet val i).Nodup
 |0=>by rw[firstMet_zero];exact .nil
 |i+1=>by rw[firstMet_succ];exact Zi8 (z8 val i)
theorem ZmB(ns:List Int){x:Int}:x∈firstMet (λi=>ns.getD i 0) ns.length↔x∈ns:=by
 have h:=firstMet_any (λi=>ns.getD i 0) ns.length x;have e:(List.range ns.length).map (λi=>ns.getD i 0)=ns:=by
  refine qaw (by simp) λi ai aw=>?_;simp[List.getD,aw]
 rw[e] at h;have a1:∀l:List Int,(l.any (· ==x))=true↔x∈l:=λl=>by simp
 rw[←a1,h,a1]
theorem G7{l:List Int}(h:l.Pairwise (· ≤·))(n:l.Nodup):l.Pairwise (· < ·):=by
 refine(List.pairwise_and_iff.mpr ⟨h,n⟩:l.Pairwise λa b=>a≤b∧a≠b).imp λz=>?_;omega
variable {X:Cx}{K:Frag}
def Few(ns:List Int):Prop:=ns.length<64∨(ns.length≤1000∧∀l:List Int,l.Nodup→(∀x∈l,x∈ns)→l.length<64)
noncomputable def Zdb (K:Frag):V→Hp→VK→Prop:=λx H Q=>∃(l:Addr)(ns:List Int),x= .ref l∧SqL K H l (ns.map V.int)∧Few ns∧∀(p:Addr)(di:List Int),H p=none→di.Pairwise (· < ·)→(∀x,x∈di↔x∈ns)→Q (.ref p) (upd H p (.lst (di.map V.int)))
noncomputable def z9 (K:Frag) (a_:TA):TE:=λae H Q=>a_ ae H λvs aj=>∃x,vs=[x]∧Zdb K x aj Q
theorem G8{a:Expr}{a_:TA}{p eL pos va:Pos}(eH:X.K=K)(ax:X.calm=true)(r3:Gl X "sorted")(hJ:X.mg "sorted" =none)(aM:Gl X "set")(a6:X.mg "set" =none)(aZ:PA X [a] a_)
  (hs:starEach [a] X.env=[(false,eval a X.env)]:=by rfl)
  (cp:starEach [Expr.Call (.Name "set" p) [a] [] pos] X.env=(false,eval (.Call (.Name "set" p) [a] [] pos) X.env)::starEach [] X.env:=by rfl):
  PE X (.Call (.Name "sorted" eL) [.Call (.Name "set" p) [a] [] pos] [] va) (z9 K a_):=by
 subst eH;intro ah s ae H Q I h;refine Call_ (jW I r3 hJ PyProof.Rows.boot_sorted ?_);refine qbP ?_ cp;rw[cp];show wpAny _ _ (spliced ((false,eval (.Call (.Name "set" p) [a] [] pos) X.env):: [])) _ _ s;refine Calls.spliced_cons (Call_ (jW I aM a6 boot_set (qaV (thn (aZ pos ah s ae H _ I h) λus az ⟨vs,aj,bD,cH,cA⟩=>?_) hs rfl)));obtain⟨x,e,l,ns,rfl,cG,ag,q⟩:=cA;subst e;obtain⟨u,rfl,cr⟩:=Wz cH;cases cr;obtain⟨its,dk,pl,hz⟩:=bD.list cG;have hi:=rE dk;have hsz:its.toArray.size=ns.length:=by have:=dk.length;simpa using this.symm
 have gZ:its.toArray.size+1<scanBound:=by rw[hsz];unfold scanBound;rcases ag with z|⟨z,_⟩<;>omega
 refine ZkD (bD.ok.hd ax) pl.isList hi gZ λh' a5 o bc er aR=>?_;rw[hsz] at er;refine Calls.spliced_nil ?_;have k1:∀b o,az.heap.get? b=some o→h'.get? b=some o:=λb o e=>aR b o (Heap.lt_size e) e;have c':Inv X ah ae aj {az with heap:=h',toks:=a5}:=bD.kept k1;generalize nk:firstMet (λi=>ns.getD i 0) ns.length=M at er;have z_:M.Nodup:=by rw[←nk];exact z8 _ _
 have z':∀x,x∈M↔x∈ns:=λx=>by rw[←nk];exact ZmB ns
 have G9:M.length<64:=by
  rcases ag with z|⟨_,z⟩
  ·have:M.length≤ns.length:=by rw[←nk];exact Zkb _ _
   omega
  ·exact z M z_ λx ao=>(z' x).mp ao
 refine Calls.call_function_entry kind_sorted plain_sorted entry_sorted (args_sorted1 _) ?_;unfold Builtin.«sorted»;refine wpAny_bind (m:=checkCount "sorted" 1 1 _) (wpAny_pure ?_);refine wpAny_bind (G1 (A:=X.A.in1) (I.ok.hd ax) bc er (qaX (dR (n:=M.length) (by omega))) λbb L di qj si k3 g3 hy=>?_);obtain⟨cC,Rm,d3,Aa,Rn⟩:=bb;dsimp only at k3 g3 hy⊢;subst g3 hy;have Ab:∀b o,az.heap.get? b=some o→cC.get? b=some o:=λb o e=>k3 b o (k1 b o e);have dV:Inv X ah ae aj {az with heap:=cC,gens:=az.gens,drawn:=d3,toks:=Aa}:=bD.call (ch:=[]) (Un.kept Ab) (bD.hok.kept Ab) bD.bare (λ_ z=>nomatch z);have af:L.length=di.length:=IntsAre.length qj;have hH:di.length<64:=by rw[si.length_eq];exact G9
 refine wpAny_bind (wpAny_newList ?_ (qaX (dR (n:=L.length) (by omega))));have pm:(cC.push (seqObj "list" L.toArray 0)).get? cC.objs.size=some (seqObj "list" L.toArray 0):=Heap.get?_push_size _ rfl;refine wpAny_bind (wpAny_holding (wpAny_call_entry slot_list_sort ⟨_,pm,rfl⟩ entry_list_sort (list_sort_tree pm qj (by omega) λout vA a1 a2 a3=>⟨_,rfl,?_⟩) (args_list_sort _)));refine wpAny_pure ⟨_,rfl,?_⟩;obtain⟨e,G_⟩:=sortedHeap_at (out:=out) pm;have jt:=uw a1;have eD:vA.Perm M:=a2.trans si;refine⟨.ref cC.objs.size,_,dV.laid (a:=cC.objs.size) (o:= .lst (vA.map V.int)) (t':=Aa) (λb o gZ=>?_) (FM _) ⟨by rw[GE,a2.length_eq];exact qaX (dR (n:=di.length) (by omega)),out.toList,e,jt,by simpa using G_⟩,rfl,q _ vA (dV.hok.fresh (FM _)) (G7 a3 (eD.nodup_iff.mpr z_)) λx=>eD.mem_iff.trans (z' x)⟩;have dz:=Heap.lt_size gZ;rw[sortedHeap_old (qak dz) (by rw[size_push'];exact qbC dz)];exact Heap.get?_push_of_some _ gZ
end
namespace Rd
section
variable {K:Frag}{ae:St}{H:Hp}{Q:VK}
theorem ZoP{a_:TA}(h:a_ ae H λvs aj=>∃x,vs=[x]∧Zdb K x aj Q):z9 K a_ ae H Q:=h
theorem Zof{l:Addr}{ns:List Int}(h:SqL K H l (ns.map V.int))(af:Few ns)(q:∀(p:Addr)(di:List Int),H p=none→di.Pairwise (· < ·)→(∀x,x∈di↔x∈ns)→Q (.ref p) (upd H p (.lst (di.map V.int)))):∃x,[V.ref l]=[x]∧Zdb K x H Q:=⟨_,rfl,l,ns,rfl,h,af,q⟩
end
end Rd
section
variable {X:Cx}{K:Frag}
noncomputable def rSetDef:V→List V→Hp→VK→Prop:=λx vs H Q=>∃(a:Addr)(kvs:List (Key×V))(i:Int)(v:V),x= .ref a∧vs=[.int i,v]∧H a=some (.dK kvs)∧kvs.length<sizeLine∧(∀y,valV kvs (Sum.inl i)=some y→Q y H)∧(valV kvs (Sum.inl i)=none→Q v (upd H a (.dK (eF kvs (Sum.inl i) v))))
theorem G':MtR X "dict.setdefault" rSetDef:=by
 intro ah s ae H x xs v us Q I cr rs h;obtain⟨a,kvs,i,y,rfl,rfl,aZ,af,cA,cT⟩:=h;cases cr;obtain⟨u,t,rfl,eu,rt⟩:=rs.two;obtain⟨z,hd,vs,rel,dd⟩:=Zah I.hok aZ;have aR:(e_ X.prog X.w).is (Sum.inl i) u=true:=nl (k:=Sum.inl i) eu;refine call_meetsIn PySem.F.slot_dict_setdefault dd.typeIs PySem.F.entry_dict_setdefault (PySem.F.args_dict_setdefault_3 _ _ _) (kt_meets_setdefault (e_ X.prog X.w) a aR hd t) ⟨vs,dd,by rw[←rel.length];exact z,λw hw=>?_,λbA h' dd' hs=>?_⟩
 ·cases e:valV kvs (Sum.inl i) with
  |none=>have:=rel.val (Sum.inl i:Key);rw[e,hw] at this;exact nomatch this
  |some lO=>
   obtain⟨hZ,aw,cX⟩:=hY.some_of (v:=lO) (o:=valueAt vs (Sum.inl i)) (by rw[←e];exact rel.val _);rw[hw] at aw;cases aw;exact⟨lO,H,I.tok _,cX,cA lO e⟩
 ·have aS:(eF kvs (Sum.inl i) y).length≤sizeLine:=by have:=Uc kvs (Sum.inl i:Key) y;omega
  have cp:∃q,h'.get? a=some q:=let⟨q,_,_,cG,_⟩:=dd';⟨q,cG⟩
  exact⟨y,_,pK (t':=s.toks+1) I (by rw[aZ];exact True.intro) hs cp (rM aS hd (rel.put (Sum.inl i) rt) dd'),rt,cT (by
   cases e:valV kvs (Sum.inl i) with
   |none=>rfl
   |some w=>have:=rel.val (Sum.inl i:Key);rw[e,bA] at this;exact nomatch this)⟩
noncomputable def rMinD:List V→Hp→VK→Prop:=λxs H Q=>∃(a:Addr)(kvs:List (Key×V))(c5:List Int),xs=[V.ref a]∧H a=some (.dK kvs)∧kvs.map (·.1)=c5.map Sum.inl∧0<kvs.length∧∀M,M∈c5→(∀b∈c5,M≤b)→Q (.int M) H
theorem Zko(ax:X.calm=true):YC X (.builtin "min") rMinD:=by
 intro ah s ae H xs us Q I r h;obtain⟨a,kvs,c5,rfl,aZ,sj,c8,q⟩:=h;obtain⟨u,rfl,eu⟩:=Wz r;cases eu;obtain⟨z,hd,vs,rel,dd⟩:=Zah I.hok aZ;obtain⟨ep,i3⟩:=dd.dictAt;have iP:kvs.length=c5.length:=by have:=congrArg List.length sj;simpa using this
 have Ac:vs.length=c5.length:=by rw[←rel.length,iP]
 have dz:a<s.heap.objs.size:=i3.lt_size;have f5:∀(j:Nat)(v:Value),(∃k x,vs[j]? =some (k,x)∧(e_ X.prog X.w).is k v=true)→∃t,v= .int (c5.getD j 0) t:=by
  rintro j v ⟨k,x,ao,cn⟩;obtain⟨lj,jt⟩:=rel.at ao;have aJ:(kvs.map (·.1))[j]? =some k:=by rw[qaj,jt];rfl
  rw[sj,qaj] at aJ;cases e:c5[j]? with
  |none=>rw[e] at aJ;cases aJ
  |some n=>
   rw[e] at aJ;cases aJ;have sg:c5.getD j 0=n:=by simp[List.getD,e]
   rw[sg];exact Value.isInt_shape cn
 refine call_min_walk (wpAny_pyIter_dict hd i3 ?_);refine⟨s.heap.objs.size,[s.heap.objs.size,a],[s.heap.objs.size],_,_,_,_,rfl,PySem.Walks.dictKeys (A:=X.A.in1) (knd:=e_ X.prog X.w) (I.ok.hd ax) _ a (qak dz) vs ep,⟨⟨_,Heap.get?_push_size _ rfl,rfl,rfl⟩,i3.push _⟩,λb ag=>?_,by omega,CmpOf.ints_lt (λi=>c5.getD i 0) f5,λv h' a5 d0 aR=>?_⟩
 ·show b<(s.heap.push _).objs.size;rw[Heap.size_push];rcases qaf.mp ag with rfl|ag
  ·exact qbI _
  ·rw[qab.mp ag];exact qbC dz
 ·obtain⟨t,rfl⟩:=f5 _ _ d0;obtain⟨ai,aw⟩:=argBest_lt (λi=>c5.getD i 0) (vs.length-1);refine⟨.int _,H,I.kept (za aR),⟨t,rfl⟩,q _ ?_ λb ag=>?_⟩
  ·have hH:argBest (λi j=>decide (c5.getD i 0<c5.getD j 0)) (vs.length-1)<c5.length:=by omega
   rw[qa9,GT hH];exact fm hH
  ·obtain⟨j,aJ,rfl⟩:=qat ag;have:=aw j (by omega);have e:c5.getD j 0=c5[j]:=by simp[List.getD,aJ]
   rw[←e];exact this
theorem Ha(ax:X.calm=true):YC X (.builtin "min") rMinD:=Zko ax
end
namespace Rd
section
variable {H:Hp}{Q:VK}
theorem ZoU{a:Addr}{kvs:List (Key×V)}{c5:List Int}(h:H a=some (.dK kvs))(e:kvs.map (·.1)=c5.map Sum.inl)(c8:0<kvs.length)(q:∀M,M∈c5→(∀b∈c5,M≤b)→Q (.int M) H):rMinD [.ref a] H Q:=⟨a,kvs,c5,rfl,h,e,c8,q⟩
theorem ZmW{a:Addr}{kvs:List (Key×V)}{i:Int}{v:V}(h:H a=some (.dK kvs))(af:kvs.length<sizeLine)(cA:∀y,valV kvs (Sum.inl i)=some y→Q y H)(cT:valV kvs (Sum.inl i)=none→Q v (upd H a (.dK (eF kvs (Sum.inl i) v)))):rSetDef (.ref a) [.int i,v] H Q:=⟨a,kvs,i,v,rfl,rfl,h,af,cA,cT⟩
end
end Rd
end L2
namespace My
@[irreducible] noncomputable def G (a b:Int):Int:=((Int.gcd a b:Nat):Int)
theorem ZdP(n m:Nat):G (n:Int) (m:Int)=((Nat.gcd n m:Nat):Int):=by
 unfold G
 rfl
theorem ZjT{a b:Int}(aZ:0≤a)(ag:b=0):G a b=a:=by
 subst ag;obtain⟨n,rfl⟩:=qbD aZ;have:=ZdP n 0;rw[Nat.gcd_zero_right] at this;exact this
theorem Znh{a b:Int}(aZ:0≤a)(ag:0<b):G b (Int.fmod a b)=G a b:=by
 obtain⟨n,rfl⟩:=qbD aZ;obtain⟨m,rfl⟩:=qbD (Int.le_of_lt ag);rw[qbW _ (qaN m),←Int.natCast_emod,ZdP,ZdP,Nat.gcd_comm n m,Nat.gcd_rec m n,Nat.gcd_comm]
structure S(k:Nat)(x:Int):Prop where
 lo:0≤x
 hi:x.toNat<2 ^ (2048*2 ^ k)
theorem Hd{j k:Nat}(h:j≤k):2 ^ (2048*2 ^ j)≤2 ^ (2048*2 ^ k):=
 qau (by decide) (qbZ _ (qau (by decide) h))
theorem S.mono{j k:Nat}{x:Int}(h:S j x)(aJ:j≤k):S k x:=⟨h.lo,qad h.hi (Hd aJ)⟩
end My
namespace Fo
noncomputable abbrev Trip:=Int×Int×Bool
noncomputable abbrev ZK:=List (Int×Option Trip)
noncomputable def keys (aL:ZK):List Int:=aL.map (·.1)
theorem Zak(aL:ZK)(w:Int)(s:Option Trip):keys (aL++ [(w,s)])=keys aL++ [w]:=by simp[keys]
theorem WC{aL:ZK}{i:Nat}{w:Int}{s:Option Trip}(h:aL[i]? =some (w,s)):w∈keys aL:=qah.mpr ⟨(w,s),qal h,rfl⟩
theorem V7{aL:ZK}{w:Int}(h:w∈keys aL):∃(i:Nat)(s:Option Trip),aL[i]? =some (w,s):=by
 obtain⟨⟨dC,s⟩,a6,rfl⟩:=qah.mp h;obtain⟨i,hi⟩:=qba a6;exact⟨i,s,hi⟩
structure Yg(d6:Int→List Trip)(first:Int)(aL:ZK):Prop where
 head:aL[0]? =some (first,none)
 nodup:(keys aL).Nodup
 steps:∀(i:Nat)(w p b:Int)(al:Bool),aL[i]? =some (w,some (p,b,al))→(w,b,al)∈d6 p∧∃(j:Nat)(s:Option Trip),j<i∧aL[j]? =some (p,s)
 only:∀(i:Nat)(w:Int),aL[i]? =some (w,none)→i=0
def UE(d6:Int→List Trip)(aL:ZK)(d:Nat):Prop:=∀(j:Nat)(w:Int)(s:Option Trip),j<d→aL[j]? =some (w,s)→∀t∈d6 w,t.1∈keys aL
section
variable {d6:Int→List Trip}{first:Int}{aL:ZK}
theorem Zjb:Yg d6 first [(first,none)]:=by
 refine⟨rfl,by simp[keys],λi w p b al h=>?_,λi w h=>?_⟩
 ·cases i with
  |zero=>simp at h
  |succ i=>simp at h
 ·cases i with
  |zero=>rfl
  |succ i=>simp at h
theorem Zei{aL:ZK}{x y:Int×Option Trip}{i:Nat}(h:(aL++ [x])[i]? =some y):aL[i]? =some y∨(i=aL.length∧y=x):=by
 rcases qaC i aL.length with c|c
 ·rw[qaB c] at h;exact .inl h
 ·rw[qaJ c] at h;have:i-aL.length=0:=by
   rcases qaU (i-aL.length) with z|z
   ·exact z
   ·rw[qaW (by simp;omega)] at h;cases h
  rw[this] at h;simp at h;exact .inr ⟨by omega,h.symm⟩
theorem Zcj{aL:ZK}{x y:Int×Option Trip}{i:Nat}(h:aL[i]? =some y):(aL++ [x])[i]? =some y:=by
 rw[qaB (GM.mp h).1];exact h
theorem Yg.snoc(g:Yg d6 first aL){w p b:Int}{al:Bool}{j:Nat}{s:Option Trip}(aS:aL[j]? =some (p,s))(hw:(w,b,al)∈d6 p)(bA:w∉keys aL):Yg d6 first (aL++ [(w,some (p,b,al))]):=by
 have aJ:=(GM.mp aS).1;refine⟨Zcj g.head,?_,λi dC fg ly sk h=>?_,λi dC h=>?_⟩
 ·rw[Zak];refine qbs.mpr ⟨g.nodup,by simp,λx ao y a'=>?_⟩;rw[qab.mp a'];intro e;exact bA (e▸ao)
 ·rcases Zei h with z|⟨rfl,z⟩
  ·obtain⟨ai,p4,s',aw,cC⟩:=g.steps i dC fg ly sk z;exact⟨ai,p4,s',aw,Zcj cC⟩
  ·cases z;exact⟨hw,j,s,aJ,Zcj aS⟩
 ·rcases Zei h with z|⟨rfl,z⟩
  ·exact g.only i dC z
  ·cases z
theorem UE.snoc{d:Nat}(h:UE d6 aL d)(hd:d≤aL.length)(w:Int)(s:Option Trip):UE d6 (aL++ [(w,s)]) d:=λj dC s' aJ e t cu=>by
 rw[Zak];refine qa8 _ ?_;rcases Zei e with z|⟨rfl,_⟩
 ·exact h j dC s' aJ z t cu
 ·omega
theorem UE.next{d:Nat}{w:Int}{s:Option Trip}(h:UE d6 aL d)(e:aL[d]? =some (w,s))(all:∀t∈d6 w,t.1∈keys aL):UE d6 aL (d+1):=λj dC s' aJ cx t cu=>by
 rcases qbm.mp aJ with z|rfl
 ·exact h j dC s' z cx t cu
 ·rw[e] at cx;cases cx;exact all t cu
inductive WD(d6:Int→List Trip)(a:Int):Int→Prop
 |refl:WD d6 a a
 |step {b c:Int} {t:Int} {al:Bool}:WD d6 a b→(c,t,al)∈d6 b→WD d6 a c
theorem WD.trans{a b c:Int}(h:WD d6 a b)(k:WD d6 b c):WD d6 a c:=by
 induction k with
 |refl=>exact h
 |step _ e cO=>exact .step cO e
def Zll(d6:Int→List Trip):Prop:=∀(a b t:Int)(al:Bool),(b,t,al)∈d6 a→(a,t,!al)∈d6 b
theorem WD.symm(ag:Zll d6){a b:Int}(h:WD d6 a b):WD d6 b a:=by
 induction h with
 |refl=>exact .refl
 |step _ e cO=>exact(WD.step .refl (ag _ _ _ _ e)).trans cO
theorem Yg.hang(g:Yg d6 first aL):∀(i:Nat)(w:Int)(s:Option Trip),aL[i]? =some (w,s)→WD d6 first w:=by
 intro i
 induction i using Nat.strongRecOn with
 |_ i cO=>
  intro w s h;cases s with
  |none=>
   have:=g.only i w h;subst this;rw[g.head] at h;cases h;exact .refl
  |some x=>
   obtain⟨p,b,al⟩:=x;obtain⟨ai,j,s',aw,cC⟩:=g.steps i w p b al h;exact .step (cO j aw p s' cC) ai
theorem Yg.keys_iff(g:Yg d6 first aL)(c:UE d6 aL aL.length)(w:Int):w∈keys aL↔WD d6 first w:=by
 constructor
 ·intro h;obtain⟨i,s,hi⟩:=V7 h;exact g.hang i w s hi
 ·intro h
  induction h with
  |refl=>exact WC g.head
  |step _ e cO=>
   obtain⟨i,s,hi⟩:=V7 cO;exact c i _ s (GM.mp hi).1 hi _ e
theorem Yg.rg(g:Yg d6 first aL){n:Int}(c8:0≤first∧first<n)(hw:∀a,∀t∈d6 a,0≤t.1∧t.1<n):∀w∈keys aL,0≤w∧w<n:=by
 intro w h;obtain⟨i,s,hi⟩:=V7 h;have:=g.hang i w s hi;cases this with
 |refl=>exact c8
 |step _ e=>exact hw _ _ e
theorem Vn{c5:List Int}{n:Nat}(nd:c5.Nodup)(h:∀w∈c5,0≤w∧w<(n:Int)):c5.length≤n:=by
 have ai:=nd.length_le_of_subset (l₂:=(List.range n).map λi:Nat=>(i:Int)) (λw hw=>by
  obtain⟨a,b⟩:=h w hw;exact qah.mpr ⟨w.toNat,qaL.mpr (by omega),by omega⟩)
 simpa using ai
end
structure WR(d6:Int→List Trip)(n:Nat)(F:List (Int×ZK))(i:Nat):Prop where
 tree:∀x∈F,Yg d6 x.1 x.2∧UE d6 x.2 x.2.length∧0≤x.1∧x.1<(i:Int)
 all:∀w:Int,0≤w→w<(i:Int)→∃x∈F,w∈keys x.2
 rise:F.Pairwise λx y=>x.1<y.1
 least:∀x∈F,∀w∈keys x.2,x.1≤w
section
variable {d6:Int→List Trip}{n i:Nat}{F:List (Int×ZK)}
theorem ZkR:WR d6 n [] 0:=⟨by simp,λw c8 ai=>by omega,.nil,by simp⟩
theorem WR.skip(h:WR d6 n F i)(hi:∃x∈F,(i:Int)∈keys x.2):WR d6 n F (i+1):=
 ⟨λx ao=>by obtain⟨a,b,c,d⟩:=h.tree x ao;exact⟨a,b,c,by omega⟩,λw c8 ai=>by
  by_cases e:w=(i:Int)
  ·rw[e];exact hi
  ·exact h.all w c8 (by omega),h.rise,h.least⟩
theorem WR.grow(ag:Zll d6)(hw:∀a,∀t∈d6 a,0≤t.1∧t.1<(n:Int))(f3:i<n)(h:WR d6 n F i)(hi:∀x∈F,(i:Int)∉keys x.2){aL:ZK}(g:Yg d6 i aL)(c:UE d6 aL aL.length):WR d6 n (F++ [((i:Int),aL)]) (i+1):=by
 refine⟨λx ao=>?_,λw c8 ai=>?_,List.pairwise_append.mpr ⟨h.rise,by simp,λx ao y a'=>?_⟩,λx ao=>?_⟩
 ·rcases qar.mp ao with z|z
  ·obtain⟨a,b,c,d⟩:=h.tree x z;exact⟨a,b,c,by omega⟩
  ·rw[qab.mp z];exact⟨g,c,by simp,by simp;omega⟩
 ·by_cases e:w=(i:Int)
  ·exact⟨_,qaq _ (qab.mpr rfl),by rw[e];exact WC g.head⟩
  ·obtain⟨x,ao,aR⟩:=h.all w c8 (by omega);exact⟨x,qa8 _ ao,aR⟩
 ·rw[qab.mp a'];exact(h.tree x ao).2.2.2
 ·rcases qar.mp ao with z|z
  ·exact h.least x z
  ·rw[qab.mp z];intro w aR;rcases Int.lt_or_le w (i:Int) with y|y
   ·exfalso;have av:=g.rg ⟨by omega,by omega⟩ hw w aR;obtain⟨iQ,iB,nB⟩:=h.all w av.1 y;obtain⟨g',dO,_,_⟩:=h.tree iQ iB;have ai:=(g'.keys_iff dO w).mp nB;have aw:=((g.keys_iff c w).mp aR).symm ag;exact hi iQ iB ((g'.keys_iff dO _).mpr (ai.trans aw))
   ·exact y
end
end Fo
namespace Fire
noncomputable def bump (c:Nat→Nat) (w:Nat):Nat→Nat:=λv=>if v=w then c v+1 else c v
theorem VG(c:Nat→Nat)(w:Nat):bump c w w=c w+1:=by simp[bump]
theorem VE(c:Nat→Nat){v w:Nat}(h:v≠w):bump c w v=c v:=by simp[bump,h]
inductive Yq(R:(Nat→Nat)→Nat→Prop):(Nat→Nat)→List Nat→(Nat→Nat)→Prop
 |nil (c:Nat→Nat):Yq R c [] c
 |cons {c d:Nat→Nat} {w:Nat} {ck:List Nat}:R c w→Yq R (bump c w) ck d→Yq R c (w::ck) d
variable {R:(Nat→Nat)→Nat→Prop}
theorem Yq.app{c d e:Nat→Nat}{ck Ad:List Nat}(h:Yq R c ck d)(h':Yq R d Ad e):Yq R c (ck++Ad) e:=by
 induction h with
 |nil c=>exact h'
 |cons r _ cO=>exact .cons r (cO h')
theorem Yq.snoc{c d:Nat→Nat}{ck:List Nat}{w:Nat}(h:Yq R c ck d)(r:R d w):Yq R c (ck++ [w]) (bump d w):=h.app (.cons r (.nil _))
theorem Yq.count{c d:Nat→Nat}{ck:List Nat}(h:Yq R c ck d):∀v,d v=c v+ck.count v:=by
 induction h with
 |nil c=>intro v;simp
 | @cons c d w ck r _ cO=>
  intro v;rw[cO v]
  by_cases cn:v=w
  ·subst cn;rw[VG,List.count_cons_self];omega
  ·rw[VE c cn,List.count_cons_of_ne (qbJ cn)]
structure Belt where
 giver:Nat
 taker:Nat
 give:Int
 take:Int
 start:Int
noncomputable def lie (b:Belt) (c:Nat→Nat):Int:=b.start+b.give*(c b.giver:Int)-b.take*(c b.taker:Int)
def ZlX(bs:List Belt)(c:Nat→Nat)(w:Nat):Prop:=∀b∈bs,b.taker=w→b.take≤lie b c
def May(bs:List Belt)(n:Nat)(jK:Nat→Nat)(c:Nat→Nat)(w:Nat):Prop:=w<n∧c w<jK w∧ZlX bs c w
def Bal(bs:List Belt)(jK:Nat→Nat):Prop:=∀b∈bs,b.give*(jK b.giver:Int)=b.take*(jK b.taker:Int)
theorem Zhr{bs:List Belt}{jK c:Nat→Nat}{b:Belt}(ag:b∈bs)(bal:Bal bs jK)(hs:0≤b.start)(cu:0≤b.take)(le:c b.giver≤jK b.giver)(d4:c b.taker<jK b.taker)(short:lie b c<b.take):c b.giver<jK b.giver:=by
 rcases qaC (c b.giver) (jK b.giver) with h|h
 ·exact h
 ·exfalso;have e:c b.giver=jK b.giver:=by omega
  unfold lie at short;rw[e,bal b ag] at short;have:b.take*((c b.taker:Int)+1)≤b.take*(jK b.taker:Int):=Int.mul_le_mul_of_nonneg_left (by omega) cu;rw[Int.mul_add,Int.mul_one] at this;omega
end Fire
set_option Elab.async false
set_option linter.all false
set_option maxRecDepth 100000
set_option maxHeartbeats 4000000
local macro_rules| `(tactic|omega)=>`(tactic|with_reducible first|exact qaN _|exact L2.oA (by assumption) (by assumption)|exact L2.oB (by assumption) (by assumption) rfl|exact L2.oC (by assumption) (by assumption) rfl|exact L2.oD (by assumption) rfl|exact L2.oE (by assumption) (by assumption)|exact L2.oF (by assumption)|lia|fail)
local macro_rules| `(tactic|walk_at "mul")=>`(tactic|k_dflt (first|with_reducible assumption|exact L2.ZiL.ok (Or.inr ⟨by omega,by omega⟩)|exact L2.ZiL.ok (Or.inl ⟨by omega,by omega⟩)))
local macro_rules| `(tactic|walk_at "lk")=>`(tactic|first|exact L2.Rd.lk0|exact L2.Rd.lkN|(refine L2.Rd.lk1 (by decide+kernel) ?_;walk_at "lk"))
local macro_rules| `(tactic|walk_at "pf")=>`(tactic|first|exact L2.Rd.pfN|(apply L2.Rd.pf1;(decide+kernel);walk_at "pf"))
local macro_rules| `(tactic|walk_at "na")=>`(tactic|exact L2.Vz.get (by with_reducible assumption) (by decide+kernel))
local macro_rules| `(tactic|walk_at "cond")=>`(tactic|k_dflt (first|with_reducible assumption|decide|omega|(simp;done)|(simp only[List.length_cons,List.length_nil,GE,qac];omega)))
local macro_rules| `(tactic|walk_at "rdis")=>`(tactic|((with_reducible show ∃x n t b,_=_∧L2.Wq _ _ x t∧_);first|with_reducible apply L2.Rd.Ziw|with_reducible apply L2.Rd.Zhm|with_reducible apply L2.Rd.is_int_str|with_reducible apply L2.Rd.is_int_list|with_reducible apply L2.Rd.is_int_tuple|with_reducible apply L2.Rd.is_int_dict|with_reducible apply L2.Rd.is_bl_int|with_reducible apply L2.Rd.is_bl_bool|with_reducible apply L2.Rd.is_bl_str|with_reducible apply L2.Rd.is_bl_list|with_reducible apply L2.Rd.is_bl_tuple|with_reducible apply L2.Rd.is_bl_dict|with_reducible apply L2.Rd.is_str_int|with_reducible apply L2.Rd.is_str_bool|with_reducible apply L2.Rd.Zik|with_reducible apply L2.Rd.is_str_list|with_reducible apply L2.Rd.is_str_tuple|with_reducible apply L2.Rd.is_str_dict|with_reducible apply L2.Rd.is_non_int|with_reducible apply L2.Rd.is_non_bool|with_reducible apply L2.Rd.is_non_str|with_reducible apply L2.Rd.is_non_list|with_reducible apply L2.Rd.is_non_tuple|with_reducible apply L2.Rd.is_non_dict|with_reducible refine L2.Rd.is_lst_int (by with_reducible assumption) ?_|with_reducible refine L2.Rd.is_lst_bool (by with_reducible assumption) ?_|with_reducible refine L2.Rd.is_lst_str (by with_reducible assumption) ?_|with_reducible refine L2.Rd.Zhe (by with_reducible assumption) ?_|with_reducible refine L2.Rd.is_lst_tuple (by with_reducible assumption) ?_|with_reducible refine L2.Rd.is_lst_dict (by with_reducible assumption) ?_|with_reducible refine L2.Rd.is_tup_int (by with_reducible assumption) ?_|with_reducible refine L2.Rd.is_tup_bool (by with_reducible assumption) ?_|with_reducible refine L2.Rd.is_tup_str (by with_reducible assumption) ?_|with_reducible refine L2.Rd.is_tup_list (by with_reducible assumption) ?_|with_reducible refine L2.Rd.ZgG (by with_reducible assumption) ?_|with_reducible refine L2.Rd.is_tup_dict (by with_reducible assumption) ?_|with_reducible refine L2.Rd.is_dK_int (by with_reducible assumption) ?_|with_reducible refine L2.Rd.is_dK_bool (by with_reducible assumption) ?_|with_reducible refine L2.Rd.is_dK_str (by with_reducible assumption) ?_|with_reducible refine L2.Rd.is_dK_list (by with_reducible assumption) ?_|with_reducible refine L2.Rd.is_dK_tuple (by with_reducible assumption) ?_|with_reducible refine L2.Rd.is_dK_dict (by with_reducible assumption) ?_))
local macro_rules| `(tactic|walk_at "side")=>`(tactic|k_dflt (first|with_reducible assumption|decide|(dsimp only;decide)|(dsimp only[L2.ZnA];decide)|omega|(dsimp only;omega)))
local macro_rules| `(tactic|walk_at "hp")=>`(tactic|with_reducible (first|assumption|((show L2.SqL _ _ _ _);(first|exact L2.SqL.of (by assumption)|exact L2.OffL.sq (by assumption)|exact L2.Zf.seq (by assumption) (by assumption)))|((show L2.SqT _ _ _ _);(first|exact L2.SqT.of (by assumption)|exact L2.OffT.sq (by assumption)|exact L2.Zf.seqT (by assumption) (by assumption)))))
local macro_rules| `(tactic|walk_at "rd")=>`(tactic|first|with_reducible (first|apply L2.Rd.seq|apply L2.Rd.asg|apply L2.Rd.ret|apply L2.Rd.ifs|apply L2.Rd.next|apply L2.Rd.drop|apply L2.Rd.op|apply L2.Rd.un|apply L2.Rd.Zpb|apply L2.Rd.con|(show L2.Zh0 _ _ _ _;refine L2.Rd.var (by k_dflt rfl) ?_)|(show L2.UL _ _ _ _ _;refine L2.Rd.Zog (by k_dflt (dsimp only[L2.start,List.map_cons,List.map_nil,List.cons_append,List.nil_append,List.length_cons,List.length_nil,Nat.reduceAdd,Nat.reduceSub,List.replicate,List.set];(try rfl))) ?_)|apply L2.Rd.call|apply L2.Rd.cons|apply L2.Rd.nil|apply L2.Rd.cb|apply L2.Rd.tup|apply L2.Rd.lst|apply L2.Rd.Zpj|apply L2.Rd.or_|apply L2.Rd.ZoS|apply L2.Rd.Zpf|apply L2.Rd.ZoI|apply L2.Rd.par|apply L2.Rd.i0|(show L2.rI _ _ _ _ _ _;refine L2.Rd.iC (by walk_at "side") ?_)|apply L2.Rd.bl|apply L2.Rd.two|apply L2.Rd.ZoJ|(show L2.rOr L2.Zh9 _ _ _ _ _;refine L2.Rd.ZoY (by walk_at "mul") ?_)|apply L2.Rd.ZpA|apply L2.Rd.Zpt|(show L2.rOr _ (L2.rOr L2.ZdI _) (L2.V.str _) (L2.V.str _) _ _;refine L2.Rd.Zk7 (by walk_at "side") ?_)|(show L2.rIx _ _ _ _ _;refine L2.Rd.Zpw (by walk_at "hp") (by k_dflt rfl) ?_)|(show L2.rIx _ _ _ _ _;refine L2.Rd.Znc (by walk_at "hp") (by k_dflt (first|rfl|with_reducible assumption)) ?_)|apply L2.Rd.un1|(show ∃a,L2.V.ref _=L2.V.ref a∧(∃xs,L2.SqL _ _ a xs)∧_;refine L2.Rd.Zni (by walk_at "hp") ?_)|(show ∃k,[L2.V.int _]=[L2.V.int k]∧_;refine L2.Rd.ZoC (by k_dflt omega) (by k_dflt omega) ?_)|apply L2.Rd.Zps|(show ∃x n,_=_∧L2.ZaY _ x _ n∧_;refine L2.Rd.Zou (by walk_at "hp") ?_)|(show ∃x n,_=_∧L2.ZaY _ x _ n∧_;refine L2.Rd.Zpu (by walk_at "hp") ?_)|(show ∃x n,_=_∧L2.ZaY _ x _ n∧_;refine L2.Rd.lenS (by walk_at "side") ?_))|walk_at "rdis" |with_reducible (first|apply L2.Rd.Zpm|apply L2.Rd.tru|apply L2.Rd.Zpa|apply L2.Rd.ZoZ|apply L2.Rd.Zo1|apply L2.Rd.bm|apply L2.Rd.bm0|(show L2.tyV _ _ _ _∧_;refine L2.Rd.tyl (by with_reducible assumption) ?_)|(show L2.rAppend _ _ _ _;refine L2.Rd.app (by with_reducible assumption) (by walk_at "side") ?_)|apply L2.Zex|apply L2.Zey|apply L2.Rd.ZlU|apply L2.Rd.ZlZ|(show if decide _=true then _ else _;refine L2.Rd.ifP (by walk_at "cond") ?_)|(show if decide _=true then _ else _;refine L2.Rd.ifN (by walk_at "cond") ?_)|(show if(!decide _)=true then _ else _;refine L2.Rd.ZoQ (by walk_at "cond") ?_)|(show if(!decide _)=true then _ else _;refine L2.Rd.ZoK (by walk_at "cond") ?_)|apply L2.Rd.sl|apply L2.Rd.ZnR|apply L2.Rd.ZoH|apply L2.Rd.ZoA|apply L2.Rd.Zo9|(show ∃a C aY fs v,L2.V.ref _=L2.V.ref a∧_=some (L2.HO.ins C aY fs)∧L2.Cls _ C∧_;refine L2.Rd.fld (by with_reducible assumption) (by with_reducible assumption) (by k_dflt (walk_at "na")) (by k_dflt (walk_at "lk")) ?_)|(show L2.ZdZ _ _ _ _ _ _ _ _;refine L2.Rd.Zop (by k_dflt rfl) ?_)|apply L2.Rd.Zpz|(show L2.rSetL _ _ _ _ _;refine L2.Rd.ZoN (by with_reducible assumption) (by k_dflt omega) (by walk_at "cond") ?_)|apply L2.Rd.Zoe|apply L2.Rd.Zot|apply L2.Rd.ZoR|(show ∃a C aY fs,L2.V.ref _=L2.V.ref a∧_=some (L2.HO.ins C aY fs)∧L2.Cls _ C∧_;refine L2.Rd.Zos (by with_reducible (first|assumption|exact L2.Ze)) (by with_reducible assumption) (by k_dflt (walk_at "na")) (by k_dflt (simp only[List.length_cons,List.length_nil];decide)) (by k_dflt (walk_at "pf")) ?_)|apply L2.Rd.ZoE|apply L2.Rd.ZnN|apply L2.Rd.Zor|apply L2.Rd.Zpp|apply L2.Rd.Zov|apply L2.Rd.ZoO|apply L2.Rd.Zod|(show ∃p bs,[L2.V.ref _]=[L2.V.ref p]∧L2.SqL _ _ p (List.map L2.V.bl bs)∧_;refine L2.Rd.Zpi (by walk_at "hp") ?_)|apply L2.Rd.leS|apply L2.Rd.Zoo)|((with_reducible show if(!(_==_))=true then _ else _);first|refine L2.Rd.ZlU ?_|refine L2.Rd.ZlZ ?_)|((with_reducible show if(_==_)=true then _ else _);first|refine L2.Zex ?_|refine L2.Zey ?_)|with_reducible (first|apply L2.Rd.ZnY|apply L2.Rd.Zoq|(show ∃a,_=_∧(∃xs,L2.SqL _ _ a xs)∧_;refine L2.Rd.Zn0 (by walk_at "hp") ?_)|apply L2.Rd.Zpo|apply L2.Rd.lset|apply L2.Rd.Zpl)|((with_reducible show L2.rDIn _ _ _ _);first|with_reducible refine L2.Rd.Zpx (by with_reducible assumption) ?_|with_reducible refine L2.Rd.dinI (by with_reducible assumption) ?_)|((with_reducible show L2.rDNotIn _ _ _ _);first|with_reducible refine L2.Rd.dninS (by with_reducible assumption) ?_|with_reducible refine L2.Rd.Zob (by with_reducible assumption) ?_)|((with_reducible show L2.rIxD _ _ _ _);first|with_reducible refine L2.Rd.dgetS (by with_reducible assumption) (by with_reducible assumption) ?_|with_reducible refine L2.Rd.Zoa (by with_reducible assumption) (by with_reducible assumption) ?_)|((with_reducible show L2.rSetD _ _ _ _ _);first|with_reducible refine L2.Rd.Zow (by with_reducible assumption) (by walk_at "side") ?_|with_reducible refine L2.Rd.Zok (by with_reducible assumption) (by walk_at "side") ?_)|with_reducible (first|(show L2.rLenD _ _ _;refine L2.Rd.ZoW (by with_reducible assumption) ?_)|(show L2.rListD _ _ _;refine L2.Rd.ZoB (by with_reducible assumption) ?_)|apply L2.Rd.ZoL|apply L2.Rd.ipi|(show L2.Zet _ _ _ _ _;refine L2.Rd.ixl (by walk_at "hp") (by k_dflt (first|rfl|with_reducible assumption)) ?_)|apply L2.Rd.Zpn|apply L2.Rd.ZoX|apply L2.Rd.Zo8|apply L2.Rd.Zon))
local macro_rules| `(tactic|walk_at "rds")=>`(tactic|repeat' (walk_at "rd"))
namespace Nm
open PySem L2
noncomputable def top (i:Nat):Stmt:=PySem.Challenge.pw_ratehall_k18_rooms_that_fit.main.body.getD i (.Pass ⟨0,0,0,0⟩)
noncomputable abbrev Ae:Stmt:=top 60
noncomputable abbrev Af:Stmt:=top 63
noncomputable abbrev Ag:Stmt:=top 59
noncomputable abbrev so:Stmt:=top 64
noncomputable abbrev vB:Stmt:=top 26
noncomputable abbrev Ah:Stmt:=YK (top 30) 1
noncomputable abbrev Ai:Stmt:=top 17
noncomputable abbrev Aj:Stmt:=top 18
noncomputable abbrev Ak:Stmt:=top 32
noncomputable abbrev Al:Stmt:=top 19
noncomputable abbrev Am:Stmt:=YK (top 30) 11
noncomputable abbrev An:Stmt:=YK (top 30) 3
noncomputable abbrev Ao:Stmt:=YK (top 30) 2
noncomputable abbrev Ap:Stmt:=YK (top 30) 0
noncomputable abbrev Aq:Stmt:=top 65
noncomputable abbrev Ar:Stmt:=YK (top 30) 7
noncomputable abbrev As:Stmt:=YK (top 30) 5
noncomputable abbrev vC:Stmt:=top 35
noncomputable abbrev At:Stmt:=top 36
noncomputable abbrev Au:Stmt:=top 34
noncomputable abbrev Av:Stmt:=top 13
noncomputable abbrev Aw:Stmt:=top 15
noncomputable abbrev Ax:Stmt:=top 16
noncomputable abbrev Ay:Stmt:=top 43
noncomputable abbrev Az:Stmt:=YK (top 30) 12
noncomputable abbrev AA:Stmt:=YK (top 30) 8
noncomputable abbrev AB:Stmt:=top 42
noncomputable abbrev AC:Stmt:=top 14
noncomputable abbrev vD:Stmt:=top 41
noncomputable abbrev vE:Stmt:=top 39
noncomputable abbrev AD:Stmt:=top 37
noncomputable abbrev AE:Stmt:=top 45
noncomputable abbrev sr:Stmt:=top 44
noncomputable abbrev AF:Stmt:=top 40
noncomputable abbrev AG:Stmt:=top 49
noncomputable abbrev vF:Stmt:=top 50
noncomputable abbrev vG:Stmt:=top 23
noncomputable abbrev vH:Stmt:=YK (top 51) 2
noncomputable abbrev AH:Stmt:=YK (top 51) 4
noncomputable abbrev AI:Stmt:=YK (top 51) 3
noncomputable abbrev vI:Stmt:=YK (top 51) 1
noncomputable abbrev vJ:Stmt:=YK (top 30) 9
noncomputable abbrev vK:Stmt:=top 21
noncomputable abbrev vL:Stmt:=YK (top 30) 10
noncomputable abbrev vM:Stmt:=top 22
noncomputable abbrev vN:Stmt:=top 52
noncomputable abbrev qk:Stmt:=YK (top 51) 0
noncomputable abbrev AJ:Stmt:=top 48
noncomputable abbrev vO:Stmt:=top 55
noncomputable abbrev AK:Stmt:=top 31
noncomputable abbrev AL:Stmt:=top 56
noncomputable abbrev vP:Stmt:=top 54
noncomputable abbrev AM:Stmt:=top 57
noncomputable abbrev AN:Stmt:=top 67
noncomputable abbrev AO:Stmt:=top 66
noncomputable abbrev ql:Stmt:=top 68
noncomputable abbrev AQ:Stmt:=top 61
noncomputable abbrev AR:Stmt:=top 62
noncomputable abbrev AS:Stmt:=top 70
noncomputable abbrev vQ:Stmt:=top 69
noncomputable abbrev AT:Stmt:=top 71
noncomputable abbrev AU:Stmt:=top 72
noncomputable abbrev AV:Stmt:=top 73
noncomputable abbrev vR:Stmt:=top 74
theorem AW:Zs ["_law_cell_here","_law_way","_law_first"] ["_law_cell_here","_law_way"] (cR Ae):=scI
theorem AX:Zs ["_law_one","_law_other"] ["_law_one","_law_other"] (cR Af):=scI
theorem He:Zs ["_law_script","_law_k"] ["_law_script","_law_k"] (cR Ag):=scI
theorem g0:Zs ["_law_script","_law_at","_law_many","_law_belts","_law_most","_law_great","_law_rates","_law_both","_law_rate","_law_lines","_law_k","_law_cell_here","_law_draw","_law_one","_law_other","_law_scale","_law_give","_law_take","_law_start"] ["_law_script","_law_at","_law_many","_law_belts","_law_most","_law_great"] (cR so):=scI
theorem Hf:Zs ["thing"] ["thing"] (cR vB):=scI
theorem AY:Zs ["self","name","number"] ["self","name"] (cR Ah):=scI
theorem Hg:Zs ["thing"] ["thing"] (cR Ai):=scI
theorem Hh:Zs ["thing","least"] ["thing","least"] (cR Aj):=scI
theorem Hi:Zs ["start"] ["start"] (cR Ak):=scI
theorem Hj:Zs ["thing","bound"] ["thing","bound"] (cR Al):=scI
theorem Hk:Zs ["self","work"] ["self","work"] (cR Am):=scI
theorem Hl:Zs ["self","row"] ["self","row"] (cR An):=scI
theorem Hm:Zs ["self","giver","taker","give","take","start"] ["self","giver","taker","give","take","start"] (cR Ao):=scI
theorem Hn:Zs ["self"] ["self"] (cR Ap):=scI
theorem qm:Zs ["_law_many","_law_lines","_law_letters","_law_hall","_law_k","_law_line"] ["_law_many","_law_lines"] (cR Aq):=scI
theorem Ho:Zs ["self"] ["self"] (cR Ar):=scI
theorem Hq:Zs ["self"] ["self"] (cR As):=scI
theorem ss:Zs ["hall","ways","belt","row"] ["hall"] (cR vC):=scI
theorem lP:Zs ["ways","first","tree","reached","done","work","other","belt","along"] ["ways","first"] (cR At):=scI
theorem oK:Zs ["hall","ways","seen","forest","work","tree"] ["hall"] (cR Au):=scI
theorem su:Zs ["one","other","rest"] ["one","other"] (cR Av):=scI
theorem AZ:Zs ["top","bottom","common"] ["top","bottom"] (cR Aw):=scI
theorem Hr:Zs ["one","other"] ["one","other"] (cR Ax):=scI
theorem Hs:Zs ["row","along"] ["row","along"] (cR Ay):=scI
theorem Ht:Zs ["self","belt"] ["self","belt"] (cR Az):=scI
theorem Hu:Zs ["self","belt"] ["self","belt"] (cR AA):=scI
theorem sv:Zs ["hall","tree","shares","work","step"] ["hall","tree"] (cR AB):=scI
theorem Hv:Zs ["one","other"] ["one","other"] (cR AC):=scI
theorem lQ:Zs ["hall","forest","rates","tree","shares","common","share","work"] ["hall","forest"] (cR vD):=scI
theorem Hw:Zs ["hall","counts"] ["hall","counts"] (cR vE):=scI
theorem sw:Zs ["tree","work","way","step"] ["tree","work"] (cR AD):=scI
theorem vS:Zs ["one","other","shared"] ["one","other"] (cR AE):=scI
theorem nK:Zs ["hall","forest","belt","row","tree","to_giver","to_taker","shared","back"] ["hall","forest","belt"] (cR sr):=scI
theorem qn:Zs ["hall","forest","rates","belt","change"] ["hall"] (cR AF):=scI
theorem A0:Zs ["hall","rates"] ["hall"] (cR AG):=scI
theorem Hx:Zs ["hall"] ["hall"] (cR vF):=scI
theorem Hy:Zs ["heaps","takes"] ["heaps","takes"] (cR vG):=scI
theorem kk:Zs ["self","starts","heaps","left","able","row","work","belt","take","give","other"] ["self","starts"] (cR vH):=scI
theorem qo:Zs ["self","starts","counts","waits","belt","row","lying"] ["self","starts","counts"] (cR AH):=scI
theorem oL:Zs ["self","starts","counts","waits","places","way","work"] ["self","starts","counts"] (cR AI):=scI
theorem vT:Zs ["self","starts","row","counts"] ["self","starts"] (cR vI):=scI
theorem Hz:Zs ["self","work"] ["self","work"] (cR vJ):=scI
theorem HA:Zs ["hall","work"] ["hall","work"] (cR vK):=scI
theorem HB:Zs ["self","work"] ["self","work"] (cR vL):=scI
theorem HC:Zs ["hall","work"] ["hall","work"] (cR vM):=scI
theorem HD:Zs ["hall","work"] ["hall","work"] (cR vN):=scI
theorem HE:Zs ["self","hall","turns"] ["self","hall","turns"] (cR qk):=scI
theorem HF:Zs ["hall"] ["hall"] (cR AJ):=scI
theorem A1:Zs ["hall","rooms","starts"] ["hall","rooms"] (cR vO):=scI
theorem sx:Zs ["names","rows","hall","name","row"] ["names","rows"] (cR AK):=scI
theorem HG:Zs ["row","room"] ["row","room"] (cR AL):=scI
theorem A2:Zs ["hall","rooms","belts"] ["hall","rooms"] (cR vP):=scI
theorem HH:Zs ["hall","rooms"] ["hall","rooms"] (cR AM):=scI
theorem sy:Zs ["_law_lines","_law_lying","_law_work","_law_behind","_law_k","_law_line"] ["_law_lines","_law_lying","_law_work"] (cR AN):=scI
theorem vU:Zs ["_law_lines","_law_lying","_law_rooms","_law_work","_law_k","_law_line"] ["_law_lines","_law_lying","_law_rooms","_law_work"] (cR AO):=scI
theorem oM:Zs ["_law_lines","_law_rates","_law_rooms","_law_lying","_law_counts","_law_row","_law_some"] ["_law_lines","_law_rates","_law_rooms"] (cR ql):=scI
theorem HI:Zs ["_law_found"] ["_law_found"] (cR AQ):=scI
theorem A3:Zs ["_law_found","_law_due","_law_k"] ["_law_found","_law_due"] (cR AR):=scI
theorem nL:Zs ["_law_ring","_law_lines","_law_counts","_law_rates","_law_k","_law_giver","_law_taker","_law_give","_law_take","_law_start"] ["_law_ring","_law_lines","_law_counts","_law_rates"] (cR AS):=scI
theorem A4:Zs ["_law_lines","_law_rooms","_law_back"] ["_law_lines","_law_rooms"] (cR vQ):=scI
theorem sA:Zs ["_law_found","_law_lines","_law_rates","_law_rooms","_law_row","_law_counts","_law_stop"] ["_law_found","_law_lines","_law_rates","_law_rooms"] (cR AT):=scI
theorem vV:Zs ["_law_hall","_law_rooms","e","_law_told"] ["_law_hall","_law_rooms"] (cR AU):=scI
theorem nM:Zs ["_law_draw","_law_far","_law_lines","_law_hall","_law_due"] ["_law_draw"] (cR AV):=scI
theorem gN:Zs ["_law_script","_law_draw","_law_many","_law_rates","_law_lines","_law_more","_law_others","_law_rooms","_law_k","_law_line","_law_cell_here","_law_least","_law_both","_law_hall","_law_handed","_law_found"] ["_law_script"] (cR vR):=scI
set_option genInjectivity false
set_option genSizeOf false
set_option genSizeOfSpec false
set_option genInjectivity false in
set_option genSizeOf false in
structure Tp(K:Frag)(mg:Str→Option Value) where
 {A:Addr}
 a2:mg "Hall" =some (.ref A)
 a:Cls K A
 e:Vz K A ["numbers","rows"]
 {b:Addr}
 a3:mg "Course" =some (.ref b)
 i:Cls K b
 p:Vz K b ["turns","rows","takes","gives","touched"]
 x0:Dn K mg "_law_mix" "_law_mix" Ae ["_law_cell_here","_law_way"]
 x1:Dn K mg "_law_common" "_law_common" Af ["_law_one","_law_other"]
 x2:Dn K mg "_law_cell" "_law_cell" Ag ["_law_script","_law_k"]
 x3:Dn K mg "_law_balanced" "_law_balanced" so ["_law_script","_law_at","_law_many","_law_belts","_law_most","_law_great"]
 x4:Dn K mg "is_name" "is_name" vB ["thing"]
 x5:Dm K A "work" "Hall.work" Ah ["self","name"]
 x6:Dn K mg "is_whole" "is_whole" Ai ["thing"]
 x7:Dn K mg "is_from" "is_from" Aj ["thing","least"]
 x8:Dn K mg "need_start" "need_start" Ak ["start"]
 x9:Dn K mg "is_number_below" "is_number_below" Al ["thing","bound"]
 a4:Dm K A "need_work" "Hall.need_work" Am ["self","work"]
 bl:Dm K A "lay" "Hall.lay" An ["self","row"]
 {O:Addr}
 {P:FuncData}
 {eY:Addr}
 {vW:Tok}
 aA:Zev K A "belt" O
 aB:ZiR K "belt" "Hall.belt" Ao eY O P
 cF:∃fX et n sl,K.lookup eY=some ⟨fX,et,.seq #[.int 0 vW] n,sl⟩
 aC:Wh K P ["self","giver","taker","give","take","start"] []
 iq:Wh K P ["self","giver","taker","give","take","start"] [.int 0 vW]
 oN:cZ [.int 0] [.int 0 vW]
 bm:Di K A "Hall.__init__" Ap ["self"]
 bn:Dn K mg "_law_made" "_law_made" Aq ["_law_many","_law_lines"]
 aO:Dm K A "belts" "Hall.belts" Ar ["self"]
 bd:Dm K A "names" "Hall.names" As ["self"]
 bG:Dn K mg "ways_of" "ways_of" vC ["hall"]
 bH:Dn K mg "tree_from" "tree_from" At ["ways","first"]
 bI:Dn K mg "forest_of" "forest_of" Au ["hall"]
 bo:Dn K mg "divisor" "divisor" Av ["one","other"]
 be:Dn K mg "ratio" "ratio" Aw ["top","bottom"]
 bJ:Dn K mg "times" "times" Ax ["one","other"]
 bK:Dn K mg "gain" "gain" Ay ["row","along"]
 bL:Dm K A "need_belt" "Hall.need_belt" Az ["self","belt"]
 aU:Dm K A "belt_at" "Hall.belt_at" AA ["self","belt"]
 bM:Dn K mg "shares_of" "shares_of" AB ["hall","tree"]
 bN:Dn K mg "multiple" "multiple" AC ["one","other"]
 bO:Dn K mg "rates_by" "rates_by" vD ["hall","forest"]
 bP:Dn K mg "change_of" "change_of" vE ["hall","counts"]
 bp:Dn K mg "way_to" "way_to" AD ["tree","work"]
 bQ:Dn K mg "shared_steps" "shared_steps" AE ["one","other"]
 bR:Dn K mg "ring_through" "ring_through" sr ["hall","forest","belt"]
 bS:Dn K mg "rates_of" "rates_of" AF ["hall"]
 bq:Dn K mg "round_rates" "round_rates" AG ["hall"]
 br:Dn K mg "starts_of" "starts_of" vF ["hall"]
 bs:Dn K mg "enough" "enough" vG ["heaps","takes"]
 bT:Dm K b "row_from" "Course.row_from" vH ["self","starts"]
 bU:Dm K b "waits_behind" "Course.waits_behind" AH ["self","starts","counts"]
 bV:Dm K b "ring_behind" "Course.ring_behind" AI ["self","starts","counts"]
 bW:Dm K b "told_from" "Course.told_from" vI ["self","starts"]
 bX:Dm K A "entering" "Hall.entering" vJ ["self","work"]
 bY:Dn K mg "takes_of" "takes_of" vK ["hall","work"]
 bt:Dm K A "leaving" "Hall.leaving" vL ["self","work"]
 bZ:Dn K mg "gives_of" "gives_of" vM ["hall","work"]
 b0:Dn K mg "touched_by" "touched_by" vN ["hall","work"]
 b1:Di K b "Course.__init__" qk ["self","hall","turns"]
 b2:Dn K mg "round_of" "round_of" AJ ["hall"]
 b3:Dn K mg "need_rooms" "need_rooms" vO ["hall","rooms"]
 b4:Dn K mg "hall_of" "hall_of" AK ["names","rows"]
 b5:Dn K mg "back_of" "back_of" AL ["row","room"]
 b6:Dn K mg "backed" "backed" vP ["hall","rooms"]
 bu:Dn K mg "fitting" "fitting" AM ["hall","rooms"]
 b7:Dn K mg "_law_turn" "_law_turn" AN ["_law_lines","_law_lying","_law_work"]
 b8:Dn K mg "_law_ready" "_law_ready" AO ["_law_lines","_law_lying","_law_rooms","_law_work"]
 b9:Dn K mg "_law_go" "_law_go" ql ["_law_lines","_law_rates","_law_rooms"]
 bv:Dn K mg "_law_whole" "_law_whole" AQ ["_law_found"]
 bw:Dn K mg "_law_same_row" "_law_same_row" AR ["_law_found","_law_due"]
 ca:Dn K mg "_law_ring_good" "_law_ring_good" AS ["_law_ring","_law_lines","_law_counts","_law_rates"]
 cb:Dn K mg "_law_with_back" "_law_with_back" vQ ["_law_lines","_law_rooms"]
 cc:Dn K mg "_law_answered" "_law_answered" AT ["_law_found","_law_lines","_law_rates","_law_rooms"]
 bx:Dn K mg "_law_refused" "_law_refused" AU ["_law_hall","_law_rooms"]
 cd:Dn K mg "_law_refusals_good" "_law_refusals_good" AV ["_law_draw"]
 bz:Dn K mg "law" "law" vR ["_law_script"]
 al:mg "ValueError" =none
 a0:mg "all" =none
 a8:mg "bool" =none
 h:mg "enumerate" =none
 bg:mg "int" =none
 c:mg "isinstance" =none
 f:mg "len" =none
 q:mg "list" =none
 ce:mg "max" =none
 bh:mg "min" =none
 k:mg "range" =none
 aP:mg "reversed" =none
 bi:mg "set" =none
 a9:mg "sorted" =none
 cf:mg "str" =none
 bj:mg "sum" =none
 au:mg "tuple" =none
 a1:mg "zip" =none
 {jL:Addr}
 aD:Ex K mg "RateError" jL
 {ba:Addr}
 aE:Ex K mg "NoName" ba
 {bf:Addr}
 aT:Ex K mg "Twice" bf
 {am:Addr}
 F:Ex K mg "TooMuch" am
 {J:Addr}
 aF:Ex K mg "NoWork" J
 {aG:Addr}
 aH:Ex K mg "NoBelt" aG
 {aI:Addr}
 L:Ex K mg "NoRate" aI
 {g:Addr}
 w:Ex K mg "NotBalanced" g
 {j:Addr}
 N:Ex K mg "TooLong" j
 {l:Addr}
 E:Ex K mg "NoRoom" l
 Q:exmOne K (.ref jL) (.ref jL)=some true
 Ro:exmOne K (.ref ba) (.ref jL)=some true
 an:exmOne K (.ref bf) (.ref jL)=some true
 aa:exmOne K (.ref am) (.ref jL)=some true
 Rp:exmOne K (.ref J) (.ref jL)=some true
 Rq:exmOne K (.ref aG) (.ref jL)=some true
 Rr:exmOne K (.ref aI) (.ref jL)=some true
 r:exmOne K (.ref g) (.ref jL)=some true
 B:exmOne K (.ref j) (.ref jL)=some true
 D:exmOne K (.ref l) (.ref jL)=some true
 Rs:YU K ba
 Rt:YU K bf
 bk:YU K am
 Ru:YU K J
 Rv:YU K aG
 Rw:YU K aI
 S:YU K g
 aQ:YU K j
 aV:YU K l
 T:PySem.W.kitOne K (.ref ba) (.ref g)=some false
 Rx:PySem.W.kitOne K (.ref ba) (.ref j)=some false
 Ry:PySem.W.kitOne K (.ref ba) (.ref l)=some false
 ab:PySem.W.kitOne K (.ref ba) (.type "ValueError")=some true
 ac:PySem.W.kitOne K (.ref bf) (.ref g)=some false
 Rz:PySem.W.kitOne K (.ref bf) (.ref j)=some false
 RA:PySem.W.kitOne K (.ref bf) (.ref l)=some false
 RB:PySem.W.kitOne K (.ref bf) (.type "ValueError")=some true
 R:PySem.W.kitOne K (.ref am) (.ref g)=some false
 RC:PySem.W.kitOne K (.ref am) (.ref j)=some false
 RD:PySem.W.kitOne K (.ref am) (.ref l)=some false
 U:PySem.W.kitOne K (.ref am) (.type "ValueError")=some true
 V:PySem.W.kitOne K (.ref J) (.ref g)=some false
 RE:PySem.W.kitOne K (.ref J) (.ref j)=some false
 RF:PySem.W.kitOne K (.ref J) (.ref l)=some false
 ad:PySem.W.kitOne K (.ref J) (.type "ValueError")=some true
 X:PySem.W.kitOne K (.ref aG) (.ref g)=some false
 RG:PySem.W.kitOne K (.ref aG) (.ref j)=some false
 RH:PySem.W.kitOne K (.ref aG) (.ref l)=some false
 RI:PySem.W.kitOne K (.ref aG) (.type "ValueError")=some true
 Y:PySem.W.kitOne K (.ref aI) (.ref g)=some false
 RJ:PySem.W.kitOne K (.ref aI) (.ref j)=some false
 RK:PySem.W.kitOne K (.ref aI) (.ref l)=some false
 RL:PySem.W.kitOne K (.ref aI) (.type "ValueError")=some true
 m:PySem.W.kitOne K (.ref g) (.ref g)=some true
 t:PySem.W.kitOne K (.ref g) (.ref j)=some false
 x:PySem.W.kitOne K (.ref g) (.ref l)=some false
 o:PySem.W.kitOne K (.ref g) (.type "ValueError")=some true
 u:PySem.W.kitOne K (.ref j) (.ref g)=some false
 G:PySem.W.kitOne K (.ref j) (.ref j)=some true
 H:PySem.W.kitOne K (.ref j) (.ref l)=some false
 y:PySem.W.kitOne K (.ref j) (.type "ValueError")=some true
 z:PySem.W.kitOne K (.ref l) (.ref g)=some false
 I:PySem.W.kitOne K (.ref l) (.ref j)=some false
 M:PySem.W.kitOne K (.ref l) (.ref l)=some true
 C:PySem.W.kitOne K (.ref l) (.type "ValueError")=some true
 {HJ:Tok}
 Z:mg "MOST_LETTERS" =some (.int 8 HJ)
 {HK:Tok}
 ap:mg "MOST_WORKS" =some (.int 30 HK)
 {HL:Tok}
 aq:mg "MOST_BELTS" =some (.int 60 HL)
 {HN:Tok}
 ar:mg "MOST_TURNS" =some (.int 400 HN)
 bE:∀(s:Shared)(v:Value),BindsTo s bz.d ⟨[v],[]⟩ [("_law_script",v)]
set_option genInjectivity true
set_option genSizeOf true
set_option genSizeOfSpec true
theorem A5{a b:Int}(aZ:0≤a)(ag:0<b):My.G b (a % b)=My.G a b:=by
 rw[←qbW _ (Int.le_of_lt ag)];exact My.Znh aZ ag
theorem ZpD{k:Nat}{x:Int}(h:My.S k x)(aR:k≤2):x.natAbs.log2<9000:=by
 by_cases c8:x.natAbs=0
 ·rw[c8];decide+kernel
 ·have e:x.natAbs=x.toNat:=by have:=h.lo;omega
  have l:=(Nat.log2_lt c8).mpr (by rw[e];exact(h.mono aR).hi);omega
def ZlI(K:Frag):Sp:=λvs H Q _=>∃(a:Addr)(ns:List Int),vs=[.ref a]∧SqL K H a (ns.map V.int)∧ns.length≤63∧∀H',Q (.bl true) H'
def HP{K:Frag}{mg:Str→Option Value}(T:Tp K mg):Sp:=ZlI K
noncomputable def i7 (x:Str):Bool:=decide (1≤x.length)&&decide (x.length≤8)&&x.cps.toList.all λc=>decide (97≤c)&&decide (c≤122)
structure B5 where
 giver:Int
 taker:Int
 give:Int
 take:Int
 start:Int
noncomputable def B5.v (b:B5):List V:=[.int b.giver,.int b.taker,.int b.give,.int b.take,.int b.start]
noncomputable def B5.d (b:B5):PyData:= .tuple [.int b.giver,.int b.taker,.int b.give,.int b.take,.int b.start]
structure HM where
 names:List Str
 belts:List B5
noncomputable def d7 (H:Hp):List V→List B5→Prop:=Paired λv b=>∃t,v= .ref t∧H t=some (.tup b.v)
noncomputable def numsOf (ns:List Str):List (Key×V):=ns.zipIdx.map λp=>(Sum.inr p.1,V.int p.2)
theorem US(ns:List Str):(numsOf ns).length=ns.length:=by unfold numsOf;simp
theorem HQ(ns:List Str)(x:Str):numsOf (ns++ [x])=numsOf ns++ [(Sum.inr x,.int ns.length)]:=by
 unfold numsOf;rw[List.zipIdx_append];simp
theorem ZcC(ns:List Str):((numsOf ns).map λkv=>kV kv.1)=ns.map V.str:=by
 unfold numsOf;rw[qbz];have:((λkv:Key×V=>kV kv.1)∘λp:Str×Nat=>((Sum.inr p.1:Key),V.int p.2))=(V.str∘λp:Str×Nat=>p.1):=rfl;rw[this,←qbz,List.zipIdx_map_fst]
theorem ZeL(ns:List Str)(x:Str):(valV (numsOf ns) (Sum.inr x)).isSome=decide (x∈ns):=by
 rw[←WV];rw[qbn,qch,decide_eq_true_eq];have e:x∈ns↔V.str x∈ns.map V.str:=by
  constructor
  ·exact List.mem_map_of_mem
  ·intro h;obtain⟨y,a',e⟩:=qah.mp h;cases e;exact a'
 rw[e,←ZcC,qah]
 constructor
 ·rintro⟨p,aS,h⟩;exact⟨p,aS,by rw[of_decide_eq_true h];rfl⟩
 ·rintro⟨p,aS,h⟩;exact⟨p,aS,decide_eq_true (Fc h)⟩
theorem HR{ns:List Str}{x:Str}(h:x∉ns):valV (numsOf ns) (Sum.inr x)=none:=by
 have:=ZeL ns x;rw[decide_eq_false h] at this;cases e:valV (numsOf ns) (Sum.inr x) with
 |none=>rfl
 |some v=>rw[e] at this;cases this
theorem HS{ns:List Str}{x:Str}(h:x∉ns):eF (numsOf ns) (Sum.inr x) (.int ns.length)=numsOf (ns++ [x]):=by
 rw[Vs _ (HR h),HQ]
def dD{K:Frag}{mg:Str→Option Value}(T:Tp K mg)(H:Hp)(p:Addr)(af:HM)(fp:List Addr):Prop:=
 ∃(aY a b:Addr)(bs:List V),fp=[p,aY,a,b]∧H p=some (.ins T.A aY [("numbers",.ref a),("rows",.ref b)])∧H aY=some (.own p)∧H a=some (.dK (numsOf af.names))∧H b=some (.lst bs)∧a≠b∧d7 H bs af.belts
theorem d7.keep{H H':Hp}(t:∀b xs,H b=some (.tup xs)→H' b=some (.tup xs)):∀{bs:List V}{ls:List B5},d7 H bs ls→d7 H' bs ls
 |_,_,.nil=> .nil
 |_,_,.cons ⟨a,e,h⟩ r=> .cons ⟨a,e,t _ _ h⟩ (d7.keep t r)
theorem d7.length{H:Hp}{bs:List V}{ls:List B5}(h:d7 H bs ls):bs.length=ls.length:=Paired.length h
theorem d7.snoc{H:Hp}:∀{bs:List V}{ls:List B5}{t:Addr}{b:B5},d7 H bs ls→H t=some (.tup b.v)→d7 H (bs++ [.ref t]) (ls++ [b])
 |_,_,_,_,.nil,h=> .cons ⟨_,rfl,h⟩ .nil
 |_,_,_,_,.cons x r,h=> .cons x (d7.snoc r h)
theorem d7.at{H:Hp}:∀{bs:List V}{ls:List B5}{i:Nat}{b:B5},d7 H bs ls→ls[i]? =some b→∃t,bs[i]? =some (.ref t)∧H t=some (.tup b.v)
 |_,_,_,_,.nil,e=>by simp at e
 |_,_,0,_,.cons ⟨t,aW,h⟩ _,e=>by simp at e;subst e;exact⟨t,by simp[aW],h⟩
 |_,_,i+1,b,.cons _ r,e=>by
  obtain⟨t,ai,aw⟩:=d7.at (i:=i) (b:=b) r (by simpa using e);exact⟨t,by simpa using ai,aw⟩
section
variable {K:Frag}{mg:Str→Option Value}{T:Tp K mg}{H H':Hp}{p:Addr}{af:HM}{fp:List Addr}
theorem dD.dom(h:dD T H p af fp):∀x∈fp,H x≠none:=by
 obtain⟨aY,a,b,bs,rfl,ai,aw,cC,c3,_⟩:=h;intro x ao;simp only[qaf,qaF,or_false] at ao;rcases ao with rfl|rfl|rfl|rfl
 ·rw[ai];simp
 ·rw[aw];simp
 ·rw[cC];simp
 ·rw[c3];simp
theorem dD.keep(h:dD T H p af fp)(k:∀x∈fp,H' x=H x)(t:∀b xs,H b=some (.tup xs)→H' b=some (.tup xs)):dD T H' p af fp:=by
 obtain⟨aY,a,b,bs,rfl,ai,aw,cC,c3,eE,dS⟩:=h;exact⟨aY,a,b,bs,rfl,(k p (by simp)).trans ai,(k aY (by simp)).trans aw,(k a (by simp)).trans cC,(k b (by simp)).trans c3,eE,dS.keep t⟩
theorem dD.off{A:List Addr}(h:dD T H p af fp)(f:eb A H H')(d:∀x∈fp,x∉A):dD T H' p af fp:=by
 refine h.keep (λx ao=>?_) f.tups;cases q:H x with
 |none=>exact absurd q (h.dom x ao)
 |some o=>exact f.keep x o q (d x ao)
theorem Zkl{m:Str}{G:Prop}(h:dD T H p af fp)(iz:(m== "numbers")=false)(ii:(m== "rows")=false)(q:G):∃a aY fs,V.ref p= .ref a∧H a=some (.ins T.A aY fs)∧fs.lookup m=none∧G:=by
 obtain⟨aY,a,b,bs,rfl,ai,_⟩:=h;exact⟨p,aY,_,rfl,ai,Rd.lk1 iz (Rd.lk1 ii Rd.lkN),q⟩
theorem dD.same(h:dD T H p af fp)(e:Zf H H'):dD T H' p af fp:=h.off (A:=[]) e.frame (by simp)
end
noncomputable def dB:B5:=⟨0,0,0,0,0⟩
noncomputable def eZ (ls:List B5) (w:Int):List Nat:=(List.range ls.length).filter λi=>decide ((ls.getD i dB).taker=w)
noncomputable def ek (ls:List B5) (w:Int):List Nat:=(List.range ls.length).filter λi=>decide ((ls.getD i dB).giver=w)
theorem d7.getD{H:Hp}{bs:List V}{ls:List B5}{i:Nat}(h:d7 H bs ls)(hi:i<ls.length):∃t,bs.getD i .non= .ref t∧H t=some (.tup (ls.getD i dB).v):=by
 obtain⟨t,ai,aw⟩:=h.at (GT hi);exact⟨t,by simp[List.getD,ai],by simpa[List.getD,hi] using aw⟩
theorem HV(b:B5):b.d.canLay0=true:=by simp[B5.d,PyData.canLay0,PyData.canLayAll0]
theorem ZkA(b:B5):b.d.depth≤2:=by simp[B5.d,PyData.depth,PyData.depthAll]
theorem A6:∀ls:List B5,PyData.canLayAll0 (ls.map B5.d)=true
 | []=>by simp[PyData.canLayAll0]
 |b::ls=>by
  have:=A6 ls;simp only[List.map_cons,PyData.canLayAll0,HV b,qck];exact this
theorem vX(ls:List B5):(PyData.list (ls.map B5.d)).canLay0=true:=by
 have:=A6 ls;simp[PyData.canLay0];simpa using this
theorem A7:∀ls:List B5,PyData.depthAll (ls.map B5.d)≤3
 | []=>by simp[PyData.depthAll]
 |b::ls=>by
  have ai:=A7 ls;have aw:=ZkA b;simp only[List.map_cons,PyData.depthAll];omega
theorem HW(ls:List B5):(PyData.list (ls.map B5.d)).depth≤60:=by
 have:=A7 ls;simp only[PyData.depth];omega
theorem HX{K:Frag}{H:Hp}{t:Addr}{b:B5}(h:H t=some (.tup b.v)):fT K H (.ref t) b.d:= .tup (.of h) (.cons (.int _) (.cons (.int _) (.cons (.int _) (.cons (.int _) (.cons (.int _) .nil)))))
theorem vY{K:Frag}{H:Hp}:∀{bs:List V}{ls:List B5},d7 H bs ls→DRels K H bs (ls.map B5.d)
 |_,_,.nil=> .nil
 |_,_,.cons ⟨t,e,h⟩ r=>by rw[e];exact .cons (HX h) (vY r)
theorem Zoy{K:Frag}{H:Hp}{Q:VK}{p q:Addr}{bs cs:List V}{ls:List B5}(ai:SqL K H p bs)(iN:d7 H bs ls)(aw:SqL K H q cs)(dG:d7 H cs ls)(k:Q (.bl false) H):rOr rNe (kN K true) (.ref p) (.ref q) H Q:=
 Rd.ZmR (.lst ai (vY iN)) (.lst aw (vY dG)) (vX ls) (vX ls) (HW ls) (by rw[SeqAt.eqv_refl _ (vX ls)];exact k)
theorem Z1{ns:List Int}{k:Int}(c8:0≤k)(ai:k<ns.length):atI (ns.map V.int) k=some (.int (ns.getD k.toNat 0)):=by
 obtain⟨n,rfl⟩:=qbD c8;have bA:n<ns.length:=by omega
 refine gS ?_;simp[List.getD,bA]
theorem vZ{n:Nat}(h:n≤10000):n<sizeLine:=qav h (by decide)
noncomputable def nN (ls:List B5) (i:Nat) (w:Int):List Fo.Trip:=(if(ls.getD i dB).giver=w then[((ls.getD i dB).taker,(i:Int),true)] else[])++(if(ls.getD i dB).taker=w then[((ls.getD i dB).giver,(i:Int),false)] else[])
noncomputable def kl (ls:List B5) (k:Nat) (w:Int):List Fo.Trip:=(List.range k).flatMap λi=>nN ls i w
noncomputable def fb (ls:List B5):Int→List Fo.Trip:=kl ls ls.length
theorem ZgW(ls:List B5)(k:Nat)(w:Int):kl ls (k+1) w=kl ls k w++nN ls k w:=by
 unfold kl;rw[qb3,List.flatMap_append];simp
theorem qp{db:Type}{xs:List db}(nd:xs.Nodup){i j:Nat}(hi:i<xs.length)(aJ:j<xs.length)(e:xs[i]=xs[j]):i=j:=by
 rcases Nat.lt_trichotomy i j with h|h|h
 ·exact absurd e (qbv.mp nd i j hi aJ h)
 ·exact h
 ·exact absurd e.symm (qbv.mp nd j i aJ hi h)
theorem eG{H H':Hp}{x:Addr}(s:Zf H H')(h:H' x=none):H x=none:=by
 cases e:H x with
 |none=>rfl
 |some o=>rw[s _ _ e] at h;cases h
theorem dm{db:Type}{xs:List db}{i:Nat}{d:db}(h:i<xs.length):xs.getD i d=xs[i]:=by simp[List.getD,h]
theorem Vu{ls:List B5}{w:Int}{t:Fo.Trip}(h:t∈fb ls w):∃(i:Nat)(hi:i<ls.length),t∈nN ls i w:=by
 unfold fb kl at h;obtain⟨i,hi,cu⟩:=List.mem_flatMap.mp h;exact⟨i,qaL.mp hi,cu⟩
theorem sB{ls:List B5}{w:Int}{t:Fo.Trip}{i:Nat}(hi:i<ls.length)(h:t∈nN ls i w):t∈fb ls w:=by
 unfold fb kl;exact List.mem_flatMap.mpr ⟨i,qaL.mpr hi,h⟩
theorem Y4{ls:List B5}{i:Nat}{w:Int}{t:Fo.Trip}:t∈nN ls i w↔((ls.getD i dB).giver=w∧t=((ls.getD i dB).taker,(i:Int),true))∨((ls.getD i dB).taker=w∧t=((ls.getD i dB).giver,(i:Int),false)):=by
 unfold nN;rw[qar]
 by_cases ai:(ls.getD i dB).giver=w<;>by_cases aw:(ls.getD i dB).taker=w<;>simp[ai,aw]
theorem sC(ls:List B5):Fo.Zll (fb ls):=by
 intro a b t al h;obtain⟨i,hi,cu⟩:=Vu h;refine sB hi ?_;rw[Y4] at cu⊢;rcases cu with⟨ai,aw⟩|⟨ai,aw⟩
 ·injection aw with aW a7
  injection a7 with a7 c_
  exact .inr ⟨aW.symm,by rw[←ai,a7,c_];rfl⟩
 ·injection aw with aW a7
  injection a7 with a7 c_
  exact .inl ⟨aW.symm,by rw[←ai,a7,c_];rfl⟩
def ZC(ls:List B5)(n:Nat):Prop:=∀b∈ls,0≤b.giver∧b.giver<(n:Int)∧0≤b.taker∧b.taker<(n:Int)
theorem ZC.at{ls:List B5}{n i:Nat}(h:ZC ls n)(hi:i<ls.length):0≤(ls.getD i dB).giver∧(ls.getD i dB).giver<(n:Int)∧0≤(ls.getD i dB).taker∧(ls.getD i dB).taker<(n:Int):=by
 rw[dm hi];exact h _ (fm hi)
theorem nO{ls:List B5}{n:Nat}(h:ZC ls n):∀a,∀t∈fb ls a,0≤t.1∧t.1<(n:Int):=by
 intro a t cu;obtain⟨i,hi,a6⟩:=Vu cu;have:=h.at hi;rw[Y4] at a6;rcases a6 with⟨_,rfl⟩|⟨_,rfl⟩<;>(dsimp only;omega)
noncomputable def i8 (H:Hp):List Fo.Trip→List V→Prop:=Paired λx v=>∃t,v= .ref t∧H t=some (.tup [.int x.1,.int x.2.1,.bl x.2.2])
theorem i8.keep{H H':Hp}(t:∀b xs,H b=some (.tup xs)→H' b=some (.tup xs)){vs:List V}{l:List Fo.Trip}(h:i8 H l vs):i8 H' l vs:=Paired.mapP h λ_ _ ⟨a,e,z⟩=>⟨a,e,t _ _ z⟩
theorem i8.snoc{H:Hp}:∀{l:List Fo.Trip}{vs:List V}{x:Fo.Trip}{t:Addr},i8 H l vs→H t=some (.tup [.int x.1,.int x.2.1,.bl x.2.2])→i8 H (l++ [x]) (vs++ [.ref t])
 |_,_,_,_,.nil,h=> .cons ⟨_,rfl,h⟩ .nil
 |_,_,_,_,.cons y r,h=> .cons y (i8.snoc r h)
theorem i8.length{H:Hp}{l:List Fo.Trip}{vs:List V}(h:i8 H l vs):l.length=vs.length:=Paired.length h
theorem i8.at{H:Hp}:∀{l:List Fo.Trip}{vs:List V}{i:Nat}{x:Fo.Trip},i8 H l vs→l[i]? =some x→∃t,vs[i]? =some (.ref t)∧H t=some (.tup [.int x.1,.int x.2.1,.bl x.2.2])
 |_,_,_,_,.nil,e=>by simp at e
 |_,_,0,_,.cons ⟨t,aW,h⟩ _,e=>by simp at e;subst e;exact⟨t,by simp[aW],h⟩
 |_,_,i+1,b,.cons _ r,e=>by
  obtain⟨t,ai,aw⟩:=i8.at (i:=i) (x:=b) r (by simpa using e);exact⟨t,by simpa using ai,aw⟩
def WA(H:Hp)(cN:List Addr)(W:Int→List Fo.Trip):Prop:=∀(j:Nat)(h:j<cN.length),∃vs,H cN[j]=some (.lst vs)∧i8 H (W (j:Int)) vs
theorem WA.same{H H':Hp}{cN:List Addr}{W:Int→List Fo.Trip}(h:WA H cN W)(s:Zf H H'):WA H' cN W:=λj aJ=>by
 obtain⟨vs,ai,aw⟩:=h j aJ;exact⟨vs,s _ _ ai,aw.keep λ_ _ e=>s _ _ e⟩
theorem WA.add{H:Hp}{cN:List Addr}{W:Int→List Fo.Trip}(h:WA H cN W)(nd:cN.Nodup){g:Nat}(aM:g<cN.length){vs:List V}(cn:H cN[g]=some (.lst vs))(cu:i8 H (W (g:Int)) vs){t:Addr}{x:Fo.Trip}(HY:H t=some (.tup [.int x.1,.int x.2.1,.bl x.2.2])):
  WA (upd H cN[g] (.lst (vs++ [.ref t]))) cN (λj=>W j++(if(g:Int)=j then[x] else[])):=by
 have gf:∀b xs,H b=some (.tup xs)→(upd H cN[g] (.lst (vs++ [.ref t]))) b=some (.tup xs):=λb xs e=>by rw[cq (ha e cn (by intro z;cases z))];exact e
 intro j aJ
 by_cases e:j=g
 ·subst e;refine⟨vs++ [.ref t],Ze,?_⟩;dsimp only;rw[if_pos rfl];exact(cu.keep gf).snoc (gf _ _ HY)
 ·obtain⟨us,ai,aw⟩:=h j aJ;have ne:cN[j]≠cN[g]:=λz=>e (qp nd aJ aM z);refine⟨us,by rw[cq ne];exact ai,?_⟩;dsimp only;rw[if_neg (by omega),qb2];exact aw.keep gf
structure Zce(H:Hp)(r:Addr)(cN:List Addr)(n:Nat)(W:Int→List Fo.Trip):Prop where
 at_:H r=some (.lst (cN.map V.ref))
 len:cN.length=n
 nd:cN.Nodup
 wa:WA H cN W
theorem Zce.same{H H':Hp}{r:Addr}{cN:List Addr}{n:Nat}{W:Int→List Fo.Trip}(h:Zce H r cN n W)(s:Zf H H'):Zce H' r cN n W:=⟨s _ _ h.at_,h.len,h.nd,h.wa.same s⟩
theorem ZeE{cN:List Addr}{g:Int}(c8:0≤g)(ai:g.toNat<cN.length):atI (cN.map V.ref) g=some (.ref cN[g.toNat]):=by
 have:=gS (xs:=cN.map V.ref) (j:=g.toNat) (v:= .ref cN[g.toNat]) (by simp[ai])
 rwa [qa6 c8] at this
noncomputable def mJ (H:Hp) (v:V):Option Fo.Trip→Prop
 |none=>v= .non
 |some (p,b,al)=>∃t,v= .ref t∧H t=some (.tup [.int p,.int b,.bl al])
theorem mJ.keep{H H':Hp}(t:∀b xs,H b=some (.tup xs)→H' b=some (.tup xs)){v:V}:∀{s:Option Fo.Trip},mJ H v s→mJ H' v s
 |none,h=>h
 |some (_,_,_),⟨a,e,z⟩=>⟨a,e,t _ _ z⟩
noncomputable def Ent (H:Hp):List (Key×V)→Fo.ZK→Prop:=Paired λkv x=>kv.1=Sum.inl x.1∧mJ H kv.2 x.2
theorem Ent.keep{H H':Hp}(t:∀b xs,H b=some (.tup xs)→H' b=some (.tup xs)){kvs:List (Key×V)}{aL:Fo.ZK}(h:Ent H kvs aL):Ent H' kvs aL:=Paired.mapP h λ_ _ ⟨a,z⟩=>⟨a,z.keep t⟩
theorem Ent.snoc{H:Hp}:∀{kvs:List (Key×V)}{aL:Fo.ZK}{w:Int}{v:V}{s:Option Fo.Trip},Ent H kvs aL→mJ H v s→Ent H (kvs++ [(Sum.inl w,v)]) (aL++ [(w,s)])
 |_,_,_,_,_,.nil,h=> .cons ⟨rfl,h⟩ .nil
 |_,_,_,_,_,.cons y r,h=> .cons y (Ent.snoc r h)
theorem Ent.length{H:Hp}{kvs:List (Key×V)}{aL:Fo.ZK}(h:Ent H kvs aL):kvs.length=aL.length:=Paired.length h
theorem Ent.keys{H:Hp}:∀{kvs:List (Key×V)}{aL:Fo.ZK},Ent H kvs aL→kvs.map (·.1)=(Fo.keys aL).map Sum.inl
 |_,_,.nil=>rfl
 |_,_,.cons ⟨a,_⟩ r=>by
  have:=Ent.keys r;unfold Fo.keys at this⊢;rw[List.map_cons,List.map_cons,List.map_cons,a,this]
theorem Ent.some{H:Hp}:∀{kvs:List (Key×V)}{aL:Fo.ZK}{w:Int},Ent H kvs aL→((valV kvs (Sum.inl w)).isSome=true↔w∈Fo.keys aL):=by
 intro kvs aL w h;rw[←WV,qch];have aR:=h.keys
 constructor
 ·rintro⟨kv,a6,e⟩;have aW:kv.1=Sum.inl w:=of_decide_eq_true e;have:kv.1∈kvs.map (·.1):=List.mem_map_of_mem a6;rw[aR,aW] at this;obtain⟨dC,qq,a7⟩:=qah.mp this;cases a7;exact qq
 ·intro hw;have:(Sum.inl w:Key)∈(Fo.keys aL).map Sum.inl:=List.mem_map_of_mem hw;rw[←aR] at this;obtain⟨kv,a6,e⟩:=qah.mp this;exact⟨kv,a6,decide_eq_true e⟩
def Vo(H:Hp)(d:Addr)(aL:Fo.ZK):Prop:=∃kvs,H d=some (.dK kvs)∧Ent H kvs aL
theorem Vo.same{H H':Hp}{d:Addr}{aL:Fo.ZK}(h:Vo H d aL)(s:Zf H H'):Vo H' d aL:=by
 obtain⟨kvs,ai,aw⟩:=h;exact⟨kvs,s _ _ ai,aw.keep λ_ _ e=>s _ _ e⟩
theorem A8:∀(more kvs:List (Key×V))(k:Key),(valV (gT kvs more) k).isSome=((valV kvs k).isSome||(valV more k).isSome)
 | [],kvs,k=>by
  show(valV kvs k).isSome=((valV kvs k).isSome||(valV ([]:List (Key×V)) k).isSome);have:valV ([]:List (Key×V)) k=none:=rfl;rw[this,Option.isSome_none,Bool.or_false]
 |(j,v)::r,kvs,k=>by
  show(valV (gT (eF kvs j v) r) k).isSome=_;rw[A8 r (eF kvs j v) k,ot]
  by_cases e:j=k
  ·subst e;rw[if_pos rfl,iZ rfl];simp
  ·rw[if_neg (λz=>e z.symm),i1 e]
theorem Paired.get'{db hb:Type}{P:db→hb→Prop}:∀{xs:List db}{ys:List hb}{i:Nat}{x:db},Paired P xs ys→xs[i]? =some x→∃y,ys[i]? =some y∧P x y
 |_,_,_,_,.nil,e=>by simp at e
 |_,_,0,_,.cons h _,e=>by simp at e;subst e;exact⟨_,rfl,h⟩
 |_,_,i+1,x,.cons _ r,e=>by
  obtain⟨y,ai,aw⟩:=Paired.get' (i:=i) (x:=x) r (by simpa using e);exact⟨y,by simpa using ai,aw⟩
noncomputable def hN (H:Hp):List Addr→List (Int×Fo.ZK)→Prop:=Paired λd x=>Vo H d x.2
theorem hN.same{H H':Hp}{cB:List Addr}{F:List (Int×Fo.ZK)}(h:hN H cB F)(s:Zf H H'):hN H' cB F:=Paired.mapP h λ_ _ z=>z.same s
theorem hN.snoc{H:Hp}:∀{cB:List Addr}{F:List (Int×Fo.ZK)}{d:Addr}{x:Int×Fo.ZK},hN H cB F→Vo H d x.2→hN H (cB++ [d]) (F++ [x])
 |_,_,_,_,.nil,h=> .cons h .nil
 |_,_,_,_,.cons y r,h=> .cons y (hN.snoc r h)
theorem hN.keep{H H':Hp}(t:∀b xs,H b=some (.tup xs)→H' b=some (.tup xs)):∀{cB:List Addr}{F:List (Int×Fo.ZK)},hN H cB F→(∀d∈cB,∀kvs,H d=some (.dK kvs)→H' d=some (.dK kvs))→hN H' cB F
 |_,_,.nil,_=> .nil
 |_,_,.cons ⟨kvs,ai,aw⟩ r,k=> .cons ⟨kvs,k _ (by simp) _ ai,aw.keep t⟩ (hN.keep t r λd hd=>k d (qas _ hd))
theorem hN.length{H:Hp}{cB:List Addr}{F:List (Int×Fo.ZK)}(h:hN H cB F):cB.length=F.length:=Paired.length h
structure Zlw(H:Hp)(f:Addr)(cB:List Addr)(F:List (Int×Fo.ZK)):Prop where
 at_:H f=some (.lst (cB.map V.ref))
 trees:hN H cB F
theorem ZlJ{n a:Nat}(h:a<2 ^ n):Builtin.Int.intBits (a:Int)≤n:=by
 unfold Builtin.Int.intBits
 split
 ·exact qaA _
 ·rename_i hz;have c8:(a:Int).natAbs≠0:=by
   intro e;apply hz;have:(a:Int)=0:=by omega
   rw[this]
   rfl
  have e:(a:Int).natAbs=a:=Int.natAbs_natCast a;have:=(Nat.log2_lt c8).mpr (by rw[e];exact h);omega
theorem V9{n m a b:Nat}(aZ:a<2 ^ n)(ag:b<2 ^ m)(h:n+m≤10000000):IntMulOk (a:Int) (b:Int):=by
 have b1:=ZlJ aZ;have b2:=ZlJ ag;have k:Builtin.Int.intTooBig ((Builtin.Int.intBits (a:Int):Int)+(Builtin.Int.intBits (b:Int):Int))=false:=by
  unfold Builtin.Int.intTooBig;rw[PySem.bitsLine_eq];exact decide_eq_false (by omega)
 unfold IntMulOk;rw[k];simp
theorem HZ{a:Nat}(h:a<2 ^ 8000):(a:Int).natAbs.log2<9000:=by
 rw[Int.natAbs_natCast]
 by_cases c8:a=0
 ·rw[c8];decide+kernel
 ·have:=(Nat.log2_lt c8).mpr h;omega
theorem Zf6{a b:Nat}(ag:0<b)(h:b<2 ^ 8000):0<(b:Int)∧(b:Int).natAbs.log2<9000:=⟨by omega,HZ h⟩
theorem qr{a b n m:Nat}(aZ:a<2 ^ n)(ag:b<2 ^ m):a*b<2 ^ (n+m):=by
 rw[Nat.pow_add];exact Nat.mul_lt_mul'' aZ ag
def Bal(B:B5)(al:Bool)(x y:Nat×Nat):Prop:=if al=true then x.1*y.2*B.take.toNat=y.1*x.2*B.give.toNat else x.1*y.2*B.give.toNat=y.1*x.2*B.take.toNat
structure i9(ls:List B5)(aL:Fo.ZK)(zs:List (Int×(Nat×Nat)))(d:Nat):Prop where
 keys:zs.map (·.1)=(Fo.keys aL).take d
 pos:∀x∈zs,0<x.2.1∧0<x.2.2∧Nat.gcd x.2.1 x.2.2=1
 size:∀(i:Nat) x,zs[i]? =some x→x.2.1<2 ^ (110*i+1)∧x.2.2<2 ^ (110*i+1)
 first:∀(i:Nat)(w:Int),i<d→aL[i]? =some (w,none)→zs[i]? =some (w,(1,1))
 step:∀(i:Nat)(w p b:Int)(al:Bool),i<d→aL[i]? =some (w,some (p,b,al))→∃(j:Nat)(x y:Nat×Nat),j<i∧zs[i]? =some (w,x)∧zs[j]? =some (p,y)∧Bal (ls.getD b.toNat dB) al x y
theorem H0{ls:List B5}{aL:Fo.ZK}:i9 ls aL [] 0:=⟨rfl,by simp,by simp,λi w h=>absurd h (qaH _),λi w p b al h=>absurd h (qaH _)⟩
theorem i9.len{ls:List B5}{aL:Fo.ZK}{zs:List (Int×(Nat×Nat))}{d:Nat}(h:i9 ls aL zs d)(hd:d≤aL.length):zs.length=d:=by
 have:=congrArg List.length h.keys;rw[GE,qaP] at this;simp[Fo.keys] at this;omega
theorem Zlk{db:Type}{zs:List db}{x y:db}{i:Nat}(h:(zs++ [x])[i]? =some y):zs[i]? =some y∨(i=zs.length∧y=x):=by
 rcases qaC i zs.length with c|c
 ·rw[qaB c] at h;exact .inl h
 ·rw[qaJ c] at h;have:i-zs.length=0:=by
   rcases qaU (i-zs.length) with z|z
   ·exact z
   ·rw[qaW (by simp;omega)] at h;cases h
  rw[this] at h;simp at h;exact .inr ⟨by omega,h.symm⟩
theorem sD{db:Type}{zs:List db}{x y:db}{i:Nat}(h:zs[i]? =some y):(zs++ [x])[i]? =some y:=by
 rw[qaB (GM.mp h).1];exact h
theorem Zdv{db:Type}{zs:List db}{x:db}:(zs++ [x])[zs.length]? =some x:=by rw[qaJ (FM _),Nat.sub_self];rfl
theorem i9.more{ls:List B5}{aL:Fo.ZK}{zs:List (Int×(Nat×Nat))}{d:Nat}(h:i9 ls aL zs d)(hd:d<aL.length){w:Int}{st:Option Fo.Trip}(e:aL[d]? =some (w,st)){x:Nat×Nat}(aS:0<x.1∧0<x.2∧Nat.gcd x.1 x.2=1)(hs:x.1<2 ^ (110*d+1)∧x.2<2 ^ (110*d+1))
  (bA:st=none→x=(1,1)) (dQ:∀p b al,st=some (p,b,al)→∃(j:Nat)(y:Nat×Nat),zs[j]? =some (p,y)∧Bal (ls.getD b.toNat dB) al x y):i9 ls aL (zs++ [(w,x)]) (d+1):=by
 have af:=h.len (qaX hd);have aR:(Fo.keys aL)[d]? =some w:=by unfold Fo.keys;rw[qaj,e];rfl
 refine⟨?_,λy a'=>?_,λi y a'=>?_,λi dC hi cx=>?_,λi dC p b al hi cx=>?_⟩
 ·rw[qaG,h.keys,List.take_succ,aR];rfl
 ·rcases qar.mp a' with z|z
  ·exact h.pos y z
  ·rw[qab.mp z];exact aS
 ·rcases Zlk a' with z|⟨fk,e0⟩
  ·exact h.size i y z
  ·rw[e0,fk,af];exact hs
 ·rcases qbm.mp hi with z|z
  ·exact sD (h.first i dC z cx)
  ·subst z;rw[e] at cx;cases cx;rw[bA rfl,←af];exact Zdv
 ·rcases qbm.mp hi with z|z
  ·obtain⟨j,iQ,lO,ai,aw,cC,c3⟩:=h.step i dC p b al z cx;exact⟨j,iQ,lO,ai,sD aw,sD cC,c3⟩
  ·subst z;rw[e] at cx;cases cx;obtain⟨j,y,ai,aw⟩:=dQ p b al rfl;have aJ:=(GM.mp ai).1;refine⟨j,x,y,by omega,?_,sD ai,aw⟩;rw[←af];exact Zdv
noncomputable def ShE (H:Hp):List (Key×V)→List (Int×(Nat×Nat))→Prop:=Paired λkv x=>kv.1=Sum.inl x.1∧∃t,kv.2= .ref t∧H t=some (.tup [.int (x.2.1:Nat),.int (x.2.2:Nat)])
theorem ShE.keep{H H':Hp}(t:∀b xs,H b=some (.tup xs)→H' b=some (.tup xs)){kvs:List (Key×V)}{zs:List (Int×(Nat×Nat))}(h:ShE H kvs zs):ShE H' kvs zs:=Paired.mapP h λ_ _ ⟨a,c,e,z⟩=>⟨a,c,e,t _ _ z⟩
theorem ShE.snoc{H:Hp}:∀{kvs:List (Key×V)}{zs:List (Int×(Nat×Nat))}{w:Int}{t:Addr}{x:Nat×Nat},ShE H kvs zs→H t=some (.tup [.int (x.1:Nat),.int (x.2:Nat)])→ShE H (kvs++ [(Sum.inl w,.ref t)]) (zs++ [(w,x)])
 |_,_,_,_,_,.nil,h=> .cons ⟨rfl,_,rfl,h⟩ .nil
 |_,_,_,_,_,.cons y r,h=> .cons y (ShE.snoc r h)
theorem ShE.length{H:Hp}{kvs:List (Key×V)}{zs:List (Int×(Nat×Nat))}(h:ShE H kvs zs):kvs.length=zs.length:=Paired.length h
theorem ShE.get{H:Hp}:∀{kvs:List (Key×V)}{zs:List (Int×(Nat×Nat))}{p:Int},ShE H kvs zs→p∈zs.map (·.1)→∃(y:Nat×Nat)(t:Addr),(p,y)∈zs∧valV kvs (Sum.inl p)=some (.ref t)∧H t=some (.tup [.int (y.1:Nat),.int (y.2:Nat)])
 |_,_,_,.nil,h=>by simp at h
 |_,_,p,.cons (a:=kv) (b:=z) ⟨a,t,e,cu⟩ r,h=>by
  obtain⟨k,v⟩:=kv;obtain⟨w,x⟩:=z;dsimp only at a e cu;subst a e
  by_cases c:w=p
  ·subst c;exact⟨x,t,by simp,iZ rfl,cu⟩
  ·have h':p∈_:=(qaf.mp h).resolve_left (λy=>c y.symm);obtain⟨y,t',ai,aw,cC⟩:=ShE.get r h';exact⟨y,t',qas _ ai,by rw[i1 (λy=>c (qb6 y))];exact aw,cC⟩
theorem ShE.none{H:Hp}{kvs:List (Key×V)}{zs:List (Int×(Nat×Nat))}{p:Int}(h:ShE H kvs zs)(aS:p∉zs.map (·.1)):valV kvs (Sum.inl p)=none:=by
 cases e:valV kvs (Sum.inl p) with
 |none=>rfl
 |some v=>
  exfalso;have:(valV kvs (Sum.inl p)).isSome=true:=by rw[e];rfl
  rw[←WV,qch] at this;obtain⟨kv,a6,a7⟩:=this;obtain⟨i,hi,rfl⟩:=qat a6;obtain⟨z,hz,a,_⟩:=Paired.get' h (GT hi);have c_:kvs[i].1=Sum.inl p:=of_decide_eq_true a7;rw[a] at c_;have:z.1=p:=qb6 c_;exact aS (qah.mpr ⟨z,qal hz,this⟩)
theorem Zim{y u:Nat×Nat}{x:Nat×Nat}{cz a5 G n:Nat}(i_:0<y.1)(hg:0<y.2)(ea:0<cz)(fy:0<a5)(hu:u.1=cz / G)(cn:u.2=a5 / G)(km:G=Nat.gcd cz a5)(ao:x.1=y.1*u.1 / Nat.gcd (y.1*u.1) (y.2*u.2))(i':x.2=y.2*u.2 / Nat.gcd (y.1*u.1) (y.2*u.2)):
  (0<x.1∧0<x.2∧Nat.gcd x.1 x.2=1)∧x.1*y.2*a5=y.1*x.2*cz∧x.1≤y.1*cz∧x.2≤y.2*a5:=by
 have RM:0<G:=by rw[km];exact qbE _ ea
 have d1:G ∣ cz:=by rw[km];exact qby _ _
 have d2:G ∣ a5:=by rw[km];exact qbj _ _
 have aW:cz=u.1*G:=by rw[hu,qa0 d1]
 have a7:a5=u.2*G:=by rw[cn,qa0 d2]
 have H1:0<u.1:=by rcases qaU u.1 with z|z;rw[z,Nat.zero_mul] at aW;omega;exact z
 have jM:0<u.2:=by rcases qaU u.2 with z|z;rw[z,Nat.zero_mul] at a7;omega;exact z
 have v0:0<y.1*u.1:=qbH i_ H1;have H2:0<y.2*u.2:=qbH hg jM;have oO:0<Nat.gcd (y.1*u.1) (y.2*u.2):=qbE _ v0;have dh:x.1*Nat.gcd (y.1*u.1) (y.2*u.2)=y.1*u.1:=by rw[ao,qa0 (qby _ _)]
 have dJ:x.2*Nat.gcd (y.1*u.1) (y.2*u.2)=y.2*u.2:=by rw[i',qa0 (qbj _ _)]
 refine⟨⟨?_,?_,?_⟩,?_,?_,?_⟩
 ·rw[ao];exact qb9 (qbe v0 (qby _ _)) oO
 ·rw[i'];exact qb9 (qbe H2 (qbj _ _)) oO
 ·rw[ao,i'];exact Nat.gcd_div_gcd_div_gcd_of_pos_left v0
 ·generalize Nat.gcd (y.1*u.1) (y.2*u.2)=g at*;have k:x.1*(y.2*u.2)=(y.1*u.1)*x.2:=by rw[←dJ,←dh,qbo x.2 g,qaI]
  calc x.1*y.2*a5=x.1*(y.2*u.2)*G:=by rw[a7];simp only[qaI]
   _=(y.1*u.1)*x.2*G:=by rw[k]
   _=y.1*x.2*cz:=by rw[aW,qb5 y.1 u.1 x.2,qaI (y.1*x.2)]
 ·have ai:x.1≤y.1*u.1:=by rw[ao];exact qaQ _ _
  have aw:u.1≤cz:=by rw[hu];exact qaQ _ _
  exact qaz ai (qbZ _ aw)
 ·have ai:x.2≤y.2*u.2:=by rw[i'];exact qaQ _ _
  have aw:u.2≤a5:=by rw[cn];exact qaQ _ _
  exact qaz ai (qbZ _ aw)
theorem Znz{H:Hp}{kvs:List (Key×V)}{aL:Fo.ZK}{i:Nat}{kv:Key×V}(h:Ent H kvs aL)(e:kvs[i]? =some kv):∃w st,aL[i]? =some (w,st)∧kv.1=Sum.inl w∧mJ H kv.2 st:=by
 obtain⟨⟨w,st⟩,ai,aw,cC⟩:=Paired.get' h e;exact⟨w,st,ai,aw,cC⟩
theorem ZeB{H:Hp}{a:Addr}{u:HO}(h:L2.Rd H a u):H a≠none:=by
 rcases h with h|⟨o,h⟩<;>(rw[h];simp)
theorem qs{H:Hp}{d:Addr}{kvs:List (Key×V)}{o:Obj}(h:L2.Rd H d (.dK kvs)):eb [d] H (upd H d (.frz o (.dK kvs))):=by
 refine⟨λb x e n=>?_,λb xs e=>?_⟩
 ·rw[cq (λz=>n (by simp[z]))];exact e
 ·have:b≠d:=λz=>by
   rw[z] at e;rcases h with h|⟨cM,h⟩<;>(rw[h] at e;cases e)
  rw[cq this];exact e
def Yb(ls:List B5):Prop:=∀i<ls.length,∃cz a5,0<cz∧0<a5∧cz<2 ^ 110∧a5<2 ^ 110∧(ls.getD i dB).give=((cz:Nat):Int)∧(ls.getD i dB).take=((a5:Nat):Int)
theorem H3{ls:List B5}{n:Nat}{F:List (Int×Fo.ZK)}(ag:ZC ls n)(hw:Fo.WR (fb ls) n F n){i j:Nat}{x y:Int×Fo.ZK}(hi:F[i]? =some x)(aJ:F[j]? =some y)(ne:i≠j):∀w∈Fo.keys x.2,w∉Fo.keys y.2:=by
 intro w ai aw;obtain⟨g1,dh,_,_⟩:=hw.tree x (qal hi);obtain⟨g2,dJ,_,_⟩:=hw.tree y (qal aJ);have a1:=(g1.keys_iff dh w).mp ai;have a2:=(g2.keys_iff dJ w).mp aw;have aW:=hw.least x (qal hi) y.1 ((g1.keys_iff dh _).mpr (a1.trans (a2.symm (sC ls))));have a7:=hw.least y (qal aJ) x.1 ((g2.keys_iff dJ _).mpr (a2.trans (a1.symm (sC ls))));obtain⟨dv,gL⟩:=GM.mp hi;obtain⟨eS,h7⟩:=GM.mp aJ;rcases Nat.lt_or_gt_of_ne ne with z|z
 ·have:=qbv.mp hw.rise i j dv eS z;rw[gL,h7] at this;omega
 ·have:=qbv.mp hw.rise j i eS dv z;rw[gL,h7] at this;omega
theorem sE{db hb:Type}{P A9:db→hb→Prop}:∀{xs:List db}{ys:List hb},Paired P xs ys→(∀x y,x∈xs→P x y→A9 x y)→Paired A9 xs ys
 |_,_,.nil,_=> .nil
 |_,_,.cons h r,f=> .cons (f _ _ (by simp) h) (sE r λx y ao=>f x y (qas _ ao))
noncomputable def YZ (H:Hp):List Addr→List (Int×Fo.ZK)→Prop:=Paired λd x=>∃kvs,L2.Rd H d (.dK kvs)∧Ent H kvs x.2
theorem hN.r{H:Hp}{cB:List Addr}{F:List (Int×Fo.ZK)}(h:hN H cB F):YZ H cB F:=Paired.mapP h λ_ _ ⟨kvs,a,b⟩=>⟨kvs,.inl a,b⟩
theorem YZ.same{H H':Hp}{cB:List Addr}{F:List (Int×Fo.ZK)}(h:YZ H cB F)(s:Zf H H'):YZ H' cB F:=Paired.mapP h λ_ _ ⟨kvs,a,b⟩=>⟨kvs,a.imp (s _ _) (λ⟨o,z⟩=>⟨o,s _ _ z⟩),b.keep λ_ _ e=>s _ _ e⟩
theorem YZ.length{H:Hp}{cB:List Addr}{F:List (Int×Fo.ZK)}(h:YZ H cB F):cB.length=F.length:=Paired.length h
theorem Znj{H:Hp}{d:Addr}{k1 k2:List (Key×V)}(ai:L2.Rd H d (.dK k1))(aw:L2.Rd H d (.dK k2)):k1=k2:=by
 rcases ai with a|⟨ow,a⟩<;>rcases aw with b|⟨hf,b⟩<;>(rw[a] at b;cases b)<;>rfl
theorem YZ.frz{H:Hp}{cB:List Addr}{F:List (Int×Fo.ZK)}(h:YZ H cB F){d:Addr}{kvs:List (Key×V)}{o:Obj}(hd:L2.Rd H d (.dK kvs)):YZ (upd H d (.frz o (.dK kvs))) cB F:=Paired.mapP h λd' _ ⟨k,a,b⟩=>by
 refine⟨k,?_,b.keep (qs hd).tups⟩
 by_cases z:d'=d
 ·subst z;rw[Znj a hd];exact .inr ⟨o,Ze⟩
 ·rcases a with a|⟨cM,a⟩
  ·exact .inl (by rw[cq z];exact a)
  ·exact .inr ⟨cM,by rw[cq z];exact a⟩
noncomputable def lcmL (zs:List (Int×(Nat×Nat))):Nat:=zs.foldl (λc x=>Nat.lcm c x.2.2) 1
theorem H4(zs:List (Int×(Nat×Nat)))(x:Int×(Nat×Nat)):lcmL (zs++ [x])=Nat.lcm (lcmL zs) x.2.2:=by unfold lcmL;rw[List.foldl_append];rfl
theorem ZkV{a b:Nat}:a / Nat.gcd a b*b=Nat.lcm a b:=by
 unfold Nat.lcm;rw[Nat.div_mul_right_comm (qby a b)]
theorem A_{a b n m:Nat}(aZ:a<2 ^ n)(ag:b<2 ^ m):Nat.lcm a b<2 ^ (n+m):=by
 unfold Nat.lcm;exact qav (qaQ _ _) (qr aZ ag)
def nP(ls:List B5)(x:Int×Fo.ZK)(rs:List Int):Prop:=∃zs,i9 ls x.2 zs x.2.length∧∀y∈zs,rs[y.1.toNat]? =some ((lcmL zs / y.2.2*y.2.1:Nat):Int)
noncomputable def ib (cs:List Int) (b:B5):Int:=cs.getD b.giver.toNat 0*b.give-cs.getD b.taker.toNat 0*b.take
structure Zox(ls:List B5)(n:Nat)(rs:List Int):Prop where
 len:rs.length=n
 pos:∀c∈rs,∃k:Nat,c=(k:Int)∧0<k∧k<2 ^ 420000
theorem A':∀(zs:List (Int×(Nat×Nat)))(c:Nat),c ∣ zs.foldl (λc x=>Nat.lcm c x.2.2) c∧∀y∈zs,y.2.2 ∣ zs.foldl (λc x=>Nat.lcm c x.2.2) c
 | [],c=>⟨Nat.dvd_refl _,by simp⟩
 |z::zs,c=>by
  obtain⟨ai,aw⟩:=A' zs (Nat.lcm c z.2.2);refine⟨qb0 (Nat.dvd_lcm_left _ _) ai,λy a'=>?_⟩;rcases qaf.mp a' with rfl|a'
  ·exact qb0 (Nat.dvd_lcm_right _ _) ai
  ·exact aw y a'
theorem Ba:∀(zs:List (Int×(Nat×Nat)))(c m:Nat),c ∣ m→(∀y∈zs,y.2.2 ∣ m)→zs.foldl (λc x=>Nat.lcm c x.2.2) c ∣ m
 | [],_,_,h,_=>h
 |z::zs,c,m,h,k=>Ba zs _ m (Nat.lcm_dvd h (k z (by simp))) λy a'=>k y (qas _ a')
theorem sF{zs:List (Int×(Nat×Nat))}{y:Int×(Nat×Nat)}(h:y∈zs):y.2.2 ∣ lcmL zs:=(A' zs 1).2 y h
theorem Zk6{zs:List (Int×(Nat×Nat))}{m:Nat}(h:∀y∈zs,y.2.2 ∣ m):lcmL zs ∣ m:=Ba zs 1 m (Nat.one_dvd m) h
theorem Bb{zs:List (Int×(Nat×Nat))}(h:∀y∈zs,0<y.2.2):0<lcmL zs:=by
 unfold lcmL;have f5:∀(zs:List (Int×(Nat×Nat)))(c:Nat),0<c→(∀y∈zs,0<y.2.2)→0<zs.foldl (λc x=>Nat.lcm c x.2.2) c:=by
  intro zs
  induction zs with
  |nil=>intro c ax _;exact ax
  |cons z zs cO=>intro c ax k;exact cO _ (Nat.lcm_pos ax (k z (by simp))) λy a'=>k y (qas _ a')
 exact f5 zs 1 (by decide) h
theorem Zg1{ls:List B5}{aL:Fo.ZK}{first:Int}{d6:Int→List Fo.Trip}{zs:List (Int×(Nat×Nat))}(aM:Fo.Yg d6 first aL)(h:i9 ls aL zs aL.length){k:Nat}(aR:∀y∈zs,k ∣ lcmL zs / y.2.2*y.2.1):k=1:=by
 have g4:0<aL.length:=(GM.mp aM.head).1;have c8:=qal (h.first 0 first g4 aM.head);have H5:k ∣ lcmL zs:=by
  have:=aR _ c8;simpa using this
 have RN:0<lcmL zs:=Bb λy a'=>(h.pos y a').2.1;obtain⟨c,ax⟩:=H5;have k0:0<k:=by
  rcases qaU k with z|z
  ·rw[z,Nat.zero_mul] at ax;omega
  ·exact z
 have all:∀y∈zs,y.2.2 ∣ c:=by
  intro y a';obtain⟨eL,eK,mH⟩:=h.pos y a';obtain⟨m,a6⟩:=aR y a';have aW:lcmL zs / y.2.2*y.2.2=lcmL zs:=qa0 (sF a');have a7:k*(c*y.2.1)=k*(y.2.2*m):=by
   calc k*(c*y.2.1)=lcmL zs*y.2.1:=by rw[ax,qaI]
    _=(lcmL zs / y.2.2*y.2.1)*y.2.2:=by
     conv=>lhs;rw[←aW]
     rw[qb5]
    _=k*m*y.2.2:=by rw[a6]
    _=k*(y.2.2*m):=by rw[qaI,qbo m]
  have c_:=qbg k0 a7;have d:y.2.2 ∣ c*y.2.1:=⟨m,c_⟩;exact Nat.Coprime.dvd_of_dvd_mul_right (show Nat.gcd y.2.2 y.2.1=1 by rw[Nat.gcd_comm];exact mH) d
 have hd:=Zk6 all;rw[ax] at hd;have kP:0<c:=by
  rcases qaU c with z|z
  ·rw[z,Nat.mul_zero] at ax;omega
  ·exact z
 have:=qbe kP hd;rcases qaC k 2 with z|z
 ·omega
 ·have:2*c≤k*c:=Nat.mul_le_mul_right c z;omega
structure ZhP(ls:List B5)(z:Int→Nat):Prop where
 pos:∀w,0<z w
 bal:∀i<ls.length,(ls.getD i dB).give.toNat*z (ls.getD i dB).giver=(ls.getD i dB).take.toNat*z (ls.getD i dB).taker
theorem Zmc{zs:List (Int×(Nat×Nat))}(h:∀y∈zs,y.2.2<2 ^ 6700):lcmL zs<2 ^ (6700*zs.length+1):=by
 have f5:∀(zs:List (Int×(Nat×Nat)))(c n:Nat),c<2 ^ n→(∀y∈zs,y.2.2<2 ^ 6700)→zs.foldl (λc x=>Nat.lcm c x.2.2) c<2 ^ (n+6700*zs.length):=by
  intro zs
  induction zs with
  |nil=>intro c n ax _;simpa using ax
  |cons z zs cO=>
   intro c n ax k;have:=cO (Nat.lcm c z.2.2) (n+6700) (A_ ax (k z (by simp))) λy a'=>k y (qas _ a');have e:n+6700+6700*zs.length=n+6700*(z::zs).length:=by simp[Nat.mul_succ];omega
   rw[e] at this;exact this
 have:=f5 zs 1 1 (by decide) h;rw[Nat.add_comm];exact this
section
variable {ls:List B5}{n:Nat}{F:List (Int×Fo.ZK)}{rs:List Int}
theorem Zd4{x:Int×Fo.ZK}{zs:List (Int×(Nat×Nat))}(h:i9 ls x.2 zs x.2.length){w:Int}(hw:w∈Fo.keys x.2):∃y∈zs,y.1=w:=by
 have ai:=h.keys;have aw:(Fo.keys x.2).take x.2.length=Fo.keys x.2:=qaS (by simp[Fo.keys]);rw[aw] at ai;rw[←ai] at hw;obtain⟨y,a',e⟩:=qah.mp hw;exact⟨y,a',e⟩
theorem ZfM(cU:ZC ls n)(bA:n≤60)(e8:Fo.WR (fb ls) n F n)(gD:rs.length=n)(hP:∀x∈F,nP ls x rs):Zox ls n rs:=by
 refine⟨gD,λc ax=>?_⟩;obtain⟨i,hi,rfl⟩:=qat ax;obtain⟨x,ao,aR⟩:=e8.all (i:Int) (by omega) (by omega);obtain⟨zs,aM,hz⟩:=hP x ao;obtain⟨y,a',eM⟩:=Zd4 aM aR;have ai:=hz y a';rw[eM,qaa,GT hi] at ai;obtain⟨g,H6,ea,g1⟩:=e8.tree x ao;have qt:x.2.length≤60:=by
  have:=Fo.Vn (n:=n) g.nodup (g.rg ⟨ea,g1⟩ (nO cU));simp[Fo.keys] at this;omega
 have Bc:=aM.len (FM _);have sz:∀y∈zs,y.2.1<2 ^ 6700∧y.2.2<2 ^ 6700:=λy a'=>by
  obtain⟨j,aJ⟩:=qba a';have hL:=(GM.mp aJ).1;obtain⟨a,b⟩:=aM.size j y aJ;have e:(2:Nat) ^ (110*j+1)≤2 ^ 6700:=qau (by decide) (by omega);exact⟨qad a e,qad b e⟩
 have kM:=Zmc λy a'=>(sz y a').2;obtain⟨eL,eK,_⟩:=aM.pos y a';refine⟨_,qap ai,qbH (qb9 (qbe (Bb λy a'=>(aM.pos y a').2.1) (sF a')) eK) eL,?_⟩;refine qad (qr (qav (qaQ _ _) kM) (sz y a').1) (qau (by decide) ?_);have:6700*zs.length≤6700*60:=qbZ _ (by omega);omega
end
inductive eT(aL:Fo.ZK):Int→List (Int×Bool)→Prop
 |root {w:Int} {i:Nat}:aL[i]? =some (w,none)→eT aL w []
 |step {w p b:Int} {al:Bool} {i:Nat} {ps:List (Int×Bool)}:aL[i]? =some (w,some (p,b,al))→eT aL p ps→eT aL w (ps++ [(b,al)])
theorem Zd7{H:Hp}:∀{kvs:List (Key×V)}{aL:Fo.ZK}{i:Nat}{w:Int}{s:Option Fo.Trip},Ent H kvs aL→(Fo.keys aL).Nodup→aL[i]? =some (w,s)→∃v,valV kvs (Sum.inl w)=some v∧mJ H v s
 |_,_,_,_,_,.nil,_,h=>by simp at h
 |kv::_,z::_,0,w,s,.cons ⟨a,e⟩ r,nd,h=>by
  obtain⟨k,v⟩:=kv;obtain rfl:z=(w,s):=by simpa using h
  dsimp only at a e;subst a;exact⟨v,iZ rfl,e⟩
 |kv::_,z::aL,i+1,w,s,.cons ⟨a,e⟩ r,nd,h=>by
  obtain⟨k,v⟩:=kv;obtain⟨dC,x⟩:=z;dsimp only at a e;subst a;have h':aL[i]? =some (w,s):=by simpa using h
  have Bd:(dC::Fo.keys aL).Nodup:=nd;have c:dC≠w:=λy=>(qbu.mp Bd).1 (y▸Fo.WC h');obtain⟨lj,ai,aw⟩:=Zd7 r (qbu.mp Bd).2 h';exact⟨lj,by rw[i1 (λy=>c (qb6 y))];exact ai,aw⟩
noncomputable def e3 (H:Hp):List V→List (Int×Bool)→Prop:=Paired λv x=>∃t,v= .ref t∧H t=some (.tup [.int x.1,.bl x.2])
theorem e3.keep{H H':Hp}(t:∀b xs,H b=some (.tup xs)→H' b=some (.tup xs)){vs:List V}{l:List (Int×Bool)}(h:e3 H vs l):e3 H' vs l:=Paired.mapP h λ_ _ ⟨a,e,z⟩=>⟨a,e,t _ _ z⟩
theorem e3.snoc{H:Hp}:∀{vs:List V}{l:List (Int×Bool)}{x:Int×Bool}{t:Addr},e3 H vs l→H t=some (.tup [.int x.1,.bl x.2])→e3 H (vs++ [.ref t]) (l++ [x])
 |_,_,_,_,.nil,h=> .cons ⟨_,rfl,h⟩ .nil
 |_,_,_,_,.cons y r,h=> .cons y (e3.snoc r h)
theorem e3.rev{H:Hp}:∀{vs:List V}{l:List (Int×Bool)},e3 H vs l→e3 H vs.reverse l.reverse
 |_,_,.nil=> .nil
 |_,_,.cons ⟨t,e,h⟩ r=>by
  subst e;rw[qbM,qbM];exact e3.snoc (e3.rev r) h
theorem e3.length{H:Hp}{vs:List V}{l:List (Int×Bool)}(h:e3 H vs l):vs.length=l.length:=Paired.length h
theorem qu{H H':Hp}{d:Addr}{kvs:List (Key×V)}(h:L2.Rd H d (.dK kvs))(s:Zf H H'):L2.Rd H' d (.dK kvs):=h.imp (s _ _) (λ⟨o,z⟩=>⟨o,s _ _ z⟩)
noncomputable def kn (bi:Int) (pg pt:List (Int×Bool)) (k:Nat):List (Int×Bool):=(bi,true)::((pt.drop k).reverse.map λx=>(x.1,!x.2))++pg.drop k
theorem ZkF(a b:Int)(x y:Bool):PyData.eqv (.tuple [.int a,.bool x]) (.tuple [.int b,.bool y])=decide (a=b∧x=y):=by
 cases x<;>cases y<;>simp[PyData.eqv,PyData.eqvAll]<;>by_cases h:a=b<;>simp[h]
theorem Be{K:Frag}{H:Hp}{t:Addr}{a:Int}{x:Bool}(h:H t=some (.tup [.int a,.bl x])):fT K H (.ref t) (.tuple [.int a,.bool x]):= .tup (.of h) (.cons (.int _) (.cons (.bl _) .nil))
theorem Bf(a:Int)(x:Bool):(PyData.tuple [.int a,.bool x]).canLay0=true:=by simp[PyData.canLay0,PyData.canLayAll0]
theorem H7(a:Int)(x:Bool):(PyData.tuple [.int a,.bool x]).depth≤60:=by simp[PyData.depth,PyData.depthAll]
theorem Zcv{H:Hp}:∀{vs:List V}{ps:List (Int×Bool)}{i:Nat}{x:Int×Bool},e3 H vs ps→ps[i]? =some x→∃t,vs[i]? =some (.ref t)∧H t=some (.tup [.int x.1,.bl x.2])
 |_,_,_,_,.nil,e=>by simp at e
 |_,_,0,_,.cons ⟨t,aW,h⟩ _,e=>by simp at e;subst e;exact⟨t,by simp[aW],h⟩
 |_,_,i+1,x,.cons _ r,e=>by
  obtain⟨t,ai,aw⟩:=Zcv (i:=i) (x:=x) r (by simpa using e);exact⟨t,by simpa using ai,aw⟩
def Zad(W:Int→List Fo.Trip)(cz a5:Int→Int):Prop:=∀(p o b:Int)(al:Bool),(o,b,al)∈W p→(al=true∧p=cz b∧o=a5 b)∨(al=false∧p=a5 b∧o=cz b)
noncomputable def ZbS (cz a5:Int→Int) (x:Int×Bool):Int:=if x.2=true then cz x.1 else a5 x.1
noncomputable def sG (cz a5:Int→Int) (x:Int×Bool):Int:=if x.2=true then a5 x.1 else cz x.1
noncomputable def gl (cz a5:Int→Int):Int→List (Int×Bool)→Int→Prop
 |a,[],c=>a=c
 |a,x::ps,c=>ZbS cz a5 x=a∧gl cz a5 (sG cz a5 x) ps c
theorem gl.app{cz a5:Int→Int}:∀{ps:List (Int×Bool)}{a m c:Int}{en:List (Int×Bool)},gl cz a5 a ps m→gl cz a5 m en c→gl cz a5 a (ps++en) c
 | [],_,_,_,_,h,k=>by
  have e:_=_:=h;rw[e];exact k
 |_::_,_,_,_,_,h,k=>⟨h.1,gl.app h.2 k⟩
theorem gl.split{cz a5:Int→Int}:∀{ps:List (Int×Bool)}{a c:Int}{en:List (Int×Bool)},gl cz a5 a (ps++en) c→∃m,gl cz a5 a ps m∧gl cz a5 m en c
 | [],a,_,_,h=>⟨a,rfl,h⟩
 |x::ps,_,_,_,h=>by
  obtain⟨m,ai,aw⟩:=gl.split (ps:=ps) h.2;exact⟨m,⟨h.1,ai⟩,aw⟩
theorem gl.det{cz a5:Int→Int}:∀{ps:List (Int×Bool)}{a c dO:Int},gl cz a5 a ps c→gl cz a5 a ps dO→c=dO
 | [],_,_,_,h,k=>by
  have e:_=_:=h;have cx:_=_:=k;exact e.symm.trans cx
 |_::ps,_,_,_,h,k=>gl.det (ps:=ps) h.2 k.2
theorem gl.rev{cz a5:Int→Int}:∀{ps:List (Int×Bool)}{a c:Int},gl cz a5 a ps c→gl cz a5 c (ps.reverse.map λx=>(x.1,!x.2)) a
 | [],_,_,h=>by
  have e:_=_:=h;exact e.symm
 |(b,al)::ps,a,c,h=>by
  have cO:=gl.rev (ps:=ps) h.2;rw[qbM,qaG];refine cO.app ?_;have ai:=h.1;refine⟨?_,?_⟩
  ·cases al<;>simp[ZbS,sG]
  ·show sG cz a5 (b,!al)=a;rw[←ai];cases al<;>simp[ZbS,sG]
section
variable {W:Int→List Fo.Trip}{first:Int}{aL:Fo.ZK}{cz a5:Int→Int}
theorem WM{i j:Nat}{w:Int}{s s':Option Fo.Trip}(nd:(Fo.keys aL).Nodup)(ai:aL[i]? =some (w,s))(aw:aL[j]? =some (w,s')):i=j:=by
 have aW:(Fo.keys aL)[i]? =some w:=by simp[Fo.keys,ai]
 have a7:(Fo.keys aL)[j]? =some w:=by simp[Fo.keys,aw]
 exact(List.getElem?_inj (GM.mp aW).1 nd).mp (aW.trans a7.symm)
theorem ZeK(aM:Fo.Yg W first aL)(hA:Zad W cz a5){i ht:Nat}{w dC p fg b:Int}{al sk:Bool}(h:aL[i]? =some (w,some (p,b,al)))(h':aL[ht]? =some (dC,some (fg,b,sk))):i=ht:=by
 obtain⟨m,j,s,aJ,h7⟩:=aM.steps _ _ _ _ _ h;obtain⟨cQ,p4,s',eS,Bg⟩:=aM.steps _ _ _ _ _ h';rcases hA _ _ _ _ m with⟨_,a2,a3⟩|⟨_,a2,a3⟩<;>rcases hA _ _ _ _ cQ with⟨_,b2,b3⟩|⟨_,b2,b3⟩
 ·have e:w=dC:=a3.trans b3.symm;subst e;exact WM aM.nodup h h'
 ·have e:w=fg:=a3.trans b2.symm;have cx:p=dC:=a2.trans b3.symm;subst e cx;have:=WM aM.nodup h Bg;have:=WM aM.nodup h' h7;omega
 ·have e:w=fg:=a3.trans b2.symm;have cx:p=dC:=a2.trans b3.symm;subst e cx;have:=WM aM.nodup h Bg;have:=WM aM.nodup h' h7;omega
 ·have e:w=dC:=a3.trans b3.symm;subst e;exact WM aM.nodup h h'
theorem eT.walk(aM:Fo.Yg W first aL)(hA:Zad W cz a5){w:Int}{ps:List (Int×Bool)}(h:eT aL w ps):gl cz a5 first ps w:=by
 induction h with
 |root e=>
  have:=aM.only _ _ e;subst this;rw[aM.head] at e;cases e
  rfl
 |step e _ cO=>
  refine cO.app ?_;obtain⟨m,_⟩:=aM.steps _ _ _ _ _ e;rcases hA _ _ _ _ m with⟨a1,a2,a3⟩|⟨a1,a2,a3⟩
  ·subst a1;exact⟨a2.symm,a3.symm⟩
  ·subst a1;exact⟨a2.symm,a3.symm⟩
theorem eT.origin(aM:Fo.Yg W first aL){w:Int}{ps:List (Int×Bool)}(h:eT aL w ps):∀{i:Nat}{s:Option Fo.Trip},aL[i]? =some (w,s)→∀x∈ps,∃(ht:Nat)(dC fg:Int),ht≤i∧aL[ht]? =some (dC,some (fg,x.1,x.2)):=by
 induction h with
 |root e=>intro i s _ x ao;cases ao
 | @step w p b al i0 ps e h cO=>
  intro i s hi x ao;have gL:=WM aM.nodup e hi;subst gL;obtain⟨_,j,oP,aJ,h7⟩:=aM.steps _ _ _ _ _ e;rcases qar.mp ao with z|z
  ·obtain⟨ht,dC,fg,a,c⟩:=cO h7 x z;exact⟨ht,dC,fg,by omega,c⟩
  ·rw[qab.mp z];exact⟨i0,w,p,FM _,e⟩
theorem eT.nodup(aM:Fo.Yg W first aL)(hA:Zad W cz a5){w:Int}{ps:List (Int×Bool)}(h:eT aL w ps):(ps.map (·.1)).Nodup:=by
 induction h with
 |root e=>exact List.nodup_nil
 | @step w p b al i0 ps e h cO=>
  rw[qaG];refine qbs.mpr ⟨cO,by simp,λx ao y a' cx=>?_⟩;obtain rfl:y=b:=by simpa using a'
  obtain⟨z,hz,H8⟩:=qah.mp ao;obtain⟨_,j,oP,aJ,h7⟩:=aM.steps _ _ _ _ _ e;obtain⟨ht,dC,fg,a,c⟩:=h.origin aM h7 z hz;rw[H8,cx] at c;have:=ZeK aM hA e c;omega
theorem eT.uniq(aM:Fo.Yg W first aL){w:Int}{ps:List (Int×Bool)}(h:eT aL w ps):∀{en:List (Int×Bool)},eT aL w en→ps=en:=by
 induction h with
 |root e=>
  intro en k;cases k with
  |root _=>rfl
  |step cx _=>
   have:=WM aM.nodup e cx;subst this;rw[e] at cx;cases cx
 |step e _ cO=>
  intro en k;cases k with
  |root cx=>
   have:=WM aM.nodup e cx;subst this;rw[e] at cx;cases cx
  |step cx gu=>
   have:=WM aM.nodup e cx;subst this;rw[e] at cx;cases cx;rw[cO gu]
theorem eT.pre{w:Int}{ps:List (Int×Bool)}(h:eT aL w ps):∀{m:Nat}{x:Int×Bool},ps[m]? =some x→∃(ht:Nat)(dC fg:Int),aL[ht]? =some (dC,some (fg,x.1,x.2))∧eT aL dC (ps.take (m+1)):=by
 induction h with
 |root e=>intro m x ao;simp at ao
 | @step w p b al i0 ps e h cO=>
  intro m x ao;rcases qaC m ps.length with c|c
  ·rw[qaB c] at ao;obtain⟨ht,dC,fg,ai,aw⟩:=cO ao;refine⟨ht,dC,fg,ai,?_⟩;rw[List.take_append_of_le_length (by omega)];exact aw
  ·have af:=(GM.mp ao).1;rw[qac] at af;have kQ:m=ps.length:=by simp at af;omega
   subst kQ;rw[qaJ (FM _),Nat.sub_self] at ao;obtain rfl:(b,al)=x:=by simpa using ao
   refine⟨i0,w,p,e,?_⟩;rw[qaS (by simp)];exact .step e h
theorem ZiP(aM:Fo.Yg W first aL)(hA:Zad W cz a5){g t:Int}{pg pt:List (Int×Bool)}{k:Nat}(aS:eT aL g pg)(cG:eT aL t pt)(a6:k=pg.length∨k=pt.length∨pg[k]? ≠pt[k]?){x y:Int×Bool}(ao:x∈pt.drop k)(a':y∈pg.drop k):x.1≠y.1:=by
 intro e;obtain⟨RO,RP⟩:=x;obtain⟨RQ,RS⟩:=y;dsimp only at e;subst e;obtain⟨m,v1⟩:=qba ao;obtain⟨cQ,v2⟩:=qba a';rw[List.getElem?_drop] at v1 v2;have l1:=(GM.mp v1).1;have l2:=(GM.mp v2).1;obtain⟨e1,f_,eL,a1,dh⟩:=cG.pre v1;obtain⟨fr,hZ,eK,a2,dJ⟩:=aS.pre v2;have:=ZeK aM hA a1 a2;subst this;rw[a1] at a2;cases a2;have dX:=dh.uniq aM dJ;have ia:=congrArg List.length dX;rw[qaP,qaP] at ia;rcases a6 with z|z|z
 ·omega
 ·omega
 ·apply z;have aW:(pg.take (k+cQ+1))[k]? =pg[k]? :=by rw[List.getElem?_take,if_pos (by omega)]
  have a7:(pt.take (k+m+1))[k]? =pt[k]? :=by rw[List.getElem?_take,if_pos (by omega)]
  rw[←aW,←a7,dX]
theorem H9(aM:Fo.Yg W first aL)(hA:Zad W cz a5){g t bi:Int}{pg pt:List (Int×Bool)}{k:Nat}(aS:eT aL g pg)(cG:eT aL t pt)(a6:k=pg.length∨k=pt.length∨pg[k]? ≠pt[k]?)(ag:∀x∈pg,x.1≠bi)(gZ:∀x∈pt,x.1≠bi):((kn bi pg pt k).map (·.1)).Nodup:=by
 unfold kn;rw[List.cons_append,List.map_cons,qaG,qbz,qbu];have f4:=(cG.nodup aM hA).sublist ((qcc k pt).map (·.1));have ft:=(aS.nodup aM hA).sublist ((qcc k pg).map (·.1));have e:((pt.drop k).reverse.map ((λx:Int×Bool=>x.1)∘λx=>(x.1,!x.2)))=((pt.drop k).map (·.1)).reverse:=by
  rw[List.map_reverse];rfl
 rw[e];refine⟨λz=>?_,?_⟩
 ·rcases qar.mp z with z|z
  ·obtain⟨x,ao,ex⟩:=qah.mp (List.mem_reverse.mp z);exact gZ x (qbq ao) ex
  ·obtain⟨x,ao,ex⟩:=qah.mp z;exact ag x (qbq ao) ex
 ·refine qbs.mpr ⟨(List.reverse_perm _).nodup_iff.mpr f4,ft,λa aZ b kR a7=>?_⟩;obtain⟨x,ao,ex⟩:=qah.mp (List.mem_reverse.mp aZ);obtain⟨y,a',eM⟩:=qah.mp kR;exact ZiP aM hA aS cG a6 ao a' (ex.trans (a7.trans eM.symm))
theorem H_(aM:Fo.Yg W first aL)(hA:Zad W cz a5){bi:Int}{pg pt:List (Int×Bool)}{k:Nat}(aS:eT aL (cz bi) pg)(cG:eT aL (a5 bi) pt)(aR:pg.take k=pt.take k):gl cz a5 (cz bi) (kn bi pg pt k) (cz bi):=by
 have f_:=aS.walk aM hA;have hZ:=cG.walk aM hA;rw[←qbK k pg] at f_;rw[←qbK k pt] at hZ;obtain⟨iz,a1,a2⟩:=f_.split;obtain⟨ii,b1,b2⟩:=hZ.split;rw[aR] at a1;have e:=a1.det b1;subst e;unfold kn;exact gl.app (ps:=(bi,true)::_) ⟨rfl,b2.rev⟩ a2
end
noncomputable def prN (dy a_:Int→Nat):List (Int×Bool)→Nat
 | []=>1
 |x::ps=>(if x.2=true then dy x.1 else a_ x.1)*prN dy a_ ps
theorem kS(dy a_:Int→Nat):∀ps en,prN dy a_ (ps++en)=prN dy a_ ps*prN dy a_ en
 | [],en=>(Nat.one_mul _).symm
 |x::ps,en=>by
  show _*prN dy a_ (ps++en)=_*prN dy a_ ps*_;rw[kS dy a_ ps en,qaI]
theorem v3(dy a_:Int→Nat):∀ps,prN dy a_ (ps.reverse.map λx=>(x.1,!x.2))=prN a_ dy ps
 | []=>rfl
 |(b,al)::ps=>by
  rw[qbM,qaG,kS,v3 dy a_ ps];show prN a_ dy ps*((if(!al)=true then dy b else a_ b)*1)=(if al=true then a_ b else dy b)*prN a_ dy ps;cases al<;>simp[qbo]
theorem qv{dy a_:Int→Nat}:∀{ps:List (Int×Bool)},(∀x∈ps,0<dy x.1∧0<a_ x.1)→0<prN dy a_ ps
 | [],_=>Nat.one_pos
 |x::ps,h=>by
  refine qbH ?_ (qv λy a'=>h y (qas _ a'));have:=h x (qaZ ..)
  split
  ·exact this.1
  ·exact this.2
section
variable {W:Int→List Fo.Trip}{first:Int}{aL:Fo.ZK}{dy a_:Int→Nat}{eo:Int→Nat×Nat}
structure Shared(dy a_:Int→Nat)(first:Int)(aL:Fo.ZK)(eo:Int→Nat×Nat):Prop where
 one:eo first=(1,1)
 pos:∀w∈Fo.keys aL,0<(eo w).1∧0<(eo w).2
 step:∀(i:Nat)(w p b:Int)(al:Bool),aL[i]? =some (w,some (p,b,al))→(eo w).1*(eo p).2*(if al=true then a_ b else dy b)=(eo p).1*(eo w).2*(if al=true then dy b else a_ b)
theorem eT.share(aM:Fo.Yg W first aL)(hs:Shared dy a_ first aL eo){w:Int}{ps:List (Int×Bool)}(h:eT aL w ps):(eo w).1*prN a_ dy ps=(eo w).2*prN dy a_ ps:=by
 induction h with
 |root e=>
  have:=aM.only _ _ e;subst this;rw[aM.head] at e;cases e;rw[hs.one]
  rfl
 | @step w p b al i ps e h cO=>
  obtain⟨_,j,oP,aJ,h7⟩:=aM.steps _ _ _ _ _ e;have v4:=(hs.pos p (Fo.WC h7)).2;have dQ:=hs.step _ _ _ _ _ e;rw[kS,kS];show(eo w).1*(prN a_ dy ps*((if al=true then a_ b else dy b)*1))=(eo w).2*(prN dy a_ ps*((if al=true then dy b else a_ b)*1));generalize (if al=true then a_ b else dy b)=eB at*;generalize (if al=true then dy b else a_ b)=nm at*;generalize prN a_ dy ps=D at*;generalize prN dy a_ ps=N at*;refine qbg v4 ?_
  calc (eo p).2*((eo w).1*(D*(eB*1)))=((eo w).1*(eo p).2*eB)*D:=by simp only[Nat.mul_one,qbo,qaT,qaI]
   _=(eo p).1*(eo w).2*nm*D:=by rw[dQ]
   _=(eo w).2*nm*((eo p).1*D):=by simp only[qbo,qaT,qaI]
   _=(eo w).2*nm*((eo p).2*N):=by rw[cO]
   _=(eo p).2*((eo w).2*(N*(nm*1))):=by simp only[Nat.mul_one,qbo,qaT,qaI]
theorem Ia(aM:Fo.Yg W first aL)(hs:Shared dy a_ first aL eo)(eA:∀(i:Nat)(w p b:Int)(al:Bool),aL[i]? =some (w,some (p,b,al))→0<dy b∧0<a_ b){g t bi:Int}{pg pt:List (Int×Bool)}{k:Nat}(aS:eT aL g pg)(cG:eT aL t pt)(v5:g∈Fo.keys aL)(j5:t∈Fo.keys aL)(aR:pg.take k=pt.take k)
  (fS:(eo g).1*(eo t).2*dy bi≠(eo t).1*(eo g).2*a_ bi):prN dy a_ (kn bi pg pt k)≠prN a_ dy (kn bi pg pt k):=by
 intro e;apply fS;have aW:=aS.share aM hs;have a7:=cG.share aM hs;have sub:∀{w:Int}{ps:List (Int×Bool)},eT aL w ps→w∈Fo.keys aL→∀x∈ps,0<dy x.1∧0<a_ x.1:=λh hw x ao=>by
  obtain⟨i,s,hi⟩:=Fo.V7 hw;obtain⟨ht,dC,fg,_,c⟩:=h.origin aM hi x ao;exact eA _ _ _ _ _ c
 have ic:=sub aS v5;have nQ:=sub cG j5;rw[←qbK k pg,kS,kS,aR] at aW;rw[←qbK k pt,kS,kS] at a7;unfold kn at e;rw[kS,kS] at e;have dH:prN dy a_ ((bi,true)::((pt.drop k).reverse.map λx=>(x.1,!x.2)))=dy bi*prN a_ dy (pt.drop k):=by
  show dy bi*prN dy a_ _=_;rw[v3]
 have eU:prN a_ dy ((bi,true)::((pt.drop k).reverse.map λx=>(x.1,!x.2)))=a_ bi*prN dy a_ (pt.drop k):=by
  show a_ bi*prN a_ dy _=_;rw[v3]
 rw[dH,eU] at e;have kP:0<prN dy a_ (pt.take k):=qv λx ao=>nQ x (List.mem_of_mem_take ao);have nR:0<prN a_ dy (pt.take k):=qv λx ao=>(nQ x (List.mem_of_mem_take ao)).symm;have b0:0<prN a_ dy (pg.drop k):=qv λx ao=>(ic x (qbq ao)).symm;have dE:0<prN dy a_ (pt.drop k):=qv λx ao=>nQ x (qbq ao);generalize prN dy a_ (pt.take k)=c at*;generalize prN a_ dy (pt.take k)=d at*;generalize prN dy a_ (pg.drop k)=a at*;generalize prN a_ dy (pg.drop k)=b at*;generalize prN dy a_ (pt.drop k)=f at*;generalize prN a_ dy (pt.drop k)=h at*;refine qbg (qbH (qbH nR b0) (qbH kP dE)) ?_
 calc d*b*(c*f)*((eo g).1*(eo t).2*dy bi)=((eo g).1*(d*b))*((eo t).2*(c*f))*dy bi:=by simp only[qbo,qaT,qaI]
  _=((eo g).2*(c*a))*((eo t).1*(d*h))*dy bi:=by rw[aW,a7]
  _=(eo g).2*(eo t).1*(c*d)*(dy bi*h*a):=by simp only[qbo,qaT,qaI]
  _=(eo g).2*(eo t).1*(c*d)*(a_ bi*f*b):=by rw[e]
  _=d*b*(c*f)*((eo t).1*(eo g).2*a_ bi):=by simp only[qbo,qaT,qaI]
end
noncomputable def gvI (ls:List B5) (b:Int):Int:=(ls.getD b.toNat dB).giver
noncomputable def tkI (ls:List B5) (b:Int):Int:=(ls.getD b.toNat dB).taker
noncomputable def giN (ls:List B5) (b:Int):Nat:=(ls.getD b.toNat dB).give.toNat
noncomputable def taN (ls:List B5) (b:Int):Nat:=(ls.getD b.toNat dB).take.toNat
theorem ZmH(ls:List B5):Zad (fb ls) (gvI ls) (tkI ls):=λp o b al h=>by
 obtain⟨i,hi,a6⟩:=Vu h;rcases Y4.mp a6 with⟨aW,a7⟩|⟨aW,a7⟩
 ·injection a7 with a7 c_
  injection c_ with c_ gU
  subst a7 c_ gU;exact .inl ⟨rfl,aW.symm,rfl⟩
 ·injection a7 with a7 c_
  injection c_ with c_ gU
  subst a7 c_ gU;exact .inr ⟨rfl,aW.symm,rfl⟩
theorem Ze6{ls:List B5}{p o b:Int}{al:Bool}(h:(o,b,al)∈fb ls p):0≤b∧b<(ls.length:Int):=by
 obtain⟨i,hi,a6⟩:=Vu h;rcases Y4.mp a6 with⟨aW,a7⟩|⟨aW,a7⟩
 ·injection a7 with a7 c_
  injection c_ with c_ gU
  subst c_;omega
 ·injection a7 with a7 c_
  injection c_ with c_ gU
  subst c_;omega
noncomputable def mK (zs:List (Int×(Nat×Nat))) (w:Int):Nat×Nat:=((zs.find? λy=>decide (y.1=w)).map (·.2)).getD (1,1)
theorem nS:∀{zs:List (Int×(Nat×Nat))}{y:Int×(Nat×Nat)},(zs.map (·.1)).Nodup→y∈zs→mK zs y.1=y.2
 |z::zs,y,nd,h=>by
  rw[List.map_cons,qbu] at nd;unfold mK;rw[qbL]
  by_cases c:z.1=y.1
  ·rcases qaf.mp h with e|e
   ·subst e;simp
   ·exact absurd (qah.mpr ⟨y,e,c.symm⟩) nd.1
  ·have e:=(qaf.mp h).resolve_left (λe=>c (by rw[e]));have cO:=nS nd.2 e;unfold mK at cO;simp only[c,decide_false];exact cO
section
variable {ls:List B5}{n:Nat}{F:List (Int×Fo.ZK)}{rs:List Int}{aL:Fo.ZK}{first:Int}{zs:List (Int×(Nat×Nat))}
theorem Zgp(aM:Fo.Yg (fb ls) first aL)(h:i9 ls aL zs aL.length):(zs.map (·.1)).Nodup:=by
 rw[h.keys];exact aM.nodup.sublist (List.take_sublist _ _)
theorem Zjz(aM:Fo.Yg (fb ls) first aL)(h:i9 ls aL zs aL.length):Shared (giN ls) (taN ls) first aL (mK zs):=by
 have nd:=Zgp aM h;have g4:0<aL.length:=(GM.mp aM.head).1;refine⟨nS (y:=(first,(1,1))) nd (qal (h.first 0 first g4 aM.head)),λw hw=>?_,λi w p b al e=>?_⟩
 ·obtain⟨y,a',eM⟩:=Zd4 (x:=(first,aL)) h hw;rw[←eM,nS nd a'];exact⟨(h.pos y a').1,(h.pos y a').2.1⟩
 ·obtain⟨j,x,y,aJ,ai,aw,ag⟩:=h.step i w p b al (GM.mp e).1 e;rw[nS (y:=(w,x)) nd (qal ai),nS (y:=(p,y)) nd (qal aw)];unfold Bal at ag;cases al with
  |true=>rw[if_pos rfl] at ag;exact ag
  |false=>rw[if_neg (by decide)] at ag;exact ag
theorem Zbw(aM:Fo.Yg (fb ls) first aL)(h:i9 ls aL zs aL.length)(hs:∀y∈zs,rs[y.1.toNat]? =some ((lcmL zs / y.2.2*y.2.1:Nat):Int)){b:B5}{cz a5:Nat}(d9:b.give=(cz:Int))(dX:b.take=(a5:Int))(v5:b.giver∈Fo.keys aL)(j5:b.taker∈Fo.keys aL)
  (e:(mK zs b.giver).1*(mK zs b.taker).2*cz=(mK zs b.taker).1*(mK zs b.giver).2*a5):ib rs b=0:=by
 have nd:=Zgp aM h;obtain⟨ja,sH,Bh⟩:=Zd4 (x:=(first,aL)) h v5;obtain⟨jz,sI,Bi⟩:=Zd4 (x:=(first,aL)) h j5;rw[←Bh,←Bi,nS nd sH,nS nd sI] at e;have cH:=hs ja sH;have cX:=hs jz sI;rw[Bh] at cH;rw[Bi] at cX;have aW:rs.getD b.giver.toNat 0=((lcmL zs / ja.2.2*ja.2.1:Nat):Int):=by rw[qa9,cH];rfl
 have a7:rs.getD b.taker.toNat 0=((lcmL zs / jz.2.2*jz.2.1:Nat):Int):=by rw[qa9,cX];rfl
 have d1:=qa0 (sF sH);have d2:=qa0 (sF sI);have eL:=(h.pos ja sH).2.1;have eK:=(h.pos jz sI).2.1;generalize lcmL zs / ja.2.2=A at*;generalize lcmL zs / jz.2.2=B at*;generalize lcmL zs=C at*;have f5:A*ja.2.1*cz=B*jz.2.1*a5:=by
  refine qbg (qbH eL eK) ?_
  calc ja.2.2*jz.2.2*(A*ja.2.1*cz)=A*ja.2.2*(ja.2.1*jz.2.2*cz):=by simp only[qbo,qaT,qaI]
   _=B*jz.2.2*(jz.2.1*ja.2.2*a5):=by rw[e,d1,d2]
   _=ja.2.2*jz.2.2*(B*jz.2.1*a5):=by simp only[qbo,qaT,qaI]
 unfold ib;rw[aW,a7,d9,dX];have k2:((A*ja.2.1:Nat):Int)*(cz:Int)=((B*jz.2.1:Nat):Int)*(a5:Int):=by
  rw[←qbF,←qbF,f5]
 omega
structure kT(ls:List B5)(ring:List (Int×Bool)):Prop where
 some_:ring≠[]
 rg:∀x∈ring,0≤x.1∧x.1<(ls.length:Int)
 nd:(ring.map (·.1)).Nodup
 walk:∃a,gl (gvI ls) (tkI ls) a ring a
 odd:prN (giN ls) (taN ls) ring≠prN (taN ls) (giN ls) ring
theorem eT.mem{w:Int}{ps:List (Int×Bool)}(h:eT aL w ps):w∈Fo.keys aL:=by
 cases h with
 |root e=>exact Fo.WC e
 |step e _=>exact Fo.WC e
theorem Ib(cU:ZC ls n)(hsz:Yb ls)(e8:Fo.WR (fb ls) n F n)(hP:∀x∈F,nP ls x rs){bi:Nat}(mL:bi<ls.length)(hk:ib rs (ls.getD bi dB)≠0){x:Int×Fo.ZK}(ao:x∈F){pg pt:List (Int×Bool)}{k:Nat}(aS:eT x.2 (ls.getD bi dB).giver pg)(cG:eT x.2 (ls.getD bi dB).taker pt)(aR:pg.take k=pt.take k)(a6:k=pg.length∨k=pt.length∨pg[k]? ≠pt[k]?):kT ls (kn bi pg pt k):=by
 obtain⟨aM,_,_,_⟩:=e8.tree x ao;obtain⟨zs,gE,hs⟩:=hP x ao;have hA:=ZmH ls;have j_:=Zjz aM gE;have eA:∀(i:Nat)(w p b:Int)(al:Bool),x.2[i]? =some (w,some (p,b,al))→0<giN ls b∧0<taN ls b:=λi w p b al e=>by
  obtain⟨ai,_⟩:=aM.steps _ _ _ _ _ e;obtain⟨b0,b1⟩:=Ze6 ai;obtain⟨cz,a5,ea,fy,_,_,d9,dX⟩:=hsz b.toNat (by omega);unfold giN taN;rw[d9,dX];exact⟨by omega,by omega⟩
 have sJ:∀{w:Int}{ps:List (Int×Bool)},eT x.2 w ps→∀y∈ps,(0≤y.1∧y.1<(ls.length:Int))∧y.1≠(bi:Int):=λ{w ps} h y a'=>by
  obtain⟨i,s,hi⟩:=Fo.V7 h.mem;obtain⟨ht,dC,fg,_,c⟩:=h.origin aM hi y a';obtain⟨ai,j,oP,aJ,h7⟩:=aM.steps _ _ _ _ _ c;have ag:=Ze6 ai;refine⟨ag,λe=>hk ?_⟩;obtain⟨cz,a5,ea,fy,_,_,d9,dX⟩:=hsz bi mL;have dQ:=j_.step _ _ _ _ _ c;have k1:giN ls y.1=cz:=by unfold giN;rw[e,qaa,d9,qaa]
  have k2:taN ls y.1=a5:=by unfold taN;rw[e,qaa,dX,qaa]
  rw[k1,k2] at dQ;have k3:=Fo.WC c;have mI:=Fo.WC h7;have a:∀z,gvI ls y.1=z→(ls.getD bi dB).giver=z:=λz hz=>by rw[←hz];unfold gvI;rw[e,qaa]
  have b:∀z,tkI ls y.1=z→(ls.getD bi dB).taker=z:=λz hz=>by rw[←hz];unfold tkI;rw[e,qaa]
  rcases hA _ _ _ _ ai with⟨fk,e0,kO⟩|⟨fk,e0,kO⟩
  ·rw[fk,if_pos rfl,if_pos rfl] at dQ;refine Zbw aM gE hs d9 dX (by rw[a _ e0.symm];exact mI) (by rw[b _ kO.symm];exact k3) ?_;rw[a _ e0.symm,b _ kO.symm];exact dQ.symm
  ·rw[fk,if_neg (by decide),if_neg (by decide)] at dQ;refine Zbw aM gE hs d9 dX (by rw[a _ kO.symm];exact k3) (by rw[b _ e0.symm];exact mI) ?_;rw[a _ kO.symm,b _ e0.symm];exact dQ
 have g1:gvI ls (bi:Int)=(ls.getD bi dB).giver:=rfl;have g2:tkI ls (bi:Int)=(ls.getD bi dB).taker:=rfl;refine⟨λz=>(by unfold kn at z;cases z),λy a'=>?_,H9 aM hA aS cG a6 (λy a'=>(sJ aS y a').2) (λy a'=>(sJ cG y a').2),⟨_,H_ aM hA (bi:=(bi:Int)) aS cG aR⟩,Ia aM j_ eA aS cG aS.mem cG.mem aR λe=>hk ?_⟩
 ·unfold kn at a';rw[List.cons_append] at a';rcases qaf.mp a' with z|z
  ·rw[z];exact⟨by omega,by dsimp only;omega⟩
  ·rcases qar.mp z with z|z
   ·obtain⟨lO,uq,eM⟩:=qah.mp z;have:=(sJ cG lO (qbq (List.mem_reverse.mp uq))).1;rw[←eM];exact this
   ·exact(sJ aS y (qbq z)).1
 ·obtain⟨cz,a5,ea,fy,_,_,d9,dX⟩:=hsz bi mL;have k1:giN ls (bi:Int)=cz:=by unfold giN;rw[qaa,d9,qaa]
  have k2:taN ls (bi:Int)=a5:=by unfold taN;rw[qaa,dX,qaa]
  rw[k1,k2] at e;exact Zbw aM gE hs d9 dX aS.mem cG.mem e
end
theorem Paired.get{db hb:Type}{P:db→hb→Prop}:∀{xs:List db}{ys:List hb}{i:Nat}{x:db},Paired P xs ys→xs[i]? =some x→∃y,ys[i]? =some y∧P x y
 |_,_,_,_,.nil,e=>by simp at e
 |_,_,0,_,.cons h _,e=>by simp at e;subst e;exact⟨_,rfl,h⟩
 |_,_,i+1,x,.cons _ r,e=>by
  obtain⟨y,ai,aw⟩:=Paired.get (i:=i) (x:=x) r (by simpa using e);exact⟨y,by simpa using ai,aw⟩
theorem qw{db hb:Type}{P:db→hb→Prop}:∀{xs:List db}{ys:List hb},xs.length=ys.length→(∀(i:Nat) x y,xs[i]? =some x→ys[i]? =some y→P x y)→Paired P xs ys
 | [],[],_,_=> .nil
 |x::xs,y::ys,af,h=> .cons (h 0 x y rfl rfl) (qw (by simpa using af) λi a b aW a7=>h (i+1) a b (by simpa using aW) (by simpa using a7))
 | [],_::_,af,_=>by simp at af
 |_::_,[],af,_=>by simp at af
theorem Zgr{hb v6:Type}{S:v6→hb→Prop}{L:List v6}{d:v6}{ys:List hb}(h:Paired (λi v=>S (L.getD i d) v) ((List.range L.length).filter λ_=>true) ys):Paired S L ys:=by
 rw[qao.mpr (by simp)] at h;refine qw (by rw[←Paired.length h,List.length_range]) λi x y aW a7=>?_;have hi:i<L.length:=(GM.mp aW).1;obtain⟨lO,ai,aw⟩:=Paired.get (i:=i) (x:=i) h (by simp[hi]);rw[a7] at ai;cases ai;simpa[List.getD,aW] using aw
noncomputable def Vp (H:Hp):List (Int×Int)→List V→Prop:=Paired λx v=>∃t,v= .ref t∧H t=some (.tup [.int x.1,.int x.2])
theorem Vp.keep{H H':Hp}(t:∀b xs,H b=some (.tup xs)→H' b=some (.tup xs)){vs:List V}{l:List (Int×Int)}(h:Vp H l vs):Vp H' l vs:=Paired.mapP h λ_ _ ⟨a,e,z⟩=>⟨a,e,t _ _ z⟩
noncomputable def LL (H:Hp):List (List (Int×Int))→List Addr→Prop:=Paired λl a=>∃vs,H a=some (.lst vs)∧Vp H l vs
theorem LL.dom{H:Hp}:∀{ls:List (List (Int×Int))}{as:List Addr},LL H ls as→∀x∈as,H x≠none
 |_,_,.nil,_,ao=>by simp at ao
 |_,_,.cons ⟨vs,h,_⟩ r,x,ao=>by
  rcases qaf.mp ao with rfl|ao
  ·rw[h];simp
  ·exact LL.dom r x ao
theorem LL.keep{H H':Hp}(t:∀b xs,H b=some (.tup xs)→H' b=some (.tup xs)):∀{ls:List (List (Int×Int))}{as:List Addr},LL H ls as→(∀x∈as,H' x=H x)→LL H' ls as
 |_,_,.nil,_=> .nil
 |_,_,.cons ⟨vs,h,p⟩ r,k=> .cons ⟨vs,(k _ (by simp)).trans h,p.keep t⟩ (LL.keep t r λx ao=>k x (qas _ ao))
noncomputable def hQ (ls:List B5) (w:Int):List (Int×Int):=(eZ ls w).map λi:Nat=>((i:Int),(ls.getD i dB).take)
noncomputable def oQ (ls:List B5) (w:Int):List (Int×Int):=(ek ls w).map λi:Nat=>((i:Int),(ls.getD i dB).give)
noncomputable def WI (rows:List B5) (hs:List Int) (w:Int):Bool:=(rows.zip hs).all λx=>!(decide (x.1.taker=w))||decide (x.1.take≤x.2)
theorem Bj{w:Int}:∀{rows:List B5}{hs:List Int},(∀(i:Nat)(r:B5)(h:Int),rows[i]? =some r→hs[i]? =some h→r.taker=w→r.take≤h)→WI rows hs w=true
 | [],_,_=>by simp[WI]
 |_::_,[],_=>by simp[WI]
 |r::rs,h::hs,q=>by
  have e:=Bj (rows:=rs) (hs:=hs) (w:=w) λi dt h' a b=>q (i+1) dt h' (by simpa using a) (by simpa using b);unfold WI at e⊢;rw[List.zip_cons_cons,qci,e,Bool.and_true]
  by_cases c:r.taker=w
  ·rw[decide_eq_true (q 0 r h rfl rfl c),Bool.or_true]
  ·rw[decide_eq_false c];rfl
theorem Bk{w:Int}:∀{rows:List B5}{hs:List Int}(i:Nat){r:B5}{h:Int},rows[i]? =some r→hs[i]? =some h→r.taker=w→h<r.take→WI rows hs w=false
 | [],_,_,_,_,a,_,_,_=>by simp at a
 |_::_,[],_,_,_,_,a,_,_=>by simp at a
 |r::rs,h::hs,0,dt,h',a,b,c,d=>by
  simp only[List.getElem?_cons_zero,Option.some.injEq] at a b;subst a b;unfold WI;rw[List.zip_cons_cons,qci,decide_eq_true c,decide_eq_false (show ¬r.take≤h by omega)]
  rfl
 |r::rs,h::hs,i+1,dt,h',a,b,c,d=>by
  have e:=Bk (rows:=rs) (hs:=hs) (w:=w) i (r:=dt) (h:=h') (by simpa using a) (by simpa using b) c d;unfold WI at e⊢;rw[List.zip_cons_cons,qci,e,Bool.and_false]
noncomputable def kU (rows:List B5) (hs:List Int) (w:Int):List Int:=(rows.zip hs).map λx=>x.2-(if x.1.taker=w then x.1.take else 0)+(if x.1.giver=w then x.1.give else 0)
theorem v7{rows:List B5}{hs:List Int}{w:Int}(h:hs.length=rows.length):(kU rows hs w).length=hs.length:=by unfold kU;simp;omega
theorem Zca{rows:List B5}{hs:List Int}{w:Int}{i:Nat}(ai:i<rows.length)(aw:i<hs.length)(cC:i<(kU rows hs w).length):(kU rows hs w)[i]=hs[i]-(if rows[i].taker=w then rows[i].take else 0)+(if rows[i].giver=w then rows[i].give else 0):=by
 have e:(kU rows hs w)[i]? =some (hs[i]-(if rows[i].taker=w then rows[i].take else 0)+(if rows[i].giver=w then rows[i].give else 0)):=by
  unfold kU;rw[qaj,GT (by rw[List.length_zip];omega)];simp
 rw[GT cC] at e;exact qap e
noncomputable def qx (hs:List Int) (l:List (Int×Int)):Bool:=l.all λx=>decide (x.2≤hs.getD x.1.toNat 0)
theorem Zdp{rows:List B5}{hs:List Int}{w:Int}(h:hs.length=rows.length):qx hs (hQ rows w)=WI rows hs w:=by
 cases e:qx hs (hQ rows w) with
 |true=>
  refine(Bj λi r x a b c=>?_).symm;have hi:i<rows.length:=(GM.mp a).1;have mM:rows.getD i dB=r:=by simp[List.getD,a]
  have m:((i:Int),r.take)∈hQ rows w:=by
   unfold hQ eZ;refine qah.mpr ⟨i,qaY.mpr ⟨qaL.mpr hi,decide_eq_true (by rw[mM];exact c)⟩,by rw[mM]⟩
  have:=of_decide_eq_true (qbx.mp e _ m);simpa[List.getD,b] using this
 |false=>
  unfold qx at e;rw[List.all_eq_false] at e;obtain⟨x,ao,d⟩:=e;unfold hQ eZ at ao;obtain⟨i,hi,rfl⟩:=qah.mp ao;obtain⟨ai,aw⟩:=qaY.mp hi;have av:=qaL.mp ai;have gL:=GT av;have Bl:=GT (show i<hs.length by omega);have mM:rows.getD i dB=rows[i]:=by simp[List.getD,gL]
  rw[mM] at aw d;refine(Bk i gL Bl (of_decide_eq_true aw) ?_).symm;have d':¬rows[i].take≤hs.getD (i:Int).toNat 0:=λz=>d (decide_eq_true z);have d9:hs.getD (i:Int).toNat 0=hs[i]:=by simp[List.getD,Bl]
  rw[d9] at d';omega
theorem Zbu{ls:List B5}{w:Int}{i:Nat}(h:i∈eZ ls w):i<ls.length:=qaL.mp (qaY.mp h).1
theorem qy{ls:List B5}{w:Int}{i:Nat}(h:i∈ek ls w):i<ls.length:=qaL.mp (qaY.mp h).1
theorem Zd5{ls:List B5}{w:Int}:(eZ ls w).length≤ls.length:=qaz (qbT _ _) (by simp)
theorem ZdF{ls:List B5}{w:Int}:(ek ls w).length≤ls.length:=qaz (qbT _ _) (by simp)
noncomputable def bump (f:Nat→Int) (hs:List Int) (is:List Nat):List Int:=is.foldl (λhs i=>hs.set i (hs.getD i 0+f i)) hs
theorem W6(f:Nat→Int):∀(is:List Nat)(hs:List Int),(bump f hs is).length=hs.length
 | [],_=>rfl
 |i::is,hs=>by
  show(bump f (hs.set i _) is).length=_;rw[W6 f is,qbS]
theorem v8(f:Nat→Int):∀(is:List Nat)(hs:List Int)(j:Nat),is.Nodup→j<hs.length→(bump f hs is).getD j 0=hs.getD j 0+if j∈is then f j else 0
 | [],hs,j,_,_=>by simp[bump]
 |i::is,hs,j,nd,aJ=>by
  obtain⟨f4,ft⟩:=qbu.mp nd;show(bump f (hs.set i (hs.getD i 0+f i)) is).getD j 0=_;rw[v8 f is _ j ft (by rw[qbS];exact aJ)]
  by_cases e:i=j
  ·subst e;have aW:(hs.set i (hs.getD i 0+f i)).getD i 0=hs.getD i 0+f i:=by rw[qa9,qbr aJ];rfl
   rw[aW,if_neg f4,if_pos qaZ,Int.add_zero]
  ·have aW:(hs.set i (hs.getD i 0+f i)).getD j 0=hs.getD j 0:=by rw[qa9,qbB e,qa9]
   rw[aW];have:(j∈i::is)↔j∈is:=by simp[qbJ e]
   simp only[this]
theorem Bm(n:Nat)(c:Nat→Bool):((List.range n).filter c).Nodup:=List.nodup_range.filter c
theorem Ic{rows:List B5}{hs:List Int}{w:Int}(h:hs.length=rows.length):
  bump (λi=>(rows.getD i dB).give) (bump (λi=>-(rows.getD i dB).take) hs (eZ rows w)) (ek rows w)=kU rows hs w:=by
 have l1:=W6 (λi=>-(rows.getD i dB).take) (eZ rows w) hs;refine qaw (by rw[W6,l1,v7 h]) λi ai aw=>?_;rw[W6,l1] at ai;have av:i<rows.length:=by omega
 rw[Zca av ai aw];have fh:∀(xs:List Int)(ao:i<xs.length),xs[i]=xs.getD i 0:=λxs ao=>by simp[List.getD,ao]
 rw[fh _ (by rw[W6,l1];exact ai),v8 _ (ek rows w) _ _ (Bm _ _) (by rw[l1];exact ai),v8 _ (eZ rows w) _ _ (Bm _ _) ai,←fh hs ai];have mM:rows.getD i dB=rows[i]:=by simp[List.getD,av]
 have iz:i∈eZ rows w↔rows[i].taker=w:=by
  unfold eZ;rw[qaY,qaL,mM,decide_eq_true_eq];exact⟨λz=>z.2,λz=>⟨av,z⟩⟩
 have ii:i∈ek rows w↔rows[i].giver=w:=by
  unfold ek;rw[qaY,qaL,mM,decide_eq_true_eq];exact⟨λz=>z.2,λz=>⟨av,z⟩⟩
 simp only[iz,ii,mM]
 split<;>split<;>omega
theorem LL.at{H:Hp}{ls:List (List (Int×Int))}{cN:List Addr}{w:Int}{l:List (Int×Int)}(h:LL H ls cN)(c8:0≤w)(e:ls[w.toNat]? =some l):∃x vs,atI (cN.map V.ref) w=some (.ref x)∧H x=some (.lst vs)∧Vp H l vs:=by
 obtain⟨x,ai,vs,aw,cC⟩:=Paired.get h e;refine⟨x,vs,?_,aw,cC⟩;have:=gS (xs:=cN.map V.ref) (j:=w.toNat) (v:= .ref x) (by rw[qaj,ai];rfl)
 rwa [qa6 c8] at this
theorem LL.len{H:Hp}{ls:List (List (Int×Int))}{cN:List Addr}(h:LL H ls cN):cN.length=ls.length:=(Paired.length h).symm
theorem Bn{H:Hp}{jb:List Nat}{f:Nat→Int}{ys:List V}(h:Paired (λi v=>∃t,v=V.ref t∧H t=some (.tup [.int (jb.getD i 0:Nat),.int (f (jb.getD i 0))])) ((List.range (jb.map λi:Nat=>V.int i).length).filter λ_=>true) ys):Vp H (jb.map λi:Nat=>((i:Int),f i)) ys:=by
 rw[GE] at h;have ai:Paired (λ(j:Nat) v=>∃t,v=V.ref t∧H t=some (.tup [.int (j:Nat),.int (f j)])) jb ys:=Zgr (L:=jb) (d:=0) h;refine qw (by rw[GE];exact Paired.length ai) λi x y aW a7=>?_;rw[qaj] at aW;cases e:jb[i]? with
 |none=>rw[e] at aW;cases aW
 |some j=>
  rw[e] at aW;cases aW;obtain⟨lO,c_,cC⟩:=Paired.get ai e;rw[a7] at c_;cases c_;exact cC
theorem Bo{ls:List B5}{w:Int}{n:Nat}(h:n=ls.length):∀x∈hQ ls w,0≤x.1∧x.1<n:=by
 intro x ao;obtain⟨i,hi,rfl⟩:=qah.mp ao;have:=Zbu hi;show 0≤(i:Int)∧(i:Int)<n;omega
theorem ZcE{ls:List B5}{w:Int}:(hQ ls w).length≤ls.length:=by unfold hQ;rw[GE];exact Zd5
theorem ZeW{f:Nat→Int}{hs:List Int}{is:List Nat}{i:Nat}(h:i<is.length):bump f hs (is.take (i+1))=(bump f hs (is.take i)).set is[i] ((bump f hs (is.take i)).getD is[i] 0+f is[i]):=by
 unfold bump;rw[qam h,List.foldl_append]
 rfl
theorem ZjS{jb:List Nat}{f:Nat→Int}{H:Hp}{vs:List V}{i:Nat}(h:Vp H (jb.map λi:Nat=>((i:Int),f i)) vs)(hi:i<jb.length):∃t,vs.getD i .non= .ref t∧H t=some (.tup [.int (jb[i]:Nat),.int (f jb[i])]):=by
 obtain⟨v,cn,t,rfl,cu⟩:=Paired.get h (i:=i) (x:=((jb[i]:Int),f jb[i])) (by rw[qaj,GT hi];rfl);exact⟨t,by simp[List.getD,cn],cu⟩
noncomputable def fB (b:B5) (s:Int):Fire.Belt:=⟨b.giver.toNat,b.taker.toNat,b.give,b.take,s⟩
noncomputable def fBs (ls:List B5) (st:List Int):List Fire.Belt:=(ls.zip st).map λx=>fB x.1 x.2
noncomputable def gF (ls:List B5) (st:List Int) (d:Nat→Nat):List Int:=(fBs ls st).map λb=>Fire.lie b d
noncomputable def ew (rs:List Int) (v:Nat):Nat:=(rs.getD v 0).toNat
noncomputable def fz (ls:List B5) (st rs:List Int) (d:Nat→Nat) (v:Nat):Bool:=decide (d v<ew rs v)&&WI ls (gF ls st d) v
noncomputable def iR (ls:List B5) (st rs:List Int) (d:Nat→Nat):List Bool:=(List.range rs.length).map λv=>fz ls st rs d v
noncomputable def e4 (rs:List Int) (d:Nat→Nat):List Int:=(List.range rs.length).map λv=>(ew rs v:Int)-(d v:Int)
noncomputable abbrev fA (ls:List B5) (st rs:List Int):(Nat→Nat)→Nat→Prop:=Fire.May (fBs ls st) rs.length (ew rs)
def hB(ls:List B5)(st rs:List Int)(d:Nat→Nat)(w:Nat):Prop:=fA ls st rs d w∧∀v<w,¬fA ls st rs d v
theorem hR{ls:List B5}{st:List Int}{d:Nat→Nat}(h:st.length=ls.length):(gF ls st d).length=ls.length:=by simp[gF,fBs,h]
theorem kW{ls:List B5}{st:List Int}{d:Nat→Nat}{j:Nat}(h:st.length=ls.length)(aJ:j<ls.length):(gF ls st d)[j]'(by rw[hR h];exact aJ)=Fire.lie (fB ls[j] (st[j]'(by omega))) d:=by simp[gF,fBs]
theorem Zek{ls:List B5}{st:List Int}(h:st.length=ls.length){b:Fire.Belt}(ag:b∈fBs ls st):∃(j:Nat)(aJ:j<ls.length),b=fB ls[j] (st[j]'(by omega)):=by
 obtain⟨j,aJ,rfl⟩:=qbp.mp ag;have eS:j<ls.length:=by simp[fBs,h] at aJ;exact aJ
 exact⟨j,eS,by simp[fBs]⟩
theorem sK{ls:List B5}{st:List Int}(h:st.length=ls.length){j:Nat}(aJ:j<ls.length):fB ls[j] (st[j]'(by omega))∈fBs ls st:=
 qah.mpr ⟨(ls[j],st[j]'(by omega)),qbp.mpr ⟨j,by simp[h,aJ],by simp⟩,rfl⟩
theorem sL{ls:List B5}{hs:List Int}{w:Int}(h:hs.length=ls.length):WI ls hs w=true↔∀(j:Nat)(aJ:j<ls.length),ls[j].taker=w→ls[j].take≤hs[j]'(by omega):=by
 unfold WI;rw[qbx]
 constructor
 ·intro q j aJ e;have:=q (ls[j],hs[j]'(by omega)) (qbp.mpr ⟨j,by simp[h,aJ],by simp⟩);simpa[e] using this
 ·intro q x ao;obtain⟨j,aJ,rfl⟩:=qbp.mp ao;have eS:j<ls.length:=by simp[h] at aJ;exact aJ
  by_cases e:ls[j].taker=w
  ·have:=q j eS e;simp[e,this]
  ·simp[e]
section
variable {ls:List B5}{st rs:List Int}{d:Nat→Nat}{n:Nat}
theorem nT(h:st.length=ls.length)(ag:ZC ls n){v:Nat}(cn:v<rs.length):fz ls st rs d v=true↔fA ls st rs d v:=by
 unfold fz;rw[qa2,decide_eq_true_eq,sL (hR h)]
 constructor
 ·rintro⟨ai,aw⟩;refine⟨cn,ai,λb a6 cu=>?_⟩;obtain⟨j,aJ,rfl⟩:=Zek h a6;have:=aw j aJ (by have:=ag ls[j] (fm aJ);have jc:ls[j].taker.toNat=v:=cu;omega);rw[kW h aJ] at this;exact this
 ·rintro⟨_,ai,aw⟩;refine⟨ai,λj aJ e=>?_⟩;rw[kW h aJ];exact aw _ (sK h aJ) (by show ls[j].taker.toNat=v;omega)
theorem Bp(h:st.length=ls.length)(ag:ZC ls n){v:Nat}(cn:v<rs.length):fz ls st rs d v=false↔¬fA ls st rs d v:=by
 rw[←nT h ag cn];simp
theorem Zgi{v:Nat}(cn:v<rs.length):(iR ls st rs d)[v]? =some (fz ls st rs d v):=by simp[iR,cn]
theorem Ie:(iR ls st rs d).length=rs.length:=by simp[iR]
theorem v9:(e4 rs d).length=rs.length:=by simp[e4]
theorem Bq{v:Nat}(cn:v<rs.length):(e4 rs d).getD v 0=(ew rs v:Int)-(d v:Int):=by simp[e4,List.getD,cn]
theorem Ig(h:st.length=ls.length)(ag:ZC ls n)(q:true∉iR ls st rs d):∀w,¬fA ls st rs d w:=λw r=>q (by
 have:=(nT h ag r.1).mpr r;rw[←this];exact qah.mpr ⟨w,by simpa using r.1,rfl⟩)
theorem Br{b:Fire.Belt}{w:Nat}:Fire.lie b (Fire.bump d w)=Fire.lie b d-(if b.taker=w then b.take else 0)+(if b.giver=w then b.give else 0):=by
 unfold Fire.lie
 by_cases aW:b.giver=w<;>by_cases a7:b.taker=w<;>simp only[aW,a7,if_true,if_false,Fire.VG,Fire.VE,ne_eq,not_false_eq_true,Int.natCast_add,Int.mul_add,Int.natCast_one,Int.mul_one]<;>omega
theorem Bs(h:st.length=ls.length)(ag:ZC ls n)(w:Nat):kU ls (gF ls st d) w=gF ls st (Fire.bump d w):=by
 refine qaw (by rw[v7 (hR h),hR h,hR h]) λj ai aw=>?_;have aJ:j<ls.length:=by rw[hR h] at aw;exact aw
 rw[Zca aJ (by rw[hR h];exact aJ) ai,kW h aJ,kW h aJ,Br];have qz:=ag ls[j] (fm aJ);have aW:(ls[j].taker=(w:Int))↔((fB ls[j] (st[j]'(by omega))).taker=w):=by show _↔ls[j].taker.toNat=w;omega
 have a7:(ls[j].giver=(w:Int))↔((fB ls[j] (st[j]'(by omega))).giver=w):=by show _↔ls[j].giver.toNat=w;omega
 simp only[aW,a7]
 rfl
def ZaR(ls:List B5)(w:Int)(di:List Int):Prop:=di.Pairwise (· < ·)∧∀x,x∈di↔x=w∨∃i∈ek ls w,(ls.getD i dB).taker=x
theorem Ih(h:st.length=ls.length)(ag:ZC ls n){w v:Nat}{di:List Int}(cu:ZaR ls w di)(cn:(v:Int)∉di):fz ls st rs (Fire.bump d w) v=fz ls st rs d v:=by
 have jt:=mt (cu.2 v).mpr cn;have Ii:v≠w:=λe=>jt (.inl (by rw[e]));unfold fz;rw[Fire.VE d Ii]
 congr 1
 rw[qbn,sL (hR h),sL (hR h)];have f5:∀(j:Nat)(aJ:j<ls.length),ls[j].taker=(v:Int)→(gF ls st (Fire.bump d w))[j]'(by rw[hR h];exact aJ)=(gF ls st d)[j]'(by rw[hR h];exact aJ):=λj aJ e=>by
  have qz:=ag ls[j] (fm aJ);rw[kW h aJ,kW h aJ,Br,if_neg (by show ¬ls[j].taker.toNat=w;omega),if_neg ?_]
  ·omega
  ·intro z;have fl:ls[j].giver.toNat=w:=z;refine jt (.inr ⟨j,?_,?_⟩)
   ·unfold ek;rw[qaY];exact⟨by simpa using aJ,by simp[List.getD,aJ];omega⟩
   ·simp[List.getD,aJ,e]
 constructor
 ·intro q j aJ e;rw[←f5 j aJ e];exact q j aJ e
 ·intro q j aJ e;rw[f5 j aJ e];exact q j aJ e
end
noncomputable def startsL (ls:List B5):List Int:=ls.map B5.start
def TL(H:Hp)(ls:List B5)(n:Nat)(g5:List Addr):Prop:=g5.length=n∧∀v<n,∃di:List Int,H (g5.getD v 0)=some (.lst (di.map V.int))∧ZaR ls v di
noncomputable def qA (ls:List B5) (n:Nat):List (List (Int×Int)):=(List.range n).map λw:Nat=>hQ ls w
noncomputable def Bt (ls:List B5) (n:Nat):List (List (Int×Int)):=(List.range n).map λw:Nat=>oQ ls w
def kX{K:Frag}{mg:Str→Option Value}(T:Tp K mg)(H:Hp)(p:Addr)(ls:List B5)(rs:List Int):Prop:=
 ∃(aY a b c d e:Addr)(cN lR g5:List Addr)(bs:List V),H p=some (.ins T.b aY [("turns",.ref a),("rows",.ref b),("takes",.ref c),("gives",.ref d),("touched",.ref e)])∧H a=some (.lst (rs.map V.int))∧H b=some (.lst bs)∧d7 H bs ls∧
  H c=some (.lst (cN.map V.ref))∧LL H (qA ls rs.length) cN∧H d=some (.lst (lR.map V.ref))∧LL H (Bt ls rs.length) lR∧H e=some (.lst (g5.map V.ref))∧TL H ls rs.length g5
theorem kX.same{K:Frag}{mg:Str→Option Value}{T:Tp K mg}{H H':Hp}{p:Addr}{ls:List B5}{rs:List Int}(h:kX T H p ls rs)(s:Zf H H'):kX T H' p ls rs:=by
 obtain⟨aY,a,b,c,d,e,cN,lR,g5,bs,ai,cC,c3,eE,dS,jd,kY,oR,iS,qB,mO⟩:=h;have kC:∀{kI:List (List (Int×Int))}{is:List Addr},LL H kI is→LL H' kI is:=λ{kI is} l=>l.keep (λb xs z=>s _ _ z) λx ao=>by
  cases q:H x with
  |none=>exact absurd q (l.dom x ao)
  |some o=>exact s _ _ q
 exact⟨aY,a,b,c,d,e,cN,lR,g5,bs,s _ _ ai,s _ _ cC,s _ _ c3,eE.keep λb xs z=>s _ _ z,s _ _ dS,kC jd,s _ _ kY,kC oR,s _ _ iS,qB,λv cn=>(let⟨di,x,y⟩:=mO v cn;⟨di,s _ _ x,y⟩)⟩
theorem Zhg{K:Frag}{mg:Str→Option Value}{T:Tp K mg}{H:Hp}{p:Addr}{ls:List B5}{rs:List Int}{m:Str}{G:Prop}(h:kX T H p ls rs)(iz:(m== "turns")=false)(ii:(m== "rows")=false)(Ij:(m== "takes")=false)(Ik:(m== "gives")=false)(oS:(m== "touched")=false)(q:G):∃a aY fs,V.ref p= .ref a∧H a=some (.ins T.b aY fs)∧fs.lookup m=none∧G:=by
 obtain⟨aY,a,b,c,d,e,cN,lR,g5,bs,ai,_⟩:=h;exact⟨p,aY,_,rfl,ai,Rd.lk1 iz (Rd.lk1 ii (Rd.lk1 Ij (Rd.lk1 Ik (Rd.lk1 oS Rd.lkN)))),q⟩
theorem Zeh{n:Nat}{P:Nat→Addr→Prop}{ys:List V}(h:Paired (λ(i:Nat) v=>∃x,v=V.ref x∧P i x) (List.range n) ys):∃cN:List Addr,ys=cN.map V.ref∧cN.length=n∧∀i<n,P i (cN.getD i 0):=by
 have af:n=ys.length:=by have:=Paired.length h;simpa using this
 have ao:∀i:Nat,i<n→∃x,ys[i]? =some (V.ref x)∧P i x:=λi hi=>by
  obtain⟨y,ai,x,rfl,ao⟩:=Paired.get h (i:=i) (x:=i) (by simp[hi]);exact⟨x,ai,ao⟩
 refine⟨(List.range n).map λi=>if hi:i<n then(ao i hi).choose else 0,List.ext_getElem? λi=>?_,by simp,λi hi=>?_⟩
 ·by_cases hi:i<n
  ·rw[(ao i hi).choose_spec.1];simp[hi]
  ·rw[qaW (by omega),qaW (by simp;omega)]
 ·have:=(ao i hi).choose_spec.2;simpa[List.getD,hi] using this
noncomputable def hS (f:Nat→Nat) (n:Nat):Nat:=((List.range n).map f).sum
theorem ko(f:Nat→Nat)(n:Nat):hS f (n+1)=hS f n+f n:=by simp[hS,qb3]
theorem Bu(c:Nat→Nat){w:Nat}:∀{n:Nat},w<n→hS (Fire.bump c w) n=hS c n+1
 |0,h=>absurd h (qaH _)
 |n+1,h=>by
  rw[ko,ko];rcases qaC w n with z|z
  ·rw[Bu c z,Fire.VE c (by omega)];omega
  ·obtain rfl:w=n:=by omega
   have:∀k,k≤w→hS (Fire.bump c w) k=hS c k:=by
    intro k
    induction k with
    |zero=>intro _;rfl
    |succ k cO=>intro aR;rw[ko,ko,cO (by omega),Fire.VE c (by omega)]
   rw[this w (FM _),Fire.VG];omega
theorem qC{f g:Nat→Nat}:∀{n:Nat},(∀v<n,f v≤g v)→hS f n≤hS g n
 |0,_=>FM _
 |n+1,h=>by
  rw[ko,ko];exact Nat.add_le_add (qC λv cn=>h v (by omega)) (h n (by omega))
theorem Bv{f g:Nat→Nat}:∀{n:Nat},(∀v<n,f v≤g v)→hS f n=hS g n→∀v<n,f v=g v
 |0,_,_=>λv cn=>absurd cn (qaH _)
 |n+1,h,e=>by
  rw[ko,ko] at e;have ai:=qC (n:=n) λv cn=>h v (by omega);have aw:=h n (by omega);intro v cn;rcases qaC v n with z|z
  ·exact Bv (λv cn=>h v (by omega)) (by omega) v z
  ·obtain rfl:v=n:=by omega
   omega
noncomputable def tot (rs:List Int):Nat:=hS (ew rs) rs.length
theorem Zes{rs:List Int}(h:∀r∈rs,0≤r):(tot rs:Int)=rs.sum:=by
 unfold tot;have:∀k,k≤rs.length→(hS (ew rs) k:Int)=(rs.take k).sum:=by
  intro k
  induction k with
  |zero=>intro _;rfl
  |succ k cO=>
   intro aR;have nB:k<rs.length:=by omega
   rw[ko,qam nB,List.sum_append,Int.natCast_add,cO (by omega)];have:=h rs[k] (fm nB);have e:ew rs k=rs[k].toNat:=by simp[ew,List.getD,nB]
   rw[e];simp;omega
 rw[this rs.length (FM _),qa4]
section
variable {ls:List B5}{st rs:List Int}{d:Nat→Nat}{ck:List Nat}
theorem oT{c:Nat→Nat}(h:Fire.Yq (hB ls st rs) c ck d):Fire.Yq (fA ls st rs) c ck d:=by
 induction h with
 |nil c=>exact .nil c
 |cons r _ cO=>exact .cons r.1 cO
theorem Zl8{c:Nat→Nat}(h:Fire.Yq (fA ls st rs) c ck d)(c8:∀v<rs.length,c v≤ew rs v):(∀v<rs.length,d v≤ew rs v)∧hS d rs.length=hS c rs.length+ck.length:=by
 induction h with
 |nil c=>exact⟨c8,rfl⟩
 | @cons c d w ck r _ cO=>
  obtain⟨a,b⟩:=cO λv cn=>by
   by_cases e:v=w
   ·subst e;rw[Fire.VG];exact r.2.1
   ·rw[Fire.VE c e];exact c8 v cn
  refine⟨a,?_⟩;rw[b,Bu c r.1,List.length_cons];omega
theorem Bw:∀n,hS (λ_=>0) n=0
 |0=>rfl
 |n+1=>by rw[ko,Bw n]
theorem sM(h:Fire.Yq (fA ls st rs) (λ_=>0) ck d):(∀v<rs.length,d v≤ew rs v)∧ck.length=hS d rs.length∧ck.length≤tot rs:=by
 obtain⟨a,b⟩:=Zl8 h λ_ _=>qaA _;rw[Bw,qce] at b;exact⟨a,b.symm,by rw[←b];exact qC a⟩
theorem ZhF(h:Fire.Yq (fA ls st rs) (λ_=>0) ck d){w:Nat}(r:fA ls st rs d w):ck.length<tot rs:=by
 have:=(sM (h.snoc r)).2.2;rw[qac,qaO] at this;omega
end
theorem Bx:∀ys:List Bool,inV (.bl true) (ys.map V.bl)=decide (true∈ys)
 | []=>rfl
 |y::ys=>by
  have e:inV (.bl true) ((y::ys).map V.bl)=(eqV (.bl y) (.bl true)||inV (.bl true) (ys.map V.bl)):=rfl;rw[e,Bx ys];cases y<;>simp[eqV]
theorem Il(ys:List Bool):(ys.map V.bl).all lx=true:=by
 rw[List.all_map,qbx];intro _ _
 rfl
theorem By:∀{bs:List Bool},true∈bs→∃j:Nat,bs[j]? =some true∧∀m<j,bs[m]? =some false
 |true::bs,_=>⟨0,rfl,λm h=>absurd h (qaH m)⟩
 |false::bs,h=>by
  obtain⟨j,ai,aw⟩:=By (bs:=bs) (by simpa using h);exact⟨j+1,by simpa using ai,λm a6=>by
   cases m with
   |zero=>rfl
   |succ m=>simpa using aw m (by omega)⟩
theorem Zi0{rs:List Int}{d:Nat→Nat}{w:Nat}(hw:w<rs.length):(e4 rs d).set w ((e4 rs d).getD w 0-1)=e4 rs (Fire.bump d w):=by
 refine qaw (by simp[e4]) λv ai aw=>?_;have cn:v<rs.length:=by simpa[e4] using aw
 have fh:=Bq (d:=d) hw;generalize (e4 rs d).getD w 0=y at*;subst fh;rw[List.getElem_set]
 by_cases e:w=v
 ·subst e;simp[e4,Fire.VG];omega
 ·rw[if_neg e];simp[e4,Fire.VE d (qbJ e)]
noncomputable def jA (ls:List B5) (st rs:List Int) (d d':Nat→Nat) (di:List Int):List Bool:=(List.range rs.length).map λv:Nat=>if(v:Int)∈di then fz ls st rs d' v else fz ls st rs d v
theorem Im{ls:List B5}{st rs:List Int}{d d':Nat→Nat}:jA ls st rs d d' []=iR ls st rs d:=by simp[jA,iR]
theorem Io{ls:List B5}{st rs:List Int}{d:Nat→Nat}{n w:Nat}{di:List Int}(h:st.length=ls.length)(ag:ZC ls n)(cu:ZaR ls w di):jA ls st rs d (Fire.bump d w) di=iR ls st rs (Fire.bump d w):=by
 unfold jA iR;refine List.map_congr_left λv _=>?_
 split
 ·rfl
 ·rename_i z;exact(Ih h ag cu z).symm
theorem Ze1{ls:List B5}{st rs:List Int}{d d':Nat→Nat}{di:List Int}{v:Nat}:(jA ls st rs d d' di).set v (fz ls st rs d' v)=jA ls st rs d d' (di++ [(v:Int)]):=by
 refine qaw (by simp[jA]) λi ai aw=>?_;have hi:i<rs.length:=by simpa[jA] using aw
 rw[List.getElem_set]
 by_cases e:v=i
 ·subst e;simp[jA]
 ·rw[if_neg e];have:¬((i:Int)=(v:Int)):=λz=>e (by omega);simp[jA,this,qbJ e]
def hT(ls:List B5)(rs st cs:List Int)(j:Nat):Prop:=cs.getD (ls.getD j dB).taker.toNat 0<rs.getD (ls.getD j dB).taker.toNat 0∧st.getD j 0+(ls.getD j dB).give*cs.getD (ls.getD j dB).giver.toNat 0-(ls.getD j dB).take*cs.getD (ls.getD j dB).taker.toNat 0<(ls.getD j dB).take
structure VN(ls:List B5)(rs st cs:List Int)(n:Nat)(kvs:List (Key×V)):Prop where
 val:∀i y,valV kvs (Sum.inl i)=some y→∃j<n,y= .int j∧(ls.getD j dB).taker=i∧hT ls rs st cs j
 all:∀j<n,hT ls rs st cs j→∃y,valV kvs (Sum.inl (ls.getD j dB).taker)=some y
 keys:∃c5:List Int,kvs.map (·.1)=c5.map Sum.inl∧∀i∈c5,∃y,valV kvs (Sum.inl i)=some y
 len:kvs.length≤n
theorem VN.nil{ls:List B5}{rs st cs:List Int}:VN ls rs st cs 0 []:=⟨λ_ _ h=>by simp[Zc9] at h,λ_ h=>absurd h (qaH _),⟨[],rfl,by simp⟩,FM _⟩
theorem VN.skip{ls:List B5}{rs st cs:List Int}{n:Nat}{kvs:List (Key×V)}(h:VN ls rs st cs n kvs)(bA:hT ls rs st cs n→∃y,valV kvs (Sum.inl (ls.getD n dB).taker)=some y):VN ls rs st cs (n+1) kvs:=
 ⟨λi y e=>(let⟨j,aJ,r⟩:=h.val i y e;⟨j,by omega,r⟩),λj aJ s=>by
  rcases qaC j n with z|z
  ·exact h.all j z s
  ·obtain rfl:j=n:=by omega
   exact bA s,h.keys,Nat.le_succ_of_le h.len⟩
theorem VN.add{ls:List B5}{rs st cs:List Int}{n:Nat}{kvs:List (Key×V)}(h:VN ls rs st cs n kvs)(hs:hT ls rs st cs n)(bA:valV kvs (Sum.inl (ls.getD n dB).taker)=none):VN ls rs st cs (n+1) (eF kvs (Sum.inl (ls.getD n dB).taker) (.int n)):=by
 refine⟨λi y e=>?_,λj aJ s=>?_,?_,?_⟩
 ·rw[ot] at e
  split at e
  ·rename_i q;cases e;exact⟨n,qbI _,rfl,(qb6 q).symm,hs⟩
  ·obtain⟨j,aJ,r⟩:=h.val i y e;exact⟨j,by omega,r⟩
 ·rw[ot]
  split
  ·exact⟨_,rfl⟩
  ·rename_i q;rcases qaC j n with z|z
   ·exact h.all j z s
   ·exact absurd (by rw[show j=n by omega]) q
 ·obtain⟨c5,e,r⟩:=h.keys;refine⟨c5++ [(ls.getD n dB).taker],by rw[Vs _ bA,qaG,e];simp,λi hi=>?_⟩;rw[ot]
  split
  ·exact⟨_,rfl⟩
  ·rename_i q;rcases qar.mp hi with z|z
   ·exact r i z
   ·exact absurd (by rw[qab.mp z]) q
 ·rw[Vs _ bA,qac,qaO];have:=h.len;omega
noncomputable def fH (ls:List B5) (j:Nat):Int:=(ls.getD j dB).taker
noncomputable def lS (ls:List B5) (j:Nat):Int:=(ls.getD j dB).giver
structure WE(ls:List B5)(rs st cs:List Int)(ring:List Nat):Prop where
 ne:ring≠[]
 inn:∀j∈ring,j<ls.length∧hT ls rs st cs j
 nd:(ring.map (fH ls)).Nodup
 link:∀i<ring.length,lS ls (ring.getD i 0)=fH ls (ring.getD ((i+1) % ring.length) 0)
structure VM(ls:List B5)(rs st cs:List Int)(ys:List Nat)(w:Int)(pl:List (Key×V)):Prop where
 inn:∀j∈ys,j<ls.length∧hT ls rs st cs j
 nd:(ys.map (fH ls)).Nodup
 link:∀i<ys.length,lS ls (ys.getD i 0)=(ys.map (fH ls)++ [w]).getD (i+1) 0
 at_:∀i<ys.length,valV pl (Sum.inl (fH ls (ys.getD i 0)))=some (.int i)
 no:∀a,a∉ys.map (fH ls)→valV pl (Sum.inl a)=none
 len:pl.length≤ys.length
section
variable {ls:List B5}{rs st cs:List Int}{ys:List Nat}{w:Int}{pl:List (Key×V)}
theorem VM.nil(w:Int):VM ls rs st cs [] w []:=⟨by simp,by simp,λi h=>absurd h (qaH _),λi h=>absurd h (qaH _),λa _=>Zc9,FM _⟩
theorem VM.short{n:Nat}(h:VM ls rs st cs ys w pl)(ag:ZC ls n):ys.length≤n:=by
 have:=Fo.Vn (n:=n) h.nd (λa aZ=>by
  obtain⟨j,aJ,rfl⟩:=qah.mp aZ;have hL:=(h.inn j aJ).1;have:=ag ls[j] (fm hL);unfold fH;rw[dm hL];omega)
 simpa using this
theorem VM.step(h:VM ls rs st cs ys w pl)(hw:valV pl (Sum.inl w)=none){j:Nat}(aJ:j<ls.length)(hs:hT ls rs st cs j)(cu:fH ls j=w):VM ls rs st cs (ys++ [j]) (lS ls j) (eF pl (Sum.inl w) (.int ys.length)):=by
 have Bz:w∉ys.map (fH ls):=λz=>by
  obtain⟨i,hi,e⟩:=qat z;have dv:i<ys.length:=by simpa using hi
  have:=h.at_ i dv;rw[dm dv] at this;rw[qbf] at e;rw[e,hw] at this;cases this
 refine⟨λi hi=>?_,?_,λi hi=>?_,λi hi=>?_,λa aZ=>?_,?_⟩
 ·rcases qar.mp hi with z|z
  ·exact h.inn i z
  ·rw[qab.mp z];exact⟨aJ,hs⟩
 ·rw[qaG];refine qbs.mpr ⟨h.nd,by simp,λa aZ b ag e=>?_⟩;obtain rfl:b=fH ls j:=by simpa using ag
  rw[cu] at e;exact Bz (e▸aZ)
 ·rw[qac,qaO] at hi;rcases qaC i ys.length with z|z
  ·have aW:(ys++ [j]).getD i 0=ys.getD i 0:=by simp[List.getD,qaB z]
   rw[aW,h.link i z,qaG,List.map_singleton,cu];have af:(ys.map (fH ls)++ [w]).length=ys.length+1:=by simp
   simp only[List.getD];rw[qaB (l₁:=ys.map (fH ls)++ [w]) (by rw[af];omega)]
  ·obtain rfl:i=ys.length:=by omega
   have aW:(ys++ [j]).getD ys.length 0=j:=by simp[List.getD]
   rw[aW];have af:(((ys++ [j]).map (fH ls)).length)=ys.length+1:=by simp
   simp only[List.getD];rw[qaJ (by rw[af];exact FM _),af,Nat.sub_self]
   rfl
 ·rw[qac,qaO] at hi;rw[ot];rcases qaC i ys.length with z|z
  ·have aW:(ys++ [j]).getD i 0=ys.getD i 0:=by simp[List.getD,qaB z]
   rw[aW,if_neg (λe=>Bz (by rw[←qb6 e,dm z];exact qah.mpr ⟨_,fm z,rfl⟩))];exact h.at_ i z
  ·obtain rfl:i=ys.length:=by omega
   have aW:(ys++ [j]).getD ys.length 0=j:=by simp[List.getD]
   rw[aW,cu,if_pos rfl]
 ·rw[qaG,qar,List.map_singleton,qab,cu] at aZ;rw[ot,if_neg (λe=>aZ (.inr (qb6 e)))];exact h.no a λz=>aZ (.inl z)
 ·rw[Vs _ hw,qac,qac,qaO,qaO];have:=h.len;omega
theorem VM.ring(h:VM ls rs st cs ys w pl){y:V}(hw:valV pl (Sum.inl w)=some y):∃m:Nat,y= .int m∧m<ys.length∧WE ls rs st cs (ys.drop m):=by
 have a6:w∈ys.map (fH ls):=by
  by_cases z:w∈ys.map (fH ls)
  ·exact z
  ·rw[h.no w z] at hw;cases hw
 obtain⟨m,v_,e⟩:=qat a6;have hJ:m<ys.length:=by simpa using v_
 have aW:=h.at_ m hJ;have a7:fH ls (ys.getD m 0)=w:=by rw[dm hJ];simpa using e
 rw[a7,hw] at aW;cases aW;refine⟨m,rfl,hJ,λz=>?_,λj aJ=>h.inn j (qbq aJ),?_,λi hi=>?_⟩
 ·have:=congrArg List.length z;simp at this;omega
 ·rw[List.map_drop];exact h.nd.sublist (qcc _ _)
 ·rw[qa1] at hi;have g1:(ys.drop m).getD i 0=ys.getD (m+i) 0:=by simp[List.getD]
  rw[g1,h.link (m+i) (by omega),qa1];rcases qaC (m+i+1) ys.length with z|z
  ·rw[Nat.mod_eq_of_lt (by omega)];have g2:(ys.drop m).getD (i+1) 0=ys.getD (m+i+1) 0:=by simp[List.getD,Nat.add_assoc]
   rw[g2,dm z];simp only[List.getD];rw[qaB (by simpa using z)];simp[z]
  ·have gL:i+1=ys.length-m:=by omega
   rw[gL,Nat.mod_self];have g2:(ys.drop m).getD 0 0=ys.getD m 0:=by simp[List.getD]
   have Ip:m+i+1=ys.length:=by omega
   rw[g2,a7,Ip];simp[List.getD]
end
theorem Iq{xs:List V}{k:Nat}(h:k≤xs.length):iG xs (some (k:Int)) none=xs.drop k:=by
 have aW:HT.sIx xs.length 0 (some (k:Int))=k:=by
  simp only[HT.sIx];rw[if_neg (by omega)];simp;omega
 have a7:HT.sIx xs.length xs.length none=xs.length:=by simp[HT.sIx]
 unfold iG;rw[aW,a7,qaS (by rw[qa1];exact FM _)]
noncomputable def d5 (n:Nat) (d:Nat→Nat):List Int:=(List.range n).map λv=>((d v:Nat):Int)
theorem mP{n:Nat}{d:Nat→Nat}:(d5 n d).length=n:=by simp[d5]
theorem mQ{n v:Nat}{d:Nat→Nat}(h:v<n):(d5 n d).getD v 0=(d v:Int):=by simp[d5,List.getD,h]
def Zaa(ls:List B5)(rs:List Int):Prop:=∀b∈ls,b.give*rs.getD b.giver.toNat 0=b.take*rs.getD b.taker.toNat 0
section
variable {ls:List B5}{rs st:List Int}{d:Nat→Nat}
theorem oU(eA:∀r∈rs,1≤r){v:Nat}(cn:v<rs.length):(ew rs v:Int)=rs.getD v 0:=by
 have:=eA rs[v] (fm cn);unfold ew;rw[dm cn];omega
theorem BA(ei:st.length=ls.length)(cU:ZC ls rs.length)(eA:∀r∈rs,1≤r){j:Nat}(aJ:j<ls.length):hT ls rs st (d5 rs.length d) j↔d ls[j].taker.toNat<ew rs ls[j].taker.toNat∧Fire.lie (fB ls[j] (st[j]'(by omega))) d<ls[j].take:=by
 have ag:=cU ls[j] (fm aJ);have cH:=oU eA (v:=ls[j].taker.toNat) (by omega);have dh:=mQ (d:=d) (n:=rs.length) (v:=ls[j].taker.toNat) (by omega);have dJ:=mQ (d:=d) (n:=rs.length) (v:=ls[j].giver.toNat) (by omega);have aN:st.getD j 0=st[j]'(by omega):=dm (by omega);unfold hT Fire.lie fB;rw[dm aJ,dh,dJ,←cH,aN]
 constructor
 ·rintro⟨a,b⟩;exact⟨by omega,b⟩
 ·rintro⟨a,b⟩;exact⟨by omega,b⟩
theorem ZcW(ei:st.length=ls.length)(cU:ZC ls rs.length)(eA:∀r∈rs,1≤r)(dQ:∀w,¬fA ls st rs d w){v:Nat}(cn:v<rs.length)(hd:d v<ew rs v):∃i<ls.length,fH ls i=(v:Int)∧hT ls rs st (d5 rs.length d) i:=by
 have ai:=mt (nT (d:=d) ei cU cn).mp (dQ v);unfold fz at ai;rw[decide_eq_true hd,qck,sL (hR ei)] at ai
 by_cases z:∃i<ls.length,fH ls i=(v:Int)∧hT ls rs st (d5 rs.length d) i
 ·exact z
 ·refine absurd (λj aJ e=>?_) ai;rw[kW ei aJ];have ns:¬hT ls rs st (d5 rs.length d) j:=λy=>z ⟨j,aJ,by unfold fH;rw[dm aJ];exact e,y⟩;rw[BA ei cU eA aJ] at ns;have ag:=cU ls[j] (fm aJ);have dX:ls[j].taker.toNat=v:=by omega
  rw[dX] at ns;have:=λy=>ns ⟨hd,y⟩;omega
theorem ZiB(ei:st.length=ls.length)(cU:ZC ls rs.length)(eA:∀r∈rs,1≤r)(dQ:∀w,¬fA ls st rs d w)(qD:Zaa ls rs)(jN:∀v<rs.length,d v≤ew rs v)(gO:∀x∈st,0≤x)(hsz:Yb ls){j:Nat}(aJ:j<ls.length)(h:hT ls rs st (d5 rs.length d) j):
  ∃i<ls.length,fH ls i=lS ls j∧hT ls rs st (d5 rs.length d) i:=by
 obtain⟨ai,aw⟩:=(BA ei cU eA aJ).mp h;have ag:=cU ls[j] (fm aJ);have bal:Fire.Bal (fBs ls st) (ew rs):=λb a6=>by
  obtain⟨i,hi,rfl⟩:=Zek ei a6;have mL:=cU ls[i] (fm hi);show ls[i].give*(ew rs ls[i].giver.toNat:Int)=ls[i].take*(ew rs ls[i].taker.toNat:Int);rw[oU eA (by omega),oU eA (by omega)];exact qD _ (fm hi)
 obtain⟨cz,a5,ea,fy,_,_,_,dX⟩:=hsz j aJ;rw[dm aJ] at dX;have aM:=Fire.Zhr (sK ei aJ) bal (gO _ (fm _)) (by show 0≤ls[j].take;omega) (jN _ (show ls[j].giver.toNat<rs.length by omega)) ai aw;obtain⟨i,hi,e,hs⟩:=ZcW ei cU eA dQ (v:=ls[j].giver.toNat) (by omega) aM;exact⟨i,hi,by rw[e];unfold lS;rw[dm aJ];omega,hs⟩
end
structure Rts(ls:List B5)(n:Nat)(z:Int→Nat)(rs:List Int):Prop where
 len:rs.length=n
 pos:∀r∈rs,1≤r
 bal:Zaa ls rs
 wood:∃F,Fo.WR (fb ls) n F n∧∀x∈F,nP ls x rs
def Zmo(e5:List Int):Prop:=∀s∈e5,0<s∧s≤10 ^ 13
structure oV(e5:List Int)(l:B5):Prop where
 rg:0≤l.giver∧l.giver<(e5.length:Int)∧0≤l.taker∧l.taker<(e5.length:Int)
 sz:∃cz a5:Nat,l.give=(cz:Int)∧l.take=(a5:Int)∧0<cz∧0<a5∧cz<2 ^ 110∧a5<2 ^ 110∧cz*(e5.getD l.giver.toNat 0).toNat=a5*(e5.getD l.taker.toNat 0).toNat
 st:0≤l.start
theorem ZpC{e5:List Int}(h:Zmo e5){g:Int}(c8:0≤g)(ai:g<(e5.length:Int)):∃a:Nat,e5.getD g.toNat 0=(a:Int)∧0<a∧a≤10 ^ 13:=by
 have a6:e5.getD g.toNat 0∈e5:=by rw[dm (by omega)];exact fm _
 obtain⟨eL,eK⟩:=h _ a6;exact⟨(e5.getD g.toNat 0).toNat,by omega,by omega,by omega⟩
theorem Zms{ls:List B5}{ys:List Int}(ax:∀j<ls.length,((ls.getD j dB).giver∈ys↔(ls.getD j dB).taker∈ys)){a w:Int}(h:Fo.WD (fb ls) a w)(aZ:a∈ys):w∈ys:=by
 induction h with
 |refl=>exact aZ
 |step _ m cO=>
  obtain⟨i,hi,a6⟩:=Vu m;rcases Y4.mp a6 with⟨aW,a7⟩|⟨aW,a7⟩
  ·have c_:=congrArg Prod.fst a7;dsimp only at c_;rw[c_];exact(ax i hi).mp (aW▸cO)
  ·have c_:=congrArg Prod.fst a7;dsimp only at c_;rw[c_];exact(ax i hi).mpr (aW▸cO)
noncomputable def ZiX (rs:List Int) (ys:List Int):Nat:=ys.foldl (λc w=>Nat.gcd c (rs.getD w.toNat 0).toNat) 0
theorem v'(rs:List Int):∀(ys:List Int)(c:Nat),ys.foldl (λc w=>Nat.gcd c (rs.getD w.toNat 0).toNat) c ∣ c∧∀w∈ys,ys.foldl (λc w=>Nat.gcd c (rs.getD w.toNat 0).toNat) c ∣ (rs.getD w.toNat 0).toNat
 | [],c=>⟨Nat.dvd_refl c,by simp⟩
 |w::ys,c=>by
  obtain⟨ai,aw⟩:=v' rs ys (Nat.gcd c (rs.getD w.toNat 0).toNat);refine⟨qb0 ai (qby _ _),λv cn=>?_⟩;rcases qaf.mp cn with z|z
  ·rw[z];exact qb0 ai (qbj _ _)
  ·exact aw v z
def ZaO(ls:List B5)(n:Nat)(rs:List Int):Prop:=∀(f:Int)(ys:List Int),0≤f→f<(n:Int)→f∈ys→(∀j<ls.length,((ls.getD j dB).giver∈ys↔(ls.getD j dB).taker∈ys))→ZiX rs ys=1
theorem wb{ls:List B5}{n:Nat}{F:List (Int×Fo.ZK)}{rs:List Int}(e8:Fo.WR (fb ls) n F n)(hP:∀x∈F,nP ls x rs):ZaO ls n rs:=by
 intro f ys dE f1 bB ax;obtain⟨x,ao,aR⟩:=e8.all f dE f1;obtain⟨aM,je,_,_⟩:=e8.tree x ao;obtain⟨zs,hz,Ir⟩:=hP x ao;refine Zg1 aM hz λy a'=>?_;have sN:y.1∈Fo.keys x.2:=by
  have ai:=hz.keys;have aw:(Fo.keys x.2).take x.2.length=Fo.keys x.2:=qaS (by simp[Fo.keys]);rw[aw] at ai;rw[←ai];exact qah.mpr ⟨y,a',rfl⟩
 have cC:=(aM.keys_iff je y.1).mp sN;have c3:=(aM.keys_iff je f).mp aR;have eE:y.1∈ys:=Zms ax (Fo.WD.trans (Fo.WD.symm (sC ls) c3) cC) bB;have dS:=(v' rs ys 0).2 _ eE;have jd:=Ir y a';have kY:rs.getD y.1.toNat 0=((lcmL zs / y.2.2*y.2.1:Nat):Int):=by rw[List.getD,jd];rfl
 rw[kY,qaa] at dS;exact dS
theorem ZcF{ls:List B5}{c:Int→Int}:∀{ps:List (Int×Bool)}{a b:Int},gl (gvI ls) (tkI ls) a ps b→(∀x∈ps,c (gvI ls x.1)*(giN ls x.1:Int)=c (tkI ls x.1)*(taN ls x.1:Int))→c a*(prN (giN ls) (taN ls) ps:Int)=c b*(prN (taN ls) (giN ls) ps:Int)
 | [],_,_,h,_=>by
  have e:_=_:=h;rw[e]
  rfl
 |(x,al)::ps,a,b,h,k=>by
  have cO:=ZcF (ps:=ps) h.2 λy a'=>k y (qas _ a');have ai:=h.1;have k1:=k (x,al) (qaZ ..);show c a*(((if al=true then giN ls x else taN ls x)*prN (giN ls) (taN ls) ps:Nat):Int)=c b*(((if al=true then taN ls x else giN ls x)*prN (taN ls) (giN ls) ps:Nat):Int);rw[qbF,qbF,←ai];dsimp only at k1;cases al with
  |true=>
   show c (gvI ls x)*((giN ls x:Int)*_)=c b*((taN ls x:Int)*_);have wc:c (tkI ls x)*(prN (giN ls) (taN ls) ps:Int)=c b*(prN (taN ls) (giN ls) ps:Int):=cO
   calc c (gvI ls x)*((giN ls x:Int)*(prN (giN ls) (taN ls) ps:Int))=c (gvI ls x)*(giN ls x:Int)*(prN (giN ls) (taN ls) ps:Int):=by rw[qb1]
    _=(taN ls x:Int)*(c (tkI ls x)*(prN (giN ls) (taN ls) ps:Int)):=by rw[k1];simp only[qbR,qcf,qb1]
    _=c b*((taN ls x:Int)*(prN (taN ls) (giN ls) ps:Int)):=by rw[wc];simp only[qbR,qcf,qb1]
  |false=>
   show c (tkI ls x)*((taN ls x:Int)*_)=c b*((giN ls x:Int)*_);have wc:c (gvI ls x)*(prN (giN ls) (taN ls) ps:Int)=c b*(prN (taN ls) (giN ls) ps:Int):=cO
   calc c (tkI ls x)*((taN ls x:Int)*(prN (giN ls) (taN ls) ps:Int))=c (tkI ls x)*(taN ls x:Int)*(prN (giN ls) (taN ls) ps:Int):=by rw[qb1]
    _=(giN ls x:Int)*(c (gvI ls x)*(prN (giN ls) (taN ls) ps:Int)):=by rw[←k1];simp only[qbR,qcf,qb1]
    _=c b*((giN ls x:Int)*(prN (taN ls) (giN ls) ps:Int)):=by rw[wc];simp only[qbR,qcf,qb1]
theorem Zg3{ls:List B5}{n:Nat}{ring:List (Int×Bool)}(hok:kT ls ring)(cU:ZC ls n)(hsz:Yb ls){cs:List Int}(aS:∀w:Int,0≤w→w<(n:Int)→0<cs.getD w.toNat 0):∃x∈ring,ib cs (ls.getD x.1.toNat dB)≠0:=by
 refine Classical.byContradiction λgi=>?_;obtain⟨a,hw⟩:=hok.walk;have ai:=ZcF (c:=λw=>cs.getD w.toNat 0) hw λx ao=>by
  have c8:ib cs (ls.getD x.1.toNat dB)=0:=Classical.byContradiction λz=>gi ⟨x,ao,z⟩;obtain⟨x0,x1⟩:=hok.rg x ao;obtain⟨cz,a5,ea,fy,fC,d4,d9,dX⟩:=hsz x.1.toNat (by omega);unfold ib at c8;unfold giN taN gvI tkI;rw[d9,dX] at c8⊢;rw[qaa,qaa];omega
 apply hok.odd;have aZ:0<cs.getD a.toNat 0:=by
  cases ring with
  |nil=>exact absurd rfl hok.some_
  |cons x ps=>
   have e:ZbS (gvI ls) (tkI ls) x=a:=hw.1;obtain⟨x0,x1⟩:=hok.rg x (qaZ ..);obtain⟨b1,b2,b3,b4⟩:=cU.at (i:=x.1.toNat) (by omega);rw[←e];unfold ZbS gvI tkI
   split
   ·exact aS _ b1 b2
   ·exact aS _ b3 b4
 exact Int.ofNat.inj (Int.eq_of_mul_eq_mul_left (show cs.getD a.toNat 0≠0 by omega) ai)
def kZ(rs e5:List Int):Prop:=rs.length=e5.length∧∀i<rs.length,e5.getD i 0≤rs.getD i 0
theorem BB{f:Nat→Bool}:∀{is:List Nat}{ys:List V},Paired (λi v=>v=V.bl (f i)) is ys→ys=(is.map f).map V.bl
 |_,_,.nil=>rfl
 |_,_,.cons a r=>by rw[a,BB r];rfl
theorem Zfg{n:Nat}{P:Nat→Prop}[∀i,Decidable (P i)]:(((List.range n).map λi=>decide (P i)).all id)=true↔∀i<n,P i:=by
 simp
noncomputable def k4 (b:B5) (r:Int):B5:=⟨b.taker,b.giver,b.take,b.give,r-b.start⟩
noncomputable def dP (ls:List B5) (rs:List Int):List B5:=(List.range ls.length).map λi=>k4 (ls.getD i dB) (rs.getD i 0)
theorem k6{ls:List B5}{rs:List Int}:(dP ls rs).length=ls.length:=by simp[dP]
theorem qE{ls:List B5}{rs:List Int}{j:Nat}(h:j<ls.length):(dP ls rs)[j]'(by rw[k6];exact h)=k4 ls[j] (rs.getD j 0):=by simp[dP,List.getD,h]
theorem sO{H:Hp}{f:Nat→B5}:∀{is:List Nat}{ys:List V},Paired (λi v=>∃u,v=V.ref u∧H u=some (.tup (f i).v)) is ys→d7 H ys (is.map f)
 |_,_,.nil=> .nil
 |_,_,.cons a r=> .cons a (sO r)
theorem d7.app{H:Hp}:∀{bs cs:List V}{ls c5:List B5},d7 H bs ls→d7 H cs c5→d7 H (bs++cs) (ls++c5)
 |_,_,_,_,.nil,h=>h
 |_,_,_,_,.cons x r,h=> .cons x (d7.app r h)
def Zax(hh:List Str):Prop:=hh.Nodup∧(∀x∈hh,i7 x=true)∧hh.length≤30
theorem BC{ls:List B5}{n:Nat}{ring:List (Int×Bool)}{z:Int→Nat}(hok:kT ls ring)(cU:ZC ls n)(hsz:Yb ls)(hz:ZhP ls z):False:=by
 have aM:∀w:Int,0≤w→w<(n:Int)→((List.range n).map λv:Nat=>(z (v:Int):Int)).getD w.toNat 0=(z w:Int):=λw c8 ai=>by
  have:w.toNat<n:=by omega
  have e:((w.toNat:Nat):Int)=w:=by omega
  simp[List.getD,this,e]
 obtain⟨x,ao,ax⟩:=Zg3 hok cU hsz (cs:=(List.range n).map λv:Nat=>(z (v:Int):Int)) (λw c8 ai=>by rw[aM w c8 ai];have:=hz.pos w;omega);refine ax ?_;obtain⟨x0,x1⟩:=hok.rg x ao;have hi:x.1.toNat<ls.length:=by omega
 obtain⟨cz,a5,ea,fy,fC,d4,d9,dX⟩:=hsz _ hi;obtain⟨b1,b2,b3,b4⟩:=cU.at hi;have ag:=hz.bal _ hi;unfold ib;rw[aM _ b1 b2,aM _ b3 b4];rw[d9,dX] at ag⊢;rw[qaa,qaa] at ag;have gZ:((cz*z (ls.getD x.1.toNat dB).giver:Nat):Int)=((a5*z (ls.getD x.1.toNat dB).taker:Nat):Int):=by rw[ag]
 rw[qbF,qbF] at gZ;rw[qbR (z _:Int),qbR (z (ls.getD x.1.toNat dB).taker:Int)];omega
section
variable {ls:List B5}{n:Nat}{rs rs' rm:List Int}{z fl:Int→Nat}
theorem ZbE{b:B5}(h:b∈dP ls rm):∃(j:Nat)(aJ:j<ls.length),b=k4 ls[j] (rm.getD j 0):=by
 obtain⟨j,aJ,rfl⟩:=qat h;have eS:j<ls.length:=by rw[k6] at aJ;exact aJ
 exact⟨j,eS,qE eS⟩
theorem oW(h:ZC ls n):ZC (ls++dP ls rm) n:=λb ag=>by
 rcases qar.mp ag with y|y
 ·exact h b y
 ·obtain⟨j,aJ,rfl⟩:=ZbE y;have:=h _ (fm aJ);exact⟨this.2.2.1,this.2.2.2,this.1,this.2.1⟩
theorem sP(h:Yb ls):Yb (ls++dP ls rm):=λi hi=>by
 rw[dm hi];rcases qaC i ls.length with y|y
 ·have:=h i y;rw[dm y] at this;rw[qa5 y];exact this
 ·rw[qbh y];have dv:i-ls.length<ls.length:=by rw[qac,k6] at hi;omega
  have:=h _ dv;rw[dm dv] at this;rw[qE dv];obtain⟨a,b,c,d,e,f,g,k⟩:=this;exact⟨b,a,d,c,f,e,k,g⟩
theorem Iu(h:Zaa ls rs):Zaa (ls++dP ls rm) rs:=λb ag=>by
 rcases qar.mp ag with y|y
 ·exact h b y
 ·obtain⟨j,aJ,rfl⟩:=ZbE y;exact(h _ (fm aJ)).symm
noncomputable def oX (rs:List Int) (w:Int):Nat:=if 0<(rs.getD w.toNat 0).toNat then(rs.getD w.toNat 0).toNat else 1
theorem BD(cU:ZC ls rs.length)(hsz:Yb ls)(eA:∀r∈rs,1≤r)(ag:Zaa ls rs):ZhP ls (oX rs):=by
 have hz:∀w:Int,0≤w→w<(rs.length:Int)→((oX rs w:Nat):Int)=rs.getD w.toNat 0:=λw a b=>by
  have ai:1≤rs.getD w.toNat 0:=by rw[dm (by omega)];exact eA _ (fm _)
  unfold oX;rw[if_pos (by omega)];omega
 refine⟨λw=>by unfold oX;split<;>omega,λi hi=>?_⟩;obtain⟨cz,a5,ea,fy,fC,d4,d9,dX⟩:=hsz i hi;obtain⟨b1,b2,b3,b4⟩:=cU.at hi;have ai:=ag (ls.getD i dB) (by rw[dm hi];exact fm hi);rw[←hz _ b1 b2,←hz _ b3 b4,d9,dX] at ai;rw[d9,dX,qaa,qaa];have:((cz*oX rs (ls.getD i dB).giver:Nat):Int)=((a5*oX rs (ls.getD i dB).taker:Nat):Int):=by rw[qbF,qbF];exact ai
 exact Int.ofNat.inj this
theorem Zgv{rs rs':List Int}{a b:Nat}:∀(ys:List Int)(c e:Nat),c*b=a*e→(∀v∈ys,(rs.getD v.toNat 0).toNat*b=a*(rs'.getD v.toNat 0).toNat)→ys.foldl (λc w=>Nat.gcd c (rs.getD w.toNat 0).toNat) c*b=a*ys.foldl (λc w=>Nat.gcd c (rs'.getD w.toNat 0).toNat) e
 | [],c,e,h,_=>h
 |v::ys,c,e,h,q=>by
  refine Zgv ys _ _ ?_ λw hw=>q w (by simp[hw]);rw[←Nat.gcd_mul_right,h,q v (by simp),Nat.gcd_mul_left]
theorem Za2(cU:ZC ls n)(hsz:Yb ls)(af:rs.length=n)(fi:rs'.length=n)(cA:∀r∈rs,1≤r)(cT:∀r∈rs',1≤r)(k1:Zaa ls rs)(k2:Zaa ls rs')(l1:ZaO ls n rs)(l2:ZaO ls n rs'):rs'=rs:=by
 have aS:∀{xs:List Int},xs.length=n→(∀r∈xs,1≤r)→∀v:Nat,v<n→1≤xs.getD v 0:=λ{xs} e q v cn=>by
  rw[dm (by rw[e];exact cn)];exact q _ (fm _)
 refine qaw (by rw[af,fi]) λw a1 a2=>?_;have hw:w<n:=by rw[←af];exact a2
 rw[←dm (d:=0) a1,←dm (d:=0) a2]
 classical
 obtain⟨ys,sQ⟩:∃ys:List Int,∀v:Int,v∈ys↔(0≤v∧v<(n:Int))∧Fo.WD (fb ls) w v:=by
  refine⟨((List.range n).map λv:Nat=>(v:Int)).filter λv=>decide (Fo.WD (fb ls) (w:Int) v),λv=>?_⟩;simp only[qaY,qah,qaL,decide_eq_true_eq]
  constructor
  ·rintro⟨⟨u,hu,rfl⟩,cw⟩;exact⟨⟨by omega,by omega⟩,cw⟩
  ·rintro⟨⟨a,b⟩,cw⟩;exact⟨⟨v.toNat,by omega,by omega⟩,cw⟩
 have cl:∀j<ls.length,((ls.getD j dB).giver∈ys↔(ls.getD j dB).taker∈ys):=λj aJ=>by
  obtain⟨b1,b2,b3,b4⟩:=cU.at aJ;rw[sQ,sQ]
  constructor
  ·rintro⟨_,cw⟩;exact⟨⟨b3,b4⟩,.step cw (sB aJ (Y4.mpr (.inl ⟨rfl,rfl⟩)))⟩
  ·rintro⟨_,cw⟩;exact⟨⟨b1,b2⟩,.step cw (sB aJ (Y4.mpr (.inr ⟨rfl,rfl⟩)))⟩
 have sR:(w:Int)∈ys:=(sQ _).mpr ⟨⟨by omega,by omega⟩,.refl⟩;have g1:=l1 (w:Int) ys (by omega) (by omega) sR cl;have g2:=l2 (w:Int) ys (by omega) (by omega) sR cl;have f5:∀v,Fo.WD (fb ls) (w:Int) v→(rs.getD v.toNat 0).toNat*(rs'.getD w 0).toNat=(rs.getD w 0).toNat*(rs'.getD v.toNat 0).toNat:=by
  intro v cn
  induction cn with
  |refl=>rw[qaa]
  | @step b c t al _ m cO=>
   obtain⟨i,hi,a6⟩:=Vu m;have gc:=k1 (ls.getD i dB) (by rw[dm hi];exact fm hi);have BE:=k2 (ls.getD i dB) (by rw[dm hi];exact fm hi);obtain⟨cz,a5,ea,fy,_,_,d9,dX⟩:=hsz i hi;obtain⟨b1,b2,b3,b4⟩:=cU.at hi;have v_:=Y4.mp a6;generalize ls.getD i dB=cF at*;have eL:=aS af cA cF.giver.toNat (by omega);have eK:=aS af cA cF.taker.toNat (by omega);have mH:=aS fi cT cF.giver.toNat (by omega);have RT:=aS fi cT cF.taker.toNat (by omega);obtain⟨A,wd⟩:∃A:Nat,rs.getD cF.giver.toNat 0=(A:Int):=⟨(rs.getD cF.giver.toNat 0).toNat,by omega⟩;obtain⟨B,oY⟩:∃B:Nat,rs.getD cF.taker.toNat 0=(B:Int):=⟨(rs.getD cF.taker.toNat 0).toNat,by omega⟩;obtain⟨gj,we⟩:∃A:Nat,rs'.getD cF.giver.toNat 0=(A:Int):=⟨(rs'.getD cF.giver.toNat 0).toNat,by omega⟩;obtain⟨sT,wf⟩:∃B:Nat,rs'.getD cF.taker.toNat 0=(B:Int):=⟨(rs'.getD cF.taker.toNat 0).toNat,by omega⟩;rw[wd,oY,d9,dX] at gc;rw[we,wf,d9,dX] at BE;have BF:cz*A=a5*B:=by exact_mod_cast gc
   have pY:cz*gj=a5*sT:=by exact_mod_cast BE
   generalize (rs'.getD w 0).toNat=R at*;generalize (rs.getD w 0).toNat=S at*;rcases v_ with⟨x1,x2⟩|⟨x1,x2⟩
   ·have x3:=congrArg Prod.fst x2;dsimp only at x3;rw[←x1,wd,we] at cO;rw[x3,oY,wf];simp only[qaa] at cO⊢;refine qbg fy ?_
    calc a5*(B*R)=cz*A*R:=by rw[BF,qaI]
     _=cz*(A*R):=qaI _ _ _
     _=cz*(S*gj):=by rw[cO]
     _=S*(cz*gj):=qaT _ _ _
     _=a5*(S*sT):=by rw[pY,qaT]
   ·have x3:=congrArg Prod.fst x2;dsimp only at x3;rw[←x1,oY,wf] at cO;rw[x3,wd,we];simp only[qaa] at cO⊢;refine qbg ea ?_
    calc cz*(A*R)=a5*B*R:=by rw[←BF,qaI]
     _=a5*(B*R):=qaI _ _ _
     _=a5*(S*sT):=by rw[cO]
     _=S*(a5*sT):=qaT _ _ _
     _=cz*(S*gj):=by rw[←pY,qaT]
 have aw:=Zgv (rs:=rs) (rs':=rs') ys 0 0 (by simp) λv cn=>f5 v ((sQ v).mp cn).2;have cC:ZiX rs ys*(rs'.getD w 0).toNat=(rs.getD w 0).toNat*ZiX rs' ys:=aw;rw[g1,g2,Nat.one_mul,Nat.mul_one] at cC;have eL:=aS af cA w hw;have eK:=aS fi cT w hw;omega
end
section
variable {ls:List B5}{n:Nat}{rs rs' rm:List Int}{z fl:Int→Nat}
theorem Zja(cU:ZC ls n)(hsz:Yb ls)(h:Rts ls n z rs)(h':Rts (ls++dP ls rm) n fl rs'):rs'=rs:=by
 obtain⟨F,e8,hP⟩:=h.wood;obtain⟨RU,Iv,Iw⟩:=h'.wood;have l2:=wb Iv Iw;refine Za2 cU hsz h.len h'.len h.pos h'.pos h.bal (λb ag=>h'.bal b (qa8 _ ag)) (wb e8 hP) λf ys dE f1 bB cl=>?_;have Ix:∀j<(ls++dP ls rm).length,(((ls++dP ls rm).getD j dB).giver∈ys↔((ls++dP ls rm).getD j dB).taker∈ys):=λj aJ=>by
  rw[dm aJ];rcases qaC j ls.length with y|y
  ·rw[qa5 y];have:=cl j y;rw[dm y] at this;exact this
  ·have eS:j-ls.length<ls.length:=by rw[qac,k6] at aJ;omega
   rw[qbh y,qE eS];have:=cl _ eS;rw[dm eS] at this;exact this.symm
 exact l2 f ys dE f1 bB Ix
end
structure qF(m:Int)(b:B5):Prop where
 rg:0≤b.giver∧b.giver<m∧0≤b.taker∧b.taker<m
 sz:1≤b.give∧1≤b.take
 st:0≤b.start
noncomputable def nm17 (i:Nat):Str:=(⟨#[97+7*i % 26]⟩++⟨#[97+11*i % 26]⟩)++Txt.mul "x" ((i:Int) / 26)
theorem BG:∀i<30,i7 (nm17 i)=true:=by decide+kernel
theorem BH:∀i<30,nm17 i∉(List.range i).map nm17:=by decide+kernel
theorem BI:∀i<26,("abcdefghijklmnopqrstuvwxyz" :Str).cps.toList[i]? =some (97+i):=by decide+kernel
theorem Iy:("abcdefghijklmnopqrstuvwxyz" :Str).length≤sizeLine:=by decide+kernel
theorem Zpq{n:Int}(h:n=0∨n=1):MulOk "x" n∧(Txt.mul "x" n).length≤1:=by
 rcases h with rfl|rfl
 ·exact⟨⟨by decide,λh=>absurd (by decide) h,λh=>absurd (by decide) h⟩,by decide+kernel⟩
 ·exact⟨⟨by decide,λ_ h=>absurd h (by decide),λ_ h=>absurd h (by decide)⟩,by decide+kernel⟩
def Zcb(ls:List B5)(hs rm:List Int)(w:Int):Prop:=∀(j:Nat),j<ls.length→((ls.getD j dB).taker=w→(ls.getD j dB).take≤hs.getD j 0)∧((ls.getD j dB).giver=w→hs.getD j 0+(ls.getD j dB).give≤rm.getD j 0)
theorem Zlz{vs:List V}{v:V}(h:vs[vs.length-1]? =some v):atI vs (-1)=some v:=by
 have af:=(GM.mp h).1;have:ixN vs.length (-1)=some (vs.length-1):=by
  unfold ixN;rw[if_neg (by omega)];have e:((vs.length:Int)+ -1).toNat=vs.length-1:=by omega
  first
  |(rw[if_pos (by omega)];congr 1;omega)
  |simp;omega
 unfold atI;rw[this];exact h
theorem ZeR{ls:List B5}{rs st cs:List Int}{ring:List Nat}(h:WE ls rs st cs ring){i:Nat}(hi:i<ring.length):∃(hm:Nat)(_:hm<ls.length),hm∈ring∧atI ((ring.map λj:Nat=>(j:Int)).map V.int) ((i:Int)-1)=some (.int (hm:Nat))∧ls[hm].giver=fH ls ring[i]:=by
 have f5:∀(k:Nat)(aR:k<ring.length),(k+1) % ring.length=i→∃(a6:ring[k]<ls.length),ring[k]∈ring∧ls[ring[k]].giver=fH ls ring[i]:=λk aR e=>by
  have ai:=h.link k aR;have a6:=(h.inn _ (fm aR)).1;rw[e,dm aR,dm hi] at ai;unfold lS at ai;rw[dm a6] at ai;exact⟨a6,fm aR,ai⟩
 rcases qaU i with z|z
 ·subst z;have aR:ring.length-1<ring.length:=by omega
  obtain⟨a,b,c⟩:=f5 (ring.length-1) aR (by rw[Nat.sub_add_cancel hi,Nat.mod_self]);refine⟨_,a,b,?_,c⟩;have e:((0:Nat):Int)-1= -1:=rfl;rw[e];refine Zlz ?_;simp[aR]
 ·have aR:i-1<ring.length:=by omega
  obtain⟨a,b,c⟩:=f5 (i-1) aR (by rw[Nat.sub_add_cancel z,Nat.mod_eq_of_lt hi]);refine⟨_,a,b,?_,c⟩;have e:(i:Int)-1=((i-1:Nat):Int):=by omega
  rw[e];exact gS (by simp[aR])
theorem ZfK{f:Nat→Nat}:∀{n v:Nat},v<n→f v≤hS f n
 |0,_,h=>absurd h (qaH _)
 |n+1,v,h=>by
  rw[ko];rcases qaC v n with z|z
  ·have:=ZfK (f:=f) z;omega
  ·obtain rfl:v=n:=by omega
   omega
theorem IA{ls:List B5}{st rs:List Int}{d:Nat→Nat}{ck:List Nat}(h:Fire.Yq (fA ls st rs) (λ_=>0) ck d)(v:Nat)(cn:v<rs.length):d v≤tot rs:=by
 obtain⟨_,b,c⟩:=sM h;have:=ZfK (f:=d) cn;omega
theorem ZdK{ls:List B5}{rs st cs:List Int}{ring:List Nat}(h:WE ls rs st cs ring):(ring.map λj:Nat=>(j:Int)).Nodup:=by
 have ai:ring.Nodup:=by
  have:=h.nd;rw[qbb,qbV] at this;rw[qbb];exact this.imp λz e=>z (by rw[e])
 rw[qbb,qbV];rw[qbb] at ai;exact ai.imp λz e=>z (by omega)
theorem IB{ls:List B5}{rs rm:List Int}{d:Nat→Nat}{v n:Nat}(ag:ZC ls n):fA (ls++dP ls rm) (startsL (ls++dP ls rm)) rs d v↔v<rs.length∧d v<ew rs v∧Zcb ls (gF ls (startsL ls) d) rm (v:Int):=by
 have ei:(startsL ls).length=ls.length:=by simp[startsL]
 have fq:(startsL (ls++dP ls rm)).length=(ls++dP ls rm).length:=by simp[startsL]
 have ed:(ls++dP ls rm).length=ls.length+ls.length:=by rw[qac,k6]
 have wg:∀(j:Nat)(aJ:j<ls.length),(gF ls (startsL ls) d).getD j 0=Fire.lie (fB ls[j] ls[j].start) d:=λj aJ=>by
  rw[dm (by rw[hR ei];exact aJ),kW ei aJ];simp[startsL]
 have il:(∀b∈fBs (ls++dP ls rm) (startsL (ls++dP ls rm)),b.taker=v→b.take≤Fire.lie b d)↔Zcb ls (gF ls (startsL ls) d) rm (v:Int):=by
  constructor
  ·intro h j aJ;have qz:=ag ls[j] (fm aJ);have ai:=h _ (sK fq (j:=j) (by omega));have aw:=h _ (sK fq (j:=ls.length+j) (by omega));rw[wg j aJ,dm aJ];have aW:(ls++dP ls rm)[j]'(by omega)=ls[j]:=qa5 aJ;have a7:(ls++dP ls rm)[ls.length+j]'(by omega)=k4 ls[j] (rm.getD j 0):=by
    rw[qbh (qcg _ _)];simp only[qb8];exact qE aJ
   simp only[startsL,qbf,aW,a7] at ai aw;generalize ls[j]=cF at*;refine⟨λe=>ai (by show cF.taker.toNat=v;omega),λe=>?_⟩;have:=aw (by show cF.giver.toNat=v;omega);unfold Fire.lie fB k4 at this;unfold Fire.lie fB;dsimp only at this⊢;omega
  ·intro h b sU cu;obtain⟨j,aJ,rfl⟩:=Zek fq sU;rcases qaC j ls.length with y|y
   ·have qz:=ag ls[j] (fm y);have aW:(ls++dP ls rm)[j]=ls[j]:=qa5 y;simp only[startsL,qbf,aW] at cu⊢;have:=(h j y).1;rw[wg j y,dm y] at this;have jc:ls[j].taker.toNat=v:=cu;exact this (by omega)
   ·have eS:j-ls.length<ls.length:=by omega
    have qz:=ag ls[j-ls.length] (fm eS);have a7:(ls++dP ls rm)[j]=k4 ls[j-ls.length] (rm.getD (j-ls.length) 0):=by
     rw[qbh y];exact qE eS
    simp only[startsL,qbf,a7] at cu⊢;have:=(h _ eS).2;rw[wg _ eS,dm eS] at this;generalize ls[j-ls.length]=cF at*;have jc:cF.giver.toNat=v:=cu;have:=this (by omega);unfold Fire.lie fB at this;unfold Fire.lie fB k4;dsimp only at this⊢;omega
 unfold fA Fire.May Fire.ZlX;rw[il]
noncomputable def mayL (ls:List B5) (st rs:List Int) (d:Nat→Nat):List Int:=((List.range rs.length).filter λv=>fz ls st rs d v).map λv:Nat=>(v:Int)
theorem ZjL{ls:List B5}{st rs:List Int}{d:Nat→Nat}{n:Nat}(h:st.length=ls.length)(ag:ZC ls n)(fS:mayL ls st rs d≠[]):∃w:Nat,(mayL ls st rs d)[0]? =some (w:Int)∧hB ls st rs d w:=by
 unfold mayL at*;have IC:((List.range rs.length).filter λv=>fz ls st rs d v)≠[]:=λz=>fS (by rw[z];rfl);obtain⟨w,hw⟩:∃w,((List.range rs.length).filter λv=>fz ls st rs d v).head?=some w:=by
  cases e:((List.range rs.length).filter λv=>fz ls st rs d v) with
  |nil=>exact absurd e IC
  |cons w t=>exact⟨w,rfl⟩
 refine⟨w,by rw[qaj,←List.head?_eq_getElem?,hw];rfl,?_⟩;rw[List.head?_filter,List.find?_range_eq_some] at hw;obtain⟨ai,aw,cC⟩:=hw;have qq:w<rs.length:=by simpa using aw
 exact⟨(nT h ag qq).mp ai,λv cn=>(Bp h ag (by omega)).mp (by simpa using cC v cn)⟩
theorem Zk8{ls:List B5}{st rs:List Int}{d:Nat→Nat}{n:Nat}(h:st.length=ls.length)(ag:ZC ls n)(e:mayL ls st rs d=[]):∀w,¬fA ls st rs d w:=λw r=>by
 have:(w:Int)∈mayL ls st rs d:=qah.mpr ⟨w,by rw[qaY];exact⟨by simpa using r.1,(nT h ag r.1).mpr r⟩,rfl⟩;rw[e] at this;cases this
theorem Zo0{ls:List B5}{rs rm:List Int}{d:Nat→Nat}{n v:Nat}(ag:ZC ls n)(eA:∀r∈rs,1≤r)(cn:v<rs.length):fz (ls++dP ls rm) (startsL (ls++dP ls rm)) rs d v=true↔(d v:Int)<rs.getD v 0∧Zcb ls (gF ls (startsL ls) d) rm (v:Int):=by
 have e:=oU eA cn;rw[nT (by simp[startsL]) (oW (rm:=rm) ag) cn,IB ag]
 constructor
 ·rintro⟨_,a,b⟩;exact⟨by omega,b⟩
 ·rintro⟨a,b⟩;exact⟨cn,by omega,b⟩
theorem ZjY{n w:Nat}{d:Nat→Nat}(hw:w<n):(d5 n d).set w ((d w:Int)+1)=d5 n (Fire.bump d w):=by
 refine qaw (by simp[d5]) λv ai aw=>?_;have cn:v<n:=by simpa[d5] using aw
 rw[List.getElem_set]
 by_cases e:w=v
 ·subst e;simp[d5,Fire.VG]
 ·rw[if_neg e];simp[d5,Fire.VE d (qbJ e)]
theorem ZjO{ls:List B5}{st rs:List Int}{c d d2:Nat→Nat}{ck:List Nat}(h:Fire.Yq (hB ls st rs) c ck d)(hs:∀w,¬fA ls st rs d w)(fq:∀w,¬fA ls st rs d2 w):∀{jO:List Nat},Fire.Yq (hB ls st rs) c jO d2→ck=jO:=by
 induction h with
 |nil c=>
  intro jO aw;cases aw with
  |nil=>rfl
  |cons r _=>exact absurd r.1 (hs _)
 | @cons c d w ck r _ cO=>
  intro jO aw;cases aw with
  |nil=>exact absurd r.1 (fq _)
  | @cons _ _ hZ _ cX cC=>
   have e:w=hZ:=by
    rcases Nat.lt_trichotomy w hZ with z|z|z
    ·exact absurd r.1 (cX.2 w z)
    ·exact z
    ·exact absurd cX.1 (r.2 hZ z)
   subst e;rw[cO hs cC]
theorem Ze7{ls:List B5}{st rs:List Int}{d d2:Nat→Nat}{ck jO:List Nat}(h:Fire.Yq (hB ls st rs) (λ_=>0) ck d)(hs:∀w,¬fA ls st rs d w)(aw:Fire.Yq (hB ls st rs) (λ_=>0) jO d2)(fq:∀w,¬fA ls st rs d2 w):jO=ck∧d2=d:=by
 have e:=ZjO h hs fq aw;refine⟨e.symm,funext λv=>?_⟩;rw[aw.count,h.count,e]
theorem Zjg{rs:List Int}{d:Nat→Nat}(eA:∀r∈rs,1≤r)(h:∀v<rs.length,d v=ew rs v):d5 rs.length d=rs:=by
 refine qaw (by rw[mP]) λv a b=>?_;have ai:=mQ (d:=d) b;rw[dm a,h v b,oU eA b,dm b] at ai;exact ai
def ZdO(H:Hp)(t:Addr)(L:List B5)(rs:List Int):Prop:=
 (∃(r:Addr)(ck:List Nat)(d:Nat→Nat),H t=some (.tup [.ref r,.non])∧H r=some (.lst (ck.map λw:Nat=>V.int w))∧Fire.Yq (hB L (startsL L) rs) (λ_=>0) ck d∧∀v<rs.length,d v=ew rs v)∨
 (∃(u c g:Addr)(ck:List Nat)(d:Nat→Nat)(ring:List Nat),H t=some (.tup [.non,.ref u])∧H u=some (.tup [.ref c,.ref g])∧H c=some (.lst ((d5 rs.length d).map V.int))∧H g=some (.lst (ring.map λj:Nat=>V.int j))∧Fire.Yq (hB L (startsL L) rs) (λ_=>0) ck d∧(∀w,¬fA L (startsL L) rs d w)∧(∃v<rs.length,d v<ew rs v)∧WE L rs (startsL L) (d5 rs.length d) ring)
theorem ZdO.same{H H':Hp}{t:Addr}{L:List B5}{rs:List Int}(h:ZdO H t L rs)(s:Zf H H'):ZdO H' t L rs:=by
 rcases h with⟨r,ck,d,a,b,c⟩|⟨u,c,g,ck,d,ring,a1,a2,a3,a4,b⟩
 ·exact .inl ⟨r,ck,d,s _ _ a,s _ _ b,c⟩
 ·exact .inr ⟨u,c,g,ck,d,ring,s _ _ a1,s _ _ a2,s _ _ a3,s _ _ a4,b⟩
theorem nU{db:Type}{xs:List db}{i:Nat}{d:db}(h:i<xs.length):xs.getD i d∈xs:=by rw[dm h];exact fm h
theorem BJ{e5:List Int}{ls:List B5}{n:Nat}(h:∀l∈ls,oV e5 l)(e:e5.length=n):ZC ls n:=λb ag=>by
 have:=(h b ag).rg;rw[e] at this;exact this
theorem BK{e5:List Int}{ls:List B5}(h:∀l∈ls,oV e5 l):Yb ls:=λi hi=>by
 rw[dm hi];obtain⟨cz,a5,aW,a7,ea,fy,g1,iN,_⟩:=(h _ (fm hi)).sz;exact⟨cz,a5,ea,fy,g1,iN,aW,a7⟩
structure UQ(L:List B5)(rs:List Int)(b n:Nat):Prop where
 tree:∀k,k+1<n→∃j<L.length,∃m≤k,((L.getD j dB).giver=((b+k+1:Nat):Int)∧(L.getD j dB).taker=((b+m:Nat):Int))∨((L.getD j dB).giver=((b+m:Nat):Int)∧(L.getD j dB).taker=((b+k+1:Nat):Int))
 one:∀g:Nat,(∀v<n,g ∣ (rs.getD (b+v) 0).toNat)→g=1
theorem UQ.least{L:List B5}{rs:List Int}{b n:Nat}(h:UQ L rs b n){f:Nat}(bB:f<n){ys:List Int}(a':((b+f:Nat):Int)∈ys)(cl:∀j<L.length,((L.getD j dB).giver∈ys↔(L.getD j dB).taker∈ys)):ZiX rs ys=1:=by
 have eB:∀k<n,((b+k:Nat):Int)∈ys→((b:Nat):Int)∈ys:=by
  intro k
  induction k using Nat.strongRecOn with
  |_ k cO=>
   intro aR a6;rcases qaU k with z|z
   ·subst z;exact a6
   ·obtain⟨j,aJ,m,ID,ax⟩:=h.tree (k-1) (by omega);have e:b+(k-1)+1=b+k:=by omega
    rw[e] at ax;refine cO m (by omega) (by omega) ?_;rcases ax with⟨x,y⟩|⟨x,y⟩
    ·rw[←y];exact(cl j aJ).mp (by rw[x];exact a6)
    ·rw[←x];exact(cl j aJ).mpr (by rw[y];exact a6)
 have c8:=eB f bB a';have i2:∀k<n,((b+k:Nat):Int)∈ys:=by
  intro k
  induction k using Nat.strongRecOn with
  |_ k cO=>
   intro aR;rcases qaU k with z|z
   ·subst z;exact c8
   ·obtain⟨j,aJ,m,ID,ax⟩:=h.tree (k-1) (by omega);have e:b+(k-1)+1=b+k:=by omega
    rw[e] at ax;have a6:=cO m (by omega) (by omega);rcases ax with⟨x,y⟩|⟨x,y⟩
    ·rw[←x];exact(cl j aJ).mpr (by rw[y];exact a6)
    ·rw[←y];exact(cl j aJ).mp (by rw[x];exact a6)
 refine h.one _ λv cn=>?_;have:=(v' rs ys 0).2 _ (i2 v cn);rw[qaa] at this;exact this
noncomputable def gcdA (xs:List Int):Nat:=xs.foldl (λc x=>Nat.gcd c x.toNat) 0
theorem IE(xs:List Int)(x:Int):gcdA (xs++ [x])=Nat.gcd (gcdA xs) x.toNat:=by unfold gcdA;rw[List.foldl_append];rfl
theorem wh:∀(xs:List Int)(c:Nat),xs.foldl (λc x=>Nat.gcd c x.toNat) c ∣ c∧(∀x∈xs,xs.foldl (λc x=>Nat.gcd c x.toNat) c ∣ x.toNat)∧∀g:Nat,g ∣ c→(∀x∈xs,g ∣ x.toNat)→g ∣ xs.foldl (λc x=>Nat.gcd c x.toNat) c
 | [],c=>⟨Nat.dvd_refl _,by simp,λg h _=>h⟩
 |x::xs,c=>by
  obtain⟨a,b,d⟩:=wh xs (Nat.gcd c x.toNat);refine⟨qb0 a (qby _ _),λy a'=>?_,λg aM ao=>d g (Nat.dvd_gcd aM (ao x (by simp))) λy a'=>ao y (by simp[a'])⟩;rcases qaf.mp a' with rfl|z
  ·exact qb0 a (qbj _ _)
  ·exact b y z
theorem Zjv{xs:List Int}(h:∀x∈xs,1≤x)(bA:xs≠[]):0<gcdA xs∧(∀x∈xs,1≤x / (gcdA xs:Int)∧x / (gcdA xs:Int)≤x)∧∀g:Nat,(∀v<xs.length,g ∣ (((xs.map λx=>x / (gcdA xs:Int)).getD (0+v) 0).toNat))→g=1:=by
 obtain⟨_,a,b⟩:=wh xs 0;have hd:∀x∈xs,gcdA xs ∣ x.toNat:=a;have c8:0<gcdA xs:=by
  obtain⟨x,ao⟩:=List.exists_mem_of_ne_nil xs bA;exact Nat.pos_of_dvd_of_pos (hd x ao) (by have:=h x ao;omega)
 have ag:∀g:Nat,(∀x∈xs,g ∣ x.toNat)→g ∣ gcdA xs:=λg aM=>b g (Nat.dvd_zero g) aM;have ex:∀x∈xs,x / (gcdA xs:Int)=((x.toNat / gcdA xs:Nat):Int):=λx ao=>by
  have ai:=h x ao;obtain⟨m,rfl⟩:=qbD (show 0≤x by omega);rw[qaa]
  rfl
 refine⟨c8,λx ao=>?_,λg aM=>?_⟩
 ·rw[ex x ao];have ai:=h x ao;have aw:0<x.toNat / gcdA xs:=qb9 (qbe (by omega) (hd x ao)) c8;have cC:=qaQ x.toNat (gcdA xs);omega
 ·have ai:g*gcdA xs ∣ gcdA xs:=ag _ λx ao=>by
   obtain⟨v,cn,rfl⟩:=qat ao;have:=aM v cn;rw[qce,dm (by rw[GE];exact cn),qbf,ex _ ao,qaa] at this;have aw:=Nat.mul_dvd_mul_right this (gcdA xs);rw[qa0 (hd _ ao)] at aw;exact aw
  have aw:=qbe c8 ai;have c3:g≠0:=λz=>by rw[z,Nat.zero_mul] at ai;have:=Nat.eq_zero_of_zero_dvd ai;omega
  rcases qaC 1 g with y|y
  ·have:=Nat.mul_le_mul_right (gcdA xs) y;omega
  ·omega
theorem Zlf{x y f:Nat}(x0:0<x)(i_:0<y)(dE:0<f)(x1:x≤6)(hg:y≤6)(f1:f≤10 ^ 20):
  0<f*(y / Nat.gcd x y)∧0<f*(x / Nat.gcd x y)∧f*(y / Nat.gcd x y)<2 ^ 110∧f*(x / Nat.gcd x y)<2 ^ 110∧f*(y / Nat.gcd x y)*x=f*(x / Nat.gcd x y)*y:=by
 have ea:0<Nat.gcd x y:=qbE _ x0;have d1:=qby x y;have d2:=qbj x y;have i2:∀z:Nat,z≤6→f*(z / Nat.gcd x y)<2 ^ 110:=λz hz=>by
  refine qav (Nat.mul_le_mul f1 (qaz (qaQ _ _) hz)) (by decide)
 refine⟨qbH dE (qb9 (qbe i_ d2) ea),qbH dE (qb9 (qbe x0 d1) ea),i2 y hg,i2 x x1,?_⟩;rw[qaI,qaI]
 congr 1
 refine Nat.eq_of_mul_eq_mul_right ea ?_;rw[qb5,qa0 d2,qb5,qa0 d1,qbo]
theorem Zfh{P:Int→Prop}:∀{is:List Nat}{ys:List V},Paired (λ_ v=>∃x:Int,v=V.int x∧P x) is ys→∃xs:List Int,ys=xs.map V.int∧xs.length=is.length∧∀x∈xs,P x
 |_,_,.nil=>⟨[],rfl,rfl,by simp⟩
 |_,_,.cons ⟨x,e,ao⟩ r=>by
  obtain⟨xs,a7,l,h⟩:=Zfh r;refine⟨x::xs,by rw[e,a7];rfl,by simp[l],λy a'=>?_⟩;rcases qaf.mp a' with rfl|z
  ·exact ao
  ·exact h y z
theorem wi{K:Frag}{H:Hp}:∀bs:List Bool,DRels K H (bs.map V.bl) (bs.map PyData.bool)
 | []=> .nil
 |b::bs=> .cons (.bl b) (wi bs)
theorem BL:∀bs:List Bool,PyData.canLayAll0 (bs.map PyData.bool)=true
 | []=>by simp[PyData.canLayAll0]
 |b::bs=>by
  have:=BL bs;simp[PyData.canLayAll0,PyData.canLay0] at this⊢;exact this
theorem wj(bs:List Bool):(PyData.list (bs.map PyData.bool)).canLay0=true:=by
 have:=BL bs;simp[PyData.canLay0];simpa using this
theorem BM:∀bs:List Bool,PyData.depthAll (bs.map PyData.bool)≤1
 | []=>by simp[PyData.depthAll]
 |b::bs=>by
  have:=BM bs;simp[PyData.depthAll,PyData.depth] at this⊢;exact this
theorem IF(bs:List Bool):(PyData.list (bs.map PyData.bool)).depth≤60:=by
 have:=BM bs;simp only[PyData.depth];omega
theorem Zl0{K:Frag}{H:Hp}{Q:VK}{p q:Addr}{bs:List Bool}(ai:H p=some (.lst (bs.map V.bl)))(aw:H q=some (.lst (bs.map V.bl)))(k:Q (.bl true) H):rOr rEq (kN K false) (.ref p) (.ref q) H Q:=
 Rd.Zf7 (.lst (.of ai) (wi bs)) (.lst (.of aw) (wi bs)) (wj bs) (wj bs) (IF bs) (by rw[SeqAt.eqv_refl _ (wj bs)];exact k)
theorem Rts.least{ls:List B5}{n:Nat}{z:Int→Nat}{rs:List Int}(h:Rts ls n z rs):ZaO ls n rs:=let⟨_,a,b⟩:=h.wood;wb a b
theorem Zju{ls:List B5}{z:Int→Nat}{rs:List Int}(h:Rts ls 2 z rs):∃a b:Int,rs=[a,b]∧1≤a∧1≤b:=by
 have af:=h.len;have aS:=h.pos
 match rs,af with
 | [a,b],_=>exact⟨a,b,rfl,aS a (by simp),aS b (by simp)⟩
structure k7(ls:List B5)(g6:List Bool):Prop where
 l1:1≤ls.length
 l2:ls.length≤2
 dr:∀l∈ls,qF 2 l
 sz:Yb ls
 d1:∀ring,kT ls ring→g6=[true,false,false,true]
 d2:∀rs,Rts ls 2 (λ_=>1) rs→400<rs.sum→g6=[false,true,false,true]
 d3:∀rs,Rts ls 2 (λ_=>1) rs→rs.sum≤400→(ls.length=1∧(startsL ls).getD 0 0=0)∧g6=[false,false,true,true]
theorem sV{ls:List B5}(h:∀l∈ls,qF 2 l):ZC ls 2:=λb ag=>(h b ag).rg
theorem wk{ls:List B5}{rs:List Int}{ring:List (Int×Bool)}(ag:ZC ls rs.length)(hsz:Yb ls)(aS:∀r∈rs,1≤r)(af:Zaa ls rs)(h:kT ls ring):False:=BC h ag hsz (BD ag hsz aS af)
section
variable {fc s:Int}(c8:400≤fc)(ai:fc≤1399)
include c8 ai
theorem BN:∃F:Nat,fc=(F:Int)∧0<F∧F<2 ^ 110:=⟨fc.toNat,by omega,by omega,by omega⟩
theorem IG:k7 [⟨0,1,2,fc,0⟩,⟨0,1,3,fc,1⟩] [true,false,false,true]:=by
 obtain⟨F,rfl,qG,qH⟩:=BN c8 ai;have no:∀rs,Rts [⟨0,1,2,(F:Int),0⟩,⟨0,1,3,(F:Int),1⟩] 2 (λ_=>1) rs→False:=λrs c1=>by
  obtain⟨a,b,rfl,a1,b1⟩:=Zju c1;have aW:2*a=(F:Int)*b:=c1.bal ⟨0,1,2,(F:Int),0⟩ (by simp);have a7:3*a=(F:Int)*b:=c1.bal ⟨0,1,3,(F:Int),1⟩ (by simp);omega
 refine⟨by simp,by simp,λl af=>?_,λi hi=>?_,λ_ _=>rfl,λrs c1=>(no rs c1).elim,λrs c1=>(no rs c1).elim⟩
 ·simp only[qaf,qaF,or_false] at af;rcases af with rfl|rfl
  ·exact⟨by dsimp only;omega,by dsimp only;omega,by dsimp only;omega⟩
  ·exact⟨by dsimp only;omega,by dsimp only;omega,by dsimp only;omega⟩
 ·match i,hi with
  |0,_=>exact⟨2,F,by omega,qG,by omega,qH,rfl,rfl⟩
  |1,_=>exact⟨3,F,by omega,qG,by omega,qH,rfl,rfl⟩
theorem ZmE(sW:0≤s):k7 [⟨0,1,1,fc,0⟩,⟨1,0,fc,1,s⟩] [false,true,false,true]:=by
 obtain⟨F,rfl,qG,qH⟩:=BN c8 ai;have k8:∀l∈[(⟨0,1,1,(F:Int),0⟩:B5),⟨1,0,(F:Int),1,s⟩],qF 2 l:=λl af=>by
  simp only[qaf,qaF,or_false] at af;rcases af with rfl|rfl
  ·exact⟨by dsimp only;omega,by dsimp only;omega,by dsimp only;omega⟩
  ·exact⟨by dsimp only;omega,by dsimp only;omega,sW⟩
 have hsz:Yb [(⟨0,1,1,(F:Int),0⟩:B5),⟨1,0,(F:Int),1,s⟩]:=λi hi=>by
  match i,hi with
  |0,_=>exact⟨1,F,by omega,qG,by omega,qH,rfl,rfl⟩
  |1,_=>exact⟨F,1,qG,by omega,qH,by omega,rfl,rfl⟩
 refine⟨by simp,by simp,k8,hsz,λring av=>(wk (rs:=[(F:Int),1]) (sV k8) hsz (λr av=>?_) (λb ag=>?_) av).elim,λ_ _ _=>rfl,λrs c1 hs=>?_⟩
 ·simp only[qaf,qaF,or_false] at av;rcases av with rfl|rfl<;>omega
 ·simp only[qaf,qaF,or_false] at ag;rcases ag with rfl|rfl
  ·show 1*(F:Int)=(F:Int)*1;omega
  ·show(F:Int)*1=1*(F:Int);omega
 ·obtain⟨a,b,rfl,a1,b1⟩:=Zju c1;have aW:1*a=(F:Int)*b:=c1.bal ⟨0,1,1,(F:Int),0⟩ (by simp);have a7:(F:Int)*1≤(F:Int)*b:=Int.mul_le_mul_of_nonneg_left b1 (by omega);have c_:[a,b].sum=a+b:=by simp
  omega
end
theorem IH:k7 [⟨0,1,1,399,0⟩] [false,false,true,true]:=by
 have k8:∀l∈[(⟨0,1,1,399,0⟩:B5)],qF 2 l:=λl af=>by
  rw[qab.mp af];exact⟨by dsimp only;omega,by dsimp only;omega,by dsimp only;omega⟩
 have hsz:Yb [(⟨0,1,1,399,0⟩:B5)]:=λi hi=>by
  match i,hi with
  |0,_=>exact⟨1,399,by omega,by omega,by omega,by omega,rfl,rfl⟩
 have ag:Zaa [(⟨0,1,1,399,0⟩:B5)] [399,1]:=λb ag=>by
  rw[qab.mp ag]
  rfl
 have aS:∀r∈[(399:Int),1],1≤r:=λr av=>by
  simp only[qaf,qaF,or_false] at av;rcases av with rfl|rfl<;>omega
 have II:UQ [(⟨0,1,1,399,0⟩:B5)] [399,1] 0 2:=⟨λk aR=>by
  obtain rfl:k=0:=by omega
  exact⟨0,by simp,0,FM _,.inr ⟨rfl,rfl⟩⟩,λg aM=>Nat.dvd_one.mp (aM 1 (by omega))⟩
 refine⟨by simp,by simp,k8,hsz,λring av=>(wk (rs:=[399,1]) (sV k8) hsz aS ag av).elim,λrs c1 hs=>?_,λrs c1 _=>⟨⟨rfl,rfl⟩,rfl⟩⟩;have e:rs=[399,1]:=Za2 (sV k8) hsz rfl c1.len aS c1.pos ag c1.bal (λf ys dE f1 bB cl=>II.least (f:=f.toNat) (by omega) (by rw[qce,qa6 dE];exact bB) cl) c1.least;rw[e] at hs;exact absurd hs (by decide)
theorem wl{x:Int}:∀n:Nat,(List.replicate n [V.int x]).flatten=(List.replicate n x).map V.int
 |0=>rfl
 |n+1=>by rw[qbt,qbU,wl n,qbt];rfl
theorem BO{m:Nat}(h:m≤30):Zax ((List.range m).map nm17):=by
 refine⟨?_,λx ao=>?_,by simpa using h⟩
 ·rw[qbb,qbV];refine List.Pairwise.imp_of_mem ?_ (qcd);intro a b _ ag hab e;have gZ:b<m:=by simpa using ag
  exact BH b (by omega) (qah.mpr ⟨a,by simpa using hab,e⟩)
 ·obtain⟨i,hi,rfl⟩:=qah.mp ao;have dv:i<m:=by simpa using hi
  exact BG i (by omega)
theorem wm{rs:List Int}{c:Int}(h:∀r∈rs,r≤c):rs.sum≤c*rs.length:=by
 induction rs with
 |nil=>simp
 |cons r rs cO=>
  have ai:=h r (by simp);have aw:=cO λx ao=>h x (by simp[ao]);rw[List.sum_cons,List.length_cons,Int.natCast_add,Int.mul_add];omega
structure UZ(ls:List B5)(rs:List Int):Prop where
 n:1≤rs.length∧rs.length≤30
 l:ls.length≤60
 ps:∀r∈rs,1≤r
 sm:rs.sum≤60
 ln:∀l∈ls,oV rs l
 le:ZaO ls rs.length rs
theorem UZ.bal{ls:List B5}{rs:List Int}(h:UZ ls rs):Zaa ls rs:=λb ag=>by
 obtain⟨cz,a5,aW,a7,_,_,_,_,e⟩:=(h.ln b ag).sz;have av:=(h.ln b ag).rg;have eL:=h.ps _ (nU (d:=0) (show b.giver.toNat<rs.length by omega));have eK:=h.ps _ (nU (d:=0) (show b.taker.toNat<rs.length by omega));obtain⟨x,ex⟩:∃x:Nat,rs.getD b.giver.toNat 0=(x:Int):=⟨(rs.getD b.giver.toNat 0).toNat,by omega⟩;obtain⟨y,eM⟩:∃y:Nat,rs.getD b.taker.toNat 0=(y:Int):=⟨(rs.getD b.taker.toNat 0).toNat,by omega⟩;rw[ex,eM,qaa,qaa] at e;rw[aW,a7,ex,eM];exact congrArg (λz:Nat=>(z:Int)) e
theorem UZ.uniq{ls:List B5}{rs rs':List Int}{z:Int→Nat}(h:UZ ls rs)(c1:Rts ls rs.length z rs'):rs'=rs:=
 Za2 (BJ h.ln rfl) (BK h.ln) rfl c1.len h.ps c1.pos h.bal c1.bal h.le c1.least
theorem wn{ls:List B5}{rs:List Int}{gC:Int}(ai:1≤rs.length)(aw:rs.length≤30)(af:ls.length≤60)(ag:∀r∈rs,1≤r∧r≤gC)(hs:gC*rs.length≤60)(hd:∀l∈ls,oV rs l)(aS:UQ ls rs 0 rs.length):UZ ls rs:=
 ⟨⟨ai,aw⟩,af,λr av=>(ag r av).1,Int.le_trans (wm λr av=>(ag r av).2) hs,hd,λf ys dE f1 bB cl=>aS.least (f:=f.toNat) (by omega) (by rw[qce,qa6 dE];exact bB) cl⟩
noncomputable def kq (m:Int) (b:B5):B5:=⟨b.giver+m,b.taker+m,b.give,b.take,b.start⟩
theorem sX{xs ys:List Int}{i:Nat}(h:i<xs.length):(xs++ys).getD i 0=xs.getD i 0:=by
 rw[dm (by rw[qac];omega),dm h,qa5 h]
theorem wo{xs ys:List Int}{i:Nat}(h:i<ys.length):(xs++ys).getD (xs.length+i) 0=ys.getD i 0:=by
 rw[dm (by rw[qac];omega),dm h,qbh (by omega)];simp
theorem IJ{ls fW:List B5}{rs gY:List Int}(h:UZ ls rs)(f4:rs.length≤4)(b1:∀r∈rs,r≤6)(l1:ls.length≤6)(aw:UZ fW gY)(ft:gY.length≤2)(b2:∀r∈gY,r≤6)(l2:fW.length≤2)(eL:UQ ls rs 0 rs.length)(eK:UQ fW gY 0 gY.length):UZ (ls++fW.map (kq rs.length)) (rs++gY):=by
 have fC:∀{j:Nat},j<ls.length→(ls++fW.map (kq rs.length)).getD j dB=ls.getD j dB:=λ{j} aJ=>by
  rw[dm (by rw[qac];omega),dm aJ,qa5 aJ]
 have gr:∀{j:Nat},j<fW.length→(ls++fW.map (kq rs.length)).getD (ls.length+j) dB=kq rs.length (fW.getD j dB):=λ{j} aJ=>by
  rw[dm (by rw[qac,GE];omega),dm aJ,qbh (by omega)];simp
 have cA:UQ (ls++fW.map (kq rs.length)) (rs++gY) 0 rs.length:=⟨λk aR=>by
  obtain⟨j,aJ,m,a6,ax⟩:=eL.tree k aR;exact⟨j,by rw[qac];omega,m,a6,by rw[fC aJ];exact ax⟩,λg aM=>eL.one g λv cn=>by
  have:=aM v cn;rw[sX (by omega)] at this;exact this⟩
 have cT:UQ (ls++fW.map (kq rs.length)) (rs++gY) rs.length gY.length:=⟨λk aR=>by
  obtain⟨j,aJ,m,a6,ax⟩:=eK.tree k aR;refine⟨ls.length+j,by rw[qac,GE];omega,m,a6,?_⟩;rw[gr aJ];show((fW.getD j dB).giver+(rs.length:Int)=_∧(fW.getD j dB).taker+(rs.length:Int)=_)∨((fW.getD j dB).giver+(rs.length:Int)=_∧(fW.getD j dB).taker+(rs.length:Int)=_);omega,λg aM=>eK.one g λv cn=>by
  have:=aM v cn;rw[wo cn] at this;rw[qce];exact this⟩
 refine⟨by rw[qac];have:=h.n;omega,by rw[qac,GE];omega,λr av=>?_,?_,λl af=>?_,λf ys dE f1 bB cl=>?_⟩
 ·rcases qar.mp av with z|z
  ·exact h.ps r z
  ·exact aw.ps r z
 ·have az:=wm b1;have b':=wm b2;rw[List.sum_append];omega
 ·rcases qar.mp af with z|z
  ·have e6:=h.ln l z;obtain⟨cH,cX,he,js⟩:=e6.rg;refine⟨by rw[qac];omega,?_,e6.st⟩;rw[sX (by omega),sX (by omega)];exact e6.sz
  ·obtain⟨b,ag,rfl⟩:=qah.mp z;have e6:=aw.ln b ag;obtain⟨cH,cX,he,js⟩:=e6.rg;refine⟨?_,?_,e6.st⟩
   ·show 0≤b.giver+(rs.length:Int)∧b.giver+(rs.length:Int)<_∧0≤b.taker+(rs.length:Int)∧b.taker+(rs.length:Int)<_;rw[qac];omega
   ·have aW:(b.giver+(rs.length:Int)).toNat=rs.length+b.giver.toNat:=by omega
    have a7:(b.taker+(rs.length:Int)).toNat=rs.length+b.taker.toNat:=by omega
    show ∃cz a5:Nat,b.give=(cz:Int)∧b.take=(a5:Int)∧0<cz∧0<a5∧cz<2 ^ 110∧a5<2 ^ 110∧cz*((rs++gY).getD (b.giver+(rs.length:Int)).toNat 0).toNat=a5*((rs++gY).getD (b.taker+(rs.length:Int)).toNat 0).toNat;rw[aW,a7,wo (by omega),wo (by omega)];exact e6.sz
 ·rw[qac] at f1;rcases Int.lt_or_le f (rs.length:Int) with z|z
  ·exact cA.least (f:=f.toNat) (by omega) (by rw[qce,qa6 dE];exact bB) cl
  ·have e:((rs.length+(f-(rs.length:Int)).toNat:Nat):Int)=f:=by omega
   exact cT.least (f:=(f-(rs.length:Int)).toNat) (by omega) (by rw[e];exact bB) cl
local macro_rules| `(tactic|walk_at "rd")=>`(tactic|first|with_reducible (first|(show ∃a aY fs,L2.V.ref _=L2.V.ref a∧_∧List.lookup _ fs=none∧_;refine Nm.Zkl (by with_reducible assumption) (by k_dflt (decide+kernel)) (by k_dflt (decide+kernel)) ?_)|(show ∃a aY fs,L2.V.ref _=L2.V.ref a∧_∧List.lookup _ fs=none∧_;refine Nm.Zhg (by with_reducible assumption) (by k_dflt (decide+kernel)) (by k_dflt (decide+kernel)) (by k_dflt (decide+kernel)) (by k_dflt (decide+kernel)) (by k_dflt (decide+kernel)) ?_)|refine L2.Rd.Zpc (by with_reducible assumption) (by with_reducible assumption) (by with_reducible assumption) ?_|refine L2.Rd.Zo2 (by with_reducible assumption) (by with_reducible assumption) (by with_reducible assumption) ?_|refine L2.Rd.Zpe ?_)|fail "none here")
def Zdl{K:Frag}{mg:Str→Option Value}(T:Tp K mg):Sp:=λvs H Q _=>∃c w:Int,vs=[.int c,.int w]∧0≤w∧w≤1000∧∀r:Int,0≤r→r<1000003→Q (.int r) H
theorem ZkW{K:Frag}{mg:Str→Option Value}{T:Tp K mg}{H:Hp}{Q:VK}{E:XK}{c w:Int}(c8:0≤w)(ai:w≤1000)(q:∀r:Int,0≤r→r<1000003→Q (.int r) H):Zdl T ([.int c,.int w]++ []) H Q E:=⟨c,w,rfl,c8,ai,q⟩
local macro_rules| `(tactic|walk_at "rd")=>`(tactic|first|((with_reducible show Nm.Zdl _ _ _ _ _);with_reducible refine Nm.ZkW (by walk_at "side") (by walk_at "side") (λ_ _ _=>?_))|fail "none here")
section
variable {P:Program}{w:World}{K:Frag}{mg:Str→Option Value}{base:Heap}
theorem qI(T:Tp K mg):OkN P w base 1 T.x0 (Zdl T):=by
 refine T.x0.F.okX AW (λvs H Q E h=>?_) (λcS A outer s H vs Q E av h=>?_)
 ·obtain⟨c,w,rfl,_⟩:=h
  rfl
 ·have hu:=av.hu;obtain⟨c,w,rfl,fM,f_,q⟩:=h;refine⟨_,(b_ (c0 (i:=2) AW.nd rfl (Or.inl rfl) (cD eX (cD (ej K) (cD gV (pv 0) aX) (cD gV (pv 1) aX)) aX))
     (cy (c9 (cD eX (cD gV (pv 2) (cD (ej K) aX (cD gV aX (pv 1)))) aX)))),?_⟩
  try dsimp only[L2.cxX,L2.ZI,L2.Zo]
  walk_at "rds";exact q _ (qaR _ (by decide)) (qbc _ (by decide))
end
def IK{K:Frag}{mg:Str→Option Value}(T:Tp K mg):Sp:=λvs H Q _=>∃a b:Nat,vs=[.int a,.int b]∧∀H',Zf H H'→Q (.int (Nat.gcd a b:Nat)) H'
section
variable {P:Program}{w:World}{K:Frag}{mg:Str→Option Value}{base:Heap}
theorem BP(T:Tp K mg):OkN P w base 1 T.x1 (IK T):=by
 refine T.x1.F.okX AX (λvs H Q E h=>?_) (λcS A outer s H vs Q E av h=>?_)
 ·obtain⟨a,b,rfl,_⟩:=h
  rfl
 ·have hu:=av.hu;obtain⟨a0,b0,rfl,q⟩:=h;rw[←My.ZdP] at q;refine⟨_,(b_ (mm PassesOwn.leaving (dF (ke (K:=K) rfl hu) (pv 1) aX (dA _)) (cy (yB (i:=0) (j:=1) rfl AX.nd rfl rfl (by decide) rfl rfl (ak (pv 1) (ak (cD eX (pv 0) (pv 1)) aK)) rfl)))
     (cy (c9 (pv 0)))),?_⟩
  try dsimp only[L2.cxX,L2.ZI,L2.Zo]
  walk_at "rd";refine Uw (λm ae H'=>Zf H H'∧∃(x y:Int),m=y.toNat∧ae=[some (.int x),some (.int y)]∧0≤x∧0≤y∧My.G x y=My.G a0 b0) _ ⟨Zf.refl _,a0,b0,rfl,rfl,by omega,by omega,rfl⟩ ?_;rintro m ae H' ⟨az,x,y,rfl,rfl,ao,a',km⟩;walk_at "rds";refine Vi (λc=>mx ?_) (λc=>?_)
  ·have iT:0<y:=by
    have:¬y=0:=by simpa using c
    omega
   walk_at "rds";exact⟨_,(by have:=qaR x (show y≠0 by omega);have:=qbc x iT;omega),az,y,x % y,rfl,rfl,a',qaR x (by omega),(A5 ao iT).trans km⟩
  ·have iT:y=0:=by simpa using c
   have e:x=My.G a0 b0:=by rw[←km,My.ZjT ao iT]
   walk_at "rds";rw[e];exact q H' az
end
def Zb0{K:Frag}{mg:Str→Option Value}(T:Tp K mg):Sp:=λvs H Q _=>∃(p:Addr)(ns:List Int)(k:Int),vs=[.ref p,.int k]∧SqL K H p (ns.map V.int)∧0≤k∧∀c:Int,Q (.int c) H
theorem Zjc{K:Frag}{mg:Str→Option Value}{T:Tp K mg}{H:Hp}{Q:VK}{E:XK}{p:Addr}{ns:List Int}{k:Int}(er:SqL K H p (ns.map V.int))(aR:0≤k)(q:∀c:Int,Q (.int c) H):Zb0 T ([.ref p,.int k]++ []) H Q E:=⟨p,ns,k,rfl,er,aR,q⟩
local macro_rules| `(tactic|walk_at "rd")=>`(tactic|first|((with_reducible show Nm.Zb0 _ _ _ _ _);with_reducible refine Nm.Zjc (by walk_at "hp") (by walk_at "side") (λ_=>?_))|fail "none here")
section
variable {P:Program}{w:World}{K:Frag}{mg:Str→Option Value}{base:Heap}
theorem sY(T:Tp K mg):OkN P w base 1 T.x2 (Zb0 T):=by
 refine T.x2.F.okX He (λvs H Q E h=>?_) (λcS A outer s H vs Q E av h=>?_)
 ·obtain⟨p,ns,k,rfl,_⟩:=h
  rfl
 ·have hu:=av.hu;obtain⟨p,ns,k,rfl,er,aR,q⟩:=h;refine⟨_,(b_ (ec (dF j4 (pv 1) (dM (fj K) (by rfl) T.f qai (ak (pv 0) aK)) (dA _)) (cy (c9 (cv (ixk K) (pv 0) (pv 1) (λ_ _=>rfl)))) el)
     (cy (c9 aX))),?_⟩
  try dsimp only[L2.cxX,L2.ZI,L2.Zo]
  walk_at "rds";refine Rd.ifD (λc=>?_) (λc=>?_)
  ·have dO:k<ns.length:=by simpa using c
   have aZ:=Z1 aR dO;walk_at "rds";exact q _
  ·walk_at "rds";exact q _
end
def IL{K:Frag}{mg:Str→Option Value}(T:Tp K mg):Sp:=λvs H Q _=>∃(p:Addr)(ns:List Int)(at_ M B gC:Int)(gr:Bool),vs=[.ref p,.int at_,.int M,.int B,.int gC,.bl gr]∧SqL K H p (ns.map V.int)∧0≤at_∧1≤M∧M≤30∧0≤B∧M+B≤46∧1≤gC∧gC≤6∧
 ∀(t ey q:Addr)(H':Hp)(rs:List Int)(bs:List V)(ls:List B5),H ey=none→H q=none→Zf H H'→H' t=some (.tup [.ref ey,.ref q])→H' ey=some (.lst (rs.map V.int))→H' q=some (.lst bs)→d7 H' bs ls→(ls.length:Int)=M-1+B→(rs.length:Int)=M→(∀r∈rs,1≤r∧r≤gC)→(∀l∈ls,oV rs l)→UQ ls rs 0 rs.length→Q (.ref t) H'
section
variable {P:Program}{w:World}{K:Frag}{mg:Str→Option Value}{base:Heap}
theorem wq(T:Tp K mg):OkN P w base 2 T.x3 (IL T):=by
 refine T.x3.F.okX g0 (λvs H Q E h=>?_) (λcS A outer s H vs Q E av h=>?_)
 ·obtain⟨p,ns,at_,M,B,gC,gr,rfl,_⟩:=h
  rfl
 ·have hu:=av.hu;obtain⟨p,ns,at_,M,B,gC,gr,rfl,er,a0,iz,ii,b0,jm,iN,dG,q⟩:=h;have IM:0<gC:=by omega
  refine⟨_,(b_ (p8 (j:=6) (xs:=["_law_k"]) rfl (fU (x:="_law_k") (zs:=["_law_script","_law_at","_law_most"]) (ix:=[0,1,4]) (cR so) ["_law_script","_law_at","_law_many","_law_belts","_law_most","_law_great","_law_rates","_law_both","_law_rate","_law_lines","_law_k","_law_cell_here","_law_draw","_law_one","_law_other","_law_scale","_law_give","_law_take","_law_start"] rfl rfl (by decide+kernel)) (j1 rfl T.k (ak (pv 2) aK)) (λcl C s H fp=>⟨(c6 (i:=0) (show(["_law_k","_law_script","_law_at","_law_most"]:List Str).Nodup by decide+kernel) rfl (Or.inl rfl)),gx,(cD (ej K) aX (cD eX (da T.x0 (qI T) av WH (ak (da T.x2 (sY T) av WH (ak (pv 1) (ak (cD (ej K) (pv 2) (pv 0)) aK))) (ak (pv 0) aK))) (pv 3)))⟩) g0.nd rfl (Or.inl rfl))
     (b_ (c0 (i:=7) g0.nd rfl (Or.inr rfl) aX)
     (b_ (gs PassesOwn.leaving rfl (gA (K:=K) rfl (pv 6)) (c6 (i:=8) g0.nd rfl (Or.inl rfl)) (cy (c0 (i:=7) g0.nd rfl (Or.inr rfl) (da T.x1 (BP T) av cW (ak (pv 7) (ak (pv 8) aK))))))
     (b_ (rQ (j:=6) rfl (fU (x:="_law_rate") (zs:=["_law_both"]) (ix:=[7]) (cR so) ["_law_script","_law_at","_law_many","_law_belts","_law_most","_law_great","_law_rates","_law_both","_law_rate","_law_lines","_law_k","_law_cell_here","_law_draw","_law_one","_law_other","_law_scale","_law_give","_law_take","_law_start"] rfl rfl (by decide+kernel)) (gA (K:=K) rfl (pv 6)) (λcl C s H fp=>⟨(c6 (i:=0) (show(["_law_rate","_law_both"]:List Str).Nodup by decide+kernel) rfl (Or.inl rfl)),gx,(cD f0 (pv 0) (pv 1))⟩) g0.nd rfl (Or.inl rfl))
     (b_ (c0 (i:=9) g0.nd rfl (Or.inl rfl) (fN aK))
     (b_ (gs PassesOwn.leaving rfl (j1 rfl T.k (ak (cD (ej K) (cD j3 (pv 2) aX) (pv 3)) aK)) (c6 (i:=10) g0.nd rfl (Or.inl rfl)) (b_ (c0 (i:=11) g0.nd rfl (Or.inl rfl) (da T.x2 (sY T) av cW (ak (pv 0) (ak (cD (ej K) (cD (ej K) (pv 1) (pv 2)) (pv 10)) aK))))
     (b_ (c0 (i:=12) g0.nd rfl (Or.inl rfl) (da T.x0 (qI T) av cW (ak (pv 11) (ak (cD (ej K) aX (pv 10)) aK))))
     (b_ (c0 (i:=13) g0.nd rfl (Or.inl rfl) (cD eX (pv 12) (pv 2)))
     (b_ (c0 (i:=14) g0.nd rfl (Or.inl rfl) (cD eX (cD f0 (pv 12) aX) (pv 2)))
     (b_ (nn (ec (dF j4 (pv 10) (cD j3 (pv 2) aX) (dA _)) (b_ (c0 (i:=13) g0.nd rfl (Or.inl rfl) (cD (ej K) (pv 10) aX))
     (b_ (c0 (i:=14) g0.nd rfl (Or.inl rfl) (cD eX (cD f0 (pv 12) aX) (cD (ej K) (pv 10) aX)))
     (cy (ec (dF (gJ (K:=K) rfl hu) (cD eX (pv 12) aX) aX (dA _)) (cy (yB (i:=13) (j:=14) rfl g0.nd rfl rfl (by decide) rfl rfl (ak (pv 14) (ak (pv 13) aK)) rfl)) el)))) el))
     (b_ (c0 (i:=15) g0.nd rfl (Or.inl rfl) (cD (ej K) aX (cD eX (cD f0 (pv 12) aX) aX)))
     (b_ (nn (ec (PW.pt (mi (hv (K:=K) rfl (pv 5) (λ_=>rfl)) (m6 (dF (gJ (K:=K) rfl hu) (cD eX (cD f0 (pv 12) aX) aX) aX (dA _))))) (cy (c0 (i:=15) g0.nd rfl (Or.inl rfl) (cD (ej K) aX (cD eX (pv 11) (cD yJ aX aX))))) el))
     (b_ (c0 (i:=7) g0.nd rfl (Or.inr rfl) (da T.x1 (BP T) av cW (ak (cv (ixk K) (pv 6) (pv 13) (λ_ _=>rfl)) (ak (cv (ixk K) (pv 6) (pv 14) (λ_ _=>rfl)) aK))))
     (b_ (c0 (i:=16) g0.nd rfl (Or.inl rfl) (cD gV (pv 15) (cD f0 (cv (ixk K) (pv 6) (pv 14) (λ_ _=>rfl)) (pv 7))))
     (b_ (c0 (i:=17) g0.nd rfl (Or.inl rfl) (cD gV (pv 15) (cD f0 (cv (ixk K) (pv 6) (pv 13) (λ_ _=>rfl)) (pv 7))))
     (b_ (c0 (i:=18) g0.nd rfl (Or.inl rfl) (cv (ixk K) (fN (ak aX (ak (pv 17) (ak (cD eX (cD f0 (pv 12) aX) (cD (ej K) (pv 16) (pv 17))) (ak (cD (ej K) (pv 16) (pv 17)) (ak (cD gV (pv 17) (cv (ixk K) (pv 6) (pv 14) (λ_ _=>rfl))) aK)))))) (cD eX (da T.x0 (qI T) av cW (ak (pv 11) (ak (cD (ej K) aX (pv 10)) aK))) aX) (λ_ _=>rfl)))
     (cy (fL (iK (K:=K) rfl qax qaD qaE ju (pv 9) (ak (fE (ak (pv 13) (ak (pv 14) (ak (pv 16) (ak (pv 17) (ak (pv 18) aK)))))) aK))))))))))))))))
     (cy (c9 (fE (ak (pv 6) (ak (pv 9) aK))))))))))),?_⟩
  try dsimp only[L2.cxX,L2.ZI,L2.Zo]
  walk_at "rds";refine Yf (own:=1) VB.y (dR (by omega)) (λj=>[some (.int (0+(j:Int)))]) (λ_=>rfl) (λ_=>true) (λ_ v _=>∃x:Int,v= .int x∧(1≤x∧x≤gC)) (λ_ _ _ _ _ z=>z) (λi du H' v ay gX hi sm y e' k=>?_) (λi H' ds hi sm k=>?_) (λic i H' ds hi ax hp0 hp1' sm k=>?_) (λsa aj ys hsa az hsa1 c1=>?_)
  ·obtain⟨rfl,rfl⟩:=y;obtain⟨x1,rfl⟩:∃x1,du=[x1]:=by
    match du,e' with
    | [x1],_=>exact⟨x1,rfl⟩
   walk_at "rds";exact k _ (Zf.refl _)
  ·walk_at "rds";exact k H' (Zf.refl H')
  ·have GJ:=sm.seq er;have dv:(i:Int)<30:=by omega
   rw[qbA];walk_at "rds";rename_i g7 mx0 mx1;have aW:=qaR g7 (show gC≠0 by omega);have a7:=qbc g7 IM;exact k _ H' (Zf.refl H') ⟨_,rfl,by omega,by omega⟩
  rw[qao.mpr (by simp)] at c1;obtain⟨gg,rfl,g4,jP⟩:=Zfh c1;rw[List.length_range] at g4;clear c1;have fS:gg≠[]:=λz=>by rw[z] at g4;simp at g4;omega
  obtain⟨IN,wr,BQ⟩:=Zjv (λx ao=>(jP x ao).1) fS;have RV:=hsa;have BR:=SqL.of (K:=K) hsa1;walk_at "rds";refine WG (gy BR) (λi ae H'=>Zf aj H'∧∃a1:Option V,ae=[some (.ref p),some (.int at_),some (.int M),some (.int B),some (.int gC),some (.bl gr),some (.ref sa),some (.int ((gcdA (gg.take i):Nat):Int)),a1,none,none,none,none,none,none,none,none,none,none]) ⟨Zf.refl _,_,rfl⟩ (λi ae H' h=>h.1) ?_ ?_
  ·rintro i ae ay hi ⟨b',a1,rfl⟩;have dv:i<gg.length:=by simpa using hi
   have eJ:(gg.map V.int).getD i .non= .int gg[i]:=by simp[List.getD,dv]
   have d9:gcdA (gg.take (i+1))=Nat.gcd (gcdA (gg.take i)) gg[i].toNat:=by rw[qam dv,IE]
   have ao:=jP _ (fm dv);rw[eJ];obtain⟨y,eM⟩:∃y:Nat,gg[i]=(y:Int):=⟨gg[i].toNat,by omega⟩;rw[eM] at d9⊢;rw[qaa] at d9;walk_at "rds";refine⟨_,y,rfl,λbF bb=>?_⟩;rw[←d9];walk_at "rds";exact⟨b'.trans bb,_,rfl⟩
  rintro ae ay ⟨b',a1,rfl⟩;rw[GE,qa4];have IP:∀x∈gg,x / (gcdA gg:Int)≤6:=λx ao=>by have:=wr x ao;have:=jP x ao;omega
  have BS:gcdA gg<2 ^ 8000:=by
   obtain⟨x,ao⟩:=List.exists_mem_of_ne_nil gg fS;have ai:=(wh gg 0).2.1 x ao;have aw:=jP x ao;have cC:gcdA gg≤x.toNat:=qbe (by omega) ai;have c3:(6:Nat)<2 ^ 8000:=qad (by decide:6<2 ^ 3) (qau (by decide) (by decide));omega
  have ws:=Zf6 (a:=0) IN BS;have IQ:=b'.seq BR;generalize gcdA gg=G at*;walk_at "rds";refine YX (gy IQ) (dR (by rw[GE];omega)) (λ_=>true) (λi=> .int (gg.getD i 0 / (G:Int))) (λi H' ds hi sm k=>?_) (λi H' ds hi _ sm k=>?_) (λey bF mR bb BU=>?_)
  ·walk_at "rds";exact k H' (Zf.refl H')
  ·have dv:i<gg.length:=by simpa using hi
   have eJ:(gg.map V.int).getD i .non= .int (gg.getD i 0):=by simp[List.getD,dv]
   rw[eJ];walk_at "rds";exact k H' (Zf.refl H')
  obtain⟨rs,qJ,gD,sZ,IR⟩:∃rs:List Int,bF ey=some (.lst (rs.map V.int))∧rs.length=gg.length∧(∀r∈rs,1≤r∧r≤gC)∧∀g:Nat,(∀v<gg.length,g ∣ (rs.getD (0+v) 0).toNat)→g=1:=by
   refine⟨gg.map λx=>x / (G:Int),?_,by simp,λr av=>?_,BQ⟩
   ·rw[BU,qao.mpr (by simp),GE];refine congrArg (λz=>some (HO.lst z)) ?_;refine qaw (by simp) λi ai aw=>?_;have:i<gg.length:=by simpa using ai
    simp[List.getD,this]
   ·obtain⟨x,ao,rfl⟩:=qah.mp av;have:=wr x ao;have:=jP x ao;omega
  clear BU BQ wr IP ws BS;have IS:(rs.length:Int)=M:=by omega
  have jQ:=az.trans (b'.trans bb);have BV:H ey=none:=eG (az.trans b') mR;walk_at "rds";refine⟨qaA _,λr av=>?_⟩;have cI:Zf bF (upd bF r (.lst [])):=cP av;have gm:(upd bF r (.lst [])) r=some (.lst []):=Ze;generalize upd bF r (.lst [])=bC at*;have qK:=jQ.trans cI;have f7:H r=none:=eG jQ av;have s0:=SqL.of (K:=K) (cI _ _ qJ);walk_at "rds";refine Um (n:=(M-1+B).toNat) (λi ae H'=>∃(bs:List V)(ls:List B5)(dh dJ iv qi wt wu s1 nV nW nX:Option V),ae=[some (.ref p),some (.int at_),some (.int M),some (.int B),some (.int gC),some (.bl gr),some (.ref ey),dh,a1,some (.ref r),dJ,iv,qi,wt,wu,s1,nV,nW,nX]∧Zf bF H'∧H' r=some (.lst bs)∧d7 H' bs ls∧ls.length=i∧(∀l∈ls,oV rs l)∧∀k,k<i→k+1<rs.length→∃m≤k,((ls.getD k dB).giver=((0+k+1:Nat):Int)∧(ls.getD k dB).taker=((0+m:Nat):Int))∨((ls.getD k dB).giver=((0+m:Nat):Int)∧(ls.getD k dB).taker=((0+k+1:Nat):Int))) ⟨[],[],_,_,_,_,_,_,_,_,_,_,rfl,cI,gm,.nil,rfl,by simp,λk aR=>absurd aR (qaH _)⟩ ?_ ?_
  ·rintro i ae cj hi ⟨bs,ls,dh,dJ,iv,qi,wt,wu,s1,nV,nW,nX,rfl,cK,gG,k9,qL,mS,lT⟩;have jR:=jQ.trans cK;have BW:=jR.seq er;have oZ:=cK _ _ qJ;have BX:=SqL.of (K:=K) oZ;have g8:=k9.length;have IT:bs.length<sizeLine:=dR (by omega);have mp:0<M:=by omega
   have IU:(i:Int)<60:=by omega
   have IV:0<(i:Int)+1:=by omega
   rw[qbA];walk_at "rds";rename_i c g7 mx0 mx1;have cH:=qaR g7 (show M≠0 by omega);have cX:=qbc g7 mp;have dH:=qaR (g7 / 8) (show M≠0 by omega);have eU:=qbc (g7 / 8) mp;have i4:=qaR (g7 / 8) (show(i:Int)+1≠0 by omega);have mF:=qbc (g7 / 8) IV;generalize g7 % M=ea at*;generalize g7 / 8 % M=fy at*;refine Rd.cut (λci H'=>cj=H'∧∃g t:Int,ci=[some (.ref p),some (.int at_),some (.int M),some (.int B),some (.int gC),some (.bl gr),some (.ref ey),dh,a1,some (.ref r),some (.int (i:Int)),some (.int c),some (.int g7),some (.int g),some (.int t),s1,nV,nW,nX]∧(0≤g∧g<M)∧(0≤t∧t<M)∧((i:Int)<M-1→(g=(i:Int)+1∧t≤(i:Int))∨(t=(i:Int)+1∧g≤(i:Int)))) ?k1 ?e1
   case e1=>
    walk_at "rds";refine Rd.ifD (λd1=>?_) (λd1=>?_)
    ·walk_at "rds";refine Rd.ifD (λd2=>?_) (λd2=>?_)
     ·walk_at "rds";exact⟨rfl,_,_,rfl,⟨i4,by omega⟩,⟨by omega,by omega⟩,λ_=> .inr ⟨rfl,by omega⟩⟩
     ·walk_at "rds";exact⟨rfl,_,_,rfl,⟨by omega,by omega⟩,⟨i4,by omega⟩,λ_=> .inl ⟨rfl,by omega⟩⟩
    ·walk_at "rds";exact⟨rfl,_,_,rfl,⟨cH,cX⟩,⟨dH,eU⟩,λz=>absurd z d1⟩
   case k1=>
   clear cH cX dH eU i4 mF;rintro ci H' ⟨rfl,g,t,rfl,aM,cu,qM⟩;walk_at "rds";refine Rd.cut (λci H'=>cj=H'∧∃f:Nat,ci=[some (.ref p),some (.int at_),some (.int M),some (.int B),some (.int gC),some (.bl gr),some (.ref ey),dh,a1,some (.ref r),some (.int (i:Int)),some (.int c),some (.int g7),some (.int g),some (.int t),some (.int (f:Int)),nV,nW,nX]∧0<f∧f≤10 ^ 20) ?k2 ?fr
   case fr=>
    have gi:cj=cj∧∃f:Nat,[some (V.ref p),some (.int at_),some (.int M),some (.int B),some (.int gC),some (.bl gr),some (.ref ey),dh,a1,some (.ref r),some (.int (i:Int)),some (.int c),some (.int g7),some (.int g),some (.int t),some (.int (1+g7 / 64 % 3)),nV,nW,nX]=[some (V.ref p),some (.int at_),some (.int M),some (.int B),some (.int gC),some (.bl gr),some (.ref ey),dh,a1,some (.ref r),some (.int (i:Int)),some (.int c),some (.int g7),some (.int g),some (.int t),some (.int (f:Int)),nV,nW,nX]∧0<f∧f≤10 ^ 20:=by
     obtain⟨f,wv⟩:∃f:Nat,1+g7 / 64 % 3=(f:Int):=⟨(1+g7 / 64 % 3).toNat,by omega⟩;exact⟨rfl,f,by rw[wv],by omega,by omega⟩
    cases gr with
    |false=>
     walk_at "rds";exact gi
    |true=>
     walk_at "rds";refine Rd.ifD (λd1=>?_) (λd1=>?_)
     ·walk_at "rds";have f_:0≤c % 10 ^ Int.toNat 20:=qaR _ (by decide);have hZ:c % 10 ^ Int.toNat 20<10 ^ 20:=qbc _ (by decide);generalize c % 10 ^ Int.toNat 20=cm at*;obtain⟨f,wv⟩:∃f:Nat,1+cm=(f:Int):=⟨(1+cm).toNat,by omega⟩;exact⟨rfl,f,by rw[wv],by omega,by omega⟩
     ·walk_at "rds";exact gi
   case k2=>
   rintro ci H' ⟨rfl,f,rfl,dE,f1⟩;have ao:=sZ _ (nU (d:=0) (show g.toNat<rs.length by omega));have a':=sZ _ (nU (d:=0) (show t.toNat<rs.length by omega));have hC:=Z1 (ns:=rs) aM.1 (by omega);have jf:=Z1 (ns:=rs) cu.1 (by omega);obtain⟨x,ex⟩:∃x:Nat,rs.getD g.toNat 0=(x:Int):=⟨(rs.getD g.toNat 0).toNat,by omega⟩;obtain⟨y,eM⟩:∃y:Nat,rs.getD t.toNat 0=(y:Int):=⟨(rs.getD t.toNat 0).toNat,by omega⟩;rw[ex] at hC ao;rw[eM] at jf a';walk_at "rds";refine⟨x,y,rfl,λc7 dn=>?_⟩;have s2:=dn _ _ oZ;have s3:=SqL.of (K:=K) s2;have RW:=dn.seq BW;have lU:=dn _ _ gG;have ww:=k9.keep (λb xs e=>dn _ _ e);obtain⟨cA,cT,fY,kB,lp⟩:=Zlf (x:=x) (y:=y) (by omega) (by omega) dE (by omega) (by omega) f1;have ws:=Zf6 (a:=0) (qbE y (show 0<x by omega)) (qav (qaz (qbe (by omega) (qby x y)) (show x≤6 by omega)) (qad (by decide:6<2 ^ 3) (qau (by decide) (by decide))));have f2:f<2 ^ 110:=qav f1 (by decide);have s4:IntMulOk (f:Int) ((y:Int) / ((Nat.gcd x y:Nat):Int)):=V9 (b:=y / Nat.gcd x y) (m:=110) f2 (qav (qaz (qaQ _ _) (show y≤6 by omega)) (by decide)) (by decide);have wx:IntMulOk (f:Int) ((x:Int) / ((Nat.gcd x y:Nat):Int)):=V9 (b:=x / Nat.gcd x y) (m:=110) f2 (qav (qaz (qaQ _ _) (show x≤6 by omega)) (by decide)) (by decide);have IW:IntMulOk ((f:Int)*((x:Int) / ((Nat.gcd x y:Nat):Int))) (y:Int):=V9 (a:=f*(x / Nat.gcd x y)) (m:=110) kB (qav (show y≤6 by omega) (by decide)) (by decide);have lE:0<(f:Int)*((y:Int) / ((Nat.gcd x y:Nat):Int))+(f:Int)*((x:Int) / ((Nat.gcd x y:Nat):Int)):=by
    show 0<((f*(y / Nat.gcd x y):Nat):Int)+((f*(x / Nat.gcd x y):Nat):Int);omega
   walk_at "rds";have d9:(f:Int)*((y:Int) / ((Nat.gcd x y:Nat):Int))=((f*(y / Nat.gcd x y):Nat):Int):=rfl;have dX:(f:Int)*((x:Int) / ((Nat.gcd x y:Nat):Int))=((f*(x / Nat.gcd x y):Nat):Int):=rfl;rw[d9,dX] at lE;rw[d9,dX];clear s4 wx IW ws;generalize f*(y / Nat.gcd x y)=cz at*;generalize f*(x / Nat.gcd x y)=a5 at*;refine⟨by show 5≤sizeLine;decide,λgn g4=>?_⟩;have fk:=qaR (g7 / 384) (show(cz:Int)+(a5:Int)≠0 by omega);generalize g7 / 384 % ((cz:Int)+(a5:Int))=nY at*;have e0:0≤(a5:Int)*(y:Int):=Int.mul_nonneg (by omega) (by omega);generalize (a5:Int)*(y:Int)=gh at*;have dW:Zf c7 (upd c7 gn (.lst [.int 0,.int a5,.int nY,.int (cz+a5),.int gh])):=cP g4;have wy:(upd c7 gn (.lst [.int 0,.int a5,.int nY,.int (cz+a5),.int gh])) gn=some (.lst (([0,(a5:Int),nY,(cz:Int)+(a5:Int),gh]:List Int).map V.int)):=Ze;generalize upd c7 gn (.lst [.int 0,.int a5,.int nY,.int (cz+a5),.int gh])=dq at*;have jB:=dW _ _ lU;have qN:=ww.keep (λb xs e=>dW _ _ e);have IX:([0,(a5:Int),nY,(cz:Int)+(a5:Int),gh]:List Int).length=5:=rfl;have wz:∀s∈([0,(a5:Int),nY,(cz:Int)+(a5:Int),gh]:List Int),0≤s:=λs hs=>by
    simp only[qaf,qaF,or_false] at hs;rcases hs with e|e|e|e|e<;>omega
   generalize ([0,(a5:Int),nY,(cz:Int)+(a5:Int),gh]:List Int)=fv at*;have RX:=SqL.of (K:=K) wy;walk_at "rds";rename_i oS m50 m51;have s5:=Z1 (ns:=fv) (k:=oS % 5) (by omega) (by omega);have dQ:=wz _ (nU (d:=0) (show(oS % 5).toNat<fv.length by omega));generalize fv.getD (oS % 5).toNat 0=st at*;walk_at "rds";refine⟨by show 5≤sizeLine;decide,λu fw=>?_⟩;have eQ:Zf dq (upd dq u (.tup [.int g,.int t,.int cz,.int a5,.int st])):=cP fw;have IY:(upd dq u (.tup [.int g,.int t,.int cz,.int a5,.int st])) u=some (.tup (B5.mk g t cz a5 st).v):=Ze;have kr:=eQ _ _ jB;generalize upd dq u (.tup [.int g,.int t,.int cz,.int a5,.int st])=ev at*;walk_at "rds";have o0:eb [r] ev (upd ev r (.lst (bs++ [.ref u]))):=jH (by simp) kr (by intro _ z;cases z);refine⟨bs++ [.ref u],ls++ [⟨g,t,cz,a5,st⟩],_,_,_,_,_,_,_,_,_,_,rfl,(cK.trans (dn.trans (dW.trans eQ))).new av,Ze,((qN.keep λb xs e=>eQ _ _ e).keep o0.tups).snoc (o0.tups _ _ IY),by simp[qL],λl af=>?_,λk aR IZ=>?_⟩
   ·rcases qar.mp af with z|z
    ·exact mS l z
    ·rw[qab.mp z];refine⟨⟨aM.1,by show g<(rs.length:Int);omega,cu.1,by show t<(rs.length:Int);omega⟩,⟨_,_,rfl,rfl,cA,cT,fY,kB,?_⟩,dQ⟩;dsimp only;rw[ex,eM,qaa,qaa];exact lp
   ·rcases qaC k i with z|z
    ·obtain⟨m,a6,ax⟩:=lT k z IZ;refine⟨m,a6,?_⟩;have e:(ls++ [B5.mk g t cz a5 st]).getD k dB=ls.getD k dB:=by
      rw[dm (by rw[qac];omega),dm (show k<ls.length by omega),qa5 (by omega)]
     rw[e];exact ax
    ·obtain rfl:k=i:=by omega
     have e:(ls++ [B5.mk g t cz a5 st]).getD k dB=B5.mk g t cz a5 st:=by
      subst qL;simp[List.getD]
     rw[e];rcases qM (by omega) with⟨hg,lV⟩|⟨hg,lV⟩
     ·exact⟨t.toNat,by omega,.inl ⟨by show g=_;omega,by show t=_;omega⟩⟩
     ·exact⟨g.toNat,by omega,.inr ⟨by show g=_;omega,by show t=_;omega⟩⟩
  ·rintro ae cj ⟨bs,ls,dh,dJ,iv,qi,wt,wu,s1,nV,nW,nX,rfl,cK,gG,k9,qL,mS,lT⟩;walk_at "rds";refine⟨by show 2≤sizeLine;decide,λt cu=>?_⟩;have dn:Zf cj (upd cj t (.tup [.ref ey,.ref r])):=cP cu;refine q t ey r _ rs bs ls BV f7 ((jQ.trans cK).trans dn) Ze (dn _ _ (cK _ _ qJ)) (dn _ _ gG) (k9.keep λb xs e=>dn _ _ e) (by omega) IS sZ mS ⟨λk aR=>?_,λg aM=>IR g λv cn=>aM v (by omega)⟩;obtain⟨m,a6,ax⟩:=lT k (by omega) aR;exact⟨k,by omega,m,a6,ax⟩
end
def I0{K:Frag}{mg:Str→Option Value}(T:Tp K mg):Sp:=λvs H Q _=>∃x:Str,vs=[.str x]∧x.length≤sizeLine∧∀H',Zf H H'→Q (.bl (i7 x)) H'
noncomputable def letter (c:Nat):Bool:=decide (97≤c)&&decide (c≤122)
theorem BY(c d:Nat):decide ((⟨#[c]⟩:Str).cps.toList<(⟨#[d]⟩:Str).cps.toList)=decide (c<d):=by
 show decide ([c]< [d])=decide (c<d);have e:([c]< [d])↔c<d:=by
  constructor
  ·intro h;cases h with
   |rel h=>exact h
   |cons h=>cases h
  ·exact λh=> .rel h
 by_cases h:c<d
 ·rw[decide_eq_true h,decide_eq_true (e.mpr h)]
 ·rw[decide_eq_false h,decide_eq_false (λz=>h (e.mp z))]
theorem I1:("a" :Str)=⟨#[97]⟩:=by decide+kernel
theorem I2:("z" :Str)=⟨#[122]⟩:=by decide+kernel
theorem Zh2(x:Str):(((List.range x.cps.size).map λi=>letter (x.cps.getD i 0)).all id)=x.cps.toList.all letter:=by
 rw[List.all_map,qbn,qbx,qbx]
 constructor
 ·intro h c ax;obtain⟨i,hi,rfl⟩:=qat ax;have dv:i<x.cps.size:=by simpa using hi
  have:=h i (qaL.mpr dv);simpa[Array.getD,dv] using this
 ·intro h i hi;have dv:=qaL.mp hi;have:=h x.cps[i] (by simp);simpa[Array.getD,dv] using this
theorem ZbO(x:Str):i7 x=(decide (1≤x.length)&&decide (x.length≤8)&&x.cps.toList.all letter):=rfl
section
variable {P:Program}{w:World}{K:Frag}{mg:Str→Option Value}{base:Heap}
theorem I3(T:Tp K mg):OkN P w base 1 T.x4 (I0 T):=by
 refine T.x4.F.okX Hf (λvs H Q E h=>?_) (λcS A outer s H vs Q E av h=>?_)
 ·obtain⟨x,rfl,_⟩:=h
  rfl
 ·have hu:=av.hu;obtain⟨x,rfl,ao,q⟩:=h;refine⟨_,(b_ (ec (ij (hv (K:=K) rfl (dM (lJ (K:=K) rfl) (by rfl) T.c qan (ak (pv 0) (ak (jD (v:= .ty "str") (by rfl) T.cf PyProof.Rows.boot_str rfl) aK))) (λ_=>rfl))) (cy (c9 Z2)) el)
     (b_ (ec (PW.pt (jo (dF j4 (dM (fj K) (by rfl) T.f qai (ak (pv 0) aK)) aX (dA _)) (jX (dF og (dM (fj K) (by rfl) T.f qai (ak (pv 0) aK)) (m5 (v:= .int 8) rfl T.Z ⟨_,rfl⟩) (dA _))))) (cy (c9 Z2)) el)
     (cy (c9 (dM (u5 (K:=K) rfl rfl) (by rfl) T.a0 PyProof.Rows.boot_all (ak (nw rfl (fU (x:="sign") (zs:=[]) (ix:=[]) (cR vB) ["thing"] rfl rfl (by decide+kernel)) (Fw (pv 0)) (λcl C s H fp=>⟨(c6 (i:=0) (show(["sign"]:List Str).Nodup by decide+kernel) rfl (Or.inl rfl)),gx,(Ey y' y' Y1 (pv 0) Y1)⟩)) aK)))))),?_⟩
  try dsimp only[L2.cxX,L2.ZI,L2.Zo]
  walk_at "rds";refine Vi (λc=>?_) (λc=>?_)
  ·have dO:¬1≤x.length:=by simp at c;omega
   walk_at "rds";have e:i7 x=false:=by rw[ZbO,decide_eq_false dO];rfl
   rw[←e];exact q H (Zf.refl H)
  ·have dO:1≤x.length:=by simp at c;omega
   walk_at "rds";refine Vi (λd=>?_) (λd=>?_)
   ·have d':¬x.length≤8:=by simp at d;omega
    walk_at "rds";have e:i7 x=false:=by rw[ZbO,decide_eq_false d',Bool.and_false];rfl
    rw[←e];exact q H (Zf.refl H)
   ·have d':x.length≤8:=by simp at d;omega
    have bA:x.cps.size<sizeLine:=dR (by have:x.cps.size=x.length:=rfl;omega);walk_at "rds";refine YX ZjA bA (λ_=>true) (λi=> .bl (letter (x.cps.getD i 0))) (λi H' ds hi sm k=>?_) (λi H' ds hi _ sm k=>?_) (λp H' aS sm af=>?_)
    ·walk_at "rds";exact k H' (Zf.refl H')
    ·walk_at "rds";rw[I1,I2,BY];generalize x.cps.getD i 0=cc at k⊢;refine Vi (λz=>?_) (λz=>?_)
     ·walk_at "rds";have e:(!decide (122<cc))=letter cc:=by
       have fl:97≤cc:=by simpa using z
       unfold letter;rw[decide_eq_true fl,qck]
       by_cases y:cc≤122
       ·rw[decide_eq_true y,decide_eq_false (by omega)];rfl
       ·rw[decide_eq_false y,decide_eq_true (by omega)];rfl
      rw[BY,e];exact k H' (Zf.refl H')
     ·have e:false=letter cc:=by
       have fl:¬97≤cc:=by simpa using z
       unfold letter;rw[decide_eq_false fl];rfl
      rw[e];exact k H' (Zf.refl H')
    ·have fi:H' p=some (.lst (((List.range x.cps.size).map λi=>letter (x.cps.getD i 0)).map V.bl)):=by
      rw[af,qao.mpr (by simp),qbz];rfl
     walk_at "rds";rw[Zh2];have e:x.cps.toList.all letter=i7 x:=by rw[ZbO,decide_eq_true dO,decide_eq_true d'];rfl
     rw[e];exact q H' sm
end
def BZ{K:Frag}{mg:Str→Option Value}(T:Tp K mg):Sp:=λvs H Q E=>∃(p:Addr)(x:Str)(af:HM)(fp:List Addr),vs=[.ref p,.str x]∧dD T H p af fp∧x.length≤sizeLine∧af.names.length≤1000∧
 (i7 x=false→∀H',Zf H H'→E (.ref T.ba) none H')∧(i7 x=true→x∈af.names→∀H',Zf H H'→E (.ref T.bf) none H')∧
 (i7 x=true→x∉af.names→30≤af.names.length→∀H',Zf H H'→E (.ref T.am) none H')∧
 (i7 x=true→x∉af.names→af.names.length<30→∀(H':Hp)(fe:List Addr),dD T H' p ⟨af.names++ [x],af.belts⟩ fe→eb fp H H'→Uf fp fe H→Q (.int af.names.length) H')
theorem ZbA{K:Frag}{mg:Str→Option Value}{T:Tp K mg}{H:Hp}{Q:VK}{E:XK}{p:Addr}{x:Str}{af:HM}{fp:List Addr}(h:dD T H p af fp)(bA:i7 x=true)(ao:x∉af.names)(ed:af.names.length<30)
  (q:∀(H':Hp)(fe:List Addr),dD T H' p ⟨af.names++ [x],af.belts⟩ fe→eb fp H H'→Uf fp fe H→Q (.int af.names.length) H'):BZ T (.ref p::([.str x]++ [])) H Q E:=by
 have I4:x.length≤sizeLine:=by
  have:x.length≤8:=by
   have e:=bA;unfold i7 at e;simp only[qa2,decide_eq_true_eq] at e;exact e.1.2
  exact qaX (dR (by omega))
 exact⟨p,x,af,fp,rfl,h,I4,by omega,λz=>(by rw[bA] at z;cases z),λ_ z=>absurd z ao,λ_ _ z=>absurd z (by omega),λ_ _ _=>q⟩
section
variable {P:Program}{w:World}{K:Frag}{mg:Str→Option Value}{base:Heap}
theorem B0(T:Tp K mg):OkM P w mg base 2 T.x5 (BZ T):=by
 have gp:=T.a;have gq:=T.e;refine T.x5.F.okX AY (λvs H Q E h=>?_) (λcS A outer s H vs Q E av h=>?_)
 ·obtain⟨p,x,af,fp,rfl,_⟩:=h
  rfl
 ·have hu:=av.hu;obtain⟨p,x,af,fp,rfl,cw,ao,hz,aW,a7,c_,q⟩:=h;obtain⟨aY,a,b,bs,rfl,ai,aw,cC,c3,ie,dS⟩:=id cw;have lW:p≠a:=ha ai cC (by intro z;cases z);have wA:aY≠a:=ha aw cC (by intro z;cases z);refine⟨_,(b_ (ec (ij (hv (K:=K) rfl (da T.x4 (I3 T) av cW (ak (pv 1) aK)) (λ_=>rfl))) (cy (jI T.aE.g T.aE.e qay rfl (ak Y1 aK))) el)
     (b_ (ec (dF (zo hu) (pv 1) (gd (K:=K) rfl (pv 0) rfl) (by with_unfolding_all rfl)) (cy (jI T.aT.g T.aT.e qay rfl (ak Y1 aK))) el)
     (b_ (ec (dF oh (dM Zic (by rfl) T.f qai (ak (gd (K:=K) rfl (pv 0) rfl) aK)) (m5 (v:= .int 30) rfl T.ap ⟨_,rfl⟩) (dA _)) (cy (jI T.F.g T.F.e qay rfl (ak Y1 aK))) el)
     (b_ (c0 (i:=2) AY.nd rfl (Or.inl rfl) (dM Zic (by rfl) T.f qai (ak (gd (K:=K) rfl (pv 0) rfl) aK)))
     (b_ (iA (pv 2) (kA (gd (K:=K) rfl (pv 0) rfl) (pv 1) (p6 hu)))
     (cy (c9 (pv 2)))))))),?_⟩
  try dsimp only[L2.cxX,L2.ZI,L2.Zo]
  walk_at "rds";refine⟨x,rfl,ao,λaj g9=>?_⟩;have g1:=g9 _ _ ai;have g3:=g9 _ _ cC;have nG:(numsOf af.names).length<sizeLine:=dR (by rw[US];exact hz);walk_at "rds";cases bA:i7 x with
  |false=>
   walk_at "rds";exact aW bA aj g9
  |true=>
   walk_at "rds";rw[ZeL];refine Vi (λc=>?_) (λc=>?_)
   ·walk_at "rds";exact a7 bA (of_decide_eq_true c) aj g9
   ·have dO:x∉af.names:=λz=>c (decide_eq_true z);walk_at "rds";rw[US];refine Vi (λd=>?_) (λd=>?_)
    ·have d':30≤af.names.length:=by simp at d;omega
     walk_at "rds";exact c_ bA dO d' aj g9
    ·have d':af.names.length<30:=by simp at d;omega
     walk_at "rds";rw[US,HS dO];have gf:eb [p,aY,a,b] H (upd aj a (.dK (numsOf (af.names++ [x])))):=g9.frame.trans (jH (by simp) g3 (by intro _ z;cases z));refine q bA dO d' _ [p,aY,a,b] ⟨aY,a,b,bs,rfl,?_,?_,Ze,?_,ie,dS.keep gf.tups⟩ gf Uf.refl
     ·rw[cq lW];exact g1
     ·rw[cq wA];exact g9 _ _ aw
     ·rw[cq ie.symm];exact g9 _ _ c3
end
def Zaw{K:Frag}{mg:Str→Option Value}(T:Tp K mg):Sp:=λvs H Q _=>∃i:Int,vs=[.int i]∧Q (.bl true) H
theorem Zg2{K:Frag}{mg:Str→Option Value}{T:Tp K mg}{H:Hp}{Q:VK}{E:XK}{i:Int}(q:Q (.bl true) H):Zaw T ([.int i]++ []) H Q E:=⟨i,rfl,q⟩
local macro_rules| `(tactic|walk_at "rd")=>`(tactic|first|((with_reducible show Nm.Zaw _ _ _ _ _);with_reducible refine Nm.Zg2 ?_)|fail "none here")
section
variable {P:Program}{w:World}{K:Frag}{mg:Str→Option Value}{base:Heap}
theorem I5(T:Tp K mg):OkN P w base 1 T.x6 (Zaw T):=by
 refine T.x6.F.okX Hg (λvs H Q E h=>?_) (λcS A outer s H vs Q E av h=>?_)
 ·obtain⟨i,rfl,_⟩:=h
  rfl
 ·have hu:=av.hu;obtain⟨i,rfl,q⟩:=h;refine⟨_,(cy (c9 (ml (dM (lJ (K:=K) rfl) (by rfl) T.c qan (ak (pv 0) (ak (jD (v:= .ty "int") (by rfl) T.bg PyProof.Rows.boot_int rfl) aK))) (mj (tW (dM (lJ (K:=K) rfl) (by rfl) T.c qan (ak (pv 0) (ak (jD (v:= .ty "bool") (by rfl) T.a8 PyProof.Rows.boot_bool rfl) aK)))))))),?_⟩
  try dsimp only[L2.cxX,L2.ZI,L2.Zo]
  walk_at "rds";exact q
end
def Za6{K:Frag}{mg:Str→Option Value}(T:Tp K mg):Sp:=λvs H Q _=>∃i l:Int,vs=[.int i,.int l]∧Q (.bl (decide (l≤i))) H
theorem ZhW{K:Frag}{mg:Str→Option Value}{T:Tp K mg}{H:Hp}{Q:VK}{E:XK}{i l:Int}(q:Q (.bl (decide (l≤i))) H):Za6 T ([.int i,.int l]++ []) H Q E:=⟨i,l,rfl,q⟩
local macro_rules| `(tactic|walk_at "rd")=>`(tactic|first|((with_reducible show Nm.Za6 _ _ _ _ _);with_reducible refine Nm.ZhW ?_)|fail "none here")
section
variable {P:Program}{w:World}{K:Frag}{mg:Str→Option Value}{base:Heap}
theorem qO(T:Tp K mg):OkN P w base 2 T.x7 (Za6 T):=by
 refine T.x7.F.okX Hh (λvs H Q E h=>?_) (λcS A outer s H vs Q E av h=>?_)
 ·obtain⟨i,l,rfl,_⟩:=h
  rfl
 ·have hu:=av.hu;obtain⟨i,l,rfl,q⟩:=h;refine⟨_,(cy (c9 (ml (da T.x6 (I5 T) av cW (ak (pv 0) aK)) (mj (lu oh (pv 0) (pv 1) (dA _)))))),?_⟩
  try dsimp only[L2.cxX,L2.ZI,L2.Zo]
  walk_at "rds";exact q
end
def I6{K:Frag}{mg:Str→Option Value}(T:Tp K mg):Sp:=λvs H Q E=>∃i:Int,vs=[.int i]∧(¬0≤i→E (.ref T.aI) none H)∧(0≤i→Q .non H)
section
variable {P:Program}{w:World}{K:Frag}{mg:Str→Option Value}{base:Heap}
theorem I7(T:Tp K mg):OkN P w base 3 T.x8 (I6 T):=by
 refine T.x8.F.okX Hi (λvs H Q E h=>?_) (λcS A outer s H vs Q E av h=>?_)
 ·obtain⟨i,rfl,_⟩:=h
  rfl
 ·have hu:=av.hu;obtain⟨i,rfl,aW,q⟩:=h;refine⟨_,(cy (ec (ij (hv (K:=K) rfl (da T.x7 (qO T) av cW (ak (pv 0) (ak aX aK))) (λ_=>rfl))) (cy (jI T.L.g T.L.e qay rfl (ak Y1 aK))) el)),?_⟩
  try dsimp only[L2.cxX,L2.ZI,L2.Zo]
  walk_at "rds"
  by_cases c:0≤i
  ·rw[decide_eq_true c];walk_at "rds";exact q c
  ·rw[decide_eq_false c];walk_at "rds";exact aW c
end
def W2{K:Frag}{mg:Str→Option Value}(T:Tp K mg):Sp:=λvs H Q _=>∃i b:Int,vs=[.int i,.int b]∧Q (.bl (decide (0≤i∧i<b))) H
theorem ZbF{K:Frag}{mg:Str→Option Value}{T:Tp K mg}{H:Hp}{Q:VK}{E:XK}{i b:Int}(q:Q (.bl (decide (0≤i∧i<b))) H):W2 T ([.int i,.int b]++ []) H Q E:=⟨i,b,rfl,q⟩
local macro_rules| `(tactic|walk_at "rd")=>`(tactic|first|((with_reducible show Nm.W2 _ _ _ _ _);with_reducible refine Nm.ZbF ?_)|fail "none here")
section
variable {P:Program}{w:World}{K:Frag}{mg:Str→Option Value}{base:Heap}
theorem B1(T:Tp K mg):OkN P w base 3 T.x9 (W2 T):=by
 refine T.x9.F.okX Hj (λvs H Q E h=>?_) (λcS A outer s H vs Q E av h=>?_)
 ·obtain⟨i,b,rfl,_⟩:=h
  rfl
 ·have hu:=av.hu;obtain⟨i,b,rfl,q⟩:=h;refine⟨_,(cy (c9 (ml (da T.x7 (qO T) av cW (ak (pv 0) (ak aX aK))) (mj (lu j4 (pv 0) (pv 1) (dA _)))))),?_⟩
  try dsimp only[L2.cxX,L2.ZI,L2.Zo]
  walk_at "rds";refine Vi (λc=>?_) (λc=>?_)
  ·have dO:0≤i:=of_decide_eq_true c;walk_at "rds";have e:decide (i<b)=decide (0≤i∧i<b):=by rw[decide_eq_decide];exact⟨λz=>⟨dO,z⟩,λz=>z.2⟩
   rw[e];exact q
  ·have dO:¬0≤i:=λz=>c (decide_eq_true z);walk_at "rds";have e:false=decide (0≤i∧i<b):=(decide_eq_false (λz=>dO z.1)).symm;rw[e];exact q
end
def I8{K:Frag}{mg:Str→Option Value}(T:Tp K mg):Sp:=λvs H Q E=>∃(p:Addr)(i:Int)(af:HM)(fp:List Addr),vs=[.ref p,.int i]∧dD T H p af fp∧
 (¬(0≤i∧i<af.names.length)→E (.ref T.J) none H)∧(0≤i→i<af.names.length→Q .non H)
section
variable {P:Program}{w:World}{K:Frag}{mg:Str→Option Value}{base:Heap}
theorem s6(T:Tp K mg):OkM P w mg base 4 T.a4 (I8 T):=by
 have gp:=T.a;have gq:=T.e;refine T.a4.F.okX Hk (λvs H Q E h=>?_) (λcS A outer s H vs Q E av h=>?_)
 ·obtain⟨p,i,af,fp,rfl,_⟩:=h
  rfl
 ·have hu:=av.hu;obtain⟨p,i,af,fp,rfl,cw,aW,q⟩:=h;obtain⟨aY,a,b,bs,rfl,ai,aw,cC,c3,ie,dS⟩:=id cw;refine⟨_,(cy (ec (ij (hv (K:=K) rfl (da T.x9 (B1 T) av cW (ak (pv 1) (ak (dM Zic (by rfl) T.f qai (ak (gd (K:=K) rfl (pv 0) rfl) aK)) aK))) (λ_=>rfl))) (cy (jI T.aF.g T.aF.e qay rfl (ak Y1 aK))) el)),?_⟩
  try dsimp only[L2.cxX,L2.ZI,L2.Zo]
  walk_at "rds";rw[US]
  by_cases c:0≤i∧i<af.names.length
  ·rw[decide_eq_true c];walk_at "rds";exact q c.1 c.2
  ·rw[decide_eq_false c];walk_at "rds";exact aW c
end
def I9{K:Frag}{mg:Str→Option Value}(T:Tp K mg):Sp:=λvs H Q E=>∃(p u:Addr)(b:B5)(af:HM)(fp:List Addr),vs=[.ref p,.ref u]∧dD T H p af fp∧H u=some (.tup b.v)∧af.belts.length≤1000∧
 ∀(H':Hp)(fe:List Addr),dD T H' p ⟨af.names,af.belts++ [b]⟩ fe→eb fp H H'→Uf fp fe H→Q (.int af.belts.length) H'
section
variable {P:Program}{w:World}{K:Frag}{mg:Str→Option Value}{base:Heap}
theorem B2(T:Tp K mg):OkM P w mg base 1 T.bl (I9 T):=by
 have gp:=T.a;have gq:=T.e;refine T.bl.F.okX Hl (λvs H Q E h=>?_) (λcS A outer s H vs Q E av h=>?_)
 ·obtain⟨p,u,b,af,fp,rfl,_⟩:=h
  rfl
 ·have hu:=av.hu;obtain⟨p,u,b,af,fp,rfl,cw,fw,hz,q⟩:=h;obtain⟨aY,a,cF,bs,rfl,ai,aw,cC,c3,ie,dS⟩:=id cw;have lX:p≠cF:=ha ai c3 (by intro z;cases z);have wB:aY≠cF:=ha aw c3 (by intro z;cases z);have RY:u≠cF:=ha fw c3 (by intro z;cases z);have nG:bs.length<sizeLine:=dR (by rw[dS.length];exact hz);have wC:=dS.length;refine⟨_,(b_ (fL (iK (K:=K) rfl qax qaD qaE ju (gd (K:=K) rfl (pv 0) rfl) (ak (pv 1) aK)))
     (cy (c9 (cD j3 (dM (fj K) (by rfl) T.f qai (ak (gd (K:=K) rfl (pv 0) rfl) aK)) aX)))),?_⟩
  try dsimp only[L2.cxX,L2.ZI,L2.Zo]
  walk_at "rds";have k1:(upd H cF (.lst (bs++ [.ref u]))) p=some (.ins T.A aY [("numbers",.ref a),("rows",.ref cF)]):=by rw[cq lX];exact ai
  have mI:(upd H cF (.lst (bs++ [.ref u]))) cF=some (.lst (bs++ [.ref u])):=Ze;walk_at "rds";have ia:((bs++ [V.ref u]).length:Int)-1=af.belts.length:=by simp[wC]
  rw[ia];have gf:eb [p,aY,a,cF] H (upd H cF (.lst (bs++ [.ref u]))):=jH (by simp) c3 (by intro _ z;cases z);refine q _ [p,aY,a,cF] ⟨aY,a,cF,_,rfl,k1,?_,?_,mI,ie,(dS.keep gf.tups).snoc (gf.tups _ _ fw)⟩ gf Uf.refl
  ·rw[cq wB];exact aw
  ·rw[cq ie];exact cC
end
def wD{K:Frag}{mg:Str→Option Value}(T:Tp K mg):Sp:=λvs H Q E=>∃(p:Addr)(b:B5)(af:HM)(fp:List Addr),vs= .ref p::b.v∧dD T H p af fp∧af.belts.length≤1000∧
 (¬(0≤b.giver∧b.giver<af.names.length∧0≤b.taker∧b.taker<af.names.length)→∀H',Zf H H'→E (.ref T.J) none H')∧
 ((0≤b.giver∧b.giver<af.names.length∧0≤b.taker∧b.taker<af.names.length)→¬(1≤b.give∧1≤b.take∧0≤b.start)→∀H',Zf H H'→E (.ref T.aI) none H')∧
 ((0≤b.giver∧b.giver<af.names.length∧0≤b.taker∧b.taker<af.names.length)→(1≤b.give∧1≤b.take∧0≤b.start)→60≤af.belts.length→∀H',Zf H H'→E (.ref T.am) none H')∧
 ((0≤b.giver∧b.giver<af.names.length∧0≤b.taker∧b.taker<af.names.length)→(1≤b.give∧1≤b.take∧0≤b.start)→af.belts.length<60→∀(H':Hp)(fe:List Addr),dD T H' p ⟨af.names,af.belts++ [b]⟩ fe→eb fp H H'→Uf fp fe H→Q (.int af.belts.length) H')
theorem Zgh{K:Frag}{mg:Str→Option Value}{T:Tp K mg}{H:Hp}{Q:VK}{E:XK}{p:Addr}{g t cz a5 st:Int}{af:HM}{fp:List Addr}(h:dD T H p af fp)
  (ai:0≤g) (aw:g<af.names.length) (cC:0≤t) (c3:t<af.names.length) (eE:1≤cz) (dS:1≤a5) (jd:0≤st) (ed:af.belts.length<60)
  (q:∀(H':Hp)(fe:List Addr),dD T H' p ⟨af.names,af.belts++ [⟨g,t,cz,a5,st⟩]⟩ fe→eb fp H H'→Uf fp fe H→Q (.int af.belts.length) H'):wD T [.ref p,.int g,.int t,.int cz,.int a5,.int st] H Q E:=
 ⟨p,⟨g,t,cz,a5,st⟩,af,fp,rfl,h,by omega,λz=>absurd ⟨ai,aw,cC,c3⟩ z,λ_ z=>absurd ⟨eE,dS,jd⟩ z,λ_ _ z=>absurd z (by omega),λ_ _ _=>q⟩
section
variable {P:Program}{w:World}{K:Frag}{mg:Str→Option Value}{base:Heap}
theorem I_(T:Tp K mg):YN P w K mg base (CXX P w) 5 T.O T.P ["self","giver","taker","give","take","start"] (wD T):=by
 have gp:=T.a;have gq:=T.e;refine T.aB.okX Hm (λvs H Q E h=>?_) (λcS A outer s H vs Q E av h=>?_)
 ·obtain⟨p,b,af,fp,rfl,_⟩:=h
  rfl
 ·have hu:=av.hu;obtain⟨p,b,af,fp,rfl,cw,hz,aW,a7,c_,q⟩:=h;obtain⟨aY,a,cF,bs,rfl,ai,aw,cC,c3,ie,dS⟩:=id cw;obtain⟨g,t,cz,a5,st⟩:=b;have wC:=dS.length;refine⟨_,(b_ (fL (gW (pv 0) T.a T.a4 (s6 T) av cW (ak (pv 1) aK)))
     (b_ (fL (gW (pv 0) T.a T.a4 (s6 T) av cW (ak (pv 2) aK)))
     (b_ (ec (PW.pt (jo (ij (hv (K:=K) rfl (da T.x7 (qO T) av cW (ak (pv 3) (ak aX aK))) (λ_=>rfl))) (jX (ij (hv (K:=K) rfl (da T.x7 (qO T) av cW (ak (pv 4) (ak aX aK))) (λ_=>rfl)))))) (cy (jI T.L.g T.L.e qay rfl (ak Y1 aK))) el)
     (b_ (fL (da T.x8 (I7 T) av cW (ak (pv 5) aK)))
     (b_ (ec (dF oh (dM (fj K) (by rfl) T.f qai (ak (gd (K:=K) rfl (pv 0) rfl) aK)) (m5 (v:= .int 60) rfl T.aq ⟨_,rfl⟩) (dA _)) (cy (jI T.F.g T.F.e qay rfl (ak Y1 aK))) el)
     (cy (c9 (gW (pv 0) T.a T.bl (B2 T) av cW (ak (fE (ak (pv 1) (ak (pv 2) (ak (pv 3) (ak (pv 4) (ak (pv 5) aK)))))) aK))))))))),?_⟩
  try dsimp only[L2.cxX,L2.ZI,L2.Zo]
  dsimp only[B5.v] at*;walk_at "rds";refine⟨p,g,af,_,rfl,cw,λz=>aW (by omega) H (Zf.refl H),λea g1=>?_⟩;walk_at "rds";refine⟨p,t,af,_,rfl,cw,λz=>aW (by omega) H (Zf.refl H),λfy iN=>?_⟩;have ck:0≤g∧g<af.names.length∧0≤t∧t<af.names.length:=⟨ea,g1,fy,iN⟩;walk_at "rds"
  by_cases c:1≤cz
  ·rw[decide_eq_true c];walk_at "rds"
   by_cases d:1≤a5
   ·rw[decide_eq_true d];walk_at "rds";refine⟨st,rfl,λz=>a7 ck (by omega) H (Zf.refl H),λf=>?_⟩;walk_at "rds";refine Rd.ifD (λl=>?_) (λl=>?_)
    ·walk_at "rds";exact c_ ck (by omega) (by omega) H (Zf.refl H)
    walk_at "rds";refine⟨by show 5≤sizeLine;decide,λu fw=>?_⟩;have sn:Zf H (upd H u (.tup [.int g,.int t,.int cz,.int a5,.int st])):=cP fw;have qP:=cw.same sn;walk_at "rds";refine⟨p,u,⟨g,t,cz,a5,st⟩,af,_,rfl,qP,Ze,hz,λH' fe fI gf gr=>?_⟩;refine q ck (by omega) (by omega) H' fe fI (sn.frame.trans gf) (λx ao=>?_);rcases gr x ao with z|z
    ·exact .inl z
    ·refine .inr ?_;cases e:H x with
     |none=>rfl
     |some o=>rw[sn _ _ e] at z;cases z
   ·rw[decide_eq_false d];walk_at "rds";exact a7 ck (by omega) H (Zf.refl H)
  ·rw[decide_eq_false c];walk_at "rds";exact a7 ck (by omega) H (Zf.refl H)
end
def B3{K:Frag}{mg:Str→Option Value}(T:Tp K mg):Sp:=λvs H Q _=>∃p aY:Addr,vs=[.ref p]∧H p=some (.ins T.A aY [])∧H aY=some (.own p)∧
 ∀(H':Hp)(fp:List Addr),dD T H' p ⟨[],[]⟩ fp→(∀x∈fp,x=p∨x=aY∨H x=none)→(∀b o,H b=some o→b≠p→H' b=some o)→Q .non H'
theorem ZgD{K:Frag}{mg:Str→Option Value}{T:Tp K mg}{H:Hp}{Q:Addr→Hp→Prop}{E:XK}
  (q:∀(p:Addr)(fp:List Addr)(H':Hp),dD T H' p ⟨[],[]⟩ fp→(∀x∈fp,H x=none)→Zf H H'→Q p H'):
  ∀x aY,H x=none→H aY=none→aY≠x→B3 T (.ref x::([]++ [])) (upd (upd H aY (.own x)) x (.ins T.A aY [])) (λv ay=>v= .non∧Q x ay) E:=by
 intro x aY ao k_ ne;refine⟨x,aY,rfl,Ze,by rw[cq ne,Ze],λH' fp cw bB aR=>⟨rfl,q x fp H' cw (λy a'=>?_) (λb o e=>aR b o ?_ (dw e ao))⟩⟩
 ·rcases bB y a' with rfl|rfl|h
  ·exact ao
  ·exact k_
  ·by_cases ai:y=x
   ·rw[ai];exact ao
   ·by_cases aw:y=aY
    ·rw[aw];exact k_
    ·rw[cq ai,cq aw] at h;exact h
 ·rw[cq (dw e ao),cq (dw e k_)];exact e
local macro_rules| `(tactic|walk_at "rd")=>`(tactic|first|with_reducible refine Nm.ZgD ?_|fail "none here")
section
variable {P:Program}{w:World}{K:Frag}{mg:Str→Option Value}{base:Heap}
theorem B4(T:Tp K mg):OkI P w mg base 1 T.bm (B3 T):=by
 have gp:=T.a;have gq:=T.e;refine T.bm.F.okX Hn (λvs H Q E h=>?_) (λcS A outer s H vs Q E av h=>?_)
 ·obtain⟨p,aY,rfl,_⟩:=h
  rfl
 ·have hu:=av.hu;obtain⟨p,aY,rfl,aS,k_,q⟩:=h;refine⟨_,(b_ (nA (K:=K) rfl (pv 0) pL rfl)
     (cy (nA (K:=K) rfl (pv 0) (fN aK) rfl))),?_⟩
  try dsimp only[L2.cxX,L2.ZI,L2.Zo]
  walk_at "rds";intro a aZ;have lW:p≠a:=dw aS aZ;have wA:aY≠a:=dw k_ aZ;have qQ:p≠aY:=ha aS k_ (by intro z;cases z);have f8:(upd H a (.dK [])) p=some (.ins T.A aY []):=by rw[cq lW];exact aS
  walk_at "rds";refine⟨qaA _,λb ag=>?_⟩;have jP:H b=none:=by
   by_cases ai:b=p
   ·rw[ai,Ze] at ag;cases ag
   ·by_cases aw:b=a
    ·rw[aw];exact aZ
    ·rw[cq ai,cq aw] at ag;exact ag
  have lX:p≠b:=dw aS jP;have wB:aY≠b:=dw k_ jP;have ie:a≠b:=by
   intro z;rw[←z,cq lW.symm,Ze] at ag;cases ag
  have jw:(upd (upd (upd H a (.dK [])) p (.ins T.A aY [("numbers",.ref a)])) b (.lst [])) p=some (.ins T.A aY [("numbers",.ref a)]):=by rw[cq lX,Ze]
  walk_at "rds";refine q _ [p,aY,a,b] ⟨aY,a,b,[],rfl,Ze,?_,?_,?_,ie,.nil⟩ (λx ao=>?_) (λc o e ax=>?_)
  ·rw[cq qQ.symm,cq wB,cq qQ.symm,cq wA];exact k_
  ·rw[cq lW.symm,cq ie,cq lW.symm,Ze];rfl
  ·rw[cq lX.symm,Ze]
  ·simp only[qaf,qaF,or_false] at ao;rcases ao with rfl|rfl|rfl|rfl
   ·exact .inl rfl
   ·exact .inr (.inl rfl)
   ·exact .inr (.inr aZ)
   ·exact .inr (.inr jP)
  ·rw[cq ax,cq (dw e jP),cq ax,cq (dw e aZ)];exact e
end
def I'{K:Frag}{mg:Str→Option Value}(T:Tp K mg):Sp:=λvs H Q _=>∃(m:Int)(q:Addr)(bs:List V)(ls:List B5),vs=[.int m,.ref q]∧1≤m∧m≤30∧H q=some (.lst bs)∧d7 H bs ls∧ls.length≤60∧(∀l∈ls,qF m l)∧
 ∀(aS:Addr)(fp:List Addr)(H':Hp),dD T H' aS ⟨(List.range m.toNat).map nm17,ls⟩ fp→Zf H H'→Q (.ref aS) H'
theorem Zgy{H aj ay:Hp}{fp jg:List Addr}(s:Zf H aj)(n:∀x∈fp,H x=none)(gf:eb fp aj ay)(gr:Uf fp jg aj):Zf H ay∧∀x∈jg,H x=none:=by
 refine⟨λb o e=>gf.keep _ _ (s _ _ e) (λz=>by have:=n b z;rw[e] at this;cases this),λx ao=>?_⟩;rcases gr x ao with z|z
 ·exact n x z
 ·exact eG s z
section
variable {P:Program}{w:World}{K:Frag}{mg:Str→Option Value}{base:Heap}
theorem B6(T:Tp K mg):OkN P w base 6 T.bn (I' T):=by
 have Ja:YN P w K mg base (CXX P w) 5 T.O T.P ["self","giver","taker","give","take","start"] (wD T):=(I_ T).mono (by decide);have gp:=T.a;have gq:=T.e;refine T.bn.F.okX qm (λvs H Q E h=>?_) (λcS A outer s H vs Q E av h=>?_)
 ·obtain⟨m,q,bs,ls,rfl,_⟩:=h
  rfl
 ·have hu:=av.hu;obtain⟨m,mT,bs,ls,rfl,iz,ii,cG,dg,hz,hd,q⟩:=h;have al:=Iy;have g8:=dg.length;refine⟨_,(b_ (c0 (i:=2) qm.nd rfl (Or.inl rfl) Y1)
     (b_ (c0 (i:=3) qm.nd rfl (Or.inl rfl) (zn T.bm (B4 T) av T.a2 cW))
     (b_ (gs PassesOwn.leaving rfl (j1 rfl T.k (ak (pv 0) aK)) (c6 (i:=4) qm.nd rfl (Or.inl rfl)) (cy (fL (gW (pv 3) T.a T.x5 (B0 T) av cW (ak (cD (ej K) (cD (ej K) (cv (ixk K) (pv 2) (cD eX (cD gV aX (pv 4)) aX) (λ_ _=>rfl)) (cv (ixk K) (pv 2) (cD eX (cD gV aX (pv 4)) aX) (λ_ _=>rfl))) (cD FK Y1 (cD f0 (pv 4) aX))) aK)))))
     (b_ (gs PassesOwn.leaving rfl (gA (K:=K) rfl (pv 1)) (c6 (i:=5) qm.nd rfl (Or.inl rfl)) (cy (fL (yO (pv 3) T.a T.aA Ja av T.aC .nil cW (ak (cv (ixk K) (pv 5) aX (λ_ _=>rfl)) (ak (cv (ixk K) (pv 5) aX (λ_ _=>rfl)) (ak (cv (ixk K) (pv 5) aX (λ_ _=>rfl)) (ak (cv (ixk K) (pv 5) aX (λ_ _=>rfl)) (ak (cv (ixk K) (pv 5) aX (λ_ _=>rfl)) aK)))))))))
     (cy (c9 (pv 3))))))),?_⟩
  try dsimp only[L2.cxX,L2.ZI,L2.Zo]
  walk_at "rds";intro aS fp aj cw bB sm;walk_at "rds";refine Um (n:=m.toNat) (λi ae H'=>∃fe k0,ae=[some (.int m),some (.ref mT),some (.str "abcdefghijklmnopqrstuvwxyz"),some (.ref aS),k0,none]∧dD T H' aS ⟨(List.range i).map nm17,[]⟩ fe∧Zf H H'∧∀x∈fe,H x=none) ⟨fp,none,rfl,cw,sm,bB⟩ ?_ ?_
  ·rintro i ae H' hi ⟨fe,k0,rfl,qP,s',fK⟩;walk_at "rds";have aW:(7*(0+(i:Int))) % 26=((7*i % 26:Nat):Int):=by omega
   have a7:(11*(0+(i:Int))) % 26=((11*i % 26:Nat):Int):=by omega
   have c_:(0+(i:Int)) / 26=(i:Int) / 26:=by rw[qbA]
   rw[aW];refine Rd.Zny al (gS (BI (7*i % 26) (Nat.mod_lt _ (by decide)))) ?_;walk_at "rds";rw[a7];refine Rd.Zny al (gS (BI (11*i % 26) (Nat.mod_lt _ (by decide)))) ?_;refine Rd.Zk7 (by show 1+1≤sizeLine;decide) ?_;walk_at "rds";rw[c_];obtain⟨lY,qR⟩:=Zpq (n:=(i:Int) / 26) (by omega);refine Rd.Zpy lY ?_;have kO:(3:Nat)≤sizeLine:=by decide
   refine Rd.Zk7 (by show 2+(Txt.mul "x" ((i:Int) / 26)).length≤sizeLine;omega) ?_;walk_at "rds";refine ZbA qP (BG i (by omega)) (BH i (by omega)) (by simp;omega) (λay jg fI gf gr=>?_);obtain⟨b',ft⟩:=Zgy s' fK gf gr;refine⟨jg,_,rfl,?_,b',ft⟩;rw[qb3,qaG];exact fI
  ·rintro ae H' ⟨fe,k0,rfl,qP,s',fK⟩;have oi:=s' _ _ cG;walk_at "rds";refine WG (gy (SqL.of cG)) (λi ae H'=>∃(fe:List Addr)(a1:Option V),ae=[some (.int m),some (.ref mT),some (.str "abcdefghijklmnopqrstuvwxyz"),some (.ref aS),k0,a1]∧dD T H' aS ⟨(List.range m.toNat).map nm17,ls.take i⟩ fe∧Zf H H'∧∀x∈fe,H x=none)
    ⟨fe,_,rfl,qP,s',fK⟩ (λi ae H' ⟨_,_,_,_,s,_⟩=>s) ?_ ?_
   ·rintro i ae bC hi ⟨s7,a1,rfl,k',cI,r5⟩;have dL:i<ls.length:=by omega
    obtain⟨t,e9,eg⟩:=dg.at (GT dL);have df:bs.getD i .non= .ref t:=by simp[List.getD,e9]
    rw[df];have a6:=hd _ (fm dL);have dX:=qam dL;have iU:=cI _ _ eg;generalize ls[i]=l at*;obtain⟨cH,cX,he,js⟩:=a6.rg;obtain⟨fk,kO⟩:=a6.sz;dsimp only[B5.v] at iU;walk_at "rds";refine Zgh k' cH (by simp;omega) he (by simp;omega) fk kO a6.st (by simp;omega) (λcj Jb wE jE Jc=>?_);obtain⟨cK,B7⟩:=Zgy cI r5 jE Jc;refine⟨Jb,_,rfl,?_,cK,B7⟩;rw[dX];exact wE
   ·rintro ae bC ⟨s7,a1,rfl,k',cI,r5⟩;rw[g8,qa4] at k';walk_at "rds";exact q aS s7 bC k' cI
end
def UD{K:Frag}{mg:Str→Option Value}(T:Tp K mg):Sp:=λvs H Q _=>∃(p:Addr)(af:HM)(fp:List Addr),vs=[.ref p]∧dD T H p af fp∧
 ∀(q:Addr)(H':Hp)(bs:List V),H q=none→Zf H H'→H' q=some (.lst bs)→d7 H' bs af.belts→Q (.ref q) H'
theorem ZfA{K:Frag}{mg:Str→Option Value}{T:Tp K mg}{H:Hp}{Q:VK}{E:XK}{p:Addr}{af:HM}{fp:List Addr}(h:dD T H p af fp)
  (q:∀(q:Addr)(H':Hp)(bs:List V),H q=none→Zf H H'→H' q=some (.lst bs)→d7 H' bs af.belts→Q (.ref q) H'):UD T (.ref p::([]++ [])) H Q E:=⟨p,af,fp,rfl,h,q⟩
local macro_rules| `(tactic|walk_at "rd")=>`(tactic|first|((with_reducible show Nm.UD _ _ _ _ _);with_reducible refine Nm.ZfA (by with_reducible assumption) ?_)|fail "none here")
section
variable {P:Program}{w:World}{K:Frag}{mg:Str→Option Value}{base:Heap}
theorem o1(T:Tp K mg):OkM P w mg base 1 T.aO (UD T):=by
 have gp:=T.a;have gq:=T.e;refine T.aO.F.okX Ho (λvs H Q E h=>?_) (λcS A outer s H vs Q E av h=>?_)
 ·obtain⟨p,af,fp,rfl,_⟩:=h
  rfl
 ·have hu:=av.hu;obtain⟨p,af,fp,rfl,cw,q⟩:=h;obtain⟨aY,a,b,bs,rfl,ai,aw,cC,c3,ie,dS⟩:=id cw;refine⟨_,(cy (c9 (nh (ov (K:=K) rfl) (by rfl) T.q qaM (ak (gd (K:=K) rfl (pv 0) rfl) aK)))),?_⟩
  try dsimp only[L2.cxX,L2.ZI,L2.Zo]
  walk_at "rds";refine Rd.UW (.of c3) (λl fi=>?_);exact q l _ bs fi (cP fi) Ze (dS.keep ((cP fi).frame (A:=[])).tups)
end
def Jd{K:Frag}{mg:Str→Option Value}(T:Tp K mg):Sp:=λvs H Q E=>∃(p:Addr)(af:HM)(fp:List Addr),vs=[.ref p]∧dD T H p af fp∧
 ∀r H',H r=none→Zf H H'→H' r=some (.lst (af.names.map V.str))→Q (.ref r) H'
section
variable {P:Program}{w:World}{K:Frag}{mg:Str→Option Value}{base:Heap}
theorem wF(T:Tp K mg):OkM P w mg base 1 T.bd (Jd T):=by
 have gp:=T.a;have gq:=T.e;refine T.bd.F.okX Hq (λvs H Q E h=>?_) (λcS A outer s H vs Q E av h=>?_)
 ·obtain⟨p,af,fp,rfl,_⟩:=h
  rfl
 ·have hu:=av.hu;obtain⟨p,af,fp,rfl,cw,q⟩:=h;obtain⟨aY,a,b,bs,rfl,ai,aw,cC,c3,ie,dS⟩:=id cw;refine⟨_,(cy (c9 (nh (FG rfl) (by rfl) T.q qaM (ak (gd (K:=K) rfl (pv 0) rfl) aK)))),?_⟩
  try dsimp only[L2.cxX,L2.ZI,L2.Zo]
  walk_at "rds";intro l fi;rw[ZcC];exact q l _ fi (cP fi) Ze
end
def Je{K:Frag}{mg:Str→Option Value}(T:Tp K mg):Sp:=λvs H Q _=>∃(p:Addr)(af:HM)(fp:List Addr),vs=[.ref p]∧dD T H p af fp∧af.names.length≤1000∧af.belts.length≤1000∧ZC af.belts af.names.length∧
 ∀(r:Addr)(cN:List Addr)(H':Hp),H r=none→Zf H H'→Zce H' r cN af.names.length (fb af.belts)→Q (.ref r) H'
section
variable {P:Program}{w:World}{K:Frag}{mg:Str→Option Value}{base:Heap}
theorem Jf(T:Tp K mg):OkN P w base 2 T.bG (Je T):=by
 have gp:=T.a;have gq:=T.e;refine T.bG.F.okX ss (λvs H Q E h=>?_) (λcS A outer s H vs Q E av h=>?_)
 ·obtain⟨p,af,fp,rfl,_⟩:=h
  rfl
 ·have hu:=av.hu;obtain⟨p,af,fp,rfl,cw,bA,hz,cU,q⟩:=h;refine⟨_,(b_ (p8 (j:=1) (xs:=["name"]) rfl (fU (x:="name") (zs:=[]) (ix:=[]) (cR vC) ["hall","ways","belt","row"] rfl rfl (by decide+kernel)) (gA (K:=K) rfl (lK (pv 0) T.a T.bd (wF T) av cW)) (λcl C s H fp=>⟨(c6 (i:=0) (show(["name"]:List Str).Nodup by decide+kernel) rfl (Or.inl rfl)),gx,(fN aK)⟩) ss.nd rfl (Or.inl rfl))
     (b_ (gs PassesOwn.leaving rfl (mB (K:=K) rfl rfl T.h (ak (lK (pv 0) T.a T.aO (o1 T) av cW) aK)) (gK (K:=K) (n:=2) rfl rfl (d8 (c6 (i:=2) ss.nd rfl (Or.inl rfl)) (d8 (c6 (i:=3) ss.nd rfl (Or.inl rfl)) gI))) (b_ (fL (iK (K:=K) rfl qax qaD qaE ju (cv (ixk K) (pv 1) (cv (ixk K) (pv 3) aX (λ_ _=>rfl)) (λ_ _=>rfl)) (ak (fE (ak (cv (ixk K) (pv 3) aX (λ_ _=>rfl)) (ak (pv 2) (ak Z2 aK)))) aK)))
     (cy (fL (iK (K:=K) rfl qax qaD qaE ju (cv (ixk K) (pv 1) (cv (ixk K) (pv 3) aX (λ_ _=>rfl)) (λ_ _=>rfl)) (ak (fE (ak (cv (ixk K) (pv 3) aX (λ_ _=>rfl)) (ak (pv 2) (ak Z2 aK)))) aK))))))
     (cy (c9 (pv 1))))),?_⟩
  try dsimp only[L2.cxX,L2.ZI,L2.Zo]
  walk_at "rds";refine⟨p,af,fp,rfl,cw,λnm aj ks az wG=>?_⟩;walk_at "rds";refine Ziy (own:=1) (gy (SqL.of wG)).y (dR (by rw[GE];exact bA)) (λi=>[some ((af.names.map V.str).getD i .non)]) (λ_=>rfl) (λi du H' v ay gX hi sm y Jg k=>?_) (λi H' ds hi sm k=>?_) (λr ay cN av b' gP dL h6 lL=>?_)
  ·obtain⟨rfl,rfl⟩:=y;obtain⟨x1,rfl⟩:∃x1,du=[x1]:=by
    match du,Jg with
    | [x1],_=>exact⟨x1,rfl⟩
   walk_at "rds";exact k _ (Zf.refl _)
  ·exact k
  rw[GE] at dL;have iw:=az.trans b';have fI:=cw.same iw;have f7:H r=none:=eG az av;have B8:∀x∈cN,H x=none:=λx ao=>eG az (lL x ao).1;have B9:∀x∈cN,r≠x:=λx ao z=>(lL x ao).2.1 z.symm;walk_at "rds";intro u bF bs wH bb hD dg;have g8:=dg.length;have B_:∀x∈cN,u≠x:=λx ao z=>by
   have:=(lL x ao).2.2;rw[←z,wH] at this;cases this
  walk_at "rds";refine Wl (mD (SqL.of (p5 (q:=u) (o:= .lst bs)))) (λk ae H'=>∃(a1 a2:Option V),ae=[some (.ref p),some (.ref r),a1,a2]∧Zf H H'∧H' u=some (.lst bs)∧H' r=some (.lst (cN.map V.ref))∧d7 H' bs af.belts∧WA H' cN (kl af.belts k)∧∀(j:Nat)(h:j<cN.length) vs,H' cN[j]=some (.lst vs)→vs.length≤2*k)
   ⟨_,_,rfl,iw.trans bb,hD,bb _ _ gP,dg,λj aJ=>⟨[],bb _ _ (lL _ (fm aJ)).2.2,.nil⟩,λj aJ vs e=>?_⟩ ?_ ?_ ?_
  ·rw[bb _ _ (lL _ (fm aJ)).2.2] at e;cases e;exact qaA _
  ·rintro k ae H' ⟨_,_,_,_,h,_⟩;exact Ur h
  ·rintro k ae bC v cj aR ⟨a1,a2,rfl,cI,iV,gm,hU,qS,hsz⟩ ⟨t,cu,rfl,rfl⟩;have iP:k<af.belts.length:=by omega
   obtain⟨ea,g1,fy,iN⟩:=cU.at iP;obtain⟨c4,h8,kR⟩:=hU.getD iP;rw[h8];refine Rd.Wd (.of Ze) rfl ?_;have cK:Zf bC (upd bC t (.tup [.int k,.ref c4])):=cP cu;generalize upd bC t (.tup [.int k,.ref c4])=cj at*;have Jh:∀j:Int,kl af.belts (k+1) j=(kl af.belts k j++(if(af.belts.getD k dB).giver=j then[((af.belts.getD k dB).taker,(k:Int),true)] else[]))++(if(af.belts.getD k dB).taker=j then[((af.belts.getD k dB).giver,(k:Int),false)] else[]):=λj=>by
    rw[ZgW,nN,qcb]
   generalize af.belts.getD k dB=b at*;have B':=cK _ _ kR;dsimp only[B5.v] at B';have gG:=cK _ _ gm;have wI:=qS.same cK;have fC:b.giver.toNat<cN.length:=by omega
   have d4:b.taker.toNat<cN.length:=by omega
   have RZ:=ZeE ea fC;have R0:=ZeE fy d4;have d9:((b.giver.toNat:Nat):Int)=b.giver:=qa6 ea;have dX:((b.taker.toNat:Nat):Int)=b.taker:=qa6 fy;obtain⟨vs,nZ,Ji⟩:=wI b.giver.toNat fC;have wJ:∀(j:Nat)(h:j<cN.length) vs,cj cN[j]=some (.lst vs)→vs.length≤2*k:=λj aJ us e=>by
    obtain⟨Ca,ai,_⟩:=qS j aJ;have:=cK _ _ ai;rw[e] at this;cases this;exact hsz j aJ _ ai
   have R1:vs.length<sizeLine:=vZ (by have:=wJ _ fC _ nZ;omega);walk_at "rds";refine⟨by show 3≤sizeLine;decide,λdG eg=>?_⟩;have dn:Zf cj (upd cj dG (.tup [.int b.taker,.int k,.bl true])):=cP eg;have wK:(upd cj dG (.tup [.int b.taker,.int k,.bl true])) dG=some (.tup [.int b.taker,.int k,.bl true]):=Ze;generalize upd cj dG (.tup [.int b.taker,.int k,.bl true])=c7 at*;have Cb:=dn _ _ nZ;walk_at "rds";have wL:=(wI.same dn).add h6 fC Cb (Ji.keep λ_ _ e=>dn _ _ e) (x:=(b.taker,(k:Int),true)) wK;have Jj:r≠cN[b.giver.toNat]:=B9 _ (fm fC);have Jk:u≠cN[b.giver.toNat]:=B_ _ (fm fC);have jB:(upd c7 cN[b.giver.toNat] (.lst (vs++ [.ref dG]))) r=some (.lst (cN.map V.ref)):=by rw[cq Jj];exact dn _ _ gG
   have wM:(upd c7 cN[b.giver.toNat] (.lst (vs++ [.ref dG]))) u=some (.lst bs):=by rw[cq Jk];exact dn _ _ (cK _ _ iV)
   have lZ:∀c xs,c7 c=some (.tup xs)→(upd c7 cN[b.giver.toNat] (.lst (vs++ [.ref dG]))) c=some (.tup xs):=λc xs e=>by rw[cq (ha e Cb (by intro z;cases z))];exact e
   have R3:=lZ _ _ (dn _ _ B');have qN:d7 (upd c7 cN[b.giver.toNat] (.lst (vs++ [.ref dG]))) bs af.belts:=((hU.keep λ_ _ e=>cK _ _ e).keep λ_ _ e=>dn _ _ e).keep lZ;have Jl:Zf H (upd c7 cN[b.giver.toNat] (.lst (vs++ [.ref dG]))):=((cI.trans cK).trans dn).new (B8 _ (fm fC));have wN:∀(j:Nat)(h:j<cN.length) us,(upd c7 cN[b.giver.toNat] (.lst (vs++ [.ref dG]))) cN[j]=some (.lst us)→us.length≤2*k+1:=λj aJ us e=>by
    by_cases z:j=b.giver.toNat
    ·subst z;rw[Ze] at e;cases e;have:=wJ _ fC _ nZ;simp;omega
    ·have ne:cN[j]≠cN[b.giver.toNat]:=λy=>z (qp h6 aJ fC y);rw[cq ne] at e;obtain⟨Ca,ai,_⟩:=wI j aJ;have:=dn _ _ ai;rw[e] at this;cases this;have:=wJ j aJ _ ai;omega
   generalize upd c7 cN[b.giver.toNat] (.lst (vs++ [.ref dG]))=dq at*;obtain⟨us,gB,hK⟩:=wL b.taker.toNat d4;have R4:us.length<sizeLine:=vZ (by have:=wN _ d4 _ gB;omega);walk_at "rds";refine⟨by show 3≤sizeLine;decide,λiM f9=>?_⟩;have eQ:Zf dq (upd dq iM (.tup [.int b.giver,.int k,.bl false])):=cP f9;have Cc:(upd dq iM (.tup [.int b.giver,.int k,.bl false])) iM=some (.tup [.int b.giver,.int k,.bl false]):=Ze;generalize upd dq iM (.tup [.int b.giver,.int k,.bl false])=ev at*;have n0:=eQ _ _ gB;walk_at "rds";have Cd:=(wL.same eQ).add h6 d4 n0 (hK.keep λ_ _ e=>eQ _ _ e) (x:=(b.giver,(k:Int),false)) Cc;have Jm:r≠cN[b.taker.toNat]:=B9 _ (fm d4);have Jn:u≠cN[b.taker.toNat]:=B_ _ (fm d4);have Jo:∀c xs,ev c=some (.tup xs)→(upd ev cN[b.taker.toNat] (.lst (us++ [.ref iM]))) c=some (.tup xs):=λc xs e=>by rw[cq (ha e n0 (by intro z;cases z))];exact e
   refine⟨_,_,rfl,(Jl.trans eQ).new (B8 _ (fm d4)),by rw[cq Jn];exact eQ _ _ wM,by rw[cq Jm];exact eQ _ _ jB,(qN.keep λ_ _ e=>eQ _ _ e).keep Jo,?_,λj aJ ck e=>?_⟩
   ·have Jp:(λj=>(λj=>kl af.belts k j++(if((b.giver.toNat:Nat):Int)=j then[(b.taker,(k:Int),true)] else[])) j++(if((b.taker.toNat:Nat):Int)=j then[(b.giver,(k:Int),false)] else[]))=kl af.belts (k+1):=by
     funext j
     rw[Jh j,d9,dX]
    rw[Jp] at Cd;exact Cd
   ·by_cases z:j=b.taker.toNat
    ·subst z;rw[Ze] at e;cases e;have:=wN _ d4 _ gB;simp;omega
    ·have ne:cN[j]≠cN[b.taker.toNat]:=λy=>z (qp h6 aJ d4 y);rw[cq ne] at e;obtain⟨Ca,ai,_⟩:=wL j aJ;have:=eQ _ _ ai;rw[e] at this;cases this;have:=wN j aJ _ ai;omega
  ·rintro ae bC ⟨a1,a2,rfl,cI,iV,gm,hU,qS,hsz⟩;rw[g8] at qS;walk_at "rds";exact q r cN bC f7 cI ⟨gm,dL,h6,qS⟩
end
def Jq{K:Frag}{mg:Str→Option Value}(T:Tp K mg):Sp:=λvs H Q _=>∃(r:Addr)(cN:List Addr)(n:Nat)(W:Int→List Fo.Trip)(first:Int),vs=[.ref r,.int first]∧Zce H r cN n W∧n≤1000∧(∀a,∀t∈W a,0≤t.1∧t.1<(n:Int))∧0≤first∧first<(n:Int)∧
 ∀(d:Addr)(H':Hp)(aL:Fo.ZK),H d=none→Zf H H'→Vo H' d aL→Fo.Yg W first aL→Fo.UE W aL aL.length→Q (.ref d) H'
section
variable {P:Program}{w:World}{K:Frag}{mg:Str→Option Value}{base:Heap}
theorem Jr(T:Tp K mg):OkN P w base 1 T.bH (Jq T):=by
 refine T.bH.F.okX lP (λvs H Q E h=>?_) (λcS A outer s H vs Q E av h=>?_)
 ·obtain⟨r,cN,n,W,first,rfl,_⟩:=h
  rfl
 ·have hu:=av.hu;obtain⟨r,cN,n,W,first,rfl,hw,bA,s8,dE,f1,q⟩:=h;have dL:=hw.len;refine⟨_,(b_ (c0 (i:=2) lP.nd rfl (Or.inl rfl) (Fh (Ff (pv 1) W7 ZmJ) rfl rfl (by simp) (by decide)))
     (b_ (c0 (i:=3) lP.nd rfl (Or.inl rfl) (fN (ak (pv 1) aK)))
     (b_ (c0 (i:=4) lP.nd rfl (Or.inl rfl) aX)
     (b_ (mm PassesOwn.leaving (dF j4 (pv 4) (dM (fj K) (by rfl) T.f qai (ak (pv 3) aK)) (dA _)) (b_ (c0 (i:=5) lP.nd rfl (Or.inl rfl) (cv (ixk K) (pv 3) (pv 4) (λ_ _=>rfl)))
     (b_ (yC (i:=4) lP.nd rfl (Or.inl rfl) aX t2)
     (cy (gs PassesOwn.leaving rfl (gA (K:=K) rfl (cv (ixk K) (pv 0) (pv 5) (λ_ _=>rfl))) (gK (K:=K) (n:=3) rfl rfl (d8 (c6 (i:=6) lP.nd rfl (Or.inl rfl)) (d8 (c6 (i:=7) lP.nd rfl (Or.inl rfl)) (d8 (c6 (i:=8) lP.nd rfl (Or.inl rfl)) gI)))) (cy (ec (dF (u6 hu) (pv 6) (pv 2) (by with_unfolding_all rfl)) (b_ (iA (fE (ak (pv 5) (ak (pv 7) (ak (pv 8) aK)))) (kA (pv 2) (pv 6) (p6 hu)))
     (cy (fL (iK (K:=K) rfl qax qaD qaE ju (pv 3) (ak (pv 6) aK))))) el)))))))
     (cy (c9 (pv 2))))))),?_⟩
  try dsimp only[L2.cxX,L2.ZI,L2.Zo]
  walk_at "rds";intro d hd;dsimp only[rN];walk_at "rds";refine⟨Ze,[(Sum.inl first,.non)],rfl,by simp,?_⟩;have l0:(upd (upd H d (.dK [])) d (.dK (gT [] [(Sum.inl first,.non)]))) d=some (.dK [(Sum.inl first,.non)]):=Ze;have az:Zf H (upd (upd H d (.dK [])) d (.dK (gT [] [(Sum.inl first,.non)]))):=(cP hd).new hd;generalize upd (upd H d (.dK [])) d (.dK (gT [] [(Sum.inl first,.non)]))=aj at*;walk_at "rds";refine(λc ax=>?_);have b':Zf aj (upd aj c (.lst [V.int first])):=cP ax;have ho:(upd aj c (.lst [V.int first])) c=some (.lst ((Fo.keys [(first,none)]).map V.int)):=Ze;have j6:=b' _ _ l0;have l3:H c=none:=eG az ax;have Ce:c≠d:=λz=>by rw[z,l0] at ax;cases ax
  generalize upd aj c (.lst [V.int first])=ay at*;have jh:=az.trans b';have eg:Vo ay d [(first,none)]:=⟨_,j6,.cons ⟨rfl,rfl⟩ .nil⟩;clear l0 j6 az b' ax;walk_at "rds";refine Uw (λm ae H'=>∃(aL:Fo.ZK)(eB:Nat)(a1 a2 a3 a4:Option V),ae=[some (.ref r),some (.int first),some (.ref d),some (.ref c),some (.int eB),a1,a2,a3,a4]∧Zf H H'∧Vo H' d aL∧H' c=some (.lst ((Fo.keys aL).map V.int))∧eB≤aL.length∧Fo.Yg W first aL∧Fo.UE W aL eB∧m=n+1-eB) (n+1)
   ⟨[(first,none)],0,_,_,_,_,rfl,jh,eg,ho,qaA _,Fo.Zjb,λj w s aJ=>absurd aJ (qaH _),rfl⟩ ?_
  rintro m ae bF ⟨aL,eB,a1,a2,a3,a4,rfl,bb,f9,iW,la,aM,je,rfl⟩;have iP:((Fo.keys aL).map V.int).length=aL.length:=by simp[Fo.keys]
  have Js:aL.length≤n:=by
   have:=Fo.Vn (n:=n) aM.nodup (aM.rg ⟨dE,f1⟩ s8);simpa[Fo.keys] using this
  walk_at "rds";rw[iP];refine Rd.ifD (λz=>?_) (λz=>?_)
  ·have kj:eB<aL.length:=by omega
   obtain⟨⟨w,st⟩,gb⟩:∃x,aL[eB]? =some x:=⟨aL[eB],GT kj⟩;have Jt:=Fo.WC gb;obtain⟨fM,f_⟩:=aM.rg ⟨dE,f1⟩ s8 w Jt;have hC:atI ((Fo.keys aL).map V.int) (eB:Int)=some (.int w):=gS (by rw[qaj];unfold Fo.keys;rw[qaj,gb];rfl);have kG:w.toNat<cN.length:=by omega
   have R5:=ZeE fM kG;have wO:=hw.same bb;have Ju:=wO.at_;obtain⟨vs,n1,nZ⟩:=hw.wa w.toNat kG;rw[qa6 fM] at nZ;have R6:=bb _ _ n1;have Ac:=nZ.length;refine mx ?_;walk_at "rds";refine⟨_,rfl,?_⟩;walk_at "rds";refine WG (gy (SqL.of n1)) (λj ae H'=>∃(aL:Fo.ZK)(a2 a3 a4:Option V),ae=[some (.ref r),some (.int first),some (.ref d),some (.ref c),some (.int (eB+1)),some (.int w),a2,a3,a4]∧Zf H H'∧Vo H' d aL∧H' c=some (.lst ((Fo.keys aL).map V.int))∧Fo.Yg W first aL∧Fo.UE W aL eB∧aL[eB]? =some (w,st)∧∀t∈(W w).take j,t.1∈Fo.keys aL)
    ⟨aL,_,_,_,rfl,bb,f9,iW,aM,je,gb,by simp⟩ (λj ae H' ⟨_,_,_,_,_,s,_⟩=>s) ?_ ?_
   ·rintro j ae bC aJ ⟨aL,a2,a3,a4,rfl,cI,⟨kvs,o2,g_⟩,l4,aM,je,gb,il⟩;have hL:j<(W w).length:=by omega
    obtain⟨t,e9,iU⟩:=nZ.at (GT hL);have df:vs.getD j .non= .ref t:=by simp[List.getD,e9]
    rw[df];have qc:(W w)[j]∈W w:=fm hL;have j5:(W w).take (j+1)=(W w).take j++ [(W w)[j]]:=qam hL;have o3:=cI _ _ iU;have R7:=s8 w _ qc;generalize (W w)[j]=x at*;obtain⟨o,b,al⟩:=x;refine Rd.Wd (.of o3) rfl ?_;dsimp only at*;have Js:aL.length≤n:=by
     have:=Fo.Vn (n:=n) aM.nodup (aM.rg ⟨dE,f1⟩ s8);simpa[Fo.keys] using this
    have n2:kvs.length<sizeLine:=dR (by rw[g_.length];omega);have R8:((Fo.keys aL).map V.int).length<sizeLine:=dR (by simp[Fo.keys];omega);walk_at "rds";have hs:=g_.some (w:=o)
    by_cases bc:o∈Fo.keys aL
    ·rw[hs.mpr bc];walk_at "rds";refine⟨aL,_,_,_,rfl,cI,⟨kvs,o2,g_⟩,l4,aM,je,gb,?_⟩;rw[j5];intro t' jc;rcases qar.mp jc with y|y
     ·exact il t' y
     ·rw[qab.mp y];exact bc
    ·have gi:valV kvs (Sum.inl o)=none:=by
      cases e:valV kvs (Sum.inl o) with
      |none=>rfl
      |some v=>exact absurd (hs.mp (by rw[e];rfl)) bc
     rw[gi,Option.isSome_none];walk_at "rds";refine⟨by show 3≤sizeLine;decide,λdG eg=>?_⟩;have cK:Zf bC (upd bC dG (.tup [.int w,.int b,.bl al])):=cP eg;have Jv:(upd bC dG (.tup [.int w,.int b,.bl al])) dG=some (.tup [.int w,.int b,.bl al]):=Ze;have mS:=cK _ _ o2;have mU:=cK _ _ l4;have Jw:Ent (upd bC dG (.tup [.int w,.int b,.bl al])) kvs aL:=g_.keep λ_ _ e=>cK _ _ e;generalize upd bC dG (.tup [.int w,.int b,.bl al])=cj at*;walk_at "rds";rw[Vs _ gi];have qT:∀a xs,cj a=some (.tup xs)→(upd cj d (.dK (kvs++ [(Sum.inl o,.ref dG)]))) a=some (.tup xs):=λa xs e=>by rw[cq (ha e mS (by intro z;cases z))];exact e
     have wP:(upd cj d (.dK (kvs++ [(Sum.inl o,.ref dG)]))) c=some (.lst ((Fo.keys aL).map V.int)):=by rw[cq Ce];exact mU
     have o4:(upd cj d (.dK (kvs++ [(Sum.inl o,.ref dG)]))) d=some (.dK (kvs++ [(Sum.inl o,.ref dG)])):=Ze;have wQ:=(Jw.keep qT).snoc (w:=o) (v:= .ref dG) (s:=some (w,b,al)) ⟨dG,rfl,qT _ _ Jv⟩;have dn:Zf H (upd cj d (.dK (kvs++ [(Sum.inl o,.ref dG)]))):=(cI.trans cK).new hd;generalize upd cj d (.dK (kvs++ [(Sum.inl o,.ref dG)]))=c7 at*;walk_at "rds";have Cf:=(GM.mp gb).1;refine⟨aL++ [(o,some (w,b,al))],_,_,_,rfl,dn.new l3,⟨_,by rw[cq Ce.symm];exact o4,wQ.keep λa xs e=>by rw[cq (ha e wP (by intro z;cases z))];exact e⟩,?_,aM.snoc gb qc bc,je.snoc (by omega) _ _,Fo.Zcj gb,?_⟩
     ·rw[Ze,Fo.Zak,qaG];rfl
     ·rw[j5,Fo.Zak];intro t' jc;rcases qar.mp jc with y|y
      ·exact qa8 _ (il t' y)
      ·rw[qab.mp y];exact qaq _ (qab.mpr rfl)
   ·rintro ae bC ⟨aL,a2,a3,a4,rfl,cI,iU,l4,aM,je,gb,il⟩;rw[←Ac,qa4] at il;have Cf:=(GM.mp gb).1;walk_at "rds";exact⟨n+1-(eB+1),by omega,aL,eB+1,_,_,_,_,rfl,cI,iU,l4,Cf,aM,je.next gb il,rfl⟩
  ·have e:eB=aL.length:=by omega
   subst e;walk_at "rds";exact q d bF aL hd bb f9 aM je
end
def Jx{K:Frag}{mg:Str→Option Value}(T:Tp K mg):Sp:=λvs H Q _=>∃(p:Addr)(af:HM)(fp:List Addr),vs=[.ref p]∧dD T H p af fp∧af.names.length≤60∧af.belts.length≤1000∧ZC af.belts af.names.length∧
 ∀(f:Addr)(cB:List Addr)(H':Hp)(F:List (Int×Fo.ZK)),H f=none→Zf H H'→Zlw H' f cB F→(∀d∈cB,H d=none)→Fo.WR (fb af.belts) af.names.length F af.names.length→F.length≤af.names.length→Q (.ref f) H'
section
variable {P:Program}{w:World}{K:Frag}{mg:Str→Option Value}{base:Heap}
theorem Jy(T:Tp K mg):OkN P w base 3 T.bI (Jx T):=by
 refine T.bI.F.okX oK (λvs H Q E h=>?_) (λcS A outer s H vs Q E av h=>?_)
 ·obtain⟨p,af,fp,rfl,_⟩:=h
  rfl
 ·have hu:=av.hu;obtain⟨p,af,fp,rfl,cw,bA,hz,cU,q⟩:=h;refine⟨_,(b_ (c0 (i:=1) oK.nd rfl (Or.inl rfl) (da T.bG (Jf T) av cW (ak (pv 0) aK)))
     (b_ (c0 (i:=2) oK.nd rfl (Or.inl rfl) pL)
     (b_ (c0 (i:=3) oK.nd rfl (Or.inl rfl) (fN aK))
     (b_ (gs PassesOwn.leaving rfl (j1 rfl T.k (ak (dM (fj K) (by rfl) T.f qai (ak (pv 1) aK)) aK)) (c6 (i:=4) oK.nd rfl (Or.inl rfl)) (cy (ec (dF (u6 hu) (pv 4) (pv 2) (by with_unfolding_all rfl)) (b_ (c0 (i:=5) oK.nd rfl (Or.inl rfl) (da T.bH (Jr T) av cW (ak (pv 1) (ak (pv 4) aK))))
     (b_ (fL (iK (K:=K) rfl qbQ PySem.F.slot_dict_update PySem.F.type_dict_update FL (pv 2) (ak (pv 5) aK)))
     (cy (fL (iK (K:=K) rfl qax qaD qaE ju (pv 3) (ak (pv 5) aK)))))) el)))
     (cy (c9 (pv 3))))))),?_⟩
  try dsimp only[L2.cxX,L2.ZI,L2.Zo]
  walk_at "rds";refine⟨p,af,fp,rfl,cw,by omega,hz,cU,λr cN aj av az lb=>?_⟩;walk_at "rds";intro gh hse;have b':Zf aj (upd aj gh (.dK [])):=cP hse;have fq:(upd aj gh (.dK [])) gh=some (.dK []):=Ze;have R9:H gh=none:=eG az hse;generalize upd aj gh (.dK [])=ay at*;walk_at "rds";refine⟨qaA _,λf bB=>?_⟩;have bb:Zf ay (upd ay f (.lst [])):=cP bB;have jS:(upd ay f (.lst [])) f=some (.lst (([]:List Addr).map V.ref)):=Ze;have Jz:=bb _ _ fq;have Cg:aj f=none:=eG b' bB;have Ch:H f=none:=eG az Cg;generalize upd ay f (.lst [])=bF at*;have ji:=b'.trans bb;have wO:=lb.same ji;have Ju:=wO.at_;have kG:((cN.map V.ref).length:Int)=(af.names.length:Int):=by rw[GE,lb.len]
  walk_at "rds";rw[kG];refine Um (n:=af.names.length) (λi ae H'=>∃(kvs:List (Key×V))(cB:List Addr)(F:List (Int×Fo.ZK))(a1 a2:Option V),ae=[some (.ref p),some (.ref r),some (.ref gh),some (.ref f),a1,a2]∧Zf aj H'∧H' gh=some (.dK kvs)∧H' f=some (.lst (cB.map V.ref))∧hN H' cB F∧
   (∀d∈cB,d≠gh∧H d=none)∧kvs.length≤60*i∧(∀w:Int,(valV kvs (Sum.inl w)).isSome=true↔∃x∈F,w∈Fo.keys x.2)∧Fo.WR (fb af.belts) af.names.length F i∧F.length≤i)
   ⟨[],[],[],_,_,rfl,ji,Jz,jS,.nil,by simp,qaA _,λw=>⟨λz=>(by cases z),λ⟨x,ao,_⟩=>(by cases ao)⟩,Fo.ZkR,FM _⟩ ?_ ?_
  ·rintro i ae bC hi ⟨kvs,cB,F,a1,a2,rfl,cI,s9,o5,hU,j7,iP,f3,e8,s_⟩;rw[qbA];walk_at "rds";have hs:=f3 (i:Int)
   by_cases ao:∃x∈F,(i:Int)∈Fo.keys x.2
   ·rw[hs.mpr ao];walk_at "rds";exact⟨kvs,cB,F,_,_,rfl,cI,s9,o5,hU,j7,by omega,f3,e8.skip ao,by omega⟩
   ·have gi:(valV kvs (Sum.inl (i:Int))).isSome=false:=by
     cases e:(valV kvs (Sum.inl (i:Int))).isSome with
     |false=>rfl
     |true=>exact absurd (hs.mp e) ao
    rw[gi];walk_at "rds";refine⟨r,cN,af.names.length,fb af.belts,(i:Int),rfl,lb.same cI,by omega,nO cU,by omega,by omega,λd cj aL l5 cK o3 aM je=>?_⟩;obtain⟨more,mS,g_⟩:=id o3;have wR:gh≠d:=dw s9 l5;have qU:=cK _ _ s9;have ta:=cK _ _ o5;have k9:=hU.same cK;have JA:=aM.rg (n:=(af.names.length:Int)) ⟨by omega,by omega⟩ (nO cU);have qt:aL.length≤af.names.length:=by
     have:=Fo.Vn (n:=af.names.length) aM.nodup JA;simpa[Fo.keys] using this
    have hJ:more.length≤60:=by rw[g_.length];omega
    walk_at "rds";refine⟨.inr (.inr (.inl ⟨rfl,.inl ⟨_,qU⟩⟩)),?_⟩;walk_at "rds";refine Rd.ZoM wR qU mS (qaX (vZ (by omega))) ?_;have JB:=A8 more kvs;have R_:=rO more kvs;have qT:∀a xs,cj a=some (.tup xs)→(upd cj gh (.dK (gT kvs more))) a=some (.tup xs):=λa xs e=>by rw[cq (ha e qU (by intro z;cases z))];exact e
    have JC:(upd cj gh (.dK (gT kvs more))) gh=some (.dK (gT kvs more)):=Ze;have tb:(upd cj gh (.dK (gT kvs more))) f=some (.lst (cB.map V.ref)):=by rw[cq (ha ta qU (by intro z;cases z))];exact ta
    have o4:Vo (upd cj gh (.dK (gT kvs more))) d aL:=⟨more,by rw[cq wR.symm];exact mS,g_.keep qT⟩;have ww:hN (upd cj gh (.dK (gT kvs more))) cB F:=k9.keep qT (λd' ih c5 e=>by rw[cq (j7 d' ih).1];exact e);have dn:Zf aj (upd cj gh (.dK (gT kvs more))):=(cI.trans cK).new hse;generalize upd cj gh (.dK (gT kvs more))=c7 at*;have R':(cB.map V.ref).length<sizeLine:=dR (by rw[GE,hU.length];omega);walk_at "rds";have lZ:∀a xs,c7 a=some (.tup xs)→(upd c7 f (.lst (cB.map V.ref++ [.ref d]))) a=some (.tup xs):=λa xs e=>by rw[cq (ha e tb (by intro z;cases z))];exact e
    have wS:∀a c5,c7 a=some (.dK c5)→(upd c7 f (.lst (cB.map V.ref++ [.ref d]))) a=some (.dK c5):=λa c5 e=>by rw[cq (ha e tb (by intro z;cases z))];exact e
    obtain⟨JD,JE,wQ⟩:=o4;refine⟨gT kvs more,cB++ [d],F++ [((i:Int),aL)],_,_,rfl,dn.new Cg,wS _ _ JC,by rw[Ze,qaG];rfl,(ww.keep lZ λd' _ c5 e=>wS _ _ e).snoc ⟨JD,wS _ _ JE,wQ.keep lZ⟩,λd' ih=>?_,by omega,λw=>?_,e8.grow (sC _) (nO cU) hi (λx iB aR=>ao ⟨x,iB,aR⟩) aM je,by simp;omega⟩
    ·rcases qar.mp ih with z|z
     ·exact j7 d' z
     ·rw[qab.mp z];exact⟨wR.symm,eG (az.trans cI) l5⟩
    ·rw[JB,Bool.or_eq_true,f3 w,g_.some]
     constructor
     ·rintro(⟨x,mG,i'⟩|z)
      ·exact⟨x,qa8 _ mG,i'⟩
      ·exact⟨_,qaq _ (qab.mpr rfl),z⟩
     ·rintro⟨x,mG,i'⟩;rcases qar.mp mG with z|z
      ·exact .inl ⟨x,z,i'⟩
      ·rw[qab.mp z] at i';exact .inr i'
  ·rintro ae bC ⟨kvs,cB,F,a1,a2,rfl,cI,s9,o5,hU,j7,iP,f3,e8,s_⟩;walk_at "rds";exact q f cB bC F Ch (az.trans cI) ⟨o5,hU⟩ (λd hd=>(j7 d hd).2) e8 s_
end
def ZaT{K:Frag}{mg:Str→Option Value}(T:Tp K mg):Sp:=λvs H Q _=>∃a b:Nat,vs=[.int a,.int b]∧Q (.int (Nat.gcd a b:Nat)) H
theorem Zil{K:Frag}{mg:Str→Option Value}{T:Tp K mg}{H:Hp}{Q:VK}{E:XK}{a b:Nat}(q:Q (.int (Nat.gcd a b:Nat)) H):ZaT T ([.int a,.int b]++ []) H Q E:=⟨a,b,rfl,q⟩
local macro_rules| `(tactic|walk_at "rd")=>`(tactic|first|((with_reducible show Nm.ZaT _ _ _ _ _);with_reducible refine Nm.Zil ?_)|fail "none here")
section
variable {P:Program}{w:World}{K:Frag}{mg:Str→Option Value}{base:Heap}
theorem Ci(T:Tp K mg):OkN P w base 1 T.bo (ZaT T):=by
 refine T.bo.F.okX su (λvs H Q E h=>?_) (λcS A outer s H vs Q E av h=>?_)
 ·obtain⟨a,b,rfl,_⟩:=h
  rfl
 ·have hu:=av.hu;obtain⟨a0,b0,rfl,q⟩:=h;rw[←My.ZdP] at q;refine⟨_,(b_ (mm PassesOwn.leaving (dF og (pv 1) aX (dA _)) (b_ (c0 (i:=2) su.nd rfl (Or.inl rfl) (cD eX (pv 0) (pv 1)))
     (b_ (c0 (i:=0) su.nd rfl (Or.inl rfl) (pv 1))
     (cy (c0 (i:=1) su.nd rfl (Or.inl rfl) (pv 2))))))
     (cy (c9 (pv 0)))),?_⟩
  try dsimp only[L2.cxX,L2.ZI,L2.Zo]
  walk_at "rd";refine Uw (λm ae H'=>H'=H∧∃(x y:Int)(r:Option V),m=y.toNat∧ae=[some (.int x),some (.int y),r]∧0≤x∧0≤y∧My.G x y=My.G a0 b0) _ ⟨rfl,a0,b0,none,rfl,rfl,by omega,by omega,rfl⟩ ?_;rintro m ae H' ⟨rfl,x,y,r,rfl,rfl,ao,a',km⟩;walk_at "rds";refine Vi (λc=>mx ?_) (λc=>?_)
  ·have iT:0<y:=of_decide_eq_true c;walk_at "rds";exact⟨_,(by have:=qaR x (show y≠0 by omega);have:=qbc x iT;omega),rfl,y,x % y,some (.int (x % y)),rfl,rfl,a',qaR x (by omega),(A5 ao iT).trans km⟩
  ·have iT:¬0<y:=λz=>c (decide_eq_true z);have e:x=My.G a0 b0:=by rw[←km,My.ZjT ao (show y=0 by omega)]
   walk_at "rds";rw[e];exact q
end
def JF{K:Frag}{mg:Str→Option Value}(T:Tp K mg):Sp:=λvs H Q _=>∃a b:Nat,vs=[.int a,.int b]∧0<b∧b<2 ^ 8000∧∀(p:Addr)(H':Hp),H p=none→Zf H H'→H' p=some (.tup [.int (a / Nat.gcd a b:Nat),.int (b / Nat.gcd a b:Nat)])→Q (.ref p) H'
section
variable {P:Program}{w:World}{K:Frag}{mg:Str→Option Value}{base:Heap}
theorem wT(T:Tp K mg):OkN P w base 2 T.be (JF T):=by
 refine T.be.F.okX AZ (λvs H Q E h=>?_) (λcS A outer s H vs Q E av h=>?_)
 ·obtain⟨a,b,rfl,_⟩:=h
  rfl
 ·have hu:=av.hu;obtain⟨a,b,rfl,b0,b1,q⟩:=h;have oO:0<Nat.gcd a b:=Nat.gcd_pos_of_pos_right _ b0;have fC:Nat.gcd a b<2 ^ 8000:=qav (qbe b0 (qbj a b)) b1;have JG:=Zf6 (a:=a) oO fC;refine⟨_,(b_ (c0 (i:=2) AZ.nd rfl (Or.inl rfl) (da T.bo (Ci T) av cW (ak (pv 0) (ak (pv 1) aK))))
     (cy (c9 (fE (ak (cD f0 (pv 0) (pv 2)) (ak (cD f0 (pv 1) (pv 2)) aK)))))),?_⟩
  try dsimp only[L2.cxX,L2.ZI,L2.Zo]
  walk_at "rds";refine⟨by show 2≤sizeLine;decide,λp aS=>?_⟩;exact q p _ aS (cP aS) Ze
end
def JH{K:Frag}{mg:Str→Option Value}(T:Tp K mg):Sp:=λvs H Q _=>∃(p q:Addr)(x y u v n m:Nat),vs=[.ref p,.ref q]∧H p=some (.tup [.int x,.int y])∧H q=some (.tup [.int u,.int v])∧0<y∧0<v∧x<2 ^ n∧y<2 ^ n∧u<2 ^ m∧v<2 ^ m∧n+m≤8000∧
 ∀(r:Addr)(H':Hp),H r=none→Zf H H'→H' r=some (.tup [.int (x*u / Nat.gcd (x*u) (y*v):Nat),.int (y*v / Nat.gcd (x*u) (y*v):Nat)])→Q (.ref r) H'
section
variable {P:Program}{w:World}{K:Frag}{mg:Str→Option Value}{base:Heap}
theorem JI(T:Tp K mg):OkN P w base 3 T.bJ (JH T):=by
 refine T.bJ.F.okX Hr (λvs H Q E h=>?_) (λcS A outer s H vs Q E av h=>?_)
 ·obtain⟨p,q,x,y,u,v,n,m,rfl,_⟩:=h
  rfl
 ·have hu:=av.hu;obtain⟨p,q,x,y,u,v,n,m,rfl,ai,aw,i_,jM,xs,ys,us,hE,nm,k⟩:=h;have iz:=V9 xs us (by omega);have ii:=V9 ys hE (by omega);refine⟨_,(cy (c9 (da T.be (wT T) av cW (ak (cD gV (cv (ixk K) (pv 0) aX (λ_ _=>rfl)) (cv (ixk K) (pv 1) aX (λ_ _=>rfl))) (ak (cD gV (cv (ixk K) (pv 0) aX (λ_ _=>rfl)) (cv (ixk K) (pv 1) aX (λ_ _=>rfl))) aK))))),?_⟩
  try dsimp only[L2.cxX,L2.ZI,L2.Zo]
  walk_at "rds";exact⟨x*u,y*v,rfl,qbH i_ jM,qad (qr ys hE) (qau (by decide) nm),k⟩
end
structure Zn5(b:B5)(cz a5:Nat):Prop where
 g:b.give=(cz:Int)
 t:b.take=(a5:Int)
 ea:0<cz
 fy:0<a5
 fC:cz<2 ^ 110
 d4:a5<2 ^ 110
def JJ{K:Frag}{mg:Str→Option Value}(T:Tp K mg):Sp:=λvs H Q _=>∃(t:Addr)(b:B5)(al:Bool)(cz a5:Nat),vs=[.ref t,.bl al]∧H t=some (.tup b.v)∧Zn5 b cz a5∧
 ∀(p:Addr)(H':Hp)(x y:Nat),H p=none→Zf H H'→H' p=some (.tup [.int x,.int y])→(if al=true then x=cz / Nat.gcd cz a5∧y=a5 / Nat.gcd cz a5 else x=a5 / Nat.gcd a5 cz∧y=cz / Nat.gcd a5 cz)→Q (.ref p) H'
section
variable {P:Program}{w:World}{K:Frag}{mg:Str→Option Value}{base:Heap}
theorem JK(T:Tp K mg):OkN P w base 3 T.bK (JJ T):=by
 refine T.bK.F.okX Hs (λvs H Q E h=>?_) (λcS A outer s H vs Q E av h=>?_)
 ·obtain⟨t,b,al,cz,a5,rfl,_⟩:=h
  rfl
 ·have hu:=av.hu;obtain⟨t,b,al,cz,a5,rfl,cu,sz,q⟩:=h;obtain⟨g,JL,ea,fy,fC,d4⟩:=sz;dsimp only[B5.v] at cu;rw[g,JL] at cu;have big:(2:Nat) ^ 110≤2 ^ 8000:=qau (by decide) (by decide);refine⟨_,(cy (c9 (Ei (hv (K:=K) rfl (pv 1) (λ_=>rfl)) (da T.be (wT T) av cW (ak (cv (ixk K) (pv 0) aX (λ_ _=>rfl)) (ak (cv (ixk K) (pv 0) aX (λ_ _=>rfl)) aK))) (da T.be (wT T) av cW (ak (cv (ixk K) (pv 0) aX (λ_ _=>rfl)) (ak (cv (ixk K) (pv 0) aX (λ_ _=>rfl)) aK)))))),?_⟩
  try dsimp only[L2.cxX,L2.ZI,L2.Zo]
  walk_at "rds";unfold tIf;walk_at "rds";cases al with
  |true=>
   walk_at "rds";exact⟨cz,a5,rfl,fy,qad d4 big,λp H' aS s h=>q p H' _ _ aS s h ⟨rfl,rfl⟩⟩
  |false=>
   walk_at "rds";exact⟨a5,cz,rfl,ea,qad fC big,λp H' aS s h=>q p H' _ _ aS s h ⟨rfl,rfl⟩⟩
end
def JM{K:Frag}{mg:Str→Option Value}(T:Tp K mg):Sp:=λvs H Q E=>∃(p:Addr)(i:Int)(af:HM)(fp:List Addr),vs=[.ref p,.int i]∧dD T H p af fp∧
 (¬(0≤i∧i<af.belts.length)→E (.ref T.aG) none H)∧(0≤i→i<af.belts.length→Q .non H)
section
variable {P:Program}{w:World}{K:Frag}{mg:Str→Option Value}{base:Heap}
theorem JN(T:Tp K mg):OkM P w mg base 4 T.bL (JM T):=by
 have gp:=T.a;have gq:=T.e;refine T.bL.F.okX Ht (λvs H Q E h=>?_) (λcS A outer s H vs Q E av h=>?_)
 ·obtain⟨p,i,af,fp,rfl,_⟩:=h
  rfl
 ·have hu:=av.hu;obtain⟨p,i,af,fp,rfl,cw,aW,q⟩:=h;obtain⟨aY,a,b,bs,rfl,ai,aw,cC,c3,ie,dS⟩:=id cw;refine⟨_,(cy (ec (ij (hv (K:=K) rfl (da T.x9 (B1 T) av cW (ak (pv 1) (ak (dM (fj K) (by rfl) T.f qai (ak (gd (K:=K) rfl (pv 0) rfl) aK)) aK))) (λ_=>rfl))) (cy (jI T.aH.g T.aH.e qay rfl (ak Y1 aK))) el)),?_⟩
  try dsimp only[L2.cxX,L2.ZI,L2.Zo]
  walk_at "rds";rw[dS.length]
  by_cases c:0≤i∧i<af.belts.length
  ·rw[decide_eq_true c];walk_at "rds";exact q c.1 c.2
  ·rw[decide_eq_false c];walk_at "rds";exact aW c
end
def JO{K:Frag}{mg:Str→Option Value}(T:Tp K mg):Sp:=λvs H Q E=>∃(p:Addr)(i:Int)(af:HM)(fp:List Addr),vs=[.ref p,.int i]∧dD T H p af fp∧
 (¬(0≤i∧i<af.belts.length)→E (.ref T.aG) none H)∧(0≤i→i<af.belts.length→∀(t:Addr)(b:B5),af.belts[i.toNat]? =some b→H t=some (.tup b.v)→Q (.ref t) H)
section
variable {P:Program}{w:World}{K:Frag}{mg:Str→Option Value}{base:Heap}
theorem qV(T:Tp K mg):OkM P w mg base 5 T.aU (JO T):=by
 have gp:=T.a;have gq:=T.e;refine T.aU.F.okX Hu (λvs H Q E h=>?_) (λcS A outer s H vs Q E av h=>?_)
 ·obtain⟨p,i,af,fp,rfl,_⟩:=h
  rfl
 ·have hu:=av.hu;obtain⟨p,i,af,fp,rfl,cw,aW,q⟩:=h;obtain⟨aY,a,b,bs,rfl,ai,aw,cC,c3,ie,dS⟩:=id cw;refine⟨_,(b_ (fL (gW (pv 0) T.a T.bL (JN T) av cW (ak (pv 1) aK)))
     (cy (c9 (cv (ixk K) (gd (K:=K) rfl (pv 0) rfl) (pv 1) (λ_ _=>rfl))))),?_⟩
  try dsimp only[L2.cxX,L2.ZI,L2.Zo]
  walk_at "rds";refine⟨p,i,af,_,rfl,cw,aW,λi0 e1=>?_⟩;have hi:i.toNat<af.belts.length:=by omega
  have gL:=GT hi;obtain⟨t,e9,eg⟩:=dS.at gL;have hC:atI bs i=some (.ref t):=by
   have:=gS e9
   rwa [qa6 i0] at this
  walk_at "rds";exact q i0 e1 t _ gL eg
end
def JP{K:Frag}{mg:Str→Option Value}(T:Tp K mg):Sp:=λvs H Q _=>∃(p d:Addr)(af:HM)(fp:List Addr)(kvs:List (Key×V))(aL:Fo.ZK)(first:Int),vs=[.ref p,.ref d]∧dD T H p af fp∧d∉fp∧L2.Rd H d (.dK kvs)∧Ent H kvs aL∧Fo.Yg (fb af.belts) first aL∧aL.length≤60∧Yb af.belts∧
 ∀(e:Addr)(o:Obj)(H':Hp)(ez:List (Key×V))(zs:List (Int×(Nat×Nat))),H e=none→Zf (upd H d (.frz o (.dK kvs))) H'→H' e=some (.dK ez)→ShE H' ez zs→i9 af.belts aL zs aL.length→Q (.ref e) H'
section
variable {P:Program}{w:World}{K:Frag}{mg:Str→Option Value}{base:Heap}
theorem JQ(T:Tp K mg):OkN P w base 6 T.bM (JP T):=by
 have gp:=T.a;have gq:=T.e;refine T.bM.F.okX sv (λvs H Q E h=>?_) (λcS A outer s H vs Q E av h=>?_)
 ·obtain⟨p,d,af,fp,kvs,aL,first,rfl,_⟩:=h
  rfl
 ·have hu:=av.hu;obtain⟨p,d,af,fp,kvs,aL,first,rfl,cw,JR,hd,g_,aM,qt,hsz,q⟩:=h;have iP:=g_.length;refine⟨_,(b_ (c0 (i:=2) sv.nd rfl (Or.inl rfl) pL)
     (b_ (gs PassesOwn.leaving rfl (zC (pv 1)) (gK (K:=K) (n:=2) rfl rfl (d8 (c6 (i:=3) sv.nd rfl (Or.inl rfl)) (d8 (c6 (i:=4) sv.nd rfl (Or.inl rfl)) gI))) (cy (ec (dF t7 (pv 4) W7 (dA _)) (cy (iA (fE (ak aX (ak aX aK))) (kA (pv 2) (pv 3) (p6 hu)))) (cy (iA (da T.bJ (JI T) av cW (ak (cv (UV hu) (pv 2) (cv (ixk K) (pv 4) aX (λ_ _=>rfl)) (λ_ _=>rfl)) (ak (da T.bK (JK T) av cW (ak (gW (pv 0) T.a T.aU (qV T) av cW (ak (cv (ixk K) (pv 4) aX (λ_ _=>rfl)) aK)) (ak (cv (ixk K) (pv 4) aX (λ_ _=>rfl)) aK))) aK))) (kA (pv 2) (pv 3) (p6 hu)))))))
     (cy (c9 (pv 2))))),?_⟩
  try dsimp only[L2.cxX,L2.ZI,L2.Zo]
  walk_at "rds";intro e cp;have Cj:d≠e:=λz=>ZeB hd (by rw[z];exact cp);have az:Zf H (upd H e (.dK [])):=cP cp;have o6:(upd H e (.dK [])) e=some (.dK []):=Ze;have l0:L2.Rd (upd H e (.dK [])) d (.dK kvs):=by
   rcases hd with h|⟨o,h⟩
   ·exact .inl (az _ _ h)
   ·exact .inr ⟨o,az _ _ h⟩
  generalize upd H e (.dK [])=aj at*;walk_at "rds";refine Rd.Zjs ?_;walk_at "rds";refine⟨d,kvs,rfl,l0,λo=>?_⟩;have wU:=qs (o:=o) hd;have h_:dD T (upd H d (.frz o (.dK kvs))) p af fp:=cw.off wU (λx ao z=>JR (by rw[←qab.mp z];exact ao));have JS:Ent (upd H d (.frz o (.dK kvs))) kvs aL:=g_.keep wU.tups;have tc:(upd H d (.frz o (.dK kvs))) e=none:=by rw[cq Cj.symm];exact cp
  have bb:Zf (upd H d (.frz o (.dK kvs))) (upd aj d (.frz o (.dK kvs))):=λb x df=>by
   by_cases z:b=d
   ·rw[z,Ze] at df⊢;exact df
   ·rw[cq z] at df⊢;exact az _ _ df
  have JT:(upd H d (.frz o (.dK kvs))) d=some (.frz o (.dK kvs)):=Ze;have o7:(upd aj d (.frz o (.dK kvs))) e=some (.dK []):=by rw[cq Cj.symm];exact o6
  have nQ:=λH' ez zs=>q e o H' ez zs cp;generalize upd aj d (.frz o (.dK kvs))=bC at*;generalize upd H d (.frz o (.dK kvs))=bF at*;clear q l0 o6 az wU;refine Wl (zD JT) (λi ae H'=>∃(ez:List (Key×V))(zs:List (Int×(Nat×Nat)))(a1 a2:Option V),ae=[some (.ref p),some (.ref d),some (.ref e),a1,a2]∧Zf bF H'∧H' e=some (.dK ez)∧ShE H' ez zs∧i9 af.belts aL zs i∧ez.length≤i)
   ⟨[],[],_,_,rfl,bb,o7,.nil,H0,FM _⟩ (λi ae H' ⟨_,_,_,_,_,s,_⟩=>s) ?_ ?_
  ·rintro i ae cj v c7 hi ⟨ez,zs,a1,a2,rfl,cK,l6,j_,gE,JU⟩ ⟨t,kv,qW,cu,rfl,rfl⟩;obtain⟨w,st,lT,fu,dQ⟩:=Znz JS qW;have dL:i<aL.length:=(GM.mp lT).1;have Bc:=gE.len (qaX dL);have JV:w∉zs.map (·.1):=by
    rw[gE.keys];intro a6;obtain⟨j,aJ,a7⟩:=qat a6;rw[List.getElem_take] at a7;have hL:j<i:=by rw[qaP] at aJ;omega
    have td:j<(Fo.keys aL).length:=by rw[qaP] at aJ;omega
    have Ck:i<(Fo.keys aL).length:=by simp[Fo.keys];exact dL
    have gL:(Fo.keys aL)[i]=w:=by
     have:(Fo.keys aL)[i]? =some w:=by unfold Fo.keys;rw[qaj,lT];rfl
     rw[GT Ck] at this;exact qap this
    have:=qp aM.nodup td Ck (a7.trans gL.symm);omega
   obtain⟨k,val⟩:=kv;dsimp only at fu dQ;subst fu;refine Rd.Wd (.of Ze) rfl ?_;have hV:Zf cj (upd cj t (.tup [kV (Sum.inl w),val])):=cP cu;have dn:=cK.trans hV;have Cm:=hV _ _ l6;have te:ShE (upd cj t (.tup [kV (Sum.inl w),val])) ez zs:=j_.keep λ_ _ e=>hV _ _ e;generalize upd cj t (.tup [kV (Sum.inl w),val])=c7 at*;have wV:kV (Sum.inl w)= .int w:=rfl;rw[wV];have n2:ez.length<sizeLine:=dR (by omega);have gi:=te.none JV;walk_at "rds";refine⟨rfl,?_⟩;cases st with
   |none=>
    have eJ:val= .non:=dQ;subst eJ;walk_at "rds";refine⟨by show 2≤sizeLine;decide,λdG eg=>?_⟩;have dW:Zf c7 (upd c7 dG (.tup [.int 1,.int 1])):=cP eg;have jd:(upd c7 dG (.tup [.int 1,.int 1])) dG=some (.tup [.int 1,.int 1]):=Ze;have wW:=dW _ _ Cm;have wX:ShE (upd c7 dG (.tup [.int 1,.int 1])) ez zs:=te.keep λ_ _ e=>dW _ _ e;generalize upd c7 dG (.tup [.int 1,.int 1])=dq at*;walk_at "rds";rw[Vs _ gi];have qX:∀a xs,dq a=some (.tup xs)→(upd dq e (.dK (ez++ [(Sum.inl w,.ref dG)]))) a=some (.tup xs):=λa xs cL=>by rw[cq (ha cL wW (by intro z;cases z))];exact cL
    refine⟨_,zs++ [(w,(1,1))],_,_,rfl,(dn.trans dW).new tc,Ze,(wX.keep qX).snoc (x:=(1,1)) (qX _ _ jd),gE.more dL lT ⟨by decide,by decide,by decide⟩ ⟨?_,?_⟩ (λ_=>rfl) (λp b al z=>by cases z),by simp;omega⟩
    ·exact qad (by decide:(1:Nat)<2 ^ 1) (qau (by decide) (by omega))
    ·exact qad (by decide:(1:Nat)<2 ^ 1) (qau (by decide) (by omega))
   |some x=>
    obtain⟨tf,b,al⟩:=x;obtain⟨dG,eJ,eg⟩:=dQ;subst eJ;have wK:=dn _ _ eg;obtain⟨JW,j,oP,aJ,JX⟩:=aM.steps i w tf b al lT;have si:tf∈zs.map (·.1):=by
     rw[gE.keys];have aR:(Fo.keys aL)[j]? =some tf:=by unfold Fo.keys;rw[qaj,JX];rfl
     have:((Fo.keys aL).take i)[j]? =some tf:=by rw[List.getElem?_take,if_pos aJ];exact aR
     exact qal this
    obtain⟨y,ty,Cn,zX,hG⟩:=te.get si;obtain⟨tg,wY⟩:=qba Cn;have hL:=(GM.mp wY).1;obtain⟨i_,hg,ja⟩:=gE.pos _ Cn;obtain⟨th,n3⟩:=gE.size tg _ wY;obtain⟨bi,mL,sU⟩:=Vu JW;have df:b=(bi:Int):=by
     rw[Y4] at sU;rcases sU with⟨_,z⟩|⟨_,z⟩<;>(injection z with _ e0;injection e0)
    obtain⟨cz,a5,ea,fy,fC,d4,d9,dX⟩:=hsz bi mL;have jC:=h_.same dn;have JY:decide (V.ref dG=V.non)=false:=decide_eq_false (by intro z;cases z);rw[JY];walk_at "rds";refine⟨p,b,af,fp,rfl,jC,λz=>absurd ⟨by omega,by omega⟩ z,λ_ _ c4 B gc JZ=>?_⟩;have oY:af.belts.getD bi dB=B:=by
     rw[df,qaa] at gc;simp[List.getD,gc]
    rw[oY] at d9 dX;walk_at "rds";refine⟨c4,B,al,cz,a5,rfl,JZ,⟨d9,dX,ea,fy,fC,d4⟩,λiM dq u v f9 dW jd n4=>?_⟩;have bA:110*tg+1+110≤110*i+1:=by omega
    have J0:∃J1 G2 M,J1=Nat.gcd M G2∧True:=⟨_,0,0,rfl,trivial⟩;have f5:∃mV gQ:Nat,0<mV∧0<gQ∧mV<2 ^ 110∧gQ<2 ^ 110∧u=mV / Nat.gcd mV gQ∧v=gQ / Nat.gcd mV gQ∧(∀x:Nat×Nat,x.1*y.2*gQ=y.1*x.2*mV→Bal B al x y):=by
     cases al with
     |true=>
      rw[if_pos rfl] at n4;refine⟨cz,a5,ea,fy,fC,d4,n4.1,n4.2,λx ao=>?_⟩;unfold Bal;rw[if_pos rfl,d9,dX,qaa,qaa];exact ao
     |false=>
      rw[if_neg (by decide)] at n4;refine⟨a5,cz,fy,ea,d4,fC,n4.1,n4.2,λx ao=>?_⟩;unfold Bal;rw[if_neg (by decide),d9,dX,qaa,qaa];exact ao
    clear n4 J0;obtain⟨mV,gQ,Co,Cp,Cq,Cr,Cs,eJ,qD⟩:=f5;have J2:u<2 ^ 110:=by rw[Cs];exact qav (qaQ _ _) Cq
    have fZ:v<2 ^ 110:=by rw[eJ];exact qav (qaQ _ _) Cr
    have jM:0<v:=by
     rw[eJ];exact qb9 (qbe Cp (qbj _ _)) (qbE _ Co)
    walk_at "rds";refine⟨ty,iM,y.1,y.2,u,v,110*tg+1,110,rfl,dW _ _ hG,jd,hg,jM,th,n3,J2,fZ,by omega,λo8 ev iU eQ kY=>?_⟩;obtain⟨aS,h8,J3,J4⟩:=Zim (y:=y) (u:=(u,v)) (x:=(y.1*u / Nat.gcd (y.1*u) (y.2*v),y.2*v / Nat.gcd (y.1*u) (y.2*v))) (n:=0) i_ hg Co Cp Cs eJ rfl rfl rfl;have n5:=dW.trans eQ;have tj:=n5 _ _ Cm;have qY:ShE ev ez zs:=te.keep λ_ _ e=>n5 _ _ e;walk_at "rds";rw[Vs _ gi];have qX:∀a xs,ev a=some (.tup xs)→(upd ev e (.dK (ez++ [(Sum.inl w,.ref o8)]))) a=some (.tup xs):=λa xs cL=>by rw[cq (ha cL tj (by intro z;cases z))];exact cL
    have J5:y.1*mV<2 ^ (110*i+1):=qad (qr th Cq) (qau (by decide) bA);have J6:y.2*gQ<2 ^ (110*i+1):=qad (qr n3 Cr) (qau (by decide) bA);refine⟨_,zs++ [(w,(y.1*u / Nat.gcd (y.1*u) (y.2*v),y.2*v / Nat.gcd (y.1*u) (y.2*v)))],_,_,rfl,(dn.trans n5).new tc,Ze,(qY.keep qX).snoc (qX _ _ kY),gE.more dL lT aS ⟨qav J3 J5,qav J4 J6⟩ (λz=>by cases z) (λfg ly sk z=>?_),by simp;omega⟩;cases z;refine⟨tg,y,wY,?_⟩;rw[df,qaa,oY];exact qD _ h8
  ·rintro ae cj ⟨ez,zs,a1,a2,rfl,cK,l6,j_,gE,JU⟩;rw[iP] at gE;walk_at "rds";exact nQ cj ez zs cK l6 j_ gE
end
def J7{K:Frag}{mg:Str→Option Value}(T:Tp K mg):Sp:=λvs H Q _=>∃a b n:Nat,vs=[.int a,.int b]∧0<b∧b<2 ^ 8000∧a<2 ^ n∧n≤1000000∧Q (.int (a / Nat.gcd a b*b:Nat)) H
section
variable {P:Program}{w:World}{K:Frag}{mg:Str→Option Value}{base:Heap}
theorem J8(T:Tp K mg):OkN P w base 2 T.bN (J7 T):=by
 refine T.bN.F.okX Hv (λvs H Q E h=>?_) (λcS A outer s H vs Q E av h=>?_)
 ·obtain⟨a,b,n,rfl,_⟩:=h
  rfl
 ·have hu:=av.hu;obtain⟨a,b,n,rfl,b0,b1,bA,ms,q⟩:=h;have oO:0<Nat.gcd a b:=Nat.gcd_pos_of_pos_right _ b0;have fC:Nat.gcd a b<2 ^ 8000:=qav (qbe b0 (qbj a b)) b1;have JG:=Zf6 (a:=a) oO fC;have J9:a / Nat.gcd a b<2 ^ n:=qav (qaQ _ _) bA;have lY:IntMulOk ((a:Int) / (Nat.gcd a b:Nat)) (b:Int):=V9 (a:=a / Nat.gcd a b) J9 b1 (by omega);refine⟨_,(cy (c9 (cD gV (cD f0 (pv 0) (da T.bo (Ci T) av cW (ak (pv 0) (ak (pv 1) aK)))) (pv 1)))),?_⟩
  try dsimp only[L2.cxX,L2.ZI,L2.Zo]
  walk_at "rds";exact q
end
def J_{K:Frag}{mg:Str→Option Value}(T:Tp K mg):Sp:=λvs H Q _=>∃(p f:Addr)(af:HM)(fp cB:List Addr)(F:List (Int×Fo.ZK)),vs=[.ref p,.ref f]∧dD T H p af fp∧H f=some (.lst (cB.map V.ref))∧YZ H cB F∧(∀d∈cB,d∉fp)∧(∀d∈cB,d≠f)∧Fo.WR (fb af.belts) af.names.length F af.names.length∧ZC af.belts af.names.length∧af.names.length≤60∧Yb af.belts∧
 ∀(r:Addr)(H':Hp)(rs:List Int),H r=none→eb cB H H'→YZ H' cB F→H' r=some (.lst (rs.map V.int))→rs.length=af.names.length→(∀x∈F,nP af.belts x rs)→Q (.ref r) H'
section
variable {P:Program}{w:World}{K:Frag}{mg:Str→Option Value}{base:Heap}
theorem J'(T:Tp K mg):OkN P w base 7 T.bO (J_ T):=by
 have gp:=T.a;have gq:=T.e;refine T.bO.F.okX lQ (λvs H Q E h=>?_) (λcS A outer s H vs Q E av h=>?_)
 ·obtain⟨p,f,af,fp,cB,F,rfl,_⟩:=h
  rfl
 ·have hu:=av.hu;obtain⟨p,f,af,fp,cB,F,rfl,cw,bB,dg,kH,la,e8,cU,bA,hsz,q⟩:=h;have kj:=dg.length;refine⟨_,(b_ (rQ (j:=2) rfl (fU (x:="name") (zs:=[]) (ix:=[]) (cR vD) ["hall","forest","rates","tree","shares","common","share","work"] rfl rfl (by decide+kernel)) (gA (K:=K) rfl (lK (pv 0) T.a T.bd (wF T) av cW)) (λcl C s H fp=>⟨(c6 (i:=0) (show(["name"]:List Str).Nodup by decide+kernel) rfl (Or.inl rfl)),gx,aX⟩) lQ.nd rfl (Or.inl rfl))
     (b_ (gs PassesOwn.leaving rfl (gA (K:=K) rfl (pv 1)) (c6 (i:=3) lQ.nd rfl (Or.inl rfl)) (b_ (c0 (i:=4) lQ.nd rfl (Or.inl rfl) (da T.bM (JQ T) av cW (ak (pv 0) (ak (pv 3) aK))))
     (b_ (c0 (i:=5) lQ.nd rfl (Or.inl rfl) aX)
     (b_ (gs PassesOwn.leaving rfl (FQ (pv 4)) (c6 (i:=6) lQ.nd rfl (Or.inl rfl)) (cy (c0 (i:=5) lQ.nd rfl (Or.inl rfl) (da T.bN (J8 T) av cW (ak (pv 5) (ak (cv (ixk K) (pv 6) aX (λ_ _=>rfl)) aK))))))
     (cy (gs PassesOwn.leaving rfl (zC (pv 4)) (gK (K:=K) (n:=2) rfl rfl (d8 (c6 (i:=7) lQ.nd rfl (Or.inl rfl)) (d8 (c6 (i:=6) lQ.nd rfl (Or.inl rfl)) gI))) (cy (iA (cD gV (cD f0 (pv 5) (cv (ixk K) (pv 6) aX (λ_ _=>rfl))) (cv (ixk K) (pv 6) aX (λ_ _=>rfl))) (kA (pv 2) (pv 7) mu)))))))))
     (cy (c9 (pv 2))))),?_⟩
  try dsimp only[L2.cxX,L2.ZI,L2.Zo]
  walk_at "rds";refine⟨p,af,fp,rfl,cw,λnm aj ks az wG=>?_⟩;walk_at "rds";refine YX (gy (SqL.of wG)) (dR (by rw[GE];omega)) (λ_=>true) (λ_=> .int 1) (λi H' ds hi sm k=>?_) (λi H' ds hi _ sm k=>?_) (λr ay av b' gP=>?_)
  ·walk_at "rds";exact k H' (Zf.refl H')
  ·walk_at "rds";exact k H' (Zf.refl H')
  have hW:ay r=some (.lst ((List.replicate af.names.length (1:Int)).map V.int)):=by
   rw[gP,qao.mpr (by simp),GE];refine congrArg (λz=>some (HO.lst z)) ?_;refine qaw (by simp) λi ai aw=>?_;simp
  clear gP;have iw:=az.trans b';have f7:H r=none:=eG az av;have l7:=iw _ _ bB;have mw:∀d∈cB,r≠d:=λd hd z=>by
   obtain⟨i,hi,rfl⟩:=qat hd;obtain⟨x,_,kvs,a,_⟩:=Paired.get' dg (GT hi);exact ZeB a (by rw[←z];exact f7)
  have Ka:f≠r:=dw bB f7;walk_at "rds";refine WG (gy (SqL.of (p5 (q:=f) (o:= .lst (cB.map V.ref))))) (λi ae H'=>∃(rs:List Int)(a1 a2 a3 a4 eY:Option V),ae=[some (.ref p),some (.ref f),some (.ref r),a1,a2,a3,a4,eY]∧eb cB H H'∧YZ H' cB F∧H' f=some (.lst (cB.map V.ref))∧H' r=some (.lst (rs.map V.int))∧rs.length=af.names.length∧∀(k:Nat) x,k<i→F[k]? =some x→nP af.belts x rs)
   ⟨_,_,_,_,_,_,rfl,iw.frame,dg.same iw,l7,hW,by simp,λk x aR=>absurd aR (qaH _)⟩ ?_ ?_ ?_
  ·rintro i ae H' ⟨_,_,_,_,_,_,_,_,_,h,_⟩;exact Ur h
  ·rintro i ae bF hi ⟨rs,a1,a2,a3,a4,eY,rfl,kE,jj,jS,hW,gD,hP⟩;have dv:i<cB.length:=by simpa using hi
   have gL:(cB.map V.ref).getD i .non= .ref cB[i]:=by simp[List.getD,dv]
   rw[gL];obtain⟨x,ao,kvs,hd,g_⟩:=Paired.get' jj (GT dv);have wZ:=fm dv;generalize cB[i]=d at*;obtain⟨g,H6,ea,g1⟩:=e8.tree x (qal ao);have w0:=g.rg ⟨ea,g1⟩ (nO cU);have qt:x.2.length≤60:=by
    have:=Fo.Vn (n:=af.names.length) g.nodup w0;simp[Fo.keys] at this;omega
   have h_:=cw.off kE (λy a' z=>kH y z a');walk_at "rds";refine⟨p,d,af,fp,kvs,x.2,x.1,rfl,h_,kH d wZ,hd,g_,g,qt,hsz,λe o bC ez zs cp cI o7 j_ gE=>?_⟩;have l8:eb cB H bC:=kE.trans (((qs (o:=o) hd).mono (by intro y a';rw[qab.mp a'];exact wZ)).trans cI.frame);have hU:=(jj.frz (o:=o) hd).same cI;have o5:bC f=some (.lst (cB.map V.ref)):=l8.keep _ _ bB (λz=>la f z rfl);have Kb:=mw d wZ;have gm:bC r=some (.lst (rs.map V.int)):=cI _ _ (by rw[cq Kb];exact hW);have w1:∀d'∈cB,e≠d':=λd' ih z=>by
    obtain⟨j,aJ,rfl⟩:=qat ih;obtain⟨iQ,_,gu,a,_⟩:=Paired.get' jj (GT aJ);exact ZeB a (by rw[←z];exact cp)
   have w2:r≠e:=λz=>by rw[z,cp] at hW;cases hW
   have Ct:f≠e:=λz=>by rw[z,cp] at jS;cases jS
   have qZ:H e=none:=by
    cases ee:H e with
    |none=>rfl
    |some cM=>
     by_cases z:e∈cB
     ·exact absurd rfl (w1 e z)
     ·rw[kE.keep _ _ ee z] at cp;cases cp
   have Bc:=gE.len (FM _);have iP:=j_.length;walk_at "rds";refine Rd.Zoi ?_;walk_at "rds";refine⟨e,ez,rfl,.inl o7,λhf=>?_⟩;have l6:(upd bC e (.frz hf (.dK ez))) e=some (.frz hf (.dK ez)):=Ze;have w3:∀a xs,bC a=some (.tup xs)→(upd bC e (.frz hf (.dK ez))) a=some (.tup xs):=(qs (o:=hf) (.inl o7)).tups;have Cu:=j_.keep w3;have gG:(upd bC e (.frz hf (.dK ez))) r=some (.lst (rs.map V.int)):=by rw[cq w2];exact gm
   have ta:(upd bC e (.frz hf (.dK ez))) f=some (.lst (cB.map V.ref)):=by rw[cq Ct];exact o5
   have jE:eb cB H (upd bC e (.frz hf (.dK ez))):=⟨λb y df n=>by rw[cq (λz=>by rw[z,qZ] at df;cases df)];exact l8.keep _ _ df n,λb xs df=>w3 _ _ (l8.tups _ _ df)⟩;have k9:YZ (upd bC e (.frz hf (.dK ez))) cB F:=by
    refine sE hU λd' iQ ih ⟨k,a,b⟩=>⟨k,?_,b.keep w3⟩;have:=(w1 d' ih).symm;rcases a with a|⟨cM,a⟩
    ·exact .inl (by rw[cq this];exact a)
    ·exact .inr ⟨cM,by rw[cq this];exact a⟩
   generalize upd bC e (.frz hf (.dK ez))=cj at*;refine Wl (FR l6) (λk ae H'=>H'=cj∧∃(C:Nat)(a4:Option V),ae=[some (.ref p),some (.ref f),some (.ref r),some (.ref d),some (.ref e),some (.int C),a4,eY]∧C=lcmL (zs.take k)∧C<2 ^ (6700*k+1)) ⟨rfl,1,_,rfl,rfl,by decide⟩ (λi ae H' h=>h.1▸Zf.refl cj) ?_ ?_
   ·rintro k ae c7 v dq aR ⟨rfl,C,a4,rfl,kM,tk⟩ ⟨rfl,kv,qW,rfl⟩;obtain⟨y,a',_,t,dX,cu⟩:=Paired.get' Cu qW;rw[dX];have n2:k<zs.length:=(GM.mp a').1;obtain⟨i_,hg,_⟩:=gE.pos y (qal a');have Kc:=(gE.size k y a').2;have n3:y.2.2<2 ^ 6700:=qad Kc (qau (by decide) (by omega));have Kd:zs.take (k+1)=zs.take k++ [y]:=by rw[List.take_succ,a'];rfl
    walk_at "rds";refine⟨C,y.2.2,6700*k+1,rfl,hg,qad n3 (qau (by decide) (by decide)),tk,by omega,?_⟩;rw[ZkV];refine⟨rfl,_,_,rfl,by rw[Kd,H4,kM],?_⟩;have:=A_ tk n3;have c_:6700*(k+1)+1=6700*k+1+6700:=by omega
    rw[c_];exact this
   ·rintro ae c7 ⟨rfl,C,a4,rfl,kM,tk⟩;rw[iP,qa4] at kM;walk_at "rds";refine Rd.Zjs ?_;walk_at "rds";refine⟨e,ez,rfl,.inr ⟨hf,l6⟩,λhy=>?_⟩;have wW:(upd c7 e (.frz hy (.dK ez))) e=some (.frz hy (.dK ez)):=Ze;have lZ:∀a xs,c7 a=some (.tup xs)→(upd c7 e (.frz hy (.dK ez))) a=some (.tup xs):=(qs (o:=hy) (.inr ⟨hf,l6⟩)).tups;have wX:=Cu.keep lZ;have jB:(upd c7 e (.frz hy (.dK ez))) r=some (.lst (rs.map V.int)):=by rw[cq w2];exact gG
    have Ke:(upd c7 e (.frz hy (.dK ez))) f=some (.lst (cB.map V.ref)):=by rw[cq Ct];exact ta
    have pU:eb cB H (upd c7 e (.frz hy (.dK ez))):=⟨λb y df n=>by rw[cq (λz=>by rw[z,qZ] at df;cases df)];exact jE.keep _ _ df n,λb xs df=>lZ _ _ (jE.tups _ _ df)⟩;have qN:YZ (upd c7 e (.frz hy (.dK ez))) cB F:=by
     refine sE k9 λd' iQ ih ⟨k,a,b⟩=>⟨k,?_,b.keep lZ⟩;have:=(w1 d' ih).symm;rcases a with a|⟨cM,a⟩
     ·exact .inl (by rw[cq this];exact a)
     ·exact .inr ⟨cM,by rw[cq this];exact a⟩
    generalize upd c7 e (.frz hy (.dK ez))=dq at*;have n2:zs.map (·.1)=Fo.keys x.2:=by
     have ai:=gE.keys;have aw:(Fo.keys x.2).take x.2.length=Fo.keys x.2:=qaS (by simp[Fo.keys]);rw[ai,aw]
    have w4:∀(j:Nat) y,zs[j]? =some y→y.1∈Fo.keys x.2:=λj y a'=>by rw[←n2];exact qah.mpr ⟨y,qal a',rfl⟩
    have Kf:∀(j k:Nat) y z,zs[j]? =some y→zs[k]? =some z→j≠k→y.1≠z.1:=λj k y z a' hz ne ee=>by
     have nd:(zs.map (·.1)).Nodup:=by rw[n2];exact g.nodup
     obtain⟨aJ,h7⟩:=GM.mp a';obtain⟨aR,fu⟩:=GM.mp hz;refine ne (qp nd (by simpa using aJ) (by simpa using aR) ?_);rw[qbf,qbf,h7,fu];exact ee
    refine Wl (zD (p5 (q:=e) (o:= .frz hy (.dK ez)))) (λk ae H'=>∃(rs':List Int)(iq oN:Option V),ae=[some (.ref p),some (.ref f),some (.ref r),some (.ref d),some (.ref e),some (.int C),iq,oN]∧eb cB H H'∧YZ H' cB F∧H' e=some (.frz hy (.dK ez))∧H' f=some (.lst (cB.map V.ref))∧H' r=some (.lst (rs'.map V.int))∧rs'.length=af.names.length∧ShE H' ez zs∧
     (∀(j:Nat) y,j<k→zs[j]? =some y→rs'[y.1.toNat]? =some ((C / y.2.2*y.2.1:Nat):Int))∧∀v:Int,0≤v→v∉Fo.keys x.2→rs'[v.toNat]? =rs[v.toNat]?)
     ⟨rs,_,_,rfl,pU,qN,wW,Ke,jB,gD,wX,λj y aJ=>absurd aJ (qaH _),λ_ _ _=>rfl⟩ ?_ ?_ ?_
    ·rintro k ae H' ⟨_,_,_,_,_,_,h,_⟩;exact Ur h
    ·rintro k ae ev v fG aR ⟨rs',iq,oN,rfl,o0,q0,tj,w5,kr,w6,qY,w7,w8⟩ ⟨t,kv,qW,cu,rfl,rfl⟩;obtain⟨y,a',fu,ty,dX,hG⟩:=Paired.get' qY qW;obtain⟨kC,Sa⟩:=kv;dsimp only at fu dX;subst fu dX;refine Rd.Wd (.of Ze) rfl ?_;have hV:Zf ev (upd ev t (.tup [kV (Sum.inl y.1),.ref ty])):=cP cu;have mW:=hV _ _ kr;have Sb:=hV _ _ hG;have Cv:eb cB H (upd ev t (.tup [kV (Sum.inl y.1),.ref ty])):=o0.trans hV.frame;have w9:=q0.same hV;have tl:=hV _ _ tj;have Kg:=hV _ _ w5;have Kh:ShE (upd ev t (.tup [kV (Sum.inl y.1),.ref ty])) ez zs:=qY.keep λ_ _ e=>hV _ _ e;generalize upd ev t (.tup [kV (Sum.inl y.1),.ref ty])=fG at*;have wV:kV (Sum.inl y.1)= .int y.1:=rfl;rw[wV];obtain⟨i_,hg,_⟩:=gE.pos y (qal a');obtain⟨Ki,Kj⟩:=gE.size k y a';have Sc:k<zs.length:=(GM.mp a').1;have th:y.2.1<2 ^ 6700:=qad Ki (qau (by decide) (by omega));have n3:y.2.2<2 ^ 6700:=qad Kj (qau (by decide) (by omega));have Sd:=Zf6 (a:=0) hg (qad n3 (qau (by decide) (by decide)));have lY:IntMulOk ((C:Int) / (y.2.2:Nat)) ((y.2.1:Nat):Int):=V9 (a:=C / y.2.2) (qav (qaQ _ _) tk) th (by omega);obtain⟨fM,f_⟩:=w0 y.1 (w4 k y a');walk_at "rds";have eJ:(C:Int) / ((y.2.2:Nat):Int)*((y.2.1:Nat):Int)=((C / y.2.2*y.2.1:Nat):Int):=rfl;rw[eJ];have w_:∀a xs,fG a=some (.tup xs)→(upd fG r (.lst ((rs'.map V.int).set y.1.toNat (.int ((C / y.2.2*y.2.1:Nat):Int))))) a=some (.tup xs):=λa xs cL=>by rw[cq (ha cL mW (by intro z;cases z))];exact cL
     have kG:y.1.toNat<rs'.length:=by omega
     walk_at "rds";refine⟨rs'.set y.1.toNat ((C / y.2.2*y.2.1:Nat):Int),_,_,rfl,⟨λb z df n=>by rw[cq (λc=>by rw[c,f7] at df;cases df)];exact Cv.keep _ _ df n,λb xs df=>w_ _ _ (Cv.tups _ _ df)⟩,?_,by rw[cq w2.symm];exact tl,by rw[cq Ka];exact Kg,by rw[Ze,qbY],by rw[qbS];exact w6,Kh.keep w_,λj z aJ hz=>?_,λv jM cn=>?_⟩
     ·refine sE w9 λd' iQ ih ⟨gu,a,b⟩=>⟨gu,?_,b.keep w_⟩;have:=(mw d' ih).symm;rcases a with a|⟨cM,a⟩
      ·exact .inl (by rw[cq this];exact a)
      ·exact .inr ⟨cM,by rw[cq this];exact a⟩
     ·rcases qbm.mp aJ with c|c
      ·have ne:=Kf j k z y hz a' (by omega);obtain⟨ig,_⟩:=w0 z.1 (w4 j z hz);rw[qbB (by omega)];exact w7 j z c hz
      ·subst c;rw[a'] at hz;cases hz;rw[qbr kG]
     ·have ne:v≠y.1:=λc=>cn (by rw[c];exact w4 k y a');rw[qbB (by omega)];exact w8 v jM cn
    ·rintro ae ev ⟨rs',iq,oN,rfl,o0,q0,tj,w5,kr,w6,qY,w7,w8⟩;refine⟨rs',_,_,_,_,_,rfl,o0,q0,w5,kr,w6,λk iQ aR iB=>?_⟩;rcases qbm.mp aR with c|c
     ·obtain⟨Kk,u',nG⟩:=hP k iQ c iB;refine⟨Kk,u',λy a'=>?_⟩;obtain⟨g',Se,Kl,Km⟩:=e8.tree iQ (qal iB);have sN:y.1∈Fo.keys iQ.2:=by
       have ai:=u'.keys;have aw:(Fo.keys iQ.2).take iQ.2.length=Fo.keys iQ.2:=qaS (by simp[Fo.keys]);rw[aw] at ai;rw[←ai];exact qah.mpr ⟨y,a',rfl⟩
      rw[w8 y.1 (g'.rg ⟨Kl,Km⟩ (nO cU) _ sN).1 (H3 cU e8 iB ao (by omega) _ sN)];exact nG y a'
     ·subst c;rw[ao] at iB;cases iB;refine⟨zs,gE,λy a'=>?_⟩;obtain⟨j,aJ⟩:=qba a';rw[←kM];exact w7 j y (by rw[iP];exact(GM.mp aJ).1) aJ
  ·rintro ae bF ⟨rs,a1,a2,a3,a4,eY,rfl,kE,jj,jS,hW,gD,hP⟩;walk_at "rds";refine q r bF rs f7 kE jj hW gD (λx ao=>?_);obtain⟨k,aR⟩:=qba ao;have:=(GM.mp aR).1;exact hP k x (by rw[GE,kj];exact this) aR
end
def Kn{K:Frag}{mg:Str→Option Value}(T:Tp K mg):Sp:=λvs H Q _=>∃(p c:Addr)(af:HM)(fp:List Addr)(cs:List Int),vs=[.ref p,.ref c]∧dD T H p af fp∧af.belts.length≤1000∧SqL K H c (cs.map V.int)∧ZC af.belts cs.length∧Yb af.belts∧(∀c∈cs,∃k:Nat,c=(k:Int)∧k<2 ^ 420000)∧
 ∀(r:Addr)(H':Hp),H r=none→Zf H H'→H' r=some (.lst ((af.belts.map (ib cs)).map V.int))→Q (.ref r) H'
section
variable {P:Program}{w:World}{K:Frag}{mg:Str→Option Value}{base:Heap}
theorem Ko(T:Tp K mg):OkN P w base 2 T.bP (Kn T):=by
 have gp:=T.a;have gq:=T.e;refine T.bP.F.okX Hw (λvs H Q E h=>?_) (λcS A outer s H vs Q E av h=>?_)
 ·obtain⟨p,c,af,fp,cs,rfl,_⟩:=h
  rfl
 ·have hu:=av.hu;obtain⟨p,mT,af,fp,cs,rfl,cw,hz,ax,cU,hsz,lw,q⟩:=h;refine⟨_,(cy (c9 (nw rfl (fU (x:="row") (zs:=["counts"]) (ix:=[1]) (cR vE) ["hall","counts"] rfl rfl (by decide+kernel)) (gA (K:=K) rfl (lK (pv 0) T.a T.aO (o1 T) av cW)) (λcl C s H fp=>⟨(c6 (i:=0) (show(["row","counts"]:List Str).Nodup by decide+kernel) rfl (Or.inl rfl)),gx,(cD j3 (cD gV (cv (ixk K) (pv 1) (cv (ixk K) (pv 0) aX (λ_ _=>rfl)) (λ_ _=>rfl)) (cv (ixk K) (pv 0) aX (λ_ _=>rfl))) (cD gV (cv (ixk K) (pv 1) (cv (ixk K) (pv 0) aX (λ_ _=>rfl)) (λ_ _=>rfl)) (cv (ixk K) (pv 0) aX (λ_ _=>rfl))))⟩)))),?_⟩
  try dsimp only[L2.cxX,L2.ZI,L2.Zo]
  walk_at "rds";intro u aj bs wH g9 fx dg;have h9:=dg.length;have ag:bs.length<sizeLine:=dR (by rw[h9];exact hz);walk_at "rds";refine YX (gy (SqL.of fx)) ag (λ_=>true) (λi=> .int (ib cs (af.belts.getD i dB))) (λi H' ds hi sm k=>?_) (λi H' ds hi _ sm k=>?_) (λr H' av sm jk=>?_)
  ·walk_at "rds";exact k H' (Zf.refl H')
  ·have dL:i<af.belts.length:=by omega
   obtain⟨t,e9,eg⟩:=dg.getD (i:=i) dL;rw[e9];obtain⟨cH,cX,he,js⟩:=cU.at dL;obtain⟨cz,a5,ea,fy,fC,d4,d9,dX⟩:=hsz i dL;have f9:=sm _ _ eg;unfold ib at k;generalize af.belts.getD i dB=cF at*;have Cw:∀{v:Int},0≤v→v<cs.length→cs.getD v.toNat 0∈cs:=λ{v} jM i4=>by rw[dm (by omega)];exact fm _
   obtain⟨k1,aW,l1⟩:=lw _ (Cw cH cX);obtain⟨k2,a7,l2⟩:=lw _ (Cw he js);have iz:IntMulOk (cs.getD cF.giver.toNat 0) cF.give:=by rw[aW,d9];exact V9 l1 fC (by decide)
   have ii:IntMulOk (cs.getD cF.taker.toNat 0) cF.take:=by rw[a7,dX];exact V9 l2 d4 (by decide)
   have ll:SqL K H' mT (cs.map V.int):=(g9.trans sm).seq ax;have a1:=Z1 cH cX;have a2:=Z1 he js;dsimp only[B5.v] at f9;walk_at "rds";exact k H' (Zf.refl H')
  ·refine q r H' (eG g9 av) (g9.trans sm) ?_;rw[jk,qao.mpr (by simp),h9];refine congrArg (λz=>some (HO.lst z)) ?_;refine qaw (by simp) λi ai aw=>?_;have:i<af.belts.length:=by simpa using ai
   simp[List.getD,this]
end
def Kp{K:Frag}{mg:Str→Option Value}(T:Tp K mg):Sp:=λvs H Q _=>∃(d:Addr)(kvs:List (Key×V))(aL:Fo.ZK)(W:Int→List Fo.Trip)(first w:Int),vs=[.ref d,.int w]∧L2.Rd H d (.dK kvs)∧Ent H kvs aL∧Fo.Yg W first aL∧aL.length≤60∧w∈Fo.keys aL∧
 ∀(r:Addr)(H':Hp)(hE:List V)(ps:List (Int×Bool)),H r=none→Zf H H'→H' r=some (.lst hE)→e3 H' hE ps→eT aL w ps→ps.length≤aL.length→Q (.ref r) H'
section
variable {P:Program}{w:World}{K:Frag}{mg:Str→Option Value}{base:Heap}
theorem Cy(T:Tp K mg):OkN P w base 1 T.bp (Kp T):=by
 refine T.bp.F.okX sw (λvs H Q E h=>?_) (λcS A outer s H vs Q E av h=>?_)
 ·obtain⟨d,kvs,aL,W,first,w,rfl,_⟩:=h
  rfl
 ·have hu:=av.hu;obtain⟨d,kvs,aL,W,first,w,rfl,hd,g_,aM,qt,hw,q⟩:=h;refine⟨_,(b_ (c0 (i:=2) sw.nd rfl (Or.inl rfl) (fN aK))
     (b_ (c0 (i:=3) sw.nd rfl (Or.inl rfl) (cv (UV hu) (pv 0) (pv 1) (λ_ _=>rfl)))
     (b_ (mm PassesOwn.leaving (dF t8 (pv 3) W7 (dA _)) (b_ (fL (iK (K:=K) rfl qax qaD qaE ju (pv 2) (ak (fE (ak (cv (ixk K) (pv 3) aX (λ_ _=>rfl)) (ak (cv (ixk K) (pv 3) aX (λ_ _=>rfl)) aK))) aK)))
     (cy (c0 (i:=3) sw.nd rfl (Or.inl rfl) (cv (UV hu) (pv 0) (cv (ixk K) (pv 3) aX (λ_ _=>rfl)) (λ_ _=>rfl))))))
     (b_ (fL (FD (K:=K) rfl qax PySem.F.slot_list_reverse PySem.F.type_list_reverse E1 (pv 2)))
     (cy (c9 (pv 2))))))),?_⟩
  try dsimp only[L2.cxX,L2.ZI,L2.Zo]
  walk_at "rds";refine⟨qaA _,λr f7=>?_⟩;have az:Zf H (upd H r (.lst [])):=cP f7;have hF:(upd H r (.lst [])) r=some (.lst []):=Ze;generalize upd H r (.lst [])=aj at*;obtain⟨i0,Kq,w'⟩:=Fo.V7 hw;obtain⟨jM,n1,gO⟩:=Zd7 g_ aM.nodup w';walk_at "rds";refine Rd.ZlH (qu hd az) n1 ?_;walk_at "rds";refine Uw (λm ae H'=>Zf H H'∧∃(u:Int)(st:Option Fo.Trip)(v:V)(vs:List V)(dj:List (Int×Bool)),ae=[some (.ref d),some (.int w),some (.ref r),some v]∧mJ H v st∧aL[m]? =some (u,st)∧H' r=some (.lst vs)∧e3 H' vs dj∧(∀ps,eT aL u ps→eT aL w (ps++dj.reverse))∧m+dj.length<aL.length) i0 ⟨az,w,Kq,jM,[],[],rfl,gO,w',hF,.nil,λps h=>by simpa using h,by have:=(GM.mp w').1;simpa using this⟩ ?_;rintro m ae ay ⟨b',u,st,v,vs,dj,rfl,dQ,a6,gP,d0,tm,hJ⟩;have fO:=d0.length;cases st with
  |none=>
   obtain rfl:v= .non:=dQ;walk_at "rds";refine⟨rfl,false,rfl,?_⟩;refine Zey ?_;walk_at "rds";refine⟨r,vs,rfl,rfl,gP,?_⟩;have tn:eb [r] ay (upd ay r (.lst vs.reverse)):=jH (by simp) gP (by intro _ z;cases z);have bb:Zf H (upd ay r (.lst vs.reverse)):=b'.new f7;have hW:(upd ay r (.lst vs.reverse)) r=some (.lst vs.reverse):=Ze;have Kr:=(d0.keep tn.tups).rev;generalize upd ay r (.lst vs.reverse)=bF at*;walk_at "rds";exact q r bF vs.reverse dj.reverse f7 bb hW Kr (by have:=tm [] (.root a6);simpa using this) (by rw[List.length_reverse];omega)
  |some iM=>
   obtain⟨p,b,al⟩:=iM;obtain⟨t,rfl,cu⟩:=dQ;have eg:=b' _ _ cu;have Sf:vs.length<sizeLine:=dR (by omega);obtain⟨_,j,oP,aJ,tp⟩:=aM.steps m u p b al a6;obtain⟨Ks,Kt,o9⟩:=Zd7 g_ aM.nodup tp;walk_at "rds";refine⟨rfl,true,rfl,?_⟩;refine Zex (mx ?_);walk_at "rds";refine⟨by show 2≤sizeLine;decide,λdH fx=>?_⟩;have bb:Zf ay (upd ay dH (.tup [V.int b,V.bl al])):=cP fx;have i4:(upd ay dH (.tup [V.int b,V.bl al])) dH=some (.tup [V.int b,V.bl al]):=Ze;generalize upd ay dH (.tup [V.int b,V.bl al])=bF at*;have hW:=bb _ _ gP;have f9:=bb _ _ eg;walk_at "rds";have l8:eb [r] bF (upd bF r (.lst (vs++ [V.ref dH]))):=jH (by simp) hW (by intro _ z;cases z);have cI:Zf H (upd bF r (.lst (vs++ [V.ref dH]))):=(b'.trans bb).new f7;have gm:(upd bF r (.lst (vs++ [V.ref dH]))) r=some (.lst (vs++ [V.ref dH])):=Ze;have Ku:=((d0.keep λb xs e=>bb _ _ e).keep l8.tups).snoc (x:=(b,al)) (l8.tups _ _ i4);have iU:=l8.tups _ _ f9;generalize upd bF r (.lst (vs++ [V.ref dH]))=bC at*;walk_at "rds";refine Rd.ZlH (qu hd cI) Kt ?_;walk_at "rds";refine⟨j,aJ,cI,p,oP,Ks,vs++ [.ref dH],dj++ [(b,al)],rfl,o9,tp,gm,Ku,λps h=>?_,by rw[qac];show j+(dj.length+1)<aL.length;omega⟩;have:=tm _ (.step a6 h);rw[List.reverse_append];simpa using this
end
def Kv{K:Frag}{mg:Str→Option Value}(T:Tp K mg):Sp:=λvs H Q _=>∃(a b:Addr)(xs ys:List V)(ps en:List (Int×Bool)),vs=[.ref a,.ref b]∧H a=some (.lst xs)∧H b=some (.lst ys)∧e3 H xs ps∧e3 H ys en∧
 ∀k:Nat,k≤ps.length→k≤en.length→ps.take k=en.take k→(k=ps.length∨k=en.length∨ps[k]? ≠en[k]?)→Q (.int k) H
section
variable {P:Program}{w:World}{K:Frag}{mg:Str→Option Value}{base:Heap}
theorem Kw(T:Tp K mg):OkN P w base 1 T.bQ (Kv T):=by
 refine T.bQ.F.okX vS (λvs H Q E h=>?_) (λcS A outer s H vs Q E av h=>?_)
 ·obtain⟨a,b,xs,ys,ps,en,rfl,_⟩:=h
  rfl
 ·have hu:=av.hu;obtain⟨a,b,xs,ys,ps,en,rfl,aZ,ag,f8,jw,q⟩:=h;have l1:=f8.length;have l2:=jw.length;have iH:=SqL.of (K:=K) aZ;have gc:=SqL.of (K:=K) ag;refine⟨_,(b_ (c0 (i:=2) vS.nd rfl (Or.inl rfl) aX)
     (b_ (mm PassesOwn.leaving (PW.pt (mi (dF j4 (pv 2) (dM (EC rfl) (by rfl) T.bh PyProof.Rows.boot_min (ak (dM (fj K) (by rfl) T.f qai (ak (pv 0) aK)) (ak (dM (fj K) (by rfl) T.f qai (ak (pv 1) aK)) aK))) (dA _)) (m6 (dF (gJ (K:=K) rfl hu) (cv (ixk K) (pv 0) (pv 2) (λ_ _=>rfl)) (cv (ixk K) (pv 1) (pv 2) (λ_ _=>rfl)) (dA _))))) (cy (yC (i:=2) vS.nd rfl (Or.inl rfl) aX t2)))
     (cy (c9 (pv 2))))),?_⟩
  try dsimp only[L2.cxX,L2.ZI,L2.Zo]
  walk_at "rds";refine Uw (λm ae H'=>H'=H∧∃k:Nat,ae=[some (.ref a),some (.ref b),some (.int k)]∧m=ps.length-k∧k≤ps.length∧k≤en.length∧ps.take k=en.take k) ps.length ⟨rfl,0,rfl,rfl,qaA _,qaA _,rfl⟩ ?_;rintro m ae H' ⟨rfl,k,rfl,rfl,k1,k2,aR⟩;walk_at "rds";refine Rd.ifD (λc=>?_) (λc=>?_)
  ·have dh:k<ps.length∧k<en.length:=by split at c<;>omega
   obtain⟨iN,aW,ai⟩:=Zcv f8 (GT dh.1);obtain⟨dG,a7,aw⟩:=Zcv jw (GT dh.2);have hC:atI xs (k:Int)=some (.ref iN):=gS aW;have jf:atI ys (k:Int)=some (.ref dG):=gS a7;walk_at "rds";refine Rd.Zf7 (Be ai) (Be aw) (Bf _ _) (Bf _ _) (H7 _ _) ?_;rw[ZkF];walk_at "rds";refine Rd.ifD (λdJ=>mx ?_) (λdJ=>?_)
   ·refine⟨.int k,rfl,?_⟩;walk_at "rds";refine⟨ps.length-(k+1),by omega,rfl,k+1,rfl,rfl,by omega,by omega,?_⟩;rw[qam dh.1,qam dh.2,aR]
    congr 2
    exact Prod.ext dJ.1 dJ.2
   ·walk_at "rds";refine q k k1 k2 aR (.inr (.inr λz=>dJ ?_));rw[GT dh.1,GT dh.2] at z;have fl:=qap z;exact⟨congrArg Prod.fst fl,congrArg Prod.snd fl⟩
  ·walk_at "rds";exact q k k1 k2 aR (by split at c<;>omega)
end
theorem e3.drop{H:Hp}:∀{vs:List V}{l:List (Int×Bool)}(k:Nat),e3 H vs l→e3 H (vs.drop k) (l.drop k)
 |_,_,0,h=>h
 |_,_,_+1,.nil=> .nil
 |_,_,k+1,.cons _ r=>e3.drop k r
theorem e3.app{H:Hp}:∀{vs hE:List V}{l Cz:List (Int×Bool)},e3 H vs l→e3 H hE Cz→e3 H (vs++hE) (l++Cz)
 |_,_,_,_,.nil,h=>h
 |_,_,_,_,.cons a r,h=> .cons a (e3.app r h)
theorem CA{H:Hp}{ck:List (Int×Bool)}:∀{is:List Nat}{ys:List V},Paired (λi v=>∃t,v=V.ref t∧H t=some (.tup [.int (ck.getD i (0,false)).1,.bl (!(ck.getD i (0,false)).2)])) is ys→e3 H ys (is.map λi=>((ck.getD i (0,false)).1,!(ck.getD i (0,false)).2))
 |_,_,.nil=> .nil
 |_,_,.cons a r=> .cons a (CA r)
theorem Kx(ck:List (Int×Bool)):((List.range ck.length).map λi=>((ck.getD i (0,false)).1,!(ck.getD i (0,false)).2))=ck.map λx=>(x.1,!x.2):=by
 refine qaw (by simp) λi ai aw=>?_;have hi:i<ck.length:=by simpa using aw
 simp[List.getD,hi]
theorem ZgK{xs:List V}{k:Nat}(h:k≤xs.length):iG xs (some (k:Int)) none=xs.drop k:=by
 have aW:HT.sIx xs.length 0 (some (k:Int))=k:=by
  simp only[HT.sIx];rw[if_neg (by omega)];simp;omega
 have a7:HT.sIx xs.length xs.length none=xs.length:=by simp[HT.sIx]
 unfold iG;rw[aW,a7,qaS (by rw[qa1];exact FM _)]
theorem Paired.flip{db hb:Type}{P:db→hb→Prop}:∀{xs:List db}{ys:List hb},Paired P xs ys→Paired (λy x=>P x y) ys xs
 |_,_,.nil=> .nil
 |_,_,.cons a r=> .cons a (Paired.flip r)
def Ky{K:Frag}{mg:Str→Option Value}(T:Tp K mg):Sp:=λvs H Q _=>∃(p f:Addr)(af:HM)(fp cB:List Addr)(F:List (Int×Fo.ZK))(bi:Nat),vs=[.ref p,.ref f,.int bi]∧dD T H p af fp∧H f=some (.lst (cB.map V.ref))∧YZ H cB F∧Fo.WR (fb af.belts) af.names.length F af.names.length∧af.names.length≤60∧af.belts.length≤1000∧ZC af.belts af.names.length∧bi<af.belts.length∧
 ∀(r:Addr)(H':Hp)(hE:List V)(x:Int×Fo.ZK)(pg pt:List (Int×Bool))(k:Nat),Zf H H'→H' r=some (.lst hE)→x∈F→eT x.2 (af.belts.getD bi dB).giver pg→eT x.2 (af.belts.getD bi dB).taker pt→k≤pg.length→k≤pt.length→pg.take k=pt.take k→(k=pg.length∨k=pt.length∨pg[k]? ≠pt[k]?)→e3 H' hE (kn bi pg pt k)→Q (.ref r) H'
section
variable {P:Program}{w:World}{K:Frag}{mg:Str→Option Value}{base:Heap}
theorem Kz(T:Tp K mg):OkN P w base 6 T.bR (Ky T):=by
 have gp:=T.a;have gq:=T.e;refine T.bR.F.okX nK (λvs H Q E h=>?_) (λcS A outer s H vs Q E av h=>?_)
 ·obtain⟨p,f,af,fp,cB,F,bi,rfl,_⟩:=h
  rfl
 ·have hu:=av.hu;obtain⟨p,f,af,fp,cB,F,bi,rfl,cw,bB,xa,e8,bA,hz,cU,mL,q⟩:=h;refine⟨_,(b_ (c0 (i:=3) nK.nd rfl (Or.inr rfl) (gW (pv 0) T.a T.aU (qV T) av cW (ak (pv 2) aK)))
     (b_ (c0 (i:=4) nK.nd rfl (Or.inl rfl) (cv (ixk K) (nw rfl (fU (x:="grown") (zs:=["row"]) (ix:=[3]) (cR sr) ["hall","forest","belt","row","tree","to_giver","to_taker","shared","back"] rfl rfl (by decide+kernel)) (gA (K:=K) rfl (pv 1)) (λcl C s H fp=>⟨(c6 (i:=0) (show(["grown","row"]:List Str).Nodup by decide+kernel) rfl (Or.inl rfl)),(rP (dF (zo hu) (cv (ixk K) (pv 1) aX (λ_ _=>rfl)) (pv 0) (by with_unfolding_all rfl))),(pv 0)⟩)) aX (λ_ _=>rfl)))
     (b_ (c0 (i:=5) nK.nd rfl (Or.inl rfl) (da T.bp (Cy T) av cW (ak (pv 4) (ak (cv (ixk K) (pv 3) aX (λ_ _=>rfl)) aK))))
     (b_ (c0 (i:=6) nK.nd rfl (Or.inl rfl) (da T.bp (Cy T) av cW (ak (pv 4) (ak (cv (ixk K) (pv 3) aX (λ_ _=>rfl)) aK))))
     (b_ (c0 (i:=7) nK.nd rfl (Or.inl rfl) (da T.bQ (Kw T) av cW (ak (pv 5) (ak (pv 6) aK))))
     (b_ (p8 (j:=8) (xs:=["step"]) rfl (fU (x:="step") (zs:=[]) (ix:=[]) (cR sr) ["hall","forest","belt","row","tree","to_giver","to_taker","shared","back"] rfl rfl (by decide+kernel)) (FT (K:=K) rfl rfl T.aP (ak (rH (rX (K:=K) rfl) (pv 6) (rG (pv 7)) rF) aK)) (λcl C s H fp=>⟨(c6 (i:=0) (show(["step"]:List Str).Nodup by decide+kernel) rfl (Or.inl rfl)),gx,(fE (ak (cv (ixk K) (pv 0) aX (λ_ _=>rfl)) (ak (tW (cv (ixk K) (pv 0) aX (λ_ _=>rfl))) aK)))⟩) nK.nd rfl (Or.inl rfl))
     (cy (c9 (cD (ej K) (cD (ej K) (fN (ak (fE (ak (pv 2) (ak Z2 aK))) aK)) (pv 8)) (rH (rX (K:=K) rfl) (pv 5) (rG (pv 7)) rF)))))))))),?_⟩
  try dsimp only[L2.cxX,L2.ZI,L2.Zo]
  have kj:=xa.length;have s_:F.length≤af.names.length:=by
   have ai:(F.map (·.1)).Nodup:=by
    rw[qbb,qbV];exact e8.rise.imp λh=>Int.ne_of_lt h
   have aw:∀w∈F.map (·.1),0≤w∧w<(af.names.length:Int):=λw hw=>by
    obtain⟨x,ao,rfl⟩:=qah.mp hw;exact(e8.tree x ao).2.2
   have:=Fo.Vn ai aw;simpa using this
  walk_at "rds";refine⟨p,bi,af,fp,rfl,cw,λz=>absurd ⟨by omega,by omega⟩ z,λ_ _ t b ag cu=>?_⟩;have df:af.belts.getD bi dB=b:=by
   rw[qaa] at ag;rw[List.getD,ag]
   rfl
  obtain⟨b1,b2,b3,b4⟩:=cU.at mL;rw[df] at b1 b2 b3 b4 q;have jc:H t=some (.tup [.int b.giver,.int b.taker,.int b.give,.int b.take,.int b.start]):=cu;walk_at "rds";refine YX (gy (SqL.of bB)) (dR (by rw[GE];omega)) (λi=>decide (b.giver∈Fo.keys (F.getD i (0,[])).2)) (λi=>(cB.map V.ref).getD i .non) (λi H' ds hi sm k=>?_) (λi H' ds hi _ sm k=>?_) (λg bC aM cI xb=>?_)
  ·have dL:i<cB.length:=by simpa using hi
   obtain⟨x,ao,kvs,mw,g_⟩:=Paired.get' xa (GT dL);have aW:(cB.map V.ref).getD i .non= .ref cB[i]:=by simp[List.getD,dL]
   rw[aW];have a7:F.getD i (0,[])=x:=by rw[List.getD,ao];rfl
   rw[a7] at k;have eg:=sm _ _ jc;have c_:(valV kvs (Sum.inl b.giver)).isSome=decide (b.giver∈Fo.keys x.2):=by
    rw[qbn,g_.some,decide_eq_true_iff]
   walk_at "rds";refine Rd.ZoT (qu mw sm) ?_;rw[c_];walk_at "rds";exact k _ (Zf.refl _)
  ·walk_at "rds";exact k _ (Zf.refl _)
  ·obtain⟨x0,xc,sc⟩:=e8.all b.giver b1 b2;obtain⟨q1,o_⟩:=qba xc;obtain⟨j,x,aJ,td,i3⟩:∃(j:Nat)(x:Int×Fo.ZK),F[j]? =some x∧b.giver∈Fo.keys x.2∧atI (((List.range (cB.map V.ref).length).filter λi=>decide (b.giver∈Fo.keys (F.getD i (0,[])).2)).map λi=>(cB.map V.ref).getD i .non) 0=some ((cB.map V.ref).getD j .non):=by
    have Sg:=(GM.mp o_).1;have a6:q1∈(List.range (cB.map V.ref).length).filter λi=>decide (b.giver∈Fo.keys (F.getD i (0,[])).2):=by
     rw[qaY,qaL,GE];exact⟨by omega,by rw[List.getD,o_];simpa using sc⟩
    cases e6:(List.range (cB.map V.ref).length).filter λi=>decide (b.giver∈Fo.keys (F.getD i (0,[])).2) with
    |nil=>rw[e6] at a6;cases a6
    |cons j rest=>
     have CB:j∈(List.range (cB.map V.ref).length).filter λi=>decide (b.giver∈Fo.keys (F.getD i (0,[])).2):=by rw[e6];exact qaZ
     rw[qaY,qaL,GE] at CB;have hL:j<F.length:=by omega
     have aR:=of_decide_eq_true CB.2;rw[dm hL] at aR;exact⟨j,F[j],GT hL,aR,gS (j:=0) rfl⟩
   have hL:j<cB.length:=by have:=(GM.mp aJ).1;omega
   have CC:=qal aJ;obtain⟨d,hd,kvs,mw,g_⟩:=Paired.get' (P:=λ(x:Int×Fo.ZK) d=>∃kvs,L2.Rd H d (.dK kvs)∧Ent H kvs x.2) (Paired.flip xa) aJ;have kt:(cB.map V.ref).getD j .non= .ref d:=by simp[List.getD,hd]
   rw[kt] at i3;refine Rd.Znc (SqL.of xb) i3 ?_;have iU:=cI _ _ jc;obtain⟨tq,je,x0,x1⟩:=e8.tree x CC;have tr:x.2.length≤60:=by
    have:=Fo.Vn tq.nodup (tq.rg ⟨x0,x1⟩ (nO cU));simp[Fo.keys] at this;omega
   have j5:b.taker∈Fo.keys x.2:=by
    obtain⟨i,st,hi⟩:=Fo.V7 td;have dL:=(GM.mp hi).1;have hw:(b.taker,(bi:Int),true)∈fb af.belts b.giver:=sB mL (Y4.mpr (.inl ⟨by rw[df],by rw[df]⟩));exact je i _ st dL hi _ hw
   walk_at "rds";refine⟨d,kvs,x.2,fb af.belts,x.1,b.giver,rfl,qu mw cI,g_.keep λc xs e=>cI _ _ e,tq,tr,td,?_⟩;intro ey cj l9 pg mR cK oZ hPa tm hpal;have ts:=cI.trans cK;have o3:=ts _ _ jc;walk_at "rds";refine⟨d,kvs,x.2,fb af.belts,x.1,b.taker,rfl,qu mw ts,g_.keep λc xs e=>ts _ _ e,tq,tr,j5,?_⟩;intro KA c7 l_ pt sZ dn CD xf hpatb hpbl;have CF:=ts.trans dn;have s2:=dn _ _ oZ;have CG:=hPa.keep λc xs e=>dn _ _ e;walk_at "rds";refine⟨ey,KA,l9,l_,pg,pt,rfl,s2,CD,CG,xf,?_⟩;intro k k1 k2 aR hk3;have KC:=SqL.of (K:=K) s2;have CH:=SqL.of (K:=K) CD;have xg:=xf.length;have Sh:=hPa.length;walk_at "rds";refine Rd.ZoG ?_;walk_at "rds";refine Rd.slL CH ?_;intro q2 hrc;rw[ZgK (by omega)];have dW:Zf c7 (upd c7 q2 (.lst (l_.drop k))):=cP hrc;have CI:(upd c7 q2 (.lst (l_.drop k))) q2=some (.lst (l_.drop k)):=Ze;generalize upd c7 q2 (.lst (l_.drop k))=dq at*;have KD:=((xf.keep λc xs e=>dW _ _ e).drop k).rev;have gD:(l_.drop k).length=((pt.drop k).reverse).length:=by simp[xg]
   have CJ:=CF.trans dW;walk_at "rds";refine⟨q2,l_.drop k,rfl,SqL.of CI,?_⟩;refine Yf (own:=1) (FU (SqL.of CI)).y (dR (by rw[qa1];omega)) (λi=>[some ((l_.drop k).reverse.getD i .non)]) (λ_=>rfl) (λ_=>true) (λi v H=>∃t,v=V.ref t∧H t=some (.tup [.int ((pt.drop k).reverse.getD i (0,false)).1,.bl (!((pt.drop k).reverse.getD i (0,false)).2)])) (λ_ _ _ _ e ⟨t,fk,e0⟩=>⟨t,fk,e _ _ e0⟩) (λi du H' v ay gX hi sm y e' k=>?_) (λi H' ds hi sm k=>?_) (λic i H' ds hi ax hp0 f8 sm kC=>?_) (λSi ev ys jk sm fi c1=>?_)
   ·obtain⟨rfl,rfl⟩:=y;obtain⟨x1,rfl⟩:∃x1,du=[x1]:=by
     match du,e' with
     | [x1],_=>exact⟨x1,rfl⟩
    walk_at "rds";exact k _ (Zf.refl _)
   ·walk_at "rds";exact k H' (Zf.refl H')
   ·have dv:i<((pt.drop k).reverse).length:=by omega
    obtain⟨u,fx,gM⟩:=Zcv KD (GT dv);have aW:(l_.drop k).reverse.getD i .non= .ref u:=by rw[List.getD,fx];rfl
    rw[aW];rw[dm dv] at kC;have hD:=sm _ _ gM;generalize ((pt.drop k).reverse)[i]=y at*;walk_at "rds";refine⟨by show 2≤sizeLine;decide,λmf fw=>?_⟩;exact kC _ _ (cP fw) ⟨mf,rfl,u8 f8 fw⟩
   ·have CK:=CA c1;rw[qao.mpr (by simp),gD,Kx] at CK;have CL:=CK.keep (H':=ev) λc xs e=>kd _ _ e;have nD:=CL.length;have n5:=dW.trans sm;have KE:=n5.seq KC;have KG:=CG.keep λc xs e=>n5 _ _ e;have q3:=CF.trans n5;walk_at "rds";refine⟨by show 2≤sizeLine;decide,λdH fx=>?_⟩;have fR:Zf ev (upd ev dH (.tup [V.int bi,V.bl true])):=cP fx;have KH:(upd ev dH (.tup [V.int bi,V.bl true])) dH=some (.tup [V.int bi,V.bl true]):=Ze;generalize upd ev dH (.tup [V.int bi,V.bl true])=fG at*;walk_at "rds";intro eU gM;have io:Zf fG (upd fG eU (.lst [V.ref dH])):=cP gM;have KI:(upd fG eU (.lst [V.ref dH])) eU=some (.lst [V.ref dH]):=Ze;generalize upd fG eU (.lst [V.ref dH])=ip at*;have o':=io _ _ (fR _ _ fi);have Sj:ys.length≤60:=by rw[nD,GE,List.length_reverse,qa1];omega
    walk_at "rds";refine Rd.Zar KI o' (qaX (dR (by simp;omega))) ?_;intro fJ hD;have kL:Zf ip (upd ip fJ (.lst ([V.ref dH]++ys))):=cP hD;have KJ:(upd ip fJ (.lst ([V.ref dH]++ys))) fJ=some (.lst ([V.ref dH]++ys)):=Ze;generalize upd ip fJ (.lst ([V.ref dH]++ys))=nv at*;have CM:=(fR.trans io).trans kL;have KL:=CM.seq KE;walk_at "rds";refine Rd.slL KL ?_;intro jl iV;rw[ZgK (by omega)];have iw:Zf nv (upd nv jl (.lst (l9.drop k))):=cP iV;have KN:(upd nv jl (.lst (l9.drop k))) jl=some (.lst (l9.drop k)):=Ze;generalize upd nv jl (.lst (l9.drop k))=H12 at*;have KO:=iw _ _ KJ;walk_at "rds";refine Rd.Zar KO KN (qaX (dR (by simp;omega))) ?_;intro q4 n6;have ji:Zf H12 (upd H12 q4 (.lst ([V.ref dH]++ys++l9.drop k))):=cP n6;have KP:(upd H12 q4 (.lst ([V.ref dH]++ys++l9.drop k))) q4=some (.lst ([V.ref dH]++ys++l9.drop k)):=Ze;generalize upd H12 q4 (.lst ([V.ref dH]++ys++l9.drop k))=H13 at*;have xh:=(CM.trans iw).trans ji;have KQ:=((io.trans kL).trans iw).trans ji;walk_at "rds";refine q q4 H13 _ x pg pt k (q3.trans xh) KP CC tm hpatb k1 k2 aR hk3 ?_;exact e3.app (e3.app (.cons ⟨dH,rfl,KQ _ _ KH⟩ .nil) (CL.keep λc xs e=>xh _ _ e)) ((KG.keep λc xs e=>xh _ _ e).drop k)
end
def KR{K:Frag}{mg:Str→Option Value}(T:Tp K mg):Sp:=λvs H Q _=>∃(p:Addr)(af:HM)(fp:List Addr),vs=[.ref p]∧dD T H p af fp∧af.names.length≤60∧af.belts.length≤1000∧ZC af.belts af.names.length∧Yb af.belts∧
 (∀(t r:Addr)(H':Hp)(rs:List Int)(F:List (Int×Fo.ZK)),Zf H H'→H r=none→H' t=some (.tup [.ref r,.non])→H' r=some (.lst (rs.map V.int))→rs.length=af.names.length→Fo.WR (fb af.belts) af.names.length F af.names.length→(∀x∈F,nP af.belts x rs)→(∀j<af.belts.length,ib rs (af.belts.getD j dB)=0)→Q (.ref t) H')∧
 (∀(t r:Addr)(H':Hp)(hE:List V)(ring:List (Int×Bool)),Zf H H'→H' t=some (.tup [.non,.ref r])→H' r=some (.lst hE)→e3 H' hE ring→kT af.belts ring→Q (.ref t) H')
section
variable {P:Program}{w:World}{K:Frag}{mg:Str→Option Value}{base:Heap}
theorem KS(T:Tp K mg):OkN P w base 8 T.bS (KR T):=by
 refine T.bS.F.okX qn (λvs H Q E h=>?_) (λcS A outer s H vs Q E av h=>?_)
 ·obtain⟨p,af,fp,rfl,_⟩:=h
  rfl
 ·have hu:=av.hu;obtain⟨p,af,fp,rfl,cw,bA,hz,cU,hsz,q,cT⟩:=h;refine⟨_,(b_ (c0 (i:=1) qn.nd rfl (Or.inl rfl) (da T.bI (Jy T) av cW (ak (pv 0) aK)))
     (b_ (c0 (i:=2) qn.nd rfl (Or.inl rfl) (da T.bO (J' T) av cW (ak (pv 0) (ak (pv 1) aK))))
     (b_ (gs PassesOwn.leaving rfl (mB (K:=K) rfl rfl T.h (ak (da T.bP (Ko T) av cW (ak (pv 0) (ak (pv 2) aK))) aK)) (gK (K:=K) (n:=2) rfl rfl (d8 (c6 (i:=3) qn.nd rfl (Or.inl rfl)) (d8 (c6 (i:=4) qn.nd rfl (Or.inl rfl)) gI))) (cy (ec (dF (ke (K:=K) rfl hu) (pv 4) aX (dA _)) (cy (c9 (fE (ak W7 (ak (da T.bR (Kz T) av cW (ak (pv 0) (ak (pv 1) (ak (pv 3) aK)))) aK))))) el)))
     (cy (c9 (fE (ak (pv 2) (ak W7 aK)))))))),?_⟩
  try dsimp only[L2.cxX,L2.ZI,L2.Zo]
  walk_at "rds";refine⟨p,af,fp,rfl,cw,bA,hz,cU,λf cB aj F Ch az j' oj e8 s_=>?_⟩;have hX:=cw.same az;have kH:∀d∈cB,d∉fp:=λd hd y=>cw.dom d y (oj d hd);have la:∀d∈cB,d≠f:=λd hd y=>by
   obtain⟨i,hi,e⟩:=qat hd;obtain⟨x,_,kvs,a,_⟩:=Paired.get' j'.trees (GT hi);rw[e,y,j'.at_] at a;cases a
  walk_at "rds";refine⟨p,f,af,fp,cB,F,rfl,hX,j'.at_,j'.trees.r,kH,la,e8,cU,bA,hsz,λr ay rs f7 tn iu gP gD hP=>?_⟩;have b':Zf H ay:=λb o e=>tn.keep _ _ (az _ _ e) (λy=>by have:=oj b y;rw[e] at this;cases this);have l7:=tn.keep _ _ j'.at_ (λy=>la f y rfl);have fI:=cw.same b';have n7:H r=none:=eG az f7;have xj:=ZfM cU bA e8 gD hP;walk_at "rds";refine⟨p,r,af,fp,rs,rfl,fI,hz,.of gP,by rw[gD];exact cU,hsz,λc ax=>(by obtain⟨k,a,_,b⟩:=xj.pos c ax;exact⟨k,a,b⟩),λc bF l3 bb iW=>?_⟩;have hW:=bb _ _ gP;have jS:=bb _ _ l7;have jj:=iu.same bb;have xk:=b'.trans bb;walk_at "rds";refine Wl (mD (SqL.of iW)) (λi ae H'=>Zf bF H'∧(∀j<i,ib rs (af.belts.getD j dB)=0)∧∃a1 a2,ae=[some (.ref p),some (.ref f),some (.ref r),a1,a2]) ⟨Zf.refl bF,λj aJ=>absurd aJ (qaH _),_,_,rfl⟩ (λi ae H' h=>h.1) ?_ ?_
  ·rintro i ae bC v cj hi ⟨cI,hk,a1,a2,rfl⟩ ⟨t,cu,rfl,rfl⟩;have dL:i<af.belts.length:=by simpa using hi
   have gL:((af.belts.map (ib rs)).map V.int).getD i .non= .int (ib rs (af.belts.getD i dB)):=by
    rw[dm dL];simp[List.getD,dL]
   rw[gL];refine Rd.Wd (.of Ze) rfl ?_;have cK:Zf bC (upd bC t (.tup [V.int i,V.int (ib rs (af.belts.getD i dB))])):=cP cu;generalize upd bC t (.tup [V.int i,V.int (ib rs (af.belts.getD i dB))])=cj at*;walk_at "rds";refine Vi (λc=>?_) (λc=>?_)
   ·have tt:=cI.trans cK;walk_at "rds";refine⟨p,f,af,fp,cB,F,i,rfl,cw.same (xk.trans tt),tt _ _ jS,jj.same tt,e8,bA,hz,cU,dL,?_⟩;intro dt c7 hE x pg pt k dn lU ao aS cG k1 k2 aR hk3 d0;walk_at "rds";refine⟨by show 2≤sizeLine;decide,λt' jc=>?_⟩;exact cT t' dt _ hE _ (((xk.trans tt).trans dn).trans (cP jc)) Ze (cP jc _ _ lU) (d0.keep λb xs e=>cP jc _ _ e) (Ib cU hsz e8 hP dL (by simpa using c) ao aS cG aR hk3)
   ·walk_at "rds";refine⟨cI.trans cK,λj aJ=>?_,_,_,rfl⟩;rcases qbm.mp aJ with z|z
    ·exact hk j z
    ·rw[z];simpa using c
  ·rintro ae bC ⟨cI,hk,a1,a2,rfl⟩;have gm:=cI _ _ hW;walk_at "rds";refine⟨by show 2≤sizeLine;decide,λt cu=>?_⟩;exact q t r _ rs F ((xk.trans cI).trans (cP cu)) n7 Ze (cP cu _ _ gm) gD e8 hP (λj aJ=>hk j (by simpa using aJ))
end
def KU{K:Frag}{mg:Str→Option Value}(T:Tp K mg):Sp:=λvs H Q E=>∃(p:Addr)(af:HM)(fp:List Addr),vs=[.ref p]∧dD T H p af fp∧af.names.length≤60∧af.belts.length≤1000∧ZC af.belts af.names.length∧Yb af.belts∧
 (∀(r:Addr)(H':Hp)(rs:List Int),Zf H H'→H r=none→H' r=some (.lst (rs.map V.int))→Rts af.belts af.names.length (λ_=>1) rs→(rs.sum≤400→Q (.ref r) H')∧(400<rs.sum→E (.ref T.j) none H'))∧
 (∀(ring:List (Int×Bool))(H':Hp),Zf H H'→kT af.belts ring→E (.ref T.g) none H')
section
variable {P:Program}{w:World}{K:Frag}{mg:Str→Option Value}{base:Heap}
theorem CN(T:Tp K mg):OkN P w base 9 T.bq (KU T):=by
 refine T.bq.F.okX A0 (λvs H Q E h=>?_) (λcS A outer s H vs Q E av h=>?_)
 ·obtain⟨p,af,fp,rfl,_⟩:=h
  rfl
 ·have hu:=av.hu;obtain⟨p,af,fp,rfl,cw,bA,hz,cU,hsz,q,fY⟩:=h;refine⟨_,(b_ (c0 (i:=1) A0.nd rfl (Or.inl rfl) (cv (ixk K) (da T.bS (KS T) av cW (ak (pv 0) aK)) aX (λ_ _=>rfl)))
     (b_ (ec (dF t7 (pv 1) W7 (dA _)) (cy (jI T.w.g T.w.e qay rfl (ak Y1 aK))) el)
     (b_ (ec (dF og (dM (zm (K:=K) rfl rfl) (by rfl) T.bj PyProof.Rows.boot_sum (ak (pv 1) aK)) (m5 (v:= .int 400) rfl T.ar ⟨_,rfl⟩) (dA _)) (cy (jI T.N.g T.N.e qay rfl (ak Y1 aK))) el)
     (cy (c9 (pv 1)))))),?_⟩
  try dsimp only[L2.cxX,L2.ZI,L2.Zo]
  walk_at "rds";refine⟨p,af,fp,rfl,cw,bA,hz,cU,hsz,λt r H' rs F az av cu hF gD e8 hP hk=>?_,λt r H' hE ring az cu hF hpc hok=>?_⟩
  ·have xj:=ZfM cU bA e8 gD hP;have c1:Rts af.belts af.names.length (λ_=>1) rs:=⟨gD,λc ax=>(by obtain⟨k,a,b,_⟩:=xj.pos c ax;omega),λb ag=>(by
    obtain⟨i,hi,e⟩:=qat ag;have:=hk i hi;rw[dm hi,e] at this;unfold ib at this;rw[qbR b.give,qbR b.take];omega),F,e8,hP⟩
   obtain⟨cA,cT⟩:=q r H' rs az av hF c1;walk_at "rds";refine⟨rfl,?_⟩;walk_at "rds";refine Rd.Zn1 (.of hF) ?_;walk_at "rds";refine Vi (λc=>?_) (λc=>?_)
   ·walk_at "rds";exact cT (by have:=of_decide_eq_true c;omega)
   ·walk_at "rds";exact cA (by
     by_cases y:400<rs.sum
     ·exact absurd (decide_eq_true y) c
     ·omega)
  ·walk_at "rds";refine⟨rfl,?_⟩;walk_at "rds";exact fY ring _ az hok
end
def KW{K:Frag}{mg:Str→Option Value}(T:Tp K mg):Sp:=λvs H Q _=>∃(p:Addr)(af:HM)(fp:List Addr),vs=[.ref p]∧dD T H p af fp∧af.belts.length≤1000∧
 ∀(r:Addr)(H':Hp),H r=none→Zf H H'→H' r=some (.lst ((startsL af.belts).map V.int))→Q (.ref r) H'
section
variable {P:Program}{w:World}{K:Frag}{mg:Str→Option Value}{base:Heap}
theorem CO(T:Tp K mg):OkN P w base 2 T.br (KW T):=by
 have gp:=T.a;have gq:=T.e;refine T.br.F.okX Hx (λvs H Q E h=>?_) (λcS A outer s H vs Q E av h=>?_)
 ·obtain⟨p,af,fp,rfl,_⟩:=h
  rfl
 ·have hu:=av.hu;obtain⟨p,af,fp,rfl,cw,hz,q⟩:=h;refine⟨_,(cy (c9 (nw rfl (fU (x:="row") (zs:=[]) (ix:=[]) (cR vF) ["hall"] rfl rfl (by decide+kernel)) (gA (K:=K) rfl (lK (pv 0) T.a T.aO (o1 T) av cW)) (λcl C s H fp=>⟨(c6 (i:=0) (show(["row"]:List Str).Nodup by decide+kernel) rfl (Or.inl rfl)),gx,(cv (ixk K) (pv 0) aX (λ_ _=>rfl))⟩)))),?_⟩
  try dsimp only[L2.cxX,L2.ZI,L2.Zo]
  walk_at "rds";intro u aj bs wH g9 fx dg;have h9:=dg.length;have ag:bs.length<sizeLine:=dR (by rw[h9];exact hz);walk_at "rds";refine YX (gy (SqL.of fx)) ag (λ_=>true) (λi=> .int (af.belts.getD i dB).start) (λi H' ds hi sm k=>?_) (λi H' ds hi _ sm k=>?_) (λr H' av sm jk=>?_)
  ·walk_at "rds";exact k H' (Zf.refl H')
  ·have dL:i<af.belts.length:=by omega
   obtain⟨t,e9,eg⟩:=dg.getD (i:=i) dL;rw[e9];have f9:=sm _ _ eg;generalize af.belts.getD i dB=cF at*;dsimp only[B5.v] at f9;walk_at "rds";exact k H' (Zf.refl H')
  ·refine q r H' (eG g9 av) (g9.trans sm) ?_;rw[jk,qao.mpr (by simp),h9];unfold startsL;refine congrArg (λz=>some (HO.lst z)) ?_;refine qaw (by simp) λi ai aw=>?_;have:i<af.belts.length:=by simpa using ai
   simp[List.getD,this]
end
def KX{K:Frag}{mg:Str→Option Value}(T:Tp K mg):Sp:=λvs H Q _=>∃(a b:Addr)(hs:List Int)(l:List (Int×Int))(xs:List V),vs=[.ref a,.ref b]∧SqL K H a (hs.map V.int)∧SqL K H b xs∧Vp H l xs∧(∀x∈l,0≤x.1∧x.1<hs.length)∧l.length≤1000∧∀H',Zf H H'→Q (.bl (qx hs l)) H'
section
variable {P:Program}{w:World}{K:Frag}{mg:Str→Option Value}{base:Heap}
theorem CP(T:Tp K mg):OkN P w base 1 T.bs (KX T):=by
 refine T.bs.F.okX Hy (λvs H Q E h=>?_) (λcS A outer s H vs Q E av h=>?_)
 ·obtain⟨a,b,hs,l,xs,rfl,_⟩:=h
  rfl
 ·have hu:=av.hu;obtain⟨a,b,hs,l,xs,rfl,aZ,ag,aS,av,hz,q⟩:=h;have tr:l.length=xs.length:=Paired.length aS;refine⟨_,(cy (c9 (dM (u5 (K:=K) rfl rfl) (by rfl) T.a0 PyProof.Rows.boot_all (ak (kg (xs:=["belt","take"]) rfl (fU (x:="belt") (zs:=["heaps"]) (ix:=[0]) (cR vG) ["heaps","takes"] rfl rfl (by decide+kernel)) (gA (K:=K) rfl (pv 1)) (λcl C s H fp=>⟨(gK (K:=K) (n:=2) rfl rfl (d8 (c6 (i:=0) (show(["belt","take","heaps"]:List Str).Nodup by decide+kernel) rfl (Or.inl rfl)) (d8 (c6 (i:=1) (show(["belt","take","heaps"]:List Str).Nodup by decide+kernel) rfl (Or.inl rfl)) gI))),gx,(lu oh (cv (ixk K) (pv 2) (pv 0) (λ_ _=>rfl)) (pv 1) (dA _))⟩)) aK)))),?_⟩
  try dsimp only[L2.cxX,L2.ZI,L2.Zo]
  walk_at "rds";refine Yf (own:=2) (gy ag).y (dR (by omega)) (λi=>[some (.int (l.getD i (0,0)).1),some (.int (l.getD i (0,0)).2)]) (λ_=>rfl) (λ_=>true) (λi v _=>v= .bl (decide ((l.getD i (0,0)).2≤hs.getD (l.getD i (0,0)).1.toNat 0))) (λ_ _ _ _ _ z=>z) (λi du H' v ay gX hi sm y e' k=>?_) (λi H' ds hi sm k=>?_) (λic i H' ds hi ax hp0 f8 sm k=>?_) (λr H' ys jk sm fi c1=>?_)
  ·obtain⟨rfl,rfl⟩:=y;obtain⟨x1,x2,rfl⟩:∃x1 x2,du=[x1,x2]:=by
    match du,e' with
    | [x1,x2],_=>exact⟨x1,x2,rfl⟩
   obtain⟨v,cn,t,rfl,cu⟩:=Paired.get aS (GT (show i<l.length by omega));have df:xs.getD i .non= .ref t:=by simp[List.getD,cn]
   have ia:l.getD i (0,0)=l[i]:=by simp[List.getD,show i<l.length by omega]
   rw[df];rw[ia] at k;refine Rd.Wd (.of (sm _ _ cu)) rfl ?_;walk_at "rds";exact k _ (Zf.refl _)
  ·walk_at "rds";exact k H' (Zf.refl H')
  ·have ia:l.getD i (0,0)=l[i]:=by simp[List.getD,show i<l.length by omega]
   obtain⟨pN,cH⟩:=av _ (fm (show i<l.length by omega));rw[ia] at k⊢;generalize l[i]=x at*;have Sk:=sm.seq aZ;have hC:=Z1 pN cH;walk_at "rds";exact k _ H' (Zf.refl H') rfl
  ·have e:ys=(l.map λx=>decide (x.2≤hs.getD x.1.toNat 0)).map V.bl:=by
    rw[r0 (R:=λi v _=>v=V.bl (decide ((l.getD i (0,0)).2≤hs.getD (l.getD i (0,0)).1.toNat 0))) (H:=H') (r:=λi=>V.bl (decide ((l.getD i (0,0)).2≤hs.getD (l.getD i (0,0)).1.toNat 0))) (λ_ _ z=>z) c1,qao.mpr (by simp),←tr];refine qaw (by simp) λi ai aw=>?_;have hi:i<l.length:=by simpa using ai
    have ia:l.getD i (0,0)=l[i]:=by simp[List.getD,hi]
    rw[qbf,qbf,qbf,List.getElem_range,ia]
   rw[e] at fi;walk_at "rds";have a7:(l.map λx=>decide (x.2≤hs.getD x.1.toNat 0)).all id=qx hs l:=by rw[List.all_map];rfl
   rw[a7];exact q H' sm
end
def KY{K:Frag}{mg:Str→Option Value}(T:Tp K mg):Sp:=λvs H Q E=>∃(p s:Addr)(ls:List B5)(rs st:List Int),vs=[.ref p,.ref s]∧kX T H p ls rs∧SqL K H s (st.map V.int)∧st.length=ls.length∧ZC ls rs.length∧ls.length≤1000∧rs.length≤1000∧(∀r∈rs,1≤r)∧tot rs≤1000∧
 ∀(r:Addr)(H':Hp)(ck:List Nat)(d:Nat→Nat),H r=none→Zf H H'→H' r=some (.lst (ck.map λw:Nat=>V.int w))→Fire.Yq (hB ls st rs) (λ_=>0) ck d→(∀w,¬fA ls st rs d w)→Q (.ref r) H'
section
variable {P:Program}{w:World}{K:Frag}{mg:Str→Option Value}{base:Heap}
theorem KZ(T:Tp K mg):OkM P w mg base 2 T.bT (KY T):=by
 have q5:=T.i;have q6:=T.p;refine T.bT.F.okX kk (λvs H Q E h=>?_) (λcS A outer s H vs Q E av h=>?_)
 ·obtain⟨p,s,ls,rs,st,rfl,_⟩:=h
  rfl
 ·have hu:=av.hu;obtain⟨p,s,ls,rs,st,rfl,ax,hs,ei,cU,hz,bA,eA,l',q⟩:=h;obtain⟨aY,a,b,c,nR,e,cN,lR,g5,bs,ai,aw,cC,c3,eE,dS,jd,kY,oR,iS⟩:=id ax;have K0:∀v<rs.length,1≤ew rs v:=λv cn=>by
   have:=eA rs[v] (fm cn);simp only[ew,List.getD,GT cn,Option.getD_some];omega
  refine⟨_,(b_ (c0 (i:=2) kk.nd rfl (Or.inr rfl) (nh (ov (K:=K) rfl) (by rfl) T.q qaM (ak (pv 1) aK)))
     (b_ (c0 (i:=3) kk.nd rfl (Or.inl rfl) (nh (ov (K:=K) rfl) (by rfl) T.q qaM (ak (gd (K:=K) rfl (pv 0) rfl) aK)))
     (b_ (p8 (j:=4) (xs:=["takes"]) rfl (fU (x:="takes") (zs:=["heaps"]) (ix:=[2]) (cR vH) ["self","starts","heaps","left","able","row","work","belt","take","give","other"] rfl rfl (by decide+kernel)) (gA (K:=K) rfl (gd (K:=K) rfl (pv 0) rfl)) (λcl C s H fp=>⟨(c6 (i:=0) (show(["takes","heaps"]:List Str).Nodup by decide+kernel) rfl (Or.inl rfl)),gx,(da T.bs (CP T) av WH (ak (pv 1) (ak (pv 0) aK)))⟩) kk.nd rfl (Or.inl rfl))
     (b_ (c0 (i:=5) kk.nd rfl (Or.inl rfl) (fN aK))
     (b_ (mm PassesOwn.leaving (dF (FC (K:=K) rfl) Z2 (pv 4) (by with_unfolding_all rfl)) (b_ (c0 (i:=6) kk.nd rfl (Or.inl rfl) (iK (K:=K) rfl qax PySem.F.slot_list_index PySem.F.type_list_index F5 (pv 4) (ak Z2 aK)))
     (b_ (fL (iK (K:=K) rfl qax qaD qaE ju (pv 5) (ak (pv 6) aK)))
     (b_ (t0 (pv 3) (pv 6) (u_ (K:=K) rfl) aX yE mu)
     (b_ (gs PassesOwn.leaving rfl (gA (K:=K) rfl (cv (ixk K) (gd (K:=K) rfl (pv 0) rfl) (pv 6) (λ_ _=>rfl))) (gK (K:=K) (n:=2) rfl rfl (d8 (c6 (i:=7) kk.nd rfl (Or.inl rfl)) (d8 (c6 (i:=8) kk.nd rfl (Or.inl rfl)) gI))) (cy (t0 (pv 2) (pv 7) (u_ (K:=K) rfl) (pv 8) yE mu)))
     (b_ (gs PassesOwn.leaving rfl (gA (K:=K) rfl (cv (ixk K) (gd (K:=K) rfl (pv 0) rfl) (pv 6) (λ_ _=>rfl))) (gK (K:=K) (n:=2) rfl rfl (d8 (c6 (i:=7) kk.nd rfl (Or.inl rfl)) (d8 (c6 (i:=9) kk.nd rfl (Or.inl rfl)) gI))) (cy (t0 (pv 2) (pv 7) (u_ (K:=K) rfl) (pv 9) t2 mu)))
     (cy (gs PassesOwn.leaving rfl (gA (K:=K) rfl (cv (ixk K) (gd (K:=K) rfl (pv 0) rfl) (pv 6) (λ_ _=>rfl))) (c6 (i:=10) kk.nd rfl (Or.inl rfl)) (cy (iA (ml (lu og (cv (ixk K) (pv 3) (pv 10) (λ_ _=>rfl)) aX (dA _)) (mj (da T.bs (CP T) av cW (ak (pv 2) (ak (cv (ixk K) (gd (K:=K) rfl (pv 0) rfl) (pv 10) (λ_ _=>rfl)) aK))))) (kA (pv 4) (pv 10) mu)))))))))))
     (cy (c9 (pv 5)))))))),?_⟩
  try dsimp only[L2.cxX,L2.ZI,L2.Zo]
  walk_at "rds";refine Rd.UW hs (λh xl=>?_);have az:Zf H (upd H h (.lst (st.map V.int))):=cP xl;have hX:(upd H h (.lst (st.map V.int))) h=some (.lst (st.map V.int)):=Ze;generalize upd H h (.lst (st.map V.int))=aj at*;have g1:=az _ _ ai;have g2:=az _ _ aw;walk_at "rds";refine Rd.UW (.of g2) (λl g4=>?_);have b':Zf aj (upd aj l (.lst (rs.map V.int))):=cP g4;have hH:(upd aj l (.lst (rs.map V.int))) l=some (.lst (rs.map V.int)):=Ze;generalize upd aj l (.lst (rs.map V.int))=ay at*;have fI:=b' _ _ hX;have K1:H l=none:=eG az g4;have jh:=az.trans b';have k1:=jh _ _ ai;have k5:=jh _ _ eE;have fh:gF ls st (λ_=>0)=st:=by
   refine qaw (by rw[hR ei,ei]) λj a1 a2=>?_;rw[kW ei (by omega)];unfold Fire.lie fB;simp
  have K2:cN.length=rs.length:=by rw[dS.len];simp[qA]
  walk_at "rds";refine Yf (own:=1) (gy (SqL.of k5)).y (dR (by rw[GE];omega)) (λi=>[some (.ref (cN.getD i 0))]) (λ_=>rfl) (λ_=>true) (λ(i:Nat) v _=>v= .bl (fz ls st rs (λ_=>0) i)) (λ_ _ _ _ _ z=>z) (λi du H' v ay gX hi sm y e' k=>?_) (λi H' ds hi sm k=>?_) (λic i H' ds hi ax hp0 hp1' sm k=>?_) (λab bF ys hab0 bb CQ c1=>?_)
  ·obtain⟨rfl,rfl⟩:=y;obtain⟨x1,rfl⟩:∃x1,du=[x1]:=by
    match du,e' with
    | [x1],_=>exact⟨x1,rfl⟩
   have dv:i<cN.length:=by simpa using hi
   have eJ:(cN.map V.ref).getD i .non= .ref (cN.getD i 0):=by simp[List.getD,dv]
   rw[eJ];walk_at "rds";exact k _ (Zf.refl _)
  ·walk_at "rds";exact k H' (Zf.refl H')
  ·have dv:i<rs.length:=by rw[GE] at hi;omega
   obtain⟨x,aW,vs,a7,c_⟩:=Paired.get dS (i:=i) (x:=hQ ls i) (by simp[qA,dv]);have ex:cN.getD i 0=x:=by simp[List.getD,aW]
   rw[ex];have CS:=jh.trans sm;have d4:=ZcE (ls:=ls) (w:=i);walk_at "rds";refine⟨h,x,st,hQ ls i,vs,rfl,.of (sm _ _ fI),.of (CS _ _ a7),c_.keep λ_ _ z=>CS _ _ z,Bo ei,by omega,λcj cK=>?_⟩;refine k _ cj cK ?_;rw[Zdp ei];unfold fz;rw[fh,decide_eq_true (show(λ_=>0) i<ew rs i from K0 i dv),qck]
  rw[qao.mpr (by simp),GE,K2] at c1;have K3:ys=(iR ls st rs (λ_=>0)).map V.bl:=by
   have:∀{is:List Nat}{zs:List V},Paired (λ(i:Nat) v=>v=V.bl (fz ls st rs (λ_=>0) i)) is zs→zs=(is.map λi=>fz ls st rs (λ_=>0) i).map V.bl:=by
    intro is zs h
    induction h with
    |nil=>rfl
    |cons a _ cO=>rw[a,cO];rfl
   exact this c1
  subst K3;have h_:=bb _ _ fI;have CT:=bb _ _ hH;walk_at "rds";refine⟨qaA _,λr f7=>?_⟩;have cI:Zf bF (upd bF r (.lst [])):=cP f7;have gm:(upd bF r (.lst [])) r=some (.lst []):=Ze;generalize upd bF r (.lst [])=bC at*;have qK:=jh.trans (bb.trans cI);have K4:=cI _ _ CQ;have k':=cI _ _ h_;have rZ:=cI _ _ CT;have xm:h≠l:=dw hX g4;have tu:h≠ab:=dw fI hab0;have xn:l≠ab:=dw hH hab0;have q7:h≠r:=dw h_ f7;have tv:l≠r:=dw CT f7;have xo:ab≠r:=dw CQ f7;have CU:H ab=none:=eG jh hab0;have n7:H r=none:=eG (jh.trans bb) f7;have K5:e4 rs (λ_=>0)=rs:=by
   refine qaw (by simp[e4]) λv a1 a2=>?_;have:=eA rs[v] (fm a2);simp[e4,ew,List.getD,a2];omega
  walk_at "rds";refine Uw (λm ae H'=>∃(ck:List Nat)(d:Nat→Nat)(a1 a2 a3 a4 eY:Option V),m=tot rs-ck.length∧ae=[some (.ref p),some (.ref s),some (.ref h),some (.ref l),some (.ref ab),some (.ref r),a1,a2,a3,a4,eY]∧Zf H H'∧Fire.Yq (hB ls st rs) (λ_=>0) ck d∧H' h=some (.lst ((gF ls st d).map V.int))∧H' l=some (.lst ((e4 rs d).map V.int))∧H' ab=some (.lst ((iR ls st rs d).map V.bl))∧H' r=some (.lst (ck.map λw:Nat=>V.int w))) _ ⟨[],λ_=>0,_,_,_,_,_,rfl,rfl,qK,.nil _,by rw[fh];exact k',by rw[K5];exact rZ,K4,gm⟩ ?_;rintro m ae cj ⟨ck,d,a1,a2,a3,a4,eY,rfl,rfl,cK,ff,wE,qL,xp,gG⟩;walk_at "rds";refine⟨ab,_,rfl,.inl (SqL.of xp),rfl,Il _,?_⟩;rw[if_neg (by decide),Bx];walk_at "rds";refine Vi (λc=>mx ?_) (λc=>?_)
  ·have f3:true∈iR ls st rs d:=by simpa using c
   obtain⟨w,lb,xq⟩:=By f3;have ku:w<rs.length:=by have:=(GM.mp lb).1;rw[Ie] at this;exact this
   have CV:fA ls st rs d w:=by
    rw[Zgi ku] at lb;exact(nT ei cU ku).mp (qap lb)
   have q8:hB ls st rs d w:=⟨CV,λv cn=>by
    have:=xq v cn;rw[Zgi (by omega)] at this;exact(Bp ei cU (by omega)).mp (qap this)⟩
   have K6:=ff.snoc q8;have dz:=ZhF (oT ff) CV;have fM:(0:Int)≤(w:Int):=qaN w;have K7:(ck.map λw:Nat=>V.int w).length<sizeLine:=dR (by rw[GE];omega);have Sl:(w:Int)<((e4 rs d).map V.int).length:=by rw[GE,v9];omega
   walk_at "rds";refine Rd.Zm4 xp lb xq ?_;walk_at "rds";have dn:Zf H (upd cj r (.lst ((ck.map λw:Nat=>V.int w)++ [.int w]))):=cK.new n7;have lU:(upd cj r (.lst ((ck.map λw:Nat=>V.int w)++ [.int w]))) r=some (.lst ((ck++ [w]).map λw:Nat=>V.int w)):=by rw[Ze];simp
   have jC:(upd cj r (.lst ((ck.map λw:Nat=>V.int w)++ [.int w]))) h=some (.lst ((gF ls st d).map V.int)):=by rw[cq q7];exact wE
   have xr:(upd cj r (.lst ((ck.map λw:Nat=>V.int w)++ [.int w]))) l=some (.lst ((e4 rs d).map V.int)):=by rw[cq tv];exact qL
   have CW:(upd cj r (.lst ((ck.map λw:Nat=>V.int w)++ [.int w]))) ab=some (.lst ((iR ls st rs d).map V.bl)):=by rw[cq xo];exact xp
   generalize upd cj r (.lst ((ck.map λw:Nat=>V.int w)++ [.int w]))=c7 at*;have xt:=Z1 (ns:=e4 rs d) fM (by rw[v9];omega);walk_at "rds";have CY:((e4 rs d).map V.int).set (w:Int).toNat (V.int ((e4 rs d).getD (w:Int).toNat 0-1))=(e4 rs (Fire.bump d w)).map V.int:=by
    rw[qaa,←Zi0 ku,qbY]
   rw[CY];have dW:Zf H (upd c7 l (.lst ((e4 rs (Fire.bump d w)).map V.int))):=dn.new K1;have wy:(upd c7 l (.lst ((e4 rs (Fire.bump d w)).map V.int))) l=some (.lst ((e4 rs (Fire.bump d w)).map V.int)):=Ze;have jB:(upd c7 l (.lst ((e4 rs (Fire.bump d w)).map V.int))) r=_:=(cq tv.symm).trans lU;have CZ:(upd c7 l (.lst ((e4 rs (Fire.bump d w)).map V.int))) h=_:=(cq xm).trans jC;have K8:(upd c7 l (.lst ((e4 rs (Fire.bump d w)).map V.int))) ab=_:=(cq xn.symm).trans CW;generalize upd c7 l (.lst ((e4 rs (Fire.bump d w)).map V.int))=dq at*;clear lU jC CW xr xt CY;obtain⟨x,vs,hC,ao,C0⟩:=dS.at fM (l:=hQ ls w) (by simp[qA,ku]);obtain⟨y,hE,jf,a',C1⟩:=kY.at fM (l:=oQ ls w) (by simp[Bt,ku]);obtain⟨di,qj,C2⟩:=iS.2 w ku;have xu:atI (g5.map V.ref) (w:Int)=some (.ref (g5.getD w 0)):=gS (by rw[qaj,GT (show w<g5.length by rw[iS.1];exact ku)];simp[List.getD,show w<g5.length by rw[iS.1];exact ku]);have iz:=dW _ _ ai;have oS:=dW _ _ eE;have g7:=dW _ _ ao;have fZ:vs.length=(eZ ls w).length:=by rw[←Paired.length C0];unfold hQ;simp
   have K9:hE.length=(ek ls w).length:=by rw[←Paired.length C1];unfold oQ;simp
   have qb:=hR (d:=d) ei;generalize K_:gF ls st d=gO at*;walk_at "rds";refine WG (gy (SqL.of ao)) (λj ae H'=>Zf H H'∧(∃a2 a3 a4 eY,ae=[some (.ref p),some (.ref s),some (.ref h),some (.ref l),some (.ref ab),some (.ref r),some (.int w),a2,a3,a4,eY])∧H' l=some (.lst ((e4 rs (Fire.bump d w)).map V.int))∧H' r=some (.lst ((ck++ [w]).map λw:Nat=>V.int w))∧H' ab=some (.lst ((iR ls st rs d).map V.bl))∧H' h=some (.lst ((bump (λi=>-(ls.getD i dB).take) gO ((eZ ls w).take j)).map V.int))) ⟨dW,⟨_,_,_,_,rfl⟩,wy,jB,K8,CZ⟩ (λi ae H' h=>h.1) ?_ ?_
   ·rintro j ae ev aJ ⟨eQ,⟨a2,a3,a4,eY,rfl⟩,xv,kr,xw,mX⟩;have eS:j<(eZ ls w).length:=by omega
    obtain⟨t,e9,eg⟩:=ZjS C0 eS;have dz:=Zbu (fm eS);have lI:=ZeW (f:=λi=>-(ls.getD i dB).take) (hs:=gO) eS;rw[e9];refine Rd.Wd (.of (eQ _ _ eg)) rfl ?_;generalize (eZ ls w)[j]=m at*;have bl:=W6 (λi=>-(ls.getD i dB).take) ((eZ ls w).take j) gO;generalize bump (λi=>-(ls.getD i dB).take) gO ((eZ ls w).take j)=us at*;have tw:=Z1 (ns:=us) (k:=(m:Int)) (qaN m) (by omega);have qR:(m:Int)<((us.map V.int).length:Int):=by simp;omega
    walk_at "rds";refine⟨eQ.new xl,⟨_,_,_,_,rfl⟩,by rw[cq xm.symm];exact xv,by rw[cq q7.symm];exact kr,by rw[cq tu.symm];exact xw,?_⟩;rw[Ze,lI,qbY]
    rfl
   ·rintro ae ev ⟨eQ,⟨a2,a3,a4,eY,rfl⟩,xv,kr,xw,mX⟩;have Sm:=eQ _ _ ai;have Sn:=eQ _ _ jd;have So:=eQ _ _ a';rw[fZ,qa4] at mX;walk_at "rds";have bl:=W6 (λi=>-(ls.getD i dB).take) (eZ ls w) gO;refine WG (gy (SqL.of a')) (λj ae H'=>Zf H H'∧(∃a2 a3 a4 eY,ae=[some (.ref p),some (.ref s),some (.ref h),some (.ref l),some (.ref ab),some (.ref r),some (.int w),a2,a3,a4,eY])∧H' l=some (.lst ((e4 rs (Fire.bump d w)).map V.int))∧H' r=some (.lst ((ck++ [w]).map λw:Nat=>V.int w))∧H' ab=some (.lst ((iR ls st rs d).map V.bl))∧H' h=some (.lst ((bump (λi=>(ls.getD i dB).give) (bump (λi=>-(ls.getD i dB).take) gO (eZ ls w)) ((ek ls w).take j)).map V.int))) ⟨eQ,⟨_,_,_,_,rfl⟩,xv,kr,xw,mX⟩ (λi ae H' h=>h.1) ?_ ?_
    ·rintro j ae fG aJ ⟨fR,⟨a2,a3,a4,eY,rfl⟩,q9,mW,xx,pa⟩;have eS:j<(ek ls w).length:=by omega
     obtain⟨t,e9,eg⟩:=ZjS C1 eS;have dz:=qy (fm eS);have lI:=ZeW (f:=λi=>(ls.getD i dB).give) (hs:=bump (λi=>-(ls.getD i dB).take) gO (eZ ls w)) eS;rw[e9];refine Rd.Wd (.of (fR _ _ eg)) rfl ?_;generalize (ek ls w)[j]=m at*;have Sq:=W6 (λi=>(ls.getD i dB).give) ((ek ls w).take j) (bump (λi=>-(ls.getD i dB).take) gO (eZ ls w));generalize bump (λi=>(ls.getD i dB).give) (bump (λi=>-(ls.getD i dB).take) gO (eZ ls w)) ((ek ls w).take j)=us at*;have tw:=Z1 (ns:=us) (k:=(m:Int)) (qaN m) (by omega);have qR:(m:Int)<((us.map V.int).length:Int):=by simp;omega
     walk_at "rds";refine⟨fR.new xl,⟨_,_,_,_,rfl⟩,by rw[cq xm.symm];exact q9,by rw[cq q7.symm];exact mW,by rw[cq tu.symm];exact xx,?_⟩;rw[Ze,lI,qbY]
     rfl
    ·rintro ae fG ⟨fR,⟨a2,a3,a4,eY,rfl⟩,q9,mW,xx,pa⟩;rw[K9,qa4,Ic qb] at pa;have Sr:=fR _ _ ai;have Ss:=fR _ _ eE;have Su:=fR _ _ oR;have Sv:=fR _ _ qj;walk_at "rds";rw[←K_,Bs ei cU] at pa;have C3:=hR (d:=Fire.bump d w) ei;refine WG (gy (SqL.of qj)) (λj ae H'=>Zf H H'∧(∃a2 a3 a4 eY,ae=[some (.ref p),some (.ref s),some (.ref h),some (.ref l),some (.ref ab),some (.ref r),some (.int w),a2,a3,a4,eY])∧H' l=some (.lst ((e4 rs (Fire.bump d w)).map V.int))∧H' r=some (.lst ((ck++ [w]).map λw:Nat=>V.int w))∧H' h=some (.lst ((gF ls st (Fire.bump d w)).map V.int))∧H' ab=some (.lst ((jA ls st rs d (Fire.bump d w) (di.take j)).map V.bl))) ⟨fR,⟨_,_,_,_,rfl⟩,q9,mW,pa,by rw[List.take_zero,Im];exact xx⟩ (λi ae H' h=>h.1) ?_ ?_
     ·rintro j ae ip aJ ⟨io,⟨a2,a3,a4,eY,rfl⟩,o',tx,pb,tz⟩;have eS:j<di.length:=by simpa using aJ
      have eJ:(di.map V.int).getD j .non= .int di[j]:=by simp[List.getD,eS]
      have vi:=(C2.2 di[j]).mp (fm eS);have Sw:0≤di[j]∧di[j]<(rs.length:Int):=by
       rcases vi with z|⟨i,hi,z⟩
       ·omega
       ·have dL:=qy hi;have qz:=cU ls[i] (fm dL);rw[dm dL] at z;omega
      obtain⟨v,cn⟩:∃v:Nat,di[j]=(v:Int):=⟨di[j].toNat,by omega⟩;have C4:v<rs.length:=by omega
      have tA:di.take (j+1)=di.take j++ [(v:Int)]:=by rw[qam eS,cn]
      rw[eJ,cn];obtain⟨x2,K',s5,i',La⟩:=dS.at (w:=(v:Int)) (qaN v) (l:=hQ ls v) (by simp[qA,C4]);have f4:=io _ _ ai;have B7:=io _ _ eE;have Lb:=io _ _ i';have d4:=ZcE (ls:=ls) (w:=v);have xt:=Z1 (ns:=e4 rs (Fire.bump d w)) (k:=(v:Int)) (qaN v) (by rw[v9];omega);rw[qaa,Bq C4] at xt;have Sx:(v:Int)<(((jA ls st rs d (Fire.bump d w) (di.take j)).map V.bl).length:Int):=by simp[jA];omega
      walk_at "rds";refine Vi (λdJ=>?_) (λdJ=>?_)
      ·have Lc:Fire.bump d w v<ew rs v:=by have:=of_decide_eq_true dJ;omega
       walk_at "rds";refine⟨h,x2,gF ls st (Fire.bump d w),hQ ls v,K',rfl,.of pb,.of Lb,La.keep λ_ _ z=>io _ _ z,Bo C3,by omega,λnv kL=>?_⟩;rw[Zdp C3];have kQ:WI ls (gF ls st (Fire.bump d w)) v=fz ls st rs (Fire.bump d w) v:=by unfold fz;rw[decide_eq_true Lc,qck]
       rw[kQ];have Sy:=kL _ _ tz;have Ld:=kL _ _ o';have Le:=kL _ _ tx;have Lf:=kL _ _ pb;walk_at "rds";refine⟨(io.trans kL).new CU,⟨_,_,_,_,rfl⟩,by rw[cq xn];exact Ld,by rw[cq xo.symm];exact Le,by rw[cq tu];exact Lf,?_⟩;rw[Ze,tA,←Ze1,qbY]
       rfl
      ·have oJ:¬Fire.bump d w v<ew rs v:=by
        have:=of_decide_eq_false (by simpa using dJ:decide (0<(ew rs v:Int)-(Fire.bump d w v:Int))=false);omega
       have kQ:fz ls st rs (Fire.bump d w) v=false:=by unfold fz;rw[decide_eq_false oJ,Bool.false_and]
       walk_at "rds";refine⟨io.new CU,⟨_,_,_,_,rfl⟩,by rw[cq xn];exact o',by rw[cq xo.symm];exact tx,by rw[cq tu];exact pb,?_⟩;rw[Ze,tA,←Ze1,qbY,kQ]
       rfl
     ·rintro ae ip ⟨io,⟨a2,a3,a4,eY,rfl⟩,o',tx,pb,tz⟩;rw[GE,qa4,Io ei cU C2] at tz;walk_at "rds";exact⟨tot rs-(ck++ [w]).length,by rw[qac,qaO];omega,ck++ [w],Fire.bump d w,_,_,_,_,_,rfl,rfl,io,K6,pb,o',tz,tx⟩
  ·walk_at "rds";exact q r cj ck d n7 cK gG ff (Ig ei cU (by simpa using c))
end
def Lg{K:Frag}{mg:Str→Option Value}(T:Tp K mg):Sp:=λvs H Q E=>∃(p s c:Addr)(ls:List B5)(rs st cs:List Int),vs=[.ref p,.ref s,.ref c]∧kX T H p ls rs∧SqL K H s (st.map V.int)∧SqL K H c (cs.map V.int)∧st.length=ls.length∧cs.length=rs.length∧ZC ls rs.length∧Yb ls∧ls.length≤1000∧(∀x∈cs,0≤x∧x≤1000)∧
 ∀(r:Addr)(H':Hp)(kvs:List (Key×V)),H r=none→Zf H H'→H' r=some (.dK kvs)→VN ls rs st cs ls.length kvs→Q (.ref r) H'
section
variable {P:Program}{w:World}{K:Frag}{mg:Str→Option Value}{base:Heap}
theorem Lh(T:Tp K mg):OkM P w mg base 1 T.bU (Lg T):=by
 have q5:=T.i;have q6:=T.p;refine T.bU.F.okX qo (λvs H Q E h=>?_) (λcS A outer s H vs Q E av h=>?_)
 ·obtain⟨p,s,c,ls,rs,st,cs,rfl,_⟩:=h
  rfl
 ·have hu:=av.hu;obtain⟨p,s,c,ls,rs,st,cs,rfl,ax,hs,lw,ei,fa,cU,hsz,hz,xy,q⟩:=h;obtain⟨aY,a,b,dJ,nR,e,cN,lR,g5,bs,ai,aw,cC,c3,eE,dS,jd,kY,oR,iS⟩:=id ax;have g8:=c3.length;refine⟨_,(b_ (c0 (i:=3) qo.nd rfl (Or.inl rfl) pL)
     (b_ (gs PassesOwn.leaving rfl (mB (K:=K) rfl rfl T.h (ak (gd (K:=K) rfl (pv 0) rfl) aK)) (gK (K:=K) (n:=2) rfl rfl (d8 (c6 (i:=4) qo.nd rfl (Or.inl rfl)) (d8 (c6 (i:=5) qo.nd rfl (Or.inl rfl)) gI))) (b_ (c0 (i:=6) qo.nd rfl (Or.inl rfl) (cD j3 (cD (ej K) (cv (ixk K) (pv 1) (pv 4) (λ_ _=>rfl)) (cD gV (cv (ixk K) (pv 5) aX (λ_ _=>rfl)) (cv (ixk K) (pv 2) (cv (ixk K) (pv 5) aX (λ_ _=>rfl)) (λ_ _=>rfl)))) (cD gV (cv (ixk K) (pv 5) aX (λ_ _=>rfl)) (cv (ixk K) (pv 2) (cv (ixk K) (pv 5) aX (λ_ _=>rfl)) (λ_ _=>rfl)))))
     (cy (ec (PW.pt (mi (dF j4 (cv (ixk K) (pv 2) (cv (ixk K) (pv 5) aX (λ_ _=>rfl)) (λ_ _=>rfl)) (cv (ixk K) (gd (K:=K) rfl (pv 0) rfl) (cv (ixk K) (pv 5) aX (λ_ _=>rfl)) (λ_ _=>rfl)) (dA _)) (m6 (dF j4 (pv 6) (cv (ixk K) (pv 5) aX (λ_ _=>rfl)) (dA _))))) (cy (fL (iK (K:=K) rfl qbQ PySem.F.slot_dict_setdefault PySem.F.type_dict_setdefault G' (pv 3) (ak (cv (ixk K) (pv 5) aX (λ_ _=>rfl)) (ak (pv 4) aK))))) el))))
     (cy (c9 (pv 3))))),?_⟩
  try dsimp only[L2.cxX,L2.ZI,L2.Zo]
  walk_at "rds";intro r av;have az:Zf H (upd H r (.dK [])):=cP av;have hF:(upd H r (.dK [])) r=some (.dK []):=Ze;generalize upd H r (.dK [])=aj at*;have g1:=az _ _ ai;have g3:=az _ _ cC;walk_at "rds";refine Wl (mD (SqL.of cC)) (λi ae H'=>∃(kvs:List (Key×V))(a1 a2 a3:Option V),ae=[some (.ref p),some (.ref s),some (.ref c),some (.ref r),a1,a2,a3]∧Zf H H'∧H' r=some (.dK kvs)∧VN ls rs st cs i kvs) ⟨[],_,_,_,rfl,az,hF,VN.nil⟩ (λi ae H' h=>(let⟨_,_,_,_,_,s,_⟩:=h;s)) ?_ ?_
  ·rintro i ae bC v cj hi ⟨kvs,a1,a2,a3,rfl,cI,gm,hw⟩ ⟨t,cu,rfl,rfl⟩;have dL:i<ls.length:=by omega
   obtain⟨u,fx,gM⟩:=c3.getD (i:=i) dL;rw[fx];have Li:r≠t:=dw gm cu;have cK:Zf H (upd bC t (.tup [.int i,.ref u])):=cI.trans (cP cu);have o3:(upd bC t (.tup [.int i,.ref u])) t=some (.tup [.int i,.ref u]):=Ze;have gG:(upd bC t (.tup [.int i,.ref u])) r=some (.dK kvs):=(cq Li).trans gm;generalize upd bC t (.tup [.int i,.ref u])=cj at*;refine Rd.Wd (.of o3) rfl ?_;have ag:=cU ls[i] (fm dL);obtain⟨cz,a5,ea,fy,fC,d4,d9,dX⟩:=hsz i dL;rw[←dm (d:=dB) dL] at ag;have n6:=cK _ _ gM;have Sz:=cK _ _ ai;have SA:=cK _ _ aw;have qU:=cK.seq hs;have mU:=cK.seq lw;have iP:=hw.len;have n2:kvs.length<sizeLine:=dR (by omega);have tD:=hw.skip;have xA:=hw.add;unfold hT at tD xA;generalize ls.getD i dB=cF at*;have cb:∀{w:Int},0≤w→w<rs.length→∃n:Nat,cs.getD w.toNat 0=(n:Int)∧n<2 ^ 10:=λ{w} a b=>by
    have a6:cs.getD w.toNat 0∈cs:=by rw[dm (by omega)];exact fm _
    obtain⟨x0,x1⟩:=xy _ a6;exact⟨(cs.getD w.toNat 0).toNat,by omega,by omega⟩
   obtain⟨f4,Lj,l1⟩:=cb ag.1 ag.2.1;obtain⟨ft,Lk,l2⟩:=cb ag.2.2.1 ag.2.2.2;have s4:IntMulOk cF.give (cs.getD cF.giver.toNat 0):=by rw[Lj,d9];exact V9 fC l1 (by decide)
   have wx:IntMulOk cF.take (cs.getD cF.taker.toNat 0):=by rw[Lk,dX];exact V9 d4 l2 (by decide)
   have hC:=Z1 (ns:=st) (k:=(i:Int)) (qaN i) (by omega);have jf:=Z1 (ns:=cs) (k:=cF.giver) ag.1 (by omega);have tw:=Z1 (ns:=cs) (k:=cF.taker) ag.2.2.1 (by omega);have xu:=Z1 (ns:=rs) (k:=cF.taker) ag.2.2.1 (by omega);rw[qaa] at hC;dsimp only[B5.v] at n6;walk_at "rds";refine Vi (λdh=>?_) (λdh=>?_)
   ·have Ll:=of_decide_eq_true dh;walk_at "rds";refine Vi (λiv=>?_) (λiv=>?_)
    ·have Lm:=of_decide_eq_true iv;walk_at "rds";refine⟨.inr (.inr (.inl ⟨rfl,.inl ⟨_,gG⟩⟩)),?_⟩;walk_at "rds";refine Rd.ZmW gG n2 (λy a'=>?_) (λbA=>?_)
     ·walk_at "rds";exact⟨kvs,_,_,_,rfl,cK,gG,tD λ_=>⟨y,a'⟩⟩
     ·walk_at "rds";exact⟨_,_,_,_,rfl,cK.new av,Ze,xA ⟨Ll,Lm⟩ bA⟩
    ·walk_at "rds";exact⟨kvs,_,_,_,rfl,cK,gG,tD λz=>absurd (decide_eq_true z.2) iv⟩
   ·walk_at "rds";exact⟨kvs,_,_,_,rfl,cK,gG,tD λz=>absurd (decide_eq_true z.1) dh⟩
  ·rintro ae bC ⟨kvs,a1,a2,a3,rfl,cI,gm,hw⟩;rw[g8] at hw;walk_at "rds";exact q r bC kvs av cI gm hw
end
def Ln{K:Frag}{mg:Str→Option Value}(T:Tp K mg):Sp:=λvs H Q E=>∃(p s c:Addr)(ls:List B5)(rs st cs:List Int),vs=[.ref p,.ref s,.ref c]∧kX T H p ls rs∧SqL K H s (st.map V.int)∧SqL K H c (cs.map V.int)∧st.length=ls.length∧cs.length=rs.length∧ZC ls rs.length∧Yb ls∧ls.length≤1000∧rs.length≤1000∧(∀x∈cs,0≤x∧x≤1000)∧
 (∃j<ls.length,hT ls rs st cs j)∧(∀j<ls.length,hT ls rs st cs j→∃i<ls.length,fH ls i=lS ls j∧hT ls rs st cs i)∧
 ∀(r:Addr)(H':Hp)(ring:List Nat),H r=none→Zf H H'→H' r=some (.lst (ring.map λj:Nat=>V.int j))→WE ls rs st cs ring→Q (.ref r) H'
section
variable {P:Program}{w:World}{K:Frag}{mg:Str→Option Value}{base:Heap}
theorem Lo(T:Tp K mg):OkM P w mg base 2 T.bV (Ln T):=by
 have q5:=T.i;have q6:=T.p;refine T.bV.F.okX oL (λvs H Q E h=>?_) (λcS A outer s H vs Q E av h=>?_)
 ·obtain⟨p,s,c,ls,rs,st,cs,rfl,_⟩:=h
  rfl
 ·have hu:=av.hu;obtain⟨p,s,c,ls,rs,st,cs,rfl,ax,hs,lw,ei,fa,cU,hsz,hz,bA,xy,⟨q1,o_,Lp⟩,Lq,q⟩:=h;obtain⟨aY,a,b,dJ,nR,e,cN,lR,g5,bs,ai,aw,cC,c3,eE,dS,jd,kY,oR,iS⟩:=id ax;refine⟨_,(b_ (c0 (i:=3) oL.nd rfl (Or.inl rfl) (gW (pv 0) T.i T.bU (Lh T) av cW (ak (pv 1) (ak (pv 2) aK))))
     (b_ (c0 (i:=4) oL.nd rfl (Or.inl rfl) pL)
     (b_ (c0 (i:=5) oL.nd rfl (Or.inl rfl) (fN aK))
     (b_ (c0 (i:=6) oL.nd rfl (Or.inl rfl) (dM (Ha rfl) (by rfl) T.bh PyProof.Rows.boot_min (ak (pv 3) aK)))
     (b_ (mm PassesOwn.leaving (dF (u6 hu) (pv 6) (pv 4) (by with_unfolding_all rfl)) (b_ (iA (dM (fj K) (by rfl) T.f qai (ak (pv 5) aK)) (kA (pv 4) (pv 6) (p6 hu)))
     (b_ (fL (iK (K:=K) rfl qax qaD qaE ju (pv 5) (ak (cv (UV hu) (pv 3) (pv 6) (λ_ _=>rfl)) aK)))
     (cy (c0 (i:=6) oL.nd rfl (Or.inl rfl) (cv (ixk K) (cv (ixk K) (gd (K:=K) rfl (pv 0) rfl) (cv (UV hu) (pv 3) (pv 6) (λ_ _=>rfl)) (λ_ _=>rfl)) aX (λ_ _=>rfl)))))))
     (cy (c9 (rH (rX (K:=K) rfl) (pv 5) (rG (cv (UV hu) (pv 4) (pv 6) (λ_ _=>rfl))) rF)))))))),?_⟩
  try dsimp only[L2.cxX,L2.ZI,L2.Zo]
  walk_at "rds";refine⟨p,s,c,ls,rs,st,cs,rfl,ax,hs,lw,ei,fa,cU,hsz,hz,xy,λwa aj kvs xA az C5 hw=>?_⟩;walk_at "rds";intro pl fO;have b':Zf aj (upd aj pl (.dK [])):=cP fO;have C6:(upd aj pl (.dK [])) pl=some (.dK []):=Ze;generalize upd aj pl (.dK [])=ay at*;have C7:=b' _ _ C5;have pc:H pl=none:=eG az fO;walk_at "rds";refine⟨qaA _,λy a'=>?_⟩;have bb:Zf ay (upd ay y (.lst [])):=cP a';have nE:(upd ay y (.lst [])) y=some (.lst (([]:List Nat).map λj:Nat=>V.int j)):=Ze;generalize upd ay y (.lst [])=bF at*;have C8:=bb _ _ C7;have Lr:=bb _ _ C6;have jQ:=az.trans (b'.trans bb);have iT:H y=none:=eG (az.trans b') a';have C9:wa≠pl:=dw C5 fO;have C_:wa≠y:=dw C7 a';have C':pl≠y:=dw C6 a';obtain⟨c5,Ls,sj⟩:=hw.keys;obtain⟨i_,Lu⟩:=hw.all q1 o_ Lp;have sc:0<kvs.length:=by
   cases kvs with
   |nil=>simp[Zc9] at Lu
   |cons x xs=>exact Nat.succ_pos _
  walk_at "rds";refine Rd.ZoU C8 Ls sc (λM nk SD=>?_);obtain⟨Lv,Lw⟩:=sj M nk;walk_at "rds";refine Uw (λm ae H'=>∃(ys:List Nat)(kp:List (Key×V))(w:Int)(xB:V),m=rs.length+1-ys.length∧ae=[some (.ref p),some (.ref s),some (.ref c),some (.ref wa),some (.ref pl),some (.ref y),some (.int w)]∧eb [pl,y] bF H'∧H' pl=some (.dK kp)∧H' y=some (.lst (ys.map λj:Nat=>V.int j))∧VM ls rs st cs ys w kp∧valV kvs (Sum.inl w)=some xB) _ ⟨[],[],M,Lv,rfl,rfl,eb.refl,Lr,nE,VM.nil M,Lw⟩ ?_;rintro m ae bC ⟨ys,kp,w,xB,rfl,rfl,eh,Lx,lH,q_,gb⟩;have SE:=q_.short cU;have Ly:=eh.keep _ _ C8 (by simp[C9,C_]);obtain⟨j,aJ,rfl,Lz,o9⟩:=hw.val w xB gb;walk_at "rds";have tp:fH ls j=w:=Lz;have SF:=q_.step (j:=j);have q':=eh.keep _ _ ((az.trans (b'.trans bb)) _ _ cC) (by
   have f4:b≠pl:=dw cC pc;have ft:b≠y:=dw cC iT;simp[f4,ft])
  have ra:=eh.keep _ _ ((az.trans (b'.trans bb)) _ _ ai) (by
   have f4:p≠pl:=dw ai pc;have ft:p≠y:=dw ai iT;simp[f4,ft])
  obtain⟨u,fx,gM⟩:=c3.getD (i:=j) aJ;have iV:=eh.tups _ _ (jQ _ _ gM);have r1:u≠pl:=dw gM pc;have LA:u≠y:=dw gM iT;have lX:p≠pl:=dw ai pc;have LB:p≠y:=dw ai iT;have LC:b≠pl:=dw cC pc;have LD:b≠y:=dw cC iT;refine Vi (λcc=>mx ?_) (λcc=>?_)
  ·have gi:valV kp (Sum.inl w)=none:=by simpa using cc
   have iP:kp.length<sizeLine:=dR (by have:=q_.len;omega);have Db:(ys.map λj:Nat=>V.int j).length<sizeLine:=dR (by rw[GE];omega);have xC:=q_.step gi aJ o9 tp;have jN:=xC.short cU;rw[qac,qaO] at jN;walk_at "rds";have em:eb [pl,y] bC (upd bC pl (.dK (eF kp (Sum.inl w) (.int ys.length)))):=jH (by simp) Lx (by intro _ z;cases z);have LF:(upd bC pl (.dK (eF kp (Sum.inl w) (.int ys.length)))) pl=some (.dK (eF kp (Sum.inl w) (.int ys.length))):=Ze;have LG:(upd bC pl (.dK (eF kp (Sum.inl w) (.int ys.length)))) y=_:=(cq C'.symm).trans lH;have LH:(upd bC pl (.dK (eF kp (Sum.inl w) (.int ys.length)))) wa=_:=(cq C9).trans Ly;have tE:(upd bC pl (.dK (eF kp (Sum.inl w) (.int ys.length)))) p=_:=(cq lX).trans ra;have Dc:(upd bC pl (.dK (eF kp (Sum.inl w) (.int ys.length)))) b=_:=(cq LC).trans q';have n6:(upd bC pl (.dK (eF kp (Sum.inl w) (.int ys.length)))) u=_:=(cq r1).trans iV;have xD:((ys.map λj:Nat=>V.int j).length:Int)=(ys.length:Int):=by simp
   rw[xD];generalize upd bC pl (.dK (eF kp (Sum.inl w) (.int ys.length)))=cj at*;walk_at "rds";have r_:eb [pl,y] cj (upd cj y (.lst ((ys.map λj:Nat=>V.int j)++ [.int j]))):=jH (by simp) LG (by intro _ z;cases z);have LI:(upd cj y (.lst ((ys.map λj:Nat=>V.int j)++ [.int j]))) y=some (.lst ((ys++ [j]).map λj:Nat=>V.int j)):=by rw[Ze];simp
   have LJ:(upd cj y (.lst ((ys.map λj:Nat=>V.int j)++ [.int j]))) pl=_:=(cq C').trans LF;have SG:(upd cj y (.lst ((ys.map λj:Nat=>V.int j)++ [.int j]))) wa=_:=(cq C_).trans LH;have tF:(upd cj y (.lst ((ys.map λj:Nat=>V.int j)++ [.int j]))) p=_:=(cq LB).trans tE;have SH:(upd cj y (.lst ((ys.map λj:Nat=>V.int j)++ [.int j]))) b=_:=(cq LD).trans Dc;have LK:(upd cj y (.lst ((ys.map λj:Nat=>V.int j)++ [.int j]))) u=_:=(cq LA).trans n6;generalize upd cj y (.lst ((ys.map λj:Nat=>V.int j)++ [.int j]))=c7 at*;have rb:=eh.trans (em.trans r_);have g8:=c3.length;have hC:atI bs (j:Int)=some (.ref u):=gS (by rw[GT (show j<bs.length by omega),←fx,dm (show j<bs.length by omega)]);obtain⟨i,hi,LM,LN⟩:=Lq j aJ o9;obtain⟨Dd,LO⟩:=hw.all i hi LN;have De:valV kvs (Sum.inl (lS ls j))=some Dd:=by rw[←LM];exact LO
   have d9:lS ls j=(ls.getD j dB).giver:=rfl;rw[d9] at xC De;generalize ls.getD j dB=cF at*;dsimp only[B5.v] at LK;walk_at "rds";exact⟨_,by rw[qac,qaO];omega,ys++ [j],_,cF.giver,Dd,rfl,rfl,rb,LJ,LI,xC,De⟩
  ·obtain⟨tG,LP⟩:∃tG,valV kp (Sum.inl w)=some tG:=by
    cases e:valV kp (Sum.inl w) with
    |none=>rw[e] at cc;exact absurd rfl cc
    |some tG=>exact⟨tG,rfl⟩
   obtain⟨k,rfl,aR,hj⟩:=q_.ring LP;walk_at "rds";have cI:Zf H bC:=λx o e=>eh.keep _ _ (jQ _ _ e) (by
    have f4:x≠pl:=dw e pc;have ft:x≠y:=dw e iT;simp[f4,ft])
   refine Rd.slL (.of lH) (λr av=>?_);refine q r _ (ys.drop k) (eG cI av) (cI.trans (cP av)) ?_ hj;rw[Ze,Iq (by rw[GE];omega),List.map_drop]
end
def LQ{K:Frag}{mg:Str→Option Value}(T:Tp K mg):Sp:=λvs H Q E=>∃(p s:Addr)(ls:List B5)(rs st:List Int),vs=[.ref p,.ref s]∧kX T H p ls rs∧SqL K H s (st.map V.int)∧st.length=ls.length∧ZC ls rs.length∧Yb ls∧Zaa ls rs∧ls.length≤1000∧rs.length≤1000∧(∀r∈rs,1≤r)∧(∀x∈st,0≤x)∧tot rs≤1000∧
 (∀(t r:Addr)(H':Hp)(ck:List Nat)(d:Nat→Nat),H r=none→Zf H H'→H' t=some (.tup [.ref r,.non])→H' r=some (.lst (ck.map λw:Nat=>V.int w))→Fire.Yq (hB ls st rs) (λ_=>0) ck d→(∀v<rs.length,d v=ew rs v)→Q (.ref t) H')∧
 (∀(t u c g:Addr)(H':Hp)(ck:List Nat)(d:Nat→Nat)(ring:List Nat),H c=none→H g=none→Zf H H'→H' t=some (.tup [.non,.ref u])→H' u=some (.tup [.ref c,.ref g])→H' c=some (.lst ((d5 rs.length d).map V.int))→H' g=some (.lst (ring.map λj:Nat=>V.int j))→Fire.Yq (hB ls st rs) (λ_=>0) ck d→(∀w,¬fA ls st rs d w)→(∃v<rs.length,d v<ew rs v)→WE ls rs st (d5 rs.length d) ring→Q (.ref t) H')
section
variable {P:Program}{w:World}{K:Frag}{mg:Str→Option Value}{base:Heap}
theorem LR(T:Tp K mg):OkM P w mg base 3 T.bW (LQ T):=by
 have q5:=T.i;have q6:=T.p;refine T.bW.F.okX vT (λvs H Q E h=>?_) (λcS A outer s H vs Q E av h=>?_)
 ·obtain⟨p,s,ls,rs,st,rfl,_⟩:=h
  rfl
 ·have hu:=av.hu;obtain⟨p,s,ls,rs,st,rfl,ax,hs,ei,cU,hsz,qD,hz,bA,eA,gO,l',cA,cT⟩:=h;refine⟨_,(b_ (c0 (i:=2) vT.nd rfl (Or.inr rfl) (gW (pv 0) T.i T.bT (KZ T) av cW (ak (pv 1) aK)))
     (b_ (ec (dF (gJ (K:=K) rfl hu) (dM (fj K) (by rfl) T.f qai (ak (pv 2) aK)) (dM (zm (K:=K) rfl rfl) (by rfl) T.bj PyProof.Rows.boot_sum (ak (gd (K:=K) rfl (pv 0) rfl) aK)) (dA _)) (cy (c9 (fE (ak (pv 2) (ak W7 aK))))) el)
     (b_ (rQ (j:=3) rfl (fU (x:="work") (zs:=["row"]) (ix:=[2]) (cR vI) ["self","starts","row","counts"] rfl rfl (by decide+kernel)) (j1 rfl T.k (ak (dM (fj K) (by rfl) T.f qai (ak (gd (K:=K) rfl (pv 0) rfl) aK)) aK)) (λcl C s H fp=>⟨(c6 (i:=0) (show(["work","row"]:List Str).Nodup by decide+kernel) rfl (Or.inl rfl)),gx,(iK (K:=K) rfl qax PySem.F.slot_list_count PySem.F.type_list_count (F6 (K:=K) rfl) (pv 1) (ak (pv 0) aK))⟩) vT.nd rfl (Or.inl rfl))
     (cy (c9 (fE (ak W7 (ak (fE (ak (pv 3) (ak (gW (pv 0) T.i T.bV (Lo T) av cW (ak (pv 1) (ak (pv 3) aK))) aK))) aK)))))))),?_⟩
  try dsimp only[L2.cxX,L2.ZI,L2.Zo]
  walk_at "rds";refine⟨p,s,ls,rs,st,rfl,ax,hs,ei,cU,hz,bA,eA,l',λr aj ck d av az hF ff dQ=>?_⟩;obtain⟨jN,ed,dz⟩:=sM (oT ff);have LS:=Zes (rs:=rs) λr av=>(by have:=eA r av;omega);have jT:=ax.same az;obtain⟨aY,a,b,c,nR,e,cN,lR,g5,bs,ai,aw,cC,c3,eE,dS,jd,kY,oR,iS⟩:=id jT;walk_at "rds";refine Rd.Zn1 (.of aw) ?_;rw[←LS];walk_at "rds";have xD:((ck.map λw:Nat=>V.int w).length:Int)=(ck.length:Int):=by simp
  rw[xD];refine Vi (λcc=>?_) (λcc=>?_)
  ·have cp:ck.length=tot rs:=by have:=of_decide_eq_true cc;omega
   walk_at "rds";refine⟨by show 2≤sizeLine;decide,λt cu=>?_⟩;refine cA t r _ ck d av (az.trans (cP cu)) Ze (cP cu _ _ hF) ff (Bv jN ?_);rw[←ed,cp]
   rfl
  ·have cp:ck.length≠tot rs:=λz=>cc (decide_eq_true (by omega));have f6:∃v<rs.length,d v<ew rs v:=by
    by_cases z:∃v<rs.length,d v<ew rs v
    ·exact z
    ·exfalso;refine cp ?_;rw[ed];have:∀v<rs.length,d v=ew rs v:=λv cn=>by
      have:=jN v cn;rcases qaC (d v) (ew rs v) with y|y
      ·exact absurd ⟨v,cn,y⟩ z
      ·omega
     exact Nat.le_antisymm (qC λv cn=>by rw[this v cn];exact FM _) (qC λv cn=>by rw[this v cn];exact FM _)
   have Df:∀v,d v=ck.count v:=λv=>by have:=(oT ff).count v;omega
   have pd:(rs.map V.int).length=rs.length:=by simp
   have xE:aj r=some (.lst ((ck.map λw:Nat=>(w:Int)).map V.int)):=by rw[hF,qbz];rfl
   walk_at "rds";refine YX VB (dR (by rw[pd];exact bA)) (λ_=>true) (λi=> .int (((ck.map λw:Nat=>(w:Int)).count (0+(i:Int)):Nat):Int)) (λi H' ds hi sm k=>?_) (λi H' ds hi _ sm k=>?_) (λdJ ay hc20 b' ho=>?_)
   ·walk_at "rds";exact k H' (Zf.refl H')
   ·have gP:=sm _ _ xE;walk_at "rds";refine Rd.Zna (SqL.of gP) ?_;exact k H' (Zf.refl H')
   ·have hp:ay dJ=some (.lst ((d5 rs.length d).map V.int)):=by
     rw[ho,qao.mpr (by simp),pd,qaa];refine congrArg (λz=>some (HO.lst z)) ?_;unfold d5;rw[qbz];refine List.map_congr_left λv cn=>?_;show V.int _=V.int ((d v:Nat):Int);rw[qbA,Df v]
     congr 2
     rw[List.count_eq_countP,List.count_eq_countP,List.countP_map];refine List.countP_congr λx _=>?_;simp;omega
    have LU:∀x∈d5 rs.length d,0≤x∧x≤1000:=λx ao=>by
     obtain⟨v,cn,rfl⟩:=qah.mp ao;have ai:=jN v (by simpa using cn);have aw:ck.count v≤ck.length:=List.count_le_length;have cC:=Df v;omega
    obtain⟨jM,n1,l5⟩:=f6;obtain⟨q1,o_,_,LV⟩:=ZcW ei cU eA dQ n1 l5;have ky:=jT.same b';walk_at "rds";refine⟨p,s,dJ,ls,rs,st,_,rfl,ky,b'.seq (az.seq hs),.of hp,ei,mP,cU,hsz,hz,bA,LU,⟨q1,o_,LV⟩,λj aJ o9=>ZiB ei cU eA dQ qD jN gO hsz aJ o9,λg bF ring aM bb xF hj=>?_⟩;walk_at "rds";refine⟨by show 2≤sizeLine;decide,λu fw=>?_⟩;have cI:Zf bF (upd bF u (.tup [.ref dJ,.ref g])):=cP fw;have iV:(upd bF u (.tup [.ref dJ,.ref g])) u=some (.tup [.ref dJ,.ref g]):=Ze;generalize upd bF u (.tup [.ref dJ,.ref g])=bC at*;walk_at "rds";refine⟨by show 2≤sizeLine;decide,λt cu=>?_⟩;have cK:Zf bC (upd bC t (.tup [.non,.ref u])):=cP cu;have Dg:=bb.trans cI;exact cT t u dJ g _ ck d ring (eG az hc20) (eG (az.trans b') aM) ((az.trans b').trans (Dg.trans cK)) Ze (cK _ _ iV) (cK _ _ (Dg _ _ hp)) (cK _ _ (cI _ _ xF)) ff dQ ⟨jM,n1,l5⟩ hj
end
def LW{K:Frag}{mg:Str→Option Value}(T:Tp K mg):Sp:=λvs H Q E=>∃(p:Addr)(w:Int)(af:HM)(fp:List Addr),vs=[.ref p,.int w]∧dD T H p af fp∧af.belts.length≤1000∧
 (¬(0≤w∧w<af.names.length)→E (.ref T.J) none H)∧(0≤w→w<af.names.length→∀r H',H r=none→Zf H H'→H' r=some (.lst ((eZ af.belts w).map λi:Nat=>V.int i))→Q (.ref r) H')
section
variable {P:Program}{w:World}{K:Frag}{mg:Str→Option Value}{base:Heap}
theorem LX(T:Tp K mg):OkM P w mg base 5 T.bX (LW T):=by
 have gp:=T.a;have gq:=T.e;refine T.bX.F.okX Hz (λvs H Q E h=>?_) (λcS A outer s H vs Q E av h=>?_)
 ·obtain⟨p,w,af,fp,rfl,_⟩:=h
  rfl
 ·have hu:=av.hu;obtain⟨p,w,af,fp,rfl,cw,hz,aW,q⟩:=h;obtain⟨aY,a,b,bs,rfl,ai,aw,cC,c3,ie,dS⟩:=id cw;have ag:=dS.length;refine⟨_,(b_ (fL (gW (pv 0) T.a T.a4 (s6 T) av cW (ak (pv 1) aK)))
     (cy (c9 (kg (xs:=["belt","row"]) rfl (fU (x:="belt") (zs:=["work"]) (ix:=[1]) (cR vJ) ["self","work"] rfl rfl (by decide+kernel)) (mB (K:=K) rfl rfl T.h (ak (gd (K:=K) rfl (pv 0) rfl) aK)) (λcl C s H fp=>⟨(gK (K:=K) (n:=2) rfl rfl (d8 (c6 (i:=0) (show(["belt","row","work"]:List Str).Nodup by decide+kernel) rfl (Or.inl rfl)) (d8 (c6 (i:=1) (show(["belt","row","work"]:List Str).Nodup by decide+kernel) rfl (Or.inl rfl)) gI))),(rP (dF (gJ (K:=K) rfl hu) (cv (ixk K) (pv 1) aX (λ_ _=>rfl)) (pv 2) (dA _))),(pv 0)⟩))))),?_⟩
  try dsimp only[L2.cxX,L2.ZI,L2.Zo]
  walk_at "rds";refine⟨p,w,af,_,rfl,cw,aW,λfM f_=>?_⟩;walk_at "rds";refine Yf (own:=2) (mD (SqL.of c3)) (dR (by omega)) (λi=>[some (.int i),some (bs.getD i .non)]) (λ_=>rfl) (λi=>decide ((af.belts.getD i dB).taker=w)) (λi v _=>v= .int i) (λ_ _ _ _ _ z=>z) (λi du H' v ay gX hi sm y aZ k=>?_) (λi H' ds hi sm k=>?_) (λic i H' ds hi ax hp0 f8 sm k=>?_) (λr H' ys av sm fi c1=>?_)
  ·obtain⟨t,cu,rfl,rfl⟩:=y;obtain⟨x1,x2,rfl⟩:∃x1 x2,du=[x1,x2]:=by
    match du,aZ with
    | [x1,x2],_=>exact⟨x1,x2,rfl⟩
   refine Rd.Wd (.of Ze) rfl ?_;walk_at "rds";exact k _ (cP cu)
  ·obtain⟨t,e9,eg⟩:=dS.getD (i:=i) (by omega);rw[e9];have f9:=sm _ _ eg;generalize af.belts.getD i dB=cF at*;dsimp only[B5.v] at f9;walk_at "rds";exact k H' (Zf.refl H')
  ·walk_at "rds";exact k _ H' (Zf.refl H') rfl
  ·refine q fM f_ r H' av sm ?_;rw[fi,r0 (R:=λi v _=>v=V.int (i:Nat)) (H:=H') (r:=λi:Nat=>V.int i) (λ_ _ z=>z) c1,ag]
   rfl
end
def LY{K:Frag}{mg:Str→Option Value}(T:Tp K mg):Sp:=λvs H Q E=>∃(p:Addr)(w:Int)(af:HM)(fp:List Addr),vs=[.ref p,.int w]∧dD T H p af fp∧af.belts.length≤1000∧0≤w∧w<af.names.length∧
 ∀r H' ys,H r=none→Zf H H'→H' r=some (.lst ys)→Vp H' (hQ af.belts w) ys→Q (.ref r) H'
section
variable {P:Program}{w:World}{K:Frag}{mg:Str→Option Value}{base:Heap}
theorem LZ(T:Tp K mg):OkN P w base 6 T.bY (LY T):=by
 have gp:=T.a;have gq:=T.e;refine T.bY.F.okX HA (λvs H Q E h=>?_) (λcS A outer s H vs Q E av h=>?_)
 ·obtain⟨p,w,af,fp,rfl,_⟩:=h
  rfl
 ·have hu:=av.hu;obtain⟨p,w,af,fp,rfl,cw,hz,fM,f_,q⟩:=h;refine⟨_,(cy (c9 (kg (xs:=["belt"]) rfl (fU (x:="belt") (zs:=["hall"]) (ix:=[0]) (cR vK) ["hall","work"] rfl rfl (by decide+kernel)) (gA (K:=K) rfl (gW (pv 0) T.a T.bX (LX T) av cW (ak (pv 1) aK))) (λcl C s H fp=>⟨(c6 (i:=0) (show(["belt","hall"]:List Str).Nodup by decide+kernel) rfl (Or.inl rfl)),gx,(fE (ak (pv 0) (ak (cv (ixk K) (gW (pv 1) T.a T.aU (qV T) av WH (ak (pv 0) aK)) aX (λ_ _=>rfl)) aK)))⟩)))),?_⟩
  try dsimp only[L2.cxX,L2.ZI,L2.Zo]
  walk_at "rds";refine⟨p,w,af,fp,rfl,cw,hz,λz=>absurd ⟨fM,f_⟩ z,λ_ _ e aj cp az o6=>?_⟩;have hX:=cw.same az;have ia:=Zd5 (ls:=af.belts) (w:=w);walk_at "rds";refine Yf (own:=1) (gy (SqL.of o6)).y (dR (by rw[GE];omega)) (λi=>[some (.int ((eZ af.belts w).getD i 0:Nat))]) (λ_=>rfl) (λ_=>true) (λi v H=>∃t,v=V.ref t∧H t=some (.tup [.int ((eZ af.belts w).getD i 0:Nat),.int (af.belts.getD ((eZ af.belts w).getD i 0) dB).take])) (λ_ _ _ _ e ⟨t,fk,e0⟩=>⟨t,fk,e _ _ e0⟩) (λi du H' v ay gX hi sm y e' k=>?_) (λi H' ds hi sm k=>?_) (λic i H' ds hi ax hp0 f8 sm k=>?_) (λr H' ys jk sm fi c1=>?_)
  ·obtain⟨rfl,rfl⟩:=y;obtain⟨x1,rfl⟩:∃x1,du=[x1]:=by
    match du,e' with
    | [x1],_=>exact⟨x1,rfl⟩
   have dv:i<(eZ af.belts w).length:=by simpa using hi
   have eJ:((eZ af.belts w).map λi:Nat=>V.int i).getD i .non= .int ((eZ af.belts w).getD i 0:Nat):=by simp[List.getD,dv]
   rw[eJ];walk_at "rds";exact k _ (Zf.refl _)
  ·walk_at "rds";exact k H' (Zf.refl H')
  ·have dv:i<(eZ af.belts w).length:=by simpa using hi
   have a6:(eZ af.belts w).getD i 0∈eZ af.belts w:=by
    have:(eZ af.belts w).getD i 0=(eZ af.belts w)[i]:=by simp[List.getD,dv]
    rw[this];exact fm dv
   have dz:=Zbu a6;generalize (eZ af.belts w).getD i 0=j at*;have fI:=hX.same sm;walk_at "rds";refine⟨p,(j:Int),af,fp,rfl,fI,λz=>absurd ⟨qaN j,by omega⟩ z,λ_ _ t b ag cu=>?_⟩;have gZ:af.belts[j]? =some b:=ag;have df:af.belts.getD j dB=b:=by simp[List.getD,gZ]
   rw[df] at k;dsimp only[B5.v] at cu;walk_at "rds";refine⟨by show 2≤sizeLine;decide,λu fw=>?_⟩;exact k _ _ (cP fw) ⟨u,rfl,u8 f8 fw⟩
  ·refine q r H' ys ?_ (az.trans sm) fi ?_
   ·cases e:H r with
    |none=>rfl
    |some o=>rw[az _ _ e] at jk;cases jk
   ·exact(Bn c1).keep λb xs z=>kd _ _ z
end
def L0{K:Frag}{mg:Str→Option Value}(T:Tp K mg):Sp:=λvs H Q E=>∃(p:Addr)(w:Int)(af:HM)(fp:List Addr),vs=[.ref p,.int w]∧dD T H p af fp∧af.belts.length≤1000∧
 (¬(0≤w∧w<af.names.length)→E (.ref T.J) none H)∧(0≤w→w<af.names.length→∀r H',H r=none→Zf H H'→H' r=some (.lst ((ek af.belts w).map λi:Nat=>V.int i))→Q (.ref r) H')
section
variable {P:Program}{w:World}{K:Frag}{mg:Str→Option Value}{base:Heap}
theorem Dh(T:Tp K mg):OkM P w mg base 5 T.bt (L0 T):=by
 have gp:=T.a;have gq:=T.e;refine T.bt.F.okX HB (λvs H Q E h=>?_) (λcS A outer s H vs Q E av h=>?_)
 ·obtain⟨p,w,af,fp,rfl,_⟩:=h
  rfl
 ·have hu:=av.hu;obtain⟨p,w,af,fp,rfl,cw,hz,aW,q⟩:=h;obtain⟨aY,a,b,bs,rfl,ai,aw,cC,c3,ie,dS⟩:=id cw;have ag:=dS.length;refine⟨_,(b_ (fL (gW (pv 0) T.a T.a4 (s6 T) av cW (ak (pv 1) aK)))
     (cy (c9 (kg (xs:=["belt","row"]) rfl (fU (x:="belt") (zs:=["work"]) (ix:=[1]) (cR vL) ["self","work"] rfl rfl (by decide+kernel)) (mB (K:=K) rfl rfl T.h (ak (gd (K:=K) rfl (pv 0) rfl) aK)) (λcl C s H fp=>⟨(gK (K:=K) (n:=2) rfl rfl (d8 (c6 (i:=0) (show(["belt","row","work"]:List Str).Nodup by decide+kernel) rfl (Or.inl rfl)) (d8 (c6 (i:=1) (show(["belt","row","work"]:List Str).Nodup by decide+kernel) rfl (Or.inl rfl)) gI))),(rP (dF (gJ (K:=K) rfl hu) (cv (ixk K) (pv 1) aX (λ_ _=>rfl)) (pv 2) (dA _))),(pv 0)⟩))))),?_⟩
  try dsimp only[L2.cxX,L2.ZI,L2.Zo]
  walk_at "rds";refine⟨p,w,af,_,rfl,cw,aW,λfM f_=>?_⟩;walk_at "rds";refine Yf (own:=2) (mD (SqL.of c3)) (dR (by omega)) (λi=>[some (.int i),some (bs.getD i .non)]) (λ_=>rfl) (λi=>decide ((af.belts.getD i dB).giver=w)) (λi v _=>v= .int i) (λ_ _ _ _ _ z=>z) (λi du H' v ay gX hi sm y aZ k=>?_) (λi H' ds hi sm k=>?_) (λic i H' ds hi ax hp0 f8 sm k=>?_) (λr H' ys av sm fi c1=>?_)
  ·obtain⟨t,cu,rfl,rfl⟩:=y;obtain⟨x1,x2,rfl⟩:∃x1 x2,du=[x1,x2]:=by
    match du,aZ with
    | [x1,x2],_=>exact⟨x1,x2,rfl⟩
   refine Rd.Wd (.of Ze) rfl ?_;walk_at "rds";exact k _ (cP cu)
  ·obtain⟨t,e9,eg⟩:=dS.getD (i:=i) (by omega);rw[e9];have f9:=sm _ _ eg;generalize af.belts.getD i dB=cF at*;dsimp only[B5.v] at f9;walk_at "rds";exact k H' (Zf.refl H')
  ·walk_at "rds";exact k _ H' (Zf.refl H') rfl
  ·refine q fM f_ r H' av sm ?_;rw[fi,r0 (R:=λi v _=>v=V.int (i:Nat)) (H:=H') (r:=λi:Nat=>V.int i) (λ_ _ z=>z) c1,ag]
   rfl
end
def L1{K:Frag}{mg:Str→Option Value}(T:Tp K mg):Sp:=λvs H Q E=>∃(p:Addr)(w:Int)(af:HM)(fp:List Addr),vs=[.ref p,.int w]∧dD T H p af fp∧af.belts.length≤1000∧0≤w∧w<af.names.length∧
 ∀r H' ys,H r=none→Zf H H'→H' r=some (.lst ys)→Vp H' (oQ af.belts w) ys→Q (.ref r) H'
section
variable {P:Program}{w:World}{K:Frag}{mg:Str→Option Value}{base:Heap}
theorem L3(T:Tp K mg):OkN P w base 6 T.bZ (L1 T):=by
 have gp:=T.a;have gq:=T.e;refine T.bZ.F.okX HC (λvs H Q E h=>?_) (λcS A outer s H vs Q E av h=>?_)
 ·obtain⟨p,w,af,fp,rfl,_⟩:=h
  rfl
 ·have hu:=av.hu;obtain⟨p,w,af,fp,rfl,cw,hz,fM,f_,q⟩:=h;refine⟨_,(cy (c9 (kg (xs:=["belt"]) rfl (fU (x:="belt") (zs:=["hall"]) (ix:=[0]) (cR vM) ["hall","work"] rfl rfl (by decide+kernel)) (gA (K:=K) rfl (gW (pv 0) T.a T.bt (Dh T) av cW (ak (pv 1) aK))) (λcl C s H fp=>⟨(c6 (i:=0) (show(["belt","hall"]:List Str).Nodup by decide+kernel) rfl (Or.inl rfl)),gx,(fE (ak (pv 0) (ak (cv (ixk K) (gW (pv 1) T.a T.aU (qV T) av WH (ak (pv 0) aK)) aX (λ_ _=>rfl)) aK)))⟩)))),?_⟩
  try dsimp only[L2.cxX,L2.ZI,L2.Zo]
  walk_at "rds";refine⟨p,w,af,fp,rfl,cw,hz,λz=>absurd ⟨fM,f_⟩ z,λ_ _ e aj cp az o6=>?_⟩;have hX:=cw.same az;have ia:=ZdF (ls:=af.belts) (w:=w);walk_at "rds";refine Yf (own:=1) (gy (SqL.of o6)).y (dR (by rw[GE];omega)) (λi=>[some (.int ((ek af.belts w).getD i 0:Nat))]) (λ_=>rfl) (λ_=>true) (λi v H=>∃t,v=V.ref t∧H t=some (.tup [.int ((ek af.belts w).getD i 0:Nat),.int (af.belts.getD ((ek af.belts w).getD i 0) dB).give])) (λ_ _ _ _ e ⟨t,fk,e0⟩=>⟨t,fk,e _ _ e0⟩) (λi du H' v ay gX hi sm y e' k=>?_) (λi H' ds hi sm k=>?_) (λic i H' ds hi ax hp0 f8 sm k=>?_) (λr H' ys jk sm fi c1=>?_)
  ·obtain⟨rfl,rfl⟩:=y;obtain⟨x1,rfl⟩:∃x1,du=[x1]:=by
    match du,e' with
    | [x1],_=>exact⟨x1,rfl⟩
   have dv:i<(ek af.belts w).length:=by simpa using hi
   have eJ:((ek af.belts w).map λi:Nat=>V.int i).getD i .non= .int ((ek af.belts w).getD i 0:Nat):=by simp[List.getD,dv]
   rw[eJ];walk_at "rds";exact k _ (Zf.refl _)
  ·walk_at "rds";exact k H' (Zf.refl H')
  ·have dv:i<(ek af.belts w).length:=by simpa using hi
   have a6:(ek af.belts w).getD i 0∈ek af.belts w:=by
    have:(ek af.belts w).getD i 0=(ek af.belts w)[i]:=by simp[List.getD,dv]
    rw[this];exact fm dv
   have dz:=qy a6;generalize (ek af.belts w).getD i 0=j at*;have fI:=hX.same sm;walk_at "rds";refine⟨p,(j:Int),af,fp,rfl,fI,λz=>absurd ⟨qaN j,by omega⟩ z,λ_ _ t b ag cu=>?_⟩;have gZ:af.belts[j]? =some b:=ag;have df:af.belts.getD j dB=b:=by simp[List.getD,gZ]
   rw[df] at k;dsimp only[B5.v] at cu;walk_at "rds";refine⟨by show 2≤sizeLine;decide,λu fw=>?_⟩;exact k _ _ (cP fw) ⟨u,rfl,u8 f8 fw⟩
  ·refine q r H' ys ?_ (az.trans sm) fi ?_
   ·cases e:H r with
    |none=>rfl
    |some o=>rw[az _ _ e] at jk;cases jk
   ·exact(Bn c1).keep λb xs z=>kd _ _ z
end
def L4{K:Frag}{mg:Str→Option Value}(T:Tp K mg):Sp:=λvs H Q _=>∃(p:Addr)(w:Int)(af:HM)(fp:List Addr),vs=[.ref p,.int w]∧dD T H p af fp∧af.belts.length≤120∧ZC af.belts af.names.length∧af.names.length≤60∧0≤w∧w<af.names.length∧
 ∀(r:Addr)(H':Hp)(di:List Int),H r=none→Zf H H'→H' r=some (.lst (di.map V.int))→ZaR af.belts w di→Q (.ref r) H'
section
variable {P:Program}{w:World}{K:Frag}{mg:Str→Option Value}{base:Heap}
theorem L5(T:Tp K mg):OkN P w base 6 T.b0 (L4 T):=by
 have gp:=T.a;have gq:=T.e;refine T.b0.F.okX HD (λvs H Q E h=>?_) (λcS A outer s H vs Q E av h=>?_)
 ·obtain⟨p,w,af,fp,rfl,_⟩:=h
  rfl
 ·have hu:=av.hu;obtain⟨p,w,af,fp,rfl,cw,hz,cU,SI,fM,f_,q⟩:=h;refine⟨_,(cy (c9 (G8 (K:=K) rfl rfl (by rfl) T.a9 (by rfl) T.bi (ak (cD (ej K) (fN (ak (pv 1) aK)) (nw rfl (fU (x:="belt") (zs:=["hall"]) (ix:=[0]) (cR vN) ["hall","work"] rfl rfl (by decide+kernel)) (gA (K:=K) rfl (gW (pv 0) T.a T.bt (Dh T) av cW (ak (pv 1) aK))) (λcl C s H fp=>⟨(c6 (i:=0) (show(["belt","hall"]:List Str).Nodup by decide+kernel) rfl (Or.inl rfl)),gx,(cv (ixk K) (gW (pv 1) T.a T.aU (qV T) av WH (ak (pv 0) aK)) aX (λ_ _=>rfl))⟩))) aK)))),?_⟩
  try dsimp only[L2.cxX,L2.ZI,L2.Zo]
  walk_at "rds";refine Rd.ZoP ?_;walk_at "rds";intro a aZ;have az:Zf H (upd H a (.lst [V.int w])):=cP aZ;have n8:(upd H a (.lst [V.int w])) a=some (.lst [V.int w]):=Ze;generalize upd H a (.lst [V.int w])=aj at*;have hX:=cw.same az;walk_at "rds";refine⟨p,w,af,fp,rfl,hX,by omega,λz=>absurd ⟨fM,f_⟩ z,λ_ _ e ay cp b' nC=>?_⟩;have fI:=hX.same b';have xG:=b' _ _ n8;have ia:=ZdF (ls:=af.belts) (w:=w);walk_at "rds";refine YX (gy (SqL.of nC)) (dR (by rw[GE];omega)) (λ_=>true) (λi=> .int (af.belts.getD ((ek af.belts w).getD i 0) dB).taker) (λi H' ds hi sm k=>?_) (λi H' ds hi _ sm k=>?_) (λr H' av sm jk=>?_)
  ·walk_at "rds";exact k H' (Zf.refl H')
  ·have dv:i<(ek af.belts w).length:=by simpa using hi
   have eJ:((ek af.belts w).map λi:Nat=>V.int i).getD i .non= .int ((ek af.belts w).getD i 0:Nat):=by simp[List.getD,dv]
   rw[eJ];have a6:(ek af.belts w).getD i 0∈ek af.belts w:=by
    have:(ek af.belts w).getD i 0=(ek af.belts w)[i]:=by simp[List.getD,dv]
    rw[this];exact fm dv
   have dz:=qy a6;generalize (ek af.belts w).getD i 0=j at*;have h_:=fI.same sm;walk_at "rds";refine⟨p,(j:Int),af,fp,rfl,h_,λz=>absurd ⟨qaN j,by omega⟩ z,λ_ _ t b ag cu=>?_⟩;have gZ:af.belts[j]? =some b:=ag;have df:af.belts.getD j dB=b:=by simp[List.getD,gZ]
   rw[df] at k;dsimp only[B5.v] at cu;walk_at "rds";exact k H' (Zf.refl H')
  ·have gP:H' r=some (.lst (((ek af.belts w).map λi=>(af.belts.getD i dB).taker).map V.int)):=by
    rw[jk,qao.mpr (by simp)];refine congrArg (λz=>some (HO.lst z)) ?_;refine qaw (by simp) λi ai aw=>?_;have:i<(ek af.belts w).length:=by simpa using aw
    simp[List.getD,this]
   have L6:=sm _ _ xG;refine Rd.Zar L6 gP (qaX (dR (by simp;omega))) (λu hu=>?_);have cI:Zf H' (upd H' u (.lst ([V.int w]++((ek af.belts w).map λi=>(af.belts.getD i dB).taker).map V.int))):=cP hu;have iV:(upd H' u (.lst ([V.int w]++((ek af.belts w).map λi=>(af.belts.getD i dB).taker).map V.int))) u=some (.lst ((w::(ek af.belts w).map λi=>(af.belts.getD i dB).taker).map V.int)):=Ze;generalize upd H' u (.lst ([V.int w]++((ek af.belts w).map λi=>(af.belts.getD i dB).taker).map V.int))=bC at*;walk_at "rds";refine Rd.Zof (.of iV) (.inr ⟨by simp;omega,λl nd fi=>by
    have:=Fo.Vn nd (n:=af.names.length) (λx ao=>by
     rcases qaf.mp (fi x ao) with z|z
     ·rw[z];exact⟨fM,f_⟩
     ·obtain⟨i,hi,rfl⟩:=qah.mp z;have:=cU.at (qy hi);exact⟨this.2.2.1,this.2.2.2⟩)
    omega⟩) (λx di ao aS a6=>?_)
   have qK:=az.trans (b'.trans (sm.trans cI));refine q x _ di (eG qK ao) (qK.trans (cP ao)) Ze ⟨aS,λy=>?_⟩;rw[a6 y,qaf,qah]
end
def Dj{K:Frag}{mg:Str→Option Value}(T:Tp K mg):Sp:=λvs H Q E=>∃(p aY h t:Addr)(af:HM)(fp:List Addr)(rs:List Int),vs=[.ref p,.ref h,.ref t]∧H p=some (.ins T.b aY [])∧dD T H h af fp∧H t=some (.lst (rs.map V.int))∧rs.length=af.names.length∧rs.length≤1000∧af.belts.length≤120∧ZC af.belts af.names.length∧af.names.length≤60∧
 ∀(H':Hp),kX T H' p af.belts rs→(∀b o,H b=some o→b≠p→H' b=some o)→Q .non H'
theorem Zeq{K:Frag}{mg:Str→Option Value}{T:Tp K mg}{H:Hp}{h t:Addr}{af:HM}{fp:List Addr}{rs:List Int}{Q:Addr→Hp→Prop}{E:XK}(cw:dD T H h af fp)(cu:H t=some (.lst (rs.map V.int)))(bA:rs.length=af.names.length)(hz:rs.length≤1000)(ag:af.belts.length≤120)(cU:ZC af.belts af.names.length)(xH:af.names.length≤60)
  (q:∀(p:Addr)(H':Hp),kX T H' p af.belts rs→H p=none→Zf H H'→Q p H'):
  ∀x aY,H x=none→H aY=none→aY≠x→Dj T (.ref x::([.ref h,.ref t]++ [])) (upd (upd H aY (.own x)) x (.ins T.b aY [])) (λv ay=>v= .non∧Q x ay) E:=by
 intro x aY ao k_ ne;have sm:Zf H (upd (upd H aY (.own x)) x (.ins T.b aY [])):=λb o e=>by rw[cq (dw e ao),cq (dw e k_)];exact e
 exact⟨x,aY,h,t,af,fp,rs,rfl,Ze,cw.same sm,sm _ _ cu,bA,hz,ag,cU,xH,λH' ax aR=>⟨rfl,q x H' ax ao (λb o e=>aR b o (sm b o e) (dw e ao))⟩⟩
section
variable {P:Program}{w:World}{K:Frag}{mg:Str→Option Value}{base:Heap}
theorem L7(T:Tp K mg):OkI P w mg base 7 T.b1 (Dj T):=by
 have q5:=T.i;have q6:=T.p;have gp:=T.a;have gq:=T.e;refine T.b1.F.okX HE (λvs H Q E h=>?_) (λcS A outer s H vs Q E av h=>?_)
 ·obtain⟨p,aY,h,t,af,fp,rs,rfl,_⟩:=h
  rfl
 ·have hu:=av.hu;obtain⟨p,aY,aZ,t,af,fp,rs,rfl,aS,cw,cu,bA,hz,IT,cU,xH,q⟩:=h;have rc:p∉fp:=by
   intro z;obtain⟨SJ,a,b,bs,rfl,ai,aw,cC,c3,ie,dS⟩:=cw;simp only[qaf,qaF,or_false] at z;rcases z with rfl|rfl|rfl|rfl
   ·rw[ai] at aS
    injection aS with e
    injection e with aW a7 c_
    cases c_
   ·rw[aw] at aS;cases aS
   ·rw[cC] at aS;cases aS
   ·rw[c3] at aS;cases aS
  have SK:((rs.map V.int).length:Int)=rs.length:=by simp
  refine⟨_,(b_ (nA (K:=K) rfl (pv 0) (nh (ov (K:=K) rfl) (by rfl) T.q qaM (ak (pv 2) aK)) rfl)
     (b_ (nA (K:=K) rfl (pv 0) (lK (pv 1) T.a T.aO (o1 T) av cW) rfl)
     (b_ (nA (K:=K) rfl (pv 0) (kg (xs:=["work"]) rfl (fU (x:="work") (zs:=["hall"]) (ix:=[1]) (cR qk) ["self","hall","turns"] rfl rfl (by decide+kernel)) (j1 rfl T.k (ak (dM (fj K) (by rfl) T.f qai (ak (pv 2) aK)) aK)) (λcl C s H fp=>⟨(c6 (i:=0) (show(["work","hall"]:List Str).Nodup by decide+kernel) rfl (Or.inl rfl)),gx,(da T.bY (LZ T) av WH (ak (pv 1) (ak (pv 0) aK)))⟩)) rfl)
     (b_ (nA (K:=K) rfl (pv 0) (kg (xs:=["work"]) rfl (fU (x:="work") (zs:=["hall"]) (ix:=[1]) (cR qk) ["self","hall","turns"] rfl rfl (by decide+kernel)) (j1 rfl T.k (ak (dM (fj K) (by rfl) T.f qai (ak (pv 2) aK)) aK)) (λcl C s H fp=>⟨(c6 (i:=0) (show(["work","hall"]:List Str).Nodup by decide+kernel) rfl (Or.inl rfl)),gx,(da T.bZ (L3 T) av WH (ak (pv 1) (ak (pv 0) aK)))⟩)) rfl)
     (cy (nA (K:=K) rfl (pv 0) (kg (xs:=["work"]) rfl (fU (x:="work") (zs:=["hall"]) (ix:=[1]) (cR qk) ["self","hall","turns"] rfl rfl (by decide+kernel)) (j1 rfl T.k (ak (dM (fj K) (by rfl) T.f qai (ak (pv 2) aK)) aK)) (λcl C s H fp=>⟨(c6 (i:=0) (show(["work","hall"]:List Str).Nodup by decide+kernel) rfl (Or.inl rfl)),gx,(da T.b0 (L5 T) av WH (ak (pv 1) (ak (pv 0) aK)))⟩)) rfl)))))),?_⟩
  try dsimp only[L2.cxX,L2.ZI,L2.Zo]
  walk_at "rds";refine Rd.UW (.of cu) (λa Dk=>?_);have lW:p≠a:=dw aS Dk;have az:Zf H (upd H a (.lst (rs.map V.int))):=cP Dk;have n8:(upd H a (.lst (rs.map V.int))) a=some (.lst (rs.map V.int)):=Ze;generalize upd H a (.lst (rs.map V.int))=aj at*;have f8:=az _ _ aS;walk_at "rds";have f1:eb [p] aj (upd aj p (.ins T.b aY [("turns",.ref a)])):=jH (by simp) f8 (by intro _ z;cases z);have Dl:eb [p] H (upd aj p (.ins T.b aY [("turns",.ref a)])):=az.frame.trans f1;have jw:(upd aj p (.ins T.b aY [("turns",.ref a)])) p=some (.ins T.b aY [("turns",.ref a)]):=Ze;have xG:=f1.keep _ _ n8 (by simpa using lW.symm);generalize upd aj p (.ins T.b aY [("turns",.ref a)])=ay at*;have tH:t≠p:=ha cu aS (by intro z;cases z);have fI:=cw.off Dl (λx ao z=>rc (by rw[←qab.mp z];exact ao));clear f1 f8 n8;walk_at "rds";intro b bF bs jP bb lM jj;have Do:=bb _ _ jw;have lX:p≠b:=dw jw jP;walk_at "rds";have dI:eb [p] bF (upd bF p (.ins T.b aY [("turns",.ref a),("rows",.ref b)])):=jH (by simp) Do (by intro _ z;cases z);have xI:eb [p] ay (upd bF p (.ins T.b aY [("turns",.ref a),("rows",.ref b)])):=bb.frame.trans dI;have ra:(upd bF p (.ins T.b aY [("turns",.ref a),("rows",.ref b)])) p=some (.ins T.b aY [("turns",.ref a),("rows",.ref b)]):=Ze;have q':=dI.keep _ _ lM (by simpa using lX.symm);have hU:=jj.keep dI.tups;generalize upd bF p (.ins T.b aY [("turns",.ref a),("rows",.ref b)])=bC at*;have xJ:=Dl.trans xI;have iU:=xJ.keep _ _ cu (by simpa using tH);have k':=cw.off xJ (λx ao z=>rc (by rw[←qab.mp z];exact ao));clear dI Do lM jj;walk_at "rds";refine Yf (own:=1) VB.y (dR (by rw[GE];exact hz)) (λi=>[some (.int (0+(i:Int)))]) (λ_=>rfl) (λ_=>true) (λ(i:Nat) v ay=>∃x,v=V.ref x∧∃vs,bC x=none∧ay x=some (.lst vs)∧Vp ay (hQ af.belts (0+(i:Int))) vs) (λ_ _ _ _ e ⟨x,ig,fk⟩=>⟨x,ig,(let⟨vs,a1,a2,a3⟩:=fk;⟨vs,a1,e _ _ a2,a3.keep λ_ _ z=>e _ _ z⟩)⟩) (λi du H' v ay gX hi sm y e' k=>?_) (λi H' ds hi sm k=>?_) (λic i H' ds hi ax hp0 hp1' sm k=>?_) (λc cj ys4 l3 cK mU s0=>?_)
  ·obtain⟨rfl,rfl⟩:=y;obtain⟨x1,rfl⟩:∃x1,du=[x1]:=by
    match du,e' with
    | [x1],_=>exact⟨x1,rfl⟩
   walk_at "rds";exact k _ (Zf.refl _)
  ·walk_at "rds";exact k H' (Zf.refl H')
  ·have dv:i<rs.length:=by simpa using hi
   walk_at "rds";refine⟨aZ,0+(i:Int),af,fp,rfl,k'.same sm,by omega,by omega,by omega,λx cj vs ao cK hx5 d0=>?_⟩;exact k _ cj cK ⟨x,rfl,vs,eG sm ao,u9 hp1' ao hx5,d0.keep λb xs z=>ZgA hp1' cK z⟩
  ·rw[qao.mpr (by simp),GE,qaa] at s0;obtain⟨g5,rfl,L8,Dp⟩:=Zeh s0;have tE:=cK _ _ ra;have Dq:p≠c:=dw ra l3;have Dr:∀x∈g5,x≠p:=λx ao z=>by
    obtain⟨j,aJ,e⟩:=qat ao;obtain⟨_,ig,_⟩:=Dp j (by omega);rw[dm aJ,e,z,ra] at ig;cases ig
   walk_at "rds";have em:eb [p] cj (upd cj p (.ins T.b aY [("turns",.ref a),("rows",.ref b),("takes",.ref c)])):=jH (by simp) tE (by intro _ z;cases z);have xK:eb [p] bC (upd cj p (.ins T.b aY [("turns",.ref a),("rows",.ref b),("takes",.ref c)])):=cK.frame.trans em;have tF:(upd cj p (.ins T.b aY [("turns",.ref a),("rows",.ref b),("takes",.ref c)])) p=some (.ins T.b aY [("turns",.ref a),("rows",.ref b),("takes",.ref c)]):=Ze;have wP:=em.keep _ _ mU (by simpa using Dq.symm);have L9:LL (upd cj p (.ins T.b aY [("turns",.ref a),("rows",.ref b),("takes",.ref c)])) ((List.range rs.length).map λw:Nat=>hQ af.belts w) g5:=by
    refine qw (by simp[L8]) λj x y aW a7=>?_;have aJ:j<rs.length:=by have:=(GM.mp a7).1;omega
    obtain⟨vs,_,fk,e0⟩:=Dp j aJ;rw[qaj,List.getElem?_range aJ] at aW;cases aW;have eM:g5.getD j 0=y:=by simp[List.getD,a7]
    rw[eM] at fk;rw[qbA] at e0;exact⟨vs,em.keep _ _ (kd _ _ fk) (by simpa using Dr y (qal a7)),e0.keep λb xs z=>em.tups _ _ (kd _ _ z)⟩
   generalize upd cj p (.ins T.b aY [("turns",.ref a),("rows",.ref b),("takes",.ref c)])=c7 at*;have rb:=xJ.trans xK;have wK:=rb.keep _ _ cu (by simpa using tH);have jC:=cw.off rb (λx ao z=>rc (by rw[←qab.mp z];exact ao));clear em tE mU s0;walk_at "rds";refine Yf (own:=1) VB.y (dR (by rw[GE];exact hz)) (λi=>[some (.int (0+(i:Int)))]) (λ_=>rfl) (λ_=>true) (λ(i:Nat) v ay=>∃x,v=V.ref x∧∃vs,c7 x=none∧ay x=some (.lst vs)∧Vp ay (oQ af.belts (0+(i:Int))) vs) (λ_ _ _ _ e ⟨x,ig,fk⟩=>⟨x,ig,(let⟨vs,a1,a2,a3⟩:=fk;⟨vs,a1,e _ _ a2,a3.keep λ_ _ z=>e _ _ z⟩)⟩) (λi du H' v ay gX hi sm y e' k=>?_) (λi H' ds hi sm k=>?_) (λic i H' ds hi ax hp0 hp1' sm k=>?_) (λd dq ys6 l5 dW pe s3=>?_)
   ·obtain⟨rfl,rfl⟩:=y;obtain⟨x1,rfl⟩:∃x1,du=[x1]:=by
     match du,e' with
     | [x1],_=>exact⟨x1,rfl⟩
    walk_at "rds";exact k _ (Zf.refl _)
   ·walk_at "rds";exact k H' (Zf.refl H')
   ·have dv:i<rs.length:=by simpa using hi
    walk_at "rds";refine⟨aZ,0+(i:Int),af,fp,rfl,jC.same sm,by omega,by omega,by omega,λx cj vs ao cK hx5 d0=>?_⟩;exact k _ cj cK ⟨x,rfl,vs,eG sm ao,u9 hp1' ao hx5,d0.keep λb xs z=>ZgA hp1' cK z⟩
   ·rw[qao.mpr (by simp),GE,qaa] at s3;obtain⟨id,rfl,L_,Ds⟩:=Zeh s3;have Dt:=dW _ _ tF;have qQ:p≠d:=dw tF l5;have Du:∀x∈id,x≠p:=λx ao z=>by
     obtain⟨j,aJ,e⟩:=qat ao;obtain⟨_,ig,_⟩:=Ds j (by omega);rw[dm aJ,e,z,tF] at ig;cases ig
    walk_at "rds";have rd:eb [p] dq (upd dq p (.ins T.b aY [("turns",.ref a),("rows",.ref b),("takes",.ref c),("gives",.ref d)])):=jH (by simp) Dt (by intro _ z;cases z);have tI:eb [p] c7 (upd dq p (.ins T.b aY [("turns",.ref a),("rows",.ref b),("takes",.ref c),("gives",.ref d)])):=dW.frame.trans rd;have xL:(upd dq p (.ins T.b aY [("turns",.ref a),("rows",.ref b),("takes",.ref c),("gives",.ref d)])) p=some (.ins T.b aY [("turns",.ref a),("rows",.ref b),("takes",.ref c),("gives",.ref d)]):=Ze;have L':=rd.keep _ _ pe (by simpa using qQ.symm);have Ma:LL (upd dq p (.ins T.b aY [("turns",.ref a),("rows",.ref b),("takes",.ref c),("gives",.ref d)])) ((List.range rs.length).map λw:Nat=>oQ af.belts w) id:=by
     refine qw (by simp[L_]) λj x y aW a7=>?_;have aJ:j<rs.length:=by have:=(GM.mp a7).1;omega
     obtain⟨vs,_,fk,e0⟩:=Ds j aJ;rw[qaj,List.getElem?_range aJ] at aW;cases aW;have eM:id.getD j 0=y:=by simp[List.getD,a7]
     rw[eM] at fk;rw[qbA] at e0;exact⟨vs,rd.keep _ _ (kd _ _ fk) (by simpa using Du y (qal a7)),e0.keep λb xs z=>rd.tups _ _ (kd _ _ z)⟩
    generalize upd dq p (.ins T.b aY [("turns",.ref a),("rows",.ref b),("takes",.ref c),("gives",.ref d)])=ev at*;have xM:=rb.trans tI;have Cc:=xM.keep _ _ cu (by simpa using tH);have mX:=cw.off xM (λx ao z=>rc (by rw[←qab.mp z];exact ao));clear rd Dt pe s3;walk_at "rds";refine Yf (own:=1) VB.y (dR (by rw[GE];exact hz)) (λi=>[some (.int (0+(i:Int)))]) (λ_=>rfl) (λ_=>true) (λ(i:Nat) v ay=>∃x,v=V.ref x∧∃di:List Int,ev x=none∧ay x=some (.lst (di.map V.int))∧ZaR af.belts i di) (λ_ _ _ _ e ⟨x,ig,fk⟩=>⟨x,ig,(let⟨vs,a1,a2,a3⟩:=fk;⟨vs,a1,e _ _ a2,a3⟩)⟩) (λi du H' v ay gX hi sm y e' k=>?_) (λi H' ds hi sm k=>?_) (λic i H' ds hi ax hp0 hp1' sm k=>?_) (λe fG ys8 qZ fR tl xN=>?_)
    ·obtain⟨rfl,rfl⟩:=y;obtain⟨x1,rfl⟩:∃x1,du=[x1]:=by
      match du,e' with
      | [x1],_=>exact⟨x1,rfl⟩
     walk_at "rds";exact k _ (Zf.refl _)
    ·walk_at "rds";exact k H' (Zf.refl H')
    ·have dv:i<rs.length:=by simpa using hi
     walk_at "rds";refine⟨aZ,0+(i:Int),af,fp,rfl,mX.same sm,by omega,cU,xH,by omega,by omega,λx cj di ao cK hx5 d0=>?_⟩;rw[qbA] at d0;exact k _ cj cK ⟨x,rfl,di,eG sm ao,u9 hp1' ao hx5,d0⟩
    ·rw[qao.mpr (by simp),GE,qaa] at xN;obtain⟨xO,rfl,Mb,Dv⟩:=Zeh xN;have Dw:=fR _ _ xL;have Mc:p≠e:=dw xL qZ;have Md:∀x∈xO,x≠p:=λx ao z=>by
      obtain⟨j,aJ,e⟩:=qat ao;obtain⟨_,ig,_⟩:=Dv j (by omega);rw[dm aJ,e,z,xL] at ig;cases ig
     walk_at "rds";have tJ:eb [p] fG (upd fG p (.ins T.b aY [("turns",.ref a),("rows",.ref b),("takes",.ref c),("gives",.ref d),("touched",.ref e)])):=jH (by simp) Dw (by intro _ z;cases z);have re:eb [p] ev (upd fG p (.ins T.b aY [("turns",.ref a),("rows",.ref b),("takes",.ref c),("gives",.ref d),("touched",.ref e)])):=fR.frame.trans tJ;have Me:(upd fG p (.ins T.b aY [("turns",.ref a),("rows",.ref b),("takes",.ref c),("gives",.ref d),("touched",.ref e)])) p=some (.ins T.b aY [("turns",.ref a),("rows",.ref b),("takes",.ref c),("gives",.ref d),("touched",.ref e)]):=Ze;have Mf:=tJ.keep _ _ tl (by simpa using Mc.symm);have Mg:TL (upd fG p (.ins T.b aY [("turns",.ref a),("rows",.ref b),("takes",.ref c),("gives",.ref d),("touched",.ref e)])) af.belts rs.length xO:=⟨Mb,λv cn=>by
      obtain⟨di,_,fk,e0⟩:=Dv v cn;exact⟨di,tJ.keep _ _ (kd _ _ fk) (by rw[qab];exact Md _ (by rw[dm (by omega)];exact fm _)),e0⟩⟩
     generalize upd fG p (.ins T.b aY [("turns",.ref a),("rows",.ref b),("takes",.ref c),("gives",.ref d),("touched",.ref e)])=ip at*;have xP:=xM.trans re;have SM:=xP.keep _ _ cu (by simpa using tH);have pb:=cw.off xP (λx ao z=>rc (by rw[←qab.mp z];exact ao));clear tJ Dw tl xN;have SN:=xI.trans (xK.trans tI);have xQ:=xK.trans (tI.trans re);have Dx:=tI.trans re;have Dy:∀{lc:Hp}{kI:List (List (Int×Int))}{is:List Addr},eb [p] lc ip→LL lc kI is→(∀x∈is,x≠p)→LL ip kI is:=λ{lc kI is} f l n=>l.keep f.tups λx ao=>by
      cases q:lc x with
      |none=>exact absurd q (l.dom x ao)
      |some o=>exact f.keep _ _ q (by simpa using n x ao)
     refine q ip ⟨aY,a,b,c,d,e,g5,id,xO,bs,Me,(xI.trans xQ).keep _ _ xG (by simpa using lW.symm),xQ.keep _ _ q' (by simpa using lX.symm),hU.keep xQ.tups,Dx.keep _ _ wP (by simpa using Dq.symm),Dy Dx L9 Dr,re.keep _ _ L' (by simpa using qQ.symm),Dy re Ma Du,Mf,Mg⟩ (λx o ai aw=>xP.keep _ _ ai (by simpa using aw))
end
def Mh{K:Frag}{mg:Str→Option Value}(T:Tp K mg):Sp:=λvs H Q E=>∃(p:Addr)(af:HM)(fp:List Addr),vs=[.ref p]∧dD T H p af fp∧af.names.length≤60∧af.belts.length≤120∧ZC af.belts af.names.length∧Yb af.belts∧(∀b∈af.belts,0≤b.start)∧
 (∀(rs:List Int),Rts af.belts af.names.length (λ_=>1) rs→(400<rs.sum→∀H',Zf H H'→E (.ref T.j) none H')∧(rs.sum≤400→
 (∀(t r:Addr)(H':Hp)(ck:List Nat)(d:Nat→Nat),H r=none→Zf H H'→H' t=some (.tup [.ref r,.non])→H' r=some (.lst (ck.map λw:Nat=>V.int w))→Fire.Yq (hB af.belts (startsL af.belts) rs) (λ_=>0) ck d→(∀v<rs.length,d v=ew rs v)→Q (.ref t) H')∧
 (∀(t u c g:Addr)(H':Hp)(ck:List Nat)(d:Nat→Nat)(ring:List Nat),H c=none→H g=none→Zf H H'→H' t=some (.tup [.non,.ref u])→H' u=some (.tup [.ref c,.ref g])→H' c=some (.lst ((d5 rs.length d).map V.int))→H' g=some (.lst (ring.map λj:Nat=>V.int j))→Fire.Yq (hB af.belts (startsL af.belts) rs) (λ_=>0) ck d→(∀w,¬fA af.belts (startsL af.belts) rs d w)→(∃v<rs.length,d v<ew rs v)→WE af.belts rs (startsL af.belts) (d5 rs.length d) ring→Q (.ref t) H')))∧
 (∀(ring:List (Int×Bool))(H':Hp),Zf H H'→kT af.belts ring→E (.ref T.g) none H')
section
variable {P:Program}{w:World}{K:Frag}{mg:Str→Option Value}{base:Heap}
theorem Mi(T:Tp K mg):OkN P w base 10 T.b2 (Mh T):=by
 have q5:=T.i;have q6:=T.p;refine T.b2.F.okX HF (λvs H Q E h=>?_) (λcS A outer s H vs Q E av h=>?_)
 ·obtain⟨p,af,fp,rfl,_⟩:=h
  rfl
 ·have hu:=av.hu;obtain⟨p,af,fp,rfl,cw,bA,hz,cU,hsz,gO,q,kB⟩:=h;refine⟨_,(cy (c9 (gW (FF T.b1 (L7 T) av T.a3 cW (ak (pv 0) (ak (da T.bq (CN T) av cW (ak (pv 0) aK)) aK))) T.i T.bW (LR T) av cW (ak (da T.br (CO T) av cW (ak (pv 0) aK)) aK)))),?_⟩
  try dsimp only[L2.cxX,L2.ZI,L2.Zo]
  walk_at "rds";refine⟨p,af,fp,rfl,cw,bA,by omega,cU,hsz,λr aj rs az av hF c1=>⟨λjN=>?_,λqM=>(q rs c1).1 qM aj az⟩,kB⟩;obtain⟨cA,cT⟩:=(q rs c1).2 jN;have hX:=cw.same az;have gD:=c1.len;walk_at "rds";refine Zeq hX hF gD (by omega) hz cU bA (λc ay ho l3 b'=>?_);have fI:=hX.same b';walk_at "rds";refine⟨p,af,fp,rfl,fI,by omega,λsa bF hsa bb Mj=>?_⟩;have iW:=ho.same bb;have ji:=az.trans (b'.trans bb);have l':(tot rs:Int)=rs.sum:=Zes λr av=>(by have:=c1.pos r av;omega);have Ml:∀x∈startsL af.belts,0≤x:=λx ao=>by
   obtain⟨b,ag,rfl⟩:=qah.mp ao;exact gO b ag
  walk_at "rds";refine⟨c,sa,af.belts,rs,startsL af.belts,rfl,iW,.of Mj,by simp[startsL],by rw[gD];exact cU,hsz,c1.bal,by omega,by omega,c1.pos,Ml,by omega,λt cX bC ck d gP cI iU gm ff hd=>?_,λt u dJ g bC ck d ring hc20 hg0 cI iU iV l4 xb ff dQ f6 hj=>?_⟩
  ·exact cA t cX bC ck d (eG ji gP) (ji.trans cI) iU gm ff hd
  ·exact cT t u dJ g bC ck d ring (eG ji hc20) (eG ji hg0) (ji.trans cI) iU iV l4 xb ff dQ f6 hj
end
def Mm{K:Frag}{mg:Str→Option Value}(T:Tp K mg):Sp:=λvs H Q E=>∃(p c:Addr)(af:HM)(fp:List Addr)(rs:List Int),vs=[.ref p,.ref c]∧dD T H p af fp∧af.belts.length≤1000∧SqL K H c (rs.map V.int)∧rs.length≤1000∧
 (¬kZ rs (startsL af.belts)→∀H',Zf H H'→E (.ref T.l) none H')∧(kZ rs (startsL af.belts)→∀H',Zf H H'→Q .non H')
section
variable {P:Program}{w:World}{K:Frag}{mg:Str→Option Value}{base:Heap}
theorem Mn(T:Tp K mg):OkN P w base 3 T.b3 (Mm T):=by
 refine T.b3.F.okX A1 (λvs H Q E h=>?_) (λcS A outer s H vs Q E av h=>?_)
 ·obtain⟨p,c,af,fp,rs,rfl,_⟩:=h
  rfl
 ·have hu:=av.hu;obtain⟨p,c,af,fp,rs,rfl,cw,hz,ax,n9,aW,q⟩:=h;refine⟨_,(b_ (c0 (i:=2) A1.nd rfl (Or.inl rfl) (da T.br (CO T) av cW (ak (pv 0) aK)))
     (b_ (ec (PW.pt (jo (ij (hv (K:=K) rfl (dM (F4 (K:=K) rfl) (by rfl) T.c qan (ak (pv 1) (ak (fE (ak (jD (v:= .ty "list") (by rfl) T.q qaM rfl) (ak (jD (v:= .ty "tuple") (by rfl) T.au qca rfl) aK))) aK))) (λ_=>rfl))) (jX (dF (ke (K:=K) rfl hu) (dM (fj K) (by rfl) T.f qai (ak (pv 1) aK)) (dM (fj K) (by rfl) T.f qai (ak (pv 2) aK)) (dA _))))) (cy (jI T.E.g T.E.e qay rfl (ak Y1 aK))) el)
     (cy (ec (ij (hv (K:=K) rfl (dM (u5 (K:=K) rfl rfl) (by rfl) T.a0 PyProof.Rows.boot_all (ak (kg (xs:=["room","start"]) rfl (fU (x:="room") (zs:=[]) (ix:=[]) (cR vO) ["hall","rooms","starts"] rfl rfl (by decide+kernel)) (ve (K:=K) rfl rfl T.a1 (ak (pv 1) (ak (pv 2) aK))) (λcl C s H fp=>⟨(gK (K:=K) (n:=2) rfl rfl (d8 (c6 (i:=0) (show(["room","start"]:List Str).Nodup by decide+kernel) rfl (Or.inl rfl)) (d8 (c6 (i:=1) (show(["room","start"]:List Str).Nodup by decide+kernel) rfl (Or.inl rfl)) gI))),gx,(da T.x7 (qO T) av WH (ak (pv 0) (ak (pv 1) aK)))⟩)) aK)) (λ_=>rfl))) (cy (jI T.E.g T.E.e qay rfl (ak Y1 aK))) el)))),?_⟩
  try dsimp only[L2.cxX,L2.ZI,L2.Zo]
  walk_at "rds";refine⟨p,af,fp,rfl,cw,hz,λr aj av az hF=>?_⟩;have jT:=az.seq ax;have Mo:=SqL.of (K:=K) hF;have ei:(startsL af.belts).length=af.belts.length:=by simp[startsL]
  generalize startsL af.belts=e5 at*;walk_at "rds";refine⟨by show 2≤sizeLine;decide,λu fx=>?_⟩;have b':Zf aj (upd aj u (.tup [V.ty "list",V.ty "tuple"])):=cP fx;have mF:(upd aj u (.tup [V.ty "list",V.ty "tuple"])) u=some (.tup [V.ty "list",V.ty "tuple"]):=Ze;generalize upd aj u (.tup [V.ty "list",V.ty "tuple"])=ay at*;have ho:=b'.seq jT;have fq:=b'.seq Mo;have jh:=az.trans b';walk_at "rds";refine Rd.Zo4 ho mF ?_;walk_at "rds";have ia:(((rs.map V.int).length:Int)=((e5.map V.int).length:Int))↔rs.length=e5.length:=by simp only[GE];omega
  by_cases ed:rs.length=e5.length
  ·rw[if_neg (by simp[ed])];walk_at "rds";refine⟨c,r,rfl,⟨_,ho⟩,⟨_,fq⟩,?_⟩;refine Yf (own:=2) (vg ho fq (by simp[ed])) (dR (by rw[GE];exact n9)) (λi=>[some (.int (rs.getD i 0)),some (.int (e5.getD i 0))]) (λ_=>rfl) (λ_=>true) (λi v _=>v= .bl (decide (e5.getD i 0≤rs.getD i 0))) (λ_ _ _ _ _ z=>z) (λi du H' v bF gX hi sm y e' k=>?_) (λi H' ds hi sm k=>?_) (λic i H' ds hi iJ hp0 f8 sm k=>?_) (λd bF ys hd sm fi c1=>?_)
   ·obtain⟨t,cu,rfl,rfl⟩:=y;obtain⟨x1,x2,rfl⟩:∃x1 x2,du=[x1,x2]:=by
     match du,e' with
     | [x1,x2],_=>exact⟨x1,x2,rfl⟩
    have Dz:i<rs.length:=by rw[GE] at hi;exact hi
    have iO:i<e5.length:=by omega
    have Mp:(rs.map V.int).getD i .non= .int (rs.getD i 0):=by rw[dm Dz];simp[List.getD,Dz]
    have rf:(e5.map V.int).getD i .non= .int (e5.getD i 0):=by rw[dm iO];simp[List.getD,iO]
    rw[Mp,rf];refine Rd.Wd (.of Ze) rfl ?_;walk_at "rds";exact k _ (cP cu)
   ·walk_at "rds";exact k H' (Zf.refl H')
   ·walk_at "rds";exact k _ H' (Zf.refl H') rfl
   ·rw[qao.mpr (by simp),GE] at c1;have eM:=BB c1;have j7:=SqL.of (K:=K) (eM▸fi);have jQ:=jh.trans sm;walk_at "rds"
    by_cases il:kZ rs e5
    ·rw[Zfg.mpr il.2];walk_at "rds";exact q il _ jQ
    ·have bB:(((List.range rs.length).map λi=>decide (e5.getD i 0≤rs.getD i 0)).all id)=false:=by
      cases e:(((List.range rs.length).map λi=>decide (e5.getD i 0≤rs.getD i 0)).all id) with
      |false=>rfl
      |true=>exact absurd ⟨ed,Zfg.mp e⟩ il
     rw[bB];walk_at "rds";exact aW il _ jQ
  ·rw[if_pos (by simp;omega)];walk_at "rds";exact aW (λz=>ed z.1) _ jh
end
def Mq{K:Frag}{mg:Str→Option Value}(T:Tp K mg):Sp:=λvs H Q E=>∃(ma ba:Addr)(hh:List Str)(bs:List V)(ls:List B5),vs=[.ref ma,.ref ba]∧H ma=some (.lst (hh.map V.str))∧H ba=some (.lst bs)∧d7 H bs ls∧Zax hh∧ls.length≤1000∧
 ∀(p:Addr)(fp:List Addr)(H':Hp),dD T H' p ⟨hh,ls⟩ fp→(∀x∈fp,H x=none)→Zf H H'→Q (.ref p) H'
section
variable {P:Program}{w:World}{K:Frag}{mg:Str→Option Value}{base:Heap}
theorem Mr(T:Tp K mg):OkN P w base 3 T.b4 (Mq T):=by
 have gp:=T.a;have gq:=T.e;refine T.b4.F.okX sx (λvs H Q E h=>?_) (λcS A outer s H vs Q E av h=>?_)
 ·obtain⟨ma,ba,hh,bs,ls,rfl,_⟩:=h
  rfl
 ·have hu:=av.hu;obtain⟨ma,ba,hh,bs,ls,rfl,tK,tL,dg,⟨h6,ks,Ms⟩,hz,q⟩:=h;have g8:=dg.length;refine⟨_,(b_ (c0 (i:=2) sx.nd rfl (Or.inl rfl) (zn T.bm (B4 T) av T.a2 cW))
     (b_ (gs PassesOwn.leaving rfl (gA (K:=K) rfl (pv 0)) (c6 (i:=3) sx.nd rfl (Or.inl rfl)) (cy (fL (gW (pv 2) T.a T.x5 (B0 T) av cW (ak (pv 3) aK)))))
     (b_ (gs PassesOwn.leaving rfl (gA (K:=K) rfl (pv 1)) (c6 (i:=4) sx.nd rfl (Or.inl rfl)) (cy (fL (gW (pv 2) T.a T.bl (B2 T) av cW (ak (pv 4) aK)))))
     (cy (c9 (pv 2)))))),?_⟩
  try dsimp only[L2.cxX,L2.ZI,L2.Zo]
  walk_at "rds";intro aS fp aj cw bB sm;have SO:ma∉fp:=λz=>by rw[bB ma z] at tK;cases tK
  have SQ:ba∉fp:=λz=>by rw[bB ba z] at tL;cases tL
  have SR:=sm _ _ tK;walk_at "rds";refine WG (gy (SqL.of (p5 (q:=ma) (o:= .lst (hh.map V.str))))) (λi ae H'=>∃(fe:List Addr)(a1:Option V),ae=[some (.ref ma),some (.ref ba),some (.ref aS),a1,none]∧dD T H' aS ⟨hh.take i,[]⟩ fe∧Zf H H'∧(∀x∈fe,H x=none)) ⟨fp,_,rfl,by simpa using cw,sm,bB⟩ ?_ ?_ ?_
  ·rintro i ae H' ⟨_,_,_,_,h,_⟩;exact Ur (h _ _ tK)
  ·rintro i ae ay hi ⟨jg,a1,rfl,fI,b',l7⟩;have dv:i<hh.length:=by simpa using hi
   have eJ:(hh.map V.str).getD i .non= .str hh[i]:=by simp[List.getD,dv]
   rw[eJ];have hok:=ks _ (fm dv);have oj:hh[i]∉hh.take i:=λz=>by
    obtain⟨j,aJ,e⟩:=qat z;rw[List.getElem_take] at e;have eS:j<i:=by rw[qaP] at aJ;omega
    have:=(List.getElem_inj (xs:=hh) (h₀:=by omega) (h₁:=dv) h6).mp e;omega
   have tA:=qam dv;generalize hh[i]=x at*;walk_at "rds";refine ZbA fI hok oj (by simp;omega) (λbF rh h_ kE Mt=>?_);refine⟨rh,_,rfl,by rw[tA];exact h_,λb o e=>kE.keep _ _ (b' _ _ e) (λz=>by rw[l7 b z] at e;cases e),λx ao=>?_⟩;rcases Mt x ao with z|z
   ·exact l7 x z
   ·exact eG b' z
  rintro ae ay ⟨jg,a1,rfl,fI,b',l7⟩;rw[GE,qa4] at fI;have SS:=b' _ _ tL;walk_at "rds";refine WG (gy (SqL.of (p5 (q:=ba) (o:= .lst bs)))) (λi ae H'=>∃(fe:List Addr)(a2:Option V),ae=[some (.ref ma),some (.ref ba),some (.ref aS),a1,a2]∧dD T H' aS ⟨hh,ls.take i⟩ fe∧Zf H H'∧(∀x∈fe,H x=none)) ⟨jg,_,rfl,by simpa using fI,b',l7⟩ ?_ ?_ ?_
  ·rintro i ae H' ⟨_,_,_,_,h,_⟩;exact Ur (h _ _ tL)
  ·rintro i ae bF hi ⟨rh,a2,rfl,h_,bb,jS⟩;have dL:i<ls.length:=by omega
   obtain⟨t,e9,eg⟩:=dg.at (GT dL);have df:bs.getD i .non= .ref t:=by simp[List.getD,e9]
   rw[df];have dX:=qam dL;generalize ls[i]=l at*;walk_at "rds";refine⟨aS,t,l,⟨hh,ls.take i⟩,rh,rfl,h_,bb _ _ eg,by simp;omega,λbC s7 k' l8 Mu=>?_⟩;refine⟨s7,_,rfl,by rw[dX];exact k',λb o e=>l8.keep _ _ (bb _ _ e) (λz=>by rw[jS b z] at e;cases e),λx ao=>?_⟩;rcases Mu x ao with z|z
   ·exact jS x z
   ·exact eG bb z
  rintro ae bF ⟨rh,a2,rfl,h_,bb,jS⟩;rw[g8,qa4] at h_;walk_at "rds";exact q aS rh bF h_ jS bb
end
def Mv{K:Frag}{mg:Str→Option Value}(T:Tp K mg):Sp:=λvs H Q _=>∃(t:Addr)(b:B5)(r:Int),vs=[.ref t,.int r]∧H t=some (.tup b.v)∧∀u H',H u=none→Zf H H'→H' u=some (.tup (k4 b r).v)→Q (.ref u) H'
section
variable {P:Program}{w:World}{K:Frag}{mg:Str→Option Value}{base:Heap}
theorem Mw(T:Tp K mg):OkN P w base 1 T.b5 (Mv T):=by
 refine T.b5.F.okX HG (λvs H Q E h=>?_) (λcS A outer s H vs Q E av h=>?_)
 ·obtain⟨t,b,r,rfl,_⟩:=h
  rfl
 ·have hu:=av.hu;obtain⟨t,b,r,rfl,cu,q⟩:=h;dsimp only[B5.v] at cu;refine⟨_,(cy (c9 (fE (ak (cv (ixk K) (pv 0) aX (λ_ _=>rfl)) (ak (cv (ixk K) (pv 0) aX (λ_ _=>rfl)) (ak (cv (ixk K) (pv 0) aX (λ_ _=>rfl)) (ak (cv (ixk K) (pv 0) aX (λ_ _=>rfl)) (ak (cD j3 (pv 1) (cv (ixk K) (pv 0) aX (λ_ _=>rfl))) aK)))))))),?_⟩
  try dsimp only[L2.cxX,L2.ZI,L2.Zo]
  walk_at "rds";refine⟨by show 5≤sizeLine;decide,λu fw=>?_⟩;exact q u _ fw (cP fw) Ze
end
def Mx{K:Frag}{mg:Str→Option Value}(T:Tp K mg):Sp:=λvs H Q E=>∃(p c:Addr)(af:HM)(fp:List Addr)(rs:List Int),vs=[.ref p,.ref c]∧dD T H p af fp∧af.belts.length≤400∧Zax af.names∧SqL K H c (rs.map V.int)∧rs.length≤1000∧
 (¬kZ rs (startsL af.belts)→∀H',Zf H H'→E (.ref T.l) none H')∧
 (kZ rs (startsL af.belts)→∀(eK:Addr)(jg:List Addr)(H':Hp),dD T H' eK ⟨af.names,af.belts++dP af.belts rs⟩ jg→(∀x∈jg,H x=none)→Zf H H'→Q (.ref eK) H')
section
variable {P:Program}{w:World}{K:Frag}{mg:Str→Option Value}{base:Heap}
theorem Mz(T:Tp K mg):OkN P w base 4 T.b6 (Mx T):=by
 have gp:=T.a;have gq:=T.e;refine T.b6.F.okX A2 (λvs H Q E h=>?_) (λcS A outer s H vs Q E av h=>?_)
 ·obtain⟨p,c,af,fp,rs,rfl,_⟩:=h
  rfl
 ·have hu:=av.hu;obtain⟨p,c,af,fp,rs,rfl,cw,hz,ks,ax,n9,aW,q⟩:=h;refine⟨_,(b_ (fL (da T.b3 (Mn T) av cW (ak (pv 0) (ak (pv 1) aK))))
     (b_ (c0 (i:=2) A2.nd rfl (Or.inl rfl) (lK (pv 0) T.a T.aO (o1 T) av cW))
     (cy (c9 (da T.b4 (Mr T) av cW (ak (lK (pv 0) T.a T.bd (wF T) av cW) (ak (cD (ej K) (pv 2) (kg (xs:=["row","room"]) rfl (fU (x:="row") (zs:=[]) (ix:=[]) (cR vP) ["hall","rooms","belts"] rfl rfl (by decide+kernel)) (ve (K:=K) rfl rfl T.a1 (ak (pv 2) (ak (pv 1) aK))) (λcl C s H fp=>⟨(gK (K:=K) (n:=2) rfl rfl (d8 (c6 (i:=0) (show(["row","room"]:List Str).Nodup by decide+kernel) rfl (Or.inl rfl)) (d8 (c6 (i:=1) (show(["row","room"]:List Str).Nodup by decide+kernel) rfl (Or.inl rfl)) gI))),gx,(da T.b5 (Mw T) av WH (ak (pv 0) (ak (pv 1) aK)))⟩))) aK))))))),?_⟩
  try dsimp only[L2.cxX,L2.ZI,L2.Zo]
  walk_at "rds";refine⟨p,c,af,fp,rs,rfl,cw,by omega,ax,n9,aW,λmY aj az=>?_⟩;have hX:=cw.same az;have ed:rs.length=af.belts.length:=by have:=mY.1;simpa[startsL] using this
  walk_at "rds";intro b ay bs ag b' kR iu;have fI:=hX.same b';walk_at "rds";refine⟨p,af,fp,rfl,fI,λn bF bA bb MA=>?_⟩;have lM:=bb _ _ kR;have DB:=SqL.of (K:=K) lM;have jj:=iu.keep (λb xs e=>bb _ _ e);have g8:=jj.length;have ji:=az.trans (b'.trans bb);have iW:=ji.seq ax;walk_at "rds";refine⟨b,c,rfl,⟨_,DB⟩,⟨_,iW⟩,?_⟩;refine Yf (own:=2) (vg DB iW (by rw[GE];omega)) (dR (by omega)) (λi=>[some (bs.getD i .non),some (.int (rs.getD i 0))]) (λ_=>rfl) (λ_=>true) (λi v H'=>∃u,v= .ref u∧H' u=some (.tup (k4 (af.belts.getD i dB) (rs.getD i 0)).v)) (λ_ _ _ _ s ⟨u,x,y⟩=>⟨u,x,s _ _ y⟩) (λi du H' v bC gX hi sm y e' k=>?_) (λi H' ds hi sm k=>?_) (λic i H' ds hi iJ hp0 f8 sm k=>?_) (λd bC ys hd sm o2 c1=>?_)
  ·obtain⟨t,cu,rfl,rfl⟩:=y;obtain⟨x1,x2,rfl⟩:∃x1 x2,du=[x1,x2]:=by
    match du,e' with
    | [x1,x2],_=>exact⟨x1,x2,rfl⟩
   have iO:i<rs.length:=by omega
   have rf:(rs.map V.int).getD i .non= .int (rs.getD i 0):=by rw[dm iO];simp[List.getD,iO]
   rw[rf];refine Rd.Wd (.of Ze) rfl ?_;walk_at "rds";exact k _ (cP cu)
  ·walk_at "rds";exact k H' (Zf.refl H')
  ·obtain⟨t,e9,eg⟩:=jj.getD (i:=i) (by omega);rw[e9];walk_at "rds";refine⟨t,_,_,rfl,sm _ _ eg,λu cj hu cK n6=>?_⟩;exact k _ cj cK ⟨u,rfl,by rw[VX (λz=>by rw[z] at hu;obtain⟨ys,e⟩:=f8;rw[e] at hu;cases hu)];exact n6⟩
  rw[qao.mpr (by simp),g8] at c1;have rj:d7 bC ys (dP af.belts rs):=(sO c1).keep λb xs e=>kd _ _ e;have kj:=rj.length;rw[k6] at kj;have q':=sm _ _ lM;have MB:=sm _ _ MA;walk_at "rds";refine Rd.Zar q' o2 (qaX (dR (by omega))) (λe cp=>?_);have cK:Zf bC (upd bC e (.lst (bs++ys))):=cP cp;have l6:(upd bC e (.lst (bs++ys))) e=some (.lst (bs++ys)):=Ze;generalize upd bC e (.lst (bs++ys))=cj at*;have jR:=(ji.trans sm).trans cK;walk_at "rds";refine⟨n,e,af.names,bs++ys,af.belts++dP af.belts rs,rfl,cK _ _ MB,l6,((jj.keep λb xs e=>sm _ _ e).app rj).keep (λb xs e=>cK _ _ e),ks,by rw[qac,k6];omega,λeK jg c7 jC tb dn=>?_⟩;exact q mY eK jg c7 jC (λx ao=>eG jR (tb x ao)) (jR.trans dn)
end
def DC{K:Frag}{mg:Str→Option Value}(T:Tp K mg):Sp:=λvs H Q E=>∃(p c:Addr)(af:HM)(fp:List Addr)(rm:List Int),vs=[.ref p,.ref c]∧dD T H p af fp∧af.belts.length≤60∧ZC af.belts af.names.length∧Yb af.belts∧(∀b∈af.belts,0≤b.start)∧Zax af.names∧SqL K H c (rm.map V.int)∧rm.length≤1000∧
 (∀(ring:List (Int×Bool))(H':Hp),Zf H H'→kT af.belts ring→E (.ref T.g) none H')∧
 (∀rs,Rts af.belts af.names.length (λ_=>1) rs→400<rs.sum→∀H',Zf H H'→E (.ref T.j) none H')∧
 (∀rs,Rts af.belts af.names.length (λ_=>1) rs→rs.sum≤400→(¬kZ rm (startsL af.belts)→∀H',Zf H H'→E (.ref T.l) none H')∧(kZ rm (startsL af.belts)→
  (∀(t r:Addr)(H':Hp)(ck:List Nat)(d:Nat→Nat),H r=none→Zf H H'→H' t=some (.tup [.ref r,.non])→H' r=some (.lst (ck.map λw:Nat=>V.int w))→Fire.Yq (hB (af.belts++dP af.belts rm) (startsL (af.belts++dP af.belts rm)) rs) (λ_=>0) ck d→(∀v<rs.length,d v=ew rs v)→Q (.ref t) H')∧
  (∀(t u c g:Addr)(H':Hp)(ck:List Nat)(d:Nat→Nat)(ring:List Nat),H c=none→H g=none→Zf H H'→H' t=some (.tup [.non,.ref u])→H' u=some (.tup [.ref c,.ref g])→H' c=some (.lst ((d5 rs.length d).map V.int))→H' g=some (.lst (ring.map λj:Nat=>V.int j))→Fire.Yq (hB (af.belts++dP af.belts rm) (startsL (af.belts++dP af.belts rm)) rs) (λ_=>0) ck d→(∀w,¬fA (af.belts++dP af.belts rm) (startsL (af.belts++dP af.belts rm)) rs d w)→(∃v<rs.length,d v<ew rs v)→WE (af.belts++dP af.belts rm) rs (startsL (af.belts++dP af.belts rm)) (d5 rs.length d) ring→Q (.ref t) H')))
section
variable {P:Program}{w:World}{K:Frag}{mg:Str→Option Value}{base:Heap}
theorem DD(T:Tp K mg):OkN P w base 11 T.bu (DC T):=by
 refine T.bu.F.okX HH (λvs H Q E h=>?_) (λcS A outer s H vs Q E av h=>?_)
 ·obtain⟨p,c,af,fp,rm,rfl,_⟩:=h
  rfl
 ·have hu:=av.hu;obtain⟨p,c,af,fp,rm,rfl,cw,hz,cU,hsz,gO,ks,ax,n9,aW,a7,q⟩:=h;have Ms:=ks.2.2;refine⟨_,(b_ (fL (da T.bq (CN T) av cW (ak (pv 0) aK)))
     (cy (c9 (da T.b2 (Mi T) av cW (ak (da T.b6 (Mz T) av cW (ak (pv 0) (ak (pv 1) aK))) aK))))),?_⟩
  try dsimp only[L2.cxX,L2.ZI,L2.Zo]
  walk_at "rds";refine⟨p,af,fp,rfl,cw,by omega,by omega,cU,hsz,λr aj rs az av hF c1=>⟨λjN=>?_,λqM=>a7 rs c1 qM aj az⟩,aW⟩;obtain⟨c_,q⟩:=q rs c1 jN;have hX:=cw.same az;have jT:=az.seq ax;walk_at "rds";refine⟨p,c,af,fp,rm,rfl,hX,by omega,ks,jT,n9,λz H' s=>c_ z H' (az.trans s),λmY eK jg ay fI l7 b'=>?_⟩;obtain⟨cA,cT⟩:=q mY;have iw:=az.trans b';have ed:rm.length=af.belts.length:=by have:=mY.1;simpa[startsL] using this
  have MC:=BD (rs:=rs) (by rw[c1.len];exact oW (rm:=rm) cU) (sP hsz) c1.pos (Iu c1.bal);walk_at "rds";refine⟨eK,⟨af.names,af.belts++dP af.belts rm⟩,jg,rfl,fI,by show af.names.length≤60;omega,by rw[qac,k6];omega,oW cU,sP hsz,λb ag=>?_,λgY MD=>?_,λring H' _ av=>(BC av (oW cU) (sP hsz) MC).elim⟩
  ·rcases qar.mp ag with y|y
   ·exact gO b y
   ·obtain⟨j,aJ,rfl⟩:=ZbE y;have aw:=mY.2 j (by omega);have e:(startsL af.belts).getD j 0=af.belts[j].start:=by simp[startsL,List.getD,aJ]
    rw[e] at aw;show 0≤rm.getD j 0-af.belts[j].start;omega
  have ME:gY=rs:=Zja cU hsz c1 MD;subst ME;refine⟨λz=>by omega,λ_=>⟨λt he bF ck d hW bb f9 hr3' ff hd=>cA t he bF ck d (eG iw hW) (iw.trans bb) f9 hr3' ff hd,λt u iv g bF ck d ring l3 hg0 bb f9 hD iW xF ff dQ f6 hj=>cT t u iv g bF ck d ring (eG iw l3) (eG iw hg0) (iw.trans bb) f9 hD iW xF ff dQ f6 hj⟩⟩
end
def MF{K:Frag}{mg:Str→Option Value}(T:Tp K mg):Sp:=λvs H Q _=>∃(a b:Addr)(w:Int)(bs:List V)(rows:List B5)(hs:List Int),vs=[.ref a,.ref b,.int w]∧SqL K H a bs∧d7 H bs rows∧SqL K H b (hs.map V.int)∧hs.length=rows.length∧rows.length≤1000∧
 ∀r H',H r=none→Zf H H'→H' r=some (.lst ((kU rows hs w).map V.int))→Q (.ref r) H'
section
variable {P:Program}{w:World}{K:Frag}{mg:Str→Option Value}{base:Heap}
theorem MG(T:Tp K mg):OkN P w base 1 T.b7 (MF T):=by
 refine T.b7.F.okX sy (λvs H Q E h=>?_) (λcS A outer s H vs Q E av h=>?_)
 ·obtain⟨a,b,w,bs,rows,hs,rfl,_⟩:=h
  rfl
 ·have hu:=av.hu;obtain⟨a,b,w,bs,rows,hs,rfl,aZ,dg,ag,af,hz,q⟩:=h;have g8:=dg.length;refine⟨_,(b_ (c0 (i:=3) sy.nd rfl (Or.inl rfl) (nh (ov (K:=K) rfl) (by rfl) T.q qaM (ak (pv 1) aK)))
     (b_ (gs PassesOwn.leaving rfl (mB (K:=K) rfl rfl T.h (ak (pv 0) aK)) (gK (K:=K) (n:=2) rfl rfl (d8 (c6 (i:=4) sy.nd rfl (Or.inl rfl)) (d8 (c6 (i:=5) sy.nd rfl (Or.inl rfl)) gI))) (b_ (nn (ec (dF (gJ (K:=K) rfl hu) (cv (ixk K) (pv 5) aX (λ_ _=>rfl)) (pv 2) (dA _)) (cy (iA (cD j3 (cv (ixk K) (pv 3) (pv 4) (λ_ _=>rfl)) (cv (ixk K) (pv 5) aX (λ_ _=>rfl))) (kA (pv 3) (pv 4) mu))) el))
     (cy (ec (dF (gJ (K:=K) rfl hu) (cv (ixk K) (pv 5) aX (λ_ _=>rfl)) (pv 2) (dA _)) (cy (iA (cD (ej K) (cv (ixk K) (pv 3) (pv 4) (λ_ _=>rfl)) (cv (ixk K) (pv 5) aX (λ_ _=>rfl))) (kA (pv 3) (pv 4) mu))) el))))
     (cy (c9 (pv 3))))),?_⟩
  try dsimp only[L2.cxX,L2.ZI,L2.Zo]
  walk_at "rds";refine Rd.UW ag (λc ax=>?_);have sW:Zf H (upd H c (.lst (hs.map V.int))):=cP ax;have jT:(upd H c (.lst (hs.map V.int))) c=some (.lst (hs.map V.int)):=Ze;generalize upd H c (.lst (hs.map V.int))=aj at*;have n8:=sW.seq aZ;generalize DE:kU rows hs w=X at*;have tM:X.length=hs.length:=by rw[←DE];exact v7 af
  walk_at "rds";refine Wl (mD aZ) (λi ae H'=>Zf H H'∧(∃a1 a2,ae=[some (.ref a),some (.ref b),some (.int w),some (.ref c),a1,a2])∧H' c=some (.lst ((X.take i++hs.drop i).map V.int))) ⟨sW,⟨_,_,rfl⟩,by simpa using jT⟩ (λi ae H' h=>h.1) ?_ ?_
  ·rintro i ae ay v bF hi ⟨sm,⟨a1,a2,rfl⟩,ho⟩ ⟨t,cu,rfl,rfl⟩;have dL:i<rows.length:=by omega
   have pf:i<hs.length:=by omega
   have DF:i<X.length:=by omega
   have ex:X[i]=hs[i]-(if rows[i].taker=w then rows[i].take else 0)+(if rows[i].giver=w then rows[i].give else 0):=by subst DE;exact Zca dL pf DF
   rw[ZjW pf] at ho;obtain⟨u,fx,gM⟩:=dg.at (GT dL);have df:bs.getD i .non= .ref u:=by simp[List.getD,fx]
   have jf:∀v,atI (mid X hs i v) (i:Int)=some (.int v):=λv=>gS (FA pf tM);have qR:∀v,(i:Int)<(mid X hs i v).length:=λv=>by rw[Zmp pf tM];omega
   have ti:(i:Int).toNat=i:=by omega
   have kQ:=Zma (X:=X) (hs:=hs) DF;rw[df];refine Rd.Wd (.of Ze) rfl ?_;have hV:Zf ay (upd ay t (.tup [.int i,.ref u])):=cP cu;have bb:=sm.trans hV;have iW:=hV _ _ ho;generalize upd ay t (.tup [.int i,.ref u])=bF at*;generalize X[i]=xi at*;generalize rows[i]=r at*;generalize hs[i]=cw at*;dsimp only[B5.v] at gM;have hD:=bb _ _ gM;walk_at "rds";refine Rd.cut (λci bC=>Zf H bC∧ci=[some (.ref a),some (.ref b),some (.int w),some (.ref c),some (.int (i:Int)),some (.ref u)]∧bC c=some (.lst (mid X hs i (cw-if r.taker=w then r.take else 0)))) ?k2 ?fr
   case fr=>
    walk_at "rds";refine Rd.ifD (λd=>?_) (λd=>?_)
    ·have cE:SqL K bF c _:= .of iW;have MH:=jf cw;have MI:=qR cw;walk_at "rds";refine⟨bb.new ax,rfl,?_⟩;rw[Ze,ti,zg pf tM,if_pos d]
    ·walk_at "rds";refine⟨bb,rfl,?_⟩;rw[if_neg d,Int.sub_zero];exact iW
   case k2=>
    rintro ci bC ⟨kc,rfl,l4⟩;have iV:=kc _ _ gM;generalize cw-(if r.taker=w then r.take else 0)=i4 at*;have cE:SqL K bC c _:= .of l4;have MH:=jf i4;have MI:=qR i4;walk_at "rds";refine Rd.ifD (λd=>?_) (λd=>?_)
    ·walk_at "rds";refine⟨kc.new ax,⟨_,_,rfl⟩,?_⟩;rw[Ze,ti,zg pf tM,←kQ,ex,if_pos d]
    ·walk_at "rds";refine⟨kc,⟨_,_,rfl⟩,?_⟩;rw[←kQ,ex,if_neg d,Int.add_zero];exact l4
  ·rintro ae H' ⟨sm,⟨a1,a2,rfl⟩,ho⟩;walk_at "rds";refine q c H' ax sm ?_;rw[ho,qaS (by omega),List.drop_eq_nil_of_le (by omega),qb2]
end
def MJ{K:Frag}{mg:Str→Option Value}(T:Tp K mg):Sp:=λvs H Q _=>∃(a b c:Addr)(w:Int)(bs:List V)(ls:List B5)(hs rm:List Int),vs=[.ref a,.ref b,.ref c,.int w]∧SqL K H a bs∧d7 H bs ls∧SqL K H b (hs.map V.int)∧hs.length=ls.length∧SqL K H c (rm.map V.int)∧rm.length=ls.length∧ls.length≤1000∧∀(r:Bool)(H':Hp),Zf H H'→(r=true↔Zcb ls hs rm w)→Q (.bl r) H'
section
variable {P:Program}{w:World}{K:Frag}{mg:Str→Option Value}{base:Heap}
theorem MK(T:Tp K mg):OkN P w base 1 T.b8 (MJ T):=by
 refine T.b8.F.okX vU (λvs H Q E h=>?_) (λcS A outer s H vs Q E av h=>?_)
 ·obtain⟨a,b,c,w,bs,ls,hs,rm,rfl,_⟩:=h
  rfl
 ·have hu:=av.hu;obtain⟨a,b,c,w,bs,ls,hs,rm,rfl,aZ,dg,ag,af,ax,hH,hz,q⟩:=h;have g8:=dg.length;refine⟨_,(b_ (gs PassesOwn.leaving rfl (mB (K:=K) rfl rfl T.h (ak (pv 0) aK)) (gK (K:=K) (n:=2) rfl rfl (d8 (c6 (i:=4) vU.nd rfl (Or.inl rfl)) (d8 (c6 (i:=5) vU.nd rfl (Or.inl rfl)) gI))) (b_ (nn (ec (PW.pt (mi (dF (gJ (K:=K) rfl hu) (cv (ixk K) (pv 5) aX (λ_ _=>rfl)) (pv 3) (dA _)) (m6 (dF j4 (cv (ixk K) (pv 1) (pv 4) (λ_ _=>rfl)) (cv (ixk K) (pv 5) aX (λ_ _=>rfl)) (dA _))))) (cy (c9 Z2)) el))
     (cy (ec (PW.pt (mi (dF (gJ (K:=K) rfl hu) (cv (ixk K) (pv 5) aX (λ_ _=>rfl)) (pv 3) (dA _)) (mi (dF t8 (pv 2) W7 (dA _)) (m6 (dF og (cD (ej K) (cv (ixk K) (pv 1) (pv 4) (λ_ _=>rfl)) (cv (ixk K) (pv 5) aX (λ_ _=>rfl))) (cv (ixk K) (pv 2) (pv 4) (λ_ _=>rfl)) (dA _)))))) (cy (c9 Z2)) el))))
     (cy (c9 Z2))),?_⟩
  try dsimp only[L2.cxX,L2.ZI,L2.Zo]
  walk_at "rds";refine Wl (mD aZ) (λi ae H'=>Zf H H'∧(∀j,j<i→j<ls.length→((ls.getD j dB).taker=w→(ls.getD j dB).take≤hs.getD j 0)∧((ls.getD j dB).giver=w→hs.getD j 0+(ls.getD j dB).give≤rm.getD j 0))∧∃a1 a2:Option V,ae=[some (.ref a),some (.ref b),some (.ref c),some (.int w),a1,a2]) ⟨Zf.refl H,λj aJ=>absurd aJ (qaH _),_,_,rfl⟩ (λi ae H' h=>h.1) ?_ ?_
  ·rintro i ae bC v cj hi ⟨cI,aS,a1,a2,rfl⟩ ⟨t,cu,rfl,rfl⟩;have dL:i<ls.length:=by omega
   obtain⟨u,fx,gM⟩:=dg.getD dL;rw[fx];refine Rd.Wd (.of Ze) rfl ?_;have cK:Zf bC (upd bC t (.tup [V.int i,V.ref u])):=cP cu;generalize upd bC t (.tup [V.int i,V.ref u])=cj at*;have jR:=cI.trans cK;have hD:=jR _ _ gM;have Dc:=jR.seq ag;have mU:=jR.seq ax;have hC:=Z1 (ns:=hs) (k:=(i:Int)) (by omega) (by omega);have jf:=Z1 (ns:=rm) (k:=(i:Int)) (by omega) (by omega);rw[qaa] at hC jf;have gi:(¬(((ls.getD i dB).taker=w→(ls.getD i dB).take≤hs.getD i 0)∧((ls.getD i dB).giver=w→hs.getD i 0+(ls.getD i dB).give≤rm.getD i 0)))→(false=true↔Zcb ls hs rm w):=λz=>⟨(λe=>nomatch e),λe=>absurd (e i dL) z⟩;have dQ:(((ls.getD i dB).taker=w→(ls.getD i dB).take≤hs.getD i 0)∧((ls.getD i dB).giver=w→hs.getD i 0+(ls.getD i dB).give≤rm.getD i 0))→∀j,j<i+1→j<ls.length→((ls.getD j dB).taker=w→(ls.getD j dB).take≤hs.getD j 0)∧((ls.getD j dB).giver=w→hs.getD j 0+(ls.getD j dB).give≤rm.getD j 0):=λz j aJ hL=>by
    rcases qaC j i with y|y
    ·exact aS j y hL
    ·obtain rfl:j=i:=by omega
     exact z
   generalize ls.getD i dB=cF at*;generalize hs.getD i 0=c8 at*;generalize rm.getD i 0=hm at*;dsimp only[B5.v] at hD;walk_at "rds";refine Rd.cut (λci H'=>cj=H'∧ci=[some (.ref a),some (.ref b),some (.ref c),some (.int w),some (.int i),some (.ref u)]∧(cF.taker=w→cF.take≤c8)) ?k1 ?e1
   case e1=>
    walk_at "rds";refine Rd.ifD (λdh=>?_) (λdh=>?_)
    ·walk_at "rds";refine Rd.ifD (λdJ=>?_) (λdJ=>?_)
     ·walk_at "rds";exact q false cj jR (gi λz=>by have:=z.1 dh;omega)
     ·walk_at "rds";exact⟨rfl,rfl,λ_=>by omega⟩
    ·walk_at "rds";exact⟨rfl,rfl,λz=>absurd z dh⟩
   case k1=>
   rintro ci H' ⟨rfl,rfl,iH⟩;walk_at "rds";refine Rd.ifD (λdh=>?_) (λdh=>?_)
   ·walk_at "rds";refine⟨rfl,?_⟩;walk_at "rds";refine Rd.ifD (λdJ=>?_) (λdJ=>?_)
    ·walk_at "rds";exact q false cj jR (gi λz=>by have:=z.2 dh;omega)
    ·walk_at "rds";exact⟨jR,dQ ⟨iH,λ_=>by omega⟩,_,_,rfl⟩
   ·walk_at "rds";exact⟨jR,dQ ⟨iH,λz=>absurd z dh⟩,_,_,rfl⟩
  ·rintro ae bC ⟨cI,aS,a1,a2,rfl⟩;walk_at "rds";exact q true bC cI ⟨λ_ j aJ=>aS j (by omega) aJ,λ_=>rfl⟩
end
def ML{K:Frag}{mg:Str→Option Value}(T:Tp K mg):Sp:=λvs H Q _=>∃(a ey c:Addr)(bs:List V)(ls:List B5)(rs rm:List Int),vs=[.ref a,.ref ey,.ref c]∧SqL K H a bs∧d7 H bs ls∧SqL K H ey (rs.map V.int)∧SqL K H c (rm.map V.int)∧rm.length=ls.length∧ls.length≤1000∧ZC ls rs.length∧rs.length≤60∧(∀r∈rs,1≤r)∧tot rs≤1000∧
 ∀(t cH cX:Addr)(H':Hp)(ck:List Nat)(d:Nat→Nat),H cH=none→H cX=none→Zf H H'→H' t=some (.tup [.ref cH,.ref cX])→H' cH=some (.lst ((ck.map λw:Nat=>(w:Int)).map V.int))→H' cX=some (.lst ((d5 rs.length d).map V.int))→Fire.Yq (hB (ls++dP ls rm) (startsL (ls++dP ls rm)) rs) (λ_=>0) ck d→(∀w,¬fA (ls++dP ls rm) (startsL (ls++dP ls rm)) rs d w)→Q (.ref t) H'
section
variable {P:Program}{w:World}{K:Frag}{mg:Str→Option Value}{base:Heap}
theorem MM(T:Tp K mg):OkN P w base 2 T.b9 (ML T):=by
 refine T.b9.F.okX oM (λvs H Q E h=>?_) (λcS A outer s H vs Q E av h=>?_)
 ·obtain⟨a,ey,c,bs,ls,rs,rm,rfl,_⟩:=h
  rfl
 ·have hu:=av.hu;obtain⟨a,ey,c,bs,ls,rs,rm,rfl,aZ,dg,mR,ax,gD,hz,cU,bA,eA,l',q⟩:=h;have g8:=dg.length;have ei:(startsL ls).length=ls.length:=by simp[startsL]
  have DG:(startsL (ls++dP ls rm)).length=(ls++dP ls rm).length:=by simp[startsL]
  have tN:=oW (rm:=rm) cU;have MN:=λ(d:Nat→Nat) (v:Nat) (cn:v<rs.length)=>Zo0 (rm:=rm) (d:=d) cU eA cn;generalize startsL (ls++dP ls rm)=St at*;generalize ls++dP ls rm=L at*;have pd:((rs.map V.int).length:Int)=(rs.length:Int):=by simp
  refine⟨_,(b_ (c0 (i:=3) oM.nd rfl (Or.inr rfl) (nw rfl (fU (x:="_law_line") (zs:=[]) (ix:=[]) (cR ql) ["_law_lines","_law_rates","_law_rooms","_law_lying","_law_counts","_law_row","_law_some"] rfl rfl (by decide+kernel)) (gA (K:=K) rfl (pv 0)) (λcl C s H fp=>⟨(c6 (i:=0) (show(["_law_line"]:List Str).Nodup by decide+kernel) rfl (Or.inl rfl)),gx,(cv (ixk K) (pv 0) aX (λ_ _=>rfl))⟩)))
     (b_ (c0 (i:=4) oM.nd rfl (Or.inr rfl) (nw rfl (fU (x:="_law_rate") (zs:=[]) (ix:=[]) (cR ql) ["_law_lines","_law_rates","_law_rooms","_law_lying","_law_counts","_law_row","_law_some"] rfl rfl (by decide+kernel)) (gA (K:=K) rfl (pv 1)) (λcl C s H fp=>⟨(c6 (i:=0) (show(["_law_rate"]:List Str).Nodup by decide+kernel) rfl (Or.inl rfl)),gx,aX⟩)))
     (b_ (c0 (i:=5) oM.nd rfl (Or.inl rfl) (fN aK))
     (cy (mm PassesOwn.leaving (hv (K:=K) rfl Z2 (λ_=>rfl)) (b_ (rQ (j:=6) rfl (fU (x:="_law_k") (zs:=["_law_lines","_law_rates","_law_rooms","_law_lying","_law_counts"]) (ix:=[0,1,2,3,4]) (cR ql) ["_law_lines","_law_rates","_law_rooms","_law_lying","_law_counts","_law_row","_law_some"] rfl rfl (by decide+kernel)) (j1 rfl T.k (ak (dM (fj K) (by rfl) T.f qai (ak (pv 1) aK)) aK)) (λcl C s H fp=>⟨(c6 (i:=0) (show(["_law_k","_law_lines","_law_rates","_law_rooms","_law_lying","_law_counts"]:List Str).Nodup by decide+kernel) rfl (Or.inl rfl)),(rP (PW.pt (mi (dF j4 (cv (ixk K) (pv 5) (pv 0) (λ_ _=>rfl)) (cv (ixk K) (pv 2) (pv 0) (λ_ _=>rfl)) (dA _)) (m6 (hv (K:=K) rfl (da T.b8 (MK T) av WH (ak (pv 1) (ak (pv 4) (ak (pv 3) (ak (pv 0) aK))))) (λ_=>rfl)))))),(pv 0)⟩) oM.nd rfl (Or.inl rfl))
     (b_ (ec (dF (gJ (K:=K) rfl hu) (pv 6) (fN aK) (dA _)) (cy (c9 (fE (ak (pv 5) (ak (pv 4) aK))))) el)
     (b_ (fL (iK (K:=K) rfl qax qaD qaE ju (pv 5) (ak (cv (ixk K) (pv 6) aX (λ_ _=>rfl)) aK)))
     (b_ (iA (cD (ej K) (cv (ixk K) (pv 4) (cv (ixk K) (pv 6) aX (λ_ _=>rfl)) (λ_ _=>rfl)) aX) (kA (pv 4) (cv (ixk K) (pv 6) aX (λ_ _=>rfl)) mu))
     (cy (c0 (i:=3) oM.nd rfl (Or.inr rfl) (da T.b7 (MG T) av cW (ak (pv 0) (ak (pv 3) (ak (cv (ixk K) (pv 6) aX (λ_ _=>rfl)) aK))))))))))))))),?_⟩
  try dsimp only[L2.cxX,L2.ZI,L2.Zo]
  walk_at "rds";refine YX (gy aZ) (dR (by omega)) (λ_=>true) (λi=> .int (ls.getD i dB).start) (λi H' ds hi sm k=>?_) (λi H' ds hi _ sm k=>?_) (λaS aj hhp az DH=>?_)
  ·walk_at "rds";exact k H' (Zf.refl H')
  ·obtain⟨t,e9,eg⟩:=dg.getD (i:=i) (by omega);rw[e9];have f9:=sm _ _ eg;generalize ls.getD i dB=cF at*;dsimp only[B5.v] at f9;walk_at "rds";exact k H' (Zf.refl H')
  have xR:aj aS=some (.lst ((gF ls (startsL ls) (λ_=>0)).map V.int)):=by
   have fh:gF ls (startsL ls) (λ_=>0)=startsL ls:=by
    refine qaw (by rw[hR ei,ei]) λj a1 a2=>?_;rw[kW ei (by omega)];unfold Fire.lie fB;simp
   rw[DH,qao.mpr (by simp),fh];refine congrArg (λz=>some (HO.lst z)) ?_;unfold startsL;rw[g8];refine qaw (by simp) λi ai aw=>?_;have:i<ls.length:=by simpa using ai
   simp[List.getD,this]
  clear DH;have kx:=az.seq mR;walk_at "rds";refine YX (gy kx) (dR (by rw[GE];omega)) (λ_=>true) (λi=> .int 0) (λi H' ds hi sm k=>?_) (λi H' ds hi _ sm k=>?_) (λeB ay la b' DI=>?_)
  ·walk_at "rds";exact k H' (Zf.refl H')
  ·walk_at "rds";exact k H' (Zf.refl H')
  have xS:ay eB=some (.lst ((d5 rs.length (λ_=>0)).map V.int)):=by
   rw[DI,qao.mpr (by simp),GE];unfold d5;rw[qbz]
   rfl
  clear DI;have jh:=az.trans b';have DJ:H eB=none:=eG az la;have MO:aS≠eB:=dw xR la;have xT:=b' _ _ xR;walk_at "rds";refine⟨qaA _,λr f7=>?_⟩;have bb:Zf ay (upd ay r (.lst [])):=cP f7;have hW:(upd ay r (.lst [])) r=some (.lst (([]:List Int).map V.int)):=Ze;have q7:aS≠r:=dw xT f7;have DK:eB≠r:=dw xS f7;generalize upd ay r (.lst [])=bF at*;have jQ:=jh.trans bb;have n7:H r=none:=eG jh f7;have DL:=bb _ _ xS;have DM:=bb _ _ xT;walk_at "rds";refine Uw (λm ae H'=>∃(ck:List Nat)(d:Nat→Nat)(mb:Addr)(a1:Option V),m=tot rs-ck.length∧ae=[some (.ref a),some (.ref ey),some (.ref c),some (.ref mb),some (.ref eB),some (.ref r),a1]∧Zf H H'∧Fire.Yq (hB L St rs) (λ_=>0) ck d∧H' mb=some (.lst ((gF ls (startsL ls) d).map V.int))∧mb≠eB∧mb≠r∧H' eB=some (.lst ((d5 rs.length d).map V.int))∧H' r=some (.lst ((ck.map λw:Nat=>(w:Int)).map V.int))) _ ⟨[],λ_=>0,aS,_,rfl,rfl,jQ,.nil _,DM,MO,q7,DL,hW⟩ ?_;rintro m ae cj ⟨ck,d,mb,a1,rfl,rfl,cK,ff,DN,MP,tv,xU,gG⟩;clear xR xS xT hW DL DM;have MQ:=cK.seq aZ;have k9:=dg.keep (λb xs e=>cK _ _ e);have oZ:=cK.seq mR;have mU:=cK.seq ax;have qb:=hR (d:=d) ei;have DO:=MN d;have MR:=ZjL (d:=d) (rs:=rs) DG tN;have vo:=Zk8 (d:=d) (rs:=rs) DG tN;walk_at "rds";refine mx ?_;walk_at "rds";refine YX VB (dR (by rw[pd];omega)) (λv=>fz L St rs d v) (λv=> .int (v:Int)) (λv H' ds cn sm k=>?_) (λv H' ds cn _ sm k=>?_) (λg9 c7 hsm0 dn DP=>?_)
  ·have jt:v<rs.length:=by rw[pd] at cn;omega
   have a6:=DO v jt;have hC:=Z1 (ns:=d5 rs.length d) (k:=(v:Int)) (by omega) (by rw[mP];omega);have jf:=Z1 (ns:=rs) (k:=(v:Int)) (by omega) (by omega);rw[qaa] at hC jf;rw[mQ jt] at hC;have ih:=sm _ _ xU;have jk:=sm.seq oZ;rw[qbA];walk_at "rds";refine Rd.ifD (λdh=>?_) (λdh=>?_)
   ·walk_at "rds";refine⟨a,mb,c,(v:Int),bs,ls,_,rm,rfl,sm.seq MQ,k9.keep (λb xs e=>sm _ _ e),.of (sm _ _ DN),qb,sm.seq mU,gD,hz,λb dq dW ag=>?_⟩;have e:b=fz L St rs d v:=by
     rw[qbn,a6,ag];exact⟨λz=>⟨dh,z⟩,λz=>z.2⟩
    walk_at "rds";rw[e];exact k dq dW
   ·have e:fz L St rs d v=false:=by
     cases a7:fz L St rs d v with
     |false=>rfl
     |true=>exact absurd (a6.mp a7).1 dh
    walk_at "rds";rw[←e];exact k H' (Zf.refl H')
  ·rw[qbA];walk_at "rds";exact k H' (Zf.refl H')
  have MS:c7 g9=some (.lst ((mayL L St rs d).map V.int)):=by
   rw[DP,pd,qaa];unfold mayL;rw[qbz]
   rfl
  clear DP DO;generalize mayL L St rs d=di at*;have MT:=cK.trans dn;have MU:=dn _ _ xU;have lU:=dn _ _ gG;have MV:=dn _ _ DN;walk_at "rds";refine⟨qaA _,λo bc=>?_⟩;have dW:Zf c7 (upd c7 o (.lst [])):=cP bc;have MW:(upd c7 o (.lst [])) o=some (.lst []):=Ze;generalize upd c7 o (.lst [])=dq at*;have xV:=dW _ _ MS;have DQ:=dW _ _ MU;have jB:=dW _ _ lU;have MX:=dW _ _ MV;have DR:=MT.trans dW;refine Rd.Zf7 (fT.ints (SqL.of xV)) (.lst (SqL.of MW) .nil) (mA _) rfl (rW _) ?_;rw[show PyData.eqv (.list (di.map PyData.int)) (.list [])=decide (di=[]) from Zdd di []];walk_at "rds";refine Rd.ifD (λdh=>?_) (λdh=>?_)
  ·walk_at "rds";refine⟨by show 2≤sizeLine;decide,λt cu=>?_⟩;have eQ:Zf dq (upd dq t (.tup [.ref r,.ref eB])):=cP cu;exact q t r eB _ ck d n7 DJ (DR.trans eQ) Ze (eQ _ _ jB) (eQ _ _ DQ) ff (vo dh)
  obtain⟨w,sR,q8⟩:=MR dh;have ku:w<rs.length:=q8.1.1;have dz:=ZhF (oT ff) q8.1;have MY:atI (di.map V.int) 0=some (.int (w:Nat)):=gS (j:=0) (by rw[qaj,sR];rfl);have MZ:g9≠eB:=λz=>by rw[z] at hsm0;rw[xU] at hsm0;cases hsm0
  have M0:g9≠r:=λz=>by rw[z] at hsm0;rw[gG] at hsm0;cases hsm0
  have SU:=SqL.of (K:=K) xV;have K7:((ck.map λw:Nat=>(w:Int)).map V.int).length<sizeLine:=dR (by rw[GE,GE];omega);walk_at "rds";have eQ:Zf H (upd dq r (.lst ((ck.map λw:Nat=>(w:Int)).map V.int++ [.int w]))):=DR.new n7;have kr:(upd dq r (.lst ((ck.map λw:Nat=>(w:Int)).map V.int++ [.int w]))) r=some (.lst (((ck++ [w]).map λw:Nat=>(w:Int)).map V.int)):=by rw[Ze];simp
  have SV:(upd dq r (.lst ((ck.map λw:Nat=>(w:Int)).map V.int++ [.int w]))) eB=_:=(cq DK).trans DQ;have M3:(upd dq r (.lst ((ck.map λw:Nat=>(w:Int)).map V.int++ [.int w]))) mb=_:=(cq tv).trans MX;have DS:(upd dq r (.lst ((ck.map λw:Nat=>(w:Int)).map V.int++ [.int w]))) g9=_:=(cq M0).trans xV;generalize upd dq r (.lst ((ck.map λw:Nat=>(w:Int)).map V.int++ [.int w]))=ev at*;have SW:=SqL.of (K:=K) DS;have hC:=Z1 (ns:=d5 rs.length d) (k:=(w:Int)) (by omega) (by rw[mP];omega);rw[qaa,mQ ku] at hC;have fZ:(w:Int)<(((d5 rs.length d).map V.int).length:Int):=by rw[GE,mP];omega
  walk_at "rds";have M4:((d5 rs.length d).map V.int).set (w:Int).toNat (V.int ((d w:Int)+1))=(d5 rs.length (Fire.bump d w)).map V.int:=by
   rw[qaa,←ZjY ku,qbY]
  rw[M4];have fR:Zf H (upd ev eB (.lst ((d5 rs.length (Fire.bump d w)).map V.int))):=eQ.new DJ;have DT:(upd ev eB (.lst ((d5 rs.length (Fire.bump d w)).map V.int))) eB=some (.lst ((d5 rs.length (Fire.bump d w)).map V.int)):=Ze;have mW:(upd ev eB (.lst ((d5 rs.length (Fire.bump d w)).map V.int))) r=_:=(cq DK.symm).trans kr;have M5:(upd ev eB (.lst ((d5 rs.length (Fire.bump d w)).map V.int))) mb=_:=(cq MP).trans M3;have M6:(upd ev eB (.lst ((d5 rs.length (Fire.bump d w)).map V.int))) g9=_:=(cq MZ).trans DS;generalize upd ev eB (.lst ((d5 rs.length (Fire.bump d w)).map V.int))=fG at*;have SX:=SqL.of (K:=K) M6;have M7:=fR.seq aZ;have w9:=dg.keep (λb xs e=>fR _ _ e);have M8:=Bs (d:=d) ei cU w;walk_at "rds";refine⟨a,mb,(w:Int),bs,ls,_,rfl,M7,w9,.of M5,qb,hz,λM9 lc hlq sa DU=>?_⟩;rw[M8] at DU;walk_at "rds";exact⟨_,by rw[qac];show tot rs-(ck.length+1)<tot rs-ck.length;omega,ck++ [w],Fire.bump d w,M9,_,rfl,rfl,fR.trans sa,ff.snoc q8,DU,(λz=>by rw[z] at hlq;rw[DT] at hlq;cases hlq),(λz=>by rw[z] at hlq;rw[mW] at hlq;cases hlq),sa _ _ DT,sa _ _ mW⟩
end
def Za0{K:Frag}{mg:Str→Option Value}(T:Tp K mg):Sp:=λvs H Q _=>∃i:Int,vs=[.int i]∧Q (.bl true) H
theorem ZiY{K:Frag}{mg:Str→Option Value}{T:Tp K mg}{H:Hp}{Q:VK}{E:XK}{i:Int}(q:Q (.bl true) H):Za0 T ([.int i]++ []) H Q E:=⟨i,rfl,q⟩
local macro_rules| `(tactic|walk_at "rd")=>`(tactic|first|((with_reducible show Nm.Za0 _ _ _ _ _);with_reducible refine Nm.ZiY ?_)|fail "none here")
section
variable {P:Program}{w:World}{K:Frag}{mg:Str→Option Value}{base:Heap}
theorem DV(T:Tp K mg):OkN P w base 1 T.bv (Za0 T):=by
 refine T.bv.F.okX HI (λvs H Q E h=>?_) (λcS A outer s H vs Q E av h=>?_)
 ·obtain⟨i,rfl,_⟩:=h
  rfl
 ·have hu:=av.hu;obtain⟨i,rfl,q⟩:=h;refine⟨_,(cy (c9 (ml (dM (lJ (K:=K) rfl) (by rfl) T.c qan (ak (pv 0) (ak (jD (v:= .ty "int") (by rfl) T.bg PyProof.Rows.boot_int rfl) aK))) (mj (tW (dM (lJ (K:=K) rfl) (by rfl) T.c qan (ak (pv 0) (ak (jD (v:= .ty "bool") (by rfl) T.a8 PyProof.Rows.boot_bool rfl) aK)))))))),?_⟩
  try dsimp only[L2.cxX,L2.ZI,L2.Zo]
  walk_at "rds";exact q
end
def M_{K:Frag}{mg:Str→Option Value}(T:Tp K mg):Sp:=λvs H Q _=>∃(a b:Addr)(ns:List Int),vs=[.ref a,.ref b]∧H a=some (.lst (ns.map V.int))∧SqL K H b (ns.map V.int)∧ns.length≤1000∧Q (.bl true) H
section
variable {P:Program}{w:World}{K:Frag}{mg:Str→Option Value}{base:Heap}
theorem DW(T:Tp K mg):OkN P w base 2 T.bw (M_ T):=by
 refine T.bw.F.okX A3 (λvs H Q E h=>?_) (λcS A outer s H vs Q E av h=>?_)
 ·obtain⟨a,b,ns,rfl,_⟩:=h
  rfl
 ·have hu:=av.hu;obtain⟨a,b,ns,rfl,aZ,ag,hz,q⟩:=h;have iH:=SqL.of (K:=K) aZ;have af:(ns.map V.int).length=ns.length:=GE _;refine⟨_,(b_ (ec (PW.pt (jo (ij (hv (K:=K) rfl (dM (lJ (K:=K) rfl) (by rfl) T.c qan (ak (pv 0) (ak (jD (v:= .ty "list") (by rfl) T.q qaM rfl) aK))) (λ_=>rfl))) (jX (dF (ke (K:=K) rfl hu) (dM (fj K) (by rfl) T.f qai (ak (pv 0) aK)) (dM (fj K) (by rfl) T.f qai (ak (pv 1) aK)) (dA _))))) (cy (c9 Z2)) el)
     (b_ (gs PassesOwn.leaving rfl (j1 rfl T.k (ak (dM (fj K) (by rfl) T.f qai (ak (pv 1) aK)) aK)) (c6 (i:=2) A3.nd rfl (Or.inl rfl)) (cy (ec (PW.pt (jo (ij (hv (K:=K) rfl (da T.bv (DV T) av cW (ak (cv (ixk K) (pv 0) (pv 2) (λ_ _=>rfl)) aK)) (λ_=>rfl))) (jX (dF (ke (K:=K) rfl hu) (cv (ixk K) (pv 0) (pv 2) (λ_ _=>rfl)) (cv (ixk K) (pv 1) (pv 2) (λ_ _=>rfl)) (dA _))))) (cy (c9 Z2)) el)))
     (cy (c9 Z2)))),?_⟩
  try dsimp only[L2.cxX,L2.ZI,L2.Zo]
  walk_at "rds";refine Um (n:=((ns.map V.int).length:Int).toNat) (λi ae H'=>H'=H∧∃a1:Option V,ae=[some (.ref a),some (.ref b),a1]) ⟨rfl,_,rfl⟩ ?_ ?_
  ·rintro i ae H' hi ⟨rfl,a1,rfl⟩;have hC:=Z1 (ns:=ns) (k:=0+(i:Int)) (by omega) (by omega);walk_at "rds";exact⟨rfl,_,rfl⟩
  ·rintro ae H' ⟨rfl,a1,rfl⟩;walk_at "rds";exact q
end
def M'{K:Frag}{mg:Str→Option Value}(T:Tp K mg):Sp:=λvs H Q _=>∃(g q c ey:Addr)(bs:List V)(ls:List B5)(rs:List Int)(ck:List Nat)(d:Nat→Nat)(ring:List Nat),vs=[.ref g,.ref q,.ref c,.ref ey]∧H g=some (.lst (ring.map λj:Nat=>V.int j))∧H q=some (.lst bs)∧d7 H bs ls∧SqL K H c ((d5 rs.length d).map V.int)∧SqL K H ey (rs.map V.int)∧ls.length≤1000∧Yb ls∧ZC ls rs.length∧rs.length≤60∧tot rs≤1000∧Fire.Yq (fA ls (startsL ls) rs) (λ_=>0) ck d∧WE ls rs (startsL ls) (d5 rs.length d) ring∧
 ∀H',Zf H H'→Q (.bl true) H'
section
variable {P:Program}{w:World}{K:Frag}{mg:Str→Option Value}{base:Heap}
theorem Na(T:Tp K mg):OkN P w base 2 T.ca (M' T):=by
 refine T.ca.F.okX nL (λvs H Q E h=>?_) (λcS A outer s H vs Q E av h=>?_)
 ·obtain⟨g,q,c,ey,bs,ls,rs,ck,d,ring,rfl,_⟩:=h
  rfl
 ·have hu:=av.hu;obtain⟨g,q,c,ey,bs,ls,rs,ck,d2,ring,rfl,aM,cG,dg,kM,c1,hz,hsz,cU,bA,l',ff,hj,nQ⟩:=h;have g8:=dg.length;have d9:(ring.map λj:Nat=>V.int j)=(ring.map λj:Nat=>(j:Int)).map V.int:=by rw[qbz];rfl
  rw[d9] at aM;have km:=SqL.of (K:=K) aM;have jV:=SqL.of (K:=K) cG;have rk:0<ring.length:=List.length_pos_iff.mpr hj.ne;have SY:ring.length≤rs.length:=by
   have:=Fo.Vn hj.nd (n:=rs.length) (λw hw=>by
    obtain⟨j,aJ,rfl⟩:=qah.mp hw;have:=cU.at (hj.inn j aJ).1;unfold fH;exact⟨this.2.2.1,this.2.2.2⟩)
   rw[GE] at this;exact this
  have r3:((ring.map λj:Nat=>(j:Int)).map V.int).length=ring.length:=by simp
  have h6:=ZdK hj;refine⟨_,(b_ (ec (PW.pt (jo (ij (hv (K:=K) rfl (dM (lJ (K:=K) rfl) (by rfl) T.c qan (ak (pv 0) (ak (jD (v:= .ty "list") (by rfl) T.q qaM rfl) aK))) (λ_=>rfl))) (jo (dF (gJ (K:=K) rfl hu) (dM (fj K) (by rfl) T.f qai (ak (pv 0) aK)) aX (dA _)) (jX (dF (ke (K:=K) rfl hu) (FV rfl rfl (by rfl) T.f (by rfl) T.bi (ak (pv 0) aK)) (dM (fj K) (by rfl) T.f qai (ak (pv 0) aK)) (dA _)))))) (cy (c9 Z2)) el)
     (b_ (gs PassesOwn.leaving rfl (j1 rfl T.k (ak (dM (fj K) (by rfl) T.f qai (ak (pv 0) aK)) aK)) (c6 (i:=4) nL.nd rfl (Or.inl rfl)) (b_ (ec (PW.pt (jo (ij (hv (K:=K) rfl (da T.bv (DV T) av cW (ak (cv (ixk K) (pv 0) (pv 4) (λ_ _=>rfl)) aK)) (λ_=>rfl))) (jX (ij (Ez Ew j4 aX (cv (ixk K) (pv 0) (pv 4) (λ_ _=>rfl)) (dM (fj K) (by rfl) T.f qai (ak (pv 1) aK))))))) (cy (c9 Z2)) el)
     (b_ (iA (cv (ixk K) (pv 1) (cv (ixk K) (pv 0) (pv 4) (λ_ _=>rfl)) (λ_ _=>rfl)) (gK (K:=K) (n:=5) rfl rfl (d8 (c6 (i:=5) nL.nd rfl (Or.inl rfl)) (d8 (c6 (i:=6) nL.nd rfl (Or.inl rfl)) (d8 (c6 (i:=7) nL.nd rfl (Or.inl rfl)) (d8 (c6 (i:=8) nL.nd rfl (Or.inl rfl)) (d8 (c6 (i:=9) nL.nd rfl (Or.inl rfl)) gI)))))))
     (b_ (ec (PW.pt (mi (dF og (pv 4) aX (dA _)) (m6 (dF (ke (K:=K) rfl hu) (cv (ixk K) (cv (ixk K) (pv 1) (cv (ixk K) (pv 0) (cD j3 (pv 4) aX) (λ_ _=>rfl)) (λ_ _=>rfl)) aX (λ_ _=>rfl)) (pv 6) (dA _))))) (cy (c9 Z2)) el)
     (cy (ec (PW.pt (jo (dF oh (cv (ixk K) (pv 2) (pv 6) (λ_ _=>rfl)) (cv (ixk K) (pv 3) (pv 6) (λ_ _=>rfl)) (dA _)) (jX (dF oh (cD j3 (cD (ej K) (pv 9) (cD gV (pv 7) (cv (ixk K) (pv 2) (pv 5) (λ_ _=>rfl)))) (cD gV (pv 8) (cv (ixk K) (pv 2) (pv 6) (λ_ _=>rfl)))) (pv 8) (dA _))))) (cy (c9 Z2)) el))))))
     (cy (c9 (lu (gJ (K:=K) rfl hu) (cv (ixk K) (cv (ixk K) (pv 1) (cv (ixk K) (pv 0) (yI yK aX) (λ_ _=>rfl)) (λ_ _=>rfl)) aX (λ_ _=>rfl)) (cv (ixk K) (cv (ixk K) (pv 1) (cv (ixk K) (pv 0) aX (λ_ _=>rfl)) (λ_ _=>rfl)) aX (λ_ _=>rfl)) (dA _)))))),?_⟩
  try dsimp only[L2.cxX,L2.ZI,L2.Zo]
  walk_at "rds";refine⟨_,rfl,g,_,rfl,km,by rw[GE];omega,λn Nb=>?_⟩;have ms:=Nb h6;rw[GE] at ms;subst ms;walk_at "rds";refine Um (n:=(((ring.map λj:Nat=>(j:Int)).map V.int).length:Int).toNat) (λi ae H'=>H'=H∧∃a1 a2 a3 a4 eY iq:Option V,ae=[some (.ref g),some (.ref q),some (.ref c),some (.ref ey),a1,a2,a3,a4,eY,iq]) ⟨rfl,_,_,_,_,_,_,rfl⟩ ?_ ?_
  ·rintro i ae bF hi ⟨rfl,a1,a2,a3,a4,eY,iq,rfl⟩;replace hi:i<ring.length:=by rw[GE,GE,qaa] at hi;exact hi
   have bb:Zf bF bF:=Zf.refl _;have S0:=kM;have hC:atI ((ring.map λj:Nat=>(j:Int)).map V.int) (i:Int)=some (.int (ring[i]:Nat)):=gS (by simp[hi]);obtain⟨rl,xW,S1,jf,n_⟩:∃(hm:Nat)(a6:hm<ls.length),hm∈ring∧atI ((ring.map λj:Nat=>(j:Int)).map V.int) ((i:Int)-1)=some (.int (hm:Nat))∧ls[hm].giver=fH ls ring[i]:=ZeR hj hi;have f3:=(hj.inn _ (fm hi));generalize ring[i]=m at*;obtain⟨hJ,DX,tO⟩:=f3;obtain⟨y,xX,xY⟩:=dg.at (GT hJ);have nE:=bb _ _ xY;obtain⟨i_,ox,nF⟩:=dg.at (GT xW);have DY:=bb _ _ nF;have tw:atI bs (m:Int)=some (.ref y):=gS xX;have xu:atI bs (rl:Int)=some (.ref i_):=gS ox;have ag:=cU ls[m] (fm hJ);obtain⟨cz,a5,ea,fy,g1,iN,DZ,D0⟩:=hsz m hJ;have xZ:(startsL ls).getD m 0=ls[m].start:=by simp[startsL,List.getD,hJ]
   unfold fH at n_;rw[xZ] at tO;rw[dm hJ] at n_ DX tO DZ D0;generalize ls[m]=cF at*;generalize ls[rl]=b0 at*;dsimp only[B5.v] at nE DY;rw[n_] at DY;have s5:=Z1 (ns:=d5 rs.length d2) (k:=cF.taker) ag.2.2.1 (by rw[mP];exact ag.2.2.2);have Nc:=Z1 (ns:=d5 rs.length d2) (k:=cF.giver) ag.1 (by rw[mP];exact ag.2.1);have S2:=Z1 (ns:=rs) (k:=cF.taker) ag.2.2.1 ag.2.2.2;rw[mQ (show cF.taker.toNat<rs.length by omega)] at s5 DX tO;rw[mQ (show cF.giver.toNat<rs.length by omega)] at Nc tO;have i2:∀v<rs.length,d2 v<2 ^ 110:=λv cn=>qav (qaz (IA ff v cn) l') (by decide);have s4:IntMulOk cF.give (d2 cF.giver.toNat:Int):=by rw[DZ];exact V9 g1 (i2 _ (by omega)) (by decide)
   have wx:IntMulOk cF.take (d2 cF.taker.toNat:Int):=by rw[D0];exact V9 iN (i2 _ (by omega)) (by decide)
   rw[qbA];walk_at "rds";refine Rd.Wd (.of nE) rfl ?_;walk_at "rds";refine Rd.ifD (λdh=>?_) (λdh=>?_)
   ·walk_at "rds";exact⟨rfl,_,_,_,_,_,_,rfl⟩
   ·walk_at "rds";exact⟨rfl,_,_,_,_,_,_,rfl⟩
  rintro ae bF ⟨rfl,a1,a2,a3,a4,eY,iq,rfl⟩;obtain⟨rl,xW,_,jf,n_⟩:=ZeR hj rk;have kQ:((0:Nat):Int)-1= -1:=rfl;rw[kQ] at jf;have hC:atI ((ring.map λj:Nat=>(j:Int)).map V.int) 0=some (.int (ring[0]:Nat)):=gS (j:=0) (by simp[rk]);have hJ:=(hj.inn _ (fm rk)).1;unfold fH at n_;generalize ring[0]=m at*;rw[dm hJ] at n_;obtain⟨y,xX,xY⟩:=dg.at (GT hJ);obtain⟨i_,ox,nF⟩:=dg.at (GT xW);have tw:atI bs (m:Int)=some (.ref y):=gS xX;have xu:atI bs (rl:Int)=some (.ref i_):=gS ox;generalize ls[m]=cF at*;generalize ls[rl]=b0 at*;dsimp only[B5.v] at xY nF;rw[n_] at nF;walk_at "rds";rw[decide_eq_true (show cF.taker=cF.taker from rfl)];exact nQ _ (Zf.refl _)
end
def Nd{K:Frag}{mg:Str→Option Value}(T:Tp K mg):Sp:=λvs H Q _=>∃(a c:Addr)(bs:List V)(ls:List B5)(rm:List Int),vs=[.ref a,.ref c]∧H a=some (.lst bs)∧d7 H bs ls∧SqL K H c (rm.map V.int)∧rm.length=ls.length∧ls.length≤400∧
 ∀(r:Addr)(H':Hp)(lI:List V),H r=none→Zf H H'→H' r=some (.lst lI)→d7 H' lI (ls++dP ls rm)→Q (.ref r) H'
section
variable {P:Program}{w:World}{K:Frag}{mg:Str→Option Value}{base:Heap}
theorem Nf(T:Tp K mg):OkN P w base 1 T.cb (Nd T):=by
 refine T.cb.F.okX A4 (λvs H Q E h=>?_) (λcS A outer s H vs Q E av h=>?_)
 ·obtain⟨a,c,bs,ls,rm,rfl,_⟩:=h
  rfl
 ·have hu:=av.hu;obtain⟨a,c,bs,ls,rm,rfl,aZ,dg,ax,ed,hz,q⟩:=h;have g8:=dg.length;have iH:=SqL.of (K:=K) aZ;refine⟨_,(b_ (p8 (j:=2) (xs:=["_law_line","_law_room"]) rfl (fU (x:="_law_line") (zs:=[]) (ix:=[]) (cR vQ) ["_law_lines","_law_rooms","_law_back"] rfl rfl (by decide+kernel)) (ve (K:=K) rfl rfl T.a1 (ak (pv 0) (ak (pv 1) aK))) (λcl C s H fp=>⟨(gK (K:=K) (n:=2) rfl rfl (d8 (c6 (i:=0) (show(["_law_line","_law_room"]:List Str).Nodup by decide+kernel) rfl (Or.inl rfl)) (d8 (c6 (i:=1) (show(["_law_line","_law_room"]:List Str).Nodup by decide+kernel) rfl (Or.inl rfl)) gI))),gx,(fE (ak (cv (ixk K) (pv 0) aX (λ_ _=>rfl)) (ak (cv (ixk K) (pv 0) aX (λ_ _=>rfl)) (ak (cv (ixk K) (pv 0) aX (λ_ _=>rfl)) (ak (cv (ixk K) (pv 0) aX (λ_ _=>rfl)) (ak (cD j3 (pv 1) (cv (ixk K) (pv 0) aX (λ_ _=>rfl))) aK))))))⟩) A4.nd rfl (Or.inl rfl))
     (cy (c9 (cD (ej K) (pv 0) (pv 2))))),?_⟩
  try dsimp only[L2.cxX,L2.ZI,L2.Zo]
  walk_at "rds";refine⟨a,c,rfl,⟨_,iH⟩,⟨_,ax⟩,?_⟩;refine Yf (own:=2) (vg iH ax (by rw[GE];omega)) (dR (by omega)) (λi=>[some (bs.getD i .non),some (.int (rm.getD i 0))]) (λ_=>rfl) (λ_=>true) (λi v H'=>∃u,v= .ref u∧H' u=some (.tup (k4 (ls.getD i dB) (rm.getD i 0)).v)) (λ_ _ _ _ s ⟨u,x,y⟩=>⟨u,x,s _ _ y⟩) (λi du H' v bC gX hi sm y e' k=>?_) (λi H' ds hi sm k=>?_) (λic i H' ds hi iJ hp0 f8 sm k=>?_) (λd bC ys hd sm o2 c1=>?_)
  ·obtain⟨t,cu,rfl,rfl⟩:=y;obtain⟨x1,x2,rfl⟩:∃x1 x2,du=[x1,x2]:=by
    match du,e' with
    | [x1,x2],_=>exact⟨x1,x2,rfl⟩
   have iO:i<rm.length:=by omega
   have rf:(rm.map V.int).getD i .non= .int (rm.getD i 0):=by rw[dm iO];simp[List.getD,iO]
   rw[rf];refine Rd.Wd (.of Ze) rfl ?_;walk_at "rds";exact k _ (cP cu)
  ·walk_at "rds";exact k H' (Zf.refl H')
  ·obtain⟨t,e9,eg⟩:=dg.getD (i:=i) (by omega);rw[e9];have f9:=sm _ _ eg;generalize ls.getD i dB=cF at*;dsimp only[B5.v] at f9;walk_at "rds";refine⟨by show 5≤sizeLine;decide,λu fw=>?_⟩;exact k _ _ (cP fw) ⟨u,rfl,by rw[VX (λz=>by rw[z] at fw;obtain⟨ys,e⟩:=f8;rw[e] at fw;cases fw)];exact Ze⟩
  rw[qao.mpr (by simp),g8] at c1;have rj:d7 bC ys (dP ls rm):=(sO c1).keep λb xs e=>kd _ _ e;have kj:=rj.length;rw[k6] at kj;have Ng:=sm _ _ aZ;walk_at "rds";refine Rd.Zar Ng o2 (qaX (dR (by omega))) (λe cp=>?_);have cK:Zf bC (upd bC e (.lst (bs++ys))):=cP cp;exact q e _ _ (eG sm cp) (sm.trans cK) Ze (((dg.keep λb xs e=>sm _ _ e).app rj).keep λb xs e=>cK _ _ e)
end
def Nh{K:Frag}{mg:Str→Option Value}(T:Tp K mg):Sp:=λvs H Q _=>∃(t a ey c:Addr)(bs:List V)(ls:List B5)(rs rm:List Int),vs=[.ref t,.ref a,.ref ey,.ref c]∧H a=some (.lst bs)∧d7 H bs ls∧SqL K H ey (rs.map V.int)∧SqL K H c (rm.map V.int)∧rm.length=ls.length∧ls.length≤60∧Yb ls∧ZC ls rs.length∧rs.length≤60∧(∀r∈rs,1≤r)∧tot rs≤1000∧ZdO H t (ls++dP ls rm) rs∧
 ∀H',Zf H H'→Q (.bl true) H'
section
variable {P:Program}{w:World}{K:Frag}{mg:Str→Option Value}{base:Heap}
theorem Ni(T:Tp K mg):OkN P w base 3 T.cc (Nh T):=by
 refine T.cc.F.okX sA (λvs H Q E h=>?_) (λcS A outer s H vs Q E av h=>?_)
 ·obtain⟨t,a,ey,c,bs,ls,rs,rm,rfl,_⟩:=h
  rfl
 ·have hu:=av.hu;obtain⟨t,a,ey,c,bs,ls,rs,rm,rfl,aZ,dg,mR,ax,gD,hz,hsz,cU,bA,eA,l',j',q⟩:=h;have iH:=SqL.of (K:=K) aZ;have tN:=oW (rm:=rm) cU;have Nj:=sP (rm:=rm) hsz;have Nk:(ls++dP ls rm).length≤1000:=by rw[qac,k6];omega
  refine⟨_,(b_ (iA (da T.b9 (MM T) av cW (ak (pv 1) (ak (pv 2) (ak (pv 3) aK)))) (gK (K:=K) (n:=2) rfl rfl (d8 (c6 (i:=4) sA.nd rfl (Or.inl rfl)) (d8 (c6 (i:=5) sA.nd rfl (Or.inl rfl)) gI))))
     (b_ (ec (PW.pt (jo (ij (hv (K:=K) rfl (dM (lJ (K:=K) rfl) (by rfl) T.c qan (ak (pv 0) (ak (jD (v:= .ty "tuple") (by rfl) T.au qca rfl) aK))) (λ_=>rfl))) (jX (dF (ke (K:=K) rfl hu) (dM (fj K) (by rfl) T.f qai (ak (pv 0) aK)) aX (dA _))))) (cy (c9 Z2)) el)
     (b_ (ec (dF (gJ (K:=K) rfl hu) (pv 5) (pv 2) (dA _)) (cy (c9 (ml (lu t7 (cv (ixk K) (pv 0) aX (λ_ _=>rfl)) W7 (dA _)) (mj (da T.bw (DW T) av cW (ak (cv (ixk K) (pv 0) aX (λ_ _=>rfl)) (ak (pv 4) aK))))))) el)
     (b_ (c0 (i:=6) sA.nd rfl (Or.inl rfl) (cv (ixk K) (pv 0) aX (λ_ _=>rfl)))
     (b_ (ec (PW.pt (jo (dF t8 (cv (ixk K) (pv 0) aX (λ_ _=>rfl)) W7 (dA _)) (jo (ij (hv (K:=K) rfl (dM (lJ (K:=K) rfl) (by rfl) T.c qan (ak (pv 6) (ak (jD (v:= .ty "tuple") (by rfl) T.au qca rfl) aK))) (λ_=>rfl))) (jX (dF (ke (K:=K) rfl hu) (dM (fj K) (by rfl) T.f qai (ak (pv 6) aK)) aX (dA _)))))) (cy (c9 Z2)) el)
     (cy (c9 (ml (da T.bw (DW T) av cW (ak (cv (ixk K) (pv 6) aX (λ_ _=>rfl)) (ak (pv 5) aK))) (mj (da T.ca (Na T) av cW (ak (cv (ixk K) (pv 6) aX (λ_ _=>rfl)) (ak (da T.cb (Nf T) av cW (ak (pv 1) (ak (pv 3) aK))) (ak (pv 5) (ak (pv 2) aK)))))))))))))),?_⟩
  try dsimp only[L2.cxX,L2.ZI,L2.Zo]
  walk_at "rds";refine⟨a,ey,c,bs,ls,rs,rm,rfl,iH,dg,mR,ax,gD,by omega,cU,bA,eA,l',λdG cH cX aj jO d2 hF gP az eg xE hr2' hrun2 D1=>?_⟩;have kx:=az.seq mR;have jT:=az.seq ax;have n8:=az _ _ aZ;have hM:=dg.keep (λb xs e=>az _ _ e);have xq:=(sM (oT hrun2)).2.2;have tP:=SqL.of (K:=K) hr2';walk_at "rds";refine Rd.Wd (.of eg) rfl ?_;rcases j' with⟨r,ck,d,cu,av,ff,hd⟩|⟨u,cc,g,ck,d,ring,cu,hu,ky,aM,ff,dQ,⟨v,cn,S3⟩,hj⟩
  ·have dQ:∀w,¬fA (ls++dP ls rm) (startsL (ls++dP ls rm)) rs d w:=λw z=>by
    have ai:=z.2.1;rw[hd w z.1] at ai;exact qbl _ ai
   obtain⟨gb,kt⟩:=Ze7 ff dQ hrun2 D1;subst gb kt;have hp:=Zjg eA hd;have e9:=az _ _ cu;have D2:=az _ _ av;have Nl:(jO.map λw:Nat=>V.int w)=(jO.map λw:Nat=>(w:Int)).map V.int:=by rw[qbz];rfl
   rw[Nl] at D2;walk_at "rds";refine Rd.Zf7 (fT.ints tP) (fT.ints kx) (mA _) (mA _) (rW _) ?_;rw[Zdd,hp,decide_eq_true rfl];walk_at "rds";refine⟨rfl,?_⟩;walk_at "rds";refine⟨r,cH,jO.map (λw:Nat=>(w:Int)),rfl,D2,.of xE,by rw[GE];omega,?_⟩;walk_at "rds";exact q aj az
  ·obtain⟨gb,kt⟩:=Ze7 ff dQ hrun2 D1;subst gb kt;have hp:d5 rs.length d2≠rs:=λz=>by
    have ai:=mQ (d:=d2) cn;rw[z,←oU eA cn] at ai;omega
   have e9:=az _ _ cu;have fx:=az _ _ hu;have Nn:=az _ _ ky;have No:=az _ _ aM;walk_at "rds";refine Rd.Zf7 (fT.ints tP) (fT.ints kx) (mA _) (mA _) (rW _) ?_;rw[Zdd,decide_eq_false hp];walk_at "rds";refine⟨rfl,?_⟩;walk_at "rds";refine⟨cc,cX,d5 rs.length d2,rfl,Nn,tP,by rw[mP];omega,?_⟩;walk_at "rds";refine⟨a,c,bs,ls,rm,rfl,n8,hM,jT,gD,by omega,λxg ay rn wC b' Np iu=>?_⟩;walk_at "rds";refine⟨g,xg,cX,ey,rn,ls++dP ls rm,rs,jO,d2,ring,rfl,b' _ _ No,Np,iu,b'.seq tP,b'.seq kx,Nk,Nj,tN,bA,l',oT ff,hj,λbF bb=>?_⟩;walk_at "rds";exact q bF (az.trans (b'.trans bb))
end
def D3{K:Frag}{mg:Str→Option Value}(T:Tp K mg):Sp:=λvs H Q E=>∃(p c:Addr)(af:HM)(fp:List Addr)(rm:List Int)(g6:List Bool),vs=[.ref p,.ref c]∧dD T H p af fp∧af.belts.length≤60∧ZC af.belts af.names.length∧Yb af.belts∧(∀b∈af.belts,0≤b.start)∧Zax af.names∧SqL K H c (rm.map V.int)∧rm.length≤1000∧
 (∀ring,kT af.belts ring→g6=[true,false,false,true])∧(∀rs,Rts af.belts af.names.length (λ_=>1) rs→400<rs.sum→g6=[false,true,false,true])∧(∀rs,Rts af.belts af.names.length (λ_=>1) rs→rs.sum≤400→¬kZ rm (startsL af.belts)∧g6=[false,false,true,true])∧
 ∀l H',Zf H H'→H' l=some (.lst (g6.map V.bl))→Q (.ref l) H'
section
variable {P:Program}{w:World}{K:Frag}{mg:Str→Option Value}{base:Heap}
theorem D4(T:Tp K mg):OkN P w base 12 T.bx (D3 T):=by
 refine T.bx.F.okX vV (λvs H Q E h=>?_) (λcS A outer s H vs Q E av h=>?_)
 ·obtain⟨p,c,af,fp,rm,g6,rfl,_⟩:=h
  rfl
 ·have hu:=av.hu;obtain⟨p,c,af,fp,rm,g6,rfl,cw,hz,cU,hsz,gO,ks,ax,n9,d1,d2,d3,q⟩:=h;have x0:=T.S;have S4:=T.m;have S5:=T.t;have S6:=T.x;have S7:=T.o;have x1:=T.aQ;have S8:=T.u;have S9:=T.G;have S_:=T.H;have Ta:=T.y;have x2:=T.aV;have Tb:=T.z;have Tc:=T.I;have Td:=T.M;have Te:=T.C;refine⟨_,(b_ (Ge (j:=2) rfl rfl rfl T.aD.m (λJ jy pn lG ownT Nq=>(cy (fL (FE T.bu (DD T) av Nq (ak (pv 0) (ak (pv 1) aK)))))) (λgj=>(b_ (c0 (i:=3) vV.nd rfl (Or.inl rfl) (fN (ak (dM (r7 (K:=K) rfl) (by rfl) T.c qan (ak (pv 2) (ak (m5 (v:= .ref T.g) rfl T.w.m rfl) aK))) (ak (dM (r7 (K:=K) rfl) (by rfl) T.c qan (ak (pv 2) (ak (m5 (v:= .ref T.j) rfl T.N.m rfl) aK))) (ak (dM (r7 (K:=K) rfl) (by rfl) T.c qan (ak (pv 2) (ak (m5 (v:= .ref T.l) rfl T.E.m rfl) aK))) aK)))))
     (cy (c9 (cD (ej K) (pv 3) (fN (ak (dM (r7 (K:=K) rfl) (by rfl) T.c qan (ak (pv 2) (ak (jD (v:= .ty "ValueError") (by rfl) T.al (by first|rfl|decide+kernel) rfl) aK))) aK))))))) vV.nd rfl rfl)
     (cy (c9 (fN aK)))),?_⟩
  try dsimp only[L2.cxX,L2.ZI,L2.Zo]
  walk_at "rds";refine L2.Rd.Zom (λcls _ H'=>Zf H H'∧((cls= .ref T.g∧g6=[true,false,false,true])∨(cls= .ref T.j∧g6=[false,true,false,true])∨(cls= .ref T.l∧g6=[false,false,true,true]))) ?_ ?_
  ·walk_at "rds";exact⟨p,c,af,fp,rm,rfl,cw,hz,cU,hsz,gO,ks,ax,n9,λring H' s av=>⟨s,.inl ⟨rfl,d1 ring av⟩⟩,λrs c1 c3 H' s=>⟨s,.inr (.inl ⟨rfl,d2 rs c1 c3⟩)⟩,λrs c1 c3=>⟨λgi H' s=>⟨s,.inr (.inr ⟨rfl,(d3 rs c1 c3).2⟩)⟩,λhok=>absurd hok (d3 rs c1 c3).1⟩⟩
  ·rintro cls aj ⟨az,⟨rfl,kt⟩|⟨rfl,kt⟩|⟨rfl,kt⟩⟩
   ·refine⟨T.r,_,rfl,λcL rp=>?_⟩;have f6:(upd aj cL (hx cL T.g)) cL=some (hx cL T.g):=Ze;have b':Zf H (upd aj cL (hx cL T.g)):=az.trans (cP rp);generalize upd aj cL (hx cL T.g)=ay at*;walk_at "rds";refine⟨by show 3≤sizeLine;decide,λgn g4=>?_⟩;have bb:Zf ay (upd ay gn (.lst [V.bl true,V.bl false,V.bl false])):=cP g4;have mZ:(upd ay gn (.lst [V.bl true,V.bl false,V.bl false])) gn=some (.lst [V.bl true,V.bl false,V.bl false]):=Ze;generalize upd ay gn (.lst [V.bl true,V.bl false,V.bl false])=bF at*;have D5:=bb _ _ f6;walk_at "rds";intro l1 h9;have cI:Zf bF (upd bF l1 (.lst [V.bl true])):=cP h9;have mc:(upd bF l1 (.lst [V.bl true])) l1=some (.lst [V.bl true]):=Ze;generalize upd bF l1 (.lst [V.bl true])=bC at*;refine Rd.Zar (cI _ _ mZ) mc (by show 4≤sizeLine;decide) (λl2 hH=>?_);rw[kt] at q;exact q l2 _ ((b'.trans (bb.trans cI)).trans (cP hH)) Ze
   ·refine⟨T.B,_,rfl,λcL rp=>?_⟩;have f6:(upd aj cL (hx cL T.j)) cL=some (hx cL T.j):=Ze;have b':Zf H (upd aj cL (hx cL T.j)):=az.trans (cP rp);generalize upd aj cL (hx cL T.j)=ay at*;walk_at "rds";refine⟨by show 3≤sizeLine;decide,λgn g4=>?_⟩;have bb:Zf ay (upd ay gn (.lst [V.bl false,V.bl true,V.bl false])):=cP g4;have mZ:(upd ay gn (.lst [V.bl false,V.bl true,V.bl false])) gn=some (.lst [V.bl false,V.bl true,V.bl false]):=Ze;generalize upd ay gn (.lst [V.bl false,V.bl true,V.bl false])=bF at*;have D5:=bb _ _ f6;walk_at "rds";intro l1 h9;have cI:Zf bF (upd bF l1 (.lst [V.bl true])):=cP h9;have mc:(upd bF l1 (.lst [V.bl true])) l1=some (.lst [V.bl true]):=Ze;generalize upd bF l1 (.lst [V.bl true])=bC at*;refine Rd.Zar (cI _ _ mZ) mc (by show 4≤sizeLine;decide) (λl2 hH=>?_);rw[kt] at q;exact q l2 _ ((b'.trans (bb.trans cI)).trans (cP hH)) Ze
   ·refine⟨T.D,_,rfl,λcL rp=>?_⟩;have f6:(upd aj cL (hx cL T.l)) cL=some (hx cL T.l):=Ze;have b':Zf H (upd aj cL (hx cL T.l)):=az.trans (cP rp);generalize upd aj cL (hx cL T.l)=ay at*;walk_at "rds";refine⟨by show 3≤sizeLine;decide,λgn g4=>?_⟩;have bb:Zf ay (upd ay gn (.lst [V.bl false,V.bl false,V.bl true])):=cP g4;have mZ:(upd ay gn (.lst [V.bl false,V.bl false,V.bl true])) gn=some (.lst [V.bl false,V.bl false,V.bl true]):=Ze;generalize upd ay gn (.lst [V.bl false,V.bl false,V.bl true])=bF at*;have D5:=bb _ _ f6;walk_at "rds";intro l1 h9;have cI:Zf bF (upd bF l1 (.lst [V.bl true])):=cP h9;have mc:(upd bF l1 (.lst [V.bl true])) l1=some (.lst [V.bl true]):=Ze;generalize upd bF l1 (.lst [V.bl true])=bC at*;refine Rd.Zar (cI _ _ mZ) mc (by show 4≤sizeLine;decide) (λl2 hH=>?_);rw[kt] at q;exact q l2 _ ((b'.trans (bb.trans cI)).trans (cP hH)) Ze
end
def Nr{K:Frag}{mg:Str→Option Value}(T:Tp K mg):Sp:=λvs H Q _=>∃dr:Int,vs=[.int dr]∧0≤dr∧∀H',Q (.bl true) H'
section
variable {P:Program}{w:World}{K:Frag}{mg:Str→Option Value}{base:Heap}
theorem Nt(T:Tp K mg):OkN P w base 13 T.cd (Nr T):=by
 refine T.cd.F.okX nM (λvs H Q E h=>?_) (λcS A outer s H vs Q E av h=>?_)
 ·obtain⟨dr,rfl,_⟩:=h
  rfl
 ·have hu:=av.hu;obtain⟨dr,rfl,nR,q⟩:=h;have dE:400≤400+dr / 3 % 1000:=by omega
  have f1:400+dr / 3 % 1000≤1399:=by omega
  have ig:0≤dr / 3000 % 5:=by omega
  refine⟨_,(b_ (c0 (i:=1) nM.nd rfl (Or.inl rfl) (cD (ej K) aX (cD eX (cD f0 (pv 0) aX) aX)))
     (b_ (c0 (i:=2) nM.nd rfl (Or.inl rfl) (fN (ak (fE (ak aX (ak aX (ak aX (ak (pv 1) (ak aX aK)))))) (ak (fE (ak aX (ak aX (ak (pv 1) (ak aX (ak (cD eX (cD f0 (pv 0) aX) aX) aK)))))) aK))))
     (b_ (nn (ec (dF (gJ (K:=K) rfl hu) (cD eX (pv 0) aX) aX (dA _)) (cy (c0 (i:=2) nM.nd rfl (Or.inl rfl) (fN (ak (fE (ak aX (ak aX (ak aX (ak (pv 1) (ak aX aK)))))) (ak (fE (ak aX (ak aX (ak aX (ak (pv 1) (ak aX aK)))))) aK))))) el))
     (b_ (nn (ec (dF (gJ (K:=K) rfl hu) (cD eX (pv 0) aX) aX (dA _)) (cy (c0 (i:=2) nM.nd rfl (Or.inl rfl) (fN (ak (fE (ak aX (ak aX (ak aX (ak aX (ak aX aK)))))) aK)))) el))
     (b_ (c0 (i:=3) nM.nd rfl (Or.inl rfl) (da T.bn (B6 T) av cW (ak aX (ak (pv 2) aK))))
     (b_ (c0 (i:=4) nM.nd rfl (Or.inl rfl) (cv (ixk K) (fN (ak (fN (ak Z2 (ak Z2 (ak Z2 (ak Z2 aK))))) (ak (fN (ak Z2 (ak Z2 (ak Z2 (ak Z2 aK))))) (ak (fN (ak Z2 (ak Z2 (ak Z2 (ak Z2 aK))))) aK)))) (cD eX (pv 0) aX) (λ_ _=>rfl)))
     (cy (c9 (ml (lu (gJ (K:=K) rfl hu) (da T.bx (D4 T) av cW (ak (pv 3) (ak (cD gV (fN (ak aX aK)) aX) aK))) (pv 4) (dA _)) (mj (lu (gJ (K:=K) rfl hu) (da T.bx (D4 T) av cW (ak (pv 3) (ak (cD gV (fN (ak (yI yK aX) aK)) (dM (fj K) (by rfl) T.f qai (ak (pv 2) aK))) aK))) (pv 4) (dA _)))))))))))),?_⟩
  try dsimp only[L2.cxX,L2.ZI,L2.Zo]
  walk_at "rds";generalize 400+dr / 3 % 1000=fc at*;refine⟨by show 5≤sizeLine;decide,λdH fx=>?_⟩;have az:Zf H (upd H dH (.tup [.int 0,.int 1,.int 1,.int fc,.int 0])):=cP fx;have i4:(upd H dH (.tup [.int 0,.int 1,.int 1,.int fc,.int 0])) dH=some (.tup (B5.mk 0 1 1 fc 0).v):=Ze;generalize upd H dH (.tup [.int 0,.int 1,.int 1,.int fc,.int 0])=aj at*;walk_at "rds";generalize dr / 3000 % 5=md at*;refine⟨by show 5≤sizeLine;decide,λeU gM=>?_⟩;have b':Zf aj (upd aj eU (.tup [.int 1,.int 0,.int fc,.int 1,.int md])):=cP gM;have mF:(upd aj eU (.tup [.int 1,.int 0,.int fc,.int 1,.int md])) eU=some (.tup (B5.mk 1 0 fc 1 md).v):=Ze;generalize upd aj eU (.tup [.int 1,.int 0,.int fc,.int 1,.int md])=ay at*;walk_at "rds";refine⟨by show 2≤sizeLine;decide,λlA x_=>?_⟩;have bb:Zf ay (upd ay lA (.lst [.ref dH,.ref eU])):=cP x_;have mZ:(upd ay lA (.lst [.ref dH,.ref eU])) lA=some (.lst [.ref dH,.ref eU]):=Ze;generalize upd ay lA (.lst [.ref dH,.ref eU])=bF at*;have D6:d7 bF [.ref dH,.ref eU] [⟨0,1,1,fc,0⟩,⟨1,0,fc,1,md⟩]:= .cons ⟨dH,rfl,bb _ _ (b' _ _ i4)⟩ (.cons ⟨eU,rfl,bb _ _ mF⟩ .nil);walk_at "rds";refine Rd.cut (λci H'=>∃(cA:Addr)(bs:List V)(ls:List B5),ci=[some (.int dr),some (.int fc),some (.ref cA),none,none]∧H' cA=some (.lst bs)∧d7 H' bs ls∧(dr % 3=0→k7 ls [true,false,false,true])∧(dr % 3=2→k7 ls [false,true,false,true])) ?k1 ?e1
  case e1=>
   walk_at "rds";refine Rd.ifD (λdh=>?_) (λdh=>?_)
   ·walk_at "rds";refine⟨by show 5≤sizeLine;decide,λfJ hD=>?_⟩;have cI:Zf bF (upd bF fJ (.tup [.int 0,.int 1,.int 2,.int fc,.int 0])):=cP hD;have mc:(upd bF fJ (.tup [.int 0,.int 1,.int 2,.int fc,.int 0])) fJ=some (.tup (B5.mk 0 1 2 fc 0).v):=Ze;generalize upd bF fJ (.tup [.int 0,.int 1,.int 2,.int fc,.int 0])=bC at*;walk_at "rds";refine⟨by show 5≤sizeLine;decide,λjl iV=>?_⟩;have cK:Zf bC (upd bC jl (.tup [.int 0,.int 1,.int 3,.int fc,.int 1])):=cP iV;have Nu:(upd bC jl (.tup [.int 0,.int 1,.int 3,.int fc,.int 1])) jl=some (.tup (B5.mk 0 1 3 fc 1).v):=Ze;generalize upd bC jl (.tup [.int 0,.int 1,.int 3,.int fc,.int 1])=cj at*;walk_at "rds";refine⟨by show 2≤sizeLine;decide,λcT hK=>?_⟩;have dn:Zf cj (upd cj cT (.lst [.ref fJ,.ref jl])):=cP hK;have x':(upd cj cT (.lst [.ref fJ,.ref jl])) cT=some (.lst [.ref fJ,.ref jl]):=Ze;generalize upd cj cT (.lst [.ref fJ,.ref jl])=c7 at*;walk_at "rds";exact⟨cT,_,[⟨0,1,2,fc,0⟩,⟨0,1,3,fc,1⟩],rfl,x',.cons ⟨fJ,rfl,dn _ _ (cK _ _ mc)⟩ (.cons ⟨jl,rfl,dn _ _ Nu⟩ .nil),λ_=>IG dE f1,λz=>by omega⟩
   ·walk_at "rds";exact⟨lA,_,_,rfl,mZ,D6,λz=>absurd z dh,λ_=>ZmE dE f1 ig⟩
  case k1=>
  clear az b' bb i4 mF mZ D6 fx gM x_;rintro ci aj ⟨cA,lf,rq,rfl,gB,hM,iS,mO⟩;walk_at "rds";refine Rd.cut (λci H'=>∃(cA:Addr)(bs:List V)(ls:List B5),ci=[some (.int dr),some (.int fc),some (.ref cA),none,none]∧H' cA=some (.lst bs)∧d7 H' bs ls∧(dr % 3=0→k7 ls [true,false,false,true])∧(dr % 3=1→k7 ls [false,false,true,true])∧(dr % 3=2→k7 ls [false,true,false,true])) ?k2 ?fr
  case fr=>
   walk_at "rds";refine Rd.ifD (λdh=>?_) (λdh=>?_)
   ·walk_at "rds";refine⟨by show 5≤sizeLine;decide,λfJ hD=>?_⟩;have cI:Zf aj (upd aj fJ (.tup [.int 0,.int 1,.int 1,.int 399,.int 0])):=cP hD;have mc:(upd aj fJ (.tup [.int 0,.int 1,.int 1,.int 399,.int 0])) fJ=some (.tup (B5.mk 0 1 1 399 0).v):=Ze;generalize upd aj fJ (.tup [.int 0,.int 1,.int 1,.int 399,.int 0])=bC at*;walk_at "rds";intro cT hK;have dn:Zf bC (upd bC cT (.lst [.ref fJ])):=cP hK;have x':(upd bC cT (.lst [.ref fJ])) cT=some (.lst [.ref fJ]):=Ze;generalize upd bC cT (.lst [.ref fJ])=c7 at*;walk_at "rds";exact⟨cT,_,[⟨0,1,1,399,0⟩],rfl,x',.cons ⟨fJ,rfl,dn _ _ mc⟩ .nil,λz=>by omega,λ_=>IH,λz=>by omega⟩
   ·walk_at "rds";exact⟨cA,lf,rq,rfl,gB,hM,iS,λz=>absurd z dh,mO⟩
  case k2=>
  clear gB hM iS mO;rintro ci aj ⟨cA,bs,ls,rfl,gB,hM,iS,qB,mO⟩;have Nv:∃g6,k7 ls g6:=by
   have cC:dr % 3=0∨dr % 3=1∨dr % 3=2:=by omega
   rcases cC with z|z|z
   ·exact⟨_,iS z⟩
   ·exact⟨_,qB z⟩
   ·exact⟨_,mO z⟩
  obtain⟨Tf,rr⟩:=Nv;have hH:=rr.l2;have h9:=rr.l1;have k8:=rr.dr;have hsz:=rr.sz;clear rr;have g8:=hM.length;walk_at "rds";refine⟨2,cA,bs,ls,rfl,by decide,by decide,gB,hM,by omega,k8,λaS fp ay cw b'=>?_⟩;have hK:=b' _ _ gB;walk_at "rds";refine⟨by show 4≤sizeLine;decide,λx0 xc=>?_⟩;have iN:Zf ay (upd ay x0 (.lst [.bl true,.bl false,.bl false,.bl true])):=cP xc;have f_:(upd ay x0 (.lst [.bl true,.bl false,.bl false,.bl true])) x0=some (.lst ([true,false,false,true].map V.bl)):=Ze;generalize upd ay x0 (.lst [.bl true,.bl false,.bl false,.bl true])=bF at*;walk_at "rds";refine⟨by show 4≤sizeLine;decide,λx1 mG=>?_⟩;have dG:Zf bF (upd bF x1 (.lst [.bl false,.bl false,.bl true,.bl true])):=cP mG;have hZ:(upd bF x1 (.lst [.bl false,.bl false,.bl true,.bl true])) x1=some (.lst ([false,false,true,true].map V.bl)):=Ze;generalize upd bF x1 (.lst [.bl false,.bl false,.bl true,.bl true])=bC at*;walk_at "rds";refine⟨by show 4≤sizeLine;decide,λx2 i'=>?_⟩;have iM:Zf bC (upd bC x2 (.lst [.bl false,.bl true,.bl false,.bl true])):=cP i';have mn:(upd bC x2 (.lst [.bl false,.bl true,.bl false,.bl true])) x2=some (.lst ([false,true,false,true].map V.bl)):=Ze;generalize upd bC x2 (.lst [.bl false,.bl true,.bl false,.bl true])=cj at*;walk_at "rds";refine⟨by show 3≤sizeLine;decide,λx3 vn=>?_⟩;have o8:Zf cj (upd cj x3 (.lst [.ref x0,.ref x1,.ref x2])):=cP vn;have Nw:(upd cj x3 (.lst [.ref x0,.ref x1,.ref x2])) x3=some (.lst [.ref x0,.ref x1,.ref x2]):=Ze;generalize upd cj x3 (.lst [.ref x0,.ref x1,.ref x2])=c7 at*;obtain⟨x,g6,MY,ao,R⟩:∃(x:Addr)(g6:List Bool),atI [V.ref x0,.ref x1,.ref x2] (dr % 3)=some (.ref x)∧c7 x=some (.lst (g6.map V.bl))∧k7 ls g6:=by
   have cC:dr % 3=0∨dr % 3=1∨dr % 3=2:=by omega
   rcases cC with z|z|z
   ·exact⟨x0,_,by rw[z];rfl,o8 _ _ (iM _ _ (dG _ _ f_)),iS z⟩
   ·exact⟨x1,_,by rw[z];rfl,o8 _ _ (iM _ _ hZ),qB z⟩
   ·exact⟨x2,_,by rw[z];rfl,o8 _ _ mn,mO z⟩
  have D7:=iN.trans (dG.trans (iM.trans o8));have jC:=cw.same D7;have Nx:=D7 _ _ hK;have Tg:=SqL.of (K:=K) Nw;clear iS qB mO f_ hZ mn;have ks:((List.range (2:Int).toNat).map nm17).length=2:=rfl;have D8:∀{ru:Hp}{c:Addr}{rm:List Int}{G:VK}{E:XK},dD T ru aS ⟨(List.range (2:Int).toNat).map nm17,ls⟩ fp→ru c=some (.lst (rm.map V.int))→rm.length≤1000→(ls.length=1→(startsL ls).getD 0 0=0→¬kZ rm (startsL ls))→(∀l H',Zf ru H'→H' l=some (.lst (g6.map V.bl))→G (.ref l) H')→D3 T ([.ref aS,.ref c]++ []) ru G E:=λ{ru c rm G E} aZ ax av gi aM=>by
   refine⟨aS,c,_,fp,rm,g6,rfl,aZ,by show ls.length≤60;omega,sV k8,hsz,λb ag=>(k8 b ag).st,BO (by decide),.of ax,av,R.d1,R.d2,λrs c1 hs=>?_,aM⟩;obtain⟨⟨aW,a7⟩,c_⟩:=R.d3 rs c1 hs;exact⟨gi aW a7,c_⟩
  walk_at "rds";intro kP l3;have ya:Zf c7 (upd c7 kP (.lst [V.int 7])):=cP l3;have pT:(upd c7 kP (.lst [V.int 7])) kP=some (.lst [V.int 7]):=Ze;generalize upd c7 kP (.lst [V.int 7])=dq at*;walk_at "rds";refine .inr ⟨kP,3,[V.int 7],rfl,rfl,pT,by decide,by decide,by show 3≤sizeLine;decide,λdh jT=>?_⟩;rw[wl];have yb:Zf dq (upd dq dh (.lst ((List.replicate (3:Int).toNat (7:Int)).map V.int))):=cP jT;have Ny:(upd dq dh (.lst ((List.replicate (3:Int).toNat (7:Int)).map V.int))) dh=some (.lst ((List.replicate (3:Int).toNat (7:Int)).map V.int)):=Ze;generalize upd dq dh (.lst ((List.replicate (3:Int).toNat (7:Int)).map V.int))=ev at*;have mX:=(jC.same ya).same yb;have Nz:=yb _ _ (ya _ _ ao);have n0:=yb _ _ (ya _ _ Nx);walk_at "rds";refine D8 mX Ny (by decide) (λaW a7 z=>by have:=z.1;simp[startsL,aW] at this) (λl fG fR q9=>?_);have D9:=fR _ _ Nz;have pa:=mX.same fR;have NA:=fR _ _ n0;have NB:=SqL.of (K:=K) NA;walk_at "rds";refine Zl0 q9 D9 ?_;walk_at "rds";intro dJ ho;have yc:Zf fG (upd fG dJ (.lst [V.int (-1)])):=cP ho;have t5:(upd fG dJ (.lst [V.int (-1)])) dJ=some (.lst [V.int (-1)]):=Ze;generalize upd fG dJ (.lst [V.int (-1)])=lc at*;have Th:=yc.seq NB;walk_at "rds";have Ti:2≤sizeLine:=by decide
  refine .inr ⟨dJ,(bs.length:Int),[V.int (-1)],rfl,rfl,t5,by omega,by omega,by simp;omega,λiv iW=>?_⟩;rw[wl,qaa];have D_:Zf lc (upd lc iv (.lst ((List.replicate bs.length (-1:Int)).map V.int))):=cP iW;have NC:(upd lc iv (.lst ((List.replicate bs.length (-1:Int)).map V.int))) iv=some (.lst ((List.replicate bs.length (-1:Int)).map V.int)):=Ze;generalize upd lc iv (.lst ((List.replicate bs.length (-1:Int)).map V.int))=Hb at*;have ND:=(pa.same yc).same D_;have NE:=D_ _ _ (yc _ _ D9);walk_at "rds";refine D8 ND NC (by simp;omega) (λaW a7 z=>?_) (λl2 Hc cE NF=>?_)
  ·have ai:=z.2 0 (by simp;omega);rw[a7,dm (by simp;omega)] at ai;simp at ai
  walk_at "rds";refine Zl0 NF (cE _ _ NE) ?_;walk_at "rds";exact q _
end
section
variable {P:Program}{w:World}{K:Frag}{mg:Str→Option Value}{base:Heap}
theorem Zm9(T:Tp K mg):OkN P w base 14 T.bz (HP T):=by
 have gp:=T.a;have gq:=T.e;refine T.bz.F.okX gN (λvs H Q E h=>?_) (λcS A outer s H vs Q E av h=>?_)
 ·obtain⟨a,ns,rfl,_⟩:=h
  rfl
 ·have hu:=av.hu;obtain⟨p,ns,rfl,er,ed,k⟩:=h;refine⟨_,(b_ (c0 (i:=1) gN.nd rfl (Or.inl rfl) (da T.x0 (qI T) av cW (ak (da T.x2 (sY T) av cW (ak (pv 0) (ak aX aK))) (ak aX aK))))
     (b_ (ec (dF (gJ (K:=K) rfl hu) (cD eX (pv 1) aX) aX (dA _)) (cy (c9 (da T.cd (Nt T) av cW (ak (cD f0 (pv 1) aX) aK)))) el)
     (b_ (c0 (i:=2) gN.nd rfl (Or.inr rfl) (cD (ej K) aX (cD eX (cD f0 (pv 1) aX) aX)))
     (b_ (iA (da T.x3 (wq T) av cW (ak (pv 0) (ak aX (ak (pv 2) (ak (cD eX (cD f0 (pv 1) aX) aX) (ak aX (ak (lu (gJ (K:=K) rfl hu) (cD eX (cD f0 (pv 1) aX) aX) aX (dA _)) aK))))))) (gK (K:=K) (n:=2) rfl rfl (d8 (c6 (i:=3) gN.nd rfl (Or.inl rfl)) (d8 (c6 (i:=4) gN.nd rfl (Or.inl rfl)) gI))))
     (b_ (nn (ec (dF (gJ (K:=K) rfl hu) (cD eX (cD f0 (pv 1) aX) aX) aX (dA _)) (b_ (c0 (i:=2) gN.nd rfl (Or.inr rfl) (cD (ej K) aX (cD eX (cD f0 (pv 1) aX) aX)))
     (cy (iA (da T.x3 (wq T) av cW (ak (pv 0) (ak aX (ak (pv 2) (ak (cD eX (cD f0 (pv 1) aX) (cD j3 aX (pv 2))) (ak aX (ak Z2 aK))))))) (gK (K:=K) (n:=2) rfl rfl (d8 (c6 (i:=3) gN.nd rfl (Or.inl rfl)) (d8 (c6 (i:=4) gN.nd rfl (Or.inl rfl)) gI)))))) (cy (ec (dF (gJ (K:=K) rfl hu) (cD eX (cD f0 (pv 1) aX) aX) aX (dA _)) (b_ (iA (da T.x3 (wq T) av cW (ak (pv 0) (ak aX (ak (cD (ej K) aX (cD eX (cD f0 (pv 1) aX) aX)) (ak (cD eX (cD f0 (pv 1) aX) aX) (ak aX (ak Z2 aK))))))) (gK (K:=K) (n:=2) rfl rfl (d8 (c6 (i:=5) gN.nd rfl (Or.inl rfl)) (d8 (c6 (i:=6) gN.nd rfl (Or.inl rfl)) gI))))
     (b_ (c0 (i:=4) gN.nd rfl (Or.inl rfl) (cD (ej K) (pv 4) (kg (xs:=["_law_line"]) rfl (fU (x:="_law_line") (zs:=["_law_many"]) (ix:=[2]) (cR vR) ["_law_script","_law_draw","_law_many","_law_rates","_law_lines","_law_more","_law_others","_law_rooms","_law_k","_law_line","_law_cell_here","_law_least","_law_both","_law_hall","_law_handed","_law_found"] rfl rfl (by decide+kernel)) (gA (K:=K) rfl (pv 6)) (λcl C s H fp=>⟨(c6 (i:=0) (show(["_law_line","_law_many"]:List Str).Nodup by decide+kernel) rfl (Or.inl rfl)),gx,(cD (ej K) (fE (ak (cD (ej K) (cv (ixk K) (pv 0) aX (λ_ _=>rfl)) (pv 1)) (ak (cD (ej K) (cv (ixk K) (pv 0) aX (λ_ _=>rfl)) (pv 1)) aK))) (rH (rX (K:=K) rfl) (pv 0) (rG aX) rF))⟩))))
     (cy (c0 (i:=3) gN.nd rfl (Or.inl rfl) (cD (ej K) (pv 3) (pv 5)))))) el))))
     (b_ (c0 (i:=7) gN.nd rfl (Or.inl rfl) (fN aK))
     (b_ (gs PassesOwn.leaving rfl (mB (K:=K) rfl rfl T.h (ak (pv 4) aK)) (gK (K:=K) (n:=2) rfl rfl (d8 (c6 (i:=8) gN.nd rfl (Or.inl rfl)) (d8 (c6 (i:=9) gN.nd rfl (Or.inl rfl)) gI))) (b_ (c0 (i:=10) gN.nd rfl (Or.inl rfl) (da T.x2 (sY T) av cW (ak (pv 0) (ak (cD (ej K) aX (pv 8)) aK))))
     (b_ (c0 (i:=11) gN.nd rfl (Or.inl rfl) (dM (FJ rfl) (by rfl) T.ce PyProof.Rows.boot_max (ak (cv (ixk K) (pv 9) aX (λ_ _=>rfl)) (ak (cv (ixk K) (pv 9) aX (λ_ _=>rfl)) (ak (cv (ixk K) (pv 9) aX (λ_ _=>rfl)) aK)))))
     (b_ (c0 (i:=5) gN.nd rfl (Or.inl rfl) (da T.x0 (qI T) av cW (ak (pv 10) (ak (cD (ej K) aX (pv 8)) aK))))
     (b_ (c0 (i:=12) gN.nd rfl (Or.inl rfl) (cD (ej K) (cv (ixk K) (pv 9) aX (λ_ _=>rfl)) (cv (ixk K) (pv 9) aX (λ_ _=>rfl))))
     (cy (fL (iK (K:=K) rfl qax qaD qaE ju (pv 7) (ak (cv (ixk K) (fN (ak (cv (ixk K) (pv 9) aX (λ_ _=>rfl)) (ak (pv 11) (ak (cD (ej K) (pv 11) (cD eX (pv 5) (pv 12))) (ak (cD (ej K) (pv 11) (pv 12)) (ak (cD (ej K) (pv 11) (cD eX (pv 10) (cD yJ aX aX))) aK)))))) (cD eX (cD f0 (pv 5) aX) aX) (λ_ _=>rfl)) aK)))))))))
     (b_ (c0 (i:=13) gN.nd rfl (Or.inl rfl) (da T.bn (B6 T) av cW (ak (dM (fj K) (by rfl) T.f qai (ak (pv 3) aK)) (ak (pv 4) aK))))
     (b_ (c0 (i:=14) gN.nd rfl (Or.inl rfl) (nh (ov (K:=K) rfl) (by rfl) T.q qaM (ak (pv 7) aK)))
     (b_ (c0 (i:=15) gN.nd rfl (Or.inl rfl) (da T.bu (DD T) av cW (ak (pv 13) (ak (pv 14) aK))))
     (b_ (ec (PW.pt (jo (dF (ke (K:=K) rfl hu) (pv 14) (pv 7) (dA _)) (jX (dF (ke (K:=K) rfl hu) (lK (pv 13) T.a T.aO (o1 T) av cW) (pv 4) (dA _))))) (cy (c9 Z2)) el)
     (cy (c9 (da T.cc (Ni T) av cW (ak (pv 15) (ak (pv 4) (ak (pv 3) (ak (pv 7) aK)))))))))))))))))),?_⟩
  try dsimp only[L2.cxX,L2.ZI,L2.Zo]
  walk_at "rds";rename_i kP dr nR d1;refine Rd.ifD (λc=>?_) (λc=>?_)
  ·walk_at "rds";refine⟨dr / 6,rfl,by omega,λH'=>?_⟩;walk_at "rds";exact k _
  walk_at "rds";have hm:1≤1+dr / 6 % 4∧1+dr / 6 % 4≤4:=by omega
  have b0:0≤dr / 24 % 4∧dr / 24 % 4≤3:=by omega
  generalize 1+dr / 6 % 4=iy at*;refine⟨p,ns,1,iy,_,6,_,rfl,er,by decide,by omega,by omega,by omega,by omega,by decide,by decide,λiN NG cA aj ph lf rq BV x_ az e9 kx gB hM h9 hF h8 l0 f8=>?_⟩;have yd:UZ rq ph:=wn (by omega) (by omega) (by omega) h8 (by omega) l0 f8;have lN:=az.seq er;walk_at "rds";refine Rd.Wd (.of e9) rfl ?_;walk_at "rds";refine Rd.cut (λci H'=>∃(M:Int)(ey q:Addr)(rs:List Int)(bs:List V)(ls:List B5)(a1 a2:Option V),ci=[some (.ref p),some (.int dr),some (.int M),some (.ref ey),some (.ref q),a1,a2,none,none,none,none,none,none,none,none,none]∧Zf H H'∧H' ey=some (.lst (rs.map V.int))∧H' q=some (.lst bs)∧d7 H' bs ls∧UZ ls rs) ?k1 ?e1
  case e1=>
   walk_at "rds";refine Rd.ifD (λdh=>?_) (λdh=>?_)
   ·have ii:20≤20+dr / 98304 % 11∧20+dr / 98304 % 11≤30:=by omega
    have mp:0<46-(20+dr / 98304 % 11):=by omega
    have aW:=qaR (dr / 24) (show 46-(20+dr / 98304 % 11)≠0 by omega);have a7:=qbc (dr / 24) mp;walk_at "rds";generalize 20+dr / 98304 % 11=M2 at*;refine⟨p,ns,1,M2,_,2,false,rfl,lN,by decide,by omega,by omega,aW,by omega,by decide,by decide,λdG D' cT ay gY rn fW hra20 hq20 b' eg ye hK iu hH gP kR j6 jw=>?_⟩;walk_at "rds";refine Rd.Wd (.of eg) rfl ?_;walk_at "rds";exact⟨M2,D',cT,gY,rn,fW,_,_,rfl,az.trans b',ye,hK,iu,wn (by omega) (by omega) (by omega) kR (by omega) j6 jw⟩
   ·walk_at "rds";refine Rd.ifD (λdJ=>?_) (λdJ=>?_)
    ·walk_at "rds";have ii:1≤1+dr / 1536 % 2∧1+dr / 1536 % 2≤2:=by omega
     have b2:0≤dr / 3072 % 2∧dr / 3072 % 2≤1:=by omega
     generalize 1+dr / 1536 % 2=M2 at*;refine⟨p,ns,22,M2,_,6,false,rfl,lN,by decide,by omega,by omega,b2.1,by omega,by decide,by decide,λdG D' cT ay gY rn fW hra20 hq20 b' eg ye hK iu hH gP kR j6 jw=>?_⟩;have NH:UZ fW gY:=wn (by omega) (by omega) (by omega) kR (by omega) j6 jw;have NI:=iu.length;have Tj:=hM.length;have NJ:=SqL.of (K:=K) hK;walk_at "rds";refine Rd.Wd (.of eg) rfl ?_;walk_at "rds";refine Yf (own:=1) (gy NJ).y (dR (by omega)) (λi=>[some (rn.getD i .non)]) (λ_=>rfl) (λ_=>true) (λi v H'=>∃u,v= .ref u∧H' u=some (.tup (kq iy (fW.getD i dB)).v)) (λ_ _ _ _ s ⟨u,x,y⟩=>⟨u,x,s _ _ y⟩) (λi du H' v bF gX hi sm y e' k=>?_) (λi H' ds hi sm k=>?_) (λic i H' ds hi iJ hp0 f8 sm k=>?_) (λe bF ys qZ bb tc c1=>?_)
     ·obtain⟨rfl,rfl⟩:=y;obtain⟨x1,rfl⟩:∃x1,du=[x1]:=by
       match du,e' with
       | [x1],_=>exact⟨x1,rfl⟩
      walk_at "rds";exact k _ (Zf.refl _)
     ·walk_at "rds";exact k H' (Zf.refl H')
     ·obtain⟨t,e9,eg⟩:=iu.getD (i:=i) (by omega);rw[e9];have f9:=sm _ _ eg;generalize fW.getD i dB=cF at*;dsimp only[B5.v] at f9;walk_at "rds";refine⟨by show 2≤sizeLine;decide,λu fw=>?_⟩;have hV:Zf H' (upd H' u (.tup [.int (cF.giver+iy),.int (cF.taker+iy)])):=cP fw;have fx:(upd H' u (.tup [.int (cF.giver+iy),.int (cF.taker+iy)])) u=some (.tup [.int (cF.giver+iy),.int (cF.taker+iy)]):=Ze;generalize upd H' u (.tup [.int (cF.giver+iy),.int (cF.taker+iy)])=bC at*;have iU:=hV _ _ f9;walk_at "rds";refine Rd.slT (.of iU) (by show ¬(HT.sIx 5 0 (some 2)=0∧HT.sIx 5 5 none=5);decide) (λw qq=>?_);have yf:Zf bC (upd bC w (.tup (iG [V.int cF.giver,V.int cF.taker,V.int cF.give,V.int cF.take,V.int cF.start] (some 2) none))):=cP qq;have lb:(upd bC w (.tup (iG [V.int cF.giver,V.int cF.taker,V.int cF.give,V.int cF.take,V.int cF.start] (some 2) none))) w=some (.tup [.int cF.give,.int cF.take,.int cF.start]):=Ze;generalize upd bC w (.tup (iG [V.int cF.giver,V.int cF.taker,V.int cF.give,V.int cF.take,V.int cF.start] (some 2) none))=cj at*;refine Rd.Zo6 (.of (yf _ _ fx)) (.of lb) (by simp) (by simp) (by show 5≤sizeLine;decide) (λfJ hD=>?_);have bb:Zf cj (upd cj fJ (.tup ([V.int (cF.giver+iy),.int (cF.taker+iy)]++ [.int cF.give,.int cF.take,.int cF.start]))):=cP hD;have v4:fJ≠ic:=λz=>by
       obtain⟨ys,e⟩:=f8;rw[z,yf _ _ (hV _ _ e)] at hD;cases hD
      exact k _ _ (hV.trans (yf.trans bb)) ⟨fJ,rfl,by rw[VX v4];exact Ze⟩
     rw[qao.mpr (by simp),NI] at c1;have yg:d7 bF ys ((List.range fW.length).map λi=>kq iy (fW.getD i dB)):=(sO c1).keep λb xs e=>kd _ _ e;have NK:((List.range fW.length).map λi=>kq iy (fW.getD i dB))=fW.map (kq ph.length):=by
      rw[hF];refine qaw (by simp) λi x1 x2=>?_;have:i<fW.length:=by simpa using x2
      simp[List.getD,this]
     rw[NK] at yg;have Db:=yg.length;rw[GE] at Db;have NL:=bb _ _ (b' _ _ gB);walk_at "rds";refine Rd.Zar NL tc (qaX (dR (by omega))) (λa7 nC=>?_);have cI:Zf bF (upd bF a7 (.lst (lf++ys))):=cP nC;have o7:(upd bF a7 (.lst (lf++ys))) a7=some (.lst (lf++ys)):=Ze;have hU:d7 (upd bF a7 (.lst (lf++ys))) (lf++ys) (rq++fW.map (kq ph.length)):=((hM.keep λb xs e=>bb _ _ (b' _ _ e)).app yg).keep λb xs e=>cI _ _ e;generalize upd bF a7 (.lst (lf++ys))=bC at*;have NM:=cI _ _ (bb _ _ (b' _ _ kx));have NN:=cI _ _ (bb _ _ ye);walk_at "rds";refine Rd.Zar NM NN (qaX (dR (by rw[GE,GE];omega))) (λc_ NO=>?_);have cK:Zf bC (upd bC c_ (.lst (ph.map V.int++gY.map V.int))):=cP NO;walk_at "rds";exact⟨iy,c_,a7,ph++gY,lf++ys,_,_,_,rfl,az.trans (b'.trans (bb.trans (cI.trans cK))),by rw[Ze,qaG],cK _ _ o7,hU.keep (λb xs e=>cK _ _ e),IJ yd (by omega) (λr av=>(h8 r av).2) (by omega) NH (by omega) (λr av=>(kR r av).2) (by omega) f8 jw⟩
    ·walk_at "rds";exact⟨iy,NG,cA,ph,lf,rq,_,_,rfl,az,kx,gB,hM,yd⟩
  case k1=>
  clear yd lN f8 l0 h8 hF h9 hM gB kx e9 az;rintro ci aj ⟨M,ey,mT,rs,bs,ls,a1,a2,rfl,az,kx,gB,hM,D⟩;have lN:=az.seq er;have g8:=hM.length;have NP:=SqL.of (K:=K) gB;have NQ:=D.l;walk_at "rds";refine⟨qaA _,λr av=>?_⟩;have b':Zf aj (upd aj r (.lst [])):=cP av;have gP:(upd aj r (.lst [])) r=some (.lst (([]:List Int).map V.int)):=Ze;generalize upd aj r (.lst [])=ay at*;walk_at "rds";refine Wl (mD NP) (λi ae H'=>Zf aj H'∧(∃(a1 a3 a4 eY iq oN:Option V),ae=[some (.ref p),some (.int dr),some (.int M),some (.ref ey),some (.ref mT),a1,a2,some (.ref r),a3,a4,eY,iq,oN,none,none,none])∧∃rm:List Int,H' r=some (.lst (rm.map V.int))∧rm.length=i∧∀j<i,(startsL ls).getD j 0≤rm.getD j 0) ⟨b',⟨_,_,_,_,_,_,rfl⟩,[],gP,rfl,λj aJ=>absurd aJ (qaH _)⟩ (λi ae H' h=>h.1) ?_ ?_
  ·rintro i ae bC v cj hi ⟨cI,⟨b1,b3,b4,b5,b6,b7,rfl⟩,rm,gm,rv,tQ⟩ ⟨t,cu,rfl,rfl⟩;have dL:i<ls.length:=by omega
   obtain⟨u,fx,gM⟩:=hM.getD dL;rw[fx];refine Rd.Wd (.of Ze) rfl ?_;have cK:Zf bC (upd bC t (.tup [V.int i,V.ref u])):=cP cu;generalize upd bC t (.tup [V.int i,V.ref u])=cj at*;have yh:=cI.trans cK;have hD:=yh _ _ gM;have BW:=yh.seq lN;have gG:=cK _ _ gm;have e6:=D.ln _ (nU (d:=dB) dL);have xZ:(startsL ls).getD i 0=(ls.getD i dB).start:=by simp[startsL,List.getD,dL]
   generalize ls.getD i dB=cF at*;obtain⟨cz,a5,aW,a7,ea,fy,_,_,_⟩:=e6.sz;have gO:=e6.st;dsimp only[B5.v] at hD;have lE:0<cF.give+cF.take:=by omega
   have IU:(i:Int)<60:=by omega
   have Tk:(rm.map V.int).length<sizeLine:=dR (by rw[GE];omega);walk_at "rds";rename_i dh lY mo0 s4;have fk:=qaR lY (show cF.give+cF.take≠0 by omega);have e0:0≤dh % 10 ^ Int.toNat 20:=qaR _ (by decide);have Tl:cF.start≤max (max cF.start cF.give) cF.take:=by omega
   generalize max (max cF.start cF.give) cF.take=le at*;generalize lY % (cF.give+cF.take)=hg at*;generalize dh % 10 ^ Int.toNat 20=lV at*;refine⟨by show 5≤sizeLine;decide,λgn g4=>?_⟩;have dn:Zf cj (upd cj gn (.lst [.int cF.start,.int le,.int (le+hg),.int (le+(cF.give+cF.take)),.int (le+lV)])):=cP g4;have xr:(upd cj gn (.lst [.int cF.start,.int le,.int (le+hg),.int (le+(cF.give+cF.take)),.int (le+lV)])) gn=some (.lst (([cF.start,le,le+hg,le+(cF.give+cF.take),le+lV]:List Int).map V.int)):=Ze;generalize upd cj gn (.lst [.int cF.start,.int le,.int (le+hg),.int (le+(cF.give+cF.take)),.int (le+lV)])=c7 at*;have IX:([cF.start,le,le+hg,le+(cF.give+cF.take),le+lV]:List Int).length=5:=rfl;have wz:∀s∈([cF.start,le,le+hg,le+(cF.give+cF.take),le+lV]:List Int),cF.start≤s:=λs hs=>by
    simp only[qaf,qaF,or_false] at hs;rcases hs with e|e|e|e|e<;>omega
   generalize ([cF.start,le,le+hg,le+(cF.give+cF.take),le+lV]:List Int)=fv at*;have Tn:=SqL.of (K:=K) xr;have lU:=dn _ _ gG;have s5:=Z1 (ns:=fv) (k:=lY / 7 % 5) (by omega) (by omega);have dQ:=wz _ (nU (d:=0) (show(lY / 7 % 5).toNat<fv.length by omega));generalize fv.getD (lY / 7 % 5).toNat 0=md at*;walk_at "rds";refine⟨(yh.trans dn).new av,⟨_,_,_,_,_,_,rfl⟩,rm++ [md],by rw[Ze,qaG];rfl,by simp[rv],λj aJ=>?_⟩;rcases qaC j i with z|z
   ·rw[sX (by omega)];exact tQ j z
   ·obtain rfl:j=i:=by omega
    have e:(rm++ [md]).getD j 0=md:=by subst rv;simp[List.getD]
    rw[e,xZ];exact dQ
  rintro ae bC ⟨cI,⟨b1,b3,b4,b5,b6,b7,rfl⟩,rm,gm,rv,tQ⟩;rw[g8] at rv tQ;have qJ:=cI _ _ kx;have Ea:=cI _ _ gB;have hU:=hM.keep (λb xs e=>cI _ _ e);have NR:=SqL.of (K:=K) qJ;have bA:=D.n;have rk:((rs.map V.int).length:Int)=(rs.length:Int):=by simp
  walk_at "rds";refine⟨(rs.length:Int),mT,bs,ls,by rw[rk];rfl,by omega,by omega,Ea,hU,by omega,λl af=>?_,λaS fp cj cw cK=>?_⟩
  ·have e6:=D.ln l af;obtain⟨cz,a5,aW,a7,ea,fy,_⟩:=e6.sz;exact⟨e6.rg,⟨by omega,by omega⟩,e6.st⟩
  rw[qaa] at cw;have gG:=cK _ _ gm;have BX:=SqL.of (K:=K) gG;walk_at "rds";refine Rd.UW BX (λhd l5=>?_);have dn:Zf cj (upd cj hd (.lst (rm.map V.int))):=cP l5;have o4:(upd cj hd (.lst (rm.map V.int))) hd=some (.lst (rm.map V.int)):=Ze;generalize upd cj hd (.lst (rm.map V.int))=c7 at*;have jC:=cw.same dn;have cU:=BJ D.ln rfl;have hsz:=BK D.ln;have qh:((List.range rs.length).map nm17).length=rs.length:=by simp
  have mY:kZ rm (startsL ls):=⟨by simp[startsL,rv],λi hi=>tQ i (by omega)⟩;have To:(tot rs:Int)=rs.sum:=Zes λr av=>by have:=D.ps r av;omega
  have r2:=D.sm;have ur:∀{Q:VK}{E:XK},(∀t dq,Zf c7 dq→ZdO dq t (ls++dP ls rm) rs→Q (.ref t) dq)→DC T ([.ref aS,.ref hd]++ []) c7 Q E:=λ{Q E} q=>by
   refine⟨aS,hd,⟨(List.range rs.length).map nm17,ls⟩,fp,rm,rfl,jC,NQ,by rw[qh];exact cU,hsz,λb ag=>(D.ln b ag).st,BO bA.2,.of o4,by omega,λring H' _ h=>(wk cU hsz D.ps D.bal h).elim,λrs' c1 c3=>?_,λrs' c1 c3=>?_⟩
   ·dsimp only at c1;rw[qh] at c1;rw[D.uniq c1] at c3;omega
   dsimp only at c1;rw[qh] at c1;have NS:=D.uniq c1;subst NS;exact⟨λz=>absurd mY z,λ_=>⟨λt cH dq ck d _ dW yi jB ff pe=>q t dq dW (.inl ⟨cH,ck,d,yi,jB,ff,pe⟩),λt u dh g dq ck d ring _ _ dW yi wM NT NU ff dQ f6 hj=>q t dq dW (.inr ⟨u,dh,g,ck,d,ring,yi,wM,NT,NU,ff,dQ,f6,hj⟩)⟩⟩
  walk_at "rds";refine ur (λt dq dW j'=>?_);have CZ:=jC.same dW;have pe:=SqL.of (K:=K) (dW _ _ o4);have jB:=dW _ _ (dn _ _ gG);have Eb:=SqL.of (K:=K) jB;have CJ:=cK.trans (dn.trans dW);walk_at "rds";refine Rd.ZmR (fT.ints pe) (fT.ints Eb) (mA _) (mA _) (rW _) ?_;rw[SeqAt.eqv_refl _ (mA _)];walk_at "rds";intro Tq ev bs8 CH eQ hqb8 q0;have q3:=CJ.trans eQ;have n0:=q3 _ _ Ea;have Ec:=hU.keep (λb xs e=>q3 _ _ e);walk_at "rds";refine Zoy (.of hqb8) q0 (.of n0) Ec ?_;walk_at "rds";refine⟨t,mT,ey,r,bs,ls,rs,rm,rfl,n0,Ec,q3.seq NR,eQ.seq Eb,by omega,by omega,hsz,cU,by omega,D.ps,by omega,j'.same eQ,λfG fR=>?_⟩;walk_at "rds";exact k _
end
theorem walk{l:PySem.W.OpenLaw}{q:Program}{ol:List Str}{om:(Str→Option Value)→Heap→Prop}{mv:World→Heap→Prop}{d:DefRec}{K:Params→Frag}(bA:l.most=some 63)(kH:d.params.defaults=[])(la:d.name="law")
  (uz:∀(w:World)(h:Heap),mv w h→(K w.params).In h)
  (F:∀(w:World)(mg:Str→Option Value)(h:Heap),(K w.params).In h→h.Ns mainGlobals mg→∃T:Tp (K w.params) mg,True):
  PySem.W.WalkO q ol om mv l.row.toRowW d [] (λf vs=>PySem.call f vs):=by
 refine L2.Zmd (n:=63) (k:=14) (x:="_law_script") (CX:=λw=>CXX l.prog w) (sp:=λw=>ZlI (K w.params)) bA (by decide) kH ⟨rfl,by decide,by decide⟩ uz (λw mg iI h eV G on=>?_) (λ_ _ a ns af _ er=>⟨a,ns,rfl,er,af,λ_=>rfl⟩) ?_
 ·obtain⟨T,_⟩:=F w mg h eV G;rw[la,T.bz.m] at on;cases on;exact⟨T.bz.d,T.bE,λbase _ _=>Zm9 T⟩
 ·intro w H s e s' z;obtain⟨_,_,_,_,_,_,_,_,_,_,_,_,z⟩:=z;exact z
end Nm
namespace PySem.W.Fast
def tw9076379147227917631:=0
def tw11686836176094371217:=0
def tw14310730541907256227:=0
def tw2046080590952108483:=0
def tw2412334526145508091:=0
def tw7580483663082037484:=0
def tw17060278644797093505:=0
def tw16791624540901025658:=0
def tw1193165204091928205:=0
def tw4951558914193493527:=0
def tw6914636213016485710:=0
def tw7849336986738992381:=0
def tw12164495162744718716:=0
def tw5619380106712939837:=0
def tw5439031308651359595:=0
def tw16500567233055644514:=0
def tw11408346764910376953:=0
def tw3815705873863304421:=0
def tw6049090438915054458:=0
def tw2402850095365632449:=0
def tw2607899893196721695:=0
def tw16888317884516687608:=0
def tw10472850920801503398:=0
def tw16192654815405167151:=0
def tw13062915085264129713:=0
def tw4087626913670873612:=0
def tw11711175664921817935:=0
def tw10014301378328769985:=0
def tw10321199209584290620:=0
def tw8774944930318170463:=0
def tw696532740987951990:=0
def tw5986325812579504417:=0
def tw18256872308743225115:=0
def tw5581864482882704284:=0
def tw6708202619145615621:=0
def tw4931573866064018635:=0
def tw2230271016194271594:=0
def tw18003932752241501200:=0
def tw18094335513980271380:=0
def tw12233561925533591971:=0
def tw15740988043612124550:=0
def tw16743218925208730281:=0
def tw18127754307841645480:=0
def tw15182128184528760968:=0
def tw13021300661551256325:=0
def tw15942342991380386699:=0
def tw1627051665832173815:=0
def tw166077858428645202:=0
def tw9452801649851931040:=0
def tw17818748913140639100:=0
def tw18265777456586298999:=0
def tw5543144396541769700:=0
def tw16160913227500782689:=0
def tw11486697697235985276:=0
def tw11813027104583101403:=0
def tw14939152391276815691:=0
def tw12332027729813093850:=0
def tw5241191883998981799:=0
def tw15439188551265834971:=0
def tw12200217855740146185:=0
def tw2824415362443847340:=0
def tw3214501373648078643:=0
def tw14631688866986645421:=0
def tw2535878079670682574:=0
def tw14249831595484613374:=0
def tw17690102603794413479:=0
def tw3367859423915913368:=0
def tw16719638279739014908:=0
def tw8582494559384034513:=0
def tw15046544055745266115:=0
def tw13287311007522657716:=0
def tw18284857209490441616:=0
def tw5044680663358819605:=0
def tw14702771770341311292:=0
def tw3751986597356977347:=0
def tw9792219091693827513:=0
def tw7596407848078740995:=0
def tw2807797736151042469:=0
def tw8027969393438890296:=0
def tw13796915987391744881:=0
def tw3536152621072680843:=0
def tw8640795876298268553:=0
def tw12250649120119987238:=0
def tw5529339561247271253:=0
def tw117870831944760458:=0
def tw8834611059706952680:=0
def tw7723421065512271371:=0
def tw8544145356757530933:=0
def tw2889976700533025118:=0
def tw7045115158694269696:=0
def tw4398002603327002054:=0
def tw3251797739603569328:=0
def tw9896451315104560881:=0
def tw14708889287911434121:=0
def tw15274482481175944072:=0
def tw10776464535049137294:=0
def tw9278315964369931617:=0
def tw13200362510528339893:=0
def tw6589945509949362014:=0
def tw11480267555830255363:=0
def tw8232940724356371328:=0
def tw10713815562068353900:=0
def tw9952135165028947584:=0
def tw12335032564194248736:=0
def tw6102283856341163166:=0
def tw1445344057129683326:=0
def tw442271013867258739:=0
def tw16893586744382102201:=0
def tw697506042144391503:=0
def tw890121029613334318:=0
def tw9696444744332506340:=0
def tw15336103710697123439:=0
def tw15356296132989648127:=0
def tw8057251745653870056:=0
def tw7395073580930607839:=0
def tw9050405061518650912:=0
def tw13923540763940458197:=0
def tw8504463713680371767:=0
def tw7063130293136889369:=0
def tw16203942064853488893:=0
def tw16929656181815098578:=0
def tw14851126064437784116:=0
def tw3462294170300980004:=0
def tw13686720775026748908:=0
def tw12645745276320666289:=0
def tw8976735253997816572:=0
def tw11378000538606609919:=0
def tw3063769395322104092:=0
def tw6958348901082237136:=0
def tw17349993815874093001:=0
def tw10145592471547208205:=0
def tw17834919519618152009:=0
def tw7653470442439041861:=0
def tw468903776115727353:=0
def tw12320796911398397164:=0
def tw14554405220975289675:=0
def tw6507759366135209637:=0
def tw9639313370079243635:=0
def tw8620096787590261583:=0
def tw3561733157655627997:=0
def tw10579667445965181995:=0
def tw8980440756345437463:=0
def tw9966006660249741348:=0
def tw11581887422168780252:=0
def tw18265516149722284848:=0
def tw8880267913190633144:=0
def tw11831326369074339023:=0
def tw7808724297039375807:=0
def tw14493327239948397755:=0
def tw4314719332986776552:=0
def tw11798516081910807817:=0
def tw8900777988692435715:=0
def tw16939006798000622666:=0
def tw16015738156104441623:=0
def tw2680948539588782157:=0
def tw3567951611363907773:=0
def tw12913525886179886812:=0
def tw15525098736096258256:=0
def tw14165974279534846810:=0
def tw716748001187949754:=0
def tw12077422470875721722:=0
def tw6470930480278810422:=0
def tw3820573953054305299:=0
def tw5341961956829998468:=0
def tw16251022042574981762:=0
def tw10354341992228368860:=0
def tw1413957597723343116:=0
def tw14434452838241503677:=0
def tw16756182081093926288:=0
def tw3431182703777262971:=0
def tw9880331298942733213:=0
def tw13820492439525678187:=0
def tw4996558556937271378:=0
def tw12165448663854592959:=0
def tw7878446799359726244:=0
def tw10220235533948438487:=0
def tw4707456010514997864:=0
def tw7073126361775206924:=0
def tw3343674019357528700:=0
def tw5431505202715693672:=0
def tw1824759450298517498:=0
def tw17703465695882489320:=0
def tw8641367468381158208:=0
def tw1210401298746312185:=0
def tw3781202467196926276:=0
def tw5174071446605040132:=0
def tw7497473618942430510:=0
def tw7724165293748465059:=0
def tw8125453237501406535:=0
def tw5383766919243146036:=0
def tw17295672232603883344:=0
def tw7016958033163670917:=0
def tw7187287189625414308:=0
def tw13121258062412166063:=0
def tw15544162911116328329:=0
def tw4236225895362135912:=0
def tw6528726945406035907:=0
def tw1061129285654292010:=0
def tw18418212603012103336:=0
def tw1184214881343403282:=0
def tw8604138634300791255:=0
def tw4284441833478272107:=0
def tw17753833806528904524:=0
def tw2632267492576368556:=0
def tw9472418045713614610:=0
def tw15722082838754907647:=0
def tw10125168975184580764:=0
def tw12271509786782693473:=0
def tw11669798161176881372:=0
def tw5178525418812707186:=0
def tw8120438106479207660:=0
def tw14219747410872196181:=0
def tw133277548084131832:=0
def tw16369330623442092478:=0
def tw15852486549175808365:=0
def tw2155979435297560495:=0
def tw2147847172382391884:=0
def tw16172350364746992124:=0
def tw16025011411614880444:=0
def tw8671660947808131741:=0
def tw11221897691687432042:=0
def tw17548636848646960439:=0
def tw1430427181964407995:=0
def tw5872735510573293544:=0
def tw1934899363739624937:=0
def tw8248408501861421290:=0
def tw4462187109051419540:=0
def tw4594572506900975730:=0
def tw6901081362185904100:=0
def tw10124763178710062600:=0
def tw535670405497752767:=0
def tw10983498048678065152:=0
def tw14697886113464481946:=0
def tw1642265995469226103:=0
def tw8827592252121517541:=0
def tw325404058705005079:=0
def tw13676346045671278271:=0
def tw9985897376055958873:=0
def tw12147096794177756591:=0
def tw12409428735603694377:=0
def tw9409257522883441018:=0
def tw3156543505450092410:=0
def tw6637211083838758460:=0
def tw2248532578971675731:=0
def tw5389884675304170813:=0
def tw1310818086799686358:=0
def tw16672045055598002999:=0
def tw11020033170263905437:=0
def tw6107260294368340789:=0
def tw2639419106484351731:=0
def tw12783451114626206487:=0
def tw4398977492376174621:=0
def tw16571486815583665670:=0
def tw16682462555532967659:=0
def tw13437664333382832872:=0
def tw11702850664591090056:=0
def tw5439512788200065606:=0
def tw9834361571062380644:=0
def tw10968969955184552576:=0
def tw8966889206617952762:=0
def tw8782262653578754671:=0
def tw1059724044092456726:=0
def tw2923292373591316216:=0
def tw14186136639847315047:=0
def tw9717942947749315434:=0
def tw15009079375253011223:=0
def tw11820310167519578629:=0
def tw12575425468143039507:=0
def tw14892832381276676656:=0
def tw1408466580511873806:=0
def tw8975082859799736307:=0
def tw661260943993746569:=0
def tw12024573153208329744:=0
def tw4171830570245134749:=0
def tw17379774730298030115:=0
def tw17933846150547952635:=0
def tw3489783498174232453:=0
def tw4288321595558591279:=0
def tw14727235678717136131:=0
def tw4123848316471086353:=0
def tw4946174886440048022:=0
def tw17269775923225309745:=0
def tw13922878107613892942:=0
def tw17699168364971293242:=0
def tw2260603372072210204:=0
def tw4676712869519181025:=0
def tw2296184598463284409:=0
def tw15592204386523957948:=0
def tw4542694292878586012:=0
def tw10239368495087129949:=0
def tw3782705067404807668:=0
def tw17103286002659727866:=0
def tw12323916046480834236:=0
def tw14899833452978011979:=0
def tw5243058986918057267:=0
def tw13036570687711840167:=0
def tw5394372271037310358:=0
def tw12930137640875192581:=0
def tw17869016437145647197:=0
def tw7224533614775405138:=0
def tw12057554259305336928:=0
def tw2547709848707671799:=0
def tw6533213536072051045:=0
def tw17025205134154789391:=0
def tw4861218497041691876:=0
def tw3144993666098066396:=0
def tw8462220404839668631:=0
def tw4042104080277144396:=0
def tw143327825747742241:=0
def tw8744835157664643728:=0
def tw16374409255272796928:=0
def tw11777572899754174500:=0
def tw11963212759019281166:=0
def tw15424248862769752759:=0
def tw5198362345049684756:=0
def tw17357023936468446257:=0
def tw14186953860600761335:=0
def tw7750603978478170876:=0
def tw17623042149949646460:=0
def tw8005121866057728281:=0
def tw12863872182996635665:=0
def tw17004805760037489429:=0
def tw1719955716930682438:=0
def tw12765558677357881099:=0
def tw14715389663966707989:=0
def tw3759974780256610727:=0
def tw14337465789267356755:=0
def tw13333735206220281010:=0
def tw6709203761524916113:=0
def tw7524179956912509635:=0
def tw5486414765851892461:=0
def tw2264039351214583468:=0
def tw18126469489482552925:=0
def tw4102858955102609077:=0
def tw1684990820431407117:=0
def tw17952153306799731163:=0
def tw11189311953560662705:=0
def tw2570184908403364238:=0
def tw3255731106224510030:=0
def tw12436310937838943823:=0
def tw8759514058696364270:=0
def tw14890177419621072843:=0
def tw14035130329996956910:=0
def tw2971558743321135656:=0
def tw15563937478504378118:=0
def tw5598186379220578478:=0
def tw17296107566200179108:=0
def tw9705321103774463182:=0
def tw6106447865594643451:=0
def tw16287211811892640755:=0
def tw13083969483736128083:=0
def tw8317450071354319202:=0
def tw10367075801300902345:=0
def tw3515289600084222164:=0
def tw12606592266725743480:=0
def tw9899595572329380976:=0
def tw1823354223232177357:=0
def tw14292119427998906109:=0
def tw14073803262787481139:=0
def tw9550337607926352200:=0
def tw1516421720354216233:=0
def tw2487061079991641254:=0
def tw6079088287697190400:=0
def tw4222380074966417460:=0
def tw15798189978864473180:=0
def tw5649125985788124852:=0
def tw2207635848277183825:=0
def tw18085211804099496617:=0
def tw4490247999287708554:=0
def tw6303621996091261508:=0
def tw3701989337133984834:=0
def tw3956245286650887545:=0
def tw15165693435106203117:=0
def tw18002052954634026977:=0
def tw2591883716216537882:=0
def tw2343020754759522896:=0
def tw5078857527939305733:=0
def tw5049824066755802154:=0
def tw5751406469912141240:=0
def tw2895211709857093346:=0
def tw12987643015482616110:=0
def tw9715048205577964178:=0
def tw7420273882082803471:=0
def tw3872994757993151933:=0
def tw2979328986460816933:=0
def tw17110532651874925242:=0
def tw16841673690531835733:=0
def tw1442244247076782856:=0
def tw11463063344336148613:=0
def tw4124151084326212185:=0
def tw7323127264971483682:=0
def tw40171486488349620:=0
def tw9864934242295962850:=0
def tw646669464990481923:=0
def tw12585253914463451685:=0
def tw17802602055445734958:=0
def tw6521364085844987618:=0
def tw10533082034522363947:=0
def tw14038564817037551591:=0
def tw4697640100865312461:=0
def tw3583030341929892927:=0
def tw10710656097455149907:=0
def tw4625921241282272217:=0
def tw15402220980766270440:=0
def tw4603869223793779187:=0
def tw18015530528799638012:=0
def tw993936006721658773:=0
def tw6567477542676605956:=0
def tw12410197957149718259:=0
def tw17935369843729361441:=0
def tw264098137123861731:=0
def tw12976914087221455874:=0
def tw13536501469384168402:=0
def tw9430207087711833841:=0
def tw18371457927858629521:=0
def tw10746162392927096603:=0
def tw7762292217219903598:=0
def tw1653253041164217447:=0
def tw5532722281533098876:=0
def tw6720083050167143001:=0
def tw10658849416641392593:=0
def tw8225543330794345277:=0
def tw5781577445411196578:=0
def tw5421335990874793838:=0
def tw2304220474367991484:=0
def tw127939940375503503:=0
def tw13843418973495306941:=0
def tw18041732669220857442:=0
def tw3495526857186676756:=0
def tw3455275818448530197:=0
def tw12986855839851899030:=0
def tw17416886771844342913:=0
def tw12803187971164818850:=0
def tw3960651494131908035:=0
def tw10609799326364722773:=0
def tw12207432342955383467:=0
def tw17790217233765119913:=0
def tw4224195828831793628:=0
def tw13800227767339228810:=0
def tw15616174301742741013:=0
def tw17705867401195545951:=0
def tw3409418071594383964:=0
def tw15330407687806300161:=0
def tw1064023363607588646:=0
def tw2449119115730551408:=0
def tw13313279280791034213:=0
def tw3998065327993500487:=0
def tw8323879342768023938:=0
def tw18031526110493774857:=0
def tw9068683602445181192:=0
def tw4633881346955826424:=0
def tw1107203311009470706:=0
def tw7640140223058870273:=0
def tw3452160368194768657:=0
def tw11054855403159683947:=0
def tw17455011374356437614:=0
def tw3752606843462946004:=0
def tw13133178660780208387:=0
def tw2852187986328747848:=0
def tw8259325942619742370:=0
def tw6260868309106474289:=0
def tw9641932739272242425:=0
def tw118913767955037888:=0
def tw4992614324351908740:=0
def tw2367841001825757428:=0
def tw8276793833837936438:=0
def tw5391894373820588670:=0
def tw5847501962331906985:=0
def tw16670612500331568558:=0
def tw15188028185691927026:=0
def tw8831411355005363023:=0
def tw16208175066271196261:=0
def tw2963678559490928582:=0
def tw13195091002056917543:=0
def tw17463563095885930797:=0
def tw11885230301420167684:=0
def tw2778368915632009665:=0
def tw15215806067275672388:=0
def tw18309644670853827864:=0
def tw4070515039768997714:=0
def tw8022341281269398910:=0
def tw1431322659178500962:=0
def tw11303491765978126081:=0
def tw4959193335528769154:=0
def tw8684825699562922431:=0
def tw12133354105966311782:=0
def tw1076183860124423030:=0
def tw564541175404996220:=0
def tw2263600507290869331:=0
def tw7888209830558911388:=0
def tw10998095348439505921:=0
def tw5262133434303065984:=0
def tw4891396454804967094:=0
def tw8611238393189710705:=0
def tw16253409793585212663:=0
def tw10964476474437441246:=0
def tw155281881234267697:=0
def tw7007776795238776300:=0
def tw1698133518528397324:=0
def tw673229151215251333:=0
def tw3611384599076907105:=0
def tw11425661686190427775:=0
def tw2381242984548087370:=0
def tw2382056506935112941:=0
def tw14573227726448783400:=0
def tw11023009402290309350:=0
def tw13940605333789249194:=0
def tw12972255464038410436:=0
def tw14553061579649160274:=0
def tw17387786762521504644:=0
def tw10502153361652887481:=0
def tw7619644907360264902:=0
def tw11346919973897364491:=0
def tw5889820286604237604:=0
def tw15507195134137631555:=0
def tw16291852468754174993:=0
def tw9064156185100188909:=0
def tw16385924870075856414:=0
def tw10202919475082346170:=0
def tw9831057789480714637:=0
def tw12593955126099180615:=0
def tw6978735917688265165:=0
def tw5809787246577286494:=0
def tw2786086263905981584:=0
def tw9037183080978142822:=0
def tw6541845332763981303:=0
def tw16385535755449162838:=0
def tw9463646675782283388:=0
def tw2100963651305023375:=0
def tw341638026759170939:=0
def tw2953434367217208689:=0
def tw8528731514225444212:=0
def tw16522724961354663:=0
def tw3461257613666163159:=0
def tw10076693943615647761:=0
def tw1082462026862147685:=0
def tw11665445927848534900:=0
def tw12786845861020799241:=0
def tw5562250680618854651:=0
def tw11223232389925254815:=0
def tw13257519183283359378:=0
def tw15743964980298457608:=0
def tw8656495083708851175:=0
def tw3201475735958610898:=0
def tw12448883908135388303:=0
def tw5514361486195505498:=0
def tw16506754645504188871:=0
def tw10986123229957584285:=0
def tw4923921367239768047:=0
def tw1680810646809129097:=0
def tw364997248712450087:=0
def tw17090423762239924410:=0
def tw974090182857796597:=0
def tw4927638070127775742:=0
def tw16786520888772606101:=0
def tw5013849806802615622:=0
def tw17062154517514167851:=0
def tw17237689369851423107:=0
def tw11803428648846078961:=0
def tw7842094743042290018:=0
def tw7061028174259485359:=0
end PySem.W.Fast
open PySem PySem.W PyProof.Rows
local macro_rules| `(tactic|walk_at "dn")=>`(tactic|(refine' L2.Dn.of (by assumption) (by assumption) ?a ?l ?c ?k ?b;(case a=>k_is);(case l=>k_is);(case c=>k_is);(case k=>k_is);(case b=>(repeat refine L2.lenS λ_=>?_);exact L2.Zk1 λ_ _ _ _ _ _=>rfl)))
local macro_rules| `(tactic|walk_at "dm")=>`(tactic|(refine' L2.Dm.of ?a ?i ?l ?c ?k ?b;(case a=>k_is);(case i=>k_is);(case l=>k_is);(case c=>k_is);(case k=>k_is);(case b=>(repeat refine L2.lenS λ_=>?_);exact L2.Zk1 λ_ _ _ _ _ _=>rfl)))
local macro_rules| `(tactic|walk_at "di")=>`(tactic|(refine' L2.Di.of ?z ?y ?a ?i ?l ?c ?k ?b;(case z=>k_is);(case y=>k_is);(case a=>k_is);(case i=>k_is);(case l=>k_is);(case c=>k_is);(case k=>k_is);(case b=>(repeat refine L2.lenS λ_=>?_);exact L2.Zk1 λ_ _ _ _ _ _=>rfl)))
local macro_rules| `(tactic|walk_at "na")=>`(tactic|((repeat refine L2.Zmg (by k_is) ?_);exact L2.Zn2))
local macro_rules| `(tactic|walk_at "ex")=>`(tactic|(refine' ⟨?g,mg_of (by assumption) (by assumption) ?m,?e⟩;(case g=>k_is);(case m=>k_is);(case e=>k_exc)))
local macro_rules| `(tactic|walk_at "xc")=>`(tactic|exact⟨L2.Zkr (show excIn _ _ [.type "ValueError",.type "Exception",.type "BaseException",.type "object"] "ValueError.__new__" =true by k_exc),by k_is,by k_is,by k_is,by k_is,by k_is,by k_is,by k_is⟩)
set_option maxRecDepth 100000 in
set_option maxHeartbeats 0 in
theorem PySem.Challenge.cw_ratehall_k18_rooms_that_fit_holds : PySem.Challenge.rw_ratehall_k18_rooms_that_fit.Holds := by
 w_on;o_law;k_head;(case hw=>w_witness2)
 k_fill
 refine Nm.walk (l:=PySem.Challenge.rw_ratehall_k18_rooms_that_fit) rfl rfl rfl (λw h Y=>kIn_of Y) ?F
 case F=>
  intro w mg h eV G
  refine' ⟨Nm.Tp.mk (mg_of eV G ?NV) ⟨?NW,?NX,?NY,?NZ⟩ ?N0 (mg_of eV G ?N1) ⟨?N2,?N3,?N4,?N5⟩ ?N6 ?N7 ?N8 ?N9 ?N_ ?N' ?Oa ?Ob ?Oc ?Od ?Oe ?Of ?Og ⟨?Oh,?Oi,?Oj⟩ (L2.Zmt ?Ol ?Om ?On) (L2.Znw ?Oo) ?Op ?Oq (.cons ⟨_,rfl⟩ .nil) ?Ot ?Ou ?Ov ?Ow ?Ox ?Oy ?Oz ?OA ?OB ?OC ?OD ?OE ?OF ?OG ?OH ?OI ?OJ ?OK ?OL ?OM ?ON ?OO ?OP ?OQ ?OR ?OS ?OT ?OU ?OV ?OW ?OX ?OY ?OZ ?O0 ?O1 ?O2 ?O3 ?O4 ?O5 ?O6 ?O7 ?O8 ?O9 ?O_ ?Pa ?Pb ?Pc ?Pd ?Pe ?Pf ?Pg (mg_none_of eV G ?Ph) (mg_none_of eV G ?Pj) (mg_none_of eV G ?Pk) (mg_none_of eV G ?Pl) (mg_none_of eV G ?Pm) (mg_none_of eV G ?Pn) (mg_none_of eV G ?Po) (mg_none_of eV G ?Pp) (mg_none_of eV G ?Pq) (mg_none_of eV G ?Pr) (mg_none_of eV G ?Ps) (mg_none_of eV G ?Pu) (mg_none_of eV G ?Pw) (mg_none_of eV G ?Px) (mg_none_of eV G ?Py) (mg_none_of eV G ?Pz) (mg_none_of eV G ?PB) (mg_none_of eV G ?PD) ?PF ?PH ?PJ ?PL ?PM ?PN ?PP ?PQ ?PR ?PU ?PV ?PX ?PY ?PZ ?P0 ?P1 ?P2 ?P4 ?P5 ?P6 ?P7 ?P8 ?P9 ?P_ ?P' ?Qa ?Qb ?Qc ?Qd ?Qe ?Qf ?Qg ?Qh ?Qi ?Qj ?Qk ?Ql ?Qm ?Qn ?Qo ?Qp ?Qq ?Qr ?Qs ?Qt ?Qu ?Qv ?Qw ?Qx ?Qy ?Qz ?QA ?QB ?QC ?QD ?QE ?QF ?QG ?QH ?QI ?QJ ?QK ?QL ?QM ?QN (mg_of eV G ?QO) (mg_of eV G ?QP) (mg_of eV G ?QQ) (mg_of eV G ?QR) ?QS,trivial⟩
  case NV|NW|NX|NY|NZ=>k_is
  case N0=>walk_at "na"
  case N1|N2|N3|N4|N5=>k_is
  case N6=>walk_at "na"
  case N7|N8|N9|N_|N'=>walk_at "dn"
  case Oa=>walk_at "dm"
  case Ob|Oc|Od|Oe=>walk_at "dn"
  case Of|Og=>walk_at "dm"
  case Oh|Oi|Oj|Ol|Om|On|Oo=>k_is
  case Op=>exact λs us X af=>(match us,(show us.length=6 by simpa using af) with| [_,_,_,_,_,_],_=>binds_K X rfl (by k_is) rfl rfl rfl)
  case Oq=>exact λs us X af=>(match us,(show us.length=5 by simpa using af) with| [_,_,_,_,_],_=>binds_K X rfl (by k_is) rfl rfl rfl)
  case Ot=>walk_at "di"
  case Ou=>walk_at "dn"
  case Ov|Ow=>walk_at "dm"
  case Ox|Oy|Oz|OA|OB|OC|OD=>walk_at "dn"
  case OE|OF=>walk_at "dm"
  case OG|OH|OI|OJ|OK|OL|OM|ON|OO|OP|OQ=>walk_at "dn"
  case OR|OS|OT|OU|OV=>walk_at "dm"
  case OW=>walk_at "dn"
  case OX=>walk_at "dm"
  case OY|OZ=>walk_at "dn"
  case O0=>walk_at "di"
  case O1|O2|O3|O4|O5|O6|O7|O8|O9|O_|Pa|Pb|Pc|Pd|Pe|Pf|Pg=>walk_at "dn"
  case Ph|Pj|Pk|Pl|Pm|Pn|Po|Pp|Pq|Pr|Ps|Pu|Pw|Px|Py|Pz|PB|PD=>k_is
  case PF|PH|PJ|PL|PM|PN|PP|PQ|PR|PU=>walk_at "ex"
  case PV|PX|PY|PZ|P0|P1|P2|P4|P5|P6=>kts_exm
  case P7|P8|P9|P_|P'|Qa|Qb|Qc|Qd=>walk_at "xc"
  case Qe|Qf|Qg|Qh|Qi|Qj|Qk|Ql|Qm|Qn|Qo|Qp|Qq|Qr|Qs|Qt|Qu|Qv|Qw|Qx|Qy|Qz|QA|QB|QC|QD|QE|QF|QG|QH|QI|QJ|QK|QL|QM|QN=>kit_is
  case QO|QP|QQ|QR=>k_is
  case QS=>exact λs v=> .of_eq rfl
#print axioms PySem.Challenge.cw_ratehall_k18_rooms_that_fit_holds
