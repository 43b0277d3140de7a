import PyProof.Rows.All
import Wide.All
import OpenK.AllK
import Wide.FinOn
import Lean
import PyProof.EqAt
import PyProof.EqKinds
import PyProof.TupleCall
import PyProof.FactsAll.set
import PySem.Challenge.RW_ratehall_k13_stop_walked
set_option maxHeartbeats 4000000
set_option compiler.extract_closed false
set_option bootstrap.genMatcherCode false
set_option Elab.async false
set_option linter.all false
set_option maxRecDepth 100000
namespace L2
open PySem PySem.Spec PyProof.Rows
noncomputable abbrev Key:=Sum Int Str
noncomputable def Zch:Key→Value→Bool
 | .inl k,v=>Value.isInt k v
 | .inr x,v=>Value.isStrOf x v
noncomputable def ZmV (w:World):Key→Int
 | .inl k=>hashInt k
 | .inr x=>hashStr w x
theorem YK:∀{k:Key}{v:Value},Zch k v=true→(∃i t,k=Sum.inl i∧v=Value.int i t)∨(∃x t,k=Sum.inr x∧v=Value.str x t)
 | .inl i,v,h=>by
  obtain⟨t,e⟩:=Value.isInt_shape (k:=i) (v:=v) h;exact .inl ⟨i,t,rfl,e⟩
 | .inr x,v,h=>by
  obtain⟨t,e⟩:=Value.isStrOf_shape (x:=x) (v:=v) h;exact .inr ⟨x,t,rfl,e⟩
theorem Zia(i:Int)(t:Tok):Zch (.inl i) (.int i t)=true:=by simp[Zch,Value.isInt]
theorem Zih(x:Str)(t:Tok):Zch (.inr x) (.str x t)=true:=by simp[Zch,Value.isStrOf]
theorem ZkV(a b:Int):decide ((Sum.inl a:Key)=Sum.inl b)=(a==b):=by
 by_cases e:a=b
 ·subst e;simp
 ·have h:¬(Sum.inl a:Key)=Sum.inl b:=fun q=>e (Sum.inl.inj q);rw[decide_eq_false h];exact(beq_eq_false_iff_ne.mpr e).symm
theorem Zlg(a b:Str):decide ((Sum.inr a:Key)=Sum.inr b)=decide (a=b):=by
 by_cases e:a=b
 ·subst e;simp
 ·have h:¬(Sum.inr a:Key)=Sum.inr b:=fun q=>e (Sum.inr.inj q);rw[decide_eq_false h,decide_eq_false e]
theorem Zk7(a:Int)(b:Str):decide ((Sum.inl a:Key)=Sum.inr b)=false:=decide_eq_false (fun q=>nomatch q)
theorem Zlt(a:Str)(b:Int):decide ((Sum.inr a:Key)=Sum.inl b)=false:=decide_eq_false (fun q=>nomatch q)
noncomputable def ZP (prog:Program) (w:World):PySem.KeyKind prog w Key where
 is:=Zch
 hash:=ZmV w
 inj:=fun v a b ha hb=>by
  rcases YK ha with⟨i,t,rfl,rfl⟩|⟨x,t,rfl,rfl⟩
  ·rcases YK hb with⟨j,u,rfl,e⟩|⟨y,u,rfl,e⟩
   ·injection e with e1 _;rw[e1]
   ·exact nomatch e
  ·rcases YK hb with⟨j,u,rfl,e⟩|⟨y,u,rfl,e⟩
   ·exact nomatch e
   ·injection e with e1 _;rw[e1]
 byValue:=fun k v h=>by
  rcases YK h with⟨i,t,rfl,rfl⟩|⟨x,t,rfl,rfl⟩<;>rfl
 pyHash:=fun hv h=>by
  rcases YK hv with⟨i,t,rfl,rfl⟩|⟨x,t,rfl,rfl⟩
  ·exact wpAny_pyHash_int h
  ·exact wpAny_pyHash_str h
 eqBool:=fun hu hv h=>by
  rcases YK hu with⟨i,t,rfl,rfl⟩|⟨x,t,rfl,rfl⟩
  ·rcases YK hv with⟨j,u,rfl,rfl⟩|⟨y,u,rfl,rfl⟩
   ·rw[ZkV] at h;exact wpAny_eqBool_int h
   ·rw[Zk7] at h;exact SeqAt.EqAt.int_str i t y u _ _ _ _ h
  ·rcases YK hv with⟨j,u,rfl,rfl⟩|⟨y,u,rfl,rfl⟩
   ·rw[Zlt] at h;exact SeqAt.EqAt.str_int x t j u _ _ _ _ h
   ·rw[Zlg] at h;exact wpAny_eqBool_str h
 «strs»:=fun k x t v h=>by
  rcases YK h with⟨i,u,rfl,e⟩|⟨y,u,rfl,e⟩
  ·exact nomatch e
  ·injection e with e1 _
   subst e1;cases v<;>rfl
theorem Zf9(prog:Program)(w:World)(i:Int)(t:Tok):(ZP prog w).is (.inl i) (.int i t)=true:=Zia i t
theorem Zf6(prog:Program)(w:World)(x:Str)(t:Tok):(ZP prog w).is (.inr x) (.str x t)=true:=Zih x t
end L2
namespace L2
open PySem PySem.Spec PyProof.Rows
inductive V where
 |non|bl (b:Bool)|int (i:Int)|str (x:Str)|byt (b:Array UInt8)|flt (b:UInt64)|ref (a:Addr)|ty (n:String)
 deriving DecidableEq
noncomputable def ZF:V→Value→Prop
 | .non,u=>u=Value.none
 | .bl b,u=>u=Value.bool b
 | .int i,u=>∃t,u=Value.int i t
 | .str x,u=>∃t,u=Value.str x t
 | .byt b,u=>∃t,u=Value.bytes b t
 | .flt b,u=>∃t,u=Value.float b t
 | .ref a,u=>u=Value.ref a
 | .ty n,u=>u=Value.type n
noncomputable abbrev ZD:List V→List Value→Prop:=Paired ZF
theorem ZD.length{xs:List V}{us:List Value}(r:ZD xs us):xs.length=us.length:=Paired.length r
theorem ZD.get:∀{xs:List V}{us:List Value}{i:Nat}{x:V},ZD xs us→xs[i]? =some x→∃u,us[i]? =some u∧ZF x u
 |_,_,_,_,.nil,e=>by simp at e
 |_,_,0,_,.cons r _,e=>by simp at e;subst e;exact⟨_,rfl,r⟩
 |_,_,i+1,x,.cons _ t,e=>by
  obtain⟨u,h1,h2⟩:=ZD.get (i:=i) (x:=x) t (by simpa using e);exact⟨u,by simpa using h1,h2⟩
theorem ZD.set{x:V}{u:Value}(r:ZF x u):∀{xs:List V}{us:List Value}(i:Nat),ZD xs us→ZD (xs.set i x) (us.set i u)
 |_,_,_,.nil=> .nil
 |_,_,0,.cons _ t=> .cons r t
 |_,_,i+1,.cons q t=> .cons q (ZD.set r i t)
theorem ZD.append:∀{xs ys:List V}{us ws:List Value},ZD xs us→ZD ys ws→ZD (xs++ys) (us++ws)
 |_,_,_,_,.nil,s=>s
 |_,_,_,_,.cons r t,s=> .cons r (ZD.append t s)
theorem ZD.take:∀{xs:List V}{us:List Value}(n:Nat),ZD xs us→ZD (xs.take n) (us.take n)
 |_,_,0,_=> .nil
 |_,_,_+1,.nil=> .nil
 |_,_,n+1,.cons r t=> .cons r (ZD.take n t)
theorem ZD.drop:∀{xs:List V}{us:List Value}(n:Nat),ZD xs us→ZD (xs.drop n) (us.drop n)
 |_,_,0,r=>r
 |_,_,_+1,.nil=> .nil
 |_,_,n+1,.cons _ t=>ZD.drop n t
noncomputable def WU:Option V→Option Value→Prop
 |some v,some u=>ZF v u
 |none,none=>True
 |_,_=>False
noncomputable def KV {κ:Type}:List (κ×V)→List (κ×Value)→Prop:=Paired fun(p:κ×V) (q:κ×Value)=>p.1=q.1∧ZF p.2 q.2
noncomputable def kV:Key→V
 | .inl i=> .int i
 | .inr x=> .str x
inductive HO where
 |lst (xs:List V)
 |tup (xs:List V)
 |dK (kvs:List (Key×V))|dT (kvs:List (List Key×V))
 |set (S:Int→Bool) (n:Nat)
 |ins (C dx:Addr) (fs:List (Str×V))
 |own (x:Addr)
 |xd (fs:List (Str×V))
 |met (f x:Addr)
 |rng (lo hi:Int)
 |frz (o:Obj) (u:HO)
 |tbl (ps:Array Value)
 |ext (φ:Heap→Prop)
noncomputable abbrev Hp:=Addr→Option HO
noncomputable def upd (H:Hp) (a:Addr) (o:HO):Hp:=fun b=>if b=a then some o else H b
theorem Zd{H:Hp}{a:Addr}{o:HO}:upd H a o a=some o:=by unfold upd;rw[if_pos rfl]
theorem Zg{H:Hp}{a b:Addr}{o:HO}(h:b≠a):upd H a o b=H b:=by unfold upd;rw[if_neg h]
theorem Yx{H:Hp}{a b:Addr}{o u:HO}(h:H a=some o)(h':H b=some u)(d:o≠u):a≠b:=by
 intro e;subst e;rw[h] at h';exact d (Option.some.inj h')
theorem Zo{H:Hp}{a b:Addr}{o:HO}(h:H a=some o)(h':H b=none):a≠b:=by
 intro e;subst e;rw[h] at h';cases h'
section
variable (P:Program)(w:World)
noncomputable def Z1 (H:Hp) (h:Heap) (a:Addr):HO→Prop
 | .lst xs=>xs.length≤sizeLine∧∃(its:List Value)(n:Nat),ZD xs its∧h.get? a=some {cls:= .type "list",data:= .seq its.toArray n}
 | .tup xs=>xs.length≤sizeLine∧∃its:List Value,ZD xs its∧IsTup h a its.toArray
 | .dK kvs=>kvs.length≤sizeLine∧(a==sysModules)=false∧∃vs,KV kvs vs∧h.DictOf (ZP P w) a vs
 | .dT kvs=>kvs.length≤sizeLine∧(a==sysModules)=false∧∃xs:List (List Key×Addr×Value),
   Paired (fun(p:List Key×V) (q:List Key×Addr×Value)=>p.1=q.1∧H q.2.1=some (.tup (p.1.map kV))∧ZF p.2 q.2.2) kvs xs∧
   ∃o es ep,h.get? a=some o∧o.ExactDict∧o.data= .dict es ep∧es.toList=xs.map (entryOfKey (tupleKind (ZP P w)))∧(xs.map (·.1)).Nodup
 | .set S n=>h.SetOf (intKind P w) a S n
 | .ins C dx fs=>H dx=some (.own a)∧fs.length≤1000∧dx≠a∧h.get? a=some (PySem.W.instObj C dx)∧
   ∃mA,h.Ns1 dx mA∧(∀f,WU (fs.lookup f) (mA f))∧PySem.Within mA (fs.map (·.1))
 | .own _=>∃o,h.get? a=some o
 | .xd fs=>∃mA,h.Ns1 a mA∧∀f,WU (fs.lookup f) (mA f)
 | .rng lo hi=>∃t u v,h.get? a=some {cls:= .type "range",data:= .fields #[.int lo t,.int hi u,.int 1 v]}
 | .frz o u=>h.get? a=some o∧Z1 H h a u
 | .tbl ps=>h.get? a=some {cls:= .none,data:= .fields ps}
 | .met f x=>h.get? a=some (PySem.W.methodObj (.ref f) (.ref x))
 | .ext φ=>φ h∧(∃o,h.get? a=some o)∧∀h1 h2:Heap,φ h1→(∀o,h1.get? a=some o→h2.get? a=some o)→φ h2
def HOk(H:Hp)(h:Heap):Prop:=∀a o,H a=some o→Z1 P w H h a o
end
section
variable {P:Program}{w:World}{H H':Hp}{h h':Heap}{a:Addr}{o:HO}
theorem Z1.lt(x:Z1 P w H h a o):a<h.objs.size:=by
 cases o with
 |lst xs=>obtain⟨_,_,_,_,e⟩:=x;exact Heap.lt_size e
 |tup xs=>obtain⟨_,_,_,p⟩:=x;exact p.lt
 |dK kvs=>obtain⟨_,_,_,_,o,_,_,e,_⟩:=x;exact Heap.lt_size e
 |dT kvs=>obtain⟨_,_,_,_,o,_,_,e,_⟩:=x;exact Heap.lt_size e
 |set S n=>obtain⟨o,_,_,_,e,_⟩:=x;exact Heap.lt_size e
 |ins C dx fs=>obtain⟨_,_,_,e,_⟩:=x;exact Heap.lt_size e
 |own y=>obtain⟨_,e⟩:=x;exact Heap.lt_size e
 |xd fs=>obtain⟨_,⟨_,_,_,e,_⟩,_⟩:=x;exact Heap.lt_size e
 |rng lo hi=>obtain⟨_,_,_,e⟩:=x;exact Heap.lt_size e
 |frz ob u=>obtain⟨e,_⟩:=x;exact Heap.lt_size e
 |tbl ps=>exact Heap.lt_size (show h.get? a=some _ from x)
 |met f y=>exact Heap.lt_size (show h.get? a=some _ from x)
 |ext φ=>obtain⟨_,⟨_,e⟩,_⟩:=x;exact Heap.lt_size e
theorem Paired.mapP{α β:Type}{F G:α→β→Prop}:∀{l₁:List α}{l₂:List β},Paired F l₁ l₂→(∀a b,F a b→G a b)→Paired G l₁ l₂
 |_,_,.nil,_=> .nil
 |_,_,.cons r t,f=> .cons (f _ _ r) (Paired.mapP t f)
theorem Z1.stay(x:Z1 P w H h a o)(k:∀b u,(b=a∨H b=some (.own a))→h.get? b=some u→h'.get? b=some u)
  (ho:∀b,H b=some (.own a)→H' b=some (.own a)) (ht:∀b xs,H b=some (.tup xs)→H' b=some (.tup xs)):Z1 P w H' h' a o:=by
 induction o with
 |lst xs=>obtain⟨z,its,n,r,e⟩:=x;exact⟨z,its,n,r,k _ _ (.inl rfl) e⟩
 |tup xs=>obtain⟨z,its,r,ob,e,c⟩:=x;exact⟨z,its,r,ob,k _ _ (.inl rfl) e,c⟩
 |dK kvs=>obtain⟨z,y,vs,r,ob,es,ep,e,c⟩:=x;exact⟨z,y,vs,r,ob,es,ep,k _ _ (.inl rfl) e,c⟩
 |dT kvs=>
  obtain⟨z,y,xs,r,ob,es,ep,e,c⟩:=x;exact⟨z,y,xs,Paired.mapP r fun p q z=>⟨z.1,ht _ _ z.2.1,z.2.2⟩,ob,es,ep,k _ _ (.inl rfl) e,c⟩
 |set S n=>obtain⟨ob,es,ep,t,e,c⟩:=x;exact⟨ob,es,ep,t,k _ _ (.inl rfl) e,c⟩
 |ins C dx fs=>
  obtain⟨d,z,ne,e,mA,⟨od,es,ep,e2,c⟩,r⟩:=x;exact⟨ho _ d,z,ne,k _ _ (.inl rfl) e,mA,⟨od,es,ep,k _ _ (.inr d) e2,c⟩,r⟩
 |own y=>obtain⟨ob,e⟩:=x;exact⟨ob,k _ _ (.inl rfl) e⟩
 |xd fs=>obtain⟨mA,⟨od,es,ep,e,c⟩,r⟩:=x;exact⟨mA,⟨od,es,ep,k _ _ (.inl rfl) e,c⟩,r⟩
 |rng lo hi=>obtain⟨t,u,v,e⟩:=x;exact⟨t,u,v,k _ _ (.inl rfl) e⟩
 |frz ob u ih=>obtain⟨e,q⟩:=x;exact⟨k _ _ (.inl rfl) e,ih q⟩
 |tbl ps=>
  have e:h.get? a=some {cls:= .none,data:= .fields ps}:=x;show h'.get? a=some {cls:= .none,data:= .fields ps};exact k a _ (.inl rfl) e
 |met f y=>
  have e:h.get? a=some (PySem.W.methodObj (.ref f) (.ref y)):=x;show h'.get? a=some (PySem.W.methodObj (.ref f) (.ref y));exact k a _ (.inl rfl) e
 |ext φ=>obtain⟨p,⟨o,e⟩,st⟩:=x;exact⟨st _ _ p fun o q=>k _ _ (.inl rfl) q,⟨o,k _ _ (.inl rfl) e⟩,st⟩
theorem HOk.lt(x:HOk P w H h)(e:H a=some o):a<h.objs.size:=(x a o e).lt
theorem HOk.fresh(x:HOk P w H h)(e:h.objs.size≤a):H a=none:=by
 cases q:H a with
 |none=>rfl
 |some u=>exact absurd (Nat.lt_of_lt_of_le (x.lt q) e) (Nat.lt_irrefl _)
theorem HOk.kept(x:HOk P w H h)(k:∀b u,h.get? b=some u→h'.get? b=some u):HOk P w H h':=fun a o e=>
 (x a o e).stay (fun b u _ q=>k b u q) (fun _ q=>q) fun _ _ q=>q
theorem HOk.laid(x:HOk P w H h)(k:∀b u,h.get? b=some u→h'.get? b=some u)(hp:h.objs.size≤a)(new:Z1 P w (upd H a o) h' a o):HOk P w (upd H a o) h':=fun b u e=>by
 have hn:=x.fresh hp
 by_cases hb:b=a
 ·subst hb;rw[Zd] at e;cases e;exact new
 ·rw[Zg hb] at e;exact(x b u e).stay (fun c v _ q=>k c v q) (fun c q=>by rw[Zg (Zo q hn)];exact q) fun c xs q=>by rw[Zg (Zo q hn)];exact q
end
def Rd(H:Hp)(a:Addr)(u:HO):Prop:=H a=some u∨∃o,H a=some (.frz o u)
theorem Rd.ok{P:Program}{w:World}{H:Hp}{h:Heap}{a:Addr}{u:HO}(r:Rd H a u)(x:HOk P w H h):Z1 P w H h a u:=by
 rcases r with r|⟨o,r⟩
 ·exact x a u r
 ·obtain⟨_,q⟩:=x a _ r;exact q
noncomputable def Mut:Option HO→Prop
 |some (.lst _)=>True
 |some (.dK _)=>True
 |some (.dT _)=>True
 |some (.set _ _)=>True
 |some (.ins _ _ _)=>True
 |some (.ext _)=>True
 |_=>False
section
variable {P:Program}{w:World}{H:Hp}{h h':Heap}{x e:Addr}{o':HO}
theorem HOk.write(ok:HOk P w H h)(mu:Mut (H x))(he:e=x∨H e=some (.own x))(k:∀b u,b≠e→h.get? b=some u→h'.get? b=some u)(heo:∃u,h'.get? e=some u)
  (new:Z1 P w (upd H x o') h' x o'):HOk P w (upd H x o') h':=fun b u q=>by
 have nown:∀c y,H c=some (.own y)→c≠x:=fun c y r z=>by subst z;rw[r] at mu;exact mu
 have ntup:∀c xs,H c=some (.tup xs)→c≠x:=fun c xs r z=>by subst z;rw[r] at mu;exact mu
 by_cases hb:b=x
 ·subst hb;rw[Zd] at q;cases q;exact new
 ·rw[Zg hb] at q
  by_cases hbe:b=e
  ·have q':H b=some (.own x):=by
    rcases he with z|z
    ·exact absurd (hbe.trans z) hb
    ·rw[hbe];exact z
   rw[q] at q';cases q';obtain⟨v,hv⟩:=heo;exact⟨v,by rw[hbe];exact hv⟩
  ·refine(ok b u q).stay (fun c v hc r=>k c v ?_ r) (fun c r=>by rw[Zg (nown c b r)];exact r) fun c xs r=>by rw[Zg (ntup c xs r)];exact r
   rcases hc with rfl|hc
   ·exact hbe
   ·rintro rfl;rcases he with z|z
    ·exact nown c b hc z
    ·rw[hc] at z;cases z;exact hb rfl
end
structure Un(fs ex:List Addr)(H H':Hp)(h h':Heap):Prop where
 keep:∀b o,h.get? b=some o→H b=none→b∉fs→b∉ex→h'.get? b=some o
 slot:∀b o,h.get? b=some o→H b=none→b∈fs→b∉ex→∃sl,h'.get? b=some {o with slots:=sl}
 free:∀b o,h.get? b=some o→H b=none→b∉ex→H' b=none
 there:∀b o,h.get? b=some o→b∉ex→∃o',h'.get? b=some o'
 tups:∀b xs,H b=some (.tup xs)→H' b=some (.tup xs)
 frzs:∀b o u,H b=some (.frz o u)→H' b=some (.frz o u)
 tbls:∀b ps,H b=some (.tbl ps)→∃more,H' b=some (.tbl (ps++more))
section
variable {fs fs' ex ex':List Addr}{H H1 H2:Hp}{h h1 h2 h':Heap}{a x e:Addr}{o:HO}
theorem Un.any(u:Un fs ex H H1 h h1){b:Addr}{ob:Obj}(q:h.get? b=some ob)(n:H b=none)(hx:b∉ex):∃sl,h1.get? b=some {ob with slots:=sl}:=by
 by_cases hb:b∈fs
 ·exact u.slot b ob q n hb hx
 ·exact⟨ob.slots,u.keep b ob q n hb hx⟩
theorem Un.kept(k:∀b u,h.get? b=some u→h'.get? b=some u):Un fs ex H H h h':=
 ⟨fun b ob q _ _ _=>k b ob q,fun b ob q _ _ _=>⟨ob.slots,k b ob q⟩,fun _ _ _ n _=>n,fun b ob q _=>⟨ob,k b ob q⟩,fun _ _ q=>q,fun _ _ _ q=>q,fun _ ps q=>⟨#[],by rw[q];simp⟩⟩
theorem Un.refl:Un fs ex H H h h:=Un.kept fun _ _ q=>q
theorem Un.laid(k:∀b u,h.get? b=some u→h'.get? b=some u)(hp:h.objs.size≤a)(hn:H a=none):Un fs ex H (upd H a o) h h' where
 keep:=fun b u q _ _ _=>k b u q
 slot:=fun b u q _ _ _=>⟨u.slots,k b u q⟩
 free:=fun b u q n _=>by rw[Zg (Nat.ne_of_lt (Nat.lt_of_lt_of_le (Heap.lt_size q) hp))];exact n
 there:=fun b u q _=>⟨u,k b u q⟩
 tups:=fun b xs q=>by rw[Zg (Zo q hn)];exact q
 frzs:=fun b u xs q=>by rw[Zg (Zo q hn)];exact q
 tbls:=fun b ps q=>⟨#[],by rw[Zg (Zo q hn),q];simp⟩
theorem Un.write(mu:Mut (H x))(he:e=x∨H e=some (.own x))(k:∀b u,b≠e→h.get? b=some u→h'.get? b=some u)(heo:∃u,h'.get? e=some u):Un fs ex H (upd H x o) h h':=by
 have hx:∀b,H b=none→b≠x:=fun b n z=>by subst z;rw[n] at mu;exact mu
 have hb:∀b,H b=none→b≠e:=fun b n z=>by
  subst z;rcases he with r|r
  ·exact hx b n r
  ·rw[n] at r;cases r
 have hm:∀b u,H b=some u→¬Mut (some u)→b≠x:=fun b u q nm z=>by subst z;rw[q] at mu;exact nm mu
 refine⟨fun b u q n _ _=>k b u (hb b n) q,fun b u q n _ _=>⟨u.slots,k b u (hb b n) q⟩,fun b u q n _=>by rw[Zg (hx b n)];exact n,fun b u q _=>?_,
  fun b xs q=>by rw[Zg (hm b _ q fun z=>z)];exact q,fun b u xs q=>by rw[Zg (hm b _ q fun z=>z)];exact q,fun b ps q=>⟨#[],by rw[Zg (hm b _ q fun z=>z),q];simp⟩⟩
 by_cases hbe:b=e
 ·subst hbe;exact heo
 ·exact⟨u,k b u hbe q⟩
end
noncomputable def trk (h:Heap) (H:Hp):List Addr:=(List.range h.objs.size).filter fun a=>(H a).isSome
noncomputable def Zbg (h:Heap) (H:Hp):Heap:=PySem.W.hideAll h (trk h H)
theorem Zh0(h:Heap)(H:Hp):(Zbg h H).objs.size=h.objs.size:=PySem.W.hideAll_size _ _
theorem Zi4{h:Heap}{H:Hp}{b:Addr}{o:Obj}(e:h.get? b=some o)(n:H b=none):(Zbg h H).get? b=some o:=
 PySem.W.hideAll_get _ e fun hm=>by
  have q:(H b).isSome=true:=(List.mem_filter.mp hm).2;rw[n] at q;simp at q
theorem ZkB{h:Heap}{H:Hp}{b:Addr}{o:Obj}(e:(Zbg h H).get? b=some o):h.get? b=some o∧H b=none:=by
 have e':h.get? b=some o:=PySem.W.of_hideAll (trk h H) e;refine⟨e',?_⟩;cases q:H b with
 |none=>rfl
 |some x=>
  have hm:b∈trk h H:=List.mem_filter.mpr ⟨List.mem_range.mpr (Heap.lt_size e'),by simp[q]⟩;have z:(Zbg h H).get? b=none:=PySem.W.hideAll_none (trk h H) hm;rw[z] at e;cases e
end L2
namespace L2
open PySem PySem.Spec PyProof.Rows
structure Mod(K:PySem.W.Frag)(mg:Str→Option Value)(base:Heap):Prop where
 kin:K.In base
 glob:base.Ns mainGlobals mg
 blt:∃mb,base.Ns builtinsNs mb∧∀x:Str,x≠"__name__" →mb x=bootBuiltins x
 nolimit:base.NoLimit
structure Cx where
 prog:Program
 w:World
 K:PySem.W.Frag
 mg:Str→Option Value
 base:Heap
 A:Around
 N:List Str
 s₀:Shared
 H₀:Hp
 env:Env
 outer:List Env
 stack:List Env
 ex:List Addr
 fn:Str→Bool
 calm:Bool
 pn:List (Addr×Obj)
 xe:Value→Shared→Prop
noncomputable def frs (l:List Env):List Addr:=l.filterMap (·.frame)
noncomputable abbrev Cx.fs (X:Cx):List Addr:=frs X.outer
def Vis(sc:Scope)(x:Str):Prop:=sc.names.lookup x=some .local∨sc.names.lookup x=some .cell∨sc.names.lookup x=some .free
def Loc(sc:Scope)(x:Str):Prop:=sc.names.lookup x=some .local∨sc.names.lookup x=some .cell
def ZmW(env:Env)(h:Heap)(m:Str→Option Value)(x:Str)(u:Value):Prop:=
 (env.kindOf x=some .local∧m x=some u)∨((env.kindOf x=some .cell∨env.kindOf x=some .free)∧∃c,env.cells.lookup x=some c∧h.IsCell c (some u))
structure Cx.Ok(X:Cx):Prop where
 mod:Mod X.K X.mg X.base
 kind:X.env.scope.kind= .function
 glob:X.env.globals=mainGlobals
 blt:X.env.builtins=builtinsNs
 above:X.s₀.heap.objs.size≤X.env.locals
 inj:∀x y c,X.env.cells.lookup x=some c→X.env.cells.lookup y=some c→x=y
 has:∀x,(X.env.kindOf x=some .cell∨X.env.kindOf x=some .free)→∃c,X.env.cells.lookup x=some c
 cab:∀x c,X.fn x=true→X.env.cells.lookup x=some c→X.s₀.heap.objs.size≤c
 hd:X.calm=true→X.A.handled=none
 frames:X.A.frames=some X.stack
 stk:X.stack=X.outer∨(X.stack=X.env::X.outer∧X.env.frame=some X.env.locals)
 exf:∀b∈X.ex,b≠X.env.locals∧∀x c,X.env.cells.lookup x=some c→c≠b
 bs:∀b o,X.base.get? b=some o→X.s₀.heap.get? b=some o∧X.H₀ b=none
 bsz:X.base.objs.size≤X.s₀.heap.objs.size
 noex:∀b o,X.base.get? b=some o→b∉X.ex
 exfs:∀b∈X.ex,b∉X.fs
 funs:X.s₀.heap.FunFrames X.base X.outer
 frf:∀b∈X.fs,X.H₀ b=none
structure Inv(X:Cx)(pins:List (Addr×Obj))(σ:List (Option V))(H:Hp)(s:Shared):Prop where
 ok:X.Ok
 os:s.os=X.s₀.os
 bare:AllBare s.gens
 base:Un X.fs X.ex X.H₀ H X.s₀.heap s.heap
 loc:∃m,s.heap.Ns X.env.locals m∧∀(i:Nat)(x:Str)(v:V),X.N[i]? =some x→σ[i]? =some (some v)→Vis X.env.scope x→∃u,ZF v u∧ZmW X.env s.heap m x u
 cell:∀x c,X.env.cells.lookup x=some c→∃v,s.heap.IsCell c v
 free:H X.env.locals=none
 freeC:∀x c,X.env.cells.lookup x=some c→H c=none
 pin:∀p∈X.pn++pins,s.heap.get? p.1=some p.2∧H p.1=none∧p.1≠X.env.locals∧p.1∉X.fs∧∀v,p.2.data≠ .cell v
 hok:HOk X.prog X.w H s.heap
 len:σ.length=X.N.length
section
variable {X:Cx}{pins:List (Addr×Obj)}{σ:List (Option V)}{H H':Hp}{s:Shared}{h':Heap}
theorem Cx.Ok.nofr(ok:X.Ok){b:Addr}{o:Obj}(e:X.base.get? b=some o):b∉X.fs:=fun hb=>by
 have:=(ok.funs.mem hb).1;rw[e] at this;cases this
theorem Inv.bs(I:Inv X pins σ H s):∀b o,X.base.get? b=some o→s.heap.get? b=some o∧H b=none:=fun b o e=>
 ⟨I.base.keep b o (I.ok.bs b o e).1 (I.ok.bs b o e).2 (I.ok.nofr e) (I.ok.noex b o e),I.base.free b o (I.ok.bs b o e).1 (I.ok.bs b o e).2 (I.ok.noex b o e)⟩
theorem Inv.bk(I:Inv X pins σ H s):∀b o,X.base.get? b=some o→s.heap.get? b=some o:=fun b o e=>(I.bs b o e).1
theorem Inv.mod(I:Inv X pins σ H s):Mod X.K X.mg X.base:=I.ok.mod
theorem Inv.kIn(I:Inv X pins σ H s):X.K.In s.heap:=I.ok.mod.kin.keeps I.bk
theorem Inv.lt(I:Inv X pins σ H s):X.env.locals<s.heap.objs.size:=let⟨_,hn,_⟩:=I.loc;hn.lt
theorem Inv.sz(I:Inv X pins σ H s):X.s₀.heap.objs.size≤s.heap.objs.size:=Nat.le_trans I.ok.above (Nat.le_of_lt I.lt)
theorem Inv.nofs(I:Inv X pins σ H s){a:Addr}(h:s.heap.objs.size≤a):a∉X.fs:=fun hb=>by
 obtain⟨_,o,ho,_⟩:=I.ok.funs.mem hb;exact absurd (Nat.lt_of_lt_of_le (Heap.lt_size ho) (Nat.le_trans I.sz h)) (Nat.lt_irrefl _)
theorem Inv.cne(I:Inv X pins σ H s):∀x c,X.env.cells.lookup x=some c→c≠X.env.locals:=fun x c e z=>by
 obtain⟨v,o,ho,hd⟩:=I.cell x c e;obtain⟨m,⟨o',es,ep,ho',hd',_⟩,_⟩:=I.loc;rw[z,ho'] at ho;cases ho;rw[hd'] at hd;cases hd
theorem Inv.funs(I:Inv X pins σ H s):s.heap.FunFrames X.base X.outer:=by
 have all:∀(l:List Env),(∀b∈frs l,b∈X.fs)→X.s₀.heap.FunFrames X.base l→s.heap.FunFrames X.base l:=by
  intro l
  induction l with
  |nil=>intro _ _;trivial
  |cons env r ih=>
   intro hs hl;obtain⟨hk,⟨L,o,hf,hn,ho,hd⟩,hr⟩:=hl;have hL:L∈X.fs:=hs L (by unfold frs;rw[List.filterMap_cons,hf];exact List.mem_cons_self);obtain⟨sl,e⟩:=I.base.slot L o ho (I.ok.frf L hL) hL fun z=>I.ok.exfs L z hL;exact⟨hk,⟨L,_,hf,hn,e,hd⟩,ih (fun b hb=>hs b (by unfold frs;rw[List.filterMap_cons,hf];exact List.mem_cons_of_mem _ hb)) hr⟩
 exact all X.outer (fun _ hb=>hb) I.ok.funs
theorem Inv.stack(I:Inv X pins σ H s):s.heap.FunFrames X.base X.stack:=by
 rcases I.ok.stk with e|⟨e,hf⟩
 ·rw[e];exact I.funs
 ·rw[e];obtain⟨m,hn,_⟩:=I.loc;refine .cons (by rw[I.ok.kind];decide) hf hn ?_ I.funs;exact Heap.get?_none_of_le (Nat.le_trans I.ok.bsz I.ok.above)
theorem Inv.stkSub(I:Inv X pins σ H s):∀b∈frs X.stack,b∈X.env.locals::X.fs:=fun b hb=>by
 rcases I.ok.stk with e|⟨e,hf⟩
 ·rw[e] at hb;exact List.mem_cons_of_mem _ hb
 ·rw[e] at hb;unfold frs at hb;rw[List.filterMap_cons,hf] at hb;exact hb
theorem Inv.stkFree(I:Inv X pins σ H s):∀b∈frs X.stack,H b=none:=fun b hb=>by
 rcases List.mem_cons.mp (I.stkSub b hb) with e|hb
 ·rw[e];exact I.free
 ·obtain⟨_,o,ho,_⟩:=I.ok.funs.mem hb;exact I.base.free b o ho (I.ok.frf b hb) fun z=>I.ok.exfs b z hb
theorem Inv.step{g':Array GenState}{t':Nat}{d':Drawn}{ch:List Addr}(I:Inv X pins σ H s)
  (hch:∀b∈ch,(b∈X.ex∨X.s₀.heap.objs.size≤b)∧b≠X.env.locals∧(∀x c,X.env.cells.lookup x=some c→c≠b)∧∀p∈X.pn++pins,p.1≠b)
  (keep:∀b o,b≠X.env.locals→b∉X.fs→b∉ch→s.heap.get? b=some o→H b=none→h'.get? b=some o)
  (slot:∀b o,b≠X.env.locals→b∈X.fs→b∉ch→s.heap.get? b=some o→H b=none→∃sl,h'.get? b=some {o with slots:=sl}) (free:∀b o,b∉ch→s.heap.get? b=some o→H b=none→H' b=none)
  (there:∀b o,b∉ch→s.heap.get? b=some o→∃o',h'.get? b=some o')
  (tups:∀b xs,H b=some (.tup xs)→H' b=some (.tup xs)) (frzs:∀b o u,H b=some (.frz o u)→H' b=some (.frz o u)) (tbls:∀b ps,H b=some (.tbl ps)→∃more,H' b=some (.tbl (ps++more)))
  (ns:∀m,s.heap.Ns X.env.locals m→h'.Ns X.env.locals m) (hok:HOk X.prog X.w H' h') (hg:AllBare g'):
  Inv X pins σ H' {s with heap:=h',gens:=g',drawn:=d',toks:=t'}:=by
 have neL:∀b o,X.s₀.heap.get? b=some o→b≠X.env.locals:=fun b o e=>Nat.ne_of_lt (Nat.lt_of_lt_of_le (Heap.lt_size e) I.ok.above);have neC:∀b o,X.s₀.heap.get? b=some o→b∉X.ex→b∉ch:=fun b o e hx hb=>by
  rcases(hch b hb).1 with z|z
  ·exact hx z
  ·exact absurd (Nat.lt_of_lt_of_le (Heap.lt_size e) z) (Nat.lt_irrefl _)
 have cellK:∀x c,X.env.cells.lookup x=some c→∀v,s.heap.IsCell c v→h'.IsCell c v:=fun x c e v ⟨o,ho,hd⟩=>by
  have nch:c∉ch:=fun z=>(hch c z).2.2.1 x c e rfl
  by_cases hc:c∈X.fs
  ·obtain⟨sl,q⟩:=slot c o (I.cne x c e) hc nch ho (I.freeC x c e);exact⟨_,q,hd⟩
  ·exact⟨o,keep c o (I.cne x c e) hc nch ho (I.freeC x c e),hd⟩
 refine⟨I.ok,I.os,hg,⟨fun b o e n hb hx=>?_,fun b o e n hb hx=>?_,fun b o e n hx=>?_,fun b o e hx=>?_,fun b xs e=>tups b xs (I.base.tups b xs e),fun b o xs e=>frzs b o xs (I.base.frzs b o xs e),fun b ps e=>?_⟩,?_,fun x c e=>?_,?_,fun x c e=>?_,fun p hp=>?_,hok,I.len⟩
 ·exact keep b o (neL b o e) hb (neC b o e hx) (I.base.keep b o e n hb hx) (I.base.free b o e n hx)
 ·obtain⟨sl,e1⟩:=I.base.slot b o e n hb hx;obtain⟨sl',e2⟩:=slot b _ (neL b o e) hb (neC b o e hx) e1 (I.base.free b o e n hx);exact⟨sl',e2⟩
 ·obtain⟨o',e1⟩:=I.base.there b o e hx;exact free b o' (neC b o e hx) e1 (I.base.free b o e n hx)
 ·obtain⟨o',e1⟩:=I.base.there b o e hx;exact there b o' (neC b o e hx) e1
 ·obtain⟨m1,e1⟩:=I.base.tbls b ps e;obtain⟨m2,e2⟩:=tbls b _ e1;exact⟨m1++m2,by rw[e2,Array.append_assoc]⟩
 ·obtain⟨m,hn,hl⟩:=I.loc;refine⟨m,ns m hn,fun i x v e1 e2 e3=>?_⟩;obtain⟨u,r,l⟩:=hl i x v e1 e2 e3;refine⟨u,r,?_⟩;rcases l with l|⟨k,c,e,z⟩
  ·exact .inl l
  ·exact .inr ⟨k,c,e,cellK x c e _ z⟩
 ·obtain⟨v,z⟩:=I.cell x c e;exact⟨v,cellK x c e v z⟩
 ·obtain⟨m,⟨o,_,_,ho,_⟩,_⟩:=I.loc;exact free _ o (fun z=>(hch _ z).2.1 rfl) ho I.free
 ·obtain⟨v,o,ho,hd⟩:=I.cell x c e;exact free c o (fun z=>(hch c z).2.2.1 x c e rfl) ho (I.freeC x c e)
 ·obtain⟨e,n,ne,nf,d⟩:=I.pin p hp;have nch:p.1∉ch:=fun z=>(hch p.1 z).2.2.2 p hp rfl;exact⟨keep p.1 p.2 ne nf nch e n,free p.1 p.2 nch e n,ne,nf,d⟩
theorem Inv.un{t':Nat}(I:Inv X pins σ H s)(u:Un X.fs [] H H' s.heap h')(hok:HOk X.prog X.w H' h'):Inv X pins σ H' {s with heap:=h',toks:=t'}:=by
 obtain⟨m,⟨o,es,ep,ho,r⟩,_⟩:=id I.loc;obtain⟨sl,hL⟩:=u.any ho I.free (by simp);exact I.step (g':=s.gens) (d':=s.drawn) (ch:=[]) (fun _ z=>nomatch z) (fun b o _ hb _ e n=>u.keep b o e n hb (by simp)) (fun b o _ hb _ e n=>u.slot b o e n hb (by simp)) (fun b o _ e n=>u.free b o e n (by simp)) (fun b o _ e=>u.there b o e (by simp)) u.tups u.frzs u.tbls (fun m' hm=>by
  obtain⟨o',es',ep',ho',r'⟩:=hm;rw[ho] at ho';cases ho';exact⟨_,es',ep',hL,r'⟩) hok I.bare
theorem Inv.call{g':Array GenState}{t':Nat}{d':Drawn}{ch:List Addr}(I:Inv X pins σ H s)(u:Un (frs X.stack) ch H H' s.heap h')(hok:HOk X.prog X.w H' h')(hg:AllBare g')
  (hch:∀b∈ch,(b∈X.ex∨X.s₀.heap.objs.size≤b)∧b≠X.env.locals∧(∀x c,X.env.cells.lookup x=some c→c≠b)∧∀p∈X.pn++pins,p.1≠b):
  Inv X pins σ H' {s with heap:=h',gens:=g',drawn:=d',toks:=t'}:=by
 obtain⟨m,⟨o,es,ep,ho,r⟩,_⟩:=id I.loc;obtain⟨sl,hL⟩:=u.any ho I.free fun z=>(hch _ z).2.1 rfl;exact I.step (ch:=ch) hch (fun b o hL hb hc e n=>u.keep b o e n (fun z=>(List.mem_cons.mp (I.stkSub b z)).elim hL hb) hc) (fun b o _ _ hc e n=>u.any e n hc) (fun b o hc e n=>u.free b o e n hc) (fun b o hc e=>u.there b o e hc) u.tups u.frzs u.tbls (fun m' hm=>by
  obtain⟨o',es',ep',ho',r'⟩:=hm;rw[ho] at ho';cases ho';exact⟨_,es',ep',hL,r'⟩) hok hg
theorem Inv.turned{t':Nat}{it:Addr}(I:Inv X pins σ H s)(k:∀b o,b≠it→s.heap.get? b=some o→h'.get? b=some o)(hn:H it=none)(hL:it≠X.env.locals)
  (h1:it∈X.ex∨X.s₀.heap.objs.size≤it) (h2:∀x c,X.env.cells.lookup x=some c→c≠it) (h3:∀p∈X.pn++pins,p.1≠it):Inv X pins σ H {s with heap:=h',toks:=t'}:=by
 have nit:∀b u,H b=some u→b≠it:=fun b u e z=>by rw[z,hn] at e;cases e
 refine I.step (g':=s.gens) (d':=s.drawn) (ch:=[it]) (fun b hb=>?_) (fun b o _ _ hc e _=>k b o (fun z=>hc (by simp[z])) e) (fun b o _ _ hc e _=>⟨o.slots,k b o (fun z=>hc (by simp[z])) e⟩) (fun _ _ _ _ n=>n)
  (fun b o hc e=>⟨o,k b o (fun z=>hc (by simp[z])) e⟩) (fun _ _ e=>e) (fun _ _ _ e=>e) (fun b ps e=>⟨#[],by rw[e];simp⟩) (fun m hm=>?_) (fun b u e=>?_) I.bare
 ·have e:b=it:=by simpa using hb
  subst e;exact⟨h1,hL,h2,h3⟩
 ·obtain⟨o,es,ep,ho,r⟩:=hm;exact⟨o,es,ep,k _ o (Ne.symm hL) ho,r⟩
 ·refine(I.hok b u e).stay (fun c v hc q=>k c v ?_ q) (fun _ q=>q) fun _ _ q=>q;rcases hc with z|z
  ·rw[z];exact nit b u e
  ·exact nit c _ z
theorem Inv.tok(I:Inv X pins σ H s)(t:Nat):Inv X pins σ H {s with toks:=t}:=I.un (h':=s.heap) (t':=t) Un.refl I.hok
theorem Inv.kept{t':Nat}(I:Inv X pins σ H s)(k:∀b u,s.heap.get? b=some u→h'.get? b=some u):Inv X pins σ H {s with heap:=h',toks:=t'}:=I.un (Un.kept k) (I.hok.kept k)
theorem Inv.laid{a:Addr}{o:HO}{t':Nat}(I:Inv X pins σ H s)(k:∀b u,s.heap.get? b=some u→h'.get? b=some u)(hp:s.heap.objs.size≤a)(new:Z1 X.prog X.w (upd H a o) h' a o):
  Inv X pins σ (upd H a o) {s with heap:=h',toks:=t'}:=I.un (Un.laid k hp (I.hok.fresh hp)) (I.hok.laid k hp new)
theorem Inv.write{x e:Addr}{o:HO}{t':Nat}(I:Inv X pins σ H s)(mu:Mut (H x))(he:e=x∨H e=some (.own x))(k:∀b u,b≠e→s.heap.get? b=some u→h'.get? b=some u)(heo:∃u,h'.get? e=some u)
  (new:Z1 X.prog X.w (upd H x o) h' x o):Inv X pins σ (upd H x o) {s with heap:=h',toks:=t'}:=I.un (Un.write mu he k heo) (I.hok.write mu he k heo new)
theorem Inv.pins_of{pins':List (Addr×Obj)}(I:Inv X pins σ H s)(h:∀p∈pins',s.heap.get? p.1=some p.2∧H p.1=none∧p.1≠X.env.locals∧p.1∉X.fs∧∀v,p.2.data≠ .cell v):Inv X pins' σ H s:=
 ⟨I.ok,I.os,I.bare,I.base,I.loc,I.cell,I.free,I.freeC,fun p hp=>(List.mem_append.mp hp).elim (fun z=>I.pin p (List.mem_append_left _ z)) (h p),I.hok,I.len⟩
theorem Ze3{N:List Str}(hN:N.Nodup){i j:Nat}{x:Str}(a:N[i]? =some x)(b:N[j]? =some x):i=j:=by
 obtain⟨h1,e1⟩:=List.getElem?_eq_some_iff.mp a;obtain⟨h2,e2⟩:=List.getElem?_eq_some_iff.mp b;exact(List.getElem_inj hN).mp (e1.trans e2.symm)
theorem ZbW{M:Model}{A:Around}{E:Value→Shared→Prop}{i:Nat}{x:Str}{v:V}{u:Value}{Q:Unit→Shared→Prop}(I:Inv X pins σ H s)(hN:X.N.Nodup)(hi:X.N[i]? =some x)(hx:Loc X.env.scope x)(r:ZF v u)
  (h:∀s',Inv X pins (σ.set i (some v)) H s'→(∃a,Heap.SameBut a s.heap s'.heap∧(a=X.env.locals∨X.env.cells.lookup x=some a))→Q () s') (hf:X.fn x=true∨X.env.scope.names.lookup x=some .local:=by first|exact .inl rfl|exact .inr rfl|assumption):wpAny M A (storeName X.env x u) Q E s:=by
 obtain⟨m,hn,hl⟩:=id I.loc;have hcls:(X.env.scope.kind== .class||(X.env.scope.kind== .module&&X.env.locals != X.env.globals))=false:=by rw[I.ok.kind];rfl
 have hiσ:i<σ.length:=by rw[I.len];exact(List.getElem?_eq_some_iff.mp hi).1
 have cne:=I.cne;have tracked:∀{a:Addr}{h':Heap},(∃o,s.heap.get? a=some o∧H a=none)→Heap.SameBut a s.heap h'→HOk X.prog X.w H h':=fun{a h'} ha hs b ob e=>by
  obtain⟨_,_,hfree⟩:=ha;refine(I.hok b ob e).stay (fun c w' hc q=>(hs.2 c ?_).trans q) (fun _ q=>q) fun _ _ q=>q;rintro rfl;rcases hc with rfl|hc
  ·rw[hfree] at e;cases e
  ·rw[hfree] at hc;cases hc
 rcases hx with hk|hk
 ·refine wpAny_storeName_local hk hn (fun h' hn' hs=>?_) hcls;obtain⟨oL,_,_,hoL,_⟩:=id hn;refine h _ ⟨I.ok,I.os,I.bare,⟨fun b o e n hb hx=>?_,fun b o e n hb hx=>?_,I.base.free,fun b o e hx=>?_,I.base.tups,I.base.frzs,I.base.tbls⟩,⟨_,hn',fun j y v' e1 e2 e3=>?_⟩,fun y c e=>?_,I.free,I.freeC,fun p hp=>?_,tracked ⟨oL,hoL,I.free⟩ hs,by simpa using I.len⟩ ⟨_,hs,.inl rfl⟩
  ·exact(hs.2 b (Nat.ne_of_lt (Nat.lt_of_lt_of_le (Heap.lt_size e) I.ok.above))).trans (I.base.keep b o e n hb hx)
  ·obtain⟨sl,e1⟩:=I.base.slot b o e n hb hx;exact⟨sl,(hs.2 b (Nat.ne_of_lt (Nat.lt_of_lt_of_le (Heap.lt_size e) I.ok.above))).trans e1⟩
  ·obtain⟨o',e1⟩:=I.base.there b o e hx;exact⟨o',(hs.2 b (Nat.ne_of_lt (Nat.lt_of_lt_of_le (Heap.lt_size e) I.ok.above))).trans e1⟩
  ·by_cases hj:j=i
   ·subst hj;rw[hi] at e1;cases e1;rw[List.getElem?_set_self hiσ] at e2;cases e2;exact⟨u,r,.inl ⟨hk,by simp⟩⟩
   ·rw[List.getElem?_set_ne (Ne.symm hj)] at e2;obtain⟨u',r',q⟩:=hl j y v' e1 e2 e3;refine⟨u',r',?_⟩;rcases q with⟨k,e⟩|⟨k,c,e,z⟩
    ·refine .inl ⟨k,?_⟩;have:y≠x:=fun e=>hj (Ze3 hN e1 (e▸hi));simp[this,e]
    ·exact .inr ⟨k,c,e,z.sameBut hs (cne y c e)⟩
  ·obtain⟨w',z⟩:=I.cell y c e;exact⟨w',z.sameBut hs (cne y c e)⟩
  ·obtain⟨e,n,ne,nf,d⟩:=I.pin p hp;exact⟨(hs.2 p.1 ne).trans e,n,ne,nf,d⟩
 ·have hfn:X.fn x=true:=by
   rcases hf with z|z
   ·exact z
   ·rw[z] at hk;cases hk
  obtain⟨c,hc⟩:=I.ok.has x (.inl hk);obtain⟨w',z⟩:=I.cell x c hc;refine wpAny_storeName_cell I.ok.kind hk hc z (fun h' hc' hs=>?_);obtain⟨oc,hoc,hocd⟩:=id z;refine h {s with heap:=h'} ⟨I.ok,I.os,I.bare,⟨fun b o e n hb hx=>?_,fun b o e n hb hx=>?_,I.base.free,fun b o e hx=>?_,I.base.tups,I.base.frzs,I.base.tbls⟩,⟨m,hn.sameBut hs (Ne.symm (cne x c hc)),fun j y v' e1 e2 e3=>?_⟩,fun y c' e=>?_,I.free,I.freeC,fun p hp=>?_,tracked ⟨oc,hoc,I.freeC x c hc⟩ hs,by simpa using I.len⟩ ⟨c,hs,.inr hc⟩
  ·exact(hs.2 b (Nat.ne_of_lt (Nat.lt_of_lt_of_le (Heap.lt_size e) (I.ok.cab x c hfn hc)))).trans (I.base.keep b o e n hb hx)
  ·obtain⟨sl,e1⟩:=I.base.slot b o e n hb hx;exact⟨sl,(hs.2 b (Nat.ne_of_lt (Nat.lt_of_lt_of_le (Heap.lt_size e) (I.ok.cab x c hfn hc)))).trans e1⟩
  ·obtain⟨o',e1⟩:=I.base.there b o e hx;exact⟨o',(hs.2 b (Nat.ne_of_lt (Nat.lt_of_lt_of_le (Heap.lt_size e) (I.ok.cab x c hfn hc)))).trans e1⟩
  ·by_cases hj:j=i
   ·subst hj;rw[hi] at e1;cases e1;rw[List.getElem?_set_self hiσ] at e2;cases e2;exact⟨u,r,.inr ⟨.inl hk,c,hc,hc'⟩⟩
   ·rw[List.getElem?_set_ne (Ne.symm hj)] at e2;obtain⟨u',r',q⟩:=hl j y v' e1 e2 e3;refine⟨u',r',?_⟩;rcases q with q|⟨k,c',e,z'⟩
    ·exact .inl q
    ·refine .inr ⟨k,c',e,z'.sameBut hs ?_⟩;rintro rfl;exact hj (Ze3 hN e1 (I.ok.inj _ _ _ e hc▸hi))
  ·by_cases hcc:c'=c
   ·subst hcc;exact⟨_,hc'⟩
   ·obtain⟨w2,z2⟩:=I.cell y c' e;exact⟨w2,z2.sameBut hs hcc⟩
  ·obtain⟨e,n,ne,nf,d⟩:=I.pin p hp;refine⟨(hs.2 p.1 ?_).trans e,n,ne,nf,d⟩;intro q;rw[q,hoc] at e;have q':oc=p.2:=Option.some.inj e;exact d w' (by rw[←q'];exact hocd)
theorem ZcJ{M:Model}{A:Around}{E:Value→Shared→Prop}{i:Nat}{x:Str}{v:V}{u:Value}{Q:Unit→Shared→Prop}(I:Inv X pins σ H s)(hN:X.N.Nodup)(hi:X.N[i]? =some x)(hx:Loc X.env.scope x)(r:ZF v u)
  (h:∀s',Inv X pins (σ.set i (some v)) H s'→Q () s') (hf:X.fn x=true∨X.env.scope.names.lookup x=some .local:=by first|exact .inl rfl|exact .inr rfl|assumption):wpAny M A (storeName X.env x u) Q E s:=
 ZbW I hN hi hx r (fun s' I' _=>h s' I') hf
theorem Inv.call'{s':Shared}{ch:List Addr}(I:Inv X pins σ H s)(ho:s'.os=s.os)(u:Un (frs X.stack) ch H H' s.heap s'.heap)(hok:HOk X.prog X.w H' s'.heap)(hg:AllBare s'.gens)
  (hch:∀b∈ch,(b∈X.ex∨X.s₀.heap.objs.size≤b)∧b≠X.env.locals∧(∀x c,X.env.cells.lookup x=some c→c≠b)∧∀p∈X.pn++pins,p.1≠b):Inv X pins σ H' s':=by
 obtain⟨h',g',d',t',o'⟩:=s';have e:o'=s.os:=ho;subst e;exact I.call (g':=g') (t':=t') (d':=d') u hok hg hch
end
noncomputable abbrev XK:=Value→Option Addr→Hp→Prop
noncomputable abbrev St:=List (Option V)
noncomputable abbrev VK:=V→Hp→Prop
noncomputable abbrev TE:=St→Hp→VK→Prop
noncomputable abbrev TT:=St→Hp→(Bool→Hp→Prop)→Prop
noncomputable abbrev TA:=St→Hp→(List V→Hp→Prop)→Prop
structure VA where
 nx:St→Hp→Prop
 rt:VK
 bk:St→Hp→Prop:=fun _ _=>False
 ct:St→Hp→Prop:=fun _ _=>False
noncomputable abbrev TS:=VA→St→Hp→Prop
def EP(X:Cx)(pins:List (Addr×Obj))(σ:St)(Q:VK)(u:Value)(s':Shared):Prop:=∃v H',Inv X pins σ H' s'∧ZF v u∧Q v H'
def TP(X:Cx)(pins:List (Addr×Obj))(σ:St)(Q:Bool→Hp→Prop)(b:Bool)(s':Shared):Prop:=∃H',Inv X pins σ H' s'∧Q b H'
def AP(X:Cx)(pins:List (Addr×Obj))(σ:St)(Q:List V→Hp→Prop)(us:List Value)(s':Shared):Prop:=∃vs H',Inv X pins σ H' s'∧ZD vs us∧Q vs H'
def SP(X:Cx)(pins:List (Addr×Obj))(D:VA)(f:Flow)(s':Shared):Prop:=
 match f with
 | .next=>∃σ' H',Inv X pins σ' H' s'∧D.nx σ' H'
 | .brk=>∃σ' H',Inv X pins σ' H' s'∧D.bk σ' H'
 | .cont=>∃σ' H',Inv X pins σ' H' s'∧D.ct σ' H'
 | .ret u=>∃v σ' H',Inv X pins σ' H' s'∧ZF v u∧D.rt v H'
def PE(X:Cx)(e:Expr)(t:TE):Prop:=
 ∀(pins:List (Addr×Obj))(s:Shared)(σ:St)(H:Hp)(Q:VK),Inv X pins σ H s→t σ H Q→wpAny (model X.prog X.w) X.A (eval e X.env) (EP X pins σ Q) X.xe s
def PT(X:Cx)(e:Expr)(t:TT):Prop:=
 ∀(pins:List (Addr×Obj))(s:Shared)(σ:St)(H:Hp)(Q:Bool→Hp→Prop),Inv X pins σ H s→t σ H Q→wpAny (model X.prog X.w) X.A (isTrue e X.env (eval e X.env)) (TP X pins σ Q) X.xe s
def PW(X:Cx)(e:Expr)(t:TT):Prop:=
 ∀(whole:Sem Value)(pins:List (Addr×Obj))(s:Shared)(σ:St)(H:Hp)(Q:Bool→Hp→Prop),Inv X pins σ H s→t σ H Q→wpAny (model X.prog X.w) X.A (isTrue e X.env whole) (TP X pins σ Q) X.xe s
theorem PW.pt{X:Cx}{e:Expr}{t:TT}(h:PW X e t):PT X e t:=h _
def PA(X:Cx)(es:List Expr)(t:TA):Prop:=
 ∀(pos:Pos)(pins:List (Addr×Obj))(s:Shared)(σ:St)(H:Hp)(Q:List V→Hp→Prop),Inv X pins σ H s→t σ H Q→wpAny (model X.prog X.w) X.A (spliced (backTo pos (starEach es X.env))) (AP X pins σ Q) X.xe s
def PS(X:Cx)(st:Stmt)(t:TS):Prop:=
 ∀(pins:List (Addr×Obj))(s:Shared)(σ:St)(H:Hp)(D:VA),Inv X pins σ H s→t D σ H→wpAny (model X.prog X.w) X.A (exec st X.env) (SP X pins D) X.xe s
def PSs(X:Cx)(st:List Stmt)(t:TS):Prop:=
 ∀(pins:List (Addr×Obj))(s:Shared)(σ:St)(H:Hp)(D:VA),Inv X pins σ H s→t D σ H→wpAny (model X.prog X.w) X.A (execs st X.env) (SP X pins D) X.xe s
theorem thn{α:Type}{t:Sem α}{Q Q':α→Shared→Prop}{M:Model}{A:Around}{E:Value→Shared→Prop}{s:Shared}(h:wpAny M A t Q E s)(hQ:∀a s,Q a s→Q' a s):wpAny M A t Q' E s:=wpAny_mono h hQ fun _ _ x=>x
end L2
namespace L2
open PySem PySem.Spec PyProof.Rows
section
variable {X:Cx}
theorem bin{a b:Expr}{ta tb:TE}(ha:PE X a ta)(hb:PE X b tb){pins:List (Addr×Obj)}{s:Shared}{σ:St}{H:Hp}{R:V→V→Hp→Prop}(I:Inv X pins σ H s)(h:ta σ H fun x H1=>tb σ H1 fun y H2=>R x y H2)
  {α:Type} {Q:α→Shared→Prop} {f:Value→Value→Sem α}
  (hf:∀v u s2 x y H2,Inv X pins σ H2 s2→ZF x v→ZF y u→R x y H2→wpAny (model X.prog X.w) X.A (f v u) Q X.xe s2):
  wpAny (model X.prog X.w) X.A (eval a X.env) (fun v s₁=>wpAny (model X.prog X.w) X.A (eval b X.env) (fun u s₂=>wpAny (model X.prog X.w) X.A (f v u) Q X.xe s₂) X.xe s₁) X.xe s:=by
 refine thn (ha pins s σ H _ I h) fun v s1 ⟨x,H1,I1,r1,q1⟩=>?_;refine thn (hb pins s1 σ H1 _ I1 q1) fun u s2 ⟨y,H2,I2,r2,q2⟩=>?_;exact hf v u s2 x y H2 I2 r1 r2 q2
noncomputable def ZgY (i:Nat):TE:=fun σ H Q=>∃v,σ[i]? =some (some v)∧Q v H
noncomputable def tC (v:V):TE:=fun _ H Q=>Q v H
theorem Zlw{i:Nat}{x:Str}{pos:Pos}(hN:X.N[i]? =some x)(hv:Vis X.env.scope x)(hd:(x==("__debug__" :Str))=false:=by decide)(hcd:(x==("__classdict__" :Str))=false:=by decide):PE X (.Name x pos) (ZgY i):=by
 intro pins s σ H Q I h;obtain⟨v,e,h⟩:=h;obtain⟨m,hn,hl⟩:=I.loc;obtain⟨u,r,l⟩:=hl i x v hN e hv;have fin:EP X pins σ Q u s:=⟨v,H,I,r,h⟩;rcases l with⟨hk,hm⟩|⟨hk,c,hc,hcell⟩
 ·exact wpAny_Name (wpAny_loadName_local I.ok.kind hk hn hm fin) hd
 ·rcases hk with hk|hk
  ·exact wpAny_Name (wpAny_loadName_cell I.ok.kind hk hc hcell fin) hd
  ·exact wpAny_Name (wpAny_loadName_free I.ok.kind hk hc hcell fin hcd) hd
theorem Zh{i j pos}:PE X (.Constant (.int i) j pos) (tC (.int i)):=fun _ _ _ H _ I h=>wpAny_Constant_int ⟨.int i,H,I.tok _,⟨_,rfl⟩,h⟩
theorem YC{b j pos}:PE X (.Constant (.bool b) j pos) (tC (.bl b)):=fun _ _ _ H _ I h=>Constant_bool ⟨.bl b,H,I,rfl,h⟩
theorem Vp{j pos}:PE X (.Constant .none j pos) (tC .non):=fun _ _ _ H _ I h=>Constant_none ⟨.non,H,I,rfl,h⟩
theorem Y8{x j pos}:PE X (.Constant (.str x) j pos) (tC (.str x)):=fun _ _ _ H _ I h=>Calls.Constant_str ⟨.str x,H,I.tok _,⟨_,rfl⟩,h⟩
def Gl(X:Cx)(x:Str):Prop:=X.env.kindOf x=some .globalImplicit
theorem ZaX{E:Value→Shared→Prop}{pins:List (Addr×Obj)}{s:Shared}{σ:St}{H:Hp}{x:Str}{u:Value}{pos:Pos}{Q:Value→Shared→Prop}(I:Inv X pins σ H s)(hg:Gl X x)(hm:X.mg x=some u)(h:Q u s)
  (hd:(x==("__debug__" :Str))=false:=by decide):wpAny (model X.prog X.w) X.A (eval (.Name x pos) X.env) Q E s:=
 Calls.Name_function_global I.ok.kind hg (Calls.loadGlobal_global (by rw[I.ok.glob];exact I.mod.glob.keeps I.bk) hm h) hd
theorem Ua{E:Value→Shared→Prop}{pins:List (Addr×Obj)}{s:Shared}{σ:St}{H:Hp}{x:Str}{u:Value}{pos:Pos}{Q:Value→Shared→Prop}(I:Inv X pins σ H s)(hg:Gl X x)(hm:X.mg x=none)(hv:bootBuiltins x=some u)(h:Q u s)
  (hn:x≠"__name__" :=by decide) (hd:(x==("__debug__" :Str))=false:=by decide):wpAny (model X.prog X.w) X.A (eval (.Name x pos) X.env) Q E s:=by
 obtain⟨mb,h1,h2⟩:=I.mod.blt;exact Calls.Name_function_global I.ok.kind hg (Calls.loadGlobal_builtin (by rw[I.ok.glob];exact I.mod.glob.keeps I.bk) hm (by rw[I.ok.blt];exact h1.keeps I.bk) ((h2 x hn).trans hv) h) hd
theorem Zb9{x:Str}{v:V}{u:Value}{pos:Pos}(hg:Gl X x)(hm:X.mg x=some u)(r:ZF v u)(hd:(x==("__debug__" :Str))=false:=by decide):PE X (.Name x pos) (tC v):=
 fun _ _ _ H _ I h=>ZaX I hg hm ⟨v,H,I,r,h⟩ hd
theorem Wh{x:Str}{v:V}{u:Value}{pos:Pos}(hg:Gl X x)(hm:X.mg x=none)(hv:bootBuiltins x=some u)(r:ZF v u)(hn:x≠"__name__" :=by decide)(hd:(x==("__debug__" :Str))=false:=by decide):PE X (.Name x pos) (tC v):=
 fun _ _ _ H _ I h=>Ua I hg hm hv ⟨v,H,I,r,h⟩ hn hd
variable {a b:Expr}{ta tb:TE}{pos:Pos}
variable {tA tB':TT}{rest:List Expr}
noncomputable def ZkY (t u:TT):TT:=fun σ H Q=>t σ H fun c H1=>if c=true then u σ H1 Q else Q false H1
noncomputable def tOr (t u:TT):TT:=fun σ H Q=>t σ H fun c H1=>if c=true then Q true H1 else u σ H1 Q
noncomputable def ZlQ (t:TT):TT:=fun σ H Q=>t σ H fun c H1=>Q (!c) H1
theorem Zck(ha:PT X a tA):PW X (.BoolOp .And [a] pos) tA:=by
 intro wh pins s σ H Q I h;refine isTrue_and (thn (ha pins s σ H Q I h) fun c s1 e=>?_);cases c with
 |true=>exact isTrue_and_nil e
 |false=>exact e
theorem VP(ha:PT X a tA):PW X (.BoolOp .Or [a] pos) tA:=by
 intro wh pins s σ H Q I h;refine isTrue_or (thn (ha pins s σ H Q I h) fun c s1 e=>?_);cases c with
 |false=>exact isTrue_or_nil e
 |true=>exact e
theorem Zdg(ha:PT X a tA)(hb:PW X (.BoolOp .And (b::rest) pos) tB'):PW X (.BoolOp .And (a::b::rest) pos) (ZkY tA tB'):=by
 intro wh pins s σ H Q I h;refine isTrue_and (thn (ha pins s σ H _ I h) fun c s1 ⟨H1,I1,q1⟩=>?_);cases c with
 |true=>exact hb wh pins s1 σ H1 Q I1 q1
 |false=>exact⟨H1,I1,q1⟩
theorem W8(ha:PT X a tA)(hb:PW X (.BoolOp .Or (b::rest) pos) tB'):PW X (.BoolOp .Or (a::b::rest) pos) (tOr tA tB'):=by
 intro wh pins s σ H Q I h;refine isTrue_or (thn (ha pins s σ H _ I h) fun c s1 ⟨H1,I1,q1⟩=>?_);cases c with
 |true=>exact⟨H1,I1,q1⟩
 |false=>exact hb wh pins s1 σ H1 Q I1 q1
theorem YS(ha:PT X a tA):PT X (.UnaryOp .Not a pos) (ZlQ tA):=by
 intro pins s σ H Q I h;exact isTrue_not (ha pins s σ H (fun c H1=>Q (!c) H1) I h)
noncomputable def Zj9 (ta tb:TE):TE:=fun σ H Q=>ta σ H fun x H1=>∃c,x= .bl c∧if c=true then tb σ H1 Q else Q (.bl false) H1
noncomputable def ZjV (ta:TE):TE:=fun σ H Q=>ta σ H fun x H1=>∃c,x= .bl c∧Q (.bl (!c)) H1
theorem Zda{op}{t:TE}(h:PE X a t):PE X (.BoolOp op [a] pos) t:=fun pins s σ H Q I hw=>BoolOp_one (h pins s σ H Q I hw)
theorem Zdc(ha:PE X a ta)(hb:PE X (.BoolOp .And (b::rest) pos) tb):PE X (.BoolOp .And (a::b::rest) pos) (Zj9 ta tb):=by
 intro pins s σ H Q I h;refine BoolOp_and (thn (ha pins s σ H _ I h) fun v s1 ⟨x,H1,I1,r1,q1⟩=>?_);obtain⟨c,rfl,q1⟩:=q1;cases r1;refine wpAny_truthy_bool ?_;cases c with
 |true=>exact hb pins s1 σ H1 Q I1 q1
 |false=>exact⟨.bl false,H1,I1,rfl,q1⟩
theorem Zli(ha:PE X a ta):PE X (.UnaryOp .Not a pos) (ZjV ta):=by
 intro pins s σ H Q I h;refine UnaryOp_ (thn (ha pins s σ H _ I h) fun v s1 ⟨x,H1,I1,r1,q1⟩=>?_);obtain⟨c,rfl,q1⟩:=q1;cases r1;exact not_of (wpAny_truthy_bool ⟨.bl (!c),H1,I1,rfl,q1⟩)
noncomputable def tIf (t:TT) (ta tb:TE):TE:=fun σ H Q=>t σ H fun c H1=>if c=true then ta σ H1 Q else tb σ H1 Q
theorem ZjT{c:Expr}(hc:PT X c tA)(ha:PE X a ta)(hb:PE X b tb):PE X (.IfExp c a b pos) (tIf tA ta tb):=by
 intro pins s σ H Q I h;refine wpAny_IfExp (thn (hc pins s σ H _ I h) fun d s1 ⟨H1,I1,q1⟩=>?_);cases d with
 |true=>exact ha pins s1 σ H1 Q I1 q1
 |false=>exact hb pins s1 σ H1 Q I1 q1
end
end L2
namespace L2
open PySem PySem.Spec PyProof.Rows
def SqL(K:PySem.W.Frag)(H:Hp)(a:Addr)(xs:List V):Prop:=
 Rd H a (.lst xs)∨
  ∃(o:Obj)(its:Array Value)(n:Nat),K.lookup a=some o∧o.cls= .type "list" ∧o.dict=none∧o.data= .seq its n∧its.size≤sizeLine∧ZD xs its.toList
def SqT(K:PySem.W.Frag)(H:Hp)(a:Addr)(xs:List V):Prop:=
 Rd H a (.tup xs)∨
  ∃(o:Obj)(its:Array Value)(n:Nat),K.lookup a=some o∧o.cls= .type "tuple" ∧o.data= .seq its n∧its.size≤sizeLine∧ZD xs its.toList
noncomputable def Zng:Value→Option V
 | .none=>some .non
 | .bool b=>some (.bl b)
 | .int i _=>some (.int i)
 | .str x _=>some (.str x)
 | .bytes b _=>some (.byt b)
 | .float b _=>some (.flt b)
 | .ref a=>some (.ref a)
 | .type n=>some (.ty n)
 |_=>none
theorem ZF.abs{x:V}{u:Value}(r:ZF x u):Zng u=some x:=by
 cases x with
 |non=>cases r;rfl
 |bl _=>cases r;rfl
 |int _=>obtain⟨t,rfl⟩:=r;rfl
 |str _=>obtain⟨t,rfl⟩:=r;rfl
 |byt _=>obtain⟨t,rfl⟩:=r;rfl
 |flt _=>obtain⟨t,rfl⟩:=r;rfl
 |ref _=>cases r;rfl
 |ty _=>cases r;rfl
theorem ZF.inj{x y:V}{u:Value}(r:ZF x u)(q:ZF y u):x=y:=Option.some.inj (r.abs.symm.trans q.abs)
theorem ZD.inj:∀{xs ys:List V}{us:List Value},ZD xs us→ZD ys us→xs=ys
 |_,_,_,.nil,.nil=>rfl
 |_,_,_,.cons r t,.cons r' t'=>by rw[r.inj r',ZD.inj t t']
section
variable {X:Cx}{pins:List (Addr×Obj)}{σ:St}{H:Hp}{s:Shared}{a:Addr}{xs ys:List V}
theorem SqL.of{K:PySem.W.Frag}(h:H a=some (.lst xs)):SqL K H a xs:= .inl (.inl h)
theorem SqT.of{K:PySem.W.Frag}(h:H a=some (.tup xs)):SqT K H a xs:= .inl (.inl h)
theorem Inv.list(I:Inv X pins σ H s)(h:SqL X.K H a xs):∃its:List Value,ZD xs its∧PlainL s.heap a its.toArray∧xs.length≤sizeLine:=by
 rcases h with h|⟨o,its,n,hk,hc,hd,hs,hz,r⟩
 ·obtain⟨z,its,n,r,e⟩:=h.ok I.hok;exact⟨its,r,⟨_,n,e,rfl,rfl,rfl⟩,z⟩
 ·refine⟨its.toList,r,⟨o,n,I.kIn a o hk,hc,hd,by simpa using hs⟩,?_⟩;have e:=r.length;simp only[Array.length_toList] at e;omega
theorem Inv.tuple(I:Inv X pins σ H s)(h:SqT X.K H a xs):∃its:List Value,ZD xs its∧IsTup s.heap a its.toArray∧xs.length≤sizeLine:=by
 rcases h with h|⟨o,its,n,hk,hc,hs,hz,r⟩
 ·obtain⟨z,its,r,p⟩:=h.ok I.hok;exact⟨its,r,p,z⟩
 ·refine⟨its.toList,r,⟨o,I.kIn a o hk,hc,n,by simpa using hs⟩,?_⟩;have e:=r.length;simp only[Array.length_toList] at e;omega
theorem Inv.list_inj(I:Inv X pins σ H s)(h:SqL X.K H a xs)(h':SqL X.K H a ys):xs=ys:=by
 obtain⟨its,r,⟨o,n,e,_,_,d⟩,_⟩:=I.list h;obtain⟨its',r',⟨o',n',e',_,_,d'⟩,_⟩:=I.list h';rw[e] at e';cases e';rw[d] at d'
 injection d' with d1 _
 have:its=its':=by simpa using congrArg Array.toList d1
 subst this;exact r.inj r'
end
section
variable {X:Cx}{pins:List (Addr×Obj)}{σ:St}{H:Hp}{s:Shared}{E:Value→Shared→Prop}
end
section
variable {X:Cx}{st:Stmt}{rest:List Stmt}{t u:TS}{e:Expr}{te:TE}{pos:Pos}
noncomputable def tNext:TS:=fun D σ H=>D.nx σ H
noncomputable def ZlF (t u:TS):TS:=fun D σ H=>t {D with nx:=u D} σ H
theorem ZH:PSs X [] tNext:=fun _ _ σ H _ I h=>wpAny_execs_nil ⟨σ,H,I,h⟩
theorem Zc(h1:PS X st t)(h2:PSs X rest u):PSs X (st::rest) (ZlF t u):=by
 intro pins s σ H D I h;refine wpAny_execs_cons (thn (h1 pins s σ H {D with nx:=u D} I h) fun f s1 q=>?_);cases f with
 |next=>
  obtain⟨σ',H',I',q⟩:=q;exact h2 pins s1 σ' H' D I' q
 |ret v=>exact q
 |brk=>exact q
 |cont=>exact q
theorem Zf(h1:PS X st t):PSs X [st] t:=by
 intro pins s σ H D I h;refine wpAny_execs_cons (thn (h1 pins s σ H D I h) fun f s1 q=>?_);cases f with
 |next=>exact wpAny_execs_nil q
 |ret v=>exact q
 |brk=>exact q
 |cont=>exact q
theorem Inv.quiet{pins:List (Addr×Obj)}{σ:St}{H:Hp}{s:Shared}(I:Inv X pins σ H s):interactive X.env=false:=by simp[interactive,I.ok.kind]
noncomputable def Zkd (te:TE):TS:=fun D σ H=>te σ H fun _ H1=>D.nx σ H1
theorem ZX(he:PE X e te)(hs:swapsWith e none pos.line X.env=pure false:=by rfl):PS X (.Expr e pos) (Zkd te):=by
 intro pins s σ H D I h;exact wpAny_Expr_any (thn (he pins s σ H _ I h) fun v s1 ⟨x,H1,I1,r1,q1⟩=>⟨σ,H1,I1,q1⟩) I.quiet hs
noncomputable def ZlT (te:TE):TS:=fun D σ H=>te σ H D.rt
theorem Zu(he:PE X e te):PS X (.Return (some e) pos) (ZlT te):=by
 intro pins s σ H D I h;exact wpAny_Return_some (thn (he pins s σ H _ I h) fun v s1 ⟨x,H1,I1,r1,q1⟩=>⟨x,σ,H1,I1,r1,q1⟩)
noncomputable def Zlx (c:TT) (t u:TS):TS:=fun D σ H=>c σ H fun b H1=>if b=true then t D σ H1 else u D σ H1
theorem ZS{c:Expr}{a b:List Stmt}{tc:TT}(hc:PT X c tc)(ha:PSs X a t)(hb:PSs X b u):PS X (.If c a b pos) (Zlx tc t u):=by
 intro pins s σ H D I h;refine wpAny_If (thn (hc pins s σ H _ I h) fun d s1 ⟨H1,I1,q1⟩=>?_);cases d with
 |true=>exact ha pins s1 σ H1 D I1 q1
 |false=>exact hb pins s1 σ H1 D I1 q1
end
noncomputable abbrev TG:=V→St→Hp→(St→Hp→Prop)→Prop
noncomputable abbrev TGs:=List V→St→Hp→(St→Hp→Prop)→Prop
def PG(X:Cx)(target:Expr)(t:TG):Prop:=
 ∀(pins:List (Addr×Obj))(s:Shared)(σ:St)(H:Hp)(v:V)(u:Value)(Q:St→Hp→Prop),Inv X pins σ H s→ZF v u→t v σ H Q→
  wpAny (model X.prog X.w) X.A (assign target X.env u) (fun _ s'=>∃σ' H',Inv X pins σ' H' s'∧Q σ' H') X.xe s
def PGs(X:Cx)(ts:List Expr)(t:TGs):Prop:=
 ∀(pins:List (Addr×Obj))(s:Shared)(σ:St)(H:Hp)(vs:List V)(us:List Value)(Q:St→Hp→Prop),Inv X pins σ H s→ZD vs us→t vs σ H Q→
  wpAny (model X.prog X.w) X.A (assignInOrder ((assignEach ts X.env).map (·.2)) us) (fun _ s'=>∃σ' H',Inv X pins σ' H' s'∧Q σ' H') X.xe s
noncomputable abbrev ZcP:=V→V→V→Hp→(Hp→Prop)→Prop
def Zhb(X:Cx)(t:ZcP):Prop:=
 ∀(pins:List (Addr×Obj))(s:Shared)(σ:St)(H:Hp)(o i v:V)(ov iv u:Value)(Q:Hp→Prop),Inv X pins σ H s→ZF o ov→ZF i iv→ZF v u→t o i v H Q→
  wpAny (model X.prog X.w) X.A (setItem ov iv u) (fun _ s'=>∃H',Inv X pins σ H' s'∧Q H') X.xe s
noncomputable abbrev TIp:=V→V→Hp→VK→Prop
def PIp(X:Cx)(op:Operator)(t:TIp):Prop:=
 ∀(pins:List (Addr×Obj))(s:Shared)(σ:St)(H:Hp)(x y:V)(v u:Value)(Q:VK),Inv X pins σ H s→ZF x v→ZF y u→t x y H Q→
  wpAny (model X.prog X.w) X.A (inplaceOp op v u) (EP X pins σ Q) X.xe s
section
variable {X:Cx}{pos:Pos}
noncomputable def US (i:Nat):TG:=fun v σ H Q=>Q (σ.set i (some v)) H
theorem Zl{i:Nat}{x:Str}(hN:X.N.Nodup)(hi:X.N[i]? =some x)(hx:Loc X.env.scope x)(hf:X.fn x=true∨X.env.scope.names.lookup x=some .local:=by first|exact .inl rfl|exact .inr rfl|assumption):PG X (.Name x pos) (US i):=by
 intro pins s σ H v u Q I r h;exact wpAny_assign_Name (ZcJ I hN hi hx r (fun s' I'=>⟨_,H,I',h⟩) hf)
noncomputable def gNil:TGs:=fun vs σ H Q=>vs=[]∧Q σ H
noncomputable def Zka (t:TG) (u:TGs):TGs:=fun vs σ H Q=>∃v r,vs=v::r∧t v σ H fun σ' H'=>u r σ' H' Q
theorem YB:PGs X [] gNil:=by
 intro pins s σ H vs us Q I r h;obtain⟨e,h⟩:=h;subst e;cases r;exact assignInOrder_nil ⟨σ,H,I,h⟩
theorem Zz{e:Expr}{es:List Expr}{t:TG}{u:TGs}(h1:PG X e t)(h2:PGs X es u)
  (hs:(assignEach (e::es) X.env).map (·.2)=assign e X.env::(assignEach es X.env).map (·.2):=by rfl):PGs X (e::es) (Zka t u):=by
 intro pins s σ H vs us Q I r h;obtain⟨v,vr,e1,h⟩:=h;subst e1;cases r with
 |cons r rr=>
  rw[hs];refine assignInOrder_cons (thn (h1 pins s σ H _ _ _ I r h) fun _ s1 ⟨σ1,H1,I1,q1⟩=>?_);exact h2 pins s1 σ1 H1 _ _ Q I1 rr q1
noncomputable def ZjL (K:PySem.W.Frag) (n:Nat) (t:TGs):TG:=fun v σ H Q=>∃a xs,v= .ref a∧SqT K H a xs∧xs.length=n∧t xs σ H Q
theorem ZlN{es:List Expr}{k:Nat}{t:TGs}{n:Nat}(hc:X.calm=true)(h:PGs X es t)
  (hn:(assignEach es X.env).length=n:=by rfl) (hst:(assignEach es X.env).findIdx? (·.1)=none:=by rfl):PG X (.Tuple es k pos) (ZjL X.K n t):=by
 intro pins s σ H v u Q I r hw;obtain⟨a,xs,e1,hq,hl,hw⟩:=hw;subst e1;cases r;obtain⟨its,rv,ht,hz⟩:=I.tuple hq;refine assign_Tuple_tuple (I.ok.hd hc) ht (by simp[hn,←hl,rv.length]) hst fun h' hx=>?_;have I1:Inv X pins σ H {s with heap:=h'}:=I.kept (t':=s.toks) fun b o e=>hx b o (Nat.ne_of_lt (Heap.lt_size e)) e;exact h pins _ σ H xs _ Q I1 (by simpa using rv) hw
noncomputable def Zlb (to ti:TE) (t:ZcP):TG:=fun v σ H Q=>to σ H fun o H1=>ti σ H1 fun i H2=>t o i v H2 fun H3=>Q σ H3
theorem WJ{o i:Expr}{to ti:TE}{t:ZcP}(ho:PE X o to)(hi:PE X i ti)(hs:Zhb X t)
  (ha:∀v,assign (.Subscript o i pos) X.env v=(do
   let ov←holding [v] (eval o X.env)
   let iv←holding [v,ov] (eval i X.env)
   standAt pos
   holding [v,ov,iv] (setItem ov iv v)
   release [v,ov,iv] []):=by intro _;rfl):PG X (.Subscript o i pos) (Zlb to ti t):=by
 intro pins s σ H v u Q I r h;rw[ha];refine wpAny_bind (wpAny_holding (thn (ho pins s σ H _ I h) fun ov s1 ⟨x,H1,I1,r1,q1⟩=>?_));refine wpAny_bind (wpAny_holding (thn (hi pins s1 σ H1 _ I1 q1) fun iv s2 ⟨y,H2,I2,r2,q2⟩=>?_));refine wpAny_bind (wpAny_standAt (wpAny_bind (wpAny_holding (thn (hs pins s2 σ H2 x y v ov iv u _ I2 r1 r2 r q2) fun _ s3 ⟨H3,I3,q3⟩=>?_))));exact wpAny_release ⟨σ,H3,I3,q3⟩
noncomputable def ZfI (te:TE) (g:TG):TS:=fun D σ H=>te σ H fun x H1=>g x σ H1 D.nx
theorem YZ{tg e:Expr}{te:TE}{g:TG}(he:PE X e te)(hg:PG X tg g)(hs:swapsWithSole [tg] e pos.line X.env=pure false:=by rfl)(hw:swappedStores [tg] e X.env=pure none:=by rfl)
  (h1:(assignEach [tg] X.env).map (·.2)=[assign tg X.env]:=by rfl):PS X (.Assign [tg] e pos) (ZfI te g):=by
 intro pins s σ H D I h;refine wpAny_Assign_stores (thn (he pins s σ H _ I h) fun v s1 ⟨x,H1,I1,r1,q1⟩=>?_) hs hw;rw[h1];exact thn (hg pins s1 σ H1 x v _ I1 r1 q1) fun _ s2 q=>q
theorem Zy{i:Nat}{x:Str}{e:Expr}{te:TE}{pos':Pos}(hN:X.N.Nodup)(hi:X.N[i]? =some x)(hx:Loc X.env.scope x)(he:PE X e te)(hs:swapsWith e (some (.Name x pos')) pos.line X.env=pure false:=by rfl)(hf:X.fn x=true∨X.env.scope.names.lookup x=some .local:=by first|exact .inl rfl|exact .inr rfl|assumption):
  PS X (.Assign [.Name x pos'] e pos) (ZfI te (US i)):=by
 intro pins s σ H D I h;refine wpAny_Assign_Name (thn (he pins s σ H _ I h) fun v s1 ⟨y,H1,I1,r1,q1⟩=>?_) hs;exact ZcJ I1 hN hi hx r1 (fun s2 I2=>⟨_,H1,I2,q1⟩) hf
noncomputable def Zm4 (i:Nat) (te:TE) (ti:TIp):TS:=fun D σ H=>∃x,σ[i]? =some (some x)∧te σ H fun y H1=>ti x y H1 fun z H2=>D.nx (σ.set i (some z)) H2
theorem Zlu{i:Nat}{x:Str}{e:Expr}{te:TE}{op:Operator}{ti:TIp}{pos':Pos}(hN:X.N.Nodup)(hi:X.N[i]? =some x)(hx:Loc X.env.scope x)(he:PE X e te)(ho:PIp X op ti)(hf:X.fn x=true∨X.env.scope.names.lookup x=some .local:=by first|exact .inl rfl|exact .inr rfl|assumption):
  PS X (.AugAssign (.Name x pos') op e pos) (Zm4 i te ti):=by
 intro pins s σ H D I h;obtain⟨v,e1,h⟩:=h;obtain⟨m,hn,hl⟩:=I.loc;have vis:Vis X.env.scope x:=by rcases hx with k|k;exact .inl k;exact .inr (.inl k)
 obtain⟨u,r,l⟩:=hl i x v hi e1 vis;refine wpAny_AugAssign_Name ?_;have go:wpAny (model X.prog X.w) X.A (eval e X.env) (fun w s₂=>wpAny (model X.prog X.w) X.A (inplaceOp op u w) (fun r s₃=>wpAny (model X.prog X.w) X.A (storeName X.env x r) (fun _=>SP X pins D .next) X.xe s₃) X.xe s₂) X.xe s:=by
  refine thn (he pins s σ H _ I h) fun w s1 ⟨y,H1,I1,r1,q1⟩=>?_;refine thn (ho pins s1 σ H1 v y u w _ I1 r r1 q1) fun z s2 ⟨zv,H2,I2,r2,q2⟩=>?_;exact ZcJ I2 hN hi hx r2 (fun s3 I3=>⟨_,H2,I3,q2⟩) hf
 rcases l with⟨hk,hm⟩|⟨hk,c,hc,hcell⟩
 ·exact wpAny_loadName_local I.ok.kind hk hn hm go
 ·rcases hk with hk|hk
  ·exact wpAny_loadName_cell I.ok.kind hk hc hcell go
  ·rcases hx with k|k
   ·have:X.env.scope.names.lookup x=some .free:=hk;rw[k] at this;cases this
   ·have:X.env.scope.names.lookup x=some .free:=hk;rw[k] at this;cases this
noncomputable def Zj4 (to ti te:TE) (tget:V→V→Hp→VK→Prop) (tip:TIp) (tset:ZcP):TS:=fun D σ H=>to σ H fun o H1=>ti σ H1 fun i H2=>tget o i H2 fun x H3=>te σ H3 fun y H4=>tip x y H4 fun z H5=>tset o i z H5 fun H6=>D.nx σ H6
def Zjc(X:Cx)(t:V→V→Hp→VK→Prop):Prop:=
 ∀(pins:List (Addr×Obj))(s:Shared)(σ:St)(H:Hp)(o i:V)(ov iv:Value)(Q:VK),Inv X pins σ H s→ZF o ov→ZF i iv→t o i H Q→
  wpAny (model X.prog X.w) X.A (getItem ov iv) (EP X pins σ Q) X.xe s
theorem ZdT{o i e:Expr}{to ti te:TE}{tget:V→V→Hp→VK→Prop}{tip:TIp}{tset:ZcP}{op:Operator}{tpos:Pos}(ho:PE X o to)(hi:PE X i ti)(hg:Zjc X tget)(he:PE X e te)(hp:PIp X op tip)(hs:Zhb X tset)
  (ha:∀ov iv new,augStore i ov iv new=(do holding [new,ov,iv] (setItem ov iv new);release [new,ov,iv] [];pure .next):=by intros;rfl):PS X (.AugAssign (.Subscript o i tpos) op e pos) (Zj4 to ti te tget tip tset):=by
 intro pins s σ H D I h;refine wpAny_AugAssign_SubscriptAny (thn (ho pins s σ H _ I h) fun ov s1 ⟨x1,H1,I1,r1,q1⟩=>?_) ha;refine thn (hi pins s1 σ H1 _ I1 q1) fun iv s2 ⟨x2,H2,I2,r2,q2⟩=>?_;refine thn (hg pins s2 σ H2 x1 x2 ov iv _ I2 r1 r2 q2) fun old s3 ⟨x3,H3,I3,r3,q3⟩=>?_;refine thn (he pins s3 σ H3 _ I3 q3) fun v s4 ⟨x4,H4,I4,r4,q4⟩=>?_;refine thn (hp pins s4 σ H4 x3 x4 old v _ I4 r3 r4 q4) fun new s5 ⟨x5,H5,I5,r5,q5⟩=>?_;exact thn (hs pins s5 σ H5 x1 x2 x5 ov iv new _ I5 r1 r2 r5 q5) fun _ s6 ⟨H6,I6,q6⟩=>⟨σ,H6,I6,q6⟩
noncomputable def ipI (f:Int→Int→Int):TIp:=fun x y H Q=>∃i j,x= .int i∧y= .int j∧Q (.int (f i j)) H
theorem Zh5:PIp X .Add (ipI fun i j=>i+j):=by
 intro pins s σ H x y v u Q I r1 r2 h;obtain⟨i,j,e1,e2,q⟩:=h;subst e1;subst e2;obtain⟨t,rfl⟩:=r1;obtain⟨t',rfl⟩:=r2;exact iadd_int ⟨.int _,H,I.tok _,⟨_,rfl⟩,q⟩
theorem ZhR:PIp X .Sub (ipI fun i j=>i-j):=by
 intro pins s σ H x y v u Q I r1 r2 h;obtain⟨i,j,e1,e2,q⟩:=h;subst e1;subst e2;obtain⟨t,rfl⟩:=r1;obtain⟨t',rfl⟩:=r2;exact isub_int ⟨.int _,H,I.tok _,⟨_,rfl⟩,q⟩
end
section
variable {X:Cx}{pos:Pos}
noncomputable def ZhL (c:TT) (tb:TS):TS:=fun D σ H=>∃W:Nat→St→Hp→Prop,(∃m,W m σ H)∧∀m σ H,W m σ H→
 c σ H fun b H1=>if b=true then ∃N:St→Hp→Prop,(∀σ' H',N σ' H'→∃m',m'<m∧W m' σ' H')∧tb {D with nx:=N,ct:=N,bk:=D.nx} σ H1 else D.nx σ H1
theorem Zak{c:Expr}{body:List Stmt}{tc:TT}{tb:TS}(hp:PassesOwn (model X.prog X.w) X.A X.env X.xe)(hc:PT X c tc)(hb:PSs X body tb):PS X (.While c body [] pos) (ZhL tc tb):=by
 intro pins s σ H D I h;obtain⟨W,⟨m0,w0⟩,turn⟩:=h;refine wpAny_While (codeAny_whileLoop (fun n s'=>∃σ' H',Inv X pins σ' H' s'∧W n σ' H') ?_ m0 ⟨σ,H,I,w0⟩);rintro n s1 ⟨σ1,H1,I1,w1⟩;refine wpAny_passesOwn hp (thn (hc pins s1 σ1 H1 _ I1 (turn n σ1 H1 w1)) fun b s2 ⟨H2,I2,q2⟩=>?_);cases b with
 |true=>
  obtain⟨N,hN,q2⟩:=q2;rw[if_pos rfl];refine wpAny_passesOwn hp (thn (hb pins s2 σ1 H2 _ I2 q2) fun f s3 q3=>?_);cases f with
  |next=>
   obtain⟨σ3,H3,I3,n3⟩:=q3;obtain⟨m',hm,w3⟩:=hN σ3 H3 n3;exact⟨m',hm,σ3,H3,I3,w3⟩
  |cont=>
   obtain⟨σ3,H3,I3,n3⟩:=q3;obtain⟨m',hm,w3⟩:=hN σ3 H3 n3;exact⟨m',hm,σ3,H3,I3,w3⟩
  |brk=>exact q3
  |ret v=>exact q3
 |false=>
  rw[if_neg Bool.false_ne_true];exact wpAny_execs_nil ⟨σ1,H2,I2,q2⟩
end
structure It where
 go:Nat→Hp→Prop
 yld:Nat→Hp→V→Hp→Prop
 stop:Nat→Hp→Prop
def WY(X:Cx)(pins:List (Addr×Obj))(H:Hp)(b:Addr):Prop:=
 H b=none∧b≠X.env.locals∧b∉X.fs∧(b∈X.ex∨X.s₀.heap.objs.size≤b)∧(∀x c,X.env.cells.lookup x=some c→c≠b)∧∀p∈X.pn++pins,p.1≠b
theorem Inv.fpOk{X:Cx}{pins:List (Addr×Obj)}{σ:St}{H H':Hp}{s:Shared}{b:Addr}(I:Inv X pins σ H s)(hb:s.heap.objs.size≤b)(hn:H' b=none):WY X pins H' b:=by
 refine⟨hn,Nat.ne_of_gt (Nat.lt_of_lt_of_le I.lt hb),I.nofs hb,.inr (Nat.le_trans I.sz hb),fun x c e z=>?_,fun p hp z=>?_⟩
 ·obtain⟨v,q⟩:=I.cell x c e;exact absurd (Nat.lt_of_lt_of_le q.lt (by rw[z];exact hb)) (Nat.lt_irrefl _)
 ·exact absurd (Nat.lt_of_lt_of_le (Heap.lt_size (I.pin p hp).1) (by rw[z];exact hb)) (Nat.lt_irrefl _)
structure Za9(P:Program)(w:World)(K:PySem.W.Frag)(tg:Expr)(J:It)(fp:List Addr)(it:Addr)(tn:Nat→Heap→Prop):Prop where
 mem:it∈fp
 obj:∀i h,tn i h→∀b∈fp,∃o,h.get? b=some o∧∀v,o.data≠ .cell v
 keep:∀i h h',tn i h→(∀b∈fp,∀o,h.get? b=some o→h'.get? b=some o)→tn i h'
 item:∀(X:Cx),X.prog=P→X.w=w→X.K=K→X.calm=true→∀(i:Nat)(pins:List (Addr×Obj))(s:Shared)(σ:St)(H:Hp)(E:Value→Shared→Prop),Inv X pins σ H s→(∀b∈fp,WY X pins H b)→tn i s.heap→J.go i H→
  wpAny (model P w) X.A (pyNext (.ref it)) (fun r s1=>∃u,r=some u∧
   wpAny (model P w) X.A (letOwnedTupleGo tg (.ref it) u) (fun _ s2=>∃x H',Inv X pins σ H' s2∧ZF x u∧J.yld i H x H'∧tn (i+1) s2.heap∧∀b∈fp,H' b=none) E s1) E s
 done:∀(X:Cx),X.prog=P→X.w=w→X.K=K→X.calm=true→∀(i:Nat)(pins:List (Addr×Obj))(s:Shared)(σ:St)(H:Hp)(E:Value→Shared→Prop),Inv X pins σ H s→(∀b∈fp,WY X pins H b)→tn i s.heap→J.stop i H→
  wpAny (model P w) X.A (pyNext (.ref it)) (fun r s1=>r=none∧Inv X pins σ H s1) E s
 self:∀(A:Around)(i:Nat)(s:Shared)(Q:Value→Shared→Prop)(E:Value→Shared→Prop),tn i s.heap→Q (.ref it) s→wpAny (model P w) A (pyIter (.ref it)) Q E s
noncomputable abbrev TI:=St→Hp→(It→Hp→Prop)→Prop
def PIE(X:Cx)(pins:List (Addr×Obj))(σ:St)(tg:Expr)(R:It→Hp→Prop)(itv:Value)(s2:Shared):Prop:=
 ∃(it:Addr)(fp:List Addr)(tn:Nat→Heap→Prop)(J:It)(H':Hp),itv= .ref it∧Inv X pins σ H' s2∧Za9 X.prog X.w X.K tg J fp it tn∧tn 0 s2.heap∧(∀b∈fp,WY X pins H' b)∧R J H'
def PI(X:Cx)(tg iter:Expr)(wi:TI):Prop:=
 ∀(pins:List (Addr×Obj))(s:Shared)(σ:St)(H:Hp)(R:It→Hp→Prop),Inv X pins σ H s→wi σ H R→
  wpAny (model X.prog X.w) X.A (eval iter X.env) (fun v s1=>wpAny (model X.prog X.w) X.A (pyIter v) (PIE X pins σ tg R) X.xe s1) X.xe s
theorem ZeM{M:Model}{A:Around}{E:Value→Shared→Prop}{s:Shared}{tg:Expr}{it:Addr}{u:Value}{o:Obj}{n:String}{vs:Array Value}{Q:Unit→Shared→Prop}(ho:s.heap.get? it=some o)(hc:o.cls= .type n)(hd:o.data= .fields vs)
  (hn:["enumerate","zip","dict_itemiterator","dict_reverseitemiterator","odict_iterator","itertools.zip_longest","itertools.pairwise"].contains n=false) (hQ:Q () s):wpAny M A (letOwnedTupleGo tg (.ref it) u) Q E s:=by
 unfold letOwnedTupleGo;cases tg<;>first
  |exact wpAny_pure hQ
  |(cases u<;>first
    |exact wpAny_pure hQ
    |(refine wpAny_bind (wpAny_load ho ?_)
      rw[hc,hd];show wpAny M A (if(["enumerate","zip","dict_itemiterator","dict_reverseitemiterator","odict_iterator","itertools.zip_longest","itertools.pairwise"].contains n&&vs[0]? ==some (rawInt _))=true then _ else _) Q E s;rw[if_neg (by intro h;rw[hn,Bool.false_and] at h;cases h)];exact wpAny_pure hQ))
noncomputable def Itl (K:PySem.W.Frag) (a:Addr):It:=
 ⟨fun i H=>∃xs x,SqL K H a xs∧xs[i]? =some x,fun i H x H'=>H'=H∧∀xs,SqL K H a xs→xs[i]? =some x,fun i H=>∃xs,SqL K H a xs∧xs.length≤i⟩
noncomputable def Itr (lo:Int) (n:Nat):It:=⟨fun i _=>i<n,fun i H x H'=>H'=H∧x= .int (lo+i),fun i _=>n≤i⟩
theorem ZhV{P:Program}{w:World}{K:PySem.W.Frag}{tg:Expr}(a it:Addr):Za9 P w K tg (Itl K a) [it] it (fun i h=>h.IsListIter it a i) where
 mem:=by simp
 obj:=fun i h st b hb=>by
  have e:b=it:=by simpa using hb
  subst e;obtain⟨o,e,c,d⟩:=st;exact⟨o,e,fun v z=>by rw[d] at z;cases z⟩
 keep:=fun i h h' st k=>st.at fun o e=>k it (by simp) o e
 item:=by
  intro X hP hw hK hc i pins s σ H E I hf st hg;subst hP hw hK;obtain⟨xs,x,hq,hx⟩:=hg;obtain⟨its,rv,p,hz⟩:=I.list hq;obtain⟨u,hu,ru⟩:=rv.get hx;obtain⟨f0,f1,f2,f3,f4,f5⟩:=hf it (by simp);refine wpAny_pyNext_list_item st p.isList (x:=u) (by simpa using hu) fun h' st' sb=>?_;have I1:Inv X pins σ H {s with heap:=h'}:=I.turned (t':=s.toks) (fun b o hb e=>(sb.2 b hb).trans e) f0 f1 f3 f4 f5;obtain⟨o,e,c,d⟩:=id st';exact⟨u,rfl,ZeM (s:={s with heap:=h'}) e c d (by decide) ⟨x,H,I1,ru,⟨rfl,fun ys hy=>by rw[I.list_inj hy hq];exact hx⟩,st',fun b hb=>(hf b hb).1⟩⟩
 done:=by
  intro X hP hw hK hc i pins s σ H E I hf st hg;subst hP hw hK;obtain⟨xs,hq,hx⟩:=hg;obtain⟨its,rv,p,hz⟩:=I.list hq;obtain⟨f0,f1,f2,f3,f4,f5⟩:=hf it (by simp);have hl:=rv.length;exact wpAny_pyNext_list_end (I.ok.hd hc) st p.isList (by simp;omega) fun h' eb=>⟨rfl,I.turned (t':=s.toks) (fun b o hb e=>eb b o hb e) f0 f1 f3 f4 f5⟩
 self:=fun _ _ _ _ _ st h=>wpAny_pyIter_listiter st h
theorem ZgP{P:Program}{w:World}{K:PySem.W.Frag}{tg:Expr}(it:Addr)(lo:Int)(n:Nat):Za9 P w K tg (Itr lo n) [it] it (fun i h=>IsRangeIter h it (lo+(i:Nat)*1) ((n:Int)-(i:Nat)) 1) where
 mem:=by simp
 obj:=fun i h st b hb=>by
  have e:b=it:=by simpa using hb
  subst e;exact⟨_,st,fun v z=>by
   have z':Data.fields _=Data.cell v:=z;cases z'⟩
 keep:=fun i h h' st k=>k it (by simp) _ st
 item:=by
  intro X hP hw hK hc i pins s σ H E I hf st hg;subst hP hw hK;obtain⟨f0,f1,f2,f3,f4,f5⟩:=hf it (by simp);have W:=Walks.range (prog:=X.prog) (w:=X.w) (I.ok.hd hc) it lo 1 n;refine W.item i s _ _ hg st fun v h' tk hv st' kk=>?_;obtain⟨t,rfl⟩:=hv;have I1:Inv X pins σ H {s with heap:=h',toks:=tk}:=I.turned (fun b o hb e=>kk b o (by simpa using hb) e) f0 f1 f3 f4 f5;refine⟨_,rfl,ZeM (s:={s with heap:=h',toks:=tk}) (n:="range_iterator") st' rfl rfl (by decide) ⟨.int (lo+i),H,I1,⟨t,?_⟩,⟨rfl,rfl⟩,st',fun b hb=>(hf b hb).1⟩⟩;rw[Int.mul_one]
 done:=by
  intro X hP hw hK hc i pins s σ H E I hf st hg;subst hP hw hK;obtain⟨f0,f1,f2,f3,f4,f5⟩:=hf it (by simp);exact wpAny_pyNext_range_end (I.ok.hd hc) st (by have:n≤i:=hg;omega) fun h' eb=>⟨rfl,I.turned (t':=s.toks) (fun b o hb e=>eb b o hb e) f0 f1 f3 f4 f5⟩
 self:=fun _ _ _ _ _ st h=>wpAny_pyIter_rangeiter st h
end L2
namespace L2
open PySem PySem.Spec PyProof.Rows
section
variable {X:Cx}{tg:Expr}
noncomputable def Zhr (K:PySem.W.Frag) (tl:TE):TI:=fun σ H R=>tl σ H fun x H1=>∃a,x= .ref a∧(∃xs,SqL K H1 a xs)∧R (Itl K a) H1
theorem Zkn{l:Expr}{tl:TE}(hl:PE X l tl):PI X tg l (Zhr X.K tl):=by
 intro pins s σ H R I h;refine thn (hl pins s σ H _ I h) fun v s1 ⟨x,H1,I1,r1,q1⟩=>?_;obtain⟨a,e,⟨xs,hq⟩,q⟩:=q1;subst e;cases r1;obtain⟨its,rv,p,hz⟩:=I1.list hq;refine wpAny_pyIter_list p.isList ?_;refine⟨s1.heap.objs.size,[s1.heap.objs.size],_,_,H1,rfl,I1.kept (t':=s1.toks) fun b o e=>Heap.get?_push_of_some _ e,ZhV a _,⟨_,Heap.get?_push_size _ rfl,rfl,rfl⟩,fun b hb=>?_,q⟩;have e:b=s1.heap.objs.size:=by simpa using hb
 subst e;exact I1.fpOk (Nat.le_refl _) (I1.hok.fresh (Nat.le_refl _))
theorem ZjJ{pins:List (Addr×Obj)}{σ:St}{H:Hp}{s:Shared}{R:It→Hp→Prop}{E:Value→Shared→Prop}{lo hi:Int}{t u v:Tok}{tk:Nat}(I:Inv X pins σ H s)(h1: -(2 ^ 62)≤lo)(h2:lo<2 ^ 62)(h3: -(2 ^ 62)≤hi)(h4:hi<2 ^ 62)
  (q:R (Itr lo (hi-lo).toNat) H):wpAny (model X.prog X.w) X.A (pyIter (.ref s.heap.objs.size)) (PIE X pins σ tg R) E {s with heap:=s.heap.push {cls:= .type "range",data:= .fields #[.int lo t,.int hi u,.int 1 v]},toks:=tk}:=by
 refine wpAny_pyIter_range (IsRange.new ..) (small_one h1 h2 h3 h4) ?_;have I1:Inv X pins σ H {s with heap:=s.heap.push {cls:= .type "range",data:= .fields #[.int lo t,.int hi u,.int 1 v]},toks:=tk}:=I.kept fun b o e=>Heap.get?_push_of_some _ e;refine⟨(s.heap.push {cls:= .type "range",data:= .fields #[.int lo t,.int hi u,.int 1 v]}).objs.size,[(s.heap.push {cls:= .type "range",data:= .fields #[.int lo t,.int hi u,.int 1 v]}).objs.size],_,_,H,rfl,
  I1.kept (t':=tk) fun b o e=>Heap.get?_push_of_some _ e,ZgP _ lo (hi-lo).toNat,?_,fun b hb=>?_,q⟩
 ·have e1:lo+((0:Nat):Int)*1=lo:=by simp
  have e2:(((hi-lo).toNat:Nat):Int)-((0:Nat):Int)=Builtin.Range.rangeSize lo hi 1:=by rw[rangeSize_one];split<;>omega
  show IsRangeIter _ _ (lo+((0:Nat):Int)*1) ((((hi-lo).toNat:Nat):Int)-((0:Nat):Int)) 1;rw[e1,e2];exact Heap.get?_push_size _ rfl
 ·have e:b=(s.heap.push {cls:= .type "range",data:= .fields #[.int lo t,.int hi u,.int 1 v]}).objs.size:=by simpa using hb
  subst e;exact I1.fpOk (Nat.le_refl _) (I1.hok.fresh (Nat.le_refl _))
noncomputable def ZjX (ta:TA):TI:=fun σ H R=>ta σ H fun vs H1=>∃j:Int,vs=[.int j]∧ -(2 ^ 62)≤j∧j<2 ^ 62∧R (Itr 0 j.toNat) H1
theorem ZW{a:Expr}{ta:TA}{p pos:Pos}(hg:Gl X "range")(hm:X.mg "range" =none)(ha:PA X [a] ta)(hs:starEach [a] X.env=[(false,eval a X.env)]:=by rfl):PI X tg (.Call (.Name "range" p) [a] [] pos) (ZjX ta):=by
 intro pins s σ H R I h;refine Call_ (Ua I hg hm boot_range (PyProof.Rows.callWith_type1 (thn (ha pos pins s σ H _ I h) fun us s1 ⟨vs,H1,I1,r1,q1⟩=>?_) hs rfl));obtain⟨j,e,q1,q2,q⟩:=q1;subst e;cases r1 with
 |cons r rr=>
  cases rr;obtain⟨t,rfl⟩:=r;exact call_range_1 (ZjJ I1 (by omega) (by omega) q1 q2 (by simpa using q))
noncomputable def Zlc (wi:TI) (g:TG) (tb:TS):TS:=fun D σ H=>wi σ H fun J H1=>∃W:Nat→Nat→St→Hp→Prop,(∃m,W 0 m σ H1)∧∀i m σ H,W i m σ H→
 (J.stop i H∧D.nx σ H)∨(J.go i H∧∃N:St→Hp→Prop,(∀σ' H',N σ' H'→∃m',m'<m∧W (i+1) m' σ' H')∧∀x H',J.yld i H x H'→g x σ H' fun σ2 H2=>tb {D with nx:=N,ct:=N,bk:=D.nx} σ2 H2)
noncomputable def Za0 (fp:List Addr) (h:Heap):List (Addr×Obj):=fp.filterMap fun b=>(h.get? b).map fun o=>(b,o)
theorem Vb{fp:List Addr}{h:Heap}{b:Addr}{o:Obj}(hb:b∈fp)(e:h.get? b=some o):(b,o)∈Za0 fp h:=List.mem_filterMap.mpr ⟨b,hb,by rw[e];rfl⟩
theorem Zis{fp:List Addr}{h:Heap}{p:Addr×Obj}(hp:p∈Za0 fp h):p.1∈fp∧h.get? p.1=some p.2:=by
 obtain⟨b,hb,e⟩:=List.mem_filterMap.mp hp;cases q:h.get? b with
 |none=>rw[q] at e;cases e
 |some o=>
  rw[q] at e;have e':(b,o)=p:=Option.some.inj e;subst e';exact⟨hb,q⟩
theorem Inv.pinned{pins:List (Addr×Obj)}{σ:St}{H:Hp}{s:Shared}{fp:List Addr}(I:Inv X pins σ H s)(hf:∀b∈fp,WY X pins H b)(ho:∀b∈fp,∃o,s.heap.get? b=some o∧∀v,o.data≠ .cell v):Inv X (pins++Za0 fp s.heap) σ H s:=
 I.pins_of fun p hp=>(List.mem_append.mp hp).elim (fun z=>I.pin p (List.mem_append_right _ z)) fun z=>by
  obtain⟨hb,e⟩:=Zis z;obtain⟨f0,f1,f2,_⟩:=hf p.1 hb;obtain⟨o,e',d⟩:=ho p.1 hb;rw[e] at e';cases e';exact⟨e,f0,f1,f2,d⟩
theorem Inv.unpinned{pins pl:List (Addr×Obj)}{σ:St}{H:Hp}{s:Shared}(I:Inv X (pins++pl) σ H s):Inv X pins σ H s:=I.pins_of fun p hp=>I.pin p (List.mem_append_right _ (List.mem_append_left _ hp))
theorem Z2{iter:Expr}{body:List Stmt}{wi:TI}{g:TG}{tb:TS}{pos:Pos}(hp:PassesOwn (model X.prog X.w) X.A X.env X.xe)(hc:X.calm=true)(hi:PI X tg iter wi)(hg:PG X tg g)(hb:PSs X body tb)
  (hs:∀x,foldedSetIterable iter X.env x=pure x:=by intro _;rfl):PS X (.For tg iter body [] pos) (Zlc wi g tb):=by
 intro pins s σ H D I h;refine wpAny_For (thn (hi pins s σ H _ I h) fun v s1 h1=>thn h1 fun itv s2 h2=>?_) hs;obtain⟨it,fp,tn,J,H2,e,I2,T,st2,f2,W,⟨m0,w0⟩,turn⟩:=h2;subst e;have stat:∀{H':Hp},(∀b∈fp,H' b=none)→∀b∈fp,WY X pins H' b:=fun hn b hb=>⟨hn b hb,(f2 b hb).2⟩;refine codeAny_forLoop_any (fun n s'=>∃i σ' H',Inv X pins σ' H' s'∧tn i s'.heap∧(∀b∈fp,H' b=none)∧W i n σ' H') ?_ m0 ⟨0,σ,H2,I2,st2,fun b hb=>(f2 b hb).1,w0⟩;rintro n s3 ⟨i,σ3,H3,I3,st3,fr3,w3⟩;rcases turn i n σ3 H3 w3 with⟨stop,qn⟩|⟨go,N,hN,step⟩
 ·refine wpAny_passesOwn hp (thn (T.done X rfl rfl rfl hc i pins s3 σ3 H3 X.xe I3 (stat fr3) st3 stop) fun r s4 ⟨hr,I4⟩=>?_);subst hr;exact wpAny_execs_nil ⟨σ3,H3,I4,qn⟩
 ·refine wpAny_passesOwn hp (thn (T.item X rfl rfl rfl hc i pins s3 σ3 H3 X.xe I3 (stat fr3) st3 go) fun r s4 ⟨u,hr,h4⟩=>?_);subst hr;refine wpAny_passesOwn hp (thn h4 fun _ s5 ⟨x,H5,I5,r5,y5,st5,fr5⟩=>?_);have I5':=I5.pinned (stat fr5) (T.obj _ _ st5);refine wpAny_passesOwn hp (thn (hg _ s5 σ3 H5 x u _ I5' r5 (step x H5 y5)) fun _ s6 ⟨σ6,H6,I6,q6⟩=>?_);refine wpAny_passesOwn hp (thn (hb _ s6 σ6 H6 _ I6 q6) fun f s7 q7=>?_);have again:∀{σ7:St}{H7:Hp},Inv X (pins++Za0 fp s5.heap) σ7 H7 s7→N σ7 H7→∃m,m<n∧∃i σ' H',Inv X pins σ' H' s7∧tn i s7.heap∧(∀b∈fp,H' b=none)∧W i m σ' H':=fun{σ7 H7} I7 n7=>by
   obtain⟨m',hm,w7⟩:=hN σ7 H7 n7;refine⟨m',hm,i+1,σ7,H7,I7.unpinned,T.keep _ _ _ st5 fun b hb o e=>(I7.pin (b,o) (List.mem_append_right _ (List.mem_append_right _ (Vb hb e)))).1,fun b hb=>?_,w7⟩;obtain⟨o,e,d⟩:=T.obj _ _ st5 b hb;exact(I7.pin (b,o) (List.mem_append_right _ (List.mem_append_right _ (Vb hb e)))).2.1
  cases f with
  |next=>obtain⟨σ7,H7,I7,n7⟩:=q7;exact again I7 n7
  |cont=>obtain⟨σ7,H7,I7,n7⟩:=q7;exact again I7 n7
  |brk=>obtain⟨σ7,H7,I7,q7⟩:=q7;exact⟨σ7,H7,I7.unpinned,q7⟩
  |ret v=>obtain⟨x7,σ7,H7,I7,r7,q7⟩:=q7;exact⟨x7,σ7,H7,I7.unpinned,r7,q7⟩
end
theorem Yl{lo:Int}{n:Nat}{g:TG}{tb:TS}{D:VA}{σ:St}{H:Hp}(Pv:Nat→St→Hp→Prop)(h0:Pv 0 σ H)
  (hs:∀i σ H,i<n→Pv i σ H→g (.int (lo+i)) σ H fun σ2 H2=>tb {D with nx:=Pv (i+1),ct:=Pv (i+1),bk:=D.nx} σ2 H2) (hd:∀σ H,Pv n σ H→D.nx σ H):
  ∃W:Nat→Nat→St→Hp→Prop,(∃m,W 0 m σ H)∧∀i m σ H,W i m σ H→
   ((Itr lo n).stop i H∧D.nx σ H)∨((Itr lo n).go i H∧∃N:St→Hp→Prop,(∀σ' H',N σ' H'→∃m',m'<m∧W (i+1) m' σ' H')∧∀x H',(Itr lo n).yld i H x H'→g x σ H' fun σ2 H2=>tb {D with nx:=N,ct:=N,bk:=D.nx} σ2 H2):=by
 refine⟨fun i m σ H=>m=n-i∧i≤n∧Pv i σ H,⟨n,by simp,Nat.zero_le _,h0⟩,?_⟩;rintro i m σ H ⟨rfl,hi,p⟩
 by_cases hlt:i<n
 ·refine .inr ⟨hlt,Pv (i+1),fun σ' H' p'=>⟨n-(i+1),by omega,rfl,hlt,p'⟩,fun x H' y=>?_⟩;obtain⟨e,y⟩:=y;subst e y;exact hs i σ _ hlt p
 ·have e:i=n:=by omega
  subst e;exact .inl ⟨Nat.le_refl _,hd σ H p⟩
end L2
namespace L2
open PySem PySem.Spec PyProof.Rows
noncomputable abbrev R2:=V→V→Hp→VK→Prop
def OpR(X:Cx)(f:Value→Value→Sem Value)(r:R2):Prop:=
 ∀(pins:List (Addr×Obj))(s:Shared)(σ:St)(H:Hp)(x y:V)(v u:Value)(Q:VK),Inv X pins σ H s→ZF x v→ZF y u→r x y H Q→
  wpAny (model X.prog X.w) X.A (f v u) (EP X pins σ Q) X.xe s
def Wi(X:Cx)(f:Value)(r:List V→Hp→VK→Prop):Prop:=
 ∀(pins:List (Addr×Obj))(s:Shared)(σ:St)(H:Hp)(xs:List V)(us:List Value)(Q:VK),Inv X pins σ H s→ZD xs us→r xs H Q→
  wpAny (model X.prog X.w) X.A (call f us) (EP X pins σ Q) X.xe s
def ZmF(X:Cx)(r:V→Hp→(Bool→Hp→Prop)→Prop):Prop:=
 ∀(pins:List (Addr×Obj))(s:Shared)(σ:St)(H:Hp)(x:V)(v:Value)(Q:Bool→Hp→Prop),Inv X pins σ H s→ZF x v→r x H Q→
  wpAny (model X.prog X.w) X.A (truthy v) (TP X pins σ Q) X.xe s
noncomputable def tOp (r:R2) (ta tb:TE):TE:=fun σ H Q=>ta σ H fun x H1=>tb σ H1 fun y H2=>r x y H2 Q
noncomputable def rI (C:Int→Int→Prop) (g:Int→Int→V):R2:=fun x y H Q=>∃i j,x= .int i∧y= .int j∧C i j∧Q (g i j) H
noncomputable def rI0 (g:Int→Int→V):R2:=fun x y H Q=>∃i j,x= .int i∧y= .int j∧Q (g i j) H
section
variable {X:Cx}{a b c:Expr}{ta tb tc:TE}{pos:Pos}
theorem Zjy(ha:PE X a ta)(hb:PE X b tb){pins:List (Addr×Obj)}{s:Shared}{σ:St}{H:Hp}{R:V→V→Hp→Prop}(I:Inv X pins σ H s)
  (h:ta σ H fun x H1=>tb σ H1 fun y H2=>R x y H2) {Q:Value→Shared→Prop} {f:Value→Value→Sem Value}
  (hf:∀v u s2 x y H2,Inv X pins σ H2 s2→ZF x v→ZF y u→R x y H2→wpAny (model X.prog X.w) X.A (f v u) Q X.xe s2):
  wpAny (model X.prog X.w) X.A (eval a X.env) (fun v s₁=>wpAny (model X.prog X.w) X.A (eval b X.env) (fun u s₂=>wpAny (model X.prog X.w) X.A (f v u) Q X.xe s₂) X.xe s₁) X.xe s:=by
 refine thn (ha pins s σ H _ I h) fun v s1 ⟨x,H1,I1,r1,q1⟩=>?_;refine thn (hb pins s1 σ H1 _ I1 q1) fun u s2 ⟨y,H2,I2,r2,q2⟩=>?_;exact hf v u s2 x y H2 I2 r1 r2 q2
theorem Zs{op:Operator}{r:R2}(ho:OpR X (binaryOp op) r)(ha:PE X a ta)(hb:PE X b tb):PE X (.BinOp a op b pos) (tOp r ta tb):=by
 intro pins s σ H Q I h;exact wpAny_BinOp (Zjy ha hb I h fun v u s2 x y H2 I2 rx ry q=>ho pins s2 σ H2 x y v u Q I2 rx ry q)
theorem opI{f:Value→Value→Sem Value}{C:Int→Int→Prop}{g:Int→Int→Int}
  (rule:∀(i j:Int)(t u:Tok)(s:Shared)(Q:Value→Shared→Prop)(E:Value→Shared→Prop),C i j→Q (.int (g i j) s.toks) {s with toks:=s.toks+1}→wpAny (model X.prog X.w) X.A (f (.int i t) (.int j u)) Q E s):
  OpR X f (rI C fun i j=> .int (g i j)):=by
 intro pins s σ H x y v u Q I rx ry h;obtain⟨i,j,rfl,rfl,hc,q⟩:=h;obtain⟨t,rfl⟩:=rx;obtain⟨t',rfl⟩:=ry;exact rule i j t t' s _ _ hc ⟨.int (g i j),H,I.tok _,⟨_,rfl⟩,q⟩
theorem ZlD{f:Value→Value→Sem Value}{g:Int→Int→Int}
  (rule:∀(i j:Int)(t u:Tok)(s:Shared)(Q:Value→Shared→Prop)(E:Value→Shared→Prop),Q (.int (g i j) s.toks) {s with toks:=s.toks+1}→wpAny (model X.prog X.w) X.A (f (.int i t) (.int j u)) Q E s):
  OpR X f (rI0 fun i j=> .int (g i j)):=by
 intro pins s σ H x y v u Q I rx ry h;obtain⟨i,j,rfl,rfl,q⟩:=h;obtain⟨t,rfl⟩:=rx;obtain⟨t',rfl⟩:=ry;exact rule i j t t' s _ _ ⟨.int (g i j),H,I.tok _,⟨_,rfl⟩,q⟩
theorem ZgZ{f:Value→Value→Sem Value}{g:Int→Int→Bool}
  (rule:∀(i j:Int)(t u:Tok)(s:Shared)(Q:Value→Shared→Prop)(E:Value→Shared→Prop),Q (.bool (g i j)) s→wpAny (model X.prog X.w) X.A (f (.int i t) (.int j u)) Q E s):
  OpR X f (rI0 fun i j=> .bl (g i j)):=by
 intro pins s σ H x y v u Q I rx ry h;obtain⟨i,j,rfl,rfl,q⟩:=h;obtain⟨t,rfl⟩:=rx;obtain⟨t',rfl⟩:=ry;exact rule i j t t' s _ _ ⟨.bl (g i j),H,I,rfl,q⟩
def Zhc(i j:Int):Prop:=(-(2 ^ 64)<i∧i<2 ^ 64)∨(-(2 ^ 64)<j∧j<2 ^ 64)
theorem Zhc.ok{i j:Int}(h:Zhc i j):IntMulOk i j:=by
 rcases h with⟨h1,h2⟩|⟨h1,h2⟩
 ·exact .of_left (intBits_le_64 h1 h2)
 ·exact .of_right (intBits_le_64 h1 h2)
theorem Zla:OpR X (binaryOp .Add) (rI0 fun i j=> .int (i+j)):=ZlD fun _ _ _ _ _ _ _ q=>add_int q
theorem V4:OpR X (binaryOp .Sub) (rI0 fun i j=> .int (i-j)):=ZlD fun _ _ _ _ _ _ _ q=>sub_int q
theorem Yi:OpR X (binaryOp .Mod) (rI (fun _ j=>0<j) fun i j=> .int (i % j)):=opI fun i j _ _ _ _ _ hc q=>by
 have h1:(0:Int)<j:=hc;exact mod_int' (by omega) (by rw[Int.fmod_eq_emod_of_nonneg i (by omega)];exact q)
end
noncomputable def ZkR:V→V→Bool
 | .non,.non=>true| .non,.int _=>true| .int _,.non=>true| .non,.bl _=>true| .bl _,.non=>true| .non,.str _=>true| .str _,.non=>true
 | .int _,.int _=>true| .bl _,.bl _=>true| .str _,.str _=>true| .byt _,.byt _=>true
 | .int _,.str _=>true| .str _,.int _=>true| .bl _,.str _=>true| .str _,.bl _=>true
 |_,_=>false
noncomputable def rEq:R2:=fun x y H Q=>ZkR x y=true∧Q (.bl (decide (x=y))) H
noncomputable def rNe:R2:=fun x y H Q=>ZkR x y=true∧Q (.bl (!decide (x=y))) H
theorem ZgL{i j:Int}:decide (V.int i=V.int j)=(i==j):=by
 rw[Bool.eq_iff_iff];simp
theorem Zfz{i j:Bool}:decide (V.bl i=V.bl j)=(i==j):=by
 rw[Bool.eq_iff_iff];simp
theorem ZgH{i j:Str}:decide (V.str i=V.str j)=(i==j):=by
 rw[Bool.eq_iff_iff];simp
theorem Zgz{i j:Array UInt8}:decide (V.byt i=V.byt j)=(i.toList==j.toList):=by
 rw[Bool.eq_iff_iff];cases i;cases j;simp
section
variable {X:Cx}{a b c:Expr}{ta tb tc:TE}{pos:Pos}
theorem ZV{pins:List (Addr×Obj)}{σ:St}{H:Hp}{s:Shared}{Q:VK}{k k':Bool}(I:Inv X pins σ H s)(q:Q (.bl k) H)(e:k=k'):EP X pins σ Q (.bool k') s:=by
 subst e;exact⟨.bl k,H,I,rfl,q⟩
theorem Zmc:OpR X (compareOp .Eq) rEq:=by
 intro pins s σ H x y v u Q I rx ry h;obtain⟨hs,q⟩:=h;cases x with
 |non=>
  cases rx;cases y with
  |non=>cases ry;exact PySem.EqNone.eq_none_none (ZV I q (by simp))
  |bl j=>cases ry;exact PySem.EqNone.eq_none_bool (ZV I q (by simp))
  |int j=>obtain⟨t',rfl⟩:=ry;exact PySem.EqNone.eq_none_int (ZV I q (by simp))
  |str j=>obtain⟨t',rfl⟩:=ry;exact PySem.EqNone.eq_none_str (ZV I q (by simp))
  |_=>exact absurd (show false=true from hs) Bool.false_ne_true
 |bl i=>
  cases rx;cases y with
  |non=>cases ry;exact PySem.EqNone.eq_bool_none (ZV I q (by simp))
  |bl j=>cases ry;exact eq_bool (ZV I q Zfz)
  |str j=>obtain⟨t',rfl⟩:=ry;exact PySem.EqMixed.eq_bool_str (ZV I q (by simp))
  |_=>exact absurd (show false=true from hs) Bool.false_ne_true
 |int i=>
  obtain⟨t,rfl⟩:=rx;cases y with
  |non=>cases ry;exact PySem.EqNone.eq_int_none (ZV I q (by simp))
  |int j=>obtain⟨t',rfl⟩:=ry;exact eq_int (ZV I q ZgL)
  |str j=>obtain⟨t',rfl⟩:=ry;exact PySem.EqMixed.eq_int_str (ZV I q (by simp))
  |_=>exact absurd (show false=true from hs) Bool.false_ne_true
 |str i=>
  obtain⟨t,rfl⟩:=rx;cases y with
  |non=>cases ry;exact PySem.EqNone.eq_str_none (ZV I q (by simp))
  |bl j=>cases ry;exact PySem.EqMixed.eq_str_bool (ZV I q (by simp))
  |int j=>obtain⟨t',rfl⟩:=ry;exact PySem.EqMixed.eq_str_int (ZV I q (by simp))
  |str j=>obtain⟨t',rfl⟩:=ry;exact eq_str (ZV I q ZgH)
  |_=>exact absurd (show false=true from hs) Bool.false_ne_true
 |byt i=>
  obtain⟨t,rfl⟩:=rx;cases y with
  |byt j=>obtain⟨t',rfl⟩:=ry;exact PySem.W.eq_bytes (ZV I q Zgz)
  |_=>exact absurd (show false=true from hs) Bool.false_ne_true
 |_=>cases y<;>exact absurd (show false=true from hs) Bool.false_ne_true
theorem Zmk:OpR X (compareOp .NotEq) rNe:=by
 intro pins s σ H x y v u Q I rx ry h;obtain⟨hs,q⟩:=h;cases x with
 |non=>
  cases rx;cases y with
  |non=>cases ry;exact PySem.EqNone.ne_none_none (ZV I q (by simp))
  |bl j=>cases ry;exact PySem.EqNone.ne_none_bool (ZV I q (by simp))
  |int j=>obtain⟨t',rfl⟩:=ry;exact PySem.EqNone.ne_none_int (ZV I q (by simp))
  |str j=>obtain⟨t',rfl⟩:=ry;exact PySem.EqNone.ne_none_str (ZV I q (by simp))
  |_=>exact absurd (show false=true from hs) Bool.false_ne_true
 |bl i=>
  cases rx;cases y with
  |non=>cases ry;exact PySem.EqNone.ne_bool_none (ZV I q (by simp))
  |bl j=>cases ry;exact ne_bool (ZV I q (congrArg not Zfz))
  |str j=>obtain⟨t',rfl⟩:=ry;exact PySem.EqMixed.ne_bool_str (ZV I q (by simp))
  |_=>exact absurd (show false=true from hs) Bool.false_ne_true
 |int i=>
  obtain⟨t,rfl⟩:=rx;cases y with
  |non=>cases ry;exact PySem.EqNone.ne_int_none (ZV I q (by simp))
  |int j=>obtain⟨t',rfl⟩:=ry;exact ne_int (ZV I q (congrArg not ZgL))
  |str j=>obtain⟨t',rfl⟩:=ry;exact PySem.EqMixed.ne_int_str (ZV I q (by simp))
  |_=>exact absurd (show false=true from hs) Bool.false_ne_true
 |str i=>
  obtain⟨t,rfl⟩:=rx;cases y with
  |non=>cases ry;exact PySem.EqNone.ne_str_none (ZV I q (by simp))
  |bl j=>cases ry;exact PySem.EqMixed.ne_str_bool (ZV I q (by simp))
  |int j=>obtain⟨t',rfl⟩:=ry;exact PySem.EqMixed.ne_str_int (ZV I q (by simp))
  |str j=>obtain⟨t',rfl⟩:=ry;exact ne_str (ZV I q (congrArg not ZgH))
  |_=>exact absurd (show false=true from hs) Bool.false_ne_true
 |byt i=>
  obtain⟨t,rfl⟩:=rx;cases y with
  |byt j=>obtain⟨t',rfl⟩:=ry;exact PySem.W.ne_bytes (ZV I q (congrArg not Zgz))
  |_=>exact absurd (show false=true from hs) Bool.false_ne_true
 |_=>cases y<;>exact absurd (show false=true from hs) Bool.false_ne_true
theorem Up:OpR X (compareOp .Lt) (rI0 fun i j=> .bl (decide (i<j))):=ZgZ fun _ _ _ _ _ _ _ q=>lt_int q
theorem Zmq:OpR X (compareOp .LtE) (rI0 fun i j=> .bl (decide (i≤j))):=ZgZ fun _ _ _ _ _ _ _ q=>le_int q
theorem ZeO:OpR X (compareOp .Gt) (rI0 fun i j=> .bl (decide (j<i))):=ZgZ fun _ _ _ _ _ _ _ q=>gt_int q
theorem Zcg:OpR X (compareOp .GtE) (rI0 fun i j=> .bl (decide (j≤i))):=ZgZ fun _ _ _ _ _ _ _ q=>ge_int q
theorem ZdD:OpR X (compareOp .Is) (fun x y H Q=>y= .non∧Q (.bl (decide (x= .non))) H):=by
 intro pins s σ H x y v u Q I rx ry h;obtain⟨rfl,q⟩:=h;cases ry;refine is_none_gen (ZV I q ?_);cases x<;>first
  |(cases rx;rfl)
  |(obtain⟨t,rfl⟩:=rx;rfl)
theorem ZkG:OpR X (compareOp .IsNot) (fun x y H Q=>y= .non∧Q (.bl (!decide (x= .non))) H):=by
 intro pins s σ H x y v u Q I rx ry h;obtain⟨rfl,q⟩:=h;cases ry;refine isnot_none_gen (ZV I q ?_);cases x<;>first
  |(cases rx;rfl)
  |(obtain⟨t,rfl⟩:=rx;rfl)
theorem OpR.or{f:Value→Value→Sem Value}{r r':R2}(h:OpR X f r)(h':OpR X f r'):OpR X f (fun x y H Q=>r x y H Q∨r' x y H Q):=by
 intro pins s σ H x y v u Q I rx ry q;rcases q with q|q
 ·exact h pins s σ H x y v u Q I rx ry q
 ·exact h' pins s σ H x y v u Q I rx ry q
theorem ZI(b:Expr){op:CmpOp}(h:op≠ .In:=by decide)(h2:op≠ .NotIn:=by decide):behindInMarks op b=false:=by
 have e1:(op==CmpOp.In)=false:=by cases op<;>first|rfl|exact absurd rfl h
 have e2:(op==CmpOp.NotIn)=false:=by cases op<;>first|rfl|exact absurd rfl h2
 cases b<;>simp[behindInMarks,e1,e2]
theorem VG{op:CmpOp}{r:R2}(ho:OpR X (compareOp op) r)(ha:PE X a ta)(hb:PE X b tb)(hm:behindInMarks op b=false):PE X (.Compare a [op] [b] pos) (tOp r ta tb):=by
 intro pins s σ H Q I h;exact wpAny_Compare1 (Zjy ha hb I h fun v u s2 x y H2 I2 rx ry q=>ho pins s2 σ H2 x y v u Q I2 rx ry q) hm
noncomputable def Zhj (t:TE):TT:=fun σ H Q=>t σ H fun x H'=>∃k,x= .bl k∧Q k H'
theorem ZC{op:CmpOp}{r:R2}(ho:OpR X (compareOp op) r)(ha:PE X a ta)(hb:PE X b tb)(hm:behindInMarks op b=false):PT X (.Compare a [op] [b] pos) (Zhj (tOp r ta tb)):=by
 intro pins s σ H Q I h;refine wpAny_isTrue_Compare1 (thn (ha pins s σ H _ I h) fun v s1 ⟨x,H1,I1,r1,q1⟩=>thn (hb pins s1 σ H1 _ I1 q1) fun u s2 ⟨y,H2,I2,r2,q2⟩=>
  thn (ho pins s2 σ H2 x y v u _ I2 r1 r2 q2) fun c s3 ⟨z,H3,I3,r3,k,e,q3⟩=>?_) hm
 subst e;cases r3;exact wpAny_truthy_bool ⟨H3,I3,q3⟩
noncomputable def ZfK (r r':R2) (ta tb tc:TE):TE:=fun σ H Q=>ta σ H fun x H1=>tb σ H1 fun y H2=>r x y H2 fun z H3=>∃k,z= .bl k∧
 (if k=true then tc σ H3 fun w' H4=>r' y w' H4 Q else Q (.bl false) H3)
theorem Zjv{op op':CmpOp}{r r':R2}(ho:OpR X (compareOp op) r)(ho':OpR X (compareOp op') r')(ha:PE X a ta)(hb:PE X b tb)(hc:PE X c tc)
  (hm:lastMarks [op,op'] [b,c]=false:=by with_unfolding_all rfl):PE X (.Compare a [op,op'] [b,c] pos) (ZfK r r' ta tb tc):=by
 intro pins s σ H Q I h;refine Compare_chain (thn (ha pins s σ H _ I h) fun v s1 ⟨x,H1,I1,r1,q1⟩=>chain_link (thn (hb pins s1 σ H1 _ I1 q1) fun u s2 ⟨y,H2,I2,r2,q2⟩=>
  thn (ho pins s2 σ H2 x y v u _ I2 r1 r2 q2) fun d s3 ⟨z,H3,I3,r3,k,e,q3⟩=>?_)) hm
 subst e;cases r3;refine wpAny_truthy_bool ?_;cases k with
 |false=>exact ite_ff ⟨.bl false,H3,I3,rfl,q3⟩
 |true=>exact ite_tt (chain_last (thn (hc pins s3 σ H3 _ I3 q3) fun w' s4 ⟨z',H4,I4,r4,q4⟩=>ho' pins s4 σ H4 y z' u w' Q I4 r2 r4 q4))
theorem Zjw{op op':CmpOp}{r r':R2}(ho:OpR X (compareOp op) r)(ho':OpR X (compareOp op') r')(ha:PE X a ta)(hb:PE X b tb)(hc:PE X c tc)
  (hm:lastMarks [op,op'] [b,c]=false:=by with_unfolding_all rfl):PT X (.Compare a [op,op'] [b,c] pos) (Zhj (ZfK r r' ta tb tc)):=by
 intro pins s σ H Q I h;refine isTrue_chain (thn (ha pins s σ H _ I h) fun v s1 ⟨x,H1,I1,r1,q1⟩=>test_link (thn (hb pins s1 σ H1 _ I1 q1) fun u s2 ⟨y,H2,I2,r2,q2⟩=>
  thn (ho pins s2 σ H2 x y v u _ I2 r1 r2 q2) fun d s3 ⟨z,H3,I3,r3,k,e,q3⟩=>?_)) hm
 subst e;cases r3;refine wpAny_truthy_bool ?_;cases k with
 |false=>
  obtain⟨k',e',q'⟩:=q3;cases e';exact ite_ff ⟨H3,I3,q'⟩
 |true=>
  refine ite_tt (test_last (thn (hc pins s3 σ H3 _ I3 q3) fun w' s4 ⟨z',H4,I4,r4,q4⟩=>thn (ho' pins s4 σ H4 y z' u w' _ I4 r2 r4 q4) fun d' s5 ⟨z2,H5,I5,r5,k2,e2,q5⟩=>?_));subst e2;cases r5;exact wpAny_truthy_bool ⟨H5,I5,q5⟩
def ZfP(K:PySem.W.Frag)(x:V)(H:Hp)(k:Bool):Prop:=
 match x with
 | .non=>k=false
 | .bl b=>k=b
 | .int i=>k=(i != 0)
 | .str y=>y.length≤sizeLine∧k=((y.length:Int) != 0)
 | .byt y=>y.size≤sizeLine∧k=((y.size:Int) != 0)
 | .ref p=>(∃xs,SqL K H p xs∧k= !xs.isEmpty)∨(∃xs,SqT K H p xs∧k= !xs.isEmpty)∨∃kvs,H p=some (.dK kvs)∧k= !kvs.isEmpty
 |_=>False
theorem Zhf{κ:Type}{kvs:List (κ×V)}{vs:List (κ×Value)}(r:KV kvs vs):(!vs.isEmpty)= !kvs.isEmpty:=by
 cases r<;>rfl
theorem ZdG{xs:List V}{its:List Value}(r:ZD xs its):(!its.toArray.isEmpty)= !xs.isEmpty:=by
 cases r<;>simp
theorem V1:(sizeLine:Nat)<2 ^ 63:=by rw[sizeLine_eq];decide
theorem Zk5:ZmF X (fun x H Q=>∃k,ZfP X.K x H k∧Q k H):=by
 intro pins s σ H x v Q I rx h;obtain⟨k,e,q⟩:=h;have hl:=V1;have hs:sizeLine=16777216:=sizeLine_eq;cases x with
 |non=>
  cases rx;have e':k=false:=e;subst e';exact truthy_none ⟨H,I,q⟩
 |bl b=>
  cases rx;have e':k=b:=e;subst e';exact wpAny_truthy_bool ⟨H,I,q⟩
 |int i=>
  obtain⟨t,rfl⟩:=rx;have e':k=(i != 0):=e;subst e';exact PySem.P.truthy_int ⟨H,I,q⟩
 |str y=>
  obtain⟨t,rfl⟩:=rx;obtain⟨hy,e'⟩:y.length≤sizeLine∧k=((y.length:Int) != 0):=e;subst e';exact PySem.P.truthy_str (by omega) ⟨H,I.tok _,q⟩
 |byt y=>
  obtain⟨t,rfl⟩:=rx;obtain⟨hy,e'⟩:y.size≤sizeLine∧k=((y.size:Int) != 0):=e;subst e';exact PySem.W.truthy_bytes (by omega) ⟨H,I.tok _,q⟩
 |ref p=>
  cases rx;have e':(∃xs,SqL X.K H p xs∧k= !xs.isEmpty)∨(∃xs,SqT X.K H p xs∧k= !xs.isEmpty)∨∃kvs,H p=some (.dK kvs)∧k= !kvs.isEmpty:=e;rcases e' with⟨xs,hx,e'⟩|⟨xs,hx,e'⟩|⟨kvs,hx,e'⟩
  ·subst e';obtain⟨its,r,pl,hz⟩:=I.list hx;have hlen:=r.length;exact wpAny_truthy_list pl.isList (by simp only[List.size_toArray];omega) ⟨H,I.tok _,by rw[ZdG r];exact q⟩
  ·subst e';obtain⟨its,r,pl,hz⟩:=I.tuple hx;have hlen:=r.length;exact truthy_tuple pl (by simp only[List.size_toArray];omega) ⟨H,I.tok _,by rw[ZdG r];exact q⟩
  ·subst e';obtain⟨hz,hS,vs,r,m⟩:kvs.length≤sizeLine∧(p==sysModules)=false∧∃vs,KV kvs vs∧s.heap.DictOf (ZP X.prog X.w) p vs:=I.hok p _ hx;have hlen:kvs.length=vs.length:=Paired.length r;exact wpAny_truthy_dict hS m (by omega) ⟨H,I.tok _,by rw[Zhf r];exact q⟩
 |_=>exact(show False from e).elim
theorem ZiX(ha:PE X a ta)(he:∀whole,isTrue a X.env whole=(do let v←whole;standAt a.pos;holding [v] (truthy v))):
  PT X a (fun σ H Q=>ta σ H fun x H'=>∃k,ZfP X.K x H' k∧Q k H'):=by
 intro pins s σ H Q I h;exact isTrue_plain (thn (ha pins s σ H _ I h) fun v s1 ⟨x,H1,I1,r1,q1⟩=>Zk5 pins s1 σ H1 x v Q I1 r1 q1) (he _)
theorem ZhB:OpR X (binaryOp .Add) (fun x y H Q=>∃i j,x= .str i∧y= .str j∧i.length+j.length≤sizeLine∧Q (.str (i++j)) H):=by
 intro pins s σ H x y v u Q I rx ry h;obtain⟨i,j,rfl,rfl,hz,q⟩:=h;obtain⟨t,rfl⟩:=rx;obtain⟨t',rfl⟩:=ry;exact add_str (fun t' tk=>⟨.str (i++j),H,I.tok _,⟨_,rfl⟩,q⟩) hz
theorem WO{x:V}{us:List Value}(r:ZD [x] us):∃u,us=[u]∧ZF x u:=by
 cases r with
 |cons r1 r2=>cases r2;exact⟨_,rfl,r1⟩
def Zbe(K:PySem.W.Frag)(x:V)(H:Hp)(n:Nat):Prop:=
 match x with
 | .str y=>y.length≤sizeLine∧n=y.length
 | .byt y=>y.size≤sizeLine∧n=y.size
 | .ref p=>(∃xs,SqL K H p xs∧n=xs.length)∨∃xs,SqT K H p xs∧n=xs.length
 |_=>False
theorem ZiY:Wi X (.builtin "len") (fun xs H Q=>∃x n,xs=[x]∧Zbe X.K x H n∧Q (.int n) H):=by
 intro pins s σ H xs us Q I r h;obtain⟨x,n,rfl,e,q⟩:=h;obtain⟨u,rfl,rx⟩:=WO r;have hl:=V1;have hs:sizeLine=16777216:=sizeLine_eq;cases x with
 |str y=>
  obtain⟨t,rfl⟩:=rx;obtain⟨hy,e'⟩:y.length≤sizeLine∧n=y.length:=e;subst e';exact len_str (by omega) ⟨.int _,H,I.tok _,⟨_,rfl⟩,q⟩
 |byt y=>
  obtain⟨t,rfl⟩:=rx;obtain⟨hy,e'⟩:y.size≤sizeLine∧n=y.size:=e;subst e';exact PySem.W.len_bytes (by omega) ⟨.int _,H,I.tok _,⟨_,rfl⟩,q⟩
 |ref p=>
  cases rx;have e':(∃xs,SqL X.K H p xs∧n=xs.length)∨∃xs,SqT X.K H p xs∧n=xs.length:=e;rcases e' with⟨xs,hx,e'⟩|⟨xs,hx,e'⟩
  ·subst e';obtain⟨its,r',pl,hz⟩:=I.list hx;have hlen:=r'.length;exact Calls.call_len_list pl.isList (by simp only[List.size_toArray];omega) ⟨.int xs.length,H,I.tok _,⟨_,by simp only[List.size_toArray];rw[hlen]⟩,q⟩
  ·subst e';obtain⟨its,r',pl,hz⟩:=I.tuple hx;have hlen:=r'.length;exact len_tuple pl (by simp only[List.size_toArray];omega) ⟨.int xs.length,H,I.tok _,⟨_,by simp only[List.size_toArray];rw[hlen]⟩,q⟩
 |_=>exact(show False from e).elim
end
end L2
namespace L2
open PySem PySem.Spec PyProof.Rows
structure ZcW(h:Heap)(x dx C:Addr)(mA:Str→Option Value):Prop where
 obj:h.get? x=some (PySem.W.instObj C dx)
 ns:h.Ns1 dx mA
 ne:dx≠x
theorem ZiL{h:Heap}{dx:Addr}{mA:Str→Option Value}(n:h.Ns1 dx mA):∃od,h.get? dx=some od∧∀name,PySem.W.lookIn name od=some (mA name):=by
 obtain⟨o,es,ep,ho,hd,hk,_,hm⟩:=n;refine⟨o,ho,fun name=>?_⟩;have e:=hm name;unfold nsFind findBy at e;rw[←Array.find?_toList] at e;unfold PySem.W.lookIn;rw[hd];dsimp only
 split
 ·rename_i y q;rw[q] at e;exact congrArg some e
 ·rename_i q;rw[q] at e;have a:es.toList.any (·.refKey)=false:=by
   rw[List.any_eq_false];intro y hy;obtain⟨z,t,hkey⟩:=hk y (Array.mem_toList_iff.mp hy);simp[DictEntry.refKey,hkey]
  have a':¬es.toList.any (·.refKey)=true:=by rw[a];exact Bool.false_ne_true
  rw[if_neg a'];exact congrArg some e
theorem ZcW.look{h:Heap}{x dx C:Addr}{mA:Str→Option Value}(I:ZcW h x dx C mA):∃od,PySem.W.InstAt h x (PySem.W.instObj C dx) C (some od)∧∀name,PySem.W.lookIn name od=some (mA name):=
 let⟨od,ho,hl⟩:=ZiL I.ns
 ⟨od,⟨I.obj,rfl,rfl,ho⟩,hl⟩
section
variable {prog:Program}{w:World}{A:Around}{E:Value→Shared→Prop}{s:Shared}{K:PySem.W.Frag}{x dx C f:Addr}{mA:Str→Option Value}{name:Str}{v:Value}
theorem ZkA{expr:Bool}{Q:Value→Shared→Prop}(X:K.In s.heap)(I:ZcW s.heap x dx C mA)(hg:PySem.W.plainGet K C name=true)(hh:PySem.W.hasDictIn K C=true)
  (ha:PySem.W.findIn K (.ref C) name=some none) (hv:mA name=some v) (hv':PySem.W.handedIn v=true) (h:Q v {s with toks:=s.toks+1}):
  wpAny (model prog w) A (getAttr (.ref x) name expr) Q E s:=by
 obtain⟨od,J,hl⟩:=I.look;exact PySem.W.get_value X J (PySem.W.plainGet_of hg).1 (PySem.W.findObj_own hh ha rfl (by rw[hl,hv])) hv' h
theorem ZjI{pl:Sem Bool}{Q:Value×List Value→Shared→Prop}(X:K.In s.heap)(I:ZcW s.heap x dx C mA)(hg:PySem.W.plainGet K C name=true)
  (hf:PySem.W.findIn K (.ref C) name=some (some (.ref f))) (ht:PySem.W.isFn K (.ref f)=true) (hv:mA name=none) (h:Q (.ref f,[.ref x]) s):
  wpAny (model prog w) A (getMethod (.ref x) name pl) Q E s:=by
 obtain⟨od,J,hl⟩:=I.look;exact PySem.W.method_fn X J (PySem.W.plainGet_of hg).1 (PySem.W.plainGet_of hg).2 hf (beq_iff_eq.mp ht) (by show(PySem.W.lookIn name od).map (·.isSome)=some false;rw[hl,hv];rfl) h
theorem Zku{ns:List Str}{Q:Unit→Shared→Prop}(X:K.In s.heap)(I:ZcW s.heap x dx C mA)
  (hs:PySem.W.findIn K (.ref C) "__setattr__" =some (some (.builtin "object.__setattr__"))) (hp:PySem.W.plainOver K C=true) (ht:PySem.W.takerIn K C name=some none) (hh:PySem.W.hasDictIn K C=true)
  (hw:PySem.Within mA ns) (hsz:ns.length≤sizeLine)
  (h:∀h',ZcW h' x dx C (fun y=>if y=name then some v else mA y)→Heap.SameBut dx s.heap h'→Q () {s with heap:=h',toks:=s.toks+2}):
  wpAny (model prog w) A (setAttr (.ref x) name v) Q E s:=by
 obtain⟨od,J,hl⟩:=I.look;refine PySem.W.set_plain X J hs (PySem.W.osa_open (s:={s with toks:=s.toks+1}) (r:=none) X J hp ht fun b=>?_);obtain⟨cd,hc,hd'⟩:=PySem.W.any_some hh;have hx:s.heap.get? x=some ⟨.ref C,some dx,.plain,#[]⟩:=I.obj;refine wpAny_bind (wpAny_pure (wpAny_bind (wpAny_bind (wpAny_loadPart hx (wpAny_bind (PySem.W.Looks.here (s:={s with toks:=s.toks+1}) (PySem.W.looks_clsIn X hc) ?_))))));rw[hd'];refine wpAny_pure (a:=some dx) (wpAny_bind (wpAny_pure (wpAny_bind ?_)));refine wpAny_nsSet1 (s:={s with toks:=s.toks+1}) I.ns fun h' hn2 hs2=>?_;obtain⟨oD,esD,epD,hoD,hdD,hcD⟩:=hn2.count (PySem.Within.cons name v hw);refine wpAny_bind (wpAny_lookBehind hoD (by rw[hdD];exact pastItsLine_dict (Nat.le_trans hcD (by rw[List.length_cons];omega))) ?_);exact wpAny_pure (h _ ⟨(hs2.2 _ (Ne.symm I.ne)).trans I.obj,hn2,I.ne⟩ hs2)
theorem Zjb{R:Result→Shared→Prop}{vs:List Value}{kw:List (Str×Value)}(X:K.In s.heap)(hm:PySem.W.makesIn K C=true)
  (hi:PySem.W.findIn K (.ref C) "__init__" =some (some (.ref f))) (hf:PySem.W.typeIn K (.ref f)=some (.type "function"))
  (h:codeAny (model prog w) (A.under (.builtin "type.__call__" ⟨.ref C::vs,kw⟩)) (.call (.ref f) ⟨.ref (s.heap.objs.size+1)::vs,kw⟩) (PySem.W.InitBack (s.heap.objs.size+1) R)
   {s with heap:=(s.heap.push PySem.W.emptyDict).push (PySem.W.instObj C s.heap.objs.size)}):
  codeAny (model prog w) A (.call (.ref C) ⟨vs,kw⟩) R s:=by
 obtain⟨hh,g,d,t,os⟩:=s;exact PySem.W.make_core (PySem.W.makes_of X hm) (PySem.W.looks_findIn X hi) (fun self=>PySem.W.bind_fn X self hf) (.inl rfl) h
end
noncomputable def Y9 (f:Str) (v:V):List (Str×V)→List (Str×V)
 | []=>[(f,v)]
 |(g,x)::r=>if g=f then(g,v)::r else(g,x)::Y9 f v r
theorem Zcr(f g:Str)(v:V):∀fs:List (Str×V),(Y9 f v fs).lookup g=if g=f then some v else fs.lookup g
 | []=>by
  show List.lookup g [(f,v)]=_
  by_cases h:g=f
  ·have hb:(g==f)=true:=beq_iff_eq.mpr h;simp only[List.lookup,hb,if_pos h]
  ·have hb:(g==f)=false:=beq_eq_false_iff_ne.mpr h;simp only[List.lookup,hb,if_neg h]
 |(k,x)::r=>by
  have ih:=Zcr f g v r;rw[show Y9 f v ((k,x)::r)=(if k=f then(k,v)::r else(k,x)::Y9 f v r) from rfl]
  by_cases hk:k=f
  ·rw[if_pos hk]
   by_cases h:g=k
   ·have hb:(g==k)=true:=beq_iff_eq.mpr h;simp only[List.lookup,hb,if_pos (h.trans hk)]
   ·have hb:(g==k)=false:=beq_eq_false_iff_ne.mpr h;simp only[List.lookup,hb,if_neg (fun e:g=f=>h (e.trans hk.symm))]
  ·rw[if_neg hk]
   by_cases h:g=k
   ·have hb:(g==k)=true:=beq_iff_eq.mpr h;simp only[List.lookup,hb,if_neg (fun e:g=f=>hk (h.symm.trans e))]
   ·have hb:(g==k)=false:=beq_eq_false_iff_ne.mpr h;simp only[List.lookup,hb];exact ih
theorem ZbK(f:Str)(v:V):∀fs:List (Str×V),f∈(Y9 f v fs).map (·.1)∧∀g,g∈fs.map (·.1)→g∈(Y9 f v fs).map (·.1)
 | []=>⟨by simp[Y9],fun g h=>by simp at h⟩
 |(k,x)::r=>by
  obtain⟨i1,i2⟩:=ZbK f v r;rw[show Y9 f v ((k,x)::r)=(if k=f then(k,v)::r else(k,x)::Y9 f v r) from rfl]
  by_cases hk:k=f
  ·rw[if_pos hk];subst hk;exact⟨by simp,fun g h=>by simpa using h⟩
  ·rw[if_neg hk];refine⟨?_,fun g h=>?_⟩
   ·rw[List.map_cons];exact List.mem_cons_of_mem _ i1
   ·rw[List.map_cons] at h⊢;rcases List.mem_cons.mp h with e|e
    ·exact List.mem_cons.mpr (.inl e)
    ·exact List.mem_cons_of_mem _ (i2 g e)
theorem Zcz(f:Str)(v:V):∀fs:List (Str×V),(Y9 f v fs).length≤fs.length+1
 | []=>by simp[Y9]
 |(k,x)::r=>by
  have ih:=Zcz f v r;rw[show Y9 f v ((k,x)::r)=(if k=f then(k,v)::r else(k,x)::Y9 f v r) from rfl]
  by_cases hk:k=f
  ·rw[if_pos hk,List.length_cons,List.length_cons];omega
  ·rw[if_neg hk,List.length_cons,List.length_cons];omega
theorem WU.some_of{v:V}{o:Option Value}(r:WU (some v) o):∃u,o=some u∧ZF v u:=by
 cases o with
 |none=>exact(show False from r).elim
 |some u=>exact⟨u,rfl,r⟩
theorem WU.none_of{o:Option Value}(r:WU none o):o=none:=by
 cases o with
 |none=>rfl
 |some u=>exact(show False from r).elim
theorem ZiC{v:V}{u:Value}(r:ZF v u):PySem.W.handedIn u=true:=by
 cases v with
 |non=>cases (show u=Value.none from r);rfl
 |bl b=>cases (show u=Value.bool b from r);rfl
 |int i=>obtain⟨t,e⟩:=(show ∃t,u=Value.int i t from r);cases e;rfl
 |str x=>obtain⟨t,e⟩:=(show ∃t,u=Value.str x t from r);cases e;rfl
 |byt b=>obtain⟨t,e⟩:=(show ∃t,u=Value.bytes b t from r);cases e;rfl
 |flt b=>obtain⟨t,e⟩:=(show ∃t,u=Value.float b t from r);cases e;rfl
 |ref a=>cases (show u=Value.ref a from r);rfl
 |ty n=>cases (show u=Value.type n from r);rfl
section
variable {P:Program}{w:World}{H H':Hp}{h h':Heap}{a C dx:Addr}{fs fs':List (Str×V)}
theorem Zcd(hok:HOk P w H h)(e:H a=some (.ins C dx fs)):∃mA,ZcW h a dx C mA∧(∀f,WU (fs.lookup f) (mA f))∧PySem.Within mA (fs.map (·.1))∧fs.length≤1000∧H dx=some (.own a):=by
 obtain⟨d,z,ne,ob,mA,n,r,q⟩:=(show Z1 P w H h a (.ins C dx fs) from hok a _ e);exact⟨mA,⟨ob,n,ne⟩,r,q,z,d⟩
end
structure Cls(K:PySem.W.Frag)(C:Addr):Prop where
 pg:PySem.W.plainGet K C Str.empty=true
 hd:PySem.W.hasDictIn K C=true
 po:PySem.W.plainOver K C=true
 sa:PySem.W.findIn K (.ref C) "__setattr__" =some (some (.builtin "object.__setattr__"))
theorem Cls.get{K:PySem.W.Frag}{C:Addr}(c:Cls K C)(f:Str):PySem.W.plainGet K C f=true:=c.pg
def Wo(K:PySem.W.Frag)(C:Addr)(f:Str):Prop:=PySem.W.findIn K (.ref C) f=some none
theorem Wo.taker{K:PySem.W.Frag}{C:Addr}{f:Str}(n:Wo K C f):PySem.W.takerIn K C f=some none:=by
 unfold PySem.W.takerIn;rw[show PySem.W.findIn K (.ref C) f=some none from n]
 rfl
structure WI(K:PySem.W.Frag)(C:Addr)(m:Str)(f:Addr):Prop where
 at_:PySem.W.findIn K (.ref C) m=some (some (.ref f))
 fn:PySem.W.isFn K (.ref f)=true
 kp:PySem.W.keepIn K (.ref f)=true
section
variable {X:Cx}{pins:List (Addr×Obj)}{σ:St}{H:Hp}{s:Shared}{a C dx:Addr}{fs:List (Str×V)}{f:Str}{v:V}{A:Around}{E:Value→Shared→Prop}
theorem ZhG{b:Bool}{Q:Value→Shared→Prop}(I:Inv X pins σ H s)(e:H a=some (.ins C dx fs))(c:Cls X.K C)(n:Wo X.K C f)(l:fs.lookup f=some v)
  (h:∀u s',Inv X pins σ H s'→ZF v u→Q u s'):wpAny (model X.prog X.w) A (getAttr (.ref a) f b) Q E s:=by
 obtain⟨mA,O,r,_,_,_⟩:=Zcd I.hok e;obtain⟨u,hu,ru⟩:=WU.some_of (v:=v) (o:=mA f) (by rw[←l];exact r f);exact ZkA I.kIn O (c.get f) c.hd n hu (ZiC ru) (h u _ (I.tok _) ru)
theorem Za8{m:Str}{g:Addr}{pl:Sem Bool}{Q:Value×List Value→Shared→Prop}(I:Inv X pins σ H s)(e:H a=some (.ins C dx fs))(c:Cls X.K C)(k:WI X.K C m g)(l:fs.lookup m=none)
  (h:Q (.ref g,[.ref a]) s):wpAny (model X.prog X.w) A (getMethod (.ref a) m pl) Q E s:=by
 obtain⟨mA,O,r,_,_,_⟩:=Zcd I.hok e;have hn:mA m=none:=WU.none_of (by rw[←l];exact r m);exact ZjI I.kIn O (c.get m) k.at_ k.fn hn h
theorem ZgX{y:V}{u:Value}{Q:Unit→Shared→Prop}(I:Inv X pins σ H s)(e:H a=some (.ins C dx fs))(c:Cls X.K C)(n:Wo X.K C f)(hl:fs.length<1000)(ry:ZF y u)
  (h:∀s',Inv X pins σ (upd H a (.ins C dx (Y9 f y fs))) s'→Q () s'):wpAny (model X.prog X.w) A (setAttr (.ref a) f u) Q E s:=by
 obtain⟨mA,O,r,wi,_,ho⟩:=Zcd I.hok e;have hz:(fs.map (·.1)).length≤sizeLine:=by rw[List.length_map,sizeLine_eq];omega
 refine Zku I.kIn O c.sa c.po n.taker c.hd wi hz fun h' O' sb=>h _ ?_;have hd:∃o,h'.get? dx=some o:=let⟨o,_,_,e',_⟩:=O'.ns;⟨o,e'⟩
 refine I.write (x:=a) (e:=dx) (by rw[e];exact True.intro) (.inr ho) (fun b q hb z=>(sb.2 b hb).trans z) hd ?_;refine⟨by rw[Zg O.ne];exact ho,?_,O.ne,O'.obj,_,O'.ns,fun g=>?_,fun g hg=>?_⟩
 ·have:=Zcz f y fs;omega
 ·show WU ((Y9 f y fs).lookup g) (if g=f then some u else mA g);rw[Zcr]
  by_cases q:g=f
  ·rw[if_pos q,if_pos q];exact ry
  ·rw[if_neg q,if_neg q];exact r g
 ·by_cases q:g=f
  ·rw[q];exact(ZbK f y fs).1
  ·refine(ZbK f y fs).2 g (wi g fun z=>hg ?_);show(if g=f then some u else mA g)=none;rw[if_neg q];exact z
theorem Inv.made(I:Inv X pins σ H s):Inv X pins σ (upd (upd H s.heap.objs.size (.own (s.heap.objs.size+1))) (s.heap.objs.size+1) (.ins C s.heap.objs.size []))
  {s with heap:=(s.heap.push PySem.W.emptyDict).push (PySem.W.instObj C s.heap.objs.size)}:=by
 have e1:(s.heap.push PySem.W.emptyDict).get? s.heap.objs.size=some PySem.W.emptyDict:=Heap.get?_push_size s.heap rfl;have e2:((s.heap.push PySem.W.emptyDict).push (PySem.W.instObj C s.heap.objs.size)).get? (s.heap.objs.size+1)=some (PySem.W.instObj C s.heap.objs.size):=by
  have:=Heap.get?_push_size (s.heap.push PySem.W.emptyDict) (o:=PySem.W.instObj C s.heap.objs.size) rfl
  rwa [Heap.size_push] at this
 have e3:(s.heap.push PySem.W.emptyDict).Ns s.heap.objs.size (fun _=>none):=⟨PySem.W.emptyDict,#[],_,e1,rfl,(fun e he=>absurd he (by simp)),fun _=>rfl⟩;have I1:=I.laid (a:=s.heap.objs.size) (o:= .own (s.heap.objs.size+1)) (h':=s.heap.push PySem.W.emptyDict) (t':=s.toks) (fun b u q=>Heap.get?_push_of_some _ q) (Nat.le_refl _) ⟨_,e1⟩;refine I1.laid (a:=s.heap.objs.size+1) (o:= .ins C s.heap.objs.size []) (t':=s.toks) (fun b u q=>Heap.get?_push_of_some _ q) (Nat.le_of_eq (Heap.size_push _ _)) ?_;have ne:s.heap.objs.size≠s.heap.objs.size+1:=Nat.ne_of_lt (Nat.lt_succ_self _);refine⟨by rw[Zg ne,Zd],Nat.zero_le _,ne,e2,fun _=>none,(Heap.Ns1.of_empty e3).at fun o q=>Heap.get?_push_of_some _ q,fun _=>True.intro,fun y hy=>absurd rfl hy⟩
theorem Zkq{prog:Program}{w:World}{env:Env}{e:Expr}{f:Str}{pos:Pos}{s:Shared}{Q:Value→Shared→Prop}(hb:attributeBase e f env (eval e env)=eval e env)
  (h:wpAny (model prog w) A (eval e env) (fun o s₁=>wpAny (model prog w) A (getAttr o f true) Q E s₁) E s):wpAny (model prog w) A (eval (.Attribute e f pos) env) Q E s:=
 Attribute_any_ h (by rw[arm_eval_Attribute,hb])
end
noncomputable def Zjm (K:PySem.W.Frag) (ta:TE) (f:Str):TE:=fun σ H Q=>ta σ H fun x H1=>∃a C dx fs v,x= .ref a∧H1 a=some (.ins C dx fs)∧Cls K C∧Wo K C f∧fs.lookup f=some v∧Q v H1
noncomputable def ZjH (K:PySem.W.Frag) (ta tv:TE) (f:Str):TS:=fun D σ H=>tv σ H fun y H1=>ta σ H1 fun x H2=>∃a C dx fs,x= .ref a∧H2 a=some (.ins C dx fs)∧Cls K C∧Wo K C f∧fs.length<1000∧
 D.nx σ (upd H2 a (.ins C dx (Y9 f y fs)))
section
variable {X:Cx}{o e value:Expr}{f:Str}{pos pos' tpos:Pos}{ta tv:TE}
theorem ZlG(he:PE X e ta)(hb:attributeBase e f X.env (eval e X.env)=eval e X.env):PE X (.Attribute e f pos) (Zjm X.K ta f):=by
 intro pins s σ H Q I h;refine Zkq hb (thn (he pins s σ H _ I h) fun u s1 ⟨x,H1,I1,rx,a,C,dx,fs,v,ex,ea,c,n,l,q⟩=>?_);subst ex;obtain rfl:u=Value.ref a:=rx;exact ZhG I1 ea c n l fun u' s2 I2 ru=>⟨v,H1,I2,ru,q⟩
theorem ZlA(ha:PE X o ta)(hv:PE X value tv)(hs:swapsWith value (some (.Attribute o f pos')) pos.line X.env=pure false):PS X (.Assign [.Attribute o f pos'] value pos) (ZjH X.K ta tv f):=by
 intro pins s σ H D I h;refine plainObj_wpAny_Assign_Attribute (thn (hv pins s σ H _ I h) fun u s1 ⟨y,H1,I1,ry,q⟩=>thn (ha pins s1 σ H1 _ I1 q) fun ov s2 ⟨x,H2,I2,rx,a,C,dx,fs,ex,ea,c,n,l,q2⟩=>?_) hs;subst ex;obtain rfl:ov=Value.ref a:=rx;exact ZgX I2 ea c n l ry fun s3 I3=>⟨σ,_,I3,q2⟩
theorem ZlV{pl:Sem Bool}{m:Str}{apos:Pos}{args:List Expr}{pins:List (Addr×Obj)}{s:Shared}{σ:St}{H:Hp}{Q:Value→Shared→Prop}{te:TE}(he:PE X e te)(I:Inv X pins σ H s)
  (h:te σ H fun x H1=>∃a C dx fs g,x= .ref a∧H1 a=some (.ins C dx fs)∧Cls X.K C∧WI X.K C m g∧fs.lookup m=none∧
   ∀s1,Inv X pins σ H1 s1→wpAny (model X.prog X.w) X.A (callWith pos (.ref g) [.ref a] (backTo pos (starEach args X.env)) (backToKw pos (keywordEach [] X.env))) Q X.xe s1)
  (ht:eval (.Call (.Attribute e m apos) args [] pos) X.env=(do
   let ov←eval e X.env
   standAt apos.atName
   let(f,first)←holding [ov] (getMethod ov m pl)
   callWith pos f first (backTo pos (starEach args X.env)) (backToKw pos (keywordEach [] X.env)))):
  wpAny (model X.prog X.w) X.A (eval (.Call (.Attribute e m apos) args [] pos) X.env) Q X.xe s:=by
 refine PySem.W.methodCall_KW (pl:=pl) (thn (he pins s σ H _ I h) fun u s1 ⟨x,H1,I1,rx,a,C,dx,fs,g,ex,ea,c,k,l,q⟩=>?_) ht;subst ex;obtain rfl:u=Value.ref a:=rx;exact Za8 I1 ea c k l (q s1 I1)
end
section
variable {X:Cx}{pins:List (Addr×Obj)}{σ:St}{H:Hp}{s:Shared}{A:Around}{E:Value→Shared→Prop}{Q:Value→Shared→Prop}{c:Value}{b:Bool}
inductive Wr(K:PySem.W.Frag)(H:Hp):V→Value→Prop where
 |non:Wr K H .non (.type "NoneType")
 |bl (x:Bool):Wr K H (.bl x) (.type "bool")
 |int (i:Int):Wr K H (.int i) (.type "int")
 |str (x:Str):Wr K H (.str x) (.type "str")
 |flt (x:UInt64):Wr K H (.flt x) (.type "float")
 |lst {a:Addr} {xs:List V} (e:H a=some (.lst xs)):Wr K H (.ref a) (.type "list")
 |frz {a:Addr} {o:Obj} {xs:List V} (e:H a=some (.frz o (.lst xs))):Wr K H (.ref a) (.type "list")
 |tup {a:Addr} {xs:List V} (e:H a=some (.tup xs)):Wr K H (.ref a) (.type "tuple")
 |dK {a:Addr} {kvs:List (Key×V)} (e:H a=some (.dK kvs)):Wr K H (.ref a) (.type "dict")
 |dT {a:Addr} {kvs:List (List Key×V)} (e:H a=some (.dT kvs)):Wr K H (.ref a) (.type "dict")
 |ins {a C dx:Addr} {fs:List (Str×V)} (e:H a=some (.ins C dx fs)) (cl:Cls K C) (ha:PySem.W.findIn K (.ref C) "__class__" =some (some (.builtin "object.__class__")))
   (hn:PySem.W.specialIn K (.builtin "object.__class__") "__get__" =some (some (.builtin "getset_descriptor.__get__"))) (htk:PySem.W.takesIn K (.builtin "object.__class__")=some true)
   (hm:PySem.W.mroIn K C (.type "object")=some true):Wr K H (.ref a) (.ref C)
theorem ZiB{x:V}{u t:Value}(I:Inv X pins σ H s)(rx:ZF x u)(ty:Wr X.K H x t)(e:PySem.W.kitOne X.K t c=some b)(h:∀tk,Q (.bool b) {s with toks:=tk}):
  wpAny (model X.prog X.w) A (call (.builtin "isinstance") [u,c]) Q E s:=by
 cases ty with
 |non=>cases (show u=Value.none from rx);exact PySem.W.kia_one PySem.W.kitx_none I.kIn True.intro e (fun z=>nomatch z) h
 |bl y=>cases (show u=Value.bool y from rx);exact PySem.W.kia_one PySem.W.kitx_bool I.kIn True.intro e (fun z=>nomatch z) h
 |int i=>obtain⟨t,q⟩:=(show ∃t,u=Value.int i t from rx);cases q;exact PySem.W.kia_one PySem.W.kitx_int I.kIn True.intro e (fun z=>nomatch z) h
 |str y=>obtain⟨t,q⟩:=(show ∃t,u=Value.str y t from rx);cases q;exact PySem.W.kia_one PySem.W.kitx_str I.kIn True.intro e (fun z=>nomatch z) h
 |flt y=>obtain⟨t,q⟩:=(show ∃t,u=Value.float y t from rx);cases q;exact PySem.W.kia_one PySem.W.kitx_float I.kIn True.intro e (fun z=>nomatch z) h
 | @lst a xs ea=>
  cases (show u=Value.ref a from rx);obtain⟨_,_,n,_,h1⟩:=(show Z1 X.prog X.w H s.heap a (.lst xs) from I.hok a _ ea);exact PySem.W.kia_one PySem.W.kitx_list I.kIn ⟨_,h1,rfl⟩ e (fun z=>nomatch z) h
 | @frz a ob xs ea=>
  cases (show u=Value.ref a from rx);obtain⟨_,_,_,n,_,h1⟩:=(show Z1 X.prog X.w H s.heap a (.frz ob (.lst xs)) from I.hok a _ ea);exact PySem.W.kia_one PySem.W.kitx_list I.kIn ⟨_,h1,rfl⟩ e (fun z=>nomatch z) h
 | @tup a xs ea=>
  cases (show u=Value.ref a from rx);obtain⟨_,_,_,p⟩:=(show Z1 X.prog X.w H s.heap a (.tup xs) from I.hok a _ ea);obtain⟨o,h1,h2,_⟩:=p;exact PySem.W.kia_one PySem.W.kitx_tuple I.kIn ⟨o,h1,h2⟩ e (fun z=>nomatch z) h
 | @dK a kvs ea=>
  cases (show u=Value.ref a from rx);obtain⟨_,_,vs,_,p⟩:=(show Z1 X.prog X.w H s.heap a (.dK kvs) from I.hok a _ ea);obtain⟨o,es,ep,h1,h2,_⟩:=p;exact PySem.W.kia_one PySem.W.kitx_dict I.kIn ⟨o,h1,h2.1⟩ e (fun z=>nomatch z) h
 | @dT a kvs ea=>
  cases (show u=Value.ref a from rx);obtain⟨_,_,xs,_,o,es,ep,h1,h2,_⟩:=(show Z1 X.prog X.w H s.heap a (.dT kvs) from I.hok a _ ea);exact PySem.W.kia_one PySem.W.kitx_dict I.kIn ⟨o,h1,h2.1⟩ e (fun z=>nomatch z) h
 | @ins a C dx fs ea cl ha hn htk hm=>
  cases (show u=Value.ref a from rx);obtain⟨mA,O,_⟩:=Zcd I.hok ea;obtain⟨od,J,_⟩:=O.look;exact PySem.W.kia_one (PySem.W.kitx_own (cl.get _) cl.hd ha hn htk hm) I.kIn J e (fun z=>nomatch z) h
end
end L2
namespace L2
open PySem PySem.Spec PyProof.Rows
structure YN(k:Nat)(A:Around):Prop where
 hd:A.handled=none
 dp:A.depth+3*k+5<recursionLimit
 un:A.units+16*k+200<cLine
theorem YN.mono{j k:Nat}{A:Around}(r:YN k A)(h:j≤k):YN j A:=⟨r.hd,by have:=r.dp;omega,by have:=r.un;omega⟩
theorem YN.deeper{k:Nat}{A:Around}(r:YN (k+1) A)(env:Env):YN k (A.deeper env):=
 ⟨r.hd,by have:=r.dp;show A.depth+1+3*k+5<_;omega,by have:=r.un;show A.units+3+16*k+200<_;omega⟩
theorem ZgV{A:Around}{C:Addr}{us:List Value}{kw:List (Str×Value)}:(A.under (.builtin "type.__call__" ⟨.ref C::us,kw⟩)).depth=A.depth+1:=by
 first|rfl|simp[Around.under,Code.weight,Code.isCreation,Code.isGuard,Code.isCaller,Code.frames,Code.isFrame,guardIds]
theorem Zhd{A:Around}{C:Addr}{us:List Value}{kw:List (Str×Value)}:(A.under (.builtin "type.__call__" ⟨.ref C::us,kw⟩)).units=A.units+1:=by
 first|rfl|simp[Around.under,Code.cUnits,Code.frames,Code.isFrame]
theorem YN.make{k:Nat}{A:Around}(r:YN (k+1) A)(C:Addr)(us:List Value)(kw:List (Str×Value)):YN k (A.under (.builtin "type.__call__" ⟨.ref C::us,kw⟩)):=
 ⟨r.hd,by have:=r.dp;rw[ZgV];omega,by have:=r.un;rw[Zhd];omega⟩
theorem YN.depth{k:Nat}{A:Around}(r:YN k A):A.depth<recursionLimit:=by have:=r.dp;omega
theorem YN.units{k:Nat}{A:Around}(r:YN k A):A.units+64<cLine:=by have:=r.un;omega
noncomputable def tNil:TA:=fun _ H Q=>Q [] H
noncomputable def ZjZ (ta:TE) (tr:TA):TA:=fun σ H Q=>ta σ H fun x H1=>tr σ H1 fun xs H2=>Q (x::xs) H2
section
variable {X:Cx}{e:Expr}{es:List Expr}{te:TE}{t:TA}{pos:Pos}
theorem Zb:PA X [] tNil:=fun _ _ _ _ H Q I h=>Calls.spliced_nil ⟨[],H,I,.nil,h⟩
theorem Za(ha:PE X e te)(hr:PA X es t)(hs:starEach (e::es) X.env=(false,eval e X.env)::starEach es X.env:=by rfl):PA X (e::es) (ZjZ te t):=by
 intro pos pins s σ H Q I h;rw[hs];show wpAny _ _ (spliced ((false,eval e X.env)::backTo pos (starEach es X.env))) _ _ s;refine Calls.spliced_cons (thn (ha pins s σ H _ I h) fun u s1 ⟨x,H1,I1,r1,q1⟩=>?_);exact thn (hr pos pins s1 σ H1 _ I1 q1) fun us s2 ⟨xs,H2,I2,r2,q2⟩=>⟨x::xs,H2,I2,.cons r1 r2,q2⟩
noncomputable def Zk3 (t:TA):TE:=fun σ H Q=>t σ H fun xs H1=>xs.length≤sizeLine∧∀p,H1 p=none→Q (.ref p) (upd H1 p (.tup xs))
noncomputable def ZjE (t:TA):TE:=fun σ H Q=>t σ H fun xs H1=>xs.length≤sizeLine∧∀p,H1 p=none→Q (.ref p) (upd H1 p (.lst xs))
theorem YT{x1}(h:PA X es t):PE X (.Tuple es x1 pos) (Zk3 t):=by
 intro pins s σ H Q I hq;refine wpAny_Tuple_spliced (thn (h pos pins s σ H _ I hq) fun us s1 ⟨xs,H1,I1,r,z,q⟩=>⟨by rw[←r.length];exact z,?_⟩);have hf:H1 s1.heap.objs.size=none:=I1.hok.fresh (Nat.le_refl _);refine⟨.ref s1.heap.objs.size,upd H1 s1.heap.objs.size (.tup xs),I1.laid (t':=s1.toks) (fun b u e=>Heap.get?_push_of_some _ e) (Nat.le_refl _) ?_,rfl,q _ hf⟩;exact⟨z,us,r,⟨_,Heap.get?_push_size _ rfl,rfl,_,rfl⟩⟩
theorem Wc(h:PA X es t):PE X (.List es pos) (ZjE t):=by
 intro pins s σ H Q I hq;refine wpAny_List_spliced (thn (h pos pins s σ H _ I hq) fun us s1 ⟨xs,H1,I1,r,z,q⟩=>⟨by rw[←r.length];exact z,?_⟩);have hf:H1 s1.heap.objs.size=none:=I1.hok.fresh (Nat.le_refl _);refine⟨.ref s1.heap.objs.size,upd H1 s1.heap.objs.size (.lst xs),I1.laid (t':=s1.toks) (fun b u e=>Heap.get?_push_of_some _ e) (Nat.le_refl _) ?_,rfl,q _ hf⟩;exact⟨z,us,0,r,Heap.get?_push_size _ rfl⟩
end
noncomputable abbrev Sp:=List V→Hp→VK→XK→Prop
noncomputable abbrev CXT:=List Env→Hp→Shared→XK→Value→Shared→Prop
structure Zc0(P:Program)(w:World)(K:PySem.W.Frag)(mg:Str→Option Value)(base:Heap)(A:Around)(outer:List Env)(s:Shared)(H:Hp):Prop where
 frames:A.frames=some outer
 mod:Mod K mg base
 bs:∀b o,base.get? b=some o→s.heap.get? b=some o∧H b=none
 bsz:base.objs.size≤s.heap.objs.size
 funs:s.heap.FunFrames base outer
 frf:∀b∈frs outer,H b=none
 hok:HOk P w H s.heap
 bare:AllBare s.gens
def CE(outer:List Env)(P:Program)(w:World)(H:Hp)(s:Shared)(Q:VK)(u:Value)(s':Shared):Prop:=
 ∃v H',s'.os=s.os∧AllBare s'.gens∧Un (frs outer) [] H H' s.heap s'.heap∧HOk P w H' s'.heap∧ZF v u∧Q v H'
def CR(CX:CXT)(outer:List Env)(P:Program)(w:World)(H:Hp)(s:Shared)(Q:VK)(E:XK)(r:Result)(s':Shared):Prop:=
 match r with
 | .ok (.ret u)=>CE outer P w H s Q u s'
 | .ok _=>False
 | .error e=>CX outer H s E e s'
structure Zk(P:Program)(w:World)(K:PySem.W.Frag)(mg:Str→Option Value)(base:Heap)(CX:CXT)(k:Nat)(f:Addr)(fd:FuncData)(ps:List Str)(sp:Sp):Prop where
 len:∀vs H Q E,sp vs H Q E→vs.length=ps.length
 run:∀(A:Around)(outer:List Env)(s:Shared)(H:Hp)(args:Args)(us:List Value)(vs:List V)(Q:VK)(E:XK),YN k A→Zc0 P w K mg base A outer s H→BindsTo s fd args (ps.zip us)→ZD vs us→sp vs H Q E→
  codeAny (model P w) A (.call (.ref f) args) (CR CX outer P w H s Q E) s
theorem Zk.mono{P:Program}{w:World}{K:PySem.W.Frag}{mg:Str→Option Value}{base:Heap}{CX:CXT}{j k:Nat}{f:Addr}{fd:FuncData}{ps:List Str}{sp:Sp}(F:Zk P w K mg base CX j f fd ps sp)(h:j≤k):
  Zk P w K mg base CX k f fd ps sp:=⟨F.len,fun A outer s H args us vs Q E hr=>F.run A outer s H args us vs Q E (hr.mono h)⟩
theorem Zc0.make{P:Program}{w:World}{K:PySem.W.Frag}{mg:Str→Option Value}{base:Heap}{A:Around}{outer:List Env}{s:Shared}{H:Hp}(e:Zc0 P w K mg base A outer s H)(C:Addr)(us:List Value)(kw:List (Str×Value)):
  Zc0 P w K mg base (A.under (.builtin "type.__call__" ⟨.ref C::us,kw⟩)) outer s H:=⟨by first|exact e.frames|(simpa[Around.under,Code.envs,Code.isFrame,pushEnvs] using e.frames),e.mod,e.bs,e.bsz,e.funs,e.frf,e.hok,e.bare⟩
section
variable {X:Cx}{pins:List (Addr×Obj)}{σ:St}{H:Hp}{s s':Shared}
theorem Inv.env0(I:Inv X pins σ H s):Zc0 X.prog X.w X.K X.mg X.base X.A X.stack s H:=
 ⟨I.ok.frames,I.ok.mod,I.bs,Nat.le_trans I.ok.bsz I.sz,I.stack,I.stkFree,I.hok,I.bare⟩
theorem Inv.after{Q:VK}{u:Value}(I:Inv X pins σ H s)(h:CE X.stack X.prog X.w H s Q u s'):EP X pins σ Q u s':=by
 obtain⟨v,H',os,bare,un,hok,r,q⟩:=h;obtain⟨hh,g,d,t,os'⟩:=s';obtain rfl:os'=s.os:=os;exact⟨v,H',I.call (h':=hh) (g':=g) (d':=d) (t':=t) (ch:=[]) un hok bare (fun b z=>absurd z (by simp)),r,q⟩
end
noncomputable def Zj3 (sp:Sp) (dvs:List V) (E:XK) (t:TA):TE:=fun σ H Q=>t σ H fun vs H1=>sp (vs++dvs) H1 Q E
noncomputable def Zhu (C:Addr) (m:Str) (sp:Sp) (dvs:List V) (E:XK) (ta:TE) (t:TA):TE:=fun σ H Q=>ta σ H fun x H1=>∃a dx fs,x= .ref a∧H1 a=some (.ins C dx fs)∧fs.lookup m=none∧
 t σ H1 fun vs H2=>sp (x::(vs++dvs)) H2 Q E
noncomputable def Zha (C:Addr) (sp:Sp) (dvs:List V) (E:XK) (t:TA):TE:=fun σ H Q=>t σ H fun vs H1=>∀x dx,H1 x=none→H1 dx=none→dx≠x→
 sp (.ref x::(vs++dvs)) (upd (upd H1 dx (.own x)) x (.ins C dx [])) (fun v H2=>v= .non∧Q (.ref x) H2) E
def ZA(K:PySem.W.Frag)(fd:FuncData)(ps:List Str)(ds:List Value):Prop:=
 ∀(s:Shared)(us:List Value),K.In s.heap→(us++ds).length=ps.length→BindsTo s fd ⟨us,[]⟩ (ps.zip (us++ds))
theorem ZA.all{K:PySem.W.Frag}{fd:FuncData}{ps:List Str}(h:∀us:List Value,us.length=ps.length→bindArgs fd ⟨us,[]⟩=pure (ps.zip us)):ZA K fd ps []:=fun s us _ hl=>by
 rw[List.append_nil] at hl⊢;exact .of_eq (h us hl)
def Ub(CX:CXT)(X:Cx)(E:XK):Prop:=∀(pins:List (Addr×Obj))(σ:St)(H:Hp)(s:Shared)(e:Value)(s':Shared),Inv X pins σ H s→CX X.stack H s E e s'→X.xe e s'
section
variable {X:Cx}{CX:CXT}{k:Nat}{f C:Addr}{fd:FuncData}{ps:List Str}{sp:Sp}{dvs:List V}{ds:List Value}{E:XK}{x m:Str}{p pos apos:Pos}{e o:Expr}{es:List Expr}{ta:TE}{t:TA}
theorem ZeW{pins:List (Addr×Obj)}{σ:St}{H:Hp}{s:Shared}{Q:VK}{us:List Value}{vs:List V}(F:Zk X.prog X.w X.K X.mg X.base CX k f fd ps sp)(hr:YN k X.A)(hb:ZA X.K fd ps ds)(hd:ZD dvs ds)(hx:Ub CX X E)
  (I:Inv X pins σ H s) (r:ZD vs us) (h:sp (vs++dvs) H Q E):wpAny (model X.prog X.w) X.A (call (.ref f) us) (EP X pins σ Q) X.xe s:=by
 have r2:ZD (vs++dvs) (us++ds):=r.append hd;have hl:(us++ds).length=ps.length:=by rw[←r2.length];exact F.len _ _ _ _ h
 refine wpAny_call (codeAny_mono (F.run X.A X.stack s H ⟨us,[]⟩ (us++ds) (vs++dvs) Q E hr I.env0 (hb s us I.kIn hl) r2 h) fun r s' hq=>?_);cases r with
 |error e=>exact hx pins σ H s e s' I hq
 |ok fl=>
  cases fl with
  |ret u=>exact I.after hq
  |next=>exact False.elim hq
  |brk=>exact False.elim hq
  |cont=>exact False.elim hq
theorem Zv(F:Zk X.prog X.w X.K X.mg X.base CX k f fd ps sp)(hr:YN k X.A)(hg:Gl X x)(hm:X.mg x=some (.ref f))(hk:PySem.W.keepIn X.K (.ref f)=true)(hb:ZA X.K fd ps ds)(hd:ZD dvs ds)(hx:Ub CX X E)
  (ha:PA X (e::es) t) (hdb:(x==("__debug__" :Str))=false:=by decide) (he:starEach (e::es) X.env=(false,eval e X.env)::starEach es X.env:=by rfl) (hpl:(backTo pos (starEach es X.env)).any (·.1)=false:=by rfl):
  PE X (.Call (.Name x p) (e::es) [] pos) (Zj3 sp dvs E t):=by
 intro pins s σ H Q I h;refine wpAny_Call_Name_kw (ZaX I hg hm ?_ hdb);refine PySem.W.callWith_K (h₀:=X.base) I.ok.mod.kin hk (thn (ha pos pins s σ H _ I h) fun us s1 ⟨vs,H1,I1,r,q⟩=>⟨I1.kIn,?_⟩) he hpl;exact ZeW F hr hb hd hx I1 r q
theorem Yc{pl:Sem Bool}(he:PE X o ta)(c:Cls X.K C)(hm:WI X.K C m f)(F:Zk X.prog X.w X.K X.mg X.base CX k f fd ps sp)(hr:YN k X.A)(hb:ZA X.K fd ps ds)(hd:ZD dvs ds)(hx:Ub CX X E)(ha:PA X (e::es) t)
  (hst:starEach (e::es) X.env=(false,eval e X.env)::starEach es X.env:=by rfl) (hpl:(backTo pos (starEach es X.env)).any (·.1)=false:=by rfl)
  (ht:eval (.Call (.Attribute o m apos) (e::es) [] pos) X.env=(do
   let ov←eval o X.env
   standAt apos.atName
   let(f,first)←holding [ov] (getMethod ov m pl)
   callWith pos f first (backTo pos (starEach (e::es) X.env)) (backToKw pos (keywordEach [] X.env))):=by rfl):
  PE X (.Call (.Attribute o m apos) (e::es) [] pos) (Zhu C m sp dvs E ta t):=by
 intro pins s σ H Q I h;refine PySem.W.methodCall_KW (pl:=pl) (thn (he pins s σ H _ I h) fun u s1 ⟨x,H1,I1,rx,a,dx,fs,ex,ea,l,q⟩=>?_) ht;subst ex;obtain rfl:u=Value.ref a:=rx;refine Za8 I1 ea c hm l ?_;refine PySem.W.callWith_K (first:=[.ref a]) (h₀:=X.base) I.ok.mod.kin hm.kp (thn (ha pos pins s1 σ H1 _ I1 q) fun us s2 ⟨vs,H2,I2,r,q2⟩=>⟨I2.kIn,?_⟩) hst hpl;exact ZeW (us:= .ref a::us) (vs:= .ref a::vs) F hr hb hd hx I2 (.cons rfl r) q2
theorem Uk{pl:Sem Bool}(he:PE X o ta)(c:Cls X.K C)(hm:WI X.K C m f)(F:Zk X.prog X.w X.K X.mg X.base CX k f fd ps sp)(hr:YN k X.A)(hb:ZA X.K fd ps ds)(hd:ZD dvs ds)(hx:Ub CX X E)
  (ht:eval (.Call (.Attribute o m apos) [] [] pos) X.env=(do
   let ov←eval o X.env
   standAt apos.atName
   let(f,first)←holding [ov] (getMethod ov m pl)
   callWith pos f first (backTo pos (starEach [] X.env)) (backToKw pos (keywordEach [] X.env))):=by rfl):
  PE X (.Call (.Attribute o m apos) [] [] pos) (Zhu C m sp dvs E ta tNil):=by
 intro pins s σ H Q I h;refine PySem.W.methodCall_KW (pl:=pl) (thn (he pins s σ H _ I h) fun u s1 ⟨x,H1,I1,rx,a,dx,fs,ex,ea,l,q⟩=>?_) ht;subst ex;obtain rfl:u=Value.ref a:=rx;refine Za8 I1 ea c hm l ?_;exact PySem.W.callWith_K0 (first:=[.ref a]) I1.kIn hm.kp (ZeW (us:=[.ref a]) (vs:=[.ref a]) F hr hb hd hx I1 (.cons rfl .nil) q)
structure Mk(K:PySem.W.Frag)(C f:Addr):Prop where
 makes:PySem.W.makesIn K C=true
 init:PySem.W.findIn K (.ref C) "__init__" =some (some (.ref f))
 fn:PySem.W.isFn K (.ref f)=true
 kp:PySem.W.keepIn K (.ref C)=true
theorem ZfF{pins:List (Addr×Obj)}{σ:St}{H:Hp}{s:Shared}{Q:VK}{us:List Value}{vs:List V}(M:Mk X.K C f)(F:Zk X.prog X.w X.K X.mg X.base CX k f fd ps sp)(hr:YN (k+1) X.A)(hb:ZA X.K fd ps ds)(hd:ZD dvs ds)
  (hx:Ub CX X E) (I:Inv X pins σ H s) (r:ZD vs us)
  (h:∀x dx,H x=none→H dx=none→dx≠x→sp (.ref x::(vs++dvs)) (upd (upd H dx (.own x)) x (.ins C dx [])) (fun v H2=>v= .non∧Q (.ref x) H2) E):
  wpAny (model X.prog X.w) X.A (call (.ref C) us) (EP X pins σ Q) X.xe s:=by
 have hq:=h (s.heap.objs.size+1) s.heap.objs.size (I.hok.fresh (Nat.le_succ _)) (I.hok.fresh (Nat.le_refl _)) (Nat.ne_of_lt (Nat.lt_succ_self _));have I2:=Inv.made (C:=C) I;have r2:ZD (V.ref (s.heap.objs.size+1)::(vs++dvs)) (Value.ref (s.heap.objs.size+1)::(us++ds)):= .cons rfl (r.append hd);have hl:(Value.ref (s.heap.objs.size+1)::us++ds).length=ps.length:=by
  have e:=r2.length;rw[F.len _ _ _ _ hq] at e;exact e.symm
 refine wpAny_call (Zjb (f:=f) I.kIn M.makes M.init (beq_iff_eq.mp M.fn) (codeAny_mono (F.run _ X.stack _ _ ⟨Value.ref (s.heap.objs.size+1)::us,[]⟩ (Value.ref (s.heap.objs.size+1)::(us++ds)) _ _ E (hr.make C us [])
  (I2.env0.make C us []) (hb _ (Value.ref (s.heap.objs.size+1)::us) I2.kIn hl) r2 hq) fun r s' hq'=>?_))
 cases r with
 |error e=>exact hx pins σ _ _ e s' I2 hq'
 |ok fl=>
  cases fl with
  |ret u=>
   obtain⟨v,H',I3,rv,ev,q3⟩:=I2.after hq';subst ev;exact⟨rv,⟨V.ref (s.heap.objs.size+1),H',I3,rfl,q3⟩⟩
  |next=>exact False.elim hq'
  |brk=>exact False.elim hq'
  |cont=>exact False.elim hq'
theorem ZkI(M:Mk X.K C f)(F:Zk X.prog X.w X.K X.mg X.base CX k f fd ps sp)(hr:YN (k+1) X.A)(hg:Gl X x)(hm:X.mg x=some (.ref C))(hb:ZA X.K fd ps ds)(hd:ZD dvs ds)(hx:Ub CX X E)
  (ha:PA X (e::es) t) (hdb:(x==("__debug__" :Str))=false:=by decide) (he:starEach (e::es) X.env=(false,eval e X.env)::starEach es X.env:=by rfl) (hpl:(backTo pos (starEach es X.env)).any (·.1)=false:=by rfl):
  PE X (.Call (.Name x p) (e::es) [] pos) (Zha C sp dvs E t):=by
 intro pins s σ H Q I h;refine wpAny_Call_Name_kw (ZaX I hg hm ?_ hdb);refine PySem.W.callWith_K (h₀:=X.base) I.ok.mod.kin M.kp (thn (ha pos pins s σ H _ I h) fun us s1 ⟨vs,H1,I1,r,q⟩=>⟨I1.kIn,?_⟩) he hpl;exact ZfF M F hr hb hd hx I1 r q
theorem ZiZ(M:Mk X.K C f)(F:Zk X.prog X.w X.K X.mg X.base CX k f fd ps sp)(hr:YN (k+1) X.A)(hg:Gl X x)(hm:X.mg x=some (.ref C))(hb:ZA X.K fd ps ds)(hd:ZD dvs ds)(hx:Ub CX X E)
  (hdb:(x==("__debug__" :Str))=false:=by decide):PE X (.Call (.Name x p) [] [] pos) (Zha C sp dvs E tNil):=by
 intro pins s σ H Q I h;refine wpAny_Call_Name_kw (ZaX I hg hm ?_ hdb);exact PySem.W.callWith_K0 I.kIn M.kp (ZfF (us:=[]) M F hr hb hd hx I .nil h)
end
section
variable {X:Cx}{CX:CXT}{k:Nat}{f C:Addr}{fd:FuncData}{ps ks:List Str}{sp:Sp}{E:XK}{x m:Str}{p pos apos kpos:Pos}{e o:Expr}{es:List Expr}{kws:List Keyword}{te ta:TE}{t tk:TA}{nm:Option Str}
variable {g:List Value→List Value→List Value}{gV:List V→List V→List V}
end
structure Zt(N P:List Str)(sc:Scope):Prop where
 kind:sc.kind= .function
 co:sc.isCoroutine=false
 gen:sc.isGenerator=false
 nd:N.Nodup
 pre:N.take P.length=P
 par:∀x∈P,sc.names.lookup x=some .local∨sc.names.lookup x=some .cell
 nofree:∀y∈sc.names,y.2≠ .free
theorem Zei{kindOf:Str→Option NameKind}{x:Str}:∀{binds:List (Str×Value)}{m:Str→Option Value},(∀v,(x,v)∉binds)→bindL kindOf binds m x=m x
 | [],_,_=>rfl
 |(n,v)::r,m,h=>by
  unfold bindL;rw[Zei fun w hw=>h w (List.mem_cons_of_mem _ hw)]
  split
  ·have:x≠n:=by rintro rfl;exact h v List.mem_cons_self
   simp[this]
  ·rfl
theorem Zey{kindOf:Str→Option NameKind}{x:Str}:∀{binds:List (Str×Value)}{m:Str→Option Value},(∀v,(x,v)∉binds)→bindC kindOf binds m x=m x
 | [],_,_=>rfl
 |(n,v)::r,m,h=>by
  unfold bindC;rw[Zey fun w hw=>h w (List.mem_cons_of_mem _ hw)]
  split
  ·rfl
  ·have:x≠n:=by rintro rfl;exact h v List.mem_cons_self
   simp[this]
theorem Zeg{kindOf:Str→Option NameKind}{x:Str}{v:Value}:∀{P:List Str}{vs:List Value}{i:Nat}{m:Str→Option Value},P.Nodup→P[i]? =some x→vs[i]? =some v→kindOf x=some .local→
  bindL kindOf (P.zip vs) m x=some v
 | [],_,_,_,_,h,_,_=>by simp at h
 |_::_,[],_,_,_,_,h,_=>by simp at h
 |p::P,w::vs,0,m,nd,h1,h2,hk=>by
  simp at h1 h2;subst h1;subst h2;show bindL kindOf ((p,w)::P.zip vs) m p=_;unfold bindL;rw[Zei fun v hv=>(List.nodup_cons.mp nd).1 (List.of_mem_zip hv).1,if_pos hk];simp
 |p::P,w::vs,i+1,m,nd,h1,h2,hk=>by
  show bindL kindOf ((p,w)::P.zip vs) m x=_;unfold bindL;exact Zeg (i:=i) (List.nodup_cons.mp nd).2 (by simpa using h1) (by simpa using h2) hk
theorem Zew{kindOf:Str→Option NameKind}{x:Str}{v:Value}:∀{P:List Str}{vs:List Value}{i:Nat}{m:Str→Option Value},P.Nodup→P[i]? =some x→vs[i]? =some v→kindOf x≠some .local→
  bindC kindOf (P.zip vs) m x=some v
 | [],_,_,_,_,h,_,_=>by simp at h
 |_::_,[],_,_,_,_,h,_=>by simp at h
 |p::P,w::vs,0,m,nd,h1,h2,hk=>by
  simp at h1 h2;subst h1;subst h2;show bindC kindOf ((p,w)::P.zip vs) m p=_;unfold bindC;rw[Zey fun v hv=>(List.nodup_cons.mp nd).1 (List.of_mem_zip hv).1,if_neg hk];simp
 |p::P,w::vs,i+1,m,nd,h1,h2,hk=>by
  show bindC kindOf ((p,w)::P.zip vs) m x=_;unfold bindC;exact Zew (i:=i) (List.nodup_cons.mp nd).2 (by simpa using h1) (by simpa using h2) hk
noncomputable def start (N:List Str) (vs:List V):St:=vs.map some++List.replicate (N.length-vs.length) none
noncomputable def ZM (CX:CXT) (P:Program) (w:World) (K:PySem.W.Frag) (mg:Str→Option Value) (base:Heap) (N:List Str) (qual:Str) (scope:Scope) (f:Addr) (cd:Value) (A:Around) (outer:List Env) (s:Shared) (H:Hp) (E:XK):Cx where
 prog:=P
 w:=w
 K:=K
 mg:=mg
 base:=base
 A:=A.deeper (envOfC qual scope s.heap.objs.size f cd)
 N:=N
 s₀:=s
 H₀:=H
 env:=envOfC qual scope s.heap.objs.size f cd
 outer:=outer
 stack:=envOfC qual scope s.heap.objs.size f cd::outer
 ex:=[]
 calm:=true
 fn:=fun _=>true
 pn:=[]
 xe:=fun e s'=>wpAny (model P w) (A.deeper (envOfC qual scope s.heap.objs.size f cd)) (leaving (envOfC qual scope s.heap.objs.size f cd) e) (fun _ s''=>CX outer H s E e s'') (fun e' s''=>CX outer H s E e' s'') s'
theorem Zfa{sc:Scope}{n:Nat}{x:Str}(h:sc.names.lookup x=some .cell):∃c,(cellsFrom n sc.names []).lookup x=some c:=by
 have q:=PySem.W.cellsFrom_some sc.names n [] (.inl h);exact Option.isSome_iff_exists.mp q
theorem ZiJ{CX:CXT}{P:Program}{w:World}{K:PySem.W.Frag}{mg:Str→Option Value}{base:Heap}{N ps:List Str}{qual:Str}{scope:Scope}{f:Addr}{cd:Value}{A:Around}{outer:List Env}{s s1:Shared}{H:Hp}{E:XK}{us:List Value}{vs:List V}
  (S:Zt N ps scope) (hd:A.handled=none) (e0:Zc0 P w K mg base A outer s H) (hl:vs.length=ps.length) (r:ZD vs us)
  (x:InCallC s s.heap.objs.size (bindL (envOfC qual scope s.heap.objs.size f cd).kindOf (ps.zip us) fun _=>none) (cellsFrom (s.heap.objs.size+1) scope.names []) (bindC (envOfC qual scope s.heap.objs.size f cd).kindOf (ps.zip us) fun _=>none) s1):
  Inv (ZM CX P w K mg base N qual scope f cd A outer s H E) [] (start N vs) H s1:=by
 have hpl:ps.length≤N.length:=by have:=congrArg List.length S.pre;rw[List.length_take] at this;omega
 obtain⟨h1,tk,rfl,hk⟩:=x.done;have noA:∀b:Addr,b∉(ZM CX P w K mg base N qual scope f cd A outer s H E).ex:=fun b z=>absurd (show b∈([]:List Addr) from z) (by simp);refine⟨⟨e0.mod,S.kind,rfl,rfl,Nat.le_refl _,fun y z c h1 h2=>?_,fun y hy=>?_,fun y c _ h=>?_,fun _=>hd,Around.frames_deeper e0.frames,.inr ⟨rfl,rfl⟩,fun b z=>absurd z (noA b),e0.bs,e0.bsz,fun b _ _=>noA b,fun b z=>absurd z (noA b),e0.funs,e0.frf⟩,
  rfl,e0.bare,Un.kept hk,⟨_,x.toInCall.ns,fun i y v h1 h2 h3=>?_⟩,fun y c h=>⟨_,x.cell y c h⟩,e0.hok.fresh (Nat.le_refl _),fun y c h=>?_,fun p hp=>absurd (show p∈([]:List (Addr×Obj)) from hp) (by simp),e0.hok.kept hk,?_⟩
 ·exact name_of_addr x.apart (PySem.mem_of_lookup h1) (PySem.mem_of_lookup h2)
 ·have hy:scope.names.lookup y=some .cell∨scope.names.lookup y=some .free:=hy;rcases hy with hy|hy
  ·exact Zfa hy
  ·exact absurd rfl (S.nofree _ (PySem.mem_of_lookup hy))
 ·exact Nat.le_of_lt (x.above y c (PySem.mem_of_lookup h))
 ·have hi:i<vs.length:=by
   unfold start at h2
   by_cases hi:i<vs.length
   ·exact hi
   ·rw[List.getElem?_append_right (by simpa using hi)] at h2;rw[List.getElem?_replicate] at h2
    split at h2<;>cases h2
  have ha:vs[i]? =some v:=by
   unfold start at h2;rw[List.getElem?_append_left (by simpa using hi),List.getElem?_map] at h2;cases e:vs[i]? with
   |none=>rw[e] at h2;cases h2
   |some a=>rw[e] at h2;cases h2;rfl
  obtain⟨u,hu,rv⟩:=r.get ha;have hp:ps[i]? =some y:=by
   rw[←S.pre,List.getElem?_take_of_lt (by omega)];exact h1
  have ndP:ps.Nodup:=by rw[←S.pre];exact S.nd.sublist (List.take_sublist _ _)
  refine⟨u,rv,?_⟩;rcases S.par y (List.mem_of_getElem? hp) with k|k
  ·exact .inl ⟨k,Zeg ndP hp hu k⟩
  ·obtain⟨c,e⟩:=Zfa (n:=s.heap.objs.size+1) k;refine .inr ⟨.inl k,c,e,?_⟩;have q:=x.cell y c e;rw[Zew ndP hp hu (by show scope.names.lookup y≠_;rw[k];decide)] at q;exact q
 ·exact e0.hok.fresh (Nat.le_of_lt (x.above y c (PySem.mem_of_lookup h)))
 ·unfold start;show _=N.length;rw[List.length_append,List.length_map,List.length_replicate];omega
theorem Zkb{CX:CXT}{P:Program}{w:World}{K:PySem.W.Frag}{mg:Str→Option Value}{base:Heap}{k:Nat}{f:Addr}{name qual:Str}{params:Arguments}{body:List Stmt}{scope:Scope}{dV kV doc pm cdv ct oc:Value}{an od:Option Addr}
  {osl:Array (Option Value)} {N ps:List Str} {sp:Sp} (lk:K.lookup f=some ⟨oc,od,.func (PySem.W.fnOf name qual params body scope dV kV doc pm an cdv ct),osl⟩) (hcd:PySem.W.codeIn K cdv qual=true) (S:Zt N ps scope)
  (len:∀vs H Q E,sp vs H Q E→vs.length=ps.length)
  (hbody:∀(A:Around)(outer:List Env)(s:Shared)(H:Hp)(vs:List V)(Q:VK)(E:XK),YN k (A.deeper (envOfC qual scope s.heap.objs.size f cdv))→sp vs H Q E→
   ∃t,PSs (ZM CX P w K mg base N qual scope f cdv A outer s H E) body t∧t {nx:=fun _ H'=>Q .non H',rt:=Q} (start N vs) H):
  Zk P w K mg base CX (k+1) f (PySem.W.fnOf name qual params body scope dV kV doc pm an cdv ct) ps sp:=by
 refine⟨len,fun A outer s H args us vs Q E hr e0 hb r hsp=>?_⟩;have hl:=len _ _ _ _ hsp;have KX:K.In s.heap:=e0.mod.kin.keeps fun b o e=>(e0.bs b o e).1;have lim:s.heap.NoLimit:=e0.mod.nolimit.keeps fun b o e=>(e0.bs b o e).1;have hkind:∀y∈ps.zip us,scope.names.lookup y.1=some .local∨(scope.names.lookup y.1=some .cell∧((cellsFrom (s.heap.objs.size+1) scope.names []).lookup y.1).isSome=true):=fun⟨n,v⟩ hy=>by
  rcases S.par n (List.of_mem_zip hy).1 with q|q
  ·exact .inl q
  ·exact .inr ⟨q,PySem.W.cellsFrom_some _ _ _ (.inl q)⟩
 refine codeAny_call_function hr.depth (KX _ _ lk) rfl S.co S.gen rfl (PySem.W.codeRec_of KX hcd) (hb _ _ _ _ ?_);refine wpAny_newFunctionEnv_cells S.kind hkind fun env he s1 x=>?_;subst he;refine⟨lim.keeps x.toInCall.keep,codeAny_func ?_⟩;obtain⟨t,ht,hq⟩:=hbody A outer s H vs Q E (hr.deeper _) hsp;have I:Inv (ZM CX P w K mg base N qual scope f cdv A outer s H E) [] (start N vs) H s1:=ZiJ S hr.hd e0 hl r x;refine wpAny_mono (ht [] s1 (start N vs) H _ I hq) (fun fl s' hs=>?_) fun e s' hs=>hs;have fin:∀{σ':St}{H':Hp}{v:V}{u:Value},Inv (ZM CX P w K mg base N qual scope f cdv A outer s H E) [] σ' H' s'→ZF v u→Q v H'→CE outer P w H s Q u s':=
  fun{σ' H' v u} J rv q=>⟨v,H',J.os,J.bare,J.base,J.hok,rv,q⟩
 cases fl with
 |ret u=>
  obtain⟨v,σ',H',J,rv,q⟩:=hs;exact fin J rv q
 |next=>
  obtain⟨σ',H',J,q⟩:=hs;exact fin (v:=V.non) (u:=Value.none) J rfl q
 |brk=>
  obtain⟨_,_,_,q⟩:=hs;exact False.elim q
 |cont=>
  obtain⟨_,_,_,q⟩:=hs;exact False.elim q
end L2
namespace L2
open PySem PySem.Spec PyProof.Rows
section
variable {X:Cx}{x:Str}{p pos:Pos}{e:Expr}{es:List Expr}{t:TA}{id T:String}{r:List V→Hp→VK→Prop}
noncomputable def tCB (r:List V→Hp→VK→Prop) (t:TA):TE:=fun σ H Q=>t σ H fun vs H1=>r vs H1 Q
theorem Zr(hc:Wi X (.builtin id) r)(hg:Gl X x)(hm:X.mg x=none)(hv:bootBuiltins x=some (.builtin id))(ha:PA X (e::es) t)(hn:x≠"__name__" :=by decide)(hdb:(x==("__debug__" :Str))=false:=by decide)
  (he:starEach (e::es) X.env=(false,eval e X.env)::starEach es X.env:=by rfl) (hpl:(backTo pos (starEach es X.env)).any (·.1)=false:=by rfl):PE X (.Call (.Name x p) (e::es) [] pos) (tCB r t):=by
 intro pins s σ H Q I h;refine wpAny_Call_Name_kw (Ua I hg hm hv ?_ hn hdb);exact PyProof.Rows.callWith_builtin1 (thn (ha pos pins s σ H _ I h) fun us s1 ⟨vs,H1,I1,r1,q1⟩=>hc pins s1 σ H1 vs us Q I1 r1 q1) he hpl
theorem UJ(hc:Wi X (.type T) r)(hg:Gl X x)(hm:X.mg x=none)(hv:bootBuiltins x=some (.type T))(ha:PA X (e::es) t)(hn:x≠"__name__" :=by decide)(hdb:(x==("__debug__" :Str))=false:=by decide)
  (he:starEach (e::es) X.env=(false,eval e X.env)::starEach es X.env:=by rfl) (hpl:(backTo pos (starEach es X.env)).any (·.1)=false:=by rfl):PE X (.Call (.Name x p) (e::es) [] pos) (tCB r t):=by
 intro pins s σ H Q I h;refine wpAny_Call_Name_kw (Ua I hg hm hv ?_ hn hdb);exact PyProof.Rows.callWith_type1 (thn (ha pos pins s σ H _ I h) fun us s1 ⟨vs,H1,I1,r1,q1⟩=>hc pins s1 σ H1 vs us Q I1 r1 q1) he hpl
end
end L2
namespace HT
open PySem PyProof.Rows
section
open PySem.SeqAt
open PySem.AutoSeq1 (wpAny_loadPart')
open PySem.MeetsSeq PySem.MeetsSeq2 PySem.MeetsSeq3
end
section
variable {prog:Program}{w:World}{A:Around}{E:Value→Shared→Prop}{s:Shared}
theorem ZkE{t b:Addr}{vs ws:List Value}{Q:Value→Shared→Prop}(ht:IsTup s.heap t vs.toArray)(hb:IsTup s.heap b ws.toArray)(hv:vs≠[])
  (h1:ws=[]→Q (.ref t) s) (h2:ws≠[]→Q (.ref s.heap.objs.size) {s with heap:=s.heap.push {cls:= .type "tuple",data:= .seq (vs++ws).toArray}})
  (hsz:vs.length+ws.length≤sizeLine):wpAny (model prog w) A (binaryOp .Add (.ref t) (.ref b)) Q E s:=by
 obtain⟨⟨cls,dd,data,sl⟩,ho,hc,n,hd⟩:=id ht;obtain⟨⟨cls2,dd2,data2,sl2⟩,ho2,hc2,n2,hd2⟩:=id hb;simp only at hc hd hc2 hd2;subst hc hd hc2 hd2;have e:vs.toArray++ws.toArray=(vs++ws).toArray:=by simp
 by_cases hw:ws=[]
 ·exact concat_meets ⟨_,ho,rfl⟩ ⟨_,ho2,rfl⟩ noFill_tuple_add seq_tuple_add PySem.F.slot_tuple_add PySem.F.entry_tuple_add (PySem.F.args_tuple_add_2 _ _)
   (tuple_addW1 t b vs.toArray ws.toArray n n2 dd dd2 sl sl2 (by simpa using hv) (by simp[hw])) ⟨ho,ho2,h1 hw⟩
 ·refine concat_meets ⟨_,ho,rfl⟩ ⟨_,ho2,rfl⟩ noFill_tuple_add seq_tuple_add PySem.F.slot_tuple_add PySem.F.entry_tuple_add (PySem.F.args_tuple_add_2 _ _)
   (tuple_addW2 t b vs.toArray ws.toArray n n2 dd dd2 sl sl2 (by simpa using hv) (by simpa using hw) (by rw[List.size_toArray,List.size_toArray];exact hsz)) ⟨ho,ho2,?_⟩
  rw[e];exact h2 hw
noncomputable def sIx (n d:Nat):Option Int→Nat
 |none=>d
 |some v=>if v<0 then(v+(n:Int)).toNat else min v.toNat n
theorem Zlf(n d:Nat)(hd:d≤n)(o:Option Int):sIx n d o≤n:=by
 cases o with
 |none=>exact hd
 |some v=>
  show(if v<0 then(v+(n:Int)).toNat else min v.toNat n)≤n
  by_cases hv:v<0
  ·rw[if_pos hv];omega
  ·rw[if_neg hv];exact Nat.min_le_right _ _
theorem ZgF(v:Int)(n d:Nat):(if v<0 then max (v+(n:Int)) 0 else min v (n:Int))=((sIx n d (some v):Nat):Int):=by
 show(if v<0 then max (v+(n:Int)) 0 else min v (n:Int))=(((if v<0 then(v+(n:Int)).toNat else min v.toNat n):Nat):Int)
 by_cases hv:v<0
 ·simp only[if_pos hv];omega
 ·simp only[if_neg hv];omega
theorem Zhm(lo hi:Option Int)(n:Nat):Builtin.Slice.sliceAdjust lo hi 1 (n:Int)=(((sIx n 0 lo:Nat):Int),((sIx n n hi:Nat):Int)):=by
 have h1:¬((1:Int)<0):=by omega
 unfold Builtin.Slice.sliceAdjust;simp only[h1,if_false];refine Prod.ext ?_ ?_
 ·cases lo with
  |none=>rfl
  |some v=>exact ZgF v n 0
 ·cases hi with
  |none=>rfl
  |some v=>exact ZgF v n n
theorem ZgU(i j:Nat):Builtin.Slice.slicePlaces (i:Int) (j:Int) 1=j-i:=by
 unfold Builtin.Slice.slicePlaces;have h1:(1:Int) > 0:=by omega
 simp only[h1,if_true,Int.ediv_one]
 split<;>omega
theorem Zdx{v:Value}{o:Option Int}{Q:Option Int→Shared→Prop}(p:IsPart v o)(h:Q o s):wpAny (model prog w) A (Builtin.Slice.slicePartIndex v) Q E s:=by
 cases p with
 |none=>exact slicePart_none h
 |int i t=>exact slicePart_int h
theorem ZcQ{sl:Addr}{vl vu:Value}{lo hi:Option Int}{n:Nat}{Q:Int×Int×Nat→Shared→Prop}(hs:s.heap.IsSliceOf sl vl vu .none)(pl:IsPart vl lo)(pu:IsPart vu hi)
  (h:Q (((sIx n 0 lo:Nat):Int),1,sIx n n hi-sIx n 0 lo) s):wpAny (model prog w) A (Builtin.Slice.sliceApplied (.ref sl) (pure (n:Int))) Q E s:=by
 obtain⟨os,hos,hcs,hds⟩:=id hs;unfold Builtin.Slice.sliceApplied Builtin.Slice.sliceFields;refine wpAny_bind (wpAny_bind (wpAny_field hos hds (x:=vl) rfl (wpAny_bind (wpAny_field hos hds (x:=vu) rfl (wpAny_bind (wpAny_field hos hds (x:= .none) rfl (wpAny_pure ?_)))))));refine wpAny_bind (slicePart_none ?_);show wpAny _ _ (if((1:Int)==0)=true then _ else _) _ _ s;rw[if_neg (by decide)];refine wpAny_bind (Zdx pl (wpAny_bind (Zdx pu (wpAny_bind (wpAny_pure ?_)))));show wpAny _ _ (match Builtin.Slice.sliceAdjust lo hi 1 (n:Int) with|(lo,hi)=>pure (lo,(1:Int),Builtin.Slice.slicePlaces lo hi 1)) _ _ s;rw[Zhm lo hi n];show wpAny _ _ (pure (((sIx n 0 lo:Nat):Int),(1:Int),Builtin.Slice.slicePlaces ((sIx n 0 lo:Nat):Int) ((sIx n n hi:Nat):Int) 1)) _ _ s;rw[ZgU];exact wpAny_pure h
theorem Zjz(xs:Array Value)(i k:Nat):((List.range k).filterMap fun(m:Nat)=>xs[((i:Int)+(m:Int)*1).toNat]?).toArray=((xs.toList.drop i).take k).toArray:=by
 have e:(fun(m:Nat)=>xs[((i:Int)+(m:Int)*1).toNat]?)=fun m=>xs[i+m]? :=by
  funext m
  have:((i:Int)+(m:Int)*1).toNat=i+m:=by omega
  rw[this]
 rw[e];have:=pick_run xs i k;rw[List.filterMap_map] at this;have e2:((fun x=>xs[x]?)∘fun x=>i+x)=fun m=>xs[i+m]? :=rfl;rw[e2] at this;rw[this]
theorem Zco{t sl:Addr}{items:Array Value}{vl vu:Value}{lo hi:Option Int}{Q:Value→Shared→Prop}(ht:IsTup s.heap t items)(hs:s.heap.IsSliceOf sl vl vu .none)(pl:IsPart vl lo)(pu:IsPart vu hi)
  (hw:¬(sIx items.size 0 lo=0∧sIx items.size items.size hi=items.size))
  (h:Q (.ref s.heap.objs.size) {s with heap:=s.heap.push {cls:= .type "tuple",data:= .seq ((items.toList.drop (sIx items.size 0 lo)).take (sIx items.size items.size hi-sIx items.size 0 lo)).toArray}})
  (hsz:items.size≤sizeLine):wpAny (model prog w) A (getItem (.ref t) (.ref sl)) Q E s:=by
 have htake:sizeOk (.seq ((items.toList.drop (sIx items.size 0 lo)).take (sIx items.size items.size hi-sIx items.size 0 lo)).toArray):=by
  show((items.toList.drop (sIx items.size 0 lo)).take (sIx items.size items.size hi-sIx items.size 0 lo)).toArray.size≤sizeLine;rw[List.size_toArray,List.length_take,List.length_drop,Array.length_toList];omega
 have hj:sIx items.size items.size hi≤items.size:=Zlf _ _ (Nat.le_refl _) hi;obtain⟨os,hos,hcs,hds⟩:=id hs;have hTs:s.TypeIs (.ref sl) "slice" :=⟨os,hos,hcs⟩;unfold getItem
 try with_reducible refine wpAny_holding ?_
 first|refine wpAny_bind (wpAny_pure ?_)|skip
 refine wpAny_bind (wpAny_sequenceKey ht.typeIs (by decide) ?_);refine wpAny_bind (wpAny_callSpecial?_slot (name:=Str.ofString "__getitem__") ht.typeIs PyProof.Rows.slot_tuple_getitem
  (wpAny_call_entry PyProof.Rows.slot_tuple_getitem ht.typeIs entry_tuple_getitem ?_ (args_tuple_getitem _ _)))
 show wpAny _ _ (Builtin.Tuple.tupleItemsOf (.ref t) >>= _) _ _ s;refine wpAny_bind (tupleItemsOf_ ht ?_);refine wpAny_bind (wpAny_typeOf hTs ?_);rw[if_pos (by decide)];refine wpAny_bind (ZcQ hs pl pu ?_);have hno:¬((((sIx items.size 0 lo:Nat):Int)==0&&(1:Int)==1&&(sIx items.size items.size hi-sIx items.size 0 lo)==items.size)=true):=by
  intro q;rw[Bool.and_eq_true,Bool.and_eq_true] at q;have q1:((sIx items.size 0 lo:Nat):Int)=0:=eq_of_beq q.1.1;have q2:sIx items.size items.size hi-sIx items.size 0 lo=items.size:=eq_of_beq q.2;exact hw ⟨by omega,by omega⟩
 show wpAny _ _ (if(((sIx items.size 0 lo:Nat):Int)==0&&(1:Int)==1&&(sIx items.size items.size hi-sIx items.size 0 lo)==items.size)=true then _ else _) _ _ s;rw[if_neg hno,Zjz]
 first
  |exact wpAny_bind (m:=Builtin.Tuple.tupleExact _) (wpAny_newObj_type (wpAny_pure ⟨_,rfl,wpAny_pure h⟩) htake)
  |exact wpAny_bind (m:=Builtin.Tuple.tupleExact _) (wpAny_newObj_type (wpAny_bind (wpAny_pure (wpAny_pure ⟨_,rfl,wpAny_pure h⟩))) htake)
  |exact wpAny_bind (wpAny_bind (m:=Builtin.Tuple.tupleExact _) (wpAny_newObj_type (wpAny_pure (wpAny_pure ⟨_,rfl,wpAny_pure h⟩)) htake))
  |exact wpAny_bind (wpAny_bind (m:=Builtin.Tuple.tupleExact _) (wpAny_newObj_type (wpAny_pure ⟨_,rfl,wpAny_pure h⟩) htake))
end
end HT
namespace L2
open PySem PySem.Spec PyProof.Rows
noncomputable abbrev TO:=St→Hp→(Option Int→Hp→Prop)→Prop
def PO(X:Cx)(e:Option Expr)(t:TO):Prop:=
 ∀(pins:List (Addr×Obj))(s:Shared)(σ:St)(H:Hp)(Q:Option Int→Hp→Prop),Inv X pins σ H s→t σ H Q→
  wpAny (model X.prog X.w) X.A (evalPart e X.env) (fun u s'=>∃o H',Inv X pins σ H' s'∧IsPart u o∧Q o H') X.xe s
noncomputable def tNoPart:TO:=fun _ H Q=>Q none H
noncomputable def Zj0 (t:TE):TO:=fun σ H Q=>t σ H fun x H1=>∃i,x= .int i∧Q (some i) H1
theorem Zbd{ns:List Int}:∀{us:List Value},ZD (ns.map V.int) us→IntsAre us ns:=by
 induction ns with
 |nil=>intro us r;rw[List.map_nil] at r;cases r;exact .nil
 |cons n ns ih=>
  intro us r;rw[List.map_cons] at r;cases r with
  |cons r1 r2=>
   obtain⟨t,e⟩:=r1;subst e;exact .cons n t (ih r2)
section
variable {X:Cx}{e:Expr}{te:TE}{lo hi:Option Expr}{tl th:TO}{pos p2:Pos}
theorem Za4:PO X none tNoPart:=by
 intro pins s σ H Q I h;rw[evalPart_none];exact wpAny_pure ⟨none,H,I,.none,h⟩
theorem ZaY(h:PE X e te):PO X (some e) (Zj0 te):=by
 intro pins s σ H Q I hw;rw[evalPart_some];refine thn (h pins s σ H _ I hw) fun u s1 ⟨x,H1,I1,r1,q1⟩=>?_;obtain⟨i,rfl,q⟩:=q1;obtain⟨t,rfl⟩:=r1;exact⟨some i,H1,I1,.int i t,q⟩
def SlR(X:Cx)(r:V→Option Int→Option Int→Hp→VK→Prop):Prop:=
 ∀(pins:List (Addr×Obj))(s:Shared)(σ:St)(H:Hp)(x:V)(v vl vu:Value)(lo hi:Option Int)(sl:Addr)(Q:VK),Inv X pins σ H s→ZF x v→s.heap.IsSliceOf sl vl vu .none→IsPart vl lo→IsPart vu hi→r x lo hi H Q→
  ∃T id,typeLookup (.type T) "__getitem__" =pure (some (.builtin id))∧s.TypeIs v T∧wpAny (model X.prog X.w) X.A (getItem v (.ref sl)) (EP X pins σ Q) X.xe s
theorem SlR.or{r r':V→Option Int→Option Int→Hp→VK→Prop}(h:SlR X r)(h':SlR X r'):SlR X (fun x lo hi H Q=>r x lo hi H Q∨r' x lo hi H Q):=by
 intro pins s σ H x v vl vu lo hi sl Q I rx hs pl pu q;rcases q with q|q
 ·exact h pins s σ H x v vl vu lo hi sl Q I rx hs pl pu q
 ·exact h' pins s σ H x v vl vu lo hi sl Q I rx hs pl pu q
noncomputable def tSl (r:V→Option Int→Option Int→Hp→VK→Prop) (te:TE) (tl th:TO):TE:=fun σ H Q=>te σ H fun x H1=>tl σ H1 fun l H2=>th σ H2 fun u H3=>r x l u H3 Q
theorem Zan{r:V→Option Int→Option Int→Hp→VK→Prop}(hr:SlR X r)(he:PE X e te)(hl:PO X lo tl)(hu:PO X hi th):PE X (.Subscript e (.Slice lo hi none p2) pos) (tSl r te tl th):=by
 intro pins s σ H Q I h;refine Subscript_ (thn (he pins s σ H _ I h) fun v s1 ⟨x,H1,I1,r1,q1⟩=>?_);refine wpAny_Slice (thn (hl pins s1 σ H1 _ I1 q1) fun vl s2 ⟨l,H2,I2,pl,q2⟩=>thn (hu pins s2 σ H2 _ I2 q2) fun vu s3 ⟨u,H3,I3,pu,q3⟩=>?_);rw[evalPart_none];refine wpAny_pure ?_;have I4:Inv X pins σ H3 {s3 with heap:=s3.heap.push {cls:= .type "slice",data:= .fields #[vl,vu,.none]}}:=I3.kept (t':=s3.toks) fun b ob q=>Heap.get?_push_of_some _ q;obtain⟨T,id,hT,ht,hg⟩:=hr pins {s3 with heap:=s3.heap.push {cls:= .type "slice",data:= .fields #[vl,vu,.none]}} σ H3 x v vl vu l u s3.heap.objs.size Q I4 r1 (Heap.IsSliceOf.new ..) pl pu q3;show wpAny (model X.prog X.w) X.A (subscriptTail e (.Slice lo hi none p2) v (.ref s3.heap.objs.size)) (EP X pins σ Q) X.xe {s3 with heap:=s3.heap.push {cls:= .type "slice",data:= .fields #[vl,vu,.none]}};exact tail_any (ops:=[.ref s3.heap.objs.size,v]) ht hT hg (by with_unfolding_all rfl)
noncomputable def Vz (xs:List V) (lo hi:Option Int):List V:=(xs.drop (HT.sIx xs.length 0 lo)).take (HT.sIx xs.length xs.length hi-HT.sIx xs.length 0 lo)
theorem ZcG(xs:List V)(lo hi:Option Int):(Vz xs lo hi).length≤xs.length:=by
 unfold Vz;rw[List.length_take,List.length_drop];omega
noncomputable def Zle (K:PySem.W.Frag):V→Option Int→Option Int→Hp→VK→Prop:=fun x lo hi H Q=>∃a xs,x= .ref a∧SqT K H a xs∧
 ¬(HT.sIx xs.length 0 lo=0∧HT.sIx xs.length xs.length hi=xs.length)∧∀p,H p=none→Q (.ref p) (upd H p (.tup (Vz xs lo hi)))
theorem ZlJ:SlR X (Zle X.K):=by
 intro pins s σ H x v vl vu lo hi sl Q I rx hs pl pu h;obtain⟨a,xs,rfl,hx,hw,q⟩:=h;cases rx;obtain⟨its,r,ht,hz⟩:=I.tuple hx;have hlen:its.toArray.size=xs.length:=by rw[List.size_toArray];exact r.length.symm
 refine⟨"tuple",_,PyProof.Rows.slot_tuple_getitem.lookup,ht.typeIs,?_⟩;refine HT.Zco ht hs pl pu (by rw[hlen];exact hw) ?_ (by rw[hlen];exact hz);rw[hlen];refine⟨.ref s.heap.objs.size,_,I.laid (t':=s.toks) (o:= .tup (Vz xs lo hi)) (fun b ob q=>Heap.get?_push_of_some _ q) (Nat.le_refl _) ?_,rfl,q _ (I.hok.fresh (Nat.le_refl _))⟩;exact⟨Nat.le_trans (ZcG xs lo hi) hz,_,(r.drop (HT.sIx xs.length 0 lo)).take (HT.sIx xs.length xs.length hi-HT.sIx xs.length 0 lo),IsTup.new _ _⟩
noncomputable def ZeL (K:PySem.W.Frag):R2:=fun x y H Q=>∃a b xs ys,x= .ref a∧y= .ref b∧SqT K H a xs∧SqT K H b ys∧xs≠[]∧xs.length+ys.length≤sizeLine∧
 (ys=[]→Q (.ref a) H)∧(ys≠[]→∀p,H p=none→Q (.ref p) (upd H p (.tup (xs++ys))))
theorem ZD.nil_iff{xs:List V}{us:List Value}(r:ZD xs us):us=[]↔xs=[]:=by
 cases r with
 |nil=>simp
 |cons _ _=>simp
theorem ZkQ:OpR X (binaryOp .Add) (ZeL X.K):=by
 intro pins s σ H x y v u Q I rx ry h;obtain⟨a,b,xs,ys,rfl,rfl,ha,hb,hx,hz,q1,q2⟩:=h;cases rx;cases ry;obtain⟨its,r1,p1,_⟩:=I.tuple ha;obtain⟨its2,r2,p2,_⟩:=I.tuple hb;refine HT.ZkE p1 p2 (fun z=>hx (r1.nil_iff.mp z)) (fun z=>⟨.ref a,H,I,rfl,q1 (r2.nil_iff.mp z)⟩) (fun z=>?_) (by rw[←r1.length,←r2.length];exact hz);refine⟨.ref s.heap.objs.size,_,I.laid (t':=s.toks) (o:= .tup (xs++ys)) (fun b ob q=>Heap.get?_push_of_some _ q) (Nat.le_refl _) ?_,rfl,q2 (fun w=>z (r2.nil_iff.mpr w)) _ (I.hok.fresh (Nat.le_refl _))⟩;exact⟨by rw[List.length_append];exact hz,_,r1.append r2,IsTup.new _ _⟩
end
end L2
namespace L2
open PySem PySem.Spec PyProof.Rows
noncomputable def ixN (n:Nat) (i:Int):Option Nat:=if 0≤i then(if i<n then some i.toNat else none) else if -(n:Int)≤i then some (i+n).toNat else none
noncomputable def atI {α:Type} (xs:List α) (i:Int):Option α:=(ixN xs.length i).bind fun j=>xs[j]?
theorem ZgK{n:Nat}{i:Int}{j:Nat}(h:ixN n i=some j):seqIndex? i n=some j∧j<n∧ -(n:Int)≤i∧i<n:=by
 unfold ixN at h
 by_cases h0:0≤i
 ·rw[if_pos h0] at h
  by_cases h1:i<n
  ·rw[if_pos h1] at h;have e:i.toNat=j:=Option.some.inj h;exact⟨by rw[seqIndex_of h0 h1,e],by omega,by omega,h1⟩
  ·rw[if_neg h1] at h;cases h
 ·rw[if_neg h0] at h
  by_cases h1: -(n:Int)≤i
  ·rw[if_pos h1] at h;have e:(i+n).toNat=j:=Option.some.inj h;exact⟨by rw[seqIndex_neg (by omega) h1,e],by omega,h1,by omega⟩
  ·rw[if_neg h1] at h;cases h
theorem Zcb{α:Type}{xs:List α}{i:Int}{v:α}(h:atI xs i=some v):∃j,seqIndex? i xs.length=some j∧xs[j]? =some v∧j<xs.length∧ -(xs.length:Int)≤i∧i<xs.length:=by
 unfold atI at h;cases e:ixN xs.length i with
 |none=>rw[e] at h;cases h
 |some j=>
  rw[e] at h;obtain⟨h1,h2,h3,h4⟩:=ZgK e;exact⟨j,h1,h,h2,h3,h4⟩
theorem Yu{α:Type}{xs:List α}{j:Nat}{v:α}(h:xs[j]? =some v):atI xs (j:Int)=some v:=by
 have hj:j<xs.length:=(List.getElem?_eq_some_iff.mp h).1;have e:ixN xs.length (j:Int)=some j:=by
  unfold ixN;rw[if_pos (by omega),if_pos (by omega)];simp
 unfold atI;rw[e];exact h
def ZkH(b:Expr):Prop:=∀o i,subscripted b false o i=operate [o,i] (getItem o i)
def IxR(X:Cx)(r:R2):Prop:=
 ∀(value slice:Expr)(pins:List (Addr×Obj))(s:Shared)(σ:St)(H:Hp)(x y:V)(v u:Value)(Q:VK),Inv X pins σ H s→ZF x v→ZF y u→r x y H Q→
  subscripted slice false v u=operate [v,u] (getItem v u)→wpAny (model X.prog X.w) X.A (subscriptTail value slice v u) (EP X pins σ Q) X.xe s
def MtR(X:Cx)(id:String)(r:V→List V→Hp→VK→Prop):Prop:=
 ∀(pins:List (Addr×Obj))(s:Shared)(σ:St)(H:Hp)(x:V)(xs:List V)(v:Value)(us:List Value)(Q:VK),Inv X pins σ H s→ZF x v→ZD xs us→r x xs H Q→
  wpAny (model X.prog X.w) X.A (call (.builtin id) (v::us)) (EP X pins σ Q) X.xe s
section
variable {X:Cx}{a b:Expr}{ta tb:TE}{pos:Pos}
theorem IxR.or{r r':R2}(h:IxR X r)(h':IxR X r'):IxR X (fun x y H Q=>r x y H Q∨r' x y H Q):=by
 intro value slice pins s σ H x y v u Q I rx ry q hs;rcases q with q|q
 ·exact h value slice pins s σ H x y v u Q I rx ry q hs
 ·exact h' value slice pins s σ H x y v u Q I rx ry q hs
theorem Zj{r:R2}(hr:IxR X r)(ha:PE X a ta)(hb:PE X b tb)(hs:ZkH b):PE X (.Subscript a b pos) (tOp r ta tb):=by
 intro pins s σ H Q I h;exact Subscript_ (Zjy ha hb I h fun v u s2 x y H2 I2 rx ry q=>hr a b pins s2 σ H2 x y v u Q I2 rx ry q (hs _ _))
noncomputable def ZdU (K:PySem.W.Frag):R2:=fun x y H Q=>∃p xs i v,x= .ref p∧y= .int i∧SqL K H p xs∧atI xs i=some v∧Q v H
noncomputable def Zjk (K:PySem.W.Frag):R2:=fun x y H Q=>∃p xs i v,x= .ref p∧y= .int i∧SqT K H p xs∧atI xs i=some v∧Q v H
noncomputable def rIxS:R2:=fun x y H Q=>∃z i c,x= .str z∧y= .int i∧z.length≤sizeLine∧atI z.cps.toList i=some c∧Q (.str ⟨#[c]⟩) H
theorem Zkz:IxR X (ZdU X.K):=by
 intro value slice pins s σ H x y v u Q I rx ry h hs;obtain⟨p,xs,i,z,rfl,rfl,hq,he,q⟩:=h;cases rx;obtain⟨t,rfl⟩:=ry;obtain⟨its,r,pl,hz⟩:=I.list hq;obtain⟨j,h1,h2,h3,h4,h5⟩:=Zcb he;obtain⟨w,ew,rw'⟩:=r.get h2;have hl:=r.length;have hn:=V1;have fin:EP X pins σ Q w s:=⟨z,H,I,rw',q⟩
 by_cases h0:0≤i
 ·have hj:i.toNat=j:=by
   rw[seqIndex_of h0 h5] at h1;exact Option.some.inj h1
  exact item_listR pl.isList h0 (by omega) (by rw[hj];simpa using ew) fin hs
 ·have hj:(i+(its.toArray.size:Int)).toNat=j:=by
   rw[seqIndex_neg (by omega) h4] at h1;rw[List.size_toArray,←hl];exact Option.some.inj h1
  exact subscriptTail_builtinR (x:=w) pl.isList.typeIs slot_list_getitem.lookup
   (wpAny_getItem_list_neg (Q:=fun r s'=>r=w∧EP X pins σ Q r s') pl.isList (by omega) (by rw[List.size_toArray]<;>omega) (by omega) (by rw[hj];simpa using ew) ⟨rfl,fin⟩) hs
theorem Zlk:IxR X (Zjk X.K):=by
 intro value slice pins s σ H x y v u Q I rx ry h hs;obtain⟨p,xs,i,z,rfl,rfl,hq,he,q⟩:=h;cases rx;obtain⟨t,rfl⟩:=ry;obtain⟨its,r,pl,hz⟩:=I.tuple hq;obtain⟨j,h1,h2,h3,h4,h5⟩:=Zcb he;obtain⟨w,ew,rw'⟩:=r.get h2;have hl:=r.length;have hn:=V1;have fin:EP X pins σ Q w s:=⟨z,H,I,rw',q⟩;exact subscriptTail_builtinR (x:=w) pl.typeIs slot_tuple_getitem.lookup
  (getItem_tuple (j:=j) (Q:=fun r s'=>r=w∧EP X pins σ Q r s') pl (by omega) (by omega) (by rw[List.size_toArray,←hl];exact h1) (by simpa using ew) ⟨rfl,fin⟩) hs
theorem ZlB:IxR X rIxS:=by
 intro value slice pins s σ H x y v u Q I rx ry h hs;obtain⟨z,i,c,rfl,rfl,hz,he,q⟩:=h;obtain⟨t,rfl⟩:=rx;obtain⟨t',rfl⟩:=ry;obtain⟨j,h1,h2,h3,h4,h5⟩:=Zcb he;have hl:z.cps.toList.length=z.length:=by simp[Str.length]
 rw[hl] at h1 h4 h5;have hn:=V1;exact tail_any (typeIs_str s z t) slot_str_getitem.lookup (getItem_str (c:=c) (by
  have e1:decide (i< -(2 ^ 63:Int))=false:=decide_eq_false (by omega);have e2:decide (i≥2 ^ 63)=false:=decide_eq_false (by omega);rw[e1,e2,Bool.or_false]) (by rw[h1];simpa using h2) ⟨.str ⟨#[c]⟩,H,I.tok _,⟨_,rfl⟩,q⟩) hs
noncomputable def rIx (K:PySem.W.Frag):R2:=fun x y H Q=>ZdU K x y H Q∨Zjk K x y H Q∨rIxS x y H Q
theorem Zlj:IxR X (rIx X.K):=Zkz.or (Zlk.or ZlB)
theorem Zhw(its:List Value)(n j:Nat)(u:Value):Obj.mapSeq (·.setIfInBounds j u) {cls:= .type "list",data:= .seq its.toArray n}={cls:= .type "list",data:= .seq (its.set j u).toArray n}:=by
 simp[Obj.mapSeq]
theorem Inv.lst{pins:List (Addr×Obj)}{σ:St}{H:Hp}{s:Shared}{p:Addr}{xs:List V}(I:Inv X pins σ H s)(h:H p=some (.lst xs)):
  ∃(its:List Value)(n:Nat),ZD xs its∧s.heap.get? p=some {cls:= .type "list",data:= .seq its.toArray n}∧xs.length≤sizeLine:=by
 obtain⟨z,its,n,r,e⟩:=I.hok p _ h;exact⟨its,n,r,e,z⟩
theorem Inv.lstUpd{pins:List (Addr×Obj)}{σ:St}{H:Hp}{s:Shared}{p:Addr}{xs ys:List V}{its its':List Value}{n n':Nat}{f:Obj→Obj}(I:Inv X pins σ H s)(h:H p=some (.lst xs))
  (ho:s.heap.get? p=some {cls:= .type "list",data:= .seq its.toArray n}) (hf:f {cls:= .type "list",data:= .seq its.toArray n}={cls:= .type "list",data:= .seq its'.toArray n'}) (r:ZD ys its') (hz:ys.length≤sizeLine) (t:Nat):
  Inv X pins σ (upd H p (.lst ys)) {s with heap:=s.heap.update p f,toks:=t}:=by
 have e:(s.heap.update p f).get? p=some {cls:= .type "list",data:= .seq its'.toArray n'}:=by
  rw[Heap.get?_update_self f ho (by rw[hf]<;>rfl),hf]
 refine I.write (x:=p) (e:=p) (by rw[h];trivial) (.inl rfl) (fun b u hb q=>(Heap.get?_update_other _ _ (Ne.symm hb)).trans q) ⟨_,e⟩ ?_;exact⟨hz,its',n',r,e⟩
noncomputable def rSetL:V→V→V→Hp→(Hp→Prop)→Prop:=fun o i v H Q=>∃p xs k j,o= .ref p∧i= .int k∧H p=some (.lst xs)∧ixN xs.length k=some j∧Q (upd H p (.lst (xs.set j v)))
theorem Wp:Zhb X rSetL:=by
 intro pins s σ H o i v ov iv u Q I ro ri rv h;obtain⟨p,xs,k,j,rfl,rfl,hp,hj,q⟩:=h;cases ro;obtain⟨t,rfl⟩:=ri;obtain⟨its,n,r,ho,hz⟩:=I.lst hp;obtain⟨h1,h2,h3,h4⟩:=ZgK hj;have hl:=r.length;have hn:=V1;have I':Inv X pins σ (upd H p (.lst (xs.set j v))) {s with heap:=s.heap.update p (Obj.mapSeq (·.setIfInBounds j u))}:=
  I.lstUpd hp ho (Zhw its n j u) (r.set rv j) (by rw[List.length_set];exact hz) s.toks
 by_cases h0:0≤k
 ·have hk:k.toNat=j:=by
   rw[seqIndex_of h0 h4] at h1;exact Option.some.inj h1
  exact PySem.W.ki_setAt ho h0 (by omega) (by rw[List.size_toArray,←hl];exact h4) (by rw[hk];exact⟨_,I',q⟩)
 ·have hk:(k+(its.toArray.size:Int)).toNat=j:=by
   rw[seqIndex_neg (by omega) h3] at h1;rw[List.size_toArray,←hl];exact Option.some.inj h1
  exact PySem.W.ki_setBack ho (by omega) (by rw[List.size_toArray,←hl];exact h3) (by omega) (by rw[hk];exact⟨_,I',q⟩)
theorem ZfG(lo hi:Option Int)(n:Nat):(sliceBounds lo hi none n).1=((HT.sIx n 0 lo:Nat):Int)∧(sliceBounds lo hi none n).2.1=((HT.sIx n n hi:Nat):Int)∧(sliceBounds lo hi none n).2.2=1:=by
 refine⟨?_,?_,rfl⟩
 ·cases lo with
  |none=>simp[sliceBounds,HT.sIx]
  |some i=>
   simp only[sliceBounds,HT.sIx,Option.getD_none,show(1:Int) > 0 by decide,if_true]
   by_cases h:i<0
   ·simp only[h,if_true]<;>omega
   ·simp only[h,if_false]<;>omega
 ·cases hi with
  |none=>simp[sliceBounds,HT.sIx]
  |some i=>
   simp only[sliceBounds,HT.sIx,Option.getD_none,show(1:Int) > 0 by decide,if_true]
   by_cases h:i<0
   ·simp only[h,if_true]<;>omega
   ·simp only[h,if_false]<;>omega
theorem ZeA(its:List Value)(lo hi:Option Int):slicePick its.toArray lo hi none=((its.drop (HT.sIx its.length 0 lo)).take (HT.sIx its.length its.length hi-HT.sIx its.length 0 lo)).toArray:=by
 obtain⟨h1,h2,h3⟩:=ZfG lo hi its.toArray.size;unfold slicePick;rw[h1,h2,h3];simp only[sliceRange_one,pick_run,List.size_toArray]<;>rfl
noncomputable def Zlq (K:PySem.W.Frag):V→Option Int→Option Int→Hp→VK→Prop:=fun x lo hi H Q=>∃a xs,x= .ref a∧SqL K H a xs∧∀p,H p=none→Q (.ref p) (upd H p (.lst (Vz xs lo hi)))
theorem ZkD:SlR X (Zlq X.K):=by
 intro pins s σ H x v vl vu lo hi sl Q I rx hs pl pu h;obtain⟨a,xs,rfl,hx,q⟩:=h;cases rx;obtain⟨its,r,ht,hz⟩:=I.list hx;have hlen:=r.length;refine⟨"list",_,slot_list_getitem.lookup,ht.isList.typeIs,?_⟩;refine wpAny_getItem_list_slice ht.isList hs pl pu .none (by simp) ?_ (by rw[List.size_toArray]<;>omega);rw[ZeA,←hlen];refine⟨.ref s.heap.objs.size,_,I.laid (t':=s.toks) (o:= .lst (Vz xs lo hi)) (fun b ob q=>Heap.get?_push_of_some _ q) (Nat.le_refl _) ?_,rfl,q _ (I.hok.fresh (Nat.le_refl _))⟩;exact⟨Nat.le_trans (ZcG xs lo hi) hz,_,0,(r.drop (HT.sIx xs.length 0 lo)).take (HT.sIx xs.length xs.length hi-HT.sIx xs.length 0 lo),Heap.get?_push_size _ rfl⟩
noncomputable def Uz:V→Bool
 | .non=>true
 | .bl _=>true
 | .int _=>true
 | .str _=>true
 |_=>false
noncomputable def eqV:V→V→Bool
 | .non,.non=>true
 | .bl a,.bl b=>a==b
 | .bl a,.int b=>(if a then 1 else 0)==b
 | .int a,.bl b=>a==(if b then 1 else 0)
 | .int a,.int b=>a==b
 | .str a,.str b=>a==b
 |_,_=>false
theorem ZkS{A:Around}{s:Shared}{y x:V}{u v:Value}(ry:ZF y u)(rx:ZF x v)(fy:Uz y=true)(fx:Uz x=true):SeqAt.EqAt A s u v (eqV y x):=by
 cases y with
 |non=>
  cases ry;cases x with
  |non=>cases rx;exact SeqAt.EqAt.same _
  |bl b=>cases rx;exact SeqAt.EqAt.none_bool b
  |int b=>obtain⟨t,rfl⟩:=rx;exact SeqAt.EqAt.none_int b t
  |str b=>obtain⟨t,rfl⟩:=rx;exact SeqAt.EqAt.none_str b t
  |_=>exact absurd (show false=true from fx) Bool.false_ne_true
 |bl a=>
  cases ry;cases x with
  |non=>cases rx;exact SeqAt.EqAt.bool_none a
  |bl b=>cases rx;exact SeqAt.EqAt.bool_bool a b
  |int b=>obtain⟨t,rfl⟩:=rx;exact SeqAt.EqAt.bool_int a b t
  |str b=>obtain⟨t,rfl⟩:=rx;exact SeqAt.EqAt.bool_str a b t
  |_=>exact absurd (show false=true from fx) Bool.false_ne_true
 |int a=>
  obtain⟨t',rfl⟩:=ry;cases x with
  |non=>cases rx;exact SeqAt.EqAt.int_none a t'
  |bl b=>cases rx;exact SeqAt.EqAt.int_bool a t' b
  |int b=>obtain⟨t,rfl⟩:=rx;exact SeqAt.EqAt.int_int a t' b t
  |str b=>obtain⟨t,rfl⟩:=rx;exact SeqAt.EqAt.int_str a t' b t
  |_=>exact absurd (show false=true from fx) Bool.false_ne_true
 |str a=>
  obtain⟨t',rfl⟩:=ry;cases x with
  |non=>cases rx;exact SeqAt.EqAt.str_none a t'
  |bl b=>cases rx;exact SeqAt.EqAt.str_bool a t' b
  |int b=>obtain⟨t,rfl⟩:=rx;exact SeqAt.EqAt.str_int a t' b t
  |str b=>obtain⟨t,rfl⟩:=rx;exact SeqAt.EqAt.str_str a t' b t
  |_=>exact absurd (show false=true from fx) Bool.false_ne_true
 |_=>exact absurd (show false=true from fy) Bool.false_ne_true
noncomputable def eqU (x:V) (u:Value):Bool:=match u with
 | .none=>eqV .non x
 | .bool b=>eqV (.bl b) x
 | .int i _=>eqV (.int i) x
 | .str z _=>eqV (.str z) x
 |_=>false
theorem Zip{x y:V}{u:Value}(r:ZF y u)(f:Uz y=true):eqU x u=eqV y x:=by
 cases y with
 |non=>cases r;rfl
 |bl b=>cases r;rfl
 |int i=>obtain⟨t,rfl⟩:=r;rfl
 |str z=>obtain⟨t,rfl⟩:=r;rfl
 |_=>exact absurd (show false=true from f) Bool.false_ne_true
theorem ZaQ{x:V}:∀{xs:List V}{us:List Value},ZD xs us→xs.all Uz=true→us.any (eqU x)=xs.any fun y=>eqV y x
 |_,_,.nil,_=>rfl
 |y::xs,u::us,.cons r t,f=>by
  rw[List.all_cons,Bool.and_eq_true] at f;rw[List.any_cons,List.any_cons,Zip r f.1,ZaQ t f.2]
theorem Zam{A:Around}{s:Shared}{x:V}{v:Value}(rx:ZF x v)(fx:Uz x=true):∀{xs:List V}{us:List Value},ZD xs us→xs.all Uz=true→∀u∈us,SeqAt.EqAt A s u v (eqU x u)
 |_,_,.nil,_=>fun u hu=>by cases hu
 |y::xs,u::us,.cons r t,f=>fun u' hu=>by
  rw[List.all_cons,Bool.and_eq_true] at f;rcases List.mem_cons.mp hu with rfl|hu
  ·rw[Zip r f.1];exact ZkS r rx f.1 fx
  ·exact Zam rx fx t f.2 u' hu
noncomputable def inV (x:V) (xs:List V):Bool:=xs.any fun y=>eqV y x
noncomputable def rIn (K:PySem.W.Frag) (neg:Bool):R2:=fun x y H Q=>∃p xs,y= .ref p∧(SqL K H p xs∨SqT K H p xs)∧Uz x=true∧xs.all Uz=true∧Q (.bl (if neg then !inV x xs else inV x xs)) H
theorem Zix:OpR X (compareOp .In) (rIn X.K false):=by
 intro pins s σ H x y v u Q I rx ry h;obtain⟨p,xs,rfl,hq,fx,fs,q⟩:=h;cases ry;rcases hq with hq|hq
 ·obtain⟨its,r,pl,hz⟩:=I.list hq;refine SeqAt.in_listAt (eqU x) pl.isList (fun w hw=>Zam rx fx r fs w (by simpa using hw)) ⟨.bl _,H,I,rfl,?_⟩;rw[show its.toArray.any (eqU x)=its.any (eqU x) by simp,ZaQ r fs];exact q
 ·obtain⟨its,r,pl,hz⟩:=I.tuple hq;refine SeqAt.in_tupleAt (eqU x) pl (fun w hw=>Zam rx fx r fs w (by simpa using hw)) ⟨.bl _,H,I,rfl,?_⟩;rw[show its.toArray.any (eqU x)=its.any (eqU x) by simp,ZaQ r fs];exact q
theorem Zfr:OpR X (compareOp .NotIn) (rIn X.K true):=by
 intro pins s σ H x y v u Q I rx ry h;obtain⟨p,xs,rfl,hq,fx,fs,q⟩:=h;cases ry;rcases hq with hq|hq
 ·obtain⟨its,r,pl,hz⟩:=I.list hq;refine SeqAt.notIn_listAt (eqU x) pl.isList (fun w hw=>Zam rx fx r fs w (by simpa using hw)) ⟨.bl _,H,I,rfl,?_⟩;rw[show its.toArray.any (eqU x)=its.any (eqU x) by simp,ZaQ r fs];exact q
 ·obtain⟨its,r,pl,hz⟩:=I.tuple hq;refine SeqAt.notIn_tupleAt (eqU x) pl (fun w hw=>Zam rx fx r fs w (by simpa using hw)) ⟨.bl _,H,I,rfl,?_⟩;rw[show its.toArray.any (eqU x)=its.any (eqU x) by simp,ZaQ r fs];exact q
theorem Zfi:Wi X (.type "list") (fun xs H Q=>∃p ys,xs=[.ref p]∧(SqL X.K H p ys∨SqT X.K H p ys)∧∀l,H l=none→Q (.ref l) (upd H l (.lst ys))):=by
 intro pins s σ H xs us Q I r h;obtain⟨p,ys,rfl,hq,q⟩:=h;obtain⟨u,rfl,rx⟩:=WO r;cases rx;have fin:∀(its:List Value),ZD ys its→ys.length≤sizeLine→∀(h':Heap)(c':Nat),(∀b o',s.heap.get? b=some o'→h'.get? b=some o')→
   h'.get? s.heap.objs.size=some {cls:= .type "list",dict:=none,data:= .seq its.toArray c',slots:=#[]}→EP X pins σ Q (.ref s.heap.objs.size) {s with heap:=h'}:=fun its r' hz h' c' kp e=>
  ⟨.ref s.heap.objs.size,_,I.laid (t':=s.toks) kp (Nat.le_refl _) (show Z1 X.prog X.w _ h' _ (.lst ys) from⟨hz,its,c',r',e⟩),rfl,q _ (I.hok.fresh (Nat.le_refl _))⟩
 rcases hq with hq|hq
 ·obtain⟨its,r',pl,hz⟩:=I.list hq;have hlen:=r'.length;obtain⟨o,ho,hc,n,hd⟩:=pl.isList;exact call_list_seq p (.inl rfl) ho hc hd (fun h' c' kp e=>fin its r' hz h' c' kp e) (by simp only[List.size_toArray]<;>omega)
 ·obtain⟨its,r',pl,hz⟩:=I.tuple hq;have hlen:=r'.length;obtain⟨o,ho,hc,n,hd⟩:=pl;exact call_list_seq p (.inr rfl) ho hc hd (fun h' c' kp e=>fin its r' hz h' c' kp e) (by simp only[List.size_toArray]<;>omega)
def tyV(K:PySem.W.Frag)(T:String)(x:V)(H:Hp):Prop:=match x with
 | .str _=>T="str"
 | .int _=>T="int"
 | .ref p=>(T="list" ∧∃xs,SqL K H p xs)∨(T="tuple" ∧∃o,K.lookup p=some o∧o.cls= .type "tuple" ∧o.dict=none)∨
   (T="dict" ∧((∃kvs,H p=some (.dK kvs))∨∃kvs,H p=some (.dT kvs)))∨(T="set" ∧∃S n,H p=some (.set S n))
 |_=>False
theorem Zlp{pins:List (Addr×Obj)}{σ:St}{H:Hp}{s:Shared}{T:String}{x:V}{v:Value}(I:Inv X pins σ H s)(r:ZF x v)(ty:tyV X.K T x H):
  s.TypeIs v T∧∀a,v= .ref a→∃ob,s.heap.get? a=some ob∧ob.dict=none:=by
 cases x with
 |str z=>
  obtain⟨t,rfl⟩:=r;cases (show T="str" from ty);exact⟨typeIs_str s z t,fun _ e=>nomatch e⟩
 |int i=>
  obtain⟨t,rfl⟩:=r;cases (show T="int" from ty);exact⟨typeIs_int s i t,fun _ e=>nomatch e⟩
 |ref p=>
  cases r;rcases ty with⟨rfl,xs,hq⟩|⟨rfl,o,hk,hc,hd⟩|⟨rfl,hk⟩|⟨rfl,S,n,hk⟩
  ·obtain⟨its,_,pl,_⟩:=I.list hq;refine⟨pl.isList.typeIs,fun a e=>?_⟩;cases e;obtain⟨o,n,e,c,hd,_⟩:=pl;exact⟨o,e,hd⟩
  ·refine⟨⟨o,I.kIn p o hk,hc⟩,fun a e=>?_⟩;cases e;exact⟨o,I.kIn _ o hk,hd⟩
  ·have z:∃o,s.heap.get? p=some o∧o.ExactDict:=by
    rcases hk with⟨kvs,hk⟩|⟨kvs,hk⟩
    ·obtain⟨_,_,_,_,o,_,_,e,ex,_⟩:=I.hok p _ hk;exact⟨o,e,ex⟩
    ·obtain⟨_,_,_,_,o,_,_,e,ex,_⟩:=I.hok p _ hk;exact⟨o,e,ex⟩
   obtain⟨o,e,ex⟩:=z;refine⟨⟨o,e,ex.1⟩,fun a e2=>?_⟩;cases e2;exact⟨o,e,ex.2.1⟩
  ·obtain⟨o,_,_,_,e,ex,_⟩:=I.hok p _ hk;refine⟨⟨o,e,ex.1⟩,fun a e2=>?_⟩;cases e2;exact⟨o,e,ex.2.1⟩
 |_=>exact False.elim ty
noncomputable def tBM (K:PySem.W.Frag) (T:String) (r:V→List V→Hp→VK→Prop) (to:TE) (t:TA):TE:=fun σ H Q=>to σ H fun x H1=>tyV K T x H1∧t σ H1 fun xs H2=>r x xs H2 Q
variable {o e:Expr}{es:List Expr}{to:TE}{t:TA}{name:Str}{apos cpos:Pos}{T id:String}{r:V→List V→Hp→VK→Prop}
theorem Zl7(pa:PlainAttrs T)(slot:Slot T name id)(hty:typeOf (.builtin id)=pure (.type "method_descriptor"))(hm:MtR X id r)(ho:PE X o to)(ha:PA X (e::es) t)
  (hbase:attributeBase o name X.env (eval o X.env)=eval o X.env:=by rfl)
  (hfew:((backTo cpos (starEach (e::es) X.env)).all (fun x=>!x.1)&&(backToKw cpos (keywordEach [] X.env)).all (fun x=>x.1.isSome)
   &&decide ((e::es).length+([]:List Keyword).length+(if([]:List Keyword).isEmpty then 0 else 1)<30))=true:=by rfl)
  (hline:(apos.endLine==cpos.line)=true:=by rfl) (hs:starEach (e::es) X.env=(false,eval e X.env)::starEach es X.env:=by rfl) (hplain:(backTo cpos (starEach es X.env)).any (·.1)=false:=by rfl):
  PE X (.Call (.Attribute o name apos) (e::es) [] cpos) (tBM X.K T r to t):=by
 intro pins s σ H Q I h;refine wpAny_Call_method_late hbase hfew hline rfl (thn (ho pins s σ H _ I h) fun v s1 ⟨x,H1,I1,r1,ty,q1⟩=>?_);obtain⟨h1,h2⟩:=Zlp I1 r1 ty;refine⟨T,id,pa,slot,hty,h1,h2,?_⟩;have hA:=ha cpos pins s1 σ H1 _ I1 q1;rw[hs] at hA⊢;refine Calls.callWith_builtin (by show(false||(backTo cpos (starEach es X.env)).any (·.1))=false;rw[hplain]<;>rfl) (Calls.evalArgs_plain ?_);exact thn hA fun us s2 ⟨vs,H2,I2,r2,q2⟩=>hm pins s2 σ H2 x vs v us Q I2 r1 r2 q2
end
end L2
namespace L2
open PySem PySem.Spec PyProof.Rows
def MtM(X:Cx)(id:String)(r:V→List V→Hp→VK→Prop):Prop:=
 ∀(pins:List (Addr×Obj))(s:Shared)(σ:St)(H:Hp)(x:V)(xs:List V)(v:Value)(us:List Value)(Q:VK),Inv X pins σ H s→ZF x v→ZD xs us→r x xs H Q→
  wpAny (model X.prog X.w) X.A (call (.builtin id) (v::us)) (EP X pins σ Q) X.xe s
theorem ZD.one:∀{x:V}{us:List Value},ZD [x] us→∃u,us=[u]∧ZF x u
 |_,_,.cons r .nil=>⟨_,rfl,r⟩
theorem ZD.two:∀{x y:V}{us:List Value},ZD [x,y] us→∃u v,us=[u,v]∧ZF x u∧ZF y v
 |_,_,_,.cons r (.cons q .nil)=>⟨_,_,rfl,r,q⟩
theorem ZD.eraseIdx:∀{xs:List V}{us:List Value}(i:Nat),ZD xs us→ZD (xs.eraseIdx i) (us.eraseIdx i)
 |_,_,_,.nil=> .nil
 |_,_,0,.cons _ t=>t
 |_,_,i+1,.cons r t=> .cons r (ZD.eraseIdx i t)
theorem ZD.rep{xs:List V}{us:List Value}(h:ZD xs us):∀k:Nat,ZD (List.replicate k xs).flatten (List.replicate k us).flatten
 |0=> .nil
 |k+1=>by
  rw[List.replicate_succ,List.replicate_succ,List.flatten_cons,List.flatten_cons];exact ZD.append h (ZD.rep h k)
theorem Zd6{α:Type}:∀(l:List α)(i:Nat),(l.eraseIdx i).length≤l.length
 | [],_=>Nat.le_refl _
 |_::_,0=>Nat.le_succ _
 |_::r,i+1=>Nat.succ_le_succ (Zd6 r i)
theorem Zev(its:List Value):∀(k:Nat)(acc:List Value),
  List.foldl (fun x1 x2=>x1++x2) acc.toArray (List.replicate k its.toArray)=(acc++(List.replicate k its).flatten).toArray
 |0,acc=>by simp
 |k+1,acc=>by
  have e:acc.toArray++its.toArray=(acc++its).toArray:=by simp
  have e2:(acc++its)++(List.replicate k its).flatten=acc++(List.replicate (k+1) its).flatten:=by
   rw[List.replicate_succ,List.flatten_cons,List.append_assoc]
  rw[←e2,←Zev its k (acc++its),←e,List.replicate_succ,List.foldl_cons]
section
variable {X:Cx}{pins:List (Addr×Obj)}{σ:St}{H:Hp}{s:Shared}{l b:Addr}{xs ys zs:List V}
theorem Inv.lset{its its':List Value}{n:Nat}{f:Array Value→Array Value}{t':Nat}(I:Inv X pins σ H s)(hH:H l=some (.lst xs))
  (e:s.heap.get? l=some {cls:= .type "list",data:= .seq its.toArray n}) (hf:f its.toArray=its'.toArray) (hv:ZD ys its') (hz:ys.length≤sizeLine):
  Inv X pins σ (upd H l (.lst ys)) {s with heap:=s.heap.update l (Obj.mapSeq f),toks:=t'}:=by
 have q:=PySem.IsL.update e f;rw[hf] at q;refine I.write (x:=l) (e:=l) (by rw[hH];exact trivial) (.inl rfl) (fun b' u hb hu=>(Heap.get?_update_other s.heap (Obj.mapSeq f) (Ne.symm hb)).trans hu) ⟨_,q⟩ ?_;exact⟨hz,its',_,hv,q⟩
theorem Inv.lnew{its:List Value}{t':Nat}(I:Inv X pins σ H s)(hv:ZD ys its)(hz:ys.length≤sizeLine):
  Inv X pins σ (upd H s.heap.objs.size (.lst ys)) {s with heap:=s.heap.push {cls:= .type "list",data:= .seq its.toArray},toks:=t'}:=
 I.laid (fun _ _ q=>Heap.get?_push_of_some _ q) (Nat.le_refl _) ⟨hz,its,0,hv,Heap.get?_push_size _ rfl⟩
theorem Inv.fresh(I:Inv X pins σ H s):H s.heap.objs.size=none:=I.hok.fresh (Nat.le_refl _)
theorem Inv.lstM(I:Inv X pins σ H s)(hH:H l=some (.lst xs)):xs.length≤sizeLine∧∃(its:List Value)(n:Nat),ZD xs its∧xs.length=its.length∧s.heap.get? l=some {cls:= .type "list",data:= .seq its.toArray n}:=by
 obtain⟨z,its,n,r,e⟩:=I.hok l _ hH;exact⟨z,its,n,r,r.length,e⟩
theorem Ze6{n:Nat}(h:n≤sizeLine):Builtin.List.listTooLong n=false:=by
 unfold Builtin.List.listTooLong;exact decide_eq_false (by omega)
end
section
variable {X:Cx}
noncomputable def rAppend:V→List V→Hp→VK→Prop:=fun x vs H Q=>∃l xs y,x= .ref l∧vs=[y]∧H l=some (.lst xs)∧xs.length<sizeLine∧Q .non (upd H l (.lst (xs++ [y])))
theorem Yg:MtM X "list.append" rAppend:=by
 intro pins s σ H x vs v us Q I rx rv h;obtain⟨l,xs,y,rfl,rfl,hH,hz,q⟩:=h;cases rx;obtain⟨u,rfl,ru⟩:=rv.one;obtain⟨z,its,n,r,hl,e⟩:=I.lstM hH;refine call_meets F.slot_list_append ⟨_,e,rfl⟩ F.entry_list_append (F.args_list_append_2 _ _) (PySem.list_append l its.toArray n u (by rw[List.size_toArray];omega)) ⟨e,?_⟩;refine⟨.non,_,I.lset (its':=its++ [u]) hH e (by simp) (r.append (.cons ru .nil)) ?_,rfl,q⟩;rw[List.length_append,List.length_singleton];omega
noncomputable def rExtend:V→List V→Hp→VK→Prop:=fun x vs H Q=>∃l b xs zs,x= .ref l∧vs=[.ref b]∧H l=some (.lst xs)∧H b=some (.lst zs)∧xs.length+zs.length≤sizeLine∧Q .non (upd H l (.lst (xs++zs)))
theorem Zmu:MtM X "list.extend" rExtend:=by
 intro pins s σ H x vs v us Q I rx rv h;obtain⟨l,b,xs,zs,rfl,rfl,hH,hB,hz,q⟩:=h;cases rx;obtain⟨u,rfl,ru⟩:=rv.one;cases ru;obtain⟨z,its,n,r,hl,e⟩:=I.lstM hH;obtain⟨z2,its2,n2,r2,hl2,e2⟩:=I.lstM hB;have hsz:its.toArray.size+its2.toArray.size≤sizeLine:=by rw[List.size_toArray,List.size_toArray];omega
 have hlong:¬(!its.toArray.isEmpty&&Builtin.List.listTooLong (its.toArray.size+its2.toArray.size))=true:=by
  rw[Ze6 hsz,Bool.and_false];exact Bool.false_ne_true
 refine call_meets F.slot_list_extend ⟨_,e,rfl⟩ F.entry_list_extend (F.args_list_extend_2 _ _)
  (AutoSeq1.list_extend_list_list_0 l its.toArray n b its2.toArray n2 hlong (by rw[List.size_toArray];omega) (by omega)) ⟨e,e2,?_⟩
 refine⟨.non,_,I.lset (its':=its++its2) hH e (by simp) (r.append r2) ?_,rfl,q⟩;rw[List.length_append];omega
noncomputable def rPopAt:V→List V→Hp→VK→Prop:=fun x vs H Q=>∃l xs i k y,x= .ref l∧vs=[.int i]∧H l=some (.lst xs)∧ -(2 ^ 63)≤i∧i<2 ^ 63∧seqIndex? i xs.length=some k∧xs[k]? =some y∧Q y (upd H l (.lst (xs.eraseIdx k)))
theorem ZjO:MtM X "list.pop" rPopAt:=by
 intro pins s σ H x vs v us Q I rx rv h;obtain⟨l,xs,i,k,y,rfl,rfl,hH,h1,h2,hk,hy,q⟩:=h;cases rx;obtain⟨u,rfl,ru⟩:=rv.one;obtain⟨t,rfl⟩:=ru;obtain⟨z,its,n,r,hl,e⟩:=I.lstM hH;obtain⟨w,hw,rw'⟩:=r.get hy;refine call_meets F.slot_list_pop ⟨_,e,rfl⟩ F.entry_list_pop (F.args_list_pop_2 _ _)
  (MeetsSeq.list_pop_at l its.toArray n i t k w (fitsIndex_both h1 h2) (by rw[List.size_toArray,←hl];exact hk) (by rw[←Array.getElem?_toList];exact hw) (by rw[List.size_toArray];omega)) ⟨e,?_⟩
 refine⟨y,_,I.lset (its':=its.eraseIdx k) hH e ?_ (r.eraseIdx k) ?_,rw',q⟩
 ·show its.toArray.eraseIdxIfInBounds k=(its.eraseIdx k).toArray;rw[List.eraseIdxIfInBounds_toArray]
 ·have:=Zd6 xs k;omega
noncomputable def rCat:R2:=fun x y H Q=>∃l b xs zs,x= .ref l∧y= .ref b∧H l=some (.lst xs)∧H b=some (.lst zs)∧xs.length+zs.length≤sizeLine∧∀p,H p=none→Q (.ref p) (upd H p (.lst (xs++zs)))
theorem ZlP:OpR X (binaryOp .Add) rCat:=by
 intro pins s σ H x y v u Q I rx ry h;obtain⟨l,b,xs,zs,rfl,rfl,hH,hB,hz,q⟩:=h;cases rx;cases ry;obtain⟨z,its,n,r,hl,e⟩:=I.lstM hH;obtain⟨z2,its2,n2,r2,hl2,e2⟩:=I.lstM hB;refine PySem.P.add_list e e2 ?_ (by rw[List.size_toArray,List.size_toArray];omega);have ea:its.toArray++its2.toArray=(its++its2).toArray:=by simp
 rw[ea];exact⟨.ref _,_,I.lnew (t':=s.toks) (r.append r2) (by rw[List.length_append];omega),rfl,q _ I.fresh⟩
noncomputable def rRep:R2:=fun x y H Q=>∃l k xs,x= .ref l∧y= .int k∧H l=some (.lst xs)∧ -(2 ^ 63)≤k∧k<2 ^ 63∧xs.length*k.toNat≤sizeLine∧
 ∀p,H p=none→Q (.ref p) (upd H p (.lst (List.replicate k.toNat xs).flatten))
theorem ZkL{α:Type}(xs:List α)(k:Nat):(List.replicate k xs).flatten.length=k*xs.length:=by
 induction k with
 |zero=>simp
 |succ k ih=>rw[List.replicate_succ,List.flatten_cons,List.length_append,ih,Nat.succ_mul,Nat.add_comm]
theorem ZlM:OpR X (binaryOp .Mult) rRep:=by
 intro pins s σ H x y v u Q I rx ry h;obtain⟨l,k,xs,rfl,rfl,hH,h1,h2,hz,q⟩:=h;cases rx;obtain⟨t,rfl⟩:=ry;obtain⟨z,its,n,r,hl,e⟩:=I.lstM hH;have hlen:its.toArray.size*k.toNat≤sizeLine:=by rw[List.size_toArray,←hl];exact hz
 have hcap:¬its.toArray.size*k.toNat > (2 ^ 63-1) / 8:=by
  have:(sizeLine:Nat)≤(2 ^ 63-1) / 8:=by decide
  omega
 have hfit:¬(!Builtin.List.listFitsIndex k)=true:=by
  rw[fitsIndex_both h1 h2];exact Bool.false_ne_true
 have hlong:¬Builtin.List.listTooLong (its.toArray.size*k.toNat)=true:=by
  rw[Ze6 hlen];exact Bool.false_ne_true
 have hnew:List.foldl (fun x1 x2=>x1++x2) #[] (List.replicate (if its.toArray.isEmpty=true then 0 else k.toNat) its.toArray)=(List.replicate k.toNat its).flatten.toArray:=by
  have f0:∀m:Nat,List.foldl (fun x1 x2=>x1++x2) #[] (List.replicate m its.toArray)=(List.replicate m its).flatten.toArray:=fun m=>by
   have:=Zev its m [];rw[List.nil_append] at this;exact this
  rw[f0];cases its with
  |nil=>simp
  |cons a r'=>rw[if_neg (by simp)]
 refine wpAny_binaryOp_repeat_ref (T:="list") (U:="int") (by decide) ⟨_,e,rfl⟩ (fun s'=>typeIs_int s' k t) noFill_list_mul F.fills_int_mul F.slot_int_rmul repeat_list F.slot_int_index.lookup
  (call_meets F.slot_int_rmul (typeIs_int s k t) F.entry_int_rmul (F.args_int_rmul_2 _ _) (int___rmul___int_list k t l its.toArray n)
   ⟨e,rfl,⟨_,e,rfl⟩,call_meets F.slot_list_mul ⟨_,e,rfl⟩ F.entry_list_mul (F.args_list_mul_2 _ _) (AutoListH.list___mul___list_int_3 l its.toArray n k t hfit hcap hlong) ⟨e,?_⟩⟩)
 rw[hnew];exact⟨.ref _,_,I.lnew (t':=s.toks) (r.rep k.toNat) (by rw[ZkL,Nat.mul_comm];exact hz),rfl,q _ I.fresh⟩
end
section
variable {prog:Program}{w:World}{A:Around}{E:Value→Shared→Prop}{s:Shared}
end
section
variable {X:Cx}
end
end L2
namespace Att
open PySem PySem.W PySem.Calls PyProof.Rows
theorem ZdH{P:Params}{h:Heap}:∀(ns:List Int)(vs:List Value),WellAll P h vs (ns.map WData.int)→IntsAre vs ns:=by
 intro ns
 induction ns with
 |nil=>
  intro vs w;rw[List.map_nil] at w;cases w;exact .nil
 |cons n ns ih=>
  intro vs w;rw[List.map_cons] at w;cases w with
  |cons a b=>
   cases a;exact .cons _ _ (ih _ b)
theorem ZiH{l:OpenLaw}{n:Nat}(hn:l.most=some n){P:Params}{h:Heap}{args:List WData}{vals:List Value}
  (hpre:l.row.toRowW.claim.pre args=true) (hwl:WellAll P h vals args):
  ∃a vs ns,vals=[Value.ref a]∧args=[WData.list (ns.map WData.int)]∧h.get? a=some {cls:= .type "list",data:= .seq vs.toArray}∧IntsAre vs ns∧ns.length≤n:=by
 have hsh:WShape.hasAll [] args [.list .int]=true:=(pre_splitW hpre).1;have hc:l.pre.holds [] {args:=args}=true:=(pre_splitW hpre).2;obtain⟨d,r,rfl,h1,h2⟩:=hasAllW_cons hsh;obtain rfl:=hasAllW_nil h2;obtain⟨xs,rfl,h3⟩:=hasW_list h1;obtain⟨ns,rfl⟩:=items_int h3;have hlen:ns.length≤n:=by
  unfold OpenLaw.pre at hc;have h4:(WTm.not (.lt (.lit (.int (n:Int))) (.len (.arg 0)))).holds [] {args:=[.list (ns.map .int)]}=true:=by
   have h4:=(holds_andW hc).1;rw[hn] at h4;exact h4
  have h5:=condW_of h4 (w_not (w_lt w_lit (w_len_list (w_arg rfl))));rw[List.length_map] at h5;refine Nat.le_of_not_lt fun q=>?_;have q':(n:Int)<((ns.length:Nat):Int):=by omega
  first
   |(rw[decide_eq_true q'] at h5;exact absurd h5 (by decide))
   |(simp at h5;omega)
 cases hwl with
 |cons w1 w2=>
  cases w2;cases w1 with
  |list ho hall=>exact⟨_,_,ns,rfl,rfl,ho,ZdH ns _ hall,hlen⟩
theorem Zit(l:OpenLaw)(args:List WData):l.row.toRowW.claim.post args (.bool true) args=true:=
 postW_of (r:=l.row.toRowW) (X:=(true==true))
  (show WShape.has [] (.bool true) .bool=true by first|rfl|decide|simp[WShape.has,WShape.arms,WShape.armsAll])
  (show(WTm.eq .res (.lit (.bool true))).value [] {args:=args,res:=some (.bool true),after:=args}=some (.bool (true==true)) from w_eq_bool (w_res rfl) w_lit) rfl
theorem Zf8{l:OpenLaw}{n:Nat}{q:Program}{loose:List Str}{XP:(Str→Option Value)→Heap→Prop}{YP:World→Heap→Prop}{d:DefRec}
  (hn:l.most=some n) (hdf:d.params.defaults=[])
  (call:∀(w:World)(s₀ s₁:Shared)(mg mb:Str→Option Value)(fa:Addr)(o:Obj)(pm cd doc:Value)(a:Addr)(vs:List Value)(ns:List Int),
   Ground q loose [] XP w s₀ mg mb s₁.heap→YP w s₁.heap→
   s₁.heap.get? fa=some o→o.data= .func (docDef d.name d.params d.body d.scope pm cd doc)→s₁.heap.CodeRec cd d.name→mg d.name=some (.ref fa)→
   s₁.heap.get? a=some {cls:= .type "list",data:= .seq vs.toArray}→IntsAre vs ns→ns.length≤n→s₁.gens=#[]→
   codeAny (model l.prog w) callerA (.call (.ref fa) ⟨[.ref a],[]⟩) (fun r s'=>r= .ok (.ret (.bool true))∧OldK s₁.heap s'.heap∧s'.os=s₁.os∧AllBare s'.gens) s₁):
  WalkO q loose XP YP l.row.toRowW d [] (fun f vs=>PySem.call f vs):=by
 intro w s₀ s₁ mg mb G Y fa o pm cd doc dV kV ho hd hcd hD hmg hg args vals as hpre hlay hrd hwl hlo;obtain rfl:dV= .none:=Dflts.none hD hdf;obtain rfl:kV= .none:=Dflts.noKw hD;obtain⟨a,vs,ns,rfl,rfl,hobj,hints,hlen⟩:=ZiH hn hpre hwl;refine enter_call (codeAny_mono (call w s₀ s₁ mg mb fa o pm cd doc a vs ns G Y ho (fd_plain hd) hcd hmg hobj hints hlen hg) fun r s' hq=>?_);obtain⟨rfl,h2,h3,h4⟩:=hq;exact⟨.inl ⟨.bool true,.bool true,[],rfl,fun _=>rfl,.bool true,Zit l _,fun _=>⟨List.Pairwise.nil,fun _ hm=>(nomatch hm)⟩⟩,h2,h3,h4⟩
section
variable {prog:Program}{w:World}{A:Around}{E:Value→Shared→Prop}{s:Shared}{K:Frag}
end
end Att
namespace L2
open PySem PySem.Spec PyProof.Rows
theorem ZbV:∀{vs:List Value}{ns:List Int},IntsAre vs ns→ZD (ns.map V.int) vs
 |_,_,.nil=> .nil
 |_,_,.cons n t h=> .cons ⟨t,rfl⟩ (ZbV h)
def Zi5(H:Hp):Prop:=∀b,H b=none∨∃o xs,H b=some (.frz o (.lst xs))
theorem ZjB{P:Program}{w:World}{K:PySem.W.Frag}{mg mb:Str→Option Value}{CX:CXT}{k:Nat}{fa a:Addr}{fd:FuncData}{x:Str}{sp:Sp}{s₁:Shared}{vs:List Value}{ns:List Int}
  (KX:K.In s₁.heap) (hns:s₁.heap.Ns mainGlobals mg) (hb:s₁.heap.Ns builtinsNs mb) (hbb:∀x:Str,x≠"__name__" →mb x=bootBuiltins x) (hlim:s₁.heap.NoLimit) (hg:s₁.gens=#[])
  (ha:s₁.heap.get? a=some {cls:= .type "list",data:= .seq vs.toArray}) (hi:IntsAre vs ns) (hl:ns.length≤sizeLine) (hr:YN k callerA)
  (F:∀base:Heap,K.In base→base.Ns mainGlobals mg→Zk P w K mg base CX k fa fd [x] sp) (hbind:∀(s:Shared)(u:Value),BindsTo s fd ⟨[u],[]⟩ [(x,u)])
  (hsp:∀H:Hp,Zi5 H→SqL K H a (ns.map V.int)→sp [.ref a] H (fun v _=>v= .bl true) fun _ _ _=>False)
  (hCX:∀H e s',CX [] H s₁ (fun _ _ _=>False) e s'→False):
  codeAny (model P w) callerA (.call (.ref fa) ⟨[.ref a],[]⟩) (fun r s'=>r= .ok (.ret (.bool true))∧OldK s₁.heap s'.heap∧s'.os=s₁.os∧AllBare s'.gens) s₁:=by
 have rv:=ZbV hi;have lenV:=hi.length;have core:∀H:Hp,Zi5 H→SqL K H a (ns.map V.int)→HOk P w H s₁.heap→(∀b,H b≠none→b=a)→(H a≠none→K.lookup a=none)→
   codeAny (model P w) callerA (.call (.ref fa) ⟨[.ref a],[]⟩) (fun r s'=>r= .ok (.ret (.bool true))∧OldK s₁.heap s'.heap∧s'.os=s₁.os∧AllBare s'.gens) s₁:=by
  intro H hO hS hok hA hK;have base_of:∀{b:Addr}{o:Obj},s₁.heap.get? b=some o→H b=none→(Zbg s₁.heap H).get? b=some o:=fun e n=>Zi4 e n;have noA:∀{b:Addr}{o:Obj}{es:Array DictEntry}{ep:Nat},s₁.heap.get? b=some o→o.data= .dict es ep→H b=none:=fun{b o es ep} e d=>by
   cases q:H b with
   |none=>rfl
   |some u=>
    have e':b=a:=hA b (by rw[q];simp);subst e';rw[ha] at e;cases e;have d':Data.seq vs.toArray _=Data.dict es ep:=d;cases d'
  have nsK:∀{b:Addr}{m:Str→Option Value},s₁.heap.Ns b m→(Zbg s₁.heap H).Ns b m:=fun{b m} ⟨o,es,ep,e,d,r⟩=>⟨o,es,ep,base_of e (noA e d),d,r⟩;have hKb:K.In (Zbg s₁.heap H):=fun b o e=>base_of (KX b o e) (by
   cases q:H b with
   |none=>rfl
   |some u=>
    have e':b=a:=hA b (by rw[q];simp);subst e';rw[hK (by rw[q];simp)] at e;cases e)
  have hM:Mod K mg (Zbg s₁.heap H):=⟨hKb,nsK hns,⟨mb,nsK hb,hbb⟩,let⟨mc,h1,h2⟩:=hlim;⟨mc,nsK h1,h2⟩⟩;have e0:Zc0 P w K mg (Zbg s₁.heap H) callerA [] s₁ H:=⟨rfl,hM,fun b o e=>ZkB e,Nat.le_of_eq (Zh0 _ _),trivial,fun b hb=>absurd (show b∈([]:List Addr) from hb) (by simp),hok,.of_eq hg⟩;refine codeAny_mono ((F _ hKb (nsK hns)).run callerA [] s₁ H ⟨[.ref a],[]⟩ [.ref a] [.ref a] _ _ hr e0 (hbind s₁ (.ref a)) (.cons rfl .nil) (hsp H hO hS)) fun r s' h=>?_;cases r with
  |error e=>exact(hCX H e s' h).elim
  |ok fl=>
   cases fl with
   |next=>exact False.elim h
   |brk=>exact False.elim h
   |cont=>exact False.elim h
   |ret u=>
    obtain⟨v,H',os,bare,un,hok',r',q⟩:=h;have q':v= .bl true:=q;subst q';obtain rfl:u=Value.bool true:=r';refine⟨rfl,OldK.of_keep fun b o e=>?_,os,bare⟩;cases q:H b with
    |none=>exact un.keep b o e q (by intro z;exact absurd (show b∈([]:List Addr) from z) (by simp)) (by simp)
    |some u=>
     rcases hO b with z|⟨ob,xs,z⟩
     ·rw[q] at z;cases z
     ·have z2:=un.frzs b ob _ z;obtain⟨e1,_⟩:=hok b _ z;obtain⟨e2,_⟩:=hok' b _ z2;rw[e] at e1;cases e1;exact e2
 cases hk:K.lookup a with
 |some o=>
  have e:=KX a o hk;rw[ha] at e;cases e;refine core (fun _=>none) (fun _=> .inl rfl) (.inr ⟨_,vs.toArray,_,hk,rfl,rfl,rfl,by rw[List.size_toArray,lenV];exact hl,by simpa using rv⟩) (fun b u z=>by have z':(none:Option HO)=some u:=z;cases z') (fun b z=>absurd rfl z) fun z=>absurd rfl z
 |none=>
  refine core (fun b=>if b=a then some (.frz {cls:= .type "list",data:= .seq vs.toArray} (.lst (ns.map V.int))) else none) (fun b=>?_) (.inl (.inr ⟨{cls:= .type "list",data:= .seq vs.toArray},if_pos rfl⟩)) (fun b u z=>?_) (fun b z=>?_) fun _=>hk
  ·by_cases hb:b=a
   ·exact .inr ⟨_,_,if_pos hb⟩
   ·exact .inl (if_neg hb)
  ·by_cases hb:b=a
   ·have z':=(if_pos hb).symm.trans z;cases z';subst hb;exact⟨ha,by rw[List.length_map];exact hl,vs,_,rv,ha⟩
   ·have z':=(if_neg hb).symm.trans z;cases z'
  ·by_cases hb:b=a
   ·exact hb
   ·exact absurd (if_neg hb) z
end L2
namespace L2
open PySem PySem.Spec PyProof.Rows
theorem Zkj{l:PySem.W.OpenLaw}{n k:Nat}{q:Program}{loose:List Str}{XP:(Str→Option Value)→Heap→Prop}{YP:World→Heap→Prop}{d:DefRec}{K:Params→PySem.W.Frag}{CX:World→CXT}{sp:World→Sp}{x:Str}
  (hn:l.most=some n) (hn2:n≤sizeLine) (hdf:d.params.defaults=[]) (hr:YN k callerA)
  (hY:∀(w:World)(h:Heap),YP w h→(K w.params).In h)
  (F:∀(w:World)(mg:Str→Option Value)(fa:Addr)(h:Heap),(K w.params).In h→h.Ns mainGlobals mg→mg d.name=some (.ref fa)→
   ∃fd:FuncData,(∀(s:Shared)(u:Value),BindsTo s fd ⟨[u],[]⟩ [(x,u)])∧
    ∀base:Heap,(K w.params).In base→base.Ns mainGlobals mg→Zk l.prog w (K w.params) mg base (CX w) k fa fd [x] (sp w))
  (hsp:∀(w:World)(H:Hp)(a:Addr)(ns:List Int),ns.length≤n→Zi5 H→SqL (K w.params) H a (ns.map V.int)→sp w [.ref a] H (fun v _=>v= .bl true) fun _ _ _=>False)
  (hCX:∀(w:World)(H:Hp)(s:Shared)(e:Value)(s':Shared),CX w [] H s (fun _ _ _=>False) e s'→False):
  PySem.W.WalkO q loose XP YP l.row.toRowW d [] (fun f vs=>PySem.call f vs):=by
 refine Att.Zf8 hn hdf fun w s₀ s₁ mg mb fa o pm cd doc a vs ns G Y ho hd hcd hmg hobj hints hlen hg=>?_;have KX:=hY w _ Y;obtain⟨fd,hb,hF⟩:=F w mg fa _ KX G.T.g hmg;exact ZjB KX G.T.g G.T.b G.T.builtins G.T.nolimit hg hobj hints (Nat.le_trans hlen hn2) hr hF hb (fun H hO hS=>hsp w H a ns hlen hO hS) fun H e s'=>hCX w H s₁ e s'
end L2
namespace L2
open PySem PySem.Spec PyProof.Rows
noncomputable def Yv (s:Stmt) (j:Nat):Stmt:=match s with
 | .ClassDef _ _ _ body _ _ _ _ _ _ _=>body.getD j (.Pass ⟨0,0,0,0⟩)
 |_=> .Pass ⟨0,0,0,0⟩
noncomputable def VF (s:Stmt):Arguments:=match s with
 | .FunctionDef _ a _ _ _ _ _ _ _ _=>a
 |_=>{posonlyargs:=[],args:=[],vararg:=none,kwonlyargs:=[],kw_defaults:=[],kwarg:=none,defaults:=[]}
noncomputable def WL (s:Stmt):List Stmt:=match s with
 | .FunctionDef _ _ b _ _ _ _ _ _ _=>b
 |_=>[]
noncomputable def Zi (s:Stmt):Scope:=match s with
 | .FunctionDef _ _ _ _ _ _ sc _ _ _=>sc
 |_=>{kind:= .function,names:=[],isGenerator:=false,isCoroutine:=false}
noncomputable abbrev E0:XK:=fun _ _ _=>False
structure Fun(K:PySem.W.Frag)(x qual:Str)(st:Stmt)(f:Addr)(fd:FuncData):Prop where
 ex:∃(oc:Value)(od:Option Addr)(kV doc pm:Value)(an:Option Addr)(cdv ct:Value)(osl:Array (Option Value)),
  fd=PySem.W.fnOf x qual (VF st) (WL st) (Zi st) .none kV doc pm an cdv ct∧K.lookup f=some ⟨oc,od,.func fd,osl⟩∧PySem.W.codeIn K cdv qual=true
 kp:PySem.W.keepIn K (.ref f)=true
section
variable {P:Program}{w:World}{K:PySem.W.Frag}{mg:Str→Option Value}{base:Heap}
theorem Fun.binds{x qual:Str}{st:Stmt}{f:Addr}{fd:FuncData}{ps:List Str}(F:Fun K x qual st f fd)
  (h:∀(kV doc pm:Value)(an:Option Addr)(cdv ct:Value)(us:List Value),us.length=ps.length→bindArgs (PySem.W.fnOf x qual (VF st) (WL st) (Zi st) .none kV doc pm an cdv ct) ⟨us,[]⟩=pure (ps.zip us)):ZA K fd ps []:=by
 obtain⟨oc,od,kV,doc,pm,an,cdv,ct,osl,rfl,lk,hcd⟩:=F.ex;exact .all (h kV doc pm an cdv ct)
theorem ZB{x qual:Str}{st:Stmt}{f:Addr}{oc:Value}{od an:Option Addr}{osl:Array (Option Value)}{kV doc pm cdv ct:Value}(l:K.lookup f=some ⟨oc,od,.func (PySem.W.fnOf x qual (VF st) (WL st) (Zi st) .none kV doc pm an cdv ct),osl⟩)
  (c:PySem.W.codeIn K cdv qual=true) (k:PySem.W.keepIn K (.ref f)=true):Fun K x qual st f (PySem.W.fnOf x qual (VF st) (WL st) (Zi st) .none kV doc pm an cdv ct):=⟨⟨oc,od,kV,doc,pm,an,cdv,ct,osl,rfl,l,c⟩,k⟩
end
theorem Zx{n:Nat}(h:n≤1000):n<sizeLine:=Nat.lt_of_le_of_lt h (by decide)
section
variable {X:Cx}
theorem pv(i:Nat){x:Str}{pos:Pos}(hN:X.N[i]? =some x:=by rfl)(hv:Vis X.env.scope x:=by first|exact Or.inl rfl|exact Or.inr (Or.inl rfl)|exact Or.inr (Or.inr rfl))(hd:(x==("__debug__" :Str))=false:=by decide)
  (hcd:(x==("__classdict__" :Str))=false:=by decide):PE X (.Name x pos) (ZgY i):=Zlw hN hv hd hcd
end
theorem ZfL{A B:Prop}(h:B):if false=true then A else B:=by
 rw[if_neg Bool.false_ne_true];exact h
theorem Zfw{A B:Prop}(h:A):if true=true then A else B:=by
 rw[if_pos rfl];exact h
theorem VB{c A B:Prop}[Decidable c](h1:c→A)(h2:¬c→B):if c then A else B:=by
 by_cases h:c
 ·rw[if_pos h];exact h1 h
 ·rw[if_neg h];exact h2 h
def Ze(H H':Hp):Prop:=∀b o,H b=some o→H' b=some o
theorem Ze.refl(H:Hp):Ze H H:=fun _ _ h=>h
theorem Ze.trans{H H1 H2:Hp}(a:Ze H H1)(b:Ze H1 H2):Ze H H2:=fun c o h=>b c o (a c o h)
theorem Ze.seq{K:PySem.W.Frag}{H H':Hp}{a:Addr}{xs:List V}(e:Ze H H')(h:SqL K H a xs):SqL K H' a xs:=by
 rcases h with(h|⟨o,h⟩)|h
 ·exact .inl (.inl (e _ _ h))
 ·exact .inl (.inr ⟨o,e _ _ h⟩)
 ·exact .inr h
end L2
namespace L2
open PySem PySem.Spec PyProof.Rows
section
variable {κ:Type}[DecidableEq κ]
noncomputable def valV (kvs:List (κ×V)) (k:κ):Option V:=(kvs.find? fun kv=>decide (kv.1=k)).map (·.2)
noncomputable def Ya (kvs:List (κ×V)) (k:κ) (v:V):List (κ×V):=
 if(kvs.any fun kv=>decide (kv.1=k))=true then kvs.map (fun kv=>if kv.1=k then(kv.1,v) else kv) else kvs++ [(k,v)]
theorem ZcS{k:κ}:valV ([]:List (κ×V)) k=none:=rfl
theorem YF{p:κ×V}{r:List (κ×V)}{k:κ}(e:p.1=k):valV (p::r) k=some p.2:=by simp[valV,List.find?_cons,e]
theorem YE{p:κ×V}{r:List (κ×V)}{k:κ}(e:¬p.1=k):valV (p::r) k=valV r k:=by simp[valV,List.find?_cons,e]
theorem WX(k:κ):∀kvs:List (κ×V),(kvs.any fun kv=>decide (kv.1=k))=(valV kvs k).isSome
 | []=>rfl
 |p::r=>by
  rw[List.any_cons]
  by_cases e:p.1=k
  ·simp only[YF e,decide_eq_true e,Bool.true_or,Option.isSome_some]
  ·rw[YE e,decide_eq_false e,Bool.false_or];exact WX k r
theorem Ze0(k j:κ)(y:V):∀kvs:List (κ×V),valV (kvs.map fun kv=>if kv.1=k then(kv.1,y) else kv) j=(valV kvs j).map fun x=>if j=k then y else x
 | []=>rfl
 |p::r=>by
  have ih:=Ze0 k j y r;rw[List.map_cons]
  by_cases h:p.1=k
  ·rw[if_pos h]
   by_cases e:p.1=j
   ·rw[YF (p:=(p.1,y)) e,YF e,Option.map_some,if_pos (e.symm.trans h)]
   ·rw[YE (p:=(p.1,y)) e,YE e,ih]
  ·rw[if_neg h]
   by_cases e:p.1=j
   ·rw[YF (p:=p) e,YF e,Option.map_some,if_neg (fun z=>h (e.trans z))]
   ·rw[YE (p:=p) e,YE e,ih]
theorem Zec(k j:κ)(y:V):∀kvs:List (κ×V),valV kvs k=none→valV (kvs++ [(k,y)]) j=if j=k then some y else valV kvs j
 | [],_=>by
  by_cases e:k=j
  ·rw[if_pos e.symm];exact YF (p:=(k,y)) e
  ·rw[if_neg (fun z=>e z.symm)];exact YE (p:=(k,y)) e
 |p::r,hn=>by
  rw[List.cons_append];have hk:¬p.1=k:=fun z=>by rw[YF z] at hn;cases hn
  rw[YE hk] at hn;have ih:=Zec k j y r hn
  by_cases e:p.1=j
  ·rw[YF e,YF e,if_neg (fun z=>hk (e.trans z))]
  ·rw[YE e,YE e,ih]
theorem Ug(kvs:List (κ×V))(k j:κ)(y:V):valV (Ya kvs k y) j=if j=k then some y else valV kvs j:=by
 unfold Ya
 by_cases a:(kvs.any fun kv=>decide (kv.1=k))=true
 ·rw[if_pos a,Ze0];rw[WX] at a
  by_cases e:j=k
  ·obtain⟨x,hx⟩:=Option.isSome_iff_exists.mp a;rw[if_pos e,e,hx,Option.map_some,if_pos rfl]
  ·rw[if_neg e];cases valV kvs j with
   |none=>rfl
   |some x=>rw[Option.map_some,if_neg e]
 ·rw[if_neg a];refine Zec k j y kvs ?_;rw[WX] at a;cases q:valV kvs k with
  |none=>rfl
  |some x=>rw[q] at a;exact(a rfl).elim
theorem Uu(kvs:List (κ×V))(k:κ)(v:V):(Ya kvs k v).length≤kvs.length+1:=by
 unfold Ya
 split
 ·rw[List.length_map];omega
 ·rw[List.length_append,List.length_cons,List.length_nil];omega
theorem VC{kvs:List (κ×V)}{k:κ}(v:V)(h:valV kvs k=none):Ya kvs k v=kvs++ [(k,v)]:=by
 unfold Ya;rw[WX,h];exact if_neg (by decide)
theorem WU.isSome_eq{o:Option V}{u:Option Value}(r:WU o u):o.isSome=u.isSome:=by
 cases o with
 |none=>cases u with
  |none=>rfl
  |some _=>exact(show False from r).elim
 |some _=>cases u with
  |none=>exact(show False from r).elim
  |some _=>rfl
theorem KV.val{kvs:List (κ×V)}{vs:List (κ×Value)}(r:KV kvs vs)(k:κ):WU (valV kvs k) (valueAt vs k):=by
 unfold KV at r
 induction r with
 |nil=>exact True.intro
 | @cons p q ps qs h t ih=>
  obtain⟨h1,h2⟩:=h
  by_cases e:p.1=k
  ·have e':q.1=k:=h1.symm.trans e;have b:valueAt (q::qs) k=some q.2:=by simp[valueAt,List.find?_cons,e']
   rw[YF e,b];exact h2
  ·have e':¬q.1=k:=fun z=>e (h1.trans z);have b:valueAt (q::qs) k=valueAt qs k:=by simp[valueAt,List.find?_cons,e']
   rw[YE e,b];exact ih
theorem KV.any{kvs:List (κ×V)}{vs:List (κ×Value)}(r:KV kvs vs)(k:κ):(kvs.any fun kv=>decide (kv.1=k))=vs.any fun kv=>decide (kv.1=k):=by
 unfold KV at r
 induction r with
 |nil=>rfl
 |cons h t ih=>rw[List.any_cons,List.any_cons,ih,h.1]
theorem KV.repl{kvs:List (κ×V)}{vs:List (κ×Value)}(r:KV kvs vs)(k:κ){y:V}{u:Value}(ry:ZF y u):
  KV (kvs.map fun kv=>if kv.1=k then(kv.1,y) else kv) (vs.map fun kv=>if kv.1=k then(kv.1,u) else kv):=by
 unfold KV at r⊢
 induction r with
 |nil=>exact .nil
 | @cons p q ps qs h t ih=>
  rw[List.map_cons,List.map_cons];refine .cons ?_ ih;obtain⟨h1,h2⟩:=h
  by_cases e:p.1=k
  ·rw[if_pos e,if_pos (h1.symm.trans e)];exact⟨h1,ry⟩
  ·rw[if_neg e,if_neg (fun z=>e (h1.trans z))];exact⟨h1,h2⟩
theorem KV.put{kvs:List (κ×V)}{vs:List (κ×Value)}(r:KV kvs vs)(k:κ){y:V}{u:Value}(ry:ZF y u):KV (Ya kvs k y) (stored vs k u):=by
 unfold Ya stored;rw[r.any k]
 by_cases e:(vs.any fun kv=>decide (kv.1=k))=true
 ·rw[if_pos e,if_pos e];exact r.repl k ry
 ·rw[if_neg e,if_neg e];exact Paired.snoc r ⟨rfl,ry⟩
theorem KV.length{kvs:List (κ×V)}{vs:List (κ×Value)}(r:KV kvs vs):kvs.length=vs.length:=Paired.length r
end
theorem Zbc{P:Program}{w:World}{k:Key}{u:Value}(r:ZF (kV k) u):(ZP P w).is k u=true:=by
 cases k with
 |inl i=>obtain⟨t,e⟩:=(show ∃t,u=Value.int i t from r);subst e;exact Zf9 P w i t
 |inr x=>obtain⟨t,e⟩:=(show ∃t,u=Value.str x t from r);subst e;exact Zf6 P w x t
theorem ZkU{a b:Key}(e:kV a=kV b):a=b:=by
 cases a with
 |inl i=>cases b with
  |inl j=>have e':V.int i=V.int j:=e;injection e' with e';rw[e']
  |inr y=>exact nomatch (show V.int i=V.str y from e)
 |inr x=>cases b with
  |inl j=>exact nomatch (show V.str x=V.int j from e)
  |inr y=>have e':V.str x=V.str y:=e;injection e' with e';rw[e']
theorem Zer{P:Program}{w:World}:∀{ks:List Key}{us:List Value},ZD (ks.map kV) us→ItemsAre (ZP P w) ks us
 | [],_,r=>by rw[List.map_nil] at r;cases r;exact .nil
 |k::ks,_,r=>by
  rw[List.map_cons] at r;cases r with
  |cons h t=>exact .cons (Zbc h) (Zer t)
noncomputable abbrev KT (H:Hp):List (List Key×V)→List (List Key×Addr×Value)→Prop:=Paired fun p q=>p.1=q.1∧H q.2.1=some (.tup (p.1.map kV))∧ZF p.2 q.2.2
theorem KT.val{H:Hp}{kvs:List (List Key×V)}{xs:List (List Key×Addr×Value)}(r:KT H kvs xs)(k:List Key):WU (valV kvs k) ((atKey xs k).map (·.2)):=by
 induction r with
 |nil=>exact True.intro
 | @cons p q ps qs h t ih=>
  obtain⟨h1,_,h2⟩:=h
  by_cases e:p.1=k
  ·have e':q.1=k:=h1.symm.trans e;have b:atKey (q::qs) k=some q.2:=by simp[atKey,List.find?_cons,e']
   rw[YF e,b];exact h2
  ·have e':¬q.1=k:=fun z=>e (h1.trans z);have b:atKey (q::qs) k=atKey qs k:=by simp[atKey,List.find?_cons,e']
   rw[YE e,b];exact ih
theorem KT.repl{H:Hp}{kvs:List (List Key×V)}{xs:List (List Key×Addr×Value)}(r:KT H kvs xs)(k:List Key){y:V}{u:Value}(ry:ZF y u):
  KT H (kvs.map fun kv=>if kv.1=k then(kv.1,y) else kv) (xs.map (putAt k u)):=by
 induction r with
 |nil=>exact .nil
 | @cons p q ps qs h t ih=>
  rw[List.map_cons,List.map_cons];refine .cons ?_ ih;obtain⟨h1,h2,h3⟩:=h;unfold putAt
  by_cases e:p.1=k
  ·rw[if_pos e,if_pos (h1.symm.trans e)];exact⟨h1,h2,ry⟩
  ·rw[if_neg e,if_neg (fun z=>e (h1.trans z))];exact⟨h1,h2,h3⟩
theorem KT.put{H:Hp}{kvs:List (List Key×V)}{xs:List (List Key×Addr×Value)}(r:KT H kvs xs)(k:List Key){b:Addr}{y:V}{u:Value}(hb:H b=some (.tup (k.map kV)))(ry:ZF y u):
  KT H (Ya kvs k y) (storedH xs k b u):=by
 have e:(kvs.any fun kv=>decide (kv.1=k))=(atKey xs k).isSome:=by
  rw[WX,(r.val k).isSome_eq,Option.isSome_map]
 unfold Ya storedH;rw[e]
 by_cases q:(atKey xs k).isSome=true
 ·rw[if_pos q,if_pos q];exact r.repl k ry
 ·rw[if_neg q,if_neg q];exact Paired.snoc r ⟨rfl,hb,ry⟩
theorem KT.keeps{H H':Hp}{kvs:List (List Key×V)}{xs:List (List Key×Addr×Value)}(r:KT H kvs xs)(ht:∀b ys,H b=some (.tup ys)→H' b=some (.tup ys)):KT H' kvs xs:=
 Paired.mapP r fun _ _ z=>⟨z.1,ht _ _ z.2.1,z.2.2⟩
section
variable {P:Program}{w:World}{H:Hp}{h:Heap}{a:Addr}
theorem Zkc{u:HO}(ok:HOk P w H h)(e:Rd H a u):Z1 P w H h a u:=e.ok ok
theorem Zap{kvs:List (Key×V)}(ok:HOk P w H h)(e:Rd H a (.dK kvs)):kvs.length≤sizeLine∧(a==sysModules)=false∧∃vs,KV kvs vs∧h.DictOf (ZP P w) a vs:=
 show Z1 P w H h a (.dK kvs) from Zkc ok e
theorem Zaq{kvs:List (Key×V)}(ok:HOk P w H h)(e:H a=some (.dK kvs)):kvs.length≤sizeLine∧(a==sysModules)=false∧∃vs,KV kvs vs∧h.DictOf (ZP P w) a vs:=Zap ok (.inl e)
theorem ZbT{ks:List Key}(ok:HOk P w H h)(e:H a=some (.tup (ks.map kV))):(tupleKind (ZP P w)).is h ks a:=by
 obtain⟨_,its,r,o,h1,h2,n,h3⟩:=(show Z1 P w H h a (.tup (ks.map kV)) from ok a _ e);exact⟨o,its.toArray,n,h1,h2,h3,by simpa using Zer r⟩
theorem Zdb{kvs:List (List Key×V)}(ok:HOk P w H h)(e:Rd H a (.dT kvs)):kvs.length≤sizeLine∧(a==sysModules)=false∧
  ∃xs,KT H kvs xs∧h.DictOfH (tupleKind (ZP P w)) a xs:=by
 obtain⟨z,y,xs,r,o,es,ep,h1,h2,h3,h4,h5⟩:=(show Z1 P w H h a (.dT kvs) from Zkc ok e);refine⟨z,y,xs,r,o,es,ep,h1,h2,h3,h4,fun x hx=>?_,h5⟩;have all:∀{l:List (List Key×V)}{m:List (List Key×Addr×Value)},KT H l m→∀x∈m,(tupleKind (ZP P w)).is h x.1 x.2.1:=by
  intro l m q
  induction q with
  |nil=>intro x hx;exact nomatch hx
  | @cons p q ps qs hq t ih=>
   intro x hx;rcases List.mem_cons.mp hx with e|hx
   ·subst e;exact ZbT ok (by rw[←hq.1];exact hq.2.1)
   ·exact ih x hx
 exact all r x hx
theorem Zl2{kvs:List (List Key×V)}(ok:HOk P w H h)(e:H a=some (.dT kvs)):kvs.length≤sizeLine∧(a==sysModules)=false∧
  ∃xs,KT H kvs xs∧h.DictOfH (tupleKind (ZP P w)) a xs:=Zdb ok (.inl e)
end
def UM(H:Hp)(a:Addr)(y:V)(r:Option V):Prop:=
 (∃kvs k,Rd H a (.dK kvs)∧y=kV k∧r=valV kvs k)∨∃kvs k b,Rd H a (.dT kvs)∧y= .ref b∧H b=some (.tup (k.map kV))∧r=valV kvs k
def ZdO(H:Hp)(a:Addr)(y v:V)(H':Hp):Prop:=
 (∃kvs k,H a=some (.dK kvs)∧y=kV k∧kvs.length<sizeLine∧H'=upd H a (.dK (Ya kvs k v)))∨
 ∃kvs k b,H a=some (.dT kvs)∧y= .ref b∧H b=some (.tup (k.map kV))∧kvs.length<sizeLine∧H'=upd H a (.dT (Ya kvs k v))
theorem UM.k{H:Hp}{a:Addr}{kvs:List (Key×V)}{k:Key}(e:H a=some (.dK kvs)):UM H a (kV k) (valV kvs k):= .inl ⟨kvs,k,.inl e,rfl,rfl⟩
theorem ZdO.k{H:Hp}{a:Addr}{kvs:List (Key×V)}{k:Key}{v:V}(e:H a=some (.dK kvs))(hl:kvs.length<sizeLine):ZdO H a (kV k) v (upd H a (.dK (Ya kvs k v))):= .inl ⟨kvs,k,e,rfl,hl,rfl⟩
section
variable {X:Cx}{pins:List (Addr×Obj)}{σ:St}{H:Hp}{s:Shared}{a:Addr}{y v:V}{u r:Value}{o:Option V}{A:Around}{E:Value→Shared→Prop}
theorem Inv.big(I:Inv X pins σ H s):sysModules<s.heap.objs.size:=by
 have h:mainGlobals<s.heap.objs.size:=(I.mod.glob.keeps I.bk).lt;exact Nat.lt_trans (by decide) h
theorem ZiG{Q:Value→Shared→Prop}(hu:A.units+1<cLine)(I:Inv X pins σ H s)(g:UM H a y (some v))(ry:ZF y u)(h:∀w' s',Inv X pins σ H s'→ZF v w'→Q w' s'):
  wpAny (model X.prog X.w) A (getItem (.ref a) u) Q E s:=by
 rcases g with⟨kvs,k,e,ey,l⟩|⟨kvs,k,b,e,ey,eb,l⟩
 ·subst ey;obtain⟨z,hd,vs,rel,dd⟩:=Zap I.hok e;obtain⟨w',hw,rw'⟩:=WU.some_of (v:=v) (o:=valueAt vs k) (by rw[l];exact rel.val k);exact wpAny_getItem_of (Zbc ry) dd.mapOf hw (h w' _ (I.tok _) rw')
 ·subst ey;cases (show u=Value.ref b from ry);obtain⟨z,hd,xs,rel,dd⟩:=Zdb I.hok e;obtain⟨w',hw,rw'⟩:=WU.some_of (v:=v) (o:=(atKey xs k).map (·.2)) (by rw[l];exact rel.val k);obtain⟨p,hp,hp2⟩:=Option.map_eq_some_iff.mp hw;refine wpAny_getItem_heap (tupleKind_room_in1 hu) (ZbT I.hok eb) dd hp ?_;rw[hp2];exact h w' _ (I.tok _) rw'
theorem ZmH{Q:Value→Shared→Prop}(hu:A.units+1<cLine)(I:Inv X pins σ H s)(g:UM H a y o)(ry:ZF y u)(h:∀s',Inv X pins σ H s'→Q (.bool o.isSome) s'):
  wpAny (model X.prog X.w) A (compareOp .In u (.ref a)) Q E s:=by
 rcases g with⟨kvs,k,e,ey,l⟩|⟨kvs,k,b,e,ey,eb,l⟩
 ·subst ey;obtain⟨z,hd,vs,rel,dd⟩:=Zap I.hok e;refine wpAny_in_of (Zbc ry) hd dd.mapOf ?_;rw[←(rel.val k).isSome_eq,←l];exact h _ (I.tok _)
 ·subst ey;cases (show u=Value.ref b from ry);obtain⟨z,hd,xs,rel,dd⟩:=Zdb I.hok e;refine wpAny_in_heap (tupleKind_room_in1 hu) (ZbT I.hok eb) hd dd ?_;have q:=(rel.val k).isSome_eq;rw[Option.isSome_map] at q;rw[←q,←l];exact h _ (I.tok _)
theorem Zks{Q:Value→Shared→Prop}(hu:A.units+1<cLine)(I:Inv X pins σ H s)(g:UM H a y o)(ry:ZF y u)(h:∀s',Inv X pins σ H s'→Q (.bool (!o.isSome)) s'):
  wpAny (model X.prog X.w) A (compareOp .NotIn u (.ref a)) Q E s:=by
 rcases g with⟨kvs,k,e,ey,l⟩|⟨kvs,k,b,e,ey,eb,l⟩
 ·subst ey;obtain⟨z,hd,vs,rel,dd⟩:=Zap I.hok e;refine wpAny_notIn_of (Zbc ry) hd dd.mapOf ?_;rw[←(rel.val k).isSome_eq,←l];exact h _ (I.tok _)
 ·subst ey;cases (show u=Value.ref b from ry);obtain⟨z,hd,xs,rel,dd⟩:=Zdb I.hok e;refine wpAny_notIn_heap (tupleKind_room_in1 hu) (ZbT I.hok eb) hd dd ?_;have q:=(rel.val k).isSome_eq;rw[Option.isSome_map] at q;rw[←q,←l];exact h _ (I.tok _)
theorem ZaZ{h':Heap}{t':Nat}{ob:HO}(I:Inv X pins σ H s)(mu:Mut (H a))(hs:Heap.SameBut a s.heap h')(he:∃q,h'.get? a=some q)(new:Z1 X.prog X.w (upd H a ob) h' a ob):
  Inv X pins σ (upd H a ob) {s with heap:=h',toks:=t'}:=
 I.write (x:=a) (e:=a) mu (.inl rfl) (fun b q hb z=>(hs.2 b hb).trans z) he new
theorem Zdn{P:Program}{w:World}{H':Hp}{h':Heap}{kvs:List (Key×V)}{vs:List (Key×Value)}(z:kvs.length≤sizeLine)(hd:(a==sysModules)=false)(rel:KV kvs vs)(dd:h'.DictOf (ZP P w) a vs):
  Z1 P w H' h' a (.dK kvs):=⟨z,hd,vs,rel,dd⟩
theorem ZhS{H':Hp}{Q:Unit→Shared→Prop}(hu:A.units+1<cLine)(I:Inv X pins σ H s)(g:ZdO H a y v H')(ry:ZF y u)(rv:ZF v r)(h:∀s',Inv X pins σ H' s'→Q () s'):
  wpAny (model X.prog X.w) A (setItem (.ref a) u r) Q E s:=by
 rcases g with⟨kvs,k,e,ey,l,eH⟩|⟨kvs,k,b,e,ey,eb,l,eH⟩
 ·subst ey eH;obtain⟨z,hd,vs,rel,dd⟩:=Zaq I.hok e;have hz:vs.length≤sizeLine:=by rw[←rel.length];exact z
  have hl:(Ya kvs k v).length≤sizeLine:=by have:=Uu kvs k v;omega
  refine wpAny_setItem_pairs (hsz:=hz) (Zbc ry) dd fun h' dd' hs=>h _ ?_;have he:∃q,h'.get? a=some q:=let⟨q,_,_,hq,_⟩:=dd';⟨q,hq⟩
  exact ZaZ I (by rw[e];exact True.intro) hs he (Zdn hl hd (rel.put k rv) dd')
 ·subst ey eH;cases (show u=Value.ref b from ry);obtain⟨z,hd,xs,rel,dd⟩:=Zl2 I.hok e;have hz:xs.length≤sizeLine:=by rw[←Paired.length rel];exact z
  have hl:(Ya kvs k v).length≤sizeLine:=by have:=Uu kvs k v;omega
  refine wpAny_setItem_heap (hsz:=hz) (tupleKind_room_in1 hu) (ZbT I.hok eb) dd fun h' dd' hs=>h _ ?_;obtain⟨q,es,ep,hq,h2,h3,h4,_,h5⟩:=dd';refine ZaZ I (by rw[e];exact True.intro) hs ⟨q,hq⟩ ⟨hl,hd,_,(rel.put k eb rv).keeps fun c ys ec=>?_,q,es,ep,hq,h2,h3,h4,h5⟩;rw[Zg (Yx ec e (fun z=>nomatch z))];exact ec
end
section
variable {X:Cx}{pins:List (Addr×Obj)}{σ:St}{H:Hp}{s:Shared}{a:Addr}{kvs:List (Key×V)}{k:Key}{u:Value}{A:Around}{E:Value→Shared→Prop}
theorem ZlZ{Q:Value→Shared→Prop}(I:Inv X pins σ H s)(e:Rd H a (.dK kvs))(h:∀t s',Inv X pins σ H s'→Q (.int kvs.length t) s'):wpAny (model X.prog X.w) A (call (.builtin "len") [.ref a]) Q E s:=by
 obtain⟨z,hd,vs,rel,dd⟩:=Zap I.hok e;refine call_len_dict hd dd (by rw[←rel.length];rw[sizeLine_eq] at z;omega) ?_;rw[←rel.length];exact h _ _ (I.tok _)
end
theorem Zf5{X:Cx}{pins:List (Addr×Obj)}{σ:St}{H:Hp}{s:Shared}{a:Addr}{y:V}{o:Option V}(I:Inv X pins σ H s)(g:UM H a y o):s.TypeIs (.ref a) "dict" :=by
 rcases g with⟨kvs,k,e,_,_⟩|⟨kvs,k,b,e,_,_,_⟩
 ·obtain⟨_,_,vs,_,dd⟩:=Zap I.hok e;exact dd.typeIs
 ·obtain⟨_,_,xs,_,dd⟩:=Zdb I.hok e;exact dd.typeIs
section
variable {X:Cx}{o i e value:Expr}{pos pos' tpos:Pos}{td ty tv:TE}
end
theorem Zfh{P:Program}{w:World}{H:Hp}(h:Heap)(hb:sysModules<h.objs.size):Z1 P w H (h.push {cls:= .type "dict",data:= .dict #[]}) h.objs.size (.dK []):=
 ⟨Nat.zero_le _,beq_eq_false_iff_ne.mpr (Ne.symm (Nat.ne_of_lt hb)),[],.nil,Heap.DictOf.new h⟩
noncomputable def tDNewK:TE:=fun _ H Q=>∀p,H p=none→Q (.ref p) (upd H p (.dK []))
section
variable {X:Cx}{pos:Pos}
theorem Zaf:PE X (.Dict [] [] pos) tDNewK:=fun pins s σ H Q I h=>
 wpAny_Dict_empty ⟨.ref s.heap.objs.size,_,I.laid (a:=s.heap.objs.size) (o:= .dK []) (t':=s.toks) (fun _ _ q=>Heap.get?_push_of_some _ q) (Nat.le_refl _) (Zfh s.heap I.big),rfl,h _ (I.hok.fresh (Nat.le_refl _))⟩
end
noncomputable def ZdF:List (TE×TE)→St→Hp→(List (V×V)→Hp→Prop)→Prop
 | [],_,H,Q=>Q [] H
 |(tk,tv)::r,σ,H,Q=>tk σ H fun x H1=>tv σ H1 fun y H2=>ZdF r σ H2 fun ps H3=>Q ((x,y)::ps) H3
noncomputable abbrev VV:List (V×V)→List (Value×Value)→Prop:=Paired fun p q=>ZF p.1 q.1∧ZF p.2 q.2
def PPs(X:Cx)(pos:Pos)(keys:List (Option Expr))(values:List Expr)(trs:List (TE×TE)):Prop:=
 ∀(pins:List (Addr×Obj))(s:Shared)(σ:St)(H:Hp)(Q:List (V×V)→Hp→Prop),Inv X pins σ H s→ZdF trs σ H Q→
  wpAny (model X.prog X.w) X.A (evalPairs (pairTrees keys values X.env pos)) (fun vs s'=>∃ps H',Inv X pins σ H' s'∧VV ps vs∧Q ps H') X.xe s
theorem Zki{X:Cx}{pos:Pos}:PPs X pos [] [] []:=fun pins s σ H Q I h=>pairTrees_nil_walk ⟨[],H,I,.nil,h⟩
theorem Zjx{X:Cx}{pos:Pos}{k v:Expr}{ks:List (Option Expr)}{vs:List Expr}{tk tv:TE}{trs:List (TE×TE)}(hk:PE X k tk)(hv:PE X v tv)(hr:PPs X pos ks vs trs):
  PPs X pos (some k::ks) (v::vs) ((tk,tv)::trs):=fun pins s σ H Q I h=>
 pairTrees_cons_walk (thn (hk pins s σ H _ I h) fun u s1 ⟨x,H1,I1,rx,q1⟩=>thn (hv pins s1 σ H1 _ I1 q1) fun w2 s2 ⟨y,H2,I2,ry,q2⟩=>
  thn (hr pins s2 σ H2 _ I2 q2) fun ws s3 ⟨ps,H3,I3,rel,q3⟩=>⟨(x,y)::ps,H3,I3,.cons ⟨rx,ry⟩ rel,q3⟩)
noncomputable def Yr (kvs more:List (Key×V)):List (Key×V):=more.foldl (fun acc kv=>Ya acc kv.1 kv.2) kvs
theorem KV.merge:∀{more:List (Key×V)}{rs:List (Key×Value)}{kvs:List (Key×V)}{vs:List (Key×Value)},KV more rs→KV kvs vs→KV (Yr kvs more) (merged vs rs):=by
 intro more rs kvs vs r;unfold KV at r
 induction r generalizing kvs vs with
 |nil=>intro q;exact q
 | @cons p q ps qs h t ih=>
  intro r0;have e:KV (Ya kvs p.1 p.2) (stored vs q.1 q.2):=by
   have:=r0.put p.1 h.2;rw[←h.1];exact this
  exact ih e
theorem Vu:∀(more kvs:List (Key×V)),(Yr kvs more).length≤kvs.length+more.length
 | [],kvs=>by show kvs.length≤kvs.length+0;omega
 |p::r,kvs=>by
  have h1:=Vu r (Ya kvs p.1 p.2);have h2:=Uu kvs p.1 p.2;show(Yr (Ya kvs p.1 p.2) r).length≤_;rw[List.length_cons];omega
theorem Zds{P:Program}{w:World}:∀{kvs:List (Key×V)}{ws:List (Value×Value)},VV (kvs.map fun kv=>(kV kv.1,kv.2)) ws→∃rs,Carries (ZP P w) ws rs∧KV kvs rs
 | [],_,r=>by rw[List.map_nil] at r;cases r;exact⟨[],True.intro,.nil⟩
 |p::kvs,_,r=>by
  rw[List.map_cons] at r;cases r with
  | @cons a b as bs h t=>
   obtain⟨rs,c,q⟩:=Zds (P:=P) (w:=w) t;obtain⟨b1,b2⟩:=b;exact⟨(p.1,b2)::rs,⟨Zbc h.1,rfl,c⟩,.cons ⟨rfl,h.2⟩ q⟩
noncomputable def Zl8 (trs:List (TE×TE)):TE:=fun σ H Q=>∀p,H p=none→ZdF trs σ (upd H p (.dK [])) fun ps H2=>H2 p=some (.dK [])∧∃kvs:List (Key×V),ps=kvs.map (fun kv=>(kV kv.1,kv.2))∧kvs.length≤15∧Q (.ref p) (upd H2 p (.dK (Yr [] kvs)))
theorem Zkk{X:Cx}{pos:Pos}{keys:List (Option Expr)}{values:List Expr}{trs:List (TE×TE)}(h:PPs X pos keys values trs)(hall:keys.all (·.isSome)=true)(hl:keys.length=values.length)(h0:keys≠[])
  (h15:keys.length≤15):PE X (.Dict keys values pos) (Zl8 trs):=by
 intro pins s σ H Q I q;have hn:=I.hok.fresh (Nat.le_refl s.heap.objs.size);have I1:=I.laid (a:=s.heap.objs.size) (o:= .dK []) (h':=s.heap.push {cls:= .type "dict",data:= .dict #[]}) (t':=s.toks) (fun _ _ q=>Heap.get?_push_of_some _ q) (Nat.le_refl _) (Zfh s.heap I.big);refine wpAny_Dict_walk (knd:=ZP X.prog X.w) hall hl h0 h15 (thn (h pins _ σ _ _ I1 (q _ hn)) fun ws s2 ⟨ps,H2,I2,rel,e,kvs,ep,lk,q2⟩=>?_);subst ep;obtain⟨rs,c,rk⟩:=Zds (P:=X.prog) (w:=X.w) rel;obtain⟨z,hd,vs0,r0,dd⟩:=Zaq I2.hok e;cases r0;refine⟨rs,c,dd,fun h' dd' hs=>⟨.ref s.heap.objs.size,_,?_,rfl,q2⟩⟩;have hz:(Yr [] kvs).length≤sizeLine:=by
  have h1:=Vu kvs [];rw[List.length_nil] at h1;rw[sizeLine_eq];omega
 have he:∃q,h'.get? s.heap.objs.size=some q:=let⟨q,_,_,hq,_⟩:=dd';⟨q,hq⟩
 exact ZaZ I2 (by rw[e];exact True.intro) hs he (Zdn hz hd (rk.merge .nil) dd')
section
variable {X:Cx}{pins:List (Addr×Obj)}{σ:St}{H:Hp}{s:Shared}{a:Addr}{y d:V}{u r:Value}{o:Option V}{A:Around}{E:Value→Shared→Prop}
end
section
variable {X:Cx}{o e f:Expr}{apos cpos:Pos}{td ty tx:TE}
end
section
variable {X:Cx}{pins:List (Addr×Obj)}{σ:St}{H:Hp}{s:Shared}{a:Addr}{kvs:List (Key×V)}{A:Around}{E:Value→Shared→Prop}
end
section
variable {X:Cx}{pins:List (Addr×Obj)}{σ:St}{H:Hp}{s:Shared}{a:Addr}{y:V}{u:Value}{A:Around}{E:Value→Shared→Prop}
end
end L2
namespace L2
open PySem PySem.Spec PyProof.Rows
section
variable {X:Cx}
theorem ZhO:Wi X (.builtin "len") (fun xs H Q=>∃a kvs,xs=[V.ref a]∧H a=some (.dK kvs)∧Q (.int kvs.length) H):=by
 intro pins s σ H xs us Q I r h;obtain⟨a,kvs,rfl,ha,q⟩:=h;obtain⟨u,rfl,ru⟩:=WO r;cases ru;exact ZlZ I (.inl ha) fun t s' I'=>⟨.int kvs.length,H,I',⟨t,rfl⟩,q⟩
end
section
variable {κ:Type}[DecidableEq κ]
end
end L2
namespace L2
open PySem PySem.Spec PyProof.Rows
namespace Rd
section
variable {σ:St}{H:Hp}{Q:VK}{D:VA}{t u:TS}{ta tb te:TE}{r:R2}
theorem var{i:Nat}{v:V}(h:σ[i]? =some (some v))(q:Q v H):ZgY i σ H Q:=⟨v,h,q⟩
theorem con{v:V}(q:Q v H):tC v σ H Q:=q
theorem op(h:ta σ H fun x H1=>tb σ H1 fun y H2=>r x y H2 Q):tOp r ta tb σ H Q:=h
theorem i0{g:Int→Int→V}{i j:Int}(q:Q (g i j) H):rI0 g (.int i) (.int j) H Q:=⟨i,j,rfl,rfl,q⟩
theorem iC{C:Int→Int→Prop}{g:Int→Int→V}{i j:Int}(c:C i j)(q:Q (g i j) H):rI C g (.int i) (.int j) H Q:=⟨i,j,rfl,rfl,c,q⟩
theorem eqI{i j:Int}(q:Q (.bl (decide (i=j))) H):rEq (.int i) (.int j) H Q:=⟨rfl,by
 have e:decide (V.int i=V.int j)=decide (i=j):=by
  by_cases h:i=j
  ·rw[h];simp
  ·rw[decide_eq_false h,decide_eq_false (fun z=>h (V.int.inj z))]
 rw[e];exact q⟩
theorem neI{i j:Int}(q:Q (.bl (!decide (i=j))) H):rNe (.int i) (.int j) H Q:=⟨rfl,by
 have e:decide (V.int i=V.int j)=decide (i=j):=by
  by_cases h:i=j
  ·rw[h];simp
  ·rw[decide_eq_false h,decide_eq_false (fun z=>h (V.int.inj z))]
 rw[e];exact q⟩
theorem Zna{Q:Bool→Hp→Prop}(h:te σ H fun x H'=>∃k,x= .bl k∧Q k H'):Zhj te σ H Q:=h
theorem bl{k:Bool}{Q:Bool→Prop}(q:Q k):∃k',V.bl k= .bl k'∧Q k':=⟨k,rfl,q⟩
theorem seq(h:t {D with nx:=u D} σ H):ZlF t u D σ H:=h
theorem asg{g:TG}(h:te σ H fun x H1=>g x σ H1 D.nx):ZfI te g D σ H:=h
theorem ifs{c:TT}(h:c σ H fun b H1=>if b=true then t D σ H1 else u D σ H1):Zlx c t u D σ H:=h
theorem ret(h:te σ H D.rt):ZlT te D σ H:=h
theorem next(h:D.nx σ H):tNext D σ H:=h
theorem drop(h:te σ H fun _ H1=>D.nx σ H1):Zkd te D σ H:=h
theorem nil{Q:List V→Hp→Prop}(h:Q [] H):tNil σ H Q:=h
theorem cons{tr:TA}{Q:List V→Hp→Prop}(h:ta σ H fun x H1=>tr σ H1 fun xs H2=>Q (x::xs) H2):ZjZ ta tr σ H Q:=h
theorem call{sp:Sp}{dvs:List V}{E:XK}{ts:TA}(h:ts σ H fun vs H1=>sp (vs++dvs) H1 Q E):Zj3 sp dvs E ts σ H Q:=h
theorem cb{r:List V→Hp→VK→Prop}{ts:TA}(h:ts σ H fun vs H1=>r vs H1 Q):tCB r ts σ H Q:=h
theorem tup{ts:TA}(h:ts σ H fun xs H1=>xs.length≤sizeLine∧∀p,H1 p=none→Q (.ref p) (upd H1 p (.tup xs))):Zk3 ts σ H Q:=h
theorem lst{ts:TA}(h:ts σ H fun xs H1=>xs.length≤sizeLine∧∀p,H1 p=none→Q (.ref p) (upd H1 p (.lst xs))):ZjE ts σ H Q:=h
theorem ZmO{t u:TT}{Q:Bool→Hp→Prop}(h:t σ H fun c H1=>if c=true then u σ H1 Q else Q false H1):ZkY t u σ H Q:=h
theorem or_{t u:TT}{Q:Bool→Hp→Prop}(h:t σ H fun c H1=>if c=true then Q true H1 else u σ H1 Q):tOr t u σ H Q:=h
theorem Zmx{t:TT}{Q:Bool→Hp→Prop}(h:t σ H fun c H1=>Q (!c) H1):ZlQ t σ H Q:=h
theorem Zmw(h:ta σ H fun x H1=>∃c,x= .bl c∧if c=true then tb σ H1 Q else Q (.bl false) H1):Zj9 ta tb σ H Q:=h
theorem ZmZ(h:ta σ H fun x H1=>∃c,x= .bl c∧Q (.bl (!c)) H1):ZjV ta σ H Q:=h
end
end Rd
end L2
namespace L2
open PySem PySem.Spec PyProof.Rows
section
variable {X:Cx}
theorem Zkl:OpR X (binaryOp .Mult) (rI (fun i j=>IntMulOk i j) fun i j=> .int (i*j)):=opI fun _ _ _ _ _ _ _ hc q=>mul_int q hc
theorem Z5:OpR X (binaryOp .FloorDiv) (rI (fun _ j=>0<j∧j.natAbs.log2<9000) fun i j=> .int (i / j)):=opI fun i j _ _ _ _ _ hc q=>by
 rw[←Int.fdiv_eq_ediv_of_nonneg i (Int.le_of_lt hc.1)] at q;exact floordiv_int (by have:=hc.1;omega) q (.inl (PyProof.noPylong_of_log2 hc.2))
theorem Zga:Wi X (.builtin "isinstance") (fun xs H Q=>∃x n t b,xs=[x,.ty n]∧Wr X.K H x t∧PySem.W.kitOne X.K t (.type n)=some b∧Q (.bl b) H):=by
 intro pins s σ H xs us Q I r h;obtain⟨x,n,t,b,rfl,ty,e,q⟩:=h;obtain⟨u,v,rfl,ru,rv⟩:=r.two;obtain rfl:v=Value.type n:=rv;exact ZiB I ru ty e fun tk=>⟨.bl b,H,I.tok tk,rfl,q⟩
theorem Zbx{c:TT}{tb:TS}{D:VA}{σ:St}{H:Hp}(W:Nat→St→Hp→Prop)(m:Nat)(h0:W m σ H)
  (hs:∀m σ H,W m σ H→c σ H fun b H1=>if b=true then ∃N:St→Hp→Prop,(∀σ' H',N σ' H'→∃m',m'<m∧W m' σ' H')∧tb {D with nx:=N,ct:=N,bk:=D.nx} σ H1 else D.nx σ H1):ZhL c tb D σ H:=
 ⟨W,⟨m,h0⟩,hs⟩
theorem Zdz{W:Nat→St→Hp→Prop}{m:Nat}{tb:TS}{D:VA}{σ:St}{H1:Hp}
  (h:tb {D with nx:=fun σ' H'=>∃m',m'<m∧W m' σ' H',ct:=fun σ' H'=>∃m',m'<m∧W m' σ' H',bk:=D.nx} σ H1):
  ∃N:St→Hp→Prop,(∀σ' H',N σ' H'→∃m',m'<m∧W m' σ' H')∧tb {D with nx:=N,ct:=N,bk:=D.nx} σ H1:=⟨_,fun _ _ z=>z,h⟩
noncomputable def Zlz (t:TS):TS:=fun D σ H=>∃J:St→Hp→Prop,(∀σ' H',J σ' H'→D.nx σ' H')∧t {D with nx:=J} σ H
theorem ZdI{st:Stmt}{t:TS}(h:PS X st t):PS X st (Zlz t):=by
 intro pins s σ H D I hq;obtain⟨J,hJ,q⟩:=hq;refine thn (h pins s σ H _ I q) fun f s1 q1=>?_;cases f with
 |next=>obtain⟨σ',H',I',j⟩:=q1;exact⟨σ',H',I',hJ _ _ j⟩
 |brk=>exact q1
 |cont=>exact q1
 |ret v=>exact q1
end
namespace Rd
theorem ZjW{A B:Prop}(h:B):if(!true)=true then A else B:=ZfL h
theorem Zj1{A B:Prop}(h:A):if(!false)=true then A else B:=Zfw h
section
variable {σ:St}{H:Hp}{Q:VK}{D:VA}{t u:TS}{ta tb te:TE}
theorem cut(J:St→Hp→Prop)(hJ:∀σ' H',J σ' H'→D.nx σ' H')(h:t {D with nx:=J} σ H):Zlz t D σ H:=⟨J,hJ,h⟩
theorem Zm7{wi:TI}{g:TG}{tb:TS}(h:wi σ H fun J H1=>∃W:Nat→Nat→St→Hp→Prop,(∃m,W 0 m σ H1)∧∀i m σ H,W i m σ H→
  (J.stop i H∧D.nx σ H)∨(J.go i H∧∃N:St→Hp→Prop,(∀σ' H',N σ' H'→∃m',m'<m∧W (i+1) m' σ' H')∧∀x H',J.yld i H x H'→g x σ H' fun σ2 H2=>tb {D with nx:=N,ct:=N,bk:=D.nx} σ2 H2)):Zlc wi g tb D σ H:=h
theorem ZmL{ts:TA}{R:It→Hp→Prop}(h:ts σ H fun vs H1=>∃j:Int,vs=[.int j]∧ -(2 ^ 62)≤j∧j<2 ^ 62∧R (Itr 0 j.toNat) H1):ZjX ts σ H R:=h
theorem Vj{K:PySem.W.Frag}{n:Nat}{ts:TGs}{a:Addr}{xs:List V}{Q:St→Hp→Prop}(hs:SqT K H a xs)(hn:xs.length=n)(h:ts xs σ H Q):ZjL K n ts (.ref a) σ H Q:=⟨a,xs,rfl,hs,hn,h⟩
theorem Znj{Q:St→Hp→Prop}(h:Q σ H):gNil [] σ H Q:=⟨rfl,h⟩
theorem ZlW{g:TG}{gs:TGs}{v:V}{r:List V}{Q:St→Hp→Prop}(h:g v σ H fun σ' H'=>gs r σ' H' Q):Zka g gs (v::r) σ H Q:=⟨v,r,rfl,h⟩
end
end Rd
end L2
namespace L2
open PySem PySem.Spec PyProof.Rows
theorem Zq{H:Hp}{p:Addr}{o:HO}(hp:H p=none):Ze H (upd H p o):=fun c u e=>by rw[Zg (Zo e hp)];exact e
theorem Ze.new{H H':Hp}{q:Addr}{o:HO}(sm:Ze H H')(hq:H q=none):Ze H (upd H' q o):=fun c u e=>by rw[Zg (Zo e hq)];exact sm c u e
namespace Rd
section
variable {σ:St}{H:Hp}{Q:VK}{D:VA}{K:PySem.W.Frag}
theorem ixt{p:Addr}{xs:List V}{i:Int}{v:V}(h:SqT K H p xs)(e:atI xs i=some v)(q:Q v H):Zjk K (.ref p) (.int i) H Q:=⟨p,xs,i,v,rfl,rfl,h,e,q⟩
theorem ixl{p:Addr}{xs:List V}{i:Int}{v:V}(h:SqL K H p xs)(e:atI xs i=some v)(q:Q v H):ZdU K (.ref p) (.int i) H Q:=⟨p,xs,i,v,rfl,rfl,h,e,q⟩
theorem bm{T:String}{r:V→List V→Hp→VK→Prop}{to:TE}{t:TA}(h:to σ H fun x H1=>tyV K T x H1∧t σ H1 fun xs H2=>r x xs H2 Q):tBM K T r to t σ H Q:=h
theorem tyl{p:Addr}{xs:List V}{B:Prop}(h:H p=some (.lst xs))(q:B):tyV K "list" (.ref p) H∧B:=⟨.inl ⟨rfl,xs,.of h⟩,q⟩
theorem app{p:Addr}{xs:List V}{y:V}(h:H p=some (.lst xs))(hl:xs.length<sizeLine)(q:Q .non (upd H p (.lst (xs++ [y])))):rAppend (.ref p) [y] H Q:=⟨p,xs,y,rfl,rfl,h,hl,q⟩
end
end Rd
end L2
namespace L2
open PySem PySem.Spec PyProof.Rows
noncomputable def emb (ix:List Nat) (σ:St):St:=none::ix.map fun j=>(σ[j]?).join
noncomputable def Zn (X:Cx) (sc:Scope) (cl:List (Str×Addr)) (C:Addr) (N:List Str) (s:Shared) (H:Hp) (fp:List Addr):Cx where
 prog:=X.prog
 w:=X.w
 K:=X.K
 mg:=X.mg
 base:=X.base
 A:=X.A
 N:=N
 s₀:=s
 H₀:=H
 env:=compEnvC sc cl C X.env
 outer:=X.stack
 stack:=X.stack
 ex:=fp
 fn:=fun _=>false
 calm:=X.calm
 pn:=[]
 xe:=fun _ _=>False
structure Y6(X:Cx)(sc:Scope)(x:Str)(zs:List Str)(ix:List Nat):Prop where
 kind:sc.kind= .function
 nocell:∀y∈sc.names,y.2≠ .cell
 names:∀y∈sc.names,y.2= .local→sc.names.lookup y.1=some .local
 free:∀y∈sc.names,y.2= .free→X.env.kindOf y.1=some .cell∨X.env.kindOf y.1=some .free
 zfree:∀z∈zs,sc.names.lookup z=some .free
 at_:ix.map (fun j=>X.N[j]?)=zs.map some
theorem Ww{env:Env}{x:Str}:∀{names:List (Str×NameKind)}{k:NameKind},
  (names.map fun(n,k)=>if(k==NameKind.free&&env.scope.kind== .function&&env.kindOf n==some .cell) then(n,NameKind.cell) else(n,k)).lookup x=some k→
  ∃k',names.lookup x=some k'∧(k=k'∨(k'= .free∧k= .cell))
 | [],_,h=>by simp at h
 |(n,j)::r,k,h=>by
  have h':List.lookup x ((if(j==NameKind.free&&env.scope.kind== .function&&env.kindOf n==some .cell)=true then(n,NameKind.cell) else(n,j))::(r.map fun(n,k)=>if(k==NameKind.free&&env.scope.kind== .function&&env.kindOf n==some .cell) then(n,NameKind.cell) else(n,k)))=some k:=h;cases hx:x==n with
  |true=>
   refine⟨j,by simp[List.lookup_cons,hx],?_⟩
   by_cases hc:(j==NameKind.free&&env.scope.kind== .function&&env.kindOf n==some .cell)=true
   ·rw[if_pos hc] at h';simp only[List.lookup_cons,hx] at h';cases h';simp only[Bool.and_eq_true,beq_iff_eq] at hc;exact .inr ⟨hc.1.1,rfl⟩
   ·rw[if_neg hc] at h';simp only[List.lookup_cons,hx] at h';cases h';exact .inl rfl
  |false=>
   have h2:List.lookup x (r.map fun(n,k)=>if(k==NameKind.free&&env.scope.kind== .function&&env.kindOf n==some .cell) then(n,NameKind.cell) else(n,k))=some k:=by
    by_cases hc:(j==NameKind.free&&env.scope.kind== .function&&env.kindOf n==some .cell)=true
    ·rw[if_pos hc] at h';simpa only[List.lookup_cons,hx] using h'
    ·rw[if_neg hc] at h';simpa only[List.lookup_cons,hx] using h'
   obtain⟨k',e,q⟩:=Ww h2;exact⟨k',by simp only[List.lookup_cons,hx];exact e,q⟩
theorem Wj{x:Str}{k:NameKind}:∀{names:List (Str×NameKind)},names.lookup x=some k→(x,k)∈names:=fun h=>PySem.mem_of_lookup h
theorem Zbl(env:Env):∀(names:List (Str×NameKind))(acc:List (Str×Addr)),
  (∀y∈names,y.2= .free→∃c,env.cells.lookup y.1=some c)→(∀y c,acc.lookup y=some c→env.cells.lookup y=some c)→
  ∃cl:List (Str×Addr),(forIn names acc (fun x (r:List (Str×Addr))=>if x.2==NameKind.free then(do let a←cellOf env x.1;pure (ForInStep.yield ((x.1,a)::r))) else pure (ForInStep.yield r)):Sem (List (Str×Addr)))=pure cl∧
   (∀y c,cl.lookup y=some c→env.cells.lookup y=some c)∧(∀y,(∃c,acc.lookup y=some c)∨(y,NameKind.free)∈names→∃c,cl.lookup y=some c)
 | [],acc,_,ha=>⟨acc,rfl,ha,fun y h=>h.elim id fun z=>absurd z (by simp)⟩
 |(n,k)::r,acc,hf,ha=>by
  have hr:∀y∈r,y.2= .free→∃c,env.cells.lookup y.1=some c:=fun y hy=>hf y (List.mem_cons_of_mem _ hy)
  by_cases hk:k= .free
  ·subst hk;obtain⟨c,hc⟩:=hf (n,.free) List.mem_cons_self rfl;have ha':∀y c',((n,c)::acc).lookup y=some c'→env.cells.lookup y=some c':=fun y c' h=>by
    cases hy:y==n with
    |true=>
     simp only[List.lookup_cons,hy] at h;cases h;rw[beq_iff_eq.mp hy];exact hc
    |false=>
     simp only[List.lookup_cons,hy] at h;exact ha y c' h
   obtain⟨cl,e,h1,h2⟩:=Zbl env r ((n,c)::acc) hr ha';refine⟨cl,?_,h1,fun y h=>h2 y ?_⟩
   ·rw[List.forIn_cons];have:cellOf env n=pure c:=by unfold cellOf;rw[hc]
    simp only[beq_self_eq_true,if_true,this];exact e
   ·rcases h with⟨c',h⟩|h
    ·cases hy:y==n with
     |true=>exact .inl ⟨c,by simp only[List.lookup_cons,hy]⟩
     |false=>exact .inl ⟨c',by simp only[List.lookup_cons,hy];exact h⟩
    ·rcases List.mem_cons.mp h with h|h
     ·cases h;exact .inl ⟨c,by simp⟩
     ·exact .inr h
  ·obtain⟨cl,e,h1,h2⟩:=Zbl env r acc hr ha;refine⟨cl,?_,h1,fun y h=>h2 y ?_⟩
   ·rw[List.forIn_cons];have hb:(k==NameKind.free)=false:=by simpa using hk
    simp only[hb,Bool.false_eq_true,if_false];exact e
   ·rcases h with h|h
    ·exact .inl h
    ·rcases List.mem_cons.mp h with h|h
     ·cases h;exact absurd rfl hk
     ·exact .inr h
def PIf(X:Cx)(ifs:List Expr)(t:TT):Prop:=
 ∀(pins:List (Addr×Obj))(s:Shared)(σ:St)(H:Hp)(Q:Bool→Hp→Prop),Inv X pins σ H s→t σ H Q→
  wpAny (model X.prog X.w) X.A (forIn ifs true fun c r=>if r=true then do let ok←isTrue c X.env (eval c X.env);pure (ForInStep.yield ok) else pure (ForInStep.yield r)) (TP X pins σ Q) X.xe s
noncomputable def tAll:TT:=fun _ H Q=>Q true H
section
variable {X:Cx}
theorem Yn:PIf X [] tAll:=fun _ _ _ H _ I h=>wpAny_pure ⟨H,I,h⟩
theorem Zcm{c:Expr}{t:TT}(hc:PT X c t):PIf X [c] t:=by
 intro pins s σ H Q I h;rw[List.forIn_cons];simp only[if_true];refine wpAny_bind (wpAny_bind (thn (hc pins s σ H _ I h) fun b s1 q=>wpAny_pure ?_));exact wpAny_pure q
end
section
variable {prog:Program}{w:World}{A:Around}{R:Result→Shared→Prop}{s:Shared}
theorem ZbD{elt target iter:Expr}{ifs:List Expr}{scope:Scope}{pos:Pos}{it acc:Value}{env:Env}(I:Nat→Shared→Prop)
  (turn:∀n s,I n s→wpAny (model prog w) A (pyNext it) (fun r s₁=>match r with
   |none=>R (.ok .next) s₁
   |some v=>wpAny (model prog w) A (letOwnedTupleGo target it v) (fun _ s₀=>wpAny (model prog w) A (assign target env v) (fun _ s₂=>
     wpAny (model prog w) A (forIn ifs true fun c r=>if r=true then do let ok←isTrue c env (eval c env);pure (ForInStep.yield ok) else pure (ForInStep.yield r)) (fun ok s₃=>
      if ok=true then wpAny (model prog w) A (eval elt env) (fun x s₄=>
       wpAny (model prog w) A (call (.builtin "list.append") [acc,x]) (fun _ s₅=>∃m,m<n∧I m s₅) (fun _ _=>False) s₄) (fun _ _=>False) s₃
      else ∃m,m<n∧I m s₃) (fun _ _=>False) s₂) (fun _ _=>False) s₀) (fun _ _=>False) s₁) (fun _ _=>False) s)
  (n:Nat) (h:I n s):
  codeAny (model prog w) A (.compLoop (.ListComp elt [⟨target,iter,ifs,0⟩] scope pos) 0 it acc env) R s:=by
 refine codeAny_loop rfl I (fun n s hI=>?_) n h;show wpAny _ A ((compTurn (.ListComp elt [⟨target,iter,ifs,0⟩] scope pos) 0 it acc env).onRaise (fun x=>do noteFrame x env;theTreesLotGoes x)) _ _ s;refine wpAny_noted ?_;rw[compTurn_list];refine wpAny_bind (wpAny_standAt (wpAny_bind (wpAny_mono (turn n s hI) (fun r s₁ h₁=>?_) fun _ _ z=>z.elim)));cases r with
 |none=>exact wpAny_pure h₁
 |some v=>
  refine wpAny_bind (wpAny_mono h₁ (fun _ s₀ h₀=>?_) fun _ _ z=>z.elim);refine wpAny_bind (wpAny_mono h₀ (fun _ s₂ h₂=>wpAny_bind (wpAny_mono h₂ (fun ok s₃ h₃=>?_) fun _ _ z=>z.elim)) fun _ _ z=>z.elim);cases ok with
  |false=>exact wpAny_pure ⟨rfl,h₃⟩
  |true=>
   exact wpAny_bind (wpAny_bind (wpAny_mono h₃ (fun x s₄ h₄=>wpAny_bind (wpAny_mono h₄ (fun _ s₅ h₅=>wpAny_pure (wpAny_pure ⟨rfl,h₅⟩)) fun _ _ z=>z.elim)) fun _ _ z=>z.elim))
end
noncomputable def Zhh (ix:List Nat) (wi:TI) (g:TG) (tc:TT) (te:TE):TE:=fun σ H Q=>wi σ H fun J H1=>∀p,H1 p=none→
 ∃W:Nat→Nat→List V→St→Hp→Prop,(∃m,W 0 m [] (emb ix σ) (upd H1 p (.lst [])))∧∀i m ys σ' H',W i m ys σ' H'→
  (J.stop i H'∧Q (.ref p) H')∨(J.go i H'∧∀x H2,J.yld i H' x H2→g x σ' H2 fun σ2 H3=>tc σ2 H3 fun b H4=>
   if b=true then te σ2 H4 fun v H5=>H5 p=some (.lst ys)∧ys.length<sizeLine∧∃m',m'<m∧W (i+1) m' (ys++ [v]) σ2 (upd H5 p (.lst (ys++ [v])))
   else ∃m',m'<m∧W (i+1) m' ys σ2 H4)
section
variable {X:Cx}
theorem Zhv{pins:List (Addr×Obj)}{σ:St}{H:Hp}{s:Shared}{sc:Scope}{x:Str}{zs:List Str}{ix:List Nat}{cl:List (Str×Addr)}{fp:List Addr}{h₁:Heap}{tk:Nat}
  (S:Y6 X sc x zs ix) (I:Inv X pins σ H s) (hcl:∀y c,cl.lookup y=some c→X.env.cells.lookup y=some c) (hhas:∀y,(y,NameKind.free)∈sc.names→∃c,cl.lookup y=some c)
  (hfp:∀b∈fp,WY X pins H b∧b<s.heap.objs.size) (hns:h₁.Ns s.heap.objs.size fun _=>none) (hk:∀b o,s.heap.get? b=some o→h₁.get? b=some o):
  Inv (Zn X sc cl s.heap.objs.size (x::zs) s H fp) [] (emb ix σ) H {s with heap:=h₁,toks:=tk}:=by
 have sub:∀b∈frs X.stack,b∈X.env.locals::X.fs:=I.stkSub;have nfs:∀b∈fp,b∉frs X.stack:=fun b hb z=>by
  obtain⟨⟨_,f1,f2,_⟩,_⟩:=hfp b hb;rcases List.mem_cons.mp (sub b z) with e|e
  ·exact f1 e
  ·exact f2 e
 have cut:∀y,(Zn X sc cl s.heap.objs.size (x::zs) s H fp).env.kindOf y=some .cell∨(Zn X sc cl s.heap.objs.size (x::zs) s H fp).env.kindOf y=some .free→∃c,cl.lookup y=some c:=fun y hy=>by
  have q:∃k,(relabel sc X.env).names.lookup y=some k∧(k= .cell∨k= .free):=by
   rcases hy with hy|hy
   ·exact⟨_,hy,.inl rfl⟩
   ·exact⟨_,hy,.inr rfl⟩
  obtain⟨k,e,hk⟩:=q;obtain⟨k',e',q⟩:=Ww e;have:k'= .free:=by
   rcases q with q|⟨q,_⟩
   ·rcases hk with z|z
    ·exact absurd (q.symm.trans z) (S.nocell _ (Wj e'))
    ·exact q.symm.trans z
   ·exact q
  subst this;exact hhas y (Wj e')
 refine⟨⟨I.ok.mod,S.kind,I.ok.glob,I.ok.blt,Nat.le_refl _,fun y z c h1 h2=>I.ok.inj y z c (hcl _ _ h1) (hcl _ _ h2),cut,fun y c hf _=>?_,I.ok.hd,I.ok.frames,.inl rfl,fun b hb=>?_,I.bs,Nat.le_trans I.ok.bsz I.sz,fun b o e hb=>?_,nfs,I.stack,I.stkFree⟩,
  rfl,I.bare,Un.kept hk,⟨_,hns,fun i y v h1 h2 h3=>?_⟩,fun y c h=>?_,I.hok.fresh (Nat.le_refl _),fun y c h=>I.freeC y c (hcl y c h),fun p hp=>absurd (show p∈([]:List (Addr×Obj)) from hp) (by simp),I.hok.kept hk,?_⟩
 ·exact absurd (show false=true from hf) (by decide)
 ·obtain⟨⟨f0,f1,f2,f3,f4,f5⟩,hl⟩:=hfp b hb;exact⟨Nat.ne_of_lt hl,fun y c h=>f4 y c (hcl y c h)⟩
 ·obtain⟨⟨f0,f1,f2,f3,f4,f5⟩,hl⟩:=hfp b hb;rcases f3 with z|z
  ·exact I.ok.noex b o e z
  ·exact absurd (Nat.lt_of_lt_of_le (Heap.lt_size e) (Nat.le_trans I.ok.bsz z)) (Nat.lt_irrefl _)
 ·
  cases i with
  |zero=>
   have:(none:Option (Option V))=some (some v)∨(some none:Option (Option V))=some (some v):= .inr h2;rcases this with z|z<;>cases z
  |succ i=>
   have h1':zs[i]? =some y:=h1;have h2':(ix.map fun j=>(σ[j]?).join)[i]? =some (some v):=h2;have ha:(ix.map fun j=>X.N[j]?)[i]? =some (some y):=by rw[S.at_,List.getElem?_map,h1'];rfl
   rw[List.getElem?_map] at h2' ha;cases e:ix[i]? with
   |none=>rw[e] at h2';cases h2'
   |some j=>
    rw[e] at h2' ha;have ha':X.N[j]? =some y:=Option.some.inj ha;have hj:(σ[j]?).join=some v:=Option.some.inj h2';have hσ:σ[j]? =some (some v):=by
     cases q:σ[j]? with
     |none=>rw[q] at hj;cases hj
     |some o=>rw[q] at hj;exact congrArg some hj
    obtain⟨m,hn,hl⟩:=I.loc;have hfr:=S.zfree y (List.mem_of_getElem? h1');have hkind:=S.free _ (Wj hfr) rfl;have hv:Vis X.env.scope y:=by
     rcases hkind with z|z
     ·exact .inr (.inl z)
     ·exact .inr (.inr z)
    obtain⟨u,r,q⟩:=hl j y v ha' hσ hv;refine⟨u,r,?_⟩;rcases q with⟨kl,_⟩|⟨_,c,hc,hcell⟩
    ·have kl':X.env.kindOf y=some .local:=kl;rcases hkind with z|z<;>(rw[z] at kl';cases kl')
    ·obtain⟨c',hc'⟩:=hhas y (Wj hfr);have ec:c'=c:=by have:=hcl y c' hc';rw[hc] at this;exact(Option.some.inj this).symm
     subst ec;refine .inr ⟨?_,c',hc',?_⟩
     ·have hvis:Vis (relabel sc X.env) y:=h3;rcases hvis with z|z|z
      ·obtain⟨k',e',q⟩:=Ww z;rw[hfr] at e';cases e';rcases q with q|⟨_,q⟩<;>cases q
      ·exact .inl z
      ·exact .inr z
     ·obtain⟨o,ho,hd⟩:=hcell;exact⟨o,hk _ _ ho,hd⟩
 ·obtain⟨v,o,ho,hd⟩:=I.cell y c (hcl y c h);exact⟨v,o,hk _ _ ho,hd⟩
 ·show(none::ix.map fun j=>(σ[j]?).join).length=(x::zs).length;have:=congrArg List.length S.at_;simp only[List.length_map] at this;simp only[List.length_cons,List.length_map,this]
def ZgB(X:Cx)(pins:List (Addr×Obj))(σ:St)(Q:VK)(acc:Value)(C:Addr)(s':Shared):Prop:=
 ∃p H' m,acc=Value.ref p∧s'.heap.Ns C m∧Inv X pins σ H' s'∧WY X pins H' C∧Q (.ref p) H'
theorem Zdv{pins:List (Addr×Obj)}{σ:St}{H:Hp}{s:Shared}{sc:Scope}{x:Str}{zs:List Str}{ix:List Nat}{cl:List (Str×Addr)}{fp:List Addr}{it:Addr}{tn:Nat→Heap→Prop}{J:It}
  {elt tg iter:Expr} {ifs:List Expr} {pos:Pos} {g:TG} {tc:TT} {te:TE} {Q:VK} {E:Value→Shared→Prop} {RR:Value→Addr→Result→Shared→Prop}
  (hc:X.calm=true) (S:Y6 X sc x zs ix) (I:Inv X pins σ H s) (hcl:∀y c,cl.lookup y=some c→X.env.cells.lookup y=some c) (hhas:∀y,(y,NameKind.free)∈sc.names→∃c,cl.lookup y=some c)
  (T:Za9 X.prog X.w X.K tg J fp it tn) (st:tn 0 s.heap) (hfp:∀b∈fp,WY X pins H b)
  (hin:∀C s H,PG (Zn X sc cl C (x::zs) s H fp) tg g∧PIf (Zn X sc cl C (x::zs) s H fp) ifs tc∧PE (Zn X sc cl C (x::zs) s H fp) elt te)
  (hq:∀p,H p=none→∃W:Nat→Nat→List V→St→Hp→Prop,(∃m,W 0 m [] (emb ix σ) (upd H p (.lst [])))∧∀i m ys σ' H',W i m ys σ' H'→
   (J.stop i H'∧Q (.ref p) H')∨(J.go i H'∧∀x H2,J.yld i H' x H2→g x σ' H2 fun σ2 H3=>tc σ2 H3 fun b H4=>
    if b=true then te σ2 H4 fun v H5=>H5 p=some (.lst ys)∧ys.length<sizeLine∧∃m',m'<m∧W (i+1) m' (ys++ [v]) σ2 (upd H5 p (.lst (ys++ [v])))
    else ∃m',m'<m∧W (i+1) m' ys σ2 H4))
  (hR:∀acc C f s',ZgB X pins σ Q acc C s'→RR acc C (.ok f) s'):
  wpAny (model X.prog X.w) X.A (newList []) (fun acc s₃=>wpAny (model X.prog X.w) X.A (newFunctionEnv sc X.env.globals cl [] X.env.qual none .none (some X.env)) (fun cenv s₄=>
   codeAny (model X.prog X.w) X.A (.compStart (.ListComp elt [⟨tg,iter,ifs,0⟩] sc pos) 0 (.ref it) acc {cenv with scope:=relabel sc X.env}) (RR acc cenv.locals) s₄) E s₃) E s:=by
 refine wpAny_newObj_type (wpAny_newFunctionEnv S.nocell (by intro y hy;simp at hy) (fun h₁ hns₁ hsb₁=>?_) S.kind);have I3:Inv X pins σ (upd H s.heap.objs.size (.lst [])) {s with heap:=s.heap.push {cls:= .type "list",dict:=none,data:= .seq ([]:List Value).toArray}}:=I.lnew (its:=[]) (ys:=[]) (t':=s.toks) .nil (Nat.zero_le _);dsimp only at hns₁ hsb₁⊢;obtain⟨W,⟨m0,w0⟩,turn⟩:=hq s.heap.objs.size (I.hok.fresh (Nat.le_refl _));have lt:∀b∈fp,b<s.heap.objs.size:=fun b hb=>by
  obtain⟨o,e,_⟩:=T.obj 0 s.heap st b hb;exact Heap.lt_size e
 have up:∀b∈fp,∀o,(upd H s.heap.objs.size o) b=H b:=fun b hb o=>Zg (Nat.ne_of_lt (lt b hb));have kp:∀b o,(s.heap.push {cls:= .type "list",dict:=none,data:= .seq ([]:List Value).toArray}).get? b=some o→h₁.get? b=some o:=fun b o e=>
  hsb₁.extBut b o (Nat.ne_of_lt (Heap.lt_size e)) (Heap.get?_push_of_some _ e)
 have f3:∀b∈fp,WY X pins (upd H s.heap.objs.size (.lst [])) b∧b<(s.heap.push {cls:= .type "list",dict:=none,data:= .seq ([]:List Value).toArray}).objs.size:=fun b hb=>by
  obtain⟨q0,q⟩:=hfp b hb;refine⟨⟨(up b hb _).trans q0,q⟩,?_⟩;rw[Heap.size_push];exact Nat.lt_succ_of_lt (lt b hb)
 generalize hS3:({s with heap:=s.heap.push {cls:= .type "list",dict:=none,data:= .seq ([]:List Value).toArray}}:Shared)=s3 at I3;have hH3:s.heap.push {cls:= .type "list",dict:=none,data:= .seq ([]:List Value).toArray}=s3.heap:=by rw[←hS3]
 rw[hH3] at kp f3 hns₁⊢;have st3:tn 0 h₁:=T.keep 0 _ _ st fun b _ o e=>kp b o (by rw[←hH3];exact Heap.get?_push_of_some _ e);have J0:Inv (Zn X sc cl s3.heap.objs.size (x::zs) s3 (upd H s.heap.objs.size (.lst [])) fp) [] (emb ix σ) (upd H s.heap.objs.size (.lst [])) {s3 with heap:=h₁,toks:=s3.toks}:=
  Zhv S I3 hcl hhas f3 hns₁ kp
 obtain⟨hg,hif,he⟩:=hin s3.heap.objs.size s3 (upd H s.heap.objs.size (.lst []));have fpo:∀{H':Hp},(∀b∈fp,H' b=none)→∀b∈fp,WY (Zn X sc cl s3.heap.objs.size (x::zs) s3 (upd H s.heap.objs.size (.lst [])) fp) [] H' b:=fun{H'} hn b hb=>
  ⟨hn b hb,(J0.ok.exf b hb).1,J0.ok.exfs b hb,.inl hb,(J0.ok.exf b hb).2,fun p hp=>absurd (show p∈([]:List (Addr×Obj)) from hp) (by simp)⟩
 have loop:∀s4:Shared,s4={s3 with heap:=h₁,toks:=s3.toks}→
   codeAny (model X.prog X.w) X.A (.compLoop (.ListComp elt [⟨tg,iter,ifs,0⟩] sc pos) 0 (.ref it) (.ref s.heap.objs.size) (compEnvC sc cl s3.heap.objs.size X.env)) (RR (.ref s.heap.objs.size) s3.heap.objs.size) s4:=by
  rintro s4 rfl;refine ZbD (fun n s'=>∃i ys σ' H',Inv (Zn X sc cl s3.heap.objs.size (x::zs) s3 (upd H s.heap.objs.size (.lst [])) fp) [] σ' H' s'∧tn i s'.heap∧(∀b∈fp,H' b=none)∧W i n ys σ' H') ?_ m0
   ⟨0,[],emb ix σ,_,J0,st3,fun b hb=>(f3 b hb).1.1,w0⟩
  rintro n s5 ⟨i,ys,σ5,H5,I5,st5,fr5,w5⟩;rcases turn i n ys σ5 H5 w5 with⟨stop,qn⟩|⟨go,step⟩
  ·refine thn (T.done (Zn X sc cl s3.heap.objs.size (x::zs) s3 (upd H s.heap.objs.size (.lst [])) fp) rfl rfl rfl hc i [] s5 σ5 H5 _ I5 (fpo fr5) st5 stop) fun r s6 ⟨hr,I6⟩=>?_;subst hr;obtain⟨m6,hm6,_⟩:=I6.loc;refine hR _ _ _ _ ⟨s.heap.objs.size,H5,m6,rfl,hm6,?_,I3.fpOk (Nat.le_refl _) I6.free,qn⟩;exact I3.call' I6.os I6.base I6.hok I6.bare fun b hb=>by
    obtain⟨⟨f0,f1,f2,f3,f4,f5⟩,_⟩:=f3 b hb;exact⟨f3,f1,f4,f5⟩
  ·refine thn (T.item (Zn X sc cl s3.heap.objs.size (x::zs) s3 (upd H s.heap.objs.size (.lst [])) fp) rfl rfl rfl hc i [] s5 σ5 H5 _ I5 (fpo fr5) st5 go) fun r s6 ⟨u,hr,h6⟩=>?_;subst hr;refine thn h6 fun _ s7 ⟨x7,H7,I7,r7,y7,st7,fr7⟩=>?_;have I7':=I7.pinned (fpo fr7) (T.obj _ _ st7);refine thn (hg _ s7 σ5 H7 x7 u _ I7' r7 (step x7 H7 y7)) fun _ s8 ⟨σ8,H8,I8,q8⟩=>?_;refine thn (hif _ s8 σ8 H8 _ I8 q8) fun b s9 ⟨H9,I9,q9⟩=>?_;have again:∀{ys':List V}{σ':St}{H':Hp}{m':Nat}{s':Shared},Inv (Zn X sc cl s3.heap.objs.size (x::zs) s3 (upd H s.heap.objs.size (.lst [])) fp) ([]++Za0 fp s7.heap) σ' H' s'→W (i+1) m' ys' σ' H'→m'<n→
     ∃m,m<n∧∃i ys σ' H',Inv (Zn X sc cl s3.heap.objs.size (x::zs) s3 (upd H s.heap.objs.size (.lst [])) fp) [] σ' H' s'∧tn i s'.heap∧(∀b∈fp,H' b=none)∧W i m ys σ' H':=fun{ys' σ' H' m' s'} Iz wz hm=>by
    refine⟨m',hm,i+1,ys',σ',H',Iz.unpinned,T.keep _ _ _ st7 fun b hb o e=>(Iz.pin (b,o) (List.mem_append_right _ (List.mem_append_right _ (Vb hb e)))).1,fun b hb=>?_,wz⟩;obtain⟨o,e,d⟩:=T.obj _ _ st7 b hb;exact(Iz.pin (b,o) (List.mem_append_right _ (List.mem_append_right _ (Vb hb e)))).2.1
   cases b with
   |false=>
    rw[if_neg Bool.false_ne_true] at q9⊢;obtain⟨m',hm,wz⟩:=q9;exact again I9 wz hm
   |true=>
    rw[if_pos rfl] at q9⊢;refine thn (he _ s9 σ8 H9 _ I9 q9) fun v s10 ⟨y,H10,I10,r10,hl,hz,m',hm,wz⟩=>?_;refine thn (Yg _ s10 σ8 H10 (.ref s.heap.objs.size) [y] (.ref s.heap.objs.size) [v] (fun z H'=>z= .non∧H'=upd H10 s.heap.objs.size (.lst (ys++ [y]))) I10 rfl (.cons r10 .nil) ⟨_,ys,y,rfl,rfl,hl,hz,rfl,rfl⟩) fun _ s11 ⟨z,H11,I11,_,_,e11⟩=>?_;subst e11;exact again I11 wz hm
 exact codeAny_compStart_list (loop _ (by subst hS3;rfl)) (T.self _ 0 _ _ _ st3 (loop _ (by subst hS3;rfl)))
theorem V5{sc:Scope}{x:Str}{zs:List Str}{ix:List Nat}(ok:X.Ok)(S:Y6 X sc x zs ix):
  ∃cl,closureFor sc X.env=pure cl∧(∀y c,cl.lookup y=some c→X.env.cells.lookup y=some c)∧∀y,(y,NameKind.free)∈sc.names→∃c,cl.lookup y=some c:=by
 obtain⟨cl,e,h1,h2⟩:=Zbl X.env sc.names [] (fun y hy hf=>ok.has y.1 (S.free y hy hf)) (fun y c h=>by simp at h);refine⟨cl,?_,h1,fun y hy=>h2 y (.inr hy)⟩;unfold closureFor;simp only;rw[e]
 rfl
theorem Um{elt tg iter:Expr}{ifs:List Expr}{sc:Scope}{pos:Pos}{x:Str}{zs:List Str}{ix:List Nat}{wi:TI}{g:TG}{tc:TT}{te:TE}
  (hc:X.calm=true) (S:Y6 X sc x zs ix) (hi:PI X tg iter wi)
  (hin:∀cl C s H fp,PG (Zn X sc cl C (x::zs) s H fp) tg g∧PIf (Zn X sc cl C (x::zs) s H fp) ifs tc∧PE (Zn X sc cl C (x::zs) s H fp) elt te)
  (hs:∀x,foldedSetIterable iter X.env x=pure x:=by intro _;rfl):
  PE X (.ListComp elt [⟨tg,iter,ifs,0⟩] sc pos) (Zhh ix wi g tc te):=by
 intro pins s σ H Q I h;obtain⟨cl,hclos,hcl,hhas⟩:=V5 I.ok S;rw[eval_ListComp];refine wpAny_comprehension_free (use:=none) rfl hs hclos S.kind S.names (thn (hi pins s σ H _ I h) fun v s1 h1=>thn h1 fun itv s2 h2=>?_);obtain⟨it,fp,tn,J,H2,e,I2,T,st2,f2,hq⟩:=h2;subst e;refine Zdv (RR:=fun acc C=>compPost (model X.prog X.w) X.A X.xe none (EP X pins σ Q) acc C) hc S I2 hcl hhas T st2 f2 (fun C s H=>hin cl C s H fp) hq fun acc C f s' h=>?_;obtain⟨p,H',m,rfl,hm,I',⟨g0,g1,g2,g3,g4,g5⟩,q⟩:=h;exact⟨m,hm,fun h' hb=>⟨.ref p,H',I'.turned (t':=s'.toks) (fun b o hne e=>(hb.2 b hne).trans e) g0 g1 g3 g4 g5,rfl,q⟩⟩
theorem Zca{elt tg iter:Expr}{ifs:List Expr}{sc:Scope}{pos py spos:Pos}{x y:Str}{zs:List Str}{ix:List Nat}{wi:TI}{g:TG}{tc:TT}{te:TE}{j:Nat}
  (hc:X.calm=true) (S:Y6 X sc x zs ix) (hi:PI X tg iter wi)
  (hin:∀cl C s H fp,PG (Zn X sc cl C (x::zs) s H fp) tg g∧PIf (Zn X sc cl C (x::zs) s H fp) ifs tc∧PE (Zn X sc cl C (x::zs) s H fp) elt te)
  (hN:X.N.Nodup) (hj:X.N[j]? =some y) (hy:Loc X.env.scope y)
  (hsw:swapsWith (.ListComp elt [⟨tg,iter,ifs,0⟩] sc pos) (some (.Name y py)) spos.line X.env=pure true:=by rfl)
  (hf:X.fn y=true∨X.env.scope.names.lookup y=some .local:=by first|exact .inl rfl|exact .inr rfl|assumption)
  (hs:∀x,foldedSetIterable iter X.env x=pure x:=by intro _;rfl):
  PS X (.Assign [.Name y py] (.ListComp elt [⟨tg,iter,ifs,0⟩] sc pos) spos) (ZfI (Zhh ix wi g tc te) (US j)):=by
 intro pins s σ H D I h;obtain⟨cl,hclos,hcl,hhas⟩:=V5 I.ok S;rw[exec_Assign_Name_used _ _ _ _ hsw];refine wpAny_bind (wpAny_standAt (wpAny_bind ?_));show wpAny _ X.A (do let _←comprehension (.ListComp elt [⟨tg,iter,ifs,0⟩] sc pos) sc X.env _ (newList []) false (eval iter X.env) (some (assign (.Name y py) X.env))) _ _ s;refine wpAny_bind (wpAny_mono (wpAny_comprehension_free (use:=some (assign (.Name y py) X.env)) (Q:=fun _ s'=>SP X pins D .next s') rfl hs hclos S.kind S.names
  (thn (hi pins s σ H _ I h) fun v s1 h1=>thn h1 fun itv s2 h2=>?_)) (fun _ s' hq=>wpAny_pure (wpAny_pure hq)) fun _ _ e=>e)
 obtain⟨it,fp,tn,J,H2,e,I2,T,st2,f2,hq⟩:=h2;subst e;refine Zdv (Q:=fun x H1=>US j x σ H1 D.nx) (RR:=fun acc C=>compPost (model X.prog X.w) X.A X.xe (some (assign (.Name y py) X.env)) (fun _ s'=>SP X pins D .next s') acc C) hc S I2 hcl hhas T st2 f2 (fun C s H=>hin cl C s H fp) hq fun acc C f s' h=>?_;obtain⟨p,H',m,rfl,hm,I',⟨g0,g1,g2,g3,g4,g5⟩,q⟩:=h;show wpAny _ X.A (assign (.Name y py) X.env (.ref p)) _ _ _;refine wpAny_assign_Name (ZbW I' hN hj hy (show ZF (.ref p) (.ref p) from rfl) (fun s'' I'' ⟨c,hsb,hcc⟩=>?_) hf);have hne:C≠c:=by
  rcases hcc with z|z
  ·rw[z];exact g1
  ·exact Ne.symm (g4 _ _ z)
 exact⟨m,hm.sameBut hsb hne,fun h' hb=>⟨_,H',I''.turned (t':=s''.toks) (fun b o hne e=>(hb.2 b hne).trans e) g0 g1 g3 g4 g5,q⟩⟩
end
end L2
namespace L2
open PySem PySem.Spec PyProof.Rows
noncomputable def CXX (P:Program) (w:World):CXT:=fun outer H s E e s'=>
 ∃(ea:Addr)(cls a0:Value)(H':Hp)(B:Heap),e= .ref ea∧s'.os=s.os∧AllBare s'.gens∧Un (frs outer) [] H H' s.heap s'.heap∧HOk P w H' s'.heap∧
  Heap.FlyingW B outer ea cls a0 s'.heap∧(∀b o,s'.heap.get? b=some o→(H' b≠none∨((∃o',s.heap.get? b=some o')∧b∉frs outer))→B.get? b=some o)∧E cls none H'
theorem HOk.stays{P:Program}{w:World}{H:Hp}{h h' B:Heap}(ok:HOk P w H h)(hB:∀b o,h.get? b=some o→H b≠none→B.get? b=some o)(st:B.StaysIn h'):HOk P w H h':=fun a o e=>
 (ok a o e).stay (fun b u hb q=>st b u (hB b u q (by
  rcases hb with rfl|hb
  ·rw[e];exact fun z=>nomatch z
  ·rw[hb];exact fun z=>nomatch z))) (fun _ q=>q) fun _ _ q=>q
theorem Z1.got{P:Program}{w:World}{H:Hp}{h:Heap}{a:Addr}{o:HO}(x:Z1 P w H h a o):∃ob,h.get? a=some ob:=by
 cases o with
 |lst xs=>obtain⟨_,_,_,_,e⟩:=x;exact⟨_,e⟩
 |tup xs=>obtain⟨_,_,_,p⟩:=x;obtain⟨ob,e,_⟩:=p;exact⟨ob,e⟩
 |dK kvs=>obtain⟨_,_,_,_,o,_,_,e,_⟩:=x;exact⟨o,e⟩
 |dT kvs=>obtain⟨_,_,_,_,o,_,_,e,_⟩:=x;exact⟨o,e⟩
 |set S n=>obtain⟨o,_,_,_,e,_⟩:=x;exact⟨o,e⟩
 |ins C dx fs=>obtain⟨_,_,_,e,_⟩:=x;exact⟨_,e⟩
 |own y=>exact x
 |xd fs=>obtain⟨_,⟨o,_,_,e,_⟩,_⟩:=x;exact⟨o,e⟩
 |rng lo hi=>obtain⟨_,_,_,e⟩:=x;exact⟨_,e⟩
 |frz ob u=>obtain⟨e,_⟩:=x;exact⟨ob,e⟩
 |tbl ps=>exact⟨_,(show h.get? a=some _ from x)⟩
 |met f y=>exact⟨_,(show h.get? a=some _ from x)⟩
 |ext φ=>obtain⟨_,e,_⟩:=x;exact e
theorem Un.fly{fs:List Addr}{H H':Hp}{h h1 h2 B:Heap}(u:Un fs [] H H' h h1)(hB:∀b o,h1.get? b=some o→(H' b≠none∨((∃o',h.get? b=some o')∧b∉fs))→B.get? b=some o)
  (st:B.StaysIn h2) (sl:h1.UpToSlots h2) (hf:∀b∈fs,∀o,h.get? b=some o→∀vs,o.data≠ .fields vs) (hfn:∀b∈fs,H b=none):Un fs [] H H' h h2 where
 keep:=fun b o e n hb hx=>st b o (hB b o (u.keep b o e n hb hx) (.inr ⟨⟨_,e⟩,hb⟩))
 slot:=fun b o e n hb hx=>by
  obtain⟨s1,e1⟩:=u.slot b o e n hb hx;obtain⟨s2,e2⟩:=sl b _ e1 (hf b hb o e);exact⟨s2,e2⟩
 free:=u.free
 there:=fun b o e hx=>by
  by_cases hb:b∈fs
  ·obtain⟨s1,e1⟩:=u.slot b o e (hfn b hb) hb hx;obtain⟨s2,e2⟩:=sl b _ e1 (hf b hb o e);exact⟨_,e2⟩
  ·obtain⟨o',e1⟩:=u.there b o e hx;exact⟨o',st b o' (hB b o' e1 (.inr ⟨⟨_,e⟩,hb⟩))⟩
 tups:=u.tups
 frzs:=u.frzs
 tbls:=u.tbls
section
variable {P:Program}{w:World}{K:PySem.W.Frag}{mg:Str→Option Value}{base:Heap}{N:List Str}{qual:Str}{scope:Scope}{f:Addr}{cd:Value}{A:Around}{outer:List Env}{s₀:Shared}{H₀:Hp}{E:XK}
noncomputable abbrev cxX (P:Program) (w:World) (K:PySem.W.Frag) (mg:Str→Option Value) (base:Heap) (N:List Str) (qual:Str) (scope:Scope) (f:Addr) (cd:Value) (A:Around) (outer:List Env) (s₀:Shared) (H₀:Hp) (E:XK):Cx:=
 ZM (CXX P w) P w K mg base N qual scope f cd A outer s₀ H₀ E
theorem Zjr{pins:List (Addr×Obj)}{σ:St}{H H':Hp}{s s':Shared}{ea:Addr}{cls a0:Value}{B:Heap}(I:Inv (cxX P w K mg base N qual scope f cd A outer s₀ H₀ E) pins σ H s)
  (os:s'.os=s.os) (bare:AllBare s'.gens) (u:Un (frs (cxX P w K mg base N qual scope f cd A outer s₀ H₀ E).stack) [] H H' s.heap s'.heap) (ok:HOk P w H' s'.heap)
  (fl:Heap.FlyingW B (cxX P w K mg base N qual scope f cd A outer s₀ H₀ E).stack ea cls a0 s'.heap)
  (hB:∀b o,s'.heap.get? b=some o→(H' b≠none∨((∃o',s.heap.get? b=some o')∧b∉frs (cxX P w K mg base N qual scope f cd A outer s₀ H₀ E).stack))→B.get? b=some o) (q:E cls none H'):
  (cxX P w K mg base N qual scope f cd A outer s₀ H₀ E).xe (.ref ea) s':=by
 have hfr:(A.deeper (envOfC qual scope s₀.heap.objs.size f cd)).frames=some (envOfC qual scope s₀.heap.objs.size f cd::outer):=I.ok.frames;refine wpAny_leaves_onW (L:=s₀.heap.objs.size) hfr rfl fl fun h2 fl2 sl=>?_;have below:∀b o,s₀.heap.get? b=some o→b∉frs outer→(∃o',s.heap.get? b=some o')∧b∉frs (cxX P w K mg base N qual scope f cd A outer s₀ H₀ E).stack:=fun b o e hn=>
  ⟨I.base.there b o e (by intro z;exact absurd (show b∈([]:List Addr) from z) (by simp)),fun z=>by
   rcases List.mem_cons.mp (I.stkSub b z) with q|q
   ·have hb:=Heap.lt_size e;have q':b=s₀.heap.objs.size:=q;rw[q'] at hb;exact Nat.lt_irrefl _ hb
   ·exact hn q⟩
 have u2:Un (frs outer) [] H₀ H' s₀.heap s'.heap:=by
  have b0:Un (frs outer) [] H₀ H s₀.heap s.heap:=I.base;refine⟨fun b o e n hb hx=>?_,fun b o e n hb hx=>?_,fun b o e n hx=>?_,fun b o e hx=>?_,fun b xs e=>u.tups b xs (b0.tups b xs e),fun b o v e=>u.frzs b o v (b0.frzs b o v e),fun b ps e=>?_⟩
  ·exact u.keep b o (b0.keep b o e n hb hx) (b0.free b o e n hx) (below b o e hb).2 hx
  ·obtain⟨s1,e1⟩:=b0.slot b o e n hb hx;obtain⟨s2,e2⟩:=u.any e1 (b0.free b o e n hx) hx;exact⟨s2,e2⟩
  ·obtain⟨o',e1⟩:=b0.there b o e hx;exact u.free b o' e1 (b0.free b o e n hx) hx
  ·obtain⟨o',e1⟩:=b0.there b o e hx;exact u.there b o' e1 hx
  ·obtain⟨m1,e1⟩:=b0.tbls b ps e;obtain⟨m2,e2⟩:=u.tbls b _ e1;exact⟨m1++m2,by rw[e2,Array.append_assoc]⟩
 have hB2:∀b o,s'.heap.get? b=some o→(H' b≠none∨((∃o',s₀.heap.get? b=some o')∧b∉frs outer))→B.get? b=some o:=fun b o e h=>hB b o e (h.imp id fun⟨⟨o',z⟩,hn⟩=>below b o' z hn);have ok2:HOk P w H' h2:=ok.stays (fun b o e n=>hB b o e (.inl n)) fl2.1;refine⟨ea,cls,a0,H',B,rfl,os.trans I.os,bare,u2.fly hB2 fl2.1 sl (fun b hb o e=>?_) (I.ok.frf),ok2,fl2,fun b o e h=>?_,q⟩
 ·obtain⟨_,o',e',d⟩:=I.ok.funs.mem hb;have e'':s₀.heap.get? b=some o':=e';rw[e] at e'';cases e'';exact d
 ·have ex:∃o',s'.heap.get? b=some o':=by
   rcases h with h|⟨h,hn⟩
   ·cases q2:H' b with
    |none=>exact absurd q2 h
    |some v=>exact(ok b v q2).got
   ·obtain⟨o5,q5⟩:=h;exact u2.there b o5 q5 (by simp)
  obtain⟨o',e'⟩:=ex;have e2:=hB2 b o' e' h;have e3:=fl2.1 b o' e2;have e4:h2.get? b=some o:=e;rw[e3] at e4;cases e4;exact e2
theorem Zm:Ub (CXX P w) (cxX P w K mg base N qual scope f cd A outer s₀ H₀ E) E:=by
 intro pins σ H s e s' I h;obtain⟨ea,cls,a0,H',B,rfl,os,bare,u,ok,fl,hB,q⟩:=h;exact Zjr I os bare u ok fl hB q
noncomputable def Ze4 (cls:Value) (E:XK) (t:TA):TS:=fun _ σ H=>t σ H fun vs H1=>vs.length≤sizeLine∧E cls none H1
theorem Zik{pins:List (Addr×Obj)}{σ:St}{H:Hp}{s:Shared}{h':Heap}{ea:Addr}{cls:Value}{us:List Value}(I:Inv (cxX P w K mg base N qual scope f cd A outer s₀ H₀ E) pins σ H s)
  (hx:Heap.MadeExcOf s.heap h' ea cls us) (q:E cls none H):(cxX P w K mg base N qual scope f cd A outer s₀ H₀ E).xe (.ref ea) {s with heap:=h'}:=by
 have hfr:(A.deeper (envOfC qual scope s₀.heap.objs.size f cd)).frames=some (envOfC qual scope s₀.heap.objs.size f cd::outer):=I.ok.frames;have hin:∀env∈(cxX P w K mg base N qual scope f cd A outer s₀ H₀ E).stack,∀b,env.frame=some b→b∈frs (cxX P w K mg base N qual scope f cd A outer s₀ H₀ E).stack:=fun env he b hb=>List.mem_filterMap.mpr ⟨env,he,hb⟩;have inB:∀b o,s.heap.get? b=some o→(H b≠none∨((∃o',s₀.heap.get? b=some o')∧b∉frs outer))→(PySem.W.hideAll s.heap (frs (cxX P w K mg base N qual scope f cd A outer s₀ H₀ E).stack)).get? b=some o:=fun b o e h=>
  PySem.W.hideAll_get _ e fun z=>by
   rcases h with h|⟨⟨o',e'⟩,hn⟩
   ·exact h (I.stkFree b z)
   ·rcases List.mem_cons.mp (I.stkSub b z) with q|q
    ·have hb:=Heap.lt_size e';have q':b=s₀.heap.objs.size:=q;rw[q'] at hb;exact Nat.lt_irrefl _ hb
    ·exact hn q
 refine wpAny_leaves_madeW (base:=PySem.W.hideAll s.heap (frs (cxX P w K mg base N qual scope f cd A outer s₀ H₀ E).stack)) (h:=s.heap) (L:=s₀.heap.objs.size) hfr rfl (fun b o e=>PySem.W.of_hideAll _ e) (PySem.W.funFrames_hide I.stack hin) hx fun h3 t fl _ _ sl=>?_;have sl':s.heap.UpToSlots h3:=(Heap.UpToSlots.of_keeps hx.keeps).trans sl;have b0:Un (frs outer) [] H₀ H s₀.heap s.heap:=I.base;have ok3:HOk P w H h3:=I.hok.stays (fun b o e n=>inB b o e (.inl n)) fl.1;refine⟨ea,cls,_,H,_,rfl,I.os,I.bare,b0.fly inB fl.1 sl' (fun b hb o e=>?_) I.ok.frf,ok3,fl,fun b o e h=>?_,q⟩
 ·obtain⟨_,o',e',d⟩:=I.ok.funs.mem hb;have e'':s₀.heap.get? b=some o':=e';rw[e] at e'';cases e'';exact d
 ·have ex:∃o',s.heap.get? b=some o':=by
   rcases h with h|⟨⟨o5,q5⟩,_⟩
   ·cases q2:H b with
    |none=>exact absurd q2 h
    |some v=>exact(I.hok b v q2).got
   ·exact b0.there b o5 q5 (by simp)
  obtain⟨o',e'⟩:=ex;have e2:=inB b o' e' h;have e3:=fl.1 b o' e2;have e4:h3.get? b=some o:=e;rw[e3] at e4;cases e4;exact e2
theorem ZiW{x:Str}{np cpos pos:Pos}{e₀:Expr}{rest:List Expr}{t:TA}{C:Addr}{B newId initId:String}{bm:List Value}(O:OwnCls x C bm newId mg base)(FB:ExcBaseFacts B newId initId bm)
  (hg:Gl (cxX P w K mg base N qual scope f cd A outer s₀ H₀ E) x) (ha:PA (cxX P w K mg base N qual scope f cd A outer s₀ H₀ E) (e₀::rest) t)
  (he:starEach (e₀::rest) (cxX P w K mg base N qual scope f cd A outer s₀ H₀ E).env=(false,eval e₀ (cxX P w K mg base N qual scope f cd A outer s₀ H₀ E).env)::starEach rest (cxX P w K mg base N qual scope f cd A outer s₀ H₀ E).env:=by rfl)
  (hplain:(backTo cpos (starEach rest (cxX P w K mg base N qual scope f cd A outer s₀ H₀ E).env)).any (·.1)=false:=by rfl) (hdb:(x==("__debug__" :Str))=false:=by decide):
  PS (cxX P w K mg base N qual scope f cd A outer s₀ H₀ E) (.Raise (some (.Call (.Name x np) (e₀::rest) [] cpos)) none pos) (Ze4 (.ref C) E t):=by
 intro pins s σ H D I h;obtain⟨tl,N',nm,q,bs,hdct,sn,sub,ab,col,dd,k0,k1,k2,k3,k5,mN,hC,hN,hni,T⟩:=O.obj;refine wpAny_Raise_call_subT (C:=C) (nm:=nm) (q:=q) (N:=N') (bs:=bs) (bm:=tl) (hdct:=hdct) (sn:=sn) (sub:=sub) (ab:=ab) (col:=col) (dd:=dd) (k0:=k0) (k1:=k1) (k2:=k2) (k3:=k3) (k5:=k5)
  FB (mN:=mN) (T.hasType FB.hasBase) (I.ok.hd rfl) (by rw[he];show(false||(backTo cpos (starEach rest (cxX P w K mg base N qual scope f cd A outer s₀ H₀ E).env)).any (·.1))=false;rw[hplain];rfl) hni (ZaX I hg O.bound ⟨rfl,?_⟩ hdb)
 have h':=ha cpos pins s σ H _ I h;rw[he] at h'⊢;refine Calls.evalArgs_plain (thn h' fun us s2 ⟨vs,H2,I2,r,hz,q2⟩=>⟨rfl,by rw[←r.length];exact hz,I2.bk _ _ hC,hN.keeps I2.bk,T.keeps I2.bk,fun h3 e hm=>Zik I2 hm q2⟩)
end
end L2
namespace L2
open PySem PySem.Spec PyProof.Rows
mutual
inductive Y3(K:PySem.W.Frag)(H:Hp):V→PyData→Prop
 |non:Y3 K H .non .none
 |bl (b:Bool):Y3 K H (.bl b) (.bool b)
 |int (i:Int):Y3 K H (.int i) (.int i)
 |str (x:Str):Y3 K H (.str x) (.str x)
 |lst {a:Addr} {xs:List V} {ds:List PyData} (h:SqL K H a xs) (r:WQ K H xs ds):Y3 K H (.ref a) (.list ds)
 |tup {a:Addr} {xs:List V} {ds:List PyData} (h:SqT K H a xs) (r:WQ K H xs ds):Y3 K H (.ref a) (.tuple ds)
inductive WQ(K:PySem.W.Frag)(H:Hp):List V→List PyData→Prop
 |nil:WQ K H [] []
 |cons {x:V} {d:PyData} {xs:List V} {ds:List PyData} (h:Y3 K H x d) (r:WQ K H xs ds):WQ K H (x::xs) (d::ds)
end
theorem WQ.ints{K:PySem.W.Frag}{H:Hp}:∀ns:List Int,WQ K H (ns.map V.int) (ns.map PyData.int)
 | []=> .nil
 |n::ns=> .cons (.int n) (WQ.ints ns)
section
variable {X:Cx}{pins:List (Addr×Obj)}{σ:St}{H:Hp}{s:Shared}
mutual
theorem Y3.reads(I:Inv X pins σ H s):∀{x:V}{d:PyData}{v:Value},Y3 X.K H x d→ZF x v→∃as,Reads s.heap v d as
 |_,_,_,.non,r=>by cases (show _=Value.none from r);exact⟨_,.none⟩
 |_,_,_,.bl b,r=>by cases (show _=Value.bool b from r);exact⟨_,.bool b⟩
 |_,_,_,.int i,r=>by obtain⟨t,e⟩:=r;cases e;exact⟨_,.int i t⟩
 |_,_,_,.str x,r=>by obtain⟨t,e⟩:=r;cases e;exact⟨_,.str x t⟩
 |_,_,_,.lst (a:=a) h rs,r=>by
  cases (show _=Value.ref a from r);obtain⟨its,rv,p,hz⟩:=I.list h;obtain⟨o,ho,hc,n,hd⟩:=p.isList;obtain⟨as,q⟩:=WQ.reads I rs rv;exact⟨_,.list ho hc hd (by simpa using q)⟩
 |_,_,_,.tup (a:=a) h rs,r=>by
  cases (show _=Value.ref a from r);obtain⟨its,rv,p,hz⟩:=I.tuple h;obtain⟨o,ho,hc,n,hd⟩:=(show s.heap.IsTuple a its.toArray from p);obtain⟨as,q⟩:=WQ.reads I rs rv;exact⟨_,.tuple ho hc hd (by simpa using q)⟩
theorem WQ.reads(I:Inv X pins σ H s):∀{xs:List V}{ds:List PyData}{vs:List Value},WQ X.K H xs ds→ZD xs vs→∃as,ReadsAll s.heap vs ds as
 |_,_,_,.nil,.nil=>⟨_,.nil⟩
 |_,_,_,.cons h r,.cons q t=>by
  obtain⟨as,e⟩:=Y3.reads I h q;obtain⟨bs,e'⟩:=WQ.reads I r t;exact⟨_,.cons e e'⟩
end
end
noncomputable def ZaM (K:PySem.W.Frag) (neg:Bool):R2:=fun x y H Q=>∃dx dy,Y3 K H x dx∧Y3 K H y dy∧dx.canLay0=true∧dy.canLay0=true∧dx.depth≤60∧Q (.bl (if neg then !PyData.eqv dx dy else PyData.eqv dx dy)) H
section
variable {X:Cx}
theorem Zk4(hu:X.A.units+64<cLine):OpR X (compareOp .Eq) (ZaM X.K false):=by
 intro pins s σ H x y v u Q I rx ry h;obtain⟨dx,dy,h1,h2,c1,c2,dp,q⟩:=h;obtain⟨as,r1⟩:=h1.reads I rx;obtain⟨bs,r2⟩:=h2.reads I ry;exact SeqAt.compareEq_reads r1 r2 c1 c2 (by have:min dx.depth dy.depth≤dx.depth:=Nat.min_le_left _ _;omega) ⟨.bl _,H,I,rfl,q⟩
theorem Zk1(hu:X.A.units+64<cLine):OpR X (compareOp .NotEq) (ZaM X.K true):=by
 intro pins s σ H x y v u Q I rx ry h;obtain⟨dx,dy,h1,h2,c1,c2,dp,q⟩:=h;obtain⟨as,r1⟩:=h1.reads I rx;obtain⟨bs,r2⟩:=h2.reads I ry;exact SeqAt.compareNe_reads r1 r2 c1 c2 (by have:min dx.depth dy.depth≤dx.depth:=Nat.min_le_left _ _;omega) ⟨.bl _,H,I,rfl,q⟩
end
end L2
namespace L2
open PySem PySem.Spec PyProof.Rows
section
variable {prog:Program}{w:World}{A:Around}{E:Value→Shared→Prop}
variable {s:Shared}
end
section
variable {X:Cx}{pos:Pos}
end
end L2
namespace L2
open PySem PySem.Spec PyProof.Rows
section
variable {P:Program}{w:World}{K:PySem.W.Frag}{mg:Str→Option Value}{base:Heap}
theorem Fun.okX{x qual:Str}{st:Stmt}{f:Addr}{fd:FuncData}{N ps:List Str}{k:Nat}{sp:Sp}(F:Fun K x qual st f fd)(S:Zt N ps (Zi st))(len:∀vs H Q E,sp vs H Q E→vs.length=ps.length)
  (hbody:∀(cdv:Value)(A:Around)(outer:List Env)(s:Shared)(H:Hp)(vs:List V)(Q:VK)(E:XK),YN k (A.deeper (envOfC qual (Zi st) s.heap.objs.size f cdv))→sp vs H Q E→
   ∃t,PSs (cxX P w K mg base N qual (Zi st) f cdv A outer s H E) (WL st) t∧t {nx:=fun _ H'=>Q .non H',rt:=Q} (start N vs) H):Zk P w K mg base (CXX P w) (k+1) f fd ps sp:=by
 obtain⟨oc,od,kV,doc,pm,an,cdv,ct,osl,rfl,lk,hcd⟩:=F.ex;exact Zkb lk hcd S len fun A outer s H vs Q E hr hsp=>hbody cdv A outer s H vs Q E hr hsp
theorem VZ{X:Cx}:Ub (CXX X.prog X.w) X E0:=by
 intro pins σ H s e s' I h;obtain⟨ea,cls,a0,H',B,_,_,_,_,_,_,_,z⟩:=h;exact z.elim
end
section
variable {X:Cx}
noncomputable def rOr (r r':R2):R2:=fun x y H Q=>r x y H Q∨r' x y H Q
noncomputable def ZeN:R2:=fun x y H Q=>∃i j,x= .str i∧y= .str j∧i.length+j.length≤sizeLine∧Q (.str (i++j)) H
noncomputable def ZgS:R2:=rI0 fun i j=> .int (i+j)
noncomputable def Zg5:R2:=rI (fun i j=>IntMulOk i j) fun i j=> .int (i*j)
theorem ZkN:OpR X (binaryOp .Add) (rOr ZgS (rOr ZeN (rOr rCat (ZeL X.K)))):=Zla.or (ZhB.or (ZlP.or ZkQ))
theorem Yo:OpR X (binaryOp .Mult) (rOr Zg5 rRep):=Zkl.or ZlM
theorem Zln(hu:X.A.units+64<cLine):OpR X (compareOp .Eq) (rOr rEq (ZaM X.K false)):=Zmc.or (Zk4 hu)
theorem ZkZ(hu:X.A.units+64<cLine):OpR X (compareOp .NotEq) (rOr rNe (ZaM X.K true)):=Zmk.or (Zk1 hu)
end
namespace Rd
section
variable {σ:St}{H:Hp}{Q:VK}{D:VA}{K:PySem.W.Frag}{r':R2}
theorem Znk{i j:Int}(q:Q (.int (i+j)) H):rOr ZgS r' (.int i) (.int j) H Q:= .inl ⟨i,j,rfl,rfl,q⟩
theorem Zld{r1:R2}{i j:Str}(hl:i.length+j.length≤sizeLine)(q:Q (.str (i++j)) H):rOr r1 (rOr ZeN r') (.str i) (.str j) H Q:= .inr (.inl ⟨i,j,rfl,rfl,hl,q⟩)
theorem ZmU{r1 r2:R2}{a b:Addr}{xs ys:List V}(ha:H a=some (.lst xs))(hb:H b=some (.lst ys))(hl:xs.length+ys.length≤sizeLine)(q:∀p,H p=none→Q (.ref p) (upd H p (.lst (xs++ys)))):
  rOr r1 (rOr r2 (rOr rCat r')) (.ref a) (.ref b) H Q:= .inr (.inr (.inl ⟨a,b,xs,ys,rfl,rfl,ha,hb,hl,q⟩))
theorem Znd{i j:Int}(c:IntMulOk i j)(q:Q (.int (i*j)) H):rOr Zg5 r' (.int i) (.int j) H Q:= .inl ⟨i,j,rfl,rfl,c,q⟩
theorem ZmT{i j:Int}(q:Q (.bl (decide (i=j))) H):rOr rEq r' (.int i) (.int j) H Q:= .inl (eqI q)
theorem ZmM{i j:Int}(q:Q (.bl (!decide (i=j))) H):rOr rNe r' (.int i) (.int j) H Q:= .inl (neI q)
theorem ZmI{i j:Bool}(q:Q (.bl (i==j)) H):rOr rEq r' (.bl i) (.bl j) H Q:= .inl ⟨rfl,by rw[Zfz];exact q⟩
theorem Zi8{x y:V}{dx dy:PyData}(hx:Y3 K H x dx)(hy:Y3 K H y dy)(cx:dx.canLay0=true)(cy:dy.canLay0=true)(dp:dx.depth≤60)(q:Q (.bl (PyData.eqv dx dy)) H):rOr rEq (ZaM K false) x y H Q:=
 .inr ⟨dx,dy,hx,hy,cx,cy,dp,q⟩
theorem ZmA{x y:V}{dx dy:PyData}(hx:Y3 K H x dx)(hy:Y3 K H y dy)(cx:dx.canLay0=true)(cy:dy.canLay0=true)(dp:dx.depth≤60)(q:Q (.bl (!PyData.eqv dx dy)) H):rOr rNe (ZaM K true) x y H Q:=
 .inr ⟨dx,dy,hx,hy,cx,cy,dp,q⟩
theorem Zni{p:Addr}{xs:List V}{i:Int}{v:V}(h:SqL K H p xs)(e:atI xs i=some v)(q:Q v H):rIx K (.ref p) (.int i) H Q:= .inl (ixl h e q)
theorem ZmB{p:Addr}{xs:List V}{i:Int}{v:V}(h:SqT K H p xs)(e:atI xs i=some v)(q:Q v H):rIx K (.ref p) (.int i) H Q:= .inr (.inl (ixt h e q))
theorem ZmE{C:Nat→Prop}{p:Addr}{xs:List V}(h:SqL K H p xs)(q:C xs.length):∃x n,[V.ref p]=[x]∧Zbe K x H n∧C n:=⟨_,_,rfl,.inl ⟨xs,h,rfl⟩,q⟩
theorem Zmm{C:Nat→Prop}{p:Addr}{xs:List V}(h:SqT K H p xs)(q:C xs.length):∃x n,[V.ref p]=[x]∧Zbe K x H n∧C n:=⟨_,_,rfl,.inr ⟨xs,h,rfl⟩,q⟩
theorem ZmS{C:Nat→Prop}{y:Str}(h:y.length≤sizeLine)(q:C y.length):∃x n,[V.str y]=[x]∧Zbe K x H n∧C n:=⟨_,_,rfl,⟨h,rfl⟩,q⟩
theorem Zmd{i:Nat}{v:V}{σ':St}{Q:St→Hp→Prop}(e:σ.set i (some v)=σ')(h:Q σ' H):US i v σ H Q:=by
 subst e;exact h
theorem ifP{c A B:Prop}[Decidable c](h:c)(a:A):if decide c=true then A else B:=by rw[decide_eq_true h];exact Zfw a
theorem ifN{c A B:Prop}[Decidable c](h:¬c)(b:B):if decide c=true then A else B:=by rw[decide_eq_false h];exact ZfL b
theorem Zm1{c A B:Prop}[Decidable c](h:c)(b:B):if(!decide c)=true then A else B:=by rw[decide_eq_true h];exact ZfL b
theorem Zm8{c A B:Prop}[Decidable c](h:¬c)(a:A):if(!decide c)=true then A else B:=by rw[decide_eq_false h];exact Zfw a
theorem ZmY{b:Bool}{C:Bool→Prop}(q:C b):∃k,ZfP K (.bl b) H k∧C k:=⟨b,rfl,q⟩
end
end Rd
end L2
namespace L2
open PySem PySem.Spec PyProof.Rows
namespace Rd
section
variable {H:Hp}{C:Bool→Prop}{K:PySem.W.Frag}
theorem Zhx{i:Int}(q:C true):∃x n' t b,[V.int i,.ty "int"]=[x,.ty n']∧Wr K H x t∧PySem.W.kitOne K t (.type n')=some b∧C b:=⟨_,_,_,true,rfl,.int i,rfl,q⟩
theorem Zgg{i:Int}(q:C false):∃x n' t b,[V.int i,.ty "bool"]=[x,.ty n']∧Wr K H x t∧PySem.W.kitOne K t (.type n')=some b∧C b:=⟨_,_,_,false,rfl,.int i,rfl,q⟩
theorem ZhF{i:Str}(q:C true):∃x n' t b,[V.str i,.ty "str"]=[x,.ty n']∧Wr K H x t∧PySem.W.kitOne K t (.type n')=some b∧C b:=⟨_,_,_,true,rfl,.str i,rfl,q⟩
theorem ZfZ{p:Addr}{xs:List V}(h:H p=some (.lst xs))(q:C true):∃x n' t b,[V.ref p,.ty "list"]=[x,.ty n']∧Wr K H x t∧PySem.W.kitOne K t (.type n')=some b∧C b:=⟨_,_,_,true,rfl,.lst h,rfl,q⟩
theorem ZfA{p:Addr}{xs:List V}(h:H p=some (.tup xs))(q:C true):∃x n' t b,[V.ref p,.ty "tuple"]=[x,.ty n']∧Wr K H x t∧PySem.W.kitOne K t (.type n')=some b∧C b:=⟨_,_,_,true,rfl,.tup h,rfl,q⟩
end
end Rd
end L2
namespace L2
open PySem PySem.Spec PyProof.Rows
noncomputable def Zgs (scX sc:Scope) (N zs:List Str) (ix:List Nat):Bool:=
 decide (sc.kind= .function)&&(sc.names.all fun y=>decide (y.2≠ .cell))&&(sc.names.all fun y=>decide (y.2= .local→sc.names.lookup y.1=some .local))&&
 (sc.names.all fun y=>decide (y.2= .free→scX.names.lookup y.1=some .cell∨scX.names.lookup y.1=some .free))&&(zs.all fun z=>decide (sc.names.lookup z=some .free))&&decide (ix.map (fun j=>N[j]?)=zs.map some)
theorem Yk{X:Cx}{sc:Scope}{x:Str}{zs:List Str}{ix:List Nat}(scX:Scope)(N:List Str)(e1:X.env.scope=scX)(e2:X.N=N)(h:Zgs scX sc N zs ix=true):Y6 X sc x zs ix:=by
 unfold Zgs at h;simp only[Bool.and_eq_true,List.all_eq_true,decide_eq_true_eq] at h;obtain⟨⟨⟨⟨⟨h1,h2⟩,h3⟩,h4⟩,h5⟩,h6⟩:=h;subst e1 e2;exact⟨h1,h2,h3,h4,h5,h6⟩
end L2
namespace L2
open PySem PySem.Spec PyProof.Rows
section
variable {X:Cx}{CX:CXT}{k:Nat}{f C:Addr}{fd:FuncData}{ps:List Str}{sp:Sp}{dvs:List V}{ds:List Value}{E:XK}{J:St→Prop}{x m:Str}{p pos apos:Pos}{e o:Expr}{es:List Expr}{ta:TE}{t:TA}
end
end L2
namespace L2
open PySem PySem.Spec PyProof.Rows
section
variable {K:PySem.W.Frag}{H:Hp}
theorem Y3.ints{p:Addr}{ns:List Int}(h:SqL K H p (ns.map V.int)):Y3 K H (.ref p) (.list (ns.map PyData.int)):= .lst h (WQ.ints ns)
namespace Rd
variable {Q:VK}
end Rd
end
end L2
namespace L2
open PySem PySem.Spec PyProof.Rows
structure Walks(J:It)(n:Nat)(f:Nat→V)(H:Hp):Prop where
 go:∀H' i,Ze H H'→i<n→J.go i H'
 yld:∀H' i x H2,Ze H H'→i<n→J.yld i H' x H2→H2=H'∧x=f i
 stop:∀H',Ze H H'→J.stop n H'
theorem W3{lo:Int}{n:Nat}{H:Hp}:Walks (Itr lo n) n (fun i=> .int (lo+i)) H:=⟨fun _ _ _ h=>h,fun _ _ _ _ _ _ h=>h,fun _ _=>Nat.le_refl _⟩
theorem ZZ{K:PySem.W.Frag}{a:Addr}{xs:List V}{H:Hp}(h:SqL K H a xs):Walks (Itl K a) xs.length (fun i=>xs.getD i .non) H:=
 ⟨fun H' i e hi=>⟨xs,xs[i],e.seq h,by simp[hi]⟩,fun H' i x H2 e hi y=>⟨y.1,by
  have:=y.2 xs (e.seq h);simp[List.getD,this]⟩,fun H' e=>⟨xs,e.seq h,Nat.le_refl _⟩⟩
theorem WS{J:It}{n:Nat}{f:Nat→V}{H0:Hp}(w:Walks J n f H0){g:TG}{tb:TS}{D:VA}{σ:St}{H:Hp}(Pv:Nat→St→Hp→Prop)(h0:Pv 0 σ H)(hk:∀i σ H,Pv i σ H→Ze H0 H)
  (hs:∀i σ H,i<n→Pv i σ H→g (f i) σ H fun σ2 H2=>tb {D with nx:=Pv (i+1),ct:=Pv (i+1),bk:=D.nx} σ2 H2) (hd:∀σ H,Pv n σ H→D.nx σ H):
  ∃W:Nat→Nat→St→Hp→Prop,(∃m,W 0 m σ H)∧∀i m σ H,W i m σ H→
   (J.stop i H∧D.nx σ H)∨(J.go i H∧∃N:St→Hp→Prop,(∀σ' H',N σ' H'→∃m',m'<m∧W (i+1) m' σ' H')∧∀x H',J.yld i H x H'→g x σ H' fun σ2 H2=>tb {D with nx:=N,ct:=N,bk:=D.nx} σ2 H2):=by
 refine⟨fun i m σ H=>m=n-i∧i≤n∧Pv i σ H,⟨n,by simp,Nat.zero_le _,h0⟩,?_⟩;rintro i m σ H ⟨rfl,hi,p⟩;have sm:=hk i σ H p
 by_cases hlt:i<n
 ·refine .inr ⟨w.go H i sm hlt,Pv (i+1),fun σ' H' p'=>⟨n-(i+1),by omega,rfl,hlt,p'⟩,fun x H' y=>?_⟩;obtain⟨rfl,rfl⟩:=w.yld H i x H' sm hlt y;exact hs i σ _ hlt p
 ·have e:i=n:=by omega
  subst e;exact .inl ⟨w.stop H sm,hd σ H p⟩
theorem YR{ix:List Nat}{tc:TT}{te:TE}{Q:Addr→Hp→Prop}{σ:St}{H:Hp}{J:It}{n:Nat}{f:Nat→V}(w:Walks J n f H)(hn:n<sizeLine)(c:Nat→Bool)(r:Nat→V)
  (hc:∀i H' (Kc:Bool→Hp→Prop),i<n→Ze H H'→(∀H4,Ze H' H4→Kc (c i) H4)→tc (some (f i)::ix.map fun j=>(σ[j]?).join) H' Kc)
  (he:∀i H' (Kc:VK),i<n→c i=true→Ze H H'→(∀H5,Ze H' H5→Kc (r i) H5)→te (some (f i)::ix.map fun j=>(σ[j]?).join) H' Kc)
  (q:∀p H',H p=none→Ze H H'→H' p=some (.lst (((List.range n).filter c).map r))→Q p H'):
  ∀p,H p=none→∃W:Nat→Nat→List V→St→Hp→Prop,(∃m,W 0 m [] (emb ix σ) (upd H p (.lst [])))∧∀i m ys σ' H',W i m ys σ' H'→
   (J.stop i H'∧Q p H')∨(J.go i H'∧∀x H2,J.yld i H' x H2→US 0 x σ' H2 fun σ2 H3=>tc σ2 H3 fun b H4=>
    if b=true then te σ2 H4 fun v H5=>H5 p=some (.lst ys)∧ys.length<sizeLine∧∃m',m'<m∧W (i+1) m' (ys++ [v]) σ2 (upd H5 p (.lst (ys++ [v])))
    else ∃m',m'<m∧W (i+1) m' ys σ2 H4):=by
 intro p hp;refine⟨fun i m ys σ' H'=>m=n-i∧i≤n∧(∃a,σ'=a::ix.map fun j=>(σ[j]?).join)∧Ze H H'∧H' p=some (.lst ys)∧ys=((List.range i).filter c).map r,
  ⟨n,by simp,Nat.zero_le _,⟨none,rfl⟩,Zq hp,Zd,rfl⟩,?_⟩
 rintro i m ys σ' H' ⟨rfl,hi,⟨a,rfl⟩,sm,hy,hl⟩
 by_cases hlt:i<n
 ·refine .inr ⟨w.go H' i sm hlt,fun x H2 y=>?_⟩;obtain⟨rfl,rfl⟩:=w.yld H' i x H2 sm hlt y;show tc ((a::ix.map fun j=>(σ[j]?).join).set 0 (some (f i))) H2 _;have hlen:ys.length≤i:=by
   rw[hl,List.length_map];exact Nat.le_trans (List.length_filter_le _ _) (by simp)
  refine hc i H2 _ hlt sm fun H4 s4=>?_;have sm4:=sm.trans s4;have hy4:=s4 _ _ hy;have step:(List.range (i+1)).filter c=(List.range i).filter c++(if c i=true then[i] else[]):=by
   rw[List.range_succ,List.filter_append]
   congr 1
   by_cases h:c i=true<;>simp[h]
  by_cases hci:c i=true
  ·rw[hci,if_pos rfl];refine he i H4 _ hlt hci sm4 fun H5 s5=>⟨s5 _ _ hy4,by omega,n-(i+1),by omega,rfl,hlt,⟨_,rfl⟩,(sm4.trans s5).new hp,Zd,?_⟩;rw[step,if_pos hci,List.map_append,hl]
   rfl
  ·have hcf:c i=false:=by simpa using hci
   rw[hcf,if_neg Bool.false_ne_true];refine⟨n-(i+1),by omega,rfl,hlt,⟨_,rfl⟩,sm4,hy4,?_⟩;rw[step,if_neg hci,List.append_nil,hl]
 ·have e:i=n:=by omega
  subst e;exact .inl ⟨w.stop H' sm,q p H' hp sm (by rw[←hl];exact hy)⟩
end L2
namespace L2
open PySem PySem.Spec PyProof.Rows
structure ZJ(A:List Addr)(H H':Hp):Prop where
 keep:∀b o,H b=some o→b∉A→H' b=some o
 tups:∀b xs,H b=some (.tup xs)→H' b=some (.tup xs)
theorem Ze.frame{A:List Addr}{H H':Hp}(e:Ze H H'):ZJ A H H':=⟨fun b o h _=>e b o h,fun b xs h=>e b _ h⟩
theorem ZJ.refl{A:List Addr}{H:Hp}:ZJ A H H:=(Ze.refl H).frame
theorem ZJ.trans{A:List Addr}{H H1 H2:Hp}(a:ZJ A H H1)(b:ZJ A H1 H2):ZJ A H H2:=⟨fun c o h n=>b.keep c o (a.keep c o h n) n,fun c xs h=>b.tups c xs (a.tups c xs h)⟩
theorem ZJ.mono{A B:List Addr}{H H':Hp}(a:ZJ A H H')(h:∀x∈A,x∈B):ZJ B H H':=⟨fun c o e n=>a.keep c o e fun z=>n (h c z),a.tups⟩
theorem Ym{A:List Addr}{H:Hp}{p:Addr}{o o':HO}(hp:p∈A)(h:H p=some o)(ht:∀xs,o≠ .tup xs):ZJ A H (upd H p o'):=by
 refine⟨fun b u e n=>?_,fun b xs e=>?_⟩
 ·have z:b≠p:=fun z=>n (by rw[z];exact hp);rw[Zg z];exact e
 ·have z:b≠p:=fun z=>ht xs (by rw[z,h] at e;exact Option.some.inj e);rw[Zg z];exact e
def Wf(A A':List Addr)(H:Hp):Prop:=∀a∈A',a∈A∨H a=none
theorem Wf.refl{A:List Addr}{H:Hp}:Wf A A H:=fun _ h=> .inl h
def WB(K:PySem.W.Frag)(H:Hp)(A:List Addr)(a:Addr)(xs:List V):Prop:=
 (Rd H a (.lst xs)∧a∉A)∨∃(o:Obj)(its:Array Value)(n:Nat),K.lookup a=some o∧o.cls= .type "list" ∧o.dict=none∧o.data= .seq its n∧its.size≤sizeLine∧ZD xs its.toList
theorem WB.sq{K:PySem.W.Frag}{H:Hp}{A:List Addr}{a:Addr}{xs:List V}(h:WB K H A a xs):SqL K H a xs:=h.imp And.left id
theorem WB.frame{K:PySem.W.Frag}{H H':Hp}{A:List Addr}{a:Addr}{xs:List V}(h:WB K H A a xs)(f:ZJ A H H'):WB K H' A a xs:=by
 rcases h with⟨h|⟨o,h⟩,n⟩|h
 ·exact .inl ⟨.inl (f.keep _ _ h n),n⟩
 ·exact .inl ⟨.inr ⟨o,f.keep _ _ h n⟩,n⟩
 ·exact .inr h
theorem WB.more{K:PySem.W.Frag}{H:Hp}{A A':List Addr}{a:Addr}{xs:List V}(h:WB K H A a xs)(g:Wf A A' H):WB K H A' a xs:=by
 rcases h with⟨h,n⟩|h
 ·refine .inl ⟨h,fun z=>?_⟩;rcases g a z with z|z
  ·exact n z
  ·rcases h with h|⟨o,h⟩<;>(rw[h] at z;cases z)
 ·exact .inr h
theorem WB.sub{K:PySem.W.Frag}{H:Hp}{A A':List Addr}{a:Addr}{xs:List V}(h:WB K H A a xs)(g:∀x∈A',x∈A):WB K H A' a xs:=h.imp (fun⟨h,n⟩=>⟨h,fun z=>n (g a z)⟩) id
theorem SqL.off{K:PySem.W.Frag}{H:Hp}{A:List Addr}{a:Addr}{xs:List V}(h:SqL K H a xs)(g:∀x∈A,H x=none):WB K H A a xs:=by
 rcases h with h|h
 ·refine .inl ⟨h,fun z=>?_⟩;have:=g a z;rcases h with h|⟨o,h⟩<;>(rw[h] at this;cases this)
 ·exact .inr h
section
variable {K:PySem.W.Frag}{H H':Hp}{A A':List Addr}
namespace Rd
variable {Q:VK}
end Rd
end
end L2
namespace L2
open PySem PySem.Spec PyProof.Rows
noncomputable def Its (x:Str):It:=⟨fun i _=>i<x.cps.size,fun i H v H'=>H'=H∧∃c,x.cps[i]? =some c∧v= .str ⟨#[c]⟩,fun i _=>x.cps.size≤i⟩
theorem Zjs{P:Program}{w:World}{K:PySem.W.Frag}{tg:Expr}(it:Addr)(x:Str)(t:Tok)(ty:String)(hty:ty="str_ascii_iterator" ∨ty="str_iterator"):Za9 P w K tg (Its x) [it] it (fun i h=>h.IsStrIter it ty x t i) where
 mem:=by simp
 obj:=fun i h st b hb=>by
  have e:b=it:=by simpa using hb
  subst e;obtain⟨o,e,c,d⟩:=st;exact⟨o,e,fun v z=>by rw[d] at z;cases z⟩
 keep:=fun i h h' st k=>let⟨o,ho,r⟩:=st;⟨o,k it (by simp) o ho,r⟩
 item:=by
  intro X hP hw hK hc i pins s σ H E I hf st hg;subst hP hw hK;obtain⟨f0,f1,f2,f3,f4,f5⟩:=hf it (by simp);have hi:i<x.cps.size:=hg;have fin:∀h':Heap,h'.IsStrIter it ty x t (i+1)→Heap.SameBut it s.heap h'→∃u,some (Value.str ⟨#[x.cps[i]]⟩ s.toks)=some u∧
    wpAny (model X.prog X.w) X.A (letOwnedTupleGo tg (.ref it) u) (fun _ s2=>∃y H',Inv X pins σ H' s2∧ZF y u∧(Its x).yld i H y H'∧s2.heap.IsStrIter it ty x t (i+1)∧∀b∈[it],H' b=none) E {s with heap:=h',toks:=s.toks+1}:=fun h' st' sb=>by
   have I1:Inv X pins σ H {s with heap:=h',toks:=s.toks+1}:=I.turned (t':=s.toks+1) (fun b o hb e=>(sb.2 b hb).trans e) f0 f1 f3 f4 f5;obtain⟨o,e,c,d⟩:=id st';refine⟨_,rfl,ZeM (s:={s with heap:=h',toks:=s.toks+1}) e c d (by rcases hty with rfl|rfl<;>decide) ⟨.str ⟨#[x.cps[i]]⟩,H,I1,⟨_,rfl⟩,⟨rfl,x.cps[i],by simp[hi],rfl⟩,st',fun b hb=>(hf b hb).1⟩⟩
  rcases hty with rfl|rfl
  ·exact wpAny_pyNext_ascii_item st (c:=x.cps[i]) (by simp[hi]) fin
  ·exact wpAny_pyNext_wide_item st (c:=x.cps[i]) (by simp[hi]) fin
 done:=by
  intro X hP hw hK hc i pins s σ H E I hf st hg;subst hP hw hK;obtain⟨f0,f1,f2,f3,f4,f5⟩:=hf it (by simp);have hi:x.cps.size≤i:=hg;rcases hty with rfl|rfl
  ·exact wpAny_pyNext_ascii_end (I.ok.hd hc) st (by simp[hi]) fun h' eb=>⟨rfl,I.turned (t':=s.toks) (fun b o hb e=>eb b o hb e) f0 f1 f3 f4 f5⟩
  ·exact wpAny_pyNext_wide_end (I.ok.hd hc) st (by simp[hi]) fun h' eb=>⟨rfl,I.turned (t':=s.toks) (fun b o hb e=>eb b o hb e) f0 f1 f3 f4 f5⟩
 self:=fun _ _ _ _ _ st h=>by
  rcases hty with rfl|rfl
  ·exact wpAny_pyIter_striter_ascii st h
  ·exact wpAny_pyIter_striter_wide st h
section
variable {X:Cx}{tg:Expr}
noncomputable def ZlO (tl:TE):TI:=fun σ H R=>tl σ H fun x H1=>∃y,x= .str y∧R (Its y) H1
theorem Zlv{l:Expr}{tl:TE}(hl:PE X l tl):PI X tg l (ZlO tl):=by
 intro pins s σ H R I h;refine thn (hl pins s σ H _ I h) fun v s1 ⟨x,H1,I1,r1,q1⟩=>?_;obtain⟨y,e,q⟩:=q1;subst e;obtain⟨t,rfl⟩:=r1;have fin:∀ty:String,(ty="str_ascii_iterator" ∨ty="str_iterator")→PIE X pins σ tg R (.ref s1.heap.objs.size) {s1 with heap:=s1.heap.push {cls:= .type ty,data:= .fields #[.str y t,.int 0 0]}}:=fun ty hty=>by
  refine⟨s1.heap.objs.size,[s1.heap.objs.size],_,_,H1,rfl,I1.kept (t':=s1.toks) fun b o e=>Heap.get?_push_of_some _ e,Zjs _ y t ty hty,⟨_,Heap.get?_push_size _ rfl,rfl,rfl⟩,fun b hb=>?_,q⟩;have e:b=s1.heap.objs.size:=by simpa using hb
  subst e;exact I1.fpOk (Nat.le_refl _) (I1.hok.fresh (Nat.le_refl _))
 cases ha:y.cps.all (· <128)
 ·exact wpAny_pyIter_wide ha (fin _ (.inr rfl))
 ·exact wpAny_pyIter_ascii ha (fin _ (.inl rfl))
theorem ZhZ{x:Str}{H:Hp}:Walks (Its x) x.cps.size (fun i=> .str ⟨#[x.cps.getD i 0]⟩) H:=
 ⟨fun _ _ _ h=>h,fun H' i v H2 _ hi ⟨e,c,hc,hv⟩=>⟨e,by rw[hv];simp[Array.getD,hi] at hc⊢;exact hc.symm⟩,fun _ _=>Nat.le_refl _⟩
noncomputable def rLeS:R2:=fun x y H Q=>∃i j,x= .str i∧y= .str j∧Q (.bl (!decide (j.cps.toList<i.cps.toList))) H
theorem Zef:OpR X (compareOp .LtE) rLeS:=by
 intro pins s σ H x y v u Q I rx ry h;obtain⟨i,j,rfl,rfl,q⟩:=h;obtain⟨t,rfl⟩:=rx;obtain⟨t',rfl⟩:=ry;exact PySem.P.le_str ⟨.bl _,H,I,rfl,q⟩
theorem Zbq{s:Shared}:∀{bs:List Bool}{us:List Value},ZD (bs.map V.bl) us→us=bs.map Value.bool
 | [],_,r=>by cases r;rfl
 |b::bs,_,r=>by
  cases r with
  |cons r1 r2=>
   have e:_=Value.bool b:=r1;rw[e,Zbq (s:=s) r2]
   rfl
theorem Zgu{s:Shared}{h':Heap}{o:Obj}(hk:∀b x,b∉[s.heap.objs.size]→(s.heap.push o).get? b=some x→h'.get? b=some x):∀b x,s.heap.get? b=some x→h'.get? b=some x:=
 fun b x e=>hk b x (fun hm=>by rw[List.mem_singleton.mp hm] at e;exact Nat.lt_irrefl _ (Heap.lt_size e)) (Heap.get?_push_of_some _ e)
theorem Zg0(bs:List Bool):((List.range bs.length).all fun i=>(bs[i]?).getD true)=bs.all id:=by
 rw[Bool.eq_iff_iff,List.all_eq_true,List.all_eq_true]
 constructor
 ·intro h b hb;obtain⟨i,hi,rfl⟩:=List.getElem_of_mem hb;have:=h i (List.mem_range.mpr hi);simpa[List.getElem?_eq_getElem hi] using this
 ·intro h i hi;have hi':=List.mem_range.mp hi;simp only[List.getElem?_eq_getElem hi',Option.getD_some];exact h _ (List.getElem_mem hi')
theorem Zie(hc:X.calm=true):Wi X (.builtin "all") (fun xs H Q=>∃(p:Addr)(bs:List Bool),xs=[.ref p]∧SqL X.K H p (bs.map V.bl)∧Q (.bl (bs.all id)) H):=by
 intro pins s σ H xs us Q I r h;obtain⟨p,bs,rfl,hq,q⟩:=h;obtain⟨u,rfl,rx⟩:=WO r;cases rx;obtain⟨its,rv,pl,hz⟩:=I.list hq;have ev:=Zbq (s:=s) rv;subst ev;have hl:=pl.isList;have hlt:p<s.heap.objs.size:=by obtain⟨_,e,_⟩:=hl;exact Heap.lt_size e
 refine call_all_walk (wpAny_pyIter_list hl ?_);refine⟨s.heap.objs.size,[s.heap.objs.size,p],[s.heap.objs.size],(bs.map Value.bool).toArray.size,_,_,fun i=>(bs[i]?).getD true,rfl,PySem.Walks.list (A:=X.A.in1) (I.ok.hd hc) _ p (Nat.ne_of_lt hlt) (bs.map Value.bool).toArray,
  ⟨⟨_,Heap.get?_push_size _ rfl,rfl,rfl⟩,hl.push _⟩,fun i v s' Q' E' hP hQ=>?_,fun h' tk hk=>?_⟩
 ·have hP':(bs.map Value.bool)[i]? =some v:=by simpa using hP
  rw[List.getElem?_map] at hP';cases e:bs[i]? with
  |none=>rw[e] at hP';cases hP'
  |some b=>
   rw[e] at hP';cases hP';have hQ':Q' ((bs[i]?).getD true) s':=hQ;rw[e] at hQ';exact wpAny_truthy_bool hQ'
 ·have e:((List.range (bs.map Value.bool).toArray.size).all fun i=>(bs[i]?).getD true)=bs.all id:=by
   rw[List.size_toArray,List.length_map];exact Zg0 bs
  rw[e];exact⟨.bl (bs.all id),H,I.kept (Zgu hk),rfl,q⟩
theorem ZiA(hc:X.calm=true):Wi X (.builtin "sum") (fun xs H Q=>∃(p:Addr)(ns:List Int),xs=[.ref p]∧SqL X.K H p (ns.map V.int)∧Q (.int ns.sum) H):=by
 intro pins s σ H xs us Q I r h;obtain⟨p,ns,rfl,hq,q⟩:=h;obtain⟨u,rfl,rx⟩:=WO r;cases rx;obtain⟨its,rv,pl,hz⟩:=I.list hq;have hi:=Zbd rv;obtain⟨xs,hx⟩:=hi.allInts.items;have hl':s.heap.IsList p (intItems xs):=hx▸pl.isList;refine sum_intListG (I.ok.hd hc) hl' fun h' tk t' hk=>?_;have e1:ns=xs.toList.map (·.1):=by
  rw[←nums_intItems,←hx];exact(show numsOf its.toArray.toList=ns from hi.numsOf).symm
 have e2:preSum (numAt xs) xs.size=ns.sum:=by
  rw[preSum_eq,List.take_of_length_le (by simp),e1]
 rw[e2];exact⟨.int ns.sum,H,I.kept hk,⟨_,rfl⟩,q⟩
end
end L2
namespace L2
open PySem PySem.Spec PyProof.Rows
structure Zht(K:PySem.W.Frag)(x qual:Str)(st:Stmt)(dT:Addr)(f:Addr)(fd:FuncData):Prop where
 ex:∃(oc:Value)(od:Option Addr)(kV doc pm:Value)(an:Option Addr)(cdv ct:Value)(osl:Array (Option Value)),
  fd=PySem.W.fnOf x qual (VF st) (WL st) (Zi st) (.ref dT) kV doc pm an cdv ct∧K.lookup f=some ⟨oc,od,.func fd,osl⟩∧PySem.W.codeIn K cdv qual=true
 kp:PySem.W.keepIn K (.ref f)=true
section
variable {P:Program}{w:World}{K:PySem.W.Frag}{mg:Str→Option Value}{base:Heap}
theorem Zht.okX{x qual:Str}{st:Stmt}{dT f:Addr}{fd:FuncData}{N ps:List Str}{k:Nat}{sp:Sp}(F:Zht K x qual st dT f fd)(S:Zt N ps (Zi st))(len:∀vs H Q E,sp vs H Q E→vs.length=ps.length)
  (hbody:∀(cdv:Value)(A:Around)(outer:List Env)(s:Shared)(H:Hp)(vs:List V)(Q:VK)(E:XK),YN k (A.deeper (envOfC qual (Zi st) s.heap.objs.size f cdv))→sp vs H Q E→
   ∃t,PSs (cxX P w K mg base N qual (Zi st) f cdv A outer s H E) (WL st) t∧t {nx:=fun _ H'=>Q .non H',rt:=Q} (start N vs) H):Zk P w K mg base (CXX P w) (k+1) f fd ps sp:=by
 obtain⟨oc,od,kV,doc,pm,an,cdv,ct,osl,rfl,lk,hcd⟩:=F.ex;exact Zkb lk hcd S len fun A outer s H vs Q E hr hsp=>hbody cdv A outer s H vs Q E hr hsp
theorem Zkv{x qual:Str}{st:Stmt}{dT f:Addr}{oc:Value}{od an:Option Addr}{osl:Array (Option Value)}{kV doc pm cdv ct:Value}(l:K.lookup f=some ⟨oc,od,.func (PySem.W.fnOf x qual (VF st) (WL st) (Zi st) (.ref dT) kV doc pm an cdv ct),osl⟩)
  (c:PySem.W.codeIn K cdv qual=true) (k:PySem.W.keepIn K (.ref f)=true):Zht K x qual st dT f (PySem.W.fnOf x qual (VF st) (WL st) (Zi st) (.ref dT) kV doc pm an cdv ct):=⟨⟨oc,od,kV,doc,pm,an,cdv,ct,osl,rfl,l,c⟩,k⟩
theorem ZlR{h₀:Heap}{x:Str}{C:Addr}{bmB:List Value}{newId:String}(X:K.In h₀)(g:h₀.Ns mainGlobals mg)(e:PySem.W.nsIn K mainGlobals x=some (some (.ref C)))(q:PySem.W.excIn K C bmB newId=true):OwnCls x C bmB newId mg h₀:=by
 refine⟨PySem.W.mg_of X g e,?_⟩;unfold PySem.W.excIn at q
 split at q
 ·rename_i dd cd sl ho
  split at q
  ·rename_i C' bm k0 k1 k2 k3 n k5 hm hs;simp only[Bool.and_eq_true,beq_iff_eq,Bool.not_eq_true'] at q;obtain⟨⟨⟨⟨⟨rfl,rfl⟩,hdel⟩,ht⟩,hok⟩,hni⟩:=q;obtain⟨nm,bs,mro,ns,qn,hd,sn,sub,ab,col,del⟩:=cd;dsimp only at hm hdel hok hni;subst hm hdel;have hsl:sl=#[k0,k1,k2,k3,some (.builtin n),k5]:=by
    obtain⟨l⟩:=sl;simp only at hs;rw[hs]
   subst hsl;exact⟨bm,ns,nm,qn,bs,hd,sn,sub,ab,col,dd,k0,k1,k2,k3,k5,_,X _ _ ho,.of_isNs (PySem.W.isNs_of_in X hok),PySem.W.nsMap_none_of_in X hok hni,PySem.W.tail_of_in X ht⟩
  ·cases q
 ·cases q
section
variable {N:List Str}{qual:Str}{scope:Scope}{f:Addr}{cd:Value}{A:Around}{outer:List Env}{s₀:Shared}{H₀:Hp}{E:XK}
theorem Y7{x:Str}{np cpos pos:Pos}{e₀:Expr}{rest:List Expr}{t:TA}{C:Addr}{B newId initId:String}{bm:List Value}(e:PySem.W.nsIn K mainGlobals x=some (some (.ref C)))(q:PySem.W.excIn K C bm newId=true)(FB:ExcBaseFacts B newId initId bm)
  (hg:Gl (cxX P w K mg base N qual scope f cd A outer s₀ H₀ E) x) (ha:PA (cxX P w K mg base N qual scope f cd A outer s₀ H₀ E) (e₀::rest) t)
  (he:starEach (e₀::rest) (cxX P w K mg base N qual scope f cd A outer s₀ H₀ E).env=(false,eval e₀ (cxX P w K mg base N qual scope f cd A outer s₀ H₀ E).env)::starEach rest (cxX P w K mg base N qual scope f cd A outer s₀ H₀ E).env:=by rfl)
  (hplain:(backTo cpos (starEach rest (cxX P w K mg base N qual scope f cd A outer s₀ H₀ E).env)).any (·.1)=false:=by rfl) (hdb:(x==("__debug__" :Str))=false:=by decide):
  PS (cxX P w K mg base N qual scope f cd A outer s₀ H₀ E) (.Raise (some (.Call (.Name x np) (e₀::rest) [] cpos)) none pos) (Ze4 (.ref C) E t):=by
 intro pins s σ H D I h;exact ZiW (ZlR I.ok.mod.kin I.ok.mod.glob e q) FB hg ha he hplain hdb pins s σ H D I h
end
end
section
variable {X:Cx}
noncomputable def rSlS:V→Option Int→Option Int→Hp→VK→Prop:=fun x lo hi H Q=>∃z,x= .str z∧z.length≤sizeLine∧Q (.str (Txt.slice z lo hi)) H
theorem Zlo:SlR X rSlS:=by
 intro pins s σ H x v vl vu lo hi sl Q I rx hs pl pu h;obtain⟨z,rfl,hz,q⟩:=h;obtain⟨t,rfl⟩:=rx;refine⟨"str",_,F.slot_str_getitem.lookup,typeIs_str _ _ _,?_⟩;have fin:∀l u:Option (Int×Tok),l.map (·.1)=lo→u.map (·.1)=hi→partValue l=vl→partValue u=vu→wpAny (model X.prog X.w) X.A (getItem (.str z t) (.ref sl)) (EP X pins σ Q) X.xe s:=fun l u e1 e2 e3 e4=>by
  obtain⟨o,ho,hc,hd⟩:=hs;subst e1 e2 e3 e4;exact wpAny_getItem_str_slice (l:=l) (u:=u) (st:=none) ⟨o,ho,hc,hd⟩ rfl (post_val_or_str ⟨Nat.le_trans (Txt.slice_le z _ _) hz,fun t' k=>⟨.str _,H,I.tok k,⟨_,rfl⟩,q⟩⟩)
 cases pl with
 |none=>
  cases pu with
  |none=>exact fin none none rfl rfl rfl rfl
  |int j t'=>exact fin none (some (j,t')) rfl rfl rfl rfl
 |int i ti=>
  cases pu with
  |none=>exact fin (some (i,ti)) none rfl rfl rfl rfl
  |int j t'=>exact fin (some (i,ti)) (some (j,t')) rfl rfl rfl rfl
noncomputable def ZdM (K:PySem.W.Frag):V→Option Int→Option Int→Hp→VK→Prop:=fun x lo hi H Q=>Zlq K x lo hi H Q∨(Zle K x lo hi H Q∨rSlS x lo hi H Q)
theorem Zmy:SlR X (ZdM X.K):=ZkD.or (ZlJ.or Zlo)
end
structure Za5(K:PySem.W.Frag)(C:Addr)(fs:List Str):Prop where
 out:∀f∈fs,Wo K C f
theorem Za5.get{K:PySem.W.Frag}{C:Addr}{fs:List Str}{f:Str}(h:Za5 K C fs)(m:fs.contains f=true):Wo K C f:=h.out f (by simpa using m)
namespace Rd
section
variable {σ:St}{H:Hp}{Q:VK}{D:VA}{K:PySem.W.Frag}
theorem slS{z:Str}{lo hi:Option Int}(h:z.length≤sizeLine)(q:Q (.str (Txt.slice z lo hi)) H):ZdM K (.str z) lo hi H Q:= .inr (.inr ⟨z,rfl,h,q⟩)
theorem slL{a:Addr}{xs:List V}{lo hi:Option Int}(h:SqL K H a xs)(q:∀p,H p=none→Q (.ref p) (upd H p (.lst (Vz xs lo hi)))):ZdM K (.ref a) lo hi H Q:= .inl ⟨a,xs,rfl,h,q⟩
theorem sl{r:V→Option Int→Option Int→Hp→VK→Prop}{te:TE}{tl th:TO}(h:te σ H fun x H1=>tl σ H1 fun l H2=>th σ H2 fun u H3=>r x l u H3 Q):tSl r te tl th σ H Q:=h
theorem ZlK{Q:Option Int→Hp→Prop}(h:Q none H):tNoPart σ H Q:=h
theorem Zmv{te:TE}{Q:Option Int→Hp→Prop}(h:te σ H fun x H1=>∃i,x= .int i∧Q (some i) H1):Zj0 te σ H Q:=h
theorem Zmg{i:Int}{C:Int→Prop}(h:C i):∃j,V.int i= .int j∧C j:=⟨i,rfl,h⟩
theorem Znl{ta:TE}{f:Str}(h:ta σ H fun x H1=>∃a C dx fs v,x= .ref a∧H1 a=some (.ins C dx fs)∧Cls K C∧Wo K C f∧fs.lookup f=some v∧Q v H1):Zjm K ta f σ H Q:=h
theorem fld{a C dx:Addr}{fs:List (Str×V)}{f:Str}{v:V}{G:V→Prop}(h:H a=some (.ins C dx fs))(c:Cls K C)(n:Wo K C f)(l:fs.lookup f=some v)(q:G v):
  ∃a' C dx fs v,V.ref a= .ref a'∧H a'=some (.ins C dx fs)∧Cls K C∧Wo K C f∧fs.lookup f=some v∧G v:=⟨a,C,dx,fs,v,rfl,h,c,n,l,q⟩
theorem ZlX{C:Addr}{m:Str}{sp:Sp}{dvs:List V}{E:XK}{ta:TE}{t:TA}(h:ta σ H fun x H1=>∃a dx fs,x= .ref a∧H1 a=some (.ins C dx fs)∧fs.lookup m=none∧t σ H1 fun vs H2=>sp (x::(vs++dvs)) H2 Q E):Zhu C m sp dvs E ta t σ H Q:=h
theorem Zl1{C:Addr}{sp:Sp}{dvs:List V}{E:XK}{t:TA}(h:t σ H fun vs H1=>∀x dx,H1 x=none→H1 dx=none→dx≠x→
  sp (.ref x::(vs++dvs)) (upd (upd H1 dx (.own x)) x (.ins C dx [])) (fun v H2=>v= .non∧Q (.ref x) H2) E):Zha C sp dvs E t σ H Q:=h
theorem ZmX{ta tv:TE}{f:Str}(h:tv σ H fun y H1=>ta σ H1 fun x H2=>∃a C dx fs,x= .ref a∧H2 a=some (.ins C dx fs)∧Cls K C∧Wo K C f∧fs.length<1000∧D.nx σ (upd H2 a (.ins C dx (Y9 f y fs)))):ZjH K ta tv f D σ H:=h
theorem Zml{a C dx:Addr}{fs fs':List (Str×V)}{f:Str}{y:V}(h:H a=some (.ins C dx fs))(c:Cls K C)(n:Wo K C f)(l:fs.length<1000)(e:Y9 f y fs=fs')(q:D.nx σ (upd H a (.ins C dx fs'))):
  ∃a' C dx fs,V.ref a= .ref a'∧H a'=some (.ins C dx fs)∧Cls K C∧Wo K C f∧fs.length<1000∧D.nx σ (upd H a' (.ins C dx (Y9 f y fs))):=⟨a,C,dx,fs,rfl,h,c,n,l,by rw[e];exact q⟩
theorem Zmb{cls:Value}{E:XK}{t:TA}(h:t σ H fun vs H1=>vs.length≤sizeLine∧E cls none H1):Ze4 cls E t D σ H:=h
theorem Zk2{v:V}{G:Prop}(q:G):[v].length≤sizeLine∧G:=⟨by show 1≤sizeLine;decide,q⟩
theorem Zmp{te:TE}{R:It→Hp→Prop}(h:te σ H fun x H1=>∃a,x= .ref a∧(∃xs,SqL K H1 a xs)∧R (Itl K a) H1):Zhr K te σ H R:=h
theorem Zmz{te:TE}{R:It→Hp→Prop}(h:te σ H fun x H1=>∃y,x= .str y∧R (Its y) H1):ZlO te σ H R:=h
theorem Zl3{y:Str}{G:Str→Prop}(h:G y):∃z,V.str y= .str z∧G z:=⟨y,rfl,h⟩
theorem Zmn{ix:List Nat}{wi:TI}{g:TG}{tc:TT}{te:TE}(h:wi σ H fun J H1=>∀p,H1 p=none→
 ∃W:Nat→Nat→List V→St→Hp→Prop,(∃m,W 0 m [] (emb ix σ) (upd H1 p (.lst [])))∧∀i m ys σ' H',W i m ys σ' H'→
  (J.stop i H'∧Q (.ref p) H')∨(J.go i H'∧∀x H2,J.yld i H' x H2→g x σ' H2 fun σ2 H3=>tc σ2 H3 fun b H4=>
   if b=true then te σ2 H4 fun v H5=>H5 p=some (.lst ys)∧ys.length<sizeLine∧∃m',m'<m∧W (i+1) m' (ys++ [v]) σ2 (upd H5 p (.lst (ys++ [v])))
   else ∃m',m'<m∧W (i+1) m' ys σ2 H4)):Zhh ix wi g tc te σ H Q:=h
theorem ZmQ{Q:Bool→Hp→Prop}(h:Q true H):tAll σ H Q:=h
theorem lk0{f:Str}{v:V}{r:List (Str×V)}:((f,v)::r).lookup f=some v:=by simp
theorem lk1{f g:Str}{v:V}{o:Option V}{r:List (Str×V)}(n:(f==g)=false)(h:r.lookup f=o):((g,v)::r).lookup f=o:=by rw[List.lookup_cons,n];exact h
theorem lkN{f:Str}:([]:List (Str×V)).lookup f=none:=rfl
theorem pf1{f g:Str}{v x:V}{r r':List (Str×V)}(n:(g==f)=false)(h:Y9 f v r=r'):Y9 f v ((g,x)::r)=(g,x)::r':=by
 have:¬g=f:=by simpa using n
 simp[Y9,this,h]
theorem pfN{f:Str}{v:V}:Y9 f v []=[(f,v)]:=rfl
end
end Rd
end L2
namespace L2
open PySem PySem.Spec PyProof.Rows
theorem ZgI(x:Int)(ys:List Int):inV (.int x) (ys.map V.int)=decide (x∈ys):=by
 induction ys with
 |nil=>rfl
 |cons y ys ih=>
  have e:inV (.int x) ((y::ys).map V.int)=(eqV (.int y) (.int x)||inV (.int x) (ys.map V.int)):=rfl;rw[e,ih];show((y==x)||decide (x∈ys))=decide (x∈y::ys)
  by_cases h:x=y
  ·subst h;simp
  ·have:(y==x)=false:=by simpa using fun z=>h z.symm
   rw[this];simp[h]
theorem Zet(ys:List Int):(ys.map V.int).all Uz=true:=by
 rw[List.all_map,List.all_eq_true];intro _ _
 rfl
namespace Rd
section
variable {H:Hp}{Q:VK}{K:PySem.W.Frag}
theorem inI{p:Addr}{x:Int}{ys:List Int}(h:SqL K H p (ys.map V.int))(q:Q (.bl (decide (x∈ys))) H):rIn K false (.int x) (.ref p) H Q:=⟨p,_,rfl,.inl h,rfl,Zet ys,by rw[ZgI];exact q⟩
theorem Zne{p:Addr}{x:Int}{ys:List Int}(h:SqL K H p (ys.map V.int))(q:Q (.bl (!decide (x∈ys))) H):rIn K true (.int x) (.ref p) H Q:=⟨p,_,rfl,.inl h,rfl,Zet ys,by rw[ZgI];exact q⟩
theorem ifD{c A B:Prop}[Decidable c](a:c→A)(b:¬c→B):if decide c=true then A else B:=by
 by_cases h:c
 ·exact ifP h (a h)
 ·exact ifN h (b h)
theorem Zm3{p:Addr}{bs:List Bool}{G:List Bool→Prop}(h:SqL K H p (bs.map V.bl))(q:G bs):∃(p':Addr)(bs':List Bool),[V.ref p]=[.ref p']∧SqL K H p' (bs'.map V.bl)∧G bs':=⟨p,bs,rfl,h,q⟩
theorem leS{x y:Str}(q:Q (.bl (!decide (y.cps.toList<x.cps.toList))) H):rLeS (.str x) (.str y) H Q:=⟨x,y,rfl,rfl,q⟩
theorem Zl4{σ:St}{r r':R2}{ta tb tc:TE}(h:ta σ H fun x H1=>tb σ H1 fun y H2=>r x y H2 fun z H3=>∃k,z= .bl k∧(if k=true then tc σ H3 fun w' H4=>r' y w' H4 Q else Q (.bl false) H3)):ZfK r r' ta tb tc σ H Q:=h
end
end Rd
end L2
namespace L2
open PySem PySem.Spec PyProof.Rows
theorem WB.step{K:PySem.W.Frag}{H H':Hp}{A A':List Addr}{a:Addr}{xs:List V}(h:WB K H A a xs)(f:ZJ A H H')(g:Wf A A' H):WB K H' A' a xs:=by
 have h1:=h.more (A':=A++A') fun a z=>(List.mem_append.mp z).elim .inl (g a);exact(h1.frame (f.mono fun a z=>List.mem_append_left _ z)).sub fun a z=>List.mem_append_right _ z
theorem Wf.cons{A A':List Addr}{H:Hp}{q:Addr}(g:Wf A A' H):Wf (q::A) (q::A') H:=fun a z=>by
 rcases List.mem_cons.mp z with rfl|z
 ·exact .inl List.mem_cons_self
 ·rcases g a z with y|y
  ·exact .inl (List.mem_cons_of_mem _ y)
  ·exact .inr y
theorem ZJ.cons{A:List Addr}{H H':Hp}{q:Addr}(f:ZJ A H H'):ZJ (q::A) H H':=f.mono fun _ z=>List.mem_cons_of_mem _ z
theorem Wf.off{A A':List Addr}{H:Hp}{q:Addr}(g:Wf A A' H)(n:q∉A)(h:H q≠none):q∉A':=fun z=>(g q z).elim n h
namespace Rd
section
variable {H:Hp}{Q:VK}{K:PySem.W.Frag}
theorem ZmK{z:Str}{i:Int}{c:Nat}(h:z.length≤sizeLine)(e:atI z.cps.toList i=some c)(q:Q (.str ⟨#[c]⟩) H):rIx K (.str z) (.int i) H Q:= .inr (.inr ⟨z,i,c,rfl,rfl,h,e,q⟩)
theorem ZlE{a:Addr}{xs:List V}{G:Addr→Prop}(h:SqL K H a xs)(q:G a):∃a',V.ref a= .ref a'∧(∃xs,SqL K H a' xs)∧G a':=⟨a,rfl,⟨xs,h⟩,q⟩
theorem Zmf{j:Int}{G:Int→Prop}(h1: -(2 ^ 62)≤j)(h2:j<2 ^ 62)(q:G j):∃k,[V.int j]=[.int k]∧ -(2 ^ 62)≤k∧k<2 ^ 62∧G k:=⟨j,rfl,h1,h2,q⟩
end
end Rd
end L2
namespace L2
open PySem PySem.Spec PyProof.Rows
noncomputable def hid (H:Hp) (r:Addr):Hp:=fun b=>if b=r then none else H b
theorem ZcY{H:Hp}{r:Addr}:hid H r r=none:=by unfold hid;rw[if_pos rfl]
theorem ZaP{H:Hp}{r b:Addr}(h:b≠r):hid H r b=H b:=by unfold hid;rw[if_neg h]
theorem VD{H:Hp}{r:Addr}:Ze (hid H r) H:=fun b o e=>by
 by_cases h:b=r
 ·rw[h,ZcY] at e;cases e
 ·rw[ZaP h] at e;exact e
end L2
namespace L2
open PySem PySem.Spec PyProof.Rows
theorem Zfx:∀ns:List Int,PyData.canLayAll0 (ns.map PyData.int)=true
 | []=>by simp[PyData.canLayAll0]
 |n::ns=>by
  have:=Zfx ns;simp[PyData.canLayAll0,PyData.canLay0] at this⊢;exact this
theorem WD(ns:List Int):(PyData.list (ns.map PyData.int)).canLay0=true:=by
 have:=Zfx ns;simp[PyData.canLay0];simpa using this
theorem Zdu:∀ns:List Int,PyData.depthAll (ns.map PyData.int)≤1
 | []=>by simp[PyData.depthAll]
 |n::ns=>by
  have:=Zdu ns;simp[PyData.depthAll,PyData.depth] at this⊢;exact this
theorem UC(ns:List Int):(PyData.list (ns.map PyData.int)).depth≤60:=by
 have:=Zdu ns;simp only[PyData.depth];omega
end L2
namespace L2
open PySem PySem.Spec PyProof.Rows
namespace Rd
section
variable {H:Hp}{Q:VK}{K:PySem.W.Frag}
theorem Zij{p q:Addr}{ns:List Int}(h1:SqL K H p (ns.map V.int))(h2:SqL K H q (ns.map V.int))(k:Q (.bl false) H):rOr rNe (ZaM K true) (.ref p) (.ref q) H Q:=
 ZmA (Y3.ints h1) (Y3.ints h2) (WD ns) (WD ns) (UC ns) (by rw[SeqAt.eqv_refl _ (WD ns)];exact k)
theorem Zk6{p q:Addr}{ns:List Int}(h1:SqL K H p (ns.map V.int))(h2:SqL K H q (ns.map V.int))(k:Q (.bl true) H):rOr rEq (ZaM K false) (.ref p) (.ref q) H Q:=
 Zi8 (Y3.ints h1) (Y3.ints h2) (WD ns) (WD ns) (UC ns) (by rw[SeqAt.eqv_refl _ (WD ns)];exact k)
end
end Rd
end L2
namespace L2
open PySem PySem.Spec PyProof.Rows
namespace Rd
section
variable {σ:St}{H:Hp}{Q:VK}{K:PySem.W.Frag}{J:St→Prop}{E:XK}{sp:Sp}{dvs:List V}{t:TA}{ta:TE}
end
end Rd
end L2
namespace L2
open PySem PySem.Spec PyProof.Rows
namespace Rd
section
variable {σ:St}{H:Hp}
theorem Zm9{to ti:TE}{t:ZcP}{v:V}{Q:St→Hp→Prop}(h:to σ H fun o H1=>ti σ H1 fun i H2=>t o i v H2 fun H3=>Q σ H3):Zlb to ti t v σ H Q:=h
theorem ZmR{p:Addr}{xs:List V}{k:Int}{v:V}{Q:Hp→Prop}(hp:H p=some (.lst xs))(h0:0≤k)(h1:k<xs.length)(q:Q (upd H p (.lst (xs.set k.toNat v)))):rSetL (.ref p) (.int k) v H Q:=
 ⟨p,xs,k,k.toNat,rfl,rfl,hp,by unfold ixN;rw[if_pos h0,if_pos h1],q⟩
end
end Rd
section
variable {X hs:List Int}{i:Nat}{v u:Int}
end
end L2
namespace L2
open PySem PySem.Spec PyProof.Rows
noncomputable def only(q:Addr) (o:HO):Hp:=fun a=>if a=q then some o else none
theorem ZaE{q:Addr}{o:HO}:only q o q=some o:=by unfold only;rw[if_pos rfl]
theorem Zao{q:Addr}{o:HO}{H:Hp}(h:H q=some o):Ze (only q o) H:=fun b x e=>by
 unfold only at e
 by_cases c:b=q
 ·rw[if_pos c] at e;rw[c];cases e;exact h
 ·rw[if_neg c] at e;cases e
end L2
namespace L2
open PySem PySem.Spec PyProof.Rows
section
variable {X:Cx}{K:PySem.W.Frag}
theorem Z8(e:X.K=K):OpR X (binaryOp .Add) (rOr ZgS (rOr ZeN (rOr rCat (ZeL K)))):=e▸ZkN
theorem WK(e:X.K=K)(hu:X.A.units+64<cLine):OpR X (compareOp .Eq) (rOr rEq (ZaM K false)):=e▸Zln hu
theorem VU(e:X.K=K)(hu:X.A.units+64<cLine):OpR X (compareOp .NotEq) (rOr rNe (ZaM K true)):=e▸ZkZ hu
theorem Zp(e:X.K=K):IxR X (rIx K):=e▸Zlj
theorem Zft(e:X.K=K):SlR X (ZdM K):=e▸Zmy
noncomputable def Zls (K:PySem.W.Frag):List V→Hp→VK→Prop:=fun xs H Q=>∃x n,xs=[x]∧Zbe K x H n∧Q (.int n) H
theorem ZU(e:X.K=K):Wi X (.builtin "len") (Zls K):=e▸ZiY
theorem Zhp(e:X.K=K):OpR X (compareOp .In) (rIn K false):=e▸Zix
theorem Zgt(e:X.K=K):OpR X (compareOp .NotIn) (rIn K true):=e▸Zfr
theorem ZY{e:Expr}{ta:TE}{f:Str}{pos:Pos}(ek:X.K=K)(he:PE X e ta)(hb:attributeBase e f X.env (eval e X.env)=eval e X.env):PE X (.Attribute e f pos) (Zjm K ta f):=ek▸ZlG he hb
theorem Ui{o value:Expr}{ta tv:TE}{f:Str}{pos pos':Pos}(ek:X.K=K)(ha:PE X o ta)(hv:PE X value tv)(hs:swapsWith value (some (.Attribute o f pos')) pos.line X.env=pure false):
  PS X (.Assign [.Attribute o f pos'] value pos) (ZjH K ta tv f):=ek▸ZlA ha hv hs
theorem Z4{tg l:Expr}{tl:TE}(ek:X.K=K)(hl:PE X l tl):PI X tg l (Zhr K tl):=ek▸Zkn hl
noncomputable def ZlU (K:PySem.W.Frag) (ta:TE):TT:=fun σ H Q=>ta σ H fun x H'=>∃k,ZfP K x H' k∧Q k H'
theorem Yf{a:Expr}{ta:TE}(ek:X.K=K)(ha:PE X a ta)(he:∀whole,isTrue a X.env whole=(do let v←whole;standAt a.pos;holding [v] (truthy v))):PT X a (ZlU K ta):=ek▸ZiX ha he
noncomputable def ZlH (K:PySem.W.Frag):List V→Hp→VK→Prop:=fun xs H Q=>∃x n t b,xs=[x,.ty n]∧Wr K H x t∧PySem.W.kitOne K t (.type n)=some b∧Q (.bl b) H
theorem Vt(e:X.K=K):Wi X (.builtin "isinstance") (ZlH K):=e▸Zga
noncomputable def ZgG (K:PySem.W.Frag):List V→Hp→VK→Prop:=fun xs H Q=>∃p ys,xs=[.ref p]∧(SqL K H p ys∨SqT K H p ys)∧∀l,H l=none→Q (.ref l) (upd H l (.lst ys))
theorem Zbb(e:X.K=K):Wi X (.type "list") (ZgG K):=e▸Zfi
noncomputable def Zkf (K:PySem.W.Frag):List V→Hp→VK→Prop:=fun xs H Q=>∃(p:Addr)(bs:List Bool),xs=[.ref p]∧SqL K H p (bs.map V.bl)∧Q (.bl (bs.all id)) H
theorem Zke(e:X.K=K)(hc:X.calm=true):Wi X (.builtin "all") (Zkf K):=e▸Zie hc
noncomputable def ZjU (K:PySem.W.Frag):List V→Hp→VK→Prop:=fun xs H Q=>∃(p:Addr)(ns:List Int),xs=[.ref p]∧SqL K H p (ns.map V.int)∧Q (.int ns.sum) H
theorem Zhs(e:X.K=K)(hc:X.calm=true):Wi X (.builtin "sum") (ZjU K):=e▸ZiA hc
theorem Yw{o e:Expr}{es:List Expr}{to:TE}{t:TA}{name:Str}{apos cpos:Pos}{T id:String}{r:V→List V→Hp→VK→Prop}(ek:X.K=K)(pa:PlainAttrs T)(slot:Slot T name id)(hty:typeOf (.builtin id)=pure (.type "method_descriptor"))(hm:MtR X id r)(ho:PE X o to)(ha:PA X (e::es) t)
  (hbase:attributeBase o name X.env (eval o X.env)=eval o X.env:=by rfl)
  (hfew:((backTo cpos (starEach (e::es) X.env)).all (fun x=>!x.1)&&(backToKw cpos (keywordEach [] X.env)).all (fun x=>x.1.isSome)
   &&decide ((e::es).length+([]:List Keyword).length+(if([]:List Keyword).isEmpty then 0 else 1)<30))=true:=by rfl)
  (hline:(apos.endLine==cpos.line)=true:=by rfl) (hs:starEach (e::es) X.env=(false,eval e X.env)::starEach es X.env:=by rfl) (hplain:(backTo cpos (starEach es X.env)).any (·.1)=false:=by rfl):
  PE X (.Call (.Attribute o name apos) (e::es) [] cpos) (tBM K T r to t):=ek▸Zl7 pa slot hty hm ho ha hbase hfew hline hs hplain
theorem YA{es:List Expr}{k:Nat}{t:TGs}{n:Nat}{pos:Pos}(ek:X.K=K)(hc:X.calm=true)(h:PGs X es t)(hn:(assignEach es X.env).length=n:=by rfl)(hst:(assignEach es X.env).findIdx? (·.1)=none:=by rfl):
  PG X (.Tuple es k pos) (ZjL K n t):=ek▸ZlN hc h hn hst
end
namespace Rd
section
variable {σ:St}{H:Hp}{Q:VK}{K:PySem.W.Frag}
theorem tru{ta:TE}{Q:Bool→Hp→Prop}(h:ta σ H fun x H'=>∃k,ZfP K x H' k∧Q k H'):ZlU K ta σ H Q:=h
theorem Znf{xs:List V}(h:∃x n,xs=[x]∧Zbe K x H n∧Q (.int n) H):Zls K xs H Q:=h
theorem Zm2{xs:List V}(h:∃x n t b,xs=[x,.ty n]∧Wr K H x t∧PySem.W.kitOne K t (.type n)=some b∧Q (.bl b) H):ZlH K xs H Q:=h
theorem ZmJ{xs:List V}(h:∃(p:Addr)(bs:List Bool),xs=[.ref p]∧SqL K H p (bs.map V.bl)∧Q (.bl (bs.all id)) H):Zkf K xs H Q:=h
theorem Zce{p:Addr}{xs:List V}(h:SqL K H p xs)(q:∀l,H l=none→Q (.ref l) (upd H l (.lst xs))):ZgG K [.ref p] H Q:=⟨p,xs,rfl,.inl h,q⟩
theorem ZiV{p:Addr}{ns:List Int}(h:SqL K H p (ns.map V.int))(q:Q (.int ns.sum) H):ZjU K [.ref p] H Q:=⟨p,ns,rfl,h,q⟩
end
end Rd
end L2
namespace L2
open PySem PySem.Spec PyProof.Rows
section
variable {X:Cx}
noncomputable def rDIn:R2:=fun y x H Q=>∃a o,x= .ref a∧UM H a y o∧Q (.bl o.isSome) H
noncomputable def rDNotIn:R2:=fun y x H Q=>∃a o,x= .ref a∧UM H a y o∧Q (.bl (!o.isSome)) H
theorem Zk9(hu:X.A.units+64<cLine):OpR X (compareOp .In) rDIn:=by
 intro pins s σ H x y v u Q I rx ry h;obtain⟨a,o,rfl,g,q⟩:=h;cases ry;exact ZmH (by omega) I g rx fun s' I'=>⟨.bl o.isSome,H,I',rfl,q⟩
theorem ZbB(hu:X.A.units+64<cLine):OpR X (compareOp .NotIn) rDNotIn:=by
 intro pins s σ H x y v u Q I rx ry h;obtain⟨a,o,rfl,g,q⟩:=h;cases ry;exact Zks (by omega) I g rx fun s' I'=>⟨.bl (!o.isSome),H,I',rfl,q⟩
noncomputable def rIxD:R2:=fun x y H Q=>∃a v,x= .ref a∧UM H a y (some v)∧Q v H
theorem Zci(hu:X.A.units+64<cLine):IxR X rIxD:=by
 intro value slice pins s σ H x y v u Q I rx ry h hs;obtain⟨a,z,rfl,g,q⟩:=h;cases rx;exact tail_any (Zf5 I g) PySem.F.slot_dict_getitem.lookup (ZiG (by omega) I g ry fun w' s' I' rw'=>⟨z,H,I',rw',q⟩) hs
noncomputable def rSetD:V→V→V→Hp→(Hp→Prop)→Prop:=fun o i v H Q=>∃a H4,o= .ref a∧ZdO H a i v H4∧Q H4
theorem Zal(hu:X.A.units+64<cLine):Zhb X rSetD:=by
 intro pins s σ H o i v ov iv u Q I ro ri rv h;obtain⟨a,H4,rfl,g,q⟩:=h;cases ro;exact ZhS (by omega) I g ri rv fun s' I'=>⟨H4,I',q⟩
theorem Zj2{P:Program}{w:World}{k:Key}{u:Value}(h:(ZP P w).is k u=true):ZF (kV k) u:=by
 cases k with
 |inl i=>exact Value.isInt_shape h
 |inr x=>exact Value.isStrOf_shape h
theorem ZdL:∀{xs:List V}{us:List Value},us.length=xs.length→(∀(j:Nat)(v:V)(u:Value),xs[j]? =some v→us[j]? =some u→ZF v u)→ZD xs us
 | [],[],_,_=> .nil
 |x::xs,u::us,hl,h=> .cons (h 0 x u rfl rfl) (ZdL (by simpa using hl) fun j v w e1 e2=>h (j+1) v w (by simpa using e1) (by simpa using e2))
 | [],_::_,hl,_=>by simp at hl
 |_::_,[],hl,_=>by simp at hl
theorem KV.at{kvs:List (Key×V)}{vs:List (Key×Value)}(r:KV kvs vs):∀{j:Nat}{k:Key}{x:Value},vs[j]? =some (k,x)→∃v,kvs[j]? =some (k,v):=by
 unfold KV at r
 induction r with
 |nil=>intro j k x e;simp at e
 | @cons p q ps qs h t ih=>
  intro j k x e;cases j with
  |zero=>
   simp at e;subst e;have h1:p.1=k:=h.1;exact⟨p.2,by simp[←h1]⟩
  |succ j=>
   obtain⟨v,z⟩:=ih (j:=j) (k:=k) (x:=x) (by simpa using e);exact⟨v,by simpa using z⟩
noncomputable def rListD:List V→Hp→VK→Prop:=fun xs H Q=>∃a kvs,xs=[V.ref a]∧H a=some (.dK kvs)∧∀l,H l=none→Q (.ref l) (upd H l (.lst (kvs.map fun kv=>kV kv.1)))
theorem Zg1(hc:X.calm=true):Wi X (.type "list") rListD:=by
 intro pins s σ H xs us Q I r h;obtain⟨a,kvs,rfl,ha,q⟩:=h;obtain⟨u,rfl,ru⟩:=WO r;cases ru;obtain⟨z,hd,vs,rel,dd⟩:=Zaq I.hok ha;obtain⟨ep,hat⟩:=dd.dictAt;refine PySem.W.kdl_call (PySem.W.kdl_dict (knd:=ZP X.prog X.w) (kvs:=vs) (ep:=ep) hd) (I.ok.hd hc) hat (by rw[←rel.length];exact z) fun h' tk acc c hk hD hacc=>?_;refine⟨.ref s.heap.objs.size,_,I.laid (a:=s.heap.objs.size) (o:= .lst (kvs.map fun kv=>kV kv.1)) (t':=tk) hk (Nat.le_refl _) ⟨by rw[List.length_map];exact z,acc.toList,c,?_,by simpa using hD⟩,rfl,q _ (I.hok.fresh (Nat.le_refl _))⟩;refine ZdL (by rw[Array.length_toList,hacc.1,List.length_map,rel.length]) fun j v u e1 e2=>?_;obtain⟨k,x,hx,hk'⟩:=hacc.2 j u (by rw[←Array.getElem?_toList];exact e2);obtain⟨v',hv'⟩:=rel.at hx;rw[List.getElem?_map,hv'] at e1;cases e1;exact Zj2 hk'
end
section
variable {X:Cx}{pins:List (Addr×Obj)}{σ:List (Option V)}{H H':Hp}{s:Shared}{h':Heap}
theorem Inv.turnedL{t':Nat}{fp:List Addr}(I:Inv X pins σ H s)(k:∀b o,b∉fp→s.heap.get? b=some o→h'.get? b=some o)(hf:∀b∈fp,WY X pins H b):Inv X pins σ H {s with heap:=h',toks:=t'}:=by
 have nit:∀b u,H b=some u→b∉fp:=fun b u e z=>by rw[(hf b z).1] at e;cases e
 refine I.step (g':=s.gens) (d':=s.drawn) (ch:=fp) (fun b hb=>?_) (fun b o _ _ hc e _=>k b o hc e) (fun b o _ _ hc e _=>⟨o.slots,k b o hc e⟩) (fun _ _ _ _ n=>n)
  (fun b o hc e=>⟨o,k b o hc e⟩) (fun _ _ e=>e) (fun _ _ _ e=>e) (fun b ps e=>⟨#[],by rw[e];simp⟩) (fun m hm=>?_) (fun b u e=>?_) I.bare
 ·obtain⟨f0,f1,f2,f3,f4,f5⟩:=hf b hb;exact⟨f3,f1,f4,f5⟩
 ·obtain⟨o,es,ep,ho,r⟩:=hm;exact⟨o,es,ep,k _ o (fun z=>(hf _ z).2.1 rfl) ho,r⟩
 ·refine(I.hok b u e).stay (fun c v hc q=>k c v ?_ q) (fun _ q=>q) fun _ _ q=>q;rcases hc with z|z
  ·rw[z];exact nit b u e
  ·exact nit c _ z
theorem Inv.turnedNew{t':Nat}{fp:List Addr}{T:Addr}{o:HO}(I:Inv X pins σ H s)(k:∀b o,b∉fp→s.heap.get? b=some o→h'.get? b=some o)(hf:∀b∈fp,WY X pins H b)(hp:s.heap.objs.size≤T)(new:Z1 X.prog X.w (upd H T o) h' T o):
  Inv X pins σ (upd H T o) {s with heap:=h',toks:=t'}:=by
 have J:Inv X pins σ H {s with heap:=h',toks:=t'}:=I.turnedL k hf;have hn:=I.hok.fresh hp;obtain⟨f0,f1,f2,f3,f4,f5⟩:=I.fpOk hp hn;refine Inv.step (s:={s with heap:=h',toks:=t'}) (h':=h') (g':=s.gens) (d':=s.drawn) (t':=t') (ch:=[T]) J (fun b hb=>?_) (fun b o _ _ hc e _=>e) (fun b o _ _ hc e _=>⟨o.slots,e⟩) (fun b o hc e n=>?_)
  (fun b o hc e=>⟨o,e⟩) (fun b xs e=>?_) (fun b o u e=>?_) (fun b ps e=>⟨#[],?_⟩) (fun m hm=>hm) (fun b u e=>?_) I.bare
 ·have e:b=T:=by simpa using hb
  subst e;exact⟨f3,f1,f4,f5⟩
 ·rw[Zg (fun z=>hc (by simp[z]))];exact n
 ·rw[Zg (Zo e hn)];exact e
 ·rw[Zg (Zo e hn)];exact e
 ·rw[Zg (Zo e hn)];simpa using e
 ·by_cases hb:b=T
  ·subst hb;rw[Zd] at e;cases e;exact new
  ·rw[Zg hb] at e;exact(J.hok b u e).stay (fun c v _ q=>q) (fun c q=>by rw[Zg (Zo q hn)];exact q) fun c xs q=>by rw[Zg (Zo q hn)];exact q
end
noncomputable def Ite (K:PySem.W.Frag) (a:Addr):It:=
 ⟨fun i H=>∃xs x,SqL K H a xs∧xs[i]? =some x,fun i H v H'=>∃t x,H t=none∧v= .ref t∧H'=upd H t (.tup [.int i,x])∧∀xs,SqL K H a xs→xs[i]? =some x,fun i H=>∃xs,SqL K H a xs∧xs.length≤i⟩
theorem ZiE{P:Program}{w:World}{K:PySem.W.Frag}{elts:List Expr}{k1:Nat}{pos:Pos}(a e it:Addr)(hei:e≠it):Za9 P w K (.Tuple elts k1 pos) (Ite K a) [e,it] e (fun i h=>(∃old,IsEnum h e it i old)∧h.IsListIter it a i) where
 mem:=by simp
 obj:=fun i h st b hb=>by
  obtain⟨⟨old,he⟩,o,h1,h2,h3⟩:=st;rcases List.mem_cons.mp hb with rfl|hb
  ·exact⟨_,he,fun v z=>by
    have z':Data.fields _=Data.cell v:=z;cases z'⟩
  ·rw[List.mem_singleton.mp hb];exact⟨o,h1,fun v z=>by rw[h3] at z;cases z⟩
 keep:=fun i h h' st k=>⟨let⟨old,he⟩:=st.1;⟨old,k e (by simp) _ he⟩,st.2.at fun o q=>k it (by simp) o q⟩
 item:=by
  intro X hP hw hK hc i pins s σ H E I hf st hg;subst hP hw hK;obtain⟨xs,x,hq,hx⟩:=hg;obtain⟨its,rv,p,hz⟩:=I.list hq;obtain⟨u,hu,ru⟩:=rv.get hx;obtain⟨⟨old,he⟩,hit⟩:=st;refine wpAny_pyNext_enum_item he hit p.isList (x:=u) (by simpa using hu) hei fun h' ho hit' hT hsz hk=>?_;have hfr:=I.hok.fresh (Nat.le_refl s.heap.objs.size);have helt:e<s.heap.objs.size:=Heap.lt_size he;have hilt:it<s.heap.objs.size:=by obtain⟨_,y,_⟩:=hit;exact Heap.lt_size y
  refine⟨_,rfl,wpAny_letOwnedTupleGo_enum ho fun h2 he2 hs2=>?_⟩;have hT2:h2.get? s.heap.objs.size=some {cls:= .type "tuple",data:= .seq #[.int i s.toks,u]}:=hs2.extBut _ _ (Nat.ne_of_gt helt) hT;have I1:Inv X pins σ (upd H s.heap.objs.size (.tup [.int i,x])) {s with heap:=h2,toks:=s.toks+1}:=
   I.turnedNew (fp:=[e,it]) (fun b o hb q=>by
    have n1:b≠e:=fun z=>hb (by simp[z]);have n2:b≠it:=fun z=>hb (by simp[z]);exact hs2.extBut b o n1 (hk b o n1 n2 q)) hf (Nat.le_refl _) ⟨by show 2≤sizeLine;decide,[.int i s.toks,u],.cons ⟨_,rfl⟩ (.cons ru .nil),_,hT2,rfl,_,rfl⟩
  refine⟨.ref s.heap.objs.size,_,I1,rfl,⟨_,x,hfr,rfl,rfl,fun ys hy=>by rw[I.list_inj hy hq];exact hx⟩,⟨⟨_,he2⟩,hit'.at fun o q=>hs2.extBut _ _ hei.symm q⟩,fun b hb=>?_⟩;have nb:b≠s.heap.objs.size:=by
   rcases List.mem_cons.mp hb with rfl|hb
   ·exact Nat.ne_of_lt helt
   ·rw[List.mem_singleton.mp hb];exact Nat.ne_of_lt hilt
  rw[Zg nb];exact(hf b hb).1
 done:=by
  intro X hP hw hK hc i pins s σ H E I hf st hg;subst hP hw hK;obtain⟨xs,hq,hx⟩:=hg;obtain⟨its,rv,p,hz⟩:=I.list hq;obtain⟨⟨old,he⟩,hit⟩:=st;have hl:=rv.length;exact wpAny_pyNext_enum_end (I.ok.hd hc) he hit p.isList (by simp;omega) fun h' eb=>⟨rfl,I.turnedL (t':=s.toks) (fp:=[e,it]) (fun b o hb q=>eb b o (fun z=>hb (by simp[z])) q) hf⟩
 self:=fun _ _ _ _ _ st h=>wpAny_pyIter_enum st.1.choose_spec h
section
variable {X:Cx}
noncomputable def Zj6 (K:PySem.W.Frag) (ta:TA):TI:=fun σ H R=>ta σ H fun vs H1=>∃a,vs=[.ref a]∧(∃xs,SqL K H1 a xs)∧R (Ite K a) H1
theorem ZaR{K:PySem.W.Frag}{a:Expr}{ta:TA}{p pos tpos:Pos}{elts:List Expr}{k1:Nat}(ek:X.K=K)(hg:Gl X "enumerate")(hm:X.mg "enumerate" =none)(ha:PA X [a] ta)(hs:starEach [a] X.env=[(false,eval a X.env)]:=by rfl):
  PI X (.Tuple elts k1 tpos) (.Call (.Name "enumerate" p) [a] [] pos) (Zj6 K ta):=by
 subst ek;intro pins s σ H R I h;refine Call_ (Ua I hg hm boot_enumerate (PyProof.Rows.callWith_type1 (thn (ha pos pins s σ H _ I h) fun us s1 ⟨vs,H1,I1,r1,q1⟩=>?_) hs rfl));obtain⟨b,rfl,⟨xs,hq⟩,q⟩:=q1;obtain⟨u,rfl,ru⟩:=WO r1;cases ru;obtain⟨its,rv,pl,hz⟩:=I1.list hq;refine call_enumerate_list pl.isList fun h' he hit hsz hk=>?_;refine wpAny_pyIter_enum he ?_;have I2:Inv X pins σ H1 {s1 with heap:=h'}:=I1.kept (t':=s1.toks) hk;refine⟨s1.heap.objs.size+1,[s1.heap.objs.size+1,s1.heap.objs.size],_,_,H1,rfl,I2,ZiE b _ _ (Nat.succ_ne_self _),⟨⟨_,he⟩,hit⟩,fun c hc=>?_,q⟩;rcases List.mem_cons.mp hc with rfl|hc
 ·exact I1.fpOk (Nat.le_succ _) (I1.hok.fresh (Nat.le_succ _))
 ·rw[List.mem_singleton.mp hc];exact I1.fpOk (Nat.le_refl _) (I1.hok.fresh (Nat.le_refl _))
end
end L2
namespace L2
open PySem PySem.Spec PyProof.Rows
noncomputable def rLenD:List V→Hp→VK→Prop:=fun xs H Q=>∃a kvs,xs=[V.ref a]∧H a=some (.dK kvs)∧Q (.int kvs.length) H
theorem ZhI{X:Cx}:Wi X (.builtin "len") rLenD:=ZhO
noncomputable def ZbX (n:Nat) (ix:List Nat) (σ:St):St:=List.replicate n none++ix.map fun j=>(σ[j]?).join
noncomputable def Zfl (n:Nat) (ix:List Nat) (wi:TI) (g:TG) (tc:TT) (te:TE):TE:=fun σ H Q=>wi σ H fun J H1=>∀p,H1 p=none→
 ∃W:Nat→Nat→List V→St→Hp→Prop,(∃m,W 0 m [] (ZbX n ix σ) (upd H1 p (.lst [])))∧∀i m ys σ' H',W i m ys σ' H'→
  (J.stop i H'∧Q (.ref p) H')∨(J.go i H'∧∀x H2,J.yld i H' x H2→g x σ' H2 fun σ2 H3=>tc σ2 H3 fun b H4=>
   if b=true then te σ2 H4 fun v H5=>H5 p=some (.lst ys)∧ys.length<sizeLine∧∃m',m'<m∧W (i+1) m' (ys++ [v]) σ2 (upd H5 p (.lst (ys++ [v])))
   else ∃m',m'<m∧W (i+1) m' ys σ2 H4)
section
variable {X:Cx}
theorem Zgi{pins:List (Addr×Obj)}{σ:St}{H:Hp}{s:Shared}{sc:Scope}{x:Str}{xs:List Str}{zs:List Str}{ix:List Nat}{cl:List (Str×Addr)}{fp:List Addr}{h₁:Heap}{tk:Nat}
  (S:Y6 X sc x zs ix) (I:Inv X pins σ H s) (hcl:∀y c,cl.lookup y=some c→X.env.cells.lookup y=some c) (hhas:∀y,(y,NameKind.free)∈sc.names→∃c,cl.lookup y=some c)
  (hfp:∀b∈fp,WY X pins H b∧b<s.heap.objs.size) (hns:h₁.Ns s.heap.objs.size fun _=>none) (hk:∀b o,s.heap.get? b=some o→h₁.get? b=some o):
  Inv (Zn X sc cl s.heap.objs.size (xs++zs) s H fp) [] (ZbX xs.length ix σ) H {s with heap:=h₁,toks:=tk}:=by
 have sub:∀b∈frs X.stack,b∈X.env.locals::X.fs:=I.stkSub;have nfs:∀b∈fp,b∉frs X.stack:=fun b hb z=>by
  obtain⟨⟨_,f1,f2,_⟩,_⟩:=hfp b hb;rcases List.mem_cons.mp (sub b z) with e|e
  ·exact f1 e
  ·exact f2 e
 have cut:∀y,(Zn X sc cl s.heap.objs.size (xs++zs) s H fp).env.kindOf y=some .cell∨(Zn X sc cl s.heap.objs.size (xs++zs) s H fp).env.kindOf y=some .free→∃c,cl.lookup y=some c:=fun y hy=>by
  have q:∃k,(relabel sc X.env).names.lookup y=some k∧(k= .cell∨k= .free):=by
   rcases hy with hy|hy
   ·exact⟨_,hy,.inl rfl⟩
   ·exact⟨_,hy,.inr rfl⟩
  obtain⟨k,e,hk⟩:=q;obtain⟨k',e',q⟩:=Ww e;have:k'= .free:=by
   rcases q with q|⟨q,_⟩
   ·rcases hk with z|z
    ·exact absurd (q.symm.trans z) (S.nocell _ (Wj e'))
    ·exact q.symm.trans z
   ·exact q
  subst this;exact hhas y (Wj e')
 refine⟨⟨I.ok.mod,S.kind,I.ok.glob,I.ok.blt,Nat.le_refl _,fun y z c h1 h2=>I.ok.inj y z c (hcl _ _ h1) (hcl _ _ h2),cut,fun y c hf _=>?_,I.ok.hd,I.ok.frames,.inl rfl,fun b hb=>?_,I.bs,Nat.le_trans I.ok.bsz I.sz,fun b o e hb=>?_,nfs,I.stack,I.stkFree⟩,
  rfl,I.bare,Un.kept hk,⟨_,hns,fun i y v h1 h2 h3=>?_⟩,fun y c h=>?_,I.hok.fresh (Nat.le_refl _),fun y c h=>I.freeC y c (hcl y c h),fun p hp=>absurd (show p∈([]:List (Addr×Obj)) from hp) (by simp),I.hok.kept hk,?_⟩
 ·exact absurd (show false=true from hf) (by decide)
 ·obtain⟨⟨f0,f1,f2,f3,f4,f5⟩,hl⟩:=hfp b hb;exact⟨Nat.ne_of_lt hl,fun y c h=>f4 y c (hcl y c h)⟩
 ·obtain⟨⟨f0,f1,f2,f3,f4,f5⟩,hl⟩:=hfp b hb;rcases f3 with z|z
  ·exact I.ok.noex b o e z
  ·exact absurd (Nat.lt_of_lt_of_le (Heap.lt_size e) (Nat.le_trans I.ok.bsz z)) (Nat.lt_irrefl _)
 ·
  have hlen:xs.length≤i:=by
   rcases Nat.lt_or_ge i xs.length with z|z
   ·have h2':(List.replicate xs.length none++ix.map fun j=>(σ[j]?).join)[i]? =some (some v):=h2;rw[List.getElem?_append_left (by rw[List.length_replicate];exact z),List.getElem?_replicate,if_pos z] at h2';cases h2'
   ·exact z
  ·obtain⟨i,rfl⟩:∃i',i=xs.length+i':=⟨i-xs.length,by omega⟩;have h1':zs[i]? =some y:=by
    have h1':(xs++zs)[xs.length+i]? =some y:=h1;rw[List.getElem?_append_right (Nat.le_add_right _ _),Nat.add_sub_cancel_left] at h1';exact h1'
   have h2':(ix.map fun j=>(σ[j]?).join)[i]? =some (some v):=by
    have h2':(List.replicate xs.length none++ix.map fun j=>(σ[j]?).join)[xs.length+i]? =some (some v):=h2;rw[List.getElem?_append_right (by rw[List.length_replicate];exact Nat.le_add_right _ _),List.length_replicate,Nat.add_sub_cancel_left] at h2';exact h2'
   have ha:(ix.map fun j=>X.N[j]?)[i]? =some (some y):=by rw[S.at_,List.getElem?_map,h1'];rfl
   rw[List.getElem?_map] at h2' ha;cases e:ix[i]? with
   |none=>rw[e] at h2';cases h2'
   |some j=>
    rw[e] at h2' ha;have ha':X.N[j]? =some y:=Option.some.inj ha;have hj:(σ[j]?).join=some v:=Option.some.inj h2';have hσ:σ[j]? =some (some v):=by
     cases q:σ[j]? with
     |none=>rw[q] at hj;cases hj
     |some o=>rw[q] at hj;exact congrArg some hj
    obtain⟨m,hn,hl⟩:=I.loc;have hfr:=S.zfree y (List.mem_of_getElem? h1');have hkind:=S.free _ (Wj hfr) rfl;have hv:Vis X.env.scope y:=by
     rcases hkind with z|z
     ·exact .inr (.inl z)
     ·exact .inr (.inr z)
    obtain⟨u,r,q⟩:=hl j y v ha' hσ hv;refine⟨u,r,?_⟩;rcases q with⟨kl,_⟩|⟨_,c,hc,hcell⟩
    ·have kl':X.env.kindOf y=some .local:=kl;rcases hkind with z|z<;>(rw[z] at kl';cases kl')
    ·obtain⟨c',hc'⟩:=hhas y (Wj hfr);have ec:c'=c:=by have:=hcl y c' hc';rw[hc] at this;exact(Option.some.inj this).symm
     subst ec;refine .inr ⟨?_,c',hc',?_⟩
     ·have hvis:Vis (relabel sc X.env) y:=h3;rcases hvis with z|z|z
      ·obtain⟨k',e',q⟩:=Ww z;rw[hfr] at e';cases e';rcases q with q|⟨_,q⟩<;>cases q
      ·exact .inl z
      ·exact .inr z
     ·obtain⟨o,ho,hd⟩:=hcell;exact⟨o,hk _ _ ho,hd⟩
 ·obtain⟨v,o,ho,hd⟩:=I.cell y c (hcl y c h);exact⟨v,o,hk _ _ ho,hd⟩
 ·show(List.replicate xs.length none++ix.map fun j=>(σ[j]?).join).length=(xs++zs).length;have:=congrArg List.length S.at_;simp only[List.length_map] at this;simp only[List.length_append,List.length_replicate,List.length_map,this]
theorem ZcA{pins:List (Addr×Obj)}{σ:St}{H:Hp}{s:Shared}{sc:Scope}{x:Str}{xs:List Str}{zs:List Str}{ix:List Nat}{cl:List (Str×Addr)}{fp:List Addr}{it:Addr}{tn:Nat→Heap→Prop}{J:It}
  {elt tg iter:Expr} {ifs:List Expr} {pos:Pos} {g:TG} {tc:TT} {te:TE} {Q:VK} {E:Value→Shared→Prop} {RR:Value→Addr→Result→Shared→Prop}
  (hc:X.calm=true) (S:Y6 X sc x zs ix) (I:Inv X pins σ H s) (hcl:∀y c,cl.lookup y=some c→X.env.cells.lookup y=some c) (hhas:∀y,(y,NameKind.free)∈sc.names→∃c,cl.lookup y=some c)
  (T:Za9 X.prog X.w X.K tg J fp it tn) (st:tn 0 s.heap) (hfp:∀b∈fp,WY X pins H b)
  (hin:∀C s H,PG (Zn X sc cl C (xs++zs) s H fp) tg g∧PIf (Zn X sc cl C (xs++zs) s H fp) ifs tc∧PE (Zn X sc cl C (xs++zs) s H fp) elt te)
  (hq:∀p,H p=none→∃W:Nat→Nat→List V→St→Hp→Prop,(∃m,W 0 m [] (ZbX xs.length ix σ) (upd H p (.lst [])))∧∀i m ys σ' H',W i m ys σ' H'→
   (J.stop i H'∧Q (.ref p) H')∨(J.go i H'∧∀x H2,J.yld i H' x H2→g x σ' H2 fun σ2 H3=>tc σ2 H3 fun b H4=>
    if b=true then te σ2 H4 fun v H5=>H5 p=some (.lst ys)∧ys.length<sizeLine∧∃m',m'<m∧W (i+1) m' (ys++ [v]) σ2 (upd H5 p (.lst (ys++ [v])))
    else ∃m',m'<m∧W (i+1) m' ys σ2 H4))
  (hR:∀acc C f s',ZgB X pins σ Q acc C s'→RR acc C (.ok f) s'):
  wpAny (model X.prog X.w) X.A (newList []) (fun acc s₃=>wpAny (model X.prog X.w) X.A (newFunctionEnv sc X.env.globals cl [] X.env.qual none .none (some X.env)) (fun cenv s₄=>
   codeAny (model X.prog X.w) X.A (.compStart (.ListComp elt [⟨tg,iter,ifs,0⟩] sc pos) 0 (.ref it) acc {cenv with scope:=relabel sc X.env}) (RR acc cenv.locals) s₄) E s₃) E s:=by
 refine wpAny_newObj_type (wpAny_newFunctionEnv S.nocell (by intro y hy;simp at hy) (fun h₁ hns₁ hsb₁=>?_) S.kind);have I3:Inv X pins σ (upd H s.heap.objs.size (.lst [])) {s with heap:=s.heap.push {cls:= .type "list",dict:=none,data:= .seq ([]:List Value).toArray}}:=I.lnew (its:=[]) (ys:=[]) (t':=s.toks) .nil (Nat.zero_le _);dsimp only at hns₁ hsb₁⊢;obtain⟨W,⟨m0,w0⟩,turn⟩:=hq s.heap.objs.size (I.hok.fresh (Nat.le_refl _));have lt:∀b∈fp,b<s.heap.objs.size:=fun b hb=>by
  obtain⟨o,e,_⟩:=T.obj 0 s.heap st b hb;exact Heap.lt_size e
 have up:∀b∈fp,∀o,(upd H s.heap.objs.size o) b=H b:=fun b hb o=>Zg (Nat.ne_of_lt (lt b hb));have kp:∀b o,(s.heap.push {cls:= .type "list",dict:=none,data:= .seq ([]:List Value).toArray}).get? b=some o→h₁.get? b=some o:=fun b o e=>
  hsb₁.extBut b o (Nat.ne_of_lt (Heap.lt_size e)) (Heap.get?_push_of_some _ e)
 have f3:∀b∈fp,WY X pins (upd H s.heap.objs.size (.lst [])) b∧b<(s.heap.push {cls:= .type "list",dict:=none,data:= .seq ([]:List Value).toArray}).objs.size:=fun b hb=>by
  obtain⟨q0,q⟩:=hfp b hb;refine⟨⟨(up b hb _).trans q0,q⟩,?_⟩;rw[Heap.size_push];exact Nat.lt_succ_of_lt (lt b hb)
 generalize hS3:({s with heap:=s.heap.push {cls:= .type "list",dict:=none,data:= .seq ([]:List Value).toArray}}:Shared)=s3 at I3;have hH3:s.heap.push {cls:= .type "list",dict:=none,data:= .seq ([]:List Value).toArray}=s3.heap:=by rw[←hS3]
 rw[hH3] at kp f3 hns₁⊢;have st3:tn 0 h₁:=T.keep 0 _ _ st fun b _ o e=>kp b o (by rw[←hH3];exact Heap.get?_push_of_some _ e);have J0:Inv (Zn X sc cl s3.heap.objs.size (xs++zs) s3 (upd H s.heap.objs.size (.lst [])) fp) [] (ZbX xs.length ix σ) (upd H s.heap.objs.size (.lst [])) {s3 with heap:=h₁,toks:=s3.toks}:=
  Zgi S I3 hcl hhas f3 hns₁ kp
 obtain⟨hg,hif,he⟩:=hin s3.heap.objs.size s3 (upd H s.heap.objs.size (.lst []));have fpo:∀{H':Hp},(∀b∈fp,H' b=none)→∀b∈fp,WY (Zn X sc cl s3.heap.objs.size (xs++zs) s3 (upd H s.heap.objs.size (.lst [])) fp) [] H' b:=fun{H'} hn b hb=>
  ⟨hn b hb,(J0.ok.exf b hb).1,J0.ok.exfs b hb,.inl hb,(J0.ok.exf b hb).2,fun p hp=>absurd (show p∈([]:List (Addr×Obj)) from hp) (by simp)⟩
 have loop:∀s4:Shared,s4={s3 with heap:=h₁,toks:=s3.toks}→
   codeAny (model X.prog X.w) X.A (.compLoop (.ListComp elt [⟨tg,iter,ifs,0⟩] sc pos) 0 (.ref it) (.ref s.heap.objs.size) (compEnvC sc cl s3.heap.objs.size X.env)) (RR (.ref s.heap.objs.size) s3.heap.objs.size) s4:=by
  rintro s4 rfl;refine ZbD (fun n s'=>∃i ys σ' H',Inv (Zn X sc cl s3.heap.objs.size (xs++zs) s3 (upd H s.heap.objs.size (.lst [])) fp) [] σ' H' s'∧tn i s'.heap∧(∀b∈fp,H' b=none)∧W i n ys σ' H') ?_ m0
   ⟨0,[],ZbX xs.length ix σ,_,J0,st3,fun b hb=>(f3 b hb).1.1,w0⟩
  rintro n s5 ⟨i,ys,σ5,H5,I5,st5,fr5,w5⟩;rcases turn i n ys σ5 H5 w5 with⟨stop,qn⟩|⟨go,step⟩
  ·refine thn (T.done (Zn X sc cl s3.heap.objs.size (xs++zs) s3 (upd H s.heap.objs.size (.lst [])) fp) rfl rfl rfl hc i [] s5 σ5 H5 _ I5 (fpo fr5) st5 stop) fun r s6 ⟨hr,I6⟩=>?_;subst hr;obtain⟨m6,hm6,_⟩:=I6.loc;refine hR _ _ _ _ ⟨s.heap.objs.size,H5,m6,rfl,hm6,?_,I3.fpOk (Nat.le_refl _) I6.free,qn⟩;exact I3.call' I6.os I6.base I6.hok I6.bare fun b hb=>by
    obtain⟨⟨f0,f1,f2,f3,f4,f5⟩,_⟩:=f3 b hb;exact⟨f3,f1,f4,f5⟩
  ·refine thn (T.item (Zn X sc cl s3.heap.objs.size (xs++zs) s3 (upd H s.heap.objs.size (.lst [])) fp) rfl rfl rfl hc i [] s5 σ5 H5 _ I5 (fpo fr5) st5 go) fun r s6 ⟨u,hr,h6⟩=>?_;subst hr;refine thn h6 fun _ s7 ⟨x7,H7,I7,r7,y7,st7,fr7⟩=>?_;have I7':=I7.pinned (fpo fr7) (T.obj _ _ st7);refine thn (hg _ s7 σ5 H7 x7 u _ I7' r7 (step x7 H7 y7)) fun _ s8 ⟨σ8,H8,I8,q8⟩=>?_;refine thn (hif _ s8 σ8 H8 _ I8 q8) fun b s9 ⟨H9,I9,q9⟩=>?_;have again:∀{ys':List V}{σ':St}{H':Hp}{m':Nat}{s':Shared},Inv (Zn X sc cl s3.heap.objs.size (xs++zs) s3 (upd H s.heap.objs.size (.lst [])) fp) ([]++Za0 fp s7.heap) σ' H' s'→W (i+1) m' ys' σ' H'→m'<n→
     ∃m,m<n∧∃i ys σ' H',Inv (Zn X sc cl s3.heap.objs.size (xs++zs) s3 (upd H s.heap.objs.size (.lst [])) fp) [] σ' H' s'∧tn i s'.heap∧(∀b∈fp,H' b=none)∧W i m ys σ' H':=fun{ys' σ' H' m' s'} Iz wz hm=>by
    refine⟨m',hm,i+1,ys',σ',H',Iz.unpinned,T.keep _ _ _ st7 fun b hb o e=>(Iz.pin (b,o) (List.mem_append_right _ (List.mem_append_right _ (Vb hb e)))).1,fun b hb=>?_,wz⟩;obtain⟨o,e,d⟩:=T.obj _ _ st7 b hb;exact(Iz.pin (b,o) (List.mem_append_right _ (List.mem_append_right _ (Vb hb e)))).2.1
   cases b with
   |false=>
    rw[if_neg Bool.false_ne_true] at q9⊢;obtain⟨m',hm,wz⟩:=q9;exact again I9 wz hm
   |true=>
    rw[if_pos rfl] at q9⊢;refine thn (he _ s9 σ8 H9 _ I9 q9) fun v s10 ⟨y,H10,I10,r10,hl,hz,m',hm,wz⟩=>?_;refine thn (Yg _ s10 σ8 H10 (.ref s.heap.objs.size) [y] (.ref s.heap.objs.size) [v] (fun z H'=>z= .non∧H'=upd H10 s.heap.objs.size (.lst (ys++ [y]))) I10 rfl (.cons r10 .nil) ⟨_,ys,y,rfl,rfl,hl,hz,rfl,rfl⟩) fun _ s11 ⟨z,H11,I11,_,_,e11⟩=>?_;subst e11;exact again I11 wz hm
 exact codeAny_compStart_list (loop _ (by subst hS3;rfl)) (T.self _ 0 _ _ _ st3 (loop _ (by subst hS3;rfl)))
theorem WW{elt tg iter:Expr}{ifs:List Expr}{sc:Scope}{pos:Pos}{x:Str}{xs:List Str}{zs:List Str}{ix:List Nat}{wi:TI}{g:TG}{tc:TT}{te:TE}
  (hc:X.calm=true) (S:Y6 X sc x zs ix) (hi:PI X tg iter wi)
  (hin:∀cl C s H fp,PG (Zn X sc cl C (xs++zs) s H fp) tg g∧PIf (Zn X sc cl C (xs++zs) s H fp) ifs tc∧PE (Zn X sc cl C (xs++zs) s H fp) elt te)
  (hs:∀x,foldedSetIterable iter X.env x=pure x:=by intro _;rfl):
  PE X (.ListComp elt [⟨tg,iter,ifs,0⟩] sc pos) (Zfl xs.length ix wi g tc te):=by
 intro pins s σ H Q I h;obtain⟨cl,hclos,hcl,hhas⟩:=V5 I.ok S;rw[eval_ListComp];refine wpAny_comprehension_free (use:=none) rfl hs hclos S.kind S.names (thn (hi pins s σ H _ I h) fun v s1 h1=>thn h1 fun itv s2 h2=>?_);obtain⟨it,fp,tn,J,H2,e,I2,T,st2,f2,hq⟩:=h2;subst e;refine ZcA (RR:=fun acc C=>compPost (model X.prog X.w) X.A X.xe none (EP X pins σ Q) acc C) hc S I2 hcl hhas T st2 f2 (fun C s H=>hin cl C s H fp) hq fun acc C f s' h=>?_;obtain⟨p,H',m,rfl,hm,I',⟨g0,g1,g2,g3,g4,g5⟩,q⟩:=h;exact⟨m,hm,fun h' hb=>⟨.ref p,H',I'.turned (t':=s'.toks) (fun b o hne e=>(hb.2 b hne).trans e) g0 g1 g3 g4 g5,rfl,q⟩⟩
theorem ZcR{elt tg iter:Expr}{ifs:List Expr}{sc:Scope}{pos py spos:Pos}{x y:Str}{xs:List Str}{zs:List Str}{ix:List Nat}{wi:TI}{g:TG}{tc:TT}{te:TE}{j:Nat}
  (hc:X.calm=true) (S:Y6 X sc x zs ix) (hi:PI X tg iter wi)
  (hin:∀cl C s H fp,PG (Zn X sc cl C (xs++zs) s H fp) tg g∧PIf (Zn X sc cl C (xs++zs) s H fp) ifs tc∧PE (Zn X sc cl C (xs++zs) s H fp) elt te)
  (hN:X.N.Nodup) (hj:X.N[j]? =some y) (hy:Loc X.env.scope y)
  (hsw:swapsWith (.ListComp elt [⟨tg,iter,ifs,0⟩] sc pos) (some (.Name y py)) spos.line X.env=pure true:=by rfl)
  (hf:X.fn y=true∨X.env.scope.names.lookup y=some .local:=by first|exact .inl rfl|exact .inr rfl|assumption)
  (hs:∀x,foldedSetIterable iter X.env x=pure x:=by intro _;rfl):
  PS X (.Assign [.Name y py] (.ListComp elt [⟨tg,iter,ifs,0⟩] sc pos) spos) (ZfI (Zfl xs.length ix wi g tc te) (US j)):=by
 intro pins s σ H D I h;obtain⟨cl,hclos,hcl,hhas⟩:=V5 I.ok S;rw[exec_Assign_Name_used _ _ _ _ hsw];refine wpAny_bind (wpAny_standAt (wpAny_bind ?_));show wpAny _ X.A (do let _←comprehension (.ListComp elt [⟨tg,iter,ifs,0⟩] sc pos) sc X.env _ (newList []) false (eval iter X.env) (some (assign (.Name y py) X.env))) _ _ s;refine wpAny_bind (wpAny_mono (wpAny_comprehension_free (use:=some (assign (.Name y py) X.env)) (Q:=fun _ s'=>SP X pins D .next s') rfl hs hclos S.kind S.names
  (thn (hi pins s σ H _ I h) fun v s1 h1=>thn h1 fun itv s2 h2=>?_)) (fun _ s' hq=>wpAny_pure (wpAny_pure hq)) fun _ _ e=>e)
 obtain⟨it,fp,tn,J,H2,e,I2,T,st2,f2,hq⟩:=h2;subst e;refine ZcA (Q:=fun x H1=>US j x σ H1 D.nx) (RR:=fun acc C=>compPost (model X.prog X.w) X.A X.xe (some (assign (.Name y py) X.env)) (fun _ s'=>SP X pins D .next s') acc C) hc S I2 hcl hhas T st2 f2 (fun C s H=>hin cl C s H fp) hq fun acc C f s' h=>?_;obtain⟨p,H',m,rfl,hm,I',⟨g0,g1,g2,g3,g4,g5⟩,q⟩:=h;show wpAny _ X.A (assign (.Name y py) X.env (.ref p)) _ _ _;refine wpAny_assign_Name (ZbW I' hN hj hy (show ZF (.ref p) (.ref p) from rfl) (fun s'' I'' ⟨c,hsb,hcc⟩=>?_) hf);have hne:C≠c:=by
  rcases hcc with z|z
  ·rw[z];exact g1
  ·exact Ne.symm (g4 _ _ z)
 exact⟨m,hm.sameBut hsb hne,fun h' hb=>⟨_,H',I''.turned (t':=s''.toks) (fun b o hne e=>(hb.2 b hne).trans e) g0 g1 g3 g4 g5,q⟩⟩
end
structure Zad(J:It)(n:Nat)(y:Nat→Hp→V→Hp→Prop)(H:Hp):Prop where
 go:∀H' i,Ze H H'→i<n→J.go i H'
 yld:∀H' i x H2,Ze H H'→i<n→J.yld i H' x H2→y i H' x H2
 stop:∀H',Ze H H'→J.stop n H'
theorem Walks.y{J:It}{n:Nat}{f:Nat→V}{H:Hp}(w:Walks J n f H):Zad J n (fun i H' v H2=>H2=H'∧v=f i) H:=⟨w.go,w.yld,w.stop⟩
theorem VS{K:PySem.W.Frag}{a:Addr}{xs:List V}{H:Hp}(h:SqL K H a xs):Zad (Ite K a) xs.length (fun i H' v H2=>∃t,H' t=none∧v= .ref t∧H2=upd H' t (.tup [.int i,xs.getD i .non])) H:=
 ⟨fun H' i e hi=>⟨xs,xs[i],e.seq h,by simp[hi]⟩,fun H' i x H2 e hi ⟨t,z,ht,hv,h2,hz⟩=>⟨t,ht,hv,by
  have:=hz xs (e.seq h);rw[h2];simp[List.getD,this]⟩,fun H' e=>⟨xs,e.seq h,Nat.le_refl _⟩⟩
theorem YJ{own:Nat}{ix:List Nat}{g:TG}{tc:TT}{te:TE}{Q:Addr→Hp→Prop}{σ:St}{H:Hp}{J:It}{n:Nat}{y:Nat→Hp→V→Hp→Prop}(w:Zad J n y H)(hn:n<sizeLine)(s:Nat→List (Option V))(hs:∀i,(s i).length=own)(c:Nat→Bool)(R:Nat→V→Hp→Prop)
  (mono:∀i v H1 H2,Ze H1 H2→R i v H1→R i v H2)
  (hg:∀i a H' v H2 (Kg:St→Hp→Prop),i<n→Ze H H'→y i H' v H2→a.length=own→(∀H3,Ze H' H3→Kg (s i++ix.map fun j=>(σ[j]?).join) H3)→g v (a++ix.map fun j=>(σ[j]?).join) H2 Kg)
  (hc:∀i H' (Kc:Bool→Hp→Prop),i<n→Ze H H'→(∀H4,Ze H' H4→Kc (c i) H4)→tc (s i++ix.map fun j=>(σ[j]?).join) H' Kc)
  (he:∀p i H' (Kc:VK),i<n→c i=true→H p=none→(∃ys,H' p=some (.lst ys))→Ze H H'→(∀v H5,Ze H' H5→R i v (hid H5 p)→Kc v H5)→te (s i++ix.map fun j=>(σ[j]?).join) H' Kc)
  (q:∀p H' ys,H p=none→Ze H H'→H' p=some (.lst ys)→Paired (fun i v=>R i v (hid H' p)) ((List.range n).filter c) ys→Q p H'):
  ∀p,H p=none→∃W:Nat→Nat→List V→St→Hp→Prop,(∃m,W 0 m [] (ZbX own ix σ) (upd H p (.lst [])))∧∀i m ys σ' H',W i m ys σ' H'→
   (J.stop i H'∧Q p H')∨(J.go i H'∧∀x H2,J.yld i H' x H2→g x σ' H2 fun σ2 H3=>tc σ2 H3 fun b H4=>
    if b=true then te σ2 H4 fun v H5=>H5 p=some (.lst ys)∧ys.length<sizeLine∧∃m',m'<m∧W (i+1) m' (ys++ [v]) σ2 (upd H5 p (.lst (ys++ [v])))
    else ∃m',m'<m∧W (i+1) m' ys σ2 H4):=by
 intro p hp;have hidS:∀{H1 H2:Hp},Ze H1 H2→Ze (hid H1 p) (hid H2 p):=fun{H1 H2} e b o z=>by
  by_cases h:b=p
  ·rw[h,ZcY] at z;cases z
  ·rw[ZaP h] at z⊢;exact e b o z
 have hidU:∀{H1:Hp}{o:HO},Ze (hid H1 p) (hid (upd H1 p o) p):=fun{H1 o} b u z=>by
  by_cases h:b=p
  ·rw[h,ZcY] at z;cases z
  ·rw[ZaP h] at z⊢;rw[Zg h];exact z
 refine⟨fun i m ys σ' H'=>m=n-i∧i≤n∧(∃a,a.length=own∧σ'=a++ix.map fun j=>(σ[j]?).join)∧Ze H H'∧H' p=some (.lst ys)∧Paired (fun i v=>R i v (hid H' p)) ((List.range i).filter c) ys,
  ⟨n,by simp,Nat.zero_le _,⟨List.replicate own none,List.length_replicate,rfl⟩,Zq hp,Zd,.nil⟩,?_⟩
 rintro i m ys σ' H' ⟨rfl,hi,⟨a,ha,rfl⟩,sm,hy,hl⟩
 by_cases hlt:i<n
 ·refine .inr ⟨w.go H' i sm hlt,fun x H2 yl=>?_⟩;have hlen:ys.length≤i:=by
   rw[←Paired.length hl];exact Nat.le_trans (List.length_filter_le _ _) (by simp)
  refine hg i a H' x H2 _ hlt sm (w.yld H' i x H2 sm hlt yl) ha fun H3 s3=>?_;refine hc i H3 _ hlt (sm.trans s3) fun H4 s4=>?_;have sm4:=(sm.trans s3).trans s4;have hy4:=s4 _ _ (s3 _ _ hy);have step:(List.range (i+1)).filter c=(List.range i).filter c++(if c i=true then[i] else[]):=by
   rw[List.range_succ,List.filter_append]
   congr 1
   by_cases h:c i=true<;>simp[h]
  have hl4:Paired (fun i v=>R i v (hid H4 p)) ((List.range i).filter c) ys:=Paired.mapP hl fun _ _ z=>mono _ _ _ _ (hidS (s3.trans s4)) z
  by_cases hci:c i=true
  ·rw[hci,if_pos rfl];refine he p i H4 _ hlt hci hp ⟨ys,hy4⟩ sm4 fun v H5 s5 r5=>⟨s5 _ _ hy4,by omega,n-(i+1),by omega,rfl,hlt,⟨s i,hs i,rfl⟩,(sm4.trans s5).new hp,Zd,?_⟩;rw[step,if_pos hci];exact Paired.snoc (Paired.mapP hl4 fun _ _ z=>mono _ _ _ _ ((hidS s5).trans hidU) z) (mono _ _ _ _ hidU r5)
  ·have hcf:c i=false:=by simpa using hci
   rw[hcf,if_neg Bool.false_ne_true];refine⟨n-(i+1),by omega,rfl,hlt,⟨s i,hs i,rfl⟩,sm4,hy4,?_⟩;rw[step,if_neg hci,List.append_nil];exact hl4
 ·have e:i=n:=by omega
  subst e;exact .inl ⟨w.stop H' sm,q p H' ys hp sm hy hl⟩
theorem Zgw{H:Hp}{p u:Addr}{o:HO}(h:∃ys,H p=some (.lst ys))(hu:H u=none):hid (upd H u o) p u=some o:=by
 have n:u≠p:=fun z=>by
  obtain⟨ys,e⟩:=h;rw[←z,hu] at e;cases e
 rw[ZaP n,Zd]
theorem Zfp{H H':Hp}{p u:Addr}{o:HO}(h:∃ys,H p=some (.lst ys))(hu:H u=none)(hu':H' u=some o):hid H' p u=some o:=by
 have n:u≠p:=fun z=>by
  obtain⟨ys,e⟩:=h;rw[←z,hu] at e;cases e
 rw[ZaP n,hu']
theorem Zfc{H H':Hp}{p b:Addr}{xs:List V}(h:∃ys,H p=some (.lst ys))(s:Ze H H')(e:H' b=some (.tup xs)):hid H' p b=some (.tup xs):=by
 have n:b≠p:=fun z=>by
  obtain⟨ys,e'⟩:=h;rw[z,s _ _ e'] at e;cases e
 rw[ZaP n,e]
theorem UZ{R:Nat→V→Hp→Prop}{H:Hp}{r:Nat→V}(h:∀i v,R i v H→v=r i):∀{is:List Nat}{ys:List V},Paired (fun i v=>R i v H) is ys→ys=is.map r
 |_,_,.nil=>rfl
 |_,_,.cons a t=>by rw[h _ _ a,UZ h t];rfl
theorem VM{J:It}{n:Nat}{y:Nat→Hp→V→Hp→Prop}{H0:Hp}(w:Zad J n y H0){g:TG}{tb:TS}{D:VA}{σ:St}{H:Hp}(Pv:Nat→St→Hp→Prop)(h0:Pv 0 σ H)(hk:∀i σ H,Pv i σ H→Ze H0 H)
  (hs:∀i σ H v H',i<n→Pv i σ H→y i H v H'→g v σ H' fun σ2 H2=>tb {D with nx:=Pv (i+1),ct:=Pv (i+1),bk:=D.nx} σ2 H2) (hd:∀σ H,Pv n σ H→D.nx σ H):
  ∃W:Nat→Nat→St→Hp→Prop,(∃m,W 0 m σ H)∧∀i m σ H,W i m σ H→
   (J.stop i H∧D.nx σ H)∨(J.go i H∧∃N:St→Hp→Prop,(∀σ' H',N σ' H'→∃m',m'<m∧W (i+1) m' σ' H')∧∀x H',J.yld i H x H'→g x σ H' fun σ2 H2=>tb {D with nx:=N,ct:=N,bk:=D.nx} σ2 H2):=by
 refine⟨fun i m σ H=>m=n-i∧i≤n∧Pv i σ H,⟨n,by simp,Nat.zero_le _,h0⟩,?_⟩;rintro i m σ H ⟨rfl,hi,p⟩;have sm:=hk i σ H p
 by_cases hlt:i<n
 ·exact .inr ⟨w.go H i sm hlt,Pv (i+1),fun σ' H' p'=>⟨n-(i+1),by omega,rfl,hlt,p'⟩,fun x H' yl=>hs i σ H x H' hlt p (w.yld H i x H' sm hlt yl)⟩
 ·have e:i=n:=by omega
  subst e;exact .inl ⟨w.stop H sm,hd σ H p⟩
namespace Rd
section
variable {σ:St}{H:Hp}{Q:VK}{D:VA}{K:PySem.W.Frag}
theorem Zll{n:Nat}{ix:List Nat}{wi:TI}{g:TG}{tc:TT}{te:TE}(h:wi σ H fun J H1=>∀p,H1 p=none→
 ∃W:Nat→Nat→List V→St→Hp→Prop,(∃m,W 0 m [] (ZbX n ix σ) (upd H1 p (.lst [])))∧∀i m ys σ' H',W i m ys σ' H'→
  (J.stop i H'∧Q (.ref p) H')∨(J.go i H'∧∀x H2,J.yld i H' x H2→g x σ' H2 fun σ2 H3=>tc σ2 H3 fun b H4=>
   if b=true then te σ2 H4 fun v H5=>H5 p=some (.lst ys)∧ys.length<sizeLine∧∃m',m'<m∧W (i+1) m' (ys++ [v]) σ2 (upd H5 p (.lst (ys++ [v])))
   else ∃m',m'<m∧W (i+1) m' ys σ2 H4)):Zfl n ix wi g tc te σ H Q:=h
theorem Zl0{ts:TA}{R:It→Hp→Prop}(h:ts σ H fun vs H1=>∃a,vs=[.ref a]∧(∃xs,SqL K H1 a xs)∧R (Ite K a) H1):Zj6 K ts σ H R:=h
theorem Zk0{a:Addr}{xs:List V}{G:Addr→Prop}(h:SqL K H a xs)(q:G a):∃a',[V.ref a]=[.ref a']∧(∃xs,SqL K H a' xs)∧G a':=⟨a,rfl,⟨xs,h⟩,q⟩
theorem Znh(h:∀p,H p=none→Q (.ref p) (upd H p (.dK []))):tDNewK σ H Q:=h
theorem Zm0{a:Addr}{kvs:List (Key×V)}{x:Str}(h:H a=some (.dK kvs))(q:Q (.bl (valV kvs (Sum.inr x)).isSome) H):rDIn (.str x) (.ref a) H Q:=⟨a,_,rfl,UM.k (k:=Sum.inr x) h,q⟩
theorem Zmh{a:Addr}{kvs:List (Key×V)}{x:Int}(h:H a=some (.dK kvs))(q:Q (.bl (!(valV kvs (Sum.inl x)).isSome)) H):rDNotIn (.int x) (.ref a) H Q:=⟨a,_,rfl,UM.k (k:=Sum.inl x) h,q⟩
theorem Zl6{a:Addr}{kvs:List (Key×V)}{x:Int}{v:V}(h:H a=some (.dK kvs))(e:valV kvs (Sum.inl x)=some v)(q:Q v H):rIxD (.ref a) (.int x) H Q:=⟨a,v,rfl,by rw[←e];exact UM.k (k:=Sum.inl x) h,q⟩
theorem Zms{a:Addr}{kvs:List (Key×V)}{x:Str}{v:V}{Q:Hp→Prop}(h:H a=some (.dK kvs))(hl:kvs.length<sizeLine)(q:Q (upd H a (.dK (Ya kvs (Sum.inr x) v)))):rSetD (.ref a) (.str x) v H Q:=⟨a,_,rfl,ZdO.k (k:=Sum.inr x) h hl,q⟩
theorem Zma{a:Addr}{kvs:List (Key×V)}{x:Int}{v:V}{Q:Hp→Prop}(h:H a=some (.dK kvs))(hl:kvs.length<sizeLine)(q:Q (upd H a (.dK (Ya kvs (Sum.inl x) v)))):rSetD (.ref a) (.int x) v H Q:=⟨a,_,rfl,ZdO.k (k:=Sum.inl x) h hl,q⟩
theorem ZmC{a:Addr}{kvs:List (Key×V)}(h:H a=some (.dK kvs))(q:Q (.int kvs.length) H):rLenD [.ref a] H Q:=⟨a,kvs,rfl,h,q⟩
theorem Zme{a:Addr}{kvs:List (Key×V)}(h:H a=some (.dK kvs))(q:∀l,H l=none→Q (.ref l) (upd H l (.lst (kvs.map fun kv=>kV kv.1)))):rListD [.ref a] H Q:=⟨a,kvs,rfl,h,q⟩
theorem slT{a:Addr}{xs:List V}{lo hi:Option Int}(h:SqT K H a xs)(hw:¬(HT.sIx xs.length 0 lo=0∧HT.sIx xs.length xs.length hi=xs.length))(q:∀p,H p=none→Q (.ref p) (upd H p (.tup (Vz xs lo hi)))):ZdM K (.ref a) lo hi H Q:= .inr (.inl ⟨a,xs,rfl,h,hw,q⟩)
theorem ZmN{r1 r2 r3:R2}{a b:Addr}{xs ys:List V}(ha:SqT K H a xs)(hb:SqT K H b ys)(h1:xs≠[])(h2:ys≠[])(hl:xs.length+ys.length≤sizeLine)(q:∀p,H p=none→Q (.ref p) (upd H p (.tup (xs++ys)))):
  rOr r1 (rOr r2 (rOr r3 (ZeL K))) (.ref a) (.ref b) H Q:= .inr (.inr (.inr ⟨a,b,xs,ys,rfl,rfl,ha,hb,h1,hl,fun z=>absurd z h2,fun _=>q⟩))
theorem ZmD{to ti te:TE}{tget:V→V→Hp→VK→Prop}{tip:TIp}{tset:ZcP}(h:to σ H fun o H1=>ti σ H1 fun i H2=>tget o i H2 fun x H3=>te σ H3 fun y H4=>tip x y H4 fun z H5=>tset o i z H5 fun H6=>D.nx σ H6):Zj4 to ti te tget tip tset D σ H:=h
theorem ipi{f:Int→Int→Int}{i j:Int}(q:Q (.int (f i j)) H):ipI f (.int i) (.int j) H Q:=⟨i,j,rfl,rfl,q⟩
end
end Rd
section
variable {X:Cx}
theorem Zji:Zjc X (ZdU X.K):=by
 intro pins s σ H o i ov iv Q I ro ri h;obtain⟨p,xs,k,z,rfl,rfl,hq,he,q⟩:=h;cases ro;obtain⟨t,rfl⟩:=ri;obtain⟨its,r,pl,hz⟩:=I.list hq;obtain⟨j,h1,h2,h3,h4,h5⟩:=Zcb he;obtain⟨w,ew,rw'⟩:=r.get h2;have hl:=r.length;have hn:=V1;have fin:EP X pins σ Q w s:=⟨z,H,I,rw',q⟩
 by_cases h0:0≤k
 ·have hj:k.toNat=j:=by
   rw[seqIndex_of h0 h5] at h1;exact Option.some.inj h1
  exact wpAny_getItem_list pl.isList h0 (by omega) (by rw[hj];simpa using ew) fin
 ·have hj:(k+(its.toArray.size:Int)).toNat=j:=by
   rw[seqIndex_neg (by omega) h4] at h1;rw[List.size_toArray,←hl];exact Option.some.inj h1
  exact wpAny_getItem_list_neg pl.isList (by omega) (by rw[List.size_toArray]<;>omega) (by omega) (by rw[hj];simpa using ew) fin
theorem ZbH{K:PySem.W.Frag}(e:X.K=K):Zjc X (ZdU K):=e▸Zji
end
end L2
namespace L2
open PySem PySem.Spec PyProof.Rows
section
variable {X:Cx}{K:PySem.W.Frag}
noncomputable def ZjY (ta:TA):TE:=fun σ H Q=>ta σ H fun vs H1=>∃n:Nat,vs=[.int n]∧n≤2 ^ 24∧∀l,H1 l=none→Q (.ref l) (upd H1 l (.lst ((List.range n).map fun i:Nat=>V.int i)))
theorem ZkM{a:Expr}{ta:TA}{p p1 pos pos1:Pos}(hc:X.calm=true)(hgl:Gl X "list")(hml:X.mg "list" =none)(hg:Gl X "range")(hm:X.mg "range" =none)(ha:PA X [a] ta)
  (hs:starEach [a] X.env=[(false,eval a X.env)]:=by rfl)
  (he:starEach [Expr.Call (.Name "range" p) [a] [] pos] X.env=(false,eval (.Call (.Name "range" p) [a] [] pos) X.env)::starEach [] X.env:=by rfl):
  PE X (.Call (.Name "list" p1) [.Call (.Name "range" p) [a] [] pos] [] pos1) (ZjY ta):=by
 intro pins s σ H Q I h;refine wpAny_Call_Name_kw (Ua I hgl hml boot_list ?_);refine PyProof.Rows.callWith_type1 ?_ he rfl;rw[he];show wpAny _ _ (spliced ((false,eval (.Call (.Name "range" p) [a] [] pos) X.env):: [])) _ _ s;refine Calls.spliced_cons (Call_ (Ua I hg hm boot_range (PyProof.Rows.callWith_type1 (thn (ha pos pins s σ H _ I h) fun us s1 ⟨vs,H1,I1,r1,q1⟩=>?_) hs rfl)));obtain⟨n,e,hn,q⟩:=q1;subst e;obtain⟨u,rfl,t,rfl⟩:=WO r1;refine call_range_1 (Calls.spliced_nil ?_);refine call_list_range (I1.ok.hd hc) (IsRange.new ..) (small_one (by omega) (by omega) (by omega) (by omega)) (n:=n) (by rw[rangeSize_one];split<;>omega) hn fun h' tk acc c' hk hS hacc=>?_;have I2:Inv X pins σ H1 {s1 with heap:=s1.heap.push {cls:= .type "range",data:= .fields #[.int 0 s1.toks,.int n t,.int 1 (s1.toks+1)]},toks:=s1.toks+1+1}:=I1.kept fun b o e=>Heap.get?_push_of_some _ e;have hz:((List.range n).map fun i:Nat=>V.int i).length≤sizeLine:=by
  rw[List.length_map,List.length_range,sizeLine_eq];omega
 refine⟨.ref (s1.heap.push {cls:= .type "range",data:= .fields #[.int 0 s1.toks,.int n t,.int 1 (s1.toks+1)]}).objs.size,_,I2.laid (a:=(s1.heap.push {cls:= .type "range",data:= .fields #[.int 0 s1.toks,.int n t,.int 1 (s1.toks+1)]}).objs.size) (o:= .lst ((List.range n).map fun i:Nat=>V.int i)) (t':=tk) hk (Nat.le_refl _) ⟨hz,acc.toList,c',?_,by simpa using hS⟩,rfl,q _ (I2.hok.fresh (Nat.le_refl _))⟩;refine ZdL (by rw[Array.length_toList,hacc.1,List.length_map,List.length_range]) fun j v u e1 e2=>?_;obtain⟨tj,hj⟩:=hacc.2 j u (by rw[←Array.getElem?_toList];exact e2);have hjn:j<n:=by
  have:=(List.getElem?_eq_some_iff.mp e1).1;simpa using this
 rw[List.getElem?_map,List.getElem?_range hjn] at e1;cases e1;rw[hj];exact⟨tj,by simp⟩
end
namespace Rd
section
variable {σ:St}{H:Hp}{Q:VK}{K:PySem.W.Frag}
theorem Zm5{ta:TA}(h:ta σ H fun vs H1=>∃n:Nat,vs=[.int n]∧n≤2 ^ 24∧∀l,H1 l=none→Q (.ref l) (upd H1 l (.lst ((List.range n).map fun i:Nat=>V.int i)))):ZjY ta σ H Q:=h
theorem Zl9{p:Addr}{xs:List V}{i:Int}{y:V}(h:H p=some (.lst xs))(h0:0≤i)(h1:i<xs.length)(hz:xs.length≤sizeLine)(e:xs[i.toNat]? =some y)(q:Q y (upd H p (.lst (xs.eraseIdx i.toNat)))):rPopAt (.ref p) [.int i] H Q:=
 ⟨p,xs,i,i.toNat,y,rfl,rfl,h,by omega,by have:=sizeLine_eq;omega,PySem.StrLaws.seqIndex_nonneg h0 h1,e,q⟩
end
end Rd
theorem Zjd(ns ms:List Int):PyData.eqv (.list (ns.map PyData.int)) (.list (ms.map PyData.int))=decide (ns=ms):=by
 have h:∀ns ms:List Int,PyData.eqvAll (ns.map PyData.int) (ms.map PyData.int)=decide (ns=ms):=by
  intro ns
  induction ns with
  |nil=>intro ms;cases ms<;>simp[PyData.eqvAll]
  |cons n ns ih=>
   intro ms;cases ms with
   |nil=>simp[PyData.eqvAll]
   |cons m ms=>
    simp only[List.map_cons,PyData.eqvAll,PyData.eqv,ih]
    by_cases e:n=m
    ·subst e;simp
    ·simp[e]
 simp only[PyData.eqv];exact h ns ms
end L2
namespace L2
open PySem PySem.Spec PyProof.Rows
section
variable {X:Cx}
noncomputable def rUpdD:V→List V→Hp→VK→Prop:=fun x vs H Q=>∃a b kvs more,x= .ref a∧vs=[.ref b]∧a≠b∧H a=some (.dK kvs)∧H b=some (.dK more)∧kvs.length+more.length≤sizeLine∧Q .non (upd H a (.dK (Yr kvs more)))
theorem ZkO:MtR X "dict.update" rUpdD:=by
 intro pins s σ H x xs v us Q I rx rs h;obtain⟨a,b,kvs,more,rfl,rfl,ne,ha,hb,hl,q⟩:=h;cases rx;obtain⟨u,rfl,ru⟩:=WO rs;cases ru;obtain⟨z,hd,vs,rel,dd⟩:=Zaq I.hok ha;obtain⟨z2,hd2,rs2,rel2,dd2⟩:=Zaq I.hok hb;refine call_meetsIn PySem.F.slot_dict_update dd.typeIs PySem.F.entry_dict_update (PySem.F.args_dict_update_2 _ _) (meets_dict_update (ZP X.prog X.w) a b ne hd2) ⟨vs,rs2,dd,dd2,by rw[←rel.length,←rel2.length];exact hl,fun h' dd' _ hs=>?_⟩;have hm:=Vu more kvs;have he:∃q,h'.get? a=some q:=let⟨q,_,_,hq,_⟩:=dd';⟨q,hq⟩
 exact⟨.non,_,ZaZ (t':=s.toks) I (by rw[ha];exact True.intro) hs he (Zdn (by omega) hd (rel2.merge rel) dd'),rfl,q⟩
end
end L2
namespace L2
open PySem PySem.Spec PyProof.Rows
section
variable {X:Cx}
end
theorem ZhC{own:Nat}{ix:List Nat}{g:TG}{tc:TT}{Q:Addr→Hp→Prop}{σ:St}{H:Hp}{J:It}{n:Nat}{y:Nat→Hp→V→Hp→Prop}(w:Zad J n y H)(hn:n<sizeLine)(s:Nat→List (Option V))(hs:∀i,(s i).length=own)
  (hg:∀i a H' v H2 (Kg:St→Hp→Prop),i<n→Ze H H'→y i H' v H2→a.length=own→(∀H3,Ze H' H3→Kg (s i++ix.map fun j=>(σ[j]?).join) H3)→g v (a++ix.map fun j=>(σ[j]?).join) H2 Kg)
  (hc:∀i H' (Kc:Bool→Hp→Prop),i<n→Ze H H'→Kc true H'→tc (s i++ix.map fun j=>(σ[j]?).join) H' Kc)
  (q:∀p H' (ia:List Addr),H p=none→Ze H H'→H' p=some (.lst (ia.map V.ref))→ia.length=n→ia.Nodup→(∀x∈ia,H x=none∧x≠p∧H' x=some (.lst []))→Q p H'):
  ∀p,H p=none→∃W:Nat→Nat→List V→St→Hp→Prop,(∃m,W 0 m [] (ZbX own ix σ) (upd H p (.lst [])))∧∀i m ys σ' H',W i m ys σ' H'→
   (J.stop i H'∧Q p H')∨(J.go i H'∧∀x H2,J.yld i H' x H2→g x σ' H2 fun σ2 H3=>tc σ2 H3 fun b H4=>
    if b=true then ZjE tNil σ2 H4 fun v H5=>H5 p=some (.lst ys)∧ys.length<sizeLine∧∃m',m'<m∧W (i+1) m' (ys++ [v]) σ2 (upd H5 p (.lst (ys++ [v])))
    else ∃m',m'<m∧W (i+1) m' ys σ2 H4):=by
 intro p hp;refine⟨fun i m ys σ' H'=>m=n-i∧i≤n∧(∃a,a.length=own∧σ'=a++ix.map fun j=>(σ[j]?).join)∧Ze H H'∧∃ia:List Addr,ys=ia.map V.ref∧H' p=some (.lst (ia.map V.ref))∧ia.length=i∧ia.Nodup∧∀x∈ia,H x=none∧x≠p∧H' x=some (.lst []),
  ⟨n,by simp,Nat.zero_le _,⟨List.replicate own none,List.length_replicate,rfl⟩,Zq hp,[],rfl,Zd,rfl,.nil,by simp⟩,?_⟩
 rintro i m ys σ' H' ⟨rfl,hi,⟨a,ha,rfl⟩,sm,ia,rfl,hy,hil,hnd,hia⟩
 by_cases hlt:i<n
 ·refine .inr ⟨w.go H' i sm hlt,fun x H2 yl=>?_⟩;refine hg i a H' x H2 _ hlt sm (w.yld H' i x H2 sm hlt yl) ha fun H3 s3=>?_;refine hc i H3 _ hlt (sm.trans s3) ?_;rw[if_pos rfl];show(0:Nat)≤sizeLine∧_;refine⟨Nat.zero_le _,fun u hu=>?_⟩;have sm3:=sm.trans s3;have hy3:=s3 _ _ hy;have nup:u≠p:=fun z=>by rw[z,hy3] at hu;cases hu
  have s4:Ze H3 (upd H3 u (.lst [])):=Zq hu;refine⟨s4 _ _ hy3,by rw[List.length_map];omega,n-(i+1),by omega,rfl,hlt,⟨s i,hs i,rfl⟩,(sm3.trans s4).new hp,ia++ [u],by simp,by rw[Zd];simp,by simp[hil],?_,fun x hx=>?_⟩
  ·refine List.nodup_append.mpr ⟨hnd,by simp,fun x hx z hz=>?_⟩;rw[List.mem_singleton.mp hz];intro e;have:=s3 _ _ (hia x hx).2.2;rw[e,hu] at this;cases this
  ·rcases List.mem_append.mp hx with z|z
   ·obtain⟨h1,h2,h3⟩:=hia x z;exact⟨h1,h2,by rw[Zg h2];exact s4 _ _ (s3 _ _ h3)⟩
   ·rw[List.mem_singleton.mp z];refine⟨?_,nup,by rw[Zg nup,Zd]⟩;cases e:H u with
    |none=>rfl
    |some o=>rw[sm3 _ _ e] at hu;cases hu
 ·have e:i=n:=by omega
  subst e;exact .inl ⟨w.stop H' sm,q p H' ia hp sm hy hil hnd hia⟩
namespace Rd
section
variable {H:Hp}{Q:VK}
theorem Zm6{a b:Addr}{kvs more:List (Key×V)}(ne:a≠b)(ha:H a=some (.dK kvs))(hb:H b=some (.dK more))(hl:kvs.length+more.length≤sizeLine)(q:Q .non (upd H a (.dK (Yr kvs more)))):rUpdD (.ref a) [.ref b] H Q:=⟨a,b,kvs,more,rfl,rfl,ne,ha,hb,hl,q⟩
end
end Rd
end L2
namespace L2
open PySem PySem.Spec PyProof.Rows
section
variable {X:Cx}{pins:List (Addr×Obj)}{σ:St}{H:Hp}{s:Shared}
theorem Inv.freeze{a:Addr}{kvs:List (Key×V)}(I:Inv X pins σ H s)(e:Rd H a (.dK kvs)):∃o,s.heap.get? a=some o∧Inv X pins σ (upd H a (.frz o (.dK kvs))) s:=by
 have ok:Z1 X.prog X.w H s.heap a (.dK kvs):=e.ok I.hok;rcases e with e|⟨o,e⟩
 ·obtain⟨_,_,vs,_,dd⟩:=Zaq I.hok e;obtain⟨ep,hat⟩:=dd.dictAt;obtain⟨o,es,ho,_⟩:=id hat;exact⟨o,ho,I.write (x:=a) (e:=a) (o:= .frz o (.dK kvs)) (t':=s.toks) (by rw[e];exact True.intro) (.inl rfl) (fun b u _ q=>q) ⟨o,ho⟩ ⟨ho,ok⟩⟩
 ·have hx:upd H a (.frz o (.dK kvs))=H:=by
   funext b
   by_cases z:b=a
   ·rw[z,Zd,e]
   ·rw[Zg z]
  exact⟨o,(show Z1 X.prog X.w H s.heap a (.frz o (.dK kvs)) from I.hok a _ e).1,by rw[hx];exact I⟩
theorem KV.fwd{kvs:List (Key×V)}{vs:List (Key×Value)}(r:KV kvs vs):∀{j:Nat}{kv:Key×V},kvs[j]? =some kv→∃u,vs[j]? =some (kv.1,u)∧ZF kv.2 u:=by
 unfold KV at r
 induction r with
 |nil=>intro j kv e;simp at e
 | @cons p q ps qs h t ih=>
  intro j kv e;cases j with
  |zero=>
   simp at e;subst e;obtain⟨q1,q2⟩:=q;exact⟨q2,by simp[h.1],h.2⟩
  |succ j=>
   obtain⟨u,h1,h2⟩:=ih (j:=j) (kv:=kv) (by simpa using e);exact⟨u,by simpa using h1,h2⟩
end
noncomputable def Itv (d:Addr) (o:Obj) (kvs:List (Key×V)):It:=
 ⟨fun i H=>H d=some (.frz o (.dK kvs))∧i<kvs.length,fun i H x H'=>H'=H∧∃kv,kvs[i]? =some kv∧x=kv.2,fun i H=>H d=some (.frz o (.dK kvs))∧kvs.length≤i⟩
noncomputable def Itp (d:Addr) (o:Obj) (kvs:List (Key×V)):It:=
 ⟨fun i H=>H d=some (.frz o (.dK kvs))∧i<kvs.length,fun i H x H'=>∃t kv,kvs[i]? =some kv∧H t=none∧x= .ref t∧H'=upd H t (.tup [kV kv.1,kv.2]),fun i H=>H d=some (.frz o (.dK kvs))∧kvs.length≤i⟩
theorem ZdV:entryFor table "dict_itemiterator.__iter__" =some Builtin.«dict_keyiterator.__iter__»:=entryFor_alias (id':="dict_keyiterator.__iter__") (by kernel_rfl) rfl (by decide+kernel) (by kernel_rfl)
theorem ZeC{P:Program}{w:World}{A:Around}{E:Value→Shared→Prop}{s:Shared}{it d:Addr}{i n ep:Nat}{ok ov:Value}{Q:Value→Shared→Prop}(hit:IsItemIter s.heap it d i n ep ok ov)(h:Q (.ref it) s):wpAny (model P w) A (pyIter (.ref it)) Q E s:=by
 have ty:s.TypeIs (.ref it) "dict_itemiterator" :=⟨_,hit,rfl⟩;refine wpAny_pyIter_slot ty PySem.F.slot_dict_itemiterator_iter (wpAny_call_entry PySem.F.slot_dict_itemiterator_iter ty ZdV (show wpAny _ _ (ret (Value.ref it)) _ _ s from wpAny_pure ⟨_,rfl,"dict_itemiterator",_,ty,PySem.F.slot_dict_itemiterator_next.lookup,h⟩) (PySem.F.args_dict_itemiterator_iter_1 _))
section
variable {P:Program}{w:World}{K:PySem.W.Frag}
theorem Ziy{tg:Expr}(d it:Addr)(o:Obj)(kvs:List (Key×V))(vs:List (Key×Value))(ep:Nat)(rel:KV kvs vs)(hd:∀h:Heap,h.get? d=some o→h.DictAt (ZP P w) d vs ep):Za9 P w K tg (Itv d o kvs) [it] it (fun i h=>h.IsValIter it d i vs.length ep) where
 mem:=by simp
 obj:=fun i h st b hb=>by
  have e:b=it:=by simpa using hb
  subst e;obtain⟨o,e,c,dd⟩:=st;exact⟨o,e,fun v z=>by rw[dd] at z;cases z⟩
 keep:=fun i h h' st k=>st.at fun o q=>k it (by simp) o q
 item:=by
  intro X hP hw hK hc i pins s σ H E I hf st hg;subst hP hw hK;obtain⟨he,hi⟩:=hg;have ho:=(show Z1 X.prog X.w H s.heap d (.frz o (.dK kvs)) from I.hok d _ he).1;obtain⟨f0,f1,f2,f3,f4,f5⟩:=hf it (by simp);obtain⟨u,hu,ru⟩:=rel.fwd (List.getElem?_eq_getElem hi);refine wpAny_pyNext_values_item st (hd _ ho) hu fun h' st' sb=>?_;have I1:Inv X pins σ H {s with heap:=h',toks:=s.toks}:=I.turned (t':=s.toks) (fun b q hb e=>(sb.2 b hb).trans e) f0 f1 f3 f4 f5;obtain⟨q,e,c,dd⟩:=id st';exact⟨_,rfl,ZeM (s:={s with heap:=h',toks:=s.toks}) e c dd (by decide) ⟨_,H,I1,ru,⟨rfl,kvs[i],List.getElem?_eq_getElem hi,rfl⟩,st',fun b hb=>(hf b hb).1⟩⟩
 done:=by
  intro X hP hw hK hc i pins s σ H E I hf st hg;subst hP hw hK;obtain⟨he,hi⟩:=hg;have ho:=(show Z1 X.prog X.w H s.heap d (.frz o (.dK kvs)) from I.hok d _ he).1;obtain⟨f0,f1,f2,f3,f4,f5⟩:=hf it (by simp);exact wpAny_pyNext_values_end (I.ok.hd hc) st (hd _ ho) (List.getElem?_eq_none (by rw[←rel.length];exact hi)) fun h' eb=>⟨rfl,I.turned (t':=s.toks) (fun b q hb e=>eb b q hb e) f0 f1 f3 f4 f5⟩
 self:=fun _ _ _ _ _ st h=>wpAny_pyIter_valiter st h
theorem Zhi{elts:List Expr}{k1:Nat}{pos:Pos}(d it:Addr)(o:Obj)(kvs:List (Key×V))(vs:List (Key×Value))(ep:Nat)(rel:KV kvs vs)(hd:∀h:Heap,h.get? d=some o→h.DictAt (ZP P w) d vs ep):
  Za9 P w K (.Tuple elts k1 pos) (Itp d o kvs) [it] it (fun i h=>∃ok ov,IsItemIter h it d i vs.length ep ok ov) where
 mem:=by simp
 obj:=fun i h st b hb=>by
  obtain⟨ok,ov,e⟩:=st;rw[List.mem_singleton.mp hb];exact⟨_,e,fun v z=>by
   have z':Data.fields _=Data.cell v:=z;cases z'⟩
 keep:=fun i h h' st k=>let⟨ok,ov,e⟩:=st;⟨ok,ov,k it (by simp) _ e⟩
 item:=by
  intro X hP hw hK hc i pins s σ H E I hf st hg;subst hP hw hK;obtain⟨he,hi⟩:=hg;obtain⟨ok,ov,hit⟩:=st;have ho:=(show Z1 X.prog X.w H s.heap d (.frz o (.dK kvs)) from I.hok d _ he).1;obtain⟨u,hu,ru⟩:=rel.fwd (List.getElem?_eq_getElem hi);refine wpAny_pyNext_items_item hit (hd _ ho) hu fun key h' hkey hout hT hsz hk=>?_;have hfr:=I.hok.fresh (Nat.le_refl s.heap.objs.size);have hilt:it<s.heap.objs.size:=Heap.lt_size hit;refine⟨_,rfl,wpAny_letOwnedTupleGo_items hout fun h2 he2 hs2=>?_⟩;have hT2:h2.get? s.heap.objs.size=some {cls:= .type "tuple",data:= .seq #[key,u]}:=hs2.extBut _ _ (Nat.ne_of_gt hilt) hT;have I1:Inv X pins σ (upd H s.heap.objs.size (.tup [kV kvs[i].1,kvs[i].2])) {s with heap:=h2,toks:=s.toks}:=
   I.turnedNew (fp:=[it]) (fun b q hb e=>by
    have n1:b≠it:=fun z=>hb (by simp[z]);exact hs2.extBut b q n1 (hk b q n1 e)) hf (Nat.le_refl _) ⟨by show 2≤sizeLine;decide,[key,u],.cons (Zj2 hkey) (.cons ru .nil),_,hT2,rfl,_,rfl⟩
  refine⟨.ref s.heap.objs.size,_,I1,rfl,⟨_,kvs[i],List.getElem?_eq_getElem hi,hfr,rfl,rfl⟩,⟨_,_,he2⟩,fun b hb=>?_⟩;have nb:b≠s.heap.objs.size:=by rw[List.mem_singleton.mp hb];exact Nat.ne_of_lt hilt
  rw[Zg nb];exact(hf b hb).1
 done:=by
  intro X hP hw hK hc i pins s σ H E I hf st hg;subst hP hw hK;obtain⟨he,hi⟩:=hg;obtain⟨ok,ov,hit⟩:=st;have ho:=(show Z1 X.prog X.w H s.heap d (.frz o (.dK kvs)) from I.hok d _ he).1;obtain⟨f0,f1,f2,f3,f4,f5⟩:=hf it (by simp);exact wpAny_pyNext_items_end (I.ok.hd hc) hit (hd _ ho) (List.getElem?_eq_none (by rw[←rel.length];exact hi)) fun h' eb=>⟨rfl,I.turned (t':=s.toks) (fun b q hb e=>eb b q hb e) f0 f1 f3 f4 f5⟩
 self:=fun _ _ _ _ _ st h=>by
  obtain⟨ok,ov,e⟩:=st;exact ZeC e h
end
section
variable {X:Cx}{tg:Expr}
noncomputable def Zj8 (td:TE):TI:=fun σ H R=>td σ H fun x H1=>∃a kvs,x= .ref a∧Rd H1 a (.dK kvs)∧∀o,R (Itv a o kvs) (upd H1 a (.frz o (.dK kvs)))
noncomputable def Zim (td:TE):TI:=fun σ H R=>td σ H fun x H1=>∃a kvs,x= .ref a∧Rd H1 a (.dK kvs)∧∀o,R (Itp a o kvs) (upd H1 a (.frz o (.dK kvs)))
theorem Zkt{d:Expr}{td:TE}{apos cpos:Pos}(hd:PE X d td)(hbase:attributeBase d "values" X.env (eval d X.env)=eval d X.env:=by rfl)(hline:(apos.endLine==cpos.line)=true:=by rfl):
  PI X tg (.Call (.Attribute d "values" apos) [] [] cpos) (Zj8 td):=by
 intro pins s σ H R I h;refine wpAny_Call_method0_late hbase hline (thn (hd pins s σ H _ I h) fun v s1 ⟨x,H1,I1,r1,q1⟩=>?_);obtain⟨a,kvs,rfl,hr,q⟩:=q1;cases r1;obtain⟨z,hsm,vs,rel,dd⟩:=Zap I1.hok hr;obtain⟨ep,hat⟩:=dd.dictAt;obtain⟨o,ho,I2⟩:=I1.freeze hr;have keepd:∀h:Heap,h.get? a=some o→h.DictAt (ZP X.prog X.w) a vs ep:=fun h e=>hat.at' fun o' e'=>by rw[ho] at e';cases e';exact e
 refine⟨"dict","dict.values",PySem.F.plainAttrs_dict,PySem.F.slot_dict_values,PySem.F.type_dict_values,dd.typeIs,dd.mapOf.noDict,Calls.callWith_builtin rfl (PySem.evalArgs_none ?_)⟩;refine call_meetsIn PySem.F.slot_dict_values dd.typeIs PySem.F.entry_dict_values (PySem.F.args_dict_values_1 _) (meets_dict_values (ZP X.prog X.w) a hsm) ⟨⟨vs,dd⟩,?_⟩;refine wpAny_pyIter_values (knd:=ZP X.prog X.w) (d:=a) (kvs:=vs) (ep:=ep) ⟨_,Heap.get?_push_size _ rfl,rfl,rfl⟩ (keepd _ (Heap.get?_push_of_some _ ho)) ?_;have I3:Inv X pins σ (upd H1 a (.frz o (.dK kvs))) {s1 with heap:=s1.heap.push {cls:= .type "dict_values",data:= .fields #[.ref a]}}:=I2.kept (t':=s1.toks) fun b o e=>Heap.get?_push_of_some _ e;refine⟨(s1.heap.push {cls:= .type "dict_values",data:= .fields #[.ref a]}).objs.size,[(s1.heap.push {cls:= .type "dict_values",data:= .fields #[.ref a]}).objs.size],_,_,_,rfl,I3.kept (t':=s1.toks) fun b o e=>Heap.get?_push_of_some _ e,Ziy a _ o kvs vs ep rel keepd,⟨_,Heap.get?_push_size _ rfl,rfl,rfl⟩,fun b hb=>?_,q o⟩;rw[List.mem_singleton.mp hb];exact I3.fpOk (Nat.le_refl _) (I3.hok.fresh (Nat.le_refl _))
theorem Zff{elts:List Expr}{k1:Nat}{tpos:Pos}{d:Expr}{td:TE}{apos cpos:Pos}(hd:PE X d td)(hbase:attributeBase d "items" X.env (eval d X.env)=eval d X.env:=by rfl)(hline:(apos.endLine==cpos.line)=true:=by rfl):
  PI X (.Tuple elts k1 tpos) (.Call (.Attribute d "items" apos) [] [] cpos) (Zim td):=by
 intro pins s σ H R I h;refine wpAny_Call_method0_late hbase hline (thn (hd pins s σ H _ I h) fun v s1 ⟨x,H1,I1,r1,q1⟩=>?_);obtain⟨a,kvs,rfl,hr,q⟩:=q1;cases r1;obtain⟨z,hsm,vs,rel,dd⟩:=Zap I1.hok hr;obtain⟨ep,hat⟩:=dd.dictAt;obtain⟨o,ho,I2⟩:=I1.freeze hr;have keepd:∀h:Heap,h.get? a=some o→h.DictAt (ZP X.prog X.w) a vs ep:=fun h e=>hat.at' fun o' e'=>by rw[ho] at e';cases e';exact e
 refine⟨"dict","dict.items",PySem.F.plainAttrs_dict,PySem.F.slot_dict_items,PySem.F.type_dict_items,dd.typeIs,dd.mapOf.noDict,Calls.callWith_builtin rfl (PySem.evalArgs_none ?_)⟩;refine call_meetsIn PySem.F.slot_dict_items dd.typeIs PySem.F.entry_dict_items (PySem.F.args_dict_items_1 _) (meets_dict_items (ZP X.prog X.w) a hsm) ⟨⟨vs,dd⟩,?_⟩;refine wpAny_pyIter_items (knd:=ZP X.prog X.w) (d:=a) (kvs:=vs) (ep:=ep) ⟨_,Heap.get?_push_size _ rfl,rfl,rfl⟩ (keepd _ (Heap.get?_push_of_some _ ho)) ?_;have I3:Inv X pins σ (upd H1 a (.frz o (.dK kvs))) {s1 with heap:=s1.heap.push {cls:= .type "dict_items",data:= .fields #[.ref a]}}:=I2.kept (t':=s1.toks) fun b o e=>Heap.get?_push_of_some _ e;refine⟨(s1.heap.push {cls:= .type "dict_items",data:= .fields #[.ref a]}).objs.size,[(s1.heap.push {cls:= .type "dict_items",data:= .fields #[.ref a]}).objs.size],_,_,_,rfl,I3.kept (t':=s1.toks) fun b o e=>Heap.get?_push_of_some _ e,Zhi a _ o kvs vs ep rel keepd,⟨_,_,Heap.get?_push_size _ rfl⟩,fun b hb=>?_,q o⟩;rw[List.mem_singleton.mp hb];exact I3.fpOk (Nat.le_refl _) (I3.hok.fresh (Nat.le_refl _))
end
namespace Rd
section
variable {σ:St}{H:Hp}{Q:VK}
theorem Zmi{td:TE}{R:It→Hp→Prop}(h:td σ H fun x H1=>∃a kvs,x= .ref a∧L2.Rd H1 a (.dK kvs)∧∀o,R (Itv a o kvs) (upd H1 a (.frz o (.dK kvs)))):Zj8 td σ H R:=h
theorem ZhT{td:TE}{R:It→Hp→Prop}(h:td σ H fun x H1=>∃a kvs,x= .ref a∧L2.Rd H1 a (.dK kvs)∧∀o,R (Itp a o kvs) (upd H1 a (.frz o (.dK kvs)))):Zim td σ H R:=h
end
end Rd
theorem ZhK{d:Addr}{o:Obj}{kvs:List (Key×V)}{H:Hp}(h:H d=some (.frz o (.dK kvs))):Zad (Itv d o kvs) kvs.length (fun i H' v H2=>H2=H'∧∃kv,kvs[i]? =some kv∧v=kv.2) H:=
 ⟨fun H' i s hi=>⟨s _ _ h,hi⟩,fun _ _ _ _ _ _ y=>y,fun H' s=>⟨s _ _ h,Nat.le_refl _⟩⟩
theorem Zcx{d:Addr}{o:Obj}{kvs:List (Key×V)}{H:Hp}(h:H d=some (.frz o (.dK kvs))):Zad (Itp d o kvs) kvs.length (fun i H' v H2=>∃t kv,kvs[i]? =some kv∧H' t=none∧v= .ref t∧H2=upd H' t (.tup [kV kv.1,kv.2])) H:=
 ⟨fun H' i s hi=>⟨s _ _ h,hi⟩,fun _ _ _ _ _ _ y=>y,fun H' s=>⟨s _ _ h,Nat.le_refl _⟩⟩
end L2
namespace L2
open PySem PySem.Spec PyProof.Rows
section
variable {X:Cx}
end
namespace Rd
end Rd
end L2
namespace L2
open PySem PySem.Spec PyProof.Rows
section
variable {X:Cx}{K:PySem.W.Frag}
end
namespace Rd
section
variable {K:PySem.W.Frag}{σ:St}{H:Hp}{Q:VK}
end
end Rd
end L2
namespace L2
open PySem PySem.Spec PyProof.Rows
section
variable {X:Cx}
end
namespace Rd
section
variable {K:PySem.W.Frag}{σ:St}{H:Hp}
end
end Rd
end L2
namespace L2
open PySem PySem.Spec PyProof.Rows
section
variable {X:Cx}{K:PySem.W.Frag}
noncomputable def rIndexB:V→List V→Hp→VK→Prop:=fun x vs H Q=>∃(l:Addr)(bs:List Bool)(j:Nat),x= .ref l∧vs=[.bl true]∧H l=some (.lst (bs.map V.bl))∧bs[j]? =some true∧(∀m<j,bs[m]? =some false)∧Q (.int j) H
theorem Zid:MtM X "list.index" rIndexB:=by
 intro pins s σ H x vs v us Q I rx rv h;obtain⟨l,bs,j,rfl,rfl,hH,hj,hno,q⟩:=h;cases rx;obtain⟨u,rfl,ru⟩:=WO rv;obtain rfl:u=Value.bool true:=ru;obtain⟨z,its,n,r,hl,e⟩:=I.lstM hH;have ev:=Zbq (s:=s) r;have hjl:=(List.getElem?_eq_some_iff.mp hj).1;have hz:its.toArray.size=bs.length:=by rw[ev];simp
 have at_:∀(m:Nat)(hm:m<its.toArray.size),its.toArray[m]=Value.bool (bs[m]'(by omega)):=fun m hm=>by
  subst ev;simp
 have hn:=V1;refine call_meets F.slot_list_index ⟨_,e,rfl⟩ F.entry_list_index (F.args_list_index_2 _ _) (PySem.SeqAt.list_indexAt l its.toArray n _ _ (.bool true) (fun y=>y==Value.bool true) j (by omega) (by rw[List.length_map] at z;omega) ?_ ?_) ⟨e,fun y hy=>?_,?_⟩
 ·rw[at_ j (by omega)];have:=(List.getElem?_eq_some_iff.mp hj).2;rw[this]
  rfl
 ·intro m hm hmj;rw[at_ m hm];have:=(List.getElem?_eq_some_iff.mp (hno m hmj)).2;rw[this]
  rfl
 ·subst ev;obtain⟨b,_,rfl⟩:=List.mem_map.mp (List.mem_toArray.mp hy);have he:(Value.bool b==Value.bool true)=(b==true):=by cases b<;>rfl
  rw[he];exact PySem.SeqAt.EqAt.bool_bool b true
 ·exact⟨.int j,H,I.tok _,⟨_,rfl⟩,q⟩
end
namespace Rd
theorem ZlL{H:Hp}{Q:VK}{l:Addr}{bs:List Bool}{j:Nat}(h:H l=some (.lst (bs.map V.bl)))(hj:bs[j]? =some true)(hn:∀m<j,bs[m]? =some false)(q:Q (.int j) H):rIndexB (.ref l) [.bl true] H Q:=⟨l,bs,j,rfl,rfl,h,hj,hn,q⟩
end Rd
end L2
namespace L2
open PySem PySem.Spec PyProof.Rows
section
variable {X:Cx}{K:PySem.W.Frag}
noncomputable def Zgr (K:PySem.W.Frag):V→List V→Hp→VK→Prop:=fun x vs H Q=>∃(l:Addr)(ns:List Int)(k:Int),x= .ref l∧vs=[.int k]∧SqL K H l (ns.map V.int)∧Q (.int (ns.count k:Nat)) H
theorem Zeb(ek:X.K=K):MtM X "list.count" (Zgr K):=by
 subst ek;intro pins s σ H x vs v us Q I rx rv h;obtain⟨l,ns,k,rfl,rfl,hH,q⟩:=h;cases rx;obtain⟨u,rfl,t,rfl⟩:=WO rv;obtain⟨its,r,pl,hz⟩:=I.list hH;exact count_list_ints pl.isList (Zbd r) ⟨.int _,H,I.tok _,⟨_,rfl⟩,q⟩
section
variable {prog:Program}{w:World}{A:Around}{E:Value→Shared→Prop}{s:Shared}{I l:Addr}{items:Array Value}
end
end
namespace Rd
theorem ZhY{H:Hp}{K:PySem.W.Frag}{Q:VK}{l:Addr}{ns:List Int}{k:Int}(h:SqL K H l (ns.map V.int))(q:Q (.int (ns.count k:Nat)) H):Zgr K (.ref l) [.int k] H Q:=⟨l,ns,k,rfl,rfl,h,q⟩
end Rd
end L2
namespace L2
open PySem PySem.Spec PyProof.Rows
section
variable {X:Cx}
noncomputable def rInsert:V→List V→Hp→VK→Prop:=fun x vs H Q=>∃l xs i y,x= .ref l∧vs=[.int i,y]∧H l=some (.lst xs)∧xs.length<sizeLine∧0≤i∧i≤xs.length∧Q .non (upd H l (.lst (xs.take i.toNat++y::xs.drop i.toNat)))
theorem ZiM:MtM X "list.insert" rInsert:=by
 intro pins s σ H x vs v us Q I rx rv h;obtain⟨l,xs,i,y,rfl,rfl,hH,hz,i0,i1,q⟩:=h;cases rx;cases rv with
 |cons r1 rr=>
  obtain⟨u,rfl,ru⟩:=WO rr;obtain⟨t,rfl⟩:=r1;obtain⟨z,its,n,r,hl,e⟩:=I.lstM hH;have hn:=V1;refine call_meets F.slot_list_insert ⟨_,e,rfl⟩ F.entry_list_insert (F.args_list_insert_3 _ _ _) (PySem.AutoSeq1.list_insert_list_int_val_1 l its.toArray n i t u (by rw[fitsIndex_both (by omega) (by omega)];decide) (by rw[List.size_toArray];omega)) ⟨e,?_⟩;refine⟨.non,_,I.lset (its':=its.take i.toNat++u::its.drop i.toNat) hH e ?_ ((r.take i.toNat).append (.cons ru (r.drop i.toNat))) ?_,rfl,q⟩
  ·have hk:(if i<0 then(i+(its.toArray.size:Int)).toNat else min i.toNat its.toArray.size)=i.toNat:=by
    rw[if_neg (by omega),List.size_toArray];omega
   show(its.toArray.extract 0 (if i<0 then(i+(its.toArray.size:Int)).toNat else min i.toNat its.toArray.size)).push u++its.toArray.extract (if i<0 then(i+(its.toArray.size:Int)).toNat else min i.toNat its.toArray.size)=_;rw[hk];exact PySem.W.kl_ins_eq its i.toNat u
  ·simp only[List.length_append,List.length_cons,List.length_take,List.length_drop];omega
end
namespace Rd
theorem ins{H:Hp}{Q:VK}{p:Addr}{xs:List V}{i:Int}{y:V}(h:H p=some (.lst xs))(hl:xs.length<sizeLine)(h0:0≤i)(h1:i≤xs.length)(q:Q .non (upd H p (.lst (xs.take i.toNat++y::xs.drop i.toNat)))):rInsert (.ref p) [.int i,y] H Q:=⟨p,xs,i,y,rfl,rfl,h,hl,h0,h1,q⟩
end Rd
end L2
namespace L2
open PySem PySem.Spec PySem.W PyProof.Rows Builtin Builtin.ObjectAttr Builtin.Getset_descriptor
section
variable {prog:Program}{w:World}{A:Around}{E:Value→Shared→Prop}{s:Shared}{K:Frag}{x C:Addr}
end
section
variable {X:Cx}
end
end L2
namespace L2
open PySem PySem.Spec PyProof.Rows
section
variable {X:Cx}{pins:List (Addr×Obj)}{σ:List (Option V)}{H:Hp}{s:Shared}
end
section
variable {X:Cx}
end
end L2
namespace L2
open PySem PySem.Spec PyProof.Rows
namespace Rd
section
variable {σ:St}{H:Hp}{Q:VK}{K:PySem.W.Frag}
end
end Rd
end L2
namespace L2
open PySem PySem.Spec PyProof.Rows
section
variable {X:Cx}
end
end L2
namespace HT
open PySem PyProof.Rows
section
open PySem.SeqAt
open PySem.MeetsSeq PySem.MeetsSeq2 PySem.MeetsSeq3
variable {prog:Program}{w:World}{A:Around}{E:Value→Shared→Prop}{s:Shared}
end
end HT
namespace L2
section
variable {X:Cx}{K:PySem.W.Frag}
open PySem PySem.Spec PyProof.Rows
end
namespace Rd
open PySem PySem.Spec PyProof.Rows
end Rd
end L2
namespace L2
open PySem PySem.Spec PyProof.Rows
section
def Uh(p:Array Nat):Prop:=p.toList.Pairwise (· < ·)
theorem Uh.lt{p:Array Nat}(h:Uh p){i j:Nat}(hij:i<j)(hj:j<p.size):p[i]'(Nat.lt_trans hij hj)<p[j]:=by
 have:=List.pairwise_iff_getElem.mp h i j (by simpa using Nat.lt_trans hij hj) (by simpa using hj) hij;simpa using this
theorem Zc1{p:Array Nat}{j:Nat}(hr:Uh p):∀(f lo hi:Nat),lo≤hi→hi≤p.size→hi-lo≤f→(∀i (h:i<p.size),i<lo→p[i]<j)→(∀i (h:i<p.size),hi≤i→j≤p[i])→
  SetTable.below.go p j f lo hi≤p.size∧(∀i (h:i<p.size),i<SetTable.below.go p j f lo hi→p[i]<j)∧∀i (h:i<p.size),SetTable.below.go p j f lo hi≤i→j≤p[i]
 |0,lo,hi,h1,h2,h3,h4,h5=>by
  have e:lo=hi:=by omega
  subst e;exact⟨h2,h4,h5⟩
 |f+1,lo,hi,h1,h2,h3,h4,h5=>by
  unfold SetTable.below.go
  by_cases hl:lo<hi
  ·rw[if_pos hl];have hm:(lo+hi) / 2<p.size:=by omega
   have eg:p.getD ((lo+hi) / 2) j=p[(lo+hi) / 2]:=by simp[Array.getD,hm]
   dsimp only;rw[eg]
   by_cases hc:p[(lo+hi) / 2]<j
   ·rw[if_pos hc];refine Zc1 hr f _ _ (by omega) h2 (by omega) (fun i h hi'=>?_) h5;rcases Nat.lt_or_ge i ((lo+hi) / 2) with z|z
    ·exact Nat.lt_trans (hr.lt z hm) hc
    ·have:i=(lo+hi) / 2:=by omega
     subst this;exact hc
   ·rw[if_neg hc];refine Zc1 hr f _ _ (by omega) (by omega) (by omega) h4 fun i h hi'=>?_;rcases Nat.lt_or_ge ((lo+hi) / 2) i with z|z
    ·have:=hr.lt z h;omega
    ·have:i=(lo+hi) / 2:=by omega
     subst this;omega
  ·rw[if_neg hl];have e:lo=hi:=by omega
   subst e;exact⟨h2,h4,h5⟩
theorem ZcM{p:Array Nat}(hr:Uh p)(j:Nat):SetTable.below p j≤p.size∧(∀i (h:i<p.size),i<SetTable.below p j→p[i]<j)∧∀i (h:i<p.size),SetTable.below p j≤i→j≤p[i]:=
 Zc1 hr p.size 0 p.size (Nat.zero_le _) (Nat.le_refl _) (Nat.le_refl _) (fun _ _ h=>absurd h (Nat.not_lt_zero _)) fun i h z=>absurd h (Nat.not_lt.mpr z)
theorem Zg7{p:Array Nat}(hr:Uh p){i:Nat}(hi:i<p.size):SetTable.below p (p[i]+1)=i+1:=by
 obtain⟨h1,h2,h3⟩:=ZcM hr (p[i]+1);rcases Nat.lt_trichotomy (SetTable.below p (p[i]+1)) (i+1) with z|z|z
 ·have:=h3 i hi (by omega);omega
 ·exact z
 ·have hl:i+1<p.size:=by omega
  have:=h2 (i+1) hl z;have:=hr.lt (i:=i) (j:=i+1) (Nat.lt_succ_self i) hl;omega
theorem Zg6{p:Array Nat}(hr:Uh p):SetTable.below p 0=0:=by
 obtain⟨h1,h2,h3⟩:=ZcM hr 0;rcases Nat.eq_zero_or_pos (SetTable.below p 0) with z|z
 ·exact z
 ·have:=h2 0 (by omega) z;omega
theorem Uh.insert{p:Array Nat}(hr:Uh p){j:Nat}(hn:p[SetTable.below p j]? ≠some j):Uh (SetTable.insertAt p (SetTable.below p j) j):=by
 obtain⟨h1,h2,h3⟩:=ZcM hr j;unfold Uh;rw[SetTable.toList_insertAt];generalize SetTable.below p j=b at*;refine List.pairwise_append.mpr ⟨hr.sublist (List.take_sublist _ _),List.pairwise_cons.mpr ⟨fun y hy=>?_,hr.sublist (List.drop_sublist _ _)⟩,fun x hx y hy=>?_⟩
 ·obtain⟨k,hk,rfl⟩:=List.mem_iff_getElem.mp hy;rw[List.getElem_drop];rw[List.length_drop,Array.length_toList] at hk;have hb:b<p.size:=by omega
  have hb':j<p[b]:=Nat.lt_of_le_of_ne (h3 b hb (Nat.le_refl _)) fun e=>hn (by rw[Array.getElem?_eq_getElem hb,e]);rcases Nat.eq_zero_or_pos k with rfl|hk0
  ·simpa using hb'
  ·have:=hr.lt (i:=b) (j:=b+k) (by omega) (by omega);simpa using Nat.lt_trans hb' this
 ·have hx':x<j:=by
   obtain⟨k,hk,rfl⟩:=List.mem_iff_getElem.mp hx;rw[List.length_take,Array.length_toList] at hk;rw[List.getElem_take];simpa using h2 k (by omega) (by omega)
  rcases List.mem_cons.mp hy with rfl|hy
  ·exact hx'
  ·obtain⟨k,hk,rfl⟩:=List.mem_iff_getElem.mp hy;rw[List.length_drop,Array.length_toList] at hk;rw[List.getElem_drop];have:=h3 (b+k) (by omega) (by omega);have h4:x<p[b+k]:=Nat.lt_of_lt_of_le hx' this;simpa using h4
theorem ZhJ(n:Nat):Uh (Array.range n):=by
 unfold Uh;rw[Array.toList_range];exact List.pairwise_lt_range
structure Z9(led:Bool)(t:SetTable):Prop where
 rise:Uh t.place
 dum:t.dummies=#[]
 led:t.led=led
variable {led:Bool}{t:SetTable}
theorem Z9.fresh:Z9 led (.fresh 0 0 led):=⟨List.Pairwise.nil,rfl,rfl⟩
theorem Z9.standIn(g:Z9 led t)(n:Nat):Z9 led (t.standIn n):=⟨ZhJ n,rfl,g.led⟩
theorem Z9.orStandIn(g:Z9 led t)(n:Nat):Z9 led (t.orStandIn n):=by
 unfold SetTable.orStandIn
 split
 ·exact g
 ·exact g.standIn n
theorem Z9.noDummy(g:Z9 led t)(j:Nat):SetTable.has t.dummies j=false:=by
 rw[g.dum];simp[SetTable.has]
theorem Z9.slot_empty(g:Z9 led t){j:Nat}(h:t.slot j= .empty):t.place[SetTable.below t.place j]? ≠some j:=by
 intro e;unfold SetTable.slot at h;dsimp only at h;rw[e] at h;simp at h
theorem Zdf(g:Z9 led t){ha:Nat→Int}{h:Int}:∀(f:Nat)(p:SetTable.Probe)(j:Nat)(d:Option Nat),p.dummy=none→SetTable.probe.go t ha h f p=some (.empty j d)→d=none∧t.slot j= .empty
 |0,p,j,d,hp,e=>by cases e
 |f+1,p,j,d,hp,e=>by
  have adv:∀q:SetTable.Probe,(t.advance q).dummy=q.dummy:=fun q=>by
   unfold SetTable.advance
   split<;>rfl
  unfold SetTable.probe.go at e;cases hs:t.slot p.j with
  |empty=>rw[hs] at e;cases e;exact⟨hp,hs⟩
  |dummy=>
   exfalso;unfold SetTable.slot at hs;dsimp only at hs;rw[g.noDummy] at hs
   split at hs<;>simp at hs
  |live i=>
   rw[hs] at e;dsimp only at e
   split at e
   ·cases e
   ·exact Zdf g f _ j d (by rw[adv,hp]) e
theorem Z9.put(g:Z9 led t){j:Nat}(h:t.slot j= .empty):Z9 led (t.put j).1:=by
 refine⟨g.rise.insert (g.slot_empty h),?_,g.led⟩;show(if SetTable.has t.dummies j then _ else t.dummies)=#[];rw[g.noDummy];exact g.dum
theorem Z9.layNew(g:Z9 led t)(es:Array (Int×Value))(h:Int)(x:Value):Z9 led (layNew t es h x).2.1:=by
 unfold PySem.layNew
 split
 ·rename_i slot was e;dsimp only;refine Z9.orStandIn (g.put ?_) _;unfold SetTable.freeSlot at e
  split at e
  ·rename_i j d e2;obtain⟨rfl,hs⟩:=Zdf g _ _ j d rfl e2;cases e;exact hs
  ·cases e
 ·exact g.standIn _
theorem Z9.laid{mask finger moves:Nat}{pl:Bool}{hs:Array Int}{r:SetTable×Array Nat}(e:SetTable.laid mask finger moves led pl hs=some r):Z9 led r.1:=by
 unfold SetTable.laid at e;cases ho:SetTable.layClean mask hs with
 |none=>rw[ho] at e;cases e
 |some owner=>
  rw[ho] at e;cases e;refine⟨?_,rfl,rfl⟩;show List.Pairwise _ _;simp only[List.toList_toArray];rw[List.pairwise_map];refine List.Pairwise.filterMap _ (R:=(· < ·)) (fun a b hab c hc d hd=>?_) List.pairwise_lt_range;cases e1:owner.getD a none with
  |none=>rw[e1] at hc;cases hc
  |some x=>
   cases e2:owner.getD b none with
   |none=>rw[e2] at hd;cases hd
   |some y=>rw[e1] at hc;rw[e2] at hd;cases hc;cases hd;exact hab
theorem Z9.relayAll(g:Z9 led t)(es:Array (Int×Value))(n:Nat):Z9 led (relayAll t es n).2.1:=by
 unfold PySem.relayAll
 split
 ·rename_i t' order e;dsimp only
  split
  ·unfold SetTable.relaid at e;rw[g.led] at e;exact Z9.laid e
  ·exact g.standIn _
 ·exact g.standIn _
end
end L2
namespace L2
open PySem PySem.Spec PyProof.Rows
section
noncomputable def keyI:Int×Value→Int
 |(_,.int n _)=>n
 |_=>0
def U8(led:Bool)(ks:List Int)(o:Obj):Prop:=o.ExactSet∧∃es ep t,o.data= .set es ep t∧(∀e∈es.toList,∃n tk,e=(hashInt n,Value.int n tk))∧es.size<scanBound∧t.fits es.size=true∧Z9 led t∧(es.toList.map keyI).Perm ks
variable {prog:Program}{w:World}{A:Around}{E:Value→Shared→Prop}{s:Shared}{led:Bool}
theorem Zb0{l:List (Int×Value)}(h:∀e∈l,∃n tk,e=(hashInt n,Value.int n tk)):ElemsOf (intKind prog w) l:=fun e he=>by
 obtain⟨n,tk,rfl⟩:=h e he;exact⟨⟨n,intKind_is _ _ _ _,rfl⟩,rfl⟩
theorem ZcU{l:List (Int×Value)}(h:∀e∈l,∃n tk,e=(hashInt n,Value.int n tk)){n:Int}:(∃e∈l,(intKind prog w).is n e.2=true)↔n∈l.map keyI:=by
 constructor
 ·rintro⟨e,he,hi⟩;obtain⟨m,tk,rfl⟩:=h e he;have:n=m:=(intKind prog w).inj _ n m hi (intKind_is _ _ _ _);subst this;exact List.mem_map.mpr ⟨_,he,rfl⟩
 ·intro hm;obtain⟨e,he,hk⟩:=List.mem_map.mp hm;obtain⟨m,tk,rfl⟩:=h e he;cases hk;exact⟨_,he,intKind_is _ _ _ _⟩
theorem ZeQ{g:Bool→Sem Unit}(hg:∀(b:Bool)(s1:Shared)(Q1:Unit→Shared→Prop),Q1 () s1→wpAny (model prog w) A (g b) Q1 E s1){a:Addr}{o:Obj}{es:Array (Int×Value)}{ep:Nat}{t:SetTable}{ks:List Int}{es1:Array (Int×Value)}{t2:SetTable}{was:Bool}{R:Option Bool→Shared→Prop}
  (ho:s.heap.get? a=some o) (hex:o.ExactSet) (hd:o.data= .set es ep t) (el1:∀e∈es1.toList,∃n tk,e=(hashInt n,Value.int n tk)) (k1:(es1.toList.map keyI).Perm ks) (hb1:es1.size<scanBound) (f2:t2.fits es1.size=true) (g2:Z9 led t2)
  (q:∀h' o',Heap.SameBut a s.heap h'→h'.get? a=some o'→U8 led ks o'→R (some true) {s with heap:=h'}):
  wpAny (model prog w) A (storeSet a es1 t2 >>= fun _=>if(!was&&t2.tooFull)=true then g (relayAll t2 es1 (SetTable.grown es1.size)).2.2 >>= fun _=>storeSet a (relayAll t2 es1 (SetTable.grown es1.size)).1 (relayAll t2 es1 (SetTable.grown es1.size)).2.1 >>= fun _=>pure (some true) else pure (some true)) R E s:=by
 refine wpAny_bind (wpAny_storeSet_of ho hd ?_ (fits_of_scanBound hb1));have sb:=Heap.SameBut.update s.heap a (Obj.putSet es1 t2);obtain⟨ho1,_⟩:=SetOf_store (knd:=intKind prog w) (S':=fun k=>decide (k∈ks)) ho hex hd (Zb0 el1) (fun k=>by rw[ZcU el1,k1.mem_iff];simp) hb1 f2
 split
 ·have p3:=relayAll_perm t2 es1 (SetTable.grown es1.size);have f3:=relayAll_fits t2 es1 (SetTable.grown es1.size);have g3:=g2.relayAll es1 (SetTable.grown es1.size);generalize relayAll t2 es1 (SetTable.grown es1.size)=R at p3 f3 g3⊢;obtain⟨es2,t3,gave2⟩:=R;dsimp only at p3 f3 g3⊢;have z3:es2.size=es1.size:=by have:=p3.length_eq;simpa using this
  have hb3:es2.size<scanBound:=by rw[z3];exact hb1
  have el3:∀e∈es2.toList,∃n tk,e=(hashInt n,Value.int n tk):=fun e he=>el1 e (p3.mem_iff.mp he);have k3:(es2.toList.map keyI).Perm ks:=(p3.map keyI).trans k1;refine wpAny_bind (hg _ _ _ ?_);refine wpAny_bind (wpAny_storeSet_of ho1 rfl ?_ (fits_of_scanBound hb3));obtain⟨ho3,_⟩:=SetOf_store (knd:=intKind prog w) (S':=fun k=>decide (k∈ks)) ho1 hex rfl (Zb0 el3) (fun k=>by rw[ZcU el3,k3.mem_iff];simp) hb3 f3;exact wpAny_pure (q _ _ (sb.trans (Heap.SameBut.update _ a _)) ho3 ⟨hex,es2,_,t3,rfl,el3,hb3,f3,g3,k3⟩)
 ·exact wpAny_pure (q _ _ sb ho1 ⟨hex,es1,_,t2,rfl,el1,hb1,f2,g2,k1⟩)
theorem Zi1{a:Addr}{o:Obj}{ks:List Int}{n:Int}{tk:Tok}{Q:Bool→Shared→Prop}(ho:s.heap.get? a=some o)(hS:U8 led ks o)(hroom:ks.length+1<scanBound)
  (q:∀h' o',Heap.SameBut a s.heap h'→h'.get? a=some o'→U8 led (step_dedup ks n) o'→∀b,Q b {s with heap:=h'}):wpAny (model prog w) A (setAddHashed a (.int n tk) (hashInt n)) Q E s:=by
 obtain⟨hex,es,ep,t,hd,hel,hb,hf,hg,hp⟩:=hS;have hE:ElemsOf (intKind prog w) es.toList:=Zb0 hel;have hln:es.size=ks.length:=by have:=hp.length_eq;simpa using this
 have hmem:(∃e∈es.toList,(intKind prog w).is n e.2=true)↔n∈ks:=(ZcU hel).trans hp.mem_iff;unfold setAddHashed setAddHashedIn;refine wpAny_holding (wpAny_bind (wpAny_setState_of ho hd hf ?_));dsimp only;rw[byScan_of (x:= .int n tk) rfl hb hE,if_pos rfl];refine wpAny_bind ?_;unfold setAddByScan;refine wpAny_bind (wpAny_rule (wpAny_bind (wpAny_setScan_of (knd:=intKind prog w) (k:=n) (intKind_is _ _ _ _) ho hd hf hE ?_)));cases hr:es.toList.findIdx? (fun e=>(intKind prog w).is n e.2) with
 |some j=>
  dsimp only;obtain⟨hj,hpj,_⟩:=List.findIdx?_eq_some_iff_getElem.mp hr;have hin:n∈ks:=hmem.mp ⟨_,List.getElem_mem hj,hpj⟩;have e:step_dedup ks n=ks:=by
   unfold step_dedup;rw[if_pos (by simpa using hin)]
  refine wpAny_pure (wpAny_pure ?_);exact q s.heap o (Heap.SameBut.refl a s.heap) ho (by rw[e];exact⟨hex,es,ep,t,hd,hel,hb,hf,hg,hp⟩) false
 |none=>
  dsimp only;have hnot:n∉ks:=fun z=>by
   obtain⟨e,he,hi⟩:=hmem.mpr z;have:=List.findIdx?_eq_none_iff.mp hr e he;rw[hi] at this;cases this
  have e:step_dedup ks n=ks++ [n]:=by
   unfold step_dedup;rw[if_neg (by simpa using hnot)]
  have p1:=layNew_perm t es (hashInt n) (.int n tk);have f1:=layNew_fits t es (hashInt n) (.int n tk);have g1:=hg.layNew es (hashInt n) (.int n tk);generalize layNew t es (hashInt n) (Value.int n tk)=L at p1 f1 g1⊢;obtain⟨es1,t1,was,gave⟩:=L;dsimp only at p1 f1 g1⊢;rw[Array.toList_push] at p1;have el1:∀e∈es1.toList,∃n tk,e=(hashInt n,Value.int n tk):=fun e he=>by
   rcases List.mem_append.mp (p1.mem_iff.mp he) with z|z
   ·exact hel e z
   ·exact⟨n,tk,List.mem_singleton.mp z⟩
  have k1:(es1.toList.map keyI).Perm (ks++ [n]):=(p1.map keyI).trans (by rw[List.map_append];exact hp.append_right _);have z1:es1.size=ks.length+1:=by have:=k1.length_eq;simpa using this
  have hb1:es1.size<scanBound:=by omega
  have pay:∀(b:Bool)(s1:Shared)(Q1:Unit→Shared→Prop),Q1 () s1→wpAny (model prog w) A (match b with|true=>rule "set.scan.the-table-gave-way" |false=>pure ()) Q1 E s1:=fun b s1 Q1 h1=>by
   cases b
   ·exact wpAny_pure h1
   ·exact wpAny_rule h1
  refine wpAny_bind (pay _ _ _ ?_);have fin:∀h' o',Heap.SameBut a s.heap h'→h'.get? a=some o'→U8 led (ks++ [n]) o'→wpAny (model prog w) A (pure true) Q E {s with heap:=h'}:=fun h' o' x y z=>wpAny_pure (q h' o' x y (by rw[e];exact z) true)
  split
  ·refine wpAny_bind ?_;rw[hashByValue_scannable 8 (x:= .int n tk) rfl];refine wpAny_pure (ZeQ (g:=_) ?_ ho hex hd el1 k1 hb1 f1 g1 fin);exact pay
  ·refine wpAny_bind (wpAny_pure (ZeQ (g:=_) ?_ ho hex hd el1 k1 hb1 f1 g1 fin));exact pay
end
end L2
namespace L2
open PySem PySem.Spec PyProof.Rows
section
variable {prog:Program}{w:World}{A:Around}{led:Bool}
theorem Ziw(val:Nat→Int)(i:Nat):(firstMet val i).length≤i:=firstMet_length_le val i
theorem Zi2{R:Result→Shared→Prop}{I S:Addr}{fp wr:List Addr}{G:Array GenState→Array GenState→Prop}{n:Nat}{P:Nat→Value→Prop}{St:Nat→Shared→Prop}(W:WalksS prog w A.in1 I fp wr G n P St)(hSf:S∉fp)(val:Nat→Int)(hval:∀i v,P i v→∃t,v= .int (val i) t)(hb:n+1<scanBound):
  ∀(k i:Nat)(s:Shared)(o:Obj),n-i=k→i≤n→St i s→s.heap.get? S=some o→U8 led (firstMet val i) o→
   (∀s' o',Moved (S::wr) G s s'→s'.heap.get? S=some o'→U8 led (firstMet val n) o'→R (.ok (.ret .none)) s')→codeAny (model prog w) A (.builtin "set.update.loop" ⟨[.ref S,.ref I],[]⟩) R s:=by
 have hSw:S∉wr:=fun z=>hSf (W.sub _ z);have up:∀b∈wr,b∈S::wr:=fun b z=>List.mem_cons_of_mem _ z;intro k
 induction k with
 |zero=>
  intro i s o hk hi st hS sS q;obtain rfl:i=n:=by omega
  refine codeAny_builtin F.entry_set_update_loop ?_;rw[Around.under_plainId F.plain_set_update_loop];refine wpAny_bind (W.done s _ _ st fun s1 mv=>?_);exact wpAny_pure (q s1 o (mv.mono up) (mv.heap S o hSw hS) sS)
 |succ k ih=>
  intro i s o hk hi st hS sS q;have hlt:i<n:=by omega
  refine codeAny_builtin F.entry_set_update_loop ?_;rw[Around.under_plainId F.plain_set_update_loop];refine wpAny_bind (W.item i s _ _ hlt st fun v s1 hP st1 mv=>?_);obtain⟨t,rfl⟩:=hval i v hP;have hS1:=mv.heap S o hSw hS;refine wpAny_bind (wpAny_holding ?_);unfold setAdd;refine wpAny_holding (wpAny_bind ((intKind prog w).pyHash (k:=val i) (intKind_is _ _ _ _) ?_));have hr:(firstMet val i).length+1<scanBound:=by have:=Ziw val i;omega
  refine Zi1 (s:={s1 with toks:=s1.toks+1}) hS1 sS hr fun h2 o2 sb h2o s2 b=>?_;rw[←firstMet_succ] at s2;refine wpAny_pure ⟨plainId_quiet F.plain_set_update_loop _,ih (i+1) _ o2 (by omega) hlt (W.frame _ s1 _ _ st1 (Nat.le_succ _) fun c hc o3 e3=>?_) h2o s2 fun s3 o3 mv3 h3 g3=>?_⟩
  ·rw[sb.2 c fun z=>hSf (z▸hc)];exact e3
  ·refine q s3 o3 (Moved.trans W.gtrans ((mv.mono up).then_heap (Nat.le_succ _) fun c o4 hc e4=>?_) mv3) h3 g3;rw[sb.2 c fun z=>hc (z▸List.mem_cons_self)];exact e4
theorem ZjR{E:Value→Shared→Prop}{s:Shared}(a:Value){Q:Value→Shared→Prop}
  (h:Q (.ref s.heap.objs.size) {s with heap:=s.heap.push {cls:= .type "set",dict:=none,data:= .set #[] 0 (.fresh 0 0 (!w.params.followText "set-order"))}}):
  codeAny (model prog w) A (.call (.builtin "set.__new__") ⟨[.type "set",a],[]⟩) (wants Q E) s:=by
 refine codeAny_of_tree ?_;refine wpAny_bind (wpAny_of_eq (F.newCall_set_1 a) (wpAny_pure ⟨plainId_quiet F.plain_set_new _,codeAny_builtin F.entry_set_new ?_⟩));rw[Around.under_plainId F.plain_set_new _];unfold Builtin.«set.__new__» Builtin.Frozenset.newClass;have hsub:=sub_set_self;obtain⟨hp,g,d,tk,os⟩:=s;dsimp only
 wp_walk
 refine wpAny_askSetting (wpAny_pure ?_);dsimp only;simp only[newObj];exact wpAny_bind (wpAny_alloc (wpAny_pure (wpAny_pure h)))
end
end L2
namespace L2
open PySem PySem.Spec PyProof.Rows
section
variable {prog:Program}{w:World}{A:Around}
theorem Zja{E:Value→Shared→Prop}{s:Shared}{l:Addr}{items:Array Value}{ns:List Int}{Q:Value→Shared→Prop}(hh:A.handled=none)(hl:s.heap.IsList l items)(hi:IntsAre items.toList ns)(hb:items.size+1<scanBound)
  (q:∀(h':Heap)(tk:Nat)(o:Obj),h'.get? s.heap.objs.size=some o→U8 (!w.params.followText "set-order") (firstMet (fun i=>ns.getD i 0) items.size) o→
   (∀b o,b<s.heap.objs.size→s.heap.get? b=some o→h'.get? b=some o)→Q (.ref s.heap.objs.size) {s with heap:=h',toks:=tk}):
  wpAny (model prog w) A (call (.type "set") [.ref l]) Q E s:=by
 obtain⟨c,tl,hmro⟩:=F.called_set.mro;have hmade:=F.called_set.made;have hsub:=F.called_set.sub;refine wpAny_call (codeAny_of_tree ?_);refine wpAny_pure ⟨Code.quiet_builtin _ (by decide+kernel),codeAny_builtin F.entry_type_call ?_⟩;rw[Around.under_plain (weight_type_call_type "set" [.ref l] []) rfl];have c1:=F.called_set.notType;have c2:=F.called_set.canCreate;have c3:=F.typeCall_set_1 (.ref l)
 repeat (any_goals (first|assumption|wp_step))
 clear c2 c3;refine codeAny_mono (ZjR (.ref l) (E:=E) (Q:=fun v s1=>v= .ref s.heap.objs.size∧s1={s with heap:=s.heap.push {cls:= .type "set",dict:=none,data:= .set #[] 0 (.fresh 0 0 (!w.params.followText "set-order"))}}) ⟨rfl,rfl⟩) fun r s1 hr=>?_;rcases r with e|fl
 ·exact hr
 cases fl with
 |ret v=>
  obtain⟨rfl,rfl⟩:=hr;generalize hN:({cls:= .type "set",dict:=none,data:= .set #[] 0 (.fresh 0 0 (!w.params.followText "set-order"))}:Obj)=N;have hNc:N.cls= .type "set" :=by rw[←hN]
  have hNs:U8 (!w.params.followText "set-order") [] N:=by
   rw[←hN];exact⟨⟨rfl,rfl,rfl⟩,#[],0,_,rfl,by simp,by decide,by rfl,Z9.fresh,by simp⟩
  have hS:(s.heap.push N).get? s.heap.objs.size=some N:=Heap.get?_push_size _ (by rw[←hN];rfl);have hT:Shared.TypeIs {s with heap:=s.heap.push N} (.ref s.heap.objs.size) "set" :=⟨_,hS,hNc⟩;have li:=F.called_set.init.lookup;have bi:=F.called_set.init.bind (.ref s.heap.objs.size)
  repeat (any_goals (first|assumption|wp_step))
  refine codeAny_mono (codeAny_call_builtin (R:=wants (fun r s2=>r= .none∧∃h' tk o,s2={s with heap:=h',toks:=tk}∧h'.get? s.heap.objs.size=some o∧U8 (!w.params.followText "set-order") (firstMet (fun i=>ns.getD i 0) items.size) o∧(∀b o,b<s.heap.objs.size→s.heap.get? b=some o→h'.get? b=some o)) E) F.called_set.init.plain F.entry_set_init (check_set_init_1 hT ?_)) fun r s2 hr=>?_
  ·have hl1:(s.heap.push N).IsList l items:=hl.push _;obtain⟨ol,hol,hcl,nl,hdl⟩:=hl;obtain⟨ocls,odict,odata,oslots⟩:=ol;simp only at hcl hdl;subst hcl hdl;have hol1:(s.heap.push N).get? l=some {cls:= .type "list",dict:=odict,data:= .seq items nl,slots:=oslots}:=Heap.get?_push_of_some _ hol;have x1:=F.sub_list_set;have x2:=F.sub_list_frozenset;have x3:(Value.type "list" ==Value.type "dict")=false:=by decide
   have hS':=hS;rw[←hN] at hS hT hol1⊢;unfold Builtin.«set.__init__» noKeywords Builtin.Frozenset.updateFrom;generalize hPI:pyIter=PI
   wp_walk
   subst hPI;rw[hN] at hol1 hS hT⊢;refine wpAny_pyIter_list hl1 ?_;refine wpAny_bind (wpAny_runValue ?_);have hlS:l<s.heap.objs.size:=Heap.lt_size hol;have hh3:A.in1.in1.in1.handled=none:=by simp[hh]
   have ne1:l≠(s.heap.push N).objs.size:=by
    rw[Heap.size_push];exact Nat.ne_of_lt (Nat.lt_succ_of_lt hlS)
   have nf:s.heap.objs.size∉[(s.heap.push N).objs.size,l]:=by
    rw[Heap.size_push];simp only[List.mem_cons,List.not_mem_nil,or_false,not_or];exact⟨Nat.ne_of_lt (Nat.lt_succ_self _),Nat.ne_of_gt hlS⟩
   refine Zi2 ((Walks.list hh3 _ l ne1 items).toS) nf (fun i=>ns.getD i 0) (fun i v hv=>IntsAre.int_at hi i v (by rw[Array.getElem?_toList];exact hv)) hb (items.size-0) 0 _ N (by omega) (Nat.zero_le _) ⟨⟨_,Heap.get?_push_size _ rfl,rfl,rfl⟩,hl1.push _⟩ (Heap.get?_push_of_some _ hS) hNs fun s3 o3 mv h3 g3=>?_;obtain⟨h',g',d',tk',os'⟩:=s3;obtain rfl:g'=s.gens:=mv.gens;obtain rfl:d'=s.drawn:=mv.drawn;obtain rfl:os'=s.os:=mv.os;show wpAny _ _ _ _ _ _;refine wpAny_pure ?_;show wpAny _ _ (ret Value.none) _ _ _;refine wpAny_pure ⟨rfl,h',tk',o3,rfl,h3,g3,fun b o hb' e=>mv.heap b o ?_ (Heap.get?_push_of_some _ (Heap.get?_push_of_some _ e))⟩;rw[Heap.size_push];simp only[List.mem_cons,List.not_mem_nil,or_false,not_or];exact⟨Nat.ne_of_lt hb',Nat.ne_of_lt (Nat.lt_succ_of_lt hb')⟩
  ·rcases r with e|fl
   ·exact hr
   cases fl with
   |ret v=>
    obtain⟨rfl,h',tk,o,rfl,h1,h2,h3⟩:=hr
    repeat (any_goals (first|assumption|wp_step))
    exact q _ _ _ h1 h2 h3
   |_=>exact hr.elim
 |_=>exact hr.elim
end
end L2
namespace L2
open PySem PySem.Spec PyProof.Rows
section
theorem W1:Slot "set_iterator" "__next__" "set_iterator.__next__" := .of (owner:="set_iterator") (n:="__next__") (by rw[typeLookup_type,builtinLookup_eq_fast];kernel_rfl) (by decide+kernel) (by decide+kernel) (by decide+kernel) (by first|exact .inl (by decide+kernel)|exact .inr (by decide+kernel)) (by rw[isSubtype_type];kernel_rfl)
theorem ZbN:Slot "set_iterator" "__iter__" "set_iterator.__iter__" := .of (owner:="set_iterator") (n:="__iter__") (by rw[typeLookup_type,builtinLookup_eq_fast];kernel_rfl) (by decide+kernel) (by decide+kernel) (by decide+kernel) (by first|exact .inl (by decide+kernel)|exact .inr (by decide+kernel)) (by rw[isSubtype_type];kernel_rfl)
theorem ZeD:entryFor table "set_iterator.__next__" =some Builtin.«set_iterator.__next__»:=entryFor_of_tree (by kernel_rfl)
theorem ZeH:entryFor table "set_iterator.__iter__" =some Builtin.«dict_keyiterator.__iter__»:=entryFor_alias (id':="dict_keyiterator.__iter__") (by kernel_rfl) rfl (by decide+kernel) (by kernel_rfl)
theorem ZdK:entryFor table "set.__iter__" =some Builtin.«frozenset.__iter__»:=entryFor_alias (id':="frozenset.__iter__") (by kernel_rfl) rfl (by decide+kernel) (by kernel_rfl)
theorem ZfC:Manifest.owners.lookup (String.ofList "set_iterator".toList.reverse.reverse)=some Manifest.sig_set_iterator:=by kernel_rfl
theorem ZeT(a:Value):argsOk "set_iterator.__next__" ⟨[a],[]⟩:=by
 unfold argsOk;rw[signature?_of (id:="set_iterator.__next__") (n:=['_','_','t','x','e','n','_','_']) (o:="set_iterator".toList.reverse) (by kernel_rfl) ZfC]
 kernel_rfl
theorem Zfv(a:Value):argsOk "set_iterator.__iter__" ⟨[a],[]⟩:=by
 unfold argsOk;rw[signature?_of (id:="set_iterator.__iter__") (n:=['_','_','r','e','t','i','_','_']) (o:="set_iterator".toList.reverse) (by kernel_rfl) ZfC]
 kernel_rfl
noncomputable def UQ (first:Value) (i:Nat) (a:Addr) (n ep:Nat):Obj:={cls:= .type "set_iterator",dict:=none,data:= .fields #[first,.int i 0,.ref a,.int n 0,.int ep 0],slots:=#[]}
variable {prog:Program}{w:World}{A:Around}{E:Value→Shared→Prop}{s:Shared}
theorem Zhl{src:Source}{n:Nat}{Q:Nat→Shared→Prop}(hn:n≠0)(h:∀i d,i<n→Q i {s with drawn:=d}):wpAny (model prog w) A (choose src n) Q E s:=
 fun _ _ _=>⟨hn,h _ _ (Nat.mod_lt _ (Nat.pos_of_ne_zero hn))⟩
theorem ZcV{α:Type}:∀{l:List α}{i:Nat}(h:i<l.length),(l[i]::l.eraseIdx i).Perm l
 |x::l,0,_=>by simp
 |x::l,i+1,h=>by
  rw[List.getElem_cons_succ,List.eraseIdx_cons_succ];exact(List.Perm.swap _ _ _).trans ((ZcV (by simpa using h)).cons x)
theorem ZeV{α:Type}:∀(xs:List α)(s:Shared)(Q:List α→Shared→Prop),(∀ys d,ys.Perm xs→Q ys {s with drawn:=d})→wpAny (model prog w) A (drawOrder xs.length xs) Q E s
 | [],s,Q,h=>wpAny_pure (h [] s.drawn .rfl)
 |x::xs,s,Q,h=>by
  show wpAny _ _ (choose .order (x::xs).length >>= _) _ _ _;refine wpAny_bind (Zhl (by simp) fun i d hi=>?_);rw[List.getElem?_eq_getElem hi];have hp:=ZcV (l:=x::xs) hi;generalize (x::xs)[i]=y at hp⊢;have hlen:xs.length=((x::xs).eraseIdx i).length:=by rw[List.length_eraseIdx_of_lt hi];rfl
  show wpAny _ _ (drawOrder xs.length ((x::xs).eraseIdx i) >>= _) _ _ _;generalize (x::xs).eraseIdx i=zs at hp hlen⊢;rw[hlen];refine wpAny_bind (ZeV zs _ _ fun ys d2 hy=>?_);exact wpAny_pure (h (y::ys) d2 ((hy.cons y).trans hp))
 termination_by xs=>xs.length
 decreasing_by simp_wf;omega
theorem Zee{α:Type}(next:Nat→Nat):∀(f k:Nat)(l:List α)(out:Array α),f=l.length→(pickOrder.go next f k l out).toList.Perm (out.toList++l)
 |0,k,l,out,e=>by
  obtain rfl:l=[]:=List.eq_nil_of_length_eq_zero e.symm;simp[pickOrder.go]
 |f+1,k,l,out,e=>by
  have hi:next k % l.length<l.length:=Nat.mod_lt _ (by omega);unfold pickOrder.go;rw[List.getElem?_eq_getElem hi];refine(Zee next f (k+1) _ _ (by rw[List.length_eraseIdx_of_lt hi];omega)).trans ?_;rw[Array.toList_push,List.append_assoc];exact(ZcV hi).append_left _
theorem Ul{α:Type}(next:Nat→Nat)(xs:Array α):(pickOrder next xs).toList.Perm xs.toList:=by
 have:=Zee next xs.size 0 xs.toList #[] (by simp);simpa[pickOrder] using this
theorem ZgE{A':Around}{it:Addr}{Q:Option Value→Shared→Prop}(hh:A.handled=none){h1:Heap}(hb:Heap.SameBut it s.heap h1)(q:∀h',Heap.ExtBut it s.heap h'→Q none {s with heap:=h'}):
  wpAny (model prog w) A (newExc (.type "StopIteration") [] >>= fun e=>(raiseNew e:Sem Fin)) (fun _ _=>False) (fun e s'=>wpAny (model prog w) A' (isInstance e (.type "StopIteration") >>= fun b=>if b=true then pure none else throw e) Q E s') {s with heap:=h1}:=by
 refine wpAny_bind ?_;simp only[newExc,newTuple];refine wpAny_bind (wpAny_newObj_type ?_ (by size_fits));refine wpAny_bind (m:=firstArgMember _ _) (wpAny_of_eq (a:=Value.none) (by first|rfl|(simp only[firstArgMember];rfl)) ?_);refine wpAny_newObj_type ?_ (by size_fits);simp only[raiseNew];refine wpAny_bind (wpAny_handled ?_);rw[hh];refine wpAny_bind (wpAny_pure (wpAny_throw ?_));exact wpAny_bind (wpAny_isInstance (T:="StopIteration") (b:=true) ⟨_,Heap.get?_push_size _ rfl,rfl⟩ isSubtype_stop (wpAny_pure (q _ ((hb.extBut.push _).push _))))
variable {it a:Addr}{o:Obj}{es:Array (Int×Value)}{ep i:Nat}{t:SetTable}{Q:Option Value→Shared→Prop}
theorem ZeP{first:Value}(hit:s.heap.get? it=some (UQ first i a es.size ep))(h:wpAny (model prog w) A.in1 (Builtin.«set_iterator.__next__» ⟨[.ref it],[]⟩) (fun fin s'=>∃x,fin= .done (.ret x)∧Q (some x) s') (fun e s'=>wpAny (model prog w) A (isInstance e (.type "StopIteration") >>= fun b=>if b=true then pure none else throw e) Q E s') s):wpAny (model prog w) A (pyNext (.ref it)) Q E s:=by
 have hT:s.TypeIs (.ref it) "set_iterator" :=⟨_,hit,rfl⟩;unfold pyNext;refine wpAny_bind (wpAny_attempt (wpAny_callSpecial?_slot (name:=Str.ofString "__next__") hT W1 (wpAny_call_entry W1 hT ZeD ?_ (ZeT _))));refine wpAny_mono h (fun fin s' z=>?_) fun e s' z=>?_
 ·obtain⟨x,rfl,q⟩:=z;exact⟨x,rfl,wpAny_pure q⟩
 ·exact z
theorem Zgv{sl nx:Nat}{v:Value}(hit:s.heap.get? it=some (UQ (.int sl 0) i a es.size ep))(ho:s.heap.get? a=some o)(hd:o.data= .set es ep t)(hf:t.fits es.size=true)
  (hx:∀{A:Around}{E:Value→Shared→Prop}(Q:Option (Value×Nat)→Shared→Prop),Q (some (v,nx)) s→wpAny (model prog w) A (setNext a sl i ep) Q E s)
  (q:∀h',h'.get? it=some (UQ (.int nx 0) (i+1) a es.size ep)→Heap.SameBut it s.heap h'→Q (some v) {s with heap:=h'}):wpAny (model prog w) A (pyNext (.ref it)) Q E s:=by
 refine ZeP hit ?_;unfold Builtin.«set_iterator.__next__»;refine wpAny_bind (m:=slotArgs _ _ _) (wpAny_pure (wpAny_bind (wpAny_fieldsOf hit rfl ?_)));show wpAny _ _ (setEntries a >>= _) _ _ _;refine wpAny_bind (wpAny_setEntries_of ho hd hf ?_);rw[if_neg (by simp)];show wpAny _ _ (setNext a _ _ _ >>= _) _ _ _;simp only[Int.toNat_natCast];refine wpAny_bind (hx _ ?_);refine wpAny_bind (wpAny_setField_rec hit (by simp) fun h1 e1 b1=>?_);refine wpAny_bind (wpAny_setField_rec (s:={s with heap:=h1}) e1 (by simp) fun h2 e2 b2=>?_);exact wpAny_pure ⟨v,rfl,q h2 e2 (b1.trans b2)⟩
theorem ZhP{sl:Nat}(hh:A.handled=none)(hit:s.heap.get? it=some (UQ (.int sl 0) i a es.size ep))(ho:s.heap.get? a=some o)(hd:o.data= .set es ep t)(hf:t.fits es.size=true)
  (hx:∀{A:Around}{E:Value→Shared→Prop}(Q:Option (Value×Nat)→Shared→Prop),Q none s→wpAny (model prog w) A (setNext a sl i ep) Q E s)
  (q:∀h',Heap.ExtBut it s.heap h'→Q none {s with heap:=h'}):wpAny (model prog w) A (pyNext (.ref it)) Q E s:=by
 refine ZeP hit ?_;unfold Builtin.«set_iterator.__next__»;refine wpAny_bind (m:=slotArgs _ _ _) (wpAny_pure (wpAny_bind (wpAny_fieldsOf hit rfl ?_)));show wpAny _ _ (setEntries a >>= _) _ _ _;refine wpAny_bind (wpAny_setEntries_of ho hd hf ?_);rw[if_neg (by simp)];show wpAny _ _ (setNext a _ _ _ >>= _) _ _ _;simp only[Int.toNat_natCast];refine wpAny_bind (hx _ ?_);refine wpAny_bind (wpAny_setField_rec hit (by simp) fun h1 e1 b1=>?_);exact wpAny_mono (ZgE (A:=A.in1) hh b1 q) (fun _ _ z=>False.elim z) fun _ _ z=>z
theorem Zkm{T:Addr}{items:Array Value}{pl:Nat}{k:Int}{v:Value}(hit:s.heap.get? it=some (UQ (.ref T) i a es.size ep))(hT:s.heap.IsTuple T items)(hi:items[i]? =some (.int pl 0))(hv:es[pl]? =some (k,v))(ho:s.heap.get? a=some o)(hd:o.data= .set es ep t)(hf:t.fits es.size=true)
  (q:∀h',h'.get? it=some (UQ (.ref T) (i+1) a es.size ep)→Heap.SameBut it s.heap h'→Q (some v) {s with heap:=h'}):wpAny (model prog w) A (pyNext (.ref it)) Q E s:=by
 obtain⟨oT,hoT,hcT,nT,hdT⟩:=hT;refine ZeP hit ?_;unfold Builtin.«set_iterator.__next__»;refine wpAny_bind (m:=slotArgs _ _ _) (wpAny_pure (wpAny_bind (wpAny_fieldsOf hit rfl ?_)));show wpAny _ _ (setEntries a >>= _) _ _ _;refine wpAny_bind (wpAny_setEntries_of ho hd hf ?_);rw[if_neg (by simp)];show wpAny _ _ (seqItems? (.ref T) >>= _) _ _ _;refine wpAny_bind (wpAny_seqItems hoT hdT ?_);simp only[Int.toNat_natCast,hi];unfold setNextDrawn;refine wpAny_bind (wpAny_bind (wpAny_setState_of ho hd hf ?_));dsimp only;rw[if_neg (by simp),hv];refine wpAny_pure ?_;refine wpAny_bind (wpAny_setField_rec hit (by simp) fun h2 e2 b2=>?_);exact wpAny_pure ⟨v,rfl,q h2 e2 b2⟩
theorem Zlr{T:Addr}{items:Array Value}(hh:A.handled=none)(hit:s.heap.get? it=some (UQ (.ref T) i a es.size ep))(hT:s.heap.IsTuple T items)(hi:items[i]? =none)(ho:s.heap.get? a=some o)(hd:o.data= .set es ep t)(hf:t.fits es.size=true)
  (q:∀h',Heap.ExtBut it s.heap h'→Q none {s with heap:=h'}):wpAny (model prog w) A (pyNext (.ref it)) Q E s:=by
 obtain⟨oT,hoT,hcT,nT,hdT⟩:=hT;refine ZeP hit ?_;unfold Builtin.«set_iterator.__next__»;refine wpAny_bind (m:=slotArgs _ _ _) (wpAny_pure (wpAny_bind (wpAny_fieldsOf hit rfl ?_)));show wpAny _ _ (setEntries a >>= _) _ _ _;refine wpAny_bind (wpAny_setEntries_of ho hd hf ?_);rw[if_neg (by simp)];show wpAny _ _ (seqItems? (.ref T) >>= _) _ _ _;refine wpAny_bind (wpAny_seqItems hoT hdT ?_);simp only[Int.toNat_natCast,hi];refine wpAny_bind (wpAny_setField_rec hit (by simp) fun h0 e0 b0=>?_);refine wpAny_bind (wpAny_setField_rec (s:={s with heap:=h0}) e0 (by simp) fun h1 e1 b1=>?_);exact wpAny_mono (ZgE (A:=A.in1) (s:=s) hh (b0.trans b1) q) (fun _ _ z=>False.elim z) fun _ _ z=>z
theorem Zd4{sl:Nat}(hw:w.params.followText "set-order" =true)(ho:s.heap.get? a=some o)(hd:o.data= .set es ep t)(hf:t.fits es.size=true)(Q:Option (Value×Nat)→Shared→Prop)(q:Q (((pickOrder (w.params.setOrder a ep) es)[i]?).map fun e=>(e.2,sl)) s):wpAny (model prog w) A (setNext a sl i ep) Q E s:=by
 unfold setNext setsByText;refine wpAny_bind (wpAny_setState_of ho hd hf ?_);dsimp only;refine wpAny_bind (wpAny_bind (wpAny_askSetting (wpAny_pure ?_)));show wpAny _ _ (if w.params.followText "set-order" =true then _ else _) _ _ _;rw[if_pos hw,if_neg (by simp)];unfold setWalk setsByText;refine wpAny_bind (wpAny_bind (wpAny_setState_of ho hd hf ?_));dsimp only;refine wpAny_bind (wpAny_bind (wpAny_askSetting (wpAny_pure ?_)));show wpAny _ _ (if w.params.followText "set-order" =true then _ else _) _ _ _;rw[if_pos hw];exact wpAny_bind (wpAny_askSetting (wpAny_pure (wpAny_pure q)))
theorem ZdA{sl:Nat}(hw:w.params.followText "set-order" =false)(ho:s.heap.get? a=some o)(hd:o.data= .set es ep t)(hf:t.fits es.size=true)(hp:(!t.plain&&decide (es.size > 1))=false)(hl:t.led=true)(Q:Option (Value×Nat)→Shared→Prop)
  (q:Q (match es[SetTable.below t.place sl]?,t.place[SetTable.below t.place sl]? with|some (_,x),some j=>some (x,j+1)|_,_=>none) s):wpAny (model prog w) A (setNext a sl i ep) Q E s:=by
 unfold setNext setsByText;refine wpAny_bind (wpAny_setState_of ho hd hf ?_);dsimp only;refine wpAny_bind (wpAny_bind (wpAny_askSetting (wpAny_pure ?_)));show wpAny _ _ (if w.params.followText "set-order" =true then _ else _) _ _ _;rw[if_neg (by rw[hw];simp)];show wpAny _ _ (if(!t.plain&&decide (es.size > 1))=true then _ else _) _ _ _;rw[if_neg (by rw[hp];simp)];refine wpAny_bind ?_;show wpAny _ _ (if(!t.led&& !es.isEmpty)=true then _ else _) _ _ _;rw[if_neg (by rw[hl];simp)];exact wpAny_pure (wpAny_pure q)
end
end L2
namespace L2
open PySem PySem.Spec PyProof.Rows
section
variable {prog:Program}{w:World}{A:Around}{E:Value→Shared→Prop}{s:Shared}{it a:Addr}{o:Obj}{es:Array (Int×Value)}{ep i:Nat}{t:SetTable}
theorem ZdW{first:Value}{n:Nat}{Q:Value→Shared→Prop}(hit:s.heap.get? it=some (UQ first i a n ep))(q:Q (.ref it) s):wpAny (model prog w) A (pyIter (.ref it)) Q E s:=by
 have hT:s.TypeIs (.ref it) "set_iterator" :=⟨_,hit,rfl⟩;refine wpAny_pyIter_slot hT ZbN (wpAny_call_entry ZbN hT ZeH ?_ (Zfv _));show wpAny _ _ (ret (.ref it)) _ _ s;exact wpAny_pure ⟨_,rfl,"set_iterator",_,hT,W1.lookup,q⟩
theorem ZgW(hh:A.handled=none)(I:Addr)(hne:a≠I)(hw:w.params.followText "set-order" =true)(hd:o.data= .set es ep t)(hf:t.fits es.size=true):
  PySem.Walks prog w A I [I,a] [I] es.size (fun i v=>((pickOrder (w.params.setOrder a ep) es).toList.map (·.2))[i]? =some v) (fun i h=>h.get? I=some (UQ (.int (0:Nat) 0) i a es.size ep)∧h.get? a=some o) where
 sub:=fun b hb=>by simp at hb;simp[hb]
 frame:=fun _ _ _ st hk=>⟨hk I (by simp) _ st.1,hk a (by simp) _ st.2⟩
 item:=fun i s Q E hi st q=>by
  have hz:(pickOrder (w.params.setOrder a ep) es).size=es.size:=by have:=(Ul (w.params.setOrder a ep) es).length_eq;simpa using this
  have hi':i<(pickOrder (w.params.setOrder a ep) es).size:=by rw[hz];exact hi
  refine Zgv (nx:=0) (v:=((pickOrder (w.params.setOrder a ep) es)[i]).2) st.1 st.2 hd hf (fun Q1 q1=>Zd4 hw st.2 hd hf Q1 (by rw[Array.getElem?_eq_getElem hi'];exact q1)) fun h' e b=>?_;exact q _ h' s.toks (by rw[List.getElem?_map,Array.getElem?_toList,Array.getElem?_eq_getElem hi'];rfl) ⟨e,b.extBut a _ hne st.2⟩ fun b' o' hb e'=>b.extBut b' o' (fun z=>hb (by simp[z])) e'
 done:=fun s Q E st q=>by
  have hz:(pickOrder (w.params.setOrder a ep) es).size=es.size:=by have:=(Ul (w.params.setOrder a ep) es).length_eq;simpa using this
  refine ZhP hh st.1 st.2 hd hf (fun Q1 q1=>Zd4 hw st.2 hd hf Q1 (by rw[Array.getElem?_eq_none (by omega)];exact q1)) fun h' e=>q h' s.toks fun b o' hb e'=>e b o' (fun z=>hb (by simp[z])) e'
 self:=fun _ _ _ _ st q=>ZdW st.1 q
noncomputable def ZaV (t:SetTable) (i:Nat):Nat:=if i=0 then 0 else t.place.getD (i-1) 0+1
theorem ZbS{led:Bool}(g:Z9 led t){n:Nat}(hz:t.place.size=n)(hi:i≤n):SetTable.below t.place (ZaV t i)=i:=by
 unfold ZaV
 split
 ·rename_i e;rw[e];exact Zg6 g.rise
 ·have h1:i-1<t.place.size:=by omega
  have e:t.place.getD (i-1) 0=t.place[i-1]:=by simp[Array.getD,h1]
  rw[e,Zg7 g.rise h1];omega
theorem ZfX{led:Bool}(hh:A.handled=none)(I:Addr)(hne:a≠I)(hw:w.params.followText "set-order" =false)(hd:o.data= .set es ep t)(hf:t.fits es.size=true)(hp:(!t.plain&&decide (es.size > 1))=false)(hl:t.led=true)(g:Z9 led t):
  PySem.Walks prog w A I [I,a] [I] es.size (fun i v=>(es.toList.map (·.2))[i]? =some v) (fun i h=>h.get? I=some (UQ (.int (ZaV t i:Nat) 0) i a es.size ep)∧h.get? a=some o) where
 sub:=fun b hb=>by simp at hb;simp[hb]
 frame:=fun _ _ _ st hk=>⟨hk I (by simp) _ st.1,hk a (by simp) _ st.2⟩
 item:=fun i s Q E hi st q=>by
  have hz:t.place.size=es.size:=by simp only[SetTable.fits,Bool.and_eq_true,beq_iff_eq] at hf;exact hf.1
  have hi2:i<t.place.size:=by omega
  have hb:=ZbS (i:=i) g hz (by omega);refine Zgv (nx:=ZaV t (i+1)) (v:=(es[i]).2) st.1 st.2 hd hf (fun Q1 q1=>ZdA hw st.2 hd hf hp hl Q1 ?_) fun h' e b=>?_
  ·rw[hb,Array.getElem?_eq_getElem hi,Array.getElem?_eq_getElem hi2];have e:ZaV t (i+1)=t.place[i]+1:=by
    unfold ZaV;rw[if_neg (by omega)];simp[Array.getD,hi2]
   rw[e] at q1;exact q1
  ·exact q _ h' s.toks (by rw[List.getElem?_map,Array.getElem?_toList,Array.getElem?_eq_getElem hi];rfl) ⟨e,b.extBut a _ hne st.2⟩ fun b' o' hb e'=>b.extBut b' o' (fun z=>hb (by simp[z])) e'
 done:=fun s Q E st q=>by
  have hz:t.place.size=es.size:=by simp only[SetTable.fits,Bool.and_eq_true,beq_iff_eq] at hf;exact hf.1
  have hb:=ZbS (i:=es.size) g hz (Nat.le_refl _);refine ZhP hh st.1 st.2 hd hf (fun Q1 q1=>ZdA hw st.2 hd hf hp hl Q1 ?_) fun h' e=>q h' s.toks fun b o' hb e'=>e b o' (fun z=>hb (by simp[z])) e';rw[hb,Array.getElem?_eq_none (Nat.le_refl _)];exact q1
 self:=fun _ _ _ _ st q=>ZdW st.1 q
theorem ZfV(hh:A.handled=none)(I T:Addr)(hne:a≠I)(hTI:T≠I)(hd:o.data= .set es ep t)(hf:t.fits es.size=true)(ord:List Nat)(hp:ord.Perm (List.range es.size)):
  PySem.Walks prog w A I [I,a,T] [I] es.size (fun i v=>(ord.map fun j=>(es.getD j (0,.none)).2)[i]? =some v) (fun i h=>h.get? I=some (UQ (.ref T) i a es.size ep)∧h.get? a=some o∧h.IsTuple T (ord.map fun(j:Nat)=>Value.int j 0).toArray) where
 sub:=fun b hb=>by simp at hb;simp[hb]
 frame:=fun _ _ _ st hk=>⟨hk I (by simp) _ st.1,hk a (by simp) _ st.2.1,let⟨x,e,r⟩:=st.2.2;⟨x,hk T (by simp) _ e,r⟩⟩
 item:=fun i s Q E hi st q=>by
  have hl:ord.length=es.size:=by have:=hp.length_eq;simpa using this
  have hi2:i<ord.length:=by omega
  have hj:ord[i]<es.size:=by have:=hp.mem_iff.mp (List.getElem_mem hi2);simpa using this
  have ev:(es.getD ord[i] (0,Value.none))=es[ord[i]]:=by simp[Array.getD,hj]
  refine Zkm (pl:=ord[i]) (k:=(es[ord[i]]).1) (v:=(es[ord[i]]).2) st.1 st.2.2 (by simp[hi2]) (by rw[Array.getElem?_eq_getElem hj]) st.2.1 hd hf fun h' e b=>?_;exact q _ h' s.toks (by rw[List.getElem?_map,List.getElem?_eq_getElem hi2];exact congrArg (fun x=>some x.2) ev) ⟨e,b.extBut a _ hne st.2.1,let⟨x,e,r⟩:=st.2.2;⟨x,b.extBut T _ hTI e,r⟩⟩ fun b' o' hb e'=>b.extBut b' o' (fun z=>hb (by simp[z])) e'
 done:=fun s Q E st q=>by
  have hl:ord.length=es.size:=by have:=hp.length_eq;simpa using this
  exact Zlr hh st.1 st.2.2 (by simp[hl]) st.2.1 hd hf fun h' e=>q h' s.toks fun b o' hb e'=>e b o' (fun z=>hb (by simp[z])) e'
 self:=fun _ _ _ _ st q=>ZdW st.1 q
end
end L2
namespace L2
open PySem PySem.Spec PyProof.Rows
section
variable {prog:Program}{w:World}{A:Around}{E:Value→Shared→Prop}{s:Shared}{a:Addr}{o:Obj}
theorem ZjN{ks:List Int}{Q:Value→Shared→Prop}(ho:s.heap.get? a=some o)(hS:U8 (!w.params.followText "set-order") ks o)
  (q:∀(I:Addr)(L:List Value)(s':Shared)(fp:List Addr)(St:Nat→Heap→Prop)(n:Nat),n=L.length→(∃ns:List Int,IntsAre L ns∧ns.Perm ks)→(∀b o,s.heap.get? b=some o→s'.heap.get? b=some o)→s'.gens=s.gens→s'.os=s.os→s'.toks=s.toks→
   (∀A':Around,A'.handled=none→PySem.Walks prog w A' I fp [I] n (fun i v=>L[i]? =some v) St)→St 0 s'.heap→s.heap.objs.size≤I→(∀b∈fp,b=a∨s.heap.objs.size≤b)→Q (.ref I) s'):wpAny (model prog w) A (pyIter (.ref a)) Q E s:=by
 obtain⟨hex,es,ep,t,hd,hel,hb,hf,hg,hp⟩:=hS;have hT:s.TypeIs (.ref a) "set" :=⟨_,ho,hex.1⟩;have hlt:a<s.heap.objs.size:=Heap.lt_size ho;have allI:∀l:List (Int×Value),l.Perm es.toList→∃ns:List Int,IntsAre (l.map (·.2)) ns∧ns.Perm ks:=fun l pl=>by
  refine⟨l.map keyI,?_,(pl.map keyI).trans hp⟩;have hl:∀e∈l,∃n tk,e=(hashInt n,Value.int n tk):=fun e he=>hel e (pl.mem_iff.mp he);clear pl
  induction l with
  |nil=>exact .nil
  |cons x l ih=>
   obtain⟨n,tk,rfl⟩:=hl x (by simp);exact .cons n tk (ih fun e he=>hl e (by simp[he]))
 refine wpAny_pyIter_slot hT F.slot_set_iter (wpAny_call_entry F.slot_set_iter hT ZdK ?_ (F.args_set_iter_1 _));unfold Builtin.«frozenset.__iter__» Builtin.Frozenset.sizeOf;refine wpAny_bind (m:=Builtin.Frozenset.slot0 _ _) (wpAny_pure ?_);refine wpAny_bind (wpAny_bind (wpAny_setEntries_of ho hd hf (wpAny_pure ?_)));unfold setDrawn setsByText;refine wpAny_bind (wpAny_bind (wpAny_setState_of ho hd hf ?_));dsimp only;refine wpAny_bind (wpAny_bind (wpAny_askSetting (wpAny_pure (wpAny_pure ?_))));show wpAny _ _ (if(!w.params.followText "set-order" &&(!t.plain&&decide (es.size > 1)))=true then _ else _) _ _ _
 by_cases hc:(!w.params.followText "set-order" &&(!t.plain&&decide (es.size > 1)))=true
 ·rw[if_pos hc];refine wpAny_bind ?_;have hr:(List.range es.size).length=es.size:=List.length_range;have dr:=ZeV (prog:=prog) (w:=w) (A:=A.in1) (E:=E) (List.range es.size) s;rw[hr] at dr;refine dr _ fun ord d pm=>?_;refine wpAny_bind ?_;simp only[newTuple];have ol:ord.length=es.size:=by have:=pm.length_eq;simpa using this
  refine wpAny_newObj_type ?_ ?_
  ·refine wpAny_bind (wpAny_setEpoch_of (Heap.get?_push_of_some _ ho) hd hf ?_);refine wpAny_bind (wpAny_newObj_type (wpAny_pure ⟨_,rfl,"set_iterator",_,⟨_,Heap.get?_push_size _ rfl,rfl⟩,W1.lookup,?_⟩));generalize hT':({cls:= .type "tuple",data:= .seq (List.map (fun(i:Nat)=>rawInt i) ord).toArray 0}:Obj)=oT;have pe:(List.map (fun j=>es.getD j (0,Value.none)) ord).Perm es.toList:=by
    refine(pm.map _).trans ?_;have:(List.range es.size).map (fun j=>es.getD j (0,Value.none))=es.toList:=by
     refine List.ext_getElem (by simp) fun i h1 h2=>?_;have h3:i<es.size:=by simpa using h2
     simp[Array.getD,h3]
    rw[this]
   have wd:∀A':Around,A'.handled=none→_:=fun A' hh=>ZfV (prog:=prog) (w:=w) (A:=A') (a:=a) (o:=o) (ep:=ep) hh (s.heap.objs.size+1) s.heap.objs.size (Nat.ne_of_lt (Nat.lt_succ_of_lt hlt)) (Nat.ne_of_lt (Nat.lt_succ_self _)) hd hf ord pm;have zl:es.size=(ord.map fun j=>(es.getD j (0,.none)).2).length:=by simp[ol]
   rw[show(s.heap.push oT).objs.size=s.heap.objs.size+1 from Heap.size_push ..];refine q _ (ord.map fun j=>(es.getD j (0,.none)).2) _ [s.heap.objs.size+1,a,s.heap.objs.size] _ _ zl (by have:=allI _ pe;rw[List.map_map] at this;exact this) (fun b o e=>Heap.get?_push_of_some _ (Heap.get?_push_of_some _ e)) rfl rfl rfl (fun A' hh=>wd A' hh) ⟨?_,Heap.get?_push_of_some _ (Heap.get?_push_of_some _ ho),?_⟩ (Nat.le_succ _) (fun b hb=>?_)
   ·have:=Heap.get?_push_size (o:=UQ (.ref s.heap.objs.size) 0 a es.size ep) (s.heap.push oT) rfl;rw[show(s.heap.push oT).objs.size=s.heap.objs.size+1 from Heap.size_push ..] at this;exact this
   ·exact⟨oT,Heap.get?_push_of_some _ (Heap.get?_push_size _ (by rw[←hT'];rfl)),by rw[←hT'],0,by rw[←hT'];rfl⟩
   ·simp only[List.mem_cons,List.not_mem_nil,or_false] at hb;rcases hb with rfl|rfl|rfl
    ·exact .inr (Nat.le_succ _)
    ·exact .inl rfl
    ·exact .inr (Nat.le_refl _)
  ·show(List.map _ ord).toArray.size≤sizeLine;rw[List.size_toArray,List.length_map,ol];exact fits_of_scanBound hb
 ·rw[if_neg hc];refine wpAny_bind (wpAny_pure ?_);refine wpAny_bind (wpAny_setEpoch_of ho hd hf ?_);refine wpAny_bind (wpAny_newObj_type (wpAny_pure ⟨_,rfl,"set_iterator",_,⟨_,Heap.get?_push_size _ rfl,rfl⟩,W1.lookup,?_⟩));have hfp:∀b∈[s.heap.objs.size,a],b=a∨s.heap.objs.size≤b:=fun b hb=>by
   simp only[List.mem_cons,List.not_mem_nil,or_false] at hb;rcases hb with rfl|rfl
   ·exact .inr (Nat.le_refl _)
   ·exact .inl rfl
  cases hw:w.params.followText "set-order" with
  |true=>
   have pe:=Ul (w.params.setOrder a ep) es;have zl:es.size=((pickOrder (w.params.setOrder a ep) es).toList.map (·.2)).length:=by have:=pe.length_eq;simpa using this.symm
   exact q _ _ _ _ _ _ zl (allI _ pe) (fun b o e=>Heap.get?_push_of_some _ e) rfl rfl rfl (fun A' hh=>ZgW hh _ (Nat.ne_of_lt hlt) hw hd hf) ⟨Heap.get?_push_size _ rfl,Heap.get?_push_of_some _ ho⟩ (Nat.le_refl _) hfp
  |false=>
   rw[hw] at hc hg;have zl:es.size=(es.toList.map (·.2)).length:=by simp
   exact q _ _ _ _ _ _ zl (allI _ .rfl) (fun b o e=>Heap.get?_push_of_some _ e) rfl rfl rfl (fun A' hh=>ZfX hh _ (Nat.ne_of_lt hlt) hw hd hf (by simpa using hc) hg.led hg) ⟨Heap.get?_push_size _ rfl,Heap.get?_push_of_some _ ho⟩ (Nat.le_refl _) hfp
end
end L2
namespace L2
open PySem PySem.Spec PyProof.Rows
section
variable {prog:Program}{w:World}{A:Around}{E:Value→Shared→Prop}{s:Shared}{a:Addr}{o:Obj}
theorem ZiS{Q:Bool→Shared→Prop}(hT:s.TypeIs (.ref a) "set")(q:Q false s):wpAny (model prog w) A (Builtin.List.listLengthHint (.ref a)) Q E s:=by
 unfold Builtin.List.listLengthHint;refine wpAny_bind (wpAny_specialOf hT F.slot_set_len.lookup ?_);generalize hid:("set.__len__" :String)=id0
 wp_delta
 rw[show splitId id0=some ("set","__len__") from by subst hid;decide+kernel];subst hid;refine wpAny_bind (wpAny_isInstance (T:="set") (b:=true) hT sub_set_self ?_);refine wpAny_ite_split (fun z=>absurd z (by decide)) (fun _=>wpAny_ite_split (fun _=>?_) (fun z=>absurd (by decide+kernel) z));exact wpAny_bind (wpAny_typeOf hT (wpAny_pure q))
theorem ZfU{ks:List Int}{R:List Value→Shared→Prop}(hh:A.handled=none)(ho:s.heap.get? a=some o)(hS:U8 (!w.params.followText "set-order") ks o)(hk:ks.length≤sizeLine)
  (q:∀(s':Shared)(L:List Value)(ns:List Int),IntsAre L ns→ns.Perm ks→(∀b o,s.heap.get? b=some o→s'.heap.get? b=some o)→s'.gens=s.gens→s'.os=s.os→R L s'):wpAny (model prog w) A (collect (.ref a)) R E s:=by
 have hlt:a<s.heap.objs.size:=Heap.lt_size ho;generalize hN:({cls:= .type "list",data:= .seq ([]:List Value).toArray}:Obj)=N;have ho1:(s.heap.push N).get? a=some o:=Heap.get?_push_of_some _ ho;have hS1:(s.heap.push N).get? s.heap.objs.size=some N:=Heap.get?_push_size _ (by rw[←hN];rfl);have hT1:Shared.TypeIs {s with heap:=s.heap.push N} (.ref a) "set" :=⟨_,ho1,hS.1.1⟩;unfold collect;refine wpAny_bind (wpAny_runValue (codeAny_builtin PySem.F.entry_proto_collect ?_));rw[Around.under_plainId PySem.F.plain_proto_collect _];refine wpAny_bind (m:=newList []) (wpAny_newObj_type ?_);refine wpAny_pure ⟨plainId_quiet PySem.F.plain_list_iadd _,codeAny_builtin PySem.F.entry_list_iadd ?_⟩;rw[Around.under_plainId PySem.F.plain_list_iadd _,hN];show wpAny _ A.in1 (Builtin.List.listExtendWith (.ref s.heap.objs.size) (.ref a) (.ref s.heap.objs.size)) _ _ _;unfold Builtin.List.listExtendWith;refine wpAny_bind (wpAny_typeOf hT1 ?_);have n1:Builtin.List.listSameRef (.ref s.heap.objs.size) (.ref a)=false:=by simp[Builtin.List.listSameRef];exact Nat.ne_of_gt hlt
 have n2:(Value.type "set" ==Value.type "list")=false:=by decide
 have n3:(Value.type "set" ==Value.type "tuple")=false:=by decide
 simp only[n1,n2,n3,Bool.or_false,Bool.false_eq_true,if_false];refine wpAny_bind (ZjN ho1 hS fun I L s2 fp St n en hI kp eg eo et W st hge hfp=>?_);obtain⟨ns,hi,hp⟩:=hI;have hS2:=kp _ _ hS1;refine wpAny_bind (wpAny_holding (ZiS (a:=a) ⟨_,kp _ _ ho1,hS.1.1⟩ ?_));have hSf:s.heap.objs.size∉fp:=fun z=>by
  rcases hfp _ z with e|e
  ·exact Nat.ne_of_gt hlt e
  ·rw[Heap.size_push] at e;exact absurd e (Nat.not_succ_le_self _)
 have hIn:s.heap.objs.size≠I:=fun z=>by rw[←z,Heap.size_push] at hge;exact absurd hge (Nat.not_succ_le_self _)
 have Ws:=(W A.in1 hh).toS;have hnl:n≤sizeLine:=by
  have h1:L.length=ns.length:=IntsAre.length hi;rw[en,h1,hp.length_eq];exact hk
 have key:∀(h3:Heap)(c:Nat),St 0 h3→(∀b o,s.heap.get? b=some o→h3.get? b=some o)→h3.get? s.heap.objs.size=some {cls:= .type "list",data:= .seq #[] c}→codeAny (model prog w) A (.builtin "list.extend.loop" ⟨[.ref s.heap.objs.size,.ref I,.ref s.heap.objs.size],[]⟩) (fun r s'=>match r with| .ok (.ret v)=>v= .ref s.heap.objs.size∧∃acc c',s'.heap.get? s.heap.objs.size=some {cls:= .type "list",data:= .seq acc c'}∧acc.toList=L∧(∀b o,s.heap.get? b=some o→s'.heap.get? b=some o)∧s'.gens=s.gens∧s'.os=s.os|_=>False) {s2 with heap:=h3}:=by
  intro h3 c st3 kp3 e3;refine codeAny_extend_loopS Ws hnl _ hSf _ n 0 _ #[] c rfl (Nat.zero_le _) st3 e3 (ItemsOf.nil _) fun s4 acc c4 mv e4 its=>⟨rfl,acc,c4,e4,?_,fun b o' e=>mv.heap b o' (fun z=>?_) (kp3 b o' e),mv.gens.trans eg,mv.os.trans eo⟩
  ·refine List.ext_getElem? fun j=>?_
   by_cases hj:j<n
   ·have hj':j<acc.size:=by rw[its.1];exact hj
    rw[Array.getElem?_toList,its.2 j _ (Array.getElem?_eq_getElem hj'),Array.getElem?_eq_getElem hj']
   ·rw[List.getElem?_eq_none (by rw[Array.length_toList,its.1];omega),List.getElem?_eq_none (by rw[←en];omega)]
  ·have hb:=Heap.lt_size e;rcases List.mem_cons.mp z with z|z
   ·exact Nat.lt_irrefl _ (z▸hb)
   ·rw[List.mem_singleton.mp z] at hb;exact absurd (Nat.le_trans (Nat.le_of_succ_le (by rw[Heap.size_push] at hge;exact hge)) (Nat.le_refl I)) (Nat.not_le_of_gt hb)
 refine wpAny_ite_split (fun _=>?_) (fun _=>wpAny_pure ⟨plainId_quiet PySem.F.plain_extend_loop _,codeAny_mono (key _ 0 st (fun b o e=>kp b o (Heap.get?_push_of_some _ e)) (by rw[hS2,←hN])) fun r s' z=>?fin⟩)
 case fin=>
  rcases r with e|f
  ·exact z.elim
  cases f with
  |ret v=>
   obtain⟨rfl,acc,c',e4,el,k4,g4,o4⟩:=z;refine wpAny_bind (wpAny_load e4 (wpAny_pure ?_));rw[el];exact q s' L ns hi hp k4 g4 o4
  |_=>exact z.elim
 refine wpAny_bind (wpAny_rule (wpAny_bind ?_));show wpAny _ _ (updateSeq s.heap.objs.size (·.push .none) >>= fun _=>updateSeq s.heap.objs.size (·.pop)) _ _ _;rw[←hN] at hS2;refine wpAny_bind (wpAny_updateSeq hS2 rfl ?_);have hS3:=Heap.get?_update_self (Obj.mapSeq (·.push Value.none)) hS2 rfl;refine wpAny_updateSeq (hz:=by seq_fits) hS3 rfl ?_;have hS4:=Heap.get?_update_self (Obj.mapSeq (·.pop)) hS3 rfl;have oth:∀b o,b≠s.heap.objs.size→s2.heap.get? b=some o→((s2.heap.update s.heap.objs.size (Obj.mapSeq (·.push Value.none))).update s.heap.objs.size (Obj.mapSeq (·.pop))).get? b=some o:=fun b o hb e=>
  (Heap.get?_update_other _ _ (Ne.symm hb)).trans ((Heap.get?_update_other _ _ (Ne.symm hb)).trans e)
 refine wpAny_pure ⟨plainId_quiet PySem.F.plain_extend_loop _,codeAny_mono (key _ _ ((W A hh).frame 0 _ _ st fun b hb o e=>oth b o (fun z=>hSf (z▸hb)) e) (fun b o e=>oth b o (Nat.ne_of_lt (Heap.lt_size e)) (kp b o (Heap.get?_push_of_some _ e))) hS4) fun r s' z=>?_⟩;rcases r with e|f
 ·exact z.elim
 cases f with
 |ret v=>
  obtain⟨rfl,acc,c',e4,el,k4,g4,o4⟩:=z;refine wpAny_bind (wpAny_load e4 (wpAny_pure ?_));rw[el];exact q s' L ns hi hp k4 g4 o4
 |_=>exact z.elim
end
end L2
namespace L2
open PySem PySem.Spec PyProof.Rows
section
theorem Zhz{l:List Int}{v:Int}(h:l.Nodup):(step_dedup l v).Nodup:=by
 unfold step_dedup
 split
 ·exact h
 ·rename_i z;refine List.nodup_append.mpr ⟨h,by simp,fun a ha b hb e=>?_⟩;rw[List.mem_singleton.mp hb] at e;exact z (by rw[List.any_eq_true];exact⟨a,ha,by simp[e]⟩)
theorem Zeo(val:Nat→Int):∀i,(firstMet val i).Nodup
 |0=>by rw[firstMet_zero];exact .nil
 |i+1=>by rw[firstMet_succ];exact Zhz (Zeo val i)
theorem ZkK(ns:List Int){x:Int}:x∈firstMet (fun i=>ns.getD i 0) ns.length↔x∈ns:=by
 have h:=firstMet_any (fun i=>ns.getD i 0) ns.length x;have e:(List.range ns.length).map (fun i=>ns.getD i 0)=ns:=by
  refine List.ext_getElem (by simp) fun i h1 h2=>?_;simp[List.getD,h2]
 rw[e] at h;have a1:∀l:List Int,(l.any (· ==x))=true↔x∈l:=fun l=>by simp
 rw[←a1,h,a1]
theorem Zjf{l:List Int}(h:l.Pairwise (· ≤·))(n:l.Nodup):l.Pairwise (· < ·):=by
 refine(List.pairwise_and_iff.mpr ⟨h,n⟩:l.Pairwise fun a b=>a≤b∧a≠b).imp fun z=>?_;omega
variable {X:Cx}{K:PySem.W.Frag}
noncomputable def ZcN (K:PySem.W.Frag):V→Hp→VK→Prop:=fun x H Q=>∃(l:Addr)(ns:List Int),x= .ref l∧SqL K H l (ns.map V.int)∧ns.length<64∧∀(p:Addr)(ms:List Int),H p=none→ms.Pairwise (· < ·)→(∀x,x∈ms↔x∈ns)→Q (.ref p) (upd H p (.lst (ms.map V.int)))
noncomputable def ZeZ (K:PySem.W.Frag) (ta:TA):TE:=fun σ H Q=>ta σ H fun vs H1=>∃x,vs=[x]∧ZcN K x H1 Q
theorem ZgT{a:Expr}{ta:TA}{p p1 pos pos1:Pos}(hK:X.K=K)(hc:X.calm=true)(hgl:Gl X "sorted")(hml:X.mg "sorted" =none)(hg:Gl X "set")(hm:X.mg "set" =none)(ha:PA X [a] ta)
  (hs:starEach [a] X.env=[(false,eval a X.env)]:=by rfl)
  (he:starEach [Expr.Call (.Name "set" p) [a] [] pos] X.env=(false,eval (.Call (.Name "set" p) [a] [] pos) X.env)::starEach [] X.env:=by rfl):
  PE X (.Call (.Name "sorted" p1) [.Call (.Name "set" p) [a] [] pos] [] pos1) (ZeZ K ta):=by
 subst hK;intro pins s σ H Q I h;refine Call_ (Ua I hgl hml PyProof.Rows.boot_sorted ?_);refine PyProof.Rows.callWith_builtin1 ?_ he;rw[he];show wpAny _ _ (spliced ((false,eval (.Call (.Name "set" p) [a] [] pos) X.env):: [])) _ _ s;refine Calls.spliced_cons (Call_ (Ua I hg hm boot_set (PyProof.Rows.callWith_type1 (thn (ha pos pins s σ H _ I h) fun us s1 ⟨vs,H1,I1,r1,q1⟩=>?_) hs rfl)));obtain⟨x,e,l,ns,rfl,hq,hb,q⟩:=q1;subst e;obtain⟨u,rfl,rx⟩:=WO r1;cases rx;obtain⟨its,rv,pl,hz⟩:=I1.list hq;have hi:=Zbd rv;have hsz:its.toArray.size=ns.length:=by have:=rv.length;simpa using this.symm
 have hb':its.toArray.size+1<scanBound:=by rw[hsz];unfold scanBound;omega
 refine Zja (I1.ok.hd hc) pl.isList hi hb' fun h' tk o ho hS hk=>?_;rw[hsz] at hS;refine Calls.spliced_nil ?_;have k1:∀b o,s1.heap.get? b=some o→h'.get? b=some o:=fun b o e=>hk b o (Heap.lt_size e) e;have I2:Inv X pins σ H1 {s1 with heap:=h',toks:=tk}:=I1.kept k1;generalize hM:firstMet (fun i=>ns.getD i 0) ns.length=M at hS;have Mnd:M.Nodup:=by rw[←hM];exact Zeo _ _
 have Mmem:∀x,x∈M↔x∈ns:=fun x=>by rw[←hM];exact ZkK ns
 have Mlen:M.length≤ns.length:=by rw[←hM];exact Ziw _ _
 refine Calls.call_function_entry kind_sorted plain_sorted entry_sorted (args_sorted1 _) ?_;unfold Builtin.«sorted»;refine wpAny_bind (m:=checkCount "sorted" 1 1 _) (wpAny_pure ?_);refine wpAny_bind (ZfU (A:=X.A.in1) (I.ok.hd hc) ho hS (Nat.le_of_lt (Zx (n:=M.length) (by omega))) fun s3 L ms hms hpm k3 g3 o3=>?_);obtain⟨h3,gs3,d3,tk3,os3⟩:=s3;dsimp only at k3 g3 o3⊢;subst g3 o3;have k13:∀b o,s1.heap.get? b=some o→h3.get? b=some o:=fun b o e=>k3 b o (k1 b o e);have I3:Inv X pins σ H1 {s1 with heap:=h3,gens:=s1.gens,drawn:=d3,toks:=tk3}:=I1.call (ch:=[]) (Un.kept k13) (I1.hok.kept k13) I1.bare (fun _ z=>nomatch z);have hl:L.length=ms.length:=IntsAre.length hms;have hl2:ms.length≤ns.length:=by rw[hpm.length_eq];exact Mlen
 refine wpAny_bind (wpAny_newList ?_ (Nat.le_of_lt (Zx (n:=L.length) (by omega))));have hoL:(h3.push (seqObj "list" L.toArray 0)).get? h3.objs.size=some (seqObj "list" L.toArray 0):=Heap.get?_push_size _ rfl;refine wpAny_bind (wpAny_holding (wpAny_call_entry slot_list_sort ⟨_,hoL,rfl⟩ entry_list_sort (list_sort_tree hoL hms (by omega) fun out ns' a1 a2 a3=>⟨_,rfl,?_⟩) (args_list_sort _)));refine wpAny_pure ⟨_,rfl,?_⟩;obtain⟨e,he'⟩:=sortedHeap_at (out:=out) hoL;have hv':=ZbV a1;have pm:ns'.Perm M:=a2.trans hpm;refine⟨.ref h3.objs.size,_,I3.laid (a:=h3.objs.size) (o:= .lst (ns'.map V.int)) (t':=tk3) (fun b o hb'=>?_) (Nat.le_refl _) ⟨by rw[List.length_map,a2.length_eq];exact Nat.le_of_lt (Zx (n:=ms.length) (by omega)),out.toList,e,hv',by simpa using he'⟩,rfl,q _ ns' (I3.hok.fresh (Nat.le_refl _)) (Zjf a3 (pm.nodup_iff.mpr Mnd)) fun x=>pm.mem_iff.trans (Mmem x)⟩;have hlt:=Heap.lt_size hb';rw[sortedHeap_old (Nat.ne_of_lt hlt) (by rw[size_push'];exact Nat.lt_succ_of_lt hlt)];exact Heap.get?_push_of_some _ hb'
end
namespace Rd
section
variable {K:PySem.W.Frag}{σ:St}{H:Hp}{Q:VK}
theorem ZmG{ta:TA}(h:ta σ H fun vs H1=>∃x,vs=[x]∧ZcN K x H1 Q):ZeZ K ta σ H Q:=h
theorem ZlY{l:Addr}{ns:List Int}(h:SqL K H l (ns.map V.int))(hl:ns.length<64)(q:∀(p:Addr)(ms:List Int),H p=none→ms.Pairwise (· < ·)→(∀x,x∈ms↔x∈ns)→Q (.ref p) (upd H p (.lst (ms.map V.int)))):∃x,[V.ref l]=[x]∧ZcN K x H Q:=⟨_,rfl,l,ns,rfl,h,hl,q⟩
end
end Rd
end L2
namespace L2
open PySem PySem.Spec PyProof.Rows
section
variable {X:Cx}{K:PySem.W.Frag}
noncomputable def rSetDef:V→List V→Hp→VK→Prop:=fun x vs H Q=>∃(a:Addr)(kvs:List (Key×V))(i:Int)(v:V),x= .ref a∧vs=[.int i,v]∧H a=some (.dK kvs)∧kvs.length<sizeLine∧(∀y,valV kvs (Sum.inl i)=some y→Q y H)∧(valV kvs (Sum.inl i)=none→Q v (upd H a (.dK (Ya kvs (Sum.inl i) v))))
theorem Zh6:MtR X "dict.setdefault" rSetDef:=by
 intro pins s σ H x xs v us Q I rx rs h;obtain⟨a,kvs,i,y,rfl,rfl,ha,hl,q1,q2⟩:=h;cases rx;obtain⟨u,t,rfl,ru,rt⟩:=rs.two;obtain⟨z,hd,vs,rel,dd⟩:=Zaq I.hok ha;have hk:(ZP X.prog X.w).is (Sum.inl i) u=true:=Zbc (k:=Sum.inl i) ru;refine call_meetsIn PySem.F.slot_dict_setdefault dd.typeIs PySem.F.entry_dict_setdefault (PySem.F.args_dict_setdefault_3 _ _ _) (kt_meets_setdefault (ZP X.prog X.w) a hk hd t) ⟨vs,dd,by rw[←rel.length];exact z,fun w hw=>?_,fun hn h' dd' hs=>?_⟩
 ·cases e:valV kvs (Sum.inl i) with
  |none=>have:=rel.val (Sum.inl i:Key);rw[e,hw] at this;exact nomatch this
  |some y'=>
   obtain⟨w2,h2,r2⟩:=WU.some_of (v:=y') (o:=valueAt vs (Sum.inl i)) (by rw[←e];exact rel.val _);rw[hw] at h2;cases h2;exact⟨y',H,I.tok _,r2,q1 y' e⟩
 ·have hp:(Ya kvs (Sum.inl i) y).length≤sizeLine:=by have:=Uu kvs (Sum.inl i:Key) y;omega
  have he:∃q,h'.get? a=some q:=let⟨q,_,_,hq,_⟩:=dd';⟨q,hq⟩
  exact⟨y,_,ZaZ (t':=s.toks+1) I (by rw[ha];exact True.intro) hs he (Zdn hp hd (rel.put (Sum.inl i) rt) dd'),rt,q2 (by
   cases e:valV kvs (Sum.inl i) with
   |none=>rfl
   |some w=>have:=rel.val (Sum.inl i:Key);rw[e,hn] at this;exact nomatch this)⟩
noncomputable def rMinD:List V→Hp→VK→Prop:=fun xs H Q=>∃(a:Addr)(kvs:List (Key×V))(ks:List Int),xs=[V.ref a]∧H a=some (.dK kvs)∧kvs.map (·.1)=ks.map Sum.inl∧0<kvs.length∧∀M,M∈ks→(∀b∈ks,M≤b)→Q (.int M) H
theorem Zio(hc:X.calm=true):Wi X (.builtin "min") rMinD:=by
 intro pins s σ H xs us Q I r h;obtain⟨a,kvs,ks,rfl,ha,hks,h0,q⟩:=h;obtain⟨u,rfl,ru⟩:=WO r;cases ru;obtain⟨z,hd,vs,rel,dd⟩:=Zaq I.hok ha;obtain⟨ep,hat⟩:=dd.dictAt;have hkl:kvs.length=ks.length:=by have:=congrArg List.length hks;simpa using this
 have hvl:vs.length=ks.length:=by rw[←rel.length,hkl]
 have hlt:a<s.heap.objs.size:=hat.lt_size;have key:∀(j:Nat)(v:Value),(∃k x,vs[j]? =some (k,x)∧(ZP X.prog X.w).is k v=true)→∃t,v= .int (ks.getD j 0) t:=by
  rintro j v ⟨k,x,hx,hv⟩;obtain⟨v',hv'⟩:=rel.at hx;have hj:(kvs.map (·.1))[j]? =some k:=by rw[List.getElem?_map,hv'];rfl
  rw[hks,List.getElem?_map] at hj;cases e:ks[j]? with
  |none=>rw[e] at hj;cases hj
  |some n=>
   rw[e] at hj;cases hj;have en:ks.getD j 0=n:=by simp[List.getD,e]
   rw[en];exact Value.isInt_shape hv
 refine call_min_walk (wpAny_pyIter_dict hd hat ?_);refine⟨s.heap.objs.size,[s.heap.objs.size,a],[s.heap.objs.size],_,_,_,_,rfl,PySem.Walks.dictKeys (A:=X.A.in1) (knd:=ZP X.prog X.w) (I.ok.hd hc) _ a (Nat.ne_of_lt hlt) vs ep,⟨⟨_,Heap.get?_push_size _ rfl,rfl,rfl⟩,hat.push _⟩,fun b hb=>?_,by omega,CmpOf.ints_lt (fun i=>ks.getD i 0) key,fun v h' tk hP hk=>?_⟩
 ·show b<(s.heap.push _).objs.size;rw[Heap.size_push];rcases List.mem_cons.mp hb with rfl|hb
  ·exact Nat.lt_succ_self _
  ·rw[List.mem_singleton.mp hb];exact Nat.lt_succ_of_lt hlt
 ·obtain⟨t,rfl⟩:=key _ _ hP;obtain⟨h1,h2⟩:=argBest_lt (fun i=>ks.getD i 0) (vs.length-1);refine⟨.int _,H,I.kept (Zgu hk),⟨t,rfl⟩,q _ ?_ fun b hb=>?_⟩
  ·have hl2:argBest (fun i j=>decide (ks.getD i 0<ks.getD j 0)) (vs.length-1)<ks.length:=by omega
   rw[List.getD_eq_getElem?_getD,List.getElem?_eq_getElem hl2];exact List.getElem_mem hl2
  ·obtain⟨j,hj,rfl⟩:=List.getElem_of_mem hb;have:=h2 j (by omega);have e:ks.getD j 0=ks[j]:=by simp[List.getD,hj]
   rw[←e];exact this
theorem ZlI(hc:X.calm=true):Wi X (.builtin "min") rMinD:=Zio hc
end
namespace Rd
section
variable {H:Hp}{Q:VK}
theorem ZmP{a:Addr}{kvs:List (Key×V)}{ks:List Int}(h:H a=some (.dK kvs))(e:kvs.map (·.1)=ks.map Sum.inl)(h0:0<kvs.length)(q:∀M,M∈ks→(∀b∈ks,M≤b)→Q (.int M) H):rMinD [.ref a] H Q:=⟨a,kvs,ks,rfl,h,e,h0,q⟩
theorem ZlC{a:Addr}{kvs:List (Key×V)}{i:Int}{v:V}(h:H a=some (.dK kvs))(hl:kvs.length<sizeLine)(q1:∀y,valV kvs (Sum.inl i)=some y→Q y H)(q2:valV kvs (Sum.inl i)=none→Q v (upd H a (.dK (Ya kvs (Sum.inl i) v)))):rSetDef (.ref a) [.int i,v] H Q:=⟨a,kvs,i,v,rfl,rfl,h,hl,q1,q2⟩
end
end Rd
end L2
namespace My
@[irreducible] noncomputable def G (a b:Int):Int:=((Int.gcd a b:Nat):Int)
theorem Zdt(n m:Nat):G (n:Int) (m:Int)=((Nat.gcd n m:Nat):Int):=by
 unfold G
 rfl
theorem ZhQ{a b:Int}(ha:0≤a)(hb:b=0):G a b=a:=by
 subst hb;obtain⟨n,rfl⟩:=Int.eq_ofNat_of_zero_le ha;have:=Zdt n 0;rw[Nat.gcd_zero_right] at this;exact this
theorem Zlh{a b:Int}(ha:0≤a)(hb:0<b):G b (Int.fmod a b)=G a b:=by
 obtain⟨n,rfl⟩:=Int.eq_ofNat_of_zero_le ha;obtain⟨m,rfl⟩:=Int.eq_ofNat_of_zero_le (Int.le_of_lt hb);rw[Int.fmod_eq_emod_of_nonneg _ (Int.natCast_nonneg m),←Int.natCast_emod,Zdt,Zdt,Nat.gcd_comm n m,Nat.gcd_rec m n,Nat.gcd_comm]
structure S(k:Nat)(x:Int):Prop where
 lo:0≤x
 hi:x.toNat<2 ^ (2048*2 ^ k)
theorem Zly{j k:Nat}(h:j≤k):2 ^ (2048*2 ^ j)≤2 ^ (2048*2 ^ k):=
 Nat.pow_le_pow_right (by decide) (Nat.mul_le_mul_left _ (Nat.pow_le_pow_right (by decide) h))
theorem S.mono{j k:Nat}{x:Int}(h:S j x)(hj:j≤k):S k x:=⟨h.lo,Nat.lt_of_lt_of_le h.hi (Zly hj)⟩
end My
namespace Fo
noncomputable abbrev Trip:=Int×Int×Bool
noncomputable abbrev ZQ:=List (Int×Option Trip)
noncomputable def keys (tr:ZQ):List Int:=tr.map (·.1)
theorem Zaw(tr:ZQ)(w:Int)(s:Option Trip):keys (tr++ [(w,s)])=keys tr++ [w]:=by simp[keys]
theorem ZcX{tr:ZQ}{i:Nat}{w:Int}{s:Option Trip}(h:tr[i]? =some (w,s)):w∈keys tr:=List.mem_map.mpr ⟨(w,s),List.mem_of_getElem? h,rfl⟩
theorem Zcl{tr:ZQ}{w:Int}(h:w∈keys tr):∃(i:Nat)(s:Option Trip),tr[i]? =some (w,s):=by
 obtain⟨⟨w',s⟩,hm,rfl⟩:=List.mem_map.mp h;obtain⟨i,hi⟩:=List.getElem?_of_mem hm;exact⟨i,s,hi⟩
structure Y2(ways:Int→List Trip)(first:Int)(tr:ZQ):Prop where
 head:tr[0]? =some (first,none)
 nodup:(keys tr).Nodup
 steps:∀(i:Nat)(w p b:Int)(al:Bool),tr[i]? =some (w,some (p,b,al))→(w,b,al)∈ways p∧∃(j:Nat)(s:Option Trip),j<i∧tr[j]? =some (p,s)
 only:∀(i:Nat)(w:Int),tr[i]? =some (w,none)→i=0
def UN(ways:Int→List Trip)(tr:ZQ)(d:Nat):Prop:=∀(j:Nat)(w:Int)(s:Option Trip),j<d→tr[j]? =some (w,s)→∀t∈ways w,t.1∈keys tr
section
variable {ways:Int→List Trip}{first:Int}{tr:ZQ}
theorem Zir:Y2 ways first [(first,none)]:=by
 refine⟨rfl,by simp[keys],fun i w p b al h=>?_,fun i w h=>?_⟩
 ·cases i with
  |zero=>simp at h
  |succ i=>simp at h
 ·cases i with
  |zero=>rfl
  |succ i=>simp at h
theorem Zd1{tr:ZQ}{x y:Int×Option Trip}{i:Nat}(h:(tr++ [x])[i]? =some y):tr[i]? =some y∨(i=tr.length∧y=x):=by
 rcases Nat.lt_or_ge i tr.length with c|c
 ·rw[List.getElem?_append_left c] at h;exact .inl h
 ·rw[List.getElem?_append_right c] at h;have:i-tr.length=0:=by
   rcases Nat.eq_zero_or_pos (i-tr.length) with z|z
   ·exact z
   ·rw[List.getElem?_eq_none (by simp;omega)] at h;cases h
  rw[this] at h;simp at h;exact .inr ⟨by omega,h.symm⟩
theorem Zcj{tr:ZQ}{x y:Int×Option Trip}{i:Nat}(h:tr[i]? =some y):(tr++ [x])[i]? =some y:=by
 rw[List.getElem?_append_left (List.getElem?_eq_some_iff.mp h).1];exact h
theorem Y2.snoc(g:Y2 ways first tr){w p b:Int}{al:Bool}{j:Nat}{s:Option Trip}(hp:tr[j]? =some (p,s))(hw:(w,b,al)∈ways p)(hn:w∉keys tr):Y2 ways first (tr++ [(w,some (p,b,al))]):=by
 have hj:=(List.getElem?_eq_some_iff.mp hp).1;refine⟨Zcj g.head,?_,fun i w' p' b' al' h=>?_,fun i w' h=>?_⟩
 ·rw[Zaw];refine List.nodup_append.mpr ⟨g.nodup,by simp,fun x hx y hy=>?_⟩;rw[List.mem_singleton.mp hy];intro e;exact hn (e▸hx)
 ·rcases Zd1 h with z|⟨rfl,z⟩
  ·obtain⟨h1,j',s',h2,h3⟩:=g.steps i w' p' b' al' z;exact⟨h1,j',s',h2,Zcj h3⟩
  ·cases z;exact⟨hw,j,s,hj,Zcj hp⟩
 ·rcases Zd1 h with z|⟨rfl,z⟩
  ·exact g.only i w' z
  ·cases z
theorem UN.snoc{d:Nat}(h:UN ways tr d)(hd:d≤tr.length)(w:Int)(s:Option Trip):UN ways (tr++ [(w,s)]) d:=fun j w' s' hj e t ht=>by
 rw[Zaw];refine List.mem_append_left _ ?_;rcases Zd1 e with z|⟨rfl,_⟩
 ·exact h j w' s' hj z t ht
 ·omega
theorem UN.next{d:Nat}{w:Int}{s:Option Trip}(h:UN ways tr d)(e:tr[d]? =some (w,s))(all:∀t∈ways w,t.1∈keys tr):UN ways tr (d+1):=fun j w' s' hj e' t ht=>by
 rcases Nat.lt_succ_iff_lt_or_eq.mp hj with z|rfl
 ·exact h j w' s' z e' t ht
 ·rw[e] at e';cases e';exact all t ht
inductive Vk(ways:Int→List Trip)(a:Int):Int→Prop
 |refl:Vk ways a a
 |step {b c:Int} {t:Int} {al:Bool}:Vk ways a b→(c,t,al)∈ways b→Vk ways a c
theorem Vk.trans{a b c:Int}(h:Vk ways a b)(k:Vk ways b c):Vk ways a c:=by
 induction k with
 |refl=>exact h
 |step _ e ih=>exact .step ih e
def Zjl(ways:Int→List Trip):Prop:=∀(a b t:Int)(al:Bool),(b,t,al)∈ways a→(a,t,!al)∈ways b
theorem Vk.symm(hb:Zjl ways){a b:Int}(h:Vk ways a b):Vk ways b a:=by
 induction h with
 |refl=>exact .refl
 |step _ e ih=>exact(Vk.step .refl (hb _ _ _ _ e)).trans ih
theorem Y2.hang(g:Y2 ways first tr):∀(i:Nat)(w:Int)(s:Option Trip),tr[i]? =some (w,s)→Vk ways first w:=by
 intro i
 induction i using Nat.strongRecOn with
 |_ i ih=>
  intro w s h;cases s with
  |none=>
   have:=g.only i w h;subst this;rw[g.head] at h;cases h;exact .refl
  |some x=>
   obtain⟨p,b,al⟩:=x;obtain⟨h1,j,s',h2,h3⟩:=g.steps i w p b al h;exact .step (ih j h2 p s' h3) h1
theorem Y2.keys_iff(g:Y2 ways first tr)(c:UN ways tr tr.length)(w:Int):w∈keys tr↔Vk ways first w:=by
 constructor
 ·intro h;obtain⟨i,s,hi⟩:=Zcl h;exact g.hang i w s hi
 ·intro h
  induction h with
  |refl=>exact ZcX g.head
  |step _ e ih=>
   obtain⟨i,s,hi⟩:=Zcl ih;exact c i _ s (List.getElem?_eq_some_iff.mp hi).1 hi _ e
theorem Y2.rg(g:Y2 ways first tr){n:Int}(h0:0≤first∧first<n)(hw:∀a,∀t∈ways a,0≤t.1∧t.1<n):∀w∈keys tr,0≤w∧w<n:=by
 intro w h;obtain⟨i,s,hi⟩:=Zcl h;have:=g.hang i w s hi;cases this with
 |refl=>exact h0
 |step _ e=>exact hw _ _ e
theorem Vm{ks:List Int}{n:Nat}(nd:ks.Nodup)(h:∀w∈ks,0≤w∧w<(n:Int)):ks.length≤n:=by
 have h1:=nd.length_le_of_subset (l₂:=(List.range n).map fun i:Nat=>(i:Int)) (fun w hw=>by
  obtain⟨a,b⟩:=h w hw;exact List.mem_map.mpr ⟨w.toNat,List.mem_range.mpr (by omega),by omega⟩)
 simpa using h1
end
structure Vf(ways:Int→List Trip)(n:Nat)(F:List (Int×ZQ))(i:Nat):Prop where
 tree:∀x∈F,Y2 ways x.1 x.2∧UN ways x.2 x.2.length∧0≤x.1∧x.1<(i:Int)
 all:∀w:Int,0≤w→w<(i:Int)→∃x∈F,w∈keys x.2
 rise:F.Pairwise fun x y=>x.1<y.1
 least:∀x∈F,∀w∈keys x.2,x.1≤w
section
variable {ways:Int→List Trip}{n i:Nat}{F:List (Int×ZQ)}
theorem Zjg:Vf ways n [] 0:=⟨by simp,fun w h0 h1=>by omega,.nil,by simp⟩
theorem Vf.skip(h:Vf ways n F i)(hi:∃x∈F,(i:Int)∈keys x.2):Vf ways n F (i+1):=
 ⟨fun x hx=>by obtain⟨a,b,c,d⟩:=h.tree x hx;exact⟨a,b,c,by omega⟩,fun w h0 h1=>by
  by_cases e:w=(i:Int)
  ·rw[e];exact hi
  ·exact h.all w h0 (by omega),h.rise,h.least⟩
theorem Vf.grow(hb:Zjl ways)(hw:∀a,∀t∈ways a,0≤t.1∧t.1<(n:Int))(hin:i<n)(h:Vf ways n F i)(hi:∀x∈F,(i:Int)∉keys x.2){tr:ZQ}(g:Y2 ways i tr)(c:UN ways tr tr.length):Vf ways n (F++ [((i:Int),tr)]) (i+1):=by
 refine⟨fun x hx=>?_,fun w h0 h1=>?_,List.pairwise_append.mpr ⟨h.rise,by simp,fun x hx y hy=>?_⟩,fun x hx=>?_⟩
 ·rcases List.mem_append.mp hx with z|z
  ·obtain⟨a,b,c,d⟩:=h.tree x z;exact⟨a,b,c,by omega⟩
  ·rw[List.mem_singleton.mp z];exact⟨g,c,by simp,by simp;omega⟩
 ·by_cases e:w=(i:Int)
  ·exact⟨_,List.mem_append_right _ (List.mem_singleton.mpr rfl),by rw[e];exact ZcX g.head⟩
  ·obtain⟨x,hx,hk⟩:=h.all w h0 (by omega);exact⟨x,List.mem_append_left _ hx,hk⟩
 ·rw[List.mem_singleton.mp hy];exact(h.tree x hx).2.2.2
 ·rcases List.mem_append.mp hx with z|z
  ·exact h.least x z
  ·rw[List.mem_singleton.mp z];intro w hk;rcases Int.lt_or_le w (i:Int) with y|y
   ·exfalso;have hr:=g.rg ⟨by omega,by omega⟩ hw w hk;obtain⟨x',hx',hk'⟩:=h.all w hr.1 y;obtain⟨g',c',_,_⟩:=h.tree x' hx';have h1:=(g'.keys_iff c' w).mp hk';have h2:=((g.keys_iff c w).mp hk).symm hb;exact hi x' hx' ((g'.keys_iff c' _).mpr (h1.trans h2))
   ·exact y
end
end Fo
namespace Fire
noncomputable def bump (c:Nat→Nat) (w:Nat):Nat→Nat:=fun v=>if v=w then c v+1 else c v
theorem W0(c:Nat→Nat)(w:Nat):bump c w w=c w+1:=by simp[bump]
theorem Va(c:Nat→Nat){v w:Nat}(h:v≠w):bump c w v=c v:=by simp[bump,h]
theorem Zkp(c:Nat→Nat)(w v:Nat):c v≤bump c w v:=by unfold bump;split<;>omega
def ZjG(R:(Nat→Nat)→Nat→Prop):Prop:=∀c c' w,(∀v,c v≤c' v)→c w=c' w→R c w→R c' w
inductive Yd(R:(Nat→Nat)→Nat→Prop):(Nat→Nat)→List Nat→(Nat→Nat)→Prop
 |nil (c:Nat→Nat):Yd R c [] c
 |cons {c d:Nat→Nat} {w:Nat} {ws:List Nat}:R c w→Yd R (bump c w) ws d→Yd R c (w::ws) d
variable {R:(Nat→Nat)→Nat→Prop}
theorem Yd.up{c d:Nat→Nat}{ws:List Nat}(h:Yd R c ws d):∀v,c v≤d v:=by
 induction h with
 |nil c=>exact fun v=>Nat.le_refl _
 |cons _ _ ih=>exact fun v=>Nat.le_trans (Zkp _ _ v) (ih v)
theorem Yd.under(m:ZjG R){c d e:Nat→Nat}{ws:List Nat}(h:Yd R c ws d)(st:∀w,¬R e w)(le:∀v,c v≤e v):∀v,d v≤e v:=by
 induction h with
 |nil c=>exact le
 | @cons c d w ws r _ ih=>
  refine ih fun v=>?_
  by_cases hv:v=w
  ·subst hv;rw[W0];have h1:=le v
   by_cases h2:c v=e v
   ·exact absurd (m c e v le h2 r) (st v)
   ·omega
  ·rw[Va c hv];exact le v
theorem Yd.one(m:ZjG R){c d d':Nat→Nat}{ws ws':List Nat}(h:Yd R c ws d)(s:∀w,¬R d w)(h':Yd R c ws' d')(s':∀w,¬R d' w):d=d':=by
 funext v
 exact Nat.le_antisymm (h.under m s' h'.up v) (h'.under m s h.up v)
theorem Yd.app{c d e:Nat→Nat}{ws ws':List Nat}(h:Yd R c ws d)(h':Yd R d ws' e):Yd R c (ws++ws') e:=by
 induction h with
 |nil c=>exact h'
 |cons r _ ih=>exact .cons r (ih h')
theorem Yd.snoc{c d:Nat→Nat}{ws:List Nat}{w:Nat}(h:Yd R c ws d)(r:R d w):Yd R c (ws++ [w]) (bump d w):=h.app (.cons r (.nil _))
theorem Yd.count{c d:Nat→Nat}{ws:List Nat}(h:Yd R c ws d):∀v,d v=c v+ws.count v:=by
 induction h with
 |nil c=>intro v;simp
 | @cons c d w ws r _ ih=>
  intro v;rw[ih v]
  by_cases hv:v=w
  ·subst hv;rw[W0,List.count_cons_self];omega
  ·rw[Va c hv,List.count_cons_of_ne (Ne.symm hv)]
structure Belt where
 giver:Nat
 taker:Nat
 give:Int
 take:Int
 start:Int
noncomputable def lie (b:Belt) (c:Nat→Nat):Int:=b.start+b.give*(c b.giver:Int)-b.take*(c b.taker:Int)
def Zmo(bs:List Belt)(c:Nat→Nat)(w:Nat):Prop:=∀b∈bs,b.taker=w→b.take≤lie b c
def May(bs:List Belt)(n:Nat)(rate:Nat→Nat)(c:Nat→Nat)(w:Nat):Prop:=w<n∧c w<rate w∧Zmo bs c w
theorem Zi7{b:Belt}(h:0≤b.give){c c':Nat→Nat}(le:∀v,c v≤c' v)(e:c b.taker=c' b.taker):lie b c≤lie b c':=by
 unfold lie;rw[e];have:b.give*(c b.giver:Int)≤b.give*(c' b.giver:Int):=Int.mul_le_mul_of_nonneg_left (by have:=le b.giver;omega) h;omega
theorem ZfS{bs:List Belt}{n:Nat}{rate:Nat→Nat}(h:∀b∈bs,0≤b.give):ZjG (May bs n rate):=by
 rintro c c' w le e ⟨h1,h2,h3⟩;refine⟨h1,by omega,fun b hb ht=>Int.le_trans (h3 b hb ht) (Zi7 (h b hb) le ?_)⟩;rw[ht];exact e
def Bal(bs:List Belt)(rate:Nat→Nat):Prop:=∀b∈bs,b.give*(rate b.giver:Int)=b.take*(rate b.taker:Int)
theorem Zgk{bs:List Belt}{rate c:Nat→Nat}{b:Belt}(hb:b∈bs)(bal:Bal bs rate)(hs:0≤b.start)(ht:0≤b.take)(le:c b.giver≤rate b.giver)(tl:c b.taker<rate b.taker)(short:lie b c<b.take):c b.giver<rate b.giver:=by
 rcases Nat.lt_or_ge (c b.giver) (rate b.giver) with h|h
 ·exact h
 ·exfalso;have e:c b.giver=rate b.giver:=by omega
  unfold lie at short;rw[e,bal b hb] at short;have:b.take*((c b.taker:Int)+1)≤b.take*(rate b.taker:Int):=Int.mul_le_mul_of_nonneg_left (by omega) ht;rw[Int.mul_add,Int.mul_one] at this;omega
end Fire
set_option Elab.async false
set_option linter.all false
set_option maxRecDepth 100000
set_option maxHeartbeats 4000000
local macro_rules| `(tactic|walk_at "mul")=>`(tactic|k_dflt (first|with_reducible assumption|exact L2.Zhc.ok (Or.inr ⟨by omega,by omega⟩)|exact L2.Zhc.ok (Or.inl ⟨by omega,by omega⟩)))
local macro_rules| `(tactic|walk_at "lk")=>`(tactic|first|exact L2.Rd.lk0|exact L2.Rd.lkN|(refine L2.Rd.lk1 (by decide+kernel) ?_;walk_at "lk"))
local macro_rules| `(tactic|walk_at "pf")=>`(tactic|first|exact L2.Rd.pfN|(apply L2.Rd.pf1;(decide+kernel);walk_at "pf"))
local macro_rules| `(tactic|walk_at "na")=>`(tactic|exact L2.Za5.get (by with_reducible assumption) (by decide+kernel))
local macro_rules| `(tactic|walk_at "cond")=>`(tactic|k_dflt (first|with_reducible assumption|decide|omega|(simp;done)|(simp only[List.length_cons,List.length_nil,List.length_map,List.length_append];omega)))
local macro_rules| `(tactic|walk_at "rdis")=>`(tactic|((with_reducible show ∃x n t b,_=_∧L2.Wr _ _ x t∧_);first|with_reducible apply L2.Rd.Zhx|with_reducible apply L2.Rd.Zgg|with_reducible apply L2.Rd.is_int_str|with_reducible apply L2.Rd.is_int_list|with_reducible apply L2.Rd.is_int_tuple|with_reducible apply L2.Rd.is_int_dict|with_reducible apply L2.Rd.is_bl_int|with_reducible apply L2.Rd.is_bl_bool|with_reducible apply L2.Rd.is_bl_str|with_reducible apply L2.Rd.is_bl_list|with_reducible apply L2.Rd.is_bl_tuple|with_reducible apply L2.Rd.is_bl_dict|with_reducible apply L2.Rd.is_str_int|with_reducible apply L2.Rd.is_str_bool|with_reducible apply L2.Rd.ZhF|with_reducible apply L2.Rd.is_str_list|with_reducible apply L2.Rd.is_str_tuple|with_reducible apply L2.Rd.is_str_dict|with_reducible apply L2.Rd.is_non_int|with_reducible apply L2.Rd.is_non_bool|with_reducible apply L2.Rd.is_non_str|with_reducible apply L2.Rd.is_non_list|with_reducible apply L2.Rd.is_non_tuple|with_reducible apply L2.Rd.is_non_dict|with_reducible refine L2.Rd.is_lst_int (by with_reducible assumption) ?_|with_reducible refine L2.Rd.is_lst_bool (by with_reducible assumption) ?_|with_reducible refine L2.Rd.is_lst_str (by with_reducible assumption) ?_|with_reducible refine L2.Rd.ZfZ (by with_reducible assumption) ?_|with_reducible refine L2.Rd.is_lst_tuple (by with_reducible assumption) ?_|with_reducible refine L2.Rd.is_lst_dict (by with_reducible assumption) ?_|with_reducible refine L2.Rd.is_tup_int (by with_reducible assumption) ?_|with_reducible refine L2.Rd.is_tup_bool (by with_reducible assumption) ?_|with_reducible refine L2.Rd.is_tup_str (by with_reducible assumption) ?_|with_reducible refine L2.Rd.is_tup_list (by with_reducible assumption) ?_|with_reducible refine L2.Rd.ZfA (by with_reducible assumption) ?_|with_reducible refine L2.Rd.is_tup_dict (by with_reducible assumption) ?_|with_reducible refine L2.Rd.is_dK_int (by with_reducible assumption) ?_|with_reducible refine L2.Rd.is_dK_bool (by with_reducible assumption) ?_|with_reducible refine L2.Rd.is_dK_str (by with_reducible assumption) ?_|with_reducible refine L2.Rd.is_dK_list (by with_reducible assumption) ?_|with_reducible refine L2.Rd.is_dK_tuple (by with_reducible assumption) ?_|with_reducible refine L2.Rd.is_dK_dict (by with_reducible assumption) ?_))
local macro_rules| `(tactic|walk_at "side")=>`(tactic|k_dflt (first|with_reducible assumption|decide|(dsimp only;decide)|(dsimp only[L2.CPow];decide)|omega|(dsimp only;omega)))
local macro_rules| `(tactic|walk_at "hp")=>`(tactic|with_reducible (first|assumption|((show L2.SqL _ _ _ _);(first|exact L2.SqL.of (by assumption)|exact L2.WB.sq (by assumption)|exact L2.Ze.seq (by assumption) (by assumption)))|((show L2.SqT _ _ _ _);(first|exact L2.SqT.of (by assumption)|exact L2.OffT.sq (by assumption)|exact L2.Ze.seqT (by assumption) (by assumption)))))
local macro_rules| `(tactic|walk_at "rd")=>`(tactic|first|with_reducible (first|apply L2.Rd.seq|apply L2.Rd.asg|apply L2.Rd.ret|apply L2.Rd.ifs|apply L2.Rd.next|apply L2.Rd.drop|apply L2.Rd.op|apply L2.Rd.Zna|apply L2.Rd.con|(show L2.ZgY _ _ _ _;refine L2.Rd.var (by k_dflt rfl) ?_)|(show L2.US _ _ _ _ _;refine L2.Rd.Zmd (by k_dflt (dsimp only[L2.start,List.map_cons,List.map_nil,List.cons_append,List.nil_append,List.length_cons,List.length_nil,Nat.reduceAdd,Nat.reduceSub,List.replicate,List.set];(try rfl))) ?_)|apply L2.Rd.call|apply L2.Rd.cons|apply L2.Rd.nil|apply L2.Rd.cb|apply L2.Rd.tup|apply L2.Rd.lst|apply L2.Rd.ZmO|apply L2.Rd.or_|apply L2.Rd.Zmx|apply L2.Rd.Zmw|apply L2.Rd.ZmZ|apply L2.Rd.i0|(show L2.rI _ _ _ _ _ _;refine L2.Rd.iC (by walk_at "side") ?_)|apply L2.Rd.bl|apply L2.Rd.Znk|(show L2.rOr L2.Zg5 _ _ _ _ _;refine L2.Rd.Znd (by walk_at "mul") ?_)|apply L2.Rd.ZmT|apply L2.Rd.ZmM|apply L2.Rd.ZmI|(show L2.rOr _ (L2.rOr L2.ZeN _) (L2.V.str _) (L2.V.str _) _ _;refine L2.Rd.Zld (by walk_at "side") ?_)|(show L2.rIx _ _ _ _ _;refine L2.Rd.ZmB (by walk_at "hp") (by k_dflt rfl) ?_)|(show L2.rIx _ _ _ _ _;refine L2.Rd.Zni (by walk_at "hp") (by k_dflt (first|rfl|with_reducible assumption)) ?_)|(show ∃a,L2.V.ref _=L2.V.ref a∧(∃xs,L2.SqL _ _ a xs)∧_;refine L2.Rd.ZlE (by walk_at "hp") ?_)|(show ∃k,[L2.V.int _]=[L2.V.int k]∧_;refine L2.Rd.Zmf (by k_dflt omega) (by k_dflt omega) ?_)|(show ∃x n,_=_∧L2.Zbe _ x _ n∧_;refine L2.Rd.Zmm (by walk_at "hp") ?_)|(show ∃x n,_=_∧L2.Zbe _ x _ n∧_;refine L2.Rd.ZmE (by walk_at "hp") ?_)|(show ∃x n,_=_∧L2.Zbe _ x _ n∧_;refine L2.Rd.ZmS (by walk_at "side") ?_))|walk_at "rdis" |with_reducible (first|apply L2.Rd.ZmY|apply L2.Rd.tru|apply L2.Rd.Znf|apply L2.Rd.Zm2|apply L2.Rd.ZmJ|apply L2.Rd.bm|(show L2.tyV _ _ _ _∧_;refine L2.Rd.tyl (by with_reducible assumption) ?_)|(show L2.rAppend _ _ _ _;refine L2.Rd.app (by with_reducible assumption) (by walk_at "side") ?_)|apply L2.Zfw|apply L2.ZfL|apply L2.Rd.ZjW|apply L2.Rd.Zj1|(show if decide _=true then _ else _;refine L2.Rd.ifP (by walk_at "cond") ?_)|(show if decide _=true then _ else _;refine L2.Rd.ifN (by walk_at "cond") ?_)|(show if(!decide _)=true then _ else _;refine L2.Rd.Zm1 (by walk_at "cond") ?_)|(show if(!decide _)=true then _ else _;refine L2.Rd.Zm8 (by walk_at "cond") ?_)|apply L2.Rd.sl|apply L2.Rd.ZlK|apply L2.Rd.Zmv|apply L2.Rd.Zmg|(show L2.ZdM _ _ _ _ _ _;refine L2.Rd.slS (by walk_at "side") ?_)|apply L2.Rd.Znl|(show ∃a C dx fs v,L2.V.ref _=L2.V.ref a∧_=some (L2.HO.ins C dx fs)∧L2.Cls _ C∧_;refine L2.Rd.fld (by with_reducible assumption) (by with_reducible assumption) (by k_dflt (walk_at "na")) (by k_dflt (walk_at "lk")) ?_)|apply L2.Rd.Zm9|(show L2.rSetL _ _ _ _ _;refine L2.Rd.ZmR (by with_reducible assumption) (by k_dflt omega) (by walk_at "cond") ?_)|apply L2.Rd.ZlX|apply L2.Rd.Zl1|apply L2.Rd.ZmX|(show ∃a C dx fs,L2.V.ref _=L2.V.ref a∧_=some (L2.HO.ins C dx fs)∧L2.Cls _ C∧_;refine L2.Rd.Zml (by with_reducible (first|assumption|exact L2.Zd)) (by with_reducible assumption) (by k_dflt (walk_at "na")) (by k_dflt (simp only[List.length_cons,List.length_nil];decide)) (by k_dflt (walk_at "pf")) ?_)|apply L2.Rd.Zmb|apply L2.Rd.Zk2|apply L2.Rd.Zmp|apply L2.Rd.Zmz|apply L2.Rd.Zl3|apply L2.Rd.ZmQ|apply L2.Rd.Zmn|(show L2.rIn _ _ _ _ _ _;refine L2.Rd.inI (by walk_at "hp") ?_)|(show L2.rIn _ _ _ _ _ _;refine L2.Rd.Zne (by walk_at "hp") ?_)|(show ∃p bs,[L2.V.ref _]=[L2.V.ref p]∧L2.SqL _ _ p (List.map L2.V.bl bs)∧_;refine L2.Rd.Zm3 (by walk_at "hp") ?_)|apply L2.Rd.leS|apply L2.Rd.Zl4)|((with_reducible show if(!(_==_))=true then _ else _);first|refine L2.Rd.ZjW ?_|refine L2.Rd.Zj1 ?_)|((with_reducible show if(_==_)=true then _ else _);first|refine L2.Zfw ?_|refine L2.ZfL ?_)|with_reducible (first|apply L2.Rd.Zll|apply L2.Rd.Zl0|(show ∃a,_=_∧(∃xs,L2.SqL _ _ a xs)∧_;refine L2.Rd.Zk0 (by walk_at "hp") ?_)|apply L2.Rd.Znh)|((with_reducible show L2.rDIn _ _ _ _);first|with_reducible refine L2.Rd.Zm0 (by with_reducible assumption) ?_|with_reducible refine L2.Rd.dinI (by with_reducible assumption) ?_)|((with_reducible show L2.rDNotIn _ _ _ _);first|with_reducible refine L2.Rd.dninS (by with_reducible assumption) ?_|with_reducible refine L2.Rd.Zmh (by with_reducible assumption) ?_)|((with_reducible show L2.rIxD _ _ _ _);first|with_reducible refine L2.Rd.dgetS (by with_reducible assumption) (by with_reducible assumption) ?_|with_reducible refine L2.Rd.Zl6 (by with_reducible assumption) (by with_reducible assumption) ?_)|((with_reducible show L2.rSetD _ _ _ _ _);first|with_reducible refine L2.Rd.Zms (by with_reducible assumption) (by walk_at "side") ?_|with_reducible refine L2.Rd.Zma (by with_reducible assumption) (by walk_at "side") ?_)|with_reducible (first|(show L2.rLenD _ _ _;refine L2.Rd.ZmC (by with_reducible assumption) ?_)|(show L2.rListD _ _ _;refine L2.Rd.Zme (by with_reducible assumption) ?_)|apply L2.Rd.ZmD|apply L2.Rd.ipi|(show L2.ZdU _ _ _ _ _;refine L2.Rd.ixl (by walk_at "hp") (by k_dflt (first|rfl|with_reducible assumption)) ?_)|apply L2.Rd.Zm7|apply L2.Rd.ZmL|apply L2.Rd.Znj|apply L2.Rd.ZlW))
local macro_rules| `(tactic|walk_at "rds")=>`(tactic|repeat' (walk_at "rd"))
namespace Nm
open PySem L2
noncomputable def top (i:Nat):Stmt:=PySem.Challenge.pw_ratehall_k13_stop_walked.main.body.getD i (.Pass ⟨0,0,0,0⟩)
noncomputable abbrev Za6:Stmt:=top 52
noncomputable abbrev ZaC:Stmt:=top 53
noncomputable abbrev UA:Stmt:=top 54
noncomputable abbrev Zbo:Stmt:=top 58
noncomputable abbrev ZaH:Stmt:=top 59
noncomputable abbrev Uw:Stmt:=top 56
noncomputable abbrev ZaG:Stmt:=top 57
noncomputable abbrev Ut:Stmt:=top 60
noncomputable abbrev Ud:Stmt:=Yv (top 49) 7
noncomputable abbrev Vn:Stmt:=top 40
noncomputable abbrev V7:Stmt:=Yv (top 49) 5
noncomputable abbrev UK:Stmt:=top 25
noncomputable abbrev Uq:Stmt:=top 26
noncomputable abbrev Uv:Stmt:=top 24
noncomputable abbrev ZaF:Stmt:=top 12
noncomputable abbrev Zcf:Stmt:=top 14
noncomputable abbrev Zb8:Stmt:=top 15
noncomputable abbrev Zc3:Stmt:=top 33
noncomputable abbrev UU:Stmt:=top 16
noncomputable abbrev Zau:Stmt:=top 17
noncomputable abbrev Wu:Stmt:=top 18
noncomputable abbrev WG:Stmt:=Yv (top 49) 12
noncomputable abbrev Ve:Stmt:=Yv (top 49) 8
noncomputable abbrev Uy:Stmt:=top 32
noncomputable abbrev U1:Stmt:=top 13
noncomputable abbrev VW:Stmt:=top 31
noncomputable abbrev Vq:Stmt:=top 29
noncomputable abbrev Zbi:Stmt:=top 27
noncomputable abbrev W7:Stmt:=top 35
noncomputable abbrev Vc:Stmt:=top 34
noncomputable abbrev U3:Stmt:=top 30
noncomputable abbrev Vv:Stmt:=top 39
noncomputable abbrev Zac:Stmt:=top 22
noncomputable abbrev Y1:Stmt:=Yv (top 41) 2
noncomputable abbrev YU:Stmt:=Yv (top 41) 4
noncomputable abbrev Y4:Stmt:=Yv (top 41) 3
noncomputable abbrev YL:Stmt:=Yv (top 41) 1
noncomputable abbrev WF:Stmt:=Yv (top 49) 11
noncomputable abbrev Wk:Stmt:=Yv (top 49) 9
noncomputable abbrev V3:Stmt:=top 20
noncomputable abbrev Wx:Stmt:=Yv (top 49) 10
noncomputable abbrev V6:Stmt:=top 21
noncomputable abbrev WT:Stmt:=top 42
noncomputable abbrev YX:Stmt:=Yv (top 41) 0
noncomputable abbrev UY:Stmt:=top 38
noncomputable abbrev ZaI:Stmt:=top 61
noncomputable abbrev Wl:Stmt:=top 62
noncomputable abbrev Zat:Stmt:=top 63
noncomputable abbrev Zag:Stmt:=top 64
noncomputable abbrev Zbk:Stmt:=top 55
noncomputable abbrev UF:Stmt:=top 45
noncomputable abbrev Ur:Stmt:=Yv (top 49) 1
noncomputable abbrev VQ:Stmt:=top 50
noncomputable abbrev U2:Stmt:=Yv (top 49) 3
noncomputable abbrev UB:Stmt:=Yv (top 49) 2
noncomputable abbrev Ux:Stmt:=Yv (top 49) 4
noncomputable abbrev UD:Stmt:=Yv (top 49) 0
noncomputable abbrev Zdj:Stmt:=top 65
theorem ZhX:Zt ["_law_script","_law_k"] ["_law_script","_law_k"] (Zi Za6):=⟨rfl,rfl,rfl,by decide+kernel,rfl,by decide+kernel,by decide+kernel⟩
theorem ZhA:Zt ["_law_script","_law_k"] ["_law_script","_law_k"] (Zi ZaC):=⟨rfl,rfl,rfl,by decide+kernel,rfl,by decide+kernel,by decide+kernel⟩
theorem VR:Zt ["_law_one","_law_other","_law_rest"] ["_law_one","_law_other"] (Zi UA):=⟨rfl,rfl,rfl,by decide+kernel,rfl,by decide+kernel,by decide+kernel⟩
theorem Zar:Zt ["_law_script","_law_k","_law_sizes","_law_giver","_law_taker","_law_mixed_here","_law_both","_law_factor"] ["_law_script","_law_k","_law_sizes","_law_giver","_law_taker"] (Zi Zbo):=⟨rfl,rfl,rfl,by decide+kernel,rfl,by decide+kernel,by decide+kernel⟩
theorem Y5:Zt ["_law_script","_law_sizes","_law_order","_law_k","_law_closed","_law_lines_here","_law_mixed_here","_law_line_here"] ["_law_script","_law_sizes"] (Zi ZaH):=⟨rfl,rfl,rfl,by decide+kernel,rfl,by decide+kernel,by decide+kernel⟩
theorem VX:Zt ["_law_lines_here","_law_first","_law_many","_law_piece","_law_lap","_law_line_here"] ["_law_lines_here","_law_first","_law_many"] (Zi Uw):=⟨rfl,rfl,rfl,by decide+kernel,rfl,by decide+kernel,by decide+kernel⟩
theorem W6:Zt ["_law_lines_here","_law_sizes","_law_rates_here","_law_work","_law_both","_law_other"] ["_law_lines_here","_law_sizes"] (Zi ZaG):=⟨rfl,rfl,rfl,by decide+kernel,rfl,by decide+kernel,by decide+kernel⟩
theorem Yz:Zt ["_law_script","_law_lines_here","_law_rates_here","_law_made","_law_k","_law_giver","_law_taker","_law_give","_law_take","_law_mixed_here","_law_start"] ["_law_script","_law_lines_here","_law_rates_here"] (Zi Ut):=⟨rfl,rfl,rfl,by decide+kernel,rfl,by decide+kernel,by decide+kernel⟩
theorem ZeK:Zt ["self"] ["self"] (Zi Ud):=⟨rfl,rfl,rfl,by decide+kernel,rfl,by decide+kernel,by decide+kernel⟩
theorem Zfd:Zt ["hall"] ["hall"] (Zi Vn):=⟨rfl,rfl,rfl,by decide+kernel,rfl,by decide+kernel,by decide+kernel⟩
theorem ZeJ:Zt ["self"] ["self"] (Zi V7):=⟨rfl,rfl,rfl,by decide+kernel,rfl,by decide+kernel,by decide+kernel⟩
theorem UV:Zt ["hall","ways","belt","row"] ["hall"] (Zi UK):=⟨rfl,rfl,rfl,by decide+kernel,rfl,by decide+kernel,by decide+kernel⟩
theorem Yy:Zt ["ways","first","tree","reached","done","work","other","belt","along"] ["ways","first"] (Zi Uq):=⟨rfl,rfl,rfl,by decide+kernel,rfl,by decide+kernel,by decide+kernel⟩
theorem Wz:Zt ["hall","ways","seen","forest","work","tree"] ["hall"] (Zi Uv):=⟨rfl,rfl,rfl,by decide+kernel,rfl,by decide+kernel,by decide+kernel⟩
theorem UX:Zt ["one","other","rest"] ["one","other"] (Zi ZaF):=⟨rfl,rfl,rfl,by decide+kernel,rfl,by decide+kernel,by decide+kernel⟩
theorem Ze5:Zt ["top","bottom","common"] ["top","bottom"] (Zi Zcf):=⟨rfl,rfl,rfl,by decide+kernel,rfl,by decide+kernel,by decide+kernel⟩
theorem ZjQ:Zt ["one","other"] ["one","other"] (Zi Zb8):=⟨rfl,rfl,rfl,by decide+kernel,rfl,by decide+kernel,by decide+kernel⟩
theorem ZkJ:Zt ["row","along"] ["row","along"] (Zi Zc3):=⟨rfl,rfl,rfl,by decide+kernel,rfl,by decide+kernel,by decide+kernel⟩
theorem Zf3:Zt ["thing"] ["thing"] (Zi UU):=⟨rfl,rfl,rfl,by decide+kernel,rfl,by decide+kernel,by decide+kernel⟩
theorem Zg4:Zt ["thing","least"] ["thing","least"] (Zi Zau):=⟨rfl,rfl,rfl,by decide+kernel,rfl,by decide+kernel,by decide+kernel⟩
theorem ZbP:Zt ["thing","bound"] ["thing","bound"] (Zi Wu):=⟨rfl,rfl,rfl,by decide+kernel,rfl,by decide+kernel,by decide+kernel⟩
theorem Zcp:Zt ["self","belt"] ["self","belt"] (Zi WG):=⟨rfl,rfl,rfl,by decide+kernel,rfl,by decide+kernel,by decide+kernel⟩
theorem Zc6:Zt ["self","belt"] ["self","belt"] (Zi Ve):=⟨rfl,rfl,rfl,by decide+kernel,rfl,by decide+kernel,by decide+kernel⟩
theorem Ue:Zt ["hall","tree","shares","work","step"] ["hall","tree"] (Zi Uy):=⟨rfl,rfl,rfl,by decide+kernel,rfl,by decide+kernel,by decide+kernel⟩
theorem Zf7:Zt ["one","other"] ["one","other"] (Zi U1):=⟨rfl,rfl,rfl,by decide+kernel,rfl,by decide+kernel,by decide+kernel⟩
theorem YI:Zt ["hall","forest","rates","tree","shares","common","share","work"] ["hall","forest"] (Zi VW):=⟨rfl,rfl,rfl,by decide+kernel,rfl,by decide+kernel,by decide+kernel⟩
theorem ZfM:Zt ["hall","counts"] ["hall","counts"] (Zi Vq):=⟨rfl,rfl,rfl,by decide+kernel,rfl,by decide+kernel,by decide+kernel⟩
theorem ZiP:Zt ["tree","work","way","step"] ["tree","work"] (Zi Zbi):=⟨rfl,rfl,rfl,by decide+kernel,rfl,by decide+kernel,by decide+kernel⟩
theorem ZdC:Zt ["one","other","shared"] ["one","other"] (Zi W7):=⟨rfl,rfl,rfl,by decide+kernel,rfl,by decide+kernel,by decide+kernel⟩
theorem Zc4:Zt ["hall","forest","belt","row","tree","to_giver","to_taker","shared","back"] ["hall","forest","belt"] (Zi Vc):=⟨rfl,rfl,rfl,by decide+kernel,rfl,by decide+kernel,by decide+kernel⟩
theorem Vr:Zt ["hall","forest","rates","belt","change"] ["hall"] (Zi U3):=⟨rfl,rfl,rfl,by decide+kernel,rfl,by decide+kernel,by decide+kernel⟩
theorem ZaT:Zt ["hall","rates"] ["hall"] (Zi Vv):=⟨rfl,rfl,rfl,by decide+kernel,rfl,by decide+kernel,by decide+kernel⟩
theorem Zh8:Zt ["heaps","takes"] ["heaps","takes"] (Zi Zac):=⟨rfl,rfl,rfl,by decide+kernel,rfl,by decide+kernel,by decide+kernel⟩
theorem ZR:Zt ["self","starts","heaps","left","able","row","work","belt","take","give","other"] ["self","starts"] (Zi Y1):=⟨rfl,rfl,rfl,by decide+kernel,rfl,by decide+kernel,by decide+kernel⟩
theorem Ys:Zt ["self","starts","counts","waits","belt","row","lying"] ["self","starts","counts"] (Zi YU):=⟨rfl,rfl,rfl,by decide+kernel,rfl,by decide+kernel,by decide+kernel⟩
theorem Ye:Zt ["self","starts","counts","waits","places","way","work"] ["self","starts","counts"] (Zi Y4):=⟨rfl,rfl,rfl,by decide+kernel,rfl,by decide+kernel,by decide+kernel⟩
theorem WN:Zt ["self","starts","row","counts"] ["self","starts"] (Zi YL):=⟨rfl,rfl,rfl,by decide+kernel,rfl,by decide+kernel,by decide+kernel⟩
theorem Zcq:Zt ["self","work"] ["self","work"] (Zi WF):=⟨rfl,rfl,rfl,by decide+kernel,rfl,by decide+kernel,by decide+kernel⟩
theorem ZcO:Zt ["self","work"] ["self","work"] (Zi Wk):=⟨rfl,rfl,rfl,by decide+kernel,rfl,by decide+kernel,by decide+kernel⟩
theorem Zgq:Zt ["hall","work"] ["hall","work"] (Zi V3):=⟨rfl,rfl,rfl,by decide+kernel,rfl,by decide+kernel,by decide+kernel⟩
theorem Zdd:Zt ["self","work"] ["self","work"] (Zi Wx):=⟨rfl,rfl,rfl,by decide+kernel,rfl,by decide+kernel,by decide+kernel⟩
theorem Zgp:Zt ["hall","work"] ["hall","work"] (Zi V6):=⟨rfl,rfl,rfl,by decide+kernel,rfl,by decide+kernel,by decide+kernel⟩
theorem ZeI:Zt ["hall","work"] ["hall","work"] (Zi WT):=⟨rfl,rfl,rfl,by decide+kernel,rfl,by decide+kernel,by decide+kernel⟩
theorem ZdR:Zt ["self","hall","turns"] ["self","hall","turns"] (Zi YX):=⟨rfl,rfl,rfl,by decide+kernel,rfl,by decide+kernel,by decide+kernel⟩
theorem Zgo:Zt ["hall"] ["hall"] (Zi UY):=⟨rfl,rfl,rfl,by decide+kernel,rfl,by decide+kernel,by decide+kernel⟩
theorem ZdE:Zt ["_law_lines_here","_law_heap","_law_work","_law_k"] ["_law_lines_here","_law_heap","_law_work"] (Zi ZaI):=⟨rfl,rfl,rfl,by decide+kernel,rfl,by decide+kernel,by decide+kernel⟩
theorem Wt:Zt ["_law_lines_here","_law_rates_here","_law_heap","_law_done","_law_turn","_law_ready_here","_law_k"] ["_law_lines_here","_law_rates_here"] (Zi Wl):=⟨rfl,rfl,rfl,by decide+kernel,rfl,by decide+kernel,by decide+kernel⟩
theorem YH:Zt ["_law_stop","_law_lines_here","_law_rates_here","_law_counts","_law_ring","_law_k","_law_giver","_law_taker","_law_give","_law_take","_law_start"] ["_law_stop","_law_lines_here","_law_rates_here"] (Zi Zat):=⟨rfl,rfl,rfl,by decide+kernel,rfl,by decide+kernel,by decide+kernel⟩
theorem Zep:Zt ["_law_hall","_law_lines_here","_law_rates_here","_law_found"] ["_law_hall","_law_lines_here","_law_rates_here"] (Zi Zag):=⟨rfl,rfl,rfl,by decide+kernel,rfl,by decide+kernel,by decide+kernel⟩
theorem ZiK:Zt ["_law_k"] ["_law_k"] (Zi Zbk):=⟨rfl,rfl,rfl,by decide+kernel,rfl,by decide+kernel,by decide+kernel⟩
theorem ZgN:Zt ["thing"] ["thing"] (Zi UF):=⟨rfl,rfl,rfl,by decide+kernel,rfl,by decide+kernel,by decide+kernel⟩
theorem ZbR:Zt ["self","name","number"] ["self","name"] (Zi Ur):=⟨rfl,rfl,rfl,by decide+kernel,rfl,by decide+kernel,by decide+kernel⟩
theorem ZeG:Zt ["start"] ["start"] (Zi VQ):=⟨rfl,rfl,rfl,by decide+kernel,rfl,by decide+kernel,by decide+kernel⟩
theorem Zgb:Zt ["self","row"] ["self","row"] (Zi U2):=⟨rfl,rfl,rfl,by decide+kernel,rfl,by decide+kernel,by decide+kernel⟩
theorem ZfR:Zt ["self","giver","taker","give","take","start"] ["self","giver","taker","give","take","start"] (Zi UB):=⟨rfl,rfl,rfl,by decide+kernel,rfl,by decide+kernel,by decide+kernel⟩
theorem ZbY:Zt ["self","belt","start","row"] ["self","belt","start"] (Zi Ux):=⟨rfl,rfl,rfl,by decide+kernel,rfl,by decide+kernel,by decide+kernel⟩
theorem Ze8:Zt ["self"] ["self"] (Zi UD):=⟨rfl,rfl,rfl,by decide+kernel,rfl,by decide+kernel,by decide+kernel⟩
theorem Yb:Zt ["_law_script","_law_many","_law_top","_law_sizes","_law_lines_here","_law_rates_here","_law_hall","_law_k","_law_giver","_law_taker","_law_give","_law_take","_law_start","_law_mixed_here","_law_at"] ["_law_script"] (Zi Zdj):=⟨rfl,rfl,rfl,by decide+kernel,rfl,by decide+kernel,by decide+kernel⟩
set_option genInjectivity false
set_option genSizeOf false
set_option genSizeOfSpec false
set_option genInjectivity false in
set_option genSizeOf false in
structure Tp(K:PySem.W.Frag)(mg:Str→Option Value) where
 f_l_cell:Addr
 d_l_cell:FuncData
 F_l_cell:Fun K "_law_cell" "_law_cell" Za6 f_l_cell d_l_cell
 b_l_cell:ZA K d_l_cell ["_law_script","_law_k"] []
 m_l_cell:mg "_law_cell" =some (.ref f_l_cell)
 f_l_mixed:Addr
 d_l_mixed:FuncData
 F_l_mixed:Fun K "_law_mixed" "_law_mixed" ZaC f_l_mixed d_l_mixed
 b_l_mixed:ZA K d_l_mixed ["_law_script","_law_k"] []
 m_l_mixed:mg "_law_mixed" =some (.ref f_l_mixed)
 f_l_divisor:Addr
 d_l_divisor:FuncData
 F_l_divisor:Fun K "_law_divisor" "_law_divisor" UA f_l_divisor d_l_divisor
 b_l_divisor:ZA K d_l_divisor ["_law_one","_law_other"] []
 m_l_divisor:mg "_law_divisor" =some (.ref f_l_divisor)
 f_l_line:Addr
 d_l_line:FuncData
 F_l_line:Fun K "_law_line" "_law_line" Zbo f_l_line d_l_line
 b_l_line:ZA K d_l_line ["_law_script","_law_k","_law_sizes","_law_giver","_law_taker"] []
 m_l_line:mg "_law_line" =some (.ref f_l_line)
 f_l_lines:Addr
 d_l_lines:FuncData
 F_l_lines:Fun K "_law_lines" "_law_lines" ZaH f_l_lines d_l_lines
 b_l_lines:ZA K d_l_lines ["_law_script","_law_sizes"] []
 m_l_lines:mg "_law_lines" =some (.ref f_l_lines)
 f_l_reached:Addr
 d_l_reached:FuncData
 F_l_reached:Fun K "_law_reached" "_law_reached" Uw f_l_reached d_l_reached
 b_l_reached:ZA K d_l_reached ["_law_lines_here","_law_first","_law_many"] []
 m_l_reached:mg "_law_reached" =some (.ref f_l_reached)
 f_l_rates:Addr
 d_l_rates:FuncData
 F_l_rates:Fun K "_law_rates" "_law_rates" ZaG f_l_rates d_l_rates
 b_l_rates:ZA K d_l_rates ["_law_lines_here","_law_sizes"] []
 m_l_rates:mg "_law_rates" =some (.ref f_l_rates)
 f_l_started:Addr
 d_l_started:FuncData
 F_l_started:Fun K "_law_started" "_law_started" Ut f_l_started d_l_started
 b_l_started:ZA K d_l_started ["_law_script","_law_lines_here","_law_rates_here"] []
 m_l_started:mg "_law_started" =some (.ref f_l_started)
 f_Hall_belts:Addr
 d_Hall_belts:FuncData
 F_Hall_belts:Fun K "belts" "Hall.belts" Ud f_Hall_belts d_Hall_belts
 b_Hall_belts:ZA K d_Hall_belts ["self"] []
 f_starts_of:Addr
 d_starts_of:FuncData
 F_starts_of:Fun K "starts_of" "starts_of" Vn f_starts_of d_starts_of
 b_starts_of:ZA K d_starts_of ["hall"] []
 m_starts_of:mg "starts_of" =some (.ref f_starts_of)
 f_Hall_names:Addr
 d_Hall_names:FuncData
 F_Hall_names:Fun K "names" "Hall.names" V7 f_Hall_names d_Hall_names
 b_Hall_names:ZA K d_Hall_names ["self"] []
 f_ways_of:Addr
 d_ways_of:FuncData
 F_ways_of:Fun K "ways_of" "ways_of" UK f_ways_of d_ways_of
 b_ways_of:ZA K d_ways_of ["hall"] []
 m_ways_of:mg "ways_of" =some (.ref f_ways_of)
 f_tree_from:Addr
 d_tree_from:FuncData
 F_tree_from:Fun K "tree_from" "tree_from" Uq f_tree_from d_tree_from
 b_tree_from:ZA K d_tree_from ["ways","first"] []
 m_tree_from:mg "tree_from" =some (.ref f_tree_from)
 f_forest_of:Addr
 d_forest_of:FuncData
 F_forest_of:Fun K "forest_of" "forest_of" Uv f_forest_of d_forest_of
 b_forest_of:ZA K d_forest_of ["hall"] []
 m_forest_of:mg "forest_of" =some (.ref f_forest_of)
 f_divisor:Addr
 d_divisor:FuncData
 F_divisor:Fun K "divisor" "divisor" ZaF f_divisor d_divisor
 b_divisor:ZA K d_divisor ["one","other"] []
 m_divisor:mg "divisor" =some (.ref f_divisor)
 f_ratio:Addr
 d_ratio:FuncData
 F_ratio:Fun K "ratio" "ratio" Zcf f_ratio d_ratio
 b_ratio:ZA K d_ratio ["top","bottom"] []
 m_ratio:mg "ratio" =some (.ref f_ratio)
 f_times:Addr
 d_times:FuncData
 F_times:Fun K "times" "times" Zb8 f_times d_times
 b_times:ZA K d_times ["one","other"] []
 m_times:mg "times" =some (.ref f_times)
 f_gain:Addr
 d_gain:FuncData
 F_gain:Fun K "gain" "gain" Zc3 f_gain d_gain
 b_gain:ZA K d_gain ["row","along"] []
 m_gain:mg "gain" =some (.ref f_gain)
 f_is_whole:Addr
 d_is_whole:FuncData
 F_is_whole:Fun K "is_whole" "is_whole" UU f_is_whole d_is_whole
 b_is_whole:ZA K d_is_whole ["thing"] []
 m_is_whole:mg "is_whole" =some (.ref f_is_whole)
 f_is_from:Addr
 d_is_from:FuncData
 F_is_from:Fun K "is_from" "is_from" Zau f_is_from d_is_from
 b_is_from:ZA K d_is_from ["thing","least"] []
 m_is_from:mg "is_from" =some (.ref f_is_from)
 f_is_number_below:Addr
 d_is_number_below:FuncData
 F_is_number_below:Fun K "is_number_below" "is_number_below" Wu f_is_number_below d_is_number_below
 b_is_number_below:ZA K d_is_number_below ["thing","bound"] []
 m_is_number_below:mg "is_number_below" =some (.ref f_is_number_below)
 f_Hall_need_belt:Addr
 d_Hall_need_belt:FuncData
 F_Hall_need_belt:Fun K "need_belt" "Hall.need_belt" WG f_Hall_need_belt d_Hall_need_belt
 b_Hall_need_belt:ZA K d_Hall_need_belt ["self","belt"] []
 f_Hall_belt_at:Addr
 d_Hall_belt_at:FuncData
 F_Hall_belt_at:Fun K "belt_at" "Hall.belt_at" Ve f_Hall_belt_at d_Hall_belt_at
 b_Hall_belt_at:ZA K d_Hall_belt_at ["self","belt"] []
 f_shares_of:Addr
 d_shares_of:FuncData
 F_shares_of:Fun K "shares_of" "shares_of" Uy f_shares_of d_shares_of
 b_shares_of:ZA K d_shares_of ["hall","tree"] []
 m_shares_of:mg "shares_of" =some (.ref f_shares_of)
 f_multiple:Addr
 d_multiple:FuncData
 F_multiple:Fun K "multiple" "multiple" U1 f_multiple d_multiple
 b_multiple:ZA K d_multiple ["one","other"] []
 m_multiple:mg "multiple" =some (.ref f_multiple)
 f_rates_by:Addr
 d_rates_by:FuncData
 F_rates_by:Fun K "rates_by" "rates_by" VW f_rates_by d_rates_by
 b_rates_by:ZA K d_rates_by ["hall","forest"] []
 m_rates_by:mg "rates_by" =some (.ref f_rates_by)
 f_change_of:Addr
 d_change_of:FuncData
 F_change_of:Fun K "change_of" "change_of" Vq f_change_of d_change_of
 b_change_of:ZA K d_change_of ["hall","counts"] []
 m_change_of:mg "change_of" =some (.ref f_change_of)
 f_way_to:Addr
 d_way_to:FuncData
 F_way_to:Fun K "way_to" "way_to" Zbi f_way_to d_way_to
 b_way_to:ZA K d_way_to ["tree","work"] []
 m_way_to:mg "way_to" =some (.ref f_way_to)
 f_shared_steps:Addr
 d_shared_steps:FuncData
 F_shared_steps:Fun K "shared_steps" "shared_steps" W7 f_shared_steps d_shared_steps
 b_shared_steps:ZA K d_shared_steps ["one","other"] []
 m_shared_steps:mg "shared_steps" =some (.ref f_shared_steps)
 f_ring_through:Addr
 d_ring_through:FuncData
 F_ring_through:Fun K "ring_through" "ring_through" Vc f_ring_through d_ring_through
 b_ring_through:ZA K d_ring_through ["hall","forest","belt"] []
 m_ring_through:mg "ring_through" =some (.ref f_ring_through)
 f_rates_of:Addr
 d_rates_of:FuncData
 F_rates_of:Fun K "rates_of" "rates_of" U3 f_rates_of d_rates_of
 b_rates_of:ZA K d_rates_of ["hall"] []
 m_rates_of:mg "rates_of" =some (.ref f_rates_of)
 f_round_rates:Addr
 d_round_rates:FuncData
 F_round_rates:Fun K "round_rates" "round_rates" Vv f_round_rates d_round_rates
 b_round_rates:ZA K d_round_rates ["hall"] []
 m_round_rates:mg "round_rates" =some (.ref f_round_rates)
 f_enough:Addr
 d_enough:FuncData
 F_enough:Fun K "enough" "enough" Zac f_enough d_enough
 b_enough:ZA K d_enough ["heaps","takes"] []
 m_enough:mg "enough" =some (.ref f_enough)
 f_Course_row_from:Addr
 d_Course_row_from:FuncData
 F_Course_row_from:Fun K "row_from" "Course.row_from" Y1 f_Course_row_from d_Course_row_from
 b_Course_row_from:ZA K d_Course_row_from ["self","starts"] []
 f_Course_waits_behind:Addr
 d_Course_waits_behind:FuncData
 F_Course_waits_behind:Fun K "waits_behind" "Course.waits_behind" YU f_Course_waits_behind d_Course_waits_behind
 b_Course_waits_behind:ZA K d_Course_waits_behind ["self","starts","counts"] []
 f_Course_ring_behind:Addr
 d_Course_ring_behind:FuncData
 F_Course_ring_behind:Fun K "ring_behind" "Course.ring_behind" Y4 f_Course_ring_behind d_Course_ring_behind
 b_Course_ring_behind:ZA K d_Course_ring_behind ["self","starts","counts"] []
 f_Course_told_from:Addr
 d_Course_told_from:FuncData
 F_Course_told_from:Fun K "told_from" "Course.told_from" YL f_Course_told_from d_Course_told_from
 b_Course_told_from:ZA K d_Course_told_from ["self","starts"] []
 f_Hall_need_work:Addr
 d_Hall_need_work:FuncData
 F_Hall_need_work:Fun K "need_work" "Hall.need_work" WF f_Hall_need_work d_Hall_need_work
 b_Hall_need_work:ZA K d_Hall_need_work ["self","work"] []
 f_Hall_entering:Addr
 d_Hall_entering:FuncData
 F_Hall_entering:Fun K "entering" "Hall.entering" Wk f_Hall_entering d_Hall_entering
 b_Hall_entering:ZA K d_Hall_entering ["self","work"] []
 f_takes_of:Addr
 d_takes_of:FuncData
 F_takes_of:Fun K "takes_of" "takes_of" V3 f_takes_of d_takes_of
 b_takes_of:ZA K d_takes_of ["hall","work"] []
 m_takes_of:mg "takes_of" =some (.ref f_takes_of)
 f_Hall_leaving:Addr
 d_Hall_leaving:FuncData
 F_Hall_leaving:Fun K "leaving" "Hall.leaving" Wx f_Hall_leaving d_Hall_leaving
 b_Hall_leaving:ZA K d_Hall_leaving ["self","work"] []
 f_gives_of:Addr
 d_gives_of:FuncData
 F_gives_of:Fun K "gives_of" "gives_of" V6 f_gives_of d_gives_of
 b_gives_of:ZA K d_gives_of ["hall","work"] []
 m_gives_of:mg "gives_of" =some (.ref f_gives_of)
 f_touched_by:Addr
 d_touched_by:FuncData
 F_touched_by:Fun K "touched_by" "touched_by" WT f_touched_by d_touched_by
 b_touched_by:ZA K d_touched_by ["hall","work"] []
 m_touched_by:mg "touched_by" =some (.ref f_touched_by)
 f_Course_init:Addr
 d_Course_init:FuncData
 F_Course_init:Fun K "__init__" "Course.__init__" YX f_Course_init d_Course_init
 b_Course_init:ZA K d_Course_init ["self","hall","turns"] []
 f_round_of:Addr
 d_round_of:FuncData
 F_round_of:Fun K "round_of" "round_of" UY f_round_of d_round_of
 b_round_of:ZA K d_round_of ["hall"] []
 m_round_of:mg "round_of" =some (.ref f_round_of)
 f_l_ready:Addr
 d_l_ready:FuncData
 F_l_ready:Fun K "_law_ready" "_law_ready" ZaI f_l_ready d_l_ready
 b_l_ready:ZA K d_l_ready ["_law_lines_here","_law_heap","_law_work"] []
 m_l_ready:mg "_law_ready" =some (.ref f_l_ready)
 f_l_stands:Addr
 d_l_stands:FuncData
 F_l_stands:Fun K "_law_stands" "_law_stands" Wl f_l_stands d_l_stands
 b_l_stands:ZA K d_l_stands ["_law_lines_here","_law_rates_here"] []
 m_l_stands:mg "_law_stands" =some (.ref f_l_stands)
 f_l_stops:Addr
 d_l_stops:FuncData
 F_l_stops:Fun K "_law_stops" "_law_stops" Zat f_l_stops d_l_stops
 b_l_stops:ZA K d_l_stops ["_law_stop","_law_lines_here","_law_rates_here"] []
 m_l_stops:mg "_law_stops" =some (.ref f_l_stops)
 f_l_told:Addr
 d_l_told:FuncData
 F_l_told:Fun K "_law_told" "_law_told" Zag f_l_told d_l_told
 b_l_told:ZA K d_l_told ["_law_hall","_law_lines_here","_law_rates_here"] []
 m_l_told:mg "_law_told" =some (.ref f_l_told)
 f_l_name:Addr
 d_l_name:FuncData
 F_l_name:Fun K "_law_name" "_law_name" Zbk f_l_name d_l_name
 b_l_name:ZA K d_l_name ["_law_k"] []
 m_l_name:mg "_law_name" =some (.ref f_l_name)
 f_is_name:Addr
 d_is_name:FuncData
 F_is_name:Fun K "is_name" "is_name" UF f_is_name d_is_name
 b_is_name:ZA K d_is_name ["thing"] []
 m_is_name:mg "is_name" =some (.ref f_is_name)
 f_Hall_work:Addr
 d_Hall_work:FuncData
 F_Hall_work:Fun K "work" "Hall.work" Ur f_Hall_work d_Hall_work
 b_Hall_work:ZA K d_Hall_work ["self","name"] []
 f_need_start:Addr
 d_need_start:FuncData
 F_need_start:Fun K "need_start" "need_start" VQ f_need_start d_need_start
 b_need_start:ZA K d_need_start ["start"] []
 m_need_start:mg "need_start" =some (.ref f_need_start)
 f_Hall_lay:Addr
 d_Hall_lay:FuncData
 F_Hall_lay:Fun K "lay" "Hall.lay" U2 f_Hall_lay d_Hall_lay
 b_Hall_lay:ZA K d_Hall_lay ["self","row"] []
 f_Hall_belt:Addr
 d_Hall_belt:FuncData
 dT_Hall_belt:Addr
 dk0_Hall_belt:Tok
 F_Hall_belt:Zht K "belt" "Hall.belt" UB dT_Hall_belt f_Hall_belt d_Hall_belt
 b_Hall_belt:ZA K d_Hall_belt ["self","giver","taker","give","take","start"] []
 b1_Hall_belt:ZA K d_Hall_belt ["self","giver","taker","give","take","start"] [.int 0 dk0_Hall_belt]
 v1_Hall_belt:ZD [.int 0] [.int 0 dk0_Hall_belt]
 f_Hall_fill:Addr
 d_Hall_fill:FuncData
 F_Hall_fill:Fun K "fill" "Hall.fill" Ux f_Hall_fill d_Hall_fill
 b_Hall_fill:ZA K d_Hall_fill ["self","belt","start"] []
 f_Hall_init:Addr
 d_Hall_init:FuncData
 F_Hall_init:Fun K "__init__" "Hall.__init__" UD f_Hall_init d_Hall_init
 b_Hall_init:ZA K d_Hall_init ["self"] []
 f_law:Addr
 d_law:FuncData
 F_law:Fun K "law" "law" Zdj f_law d_law
 b_law:ZA K d_law ["_law_script"] []
 m_law:mg "law" =some (.ref f_law)
 C_Course:Addr
 cl_Course:Cls K C_Course
 g_Course:mg "Course" =some (.ref C_Course)
 na_Course:Za5 K C_Course ["turns","rows","takes","gives","touched"]
 M_Course_row_from:WI K C_Course "row_from" f_Course_row_from
 M_Course_waits_behind:WI K C_Course "waits_behind" f_Course_waits_behind
 M_Course_ring_behind:WI K C_Course "ring_behind" f_Course_ring_behind
 M_Course_told_from:WI K C_Course "told_from" f_Course_told_from
 mk_Course:Mk K C_Course f_Course_init
 C_Hall:Addr
 cl_Hall:Cls K C_Hall
 g_Hall:mg "Hall" =some (.ref C_Hall)
 na_Hall:Za5 K C_Hall ["numbers","rows"]
 M_Hall_belts:WI K C_Hall "belts" f_Hall_belts
 M_Hall_names:WI K C_Hall "names" f_Hall_names
 M_Hall_need_belt:WI K C_Hall "need_belt" f_Hall_need_belt
 M_Hall_belt_at:WI K C_Hall "belt_at" f_Hall_belt_at
 M_Hall_need_work:WI K C_Hall "need_work" f_Hall_need_work
 M_Hall_entering:WI K C_Hall "entering" f_Hall_entering
 M_Hall_leaving:WI K C_Hall "leaving" f_Hall_leaving
 M_Hall_work:WI K C_Hall "work" f_Hall_work
 M_Hall_lay:WI K C_Hall "lay" f_Hall_lay
 M_Hall_belt:WI K C_Hall "belt" f_Hall_belt
 M_Hall_fill:WI K C_Hall "fill" f_Hall_fill
 mk_Hall:Mk K C_Hall f_Hall_init
 n_all:mg "all" =none
 n_bool:mg "bool" =none
 n_enumerate:mg "enumerate" =none
 n_int:mg "int" =none
 n_isinstance:mg "isinstance" =none
 n_len:mg "len" =none
 n_list:mg "list" =none
 n_min:mg "min" =none
 n_range:mg "range" =none
 n_reversed:mg "reversed" =none
 n_set:mg "set" =none
 n_sorted:mg "sorted" =none
 n_str:mg "str" =none
 n_sum:mg "sum" =none
 n_tuple:mg "tuple" =none
 X_NoName:Addr
 gx_NoName:PySem.W.nsIn K mainGlobals "NoName" =some (some (.ref X_NoName))
 mx_NoName:mg "NoName" =some (.ref X_NoName)
 ex_NoName:PySem.W.excIn K X_NoName [.type "ValueError",.type "Exception",.type "BaseException",.type "object"] "ValueError.__new__" =true
 X_Twice:Addr
 gx_Twice:PySem.W.nsIn K mainGlobals "Twice" =some (some (.ref X_Twice))
 mx_Twice:mg "Twice" =some (.ref X_Twice)
 ex_Twice:PySem.W.excIn K X_Twice [.type "ValueError",.type "Exception",.type "BaseException",.type "object"] "ValueError.__new__" =true
 X_TooMuch:Addr
 gx_TooMuch:PySem.W.nsIn K mainGlobals "TooMuch" =some (some (.ref X_TooMuch))
 mx_TooMuch:mg "TooMuch" =some (.ref X_TooMuch)
 ex_TooMuch:PySem.W.excIn K X_TooMuch [.type "ValueError",.type "Exception",.type "BaseException",.type "object"] "ValueError.__new__" =true
 X_NoWork:Addr
 gx_NoWork:PySem.W.nsIn K mainGlobals "NoWork" =some (some (.ref X_NoWork))
 mx_NoWork:mg "NoWork" =some (.ref X_NoWork)
 ex_NoWork:PySem.W.excIn K X_NoWork [.type "ValueError",.type "Exception",.type "BaseException",.type "object"] "ValueError.__new__" =true
 X_NoBelt:Addr
 gx_NoBelt:PySem.W.nsIn K mainGlobals "NoBelt" =some (some (.ref X_NoBelt))
 mx_NoBelt:mg "NoBelt" =some (.ref X_NoBelt)
 ex_NoBelt:PySem.W.excIn K X_NoBelt [.type "ValueError",.type "Exception",.type "BaseException",.type "object"] "ValueError.__new__" =true
 X_NoRate:Addr
 gx_NoRate:PySem.W.nsIn K mainGlobals "NoRate" =some (some (.ref X_NoRate))
 mx_NoRate:mg "NoRate" =some (.ref X_NoRate)
 ex_NoRate:PySem.W.excIn K X_NoRate [.type "ValueError",.type "Exception",.type "BaseException",.type "object"] "ValueError.__new__" =true
 X_NotBalanced:Addr
 gx_NotBalanced:PySem.W.nsIn K mainGlobals "NotBalanced" =some (some (.ref X_NotBalanced))
 mx_NotBalanced:mg "NotBalanced" =some (.ref X_NotBalanced)
 ex_NotBalanced:PySem.W.excIn K X_NotBalanced [.type "ValueError",.type "Exception",.type "BaseException",.type "object"] "ValueError.__new__" =true
 X_TooLong:Addr
 gx_TooLong:PySem.W.nsIn K mainGlobals "TooLong" =some (some (.ref X_TooLong))
 mx_TooLong:mg "TooLong" =some (.ref X_TooLong)
 ex_TooLong:PySem.W.excIn K X_TooLong [.type "ValueError",.type "Exception",.type "BaseException",.type "object"] "ValueError.__new__" =true
 tk_MOST_TURNS:Tok
 c_MOST_TURNS:mg "MOST_TURNS" =some (.int 400 tk_MOST_TURNS)
 tk_MOST_LETTERS:Tok
 c_MOST_LETTERS:mg "MOST_LETTERS" =some (.int 8 tk_MOST_LETTERS)
 tk_MOST_WORKS:Tok
 c_MOST_WORKS:mg "MOST_WORKS" =some (.int 30 tk_MOST_WORKS)
 tk_MOST_BELTS:Tok
 c_MOST_BELTS:mg "MOST_BELTS" =some (.int 60 tk_MOST_BELTS)
 bl_law:∀(s:Shared)(v:Value),BindsTo s d_law ⟨[v],[]⟩ [("_law_script",v)]
set_option genInjectivity true
set_option genSizeOf true
set_option genSizeOfSpec true
theorem ZgC{a b:Int}(ha:0≤a)(hb:0<b):My.G b (a % b)=My.G a b:=by
 rw[←Int.fmod_eq_emod_of_nonneg _ (Int.le_of_lt hb)];exact My.Zlh ha hb
theorem Znm{k:Nat}{x:Int}(h:My.S k x)(hk:k≤2):x.natAbs.log2<9000:=by
 by_cases h0:x.natAbs=0
 ·rw[h0];decide+kernel
 ·have e:x.natAbs=x.toNat:=by have:=h.lo;omega
  have l:=(Nat.log2_lt h0).mpr (by rw[e];exact(h.mono hk).hi);omega
def Zj7(K:PySem.W.Frag):Sp:=fun vs H Q _=>∃(a:Addr)(ns:List Int),vs=[.ref a]∧SqL K H a (ns.map V.int)∧ns.length≤63∧∀H',Q (.bl true) H'
def ZlS{K:PySem.W.Frag}{mg:Str→Option Value}(T:Tp K mg):Sp:=Zj7 K
noncomputable def WC (x:Str):Bool:=decide (1≤x.length)&&decide (x.length≤8)&&x.cps.toList.all fun c=>decide (97≤c)&&decide (c≤122)
structure B5 where
 giver:Int
 taker:Int
 give:Int
 take:Int
 start:Int
noncomputable def B5.v (b:B5):List V:=[.int b.giver,.int b.taker,.int b.give,.int b.take,.int b.start]
structure HM where
 names:List Str
 belts:List B5
noncomputable def Yj (H:Hp):List V→List B5→Prop:=Paired fun v b=>∃t,v= .ref t∧H t=some (.tup b.v)
noncomputable def numsOf (ns:List Str):List (Key×V):=ns.zipIdx.map fun p=>(Sum.inr p.1,V.int p.2)
theorem UT(ns:List Str):(numsOf ns).length=ns.length:=by unfold numsOf;simp
theorem ZfY(ns:List Str)(x:Str):numsOf (ns++ [x])=numsOf ns++ [(Sum.inr x,.int ns.length)]:=by
 unfold numsOf;rw[List.zipIdx_append];simp
theorem ZcH(ns:List Str):((numsOf ns).map fun kv=>kV kv.1)=ns.map V.str:=by
 unfold numsOf;rw[List.map_map];have:((fun kv:Key×V=>kV kv.1)∘fun p:Str×Nat=>((Sum.inr p.1:Key),V.int p.2))=(V.str∘fun p:Str×Nat=>p.1):=rfl;rw[this,←List.map_map,List.zipIdx_map_fst]
theorem Zes(ns:List Str)(x:Str):(valV (numsOf ns) (Sum.inr x)).isSome=decide (x∈ns):=by
 rw[←WX];rw[Bool.eq_iff_iff,List.any_eq_true,decide_eq_true_eq];have e:x∈ns↔V.str x∈ns.map V.str:=by
  constructor
  ·exact List.mem_map_of_mem
  ·intro h;obtain⟨y,hy,e⟩:=List.mem_map.mp h;cases e;exact hy
 rw[e,←ZcH,List.mem_map]
 constructor
 ·rintro⟨p,hp,h⟩;exact⟨p,hp,by rw[of_decide_eq_true h];rfl⟩
 ·rintro⟨p,hp,h⟩;exact⟨p,hp,decide_eq_true (ZkU h)⟩
theorem Zf1{ns:List Str}{x:Str}(h:x∉ns):valV (numsOf ns) (Sum.inr x)=none:=by
 have:=Zes ns x;rw[decide_eq_false h] at this;cases e:valV (numsOf ns) (Sum.inr x) with
 |none=>rfl
 |some v=>rw[e] at this;cases this
theorem Zg9{ns:List Str}{x:Str}(h:x∉ns):Ya (numsOf ns) (Sum.inr x) (.int ns.length)=numsOf (ns++ [x]):=by
 rw[VC _ (Zf1 h),ZfY]
def ZE{K:PySem.W.Frag}{mg:Str→Option Value}(T:Tp K mg)(H:Hp)(p:Addr)(hl:HM)(fp:List Addr):Prop:=
 ∃(dx a b:Addr)(bs:List V),fp=[p,dx,a,b]∧H p=some (.ins T.C_Hall dx [("numbers",.ref a),("rows",.ref b)])∧H dx=some (.own p)∧H a=some (.dK (numsOf hl.names))∧H b=some (.lst bs)∧a≠b∧Yj H bs hl.belts
theorem Yj.keep{H H':Hp}(t:∀b xs,H b=some (.tup xs)→H' b=some (.tup xs)):∀{bs:List V}{ls:List B5},Yj H bs ls→Yj H' bs ls
 |_,_,.nil=> .nil
 |_,_,.cons ⟨a,e,h⟩ r=> .cons ⟨a,e,t _ _ h⟩ (Yj.keep t r)
theorem Yj.length{H:Hp}{bs:List V}{ls:List B5}(h:Yj H bs ls):bs.length=ls.length:=Paired.length h
theorem Yj.snoc{H:Hp}:∀{bs:List V}{ls:List B5}{t:Addr}{b:B5},Yj H bs ls→H t=some (.tup b.v)→Yj H (bs++ [.ref t]) (ls++ [b])
 |_,_,_,_,.nil,h=> .cons ⟨_,rfl,h⟩ .nil
 |_,_,_,_,.cons x r,h=> .cons x (Yj.snoc r h)
theorem Yj.at{H:Hp}:∀{bs:List V}{ls:List B5}{i:Nat}{b:B5},Yj H bs ls→ls[i]? =some b→∃t,bs[i]? =some (.ref t)∧H t=some (.tup b.v)
 |_,_,_,_,.nil,e=>by simp at e
 |_,_,0,_,.cons ⟨t,e1,h⟩ _,e=>by simp at e;subst e;exact⟨t,by simp[e1],h⟩
 |_,_,i+1,b,.cons _ r,e=>by
  obtain⟨t,h1,h2⟩:=Yj.at (i:=i) (b:=b) r (by simpa using e);exact⟨t,by simpa using h1,h2⟩
section
variable {K:PySem.W.Frag}{mg:Str→Option Value}{T:Tp K mg}{H H':Hp}{p:Addr}{hl:HM}{fp:List Addr}
theorem ZE.dom(h:ZE T H p hl fp):∀x∈fp,H x≠none:=by
 obtain⟨dx,a,b,bs,rfl,h1,h2,h3,h4,_⟩:=h;intro x hx;simp only[List.mem_cons,List.not_mem_nil,or_false] at hx;rcases hx with rfl|rfl|rfl|rfl
 ·rw[h1];simp
 ·rw[h2];simp
 ·rw[h3];simp
 ·rw[h4];simp
theorem ZE.keep(h:ZE T H p hl fp)(k:∀x∈fp,H' x=H x)(t:∀b xs,H b=some (.tup xs)→H' b=some (.tup xs)):ZE T H' p hl fp:=by
 obtain⟨dx,a,b,bs,rfl,h1,h2,h3,h4,h5,h6⟩:=h;exact⟨dx,a,b,bs,rfl,(k p (by simp)).trans h1,(k dx (by simp)).trans h2,(k a (by simp)).trans h3,(k b (by simp)).trans h4,h5,h6.keep t⟩
theorem ZE.off{A:List Addr}(h:ZE T H p hl fp)(f:ZJ A H H')(d:∀x∈fp,x∉A):ZE T H' p hl fp:=by
 refine h.keep (fun x hx=>?_) f.tups;cases q:H x with
 |none=>exact absurd q (h.dom x hx)
 |some o=>exact f.keep x o q (d x hx)
theorem ZiQ{m:Str}{G:Prop}(h:ZE T H p hl fp)(m1:(m== "numbers")=false)(m2:(m== "rows")=false)(q:G):∃a dx fs,V.ref p= .ref a∧H a=some (.ins T.C_Hall dx fs)∧fs.lookup m=none∧G:=by
 obtain⟨dx,a,b,bs,rfl,h1,_⟩:=h;exact⟨p,dx,_,rfl,h1,Rd.lk1 m1 (Rd.lk1 m2 Rd.lkN),q⟩
theorem ZE.same(h:ZE T H p hl fp)(e:Ze H H'):ZE T H' p hl fp:=h.off (A:=[]) e.frame (by simp)
end
noncomputable def dB:B5:=⟨0,0,0,0,0⟩
noncomputable def ZT (ls:List B5) (w:Int):List Nat:=(List.range ls.length).filter fun i=>decide ((ls.getD i dB).taker=w)
noncomputable def ZL (ls:List B5) (w:Int):List Nat:=(List.range ls.length).filter fun i=>decide ((ls.getD i dB).giver=w)
theorem Yj.getD{H:Hp}{bs:List V}{ls:List B5}{i:Nat}(h:Yj H bs ls)(hi:i<ls.length):∃t,bs.getD i .non= .ref t∧H t=some (.tup (ls.getD i dB).v):=by
 obtain⟨t,h1,h2⟩:=h.at (List.getElem?_eq_getElem hi);exact⟨t,by simp[List.getD,h1],by simpa[List.getD,hi] using h2⟩
noncomputable def Zdk (ns:List Int) (k:Int):Int:=if k<ns.length then ns.getD k.toNat 0 else if(ns.length:Int)=0 then k else ns.getD (k % ns.length).toNat 0*31+k
@[irreducible] noncomputable def WP (ns:List Int) (k:Int):Int:=(Zdk ns k % 2147483629*16807+54321) % 2147483629
theorem Zi3(ns:List Int)(k:Int):(Zdk ns k % 2147483629*16807+54321) % 2147483629=WP ns k:=by unfold WP;rfl
theorem ZjC(ns:List Int)(k:Int):0≤WP ns k:=by unfold WP;omega
theorem ZjA(ns:List Int)(k:Int):WP ns k<2147483629:=by unfold WP;omega
theorem ZO{ns:List Int}{k:Int}(h0:0≤k)(h1:k<ns.length):atI (ns.map V.int) k=some (.int (ns.getD k.toNat 0)):=by
 obtain⟨n,rfl⟩:=Int.eq_ofNat_of_zero_le h0;have hn:n<ns.length:=by omega
 refine Yu ?_;simp[List.getD,hn]
noncomputable def nameN (k:Nat):Str:=if k<8 then Txt.slice "hgfedcba" (some (k:Int)) none else⟨#[97+k % 26]⟩++ "zz"
theorem Zjp:∀k<30,WC (nameN k)=true:=by decide+kernel
theorem ZiR:∀k<30,nameN k∉(List.range k).map nameN:=by decide+kernel
theorem ZkX:∀i<26,("abcdefghijklmnopqrstuvwxyz" :Str).cps.toList[i]? =some (97+i):=by decide+kernel
theorem Zky:("abcdefghijklmnopqrstuvwxyz" :Str).length≤sizeLine:=by decide+kernel
theorem Zkr:("hgfedcba" :Str).length≤sizeLine:=by decide+kernel
theorem Zbf{n:Nat}(h:n≤10000):n<sizeLine:=Nat.lt_of_le_of_lt h (by decide)
noncomputable def Zbh (ls:List B5) (i:Nat) (w:Int):List Fo.Trip:=(if(ls.getD i dB).giver=w then[((ls.getD i dB).taker,(i:Int),true)] else[])++(if(ls.getD i dB).taker=w then[((ls.getD i dB).giver,(i:Int),false)] else[])
noncomputable def WZ (ls:List B5) (k:Nat) (w:Int):List Fo.Trip:=(List.range k).flatMap fun i=>Zbh ls i w
noncomputable def YG (ls:List B5):Int→List Fo.Trip:=WZ ls ls.length
theorem Zgj(ls:List B5)(k:Nat)(w:Int):WZ ls (k+1) w=WZ ls k w++Zbh ls k w:=by
 unfold WZ;rw[List.range_succ,List.flatMap_append];simp
theorem ZbA{α:Type}{xs:List α}(nd:xs.Nodup){i j:Nat}(hi:i<xs.length)(hj:j<xs.length)(e:xs[i]=xs[j]):i=j:=by
 rcases Nat.lt_trichotomy i j with h|h|h
 ·exact absurd e (List.pairwise_iff_getElem.mp nd i j hi hj h)
 ·exact h
 ·exact absurd e.symm (List.pairwise_iff_getElem.mp nd j i hj hi h)
theorem ZG{H H':Hp}{x:Addr}(s:Ze H H')(h:H' x=none):H x=none:=by
 cases e:H x with
 |none=>rfl
 |some o=>rw[s _ _ e] at h;cases h
theorem Zw{α:Type}{xs:List α}{i:Nat}{d:α}(h:i<xs.length):xs.getD i d=xs[i]:=by simp[List.getD,h]
theorem Zah{ls:List B5}{w:Int}{t:Fo.Trip}(h:t∈YG ls w):∃(i:Nat)(hi:i<ls.length),t∈Zbh ls i w:=by
 unfold YG WZ at h;obtain⟨i,hi,ht⟩:=List.mem_flatMap.mp h;exact⟨i,List.mem_range.mp hi,ht⟩
theorem Zfo{ls:List B5}{w:Int}{t:Fo.Trip}{i:Nat}(hi:i<ls.length)(h:t∈Zbh ls i w):t∈YG ls w:=by
 unfold YG WZ;exact List.mem_flatMap.mpr ⟨i,List.mem_range.mpr hi,h⟩
theorem VH{ls:List B5}{i:Nat}{w:Int}{t:Fo.Trip}:t∈Zbh ls i w↔((ls.getD i dB).giver=w∧t=((ls.getD i dB).taker,(i:Int),true))∨((ls.getD i dB).taker=w∧t=((ls.getD i dB).giver,(i:Int),false)):=by
 unfold Zbh;rw[List.mem_append]
 by_cases h1:(ls.getD i dB).giver=w<;>by_cases h2:(ls.getD i dB).taker=w<;>simp[h1,h2]
theorem ZaB(ls:List B5):Fo.Zjl (YG ls):=by
 intro a b t al h;obtain⟨i,hi,ht⟩:=Zah h;refine Zfo hi ?_;rw[VH] at ht⊢;rcases ht with⟨h1,h2⟩|⟨h1,h2⟩
 ·injection h2 with e1 e2
  injection e2 with e2 e3
  exact .inr ⟨e1.symm,by rw[←h1,e2,e3];rfl⟩
 ·injection h2 with e1 e2
  injection e2 with e2 e3
  exact .inl ⟨e1.symm,by rw[←h1,e2,e3];rfl⟩
def ZK(ls:List B5)(n:Nat):Prop:=∀b∈ls,0≤b.giver∧b.giver<(n:Int)∧0≤b.taker∧b.taker<(n:Int)
theorem ZK.at{ls:List B5}{n i:Nat}(h:ZK ls n)(hi:i<ls.length):0≤(ls.getD i dB).giver∧(ls.getD i dB).giver<(n:Int)∧0≤(ls.getD i dB).taker∧(ls.getD i dB).taker<(n:Int):=by
 rw[Zw hi];exact h _ (List.getElem_mem hi)
theorem U4{ls:List B5}{n:Nat}(h:ZK ls n):∀a,∀t∈YG ls a,0≤t.1∧t.1<(n:Int):=by
 intro a t ht;obtain⟨i,hi,hm⟩:=Zah ht;have:=h.at hi;rw[VH] at hm;rcases hm with⟨_,rfl⟩|⟨_,rfl⟩<;>(dsimp only;omega)
noncomputable def WR (H:Hp):List Fo.Trip→List V→Prop:=Paired fun x v=>∃t,v= .ref t∧H t=some (.tup [.int x.1,.int x.2.1,.bl x.2.2])
theorem WR.keep{H H':Hp}(t:∀b xs,H b=some (.tup xs)→H' b=some (.tup xs)){vs:List V}{l:List Fo.Trip}(h:WR H l vs):WR H' l vs:=Paired.mapP h fun _ _ ⟨a,e,z⟩=>⟨a,e,t _ _ z⟩
theorem WR.snoc{H:Hp}:∀{l:List Fo.Trip}{vs:List V}{x:Fo.Trip}{t:Addr},WR H l vs→H t=some (.tup [.int x.1,.int x.2.1,.bl x.2.2])→WR H (l++ [x]) (vs++ [.ref t])
 |_,_,_,_,.nil,h=> .cons ⟨_,rfl,h⟩ .nil
 |_,_,_,_,.cons y r,h=> .cons y (WR.snoc r h)
theorem WR.length{H:Hp}{l:List Fo.Trip}{vs:List V}(h:WR H l vs):l.length=vs.length:=Paired.length h
theorem WR.at{H:Hp}:∀{l:List Fo.Trip}{vs:List V}{i:Nat}{x:Fo.Trip},WR H l vs→l[i]? =some x→∃t,vs[i]? =some (.ref t)∧H t=some (.tup [.int x.1,.int x.2.1,.bl x.2.2])
 |_,_,_,_,.nil,e=>by simp at e
 |_,_,0,_,.cons ⟨t,e1,h⟩ _,e=>by simp at e;subst e;exact⟨t,by simp[e1],h⟩
 |_,_,i+1,b,.cons _ r,e=>by
  obtain⟨t,h1,h2⟩:=WR.at (i:=i) (x:=b) r (by simpa using e);exact⟨t,by simpa using h1,h2⟩
def WA(H:Hp)(ia:List Addr)(W:Int→List Fo.Trip):Prop:=∀(j:Nat)(h:j<ia.length),∃vs,H ia[j]=some (.lst vs)∧WR H (W (j:Int)) vs
theorem WA.same{H H':Hp}{ia:List Addr}{W:Int→List Fo.Trip}(h:WA H ia W)(s:Ze H H'):WA H' ia W:=fun j hj=>by
 obtain⟨vs,h1,h2⟩:=h j hj;exact⟨vs,s _ _ h1,h2.keep fun _ _ e=>s _ _ e⟩
theorem WA.add{H:Hp}{ia:List Addr}{W:Int→List Fo.Trip}(h:WA H ia W)(nd:ia.Nodup){g:Nat}(hg:g<ia.length){vs:List V}(hv:H ia[g]=some (.lst vs))(ht:WR H (W (g:Int)) vs){t:Addr}{x:Fo.Trip}(htt:H t=some (.tup [.int x.1,.int x.2.1,.bl x.2.2])):
  WA (upd H ia[g] (.lst (vs++ [.ref t]))) ia (fun j=>W j++(if(g:Int)=j then[x] else[])):=by
 have fr:∀b xs,H b=some (.tup xs)→(upd H ia[g] (.lst (vs++ [.ref t]))) b=some (.tup xs):=fun b xs e=>by rw[Zg (Yx e hv (by intro z;cases z))];exact e
 intro j hj
 by_cases e:j=g
 ·subst e;refine⟨vs++ [.ref t],Zd,?_⟩;dsimp only;rw[if_pos rfl];exact(ht.keep fr).snoc (fr _ _ htt)
 ·obtain⟨us,h1,h2⟩:=h j hj;have ne:ia[j]≠ia[g]:=fun z=>e (ZbA nd hj hg z);refine⟨us,by rw[Zg ne];exact h1,?_⟩;dsimp only;rw[if_neg (by omega),List.append_nil];exact h2.keep fr
structure ZbZ(H:Hp)(r:Addr)(ia:List Addr)(n:Nat)(W:Int→List Fo.Trip):Prop where
 at_:H r=some (.lst (ia.map V.ref))
 len:ia.length=n
 nd:ia.Nodup
 wa:WA H ia W
theorem ZbZ.same{H H':Hp}{r:Addr}{ia:List Addr}{n:Nat}{W:Int→List Fo.Trip}(h:ZbZ H r ia n W)(s:Ze H H'):ZbZ H' r ia n W:=⟨s _ _ h.at_,h.len,h.nd,h.wa.same s⟩
theorem ZdS{ia:List Addr}{g:Int}(h0:0≤g)(h1:g.toNat<ia.length):atI (ia.map V.ref) g=some (.ref ia[g.toNat]):=by
 have:=Yu (xs:=ia.map V.ref) (j:=g.toNat) (v:= .ref ia[g.toNat]) (by simp[h1])
 rwa [Int.toNat_of_nonneg h0] at this
noncomputable def ZaS (H:Hp) (v:V):Option Fo.Trip→Prop
 |none=>v= .non
 |some (p,b,al)=>∃t,v= .ref t∧H t=some (.tup [.int p,.int b,.bl al])
theorem ZaS.keep{H H':Hp}(t:∀b xs,H b=some (.tup xs)→H' b=some (.tup xs)){v:V}:∀{s:Option Fo.Trip},ZaS H v s→ZaS H' v s
 |none,h=>h
 |some (_,_,_),⟨a,e,z⟩=>⟨a,e,t _ _ z⟩
noncomputable def Ent (H:Hp):List (Key×V)→Fo.ZQ→Prop:=Paired fun kv x=>kv.1=Sum.inl x.1∧ZaS H kv.2 x.2
theorem Ent.keep{H H':Hp}(t:∀b xs,H b=some (.tup xs)→H' b=some (.tup xs)){kvs:List (Key×V)}{tr:Fo.ZQ}(h:Ent H kvs tr):Ent H' kvs tr:=Paired.mapP h fun _ _ ⟨a,z⟩=>⟨a,z.keep t⟩
theorem Ent.snoc{H:Hp}:∀{kvs:List (Key×V)}{tr:Fo.ZQ}{w:Int}{v:V}{s:Option Fo.Trip},Ent H kvs tr→ZaS H v s→Ent H (kvs++ [(Sum.inl w,v)]) (tr++ [(w,s)])
 |_,_,_,_,_,.nil,h=> .cons ⟨rfl,h⟩ .nil
 |_,_,_,_,_,.cons y r,h=> .cons y (Ent.snoc r h)
theorem Ent.length{H:Hp}{kvs:List (Key×V)}{tr:Fo.ZQ}(h:Ent H kvs tr):kvs.length=tr.length:=Paired.length h
theorem Ent.keys{H:Hp}:∀{kvs:List (Key×V)}{tr:Fo.ZQ},Ent H kvs tr→kvs.map (·.1)=(Fo.keys tr).map Sum.inl
 |_,_,.nil=>rfl
 |_,_,.cons ⟨a,_⟩ r=>by
  have:=Ent.keys r;unfold Fo.keys at this⊢;rw[List.map_cons,List.map_cons,List.map_cons,a,this]
theorem Ent.some{H:Hp}:∀{kvs:List (Key×V)}{tr:Fo.ZQ}{w:Int},Ent H kvs tr→((valV kvs (Sum.inl w)).isSome=true↔w∈Fo.keys tr):=by
 intro kvs tr w h;rw[←WX,List.any_eq_true];have hk:=h.keys
 constructor
 ·rintro⟨kv,hm,e⟩;have e1:kv.1=Sum.inl w:=of_decide_eq_true e;have:kv.1∈kvs.map (·.1):=List.mem_map_of_mem hm;rw[hk,e1] at this;obtain⟨w',hw',e2⟩:=List.mem_map.mp this;cases e2;exact hw'
 ·intro hw;have:(Sum.inl w:Key)∈(Fo.keys tr).map Sum.inl:=List.mem_map_of_mem hw;rw[←hk] at this;obtain⟨kv,hm,e⟩:=List.mem_map.mp this;exact⟨kv,hm,decide_eq_true e⟩
def Vo(H:Hp)(d:Addr)(tr:Fo.ZQ):Prop:=∃kvs,H d=some (.dK kvs)∧Ent H kvs tr
theorem Vo.same{H H':Hp}{d:Addr}{tr:Fo.ZQ}(h:Vo H d tr)(s:Ze H H'):Vo H' d tr:=by
 obtain⟨kvs,h1,h2⟩:=h;exact⟨kvs,s _ _ h1,h2.keep fun _ _ e=>s _ _ e⟩
theorem Zc8:∀(more kvs:List (Key×V))(k:Key),(valV (Yr kvs more) k).isSome=((valV kvs k).isSome||(valV more k).isSome)
 | [],kvs,k=>by
  show(valV kvs k).isSome=((valV kvs k).isSome||(valV ([]:List (Key×V)) k).isSome);have:valV ([]:List (Key×V)) k=none:=rfl;rw[this,Option.isSome_none,Bool.or_false]
 |(j,v)::r,kvs,k=>by
  show(valV (Yr (Ya kvs j v) r) k).isSome=_;rw[Zc8 r (Ya kvs j v) k,Ug]
  by_cases e:j=k
  ·subst e;rw[if_pos rfl,YF rfl];simp
  ·rw[if_neg (fun z=>e z.symm),YE e]
theorem Paired.get'{α β:Type}{P:α→β→Prop}:∀{xs:List α}{ys:List β}{i:Nat}{x:α},Paired P xs ys→xs[i]? =some x→∃y,ys[i]? =some y∧P x y
 |_,_,_,_,.nil,e=>by simp at e
 |_,_,0,_,.cons h _,e=>by simp at e;subst e;exact⟨_,rfl,h⟩
 |_,_,i+1,x,.cons _ r,e=>by
  obtain⟨y,h1,h2⟩:=Paired.get' (i:=i) (x:=x) r (by simpa using e);exact⟨y,by simpa using h1,h2⟩
noncomputable def We (H:Hp):List Addr→List (Int×Fo.ZQ)→Prop:=Paired fun d x=>Vo H d x.2
theorem We.same{H H':Hp}{ds:List Addr}{F:List (Int×Fo.ZQ)}(h:We H ds F)(s:Ze H H'):We H' ds F:=Paired.mapP h fun _ _ z=>z.same s
theorem We.snoc{H:Hp}:∀{ds:List Addr}{F:List (Int×Fo.ZQ)}{d:Addr}{x:Int×Fo.ZQ},We H ds F→Vo H d x.2→We H (ds++ [d]) (F++ [x])
 |_,_,_,_,.nil,h=> .cons h .nil
 |_,_,_,_,.cons y r,h=> .cons y (We.snoc r h)
theorem We.keep{H H':Hp}(t:∀b xs,H b=some (.tup xs)→H' b=some (.tup xs)):∀{ds:List Addr}{F:List (Int×Fo.ZQ)},We H ds F→(∀d∈ds,∀kvs,H d=some (.dK kvs)→H' d=some (.dK kvs))→We H' ds F
 |_,_,.nil,_=> .nil
 |_,_,.cons ⟨kvs,h1,h2⟩ r,k=> .cons ⟨kvs,k _ (by simp) _ h1,h2.keep t⟩ (We.keep t r fun d hd=>k d (List.mem_cons_of_mem _ hd))
theorem We.length{H:Hp}{ds:List Addr}{F:List (Int×Fo.ZQ)}(h:We H ds F):ds.length=F.length:=Paired.length h
structure ZjD(H:Hp)(f:Addr)(ds:List Addr)(F:List (Int×Fo.ZQ)):Prop where
 at_:H f=some (.lst (ds.map V.ref))
 trees:We H ds F
theorem Zj5{n a:Nat}(h:a<2 ^ n):Builtin.Int.intBits (a:Int)≤n:=by
 unfold Builtin.Int.intBits
 split
 ·exact Nat.zero_le _
 ·rename_i hz;have h0:(a:Int).natAbs≠0:=by
   intro e;apply hz;have:(a:Int)=0:=by omega
   rw[this]
   rfl
  have e:(a:Int).natAbs=a:=Int.natAbs_natCast a;have:=(Nat.log2_lt h0).mpr (by rw[e];exact h);omega
theorem Vx{n m a b:Nat}(ha:a<2 ^ n)(hb:b<2 ^ m)(h:n+m≤10000000):IntMulOk (a:Int) (b:Int):=by
 have b1:=Zj5 ha;have b2:=Zj5 hb;have k:Builtin.Int.intTooBig ((Builtin.Int.intBits (a:Int):Int)+(Builtin.Int.intBits (b:Int):Int))=false:=by
  unfold Builtin.Int.intTooBig;rw[PySem.bitsLine_eq];exact decide_eq_false (by omega)
 unfold IntMulOk;rw[k];simp
theorem Znb{a:Nat}(h:a<2 ^ 8000):(a:Int).natAbs.log2<9000:=by
 rw[Int.natAbs_natCast]
 by_cases h0:a=0
 ·rw[h0];decide+kernel
 ·have:=(Nat.log2_lt h0).mpr h;omega
theorem ZdY{a b:Nat}(hb:0<b)(h:b<2 ^ 8000):0<(b:Int)∧(b:Int).natAbs.log2<9000:=⟨by omega,Znb h⟩
theorem VT{a b n m:Nat}(ha:a<2 ^ n)(hb:b<2 ^ m):a*b<2 ^ (n+m):=by
 rw[Nat.pow_add];exact Nat.mul_lt_mul'' ha hb
def Bal(B:B5)(al:Bool)(x y:Nat×Nat):Prop:=if al=true then x.1*y.2*B.take.toNat=y.1*x.2*B.give.toNat else x.1*y.2*B.give.toNat=y.1*x.2*B.take.toNat
structure Wy(ls:List B5)(tr:Fo.ZQ)(zs:List (Int×(Nat×Nat)))(d:Nat):Prop where
 keys:zs.map (·.1)=(Fo.keys tr).take d
 pos:∀x∈zs,0<x.2.1∧0<x.2.2∧Nat.gcd x.2.1 x.2.2=1
 size:∀(i:Nat) x,zs[i]? =some x→x.2.1<2 ^ (110*i+1)∧x.2.2<2 ^ (110*i+1)
 first:∀(i:Nat)(w:Int),i<d→tr[i]? =some (w,none)→zs[i]? =some (w,(1,1))
 step:∀(i:Nat)(w p b:Int)(al:Bool),i<d→tr[i]? =some (w,some (p,b,al))→∃(j:Nat)(x y:Nat×Nat),j<i∧zs[i]? =some (w,x)∧zs[j]? =some (p,y)∧Bal (ls.getD b.toNat dB) al x y
theorem ZjP{ls:List B5}{tr:Fo.ZQ}:Wy ls tr [] 0:=⟨rfl,by simp,by simp,fun i w h=>absurd h (Nat.not_lt_zero _),fun i w p b al h=>absurd h (Nat.not_lt_zero _)⟩
theorem Wy.len{ls:List B5}{tr:Fo.ZQ}{zs:List (Int×(Nat×Nat))}{d:Nat}(h:Wy ls tr zs d)(hd:d≤tr.length):zs.length=d:=by
 have:=congrArg List.length h.keys;rw[List.length_map,List.length_take] at this;simp[Fo.keys] at this;omega
theorem Zi9{α:Type}{zs:List α}{x y:α}{i:Nat}(h:(zs++ [x])[i]? =some y):zs[i]? =some y∨(i=zs.length∧y=x):=by
 rcases Nat.lt_or_ge i zs.length with c|c
 ·rw[List.getElem?_append_left c] at h;exact .inl h
 ·rw[List.getElem?_append_right c] at h;have:i-zs.length=0:=by
   rcases Nat.eq_zero_or_pos (i-zs.length) with z|z
   ·exact z
   ·rw[List.getElem?_eq_none (by simp;omega)] at h;cases h
  rw[this] at h;simp at h;exact .inr ⟨by omega,h.symm⟩
theorem Zba{α:Type}{zs:List α}{x y:α}{i:Nat}(h:zs[i]? =some y):(zs++ [x])[i]? =some y:=by
 rw[List.getElem?_append_left (List.getElem?_eq_some_iff.mp h).1];exact h
theorem Zdh{α:Type}{zs:List α}{x:α}:(zs++ [x])[zs.length]? =some x:=by rw[List.getElem?_append_right (Nat.le_refl _),Nat.sub_self];rfl
theorem Wy.more{ls:List B5}{tr:Fo.ZQ}{zs:List (Int×(Nat×Nat))}{d:Nat}(h:Wy ls tr zs d)(hd:d<tr.length){w:Int}{st:Option Fo.Trip}(e:tr[d]? =some (w,st)){x:Nat×Nat}(hp:0<x.1∧0<x.2∧Nat.gcd x.1 x.2=1)(hs:x.1<2 ^ (110*d+1)∧x.2<2 ^ (110*d+1))
  (hn:st=none→x=(1,1)) (hst:∀p b al,st=some (p,b,al)→∃(j:Nat)(y:Nat×Nat),zs[j]? =some (p,y)∧Bal (ls.getD b.toNat dB) al x y):Wy ls tr (zs++ [(w,x)]) (d+1):=by
 have hl:=h.len (Nat.le_of_lt hd);have hk:(Fo.keys tr)[d]? =some w:=by unfold Fo.keys;rw[List.getElem?_map,e];rfl
 refine⟨?_,fun y hy=>?_,fun i y hy=>?_,fun i w' hi e'=>?_,fun i w' p b al hi e'=>?_⟩
 ·rw[List.map_append,h.keys,List.take_succ,hk];rfl
 ·rcases List.mem_append.mp hy with z|z
  ·exact h.pos y z
  ·rw[List.mem_singleton.mp z];exact hp
 ·rcases Zi9 hy with z|⟨z1,z2⟩
  ·exact h.size i y z
  ·rw[z2,z1,hl];exact hs
 ·rcases Nat.lt_succ_iff_lt_or_eq.mp hi with z|z
  ·exact Zba (h.first i w' z e')
  ·subst z;rw[e] at e';cases e';rw[hn rfl,←hl];exact Zdh
 ·rcases Nat.lt_succ_iff_lt_or_eq.mp hi with z|z
  ·obtain⟨j,x',y',h1,h2,h3,h4⟩:=h.step i w' p b al z e';exact⟨j,x',y',h1,Zba h2,Zba h3,h4⟩
  ·subst z;rw[e] at e';cases e';obtain⟨j,y,h1,h2⟩:=hst p b al rfl;have hj:=(List.getElem?_eq_some_iff.mp h1).1;refine⟨j,x,y,by omega,?_,Zba h1,h2⟩;rw[←hl];exact Zdh
noncomputable def ShE (H:Hp):List (Key×V)→List (Int×(Nat×Nat))→Prop:=Paired fun kv x=>kv.1=Sum.inl x.1∧∃t,kv.2= .ref t∧H t=some (.tup [.int (x.2.1:Nat),.int (x.2.2:Nat)])
theorem ShE.keep{H H':Hp}(t:∀b xs,H b=some (.tup xs)→H' b=some (.tup xs)){kvs:List (Key×V)}{zs:List (Int×(Nat×Nat))}(h:ShE H kvs zs):ShE H' kvs zs:=Paired.mapP h fun _ _ ⟨a,c,e,z⟩=>⟨a,c,e,t _ _ z⟩
theorem ShE.snoc{H:Hp}:∀{kvs:List (Key×V)}{zs:List (Int×(Nat×Nat))}{w:Int}{t:Addr}{x:Nat×Nat},ShE H kvs zs→H t=some (.tup [.int (x.1:Nat),.int (x.2:Nat)])→ShE H (kvs++ [(Sum.inl w,.ref t)]) (zs++ [(w,x)])
 |_,_,_,_,_,.nil,h=> .cons ⟨rfl,_,rfl,h⟩ .nil
 |_,_,_,_,_,.cons y r,h=> .cons y (ShE.snoc r h)
theorem ShE.length{H:Hp}{kvs:List (Key×V)}{zs:List (Int×(Nat×Nat))}(h:ShE H kvs zs):kvs.length=zs.length:=Paired.length h
theorem ShE.get{H:Hp}:∀{kvs:List (Key×V)}{zs:List (Int×(Nat×Nat))}{p:Int},ShE H kvs zs→p∈zs.map (·.1)→∃(y:Nat×Nat)(t:Addr),(p,y)∈zs∧valV kvs (Sum.inl p)=some (.ref t)∧H t=some (.tup [.int (y.1:Nat),.int (y.2:Nat)])
 |_,_,_,.nil,h=>by simp at h
 |_,_,p,.cons (a:=kv) (b:=z) ⟨a,t,e,ht⟩ r,h=>by
  obtain⟨k,v⟩:=kv;obtain⟨w,x⟩:=z;dsimp only at a e ht;subst a e
  by_cases c:w=p
  ·subst c;exact⟨x,t,by simp,YF rfl,ht⟩
  ·have h':p∈_:=(List.mem_cons.mp h).resolve_left (fun y=>c y.symm);obtain⟨y,t',h1,h2,h3⟩:=ShE.get r h';exact⟨y,t',List.mem_cons_of_mem _ h1,by rw[YE (fun y=>c (Sum.inl.inj y))];exact h2,h3⟩
theorem ShE.none{H:Hp}{kvs:List (Key×V)}{zs:List (Int×(Nat×Nat))}{p:Int}(h:ShE H kvs zs)(hp:p∉zs.map (·.1)):valV kvs (Sum.inl p)=none:=by
 cases e:valV kvs (Sum.inl p) with
 |none=>rfl
 |some v=>
  exfalso;have:(valV kvs (Sum.inl p)).isSome=true:=by rw[e];rfl
  rw[←WX,List.any_eq_true] at this;obtain⟨kv,hm,e2⟩:=this;obtain⟨i,hi,rfl⟩:=List.getElem_of_mem hm;obtain⟨z,hz,a,_⟩:=Paired.get' h (List.getElem?_eq_getElem hi);have e3:kvs[i].1=Sum.inl p:=of_decide_eq_true e2;rw[a] at e3;have:z.1=p:=Sum.inl.inj e3;exact hp (List.mem_map.mpr ⟨z,List.mem_of_getElem? hz,this⟩)
theorem Zg2{y u:Nat×Nat}{x:Nat×Nat}{gv tk G n:Nat}(y0:0<y.1)(y1:0<y.2)(g0:0<gv)(t0:0<tk)(hu:u.1=gv / G)(hv:u.2=tk / G)(hG:G=Nat.gcd gv tk)(hx:x.1=y.1*u.1 / Nat.gcd (y.1*u.1) (y.2*u.2))(hx2:x.2=y.2*u.2 / Nat.gcd (y.1*u.1) (y.2*u.2)):
  (0<x.1∧0<x.2∧Nat.gcd x.1 x.2=1)∧x.1*y.2*tk=y.1*x.2*gv∧x.1≤y.1*gv∧x.2≤y.2*tk:=by
 have Gp:0<G:=by rw[hG];exact Nat.gcd_pos_of_pos_left _ g0
 have d1:G ∣ gv:=by rw[hG];exact Nat.gcd_dvd_left _ _
 have d2:G ∣ tk:=by rw[hG];exact Nat.gcd_dvd_right _ _
 have e1:gv=u.1*G:=by rw[hu,Nat.div_mul_cancel d1]
 have e2:tk=u.2*G:=by rw[hv,Nat.div_mul_cancel d2]
 have u0:0<u.1:=by rcases Nat.eq_zero_or_pos u.1 with z|z;rw[z,Nat.zero_mul] at e1;omega;exact z
 have v0:0<u.2:=by rcases Nat.eq_zero_or_pos u.2 with z|z;rw[z,Nat.zero_mul] at e2;omega;exact z
 have A0:0<y.1*u.1:=Nat.mul_pos y0 u0;have B0:0<y.2*u.2:=Nat.mul_pos y1 v0;have gp:0<Nat.gcd (y.1*u.1) (y.2*u.2):=Nat.gcd_pos_of_pos_left _ A0;have c1:x.1*Nat.gcd (y.1*u.1) (y.2*u.2)=y.1*u.1:=by rw[hx,Nat.div_mul_cancel (Nat.gcd_dvd_left _ _)]
 have c2:x.2*Nat.gcd (y.1*u.1) (y.2*u.2)=y.2*u.2:=by rw[hx2,Nat.div_mul_cancel (Nat.gcd_dvd_right _ _)]
 refine⟨⟨?_,?_,?_⟩,?_,?_,?_⟩
 ·rw[hx];exact Nat.div_pos (Nat.le_of_dvd A0 (Nat.gcd_dvd_left _ _)) gp
 ·rw[hx2];exact Nat.div_pos (Nat.le_of_dvd B0 (Nat.gcd_dvd_right _ _)) gp
 ·rw[hx,hx2];exact Nat.gcd_div_gcd_div_gcd_of_pos_left A0
 ·generalize Nat.gcd (y.1*u.1) (y.2*u.2)=g at*;have k:x.1*(y.2*u.2)=(y.1*u.1)*x.2:=by rw[←c2,←c1,Nat.mul_comm x.2 g,Nat.mul_assoc]
  calc x.1*y.2*tk=x.1*(y.2*u.2)*G:=by rw[e2];simp only[Nat.mul_assoc]
   _=(y.1*u.1)*x.2*G:=by rw[k]
   _=y.1*x.2*gv:=by rw[e1,Nat.mul_right_comm y.1 u.1 x.2,Nat.mul_assoc (y.1*x.2)]
 ·have h1:x.1≤y.1*u.1:=by rw[hx];exact Nat.div_le_self _ _
  have h2:u.1≤gv:=by rw[hu];exact Nat.div_le_self _ _
  exact Nat.le_trans h1 (Nat.mul_le_mul_left _ h2)
 ·have h1:x.2≤y.2*u.2:=by rw[hx2];exact Nat.div_le_self _ _
  have h2:u.2≤tk:=by rw[hv];exact Nat.div_le_self _ _
  exact Nat.le_trans h1 (Nat.mul_le_mul_left _ h2)
theorem Zk8{H:Hp}{kvs:List (Key×V)}{tr:Fo.ZQ}{i:Nat}{kv:Key×V}(h:Ent H kvs tr)(e:kvs[i]? =some kv):∃w st,tr[i]? =some (w,st)∧kv.1=Sum.inl w∧ZaS H kv.2 st:=by
 obtain⟨⟨w,st⟩,h1,h2,h3⟩:=Paired.get' h e;exact⟨w,st,h1,h2,h3⟩
theorem ZdP{H:Hp}{a:Addr}{u:HO}(h:L2.Rd H a u):H a≠none:=by
 rcases h with h|⟨o,h⟩<;>(rw[h];simp)
theorem U9{H:Hp}{d:Addr}{kvs:List (Key×V)}{o:Obj}(h:L2.Rd H d (.dK kvs)):ZJ [d] H (upd H d (.frz o (.dK kvs))):=by
 refine⟨fun b x e n=>?_,fun b xs e=>?_⟩
 ·rw[Zg (fun z=>n (by simp[z]))];exact e
 ·have:b≠d:=fun z=>by
   rw[z] at e;rcases h with h|⟨o',h⟩<;>(rw[h] at e;cases e)
  rw[Zg this];exact e
def Y0(ls:List B5):Prop:=∀i<ls.length,∃gv tk,0<gv∧0<tk∧gv<2 ^ 110∧tk<2 ^ 110∧(ls.getD i dB).give=((gv:Nat):Int)∧(ls.getD i dB).take=((tk:Nat):Int)
theorem Zin{ls:List B5}{n:Nat}{F:List (Int×Fo.ZQ)}(hb:ZK ls n)(hw:Fo.Vf (YG ls) n F n){i j:Nat}{x y:Int×Fo.ZQ}(hi:F[i]? =some x)(hj:F[j]? =some y)(ne:i≠j):∀w∈Fo.keys x.2,w∉Fo.keys y.2:=by
 intro w h1 h2;obtain⟨g1,c1,_,_⟩:=hw.tree x (List.mem_of_getElem? hi);obtain⟨g2,c2,_,_⟩:=hw.tree y (List.mem_of_getElem? hj);have a1:=(g1.keys_iff c1 w).mp h1;have a2:=(g2.keys_iff c2 w).mp h2;have e1:=hw.least x (List.mem_of_getElem? hi) y.1 ((g1.keys_iff c1 _).mpr (a1.trans (a2.symm (ZaB ls))));have e2:=hw.least y (List.mem_of_getElem? hj) x.1 ((g2.keys_iff c2 _).mpr (a2.trans (a1.symm (ZaB ls))));obtain⟨hi',ei⟩:=List.getElem?_eq_some_iff.mp hi;obtain⟨hj',ej⟩:=List.getElem?_eq_some_iff.mp hj;rcases Nat.lt_or_gt_of_ne ne with z|z
 ·have:=List.pairwise_iff_getElem.mp hw.rise i j hi' hj' z;rw[ei,ej] at this;omega
 ·have:=List.pairwise_iff_getElem.mp hw.rise j i hj' hi' z;rw[ei,ej] at this;omega
theorem U0{α β:Type}{P P':α→β→Prop}:∀{xs:List α}{ys:List β},Paired P xs ys→(∀x y,x∈xs→P x y→P' x y)→Paired P' xs ys
 |_,_,.nil,_=> .nil
 |_,_,.cons h r,f=> .cons (f _ _ (by simp) h) (U0 r fun x y hx=>f x y (List.mem_cons_of_mem _ hx))
noncomputable def Wd (H:Hp):List Addr→List (Int×Fo.ZQ)→Prop:=Paired fun d x=>∃kvs,L2.Rd H d (.dK kvs)∧Ent H kvs x.2
theorem We.r{H:Hp}{ds:List Addr}{F:List (Int×Fo.ZQ)}(h:We H ds F):Wd H ds F:=Paired.mapP h fun _ _ ⟨kvs,a,b⟩=>⟨kvs,.inl a,b⟩
theorem Wd.same{H H':Hp}{ds:List Addr}{F:List (Int×Fo.ZQ)}(h:Wd H ds F)(s:Ze H H'):Wd H' ds F:=Paired.mapP h fun _ _ ⟨kvs,a,b⟩=>⟨kvs,a.imp (s _ _) (fun⟨o,z⟩=>⟨o,s _ _ z⟩),b.keep fun _ _ e=>s _ _ e⟩
theorem Wd.length{H:Hp}{ds:List Addr}{F:List (Int×Fo.ZQ)}(h:Wd H ds F):ds.length=F.length:=Paired.length h
theorem Zlm{H:Hp}{d:Addr}{k1 k2:List (Key×V)}(h1:L2.Rd H d (.dK k1))(h2:L2.Rd H d (.dK k2)):k1=k2:=by
 rcases h1 with a|⟨o1,a⟩<;>rcases h2 with b|⟨o2,b⟩<;>(rw[a] at b;cases b)<;>rfl
theorem Wd.frz{H:Hp}{ds:List Addr}{F:List (Int×Fo.ZQ)}(h:Wd H ds F){d:Addr}{kvs:List (Key×V)}{o:Obj}(hd:L2.Rd H d (.dK kvs)):Wd (upd H d (.frz o (.dK kvs))) ds F:=Paired.mapP h fun d' _ ⟨k,a,b⟩=>by
 refine⟨k,?_,b.keep (U9 hd).tups⟩
 by_cases z:d'=d
 ·subst z;rw[Zlm a hd];exact .inr ⟨o,Zd⟩
 ·rcases a with a|⟨o',a⟩
  ·exact .inl (by rw[Zg z];exact a)
  ·exact .inr ⟨o',by rw[Zg z];exact a⟩
noncomputable def lcmL (zs:List (Int×(Nat×Nat))):Nat:=zs.foldl (fun c x=>Nat.lcm c x.2.2) 1
theorem ZhU(zs:List (Int×(Nat×Nat)))(x:Int×(Nat×Nat)):lcmL (zs++ [x])=Nat.lcm (lcmL zs) x.2.2:=by unfold lcmL;rw[List.foldl_append];rfl
theorem Zjq{a b:Nat}:a / Nat.gcd a b*b=Nat.lcm a b:=by
 unfold Nat.lcm;rw[Nat.div_mul_right_comm (Nat.gcd_dvd_left a b)]
theorem Zig{a b n m:Nat}(ha:a<2 ^ n)(hb:b<2 ^ m):Nat.lcm a b<2 ^ (n+m):=by
 unfold Nat.lcm;exact Nat.lt_of_le_of_lt (Nat.div_le_self _ _) (VT ha hb)
def Zbp(ls:List B5)(x:Int×Fo.ZQ)(rs:List Int):Prop:=∃zs,Wy ls x.2 zs x.2.length∧∀y∈zs,rs[y.1.toNat]? =some ((lcmL zs / y.2.2*y.2.1:Nat):Int)
noncomputable def ZcL (cs:List Int) (b:B5):Int:=cs.getD b.giver.toNat 0*b.give-cs.getD b.taker.toNat 0*b.take
structure Zmj(ls:List B5)(n:Nat)(rs:List Int):Prop where
 len:rs.length=n
 pos:∀c∈rs,∃k:Nat,c=(k:Int)∧0<k∧k<2 ^ 420000
theorem Zeq:∀(zs:List (Int×(Nat×Nat)))(c:Nat),c ∣ zs.foldl (fun c x=>Nat.lcm c x.2.2) c∧∀y∈zs,y.2.2 ∣ zs.foldl (fun c x=>Nat.lcm c x.2.2) c
 | [],c=>⟨Nat.dvd_refl _,by simp⟩
 |z::zs,c=>by
  obtain⟨h1,h2⟩:=Zeq zs (Nat.lcm c z.2.2);refine⟨Nat.dvd_trans (Nat.dvd_lcm_left _ _) h1,fun y hy=>?_⟩;rcases List.mem_cons.mp hy with rfl|hy
  ·exact Nat.dvd_trans (Nat.dvd_lcm_right _ _) h1
  ·exact h2 y hy
theorem Zeu:∀(zs:List (Int×(Nat×Nat)))(c m:Nat),c ∣ m→(∀y∈zs,y.2.2 ∣ m)→zs.foldl (fun c x=>Nat.lcm c x.2.2) c ∣ m
 | [],_,_,h,_=>h
 |z::zs,c,m,h,k=>Zeu zs _ m (Nat.lcm_dvd h (k z (by simp))) fun y hy=>k y (List.mem_cons_of_mem _ hy)
theorem Zd3{zs:List (Int×(Nat×Nat))}{y:Int×(Nat×Nat)}(h:y∈zs):y.2.2 ∣ lcmL zs:=(Zeq zs 1).2 y h
theorem ZiT{zs:List (Int×(Nat×Nat))}{m:Nat}(h:∀y∈zs,y.2.2 ∣ m):lcmL zs ∣ m:=Zeu zs 1 m (Nat.one_dvd m) h
theorem ZfN{zs:List (Int×(Nat×Nat))}(h:∀y∈zs,0<y.2.2):0<lcmL zs:=by
 unfold lcmL;have key:∀(zs:List (Int×(Nat×Nat)))(c:Nat),0<c→(∀y∈zs,0<y.2.2)→0<zs.foldl (fun c x=>Nat.lcm c x.2.2) c:=by
  intro zs
  induction zs with
  |nil=>intro c hc _;exact hc
  |cons z zs ih=>intro c hc k;exact ih _ (Nat.lcm_pos hc (k z (by simp))) fun y hy=>k y (List.mem_cons_of_mem _ hy)
 exact key zs 1 (by decide) h
theorem Zgc{ls:List B5}{tr:Fo.ZQ}{first:Int}{ways:Int→List Fo.Trip}{zs:List (Int×(Nat×Nat))}(hg:Fo.Y2 ways first tr)(h:Wy ls tr zs tr.length){k:Nat}(hk:∀y∈zs,k ∣ lcmL zs / y.2.2*y.2.1):k=1:=by
 have hl0:0<tr.length:=(List.getElem?_eq_some_iff.mp hg.head).1;have h0:=List.mem_of_getElem? (h.first 0 first hl0 hg.head);have kC:k ∣ lcmL zs:=by
  have:=hk _ h0;simpa using this
 have Cp:0<lcmL zs:=ZfN fun y hy=>(h.pos y hy).2.1;obtain⟨c,hc⟩:=kC;have k0:0<k:=by
  rcases Nat.eq_zero_or_pos k with z|z
  ·rw[z,Nat.zero_mul] at hc;omega
  ·exact z
 have all:∀y∈zs,y.2.2 ∣ c:=by
  intro y hy;obtain⟨p1,p2,p3⟩:=h.pos y hy;obtain⟨m,hm⟩:=hk y hy;have e1:lcmL zs / y.2.2*y.2.2=lcmL zs:=Nat.div_mul_cancel (Zd3 hy);have e2:k*(c*y.2.1)=k*(y.2.2*m):=by
   calc k*(c*y.2.1)=lcmL zs*y.2.1:=by rw[hc,Nat.mul_assoc]
    _=(lcmL zs / y.2.2*y.2.1)*y.2.2:=by
     conv=>lhs;rw[←e1]
     rw[Nat.mul_right_comm]
    _=k*m*y.2.2:=by rw[hm]
    _=k*(y.2.2*m):=by rw[Nat.mul_assoc,Nat.mul_comm m]
  have e3:=Nat.eq_of_mul_eq_mul_left k0 e2;have d:y.2.2 ∣ c*y.2.1:=⟨m,e3⟩;exact Nat.Coprime.dvd_of_dvd_mul_right (show Nat.gcd y.2.2 y.2.1=1 by rw[Nat.gcd_comm];exact p3) d
 have hd:=ZiT all;rw[hc] at hd;have c0:0<c:=by
  rcases Nat.eq_zero_or_pos c with z|z
  ·rw[z,Nat.mul_zero] at hc;omega
  ·exact z
 have:=Nat.le_of_dvd c0 hd;rcases Nat.lt_or_ge k 2 with z|z
 ·omega
 ·have:2*c≤k*c:=Nat.mul_le_mul_right c z;omega
structure VI(ls:List B5)(z:Int→Nat):Prop where
 pos:∀w,0<z w
 bal:∀i<ls.length,(ls.getD i dB).give.toNat*z (ls.getD i dB).giver=(ls.getD i dB).take.toNat*z (ls.getD i dB).taker
theorem Zfn{ls:List B5}{z:Int→Nat}(hz:VI ls z)(hsz:Y0 ls){tr:Fo.ZQ}{first:Int}{zs:List (Int×(Nat×Nat))}(hg:Fo.Y2 (YG ls) first tr)(h:Wy ls tr zs tr.length):
  ∀(i:Nat)(y:Int×(Nat×Nat)),zs[i]? =some y→y.2.1*z first=y.2.2*z y.1:=by
 have hzl:=h.len (Nat.le_refl _);intro i
 induction i using Nat.strongRecOn with
 |_ i ih=>
  intro y hy;have hi:i<tr.length:=by have:=(List.getElem?_eq_some_iff.mp hy).1;omega
  obtain⟨⟨w,st⟩,e⟩:∃x,tr[i]? =some x:=⟨tr[i],List.getElem?_eq_getElem hi⟩;cases st with
  |none=>
   have h1:=h.first i w hi e;rw[hy] at h1;cases h1;have hi0:=hg.only i w e;subst hi0;rw[hg.head] at e;cases e;simp
  |some x=>
   obtain⟨p,b,al⟩:=x;obtain⟨j,x',y',hj,h1,h2,hb⟩:=h.step i w p b al hi e;rw[hy] at h1;cases h1;have ihj:=ih j hj _ h2;obtain⟨hw,_⟩:=hg.steps i w p b al e;obtain⟨bi,hbi,hm⟩:=Zah hw;obtain⟨_,y1,_⟩:=h.pos _ (List.mem_of_getElem? h2);obtain⟨gv,tk,g0,t0,_,_,eg,et⟩:=hsz bi hbi;have hbal:=hz.bal bi hbi;rw[VH] at hm;unfold Bal at hb;dsimp only at ihj y1⊢;rcases hm with⟨m1,m2⟩|⟨m1,m2⟩
   ·injection m2 with e1 e2
    injection e2 with e2 e3
    subst e3;rw[if_pos rfl,e2,Int.toNat_natCast,eg,et,Int.toNat_natCast,Int.toNat_natCast] at hb;rw[eg,et,Int.toNat_natCast,Int.toNat_natCast,m1,←e1] at hbal;refine Nat.eq_of_mul_eq_mul_left (Nat.mul_pos y1 t0) ?_
    calc y'.2*tk*(x'.1*z first)=x'.1*y'.2*tk*z first:=by simp only[Nat.mul_comm,Nat.mul_left_comm,Nat.mul_assoc]
     _=y'.1*x'.2*gv*z first:=by rw[hb]
     _=x'.2*gv*(y'.1*z first):=by simp only[Nat.mul_comm,Nat.mul_left_comm,Nat.mul_assoc]
     _=x'.2*y'.2*(gv*z p):=by rw[ihj];simp only[Nat.mul_comm,Nat.mul_left_comm,Nat.mul_assoc]
     _=y'.2*tk*(x'.2*z w):=by rw[hbal];simp only[Nat.mul_comm,Nat.mul_left_comm,Nat.mul_assoc]
   ·injection m2 with e1 e2
    injection e2 with e2 e3
    subst e3;rw[if_neg (by decide),e2,Int.toNat_natCast,eg,et,Int.toNat_natCast,Int.toNat_natCast] at hb;rw[eg,et,Int.toNat_natCast,Int.toNat_natCast,m1,←e1] at hbal;refine Nat.eq_of_mul_eq_mul_left (Nat.mul_pos y1 g0) ?_
    calc y'.2*gv*(x'.1*z first)=x'.1*y'.2*gv*z first:=by simp only[Nat.mul_comm,Nat.mul_left_comm,Nat.mul_assoc]
     _=y'.1*x'.2*tk*z first:=by rw[hb]
     _=x'.2*tk*(y'.1*z first):=by simp only[Nat.mul_comm,Nat.mul_left_comm,Nat.mul_assoc]
     _=x'.2*y'.2*(tk*z p):=by rw[ihj];simp only[Nat.mul_comm,Nat.mul_left_comm,Nat.mul_assoc]
     _=y'.2*gv*(x'.2*z w):=by rw[←hbal];simp only[Nat.mul_comm,Nat.mul_left_comm,Nat.mul_assoc]
theorem Zct{ls:List B5}{z:Int→Nat}(hz:VI ls z)(hsz:Y0 ls){tr:Fo.ZQ}{first:Int}{zs:List (Int×(Nat×Nat))}(hg:Fo.Y2 (YG ls) first tr)(h:Wy ls tr zs tr.length){y:Int×(Nat×Nat)}(hy:y∈zs):
  lcmL zs / y.2.2*y.2.1*z first=lcmL zs*z y.1:=by
 obtain⟨i,hi⟩:=List.getElem?_of_mem hy;have e:=Zfn hz hsz hg h i y hi
 calc lcmL zs / y.2.2*y.2.1*z first=lcmL zs / y.2.2*(y.2.1*z first):=by rw[Nat.mul_assoc]
  _=lcmL zs / y.2.2*y.2.2*z y.1:=by rw[e,Nat.mul_assoc]
  _=lcmL zs*z y.1:=by rw[Nat.div_mul_cancel (Zd3 hy)]
theorem Zkw{zs:List (Int×(Nat×Nat))}(h:∀y∈zs,y.2.2<2 ^ 6700):lcmL zs<2 ^ (6700*zs.length+1):=by
 have key:∀(zs:List (Int×(Nat×Nat)))(c n:Nat),c<2 ^ n→(∀y∈zs,y.2.2<2 ^ 6700)→zs.foldl (fun c x=>Nat.lcm c x.2.2) c<2 ^ (n+6700*zs.length):=by
  intro zs
  induction zs with
  |nil=>intro c n hc _;simpa using hc
  |cons z zs ih=>
   intro c n hc k;have:=ih (Nat.lcm c z.2.2) (n+6700) (Zig hc (k z (by simp))) fun y hy=>k y (List.mem_cons_of_mem _ hy);have e:n+6700+6700*zs.length=n+6700*(z::zs).length:=by simp[Nat.mul_succ];omega
   rw[e] at this;exact this
 have:=key zs 1 1 (by decide) h;rw[Nat.add_comm];exact this
section
variable {ls:List B5}{n:Nat}{F:List (Int×Fo.ZQ)}{rs:List Int}
theorem Zfk{x:Int×Fo.ZQ}{zs:List (Int×(Nat×Nat))}(h:Wy ls x.2 zs x.2.length){w:Int}(hw:w∈Fo.keys x.2):∃y∈zs,y.1=w:=by
 have h1:=h.keys;have h2:(Fo.keys x.2).take x.2.length=Fo.keys x.2:=List.take_of_length_le (by simp[Fo.keys]);rw[h2] at h1;rw[←h1] at hw;obtain⟨y,hy,e⟩:=List.mem_map.mp hw;exact⟨y,hy,e⟩
theorem ZfH(hbt:ZK ls n)(hn:n≤60)(hwd:Fo.Vf (YG ls) n F n)(hrl:rs.length=n)(hset:∀x∈F,Zbp ls x rs):Zmj ls n rs:=by
 refine⟨hrl,fun c hc=>?_⟩;obtain⟨i,hi,rfl⟩:=List.getElem_of_mem hc;obtain⟨x,hx,hk⟩:=hwd.all (i:Int) (by omega) (by omega);obtain⟨zs,hg,hz⟩:=hset x hx;obtain⟨y,hy,ey⟩:=Zfk hg hk;have h1:=hz y hy;rw[ey,Int.toNat_natCast,List.getElem?_eq_getElem hi] at h1;obtain⟨g,gg,g0,g1⟩:=hwd.tree x hx;have htl:x.2.length≤60:=by
  have:=Fo.Vm (n:=n) g.nodup (g.rg ⟨g0,g1⟩ (U4 hbt));simp[Fo.keys] at this;omega
 have hzl:=hg.len (Nat.le_refl _);have sz:∀y∈zs,y.2.1<2 ^ 6700∧y.2.2<2 ^ 6700:=fun y hy=>by
  obtain⟨j,hj⟩:=List.getElem?_of_mem hy;have hjl:=(List.getElem?_eq_some_iff.mp hj).1;obtain⟨a,b⟩:=hg.size j y hj;have e:(2:Nat) ^ (110*j+1)≤2 ^ 6700:=Nat.pow_le_pow_right (by decide) (by omega);exact⟨Nat.lt_of_lt_of_le a e,Nat.lt_of_lt_of_le b e⟩
 have hC:=Zkw fun y hy=>(sz y hy).2;obtain⟨p1,p2,_⟩:=hg.pos y hy;refine⟨_,Option.some.inj h1,Nat.mul_pos (Nat.div_pos (Nat.le_of_dvd (ZfN fun y hy=>(hg.pos y hy).2.1) (Zd3 hy)) p2) p1,?_⟩;refine Nat.lt_of_lt_of_le (VT (Nat.lt_of_le_of_lt (Nat.div_le_self _ _) hC) (sz y hy).1) (Nat.pow_le_pow_right (by decide) ?_);have:6700*zs.length≤6700*60:=Nat.mul_le_mul_left _ (by omega);omega
theorem Zbv{z:Int→Nat}(hz:VI ls z)(hsz:Y0 ls)(hbt:ZK ls n)(hwd:Fo.Vf (YG ls) n F n)(hrl:rs.length=n)(hset:∀x∈F,Zbp ls x rs){i:Nat}(hi:i<ls.length):ZcL rs (ls.getD i dB)=0:=by
 obtain⟨a0,a1,b0,b1⟩:=hbt.at hi;obtain⟨gv,tk,g0,t0,_,_,eg,et⟩:=hsz i hi;have hbal:=hz.bal i hi;rw[eg,et,Int.toNat_natCast,Int.toNat_natCast] at hbal;obtain⟨x,hx,hk⟩:=hwd.all (ls.getD i dB).giver a0 a1;obtain⟨g,gg,x0,x1⟩:=hwd.tree x hx;have hk2:(ls.getD i dB).taker∈Fo.keys x.2:=by
  obtain⟨j,s,hj⟩:=Fo.Zcl hk;exact gg j _ s (List.getElem?_eq_some_iff.mp hj).1 hj ((ls.getD i dB).taker,(i:Int),true) (Zfo hi (VH.mpr (.inl ⟨rfl,rfl⟩)))
 obtain⟨zs,hg,hs⟩:=hset x hx;obtain⟨yg,hyg,eyg⟩:=Zfk hg hk;obtain⟨yt,hyt,eyt⟩:=Zfk hg hk2;have r1:=hs yg hyg;have r2:=hs yt hyt;have w1:=Zct hz hsz g hg hyg;have w2:=Zct hz hsz g hg hyt;rw[eyg] at r1 w1;rw[eyt] at r2 w2;have e1:rs.getD (ls.getD i dB).giver.toNat 0=((lcmL zs / yg.2.2*yg.2.1:Nat):Int):=by rw[List.getD_eq_getElem?_getD,r1];rfl
 have e2:rs.getD (ls.getD i dB).taker.toNat 0=((lcmL zs / yt.2.2*yt.2.1:Nat):Int):=by rw[List.getD_eq_getElem?_getD,r2];rfl
 generalize lcmL zs / yg.2.2*yg.2.1=A at*;generalize lcmL zs / yt.2.2*yt.2.1=B at*;have key:A*gv=B*tk:=by
  refine Nat.eq_of_mul_eq_mul_right (hz.pos x.1) ?_
  calc A*gv*z x.1=A*z x.1*gv:=Nat.mul_right_comm _ _ _
   _=lcmL zs*z (ls.getD i dB).giver*gv:=by rw[w1]
   _=lcmL zs*(gv*z (ls.getD i dB).giver):=by simp only[Nat.mul_comm,Nat.mul_left_comm,Nat.mul_assoc]
   _=lcmL zs*z (ls.getD i dB).taker*tk:=by rw[hbal];simp only[Nat.mul_comm,Nat.mul_left_comm,Nat.mul_assoc]
   _=B*z x.1*tk:=by rw[w2]
   _=B*tk*z x.1:=Nat.mul_right_comm _ _ _
 unfold ZcL;rw[e1,e2,eg,et];have k2:(A:Int)*(gv:Int)=(B:Int)*(tk:Int):=by
  rw[←Int.natCast_mul,←Int.natCast_mul,key]
 omega
end
theorem Paired.get{α β:Type}{P:α→β→Prop}:∀{xs:List α}{ys:List β}{i:Nat}{x:α},Paired P xs ys→xs[i]? =some x→∃y,ys[i]? =some y∧P x y
 |_,_,_,_,.nil,e=>by simp at e
 |_,_,0,_,.cons h _,e=>by simp at e;subst e;exact⟨_,rfl,h⟩
 |_,_,i+1,x,.cons _ r,e=>by
  obtain⟨y,h1,h2⟩:=Paired.get (i:=i) (x:=x) r (by simpa using e);exact⟨y,by simpa using h1,h2⟩
theorem UG{α β:Type}{P:α→β→Prop}:∀{xs:List α}{ys:List β},xs.length=ys.length→(∀(i:Nat) x y,xs[i]? =some x→ys[i]? =some y→P x y)→Paired P xs ys
 | [],[],_,_=> .nil
 |x::xs,y::ys,hl,h=> .cons (h 0 x y rfl rfl) (UG (by simpa using hl) fun i a b e1 e2=>h (i+1) a b (by simpa using e1) (by simpa using e2))
 | [],_::_,hl,_=>by simp at hl
 |_::_,[],hl,_=>by simp at hl
theorem Zfj{β γ:Type}{S:γ→β→Prop}{L:List γ}{d:γ}{ys:List β}(h:Paired (fun i v=>S (L.getD i d) v) ((List.range L.length).filter fun _=>true) ys):Paired S L ys:=by
 rw[List.filter_eq_self.mpr (by simp)] at h;refine UG (by rw[←Paired.length h,List.length_range]) fun i x y e1 e2=>?_;have hi:i<L.length:=(List.getElem?_eq_some_iff.mp e1).1;obtain⟨y',h1,h2⟩:=Paired.get (i:=i) (x:=i) h (by simp[hi]);rw[e2] at h1;cases h1;simpa[List.getD,e1] using h2
noncomputable def Vs (H:Hp):List (Int×Int)→List V→Prop:=Paired fun x v=>∃t,v= .ref t∧H t=some (.tup [.int x.1,.int x.2])
theorem Vs.keep{H H':Hp}(t:∀b xs,H b=some (.tup xs)→H' b=some (.tup xs)){vs:List V}{l:List (Int×Int)}(h:Vs H l vs):Vs H' l vs:=Paired.mapP h fun _ _ ⟨a,e,z⟩=>⟨a,e,t _ _ z⟩
noncomputable def LL (H:Hp):List (List (Int×Int))→List Addr→Prop:=Paired fun l a=>∃vs,H a=some (.lst vs)∧Vs H l vs
theorem LL.dom{H:Hp}:∀{ls:List (List (Int×Int))}{as:List Addr},LL H ls as→∀x∈as,H x≠none
 |_,_,.nil,_,hx=>by simp at hx
 |_,_,.cons ⟨vs,h,_⟩ r,x,hx=>by
  rcases List.mem_cons.mp hx with rfl|hx
  ·rw[h];simp
  ·exact LL.dom r x hx
theorem LL.keep{H H':Hp}(t:∀b xs,H b=some (.tup xs)→H' b=some (.tup xs)):∀{ls:List (List (Int×Int))}{as:List Addr},LL H ls as→(∀x∈as,H' x=H x)→LL H' ls as
 |_,_,.nil,_=> .nil
 |_,_,.cons ⟨vs,h,p⟩ r,k=> .cons ⟨vs,(k _ (by simp)).trans h,p.keep t⟩ (LL.keep t r fun x hx=>k x (List.mem_cons_of_mem _ hx))
noncomputable def Yq (ls:List B5) (w:Int):List (Int×Int):=(ZT ls w).map fun i:Nat=>((i:Int),(ls.getD i dB).take)
noncomputable def U6 (ls:List B5) (w:Int):List (Int×Int):=(ZL ls w).map fun i:Nat=>((i:Int),(ls.getD i dB).give)
noncomputable def YD (rows:List B5) (hs:List Int) (w:Int):Bool:=(rows.zip hs).all fun x=>!(decide (x.1.taker=w))||decide (x.1.take≤x.2)
theorem Zcv{w:Int}:∀{rows:List B5}{hs:List Int},(∀(i:Nat)(r:B5)(h:Int),rows[i]? =some r→hs[i]? =some h→r.taker=w→r.take≤h)→YD rows hs w=true
 | [],_,_=>by simp[YD]
 |_::_,[],_=>by simp[YD]
 |r::rs,h::hs,q=>by
  have e:=Zcv (rows:=rs) (hs:=hs) (w:=w) fun i r' h' a b=>q (i+1) r' h' (by simpa using a) (by simpa using b);unfold YD at e⊢;rw[List.zip_cons_cons,List.all_cons,e,Bool.and_true]
  by_cases c:r.taker=w
  ·rw[decide_eq_true (q 0 r h rfl rfl c),Bool.or_true]
  ·rw[decide_eq_false c];rfl
theorem Zb3{w:Int}:∀{rows:List B5}{hs:List Int}(i:Nat){r:B5}{h:Int},rows[i]? =some r→hs[i]? =some h→r.taker=w→h<r.take→YD rows hs w=false
 | [],_,_,_,_,a,_,_,_=>by simp at a
 |_::_,[],_,_,_,_,a,_,_=>by simp at a
 |r::rs,h::hs,0,r',h',a,b,c,d=>by
  simp only[List.getElem?_cons_zero,Option.some.injEq] at a b;subst a b;unfold YD;rw[List.zip_cons_cons,List.all_cons,decide_eq_true c,decide_eq_false (show ¬r.take≤h by omega)]
  rfl
 |r::rs,h::hs,i+1,r',h',a,b,c,d=>by
  have e:=Zb3 (rows:=rs) (hs:=hs) (w:=w) i (r:=r') (h:=h') (by simpa using a) (by simpa using b) c d;unfold YD at e⊢;rw[List.zip_cons_cons,List.all_cons,e,Bool.and_false]
noncomputable def Wn (rows:List B5) (hs:List Int) (w:Int):List Int:=(rows.zip hs).map fun x=>x.2-(if x.1.taker=w then x.1.take else 0)+(if x.1.giver=w then x.1.give else 0)
theorem Zbn{rows:List B5}{hs:List Int}{w:Int}(h:hs.length=rows.length):(Wn rows hs w).length=hs.length:=by unfold Wn;simp;omega
theorem ZbQ{rows:List B5}{hs:List Int}{w:Int}{i:Nat}(h1:i<rows.length)(h2:i<hs.length)(h3:i<(Wn rows hs w).length):(Wn rows hs w)[i]=hs[i]-(if rows[i].taker=w then rows[i].take else 0)+(if rows[i].giver=w then rows[i].give else 0):=by
 have e:(Wn rows hs w)[i]? =some (hs[i]-(if rows[i].taker=w then rows[i].take else 0)+(if rows[i].giver=w then rows[i].give else 0)):=by
  unfold Wn;rw[List.getElem?_map,List.getElem?_eq_getElem (by rw[List.length_zip];omega)];simp
 rw[List.getElem?_eq_getElem h3] at e;exact Option.some.inj e
noncomputable def ZaW (hs:List Int) (l:List (Int×Int)):Bool:=l.all fun x=>decide (x.2≤hs.getD x.1.toNat 0)
theorem Zc2{rows:List B5}{hs:List Int}{w:Int}(h:hs.length=rows.length):ZaW hs (Yq rows w)=YD rows hs w:=by
 cases e:ZaW hs (Yq rows w) with
 |true=>
  refine(Zcv fun i r x a b c=>?_).symm;have hi:i<rows.length:=(List.getElem?_eq_some_iff.mp a).1;have er:rows.getD i dB=r:=by simp[List.getD,a]
  have m:((i:Int),r.take)∈Yq rows w:=by
   unfold Yq ZT;refine List.mem_map.mpr ⟨i,List.mem_filter.mpr ⟨List.mem_range.mpr hi,decide_eq_true (by rw[er];exact c)⟩,by rw[er]⟩
  have:=of_decide_eq_true (List.all_eq_true.mp e _ m);simpa[List.getD,b] using this
 |false=>
  unfold ZaW at e;rw[List.all_eq_false] at e;obtain⟨x,hx,d⟩:=e;unfold Yq ZT at hx;obtain⟨i,hi,rfl⟩:=List.mem_map.mp hx;obtain⟨h1,h2⟩:=List.mem_filter.mp hi;have hr:=List.mem_range.mp h1;have ei:=List.getElem?_eq_getElem hr;have eh:=List.getElem?_eq_getElem (show i<hs.length by omega);have er:rows.getD i dB=rows[i]:=by simp[List.getD,ei]
  rw[er] at h2 d;refine(Zb3 i ei eh (of_decide_eq_true h2) ?_).symm;have d':¬rows[i].take≤hs.getD (i:Int).toNat 0:=fun z=>d (decide_eq_true z);have eg:hs.getD (i:Int).toNat 0=hs[i]:=by simp[List.getD,eh]
  rw[eg] at d';omega
theorem ZbC{ls:List B5}{w:Int}{i:Nat}(h:i∈ZT ls w):i<ls.length:=List.mem_range.mp (List.mem_filter.mp h).1
theorem ZaD{ls:List B5}{w:Int}{i:Nat}(h:i∈ZL ls w):i<ls.length:=List.mem_range.mp (List.mem_filter.mp h).1
theorem Zdw{ls:List B5}{w:Int}:(ZT ls w).length≤ls.length:=Nat.le_trans (List.length_filter_le _ _) (by simp)
theorem Zdr{ls:List B5}{w:Int}:(ZL ls w).length≤ls.length:=Nat.le_trans (List.length_filter_le _ _) (by simp)
noncomputable def bump (f:Nat→Int) (hs:List Int) (is:List Nat):List Int:=is.foldl (fun hs i=>hs.set i (hs.getD i 0+f i)) hs
theorem WV(f:Nat→Int):∀(is:List Nat)(hs:List Int),(bump f hs is).length=hs.length
 | [],_=>rfl
 |i::is,hs=>by
  show(bump f (hs.set i _) is).length=_;rw[WV f is,List.length_set]
theorem ZdZ(f:Nat→Int):∀(is:List Nat)(hs:List Int)(j:Nat),is.Nodup→j<hs.length→(bump f hs is).getD j 0=hs.getD j 0+if j∈is then f j else 0
 | [],hs,j,_,_=>by simp[bump]
 |i::is,hs,j,nd,hj=>by
  obtain⟨n1,n2⟩:=List.nodup_cons.mp nd;show(bump f (hs.set i (hs.getD i 0+f i)) is).getD j 0=_;rw[ZdZ f is _ j n2 (by rw[List.length_set];exact hj)]
  by_cases e:i=j
  ·subst e;have e1:(hs.set i (hs.getD i 0+f i)).getD i 0=hs.getD i 0+f i:=by rw[List.getD_eq_getElem?_getD,List.getElem?_set_self hj];rfl
   rw[e1,if_neg n1,if_pos List.mem_cons_self,Int.add_zero]
  ·have e1:(hs.set i (hs.getD i 0+f i)).getD j 0=hs.getD j 0:=by rw[List.getD_eq_getElem?_getD,List.getElem?_set_ne e,List.getD_eq_getElem?_getD]
   rw[e1];have:(j∈i::is)↔j∈is:=by simp[Ne.symm e]
   simp only[this]
theorem UE(n:Nat)(c:Nat→Bool):((List.range n).filter c).Nodup:=List.nodup_range.filter c
theorem ZgO{rows:List B5}{hs:List Int}{w:Int}(h:hs.length=rows.length):
  bump (fun i=>(rows.getD i dB).give) (bump (fun i=>-(rows.getD i dB).take) hs (ZT rows w)) (ZL rows w)=Wn rows hs w:=by
 have l1:=WV (fun i=>-(rows.getD i dB).take) (ZT rows w) hs;refine List.ext_getElem (by rw[WV,l1,Zbn h]) fun i h1 h2=>?_;rw[WV,l1] at h1;have hr:i<rows.length:=by omega
 rw[ZbQ hr h1 h2];have e0:∀(xs:List Int)(hx:i<xs.length),xs[i]=xs.getD i 0:=fun xs hx=>by simp[List.getD,hx]
 rw[e0 _ (by rw[WV,l1];exact h1),ZdZ _ (ZL rows w) _ _ (UE _ _) (by rw[l1];exact h1),ZdZ _ (ZT rows w) _ _ (UE _ _) h1,←e0 hs h1];have er:rows.getD i dB=rows[i]:=by simp[List.getD,hr]
 have m1:i∈ZT rows w↔rows[i].taker=w:=by
  unfold ZT;rw[List.mem_filter,List.mem_range,er,decide_eq_true_eq];exact⟨fun z=>z.2,fun z=>⟨hr,z⟩⟩
 have m2:i∈ZL rows w↔rows[i].giver=w:=by
  unfold ZL;rw[List.mem_filter,List.mem_range,er,decide_eq_true_eq];exact⟨fun z=>z.2,fun z=>⟨hr,z⟩⟩
 simp only[m1,m2,er]
 split<;>split<;>omega
theorem LL.at{H:Hp}{ls:List (List (Int×Int))}{ia:List Addr}{w:Int}{l:List (Int×Int)}(h:LL H ls ia)(h0:0≤w)(e:ls[w.toNat]? =some l):∃x vs,atI (ia.map V.ref) w=some (.ref x)∧H x=some (.lst vs)∧Vs H l vs:=by
 obtain⟨x,h1,vs,h2,h3⟩:=Paired.get h e;refine⟨x,vs,?_,h2,h3⟩;have:=Yu (xs:=ia.map V.ref) (j:=w.toNat) (v:= .ref x) (by rw[List.getElem?_map,h1];rfl)
 rwa [Int.toNat_of_nonneg h0] at this
theorem LL.len{H:Hp}{ls:List (List (Int×Int))}{ia:List Addr}(h:LL H ls ia):ia.length=ls.length:=(Paired.length h).symm
theorem Zex{H:Hp}{js:List Nat}{f:Nat→Int}{ys:List V}(h:Paired (fun i v=>∃t,v=V.ref t∧H t=some (.tup [.int (js.getD i 0:Nat),.int (f (js.getD i 0))])) ((List.range (js.map fun i:Nat=>V.int i).length).filter fun _=>true) ys):Vs H (js.map fun i:Nat=>((i:Int),f i)) ys:=by
 rw[List.length_map] at h;have h1:Paired (fun(j:Nat) v=>∃t,v=V.ref t∧H t=some (.tup [.int (j:Nat),.int (f j)])) js ys:=Zfj (L:=js) (d:=0) h;refine UG (by rw[List.length_map];exact Paired.length h1) fun i x y e1 e2=>?_;rw[List.getElem?_map] at e1;cases e:js[i]? with
 |none=>rw[e] at e1;cases e1
 |some j=>
  rw[e] at e1;cases e1;obtain⟨y',e3,h3⟩:=Paired.get h1 e;rw[e2] at e3;cases e3;exact h3
theorem Zdq{ls:List B5}{w:Int}{n:Nat}(h:n=ls.length):∀x∈Yq ls w,0≤x.1∧x.1<n:=by
 intro x hx;obtain⟨i,hi,rfl⟩:=List.mem_map.mp hx;have:=ZbC hi;show 0≤(i:Int)∧(i:Int)<n;omega
theorem Zcw{ls:List B5}{w:Int}:(Yq ls w).length≤ls.length:=by unfold Yq;rw[List.length_map];exact Zdw
theorem Zea{f:Nat→Int}{hs:List Int}{is:List Nat}{i:Nat}(h:i<is.length):bump f hs (is.take (i+1))=(bump f hs (is.take i)).set is[i] ((bump f hs (is.take i)).getD is[i] 0+f is[i]):=by
 unfold bump;rw[List.take_succ_eq_append_getElem h,List.foldl_append]
 rfl
theorem Zii{js:List Nat}{f:Nat→Int}{H:Hp}{vs:List V}{i:Nat}(h:Vs H (js.map fun i:Nat=>((i:Int),f i)) vs)(hi:i<js.length):∃t,vs.getD i .non= .ref t∧H t=some (.tup [.int (js[i]:Nat),.int (f js[i])]):=by
 obtain⟨v,hv,t,rfl,ht⟩:=Paired.get h (i:=i) (x:=((js[i]:Int),f js[i])) (by rw[List.getElem?_map,List.getElem?_eq_getElem hi];rfl);exact⟨t,by simp[List.getD,hv],ht⟩
noncomputable def fB (b:B5) (s:Int):Fire.Belt:=⟨b.giver.toNat,b.taker.toNat,b.give,b.take,s⟩
noncomputable def fBs (ls:List B5) (st:List Int):List Fire.Belt:=(ls.zip st).map fun x=>fB x.1 x.2
noncomputable def Wb (ls:List B5) (st:List Int) (d:Nat→Nat):List Int:=(fBs ls st).map fun b=>Fire.lie b d
noncomputable def Z0 (rs:List Int) (v:Nat):Nat:=(rs.getD v 0).toNat
noncomputable def Wg (ls:List B5) (st rs:List Int) (d:Nat→Nat) (v:Nat):Bool:=decide (d v<Z0 rs v)&&YD ls (Wb ls st d) v
noncomputable def WH (ls:List B5) (st rs:List Int) (d:Nat→Nat):List Bool:=(List.range rs.length).map fun v=>Wg ls st rs d v
noncomputable def Z3 (rs:List Int) (d:Nat→Nat):List Int:=(List.range rs.length).map fun v=>(Z0 rs v:Int)-(d v:Int)
noncomputable abbrev YQ (ls:List B5) (st rs:List Int):(Nat→Nat)→Nat→Prop:=Fire.May (fBs ls st) rs.length (Z0 rs)
def UI(ls:List B5)(st rs:List Int)(d:Nat→Nat)(w:Nat):Prop:=YQ ls st rs d w∧∀v<w,¬YQ ls st rs d v
theorem Yh{ls:List B5}{st:List Int}{d:Nat→Nat}(h:st.length=ls.length):(Wb ls st d).length=ls.length:=by simp[Wb,fBs,h]
theorem W4{ls:List B5}{st:List Int}{d:Nat→Nat}{j:Nat}(h:st.length=ls.length)(hj:j<ls.length):(Wb ls st d)[j]'(by rw[Yh h];exact hj)=Fire.lie (fB ls[j] (st[j]'(by omega))) d:=by simp[Wb,fBs]
theorem Zcn{ls:List B5}{st:List Int}(h:st.length=ls.length){b:Fire.Belt}(hb:b∈fBs ls st):∃(j:Nat)(hj:j<ls.length),b=fB ls[j] (st[j]'(by omega)):=by
 obtain⟨j,hj,rfl⟩:=List.mem_iff_getElem.mp hb;have hj':j<ls.length:=by simp[fBs,h] at hj;exact hj
 exact⟨j,hj',by simp[fBs]⟩
theorem ZgJ{ls:List B5}{st:List Int}(h:st.length=ls.length){j:Nat}(hj:j<ls.length):fB ls[j] (st[j]'(by omega))∈fBs ls st:=
 List.mem_map.mpr ⟨(ls[j],st[j]'(by omega)),List.mem_iff_getElem.mpr ⟨j,by simp[h,hj],by simp⟩,rfl⟩
theorem VN{ls:List B5}{hs:List Int}{w:Int}(h:hs.length=ls.length):YD ls hs w=true↔∀(j:Nat)(hj:j<ls.length),ls[j].taker=w→ls[j].take≤hs[j]'(by omega):=by
 unfold YD;rw[List.all_eq_true]
 constructor
 ·intro q j hj e;have:=q (ls[j],hs[j]'(by omega)) (List.mem_iff_getElem.mpr ⟨j,by simp[h,hj],by simp⟩);simpa[e] using this
 ·intro q x hx;obtain⟨j,hj,rfl⟩:=List.mem_iff_getElem.mp hx;have hj':j<ls.length:=by simp[h] at hj;exact hj
  by_cases e:ls[j].taker=w
  ·have:=q j hj' e;simp[e,this]
  ·simp[e]
section
variable {ls:List B5}{st rs:List Int}{d:Nat→Nat}{n:Nat}
theorem Uo(h:st.length=ls.length)(hb:ZK ls n){v:Nat}(hv:v<rs.length):Wg ls st rs d v=true↔YQ ls st rs d v:=by
 unfold Wg;rw[Bool.and_eq_true,decide_eq_true_eq,VN (Yh h)]
 constructor
 ·rintro⟨h1,h2⟩;refine⟨hv,h1,fun b hm ht=>?_⟩;obtain⟨j,hj,rfl⟩:=Zcn h hm;have:=h2 j hj (by have:=hb ls[j] (List.getElem_mem hj);have ht':ls[j].taker.toNat=v:=ht;omega);rw[W4 h hj] at this;exact this
 ·rintro⟨_,h1,h2⟩;refine⟨h1,fun j hj e=>?_⟩;rw[W4 h hj];exact h2 _ (ZgJ h hj) (by show ls[j].taker.toNat=v;omega)
theorem ZgR(h:st.length=ls.length)(hb:ZK ls n){v:Nat}(hv:v<rs.length):Wg ls st rs d v=false↔¬YQ ls st rs d v:=by
 rw[←Uo h hb hv];simp
theorem Ze7{v:Nat}(hv:v<rs.length):(WH ls st rs d)[v]? =some (Wg ls st rs d v):=by simp[WH,hv]
theorem ZhN:(WH ls st rs d).length=rs.length:=by simp[WH]
theorem Zb4:(Z3 rs d).length=rs.length:=by simp[Z3]
theorem ZfO{v:Nat}(hv:v<rs.length):(Z3 rs d).getD v 0=(Z0 rs v:Int)-(d v:Int):=by simp[Z3,List.getD,hv]
theorem ZiU(h:st.length=ls.length)(hb:ZK ls n)(q:true∉WH ls st rs d):∀w,¬YQ ls st rs d w:=fun w r=>q (by
 have:=(Uo h hb r.1).mpr r;rw[←this];exact List.mem_map.mpr ⟨w,by simpa using r.1,rfl⟩)
theorem ZeU{b:Fire.Belt}{w:Nat}:Fire.lie b (Fire.bump d w)=Fire.lie b d-(if b.taker=w then b.take else 0)+(if b.giver=w then b.give else 0):=by
 unfold Fire.lie
 by_cases e1:b.giver=w<;>by_cases e2:b.taker=w<;>simp only[e1,e2,if_true,if_false,Fire.W0,Fire.Va,ne_eq,not_false_eq_true,Int.natCast_add,Int.mul_add,Int.natCast_one,Int.mul_one]<;>omega
theorem Zek(h:st.length=ls.length)(hb:ZK ls n)(w:Nat):Wn ls (Wb ls st d) w=Wb ls st (Fire.bump d w):=by
 refine List.ext_getElem (by rw[Zbn (Yh h),Yh h,Yh h]) fun j h1 h2=>?_;have hj:j<ls.length:=by rw[Yh h] at h2;exact h2
 rw[ZbQ hj (by rw[Yh h];exact hj) h1,W4 h hj,W4 h hj,ZeU];have hbj:=hb ls[j] (List.getElem_mem hj);have e1:(ls[j].taker=(w:Int))↔((fB ls[j] (st[j]'(by omega))).taker=w):=by show _↔ls[j].taker.toNat=w;omega
 have e2:(ls[j].giver=(w:Int))↔((fB ls[j] (st[j]'(by omega))).giver=w):=by show _↔ls[j].giver.toNat=w;omega
 simp only[e1,e2]
 rfl
def Za2(ls:List B5)(w:Int)(ms:List Int):Prop:=ms.Pairwise (· < ·)∧∀x,x∈ms↔x=w∨∃i∈ZL ls w,(ls.getD i dB).taker=x
theorem Zh3(h:st.length=ls.length)(hb:ZK ls n){w v:Nat}{ms:List Int}(ht:Za2 ls w ms)(hv:(v:Int)∉ms):Wg ls st rs (Fire.bump d w) v=Wg ls st rs d v:=by
 have hv':=mt (ht.2 v).mpr hv;have nv:v≠w:=fun e=>hv' (.inl (by rw[e]));unfold Wg;rw[Fire.Va d nv]
 congr 1
 rw[Bool.eq_iff_iff,VN (Yh h),VN (Yh h)];have key:∀(j:Nat)(hj:j<ls.length),ls[j].taker=(v:Int)→(Wb ls st (Fire.bump d w))[j]'(by rw[Yh h];exact hj)=(Wb ls st d)[j]'(by rw[Yh h];exact hj):=fun j hj e=>by
  have hbj:=hb ls[j] (List.getElem_mem hj);rw[W4 h hj,W4 h hj,ZeU,if_neg (by show ¬ls[j].taker.toNat=w;omega),if_neg ?_]
  ·omega
  ·intro z;have z':ls[j].giver.toNat=w:=z;refine hv' (.inr ⟨j,?_,?_⟩)
   ·unfold ZL;rw[List.mem_filter];exact⟨by simpa using hj,by simp[List.getD,hj];omega⟩
   ·simp[List.getD,hj,e]
 constructor
 ·intro q j hj e;rw[←key j hj e];exact q j hj e
 ·intro q j hj e;rw[key j hj e];exact q j hj e
end
noncomputable def ZN (ls:List B5):List Int:=ls.map B5.start
def TL(H:Hp)(ls:List B5)(n:Nat)(ic:List Addr):Prop:=ic.length=n∧∀v<n,∃ms:List Int,H (ic.getD v 0)=some (.lst (ms.map V.int))∧Za2 ls v ms
noncomputable def Zby (ls:List B5) (n:Nat):List (List (Int×Int)):=(List.range n).map fun w:Nat=>Yq ls w
noncomputable def ZhW (ls:List B5) (n:Nat):List (List (Int×Int)):=(List.range n).map fun w:Nat=>U6 ls w
def Wq{K:PySem.W.Frag}{mg:Str→Option Value}(T:Tp K mg)(H:Hp)(p:Addr)(ls:List B5)(rs:List Int):Prop:=
 ∃(dx a b c d e:Addr)(ia ib ic:List Addr)(bs:List V),H p=some (.ins T.C_Course dx [("turns",.ref a),("rows",.ref b),("takes",.ref c),("gives",.ref d),("touched",.ref e)])∧H a=some (.lst (rs.map V.int))∧H b=some (.lst bs)∧Yj H bs ls∧
  H c=some (.lst (ia.map V.ref))∧LL H (Zby ls rs.length) ia∧H d=some (.lst (ib.map V.ref))∧LL H (ZhW ls rs.length) ib∧H e=some (.lst (ic.map V.ref))∧TL H ls rs.length ic
theorem Wq.same{K:PySem.W.Frag}{mg:Str→Option Value}{T:Tp K mg}{H H':Hp}{p:Addr}{ls:List B5}{rs:List Int}(h:Wq T H p ls rs)(s:Ze H H'):Wq T H' p ls rs:=by
 obtain⟨dx,a,b,c,d,e,ia,ib,ic,bs,h1,h3,h4,h5,h6,h7,h8,h9,h10,h11,h12⟩:=h;have kk:∀{gs:List (List (Int×Int))}{is:List Addr},LL H gs is→LL H' gs is:=fun{gs is} l=>l.keep (fun b xs z=>s _ _ z) fun x hx=>by
  cases q:H x with
  |none=>exact absurd q (l.dom x hx)
  |some o=>exact s _ _ q
 exact⟨dx,a,b,c,d,e,ia,ib,ic,bs,s _ _ h1,s _ _ h3,s _ _ h4,h5.keep fun b xs z=>s _ _ z,s _ _ h6,kk h7,s _ _ h8,kk h9,s _ _ h10,h11,fun v hv=>(let⟨ms,x,y⟩:=h12 v hv;⟨ms,s _ _ x,y⟩)⟩
theorem Zgn{K:PySem.W.Frag}{mg:Str→Option Value}{T:Tp K mg}{H:Hp}{p:Addr}{ls:List B5}{rs:List Int}{m:Str}{G:Prop}(h:Wq T H p ls rs)(m1:(m== "turns")=false)(m2:(m== "rows")=false)(m3:(m== "takes")=false)(m4:(m== "gives")=false)(m5:(m== "touched")=false)(q:G):∃a dx fs,V.ref p= .ref a∧H a=some (.ins T.C_Course dx fs)∧fs.lookup m=none∧G:=by
 obtain⟨dx,a,b,c,d,e,ia,ib,ic,bs,h1,_⟩:=h;exact⟨p,dx,_,rfl,h1,Rd.lk1 m1 (Rd.lk1 m2 (Rd.lk1 m3 (Rd.lk1 m4 (Rd.lk1 m5 Rd.lkN)))),q⟩
theorem ZdJ{n:Nat}{P:Nat→Addr→Prop}{ys:List V}(h:Paired (fun(i:Nat) v=>∃x,v=V.ref x∧P i x) (List.range n) ys):∃ia:List Addr,ys=ia.map V.ref∧ia.length=n∧∀i<n,P i (ia.getD i 0):=by
 have hl:n=ys.length:=by have:=Paired.length h;simpa using this
 have hx:∀i:Nat,i<n→∃x,ys[i]? =some (V.ref x)∧P i x:=fun i hi=>by
  obtain⟨y,h1,x,rfl,hx⟩:=Paired.get h (i:=i) (x:=i) (by simp[hi]);exact⟨x,h1,hx⟩
 refine⟨(List.range n).map fun i=>if hi:i<n then(hx i hi).choose else 0,List.ext_getElem? fun i=>?_,by simp,fun i hi=>?_⟩
 ·by_cases hi:i<n
  ·rw[(hx i hi).choose_spec.1];simp[hi]
  ·rw[List.getElem?_eq_none (by omega),List.getElem?_eq_none (by simp;omega)]
 ·have:=(hx i hi).choose_spec.2;simpa[List.getD,hi] using this
noncomputable def WM (f:Nat→Nat) (n:Nat):Nat:=((List.range n).map f).sum
theorem YM(f:Nat→Nat)(n:Nat):WM f (n+1)=WM f n+f n:=by simp[WM,List.range_succ]
theorem Zd8(c:Nat→Nat){w:Nat}:∀{n:Nat},w<n→WM (Fire.bump c w) n=WM c n+1
 |0,h=>absurd h (Nat.not_lt_zero _)
 |n+1,h=>by
  rw[YM,YM];rcases Nat.lt_or_ge w n with z|z
  ·rw[Zd8 c z,Fire.Va c (by omega)];omega
  ·obtain rfl:w=n:=by omega
   have:∀k,k≤w→WM (Fire.bump c w) k=WM c k:=by
    intro k
    induction k with
    |zero=>intro _;rfl
    |succ k ih=>intro hk;rw[YM,YM,ih (by omega),Fire.Va c (by omega)]
   rw[this w (Nat.le_refl _),Fire.W0];omega
theorem ZaU{f g:Nat→Nat}:∀{n:Nat},(∀v<n,f v≤g v)→WM f n≤WM g n
 |0,_=>Nat.le_refl _
 |n+1,h=>by
  rw[YM,YM];exact Nat.add_le_add (ZaU fun v hv=>h v (by omega)) (h n (by omega))
theorem Zgx{f g:Nat→Nat}:∀{n:Nat},(∀v<n,f v≤g v)→WM f n=WM g n→∀v<n,f v=g v
 |0,_,_=>fun v hv=>absurd hv (Nat.not_lt_zero _)
 |n+1,h,e=>by
  rw[YM,YM] at e;have h1:=ZaU (n:=n) fun v hv=>h v (by omega);have h2:=h n (by omega);intro v hv;rcases Nat.lt_or_ge v n with z|z
  ·exact Zgx (fun v hv=>h v (by omega)) (by omega) v z
  ·obtain rfl:v=n:=by omega
   omega
noncomputable def tot (rs:List Int):Nat:=WM (Z0 rs) rs.length
theorem Zcc{rs:List Int}(h:∀r∈rs,0≤r):(tot rs:Int)=rs.sum:=by
 unfold tot;have:∀k,k≤rs.length→(WM (Z0 rs) k:Int)=(rs.take k).sum:=by
  intro k
  induction k with
  |zero=>intro _;rfl
  |succ k ih=>
   intro hk;have hk':k<rs.length:=by omega
   rw[YM,List.take_succ_eq_append_getElem hk',List.sum_append,Int.natCast_add,ih (by omega)];have:=h rs[k] (List.getElem_mem hk');have e:Z0 rs k=rs[k].toNat:=by simp[Z0,List.getD,hk']
   rw[e];simp;omega
 rw[this rs.length (Nat.le_refl _),List.take_length]
section
variable {ls:List B5}{st rs:List Int}{d:Nat→Nat}{ws:List Nat}
theorem VO{c:Nat→Nat}(h:Fire.Yd (UI ls st rs) c ws d):Fire.Yd (YQ ls st rs) c ws d:=by
 induction h with
 |nil c=>exact .nil c
 |cons r _ ih=>exact .cons r.1 ih
theorem ZkC{c:Nat→Nat}(h:Fire.Yd (YQ ls st rs) c ws d)(h0:∀v<rs.length,c v≤Z0 rs v):(∀v<rs.length,d v≤Z0 rs v)∧WM d rs.length=WM c rs.length+ws.length:=by
 induction h with
 |nil c=>exact⟨h0,rfl⟩
 | @cons c d w ws r _ ih=>
  obtain⟨a,b⟩:=ih fun v hv=>by
   by_cases e:v=w
   ·subst e;rw[Fire.W0];exact r.2.1
   ·rw[Fire.Va c e];exact h0 v hv
  refine⟨a,?_⟩;rw[b,Zd8 c r.1,List.length_cons];omega
theorem Zfu:∀n,WM (fun _=>0) n=0
 |0=>rfl
 |n+1=>by rw[YM,Zfu n]
theorem Za7(h:Fire.Yd (YQ ls st rs) (fun _=>0) ws d):(∀v<rs.length,d v≤Z0 rs v)∧ws.length=WM d rs.length∧ws.length≤tot rs:=by
 obtain⟨a,b⟩:=ZkC h fun _ _=>Nat.zero_le _;rw[Zfu,Nat.zero_add] at b;exact⟨a,b.symm,by rw[←b];exact ZaU a⟩
theorem ZgA(h:Fire.Yd (YQ ls st rs) (fun _=>0) ws d){w:Nat}(r:YQ ls st rs d w):ws.length<tot rs:=by
 have:=(Za7 (h.snoc r)).2.2;rw[List.length_append,List.length_singleton] at this;omega
end
theorem Zh1:∀ys:List Bool,inV (.bl true) (ys.map V.bl)=decide (true∈ys)
 | []=>rfl
 |y::ys=>by
  have e:inV (.bl true) ((y::ys).map V.bl)=(eqV (.bl y) (.bl true)||inV (.bl true) (ys.map V.bl)):=rfl;rw[e,Zh1 ys];cases y<;>simp[eqV]
theorem Zjh(ys:List Bool):(ys.map V.bl).all Uz=true:=by
 rw[List.all_map,List.all_eq_true];intro _ _
 rfl
theorem Zc7:∀{bs:List Bool},true∈bs→∃j:Nat,bs[j]? =some true∧∀m<j,bs[m]? =some false
 |true::bs,_=>⟨0,rfl,fun m h=>absurd h (Nat.not_lt_zero m)⟩
 |false::bs,h=>by
  obtain⟨j,h1,h2⟩:=Zc7 (bs:=bs) (by simpa using h);exact⟨j+1,by simpa using h1,fun m hm=>by
   cases m with
   |zero=>rfl
   |succ m=>simpa using h2 m (by omega)⟩
theorem Zhq{rs:List Int}{d:Nat→Nat}{w:Nat}(hw:w<rs.length):(Z3 rs d).set w ((Z3 rs d).getD w 0-1)=Z3 rs (Fire.bump d w):=by
 refine List.ext_getElem (by simp[Z3]) fun v h1 h2=>?_;have hv:v<rs.length:=by simpa[Z3] using h2
 have e0:=ZfO (d:=d) hw;generalize (Z3 rs d).getD w 0=y at*;subst e0;rw[List.getElem_set]
 by_cases e:w=v
 ·subst e;simp[Z3,Fire.W0];omega
 ·rw[if_neg e];simp[Z3,Fire.Va d (Ne.symm e)]
noncomputable def W9 (ls:List B5) (st rs:List Int) (d d':Nat→Nat) (ms:List Int):List Bool:=(List.range rs.length).map fun v:Nat=>if(v:Int)∈ms then Wg ls st rs d' v else Wg ls st rs d v
theorem ZjK{ls:List B5}{st rs:List Int}{d d':Nat→Nat}:W9 ls st rs d d' []=WH ls st rs d:=by simp[W9,WH]
theorem Zju{ls:List B5}{st rs:List Int}{d:Nat→Nat}{n w:Nat}{ms:List Int}(h:st.length=ls.length)(hb:ZK ls n)(ht:Za2 ls w ms):W9 ls st rs d (Fire.bump d w) ms=WH ls st rs (Fire.bump d w):=by
 unfold W9 WH;refine List.map_congr_left fun v _=>?_
 split
 ·rfl
 ·rename_i z;exact(Zh3 h hb ht z).symm
theorem Zd7{ls:List B5}{st rs:List Int}{d d':Nat→Nat}{ms:List Int}{v:Nat}:(W9 ls st rs d d' ms).set v (Wg ls st rs d' v)=W9 ls st rs d d' (ms++ [(v:Int)]):=by
 refine List.ext_getElem (by simp[W9]) fun i h1 h2=>?_;have hi:i<rs.length:=by simpa[W9] using h2
 rw[List.getElem_set]
 by_cases e:v=i
 ·subst e;simp[W9]
 ·rw[if_neg e];have:¬((i:Int)=(v:Int)):=fun z=>e (by omega);simp[W9,this,Ne.symm e]
def Yp(ls:List B5)(rs st cs:List Int)(j:Nat):Prop:=cs.getD (ls.getD j dB).taker.toNat 0<rs.getD (ls.getD j dB).taker.toNat 0∧st.getD j 0+(ls.getD j dB).give*cs.getD (ls.getD j dB).giver.toNat 0-(ls.getD j dB).take*cs.getD (ls.getD j dB).taker.toNat 0<(ls.getD j dB).take
structure V8(ls:List B5)(rs st cs:List Int)(n:Nat)(kvs:List (Key×V)):Prop where
 val:∀i y,valV kvs (Sum.inl i)=some y→∃j<n,y= .int j∧(ls.getD j dB).taker=i∧Yp ls rs st cs j
 all:∀j<n,Yp ls rs st cs j→∃y,valV kvs (Sum.inl (ls.getD j dB).taker)=some y
 keys:∃ks:List Int,kvs.map (·.1)=ks.map Sum.inl∧∀i∈ks,∃y,valV kvs (Sum.inl i)=some y
 len:kvs.length≤n
theorem V8.nil{ls:List B5}{rs st cs:List Int}:V8 ls rs st cs 0 []:=⟨fun _ _ h=>by simp[ZcS] at h,fun _ h=>absurd h (Nat.not_lt_zero _),⟨[],rfl,by simp⟩,Nat.le_refl _⟩
theorem V8.skip{ls:List B5}{rs st cs:List Int}{n:Nat}{kvs:List (Key×V)}(h:V8 ls rs st cs n kvs)(hn:Yp ls rs st cs n→∃y,valV kvs (Sum.inl (ls.getD n dB).taker)=some y):V8 ls rs st cs (n+1) kvs:=
 ⟨fun i y e=>(let⟨j,hj,r⟩:=h.val i y e;⟨j,by omega,r⟩),fun j hj s=>by
  rcases Nat.lt_or_ge j n with z|z
  ·exact h.all j z s
  ·obtain rfl:j=n:=by omega
   exact hn s,h.keys,Nat.le_succ_of_le h.len⟩
theorem V8.add{ls:List B5}{rs st cs:List Int}{n:Nat}{kvs:List (Key×V)}(h:V8 ls rs st cs n kvs)(hs:Yp ls rs st cs n)(hn:valV kvs (Sum.inl (ls.getD n dB).taker)=none):V8 ls rs st cs (n+1) (Ya kvs (Sum.inl (ls.getD n dB).taker) (.int n)):=by
 refine⟨fun i y e=>?_,fun j hj s=>?_,?_,?_⟩
 ·rw[Ug] at e
  split at e
  ·rename_i q;cases e;exact⟨n,Nat.lt_succ_self _,rfl,(Sum.inl.inj q).symm,hs⟩
  ·obtain⟨j,hj,r⟩:=h.val i y e;exact⟨j,by omega,r⟩
 ·rw[Ug]
  split
  ·exact⟨_,rfl⟩
  ·rename_i q;rcases Nat.lt_or_ge j n with z|z
   ·exact h.all j z s
   ·exact absurd (by rw[show j=n by omega]) q
 ·obtain⟨ks,e,r⟩:=h.keys;refine⟨ks++ [(ls.getD n dB).taker],by rw[VC _ hn,List.map_append,e];simp,fun i hi=>?_⟩;rw[Ug]
  split
  ·exact⟨_,rfl⟩
  ·rename_i q;rcases List.mem_append.mp hi with z|z
   ·exact r i z
   ·exact absurd (by rw[List.mem_singleton.mp z]) q
 ·rw[VC _ hn,List.length_append,List.length_singleton];have:=h.len;omega
noncomputable def Z7 (ls:List B5) (j:Nat):Int:=(ls.getD j dB).taker
noncomputable def V2 (ls:List B5) (j:Nat):Int:=(ls.getD j dB).giver
structure Vy(ls:List B5)(rs st cs:List Int)(ring:List Nat):Prop where
 ne:ring≠[]
 inn:∀j∈ring,j<ls.length∧Yp ls rs st cs j
 nd:(ring.map (Z7 ls)).Nodup
 link:∀i<ring.length,V2 ls (ring.getD i 0)=Z7 ls (ring.getD ((i+1) % ring.length) 0)
structure V9(ls:List B5)(rs st cs:List Int)(ys:List Nat)(w:Int)(pl:List (Key×V)):Prop where
 inn:∀j∈ys,j<ls.length∧Yp ls rs st cs j
 nd:(ys.map (Z7 ls)).Nodup
 link:∀i<ys.length,V2 ls (ys.getD i 0)=(ys.map (Z7 ls)++ [w]).getD (i+1) 0
 at_:∀i<ys.length,valV pl (Sum.inl (Z7 ls (ys.getD i 0)))=some (.int i)
 no:∀a,a∉ys.map (Z7 ls)→valV pl (Sum.inl a)=none
 len:pl.length≤ys.length
section
variable {ls:List B5}{rs st cs:List Int}{ys:List Nat}{w:Int}{pl:List (Key×V)}
theorem V9.nil(w:Int):V9 ls rs st cs [] w []:=⟨by simp,by simp,fun i h=>absurd h (Nat.not_lt_zero _),fun i h=>absurd h (Nat.not_lt_zero _),fun a _=>ZcS,Nat.le_refl _⟩
theorem V9.short{n:Nat}(h:V9 ls rs st cs ys w pl)(hb:ZK ls n):ys.length≤n:=by
 have:=Fo.Vm (n:=n) h.nd (fun a ha=>by
  obtain⟨j,hj,rfl⟩:=List.mem_map.mp ha;have hjl:=(h.inn j hj).1;have:=hb ls[j] (List.getElem_mem hjl);unfold Z7;rw[Zw hjl];omega)
 simpa using this
theorem V9.step(h:V9 ls rs st cs ys w pl)(hw:valV pl (Sum.inl w)=none){j:Nat}(hj:j<ls.length)(hs:Yp ls rs st cs j)(ht:Z7 ls j=w):V9 ls rs st cs (ys++ [j]) (V2 ls j) (Ya pl (Sum.inl w) (.int ys.length)):=by
 have nw:w∉ys.map (Z7 ls):=fun z=>by
  obtain⟨i,hi,e⟩:=List.getElem_of_mem z;have hi':i<ys.length:=by simpa using hi
  have:=h.at_ i hi';rw[Zw hi'] at this;rw[List.getElem_map] at e;rw[e,hw] at this;cases this
 refine⟨fun i hi=>?_,?_,fun i hi=>?_,fun i hi=>?_,fun a ha=>?_,?_⟩
 ·rcases List.mem_append.mp hi with z|z
  ·exact h.inn i z
  ·rw[List.mem_singleton.mp z];exact⟨hj,hs⟩
 ·rw[List.map_append];refine List.nodup_append.mpr ⟨h.nd,by simp,fun a ha b hb e=>?_⟩;obtain rfl:b=Z7 ls j:=by simpa using hb
  rw[ht] at e;exact nw (e▸ha)
 ·rw[List.length_append,List.length_singleton] at hi;rcases Nat.lt_or_ge i ys.length with z|z
  ·have e1:(ys++ [j]).getD i 0=ys.getD i 0:=by simp[List.getD,List.getElem?_append_left z]
   rw[e1,h.link i z,List.map_append,List.map_singleton,ht];have hl:(ys.map (Z7 ls)++ [w]).length=ys.length+1:=by simp
   simp only[List.getD];rw[List.getElem?_append_left (l₁:=ys.map (Z7 ls)++ [w]) (by rw[hl];omega)]
  ·obtain rfl:i=ys.length:=by omega
   have e1:(ys++ [j]).getD ys.length 0=j:=by simp[List.getD]
   rw[e1];have hl:(((ys++ [j]).map (Z7 ls)).length)=ys.length+1:=by simp
   simp only[List.getD];rw[List.getElem?_append_right (by rw[hl];exact Nat.le_refl _),hl,Nat.sub_self]
   rfl
 ·rw[List.length_append,List.length_singleton] at hi;rw[Ug];rcases Nat.lt_or_ge i ys.length with z|z
  ·have e1:(ys++ [j]).getD i 0=ys.getD i 0:=by simp[List.getD,List.getElem?_append_left z]
   rw[e1,if_neg (fun e=>nw (by rw[←Sum.inl.inj e,Zw z];exact List.mem_map.mpr ⟨_,List.getElem_mem z,rfl⟩))];exact h.at_ i z
  ·obtain rfl:i=ys.length:=by omega
   have e1:(ys++ [j]).getD ys.length 0=j:=by simp[List.getD]
   rw[e1,ht,if_pos rfl]
 ·rw[List.map_append,List.mem_append,List.map_singleton,List.mem_singleton,ht] at ha;rw[Ug,if_neg (fun e=>ha (.inr (Sum.inl.inj e)))];exact h.no a fun z=>ha (.inl z)
 ·rw[VC _ hw,List.length_append,List.length_append,List.length_singleton,List.length_singleton];have:=h.len;omega
theorem V9.ring(h:V9 ls rs st cs ys w pl){y:V}(hw:valV pl (Sum.inl w)=some y):∃m:Nat,y= .int m∧m<ys.length∧Vy ls rs st cs (ys.drop m):=by
 have hm:w∈ys.map (Z7 ls):=by
  by_cases z:w∈ys.map (Z7 ls)
  ·exact z
  ·rw[h.no w z] at hw;cases hw
 obtain⟨m,hm',e⟩:=List.getElem_of_mem hm;have hml:m<ys.length:=by simpa using hm'
 have e1:=h.at_ m hml;have e2:Z7 ls (ys.getD m 0)=w:=by rw[Zw hml];simpa using e
 rw[e2,hw] at e1;cases e1;refine⟨m,rfl,hml,fun z=>?_,fun j hj=>h.inn j (List.mem_of_mem_drop hj),?_,fun i hi=>?_⟩
 ·have:=congrArg List.length z;simp at this;omega
 ·rw[List.map_drop];exact h.nd.sublist (List.drop_sublist _ _)
 ·rw[List.length_drop] at hi;have g1:(ys.drop m).getD i 0=ys.getD (m+i) 0:=by simp[List.getD]
  rw[g1,h.link (m+i) (by omega),List.length_drop];rcases Nat.lt_or_ge (m+i+1) ys.length with z|z
  ·rw[Nat.mod_eq_of_lt (by omega)];have g2:(ys.drop m).getD (i+1) 0=ys.getD (m+i+1) 0:=by simp[List.getD,Nat.add_assoc]
   rw[g2,Zw z];simp only[List.getD];rw[List.getElem?_append_left (by simpa using z)];simp[z]
  ·have ei:i+1=ys.length-m:=by omega
   rw[ei,Nat.mod_self];have g2:(ys.drop m).getD 0 0=ys.getD m 0:=by simp[List.getD]
   have ei2:m+i+1=ys.length:=by omega
   rw[g2,e2,ei2];simp[List.getD]
end
theorem ZjF{xs:List V}{k:Nat}(h:k≤xs.length):Vz xs (some (k:Int)) none=xs.drop k:=by
 have e1:HT.sIx xs.length 0 (some (k:Int))=k:=by
  simp only[HT.sIx];rw[if_neg (by omega)];simp;omega
 have e2:HT.sIx xs.length xs.length none=xs.length:=by simp[HT.sIx]
 unfold Vz;rw[e1,e2,List.take_of_length_le (by rw[List.length_drop];exact Nat.le_refl _)]
noncomputable def Z6 (n:Nat) (d:Nat→Nat):List Int:=(List.range n).map fun v=>((d v:Nat):Int)
theorem W2{n:Nat}{d:Nat→Nat}:(Z6 n d).length=n:=by simp[Z6]
theorem U7{n v:Nat}{d:Nat→Nat}(h:v<n):(Z6 n d).getD v 0=(d v:Int):=by simp[Z6,List.getD,h]
def Zjo(ls:List B5)(rs:List Int):Prop:=∀b∈ls,b.give*rs.getD b.giver.toNat 0=b.take*rs.getD b.taker.toNat 0
section
variable {ls:List B5}{rs st:List Int}{d:Nat→Nat}
theorem VE(hpos:∀r∈rs,1≤r){v:Nat}(hv:v<rs.length):(Z0 rs v:Int)=rs.getD v 0:=by
 have:=hpos rs[v] (List.getElem_mem hv);unfold Z0;rw[Zw hv];omega
theorem Zd5(hsl:st.length=ls.length)(hbt:ZK ls rs.length)(hpos:∀r∈rs,1≤r){j:Nat}(hj:j<ls.length):Yp ls rs st (Z6 rs.length d) j↔d ls[j].taker.toNat<Z0 rs ls[j].taker.toNat∧Fire.lie (fB ls[j] (st[j]'(by omega))) d<ls[j].take:=by
 have hb:=hbt ls[j] (List.getElem_mem hj);have r1:=VE hpos (v:=ls[j].taker.toNat) (by omega);have c1:=U7 (d:=d) (n:=rs.length) (v:=ls[j].taker.toNat) (by omega);have c2:=U7 (d:=d) (n:=rs.length) (v:=ls[j].giver.toNat) (by omega);have es:st.getD j 0=st[j]'(by omega):=Zw (by omega);unfold Yp Fire.lie fB;rw[Zw hj,c1,c2,←r1,es]
 constructor
 ·rintro⟨a,b⟩;exact⟨by omega,b⟩
 ·rintro⟨a,b⟩;exact⟨by omega,b⟩
theorem ZcD(hsl:st.length=ls.length)(hbt:ZK ls rs.length)(hpos:∀r∈rs,1≤r)(hst:∀w,¬YQ ls st rs d w){v:Nat}(hv:v<rs.length)(hd:d v<Z0 rs v):∃i<ls.length,Z7 ls i=(v:Int)∧Yp ls rs st (Z6 rs.length d) i:=by
 have h1:=mt (Uo (d:=d) hsl hbt hv).mp (hst v);unfold Wg at h1;rw[decide_eq_true hd,Bool.true_and,VN (Yh hsl)] at h1
 by_cases z:∃i<ls.length,Z7 ls i=(v:Int)∧Yp ls rs st (Z6 rs.length d) i
 ·exact z
 ·refine absurd (fun j hj e=>?_) h1;rw[W4 hsl hj];have ns:¬Yp ls rs st (Z6 rs.length d) j:=fun y=>z ⟨j,hj,by unfold Z7;rw[Zw hj];exact e,y⟩;rw[Zd5 hsl hbt hpos hj] at ns;have hb:=hbt ls[j] (List.getElem_mem hj);have et:ls[j].taker.toNat=v:=by omega
  rw[et] at ns;have:=fun y=>ns ⟨hd,y⟩;omega
theorem Zho(hsl:st.length=ls.length)(hbt:ZK ls rs.length)(hpos:∀r∈rs,1≤r)(hst:∀w,¬YQ ls st rs d w)(hbal:Zjo ls rs)(hle:∀v<rs.length,d v≤Z0 rs v)(hs0:∀x∈st,0≤x)(hsz:Y0 ls){j:Nat}(hj:j<ls.length)(h:Yp ls rs st (Z6 rs.length d) j):
  ∃i<ls.length,Z7 ls i=V2 ls j∧Yp ls rs st (Z6 rs.length d) i:=by
 obtain⟨h1,h2⟩:=(Zd5 hsl hbt hpos hj).mp h;have hb:=hbt ls[j] (List.getElem_mem hj);have bal:Fire.Bal (fBs ls st) (Z0 rs):=fun b hm=>by
  obtain⟨i,hi,rfl⟩:=Zcn hsl hm;have hbi:=hbt ls[i] (List.getElem_mem hi);show ls[i].give*(Z0 rs ls[i].giver.toNat:Int)=ls[i].take*(Z0 rs ls[i].taker.toNat:Int);rw[VE hpos (by omega),VE hpos (by omega)];exact hbal _ (List.getElem_mem hi)
 obtain⟨gv,tk,g0,t0,_,_,_,et⟩:=hsz j hj;rw[Zw hj] at et;have hg:=Fire.Zgk (ZgJ hsl hj) bal (hs0 _ (List.getElem_mem _)) (by show 0≤ls[j].take;omega) (hle _ (show ls[j].giver.toNat<rs.length by omega)) h1 h2;obtain⟨i,hi,e,hs⟩:=ZcD hsl hbt hpos hst (v:=ls[j].giver.toNat) (by omega) hg;exact⟨i,hi,by rw[e];unfold V2;rw[Zw hj];omega,hs⟩
end
structure Rts(ls:List B5)(n:Nat)(z:Int→Nat)(rs:List Int):Prop where
 len:rs.length=n
 pos:∀r∈rs,1≤r
 bal:Zjo ls rs
 wood:∃F,Fo.Vf (YG ls) n F n∧∀x∈F,Zbp ls x rs
def W5(ss:List Int):Prop:=∀s∈ss,0<s∧s≤10 ^ 13
structure Vi(ss:List Int)(l:B5):Prop where
 rg:0≤l.giver∧l.giver<(ss.length:Int)∧0≤l.taker∧l.taker<(ss.length:Int)
 sz:∃gv tk:Nat,l.give=(gv:Int)∧l.take=(tk:Int)∧0<gv∧0<tk∧gv<2 ^ 110∧tk<2 ^ 110∧gv*(ss.getD l.giver.toNat 0).toNat=tk*(ss.getD l.taker.toNat 0).toNat
 st:0≤l.start
theorem VJ{ss:List Int}(h:W5 ss){g:Int}(h0:0≤g)(h1:g<(ss.length:Int)):∃a:Nat,ss.getD g.toNat 0=(a:Int)∧0<a∧a≤10 ^ 13:=by
 have hm:ss.getD g.toNat 0∈ss:=by rw[Zw (by omega)];exact List.getElem_mem _
 obtain⟨p1,p2⟩:=h _ hm;exact⟨(ss.getD g.toNat 0).toNat,by omega,by omega,by omega⟩
theorem ZjM{a b f:Nat}(a0:0<a)(b0:0<b)(f0:0<f)(a1:a≤10 ^ 13)(b1:b≤10 ^ 13)(f1:f≤10 ^ 10):
  0<f*b / Nat.gcd a b∧0<f*a / Nat.gcd a b∧f*b / Nat.gcd a b<2 ^ 110∧f*a / Nat.gcd a b<2 ^ 110∧f*b / Nat.gcd a b*a=f*a / Nat.gcd a b*b:=by
 have g0:0<Nat.gcd a b:=Nat.gcd_pos_of_pos_left _ a0;have d1:=Nat.gcd_dvd_left a b;have d2:=Nat.gcd_dvd_right a b;have e1:f*b / Nat.gcd a b=f*(b / Nat.gcd a b):=Nat.mul_div_assoc _ d2;have e2:f*a / Nat.gcd a b=f*(a / Nat.gcd a b):=Nat.mul_div_assoc _ d1;have up:∀x:Nat,x≤10 ^ 13→f*x / Nat.gcd a b<2 ^ 110:=fun x hx=>by
  refine Nat.lt_of_le_of_lt (Nat.div_le_self _ _) (Nat.lt_of_le_of_lt (Nat.mul_le_mul f1 hx) (by decide))
 refine⟨?_,?_,up b b1,up a a1,?_⟩
 ·rw[e1];exact Nat.mul_pos f0 (Nat.div_pos (Nat.le_of_dvd b0 d2) g0)
 ·rw[e2];exact Nat.mul_pos f0 (Nat.div_pos (Nat.le_of_dvd a0 d1) g0)
 ·rw[e1,e2,Nat.mul_assoc,Nat.mul_assoc]
  congr 1
  refine Nat.eq_of_mul_eq_mul_right g0 ?_;rw[Nat.mul_right_comm,Nat.div_mul_cancel d2,Nat.mul_right_comm,Nat.div_mul_cancel d1,Nat.mul_comm]
theorem Zil{f a:Nat}(f1:f≤10 ^ 10)(a1:a≤10 ^ 13):IntMulOk (f:Int) (a:Int):=Vx (n:=110) (m:=110) (Nat.lt_of_le_of_lt f1 (by decide)) (Nat.lt_of_le_of_lt a1 (by decide)) (by decide)
structure ZbM(ls:List B5)(n:Nat)(i:Nat)(xs ys:List Int):Prop where
 ext:∃zs,ys=xs++zs
 nd:ys.Nodup
 rg:∀w∈ys,0≤w∧w<(n:Int)
 cl:ys.length=xs.length→∀j<i,((ls.getD j dB).giver∈xs↔(ls.getD j dB).taker∈xs)
noncomputable def addW (a b:Int) (ys:List Int):List Int:=if a∈ys∧b∉ys then ys++ [b] else ys
theorem Zb7{a b:Int}{ys xs:List Int}{n:Nat}(hb:0≤b∧b<(n:Int))(he:∃zs,ys=xs++zs)(hn:ys.Nodup)(hr:∀w∈ys,0≤w∧w<(n:Int)):(∃zs,addW a b ys=xs++zs)∧(addW a b ys).Nodup∧(∀w∈addW a b ys,0≤w∧w<(n:Int))∧ys.length≤(addW a b ys).length∧((addW a b ys).length=ys.length→addW a b ys=ys∧(a∈ys→b∈ys)):=by
 unfold addW
 split
 ·rename_i c;obtain⟨zs,e⟩:=he;refine⟨⟨zs++ [b],by rw[e,List.append_assoc]⟩,?_,?_,by simp,fun z=>by simp at z⟩
  ·rw[List.nodup_append];refine⟨hn,by simp,?_⟩;intro x hx y hy e';rw[List.mem_singleton.mp hy] at e';exact c.2 (e'▸hx)
  ·intro w hw;rcases List.mem_append.mp hw with z|z
   ·exact hr w z
   ·rw[List.mem_singleton.mp z];exact hb
 ·rename_i c;refine⟨he,hn,hr,Nat.le_refl _,fun _=>⟨rfl,fun ha=>?_⟩⟩
  by_cases hbb:b∈ys
  ·exact hbb
  ·exact absurd ⟨ha,hbb⟩ c
theorem ZbM.step{ls:List B5}{n i:Nat}{xs ys:List Int}(h:ZbM ls n i xs ys)(hb:ZK ls n)(hi:i<ls.length):ZbM ls n (i+1) xs (addW (ls.getD i dB).taker (ls.getD i dB).giver (addW (ls.getD i dB).giver (ls.getD i dB).taker ys)):=by
 obtain⟨b1,b2,b3,b4⟩:=hb.at hi;obtain⟨p1,p2,p3,p4,p5⟩:=Zb7 (a:=(ls.getD i dB).giver) ⟨b3,b4⟩ h.ext h.nd h.rg;obtain⟨q1,q2,q3,q4,q5⟩:=Zb7 (a:=(ls.getD i dB).taker) ⟨b1,b2⟩ p1 p2 p3;refine⟨q1,q2,q3,fun z j hj=>?_⟩;obtain⟨zs,e⟩:=h.ext;have hl:xs.length≤ys.length:=by rw[e,List.length_append];omega
 obtain⟨e1,f1⟩:=p5 (by omega);obtain⟨e2,f2⟩:=q5 (by omega);have ey:ys=xs:=by
  have:zs.length=0:=by
   have:=congrArg List.length e;rw[List.length_append] at this;omega
  rw[e,List.length_eq_zero_iff.mp this,List.append_nil]
 rw[e1] at f2;rw[ey] at f1 f2
 by_cases hji:j=i
 ·subst hji;exact⟨f1,f2⟩
 ·exact h.cl (by rw[ey]) j (by omega)
noncomputable def B5.v4 (b:B5):List V:=[.int b.giver,.int b.taker,.int b.give,.int b.take]
noncomputable def YW (H:Hp):List V→List B5→Prop:=Paired fun v b=>∃t,v= .ref t∧H t=some (.tup b.v4)
theorem YW.keep{H H':Hp}(t:∀b xs,H b=some (.tup xs)→H' b=some (.tup xs)){vs:List V}{l:List B5}(h:YW H vs l):YW H' vs l:=Paired.mapP h fun _ _ ⟨a,e,z⟩=>⟨a,e,t _ _ z⟩
theorem YW.snoc{H:Hp}:∀{vs:List V}{l:List B5}{x:B5}{t:Addr},YW H vs l→H t=some (.tup x.v4)→YW H (vs++ [.ref t]) (l++ [x])
 |_,_,_,_,.nil,h=> .cons ⟨_,rfl,h⟩ .nil
 |_,_,_,_,.cons y r,h=> .cons y (YW.snoc r h)
theorem YW.length{H:Hp}{vs:List V}{l:List B5}(h:YW H vs l):vs.length=l.length:=Paired.length h
theorem YW.at{H:Hp}:∀{bs:List V}{ls:List B5}{i:Nat}{b:B5},YW H bs ls→ls[i]? =some b→∃t,bs[i]? =some (.ref t)∧H t=some (.tup b.v4)
 |_,_,_,_,.nil,e=>by simp at e
 |_,_,0,_,.cons ⟨t,e1,h⟩ _,e=>by simp at e;subst e;exact⟨t,by simp[e1],h⟩
 |_,_,i+1,b,.cons _ r,e=>by
  obtain⟨t,h1,h2⟩:=YW.at (i:=i) (b:=b) r (by simpa using e);exact⟨t,by simpa using h1,h2⟩
theorem YW.getD{H:Hp}{bs:List V}{ls:List B5}{i:Nat}(h:YW H bs ls)(hi:i<ls.length):∃t,bs.getD i .non= .ref t∧H t=some (.tup (ls.getD i dB).v4):=by
 obtain⟨t,h1,h2⟩:=h.at (List.getElem?_eq_getElem hi);exact⟨t,by simp[List.getD,h1],by simpa[List.getD,hi] using h2⟩
theorem Zkg{ls:List B5}{ys:List Int}(hc:∀j<ls.length,((ls.getD j dB).giver∈ys↔(ls.getD j dB).taker∈ys)){a w:Int}(h:Fo.Vk (YG ls) a w)(ha:a∈ys):w∈ys:=by
 induction h with
 |refl=>exact ha
 |step _ m ih=>
  obtain⟨i,hi,hm⟩:=Zah m;rcases VH.mp hm with⟨e1,e2⟩|⟨e1,e2⟩
  ·have e3:=congrArg Prod.fst e2;dsimp only at e3;rw[e3];exact(hc i hi).mp (e1▸ih)
  ·have e3:=congrArg Prod.fst e2;dsimp only at e3;rw[e3];exact(hc i hi).mpr (e1▸ih)
noncomputable def gcdL (rs:List Int) (ys:List Int):Nat:=ys.foldl (fun c w=>Nat.gcd c (rs.getD w.toNat 0).toNat) 0
theorem ZiI(rs:List Int)(ys:List Int)(w:Int):gcdL rs (ys++ [w])=Nat.gcd (gcdL rs ys) (rs.getD w.toNat 0).toNat:=by unfold gcdL;rw[List.foldl_append];rfl
theorem Zaz(rs:List Int):∀(ys:List Int)(c:Nat),ys.foldl (fun c w=>Nat.gcd c (rs.getD w.toNat 0).toNat) c ∣ c∧∀w∈ys,ys.foldl (fun c w=>Nat.gcd c (rs.getD w.toNat 0).toNat) c ∣ (rs.getD w.toNat 0).toNat
 | [],c=>⟨Nat.dvd_refl c,by simp⟩
 |w::ys,c=>by
  obtain⟨h1,h2⟩:=Zaz rs ys (Nat.gcd c (rs.getD w.toNat 0).toNat);refine⟨Nat.dvd_trans h1 (Nat.gcd_dvd_left _ _),fun v hv=>?_⟩;rcases List.mem_cons.mp hv with z|z
  ·rw[z];exact Nat.dvd_trans h1 (Nat.gcd_dvd_right _ _)
  ·exact h2 v z
def ZkF(ls:List B5)(n:Nat)(rs:List Int):Prop:=∀(f:Int)(ys:List Int),0≤f→f<(n:Int)→f∈ys→(∀j<ls.length,((ls.getD j dB).giver∈ys↔(ls.getD j dB).taker∈ys))→gcdL rs ys=1
theorem Zjn{ls:List B5}{n:Nat}{F:List (Int×Fo.ZQ)}{rs:List Int}(hwd:Fo.Vf (YG ls) n F n)(hset:∀x∈F,Zbp ls x rs):ZkF ls n rs:=by
 intro f ys f0 f1 hf hc;obtain⟨x,hx,hk⟩:=hwd.all f f0 f1;obtain⟨hg,hgo,_,_⟩:=hwd.tree x hx;obtain⟨zs,hz,hrs⟩:=hset x hx;refine Zgc hg hz fun y hy=>?_;have hyk:y.1∈Fo.keys x.2:=by
  have h1:=hz.keys;have h2:(Fo.keys x.2).take x.2.length=Fo.keys x.2:=List.take_of_length_le (by simp[Fo.keys]);rw[h2] at h1;rw[←h1];exact List.mem_map.mpr ⟨y,hy,rfl⟩
 have h3:=(hg.keys_iff hgo y.1).mp hyk;have h4:=(hg.keys_iff hgo f).mp hk;have h5:y.1∈ys:=Zkg hc (Fo.Vk.trans (Fo.Vk.symm (ZaB ls) h4) h3) hf;have h6:=(Zaz rs ys 0).2 _ h5;have h7:=hrs y hy;have h8:rs.getD y.1.toNat 0=((lcmL zs / y.2.2*y.2.1:Nat):Int):=by rw[List.getD,h7];rfl
 rw[h8,Int.toNat_natCast] at h6;exact h6
def U5(ls:List B5)(f:Int)(ys:List Int):Prop:=∀P:Int→Prop,P f→(∀j<ls.length,P (ls.getD j dB).giver↔P (ls.getD j dB).taker)→∀w∈ys,P w
theorem U5.add{ls:List B5}{f a b:Int}{ys:List Int}(h:U5 ls f ys)(hab:∀P:Int→Prop,(∀j<ls.length,P (ls.getD j dB).giver↔P (ls.getD j dB).taker)→P a→P b):U5 ls f (addW a b ys):=fun P pf pj w hw=>by
 unfold addW at hw
 split at hw
 ·rename_i c;rcases List.mem_append.mp hw with z|z
  ·exact h P pf pj w z
  ·rw[List.mem_singleton.mp z];exact hab P pj (h P pf pj a c.1)
 ·exact h P pf pj w hw
def Zd0(ls:List B5)(ys:List Int):Prop:=∀j<ls.length,((ls.getD j dB).giver∈ys↔(ls.getD j dB).taker∈ys)
theorem ZbM.lap{ls:List B5}{n:Nat}{xs ys:List Int}(h:ZbM ls n ls.length xs ys):(Zd0 ls xs∧ys=xs)∨xs.length<ys.length:=by
 obtain⟨zs,e⟩:=h.ext;have hl:ys.length=xs.length+zs.length:=by rw[e,List.length_append]
 by_cases z:zs.length=0
 ·have ey:ys=xs:=by rw[e,List.length_eq_zero_iff.mp z,List.append_nil]
  exact .inl ⟨h.cl (by omega),ey⟩
 ·exact .inr (by omega)
theorem ZbM.shut{ls:List B5}{n:Nat}{xs ys:List Int}(h:ZbM ls n ls.length xs ys)(sp:∀w∈ys,w∈xs):ys=xs:=by
 obtain⟨zs,e⟩:=h.ext;cases zs with
 |nil=>rw[e,List.append_nil]
 |cons z zs=>
  exfalso;have nd:=h.nd;rw[e] at nd sp;have:=(List.nodup_append.mp nd).2.2 z (sp z (by simp)) z (by simp);exact this rfl
def Zdi(ls:List B5)(ss:List Int)(w:Nat)(r:Int):Prop:=∃ys:List Int,(w:Int)∈ys∧(∀v∈ys,0≤v∧v<(ss.length:Int))∧Zd0 ls ys∧U5 ls w ys∧r=(((ss.getD w 0).toNat / gcdL ss ys:Nat):Int)
def Zas(ls:List B5)(ss rs:List Int):Prop:=rs.length=ss.length∧∀w<ss.length,Zdi ls ss w (rs.getD w 0)
theorem ZfJ{ss ys:List Int}{w:Int}(hw:w∈ys)(h:0<(ss.getD w.toNat 0).toNat):0<gcdL ss ys:=by
 have:=(Zaz ss ys 0).2 w hw;exact Nat.pos_of_dvd_of_pos this h
noncomputable def Wa (b:B5) (s:Int):B5:=⟨b.giver,b.taker,b.give,b.take,s⟩
theorem Zb6(zs:List Int):PyData.eqv (.list (zs.map PyData.int)) (.list [])=decide (zs=[]):=Zjd zs []
noncomputable def mayL (ls:List B5) (st rs:List Int) (d:Nat→Nat):List Int:=((List.range rs.length).filter fun v=>Wg ls st rs d v).map fun v:Nat=>(v:Int)
theorem Zjt{ls:List B5}{st rs:List Int}{d:Nat→Nat}{n:Nat}(h:st.length=ls.length)(hb:ZK ls n){x:Int}(hx:x∈mayL ls st rs d):∃v:Nat,x=(v:Int)∧YQ ls st rs d v:=by
 obtain⟨v,hv,rfl⟩:=List.mem_map.mp hx;rw[List.mem_filter] at hv;exact⟨v,rfl,(Uo h hb (by simpa using hv.1)).mp hv.2⟩
theorem Zi6{ls:List B5}{st rs:List Int}{d:Nat→Nat}{n:Nat}(h:st.length=ls.length)(hb:ZK ls n)(e:mayL ls st rs d=[]):∀w,¬YQ ls st rs d w:=fun w r=>by
 have:(w:Int)∈mayL ls st rs d:=List.mem_map.mpr ⟨w,by rw[List.mem_filter];exact⟨by simpa using r.1,(Uo h hb r.1).mpr r⟩,rfl⟩;rw[e] at this;cases this
theorem Ziu{n w:Nat}{d:Nat→Nat}(hw:w<n):(Z6 n d).set w ((d w:Int)+1)=Z6 n (Fire.bump d w):=by
 refine List.ext_getElem (by simp[Z6]) fun v h1 h2=>?_;have hv:v<n:=by simpa[Z6] using h2
 rw[List.getElem_set]
 by_cases e:w=v
 ·subst e;simp[Z6,Fire.W0]
 ·rw[if_neg e];simp[Z6,Fire.Va d (Ne.symm e)]
theorem Zfe{vs:List V}{v:V}(h:vs[vs.length-1]? =some v):atI vs (-1)=some v:=by
 have hl:=(List.getElem?_eq_some_iff.mp h).1;have:ixN vs.length (-1)=some (vs.length-1):=by
  unfold ixN;rw[if_neg (by omega)];have e:((vs.length:Int)+ -1).toNat=vs.length-1:=by omega
  first
  |(rw[if_pos (by omega)];congr 1;omega)
  |simp;omega
 unfold atI;rw[this];exact h
theorem ZdN{xs:List Int}{k:Int}(h:(0≤k∧k<xs.length)∨(k= -1∧xs≠[])):∃x∈xs,atI (xs.map V.int) k=some (.int x):=by
 rcases h with⟨h0,h1⟩|⟨rfl,hne⟩
 ·exact⟨_,by rw[Zw (show k.toNat<xs.length by omega)];exact List.getElem_mem _,ZO h0 h1⟩
 ·have hl:0<xs.length:=List.length_pos_iff.mpr hne;refine⟨xs[xs.length-1],List.getElem_mem _,Zfe ?_⟩;rw[List.length_map,List.getElem?_map,List.getElem?_eq_getElem (by omega)]
  rfl
theorem Zbu{ss:List Int}{ls:List B5}{n:Nat}(h:∀l∈ls,Vi ss l)(e:ss.length=n):ZK ls n:=fun b hb=>by
 have:=(h b hb).rg;rw[e] at this;exact this
theorem Zf0{ss:List Int}{ls:List B5}(h:∀l∈ls,Vi ss l):Y0 ls:=fun i hi=>by
 rw[Zw hi];obtain⟨gv,tk,e1,e2,g0,t0,g1,t1,_⟩:=(h _ (List.getElem_mem hi)).sz;exact⟨gv,tk,g0,t0,g1,t1,e1,e2⟩
noncomputable def zOf (ss:List Int) (w:Int):Nat:=if 0<(ss.getD w.toNat 0).toNat then(ss.getD w.toNat 0).toNat else 1
theorem Zic{ss:List Int}(hs:W5 ss){w:Int}(h0:0≤w)(h1:w<(ss.length:Int)):zOf ss w=(ss.getD w.toNat 0).toNat:=by
 obtain⟨a,e,a0,_⟩:=VJ hs h0 h1;unfold zOf;rw[if_pos (by rw[e];omega)]
theorem ZeB{ss:List Int}{ls:List B5}(hs:W5 ss)(h:∀l∈ls,Vi ss l):VI ls (zOf ss):=by
 refine⟨fun w=>by unfold zOf;split<;>omega,fun i hi=>?_⟩;rw[Zw hi];have hl:=h _ (List.getElem_mem hi);obtain⟨r1,r2,r3,r4⟩:=hl.rg;obtain⟨gv,tk,e1,e2,g0,t0,g1,t1,eb⟩:=hl.sz;rw[Zic hs r1 r2,Zic hs r3 r4,e1,e2,Int.toNat_natCast,Int.toNat_natCast];exact eb
theorem Zd9{ss rs:List Int}{a b:Nat}:∀(ys:List Int)(c e:Nat),c*b=a*e→(∀v∈ys,(ss.getD v.toNat 0).toNat*b=a*(rs.getD v.toNat 0).toNat)→ys.foldl (fun c w=>Nat.gcd c (ss.getD w.toNat 0).toNat) c*b=a*ys.foldl (fun c w=>Nat.gcd c (rs.getD w.toNat 0).toNat) e
 | [],c,e,h,_=>h
 |v::ys,c,e,h,q=>by
  refine Zd9 ys _ _ ?_ fun w hw=>q w (by simp[hw]);rw[←Nat.gcd_mul_right,h,q v (by simp),Nat.gcd_mul_left]
theorem ZhM{ls:List B5}{ss rs:List Int}{n:Nat}(hs:W5 ss)(hl:ss.length=n)(hd:∀l∈ls,Vi ss l)(hR:Rts ls n (zOf ss) rs){w:Nat}(hw:w<n){r:Int}(h:Zdi ls ss w r):r=rs.getD w 0:=by
 obtain⟨ys,hm,hrg,hcl,hsp,rfl⟩:=h;obtain⟨F,hwd,hset⟩:=hR.wood;have h1:gcdL rs ys=1:=Zjn hwd hset (w:Int) ys (by omega) (by omega) hm hcl;have rp:∀v:Int,0≤v→v<(n:Int)→1≤rs.getD v.toNat 0:=fun v a b=>by
  have hv:v.toNat<rs.length:=by rw[hR.len];omega
  rw[Zw hv];exact hR.pos _ (List.getElem_mem hv)
 have key:∀v∈ys,(ss.getD v.toNat 0).toNat*(rs.getD w 0).toNat=(ss.getD w 0).toNat*(rs.getD v.toNat 0).toNat:=by
  refine hsp (fun v=>(ss.getD v.toNat 0).toNat*(rs.getD w 0).toNat=(ss.getD w 0).toNat*(rs.getD v.toNat 0).toNat) (by rw[Int.toNat_natCast]) fun j hj=>?_;have hL:=hd (ls.getD j dB) (by rw[Zw hj];exact List.getElem_mem hj);have hB:=hR.bal (ls.getD j dB) (by rw[Zw hj];exact List.getElem_mem hj);generalize ls.getD j dB=b at*;obtain⟨r1,r2,r3,r4⟩:=hL.rg;obtain⟨gv,tk,e1,e2,g0,t0,_,_,eb⟩:=hL.sz;have p1:=rp b.giver r1 (by omega);have p2:=rp b.taker r3 (by omega);obtain⟨x,ex,x0,_⟩:=VJ hs r1 r2;obtain⟨y,ey,y0,_⟩:=VJ hs r3 r4;obtain⟨A,eA⟩:∃A:Nat,rs.getD b.giver.toNat 0=(A:Int):=⟨(rs.getD b.giver.toNat 0).toNat,by omega⟩;obtain⟨B,eB⟩:∃B:Nat,rs.getD b.taker.toNat 0=(B:Int):=⟨(rs.getD b.taker.toNat 0).toNat,by omega⟩;rw[eA,eB,e1,e2] at hB;have hB':gv*A=tk*B:=by exact_mod_cast hB
  rw[ex,ey,eA,eB];rw[ex,ey] at eb;simp only[Int.toNat_natCast] at*;generalize (rs.getD w 0).toNat=R;generalize (ss.getD w 0).toNat=S
  constructor
  ·intro q;refine Nat.eq_of_mul_eq_mul_left t0 ?_
   calc tk*(y*R)=gv*x*R:=by rw[eb,Nat.mul_assoc]
    _=gv*(x*R):=Nat.mul_assoc _ _ _
    _=gv*(S*A):=by rw[q]
    _=S*(gv*A):=Nat.mul_left_comm _ _ _
    _=tk*(S*B):=by rw[hB',Nat.mul_left_comm]
  ·intro q;refine Nat.eq_of_mul_eq_mul_left g0 ?_
   calc gv*(x*R)=tk*y*R:=by rw[←eb,Nat.mul_assoc]
    _=tk*(y*R):=Nat.mul_assoc _ _ _
    _=tk*(S*B):=by rw[q]
    _=S*(tk*B):=Nat.mul_left_comm _ _ _
    _=gv*(S*A):=by rw[←hB',Nat.mul_left_comm]
 have h2:=Zd9 (ss:=ss) (rs:=rs) ys 0 0 (by simp) key;have h3:gcdL ss ys*(rs.getD w 0).toNat=(ss.getD w 0).toNat:=by
  have:gcdL ss ys*(rs.getD w 0).toNat=(ss.getD w 0).toNat*gcdL rs ys:=h2;rw[this,h1,Nat.mul_one]
 have p0:=rp (w:Int) (by omega) (by omega);rw[Int.toNat_natCast] at p0;obtain⟨x,ex,x0,_⟩:=VJ hs (g:=(w:Int)) (by omega) (by omega);rw[Int.toNat_natCast] at ex;have g0:0<gcdL ss ys:=ZfJ hm (by rw[Int.toNat_natCast,ex];simpa using x0);rw[←h3,Nat.mul_div_cancel_left _ g0];omega
theorem ZkT{rs:List Int}{c:Int}(h:∀r∈rs,r≤c):rs.sum≤c*rs.length:=by
 induction rs with
 |nil=>simp
 |cons r rs ih=>
  have h1:=h r (by simp);have h2:=ih fun x hx=>h x (by simp[hx]);rw[List.sum_cons,List.length_cons,Int.natCast_add,Int.mul_add];omega
theorem Zez{f:Nat→Int}:∀{is:List Nat}{ys:List V},Paired (fun i v=>v=V.int (f i)) is ys→ys=(is.map f).map V.int
 |_,_,.nil=>rfl
 |_,_,.cons a r=>by rw[a,Zez r];rfl
theorem Zbj{α:Type}{xs:List α}{i:Nat}{d:α}(h:i<xs.length):xs.getD i d∈xs:=by rw[Zw h];exact List.getElem_mem h
theorem ZgM{ls ls':List B5}{ss rl:List Int}(hl:ls'.length=ls.length)(h:∀j<ls.length,∃s:Int,0≤s∧ls'.getD j dB=Wa (ls.getD j dB) s)(hd:∀l∈ls,Vi ss l)(hR:Zas ls ss rl):(∀l∈ls',Vi ss l)∧Zas ls' ss rl:=by
 have hg:∀j<ls.length,(ls'.getD j dB).giver=(ls.getD j dB).giver∧(ls'.getD j dB).taker=(ls.getD j dB).taker:=fun j hj=>by
  obtain⟨s,_,e⟩:=h j hj;rw[e];exact⟨rfl,rfl⟩
 refine⟨fun l hl'=>?_,hR.1,fun w hw=>?_⟩
 ·obtain⟨j,hj,e⟩:=List.getElem_of_mem hl';obtain⟨s,s0,e2⟩:=h j (by omega);rw[Zw hj,e] at e2;have hL:=hd (ls.getD j dB) (Zbj (by omega));rw[e2];exact⟨hL.rg,hL.sz,s0⟩
 ·obtain⟨ys,a,b,c,d,e⟩:=hR.2 w hw;refine⟨ys,a,b,fun j hj=>?_,fun P pf pj v hv=>d P pf (fun j hj=>?_) v hv,e⟩
  ·obtain⟨x,y⟩:=hg j (by omega);rw[x,y];exact c j (by omega)
  ·obtain⟨x,y⟩:=hg j hj;rw[←x,←y];exact pj j (by omega)
theorem ZiD{rs:List Int}{d:Nat→Nat}(hpos:∀r∈rs,1≤r)(h:∀v<rs.length,d v=Z0 rs v):Z6 rs.length d=rs:=by
 refine List.ext_getElem (by simp[Z6]) fun v h1 h2=>?_;have e:=VE hpos h2;rw[Zw h2] at e;rw[←e,←h v h2];simp[Z6]
theorem Paired.insert{α β:Type}{P:α→β→Prop}:∀{xs:List α}{ys:List β}{x:α}{y:β}(j:Nat),Paired P xs ys→P x y→Paired P (xs.take j++x::xs.drop j) (ys.take j++y::ys.drop j)
 |_,_,_,_,0,h,p=> .cons p h
 |_,_,_,_,_+1,.nil,p=> .cons p .nil
 |_,_,_,_,j+1,.cons a h,p=> .cons a (Paired.insert j h p)
theorem Zko{α:Type}{xs:List α}{x y:α}{j:Nat}(h:y∈xs.take j++x::xs.drop j):y∈xs∨y=x:=by
 rcases List.mem_append.mp h with z|z
 ·exact .inl (List.mem_of_mem_take z)
 ·rcases List.mem_cons.mp z with z|z
  ·exact .inr z
  ·exact .inl (List.mem_of_mem_drop z)
theorem Zkx{α:Type}{xs:List α}{x:α}{j:Nat}:(xs.take j++x::xs.drop j).length=xs.length+1:=by
 rw[List.length_append,List.length_cons,List.length_take,List.length_drop];omega
def Zgy(n:Nat)(os:List Int):Prop:=os.length=n∧∀w∈os,0≤w∧w<(n:Int)
theorem Ziq{xs:List V}{b:Int}(h:0≤b):Vz xs none (some b)=xs.take b.toNat:=by
 obtain⟨m,rfl⟩:=Int.eq_ofNat_of_zero_le h;have e1:HT.sIx xs.length 0 none=0:=by simp[HT.sIx]
 have e2:HT.sIx xs.length xs.length (some (m:Int))=min m xs.length:=by
  simp only[HT.sIx];rw[if_neg (by omega)];simp
 unfold Vz;rw[e1,e2,List.drop_zero,Nat.sub_zero,Int.toNat_natCast];rcases Nat.lt_or_ge m xs.length with c|c
 ·rw[Nat.min_eq_left (Nat.le_of_lt c)]
 ·rw[Nat.min_eq_right c,List.take_of_length_le (Nat.le_refl _),List.take_of_length_le c]
structure Zfy(ls:List B5)(n:Nat)(z:Int→Nat)(rl:List Int):Prop where
 bt:ZK ls n
 sz:Y0 ls
 wt:VI ls z
 st:∀b∈ls,0≤b.start
 le:ls.length≤60
 nn:n≤60
 sum:rl.sum≤400
 uq:∀rs,Rts ls n z rs→rs=rl
theorem ZkP{ls:List B5}{ss rl:List Int}{M tp:Nat}(hso:W5 ss)(hsl:ss.length=M)(hd:∀l∈ls,Vi ss l)(hR:Zas ls ss rl)(hl:ls.length≤60)(hM:M≤30)(hrb:∀r∈rl,0≤r∧r≤(tp:Int))(ht:tp*M≤72):Zfy ls M (zOf ss) rl:=by
 refine⟨Zbu hd hsl,Zf0 hd,ZeB hso hd,fun b hb=>(hd b hb).st,hl,by omega,?_,fun rs hRt=>?_⟩
 ·have h1:=ZkT (rs:=rl) (c:=(tp:Int)) fun r hr=>(hrb r hr).2;have h2:(tp:Int)*(rl.length:Int)=((tp*rl.length:Nat):Int):=by rw[Int.natCast_mul]
  have h3:tp*rl.length=tp*M:=by rw[hR.1,hsl]
  omega
 ·have hrl:=hR.1;refine(List.ext_getElem (by rw[hRt.len];omega) fun v h1 h2=>?_).symm;have:=ZhM hso hsl hd hRt (w:=v) (by omega) (hR.2 v (by omega));rw[Zw h1,Zw h2] at this;exact this
theorem Zeh{α β:Type}(f:α→β):∀(xs:List α)(k:Nat),(xs.map f).eraseIdx k=(xs.eraseIdx k).map f
 | [],_=>by simp
 |_::_,0=>rfl
 |x::xs,k+1=>by simp[Zeh f xs k]
theorem Zh9{xs:List Int}(p:Int→Bool):(((List.range xs.length).filter fun i=>p (xs.getD i 0)).map fun i=>xs.getD i 0)=xs.filter p:=by
 have e:xs=(List.range xs.length).map fun i=>xs.getD i 0:=by
  refine List.ext_getElem (by simp) fun i h1 h2=>?_;simp[List.getD,h1]
 conv=>rhs;rw[e]
 rw[List.filter_map]
 rfl
theorem Zi0{ls:List B5}{st rs:List Int}{d:Nat→Nat}(hpos:∀r∈rs,1≤r):(((List.range rs.length).filter fun v:Nat=>YD ls (Wb ls st d) v).map fun v:Nat=>(v:Int)).filter (fun x=>decide ((d x.toNat:Int)<rs.getD x.toNat 0))=mayL ls st rs d:=by
 unfold mayL;rw[List.filter_map,List.filter_filter]
 congr 1
 refine List.filter_congr fun v hv=>?_;have hv':v<rs.length:=by simpa using hv
 have e:=VE hpos hv';unfold Wg;have:(decide ((d v:Int)<rs.getD v 0))=decide (d v<Z0 rs v):=by
  rw[decide_eq_decide,←e];omega
 simp only[Function.comp,Int.toNat_natCast,this]
theorem ZiF{ls:List B5}{rs st cs:List Int}{ring:List Nat}(h:Vy ls rs st cs ring){i:Nat}(hi:i<ring.length):∃(m0:Nat)(_:m0<ls.length),m0∈ring∧atI ((ring.map fun j:Nat=>(j:Int)).map V.int) ((i:Int)-1)=some (.int (m0:Nat))∧ls[m0].giver=Z7 ls ring[i]:=by
 have key:∀(k:Nat)(hk:k<ring.length),(k+1) % ring.length=i→∃(hm:ring[k]<ls.length),ring[k]∈ring∧ls[ring[k]].giver=Z7 ls ring[i]:=fun k hk e=>by
  have h1:=h.link k hk;have hm:=(h.inn _ (List.getElem_mem hk)).1;rw[e,Zw hk,Zw hi] at h1;unfold V2 at h1;rw[Zw hm] at h1;exact⟨hm,List.getElem_mem hk,h1⟩
 rcases Nat.eq_zero_or_pos i with z|z
 ·subst z;have hk:ring.length-1<ring.length:=by omega
  obtain⟨a,b,c⟩:=key (ring.length-1) hk (by rw[Nat.sub_add_cancel hi,Nat.mod_self]);refine⟨_,a,b,?_,c⟩;have e:((0:Nat):Int)-1= -1:=rfl;rw[e];refine Zfe ?_;simp[hk]
 ·have hk:i-1<ring.length:=by omega
  obtain⟨a,b,c⟩:=key (i-1) hk (by rw[Nat.sub_add_cancel z,Nat.mod_eq_of_lt hi]);refine⟨_,a,b,?_,c⟩;have e:(i:Int)-1=((i-1:Nat):Int):=by omega
  rw[e];exact Yu (by simp[hk])
theorem Zjj{ls:List B5}{rs st cs:List Int}{ring:List Nat}(h:Vy ls rs st cs ring){i:Nat}(hi:i<ring.length):(ring[i]:Int)∉(ring.map fun j:Nat=>(j:Int)).take i:=fun z=>by
 rw[←List.map_take] at z;obtain⟨m,hm,e⟩:=List.mem_map.mp z;have e':m=ring[i]:=by omega
 subst e';have nd:=h.nd;have e2:ring=ring.take i++ring[i]::ring.drop (i+1):=by rw[←List.drop_eq_getElem_cons hi,List.take_append_drop]
 rw[e2,List.map_append,List.nodup_append] at nd;exact nd.2.2 _ (List.mem_map.mpr ⟨_,hm,rfl⟩) _ (List.mem_map.mpr ⟨_,List.mem_cons_self,rfl⟩) rfl
theorem ZeR{f:Nat→Nat}:∀{n v:Nat},v<n→f v≤WM f n
 |0,_,h=>absurd h (Nat.not_lt_zero _)
 |n+1,v,h=>by
  rw[YM];rcases Nat.lt_or_ge v n with z|z
  ·have:=ZeR (f:=f) z;omega
  ·obtain rfl:v=n:=by omega
   omega
theorem Ziv{ls:List B5}{st rs:List Int}{d:Nat→Nat}{ws:List Nat}(h:Fire.Yd (YQ ls st rs) (fun _=>0) ws d)(v:Nat)(hv:v<rs.length):d v≤tot rs:=by
 obtain⟨_,b,c⟩:=Za7 h;have:=ZeR (f:=d) hv;omega
theorem Zg8(ws:List Nat)(v:Nat):(ws.map fun w:Nat=>(w:Int)).count (v:Int)=ws.count v:=by
 induction ws with
 |nil=>rfl
 |cons w ws ih=>
  rw[List.map_cons,List.count_cons,List.count_cons,ih]
  congr 1
  by_cases e:w=v
  ·simp[e]
  ·have:¬(w:Int)=(v:Int):=fun z=>e (by omega);simp[e,this]
theorem ZjS{ks:List B5}{i:Nat}{s:Int}{ss rl:List Int}(hi:i<ks.length)(h0:0≤s)(hd:∀l∈ks,Vi ss l)(hR:Zas ks ss rl):(∀l∈ks.set i (Wa ks[i] s),Vi ss l)∧Zas (ks.set i (Wa ks[i] s)) ss rl:=by
 refine ZgM (by rw[List.length_set]) (fun j hj=>?_) hd hR
 by_cases e:i=j
 ·subst e;exact⟨s,h0,by rw[Zw (by rw[List.length_set];exact hj),List.getElem_set_self,Zw hj]⟩
 ·refine⟨ks[j].start,(hd _ (List.getElem_mem hj)).st,?_⟩;rw[Zw (by rw[List.length_set];exact hj),List.getElem_set_ne e,Zw hj]
  rfl
structure Za3{K:PySem.W.Frag}{mg:Str→Option Value}(T:Tp K mg)(H:Hp)(hp:Addr)(fp:List Addr)(nms:List Str)(ks:List B5)(q:Addr)(bs:List V)(ls:List B5)(ra:Addr)(rl:List Int)(p:Addr)(ns:List Int):Prop where
 hall:ZE T H hp ⟨nms,ks⟩ fp
 hq:H q=some (.lst bs)
 tq:Yj H bs ls
 nq:q∉fp
 hra:H ra=some (.lst (rl.map V.int))
 nra:ra∉fp
 off:WB K H (q::fp) p (ns.map V.int)
section
variable {K:PySem.W.Frag}{mg:Str→Option Value}{T:Tp K mg}{H H':Hp}{hp:Addr}{fp fp':List Addr}{nms:List Str}{ks ks':List B5}{q:Addr}{bs:List V}{ls:List B5}{ra:Addr}{rl:List Int}{p:Addr}{ns:List Int}
theorem Za3.same(h:Za3 T H hp fp nms ks q bs ls ra rl p ns)(s:Ze H H'):Za3 T H' hp fp nms ks q bs ls ra rl p ns:=
 ⟨h.hall.same s,s _ _ h.hq,h.tq.keep fun b xs e=>s _ _ e,h.nq,s _ _ h.hra,h.nra,h.off.frame s.frame⟩
end
local macro_rules| `(tactic|walk_at "rd")=>`(tactic|first|with_reducible (first|(show ∃a dx fs,L2.V.ref _=L2.V.ref a∧_∧List.lookup _ fs=none∧_;refine Nm.ZiQ (by with_reducible assumption) (by k_dflt (decide+kernel)) (by k_dflt (decide+kernel)) ?_)|(show ∃a dx fs,L2.V.ref _=L2.V.ref a∧_∧List.lookup _ fs=none∧_;refine Nm.Zgn (by with_reducible assumption) (by k_dflt (decide+kernel)) (by k_dflt (decide+kernel)) (by k_dflt (decide+kernel)) (by k_dflt (decide+kernel)) (by k_dflt (decide+kernel)) ?_))|fail "none here")
def ZaJ{K:PySem.W.Frag}{mg:Str→Option Value}(T:Tp K mg):Sp:=fun vs H Q _=>∃(p:Addr)(ns:List Int)(k:Int),vs=[.ref p,.int k]∧SqL K H p (ns.map V.int)∧0≤k∧Q (.int (Zdk ns k)) H
theorem Zh4{K:PySem.W.Frag}{mg:Str→Option Value}{T:Tp K mg}{H:Hp}{Q:VK}{E:XK}{p:Addr}{ns:List Int}{k:Int}(hS:SqL K H p (ns.map V.int))(hk:0≤k)(q:Q (.int (Zdk ns k)) H):ZaJ T ([.ref p,.int k]++ []) H Q E:=⟨p,ns,k,rfl,hS,hk,q⟩
local macro_rules| `(tactic|walk_at "rd")=>`(tactic|first|((with_reducible show Nm.ZaJ _ _ _ _ _);with_reducible refine Nm.Zh4 (by walk_at "hp") (by walk_at "side") ?_)|fail "none here")
section
variable {P:Program}{w:World}{K:PySem.W.Frag}{mg:Str→Option Value}{base:Heap}
theorem Zif(T:Tp K mg):Zk P w K mg base (CXX P w) 1 T.f_l_cell T.d_l_cell ["_law_script","_law_k"] (ZaJ T):=by
 refine T.F_l_cell.okX ZhX (fun vs H Q E h=>?_) (fun cdv A outer s H vs Q E hr h=>?_)
 ·obtain⟨p,ns,k,rfl,_⟩:=h
  rfl
 ·have hu:=hr.units;obtain⟨p,ns,k,rfl,hS,hk,q⟩:=h;unfold Zdk at q;refine⟨_,(Zc (ZS (ZC Up (pv 1) (Zr (ZU (K:=K) rfl) (by rfl) T.n_len PySem.boot_len (Za (pv 0) Zb)) (ZI _)) (Zf (Zu (Zj (Zp (K:=K) rfl) (pv 0) (pv 1) (fun _ _=>rfl)))) ZH)
     (Zc (ZS (ZC (WK (K:=K) rfl hu) (Zr (ZU (K:=K) rfl) (by rfl) T.n_len PySem.boot_len (Za (pv 0) Zb)) Zh (ZI _)) (Zf (Zu (pv 1))) ZH)
     (Zf (Zu (Zs (Z8 (K:=K) rfl) (Zs Yo (Zj (Zp (K:=K) rfl) (pv 0) (Zs Yi (pv 1) (Zr (ZU (K:=K) rfl) (by rfl) T.n_len PySem.boot_len (Za (pv 0) Zb))) (fun _ _=>rfl)) Zh) (pv 1)))))),?_⟩
  try dsimp only[L2.cxX,L2.ZM,L2.Zn]
  walk_at "rds";refine Rd.ifD (fun c=>?_) (fun c=>?_)
  ·have c':k<ns.length:=by simpa using c
   have ha:=ZO hk c';rw[if_pos c'] at q;walk_at "rds";exact q
  ·have c':¬k<ns.length:=by simpa using c
   rw[if_neg c'] at q;walk_at "rds";refine Rd.ifD (fun d=>?_) (fun d=>?_)
   ·have d':(ns.length:Int)=0:=by simpa using d
    rw[if_pos d'] at q;walk_at "rds";exact q
   ·have d':¬(ns.length:Int)=0:=by simpa using d
    rw[if_neg d'] at q;have e:((ns.map V.int).length:Int)=ns.length:=by simp
    have l0:0<((ns.map V.int).length:Int):=by omega
    have ha:=ZO (ns:=ns) (k:=k % (ns.map V.int).length) (Int.emod_nonneg _ (by omega)) (by rw[e];exact Int.emod_lt_of_pos _ (by omega));walk_at "rds";rw[e];exact q
end
def WE{K:PySem.W.Frag}{mg:Str→Option Value}(T:Tp K mg):Sp:=fun vs H Q _=>∃(p:Addr)(ns:List Int)(k:Int),vs=[.ref p,.int k]∧SqL K H p (ns.map V.int)∧0≤k∧Q (.int (WP ns k)) H
theorem ZhH{K:PySem.W.Frag}{mg:Str→Option Value}{T:Tp K mg}{H:Hp}{Q:VK}{E:XK}{p:Addr}{ns:List Int}{k:Int}(hS:SqL K H p (ns.map V.int))(hk:0≤k)(q:∀m,m=WP ns k→0≤m→m<2147483629→Q (.int m) H):WE T ([.ref p,.int k]++ []) H Q E:=
 ⟨p,ns,k,rfl,hS,hk,q _ rfl (ZjC ns k) (ZjA ns k)⟩
local macro_rules| `(tactic|walk_at "rd")=>`(tactic|first|((with_reducible show Nm.WE _ _ _ _ _);with_reducible refine Nm.ZhH (by walk_at "hp") (by walk_at "side") (fun _ _ _ _=>?_))|fail "none here")
section
variable {P:Program}{w:World}{K:PySem.W.Frag}{mg:Str→Option Value}{base:Heap}
theorem UW(T:Tp K mg):Zk P w K mg base (CXX P w) 2 T.f_l_mixed T.d_l_mixed ["_law_script","_law_k"] (WE T):=by
 have G_l_cell:Zk P w K mg base (CXX P w) 1 T.f_l_cell T.d_l_cell ["_law_script","_law_k"] (ZaJ T):=(Zif T).mono (by decide);refine T.F_l_mixed.okX ZhA (fun vs H Q E h=>?_) (fun cdv A outer s H vs Q E hr h=>?_)
 ·obtain⟨p,ns,k,rfl,_⟩:=h
  rfl
 ·have hu:=hr.units;obtain⟨p,ns,k,rfl,hS,hk,q⟩:=h;refine⟨_,(Zf (Zu (Zs Yi (Zs (Z8 (K:=K) rfl) (Zs Yo (Zs Yi (Zv G_l_cell hr rfl T.m_l_cell T.F_l_cell.kp T.b_l_cell .nil Zm (Za (pv 0) (Za (pv 1) Zb))) Zh) Zh) Zh) Zh))),?_⟩
  try dsimp only[L2.cxX,L2.ZM,L2.Zn]
  walk_at "rds";rw[Zi3];exact q
end
def Zaj{K:PySem.W.Frag}{mg:Str→Option Value}(T:Tp K mg):Sp:=fun vs H Q _=>∃a b:Nat,vs=[.int a,.int b]∧Q (.int (Nat.gcd a b:Nat)) H
section
variable {P:Program}{w:World}{K:PySem.W.Frag}{mg:Str→Option Value}{base:Heap}
theorem ZbF(T:Tp K mg):Zk P w K mg base (CXX P w) 1 T.f_l_divisor T.d_l_divisor ["_law_one","_law_other"] (Zaj T):=by
 refine T.F_l_divisor.okX VR (fun vs H Q E h=>?_) (fun cdv A outer s H vs Q E hr h=>?_)
 ·obtain⟨a,b,rfl,_⟩:=h
  rfl
 ·have hu:=hr.units;obtain⟨a0,b0,rfl,q⟩:=h;rw[←My.Zdt] at q;refine⟨_,(Zc (Zak PassesOwn.leaving (ZC (VU (K:=K) rfl hu) (pv 1) Zh (ZI _)) (Zc (Zy (i:=2) VR.nd rfl (Or.inl rfl) (Zs Yi (pv 0) (pv 1)))
     (Zc (Zy (i:=0) VR.nd rfl (Or.inl rfl) (pv 1))
     (Zf (Zy (i:=1) VR.nd rfl (Or.inl rfl) (pv 2))))))
     (Zf (Zu (pv 0)))),?_⟩
  try dsimp only[L2.cxX,L2.ZM,L2.Zn]
  walk_at "rd";refine Zbx (fun m σ H'=>H'=H∧∃(x y:Int)(r:Option V),m=y.toNat∧σ=[some (.int x),some (.int y),r]∧0≤x∧0≤y∧My.G x y=My.G a0 b0) _ ⟨rfl,a0,b0,none,rfl,rfl,by omega,by omega,rfl⟩ ?_;rintro m σ H' ⟨rfl,x,y,r,rfl,rfl,hx,hy,hG⟩;walk_at "rds";refine VB (fun c=>Zdz ?_) (fun c=>?_)
  ·have hy0:0<y:=by
    have:¬y=0:=by simpa using c
    omega
   walk_at "rds";exact⟨_,(by have:=Int.emod_nonneg x (show y≠0 by omega);have:=Int.emod_lt_of_pos x hy0;omega),rfl,y,x % y,some (.int (x % y)),rfl,rfl,hy,Int.emod_nonneg x (by omega),(ZgC hx hy0).trans hG⟩
  ·have hy0:y=0:=by simpa using c
   have e:x=My.G a0 b0:=by rw[←hG,My.ZhQ hx hy0]
   walk_at "rds";rw[e];exact q
end
def Zed{K:PySem.W.Frag}{mg:Str→Option Value}(T:Tp K mg):Sp:=fun vs H Q _=>∃(p a:Addr)(k g t:Int)(ns ss:List Int),vs=[.ref p,.int k,.ref a,.int g,.int t]∧SqL K H p (ns.map V.int)∧SqL K H a (ss.map V.int)∧W5 ss∧0≤k∧(0≤g∧g<(ss.length:Int))∧(0≤t∧t<(ss.length:Int))∧
 ∀(u:Addr)(H':Hp)(l:B5),H u=none→Ze H H'→H' u=some (.tup l.v4)→Vi ss l→Q (.ref u) H'
section
variable {P:Program}{w:World}{K:PySem.W.Frag}{mg:Str→Option Value}{base:Heap}
theorem Ziz(T:Tp K mg):Zk P w K mg base (CXX P w) 3 T.f_l_line T.d_l_line ["_law_script","_law_k","_law_sizes","_law_giver","_law_taker"] (Zed T):=by
 have G_l_mixed:Zk P w K mg base (CXX P w) 2 T.f_l_mixed T.d_l_mixed ["_law_script","_law_k"] (WE T):=(UW T).mono (by decide);have G_l_divisor:Zk P w K mg base (CXX P w) 2 T.f_l_divisor T.d_l_divisor ["_law_one","_law_other"] (Zaj T):=(ZbF T).mono (by decide);refine T.F_l_line.okX Zar (fun vs H Q E h=>?_) (fun cdv A outer s H vs Q E hr h=>?_)
 ·obtain⟨p,a,k,g,t,ns,ss,rfl,_⟩:=h
  rfl
 ·have hu:=hr.units;obtain⟨p,a,k0,g,t,ns,ss,rfl,hS,hA,hss,k00,⟨r1,r2⟩,⟨t1,t2⟩,q⟩:=h;obtain⟨x,ex,x0,x1⟩:=VJ hss r1 r2;obtain⟨y,ey,y0,y1⟩:=VJ hss t1 t2;have at1:=ZO r1 r2;have at2:=ZO t1 t2;rw[ex] at at1;rw[ey] at at2;refine⟨_,(Zc (Zy (i:=5) Zar.nd rfl (Or.inl rfl) (Zv G_l_mixed hr rfl T.m_l_mixed T.F_l_mixed.kp T.b_l_mixed .nil Zm (Za (pv 0) (Za (pv 1) Zb))))
     (Zc (Zy (i:=6) Zar.nd rfl (Or.inl rfl) (Zv G_l_divisor hr rfl T.m_l_divisor T.F_l_divisor.kp T.b_l_divisor .nil Zm (Za (Zj (Zp (K:=K) rfl) (pv 2) (pv 3) (fun _ _=>rfl)) (Za (Zj (Zp (K:=K) rfl) (pv 2) (pv 4) (fun _ _=>rfl)) Zb))))
     (Zc (Zy (i:=7) Zar.nd rfl (Or.inl rfl) (Zs (Z8 (K:=K) rfl) Zh (Zs Yi (Zs Z5 (pv 5) Zh) Zh)))
     (Zf (Zu (YT (Za (pv 3) (Za (pv 4) (Za (Zs Z5 (Zs Yo (pv 7) (Zj (Zp (K:=K) rfl) (pv 2) (pv 4) (fun _ _=>rfl))) (pv 6)) (Za (Zs Z5 (Zs Yo (pv 7) (Zj (Zp (K:=K) rfl) (pv 2) (pv 3) (fun _ _=>rfl))) (pv 6)) Zb)))))))))),?_⟩
  try dsimp only[L2.cxX,L2.ZM,L2.Zn]
  walk_at "rds";rename_i mx hmx mx0 mx1;clear hmx;refine⟨x,y,rfl,?_⟩;obtain⟨f,ef⟩:∃f:Nat,1+mx / 3 % 3=(f:Int):=⟨(1+mx / 3 % 3).toNat,by omega⟩;have f0:0<f:=by omega
  have f1:f≤10 ^ 10:=by omega
  walk_at "rds";rw[ef];obtain⟨q1,q2,q3,q4,q5⟩:=ZjM x0 y0 f0 x1 y1 f1;have m1:=Zil f1 x1;have m2:=Zil f1 y1;have gd:=ZdY (a:=0) (Nat.gcd_pos_of_pos_left y x0) (Nat.lt_of_le_of_lt (Nat.le_trans (Nat.le_of_dvd x0 (Nat.gcd_dvd_left x y)) x1) (Nat.lt_of_lt_of_le (by decide:10 ^ 13<2 ^ 110) (Nat.pow_le_pow_right (by decide) (by decide))));walk_at "rds";have eg:(f:Int)*(y:Int) / ((Nat.gcd x y:Nat):Int)=((f*y / Nat.gcd x y:Nat):Int):=rfl;have et:(f:Int)*(x:Int) / ((Nat.gcd x y:Nat):Int)=((f*x / Nat.gcd x y:Nat):Int):=rfl;rw[eg,et];refine⟨by show 4≤sizeLine;decide,fun u hu'=>?_⟩;refine q u _ ⟨g,t,((f*y / Nat.gcd x y:Nat):Int),((f*x / Nat.gcd x y:Nat):Int),0⟩ hu' (Zq hu') Zd ⟨⟨r1,r2,t1,t2⟩,⟨_,_,rfl,rfl,q1,q2,q3,q4,?_⟩,Int.le_refl _⟩;dsimp only;rw[ex,ey,Int.toNat_natCast,Int.toNat_natCast];exact q5
end
def Zdo{K:PySem.W.Frag}{mg:Str→Option Value}(T:Tp K mg):Sp:=fun vs H Q _=>∃(p a:Addr)(ns ss:List Int),vs=[.ref p,.ref a]∧SqL K H p (ns.map V.int)∧SqL K H a (ss.map V.int)∧W5 ss∧0<ss.length∧ss.length≤30∧
 ∀(r:Addr)(H':Hp)(bs:List V)(ls:List B5),H r=none→Ze H H'→H' r=some (.lst bs)→YW H' bs ls→0<ls.length→ls.length≤35→(∀l∈ls,Vi ss l)→Q (.ref r) H'
section
variable {P:Program}{w:World}{K:PySem.W.Frag}{mg:Str→Option Value}{base:Heap}
theorem ZgQ(T:Tp K mg):Zk P w K mg base (CXX P w) 4 T.f_l_lines T.d_l_lines ["_law_script","_law_sizes"] (Zdo T):=by
 have G_l_mixed:Zk P w K mg base (CXX P w) 3 T.f_l_mixed T.d_l_mixed ["_law_script","_law_k"] (WE T):=(UW T).mono (by decide);have G_l_line:Zk P w K mg base (CXX P w) 3 T.f_l_line T.d_l_line ["_law_script","_law_k","_law_sizes","_law_giver","_law_taker"] (Zed T):=(Ziz T).mono (by decide);refine T.F_l_lines.okX Y5 (fun vs H Q E h=>?_) (fun cdv A outer s H vs Q E hr h=>?_)
 ·obtain⟨p,a,ns,ss,rfl,_⟩:=h
  rfl
 ·have hu:=hr.units;obtain⟨p,a,ns,ss,rfl,hS,hA,hss,n0,n1,q⟩:=h;have hsl:((ss.map V.int).length:Int)=(ss.length:Int):=by simp
  refine⟨_,(Zc (Zy (i:=2) Y5.nd rfl (Or.inl rfl) (ZkM rfl (by rfl) T.n_list (by rfl) T.n_range (Za (Zr (ZU (K:=K) rfl) (by rfl) T.n_len PySem.boot_len (Za (pv 1) Zb)) Zb)))
     (Zc (Z2 PassesOwn.leaving rfl (ZW rfl T.n_range (Za (Zr (ZU (K:=K) rfl) (by rfl) T.n_len PySem.boot_len (Za (pv 2) Zb)) Zb)) (Zl (i:=3) Y5.nd rfl (Or.inl rfl)) (Zf (ZX (Yw (K:=K) rfl PySem.F.plainAttrs_list PySem.F.slot_list_append PySem.F.type_list_append Yg (pv 2) (Za (Yw (K:=K) rfl PySem.F.plainAttrs_list PySem.F.slot_list_pop PySem.F.type_list_pop ZjO (pv 2) (Za (Zs Yi (Zs Z5 (Zv G_l_mixed hr rfl T.m_l_mixed T.F_l_mixed.kp T.b_l_mixed .nil Zm (Za (pv 0) (Za Zh Zb))) (Zs (Z8 (K:=K) rfl) (pv 3) Zh)) (Zr (ZU (K:=K) rfl) (by rfl) T.n_len PySem.boot_len (Za (pv 2) Zb))) Zb)) Zb)))))
     (Zc (Zy (i:=4) Y5.nd rfl (Or.inl rfl) (Zan (Zft (K:=K) rfl) (pv 2) Za4 (ZaY (Zs (Z8 (K:=K) rfl) Zh (Zs Yi (Zs Z5 (Zv G_l_mixed hr rfl T.m_l_mixed T.F_l_mixed.kp T.b_l_mixed .nil Zm (Za (pv 0) (Za Zh Zb))) Zh) (Zr (ZU (K:=K) rfl) (by rfl) T.n_len PySem.boot_len (Za (pv 2) Zb)))))))
     (Zc (Zy (i:=5) Y5.nd rfl (Or.inl rfl) (Wc Zb))
     (Zc (Z2 PassesOwn.leaving rfl (ZW rfl T.n_range (Za (Zr (ZU (K:=K) rfl) (by rfl) T.n_len PySem.boot_len (Za (pv 4) Zb)) Zb)) (Zl (i:=3) Y5.nd rfl (Or.inl rfl)) (Zf (ZX (Yw (K:=K) rfl PySem.F.plainAttrs_list PySem.F.slot_list_append PySem.F.type_list_append Yg (pv 5) (Za (Zv G_l_line hr rfl T.m_l_line T.F_l_line.kp T.b_l_line .nil Zm (Za (pv 0) (Za (Zs (Z8 (K:=K) rfl) Zh (pv 3)) (Za (pv 1) (Za (Zj (Zp (K:=K) rfl) (pv 4) (Zs V4 (pv 3) Zh) (fun _ _=>rfl)) (Za (Zj (Zp (K:=K) rfl) (pv 4) (pv 3) (fun _ _=>rfl)) Zb)))))) Zb)))))
     (Zc (Z2 PassesOwn.leaving rfl (ZW rfl T.n_range (Za (Zs Yi (Zs Z5 (Zv G_l_mixed hr rfl T.m_l_mixed T.F_l_mixed.kp T.b_l_mixed .nil Zm (Za (pv 0) (Za Zh Zb))) Zh) Zh) Zb)) (Zl (i:=3) Y5.nd rfl (Or.inl rfl)) (Zc (Zy (i:=6) Y5.nd rfl (Or.inl rfl) (Zv G_l_mixed hr rfl T.m_l_mixed T.F_l_mixed.kp T.b_l_mixed .nil Zm (Za (pv 0) (Za (Zs (Z8 (K:=K) rfl) Zh (pv 3)) Zb))))
     (Zc (Zy (i:=7) Y5.nd rfl (Or.inl rfl) (Zv G_l_line hr rfl T.m_l_line T.F_l_line.kp T.b_l_line .nil Zm (Za (pv 0) (Za (Zs (Z8 (K:=K) rfl) Zh (pv 3)) (Za (pv 1) (Za (Zs Yi (Zs Z5 (pv 6) Zh) (Zr (ZU (K:=K) rfl) (by rfl) T.n_len PySem.boot_len (Za (pv 1) Zb))) (Za (Zs Yi (Zs Z5 (pv 6) Zh) (Zr (ZU (K:=K) rfl) (by rfl) T.n_len PySem.boot_len (Za (pv 1) Zb))) Zb)))))))
     (Zf (ZX (Yw (K:=K) rfl PySem.F.plainAttrs_list PySem.F.slot_list_insert PySem.F.type_list_insert ZiM (pv 5) (Za (Zs Yi (Zs Z5 (pv 6) Zh) (Zs (Z8 (K:=K) rfl) (Zr (ZU (K:=K) rfl) (by rfl) T.n_len PySem.boot_len (Za (pv 5) Zb)) Zh)) (Za (pv 7) Zb))))))))
     (Zf (Zu (pv 5))))))))),?_⟩
  try dsimp only[L2.cxX,L2.ZM,L2.Zn]
  walk_at "rds";refine Rd.Zm5 ?_;walk_at "rds";refine⟨ss.length,by rw[hsl],Nat.le_trans n1 (by decide),fun o ho=>?_⟩;have eL:((List.range ss.length).map fun i:Nat=>V.int i)=((List.range ss.length).map fun i:Nat=>(i:Int)).map V.int:=by rw[List.map_map];rfl
  rw[eL];have hok0:Zgy ss.length ((List.range ss.length).map fun i:Nat=>(i:Int)):=⟨by simp,fun w hw=>by
   obtain⟨i,hi,rfl⟩:=List.mem_map.mp hw;have:=List.mem_range.mp hi;omega⟩
  generalize ((List.range ss.length).map fun i:Nat=>(i:Int))=os0 at*;have s1:Ze H (upd H o (.lst (os0.map V.int))):=Zq ho;have ho1:(upd H o (.lst (os0.map V.int))) o=some (.lst (os0.map V.int)):=Zd;generalize upd H o (.lst (os0.map V.int))=H1 at*;have hosl:(os0.map V.int).length=ss.length:=by rw[List.length_map];exact hok0.1
  walk_at "rds";refine Yl (n:=((os0.map V.int).length:Int).toNat) (fun i σ H'=>∃(os:List Int)(a1:Option V),σ=[some (.ref p),some (.ref a),some (.ref o),a1,none,none,none,none]∧Ze H H'∧H' o=some (.lst (os.map V.int))∧Zgy ss.length os) ⟨os0,_,rfl,s1,ho1,hok0⟩ ?_ ?_
  ·rintro i σ H2 hi ⟨os,a1,rfl,s2,ho2,hol,hor⟩;have hS2:=s2.seq hS;have il30:i<30:=by rw[Int.toNat_natCast,hosl] at hi;omega
   have ip:0<(0+(i:Int))+1∧((0+(i:Int))+1).natAbs.log2<9000:=by
    have e:(0+(i:Int))+1=((i+1:Nat):Int):=by omega
    rw[e];exact ZdY (a:=0) (Nat.succ_pos i) (Nat.lt_of_lt_of_le (show i+1<2 ^ 10 by omega) (Nat.pow_le_pow_right (by decide) (by decide)))
   have lp:0<((os.map V.int).length:Int):=by rw[List.length_map];omega
   walk_at "rds";rename_i mx hmx mx0 mx1;clear hmx;have k1:0≤mx / ((0+(i:Int))+1) % ((os.map V.int).length:Int):=Int.emod_nonneg _ (by omega);have k2:mx / ((0+(i:Int))+1) % ((os.map V.int).length:Int)<((os.map V.int).length:Int):=Int.emod_lt_of_pos _ lp;generalize mx / ((0+(i:Int))+1) % ((os.map V.int).length:Int)=ix at*;have k3:ix.toNat<os.length:=by rw[List.length_map] at k2;omega
   refine Rd.Zl9 ho2 k1 k2 (Nat.le_of_lt (Zx (by rw[List.length_map];omega))) (y:= .int (os[ix.toNat])) (by simp[k3]) ?_;have ho3:(upd H2 o (.lst ((os.map V.int).eraseIdx ix.toNat))) o=some (.lst ((os.eraseIdx ix.toNat).map V.int)):=by rw[Zd,Zeh]
   have s3:Ze H (upd H2 o (.lst ((os.map V.int).eraseIdx ix.toNat))):=s2.new ho;generalize upd H2 o (.lst ((os.map V.int).eraseIdx ix.toNat))=H3 at*;have hel:(os.eraseIdx ix.toNat).length=os.length-1:=List.length_eraseIdx_of_lt k3;have hez:((os.eraseIdx ix.toNat).map V.int).length<sizeLine:=Zx (by rw[List.length_map];omega);walk_at "rds";refine⟨os.eraseIdx ix.toNat++ [os[ix.toNat]],_,rfl,s3.new ho,by rw[Zd,List.map_append];rfl,by rw[List.length_append,hel];simp;omega,fun w hw=>?_⟩;rcases List.mem_append.mp hw with z|z
   ·exact hor w (List.mem_of_mem_eraseIdx z)
   ·rw[List.mem_singleton.mp z];exact hor _ (List.getElem_mem k3)
  rintro σ H2 ⟨os,a1,rfl,s2,ho2,hol,hor⟩;have hS2:=s2.seq hS;have hO2:=SqL.of (K:=K) ho2;have lp:0<((os.map V.int).length:Int):=by rw[List.length_map];omega
  walk_at "rds";rename_i mx hmx mx0 mx1;clear hmx;have k1:0≤mx / 40 % ((os.map V.int).length:Int):=Int.emod_nonneg _ (by omega);have k2:mx / 40 % ((os.map V.int).length:Int)<((os.map V.int).length:Int):=Int.emod_lt_of_pos _ lp;generalize mx / 40 % ((os.map V.int).length:Int)=ix at*;refine Rd.slL hO2 (fun c hc=>?_);rw[Ziq (by omega),←List.map_take];obtain⟨cs,ecs,⟨hcl0,hcl⟩,hcr⟩:∃cs:List Int,os.take (1+ix).toNat=cs∧(0<cs.length∧cs.length≤ss.length)∧∀w∈cs,0≤w∧w<(ss.length:Int):=by
   rw[List.length_map] at k2;refine⟨_,rfl,?_,fun w hw=>hor w (List.mem_of_mem_take hw)⟩;rw[List.length_take];omega
  rw[ecs];have hc0:H c=none:=ZG s2 hc;have s3:Ze H2 (upd H2 c (.lst (cs.map V.int))):=Zq hc;have hc3:(upd H2 c (.lst (cs.map V.int))) c=some (.lst (cs.map V.int)):=Zd;generalize upd H2 c (.lst (cs.map V.int))=H3 at*;have s03:=s2.trans s3;walk_at "rds";refine⟨Nat.zero_le _,fun r hr=>?_⟩;have hr0:H r=none:=ZG s03 hr;have s4:Ze H3 (upd H3 r (.lst [])):=Zq hr;have hr4:(upd H3 r (.lst [])) r=some (.lst []):=Zd;generalize upd H3 r (.lst [])=H4 at*;have hc4:=s4 _ _ hc3;have hC4:=SqL.of (K:=K) hc4;have hcml:(cs.map V.int).length=cs.length:=List.length_map _;walk_at "rds";refine Yl (n:=((cs.map V.int).length:Int).toNat) (fun i σ H'=>∃(bs:List V)(ls:List B5)(a1:Option V),σ=[some (.ref p),some (.ref a),some (.ref o),a1,some (.ref c),some (.ref r),none,none]∧Ze H3 H'∧H' r=some (.lst bs)∧YW H' bs ls∧ls.length=i∧∀l∈ls,Vi ss l) ⟨[],[],_,rfl,s4,hr4,.nil,rfl,by simp⟩ ?_ ?_
  ·rintro i σ H5 hi ⟨bs,ls,a1',rfl,s5,hr5,hT5,hl5,hd5⟩;have hil:i<cs.length:=by rw[Int.toNat_natCast,List.length_map] at hi;exact hi
   have s05:=s03.trans s5;have hS5:=s05.seq hS;have hA5:=s05.seq hA;have hC5:=SqL.of (K:=K) (s5 _ _ hc3);have hbz:bs.length<sizeLine:=Zx (by have:=hT5.length;omega);obtain⟨g,hg,at1⟩:=ZdN (xs:=cs) (k:=(0+(i:Int))-1) (by
    rcases Nat.eq_zero_or_pos i with z|z
    ·exact .inr ⟨by omega,List.length_pos_iff.mp (by omega)⟩
    ·exact .inl ⟨by omega,by omega⟩)
   obtain⟨t,ht,at2⟩:=ZdN (xs:=cs) (k:=0+(i:Int)) (.inl ⟨by omega,by omega⟩);walk_at "rds";refine⟨p,a,_,g,t,ns,ss,rfl,hS5,hA5,hss,by omega,hcr g hg,hcr t ht,fun u H6 l hu s6 hu6 hl6=>?_⟩;have hr6:=s6 _ _ hr5;walk_at "rds";have fr:ZJ [r] H6 (upd H6 r (.lst (bs++ [.ref u]))):=Ym (by simp) hr6 (by intro _ z;cases z);refine⟨bs++ [.ref u],ls++ [l],_,rfl,(s5.trans s6).new hr,Zd,((hT5.keep fun b xs e=>s6 _ _ e).keep fr.tups).snoc (fr.tups _ _ hu6),by simp[hl5],fun l' hl=>?_⟩;rcases List.mem_append.mp hl with z|z
   ·exact hd5 l' z
   ·rw[List.mem_singleton.mp z];exact hl6
  rintro σ H5 ⟨bs5,ls5,a1',rfl,s5,hr5,hT5,hl5,hd5⟩;rw[Int.toNat_natCast,List.length_map] at hl5;have s05:=s03.trans s5;have hS5:=s05.seq hS;walk_at "rds";rename_i m0 hm0 m00 m01;clear hm0;obtain⟨b,eb⟩:∃b:Nat,m0 / 6 % 6=(b:Int):=⟨(m0 / 6 % 6).toNat,by omega⟩;have b1:b≤5:=by omega
  rw[eb];refine Yl (n:=b) (fun i σ H'=>∃(bs:List V)(ls:List B5)(a1 a2 a3:Option V),σ=[some (.ref p),some (.ref a),some (.ref o),a1,some (.ref c),some (.ref r),a2,a3]∧Ze H3 H'∧H' r=some (.lst bs)∧YW H' bs ls∧ls.length=cs.length+i∧∀l∈ls,Vi ss l) ⟨bs5,ls5,_,_,_,rfl,s5,hr5,hT5,by omega,hd5⟩ ?_ ?_
  ·rintro i σ H6 hi ⟨bs,ls,a2,a3,a4,rfl,s6,hr6,hT6,hl6,hd6⟩;have s06:=s03.trans s6;have hS6:=s06.seq hS;have hA6:=s06.seq hA;have np:0<((ss.map V.int).length:Int):=by omega
   have hbz:bs.length<sizeLine:=Zx (by have:=hT6.length;omega);walk_at "rds";rename_i my hmy my0 my1;clear hmy;have r1:=Int.emod_nonneg (my / 9) (show((ss.map V.int).length:Int)≠0 by omega);have r2:=Int.emod_lt_of_pos (my / 9) np;have t1:=Int.emod_nonneg (my / 801) (show((ss.map V.int).length:Int)≠0 by omega);have t2:=Int.emod_lt_of_pos (my / 801) np;generalize my / 9 % ((ss.map V.int).length:Int)=g at*;generalize my / 801 % ((ss.map V.int).length:Int)=t at*;rw[hsl] at r2 t2;refine⟨p,a,_,g,t,ns,ss,rfl,hS6,hA6,hss,by omega,⟨r1,r2⟩,⟨t1,t2⟩,fun u H7 l hu s7 hu7 hl7=>?_⟩;have hr7:=s7 _ _ hr6;have hlp:0<(bs.length:Int)+1:=by omega
   walk_at "rds";have g1:=Int.emod_nonneg (my / 77) (show(bs.length:Int)+1≠0 by omega);have g2:=Int.emod_lt_of_pos (my / 77) hlp;generalize my / 77 % ((bs.length:Int)+1)=j at*;refine Rd.ins hr7 hbz g1 (by omega) ?_;walk_at "rds";have fr:ZJ [r] H7 (upd H7 r (.lst (bs.take j.toNat++ .ref u::bs.drop j.toNat))):=Ym (by simp) hr7 (by intro _ z;cases z);refine⟨_,ls.take j.toNat++l::ls.drop j.toNat,_,_,_,rfl,(s6.trans s7).new hr,Zd,Paired.insert _ ((hT6.keep fun b xs e=>s7 _ _ e).keep fr.tups) ⟨u,rfl,fr.tups _ _ hu7⟩,by rw[Zkx,hl6];omega,fun l' hl=>?_⟩;rcases Zko hl with z|z
   ·exact hd6 l' z
   ·rw[z];exact hl7
  ·rintro σ H6 ⟨bs,ls,a2,a3,a4,rfl,s6,hr6,hT6,hl6,hd6⟩;walk_at "rds";exact q r H6 bs ls hr0 (s03.trans s6) hr6 hT6 (by omega) (by omega) hd6
end
def Zb1{K:PySem.W.Frag}{mg:Str→Option Value}(T:Tp K mg):Sp:=fun vs H Q _=>∃(lp:Addr)(bs:List V)(ls:List B5)(f:Int)(n:Nat),vs=[.ref lp,.int f,.int n]∧H lp=some (.lst bs)∧YW H bs ls∧ZK ls n∧n≤60∧0≤f∧f<(n:Int)∧
 ∀(r:Addr)(H':Hp)(ys:List Int),H r=none→Ze H H'→H' r=some (.lst (ys.map V.int))→f∈ys→(∀w∈ys,0≤w∧w<(n:Int))→(∀j<ls.length,((ls.getD j dB).giver∈ys↔(ls.getD j dB).taker∈ys))→(∀P:Int→Prop,P f→(∀j<ls.length,P (ls.getD j dB).giver↔P (ls.getD j dB).taker)→∀w∈ys,P w)→Q (.ref r) H'
section
variable {P:Program}{w:World}{K:PySem.W.Frag}{mg:Str→Option Value}{base:Heap}
theorem ZfT(T:Tp K mg):Zk P w K mg base (CXX P w) 1 T.f_l_reached T.d_l_reached ["_law_lines_here","_law_first","_law_many"] (Zb1 T):=by
 refine T.F_l_reached.okX VX (fun vs H Q E h=>?_) (fun cdv A outer s H vs Q E hr h=>?_)
 ·obtain⟨lp,bs,ls,f,n,rfl,_⟩:=h
  rfl
 ·have hu:=hr.units;obtain⟨lp,bs,ls,f,n,rfl,hlp,hT,hbt,hn,f0,f1,q⟩:=h;have hbl:=hT.length;refine⟨_,(Zc (Zy (i:=3) VX.nd rfl (Or.inl rfl) (Wc (Za (pv 1) Zb)))
     (Zc (Z2 PassesOwn.leaving rfl (ZW rfl T.n_range (Za (pv 2) Zb)) (Zl (i:=4) VX.nd rfl (Or.inl rfl)) (Zf (Z2 PassesOwn.leaving rfl (Z4 (K:=K) rfl (pv 0)) (Zl (i:=5) VX.nd rfl (Or.inl rfl)) (Zc (ZdI (ZS (PW.pt (Zdg (ZC (Zhp (K:=K) rfl) (Zj (Zp (K:=K) rfl) (pv 5) Zh (fun _ _=>rfl)) (pv 3) (by with_unfolding_all rfl)) (Zck (ZC (Zgt (K:=K) rfl) (Zj (Zp (K:=K) rfl) (pv 5) Zh (fun _ _=>rfl)) (pv 3) (by with_unfolding_all rfl))))) (Zf (ZX (Yw (K:=K) rfl PySem.F.plainAttrs_list PySem.F.slot_list_append PySem.F.type_list_append Yg (pv 3) (Za (Zj (Zp (K:=K) rfl) (pv 5) Zh (fun _ _=>rfl)) Zb)))) ZH))
     (Zf (ZdI (ZS (PW.pt (Zdg (ZC (Zhp (K:=K) rfl) (Zj (Zp (K:=K) rfl) (pv 5) Zh (fun _ _=>rfl)) (pv 3) (by with_unfolding_all rfl)) (Zck (ZC (Zgt (K:=K) rfl) (Zj (Zp (K:=K) rfl) (pv 5) Zh (fun _ _=>rfl)) (pv 3) (by with_unfolding_all rfl))))) (Zf (ZX (Yw (K:=K) rfl PySem.F.plainAttrs_list PySem.F.slot_list_append PySem.F.type_list_append Yg (pv 3) (Za (Zj (Zp (K:=K) rfl) (pv 5) Zh (fun _ _=>rfl)) Zb)))) ZH)))))))
     (Zf (Zu (pv 3))))),?_⟩
  try dsimp only[L2.cxX,L2.ZM,L2.Zn]
  walk_at "rds";intro r hr;have s1:Ze H (upd H r (.lst [V.int f])):=Zq hr;have hr1:(upd H r (.lst [V.int f])) r=some (.lst (([f]:List Int).map V.int)):=Zd;generalize upd H r (.lst [V.int f])=H1 at*;have hlp1:=s1 _ _ hlp;walk_at "rds";refine Yl (n:=n) (fun i σ H'=>∃(ys:List Int)(a1 a2:Option V),σ=[some (.ref lp),some (.int f),some (.int n),some (.ref r),a1,a2]∧Ze H H'∧H' r=some (.lst (ys.map V.int))∧f∈ys∧ys.Nodup∧(∀w∈ys,0≤w∧w<(n:Int))∧U5 ls f ys∧(Zd0 ls ys∨i<ys.length)) ⟨[f],_,_,rfl,s1,hr1,by simp,by simp,by simp;omega,fun P pf _ w hw=>by rw[List.mem_singleton.mp hw];exact pf,.inr (by simp)⟩ ?_ ?_
  ·rintro i0 σ H2 hi0 ⟨xs,a1,a2,rfl,s2,hr2,hf,hnd,hrg,hsp,hlen⟩;have hlp2:=s2 _ _ hlp;have hsr2:=SqL.of (K:=K) hr2;walk_at "rds";refine WS (ZZ (SqL.of hlp)) (fun i σ H'=>Ze H H'∧∃(a3:Option V)(ys:List Int),σ=[some (.ref lp),some (.int f),some (.int n),some (.ref r),some (.int (0+(i0:Int))),a3]∧H' r=some (.lst (ys.map V.int))∧ZbM ls n i xs ys∧U5 ls f ys) ⟨s2,_,xs,rfl,hr2,⟨⟨[],(List.append_nil xs).symm⟩,hnd,hrg,fun _ j hj=>absurd hj (Nat.not_lt_zero _)⟩,hsp⟩ (fun i σ H' h=>h.1) ?_ ?_
   ·rintro i σ H3 hi ⟨s3,a3,ys,rfl,hr3,hm,hsy⟩;have hil:i<ls.length:=by omega
    obtain⟨t,et,ht⟩:=hT.getD hil;rw[et];have ht3:=s3 _ _ ht;have hms:=hm.step hbt hil;have hyl:=Fo.Vm hm.nd hm.rg;have hlb:=hbt.at hil;have hs1:=hsy.add (a:=(ls.getD i dB).giver) (b:=(ls.getD i dB).taker) (fun P pj=>(pj i hil).mp);have hs2:=hs1.add (a:=(ls.getD i dB).taker) (b:=(ls.getD i dB).giver) (fun P pj=>(pj i hil).mpr);generalize ls.getD i dB=l at*;have hsr:=SqL.of (K:=K) hr3;dsimp only[B5.v4] at ht ht3;walk_at "rds";refine Rd.cut (fun σ' H'=>Ze H H'∧σ'=[some (.ref lp),some (.int f),some (.int n),some (.ref r),some (.int (0+(i0:Int))),some (.ref t)]∧H' r=some (.lst ((addW l.giver l.taker ys).map V.int))) ?k1 ?i1
    case i1=>
     walk_at "rds";refine Rd.ifD (fun c=>?_) (fun c=>?_)
     ·walk_at "rds"
      by_cases c2:l.taker∈ys
      ·rw[if_neg (by simp[c2])];walk_at "rds";exact⟨s3,rfl,by rw[hr3];unfold addW;rw[if_neg (fun z=>z.2 c2)]⟩
      ·rw[if_pos (by simp[c2])];have hz:(ys.map V.int).length<sizeLine:=Zx (by rw[List.length_map];omega);walk_at "rds";exact⟨s3.new hr,rfl,by rw[Zd];unfold addW;rw[if_pos ⟨c,c2⟩,List.map_append];rfl⟩
     ·walk_at "rds";exact⟨s3,rfl,by rw[hr3];unfold addW;rw[if_neg (fun z=>c z.1)]⟩
    case k1=>
     rintro σ' H4 ⟨s4,rfl,hr4⟩;have ht4:=s4 _ _ ht;obtain⟨b1,b2,b3,b4⟩:=hlb;obtain⟨p1,p2,p3,p4,p5⟩:=Zb7 (a:=l.giver) ⟨b3,b4⟩ hm.ext hm.nd hm.rg;have hzl:=Fo.Vm p2 p3;generalize addW l.giver l.taker ys=zs at*;have hsr4:=SqL.of (K:=K) hr4;walk_at "rds";refine Rd.cut (fun σ' H'=>Ze H H'∧σ'=[some (.ref lp),some (.int f),some (.int n),some (.ref r),some (.int (0+(i0:Int))),some (.ref t)]∧H' r=some (.lst ((addW l.taker l.giver zs).map V.int))) ?k2 ?i2
     case i2=>
      walk_at "rds";refine Rd.ifD (fun c=>?_) (fun c=>?_)
      ·walk_at "rds"
       by_cases c2:l.giver∈zs
       ·rw[if_neg (by simp[c2])];walk_at "rds";exact⟨s4,rfl,by rw[hr4];unfold addW;rw[if_neg (fun z=>z.2 c2)]⟩
       ·rw[if_pos (by simp[c2])];have hz:(zs.map V.int).length<sizeLine:=Zx (by rw[List.length_map];omega);walk_at "rds";exact⟨s4.new hr,rfl,by rw[Zd];unfold addW;rw[if_pos ⟨c,c2⟩,List.map_append];rfl⟩
      ·walk_at "rds";exact⟨s4,rfl,by rw[hr4];unfold addW;rw[if_neg (fun z=>c z.1)]⟩
     case k2=>
      rintro σ' H5 ⟨s5,rfl,hr5⟩;walk_at "rds";exact⟨s5,_,_,rfl,hr5,hms,hs2⟩
   ·rintro σ H3 ⟨s3,a3,ys,rfl,hr3,hm,hsy⟩;rw[hbl] at hm;walk_at "rds";have hfy:f∈ys:=by obtain⟨ws,ew⟩:=hm.ext;rw[ew];exact List.mem_append.mpr (.inl hf)
    refine⟨ys,_,_,rfl,s3,hr3,hfy,hm.nd,hm.rg,hsy,?_⟩;rcases hlen with hcl|hlen
    ·have ey:=hm.shut fun w hw=>hsy (fun w=>w∈xs) hf hcl w hw;exact .inl (by rw[ey];exact hcl)
    ·rcases hm.lap with⟨hcl,ey⟩|z
     ·exact .inl (by rw[ey];exact hcl)
     ·exact .inr (by omega)
  ·rintro σ H2 ⟨ys,a1,a2,rfl,s2,hr2,hf,hnd,hrg,hsp,hlen⟩;have:=Fo.Vm hnd hrg;walk_at "rds";rcases hlen with hcl|hlen
   ·exact q r H2 ys hr s2 hr2 hf hrg hcl hsp
   ·omega
end
def Zdl{K:PySem.W.Frag}{mg:Str→Option Value}(T:Tp K mg):Sp:=fun vs H Q _=>∃(lp a:Addr)(bs:List V)(ls:List B5)(ss:List Int),vs=[.ref lp,.ref a]∧H lp=some (.lst bs)∧YW H bs ls∧SqL K H a (ss.map V.int)∧W5 ss∧ZK ls ss.length∧ss.length≤30∧
 ∀(r:Addr)(H':Hp)(rs:List Int),H r=none→Ze H H'→H' r=some (.lst (rs.map V.int))→Zas ls ss rs→Q (.ref r) H'
section
variable {P:Program}{w:World}{K:PySem.W.Frag}{mg:Str→Option Value}{base:Heap}
theorem ZhD(T:Tp K mg):Zk P w K mg base (CXX P w) 2 T.f_l_rates T.d_l_rates ["_law_lines_here","_law_sizes"] (Zdl T):=by
 have G_l_reached:Zk P w K mg base (CXX P w) 1 T.f_l_reached T.d_l_reached ["_law_lines_here","_law_first","_law_many"] (Zb1 T):=(ZfT T).mono (by decide);have G_l_divisor:Zk P w K mg base (CXX P w) 1 T.f_l_divisor T.d_l_divisor ["_law_one","_law_other"] (Zaj T):=(ZbF T).mono (by decide);refine T.F_l_rates.okX W6 (fun vs H Q E h=>?_) (fun cdv A outer s H vs Q E hr h=>?_)
 ·obtain⟨lp,a,bs,ls,ss,rfl,_⟩:=h
  rfl
 ·have hu:=hr.units;obtain⟨lp,a,bs,ls,ss,rfl,hlp,hT,hA,hss,hbt,hn,q⟩:=h;have hsl:((ss.map V.int).length:Int)=(ss.length:Int):=by simp
  refine⟨_,(Zc (Zy (i:=2) W6.nd rfl (Or.inl rfl) (Wc Zb))
     (Zc (Z2 PassesOwn.leaving rfl (ZW rfl T.n_range (Za (Zr (ZU (K:=K) rfl) (by rfl) T.n_len PySem.boot_len (Za (pv 1) Zb)) Zb)) (Zl (i:=3) W6.nd rfl (Or.inl rfl)) (Zc (Zy (i:=4) W6.nd rfl (Or.inl rfl) Zh)
     (Zc (Z2 PassesOwn.leaving rfl (Z4 (K:=K) rfl (Zv G_l_reached hr rfl T.m_l_reached T.F_l_reached.kp T.b_l_reached .nil Zm (Za (pv 0) (Za (pv 3) (Za (Zr (ZU (K:=K) rfl) (by rfl) T.n_len PySem.boot_len (Za (pv 1) Zb)) Zb))))) (Zl (i:=5) W6.nd rfl (Or.inl rfl)) (Zf (Zy (i:=4) W6.nd rfl (Or.inl rfl) (Zv G_l_divisor hr rfl T.m_l_divisor T.F_l_divisor.kp T.b_l_divisor .nil Zm (Za (pv 4) (Za (Zj (Zp (K:=K) rfl) (pv 1) (pv 5) (fun _ _=>rfl)) Zb))))))
     (Zf (ZX (Yw (K:=K) rfl PySem.F.plainAttrs_list PySem.F.slot_list_append PySem.F.type_list_append Yg (pv 2) (Za (Zs Z5 (Zj (Zp (K:=K) rfl) (pv 1) (pv 3) (fun _ _=>rfl)) (pv 4)) Zb)))))))
     (Zf (Zu (pv 2))))),?_⟩
  try dsimp only[L2.cxX,L2.ZM,L2.Zn]
  walk_at "rds";refine⟨Nat.zero_le _,fun r hr=>?_⟩;have s1:Ze H (upd H r (.lst [])):=Zq hr;have hr1:(upd H r (.lst [])) r=some (.lst (([]:List Int).map V.int)):=Zd;generalize upd H r (.lst [])=H1 at*;have hA1:=s1.seq hA;walk_at "rds";refine Yl (n:=((ss.map V.int).length:Int).toNat) (fun i σ H'=>∃(rs:List Int)(a1 a2 a3:Option V),σ=[some (.ref lp),some (.ref a),some (.ref r),a1,a2,a3]∧Ze H H'∧H' r=some (.lst (rs.map V.int))∧rs.length=i∧∀w<i,Zdi ls ss w (rs.getD w 0)) ⟨[],_,_,_,rfl,s1,hr1,rfl,fun w h=>absurd h (Nat.not_lt_zero _)⟩ ?_ ?_
  ·rintro i σ H2 hi ⟨rs,a1,a2,a3,rfl,s2,hr2,hrl,hrs⟩;have hil:i<ss.length:=by omega
   have hA2:=s2.seq hA;have hrz:(rs.map V.int).length<sizeLine:=Zx (by rw[List.length_map];omega);walk_at "rds";rw[Int.zero_add,hsl];refine⟨lp,bs,ls,(i:Int),ss.length,rfl,s2 _ _ hlp,hT.keep (fun b xs e=>s2 _ _ e),hbt,by omega,by omega,by omega,fun ra H3 ys hra s3 hra3 hm hrg hcl hsp=>?_⟩;have s23:=s2.trans s3;have hA3:=s23.seq hA;walk_at "rds";refine WS (ZZ (SqL.of hra3)) (fun j σ H'=>H'=H3∧∃a3:Option V,σ=[some (.ref lp),some (.ref a),some (.ref r),some (.int i),some (.int (gcdL ss (ys.take j):Nat)),a3]) ⟨rfl,_,rfl⟩ (fun i σ H' h=>by rw[h.1];exact Ze.refl _) ?_ ?_
   ·rintro j σ H4 hj ⟨rfl,a3,rfl⟩;have hj':j<ys.length:=by simpa using hj
    have ev:(ys.map V.int).getD j .non= .int ys[j]:=by simp[List.getD,hj']
    rw[ev];have hr':=hrg _ (List.getElem_mem hj');have eg:=ZiI ss (ys.take j) ys[j];rw[←List.take_succ_eq_append_getElem hj'] at eg;generalize ys[j]=v at*;obtain⟨x,ex,x0,x1⟩:=VJ hss hr'.1 hr'.2;have at1:=ZO hr'.1 hr'.2;rw[ex] at at1;rw[ex,Int.toNat_natCast] at eg;walk_at "rds";refine⟨gcdL ss (ys.take j),x,rfl,?_⟩;walk_at "rds";exact⟨rfl,some (.int v),by rw[eg]⟩
   ·rintro σ H4 ⟨rfl,a3,rfl⟩;have hr3:=s3 _ _ hr2;rw[List.length_map,List.take_length];obtain⟨x,ex,x0,x1⟩:=VJ hss (Int.natCast_nonneg i) (show(i:Int)<ss.length by omega);rw[Int.toNat_natCast] at ex;have at1:=ZO (ns:=ss) (k:=(i:Int)) (Int.natCast_nonneg i) (by omega);rw[Int.toNat_natCast,ex] at at1;have g0:0<gcdL ss ys:=ZfJ hm (by rw[Int.toNat_natCast,ex,Int.toNat_natCast];exact x0);have gx:gcdL ss ys ∣ x:=by
     have:=(Zaz ss ys 0).2 _ hm;rw[Int.toNat_natCast,ex,Int.toNat_natCast] at this;exact this
    have g1:gcdL ss ys≤x:=Nat.le_of_dvd x0 gx;have gd:=ZdY (a:=0) g0 (Nat.lt_of_le_of_lt (Nat.le_trans g1 x1) (Nat.lt_of_lt_of_le (by decide:10 ^ 13<2 ^ 110) (Nat.pow_le_pow_right (by decide) (by decide))));have hR:Zdi ls ss i (((x / gcdL ss ys:Nat):Int)):=⟨ys,hm,hrg,hcl,hsp,by rw[ex,Int.toNat_natCast]⟩;have ed:(x:Int) / ((gcdL ss ys:Nat):Int)=((x / gcdL ss ys:Nat):Int):=rfl;generalize gcdL ss ys=g at*;walk_at "rds";rw[ed];refine⟨rs++ [((x / g:Nat):Int)],_,_,_,rfl,s23.new hr,by rw[Zd,List.map_append];rfl,by simp[hrl],fun w hw=>?_⟩;rcases Nat.lt_or_ge w i with z|z
    ·have e:(rs++ [((x / g:Nat):Int)]).getD w 0=rs.getD w 0:=by simp[List.getD,List.getElem?_append_left (show w<rs.length by omega)]
     rw[e];exact hrs w z
    ·obtain rfl:w=i:=by omega
     have e:(rs++ [((x / g:Nat):Int)]).getD w 0=((x / g:Nat):Int):=by rw[←hrl];simp[List.getD]
     rw[e];exact hR
  ·rintro σ H2 ⟨rs,a1,a2,a3,rfl,s2,hr2,hrl,hrs⟩;have el:((ss.map V.int).length:Int).toNat=ss.length:=by simp
   rw[el] at hrl hrs;walk_at "rds";exact q r H2 rs hr s2 hr2 ⟨hrl,hrs⟩
end
def ZbI{K:PySem.W.Frag}{mg:Str→Option Value}(T:Tp K mg):Sp:=fun vs H Q _=>∃(p lp ra:Addr)(ns:List Int)(bs:List V)(ls:List B5)(ss rs:List Int),vs=[.ref p,.ref lp,.ref ra]∧SqL K H p (ns.map V.int)∧H lp=some (.lst bs)∧YW H bs ls∧SqL K H ra (rs.map V.int)∧rs.length=ss.length∧(∀r∈rs,0≤r∧r≤10 ^ 13)∧ls.length≤35∧(∀l∈ls,Vi ss l)∧
 ∀(r:Addr)(H':Hp)(bs':List V)(ls':List B5),H r=none→Ze H H'→H' r=some (.lst bs')→Yj H' bs' ls'→ls'.length=ls.length→(∀j<ls.length,∃s:Int,0≤s∧ls'.getD j dB=Wa (ls.getD j dB) s)→Q (.ref r) H'
section
variable {P:Program}{w:World}{K:PySem.W.Frag}{mg:Str→Option Value}{base:Heap}
theorem Ze1(T:Tp K mg):Zk P w K mg base (CXX P w) 3 T.f_l_started T.d_l_started ["_law_script","_law_lines_here","_law_rates_here"] (ZbI T):=by
 have G_l_mixed:Zk P w K mg base (CXX P w) 2 T.f_l_mixed T.d_l_mixed ["_law_script","_law_k"] (WE T):=(UW T).mono (by decide);refine T.F_l_started.okX Yz (fun vs H Q E h=>?_) (fun cdv A outer s H vs Q E hr h=>?_)
 ·obtain⟨p,lp,ra,ns,bs,ls,ss,rs,rfl,_⟩:=h
  rfl
 ·have hu:=hr.units;obtain⟨p,lp,ra,ns,bs,ls,ss,rs,rfl,hS,hlp,hT,hR,hrl,hrb,hz,hL,q⟩:=h;have hbl:=hT.length;refine⟨_,(Zc (Zy (i:=3) Yz.nd rfl (Or.inl rfl) (Wc Zb))
     (Zc (Z2 PassesOwn.leaving rfl (ZW rfl T.n_range (Za (Zr (ZU (K:=K) rfl) (by rfl) T.n_len PySem.boot_len (Za (pv 1) Zb)) Zb)) (Zl (i:=4) Yz.nd rfl (Or.inl rfl)) (Zc (YZ (Zj (Zp (K:=K) rfl) (pv 1) (pv 4) (fun _ _=>rfl)) (YA (K:=K) (n:=4) rfl rfl (Zz (Zl (i:=5) Yz.nd rfl (Or.inl rfl)) (Zz (Zl (i:=6) Yz.nd rfl (Or.inl rfl)) (Zz (Zl (i:=7) Yz.nd rfl (Or.inl rfl)) (Zz (Zl (i:=8) Yz.nd rfl (Or.inl rfl)) YB))))))
     (Zc (Zy (i:=9) Yz.nd rfl (Or.inl rfl) (Zv G_l_mixed hr rfl T.m_l_mixed T.F_l_mixed.kp T.b_l_mixed .nil Zm (Za (pv 0) (Za (Zs (Z8 (K:=K) rfl) Zh (pv 4)) Zb))))
     (Zc (Zy (i:=10) Yz.nd rfl (Or.inl rfl) (Zj (Zp (K:=K) rfl) (Wc (Za Zh (Za (Zs Yi (Zs Z5 (pv 9) Zh) (pv 8)) (Za (Zs V4 (pv 8) Zh) (Za (Zs Yi (Zs Z5 (pv 9) Zh) (Zs Yo Zh (pv 8))) (Za (Zs Yo (pv 8) (Zj (Zp (K:=K) rfl) (pv 2) (pv 6) (fun _ _=>rfl))) Zb)))))) (Zs Yi (pv 9) Zh) (fun _ _=>rfl)))
     (Zf (ZX (Yw (K:=K) rfl PySem.F.plainAttrs_list PySem.F.slot_list_append PySem.F.type_list_append Yg (pv 3) (Za (YT (Za (pv 5) (Za (pv 6) (Za (pv 7) (Za (pv 8) (Za (pv 10) Zb)))))) Zb))))))))
     (Zf (Zu (pv 3))))),?_⟩
  try dsimp only[L2.cxX,L2.ZM,L2.Zn]
  walk_at "rds";refine⟨Nat.zero_le _,fun r hr=>?_⟩;have s1:Ze H (upd H r (.lst [])):=Zq hr;have hr1:(upd H r (.lst [])) r=some (.lst []):=Zd;generalize upd H r (.lst [])=H1 at*;have hlp1:=s1 _ _ hlp;walk_at "rds";refine Yl (n:=((bs.length:Nat):Int).toNat) (fun i σ H'=>∃(cs:List V)(ks:List B5)(a1 a2 a3 a4 a5 a6 a7:Option V),σ=[some (.ref p),some (.ref lp),some (.ref ra),some (.ref r),a1,a2,a3,a4,a5,a6,a7]∧Ze H H'∧H' r=some (.lst cs)∧Yj H' cs ks∧ks.length=i∧∀j<i,∃s:Int,0≤s∧ks.getD j dB=Wa (ls.getD j dB) s) ⟨[],[],_,_,_,_,_,_,_,rfl,s1,hr1,.nil,rfl,fun j h=>absurd h (Nat.not_lt_zero _)⟩ ?_ ?_
  ·rintro i σ H2 hi ⟨cs,ks,a1,a2,a3,a4,a5,a6,a7,rfl,s2,hr2,hT2,hl2,hd2⟩;have hil:i<ls.length:=by omega
   have hS2:=s2.seq hS;have hR2:=s2.seq hR;have hlp2:=s2 _ _ hlp;have hbz:cs.length<sizeLine:=Zx (by have:=hT2.length;omega);obtain⟨t,et,ht⟩:=hT.getD hil;have ht2:=s2 _ _ ht;have at0:atI bs (0+(i:Int))=some (.ref t):=by
    rw[Int.zero_add];exact Yu (by rw[List.getElem?_eq_getElem (show i<bs.length by omega),←et,Zw (show i<bs.length by omega)])
   have hLi:=hL (ls.getD i dB) (by rw[Zw hil];exact List.getElem_mem hil);generalize hbb:ls.getD i dB=bb at*;obtain⟨gv,tk,eg,ek,g0,t0,g1,t1,_⟩:=hLi.sz;obtain⟨b1,b2,b3,b4⟩:=hLi.rg;dsimp only[B5.v4] at ht2;walk_at "rds";refine Rd.Vj (.of ht2) rfl ?_;have at1:=ZO (ns:=rs) (k:=bb.taker) b3 (by omega);obtain⟨rt,ert,hrt⟩:∃rt:Nat,rs.getD bb.taker.toNat 0=(rt:Int)∧rt<2 ^ 110:=by
    have hm:rs.getD bb.taker.toNat 0∈rs:=by rw[Zw (by omega)];exact List.getElem_mem _
    obtain⟨x0,x1⟩:=hrb _ hm;exact⟨(rs.getD bb.taker.toNat 0).toNat,by omega,by omega⟩
   rw[ert] at at1;have mo1:IntMulOk bb.take (rt:Int):=by rw[ek];exact Vx t1 hrt (by decide)
   have mo2:IntMulOk 2 bb.take:=by rw[ek];exact Vx (n:=5) (a:=2) (by decide) t1 (by decide)
   have mp:0<2*bb.take:=by omega
   have mp1:0<bb.take:=by omega
   walk_at "rds";rename_i mx hmx mx0 mx1;clear hmx;have e1:0≤mx / 5 % (2*bb.take):=Int.emod_nonneg _ (by omega);have e3:0≤mx / 5 % bb.take:=Int.emod_nonneg _ (by omega);have e2:0≤bb.take*(rt:Int):=by rw[ek];exact Int.mul_nonneg (by omega) (by omega)
   generalize mx / 5 % (2*bb.take)=s1q at*;generalize mx / 5 % bb.take=s3q at*;generalize bb.take*(rt:Int)=s2q at*;refine⟨by show 5≤sizeLine;decide,fun u0 hu0=>?_⟩;have su:Ze H2 (upd H2 u0 (.lst [V.int 0,V.int s3q,V.int (bb.take-1),V.int s1q,V.int s2q])):=Zq hu0;have hu1:(upd H2 u0 (.lst [V.int 0,V.int s3q,V.int (bb.take-1),V.int s1q,V.int s2q])) u0=some (.lst (([0,s3q,bb.take-1,s1q,s2q]:List Int).map V.int)):=Zd;generalize upd H2 u0 (.lst [V.int 0,V.int s3q,V.int (bb.take-1),V.int s1q,V.int s2q])=H3 at*;obtain⟨st,at2,st0⟩:∃st:Int,atI (([0,s3q,bb.take-1,s1q,s2q]:List Int).map V.int) (mx % 5)=some (.int st)∧0≤st:=by
    refine⟨_,ZO (ns:=[0,s3q,bb.take-1,s1q,s2q]) (k:=mx % 5) (by omega) (by simp;omega),?_⟩;have hm:([0,s3q,bb.take-1,s1q,s2q]:List Int).getD (mx % 5).toNat 0∈[0,s3q,bb.take-1,s1q,s2q]:=by rw[Zw (by simp;omega)];exact List.getElem_mem _
    simp only[List.mem_cons,List.not_mem_nil,or_false] at hm;omega
   have hr3:=su _ _ hr2;walk_at "rds";refine⟨by show 5≤sizeLine;decide,fun u hu'=>?_⟩;have sv:Ze H3 (upd H3 u (.tup [.int bb.giver,.int bb.taker,.int bb.give,.int bb.take,.int st])):=Zq hu';have hv:(upd H3 u (.tup [.int bb.giver,.int bb.taker,.int bb.give,.int bb.take,.int st])) u=some (.tup (Wa bb st).v):=Zd;generalize upd H3 u (.tup [.int bb.giver,.int bb.taker,.int bb.give,.int bb.take,.int st])=H4 at*;have hr4:=sv _ _ (su _ _ hr2);walk_at "rds";have fr4:ZJ [r] H4 (upd H4 r (.lst (cs++ [.ref u]))):=Ym (by simp) hr4 (by intro _ z;cases z);have ss4:=su.trans sv;refine⟨cs++ [.ref u],ks++ [Wa bb st],_,_,_,_,_,_,_,rfl,(s2.trans ss4).new hr,Zd,((hT2.keep fun b xs e=>ss4 _ _ e).keep fr4.tups).snoc (fr4.tups _ _ hv),by simp[hl2],fun j hj=>?_⟩;rcases Nat.lt_or_ge j i with z|z
   ·have e:(ks++ [Wa bb st]).getD j dB=ks.getD j dB:=by simp[List.getD,List.getElem?_append_left (show j<ks.length by omega)]
    rw[e];exact hd2 j z
   ·obtain rfl:j=i:=by omega
    have e:(ks++ [Wa bb st]).getD j dB=Wa bb st:=by rw[←hl2];simp[List.getD]
    exact⟨st,st0,by rw[e,hbb]⟩
  ·rintro σ H2 ⟨cs,ks,a1,a2,a3,a4,a5,a6,a7,rfl,s2,hr2,hT2,hl2,hd2⟩;rw[Int.toNat_natCast,hbl] at hl2 hd2;walk_at "rds";exact q r H2 cs ks hr s2 hr2 hT2 hl2 hd2
end
def YY{K:PySem.W.Frag}{mg:Str→Option Value}(T:Tp K mg):Sp:=fun vs H Q _=>∃(p:Addr)(hl:HM)(fp:List Addr),vs=[.ref p]∧ZE T H p hl fp∧
 ∀(q:Addr)(H':Hp)(bs:List V),H q=none→Ze H H'→H' q=some (.lst bs)→Yj H' bs hl.belts→Q (.ref q) H'
theorem ZeE{K:PySem.W.Frag}{mg:Str→Option Value}{T:Tp K mg}{H:Hp}{Q:VK}{E:XK}{p:Addr}{hl:HM}{fp:List Addr}(h:ZE T H p hl fp)
  (q:∀(q:Addr)(H':Hp)(bs:List V),H q=none→Ze H H'→H' q=some (.lst bs)→Yj H' bs hl.belts→Q (.ref q) H'):YY T (.ref p::([]++ [])) H Q E:=⟨p,hl,fp,rfl,h,q⟩
local macro_rules| `(tactic|walk_at "rd")=>`(tactic|first|((with_reducible show Nm.YY _ _ _ _ _);with_reducible refine Nm.ZeE (by with_reducible assumption) ?_)|fail "none here")
section
variable {P:Program}{w:World}{K:PySem.W.Frag}{mg:Str→Option Value}{base:Heap}
theorem Vw(T:Tp K mg):Zk P w K mg base (CXX P w) 1 T.f_Hall_belts T.d_Hall_belts ["self"] (YY T):=by
 have cl_Hall:=T.cl_Hall;have na_Hall:=T.na_Hall;refine T.F_Hall_belts.okX ZeK (fun vs H Q E h=>?_) (fun cdv A outer s H vs Q E hr h=>?_)
 ·obtain⟨p,hl,fp,rfl,_⟩:=h
  rfl
 ·have hu:=hr.units;obtain⟨p,hl,fp,rfl,hh,q⟩:=h;obtain⟨dx,a,b,bs,rfl,h1,h2,h3,h4,nab,h6⟩:=id hh;refine⟨_,(Zf (Zu (UJ (Zbb (K:=K) rfl) (by rfl) T.n_list PyProof.Rows.boot_list (Za (ZY (K:=K) rfl (pv 0) rfl) Zb)))),?_⟩
  try dsimp only[L2.cxX,L2.ZM,L2.Zn]
  walk_at "rds";refine Rd.Zce (.of h4) (fun l hl'=>?_);exact q l _ bs hl' (Zq hl') Zd (h6.keep ((Zq hl').frame (A:=[])).tups)
end
def ZbJ{K:PySem.W.Frag}{mg:Str→Option Value}(T:Tp K mg):Sp:=fun vs H Q _=>∃(p:Addr)(hl:HM)(fp:List Addr),vs=[.ref p]∧ZE T H p hl fp∧hl.belts.length≤1000∧
 ∀(r:Addr)(H':Hp),H r=none→Ze H H'→H' r=some (.lst ((ZN hl.belts).map V.int))→Q (.ref r) H'
section
variable {P:Program}{w:World}{K:PySem.W.Frag}{mg:Str→Option Value}{base:Heap}
theorem ZfD(T:Tp K mg):Zk P w K mg base (CXX P w) 2 T.f_starts_of T.d_starts_of ["hall"] (ZbJ T):=by
 have G_Hall_belts:Zk P w K mg base (CXX P w) 1 T.f_Hall_belts T.d_Hall_belts ["self"] (YY T):=(Vw T).mono (by decide);have cl_Hall:=T.cl_Hall;have na_Hall:=T.na_Hall;refine T.F_starts_of.okX Zfd (fun vs H Q E h=>?_) (fun cdv A outer s H vs Q E hr h=>?_)
 ·obtain⟨p,hl,fp,rfl,_⟩:=h
  rfl
 ·have hu:=hr.units;obtain⟨p,hl,fp,rfl,hh,hz,q⟩:=h;refine⟨_,(Zf (Zu (Um rfl (Yk (x:="row") (zs:=[]) (ix:=[]) (Zi Vn) ["hall"] rfl rfl (by decide+kernel)) (Z4 (K:=K) rfl (Uk (pv 0) T.cl_Hall T.M_Hall_belts G_Hall_belts hr T.b_Hall_belts .nil Zm)) (fun cl C s H fp=>⟨(Zl (i:=0) (show(["row"]:List Str).Nodup by decide+kernel) rfl (Or.inl rfl)),Yn,(Zj (Zp (K:=K) rfl) (pv 0) Zh (fun _ _=>rfl))⟩)))),?_⟩
  try dsimp only[L2.cxX,L2.ZM,L2.Zn]
  walk_at "rds";intro u H1 bs hu0 sm1 hu1 hT;have hl1:=hT.length;have hb:bs.length<sizeLine:=Zx (by rw[hl1];exact hz);walk_at "rds";refine YR (ZZ (SqL.of hu1)) hb (fun _=>true) (fun i=> .int (hl.belts.getD i dB).start) (fun i H' Kc hi sm k=>?_) (fun i H' Kc hi _ sm k=>?_) (fun r H' hr sm hr'=>?_)
  ·walk_at "rds";exact k H' (Ze.refl H')
  ·have hil:i<hl.belts.length:=by omega
   obtain⟨t,ht1,ht2⟩:=hT.getD (i:=i) hil;rw[ht1];have ht3:=sm _ _ ht2;generalize hl.belts.getD i dB=bb at*;dsimp only[B5.v] at ht3;walk_at "rds";exact k H' (Ze.refl H')
  ·refine q r H' (ZG sm1 hr) (sm1.trans sm) ?_;rw[hr',List.filter_eq_self.mpr (by simp),hl1];unfold ZN;refine congrArg (fun z=>some (HO.lst z)) ?_;refine List.ext_getElem (by simp) fun i h1 h2=>?_;have:i<hl.belts.length:=by simpa using h1
   simp[List.getD,this]
end
def UO{K:PySem.W.Frag}{mg:Str→Option Value}(T:Tp K mg):Sp:=fun vs H Q E=>∃(p:Addr)(hl:HM)(fp:List Addr),vs=[.ref p]∧ZE T H p hl fp∧
 ∀r H',H r=none→Ze H H'→H' r=some (.lst (hl.names.map V.str))→Q (.ref r) H'
section
variable {P:Program}{w:World}{K:PySem.W.Frag}{mg:Str→Option Value}{base:Heap}
theorem Zbt(T:Tp K mg):Zk P w K mg base (CXX P w) 1 T.f_Hall_names T.d_Hall_names ["self"] (UO T):=by
 have cl_Hall:=T.cl_Hall;have na_Hall:=T.na_Hall;refine T.F_Hall_names.okX ZeJ (fun vs H Q E h=>?_) (fun cdv A outer s H vs Q E hr h=>?_)
 ·obtain⟨p,hl,fp,rfl,_⟩:=h
  rfl
 ·have hu:=hr.units;obtain⟨p,hl,fp,rfl,hh,q⟩:=h;obtain⟨dx,a,b,bs,rfl,h1,h2,h3,h4,nab,h6⟩:=id hh;refine⟨_,(Zf (Zu (UJ (Zg1 rfl) (by rfl) T.n_list PyProof.Rows.boot_list (Za (ZY (K:=K) rfl (pv 0) rfl) Zb)))),?_⟩
  try dsimp only[L2.cxX,L2.ZM,L2.Zn]
  walk_at "rds";intro l hl';rw[ZcH];exact q l _ hl' (Zq hl') Zd
end
def Zc9{K:PySem.W.Frag}{mg:Str→Option Value}(T:Tp K mg):Sp:=fun vs H Q _=>∃(p:Addr)(hl:HM)(fp:List Addr),vs=[.ref p]∧ZE T H p hl fp∧hl.names.length≤1000∧hl.belts.length≤1000∧ZK hl.belts hl.names.length∧
 ∀(r:Addr)(ia:List Addr)(H':Hp),H r=none→Ze H H'→ZbZ H' r ia hl.names.length (YG hl.belts)→Q (.ref r) H'
section
variable {P:Program}{w:World}{K:PySem.W.Frag}{mg:Str→Option Value}{base:Heap}
theorem ZhE(T:Tp K mg):Zk P w K mg base (CXX P w) 2 T.f_ways_of T.d_ways_of ["hall"] (Zc9 T):=by
 have G_Hall_belts:Zk P w K mg base (CXX P w) 1 T.f_Hall_belts T.d_Hall_belts ["self"] (YY T):=(Vw T).mono (by decide);have G_Hall_names:Zk P w K mg base (CXX P w) 1 T.f_Hall_names T.d_Hall_names ["self"] (UO T):=(Zbt T).mono (by decide);have cl_Hall:=T.cl_Hall;have na_Hall:=T.na_Hall;refine T.F_ways_of.okX UV (fun vs H Q E h=>?_) (fun cdv A outer s H vs Q E hr h=>?_)
 ·obtain⟨p,hl,fp,rfl,_⟩:=h
  rfl
 ·have hu:=hr.units;obtain⟨p,hl,fp,rfl,hh,hn,hz,hbt,q⟩:=h;refine⟨_,(Zc (ZcR (j:=1) (xs:=["name"]) rfl (Yk (x:="name") (zs:=[]) (ix:=[]) (Zi UK) ["hall","ways","belt","row"] rfl rfl (by decide+kernel)) (Z4 (K:=K) rfl (Uk (pv 0) T.cl_Hall T.M_Hall_names G_Hall_names hr T.b_Hall_names .nil Zm)) (fun cl C s H fp=>⟨(Zl (i:=0) (show(["name"]:List Str).Nodup by decide+kernel) rfl (Or.inl rfl)),Yn,(Wc Zb)⟩) UV.nd rfl (Or.inl rfl))
     (Zc (Z2 PassesOwn.leaving rfl (ZaR (K:=K) rfl rfl T.n_enumerate (Za (Uk (pv 0) T.cl_Hall T.M_Hall_belts G_Hall_belts hr T.b_Hall_belts .nil Zm) Zb)) (YA (K:=K) (n:=2) rfl rfl (Zz (Zl (i:=2) UV.nd rfl (Or.inl rfl)) (Zz (Zl (i:=3) UV.nd rfl (Or.inl rfl)) YB))) (Zc (ZX (Yw (K:=K) rfl PySem.F.plainAttrs_list PySem.F.slot_list_append PySem.F.type_list_append Yg (Zj (Zp (K:=K) rfl) (pv 1) (Zj (Zp (K:=K) rfl) (pv 3) Zh (fun _ _=>rfl)) (fun _ _=>rfl)) (Za (YT (Za (Zj (Zp (K:=K) rfl) (pv 3) Zh (fun _ _=>rfl)) (Za (pv 2) (Za YC Zb)))) Zb)))
     (Zf (ZX (Yw (K:=K) rfl PySem.F.plainAttrs_list PySem.F.slot_list_append PySem.F.type_list_append Yg (Zj (Zp (K:=K) rfl) (pv 1) (Zj (Zp (K:=K) rfl) (pv 3) Zh (fun _ _=>rfl)) (fun _ _=>rfl)) (Za (YT (Za (Zj (Zp (K:=K) rfl) (pv 3) Zh (fun _ _=>rfl)) (Za (pv 2) (Za YC Zb)))) Zb))))))
     (Zf (Zu (pv 1))))),?_⟩
  try dsimp only[L2.cxX,L2.ZM,L2.Zn]
  walk_at "rds";refine⟨p,hl,fp,rfl,hh,fun nm H1 hnm s1 hnm1=>?_⟩;walk_at "rds";refine ZhC (own:=1) (ZZ (SqL.of hnm1)).y (Zx (by rw[List.length_map];exact hn)) (fun i=>[some ((hl.names.map V.str).getD i .non)]) (fun _=>rfl) (fun i a' H' v H2 Kg hi sm y hal k=>?_) (fun i H' Kc hi sm k=>?_) (fun r H2 ia hr s2 hr2 hil hnd hia=>?_)
  ·obtain⟨rfl,rfl⟩:=y;obtain⟨x1,rfl⟩:∃x1,a'=[x1]:=by
    match a',hal with
    | [x1],_=>exact⟨x1,rfl⟩
   walk_at "rds";exact k _ (Ze.refl _)
  ·exact k
  rw[List.length_map] at hil;have s12:=s1.trans s2;have hh2:=hh.same s12;have hr0:H r=none:=ZG s1 hr;have hia0:∀x∈ia,H x=none:=fun x hx=>ZG s1 (hia x hx).1;have nri:∀x∈ia,r≠x:=fun x hx z=>(hia x hx).2.1 z.symm;walk_at "rds";intro u H3 bs hu0 s3 hu3 hT;have hbl:=hT.length;have nui:∀x∈ia,u≠x:=fun x hx z=>by
   have:=(hia x hx).2.2;rw[←z,hu0] at this;cases this
  walk_at "rds";refine VM (VS (SqL.of (ZaE (q:=u) (o:= .lst bs)))) (fun k σ H'=>∃(a1 a2:Option V),σ=[some (.ref p),some (.ref r),a1,a2]∧Ze H H'∧H' u=some (.lst bs)∧H' r=some (.lst (ia.map V.ref))∧Yj H' bs hl.belts∧WA H' ia (WZ hl.belts k)∧∀(j:Nat)(h:j<ia.length) vs,H' ia[j]=some (.lst vs)→vs.length≤2*k)
   ⟨_,_,rfl,s12.trans s3,hu3,s3 _ _ hr2,hT,fun j hj=>⟨[],s3 _ _ (hia _ (List.getElem_mem hj)).2.2,.nil⟩,fun j hj vs e=>?_⟩ ?_ ?_ ?_
  ·rw[s3 _ _ (hia _ (List.getElem_mem hj)).2.2] at e;cases e;exact Nat.zero_le _
  ·rintro k σ H' ⟨_,_,_,_,h,_⟩;exact Zao h
  ·rintro k σ H4 v H5 hk ⟨a1,a2,rfl,s4,hu4,hr4,hT4,hWA,hsz⟩ ⟨t,ht,rfl,rfl⟩;have hkl:k<hl.belts.length:=by omega
   obtain⟨g0,g1,t0,t1⟩:=hbt.at hkl;obtain⟨tb,hb1,hb2⟩:=hT4.getD hkl;rw[hb1];refine Rd.Vj (.of Zd) rfl ?_;have s5:Ze H4 (upd H4 t (.tup [.int k,.ref tb])):=Zq ht;generalize upd H4 t (.tup [.int k,.ref tb])=H5 at*;have hW1:∀j:Int,WZ hl.belts (k+1) j=(WZ hl.belts k j++(if(hl.belts.getD k dB).giver=j then[((hl.belts.getD k dB).taker,(k:Int),true)] else[]))++(if(hl.belts.getD k dB).taker=j then[((hl.belts.getD k dB).giver,(k:Int),false)] else[]):=fun j=>by
    rw[Zgj,Zbh,List.append_assoc]
   generalize hl.belts.getD k dB=b at*;have hbt5:=s5 _ _ hb2;dsimp only[B5.v] at hbt5;have hr5:=s5 _ _ hr4;have hWA5:=hWA.same s5;have gl:b.giver.toNat<ia.length:=by omega
   have tl:b.taker.toNat<ia.length:=by omega
   have atg:=ZdS g0 gl;have att:=ZdS t0 tl;have eg:((b.giver.toNat:Nat):Int)=b.giver:=Int.toNat_of_nonneg g0;have et:((b.taker.toNat:Nat):Int)=b.taker:=Int.toNat_of_nonneg t0;obtain⟨vs,hv1,hv2⟩:=hWA5 b.giver.toNat gl;have hsz5:∀(j:Nat)(h:j<ia.length) vs,H5 ia[j]=some (.lst vs)→vs.length≤2*k:=fun j hj us e=>by
    obtain⟨us',h1,_⟩:=hWA j hj;have:=s5 _ _ h1;rw[e] at this;cases this;exact hsz j hj _ h1
   have vz:vs.length<sizeLine:=Zbf (by have:=hsz5 _ gl _ hv1;omega);walk_at "rds";refine⟨by show 3≤sizeLine;decide,fun t2 ht2=>?_⟩;have s6:Ze H5 (upd H5 t2 (.tup [.int b.taker,.int k,.bl true])):=Zq ht2;have ht6:(upd H5 t2 (.tup [.int b.taker,.int k,.bl true])) t2=some (.tup [.int b.taker,.int k,.bl true]):=Zd;generalize upd H5 t2 (.tup [.int b.taker,.int k,.bl true])=H6 at*;have hv6:=s6 _ _ hv1;walk_at "rds";have hWA7:=(hWA5.same s6).add hnd gl hv6 (hv2.keep fun _ _ e=>s6 _ _ e) (x:=(b.taker,(k:Int),true)) ht6;have ng:r≠ia[b.giver.toNat]:=nri _ (List.getElem_mem gl);have nug:u≠ia[b.giver.toNat]:=nui _ (List.getElem_mem gl);have hr7:(upd H6 ia[b.giver.toNat] (.lst (vs++ [.ref t2]))) r=some (.lst (ia.map V.ref)):=by rw[Zg ng];exact s6 _ _ hr5
   have hu7:(upd H6 ia[b.giver.toNat] (.lst (vs++ [.ref t2]))) u=some (.lst bs):=by rw[Zg nug];exact s6 _ _ (s5 _ _ hu4)
   have tk7:∀c xs,H6 c=some (.tup xs)→(upd H6 ia[b.giver.toNat] (.lst (vs++ [.ref t2]))) c=some (.tup xs):=fun c xs e=>by rw[Zg (Yx e hv6 (by intro z;cases z))];exact e
   have hb7:=tk7 _ _ (s6 _ _ hbt5);have hT7:Yj (upd H6 ia[b.giver.toNat] (.lst (vs++ [.ref t2]))) bs hl.belts:=((hT4.keep fun _ _ e=>s5 _ _ e).keep fun _ _ e=>s6 _ _ e).keep tk7;have sm7:Ze H (upd H6 ia[b.giver.toNat] (.lst (vs++ [.ref t2]))):=((s4.trans s5).trans s6).new (hia0 _ (List.getElem_mem gl));have hsz7:∀(j:Nat)(h:j<ia.length) us,(upd H6 ia[b.giver.toNat] (.lst (vs++ [.ref t2]))) ia[j]=some (.lst us)→us.length≤2*k+1:=fun j hj us e=>by
    by_cases z:j=b.giver.toNat
    ·subst z;rw[Zd] at e;cases e;have:=hsz5 _ gl _ hv1;simp;omega
    ·have ne:ia[j]≠ia[b.giver.toNat]:=fun y=>z (ZbA hnd hj gl y);rw[Zg ne] at e;obtain⟨us',h1,_⟩:=hWA5 j hj;have:=s6 _ _ h1;rw[e] at this;cases this;have:=hsz5 j hj _ h1;omega
   generalize upd H6 ia[b.giver.toNat] (.lst (vs++ [.ref t2]))=H7 at*;obtain⟨us,hq1,hq2⟩:=hWA7 b.taker.toNat tl;have uz:us.length<sizeLine:=Zbf (by have:=hsz7 _ tl _ hq1;omega);walk_at "rds";refine⟨by show 3≤sizeLine;decide,fun t3 ht3=>?_⟩;have s8:Ze H7 (upd H7 t3 (.tup [.int b.giver,.int k,.bl false])):=Zq ht3;have ht8:(upd H7 t3 (.tup [.int b.giver,.int k,.bl false])) t3=some (.tup [.int b.giver,.int k,.bl false]):=Zd;generalize upd H7 t3 (.tup [.int b.giver,.int k,.bl false])=H8 at*;have hq8:=s8 _ _ hq1;walk_at "rds";have hWA9:=(hWA7.same s8).add hnd tl hq8 (hq2.keep fun _ _ e=>s8 _ _ e) (x:=(b.giver,(k:Int),false)) ht8;have ng2:r≠ia[b.taker.toNat]:=nri _ (List.getElem_mem tl);have nug2:u≠ia[b.taker.toNat]:=nui _ (List.getElem_mem tl);have tk9:∀c xs,H8 c=some (.tup xs)→(upd H8 ia[b.taker.toNat] (.lst (us++ [.ref t3]))) c=some (.tup xs):=fun c xs e=>by rw[Zg (Yx e hq8 (by intro z;cases z))];exact e
   refine⟨_,_,rfl,(sm7.trans s8).new (hia0 _ (List.getElem_mem tl)),by rw[Zg nug2];exact s8 _ _ hu7,by rw[Zg ng2];exact s8 _ _ hr7,(hT7.keep fun _ _ e=>s8 _ _ e).keep tk9,?_,fun j hj ws e=>?_⟩
   ·have eW:(fun j=>(fun j=>WZ hl.belts k j++(if((b.giver.toNat:Nat):Int)=j then[(b.taker,(k:Int),true)] else[])) j++(if((b.taker.toNat:Nat):Int)=j then[(b.giver,(k:Int),false)] else[]))=WZ hl.belts (k+1):=by
     funext j
     rw[hW1 j,eg,et]
    rw[eW] at hWA9;exact hWA9
   ·by_cases z:j=b.taker.toNat
    ·subst z;rw[Zd] at e;cases e;have:=hsz7 _ tl _ hq1;simp;omega
    ·have ne:ia[j]≠ia[b.taker.toNat]:=fun y=>z (ZbA hnd hj tl y);rw[Zg ne] at e;obtain⟨us',h1,_⟩:=hWA7 j hj;have:=s8 _ _ h1;rw[e] at this;cases this;have:=hsz7 j hj _ h1;omega
  ·rintro σ H4 ⟨a1,a2,rfl,s4,hu4,hr4,hT4,hWA,hsz⟩;rw[hbl] at hWA;walk_at "rds";exact q r ia H4 hr0 s4 ⟨hr4,hil,hnd,hWA⟩
end
def Zbz{K:PySem.W.Frag}{mg:Str→Option Value}(T:Tp K mg):Sp:=fun vs H Q _=>∃(r:Addr)(ia:List Addr)(n:Nat)(W:Int→List Fo.Trip)(first:Int),vs=[.ref r,.int first]∧ZbZ H r ia n W∧n≤1000∧(∀a,∀t∈W a,0≤t.1∧t.1<(n:Int))∧0≤first∧first<(n:Int)∧
 ∀(d:Addr)(H':Hp)(tr:Fo.ZQ),H d=none→Ze H H'→Vo H' d tr→Fo.Y2 W first tr→Fo.UN W tr tr.length→Q (.ref d) H'
section
variable {P:Program}{w:World}{K:PySem.W.Frag}{mg:Str→Option Value}{base:Heap}
theorem ZfE(T:Tp K mg):Zk P w K mg base (CXX P w) 1 T.f_tree_from T.d_tree_from ["ways","first"] (Zbz T):=by
 refine T.F_tree_from.okX Yy (fun vs H Q E h=>?_) (fun cdv A outer s H vs Q E hr h=>?_)
 ·obtain⟨r,ia,n,W,first,rfl,_⟩:=h
  rfl
 ·have hu:=hr.units;obtain⟨r,ia,n,W,first,rfl,hw,hn,hrg,f0,f1,q⟩:=h;have hil:=hw.len;refine⟨_,(Zc (Zy (i:=2) Yy.nd rfl (Or.inl rfl) (Zkk (Zjx (pv 1) Vp Zki) rfl rfl (by simp) (by decide)))
     (Zc (Zy (i:=3) Yy.nd rfl (Or.inl rfl) (Wc (Za (pv 1) Zb)))
     (Zc (Zy (i:=4) Yy.nd rfl (Or.inl rfl) Zh)
     (Zc (Zak PassesOwn.leaving (ZC Up (pv 4) (Zr (ZU (K:=K) rfl) (by rfl) T.n_len PySem.boot_len (Za (pv 3) Zb)) (ZI _)) (Zc (Zy (i:=5) Yy.nd rfl (Or.inl rfl) (Zj (Zp (K:=K) rfl) (pv 3) (pv 4) (fun _ _=>rfl)))
     (Zc (Zlu (i:=4) Yy.nd rfl (Or.inl rfl) Zh Zh5)
     (Zf (Z2 PassesOwn.leaving rfl (Z4 (K:=K) rfl (Zj (Zp (K:=K) rfl) (pv 0) (pv 5) (fun _ _=>rfl))) (YA (K:=K) (n:=3) rfl rfl (Zz (Zl (i:=6) Yy.nd rfl (Or.inl rfl)) (Zz (Zl (i:=7) Yy.nd rfl (Or.inl rfl)) (Zz (Zl (i:=8) Yy.nd rfl (Or.inl rfl)) YB)))) (Zf (ZS (ZC (ZbB hu) (pv 6) (pv 2) (by with_unfolding_all rfl)) (Zc (YZ (YT (Za (pv 5) (Za (pv 7) (Za (pv 8) Zb)))) (WJ (pv 2) (pv 6) (Zal hu)))
     (Zf (ZX (Yw (K:=K) rfl PySem.F.plainAttrs_list PySem.F.slot_list_append PySem.F.type_list_append Yg (pv 3) (Za (pv 6) Zb))))) ZH)))))))
     (Zf (Zu (pv 2))))))),?_⟩
  try dsimp only[L2.cxX,L2.ZM,L2.Zn]
  walk_at "rds";intro d hd;dsimp only[ZdF];walk_at "rds";refine⟨Zd,[(Sum.inl first,.non)],rfl,by simp,?_⟩;have hd1:(upd (upd H d (.dK [])) d (.dK (Yr [] [(Sum.inl first,.non)]))) d=some (.dK [(Sum.inl first,.non)]):=Zd;have s1:Ze H (upd (upd H d (.dK [])) d (.dK (Yr [] [(Sum.inl first,.non)]))):=(Zq hd).new hd;generalize upd (upd H d (.dK [])) d (.dK (Yr [] [(Sum.inl first,.non)]))=H1 at*;walk_at "rds";refine(fun c hc=>?_);have s2:Ze H1 (upd H1 c (.lst [V.int first])):=Zq hc;have hc2:(upd H1 c (.lst [V.int first])) c=some (.lst ((Fo.keys [(first,none)]).map V.int)):=Zd;have hd2:=s2 _ _ hd1;have hc0:H c=none:=ZG s1 hc;have ncd:c≠d:=fun z=>by rw[z,hd1] at hc;cases hc
  generalize upd H1 c (.lst [V.int first])=H2 at*;have s02:=s1.trans s2;have ht2:Vo H2 d [(first,none)]:=⟨_,hd2,.cons ⟨rfl,rfl⟩ .nil⟩;clear hd1 hd2 s1 s2 hc;walk_at "rds";refine Zbx (fun m σ H'=>∃(tr:Fo.ZQ)(dn:Nat)(a1 a2 a3 a4:Option V),σ=[some (.ref r),some (.int first),some (.ref d),some (.ref c),some (.int dn),a1,a2,a3,a4]∧Ze H H'∧Vo H' d tr∧H' c=some (.lst ((Fo.keys tr).map V.int))∧dn≤tr.length∧Fo.Y2 W first tr∧Fo.UN W tr dn∧m=n+1-dn) (n+1)
   ⟨[(first,none)],0,_,_,_,_,rfl,s02,ht2,hc2,Nat.zero_le _,Fo.Zir,fun j w s hj=>absurd hj (Nat.not_lt_zero _),rfl⟩ ?_
  rintro m σ H3 ⟨tr,dn,a1,a2,a3,a4,rfl,s3,ht3,hc3,hdn,hg,hgo,rfl⟩;have hkl:((Fo.keys tr).map V.int).length=tr.length:=by simp[Fo.keys]
  have htn:tr.length≤n:=by
   have:=Fo.Vm (n:=n) hg.nodup (hg.rg ⟨f0,f1⟩ hrg);simpa[Fo.keys] using this
  walk_at "rds";rw[hkl];refine Rd.ifD (fun z=>?_) (fun z=>?_)
  ·have hdl:dn<tr.length:=by omega
   obtain⟨⟨w,st⟩,ew⟩:∃x,tr[dn]? =some x:=⟨tr[dn],List.getElem?_eq_getElem hdl⟩;have hwk:=Fo.ZcX ew;obtain⟨w0,w1⟩:=hg.rg ⟨f0,f1⟩ hrg w hwk;have at1:atI ((Fo.keys tr).map V.int) (dn:Int)=some (.int w):=Yu (by rw[List.getElem?_map];unfold Fo.keys;rw[List.getElem?_map,ew];rfl);have hwl:w.toNat<ia.length:=by omega
   have atw:=ZdS w0 hwl;have hw3:=hw.same s3;have hwr:=hw3.at_;obtain⟨vs,hv0,hv1⟩:=hw.wa w.toNat hwl;rw[Int.toNat_of_nonneg w0] at hv1;have hv3:=s3 _ _ hv0;have hvl:=hv1.length;refine Zdz ?_;walk_at "rds";refine⟨_,rfl,?_⟩;walk_at "rds";refine WS (ZZ (SqL.of hv0)) (fun j σ H'=>∃(tr:Fo.ZQ)(a2 a3 a4:Option V),σ=[some (.ref r),some (.int first),some (.ref d),some (.ref c),some (.int (dn+1)),some (.int w),a2,a3,a4]∧Ze H H'∧Vo H' d tr∧H' c=some (.lst ((Fo.keys tr).map V.int))∧Fo.Y2 W first tr∧Fo.UN W tr dn∧tr[dn]? =some (w,st)∧∀t∈(W w).take j,t.1∈Fo.keys tr)
    ⟨tr,_,_,_,rfl,s3,ht3,hc3,hg,hgo,ew,by simp⟩ (fun j σ H' ⟨_,_,_,_,_,s,_⟩=>s) ?_ ?_
   ·rintro j σ H4 hj ⟨tr,a2,a3,a4,rfl,s4,⟨kvs,hd4,hen⟩,hc4,hg,hgo,ew,hall⟩;have hjl:j<(W w).length:=by omega
    obtain⟨t,ht1,ht4⟩:=hv1.at (List.getElem?_eq_getElem hjl);have eb:vs.getD j .non= .ref t:=by simp[List.getD,ht1]
    rw[eb];have hmem:(W w)[j]∈W w:=List.getElem_mem hjl;have htk:(W w).take (j+1)=(W w).take j++ [(W w)[j]]:=List.take_succ_eq_append_getElem hjl;have ht5:=s4 _ _ ht4;have hrr:=hrg w _ hmem;generalize (W w)[j]=x at*;obtain⟨o,b,al⟩:=x;refine Rd.Vj (.of ht5) rfl ?_;dsimp only at*;have htn:tr.length≤n:=by
     have:=Fo.Vm (n:=n) hg.nodup (hg.rg ⟨f0,f1⟩ hrg);simpa[Fo.keys] using this
    have hkz:kvs.length<sizeLine:=Zx (by rw[hen.length];omega);have hcz:((Fo.keys tr).map V.int).length<sizeLine:=Zx (by simp[Fo.keys];omega);walk_at "rds";have hs:=hen.some (w:=o)
    by_cases ho:o∈Fo.keys tr
    ·rw[hs.mpr ho];walk_at "rds";refine⟨tr,_,_,_,rfl,s4,⟨kvs,hd4,hen⟩,hc4,hg,hgo,ew,?_⟩;rw[htk];intro t' ht';rcases List.mem_append.mp ht' with y|y
     ·exact hall t' y
     ·rw[List.mem_singleton.mp y];exact ho
    ·have hno:valV kvs (Sum.inl o)=none:=by
      cases e:valV kvs (Sum.inl o) with
      |none=>rfl
      |some v=>exact absurd (hs.mp (by rw[e];rfl)) ho
     rw[hno,Option.isSome_none];walk_at "rds";refine⟨by show 3≤sizeLine;decide,fun t2 ht2=>?_⟩;have s5:Ze H4 (upd H4 t2 (.tup [.int w,.int b,.bl al])):=Zq ht2;have hn5:(upd H4 t2 (.tup [.int w,.int b,.bl al])) t2=some (.tup [.int w,.int b,.bl al]):=Zd;have hd5:=s5 _ _ hd4;have hc5:=s5 _ _ hc4;have hen5:Ent (upd H4 t2 (.tup [.int w,.int b,.bl al])) kvs tr:=hen.keep fun _ _ e=>s5 _ _ e;generalize upd H4 t2 (.tup [.int w,.int b,.bl al])=H5 at*;walk_at "rds";rw[VC _ hno];have tk6:∀a xs,H5 a=some (.tup xs)→(upd H5 d (.dK (kvs++ [(Sum.inl o,.ref t2)]))) a=some (.tup xs):=fun a xs e=>by rw[Zg (Yx e hd5 (by intro z;cases z))];exact e
     have hc6:(upd H5 d (.dK (kvs++ [(Sum.inl o,.ref t2)]))) c=some (.lst ((Fo.keys tr).map V.int)):=by rw[Zg ncd];exact hc5
     have hd6:(upd H5 d (.dK (kvs++ [(Sum.inl o,.ref t2)]))) d=some (.dK (kvs++ [(Sum.inl o,.ref t2)])):=Zd;have hen6:=(hen5.keep tk6).snoc (w:=o) (v:= .ref t2) (s:=some (w,b,al)) ⟨t2,rfl,tk6 _ _ hn5⟩;have s6:Ze H (upd H5 d (.dK (kvs++ [(Sum.inl o,.ref t2)]))):=(s4.trans s5).new hd;generalize upd H5 d (.dK (kvs++ [(Sum.inl o,.ref t2)]))=H6 at*;walk_at "rds";have hdl2:=(List.getElem?_eq_some_iff.mp ew).1;refine⟨tr++ [(o,some (w,b,al))],_,_,_,rfl,s6.new hc0,⟨_,by rw[Zg ncd.symm];exact hd6,hen6.keep fun a xs e=>by rw[Zg (Yx e hc6 (by intro z;cases z))];exact e⟩,?_,hg.snoc ew hmem ho,hgo.snoc (by omega) _ _,Fo.Zcj ew,?_⟩
     ·rw[Zd,Fo.Zaw,List.map_append];rfl
     ·rw[htk,Fo.Zaw];intro t' ht';rcases List.mem_append.mp ht' with y|y
      ·exact List.mem_append_left _ (hall t' y)
      ·rw[List.mem_singleton.mp y];exact List.mem_append_right _ (List.mem_singleton.mpr rfl)
   ·rintro σ H4 ⟨tr,a2,a3,a4,rfl,s4,ht4,hc4,hg,hgo,ew,hall⟩;rw[←hvl,List.take_length] at hall;have hdl2:=(List.getElem?_eq_some_iff.mp ew).1;walk_at "rds";exact⟨n+1-(dn+1),by omega,tr,dn+1,_,_,_,_,rfl,s4,ht4,hc4,hdl2,hg,hgo.next ew hall,rfl⟩
  ·have e:dn=tr.length:=by omega
   subst e;walk_at "rds";exact q d H3 tr hd s3 ht3 hg hgo
end
def ZbU{K:PySem.W.Frag}{mg:Str→Option Value}(T:Tp K mg):Sp:=fun vs H Q _=>∃(p:Addr)(hl:HM)(fp:List Addr),vs=[.ref p]∧ZE T H p hl fp∧hl.names.length≤60∧hl.belts.length≤1000∧ZK hl.belts hl.names.length∧
 ∀(f:Addr)(ds:List Addr)(H':Hp)(F:List (Int×Fo.ZQ)),H f=none→Ze H H'→ZjD H' f ds F→(∀d∈ds,H d=none)→Fo.Vf (YG hl.belts) hl.names.length F hl.names.length→F.length≤hl.names.length→Q (.ref f) H'
section
variable {P:Program}{w:World}{K:PySem.W.Frag}{mg:Str→Option Value}{base:Heap}
theorem Zfs(T:Tp K mg):Zk P w K mg base (CXX P w) 3 T.f_forest_of T.d_forest_of ["hall"] (ZbU T):=by
 have G_ways_of:Zk P w K mg base (CXX P w) 2 T.f_ways_of T.d_ways_of ["hall"] (Zc9 T):=(ZhE T).mono (by decide);have G_tree_from:Zk P w K mg base (CXX P w) 2 T.f_tree_from T.d_tree_from ["ways","first"] (Zbz T):=(ZfE T).mono (by decide);refine T.F_forest_of.okX Wz (fun vs H Q E h=>?_) (fun cdv A outer s H vs Q E hr h=>?_)
 ·obtain⟨p,hl,fp,rfl,_⟩:=h
  rfl
 ·have hu:=hr.units;obtain⟨p,hl,fp,rfl,hh,hn,hz,hbt,q⟩:=h;refine⟨_,(Zc (Zy (i:=1) Wz.nd rfl (Or.inl rfl) (Zv G_ways_of hr rfl T.m_ways_of T.F_ways_of.kp T.b_ways_of .nil Zm (Za (pv 0) Zb)))
     (Zc (Zy (i:=2) Wz.nd rfl (Or.inl rfl) Zaf)
     (Zc (Zy (i:=3) Wz.nd rfl (Or.inl rfl) (Wc Zb))
     (Zc (Z2 PassesOwn.leaving rfl (ZW rfl T.n_range (Za (Zr (ZU (K:=K) rfl) (by rfl) T.n_len PySem.boot_len (Za (pv 1) Zb)) Zb)) (Zl (i:=4) Wz.nd rfl (Or.inl rfl)) (Zf (ZS (ZC (ZbB hu) (pv 4) (pv 2) (by with_unfolding_all rfl)) (Zc (Zy (i:=5) Wz.nd rfl (Or.inl rfl) (Zv G_tree_from hr rfl T.m_tree_from T.F_tree_from.kp T.b_tree_from .nil Zm (Za (pv 1) (Za (pv 4) Zb))))
     (Zc (ZX (Yw (K:=K) rfl PySem.F.plainAttrs_dict PySem.F.slot_dict_update PySem.F.type_dict_update ZkO (pv 2) (Za (pv 5) Zb)))
     (Zf (ZX (Yw (K:=K) rfl PySem.F.plainAttrs_list PySem.F.slot_list_append PySem.F.type_list_append Yg (pv 3) (Za (pv 5) Zb)))))) ZH)))
     (Zf (Zu (pv 3))))))),?_⟩
  try dsimp only[L2.cxX,L2.ZM,L2.Zn]
  walk_at "rds";refine⟨p,hl,fp,rfl,hh,by omega,hz,hbt,fun r ia H1 hr s1 hw1=>?_⟩;walk_at "rds";intro se hse;have s2:Ze H1 (upd H1 se (.dK [])):=Zq hse;have hs2:(upd H1 se (.dK [])) se=some (.dK []):=Zd;have hse0:H se=none:=ZG s1 hse;generalize upd H1 se (.dK [])=H2 at*;walk_at "rds";refine⟨Nat.zero_le _,fun f hf=>?_⟩;have s3:Ze H2 (upd H2 f (.lst [])):=Zq hf;have hf3:(upd H2 f (.lst [])) f=some (.lst (([]:List Addr).map V.ref)):=Zd;have hs3:=s3 _ _ hs2;have hf1:H1 f=none:=ZG s2 hf;have hf0:H f=none:=ZG s1 hf1;generalize upd H2 f (.lst [])=H3 at*;have s13:=s2.trans s3;have hw3:=hw1.same s13;have hwr:=hw3.at_;have hwl:((ia.map V.ref).length:Int)=(hl.names.length:Int):=by rw[List.length_map,hw1.len]
  walk_at "rds";rw[hwl];refine Yl (n:=hl.names.length) (fun i σ H'=>∃(kvs:List (Key×V))(ds:List Addr)(F:List (Int×Fo.ZQ))(a1 a2:Option V),σ=[some (.ref p),some (.ref r),some (.ref se),some (.ref f),a1,a2]∧Ze H1 H'∧H' se=some (.dK kvs)∧H' f=some (.lst (ds.map V.ref))∧We H' ds F∧
   (∀d∈ds,d≠se∧H d=none)∧kvs.length≤60*i∧(∀w:Int,(valV kvs (Sum.inl w)).isSome=true↔∃x∈F,w∈Fo.keys x.2)∧Fo.Vf (YG hl.belts) hl.names.length F i∧F.length≤i)
   ⟨[],[],[],_,_,rfl,s13,hs3,hf3,.nil,by simp,Nat.zero_le _,fun w=>⟨fun z=>(by cases z),fun⟨x,hx,_⟩=>(by cases hx)⟩,Fo.Zjg,Nat.le_refl _⟩ ?_ ?_
  ·rintro i σ H4 hi ⟨kvs,ds,F,a1,a2,rfl,s4,hs4,hf4,hT4,hds,hkl,hin,hwd,hFl⟩;rw[Int.zero_add];walk_at "rds";have hs:=hin (i:Int)
   by_cases hx:∃x∈F,(i:Int)∈Fo.keys x.2
   ·rw[hs.mpr hx];walk_at "rds";exact⟨kvs,ds,F,_,_,rfl,s4,hs4,hf4,hT4,hds,by omega,hin,hwd.skip hx,by omega⟩
   ·have hno:(valV kvs (Sum.inl (i:Int))).isSome=false:=by
     cases e:(valV kvs (Sum.inl (i:Int))).isSome with
     |false=>rfl
     |true=>exact absurd (hs.mp e) hx
    rw[hno];walk_at "rds";refine⟨r,ia,hl.names.length,YG hl.belts,(i:Int),rfl,hw1.same s4,by omega,U4 hbt,by omega,by omega,fun d H5 tr hd0 s5 ht5 hg hgo=>?_⟩;obtain⟨more,hd5,hen⟩:=id ht5;have nds:se≠d:=Zo hs4 hd0;have hs5:=s5 _ _ hs4;have hf5:=s5 _ _ hf4;have hT5:=hT4.same s5;have hrg5:=hg.rg (n:=(hl.names.length:Int)) ⟨by omega,by omega⟩ (U4 hbt);have htl:tr.length≤hl.names.length:=by
     have:=Fo.Vm (n:=hl.names.length) hg.nodup hrg5;simpa[Fo.keys] using this
    have hml:more.length≤60:=by rw[hen.length];omega
    walk_at "rds";refine⟨.inr (.inr (.inl ⟨rfl,.inl ⟨_,hs5⟩⟩)),?_⟩;walk_at "rds";refine Rd.Zm6 nds hs5 hd5 (Nat.le_of_lt (Zbf (by omega))) ?_;have hme:=Zc8 more kvs;have hmk:=Vu more kvs;have tk6:∀a xs,H5 a=some (.tup xs)→(upd H5 se (.dK (Yr kvs more))) a=some (.tup xs):=fun a xs e=>by rw[Zg (Yx e hs5 (by intro z;cases z))];exact e
    have hs6:(upd H5 se (.dK (Yr kvs more))) se=some (.dK (Yr kvs more)):=Zd;have hf6:(upd H5 se (.dK (Yr kvs more))) f=some (.lst (ds.map V.ref)):=by rw[Zg (Yx hf5 hs5 (by intro z;cases z))];exact hf5
    have hd6:Vo (upd H5 se (.dK (Yr kvs more))) d tr:=⟨more,by rw[Zg nds.symm];exact hd5,hen.keep tk6⟩;have hT6:We (upd H5 se (.dK (Yr kvs more))) ds F:=hT5.keep tk6 (fun d' hd' ks e=>by rw[Zg (hds d' hd').1];exact e);have s6:Ze H1 (upd H5 se (.dK (Yr kvs more))):=(s4.trans s5).new hse;generalize upd H5 se (.dK (Yr kvs more))=H6 at*;have hdz:(ds.map V.ref).length<sizeLine:=Zx (by rw[List.length_map,hT4.length];omega);walk_at "rds";have tk7:∀a xs,H6 a=some (.tup xs)→(upd H6 f (.lst (ds.map V.ref++ [.ref d]))) a=some (.tup xs):=fun a xs e=>by rw[Zg (Yx e hf6 (by intro z;cases z))];exact e
    have dk7:∀a ks,H6 a=some (.dK ks)→(upd H6 f (.lst (ds.map V.ref++ [.ref d]))) a=some (.dK ks):=fun a ks e=>by rw[Zg (Yx e hf6 (by intro z;cases z))];exact e
    obtain⟨more',hd6',hen6⟩:=hd6;refine⟨Yr kvs more,ds++ [d],F++ [((i:Int),tr)],_,_,rfl,s6.new hf1,dk7 _ _ hs6,by rw[Zd,List.map_append];rfl,(hT6.keep tk7 fun d' _ ks e=>dk7 _ _ e).snoc ⟨more',dk7 _ _ hd6',hen6.keep tk7⟩,fun d' hd'=>?_,by omega,fun w=>?_,hwd.grow (ZaB _) (U4 hbt) hi (fun x hx' hk=>hx ⟨x,hx',hk⟩) hg hgo,by simp;omega⟩
    ·rcases List.mem_append.mp hd' with z|z
     ·exact hds d' z
     ·rw[List.mem_singleton.mp z];exact⟨nds.symm,ZG (s1.trans s4) hd0⟩
    ·rw[hme,Bool.or_eq_true,hin w,hen.some]
     constructor
     ·rintro(⟨x,hx1,hx2⟩|z)
      ·exact⟨x,List.mem_append_left _ hx1,hx2⟩
      ·exact⟨_,List.mem_append_right _ (List.mem_singleton.mpr rfl),z⟩
     ·rintro⟨x,hx1,hx2⟩;rcases List.mem_append.mp hx1 with z|z
      ·exact .inl ⟨x,z,hx2⟩
      ·rw[List.mem_singleton.mp z] at hx2;exact .inr hx2
  ·rintro σ H4 ⟨kvs,ds,F,a1,a2,rfl,s4,hs4,hf4,hT4,hds,hkl,hin,hwd,hFl⟩;walk_at "rds";exact q f ds H4 F hf0 (s1.trans s4) ⟨hf4,hT4⟩ (fun d hd=>(hds d hd).2) hwd hFl
end
def Uc{K:PySem.W.Frag}{mg:Str→Option Value}(T:Tp K mg):Sp:=fun vs H Q _=>∃a b:Nat,vs=[.int a,.int b]∧Q (.int (Nat.gcd a b:Nat)) H
theorem Zhn{K:PySem.W.Frag}{mg:Str→Option Value}{T:Tp K mg}{H:Hp}{Q:VK}{E:XK}{a b:Nat}(q:Q (.int (Nat.gcd a b:Nat)) H):Uc T ([.int a,.int b]++ []) H Q E:=⟨a,b,rfl,q⟩
local macro_rules| `(tactic|walk_at "rd")=>`(tactic|first|((with_reducible show Nm.Uc _ _ _ _ _);with_reducible refine Nm.Zhn ?_)|fail "none here")
section
variable {P:Program}{w:World}{K:PySem.W.Frag}{mg:Str→Option Value}{base:Heap}
theorem Zdy(T:Tp K mg):Zk P w K mg base (CXX P w) 1 T.f_divisor T.d_divisor ["one","other"] (Uc T):=by
 refine T.F_divisor.okX UX (fun vs H Q E h=>?_) (fun cdv A outer s H vs Q E hr h=>?_)
 ·obtain⟨a,b,rfl,_⟩:=h
  rfl
 ·have hu:=hr.units;obtain⟨a0,b0,rfl,q⟩:=h;rw[←My.Zdt] at q;refine⟨_,(Zc (Zak PassesOwn.leaving (ZC ZeO (pv 1) Zh (ZI _)) (Zc (Zy (i:=2) UX.nd rfl (Or.inl rfl) (Zs Yi (pv 0) (pv 1)))
     (Zc (Zy (i:=0) UX.nd rfl (Or.inl rfl) (pv 1))
     (Zf (Zy (i:=1) UX.nd rfl (Or.inl rfl) (pv 2))))))
     (Zf (Zu (pv 0)))),?_⟩
  try dsimp only[L2.cxX,L2.ZM,L2.Zn]
  walk_at "rd";refine Zbx (fun m σ H'=>H'=H∧∃(x y:Int)(r:Option V),m=y.toNat∧σ=[some (.int x),some (.int y),r]∧0≤x∧0≤y∧My.G x y=My.G a0 b0) _ ⟨rfl,a0,b0,none,rfl,rfl,by omega,by omega,rfl⟩ ?_;rintro m σ H' ⟨rfl,x,y,r,rfl,rfl,hx,hy,hG⟩;walk_at "rds";refine VB (fun c=>Zdz ?_) (fun c=>?_)
  ·have hy0:0<y:=of_decide_eq_true c;walk_at "rds";exact⟨_,(by have:=Int.emod_nonneg x (show y≠0 by omega);have:=Int.emod_lt_of_pos x hy0;omega),rfl,y,x % y,some (.int (x % y)),rfl,rfl,hy,Int.emod_nonneg x (by omega),(ZgC hx hy0).trans hG⟩
  ·have hy0:¬0<y:=fun z=>c (decide_eq_true z);have e:x=My.G a0 b0:=by rw[←hG,My.ZhQ hx (show y=0 by omega)]
   walk_at "rds";rw[e];exact q
end
def ZcT{K:PySem.W.Frag}{mg:Str→Option Value}(T:Tp K mg):Sp:=fun vs H Q _=>∃a b:Nat,vs=[.int a,.int b]∧0<b∧b<2 ^ 8000∧∀(p:Addr)(H':Hp),H p=none→Ze H H'→H' p=some (.tup [.int (a / Nat.gcd a b:Nat),.int (b / Nat.gcd a b:Nat)])→Q (.ref p) H'
section
variable {P:Program}{w:World}{K:PySem.W.Frag}{mg:Str→Option Value}{base:Heap}
theorem ZfQ(T:Tp K mg):Zk P w K mg base (CXX P w) 2 T.f_ratio T.d_ratio ["top","bottom"] (ZcT T):=by
 have G_divisor:Zk P w K mg base (CXX P w) 1 T.f_divisor T.d_divisor ["one","other"] (Uc T):=(Zdy T).mono (by decide);refine T.F_ratio.okX Ze5 (fun vs H Q E h=>?_) (fun cdv A outer s H vs Q E hr h=>?_)
 ·obtain⟨a,b,rfl,_⟩:=h
  rfl
 ·have hu:=hr.units;obtain⟨a,b,rfl,b0,b1,q⟩:=h;have gp:0<Nat.gcd a b:=Nat.gcd_pos_of_pos_right _ b0;have gl:Nat.gcd a b<2 ^ 8000:=Nat.lt_of_le_of_lt (Nat.le_of_dvd b0 (Nat.gcd_dvd_right a b)) b1;have dg:=ZdY (a:=a) gp gl;refine⟨_,(Zc (Zy (i:=2) Ze5.nd rfl (Or.inl rfl) (Zv G_divisor hr rfl T.m_divisor T.F_divisor.kp T.b_divisor .nil Zm (Za (pv 0) (Za (pv 1) Zb))))
     (Zf (Zu (YT (Za (Zs Z5 (pv 0) (pv 2)) (Za (Zs Z5 (pv 1) (pv 2)) Zb)))))),?_⟩
  try dsimp only[L2.cxX,L2.ZM,L2.Zn]
  walk_at "rds";refine⟨by show 2≤sizeLine;decide,fun p hp=>?_⟩;exact q p _ hp (Zq hp) Zd
end
def Zfm{K:PySem.W.Frag}{mg:Str→Option Value}(T:Tp K mg):Sp:=fun vs H Q _=>∃(p q:Addr)(x y u v n m:Nat),vs=[.ref p,.ref q]∧H p=some (.tup [.int x,.int y])∧H q=some (.tup [.int u,.int v])∧0<y∧0<v∧x<2 ^ n∧y<2 ^ n∧u<2 ^ m∧v<2 ^ m∧n+m≤8000∧
 ∀(r:Addr)(H':Hp),H r=none→Ze H H'→H' r=some (.tup [.int (x*u / Nat.gcd (x*u) (y*v):Nat),.int (y*v / Nat.gcd (x*u) (y*v):Nat)])→Q (.ref r) H'
section
variable {P:Program}{w:World}{K:PySem.W.Frag}{mg:Str→Option Value}{base:Heap}
theorem Zje(T:Tp K mg):Zk P w K mg base (CXX P w) 3 T.f_times T.d_times ["one","other"] (Zfm T):=by
 have G_ratio:Zk P w K mg base (CXX P w) 2 T.f_ratio T.d_ratio ["top","bottom"] (ZcT T):=(ZfQ T).mono (by decide);refine T.F_times.okX ZjQ (fun vs H Q E h=>?_) (fun cdv A outer s H vs Q E hr h=>?_)
 ·obtain⟨p,q,x,y,u,v,n,m,rfl,_⟩:=h
  rfl
 ·have hu:=hr.units;obtain⟨p,q,x,y,u,v,n,m,rfl,h1,h2,y0,v0,xs,ys,us,vs',nm,k⟩:=h;have m1:=Vx xs us (by omega);have m2:=Vx ys vs' (by omega);refine⟨_,(Zf (Zu (Zv G_ratio hr rfl T.m_ratio T.F_ratio.kp T.b_ratio .nil Zm (Za (Zs Yo (Zj (Zp (K:=K) rfl) (pv 0) Zh (fun _ _=>rfl)) (Zj (Zp (K:=K) rfl) (pv 1) Zh (fun _ _=>rfl))) (Za (Zs Yo (Zj (Zp (K:=K) rfl) (pv 0) Zh (fun _ _=>rfl)) (Zj (Zp (K:=K) rfl) (pv 1) Zh (fun _ _=>rfl))) Zb))))),?_⟩
  try dsimp only[L2.cxX,L2.ZM,L2.Zn]
  walk_at "rds";exact⟨x*u,y*v,rfl,Nat.mul_pos y0 v0,Nat.lt_of_lt_of_le (VT ys vs') (Nat.pow_le_pow_right (by decide) nm),k⟩
end
structure Zmt(b:B5)(gv tk:Nat):Prop where
 g:b.give=(gv:Int)
 t:b.take=(tk:Int)
 g0:0<gv
 t0:0<tk
 gl:gv<2 ^ 110
 tl:tk<2 ^ 110
def ZgD{K:PySem.W.Frag}{mg:Str→Option Value}(T:Tp K mg):Sp:=fun vs H Q _=>∃(t:Addr)(b:B5)(al:Bool)(gv tk:Nat),vs=[.ref t,.bl al]∧H t=some (.tup b.v)∧Zmt b gv tk∧
 ∀(p:Addr)(H':Hp)(x y:Nat),H p=none→Ze H H'→H' p=some (.tup [.int x,.int y])→(if al=true then x=gv / Nat.gcd gv tk∧y=tk / Nat.gcd gv tk else x=tk / Nat.gcd tk gv∧y=gv / Nat.gcd tk gv)→Q (.ref p) H'
section
variable {P:Program}{w:World}{K:PySem.W.Frag}{mg:Str→Option Value}{base:Heap}
theorem Zkh(T:Tp K mg):Zk P w K mg base (CXX P w) 3 T.f_gain T.d_gain ["row","along"] (ZgD T):=by
 have G_ratio:Zk P w K mg base (CXX P w) 2 T.f_ratio T.d_ratio ["top","bottom"] (ZcT T):=(ZfQ T).mono (by decide);refine T.F_gain.okX ZkJ (fun vs H Q E h=>?_) (fun cdv A outer s H vs Q E hr h=>?_)
 ·obtain⟨t,b,al,gv,tk,rfl,_⟩:=h
  rfl
 ·have hu:=hr.units;obtain⟨t,b,al,gv,tk,rfl,ht,sz,q⟩:=h;obtain⟨g,tt,g0,t0,gl,tl⟩:=sz;dsimp only[B5.v] at ht;rw[g,tt] at ht;have big:(2:Nat) ^ 110≤2 ^ 8000:=Nat.pow_le_pow_right (by decide) (by decide);refine⟨_,(Zf (Zu (ZjT (Yf (K:=K) rfl (pv 1) (fun _=>rfl)) (Zv G_ratio hr rfl T.m_ratio T.F_ratio.kp T.b_ratio .nil Zm (Za (Zj (Zp (K:=K) rfl) (pv 0) Zh (fun _ _=>rfl)) (Za (Zj (Zp (K:=K) rfl) (pv 0) Zh (fun _ _=>rfl)) Zb))) (Zv G_ratio hr rfl T.m_ratio T.F_ratio.kp T.b_ratio .nil Zm (Za (Zj (Zp (K:=K) rfl) (pv 0) Zh (fun _ _=>rfl)) (Za (Zj (Zp (K:=K) rfl) (pv 0) Zh (fun _ _=>rfl)) Zb)))))),?_⟩
  try dsimp only[L2.cxX,L2.ZM,L2.Zn]
  walk_at "rds";unfold tIf;walk_at "rds";cases al with
  |true=>
   walk_at "rds";exact⟨gv,tk,rfl,t0,Nat.lt_of_lt_of_le tl big,fun p H' hp s h=>q p H' _ _ hp s h ⟨rfl,rfl⟩⟩
  |false=>
   walk_at "rds";exact⟨tk,gv,rfl,g0,Nat.lt_of_lt_of_le gl big,fun p H' hp s h=>q p H' _ _ hp s h ⟨rfl,rfl⟩⟩
end
def Us{K:PySem.W.Frag}{mg:Str→Option Value}(T:Tp K mg):Sp:=fun vs H Q _=>∃i:Int,vs=[.int i]∧Q (.bl true) H
theorem ZfW{K:PySem.W.Frag}{mg:Str→Option Value}{T:Tp K mg}{H:Hp}{Q:VK}{E:XK}{i:Int}(q:Q (.bl true) H):Us T ([.int i]++ []) H Q E:=⟨i,rfl,q⟩
local macro_rules| `(tactic|walk_at "rd")=>`(tactic|first|((with_reducible show Nm.Us _ _ _ _ _);with_reducible refine Nm.ZfW ?_)|fail "none here")
section
variable {P:Program}{w:World}{K:PySem.W.Frag}{mg:Str→Option Value}{base:Heap}
theorem Zf2(T:Tp K mg):Zk P w K mg base (CXX P w) 1 T.f_is_whole T.d_is_whole ["thing"] (Us T):=by
 refine T.F_is_whole.okX Zf3 (fun vs H Q E h=>?_) (fun cdv A outer s H vs Q E hr h=>?_)
 ·obtain⟨i,rfl,_⟩:=h
  rfl
 ·have hu:=hr.units;obtain⟨i,rfl,q⟩:=h;refine⟨_,(Zf (Zu (Zdc (Zr (Vt (K:=K) rfl) (by rfl) T.n_isinstance PyProof.Rows.boot_isinstance (Za (pv 0) (Za (Wh (v:= .ty "int") (by rfl) T.n_int PyProof.Rows.boot_int rfl) Zb))) (Zda (Zli (Zr (Vt (K:=K) rfl) (by rfl) T.n_isinstance PyProof.Rows.boot_isinstance (Za (pv 0) (Za (Wh (v:= .ty "bool") (by rfl) T.n_bool PyProof.Rows.boot_bool rfl) Zb)))))))),?_⟩
  try dsimp only[L2.cxX,L2.ZM,L2.Zn]
  walk_at "rds";exact q
end
def Vd{K:PySem.W.Frag}{mg:Str→Option Value}(T:Tp K mg):Sp:=fun vs H Q _=>∃i l:Int,vs=[.int i,.int l]∧Q (.bl (decide (l≤i))) H
theorem Zhy{K:PySem.W.Frag}{mg:Str→Option Value}{T:Tp K mg}{H:Hp}{Q:VK}{E:XK}{i l:Int}(q:Q (.bl (decide (l≤i))) H):Vd T ([.int i,.int l]++ []) H Q E:=⟨i,l,rfl,q⟩
local macro_rules| `(tactic|walk_at "rd")=>`(tactic|first|((with_reducible show Nm.Vd _ _ _ _ _);with_reducible refine Nm.Zhy ?_)|fail "none here")
section
variable {P:Program}{w:World}{K:PySem.W.Frag}{mg:Str→Option Value}{base:Heap}
theorem Zbm(T:Tp K mg):Zk P w K mg base (CXX P w) 2 T.f_is_from T.d_is_from ["thing","least"] (Vd T):=by
 have G_is_whole:Zk P w K mg base (CXX P w) 1 T.f_is_whole T.d_is_whole ["thing"] (Us T):=(Zf2 T).mono (by decide);refine T.F_is_from.okX Zg4 (fun vs H Q E h=>?_) (fun cdv A outer s H vs Q E hr h=>?_)
 ·obtain⟨i,l,rfl,_⟩:=h
  rfl
 ·have hu:=hr.units;obtain⟨i,l,rfl,q⟩:=h;refine⟨_,(Zf (Zu (Zdc (Zv G_is_whole hr rfl T.m_is_whole T.F_is_whole.kp T.b_is_whole .nil Zm (Za (pv 0) Zb)) (Zda (VG Zcg (pv 0) (pv 1) (ZI _)))))),?_⟩
  try dsimp only[L2.cxX,L2.ZM,L2.Zn]
  walk_at "rds";exact q
end
def YO{K:PySem.W.Frag}{mg:Str→Option Value}(T:Tp K mg):Sp:=fun vs H Q _=>∃i b:Int,vs=[.int i,.int b]∧Q (.bl (decide (0≤i∧i<b))) H
theorem ZbE{K:PySem.W.Frag}{mg:Str→Option Value}{T:Tp K mg}{H:Hp}{Q:VK}{E:XK}{i b:Int}(q:Q (.bl (decide (0≤i∧i<b))) H):YO T ([.int i,.int b]++ []) H Q E:=⟨i,b,rfl,q⟩
local macro_rules| `(tactic|walk_at "rd")=>`(tactic|first|((with_reducible show Nm.YO _ _ _ _ _);with_reducible refine Nm.ZbE ?_)|fail "none here")
section
variable {P:Program}{w:World}{K:PySem.W.Frag}{mg:Str→Option Value}{base:Heap}
theorem UH(T:Tp K mg):Zk P w K mg base (CXX P w) 3 T.f_is_number_below T.d_is_number_below ["thing","bound"] (YO T):=by
 have G_is_from:Zk P w K mg base (CXX P w) 2 T.f_is_from T.d_is_from ["thing","least"] (Vd T):=(Zbm T).mono (by decide);refine T.F_is_number_below.okX ZbP (fun vs H Q E h=>?_) (fun cdv A outer s H vs Q E hr h=>?_)
 ·obtain⟨i,b,rfl,_⟩:=h
  rfl
 ·have hu:=hr.units;obtain⟨i,b,rfl,q⟩:=h;refine⟨_,(Zf (Zu (Zdc (Zv G_is_from hr rfl T.m_is_from T.F_is_from.kp T.b_is_from .nil Zm (Za (pv 0) (Za Zh Zb))) (Zda (VG Up (pv 0) (pv 1) (ZI _)))))),?_⟩
  try dsimp only[L2.cxX,L2.ZM,L2.Zn]
  walk_at "rds";refine VB (fun c=>?_) (fun c=>?_)
  ·have c':0≤i:=of_decide_eq_true c;walk_at "rds";have e:decide (i<b)=decide (0≤i∧i<b):=by rw[decide_eq_decide];exact⟨fun z=>⟨c',z⟩,fun z=>z.2⟩
   rw[e];exact q
  ·have c':¬0≤i:=fun z=>c (decide_eq_true z);walk_at "rds";have e:false=decide (0≤i∧i<b):=(decide_eq_false (fun z=>c' z.1)).symm;rw[e];exact q
end
def Vg{K:PySem.W.Frag}{mg:Str→Option Value}(T:Tp K mg):Sp:=fun vs H Q E=>∃(p:Addr)(i:Int)(hl:HM)(fp:List Addr),vs=[.ref p,.int i]∧ZE T H p hl fp∧
 (¬(0≤i∧i<hl.belts.length)→E (.ref T.X_NoBelt) none H)∧(0≤i→i<hl.belts.length→Q .non H)
section
variable {P:Program}{w:World}{K:PySem.W.Frag}{mg:Str→Option Value}{base:Heap}
theorem UR(T:Tp K mg):Zk P w K mg base (CXX P w) 4 T.f_Hall_need_belt T.d_Hall_need_belt ["self","belt"] (Vg T):=by
 have G_is_number_below:Zk P w K mg base (CXX P w) 3 T.f_is_number_below T.d_is_number_below ["thing","bound"] (YO T):=(UH T).mono (by decide);have cl_Hall:=T.cl_Hall;have na_Hall:=T.na_Hall;refine T.F_Hall_need_belt.okX Zcp (fun vs H Q E h=>?_) (fun cdv A outer s H vs Q E hr h=>?_)
 ·obtain⟨p,i,hl,fp,rfl,_⟩:=h
  rfl
 ·have hu:=hr.units;obtain⟨p,i,hl,fp,rfl,hh,e1,q⟩:=h;obtain⟨dx,a,b,bs,rfl,h1,h2,h3,h4,nab,h6⟩:=id hh;refine⟨_,(Zf (ZS (YS (Yf (K:=K) rfl (Zv G_is_number_below hr rfl T.m_is_number_below T.F_is_number_below.kp T.b_is_number_below .nil Zm (Za (pv 1) (Za (Zr (ZU (K:=K) rfl) (by rfl) T.n_len PySem.boot_len (Za (ZY (K:=K) rfl (pv 0) rfl) Zb)) Zb))) (fun _=>rfl))) (Zf (Y7 T.gx_NoBelt T.ex_NoBelt PySem.F.excBase_ValueError rfl (Za Y8 Zb))) ZH)),?_⟩
  try dsimp only[L2.cxX,L2.ZM,L2.Zn]
  walk_at "rds";rw[h6.length]
  by_cases c:0≤i∧i<hl.belts.length
  ·rw[decide_eq_true c];walk_at "rds";exact q c.1 c.2
  ·rw[decide_eq_false c];walk_at "rds";exact e1 c
end
def YV{K:PySem.W.Frag}{mg:Str→Option Value}(T:Tp K mg):Sp:=fun vs H Q E=>∃(p:Addr)(i:Int)(hl:HM)(fp:List Addr),vs=[.ref p,.int i]∧ZE T H p hl fp∧
 (¬(0≤i∧i<hl.belts.length)→E (.ref T.X_NoBelt) none H)∧(0≤i→i<hl.belts.length→∀(t:Addr)(b:B5),hl.belts[i.toNat]? =some b→H t=some (.tup b.v)→Q (.ref t) H)
section
variable {P:Program}{w:World}{K:PySem.W.Frag}{mg:Str→Option Value}{base:Heap}
theorem Wm(T:Tp K mg):Zk P w K mg base (CXX P w) 5 T.f_Hall_belt_at T.d_Hall_belt_at ["self","belt"] (YV T):=by
 have G_Hall_need_belt:Zk P w K mg base (CXX P w) 4 T.f_Hall_need_belt T.d_Hall_need_belt ["self","belt"] (Vg T):=(UR T).mono (by decide);have cl_Hall:=T.cl_Hall;have na_Hall:=T.na_Hall;refine T.F_Hall_belt_at.okX Zc6 (fun vs H Q E h=>?_) (fun cdv A outer s H vs Q E hr h=>?_)
 ·obtain⟨p,i,hl,fp,rfl,_⟩:=h
  rfl
 ·have hu:=hr.units;obtain⟨p,i,hl,fp,rfl,hh,e1,q⟩:=h;obtain⟨dx,a,b,bs,rfl,h1,h2,h3,h4,nab,h6⟩:=id hh;refine⟨_,(Zc (ZX (Yc (pv 0) T.cl_Hall T.M_Hall_need_belt G_Hall_need_belt hr T.b_Hall_need_belt .nil Zm (Za (pv 1) Zb)))
     (Zf (Zu (Zj (Zp (K:=K) rfl) (ZY (K:=K) rfl (pv 0) rfl) (pv 1) (fun _ _=>rfl))))),?_⟩
  try dsimp only[L2.cxX,L2.ZM,L2.Zn]
  walk_at "rds";refine⟨p,i,hl,_,rfl,hh,e1,fun i0 i1=>?_⟩;have hi:i.toNat<hl.belts.length:=by omega
  have ei:=List.getElem?_eq_getElem hi;obtain⟨t,ht1,ht2⟩:=h6.at ei;have at1:atI bs i=some (.ref t):=by
   have:=Yu ht1
   rwa [Int.toNat_of_nonneg i0] at this
  walk_at "rds";exact q i0 i1 t _ ei ht2
end
def Zb2{K:PySem.W.Frag}{mg:Str→Option Value}(T:Tp K mg):Sp:=fun vs H Q _=>∃(p d:Addr)(hl:HM)(fp:List Addr)(kvs:List (Key×V))(tr:Fo.ZQ)(first:Int),vs=[.ref p,.ref d]∧ZE T H p hl fp∧d∉fp∧L2.Rd H d (.dK kvs)∧Ent H kvs tr∧Fo.Y2 (YG hl.belts) first tr∧tr.length≤60∧Y0 hl.belts∧
 ∀(e:Addr)(o:Obj)(H':Hp)(kv2:List (Key×V))(zs:List (Int×(Nat×Nat))),H e=none→Ze (upd H d (.frz o (.dK kvs))) H'→H' e=some (.dK kv2)→ShE H' kv2 zs→Wy hl.belts tr zs tr.length→Q (.ref e) H'
section
variable {P:Program}{w:World}{K:PySem.W.Frag}{mg:Str→Option Value}{base:Heap}
theorem Zfb(T:Tp K mg):Zk P w K mg base (CXX P w) 6 T.f_shares_of T.d_shares_of ["hall","tree"] (Zb2 T):=by
 have G_times:Zk P w K mg base (CXX P w) 5 T.f_times T.d_times ["one","other"] (Zfm T):=(Zje T).mono (by decide);have G_gain:Zk P w K mg base (CXX P w) 5 T.f_gain T.d_gain ["row","along"] (ZgD T):=(Zkh T).mono (by decide);have G_Hall_belt_at:Zk P w K mg base (CXX P w) 5 T.f_Hall_belt_at T.d_Hall_belt_at ["self","belt"] (YV T):=(Wm T).mono (by decide);have cl_Hall:=T.cl_Hall;have na_Hall:=T.na_Hall;refine T.F_shares_of.okX Ue (fun vs H Q E h=>?_) (fun cdv A outer s H vs Q E hr h=>?_)
 ·obtain⟨p,d,hl,fp,kvs,tr,first,rfl,_⟩:=h
  rfl
 ·have hu:=hr.units;obtain⟨p,d,hl,fp,kvs,tr,first,rfl,hh,ndf,hd,hen,hg,htl,hsz,q⟩:=h;have hkl:=hen.length;refine⟨_,(Zc (Zy (i:=2) Ue.nd rfl (Or.inl rfl) Zaf)
     (Zc (Z2 PassesOwn.leaving rfl (Zff (pv 1)) (YA (K:=K) (n:=2) rfl rfl (Zz (Zl (i:=3) Ue.nd rfl (Or.inl rfl)) (Zz (Zl (i:=4) Ue.nd rfl (Or.inl rfl)) YB))) (Zf (ZS (ZC ZdD (pv 4) Vp (ZI _)) (Zf (YZ (YT (Za Zh (Za Zh Zb))) (WJ (pv 2) (pv 3) (Zal hu)))) (Zf (YZ (Zv G_times hr rfl T.m_times T.F_times.kp T.b_times .nil Zm (Za (Zj (Zci hu) (pv 2) (Zj (Zp (K:=K) rfl) (pv 4) Zh (fun _ _=>rfl)) (fun _ _=>rfl)) (Za (Zv G_gain hr rfl T.m_gain T.F_gain.kp T.b_gain .nil Zm (Za (Yc (pv 0) T.cl_Hall T.M_Hall_belt_at G_Hall_belt_at hr T.b_Hall_belt_at .nil Zm (Za (Zj (Zp (K:=K) rfl) (pv 4) Zh (fun _ _=>rfl)) Zb)) (Za (Zj (Zp (K:=K) rfl) (pv 4) Zh (fun _ _=>rfl)) Zb))) Zb))) (WJ (pv 2) (pv 3) (Zal hu)))))))
     (Zf (Zu (pv 2))))),?_⟩
  try dsimp only[L2.cxX,L2.ZM,L2.Zn]
  walk_at "rds";intro e he;have nde:d≠e:=fun z=>ZdP hd (by rw[z];exact he);have s1:Ze H (upd H e (.dK [])):=Zq he;have he1:(upd H e (.dK [])) e=some (.dK []):=Zd;have hd1:L2.Rd (upd H e (.dK [])) d (.dK kvs):=by
   rcases hd with h|⟨o,h⟩
   ·exact .inl (s1 _ _ h)
   ·exact .inr ⟨o,s1 _ _ h⟩
  generalize upd H e (.dK [])=H1 at*;walk_at "rds";refine Rd.ZhT ?_;walk_at "rds";refine⟨d,kvs,rfl,hd1,fun o=>?_⟩;have fr1:=U9 (o:=o) hd;have hh3:ZE T (upd H d (.frz o (.dK kvs))) p hl fp:=hh.off fr1 (fun x hx z=>ndf (by rw[←List.mem_singleton.mp z];exact hx));have hen3:Ent (upd H d (.frz o (.dK kvs))) kvs tr:=hen.keep fr1.tups;have he3:(upd H d (.frz o (.dK kvs))) e=none:=by rw[Zg nde.symm];exact he
  have s3:Ze (upd H d (.frz o (.dK kvs))) (upd H1 d (.frz o (.dK kvs))):=fun b x eb=>by
   by_cases z:b=d
   ·rw[z,Zd] at eb⊢;exact eb
   ·rw[Zg z] at eb⊢;exact s1 _ _ eb
  have hd3:(upd H d (.frz o (.dK kvs))) d=some (.frz o (.dK kvs)):=Zd;have he4:(upd H1 d (.frz o (.dK kvs))) e=some (.dK []):=by rw[Zg nde.symm];exact he1
  have qq:=fun H' kv2 zs=>q e o H' kv2 zs he;generalize upd H1 d (.frz o (.dK kvs))=H4 at*;generalize upd H d (.frz o (.dK kvs))=H3 at*;clear q hd1 he1 s1 fr1;refine VM (Zcx hd3) (fun i σ H'=>∃(kv2:List (Key×V))(zs:List (Int×(Nat×Nat)))(a1 a2:Option V),σ=[some (.ref p),some (.ref d),some (.ref e),a1,a2]∧Ze H3 H'∧H' e=some (.dK kv2)∧ShE H' kv2 zs∧Wy hl.belts tr zs i∧kv2.length≤i)
   ⟨[],[],_,_,rfl,s3,he4,.nil,ZjP,Nat.le_refl _⟩ (fun i σ H' ⟨_,_,_,_,_,s,_⟩=>s) ?_ ?_
  ·rintro i σ H5 v H6 hi ⟨kv2,zs,a1,a2,rfl,s5,he5,hsh,hgs,hk2⟩ ⟨t,kv,hkv,ht,rfl,rfl⟩;obtain⟨w,st,htr,ek,hst⟩:=Zk8 hen3 hkv;have hil:i<tr.length:=(List.getElem?_eq_some_iff.mp htr).1;have hzl:=hgs.len (Nat.le_of_lt hil);have hknd:w∉zs.map (·.1):=by
    rw[hgs.keys];intro hm;obtain⟨j,hj,e2⟩:=List.getElem_of_mem hm;rw[List.getElem_take] at e2;have hjl:j<i:=by rw[List.length_take] at hj;omega
    have hjk:j<(Fo.keys tr).length:=by rw[List.length_take] at hj;omega
    have hik:i<(Fo.keys tr).length:=by simp[Fo.keys];exact hil
    have ei:(Fo.keys tr)[i]=w:=by
     have:(Fo.keys tr)[i]? =some w:=by unfold Fo.keys;rw[List.getElem?_map,htr];rfl
     rw[List.getElem?_eq_getElem hik] at this;exact Option.some.inj this
    have:=ZbA hg.nodup hjk hik (e2.trans ei.symm);omega
   obtain⟨k,val⟩:=kv;dsimp only at ek hst;subst ek;refine Rd.Vj (.of Zd) rfl ?_;have su:Ze H5 (upd H5 t (.tup [kV (Sum.inl w),val])):=Zq ht;have s6:=s5.trans su;have he6:=su _ _ he5;have hsh6:ShE (upd H5 t (.tup [kV (Sum.inl w),val])) kv2 zs:=hsh.keep fun _ _ e=>su _ _ e;generalize upd H5 t (.tup [kV (Sum.inl w),val])=H6 at*;have ekw:kV (Sum.inl w)= .int w:=rfl;rw[ekw];have hkz:kv2.length<sizeLine:=Zx (by omega);have hno:=hsh6.none hknd;walk_at "rds";refine⟨rfl,?_⟩;cases st with
   |none=>
    have ev:val= .non:=hst;subst ev;walk_at "rds";refine⟨by show 2≤sizeLine;decide,fun t2 ht2=>?_⟩;have s7:Ze H6 (upd H6 t2 (.tup [.int 1,.int 1])):=Zq ht2;have h7:(upd H6 t2 (.tup [.int 1,.int 1])) t2=some (.tup [.int 1,.int 1]):=Zd;have he7:=s7 _ _ he6;have hsh7:ShE (upd H6 t2 (.tup [.int 1,.int 1])) kv2 zs:=hsh6.keep fun _ _ e=>s7 _ _ e;generalize upd H6 t2 (.tup [.int 1,.int 1])=H7 at*;walk_at "rds";rw[VC _ hno];have tk8:∀a xs,H7 a=some (.tup xs)→(upd H7 e (.dK (kv2++ [(Sum.inl w,.ref t2)]))) a=some (.tup xs):=fun a xs ea=>by rw[Zg (Yx ea he7 (by intro z;cases z))];exact ea
    refine⟨_,zs++ [(w,(1,1))],_,_,rfl,(s6.trans s7).new he3,Zd,(hsh7.keep tk8).snoc (x:=(1,1)) (tk8 _ _ h7),hgs.more hil htr ⟨by decide,by decide,by decide⟩ ⟨?_,?_⟩ (fun _=>rfl) (fun p b al z=>by cases z),by simp;omega⟩
    ·exact Nat.lt_of_lt_of_le (by decide:(1:Nat)<2 ^ 1) (Nat.pow_le_pow_right (by decide) (by omega))
    ·exact Nat.lt_of_lt_of_le (by decide:(1:Nat)<2 ^ 1) (Nat.pow_le_pow_right (by decide) (by omega))
   |some x=>
    obtain⟨pw,b,al⟩:=x;obtain⟨t2,ev,ht2⟩:=hst;subst ev;have ht6:=s6 _ _ ht2;obtain⟨hway,j,sj,hj,htj⟩:=hg.steps i w pw b al htr;have hpm:pw∈zs.map (·.1):=by
     rw[hgs.keys];have hk:(Fo.keys tr)[j]? =some pw:=by unfold Fo.keys;rw[List.getElem?_map,htj];rfl
     have:((Fo.keys tr).take i)[j]? =some pw:=by rw[List.getElem?_take,if_pos hj];exact hk
     exact List.mem_of_getElem? this
    obtain⟨y,ty,hym,hval,hty⟩:=hsh6.get hpm;obtain⟨jy,hjy⟩:=List.getElem?_of_mem hym;have hjl:=(List.getElem?_eq_some_iff.mp hjy).1;obtain⟨y0,y1,yg⟩:=hgs.pos _ hym;obtain⟨ys1,ys2⟩:=hgs.size jy _ hjy;obtain⟨bi,hbi,hbm⟩:=Zah hway;have eb:b=(bi:Int):=by
     rw[VH] at hbm;rcases hbm with⟨_,z⟩|⟨_,z⟩<;>(injection z with _ z2;injection z2)
    obtain⟨gv,tk,g0,t0,gl,tl,eg,et⟩:=hsz bi hbi;have hh6:=hh3.same s6;have dec:decide (V.ref t2=V.non)=false:=decide_eq_false (by intro z;cases z);rw[dec];walk_at "rds";refine⟨p,b,hl,fp,rfl,hh6,fun z=>absurd ⟨by omega,by omega⟩ z,fun _ _ tb B hB htB=>?_⟩;have eB:hl.belts.getD bi dB=B:=by
     rw[eb,Int.toNat_natCast] at hB;simp[List.getD,hB]
    rw[eB] at eg et;walk_at "rds";refine⟨tb,B,al,gv,tk,rfl,htB,⟨eg,et,g0,t0,gl,tl⟩,fun t3 H7 u v ht3 s7 h7 huv=>?_⟩;have hn:110*jy+1+110≤110*i+1:=by omega
    have huv2:∃G1 G2 M,G1=Nat.gcd M G2∧True:=⟨_,0,0,rfl,trivial⟩;have key:∃gA tA:Nat,0<gA∧0<tA∧gA<2 ^ 110∧tA<2 ^ 110∧u=gA / Nat.gcd gA tA∧v=tA / Nat.gcd gA tA∧(∀x:Nat×Nat,x.1*y.2*tA=y.1*x.2*gA→Bal B al x y):=by
     cases al with
     |true=>
      rw[if_pos rfl] at huv;refine⟨gv,tk,g0,t0,gl,tl,huv.1,huv.2,fun x hx=>?_⟩;unfold Bal;rw[if_pos rfl,eg,et,Int.toNat_natCast,Int.toNat_natCast];exact hx
     |false=>
      rw[if_neg (by decide)] at huv;refine⟨tk,gv,t0,g0,tl,gl,huv.1,huv.2,fun x hx=>?_⟩;unfold Bal;rw[if_neg (by decide),eg,et,Int.toNat_natCast,Int.toNat_natCast];exact hx
    clear huv huv2;obtain⟨gA,tA,gA0,tA0,gAl,tAl,eu,ev,hbal⟩:=key;have ul:u<2 ^ 110:=by rw[eu];exact Nat.lt_of_le_of_lt (Nat.div_le_self _ _) gAl
    have vl:v<2 ^ 110:=by rw[ev];exact Nat.lt_of_le_of_lt (Nat.div_le_self _ _) tAl
    have v0:0<v:=by
     rw[ev];exact Nat.div_pos (Nat.le_of_dvd tA0 (Nat.gcd_dvd_right _ _)) (Nat.gcd_pos_of_pos_left _ gA0)
    walk_at "rds";refine⟨ty,t3,y.1,y.2,u,v,110*jy+1,110,rfl,s7 _ _ hty,h7,y1,v0,ys1,ys2,ul,vl,by omega,fun t4 H8 ht4 s8 h8=>?_⟩;obtain⟨hp,hb1,hle1,hle2⟩:=Zg2 (y:=y) (u:=(u,v)) (x:=(y.1*u / Nat.gcd (y.1*u) (y.2*v),y.2*v / Nat.gcd (y.1*u) (y.2*v))) (n:=0) y0 y1 gA0 tA0 eu ev rfl rfl rfl;have s68:=s7.trans s8;have he8:=s68 _ _ he6;have hsh8:ShE H8 kv2 zs:=hsh6.keep fun _ _ e=>s68 _ _ e;walk_at "rds";rw[VC _ hno];have tk8:∀a xs,H8 a=some (.tup xs)→(upd H8 e (.dK (kv2++ [(Sum.inl w,.ref t4)]))) a=some (.tup xs):=fun a xs ea=>by rw[Zg (Yx ea he8 (by intro z;cases z))];exact ea
    have sz1:y.1*gA<2 ^ (110*i+1):=Nat.lt_of_lt_of_le (VT ys1 gAl) (Nat.pow_le_pow_right (by decide) hn);have sz2:y.2*tA<2 ^ (110*i+1):=Nat.lt_of_lt_of_le (VT ys2 tAl) (Nat.pow_le_pow_right (by decide) hn);refine⟨_,zs++ [(w,(y.1*u / Nat.gcd (y.1*u) (y.2*v),y.2*v / Nat.gcd (y.1*u) (y.2*v)))],_,_,rfl,(s6.trans s68).new he3,Zd,(hsh8.keep tk8).snoc (tk8 _ _ h8),hgs.more hil htr hp ⟨Nat.lt_of_le_of_lt hle1 sz1,Nat.lt_of_le_of_lt hle2 sz2⟩ (fun z=>by cases z) (fun p' b' al' z=>?_),by simp;omega⟩;cases z;refine⟨jy,y,hjy,?_⟩;rw[eb,Int.toNat_natCast,eB];exact hbal _ hb1
  ·rintro σ H5 ⟨kv2,zs,a1,a2,rfl,s5,he5,hsh,hgs,hk2⟩;rw[hkl] at hgs;walk_at "rds";exact qq H5 kv2 zs s5 he5 hsh hgs
end
def Zcy{K:PySem.W.Frag}{mg:Str→Option Value}(T:Tp K mg):Sp:=fun vs H Q _=>∃a b n:Nat,vs=[.int a,.int b]∧0<b∧b<2 ^ 8000∧a<2 ^ n∧n≤1000000∧Q (.int (a / Nat.gcd a b*b:Nat)) H
section
variable {P:Program}{w:World}{K:PySem.W.Frag}{mg:Str→Option Value}{base:Heap}
theorem Zgh(T:Tp K mg):Zk P w K mg base (CXX P w) 2 T.f_multiple T.d_multiple ["one","other"] (Zcy T):=by
 have G_divisor:Zk P w K mg base (CXX P w) 1 T.f_divisor T.d_divisor ["one","other"] (Uc T):=(Zdy T).mono (by decide);refine T.F_multiple.okX Zf7 (fun vs H Q E h=>?_) (fun cdv A outer s H vs Q E hr h=>?_)
 ·obtain⟨a,b,n,rfl,_⟩:=h
  rfl
 ·have hu:=hr.units;obtain⟨a,b,n,rfl,b0,b1,hn,hn2,q⟩:=h;have gp:0<Nat.gcd a b:=Nat.gcd_pos_of_pos_right _ b0;have gl:Nat.gcd a b<2 ^ 8000:=Nat.lt_of_le_of_lt (Nat.le_of_dvd b0 (Nat.gcd_dvd_right a b)) b1;have dg:=ZdY (a:=a) gp gl;have da:a / Nat.gcd a b<2 ^ n:=Nat.lt_of_le_of_lt (Nat.div_le_self _ _) hn;have mo:IntMulOk ((a:Int) / (Nat.gcd a b:Nat)) (b:Int):=Vx (a:=a / Nat.gcd a b) da b1 (by omega);refine⟨_,(Zf (Zu (Zs Yo (Zs Z5 (pv 0) (Zv G_divisor hr rfl T.m_divisor T.F_divisor.kp T.b_divisor .nil Zm (Za (pv 0) (Za (pv 1) Zb)))) (pv 1)))),?_⟩
  try dsimp only[L2.cxX,L2.ZM,L2.Zn]
  walk_at "rds";exact q
end
def ZcC{K:PySem.W.Frag}{mg:Str→Option Value}(T:Tp K mg):Sp:=fun vs H Q _=>∃(p f:Addr)(hl:HM)(fp ds:List Addr)(F:List (Int×Fo.ZQ)),vs=[.ref p,.ref f]∧ZE T H p hl fp∧H f=some (.lst (ds.map V.ref))∧Wd H ds F∧(∀d∈ds,d∉fp)∧(∀d∈ds,d≠f)∧Fo.Vf (YG hl.belts) hl.names.length F hl.names.length∧ZK hl.belts hl.names.length∧hl.names.length≤60∧Y0 hl.belts∧
 ∀(r:Addr)(H':Hp)(rs:List Int),H r=none→ZJ ds H H'→Wd H' ds F→H' r=some (.lst (rs.map V.int))→rs.length=hl.names.length→(∀x∈F,Zbp hl.belts x rs)→Q (.ref r) H'
section
variable {P:Program}{w:World}{K:PySem.W.Frag}{mg:Str→Option Value}{base:Heap}
theorem Zgl(T:Tp K mg):Zk P w K mg base (CXX P w) 7 T.f_rates_by T.d_rates_by ["hall","forest"] (ZcC T):=by
 have G_shares_of:Zk P w K mg base (CXX P w) 6 T.f_shares_of T.d_shares_of ["hall","tree"] (Zb2 T):=(Zfb T).mono (by decide);have G_multiple:Zk P w K mg base (CXX P w) 6 T.f_multiple T.d_multiple ["one","other"] (Zcy T):=(Zgh T).mono (by decide);have G_Hall_names:Zk P w K mg base (CXX P w) 6 T.f_Hall_names T.d_Hall_names ["self"] (UO T):=(Zbt T).mono (by decide);have cl_Hall:=T.cl_Hall;have na_Hall:=T.na_Hall;refine T.F_rates_by.okX YI (fun vs H Q E h=>?_) (fun cdv A outer s H vs Q E hr h=>?_)
 ·obtain⟨p,f,hl,fp,ds,F,rfl,_⟩:=h
  rfl
 ·have hu:=hr.units;obtain⟨p,f,hl,fp,ds,F,rfl,hh,hf,hT,hdf,hdn,hwd,hbt,hn,hsz,q⟩:=h;have hdl:=hT.length;refine⟨_,(Zc (Zca (j:=2) rfl (Yk (x:="name") (zs:=[]) (ix:=[]) (Zi VW) ["hall","forest","rates","tree","shares","common","share","work"] rfl rfl (by decide+kernel)) (Z4 (K:=K) rfl (Uk (pv 0) T.cl_Hall T.M_Hall_names G_Hall_names hr T.b_Hall_names .nil Zm)) (fun cl C s H fp=>⟨(Zl (i:=0) (show(["name"]:List Str).Nodup by decide+kernel) rfl (Or.inl rfl)),Yn,Zh⟩) YI.nd rfl (Or.inl rfl))
     (Zc (Z2 PassesOwn.leaving rfl (Z4 (K:=K) rfl (pv 1)) (Zl (i:=3) YI.nd rfl (Or.inl rfl)) (Zc (Zy (i:=4) YI.nd rfl (Or.inl rfl) (Zv G_shares_of hr rfl T.m_shares_of T.F_shares_of.kp T.b_shares_of .nil Zm (Za (pv 0) (Za (pv 3) Zb))))
     (Zc (Zy (i:=5) YI.nd rfl (Or.inl rfl) Zh)
     (Zc (Z2 PassesOwn.leaving rfl (Zkt (pv 4)) (Zl (i:=6) YI.nd rfl (Or.inl rfl)) (Zf (Zy (i:=5) YI.nd rfl (Or.inl rfl) (Zv G_multiple hr rfl T.m_multiple T.F_multiple.kp T.b_multiple .nil Zm (Za (pv 5) (Za (Zj (Zp (K:=K) rfl) (pv 6) Zh (fun _ _=>rfl)) Zb))))))
     (Zf (Z2 PassesOwn.leaving rfl (Zff (pv 4)) (YA (K:=K) (n:=2) rfl rfl (Zz (Zl (i:=7) YI.nd rfl (Or.inl rfl)) (Zz (Zl (i:=6) YI.nd rfl (Or.inl rfl)) YB))) (Zf (YZ (Zs Yo (Zs Z5 (pv 5) (Zj (Zp (K:=K) rfl) (pv 6) Zh (fun _ _=>rfl))) (Zj (Zp (K:=K) rfl) (pv 6) Zh (fun _ _=>rfl))) (WJ (pv 2) (pv 7) Wp)))))))))
     (Zf (Zu (pv 2))))),?_⟩
  try dsimp only[L2.cxX,L2.ZM,L2.Zn]
  walk_at "rds";refine⟨p,hl,fp,rfl,hh,fun nm H1 hnm s1 hnm1=>?_⟩;walk_at "rds";refine YR (ZZ (SqL.of hnm1)) (Zx (by rw[List.length_map];omega)) (fun _=>true) (fun _=> .int 1) (fun i H' Kc hi sm k=>?_) (fun i H' Kc hi _ sm k=>?_) (fun r H2 hr s2 hr2=>?_)
  ·walk_at "rds";exact k H' (Ze.refl H')
  ·walk_at "rds";exact k H' (Ze.refl H')
  have hr3:H2 r=some (.lst ((List.replicate hl.names.length (1:Int)).map V.int)):=by
   rw[hr2,List.filter_eq_self.mpr (by simp),List.length_map];refine congrArg (fun z=>some (HO.lst z)) ?_;refine List.ext_getElem (by simp) fun i h1 h2=>?_;simp
  clear hr2;have s12:=s1.trans s2;have hr0:H r=none:=ZG s1 hr;have hf2:=s12 _ _ hf;have hrd:∀d∈ds,r≠d:=fun d hd z=>by
   obtain⟨i,hi,rfl⟩:=List.getElem_of_mem hd;obtain⟨x,_,kvs,a,_⟩:=Paired.get' hT (List.getElem?_eq_getElem hi);exact ZdP a (by rw[←z];exact hr0)
  have nfr:f≠r:=Zo hf hr0;walk_at "rds";refine WS (ZZ (SqL.of (ZaE (q:=f) (o:= .lst (ds.map V.ref))))) (fun i σ H'=>∃(rs:List Int)(a1 a2 a3 a4 a5:Option V),σ=[some (.ref p),some (.ref f),some (.ref r),a1,a2,a3,a4,a5]∧ZJ ds H H'∧Wd H' ds F∧H' f=some (.lst (ds.map V.ref))∧H' r=some (.lst (rs.map V.int))∧rs.length=hl.names.length∧∀(k:Nat) x,k<i→F[k]? =some x→Zbp hl.belts x rs)
   ⟨_,_,_,_,_,_,rfl,s12.frame,hT.same s12,hf2,hr3,by simp,fun k x hk=>absurd hk (Nat.not_lt_zero _)⟩ ?_ ?_ ?_
  ·rintro i σ H' ⟨_,_,_,_,_,_,_,_,_,h,_⟩;exact Zao h
  ·rintro i σ H3 hi ⟨rs,a1,a2,a3,a4,a5,rfl,fr3,hT3,hf3,hr3,hrl,hset⟩;have hi':i<ds.length:=by simpa using hi
   have ei:(ds.map V.ref).getD i .non= .ref ds[i]:=by simp[List.getD,hi']
   rw[ei];obtain⟨x,hx,kvs,hd,hen⟩:=Paired.get' hT3 (List.getElem?_eq_getElem hi');have hdm:=List.getElem_mem hi';generalize ds[i]=d at*;obtain⟨g,gg,g0,g1⟩:=hwd.tree x (List.mem_of_getElem? hx);have hkrg:=g.rg ⟨g0,g1⟩ (U4 hbt);have htl:x.2.length≤60:=by
    have:=Fo.Vm (n:=hl.names.length) g.nodup hkrg;simp[Fo.keys] at this;omega
   have hh3:=hh.off fr3 (fun y hy z=>hdf y z hy);walk_at "rds";refine⟨p,d,hl,fp,kvs,x.2,x.1,rfl,hh3,hdf d hdm,hd,hen,g,htl,hsz,fun e o H4 kv2 zs he s4 he4 hsh hgs=>?_⟩;have fr4:ZJ ds H H4:=fr3.trans (((U9 (o:=o) hd).mono (by intro y hy;rw[List.mem_singleton.mp hy];exact hdm)).trans s4.frame);have hT4:=(hT3.frz (o:=o) hd).same s4;have hf4:H4 f=some (.lst (ds.map V.ref)):=fr4.keep _ _ hf (fun z=>hdn f z rfl);have nrd:=hrd d hdm;have hr4:H4 r=some (.lst (rs.map V.int)):=s4 _ _ (by rw[Zg nrd];exact hr3);have ned:∀d'∈ds,e≠d':=fun d' hd' z=>by
    obtain⟨j,hj,rfl⟩:=List.getElem_of_mem hd';obtain⟨x',_,k',a,_⟩:=Paired.get' hT3 (List.getElem?_eq_getElem hj);exact ZdP a (by rw[←z];exact he)
   have ner:r≠e:=fun z=>by rw[z,he] at hr3;cases hr3
   have nef:f≠e:=fun z=>by rw[z,he] at hf3;cases hf3
   have he0:H e=none:=by
    cases ee:H e with
    |none=>rfl
    |some o'=>
     by_cases z:e∈ds
     ·exact absurd rfl (ned e z)
     ·rw[fr3.keep _ _ ee z] at he;cases he
   have hzl:=hgs.len (Nat.le_refl _);have hkl:=hsh.length;walk_at "rds";refine Rd.Zmi ?_;walk_at "rds";refine⟨e,kv2,rfl,.inl he4,fun o2=>?_⟩;have he5:(upd H4 e (.frz o2 (.dK kv2))) e=some (.frz o2 (.dK kv2)):=Zd;have tk5:∀a xs,H4 a=some (.tup xs)→(upd H4 e (.frz o2 (.dK kv2))) a=some (.tup xs):=(U9 (o:=o2) (.inl he4)).tups;have hsh5:=hsh.keep tk5;have hr5:(upd H4 e (.frz o2 (.dK kv2))) r=some (.lst (rs.map V.int)):=by rw[Zg ner];exact hr4
   have hf5:(upd H4 e (.frz o2 (.dK kv2))) f=some (.lst (ds.map V.ref)):=by rw[Zg nef];exact hf4
   have fr5:ZJ ds H (upd H4 e (.frz o2 (.dK kv2))):=⟨fun b y eb n=>by rw[Zg (fun z=>by rw[z,he0] at eb;cases eb)];exact fr4.keep _ _ eb n,fun b xs eb=>tk5 _ _ (fr4.tups _ _ eb)⟩;have hT5:Wd (upd H4 e (.frz o2 (.dK kv2))) ds F:=by
    refine U0 hT4 fun d' x' hd' ⟨k,a,b⟩=>⟨k,?_,b.keep tk5⟩;have:=(ned d' hd').symm;rcases a with a|⟨o',a⟩
    ·exact .inl (by rw[Zg this];exact a)
    ·exact .inr ⟨o',by rw[Zg this];exact a⟩
   generalize upd H4 e (.frz o2 (.dK kv2))=H5 at*;refine VM (ZhK he5) (fun k σ H'=>H'=H5∧∃(C:Nat)(a4:Option V),σ=[some (.ref p),some (.ref f),some (.ref r),some (.ref d),some (.ref e),some (.int C),a4,a5]∧C=lcmL (zs.take k)∧C<2 ^ (6700*k+1)) ⟨rfl,1,_,rfl,rfl,by decide⟩ (fun i σ H' h=>h.1▸Ze.refl H5) ?_ ?_
   ·rintro k σ H6 v H7 hk ⟨rfl,C,a4,rfl,hC,hCs⟩ ⟨rfl,kv,hkv,rfl⟩;obtain⟨y,hy,_,t,et,ht⟩:=Paired.get' hsh5 hkv;rw[et];have hkz:k<zs.length:=(List.getElem?_eq_some_iff.mp hy).1;obtain⟨y0,y1,_⟩:=hgs.pos y (List.mem_of_getElem? hy);have ysz:=(hgs.size k y hy).2;have ys2:y.2.2<2 ^ 6700:=Nat.lt_of_lt_of_le ysz (Nat.pow_le_pow_right (by decide) (by omega));have et2:zs.take (k+1)=zs.take k++ [y]:=by rw[List.take_succ,hy];rfl
    walk_at "rds";refine⟨C,y.2.2,6700*k+1,rfl,y1,Nat.lt_of_lt_of_le ys2 (Nat.pow_le_pow_right (by decide) (by decide)),hCs,by omega,?_⟩;rw[Zjq];refine⟨rfl,_,_,rfl,by rw[et2,ZhU,hC],?_⟩;have:=Zig hCs ys2;have e3:6700*(k+1)+1=6700*k+1+6700:=by omega
    rw[e3];exact this
   ·rintro σ H6 ⟨rfl,C,a4,rfl,hC,hCs⟩;rw[hkl,List.take_length] at hC;walk_at "rds";refine Rd.ZhT ?_;walk_at "rds";refine⟨e,kv2,rfl,.inr ⟨o2,he5⟩,fun o3=>?_⟩;have he7:(upd H6 e (.frz o3 (.dK kv2))) e=some (.frz o3 (.dK kv2)):=Zd;have tk7:∀a xs,H6 a=some (.tup xs)→(upd H6 e (.frz o3 (.dK kv2))) a=some (.tup xs):=(U9 (o:=o3) (.inr ⟨o2,he5⟩)).tups;have hsh7:=hsh5.keep tk7;have hr7:(upd H6 e (.frz o3 (.dK kv2))) r=some (.lst (rs.map V.int)):=by rw[Zg ner];exact hr5
    have hf7:(upd H6 e (.frz o3 (.dK kv2))) f=some (.lst (ds.map V.ref)):=by rw[Zg nef];exact hf5
    have fr7:ZJ ds H (upd H6 e (.frz o3 (.dK kv2))):=⟨fun b y eb n=>by rw[Zg (fun z=>by rw[z,he0] at eb;cases eb)];exact fr5.keep _ _ eb n,fun b xs eb=>tk7 _ _ (fr5.tups _ _ eb)⟩;have hT7:Wd (upd H6 e (.frz o3 (.dK kv2))) ds F:=by
     refine U0 hT5 fun d' x' hd' ⟨k,a,b⟩=>⟨k,?_,b.keep tk7⟩;have:=(ned d' hd').symm;rcases a with a|⟨o',a⟩
     ·exact .inl (by rw[Zg this];exact a)
     ·exact .inr ⟨o',by rw[Zg this];exact a⟩
    generalize upd H6 e (.frz o3 (.dK kv2))=H7 at*;have hkz:zs.map (·.1)=Fo.keys x.2:=by
     have h1:=hgs.keys;have h2:(Fo.keys x.2).take x.2.length=Fo.keys x.2:=List.take_of_length_le (by simp[Fo.keys]);rw[h1,h2]
    have hzk:∀(j:Nat) y,zs[j]? =some y→y.1∈Fo.keys x.2:=fun j y hy=>by rw[←hkz];exact List.mem_map.mpr ⟨y,List.mem_of_getElem? hy,rfl⟩
    have hzn:∀(j k:Nat) y z,zs[j]? =some y→zs[k]? =some z→j≠k→y.1≠z.1:=fun j k y z hy hz ne ee=>by
     have nd:(zs.map (·.1)).Nodup:=by rw[hkz];exact g.nodup
     obtain⟨hj,ej⟩:=List.getElem?_eq_some_iff.mp hy;obtain⟨hk,ek⟩:=List.getElem?_eq_some_iff.mp hz;refine ne (ZbA nd (by simpa using hj) (by simpa using hk) ?_);rw[List.getElem_map,List.getElem_map,ej,ek];exact ee
    refine VM (Zcx (ZaE (q:=e) (o:= .frz o3 (.dK kv2)))) (fun k σ H'=>∃(rs':List Int)(a6 a7:Option V),σ=[some (.ref p),some (.ref f),some (.ref r),some (.ref d),some (.ref e),some (.int C),a6,a7]∧ZJ ds H H'∧Wd H' ds F∧H' e=some (.frz o3 (.dK kv2))∧H' f=some (.lst (ds.map V.ref))∧H' r=some (.lst (rs'.map V.int))∧rs'.length=hl.names.length∧ShE H' kv2 zs∧
     (∀(j:Nat) y,j<k→zs[j]? =some y→rs'[y.1.toNat]? =some ((C / y.2.2*y.2.1:Nat):Int))∧∀v:Int,0≤v→v∉Fo.keys x.2→rs'[v.toNat]? =rs[v.toNat]?)
     ⟨rs,_,_,rfl,fr7,hT7,he7,hf7,hr7,hrl,hsh7,fun j y hj=>absurd hj (Nat.not_lt_zero _),fun _ _ _=>rfl⟩ ?_ ?_ ?_
    ·rintro k σ H' ⟨_,_,_,_,_,_,h,_⟩;exact Zao h
    ·rintro k σ H8 v H9 hk ⟨rs',a6,a7,rfl,fr8,hT8,he8,hf8,hr8,hrl8,hsh8,hin8,hout8⟩ ⟨t,kv,hkv,ht,rfl,rfl⟩;obtain⟨y,hy,ek,ty,et,hty⟩:=Paired.get' hsh8 hkv;obtain⟨kk,vv⟩:=kv;dsimp only at ek et;subst ek et;refine Rd.Vj (.of Zd) rfl ?_;have su:Ze H8 (upd H8 t (.tup [kV (Sum.inl y.1),.ref ty])):=Zq ht;have hr9:=su _ _ hr8;have hty9:=su _ _ hty;have fr9:ZJ ds H (upd H8 t (.tup [kV (Sum.inl y.1),.ref ty])):=fr8.trans su.frame;have hT9:=hT8.same su;have he9:=su _ _ he8;have hf9:=su _ _ hf8;have hsh9:ShE (upd H8 t (.tup [kV (Sum.inl y.1),.ref ty])) kv2 zs:=hsh8.keep fun _ _ e=>su _ _ e;generalize upd H8 t (.tup [kV (Sum.inl y.1),.ref ty])=H9 at*;have ekw:kV (Sum.inl y.1)= .int y.1:=rfl;rw[ekw];obtain⟨y0,y1,_⟩:=hgs.pos y (List.mem_of_getElem? hy);obtain⟨ysz1,ysz2⟩:=hgs.size k y hy;have hkk:k<zs.length:=(List.getElem?_eq_some_iff.mp hy).1;have ys1:y.2.1<2 ^ 6700:=Nat.lt_of_lt_of_le ysz1 (Nat.pow_le_pow_right (by decide) (by omega));have ys2:y.2.2<2 ^ 6700:=Nat.lt_of_lt_of_le ysz2 (Nat.pow_le_pow_right (by decide) (by omega));have dv:=ZdY (a:=0) y1 (Nat.lt_of_lt_of_le ys2 (Nat.pow_le_pow_right (by decide) (by decide)));have mo:IntMulOk ((C:Int) / (y.2.2:Nat)) ((y.2.1:Nat):Int):=Vx (a:=C / y.2.2) (Nat.lt_of_le_of_lt (Nat.div_le_self _ _) hCs) ys1 (by omega);obtain⟨w0,w1⟩:=hkrg y.1 (hzk k y hy);walk_at "rds";have ev:(C:Int) / ((y.2.2:Nat):Int)*((y.2.1:Nat):Int)=((C / y.2.2*y.2.1:Nat):Int):=rfl;rw[ev];have tkA:∀a xs,H9 a=some (.tup xs)→(upd H9 r (.lst ((rs'.map V.int).set y.1.toNat (.int ((C / y.2.2*y.2.1:Nat):Int))))) a=some (.tup xs):=fun a xs ea=>by rw[Zg (Yx ea hr9 (by intro z;cases z))];exact ea
     have hwl:y.1.toNat<rs'.length:=by omega
     walk_at "rds";refine⟨rs'.set y.1.toNat ((C / y.2.2*y.2.1:Nat):Int),_,_,rfl,⟨fun b z eb n=>by rw[Zg (fun c=>by rw[c,hr0] at eb;cases eb)];exact fr9.keep _ _ eb n,fun b xs eb=>tkA _ _ (fr9.tups _ _ eb)⟩,?_,by rw[Zg ner.symm];exact he9,by rw[Zg nfr];exact hf9,by rw[Zd,List.map_set],by rw[List.length_set];exact hrl8,hsh9.keep tkA,fun j z hj hz=>?_,fun v v0 hv=>?_⟩
     ·refine U0 hT9 fun d' x' hd' ⟨k',a,b⟩=>⟨k',?_,b.keep tkA⟩;have:=(hrd d' hd').symm;rcases a with a|⟨o',a⟩
      ·exact .inl (by rw[Zg this];exact a)
      ·exact .inr ⟨o',by rw[Zg this];exact a⟩
     ·rcases Nat.lt_succ_iff_lt_or_eq.mp hj with c|c
      ·have ne:=hzn j k z y hz hy (by omega);obtain⟨z0,_⟩:=hkrg z.1 (hzk j z hz);rw[List.getElem?_set_ne (by omega)];exact hin8 j z c hz
      ·subst c;rw[hy] at hz;cases hz;rw[List.getElem?_set_self hwl]
     ·have ne:v≠y.1:=fun c=>hv (by rw[c];exact hzk k y hy);rw[List.getElem?_set_ne (by omega)];exact hout8 v v0 hv
    ·rintro σ H8 ⟨rs',a6,a7,rfl,fr8,hT8,he8,hf8,hr8,hrl8,hsh8,hin8,hout8⟩;refine⟨rs',_,_,_,_,_,rfl,fr8,hT8,hf8,hr8,hrl8,fun k x' hk hx'=>?_⟩;rcases Nat.lt_succ_iff_lt_or_eq.mp hk with c|c
     ·obtain⟨zs',hg',hz'⟩:=hset k x' c hx';refine⟨zs',hg',fun y hy=>?_⟩;obtain⟨g',gg',g0',g1'⟩:=hwd.tree x' (List.mem_of_getElem? hx');have hyk:y.1∈Fo.keys x'.2:=by
       have h1:=hg'.keys;have h2:(Fo.keys x'.2).take x'.2.length=Fo.keys x'.2:=List.take_of_length_le (by simp[Fo.keys]);rw[h2] at h1;rw[←h1];exact List.mem_map.mpr ⟨y,hy,rfl⟩
      rw[hout8 y.1 (g'.rg ⟨g0',g1'⟩ (U4 hbt) _ hyk).1 (Zin hbt hwd hx' hx (by omega) _ hyk)];exact hz' y hy
     ·subst c;rw[hx] at hx';cases hx';refine⟨zs,hgs,fun y hy=>?_⟩;obtain⟨j,hj⟩:=List.getElem?_of_mem hy;rw[←hC];exact hin8 j y (by rw[hkl];exact(List.getElem?_eq_some_iff.mp hj).1) hj
  ·rintro σ H3 ⟨rs,a1,a2,a3,a4,a5,rfl,fr3,hT3,hf3,hr3,hrl,hset⟩;walk_at "rds";refine q r H3 rs hr0 fr3 hT3 hr3 hrl (fun x hx=>?_);obtain⟨k,hk⟩:=List.getElem?_of_mem hx;have:=(List.getElem?_eq_some_iff.mp hk).1;exact hset k x (by rw[List.length_map,hdl];exact this) hk
end
def ZbL{K:PySem.W.Frag}{mg:Str→Option Value}(T:Tp K mg):Sp:=fun vs H Q _=>∃(p c:Addr)(hl:HM)(fp:List Addr)(cs:List Int),vs=[.ref p,.ref c]∧ZE T H p hl fp∧hl.belts.length≤1000∧SqL K H c (cs.map V.int)∧ZK hl.belts cs.length∧Y0 hl.belts∧(∀c∈cs,∃k:Nat,c=(k:Int)∧k<2 ^ 420000)∧
 ∀(r:Addr)(H':Hp),H r=none→Ze H H'→H' r=some (.lst ((hl.belts.map (ZcL cs)).map V.int))→Q (.ref r) H'
section
variable {P:Program}{w:World}{K:PySem.W.Frag}{mg:Str→Option Value}{base:Heap}
theorem Ze9(T:Tp K mg):Zk P w K mg base (CXX P w) 2 T.f_change_of T.d_change_of ["hall","counts"] (ZbL T):=by
 have G_Hall_belts:Zk P w K mg base (CXX P w) 1 T.f_Hall_belts T.d_Hall_belts ["self"] (YY T):=(Vw T).mono (by decide);have cl_Hall:=T.cl_Hall;have na_Hall:=T.na_Hall;refine T.F_change_of.okX ZfM (fun vs H Q E h=>?_) (fun cdv A outer s H vs Q E hr h=>?_)
 ·obtain⟨p,c,hl,fp,cs,rfl,_⟩:=h
  rfl
 ·have hu:=hr.units;obtain⟨p,qa,hl,fp,cs,rfl,hh,hz,hc,hbt,hsz,hcs,q⟩:=h;refine⟨_,(Zf (Zu (Um rfl (Yk (x:="row") (zs:=["counts"]) (ix:=[1]) (Zi Vq) ["hall","counts"] rfl rfl (by decide+kernel)) (Z4 (K:=K) rfl (Uk (pv 0) T.cl_Hall T.M_Hall_belts G_Hall_belts hr T.b_Hall_belts .nil Zm)) (fun cl C s H fp=>⟨(Zl (i:=0) (show(["row","counts"]:List Str).Nodup by decide+kernel) rfl (Or.inl rfl)),Yn,(Zs V4 (Zs Yo (Zj (Zp (K:=K) rfl) (pv 1) (Zj (Zp (K:=K) rfl) (pv 0) Zh (fun _ _=>rfl)) (fun _ _=>rfl)) (Zj (Zp (K:=K) rfl) (pv 0) Zh (fun _ _=>rfl))) (Zs Yo (Zj (Zp (K:=K) rfl) (pv 1) (Zj (Zp (K:=K) rfl) (pv 0) Zh (fun _ _=>rfl)) (fun _ _=>rfl)) (Zj (Zp (K:=K) rfl) (pv 0) Zh (fun _ _=>rfl))))⟩)))),?_⟩
  try dsimp only[L2.cxX,L2.ZM,L2.Zn]
  walk_at "rds";intro u H1 bs hu0 sm1 hu1 hT;have hl1:=hT.length;have hb:bs.length<sizeLine:=Zx (by rw[hl1];exact hz);walk_at "rds";refine YR (ZZ (SqL.of hu1)) hb (fun _=>true) (fun i=> .int (ZcL cs (hl.belts.getD i dB))) (fun i H' Kc hi sm k=>?_) (fun i H' Kc hi _ sm k=>?_) (fun r H' hr sm hr'=>?_)
  ·walk_at "rds";exact k H' (Ze.refl H')
  ·have hil:i<hl.belts.length:=by omega
   obtain⟨t,ht1,ht2⟩:=hT.getD (i:=i) hil;rw[ht1];obtain⟨r1,r2,r3,r4⟩:=hbt.at hil;obtain⟨gv,tk,g0,t0,gl,tl,eg,et⟩:=hsz i hil;have ht3:=sm _ _ ht2;unfold ZcL at k;generalize hl.belts.getD i dB=bb at*;have gm:∀{v:Int},0≤v→v<cs.length→cs.getD v.toNat 0∈cs:=fun{v} v0 v1=>by rw[Zw (by omega)];exact List.getElem_mem _
   obtain⟨k1,e1,l1⟩:=hcs _ (gm r1 r2);obtain⟨k2,e2,l2⟩:=hcs _ (gm r3 r4);have m1:IntMulOk (cs.getD bb.giver.toNat 0) bb.give:=by rw[e1,eg];exact Vx l1 gl (by decide)
   have m2:IntMulOk (cs.getD bb.taker.toNat 0) bb.take:=by rw[e2,et];exact Vx l2 tl (by decide)
   have hc':SqL K H' qa (cs.map V.int):=(sm1.trans sm).seq hc;have a1:=ZO r1 r2;have a2:=ZO r3 r4;dsimp only[B5.v] at ht3;walk_at "rds";exact k H' (Ze.refl H')
  ·refine q r H' (ZG sm1 hr) (sm1.trans sm) ?_;rw[hr',List.filter_eq_self.mpr (by simp),hl1];refine congrArg (fun z=>some (HO.lst z)) ?_;refine List.ext_getElem (by simp) fun i h1 h2=>?_;have:i<hl.belts.length:=by simpa using h1
   simp[List.getD,this]
end
def Zel{K:PySem.W.Frag}{mg:Str→Option Value}(T:Tp K mg):Sp:=fun vs _ _ _=>∃a b:V,vs=[a,b]∧False
section
variable {P:Program}{w:World}{K:PySem.W.Frag}{mg:Str→Option Value}{base:Heap}
theorem Zib(T:Tp K mg):Zk P w K mg base (CXX P w) 1 T.f_way_to T.d_way_to ["tree","work"] (Zel T):=by
 refine T.F_way_to.okX ZiP (fun vs H Q E h=>?_) (fun cdv A outer s H vs Q E hr h=>?_)
 ·obtain⟨a,b,rfl,_⟩:=h
  rfl
 ·have hu:=hr.units;obtain⟨_,_,_,hF⟩:=h;exact hF.elim
end
def Zav{K:PySem.W.Frag}{mg:Str→Option Value}(T:Tp K mg):Sp:=fun vs _ _ _=>∃a b:V,vs=[a,b]∧False
section
variable {P:Program}{w:World}{K:PySem.W.Frag}{mg:Str→Option Value}{base:Heap}
theorem Zdp(T:Tp K mg):Zk P w K mg base (CXX P w) 1 T.f_shared_steps T.d_shared_steps ["one","other"] (Zav T):=by
 refine T.F_shared_steps.okX ZdC (fun vs H Q E h=>?_) (fun cdv A outer s H vs Q E hr h=>?_)
 ·obtain⟨a,b,rfl,_⟩:=h
  rfl
 ·have hu:=hr.units;obtain⟨_,_,_,hF⟩:=h;exact hF.elim
end
def ZaA{K:PySem.W.Frag}{mg:Str→Option Value}(T:Tp K mg):Sp:=fun vs _ _ _=>∃a b c:V,vs=[a,b,c]∧False
section
variable {P:Program}{w:World}{K:PySem.W.Frag}{mg:Str→Option Value}{base:Heap}
theorem Zde(T:Tp K mg):Zk P w K mg base (CXX P w) 6 T.f_ring_through T.d_ring_through ["hall","forest","belt"] (ZaA T):=by
 have G_way_to:Zk P w K mg base (CXX P w) 5 T.f_way_to T.d_way_to ["tree","work"] (Zel T):=(Zib T).mono (by decide);have G_shared_steps:Zk P w K mg base (CXX P w) 5 T.f_shared_steps T.d_shared_steps ["one","other"] (Zav T):=(Zdp T).mono (by decide);have G_Hall_belt_at:Zk P w K mg base (CXX P w) 5 T.f_Hall_belt_at T.d_Hall_belt_at ["self","belt"] (YV T):=(Wm T).mono (by decide);have cl_Hall:=T.cl_Hall;have na_Hall:=T.na_Hall;refine T.F_ring_through.okX Zc4 (fun vs H Q E h=>?_) (fun cdv A outer s H vs Q E hr h=>?_)
 ·obtain⟨a,b,c,rfl,_⟩:=h
  rfl
 ·have hu:=hr.units;obtain⟨_,_,_,_,hF⟩:=h;exact hF.elim
end
def ZcB{K:PySem.W.Frag}{mg:Str→Option Value}(T:Tp K mg):Sp:=fun vs H Q _=>∃(p:Addr)(hl:HM)(fp:List Addr)(z:Int→Nat),vs=[.ref p]∧ZE T H p hl fp∧hl.names.length≤60∧hl.belts.length≤1000∧ZK hl.belts hl.names.length∧Y0 hl.belts∧VI hl.belts z∧
 ∀(t r:Addr)(H':Hp)(rs:List Int)(F:List (Int×Fo.ZQ)),Ze H H'→H r=none→H' t=some (.tup [.ref r,.non])→H' r=some (.lst (rs.map V.int))→rs.length=hl.names.length→Fo.Vf (YG hl.belts) hl.names.length F hl.names.length→(∀x∈F,Zbp hl.belts x rs)→Q (.ref t) H'
section
variable {P:Program}{w:World}{K:PySem.W.Frag}{mg:Str→Option Value}{base:Heap}
theorem Zgd(T:Tp K mg):Zk P w K mg base (CXX P w) 8 T.f_rates_of T.d_rates_of ["hall"] (ZcB T):=by
 have G_forest_of:Zk P w K mg base (CXX P w) 7 T.f_forest_of T.d_forest_of ["hall"] (ZbU T):=(Zfs T).mono (by decide);have G_rates_by:Zk P w K mg base (CXX P w) 7 T.f_rates_by T.d_rates_by ["hall","forest"] (ZcC T):=(Zgl T).mono (by decide);have G_change_of:Zk P w K mg base (CXX P w) 7 T.f_change_of T.d_change_of ["hall","counts"] (ZbL T):=(Ze9 T).mono (by decide);have G_ring_through:Zk P w K mg base (CXX P w) 7 T.f_ring_through T.d_ring_through ["hall","forest","belt"] (ZaA T):=(Zde T).mono (by decide);refine T.F_rates_of.okX Vr (fun vs H Q E h=>?_) (fun cdv A outer s H vs Q E hr h=>?_)
 ·obtain⟨p,hl,fp,z,rfl,_⟩:=h
  rfl
 ·have hu:=hr.units;obtain⟨p,hl,fp,z,rfl,hh,hn,hz,hbt,hsz,hwt,q⟩:=h;refine⟨_,(Zc (Zy (i:=1) Vr.nd rfl (Or.inl rfl) (Zv G_forest_of hr rfl T.m_forest_of T.F_forest_of.kp T.b_forest_of .nil Zm (Za (pv 0) Zb)))
     (Zc (Zy (i:=2) Vr.nd rfl (Or.inl rfl) (Zv G_rates_by hr rfl T.m_rates_by T.F_rates_by.kp T.b_rates_by .nil Zm (Za (pv 0) (Za (pv 1) Zb))))
     (Zc (Z2 PassesOwn.leaving rfl (ZaR (K:=K) rfl rfl T.n_enumerate (Za (Zv G_change_of hr rfl T.m_change_of T.F_change_of.kp T.b_change_of .nil Zm (Za (pv 0) (Za (pv 2) Zb))) Zb)) (YA (K:=K) (n:=2) rfl rfl (Zz (Zl (i:=3) Vr.nd rfl (Or.inl rfl)) (Zz (Zl (i:=4) Vr.nd rfl (Or.inl rfl)) YB))) (Zf (ZS (ZC (VU (K:=K) rfl hu) (pv 4) Zh (ZI _)) (Zf (Zu (YT (Za Vp (Za (Zv G_ring_through hr rfl T.m_ring_through T.F_ring_through.kp T.b_ring_through .nil Zm (Za (pv 0) (Za (pv 1) (Za (pv 3) Zb)))) Zb))))) ZH)))
     (Zf (Zu (YT (Za (pv 2) (Za Vp Zb)))))))),?_⟩
  try dsimp only[L2.cxX,L2.ZM,L2.Zn]
  walk_at "rds";refine⟨p,hl,fp,rfl,hh,hn,hz,hbt,fun f ds H1 F hf0 s1 hF hnew hwd hFl=>?_⟩;have hh1:=hh.same s1;have hdf:∀d∈ds,d∉fp:=fun d hd y=>hh.dom d y (hnew d hd);have hdn:∀d∈ds,d≠f:=fun d hd y=>by
   obtain⟨i,hi,e⟩:=List.getElem_of_mem hd;obtain⟨x,_,kvs,a,_⟩:=Paired.get' hF.trees (List.getElem?_eq_getElem hi);rw[e,y,hF.at_] at a;cases a
  walk_at "rds";refine⟨p,f,hl,fp,ds,F,rfl,hh1,hF.at_,hF.trees.r,hdf,hdn,hwd,hbt,hn,hsz,fun r H2 rs hr0 fr2 hT2 hr2 hrl hset=>?_⟩;have s2:Ze H H2:=fun b o e=>fr2.keep _ _ (s1 _ _ e) (fun y=>by have:=hnew b y;rw[e] at this;cases this);have hh2:=hh.same s2;have hr00:H r=none:=ZG s1 hr0;have hrt:=ZfH hbt hn hwd hrl hset;walk_at "rds";refine⟨p,r,hl,fp,rs,rfl,hh2,hz,.of hr2,by rw[hrl];exact hbt,hsz,fun c hc=>(by obtain⟨k,a,_,b⟩:=hrt.pos c hc;exact⟨k,a,b⟩),fun c H3 hc0 s3 hc3=>?_⟩;have hr3:=s3 _ _ hr2;have s23:=s2.trans s3;walk_at "rds";refine VM (VS (SqL.of hc3)) (fun i σ H'=>Ze H3 H'∧∃a1 a2,σ=[some (.ref p),some (.ref f),some (.ref r),a1,a2]) ⟨Ze.refl H3,_,_,rfl⟩ (fun i σ H' h=>h.1) ?_ ?_
  ·rintro i σ H4 v H5 hi ⟨s4,a1,a2,rfl⟩ ⟨t,ht,rfl,rfl⟩;have hil:i<hl.belts.length:=by simpa using hi
   have ei:((hl.belts.map (ZcL rs)).map V.int).getD i .non= .int 0:=by
    have:=Zbv hwt hsz hbt hwd hrl hset hil;rw[Zw hil] at this;simp[List.getD,hil,this]
   rw[ei];refine Rd.Vj (.of Zd) rfl ?_;walk_at "rds";exact⟨s4.trans (Zq ht),_,_,rfl⟩
  ·rintro σ H4 ⟨s4,a1,a2,rfl⟩;have hr4:=s4 _ _ hr3;walk_at "rds";refine⟨by show 2≤sizeLine;decide,fun t ht=>?_⟩;exact q t r _ rs F ((s23.trans s4).trans (Zq ht)) hr00 Zd (Zq ht _ _ hr4) hrl hwd hset
end
def Za1{K:PySem.W.Frag}{mg:Str→Option Value}(T:Tp K mg):Sp:=fun vs H Q E=>∃(p:Addr)(hl:HM)(fp:List Addr)(z:Int→Nat),vs=[.ref p]∧ZE T H p hl fp∧hl.names.length≤60∧hl.belts.length≤1000∧ZK hl.belts hl.names.length∧Y0 hl.belts∧VI hl.belts z∧
 ∀(r:Addr)(H':Hp)(rs:List Int),Ze H H'→H r=none→H' r=some (.lst (rs.map V.int))→Rts hl.belts hl.names.length z rs→(rs.sum≤400→Q (.ref r) H')∧(400<rs.sum→E (.ref T.X_TooLong) none H')
section
variable {P:Program}{w:World}{K:PySem.W.Frag}{mg:Str→Option Value}{base:Heap}
theorem ZdQ(T:Tp K mg):Zk P w K mg base (CXX P w) 9 T.f_round_rates T.d_round_rates ["hall"] (Za1 T):=by
 have G_rates_of:Zk P w K mg base (CXX P w) 8 T.f_rates_of T.d_rates_of ["hall"] (ZcB T):=(Zgd T).mono (by decide);refine T.F_round_rates.okX ZaT (fun vs H Q E h=>?_) (fun cdv A outer s H vs Q E hr h=>?_)
 ·obtain⟨p,hl,fp,z,rfl,_⟩:=h
  rfl
 ·have hu:=hr.units;obtain⟨p,hl,fp,z,rfl,hh,hn,hz,hbt,hsz,hwt,q⟩:=h;refine⟨_,(Zc (Zy (i:=1) ZaT.nd rfl (Or.inl rfl) (Zj (Zp (K:=K) rfl) (Zv G_rates_of hr rfl T.m_rates_of T.F_rates_of.kp T.b_rates_of .nil Zm (Za (pv 0) Zb)) Zh (fun _ _=>rfl)))
     (Zc (ZS (ZC ZdD (pv 1) Vp (ZI _)) (Zf (Y7 T.gx_NotBalanced T.ex_NotBalanced PySem.F.excBase_ValueError rfl (Za Y8 Zb))) ZH)
     (Zc (ZS (ZC ZeO (Zr (Zhs (K:=K) rfl rfl) (by rfl) T.n_sum PyProof.Rows.boot_sum (Za (pv 1) Zb)) (Zb9 (v:= .int 400) rfl T.c_MOST_TURNS ⟨_,rfl⟩) (ZI _)) (Zf (Y7 T.gx_TooLong T.ex_TooLong PySem.F.excBase_ValueError rfl (Za Y8 Zb))) ZH)
     (Zf (Zu (pv 1)))))),?_⟩
  try dsimp only[L2.cxX,L2.ZM,L2.Zn]
  walk_at "rds";refine⟨p,hl,fp,z,rfl,hh,hn,hz,hbt,hsz,hwt,fun t r H' rs F s1 hr ht hr1 hrl hwd hset=>?_⟩;have hrt:=ZfH hbt hn hwd hrl hset;have hR:Rts hl.belts hl.names.length z rs:=⟨hrl,fun c hc=>(by obtain⟨k,a,b,_⟩:=hrt.pos c hc;omega),fun b hb=>(by
   obtain⟨i,hi,e⟩:=List.getElem_of_mem hb;have:=Zbv hwt hsz hbt hwd hrl hset hi;rw[Zw hi,e] at this;unfold ZcL at this;rw[Int.mul_comm b.give,Int.mul_comm b.take];omega),F,hwd,hset⟩
  obtain⟨q1,q2⟩:=q r H' rs s1 hr hr1 hR;walk_at "rds";refine⟨rfl,?_⟩;walk_at "rds";refine Rd.ZiV (.of hr1) ?_;walk_at "rds";refine VB (fun c=>?_) (fun c=>?_)
  ·walk_at "rds";exact q2 (by have:=of_decide_eq_true c;omega)
  ·walk_at "rds";exact q1 (by
    by_cases y:400<rs.sum
    ·exact absurd (decide_eq_true y) c
    ·omega)
end
def Zem{K:PySem.W.Frag}{mg:Str→Option Value}(T:Tp K mg):Sp:=fun vs H Q _=>∃(a b:Addr)(hs:List Int)(l:List (Int×Int))(xs:List V),vs=[.ref a,.ref b]∧SqL K H a (hs.map V.int)∧SqL K H b xs∧Vs H l xs∧(∀x∈l,0≤x.1∧x.1<hs.length)∧l.length≤1000∧∀H',Ze H H'→Q (.bl (ZaW hs l)) H'
section
variable {P:Program}{w:World}{K:PySem.W.Frag}{mg:Str→Option Value}{base:Heap}
theorem ZiN(T:Tp K mg):Zk P w K mg base (CXX P w) 1 T.f_enough T.d_enough ["heaps","takes"] (Zem T):=by
 refine T.F_enough.okX Zh8 (fun vs H Q E h=>?_) (fun cdv A outer s H vs Q E hr h=>?_)
 ·obtain⟨a,b,hs,l,xs,rfl,_⟩:=h
  rfl
 ·have hu:=hr.units;obtain⟨a,b,hs,l,xs,rfl,ha,hb,hp,hr,hz,q⟩:=h;have hxl:l.length=xs.length:=Paired.length hp;refine⟨_,(Zf (Zu (Zr (Zke (K:=K) rfl rfl) (by rfl) T.n_all PyProof.Rows.boot_all (Za (WW (xs:=["belt","take"]) rfl (Yk (x:="belt") (zs:=["heaps"]) (ix:=[0]) (Zi Zac) ["heaps","takes"] rfl rfl (by decide+kernel)) (Z4 (K:=K) rfl (pv 1)) (fun cl C s H fp=>⟨(YA (K:=K) (n:=2) rfl rfl (Zz (Zl (i:=0) (show(["belt","take","heaps"]:List Str).Nodup by decide+kernel) rfl (Or.inl rfl)) (Zz (Zl (i:=1) (show(["belt","take","heaps"]:List Str).Nodup by decide+kernel) rfl (Or.inl rfl)) YB))),Yn,(VG Zcg (Zj (Zp (K:=K) rfl) (pv 2) (pv 0) (fun _ _=>rfl)) (pv 1) (ZI _))⟩)) Zb)))),?_⟩
  try dsimp only[L2.cxX,L2.ZM,L2.Zn]
  walk_at "rds";refine YJ (own:=2) (ZZ hb).y (Zx (by omega)) (fun i=>[some (.int (l.getD i (0,0)).1),some (.int (l.getD i (0,0)).2)]) (fun _=>rfl) (fun _=>true) (fun i v _=>v= .bl (decide ((l.getD i (0,0)).2≤hs.getD (l.getD i (0,0)).1.toNat 0))) (fun _ _ _ _ _ z=>z) (fun i a' H' v H2 Kg hi sm y ha' k=>?_) (fun i H' Kc hi sm k=>?_) (fun pp i H' Kc hi hc hp0 hp1 sm k=>?_) (fun r H' ys hr' sm hl' hR=>?_)
  ·obtain⟨rfl,rfl⟩:=y;obtain⟨x1,x2,rfl⟩:∃x1 x2,a'=[x1,x2]:=by
    match a',ha' with
    | [x1,x2],_=>exact⟨x1,x2,rfl⟩
   obtain⟨v,hv,t,rfl,ht⟩:=Paired.get hp (List.getElem?_eq_getElem (show i<l.length by omega));have eb:xs.getD i .non= .ref t:=by simp[List.getD,hv]
   have el:l.getD i (0,0)=l[i]:=by simp[List.getD,show i<l.length by omega]
   rw[eb];rw[el] at k;refine Rd.Vj (.of (sm _ _ ht)) rfl ?_;walk_at "rds";exact k _ (Ze.refl _)
  ·walk_at "rds";exact k H' (Ze.refl H')
  ·have el:l.getD i (0,0)=l[i]:=by simp[List.getD,show i<l.length by omega]
   obtain⟨r0,r1⟩:=hr _ (List.getElem_mem (show i<l.length by omega));rw[el] at k⊢;generalize l[i]=x at*;have hs':=sm.seq ha;have at1:=ZO r0 r1;walk_at "rds";exact k _ H' (Ze.refl H') rfl
  ·have e:ys=(l.map fun x=>decide (x.2≤hs.getD x.1.toNat 0)).map V.bl:=by
    rw[UZ (R:=fun i v _=>v=V.bl (decide ((l.getD i (0,0)).2≤hs.getD (l.getD i (0,0)).1.toNat 0))) (H:=H') (r:=fun i=>V.bl (decide ((l.getD i (0,0)).2≤hs.getD (l.getD i (0,0)).1.toNat 0))) (fun _ _ z=>z) hR,List.filter_eq_self.mpr (by simp),←hxl];refine List.ext_getElem (by simp) fun i h1 h2=>?_;have hi:i<l.length:=by simpa using h1
    have el:l.getD i (0,0)=l[i]:=by simp[List.getD,hi]
    rw[List.getElem_map,List.getElem_map,List.getElem_map,List.getElem_range,el]
   rw[e] at hl';walk_at "rds";have e2:(l.map fun x=>decide (x.2≤hs.getD x.1.toNat 0)).all id=ZaW hs l:=by rw[List.all_map];rfl
   rw[e2];exact q H' sm
end
def UL{K:PySem.W.Frag}{mg:Str→Option Value}(T:Tp K mg):Sp:=fun vs H Q E=>∃(p s:Addr)(ls:List B5)(rs st:List Int),vs=[.ref p,.ref s]∧Wq T H p ls rs∧SqL K H s (st.map V.int)∧st.length=ls.length∧ZK ls rs.length∧ls.length≤1000∧rs.length≤1000∧(∀r∈rs,1≤r)∧tot rs≤1000∧
 ∀(r:Addr)(H':Hp)(ws:List Nat)(d:Nat→Nat),H r=none→Ze H H'→H' r=some (.lst (ws.map fun w:Nat=>V.int w))→Fire.Yd (UI ls st rs) (fun _=>0) ws d→(∀w,¬YQ ls st rs d w)→Q (.ref r) H'
section
variable {P:Program}{w:World}{K:PySem.W.Frag}{mg:Str→Option Value}{base:Heap}
theorem ZbG(T:Tp K mg):Zk P w K mg base (CXX P w) 2 T.f_Course_row_from T.d_Course_row_from ["self","starts"] (UL T):=by
 have G_enough:Zk P w K mg base (CXX P w) 1 T.f_enough T.d_enough ["heaps","takes"] (Zem T):=(ZiN T).mono (by decide);have cl_Course:=T.cl_Course;have na_Course:=T.na_Course;refine T.F_Course_row_from.okX ZR (fun vs H Q E h=>?_) (fun cdv A outer s H vs Q E hr h=>?_)
 ·obtain⟨p,s,ls,rs,st,rfl,_⟩:=h
  rfl
 ·have hu:=hr.units;obtain⟨p,s,ls,rs,st,rfl,hc,hs,hsl,hbt,hz,hn,hpos,htot,q⟩:=h;obtain⟨dx,a,b,c,d0,e,ia,ib,ic,bs,h1,h2,h3,h4,h5,h6,h7,h8,h9,h10⟩:=id hc;have npos:∀v<rs.length,1≤Z0 rs v:=fun v hv=>by
   have:=hpos rs[v] (List.getElem_mem hv);simp only[Z0,List.getD,List.getElem?_eq_getElem hv,Option.getD_some];omega
  refine⟨_,(Zc (Zy (i:=2) ZR.nd rfl (Or.inr rfl) (UJ (Zbb (K:=K) rfl) (by rfl) T.n_list PyProof.Rows.boot_list (Za (pv 1) Zb)))
     (Zc (Zy (i:=3) ZR.nd rfl (Or.inl rfl) (UJ (Zbb (K:=K) rfl) (by rfl) T.n_list PyProof.Rows.boot_list (Za (ZY (K:=K) rfl (pv 0) rfl) Zb)))
     (Zc (ZcR (j:=4) (xs:=["takes"]) rfl (Yk (x:="takes") (zs:=["heaps"]) (ix:=[2]) (Zi Y1) ["self","starts","heaps","left","able","row","work","belt","take","give","other"] rfl rfl (by decide+kernel)) (Z4 (K:=K) rfl (ZY (K:=K) rfl (pv 0) rfl)) (fun cl C s H fp=>⟨(Zl (i:=0) (show(["takes","heaps"]:List Str).Nodup by decide+kernel) rfl (Or.inl rfl)),Yn,(Zv G_enough hr rfl T.m_enough T.F_enough.kp T.b_enough .nil VZ (Za (pv 1) (Za (pv 0) Zb)))⟩) ZR.nd rfl (Or.inl rfl))
     (Zc (Zy (i:=5) ZR.nd rfl (Or.inl rfl) (Wc Zb))
     (Zc (Zak PassesOwn.leaving (ZC (Zhp (K:=K) rfl) YC (pv 4) (by with_unfolding_all rfl)) (Zc (Zy (i:=6) ZR.nd rfl (Or.inl rfl) (Yw (K:=K) rfl PySem.F.plainAttrs_list PySem.F.slot_list_index PySem.F.type_list_index Zid (pv 4) (Za YC Zb)))
     (Zc (ZX (Yw (K:=K) rfl PySem.F.plainAttrs_list PySem.F.slot_list_append PySem.F.type_list_append Yg (pv 5) (Za (pv 6) Zb)))
     (Zc (ZdT (pv 3) (pv 6) (ZbH (K:=K) rfl) Zh ZhR Wp)
     (Zc (Z2 PassesOwn.leaving rfl (Z4 (K:=K) rfl (Zj (Zp (K:=K) rfl) (ZY (K:=K) rfl (pv 0) rfl) (pv 6) (fun _ _=>rfl))) (YA (K:=K) (n:=2) rfl rfl (Zz (Zl (i:=7) ZR.nd rfl (Or.inl rfl)) (Zz (Zl (i:=8) ZR.nd rfl (Or.inl rfl)) YB))) (Zf (ZdT (pv 2) (pv 7) (ZbH (K:=K) rfl) (pv 8) ZhR Wp)))
     (Zc (Z2 PassesOwn.leaving rfl (Z4 (K:=K) rfl (Zj (Zp (K:=K) rfl) (ZY (K:=K) rfl (pv 0) rfl) (pv 6) (fun _ _=>rfl))) (YA (K:=K) (n:=2) rfl rfl (Zz (Zl (i:=7) ZR.nd rfl (Or.inl rfl)) (Zz (Zl (i:=9) ZR.nd rfl (Or.inl rfl)) YB))) (Zf (ZdT (pv 2) (pv 7) (ZbH (K:=K) rfl) (pv 9) Zh5 Wp)))
     (Zf (Z2 PassesOwn.leaving rfl (Z4 (K:=K) rfl (Zj (Zp (K:=K) rfl) (ZY (K:=K) rfl (pv 0) rfl) (pv 6) (fun _ _=>rfl))) (Zl (i:=10) ZR.nd rfl (Or.inl rfl)) (Zf (YZ (Zdc (VG ZeO (Zj (Zp (K:=K) rfl) (pv 3) (pv 10) (fun _ _=>rfl)) Zh (ZI _)) (Zda (Zv G_enough hr rfl T.m_enough T.F_enough.kp T.b_enough .nil Zm (Za (pv 2) (Za (Zj (Zp (K:=K) rfl) (ZY (K:=K) rfl (pv 0) rfl) (pv 10) (fun _ _=>rfl)) Zb))))) (WJ (pv 4) (pv 10) Wp)))))))))))
     (Zf (Zu (pv 5)))))))),?_⟩
  try dsimp only[L2.cxX,L2.ZM,L2.Zn]
  walk_at "rds";refine Rd.Zce hs (fun h hh0=>?_);have s1:Ze H (upd H h (.lst (st.map V.int))):=Zq hh0;have hh1:(upd H h (.lst (st.map V.int))) h=some (.lst (st.map V.int)):=Zd;generalize upd H h (.lst (st.map V.int))=H1 at*;have g1:=s1 _ _ h1;have g2:=s1 _ _ h2;walk_at "rds";refine Rd.Zce (.of g2) (fun l hl0=>?_);have s2:Ze H1 (upd H1 l (.lst (rs.map V.int))):=Zq hl0;have hl2:(upd H1 l (.lst (rs.map V.int))) l=some (.lst (rs.map V.int)):=Zd;generalize upd H1 l (.lst (rs.map V.int))=H2 at*;have hh2:=s2 _ _ hh1;have hl00:H l=none:=ZG s1 hl0;have s02:=s1.trans s2;have k1:=s02 _ _ h1;have k5:=s02 _ _ h5;have e0:Wb ls st (fun _=>0)=st:=by
   refine List.ext_getElem (by rw[Yh hsl,hsl]) fun j a1 a2=>?_;rw[W4 hsl (by omega)];unfold Fire.lie fB;simp
  have ial:ia.length=rs.length:=by rw[h6.len];simp[Zby]
  walk_at "rds";refine YJ (own:=1) (ZZ (SqL.of k5)).y (Zx (by rw[List.length_map];omega)) (fun i=>[some (.ref (ia.getD i 0))]) (fun _=>rfl) (fun _=>true) (fun(i:Nat) v _=>v= .bl (Wg ls st rs (fun _=>0) i)) (fun _ _ _ _ _ z=>z) (fun i a' H' v H2 Kg hi sm y ha' k=>?_) (fun i H' Kc hi sm k=>?_) (fun pp i H' Kc hi hc hp0 hp1' sm k=>?_) (fun ab H3 ys hab0 s3 hab3 hR=>?_)
  ·obtain⟨rfl,rfl⟩:=y;obtain⟨x1,rfl⟩:∃x1,a'=[x1]:=by
    match a',ha' with
    | [x1],_=>exact⟨x1,rfl⟩
   have hi':i<ia.length:=by simpa using hi
   have ev:(ia.map V.ref).getD i .non= .ref (ia.getD i 0):=by simp[List.getD,hi']
   rw[ev];walk_at "rds";exact k _ (Ze.refl _)
  ·walk_at "rds";exact k H' (Ze.refl H')
  ·have hi':i<rs.length:=by rw[List.length_map] at hi;omega
   obtain⟨x,e1,vs,e2,e3⟩:=Paired.get h6 (i:=i) (x:=Yq ls i) (by simp[Zby,hi']);have ex:ia.getD i 0=x:=by simp[List.getD,e1]
   rw[ex];have sH:=s02.trans sm;have tl:=Zcw (ls:=ls) (w:=i);walk_at "rds";refine⟨h,x,st,Yq ls i,vs,rfl,.of (sm _ _ hh2),.of (sH _ _ e2),e3.keep fun _ _ z=>sH _ _ z,Zdq hsl,by omega,fun H5 s5=>?_⟩;refine k _ H5 s5 ?_;rw[Zc2 hsl];unfold Wg;rw[e0,decide_eq_true (show(fun _=>0) i<Z0 rs i from npos i hi'),Bool.true_and]
  rw[List.filter_eq_self.mpr (by simp),List.length_map,ial] at hR;have eys:ys=(WH ls st rs (fun _=>0)).map V.bl:=by
   have:∀{is:List Nat}{zs:List V},Paired (fun(i:Nat) v=>v=V.bl (Wg ls st rs (fun _=>0) i)) is zs→zs=(is.map fun i=>Wg ls st rs (fun _=>0) i).map V.bl:=by
    intro is zs h
    induction h with
    |nil=>rfl
    |cons a _ ih=>rw[a,ih];rfl
   exact this hR
  subst eys;have hh3:=s3 _ _ hh2;have hl3:=s3 _ _ hl2;walk_at "rds";refine⟨Nat.zero_le _,fun r hr0=>?_⟩;have s4:Ze H3 (upd H3 r (.lst [])):=Zq hr0;have hr4:(upd H3 r (.lst [])) r=some (.lst []):=Zd;generalize upd H3 r (.lst [])=H4 at*;have s04:=s02.trans (s3.trans s4);have hab4:=s4 _ _ hab3;have hh4:=s4 _ _ hh3;have hl4:=s4 _ _ hl3;have nhl:h≠l:=Zo hh1 hl0;have nha:h≠ab:=Zo hh2 hab0;have nla:l≠ab:=Zo hl2 hab0;have nhr:h≠r:=Zo hh3 hr0;have nlr:l≠r:=Zo hl3 hr0;have nar:ab≠r:=Zo hab3 hr0;have hab00:H ab=none:=ZG s02 hab0;have hr00:H r=none:=ZG (s02.trans s3) hr0;have el0:Z3 rs (fun _=>0)=rs:=by
   refine List.ext_getElem (by simp[Z3]) fun v a1 a2=>?_;have:=hpos rs[v] (List.getElem_mem a2);simp[Z3,Z0,List.getD,a2];omega
  walk_at "rds";refine Zbx (fun m σ H'=>∃(ws:List Nat)(d:Nat→Nat)(a1 a2 a3 a4 a5:Option V),m=tot rs-ws.length∧σ=[some (.ref p),some (.ref s),some (.ref h),some (.ref l),some (.ref ab),some (.ref r),a1,a2,a3,a4,a5]∧Ze H H'∧Fire.Yd (UI ls st rs) (fun _=>0) ws d∧H' h=some (.lst ((Wb ls st d).map V.int))∧H' l=some (.lst ((Z3 rs d).map V.int))∧H' ab=some (.lst ((WH ls st rs d).map V.bl))∧H' r=some (.lst (ws.map fun w:Nat=>V.int w))) _ ⟨[],fun _=>0,_,_,_,_,_,rfl,rfl,s04,.nil _,by rw[e0];exact hh4,by rw[el0];exact hl4,hab4,hr4⟩ ?_;rintro m σ H5 ⟨ws,d,a1,a2,a3,a4,a5,rfl,rfl,s5,hrun,hh5,hl5,hab5,hr5⟩;walk_at "rds";refine⟨ab,_,rfl,.inl (SqL.of hab5),rfl,Zjh _,?_⟩;rw[if_neg (by decide),Zh1];walk_at "rds";refine VB (fun c=>Zdz ?_) (fun c=>?_)
  ·have hin:true∈WH ls st rs d:=by simpa using c
   obtain⟨w,hw1,hw2⟩:=Zc7 hin;have hwn:w<rs.length:=by have:=(List.getElem?_eq_some_iff.mp hw1).1;rw[ZhN] at this;exact this
   have hmay:YQ ls st rs d w:=by
    rw[Ze7 hwn] at hw1;exact(Uo hsl hbt hwn).mp (Option.some.inj hw1)
   have hfirst:UI ls st rs d w:=⟨hmay,fun v hv=>by
    have:=hw2 v hv;rw[Ze7 (by omega)] at this;exact(ZgR hsl hbt (by omega)).mp (Option.some.inj this)⟩
   have hrun':=hrun.snoc hfirst;have hlt:=ZgA (VO hrun) hmay;have w0:(0:Int)≤(w:Int):=Int.natCast_nonneg w;have wl:(ws.map fun w:Nat=>V.int w).length<sizeLine:=Zx (by rw[List.length_map];omega);have wlt:(w:Int)<((Z3 rs d).map V.int).length:=by rw[List.length_map,Zb4];omega
   walk_at "rds";refine Rd.ZlL hab5 hw1 hw2 ?_;walk_at "rds";have s6:Ze H (upd H5 r (.lst ((ws.map fun w:Nat=>V.int w)++ [.int w]))):=s5.new hr00;have hr6:(upd H5 r (.lst ((ws.map fun w:Nat=>V.int w)++ [.int w]))) r=some (.lst ((ws++ [w]).map fun w:Nat=>V.int w)):=by rw[Zd];simp
   have hh6:(upd H5 r (.lst ((ws.map fun w:Nat=>V.int w)++ [.int w]))) h=some (.lst ((Wb ls st d).map V.int)):=by rw[Zg nhr];exact hh5
   have hl6:(upd H5 r (.lst ((ws.map fun w:Nat=>V.int w)++ [.int w]))) l=some (.lst ((Z3 rs d).map V.int)):=by rw[Zg nlr];exact hl5
   have hab6:(upd H5 r (.lst ((ws.map fun w:Nat=>V.int w)++ [.int w]))) ab=some (.lst ((WH ls st rs d).map V.bl)):=by rw[Zg nar];exact hab5
   generalize upd H5 r (.lst ((ws.map fun w:Nat=>V.int w)++ [.int w]))=H6 at*;have atl:=ZO (ns:=Z3 rs d) w0 (by rw[Zb4];omega);walk_at "rds";have eL:((Z3 rs d).map V.int).set (w:Int).toNat (V.int ((Z3 rs d).getD (w:Int).toNat 0-1))=(Z3 rs (Fire.bump d w)).map V.int:=by
    rw[Int.toNat_natCast,←Zhq hwn,List.map_set]
   rw[eL];have s7:Ze H (upd H6 l (.lst ((Z3 rs (Fire.bump d w)).map V.int))):=s6.new hl00;have hl7:(upd H6 l (.lst ((Z3 rs (Fire.bump d w)).map V.int))) l=some (.lst ((Z3 rs (Fire.bump d w)).map V.int)):=Zd;have hr7:(upd H6 l (.lst ((Z3 rs (Fire.bump d w)).map V.int))) r=_:=(Zg nlr.symm).trans hr6;have hh7:(upd H6 l (.lst ((Z3 rs (Fire.bump d w)).map V.int))) h=_:=(Zg nhl).trans hh6;have hab7:(upd H6 l (.lst ((Z3 rs (Fire.bump d w)).map V.int))) ab=_:=(Zg nla.symm).trans hab6;generalize upd H6 l (.lst ((Z3 rs (Fire.bump d w)).map V.int))=H7 at*;clear hr6 hh6 hab6 hl6 atl eL;obtain⟨x,vs,at1,hx,hpx⟩:=h6.at w0 (l:=Yq ls w) (by simp[Zby,hwn]);obtain⟨y,vs',at2,hy,hpy⟩:=h8.at w0 (l:=U6 ls w) (by simp[ZhW,hwn]);obtain⟨ms,hms,htc⟩:=h10.2 w hwn;have at4:atI (ic.map V.ref) (w:Int)=some (.ref (ic.getD w 0)):=Yu (by rw[List.getElem?_map,List.getElem?_eq_getElem (show w<ic.length by rw[h10.1];exact hwn)];simp[List.getD,show w<ic.length by rw[h10.1];exact hwn]);have m1:=s7 _ _ h1;have m5:=s7 _ _ h5;have mx:=s7 _ _ hx;have vl:vs.length=(ZT ls w).length:=by rw[←Paired.length hpx];unfold Yq;simp
   have vl':vs'.length=(ZL ls w).length:=by rw[←Paired.length hpy];unfold U6;simp
   have hln:=Yh (d:=d) hsl;generalize ehs:Wb ls st d=hs0 at*;walk_at "rds";refine WS (ZZ (SqL.of hx)) (fun j σ H'=>Ze H H'∧(∃a2 a3 a4 a5,σ=[some (.ref p),some (.ref s),some (.ref h),some (.ref l),some (.ref ab),some (.ref r),some (.int w),a2,a3,a4,a5])∧H' l=some (.lst ((Z3 rs (Fire.bump d w)).map V.int))∧H' r=some (.lst ((ws++ [w]).map fun w:Nat=>V.int w))∧H' ab=some (.lst ((WH ls st rs d).map V.bl))∧H' h=some (.lst ((bump (fun i=>-(ls.getD i dB).take) hs0 ((ZT ls w).take j)).map V.int))) ⟨s7,⟨_,_,_,_,rfl⟩,hl7,hr7,hab7,hh7⟩ (fun i σ H' h=>h.1) ?_ ?_
   ·rintro j σ H8 hj ⟨s8,⟨a2,a3,a4,a5,rfl⟩,hl8,hr8,hab8,hh8⟩;have hj':j<(ZT ls w).length:=by omega
    obtain⟨t,ht1,ht2⟩:=Zii hpx hj';have hlt:=ZbC (List.getElem_mem hj');have bs':=Zea (f:=fun i=>-(ls.getD i dB).take) (hs:=hs0) hj';rw[ht1];refine Rd.Vj (.of (s8 _ _ ht2)) rfl ?_;generalize (ZT ls w)[j]=m at*;have bl:=WV (fun i=>-(ls.getD i dB).take) ((ZT ls w).take j) hs0;generalize bump (fun i=>-(ls.getD i dB).take) hs0 ((ZT ls w).take j)=us at*;have at3:=ZO (ns:=us) (k:=(m:Int)) (Int.natCast_nonneg m) (by omega);have ml:(m:Int)<((us.map V.int).length:Int):=by simp;omega
    walk_at "rds";refine⟨s8.new hh0,⟨_,_,_,_,rfl⟩,by rw[Zg nhl.symm];exact hl8,by rw[Zg nhr.symm];exact hr8,by rw[Zg nha.symm];exact hab8,?_⟩;rw[Zd,bs',List.map_set]
    rfl
   ·rintro σ H8 ⟨s8,⟨a2,a3,a4,a5,rfl⟩,hl8,hr8,hab8,hh8⟩;have m18:=s8 _ _ h1;have m78:=s8 _ _ h7;have my:=s8 _ _ hy;rw[vl,List.take_length] at hh8;walk_at "rds";have bl:=WV (fun i=>-(ls.getD i dB).take) (ZT ls w) hs0;refine WS (ZZ (SqL.of hy)) (fun j σ H'=>Ze H H'∧(∃a2 a3 a4 a5,σ=[some (.ref p),some (.ref s),some (.ref h),some (.ref l),some (.ref ab),some (.ref r),some (.int w),a2,a3,a4,a5])∧H' l=some (.lst ((Z3 rs (Fire.bump d w)).map V.int))∧H' r=some (.lst ((ws++ [w]).map fun w:Nat=>V.int w))∧H' ab=some (.lst ((WH ls st rs d).map V.bl))∧H' h=some (.lst ((bump (fun i=>(ls.getD i dB).give) (bump (fun i=>-(ls.getD i dB).take) hs0 (ZT ls w)) ((ZL ls w).take j)).map V.int))) ⟨s8,⟨_,_,_,_,rfl⟩,hl8,hr8,hab8,hh8⟩ (fun i σ H' h=>h.1) ?_ ?_
    ·rintro j σ H9 hj ⟨s9,⟨a2,a3,a4,a5,rfl⟩,hl9,hr9,hab9,hh9⟩;have hj':j<(ZL ls w).length:=by omega
     obtain⟨t,ht1,ht2⟩:=Zii hpy hj';have hlt:=ZaD (List.getElem_mem hj');have bs':=Zea (f:=fun i=>(ls.getD i dB).give) (hs:=bump (fun i=>-(ls.getD i dB).take) hs0 (ZT ls w)) hj';rw[ht1];refine Rd.Vj (.of (s9 _ _ ht2)) rfl ?_;generalize (ZL ls w)[j]=m at*;have bl2:=WV (fun i=>(ls.getD i dB).give) ((ZL ls w).take j) (bump (fun i=>-(ls.getD i dB).take) hs0 (ZT ls w));generalize bump (fun i=>(ls.getD i dB).give) (bump (fun i=>-(ls.getD i dB).take) hs0 (ZT ls w)) ((ZL ls w).take j)=us at*;have at3:=ZO (ns:=us) (k:=(m:Int)) (Int.natCast_nonneg m) (by omega);have ml:(m:Int)<((us.map V.int).length:Int):=by simp;omega
     walk_at "rds";refine⟨s9.new hh0,⟨_,_,_,_,rfl⟩,by rw[Zg nhl.symm];exact hl9,by rw[Zg nhr.symm];exact hr9,by rw[Zg nha.symm];exact hab9,?_⟩;rw[Zd,bs',List.map_set]
     rfl
    ·rintro σ H9 ⟨s9,⟨a2,a3,a4,a5,rfl⟩,hl9,hr9,hab9,hh9⟩;rw[vl',List.take_length,ZgO hln] at hh9;have m19:=s9 _ _ h1;have m59:=s9 _ _ h5;have m99:=s9 _ _ h9;have mm:=s9 _ _ hms;walk_at "rds";rw[←ehs,Zek hsl hbt] at hh9;have hln':=Yh (d:=Fire.bump d w) hsl;refine WS (ZZ (SqL.of hms)) (fun j σ H'=>Ze H H'∧(∃a2 a3 a4 a5,σ=[some (.ref p),some (.ref s),some (.ref h),some (.ref l),some (.ref ab),some (.ref r),some (.int w),a2,a3,a4,a5])∧H' l=some (.lst ((Z3 rs (Fire.bump d w)).map V.int))∧H' r=some (.lst ((ws++ [w]).map fun w:Nat=>V.int w))∧H' h=some (.lst ((Wb ls st (Fire.bump d w)).map V.int))∧H' ab=some (.lst ((W9 ls st rs d (Fire.bump d w) (ms.take j)).map V.bl))) ⟨s9,⟨_,_,_,_,rfl⟩,hl9,hr9,hh9,by rw[List.take_zero,ZjK];exact hab9⟩ (fun i σ H' h=>h.1) ?_ ?_
     ·rintro j σ H10 hj ⟨s10,⟨a2,a3,a4,a5,rfl⟩,hl10,hr10,hh10,hab10⟩;have hj':j<ms.length:=by simpa using hj
      have ev:(ms.map V.int).getD j .non= .int ms[j]:=by simp[List.getD,hj']
      have hmj:=(htc.2 ms[j]).mp (List.getElem_mem hj');have hmr:0≤ms[j]∧ms[j]<(rs.length:Int):=by
       rcases hmj with z|⟨i,hi,z⟩
       ·omega
       ·have hil:=ZaD hi;have hbj:=hbt ls[i] (List.getElem_mem hil);rw[Zw hil] at z;omega
      obtain⟨v,hv⟩:∃v:Nat,ms[j]=(v:Int):=⟨ms[j].toNat,by omega⟩;have hvn:v<rs.length:=by omega
      have etk:ms.take (j+1)=ms.take j++ [(v:Int)]:=by rw[List.take_succ_eq_append_getElem hj',hv]
      rw[ev,hv];obtain⟨x2,vs2,at5,hx2,hpx2⟩:=h6.at (w:=(v:Int)) (Int.natCast_nonneg v) (l:=Yq ls v) (by simp[Zby,hvn]);have n1:=s10 _ _ h1;have n5:=s10 _ _ h5;have nx2:=s10 _ _ hx2;have tl:=Zcw (ls:=ls) (w:=v);have atl:=ZO (ns:=Z3 rs (Fire.bump d w)) (k:=(v:Int)) (Int.natCast_nonneg v) (by rw[Zb4];omega);rw[Int.toNat_natCast,ZfO hvn] at atl;have abl:(v:Int)<(((W9 ls st rs d (Fire.bump d w) (ms.take j)).map V.bl).length:Int):=by simp[W9];omega
      walk_at "rds";refine VB (fun c2=>?_) (fun c2=>?_)
      ·have hlt2:Fire.bump d w v<Z0 rs v:=by have:=of_decide_eq_true c2;omega
       walk_at "rds";refine⟨h,x2,Wb ls st (Fire.bump d w),Yq ls v,vs2,rfl,.of hh10,.of nx2,hpx2.keep fun _ _ z=>s10 _ _ z,Zdq hln',by omega,fun H11 s11=>?_⟩;rw[Zc2 hln'];have em:YD ls (Wb ls st (Fire.bump d w)) v=Wg ls st rs (Fire.bump d w) v:=by unfold Wg;rw[decide_eq_true hlt2,Bool.true_and]
       rw[em];have hab11:=s11 _ _ hab10;have hl11:=s11 _ _ hl10;have hr11:=s11 _ _ hr10;have hh11:=s11 _ _ hh10;walk_at "rds";refine⟨(s10.trans s11).new hab00,⟨_,_,_,_,rfl⟩,by rw[Zg nla];exact hl11,by rw[Zg nar.symm];exact hr11,by rw[Zg nha];exact hh11,?_⟩;rw[Zd,etk,←Zd7,List.map_set]
       rfl
      ·have hge:¬Fire.bump d w v<Z0 rs v:=by
        have:=of_decide_eq_false (by simpa using c2:decide (0<(Z0 rs v:Int)-(Fire.bump d w v:Int))=false);omega
       have em:Wg ls st rs (Fire.bump d w) v=false:=by unfold Wg;rw[decide_eq_false hge,Bool.false_and]
       walk_at "rds";refine⟨s10.new hab00,⟨_,_,_,_,rfl⟩,by rw[Zg nla];exact hl10,by rw[Zg nar.symm];exact hr10,by rw[Zg nha];exact hh10,?_⟩;rw[Zd,etk,←Zd7,List.map_set,em]
       rfl
     ·rintro σ H10 ⟨s10,⟨a2,a3,a4,a5,rfl⟩,hl10,hr10,hh10,hab10⟩;rw[List.length_map,List.take_length,Zju hsl hbt htc] at hab10;walk_at "rds";exact⟨tot rs-(ws++ [w]).length,by rw[List.length_append,List.length_singleton];omega,ws++ [w],Fire.bump d w,_,_,_,_,_,rfl,rfl,s10,hrun',hh10,hl10,hab10,hr10⟩
  ·walk_at "rds";exact q r H5 ws d hr00 s5 hr5 hrun (ZiU hsl hbt (by simpa using c))
end
def Vl{K:PySem.W.Frag}{mg:Str→Option Value}(T:Tp K mg):Sp:=fun vs H Q E=>∃(p s c:Addr)(ls:List B5)(rs st cs:List Int),vs=[.ref p,.ref s,.ref c]∧Wq T H p ls rs∧SqL K H s (st.map V.int)∧SqL K H c (cs.map V.int)∧st.length=ls.length∧cs.length=rs.length∧ZK ls rs.length∧Y0 ls∧ls.length≤1000∧(∀x∈cs,0≤x∧x≤1000)∧
 ∀(r:Addr)(H':Hp)(kvs:List (Key×V)),H r=none→Ze H H'→H' r=some (.dK kvs)→V8 ls rs st cs ls.length kvs→Q (.ref r) H'
section
variable {P:Program}{w:World}{K:PySem.W.Frag}{mg:Str→Option Value}{base:Heap}
theorem ZaN(T:Tp K mg):Zk P w K mg base (CXX P w) 1 T.f_Course_waits_behind T.d_Course_waits_behind ["self","starts","counts"] (Vl T):=by
 have cl_Course:=T.cl_Course;have na_Course:=T.na_Course;refine T.F_Course_waits_behind.okX Ys (fun vs H Q E h=>?_) (fun cdv A outer s H vs Q E hr h=>?_)
 ·obtain⟨p,s,c,ls,rs,st,cs,rfl,_⟩:=h
  rfl
 ·have hu:=hr.units;obtain⟨p,s,c,ls,rs,st,cs,rfl,hc,hs,hcs,hsl,hcl,hbt,hsz,hz,hcb,q⟩:=h;obtain⟨dx,a,b,c2,d0,e,ia,ib,ic,bs,h1,h2,h3,h4,h5,h6,h7,h8,h9,h10⟩:=id hc;have hbl:=h4.length;refine⟨_,(Zc (Zy (i:=3) Ys.nd rfl (Or.inl rfl) Zaf)
     (Zc (Z2 PassesOwn.leaving rfl (ZaR (K:=K) rfl rfl T.n_enumerate (Za (ZY (K:=K) rfl (pv 0) rfl) Zb)) (YA (K:=K) (n:=2) rfl rfl (Zz (Zl (i:=4) Ys.nd rfl (Or.inl rfl)) (Zz (Zl (i:=5) Ys.nd rfl (Or.inl rfl)) YB))) (Zc (Zy (i:=6) Ys.nd rfl (Or.inl rfl) (Zs V4 (Zs (Z8 (K:=K) rfl) (Zj (Zp (K:=K) rfl) (pv 1) (pv 4) (fun _ _=>rfl)) (Zs Yo (Zj (Zp (K:=K) rfl) (pv 5) Zh (fun _ _=>rfl)) (Zj (Zp (K:=K) rfl) (pv 2) (Zj (Zp (K:=K) rfl) (pv 5) Zh (fun _ _=>rfl)) (fun _ _=>rfl)))) (Zs Yo (Zj (Zp (K:=K) rfl) (pv 5) Zh (fun _ _=>rfl)) (Zj (Zp (K:=K) rfl) (pv 2) (Zj (Zp (K:=K) rfl) (pv 5) Zh (fun _ _=>rfl)) (fun _ _=>rfl)))))
     (Zf (ZS (PW.pt (Zdg (ZC Up (Zj (Zp (K:=K) rfl) (pv 2) (Zj (Zp (K:=K) rfl) (pv 5) Zh (fun _ _=>rfl)) (fun _ _=>rfl)) (Zj (Zp (K:=K) rfl) (ZY (K:=K) rfl (pv 0) rfl) (Zj (Zp (K:=K) rfl) (pv 5) Zh (fun _ _=>rfl)) (fun _ _=>rfl)) (ZI _)) (Zck (ZC Up (pv 6) (Zj (Zp (K:=K) rfl) (pv 5) Zh (fun _ _=>rfl)) (ZI _))))) (Zf (ZX (Yw (K:=K) rfl PySem.F.plainAttrs_dict PySem.F.slot_dict_setdefault PySem.F.type_dict_setdefault Zh6 (pv 3) (Za (Zj (Zp (K:=K) rfl) (pv 5) Zh (fun _ _=>rfl)) (Za (pv 4) Zb))))) ZH))))
     (Zf (Zu (pv 3))))),?_⟩
  try dsimp only[L2.cxX,L2.ZM,L2.Zn]
  walk_at "rds";intro r hr;have s1:Ze H (upd H r (.dK [])):=Zq hr;have hr1:(upd H r (.dK [])) r=some (.dK []):=Zd;generalize upd H r (.dK [])=H1 at*;have g1:=s1 _ _ h1;have g3:=s1 _ _ h3;walk_at "rds";refine VM (VS (SqL.of h3)) (fun i σ H'=>∃(kvs:List (Key×V))(a1 a2 a3:Option V),σ=[some (.ref p),some (.ref s),some (.ref c),some (.ref r),a1,a2,a3]∧Ze H H'∧H' r=some (.dK kvs)∧V8 ls rs st cs i kvs) ⟨[],_,_,_,rfl,s1,hr1,V8.nil⟩ (fun i σ H' h=>(let⟨_,_,_,_,_,s,_⟩:=h;s)) ?_ ?_
  ·rintro i σ H4 v H5 hi ⟨kvs,a1,a2,a3,rfl,s4,hr4,hw⟩ ⟨t,ht,rfl,rfl⟩;have hil:i<ls.length:=by omega
   obtain⟨u,hu1,hu2⟩:=h4.getD (i:=i) hil;rw[hu1];have nrt:r≠t:=Zo hr4 ht;have s5:Ze H (upd H4 t (.tup [.int i,.ref u])):=s4.trans (Zq ht);have ht5:(upd H4 t (.tup [.int i,.ref u])) t=some (.tup [.int i,.ref u]):=Zd;have hr5:(upd H4 t (.tup [.int i,.ref u])) r=some (.dK kvs):=(Zg nrt).trans hr4;generalize upd H4 t (.tup [.int i,.ref u])=H5 at*;refine Rd.Vj (.of ht5) rfl ?_;have hb:=hbt ls[i] (List.getElem_mem hil);obtain⟨gv,tk,g0,t0,gl,tl,eg,et⟩:=hsz i hil;rw[←Zw (d:=dB) hil] at hb;have hu5:=s5 _ _ hu2;have g15:=s5 _ _ h1;have g25:=s5 _ _ h2;have hs5:=s5.seq hs;have hc5:=s5.seq hcs;have hkl:=hw.len;have hkz:kvs.length<sizeLine:=Zx (by omega);have hws:=hw.skip;have hwa:=hw.add;unfold Yp at hws hwa;generalize ls.getD i dB=bb at*;have cb:∀{w:Int},0≤w→w<rs.length→∃n:Nat,cs.getD w.toNat 0=(n:Int)∧n<2 ^ 10:=fun{w} a b=>by
    have hm:cs.getD w.toNat 0∈cs:=by rw[Zw (by omega)];exact List.getElem_mem _
    obtain⟨x0,x1⟩:=hcb _ hm;exact⟨(cs.getD w.toNat 0).toNat,by omega,by omega⟩
   obtain⟨n1,en1,l1⟩:=cb hb.1 hb.2.1;obtain⟨n2,en2,l2⟩:=cb hb.2.2.1 hb.2.2.2;have mo1:IntMulOk bb.give (cs.getD bb.giver.toNat 0):=by rw[en1,eg];exact Vx gl l1 (by decide)
   have mo2:IntMulOk bb.take (cs.getD bb.taker.toNat 0):=by rw[en2,et];exact Vx tl l2 (by decide)
   have at1:=ZO (ns:=st) (k:=(i:Int)) (Int.natCast_nonneg i) (by omega);have at2:=ZO (ns:=cs) (k:=bb.giver) hb.1 (by omega);have at3:=ZO (ns:=cs) (k:=bb.taker) hb.2.2.1 (by omega);have at4:=ZO (ns:=rs) (k:=bb.taker) hb.2.2.1 (by omega);rw[Int.toNat_natCast] at at1;dsimp only[B5.v] at hu5;walk_at "rds";refine VB (fun c1=>?_) (fun c1=>?_)
   ·have c1':=of_decide_eq_true c1;walk_at "rds";refine VB (fun c3=>?_) (fun c3=>?_)
    ·have c3':=of_decide_eq_true c3;walk_at "rds";refine⟨.inr (.inr (.inl ⟨rfl,.inl ⟨_,hr5⟩⟩)),?_⟩;walk_at "rds";refine Rd.ZlC hr5 hkz (fun y hy=>?_) (fun hn=>?_)
     ·walk_at "rds";exact⟨kvs,_,_,_,rfl,s5,hr5,hws fun _=>⟨y,hy⟩⟩
     ·walk_at "rds";exact⟨_,_,_,_,rfl,s5.new hr,Zd,hwa ⟨c1',c3'⟩ hn⟩
    ·walk_at "rds";exact⟨kvs,_,_,_,rfl,s5,hr5,hws fun z=>absurd (decide_eq_true z.2) c3⟩
   ·walk_at "rds";exact⟨kvs,_,_,_,rfl,s5,hr5,hws fun z=>absurd (decide_eq_true z.1) c1⟩
  ·rintro σ H4 ⟨kvs,a1,a2,a3,rfl,s4,hr4,hw⟩;rw[hbl] at hw;walk_at "rds";exact q r H4 kvs hr s4 hr4 hw
end
def VL{K:PySem.W.Frag}{mg:Str→Option Value}(T:Tp K mg):Sp:=fun vs H Q E=>∃(p s c:Addr)(ls:List B5)(rs st cs:List Int),vs=[.ref p,.ref s,.ref c]∧Wq T H p ls rs∧SqL K H s (st.map V.int)∧SqL K H c (cs.map V.int)∧st.length=ls.length∧cs.length=rs.length∧ZK ls rs.length∧Y0 ls∧ls.length≤1000∧rs.length≤1000∧(∀x∈cs,0≤x∧x≤1000)∧
 (∃j<ls.length,Yp ls rs st cs j)∧(∀j<ls.length,Yp ls rs st cs j→∃i<ls.length,Z7 ls i=V2 ls j∧Yp ls rs st cs i)∧
 ∀(r:Addr)(H':Hp)(ring:List Nat),H r=none→Ze H H'→H' r=some (.lst (ring.map fun j:Nat=>V.int j))→Vy ls rs st cs ring→Q (.ref r) H'
section
variable {P:Program}{w:World}{K:PySem.W.Frag}{mg:Str→Option Value}{base:Heap}
theorem ZaO(T:Tp K mg):Zk P w K mg base (CXX P w) 2 T.f_Course_ring_behind T.d_Course_ring_behind ["self","starts","counts"] (VL T):=by
 have G_Course_waits_behind:Zk P w K mg base (CXX P w) 1 T.f_Course_waits_behind T.d_Course_waits_behind ["self","starts","counts"] (Vl T):=(ZaN T).mono (by decide);have cl_Course:=T.cl_Course;have na_Course:=T.na_Course;refine T.F_Course_ring_behind.okX Ye (fun vs H Q E h=>?_) (fun cdv A outer s H vs Q E hr h=>?_)
 ·obtain⟨p,s,c,ls,rs,st,cs,rfl,_⟩:=h
  rfl
 ·have hu:=hr.units;obtain⟨p,s,c,ls,rs,st,cs,rfl,hc,hs,hcs,hsl,hcl,hbt,hsz,hz,hn,hcb,⟨j0,hj0,hsh0⟩,hnx,q⟩:=h;obtain⟨dx,a,b,c2,d0,e,ia,ib,ic,bs,h1,h2,h3,h4,h5,h6,h7,h8,h9,h10⟩:=id hc;refine⟨_,(Zc (Zy (i:=3) Ye.nd rfl (Or.inl rfl) (Yc (pv 0) T.cl_Course T.M_Course_waits_behind G_Course_waits_behind hr T.b_Course_waits_behind .nil Zm (Za (pv 1) (Za (pv 2) Zb))))
     (Zc (Zy (i:=4) Ye.nd rfl (Or.inl rfl) Zaf)
     (Zc (Zy (i:=5) Ye.nd rfl (Or.inl rfl) (Wc Zb))
     (Zc (Zy (i:=6) Ye.nd rfl (Or.inl rfl) (Zr (ZlI rfl) (by rfl) T.n_min PyProof.Rows.boot_min (Za (pv 3) Zb)))
     (Zc (Zak PassesOwn.leaving (ZC (ZbB hu) (pv 6) (pv 4) (by with_unfolding_all rfl)) (Zc (YZ (Zr (ZU (K:=K) rfl) (by rfl) T.n_len PySem.boot_len (Za (pv 5) Zb)) (WJ (pv 4) (pv 6) (Zal hu)))
     (Zc (ZX (Yw (K:=K) rfl PySem.F.plainAttrs_list PySem.F.slot_list_append PySem.F.type_list_append Yg (pv 5) (Za (Zj (Zci hu) (pv 3) (pv 6) (fun _ _=>rfl)) Zb)))
     (Zf (Zy (i:=6) Ye.nd rfl (Or.inl rfl) (Zj (Zp (K:=K) rfl) (Zj (Zp (K:=K) rfl) (ZY (K:=K) rfl (pv 0) rfl) (Zj (Zci hu) (pv 3) (pv 6) (fun _ _=>rfl)) (fun _ _=>rfl)) Zh (fun _ _=>rfl)))))))
     (Zf (Zu (Zan (Zft (K:=K) rfl) (pv 5) (ZaY (Zj (Zci hu) (pv 4) (pv 6) (fun _ _=>rfl))) Za4)))))))),?_⟩
  try dsimp only[L2.cxX,L2.ZM,L2.Zn]
  walk_at "rds";refine⟨p,s,c,ls,rs,st,cs,rfl,hc,hs,hcs,hsl,hcl,hbt,hsz,hz,hcb,fun wa H1 kvs hwa s1 hwa1 hw=>?_⟩;walk_at "rds";intro pl hpl;have s2:Ze H1 (upd H1 pl (.dK [])):=Zq hpl;have hpl2:(upd H1 pl (.dK [])) pl=some (.dK []):=Zd;generalize upd H1 pl (.dK [])=H2 at*;have hwa2:=s2 _ _ hwa1;have hpl0:H pl=none:=ZG s1 hpl;walk_at "rds";refine⟨Nat.zero_le _,fun y hy=>?_⟩;have s3:Ze H2 (upd H2 y (.lst [])):=Zq hy;have hy3:(upd H2 y (.lst [])) y=some (.lst (([]:List Nat).map fun j:Nat=>V.int j)):=Zd;generalize upd H2 y (.lst [])=H3 at*;have hwa3:=s3 _ _ hwa2;have hpl3:=s3 _ _ hpl2;have s03:=s1.trans (s2.trans s3);have hy0:H y=none:=ZG (s1.trans s2) hy;have nwp:wa≠pl:=Zo hwa1 hpl;have nwy:wa≠y:=Zo hwa2 hy;have npy:pl≠y:=Zo hpl2 hy;obtain⟨ks,eks,hks⟩:=hw.keys;obtain⟨y0,ey0⟩:=hw.all j0 hj0 hsh0;have hk0:0<kvs.length:=by
   cases kvs with
   |nil=>simp[ZcS] at ey0
   |cons x xs=>exact Nat.succ_pos _
  walk_at "rds";refine Rd.ZmP hwa3 eks hk0 (fun M hM hMin=>?_);obtain⟨yM,eM⟩:=hks M hM;walk_at "rds";refine Zbx (fun m σ H'=>∃(ys:List Nat)(kp:List (Key×V))(w:Int)(yv:V),m=rs.length+1-ys.length∧σ=[some (.ref p),some (.ref s),some (.ref c),some (.ref wa),some (.ref pl),some (.ref y),some (.int w)]∧ZJ [pl,y] H3 H'∧H' pl=some (.dK kp)∧H' y=some (.lst (ys.map fun j:Nat=>V.int j))∧V9 ls rs st cs ys w kp∧valV kvs (Sum.inl w)=some yv) _ ⟨[],[],M,yM,rfl,rfl,ZJ.refl,hpl3,hy3,V9.nil M,eM⟩ ?_;rintro m σ H4 ⟨ys,kp,w,yv,rfl,rfl,f4,hpl4,hy4,how,ew⟩;have hshort:=how.short hbt;have hwa4:=f4.keep _ _ hwa3 (by simp[nwp,nwy]);obtain⟨j,hj,rfl,etj,hsj⟩:=hw.val w yv ew;walk_at "rds";have hjt:Z7 ls j=w:=etj;have hst':=how.step (j:=j);have hb4:=f4.keep _ _ ((s1.trans (s2.trans s3)) _ _ h3) (by
   have n1:b≠pl:=Zo h3 hpl0;have n2:b≠y:=Zo h3 hy0;simp[n1,n2])
  have hp4:=f4.keep _ _ ((s1.trans (s2.trans s3)) _ _ h1) (by
   have n1:p≠pl:=Zo h1 hpl0;have n2:p≠y:=Zo h1 hy0;simp[n1,n2])
  obtain⟨u,hu1,hu2⟩:=h4.getD (i:=j) hj;have hu4:=f4.tups _ _ (s03 _ _ hu2);have nup:u≠pl:=Zo hu2 hpl0;have nuy:u≠y:=Zo hu2 hy0;have npb:p≠pl:=Zo h1 hpl0;have npy':p≠y:=Zo h1 hy0;have nbp:b≠pl:=Zo h3 hpl0;have nby:b≠y:=Zo h3 hy0;refine VB (fun cc=>Zdz ?_) (fun cc=>?_)
  ·have hno:valV kp (Sum.inl w)=none:=by simpa using cc
   have hkl:kp.length<sizeLine:=Zx (by have:=how.len;omega);have hyl:(ys.map fun j:Nat=>V.int j).length<sizeLine:=Zx (by rw[List.length_map];omega);have how':=how.step hno hj hsj hjt;have hle:=how'.short hbt;rw[List.length_append,List.length_singleton] at hle;walk_at "rds";have f5:ZJ [pl,y] H4 (upd H4 pl (.dK (Ya kp (Sum.inl w) (.int ys.length)))):=Ym (by simp) hpl4 (by intro _ z;cases z);have hpl5:(upd H4 pl (.dK (Ya kp (Sum.inl w) (.int ys.length)))) pl=some (.dK (Ya kp (Sum.inl w) (.int ys.length))):=Zd;have hy5:(upd H4 pl (.dK (Ya kp (Sum.inl w) (.int ys.length)))) y=_:=(Zg npy.symm).trans hy4;have hwa5:(upd H4 pl (.dK (Ya kp (Sum.inl w) (.int ys.length)))) wa=_:=(Zg nwp).trans hwa4;have hp5:(upd H4 pl (.dK (Ya kp (Sum.inl w) (.int ys.length)))) p=_:=(Zg npb).trans hp4;have hb5:(upd H4 pl (.dK (Ya kp (Sum.inl w) (.int ys.length)))) b=_:=(Zg nbp).trans hb4;have hu5:(upd H4 pl (.dK (Ya kp (Sum.inl w) (.int ys.length)))) u=_:=(Zg nup).trans hu4;have elen:((ys.map fun j:Nat=>V.int j).length:Int)=(ys.length:Int):=by simp
   rw[elen];generalize upd H4 pl (.dK (Ya kp (Sum.inl w) (.int ys.length)))=H5 at*;walk_at "rds";have f6:ZJ [pl,y] H5 (upd H5 y (.lst ((ys.map fun j:Nat=>V.int j)++ [.int j]))):=Ym (by simp) hy5 (by intro _ z;cases z);have hy6:(upd H5 y (.lst ((ys.map fun j:Nat=>V.int j)++ [.int j]))) y=some (.lst ((ys++ [j]).map fun j:Nat=>V.int j)):=by rw[Zd];simp
   have hpl6:(upd H5 y (.lst ((ys.map fun j:Nat=>V.int j)++ [.int j]))) pl=_:=(Zg npy).trans hpl5;have hwa6:(upd H5 y (.lst ((ys.map fun j:Nat=>V.int j)++ [.int j]))) wa=_:=(Zg nwy).trans hwa5;have hp6:(upd H5 y (.lst ((ys.map fun j:Nat=>V.int j)++ [.int j]))) p=_:=(Zg npy').trans hp5;have hb6:(upd H5 y (.lst ((ys.map fun j:Nat=>V.int j)++ [.int j]))) b=_:=(Zg nby).trans hb5;have hu6:(upd H5 y (.lst ((ys.map fun j:Nat=>V.int j)++ [.int j]))) u=_:=(Zg nuy).trans hu5;generalize upd H5 y (.lst ((ys.map fun j:Nat=>V.int j)++ [.int j]))=H6 at*;have f06:=f4.trans (f5.trans f6);have hbl:=h4.length;have at1:atI bs (j:Int)=some (.ref u):=Yu (by rw[List.getElem?_eq_getElem (show j<bs.length by omega),←hu1,Zw (show j<bs.length by omega)]);obtain⟨i,hi,eti,hsi⟩:=hnx j hj hsj;obtain⟨yn,eyn⟩:=hw.all i hi hsi;have eyn':valV kvs (Sum.inl (V2 ls j))=some yn:=by rw[←eti];exact eyn
   have eg:V2 ls j=(ls.getD j dB).giver:=rfl;rw[eg] at how' eyn';generalize ls.getD j dB=bb at*;dsimp only[B5.v] at hu6;walk_at "rds";exact⟨_,by rw[List.length_append,List.length_singleton];omega,ys++ [j],_,bb.giver,yn,rfl,rfl,f06,hpl6,hy6,how',eyn'⟩
  ·obtain⟨yp,eyp⟩:∃yp,valV kp (Sum.inl w)=some yp:=by
    cases e:valV kp (Sum.inl w) with
    |none=>rw[e] at cc;exact absurd rfl cc
    |some yp=>exact⟨yp,rfl⟩
   obtain⟨k,rfl,hk,hring⟩:=how.ring eyp;walk_at "rds";have s4:Ze H H4:=fun x o e=>f4.keep _ _ (s03 _ _ e) (by
    have n1:x≠pl:=Zo e hpl0;have n2:x≠y:=Zo e hy0;simp[n1,n2])
   refine Rd.slL (.of hy4) (fun r hr=>?_);refine q r _ (ys.drop k) (ZG s4 hr) (s4.trans (Zq hr)) ?_ hring;rw[Zd,ZjF (by rw[List.length_map];omega),List.map_drop]
end
def Uf{K:PySem.W.Frag}{mg:Str→Option Value}(T:Tp K mg):Sp:=fun vs H Q E=>∃(p s:Addr)(ls:List B5)(rs st:List Int),vs=[.ref p,.ref s]∧Wq T H p ls rs∧SqL K H s (st.map V.int)∧st.length=ls.length∧ZK ls rs.length∧Y0 ls∧Zjo ls rs∧ls.length≤1000∧rs.length≤1000∧(∀r∈rs,1≤r)∧(∀x∈st,0≤x)∧tot rs≤1000∧
 (∀(t r:Addr)(H':Hp)(ws:List Nat)(d:Nat→Nat),H r=none→Ze H H'→H' t=some (.tup [.ref r,.non])→H' r=some (.lst (ws.map fun w:Nat=>V.int w))→Fire.Yd (UI ls st rs) (fun _=>0) ws d→(∀v<rs.length,d v=Z0 rs v)→Q (.ref t) H')∧
 (∀(t u c g:Addr)(H':Hp)(ws:List Nat)(d:Nat→Nat)(ring:List Nat),H c=none→H g=none→Ze H H'→H' t=some (.tup [.non,.ref u])→H' u=some (.tup [.ref c,.ref g])→H' c=some (.lst ((Z6 rs.length d).map V.int))→H' g=some (.lst (ring.map fun j:Nat=>V.int j))→Fire.Yd (UI ls st rs) (fun _=>0) ws d→(∀w,¬YQ ls st rs d w)→(∃v<rs.length,d v<Z0 rs v)→Vy ls rs st (Z6 rs.length d) ring→Q (.ref t) H')
section
variable {P:Program}{w:World}{K:PySem.W.Frag}{mg:Str→Option Value}{base:Heap}
theorem Zbw(T:Tp K mg):Zk P w K mg base (CXX P w) 3 T.f_Course_told_from T.d_Course_told_from ["self","starts"] (Uf T):=by
 have G_Course_row_from:Zk P w K mg base (CXX P w) 2 T.f_Course_row_from T.d_Course_row_from ["self","starts"] (UL T):=(ZbG T).mono (by decide);have G_Course_ring_behind:Zk P w K mg base (CXX P w) 2 T.f_Course_ring_behind T.d_Course_ring_behind ["self","starts","counts"] (VL T):=(ZaO T).mono (by decide);have cl_Course:=T.cl_Course;have na_Course:=T.na_Course;refine T.F_Course_told_from.okX WN (fun vs H Q E h=>?_) (fun cdv A outer s H vs Q E hr h=>?_)
 ·obtain⟨p,s,ls,rs,st,rfl,_⟩:=h
  rfl
 ·have hu:=hr.units;obtain⟨p,s,ls,rs,st,rfl,hc,hs,hsl,hbt,hsz,hbal,hz,hn,hpos,hs0,htot,q1,q2⟩:=h;refine⟨_,(Zc (Zy (i:=2) WN.nd rfl (Or.inr rfl) (Yc (pv 0) T.cl_Course T.M_Course_row_from G_Course_row_from hr T.b_Course_row_from .nil Zm (Za (pv 1) Zb)))
     (Zc (ZS (ZC (WK (K:=K) rfl hu) (Zr (ZU (K:=K) rfl) (by rfl) T.n_len PySem.boot_len (Za (pv 2) Zb)) (Zr (Zhs (K:=K) rfl rfl) (by rfl) T.n_sum PyProof.Rows.boot_sum (Za (ZY (K:=K) rfl (pv 0) rfl) Zb)) (ZI _)) (Zf (Zu (YT (Za (pv 2) (Za Vp Zb))))) ZH)
     (Zc (Zca (j:=3) rfl (Yk (x:="work") (zs:=["row"]) (ix:=[2]) (Zi YL) ["self","starts","row","counts"] rfl rfl (by decide+kernel)) (ZW rfl T.n_range (Za (Zr (ZU (K:=K) rfl) (by rfl) T.n_len PySem.boot_len (Za (ZY (K:=K) rfl (pv 0) rfl) Zb)) Zb)) (fun cl C s H fp=>⟨(Zl (i:=0) (show(["work","row"]:List Str).Nodup by decide+kernel) rfl (Or.inl rfl)),Yn,(Yw (K:=K) rfl PySem.F.plainAttrs_list PySem.F.slot_list_count PySem.F.type_list_count (Zeb (K:=K) rfl) (pv 1) (Za (pv 0) Zb))⟩) WN.nd rfl (Or.inl rfl))
     (Zf (Zu (YT (Za Vp (Za (YT (Za (pv 3) (Za (Yc (pv 0) T.cl_Course T.M_Course_ring_behind G_Course_ring_behind hr T.b_Course_ring_behind .nil Zm (Za (pv 1) (Za (pv 3) Zb))) Zb))) Zb)))))))),?_⟩
  try dsimp only[L2.cxX,L2.ZM,L2.Zn]
  walk_at "rds";refine⟨p,s,ls,rs,st,rfl,hc,hs,hsl,hbt,hz,hn,hpos,htot,fun r H1 ws d hr s1 hr1 hrun hst=>?_⟩;obtain⟨hle,hlen,hlt⟩:=Za7 (VO hrun);have esum:=Zcc (rs:=rs) fun r hr=>(by have:=hpos r hr;omega);have hc1:=hc.same s1;obtain⟨dx,a,b,c,d0,e,ia,ib,ic,bs,h1,h2,h3,h4,h5,h6,h7,h8,h9,h10⟩:=id hc1;walk_at "rds";refine Rd.ZiV (.of h2) ?_;rw[←esum];walk_at "rds";have elen:((ws.map fun w:Nat=>V.int w).length:Int)=(ws.length:Int):=by simp
  rw[elen];refine VB (fun cc=>?_) (fun cc=>?_)
  ·have he:ws.length=tot rs:=by have:=of_decide_eq_true cc;omega
   walk_at "rds";refine⟨by show 2≤sizeLine;decide,fun t ht=>?_⟩;refine q1 t r _ ws d hr (s1.trans (Zq ht)) Zd (Zq ht _ _ hr1) hrun (Zgx hle ?_);rw[←hlen,he]
   rfl
  ·have he:ws.length≠tot rs:=fun z=>cc (decide_eq_true (by omega));have hex:∃v<rs.length,d v<Z0 rs v:=by
    by_cases z:∃v<rs.length,d v<Z0 rs v
    ·exact z
    ·exfalso;refine he ?_;rw[hlen];have:∀v<rs.length,d v=Z0 rs v:=fun v hv=>by
      have:=hle v hv;rcases Nat.lt_or_ge (d v) (Z0 rs v) with y|y
      ·exact absurd ⟨v,hv,y⟩ z
      ·omega
     exact Nat.le_antisymm (ZaU fun v hv=>by rw[this v hv];exact Nat.le_refl _) (ZaU fun v hv=>by rw[this v hv];exact Nat.le_refl _)
   have ecnt:∀v,d v=ws.count v:=fun v=>by have:=(VO hrun).count v;omega
   have rl:(rs.map V.int).length=rs.length:=by simp
   have hr1':H1 r=some (.lst ((ws.map fun w:Nat=>(w:Int)).map V.int)):=by rw[hr1,List.map_map];rfl
   walk_at "rds";refine YR W3 (Zx (by rw[rl];exact hn)) (fun _=>true) (fun i=> .int (((ws.map fun w:Nat=>(w:Int)).count (0+(i:Int)):Nat):Int)) (fun i H' Kc hi sm k=>?_) (fun i H' Kc hi _ sm k=>?_) (fun c2 H2 hc20 s2 hc2=>?_)
   ·walk_at "rds";exact k H' (Ze.refl H')
   ·have hr2:=sm _ _ hr1';walk_at "rds";refine Rd.ZhY (SqL.of hr2) ?_;exact k H' (Ze.refl H')
   ·have ec:H2 c2=some (.lst ((Z6 rs.length d).map V.int)):=by
     rw[hc2,List.filter_eq_self.mpr (by simp),rl,Int.toNat_natCast];refine congrArg (fun z=>some (HO.lst z)) ?_;unfold Z6;rw[List.map_map];refine List.map_congr_left fun v hv=>?_;show V.int _=V.int ((d v:Nat):Int);rw[Int.zero_add,ecnt v]
     congr 2
     rw[List.count_eq_countP,List.count_eq_countP,List.countP_map];refine List.countP_congr fun x _=>?_;simp;omega
    have hcp:∀x∈Z6 rs.length d,0≤x∧x≤1000:=fun x hx=>by
     obtain⟨v,hv,rfl⟩:=List.mem_map.mp hx;have h1:=hle v (by simpa using hv);have h2:ws.count v≤ws.length:=List.count_le_length;have h3:=ecnt v;omega
    obtain⟨v0,hv0,hd0⟩:=hex;obtain⟨j0,hj0,_,hsj0⟩:=ZcD hsl hbt hpos hst hv0 hd0;have hcc:=hc1.same s2;walk_at "rds";refine⟨p,s,c2,ls,rs,st,_,rfl,hcc,s2.seq (s1.seq hs),.of ec,hsl,W2,hbt,hsz,hz,hn,hcp,⟨j0,hj0,hsj0⟩,fun j hj hsj=>Zho hsl hbt hpos hst hbal hle hs0 hsz hj hsj,fun g H3 ring hg s3 hg3 hring=>?_⟩;walk_at "rds";refine⟨by show 2≤sizeLine;decide,fun u hu'=>?_⟩;have s4:Ze H3 (upd H3 u (.tup [.ref c2,.ref g])):=Zq hu';have hu4:(upd H3 u (.tup [.ref c2,.ref g])) u=some (.tup [.ref c2,.ref g]):=Zd;generalize upd H3 u (.tup [.ref c2,.ref g])=H4 at*;walk_at "rds";refine⟨by show 2≤sizeLine;decide,fun t ht=>?_⟩;have s5:Ze H4 (upd H4 t (.tup [.non,.ref u])):=Zq ht;have s24:=s3.trans s4;exact q2 t u c2 g _ ws d ring (ZG s1 hc20) (ZG (s1.trans s2) hg) ((s1.trans s2).trans (s24.trans s5)) Zd (s5 _ _ hu4) (s5 _ _ (s24 _ _ ec)) (s5 _ _ (s4 _ _ hg3)) hrun hst ⟨v0,hv0,hd0⟩ hring
end
def Wv{K:PySem.W.Frag}{mg:Str→Option Value}(T:Tp K mg):Sp:=fun vs H Q E=>∃(p:Addr)(i:Int)(hl:HM)(fp:List Addr),vs=[.ref p,.int i]∧ZE T H p hl fp∧
 (¬(0≤i∧i<hl.names.length)→E (.ref T.X_NoWork) none H)∧(0≤i→i<hl.names.length→Q .non H)
section
variable {P:Program}{w:World}{K:PySem.W.Frag}{mg:Str→Option Value}{base:Heap}
theorem Vh(T:Tp K mg):Zk P w K mg base (CXX P w) 4 T.f_Hall_need_work T.d_Hall_need_work ["self","work"] (Wv T):=by
 have G_is_number_below:Zk P w K mg base (CXX P w) 3 T.f_is_number_below T.d_is_number_below ["thing","bound"] (YO T):=(UH T).mono (by decide);have cl_Hall:=T.cl_Hall;have na_Hall:=T.na_Hall;refine T.F_Hall_need_work.okX Zcq (fun vs H Q E h=>?_) (fun cdv A outer s H vs Q E hr h=>?_)
 ·obtain⟨p,i,hl,fp,rfl,_⟩:=h
  rfl
 ·have hu:=hr.units;obtain⟨p,i,hl,fp,rfl,hh,e1,q⟩:=h;obtain⟨dx,a,b,bs,rfl,h1,h2,h3,h4,nab,h6⟩:=id hh;refine⟨_,(Zf (ZS (YS (Yf (K:=K) rfl (Zv G_is_number_below hr rfl T.m_is_number_below T.F_is_number_below.kp T.b_is_number_below .nil Zm (Za (pv 1) (Za (Zr ZhI (by rfl) T.n_len PySem.boot_len (Za (ZY (K:=K) rfl (pv 0) rfl) Zb)) Zb))) (fun _=>rfl))) (Zf (Y7 T.gx_NoWork T.ex_NoWork PySem.F.excBase_ValueError rfl (Za Y8 Zb))) ZH)),?_⟩
  try dsimp only[L2.cxX,L2.ZM,L2.Zn]
  walk_at "rds";rw[UT]
  by_cases c:0≤i∧i<hl.names.length
  ·rw[decide_eq_true c];walk_at "rds";exact q c.1 c.2
  ·rw[decide_eq_false c];walk_at "rds";exact e1 c
end
def Zai{K:PySem.W.Frag}{mg:Str→Option Value}(T:Tp K mg):Sp:=fun vs H Q E=>∃(p:Addr)(w:Int)(hl:HM)(fp:List Addr),vs=[.ref p,.int w]∧ZE T H p hl fp∧hl.belts.length≤1000∧
 (¬(0≤w∧w<hl.names.length)→E (.ref T.X_NoWork) none H)∧(0≤w→w<hl.names.length→∀r H',H r=none→Ze H H'→H' r=some (.lst ((ZT hl.belts w).map fun i:Nat=>V.int i))→Q (.ref r) H')
section
variable {P:Program}{w:World}{K:PySem.W.Frag}{mg:Str→Option Value}{base:Heap}
theorem ZcZ(T:Tp K mg):Zk P w K mg base (CXX P w) 5 T.f_Hall_entering T.d_Hall_entering ["self","work"] (Zai T):=by
 have G_Hall_need_work:Zk P w K mg base (CXX P w) 4 T.f_Hall_need_work T.d_Hall_need_work ["self","work"] (Wv T):=(Vh T).mono (by decide);have cl_Hall:=T.cl_Hall;have na_Hall:=T.na_Hall;refine T.F_Hall_entering.okX ZcO (fun vs H Q E h=>?_) (fun cdv A outer s H vs Q E hr h=>?_)
 ·obtain⟨p,w,hl,fp,rfl,_⟩:=h
  rfl
 ·have hu:=hr.units;obtain⟨p,w,hl,fp,rfl,hh,hz,e1,q⟩:=h;obtain⟨dx,a,b,bs,rfl,h1,h2,h3,h4,nab,h6⟩:=id hh;have hb:=h6.length;refine⟨_,(Zc (ZX (Yc (pv 0) T.cl_Hall T.M_Hall_need_work G_Hall_need_work hr T.b_Hall_need_work .nil Zm (Za (pv 1) Zb)))
     (Zf (Zu (WW (xs:=["belt","row"]) rfl (Yk (x:="belt") (zs:=["work"]) (ix:=[1]) (Zi Wk) ["self","work"] rfl rfl (by decide+kernel)) (ZaR (K:=K) rfl rfl T.n_enumerate (Za (ZY (K:=K) rfl (pv 0) rfl) Zb)) (fun cl C s H fp=>⟨(YA (K:=K) (n:=2) rfl rfl (Zz (Zl (i:=0) (show(["belt","row","work"]:List Str).Nodup by decide+kernel) rfl (Or.inl rfl)) (Zz (Zl (i:=1) (show(["belt","row","work"]:List Str).Nodup by decide+kernel) rfl (Or.inl rfl)) YB))),(Zcm (ZC (WK (K:=K) rfl hu) (Zj (Zp (K:=K) rfl) (pv 1) Zh (fun _ _=>rfl)) (pv 2) (ZI _))),(pv 0)⟩))))),?_⟩
  try dsimp only[L2.cxX,L2.ZM,L2.Zn]
  walk_at "rds";refine⟨p,w,hl,_,rfl,hh,e1,fun w0 w1=>?_⟩;walk_at "rds";refine YJ (own:=2) (VS (SqL.of h4)) (Zx (by omega)) (fun i=>[some (.int i),some (bs.getD i .non)]) (fun _=>rfl) (fun i=>decide ((hl.belts.getD i dB).taker=w)) (fun i v _=>v= .int i) (fun _ _ _ _ _ z=>z) (fun i a' H' v H2 Kg hi sm y ha k=>?_) (fun i H' Kc hi sm k=>?_) (fun pp i H' Kc hi hc hp0 hp1 sm k=>?_) (fun r H' ys hr sm hl' hR=>?_)
  ·obtain⟨t,ht,rfl,rfl⟩:=y;obtain⟨x1,x2,rfl⟩:∃x1 x2,a'=[x1,x2]:=by
    match a',ha with
    | [x1,x2],_=>exact⟨x1,x2,rfl⟩
   refine Rd.Vj (.of Zd) rfl ?_;walk_at "rds";exact k _ (Zq ht)
  ·obtain⟨t,ht1,ht2⟩:=h6.getD (i:=i) (by omega);rw[ht1];have ht3:=sm _ _ ht2;generalize hl.belts.getD i dB=bb at*;dsimp only[B5.v] at ht3;walk_at "rds";exact k H' (Ze.refl H')
  ·walk_at "rds";exact k _ H' (Ze.refl H') rfl
  ·refine q w0 w1 r H' hr sm ?_;rw[hl',UZ (R:=fun i v _=>v=V.int (i:Nat)) (H:=H') (r:=fun i:Nat=>V.int i) (fun _ _ z=>z) hR,hb]
   rfl
end
def ZcE{K:PySem.W.Frag}{mg:Str→Option Value}(T:Tp K mg):Sp:=fun vs H Q E=>∃(p:Addr)(w:Int)(hl:HM)(fp:List Addr),vs=[.ref p,.int w]∧ZE T H p hl fp∧hl.belts.length≤1000∧0≤w∧w<hl.names.length∧
 ∀r H' ys,H r=none→Ze H H'→H' r=some (.lst ys)→Vs H' (Yq hl.belts w) ys→Q (.ref r) H'
section
variable {P:Program}{w:World}{K:PySem.W.Frag}{mg:Str→Option Value}{base:Heap}
theorem Zgf(T:Tp K mg):Zk P w K mg base (CXX P w) 6 T.f_takes_of T.d_takes_of ["hall","work"] (ZcE T):=by
 have G_Hall_entering:Zk P w K mg base (CXX P w) 5 T.f_Hall_entering T.d_Hall_entering ["self","work"] (Zai T):=(ZcZ T).mono (by decide);have G_Hall_belt_at:Zk P w K mg base (CXX P w) 5 T.f_Hall_belt_at T.d_Hall_belt_at ["self","belt"] (YV T):=(Wm T).mono (by decide);have cl_Hall:=T.cl_Hall;have na_Hall:=T.na_Hall;refine T.F_takes_of.okX Zgq (fun vs H Q E h=>?_) (fun cdv A outer s H vs Q E hr h=>?_)
 ·obtain⟨p,w,hl,fp,rfl,_⟩:=h
  rfl
 ·have hu:=hr.units;obtain⟨p,w,hl,fp,rfl,hh,hz,w0,w1,q⟩:=h;refine⟨_,(Zf (Zu (WW (xs:=["belt"]) rfl (Yk (x:="belt") (zs:=["hall"]) (ix:=[0]) (Zi V3) ["hall","work"] rfl rfl (by decide+kernel)) (Z4 (K:=K) rfl (Yc (pv 0) T.cl_Hall T.M_Hall_entering G_Hall_entering hr T.b_Hall_entering .nil Zm (Za (pv 1) Zb))) (fun cl C s H fp=>⟨(Zl (i:=0) (show(["belt","hall"]:List Str).Nodup by decide+kernel) rfl (Or.inl rfl)),Yn,(YT (Za (pv 0) (Za (Zj (Zp (K:=K) rfl) (Yc (pv 1) T.cl_Hall T.M_Hall_belt_at G_Hall_belt_at hr T.b_Hall_belt_at .nil VZ (Za (pv 0) Zb)) Zh (fun _ _=>rfl)) Zb)))⟩)))),?_⟩
  try dsimp only[L2.cxX,L2.ZM,L2.Zn]
  walk_at "rds";refine⟨p,w,hl,fp,rfl,hh,hz,fun z=>absurd ⟨w0,w1⟩ z,fun _ _ e H1 he s1 he1=>?_⟩;have hh1:=hh.same s1;have el:=Zdw (ls:=hl.belts) (w:=w);walk_at "rds";refine YJ (own:=1) (ZZ (SqL.of he1)).y (Zx (by rw[List.length_map];omega)) (fun i=>[some (.int ((ZT hl.belts w).getD i 0:Nat))]) (fun _=>rfl) (fun _=>true) (fun i v H=>∃t,v=V.ref t∧H t=some (.tup [.int ((ZT hl.belts w).getD i 0:Nat),.int (hl.belts.getD ((ZT hl.belts w).getD i 0) dB).take])) (fun _ _ _ _ e ⟨t,z1,z2⟩=>⟨t,z1,e _ _ z2⟩) (fun i a' H' v H2 Kg hi sm y ha' k=>?_) (fun i H' Kc hi sm k=>?_) (fun pp i H' Kc hi hc hp0 hp1 sm k=>?_) (fun r H' ys hr' sm hl' hR=>?_)
  ·obtain⟨rfl,rfl⟩:=y;obtain⟨x1,rfl⟩:∃x1,a'=[x1]:=by
    match a',ha' with
    | [x1],_=>exact⟨x1,rfl⟩
   have hi':i<(ZT hl.belts w).length:=by simpa using hi
   have ev:((ZT hl.belts w).map fun i:Nat=>V.int i).getD i .non= .int ((ZT hl.belts w).getD i 0:Nat):=by simp[List.getD,hi']
   rw[ev];walk_at "rds";exact k _ (Ze.refl _)
  ·walk_at "rds";exact k H' (Ze.refl H')
  ·have hi':i<(ZT hl.belts w).length:=by simpa using hi
   have hm:(ZT hl.belts w).getD i 0∈ZT hl.belts w:=by
    have:(ZT hl.belts w).getD i 0=(ZT hl.belts w)[i]:=by simp[List.getD,hi']
    rw[this];exact List.getElem_mem hi'
   have hlt:=ZbC hm;generalize (ZT hl.belts w).getD i 0=j at*;have hh2:=hh1.same sm;walk_at "rds";refine⟨p,(j:Int),hl,fp,rfl,hh2,fun z=>absurd ⟨Int.natCast_nonneg j,by omega⟩ z,fun _ _ t b hb ht=>?_⟩;have hb':hl.belts[j]? =some b:=hb;have eb:hl.belts.getD j dB=b:=by simp[List.getD,hb']
   rw[eb] at k;dsimp only[B5.v] at ht;walk_at "rds";refine⟨by show 2≤sizeLine;decide,fun u hu'=>?_⟩;exact k _ _ (Zq hu') ⟨u,rfl,Zgw hp1 hu'⟩
  ·refine q r H' ys ?_ (s1.trans sm) hl' ?_
   ·cases e:H r with
    |none=>rfl
    |some o=>rw[s1 _ _ e] at hr';cases hr'
   ·exact(Zex hR).keep fun b xs z=>VD _ _ z
end
def V0{K:PySem.W.Frag}{mg:Str→Option Value}(T:Tp K mg):Sp:=fun vs H Q E=>∃(p:Addr)(w:Int)(hl:HM)(fp:List Addr),vs=[.ref p,.int w]∧ZE T H p hl fp∧hl.belts.length≤1000∧
 (¬(0≤w∧w<hl.names.length)→E (.ref T.X_NoWork) none H)∧(0≤w→w<hl.names.length→∀r H',H r=none→Ze H H'→H' r=some (.lst ((ZL hl.belts w).map fun i:Nat=>V.int i))→Q (.ref r) H')
section
variable {P:Program}{w:World}{K:PySem.W.Frag}{mg:Str→Option Value}{base:Heap}
theorem Zay(T:Tp K mg):Zk P w K mg base (CXX P w) 5 T.f_Hall_leaving T.d_Hall_leaving ["self","work"] (V0 T):=by
 have G_Hall_need_work:Zk P w K mg base (CXX P w) 4 T.f_Hall_need_work T.d_Hall_need_work ["self","work"] (Wv T):=(Vh T).mono (by decide);have cl_Hall:=T.cl_Hall;have na_Hall:=T.na_Hall;refine T.F_Hall_leaving.okX Zdd (fun vs H Q E h=>?_) (fun cdv A outer s H vs Q E hr h=>?_)
 ·obtain⟨p,w,hl,fp,rfl,_⟩:=h
  rfl
 ·have hu:=hr.units;obtain⟨p,w,hl,fp,rfl,hh,hz,e1,q⟩:=h;obtain⟨dx,a,b,bs,rfl,h1,h2,h3,h4,nab,h6⟩:=id hh;have hb:=h6.length;refine⟨_,(Zc (ZX (Yc (pv 0) T.cl_Hall T.M_Hall_need_work G_Hall_need_work hr T.b_Hall_need_work .nil Zm (Za (pv 1) Zb)))
     (Zf (Zu (WW (xs:=["belt","row"]) rfl (Yk (x:="belt") (zs:=["work"]) (ix:=[1]) (Zi Wx) ["self","work"] rfl rfl (by decide+kernel)) (ZaR (K:=K) rfl rfl T.n_enumerate (Za (ZY (K:=K) rfl (pv 0) rfl) Zb)) (fun cl C s H fp=>⟨(YA (K:=K) (n:=2) rfl rfl (Zz (Zl (i:=0) (show(["belt","row","work"]:List Str).Nodup by decide+kernel) rfl (Or.inl rfl)) (Zz (Zl (i:=1) (show(["belt","row","work"]:List Str).Nodup by decide+kernel) rfl (Or.inl rfl)) YB))),(Zcm (ZC (WK (K:=K) rfl hu) (Zj (Zp (K:=K) rfl) (pv 1) Zh (fun _ _=>rfl)) (pv 2) (ZI _))),(pv 0)⟩))))),?_⟩
  try dsimp only[L2.cxX,L2.ZM,L2.Zn]
  walk_at "rds";refine⟨p,w,hl,_,rfl,hh,e1,fun w0 w1=>?_⟩;walk_at "rds";refine YJ (own:=2) (VS (SqL.of h4)) (Zx (by omega)) (fun i=>[some (.int i),some (bs.getD i .non)]) (fun _=>rfl) (fun i=>decide ((hl.belts.getD i dB).giver=w)) (fun i v _=>v= .int i) (fun _ _ _ _ _ z=>z) (fun i a' H' v H2 Kg hi sm y ha k=>?_) (fun i H' Kc hi sm k=>?_) (fun pp i H' Kc hi hc hp0 hp1 sm k=>?_) (fun r H' ys hr sm hl' hR=>?_)
  ·obtain⟨t,ht,rfl,rfl⟩:=y;obtain⟨x1,x2,rfl⟩:∃x1 x2,a'=[x1,x2]:=by
    match a',ha with
    | [x1,x2],_=>exact⟨x1,x2,rfl⟩
   refine Rd.Vj (.of Zd) rfl ?_;walk_at "rds";exact k _ (Zq ht)
  ·obtain⟨t,ht1,ht2⟩:=h6.getD (i:=i) (by omega);rw[ht1];have ht3:=sm _ _ ht2;generalize hl.belts.getD i dB=bb at*;dsimp only[B5.v] at ht3;walk_at "rds";exact k H' (Ze.refl H')
  ·walk_at "rds";exact k _ H' (Ze.refl H') rfl
  ·refine q w0 w1 r H' hr sm ?_;rw[hl',UZ (R:=fun i v _=>v=V.int (i:Nat)) (H:=H') (r:=fun i:Nat=>V.int i) (fun _ _ z=>z) hR,hb]
   rfl
end
def ZcF{K:PySem.W.Frag}{mg:Str→Option Value}(T:Tp K mg):Sp:=fun vs H Q E=>∃(p:Addr)(w:Int)(hl:HM)(fp:List Addr),vs=[.ref p,.int w]∧ZE T H p hl fp∧hl.belts.length≤1000∧0≤w∧w<hl.names.length∧
 ∀r H' ys,H r=none→Ze H H'→H' r=some (.lst ys)→Vs H' (U6 hl.belts w) ys→Q (.ref r) H'
section
variable {P:Program}{w:World}{K:PySem.W.Frag}{mg:Str→Option Value}{base:Heap}
theorem Zgm(T:Tp K mg):Zk P w K mg base (CXX P w) 6 T.f_gives_of T.d_gives_of ["hall","work"] (ZcF T):=by
 have G_Hall_leaving:Zk P w K mg base (CXX P w) 5 T.f_Hall_leaving T.d_Hall_leaving ["self","work"] (V0 T):=(Zay T).mono (by decide);have G_Hall_belt_at:Zk P w K mg base (CXX P w) 5 T.f_Hall_belt_at T.d_Hall_belt_at ["self","belt"] (YV T):=(Wm T).mono (by decide);have cl_Hall:=T.cl_Hall;have na_Hall:=T.na_Hall;refine T.F_gives_of.okX Zgp (fun vs H Q E h=>?_) (fun cdv A outer s H vs Q E hr h=>?_)
 ·obtain⟨p,w,hl,fp,rfl,_⟩:=h
  rfl
 ·have hu:=hr.units;obtain⟨p,w,hl,fp,rfl,hh,hz,w0,w1,q⟩:=h;refine⟨_,(Zf (Zu (WW (xs:=["belt"]) rfl (Yk (x:="belt") (zs:=["hall"]) (ix:=[0]) (Zi V6) ["hall","work"] rfl rfl (by decide+kernel)) (Z4 (K:=K) rfl (Yc (pv 0) T.cl_Hall T.M_Hall_leaving G_Hall_leaving hr T.b_Hall_leaving .nil Zm (Za (pv 1) Zb))) (fun cl C s H fp=>⟨(Zl (i:=0) (show(["belt","hall"]:List Str).Nodup by decide+kernel) rfl (Or.inl rfl)),Yn,(YT (Za (pv 0) (Za (Zj (Zp (K:=K) rfl) (Yc (pv 1) T.cl_Hall T.M_Hall_belt_at G_Hall_belt_at hr T.b_Hall_belt_at .nil VZ (Za (pv 0) Zb)) Zh (fun _ _=>rfl)) Zb)))⟩)))),?_⟩
  try dsimp only[L2.cxX,L2.ZM,L2.Zn]
  walk_at "rds";refine⟨p,w,hl,fp,rfl,hh,hz,fun z=>absurd ⟨w0,w1⟩ z,fun _ _ e H1 he s1 he1=>?_⟩;have hh1:=hh.same s1;have el:=Zdr (ls:=hl.belts) (w:=w);walk_at "rds";refine YJ (own:=1) (ZZ (SqL.of he1)).y (Zx (by rw[List.length_map];omega)) (fun i=>[some (.int ((ZL hl.belts w).getD i 0:Nat))]) (fun _=>rfl) (fun _=>true) (fun i v H=>∃t,v=V.ref t∧H t=some (.tup [.int ((ZL hl.belts w).getD i 0:Nat),.int (hl.belts.getD ((ZL hl.belts w).getD i 0) dB).give])) (fun _ _ _ _ e ⟨t,z1,z2⟩=>⟨t,z1,e _ _ z2⟩) (fun i a' H' v H2 Kg hi sm y ha' k=>?_) (fun i H' Kc hi sm k=>?_) (fun pp i H' Kc hi hc hp0 hp1 sm k=>?_) (fun r H' ys hr' sm hl' hR=>?_)
  ·obtain⟨rfl,rfl⟩:=y;obtain⟨x1,rfl⟩:∃x1,a'=[x1]:=by
    match a',ha' with
    | [x1],_=>exact⟨x1,rfl⟩
   have hi':i<(ZL hl.belts w).length:=by simpa using hi
   have ev:((ZL hl.belts w).map fun i:Nat=>V.int i).getD i .non= .int ((ZL hl.belts w).getD i 0:Nat):=by simp[List.getD,hi']
   rw[ev];walk_at "rds";exact k _ (Ze.refl _)
  ·walk_at "rds";exact k H' (Ze.refl H')
  ·have hi':i<(ZL hl.belts w).length:=by simpa using hi
   have hm:(ZL hl.belts w).getD i 0∈ZL hl.belts w:=by
    have:(ZL hl.belts w).getD i 0=(ZL hl.belts w)[i]:=by simp[List.getD,hi']
    rw[this];exact List.getElem_mem hi'
   have hlt:=ZaD hm;generalize (ZL hl.belts w).getD i 0=j at*;have hh2:=hh1.same sm;walk_at "rds";refine⟨p,(j:Int),hl,fp,rfl,hh2,fun z=>absurd ⟨Int.natCast_nonneg j,by omega⟩ z,fun _ _ t b hb ht=>?_⟩;have hb':hl.belts[j]? =some b:=hb;have eb:hl.belts.getD j dB=b:=by simp[List.getD,hb']
   rw[eb] at k;dsimp only[B5.v] at ht;walk_at "rds";refine⟨by show 2≤sizeLine;decide,fun u hu'=>?_⟩;exact k _ _ (Zq hu') ⟨u,rfl,Zgw hp1 hu'⟩
  ·refine q r H' ys ?_ (s1.trans sm) hl' ?_
   ·cases e:H r with
    |none=>rfl
    |some o=>rw[s1 _ _ e] at hr';cases hr'
   ·exact(Zex hR).keep fun b xs z=>VD _ _ z
end
def Zbr{K:PySem.W.Frag}{mg:Str→Option Value}(T:Tp K mg):Sp:=fun vs H Q _=>∃(p:Addr)(w:Int)(hl:HM)(fp:List Addr),vs=[.ref p,.int w]∧ZE T H p hl fp∧hl.belts.length≤60∧0≤w∧w<hl.names.length∧
 ∀(r:Addr)(H':Hp)(ms:List Int),H r=none→Ze H H'→H' r=some (.lst (ms.map V.int))→Za2 hl.belts w ms→Q (.ref r) H'
section
variable {P:Program}{w:World}{K:PySem.W.Frag}{mg:Str→Option Value}{base:Heap}
theorem ZeF(T:Tp K mg):Zk P w K mg base (CXX P w) 6 T.f_touched_by T.d_touched_by ["hall","work"] (Zbr T):=by
 have G_Hall_belt_at:Zk P w K mg base (CXX P w) 5 T.f_Hall_belt_at T.d_Hall_belt_at ["self","belt"] (YV T):=(Wm T).mono (by decide);have G_Hall_leaving:Zk P w K mg base (CXX P w) 5 T.f_Hall_leaving T.d_Hall_leaving ["self","work"] (V0 T):=(Zay T).mono (by decide);have cl_Hall:=T.cl_Hall;have na_Hall:=T.na_Hall;refine T.F_touched_by.okX ZeI (fun vs H Q E h=>?_) (fun cdv A outer s H vs Q E hr h=>?_)
 ·obtain⟨p,w,hl,fp,rfl,_⟩:=h
  rfl
 ·have hu:=hr.units;obtain⟨p,w,hl,fp,rfl,hh,hz,w0,w1,q⟩:=h;refine⟨_,(Zf (Zu (ZgT (K:=K) rfl rfl (by rfl) T.n_sorted (by rfl) T.n_set (Za (Zs (Z8 (K:=K) rfl) (Wc (Za (pv 1) Zb)) (Um rfl (Yk (x:="belt") (zs:=["hall"]) (ix:=[0]) (Zi WT) ["hall","work"] rfl rfl (by decide+kernel)) (Z4 (K:=K) rfl (Yc (pv 0) T.cl_Hall T.M_Hall_leaving G_Hall_leaving hr T.b_Hall_leaving .nil Zm (Za (pv 1) Zb))) (fun cl C s H fp=>⟨(Zl (i:=0) (show(["belt","hall"]:List Str).Nodup by decide+kernel) rfl (Or.inl rfl)),Yn,(Zj (Zp (K:=K) rfl) (Yc (pv 1) T.cl_Hall T.M_Hall_belt_at G_Hall_belt_at hr T.b_Hall_belt_at .nil VZ (Za (pv 0) Zb)) Zh (fun _ _=>rfl))⟩))) Zb)))),?_⟩
  try dsimp only[L2.cxX,L2.ZM,L2.Zn]
  walk_at "rds";refine Rd.ZmG ?_;walk_at "rds";intro a ha;have s1:Ze H (upd H a (.lst [V.int w])):=Zq ha;have ha1:(upd H a (.lst [V.int w])) a=some (.lst [V.int w]):=Zd;generalize upd H a (.lst [V.int w])=H1 at*;have hh1:=hh.same s1;walk_at "rds";refine⟨p,w,hl,fp,rfl,hh1,by omega,fun z=>absurd ⟨w0,w1⟩ z,fun _ _ e H2 he s2 he2=>?_⟩;have hh2:=hh1.same s2;have ha2:=s2 _ _ ha1;have el:=Zdr (ls:=hl.belts) (w:=w);walk_at "rds";refine YR (ZZ (SqL.of he2)) (Zx (by rw[List.length_map];omega)) (fun _=>true) (fun i=> .int (hl.belts.getD ((ZL hl.belts w).getD i 0) dB).taker) (fun i H' Kc hi sm k=>?_) (fun i H' Kc hi _ sm k=>?_) (fun r H' hr sm hr'=>?_)
  ·walk_at "rds";exact k H' (Ze.refl H')
  ·have hi':i<(ZL hl.belts w).length:=by simpa using hi
   have ev:((ZL hl.belts w).map fun i:Nat=>V.int i).getD i .non= .int ((ZL hl.belts w).getD i 0:Nat):=by simp[List.getD,hi']
   rw[ev];have hm:(ZL hl.belts w).getD i 0∈ZL hl.belts w:=by
    have:(ZL hl.belts w).getD i 0=(ZL hl.belts w)[i]:=by simp[List.getD,hi']
    rw[this];exact List.getElem_mem hi'
   have hlt:=ZaD hm;generalize (ZL hl.belts w).getD i 0=j at*;have hh3:=hh2.same sm;walk_at "rds";refine⟨p,(j:Int),hl,fp,rfl,hh3,fun z=>absurd ⟨Int.natCast_nonneg j,by omega⟩ z,fun _ _ t b hb ht=>?_⟩;have hb':hl.belts[j]? =some b:=hb;have eb:hl.belts.getD j dB=b:=by simp[List.getD,hb']
   rw[eb] at k;dsimp only[B5.v] at ht;walk_at "rds";exact k H' (Ze.refl H')
  ·have hr2:H' r=some (.lst (((ZL hl.belts w).map fun i=>(hl.belts.getD i dB).taker).map V.int)):=by
    rw[hr',List.filter_eq_self.mpr (by simp)];refine congrArg (fun z=>some (HO.lst z)) ?_;refine List.ext_getElem (by simp) fun i h1 h2=>?_;have:i<(ZL hl.belts w).length:=by simpa using h2
    simp[List.getD,this]
   have ha3:=sm _ _ ha2;refine Rd.ZmU ha3 hr2 (Nat.le_of_lt (Zx (by simp;omega))) (fun u hu=>?_);have s4:Ze H' (upd H' u (.lst ([V.int w]++((ZL hl.belts w).map fun i=>(hl.belts.getD i dB).taker).map V.int))):=Zq hu;have hu4:(upd H' u (.lst ([V.int w]++((ZL hl.belts w).map fun i=>(hl.belts.getD i dB).taker).map V.int))) u=some (.lst ((w::(ZL hl.belts w).map fun i=>(hl.belts.getD i dB).taker).map V.int)):=Zd;generalize upd H' u (.lst ([V.int w]++((ZL hl.belts w).map fun i=>(hl.belts.getD i dB).taker).map V.int))=H4 at*;walk_at "rds";refine Rd.ZlY (.of hu4) (by simp;omega) (fun x ms hx hp hm=>?_);have s04:=s1.trans (s2.trans (sm.trans s4));refine q x _ ms (ZG s04 hx) (s04.trans (Zq hx)) Zd ⟨hp,fun y=>?_⟩;rw[hm y,List.mem_cons,List.mem_map]
end
def Uj{K:PySem.W.Frag}{mg:Str→Option Value}(T:Tp K mg):Sp:=fun vs H Q E=>∃(p dx h t:Addr)(hl:HM)(fp:List Addr)(rs:List Int),vs=[.ref p,.ref h,.ref t]∧H p=some (.ins T.C_Course dx [])∧ZE T H h hl fp∧H t=some (.lst (rs.map V.int))∧rs.length=hl.names.length∧rs.length≤1000∧hl.belts.length≤60∧
 ∀(H':Hp),Wq T H' p hl.belts rs→(∀b o,H b=some o→b≠p→H' b=some o)→Q .non H'
theorem ZdX{K:PySem.W.Frag}{mg:Str→Option Value}{T:Tp K mg}{H:Hp}{h t:Addr}{hl:HM}{fp:List Addr}{rs:List Int}{Q:Addr→Hp→Prop}{E:XK}(hh:ZE T H h hl fp)(ht:H t=some (.lst (rs.map V.int)))(hn:rs.length=hl.names.length)(hz:rs.length≤1000)(hb:hl.belts.length≤60)
  (q:∀(p:Addr)(H':Hp),Wq T H' p hl.belts rs→H p=none→Ze H H'→Q p H'):
  ∀x dx,H x=none→H dx=none→dx≠x→Uj T (.ref x::([.ref h,.ref t]++ [])) (upd (upd H dx (.own x)) x (.ins T.C_Course dx [])) (fun v H2=>v= .non∧Q x H2) E:=by
 intro x dx hx hdx ne;have sm:Ze H (upd (upd H dx (.own x)) x (.ins T.C_Course dx [])):=fun b o e=>by rw[Zg (Zo e hx),Zg (Zo e hdx)];exact e
 exact⟨x,dx,h,t,hl,fp,rs,rfl,Zd,hh.same sm,sm _ _ ht,hn,hz,hb,fun H' hc hk=>⟨rfl,q x H' hc hx (fun b o e=>hk b o (sm b o e) (Zo e hx))⟩⟩
section
variable {P:Program}{w:World}{K:PySem.W.Frag}{mg:Str→Option Value}{base:Heap}
theorem Zd2(T:Tp K mg):Zk P w K mg base (CXX P w) 7 T.f_Course_init T.d_Course_init ["self","hall","turns"] (Uj T):=by
 have G_takes_of:Zk P w K mg base (CXX P w) 6 T.f_takes_of T.d_takes_of ["hall","work"] (ZcE T):=(Zgf T).mono (by decide);have G_gives_of:Zk P w K mg base (CXX P w) 6 T.f_gives_of T.d_gives_of ["hall","work"] (ZcF T):=(Zgm T).mono (by decide);have G_touched_by:Zk P w K mg base (CXX P w) 6 T.f_touched_by T.d_touched_by ["hall","work"] (Zbr T):=(ZeF T).mono (by decide);have G_Hall_belts:Zk P w K mg base (CXX P w) 6 T.f_Hall_belts T.d_Hall_belts ["self"] (YY T):=(Vw T).mono (by decide);have cl_Course:=T.cl_Course;have na_Course:=T.na_Course;have cl_Hall:=T.cl_Hall;have na_Hall:=T.na_Hall;refine T.F_Course_init.okX ZdR (fun vs H Q E h=>?_) (fun cdv A outer s H vs Q E hr h=>?_)
 ·obtain⟨p,dx,h,t,hl,fp,rs,rfl,_⟩:=h
  rfl
 ·have hu:=hr.units;obtain⟨p,dx,ha,t,hl,fp,rs,rfl,hp,hh,ht,hn,hz,hbz,q⟩:=h;have nph:p∉fp:=by
   intro z;obtain⟨dx',a,b,bs,rfl,h1,h2,h3,h4,nab,h6⟩:=hh;simp only[List.mem_cons,List.not_mem_nil,or_false] at z;rcases z with rfl|rfl|rfl|rfl
   ·rw[h1] at hp
    injection hp with e
    injection e with e1 e2 e3
    cases e3
   ·rw[h2] at hp;cases hp
   ·rw[h3] at hp;cases hp
   ·rw[h4] at hp;cases hp
  have rsl:((rs.map V.int).length:Int)=rs.length:=by simp
  refine⟨_,(Zc (Ui (K:=K) rfl (pv 0) (UJ (Zbb (K:=K) rfl) (by rfl) T.n_list PyProof.Rows.boot_list (Za (pv 2) Zb)) rfl)
     (Zc (Ui (K:=K) rfl (pv 0) (Uk (pv 1) T.cl_Hall T.M_Hall_belts G_Hall_belts hr T.b_Hall_belts .nil Zm) rfl)
     (Zc (Ui (K:=K) rfl (pv 0) (WW (xs:=["work"]) rfl (Yk (x:="work") (zs:=["hall"]) (ix:=[1]) (Zi YX) ["self","hall","turns"] rfl rfl (by decide+kernel)) (ZW rfl T.n_range (Za (Zr (ZU (K:=K) rfl) (by rfl) T.n_len PySem.boot_len (Za (pv 2) Zb)) Zb)) (fun cl C s H fp=>⟨(Zl (i:=0) (show(["work","hall"]:List Str).Nodup by decide+kernel) rfl (Or.inl rfl)),Yn,(Zv G_takes_of hr rfl T.m_takes_of T.F_takes_of.kp T.b_takes_of .nil VZ (Za (pv 1) (Za (pv 0) Zb)))⟩)) rfl)
     (Zc (Ui (K:=K) rfl (pv 0) (WW (xs:=["work"]) rfl (Yk (x:="work") (zs:=["hall"]) (ix:=[1]) (Zi YX) ["self","hall","turns"] rfl rfl (by decide+kernel)) (ZW rfl T.n_range (Za (Zr (ZU (K:=K) rfl) (by rfl) T.n_len PySem.boot_len (Za (pv 2) Zb)) Zb)) (fun cl C s H fp=>⟨(Zl (i:=0) (show(["work","hall"]:List Str).Nodup by decide+kernel) rfl (Or.inl rfl)),Yn,(Zv G_gives_of hr rfl T.m_gives_of T.F_gives_of.kp T.b_gives_of .nil VZ (Za (pv 1) (Za (pv 0) Zb)))⟩)) rfl)
     (Zf (Ui (K:=K) rfl (pv 0) (WW (xs:=["work"]) rfl (Yk (x:="work") (zs:=["hall"]) (ix:=[1]) (Zi YX) ["self","hall","turns"] rfl rfl (by decide+kernel)) (ZW rfl T.n_range (Za (Zr (ZU (K:=K) rfl) (by rfl) T.n_len PySem.boot_len (Za (pv 2) Zb)) Zb)) (fun cl C s H fp=>⟨(Zl (i:=0) (show(["work","hall"]:List Str).Nodup by decide+kernel) rfl (Or.inl rfl)),Yn,(Zv G_touched_by hr rfl T.m_touched_by T.F_touched_by.kp T.b_touched_by .nil VZ (Za (pv 1) (Za (pv 0) Zb)))⟩)) rfl)))))),?_⟩
  try dsimp only[L2.cxX,L2.ZM,L2.Zn]
  walk_at "rds";refine Rd.Zce (.of ht) (fun a ha0=>?_);have npa:p≠a:=Zo hp ha0;have s1:Ze H (upd H a (.lst (rs.map V.int))):=Zq ha0;have ha1:(upd H a (.lst (rs.map V.int))) a=some (.lst (rs.map V.int)):=Zd;generalize upd H a (.lst (rs.map V.int))=H1 at*;have hp1:=s1 _ _ hp;walk_at "rds";have f1:ZJ [p] H1 (upd H1 p (.ins T.C_Course dx [("turns",.ref a)])):=Ym (by simp) hp1 (by intro _ z;cases z);have f02:ZJ [p] H (upd H1 p (.ins T.C_Course dx [("turns",.ref a)])):=s1.frame.trans f1;have hp2:(upd H1 p (.ins T.C_Course dx [("turns",.ref a)])) p=some (.ins T.C_Course dx [("turns",.ref a)]):=Zd;have ha2:=f1.keep _ _ ha1 (by simpa using npa.symm);generalize upd H1 p (.ins T.C_Course dx [("turns",.ref a)])=H2 at*;have ntp:t≠p:=Yx ht hp (by intro z;cases z);have hh2:=hh.off f02 (fun x hx z=>nph (by rw[←List.mem_singleton.mp z];exact hx));clear f1 hp1 ha1;walk_at "rds";intro b H3 bs hb0 s3 hb3 hT3;have hp3:=s3 _ _ hp2;have npb:p≠b:=Zo hp2 hb0;walk_at "rds";have f3:ZJ [p] H3 (upd H3 p (.ins T.C_Course dx [("turns",.ref a),("rows",.ref b)])):=Ym (by simp) hp3 (by intro _ z;cases z);have f24:ZJ [p] H2 (upd H3 p (.ins T.C_Course dx [("turns",.ref a),("rows",.ref b)])):=s3.frame.trans f3;have hp4:(upd H3 p (.ins T.C_Course dx [("turns",.ref a),("rows",.ref b)])) p=some (.ins T.C_Course dx [("turns",.ref a),("rows",.ref b)]):=Zd;have hb4:=f3.keep _ _ hb3 (by simpa using npb.symm);have hT4:=hT3.keep f3.tups;generalize upd H3 p (.ins T.C_Course dx [("turns",.ref a),("rows",.ref b)])=H4 at*;have f04:=f02.trans f24;have ht4:=f04.keep _ _ ht (by simpa using ntp);have hh4:=hh.off f04 (fun x hx z=>nph (by rw[←List.mem_singleton.mp z];exact hx));clear f3 hp3 hb3 hT3;walk_at "rds";refine YJ (own:=1) W3.y (Zx (by rw[List.length_map];exact hz)) (fun i=>[some (.int (0+(i:Int)))]) (fun _=>rfl) (fun _=>true) (fun(i:Nat) v H2=>∃x,v=V.ref x∧∃vs,H4 x=none∧H2 x=some (.lst vs)∧Vs H2 (Yq hl.belts (0+(i:Int))) vs) (fun _ _ _ _ e ⟨x,z0,z1⟩=>⟨x,z0,(let⟨vs,a1,a2,a3⟩:=z1;⟨vs,a1,e _ _ a2,a3.keep fun _ _ z=>e _ _ z⟩)⟩) (fun i a' H' v H2 Kg hi sm y ha' k=>?_) (fun i H' Kc hi sm k=>?_) (fun pp i H' Kc hi hc hp0 hp1' sm k=>?_) (fun c H5 ys4 hc0 s5 hc5 hR4=>?_)
  ·obtain⟨rfl,rfl⟩:=y;obtain⟨x1,rfl⟩:∃x1,a'=[x1]:=by
    match a',ha' with
    | [x1],_=>exact⟨x1,rfl⟩
   walk_at "rds";exact k _ (Ze.refl _)
  ·walk_at "rds";exact k H' (Ze.refl H')
  ·have hi':i<rs.length:=by simpa using hi
   walk_at "rds";refine⟨ha,0+(i:Int),hl,fp,rfl,hh4.same sm,by omega,by omega,by omega,fun x H5 vs hx s5 hx5 hP=>?_⟩;exact k _ H5 s5 ⟨x,rfl,vs,ZG sm hx,Zfp hp1' hx hx5,hP.keep fun b xs z=>Zfc hp1' s5 z⟩
  ·rw[List.filter_eq_self.mpr (by simp),List.length_map,Int.toNat_natCast] at hR4;obtain⟨ic,rfl,ilc,iPc⟩:=ZdJ hR4;have hp5:=s5 _ _ hp4;have npc:p≠c:=Zo hp4 hc0;have nic:∀x∈ic,x≠p:=fun x hx z=>by
    obtain⟨j,hj,e⟩:=List.getElem_of_mem hx;obtain⟨_,z0,_⟩:=iPc j (by omega);rw[Zw hj,e,z,hp4] at z0;cases z0
   walk_at "rds";have f5:ZJ [p] H5 (upd H5 p (.ins T.C_Course dx [("turns",.ref a),("rows",.ref b),("takes",.ref c)])):=Ym (by simp) hp5 (by intro _ z;cases z);have f46:ZJ [p] H4 (upd H5 p (.ins T.C_Course dx [("turns",.ref a),("rows",.ref b),("takes",.ref c)])):=s5.frame.trans f5;have hp6:(upd H5 p (.ins T.C_Course dx [("turns",.ref a),("rows",.ref b),("takes",.ref c)])) p=some (.ins T.C_Course dx [("turns",.ref a),("rows",.ref b),("takes",.ref c)]):=Zd;have hc6:=f5.keep _ _ hc5 (by simpa using npc.symm);have hLc:LL (upd H5 p (.ins T.C_Course dx [("turns",.ref a),("rows",.ref b),("takes",.ref c)])) ((List.range rs.length).map fun w:Nat=>Yq hl.belts w) ic:=by
    refine UG (by simp[ilc]) fun j x y e1 e2=>?_;have hj:j<rs.length:=by have:=(List.getElem?_eq_some_iff.mp e2).1;omega
    obtain⟨vs,_,z1,z2⟩:=iPc j hj;rw[List.getElem?_map,List.getElem?_range hj] at e1;cases e1;have ey:ic.getD j 0=y:=by simp[List.getD,e2]
    rw[ey] at z1;rw[Int.zero_add] at z2;exact⟨vs,f5.keep _ _ (VD _ _ z1) (by simpa using nic y (List.mem_of_getElem? e2)),z2.keep fun b xs z=>f5.tups _ _ (VD _ _ z)⟩
   generalize upd H5 p (.ins T.C_Course dx [("turns",.ref a),("rows",.ref b),("takes",.ref c)])=H6 at*;have f06:=f04.trans f46;have ht6:=f06.keep _ _ ht (by simpa using ntp);have hh6:=hh.off f06 (fun x hx z=>nph (by rw[←List.mem_singleton.mp z];exact hx));clear f5 hp5 hc5 hR4;walk_at "rds";refine YJ (own:=1) W3.y (Zx (by rw[List.length_map];exact hz)) (fun i=>[some (.int (0+(i:Int)))]) (fun _=>rfl) (fun _=>true) (fun(i:Nat) v H2=>∃x,v=V.ref x∧∃vs,H6 x=none∧H2 x=some (.lst vs)∧Vs H2 (U6 hl.belts (0+(i:Int))) vs) (fun _ _ _ _ e ⟨x,z0,z1⟩=>⟨x,z0,(let⟨vs,a1,a2,a3⟩:=z1;⟨vs,a1,e _ _ a2,a3.keep fun _ _ z=>e _ _ z⟩)⟩) (fun i a' H' v H2 Kg hi sm y ha' k=>?_) (fun i H' Kc hi sm k=>?_) (fun pp i H' Kc hi hc hp0 hp1' sm k=>?_) (fun d H7 ys6 hd0 s7 hd7 hR6=>?_)
   ·obtain⟨rfl,rfl⟩:=y;obtain⟨x1,rfl⟩:∃x1,a'=[x1]:=by
     match a',ha' with
     | [x1],_=>exact⟨x1,rfl⟩
    walk_at "rds";exact k _ (Ze.refl _)
   ·walk_at "rds";exact k H' (Ze.refl H')
   ·have hi':i<rs.length:=by simpa using hi
    walk_at "rds";refine⟨ha,0+(i:Int),hl,fp,rfl,hh6.same sm,by omega,by omega,by omega,fun x H5 vs hx s5 hx5 hP=>?_⟩;exact k _ H5 s5 ⟨x,rfl,vs,ZG sm hx,Zfp hp1' hx hx5,hP.keep fun b xs z=>Zfc hp1' s5 z⟩
   ·rw[List.filter_eq_self.mpr (by simp),List.length_map,Int.toNat_natCast] at hR6;obtain⟨id,rfl,ild,iPd⟩:=ZdJ hR6;have hp7:=s7 _ _ hp6;have npd:p≠d:=Zo hp6 hd0;have nid:∀x∈id,x≠p:=fun x hx z=>by
     obtain⟨j,hj,e⟩:=List.getElem_of_mem hx;obtain⟨_,z0,_⟩:=iPd j (by omega);rw[Zw hj,e,z,hp6] at z0;cases z0
    walk_at "rds";have f7:ZJ [p] H7 (upd H7 p (.ins T.C_Course dx [("turns",.ref a),("rows",.ref b),("takes",.ref c),("gives",.ref d)])):=Ym (by simp) hp7 (by intro _ z;cases z);have f68:ZJ [p] H6 (upd H7 p (.ins T.C_Course dx [("turns",.ref a),("rows",.ref b),("takes",.ref c),("gives",.ref d)])):=s7.frame.trans f7;have hp8:(upd H7 p (.ins T.C_Course dx [("turns",.ref a),("rows",.ref b),("takes",.ref c),("gives",.ref d)])) p=some (.ins T.C_Course dx [("turns",.ref a),("rows",.ref b),("takes",.ref c),("gives",.ref d)]):=Zd;have hd8:=f7.keep _ _ hd7 (by simpa using npd.symm);have hLd:LL (upd H7 p (.ins T.C_Course dx [("turns",.ref a),("rows",.ref b),("takes",.ref c),("gives",.ref d)])) ((List.range rs.length).map fun w:Nat=>U6 hl.belts w) id:=by
     refine UG (by simp[ild]) fun j x y e1 e2=>?_;have hj:j<rs.length:=by have:=(List.getElem?_eq_some_iff.mp e2).1;omega
     obtain⟨vs,_,z1,z2⟩:=iPd j hj;rw[List.getElem?_map,List.getElem?_range hj] at e1;cases e1;have ey:id.getD j 0=y:=by simp[List.getD,e2]
     rw[ey] at z1;rw[Int.zero_add] at z2;exact⟨vs,f7.keep _ _ (VD _ _ z1) (by simpa using nid y (List.mem_of_getElem? e2)),z2.keep fun b xs z=>f7.tups _ _ (VD _ _ z)⟩
    generalize upd H7 p (.ins T.C_Course dx [("turns",.ref a),("rows",.ref b),("takes",.ref c),("gives",.ref d)])=H8 at*;have f08:=f06.trans f68;have ht8:=f08.keep _ _ ht (by simpa using ntp);have hh8:=hh.off f08 (fun x hx z=>nph (by rw[←List.mem_singleton.mp z];exact hx));clear f7 hp7 hd7 hR6;walk_at "rds";refine YJ (own:=1) W3.y (Zx (by rw[List.length_map];exact hz)) (fun i=>[some (.int (0+(i:Int)))]) (fun _=>rfl) (fun _=>true) (fun(i:Nat) v H2=>∃x,v=V.ref x∧∃ms:List Int,H8 x=none∧H2 x=some (.lst (ms.map V.int))∧Za2 hl.belts i ms) (fun _ _ _ _ e ⟨x,z0,z1⟩=>⟨x,z0,(let⟨vs,a1,a2,a3⟩:=z1;⟨vs,a1,e _ _ a2,a3⟩)⟩) (fun i a' H' v H2 Kg hi sm y ha' k=>?_) (fun i H' Kc hi sm k=>?_) (fun pp i H' Kc hi hc hp0 hp1' sm k=>?_) (fun e H9 ys8 he0 s9 he9 hR8=>?_)
    ·obtain⟨rfl,rfl⟩:=y;obtain⟨x1,rfl⟩:∃x1,a'=[x1]:=by
      match a',ha' with
      | [x1],_=>exact⟨x1,rfl⟩
     walk_at "rds";exact k _ (Ze.refl _)
    ·walk_at "rds";exact k H' (Ze.refl H')
    ·have hi':i<rs.length:=by simpa using hi
     walk_at "rds";refine⟨ha,0+(i:Int),hl,fp,rfl,hh8.same sm,by omega,by omega,by omega,fun x H5 ms hx s5 hx5 hP=>?_⟩;rw[Int.zero_add] at hP;exact k _ H5 s5 ⟨x,rfl,ms,ZG sm hx,Zfp hp1' hx hx5,hP⟩
    ·rw[List.filter_eq_self.mpr (by simp),List.length_map,Int.toNat_natCast] at hR8;obtain⟨ie,rfl,ile,iPe⟩:=ZdJ hR8;have hp9:=s9 _ _ hp8;have npe:p≠e:=Zo hp8 he0;have nie:∀x∈ie,x≠p:=fun x hx z=>by
      obtain⟨j,hj,e⟩:=List.getElem_of_mem hx;obtain⟨_,z0,_⟩:=iPe j (by omega);rw[Zw hj,e,z,hp8] at z0;cases z0
     walk_at "rds";have f9:ZJ [p] H9 (upd H9 p (.ins T.C_Course dx [("turns",.ref a),("rows",.ref b),("takes",.ref c),("gives",.ref d),("touched",.ref e)])):=Ym (by simp) hp9 (by intro _ z;cases z);have f810:ZJ [p] H8 (upd H9 p (.ins T.C_Course dx [("turns",.ref a),("rows",.ref b),("takes",.ref c),("gives",.ref d),("touched",.ref e)])):=s9.frame.trans f9;have hp10:(upd H9 p (.ins T.C_Course dx [("turns",.ref a),("rows",.ref b),("takes",.ref c),("gives",.ref d),("touched",.ref e)])) p=some (.ins T.C_Course dx [("turns",.ref a),("rows",.ref b),("takes",.ref c),("gives",.ref d),("touched",.ref e)]):=Zd;have he10:=f9.keep _ _ he9 (by simpa using npe.symm);have hLe:TL (upd H9 p (.ins T.C_Course dx [("turns",.ref a),("rows",.ref b),("takes",.ref c),("gives",.ref d),("touched",.ref e)])) hl.belts rs.length ie:=⟨ile,fun v hv=>by
      obtain⟨ms,_,z1,z2⟩:=iPe v hv;exact⟨ms,f9.keep _ _ (VD _ _ z1) (by rw[List.mem_singleton];exact nie _ (by rw[Zw (by omega)];exact List.getElem_mem _)),z2⟩⟩
     generalize upd H9 p (.ins T.C_Course dx [("turns",.ref a),("rows",.ref b),("takes",.ref c),("gives",.ref d),("touched",.ref e)])=H10 at*;have f010:=f08.trans f810;have ht10:=f010.keep _ _ ht (by simpa using ntp);have hh10:=hh.off f010 (fun x hx z=>nph (by rw[←List.mem_singleton.mp z];exact hx));clear f9 hp9 he9 hR8;have f28:=f24.trans (f46.trans f68);have f410:=f46.trans (f68.trans f810);have f610:=f68.trans f810;have kL:∀{Ha:Hp}{gs:List (List (Int×Int))}{is:List Addr},ZJ [p] Ha H10→LL Ha gs is→(∀x∈is,x≠p)→LL H10 gs is:=fun{Ha gs is} f l n=>l.keep f.tups fun x hx=>by
      cases q:Ha x with
      |none=>exact absurd q (l.dom x hx)
      |some o=>exact f.keep _ _ q (by simpa using n x hx)
     refine q H10 ⟨dx,a,b,c,d,e,ic,id,ie,bs,hp10,(f24.trans f410).keep _ _ ha2 (by simpa using npa.symm),f410.keep _ _ hb4 (by simpa using npb.symm),hT4.keep f410.tups,f610.keep _ _ hc6 (by simpa using npc.symm),kL f610 hLc nic,f810.keep _ _ hd8 (by simpa using npd.symm),kL f810 hLd nid,he10,hLe⟩ (fun x o h1 h2=>f010.keep _ _ h1 (by simpa using h2))
end
def Zcu{K:PySem.W.Frag}{mg:Str→Option Value}(T:Tp K mg):Sp:=fun vs H Q E=>∃(p:Addr)(hl:HM)(fp:List Addr)(z:Int→Nat),vs=[.ref p]∧ZE T H p hl fp∧hl.names.length≤60∧hl.belts.length≤60∧ZK hl.belts hl.names.length∧Y0 hl.belts∧VI hl.belts z∧(∀b∈hl.belts,0≤b.start)∧
 ∀(rs:List Int),Rts hl.belts hl.names.length z rs→(400<rs.sum→∀H',Ze H H'→E (.ref T.X_TooLong) none H')∧(rs.sum≤400→
 (∀(t r:Addr)(H':Hp)(ws:List Nat)(d:Nat→Nat),H r=none→Ze H H'→H' t=some (.tup [.ref r,.non])→H' r=some (.lst (ws.map fun w:Nat=>V.int w))→Fire.Yd (UI hl.belts (ZN hl.belts) rs) (fun _=>0) ws d→(∀v<rs.length,d v=Z0 rs v)→Q (.ref t) H')∧
 (∀(t u c g:Addr)(H':Hp)(ws:List Nat)(d:Nat→Nat)(ring:List Nat),H c=none→H g=none→Ze H H'→H' t=some (.tup [.non,.ref u])→H' u=some (.tup [.ref c,.ref g])→H' c=some (.lst ((Z6 rs.length d).map V.int))→H' g=some (.lst (ring.map fun j:Nat=>V.int j))→Fire.Yd (UI hl.belts (ZN hl.belts) rs) (fun _=>0) ws d→(∀w,¬YQ hl.belts (ZN hl.belts) rs d w)→(∃v<rs.length,d v<Z0 rs v)→Vy hl.belts rs (ZN hl.belts) (Z6 rs.length d) ring→Q (.ref t) H'))
section
variable {P:Program}{w:World}{K:PySem.W.Frag}{mg:Str→Option Value}{base:Heap}
theorem Zge(T:Tp K mg):Zk P w K mg base (CXX P w) 10 T.f_round_of T.d_round_of ["hall"] (Zcu T):=by
 have G_starts_of:Zk P w K mg base (CXX P w) 9 T.f_starts_of T.d_starts_of ["hall"] (ZbJ T):=(ZfD T).mono (by decide);have G_round_rates:Zk P w K mg base (CXX P w) 9 T.f_round_rates T.d_round_rates ["hall"] (Za1 T):=(ZdQ T).mono (by decide);have G_Course_told_from:Zk P w K mg base (CXX P w) 9 T.f_Course_told_from T.d_Course_told_from ["self","starts"] (Uf T):=(Zbw T).mono (by decide);have G_Course_init:Zk P w K mg base (CXX P w) 8 T.f_Course_init T.d_Course_init ["self","hall","turns"] (Uj T):=(Zd2 T).mono (by decide);have cl_Course:=T.cl_Course;have na_Course:=T.na_Course;refine T.F_round_of.okX Zgo (fun vs H Q E h=>?_) (fun cdv A outer s H vs Q E hr h=>?_)
 ·obtain⟨p,hl,fp,z,rfl,_⟩:=h
  rfl
 ·have hu:=hr.units;obtain⟨p,hl,fp,z,rfl,hh,hn,hz,hbt,hsz,hwt,hs0,q⟩:=h;refine⟨_,(Zf (Zu (Yc (ZkI T.mk_Course G_Course_init hr rfl T.g_Course T.b_Course_init .nil Zm (Za (pv 0) (Za (Zv G_round_rates hr rfl T.m_round_rates T.F_round_rates.kp T.b_round_rates .nil Zm (Za (pv 0) Zb)) Zb))) T.cl_Course T.M_Course_told_from G_Course_told_from hr T.b_Course_told_from .nil Zm (Za (Zv G_starts_of hr rfl T.m_starts_of T.F_starts_of.kp T.b_starts_of .nil Zm (Za (pv 0) Zb)) Zb)))),?_⟩
  try dsimp only[L2.cxX,L2.ZM,L2.Zn]
  walk_at "rds";refine⟨p,hl,fp,z,rfl,hh,hn,by omega,hbt,hsz,hwt,fun r H1 rs s1 hr hr1 hR=>⟨fun hle=>?_,fun hgt=>(q rs hR).1 hgt H1 s1⟩⟩;obtain⟨q1,q2⟩:=(q rs hR).2 hle;have hh1:=hh.same s1;have hrl:=hR.len;walk_at "rds";refine ZdX hh1 hr1 hrl (by omega) hz (fun c H2 hc2 hc0 s2=>?_);have hh2:=hh1.same s2;walk_at "rds";refine⟨p,hl,fp,rfl,hh2,by omega,fun sa H3 hsa s3 hsa3=>?_⟩;have hc3:=hc2.same s3;have s13:=s1.trans (s2.trans s3);have htot:(tot rs:Int)=rs.sum:=Zcc fun r hr=>(by have:=hR.pos r hr;omega);have hst0:∀x∈ZN hl.belts,0≤x:=fun x hx=>by
   obtain⟨b,hb,rfl⟩:=List.mem_map.mp hx;exact hs0 b hb
  walk_at "rds";refine⟨c,sa,hl.belts,rs,ZN hl.belts,rfl,hc3,.of hsa3,by simp[ZN],by rw[hrl];exact hbt,hsz,hR.bal,by omega,by omega,hR.pos,hst0,by omega,fun t r2 H4 ws d hr2 s4 ht4 hr4 hrun hd=>?_,fun t u c2 g H4 ws d ring hc20 hg0 s4 ht4 hu4 hc4 hg4 hrun hst hex hring=>?_⟩
  ·exact q1 t r2 H4 ws d (ZG s13 hr2) (s13.trans s4) ht4 hr4 hrun hd
  ·exact q2 t u c2 g H4 ws d ring (ZG s13 hc20) (ZG s13 hg0) (s13.trans s4) ht4 hu4 hc4 hg4 hrun hst hex hring
end
def ZdB{K:PySem.W.Frag}{mg:Str→Option Value}(T:Tp K mg):Sp:=fun vs H Q _=>∃(a b:Addr)(w:Int)(bs:List V)(ls:List B5)(hs:List Int),vs=[.ref a,.ref b,.int w]∧SqL K H a bs∧Yj H bs ls∧SqL K H b (hs.map V.int)∧hs.length=ls.length∧ls.length≤1000∧Q (.bl (YD ls hs w)) H
section
variable {P:Program}{w:World}{K:PySem.W.Frag}{mg:Str→Option Value}{base:Heap}
theorem Zg3(T:Tp K mg):Zk P w K mg base (CXX P w) 1 T.f_l_ready T.d_l_ready ["_law_lines_here","_law_heap","_law_work"] (ZdB T):=by
 refine T.F_l_ready.okX ZdE (fun vs H Q E h=>?_) (fun cdv A outer s H vs Q E hr h=>?_)
 ·obtain⟨a,b,w,bs,ls,hs,rfl,_⟩:=h
  rfl
 ·have hu:=hr.units;obtain⟨a,b,w,bs,ls,hs,rfl,ha,hT,hb,hl,hz,q⟩:=h;have hbl:=hT.length;refine⟨_,(Zc (Z2 PassesOwn.leaving rfl (ZW rfl T.n_range (Za (Zr (ZU (K:=K) rfl) (by rfl) T.n_len PySem.boot_len (Za (pv 0) Zb)) Zb)) (Zl (i:=3) ZdE.nd rfl (Or.inl rfl)) (Zf (ZS (PW.pt (Zdg (ZC (WK (K:=K) rfl hu) (Zj (Zp (K:=K) rfl) (Zj (Zp (K:=K) rfl) (pv 0) (pv 3) (fun _ _=>rfl)) Zh (fun _ _=>rfl)) (pv 2) (ZI _)) (Zck (ZC Up (Zj (Zp (K:=K) rfl) (pv 1) (pv 3) (fun _ _=>rfl)) (Zj (Zp (K:=K) rfl) (Zj (Zp (K:=K) rfl) (pv 0) (pv 3) (fun _ _=>rfl)) Zh (fun _ _=>rfl)) (ZI _))))) (Zf (Zu YC)) ZH)))
     (Zf (Zu YC))),?_⟩
  try dsimp only[L2.cxX,L2.ZM,L2.Zn]
  walk_at "rds";refine Yl (n:=((bs.length:Nat):Int).toNat) (fun i σ H'=>H'=H∧(∃a1,σ=[some (.ref a),some (.ref b),some (.int w),a1])∧∀(j:Nat)(hj:j<ls.length),j<i→ls[j].taker=w→ls[j].take≤hs[j]'(by omega)) ⟨rfl,⟨_,rfl⟩,fun j _ h=>absurd h (Nat.not_lt_zero _)⟩ ?_ ?_
  ·rintro i σ H2 hi ⟨rfl,⟨a1,rfl⟩,hp⟩;have hil:i<ls.length:=by omega
   obtain⟨u,hu1,hu2⟩:=hT.at (List.getElem?_eq_getElem hil);have at1:atI bs (0+(i:Int))=some (.ref u):=by rw[Int.zero_add];exact Yu hu1
   have at2:=ZO (ns:=hs) (k:=0+(i:Int)) (by omega) (by omega);rw[Int.zero_add,Int.toNat_natCast,Zw (show i<hs.length by omega)] at at2;rw[Int.zero_add] at at1;have hno:=fun(x:ls[i].taker=w) (y:hs[i]'(by omega)<ls[i].take)=>(show YD ls hs w=false by
    rw[←Bool.not_eq_true,VN hl];intro z;have:=z i hil x;omega)
   have hst:(ls[i].taker=w→ls[i].take≤hs[i]'(by omega))→∀(j:Nat)(hj:j<ls.length),j<i+1→ls[j].taker=w→ls[j].take≤hs[j]'(by omega):=fun g j hj hji e=>by
    rcases Nat.lt_or_ge j i with z|z
    ·exact hp j hj z e
    ·obtain rfl:j=i:=by omega
     exact g e
   generalize ls[i]=bb at*;generalize hs[i]'(by omega)=hh at*;dsimp only[B5.v] at hu2;rw[Int.zero_add];walk_at "rds";refine Rd.ifD (fun c=>?_) (fun c=>?_)
   ·walk_at "rds";refine Rd.ifD (fun c2=>?_) (fun c2=>?_)
    ·rw[hno c c2] at q;walk_at "rds";exact q
    ·walk_at "rds";exact⟨rfl,⟨_,rfl⟩,hst fun _=>by omega⟩
   ·walk_at "rds";exact⟨rfl,⟨_,rfl⟩,hst fun z=>absurd z c⟩
  ·rintro σ H2 ⟨rfl,⟨a1,rfl⟩,hp⟩;have hr:YD ls hs w=true:=(VN hl).mpr fun j hj e=>hp j hj (by rw[Int.toNat_natCast];omega) e;rw[hr] at q;walk_at "rds";exact q
end
def ZaL{K:PySem.W.Frag}{mg:Str→Option Value}(T:Tp K mg):Sp:=fun vs H Q _=>∃(a ra:Addr)(bs:List V)(ls:List B5)(rs:List Int),vs=[.ref a,.ref ra]∧SqL K H a bs∧Yj H bs ls∧SqL K H ra (rs.map V.int)∧ls.length≤1000∧ZK ls rs.length∧rs.length≤60∧(∀r∈rs,1≤r)∧tot rs≤1000∧
 ∀(r:Addr)(H':Hp)(ws:List Nat)(d:Nat→Nat),H r=none→Ze H H'→H' r=some (.lst ((Z6 rs.length d).map V.int))→Fire.Yd (YQ ls (ZN ls) rs) (fun _=>0) ws d→(∀w,¬YQ ls (ZN ls) rs d w)→Q (.ref r) H'
section
variable {P:Program}{w:World}{K:PySem.W.Frag}{mg:Str→Option Value}{base:Heap}
theorem ZcI(T:Tp K mg):Zk P w K mg base (CXX P w) 2 T.f_l_stands T.d_l_stands ["_law_lines_here","_law_rates_here"] (ZaL T):=by
 have G_l_ready:Zk P w K mg base (CXX P w) 1 T.f_l_ready T.d_l_ready ["_law_lines_here","_law_heap","_law_work"] (ZdB T):=(Zg3 T).mono (by decide);refine T.F_l_stands.okX Wt (fun vs H Q E h=>?_) (fun cdv A outer s H vs Q E hr h=>?_)
 ·obtain⟨a,ra,bs,ls,rs,rfl,_⟩:=h
  rfl
 ·have hu:=hr.units;obtain⟨a,ra,bs,ls,rs,rfl,ha,hT,hra,hz,hbt,hn,hpos,htot,q⟩:=h;have hbl:=hT.length;have hsl:(ZN ls).length=ls.length:=by simp[ZN]
  have rl:((rs.map V.int).length:Int)=(rs.length:Int):=by simp
  have esum:=Zcc (rs:=rs) fun r hr=>(by have:=hpos r hr;omega);refine⟨_,(Zc (Zy (i:=2) Wt.nd rfl (Or.inr rfl) (Um rfl (Yk (x:="_law_line_here") (zs:=[]) (ix:=[]) (Zi Wl) ["_law_lines_here","_law_rates_here","_law_heap","_law_done","_law_turn","_law_ready_here","_law_k"] rfl rfl (by decide+kernel)) (Z4 (K:=K) rfl (pv 0)) (fun cl C s H fp=>⟨(Zl (i:=0) (show(["_law_line_here"]:List Str).Nodup by decide+kernel) rfl (Or.inl rfl)),Yn,(Zj (Zp (K:=K) rfl) (pv 0) Zh (fun _ _=>rfl))⟩)))
     (Zc (Zy (i:=3) Wt.nd rfl (Or.inr rfl) (Um rfl (Yk (x:="_law_rate") (zs:=[]) (ix:=[]) (Zi Wl) ["_law_lines_here","_law_rates_here","_law_heap","_law_done","_law_turn","_law_ready_here","_law_k"] rfl rfl (by decide+kernel)) (Z4 (K:=K) rfl (pv 1)) (fun cl C s H fp=>⟨(Zl (i:=0) (show(["_law_rate"]:List Str).Nodup by decide+kernel) rfl (Or.inl rfl)),Yn,Zh⟩)))
     (Zc (Z2 PassesOwn.leaving rfl (ZW rfl T.n_range (Za (Zr (Zhs (K:=K) rfl rfl) (by rfl) T.n_sum PyProof.Rows.boot_sum (Za (pv 1) Zb)) Zb)) (Zl (i:=4) Wt.nd rfl (Or.inl rfl)) (Zc (Zca (j:=5) rfl (Yk (x:="_law_one") (zs:=["_law_lines_here","_law_heap"]) (ix:=[0,2]) (Zi Wl) ["_law_lines_here","_law_rates_here","_law_heap","_law_done","_law_turn","_law_ready_here","_law_k"] rfl rfl (by decide+kernel)) (ZW rfl T.n_range (Za (Zr (ZU (K:=K) rfl) (by rfl) T.n_len PySem.boot_len (Za (pv 1) Zb)) Zb)) (fun cl C s H fp=>⟨(Zl (i:=0) (show(["_law_one","_law_lines_here","_law_heap"]:List Str).Nodup by decide+kernel) rfl (Or.inl rfl)),(Zcm (Yf (K:=K) rfl (Zv G_l_ready hr rfl T.m_l_ready T.F_l_ready.kp T.b_l_ready .nil VZ (Za (pv 1) (Za (pv 2) (Za (pv 0) Zb)))) (fun _=>rfl))),(pv 0)⟩) Wt.nd rfl (Or.inl rfl))
     (Zc (Zca (j:=5) rfl (Yk (x:="_law_one") (zs:=["_law_rates_here","_law_done"]) (ix:=[1,3]) (Zi Wl) ["_law_lines_here","_law_rates_here","_law_heap","_law_done","_law_turn","_law_ready_here","_law_k"] rfl rfl (by decide+kernel)) (Z4 (K:=K) rfl (pv 5)) (fun cl C s H fp=>⟨(Zl (i:=0) (show(["_law_one","_law_rates_here","_law_done"]:List Str).Nodup by decide+kernel) rfl (Or.inl rfl)),(Zcm (ZC Up (Zj (Zp (K:=K) rfl) (pv 2) (pv 0) (fun _ _=>rfl)) (Zj (Zp (K:=K) rfl) (pv 1) (pv 0) (fun _ _=>rfl)) (ZI _))),(pv 0)⟩) Wt.nd rfl (Or.inl rfl))
     (Zc (ZS (ZC (WK (K:=K) rfl hu) (pv 5) (Wc Zb) (ZI _)) (Zf (Zu (pv 3))) ZH)
     (Zc (Z2 PassesOwn.leaving rfl (ZW rfl T.n_range (Za (Zr (ZU (K:=K) rfl) (by rfl) T.n_len PySem.boot_len (Za (pv 0) Zb)) Zb)) (Zl (i:=6) Wt.nd rfl (Or.inl rfl)) (Zc (ZdI (ZS (ZC (WK (K:=K) rfl hu) (Zj (Zp (K:=K) rfl) (Zj (Zp (K:=K) rfl) (pv 0) (pv 6) (fun _ _=>rfl)) Zh (fun _ _=>rfl)) (Zj (Zp (K:=K) rfl) (pv 5) Zh (fun _ _=>rfl)) (ZI _)) (Zf (YZ (Zs V4 (Zj (Zp (K:=K) rfl) (pv 2) (pv 6) (fun _ _=>rfl)) (Zj (Zp (K:=K) rfl) (Zj (Zp (K:=K) rfl) (pv 0) (pv 6) (fun _ _=>rfl)) Zh (fun _ _=>rfl))) (WJ (pv 2) (pv 6) Wp))) ZH))
     (Zf (ZS (ZC (WK (K:=K) rfl hu) (Zj (Zp (K:=K) rfl) (Zj (Zp (K:=K) rfl) (pv 0) (pv 6) (fun _ _=>rfl)) Zh (fun _ _=>rfl)) (Zj (Zp (K:=K) rfl) (pv 5) Zh (fun _ _=>rfl)) (ZI _)) (Zf (YZ (Zs (Z8 (K:=K) rfl) (Zj (Zp (K:=K) rfl) (pv 2) (pv 6) (fun _ _=>rfl)) (Zj (Zp (K:=K) rfl) (Zj (Zp (K:=K) rfl) (pv 0) (pv 6) (fun _ _=>rfl)) Zh (fun _ _=>rfl))) (WJ (pv 2) (pv 6) Wp))) ZH))))
     (Zf (YZ (Zs (Z8 (K:=K) rfl) (Zj (Zp (K:=K) rfl) (pv 3) (Zj (Zp (K:=K) rfl) (pv 5) Zh (fun _ _=>rfl)) (fun _ _=>rfl)) Zh) (WJ (pv 3) (Zj (Zp (K:=K) rfl) (pv 5) Zh (fun _ _=>rfl)) Wp))))))))
     (Zf (Zu (pv 3)))))),?_⟩
  try dsimp only[L2.cxX,L2.ZM,L2.Zn]
  walk_at "rds";refine YR (ZZ ha) (Zx (by omega)) (fun _=>true) (fun i=> .int (ls.getD i dB).start) (fun i H' Kc hi sm k=>?_) (fun i H' Kc hi _ sm k=>?_) (fun hp H1 hhp s1 hhp1=>?_)
  ·walk_at "rds";exact k H' (Ze.refl H')
  ·obtain⟨t,ht1,ht2⟩:=hT.getD (i:=i) (by omega);rw[ht1];have ht3:=sm _ _ ht2;generalize ls.getD i dB=bb at*;dsimp only[B5.v] at ht3;walk_at "rds";exact k H' (Ze.refl H')
  have e0:Wb ls (ZN ls) (fun _=>0)=ZN ls:=by
   refine List.ext_getElem (by rw[Yh hsl,hsl]) fun j a1 a2=>?_;rw[W4 hsl (by omega)];unfold Fire.lie fB;simp
  have hhp2:H1 hp=some (.lst ((Wb ls (ZN ls) (fun _=>0)).map V.int)):=by
   rw[hhp1,List.filter_eq_self.mpr (by simp),e0];refine congrArg (fun z=>some (HO.lst z)) ?_;unfold ZN;rw[hbl];refine List.ext_getElem (by simp) fun i h1 h2=>?_;have:i<ls.length:=by simpa using h1
   simp[List.getD,this]
  have hra1:=s1.seq hra;walk_at "rds";refine YR (ZZ hra1) (Zx (by rw[List.length_map];omega)) (fun _=>true) (fun i=> .int 0) (fun i H' Kc hi sm k=>?_) (fun i H' Kc hi _ sm k=>?_) (fun dn H2 hdn s2 hdn1=>?_)
  ·walk_at "rds";exact k H' (Ze.refl H')
  ·walk_at "rds";exact k H' (Ze.refl H')
  have hdn2:H2 dn=some (.lst ((Z6 rs.length (fun _=>0)).map V.int)):=by
   rw[hdn1,List.filter_eq_self.mpr (by simp),List.length_map];unfold Z6;rw[List.map_map]
   rfl
  have s02:=s1.trans s2;have hra2:=s02.seq hra;have hdn0:H dn=none:=ZG s1 hdn;walk_at "rds";refine Rd.ZiV hra2 ?_;rw[←esum];walk_at "rds";have nhd:hp≠dn:=Zo hhp2 hdn;have hhp0:H hp=none:=hhp;refine Yl (n:=tot rs) (fun i σ H'=>∃(ws:List Nat)(d:Nat→Nat)(a1 a2 a3:Option V),σ=[some (.ref a),some (.ref ra),some (.ref hp),some (.ref dn),a1,a2,a3]∧Ze H H'∧H' hp=some (.lst ((Wb ls (ZN ls) d).map V.int))∧H' dn=some (.lst ((Z6 rs.length d).map V.int))∧Fire.Yd (YQ ls (ZN ls) rs) (fun _=>0) ws d∧ws.length=i) ⟨[],fun _=>0,_,_,_,rfl,s02,s2 _ _ hhp2,hdn2,.nil _,rfl⟩ ?_ ?_
  ·rintro i σ H3 hi ⟨ws,d,a1,a2,a3,rfl,s3,hhq3,hdn3,hrun,hwl⟩;have ha3:=s3.seq ha;have hT3:=hT.keep (fun b xs e=>s3 _ _ e);have hra3:=s3.seq hra;have hln:=Yh (d:=d) hsl;walk_at "rds";refine YR W3 (Zx (by rw[rl];omega)) (fun v=>YD ls (Wb ls (ZN ls) d) (v:Nat)) (fun v=> .int (v:Int)) (fun v H' Kc hv sm k=>?_) (fun v H' Kc hv _ sm k=>?_) (fun r1 H3b hr1 s3b hr1'=>?_)
   ·rw[Int.zero_add];walk_at "rds";refine⟨a,hp,(v:Int),bs,ls,_,rfl,sm.seq ha3,hT3.keep (fun b xs e=>sm _ _ e),.of (sm _ _ hhq3),hln,hz,?_⟩;walk_at "rds";exact k H' (Ze.refl H')
   ·rw[Int.zero_add];walk_at "rds";exact k H' (Ze.refl H')
   obtain⟨vs,evs,hr1b,hvr⟩:∃vs:List Int,vs=((List.range rs.length).filter fun v:Nat=>YD ls (Wb ls (ZN ls) d) v).map (fun v:Nat=>(v:Int))∧H3b r1=some (.lst (vs.map V.int))∧∀x∈vs,0≤x∧x<(rs.length:Int):=by
    refine⟨_,rfl,?_,fun x hx=>?_⟩
    ·rw[hr1',rl,Int.toNat_natCast,List.map_map]
     rfl
    ·obtain⟨v,hv,rfl⟩:=List.mem_map.mp hx;have:=List.mem_range.mp (List.mem_filter.mp hv).1;omega
   clear hr1';have emy:=Zi0 (ls:=ls) (st:=ZN ls) (d:=d) hpos;rw[←evs] at emy;have hvl:vs.length≤60:=by
    rw[evs,List.length_map];exact Nat.le_trans (List.length_filter_le _ _) (by rw[List.length_range];exact hn)
   have s3c:=s3.trans s3b;have hR1:=SqL.of (K:=K) hr1b;have hdn3b:=s3b _ _ hdn3;have hra3b:=s3c.seq hra;walk_at "rds";refine YR (ZZ hR1) (Zx (by rw[List.length_map];omega)) (fun j=>decide ((d (vs.getD j 0).toNat:Int)<rs.getD (vs.getD j 0).toNat 0)) (fun j=> .int (vs.getD j 0)) (fun j H' Kc hj sm k=>?_) (fun j H' Kc hj _ sm k=>?_) (fun ry H4 hry s4 hry4=>?_)
   ·have hj':j<vs.length:=by simpa using hj
    have ev:(vs.map V.int).getD j .non= .int (vs.getD j 0):=by simp[List.getD,hj']
    rw[ev];have hv:=hvr _ (Zbj (d:=0) hj');generalize vs.getD j 0=v at*;have at1:=ZO (ns:=Z6 rs.length d) (k:=v) hv.1 (by rw[W2];exact hv.2);have at2:=ZO (ns:=rs) (k:=v) hv.1 hv.2;rw[U7 (show v.toNat<rs.length by omega)] at at1;have hd':=sm _ _ hdn3b;have hr':=sm.seq hra3b;walk_at "rds";exact k H' (Ze.refl H')
   ·have hj':j<vs.length:=by simpa using hj
    have ev:(vs.map V.int).getD j .non= .int (vs.getD j 0):=by simp[List.getD,hj']
    rw[ev];walk_at "rds";exact k H' (Ze.refl H')
   have ery:H4 ry=some (.lst ((mayL ls (ZN ls) rs d).map V.int)):=by
    rw[hry4,←emy,←Zh9 (xs:=vs) fun x=>decide ((d x.toNat:Int)<rs.getD x.toNat 0),List.length_map,List.map_map]
    rfl
   clear hry4 emy evs;have hmem:=fun x hx=>Zjt (rs:=rs) (d:=d) (x:=x) hsl hbt hx;have hnil:=Zi6 (d:=d) (rs:=rs) hsl hbt;generalize mayL ls (ZN ls) rs d=ms at*;have s34:=s3c.trans s4;have hdn4:=s4 _ _ hdn3b;have hhq4:=s4 _ _ (s3b _ _ hhq3);walk_at "rds";refine⟨Nat.zero_le _,fun o ho=>?_⟩;have s5:Ze H4 (upd H4 o (.lst [])):=Zq ho;have ho5:(upd H4 o (.lst [])) o=some (.lst []):=Zd;generalize upd H4 o (.lst [])=H5 at*;have ery5:=s5 _ _ ery;have hdn5:=s5 _ _ hdn4;have hhq5:=s5 _ _ hhq4;have s35:=s34.trans s5;refine Rd.Zi8 (Y3.ints (SqL.of ery5)) (.lst (SqL.of ho5) .nil) (WD _) rfl (UC _) ?_;rw[Zb6];walk_at "rds";refine Rd.ifD (fun c=>?_) (fun c=>?_)
   ·have hst:=hnil c;walk_at "rds";exact q dn H5 ws d hdn0 s35 hdn5 hrun hst
   ·have ml:0<ms.length:=List.length_pos_iff.mpr c;obtain⟨x,hx,atx⟩:=ZdN (xs:=ms) (k:=0) (.inl ⟨Int.le_refl _,by omega⟩);obtain⟨w,rfl,hmay⟩:=hmem x hx;have hvn:w<rs.length:=hmay.1;have ha5:=s35.seq ha;have hry0:H ry=none:=ZG s3c hry;have nryh:ry≠hp:=fun z=>by rw[z] at hry;rw[s3b _ _ hhq3] at hry;cases hry
    have nryd:ry≠dn:=fun z=>by rw[z] at hry;rw[hdn3b] at hry;cases hry
    have esh:=Zek (d:=d) hsl hbt w;have hsl2:=Zbn (w:=(w:Int)) hln;generalize hhs:Wb ls (ZN ls) d=hs at*;walk_at "rds";refine Yl (n:=((bs.length:Nat):Int).toNat) (fun m σ H'=>∃(us:List Int)(b1:Option V),σ=[some (.ref a),some (.ref ra),some (.ref hp),some (.ref dn),some (.int (0+(i:Int))),some (.ref ry),b1]∧Ze H H'∧H' hp=some (.lst (us.map V.int))∧H' dn=some (.lst ((Z6 rs.length d).map V.int))∧H' ry=some (.lst (ms.map V.int))∧us.length=hs.length∧∀j<hs.length,us.getD j 0=if j<m then(Wn ls hs w).getD j 0 else hs.getD j 0) ⟨hs,_,rfl,s35,hhq5,hdn5,ery5,rfl,fun j _=>by simp⟩ ?_ ?_
    ·rintro i2 σ H6 hi2 ⟨us,b1,rfl,s6,hr6,hdn6,hry6,hul,hus⟩;have hil:i2<ls.length:=by omega
     have ha6:=s6.seq ha;have hM6:=SqL.of (K:=K) hry6;obtain⟨u,hu1,hu2⟩:=hT.at (List.getElem?_eq_getElem hil);have hu3:=s6 _ _ hu2;have at1:atI bs (i2:Int)=some (.ref u):=Yu hu1;have at2:=ZO (ns:=us) (k:=(i2:Int)) (by omega) (by omega);have e0:=hus i2 (by omega);rw[if_neg (Nat.lt_irrefl _)] at e0;rw[Int.toNat_natCast,e0] at at2;have esx:(Wn ls hs w).getD i2 0=hs.getD i2 0-(if ls[i2].taker=w then ls[i2].take else 0)+(if ls[i2].giver=w then ls[i2].give else 0):=by
      rw[Zw (show i2<(Wn ls hs w).length by omega),ZbQ hil (by omega) (by omega),Zw (show i2<hs.length by omega)]
     have hset:∀x,x=(Wn ls hs w).getD i2 0→∀j<hs.length,(us.set i2 x).getD j 0=if j<i2+1 then(Wn ls hs w).getD j 0 else hs.getD j 0:=fun x ex j hj=>by
      have hju:j<us.length:=by omega
      rw[Zw (by rw[List.length_set];exact hju),List.getElem_set]
      by_cases e:i2=j
      ·subst e;rw[if_pos rfl,if_pos (Nat.lt_succ_self _),ex]
      ·rw[if_neg e,←Zw (d:=0) hju,hus j hj]
       by_cases z:j<i2
       ·rw[if_pos z,if_pos (by omega)]
       ·rw[if_neg z,if_neg (by omega)]
     have il:(i2:Int)<((us.map V.int).length:Int):=by simp;omega
     generalize ls[i2]=bb at*;generalize hs.getD i2 0=h0 at*;dsimp only[B5.v] at hu3;rw[Int.zero_add];walk_at "rds";refine Rd.cut (fun σ' H'=>σ'=[some (.ref a),some (.ref ra),some (.ref hp),some (.ref dn),some (.int (0+(i:Int))),some (.ref ry),some (.int i2)]∧Ze H H'∧H' hp=some (.lst ((us.set i2 (h0-(if bb.taker=w then bb.take else 0))).map V.int))∧H' dn=some (.lst ((Z6 rs.length d).map V.int))∧H' ry=some (.lst (ms.map V.int))) ?k1 ?i1
     case i1=>
      walk_at "rds";refine Rd.ifD (fun c=>?_) (fun c=>?_)
      ·walk_at "rds";refine⟨rfl,s6.new hhp0,?_,by rw[Zg nhd.symm];exact hdn6,by rw[Zg nryh];exact hry6⟩;rw[Zd,if_pos c,List.map_set,Int.toNat_natCast]
      ·walk_at "rds";refine⟨rfl,s6,?_,hdn6,hry6⟩;have:us.set i2 (h0-0)=us:=by
        rw[Int.sub_zero,←e0,Zw (show i2<us.length by omega)];exact List.set_getElem_self _
       rw[if_neg c,this];exact hr6
     case k1=>
     rintro σ' H7 ⟨rfl,s7,hr7,hdn7,hry7⟩;have ha7:=s7.seq ha;have hM7:=SqL.of (K:=K) hry7;have hu4:=s7 _ _ hu2;generalize h0-(if bb.taker=w then bb.take else 0)=h1 at*;have at3:=ZO (ns:=us.set i2 h1) (k:=(i2:Int)) (by omega) (by rw[List.length_set];omega);rw[Int.toNat_natCast,Zw (show i2<(us.set i2 h1).length by rw[List.length_set];omega),List.getElem_set_self] at at3;have il3:(i2:Int)<(((us.set i2 h1).map V.int).length:Int):=by simp;omega
     dsimp only[B5.v] at hu4;walk_at "rds";refine Rd.ifD (fun c=>?_) (fun c=>?_)
     ·walk_at "rds";refine⟨us.set i2 (h1+bb.give),_,rfl,s7.new hhp0,?_,by rw[Zg nhd.symm];exact hdn7,by rw[Zg nryh];exact hry7,by rw[List.length_set];exact hul,hset _ (by rw[esx,if_pos c])⟩;rw[Zd,Int.toNat_natCast,←List.map_set,List.set_set]
     ·walk_at "rds";exact⟨us.set i2 h1,_,rfl,s7,hr7,hdn7,hry7,by rw[List.length_set];exact hul,hset _ (by rw[esx,if_neg c,Int.add_zero])⟩
    ·rintro σ H6 ⟨us,b1,rfl,s6,hr6,hdn6,hry6,hul,hus⟩;have eu:us=Wn ls hs w:=by
      refine List.ext_getElem (by omega) fun j h1 h2=>?_;have:=hus j (by omega);rw[if_pos (by rw[Int.toNat_natCast];omega),Zw h1,Zw h2] at this;exact this
     rw[eu,esh] at hr6;have hM6:=SqL.of (K:=K) hry6;have at1:=ZO (ns:=Z6 rs.length d) (k:=(w:Int)) (by omega) (by rw[W2];omega);rw[Int.toNat_natCast,U7 hvn] at at1;have vl:(w:Int)<(((Z6 rs.length d).map V.int).length:Int):=by rw[List.length_map,W2];omega
     walk_at "rds";refine⟨ws++ [w],Fire.bump d w,_,_,_,rfl,s6.new hdn0,by rw[Zg nhd];exact hr6,?_,hrun.snoc hmay,by rw[List.length_append,hwl];rfl⟩;rw[Zd,Int.toNat_natCast,←Ziu hvn,List.map_set]
  ·rintro σ H3 ⟨ws,d,a1,a2,a3,rfl,s3,hhq3,hdn3,hrun,hwl⟩;have hst:∀w,¬YQ ls (ZN ls) rs d w:=fun w z=>by have:=ZgA hrun z;omega
   walk_at "rds";exact q dn H3 ws d hdn0 s3 hdn3 hrun hst
end
def Zdm{K:PySem.W.Frag}{mg:Str→Option Value}(T:Tp K mg):Sp:=fun vs H Q _=>∃(u q ra c g:Addr)(bs:List V)(ls:List B5)(rs:List Int)(ws:List Nat)(d:Nat→Nat)(ring:List Nat),vs=[.ref u,.ref q,.ref ra]∧H u=some (.tup [.ref c,.ref g])∧H c=some (.lst ((Z6 rs.length d).map V.int))∧H g=some (.lst (ring.map fun j:Nat=>V.int j))∧H q=some (.lst bs)∧Yj H bs ls∧H ra=some (.lst (rs.map V.int))∧ls.length≤1000∧Y0 ls∧ZK ls rs.length∧rs.length≤60∧(∀r∈rs,1≤r)∧tot rs≤1000∧Fire.Yd (YQ ls (ZN ls) rs) (fun _=>0) ws d∧(∀w,¬YQ ls (ZN ls) rs d w)∧Vy ls rs (ZN ls) (Z6 rs.length d) ring∧
 ∀H',Ze H H'→Q (.bl true) H'
section
variable {P:Program}{w:World}{K:PySem.W.Frag}{mg:Str→Option Value}{base:Heap}
theorem Zhe(T:Tp K mg):Zk P w K mg base (CXX P w) 3 T.f_l_stops T.d_l_stops ["_law_stop","_law_lines_here","_law_rates_here"] (Zdm T):=by
 have G_l_stands:Zk P w K mg base (CXX P w) 2 T.f_l_stands T.d_l_stands ["_law_lines_here","_law_rates_here"] (ZaL T):=(ZcI T).mono (by decide);refine T.F_l_stops.okX YH (fun vs H Q E h=>?_) (fun cdv A outer s H vs Q E hr h=>?_)
 ·obtain⟨u,q,ra,c,g,bs,ls,rs,ws,d,ring,rfl,_⟩:=h
  rfl
 ·have hu:=hr.units;obtain⟨u,q,ra,c,g,bs,ls,rs,ws,d,ring,rfl,hua,hc,hg,hq,hT,hra,hz,hsz,hbt,hn,hpos,htot,hrun,hst,hring,qq⟩:=h;have hbl:=hT.length;have eg:(ring.map fun j:Nat=>V.int j)=(ring.map fun j:Nat=>(j:Int)).map V.int:=by rw[List.map_map];rfl
  rw[eg] at hg;have hle:=(Za7 hrun).1;have el:(((Z6 rs.length d).map V.int).length:Int)=((rs.map V.int).length:Int):=by simp[W2]
  have hrn:(ring.map fun j:Nat=>(j:Int))≠[]:=by simpa using hring.ne
  have rl:((rs.map V.int).length:Int)=(rs.length:Int):=by simp
  have hrgl:ring.length≤rs.length:=by
   have:=Fo.Vm hring.nd (n:=rs.length) (fun w hw=>by
    obtain⟨j,hj,rfl⟩:=List.mem_map.mp hw;have:=hbt.at (hring.inn j hj).1;unfold Z7;exact⟨this.2.2.1,this.2.2.2⟩)
   rw[List.length_map] at this;exact this
  have hgl:((ring.map fun j:Nat=>(j:Int)).map V.int).length=ring.length:=by simp
  have hC:=SqL.of (K:=K) hc;have hG:=SqL.of (K:=K) hg;have hR:=SqL.of (K:=K) hra;refine⟨_,(Zc (ZS (PW.pt (W8 (YS (Yf (K:=K) rfl (Zr (Vt (K:=K) rfl) (by rfl) T.n_isinstance PyProof.Rows.boot_isinstance (Za (pv 0) (Za (Wh (v:= .ty "tuple") (by rfl) T.n_tuple PyProof.Rows.boot_tuple rfl) Zb))) (fun _=>rfl))) (VP (ZC (VU (K:=K) rfl hu) (Zr (ZU (K:=K) rfl) (by rfl) T.n_len PySem.boot_len (Za (pv 0) Zb)) Zh (ZI _))))) (Zf (Zu YC)) ZH)
     (Zc (YZ (pv 0) (YA (K:=K) (n:=2) rfl rfl (Zz (Zl (i:=3) YH.nd rfl (Or.inl rfl)) (Zz (Zl (i:=4) YH.nd rfl (Or.inl rfl)) YB))))
     (Zc (ZS (PW.pt (W8 (YS (Yf (K:=K) rfl (Zr (Vt (K:=K) rfl) (by rfl) T.n_isinstance PyProof.Rows.boot_isinstance (Za (pv 3) (Za (Wh (v:= .ty "list") (by rfl) T.n_list PyProof.Rows.boot_list rfl) Zb))) (fun _=>rfl))) (W8 (ZC (VU (K:=K) rfl hu) (Zr (ZU (K:=K) rfl) (by rfl) T.n_len PySem.boot_len (Za (pv 3) Zb)) (Zr (ZU (K:=K) rfl) (by rfl) T.n_len PySem.boot_len (Za (pv 2) Zb)) (ZI _)) (W8 (YS (Yf (K:=K) rfl (Zr (Vt (K:=K) rfl) (by rfl) T.n_isinstance PyProof.Rows.boot_isinstance (Za (pv 4) (Za (Wh (v:= .ty "list") (by rfl) T.n_list PyProof.Rows.boot_list rfl) Zb))) (fun _=>rfl))) (VP (ZC (WK (K:=K) rfl hu) (pv 4) (Wc Zb) (ZI _))))))) (Zf (Zu YC)) ZH)
     (Zc (Z2 PassesOwn.leaving rfl (ZW rfl T.n_range (Za (Zr (ZU (K:=K) rfl) (by rfl) T.n_len PySem.boot_len (Za (pv 2) Zb)) Zb)) (Zl (i:=5) YH.nd rfl (Or.inl rfl)) (Zf (ZS (PW.pt (W8 (YS (Yf (K:=K) rfl (Zr (Vt (K:=K) rfl) (by rfl) T.n_isinstance PyProof.Rows.boot_isinstance (Za (Zj (Zp (K:=K) rfl) (pv 3) (pv 5) (fun _ _=>rfl)) (Za (Wh (v:= .ty "int") (by rfl) T.n_int PyProof.Rows.boot_int rfl) Zb))) (fun _=>rfl))) (VP (Yf (K:=K) rfl (Zr (Vt (K:=K) rfl) (by rfl) T.n_isinstance PyProof.Rows.boot_isinstance (Za (Zj (Zp (K:=K) rfl) (pv 3) (pv 5) (fun _ _=>rfl)) (Za (Wh (v:= .ty "bool") (by rfl) T.n_bool PyProof.Rows.boot_bool rfl) Zb))) (fun _=>rfl))))) (Zf (Zu YC)) ZH)))
     (Zc (ZS (ZC (VU (K:=K) rfl hu) (pv 3) (Zv G_l_stands hr rfl T.m_l_stands T.F_l_stands.kp T.b_l_stands .nil Zm (Za (pv 1) (Za (pv 2) Zb))) (ZI _)) (Zf (Zu YC)) ZH)
     (Zc (Z2 PassesOwn.leaving rfl (ZW rfl T.n_range (Za (Zr (ZU (K:=K) rfl) (by rfl) T.n_len PySem.boot_len (Za (pv 4) Zb)) Zb)) (Zl (i:=5) YH.nd rfl (Or.inl rfl)) (Zc (ZS (PW.pt (W8 (YS (Yf (K:=K) rfl (Zr (Vt (K:=K) rfl) (by rfl) T.n_isinstance PyProof.Rows.boot_isinstance (Za (Zj (Zp (K:=K) rfl) (pv 4) (pv 5) (fun _ _=>rfl)) (Za (Wh (v:= .ty "int") (by rfl) T.n_int PyProof.Rows.boot_int rfl) Zb))) (fun _=>rfl))) (W8 (Yf (K:=K) rfl (Zr (Vt (K:=K) rfl) (by rfl) T.n_isinstance PyProof.Rows.boot_isinstance (Za (Zj (Zp (K:=K) rfl) (pv 4) (pv 5) (fun _ _=>rfl)) (Za (Wh (v:= .ty "bool") (by rfl) T.n_bool PyProof.Rows.boot_bool rfl) Zb))) (fun _=>rfl)) (VP (YS (Zjw Zmq Up Zh (Zj (Zp (K:=K) rfl) (pv 4) (pv 5) (fun _ _=>rfl)) (Zr (ZU (K:=K) rfl) (by rfl) T.n_len PySem.boot_len (Za (pv 1) Zb)))))))) (Zf (Zu YC)) ZH)
     (Zc (YZ (Zj (Zp (K:=K) rfl) (pv 1) (Zj (Zp (K:=K) rfl) (pv 4) (pv 5) (fun _ _=>rfl)) (fun _ _=>rfl)) (YA (K:=K) (n:=5) rfl rfl (Zz (Zl (i:=6) YH.nd rfl (Or.inl rfl)) (Zz (Zl (i:=7) YH.nd rfl (Or.inl rfl)) (Zz (Zl (i:=8) YH.nd rfl (Or.inl rfl)) (Zz (Zl (i:=9) YH.nd rfl (Or.inl rfl)) (Zz (Zl (i:=10) YH.nd rfl (Or.inl rfl)) YB)))))))
     (Zc (ZS (PW.pt (W8 (ZC (Zhp (K:=K) rfl) (Zj (Zp (K:=K) rfl) (pv 4) (pv 5) (fun _ _=>rfl)) (Zan (Zft (K:=K) rfl) (pv 4) Za4 (ZaY (pv 5))) (by with_unfolding_all rfl)) (VP (ZC (VU (K:=K) rfl hu) (Zj (Zp (K:=K) rfl) (Zj (Zp (K:=K) rfl) (pv 1) (Zj (Zp (K:=K) rfl) (pv 4) (Zs V4 (pv 5) Zh) (fun _ _=>rfl)) (fun _ _=>rfl)) Zh (fun _ _=>rfl)) (pv 7) (ZI _))))) (Zf (Zu YC)) ZH)
     (Zc (ZS (ZC Zcg (Zj (Zp (K:=K) rfl) (pv 3) (pv 7) (fun _ _=>rfl)) (Zj (Zp (K:=K) rfl) (pv 2) (pv 7) (fun _ _=>rfl)) (ZI _)) (Zf (Zu YC)) ZH)
     (Zf (ZS (ZC Zcg (Zs V4 (Zs (Z8 (K:=K) rfl) (pv 10) (Zs Yo (pv 8) (Zj (Zp (K:=K) rfl) (pv 3) (pv 6) (fun _ _=>rfl)))) (Zs Yo (pv 9) (Zj (Zp (K:=K) rfl) (pv 3) (pv 7) (fun _ _=>rfl)))) (pv 9) (ZI _)) (Zf (Zu YC)) ZH)))))))
     (Zf (Zu YC)))))))),?_⟩
  try dsimp only[L2.cxX,L2.ZM,L2.Zn]
  walk_at "rds";refine Rd.Vj (.of hua) rfl ?_;walk_at "rds";refine⟨Nat.zero_le _,fun o ho=>?_⟩;have s1:Ze H (upd H o (.lst [])):=Zq ho;have ho1:(upd H o (.lst [])) o=some (.lst []):=Zd;generalize upd H o (.lst [])=H1 at*;refine Rd.Zi8 (Y3.ints (SqL.of (s1 _ _ hg))) (.lst (SqL.of ho1) .nil) (WD _) rfl (UC _) ?_;rw[Zb6,decide_eq_false hrn];have hC1:=s1.seq hC;have hR1:=s1.seq hR;walk_at "rds";refine Yl (n:=((rs.map V.int).length:Int).toNat) (fun i σ H'=>H'=H1∧∃a1:Option V,σ=[some (.ref u),some (.ref q),some (.ref ra),some (.ref c),some (.ref g),a1,none,none,none,none,none]) ⟨rfl,_,rfl⟩ ?_ ?_
  ·rintro i σ H' hi ⟨rfl,a1,rfl⟩;replace hi:i<rs.length:=by rw[List.length_map,Int.toNat_natCast] at hi;exact hi
   have at1:=ZO (ns:=Z6 rs.length d) (k:=0+(i:Int)) (by omega) (by rw[W2];omega);walk_at "rds";exact⟨rfl,_,rfl⟩
  rintro σ H' ⟨rfl,a1,rfl⟩;walk_at "rds";refine⟨q,ra,bs,ls,rs,rfl,.of (s1 _ _ hq),hT.keep (fun b xs e=>s1 _ _ e),hR1,hz,hbt,hn,hpos,htot,fun r H2 ws2 d2 hr s2 hr2 hrun2 hst2=>?_⟩;have ed:d2=d:=Fire.Yd.one (Fire.ZfS fun b hb=>by
   obtain⟨j,hj,rfl⟩:=Zcn (by simp[ZN]) hb;obtain⟨gv,tk,g0,_,_,_,eg,_⟩:=hsz j hj;rw[Zw hj] at eg;show 0≤ls[j].give;omega) hrun2 hst2 hrun hst
  subst ed;have s02:=s1.trans s2;have hC2:=s02.seq hC;refine Rd.Zij hC2 (SqL.of hr2) ?_;have hG2:=s02.seq hG;walk_at "rds";refine Yl (n:=(((ring.map fun j:Nat=>(j:Int)).map V.int).length:Int).toNat) (fun i σ H'=>Ze H H'∧∃a1 a2 a3 a4 a5 a6:Option V,σ=[some (.ref u),some (.ref q),some (.ref ra),some (.ref c),some (.ref g),a1,a2,a3,a4,a5,a6]) ⟨s02,_,_,_,_,_,_,rfl⟩ ?_ ?_
  ·rintro i σ H3 hi ⟨s3,a1,a2,a3,a4,a5,a6,rfl⟩;replace hi:i<ring.length:=by rw[List.length_map,List.length_map,Int.toNat_natCast] at hi;exact hi
   have hC3:=s3.seq hC;have hG3:=s3.seq hG;have hR3:=s3.seq hR;have hq3:=s3 _ _ hq;have hQ3:=SqL.of (K:=K) hq3;have at1:atI ((ring.map fun j:Nat=>(j:Int)).map V.int) (i:Int)=some (.int (ring[i]:Nat)):=Yu (by simp[hi]);obtain⟨im,him,hin2,at2,hlk⟩:∃(m0:Nat)(hm:m0<ls.length),m0∈ring∧atI ((ring.map fun j:Nat=>(j:Int)).map V.int) ((i:Int)-1)=some (.int (m0:Nat))∧ls[m0].giver=Z7 ls ring[i]:=ZiF hring hi;have hin:=(hring.inn _ (List.getElem_mem hi));have hnin:(ring[i]:Int)∉(ring.map fun j:Nat=>(j:Int)).take i:=Zjj hring hi;generalize ring[i]=m at*;obtain⟨hml,hsh1,hsh2⟩:=hin;obtain⟨y,hy1,hy2⟩:=hT.at (List.getElem?_eq_getElem hml);have hy3:=s3 _ _ hy2;obtain⟨y0,hz1,hz2⟩:=hT.at (List.getElem?_eq_getElem him);have hz3:=s3 _ _ hz2;have at3:atI bs (m:Int)=some (.ref y):=Yu hy1;have at4:atI bs (im:Int)=some (.ref y0):=Yu hz1;have hb:=hbt ls[m] (List.getElem_mem hml);obtain⟨gv,tk,g0,t0,g1,t1,eg1,et1⟩:=hsz m hml;have est:(ZN ls).getD m 0=ls[m].start:=by simp[ZN,List.getD,hml]
   unfold Z7 at hlk;rw[est] at hsh2;rw[Zw hml] at hlk hsh1 hsh2 eg1 et1;generalize ls[m]=bb at*;generalize ls[im]=b0 at*;dsimp only[B5.v] at hy3 hz3;rw[hlk] at hz3;have at5:=ZO (ns:=Z6 rs.length d2) (k:=bb.taker) hb.2.2.1 (by rw[W2];exact hb.2.2.2);have at6:=ZO (ns:=Z6 rs.length d2) (k:=bb.giver) hb.1 (by rw[W2];exact hb.2.1);have at7:=ZO (ns:=rs) (k:=bb.taker) hb.2.2.1 hb.2.2.2;rw[U7 (show bb.taker.toNat<rs.length by omega)] at at5 hsh1 hsh2;rw[U7 (show bb.giver.toNat<rs.length by omega)] at at6 hsh2;have up:∀v<rs.length,d2 v<2 ^ 110:=fun v hv=>Nat.lt_of_le_of_lt (Nat.le_trans (Ziv hrun v hv) htot) (by decide);have mo1:IntMulOk bb.give (d2 bb.giver.toNat:Int):=by rw[eg1];exact Vx g1 (up _ (by omega)) (by decide)
   have mo2:IntMulOk bb.take (d2 bb.taker.toNat:Int):=by rw[et1];exact Vx t1 (up _ (by omega)) (by decide)
   rw[Int.zero_add];walk_at "rds";refine Rd.Vj (.of hy3) rfl ?_;walk_at "rds";refine Rd.slL hG3 (fun sl hsl=>?_);rw[Ziq (by omega),Int.toNat_natCast,←List.map_take];have s4:Ze H3 (upd H3 sl (.lst (((ring.map fun j:Nat=>(j:Int)).take i).map V.int))):=Zq hsl;have hs4:(upd H3 sl (.lst (((ring.map fun j:Nat=>(j:Int)).take i).map V.int))) sl=some (.lst (((ring.map fun j:Nat=>(j:Int)).take i).map V.int)):=Zd;generalize upd H3 sl (.lst (((ring.map fun j:Nat=>(j:Int)).take i).map V.int))=H4 at*;have hC4:=s4.seq hC3;have hG4:=s4.seq hG3;have hR4:=s4.seq hR3;have hQ4:=s4.seq hQ3;have hz4:=s4 _ _ hz3;have s04:=s3.trans s4;refine Rd.inI (SqL.of hs4) ?_;rw[decide_eq_false hnin];walk_at "rds";exact⟨s04,_,_,_,_,_,_,rfl⟩
  rintro σ H3 ⟨s3,a1,a2,a3,a4,a5,a6,rfl⟩;walk_at "rds";exact qq H3 s3
end
def Zej{K:PySem.W.Frag}{mg:Str→Option Value}(T:Tp K mg):Sp:=fun vs H Q _=>∃(hp q ra:Addr)(hl:HM)(fp:List Addr)(bs:List V)(rl:List Int)(z:Int→Nat),vs=[.ref hp,.ref q,.ref ra]∧ZE T H hp hl fp∧H q=some (.lst bs)∧Yj H bs hl.belts∧H ra=some (.lst (rl.map V.int))∧Zfy hl.belts hl.names.length z rl∧
 ∀H',Ze H H'→Q (.bl true) H'
section
variable {P:Program}{w:World}{K:PySem.W.Frag}{mg:Str→Option Value}{base:Heap}
theorem ZiO(T:Tp K mg):Zk P w K mg base (CXX P w) 11 T.f_l_told T.d_l_told ["_law_hall","_law_lines_here","_law_rates_here"] (Zej T):=by
 have G_round_of:Zk P w K mg base (CXX P w) 10 T.f_round_of T.d_round_of ["hall"] (Zcu T):=(Zge T).mono (by decide);have G_l_stops:Zk P w K mg base (CXX P w) 10 T.f_l_stops T.d_l_stops ["_law_stop","_law_lines_here","_law_rates_here"] (Zdm T):=(Zhe T).mono (by decide);have G_l_stands:Zk P w K mg base (CXX P w) 10 T.f_l_stands T.d_l_stands ["_law_lines_here","_law_rates_here"] (ZaL T):=(ZcI T).mono (by decide);refine T.F_l_told.okX Zep (fun vs H Q E h=>?_) (fun cdv A outer s H vs Q E hr h=>?_)
 ·obtain⟨hp,q,ra,hl,fp,bs,rl,z,rfl,_⟩:=h
  rfl
 ·have hu:=hr.units;obtain⟨hp,q,ra,⟨nms,ls⟩,fp,bs,rl,z,rfl,hh,hq,hT,hra,hok,qq⟩:=h;dsimp only at hT hok;refine⟨_,(Zc (Zy (i:=3) Zep.nd rfl (Or.inr rfl) (Zv G_round_of hr rfl T.m_round_of T.F_round_of.kp T.b_round_of .nil Zm (Za (pv 0) Zb)))
     (Zc (ZS (PW.pt (W8 (YS (Yf (K:=K) rfl (Zr (Vt (K:=K) rfl) (by rfl) T.n_isinstance PyProof.Rows.boot_isinstance (Za (pv 3) (Za (Wh (v:= .ty "tuple") (by rfl) T.n_tuple PyProof.Rows.boot_tuple rfl) Zb))) (fun _=>rfl))) (W8 (ZC (VU (K:=K) rfl hu) (Zr (ZU (K:=K) rfl) (by rfl) T.n_len PySem.boot_len (Za (pv 3) Zb)) Zh (ZI _)) (VP (ZC (WK (K:=K) rfl hu) (VG ZdD (Zj (Zp (K:=K) rfl) (pv 3) Zh (fun _ _=>rfl)) Vp (ZI _)) (VG ZdD (Zj (Zp (K:=K) rfl) (pv 3) Zh (fun _ _=>rfl)) Vp (ZI _)) (ZI _)))))) (Zf (Zu YC)) ZH)
     (Zc (ZS (ZC ZkG (Zj (Zp (K:=K) rfl) (pv 3) Zh (fun _ _=>rfl)) Vp (ZI _)) (Zf (Zu (Zv G_l_stops hr rfl T.m_l_stops T.F_l_stops.kp T.b_l_stops .nil Zm (Za (Zj (Zp (K:=K) rfl) (pv 3) Zh (fun _ _=>rfl)) (Za (pv 1) (Za (pv 2) Zb)))))) ZH)
     (Zc (ZS (PW.pt (W8 (YS (Yf (K:=K) rfl (Zr (Vt (K:=K) rfl) (by rfl) T.n_isinstance PyProof.Rows.boot_isinstance (Za (Zj (Zp (K:=K) rfl) (pv 3) Zh (fun _ _=>rfl)) (Za (Wh (v:= .ty "list") (by rfl) T.n_list PyProof.Rows.boot_list rfl) Zb))) (fun _=>rfl))) (VP (ZC (VU (K:=K) rfl hu) (Zv G_l_stands hr rfl T.m_l_stands T.F_l_stands.kp T.b_l_stands .nil Zm (Za (pv 1) (Za (pv 2) Zb))) (pv 2) (ZI _))))) (Zf (Zu YC)) ZH)
     (Zf (Zu (VG (WK (K:=K) rfl hu) (Um rfl (Yk (x:="_law_work") (zs:=["_law_found"]) (ix:=[3]) (Zi Zag) ["_law_hall","_law_lines_here","_law_rates_here","_law_found"] rfl rfl (by decide+kernel)) (ZW rfl T.n_range (Za (Zr (ZU (K:=K) rfl) (by rfl) T.n_len PySem.boot_len (Za (pv 2) Zb)) Zb)) (fun cl C s H fp=>⟨(Zl (i:=0) (show(["_law_work","_law_found"]:List Str).Nodup by decide+kernel) rfl (Or.inl rfl)),Yn,(Yw (K:=K) rfl PySem.F.plainAttrs_list PySem.F.slot_list_count PySem.F.type_list_count (Zeb (K:=K) rfl) (Zj (Zp (K:=K) rfl) (pv 1) Zh (fun _ _=>rfl)) (Za (pv 0) Zb))⟩)) (pv 2) (ZI _)))))))),?_⟩
  try dsimp only[L2.cxX,L2.ZM,L2.Zn]
  walk_at "rds";refine⟨hp,⟨nms,ls⟩,fp,z,rfl,hh,hok.nn,hok.le,hok.bt,hok.sz,hok.wt,hok.st,fun rs hRt=>?_⟩;dsimp only at hRt;obtain rfl:=hok.uq rs hRt;have hsum:=hok.sum;have hrl:=hRt.len;have htot:(tot rs:Int)=rs.sum:=Zcc fun r hr=>(by have:=hRt.pos r hr;omega);have hlle:=hok.le;have hnn:=hok.nn;refine⟨fun z=>by omega,fun _=>⟨fun t r H8 ws d hr0 s8 ht8 hr8 hrun hd=>?_,fun t u c g H8 ws d ring hc0 hg0 s8 ht8 hu8 hc8 hg8 hrun hst hex hring=>?_⟩⟩
  ·dsimp only at hrun;have hst1:∀w,¬YQ ls (ZN ls) rs d w:=fun w z=>by have:=hd w z.1;have:=z.2.1;omega
   have hq8:=s8 _ _ hq;have hT8:=hT.keep (fun b xs e=>s8 _ _ e);have hra8:=s8 _ _ hra;have hcnt:=Fire.Yd.count (VO hrun);have rl:((rs.map V.int).length:Int)=(rs.length:Int):=by simp
   have hr8':H8 r=some (.lst ((ws.map fun w:Nat=>(w:Int)).map V.int)):=by rw[List.map_map];exact hr8
   walk_at "rds";refine⟨rfl,?_⟩;walk_at "rds";refine⟨rfl,?_⟩;rw[decide_eq_false (show ¬V.ref r=V.non from fun z=>nomatch z),decide_eq_true (show V.non=V.non from rfl)];walk_at "rds";refine⟨rfl,?_⟩;walk_at "rds";refine⟨q,ra,bs,ls,rs,rfl,.of hq8,hT8,.of hra8,by omega,by rw[hrl];exact hok.bt,by omega,hRt.pos,by omega,fun st H9 ws2 d2 hst0 s9 hst9 hrun2 hst2=>?_⟩;have ed:d2=d:=Fire.Yd.one (Fire.ZfS fun b hb=>by
    obtain⟨j,hj,rfl⟩:=Zcn (by simp[ZN]) hb;obtain⟨gv,tk,g0,_,_,_,eg,_⟩:=hok.sz j hj;rw[Zw hj] at eg;show 0≤ls[j].give;omega) hrun2 hst2 (VO hrun) hst1
   subst ed;rw[ZiD hRt.pos hd] at hst9;have hra9:=s9 _ _ hra8;have ht9:=s9 _ _ ht8;walk_at "rds";refine Rd.Zij (SqL.of hst9) (SqL.of hra9) ?_;walk_at "rds";refine YR W3 (Zx (by rw[rl];omega)) (fun _=>true) (fun v=> .int (rs.getD v 0)) (fun v H' Kc hv sm k=>?_) (fun v H' Kc hv _ sm k=>?_) (fun ct H4 hct s4 hct4=>?_)
   ·walk_at "rds";exact k H' (Ze.refl H')
   ·have hv':v<rs.length:=by omega
    have hr4:=sm _ _ (s9 _ _ hr8');have hw4:=SqL.of (K:=K) hr4;have ht4:=sm _ _ ht9;have ec:((ws.map fun w:Nat=>(w:Int)).count (v:Int):Int)=rs.getD v 0:=by
     rw[Zg8,←VE hRt.pos hv',←hd v hv',hcnt v];simp
    rw[Int.zero_add];walk_at "rds";refine Rd.ZhY hw4 ?_;rw[ec];walk_at "rds";exact k H' (Ze.refl H')
   have ect:H4 ct=some (.lst (rs.map V.int)):=by
    rw[hct4,List.filter_eq_self.mpr (by simp),rl,Int.toNat_natCast];refine congrArg (fun z=>some (HO.lst z)) ?_;refine List.ext_getElem (by simp) fun i h1 h2=>?_;have:i<rs.length:=by simpa using h1
    simp[List.getD,this]
   have hra4:=s4 _ _ hra9;walk_at "rds";refine Rd.Zk6 (SqL.of ect) (SqL.of hra4) ?_;walk_at "rds";exact qq H4 ((s8.trans s9).trans s4)
  ·have hq8:=s8 _ _ hq;have hT8:=hT.keep (fun b xs e=>s8 _ _ e);have hra8:=s8 _ _ hra;dsimp only at hrun hst hring;walk_at "rds";refine⟨rfl,?_⟩;walk_at "rds";refine⟨rfl,?_⟩;rw[decide_eq_true (show V.non=V.non from rfl),decide_eq_false (show ¬V.ref u=V.non from fun z=>nomatch z)];walk_at "rds";refine⟨rfl,?_⟩;walk_at "rds";refine⟨u,q,ra,c,g,bs,ls,rs,ws,d,ring,rfl,hu8,hc8,hg8,hq8,hT8,hra8,by omega,hok.sz,by rw[hrl];exact hok.bt,by omega,hRt.pos,by omega,VO hrun,hst,hring,fun H9 s9=>?_⟩;walk_at "rds";exact qq H9 (s8.trans s9)
end
def Zax{K:PySem.W.Frag}{mg:Str→Option Value}(T:Tp K mg):Sp:=fun vs H Q _=>∃k:Nat,vs=[.int k]∧Q (.str (nameN k)) H
theorem Zh7{K:PySem.W.Frag}{mg:Str→Option Value}{T:Tp K mg}{H:Hp}{Q:VK}{E:XK}{i:Int}(h:0≤i)(q:Q (.str (nameN i.toNat)) H):Zax T ([.int i]++ []) H Q E:=⟨i.toNat,by rw[Int.toNat_of_nonneg h];rfl,q⟩
local macro_rules| `(tactic|walk_at "rd")=>`(tactic|first|((with_reducible show Nm.Zax _ _ _ _ _);with_reducible refine Nm.Zh7 (by walk_at "side") ?_)|fail "none here")
section
variable {P:Program}{w:World}{K:PySem.W.Frag}{mg:Str→Option Value}{base:Heap}
theorem Zh2(T:Tp K mg):Zk P w K mg base (CXX P w) 1 T.f_l_name T.d_l_name ["_law_k"] (Zax T):=by
 refine T.F_l_name.okX ZiK (fun vs H Q E h=>?_) (fun cdv A outer s H vs Q E hr h=>?_)
 ·obtain⟨k,rfl,_⟩:=h
  rfl
 ·have hu:=hr.units;obtain⟨k,rfl,q⟩:=h;unfold nameN at q;have al:=Zky;have hl:=Zkr;refine⟨_,(Zc (ZS (ZC Up (pv 0) Zh (ZI _)) (Zf (Zu (Zan (Zft (K:=K) rfl) Y8 (ZaY (pv 0)) Za4))) ZH)
     (Zf (Zu (Zs (Z8 (K:=K) rfl) (Zj (Zp (K:=K) rfl) Y8 (Zs Yi (pv 0) Zh) (fun _ _=>rfl)) Y8)))),?_⟩
  try dsimp only[L2.cxX,L2.ZM,L2.Zn]
  walk_at "rds";refine Rd.ifD (fun c=>?_) (fun c=>?_)
  ·rw[if_pos (by omega)] at q;walk_at "rds";exact q
  ·rw[if_neg (by omega)] at q;walk_at "rds";have e:((k:Int) % 26)=((k % 26:Nat):Int):=by omega
   rw[e];refine Rd.ZmK al (Yu (ZkX (k % 26) (Nat.mod_lt _ (by decide)))) ?_;refine Rd.Zld ?_ ?_
   ·show 1+("zz" :Str).length≤sizeLine
    decide+kernel
   ·exact q
end
def Zc5{K:PySem.W.Frag}{mg:Str→Option Value}(T:Tp K mg):Sp:=fun vs H Q _=>∃x:Str,vs=[.str x]∧x.length≤sizeLine∧∀H',Ze H H'→Q (.bl (WC x)) H'
noncomputable def letter (c:Nat):Bool:=decide (97≤c)&&decide (c≤122)
theorem Zen(c d:Nat):decide ((⟨#[c]⟩:Str).cps.toList<(⟨#[d]⟩:Str).cps.toList)=decide (c<d):=by
 show decide ([c]< [d])=decide (c<d);have e:([c]< [d])↔c<d:=by
  constructor
  ·intro h;cases h with
   |rel h=>exact h
   |cons h=>cases h
  ·exact fun h=> .rel h
 by_cases h:c<d
 ·rw[decide_eq_true h,decide_eq_true (e.mpr h)]
 ·rw[decide_eq_false h,decide_eq_false (fun z=>h (e.mp z))]
theorem Zl5:("a" :Str)=⟨#[97]⟩:=by decide+kernel
theorem Zmr:("z" :Str)=⟨#[122]⟩:=by decide+kernel
theorem Zhg(x:Str):(((List.range x.cps.size).map fun i=>letter (x.cps.getD i 0)).all id)=x.cps.toList.all letter:=by
 rw[List.all_map,Bool.eq_iff_iff,List.all_eq_true,List.all_eq_true]
 constructor
 ·intro h c hc;obtain⟨i,hi,rfl⟩:=List.getElem_of_mem hc;have hi':i<x.cps.size:=by simpa using hi
  have:=h i (List.mem_range.mpr hi');simpa[Array.getD,hi'] using this
 ·intro h i hi;have hi':=List.mem_range.mp hi;have:=h x.cps[i] (by simp);simpa[Array.getD,hi'] using this
theorem ZbO(x:Str):WC x=(decide (1≤x.length)&&decide (x.length≤8)&&x.cps.toList.all letter):=rfl
section
variable {P:Program}{w:World}{K:PySem.W.Frag}{mg:Str→Option Value}{base:Heap}
theorem Zhk(T:Tp K mg):Zk P w K mg base (CXX P w) 1 T.f_is_name T.d_is_name ["thing"] (Zc5 T):=by
 refine T.F_is_name.okX ZgN (fun vs H Q E h=>?_) (fun cdv A outer s H vs Q E hr h=>?_)
 ·obtain⟨x,rfl,_⟩:=h
  rfl
 ·have hu:=hr.units;obtain⟨x,rfl,hx,q⟩:=h;refine⟨_,(Zc (ZS (YS (Yf (K:=K) rfl (Zr (Vt (K:=K) rfl) (by rfl) T.n_isinstance PyProof.Rows.boot_isinstance (Za (pv 0) (Za (Wh (v:= .ty "str") (by rfl) T.n_str PyProof.Rows.boot_str rfl) Zb))) (fun _=>rfl))) (Zf (Zu YC)) ZH)
     (Zc (ZS (PW.pt (W8 (ZC Up (Zr (ZU (K:=K) rfl) (by rfl) T.n_len PySem.boot_len (Za (pv 0) Zb)) Zh (ZI _)) (VP (ZC ZeO (Zr (ZU (K:=K) rfl) (by rfl) T.n_len PySem.boot_len (Za (pv 0) Zb)) (Zb9 (v:= .int 8) rfl T.c_MOST_LETTERS ⟨_,rfl⟩) (ZI _))))) (Zf (Zu YC)) ZH)
     (Zf (Zu (Zr (Zke (K:=K) rfl rfl) (by rfl) T.n_all PyProof.Rows.boot_all (Za (Um rfl (Yk (x:="sign") (zs:=[]) (ix:=[]) (Zi UF) ["thing"] rfl rfl (by decide+kernel)) (Zlv (pv 0)) (fun cl C s H fp=>⟨(Zl (i:=0) (show(["sign"]:List Str).Nodup by decide+kernel) rfl (Or.inl rfl)),Yn,(Zjv Zef Zef Y8 (pv 0) Y8)⟩)) Zb)))))),?_⟩
  try dsimp only[L2.cxX,L2.ZM,L2.Zn]
  walk_at "rds";refine VB (fun c=>?_) (fun c=>?_)
  ·have c':¬1≤x.length:=by simp at c;omega
   walk_at "rds";have e:WC x=false:=by rw[ZbO,decide_eq_false c'];rfl
   rw[←e];exact q H (Ze.refl H)
  ·have c':1≤x.length:=by simp at c;omega
   walk_at "rds";refine VB (fun d=>?_) (fun d=>?_)
   ·have d':¬x.length≤8:=by simp at d;omega
    walk_at "rds";have e:WC x=false:=by rw[ZbO,decide_eq_false d',Bool.and_false];rfl
    rw[←e];exact q H (Ze.refl H)
   ·have d':x.length≤8:=by simp at d;omega
    have hn:x.cps.size<sizeLine:=Zx (by have:x.cps.size=x.length:=rfl;omega);walk_at "rds";refine YR ZhZ hn (fun _=>true) (fun i=> .bl (letter (x.cps.getD i 0))) (fun i H' Kc hi sm k=>?_) (fun i H' Kc hi _ sm k=>?_) (fun p H' hp sm hl=>?_)
    ·walk_at "rds";exact k H' (Ze.refl H')
    ·walk_at "rds";rw[Zl5,Zmr,Zen];generalize x.cps.getD i 0=cc at k⊢;refine VB (fun z=>?_) (fun z=>?_)
     ·walk_at "rds";have e:(!decide (122<cc))=letter cc:=by
       have z':97≤cc:=by simpa using z
       unfold letter;rw[decide_eq_true z',Bool.true_and]
       by_cases y:cc≤122
       ·rw[decide_eq_true y,decide_eq_false (by omega)];rfl
       ·rw[decide_eq_false y,decide_eq_true (by omega)];rfl
      rw[Zen,e];exact k H' (Ze.refl H')
     ·have e:false=letter cc:=by
       have z':¬97≤cc:=by simpa using z
       unfold letter;rw[decide_eq_false z'];rfl
      rw[e];exact k H' (Ze.refl H')
    ·have hl':H' p=some (.lst (((List.range x.cps.size).map fun i=>letter (x.cps.getD i 0)).map V.bl)):=by
      rw[hl,List.filter_eq_self.mpr (by simp),List.map_map];rfl
     walk_at "rds";rw[Zhg];have e:x.cps.toList.all letter=WC x:=by rw[ZbO,decide_eq_true c',decide_eq_true d'];rfl
     rw[e];exact q H' sm
end
def Zae{K:PySem.W.Frag}{mg:Str→Option Value}(T:Tp K mg):Sp:=fun vs H Q E=>∃(p:Addr)(x:Str)(hl:HM)(fp:List Addr),vs=[.ref p,.str x]∧ZE T H p hl fp∧x.length≤sizeLine∧hl.names.length≤1000∧
 (WC x=false→∀H',Ze H H'→E (.ref T.X_NoName) none H')∧(WC x=true→x∈hl.names→∀H',Ze H H'→E (.ref T.X_Twice) none H')∧
 (WC x=true→x∉hl.names→30≤hl.names.length→∀H',Ze H H'→E (.ref T.X_TooMuch) none H')∧
 (WC x=true→x∉hl.names→hl.names.length<30→∀(H':Hp)(fp':List Addr),ZE T H' p ⟨hl.names++ [x],hl.belts⟩ fp'→ZJ fp H H'→Wf fp fp' H→Q (.int hl.names.length) H')
theorem Ze2{K:PySem.W.Frag}{mg:Str→Option Value}{T:Tp K mg}{H:Hp}{Q:VK}{E:XK}{p:Addr}{x:Str}{hl:HM}{fp:List Addr}(h:ZE T H p hl fp)(hn:WC x=true)(hx:x∉hl.names)(hlen:hl.names.length<30)
  (q:∀(H':Hp)(fp':List Addr),ZE T H' p ⟨hl.names++ [x],hl.belts⟩ fp'→ZJ fp H H'→Wf fp fp' H→Q (.int hl.names.length) H'):Zae T (.ref p::([.str x]++ [])) H Q E:=by
 have l8:x.length≤sizeLine:=by
  have:x.length≤8:=by
   have e:=hn;unfold WC at e;simp only[Bool.and_eq_true,decide_eq_true_eq] at e;exact e.1.2
  exact Nat.le_of_lt (Zx (by omega))
 exact⟨p,x,hl,fp,rfl,h,l8,by omega,fun z=>(by rw[hn] at z;cases z),fun _ z=>absurd z hx,fun _ _ z=>absurd z (by omega),fun _ _ _=>q⟩
section
variable {P:Program}{w:World}{K:PySem.W.Frag}{mg:Str→Option Value}{base:Heap}
theorem Zfg(T:Tp K mg):Zk P w K mg base (CXX P w) 2 T.f_Hall_work T.d_Hall_work ["self","name"] (Zae T):=by
 have G_is_name:Zk P w K mg base (CXX P w) 1 T.f_is_name T.d_is_name ["thing"] (Zc5 T):=(Zhk T).mono (by decide);have cl_Hall:=T.cl_Hall;have na_Hall:=T.na_Hall;refine T.F_Hall_work.okX ZbR (fun vs H Q E h=>?_) (fun cdv A outer s H vs Q E hr h=>?_)
 ·obtain⟨p,x,hl,fp,rfl,_⟩:=h
  rfl
 ·have hu:=hr.units;obtain⟨p,x,hl,fp,rfl,hh,hx,hz,e1,e2,e3,q⟩:=h;obtain⟨dx,a,b,bs,rfl,h1,h2,h3,h4,nab,h6⟩:=id hh;have npa:p≠a:=Yx h1 h3 (by intro z;cases z);have nda:dx≠a:=Yx h2 h3 (by intro z;cases z);refine⟨_,(Zc (ZS (YS (Yf (K:=K) rfl (Zv G_is_name hr rfl T.m_is_name T.F_is_name.kp T.b_is_name .nil Zm (Za (pv 1) Zb)) (fun _=>rfl))) (Zf (Y7 T.gx_NoName T.ex_NoName PySem.F.excBase_ValueError rfl (Za Y8 Zb))) ZH)
     (Zc (ZS (ZC (Zk9 hu) (pv 1) (ZY (K:=K) rfl (pv 0) rfl) (by with_unfolding_all rfl)) (Zf (Y7 T.gx_Twice T.ex_Twice PySem.F.excBase_ValueError rfl (Za Y8 Zb))) ZH)
     (Zc (ZS (ZC Zcg (Zr ZhI (by rfl) T.n_len PySem.boot_len (Za (ZY (K:=K) rfl (pv 0) rfl) Zb)) (Zb9 (v:= .int 30) rfl T.c_MOST_WORKS ⟨_,rfl⟩) (ZI _)) (Zf (Y7 T.gx_TooMuch T.ex_TooMuch PySem.F.excBase_ValueError rfl (Za Y8 Zb))) ZH)
     (Zc (Zy (i:=2) ZbR.nd rfl (Or.inl rfl) (Zr ZhI (by rfl) T.n_len PySem.boot_len (Za (ZY (K:=K) rfl (pv 0) rfl) Zb)))
     (Zc (YZ (pv 2) (WJ (ZY (K:=K) rfl (pv 0) rfl) (pv 1) (Zal hu)))
     (Zf (Zu (pv 2)))))))),?_⟩
  try dsimp only[L2.cxX,L2.ZM,L2.Zn]
  walk_at "rds";refine⟨x,rfl,hx,fun H1 sm1=>?_⟩;have g1:=sm1 _ _ h1;have g3:=sm1 _ _ h3;have hz':(numsOf hl.names).length<sizeLine:=Zx (by rw[UT];exact hz);walk_at "rds";cases hn:WC x with
  |false=>
   walk_at "rds";exact e1 hn H1 sm1
  |true=>
   walk_at "rds";rw[Zes];refine VB (fun c=>?_) (fun c=>?_)
   ·walk_at "rds";exact e2 hn (of_decide_eq_true c) H1 sm1
   ·have c':x∉hl.names:=fun z=>c (decide_eq_true z);walk_at "rds";rw[UT];refine VB (fun d=>?_) (fun d=>?_)
    ·have d':30≤hl.names.length:=by simp at d;omega
     walk_at "rds";exact e3 hn c' d' H1 sm1
    ·have d':hl.names.length<30:=by simp at d;omega
     walk_at "rds";rw[UT,Zg9 c'];have fr:ZJ [p,dx,a,b] H (upd H1 a (.dK (numsOf (hl.names++ [x])))):=sm1.frame.trans (Ym (by simp) g3 (by intro _ z;cases z));refine q hn c' d' _ [p,dx,a,b] ⟨dx,a,b,bs,rfl,?_,?_,Zd,?_,nab,h6.keep fr.tups⟩ fr Wf.refl
     ·rw[Zg npa];exact g1
     ·rw[Zg nda];exact sm1 _ _ h2
     ·rw[Zg nab.symm];exact sm1 _ _ h4
end
def UP{K:PySem.W.Frag}{mg:Str→Option Value}(T:Tp K mg):Sp:=fun vs H Q E=>∃i:Int,vs=[.int i]∧(¬0≤i→E (.ref T.X_NoRate) none H)∧(0≤i→Q .non H)
section
variable {P:Program}{w:World}{K:PySem.W.Frag}{mg:Str→Option Value}{base:Heap}
theorem Zbs(T:Tp K mg):Zk P w K mg base (CXX P w) 3 T.f_need_start T.d_need_start ["start"] (UP T):=by
 have G_is_from:Zk P w K mg base (CXX P w) 2 T.f_is_from T.d_is_from ["thing","least"] (Vd T):=(Zbm T).mono (by decide);refine T.F_need_start.okX ZeG (fun vs H Q E h=>?_) (fun cdv A outer s H vs Q E hr h=>?_)
 ·obtain⟨i,rfl,_⟩:=h
  rfl
 ·have hu:=hr.units;obtain⟨i,rfl,e1,q⟩:=h;refine⟨_,(Zf (ZS (YS (Yf (K:=K) rfl (Zv G_is_from hr rfl T.m_is_from T.F_is_from.kp T.b_is_from .nil Zm (Za (pv 0) (Za Zh Zb))) (fun _=>rfl))) (Zf (Y7 T.gx_NoRate T.ex_NoRate PySem.F.excBase_ValueError rfl (Za Y8 Zb))) ZH)),?_⟩
  try dsimp only[L2.cxX,L2.ZM,L2.Zn]
  walk_at "rds"
  by_cases c:0≤i
  ·rw[decide_eq_true c];walk_at "rds";exact q c
  ·rw[decide_eq_false c];walk_at "rds";exact e1 c
end
def Zcs{K:PySem.W.Frag}{mg:Str→Option Value}(T:Tp K mg):Sp:=fun vs H Q E=>∃(p u:Addr)(b:B5)(hl:HM)(fp:List Addr),vs=[.ref p,.ref u]∧ZE T H p hl fp∧H u=some (.tup b.v)∧hl.belts.length≤1000∧
 ∀(H':Hp)(fp':List Addr),ZE T H' p ⟨hl.names,hl.belts++ [b]⟩ fp'→ZJ fp H H'→Wf fp fp' H→Q (.int hl.belts.length) H'
section
variable {P:Program}{w:World}{K:PySem.W.Frag}{mg:Str→Option Value}{base:Heap}
theorem Zf4(T:Tp K mg):Zk P w K mg base (CXX P w) 1 T.f_Hall_lay T.d_Hall_lay ["self","row"] (Zcs T):=by
 have cl_Hall:=T.cl_Hall;have na_Hall:=T.na_Hall;refine T.F_Hall_lay.okX Zgb (fun vs H Q E h=>?_) (fun cdv A outer s H vs Q E hr h=>?_)
 ·obtain⟨p,u,b,hl,fp,rfl,_⟩:=h
  rfl
 ·have hu:=hr.units;obtain⟨p,u,b,hl,fp,rfl,hh,hu',hz,q⟩:=h;obtain⟨dx,a,bb,bs,rfl,h1,h2,h3,h4,nab,h6⟩:=id hh;have npb:p≠bb:=Yx h1 h4 (by intro z;cases z);have ndb:dx≠bb:=Yx h2 h4 (by intro z;cases z);have nub:u≠bb:=Yx hu' h4 (by intro z;cases z);have hz':bs.length<sizeLine:=Zx (by rw[h6.length];exact hz);have hlb:=h6.length;refine⟨_,(Zc (ZX (Yw (K:=K) rfl PySem.F.plainAttrs_list PySem.F.slot_list_append PySem.F.type_list_append Yg (ZY (K:=K) rfl (pv 0) rfl) (Za (pv 1) Zb)))
     (Zf (Zu (Zs V4 (Zr (ZU (K:=K) rfl) (by rfl) T.n_len PySem.boot_len (Za (ZY (K:=K) rfl (pv 0) rfl) Zb)) Zh)))),?_⟩
  try dsimp only[L2.cxX,L2.ZM,L2.Zn]
  walk_at "rds";have k1:(upd H bb (.lst (bs++ [.ref u]))) p=some (.ins T.C_Hall dx [("numbers",.ref a),("rows",.ref bb)]):=by rw[Zg npb];exact h1
  have k4:(upd H bb (.lst (bs++ [.ref u]))) bb=some (.lst (bs++ [.ref u])):=Zd;walk_at "rds";have el:((bs++ [V.ref u]).length:Int)-1=hl.belts.length:=by simp[hlb]
  rw[el];have fr:ZJ [p,dx,a,bb] H (upd H bb (.lst (bs++ [.ref u]))):=Ym (by simp) h4 (by intro _ z;cases z);refine q _ [p,dx,a,bb] ⟨dx,a,bb,_,rfl,k1,?_,?_,k4,nab,(h6.keep fr.tups).snoc (fr.tups _ _ hu')⟩ fr Wf.refl
  ·rw[Zg ndb];exact h2
  ·rw[Zg nab];exact h3
end
def Zab{K:PySem.W.Frag}{mg:Str→Option Value}(T:Tp K mg):Sp:=fun vs H Q E=>∃(p:Addr)(b:B5)(hl:HM)(fp:List Addr),vs= .ref p::b.v∧ZE T H p hl fp∧hl.belts.length≤1000∧
 (¬(0≤b.giver∧b.giver<hl.names.length∧0≤b.taker∧b.taker<hl.names.length)→∀H',Ze H H'→E (.ref T.X_NoWork) none H')∧
 ((0≤b.giver∧b.giver<hl.names.length∧0≤b.taker∧b.taker<hl.names.length)→¬(1≤b.give∧1≤b.take∧0≤b.start)→∀H',Ze H H'→E (.ref T.X_NoRate) none H')∧
 ((0≤b.giver∧b.giver<hl.names.length∧0≤b.taker∧b.taker<hl.names.length)→(1≤b.give∧1≤b.take∧0≤b.start)→60≤hl.belts.length→∀H',Ze H H'→E (.ref T.X_TooMuch) none H')∧
 ((0≤b.giver∧b.giver<hl.names.length∧0≤b.taker∧b.taker<hl.names.length)→(1≤b.give∧1≤b.take∧0≤b.start)→hl.belts.length<60→∀(H':Hp)(fp':List Addr),ZE T H' p ⟨hl.names,hl.belts++ [b]⟩ fp'→ZJ fp H H'→Wf fp fp' H→Q (.int hl.belts.length) H')
theorem ZfB{K:PySem.W.Frag}{mg:Str→Option Value}{T:Tp K mg}{H:Hp}{Q:VK}{E:XK}{p:Addr}{g t gv tk st:Int}{hl:HM}{fp:List Addr}(h:ZE T H p hl fp)
  (h1:0≤g) (h2:g<hl.names.length) (h3:0≤t) (h4:t<hl.names.length) (h5:1≤gv) (h6:1≤tk) (h7:0≤st) (hlen:hl.belts.length<60)
  (q:∀(H':Hp)(fp':List Addr),ZE T H' p ⟨hl.names,hl.belts++ [⟨g,t,gv,tk,st⟩]⟩ fp'→ZJ fp H H'→Wf fp fp' H→Q (.int hl.belts.length) H'):Zab T [.ref p,.int g,.int t,.int gv,.int tk,.int st] H Q E:=
 ⟨p,⟨g,t,gv,tk,st⟩,hl,fp,rfl,h,by omega,fun z=>absurd ⟨h1,h2,h3,h4⟩ z,fun _ z=>absurd ⟨h5,h6,h7⟩ z,fun _ _ z=>absurd z (by omega),fun _ _ _=>q⟩
section
variable {P:Program}{w:World}{K:PySem.W.Frag}{mg:Str→Option Value}{base:Heap}
theorem ZeY(T:Tp K mg):Zk P w K mg base (CXX P w) 5 T.f_Hall_belt T.d_Hall_belt ["self","giver","taker","give","take","start"] (Zab T):=by
 have G_need_start:Zk P w K mg base (CXX P w) 4 T.f_need_start T.d_need_start ["start"] (UP T):=(Zbs T).mono (by decide);have G_is_from:Zk P w K mg base (CXX P w) 4 T.f_is_from T.d_is_from ["thing","least"] (Vd T):=(Zbm T).mono (by decide);have G_Hall_need_work:Zk P w K mg base (CXX P w) 4 T.f_Hall_need_work T.d_Hall_need_work ["self","work"] (Wv T):=(Vh T).mono (by decide);have G_Hall_lay:Zk P w K mg base (CXX P w) 4 T.f_Hall_lay T.d_Hall_lay ["self","row"] (Zcs T):=(Zf4 T).mono (by decide);have cl_Hall:=T.cl_Hall;have na_Hall:=T.na_Hall;refine T.F_Hall_belt.okX ZfR (fun vs H Q E h=>?_) (fun cdv A outer s H vs Q E hr h=>?_)
 ·obtain⟨p,b,hl,fp,rfl,_⟩:=h
  rfl
 ·have hu:=hr.units;obtain⟨p,b,hl,fp,rfl,hh,hz,e1,e2,e3,q⟩:=h;obtain⟨dx,a,bb,bs,rfl,h1,h2,h3,h4,nab,h6⟩:=id hh;obtain⟨g,t,gv,tk,st⟩:=b;have hlb:=h6.length;refine⟨_,(Zc (ZX (Yc (pv 0) T.cl_Hall T.M_Hall_need_work G_Hall_need_work hr T.b_Hall_need_work .nil Zm (Za (pv 1) Zb)))
     (Zc (ZX (Yc (pv 0) T.cl_Hall T.M_Hall_need_work G_Hall_need_work hr T.b_Hall_need_work .nil Zm (Za (pv 2) Zb)))
     (Zc (ZS (PW.pt (W8 (YS (Yf (K:=K) rfl (Zv G_is_from hr rfl T.m_is_from T.F_is_from.kp T.b_is_from .nil Zm (Za (pv 3) (Za Zh Zb))) (fun _=>rfl))) (VP (YS (Yf (K:=K) rfl (Zv G_is_from hr rfl T.m_is_from T.F_is_from.kp T.b_is_from .nil Zm (Za (pv 4) (Za Zh Zb))) (fun _=>rfl)))))) (Zf (Y7 T.gx_NoRate T.ex_NoRate PySem.F.excBase_ValueError rfl (Za Y8 Zb))) ZH)
     (Zc (ZX (Zv G_need_start hr rfl T.m_need_start T.F_need_start.kp T.b_need_start .nil Zm (Za (pv 5) Zb)))
     (Zc (ZS (ZC Zcg (Zr (ZU (K:=K) rfl) (by rfl) T.n_len PySem.boot_len (Za (ZY (K:=K) rfl (pv 0) rfl) Zb)) (Zb9 (v:= .int 60) rfl T.c_MOST_BELTS ⟨_,rfl⟩) (ZI _)) (Zf (Y7 T.gx_TooMuch T.ex_TooMuch PySem.F.excBase_ValueError rfl (Za Y8 Zb))) ZH)
     (Zf (Zu (Yc (pv 0) T.cl_Hall T.M_Hall_lay G_Hall_lay hr T.b_Hall_lay .nil Zm (Za (YT (Za (pv 1) (Za (pv 2) (Za (pv 3) (Za (pv 4) (Za (pv 5) Zb)))))) Zb))))))))),?_⟩
  try dsimp only[L2.cxX,L2.ZM,L2.Zn]
  dsimp only[B5.v] at*;walk_at "rds";refine⟨p,g,hl,_,rfl,hh,fun z=>e1 (by omega) H (Ze.refl H),fun g0 g1=>?_⟩;walk_at "rds";refine⟨p,t,hl,_,rfl,hh,fun z=>e1 (by omega) H (Ze.refl H),fun t0 t1=>?_⟩;have ws:0≤g∧g<hl.names.length∧0≤t∧t<hl.names.length:=⟨g0,g1,t0,t1⟩;walk_at "rds"
  by_cases c:1≤gv
  ·rw[decide_eq_true c];walk_at "rds"
   by_cases d:1≤tk
   ·rw[decide_eq_true d];walk_at "rds";refine⟨st,rfl,fun z=>e2 ws (by omega) H (Ze.refl H),fun f=>?_⟩;walk_at "rds";refine Rd.ifD (fun l=>?_) (fun l=>?_)
    ·walk_at "rds";exact e3 ws (by omega) (by omega) H (Ze.refl H)
    walk_at "rds";refine⟨by show 5≤sizeLine;decide,fun u hu'=>?_⟩;have sn:Ze H (upd H u (.tup [.int g,.int t,.int gv,.int tk,.int st])):=Zq hu';have hh':=hh.same sn;walk_at "rds";refine⟨p,u,⟨g,t,gv,tk,st⟩,hl,_,rfl,hh',Zd,hz,fun H' fp' hh2 fr gr=>?_⟩;refine q ws (by omega) (by omega) H' fp' hh2 (sn.frame.trans fr) (fun x hx=>?_);rcases gr x hx with z|z
    ·exact .inl z
    ·refine .inr ?_;cases e:H x with
     |none=>rfl
     |some o=>rw[sn _ _ e] at z;cases z
   ·rw[decide_eq_false d];walk_at "rds";exact e2 ws (by omega) H (Ze.refl H)
  ·rw[decide_eq_false c];walk_at "rds";exact e2 ws (by omega) H (Ze.refl H)
end
noncomputable def ZcK (b:B5) (s:Int):B5:=⟨b.giver,b.taker,b.give,b.take,s⟩
theorem Yj.set{H:Hp}:∀{bs:List V}{ls:List B5}{t:Addr}{b:B5}(i:Nat),Yj H bs ls→H t=some (.tup b.v)→Yj H (bs.set i (.ref t)) (ls.set i b)
 |_,_,_,_,_,.nil,_=> .nil
 |_,_,_,_,0,.cons _ r,h=> .cons ⟨_,rfl,h⟩ r
 |_,_,_,_,i+1,.cons x r,h=> .cons x (Yj.set i r h)
def Zb5{K:PySem.W.Frag}{mg:Str→Option Value}(T:Tp K mg):Sp:=fun vs H Q E=>∃(p:Addr)(i s:Int)(hl:HM)(fp:List Addr),vs=[.ref p,.int i,.int s]∧ZE T H p hl fp∧
 (¬(0≤i∧i<hl.belts.length)→E (.ref T.X_NoBelt) none H)∧((0≤i∧i<hl.belts.length)→¬0≤s→E (.ref T.X_NoRate) none H)∧
 ((0≤i∧i<hl.belts.length)→0≤s→∀(b:B5)(H':Hp)(fp':List Addr),hl.belts[i.toNat]? =some b→ZE T H' p ⟨hl.names,hl.belts.set i.toNat (ZcK b s)⟩ fp'→ZJ fp H H'→Wf fp fp' H→Q (.bl (!decide (b.start=s))) H')
section
variable {P:Program}{w:World}{K:PySem.W.Frag}{mg:Str→Option Value}{base:Heap}
theorem ZeS(T:Tp K mg):Zk P w K mg base (CXX P w) 5 T.f_Hall_fill T.d_Hall_fill ["self","belt","start"] (Zb5 T):=by
 have G_need_start:Zk P w K mg base (CXX P w) 4 T.f_need_start T.d_need_start ["start"] (UP T):=(Zbs T).mono (by decide);have G_Hall_need_belt:Zk P w K mg base (CXX P w) 4 T.f_Hall_need_belt T.d_Hall_need_belt ["self","belt"] (Vg T):=(UR T).mono (by decide);have cl_Hall:=T.cl_Hall;have na_Hall:=T.na_Hall;refine T.F_Hall_fill.okX ZbY (fun vs H Q E h=>?_) (fun cdv A outer s H vs Q E hr h=>?_)
 ·obtain⟨p,i,s,hl,fp,rfl,_⟩:=h
  rfl
 ·have hu:=hr.units;obtain⟨p,i,st,hl,fp,rfl,hh,e1,e2,q⟩:=h;obtain⟨dx,a,bb,bs,rfl,h1,h2,h3,h4,nab,h6⟩:=id hh;have npb:p≠bb:=Yx h1 h4 (by intro z;cases z);have ndb:dx≠bb:=Yx h2 h4 (by intro z;cases z);have hlb:=h6.length;refine⟨_,(Zc (ZX (Yc (pv 0) T.cl_Hall T.M_Hall_need_belt G_Hall_need_belt hr T.b_Hall_need_belt .nil Zm (Za (pv 1) Zb)))
     (Zc (ZX (Zv G_need_start hr rfl T.m_need_start T.F_need_start.kp T.b_need_start .nil Zm (Za (pv 2) Zb)))
     (Zc (Zy (i:=3) ZbY.nd rfl (Or.inl rfl) (Zj (Zp (K:=K) rfl) (ZY (K:=K) rfl (pv 0) rfl) (pv 1) (fun _ _=>rfl)))
     (Zc (YZ (Zs (Z8 (K:=K) rfl) (Zan (Zft (K:=K) rfl) (pv 3) Za4 (ZaY Zh)) (YT (Za (pv 2) Zb))) (WJ (ZY (K:=K) rfl (pv 0) rfl) (pv 1) Wp))
     (Zf (Zu (VG (VU (K:=K) rfl hu) (Zj (Zp (K:=K) rfl) (pv 3) Zh (fun _ _=>rfl)) (pv 2) (ZI _)))))))),?_⟩
  try dsimp only[L2.cxX,L2.ZM,L2.Zn]
  walk_at "rds";refine⟨p,i,hl,_,rfl,hh,e1,fun i0 i1=>?_⟩;walk_at "rds";refine⟨st,rfl,fun z=>e2 ⟨i0,i1⟩ z,fun s0=>?_⟩;have hi:i.toNat<hl.belts.length:=by omega
  have ei:=List.getElem?_eq_getElem hi;obtain⟨t,ht1,ht2⟩:=h6.at ei;have at1:atI bs i=some (.ref t):=by
   have:=Yu ht1
   rwa [Int.toNat_of_nonneg i0] at this
  generalize hl.belts[i.toNat]=b at*;dsimp only[B5.v] at ht2;walk_at "rds";refine Rd.slT (.of ht2) (by show ¬(HT.sIx 5 0 none=0∧HT.sIx 5 5 (some 4)=5);decide) (fun u hu'=>?_);have su:Ze H (upd H u (.tup (Vz [V.int b.giver,V.int b.taker,V.int b.give,V.int b.take,V.int b.start] none (some 4)))):=Zq hu';have hu1:(upd H u (.tup (Vz [V.int b.giver,V.int b.taker,V.int b.give,V.int b.take,V.int b.start] none (some 4)))) u=some (.tup [V.int b.giver,V.int b.taker,V.int b.give,V.int b.take]):=Zd;generalize upd H u (.tup (Vz [V.int b.giver,V.int b.taker,V.int b.give,V.int b.take,V.int b.start] none (some 4)))=H1 at*;walk_at "rds";refine(fun u2 hu2=>?_);have su2:Ze H1 (upd H1 u2 (.tup [V.int st])):=Zq hu2;have hv2:(upd H1 u2 (.tup [V.int st])) u2=some (.tup [V.int st]):=Zd;generalize upd H1 u2 (.tup [V.int st])=H2 at*;refine Rd.ZmN (.of (su2 _ _ hu1)) (.of hv2) (by simp) (by simp) (by show 5≤sizeLine;decide) (fun u3 hu3=>?_);have su3:Ze H2 (upd H2 u3 (.tup ([V.int b.giver,V.int b.taker,V.int b.give,V.int b.take]++ [V.int st]))):=Zq hu3;have hv3:(upd H2 u3 (.tup ([V.int b.giver,V.int b.taker,V.int b.give,V.int b.take]++ [V.int st]))) u3=some (.tup (ZcK b st).v):=Zd;generalize upd H2 u3 (.tup ([V.int b.giver,V.int b.taker,V.int b.give,V.int b.take]++ [V.int st]))=H3 at*;have s3:Ze H H3:=(su.trans su2).trans su3;have g1:=s3 _ _ h1;have g4:=s3 _ _ h4;have il:i<(bs.length:Int):=by omega
  walk_at "rds";have nt:t≠bb:=Yx ht2 h4 (by intro z;cases z);have ht4:(upd H3 bb (.lst (bs.set i.toNat (.ref u3)))) t=some (.tup [V.int b.giver,V.int b.taker,V.int b.give,V.int b.take,V.int b.start]):=by rw[Zg nt];exact s3 _ _ ht2
  walk_at "rds";have fr:ZJ [p,dx,a,bb] H (upd H3 bb (.lst (bs.set i.toNat (.ref u3)))):=s3.frame.trans (Ym (by simp) g4 (by intro _ z;cases z));refine q ⟨i0,i1⟩ s0 b _ [p,dx,a,bb] ei ⟨dx,a,bb,_,rfl,?_,?_,?_,Zd,nab,(h6.keep fr.tups).set i.toNat ?_⟩ fr Wf.refl
  ·rw[Zg npb];exact g1
  ·rw[Zg ndb];exact s3 _ _ h2
  ·rw[Zg nab];exact s3 _ _ h3
  ·have nu:u3≠bb:=Yx hv3 g4 (by intro z;cases z);rw[Zg nu];exact hv3
end
def Zaa{K:PySem.W.Frag}{mg:Str→Option Value}(T:Tp K mg):Sp:=fun vs H Q _=>∃p dx:Addr,vs=[.ref p]∧H p=some (.ins T.C_Hall dx [])∧H dx=some (.own p)∧
 ∀(H':Hp)(fp:List Addr),ZE T H' p ⟨[],[]⟩ fp→(∀x∈fp,x=p∨x=dx∨H x=none)→(∀b o,H b=some o→b≠p→H' b=some o)→Q .non H'
theorem Zfq{K:PySem.W.Frag}{mg:Str→Option Value}{T:Tp K mg}{H:Hp}{Q:Addr→Hp→Prop}{E:XK}
  (q:∀(p:Addr)(fp:List Addr)(H':Hp),ZE T H' p ⟨[],[]⟩ fp→(∀x∈fp,H x=none)→Ze H H'→Q p H'):
  ∀x dx,H x=none→H dx=none→dx≠x→Zaa T (.ref x::([]++ [])) (upd (upd H dx (.own x)) x (.ins T.C_Hall dx [])) (fun v H2=>v= .non∧Q x H2) E:=by
 intro x dx hx hdx ne;refine⟨x,dx,rfl,Zd,by rw[Zg ne,Zd],fun H' fp hh hf hk=>⟨rfl,q x fp H' hh (fun y hy=>?_) (fun b o e=>hk b o ?_ (Zo e hx))⟩⟩
 ·rcases hf y hy with rfl|rfl|h
  ·exact hx
  ·exact hdx
  ·by_cases h1:y=x
   ·rw[h1];exact hx
   ·by_cases h2:y=dx
    ·rw[h2];exact hdx
    ·rw[Zg h1,Zg h2] at h;exact h
 ·rw[Zg (Zo e hx),Zg (Zo e hdx)];exact e
local macro_rules| `(tactic|walk_at "rd")=>`(tactic|first|with_reducible refine Nm.Zfq ?_|fail "none here")
section
variable {P:Program}{w:World}{K:PySem.W.Frag}{mg:Str→Option Value}{base:Heap}
theorem ZeX(T:Tp K mg):Zk P w K mg base (CXX P w) 1 T.f_Hall_init T.d_Hall_init ["self"] (Zaa T):=by
 have cl_Hall:=T.cl_Hall;have na_Hall:=T.na_Hall;refine T.F_Hall_init.okX Ze8 (fun vs H Q E h=>?_) (fun cdv A outer s H vs Q E hr h=>?_)
 ·obtain⟨p,dx,rfl,_⟩:=h
  rfl
 ·have hu:=hr.units;obtain⟨p,dx,rfl,hp,hdx,q⟩:=h;refine⟨_,(Zc (Ui (K:=K) rfl (pv 0) Zaf rfl)
     (Zf (Ui (K:=K) rfl (pv 0) (Wc Zb) rfl))),?_⟩
  try dsimp only[L2.cxX,L2.ZM,L2.Zn]
  walk_at "rds";intro a ha;have npa:p≠a:=Zo hp ha;have nda:dx≠a:=Zo hdx ha;have npd:p≠dx:=Yx hp hdx (by intro z;cases z);have hp1:(upd H a (.dK [])) p=some (.ins T.C_Hall dx []):=by rw[Zg npa];exact hp
  walk_at "rds";refine⟨Nat.zero_le _,fun b hb=>?_⟩;have hb0:H b=none:=by
   by_cases h1:b=p
   ·rw[h1,Zd] at hb;cases hb
   ·by_cases h2:b=a
    ·rw[h2];exact ha
    ·rw[Zg h1,Zg h2] at hb;exact hb
  have npb:p≠b:=Zo hp hb0;have ndb:dx≠b:=Zo hdx hb0;have nab:a≠b:=by
   intro z;rw[←z,Zg npa.symm,Zd] at hb;cases hb
  have hp2:(upd (upd (upd H a (.dK [])) p (.ins T.C_Hall dx [("numbers",.ref a)])) b (.lst [])) p=some (.ins T.C_Hall dx [("numbers",.ref a)]):=by rw[Zg npb,Zd]
  walk_at "rds";refine q _ [p,dx,a,b] ⟨dx,a,b,[],rfl,Zd,?_,?_,?_,nab,.nil⟩ (fun x hx=>?_) (fun c o e hc=>?_)
  ·rw[Zg npd.symm,Zg ndb,Zg npd.symm,Zg nda];exact hdx
  ·rw[Zg npa.symm,Zg nab,Zg npa.symm,Zd];rfl
  ·rw[Zg npb.symm,Zd]
  ·simp only[List.mem_cons,List.not_mem_nil,or_false] at hx;rcases hx with rfl|rfl|rfl|rfl
   ·exact .inl rfl
   ·exact .inr (.inl rfl)
   ·exact .inr (.inr ha)
   ·exact .inr (.inr hb0)
  ·rw[Zg hc,Zg (Zo e hb0),Zg hc,Zg (Zo e ha)];exact e
end
section
variable {P:Program}{w:World}{K:PySem.W.Frag}{mg:Str→Option Value}{base:Heap}
theorem ZkW(T:Tp K mg):Zk P w K mg base (CXX P w) 12 T.f_law T.d_law ["_law_script"] (ZlS T):=by
 have G_l_lines:Zk P w K mg base (CXX P w) 11 T.f_l_lines T.d_l_lines ["_law_script","_law_sizes"] (Zdo T):=(ZgQ T).mono (by decide);have G_l_rates:Zk P w K mg base (CXX P w) 11 T.f_l_rates T.d_l_rates ["_law_lines_here","_law_sizes"] (Zdl T):=(ZhD T).mono (by decide);have G_l_started:Zk P w K mg base (CXX P w) 11 T.f_l_started T.d_l_started ["_law_script","_law_lines_here","_law_rates_here"] (ZbI T):=(Ze1 T).mono (by decide);have G_l_told:Zk P w K mg base (CXX P w) 11 T.f_l_told T.d_l_told ["_law_hall","_law_lines_here","_law_rates_here"] (Zej T):=(ZiO T).mono (by decide);have G_l_mixed:Zk P w K mg base (CXX P w) 11 T.f_l_mixed T.d_l_mixed ["_law_script","_law_k"] (WE T):=(UW T).mono (by decide);have G_l_name:Zk P w K mg base (CXX P w) 11 T.f_l_name T.d_l_name ["_law_k"] (Zax T):=(Zh2 T).mono (by decide);have G_Hall_work:Zk P w K mg base (CXX P w) 11 T.f_Hall_work T.d_Hall_work ["self","name"] (Zae T):=(Zfg T).mono (by decide);have G_Hall_belt:Zk P w K mg base (CXX P w) 11 T.f_Hall_belt T.d_Hall_belt ["self","giver","taker","give","take","start"] (Zab T):=(ZeY T).mono (by decide);have G_Hall_fill:Zk P w K mg base (CXX P w) 11 T.f_Hall_fill T.d_Hall_fill ["self","belt","start"] (Zb5 T):=(ZeS T).mono (by decide);have G_Hall_init:Zk P w K mg base (CXX P w) 10 T.f_Hall_init T.d_Hall_init ["self"] (Zaa T):=(ZeX T).mono (by decide);have cl_Hall:=T.cl_Hall;have na_Hall:=T.na_Hall;refine T.F_law.okX Yb (fun vs H Q E h=>?_) (fun cdv A outer s H vs Q E hr h=>?_)
 ·obtain⟨a,ns,rfl,_⟩:=h
  rfl
 ·have hu:=hr.units;obtain⟨p,ns,rfl,hS,hlen,k⟩:=h;refine⟨_,(Zc (Zy (i:=1) Yb.nd rfl (Or.inl rfl) (Zs (Z8 (K:=K) rfl) Zh (Zs Yi (Zv G_l_mixed hr rfl T.m_l_mixed T.F_l_mixed.kp T.b_l_mixed .nil Zm (Za (pv 0) (Za Zh Zb))) Zh)))
     (Zc (Zy (i:=2) Yb.nd rfl (Or.inr rfl) Zh)
     (Zc (ZdI (ZS (ZC (WK (K:=K) rfl hu) (Zs Yi (Zs Z5 (Zv G_l_mixed hr rfl T.m_l_mixed T.F_l_mixed.kp T.b_l_mixed .nil Zm (Za (pv 0) (Za Zh Zb))) Zh) Zh) Zh (ZI _)) (Zc (Zy (i:=1) Yb.nd rfl (Or.inl rfl) (Zs (Z8 (K:=K) rfl) Zh (Zs Yi (Zs Z5 (Zv G_l_mixed hr rfl T.m_l_mixed T.F_l_mixed.kp T.b_l_mixed .nil Zm (Za (pv 0) (Za Zh Zb))) Zh) Zh)))
     (Zf (Zy (i:=2) Yb.nd rfl (Or.inr rfl) Zh))) ZH))
     (Zc (ZcR (j:=3) (xs:=["_law_k"]) rfl (Yk (x:="_law_k") (zs:=["_law_script","_law_top"]) (ix:=[0,2]) (Zi Zdj) ["_law_script","_law_many","_law_top","_law_sizes","_law_lines_here","_law_rates_here","_law_hall","_law_k","_law_giver","_law_taker","_law_give","_law_take","_law_start","_law_mixed_here","_law_at"] rfl rfl (by decide+kernel)) (ZW rfl T.n_range (Za (pv 1) Zb)) (fun cl C s H fp=>⟨(Zl (i:=0) (show(["_law_k","_law_script","_law_top"]:List Str).Nodup by decide+kernel) rfl (Or.inl rfl)),Yn,(Zs (Z8 (K:=K) rfl) Zh (Zs Yi (Zv G_l_mixed hr rfl T.m_l_mixed T.F_l_mixed.kp T.b_l_mixed .nil VZ (Za (pv 1) (Za (Zs (Z8 (K:=K) rfl) Zh (pv 0)) Zb))) (pv 2)))⟩) Yb.nd rfl (Or.inl rfl))
     (Zc (Zy (i:=4) Yb.nd rfl (Or.inl rfl) (Zv G_l_lines hr rfl T.m_l_lines T.F_l_lines.kp T.b_l_lines .nil Zm (Za (pv 0) (Za (pv 3) Zb))))
     (Zc (Zy (i:=5) Yb.nd rfl (Or.inl rfl) (Zv G_l_rates hr rfl T.m_l_rates T.F_l_rates.kp T.b_l_rates .nil Zm (Za (pv 4) (Za (pv 3) Zb))))
     (Zc (Zy (i:=4) Yb.nd rfl (Or.inl rfl) (Zv G_l_started hr rfl T.m_l_started T.F_l_started.kp T.b_l_started .nil Zm (Za (pv 0) (Za (pv 4) (Za (pv 5) Zb)))))
     (Zc (Zy (i:=6) Yb.nd rfl (Or.inl rfl) (ZiZ T.mk_Hall G_Hall_init hr rfl T.g_Hall T.b_Hall_init .nil Zm))
     (Zc (Z2 PassesOwn.leaving rfl (ZW rfl T.n_range (Za (pv 1) Zb)) (Zl (i:=7) Yb.nd rfl (Or.inl rfl)) (Zf (ZX (Yc (pv 6) T.cl_Hall T.M_Hall_work G_Hall_work hr T.b_Hall_work .nil Zm (Za (Zv G_l_name hr rfl T.m_l_name T.F_l_name.kp T.b_l_name .nil Zm (Za (pv 7) Zb)) Zb)))))
     (Zc (Z2 PassesOwn.leaving rfl (Z4 (K:=K) rfl (pv 4)) (YA (K:=K) (n:=5) rfl rfl (Zz (Zl (i:=8) Yb.nd rfl (Or.inl rfl)) (Zz (Zl (i:=9) Yb.nd rfl (Or.inl rfl)) (Zz (Zl (i:=10) Yb.nd rfl (Or.inl rfl)) (Zz (Zl (i:=11) Yb.nd rfl (Or.inl rfl)) (Zz (Zl (i:=12) Yb.nd rfl (Or.inl rfl)) YB)))))) (Zf (ZX (Yc (pv 6) T.cl_Hall T.M_Hall_belt G_Hall_belt hr T.b_Hall_belt .nil Zm (Za (pv 8) (Za (pv 9) (Za (pv 10) (Za (pv 11) (Za (pv 12) Zb)))))))))
     (Zc (ZS (YS (Yf (K:=K) rfl (Zv G_l_told hr rfl T.m_l_told T.F_l_told.kp T.b_l_told .nil Zm (Za (pv 6) (Za (pv 4) (Za (pv 5) Zb)))) (fun _=>rfl))) (Zf (Zu YC)) ZH)
     (Zc (Z2 PassesOwn.leaving rfl (ZW rfl T.n_range (Za Zh Zb)) (Zl (i:=7) Yb.nd rfl (Or.inl rfl)) (Zc (Zy (i:=13) Yb.nd rfl (Or.inl rfl) (Zv G_l_mixed hr rfl T.m_l_mixed T.F_l_mixed.kp T.b_l_mixed .nil Zm (Za (pv 0) (Za (Zs (Z8 (K:=K) rfl) Zh (pv 7)) Zb))))
     (Zc (Zy (i:=14) Yb.nd rfl (Or.inl rfl) (Zs Yi (pv 13) (Zr (ZU (K:=K) rfl) (by rfl) T.n_len PySem.boot_len (Za (pv 4) Zb))))
     (Zc (YZ (Zj (Zp (K:=K) rfl) (pv 4) (pv 14) (fun _ _=>rfl)) (YA (K:=K) (n:=5) rfl rfl (Zz (Zl (i:=8) Yb.nd rfl (Or.inl rfl)) (Zz (Zl (i:=9) Yb.nd rfl (Or.inl rfl)) (Zz (Zl (i:=10) Yb.nd rfl (Or.inl rfl)) (Zz (Zl (i:=11) Yb.nd rfl (Or.inl rfl)) (Zz (Zl (i:=12) Yb.nd rfl (Or.inl rfl)) YB)))))))
     (Zc (Zy (i:=12) Yb.nd rfl (Or.inl rfl) (Zj (Zp (K:=K) rfl) (Wc (Za Zh (Za (Zs Yo (pv 11) (Zj (Zp (K:=K) rfl) (pv 5) (pv 9) (fun _ _=>rfl))) (Za (Zs V4 (pv 11) Zh) (Za (Zs Yi (Zs Z5 (pv 13) Zh) (Zs Yo Zh (pv 11))) Zb))))) (Zs Yi (Zs Z5 (pv 13) Zh) Zh) (fun _ _=>rfl)))
     (Zc (YZ (YT (Za (pv 8) (Za (pv 9) (Za (pv 10) (Za (pv 11) (Za (pv 12) Zb)))))) (WJ (pv 4) (pv 14) Wp))
     (Zc (ZX (Yc (pv 6) T.cl_Hall T.M_Hall_fill G_Hall_fill hr T.b_Hall_fill .nil Zm (Za (pv 14) (Za (pv 12) Zb))))
     (Zf (ZS (YS (Yf (K:=K) rfl (Zv G_l_told hr rfl T.m_l_told T.F_l_told.kp T.b_l_told .nil Zm (Za (pv 6) (Za (pv 4) (Za (pv 5) Zb)))) (fun _=>rfl))) (Zf (Zu YC)) ZH)))))))))
     (Zf (Zu YC)))))))))))))),?_⟩
  try dsimp only[L2.cxX,L2.ZM,L2.Zn]
  clear G_l_told G_l_rates G_l_lines G_l_started G_l_mixed G_l_name;walk_at "rds";rename_i m0 hm0 m00 m01;clear hm0;obtain⟨M0,eM0⟩:∃M0:Nat,1+m0 % 6=(M0:Int):=⟨(1+m0 % 6).toNat,by omega⟩;rw[eM0];refine Rd.cut (fun σ' H'=>H'=H∧∃M tp:Nat,σ'=[some (.ref p),some (.int M),some (.int tp),none,none,none,none,none,none,none,none,none,none,none,none]∧0<M∧M≤30∧0<tp∧tp≤12∧tp*M≤72) ?k1 ?i1
  case i1=>
   walk_at "rds";refine Rd.ifD (fun c=>?_) (fun c=>?_)
   ·walk_at "rds";rename_i mx2 hm2 z1 z2;obtain⟨M,eM⟩:∃M:Nat,7+mx2 / 288 % 24=(M:Int):=⟨(7+mx2 / 288 % 24).toNat,by omega⟩;rw[eM];exact⟨rfl,M,2,rfl,by omega,by omega,by omega,by omega,by omega⟩
   ·walk_at "rds";exact⟨rfl,M0,12,rfl,by omega,by omega,by omega,by omega,by omega⟩
  case k1=>
   rintro σ' H' ⟨rfl,M,tp,rfl,m1,m2,t1,t2,t3⟩;walk_at "rds";have tpp:(0:Int)<(tp:Int):=by omega
   refine YJ (own:=1) W3.y (Zx (by omega)) (fun j=>[some (.int (0+(j:Int)))]) (fun _=>rfl) (fun _=>true) (fun j v _=>v= .int (1+WP ns (1+(0+(j:Int))) % (tp:Int))) (fun _ _ _ _ _ z=>z) (fun i a' H' v H2 Kg hi sm y ha' k=>?_) (fun i H' Kc hi sm k=>?_) (fun pp i H' Kc hi hc hp0 hp1' sm k=>?_) (fun sa H1 ys hsa s1 hsa1 hR=>?_)
   ·obtain⟨rfl,rfl⟩:=y;obtain⟨x1,rfl⟩:∃x1,a'=[x1]:=by
     match a',ha' with
     | [x1],_=>exact⟨x1,rfl⟩
    walk_at "rds";exact k _ (Ze.refl _)
   ·walk_at "rds";exact k H' (Ze.refl H')
   ·have hS':=sm.seq hS;walk_at "rds";rename_i mx hmx mx0 mx1;rw[hmx];exact k _ H' (Ze.refl H') rfl
   rw[List.filter_eq_self.mpr (by simp),Int.toNat_natCast] at hR;have ey:=Zez hR;have hss:∀s∈(List.range M).map (fun j:Nat=>1+WP ns (1+(0+(j:Int))) % (tp:Int)),1≤s∧s≤(tp:Int):=fun s hs=>by
    obtain⟨j,_,rfl⟩:=List.mem_map.mp hs;have:=Int.emod_nonneg (WP ns (1+(0+(j:Int)))) (show(tp:Int)≠0 by omega);have:=Int.emod_lt_of_pos (WP ns (1+(0+(j:Int)))) tpp;omega
   have hsl:((List.range M).map (fun j:Nat=>1+WP ns (1+(0+(j:Int))) % (tp:Int))).length=M:=by simp
   generalize (List.range M).map (fun j:Nat=>1+WP ns (1+(0+(j:Int))) % (tp:Int))=ss at*;subst ey;have hso:W5 ss:=fun s hs=>by have:=hss s hs;omega
   have hS1:=s1.seq hS;have hA1:=SqL.of (K:=K) hsa1;walk_at "rds";refine⟨p,sa,ns,ss,rfl,hS1,hA1,hso,by omega,by omega,fun q0 H2 bs0 ls0 hq0 s2 hq2 hT2 l0 l1 hd0=>?_⟩;have hA2:=s2.seq hA1;have hS2:=s2.seq hS1;have hb0:ZK ls0 ss.length:=Zbu hd0 rfl;walk_at "rds";refine⟨q0,sa,bs0,ls0,ss,rfl,hq2,hT2,hA2,hso,hb0,by omega,fun ra H3 rl hra s3 hra3 hRL=>?_⟩;have hS3:=s3.seq hS2;have hrb:∀r∈rl,0≤r∧r≤(tp:Int):=fun r hr=>by
    obtain⟨w,hw,e⟩:=List.getElem_of_mem hr;have hw':w<ss.length:=by rw[←hRL.1];exact hw
    obtain⟨ys,_,_,_,_,e2⟩:=hRL.2 w hw';rw[Zw hw,e] at e2;have h3:=hss (ss.getD w 0) (Zbj hw');have h4:(ss.getD w 0).toNat / gcdL ss ys≤(ss.getD w 0).toNat:=Nat.div_le_self _ _;generalize (ss.getD w 0).toNat / gcdL ss ys=z at*;omega
   walk_at "rds";refine⟨p,q0,ra,ns,bs0,ls0,ss,rl,rfl,hS3,s3 _ _ hq2,hT2.keep (fun b xs e=>s3 _ _ e),.of hra3,hRL.1,fun r hr=>(by have:=hrb r hr;omega),by omega,hd0,fun q H4 bs ls hq0' s4 hq4 hT4 hll hst=>?_⟩;obtain⟨hld,hRl⟩:=ZgM hll hst hd0 hRL;have hra4:=s4 _ _ hra3;have nrq:ra≠q:=Zo hra3 hq0';have s04:=s1.trans (s2.trans (s3.trans s4));clear hst hd0 hRL hT2 hq2 hb0;have hbl:=hT4.length;walk_at "rds";intro hp fp H5 hh hf sm;have hO5:WB K H5 (q::fp) p (ns.map V.int):=(hS.off (A:=q::fp) (fun x hx=>(List.mem_cons.mp hx).elim (fun z=>by rw[z];exact ZG (s1.trans (s2.trans s3)) hq0') fun z=>ZG s04 (hf x z))).frame (s04.frame.trans sm.frame);have nq:q∉fp:=fun z=>by rw[hf q z] at hq4;cases hq4
   have nra:ra∉fp:=fun z=>by rw[hf ra z] at hra4;cases hra4
   walk_at "rds";refine Yl (n:=M) (fun i σ H'=>∃fp' k0,σ=[some (.ref p),some (.int M),some (.int tp),some (.ref sa),some (.ref q),some (.ref ra),some (.ref hp),k0,none,none,none,none,none,none,none]∧ZE T H' hp ⟨(List.range i).map nameN,[]⟩ fp'∧H' q=some (.lst bs)∧Yj H' bs ls∧q∉fp'∧H' ra=some (.lst (rl.map V.int))∧ra∉fp'∧WB K H' (q::fp') p (ns.map V.int))
    ⟨fp,none,rfl,hh,sm _ _ hq4,hT4.keep (fun b xs e=>sm _ _ e),nq,sm _ _ hra4,nra,hO5⟩ ?_ ?_
   ·rintro i σ H' hi ⟨fp',k0,rfl,hh',hq',hT',nq',hra',nra',hO'⟩;walk_at "rds";have e:(0+(i:Int)).toNat=i:=by omega
    rw[e];refine Ze2 hh' (Zjp i (by omega)) (ZiR i (by omega)) (by simp;omega) (fun H2 fp2 hh2 fr gr=>?_);refine⟨fp2,_,rfl,?_,fr.keep _ _ hq' nq',hT'.keep fr.tups,gr.off nq' (by rw[hq'];simp),fr.keep _ _ hra' nra',gr.off nra' (by rw[hra'];simp),hO'.step fr.cons gr.cons⟩;rw[List.range_succ,List.map_append];exact hh2
   rintro σ H6 ⟨fp6,k0,rfl,hh6,hq6,hT6,nq6,hra6,nra6,hO6⟩;clear hq4 hT4 hra4 hh hf sm hO5 nq nra;walk_at "rds";refine WS (ZZ (SqL.of (ZaE (q:=q) (o:= .lst bs)))) (fun i σ H'=>∃(fp':List Addr)(a1 a2 a3 a4 a5:Option V),σ=[some (.ref p),some (.int M),some (.int tp),some (.ref sa),some (.ref q),some (.ref ra),some (.ref hp),k0,a1,a2,a3,a4,a5,none,none]∧
    ZE T H' hp ⟨(List.range M).map nameN,ls.take i⟩ fp'∧H' q=some (.lst bs)∧Yj H' bs ls∧q∉fp'∧H' ra=some (.lst (rl.map V.int))∧ra∉fp'∧WB K H' (q::fp') p (ns.map V.int)) ⟨fp6,_,_,_,_,_,rfl,hh6,hq6,hT6,nq6,hra6,nra6,hO6⟩ ?_ ?_ ?_
   ·rintro i σ H' ⟨_,_,_,_,_,_,_,_,h,_⟩;exact Zao h
   ·rintro i σ H7 hi ⟨fp7,a1,a2,a3,a4,a5,rfl,hh7,hq7,hT7,nq7,hra7,nra7,hO7⟩;have hil:i<ls.length:=by omega
    obtain⟨t,ht1,ht2⟩:=hT7.at (List.getElem?_eq_getElem hil);have eb:bs.getD i .non= .ref t:=by simp[List.getD,ht1]
    rw[eb];have hm:=hld _ (List.getElem_mem hil);have et:=List.take_succ_eq_append_getElem hil;refine Rd.Vj (.of ht2) rfl ?_;generalize ls[i]=l at*;obtain⟨r1,r2,r3,r4⟩:=hm.rg;obtain⟨gv,tk,e1,e2,g0,t0,_,_,_⟩:=hm.sz;dsimp only[B5.v];walk_at "rds";refine ZfB hh7 r1 (by simp;omega) r3 (by simp;omega) (by omega) (by omega) hm.st (by simp;omega) (fun H8 fp8 hh8 fr8 gr8=>?_);refine⟨fp8,_,_,_,_,_,rfl,?_,fr8.keep _ _ hq7 nq7,hT7.keep fr8.tups,gr8.off nq7 (by rw[hq7];simp),fr8.keep _ _ hra7 nra7,gr8.off nra7 (by rw[hra7];simp),hO7.step fr8.cons gr8.cons⟩;rw[et];exact hh8
   rintro σ H7 ⟨fp7,a1,a2,a3,a4,a5,rfl,hh7,hq7,hT7,nq7,hra7,nra7,hO7⟩;rw[hbl,List.take_length] at hh7;clear hh6 hq6 hT6 nq6 hra6 nra6 hO6;have hnl:((List.range M).map nameN).length=M:=by simp
   have hok:∀{ks:List B5},(∀l∈ks,Vi ss l)→Zas ks ss rl→ks.length≤60→Zfy ks ((List.range M).map nameN).length (zOf ss) rl:=fun a b c=>by rw[hnl];exact ZkP hso hsl a b c m2 hrb t3
   have S7:Za3 T H7 hp fp7 ((List.range M).map nameN) ls q bs ls ra rl p ns:=⟨hh7,hq7,hT7,nq7,hra7,nra7,hO7⟩;clear hh7 hq7 hT7 nq7 hra7 nra7 hO7;generalize (List.range M).map nameN=nms at*;walk_at "rds";refine⟨hp,q,ra,⟨nms,ls⟩,fp7,bs,rl,zOf ss,rfl,S7.hall,S7.hq,S7.tq,S7.hra,hok hld hRl (show ls.length≤60 by omega),fun H8 s8=>?_⟩;have S8:=S7.same s8;clear S7;walk_at "rds";refine Yl (n:=3) (fun i σ H'=>∃(fp':List Addr)(cs:List V)(ks:List B5)(c1 c2 c3 c4 c5 c6 c7 c8:Option V),σ=[some (.ref p),some (.int M),some (.int tp),some (.ref sa),some (.ref q),some (.ref ra),some (.ref hp),c1,c2,c3,c4,c5,c6,c7,c8]∧Za3 T H' hp fp' nms ks q cs ks ra rl p ns∧ks.length=ls.length∧(∀l∈ks,Vi ss l)∧Zas ks ss rl) ⟨fp7,bs,ls,_,_,_,_,_,_,_,_,rfl,S8,rfl,hld,hRl⟩ ?_ ?_
   ·rintro i σ H9 hi ⟨fp9,cs,ks,c1,c2,c3,c4,c5,c6,c7,c8,rfl,S9,hkl,hkd,hkR⟩;have hS9:=S9.off.sq;have hq9:=S9.hq;have hQ9:=SqL.of (K:=K) hq9;have hra9:=S9.hra;have hcl:=S9.tq.length;have cp:0<(cs.length:Int):=by omega
    walk_at "rds";rename_i mx hmx mx0 mx1;clear hmx;have r1:=Int.emod_nonneg mx (show(cs.length:Int)≠0 by omega);have r2:=Int.emod_lt_of_pos mx cp;obtain⟨j,ej⟩:∃j:Nat,mx % (cs.length:Int)=(j:Int):=⟨(mx % (cs.length:Int)).toNat,by omega⟩;rw[ej] at r2⊢;have hj:j<ks.length:=by omega
    obtain⟨t,ht1,ht2⟩:=S9.tq.at (List.getElem?_eq_getElem hj);have at0:atI cs (j:Int)=some (.ref t):=Yu ht1;have hL:=hkd _ (List.getElem_mem hj);have hsl9:=fun s h0=>ZjS (s:=s) hj h0 hkd hkR;generalize hbb:ks[j]=bb at*;obtain⟨gv,tk,eg,ek,g0,t0,g1,t1,_⟩:=hL.sz;obtain⟨b1,b2,b3,b4⟩:=hL.rg;have hrl:=hRl.1;have at1:=ZO (ns:=rl) (k:=bb.taker) b3 (by omega);have hr:=hrb _ (Zbj (d:=0) (show bb.taker.toNat<rl.length by omega));obtain⟨y,ey⟩:∃y:Nat,rl.getD bb.taker.toNat 0=(y:Int):=⟨(rl.getD bb.taker.toNat 0).toNat,by omega⟩;rw[ey] at at1 hr;have mo:IntMulOk bb.take (y:Int):=by rw[ek];exact Vx t1 (show y<2 ^ 110 by omega) (by decide)
    have mo2:IntMulOk 2 bb.take:=by rw[ek];exact Vx (n:=5) (a:=2) (by decide) t1 (by decide)
    have mp:0<2*bb.take:=by omega
    dsimp only[B5.v] at ht2;walk_at "rds";refine Rd.Vj (.of ht2) rfl ?_;walk_at "rds";have e1:0≤mx / 5 % (2*bb.take):=Int.emod_nonneg _ (by omega);have e2:0≤bb.take*(y:Int):=by rw[ek];exact Int.mul_nonneg (by omega) (by omega)
    generalize mx / 5 % (2*bb.take)=s1q at*;generalize bb.take*(y:Int)=s2q at*;refine⟨by show 4≤sizeLine;decide,fun u0 hu0=>?_⟩;have su:Ze H9 (upd H9 u0 (.lst [V.int 0,V.int s2q,V.int (bb.take-1),V.int s1q])):=Zq hu0;have hu1:(upd H9 u0 (.lst [V.int 0,V.int s2q,V.int (bb.take-1),V.int s1q])) u0=some (.lst (([0,s2q,bb.take-1,s1q]:List Int).map V.int)):=Zd;generalize upd H9 u0 (.lst [V.int 0,V.int s2q,V.int (bb.take-1),V.int s1q])=H10 at*;obtain⟨st,at2,st0⟩:∃st:Int,atI (([0,s2q,bb.take-1,s1q]:List Int).map V.int) (mx / 60 % 4)=some (.int st)∧0≤st:=by
     refine⟨_,ZO (ns:=[0,s2q,bb.take-1,s1q]) (k:=mx / 60 % 4) (by omega) (by simp;omega),?_⟩;have hm:([0,s2q,bb.take-1,s1q]:List Int).getD (mx / 60 % 4).toNat 0∈[0,s2q,bb.take-1,s1q]:=by rw[Zw (by simp;omega)];exact List.getElem_mem _
     simp only[List.mem_cons,List.not_mem_nil,or_false] at hm;omega
    have S10:=S9.same su;clear S9;have hq10:=S10.hq;walk_at "rds";refine⟨by show 5≤sizeLine;decide,fun u hu'=>?_⟩;have sv:Ze H10 (upd H10 u (.tup [.int bb.giver,.int bb.taker,.int bb.give,.int bb.take,.int st])):=Zq hu';have hv:(upd H10 u (.tup [.int bb.giver,.int bb.taker,.int bb.give,.int bb.take,.int st])) u=some (.tup (Wa bb st).v):=Zd;generalize upd H10 u (.tup [.int bb.giver,.int bb.taker,.int bb.give,.int bb.take,.int st])=H11 at*;have S11:=S10.same sv;clear S10;have hq11:=S11.hq;walk_at "rds";rw[Int.toNat_natCast];have fr12:ZJ [q] H11 (upd H11 q (.lst (cs.set j (.ref u)))):=Ym (by simp) hq11 (by intro _ z;cases z);have hq12:(upd H11 q (.lst (cs.set j (.ref u)))) q=some (.lst (cs.set j (.ref u))):=Zd;generalize upd H11 q (.lst (cs.set j (.ref u)))=H12 at*;have hh12:=S11.hall.off fr12 (fun x hx hx2=>S11.nq (by rw[List.mem_singleton.mp hx2] at hx;exact hx));have hra12:=fr12.keep _ _ S11.hra (by simpa using nrq);have hO12:=S11.off.frame (fr12.mono fun x hx=>by rw[List.mem_singleton.mp hx];exact List.mem_cons_self);walk_at "rds";refine⟨hp,(j:Int),st,⟨nms,ks⟩,fp9,rfl,hh12,fun z=>absurd ⟨by omega,by show(j:Int)<(ks.length:Int);omega⟩ z,fun _ z=>absurd st0 z,fun _ _ b H13 fp13 hb hh13 fr13 gr13=>?_⟩;dsimp only at hb hh13;rw[Int.toNat_natCast] at hb hh13;rw[List.getElem?_eq_getElem hj,hbb] at hb;obtain rfl:=Option.some.inj hb;have esw:ZcK bb st=Wa bb st:=rfl;rw[esw] at hh13;obtain⟨hkd',hkR'⟩:=hsl9 st st0;have S13:Za3 T H13 hp fp13 nms (ks.set j (Wa bb st)) q (cs.set j (.ref u)) (ks.set j (Wa bb st)) ra rl p ns:=⟨hh13,fr13.keep _ _ hq12 S11.nq,((S11.tq.keep fr12.tups).set j (fr12.tups _ _ hv)).keep fr13.tups,gr13.off S11.nq (by rw[hq12];simp),fr13.keep _ _ hra12 S11.nra,gr13.off S11.nra (by rw[hra12];simp),hO12.step fr13.cons gr13.cons⟩;walk_at "rds";refine⟨hp,q,ra,⟨nms,ks.set j (Wa bb st)⟩,fp13,cs.set j (.ref u),rl,zOf ss,rfl,S13.hall,S13.hq,S13.tq,S13.hra,hok hkd' hkR' (by rw[List.length_set];omega),fun H14 s14=>?_⟩;walk_at "rds";exact⟨fp13,_,_,_,_,_,_,_,_,_,_,rfl,S13.same s14,by rw[List.length_set];exact hkl,hkd',hkR'⟩
   ·rintro σ H9 ⟨fp9,cs,ks,c1,c2,c3,c4,c5,c6,c7,c8,rfl,S9,hkl,hkd,hkR⟩;walk_at "rds";exact k _
end
abbrev nG(K:PySem.W.Frag)(x:Str)(f:Addr):Prop:=PySem.W.nsIn K mainGlobals x=some (some (.ref f))
abbrev mG(K:PySem.W.Frag)(C:Addr)(x:Str)(f:Addr):Prop:=PySem.W.findIn K (.ref C) x=some (some (.ref f))
abbrev iF(K:PySem.W.Frag)(f:Addr):Prop:=PySem.W.isFn K (.ref f)=true
abbrev lK(K:PySem.W.Frag)(f:Addr)(oc:Value)(od:Option Addr)(nm q:Str)(s:Stmt)(dv kV dc pm:Value)(an:Option Addr)(cd ct:Value)(sl:Array (Option Value)):Prop:=K.lookup f=some ⟨oc,od,.func (PySem.W.fnOf nm q (VF s) (WL s) (Zi s) dv kV dc pm an cd ct),sl⟩
abbrev cI(K:PySem.W.Frag)(cd:Value)(q:Str):Prop:=PySem.W.codeIn K cd q=true
abbrev kI(K:PySem.W.Frag)(f:Addr):Prop:=PySem.W.keepIn K (.ref f)=true
theorem VY{α:Type _}{P:List α→Prop}(h:∀a0,P [a0])(us:List α)(e:us.length=1):P us:=match us,e with| [a0],_=>h a0
theorem Yt{α:Type _}{P:List α→Prop}(h:∀a0 a1,P [a0,a1])(us:List α)(e:us.length=2):P us:=match us,e with| [a0,a1],_=>h a0 a1
theorem ZaK{α:Type _}{P:List α→Prop}(h:∀a0 a1 a2,P [a0,a1,a2])(us:List α)(e:us.length=3):P us:=match us,e with| [a0,a1,a2],_=>h a0 a1 a2
theorem Znc{α:Type _}{P:List α→Prop}(h:∀a0 a1 a2 a3 a4,P [a0,a1,a2,a3,a4])(us:List α)(e:us.length=5):P us:=match us,e with| [a0,a1,a2,a3,a4],_=>h a0 a1 a2 a3 a4
theorem Znn{α:Type _}{P:List α→Prop}(h:∀a0 a1 a2 a3 a4 a5,P [a0,a1,a2,a3,a4,a5])(us:List α)(e:us.length=6):P us:=match us,e with| [a0,a1,a2,a3,a4,a5],_=>h a0 a1 a2 a3 a4 a5
theorem tp_mk{K:PySem.W.Frag}{h:Heap}{mg:Str→Option Value}(X:K.In h)(G:h.Ns mainGlobals mg)
  {C_Course:Addr}
  {C_Hall:Addr}
  {X_NoName:Addr}
  {X_Twice:Addr}
  {X_TooMuch:Addr}
  {X_NoWork:Addr}
  {X_NoBelt:Addr}
  {X_NoRate:Addr}
  {X_NotBalanced:Addr}
  {X_TooLong:Addr}
  {tk_MOST_TURNS:Tok}
  {tk_MOST_LETTERS:Tok}
  {tk_MOST_WORKS:Tok}
  {tk_MOST_BELTS:Tok}
  {dT_Hall_belt:Addr} {od2_Hall_belt:Option Addr} {sl2_Hall_belt:Array (Option Value)} {n2_Hall_belt:Nat} {oc2_Hall_belt:Value} {dk0_Hall_belt:Tok}
  {f_0:Addr} {od_0 an_0:Option Addr} {sl_0:Array (Option Value)} {oc_0 kV_0 dc_0 pm_0 cd_0 ct_0:Value}
  {f_1:Addr} {od_1 an_1:Option Addr} {sl_1:Array (Option Value)} {oc_1 kV_1 dc_1 pm_1 cd_1 ct_1:Value}
  {f_2:Addr} {od_2 an_2:Option Addr} {sl_2:Array (Option Value)} {oc_2 kV_2 dc_2 pm_2 cd_2 ct_2:Value}
  {f_3:Addr} {od_3 an_3:Option Addr} {sl_3:Array (Option Value)} {oc_3 kV_3 dc_3 pm_3 cd_3 ct_3:Value}
  {f_4:Addr} {od_4 an_4:Option Addr} {sl_4:Array (Option Value)} {oc_4 kV_4 dc_4 pm_4 cd_4 ct_4:Value}
  {f_5:Addr} {od_5 an_5:Option Addr} {sl_5:Array (Option Value)} {oc_5 kV_5 dc_5 pm_5 cd_5 ct_5:Value}
  {f_6:Addr} {od_6 an_6:Option Addr} {sl_6:Array (Option Value)} {oc_6 kV_6 dc_6 pm_6 cd_6 ct_6:Value}
  {f_7:Addr} {od_7 an_7:Option Addr} {sl_7:Array (Option Value)} {oc_7 kV_7 dc_7 pm_7 cd_7 ct_7:Value}
  {f_8:Addr} {od_8 an_8:Option Addr} {sl_8:Array (Option Value)} {oc_8 kV_8 dc_8 pm_8 cd_8 ct_8:Value}
  {f_9:Addr} {od_9 an_9:Option Addr} {sl_9:Array (Option Value)} {oc_9 kV_9 dc_9 pm_9 cd_9 ct_9:Value}
  {f_10:Addr} {od_10 an_10:Option Addr} {sl_10:Array (Option Value)} {oc_10 kV_10 dc_10 pm_10 cd_10 ct_10:Value}
  {f_11:Addr} {od_11 an_11:Option Addr} {sl_11:Array (Option Value)} {oc_11 kV_11 dc_11 pm_11 cd_11 ct_11:Value}
  {f_12:Addr} {od_12 an_12:Option Addr} {sl_12:Array (Option Value)} {oc_12 kV_12 dc_12 pm_12 cd_12 ct_12:Value}
  {f_13:Addr} {od_13 an_13:Option Addr} {sl_13:Array (Option Value)} {oc_13 kV_13 dc_13 pm_13 cd_13 ct_13:Value}
  {f_14:Addr} {od_14 an_14:Option Addr} {sl_14:Array (Option Value)} {oc_14 kV_14 dc_14 pm_14 cd_14 ct_14:Value}
  {f_15:Addr} {od_15 an_15:Option Addr} {sl_15:Array (Option Value)} {oc_15 kV_15 dc_15 pm_15 cd_15 ct_15:Value}
  {f_16:Addr} {od_16 an_16:Option Addr} {sl_16:Array (Option Value)} {oc_16 kV_16 dc_16 pm_16 cd_16 ct_16:Value}
  {f_17:Addr} {od_17 an_17:Option Addr} {sl_17:Array (Option Value)} {oc_17 kV_17 dc_17 pm_17 cd_17 ct_17:Value}
  {f_18:Addr} {od_18 an_18:Option Addr} {sl_18:Array (Option Value)} {oc_18 kV_18 dc_18 pm_18 cd_18 ct_18:Value}
  {f_19:Addr} {od_19 an_19:Option Addr} {sl_19:Array (Option Value)} {oc_19 kV_19 dc_19 pm_19 cd_19 ct_19:Value}
  {f_20:Addr} {od_20 an_20:Option Addr} {sl_20:Array (Option Value)} {oc_20 kV_20 dc_20 pm_20 cd_20 ct_20:Value}
  {f_21:Addr} {od_21 an_21:Option Addr} {sl_21:Array (Option Value)} {oc_21 kV_21 dc_21 pm_21 cd_21 ct_21:Value}
  {f_22:Addr} {od_22 an_22:Option Addr} {sl_22:Array (Option Value)} {oc_22 kV_22 dc_22 pm_22 cd_22 ct_22:Value}
  {f_23:Addr} {od_23 an_23:Option Addr} {sl_23:Array (Option Value)} {oc_23 kV_23 dc_23 pm_23 cd_23 ct_23:Value}
  {f_24:Addr} {od_24 an_24:Option Addr} {sl_24:Array (Option Value)} {oc_24 kV_24 dc_24 pm_24 cd_24 ct_24:Value}
  {f_25:Addr} {od_25 an_25:Option Addr} {sl_25:Array (Option Value)} {oc_25 kV_25 dc_25 pm_25 cd_25 ct_25:Value}
  {f_26:Addr} {od_26 an_26:Option Addr} {sl_26:Array (Option Value)} {oc_26 kV_26 dc_26 pm_26 cd_26 ct_26:Value}
  {f_27:Addr} {od_27 an_27:Option Addr} {sl_27:Array (Option Value)} {oc_27 kV_27 dc_27 pm_27 cd_27 ct_27:Value}
  {f_28:Addr} {od_28 an_28:Option Addr} {sl_28:Array (Option Value)} {oc_28 kV_28 dc_28 pm_28 cd_28 ct_28:Value}
  {f_29:Addr} {od_29 an_29:Option Addr} {sl_29:Array (Option Value)} {oc_29 kV_29 dc_29 pm_29 cd_29 ct_29:Value}
  {f_30:Addr} {od_30 an_30:Option Addr} {sl_30:Array (Option Value)} {oc_30 kV_30 dc_30 pm_30 cd_30 ct_30:Value}
  {f_31:Addr} {od_31 an_31:Option Addr} {sl_31:Array (Option Value)} {oc_31 kV_31 dc_31 pm_31 cd_31 ct_31:Value}
  {f_32:Addr} {od_32 an_32:Option Addr} {sl_32:Array (Option Value)} {oc_32 kV_32 dc_32 pm_32 cd_32 ct_32:Value}
  {f_33:Addr} {od_33 an_33:Option Addr} {sl_33:Array (Option Value)} {oc_33 kV_33 dc_33 pm_33 cd_33 ct_33:Value}
  {f_34:Addr} {od_34 an_34:Option Addr} {sl_34:Array (Option Value)} {oc_34 kV_34 dc_34 pm_34 cd_34 ct_34:Value}
  {f_35:Addr} {od_35 an_35:Option Addr} {sl_35:Array (Option Value)} {oc_35 kV_35 dc_35 pm_35 cd_35 ct_35:Value}
  {f_36:Addr} {od_36 an_36:Option Addr} {sl_36:Array (Option Value)} {oc_36 kV_36 dc_36 pm_36 cd_36 ct_36:Value}
  {f_37:Addr} {od_37 an_37:Option Addr} {sl_37:Array (Option Value)} {oc_37 kV_37 dc_37 pm_37 cd_37 ct_37:Value}
  {f_38:Addr} {od_38 an_38:Option Addr} {sl_38:Array (Option Value)} {oc_38 kV_38 dc_38 pm_38 cd_38 ct_38:Value}
  {f_39:Addr} {od_39 an_39:Option Addr} {sl_39:Array (Option Value)} {oc_39 kV_39 dc_39 pm_39 cd_39 ct_39:Value}
  {f_40:Addr} {od_40 an_40:Option Addr} {sl_40:Array (Option Value)} {oc_40 kV_40 dc_40 pm_40 cd_40 ct_40:Value}
  {f_41:Addr} {od_41 an_41:Option Addr} {sl_41:Array (Option Value)} {oc_41 kV_41 dc_41 pm_41 cd_41 ct_41:Value}
  {f_42:Addr} {od_42 an_42:Option Addr} {sl_42:Array (Option Value)} {oc_42 kV_42 dc_42 pm_42 cd_42 ct_42:Value}
  {f_43:Addr} {od_43 an_43:Option Addr} {sl_43:Array (Option Value)} {oc_43 kV_43 dc_43 pm_43 cd_43 ct_43:Value}
  {f_44:Addr} {od_44 an_44:Option Addr} {sl_44:Array (Option Value)} {oc_44 kV_44 dc_44 pm_44 cd_44 ct_44:Value}
  {f_45:Addr} {od_45 an_45:Option Addr} {sl_45:Array (Option Value)} {oc_45 kV_45 dc_45 pm_45 cd_45 ct_45:Value}
  {f_46:Addr} {od_46 an_46:Option Addr} {sl_46:Array (Option Value)} {oc_46 kV_46 dc_46 pm_46 cd_46 ct_46:Value}
  {f_47:Addr} {od_47 an_47:Option Addr} {sl_47:Array (Option Value)} {oc_47 kV_47 dc_47 pm_47 cd_47 ct_47:Value}
  {f_48:Addr} {od_48 an_48:Option Addr} {sl_48:Array (Option Value)} {oc_48 kV_48 dc_48 pm_48 cd_48 ct_48:Value}
  {f_49:Addr} {od_49 an_49:Option Addr} {sl_49:Array (Option Value)} {oc_49 kV_49 dc_49 pm_49 cd_49 ct_49:Value}
  {f_50:Addr} {od_50 an_50:Option Addr} {sl_50:Array (Option Value)} {oc_50 kV_50 dc_50 pm_50 cd_50 ct_50:Value}
  {f_51:Addr} {od_51 an_51:Option Addr} {sl_51:Array (Option Value)} {oc_51 kV_51 dc_51 pm_51 cd_51 ct_51:Value}
  {f_52:Addr} {od_52 an_52:Option Addr} {sl_52:Array (Option Value)} {oc_52 kV_52 dc_52 pm_52 cd_52 ct_52:Value}
  {f_53:Addr} {od_53 an_53:Option Addr} {sl_53:Array (Option Value)} {oc_53 kV_53 dc_53 pm_53 cd_53 ct_53:Value}
  {f_54:Addr} {od_54 an_54:Option Addr} {sl_54:Array (Option Value)} {oc_54 kV_54 dc_54 pm_54 cd_54 ct_54:Value}
  {f_55:Addr} {od_55 an_55:Option Addr} {sl_55:Array (Option Value)} {oc_55 kV_55 dc_55 pm_55 cd_55 ct_55:Value}
  {f_56:Addr} {od_56 an_56:Option Addr} {sl_56:Array (Option Value)} {oc_56 kV_56 dc_56 pm_56 cd_56 ct_56:Value}
  {f_57:Addr} {od_57 an_57:Option Addr} {sl_57:Array (Option Value)} {oc_57 kV_57 dc_57 pm_57 cd_57 ct_57:Value}
  (a_Course:PySem.W.nsIn K mainGlobals "Course" =some (some (.ref C_Course)))
  (a_Hall:PySem.W.nsIn K mainGlobals "Hall" =some (some (.ref C_Hall)))
  (a_0:nG K "_law_cell" f_0)
  (l_0:lK K f_0 oc_0 od_0 "_law_cell" "_law_cell" Za6 .none kV_0 dc_0 pm_0 an_0 cd_0 ct_0 sl_0)
  (c_0:cI K cd_0 "_law_cell")
  (k_0:kI K f_0)
  (a_1:nG K "_law_mixed" f_1)
  (l_1:lK K f_1 oc_1 od_1 "_law_mixed" "_law_mixed" ZaC .none kV_1 dc_1 pm_1 an_1 cd_1 ct_1 sl_1)
  (c_1:cI K cd_1 "_law_mixed")
  (k_1:kI K f_1)
  (a_2:nG K "_law_divisor" f_2)
  (l_2:lK K f_2 oc_2 od_2 "_law_divisor" "_law_divisor" UA .none kV_2 dc_2 pm_2 an_2 cd_2 ct_2 sl_2)
  (c_2:cI K cd_2 "_law_divisor")
  (k_2:kI K f_2)
  (a_3:nG K "_law_line" f_3)
  (l_3:lK K f_3 oc_3 od_3 "_law_line" "_law_line" Zbo .none kV_3 dc_3 pm_3 an_3 cd_3 ct_3 sl_3)
  (c_3:cI K cd_3 "_law_line")
  (k_3:kI K f_3)
  (a_4:nG K "_law_lines" f_4)
  (l_4:lK K f_4 oc_4 od_4 "_law_lines" "_law_lines" ZaH .none kV_4 dc_4 pm_4 an_4 cd_4 ct_4 sl_4)
  (c_4:cI K cd_4 "_law_lines")
  (k_4:kI K f_4)
  (a_5:nG K "_law_reached" f_5)
  (l_5:lK K f_5 oc_5 od_5 "_law_reached" "_law_reached" Uw .none kV_5 dc_5 pm_5 an_5 cd_5 ct_5 sl_5)
  (c_5:cI K cd_5 "_law_reached")
  (k_5:kI K f_5)
  (a_6:nG K "_law_rates" f_6)
  (l_6:lK K f_6 oc_6 od_6 "_law_rates" "_law_rates" ZaG .none kV_6 dc_6 pm_6 an_6 cd_6 ct_6 sl_6)
  (c_6:cI K cd_6 "_law_rates")
  (k_6:kI K f_6)
  (a_7:nG K "_law_started" f_7)
  (l_7:lK K f_7 oc_7 od_7 "_law_started" "_law_started" Ut .none kV_7 dc_7 pm_7 an_7 cd_7 ct_7 sl_7)
  (c_7:cI K cd_7 "_law_started")
  (k_7:kI K f_7)
  (a_8:mG K C_Hall "belts" f_8)
  (i_8:iF K f_8)
  (l_8:lK K f_8 oc_8 od_8 "belts" "Hall.belts" Ud .none kV_8 dc_8 pm_8 an_8 cd_8 ct_8 sl_8)
  (c_8:cI K cd_8 "Hall.belts")
  (k_8:kI K f_8)
  (a_9:nG K "starts_of" f_9)
  (l_9:lK K f_9 oc_9 od_9 "starts_of" "starts_of" Vn .none kV_9 dc_9 pm_9 an_9 cd_9 ct_9 sl_9)
  (c_9:cI K cd_9 "starts_of")
  (k_9:kI K f_9)
  (a_10:mG K C_Hall "names" f_10)
  (i_10:iF K f_10)
  (l_10:lK K f_10 oc_10 od_10 "names" "Hall.names" V7 .none kV_10 dc_10 pm_10 an_10 cd_10 ct_10 sl_10)
  (c_10:cI K cd_10 "Hall.names")
  (k_10:kI K f_10)
  (a_11:nG K "ways_of" f_11)
  (l_11:lK K f_11 oc_11 od_11 "ways_of" "ways_of" UK .none kV_11 dc_11 pm_11 an_11 cd_11 ct_11 sl_11)
  (c_11:cI K cd_11 "ways_of")
  (k_11:kI K f_11)
  (a_12:nG K "tree_from" f_12)
  (l_12:lK K f_12 oc_12 od_12 "tree_from" "tree_from" Uq .none kV_12 dc_12 pm_12 an_12 cd_12 ct_12 sl_12)
  (c_12:cI K cd_12 "tree_from")
  (k_12:kI K f_12)
  (a_13:nG K "forest_of" f_13)
  (l_13:lK K f_13 oc_13 od_13 "forest_of" "forest_of" Uv .none kV_13 dc_13 pm_13 an_13 cd_13 ct_13 sl_13)
  (c_13:cI K cd_13 "forest_of")
  (k_13:kI K f_13)
  (a_14:nG K "divisor" f_14)
  (l_14:lK K f_14 oc_14 od_14 "divisor" "divisor" ZaF .none kV_14 dc_14 pm_14 an_14 cd_14 ct_14 sl_14)
  (c_14:cI K cd_14 "divisor")
  (k_14:kI K f_14)
  (a_15:nG K "ratio" f_15)
  (l_15:lK K f_15 oc_15 od_15 "ratio" "ratio" Zcf .none kV_15 dc_15 pm_15 an_15 cd_15 ct_15 sl_15)
  (c_15:cI K cd_15 "ratio")
  (k_15:kI K f_15)
  (a_16:nG K "times" f_16)
  (l_16:lK K f_16 oc_16 od_16 "times" "times" Zb8 .none kV_16 dc_16 pm_16 an_16 cd_16 ct_16 sl_16)
  (c_16:cI K cd_16 "times")
  (k_16:kI K f_16)
  (a_17:nG K "gain" f_17)
  (l_17:lK K f_17 oc_17 od_17 "gain" "gain" Zc3 .none kV_17 dc_17 pm_17 an_17 cd_17 ct_17 sl_17)
  (c_17:cI K cd_17 "gain")
  (k_17:kI K f_17)
  (a_18:nG K "is_whole" f_18)
  (l_18:lK K f_18 oc_18 od_18 "is_whole" "is_whole" UU .none kV_18 dc_18 pm_18 an_18 cd_18 ct_18 sl_18)
  (c_18:cI K cd_18 "is_whole")
  (k_18:kI K f_18)
  (a_19:nG K "is_from" f_19)
  (l_19:lK K f_19 oc_19 od_19 "is_from" "is_from" Zau .none kV_19 dc_19 pm_19 an_19 cd_19 ct_19 sl_19)
  (c_19:cI K cd_19 "is_from")
  (k_19:kI K f_19)
  (a_20:nG K "is_number_below" f_20)
  (l_20:lK K f_20 oc_20 od_20 "is_number_below" "is_number_below" Wu .none kV_20 dc_20 pm_20 an_20 cd_20 ct_20 sl_20)
  (c_20:cI K cd_20 "is_number_below")
  (k_20:kI K f_20)
  (a_21:mG K C_Hall "need_belt" f_21)
  (i_21:iF K f_21)
  (l_21:lK K f_21 oc_21 od_21 "need_belt" "Hall.need_belt" WG .none kV_21 dc_21 pm_21 an_21 cd_21 ct_21 sl_21)
  (c_21:cI K cd_21 "Hall.need_belt")
  (k_21:kI K f_21)
  (a_22:mG K C_Hall "belt_at" f_22)
  (i_22:iF K f_22)
  (l_22:lK K f_22 oc_22 od_22 "belt_at" "Hall.belt_at" Ve .none kV_22 dc_22 pm_22 an_22 cd_22 ct_22 sl_22)
  (c_22:cI K cd_22 "Hall.belt_at")
  (k_22:kI K f_22)
  (a_23:nG K "shares_of" f_23)
  (l_23:lK K f_23 oc_23 od_23 "shares_of" "shares_of" Uy .none kV_23 dc_23 pm_23 an_23 cd_23 ct_23 sl_23)
  (c_23:cI K cd_23 "shares_of")
  (k_23:kI K f_23)
  (a_24:nG K "multiple" f_24)
  (l_24:lK K f_24 oc_24 od_24 "multiple" "multiple" U1 .none kV_24 dc_24 pm_24 an_24 cd_24 ct_24 sl_24)
  (c_24:cI K cd_24 "multiple")
  (k_24:kI K f_24)
  (a_25:nG K "rates_by" f_25)
  (l_25:lK K f_25 oc_25 od_25 "rates_by" "rates_by" VW .none kV_25 dc_25 pm_25 an_25 cd_25 ct_25 sl_25)
  (c_25:cI K cd_25 "rates_by")
  (k_25:kI K f_25)
  (a_26:nG K "change_of" f_26)
  (l_26:lK K f_26 oc_26 od_26 "change_of" "change_of" Vq .none kV_26 dc_26 pm_26 an_26 cd_26 ct_26 sl_26)
  (c_26:cI K cd_26 "change_of")
  (k_26:kI K f_26)
  (a_27:nG K "way_to" f_27)
  (l_27:lK K f_27 oc_27 od_27 "way_to" "way_to" Zbi .none kV_27 dc_27 pm_27 an_27 cd_27 ct_27 sl_27)
  (c_27:cI K cd_27 "way_to")
  (k_27:kI K f_27)
  (a_28:nG K "shared_steps" f_28)
  (l_28:lK K f_28 oc_28 od_28 "shared_steps" "shared_steps" W7 .none kV_28 dc_28 pm_28 an_28 cd_28 ct_28 sl_28)
  (c_28:cI K cd_28 "shared_steps")
  (k_28:kI K f_28)
  (a_29:nG K "ring_through" f_29)
  (l_29:lK K f_29 oc_29 od_29 "ring_through" "ring_through" Vc .none kV_29 dc_29 pm_29 an_29 cd_29 ct_29 sl_29)
  (c_29:cI K cd_29 "ring_through")
  (k_29:kI K f_29)
  (a_30:nG K "rates_of" f_30)
  (l_30:lK K f_30 oc_30 od_30 "rates_of" "rates_of" U3 .none kV_30 dc_30 pm_30 an_30 cd_30 ct_30 sl_30)
  (c_30:cI K cd_30 "rates_of")
  (k_30:kI K f_30)
  (a_31:nG K "round_rates" f_31)
  (l_31:lK K f_31 oc_31 od_31 "round_rates" "round_rates" Vv .none kV_31 dc_31 pm_31 an_31 cd_31 ct_31 sl_31)
  (c_31:cI K cd_31 "round_rates")
  (k_31:kI K f_31)
  (a_32:nG K "enough" f_32)
  (l_32:lK K f_32 oc_32 od_32 "enough" "enough" Zac .none kV_32 dc_32 pm_32 an_32 cd_32 ct_32 sl_32)
  (c_32:cI K cd_32 "enough")
  (k_32:kI K f_32)
  (a_33:mG K C_Course "row_from" f_33)
  (i_33:iF K f_33)
  (l_33:lK K f_33 oc_33 od_33 "row_from" "Course.row_from" Y1 .none kV_33 dc_33 pm_33 an_33 cd_33 ct_33 sl_33)
  (c_33:cI K cd_33 "Course.row_from")
  (k_33:kI K f_33)
  (a_34:mG K C_Course "waits_behind" f_34)
  (i_34:iF K f_34)
  (l_34:lK K f_34 oc_34 od_34 "waits_behind" "Course.waits_behind" YU .none kV_34 dc_34 pm_34 an_34 cd_34 ct_34 sl_34)
  (c_34:cI K cd_34 "Course.waits_behind")
  (k_34:kI K f_34)
  (a_35:mG K C_Course "ring_behind" f_35)
  (i_35:iF K f_35)
  (l_35:lK K f_35 oc_35 od_35 "ring_behind" "Course.ring_behind" Y4 .none kV_35 dc_35 pm_35 an_35 cd_35 ct_35 sl_35)
  (c_35:cI K cd_35 "Course.ring_behind")
  (k_35:kI K f_35)
  (a_36:mG K C_Course "told_from" f_36)
  (i_36:iF K f_36)
  (l_36:lK K f_36 oc_36 od_36 "told_from" "Course.told_from" YL .none kV_36 dc_36 pm_36 an_36 cd_36 ct_36 sl_36)
  (c_36:cI K cd_36 "Course.told_from")
  (k_36:kI K f_36)
  (a_37:mG K C_Hall "need_work" f_37)
  (i_37:iF K f_37)
  (l_37:lK K f_37 oc_37 od_37 "need_work" "Hall.need_work" WF .none kV_37 dc_37 pm_37 an_37 cd_37 ct_37 sl_37)
  (c_37:cI K cd_37 "Hall.need_work")
  (k_37:kI K f_37)
  (a_38:mG K C_Hall "entering" f_38)
  (i_38:iF K f_38)
  (l_38:lK K f_38 oc_38 od_38 "entering" "Hall.entering" Wk .none kV_38 dc_38 pm_38 an_38 cd_38 ct_38 sl_38)
  (c_38:cI K cd_38 "Hall.entering")
  (k_38:kI K f_38)
  (a_39:nG K "takes_of" f_39)
  (l_39:lK K f_39 oc_39 od_39 "takes_of" "takes_of" V3 .none kV_39 dc_39 pm_39 an_39 cd_39 ct_39 sl_39)
  (c_39:cI K cd_39 "takes_of")
  (k_39:kI K f_39)
  (a_40:mG K C_Hall "leaving" f_40)
  (i_40:iF K f_40)
  (l_40:lK K f_40 oc_40 od_40 "leaving" "Hall.leaving" Wx .none kV_40 dc_40 pm_40 an_40 cd_40 ct_40 sl_40)
  (c_40:cI K cd_40 "Hall.leaving")
  (k_40:kI K f_40)
  (a_41:nG K "gives_of" f_41)
  (l_41:lK K f_41 oc_41 od_41 "gives_of" "gives_of" V6 .none kV_41 dc_41 pm_41 an_41 cd_41 ct_41 sl_41)
  (c_41:cI K cd_41 "gives_of")
  (k_41:kI K f_41)
  (a_42:nG K "touched_by" f_42)
  (l_42:lK K f_42 oc_42 od_42 "touched_by" "touched_by" WT .none kV_42 dc_42 pm_42 an_42 cd_42 ct_42 sl_42)
  (c_42:cI K cd_42 "touched_by")
  (k_42:kI K f_42)
  (a_43:mG K C_Course "__init__" f_43)
  (i_43:iF K f_43)
  (l_43:lK K f_43 oc_43 od_43 "__init__" "Course.__init__" YX .none kV_43 dc_43 pm_43 an_43 cd_43 ct_43 sl_43)
  (c_43:cI K cd_43 "Course.__init__")
  (k_43:kI K f_43)
  (a_44:nG K "round_of" f_44)
  (l_44:lK K f_44 oc_44 od_44 "round_of" "round_of" UY .none kV_44 dc_44 pm_44 an_44 cd_44 ct_44 sl_44)
  (c_44:cI K cd_44 "round_of")
  (k_44:kI K f_44)
  (a_45:nG K "_law_ready" f_45)
  (l_45:lK K f_45 oc_45 od_45 "_law_ready" "_law_ready" ZaI .none kV_45 dc_45 pm_45 an_45 cd_45 ct_45 sl_45)
  (c_45:cI K cd_45 "_law_ready")
  (k_45:kI K f_45)
  (a_46:nG K "_law_stands" f_46)
  (l_46:lK K f_46 oc_46 od_46 "_law_stands" "_law_stands" Wl .none kV_46 dc_46 pm_46 an_46 cd_46 ct_46 sl_46)
  (c_46:cI K cd_46 "_law_stands")
  (k_46:kI K f_46)
  (a_47:nG K "_law_stops" f_47)
  (l_47:lK K f_47 oc_47 od_47 "_law_stops" "_law_stops" Zat .none kV_47 dc_47 pm_47 an_47 cd_47 ct_47 sl_47)
  (c_47:cI K cd_47 "_law_stops")
  (k_47:kI K f_47)
  (a_48:nG K "_law_told" f_48)
  (l_48:lK K f_48 oc_48 od_48 "_law_told" "_law_told" Zag .none kV_48 dc_48 pm_48 an_48 cd_48 ct_48 sl_48)
  (c_48:cI K cd_48 "_law_told")
  (k_48:kI K f_48)
  (a_49:nG K "_law_name" f_49)
  (l_49:lK K f_49 oc_49 od_49 "_law_name" "_law_name" Zbk .none kV_49 dc_49 pm_49 an_49 cd_49 ct_49 sl_49)
  (c_49:cI K cd_49 "_law_name")
  (k_49:kI K f_49)
  (a_50:nG K "is_name" f_50)
  (l_50:lK K f_50 oc_50 od_50 "is_name" "is_name" UF .none kV_50 dc_50 pm_50 an_50 cd_50 ct_50 sl_50)
  (c_50:cI K cd_50 "is_name")
  (k_50:kI K f_50)
  (a_51:mG K C_Hall "work" f_51)
  (i_51:iF K f_51)
  (l_51:lK K f_51 oc_51 od_51 "work" "Hall.work" Ur .none kV_51 dc_51 pm_51 an_51 cd_51 ct_51 sl_51)
  (c_51:cI K cd_51 "Hall.work")
  (k_51:kI K f_51)
  (a_52:nG K "need_start" f_52)
  (l_52:lK K f_52 oc_52 od_52 "need_start" "need_start" VQ .none kV_52 dc_52 pm_52 an_52 cd_52 ct_52 sl_52)
  (c_52:cI K cd_52 "need_start")
  (k_52:kI K f_52)
  (a_53:mG K C_Hall "lay" f_53)
  (i_53:iF K f_53)
  (l_53:lK K f_53 oc_53 od_53 "lay" "Hall.lay" U2 .none kV_53 dc_53 pm_53 an_53 cd_53 ct_53 sl_53)
  (c_53:cI K cd_53 "Hall.lay")
  (k_53:kI K f_53)
  (a_54:mG K C_Hall "belt" f_54)
  (i_54:iF K f_54)
  (l_54:lK K f_54 oc_54 od_54 "belt" "Hall.belt" UB (.ref dT_Hall_belt) kV_54 dc_54 pm_54 an_54 cd_54 ct_54 sl_54)
  (t_Hall_belt:K.lookup dT_Hall_belt=some ⟨oc2_Hall_belt,od2_Hall_belt,.seq #[.int 0 dk0_Hall_belt] n2_Hall_belt,sl2_Hall_belt⟩)
  (c_54:cI K cd_54 "Hall.belt")
  (k_54:kI K f_54)
  (a_55:mG K C_Hall "fill" f_55)
  (i_55:iF K f_55)
  (l_55:lK K f_55 oc_55 od_55 "fill" "Hall.fill" Ux .none kV_55 dc_55 pm_55 an_55 cd_55 ct_55 sl_55)
  (c_55:cI K cd_55 "Hall.fill")
  (k_55:kI K f_55)
  (a_56:mG K C_Hall "__init__" f_56)
  (i_56:iF K f_56)
  (l_56:lK K f_56 oc_56 od_56 "__init__" "Hall.__init__" UD .none kV_56 dc_56 pm_56 an_56 cd_56 ct_56 sl_56)
  (c_56:cI K cd_56 "Hall.__init__")
  (k_56:kI K f_56)
  (a_57:nG K "law" f_57)
  (l_57:lK K f_57 oc_57 od_57 "law" "law" Zdj .none kV_57 dc_57 pm_57 an_57 cd_57 ct_57 sl_57)
  (c_57:cI K cd_57 "law")
  (k_57:kI K f_57)
  (pg_Course:PySem.W.plainGet K C_Course Str.empty=true)
  (hd_Course:PySem.W.hasDictIn K C_Course=true)
  (po_Course:PySem.W.plainOver K C_Course=true)
  (sa_Course:PySem.W.findIn K (.ref C_Course) "__setattr__" =some (some (.builtin "object.__setattr__")))
  (mk_Course:PySem.W.makesIn K C_Course=true)
  (kc_Course:PySem.W.keepIn K (.ref C_Course)=true)
  (na_Course_turns:PySem.W.findIn K (.ref C_Course) "turns" =some none)
  (na_Course_rows:PySem.W.findIn K (.ref C_Course) "rows" =some none)
  (na_Course_takes:PySem.W.findIn K (.ref C_Course) "takes" =some none)
  (na_Course_gives:PySem.W.findIn K (.ref C_Course) "gives" =some none)
  (na_Course_touched:PySem.W.findIn K (.ref C_Course) "touched" =some none)
  (pg_Hall:PySem.W.plainGet K C_Hall Str.empty=true)
  (hd_Hall:PySem.W.hasDictIn K C_Hall=true)
  (po_Hall:PySem.W.plainOver K C_Hall=true)
  (sa_Hall:PySem.W.findIn K (.ref C_Hall) "__setattr__" =some (some (.builtin "object.__setattr__")))
  (mk_Hall:PySem.W.makesIn K C_Hall=true)
  (kc_Hall:PySem.W.keepIn K (.ref C_Hall)=true)
  (na_Hall_numbers:PySem.W.findIn K (.ref C_Hall) "numbers" =some none)
  (na_Hall_rows:PySem.W.findIn K (.ref C_Hall) "rows" =some none)
  (gx_NoName:PySem.W.nsIn K mainGlobals "NoName" =some (some (.ref X_NoName)))
  (ex_NoName:PySem.W.excIn K X_NoName [.type "ValueError",.type "Exception",.type "BaseException",.type "object"] "ValueError.__new__" =true)
  (gx_Twice:PySem.W.nsIn K mainGlobals "Twice" =some (some (.ref X_Twice)))
  (ex_Twice:PySem.W.excIn K X_Twice [.type "ValueError",.type "Exception",.type "BaseException",.type "object"] "ValueError.__new__" =true)
  (gx_TooMuch:PySem.W.nsIn K mainGlobals "TooMuch" =some (some (.ref X_TooMuch)))
  (ex_TooMuch:PySem.W.excIn K X_TooMuch [.type "ValueError",.type "Exception",.type "BaseException",.type "object"] "ValueError.__new__" =true)
  (gx_NoWork:PySem.W.nsIn K mainGlobals "NoWork" =some (some (.ref X_NoWork)))
  (ex_NoWork:PySem.W.excIn K X_NoWork [.type "ValueError",.type "Exception",.type "BaseException",.type "object"] "ValueError.__new__" =true)
  (gx_NoBelt:PySem.W.nsIn K mainGlobals "NoBelt" =some (some (.ref X_NoBelt)))
  (ex_NoBelt:PySem.W.excIn K X_NoBelt [.type "ValueError",.type "Exception",.type "BaseException",.type "object"] "ValueError.__new__" =true)
  (gx_NoRate:PySem.W.nsIn K mainGlobals "NoRate" =some (some (.ref X_NoRate)))
  (ex_NoRate:PySem.W.excIn K X_NoRate [.type "ValueError",.type "Exception",.type "BaseException",.type "object"] "ValueError.__new__" =true)
  (gx_NotBalanced:PySem.W.nsIn K mainGlobals "NotBalanced" =some (some (.ref X_NotBalanced)))
  (ex_NotBalanced:PySem.W.excIn K X_NotBalanced [.type "ValueError",.type "Exception",.type "BaseException",.type "object"] "ValueError.__new__" =true)
  (gx_TooLong:PySem.W.nsIn K mainGlobals "TooLong" =some (some (.ref X_TooLong)))
  (ex_TooLong:PySem.W.excIn K X_TooLong [.type "ValueError",.type "Exception",.type "BaseException",.type "object"] "ValueError.__new__" =true)
  (c_MOST_TURNS:PySem.W.nsIn K mainGlobals "MOST_TURNS" =some (some (.int 400 tk_MOST_TURNS)))
  (c_MOST_LETTERS:PySem.W.nsIn K mainGlobals "MOST_LETTERS" =some (some (.int 8 tk_MOST_LETTERS)))
  (c_MOST_WORKS:PySem.W.nsIn K mainGlobals "MOST_WORKS" =some (some (.int 30 tk_MOST_WORKS)))
  (c_MOST_BELTS:PySem.W.nsIn K mainGlobals "MOST_BELTS" =some (some (.int 60 tk_MOST_BELTS)))
  (z_all:PySem.W.nsIn K mainGlobals "all" =some none)
  (z_bool:PySem.W.nsIn K mainGlobals "bool" =some none)
  (z_enumerate:PySem.W.nsIn K mainGlobals "enumerate" =some none)
  (z_int:PySem.W.nsIn K mainGlobals "int" =some none)
  (z_isinstance:PySem.W.nsIn K mainGlobals "isinstance" =some none)
  (z_len:PySem.W.nsIn K mainGlobals "len" =some none)
  (z_list:PySem.W.nsIn K mainGlobals "list" =some none)
  (z_min:PySem.W.nsIn K mainGlobals "min" =some none)
  (z_range:PySem.W.nsIn K mainGlobals "range" =some none)
  (z_reversed:PySem.W.nsIn K mainGlobals "reversed" =some none)
  (z_set:PySem.W.nsIn K mainGlobals "set" =some none)
  (z_sorted:PySem.W.nsIn K mainGlobals "sorted" =some none)
  (z_str:PySem.W.nsIn K mainGlobals "str" =some none)
  (z_sum:PySem.W.nsIn K mainGlobals "sum" =some none)
  (z_tuple:PySem.W.nsIn K mainGlobals "tuple" =some none)
  :∃T:Tp K mg,True:=by
 have F_0:=ZB (st:=Za6) l_0 c_0 k_0;have F_1:=ZB (st:=ZaC) l_1 c_1 k_1;have F_2:=ZB (st:=UA) l_2 c_2 k_2;have F_3:=ZB (st:=Zbo) l_3 c_3 k_3;have F_4:=ZB (st:=ZaH) l_4 c_4 k_4;have F_5:=ZB (st:=Uw) l_5 c_5 k_5;have F_6:=ZB (st:=ZaG) l_6 c_6 k_6;have F_7:=ZB (st:=Ut) l_7 c_7 k_7;have F_8:=ZB (st:=Ud) l_8 c_8 k_8;have F_9:=ZB (st:=Vn) l_9 c_9 k_9;have F_10:=ZB (st:=V7) l_10 c_10 k_10;have F_11:=ZB (st:=UK) l_11 c_11 k_11;have F_12:=ZB (st:=Uq) l_12 c_12 k_12;have F_13:=ZB (st:=Uv) l_13 c_13 k_13;have F_14:=ZB (st:=ZaF) l_14 c_14 k_14;have F_15:=ZB (st:=Zcf) l_15 c_15 k_15;have F_16:=ZB (st:=Zb8) l_16 c_16 k_16;have F_17:=ZB (st:=Zc3) l_17 c_17 k_17;have F_18:=ZB (st:=UU) l_18 c_18 k_18;have F_19:=ZB (st:=Zau) l_19 c_19 k_19;have F_20:=ZB (st:=Wu) l_20 c_20 k_20;have F_21:=ZB (st:=WG) l_21 c_21 k_21;have F_22:=ZB (st:=Ve) l_22 c_22 k_22;have F_23:=ZB (st:=Uy) l_23 c_23 k_23;have F_24:=ZB (st:=U1) l_24 c_24 k_24;have F_25:=ZB (st:=VW) l_25 c_25 k_25;have F_26:=ZB (st:=Vq) l_26 c_26 k_26;have F_27:=ZB (st:=Zbi) l_27 c_27 k_27;have F_28:=ZB (st:=W7) l_28 c_28 k_28;have F_29:=ZB (st:=Vc) l_29 c_29 k_29;have F_30:=ZB (st:=U3) l_30 c_30 k_30;have F_31:=ZB (st:=Vv) l_31 c_31 k_31;have F_32:=ZB (st:=Zac) l_32 c_32 k_32;have F_33:=ZB (st:=Y1) l_33 c_33 k_33;have F_34:=ZB (st:=YU) l_34 c_34 k_34;have F_35:=ZB (st:=Y4) l_35 c_35 k_35;have F_36:=ZB (st:=YL) l_36 c_36 k_36;have F_37:=ZB (st:=WF) l_37 c_37 k_37;have F_38:=ZB (st:=Wk) l_38 c_38 k_38;have F_39:=ZB (st:=V3) l_39 c_39 k_39;have F_40:=ZB (st:=Wx) l_40 c_40 k_40;have F_41:=ZB (st:=V6) l_41 c_41 k_41;have F_42:=ZB (st:=WT) l_42 c_42 k_42;have F_43:=ZB (st:=YX) l_43 c_43 k_43;have F_44:=ZB (st:=UY) l_44 c_44 k_44;have F_45:=ZB (st:=ZaI) l_45 c_45 k_45;have F_46:=ZB (st:=Wl) l_46 c_46 k_46;have F_47:=ZB (st:=Zat) l_47 c_47 k_47;have F_48:=ZB (st:=Zag) l_48 c_48 k_48;have F_49:=ZB (st:=Zbk) l_49 c_49 k_49;have F_50:=ZB (st:=UF) l_50 c_50 k_50;have F_51:=ZB (st:=Ur) l_51 c_51 k_51;have F_52:=ZB (st:=VQ) l_52 c_52 k_52;have F_53:=ZB (st:=U2) l_53 c_53 k_53;have F_54:=Zkv (st:=UB) l_54 c_54 k_54;have F_55:=ZB (st:=Ux) l_55 c_55 k_55;have F_56:=ZB (st:=UD) l_56 c_56 k_56;have F_57:=ZB (st:=Zdj) l_57 c_57 k_57;exact⟨{
  f_l_cell:=f_0,d_l_cell:=_,F_l_cell:=F_0,
  b_l_cell:=F_0.binds fun _ _ _ _ _ _ us hl=>by revert hl;revert us;exact Yt (fun _ _=>rfl),
  m_l_cell:=PySem.W.mg_of X G a_0,
  f_l_mixed:=f_1,d_l_mixed:=_,F_l_mixed:=F_1,
  b_l_mixed:=F_1.binds fun _ _ _ _ _ _ us hl=>by revert hl;revert us;exact Yt (fun _ _=>rfl),
  m_l_mixed:=PySem.W.mg_of X G a_1,
  f_l_divisor:=f_2,d_l_divisor:=_,F_l_divisor:=F_2,
  b_l_divisor:=F_2.binds fun _ _ _ _ _ _ us hl=>by revert hl;revert us;exact Yt (fun _ _=>rfl),
  m_l_divisor:=PySem.W.mg_of X G a_2,
  f_l_line:=f_3,d_l_line:=_,F_l_line:=F_3,
  b_l_line:=F_3.binds fun _ _ _ _ _ _ us hl=>by revert hl;revert us;exact Znc (fun _ _ _ _ _=>rfl),
  m_l_line:=PySem.W.mg_of X G a_3,
  f_l_lines:=f_4,d_l_lines:=_,F_l_lines:=F_4,
  b_l_lines:=F_4.binds fun _ _ _ _ _ _ us hl=>by revert hl;revert us;exact Yt (fun _ _=>rfl),
  m_l_lines:=PySem.W.mg_of X G a_4,
  f_l_reached:=f_5,d_l_reached:=_,F_l_reached:=F_5,
  b_l_reached:=F_5.binds fun _ _ _ _ _ _ us hl=>by revert hl;revert us;exact ZaK (fun _ _ _=>rfl),
  m_l_reached:=PySem.W.mg_of X G a_5,
  f_l_rates:=f_6,d_l_rates:=_,F_l_rates:=F_6,
  b_l_rates:=F_6.binds fun _ _ _ _ _ _ us hl=>by revert hl;revert us;exact Yt (fun _ _=>rfl),
  m_l_rates:=PySem.W.mg_of X G a_6,
  f_l_started:=f_7,d_l_started:=_,F_l_started:=F_7,
  b_l_started:=F_7.binds fun _ _ _ _ _ _ us hl=>by revert hl;revert us;exact ZaK (fun _ _ _=>rfl),
  m_l_started:=PySem.W.mg_of X G a_7,
  f_Hall_belts:=f_8,d_Hall_belts:=_,F_Hall_belts:=F_8,
  b_Hall_belts:=F_8.binds fun _ _ _ _ _ _ us hl=>by revert hl;revert us;exact VY (fun _=>rfl),
  f_starts_of:=f_9,d_starts_of:=_,F_starts_of:=F_9,
  b_starts_of:=F_9.binds fun _ _ _ _ _ _ us hl=>by revert hl;revert us;exact VY (fun _=>rfl),
  m_starts_of:=PySem.W.mg_of X G a_9,
  f_Hall_names:=f_10,d_Hall_names:=_,F_Hall_names:=F_10,
  b_Hall_names:=F_10.binds fun _ _ _ _ _ _ us hl=>by revert hl;revert us;exact VY (fun _=>rfl),
  f_ways_of:=f_11,d_ways_of:=_,F_ways_of:=F_11,
  b_ways_of:=F_11.binds fun _ _ _ _ _ _ us hl=>by revert hl;revert us;exact VY (fun _=>rfl),
  m_ways_of:=PySem.W.mg_of X G a_11,
  f_tree_from:=f_12,d_tree_from:=_,F_tree_from:=F_12,
  b_tree_from:=F_12.binds fun _ _ _ _ _ _ us hl=>by revert hl;revert us;exact Yt (fun _ _=>rfl),
  m_tree_from:=PySem.W.mg_of X G a_12,
  f_forest_of:=f_13,d_forest_of:=_,F_forest_of:=F_13,
  b_forest_of:=F_13.binds fun _ _ _ _ _ _ us hl=>by revert hl;revert us;exact VY (fun _=>rfl),
  m_forest_of:=PySem.W.mg_of X G a_13,
  f_divisor:=f_14,d_divisor:=_,F_divisor:=F_14,
  b_divisor:=F_14.binds fun _ _ _ _ _ _ us hl=>by revert hl;revert us;exact Yt (fun _ _=>rfl),
  m_divisor:=PySem.W.mg_of X G a_14,
  f_ratio:=f_15,d_ratio:=_,F_ratio:=F_15,
  b_ratio:=F_15.binds fun _ _ _ _ _ _ us hl=>by revert hl;revert us;exact Yt (fun _ _=>rfl),
  m_ratio:=PySem.W.mg_of X G a_15,
  f_times:=f_16,d_times:=_,F_times:=F_16,
  b_times:=F_16.binds fun _ _ _ _ _ _ us hl=>by revert hl;revert us;exact Yt (fun _ _=>rfl),
  m_times:=PySem.W.mg_of X G a_16,
  f_gain:=f_17,d_gain:=_,F_gain:=F_17,
  b_gain:=F_17.binds fun _ _ _ _ _ _ us hl=>by revert hl;revert us;exact Yt (fun _ _=>rfl),
  m_gain:=PySem.W.mg_of X G a_17,
  f_is_whole:=f_18,d_is_whole:=_,F_is_whole:=F_18,
  b_is_whole:=F_18.binds fun _ _ _ _ _ _ us hl=>by revert hl;revert us;exact VY (fun _=>rfl),
  m_is_whole:=PySem.W.mg_of X G a_18,
  f_is_from:=f_19,d_is_from:=_,F_is_from:=F_19,
  b_is_from:=F_19.binds fun _ _ _ _ _ _ us hl=>by revert hl;revert us;exact Yt (fun _ _=>rfl),
  m_is_from:=PySem.W.mg_of X G a_19,
  f_is_number_below:=f_20,d_is_number_below:=_,F_is_number_below:=F_20,
  b_is_number_below:=F_20.binds fun _ _ _ _ _ _ us hl=>by revert hl;revert us;exact Yt (fun _ _=>rfl),
  m_is_number_below:=PySem.W.mg_of X G a_20,
  f_Hall_need_belt:=f_21,d_Hall_need_belt:=_,F_Hall_need_belt:=F_21,
  b_Hall_need_belt:=F_21.binds fun _ _ _ _ _ _ us hl=>by revert hl;revert us;exact Yt (fun _ _=>rfl),
  f_Hall_belt_at:=f_22,d_Hall_belt_at:=_,F_Hall_belt_at:=F_22,
  b_Hall_belt_at:=F_22.binds fun _ _ _ _ _ _ us hl=>by revert hl;revert us;exact Yt (fun _ _=>rfl),
  f_shares_of:=f_23,d_shares_of:=_,F_shares_of:=F_23,
  b_shares_of:=F_23.binds fun _ _ _ _ _ _ us hl=>by revert hl;revert us;exact Yt (fun _ _=>rfl),
  m_shares_of:=PySem.W.mg_of X G a_23,
  f_multiple:=f_24,d_multiple:=_,F_multiple:=F_24,
  b_multiple:=F_24.binds fun _ _ _ _ _ _ us hl=>by revert hl;revert us;exact Yt (fun _ _=>rfl),
  m_multiple:=PySem.W.mg_of X G a_24,
  f_rates_by:=f_25,d_rates_by:=_,F_rates_by:=F_25,
  b_rates_by:=F_25.binds fun _ _ _ _ _ _ us hl=>by revert hl;revert us;exact Yt (fun _ _=>rfl),
  m_rates_by:=PySem.W.mg_of X G a_25,
  f_change_of:=f_26,d_change_of:=_,F_change_of:=F_26,
  b_change_of:=F_26.binds fun _ _ _ _ _ _ us hl=>by revert hl;revert us;exact Yt (fun _ _=>rfl),
  m_change_of:=PySem.W.mg_of X G a_26,
  f_way_to:=f_27,d_way_to:=_,F_way_to:=F_27,
  b_way_to:=F_27.binds fun _ _ _ _ _ _ us hl=>by revert hl;revert us;exact Yt (fun _ _=>rfl),
  m_way_to:=PySem.W.mg_of X G a_27,
  f_shared_steps:=f_28,d_shared_steps:=_,F_shared_steps:=F_28,
  b_shared_steps:=F_28.binds fun _ _ _ _ _ _ us hl=>by revert hl;revert us;exact Yt (fun _ _=>rfl),
  m_shared_steps:=PySem.W.mg_of X G a_28,
  f_ring_through:=f_29,d_ring_through:=_,F_ring_through:=F_29,
  b_ring_through:=F_29.binds fun _ _ _ _ _ _ us hl=>by revert hl;revert us;exact ZaK (fun _ _ _=>rfl),
  m_ring_through:=PySem.W.mg_of X G a_29,
  f_rates_of:=f_30,d_rates_of:=_,F_rates_of:=F_30,
  b_rates_of:=F_30.binds fun _ _ _ _ _ _ us hl=>by revert hl;revert us;exact VY (fun _=>rfl),
  m_rates_of:=PySem.W.mg_of X G a_30,
  f_round_rates:=f_31,d_round_rates:=_,F_round_rates:=F_31,
  b_round_rates:=F_31.binds fun _ _ _ _ _ _ us hl=>by revert hl;revert us;exact VY (fun _=>rfl),
  m_round_rates:=PySem.W.mg_of X G a_31,
  f_enough:=f_32,d_enough:=_,F_enough:=F_32,
  b_enough:=F_32.binds fun _ _ _ _ _ _ us hl=>by revert hl;revert us;exact Yt (fun _ _=>rfl),
  m_enough:=PySem.W.mg_of X G a_32,
  f_Course_row_from:=f_33,d_Course_row_from:=_,F_Course_row_from:=F_33,
  b_Course_row_from:=F_33.binds fun _ _ _ _ _ _ us hl=>by revert hl;revert us;exact Yt (fun _ _=>rfl),
  f_Course_waits_behind:=f_34,d_Course_waits_behind:=_,F_Course_waits_behind:=F_34,
  b_Course_waits_behind:=F_34.binds fun _ _ _ _ _ _ us hl=>by revert hl;revert us;exact ZaK (fun _ _ _=>rfl),
  f_Course_ring_behind:=f_35,d_Course_ring_behind:=_,F_Course_ring_behind:=F_35,
  b_Course_ring_behind:=F_35.binds fun _ _ _ _ _ _ us hl=>by revert hl;revert us;exact ZaK (fun _ _ _=>rfl),
  f_Course_told_from:=f_36,d_Course_told_from:=_,F_Course_told_from:=F_36,
  b_Course_told_from:=F_36.binds fun _ _ _ _ _ _ us hl=>by revert hl;revert us;exact Yt (fun _ _=>rfl),
  f_Hall_need_work:=f_37,d_Hall_need_work:=_,F_Hall_need_work:=F_37,
  b_Hall_need_work:=F_37.binds fun _ _ _ _ _ _ us hl=>by revert hl;revert us;exact Yt (fun _ _=>rfl),
  f_Hall_entering:=f_38,d_Hall_entering:=_,F_Hall_entering:=F_38,
  b_Hall_entering:=F_38.binds fun _ _ _ _ _ _ us hl=>by revert hl;revert us;exact Yt (fun _ _=>rfl),
  f_takes_of:=f_39,d_takes_of:=_,F_takes_of:=F_39,
  b_takes_of:=F_39.binds fun _ _ _ _ _ _ us hl=>by revert hl;revert us;exact Yt (fun _ _=>rfl),
  m_takes_of:=PySem.W.mg_of X G a_39,
  f_Hall_leaving:=f_40,d_Hall_leaving:=_,F_Hall_leaving:=F_40,
  b_Hall_leaving:=F_40.binds fun _ _ _ _ _ _ us hl=>by revert hl;revert us;exact Yt (fun _ _=>rfl),
  f_gives_of:=f_41,d_gives_of:=_,F_gives_of:=F_41,
  b_gives_of:=F_41.binds fun _ _ _ _ _ _ us hl=>by revert hl;revert us;exact Yt (fun _ _=>rfl),
  m_gives_of:=PySem.W.mg_of X G a_41,
  f_touched_by:=f_42,d_touched_by:=_,F_touched_by:=F_42,
  b_touched_by:=F_42.binds fun _ _ _ _ _ _ us hl=>by revert hl;revert us;exact Yt (fun _ _=>rfl),
  m_touched_by:=PySem.W.mg_of X G a_42,
  f_Course_init:=f_43,d_Course_init:=_,F_Course_init:=F_43,
  b_Course_init:=F_43.binds fun _ _ _ _ _ _ us hl=>by revert hl;revert us;exact ZaK (fun _ _ _=>rfl),
  f_round_of:=f_44,d_round_of:=_,F_round_of:=F_44,
  b_round_of:=F_44.binds fun _ _ _ _ _ _ us hl=>by revert hl;revert us;exact VY (fun _=>rfl),
  m_round_of:=PySem.W.mg_of X G a_44,
  f_l_ready:=f_45,d_l_ready:=_,F_l_ready:=F_45,
  b_l_ready:=F_45.binds fun _ _ _ _ _ _ us hl=>by revert hl;revert us;exact ZaK (fun _ _ _=>rfl),
  m_l_ready:=PySem.W.mg_of X G a_45,
  f_l_stands:=f_46,d_l_stands:=_,F_l_stands:=F_46,
  b_l_stands:=F_46.binds fun _ _ _ _ _ _ us hl=>by revert hl;revert us;exact Yt (fun _ _=>rfl),
  m_l_stands:=PySem.W.mg_of X G a_46,
  f_l_stops:=f_47,d_l_stops:=_,F_l_stops:=F_47,
  b_l_stops:=F_47.binds fun _ _ _ _ _ _ us hl=>by revert hl;revert us;exact ZaK (fun _ _ _=>rfl),
  m_l_stops:=PySem.W.mg_of X G a_47,
  f_l_told:=f_48,d_l_told:=_,F_l_told:=F_48,
  b_l_told:=F_48.binds fun _ _ _ _ _ _ us hl=>by revert hl;revert us;exact ZaK (fun _ _ _=>rfl),
  m_l_told:=PySem.W.mg_of X G a_48,
  f_l_name:=f_49,d_l_name:=_,F_l_name:=F_49,
  b_l_name:=F_49.binds fun _ _ _ _ _ _ us hl=>by revert hl;revert us;exact VY (fun _=>rfl),
  m_l_name:=PySem.W.mg_of X G a_49,
  f_is_name:=f_50,d_is_name:=_,F_is_name:=F_50,
  b_is_name:=F_50.binds fun _ _ _ _ _ _ us hl=>by revert hl;revert us;exact VY (fun _=>rfl),
  m_is_name:=PySem.W.mg_of X G a_50,
  f_Hall_work:=f_51,d_Hall_work:=_,F_Hall_work:=F_51,
  b_Hall_work:=F_51.binds fun _ _ _ _ _ _ us hl=>by revert hl;revert us;exact Yt (fun _ _=>rfl),
  f_need_start:=f_52,d_need_start:=_,F_need_start:=F_52,
  b_need_start:=F_52.binds fun _ _ _ _ _ _ us hl=>by revert hl;revert us;exact VY (fun _=>rfl),
  m_need_start:=PySem.W.mg_of X G a_52,
  f_Hall_lay:=f_53,d_Hall_lay:=_,F_Hall_lay:=F_53,
  b_Hall_lay:=F_53.binds fun _ _ _ _ _ _ us hl=>by revert hl;revert us;exact Yt (fun _ _=>rfl),
  f_Hall_belt:=f_54,d_Hall_belt:=_,F_Hall_belt:=F_54,
  dT_Hall_belt:=dT_Hall_belt,
  dk0_Hall_belt:=dk0_Hall_belt,
  b_Hall_belt:=fun s us X hl=>(match us,(show us.length=6 by simpa using hl) with| [_,_,_,_,_,_],_=>PySem.W.binds_K X rfl t_Hall_belt rfl rfl rfl),
  b1_Hall_belt:=fun s us X hl=>(match us,(show us.length=5 by simpa using hl) with| [_,_,_,_,_],_=>PySem.W.binds_K X rfl t_Hall_belt rfl rfl rfl),
  v1_Hall_belt:=(.cons ⟨_,rfl⟩ .nil),
  f_Hall_fill:=f_55,d_Hall_fill:=_,F_Hall_fill:=F_55,
  b_Hall_fill:=F_55.binds fun _ _ _ _ _ _ us hl=>by revert hl;revert us;exact ZaK (fun _ _ _=>rfl),
  f_Hall_init:=f_56,d_Hall_init:=_,F_Hall_init:=F_56,
  b_Hall_init:=F_56.binds fun _ _ _ _ _ _ us hl=>by revert hl;revert us;exact VY (fun _=>rfl),
  f_law:=f_57,d_law:=_,F_law:=F_57,
  b_law:=F_57.binds fun _ _ _ _ _ _ us hl=>by revert hl;revert us;exact VY (fun _=>rfl),
  m_law:=PySem.W.mg_of X G a_57,
  C_Course:=C_Course,cl_Course:=⟨pg_Course,hd_Course,po_Course,sa_Course⟩,g_Course:=PySem.W.mg_of X G a_Course,
  na_Course:=⟨fun f hf=>(by
   simp only[List.mem_cons,List.not_mem_nil,or_false] at hf;rcases hf with rfl|rfl|rfl|rfl|rfl
   ·exact na_Course_turns
   ·exact na_Course_rows
   ·exact na_Course_takes
   ·exact na_Course_gives
   ·exact na_Course_touched)⟩,
  M_Course_row_from:=⟨a_33,i_33,k_33⟩,
  M_Course_waits_behind:=⟨a_34,i_34,k_34⟩,
  M_Course_ring_behind:=⟨a_35,i_35,k_35⟩,
  M_Course_told_from:=⟨a_36,i_36,k_36⟩,
  mk_Course:=⟨mk_Course,a_43,i_43,kc_Course⟩,
  C_Hall:=C_Hall,cl_Hall:=⟨pg_Hall,hd_Hall,po_Hall,sa_Hall⟩,g_Hall:=PySem.W.mg_of X G a_Hall,
  na_Hall:=⟨fun f hf=>(by
   simp only[List.mem_cons,List.not_mem_nil,or_false] at hf;rcases hf with rfl|rfl
   ·exact na_Hall_numbers
   ·exact na_Hall_rows)⟩,
  M_Hall_belts:=⟨a_8,i_8,k_8⟩,
  M_Hall_names:=⟨a_10,i_10,k_10⟩,
  M_Hall_need_belt:=⟨a_21,i_21,k_21⟩,
  M_Hall_belt_at:=⟨a_22,i_22,k_22⟩,
  M_Hall_need_work:=⟨a_37,i_37,k_37⟩,
  M_Hall_entering:=⟨a_38,i_38,k_38⟩,
  M_Hall_leaving:=⟨a_40,i_40,k_40⟩,
  M_Hall_work:=⟨a_51,i_51,k_51⟩,
  M_Hall_lay:=⟨a_53,i_53,k_53⟩,
  M_Hall_belt:=⟨a_54,i_54,k_54⟩,
  M_Hall_fill:=⟨a_55,i_55,k_55⟩,
  mk_Hall:=⟨mk_Hall,a_56,i_56,kc_Hall⟩,
  n_all:=PySem.W.mg_none_of X G z_all,
  n_bool:=PySem.W.mg_none_of X G z_bool,
  n_enumerate:=PySem.W.mg_none_of X G z_enumerate,
  n_int:=PySem.W.mg_none_of X G z_int,
  n_isinstance:=PySem.W.mg_none_of X G z_isinstance,
  n_len:=PySem.W.mg_none_of X G z_len,
  n_list:=PySem.W.mg_none_of X G z_list,
  n_min:=PySem.W.mg_none_of X G z_min,
  n_range:=PySem.W.mg_none_of X G z_range,
  n_reversed:=PySem.W.mg_none_of X G z_reversed,
  n_set:=PySem.W.mg_none_of X G z_set,
  n_sorted:=PySem.W.mg_none_of X G z_sorted,
  n_str:=PySem.W.mg_none_of X G z_str,
  n_sum:=PySem.W.mg_none_of X G z_sum,
  n_tuple:=PySem.W.mg_none_of X G z_tuple,
  X_NoName:=X_NoName,gx_NoName:=gx_NoName,mx_NoName:=PySem.W.mg_of X G gx_NoName,ex_NoName:=ex_NoName,
  X_Twice:=X_Twice,gx_Twice:=gx_Twice,mx_Twice:=PySem.W.mg_of X G gx_Twice,ex_Twice:=ex_Twice,
  X_TooMuch:=X_TooMuch,gx_TooMuch:=gx_TooMuch,mx_TooMuch:=PySem.W.mg_of X G gx_TooMuch,ex_TooMuch:=ex_TooMuch,
  X_NoWork:=X_NoWork,gx_NoWork:=gx_NoWork,mx_NoWork:=PySem.W.mg_of X G gx_NoWork,ex_NoWork:=ex_NoWork,
  X_NoBelt:=X_NoBelt,gx_NoBelt:=gx_NoBelt,mx_NoBelt:=PySem.W.mg_of X G gx_NoBelt,ex_NoBelt:=ex_NoBelt,
  X_NoRate:=X_NoRate,gx_NoRate:=gx_NoRate,mx_NoRate:=PySem.W.mg_of X G gx_NoRate,ex_NoRate:=ex_NoRate,
  X_NotBalanced:=X_NotBalanced,gx_NotBalanced:=gx_NotBalanced,mx_NotBalanced:=PySem.W.mg_of X G gx_NotBalanced,ex_NotBalanced:=ex_NotBalanced,
  X_TooLong:=X_TooLong,gx_TooLong:=gx_TooLong,mx_TooLong:=PySem.W.mg_of X G gx_TooLong,ex_TooLong:=ex_TooLong,
  tk_MOST_TURNS:=tk_MOST_TURNS,c_MOST_TURNS:=PySem.W.mg_of X G c_MOST_TURNS,
  tk_MOST_LETTERS:=tk_MOST_LETTERS,c_MOST_LETTERS:=PySem.W.mg_of X G c_MOST_LETTERS,
  tk_MOST_WORKS:=tk_MOST_WORKS,c_MOST_WORKS:=PySem.W.mg_of X G c_MOST_WORKS,
  tk_MOST_BELTS:=tk_MOST_BELTS,c_MOST_BELTS:=PySem.W.mg_of X G c_MOST_BELTS,
  bl_law:=fun s v=> .of_eq rfl},trivial⟩
theorem walk{l:PySem.W.OpenLaw}{q:Program}{loose:List Str}{XP:(Str→Option Value)→Heap→Prop}{YP:World→Heap→Prop}{d:DefRec}{K:Params→PySem.W.Frag}(hn:l.most=some 63)(hdf:d.params.defaults=[])(hdn:d.name="law")
  (hY:∀(w:World)(h:Heap),YP w h→(K w.params).In h)
  (F:∀(w:World)(mg:Str→Option Value)(h:Heap),(K w.params).In h→h.Ns mainGlobals mg→∃T:Tp (K w.params) mg,True):
  PySem.W.WalkO q loose XP YP l.row.toRowW d [] (fun f vs=>PySem.call f vs):=by
 refine L2.Zkj (n:=63) (k:=12) (x:="_law_script") (CX:=fun w=>CXX l.prog w) (sp:=fun w=>Zj7 (K w.params)) hn (by decide) hdf ⟨rfl,by decide,by decide⟩ hY (fun w mg fa h KX G hmg=>?_) (fun _ _ a ns hl _ hS=>⟨a,ns,rfl,hS,hl,fun _=>rfl⟩) ?_
 ·obtain⟨T,_⟩:=F w mg h KX G;rw[hdn,T.m_law] at hmg;cases hmg;exact⟨T.d_law,T.bl_law,fun base _ _=>ZkW T⟩
 ·intro w H s e s' z;obtain⟨_,_,_,_,_,_,_,_,_,_,_,_,z⟩:=z;exact z
end Nm
namespace PySem.W.Fast
def tw13586241559116696019:=True
def tw14755197268454456442:=True
def tw16803017225970905350:=True
def tw11204552622171470460:=True
def tw18380692304652433427:=True
def tw14997023911199994463:=True
def tw8492693339020986493:=True
def tw2869955876295713940:=True
def tw14777086156428762891:=True
def tw8356936524525392944:=True
def tw1980378867489961344:=True
def tw1266411369079414435:=True
def tw12281226794587455891:=True
def tw1402651072642253345:=True
def tw9085033982343630229:=True
def tw11591177811099075113:=True
def tw3021587066445387171:=True
def tw10113013898553378195:=True
def tw17802624647159538860:=True
def tw653026349987970240:=True
def tw12192344967405274044:=True
def tw13590193867583159059:=True
def tw13151189349953523665:=True
def tw2483721693336597479:=True
def tw15755754928049438327:=True
def tw10517870820819112169:=True
def tw706968397251013967:=True
def tw16861821886926998307:=True
def tw3856760766365408096:=True
def tw10528491656690906122:=True
def tw16636657283881920362:=True
def tw12145937115088564419:=True
def tw2138897206383873187:=True
def tw15311822969070747057:=True
def tw2869674199789922195:=True
def tw15776390159064173222:=True
def tw18380540196402876164:=True
def tw6786553105874364746:=True
def tw17088905079670229371:=True
def tw18035198154960326325:=True
def tw320940789681294066:=True
def tw7039256760132080366:=True
def tw557534755126230013:=True
def tw8631397896224269624:=True
def tw16250458112097119274:=True
def tw5625843325746106692:=True
def tw913838621712370814:=True
def tw8358430843777688285:=True
def tw11497705700029234915:=True
def tw1803152685734894936:=True
def tw3623253815916854281:=True
def tw16700692506398456111:=True
def tw1272123722051394104:=True
def tw14261207952428143424:=True
def tw15020644016926380190:=True
def tw14809038323885924179:=True
def tw3254594171904569608:=True
def tw3226541565216045148:=True
def tw18112088069627596872:=True
def tw16671482469674825564:=True
def tw2280647445895600686:=True
def tw1545452667439403954:=True
def tw12418219638103758237:=True
def tw8615728796561246107:=True
def tw17322719619785220223:=True
def tw5578084631211865494:=True
def tw10913458313814140369:=True
def tw8932890803398713001:=True
def tw2292031699726509537:=True
def tw12211547908290870272:=True
def tw16939255921217827286:=True
def tw1782854090955826032:=True
def tw7946561065339142978:=True
def tw17751245138282431616:=True
def tw12242799526419801071:=True
def tw10532433770996070741:=True
def tw9910893554627360026:=True
def tw5408421666095157302:=True
def tw4915731791511661359:=True
def tw16936449580639080410:=True
def tw17384368854923304099:=True
def tw9293362329736317014:=True
def tw1340373540996744413:=True
def tw2527736192753880823:=True
def tw3029213558066249356:=True
def tw7005649724775389122:=True
def tw15055720761799427857:=True
def tw3282979756724699496:=True
def tw16386402072444117159:=True
def tw6686887265464446573:=True
def tw10486134401597655634:=True
def tw16707417649856046936:=True
def tw11834928337507687366:=True
def tw10077314390155153921:=True
def tw8023848544182282241:=True
def tw13396614957659635394:=True
def tw3382670083757897652:=True
def tw17751370547783980609:=True
def tw9081814921962767261:=True
def tw10409349032594507054:=True
def tw1496107227352652684:=True
def tw7782930440700685428:=True
def tw13453197961528953608:=True
def tw6201192509451601087:=True
def tw17570575316396637920:=True
def tw9060493608861997818:=True
def tw57522114926746606:=True
def tw13182513234521322200:=True
def tw5955242454042065432:=True
def tw17062131006009677972:=True
def tw11824487726173878414:=True
def tw14527500553652916826:=True
def tw14427168640105646359:=True
def tw2389169767523219235:=True
def tw15876225111324063198:=True
def tw5915928979975819479:=True
def tw16674584501977507913:=True
def tw3056703928871079695:=True
def tw2808124640198382294:=True
def tw8712167870846746438:=True
def tw7341245466200839523:=True
def tw5844073953938515528:=True
def tw15194753079615218894:=True
def tw5384134508320189694:=True
def tw5648691527192569818:=True
def tw9135617032236033352:=True
def tw7074971329933675766:=True
def tw944229570114942402:=True
def tw16065499826676803566:=True
def tw4526431282264318560:=True
def tw2803057649815168139:=True
def tw3092778452055806409:=True
def tw13718528478944515694:=True
def tw4614362439781243251:=True
def tw4594048752833899269:=True
def tw5139037507253596476:=True
def tw4738680321122479069:=True
def tw17764090434546836388:=True
def tw12505863820862663559:=True
def tw15853126816877899177:=True
def tw6516408539815818010:=True
def tw13729364762955601930:=True
def tw1378490244840426174:=True
def tw6582064200961339124:=True
def tw16260227784657707909:=True
def tw1208485450873954928:=True
def tw6079309834901573905:=True
def tw8037948962348869376:=True
def tw16772577129950621236:=True
def tw3281862289310371101:=True
def tw10887892447342289893:=True
def tw552620101374073787:=True
def tw8905177038907580242:=True
def tw14800352538905487503:=True
def tw9840588572493892101:=True
def tw13044696764011270175:=True
def tw4552045694979596698:=True
def tw16067550225811053709:=True
def tw8419096454274603846:=True
def tw8507920923348688105:=True
def tw2623912068242304510:=True
def tw11491641362706802476:=True
def tw4174811125003671437:=True
def tw13863838406403567729:=True
def tw9215529782488383226:=True
def tw3610579519339609893:=True
def tw13589750878970570079:=True
def tw5793597069123072:=True
def tw3084916122868961392:=True
def tw364922589981393814:=True
def tw2317968775900837545:=True
def tw798125798649071698:=True
def tw11819383888386474822:=True
def tw16011108928062404259:=True
def tw9461616521910592934:=True
def tw16915025733301643537:=True
def tw5838573672269624860:=True
def tw348270591342752426:=True
def tw5979456120781302709:=True
def tw10767284945479237392:=True
def tw3649432187553461529:=True
def tw11906340619224070134:=True
def tw11184208889369199002:=True
def tw2411848306160727535:=True
def tw13484035925722340094:=True
def tw10116758597999885507:=True
def tw2654986140014878051:=True
def tw3860768175649850231:=True
def tw2752642789794331367:=True
def tw6390599918456552639:=True
def tw2372196306123253535:=True
def tw9282449985662398092:=True
def tw17622083602328285561:=True
def tw7450370690190328495:=True
def tw7818644124805559978:=True
def tw7554590606276252911:=True
def tw1975314086673895007:=True
def tw15672014961250283830:=True
def tw6527946066551424624:=True
def tw1202665286672387872:=True
def tw5197146957969593875:=True
def tw2679062663309752376:=True
def tw11697978487023793409:=True
def tw7629649727806285281:=True
def tw15688668126270899755:=True
def tw8862231739070159767:=True
def tw15663136726136377819:=True
def tw16180051645930567847:=True
def tw7136865519188868257:=True
def tw11826318870604859426:=True
def tw12247502623943238361:=True
def tw11546044137585293559:=True
def tw12952077090912131235:=True
def tw16315509567925701964:=True
def tw11211961034972677643:=True
def tw6360905515816628145:=True
def tw1547998353820826379:=True
def tw1316407043208580948:=True
def tw16766055047000362260:=True
def tw18249118038101041190:=True
def tw4018169505462126412:=True
def tw6366406523371814242:=True
def tw16947774511419697297:=True
def tw10180097960097040017:=True
def tw8869043072916568655:=True
def tw5320847067749267512:=True
def tw5190982702953498830:=True
def tw17021909436855926740:=True
def tw431341210955244533:=True
def tw1139096737653254702:=True
def tw14785465806751361046:=True
def tw921918412543301336:=True
def tw11629612458997680052:=True
def tw13550056239249522094:=True
def tw5097124991971610968:=True
def tw9634809179625353111:=True
def tw6430974768197408250:=True
def tw6957844399738036519:=True
def tw10551934099460260322:=True
def tw9553024031100365315:=True
def tw2042328901665006558:=True
def tw14396210854593443167:=True
def tw5558292203957449553:=True
def tw5826478380376560340:=True
def tw16660516191873175156:=True
def tw7172492833339238530:=True
def tw16972172574719199850:=True
def tw5933906752467576519:=True
def tw3933692669702223212:=True
def tw13909701177594636170:=True
def tw16840817128199955398:=True
def tw5086825277105428284:=True
def tw11002187801262243937:=True
def tw5816009465836633178:=True
def tw15433858449519373000:=True
def tw4227607903363805844:=True
def tw2459355048677322823:=True
def tw13241449465886398274:=True
def tw14041244906812540420:=True
def tw15922921630421542053:=True
def tw15595918959798770800:=True
def tw4193271963372708459:=True
def tw8272434407006906287:=True
def tw8350999138808084029:=True
def tw1349583592060777528:=True
def tw578076055209669831:=True
def tw6888054054190824520:=True
def tw10774708845483498366:=True
def tw2898033264642269620:=True
def tw9498725178878448227:=True
def tw10299478641834477564:=True
def tw18052129140453315563:=True
def tw760038270863256493:=True
def tw5183900927240736703:=True
def tw1963586885989141598:=True
def tw9119851503948543302:=True
def tw15666083437085341007:=True
def tw6079612395051124188:=True
def tw16611976173434963246:=True
def tw13372622396556043992:=True
def tw1328116708838864246:=True
def tw9878975302578702126:=True
def tw12874671013899458606:=True
def tw10422511709051179454:=True
def tw1088940204978266186:=True
def tw11119320544941872957:=True
def tw10515814496127811837:=True
def tw2591432925249301077:=True
def tw15724209700084244072:=True
def tw4996363879759347853:=True
def tw16220905520351896025:=True
def tw17101163887832550738:=True
def tw1678036022684963484:=True
def tw13727294745772302965:=True
def tw1376440954335548155:=True
def tw2843022064042297371:=True
def tw13277575819024890659:=True
def tw2833029594401690121:=True
def tw15961202716791884230:=True
def tw12883859562189148774:=True
def tw16353582890665365110:=True
def tw10416540640622502314:=True
def tw11538524415299616285:=True
def tw16182000094917330064:=True
def tw1601563654882880453:=True
def tw5105268674699371183:=True
def tw11728175829817845399:=True
def tw14518161360148129761:=True
def tw15728455629443301656:=True
def tw17711803555509243887:=True
def tw3893313054131742545:=True
def tw9432090677960191677:=True
def tw6292028655521219421:=True
def tw1287640435501460928:=True
def tw16879709036542902109:=True
def tw2602617353134233827:=True
def tw3917714844227514131:=True
def tw12470993878463717317:=True
def tw12636198396038025357:=True
def tw5509078140583819548:=True
def tw369423309281543271:=True
def tw2625649231787391293:=True
def tw15991699232276221156:=True
def tw1443547161431887320:=True
def tw6976165598328307256:=True
def tw9551982475121973033:=True
def tw981668390331043383:=True
def tw335728817464520494:=True
def tw751127289222362660:=True
def tw12708300209017555931:=True
def tw8186073796699026776:=True
def tw9067568049648630469:=True
def tw3193867367300156258:=True
def tw4224987552672287591:=True
def tw2849404647426971966:=True
def tw3319120071917917854:=True
def tw13380761588148403823:=True
def tw18118881637829108164:=True
def tw1019054129672603937:=True
def tw14269583488275676423:=True
def tw6450418142721227538:=True
def tw328395048883521758:=True
def tw5687896766344400426:=True
def tw15998858423188487217:=True
def tw17004534398720287558:=True
def tw8724261720831016891:=True
def tw13361860548583117856:=True
def tw4563523530356153687:=True
def tw5173638885334650484:=True
def tw13917140850938209849:=True
def tw3114484540265271223:=True
def tw301076476164342362:=True
def tw16233692786126837834:=True
def tw3288224312606392595:=True
def tw9756459803410298167:=True
def tw920611876168040946:=True
def tw4219766897417018934:=True
def tw15867954674532863977:=True
def tw17986507039266863814:=True
def tw4483417315267649126:=True
def tw5192149612414969623:=True
def tw52885191447624873:=True
def tw8681401767053817691:=True
def tw17934800607082452296:=True
def tw14076863076367518500:=True
def tw6554470650543597348:=True
def tw8658330747774325452:=True
def tw968774828823760479:=True
def tw9180375832443619797:=True
def tw10170328660317403519:=True
def tw8422962210248269696:=True
def tw11364795047976592147:=True
def tw14363709183159998360:=True
def tw3448051411515522841:=True
def tw6567402341097987996:=True
def tw2838560989168033857:=True
def tw193159978329979843:=True
def tw15134975370375721362:=True
def tw5013805037236293173:=True
def tw5737799790764471585:=True
def tw10931973528795546234:=True
def tw17033530619108667312:=True
def tw3385097177444207336:=True
def tw13773770678876594208:=True
def tw5339625532141149061:=True
def tw10854767456850745969:=True
def tw14645702697684381607:=True
def tw2907069699976976871:=True
def tw16005857931931671674:=True
def tw7974300107493472728:=True
def tw3499111393599869849:=True
def tw12873158056728952170:=True
def tw18108061628866033742:=True
def tw2171737842079569160:=True
def tw9891321647367715132:=True
def tw6370703139548200311:=True
def tw12866066553860219390:=True
def tw5787549341975418970:=True
def tw42795779520674506:=True
def tw17533630005875248111:=True
def tw3395135902881388534:=True
def tw17511378798634029878:=True
def tw15266112304869054624:=True
def tw7896326905452615017:=True
def tw1795096739421543977:=True
def tw15424157607574089196:=True
def tw1187186015092667458:=True
def tw12891243483016517907:=True
def tw16200016975031063974:=True
def tw16415153648674910659:=True
def tw15050446986391243250:=True
def tw5960586947430016111:=True
def tw18127782210361197642:=True
def tw2530009726011290599:=True
def tw15559211847893404389:=True
def tw13484412222104766793:=True
def tw10212677894660281418:=True
def tw6234854441165750266:=True
def tw3979485971104351417:=True
def tw10091541869033142991:=True
def tw1640250375441387211:=True
def tw12398416126047462546:=True
def tw14973724475457949255:=True
def tw2186803622821503560:=True
def tw2067708654392230455:=True
def tw7136373471595962371:=True
def tw14363104742747887191:=True
def tw2009644229577223785:=True
def tw13532538104204947066:=True
def tw2152744014945849886:=True
def tw2091573824961889193:=True
def tw12643931920049930841:=True
def tw2607351800359723037:=True
def tw15824925620311121095:=True
def tw17222573559796955733:=True
def tw1910295741427996130:=True
def tw4289221265171437578:=True
def tw3857183136650944828:=True
def tw15111313227595798372:=True
def tw1342720461206794953:=True
def tw17215593655913123521:=True
def tw8241117744910137231:=True
def tw15189061997956600221:=True
def tw11360758593875389448:=True
def tw1769181368559419577:=True
def tw13256547432157181672:=True
def tw2854045381216498322:=True
def tw9476933968936740501:=True
def tw14117313461692211951:=True
def tw10038498253726520343:=True
def tw17143284423498910796:=True
def tw4264330878266742244:=True
def tw785952234314944016:=True
def tw13935951087311620460:=True
def tw9232357505005354946:=True
def tw1507672841243915427:=True
def tw4274834783247481341:=True
def tw9374510272946991136:=True
def tw6001603298890761787:=True
def tw967403916098290546:=True
def tw4342330649966121220:=True
def tw728258387950187387:=True
def tw12253162376713523543:=True
def tw8701846353402727407:=True
def tw2726413689621781337:=True
def tw1819458504953901970:=True
def tw621730644133230484:=True
def tw5589918972141338078:=True
def tw9607963517286224903:=True
def tw899016632172827625:=True
def tw12852696360620738432:=True
def tw748593580183364345:=True
def tw16384250065508912464:=True
def tw1731093347743950395:=True
def tw6952571273200295562:=True
def tw9123902924351318561:=True
def tw9335155627200140826:=True
def tw13349932032721749084:=True
def tw12802836111931083396:=True
def tw15356087978724241812:=True
def tw12672216920657028398:=True
def tw2145216911178987665:=True
def tw7598916847616128049:=True
def tw7561553102523598915:=True
def tw10151250054556238740:=True
def tw10792927930950362945:=True
def tw5265702676517626178:=True
def tw15397536877912920398:=True
def tw247983075522050940:=True
def tw8166660478260383272:=True
def tw17669236051831954104:=True
def tw11700243486910325885:=True
def tw10211129363260080057:=True
def tw512006993444676372:=True
def tw12371672544752750719:=True
def tw10953577380786581801:=True
def tw14959191982942296221:=True
def tw13289100895768021395:=True
def tw16283936005302074101:=True
def tw9372234006895976185:=True
end PySem.W.Fast
open PySem PySem.W PyProof.Rows
set_option maxRecDepth 100000 in
set_option maxHeartbeats 0 in
theorem PySem.Challenge.cw_ratehall_k13_stop_walked_holds : PySem.Challenge.rw_ratehall_k13_stop_walked.Holds := by
 w_on;o_law;k_head;(case hw=>w_witness2)
 k_fill
 refine Nm.walk (l:=PySem.Challenge.rw_ratehall_k13_stop_walked) rfl rfl rfl (fun w h Y=>PySem.W.kIn_of Y) ?F
 case F=>
  intro w mg h KX G
  refine' Nm.tp_mk KX G ?a_Course ?a_Hall ?a_0 ?l_0 ?c_0 ?k_0 ?a_1 ?l_1 ?c_1 ?k_1 ?a_2 ?l_2 ?c_2 ?k_2 ?a_3 ?l_3 ?c_3 ?k_3 ?a_4 ?l_4 ?c_4 ?k_4 ?a_5 ?l_5 ?c_5 ?k_5 ?a_6 ?l_6 ?c_6 ?k_6 ?a_7 ?l_7 ?c_7 ?k_7 ?a_8 ?i_8 ?l_8 ?c_8 ?k_8 ?a_9 ?l_9 ?c_9 ?k_9 ?a_10 ?i_10 ?l_10 ?c_10 ?k_10 ?a_11 ?l_11 ?c_11 ?k_11 ?a_12 ?l_12 ?c_12 ?k_12 ?a_13 ?l_13 ?c_13 ?k_13 ?a_14 ?l_14 ?c_14 ?k_14 ?a_15 ?l_15 ?c_15 ?k_15 ?a_16 ?l_16 ?c_16 ?k_16 ?a_17 ?l_17 ?c_17 ?k_17 ?a_18 ?l_18 ?c_18 ?k_18 ?a_19 ?l_19 ?c_19 ?k_19 ?a_20 ?l_20 ?c_20 ?k_20 ?a_21 ?i_21 ?l_21 ?c_21 ?k_21 ?a_22 ?i_22 ?l_22 ?c_22 ?k_22 ?a_23 ?l_23 ?c_23 ?k_23 ?a_24 ?l_24 ?c_24 ?k_24 ?a_25 ?l_25 ?c_25 ?k_25 ?a_26 ?l_26 ?c_26 ?k_26 ?a_27 ?l_27 ?c_27 ?k_27 ?a_28 ?l_28 ?c_28 ?k_28 ?a_29 ?l_29 ?c_29 ?k_29 ?a_30 ?l_30 ?c_30 ?k_30 ?a_31 ?l_31 ?c_31 ?k_31 ?a_32 ?l_32 ?c_32 ?k_32 ?a_33 ?i_33 ?l_33 ?c_33 ?k_33 ?a_34 ?i_34 ?l_34 ?c_34 ?k_34 ?a_35 ?i_35 ?l_35 ?c_35 ?k_35 ?a_36 ?i_36 ?l_36 ?c_36 ?k_36 ?a_37 ?i_37 ?l_37 ?c_37 ?k_37 ?a_38 ?i_38 ?l_38 ?c_38 ?k_38 ?a_39 ?l_39 ?c_39 ?k_39 ?a_40 ?i_40 ?l_40 ?c_40 ?k_40 ?a_41 ?l_41 ?c_41 ?k_41 ?a_42 ?l_42 ?c_42 ?k_42 ?a_43 ?i_43 ?l_43 ?c_43 ?k_43 ?a_44 ?l_44 ?c_44 ?k_44 ?a_45 ?l_45 ?c_45 ?k_45 ?a_46 ?l_46 ?c_46 ?k_46 ?a_47 ?l_47 ?c_47 ?k_47 ?a_48 ?l_48 ?c_48 ?k_48 ?a_49 ?l_49 ?c_49 ?k_49 ?a_50 ?l_50 ?c_50 ?k_50 ?a_51 ?i_51 ?l_51 ?c_51 ?k_51 ?a_52 ?l_52 ?c_52 ?k_52 ?a_53 ?i_53 ?l_53 ?c_53 ?k_53 ?a_54 ?i_54 ?l_54 ?t_Hall_belt ?c_54 ?k_54 ?a_55 ?i_55 ?l_55 ?c_55 ?k_55 ?a_56 ?i_56 ?l_56 ?c_56 ?k_56 ?a_57 ?l_57 ?c_57 ?k_57 ?pg_Course ?hd_Course ?po_Course ?sa_Course ?mk_Course ?kc_Course ?na_Course_turns ?na_Course_rows ?na_Course_takes ?na_Course_gives ?na_Course_touched ?pg_Hall ?hd_Hall ?po_Hall ?sa_Hall ?mk_Hall ?kc_Hall ?na_Hall_numbers ?na_Hall_rows ?gx_NoName ?ex_NoName ?gx_Twice ?ex_Twice ?gx_TooMuch ?ex_TooMuch ?gx_NoWork ?ex_NoWork ?gx_NoBelt ?ex_NoBelt ?gx_NoRate ?ex_NoRate ?gx_NotBalanced ?ex_NotBalanced ?gx_TooLong ?ex_TooLong ?c_MOST_TURNS ?c_MOST_LETTERS ?c_MOST_WORKS ?c_MOST_BELTS ?z_all ?z_bool ?z_enumerate ?z_int ?z_isinstance ?z_len ?z_list ?z_min ?z_range ?z_reversed ?z_set ?z_sorted ?z_str ?z_sum ?z_tuple
  (case a_Course=>k_is)
  (case a_Hall=>k_is)
  (case a_0=>show _=_;k_is)
  (case l_0=>show _=_;k_is)
  (case c_0=>show _=_;k_is)
  (case k_0=>show _=_;k_is)
  (case a_1=>show _=_;k_is)
  (case l_1=>show _=_;k_is)
  (case c_1=>show _=_;k_is)
  (case k_1=>show _=_;k_is)
  (case a_2=>show _=_;k_is)
  (case l_2=>show _=_;k_is)
  (case c_2=>show _=_;k_is)
  (case k_2=>show _=_;k_is)
  (case a_3=>show _=_;k_is)
  (case l_3=>show _=_;k_is)
  (case c_3=>show _=_;k_is)
  (case k_3=>show _=_;k_is)
  (case a_4=>show _=_;k_is)
  (case l_4=>show _=_;k_is)
  (case c_4=>show _=_;k_is)
  (case k_4=>show _=_;k_is)
  (case a_5=>show _=_;k_is)
  (case l_5=>show _=_;k_is)
  (case c_5=>show _=_;k_is)
  (case k_5=>show _=_;k_is)
  (case a_6=>show _=_;k_is)
  (case l_6=>show _=_;k_is)
  (case c_6=>show _=_;k_is)
  (case k_6=>show _=_;k_is)
  (case a_7=>show _=_;k_is)
  (case l_7=>show _=_;k_is)
  (case c_7=>show _=_;k_is)
  (case k_7=>show _=_;k_is)
  (case a_8=>show _=_;k_is)
  (case i_8=>show _=_;k_is)
  (case l_8=>show _=_;k_is)
  (case c_8=>show _=_;k_is)
  (case k_8=>show _=_;k_is)
  (case a_9=>show _=_;k_is)
  (case l_9=>show _=_;k_is)
  (case c_9=>show _=_;k_is)
  (case k_9=>show _=_;k_is)
  (case a_10=>show _=_;k_is)
  (case i_10=>show _=_;k_is)
  (case l_10=>show _=_;k_is)
  (case c_10=>show _=_;k_is)
  (case k_10=>show _=_;k_is)
  (case a_11=>show _=_;k_is)
  (case l_11=>show _=_;k_is)
  (case c_11=>show _=_;k_is)
  (case k_11=>show _=_;k_is)
  (case a_12=>show _=_;k_is)
  (case l_12=>show _=_;k_is)
  (case c_12=>show _=_;k_is)
  (case k_12=>show _=_;k_is)
  (case a_13=>show _=_;k_is)
  (case l_13=>show _=_;k_is)
  (case c_13=>show _=_;k_is)
  (case k_13=>show _=_;k_is)
  (case a_14=>show _=_;k_is)
  (case l_14=>show _=_;k_is)
  (case c_14=>show _=_;k_is)
  (case k_14=>show _=_;k_is)
  (case a_15=>show _=_;k_is)
  (case l_15=>show _=_;k_is)
  (case c_15=>show _=_;k_is)
  (case k_15=>show _=_;k_is)
  (case a_16=>show _=_;k_is)
  (case l_16=>show _=_;k_is)
  (case c_16=>show _=_;k_is)
  (case k_16=>show _=_;k_is)
  (case a_17=>show _=_;k_is)
  (case l_17=>show _=_;k_is)
  (case c_17=>show _=_;k_is)
  (case k_17=>show _=_;k_is)
  (case a_18=>show _=_;k_is)
  (case l_18=>show _=_;k_is)
  (case c_18=>show _=_;k_is)
  (case k_18=>show _=_;k_is)
  (case a_19=>show _=_;k_is)
  (case l_19=>show _=_;k_is)
  (case c_19=>show _=_;k_is)
  (case k_19=>show _=_;k_is)
  (case a_20=>show _=_;k_is)
  (case l_20=>show _=_;k_is)
  (case c_20=>show _=_;k_is)
  (case k_20=>show _=_;k_is)
  (case a_21=>show _=_;k_is)
  (case i_21=>show _=_;k_is)
  (case l_21=>show _=_;k_is)
  (case c_21=>show _=_;k_is)
  (case k_21=>show _=_;k_is)
  (case a_22=>show _=_;k_is)
  (case i_22=>show _=_;k_is)
  (case l_22=>show _=_;k_is)
  (case c_22=>show _=_;k_is)
  (case k_22=>show _=_;k_is)
  (case a_23=>show _=_;k_is)
  (case l_23=>show _=_;k_is)
  (case c_23=>show _=_;k_is)
  (case k_23=>show _=_;k_is)
  (case a_24=>show _=_;k_is)
  (case l_24=>show _=_;k_is)
  (case c_24=>show _=_;k_is)
  (case k_24=>show _=_;k_is)
  (case a_25=>show _=_;k_is)
  (case l_25=>show _=_;k_is)
  (case c_25=>show _=_;k_is)
  (case k_25=>show _=_;k_is)
  (case a_26=>show _=_;k_is)
  (case l_26=>show _=_;k_is)
  (case c_26=>show _=_;k_is)
  (case k_26=>show _=_;k_is)
  (case a_27=>show _=_;k_is)
  (case l_27=>show _=_;k_is)
  (case c_27=>show _=_;k_is)
  (case k_27=>show _=_;k_is)
  (case a_28=>show _=_;k_is)
  (case l_28=>show _=_;k_is)
  (case c_28=>show _=_;k_is)
  (case k_28=>show _=_;k_is)
  (case a_29=>show _=_;k_is)
  (case l_29=>show _=_;k_is)
  (case c_29=>show _=_;k_is)
  (case k_29=>show _=_;k_is)
  (case a_30=>show _=_;k_is)
  (case l_30=>show _=_;k_is)
  (case c_30=>show _=_;k_is)
  (case k_30=>show _=_;k_is)
  (case a_31=>show _=_;k_is)
  (case l_31=>show _=_;k_is)
  (case c_31=>show _=_;k_is)
  (case k_31=>show _=_;k_is)
  (case a_32=>show _=_;k_is)
  (case l_32=>show _=_;k_is)
  (case c_32=>show _=_;k_is)
  (case k_32=>show _=_;k_is)
  (case a_33=>show _=_;k_is)
  (case i_33=>show _=_;k_is)
  (case l_33=>show _=_;k_is)
  (case c_33=>show _=_;k_is)
  (case k_33=>show _=_;k_is)
  (case a_34=>show _=_;k_is)
  (case i_34=>show _=_;k_is)
  (case l_34=>show _=_;k_is)
  (case c_34=>show _=_;k_is)
  (case k_34=>show _=_;k_is)
  (case a_35=>show _=_;k_is)
  (case i_35=>show _=_;k_is)
  (case l_35=>show _=_;k_is)
  (case c_35=>show _=_;k_is)
  (case k_35=>show _=_;k_is)
  (case a_36=>show _=_;k_is)
  (case i_36=>show _=_;k_is)
  (case l_36=>show _=_;k_is)
  (case c_36=>show _=_;k_is)
  (case k_36=>show _=_;k_is)
  (case a_37=>show _=_;k_is)
  (case i_37=>show _=_;k_is)
  (case l_37=>show _=_;k_is)
  (case c_37=>show _=_;k_is)
  (case k_37=>show _=_;k_is)
  (case a_38=>show _=_;k_is)
  (case i_38=>show _=_;k_is)
  (case l_38=>show _=_;k_is)
  (case c_38=>show _=_;k_is)
  (case k_38=>show _=_;k_is)
  (case a_39=>show _=_;k_is)
  (case l_39=>show _=_;k_is)
  (case c_39=>show _=_;k_is)
  (case k_39=>show _=_;k_is)
  (case a_40=>show _=_;k_is)
  (case i_40=>show _=_;k_is)
  (case l_40=>show _=_;k_is)
  (case c_40=>show _=_;k_is)
  (case k_40=>show _=_;k_is)
  (case a_41=>show _=_;k_is)
  (case l_41=>show _=_;k_is)
  (case c_41=>show _=_;k_is)
  (case k_41=>show _=_;k_is)
  (case a_42=>show _=_;k_is)
  (case l_42=>show _=_;k_is)
  (case c_42=>show _=_;k_is)
  (case k_42=>show _=_;k_is)
  (case a_43=>show _=_;k_is)
  (case i_43=>show _=_;k_is)
  (case l_43=>show _=_;k_is)
  (case c_43=>show _=_;k_is)
  (case k_43=>show _=_;k_is)
  (case a_44=>show _=_;k_is)
  (case l_44=>show _=_;k_is)
  (case c_44=>show _=_;k_is)
  (case k_44=>show _=_;k_is)
  (case a_45=>show _=_;k_is)
  (case l_45=>show _=_;k_is)
  (case c_45=>show _=_;k_is)
  (case k_45=>show _=_;k_is)
  (case a_46=>show _=_;k_is)
  (case l_46=>show _=_;k_is)
  (case c_46=>show _=_;k_is)
  (case k_46=>show _=_;k_is)
  (case a_47=>show _=_;k_is)
  (case l_47=>show _=_;k_is)
  (case c_47=>show _=_;k_is)
  (case k_47=>show _=_;k_is)
  (case a_48=>show _=_;k_is)
  (case l_48=>show _=_;k_is)
  (case c_48=>show _=_;k_is)
  (case k_48=>show _=_;k_is)
  (case a_49=>show _=_;k_is)
  (case l_49=>show _=_;k_is)
  (case c_49=>show _=_;k_is)
  (case k_49=>show _=_;k_is)
  (case a_50=>show _=_;k_is)
  (case l_50=>show _=_;k_is)
  (case c_50=>show _=_;k_is)
  (case k_50=>show _=_;k_is)
  (case a_51=>show _=_;k_is)
  (case i_51=>show _=_;k_is)
  (case l_51=>show _=_;k_is)
  (case c_51=>show _=_;k_is)
  (case k_51=>show _=_;k_is)
  (case a_52=>show _=_;k_is)
  (case l_52=>show _=_;k_is)
  (case c_52=>show _=_;k_is)
  (case k_52=>show _=_;k_is)
  (case a_53=>show _=_;k_is)
  (case i_53=>show _=_;k_is)
  (case l_53=>show _=_;k_is)
  (case c_53=>show _=_;k_is)
  (case k_53=>show _=_;k_is)
  (case a_54=>show _=_;k_is)
  (case i_54=>show _=_;k_is)
  (case l_54=>show _=_;k_is)
  (case t_Hall_belt=>k_is)
  (case c_54=>show _=_;k_is)
  (case k_54=>show _=_;k_is)
  (case a_55=>show _=_;k_is)
  (case i_55=>show _=_;k_is)
  (case l_55=>show _=_;k_is)
  (case c_55=>show _=_;k_is)
  (case k_55=>show _=_;k_is)
  (case a_56=>show _=_;k_is)
  (case i_56=>show _=_;k_is)
  (case l_56=>show _=_;k_is)
  (case c_56=>show _=_;k_is)
  (case k_56=>show _=_;k_is)
  (case a_57=>show _=_;k_is)
  (case l_57=>show _=_;k_is)
  (case c_57=>show _=_;k_is)
  (case k_57=>show _=_;k_is)
  (case pg_Course=>k_is)
  (case hd_Course=>k_is)
  (case po_Course=>k_is)
  (case sa_Course=>k_is)
  (case mk_Course=>k_is)
  (case kc_Course=>k_is)
  (case na_Course_turns=>k_is)
  (case na_Course_rows=>k_is)
  (case na_Course_takes=>k_is)
  (case na_Course_gives=>k_is)
  (case na_Course_touched=>k_is)
  (case pg_Hall=>k_is)
  (case hd_Hall=>k_is)
  (case po_Hall=>k_is)
  (case sa_Hall=>k_is)
  (case mk_Hall=>k_is)
  (case kc_Hall=>k_is)
  (case na_Hall_numbers=>k_is)
  (case na_Hall_rows=>k_is)
  (case gx_NoName=>k_is)
  (case ex_NoName=>k_exc)
  (case gx_Twice=>k_is)
  (case ex_Twice=>k_exc)
  (case gx_TooMuch=>k_is)
  (case ex_TooMuch=>k_exc)
  (case gx_NoWork=>k_is)
  (case ex_NoWork=>k_exc)
  (case gx_NoBelt=>k_is)
  (case ex_NoBelt=>k_exc)
  (case gx_NoRate=>k_is)
  (case ex_NoRate=>k_exc)
  (case gx_NotBalanced=>k_is)
  (case ex_NotBalanced=>k_exc)
  (case gx_TooLong=>k_is)
  (case ex_TooLong=>k_exc)
  (case c_MOST_TURNS=>k_is)
  (case c_MOST_LETTERS=>k_is)
  (case c_MOST_WORKS=>k_is)
  (case c_MOST_BELTS=>k_is)
  (case z_all=>k_is)
  (case z_bool=>k_is)
  (case z_enumerate=>k_is)
  (case z_int=>k_is)
  (case z_isinstance=>k_is)
  (case z_len=>k_is)
  (case z_list=>k_is)
  (case z_min=>k_is)
  (case z_range=>k_is)
  (case z_reversed=>k_is)
  (case z_set=>k_is)
  (case z_sorted=>k_is)
  (case z_str=>k_is)
  (case z_sum=>k_is)
  (case z_tuple=>k_is)
#print axioms PySem.Challenge.cw_ratehall_k13_stop_walked_holds
