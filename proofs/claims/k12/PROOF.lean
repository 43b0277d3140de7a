import PyProof.Rows.All
import Wide.All
import OpenK.AllK
import Wide.FinOn
import Lean
import PyProof.EqAt
import PyProof.EqKinds
import PyProof.TupleCall
import PyProof.FactsAll.set
import PySem.Challenge.RW_ratehall_k12_round_walked
set_option maxHeartbeats 4000000
set_option compiler.extract_closed false
set_option bootstrap.genMatcherCode false
set_option Elab.async false
set_option linter.all false
set_option maxRecDepth 100000
namespace L2
open PySem PySem.Spec PyProof.Rows
noncomputable abbrev Key:=Sum Int Str
noncomputable def Zcq:Key→Value→Bool
 | .inl k,v=>Value.isInt k v
 | .inr x,v=>Value.isStrOf x v
noncomputable def Zm5 (w:World):Key→Int
 | .inl k=>hashInt k
 | .inr x=>hashStr w x
theorem YI:∀{k:Key}{v:Value},Zcq k v=true→(∃i t,k=Sum.inl i∧v=Value.int i t)∨(∃x t,k=Sum.inr x∧v=Value.str x t)
 | .inl i,v,h=>by
  obtain⟨t,e⟩:=Value.isInt_shape (k:=i) (v:=v) h;exact .inl ⟨i,t,rfl,e⟩
 | .inr x,v,h=>by
  obtain⟨t,e⟩:=Value.isStrOf_shape (x:=x) (v:=v) h;exact .inr ⟨x,t,rfl,e⟩
theorem Zh9(i:Int)(t:Tok):Zcq (.inl i) (.int i t)=true:=by simp[Zcq,Value.isInt]
theorem Zh0(x:Str)(t:Tok):Zcq (.inr x) (.str x t)=true:=by simp[Zcq,Value.isStrOf]
theorem ZlC(a b:Int):decide ((Sum.inl a:Key)=Sum.inl b)=(a==b):=by
 by_cases e:a=b
 ·subst e;simp
 ·have h:¬(Sum.inl a:Key)=Sum.inl b:=fun q=>e (Sum.inl.inj q);rw[decide_eq_false h];exact(beq_eq_false_iff_ne.mpr e).symm
theorem ZlQ(a b:Str):decide ((Sum.inr a:Key)=Sum.inr b)=decide (a=b):=by
 by_cases e:a=b
 ·subst e;simp
 ·have h:¬(Sum.inr a:Key)=Sum.inr b:=fun q=>e (Sum.inr.inj q);rw[decide_eq_false h,decide_eq_false e]
theorem ZlD(a:Int)(b:Str):decide ((Sum.inl a:Key)=Sum.inr b)=false:=decide_eq_false (fun q=>nomatch q)
theorem Zl0(a:Str)(b:Int):decide ((Sum.inr a:Key)=Sum.inl b)=false:=decide_eq_false (fun q=>nomatch q)
noncomputable def ZP (prog:Program) (w:World):PySem.KeyKind prog w Key where
 is:=Zcq
 hash:=Zm5 w
 inj:=fun v a b ha hb=>by
  rcases YI ha with⟨i,t,rfl,rfl⟩|⟨x,t,rfl,rfl⟩
  ·rcases YI hb with⟨j,u,rfl,e⟩|⟨y,u,rfl,e⟩
   ·injection e with e1 _;rw[e1]
   ·exact nomatch e
  ·rcases YI hb with⟨j,u,rfl,e⟩|⟨y,u,rfl,e⟩
   ·exact nomatch e
   ·injection e with e1 _;rw[e1]
 byValue:=fun k v h=>by
  rcases YI h with⟨i,t,rfl,rfl⟩|⟨x,t,rfl,rfl⟩<;>rfl
 pyHash:=fun hv h=>by
  rcases YI hv with⟨i,t,rfl,rfl⟩|⟨x,t,rfl,rfl⟩
  ·exact wpAny_pyHash_int h
  ·exact wpAny_pyHash_str h
 eqBool:=fun hu hv h=>by
  rcases YI hu with⟨i,t,rfl,rfl⟩|⟨x,t,rfl,rfl⟩
  ·rcases YI hv with⟨j,u,rfl,rfl⟩|⟨y,u,rfl,rfl⟩
   ·rw[ZlC] at h;exact wpAny_eqBool_int h
   ·rw[ZlD] at h;exact SeqAt.EqAt.int_str i t y u _ _ _ _ h
  ·rcases YI hv with⟨j,u,rfl,rfl⟩|⟨y,u,rfl,rfl⟩
   ·rw[Zl0] at h;exact SeqAt.EqAt.str_int x t j u _ _ _ _ h
   ·rw[ZlQ] at h;exact wpAny_eqBool_str h
 «strs»:=fun k x t v h=>by
  rcases YI h with⟨i,u,rfl,e⟩|⟨y,u,rfl,e⟩
  ·exact nomatch e
  ·injection e with e1 _
   subst e1;cases v<;>rfl
theorem Zge(prog:Program)(w:World)(i:Int)(t:Tok):(ZP prog w).is (.inl i) (.int i t)=true:=Zh9 i t
theorem Zgv(prog:Program)(w:World)(x:Str)(t:Tok):(ZP prog w).is (.inr x) (.str x t)=true:=Zh0 x t
end L2
namespace L2
open PySem PySem.Spec PyProof.Rows
inductive V where
 |non|bl (b:Bool)|int (i:Int)|str (x:Str)|byt (b:Array UInt8)|flt (b:UInt64)|ref (a:Addr)|ty (n:String)
 deriving DecidableEq
noncomputable def ZG:V→Value→Prop
 | .non,u=>u=Value.none
 | .bl b,u=>u=Value.bool b
 | .int i,u=>∃t,u=Value.int i t
 | .str x,u=>∃t,u=Value.str x t
 | .byt b,u=>∃t,u=Value.bytes b t
 | .flt b,u=>∃t,u=Value.float b t
 | .ref a,u=>u=Value.ref a
 | .ty n,u=>u=Value.type n
noncomputable abbrev ZF:List V→List Value→Prop:=Paired ZG
theorem ZF.length{xs:List V}{us:List Value}(r:ZF xs us):xs.length=us.length:=Paired.length r
theorem ZF.get:∀{xs:List V}{us:List Value}{i:Nat}{x:V},ZF xs us→xs[i]? =some x→∃u,us[i]? =some u∧ZG x u
 |_,_,_,_,.nil,e=>by simp at e
 |_,_,0,_,.cons r _,e=>by simp at e;subst e;exact⟨_,rfl,r⟩
 |_,_,i+1,x,.cons _ t,e=>by
  obtain⟨u,h1,h2⟩:=ZF.get (i:=i) (x:=x) t (by simpa using e);exact⟨u,by simpa using h1,h2⟩
theorem ZF.set{x:V}{u:Value}(r:ZG x u):∀{xs:List V}{us:List Value}(i:Nat),ZF xs us→ZF (xs.set i x) (us.set i u)
 |_,_,_,.nil=> .nil
 |_,_,0,.cons _ t=> .cons r t
 |_,_,i+1,.cons q t=> .cons q (ZF.set r i t)
theorem ZF.append:∀{xs ys:List V}{us ws:List Value},ZF xs us→ZF ys ws→ZF (xs++ys) (us++ws)
 |_,_,_,_,.nil,s=>s
 |_,_,_,_,.cons r t,s=> .cons r (ZF.append t s)
theorem ZF.take:∀{xs:List V}{us:List Value}(n:Nat),ZF xs us→ZF (xs.take n) (us.take n)
 |_,_,0,_=> .nil
 |_,_,_+1,.nil=> .nil
 |_,_,n+1,.cons r t=> .cons r (ZF.take n t)
theorem ZF.drop:∀{xs:List V}{us:List Value}(n:Nat),ZF xs us→ZF (xs.drop n) (us.drop n)
 |_,_,0,r=>r
 |_,_,_+1,.nil=> .nil
 |_,_,n+1,.cons _ t=>ZF.drop n t
noncomputable def W1:Option V→Option Value→Prop
 |some v,some u=>ZG v u
 |none,none=>True
 |_,_=>False
noncomputable def KV {κ:Type}:List (κ×V)→List (κ×Value)→Prop:=Paired fun(p:κ×V) (q:κ×Value)=>p.1=q.1∧ZG p.2 q.2
noncomputable def kV:Key→V
 | .inl i=> .int i
 | .inr x=> .str x
inductive HO where
 |lst (xs:List V)
 |tup (xs:List V)
 |dK (kvs:List (Key×V))|dT (kvs:List (List Key×V))
 |set (S:Int→Bool) (n:Nat)
 |ins (C dx:Addr) (fs:List (Str×V))
 |own (x:Addr)
 |xd (fs:List (Str×V))
 |met (f x:Addr)
 |rng (lo hi:Int)
 |frz (o:Obj) (u:HO)
 |tbl (ps:Array Value)
 |ext (φ:Heap→Prop)
noncomputable abbrev Hp:=Addr→Option HO
noncomputable def upd (H:Hp) (a:Addr) (o:HO):Hp:=fun b=>if b=a then some o else H b
theorem Ze{H:Hp}{a:Addr}{o:HO}:upd H a o a=some o:=by unfold upd;rw[if_pos rfl]
theorem Zg{H:Hp}{a b:Addr}{o:HO}(h:b≠a):upd H a o b=H b:=by unfold upd;rw[if_neg h]
theorem Yw{H:Hp}{a b:Addr}{o u:HO}(h:H a=some o)(h':H b=some u)(d:o≠u):a≠b:=by
 intro e;subst e;rw[h] at h';exact d (Option.some.inj h')
theorem Zm{H:Hp}{a b:Addr}{o:HO}(h:H a=some o)(h':H b=none):a≠b:=by
 intro e;subst e;rw[h] at h';cases h'
section
variable (P:Program)(w:World)
noncomputable def Z2 (H:Hp) (h:Heap) (a:Addr):HO→Prop
 | .lst xs=>xs.length≤sizeLine∧∃(its:List Value)(n:Nat),ZF xs its∧h.get? a=some {cls:= .type "list",data:= .seq its.toArray n}
 | .tup xs=>xs.length≤sizeLine∧∃its:List Value,ZF xs its∧IsTup h a its.toArray
 | .dK kvs=>kvs.length≤sizeLine∧(a==sysModules)=false∧∃vs,KV kvs vs∧h.DictOf (ZP P w) a vs
 | .dT kvs=>kvs.length≤sizeLine∧(a==sysModules)=false∧∃xs:List (List Key×Addr×Value),
   Paired (fun(p:List Key×V) (q:List Key×Addr×Value)=>p.1=q.1∧H q.2.1=some (.tup (p.1.map kV))∧ZG p.2 q.2.2) kvs xs∧
   ∃o es ep,h.get? a=some o∧o.ExactDict∧o.data= .dict es ep∧es.toList=xs.map (entryOfKey (tupleKind (ZP P w)))∧(xs.map (·.1)).Nodup
 | .set S n=>h.SetOf (intKind P w) a S n
 | .ins C dx fs=>H dx=some (.own a)∧fs.length≤1000∧dx≠a∧h.get? a=some (PySem.W.instObj C dx)∧
   ∃mA,h.Ns1 dx mA∧(∀f,W1 (fs.lookup f) (mA f))∧PySem.Within mA (fs.map (·.1))
 | .own _=>∃o,h.get? a=some o
 | .xd fs=>∃mA,h.Ns1 a mA∧∀f,W1 (fs.lookup f) (mA f)
 | .rng lo hi=>∃t u v,h.get? a=some {cls:= .type "range",data:= .fields #[.int lo t,.int hi u,.int 1 v]}
 | .frz o u=>h.get? a=some o∧Z2 H h a u
 | .tbl ps=>h.get? a=some {cls:= .none,data:= .fields ps}
 | .met f x=>h.get? a=some (PySem.W.methodObj (.ref f) (.ref x))
 | .ext φ=>φ h∧(∃o,h.get? a=some o)∧∀h1 h2:Heap,φ h1→(∀o,h1.get? a=some o→h2.get? a=some o)→φ h2
def HOk(H:Hp)(h:Heap):Prop:=∀a o,H a=some o→Z2 P w H h a o
end
section
variable {P:Program}{w:World}{H H':Hp}{h h':Heap}{a:Addr}{o:HO}
theorem Z2.lt(x:Z2 P w H h a o):a<h.objs.size:=by
 cases o with
 |lst xs=>obtain⟨_,_,_,_,e⟩:=x;exact Heap.lt_size e
 |tup xs=>obtain⟨_,_,_,p⟩:=x;exact p.lt
 |dK kvs=>obtain⟨_,_,_,_,o,_,_,e,_⟩:=x;exact Heap.lt_size e
 |dT kvs=>obtain⟨_,_,_,_,o,_,_,e,_⟩:=x;exact Heap.lt_size e
 |set S n=>obtain⟨o,_,_,_,e,_⟩:=x;exact Heap.lt_size e
 |ins C dx fs=>obtain⟨_,_,_,e,_⟩:=x;exact Heap.lt_size e
 |own y=>obtain⟨_,e⟩:=x;exact Heap.lt_size e
 |xd fs=>obtain⟨_,⟨_,_,_,e,_⟩,_⟩:=x;exact Heap.lt_size e
 |rng lo hi=>obtain⟨_,_,_,e⟩:=x;exact Heap.lt_size e
 |frz ob u=>obtain⟨e,_⟩:=x;exact Heap.lt_size e
 |tbl ps=>exact Heap.lt_size (show h.get? a=some _ from x)
 |met f y=>exact Heap.lt_size (show h.get? a=some _ from x)
 |ext φ=>obtain⟨_,⟨_,e⟩,_⟩:=x;exact Heap.lt_size e
theorem Paired.mapP{α β:Type}{F G:α→β→Prop}:∀{l₁:List α}{l₂:List β},Paired F l₁ l₂→(∀a b,F a b→G a b)→Paired G l₁ l₂
 |_,_,.nil,_=> .nil
 |_,_,.cons r t,f=> .cons (f _ _ r) (Paired.mapP t f)
theorem Z2.stay(x:Z2 P w H h a o)(k:∀b u,(b=a∨H b=some (.own a))→h.get? b=some u→h'.get? b=some u)
  (ho:∀b,H b=some (.own a)→H' b=some (.own a)) (ht:∀b xs,H b=some (.tup xs)→H' b=some (.tup xs)):Z2 P w H' h' a o:=by
 induction o with
 |lst xs=>obtain⟨z,its,n,r,e⟩:=x;exact⟨z,its,n,r,k _ _ (.inl rfl) e⟩
 |tup xs=>obtain⟨z,its,r,ob,e,c⟩:=x;exact⟨z,its,r,ob,k _ _ (.inl rfl) e,c⟩
 |dK kvs=>obtain⟨z,y,vs,r,ob,es,ep,e,c⟩:=x;exact⟨z,y,vs,r,ob,es,ep,k _ _ (.inl rfl) e,c⟩
 |dT kvs=>
  obtain⟨z,y,xs,r,ob,es,ep,e,c⟩:=x;exact⟨z,y,xs,Paired.mapP r fun p q z=>⟨z.1,ht _ _ z.2.1,z.2.2⟩,ob,es,ep,k _ _ (.inl rfl) e,c⟩
 |set S n=>obtain⟨ob,es,ep,t,e,c⟩:=x;exact⟨ob,es,ep,t,k _ _ (.inl rfl) e,c⟩
 |ins C dx fs=>
  obtain⟨d,z,ne,e,mA,⟨od,es,ep,e2,c⟩,r⟩:=x;exact⟨ho _ d,z,ne,k _ _ (.inl rfl) e,mA,⟨od,es,ep,k _ _ (.inr d) e2,c⟩,r⟩
 |own y=>obtain⟨ob,e⟩:=x;exact⟨ob,k _ _ (.inl rfl) e⟩
 |xd fs=>obtain⟨mA,⟨od,es,ep,e,c⟩,r⟩:=x;exact⟨mA,⟨od,es,ep,k _ _ (.inl rfl) e,c⟩,r⟩
 |rng lo hi=>obtain⟨t,u,v,e⟩:=x;exact⟨t,u,v,k _ _ (.inl rfl) e⟩
 |frz ob u ih=>obtain⟨e,q⟩:=x;exact⟨k _ _ (.inl rfl) e,ih q⟩
 |tbl ps=>
  have e:h.get? a=some {cls:= .none,data:= .fields ps}:=x;show h'.get? a=some {cls:= .none,data:= .fields ps};exact k a _ (.inl rfl) e
 |met f y=>
  have e:h.get? a=some (PySem.W.methodObj (.ref f) (.ref y)):=x;show h'.get? a=some (PySem.W.methodObj (.ref f) (.ref y));exact k a _ (.inl rfl) e
 |ext φ=>obtain⟨p,⟨o,e⟩,st⟩:=x;exact⟨st _ _ p fun o q=>k _ _ (.inl rfl) q,⟨o,k _ _ (.inl rfl) e⟩,st⟩
theorem HOk.lt(x:HOk P w H h)(e:H a=some o):a<h.objs.size:=(x a o e).lt
theorem HOk.fresh(x:HOk P w H h)(e:h.objs.size≤a):H a=none:=by
 cases q:H a with
 |none=>rfl
 |some u=>exact absurd (Nat.lt_of_lt_of_le (x.lt q) e) (Nat.lt_irrefl _)
theorem HOk.kept(x:HOk P w H h)(k:∀b u,h.get? b=some u→h'.get? b=some u):HOk P w H h':=fun a o e=>
 (x a o e).stay (fun b u _ q=>k b u q) (fun _ q=>q) fun _ _ q=>q
theorem HOk.laid(x:HOk P w H h)(k:∀b u,h.get? b=some u→h'.get? b=some u)(hp:h.objs.size≤a)(new:Z2 P w (upd H a o) h' a o):HOk P w (upd H a o) h':=fun b u e=>by
 have hn:=x.fresh hp
 by_cases hb:b=a
 ·subst hb;rw[Ze] at e;cases e;exact new
 ·rw[Zg hb] at e;exact(x b u e).stay (fun c v _ q=>k c v q) (fun c q=>by rw[Zg (Zm q hn)];exact q) fun c xs q=>by rw[Zg (Zm q hn)];exact q
end
def Rd(H:Hp)(a:Addr)(u:HO):Prop:=H a=some u∨∃o,H a=some (.frz o u)
theorem Rd.ok{P:Program}{w:World}{H:Hp}{h:Heap}{a:Addr}{u:HO}(r:Rd H a u)(x:HOk P w H h):Z2 P w H h a u:=by
 rcases r with r|⟨o,r⟩
 ·exact x a u r
 ·obtain⟨_,q⟩:=x a _ r;exact q
noncomputable def Mut:Option HO→Prop
 |some (.lst _)=>True
 |some (.dK _)=>True
 |some (.dT _)=>True
 |some (.set _ _)=>True
 |some (.ins _ _ _)=>True
 |some (.ext _)=>True
 |_=>False
section
variable {P:Program}{w:World}{H:Hp}{h h':Heap}{x e:Addr}{o':HO}
theorem HOk.write(ok:HOk P w H h)(mu:Mut (H x))(he:e=x∨H e=some (.own x))(k:∀b u,b≠e→h.get? b=some u→h'.get? b=some u)(heo:∃u,h'.get? e=some u)
  (new:Z2 P w (upd H x o') h' x o'):HOk P w (upd H x o') h':=fun b u q=>by
 have nown:∀c y,H c=some (.own y)→c≠x:=fun c y r z=>by subst z;rw[r] at mu;exact mu
 have ntup:∀c xs,H c=some (.tup xs)→c≠x:=fun c xs r z=>by subst z;rw[r] at mu;exact mu
 by_cases hb:b=x
 ·subst hb;rw[Ze] at q;cases q;exact new
 ·rw[Zg hb] at q
  by_cases hbe:b=e
  ·have q':H b=some (.own x):=by
    rcases he with z|z
    ·exact absurd (hbe.trans z) hb
    ·rw[hbe];exact z
   rw[q] at q';cases q';obtain⟨v,hv⟩:=heo;exact⟨v,by rw[hbe];exact hv⟩
  ·refine(ok b u q).stay (fun c v hc r=>k c v ?_ r) (fun c r=>by rw[Zg (nown c b r)];exact r) fun c xs r=>by rw[Zg (ntup c xs r)];exact r
   rcases hc with rfl|hc
   ·exact hbe
   ·rintro rfl;rcases he with z|z
    ·exact nown c b hc z
    ·rw[hc] at z;cases z;exact hb rfl
end
structure Un(fs ex:List Addr)(H H':Hp)(h h':Heap):Prop where
 keep:∀b o,h.get? b=some o→H b=none→b∉fs→b∉ex→h'.get? b=some o
 slot:∀b o,h.get? b=some o→H b=none→b∈fs→b∉ex→∃sl,h'.get? b=some {o with slots:=sl}
 free:∀b o,h.get? b=some o→H b=none→b∉ex→H' b=none
 there:∀b o,h.get? b=some o→b∉ex→∃o',h'.get? b=some o'
 tups:∀b xs,H b=some (.tup xs)→H' b=some (.tup xs)
 frzs:∀b o u,H b=some (.frz o u)→H' b=some (.frz o u)
 tbls:∀b ps,H b=some (.tbl ps)→∃more,H' b=some (.tbl (ps++more))
section
variable {fs fs' ex ex':List Addr}{H H1 H2:Hp}{h h1 h2 h':Heap}{a x e:Addr}{o:HO}
theorem Un.any(u:Un fs ex H H1 h h1){b:Addr}{ob:Obj}(q:h.get? b=some ob)(n:H b=none)(hx:b∉ex):∃sl,h1.get? b=some {ob with slots:=sl}:=by
 by_cases hb:b∈fs
 ·exact u.slot b ob q n hb hx
 ·exact⟨ob.slots,u.keep b ob q n hb hx⟩
theorem Un.kept(k:∀b u,h.get? b=some u→h'.get? b=some u):Un fs ex H H h h':=
 ⟨fun b ob q _ _ _=>k b ob q,fun b ob q _ _ _=>⟨ob.slots,k b ob q⟩,fun _ _ _ n _=>n,fun b ob q _=>⟨ob,k b ob q⟩,fun _ _ q=>q,fun _ _ _ q=>q,fun _ ps q=>⟨#[],by rw[q];simp⟩⟩
theorem Un.refl:Un fs ex H H h h:=Un.kept fun _ _ q=>q
theorem Un.laid(k:∀b u,h.get? b=some u→h'.get? b=some u)(hp:h.objs.size≤a)(hn:H a=none):Un fs ex H (upd H a o) h h' where
 keep:=fun b u q _ _ _=>k b u q
 slot:=fun b u q _ _ _=>⟨u.slots,k b u q⟩
 free:=fun b u q n _=>by rw[Zg (Nat.ne_of_lt (Nat.lt_of_lt_of_le (Heap.lt_size q) hp))];exact n
 there:=fun b u q _=>⟨u,k b u q⟩
 tups:=fun b xs q=>by rw[Zg (Zm q hn)];exact q
 frzs:=fun b u xs q=>by rw[Zg (Zm q hn)];exact q
 tbls:=fun b ps q=>⟨#[],by rw[Zg (Zm q hn),q];simp⟩
theorem Un.write(mu:Mut (H x))(he:e=x∨H e=some (.own x))(k:∀b u,b≠e→h.get? b=some u→h'.get? b=some u)(heo:∃u,h'.get? e=some u):Un fs ex H (upd H x o) h h':=by
 have hx:∀b,H b=none→b≠x:=fun b n z=>by subst z;rw[n] at mu;exact mu
 have hb:∀b,H b=none→b≠e:=fun b n z=>by
  subst z;rcases he with r|r
  ·exact hx b n r
  ·rw[n] at r;cases r
 have hm:∀b u,H b=some u→¬Mut (some u)→b≠x:=fun b u q nm z=>by subst z;rw[q] at mu;exact nm mu
 refine⟨fun b u q n _ _=>k b u (hb b n) q,fun b u q n _ _=>⟨u.slots,k b u (hb b n) q⟩,fun b u q n _=>by rw[Zg (hx b n)];exact n,fun b u q _=>?_,
  fun b xs q=>by rw[Zg (hm b _ q fun z=>z)];exact q,fun b u xs q=>by rw[Zg (hm b _ q fun z=>z)];exact q,fun b ps q=>⟨#[],by rw[Zg (hm b _ q fun z=>z),q];simp⟩⟩
 by_cases hbe:b=e
 ·subst hbe;exact heo
 ·exact⟨u,k b u hbe q⟩
end
noncomputable def trk (h:Heap) (H:Hp):List Addr:=(List.range h.objs.size).filter fun a=>(H a).isSome
noncomputable def Zbo (h:Heap) (H:Hp):Heap:=PySem.W.hideAll h (trk h H)
theorem ZiS(h:Heap)(H:Hp):(Zbo h H).objs.size=h.objs.size:=PySem.W.hideAll_size _ _
theorem Zi4{h:Heap}{H:Hp}{b:Addr}{o:Obj}(e:h.get? b=some o)(n:H b=none):(Zbo h H).get? b=some o:=
 PySem.W.hideAll_get _ e fun hm=>by
  have q:(H b).isSome=true:=(List.mem_filter.mp hm).2;rw[n] at q;simp at q
theorem ZkB{h:Heap}{H:Hp}{b:Addr}{o:Obj}(e:(Zbo h H).get? b=some o):h.get? b=some o∧H b=none:=by
 have e':h.get? b=some o:=PySem.W.of_hideAll (trk h H) e;refine⟨e',?_⟩;cases q:H b with
 |none=>rfl
 |some x=>
  have hm:b∈trk h H:=List.mem_filter.mpr ⟨List.mem_range.mpr (Heap.lt_size e'),by simp[q]⟩;have z:(Zbo h H).get? b=none:=PySem.W.hideAll_none (trk h H) hm;rw[z] at e;cases e
end L2
namespace L2
open PySem PySem.Spec PyProof.Rows
structure Mod(K:PySem.W.Frag)(mg:Str→Option Value)(base:Heap):Prop where
 kin:K.In base
 glob:base.Ns mainGlobals mg
 blt:∃mb,base.Ns builtinsNs mb∧∀x:Str,x≠"__name__" →mb x=bootBuiltins x
 nolimit:base.NoLimit
structure Cx where
 prog:Program
 w:World
 K:PySem.W.Frag
 mg:Str→Option Value
 base:Heap
 A:Around
 N:List Str
 s₀:Shared
 H₀:Hp
 env:Env
 outer:List Env
 stack:List Env
 ex:List Addr
 fn:Str→Bool
 calm:Bool
 pn:List (Addr×Obj)
 xe:Value→Shared→Prop
noncomputable def frs (l:List Env):List Addr:=l.filterMap (·.frame)
noncomputable abbrev Cx.fs (X:Cx):List Addr:=frs X.outer
def Vis(sc:Scope)(x:Str):Prop:=sc.names.lookup x=some .local∨sc.names.lookup x=some .cell∨sc.names.lookup x=some .free
def Loc(sc:Scope)(x:Str):Prop:=sc.names.lookup x=some .local∨sc.names.lookup x=some .cell
def ZmL(env:Env)(h:Heap)(m:Str→Option Value)(x:Str)(u:Value):Prop:=
 (env.kindOf x=some .local∧m x=some u)∨((env.kindOf x=some .cell∨env.kindOf x=some .free)∧∃c,env.cells.lookup x=some c∧h.IsCell c (some u))
structure Cx.Ok(X:Cx):Prop where
 mod:Mod X.K X.mg X.base
 kind:X.env.scope.kind= .function
 glob:X.env.globals=mainGlobals
 blt:X.env.builtins=builtinsNs
 above:X.s₀.heap.objs.size≤X.env.locals
 inj:∀x y c,X.env.cells.lookup x=some c→X.env.cells.lookup y=some c→x=y
 has:∀x,(X.env.kindOf x=some .cell∨X.env.kindOf x=some .free)→∃c,X.env.cells.lookup x=some c
 cab:∀x c,X.fn x=true→X.env.cells.lookup x=some c→X.s₀.heap.objs.size≤c
 hd:X.calm=true→X.A.handled=none
 frames:X.A.frames=some X.stack
 stk:X.stack=X.outer∨(X.stack=X.env::X.outer∧X.env.frame=some X.env.locals)
 exf:∀b∈X.ex,b≠X.env.locals∧∀x c,X.env.cells.lookup x=some c→c≠b
 bs:∀b o,X.base.get? b=some o→X.s₀.heap.get? b=some o∧X.H₀ b=none
 bsz:X.base.objs.size≤X.s₀.heap.objs.size
 noex:∀b o,X.base.get? b=some o→b∉X.ex
 exfs:∀b∈X.ex,b∉X.fs
 funs:X.s₀.heap.FunFrames X.base X.outer
 frf:∀b∈X.fs,X.H₀ b=none
structure Inv(X:Cx)(pins:List (Addr×Obj))(σ:List (Option V))(H:Hp)(s:Shared):Prop where
 ok:X.Ok
 os:s.os=X.s₀.os
 bare:AllBare s.gens
 base:Un X.fs X.ex X.H₀ H X.s₀.heap s.heap
 loc:∃m,s.heap.Ns X.env.locals m∧∀(i:Nat)(x:Str)(v:V),X.N[i]? =some x→σ[i]? =some (some v)→Vis X.env.scope x→∃u,ZG v u∧ZmL X.env s.heap m x u
 cell:∀x c,X.env.cells.lookup x=some c→∃v,s.heap.IsCell c v
 free:H X.env.locals=none
 freeC:∀x c,X.env.cells.lookup x=some c→H c=none
 pin:∀p∈X.pn++pins,s.heap.get? p.1=some p.2∧H p.1=none∧p.1≠X.env.locals∧p.1∉X.fs∧∀v,p.2.data≠ .cell v
 hok:HOk X.prog X.w H s.heap
 len:σ.length=X.N.length
section
variable {X:Cx}{pins:List (Addr×Obj)}{σ:List (Option V)}{H H':Hp}{s:Shared}{h':Heap}
theorem Cx.Ok.nofr(ok:X.Ok){b:Addr}{o:Obj}(e:X.base.get? b=some o):b∉X.fs:=fun hb=>by
 have:=(ok.funs.mem hb).1;rw[e] at this;cases this
theorem Inv.bs(I:Inv X pins σ H s):∀b o,X.base.get? b=some o→s.heap.get? b=some o∧H b=none:=fun b o e=>
 ⟨I.base.keep b o (I.ok.bs b o e).1 (I.ok.bs b o e).2 (I.ok.nofr e) (I.ok.noex b o e),I.base.free b o (I.ok.bs b o e).1 (I.ok.bs b o e).2 (I.ok.noex b o e)⟩
theorem Inv.bk(I:Inv X pins σ H s):∀b o,X.base.get? b=some o→s.heap.get? b=some o:=fun b o e=>(I.bs b o e).1
theorem Inv.mod(I:Inv X pins σ H s):Mod X.K X.mg X.base:=I.ok.mod
theorem Inv.kIn(I:Inv X pins σ H s):X.K.In s.heap:=I.ok.mod.kin.keeps I.bk
theorem Inv.lt(I:Inv X pins σ H s):X.env.locals<s.heap.objs.size:=let⟨_,hn,_⟩:=I.loc;hn.lt
theorem Inv.sz(I:Inv X pins σ H s):X.s₀.heap.objs.size≤s.heap.objs.size:=Nat.le_trans I.ok.above (Nat.le_of_lt I.lt)
theorem Inv.nofs(I:Inv X pins σ H s){a:Addr}(h:s.heap.objs.size≤a):a∉X.fs:=fun hb=>by
 obtain⟨_,o,ho,_⟩:=I.ok.funs.mem hb;exact absurd (Nat.lt_of_lt_of_le (Heap.lt_size ho) (Nat.le_trans I.sz h)) (Nat.lt_irrefl _)
theorem Inv.cne(I:Inv X pins σ H s):∀x c,X.env.cells.lookup x=some c→c≠X.env.locals:=fun x c e z=>by
 obtain⟨v,o,ho,hd⟩:=I.cell x c e;obtain⟨m,⟨o',es,ep,ho',hd',_⟩,_⟩:=I.loc;rw[z,ho'] at ho;cases ho;rw[hd'] at hd;cases hd
theorem Inv.funs(I:Inv X pins σ H s):s.heap.FunFrames X.base X.outer:=by
 have all:∀(l:List Env),(∀b∈frs l,b∈X.fs)→X.s₀.heap.FunFrames X.base l→s.heap.FunFrames X.base l:=by
  intro l
  induction l with
  |nil=>intro _ _;trivial
  |cons env r ih=>
   intro hs hl;obtain⟨hk,⟨L,o,hf,hn,ho,hd⟩,hr⟩:=hl;have hL:L∈X.fs:=hs L (by unfold frs;rw[List.filterMap_cons,hf];exact List.mem_cons_self);obtain⟨sl,e⟩:=I.base.slot L o ho (I.ok.frf L hL) hL fun z=>I.ok.exfs L z hL;exact⟨hk,⟨L,_,hf,hn,e,hd⟩,ih (fun b hb=>hs b (by unfold frs;rw[List.filterMap_cons,hf];exact List.mem_cons_of_mem _ hb)) hr⟩
 exact all X.outer (fun _ hb=>hb) I.ok.funs
theorem Inv.stack(I:Inv X pins σ H s):s.heap.FunFrames X.base X.stack:=by
 rcases I.ok.stk with e|⟨e,hf⟩
 ·rw[e];exact I.funs
 ·rw[e];obtain⟨m,hn,_⟩:=I.loc;refine .cons (by rw[I.ok.kind];decide) hf hn ?_ I.funs;exact Heap.get?_none_of_le (Nat.le_trans I.ok.bsz I.ok.above)
theorem Inv.stkSub(I:Inv X pins σ H s):∀b∈frs X.stack,b∈X.env.locals::X.fs:=fun b hb=>by
 rcases I.ok.stk with e|⟨e,hf⟩
 ·rw[e] at hb;exact List.mem_cons_of_mem _ hb
 ·rw[e] at hb;unfold frs at hb;rw[List.filterMap_cons,hf] at hb;exact hb
theorem Inv.stkFree(I:Inv X pins σ H s):∀b∈frs X.stack,H b=none:=fun b hb=>by
 rcases List.mem_cons.mp (I.stkSub b hb) with e|hb
 ·rw[e];exact I.free
 ·obtain⟨_,o,ho,_⟩:=I.ok.funs.mem hb;exact I.base.free b o ho (I.ok.frf b hb) fun z=>I.ok.exfs b z hb
theorem Inv.step{g':Array GenState}{t':Nat}{d':Drawn}{ch:List Addr}(I:Inv X pins σ H s)
  (hch:∀b∈ch,(b∈X.ex∨X.s₀.heap.objs.size≤b)∧b≠X.env.locals∧(∀x c,X.env.cells.lookup x=some c→c≠b)∧∀p∈X.pn++pins,p.1≠b)
  (keep:∀b o,b≠X.env.locals→b∉X.fs→b∉ch→s.heap.get? b=some o→H b=none→h'.get? b=some o)
  (slot:∀b o,b≠X.env.locals→b∈X.fs→b∉ch→s.heap.get? b=some o→H b=none→∃sl,h'.get? b=some {o with slots:=sl}) (free:∀b o,b∉ch→s.heap.get? b=some o→H b=none→H' b=none)
  (there:∀b o,b∉ch→s.heap.get? b=some o→∃o',h'.get? b=some o')
  (tups:∀b xs,H b=some (.tup xs)→H' b=some (.tup xs)) (frzs:∀b o u,H b=some (.frz o u)→H' b=some (.frz o u)) (tbls:∀b ps,H b=some (.tbl ps)→∃more,H' b=some (.tbl (ps++more)))
  (ns:∀m,s.heap.Ns X.env.locals m→h'.Ns X.env.locals m) (hok:HOk X.prog X.w H' h') (hg:AllBare g'):
  Inv X pins σ H' {s with heap:=h',gens:=g',drawn:=d',toks:=t'}:=by
 have neL:∀b o,X.s₀.heap.get? b=some o→b≠X.env.locals:=fun b o e=>Nat.ne_of_lt (Nat.lt_of_lt_of_le (Heap.lt_size e) I.ok.above);have neC:∀b o,X.s₀.heap.get? b=some o→b∉X.ex→b∉ch:=fun b o e hx hb=>by
  rcases(hch b hb).1 with z|z
  ·exact hx z
  ·exact absurd (Nat.lt_of_lt_of_le (Heap.lt_size e) z) (Nat.lt_irrefl _)
 have cellK:∀x c,X.env.cells.lookup x=some c→∀v,s.heap.IsCell c v→h'.IsCell c v:=fun x c e v ⟨o,ho,hd⟩=>by
  have nch:c∉ch:=fun z=>(hch c z).2.2.1 x c e rfl
  by_cases hc:c∈X.fs
  ·obtain⟨sl,q⟩:=slot c o (I.cne x c e) hc nch ho (I.freeC x c e);exact⟨_,q,hd⟩
  ·exact⟨o,keep c o (I.cne x c e) hc nch ho (I.freeC x c e),hd⟩
 refine⟨I.ok,I.os,hg,⟨fun b o e n hb hx=>?_,fun b o e n hb hx=>?_,fun b o e n hx=>?_,fun b o e hx=>?_,fun b xs e=>tups b xs (I.base.tups b xs e),fun b o xs e=>frzs b o xs (I.base.frzs b o xs e),fun b ps e=>?_⟩,?_,fun x c e=>?_,?_,fun x c e=>?_,fun p hp=>?_,hok,I.len⟩
 ·exact keep b o (neL b o e) hb (neC b o e hx) (I.base.keep b o e n hb hx) (I.base.free b o e n hx)
 ·obtain⟨sl,e1⟩:=I.base.slot b o e n hb hx;obtain⟨sl',e2⟩:=slot b _ (neL b o e) hb (neC b o e hx) e1 (I.base.free b o e n hx);exact⟨sl',e2⟩
 ·obtain⟨o',e1⟩:=I.base.there b o e hx;exact free b o' (neC b o e hx) e1 (I.base.free b o e n hx)
 ·obtain⟨o',e1⟩:=I.base.there b o e hx;exact there b o' (neC b o e hx) e1
 ·obtain⟨m1,e1⟩:=I.base.tbls b ps e;obtain⟨m2,e2⟩:=tbls b _ e1;exact⟨m1++m2,by rw[e2,Array.append_assoc]⟩
 ·obtain⟨m,hn,hl⟩:=I.loc;refine⟨m,ns m hn,fun i x v e1 e2 e3=>?_⟩;obtain⟨u,r,l⟩:=hl i x v e1 e2 e3;refine⟨u,r,?_⟩;rcases l with l|⟨k,c,e,z⟩
  ·exact .inl l
  ·exact .inr ⟨k,c,e,cellK x c e _ z⟩
 ·obtain⟨v,z⟩:=I.cell x c e;exact⟨v,cellK x c e v z⟩
 ·obtain⟨m,⟨o,_,_,ho,_⟩,_⟩:=I.loc;exact free _ o (fun z=>(hch _ z).2.1 rfl) ho I.free
 ·obtain⟨v,o,ho,hd⟩:=I.cell x c e;exact free c o (fun z=>(hch c z).2.2.1 x c e rfl) ho (I.freeC x c e)
 ·obtain⟨e,n,ne,nf,d⟩:=I.pin p hp;have nch:p.1∉ch:=fun z=>(hch p.1 z).2.2.2 p hp rfl;exact⟨keep p.1 p.2 ne nf nch e n,free p.1 p.2 nch e n,ne,nf,d⟩
theorem Inv.un{t':Nat}(I:Inv X pins σ H s)(u:Un X.fs [] H H' s.heap h')(hok:HOk X.prog X.w H' h'):Inv X pins σ H' {s with heap:=h',toks:=t'}:=by
 obtain⟨m,⟨o,es,ep,ho,r⟩,_⟩:=id I.loc;obtain⟨sl,hL⟩:=u.any ho I.free (by simp);exact I.step (g':=s.gens) (d':=s.drawn) (ch:=[]) (fun _ z=>nomatch z) (fun b o _ hb _ e n=>u.keep b o e n hb (by simp)) (fun b o _ hb _ e n=>u.slot b o e n hb (by simp)) (fun b o _ e n=>u.free b o e n (by simp)) (fun b o _ e=>u.there b o e (by simp)) u.tups u.frzs u.tbls (fun m' hm=>by
  obtain⟨o',es',ep',ho',r'⟩:=hm;rw[ho] at ho';cases ho';exact⟨_,es',ep',hL,r'⟩) hok I.bare
theorem Inv.call{g':Array GenState}{t':Nat}{d':Drawn}{ch:List Addr}(I:Inv X pins σ H s)(u:Un (frs X.stack) ch H H' s.heap h')(hok:HOk X.prog X.w H' h')(hg:AllBare g')
  (hch:∀b∈ch,(b∈X.ex∨X.s₀.heap.objs.size≤b)∧b≠X.env.locals∧(∀x c,X.env.cells.lookup x=some c→c≠b)∧∀p∈X.pn++pins,p.1≠b):
  Inv X pins σ H' {s with heap:=h',gens:=g',drawn:=d',toks:=t'}:=by
 obtain⟨m,⟨o,es,ep,ho,r⟩,_⟩:=id I.loc;obtain⟨sl,hL⟩:=u.any ho I.free fun z=>(hch _ z).2.1 rfl;exact I.step (ch:=ch) hch (fun b o hL hb hc e n=>u.keep b o e n (fun z=>(List.mem_cons.mp (I.stkSub b z)).elim hL hb) hc) (fun b o _ _ hc e n=>u.any e n hc) (fun b o hc e n=>u.free b o e n hc) (fun b o hc e=>u.there b o e hc) u.tups u.frzs u.tbls (fun m' hm=>by
  obtain⟨o',es',ep',ho',r'⟩:=hm;rw[ho] at ho';cases ho';exact⟨_,es',ep',hL,r'⟩) hok hg
theorem Inv.turned{t':Nat}{it:Addr}(I:Inv X pins σ H s)(k:∀b o,b≠it→s.heap.get? b=some o→h'.get? b=some o)(hn:H it=none)(hL:it≠X.env.locals)
  (h1:it∈X.ex∨X.s₀.heap.objs.size≤it) (h2:∀x c,X.env.cells.lookup x=some c→c≠it) (h3:∀p∈X.pn++pins,p.1≠it):Inv X pins σ H {s with heap:=h',toks:=t'}:=by
 have nit:∀b u,H b=some u→b≠it:=fun b u e z=>by rw[z,hn] at e;cases e
 refine I.step (g':=s.gens) (d':=s.drawn) (ch:=[it]) (fun b hb=>?_) (fun b o _ _ hc e _=>k b o (fun z=>hc (by simp[z])) e) (fun b o _ _ hc e _=>⟨o.slots,k b o (fun z=>hc (by simp[z])) e⟩) (fun _ _ _ _ n=>n)
  (fun b o hc e=>⟨o,k b o (fun z=>hc (by simp[z])) e⟩) (fun _ _ e=>e) (fun _ _ _ e=>e) (fun b ps e=>⟨#[],by rw[e];simp⟩) (fun m hm=>?_) (fun b u e=>?_) I.bare
 ·have e:b=it:=by simpa using hb
  subst e;exact⟨h1,hL,h2,h3⟩
 ·obtain⟨o,es,ep,ho,r⟩:=hm;exact⟨o,es,ep,k _ o (Ne.symm hL) ho,r⟩
 ·refine(I.hok b u e).stay (fun c v hc q=>k c v ?_ q) (fun _ q=>q) fun _ _ q=>q;rcases hc with z|z
  ·rw[z];exact nit b u e
  ·exact nit c _ z
theorem Inv.tok(I:Inv X pins σ H s)(t:Nat):Inv X pins σ H {s with toks:=t}:=I.un (h':=s.heap) (t':=t) Un.refl I.hok
theorem Inv.kept{t':Nat}(I:Inv X pins σ H s)(k:∀b u,s.heap.get? b=some u→h'.get? b=some u):Inv X pins σ H {s with heap:=h',toks:=t'}:=I.un (Un.kept k) (I.hok.kept k)
theorem Inv.laid{a:Addr}{o:HO}{t':Nat}(I:Inv X pins σ H s)(k:∀b u,s.heap.get? b=some u→h'.get? b=some u)(hp:s.heap.objs.size≤a)(new:Z2 X.prog X.w (upd H a o) h' a o):
  Inv X pins σ (upd H a o) {s with heap:=h',toks:=t'}:=I.un (Un.laid k hp (I.hok.fresh hp)) (I.hok.laid k hp new)
theorem Inv.write{x e:Addr}{o:HO}{t':Nat}(I:Inv X pins σ H s)(mu:Mut (H x))(he:e=x∨H e=some (.own x))(k:∀b u,b≠e→s.heap.get? b=some u→h'.get? b=some u)(heo:∃u,h'.get? e=some u)
  (new:Z2 X.prog X.w (upd H x o) h' x o):Inv X pins σ (upd H x o) {s with heap:=h',toks:=t'}:=I.un (Un.write mu he k heo) (I.hok.write mu he k heo new)
theorem Inv.pins_of{pins':List (Addr×Obj)}(I:Inv X pins σ H s)(h:∀p∈pins',s.heap.get? p.1=some p.2∧H p.1=none∧p.1≠X.env.locals∧p.1∉X.fs∧∀v,p.2.data≠ .cell v):Inv X pins' σ H s:=
 ⟨I.ok,I.os,I.bare,I.base,I.loc,I.cell,I.free,I.freeC,fun p hp=>(List.mem_append.mp hp).elim (fun z=>I.pin p (List.mem_append_left _ z)) (h p),I.hok,I.len⟩
theorem ZfR{N:List Str}(hN:N.Nodup){i j:Nat}{x:Str}(a:N[i]? =some x)(b:N[j]? =some x):i=j:=by
 obtain⟨h1,e1⟩:=List.getElem?_eq_some_iff.mp a;obtain⟨h2,e2⟩:=List.getElem?_eq_some_iff.mp b;exact(List.getElem_inj hN).mp (e1.trans e2.symm)
theorem ZbV{M:Model}{A:Around}{E:Value→Shared→Prop}{i:Nat}{x:Str}{v:V}{u:Value}{Q:Unit→Shared→Prop}(I:Inv X pins σ H s)(hN:X.N.Nodup)(hi:X.N[i]? =some x)(hx:Loc X.env.scope x)(r:ZG v u)
  (h:∀s',Inv X pins (σ.set i (some v)) H s'→(∃a,Heap.SameBut a s.heap s'.heap∧(a=X.env.locals∨X.env.cells.lookup x=some a))→Q () s') (hf:X.fn x=true∨X.env.scope.names.lookup x=some .local:=by first|exact .inl rfl|exact .inr rfl|assumption):wpAny M A (storeName X.env x u) Q E s:=by
 obtain⟨m,hn,hl⟩:=id I.loc;have hcls:(X.env.scope.kind== .class||(X.env.scope.kind== .module&&X.env.locals != X.env.globals))=false:=by rw[I.ok.kind];rfl
 have hiσ:i<σ.length:=by rw[I.len];exact(List.getElem?_eq_some_iff.mp hi).1
 have cne:=I.cne;have tracked:∀{a:Addr}{h':Heap},(∃o,s.heap.get? a=some o∧H a=none)→Heap.SameBut a s.heap h'→HOk X.prog X.w H h':=fun{a h'} ha hs b ob e=>by
  obtain⟨_,_,hfree⟩:=ha;refine(I.hok b ob e).stay (fun c w' hc q=>(hs.2 c ?_).trans q) (fun _ q=>q) fun _ _ q=>q;rintro rfl;rcases hc with rfl|hc
  ·rw[hfree] at e;cases e
  ·rw[hfree] at hc;cases hc
 rcases hx with hk|hk
 ·refine wpAny_storeName_local hk hn (fun h' hn' hs=>?_) hcls;obtain⟨oL,_,_,hoL,_⟩:=id hn;refine h _ ⟨I.ok,I.os,I.bare,⟨fun b o e n hb hx=>?_,fun b o e n hb hx=>?_,I.base.free,fun b o e hx=>?_,I.base.tups,I.base.frzs,I.base.tbls⟩,⟨_,hn',fun j y v' e1 e2 e3=>?_⟩,fun y c e=>?_,I.free,I.freeC,fun p hp=>?_,tracked ⟨oL,hoL,I.free⟩ hs,by simpa using I.len⟩ ⟨_,hs,.inl rfl⟩
  ·exact(hs.2 b (Nat.ne_of_lt (Nat.lt_of_lt_of_le (Heap.lt_size e) I.ok.above))).trans (I.base.keep b o e n hb hx)
  ·obtain⟨sl,e1⟩:=I.base.slot b o e n hb hx;exact⟨sl,(hs.2 b (Nat.ne_of_lt (Nat.lt_of_lt_of_le (Heap.lt_size e) I.ok.above))).trans e1⟩
  ·obtain⟨o',e1⟩:=I.base.there b o e hx;exact⟨o',(hs.2 b (Nat.ne_of_lt (Nat.lt_of_lt_of_le (Heap.lt_size e) I.ok.above))).trans e1⟩
  ·by_cases hj:j=i
   ·subst hj;rw[hi] at e1;cases e1;rw[List.getElem?_set_self hiσ] at e2;cases e2;exact⟨u,r,.inl ⟨hk,by simp⟩⟩
   ·rw[List.getElem?_set_ne (Ne.symm hj)] at e2;obtain⟨u',r',q⟩:=hl j y v' e1 e2 e3;refine⟨u',r',?_⟩;rcases q with⟨k,e⟩|⟨k,c,e,z⟩
    ·refine .inl ⟨k,?_⟩;have:y≠x:=fun e=>hj (ZfR hN e1 (e▸hi));simp[this,e]
    ·exact .inr ⟨k,c,e,z.sameBut hs (cne y c e)⟩
  ·obtain⟨w',z⟩:=I.cell y c e;exact⟨w',z.sameBut hs (cne y c e)⟩
  ·obtain⟨e,n,ne,nf,d⟩:=I.pin p hp;exact⟨(hs.2 p.1 ne).trans e,n,ne,nf,d⟩
 ·have hfn:X.fn x=true:=by
   rcases hf with z|z
   ·exact z
   ·rw[z] at hk;cases hk
  obtain⟨c,hc⟩:=I.ok.has x (.inl hk);obtain⟨w',z⟩:=I.cell x c hc;refine wpAny_storeName_cell I.ok.kind hk hc z (fun h' hc' hs=>?_);obtain⟨oc,hoc,hocd⟩:=id z;refine h {s with heap:=h'} ⟨I.ok,I.os,I.bare,⟨fun b o e n hb hx=>?_,fun b o e n hb hx=>?_,I.base.free,fun b o e hx=>?_,I.base.tups,I.base.frzs,I.base.tbls⟩,⟨m,hn.sameBut hs (Ne.symm (cne x c hc)),fun j y v' e1 e2 e3=>?_⟩,fun y c' e=>?_,I.free,I.freeC,fun p hp=>?_,tracked ⟨oc,hoc,I.freeC x c hc⟩ hs,by simpa using I.len⟩ ⟨c,hs,.inr hc⟩
  ·exact(hs.2 b (Nat.ne_of_lt (Nat.lt_of_lt_of_le (Heap.lt_size e) (I.ok.cab x c hfn hc)))).trans (I.base.keep b o e n hb hx)
  ·obtain⟨sl,e1⟩:=I.base.slot b o e n hb hx;exact⟨sl,(hs.2 b (Nat.ne_of_lt (Nat.lt_of_lt_of_le (Heap.lt_size e) (I.ok.cab x c hfn hc)))).trans e1⟩
  ·obtain⟨o',e1⟩:=I.base.there b o e hx;exact⟨o',(hs.2 b (Nat.ne_of_lt (Nat.lt_of_lt_of_le (Heap.lt_size e) (I.ok.cab x c hfn hc)))).trans e1⟩
  ·by_cases hj:j=i
   ·subst hj;rw[hi] at e1;cases e1;rw[List.getElem?_set_self hiσ] at e2;cases e2;exact⟨u,r,.inr ⟨.inl hk,c,hc,hc'⟩⟩
   ·rw[List.getElem?_set_ne (Ne.symm hj)] at e2;obtain⟨u',r',q⟩:=hl j y v' e1 e2 e3;refine⟨u',r',?_⟩;rcases q with q|⟨k,c',e,z'⟩
    ·exact .inl q
    ·refine .inr ⟨k,c',e,z'.sameBut hs ?_⟩;rintro rfl;exact hj (ZfR hN e1 (I.ok.inj _ _ _ e hc▸hi))
  ·by_cases hcc:c'=c
   ·subst hcc;exact⟨_,hc'⟩
   ·obtain⟨w2,z2⟩:=I.cell y c' e;exact⟨w2,z2.sameBut hs hcc⟩
  ·obtain⟨e,n,ne,nf,d⟩:=I.pin p hp;refine⟨(hs.2 p.1 ?_).trans e,n,ne,nf,d⟩;intro q;rw[q,hoc] at e;have q':oc=p.2:=Option.some.inj e;exact d w' (by rw[←q'];exact hocd)
theorem ZcQ{M:Model}{A:Around}{E:Value→Shared→Prop}{i:Nat}{x:Str}{v:V}{u:Value}{Q:Unit→Shared→Prop}(I:Inv X pins σ H s)(hN:X.N.Nodup)(hi:X.N[i]? =some x)(hx:Loc X.env.scope x)(r:ZG v u)
  (h:∀s',Inv X pins (σ.set i (some v)) H s'→Q () s') (hf:X.fn x=true∨X.env.scope.names.lookup x=some .local:=by first|exact .inl rfl|exact .inr rfl|assumption):wpAny M A (storeName X.env x u) Q E s:=
 ZbV I hN hi hx r (fun s' I' _=>h s' I') hf
theorem Inv.call'{s':Shared}{ch:List Addr}(I:Inv X pins σ H s)(ho:s'.os=s.os)(u:Un (frs X.stack) ch H H' s.heap s'.heap)(hok:HOk X.prog X.w H' s'.heap)(hg:AllBare s'.gens)
  (hch:∀b∈ch,(b∈X.ex∨X.s₀.heap.objs.size≤b)∧b≠X.env.locals∧(∀x c,X.env.cells.lookup x=some c→c≠b)∧∀p∈X.pn++pins,p.1≠b):Inv X pins σ H' s':=by
 obtain⟨h',g',d',t',o'⟩:=s';have e:o'=s.os:=ho;subst e;exact I.call (g':=g') (t':=t') (d':=d') u hok hg hch
end
noncomputable abbrev XK:=Value→Option Addr→Hp→Prop
noncomputable abbrev St:=List (Option V)
noncomputable abbrev VK:=V→Hp→Prop
noncomputable abbrev TE:=St→Hp→VK→Prop
noncomputable abbrev TT:=St→Hp→(Bool→Hp→Prop)→Prop
noncomputable abbrev TA:=St→Hp→(List V→Hp→Prop)→Prop
structure Vz where
 nx:St→Hp→Prop
 rt:VK
 bk:St→Hp→Prop:=fun _ _=>False
 ct:St→Hp→Prop:=fun _ _=>False
noncomputable abbrev TS:=Vz→St→Hp→Prop
def EP(X:Cx)(pins:List (Addr×Obj))(σ:St)(Q:VK)(u:Value)(s':Shared):Prop:=∃v H',Inv X pins σ H' s'∧ZG v u∧Q v H'
def TP(X:Cx)(pins:List (Addr×Obj))(σ:St)(Q:Bool→Hp→Prop)(b:Bool)(s':Shared):Prop:=∃H',Inv X pins σ H' s'∧Q b H'
def AP(X:Cx)(pins:List (Addr×Obj))(σ:St)(Q:List V→Hp→Prop)(us:List Value)(s':Shared):Prop:=∃vs H',Inv X pins σ H' s'∧ZF vs us∧Q vs H'
def SP(X:Cx)(pins:List (Addr×Obj))(D:Vz)(f:Flow)(s':Shared):Prop:=
 match f with
 | .next=>∃σ' H',Inv X pins σ' H' s'∧D.nx σ' H'
 | .brk=>∃σ' H',Inv X pins σ' H' s'∧D.bk σ' H'
 | .cont=>∃σ' H',Inv X pins σ' H' s'∧D.ct σ' H'
 | .ret u=>∃v σ' H',Inv X pins σ' H' s'∧ZG v u∧D.rt v H'
def PE(X:Cx)(e:Expr)(t:TE):Prop:=
 ∀(pins:List (Addr×Obj))(s:Shared)(σ:St)(H:Hp)(Q:VK),Inv X pins σ H s→t σ H Q→wpAny (model X.prog X.w) X.A (eval e X.env) (EP X pins σ Q) X.xe s
def PT(X:Cx)(e:Expr)(t:TT):Prop:=
 ∀(pins:List (Addr×Obj))(s:Shared)(σ:St)(H:Hp)(Q:Bool→Hp→Prop),Inv X pins σ H s→t σ H Q→wpAny (model X.prog X.w) X.A (isTrue e X.env (eval e X.env)) (TP X pins σ Q) X.xe s
def PW(X:Cx)(e:Expr)(t:TT):Prop:=
 ∀(whole:Sem Value)(pins:List (Addr×Obj))(s:Shared)(σ:St)(H:Hp)(Q:Bool→Hp→Prop),Inv X pins σ H s→t σ H Q→wpAny (model X.prog X.w) X.A (isTrue e X.env whole) (TP X pins σ Q) X.xe s
theorem PW.pt{X:Cx}{e:Expr}{t:TT}(h:PW X e t):PT X e t:=h _
def PA(X:Cx)(es:List Expr)(t:TA):Prop:=
 ∀(pos:Pos)(pins:List (Addr×Obj))(s:Shared)(σ:St)(H:Hp)(Q:List V→Hp→Prop),Inv X pins σ H s→t σ H Q→wpAny (model X.prog X.w) X.A (spliced (backTo pos (starEach es X.env))) (AP X pins σ Q) X.xe s
def PS(X:Cx)(st:Stmt)(t:TS):Prop:=
 ∀(pins:List (Addr×Obj))(s:Shared)(σ:St)(H:Hp)(D:Vz),Inv X pins σ H s→t D σ H→wpAny (model X.prog X.w) X.A (exec st X.env) (SP X pins D) X.xe s
def PSs(X:Cx)(st:List Stmt)(t:TS):Prop:=
 ∀(pins:List (Addr×Obj))(s:Shared)(σ:St)(H:Hp)(D:Vz),Inv X pins σ H s→t D σ H→wpAny (model X.prog X.w) X.A (execs st X.env) (SP X pins D) X.xe s
theorem thn{α:Type}{t:Sem α}{Q Q':α→Shared→Prop}{M:Model}{A:Around}{E:Value→Shared→Prop}{s:Shared}(h:wpAny M A t Q E s)(hQ:∀a s,Q a s→Q' a s):wpAny M A t Q' E s:=wpAny_mono h hQ fun _ _ x=>x
end L2
namespace L2
open PySem PySem.Spec PyProof.Rows
section
variable {X:Cx}
theorem bin{a b:Expr}{ta tb:TE}(ha:PE X a ta)(hb:PE X b tb){pins:List (Addr×Obj)}{s:Shared}{σ:St}{H:Hp}{R:V→V→Hp→Prop}(I:Inv X pins σ H s)(h:ta σ H fun x H1=>tb σ H1 fun y H2=>R x y H2)
  {α:Type} {Q:α→Shared→Prop} {f:Value→Value→Sem α}
  (hf:∀v u s2 x y H2,Inv X pins σ H2 s2→ZG x v→ZG y u→R x y H2→wpAny (model X.prog X.w) X.A (f v u) Q X.xe s2):
  wpAny (model X.prog X.w) X.A (eval a X.env) (fun v s₁=>wpAny (model X.prog X.w) X.A (eval b X.env) (fun u s₂=>wpAny (model X.prog X.w) X.A (f v u) Q X.xe s₂) X.xe s₁) X.xe s:=by
 refine thn (ha pins s σ H _ I h) fun v s1 ⟨x,H1,I1,r1,q1⟩=>?_;refine thn (hb pins s1 σ H1 _ I1 q1) fun u s2 ⟨y,H2,I2,r2,q2⟩=>?_;exact hf v u s2 x y H2 I2 r1 r2 q2
noncomputable def Zhn (i:Nat):TE:=fun σ H Q=>∃v,σ[i]? =some (some v)∧Q v H
noncomputable def tC (v:V):TE:=fun _ H Q=>Q v H
theorem Zle{i:Nat}{x:Str}{pos:Pos}(hN:X.N[i]? =some x)(hv:Vis X.env.scope x)(hd:(x==("__debug__" :Str))=false:=by decide)(hcd:(x==("__classdict__" :Str))=false:=by decide):PE X (.Name x pos) (Zhn i):=by
 intro pins s σ H Q I h;obtain⟨v,e,h⟩:=h;obtain⟨m,hn,hl⟩:=I.loc;obtain⟨u,r,l⟩:=hl i x v hN e hv;have fin:EP X pins σ Q u s:=⟨v,H,I,r,h⟩;rcases l with⟨hk,hm⟩|⟨hk,c,hc,hcell⟩
 ·exact wpAny_Name (wpAny_loadName_local I.ok.kind hk hn hm fin) hd
 ·rcases hk with hk|hk
  ·exact wpAny_Name (wpAny_loadName_cell I.ok.kind hk hc hcell fin) hd
  ·exact wpAny_Name (wpAny_loadName_free I.ok.kind hk hc hcell fin hcd) hd
theorem Zf{i j pos}:PE X (.Constant (.int i) j pos) (tC (.int i)):=fun _ _ _ H _ I h=>wpAny_Constant_int ⟨.int i,H,I.tok _,⟨_,rfl⟩,h⟩
theorem Wf{b j pos}:PE X (.Constant (.bool b) j pos) (tC (.bl b)):=fun _ _ _ H _ I h=>Constant_bool ⟨.bl b,H,I,rfl,h⟩
theorem WR{j pos}:PE X (.Constant .none j pos) (tC .non):=fun _ _ _ H _ I h=>Constant_none ⟨.non,H,I,rfl,h⟩
theorem Wb{x j pos}:PE X (.Constant (.str x) j pos) (tC (.str x)):=fun _ _ _ H _ I h=>Calls.Constant_str ⟨.str x,H,I.tok _,⟨_,rfl⟩,h⟩
def Gl(X:Cx)(x:Str):Prop:=X.env.kindOf x=some .globalImplicit
theorem ZaV{E:Value→Shared→Prop}{pins:List (Addr×Obj)}{s:Shared}{σ:St}{H:Hp}{x:Str}{u:Value}{pos:Pos}{Q:Value→Shared→Prop}(I:Inv X pins σ H s)(hg:Gl X x)(hm:X.mg x=some u)(h:Q u s)
  (hd:(x==("__debug__" :Str))=false:=by decide):wpAny (model X.prog X.w) X.A (eval (.Name x pos) X.env) Q E s:=
 Calls.Name_function_global I.ok.kind hg (Calls.loadGlobal_global (by rw[I.ok.glob];exact I.mod.glob.keeps I.bk) hm h) hd
theorem Zae{E:Value→Shared→Prop}{pins:List (Addr×Obj)}{s:Shared}{σ:St}{H:Hp}{x:Str}{u:Value}{pos:Pos}{Q:Value→Shared→Prop}(I:Inv X pins σ H s)(hg:Gl X x)(hm:X.mg x=none)(hv:bootBuiltins x=some u)(h:Q u s)
  (hn:x≠"__name__" :=by decide) (hd:(x==("__debug__" :Str))=false:=by decide):wpAny (model X.prog X.w) X.A (eval (.Name x pos) X.env) Q E s:=by
 obtain⟨mb,h1,h2⟩:=I.mod.blt;exact Calls.Name_function_global I.ok.kind hg (Calls.loadGlobal_builtin (by rw[I.ok.glob];exact I.mod.glob.keeps I.bk) hm (by rw[I.ok.blt];exact h1.keeps I.bk) ((h2 x hn).trans hv) h) hd
theorem Zco{x:Str}{v:V}{u:Value}{pos:Pos}(hg:Gl X x)(hm:X.mg x=some u)(r:ZG v u)(hd:(x==("__debug__" :Str))=false:=by decide):PE X (.Name x pos) (tC v):=
 fun _ _ _ H _ I h=>ZaV I hg hm ⟨v,H,I,r,h⟩ hd
theorem Um{x:Str}{v:V}{u:Value}{pos:Pos}(hg:Gl X x)(hm:X.mg x=none)(hv:bootBuiltins x=some u)(r:ZG v u)(hn:x≠"__name__" :=by decide)(hd:(x==("__debug__" :Str))=false:=by decide):PE X (.Name x pos) (tC v):=
 fun _ _ _ H _ I h=>Zae I hg hm hv ⟨v,H,I,r,h⟩ hn hd
variable {a b:Expr}{ta tb:TE}{pos:Pos}
variable {tA tB':TT}{rest:List Expr}
noncomputable def Zk1 (t u:TT):TT:=fun σ H Q=>t σ H fun c H1=>if c=true then u σ H1 Q else Q false H1
noncomputable def tOr (t u:TT):TT:=fun σ H Q=>t σ H fun c H1=>if c=true then Q true H1 else u σ H1 Q
noncomputable def ZlT (t:TT):TT:=fun σ H Q=>t σ H fun c H1=>Q (!c) H1
theorem Za1(ha:PT X a tA):PW X (.BoolOp .And [a] pos) tA:=by
 intro wh pins s σ H Q I h;refine isTrue_and (thn (ha pins s σ H Q I h) fun c s1 e=>?_);cases c with
 |true=>exact isTrue_and_nil e
 |false=>exact e
theorem V6(ha:PT X a tA):PW X (.BoolOp .Or [a] pos) tA:=by
 intro wh pins s σ H Q I h;refine isTrue_or (thn (ha pins s σ H Q I h) fun c s1 e=>?_);cases c with
 |false=>exact isTrue_or_nil e
 |true=>exact e
theorem ZbM(ha:PT X a tA)(hb:PW X (.BoolOp .And (b::rest) pos) tB'):PW X (.BoolOp .And (a::b::rest) pos) (Zk1 tA tB'):=by
 intro wh pins s σ H Q I h;refine isTrue_and (thn (ha pins s σ H _ I h) fun c s1 ⟨H1,I1,q1⟩=>?_);cases c with
 |true=>exact hb wh pins s1 σ H1 Q I1 q1
 |false=>exact⟨H1,I1,q1⟩
theorem U0(ha:PT X a tA)(hb:PW X (.BoolOp .Or (b::rest) pos) tB'):PW X (.BoolOp .Or (a::b::rest) pos) (tOr tA tB'):=by
 intro wh pins s σ H Q I h;refine isTrue_or (thn (ha pins s σ H _ I h) fun c s1 ⟨H1,I1,q1⟩=>?_);cases c with
 |true=>exact⟨H1,I1,q1⟩
 |false=>exact hb wh pins s1 σ H1 Q I1 q1
theorem Wh(ha:PT X a tA):PT X (.UnaryOp .Not a pos) (ZlT tA):=by
 intro pins s σ H Q I h;exact isTrue_not (ha pins s σ H (fun c H1=>Q (!c) H1) I h)
noncomputable def Zj4 (ta tb:TE):TE:=fun σ H Q=>ta σ H fun x H1=>∃c,x= .bl c∧if c=true then tb σ H1 Q else Q (.bl false) H1
noncomputable def Zj7 (ta:TE):TE:=fun σ H Q=>ta σ H fun x H1=>∃c,x= .bl c∧Q (.bl (!c)) H1
theorem ZbF{op}{t:TE}(h:PE X a t):PE X (.BoolOp op [a] pos) t:=fun pins s σ H Q I hw=>BoolOp_one (h pins s σ H Q I hw)
theorem ZbC(ha:PE X a ta)(hb:PE X (.BoolOp .And (b::rest) pos) tb):PE X (.BoolOp .And (a::b::rest) pos) (Zj4 ta tb):=by
 intro pins s σ H Q I h;refine BoolOp_and (thn (ha pins s σ H _ I h) fun v s1 ⟨x,H1,I1,r1,q1⟩=>?_);obtain⟨c,rfl,q1⟩:=q1;cases r1;refine wpAny_truthy_bool ?_;cases c with
 |true=>exact hb pins s1 σ H1 Q I1 q1
 |false=>exact⟨.bl false,H1,I1,rfl,q1⟩
theorem Ziu(ha:PE X a ta):PE X (.UnaryOp .Not a pos) (Zj7 ta):=by
 intro pins s σ H Q I h;refine UnaryOp_ (thn (ha pins s σ H _ I h) fun v s1 ⟨x,H1,I1,r1,q1⟩=>?_);obtain⟨c,rfl,q1⟩:=q1;cases r1;exact not_of (wpAny_truthy_bool ⟨.bl (!c),H1,I1,rfl,q1⟩)
noncomputable def tIf (t:TT) (ta tb:TE):TE:=fun σ H Q=>t σ H fun c H1=>if c=true then ta σ H1 Q else tb σ H1 Q
theorem Zjm{c:Expr}(hc:PT X c tA)(ha:PE X a ta)(hb:PE X b tb):PE X (.IfExp c a b pos) (tIf tA ta tb):=by
 intro pins s σ H Q I h;refine wpAny_IfExp (thn (hc pins s σ H _ I h) fun d s1 ⟨H1,I1,q1⟩=>?_);cases d with
 |true=>exact ha pins s1 σ H1 Q I1 q1
 |false=>exact hb pins s1 σ H1 Q I1 q1
end
end L2
namespace L2
open PySem PySem.Spec PyProof.Rows
def SqL(K:PySem.W.Frag)(H:Hp)(a:Addr)(xs:List V):Prop:=
 Rd H a (.lst xs)∨
  ∃(o:Obj)(its:Array Value)(n:Nat),K.lookup a=some o∧o.cls= .type "list" ∧o.dict=none∧o.data= .seq its n∧its.size≤sizeLine∧ZF xs its.toList
def SqT(K:PySem.W.Frag)(H:Hp)(a:Addr)(xs:List V):Prop:=
 Rd H a (.tup xs)∨
  ∃(o:Obj)(its:Array Value)(n:Nat),K.lookup a=some o∧o.cls= .type "tuple" ∧o.data= .seq its n∧its.size≤sizeLine∧ZF xs its.toList
noncomputable def ZmV:Value→Option V
 | .none=>some .non
 | .bool b=>some (.bl b)
 | .int i _=>some (.int i)
 | .str x _=>some (.str x)
 | .bytes b _=>some (.byt b)
 | .float b _=>some (.flt b)
 | .ref a=>some (.ref a)
 | .type n=>some (.ty n)
 |_=>none
theorem ZG.abs{x:V}{u:Value}(r:ZG x u):ZmV u=some x:=by
 cases x with
 |non=>cases r;rfl
 |bl _=>cases r;rfl
 |int _=>obtain⟨t,rfl⟩:=r;rfl
 |str _=>obtain⟨t,rfl⟩:=r;rfl
 |byt _=>obtain⟨t,rfl⟩:=r;rfl
 |flt _=>obtain⟨t,rfl⟩:=r;rfl
 |ref _=>cases r;rfl
 |ty _=>cases r;rfl
theorem ZG.inj{x y:V}{u:Value}(r:ZG x u)(q:ZG y u):x=y:=Option.some.inj (r.abs.symm.trans q.abs)
theorem ZF.inj:∀{xs ys:List V}{us:List Value},ZF xs us→ZF ys us→xs=ys
 |_,_,_,.nil,.nil=>rfl
 |_,_,_,.cons r t,.cons r' t'=>by rw[r.inj r',ZF.inj t t']
section
variable {X:Cx}{pins:List (Addr×Obj)}{σ:St}{H:Hp}{s:Shared}{a:Addr}{xs ys:List V}
theorem SqL.of{K:PySem.W.Frag}(h:H a=some (.lst xs)):SqL K H a xs:= .inl (.inl h)
theorem SqT.of{K:PySem.W.Frag}(h:H a=some (.tup xs)):SqT K H a xs:= .inl (.inl h)
theorem Inv.list(I:Inv X pins σ H s)(h:SqL X.K H a xs):∃its:List Value,ZF xs its∧PlainL s.heap a its.toArray∧xs.length≤sizeLine:=by
 rcases h with h|⟨o,its,n,hk,hc,hd,hs,hz,r⟩
 ·obtain⟨z,its,n,r,e⟩:=h.ok I.hok;exact⟨its,r,⟨_,n,e,rfl,rfl,rfl⟩,z⟩
 ·refine⟨its.toList,r,⟨o,n,I.kIn a o hk,hc,hd,by simpa using hs⟩,?_⟩;have e:=r.length;simp only[Array.length_toList] at e;omega
theorem Inv.tuple(I:Inv X pins σ H s)(h:SqT X.K H a xs):∃its:List Value,ZF xs its∧IsTup s.heap a its.toArray∧xs.length≤sizeLine:=by
 rcases h with h|⟨o,its,n,hk,hc,hs,hz,r⟩
 ·obtain⟨z,its,r,p⟩:=h.ok I.hok;exact⟨its,r,p,z⟩
 ·refine⟨its.toList,r,⟨o,I.kIn a o hk,hc,n,by simpa using hs⟩,?_⟩;have e:=r.length;simp only[Array.length_toList] at e;omega
theorem Inv.list_inj(I:Inv X pins σ H s)(h:SqL X.K H a xs)(h':SqL X.K H a ys):xs=ys:=by
 obtain⟨its,r,⟨o,n,e,_,_,d⟩,_⟩:=I.list h;obtain⟨its',r',⟨o',n',e',_,_,d'⟩,_⟩:=I.list h';rw[e] at e';cases e';rw[d] at d'
 injection d' with d1 _
 have:its=its':=by simpa using congrArg Array.toList d1
 subst this;exact r.inj r'
end
section
variable {X:Cx}{pins:List (Addr×Obj)}{σ:St}{H:Hp}{s:Shared}{E:Value→Shared→Prop}
end
section
variable {X:Cx}{st:Stmt}{rest:List Stmt}{t u:TS}{e:Expr}{te:TE}{pos:Pos}
noncomputable def tNext:TS:=fun D σ H=>D.nx σ H
noncomputable def ZlJ (t u:TS):TS:=fun D σ H=>t {D with nx:=u D} σ H
theorem ZJ:PSs X [] tNext:=fun _ _ σ H _ I h=>wpAny_execs_nil ⟨σ,H,I,h⟩
theorem Zc(h1:PS X st t)(h2:PSs X rest u):PSs X (st::rest) (ZlJ t u):=by
 intro pins s σ H D I h;refine wpAny_execs_cons (thn (h1 pins s σ H {D with nx:=u D} I h) fun f s1 q=>?_);cases f with
 |next=>
  obtain⟨σ',H',I',q⟩:=q;exact h2 pins s1 σ' H' D I' q
 |ret v=>exact q
 |brk=>exact q
 |cont=>exact q
theorem Zh(h1:PS X st t):PSs X [st] t:=by
 intro pins s σ H D I h;refine wpAny_execs_cons (thn (h1 pins s σ H D I h) fun f s1 q=>?_);cases f with
 |next=>exact wpAny_execs_nil q
 |ret v=>exact q
 |brk=>exact q
 |cont=>exact q
theorem Inv.quiet{pins:List (Addr×Obj)}{σ:St}{H:Hp}{s:Shared}(I:Inv X pins σ H s):interactive X.env=false:=by simp[interactive,I.ok.kind]
noncomputable def Zki (te:TE):TS:=fun D σ H=>te σ H fun _ H1=>D.nx σ H1
theorem ZX(he:PE X e te)(hs:swapsWith e none pos.line X.env=pure false:=by rfl):PS X (.Expr e pos) (Zki te):=by
 intro pins s σ H D I h;exact wpAny_Expr_any (thn (he pins s σ H _ I h) fun v s1 ⟨x,H1,I1,r1,q1⟩=>⟨σ,H1,I1,q1⟩) I.quiet hs
noncomputable def ZlK (te:TE):TS:=fun D σ H=>te σ H D.rt
theorem Zw(he:PE X e te):PS X (.Return (some e) pos) (ZlK te):=by
 intro pins s σ H D I h;exact wpAny_Return_some (thn (he pins s σ H _ I h) fun v s1 ⟨x,H1,I1,r1,q1⟩=>⟨x,σ,H1,I1,r1,q1⟩)
noncomputable def ZkV (c:TT) (t u:TS):TS:=fun D σ H=>c σ H fun b H1=>if b=true then t D σ H1 else u D σ H1
theorem ZW{c:Expr}{a b:List Stmt}{tc:TT}(hc:PT X c tc)(ha:PSs X a t)(hb:PSs X b u):PS X (.If c a b pos) (ZkV tc t u):=by
 intro pins s σ H D I h;refine wpAny_If (thn (hc pins s σ H _ I h) fun d s1 ⟨H1,I1,q1⟩=>?_);cases d with
 |true=>exact ha pins s1 σ H1 D I1 q1
 |false=>exact hb pins s1 σ H1 D I1 q1
end
noncomputable abbrev TG:=V→St→Hp→(St→Hp→Prop)→Prop
noncomputable abbrev TGs:=List V→St→Hp→(St→Hp→Prop)→Prop
def PG(X:Cx)(target:Expr)(t:TG):Prop:=
 ∀(pins:List (Addr×Obj))(s:Shared)(σ:St)(H:Hp)(v:V)(u:Value)(Q:St→Hp→Prop),Inv X pins σ H s→ZG v u→t v σ H Q→
  wpAny (model X.prog X.w) X.A (assign target X.env u) (fun _ s'=>∃σ' H',Inv X pins σ' H' s'∧Q σ' H') X.xe s
def PGs(X:Cx)(ts:List Expr)(t:TGs):Prop:=
 ∀(pins:List (Addr×Obj))(s:Shared)(σ:St)(H:Hp)(vs:List V)(us:List Value)(Q:St→Hp→Prop),Inv X pins σ H s→ZF vs us→t vs σ H Q→
  wpAny (model X.prog X.w) X.A (assignInOrder ((assignEach ts X.env).map (·.2)) us) (fun _ s'=>∃σ' H',Inv X pins σ' H' s'∧Q σ' H') X.xe s
noncomputable abbrev ZcX:=V→V→V→Hp→(Hp→Prop)→Prop
def ZhP(X:Cx)(t:ZcX):Prop:=
 ∀(pins:List (Addr×Obj))(s:Shared)(σ:St)(H:Hp)(o i v:V)(ov iv u:Value)(Q:Hp→Prop),Inv X pins σ H s→ZG o ov→ZG i iv→ZG v u→t o i v H Q→
  wpAny (model X.prog X.w) X.A (setItem ov iv u) (fun _ s'=>∃H',Inv X pins σ H' s'∧Q H') X.xe s
noncomputable abbrev TIp:=V→V→Hp→VK→Prop
def PIp(X:Cx)(op:Operator)(t:TIp):Prop:=
 ∀(pins:List (Addr×Obj))(s:Shared)(σ:St)(H:Hp)(x y:V)(v u:Value)(Q:VK),Inv X pins σ H s→ZG x v→ZG y u→t x y H Q→
  wpAny (model X.prog X.w) X.A (inplaceOp op v u) (EP X pins σ Q) X.xe s
section
variable {X:Cx}{pos:Pos}
noncomputable def UT (i:Nat):TG:=fun v σ H Q=>Q (σ.set i (some v)) H
theorem Zp{i:Nat}{x:Str}(hN:X.N.Nodup)(hi:X.N[i]? =some x)(hx:Loc X.env.scope x)(hf:X.fn x=true∨X.env.scope.names.lookup x=some .local:=by first|exact .inl rfl|exact .inr rfl|assumption):PG X (.Name x pos) (UT i):=by
 intro pins s σ H v u Q I r h;exact wpAny_assign_Name (ZcQ I hN hi hx r (fun s' I'=>⟨_,H,I',h⟩) hf)
noncomputable def gNil:TGs:=fun vs σ H Q=>vs=[]∧Q σ H
noncomputable def Zkh (t:TG) (u:TGs):TGs:=fun vs σ H Q=>∃v r,vs=v::r∧t v σ H fun σ' H'=>u r σ' H' Q
theorem YD:PGs X [] gNil:=by
 intro pins s σ H vs us Q I r h;obtain⟨e,h⟩:=h;subst e;cases r;exact assignInOrder_nil ⟨σ,H,I,h⟩
theorem ZE{e:Expr}{es:List Expr}{t:TG}{u:TGs}(h1:PG X e t)(h2:PGs X es u)
  (hs:(assignEach (e::es) X.env).map (·.2)=assign e X.env::(assignEach es X.env).map (·.2):=by rfl):PGs X (e::es) (Zkh t u):=by
 intro pins s σ H vs us Q I r h;obtain⟨v,vr,e1,h⟩:=h;subst e1;cases r with
 |cons r rr=>
  rw[hs];refine assignInOrder_cons (thn (h1 pins s σ H _ _ _ I r h) fun _ s1 ⟨σ1,H1,I1,q1⟩=>?_);exact h2 pins s1 σ1 H1 _ _ Q I1 rr q1
noncomputable def ZjB (K:PySem.W.Frag) (n:Nat) (t:TGs):TG:=fun v σ H Q=>∃a xs,v= .ref a∧SqT K H a xs∧xs.length=n∧t xs σ H Q
theorem Zlr{es:List Expr}{k:Nat}{t:TGs}{n:Nat}(hc:X.calm=true)(h:PGs X es t)
  (hn:(assignEach es X.env).length=n:=by rfl) (hst:(assignEach es X.env).findIdx? (·.1)=none:=by rfl):PG X (.Tuple es k pos) (ZjB X.K n t):=by
 intro pins s σ H v u Q I r hw;obtain⟨a,xs,e1,hq,hl,hw⟩:=hw;subst e1;cases r;obtain⟨its,rv,ht,hz⟩:=I.tuple hq;refine assign_Tuple_tuple (I.ok.hd hc) ht (by simp[hn,←hl,rv.length]) hst fun h' hx=>?_;have I1:Inv X pins σ H {s with heap:=h'}:=I.kept (t':=s.toks) fun b o e=>hx b o (Nat.ne_of_lt (Heap.lt_size e)) e;exact h pins _ σ H xs _ Q I1 (by simpa using rv) hw
noncomputable def Zlf (to ti:TE) (t:ZcX):TG:=fun v σ H Q=>to σ H fun o H1=>ti σ H1 fun i H2=>t o i v H2 fun H3=>Q σ H3
theorem W7{o i:Expr}{to ti:TE}{t:ZcX}(ho:PE X o to)(hi:PE X i ti)(hs:ZhP X t)
  (ha:∀v,assign (.Subscript o i pos) X.env v=(do
   let ov←holding [v] (eval o X.env)
   let iv←holding [v,ov] (eval i X.env)
   standAt pos
   holding [v,ov,iv] (setItem ov iv v)
   release [v,ov,iv] []):=by intro _;rfl):PG X (.Subscript o i pos) (Zlf to ti t):=by
 intro pins s σ H v u Q I r h;rw[ha];refine wpAny_bind (wpAny_holding (thn (ho pins s σ H _ I h) fun ov s1 ⟨x,H1,I1,r1,q1⟩=>?_));refine wpAny_bind (wpAny_holding (thn (hi pins s1 σ H1 _ I1 q1) fun iv s2 ⟨y,H2,I2,r2,q2⟩=>?_));refine wpAny_bind (wpAny_standAt (wpAny_bind (wpAny_holding (thn (hs pins s2 σ H2 x y v ov iv u _ I2 r1 r2 r q2) fun _ s3 ⟨H3,I3,q3⟩=>?_))));exact wpAny_release ⟨σ,H3,I3,q3⟩
noncomputable def Ze4 (te:TE) (g:TG):TS:=fun D σ H=>te σ H fun x H1=>g x σ H1 D.nx
theorem Wg{tg e:Expr}{te:TE}{g:TG}(he:PE X e te)(hg:PG X tg g)(hs:swapsWithSole [tg] e pos.line X.env=pure false:=by rfl)(hw:swappedStores [tg] e X.env=pure none:=by rfl)
  (h1:(assignEach [tg] X.env).map (·.2)=[assign tg X.env]:=by rfl):PS X (.Assign [tg] e pos) (Ze4 te g):=by
 intro pins s σ H D I h;refine wpAny_Assign_stores (thn (he pins s σ H _ I h) fun v s1 ⟨x,H1,I1,r1,q1⟩=>?_) hs hw;rw[h1];exact thn (hg pins s1 σ H1 x v _ I1 r1 q1) fun _ s2 q=>q
theorem Zs{i:Nat}{x:Str}{e:Expr}{te:TE}{pos':Pos}(hN:X.N.Nodup)(hi:X.N[i]? =some x)(hx:Loc X.env.scope x)(he:PE X e te)(hs:swapsWith e (some (.Name x pos')) pos.line X.env=pure false:=by rfl)(hf:X.fn x=true∨X.env.scope.names.lookup x=some .local:=by first|exact .inl rfl|exact .inr rfl|assumption):
  PS X (.Assign [.Name x pos'] e pos) (Ze4 te (UT i)):=by
 intro pins s σ H D I h;refine wpAny_Assign_Name (thn (he pins s σ H _ I h) fun v s1 ⟨y,H1,I1,r1,q1⟩=>?_) hs;exact ZcQ I1 hN hi hx r1 (fun s2 I2=>⟨_,H1,I2,q1⟩) hf
noncomputable def Znd (i:Nat) (te:TE) (ti:TIp):TS:=fun D σ H=>∃x,σ[i]? =some (some x)∧te σ H fun y H1=>ti x y H1 fun z H2=>D.nx (σ.set i (some z)) H2
theorem ZlN{i:Nat}{x:Str}{e:Expr}{te:TE}{op:Operator}{ti:TIp}{pos':Pos}(hN:X.N.Nodup)(hi:X.N[i]? =some x)(hx:Loc X.env.scope x)(he:PE X e te)(ho:PIp X op ti)(hf:X.fn x=true∨X.env.scope.names.lookup x=some .local:=by first|exact .inl rfl|exact .inr rfl|assumption):
  PS X (.AugAssign (.Name x pos') op e pos) (Znd i te ti):=by
 intro pins s σ H D I h;obtain⟨v,e1,h⟩:=h;obtain⟨m,hn,hl⟩:=I.loc;have vis:Vis X.env.scope x:=by rcases hx with k|k;exact .inl k;exact .inr (.inl k)
 obtain⟨u,r,l⟩:=hl i x v hi e1 vis;refine wpAny_AugAssign_Name ?_;have go:wpAny (model X.prog X.w) X.A (eval e X.env) (fun w s₂=>wpAny (model X.prog X.w) X.A (inplaceOp op u w) (fun r s₃=>wpAny (model X.prog X.w) X.A (storeName X.env x r) (fun _=>SP X pins D .next) X.xe s₃) X.xe s₂) X.xe s:=by
  refine thn (he pins s σ H _ I h) fun w s1 ⟨y,H1,I1,r1,q1⟩=>?_;refine thn (ho pins s1 σ H1 v y u w _ I1 r r1 q1) fun z s2 ⟨zv,H2,I2,r2,q2⟩=>?_;exact ZcQ I2 hN hi hx r2 (fun s3 I3=>⟨_,H2,I3,q2⟩) hf
 rcases l with⟨hk,hm⟩|⟨hk,c,hc,hcell⟩
 ·exact wpAny_loadName_local I.ok.kind hk hn hm go
 ·rcases hk with hk|hk
  ·exact wpAny_loadName_cell I.ok.kind hk hc hcell go
  ·rcases hx with k|k
   ·have:X.env.scope.names.lookup x=some .free:=hk;rw[k] at this;cases this
   ·have:X.env.scope.names.lookup x=some .free:=hk;rw[k] at this;cases this
noncomputable def Zkd (to ti te:TE) (tget:V→V→Hp→VK→Prop) (tip:TIp) (tset:ZcX):TS:=fun D σ H=>to σ H fun o H1=>ti σ H1 fun i H2=>tget o i H2 fun x H3=>te σ H3 fun y H4=>tip x y H4 fun z H5=>tset o i z H5 fun H6=>D.nx σ H6
def Zjo(X:Cx)(t:V→V→Hp→VK→Prop):Prop:=
 ∀(pins:List (Addr×Obj))(s:Shared)(σ:St)(H:Hp)(o i:V)(ov iv:Value)(Q:VK),Inv X pins σ H s→ZG o ov→ZG i iv→t o i H Q→
  wpAny (model X.prog X.w) X.A (getItem ov iv) (EP X pins σ Q) X.xe s
theorem Zeb{o i e:Expr}{to ti te:TE}{tget:V→V→Hp→VK→Prop}{tip:TIp}{tset:ZcX}{op:Operator}{tpos:Pos}(ho:PE X o to)(hi:PE X i ti)(hg:Zjo X tget)(he:PE X e te)(hp:PIp X op tip)(hs:ZhP X tset)
  (ha:∀ov iv new,augStore i ov iv new=(do holding [new,ov,iv] (setItem ov iv new);release [new,ov,iv] [];pure .next):=by intros;rfl):PS X (.AugAssign (.Subscript o i tpos) op e pos) (Zkd to ti te tget tip tset):=by
 intro pins s σ H D I h;refine wpAny_AugAssign_SubscriptAny (thn (ho pins s σ H _ I h) fun ov s1 ⟨x1,H1,I1,r1,q1⟩=>?_) ha;refine thn (hi pins s1 σ H1 _ I1 q1) fun iv s2 ⟨x2,H2,I2,r2,q2⟩=>?_;refine thn (hg pins s2 σ H2 x1 x2 ov iv _ I2 r1 r2 q2) fun old s3 ⟨x3,H3,I3,r3,q3⟩=>?_;refine thn (he pins s3 σ H3 _ I3 q3) fun v s4 ⟨x4,H4,I4,r4,q4⟩=>?_;refine thn (hp pins s4 σ H4 x3 x4 old v _ I4 r3 r4 q4) fun new s5 ⟨x5,H5,I5,r5,q5⟩=>?_;exact thn (hs pins s5 σ H5 x1 x2 x5 ov iv new _ I5 r1 r2 r5 q5) fun _ s6 ⟨H6,I6,q6⟩=>⟨σ,H6,I6,q6⟩
noncomputable def ipI (f:Int→Int→Int):TIp:=fun x y H Q=>∃i j,x= .int i∧y= .int j∧Q (.int (f i j)) H
theorem ZiG:PIp X .Add (ipI fun i j=>i+j):=by
 intro pins s σ H x y v u Q I r1 r2 h;obtain⟨i,j,e1,e2,q⟩:=h;subst e1;subst e2;obtain⟨t,rfl⟩:=r1;obtain⟨t',rfl⟩:=r2;exact iadd_int ⟨.int _,H,I.tok _,⟨_,rfl⟩,q⟩
theorem ZhZ:PIp X .Sub (ipI fun i j=>i-j):=by
 intro pins s σ H x y v u Q I r1 r2 h;obtain⟨i,j,e1,e2,q⟩:=h;subst e1;subst e2;obtain⟨t,rfl⟩:=r1;obtain⟨t',rfl⟩:=r2;exact isub_int ⟨.int _,H,I.tok _,⟨_,rfl⟩,q⟩
end
section
variable {X:Cx}{pos:Pos}
noncomputable def ZhU (c:TT) (tb:TS):TS:=fun D σ H=>∃W:Nat→St→Hp→Prop,(∃m,W m σ H)∧∀m σ H,W m σ H→
 c σ H fun b H1=>if b=true then ∃N:St→Hp→Prop,(∀σ' H',N σ' H'→∃m',m'<m∧W m' σ' H')∧tb {D with nx:=N,ct:=N,bk:=D.nx} σ H1 else D.nx σ H1
theorem Zaq{c:Expr}{body:List Stmt}{tc:TT}{tb:TS}(hp:PassesOwn (model X.prog X.w) X.A X.env X.xe)(hc:PT X c tc)(hb:PSs X body tb):PS X (.While c body [] pos) (ZhU tc tb):=by
 intro pins s σ H D I h;obtain⟨W,⟨m0,w0⟩,turn⟩:=h;refine wpAny_While (codeAny_whileLoop (fun n s'=>∃σ' H',Inv X pins σ' H' s'∧W n σ' H') ?_ m0 ⟨σ,H,I,w0⟩);rintro n s1 ⟨σ1,H1,I1,w1⟩;refine wpAny_passesOwn hp (thn (hc pins s1 σ1 H1 _ I1 (turn n σ1 H1 w1)) fun b s2 ⟨H2,I2,q2⟩=>?_);cases b with
 |true=>
  obtain⟨N,hN,q2⟩:=q2;rw[if_pos rfl];refine wpAny_passesOwn hp (thn (hb pins s2 σ1 H2 _ I2 q2) fun f s3 q3=>?_);cases f with
  |next=>
   obtain⟨σ3,H3,I3,n3⟩:=q3;obtain⟨m',hm,w3⟩:=hN σ3 H3 n3;exact⟨m',hm,σ3,H3,I3,w3⟩
  |cont=>
   obtain⟨σ3,H3,I3,n3⟩:=q3;obtain⟨m',hm,w3⟩:=hN σ3 H3 n3;exact⟨m',hm,σ3,H3,I3,w3⟩
  |brk=>exact q3
  |ret v=>exact q3
 |false=>
  rw[if_neg Bool.false_ne_true];exact wpAny_execs_nil ⟨σ1,H2,I2,q2⟩
end
structure It where
 go:Nat→Hp→Prop
 yld:Nat→Hp→V→Hp→Prop
 stop:Nat→Hp→Prop
def W2(X:Cx)(pins:List (Addr×Obj))(H:Hp)(b:Addr):Prop:=
 H b=none∧b≠X.env.locals∧b∉X.fs∧(b∈X.ex∨X.s₀.heap.objs.size≤b)∧(∀x c,X.env.cells.lookup x=some c→c≠b)∧∀p∈X.pn++pins,p.1≠b
theorem Inv.fpOk{X:Cx}{pins:List (Addr×Obj)}{σ:St}{H H':Hp}{s:Shared}{b:Addr}(I:Inv X pins σ H s)(hb:s.heap.objs.size≤b)(hn:H' b=none):W2 X pins H' b:=by
 refine⟨hn,Nat.ne_of_gt (Nat.lt_of_lt_of_le I.lt hb),I.nofs hb,.inr (Nat.le_trans I.sz hb),fun x c e z=>?_,fun p hp z=>?_⟩
 ·obtain⟨v,q⟩:=I.cell x c e;exact absurd (Nat.lt_of_lt_of_le q.lt (by rw[z];exact hb)) (Nat.lt_irrefl _)
 ·exact absurd (Nat.lt_of_lt_of_le (Heap.lt_size (I.pin p hp).1) (by rw[z];exact hb)) (Nat.lt_irrefl _)
structure Zbr(P:Program)(w:World)(K:PySem.W.Frag)(tg:Expr)(J:It)(fp:List Addr)(it:Addr)(tn:Nat→Heap→Prop):Prop where
 mem:it∈fp
 obj:∀i h,tn i h→∀b∈fp,∃o,h.get? b=some o∧∀v,o.data≠ .cell v
 keep:∀i h h',tn i h→(∀b∈fp,∀o,h.get? b=some o→h'.get? b=some o)→tn i h'
 item:∀(X:Cx),X.prog=P→X.w=w→X.K=K→X.calm=true→∀(i:Nat)(pins:List (Addr×Obj))(s:Shared)(σ:St)(H:Hp)(E:Value→Shared→Prop),Inv X pins σ H s→(∀b∈fp,W2 X pins H b)→tn i s.heap→J.go i H→
  wpAny (model P w) X.A (pyNext (.ref it)) (fun r s1=>∃u,r=some u∧
   wpAny (model P w) X.A (letOwnedTupleGo tg (.ref it) u) (fun _ s2=>∃x H',Inv X pins σ H' s2∧ZG x u∧J.yld i H x H'∧tn (i+1) s2.heap∧∀b∈fp,H' b=none) E s1) E s
 done:∀(X:Cx),X.prog=P→X.w=w→X.K=K→X.calm=true→∀(i:Nat)(pins:List (Addr×Obj))(s:Shared)(σ:St)(H:Hp)(E:Value→Shared→Prop),Inv X pins σ H s→(∀b∈fp,W2 X pins H b)→tn i s.heap→J.stop i H→
  wpAny (model P w) X.A (pyNext (.ref it)) (fun r s1=>r=none∧Inv X pins σ H s1) E s
 self:∀(A:Around)(i:Nat)(s:Shared)(Q:Value→Shared→Prop)(E:Value→Shared→Prop),tn i s.heap→Q (.ref it) s→wpAny (model P w) A (pyIter (.ref it)) Q E s
noncomputable abbrev TI:=St→Hp→(It→Hp→Prop)→Prop
def PIE(X:Cx)(pins:List (Addr×Obj))(σ:St)(tg:Expr)(R:It→Hp→Prop)(itv:Value)(s2:Shared):Prop:=
 ∃(it:Addr)(fp:List Addr)(tn:Nat→Heap→Prop)(J:It)(H':Hp),itv= .ref it∧Inv X pins σ H' s2∧Zbr X.prog X.w X.K tg J fp it tn∧tn 0 s2.heap∧(∀b∈fp,W2 X pins H' b)∧R J H'
def PI(X:Cx)(tg iter:Expr)(wi:TI):Prop:=
 ∀(pins:List (Addr×Obj))(s:Shared)(σ:St)(H:Hp)(R:It→Hp→Prop),Inv X pins σ H s→wi σ H R→
  wpAny (model X.prog X.w) X.A (eval iter X.env) (fun v s1=>wpAny (model X.prog X.w) X.A (pyIter v) (PIE X pins σ tg R) X.xe s1) X.xe s
theorem ZeX{M:Model}{A:Around}{E:Value→Shared→Prop}{s:Shared}{tg:Expr}{it:Addr}{u:Value}{o:Obj}{n:String}{vs:Array Value}{Q:Unit→Shared→Prop}(ho:s.heap.get? it=some o)(hc:o.cls= .type n)(hd:o.data= .fields vs)
  (hn:["enumerate","zip","dict_itemiterator","dict_reverseitemiterator","odict_iterator","itertools.zip_longest","itertools.pairwise"].contains n=false) (hQ:Q () s):wpAny M A (letOwnedTupleGo tg (.ref it) u) Q E s:=by
 unfold letOwnedTupleGo;cases tg<;>first
  |exact wpAny_pure hQ
  |(cases u<;>first
    |exact wpAny_pure hQ
    |(refine wpAny_bind (wpAny_load ho ?_)
      rw[hc,hd];show wpAny M A (if(["enumerate","zip","dict_itemiterator","dict_reverseitemiterator","odict_iterator","itertools.zip_longest","itertools.pairwise"].contains n&&vs[0]? ==some (rawInt _))=true then _ else _) Q E s;rw[if_neg (by intro h;rw[hn,Bool.false_and] at h;cases h)];exact wpAny_pure hQ))
noncomputable def Itl (K:PySem.W.Frag) (a:Addr):It:=
 ⟨fun i H=>∃xs x,SqL K H a xs∧xs[i]? =some x,fun i H x H'=>H'=H∧∀xs,SqL K H a xs→xs[i]? =some x,fun i H=>∃xs,SqL K H a xs∧xs.length≤i⟩
noncomputable def Itr (lo:Int) (n:Nat):It:=⟨fun i _=>i<n,fun i H x H'=>H'=H∧x= .int (lo+i),fun i _=>n≤i⟩
theorem Zis{P:Program}{w:World}{K:PySem.W.Frag}{tg:Expr}(a it:Addr):Zbr P w K tg (Itl K a) [it] it (fun i h=>h.IsListIter it a i) where
 mem:=by simp
 obj:=fun i h st b hb=>by
  have e:b=it:=by simpa using hb
  subst e;obtain⟨o,e,c,d⟩:=st;exact⟨o,e,fun v z=>by rw[d] at z;cases z⟩
 keep:=fun i h h' st k=>st.at fun o e=>k it (by simp) o e
 item:=by
  intro X hP hw hK hc i pins s σ H E I hf st hg;subst hP hw hK;obtain⟨xs,x,hq,hx⟩:=hg;obtain⟨its,rv,p,hz⟩:=I.list hq;obtain⟨u,hu,ru⟩:=rv.get hx;obtain⟨f0,f1,f2,f3,f4,f5⟩:=hf it (by simp);refine wpAny_pyNext_list_item st p.isList (x:=u) (by simpa using hu) fun h' st' sb=>?_;have I1:Inv X pins σ H {s with heap:=h'}:=I.turned (t':=s.toks) (fun b o hb e=>(sb.2 b hb).trans e) f0 f1 f3 f4 f5;obtain⟨o,e,c,d⟩:=id st';exact⟨u,rfl,ZeX (s:={s with heap:=h'}) e c d (by decide) ⟨x,H,I1,ru,⟨rfl,fun ys hy=>by rw[I.list_inj hy hq];exact hx⟩,st',fun b hb=>(hf b hb).1⟩⟩
 done:=by
  intro X hP hw hK hc i pins s σ H E I hf st hg;subst hP hw hK;obtain⟨xs,hq,hx⟩:=hg;obtain⟨its,rv,p,hz⟩:=I.list hq;obtain⟨f0,f1,f2,f3,f4,f5⟩:=hf it (by simp);have hl:=rv.length;exact wpAny_pyNext_list_end (I.ok.hd hc) st p.isList (by simp;omega) fun h' eb=>⟨rfl,I.turned (t':=s.toks) (fun b o hb e=>eb b o hb e) f0 f1 f3 f4 f5⟩
 self:=fun _ _ _ _ _ st h=>wpAny_pyIter_listiter st h
theorem Zhy{P:Program}{w:World}{K:PySem.W.Frag}{tg:Expr}(it:Addr)(lo:Int)(n:Nat):Zbr P w K tg (Itr lo n) [it] it (fun i h=>IsRangeIter h it (lo+(i:Nat)*1) ((n:Int)-(i:Nat)) 1) where
 mem:=by simp
 obj:=fun i h st b hb=>by
  have e:b=it:=by simpa using hb
  subst e;exact⟨_,st,fun v z=>by
   have z':Data.fields _=Data.cell v:=z;cases z'⟩
 keep:=fun i h h' st k=>k it (by simp) _ st
 item:=by
  intro X hP hw hK hc i pins s σ H E I hf st hg;subst hP hw hK;obtain⟨f0,f1,f2,f3,f4,f5⟩:=hf it (by simp);have W:=Walks.range (prog:=X.prog) (w:=X.w) (I.ok.hd hc) it lo 1 n;refine W.item i s _ _ hg st fun v h' tk hv st' kk=>?_;obtain⟨t,rfl⟩:=hv;have I1:Inv X pins σ H {s with heap:=h',toks:=tk}:=I.turned (fun b o hb e=>kk b o (by simpa using hb) e) f0 f1 f3 f4 f5;refine⟨_,rfl,ZeX (s:={s with heap:=h',toks:=tk}) (n:="range_iterator") st' rfl rfl (by decide) ⟨.int (lo+i),H,I1,⟨t,?_⟩,⟨rfl,rfl⟩,st',fun b hb=>(hf b hb).1⟩⟩;rw[Int.mul_one]
 done:=by
  intro X hP hw hK hc i pins s σ H E I hf st hg;subst hP hw hK;obtain⟨f0,f1,f2,f3,f4,f5⟩:=hf it (by simp);exact wpAny_pyNext_range_end (I.ok.hd hc) st (by have:n≤i:=hg;omega) fun h' eb=>⟨rfl,I.turned (t':=s.toks) (fun b o hb e=>eb b o hb e) f0 f1 f3 f4 f5⟩
 self:=fun _ _ _ _ _ st h=>wpAny_pyIter_rangeiter st h
end L2
namespace L2
open PySem PySem.Spec PyProof.Rows
section
variable {X:Cx}{tg:Expr}
noncomputable def Zhc (K:PySem.W.Frag) (tl:TE):TI:=fun σ H R=>tl σ H fun x H1=>∃a,x= .ref a∧(∃xs,SqL K H1 a xs)∧R (Itl K a) H1
theorem Zkt{l:Expr}{tl:TE}(hl:PE X l tl):PI X tg l (Zhc X.K tl):=by
 intro pins s σ H R I h;refine thn (hl pins s σ H _ I h) fun v s1 ⟨x,H1,I1,r1,q1⟩=>?_;obtain⟨a,e,⟨xs,hq⟩,q⟩:=q1;subst e;cases r1;obtain⟨its,rv,p,hz⟩:=I1.list hq;refine wpAny_pyIter_list p.isList ?_;refine⟨s1.heap.objs.size,[s1.heap.objs.size],_,_,H1,rfl,I1.kept (t':=s1.toks) fun b o e=>Heap.get?_push_of_some _ e,Zis a _,⟨_,Heap.get?_push_size _ rfl,rfl,rfl⟩,fun b hb=>?_,q⟩;have e:b=s1.heap.objs.size:=by simpa using hb
 subst e;exact I1.fpOk (Nat.le_refl _) (I1.hok.fresh (Nat.le_refl _))
theorem ZjH{pins:List (Addr×Obj)}{σ:St}{H:Hp}{s:Shared}{R:It→Hp→Prop}{E:Value→Shared→Prop}{lo hi:Int}{t u v:Tok}{tk:Nat}(I:Inv X pins σ H s)(h1: -(2 ^ 62)≤lo)(h2:lo<2 ^ 62)(h3: -(2 ^ 62)≤hi)(h4:hi<2 ^ 62)
  (q:R (Itr lo (hi-lo).toNat) H):wpAny (model X.prog X.w) X.A (pyIter (.ref s.heap.objs.size)) (PIE X pins σ tg R) E {s with heap:=s.heap.push {cls:= .type "range",data:= .fields #[.int lo t,.int hi u,.int 1 v]},toks:=tk}:=by
 refine wpAny_pyIter_range (IsRange.new ..) (small_one h1 h2 h3 h4) ?_;have I1:Inv X pins σ H {s with heap:=s.heap.push {cls:= .type "range",data:= .fields #[.int lo t,.int hi u,.int 1 v]},toks:=tk}:=I.kept fun b o e=>Heap.get?_push_of_some _ e;refine⟨(s.heap.push {cls:= .type "range",data:= .fields #[.int lo t,.int hi u,.int 1 v]}).objs.size,[(s.heap.push {cls:= .type "range",data:= .fields #[.int lo t,.int hi u,.int 1 v]}).objs.size],_,_,H,rfl,
  I1.kept (t':=tk) fun b o e=>Heap.get?_push_of_some _ e,Zhy _ lo (hi-lo).toNat,?_,fun b hb=>?_,q⟩
 ·have e1:lo+((0:Nat):Int)*1=lo:=by simp
  have e2:(((hi-lo).toNat:Nat):Int)-((0:Nat):Int)=Builtin.Range.rangeSize lo hi 1:=by rw[rangeSize_one];split<;>omega
  show IsRangeIter _ _ (lo+((0:Nat):Int)*1) ((((hi-lo).toNat:Nat):Int)-((0:Nat):Int)) 1;rw[e1,e2];exact Heap.get?_push_size _ rfl
 ·have e:b=(s.heap.push {cls:= .type "range",data:= .fields #[.int lo t,.int hi u,.int 1 v]}).objs.size:=by simpa using hb
  subst e;exact I1.fpOk (Nat.le_refl _) (I1.hok.fresh (Nat.le_refl _))
noncomputable def Zj8 (ta:TA):TI:=fun σ H R=>ta σ H fun vs H1=>∃j:Int,vs=[.int j]∧ -(2 ^ 62)≤j∧j<2 ^ 62∧R (Itr 0 j.toNat) H1
theorem Z4{a:Expr}{ta:TA}{p pos:Pos}(hg:Gl X "range")(hm:X.mg "range" =none)(ha:PA X [a] ta)(hs:starEach [a] X.env=[(false,eval a X.env)]:=by rfl):PI X tg (.Call (.Name "range" p) [a] [] pos) (Zj8 ta):=by
 intro pins s σ H R I h;refine Call_ (Zae I hg hm boot_range (PyProof.Rows.callWith_type1 (thn (ha pos pins s σ H _ I h) fun us s1 ⟨vs,H1,I1,r1,q1⟩=>?_) hs rfl));obtain⟨j,e,q1,q2,q⟩:=q1;subst e;cases r1 with
 |cons r rr=>
  cases rr;obtain⟨t,rfl⟩:=r;exact call_range_1 (ZjH I1 (by omega) (by omega) q1 q2 (by simpa using q))
noncomputable def ZlA (wi:TI) (g:TG) (tb:TS):TS:=fun D σ H=>wi σ H fun J H1=>∃W:Nat→Nat→St→Hp→Prop,(∃m,W 0 m σ H1)∧∀i m σ H,W i m σ H→
 (J.stop i H∧D.nx σ H)∨(J.go i H∧∃N:St→Hp→Prop,(∀σ' H',N σ' H'→∃m',m'<m∧W (i+1) m' σ' H')∧∀x H',J.yld i H x H'→g x σ H' fun σ2 H2=>tb {D with nx:=N,ct:=N,bk:=D.nx} σ2 H2)
noncomputable def ZaX (fp:List Addr) (h:Heap):List (Addr×Obj):=fp.filterMap fun b=>(h.get? b).map fun o=>(b,o)
theorem Vg{fp:List Addr}{h:Heap}{b:Addr}{o:Obj}(hb:b∈fp)(e:h.get? b=some o):(b,o)∈ZaX fp h:=List.mem_filterMap.mpr ⟨b,hb,by rw[e];rfl⟩
theorem Zii{fp:List Addr}{h:Heap}{p:Addr×Obj}(hp:p∈ZaX fp h):p.1∈fp∧h.get? p.1=some p.2:=by
 obtain⟨b,hb,e⟩:=List.mem_filterMap.mp hp;cases q:h.get? b with
 |none=>rw[q] at e;cases e
 |some o=>
  rw[q] at e;have e':(b,o)=p:=Option.some.inj e;subst e';exact⟨hb,q⟩
theorem Inv.pinned{pins:List (Addr×Obj)}{σ:St}{H:Hp}{s:Shared}{fp:List Addr}(I:Inv X pins σ H s)(hf:∀b∈fp,W2 X pins H b)(ho:∀b∈fp,∃o,s.heap.get? b=some o∧∀v,o.data≠ .cell v):Inv X (pins++ZaX fp s.heap) σ H s:=
 I.pins_of fun p hp=>(List.mem_append.mp hp).elim (fun z=>I.pin p (List.mem_append_right _ z)) fun z=>by
  obtain⟨hb,e⟩:=Zii z;obtain⟨f0,f1,f2,_⟩:=hf p.1 hb;obtain⟨o,e',d⟩:=ho p.1 hb;rw[e] at e';cases e';exact⟨e,f0,f1,f2,d⟩
theorem Inv.unpinned{pins pl:List (Addr×Obj)}{σ:St}{H:Hp}{s:Shared}(I:Inv X (pins++pl) σ H s):Inv X pins σ H s:=I.pins_of fun p hp=>I.pin p (List.mem_append_right _ (List.mem_append_left _ hp))
theorem Z5{iter:Expr}{body:List Stmt}{wi:TI}{g:TG}{tb:TS}{pos:Pos}(hp:PassesOwn (model X.prog X.w) X.A X.env X.xe)(hc:X.calm=true)(hi:PI X tg iter wi)(hg:PG X tg g)(hb:PSs X body tb)
  (hs:∀x,foldedSetIterable iter X.env x=pure x:=by intro _;rfl):PS X (.For tg iter body [] pos) (ZlA wi g tb):=by
 intro pins s σ H D I h;refine wpAny_For (thn (hi pins s σ H _ I h) fun v s1 h1=>thn h1 fun itv s2 h2=>?_) hs;obtain⟨it,fp,tn,J,H2,e,I2,T,st2,f2,W,⟨m0,w0⟩,turn⟩:=h2;subst e;have stat:∀{H':Hp},(∀b∈fp,H' b=none)→∀b∈fp,W2 X pins H' b:=fun hn b hb=>⟨hn b hb,(f2 b hb).2⟩;refine codeAny_forLoop_any (fun n s'=>∃i σ' H',Inv X pins σ' H' s'∧tn i s'.heap∧(∀b∈fp,H' b=none)∧W i n σ' H') ?_ m0 ⟨0,σ,H2,I2,st2,fun b hb=>(f2 b hb).1,w0⟩;rintro n s3 ⟨i,σ3,H3,I3,st3,fr3,w3⟩;rcases turn i n σ3 H3 w3 with⟨stop,qn⟩|⟨go,N,hN,step⟩
 ·refine wpAny_passesOwn hp (thn (T.done X rfl rfl rfl hc i pins s3 σ3 H3 X.xe I3 (stat fr3) st3 stop) fun r s4 ⟨hr,I4⟩=>?_);subst hr;exact wpAny_execs_nil ⟨σ3,H3,I4,qn⟩
 ·refine wpAny_passesOwn hp (thn (T.item X rfl rfl rfl hc i pins s3 σ3 H3 X.xe I3 (stat fr3) st3 go) fun r s4 ⟨u,hr,h4⟩=>?_);subst hr;refine wpAny_passesOwn hp (thn h4 fun _ s5 ⟨x,H5,I5,r5,y5,st5,fr5⟩=>?_);have I5':=I5.pinned (stat fr5) (T.obj _ _ st5);refine wpAny_passesOwn hp (thn (hg _ s5 σ3 H5 x u _ I5' r5 (step x H5 y5)) fun _ s6 ⟨σ6,H6,I6,q6⟩=>?_);refine wpAny_passesOwn hp (thn (hb _ s6 σ6 H6 _ I6 q6) fun f s7 q7=>?_);have again:∀{σ7:St}{H7:Hp},Inv X (pins++ZaX fp s5.heap) σ7 H7 s7→N σ7 H7→∃m,m<n∧∃i σ' H',Inv X pins σ' H' s7∧tn i s7.heap∧(∀b∈fp,H' b=none)∧W i m σ' H':=fun{σ7 H7} I7 n7=>by
   obtain⟨m',hm,w7⟩:=hN σ7 H7 n7;refine⟨m',hm,i+1,σ7,H7,I7.unpinned,T.keep _ _ _ st5 fun b hb o e=>(I7.pin (b,o) (List.mem_append_right _ (List.mem_append_right _ (Vg hb e)))).1,fun b hb=>?_,w7⟩;obtain⟨o,e,d⟩:=T.obj _ _ st5 b hb;exact(I7.pin (b,o) (List.mem_append_right _ (List.mem_append_right _ (Vg hb e)))).2.1
  cases f with
  |next=>obtain⟨σ7,H7,I7,n7⟩:=q7;exact again I7 n7
  |cont=>obtain⟨σ7,H7,I7,n7⟩:=q7;exact again I7 n7
  |brk=>obtain⟨σ7,H7,I7,q7⟩:=q7;exact⟨σ7,H7,I7.unpinned,q7⟩
  |ret v=>obtain⟨x7,σ7,H7,I7,r7,q7⟩:=q7;exact⟨x7,σ7,H7,I7.unpinned,r7,q7⟩
end
theorem YL{lo:Int}{n:Nat}{g:TG}{tb:TS}{D:Vz}{σ:St}{H:Hp}(Pv:Nat→St→Hp→Prop)(h0:Pv 0 σ H)
  (hs:∀i σ H,i<n→Pv i σ H→g (.int (lo+i)) σ H fun σ2 H2=>tb {D with nx:=Pv (i+1),ct:=Pv (i+1),bk:=D.nx} σ2 H2) (hd:∀σ H,Pv n σ H→D.nx σ H):
  ∃W:Nat→Nat→St→Hp→Prop,(∃m,W 0 m σ H)∧∀i m σ H,W i m σ H→
   ((Itr lo n).stop i H∧D.nx σ H)∨((Itr lo n).go i H∧∃N:St→Hp→Prop,(∀σ' H',N σ' H'→∃m',m'<m∧W (i+1) m' σ' H')∧∀x H',(Itr lo n).yld i H x H'→g x σ H' fun σ2 H2=>tb {D with nx:=N,ct:=N,bk:=D.nx} σ2 H2):=by
 refine⟨fun i m σ H=>m=n-i∧i≤n∧Pv i σ H,⟨n,by simp,Nat.zero_le _,h0⟩,?_⟩;rintro i m σ H ⟨rfl,hi,p⟩
 by_cases hlt:i<n
 ·refine .inr ⟨hlt,Pv (i+1),fun σ' H' p'=>⟨n-(i+1),by omega,rfl,hlt,p'⟩,fun x H' y=>?_⟩;obtain⟨e,y⟩:=y;subst e y;exact hs i σ _ hlt p
 ·have e:i=n:=by omega
  subst e;exact .inl ⟨Nat.le_refl _,hd σ H p⟩
end L2
namespace L2
open PySem PySem.Spec PyProof.Rows
noncomputable abbrev R2:=V→V→Hp→VK→Prop
def OpR(X:Cx)(f:Value→Value→Sem Value)(r:R2):Prop:=
 ∀(pins:List (Addr×Obj))(s:Shared)(σ:St)(H:Hp)(x y:V)(v u:Value)(Q:VK),Inv X pins σ H s→ZG x v→ZG y u→r x y H Q→
  wpAny (model X.prog X.w) X.A (f v u) (EP X pins σ Q) X.xe s
def Wl(X:Cx)(f:Value)(r:List V→Hp→VK→Prop):Prop:=
 ∀(pins:List (Addr×Obj))(s:Shared)(σ:St)(H:Hp)(xs:List V)(us:List Value)(Q:VK),Inv X pins σ H s→ZF xs us→r xs H Q→
  wpAny (model X.prog X.w) X.A (call f us) (EP X pins σ Q) X.xe s
def ZmO(X:Cx)(r:V→Hp→(Bool→Hp→Prop)→Prop):Prop:=
 ∀(pins:List (Addr×Obj))(s:Shared)(σ:St)(H:Hp)(x:V)(v:Value)(Q:Bool→Hp→Prop),Inv X pins σ H s→ZG x v→r x H Q→
  wpAny (model X.prog X.w) X.A (truthy v) (TP X pins σ Q) X.xe s
noncomputable def tOp (r:R2) (ta tb:TE):TE:=fun σ H Q=>ta σ H fun x H1=>tb σ H1 fun y H2=>r x y H2 Q
noncomputable def rI (C:Int→Int→Prop) (g:Int→Int→V):R2:=fun x y H Q=>∃i j,x= .int i∧y= .int j∧C i j∧Q (g i j) H
noncomputable def rI0 (g:Int→Int→V):R2:=fun x y H Q=>∃i j,x= .int i∧y= .int j∧Q (g i j) H
section
variable {X:Cx}{a b c:Expr}{ta tb tc:TE}{pos:Pos}
theorem ZjR(ha:PE X a ta)(hb:PE X b tb){pins:List (Addr×Obj)}{s:Shared}{σ:St}{H:Hp}{R:V→V→Hp→Prop}(I:Inv X pins σ H s)
  (h:ta σ H fun x H1=>tb σ H1 fun y H2=>R x y H2) {Q:Value→Shared→Prop} {f:Value→Value→Sem Value}
  (hf:∀v u s2 x y H2,Inv X pins σ H2 s2→ZG x v→ZG y u→R x y H2→wpAny (model X.prog X.w) X.A (f v u) Q X.xe s2):
  wpAny (model X.prog X.w) X.A (eval a X.env) (fun v s₁=>wpAny (model X.prog X.w) X.A (eval b X.env) (fun u s₂=>wpAny (model X.prog X.w) X.A (f v u) Q X.xe s₂) X.xe s₁) X.xe s:=by
 refine thn (ha pins s σ H _ I h) fun v s1 ⟨x,H1,I1,r1,q1⟩=>?_;refine thn (hb pins s1 σ H1 _ I1 q1) fun u s2 ⟨y,H2,I2,r2,q2⟩=>?_;exact hf v u s2 x y H2 I2 r1 r2 q2
theorem Zv{op:Operator}{r:R2}(ho:OpR X (binaryOp op) r)(ha:PE X a ta)(hb:PE X b tb):PE X (.BinOp a op b pos) (tOp r ta tb):=by
 intro pins s σ H Q I h;exact wpAny_BinOp (ZjR ha hb I h fun v u s2 x y H2 I2 rx ry q=>ho pins s2 σ H2 x y v u Q I2 rx ry q)
theorem opI{f:Value→Value→Sem Value}{C:Int→Int→Prop}{g:Int→Int→Int}
  (rule:∀(i j:Int)(t u:Tok)(s:Shared)(Q:Value→Shared→Prop)(E:Value→Shared→Prop),C i j→Q (.int (g i j) s.toks) {s with toks:=s.toks+1}→wpAny (model X.prog X.w) X.A (f (.int i t) (.int j u)) Q E s):
  OpR X f (rI C fun i j=> .int (g i j)):=by
 intro pins s σ H x y v u Q I rx ry h;obtain⟨i,j,rfl,rfl,hc,q⟩:=h;obtain⟨t,rfl⟩:=rx;obtain⟨t',rfl⟩:=ry;exact rule i j t t' s _ _ hc ⟨.int (g i j),H,I.tok _,⟨_,rfl⟩,q⟩
theorem Zk3{f:Value→Value→Sem Value}{g:Int→Int→Int}
  (rule:∀(i j:Int)(t u:Tok)(s:Shared)(Q:Value→Shared→Prop)(E:Value→Shared→Prop),Q (.int (g i j) s.toks) {s with toks:=s.toks+1}→wpAny (model X.prog X.w) X.A (f (.int i t) (.int j u)) Q E s):
  OpR X f (rI0 fun i j=> .int (g i j)):=by
 intro pins s σ H x y v u Q I rx ry h;obtain⟨i,j,rfl,rfl,q⟩:=h;obtain⟨t,rfl⟩:=rx;obtain⟨t',rfl⟩:=ry;exact rule i j t t' s _ _ ⟨.int (g i j),H,I.tok _,⟨_,rfl⟩,q⟩
theorem Zjk{f:Value→Value→Sem Value}{g:Int→Int→Bool}
  (rule:∀(i j:Int)(t u:Tok)(s:Shared)(Q:Value→Shared→Prop)(E:Value→Shared→Prop),Q (.bool (g i j)) s→wpAny (model X.prog X.w) X.A (f (.int i t) (.int j u)) Q E s):
  OpR X f (rI0 fun i j=> .bl (g i j)):=by
 intro pins s σ H x y v u Q I rx ry h;obtain⟨i,j,rfl,rfl,q⟩:=h;obtain⟨t,rfl⟩:=rx;obtain⟨t',rfl⟩:=ry;exact rule i j t t' s _ _ ⟨.bl (g i j),H,I,rfl,q⟩
def Zhs(i j:Int):Prop:=(-(2 ^ 64)<i∧i<2 ^ 64)∨(-(2 ^ 64)<j∧j<2 ^ 64)
theorem Zhs.ok{i j:Int}(h:Zhs i j):IntMulOk i j:=by
 rcases h with⟨h1,h2⟩|⟨h1,h2⟩
 ·exact .of_left (intBits_le_64 h1 h2)
 ·exact .of_right (intBits_le_64 h1 h2)
theorem Zlt:OpR X (binaryOp .Add) (rI0 fun i j=> .int (i+j)):=Zk3 fun _ _ _ _ _ _ _ q=>add_int q
theorem Zau:OpR X (binaryOp .Sub) (rI0 fun i j=> .int (i-j)):=Zk3 fun _ _ _ _ _ _ _ q=>sub_int q
theorem Yi:OpR X (binaryOp .Mod) (rI (fun _ j=>0<j) fun i j=> .int (i % j)):=opI fun i j _ _ _ _ _ hc q=>by
 have h1:(0:Int)<j:=hc;exact mod_int' (by omega) (by rw[Int.fmod_eq_emod_of_nonneg i (by omega)];exact q)
end
noncomputable def Zlq:V→V→Bool
 | .non,.non=>true| .non,.int _=>true| .int _,.non=>true| .non,.bl _=>true| .bl _,.non=>true| .non,.str _=>true| .str _,.non=>true
 | .int _,.int _=>true| .bl _,.bl _=>true| .str _,.str _=>true| .byt _,.byt _=>true
 | .int _,.str _=>true| .str _,.int _=>true| .bl _,.str _=>true| .str _,.bl _=>true
 |_,_=>false
noncomputable def rEq:R2:=fun x y H Q=>Zlq x y=true∧Q (.bl (decide (x=y))) H
noncomputable def rNe:R2:=fun x y H Q=>Zlq x y=true∧Q (.bl (!decide (x=y))) H
theorem ZgK{i j:Int}:decide (V.int i=V.int j)=(i==j):=by
 rw[Bool.eq_iff_iff];simp
theorem ZfM{i j:Bool}:decide (V.bl i=V.bl j)=(i==j):=by
 rw[Bool.eq_iff_iff];simp
theorem ZgI{i j:Str}:decide (V.str i=V.str j)=(i==j):=by
 rw[Bool.eq_iff_iff];simp
theorem Zgy{i j:Array UInt8}:decide (V.byt i=V.byt j)=(i.toList==j.toList):=by
 rw[Bool.eq_iff_iff];cases i;cases j;simp
section
variable {X:Cx}{a b c:Expr}{ta tb tc:TE}{pos:Pos}
theorem ZY{pins:List (Addr×Obj)}{σ:St}{H:Hp}{s:Shared}{Q:VK}{k k':Bool}(I:Inv X pins σ H s)(q:Q (.bl k) H)(e:k=k'):EP X pins σ Q (.bool k') s:=by
 subst e;exact⟨.bl k,H,I,rfl,q⟩
theorem Zmz:OpR X (compareOp .Eq) rEq:=by
 intro pins s σ H x y v u Q I rx ry h;obtain⟨hs,q⟩:=h;cases x with
 |non=>
  cases rx;cases y with
  |non=>cases ry;exact PySem.EqNone.eq_none_none (ZY I q (by simp))
  |bl j=>cases ry;exact PySem.EqNone.eq_none_bool (ZY I q (by simp))
  |int j=>obtain⟨t',rfl⟩:=ry;exact PySem.EqNone.eq_none_int (ZY I q (by simp))
  |str j=>obtain⟨t',rfl⟩:=ry;exact PySem.EqNone.eq_none_str (ZY I q (by simp))
  |_=>exact absurd (show false=true from hs) Bool.false_ne_true
 |bl i=>
  cases rx;cases y with
  |non=>cases ry;exact PySem.EqNone.eq_bool_none (ZY I q (by simp))
  |bl j=>cases ry;exact eq_bool (ZY I q ZfM)
  |str j=>obtain⟨t',rfl⟩:=ry;exact PySem.EqMixed.eq_bool_str (ZY I q (by simp))
  |_=>exact absurd (show false=true from hs) Bool.false_ne_true
 |int i=>
  obtain⟨t,rfl⟩:=rx;cases y with
  |non=>cases ry;exact PySem.EqNone.eq_int_none (ZY I q (by simp))
  |int j=>obtain⟨t',rfl⟩:=ry;exact eq_int (ZY I q ZgK)
  |str j=>obtain⟨t',rfl⟩:=ry;exact PySem.EqMixed.eq_int_str (ZY I q (by simp))
  |_=>exact absurd (show false=true from hs) Bool.false_ne_true
 |str i=>
  obtain⟨t,rfl⟩:=rx;cases y with
  |non=>cases ry;exact PySem.EqNone.eq_str_none (ZY I q (by simp))
  |bl j=>cases ry;exact PySem.EqMixed.eq_str_bool (ZY I q (by simp))
  |int j=>obtain⟨t',rfl⟩:=ry;exact PySem.EqMixed.eq_str_int (ZY I q (by simp))
  |str j=>obtain⟨t',rfl⟩:=ry;exact eq_str (ZY I q ZgI)
  |_=>exact absurd (show false=true from hs) Bool.false_ne_true
 |byt i=>
  obtain⟨t,rfl⟩:=rx;cases y with
  |byt j=>obtain⟨t',rfl⟩:=ry;exact PySem.W.eq_bytes (ZY I q Zgy)
  |_=>exact absurd (show false=true from hs) Bool.false_ne_true
 |_=>cases y<;>exact absurd (show false=true from hs) Bool.false_ne_true
theorem Zmc:OpR X (compareOp .NotEq) rNe:=by
 intro pins s σ H x y v u Q I rx ry h;obtain⟨hs,q⟩:=h;cases x with
 |non=>
  cases rx;cases y with
  |non=>cases ry;exact PySem.EqNone.ne_none_none (ZY I q (by simp))
  |bl j=>cases ry;exact PySem.EqNone.ne_none_bool (ZY I q (by simp))
  |int j=>obtain⟨t',rfl⟩:=ry;exact PySem.EqNone.ne_none_int (ZY I q (by simp))
  |str j=>obtain⟨t',rfl⟩:=ry;exact PySem.EqNone.ne_none_str (ZY I q (by simp))
  |_=>exact absurd (show false=true from hs) Bool.false_ne_true
 |bl i=>
  cases rx;cases y with
  |non=>cases ry;exact PySem.EqNone.ne_bool_none (ZY I q (by simp))
  |bl j=>cases ry;exact ne_bool (ZY I q (congrArg not ZfM))
  |str j=>obtain⟨t',rfl⟩:=ry;exact PySem.EqMixed.ne_bool_str (ZY I q (by simp))
  |_=>exact absurd (show false=true from hs) Bool.false_ne_true
 |int i=>
  obtain⟨t,rfl⟩:=rx;cases y with
  |non=>cases ry;exact PySem.EqNone.ne_int_none (ZY I q (by simp))
  |int j=>obtain⟨t',rfl⟩:=ry;exact ne_int (ZY I q (congrArg not ZgK))
  |str j=>obtain⟨t',rfl⟩:=ry;exact PySem.EqMixed.ne_int_str (ZY I q (by simp))
  |_=>exact absurd (show false=true from hs) Bool.false_ne_true
 |str i=>
  obtain⟨t,rfl⟩:=rx;cases y with
  |non=>cases ry;exact PySem.EqNone.ne_str_none (ZY I q (by simp))
  |bl j=>cases ry;exact PySem.EqMixed.ne_str_bool (ZY I q (by simp))
  |int j=>obtain⟨t',rfl⟩:=ry;exact PySem.EqMixed.ne_str_int (ZY I q (by simp))
  |str j=>obtain⟨t',rfl⟩:=ry;exact ne_str (ZY I q (congrArg not ZgI))
  |_=>exact absurd (show false=true from hs) Bool.false_ne_true
 |byt i=>
  obtain⟨t,rfl⟩:=rx;cases y with
  |byt j=>obtain⟨t',rfl⟩:=ry;exact PySem.W.ne_bytes (ZY I q (congrArg not Zgy))
  |_=>exact absurd (show false=true from hs) Bool.false_ne_true
 |_=>cases y<;>exact absurd (show false=true from hs) Bool.false_ne_true
theorem U7:OpR X (compareOp .Lt) (rI0 fun i j=> .bl (decide (i<j))):=Zjk fun _ _ _ _ _ _ _ q=>lt_int q
theorem Zcm:OpR X (compareOp .Gt) (rI0 fun i j=> .bl (decide (j<i))):=Zjk fun _ _ _ _ _ _ _ q=>gt_int q
theorem ZeT:OpR X (compareOp .GtE) (rI0 fun i j=> .bl (decide (j≤i))):=Zjk fun _ _ _ _ _ _ _ q=>ge_int q
theorem ZbH:OpR X (compareOp .Is) (fun x y H Q=>y= .non∧Q (.bl (decide (x= .non))) H):=by
 intro pins s σ H x y v u Q I rx ry h;obtain⟨rfl,q⟩:=h;cases ry;refine is_none_gen (ZY I q ?_);cases x<;>first
  |(cases rx;rfl)
  |(obtain⟨t,rfl⟩:=rx;rfl)
theorem ZkJ:OpR X (compareOp .IsNot) (fun x y H Q=>y= .non∧Q (.bl (!decide (x= .non))) H):=by
 intro pins s σ H x y v u Q I rx ry h;obtain⟨rfl,q⟩:=h;cases ry;refine isnot_none_gen (ZY I q ?_);cases x<;>first
  |(cases rx;rfl)
  |(obtain⟨t,rfl⟩:=rx;rfl)
theorem OpR.or{f:Value→Value→Sem Value}{r r':R2}(h:OpR X f r)(h':OpR X f r'):OpR X f (fun x y H Q=>r x y H Q∨r' x y H Q):=by
 intro pins s σ H x y v u Q I rx ry q;rcases q with q|q
 ·exact h pins s σ H x y v u Q I rx ry q
 ·exact h' pins s σ H x y v u Q I rx ry q
theorem ZI(b:Expr){op:CmpOp}(h:op≠ .In:=by decide)(h2:op≠ .NotIn:=by decide):behindInMarks op b=false:=by
 have e1:(op==CmpOp.In)=false:=by cases op<;>first|rfl|exact absurd rfl h
 have e2:(op==CmpOp.NotIn)=false:=by cases op<;>first|rfl|exact absurd rfl h2
 cases b<;>simp[behindInMarks,e1,e2]
theorem WE{op:CmpOp}{r:R2}(ho:OpR X (compareOp op) r)(ha:PE X a ta)(hb:PE X b tb)(hm:behindInMarks op b=false):PE X (.Compare a [op] [b] pos) (tOp r ta tb):=by
 intro pins s σ H Q I h;exact wpAny_Compare1 (ZjR ha hb I h fun v u s2 x y H2 I2 rx ry q=>ho pins s2 σ H2 x y v u Q I2 rx ry q) hm
noncomputable def Zj1 (t:TE):TT:=fun σ H Q=>t σ H fun x H'=>∃k,x= .bl k∧Q k H'
theorem ZC{op:CmpOp}{r:R2}(ho:OpR X (compareOp op) r)(ha:PE X a ta)(hb:PE X b tb)(hm:behindInMarks op b=false):PT X (.Compare a [op] [b] pos) (Zj1 (tOp r ta tb)):=by
 intro pins s σ H Q I h;refine wpAny_isTrue_Compare1 (thn (ha pins s σ H _ I h) fun v s1 ⟨x,H1,I1,r1,q1⟩=>thn (hb pins s1 σ H1 _ I1 q1) fun u s2 ⟨y,H2,I2,r2,q2⟩=>
  thn (ho pins s2 σ H2 x y v u _ I2 r1 r2 q2) fun c s3 ⟨z,H3,I3,r3,k,e,q3⟩=>?_) hm
 subst e;cases r3;exact wpAny_truthy_bool ⟨H3,I3,q3⟩
noncomputable def Ziq (r r':R2) (ta tb tc:TE):TE:=fun σ H Q=>ta σ H fun x H1=>tb σ H1 fun y H2=>r x y H2 fun z H3=>∃k,z= .bl k∧
 (if k=true then tc σ H3 fun w' H4=>r' y w' H4 Q else Q (.bl false) H3)
theorem Zjq{op op':CmpOp}{r r':R2}(ho:OpR X (compareOp op) r)(ho':OpR X (compareOp op') r')(ha:PE X a ta)(hb:PE X b tb)(hc:PE X c tc)
  (hm:lastMarks [op,op'] [b,c]=false:=by with_unfolding_all rfl):PE X (.Compare a [op,op'] [b,c] pos) (Ziq r r' ta tb tc):=by
 intro pins s σ H Q I h;refine Compare_chain (thn (ha pins s σ H _ I h) fun v s1 ⟨x,H1,I1,r1,q1⟩=>chain_link (thn (hb pins s1 σ H1 _ I1 q1) fun u s2 ⟨y,H2,I2,r2,q2⟩=>
  thn (ho pins s2 σ H2 x y v u _ I2 r1 r2 q2) fun d s3 ⟨z,H3,I3,r3,k,e,q3⟩=>?_)) hm
 subst e;cases r3;refine wpAny_truthy_bool ?_;cases k with
 |false=>exact ite_ff ⟨.bl false,H3,I3,rfl,q3⟩
 |true=>exact ite_tt (chain_last (thn (hc pins s3 σ H3 _ I3 q3) fun w' s4 ⟨z',H4,I4,r4,q4⟩=>ho' pins s4 σ H4 y z' u w' Q I4 r2 r4 q4))
def Zfo(K:PySem.W.Frag)(x:V)(H:Hp)(k:Bool):Prop:=
 match x with
 | .non=>k=false
 | .bl b=>k=b
 | .int i=>k=(i != 0)
 | .str y=>y.length≤sizeLine∧k=((y.length:Int) != 0)
 | .byt y=>y.size≤sizeLine∧k=((y.size:Int) != 0)
 | .ref p=>(∃xs,SqL K H p xs∧k= !xs.isEmpty)∨(∃xs,SqT K H p xs∧k= !xs.isEmpty)∨∃kvs,H p=some (.dK kvs)∧k= !kvs.isEmpty
 |_=>False
theorem Zg2{κ:Type}{kvs:List (κ×V)}{vs:List (κ×Value)}(r:KV kvs vs):(!vs.isEmpty)= !kvs.isEmpty:=by
 cases r<;>rfl
theorem Zdl{xs:List V}{its:List Value}(r:ZF xs its):(!its.toArray.isEmpty)= !xs.isEmpty:=by
 cases r<;>simp
theorem V1:(sizeLine:Nat)<2 ^ 63:=by rw[sizeLine_eq];decide
theorem Zlo:ZmO X (fun x H Q=>∃k,Zfo X.K x H k∧Q k H):=by
 intro pins s σ H x v Q I rx h;obtain⟨k,e,q⟩:=h;have hl:=V1;have hs:sizeLine=16777216:=sizeLine_eq;cases x with
 |non=>
  cases rx;have e':k=false:=e;subst e';exact truthy_none ⟨H,I,q⟩
 |bl b=>
  cases rx;have e':k=b:=e;subst e';exact wpAny_truthy_bool ⟨H,I,q⟩
 |int i=>
  obtain⟨t,rfl⟩:=rx;have e':k=(i != 0):=e;subst e';exact PySem.P.truthy_int ⟨H,I,q⟩
 |str y=>
  obtain⟨t,rfl⟩:=rx;obtain⟨hy,e'⟩:y.length≤sizeLine∧k=((y.length:Int) != 0):=e;subst e';exact PySem.P.truthy_str (by omega) ⟨H,I.tok _,q⟩
 |byt y=>
  obtain⟨t,rfl⟩:=rx;obtain⟨hy,e'⟩:y.size≤sizeLine∧k=((y.size:Int) != 0):=e;subst e';exact PySem.W.truthy_bytes (by omega) ⟨H,I.tok _,q⟩
 |ref p=>
  cases rx;have e':(∃xs,SqL X.K H p xs∧k= !xs.isEmpty)∨(∃xs,SqT X.K H p xs∧k= !xs.isEmpty)∨∃kvs,H p=some (.dK kvs)∧k= !kvs.isEmpty:=e;rcases e' with⟨xs,hx,e'⟩|⟨xs,hx,e'⟩|⟨kvs,hx,e'⟩
  ·subst e';obtain⟨its,r,pl,hz⟩:=I.list hx;have hlen:=r.length;exact wpAny_truthy_list pl.isList (by simp only[List.size_toArray];omega) ⟨H,I.tok _,by rw[Zdl r];exact q⟩
  ·subst e';obtain⟨its,r,pl,hz⟩:=I.tuple hx;have hlen:=r.length;exact truthy_tuple pl (by simp only[List.size_toArray];omega) ⟨H,I.tok _,by rw[Zdl r];exact q⟩
  ·subst e';obtain⟨hz,hS,vs,r,m⟩:kvs.length≤sizeLine∧(p==sysModules)=false∧∃vs,KV kvs vs∧s.heap.DictOf (ZP X.prog X.w) p vs:=I.hok p _ hx;have hlen:kvs.length=vs.length:=Paired.length r;exact wpAny_truthy_dict hS m (by omega) ⟨H,I.tok _,by rw[Zg2 r];exact q⟩
 |_=>exact(show False from e).elim
theorem ZjA(ha:PE X a ta)(he:∀whole,isTrue a X.env whole=(do let v←whole;standAt a.pos;holding [v] (truthy v))):
  PT X a (fun σ H Q=>ta σ H fun x H'=>∃k,Zfo X.K x H' k∧Q k H'):=by
 intro pins s σ H Q I h;exact isTrue_plain (thn (ha pins s σ H _ I h) fun v s1 ⟨x,H1,I1,r1,q1⟩=>Zlo pins s1 σ H1 x v Q I1 r1 q1) (he _)
theorem Zhj:OpR X (binaryOp .Add) (fun x y H Q=>∃i j,x= .str i∧y= .str j∧i.length+j.length≤sizeLine∧Q (.str (i++j)) H):=by
 intro pins s σ H x y v u Q I rx ry h;obtain⟨i,j,rfl,rfl,hz,q⟩:=h;obtain⟨t,rfl⟩:=rx;obtain⟨t',rfl⟩:=ry;exact add_str (fun t' tk=>⟨.str (i++j),H,I.tok _,⟨_,rfl⟩,q⟩) hz
theorem Ve{x:V}{us:List Value}(r:ZF [x] us):∃u,us=[u]∧ZG x u:=by
 cases r with
 |cons r1 r2=>cases r2;exact⟨_,rfl,r1⟩
def Zbl(K:PySem.W.Frag)(x:V)(H:Hp)(n:Nat):Prop:=
 match x with
 | .str y=>y.length≤sizeLine∧n=y.length
 | .byt y=>y.size≤sizeLine∧n=y.size
 | .ref p=>(∃xs,SqL K H p xs∧n=xs.length)∨∃xs,SqT K H p xs∧n=xs.length
 |_=>False
theorem ZjJ:Wl X (.builtin "len") (fun xs H Q=>∃x n,xs=[x]∧Zbl X.K x H n∧Q (.int n) H):=by
 intro pins s σ H xs us Q I r h;obtain⟨x,n,rfl,e,q⟩:=h;obtain⟨u,rfl,rx⟩:=Ve r;have hl:=V1;have hs:sizeLine=16777216:=sizeLine_eq;cases x with
 |str y=>
  obtain⟨t,rfl⟩:=rx;obtain⟨hy,e'⟩:y.length≤sizeLine∧n=y.length:=e;subst e';exact len_str (by omega) ⟨.int _,H,I.tok _,⟨_,rfl⟩,q⟩
 |byt y=>
  obtain⟨t,rfl⟩:=rx;obtain⟨hy,e'⟩:y.size≤sizeLine∧n=y.size:=e;subst e';exact PySem.W.len_bytes (by omega) ⟨.int _,H,I.tok _,⟨_,rfl⟩,q⟩
 |ref p=>
  cases rx;have e':(∃xs,SqL X.K H p xs∧n=xs.length)∨∃xs,SqT X.K H p xs∧n=xs.length:=e;rcases e' with⟨xs,hx,e'⟩|⟨xs,hx,e'⟩
  ·subst e';obtain⟨its,r',pl,hz⟩:=I.list hx;have hlen:=r'.length;exact Calls.call_len_list pl.isList (by simp only[List.size_toArray];omega) ⟨.int xs.length,H,I.tok _,⟨_,by simp only[List.size_toArray];rw[hlen]⟩,q⟩
  ·subst e';obtain⟨its,r',pl,hz⟩:=I.tuple hx;have hlen:=r'.length;exact len_tuple pl (by simp only[List.size_toArray];omega) ⟨.int xs.length,H,I.tok _,⟨_,by simp only[List.size_toArray];rw[hlen]⟩,q⟩
 |_=>exact(show False from e).elim
end
end L2
namespace L2
open PySem PySem.Spec PyProof.Rows
structure ZcW(h:Heap)(x dx C:Addr)(mA:Str→Option Value):Prop where
 obj:h.get? x=some (PySem.W.instObj C dx)
 ns:h.Ns1 dx mA
 ne:dx≠x
theorem Zh4{h:Heap}{dx:Addr}{mA:Str→Option Value}(n:h.Ns1 dx mA):∃od,h.get? dx=some od∧∀name,PySem.W.lookIn name od=some (mA name):=by
 obtain⟨o,es,ep,ho,hd,hk,_,hm⟩:=n;refine⟨o,ho,fun name=>?_⟩;have e:=hm name;unfold nsFind findBy at e;rw[←Array.find?_toList] at e;unfold PySem.W.lookIn;rw[hd];dsimp only
 split
 ·rename_i y q;rw[q] at e;exact congrArg some e
 ·rename_i q;rw[q] at e;have a:es.toList.any (·.refKey)=false:=by
   rw[List.any_eq_false];intro y hy;obtain⟨z,t,hkey⟩:=hk y (Array.mem_toList_iff.mp hy);simp[DictEntry.refKey,hkey]
  have a':¬es.toList.any (·.refKey)=true:=by rw[a];exact Bool.false_ne_true
  rw[if_neg a'];exact congrArg some e
theorem ZcW.look{h:Heap}{x dx C:Addr}{mA:Str→Option Value}(I:ZcW h x dx C mA):∃od,PySem.W.InstAt h x (PySem.W.instObj C dx) C (some od)∧∀name,PySem.W.lookIn name od=some (mA name):=
 let⟨od,ho,hl⟩:=Zh4 I.ns
 ⟨od,⟨I.obj,rfl,rfl,ho⟩,hl⟩
section
variable {prog:Program}{w:World}{A:Around}{E:Value→Shared→Prop}{s:Shared}{K:PySem.W.Frag}{x dx C f:Addr}{mA:Str→Option Value}{name:Str}{v:Value}
theorem ZkO{expr:Bool}{Q:Value→Shared→Prop}(X:K.In s.heap)(I:ZcW s.heap x dx C mA)(hg:PySem.W.plainGet K C name=true)(hh:PySem.W.hasDictIn K C=true)
  (ha:PySem.W.findIn K (.ref C) name=some none) (hv:mA name=some v) (hv':PySem.W.handedIn v=true) (h:Q v {s with toks:=s.toks+1}):
  wpAny (model prog w) A (getAttr (.ref x) name expr) Q E s:=by
 obtain⟨od,J,hl⟩:=I.look;exact PySem.W.get_value X J (PySem.W.plainGet_of hg).1 (PySem.W.findObj_own hh ha rfl (by rw[hl,hv])) hv' h
theorem Zjg{pl:Sem Bool}{Q:Value×List Value→Shared→Prop}(X:K.In s.heap)(I:ZcW s.heap x dx C mA)(hg:PySem.W.plainGet K C name=true)
  (hf:PySem.W.findIn K (.ref C) name=some (some (.ref f))) (ht:PySem.W.isFn K (.ref f)=true) (hv:mA name=none) (h:Q (.ref f,[.ref x]) s):
  wpAny (model prog w) A (getMethod (.ref x) name pl) Q E s:=by
 obtain⟨od,J,hl⟩:=I.look;exact PySem.W.method_fn X J (PySem.W.plainGet_of hg).1 (PySem.W.plainGet_of hg).2 hf (beq_iff_eq.mp ht) (by show(PySem.W.lookIn name od).map (·.isSome)=some false;rw[hl,hv];rfl) h
theorem ZkL{ns:List Str}{Q:Unit→Shared→Prop}(X:K.In s.heap)(I:ZcW s.heap x dx C mA)
  (hs:PySem.W.findIn K (.ref C) "__setattr__" =some (some (.builtin "object.__setattr__"))) (hp:PySem.W.plainOver K C=true) (ht:PySem.W.takerIn K C name=some none) (hh:PySem.W.hasDictIn K C=true)
  (hw:PySem.Within mA ns) (hsz:ns.length≤sizeLine)
  (h:∀h',ZcW h' x dx C (fun y=>if y=name then some v else mA y)→Heap.SameBut dx s.heap h'→Q () {s with heap:=h',toks:=s.toks+2}):
  wpAny (model prog w) A (setAttr (.ref x) name v) Q E s:=by
 obtain⟨od,J,hl⟩:=I.look;refine PySem.W.set_plain X J hs (PySem.W.osa_open (s:={s with toks:=s.toks+1}) (r:=none) X J hp ht fun b=>?_);obtain⟨cd,hc,hd'⟩:=PySem.W.any_some hh;have hx:s.heap.get? x=some ⟨.ref C,some dx,.plain,#[]⟩:=I.obj;refine wpAny_bind (wpAny_pure (wpAny_bind (wpAny_bind (wpAny_loadPart hx (wpAny_bind (PySem.W.Looks.here (s:={s with toks:=s.toks+1}) (PySem.W.looks_clsIn X hc) ?_))))));rw[hd'];refine wpAny_pure (a:=some dx) (wpAny_bind (wpAny_pure (wpAny_bind ?_)));refine wpAny_nsSet1 (s:={s with toks:=s.toks+1}) I.ns fun h' hn2 hs2=>?_;obtain⟨oD,esD,epD,hoD,hdD,hcD⟩:=hn2.count (PySem.Within.cons name v hw);refine wpAny_bind (wpAny_lookBehind hoD (by rw[hdD];exact pastItsLine_dict (Nat.le_trans hcD (by rw[List.length_cons];omega))) ?_);exact wpAny_pure (h _ ⟨(hs2.2 _ (Ne.symm I.ne)).trans I.obj,hn2,I.ne⟩ hs2)
theorem Zjr{R:Result→Shared→Prop}{vs:List Value}{kw:List (Str×Value)}(X:K.In s.heap)(hm:PySem.W.makesIn K C=true)
  (hi:PySem.W.findIn K (.ref C) "__init__" =some (some (.ref f))) (hf:PySem.W.typeIn K (.ref f)=some (.type "function"))
  (h:codeAny (model prog w) (A.under (.builtin "type.__call__" ⟨.ref C::vs,kw⟩)) (.call (.ref f) ⟨.ref (s.heap.objs.size+1)::vs,kw⟩) (PySem.W.InitBack (s.heap.objs.size+1) R)
   {s with heap:=(s.heap.push PySem.W.emptyDict).push (PySem.W.instObj C s.heap.objs.size)}):
  codeAny (model prog w) A (.call (.ref C) ⟨vs,kw⟩) R s:=by
 obtain⟨hh,g,d,t,os⟩:=s;exact PySem.W.make_core (PySem.W.makes_of X hm) (PySem.W.looks_findIn X hi) (fun self=>PySem.W.bind_fn X self hf) (.inl rfl) h
end
noncomputable def Y8 (f:Str) (v:V):List (Str×V)→List (Str×V)
 | []=>[(f,v)]
 |(g,x)::r=>if g=f then(g,v)::r else(g,x)::Y8 f v r
theorem ZcG(f g:Str)(v:V):∀fs:List (Str×V),(Y8 f v fs).lookup g=if g=f then some v else fs.lookup g
 | []=>by
  show List.lookup g [(f,v)]=_
  by_cases h:g=f
  ·have hb:(g==f)=true:=beq_iff_eq.mpr h;simp only[List.lookup,hb,if_pos h]
  ·have hb:(g==f)=false:=beq_eq_false_iff_ne.mpr h;simp only[List.lookup,hb,if_neg h]
 |(k,x)::r=>by
  have ih:=ZcG f g v r;rw[show Y8 f v ((k,x)::r)=(if k=f then(k,v)::r else(k,x)::Y8 f v r) from rfl]
  by_cases hk:k=f
  ·rw[if_pos hk]
   by_cases h:g=k
   ·have hb:(g==k)=true:=beq_iff_eq.mpr h;simp only[List.lookup,hb,if_pos (h.trans hk)]
   ·have hb:(g==k)=false:=beq_eq_false_iff_ne.mpr h;simp only[List.lookup,hb,if_neg (fun e:g=f=>h (e.trans hk.symm))]
  ·rw[if_neg hk]
   by_cases h:g=k
   ·have hb:(g==k)=true:=beq_iff_eq.mpr h;simp only[List.lookup,hb,if_neg (fun e:g=f=>hk (h.symm.trans e))]
   ·have hb:(g==k)=false:=beq_eq_false_iff_ne.mpr h;simp only[List.lookup,hb];exact ih
theorem Zb6(f:Str)(v:V):∀fs:List (Str×V),f∈(Y8 f v fs).map (·.1)∧∀g,g∈fs.map (·.1)→g∈(Y8 f v fs).map (·.1)
 | []=>⟨by simp[Y8],fun g h=>by simp at h⟩
 |(k,x)::r=>by
  obtain⟨i1,i2⟩:=Zb6 f v r;rw[show Y8 f v ((k,x)::r)=(if k=f then(k,v)::r else(k,x)::Y8 f v r) from rfl]
  by_cases hk:k=f
  ·rw[if_pos hk];subst hk;exact⟨by simp,fun g h=>by simpa using h⟩
  ·rw[if_neg hk];refine⟨?_,fun g h=>?_⟩
   ·rw[List.map_cons];exact List.mem_cons_of_mem _ i1
   ·rw[List.map_cons] at h⊢;rcases List.mem_cons.mp h with e|e
    ·exact List.mem_cons.mpr (.inl e)
    ·exact List.mem_cons_of_mem _ (i2 g e)
theorem ZcL(f:Str)(v:V):∀fs:List (Str×V),(Y8 f v fs).length≤fs.length+1
 | []=>by simp[Y8]
 |(k,x)::r=>by
  have ih:=ZcL f v r;rw[show Y8 f v ((k,x)::r)=(if k=f then(k,v)::r else(k,x)::Y8 f v r) from rfl]
  by_cases hk:k=f
  ·rw[if_pos hk,List.length_cons,List.length_cons];omega
  ·rw[if_neg hk,List.length_cons,List.length_cons];omega
theorem W1.some_of{v:V}{o:Option Value}(r:W1 (some v) o):∃u,o=some u∧ZG v u:=by
 cases o with
 |none=>exact(show False from r).elim
 |some u=>exact⟨u,rfl,r⟩
theorem W1.none_of{o:Option Value}(r:W1 none o):o=none:=by
 cases o with
 |none=>rfl
 |some u=>exact(show False from r).elim
theorem Zig{v:V}{u:Value}(r:ZG v u):PySem.W.handedIn u=true:=by
 cases v with
 |non=>cases (show u=Value.none from r);rfl
 |bl b=>cases (show u=Value.bool b from r);rfl
 |int i=>obtain⟨t,e⟩:=(show ∃t,u=Value.int i t from r);cases e;rfl
 |str x=>obtain⟨t,e⟩:=(show ∃t,u=Value.str x t from r);cases e;rfl
 |byt b=>obtain⟨t,e⟩:=(show ∃t,u=Value.bytes b t from r);cases e;rfl
 |flt b=>obtain⟨t,e⟩:=(show ∃t,u=Value.float b t from r);cases e;rfl
 |ref a=>cases (show u=Value.ref a from r);rfl
 |ty n=>cases (show u=Value.type n from r);rfl
section
variable {P:Program}{w:World}{H H':Hp}{h h':Heap}{a C dx:Addr}{fs fs':List (Str×V)}
theorem Zch(hok:HOk P w H h)(e:H a=some (.ins C dx fs)):∃mA,ZcW h a dx C mA∧(∀f,W1 (fs.lookup f) (mA f))∧PySem.Within mA (fs.map (·.1))∧fs.length≤1000∧H dx=some (.own a):=by
 obtain⟨d,z,ne,ob,mA,n,r,q⟩:=(show Z2 P w H h a (.ins C dx fs) from hok a _ e);exact⟨mA,⟨ob,n,ne⟩,r,q,z,d⟩
end
structure Cls(K:PySem.W.Frag)(C:Addr):Prop where
 pg:PySem.W.plainGet K C Str.empty=true
 hd:PySem.W.hasDictIn K C=true
 po:PySem.W.plainOver K C=true
 sa:PySem.W.findIn K (.ref C) "__setattr__" =some (some (.builtin "object.__setattr__"))
theorem Cls.get{K:PySem.W.Frag}{C:Addr}(c:Cls K C)(f:Str):PySem.W.plainGet K C f=true:=c.pg
def Wm(K:PySem.W.Frag)(C:Addr)(f:Str):Prop:=PySem.W.findIn K (.ref C) f=some none
theorem Wm.taker{K:PySem.W.Frag}{C:Addr}{f:Str}(n:Wm K C f):PySem.W.takerIn K C f=some none:=by
 unfold PySem.W.takerIn;rw[show PySem.W.findIn K (.ref C) f=some none from n]
 rfl
structure WP(K:PySem.W.Frag)(C:Addr)(m:Str)(f:Addr):Prop where
 at_:PySem.W.findIn K (.ref C) m=some (some (.ref f))
 fn:PySem.W.isFn K (.ref f)=true
 kp:PySem.W.keepIn K (.ref f)=true
section
variable {X:Cx}{pins:List (Addr×Obj)}{σ:St}{H:Hp}{s:Shared}{a C dx:Addr}{fs:List (Str×V)}{f:Str}{v:V}{A:Around}{E:Value→Shared→Prop}
theorem ZhH{b:Bool}{Q:Value→Shared→Prop}(I:Inv X pins σ H s)(e:H a=some (.ins C dx fs))(c:Cls X.K C)(n:Wm X.K C f)(l:fs.lookup f=some v)
  (h:∀u s',Inv X pins σ H s'→ZG v u→Q u s'):wpAny (model X.prog X.w) A (getAttr (.ref a) f b) Q E s:=by
 obtain⟨mA,O,r,_,_,_⟩:=Zch I.hok e;obtain⟨u,hu,ru⟩:=W1.some_of (v:=v) (o:=mA f) (by rw[←l];exact r f);exact ZkO I.kIn O (c.get f) c.hd n hu (Zig ru) (h u _ (I.tok _) ru)
theorem Zbt{m:Str}{g:Addr}{pl:Sem Bool}{Q:Value×List Value→Shared→Prop}(I:Inv X pins σ H s)(e:H a=some (.ins C dx fs))(c:Cls X.K C)(k:WP X.K C m g)(l:fs.lookup m=none)
  (h:Q (.ref g,[.ref a]) s):wpAny (model X.prog X.w) A (getMethod (.ref a) m pl) Q E s:=by
 obtain⟨mA,O,r,_,_,_⟩:=Zch I.hok e;have hn:mA m=none:=W1.none_of (by rw[←l];exact r m);exact Zjg I.kIn O (c.get m) k.at_ k.fn hn h
theorem Zg5{y:V}{u:Value}{Q:Unit→Shared→Prop}(I:Inv X pins σ H s)(e:H a=some (.ins C dx fs))(c:Cls X.K C)(n:Wm X.K C f)(hl:fs.length<1000)(ry:ZG y u)
  (h:∀s',Inv X pins σ (upd H a (.ins C dx (Y8 f y fs))) s'→Q () s'):wpAny (model X.prog X.w) A (setAttr (.ref a) f u) Q E s:=by
 obtain⟨mA,O,r,wi,_,ho⟩:=Zch I.hok e;have hz:(fs.map (·.1)).length≤sizeLine:=by rw[List.length_map,sizeLine_eq];omega
 refine ZkL I.kIn O c.sa c.po n.taker c.hd wi hz fun h' O' sb=>h _ ?_;have hd:∃o,h'.get? dx=some o:=let⟨o,_,_,e',_⟩:=O'.ns;⟨o,e'⟩
 refine I.write (x:=a) (e:=dx) (by rw[e];exact True.intro) (.inr ho) (fun b q hb z=>(sb.2 b hb).trans z) hd ?_;refine⟨by rw[Zg O.ne];exact ho,?_,O.ne,O'.obj,_,O'.ns,fun g=>?_,fun g hg=>?_⟩
 ·have:=ZcL f y fs;omega
 ·show W1 ((Y8 f y fs).lookup g) (if g=f then some u else mA g);rw[ZcG]
  by_cases q:g=f
  ·rw[if_pos q,if_pos q];exact ry
  ·rw[if_neg q,if_neg q];exact r g
 ·by_cases q:g=f
  ·rw[q];exact(Zb6 f y fs).1
  ·refine(Zb6 f y fs).2 g (wi g fun z=>hg ?_);show(if g=f then some u else mA g)=none;rw[if_neg q];exact z
theorem Inv.made(I:Inv X pins σ H s):Inv X pins σ (upd (upd H s.heap.objs.size (.own (s.heap.objs.size+1))) (s.heap.objs.size+1) (.ins C s.heap.objs.size []))
  {s with heap:=(s.heap.push PySem.W.emptyDict).push (PySem.W.instObj C s.heap.objs.size)}:=by
 have e1:(s.heap.push PySem.W.emptyDict).get? s.heap.objs.size=some PySem.W.emptyDict:=Heap.get?_push_size s.heap rfl;have e2:((s.heap.push PySem.W.emptyDict).push (PySem.W.instObj C s.heap.objs.size)).get? (s.heap.objs.size+1)=some (PySem.W.instObj C s.heap.objs.size):=by
  have:=Heap.get?_push_size (s.heap.push PySem.W.emptyDict) (o:=PySem.W.instObj C s.heap.objs.size) rfl
  rwa [Heap.size_push] at this
 have e3:(s.heap.push PySem.W.emptyDict).Ns s.heap.objs.size (fun _=>none):=⟨PySem.W.emptyDict,#[],_,e1,rfl,(fun e he=>absurd he (by simp)),fun _=>rfl⟩;have I1:=I.laid (a:=s.heap.objs.size) (o:= .own (s.heap.objs.size+1)) (h':=s.heap.push PySem.W.emptyDict) (t':=s.toks) (fun b u q=>Heap.get?_push_of_some _ q) (Nat.le_refl _) ⟨_,e1⟩;refine I1.laid (a:=s.heap.objs.size+1) (o:= .ins C s.heap.objs.size []) (t':=s.toks) (fun b u q=>Heap.get?_push_of_some _ q) (Nat.le_of_eq (Heap.size_push _ _)) ?_;have ne:s.heap.objs.size≠s.heap.objs.size+1:=Nat.ne_of_lt (Nat.lt_succ_self _);refine⟨by rw[Zg ne,Ze],Nat.zero_le _,ne,e2,fun _=>none,(Heap.Ns1.of_empty e3).at fun o q=>Heap.get?_push_of_some _ q,fun _=>True.intro,fun y hy=>absurd rfl hy⟩
theorem ZkN{prog:Program}{w:World}{env:Env}{e:Expr}{f:Str}{pos:Pos}{s:Shared}{Q:Value→Shared→Prop}(hb:attributeBase e f env (eval e env)=eval e env)
  (h:wpAny (model prog w) A (eval e env) (fun o s₁=>wpAny (model prog w) A (getAttr o f true) Q E s₁) E s):wpAny (model prog w) A (eval (.Attribute e f pos) env) Q E s:=
 Attribute_any_ h (by rw[arm_eval_Attribute,hb])
end
noncomputable def Zjs (K:PySem.W.Frag) (ta:TE) (f:Str):TE:=fun σ H Q=>ta σ H fun x H1=>∃a C dx fs v,x= .ref a∧H1 a=some (.ins C dx fs)∧Cls K C∧Wm K C f∧fs.lookup f=some v∧Q v H1
noncomputable def Zju (K:PySem.W.Frag) (ta tv:TE) (f:Str):TS:=fun D σ H=>tv σ H fun y H1=>ta σ H1 fun x H2=>∃a C dx fs,x= .ref a∧H2 a=some (.ins C dx fs)∧Cls K C∧Wm K C f∧fs.length<1000∧
 D.nx σ (upd H2 a (.ins C dx (Y8 f y fs)))
section
variable {X:Cx}{o e value:Expr}{f:Str}{pos pos' tpos:Pos}{ta tv:TE}
theorem ZlS(he:PE X e ta)(hb:attributeBase e f X.env (eval e X.env)=eval e X.env):PE X (.Attribute e f pos) (Zjs X.K ta f):=by
 intro pins s σ H Q I h;refine ZkN hb (thn (he pins s σ H _ I h) fun u s1 ⟨x,H1,I1,rx,a,C,dx,fs,v,ex,ea,c,n,l,q⟩=>?_);subst ex;obtain rfl:u=Value.ref a:=rx;exact ZhH I1 ea c n l fun u' s2 I2 ru=>⟨v,H1,I2,ru,q⟩
theorem ZlG(ha:PE X o ta)(hv:PE X value tv)(hs:swapsWith value (some (.Attribute o f pos')) pos.line X.env=pure false):PS X (.Assign [.Attribute o f pos'] value pos) (Zju X.K ta tv f):=by
 intro pins s σ H D I h;refine plainObj_wpAny_Assign_Attribute (thn (hv pins s σ H _ I h) fun u s1 ⟨y,H1,I1,ry,q⟩=>thn (ha pins s1 σ H1 _ I1 q) fun ov s2 ⟨x,H2,I2,rx,a,C,dx,fs,ex,ea,c,n,l,q2⟩=>?_) hs;subst ex;obtain rfl:ov=Value.ref a:=rx;exact Zg5 I2 ea c n l ry fun s3 I3=>⟨σ,_,I3,q2⟩
theorem Zl3{pl:Sem Bool}{m:Str}{apos:Pos}{args:List Expr}{pins:List (Addr×Obj)}{s:Shared}{σ:St}{H:Hp}{Q:Value→Shared→Prop}{te:TE}(he:PE X e te)(I:Inv X pins σ H s)
  (h:te σ H fun x H1=>∃a C dx fs g,x= .ref a∧H1 a=some (.ins C dx fs)∧Cls X.K C∧WP X.K C m g∧fs.lookup m=none∧
   ∀s1,Inv X pins σ H1 s1→wpAny (model X.prog X.w) X.A (callWith pos (.ref g) [.ref a] (backTo pos (starEach args X.env)) (backToKw pos (keywordEach [] X.env))) Q X.xe s1)
  (ht:eval (.Call (.Attribute e m apos) args [] pos) X.env=(do
   let ov←eval e X.env
   standAt apos.atName
   let(f,first)←holding [ov] (getMethod ov m pl)
   callWith pos f first (backTo pos (starEach args X.env)) (backToKw pos (keywordEach [] X.env)))):
  wpAny (model X.prog X.w) X.A (eval (.Call (.Attribute e m apos) args [] pos) X.env) Q X.xe s:=by
 refine PySem.W.methodCall_KW (pl:=pl) (thn (he pins s σ H _ I h) fun u s1 ⟨x,H1,I1,rx,a,C,dx,fs,g,ex,ea,c,k,l,q⟩=>?_) ht;subst ex;obtain rfl:u=Value.ref a:=rx;exact Zbt I1 ea c k l (q s1 I1)
end
section
variable {X:Cx}{pins:List (Addr×Obj)}{σ:St}{H:Hp}{s:Shared}{A:Around}{E:Value→Shared→Prop}{Q:Value→Shared→Prop}{c:Value}{b:Bool}
inductive Wp(K:PySem.W.Frag)(H:Hp):V→Value→Prop where
 |non:Wp K H .non (.type "NoneType")
 |bl (x:Bool):Wp K H (.bl x) (.type "bool")
 |int (i:Int):Wp K H (.int i) (.type "int")
 |str (x:Str):Wp K H (.str x) (.type "str")
 |flt (x:UInt64):Wp K H (.flt x) (.type "float")
 |lst {a:Addr} {xs:List V} (e:H a=some (.lst xs)):Wp K H (.ref a) (.type "list")
 |frz {a:Addr} {o:Obj} {xs:List V} (e:H a=some (.frz o (.lst xs))):Wp K H (.ref a) (.type "list")
 |tup {a:Addr} {xs:List V} (e:H a=some (.tup xs)):Wp K H (.ref a) (.type "tuple")
 |dK {a:Addr} {kvs:List (Key×V)} (e:H a=some (.dK kvs)):Wp K H (.ref a) (.type "dict")
 |dT {a:Addr} {kvs:List (List Key×V)} (e:H a=some (.dT kvs)):Wp K H (.ref a) (.type "dict")
 |ins {a C dx:Addr} {fs:List (Str×V)} (e:H a=some (.ins C dx fs)) (cl:Cls K C) (ha:PySem.W.findIn K (.ref C) "__class__" =some (some (.builtin "object.__class__")))
   (hn:PySem.W.specialIn K (.builtin "object.__class__") "__get__" =some (some (.builtin "getset_descriptor.__get__"))) (htk:PySem.W.takesIn K (.builtin "object.__class__")=some true)
   (hm:PySem.W.mroIn K C (.type "object")=some true):Wp K H (.ref a) (.ref C)
theorem Zio{x:V}{u t:Value}(I:Inv X pins σ H s)(rx:ZG x u)(ty:Wp X.K H x t)(e:PySem.W.kitOne X.K t c=some b)(h:∀tk,Q (.bool b) {s with toks:=tk}):
  wpAny (model X.prog X.w) A (call (.builtin "isinstance") [u,c]) Q E s:=by
 cases ty with
 |non=>cases (show u=Value.none from rx);exact PySem.W.kia_one PySem.W.kitx_none I.kIn True.intro e (fun z=>nomatch z) h
 |bl y=>cases (show u=Value.bool y from rx);exact PySem.W.kia_one PySem.W.kitx_bool I.kIn True.intro e (fun z=>nomatch z) h
 |int i=>obtain⟨t,q⟩:=(show ∃t,u=Value.int i t from rx);cases q;exact PySem.W.kia_one PySem.W.kitx_int I.kIn True.intro e (fun z=>nomatch z) h
 |str y=>obtain⟨t,q⟩:=(show ∃t,u=Value.str y t from rx);cases q;exact PySem.W.kia_one PySem.W.kitx_str I.kIn True.intro e (fun z=>nomatch z) h
 |flt y=>obtain⟨t,q⟩:=(show ∃t,u=Value.float y t from rx);cases q;exact PySem.W.kia_one PySem.W.kitx_float I.kIn True.intro e (fun z=>nomatch z) h
 | @lst a xs ea=>
  cases (show u=Value.ref a from rx);obtain⟨_,_,n,_,h1⟩:=(show Z2 X.prog X.w H s.heap a (.lst xs) from I.hok a _ ea);exact PySem.W.kia_one PySem.W.kitx_list I.kIn ⟨_,h1,rfl⟩ e (fun z=>nomatch z) h
 | @frz a ob xs ea=>
  cases (show u=Value.ref a from rx);obtain⟨_,_,_,n,_,h1⟩:=(show Z2 X.prog X.w H s.heap a (.frz ob (.lst xs)) from I.hok a _ ea);exact PySem.W.kia_one PySem.W.kitx_list I.kIn ⟨_,h1,rfl⟩ e (fun z=>nomatch z) h
 | @tup a xs ea=>
  cases (show u=Value.ref a from rx);obtain⟨_,_,_,p⟩:=(show Z2 X.prog X.w H s.heap a (.tup xs) from I.hok a _ ea);obtain⟨o,h1,h2,_⟩:=p;exact PySem.W.kia_one PySem.W.kitx_tuple I.kIn ⟨o,h1,h2⟩ e (fun z=>nomatch z) h
 | @dK a kvs ea=>
  cases (show u=Value.ref a from rx);obtain⟨_,_,vs,_,p⟩:=(show Z2 X.prog X.w H s.heap a (.dK kvs) from I.hok a _ ea);obtain⟨o,es,ep,h1,h2,_⟩:=p;exact PySem.W.kia_one PySem.W.kitx_dict I.kIn ⟨o,h1,h2.1⟩ e (fun z=>nomatch z) h
 | @dT a kvs ea=>
  cases (show u=Value.ref a from rx);obtain⟨_,_,xs,_,o,es,ep,h1,h2,_⟩:=(show Z2 X.prog X.w H s.heap a (.dT kvs) from I.hok a _ ea);exact PySem.W.kia_one PySem.W.kitx_dict I.kIn ⟨o,h1,h2.1⟩ e (fun z=>nomatch z) h
 | @ins a C dx fs ea cl ha hn htk hm=>
  cases (show u=Value.ref a from rx);obtain⟨mA,O,_⟩:=Zch I.hok ea;obtain⟨od,J,_⟩:=O.look;exact PySem.W.kia_one (PySem.W.kitx_own (cl.get _) cl.hd ha hn htk hm) I.kIn J e (fun z=>nomatch z) h
end
end L2
namespace L2
open PySem PySem.Spec PyProof.Rows
structure YO(k:Nat)(A:Around):Prop where
 hd:A.handled=none
 dp:A.depth+3*k+5<recursionLimit
 un:A.units+16*k+200<cLine
theorem YO.mono{j k:Nat}{A:Around}(r:YO k A)(h:j≤k):YO j A:=⟨r.hd,by have:=r.dp;omega,by have:=r.un;omega⟩
theorem YO.deeper{k:Nat}{A:Around}(r:YO (k+1) A)(env:Env):YO k (A.deeper env):=
 ⟨r.hd,by have:=r.dp;show A.depth+1+3*k+5<_;omega,by have:=r.un;show A.units+3+16*k+200<_;omega⟩
theorem Zhi{A:Around}{C:Addr}{us:List Value}{kw:List (Str×Value)}:(A.under (.builtin "type.__call__" ⟨.ref C::us,kw⟩)).depth=A.depth+1:=by
 first|rfl|simp[Around.under,Code.weight,Code.isCreation,Code.isGuard,Code.isCaller,Code.frames,Code.isFrame,guardIds]
theorem Zhh{A:Around}{C:Addr}{us:List Value}{kw:List (Str×Value)}:(A.under (.builtin "type.__call__" ⟨.ref C::us,kw⟩)).units=A.units+1:=by
 first|rfl|simp[Around.under,Code.cUnits,Code.frames,Code.isFrame]
theorem YO.make{k:Nat}{A:Around}(r:YO (k+1) A)(C:Addr)(us:List Value)(kw:List (Str×Value)):YO k (A.under (.builtin "type.__call__" ⟨.ref C::us,kw⟩)):=
 ⟨r.hd,by have:=r.dp;rw[Zhi];omega,by have:=r.un;rw[Zhh];omega⟩
theorem YO.depth{k:Nat}{A:Around}(r:YO k A):A.depth<recursionLimit:=by have:=r.dp;omega
theorem YO.units{k:Nat}{A:Around}(r:YO k A):A.units+64<cLine:=by have:=r.un;omega
noncomputable def tNil:TA:=fun _ H Q=>Q [] H
noncomputable def ZjZ (ta:TE) (tr:TA):TA:=fun σ H Q=>ta σ H fun x H1=>tr σ H1 fun xs H2=>Q (x::xs) H2
section
variable {X:Cx}{e:Expr}{es:List Expr}{te:TE}{t:TA}{pos:Pos}
theorem Zb:PA X [] tNil:=fun _ _ _ _ H Q I h=>Calls.spliced_nil ⟨[],H,I,.nil,h⟩
theorem Za(ha:PE X e te)(hr:PA X es t)(hs:starEach (e::es) X.env=(false,eval e X.env)::starEach es X.env:=by rfl):PA X (e::es) (ZjZ te t):=by
 intro pos pins s σ H Q I h;rw[hs];show wpAny _ _ (spliced ((false,eval e X.env)::backTo pos (starEach es X.env))) _ _ s;refine Calls.spliced_cons (thn (ha pins s σ H _ I h) fun u s1 ⟨x,H1,I1,r1,q1⟩=>?_);exact thn (hr pos pins s1 σ H1 _ I1 q1) fun us s2 ⟨xs,H2,I2,r2,q2⟩=>⟨x::xs,H2,I2,.cons r1 r2,q2⟩
noncomputable def Zk6 (t:TA):TE:=fun σ H Q=>t σ H fun xs H1=>xs.length≤sizeLine∧∀p,H1 p=none→Q (.ref p) (upd H1 p (.tup xs))
noncomputable def Zi7 (t:TA):TE:=fun σ H Q=>t σ H fun xs H1=>xs.length≤sizeLine∧∀p,H1 p=none→Q (.ref p) (upd H1 p (.lst xs))
theorem Yv{x1}(h:PA X es t):PE X (.Tuple es x1 pos) (Zk6 t):=by
 intro pins s σ H Q I hq;refine wpAny_Tuple_spliced (thn (h pos pins s σ H _ I hq) fun us s1 ⟨xs,H1,I1,r,z,q⟩=>⟨by rw[←r.length];exact z,?_⟩);have hf:H1 s1.heap.objs.size=none:=I1.hok.fresh (Nat.le_refl _);refine⟨.ref s1.heap.objs.size,upd H1 s1.heap.objs.size (.tup xs),I1.laid (t':=s1.toks) (fun b u e=>Heap.get?_push_of_some _ e) (Nat.le_refl _) ?_,rfl,q _ hf⟩;exact⟨z,us,r,⟨_,Heap.get?_push_size _ rfl,rfl,_,rfl⟩⟩
theorem YC(h:PA X es t):PE X (.List es pos) (Zi7 t):=by
 intro pins s σ H Q I hq;refine wpAny_List_spliced (thn (h pos pins s σ H _ I hq) fun us s1 ⟨xs,H1,I1,r,z,q⟩=>⟨by rw[←r.length];exact z,?_⟩);have hf:H1 s1.heap.objs.size=none:=I1.hok.fresh (Nat.le_refl _);refine⟨.ref s1.heap.objs.size,upd H1 s1.heap.objs.size (.lst xs),I1.laid (t':=s1.toks) (fun b u e=>Heap.get?_push_of_some _ e) (Nat.le_refl _) ?_,rfl,q _ hf⟩;exact⟨z,us,0,r,Heap.get?_push_size _ rfl⟩
end
noncomputable abbrev Sp:=List V→Hp→VK→XK→Prop
noncomputable abbrev CXT:=List Env→Hp→Shared→XK→Value→Shared→Prop
structure ZcY(P:Program)(w:World)(K:PySem.W.Frag)(mg:Str→Option Value)(base:Heap)(A:Around)(outer:List Env)(s:Shared)(H:Hp):Prop where
 frames:A.frames=some outer
 mod:Mod K mg base
 bs:∀b o,base.get? b=some o→s.heap.get? b=some o∧H b=none
 bsz:base.objs.size≤s.heap.objs.size
 funs:s.heap.FunFrames base outer
 frf:∀b∈frs outer,H b=none
 hok:HOk P w H s.heap
 bare:AllBare s.gens
def CE(outer:List Env)(P:Program)(w:World)(H:Hp)(s:Shared)(Q:VK)(u:Value)(s':Shared):Prop:=
 ∃v H',s'.os=s.os∧AllBare s'.gens∧Un (frs outer) [] H H' s.heap s'.heap∧HOk P w H' s'.heap∧ZG v u∧Q v H'
def CR(CX:CXT)(outer:List Env)(P:Program)(w:World)(H:Hp)(s:Shared)(Q:VK)(E:XK)(r:Result)(s':Shared):Prop:=
 match r with
 | .ok (.ret u)=>CE outer P w H s Q u s'
 | .ok _=>False
 | .error e=>CX outer H s E e s'
structure Zk(P:Program)(w:World)(K:PySem.W.Frag)(mg:Str→Option Value)(base:Heap)(CX:CXT)(k:Nat)(f:Addr)(fd:FuncData)(ps:List Str)(sp:Sp):Prop where
 len:∀vs H Q E,sp vs H Q E→vs.length=ps.length
 run:∀(A:Around)(outer:List Env)(s:Shared)(H:Hp)(args:Args)(us:List Value)(vs:List V)(Q:VK)(E:XK),YO k A→ZcY P w K mg base A outer s H→BindsTo s fd args (ps.zip us)→ZF vs us→sp vs H Q E→
  codeAny (model P w) A (.call (.ref f) args) (CR CX outer P w H s Q E) s
theorem Zk.mono{P:Program}{w:World}{K:PySem.W.Frag}{mg:Str→Option Value}{base:Heap}{CX:CXT}{j k:Nat}{f:Addr}{fd:FuncData}{ps:List Str}{sp:Sp}(F:Zk P w K mg base CX j f fd ps sp)(h:j≤k):
  Zk P w K mg base CX k f fd ps sp:=⟨F.len,fun A outer s H args us vs Q E hr=>F.run A outer s H args us vs Q E (hr.mono h)⟩
theorem ZcY.make{P:Program}{w:World}{K:PySem.W.Frag}{mg:Str→Option Value}{base:Heap}{A:Around}{outer:List Env}{s:Shared}{H:Hp}(e:ZcY P w K mg base A outer s H)(C:Addr)(us:List Value)(kw:List (Str×Value)):
  ZcY P w K mg base (A.under (.builtin "type.__call__" ⟨.ref C::us,kw⟩)) outer s H:=⟨by first|exact e.frames|(simpa[Around.under,Code.envs,Code.isFrame,pushEnvs] using e.frames),e.mod,e.bs,e.bsz,e.funs,e.frf,e.hok,e.bare⟩
section
variable {X:Cx}{pins:List (Addr×Obj)}{σ:St}{H:Hp}{s s':Shared}
theorem Inv.env0(I:Inv X pins σ H s):ZcY X.prog X.w X.K X.mg X.base X.A X.stack s H:=
 ⟨I.ok.frames,I.ok.mod,I.bs,Nat.le_trans I.ok.bsz I.sz,I.stack,I.stkFree,I.hok,I.bare⟩
theorem Inv.after{Q:VK}{u:Value}(I:Inv X pins σ H s)(h:CE X.stack X.prog X.w H s Q u s'):EP X pins σ Q u s':=by
 obtain⟨v,H',os,bare,un,hok,r,q⟩:=h;obtain⟨hh,g,d,t,os'⟩:=s';obtain rfl:os'=s.os:=os;exact⟨v,H',I.call (h':=hh) (g':=g) (d':=d) (t':=t) (ch:=[]) un hok bare (fun b z=>absurd z (by simp)),r,q⟩
end
noncomputable def Zj6 (sp:Sp) (dvs:List V) (E:XK) (t:TA):TE:=fun σ H Q=>t σ H fun vs H1=>sp (vs++dvs) H1 Q E
noncomputable def ZgW (C:Addr) (m:Str) (sp:Sp) (dvs:List V) (E:XK) (ta:TE) (t:TA):TE:=fun σ H Q=>ta σ H fun x H1=>∃a dx fs,x= .ref a∧H1 a=some (.ins C dx fs)∧fs.lookup m=none∧
 t σ H1 fun vs H2=>sp (x::(vs++dvs)) H2 Q E
noncomputable def ZhD (C:Addr) (sp:Sp) (dvs:List V) (E:XK) (t:TA):TE:=fun σ H Q=>t σ H fun vs H1=>∀x dx,H1 x=none→H1 dx=none→dx≠x→
 sp (.ref x::(vs++dvs)) (upd (upd H1 dx (.own x)) x (.ins C dx [])) (fun v H2=>v= .non∧Q (.ref x) H2) E
def Zz(K:PySem.W.Frag)(fd:FuncData)(ps:List Str)(ds:List Value):Prop:=
 ∀(s:Shared)(us:List Value),K.In s.heap→(us++ds).length=ps.length→BindsTo s fd ⟨us,[]⟩ (ps.zip (us++ds))
theorem Zz.all{K:PySem.W.Frag}{fd:FuncData}{ps:List Str}(h:∀us:List Value,us.length=ps.length→bindArgs fd ⟨us,[]⟩=pure (ps.zip us)):Zz K fd ps []:=fun s us _ hl=>by
 rw[List.append_nil] at hl⊢;exact .of_eq (h us hl)
def VR(CX:CXT)(X:Cx)(E:XK):Prop:=∀(pins:List (Addr×Obj))(σ:St)(H:Hp)(s:Shared)(e:Value)(s':Shared),Inv X pins σ H s→CX X.stack H s E e s'→X.xe e s'
section
variable {X:Cx}{CX:CXT}{k:Nat}{f C:Addr}{fd:FuncData}{ps:List Str}{sp:Sp}{dvs:List V}{ds:List Value}{E:XK}{x m:Str}{p pos apos:Pos}{e o:Expr}{es:List Expr}{ta:TE}{t:TA}
theorem Zfb{pins:List (Addr×Obj)}{σ:St}{H:Hp}{s:Shared}{Q:VK}{us:List Value}{vs:List V}(F:Zk X.prog X.w X.K X.mg X.base CX k f fd ps sp)(hr:YO k X.A)(hb:Zz X.K fd ps ds)(hd:ZF dvs ds)(hx:VR CX X E)
  (I:Inv X pins σ H s) (r:ZF vs us) (h:sp (vs++dvs) H Q E):wpAny (model X.prog X.w) X.A (call (.ref f) us) (EP X pins σ Q) X.xe s:=by
 have r2:ZF (vs++dvs) (us++ds):=r.append hd;have hl:(us++ds).length=ps.length:=by rw[←r2.length];exact F.len _ _ _ _ h
 refine wpAny_call (codeAny_mono (F.run X.A X.stack s H ⟨us,[]⟩ (us++ds) (vs++dvs) Q E hr I.env0 (hb s us I.kIn hl) r2 h) fun r s' hq=>?_);cases r with
 |error e=>exact hx pins σ H s e s' I hq
 |ok fl=>
  cases fl with
  |ret u=>exact I.after hq
  |next=>exact False.elim hq
  |brk=>exact False.elim hq
  |cont=>exact False.elim hq
theorem Zr(F:Zk X.prog X.w X.K X.mg X.base CX k f fd ps sp)(hr:YO k X.A)(hg:Gl X x)(hm:X.mg x=some (.ref f))(hk:PySem.W.keepIn X.K (.ref f)=true)(hb:Zz X.K fd ps ds)(hd:ZF dvs ds)(hx:VR CX X E)
  (ha:PA X (e::es) t) (hdb:(x==("__debug__" :Str))=false:=by decide) (he:starEach (e::es) X.env=(false,eval e X.env)::starEach es X.env:=by rfl) (hpl:(backTo pos (starEach es X.env)).any (·.1)=false:=by rfl):
  PE X (.Call (.Name x p) (e::es) [] pos) (Zj6 sp dvs E t):=by
 intro pins s σ H Q I h;refine wpAny_Call_Name_kw (ZaV I hg hm ?_ hdb);refine PySem.W.callWith_K (h₀:=X.base) I.ok.mod.kin hk (thn (ha pos pins s σ H _ I h) fun us s1 ⟨vs,H1,I1,r,q⟩=>⟨I1.kIn,?_⟩) he hpl;exact Zfb F hr hb hd hx I1 r q
theorem Yb{pl:Sem Bool}(he:PE X o ta)(c:Cls X.K C)(hm:WP X.K C m f)(F:Zk X.prog X.w X.K X.mg X.base CX k f fd ps sp)(hr:YO k X.A)(hb:Zz X.K fd ps ds)(hd:ZF dvs ds)(hx:VR CX X E)(ha:PA X (e::es) t)
  (hst:starEach (e::es) X.env=(false,eval e X.env)::starEach es X.env:=by rfl) (hpl:(backTo pos (starEach es X.env)).any (·.1)=false:=by rfl)
  (ht:eval (.Call (.Attribute o m apos) (e::es) [] pos) X.env=(do
   let ov←eval o X.env
   standAt apos.atName
   let(f,first)←holding [ov] (getMethod ov m pl)
   callWith pos f first (backTo pos (starEach (e::es) X.env)) (backToKw pos (keywordEach [] X.env))):=by rfl):
  PE X (.Call (.Attribute o m apos) (e::es) [] pos) (ZgW C m sp dvs E ta t):=by
 intro pins s σ H Q I h;refine PySem.W.methodCall_KW (pl:=pl) (thn (he pins s σ H _ I h) fun u s1 ⟨x,H1,I1,rx,a,dx,fs,ex,ea,l,q⟩=>?_) ht;subst ex;obtain rfl:u=Value.ref a:=rx;refine Zbt I1 ea c hm l ?_;refine PySem.W.callWith_K (first:=[.ref a]) (h₀:=X.base) I.ok.mod.kin hm.kp (thn (ha pos pins s1 σ H1 _ I1 q) fun us s2 ⟨vs,H2,I2,r,q2⟩=>⟨I2.kIn,?_⟩) hst hpl;exact Zfb (us:= .ref a::us) (vs:= .ref a::vs) F hr hb hd hx I2 (.cons rfl r) q2
theorem Uj{pl:Sem Bool}(he:PE X o ta)(c:Cls X.K C)(hm:WP X.K C m f)(F:Zk X.prog X.w X.K X.mg X.base CX k f fd ps sp)(hr:YO k X.A)(hb:Zz X.K fd ps ds)(hd:ZF dvs ds)(hx:VR CX X E)
  (ht:eval (.Call (.Attribute o m apos) [] [] pos) X.env=(do
   let ov←eval o X.env
   standAt apos.atName
   let(f,first)←holding [ov] (getMethod ov m pl)
   callWith pos f first (backTo pos (starEach [] X.env)) (backToKw pos (keywordEach [] X.env))):=by rfl):
  PE X (.Call (.Attribute o m apos) [] [] pos) (ZgW C m sp dvs E ta tNil):=by
 intro pins s σ H Q I h;refine PySem.W.methodCall_KW (pl:=pl) (thn (he pins s σ H _ I h) fun u s1 ⟨x,H1,I1,rx,a,dx,fs,ex,ea,l,q⟩=>?_) ht;subst ex;obtain rfl:u=Value.ref a:=rx;refine Zbt I1 ea c hm l ?_;exact PySem.W.callWith_K0 (first:=[.ref a]) I1.kIn hm.kp (Zfb (us:=[.ref a]) (vs:=[.ref a]) F hr hb hd hx I1 (.cons rfl .nil) q)
structure Mk(K:PySem.W.Frag)(C f:Addr):Prop where
 makes:PySem.W.makesIn K C=true
 init:PySem.W.findIn K (.ref C) "__init__" =some (some (.ref f))
 fn:PySem.W.isFn K (.ref f)=true
 kp:PySem.W.keepIn K (.ref C)=true
theorem Ze3{pins:List (Addr×Obj)}{σ:St}{H:Hp}{s:Shared}{Q:VK}{us:List Value}{vs:List V}(M:Mk X.K C f)(F:Zk X.prog X.w X.K X.mg X.base CX k f fd ps sp)(hr:YO (k+1) X.A)(hb:Zz X.K fd ps ds)(hd:ZF dvs ds)
  (hx:VR CX X E) (I:Inv X pins σ H s) (r:ZF vs us)
  (h:∀x dx,H x=none→H dx=none→dx≠x→sp (.ref x::(vs++dvs)) (upd (upd H dx (.own x)) x (.ins C dx [])) (fun v H2=>v= .non∧Q (.ref x) H2) E):
  wpAny (model X.prog X.w) X.A (call (.ref C) us) (EP X pins σ Q) X.xe s:=by
 have hq:=h (s.heap.objs.size+1) s.heap.objs.size (I.hok.fresh (Nat.le_succ _)) (I.hok.fresh (Nat.le_refl _)) (Nat.ne_of_lt (Nat.lt_succ_self _));have I2:=Inv.made (C:=C) I;have r2:ZF (V.ref (s.heap.objs.size+1)::(vs++dvs)) (Value.ref (s.heap.objs.size+1)::(us++ds)):= .cons rfl (r.append hd);have hl:(Value.ref (s.heap.objs.size+1)::us++ds).length=ps.length:=by
  have e:=r2.length;rw[F.len _ _ _ _ hq] at e;exact e.symm
 refine wpAny_call (Zjr (f:=f) I.kIn M.makes M.init (beq_iff_eq.mp M.fn) (codeAny_mono (F.run _ X.stack _ _ ⟨Value.ref (s.heap.objs.size+1)::us,[]⟩ (Value.ref (s.heap.objs.size+1)::(us++ds)) _ _ E (hr.make C us [])
  (I2.env0.make C us []) (hb _ (Value.ref (s.heap.objs.size+1)::us) I2.kIn hl) r2 hq) fun r s' hq'=>?_))
 cases r with
 |error e=>exact hx pins σ _ _ e s' I2 hq'
 |ok fl=>
  cases fl with
  |ret u=>
   obtain⟨v,H',I3,rv,ev,q3⟩:=I2.after hq';subst ev;exact⟨rv,⟨V.ref (s.heap.objs.size+1),H',I3,rfl,q3⟩⟩
  |next=>exact False.elim hq'
  |brk=>exact False.elim hq'
  |cont=>exact False.elim hq'
theorem Zku(M:Mk X.K C f)(F:Zk X.prog X.w X.K X.mg X.base CX k f fd ps sp)(hr:YO (k+1) X.A)(hg:Gl X x)(hm:X.mg x=some (.ref C))(hb:Zz X.K fd ps ds)(hd:ZF dvs ds)(hx:VR CX X E)
  (ha:PA X (e::es) t) (hdb:(x==("__debug__" :Str))=false:=by decide) (he:starEach (e::es) X.env=(false,eval e X.env)::starEach es X.env:=by rfl) (hpl:(backTo pos (starEach es X.env)).any (·.1)=false:=by rfl):
  PE X (.Call (.Name x p) (e::es) [] pos) (ZhD C sp dvs E t):=by
 intro pins s σ H Q I h;refine wpAny_Call_Name_kw (ZaV I hg hm ?_ hdb);refine PySem.W.callWith_K (h₀:=X.base) I.ok.mod.kin M.kp (thn (ha pos pins s σ H _ I h) fun us s1 ⟨vs,H1,I1,r,q⟩=>⟨I1.kIn,?_⟩) he hpl;exact Ze3 M F hr hb hd hx I1 r q
theorem Zjd(M:Mk X.K C f)(F:Zk X.prog X.w X.K X.mg X.base CX k f fd ps sp)(hr:YO (k+1) X.A)(hg:Gl X x)(hm:X.mg x=some (.ref C))(hb:Zz X.K fd ps ds)(hd:ZF dvs ds)(hx:VR CX X E)
  (hdb:(x==("__debug__" :Str))=false:=by decide):PE X (.Call (.Name x p) [] [] pos) (ZhD C sp dvs E tNil):=by
 intro pins s σ H Q I h;refine wpAny_Call_Name_kw (ZaV I hg hm ?_ hdb);exact PySem.W.callWith_K0 I.kIn M.kp (Ze3 (us:=[]) M F hr hb hd hx I .nil h)
end
section
variable {X:Cx}{CX:CXT}{k:Nat}{f C:Addr}{fd:FuncData}{ps ks:List Str}{sp:Sp}{E:XK}{x m:Str}{p pos apos kpos:Pos}{e o:Expr}{es:List Expr}{kws:List Keyword}{te ta:TE}{t tk:TA}{nm:Option Str}
variable {g:List Value→List Value→List Value}{gV:List V→List V→List V}
end
structure Zt(N P:List Str)(sc:Scope):Prop where
 kind:sc.kind= .function
 co:sc.isCoroutine=false
 gen:sc.isGenerator=false
 nd:N.Nodup
 pre:N.take P.length=P
 par:∀x∈P,sc.names.lookup x=some .local∨sc.names.lookup x=some .cell
 nofree:∀y∈sc.names,y.2≠ .free
theorem Zeg{kindOf:Str→Option NameKind}{x:Str}:∀{binds:List (Str×Value)}{m:Str→Option Value},(∀v,(x,v)∉binds)→bindL kindOf binds m x=m x
 | [],_,_=>rfl
 |(n,v)::r,m,h=>by
  unfold bindL;rw[Zeg fun w hw=>h w (List.mem_cons_of_mem _ hw)]
  split
  ·have:x≠n:=by rintro rfl;exact h v List.mem_cons_self
   simp[this]
  ·rfl
theorem Zei{kindOf:Str→Option NameKind}{x:Str}:∀{binds:List (Str×Value)}{m:Str→Option Value},(∀v,(x,v)∉binds)→bindC kindOf binds m x=m x
 | [],_,_=>rfl
 |(n,v)::r,m,h=>by
  unfold bindC;rw[Zei fun w hw=>h w (List.mem_cons_of_mem _ hw)]
  split
  ·rfl
  ·have:x≠n:=by rintro rfl;exact h v List.mem_cons_self
   simp[this]
theorem Zez{kindOf:Str→Option NameKind}{x:Str}{v:Value}:∀{P:List Str}{vs:List Value}{i:Nat}{m:Str→Option Value},P.Nodup→P[i]? =some x→vs[i]? =some v→kindOf x=some .local→
  bindL kindOf (P.zip vs) m x=some v
 | [],_,_,_,_,h,_,_=>by simp at h
 |_::_,[],_,_,_,_,h,_=>by simp at h
 |p::P,w::vs,0,m,nd,h1,h2,hk=>by
  simp at h1 h2;subst h1;subst h2;show bindL kindOf ((p,w)::P.zip vs) m p=_;unfold bindL;rw[Zeg fun v hv=>(List.nodup_cons.mp nd).1 (List.of_mem_zip hv).1,if_pos hk];simp
 |p::P,w::vs,i+1,m,nd,h1,h2,hk=>by
  show bindL kindOf ((p,w)::P.zip vs) m x=_;unfold bindL;exact Zez (i:=i) (List.nodup_cons.mp nd).2 (by simpa using h1) (by simpa using h2) hk
theorem Zee{kindOf:Str→Option NameKind}{x:Str}{v:Value}:∀{P:List Str}{vs:List Value}{i:Nat}{m:Str→Option Value},P.Nodup→P[i]? =some x→vs[i]? =some v→kindOf x≠some .local→
  bindC kindOf (P.zip vs) m x=some v
 | [],_,_,_,_,h,_,_=>by simp at h
 |_::_,[],_,_,_,_,h,_=>by simp at h
 |p::P,w::vs,0,m,nd,h1,h2,hk=>by
  simp at h1 h2;subst h1;subst h2;show bindC kindOf ((p,w)::P.zip vs) m p=_;unfold bindC;rw[Zei fun v hv=>(List.nodup_cons.mp nd).1 (List.of_mem_zip hv).1,if_neg hk];simp
 |p::P,w::vs,i+1,m,nd,h1,h2,hk=>by
  show bindC kindOf ((p,w)::P.zip vs) m x=_;unfold bindC;exact Zee (i:=i) (List.nodup_cons.mp nd).2 (by simpa using h1) (by simpa using h2) hk
noncomputable def start (N:List Str) (vs:List V):St:=vs.map some++List.replicate (N.length-vs.length) none
noncomputable def ZN (CX:CXT) (P:Program) (w:World) (K:PySem.W.Frag) (mg:Str→Option Value) (base:Heap) (N:List Str) (qual:Str) (scope:Scope) (f:Addr) (cd:Value) (A:Around) (outer:List Env) (s:Shared) (H:Hp) (E:XK):Cx where
 prog:=P
 w:=w
 K:=K
 mg:=mg
 base:=base
 A:=A.deeper (envOfC qual scope s.heap.objs.size f cd)
 N:=N
 s₀:=s
 H₀:=H
 env:=envOfC qual scope s.heap.objs.size f cd
 outer:=outer
 stack:=envOfC qual scope s.heap.objs.size f cd::outer
 ex:=[]
 calm:=true
 fn:=fun _=>true
 pn:=[]
 xe:=fun e s'=>wpAny (model P w) (A.deeper (envOfC qual scope s.heap.objs.size f cd)) (leaving (envOfC qual scope s.heap.objs.size f cd) e) (fun _ s''=>CX outer H s E e s'') (fun e' s''=>CX outer H s E e' s'') s'
theorem Ze5{sc:Scope}{n:Nat}{x:Str}(h:sc.names.lookup x=some .cell):∃c,(cellsFrom n sc.names []).lookup x=some c:=by
 have q:=PySem.W.cellsFrom_some sc.names n [] (.inl h);exact Option.isSome_iff_exists.mp q
theorem ZiQ{CX:CXT}{P:Program}{w:World}{K:PySem.W.Frag}{mg:Str→Option Value}{base:Heap}{N ps:List Str}{qual:Str}{scope:Scope}{f:Addr}{cd:Value}{A:Around}{outer:List Env}{s s1:Shared}{H:Hp}{E:XK}{us:List Value}{vs:List V}
  (S:Zt N ps scope) (hd:A.handled=none) (e0:ZcY P w K mg base A outer s H) (hl:vs.length=ps.length) (r:ZF vs us)
  (x:InCallC s s.heap.objs.size (bindL (envOfC qual scope s.heap.objs.size f cd).kindOf (ps.zip us) fun _=>none) (cellsFrom (s.heap.objs.size+1) scope.names []) (bindC (envOfC qual scope s.heap.objs.size f cd).kindOf (ps.zip us) fun _=>none) s1):
  Inv (ZN CX P w K mg base N qual scope f cd A outer s H E) [] (start N vs) H s1:=by
 have hpl:ps.length≤N.length:=by have:=congrArg List.length S.pre;rw[List.length_take] at this;omega
 obtain⟨h1,tk,rfl,hk⟩:=x.done;have noA:∀b:Addr,b∉(ZN CX P w K mg base N qual scope f cd A outer s H E).ex:=fun b z=>absurd (show b∈([]:List Addr) from z) (by simp);refine⟨⟨e0.mod,S.kind,rfl,rfl,Nat.le_refl _,fun y z c h1 h2=>?_,fun y hy=>?_,fun y c _ h=>?_,fun _=>hd,Around.frames_deeper e0.frames,.inr ⟨rfl,rfl⟩,fun b z=>absurd z (noA b),e0.bs,e0.bsz,fun b _ _=>noA b,fun b z=>absurd z (noA b),e0.funs,e0.frf⟩,
  rfl,e0.bare,Un.kept hk,⟨_,x.toInCall.ns,fun i y v h1 h2 h3=>?_⟩,fun y c h=>⟨_,x.cell y c h⟩,e0.hok.fresh (Nat.le_refl _),fun y c h=>?_,fun p hp=>absurd (show p∈([]:List (Addr×Obj)) from hp) (by simp),e0.hok.kept hk,?_⟩
 ·exact name_of_addr x.apart (PySem.mem_of_lookup h1) (PySem.mem_of_lookup h2)
 ·have hy:scope.names.lookup y=some .cell∨scope.names.lookup y=some .free:=hy;rcases hy with hy|hy
  ·exact Ze5 hy
  ·exact absurd rfl (S.nofree _ (PySem.mem_of_lookup hy))
 ·exact Nat.le_of_lt (x.above y c (PySem.mem_of_lookup h))
 ·have hi:i<vs.length:=by
   unfold start at h2
   by_cases hi:i<vs.length
   ·exact hi
   ·rw[List.getElem?_append_right (by simpa using hi)] at h2;rw[List.getElem?_replicate] at h2
    split at h2<;>cases h2
  have ha:vs[i]? =some v:=by
   unfold start at h2;rw[List.getElem?_append_left (by simpa using hi),List.getElem?_map] at h2;cases e:vs[i]? with
   |none=>rw[e] at h2;cases h2
   |some a=>rw[e] at h2;cases h2;rfl
  obtain⟨u,hu,rv⟩:=r.get ha;have hp:ps[i]? =some y:=by
   rw[←S.pre,List.getElem?_take_of_lt (by omega)];exact h1
  have ndP:ps.Nodup:=by rw[←S.pre];exact S.nd.sublist (List.take_sublist _ _)
  refine⟨u,rv,?_⟩;rcases S.par y (List.mem_of_getElem? hp) with k|k
  ·exact .inl ⟨k,Zez ndP hp hu k⟩
  ·obtain⟨c,e⟩:=Ze5 (n:=s.heap.objs.size+1) k;refine .inr ⟨.inl k,c,e,?_⟩;have q:=x.cell y c e;rw[Zee ndP hp hu (by show scope.names.lookup y≠_;rw[k];decide)] at q;exact q
 ·exact e0.hok.fresh (Nat.le_of_lt (x.above y c (PySem.mem_of_lookup h)))
 ·unfold start;show _=N.length;rw[List.length_append,List.length_map,List.length_replicate];omega
theorem ZjY{CX:CXT}{P:Program}{w:World}{K:PySem.W.Frag}{mg:Str→Option Value}{base:Heap}{k:Nat}{f:Addr}{name qual:Str}{params:Arguments}{body:List Stmt}{scope:Scope}{dV kV doc pm cdv ct oc:Value}{an od:Option Addr}
  {osl:Array (Option Value)} {N ps:List Str} {sp:Sp} (lk:K.lookup f=some ⟨oc,od,.func (PySem.W.fnOf name qual params body scope dV kV doc pm an cdv ct),osl⟩) (hcd:PySem.W.codeIn K cdv qual=true) (S:Zt N ps scope)
  (len:∀vs H Q E,sp vs H Q E→vs.length=ps.length)
  (hbody:∀(A:Around)(outer:List Env)(s:Shared)(H:Hp)(vs:List V)(Q:VK)(E:XK),YO k (A.deeper (envOfC qual scope s.heap.objs.size f cdv))→sp vs H Q E→
   ∃t,PSs (ZN CX P w K mg base N qual scope f cdv A outer s H E) body t∧t {nx:=fun _ H'=>Q .non H',rt:=Q} (start N vs) H):
  Zk P w K mg base CX (k+1) f (PySem.W.fnOf name qual params body scope dV kV doc pm an cdv ct) ps sp:=by
 refine⟨len,fun A outer s H args us vs Q E hr e0 hb r hsp=>?_⟩;have hl:=len _ _ _ _ hsp;have KX:K.In s.heap:=e0.mod.kin.keeps fun b o e=>(e0.bs b o e).1;have lim:s.heap.NoLimit:=e0.mod.nolimit.keeps fun b o e=>(e0.bs b o e).1;have hkind:∀y∈ps.zip us,scope.names.lookup y.1=some .local∨(scope.names.lookup y.1=some .cell∧((cellsFrom (s.heap.objs.size+1) scope.names []).lookup y.1).isSome=true):=fun⟨n,v⟩ hy=>by
  rcases S.par n (List.of_mem_zip hy).1 with q|q
  ·exact .inl q
  ·exact .inr ⟨q,PySem.W.cellsFrom_some _ _ _ (.inl q)⟩
 refine codeAny_call_function hr.depth (KX _ _ lk) rfl S.co S.gen rfl (PySem.W.codeRec_of KX hcd) (hb _ _ _ _ ?_);refine wpAny_newFunctionEnv_cells S.kind hkind fun env he s1 x=>?_;subst he;refine⟨lim.keeps x.toInCall.keep,codeAny_func ?_⟩;obtain⟨t,ht,hq⟩:=hbody A outer s H vs Q E (hr.deeper _) hsp;have I:Inv (ZN CX P w K mg base N qual scope f cdv A outer s H E) [] (start N vs) H s1:=ZiQ S hr.hd e0 hl r x;refine wpAny_mono (ht [] s1 (start N vs) H _ I hq) (fun fl s' hs=>?_) fun e s' hs=>hs;have fin:∀{σ':St}{H':Hp}{v:V}{u:Value},Inv (ZN CX P w K mg base N qual scope f cdv A outer s H E) [] σ' H' s'→ZG v u→Q v H'→CE outer P w H s Q u s':=
  fun{σ' H' v u} J rv q=>⟨v,H',J.os,J.bare,J.base,J.hok,rv,q⟩
 cases fl with
 |ret u=>
  obtain⟨v,σ',H',J,rv,q⟩:=hs;exact fin J rv q
 |next=>
  obtain⟨σ',H',J,q⟩:=hs;exact fin (v:=V.non) (u:=Value.none) J rfl q
 |brk=>
  obtain⟨_,_,_,q⟩:=hs;exact False.elim q
 |cont=>
  obtain⟨_,_,_,q⟩:=hs;exact False.elim q
end L2
namespace L2
open PySem PySem.Spec PyProof.Rows
section
variable {X:Cx}{x:Str}{p pos:Pos}{e:Expr}{es:List Expr}{t:TA}{id T:String}{r:List V→Hp→VK→Prop}
noncomputable def tCB (r:List V→Hp→VK→Prop) (t:TA):TE:=fun σ H Q=>t σ H fun vs H1=>r vs H1 Q
theorem Zy(hc:Wl X (.builtin id) r)(hg:Gl X x)(hm:X.mg x=none)(hv:bootBuiltins x=some (.builtin id))(ha:PA X (e::es) t)(hn:x≠"__name__" :=by decide)(hdb:(x==("__debug__" :Str))=false:=by decide)
  (he:starEach (e::es) X.env=(false,eval e X.env)::starEach es X.env:=by rfl) (hpl:(backTo pos (starEach es X.env)).any (·.1)=false:=by rfl):PE X (.Call (.Name x p) (e::es) [] pos) (tCB r t):=by
 intro pins s σ H Q I h;refine wpAny_Call_Name_kw (Zae I hg hm hv ?_ hn hdb);exact PyProof.Rows.callWith_builtin1 (thn (ha pos pins s σ H _ I h) fun us s1 ⟨vs,H1,I1,r1,q1⟩=>hc pins s1 σ H1 vs us Q I1 r1 q1) he hpl
theorem WG(hc:Wl X (.type T) r)(hg:Gl X x)(hm:X.mg x=none)(hv:bootBuiltins x=some (.type T))(ha:PA X (e::es) t)(hn:x≠"__name__" :=by decide)(hdb:(x==("__debug__" :Str))=false:=by decide)
  (he:starEach (e::es) X.env=(false,eval e X.env)::starEach es X.env:=by rfl) (hpl:(backTo pos (starEach es X.env)).any (·.1)=false:=by rfl):PE X (.Call (.Name x p) (e::es) [] pos) (tCB r t):=by
 intro pins s σ H Q I h;refine wpAny_Call_Name_kw (Zae I hg hm hv ?_ hn hdb);exact PyProof.Rows.callWith_type1 (thn (ha pos pins s σ H _ I h) fun us s1 ⟨vs,H1,I1,r1,q1⟩=>hc pins s1 σ H1 vs us Q I1 r1 q1) he hpl
end
end L2
namespace HT
open PySem PyProof.Rows
section
open PySem.SeqAt
open PySem.AutoSeq1 (wpAny_loadPart')
open PySem.MeetsSeq PySem.MeetsSeq2 PySem.MeetsSeq3
end
section
variable {prog:Program}{w:World}{A:Around}{E:Value→Shared→Prop}{s:Shared}
theorem Zkp{t b:Addr}{vs ws:List Value}{Q:Value→Shared→Prop}(ht:IsTup s.heap t vs.toArray)(hb:IsTup s.heap b ws.toArray)(hv:vs≠[])
  (h1:ws=[]→Q (.ref t) s) (h2:ws≠[]→Q (.ref s.heap.objs.size) {s with heap:=s.heap.push {cls:= .type "tuple",data:= .seq (vs++ws).toArray}})
  (hsz:vs.length+ws.length≤sizeLine):wpAny (model prog w) A (binaryOp .Add (.ref t) (.ref b)) Q E s:=by
 obtain⟨⟨cls,dd,data,sl⟩,ho,hc,n,hd⟩:=id ht;obtain⟨⟨cls2,dd2,data2,sl2⟩,ho2,hc2,n2,hd2⟩:=id hb;simp only at hc hd hc2 hd2;subst hc hd hc2 hd2;have e:vs.toArray++ws.toArray=(vs++ws).toArray:=by simp
 by_cases hw:ws=[]
 ·exact concat_meets ⟨_,ho,rfl⟩ ⟨_,ho2,rfl⟩ noFill_tuple_add seq_tuple_add PySem.F.slot_tuple_add PySem.F.entry_tuple_add (PySem.F.args_tuple_add_2 _ _)
   (tuple_addW1 t b vs.toArray ws.toArray n n2 dd dd2 sl sl2 (by simpa using hv) (by simp[hw])) ⟨ho,ho2,h1 hw⟩
 ·refine concat_meets ⟨_,ho,rfl⟩ ⟨_,ho2,rfl⟩ noFill_tuple_add seq_tuple_add PySem.F.slot_tuple_add PySem.F.entry_tuple_add (PySem.F.args_tuple_add_2 _ _)
   (tuple_addW2 t b vs.toArray ws.toArray n n2 dd dd2 sl sl2 (by simpa using hv) (by simpa using hw) (by rw[List.size_toArray,List.size_toArray];exact hsz)) ⟨ho,ho2,?_⟩
  rw[e];exact h2 hw
noncomputable def sIx (n d:Nat):Option Int→Nat
 |none=>d
 |some v=>if v<0 then(v+(n:Int)).toNat else min v.toNat n
theorem Zll(n d:Nat)(hd:d≤n)(o:Option Int):sIx n d o≤n:=by
 cases o with
 |none=>exact hd
 |some v=>
  show(if v<0 then(v+(n:Int)).toNat else min v.toNat n)≤n
  by_cases hv:v<0
  ·rw[if_pos hv];omega
  ·rw[if_neg hv];exact Nat.min_le_right _ _
theorem ZgT(v:Int)(n d:Nat):(if v<0 then max (v+(n:Int)) 0 else min v (n:Int))=((sIx n d (some v):Nat):Int):=by
 show(if v<0 then max (v+(n:Int)) 0 else min v (n:Int))=(((if v<0 then(v+(n:Int)).toNat else min v.toNat n):Nat):Int)
 by_cases hv:v<0
 ·simp only[if_pos hv];omega
 ·simp only[if_neg hv];omega
theorem ZhI(lo hi:Option Int)(n:Nat):Builtin.Slice.sliceAdjust lo hi 1 (n:Int)=(((sIx n 0 lo:Nat):Int),((sIx n n hi:Nat):Int)):=by
 have h1:¬((1:Int)<0):=by omega
 unfold Builtin.Slice.sliceAdjust;simp only[h1,if_false];refine Prod.ext ?_ ?_
 ·cases lo with
  |none=>rfl
  |some v=>exact ZgT v n 0
 ·cases hi with
  |none=>rfl
  |some v=>exact ZgT v n n
theorem Zhu(i j:Nat):Builtin.Slice.slicePlaces (i:Int) (j:Int) 1=j-i:=by
 unfold Builtin.Slice.slicePlaces;have h1:(1:Int) > 0:=by omega
 simp only[h1,if_true,Int.ediv_one]
 split<;>omega
theorem Zdj{v:Value}{o:Option Int}{Q:Option Int→Shared→Prop}(p:IsPart v o)(h:Q o s):wpAny (model prog w) A (Builtin.Slice.slicePartIndex v) Q E s:=by
 cases p with
 |none=>exact slicePart_none h
 |int i t=>exact slicePart_int h
theorem Zc0{sl:Addr}{vl vu:Value}{lo hi:Option Int}{n:Nat}{Q:Int×Int×Nat→Shared→Prop}(hs:s.heap.IsSliceOf sl vl vu .none)(pl:IsPart vl lo)(pu:IsPart vu hi)
  (h:Q (((sIx n 0 lo:Nat):Int),1,sIx n n hi-sIx n 0 lo) s):wpAny (model prog w) A (Builtin.Slice.sliceApplied (.ref sl) (pure (n:Int))) Q E s:=by
 obtain⟨os,hos,hcs,hds⟩:=id hs;unfold Builtin.Slice.sliceApplied Builtin.Slice.sliceFields;refine wpAny_bind (wpAny_bind (wpAny_field hos hds (x:=vl) rfl (wpAny_bind (wpAny_field hos hds (x:=vu) rfl (wpAny_bind (wpAny_field hos hds (x:= .none) rfl (wpAny_pure ?_)))))));refine wpAny_bind (slicePart_none ?_);show wpAny _ _ (if((1:Int)==0)=true then _ else _) _ _ s;rw[if_neg (by decide)];refine wpAny_bind (Zdj pl (wpAny_bind (Zdj pu (wpAny_bind (wpAny_pure ?_)))));show wpAny _ _ (match Builtin.Slice.sliceAdjust lo hi 1 (n:Int) with|(lo,hi)=>pure (lo,(1:Int),Builtin.Slice.slicePlaces lo hi 1)) _ _ s;rw[ZhI lo hi n];show wpAny _ _ (pure (((sIx n 0 lo:Nat):Int),(1:Int),Builtin.Slice.slicePlaces ((sIx n 0 lo:Nat):Int) ((sIx n n hi:Nat):Int) 1)) _ _ s;rw[Zhu];exact wpAny_pure h
theorem ZjU(xs:Array Value)(i k:Nat):((List.range k).filterMap fun(m:Nat)=>xs[((i:Int)+(m:Int)*1).toNat]?).toArray=((xs.toList.drop i).take k).toArray:=by
 have e:(fun(m:Nat)=>xs[((i:Int)+(m:Int)*1).toNat]?)=fun m=>xs[i+m]? :=by
  funext m
  have:((i:Int)+(m:Int)*1).toNat=i+m:=by omega
  rw[this]
 rw[e];have:=pick_run xs i k;rw[List.filterMap_map] at this;have e2:((fun x=>xs[x]?)∘fun x=>i+x)=fun m=>xs[i+m]? :=rfl;rw[e2] at this;rw[this]
theorem Zcr{t sl:Addr}{items:Array Value}{vl vu:Value}{lo hi:Option Int}{Q:Value→Shared→Prop}(ht:IsTup s.heap t items)(hs:s.heap.IsSliceOf sl vl vu .none)(pl:IsPart vl lo)(pu:IsPart vu hi)
  (hw:¬(sIx items.size 0 lo=0∧sIx items.size items.size hi=items.size))
  (h:Q (.ref s.heap.objs.size) {s with heap:=s.heap.push {cls:= .type "tuple",data:= .seq ((items.toList.drop (sIx items.size 0 lo)).take (sIx items.size items.size hi-sIx items.size 0 lo)).toArray}})
  (hsz:items.size≤sizeLine):wpAny (model prog w) A (getItem (.ref t) (.ref sl)) Q E s:=by
 have htake:sizeOk (.seq ((items.toList.drop (sIx items.size 0 lo)).take (sIx items.size items.size hi-sIx items.size 0 lo)).toArray):=by
  show((items.toList.drop (sIx items.size 0 lo)).take (sIx items.size items.size hi-sIx items.size 0 lo)).toArray.size≤sizeLine;rw[List.size_toArray,List.length_take,List.length_drop,Array.length_toList];omega
 have hj:sIx items.size items.size hi≤items.size:=Zll _ _ (Nat.le_refl _) hi;obtain⟨os,hos,hcs,hds⟩:=id hs;have hTs:s.TypeIs (.ref sl) "slice" :=⟨os,hos,hcs⟩;unfold getItem
 try with_reducible refine wpAny_holding ?_
 first|refine wpAny_bind (wpAny_pure ?_)|skip
 refine wpAny_bind (wpAny_sequenceKey ht.typeIs (by decide) ?_);refine wpAny_bind (wpAny_callSpecial?_slot (name:=Str.ofString "__getitem__") ht.typeIs PyProof.Rows.slot_tuple_getitem
  (wpAny_call_entry PyProof.Rows.slot_tuple_getitem ht.typeIs entry_tuple_getitem ?_ (args_tuple_getitem _ _)))
 show wpAny _ _ (Builtin.Tuple.tupleItemsOf (.ref t) >>= _) _ _ s;refine wpAny_bind (tupleItemsOf_ ht ?_);refine wpAny_bind (wpAny_typeOf hTs ?_);rw[if_pos (by decide)];refine wpAny_bind (Zc0 hs pl pu ?_);have hno:¬((((sIx items.size 0 lo:Nat):Int)==0&&(1:Int)==1&&(sIx items.size items.size hi-sIx items.size 0 lo)==items.size)=true):=by
  intro q;rw[Bool.and_eq_true,Bool.and_eq_true] at q;have q1:((sIx items.size 0 lo:Nat):Int)=0:=eq_of_beq q.1.1;have q2:sIx items.size items.size hi-sIx items.size 0 lo=items.size:=eq_of_beq q.2;exact hw ⟨by omega,by omega⟩
 show wpAny _ _ (if(((sIx items.size 0 lo:Nat):Int)==0&&(1:Int)==1&&(sIx items.size items.size hi-sIx items.size 0 lo)==items.size)=true then _ else _) _ _ s;rw[if_neg hno,ZjU]
 first
  |exact wpAny_bind (m:=Builtin.Tuple.tupleExact _) (wpAny_newObj_type (wpAny_pure ⟨_,rfl,wpAny_pure h⟩) htake)
  |exact wpAny_bind (m:=Builtin.Tuple.tupleExact _) (wpAny_newObj_type (wpAny_bind (wpAny_pure (wpAny_pure ⟨_,rfl,wpAny_pure h⟩))) htake)
  |exact wpAny_bind (wpAny_bind (m:=Builtin.Tuple.tupleExact _) (wpAny_newObj_type (wpAny_pure (wpAny_pure ⟨_,rfl,wpAny_pure h⟩)) htake))
  |exact wpAny_bind (wpAny_bind (m:=Builtin.Tuple.tupleExact _) (wpAny_newObj_type (wpAny_pure ⟨_,rfl,wpAny_pure h⟩) htake))
end
end HT
namespace L2
open PySem PySem.Spec PyProof.Rows
noncomputable abbrev TO:=St→Hp→(Option Int→Hp→Prop)→Prop
def PO(X:Cx)(e:Option Expr)(t:TO):Prop:=
 ∀(pins:List (Addr×Obj))(s:Shared)(σ:St)(H:Hp)(Q:Option Int→Hp→Prop),Inv X pins σ H s→t σ H Q→
  wpAny (model X.prog X.w) X.A (evalPart e X.env) (fun u s'=>∃o H',Inv X pins σ H' s'∧IsPart u o∧Q o H') X.xe s
noncomputable def tNoPart:TO:=fun _ H Q=>Q none H
noncomputable def Zj3 (t:TE):TO:=fun σ H Q=>t σ H fun x H1=>∃i,x= .int i∧Q (some i) H1
theorem Zbs{ns:List Int}:∀{us:List Value},ZF (ns.map V.int) us→IntsAre us ns:=by
 induction ns with
 |nil=>intro us r;rw[List.map_nil] at r;cases r;exact .nil
 |cons n ns ih=>
  intro us r;rw[List.map_cons] at r;cases r with
  |cons r1 r2=>
   obtain⟨t,e⟩:=r1;subst e;exact .cons n t (ih r2)
section
variable {X:Cx}{e:Expr}{te:TE}{lo hi:Option Expr}{tl th:TO}{pos p2:Pos}
theorem Zd8:PO X none tNoPart:=by
 intro pins s σ H Q I h;rw[evalPart_none];exact wpAny_pure ⟨none,H,I,.none,h⟩
theorem Zd7(h:PE X e te):PO X (some e) (Zj3 te):=by
 intro pins s σ H Q I hw;rw[evalPart_some];refine thn (h pins s σ H _ I hw) fun u s1 ⟨x,H1,I1,r1,q1⟩=>?_;obtain⟨i,rfl,q⟩:=q1;obtain⟨t,rfl⟩:=r1;exact⟨some i,H1,I1,.int i t,q⟩
def SlR(X:Cx)(r:V→Option Int→Option Int→Hp→VK→Prop):Prop:=
 ∀(pins:List (Addr×Obj))(s:Shared)(σ:St)(H:Hp)(x:V)(v vl vu:Value)(lo hi:Option Int)(sl:Addr)(Q:VK),Inv X pins σ H s→ZG x v→s.heap.IsSliceOf sl vl vu .none→IsPart vl lo→IsPart vu hi→r x lo hi H Q→
  ∃T id,typeLookup (.type T) "__getitem__" =pure (some (.builtin id))∧s.TypeIs v T∧wpAny (model X.prog X.w) X.A (getItem v (.ref sl)) (EP X pins σ Q) X.xe s
theorem SlR.or{r r':V→Option Int→Option Int→Hp→VK→Prop}(h:SlR X r)(h':SlR X r'):SlR X (fun x lo hi H Q=>r x lo hi H Q∨r' x lo hi H Q):=by
 intro pins s σ H x v vl vu lo hi sl Q I rx hs pl pu q;rcases q with q|q
 ·exact h pins s σ H x v vl vu lo hi sl Q I rx hs pl pu q
 ·exact h' pins s σ H x v vl vu lo hi sl Q I rx hs pl pu q
noncomputable def tSl (r:V→Option Int→Option Int→Hp→VK→Prop) (te:TE) (tl th:TO):TE:=fun σ H Q=>te σ H fun x H1=>tl σ H1 fun l H2=>th σ H2 fun u H3=>r x l u H3 Q
theorem Zda{r:V→Option Int→Option Int→Hp→VK→Prop}(hr:SlR X r)(he:PE X e te)(hl:PO X lo tl)(hu:PO X hi th):PE X (.Subscript e (.Slice lo hi none p2) pos) (tSl r te tl th):=by
 intro pins s σ H Q I h;refine Subscript_ (thn (he pins s σ H _ I h) fun v s1 ⟨x,H1,I1,r1,q1⟩=>?_);refine wpAny_Slice (thn (hl pins s1 σ H1 _ I1 q1) fun vl s2 ⟨l,H2,I2,pl,q2⟩=>thn (hu pins s2 σ H2 _ I2 q2) fun vu s3 ⟨u,H3,I3,pu,q3⟩=>?_);rw[evalPart_none];refine wpAny_pure ?_;have I4:Inv X pins σ H3 {s3 with heap:=s3.heap.push {cls:= .type "slice",data:= .fields #[vl,vu,.none]}}:=I3.kept (t':=s3.toks) fun b ob q=>Heap.get?_push_of_some _ q;obtain⟨T,id,hT,ht,hg⟩:=hr pins {s3 with heap:=s3.heap.push {cls:= .type "slice",data:= .fields #[vl,vu,.none]}} σ H3 x v vl vu l u s3.heap.objs.size Q I4 r1 (Heap.IsSliceOf.new ..) pl pu q3;show wpAny (model X.prog X.w) X.A (subscriptTail e (.Slice lo hi none p2) v (.ref s3.heap.objs.size)) (EP X pins σ Q) X.xe {s3 with heap:=s3.heap.push {cls:= .type "slice",data:= .fields #[vl,vu,.none]}};exact tail_any (ops:=[.ref s3.heap.objs.size,v]) ht hT hg (by with_unfolding_all rfl)
noncomputable def Uf (xs:List V) (lo hi:Option Int):List V:=(xs.drop (HT.sIx xs.length 0 lo)).take (HT.sIx xs.length xs.length hi-HT.sIx xs.length 0 lo)
theorem ZcH(xs:List V)(lo hi:Option Int):(Uf xs lo hi).length≤xs.length:=by
 unfold Uf;rw[List.length_take,List.length_drop];omega
noncomputable def Zk2 (K:PySem.W.Frag):V→Option Int→Option Int→Hp→VK→Prop:=fun x lo hi H Q=>∃a xs,x= .ref a∧SqT K H a xs∧
 ¬(HT.sIx xs.length 0 lo=0∧HT.sIx xs.length xs.length hi=xs.length)∧∀p,H p=none→Q (.ref p) (upd H p (.tup (Uf xs lo hi)))
theorem Zlg:SlR X (Zk2 X.K):=by
 intro pins s σ H x v vl vu lo hi sl Q I rx hs pl pu h;obtain⟨a,xs,rfl,hx,hw,q⟩:=h;cases rx;obtain⟨its,r,ht,hz⟩:=I.tuple hx;have hlen:its.toArray.size=xs.length:=by rw[List.size_toArray];exact r.length.symm
 refine⟨"tuple",_,PyProof.Rows.slot_tuple_getitem.lookup,ht.typeIs,?_⟩;refine HT.Zcr ht hs pl pu (by rw[hlen];exact hw) ?_ (by rw[hlen];exact hz);rw[hlen];refine⟨.ref s.heap.objs.size,_,I.laid (t':=s.toks) (o:= .tup (Uf xs lo hi)) (fun b ob q=>Heap.get?_push_of_some _ q) (Nat.le_refl _) ?_,rfl,q _ (I.hok.fresh (Nat.le_refl _))⟩;exact⟨Nat.le_trans (ZcH xs lo hi) hz,_,(r.drop (HT.sIx xs.length 0 lo)).take (HT.sIx xs.length xs.length hi-HT.sIx xs.length 0 lo),IsTup.new _ _⟩
noncomputable def ZeW (K:PySem.W.Frag):R2:=fun x y H Q=>∃a b xs ys,x= .ref a∧y= .ref b∧SqT K H a xs∧SqT K H b ys∧xs≠[]∧xs.length+ys.length≤sizeLine∧
 (ys=[]→Q (.ref a) H)∧(ys≠[]→∀p,H p=none→Q (.ref p) (upd H p (.tup (xs++ys))))
theorem ZF.nil_iff{xs:List V}{us:List Value}(r:ZF xs us):us=[]↔xs=[]:=by
 cases r with
 |nil=>simp
 |cons _ _=>simp
theorem Zkv:OpR X (binaryOp .Add) (ZeW X.K):=by
 intro pins s σ H x y v u Q I rx ry h;obtain⟨a,b,xs,ys,rfl,rfl,ha,hb,hx,hz,q1,q2⟩:=h;cases rx;cases ry;obtain⟨its,r1,p1,_⟩:=I.tuple ha;obtain⟨its2,r2,p2,_⟩:=I.tuple hb;refine HT.Zkp p1 p2 (fun z=>hx (r1.nil_iff.mp z)) (fun z=>⟨.ref a,H,I,rfl,q1 (r2.nil_iff.mp z)⟩) (fun z=>?_) (by rw[←r1.length,←r2.length];exact hz);refine⟨.ref s.heap.objs.size,_,I.laid (t':=s.toks) (o:= .tup (xs++ys)) (fun b ob q=>Heap.get?_push_of_some _ q) (Nat.le_refl _) ?_,rfl,q2 (fun w=>z (r2.nil_iff.mpr w)) _ (I.hok.fresh (Nat.le_refl _))⟩;exact⟨by rw[List.length_append];exact hz,_,r1.append r2,IsTup.new _ _⟩
end
end L2
namespace L2
open PySem PySem.Spec PyProof.Rows
noncomputable def ixN (n:Nat) (i:Int):Option Nat:=if 0≤i then(if i<n then some i.toNat else none) else if -(n:Int)≤i then some (i+n).toNat else none
noncomputable def atI {α:Type} (xs:List α) (i:Int):Option α:=(ixN xs.length i).bind fun j=>xs[j]?
theorem Zgz{n:Nat}{i:Int}{j:Nat}(h:ixN n i=some j):seqIndex? i n=some j∧j<n∧ -(n:Int)≤i∧i<n:=by
 unfold ixN at h
 by_cases h0:0≤i
 ·rw[if_pos h0] at h
  by_cases h1:i<n
  ·rw[if_pos h1] at h;have e:i.toNat=j:=Option.some.inj h;exact⟨by rw[seqIndex_of h0 h1,e],by omega,by omega,h1⟩
  ·rw[if_neg h1] at h;cases h
 ·rw[if_neg h0] at h
  by_cases h1: -(n:Int)≤i
  ·rw[if_pos h1] at h;have e:(i+n).toNat=j:=Option.some.inj h;exact⟨by rw[seqIndex_neg (by omega) h1,e],by omega,h1,by omega⟩
  ·rw[if_neg h1] at h;cases h
theorem Zci{α:Type}{xs:List α}{i:Int}{v:α}(h:atI xs i=some v):∃j,seqIndex? i xs.length=some j∧xs[j]? =some v∧j<xs.length∧ -(xs.length:Int)≤i∧i<xs.length:=by
 unfold atI at h;cases e:ixN xs.length i with
 |none=>rw[e] at h;cases h
 |some j=>
  rw[e] at h;obtain⟨h1,h2,h3,h4⟩:=Zgz e;exact⟨j,h1,h,h2,h3,h4⟩
theorem YT{α:Type}{xs:List α}{j:Nat}{v:α}(h:xs[j]? =some v):atI xs (j:Int)=some v:=by
 have hj:j<xs.length:=(List.getElem?_eq_some_iff.mp h).1;have e:ixN xs.length (j:Int)=some j:=by
  unfold ixN;rw[if_pos (by omega),if_pos (by omega)];simp
 unfold atI;rw[e];exact h
def ZkF(b:Expr):Prop:=∀o i,subscripted b false o i=operate [o,i] (getItem o i)
def IxR(X:Cx)(r:R2):Prop:=
 ∀(value slice:Expr)(pins:List (Addr×Obj))(s:Shared)(σ:St)(H:Hp)(x y:V)(v u:Value)(Q:VK),Inv X pins σ H s→ZG x v→ZG y u→r x y H Q→
  subscripted slice false v u=operate [v,u] (getItem v u)→wpAny (model X.prog X.w) X.A (subscriptTail value slice v u) (EP X pins σ Q) X.xe s
def MtR(X:Cx)(id:String)(r:V→List V→Hp→VK→Prop):Prop:=
 ∀(pins:List (Addr×Obj))(s:Shared)(σ:St)(H:Hp)(x:V)(xs:List V)(v:Value)(us:List Value)(Q:VK),Inv X pins σ H s→ZG x v→ZF xs us→r x xs H Q→
  wpAny (model X.prog X.w) X.A (call (.builtin id) (v::us)) (EP X pins σ Q) X.xe s
section
variable {X:Cx}{a b:Expr}{ta tb:TE}{pos:Pos}
theorem IxR.or{r r':R2}(h:IxR X r)(h':IxR X r'):IxR X (fun x y H Q=>r x y H Q∨r' x y H Q):=by
 intro value slice pins s σ H x y v u Q I rx ry q hs;rcases q with q|q
 ·exact h value slice pins s σ H x y v u Q I rx ry q hs
 ·exact h' value slice pins s σ H x y v u Q I rx ry q hs
theorem Zj{r:R2}(hr:IxR X r)(ha:PE X a ta)(hb:PE X b tb)(hs:ZkF b):PE X (.Subscript a b pos) (tOp r ta tb):=by
 intro pins s σ H Q I h;exact Subscript_ (ZjR ha hb I h fun v u s2 x y H2 I2 rx ry q=>hr a b pins s2 σ H2 x y v u Q I2 rx ry q (hs _ _))
noncomputable def ZdR (K:PySem.W.Frag):R2:=fun x y H Q=>∃p xs i v,x= .ref p∧y= .int i∧SqL K H p xs∧atI xs i=some v∧Q v H
noncomputable def Zjz (K:PySem.W.Frag):R2:=fun x y H Q=>∃p xs i v,x= .ref p∧y= .int i∧SqT K H p xs∧atI xs i=some v∧Q v H
noncomputable def rIxS:R2:=fun x y H Q=>∃z i c,x= .str z∧y= .int i∧z.length≤sizeLine∧atI z.cps.toList i=some c∧Q (.str ⟨#[c]⟩) H
theorem Zks:IxR X (ZdR X.K):=by
 intro value slice pins s σ H x y v u Q I rx ry h hs;obtain⟨p,xs,i,z,rfl,rfl,hq,he,q⟩:=h;cases rx;obtain⟨t,rfl⟩:=ry;obtain⟨its,r,pl,hz⟩:=I.list hq;obtain⟨j,h1,h2,h3,h4,h5⟩:=Zci he;obtain⟨w,ew,rw'⟩:=r.get h2;have hl:=r.length;have hn:=V1;have fin:EP X pins σ Q w s:=⟨z,H,I,rw',q⟩
 by_cases h0:0≤i
 ·have hj:i.toNat=j:=by
   rw[seqIndex_of h0 h5] at h1;exact Option.some.inj h1
  exact item_listR pl.isList h0 (by omega) (by rw[hj];simpa using ew) fin hs
 ·have hj:(i+(its.toArray.size:Int)).toNat=j:=by
   rw[seqIndex_neg (by omega) h4] at h1;rw[List.size_toArray,←hl];exact Option.some.inj h1
  exact subscriptTail_builtinR (x:=w) pl.isList.typeIs slot_list_getitem.lookup
   (wpAny_getItem_list_neg (Q:=fun r s'=>r=w∧EP X pins σ Q r s') pl.isList (by omega) (by rw[List.size_toArray]<;>omega) (by omega) (by rw[hj];simpa using ew) ⟨rfl,fin⟩) hs
theorem Zk7:IxR X (Zjz X.K):=by
 intro value slice pins s σ H x y v u Q I rx ry h hs;obtain⟨p,xs,i,z,rfl,rfl,hq,he,q⟩:=h;cases rx;obtain⟨t,rfl⟩:=ry;obtain⟨its,r,pl,hz⟩:=I.tuple hq;obtain⟨j,h1,h2,h3,h4,h5⟩:=Zci he;obtain⟨w,ew,rw'⟩:=r.get h2;have hl:=r.length;have hn:=V1;have fin:EP X pins σ Q w s:=⟨z,H,I,rw',q⟩;exact subscriptTail_builtinR (x:=w) pl.typeIs slot_tuple_getitem.lookup
  (getItem_tuple (j:=j) (Q:=fun r s'=>r=w∧EP X pins σ Q r s') pl (by omega) (by omega) (by rw[List.size_toArray,←hl];exact h1) (by simpa using ew) ⟨rfl,fin⟩) hs
theorem Zlb:IxR X rIxS:=by
 intro value slice pins s σ H x y v u Q I rx ry h hs;obtain⟨z,i,c,rfl,rfl,hz,he,q⟩:=h;obtain⟨t,rfl⟩:=rx;obtain⟨t',rfl⟩:=ry;obtain⟨j,h1,h2,h3,h4,h5⟩:=Zci he;have hl:z.cps.toList.length=z.length:=by simp[Str.length]
 rw[hl] at h1 h4 h5;have hn:=V1;exact tail_any (typeIs_str s z t) slot_str_getitem.lookup (getItem_str (c:=c) (by
  have e1:decide (i< -(2 ^ 63:Int))=false:=decide_eq_false (by omega);have e2:decide (i≥2 ^ 63)=false:=decide_eq_false (by omega);rw[e1,e2,Bool.or_false]) (by rw[h1];simpa using h2) ⟨.str ⟨#[c]⟩,H,I.tok _,⟨_,rfl⟩,q⟩) hs
noncomputable def rIx (K:PySem.W.Frag):R2:=fun x y H Q=>ZdR K x y H Q∨Zjz K x y H Q∨rIxS x y H Q
theorem ZlE:IxR X (rIx X.K):=Zks.or (Zk7.or Zlb)
theorem ZhA(its:List Value)(n j:Nat)(u:Value):Obj.mapSeq (·.setIfInBounds j u) {cls:= .type "list",data:= .seq its.toArray n}={cls:= .type "list",data:= .seq (its.set j u).toArray n}:=by
 simp[Obj.mapSeq]
theorem Inv.lst{pins:List (Addr×Obj)}{σ:St}{H:Hp}{s:Shared}{p:Addr}{xs:List V}(I:Inv X pins σ H s)(h:H p=some (.lst xs)):
  ∃(its:List Value)(n:Nat),ZF xs its∧s.heap.get? p=some {cls:= .type "list",data:= .seq its.toArray n}∧xs.length≤sizeLine:=by
 obtain⟨z,its,n,r,e⟩:=I.hok p _ h;exact⟨its,n,r,e,z⟩
theorem Inv.lstUpd{pins:List (Addr×Obj)}{σ:St}{H:Hp}{s:Shared}{p:Addr}{xs ys:List V}{its its':List Value}{n n':Nat}{f:Obj→Obj}(I:Inv X pins σ H s)(h:H p=some (.lst xs))
  (ho:s.heap.get? p=some {cls:= .type "list",data:= .seq its.toArray n}) (hf:f {cls:= .type "list",data:= .seq its.toArray n}={cls:= .type "list",data:= .seq its'.toArray n'}) (r:ZF ys its') (hz:ys.length≤sizeLine) (t:Nat):
  Inv X pins σ (upd H p (.lst ys)) {s with heap:=s.heap.update p f,toks:=t}:=by
 have e:(s.heap.update p f).get? p=some {cls:= .type "list",data:= .seq its'.toArray n'}:=by
  rw[Heap.get?_update_self f ho (by rw[hf]<;>rfl),hf]
 refine I.write (x:=p) (e:=p) (by rw[h];trivial) (.inl rfl) (fun b u hb q=>(Heap.get?_update_other _ _ (Ne.symm hb)).trans q) ⟨_,e⟩ ?_;exact⟨hz,its',n',r,e⟩
noncomputable def rSetL:V→V→V→Hp→(Hp→Prop)→Prop:=fun o i v H Q=>∃p xs k j,o= .ref p∧i= .int k∧H p=some (.lst xs)∧ixN xs.length k=some j∧Q (upd H p (.lst (xs.set j v)))
theorem WM:ZhP X rSetL:=by
 intro pins s σ H o i v ov iv u Q I ro ri rv h;obtain⟨p,xs,k,j,rfl,rfl,hp,hj,q⟩:=h;cases ro;obtain⟨t,rfl⟩:=ri;obtain⟨its,n,r,ho,hz⟩:=I.lst hp;obtain⟨h1,h2,h3,h4⟩:=Zgz hj;have hl:=r.length;have hn:=V1;have I':Inv X pins σ (upd H p (.lst (xs.set j v))) {s with heap:=s.heap.update p (Obj.mapSeq (·.setIfInBounds j u))}:=
  I.lstUpd hp ho (ZhA its n j u) (r.set rv j) (by rw[List.length_set];exact hz) s.toks
 by_cases h0:0≤k
 ·have hk:k.toNat=j:=by
   rw[seqIndex_of h0 h4] at h1;exact Option.some.inj h1
  exact PySem.W.ki_setAt ho h0 (by omega) (by rw[List.size_toArray,←hl];exact h4) (by rw[hk];exact⟨_,I',q⟩)
 ·have hk:(k+(its.toArray.size:Int)).toNat=j:=by
   rw[seqIndex_neg (by omega) h3] at h1;rw[List.size_toArray,←hl];exact Option.some.inj h1
  exact PySem.W.ki_setBack ho (by omega) (by rw[List.size_toArray,←hl];exact h3) (by omega) (by rw[hk];exact⟨_,I',q⟩)
theorem Zfm(lo hi:Option Int)(n:Nat):(sliceBounds lo hi none n).1=((HT.sIx n 0 lo:Nat):Int)∧(sliceBounds lo hi none n).2.1=((HT.sIx n n hi:Nat):Int)∧(sliceBounds lo hi none n).2.2=1:=by
 refine⟨?_,?_,rfl⟩
 ·cases lo with
  |none=>simp[sliceBounds,HT.sIx]
  |some i=>
   simp only[sliceBounds,HT.sIx,Option.getD_none,show(1:Int) > 0 by decide,if_true]
   by_cases h:i<0
   ·simp only[h,if_true]<;>omega
   ·simp only[h,if_false]<;>omega
 ·cases hi with
  |none=>simp[sliceBounds,HT.sIx]
  |some i=>
   simp only[sliceBounds,HT.sIx,Option.getD_none,show(1:Int) > 0 by decide,if_true]
   by_cases h:i<0
   ·simp only[h,if_true]<;>omega
   ·simp only[h,if_false]<;>omega
theorem ZeI(its:List Value)(lo hi:Option Int):slicePick its.toArray lo hi none=((its.drop (HT.sIx its.length 0 lo)).take (HT.sIx its.length its.length hi-HT.sIx its.length 0 lo)).toArray:=by
 obtain⟨h1,h2,h3⟩:=Zfm lo hi its.toArray.size;unfold slicePick;rw[h1,h2,h3];simp only[sliceRange_one,pick_run,List.size_toArray]<;>rfl
noncomputable def ZlL (K:PySem.W.Frag):V→Option Int→Option Int→Hp→VK→Prop:=fun x lo hi H Q=>∃a xs,x= .ref a∧SqL K H a xs∧∀p,H p=none→Q (.ref p) (upd H p (.lst (Uf xs lo hi)))
theorem ZkQ:SlR X (ZlL X.K):=by
 intro pins s σ H x v vl vu lo hi sl Q I rx hs pl pu h;obtain⟨a,xs,rfl,hx,q⟩:=h;cases rx;obtain⟨its,r,ht,hz⟩:=I.list hx;have hlen:=r.length;refine⟨"list",_,slot_list_getitem.lookup,ht.isList.typeIs,?_⟩;refine wpAny_getItem_list_slice ht.isList hs pl pu .none (by simp) ?_ (by rw[List.size_toArray]<;>omega);rw[ZeI,←hlen];refine⟨.ref s.heap.objs.size,_,I.laid (t':=s.toks) (o:= .lst (Uf xs lo hi)) (fun b ob q=>Heap.get?_push_of_some _ q) (Nat.le_refl _) ?_,rfl,q _ (I.hok.fresh (Nat.le_refl _))⟩;exact⟨Nat.le_trans (ZcH xs lo hi) hz,_,0,(r.drop (HT.sIx xs.length 0 lo)).take (HT.sIx xs.length xs.length hi-HT.sIx xs.length 0 lo),Heap.get?_push_size _ rfl⟩
noncomputable def Uv:V→Bool
 | .non=>true
 | .bl _=>true
 | .int _=>true
 | .str _=>true
 |_=>false
noncomputable def eqV:V→V→Bool
 | .non,.non=>true
 | .bl a,.bl b=>a==b
 | .bl a,.int b=>(if a then 1 else 0)==b
 | .int a,.bl b=>a==(if b then 1 else 0)
 | .int a,.int b=>a==b
 | .str a,.str b=>a==b
 |_,_=>false
theorem ZlI{A:Around}{s:Shared}{y x:V}{u v:Value}(ry:ZG y u)(rx:ZG x v)(fy:Uv y=true)(fx:Uv x=true):SeqAt.EqAt A s u v (eqV y x):=by
 cases y with
 |non=>
  cases ry;cases x with
  |non=>cases rx;exact SeqAt.EqAt.same _
  |bl b=>cases rx;exact SeqAt.EqAt.none_bool b
  |int b=>obtain⟨t,rfl⟩:=rx;exact SeqAt.EqAt.none_int b t
  |str b=>obtain⟨t,rfl⟩:=rx;exact SeqAt.EqAt.none_str b t
  |_=>exact absurd (show false=true from fx) Bool.false_ne_true
 |bl a=>
  cases ry;cases x with
  |non=>cases rx;exact SeqAt.EqAt.bool_none a
  |bl b=>cases rx;exact SeqAt.EqAt.bool_bool a b
  |int b=>obtain⟨t,rfl⟩:=rx;exact SeqAt.EqAt.bool_int a b t
  |str b=>obtain⟨t,rfl⟩:=rx;exact SeqAt.EqAt.bool_str a b t
  |_=>exact absurd (show false=true from fx) Bool.false_ne_true
 |int a=>
  obtain⟨t',rfl⟩:=ry;cases x with
  |non=>cases rx;exact SeqAt.EqAt.int_none a t'
  |bl b=>cases rx;exact SeqAt.EqAt.int_bool a t' b
  |int b=>obtain⟨t,rfl⟩:=rx;exact SeqAt.EqAt.int_int a t' b t
  |str b=>obtain⟨t,rfl⟩:=rx;exact SeqAt.EqAt.int_str a t' b t
  |_=>exact absurd (show false=true from fx) Bool.false_ne_true
 |str a=>
  obtain⟨t',rfl⟩:=ry;cases x with
  |non=>cases rx;exact SeqAt.EqAt.str_none a t'
  |bl b=>cases rx;exact SeqAt.EqAt.str_bool a t' b
  |int b=>obtain⟨t,rfl⟩:=rx;exact SeqAt.EqAt.str_int a t' b t
  |str b=>obtain⟨t,rfl⟩:=rx;exact SeqAt.EqAt.str_str a t' b t
  |_=>exact absurd (show false=true from fx) Bool.false_ne_true
 |_=>exact absurd (show false=true from fy) Bool.false_ne_true
noncomputable def eqU (x:V) (u:Value):Bool:=match u with
 | .none=>eqV .non x
 | .bool b=>eqV (.bl b) x
 | .int i _=>eqV (.int i) x
 | .str z _=>eqV (.str z) x
 |_=>false
theorem ZiI{x y:V}{u:Value}(r:ZG y u)(f:Uv y=true):eqU x u=eqV y x:=by
 cases y with
 |non=>cases r;rfl
 |bl b=>cases r;rfl
 |int i=>obtain⟨t,rfl⟩:=r;rfl
 |str z=>obtain⟨t,rfl⟩:=r;rfl
 |_=>exact absurd (show false=true from f) Bool.false_ne_true
theorem ZaS{x:V}:∀{xs:List V}{us:List Value},ZF xs us→xs.all Uv=true→us.any (eqU x)=xs.any fun y=>eqV y x
 |_,_,.nil,_=>rfl
 |y::xs,u::us,.cons r t,f=>by
  rw[List.all_cons,Bool.and_eq_true] at f;rw[List.any_cons,List.any_cons,ZiI r f.1,ZaS t f.2]
theorem Zad{A:Around}{s:Shared}{x:V}{v:Value}(rx:ZG x v)(fx:Uv x=true):∀{xs:List V}{us:List Value},ZF xs us→xs.all Uv=true→∀u∈us,SeqAt.EqAt A s u v (eqU x u)
 |_,_,.nil,_=>fun u hu=>by cases hu
 |y::xs,u::us,.cons r t,f=>fun u' hu=>by
  rw[List.all_cons,Bool.and_eq_true] at f;rcases List.mem_cons.mp hu with rfl|hu
  ·rw[ZiI r f.1];exact ZlI r rx f.1 fx
  ·exact Zad rx fx t f.2 u' hu
noncomputable def inV (x:V) (xs:List V):Bool:=xs.any fun y=>eqV y x
noncomputable def rIn (K:PySem.W.Frag) (neg:Bool):R2:=fun x y H Q=>∃p xs,y= .ref p∧(SqL K H p xs∨SqT K H p xs)∧Uv x=true∧xs.all Uv=true∧Q (.bl (if neg then !inV x xs else inV x xs)) H
theorem ZiM:OpR X (compareOp .In) (rIn X.K false):=by
 intro pins s σ H x y v u Q I rx ry h;obtain⟨p,xs,rfl,hq,fx,fs,q⟩:=h;cases ry;rcases hq with hq|hq
 ·obtain⟨its,r,pl,hz⟩:=I.list hq;refine SeqAt.in_listAt (eqU x) pl.isList (fun w hw=>Zad rx fx r fs w (by simpa using hw)) ⟨.bl _,H,I,rfl,?_⟩;rw[show its.toArray.any (eqU x)=its.any (eqU x) by simp,ZaS r fs];exact q
 ·obtain⟨its,r,pl,hz⟩:=I.tuple hq;refine SeqAt.in_tupleAt (eqU x) pl (fun w hw=>Zad rx fx r fs w (by simpa using hw)) ⟨.bl _,H,I,rfl,?_⟩;rw[show its.toArray.any (eqU x)=its.any (eqU x) by simp,ZaS r fs];exact q
theorem ZeZ:OpR X (compareOp .NotIn) (rIn X.K true):=by
 intro pins s σ H x y v u Q I rx ry h;obtain⟨p,xs,rfl,hq,fx,fs,q⟩:=h;cases ry;rcases hq with hq|hq
 ·obtain⟨its,r,pl,hz⟩:=I.list hq;refine SeqAt.notIn_listAt (eqU x) pl.isList (fun w hw=>Zad rx fx r fs w (by simpa using hw)) ⟨.bl _,H,I,rfl,?_⟩;rw[show its.toArray.any (eqU x)=its.any (eqU x) by simp,ZaS r fs];exact q
 ·obtain⟨its,r,pl,hz⟩:=I.tuple hq;refine SeqAt.notIn_tupleAt (eqU x) pl (fun w hw=>Zad rx fx r fs w (by simpa using hw)) ⟨.bl _,H,I,rfl,?_⟩;rw[show its.toArray.any (eqU x)=its.any (eqU x) by simp,ZaS r fs];exact q
theorem Zfk:Wl X (.type "list") (fun xs H Q=>∃p ys,xs=[.ref p]∧(SqL X.K H p ys∨SqT X.K H p ys)∧∀l,H l=none→Q (.ref l) (upd H l (.lst ys))):=by
 intro pins s σ H xs us Q I r h;obtain⟨p,ys,rfl,hq,q⟩:=h;obtain⟨u,rfl,rx⟩:=Ve r;cases rx;have fin:∀(its:List Value),ZF ys its→ys.length≤sizeLine→∀(h':Heap)(c':Nat),(∀b o',s.heap.get? b=some o'→h'.get? b=some o')→
   h'.get? s.heap.objs.size=some {cls:= .type "list",dict:=none,data:= .seq its.toArray c',slots:=#[]}→EP X pins σ Q (.ref s.heap.objs.size) {s with heap:=h'}:=fun its r' hz h' c' kp e=>
  ⟨.ref s.heap.objs.size,_,I.laid (t':=s.toks) kp (Nat.le_refl _) (show Z2 X.prog X.w _ h' _ (.lst ys) from⟨hz,its,c',r',e⟩),rfl,q _ (I.hok.fresh (Nat.le_refl _))⟩
 rcases hq with hq|hq
 ·obtain⟨its,r',pl,hz⟩:=I.list hq;have hlen:=r'.length;obtain⟨o,ho,hc,n,hd⟩:=pl.isList;exact call_list_seq p (.inl rfl) ho hc hd (fun h' c' kp e=>fin its r' hz h' c' kp e) (by simp only[List.size_toArray]<;>omega)
 ·obtain⟨its,r',pl,hz⟩:=I.tuple hq;have hlen:=r'.length;obtain⟨o,ho,hc,n,hd⟩:=pl;exact call_list_seq p (.inr rfl) ho hc hd (fun h' c' kp e=>fin its r' hz h' c' kp e) (by simp only[List.size_toArray]<;>omega)
def tyV(K:PySem.W.Frag)(T:String)(x:V)(H:Hp):Prop:=match x with
 | .str _=>T="str"
 | .int _=>T="int"
 | .ref p=>(T="list" ∧∃xs,SqL K H p xs)∨(T="tuple" ∧∃o,K.lookup p=some o∧o.cls= .type "tuple" ∧o.dict=none)∨
   (T="dict" ∧((∃kvs,H p=some (.dK kvs))∨∃kvs,H p=some (.dT kvs)))∨(T="set" ∧∃S n,H p=some (.set S n))
 |_=>False
theorem ZkX{pins:List (Addr×Obj)}{σ:St}{H:Hp}{s:Shared}{T:String}{x:V}{v:Value}(I:Inv X pins σ H s)(r:ZG x v)(ty:tyV X.K T x H):
  s.TypeIs v T∧∀a,v= .ref a→∃ob,s.heap.get? a=some ob∧ob.dict=none:=by
 cases x with
 |str z=>
  obtain⟨t,rfl⟩:=r;cases (show T="str" from ty);exact⟨typeIs_str s z t,fun _ e=>nomatch e⟩
 |int i=>
  obtain⟨t,rfl⟩:=r;cases (show T="int" from ty);exact⟨typeIs_int s i t,fun _ e=>nomatch e⟩
 |ref p=>
  cases r;rcases ty with⟨rfl,xs,hq⟩|⟨rfl,o,hk,hc,hd⟩|⟨rfl,hk⟩|⟨rfl,S,n,hk⟩
  ·obtain⟨its,_,pl,_⟩:=I.list hq;refine⟨pl.isList.typeIs,fun a e=>?_⟩;cases e;obtain⟨o,n,e,c,hd,_⟩:=pl;exact⟨o,e,hd⟩
  ·refine⟨⟨o,I.kIn p o hk,hc⟩,fun a e=>?_⟩;cases e;exact⟨o,I.kIn _ o hk,hd⟩
  ·have z:∃o,s.heap.get? p=some o∧o.ExactDict:=by
    rcases hk with⟨kvs,hk⟩|⟨kvs,hk⟩
    ·obtain⟨_,_,_,_,o,_,_,e,ex,_⟩:=I.hok p _ hk;exact⟨o,e,ex⟩
    ·obtain⟨_,_,_,_,o,_,_,e,ex,_⟩:=I.hok p _ hk;exact⟨o,e,ex⟩
   obtain⟨o,e,ex⟩:=z;refine⟨⟨o,e,ex.1⟩,fun a e2=>?_⟩;cases e2;exact⟨o,e,ex.2.1⟩
  ·obtain⟨o,_,_,_,e,ex,_⟩:=I.hok p _ hk;refine⟨⟨o,e,ex.1⟩,fun a e2=>?_⟩;cases e2;exact⟨o,e,ex.2.1⟩
 |_=>exact False.elim ty
noncomputable def tBM (K:PySem.W.Frag) (T:String) (r:V→List V→Hp→VK→Prop) (to:TE) (t:TA):TE:=fun σ H Q=>to σ H fun x H1=>tyV K T x H1∧t σ H1 fun xs H2=>r x xs H2 Q
variable {o e:Expr}{es:List Expr}{to:TE}{t:TA}{name:Str}{apos cpos:Pos}{T id:String}{r:V→List V→Hp→VK→Prop}
theorem Zmx(pa:PlainAttrs T)(slot:Slot T name id)(hty:typeOf (.builtin id)=pure (.type "method_descriptor"))(hm:MtR X id r)(ho:PE X o to)(ha:PA X (e::es) t)
  (hbase:attributeBase o name X.env (eval o X.env)=eval o X.env:=by rfl)
  (hfew:((backTo cpos (starEach (e::es) X.env)).all (fun x=>!x.1)&&(backToKw cpos (keywordEach [] X.env)).all (fun x=>x.1.isSome)
   &&decide ((e::es).length+([]:List Keyword).length+(if([]:List Keyword).isEmpty then 0 else 1)<30))=true:=by rfl)
  (hline:(apos.endLine==cpos.line)=true:=by rfl) (hs:starEach (e::es) X.env=(false,eval e X.env)::starEach es X.env:=by rfl) (hplain:(backTo cpos (starEach es X.env)).any (·.1)=false:=by rfl):
  PE X (.Call (.Attribute o name apos) (e::es) [] cpos) (tBM X.K T r to t):=by
 intro pins s σ H Q I h;refine wpAny_Call_method_late hbase hfew hline rfl (thn (ho pins s σ H _ I h) fun v s1 ⟨x,H1,I1,r1,ty,q1⟩=>?_);obtain⟨h1,h2⟩:=ZkX I1 r1 ty;refine⟨T,id,pa,slot,hty,h1,h2,?_⟩;have hA:=ha cpos pins s1 σ H1 _ I1 q1;rw[hs] at hA⊢;refine Calls.callWith_builtin (by show(false||(backTo cpos (starEach es X.env)).any (·.1))=false;rw[hplain]<;>rfl) (Calls.evalArgs_plain ?_);exact thn hA fun us s2 ⟨vs,H2,I2,r2,q2⟩=>hm pins s2 σ H2 x vs v us Q I2 r1 r2 q2
end
end L2
namespace L2
open PySem PySem.Spec PyProof.Rows
def MtM(X:Cx)(id:String)(r:V→List V→Hp→VK→Prop):Prop:=
 ∀(pins:List (Addr×Obj))(s:Shared)(σ:St)(H:Hp)(x:V)(xs:List V)(v:Value)(us:List Value)(Q:VK),Inv X pins σ H s→ZG x v→ZF xs us→r x xs H Q→
  wpAny (model X.prog X.w) X.A (call (.builtin id) (v::us)) (EP X pins σ Q) X.xe s
theorem ZF.one:∀{x:V}{us:List Value},ZF [x] us→∃u,us=[u]∧ZG x u
 |_,_,.cons r .nil=>⟨_,rfl,r⟩
theorem ZF.two:∀{x y:V}{us:List Value},ZF [x,y] us→∃u v,us=[u,v]∧ZG x u∧ZG y v
 |_,_,_,.cons r (.cons q .nil)=>⟨_,_,rfl,r,q⟩
theorem ZF.rep{xs:List V}{us:List Value}(h:ZF xs us):∀k:Nat,ZF (List.replicate k xs).flatten (List.replicate k us).flatten
 |0=> .nil
 |k+1=>by
  rw[List.replicate_succ,List.replicate_succ,List.flatten_cons,List.flatten_cons];exact ZF.append h (ZF.rep h k)
theorem ZeG(its:List Value):∀(k:Nat)(acc:List Value),
  List.foldl (fun x1 x2=>x1++x2) acc.toArray (List.replicate k its.toArray)=(acc++(List.replicate k its).flatten).toArray
 |0,acc=>by simp
 |k+1,acc=>by
  have e:acc.toArray++its.toArray=(acc++its).toArray:=by simp
  have e2:(acc++its)++(List.replicate k its).flatten=acc++(List.replicate (k+1) its).flatten:=by
   rw[List.replicate_succ,List.flatten_cons,List.append_assoc]
  rw[←e2,←ZeG its k (acc++its),←e,List.replicate_succ,List.foldl_cons]
section
variable {X:Cx}{pins:List (Addr×Obj)}{σ:St}{H:Hp}{s:Shared}{l b:Addr}{xs ys zs:List V}
theorem Inv.lset{its its':List Value}{n:Nat}{f:Array Value→Array Value}{t':Nat}(I:Inv X pins σ H s)(hH:H l=some (.lst xs))
  (e:s.heap.get? l=some {cls:= .type "list",data:= .seq its.toArray n}) (hf:f its.toArray=its'.toArray) (hv:ZF ys its') (hz:ys.length≤sizeLine):
  Inv X pins σ (upd H l (.lst ys)) {s with heap:=s.heap.update l (Obj.mapSeq f),toks:=t'}:=by
 have q:=PySem.IsL.update e f;rw[hf] at q;refine I.write (x:=l) (e:=l) (by rw[hH];exact trivial) (.inl rfl) (fun b' u hb hu=>(Heap.get?_update_other s.heap (Obj.mapSeq f) (Ne.symm hb)).trans hu) ⟨_,q⟩ ?_;exact⟨hz,its',_,hv,q⟩
theorem Inv.lnew{its:List Value}{t':Nat}(I:Inv X pins σ H s)(hv:ZF ys its)(hz:ys.length≤sizeLine):
  Inv X pins σ (upd H s.heap.objs.size (.lst ys)) {s with heap:=s.heap.push {cls:= .type "list",data:= .seq its.toArray},toks:=t'}:=
 I.laid (fun _ _ q=>Heap.get?_push_of_some _ q) (Nat.le_refl _) ⟨hz,its,0,hv,Heap.get?_push_size _ rfl⟩
theorem Inv.fresh(I:Inv X pins σ H s):H s.heap.objs.size=none:=I.hok.fresh (Nat.le_refl _)
theorem Inv.lstM(I:Inv X pins σ H s)(hH:H l=some (.lst xs)):xs.length≤sizeLine∧∃(its:List Value)(n:Nat),ZF xs its∧xs.length=its.length∧s.heap.get? l=some {cls:= .type "list",data:= .seq its.toArray n}:=by
 obtain⟨z,its,n,r,e⟩:=I.hok l _ hH;exact⟨z,its,n,r,r.length,e⟩
theorem Zfi{n:Nat}(h:n≤sizeLine):Builtin.List.listTooLong n=false:=by
 unfold Builtin.List.listTooLong;exact decide_eq_false (by omega)
end
section
variable {X:Cx}
noncomputable def rAppend:V→List V→Hp→VK→Prop:=fun x vs H Q=>∃l xs y,x= .ref l∧vs=[y]∧H l=some (.lst xs)∧xs.length<sizeLine∧Q .non (upd H l (.lst (xs++ [y])))
theorem Yc:MtM X "list.append" rAppend:=by
 intro pins s σ H x vs v us Q I rx rv h;obtain⟨l,xs,y,rfl,rfl,hH,hz,q⟩:=h;cases rx;obtain⟨u,rfl,ru⟩:=rv.one;obtain⟨z,its,n,r,hl,e⟩:=I.lstM hH;refine call_meets F.slot_list_append ⟨_,e,rfl⟩ F.entry_list_append (F.args_list_append_2 _ _) (PySem.list_append l its.toArray n u (by rw[List.size_toArray];omega)) ⟨e,?_⟩;refine⟨.non,_,I.lset (its':=its++ [u]) hH e (by simp) (r.append (.cons ru .nil)) ?_,rfl,q⟩;rw[List.length_append,List.length_singleton];omega
noncomputable def rExtend:V→List V→Hp→VK→Prop:=fun x vs H Q=>∃l b xs zs,x= .ref l∧vs=[.ref b]∧H l=some (.lst xs)∧H b=some (.lst zs)∧xs.length+zs.length≤sizeLine∧Q .non (upd H l (.lst (xs++zs)))
theorem ZmC:MtM X "list.extend" rExtend:=by
 intro pins s σ H x vs v us Q I rx rv h;obtain⟨l,b,xs,zs,rfl,rfl,hH,hB,hz,q⟩:=h;cases rx;obtain⟨u,rfl,ru⟩:=rv.one;cases ru;obtain⟨z,its,n,r,hl,e⟩:=I.lstM hH;obtain⟨z2,its2,n2,r2,hl2,e2⟩:=I.lstM hB;have hsz:its.toArray.size+its2.toArray.size≤sizeLine:=by rw[List.size_toArray,List.size_toArray];omega
 have hlong:¬(!its.toArray.isEmpty&&Builtin.List.listTooLong (its.toArray.size+its2.toArray.size))=true:=by
  rw[Zfi hsz,Bool.and_false];exact Bool.false_ne_true
 refine call_meets F.slot_list_extend ⟨_,e,rfl⟩ F.entry_list_extend (F.args_list_extend_2 _ _)
  (AutoSeq1.list_extend_list_list_0 l its.toArray n b its2.toArray n2 hlong (by rw[List.size_toArray];omega) (by omega)) ⟨e,e2,?_⟩
 refine⟨.non,_,I.lset (its':=its++its2) hH e (by simp) (r.append r2) ?_,rfl,q⟩;rw[List.length_append];omega
noncomputable def rCat:R2:=fun x y H Q=>∃l b xs zs,x= .ref l∧y= .ref b∧H l=some (.lst xs)∧H b=some (.lst zs)∧xs.length+zs.length≤sizeLine∧∀p,H p=none→Q (.ref p) (upd H p (.lst (xs++zs)))
theorem Zk5:OpR X (binaryOp .Add) rCat:=by
 intro pins s σ H x y v u Q I rx ry h;obtain⟨l,b,xs,zs,rfl,rfl,hH,hB,hz,q⟩:=h;cases rx;cases ry;obtain⟨z,its,n,r,hl,e⟩:=I.lstM hH;obtain⟨z2,its2,n2,r2,hl2,e2⟩:=I.lstM hB;refine PySem.P.add_list e e2 ?_ (by rw[List.size_toArray,List.size_toArray];omega);have ea:its.toArray++its2.toArray=(its++its2).toArray:=by simp
 rw[ea];exact⟨.ref _,_,I.lnew (t':=s.toks) (r.append r2) (by rw[List.length_append];omega),rfl,q _ I.fresh⟩
noncomputable def rRep:R2:=fun x y H Q=>∃l k xs,x= .ref l∧y= .int k∧H l=some (.lst xs)∧ -(2 ^ 63)≤k∧k<2 ^ 63∧xs.length*k.toNat≤sizeLine∧
 ∀p,H p=none→Q (.ref p) (upd H p (.lst (List.replicate k.toNat xs).flatten))
theorem Zkr{α:Type}(xs:List α)(k:Nat):(List.replicate k xs).flatten.length=k*xs.length:=by
 induction k with
 |zero=>simp
 |succ k ih=>rw[List.replicate_succ,List.flatten_cons,List.length_append,ih,Nat.succ_mul,Nat.add_comm]
theorem Zlu:OpR X (binaryOp .Mult) rRep:=by
 intro pins s σ H x y v u Q I rx ry h;obtain⟨l,k,xs,rfl,rfl,hH,h1,h2,hz,q⟩:=h;cases rx;obtain⟨t,rfl⟩:=ry;obtain⟨z,its,n,r,hl,e⟩:=I.lstM hH;have hlen:its.toArray.size*k.toNat≤sizeLine:=by rw[List.size_toArray,←hl];exact hz
 have hcap:¬its.toArray.size*k.toNat > (2 ^ 63-1) / 8:=by
  have:(sizeLine:Nat)≤(2 ^ 63-1) / 8:=by decide
  omega
 have hfit:¬(!Builtin.List.listFitsIndex k)=true:=by
  rw[fitsIndex_both h1 h2];exact Bool.false_ne_true
 have hlong:¬Builtin.List.listTooLong (its.toArray.size*k.toNat)=true:=by
  rw[Zfi hlen];exact Bool.false_ne_true
 have hnew:List.foldl (fun x1 x2=>x1++x2) #[] (List.replicate (if its.toArray.isEmpty=true then 0 else k.toNat) its.toArray)=(List.replicate k.toNat its).flatten.toArray:=by
  have f0:∀m:Nat,List.foldl (fun x1 x2=>x1++x2) #[] (List.replicate m its.toArray)=(List.replicate m its).flatten.toArray:=fun m=>by
   have:=ZeG its m [];rw[List.nil_append] at this;exact this
  rw[f0];cases its with
  |nil=>simp
  |cons a r'=>rw[if_neg (by simp)]
 refine wpAny_binaryOp_repeat_ref (T:="list") (U:="int") (by decide) ⟨_,e,rfl⟩ (fun s'=>typeIs_int s' k t) noFill_list_mul F.fills_int_mul F.slot_int_rmul repeat_list F.slot_int_index.lookup
  (call_meets F.slot_int_rmul (typeIs_int s k t) F.entry_int_rmul (F.args_int_rmul_2 _ _) (int___rmul___int_list k t l its.toArray n)
   ⟨e,rfl,⟨_,e,rfl⟩,call_meets F.slot_list_mul ⟨_,e,rfl⟩ F.entry_list_mul (F.args_list_mul_2 _ _) (AutoListH.list___mul___list_int_3 l its.toArray n k t hfit hcap hlong) ⟨e,?_⟩⟩)
 rw[hnew];exact⟨.ref _,_,I.lnew (t':=s.toks) (r.rep k.toNat) (by rw[Zkr,Nat.mul_comm];exact hz),rfl,q _ I.fresh⟩
end
section
variable {prog:Program}{w:World}{A:Around}{E:Value→Shared→Prop}{s:Shared}
end
section
variable {X:Cx}
end
end L2
namespace Att
open PySem PySem.W PySem.Calls PyProof.Rows
theorem Zdu{P:Params}{h:Heap}:∀(ns:List Int)(vs:List Value),WellAll P h vs (ns.map WData.int)→IntsAre vs ns:=by
 intro ns
 induction ns with
 |nil=>
  intro vs w;rw[List.map_nil] at w;cases w;exact .nil
 |cons n ns ih=>
  intro vs w;rw[List.map_cons] at w;cases w with
  |cons a b=>
   cases a;exact .cons _ _ (ih _ b)
theorem Zip{l:OpenLaw}{n:Nat}(hn:l.most=some n){P:Params}{h:Heap}{args:List WData}{vals:List Value}
  (hpre:l.row.toRowW.claim.pre args=true) (hwl:WellAll P h vals args):
  ∃a vs ns,vals=[Value.ref a]∧args=[WData.list (ns.map WData.int)]∧h.get? a=some {cls:= .type "list",data:= .seq vs.toArray}∧IntsAre vs ns∧ns.length≤n:=by
 have hsh:WShape.hasAll [] args [.list .int]=true:=(pre_splitW hpre).1;have hc:l.pre.holds [] {args:=args}=true:=(pre_splitW hpre).2;obtain⟨d,r,rfl,h1,h2⟩:=hasAllW_cons hsh;obtain rfl:=hasAllW_nil h2;obtain⟨xs,rfl,h3⟩:=hasW_list h1;obtain⟨ns,rfl⟩:=items_int h3;have hlen:ns.length≤n:=by
  unfold OpenLaw.pre at hc;have h4:(WTm.not (.lt (.lit (.int (n:Int))) (.len (.arg 0)))).holds [] {args:=[.list (ns.map .int)]}=true:=by
   have h4:=(holds_andW hc).1;rw[hn] at h4;exact h4
  have h5:=condW_of h4 (w_not (w_lt w_lit (w_len_list (w_arg rfl))));rw[List.length_map] at h5;refine Nat.le_of_not_lt fun q=>?_;have q':(n:Int)<((ns.length:Nat):Int):=by omega
  first
   |(rw[decide_eq_true q'] at h5;exact absurd h5 (by decide))
   |(simp at h5;omega)
 cases hwl with
 |cons w1 w2=>
  cases w2;cases w1 with
  |list ho hall=>exact⟨_,_,ns,rfl,rfl,ho,Zdu ns _ hall,hlen⟩
theorem ZiN(l:OpenLaw)(args:List WData):l.row.toRowW.claim.post args (.bool true) args=true:=
 postW_of (r:=l.row.toRowW) (X:=(true==true))
  (show WShape.has [] (.bool true) .bool=true by first|rfl|decide|simp[WShape.has,WShape.arms,WShape.armsAll])
  (show(WTm.eq .res (.lit (.bool true))).value [] {args:=args,res:=some (.bool true),after:=args}=some (.bool (true==true)) from w_eq_bool (w_res rfl) w_lit) rfl
theorem ZfZ{l:OpenLaw}{n:Nat}{q:Program}{loose:List Str}{XP:(Str→Option Value)→Heap→Prop}{YP:World→Heap→Prop}{d:DefRec}
  (hn:l.most=some n) (hdf:d.params.defaults=[])
  (call:∀(w:World)(s₀ s₁:Shared)(mg mb:Str→Option Value)(fa:Addr)(o:Obj)(pm cd doc:Value)(a:Addr)(vs:List Value)(ns:List Int),
   Ground q loose [] XP w s₀ mg mb s₁.heap→YP w s₁.heap→
   s₁.heap.get? fa=some o→o.data= .func (docDef d.name d.params d.body d.scope pm cd doc)→s₁.heap.CodeRec cd d.name→mg d.name=some (.ref fa)→
   s₁.heap.get? a=some {cls:= .type "list",data:= .seq vs.toArray}→IntsAre vs ns→ns.length≤n→s₁.gens=#[]→
   codeAny (model l.prog w) callerA (.call (.ref fa) ⟨[.ref a],[]⟩) (fun r s'=>r= .ok (.ret (.bool true))∧OldK s₁.heap s'.heap∧s'.os=s₁.os∧AllBare s'.gens) s₁):
  WalkO q loose XP YP l.row.toRowW d [] (fun f vs=>PySem.call f vs):=by
 intro w s₀ s₁ mg mb G Y fa o pm cd doc dV kV ho hd hcd hD hmg hg args vals as hpre hlay hrd hwl hlo;obtain rfl:dV= .none:=Dflts.none hD hdf;obtain rfl:kV= .none:=Dflts.noKw hD;obtain⟨a,vs,ns,rfl,rfl,hobj,hints,hlen⟩:=Zip hn hpre hwl;refine enter_call (codeAny_mono (call w s₀ s₁ mg mb fa o pm cd doc a vs ns G Y ho (fd_plain hd) hcd hmg hobj hints hlen hg) fun r s' hq=>?_);obtain⟨rfl,h2,h3,h4⟩:=hq;exact⟨.inl ⟨.bool true,.bool true,[],rfl,fun _=>rfl,.bool true,ZiN l _,fun _=>⟨List.Pairwise.nil,fun _ hm=>(nomatch hm)⟩⟩,h2,h3,h4⟩
section
variable {prog:Program}{w:World}{A:Around}{E:Value→Shared→Prop}{s:Shared}{K:Frag}
end
end Att
namespace L2
open PySem PySem.Spec PyProof.Rows
theorem ZbI:∀{vs:List Value}{ns:List Int},IntsAre vs ns→ZF (ns.map V.int) vs
 |_,_,.nil=> .nil
 |_,_,.cons n t h=> .cons ⟨t,rfl⟩ (ZbI h)
def Zjn(H:Hp):Prop:=∀b,H b=none∨∃o xs,H b=some (.frz o (.lst xs))
theorem ZjM{P:Program}{w:World}{K:PySem.W.Frag}{mg mb:Str→Option Value}{CX:CXT}{k:Nat}{fa a:Addr}{fd:FuncData}{x:Str}{sp:Sp}{s₁:Shared}{vs:List Value}{ns:List Int}
  (KX:K.In s₁.heap) (hns:s₁.heap.Ns mainGlobals mg) (hb:s₁.heap.Ns builtinsNs mb) (hbb:∀x:Str,x≠"__name__" →mb x=bootBuiltins x) (hlim:s₁.heap.NoLimit) (hg:s₁.gens=#[])
  (ha:s₁.heap.get? a=some {cls:= .type "list",data:= .seq vs.toArray}) (hi:IntsAre vs ns) (hl:ns.length≤sizeLine) (hr:YO k callerA)
  (F:∀base:Heap,K.In base→base.Ns mainGlobals mg→Zk P w K mg base CX k fa fd [x] sp) (hbind:∀(s:Shared)(u:Value),BindsTo s fd ⟨[u],[]⟩ [(x,u)])
  (hsp:∀H:Hp,Zjn H→SqL K H a (ns.map V.int)→sp [.ref a] H (fun v _=>v= .bl true) fun _ _ _=>False)
  (hCX:∀H e s',CX [] H s₁ (fun _ _ _=>False) e s'→False):
  codeAny (model P w) callerA (.call (.ref fa) ⟨[.ref a],[]⟩) (fun r s'=>r= .ok (.ret (.bool true))∧OldK s₁.heap s'.heap∧s'.os=s₁.os∧AllBare s'.gens) s₁:=by
 have rv:=ZbI hi;have lenV:=hi.length;have core:∀H:Hp,Zjn H→SqL K H a (ns.map V.int)→HOk P w H s₁.heap→(∀b,H b≠none→b=a)→(H a≠none→K.lookup a=none)→
   codeAny (model P w) callerA (.call (.ref fa) ⟨[.ref a],[]⟩) (fun r s'=>r= .ok (.ret (.bool true))∧OldK s₁.heap s'.heap∧s'.os=s₁.os∧AllBare s'.gens) s₁:=by
  intro H hO hS hok hA hK;have base_of:∀{b:Addr}{o:Obj},s₁.heap.get? b=some o→H b=none→(Zbo s₁.heap H).get? b=some o:=fun e n=>Zi4 e n;have noA:∀{b:Addr}{o:Obj}{es:Array DictEntry}{ep:Nat},s₁.heap.get? b=some o→o.data= .dict es ep→H b=none:=fun{b o es ep} e d=>by
   cases q:H b with
   |none=>rfl
   |some u=>
    have e':b=a:=hA b (by rw[q];simp);subst e';rw[ha] at e;cases e;have d':Data.seq vs.toArray _=Data.dict es ep:=d;cases d'
  have nsK:∀{b:Addr}{m:Str→Option Value},s₁.heap.Ns b m→(Zbo s₁.heap H).Ns b m:=fun{b m} ⟨o,es,ep,e,d,r⟩=>⟨o,es,ep,base_of e (noA e d),d,r⟩;have hKb:K.In (Zbo s₁.heap H):=fun b o e=>base_of (KX b o e) (by
   cases q:H b with
   |none=>rfl
   |some u=>
    have e':b=a:=hA b (by rw[q];simp);subst e';rw[hK (by rw[q];simp)] at e;cases e)
  have hM:Mod K mg (Zbo s₁.heap H):=⟨hKb,nsK hns,⟨mb,nsK hb,hbb⟩,let⟨mc,h1,h2⟩:=hlim;⟨mc,nsK h1,h2⟩⟩;have e0:ZcY P w K mg (Zbo s₁.heap H) callerA [] s₁ H:=⟨rfl,hM,fun b o e=>ZkB e,Nat.le_of_eq (ZiS _ _),trivial,fun b hb=>absurd (show b∈([]:List Addr) from hb) (by simp),hok,.of_eq hg⟩;refine codeAny_mono ((F _ hKb (nsK hns)).run callerA [] s₁ H ⟨[.ref a],[]⟩ [.ref a] [.ref a] _ _ hr e0 (hbind s₁ (.ref a)) (.cons rfl .nil) (hsp H hO hS)) fun r s' h=>?_;cases r with
  |error e=>exact(hCX H e s' h).elim
  |ok fl=>
   cases fl with
   |next=>exact False.elim h
   |brk=>exact False.elim h
   |cont=>exact False.elim h
   |ret u=>
    obtain⟨v,H',os,bare,un,hok',r',q⟩:=h;have q':v= .bl true:=q;subst q';obtain rfl:u=Value.bool true:=r';refine⟨rfl,OldK.of_keep fun b o e=>?_,os,bare⟩;cases q:H b with
    |none=>exact un.keep b o e q (by intro z;exact absurd (show b∈([]:List Addr) from z) (by simp)) (by simp)
    |some u=>
     rcases hO b with z|⟨ob,xs,z⟩
     ·rw[q] at z;cases z
     ·have z2:=un.frzs b ob _ z;obtain⟨e1,_⟩:=hok b _ z;obtain⟨e2,_⟩:=hok' b _ z2;rw[e] at e1;cases e1;exact e2
 cases hk:K.lookup a with
 |some o=>
  have e:=KX a o hk;rw[ha] at e;cases e;refine core (fun _=>none) (fun _=> .inl rfl) (.inr ⟨_,vs.toArray,_,hk,rfl,rfl,rfl,by rw[List.size_toArray,lenV];exact hl,by simpa using rv⟩) (fun b u z=>by have z':(none:Option HO)=some u:=z;cases z') (fun b z=>absurd rfl z) fun z=>absurd rfl z
 |none=>
  refine core (fun b=>if b=a then some (.frz {cls:= .type "list",data:= .seq vs.toArray} (.lst (ns.map V.int))) else none) (fun b=>?_) (.inl (.inr ⟨{cls:= .type "list",data:= .seq vs.toArray},if_pos rfl⟩)) (fun b u z=>?_) (fun b z=>?_) fun _=>hk
  ·by_cases hb:b=a
   ·exact .inr ⟨_,_,if_pos hb⟩
   ·exact .inl (if_neg hb)
  ·by_cases hb:b=a
   ·have z':=(if_pos hb).symm.trans z;cases z';subst hb;exact⟨ha,by rw[List.length_map];exact hl,vs,_,rv,ha⟩
   ·have z':=(if_neg hb).symm.trans z;cases z'
  ·by_cases hb:b=a
   ·exact hb
   ·exact absurd (if_neg hb) z
end L2
namespace L2
open PySem PySem.Spec PyProof.Rows
theorem ZkH{l:PySem.W.OpenLaw}{n k:Nat}{q:Program}{loose:List Str}{XP:(Str→Option Value)→Heap→Prop}{YP:World→Heap→Prop}{d:DefRec}{K:Params→PySem.W.Frag}{CX:World→CXT}{sp:World→Sp}{x:Str}
  (hn:l.most=some n) (hn2:n≤sizeLine) (hdf:d.params.defaults=[]) (hr:YO k callerA)
  (hY:∀(w:World)(h:Heap),YP w h→(K w.params).In h)
  (F:∀(w:World)(mg:Str→Option Value)(fa:Addr)(h:Heap),(K w.params).In h→h.Ns mainGlobals mg→mg d.name=some (.ref fa)→
   ∃fd:FuncData,(∀(s:Shared)(u:Value),BindsTo s fd ⟨[u],[]⟩ [(x,u)])∧
    ∀base:Heap,(K w.params).In base→base.Ns mainGlobals mg→Zk l.prog w (K w.params) mg base (CX w) k fa fd [x] (sp w))
  (hsp:∀(w:World)(H:Hp)(a:Addr)(ns:List Int),ns.length≤n→Zjn H→SqL (K w.params) H a (ns.map V.int)→sp w [.ref a] H (fun v _=>v= .bl true) fun _ _ _=>False)
  (hCX:∀(w:World)(H:Hp)(s:Shared)(e:Value)(s':Shared),CX w [] H s (fun _ _ _=>False) e s'→False):
  PySem.W.WalkO q loose XP YP l.row.toRowW d [] (fun f vs=>PySem.call f vs):=by
 refine Att.ZfZ hn hdf fun w s₀ s₁ mg mb fa o pm cd doc a vs ns G Y ho hd hcd hmg hobj hints hlen hg=>?_;have KX:=hY w _ Y;obtain⟨fd,hb,hF⟩:=F w mg fa _ KX G.T.g hmg;exact ZjM KX G.T.g G.T.b G.T.builtins G.T.nolimit hg hobj hints (Nat.le_trans hlen hn2) hr hF hb (fun H hO hS=>hsp w H a ns hlen hO hS) fun H e s'=>hCX w H s₁ e s'
end L2
namespace L2
open PySem PySem.Spec PyProof.Rows
noncomputable def Ys (s:Stmt) (j:Nat):Stmt:=match s with
 | .ClassDef _ _ _ body _ _ _ _ _ _ _=>body.getD j (.Pass ⟨0,0,0,0⟩)
 |_=> .Pass ⟨0,0,0,0⟩
noncomputable def VM (s:Stmt):Arguments:=match s with
 | .FunctionDef _ a _ _ _ _ _ _ _ _=>a
 |_=>{posonlyargs:=[],args:=[],vararg:=none,kwonlyargs:=[],kw_defaults:=[],kwarg:=none,defaults:=[]}
noncomputable def WV (s:Stmt):List Stmt:=match s with
 | .FunctionDef _ _ b _ _ _ _ _ _ _=>b
 |_=>[]
noncomputable def Zi (s:Stmt):Scope:=match s with
 | .FunctionDef _ _ _ _ _ _ sc _ _ _=>sc
 |_=>{kind:= .function,names:=[],isGenerator:=false,isCoroutine:=false}
noncomputable abbrev E0:XK:=fun _ _ _=>False
structure Fun(K:PySem.W.Frag)(x qual:Str)(st:Stmt)(f:Addr)(fd:FuncData):Prop where
 ex:∃(oc:Value)(od:Option Addr)(kV doc pm:Value)(an:Option Addr)(cdv ct:Value)(osl:Array (Option Value)),
  fd=PySem.W.fnOf x qual (VM st) (WV st) (Zi st) .none kV doc pm an cdv ct∧K.lookup f=some ⟨oc,od,.func fd,osl⟩∧PySem.W.codeIn K cdv qual=true
 kp:PySem.W.keepIn K (.ref f)=true
section
variable {P:Program}{w:World}{K:PySem.W.Frag}{mg:Str→Option Value}{base:Heap}
theorem Fun.binds{x qual:Str}{st:Stmt}{f:Addr}{fd:FuncData}{ps:List Str}(F:Fun K x qual st f fd)
  (h:∀(kV doc pm:Value)(an:Option Addr)(cdv ct:Value)(us:List Value),us.length=ps.length→bindArgs (PySem.W.fnOf x qual (VM st) (WV st) (Zi st) .none kV doc pm an cdv ct) ⟨us,[]⟩=pure (ps.zip us)):Zz K fd ps []:=by
 obtain⟨oc,od,kV,doc,pm,an,cdv,ct,osl,rfl,lk,hcd⟩:=F.ex;exact .all (h kV doc pm an cdv ct)
theorem ZA{x qual:Str}{st:Stmt}{f:Addr}{oc:Value}{od an:Option Addr}{osl:Array (Option Value)}{kV doc pm cdv ct:Value}(l:K.lookup f=some ⟨oc,od,.func (PySem.W.fnOf x qual (VM st) (WV st) (Zi st) .none kV doc pm an cdv ct),osl⟩)
  (c:PySem.W.codeIn K cdv qual=true) (k:PySem.W.keepIn K (.ref f)=true):Fun K x qual st f (PySem.W.fnOf x qual (VM st) (WV st) (Zi st) .none kV doc pm an cdv ct):=⟨⟨oc,od,kV,doc,pm,an,cdv,ct,osl,rfl,l,c⟩,k⟩
end
theorem Zu{n:Nat}(h:n≤1000):n<sizeLine:=Nat.lt_of_le_of_lt h (by decide)
section
variable {X:Cx}
theorem pv(i:Nat){x:Str}{pos:Pos}(hN:X.N[i]? =some x:=by rfl)(hv:Vis X.env.scope x:=by first|exact Or.inl rfl|exact Or.inr (Or.inl rfl)|exact Or.inr (Or.inr rfl))(hd:(x==("__debug__" :Str))=false:=by decide)
  (hcd:(x==("__classdict__" :Str))=false:=by decide):PE X (.Name x pos) (Zhn i):=Zle hN hv hd hcd
end
theorem ZfK{A B:Prop}(h:B):if false=true then A else B:=by
 rw[if_neg Bool.false_ne_true];exact h
theorem Zhk{A B:Prop}(h:A):if true=true then A else B:=by
 rw[if_pos rfl];exact h
theorem Vl{c A B:Prop}[Decidable c](h1:c→A)(h2:¬c→B):if c then A else B:=by
 by_cases h:c
 ·rw[if_pos h];exact h1 h
 ·rw[if_neg h];exact h2 h
def Zd(H H':Hp):Prop:=∀b o,H b=some o→H' b=some o
theorem Zd.refl(H:Hp):Zd H H:=fun _ _ h=>h
theorem Zd.trans{H H1 H2:Hp}(a:Zd H H1)(b:Zd H1 H2):Zd H H2:=fun c o h=>b c o (a c o h)
theorem Zd.seq{K:PySem.W.Frag}{H H':Hp}{a:Addr}{xs:List V}(e:Zd H H')(h:SqL K H a xs):SqL K H' a xs:=by
 rcases h with(h|⟨o,h⟩)|h
 ·exact .inl (.inl (e _ _ h))
 ·exact .inl (.inr ⟨o,e _ _ h⟩)
 ·exact .inr h
end L2
namespace L2
open PySem PySem.Spec PyProof.Rows
section
variable {κ:Type}[DecidableEq κ]
noncomputable def valV (kvs:List (κ×V)) (k:κ):Option V:=(kvs.find? fun kv=>decide (kv.1=k)).map (·.2)
noncomputable def Z9 (kvs:List (κ×V)) (k:κ) (v:V):List (κ×V):=
 if(kvs.any fun kv=>decide (kv.1=k))=true then kvs.map (fun kv=>if kv.1=k then(kv.1,v) else kv) else kvs++ [(k,v)]
theorem Zc9{k:κ}:valV ([]:List (κ×V)) k=none:=rfl
theorem YE{p:κ×V}{r:List (κ×V)}{k:κ}(e:p.1=k):valV (p::r) k=some p.2:=by simp[valV,List.find?_cons,e]
theorem YG{p:κ×V}{r:List (κ×V)}{k:κ}(e:¬p.1=k):valV (p::r) k=valV r k:=by simp[valV,List.find?_cons,e]
theorem W5(k:κ):∀kvs:List (κ×V),(kvs.any fun kv=>decide (kv.1=k))=(valV kvs k).isSome
 | []=>rfl
 |p::r=>by
  rw[List.any_cons]
  by_cases e:p.1=k
  ·simp only[YE e,decide_eq_true e,Bool.true_or,Option.isSome_some]
  ·rw[YG e,decide_eq_false e,Bool.false_or];exact W5 k r
theorem Zfr(k j:κ)(y:V):∀kvs:List (κ×V),valV (kvs.map fun kv=>if kv.1=k then(kv.1,y) else kv) j=(valV kvs j).map fun x=>if j=k then y else x
 | []=>rfl
 |p::r=>by
  have ih:=Zfr k j y r;rw[List.map_cons]
  by_cases h:p.1=k
  ·rw[if_pos h]
   by_cases e:p.1=j
   ·rw[YE (p:=(p.1,y)) e,YE e,Option.map_some,if_pos (e.symm.trans h)]
   ·rw[YG (p:=(p.1,y)) e,YG e,ih]
  ·rw[if_neg h]
   by_cases e:p.1=j
   ·rw[YE (p:=p) e,YE e,Option.map_some,if_neg (fun z=>h (e.trans z))]
   ·rw[YG (p:=p) e,YG e,ih]
theorem ZeD(k j:κ)(y:V):∀kvs:List (κ×V),valV kvs k=none→valV (kvs++ [(k,y)]) j=if j=k then some y else valV kvs j
 | [],_=>by
  by_cases e:k=j
  ·rw[if_pos e.symm];exact YE (p:=(k,y)) e
  ·rw[if_neg (fun z=>e z.symm)];exact YG (p:=(k,y)) e
 |p::r,hn=>by
  rw[List.cons_append];have hk:¬p.1=k:=fun z=>by rw[YE z] at hn;cases hn
  rw[YG hk] at hn;have ih:=ZeD k j y r hn
  by_cases e:p.1=j
  ·rw[YE e,YE e,if_neg (fun z=>hk (e.trans z))]
  ·rw[YG e,YG e,ih]
theorem Ui(kvs:List (κ×V))(k j:κ)(y:V):valV (Z9 kvs k y) j=if j=k then some y else valV kvs j:=by
 unfold Z9
 by_cases a:(kvs.any fun kv=>decide (kv.1=k))=true
 ·rw[if_pos a,Zfr];rw[W5] at a
  by_cases e:j=k
  ·obtain⟨x,hx⟩:=Option.isSome_iff_exists.mp a;rw[if_pos e,e,hx,Option.map_some,if_pos rfl]
  ·rw[if_neg e];cases valV kvs j with
   |none=>rfl
   |some x=>rw[Option.map_some,if_neg e]
 ·rw[if_neg a];refine ZeD k j y kvs ?_;rw[W5] at a;cases q:valV kvs k with
  |none=>rfl
  |some x=>rw[q] at a;exact(a rfl).elim
theorem Ut(kvs:List (κ×V))(k:κ)(v:V):(Z9 kvs k v).length≤kvs.length+1:=by
 unfold Z9
 split
 ·rw[List.length_map];omega
 ·rw[List.length_append,List.length_cons,List.length_nil];omega
theorem VA{kvs:List (κ×V)}{k:κ}(v:V)(h:valV kvs k=none):Z9 kvs k v=kvs++ [(k,v)]:=by
 unfold Z9;rw[W5,h];exact if_neg (by decide)
theorem W1.isSome_eq{o:Option V}{u:Option Value}(r:W1 o u):o.isSome=u.isSome:=by
 cases o with
 |none=>cases u with
  |none=>rfl
  |some _=>exact(show False from r).elim
 |some _=>cases u with
  |none=>exact(show False from r).elim
  |some _=>rfl
theorem KV.val{kvs:List (κ×V)}{vs:List (κ×Value)}(r:KV kvs vs)(k:κ):W1 (valV kvs k) (valueAt vs k):=by
 unfold KV at r
 induction r with
 |nil=>exact True.intro
 | @cons p q ps qs h t ih=>
  obtain⟨h1,h2⟩:=h
  by_cases e:p.1=k
  ·have e':q.1=k:=h1.symm.trans e;have b:valueAt (q::qs) k=some q.2:=by simp[valueAt,List.find?_cons,e']
   rw[YE e,b];exact h2
  ·have e':¬q.1=k:=fun z=>e (h1.trans z);have b:valueAt (q::qs) k=valueAt qs k:=by simp[valueAt,List.find?_cons,e']
   rw[YG e,b];exact ih
theorem KV.any{kvs:List (κ×V)}{vs:List (κ×Value)}(r:KV kvs vs)(k:κ):(kvs.any fun kv=>decide (kv.1=k))=vs.any fun kv=>decide (kv.1=k):=by
 unfold KV at r
 induction r with
 |nil=>rfl
 |cons h t ih=>rw[List.any_cons,List.any_cons,ih,h.1]
theorem KV.repl{kvs:List (κ×V)}{vs:List (κ×Value)}(r:KV kvs vs)(k:κ){y:V}{u:Value}(ry:ZG y u):
  KV (kvs.map fun kv=>if kv.1=k then(kv.1,y) else kv) (vs.map fun kv=>if kv.1=k then(kv.1,u) else kv):=by
 unfold KV at r⊢
 induction r with
 |nil=>exact .nil
 | @cons p q ps qs h t ih=>
  rw[List.map_cons,List.map_cons];refine .cons ?_ ih;obtain⟨h1,h2⟩:=h
  by_cases e:p.1=k
  ·rw[if_pos e,if_pos (h1.symm.trans e)];exact⟨h1,ry⟩
  ·rw[if_neg e,if_neg (fun z=>e (h1.trans z))];exact⟨h1,h2⟩
theorem KV.put{kvs:List (κ×V)}{vs:List (κ×Value)}(r:KV kvs vs)(k:κ){y:V}{u:Value}(ry:ZG y u):KV (Z9 kvs k y) (stored vs k u):=by
 unfold Z9 stored;rw[r.any k]
 by_cases e:(vs.any fun kv=>decide (kv.1=k))=true
 ·rw[if_pos e,if_pos e];exact r.repl k ry
 ·rw[if_neg e,if_neg e];exact Paired.snoc r ⟨rfl,ry⟩
theorem KV.length{kvs:List (κ×V)}{vs:List (κ×Value)}(r:KV kvs vs):kvs.length=vs.length:=Paired.length r
end
theorem Zbe{P:Program}{w:World}{k:Key}{u:Value}(r:ZG (kV k) u):(ZP P w).is k u=true:=by
 cases k with
 |inl i=>obtain⟨t,e⟩:=(show ∃t,u=Value.int i t from r);subst e;exact Zge P w i t
 |inr x=>obtain⟨t,e⟩:=(show ∃t,u=Value.str x t from r);subst e;exact Zgv P w x t
theorem Zln{a b:Key}(e:kV a=kV b):a=b:=by
 cases a with
 |inl i=>cases b with
  |inl j=>have e':V.int i=V.int j:=e;injection e' with e';rw[e']
  |inr y=>exact nomatch (show V.int i=V.str y from e)
 |inr x=>cases b with
  |inl j=>exact nomatch (show V.str x=V.int j from e)
  |inr y=>have e':V.str x=V.str y:=e;injection e' with e';rw[e']
theorem ZeE{P:Program}{w:World}:∀{ks:List Key}{us:List Value},ZF (ks.map kV) us→ItemsAre (ZP P w) ks us
 | [],_,r=>by rw[List.map_nil] at r;cases r;exact .nil
 |k::ks,_,r=>by
  rw[List.map_cons] at r;cases r with
  |cons h t=>exact .cons (Zbe h) (ZeE t)
noncomputable abbrev KT (H:Hp):List (List Key×V)→List (List Key×Addr×Value)→Prop:=Paired fun p q=>p.1=q.1∧H q.2.1=some (.tup (p.1.map kV))∧ZG p.2 q.2.2
theorem KT.val{H:Hp}{kvs:List (List Key×V)}{xs:List (List Key×Addr×Value)}(r:KT H kvs xs)(k:List Key):W1 (valV kvs k) ((atKey xs k).map (·.2)):=by
 induction r with
 |nil=>exact True.intro
 | @cons p q ps qs h t ih=>
  obtain⟨h1,_,h2⟩:=h
  by_cases e:p.1=k
  ·have e':q.1=k:=h1.symm.trans e;have b:atKey (q::qs) k=some q.2:=by simp[atKey,List.find?_cons,e']
   rw[YE e,b];exact h2
  ·have e':¬q.1=k:=fun z=>e (h1.trans z);have b:atKey (q::qs) k=atKey qs k:=by simp[atKey,List.find?_cons,e']
   rw[YG e,b];exact ih
theorem KT.repl{H:Hp}{kvs:List (List Key×V)}{xs:List (List Key×Addr×Value)}(r:KT H kvs xs)(k:List Key){y:V}{u:Value}(ry:ZG y u):
  KT H (kvs.map fun kv=>if kv.1=k then(kv.1,y) else kv) (xs.map (putAt k u)):=by
 induction r with
 |nil=>exact .nil
 | @cons p q ps qs h t ih=>
  rw[List.map_cons,List.map_cons];refine .cons ?_ ih;obtain⟨h1,h2,h3⟩:=h;unfold putAt
  by_cases e:p.1=k
  ·rw[if_pos e,if_pos (h1.symm.trans e)];exact⟨h1,h2,ry⟩
  ·rw[if_neg e,if_neg (fun z=>e (h1.trans z))];exact⟨h1,h2,h3⟩
theorem KT.put{H:Hp}{kvs:List (List Key×V)}{xs:List (List Key×Addr×Value)}(r:KT H kvs xs)(k:List Key){b:Addr}{y:V}{u:Value}(hb:H b=some (.tup (k.map kV)))(ry:ZG y u):
  KT H (Z9 kvs k y) (storedH xs k b u):=by
 have e:(kvs.any fun kv=>decide (kv.1=k))=(atKey xs k).isSome:=by
  rw[W5,(r.val k).isSome_eq,Option.isSome_map]
 unfold Z9 storedH;rw[e]
 by_cases q:(atKey xs k).isSome=true
 ·rw[if_pos q,if_pos q];exact r.repl k ry
 ·rw[if_neg q,if_neg q];exact Paired.snoc r ⟨rfl,hb,ry⟩
theorem KT.keeps{H H':Hp}{kvs:List (List Key×V)}{xs:List (List Key×Addr×Value)}(r:KT H kvs xs)(ht:∀b ys,H b=some (.tup ys)→H' b=some (.tup ys)):KT H' kvs xs:=
 Paired.mapP r fun _ _ z=>⟨z.1,ht _ _ z.2.1,z.2.2⟩
section
variable {P:Program}{w:World}{H:Hp}{h:Heap}{a:Addr}
theorem Zkg{u:HO}(ok:HOk P w H h)(e:Rd H a u):Z2 P w H h a u:=e.ok ok
theorem ZaJ{kvs:List (Key×V)}(ok:HOk P w H h)(e:Rd H a (.dK kvs)):kvs.length≤sizeLine∧(a==sysModules)=false∧∃vs,KV kvs vs∧h.DictOf (ZP P w) a vs:=
 show Z2 P w H h a (.dK kvs) from Zkg ok e
theorem ZaN{kvs:List (Key×V)}(ok:HOk P w H h)(e:H a=some (.dK kvs)):kvs.length≤sizeLine∧(a==sysModules)=false∧∃vs,KV kvs vs∧h.DictOf (ZP P w) a vs:=ZaJ ok (.inl e)
theorem Zb4{ks:List Key}(ok:HOk P w H h)(e:H a=some (.tup (ks.map kV))):(tupleKind (ZP P w)).is h ks a:=by
 obtain⟨_,its,r,o,h1,h2,n,h3⟩:=(show Z2 P w H h a (.tup (ks.map kV)) from ok a _ e);exact⟨o,its.toArray,n,h1,h2,h3,by simpa using ZeE r⟩
theorem Zdd{kvs:List (List Key×V)}(ok:HOk P w H h)(e:Rd H a (.dT kvs)):kvs.length≤sizeLine∧(a==sysModules)=false∧
  ∃xs,KT H kvs xs∧h.DictOfH (tupleKind (ZP P w)) a xs:=by
 obtain⟨z,y,xs,r,o,es,ep,h1,h2,h3,h4,h5⟩:=(show Z2 P w H h a (.dT kvs) from Zkg ok e);refine⟨z,y,xs,r,o,es,ep,h1,h2,h3,h4,fun x hx=>?_,h5⟩;have all:∀{l:List (List Key×V)}{m:List (List Key×Addr×Value)},KT H l m→∀x∈m,(tupleKind (ZP P w)).is h x.1 x.2.1:=by
  intro l m q
  induction q with
  |nil=>intro x hx;exact nomatch hx
  | @cons p q ps qs hq t ih=>
   intro x hx;rcases List.mem_cons.mp hx with e|hx
   ·subst e;exact Zb4 ok (by rw[←hq.1];exact hq.2.1)
   ·exact ih x hx
 exact all r x hx
theorem Zmt{kvs:List (List Key×V)}(ok:HOk P w H h)(e:H a=some (.dT kvs)):kvs.length≤sizeLine∧(a==sysModules)=false∧
  ∃xs,KT H kvs xs∧h.DictOfH (tupleKind (ZP P w)) a xs:=Zdd ok (.inl e)
end
def UN(H:Hp)(a:Addr)(y:V)(r:Option V):Prop:=
 (∃kvs k,Rd H a (.dK kvs)∧y=kV k∧r=valV kvs k)∨∃kvs k b,Rd H a (.dT kvs)∧y= .ref b∧H b=some (.tup (k.map kV))∧r=valV kvs k
def ZdV(H:Hp)(a:Addr)(y v:V)(H':Hp):Prop:=
 (∃kvs k,H a=some (.dK kvs)∧y=kV k∧kvs.length<sizeLine∧H'=upd H a (.dK (Z9 kvs k v)))∨
 ∃kvs k b,H a=some (.dT kvs)∧y= .ref b∧H b=some (.tup (k.map kV))∧kvs.length<sizeLine∧H'=upd H a (.dT (Z9 kvs k v))
theorem UN.k{H:Hp}{a:Addr}{kvs:List (Key×V)}{k:Key}(e:H a=some (.dK kvs)):UN H a (kV k) (valV kvs k):= .inl ⟨kvs,k,.inl e,rfl,rfl⟩
theorem ZdV.k{H:Hp}{a:Addr}{kvs:List (Key×V)}{k:Key}{v:V}(e:H a=some (.dK kvs))(hl:kvs.length<sizeLine):ZdV H a (kV k) v (upd H a (.dK (Z9 kvs k v))):= .inl ⟨kvs,k,e,rfl,hl,rfl⟩
section
variable {X:Cx}{pins:List (Addr×Obj)}{σ:St}{H:Hp}{s:Shared}{a:Addr}{y v:V}{u r:Value}{o:Option V}{A:Around}{E:Value→Shared→Prop}
theorem Inv.big(I:Inv X pins σ H s):sysModules<s.heap.objs.size:=by
 have h:mainGlobals<s.heap.objs.size:=(I.mod.glob.keeps I.bk).lt;exact Nat.lt_trans (by decide) h
theorem Zit{Q:Value→Shared→Prop}(hu:A.units+1<cLine)(I:Inv X pins σ H s)(g:UN H a y (some v))(ry:ZG y u)(h:∀w' s',Inv X pins σ H s'→ZG v w'→Q w' s'):
  wpAny (model X.prog X.w) A (getItem (.ref a) u) Q E s:=by
 rcases g with⟨kvs,k,e,ey,l⟩|⟨kvs,k,b,e,ey,eb,l⟩
 ·subst ey;obtain⟨z,hd,vs,rel,dd⟩:=ZaJ I.hok e;obtain⟨w',hw,rw'⟩:=W1.some_of (v:=v) (o:=valueAt vs k) (by rw[l];exact rel.val k);exact wpAny_getItem_of (Zbe ry) dd.mapOf hw (h w' _ (I.tok _) rw')
 ·subst ey;cases (show u=Value.ref b from ry);obtain⟨z,hd,xs,rel,dd⟩:=Zdd I.hok e;obtain⟨w',hw,rw'⟩:=W1.some_of (v:=v) (o:=(atKey xs k).map (·.2)) (by rw[l];exact rel.val k);obtain⟨p,hp,hp2⟩:=Option.map_eq_some_iff.mp hw;refine wpAny_getItem_heap (tupleKind_room_in1 hu) (Zb4 I.hok eb) dd hp ?_;rw[hp2];exact h w' _ (I.tok _) rw'
theorem Znc{Q:Value→Shared→Prop}(hu:A.units+1<cLine)(I:Inv X pins σ H s)(g:UN H a y o)(ry:ZG y u)(h:∀s',Inv X pins σ H s'→Q (.bool o.isSome) s'):
  wpAny (model X.prog X.w) A (compareOp .In u (.ref a)) Q E s:=by
 rcases g with⟨kvs,k,e,ey,l⟩|⟨kvs,k,b,e,ey,eb,l⟩
 ·subst ey;obtain⟨z,hd,vs,rel,dd⟩:=ZaJ I.hok e;refine wpAny_in_of (Zbe ry) hd dd.mapOf ?_;rw[←(rel.val k).isSome_eq,←l];exact h _ (I.tok _)
 ·subst ey;cases (show u=Value.ref b from ry);obtain⟨z,hd,xs,rel,dd⟩:=Zdd I.hok e;refine wpAny_in_heap (tupleKind_room_in1 hu) (Zb4 I.hok eb) hd dd ?_;have q:=(rel.val k).isSome_eq;rw[Option.isSome_map] at q;rw[←q,←l];exact h _ (I.tok _)
theorem Zky{Q:Value→Shared→Prop}(hu:A.units+1<cLine)(I:Inv X pins σ H s)(g:UN H a y o)(ry:ZG y u)(h:∀s',Inv X pins σ H s'→Q (.bool (!o.isSome)) s'):
  wpAny (model X.prog X.w) A (compareOp .NotIn u (.ref a)) Q E s:=by
 rcases g with⟨kvs,k,e,ey,l⟩|⟨kvs,k,b,e,ey,eb,l⟩
 ·subst ey;obtain⟨z,hd,vs,rel,dd⟩:=ZaJ I.hok e;refine wpAny_notIn_of (Zbe ry) hd dd.mapOf ?_;rw[←(rel.val k).isSome_eq,←l];exact h _ (I.tok _)
 ·subst ey;cases (show u=Value.ref b from ry);obtain⟨z,hd,xs,rel,dd⟩:=Zdd I.hok e;refine wpAny_notIn_heap (tupleKind_room_in1 hu) (Zb4 I.hok eb) hd dd ?_;have q:=(rel.val k).isSome_eq;rw[Option.isSome_map] at q;rw[←q,←l];exact h _ (I.tok _)
theorem ZaT{h':Heap}{t':Nat}{ob:HO}(I:Inv X pins σ H s)(mu:Mut (H a))(hs:Heap.SameBut a s.heap h')(he:∃q,h'.get? a=some q)(new:Z2 X.prog X.w (upd H a ob) h' a ob):
  Inv X pins σ (upd H a ob) {s with heap:=h',toks:=t'}:=
 I.write (x:=a) (e:=a) mu (.inl rfl) (fun b q hb z=>(hs.2 b hb).trans z) he new
theorem ZdH{P:Program}{w:World}{H':Hp}{h':Heap}{kvs:List (Key×V)}{vs:List (Key×Value)}(z:kvs.length≤sizeLine)(hd:(a==sysModules)=false)(rel:KV kvs vs)(dd:h'.DictOf (ZP P w) a vs):
  Z2 P w H' h' a (.dK kvs):=⟨z,hd,vs,rel,dd⟩
theorem Zik{H':Hp}{Q:Unit→Shared→Prop}(hu:A.units+1<cLine)(I:Inv X pins σ H s)(g:ZdV H a y v H')(ry:ZG y u)(rv:ZG v r)(h:∀s',Inv X pins σ H' s'→Q () s'):
  wpAny (model X.prog X.w) A (setItem (.ref a) u r) Q E s:=by
 rcases g with⟨kvs,k,e,ey,l,eH⟩|⟨kvs,k,b,e,ey,eb,l,eH⟩
 ·subst ey eH;obtain⟨z,hd,vs,rel,dd⟩:=ZaN I.hok e;have hz:vs.length≤sizeLine:=by rw[←rel.length];exact z
  have hl:(Z9 kvs k v).length≤sizeLine:=by have:=Ut kvs k v;omega
  refine wpAny_setItem_pairs (hsz:=hz) (Zbe ry) dd fun h' dd' hs=>h _ ?_;have he:∃q,h'.get? a=some q:=let⟨q,_,_,hq,_⟩:=dd';⟨q,hq⟩
  exact ZaT I (by rw[e];exact True.intro) hs he (ZdH hl hd (rel.put k rv) dd')
 ·subst ey eH;cases (show u=Value.ref b from ry);obtain⟨z,hd,xs,rel,dd⟩:=Zmt I.hok e;have hz:xs.length≤sizeLine:=by rw[←Paired.length rel];exact z
  have hl:(Z9 kvs k v).length≤sizeLine:=by have:=Ut kvs k v;omega
  refine wpAny_setItem_heap (hsz:=hz) (tupleKind_room_in1 hu) (Zb4 I.hok eb) dd fun h' dd' hs=>h _ ?_;obtain⟨q,es,ep,hq,h2,h3,h4,_,h5⟩:=dd';refine ZaT I (by rw[e];exact True.intro) hs ⟨q,hq⟩ ⟨hl,hd,_,(rel.put k eb rv).keeps fun c ys ec=>?_,q,es,ep,hq,h2,h3,h4,h5⟩;rw[Zg (Yw ec e (fun z=>nomatch z))];exact ec
end
section
variable {X:Cx}{pins:List (Addr×Obj)}{σ:St}{H:Hp}{s:Shared}{a:Addr}{kvs:List (Key×V)}{k:Key}{u:Value}{A:Around}{E:Value→Shared→Prop}
theorem Zms{Q:Value→Shared→Prop}(I:Inv X pins σ H s)(e:Rd H a (.dK kvs))(h:∀t s',Inv X pins σ H s'→Q (.int kvs.length t) s'):wpAny (model X.prog X.w) A (call (.builtin "len") [.ref a]) Q E s:=by
 obtain⟨z,hd,vs,rel,dd⟩:=ZaJ I.hok e;refine call_len_dict hd dd (by rw[←rel.length];rw[sizeLine_eq] at z;omega) ?_;rw[←rel.length];exact h _ _ (I.tok _)
end
theorem Zgs{X:Cx}{pins:List (Addr×Obj)}{σ:St}{H:Hp}{s:Shared}{a:Addr}{y:V}{o:Option V}(I:Inv X pins σ H s)(g:UN H a y o):s.TypeIs (.ref a) "dict" :=by
 rcases g with⟨kvs,k,e,_,_⟩|⟨kvs,k,b,e,_,_,_⟩
 ·obtain⟨_,_,vs,_,dd⟩:=ZaJ I.hok e;exact dd.typeIs
 ·obtain⟨_,_,xs,_,dd⟩:=Zdd I.hok e;exact dd.typeIs
section
variable {X:Cx}{o i e value:Expr}{pos pos' tpos:Pos}{td ty tv:TE}
end
theorem Zfh{P:Program}{w:World}{H:Hp}(h:Heap)(hb:sysModules<h.objs.size):Z2 P w H (h.push {cls:= .type "dict",data:= .dict #[]}) h.objs.size (.dK []):=
 ⟨Nat.zero_le _,beq_eq_false_iff_ne.mpr (Ne.symm (Nat.ne_of_lt hb)),[],.nil,Heap.DictOf.new h⟩
noncomputable def tDNewK:TE:=fun _ H Q=>∀p,H p=none→Q (.ref p) (upd H p (.dK []))
section
variable {X:Cx}{pos:Pos}
theorem Zar:PE X (.Dict [] [] pos) tDNewK:=fun pins s σ H Q I h=>
 wpAny_Dict_empty ⟨.ref s.heap.objs.size,_,I.laid (a:=s.heap.objs.size) (o:= .dK []) (t':=s.toks) (fun _ _ q=>Heap.get?_push_of_some _ q) (Nat.le_refl _) (Zfh s.heap I.big),rfl,h _ (I.hok.fresh (Nat.le_refl _))⟩
end
noncomputable def ZdD:List (TE×TE)→St→Hp→(List (V×V)→Hp→Prop)→Prop
 | [],_,H,Q=>Q [] H
 |(tk,tv)::r,σ,H,Q=>tk σ H fun x H1=>tv σ H1 fun y H2=>ZdD r σ H2 fun ps H3=>Q ((x,y)::ps) H3
noncomputable abbrev VV:List (V×V)→List (Value×Value)→Prop:=Paired fun p q=>ZG p.1 q.1∧ZG p.2 q.2
def PPs(X:Cx)(pos:Pos)(keys:List (Option Expr))(values:List Expr)(trs:List (TE×TE)):Prop:=
 ∀(pins:List (Addr×Obj))(s:Shared)(σ:St)(H:Hp)(Q:List (V×V)→Hp→Prop),Inv X pins σ H s→ZdD trs σ H Q→
  wpAny (model X.prog X.w) X.A (evalPairs (pairTrees keys values X.env pos)) (fun vs s'=>∃ps H',Inv X pins σ H' s'∧VV ps vs∧Q ps H') X.xe s
theorem Zkq{X:Cx}{pos:Pos}:PPs X pos [] [] []:=fun pins s σ H Q I h=>pairTrees_nil_walk ⟨[],H,I,.nil,h⟩
theorem Zjf{X:Cx}{pos:Pos}{k v:Expr}{ks:List (Option Expr)}{vs:List Expr}{tk tv:TE}{trs:List (TE×TE)}(hk:PE X k tk)(hv:PE X v tv)(hr:PPs X pos ks vs trs):
  PPs X pos (some k::ks) (v::vs) ((tk,tv)::trs):=fun pins s σ H Q I h=>
 pairTrees_cons_walk (thn (hk pins s σ H _ I h) fun u s1 ⟨x,H1,I1,rx,q1⟩=>thn (hv pins s1 σ H1 _ I1 q1) fun w2 s2 ⟨y,H2,I2,ry,q2⟩=>
  thn (hr pins s2 σ H2 _ I2 q2) fun ws s3 ⟨ps,H3,I3,rel,q3⟩=>⟨(x,y)::ps,H3,I3,.cons ⟨rx,ry⟩ rel,q3⟩)
noncomputable def Yn (kvs more:List (Key×V)):List (Key×V):=more.foldl (fun acc kv=>Z9 acc kv.1 kv.2) kvs
theorem KV.merge:∀{more:List (Key×V)}{rs:List (Key×Value)}{kvs:List (Key×V)}{vs:List (Key×Value)},KV more rs→KV kvs vs→KV (Yn kvs more) (merged vs rs):=by
 intro more rs kvs vs r;unfold KV at r
 induction r generalizing kvs vs with
 |nil=>intro q;exact q
 | @cons p q ps qs h t ih=>
  intro r0;have e:KV (Z9 kvs p.1 p.2) (stored vs q.1 q.2):=by
   have:=r0.put p.1 h.2;rw[←h.1];exact this
  exact ih e
theorem Vw:∀(more kvs:List (Key×V)),(Yn kvs more).length≤kvs.length+more.length
 | [],kvs=>by show kvs.length≤kvs.length+0;omega
 |p::r,kvs=>by
  have h1:=Vw r (Z9 kvs p.1 p.2);have h2:=Ut kvs p.1 p.2;show(Yn (Z9 kvs p.1 p.2) r).length≤_;rw[List.length_cons];omega
theorem Zdn{P:Program}{w:World}:∀{kvs:List (Key×V)}{ws:List (Value×Value)},VV (kvs.map fun kv=>(kV kv.1,kv.2)) ws→∃rs,Carries (ZP P w) ws rs∧KV kvs rs
 | [],_,r=>by rw[List.map_nil] at r;cases r;exact⟨[],True.intro,.nil⟩
 |p::kvs,_,r=>by
  rw[List.map_cons] at r;cases r with
  | @cons a b as bs h t=>
   obtain⟨rs,c,q⟩:=Zdn (P:=P) (w:=w) t;obtain⟨b1,b2⟩:=b;exact⟨(p.1,b2)::rs,⟨Zbe h.1,rfl,c⟩,.cons ⟨rfl,h.2⟩ q⟩
noncomputable def Zma (trs:List (TE×TE)):TE:=fun σ H Q=>∀p,H p=none→ZdD trs σ (upd H p (.dK [])) fun ps H2=>H2 p=some (.dK [])∧∃kvs:List (Key×V),ps=kvs.map (fun kv=>(kV kv.1,kv.2))∧kvs.length≤15∧Q (.ref p) (upd H2 p (.dK (Yn [] kvs)))
theorem Zko{X:Cx}{pos:Pos}{keys:List (Option Expr)}{values:List Expr}{trs:List (TE×TE)}(h:PPs X pos keys values trs)(hall:keys.all (·.isSome)=true)(hl:keys.length=values.length)(h0:keys≠[])
  (h15:keys.length≤15):PE X (.Dict keys values pos) (Zma trs):=by
 intro pins s σ H Q I q;have hn:=I.hok.fresh (Nat.le_refl s.heap.objs.size);have I1:=I.laid (a:=s.heap.objs.size) (o:= .dK []) (h':=s.heap.push {cls:= .type "dict",data:= .dict #[]}) (t':=s.toks) (fun _ _ q=>Heap.get?_push_of_some _ q) (Nat.le_refl _) (Zfh s.heap I.big);refine wpAny_Dict_walk (knd:=ZP X.prog X.w) hall hl h0 h15 (thn (h pins _ σ _ _ I1 (q _ hn)) fun ws s2 ⟨ps,H2,I2,rel,e,kvs,ep,lk,q2⟩=>?_);subst ep;obtain⟨rs,c,rk⟩:=Zdn (P:=X.prog) (w:=X.w) rel;obtain⟨z,hd,vs0,r0,dd⟩:=ZaN I2.hok e;cases r0;refine⟨rs,c,dd,fun h' dd' hs=>⟨.ref s.heap.objs.size,_,?_,rfl,q2⟩⟩;have hz:(Yn [] kvs).length≤sizeLine:=by
  have h1:=Vw kvs [];rw[List.length_nil] at h1;rw[sizeLine_eq];omega
 have he:∃q,h'.get? s.heap.objs.size=some q:=let⟨q,_,_,hq,_⟩:=dd';⟨q,hq⟩
 exact ZaT I2 (by rw[e];exact True.intro) hs he (ZdH hz hd (rk.merge .nil) dd')
section
variable {X:Cx}{pins:List (Addr×Obj)}{σ:St}{H:Hp}{s:Shared}{a:Addr}{y d:V}{u r:Value}{o:Option V}{A:Around}{E:Value→Shared→Prop}
end
section
variable {X:Cx}{o e f:Expr}{apos cpos:Pos}{td ty tx:TE}
end
section
variable {X:Cx}{pins:List (Addr×Obj)}{σ:St}{H:Hp}{s:Shared}{a:Addr}{kvs:List (Key×V)}{A:Around}{E:Value→Shared→Prop}
end
section
variable {X:Cx}{pins:List (Addr×Obj)}{σ:St}{H:Hp}{s:Shared}{a:Addr}{y:V}{u:Value}{A:Around}{E:Value→Shared→Prop}
end
end L2
namespace L2
open PySem PySem.Spec PyProof.Rows
section
variable {X:Cx}
theorem ZiW:Wl X (.builtin "len") (fun xs H Q=>∃a kvs,xs=[V.ref a]∧H a=some (.dK kvs)∧Q (.int kvs.length) H):=by
 intro pins s σ H xs us Q I r h;obtain⟨a,kvs,rfl,ha,q⟩:=h;obtain⟨u,rfl,ru⟩:=Ve r;cases ru;exact Zms I (.inl ha) fun t s' I'=>⟨.int kvs.length,H,I',⟨t,rfl⟩,q⟩
end
section
variable {κ:Type}[DecidableEq κ]
end
end L2
namespace L2
open PySem PySem.Spec PyProof.Rows
namespace Rd
section
variable {σ:St}{H:Hp}{Q:VK}{D:Vz}{t u:TS}{ta tb te:TE}{r:R2}
theorem var{i:Nat}{v:V}(h:σ[i]? =some (some v))(q:Q v H):Zhn i σ H Q:=⟨v,h,q⟩
theorem con{v:V}(q:Q v H):tC v σ H Q:=q
theorem op(h:ta σ H fun x H1=>tb σ H1 fun y H2=>r x y H2 Q):tOp r ta tb σ H Q:=h
theorem i0{g:Int→Int→V}{i j:Int}(q:Q (g i j) H):rI0 g (.int i) (.int j) H Q:=⟨i,j,rfl,rfl,q⟩
theorem iC{C:Int→Int→Prop}{g:Int→Int→V}{i j:Int}(c:C i j)(q:Q (g i j) H):rI C g (.int i) (.int j) H Q:=⟨i,j,rfl,rfl,c,q⟩
theorem eqI{i j:Int}(q:Q (.bl (decide (i=j))) H):rEq (.int i) (.int j) H Q:=⟨rfl,by
 have e:decide (V.int i=V.int j)=decide (i=j):=by
  by_cases h:i=j
  ·rw[h];simp
  ·rw[decide_eq_false h,decide_eq_false (fun z=>h (V.int.inj z))]
 rw[e];exact q⟩
theorem neI{i j:Int}(q:Q (.bl (!decide (i=j))) H):rNe (.int i) (.int j) H Q:=⟨rfl,by
 have e:decide (V.int i=V.int j)=decide (i=j):=by
  by_cases h:i=j
  ·rw[h];simp
  ·rw[decide_eq_false h,decide_eq_false (fun z=>h (V.int.inj z))]
 rw[e];exact q⟩
theorem Znj{Q:Bool→Hp→Prop}(h:te σ H fun x H'=>∃k,x= .bl k∧Q k H'):Zj1 te σ H Q:=h
theorem bl{k:Bool}{Q:Bool→Prop}(q:Q k):∃k',V.bl k= .bl k'∧Q k':=⟨k,rfl,q⟩
theorem seq(h:t {D with nx:=u D} σ H):ZlJ t u D σ H:=h
theorem asg{g:TG}(h:te σ H fun x H1=>g x σ H1 D.nx):Ze4 te g D σ H:=h
theorem ifs{c:TT}(h:c σ H fun b H1=>if b=true then t D σ H1 else u D σ H1):ZkV c t u D σ H:=h
theorem ret(h:te σ H D.rt):ZlK te D σ H:=h
theorem next(h:D.nx σ H):tNext D σ H:=h
theorem drop(h:te σ H fun _ H1=>D.nx σ H1):Zki te D σ H:=h
theorem nil{Q:List V→Hp→Prop}(h:Q [] H):tNil σ H Q:=h
theorem cons{tr:TA}{Q:List V→Hp→Prop}(h:ta σ H fun x H1=>tr σ H1 fun xs H2=>Q (x::xs) H2):ZjZ ta tr σ H Q:=h
theorem call{sp:Sp}{dvs:List V}{E:XK}{ts:TA}(h:ts σ H fun vs H1=>sp (vs++dvs) H1 Q E):Zj6 sp dvs E ts σ H Q:=h
theorem cb{r:List V→Hp→VK→Prop}{ts:TA}(h:ts σ H fun vs H1=>r vs H1 Q):tCB r ts σ H Q:=h
theorem tup{ts:TA}(h:ts σ H fun xs H1=>xs.length≤sizeLine∧∀p,H1 p=none→Q (.ref p) (upd H1 p (.tup xs))):Zk6 ts σ H Q:=h
theorem lst{ts:TA}(h:ts σ H fun xs H1=>xs.length≤sizeLine∧∀p,H1 p=none→Q (.ref p) (upd H1 p (.lst xs))):Zi7 ts σ H Q:=h
theorem ZmE{t u:TT}{Q:Bool→Hp→Prop}(h:t σ H fun c H1=>if c=true then u σ H1 Q else Q false H1):Zk1 t u σ H Q:=h
theorem or_{t u:TT}{Q:Bool→Hp→Prop}(h:t σ H fun c H1=>if c=true then Q true H1 else u σ H1 Q):tOr t u σ H Q:=h
theorem ZmR{t:TT}{Q:Bool→Hp→Prop}(h:t σ H fun c H1=>Q (!c) H1):ZlT t σ H Q:=h
theorem Zno(h:ta σ H fun x H1=>∃c,x= .bl c∧if c=true then tb σ H1 Q else Q (.bl false) H1):Zj4 ta tb σ H Q:=h
theorem ZmD(h:ta σ H fun x H1=>∃c,x= .bl c∧Q (.bl (!c)) H1):Zj7 ta σ H Q:=h
end
end Rd
end L2
namespace L2
open PySem PySem.Spec PyProof.Rows
section
variable {X:Cx}
theorem Zkw:OpR X (binaryOp .Mult) (rI (fun i j=>IntMulOk i j) fun i j=> .int (i*j)):=opI fun _ _ _ _ _ _ _ hc q=>mul_int q hc
theorem Z3:OpR X (binaryOp .FloorDiv) (rI (fun _ j=>0<j∧j.natAbs.log2<9000) fun i j=> .int (i / j)):=opI fun i j _ _ _ _ _ hc q=>by
 rw[←Int.fdiv_eq_ediv_of_nonneg i (Int.le_of_lt hc.1)] at q;exact floordiv_int (by have:=hc.1;omega) q (.inl (PyProof.noPylong_of_log2 hc.2))
theorem Zf6:Wl X (.builtin "isinstance") (fun xs H Q=>∃x n t b,xs=[x,.ty n]∧Wp X.K H x t∧PySem.W.kitOne X.K t (.type n)=some b∧Q (.bl b) H):=by
 intro pins s σ H xs us Q I r h;obtain⟨x,n,t,b,rfl,ty,e,q⟩:=h;obtain⟨u,v,rfl,ru,rv⟩:=r.two;obtain rfl:v=Value.type n:=rv;exact Zio I ru ty e fun tk=>⟨.bl b,H,I.tok tk,rfl,q⟩
theorem ZbD{c:TT}{tb:TS}{D:Vz}{σ:St}{H:Hp}(W:Nat→St→Hp→Prop)(m:Nat)(h0:W m σ H)
  (hs:∀m σ H,W m σ H→c σ H fun b H1=>if b=true then ∃N:St→Hp→Prop,(∀σ' H',N σ' H'→∃m',m'<m∧W m' σ' H')∧tb {D with nx:=N,ct:=N,bk:=D.nx} σ H1 else D.nx σ H1):ZhU c tb D σ H:=
 ⟨W,⟨m,h0⟩,hs⟩
theorem ZdF{W:Nat→St→Hp→Prop}{m:Nat}{tb:TS}{D:Vz}{σ:St}{H1:Hp}
  (h:tb {D with nx:=fun σ' H'=>∃m',m'<m∧W m' σ' H',ct:=fun σ' H'=>∃m',m'<m∧W m' σ' H',bk:=D.nx} σ H1):
  ∃N:St→Hp→Prop,(∀σ' H',N σ' H'→∃m',m'<m∧W m' σ' H')∧tb {D with nx:=N,ct:=N,bk:=D.nx} σ H1:=⟨_,fun _ _ z=>z,h⟩
noncomputable def ZlV (t:TS):TS:=fun D σ H=>∃J:St→Hp→Prop,(∀σ' H',J σ' H'→D.nx σ' H')∧t {D with nx:=J} σ H
theorem Zal{st:Stmt}{t:TS}(h:PS X st t):PS X st (ZlV t):=by
 intro pins s σ H D I hq;obtain⟨J,hJ,q⟩:=hq;refine thn (h pins s σ H _ I q) fun f s1 q1=>?_;cases f with
 |next=>obtain⟨σ',H',I',j⟩:=q1;exact⟨σ',H',I',hJ _ _ j⟩
 |brk=>exact q1
 |cont=>exact q1
 |ret v=>exact q1
end
namespace Rd
theorem Zj5{A B:Prop}(h:B):if(!true)=true then A else B:=ZfK h
theorem Zj2{A B:Prop}(h:A):if(!false)=true then A else B:=Zhk h
section
variable {σ:St}{H:Hp}{Q:VK}{D:Vz}{t u:TS}{ta tb te:TE}
theorem cut(J:St→Hp→Prop)(hJ:∀σ' H',J σ' H'→D.nx σ' H')(h:t {D with nx:=J} σ H):ZlV t D σ H:=⟨J,hJ,h⟩
theorem Zm4{wi:TI}{g:TG}{tb:TS}(h:wi σ H fun J H1=>∃W:Nat→Nat→St→Hp→Prop,(∃m,W 0 m σ H1)∧∀i m σ H,W i m σ H→
  (J.stop i H∧D.nx σ H)∨(J.go i H∧∃N:St→Hp→Prop,(∀σ' H',N σ' H'→∃m',m'<m∧W (i+1) m' σ' H')∧∀x H',J.yld i H x H'→g x σ H' fun σ2 H2=>tb {D with nx:=N,ct:=N,bk:=D.nx} σ2 H2)):ZlA wi g tb D σ H:=h
theorem ZmI{ts:TA}{R:It→Hp→Prop}(h:ts σ H fun vs H1=>∃j:Int,vs=[.int j]∧ -(2 ^ 62)≤j∧j<2 ^ 62∧R (Itr 0 j.toNat) H1):Zj8 ts σ H R:=h
theorem VB{K:PySem.W.Frag}{n:Nat}{ts:TGs}{a:Addr}{xs:List V}{Q:St→Hp→Prop}(hs:SqT K H a xs)(hn:xs.length=n)(h:ts xs σ H Q):ZjB K n ts (.ref a) σ H Q:=⟨a,xs,rfl,hs,hn,h⟩
theorem Znk{Q:St→Hp→Prop}(h:Q σ H):gNil [] σ H Q:=⟨rfl,h⟩
theorem Zme{g:TG}{gs:TGs}{v:V}{r:List V}{Q:St→Hp→Prop}(h:g v σ H fun σ' H'=>gs r σ' H' Q):Zkh g gs (v::r) σ H Q:=⟨v,r,rfl,h⟩
end
end Rd
end L2
namespace L2
open PySem PySem.Spec PyProof.Rows
theorem Zo{H:Hp}{p:Addr}{o:HO}(hp:H p=none):Zd H (upd H p o):=fun c u e=>by rw[Zg (Zm e hp)];exact e
theorem Zd.new{H H':Hp}{q:Addr}{o:HO}(sm:Zd H H')(hq:H q=none):Zd H (upd H' q o):=fun c u e=>by rw[Zg (Zm e hq)];exact sm c u e
namespace Rd
section
variable {σ:St}{H:Hp}{Q:VK}{D:Vz}{K:PySem.W.Frag}
theorem ixt{p:Addr}{xs:List V}{i:Int}{v:V}(h:SqT K H p xs)(e:atI xs i=some v)(q:Q v H):Zjz K (.ref p) (.int i) H Q:=⟨p,xs,i,v,rfl,rfl,h,e,q⟩
theorem ixl{p:Addr}{xs:List V}{i:Int}{v:V}(h:SqL K H p xs)(e:atI xs i=some v)(q:Q v H):ZdR K (.ref p) (.int i) H Q:=⟨p,xs,i,v,rfl,rfl,h,e,q⟩
theorem bm{T:String}{r:V→List V→Hp→VK→Prop}{to:TE}{t:TA}(h:to σ H fun x H1=>tyV K T x H1∧t σ H1 fun xs H2=>r x xs H2 Q):tBM K T r to t σ H Q:=h
theorem tyl{p:Addr}{xs:List V}{B:Prop}(h:H p=some (.lst xs))(q:B):tyV K "list" (.ref p) H∧B:=⟨.inl ⟨rfl,xs,.of h⟩,q⟩
theorem app{p:Addr}{xs:List V}{y:V}(h:H p=some (.lst xs))(hl:xs.length<sizeLine)(q:Q .non (upd H p (.lst (xs++ [y])))):rAppend (.ref p) [y] H Q:=⟨p,xs,y,rfl,rfl,h,hl,q⟩
end
end Rd
end L2
namespace L2
open PySem PySem.Spec PyProof.Rows
noncomputable def emb (ix:List Nat) (σ:St):St:=none::ix.map fun j=>(σ[j]?).join
noncomputable def Zn (X:Cx) (sc:Scope) (cl:List (Str×Addr)) (C:Addr) (N:List Str) (s:Shared) (H:Hp) (fp:List Addr):Cx where
 prog:=X.prog
 w:=X.w
 K:=X.K
 mg:=X.mg
 base:=X.base
 A:=X.A
 N:=N
 s₀:=s
 H₀:=H
 env:=compEnvC sc cl C X.env
 outer:=X.stack
 stack:=X.stack
 ex:=fp
 fn:=fun _=>false
 calm:=X.calm
 pn:=[]
 xe:=fun _ _=>False
structure Y3(X:Cx)(sc:Scope)(x:Str)(zs:List Str)(ix:List Nat):Prop where
 kind:sc.kind= .function
 nocell:∀y∈sc.names,y.2≠ .cell
 names:∀y∈sc.names,y.2= .local→sc.names.lookup y.1=some .local
 free:∀y∈sc.names,y.2= .free→X.env.kindOf y.1=some .cell∨X.env.kindOf y.1=some .free
 zfree:∀z∈zs,sc.names.lookup z=some .free
 at_:ix.map (fun j=>X.N[j]?)=zs.map some
theorem Wz{env:Env}{x:Str}:∀{names:List (Str×NameKind)}{k:NameKind},
  (names.map fun(n,k)=>if(k==NameKind.free&&env.scope.kind== .function&&env.kindOf n==some .cell) then(n,NameKind.cell) else(n,k)).lookup x=some k→
  ∃k',names.lookup x=some k'∧(k=k'∨(k'= .free∧k= .cell))
 | [],_,h=>by simp at h
 |(n,j)::r,k,h=>by
  have h':List.lookup x ((if(j==NameKind.free&&env.scope.kind== .function&&env.kindOf n==some .cell)=true then(n,NameKind.cell) else(n,j))::(r.map fun(n,k)=>if(k==NameKind.free&&env.scope.kind== .function&&env.kindOf n==some .cell) then(n,NameKind.cell) else(n,k)))=some k:=h;cases hx:x==n with
  |true=>
   refine⟨j,by simp[List.lookup_cons,hx],?_⟩
   by_cases hc:(j==NameKind.free&&env.scope.kind== .function&&env.kindOf n==some .cell)=true
   ·rw[if_pos hc] at h';simp only[List.lookup_cons,hx] at h';cases h';simp only[Bool.and_eq_true,beq_iff_eq] at hc;exact .inr ⟨hc.1.1,rfl⟩
   ·rw[if_neg hc] at h';simp only[List.lookup_cons,hx] at h';cases h';exact .inl rfl
  |false=>
   have h2:List.lookup x (r.map fun(n,k)=>if(k==NameKind.free&&env.scope.kind== .function&&env.kindOf n==some .cell) then(n,NameKind.cell) else(n,k))=some k:=by
    by_cases hc:(j==NameKind.free&&env.scope.kind== .function&&env.kindOf n==some .cell)=true
    ·rw[if_pos hc] at h';simpa only[List.lookup_cons,hx] using h'
    ·rw[if_neg hc] at h';simpa only[List.lookup_cons,hx] using h'
   obtain⟨k',e,q⟩:=Wz h2;exact⟨k',by simp only[List.lookup_cons,hx];exact e,q⟩
theorem Wj{x:Str}{k:NameKind}:∀{names:List (Str×NameKind)},names.lookup x=some k→(x,k)∈names:=fun h=>PySem.mem_of_lookup h
theorem Zbj(env:Env):∀(names:List (Str×NameKind))(acc:List (Str×Addr)),
  (∀y∈names,y.2= .free→∃c,env.cells.lookup y.1=some c)→(∀y c,acc.lookup y=some c→env.cells.lookup y=some c)→
  ∃cl:List (Str×Addr),(forIn names acc (fun x (r:List (Str×Addr))=>if x.2==NameKind.free then(do let a←cellOf env x.1;pure (ForInStep.yield ((x.1,a)::r))) else pure (ForInStep.yield r)):Sem (List (Str×Addr)))=pure cl∧
   (∀y c,cl.lookup y=some c→env.cells.lookup y=some c)∧(∀y,(∃c,acc.lookup y=some c)∨(y,NameKind.free)∈names→∃c,cl.lookup y=some c)
 | [],acc,_,ha=>⟨acc,rfl,ha,fun y h=>h.elim id fun z=>absurd z (by simp)⟩
 |(n,k)::r,acc,hf,ha=>by
  have hr:∀y∈r,y.2= .free→∃c,env.cells.lookup y.1=some c:=fun y hy=>hf y (List.mem_cons_of_mem _ hy)
  by_cases hk:k= .free
  ·subst hk;obtain⟨c,hc⟩:=hf (n,.free) List.mem_cons_self rfl;have ha':∀y c',((n,c)::acc).lookup y=some c'→env.cells.lookup y=some c':=fun y c' h=>by
    cases hy:y==n with
    |true=>
     simp only[List.lookup_cons,hy] at h;cases h;rw[beq_iff_eq.mp hy];exact hc
    |false=>
     simp only[List.lookup_cons,hy] at h;exact ha y c' h
   obtain⟨cl,e,h1,h2⟩:=Zbj env r ((n,c)::acc) hr ha';refine⟨cl,?_,h1,fun y h=>h2 y ?_⟩
   ·rw[List.forIn_cons];have:cellOf env n=pure c:=by unfold cellOf;rw[hc]
    simp only[beq_self_eq_true,if_true,this];exact e
   ·rcases h with⟨c',h⟩|h
    ·cases hy:y==n with
     |true=>exact .inl ⟨c,by simp only[List.lookup_cons,hy]⟩
     |false=>exact .inl ⟨c',by simp only[List.lookup_cons,hy];exact h⟩
    ·rcases List.mem_cons.mp h with h|h
     ·cases h;exact .inl ⟨c,by simp⟩
     ·exact .inr h
  ·obtain⟨cl,e,h1,h2⟩:=Zbj env r acc hr ha;refine⟨cl,?_,h1,fun y h=>h2 y ?_⟩
   ·rw[List.forIn_cons];have hb:(k==NameKind.free)=false:=by simpa using hk
    simp only[hb,Bool.false_eq_true,if_false];exact e
   ·rcases h with h|h
    ·exact .inl h
    ·rcases List.mem_cons.mp h with h|h
     ·cases h;exact absurd rfl hk
     ·exact .inr h
def PIf(X:Cx)(ifs:List Expr)(t:TT):Prop:=
 ∀(pins:List (Addr×Obj))(s:Shared)(σ:St)(H:Hp)(Q:Bool→Hp→Prop),Inv X pins σ H s→t σ H Q→
  wpAny (model X.prog X.w) X.A (forIn ifs true fun c r=>if r=true then do let ok←isTrue c X.env (eval c X.env);pure (ForInStep.yield ok) else pure (ForInStep.yield r)) (TP X pins σ Q) X.xe s
noncomputable def tAll:TT:=fun _ H Q=>Q true H
section
variable {X:Cx}
theorem Yg:PIf X [] tAll:=fun _ _ _ H _ I h=>wpAny_pure ⟨H,I,h⟩
theorem Zea{c:Expr}{t:TT}(hc:PT X c t):PIf X [c] t:=by
 intro pins s σ H Q I h;rw[List.forIn_cons];simp only[if_true];refine wpAny_bind (wpAny_bind (thn (hc pins s σ H _ I h) fun b s1 q=>wpAny_pure ?_));exact wpAny_pure q
end
section
variable {prog:Program}{w:World}{A:Around}{R:Result→Shared→Prop}{s:Shared}
theorem ZbU{elt target iter:Expr}{ifs:List Expr}{scope:Scope}{pos:Pos}{it acc:Value}{env:Env}(I:Nat→Shared→Prop)
  (turn:∀n s,I n s→wpAny (model prog w) A (pyNext it) (fun r s₁=>match r with
   |none=>R (.ok .next) s₁
   |some v=>wpAny (model prog w) A (letOwnedTupleGo target it v) (fun _ s₀=>wpAny (model prog w) A (assign target env v) (fun _ s₂=>
     wpAny (model prog w) A (forIn ifs true fun c r=>if r=true then do let ok←isTrue c env (eval c env);pure (ForInStep.yield ok) else pure (ForInStep.yield r)) (fun ok s₃=>
      if ok=true then wpAny (model prog w) A (eval elt env) (fun x s₄=>
       wpAny (model prog w) A (call (.builtin "list.append") [acc,x]) (fun _ s₅=>∃m,m<n∧I m s₅) (fun _ _=>False) s₄) (fun _ _=>False) s₃
      else ∃m,m<n∧I m s₃) (fun _ _=>False) s₂) (fun _ _=>False) s₀) (fun _ _=>False) s₁) (fun _ _=>False) s)
  (n:Nat) (h:I n s):
  codeAny (model prog w) A (.compLoop (.ListComp elt [⟨target,iter,ifs,0⟩] scope pos) 0 it acc env) R s:=by
 refine codeAny_loop rfl I (fun n s hI=>?_) n h;show wpAny _ A ((compTurn (.ListComp elt [⟨target,iter,ifs,0⟩] scope pos) 0 it acc env).onRaise (fun x=>do noteFrame x env;theTreesLotGoes x)) _ _ s;refine wpAny_noted ?_;rw[compTurn_list];refine wpAny_bind (wpAny_standAt (wpAny_bind (wpAny_mono (turn n s hI) (fun r s₁ h₁=>?_) fun _ _ z=>z.elim)));cases r with
 |none=>exact wpAny_pure h₁
 |some v=>
  refine wpAny_bind (wpAny_mono h₁ (fun _ s₀ h₀=>?_) fun _ _ z=>z.elim);refine wpAny_bind (wpAny_mono h₀ (fun _ s₂ h₂=>wpAny_bind (wpAny_mono h₂ (fun ok s₃ h₃=>?_) fun _ _ z=>z.elim)) fun _ _ z=>z.elim);cases ok with
  |false=>exact wpAny_pure ⟨rfl,h₃⟩
  |true=>
   exact wpAny_bind (wpAny_bind (wpAny_mono h₃ (fun x s₄ h₄=>wpAny_bind (wpAny_mono h₄ (fun _ s₅ h₅=>wpAny_pure (wpAny_pure ⟨rfl,h₅⟩)) fun _ _ z=>z.elim)) fun _ _ z=>z.elim))
end
noncomputable def Zhw (ix:List Nat) (wi:TI) (g:TG) (tc:TT) (te:TE):TE:=fun σ H Q=>wi σ H fun J H1=>∀p,H1 p=none→
 ∃W:Nat→Nat→List V→St→Hp→Prop,(∃m,W 0 m [] (emb ix σ) (upd H1 p (.lst [])))∧∀i m ys σ' H',W i m ys σ' H'→
  (J.stop i H'∧Q (.ref p) H')∨(J.go i H'∧∀x H2,J.yld i H' x H2→g x σ' H2 fun σ2 H3=>tc σ2 H3 fun b H4=>
   if b=true then te σ2 H4 fun v H5=>H5 p=some (.lst ys)∧ys.length<sizeLine∧∃m',m'<m∧W (i+1) m' (ys++ [v]) σ2 (upd H5 p (.lst (ys++ [v])))
   else ∃m',m'<m∧W (i+1) m' ys σ2 H4)
section
variable {X:Cx}
theorem Zhf{pins:List (Addr×Obj)}{σ:St}{H:Hp}{s:Shared}{sc:Scope}{x:Str}{zs:List Str}{ix:List Nat}{cl:List (Str×Addr)}{fp:List Addr}{h₁:Heap}{tk:Nat}
  (S:Y3 X sc x zs ix) (I:Inv X pins σ H s) (hcl:∀y c,cl.lookup y=some c→X.env.cells.lookup y=some c) (hhas:∀y,(y,NameKind.free)∈sc.names→∃c,cl.lookup y=some c)
  (hfp:∀b∈fp,W2 X pins H b∧b<s.heap.objs.size) (hns:h₁.Ns s.heap.objs.size fun _=>none) (hk:∀b o,s.heap.get? b=some o→h₁.get? b=some o):
  Inv (Zn X sc cl s.heap.objs.size (x::zs) s H fp) [] (emb ix σ) H {s with heap:=h₁,toks:=tk}:=by
 have sub:∀b∈frs X.stack,b∈X.env.locals::X.fs:=I.stkSub;have nfs:∀b∈fp,b∉frs X.stack:=fun b hb z=>by
  obtain⟨⟨_,f1,f2,_⟩,_⟩:=hfp b hb;rcases List.mem_cons.mp (sub b z) with e|e
  ·exact f1 e
  ·exact f2 e
 have cut:∀y,(Zn X sc cl s.heap.objs.size (x::zs) s H fp).env.kindOf y=some .cell∨(Zn X sc cl s.heap.objs.size (x::zs) s H fp).env.kindOf y=some .free→∃c,cl.lookup y=some c:=fun y hy=>by
  have q:∃k,(relabel sc X.env).names.lookup y=some k∧(k= .cell∨k= .free):=by
   rcases hy with hy|hy
   ·exact⟨_,hy,.inl rfl⟩
   ·exact⟨_,hy,.inr rfl⟩
  obtain⟨k,e,hk⟩:=q;obtain⟨k',e',q⟩:=Wz e;have:k'= .free:=by
   rcases q with q|⟨q,_⟩
   ·rcases hk with z|z
    ·exact absurd (q.symm.trans z) (S.nocell _ (Wj e'))
    ·exact q.symm.trans z
   ·exact q
  subst this;exact hhas y (Wj e')
 refine⟨⟨I.ok.mod,S.kind,I.ok.glob,I.ok.blt,Nat.le_refl _,fun y z c h1 h2=>I.ok.inj y z c (hcl _ _ h1) (hcl _ _ h2),cut,fun y c hf _=>?_,I.ok.hd,I.ok.frames,.inl rfl,fun b hb=>?_,I.bs,Nat.le_trans I.ok.bsz I.sz,fun b o e hb=>?_,nfs,I.stack,I.stkFree⟩,
  rfl,I.bare,Un.kept hk,⟨_,hns,fun i y v h1 h2 h3=>?_⟩,fun y c h=>?_,I.hok.fresh (Nat.le_refl _),fun y c h=>I.freeC y c (hcl y c h),fun p hp=>absurd (show p∈([]:List (Addr×Obj)) from hp) (by simp),I.hok.kept hk,?_⟩
 ·exact absurd (show false=true from hf) (by decide)
 ·obtain⟨⟨f0,f1,f2,f3,f4,f5⟩,hl⟩:=hfp b hb;exact⟨Nat.ne_of_lt hl,fun y c h=>f4 y c (hcl y c h)⟩
 ·obtain⟨⟨f0,f1,f2,f3,f4,f5⟩,hl⟩:=hfp b hb;rcases f3 with z|z
  ·exact I.ok.noex b o e z
  ·exact absurd (Nat.lt_of_lt_of_le (Heap.lt_size e) (Nat.le_trans I.ok.bsz z)) (Nat.lt_irrefl _)
 ·
  cases i with
  |zero=>
   have:(none:Option (Option V))=some (some v)∨(some none:Option (Option V))=some (some v):= .inr h2;rcases this with z|z<;>cases z
  |succ i=>
   have h1':zs[i]? =some y:=h1;have h2':(ix.map fun j=>(σ[j]?).join)[i]? =some (some v):=h2;have ha:(ix.map fun j=>X.N[j]?)[i]? =some (some y):=by rw[S.at_,List.getElem?_map,h1'];rfl
   rw[List.getElem?_map] at h2' ha;cases e:ix[i]? with
   |none=>rw[e] at h2';cases h2'
   |some j=>
    rw[e] at h2' ha;have ha':X.N[j]? =some y:=Option.some.inj ha;have hj:(σ[j]?).join=some v:=Option.some.inj h2';have hσ:σ[j]? =some (some v):=by
     cases q:σ[j]? with
     |none=>rw[q] at hj;cases hj
     |some o=>rw[q] at hj;exact congrArg some hj
    obtain⟨m,hn,hl⟩:=I.loc;have hfr:=S.zfree y (List.mem_of_getElem? h1');have hkind:=S.free _ (Wj hfr) rfl;have hv:Vis X.env.scope y:=by
     rcases hkind with z|z
     ·exact .inr (.inl z)
     ·exact .inr (.inr z)
    obtain⟨u,r,q⟩:=hl j y v ha' hσ hv;refine⟨u,r,?_⟩;rcases q with⟨kl,_⟩|⟨_,c,hc,hcell⟩
    ·have kl':X.env.kindOf y=some .local:=kl;rcases hkind with z|z<;>(rw[z] at kl';cases kl')
    ·obtain⟨c',hc'⟩:=hhas y (Wj hfr);have ec:c'=c:=by have:=hcl y c' hc';rw[hc] at this;exact(Option.some.inj this).symm
     subst ec;refine .inr ⟨?_,c',hc',?_⟩
     ·have hvis:Vis (relabel sc X.env) y:=h3;rcases hvis with z|z|z
      ·obtain⟨k',e',q⟩:=Wz z;rw[hfr] at e';cases e';rcases q with q|⟨_,q⟩<;>cases q
      ·exact .inl z
      ·exact .inr z
     ·obtain⟨o,ho,hd⟩:=hcell;exact⟨o,hk _ _ ho,hd⟩
 ·obtain⟨v,o,ho,hd⟩:=I.cell y c (hcl y c h);exact⟨v,o,hk _ _ ho,hd⟩
 ·show(none::ix.map fun j=>(σ[j]?).join).length=(x::zs).length;have:=congrArg List.length S.at_;simp only[List.length_map] at this;simp only[List.length_cons,List.length_map,this]
def ZgM(X:Cx)(pins:List (Addr×Obj))(σ:St)(Q:VK)(acc:Value)(C:Addr)(s':Shared):Prop:=
 ∃p H' m,acc=Value.ref p∧s'.heap.Ns C m∧Inv X pins σ H' s'∧W2 X pins H' C∧Q (.ref p) H'
theorem Zdo{pins:List (Addr×Obj)}{σ:St}{H:Hp}{s:Shared}{sc:Scope}{x:Str}{zs:List Str}{ix:List Nat}{cl:List (Str×Addr)}{fp:List Addr}{it:Addr}{tn:Nat→Heap→Prop}{J:It}
  {elt tg iter:Expr} {ifs:List Expr} {pos:Pos} {g:TG} {tc:TT} {te:TE} {Q:VK} {E:Value→Shared→Prop} {RR:Value→Addr→Result→Shared→Prop}
  (hc:X.calm=true) (S:Y3 X sc x zs ix) (I:Inv X pins σ H s) (hcl:∀y c,cl.lookup y=some c→X.env.cells.lookup y=some c) (hhas:∀y,(y,NameKind.free)∈sc.names→∃c,cl.lookup y=some c)
  (T:Zbr X.prog X.w X.K tg J fp it tn) (st:tn 0 s.heap) (hfp:∀b∈fp,W2 X pins H b)
  (hin:∀C s H,PG (Zn X sc cl C (x::zs) s H fp) tg g∧PIf (Zn X sc cl C (x::zs) s H fp) ifs tc∧PE (Zn X sc cl C (x::zs) s H fp) elt te)
  (hq:∀p,H p=none→∃W:Nat→Nat→List V→St→Hp→Prop,(∃m,W 0 m [] (emb ix σ) (upd H p (.lst [])))∧∀i m ys σ' H',W i m ys σ' H'→
   (J.stop i H'∧Q (.ref p) H')∨(J.go i H'∧∀x H2,J.yld i H' x H2→g x σ' H2 fun σ2 H3=>tc σ2 H3 fun b H4=>
    if b=true then te σ2 H4 fun v H5=>H5 p=some (.lst ys)∧ys.length<sizeLine∧∃m',m'<m∧W (i+1) m' (ys++ [v]) σ2 (upd H5 p (.lst (ys++ [v])))
    else ∃m',m'<m∧W (i+1) m' ys σ2 H4))
  (hR:∀acc C f s',ZgM X pins σ Q acc C s'→RR acc C (.ok f) s'):
  wpAny (model X.prog X.w) X.A (newList []) (fun acc s₃=>wpAny (model X.prog X.w) X.A (newFunctionEnv sc X.env.globals cl [] X.env.qual none .none (some X.env)) (fun cenv s₄=>
   codeAny (model X.prog X.w) X.A (.compStart (.ListComp elt [⟨tg,iter,ifs,0⟩] sc pos) 0 (.ref it) acc {cenv with scope:=relabel sc X.env}) (RR acc cenv.locals) s₄) E s₃) E s:=by
 refine wpAny_newObj_type (wpAny_newFunctionEnv S.nocell (by intro y hy;simp at hy) (fun h₁ hns₁ hsb₁=>?_) S.kind);have I3:Inv X pins σ (upd H s.heap.objs.size (.lst [])) {s with heap:=s.heap.push {cls:= .type "list",dict:=none,data:= .seq ([]:List Value).toArray}}:=I.lnew (its:=[]) (ys:=[]) (t':=s.toks) .nil (Nat.zero_le _);dsimp only at hns₁ hsb₁⊢;obtain⟨W,⟨m0,w0⟩,turn⟩:=hq s.heap.objs.size (I.hok.fresh (Nat.le_refl _));have lt:∀b∈fp,b<s.heap.objs.size:=fun b hb=>by
  obtain⟨o,e,_⟩:=T.obj 0 s.heap st b hb;exact Heap.lt_size e
 have up:∀b∈fp,∀o,(upd H s.heap.objs.size o) b=H b:=fun b hb o=>Zg (Nat.ne_of_lt (lt b hb));have kp:∀b o,(s.heap.push {cls:= .type "list",dict:=none,data:= .seq ([]:List Value).toArray}).get? b=some o→h₁.get? b=some o:=fun b o e=>
  hsb₁.extBut b o (Nat.ne_of_lt (Heap.lt_size e)) (Heap.get?_push_of_some _ e)
 have f3:∀b∈fp,W2 X pins (upd H s.heap.objs.size (.lst [])) b∧b<(s.heap.push {cls:= .type "list",dict:=none,data:= .seq ([]:List Value).toArray}).objs.size:=fun b hb=>by
  obtain⟨q0,q⟩:=hfp b hb;refine⟨⟨(up b hb _).trans q0,q⟩,?_⟩;rw[Heap.size_push];exact Nat.lt_succ_of_lt (lt b hb)
 generalize hS3:({s with heap:=s.heap.push {cls:= .type "list",dict:=none,data:= .seq ([]:List Value).toArray}}:Shared)=s3 at I3;have hH3:s.heap.push {cls:= .type "list",dict:=none,data:= .seq ([]:List Value).toArray}=s3.heap:=by rw[←hS3]
 rw[hH3] at kp f3 hns₁⊢;have st3:tn 0 h₁:=T.keep 0 _ _ st fun b _ o e=>kp b o (by rw[←hH3];exact Heap.get?_push_of_some _ e);have J0:Inv (Zn X sc cl s3.heap.objs.size (x::zs) s3 (upd H s.heap.objs.size (.lst [])) fp) [] (emb ix σ) (upd H s.heap.objs.size (.lst [])) {s3 with heap:=h₁,toks:=s3.toks}:=
  Zhf S I3 hcl hhas f3 hns₁ kp
 obtain⟨hg,hif,he⟩:=hin s3.heap.objs.size s3 (upd H s.heap.objs.size (.lst []));have fpo:∀{H':Hp},(∀b∈fp,H' b=none)→∀b∈fp,W2 (Zn X sc cl s3.heap.objs.size (x::zs) s3 (upd H s.heap.objs.size (.lst [])) fp) [] H' b:=fun{H'} hn b hb=>
  ⟨hn b hb,(J0.ok.exf b hb).1,J0.ok.exfs b hb,.inl hb,(J0.ok.exf b hb).2,fun p hp=>absurd (show p∈([]:List (Addr×Obj)) from hp) (by simp)⟩
 have loop:∀s4:Shared,s4={s3 with heap:=h₁,toks:=s3.toks}→
   codeAny (model X.prog X.w) X.A (.compLoop (.ListComp elt [⟨tg,iter,ifs,0⟩] sc pos) 0 (.ref it) (.ref s.heap.objs.size) (compEnvC sc cl s3.heap.objs.size X.env)) (RR (.ref s.heap.objs.size) s3.heap.objs.size) s4:=by
  rintro s4 rfl;refine ZbU (fun n s'=>∃i ys σ' H',Inv (Zn X sc cl s3.heap.objs.size (x::zs) s3 (upd H s.heap.objs.size (.lst [])) fp) [] σ' H' s'∧tn i s'.heap∧(∀b∈fp,H' b=none)∧W i n ys σ' H') ?_ m0
   ⟨0,[],emb ix σ,_,J0,st3,fun b hb=>(f3 b hb).1.1,w0⟩
  rintro n s5 ⟨i,ys,σ5,H5,I5,st5,fr5,w5⟩;rcases turn i n ys σ5 H5 w5 with⟨stop,qn⟩|⟨go,step⟩
  ·refine thn (T.done (Zn X sc cl s3.heap.objs.size (x::zs) s3 (upd H s.heap.objs.size (.lst [])) fp) rfl rfl rfl hc i [] s5 σ5 H5 _ I5 (fpo fr5) st5 stop) fun r s6 ⟨hr,I6⟩=>?_;subst hr;obtain⟨m6,hm6,_⟩:=I6.loc;refine hR _ _ _ _ ⟨s.heap.objs.size,H5,m6,rfl,hm6,?_,I3.fpOk (Nat.le_refl _) I6.free,qn⟩;exact I3.call' I6.os I6.base I6.hok I6.bare fun b hb=>by
    obtain⟨⟨f0,f1,f2,f3,f4,f5⟩,_⟩:=f3 b hb;exact⟨f3,f1,f4,f5⟩
  ·refine thn (T.item (Zn X sc cl s3.heap.objs.size (x::zs) s3 (upd H s.heap.objs.size (.lst [])) fp) rfl rfl rfl hc i [] s5 σ5 H5 _ I5 (fpo fr5) st5 go) fun r s6 ⟨u,hr,h6⟩=>?_;subst hr;refine thn h6 fun _ s7 ⟨x7,H7,I7,r7,y7,st7,fr7⟩=>?_;have I7':=I7.pinned (fpo fr7) (T.obj _ _ st7);refine thn (hg _ s7 σ5 H7 x7 u _ I7' r7 (step x7 H7 y7)) fun _ s8 ⟨σ8,H8,I8,q8⟩=>?_;refine thn (hif _ s8 σ8 H8 _ I8 q8) fun b s9 ⟨H9,I9,q9⟩=>?_;have again:∀{ys':List V}{σ':St}{H':Hp}{m':Nat}{s':Shared},Inv (Zn X sc cl s3.heap.objs.size (x::zs) s3 (upd H s.heap.objs.size (.lst [])) fp) ([]++ZaX fp s7.heap) σ' H' s'→W (i+1) m' ys' σ' H'→m'<n→
     ∃m,m<n∧∃i ys σ' H',Inv (Zn X sc cl s3.heap.objs.size (x::zs) s3 (upd H s.heap.objs.size (.lst [])) fp) [] σ' H' s'∧tn i s'.heap∧(∀b∈fp,H' b=none)∧W i m ys σ' H':=fun{ys' σ' H' m' s'} Iz wz hm=>by
    refine⟨m',hm,i+1,ys',σ',H',Iz.unpinned,T.keep _ _ _ st7 fun b hb o e=>(Iz.pin (b,o) (List.mem_append_right _ (List.mem_append_right _ (Vg hb e)))).1,fun b hb=>?_,wz⟩;obtain⟨o,e,d⟩:=T.obj _ _ st7 b hb;exact(Iz.pin (b,o) (List.mem_append_right _ (List.mem_append_right _ (Vg hb e)))).2.1
   cases b with
   |false=>
    rw[if_neg Bool.false_ne_true] at q9⊢;obtain⟨m',hm,wz⟩:=q9;exact again I9 wz hm
   |true=>
    rw[if_pos rfl] at q9⊢;refine thn (he _ s9 σ8 H9 _ I9 q9) fun v s10 ⟨y,H10,I10,r10,hl,hz,m',hm,wz⟩=>?_;refine thn (Yc _ s10 σ8 H10 (.ref s.heap.objs.size) [y] (.ref s.heap.objs.size) [v] (fun z H'=>z= .non∧H'=upd H10 s.heap.objs.size (.lst (ys++ [y]))) I10 rfl (.cons r10 .nil) ⟨_,ys,y,rfl,rfl,hl,hz,rfl,rfl⟩) fun _ s11 ⟨z,H11,I11,_,_,e11⟩=>?_;subst e11;exact again I11 wz hm
 exact codeAny_compStart_list (loop _ (by subst hS3;rfl)) (T.self _ 0 _ _ _ st3 (loop _ (by subst hS3;rfl)))
theorem VQ{sc:Scope}{x:Str}{zs:List Str}{ix:List Nat}(ok:X.Ok)(S:Y3 X sc x zs ix):
  ∃cl,closureFor sc X.env=pure cl∧(∀y c,cl.lookup y=some c→X.env.cells.lookup y=some c)∧∀y,(y,NameKind.free)∈sc.names→∃c,cl.lookup y=some c:=by
 obtain⟨cl,e,h1,h2⟩:=Zbj X.env sc.names [] (fun y hy hf=>ok.has y.1 (S.free y hy hf)) (fun y c h=>by simp at h);refine⟨cl,?_,h1,fun y hy=>h2 y (.inr hy)⟩;unfold closureFor;simp only;rw[e]
 rfl
theorem Vh{elt tg iter:Expr}{ifs:List Expr}{sc:Scope}{pos:Pos}{x:Str}{zs:List Str}{ix:List Nat}{wi:TI}{g:TG}{tc:TT}{te:TE}
  (hc:X.calm=true) (S:Y3 X sc x zs ix) (hi:PI X tg iter wi)
  (hin:∀cl C s H fp,PG (Zn X sc cl C (x::zs) s H fp) tg g∧PIf (Zn X sc cl C (x::zs) s H fp) ifs tc∧PE (Zn X sc cl C (x::zs) s H fp) elt te)
  (hs:∀x,foldedSetIterable iter X.env x=pure x:=by intro _;rfl):
  PE X (.ListComp elt [⟨tg,iter,ifs,0⟩] sc pos) (Zhw ix wi g tc te):=by
 intro pins s σ H Q I h;obtain⟨cl,hclos,hcl,hhas⟩:=VQ I.ok S;rw[eval_ListComp];refine wpAny_comprehension_free (use:=none) rfl hs hclos S.kind S.names (thn (hi pins s σ H _ I h) fun v s1 h1=>thn h1 fun itv s2 h2=>?_);obtain⟨it,fp,tn,J,H2,e,I2,T,st2,f2,hq⟩:=h2;subst e;refine Zdo (RR:=fun acc C=>compPost (model X.prog X.w) X.A X.xe none (EP X pins σ Q) acc C) hc S I2 hcl hhas T st2 f2 (fun C s H=>hin cl C s H fp) hq fun acc C f s' h=>?_;obtain⟨p,H',m,rfl,hm,I',⟨g0,g1,g2,g3,g4,g5⟩,q⟩:=h;exact⟨m,hm,fun h' hb=>⟨.ref p,H',I'.turned (t':=s'.toks) (fun b o hne e=>(hb.2 b hne).trans e) g0 g1 g3 g4 g5,rfl,q⟩⟩
theorem Zd4{elt tg iter:Expr}{ifs:List Expr}{sc:Scope}{pos py spos:Pos}{x y:Str}{zs:List Str}{ix:List Nat}{wi:TI}{g:TG}{tc:TT}{te:TE}{j:Nat}
  (hc:X.calm=true) (S:Y3 X sc x zs ix) (hi:PI X tg iter wi)
  (hin:∀cl C s H fp,PG (Zn X sc cl C (x::zs) s H fp) tg g∧PIf (Zn X sc cl C (x::zs) s H fp) ifs tc∧PE (Zn X sc cl C (x::zs) s H fp) elt te)
  (hN:X.N.Nodup) (hj:X.N[j]? =some y) (hy:Loc X.env.scope y)
  (hsw:swapsWith (.ListComp elt [⟨tg,iter,ifs,0⟩] sc pos) (some (.Name y py)) spos.line X.env=pure true:=by rfl)
  (hf:X.fn y=true∨X.env.scope.names.lookup y=some .local:=by first|exact .inl rfl|exact .inr rfl|assumption)
  (hs:∀x,foldedSetIterable iter X.env x=pure x:=by intro _;rfl):
  PS X (.Assign [.Name y py] (.ListComp elt [⟨tg,iter,ifs,0⟩] sc pos) spos) (Ze4 (Zhw ix wi g tc te) (UT j)):=by
 intro pins s σ H D I h;obtain⟨cl,hclos,hcl,hhas⟩:=VQ I.ok S;rw[exec_Assign_Name_used _ _ _ _ hsw];refine wpAny_bind (wpAny_standAt (wpAny_bind ?_));show wpAny _ X.A (do let _←comprehension (.ListComp elt [⟨tg,iter,ifs,0⟩] sc pos) sc X.env _ (newList []) false (eval iter X.env) (some (assign (.Name y py) X.env))) _ _ s;refine wpAny_bind (wpAny_mono (wpAny_comprehension_free (use:=some (assign (.Name y py) X.env)) (Q:=fun _ s'=>SP X pins D .next s') rfl hs hclos S.kind S.names
  (thn (hi pins s σ H _ I h) fun v s1 h1=>thn h1 fun itv s2 h2=>?_)) (fun _ s' hq=>wpAny_pure (wpAny_pure hq)) fun _ _ e=>e)
 obtain⟨it,fp,tn,J,H2,e,I2,T,st2,f2,hq⟩:=h2;subst e;refine Zdo (Q:=fun x H1=>UT j x σ H1 D.nx) (RR:=fun acc C=>compPost (model X.prog X.w) X.A X.xe (some (assign (.Name y py) X.env)) (fun _ s'=>SP X pins D .next s') acc C) hc S I2 hcl hhas T st2 f2 (fun C s H=>hin cl C s H fp) hq fun acc C f s' h=>?_;obtain⟨p,H',m,rfl,hm,I',⟨g0,g1,g2,g3,g4,g5⟩,q⟩:=h;show wpAny _ X.A (assign (.Name y py) X.env (.ref p)) _ _ _;refine wpAny_assign_Name (ZbV I' hN hj hy (show ZG (.ref p) (.ref p) from rfl) (fun s'' I'' ⟨c,hsb,hcc⟩=>?_) hf);have hne:C≠c:=by
  rcases hcc with z|z
  ·rw[z];exact g1
  ·exact Ne.symm (g4 _ _ z)
 exact⟨m,hm.sameBut hsb hne,fun h' hb=>⟨_,H',I''.turned (t':=s''.toks) (fun b o hne e=>(hb.2 b hne).trans e) g0 g1 g3 g4 g5,q⟩⟩
end
end L2
namespace L2
open PySem PySem.Spec PyProof.Rows
noncomputable def CXX (P:Program) (w:World):CXT:=fun outer H s E e s'=>
 ∃(ea:Addr)(cls a0:Value)(H':Hp)(B:Heap),e= .ref ea∧s'.os=s.os∧AllBare s'.gens∧Un (frs outer) [] H H' s.heap s'.heap∧HOk P w H' s'.heap∧
  Heap.FlyingW B outer ea cls a0 s'.heap∧(∀b o,s'.heap.get? b=some o→(H' b≠none∨((∃o',s.heap.get? b=some o')∧b∉frs outer))→B.get? b=some o)∧E cls none H'
theorem HOk.stays{P:Program}{w:World}{H:Hp}{h h' B:Heap}(ok:HOk P w H h)(hB:∀b o,h.get? b=some o→H b≠none→B.get? b=some o)(st:B.StaysIn h'):HOk P w H h':=fun a o e=>
 (ok a o e).stay (fun b u hb q=>st b u (hB b u q (by
  rcases hb with rfl|hb
  ·rw[e];exact fun z=>nomatch z
  ·rw[hb];exact fun z=>nomatch z))) (fun _ q=>q) fun _ _ q=>q
theorem Z2.got{P:Program}{w:World}{H:Hp}{h:Heap}{a:Addr}{o:HO}(x:Z2 P w H h a o):∃ob,h.get? a=some ob:=by
 cases o with
 |lst xs=>obtain⟨_,_,_,_,e⟩:=x;exact⟨_,e⟩
 |tup xs=>obtain⟨_,_,_,p⟩:=x;obtain⟨ob,e,_⟩:=p;exact⟨ob,e⟩
 |dK kvs=>obtain⟨_,_,_,_,o,_,_,e,_⟩:=x;exact⟨o,e⟩
 |dT kvs=>obtain⟨_,_,_,_,o,_,_,e,_⟩:=x;exact⟨o,e⟩
 |set S n=>obtain⟨o,_,_,_,e,_⟩:=x;exact⟨o,e⟩
 |ins C dx fs=>obtain⟨_,_,_,e,_⟩:=x;exact⟨_,e⟩
 |own y=>exact x
 |xd fs=>obtain⟨_,⟨o,_,_,e,_⟩,_⟩:=x;exact⟨o,e⟩
 |rng lo hi=>obtain⟨_,_,_,e⟩:=x;exact⟨_,e⟩
 |frz ob u=>obtain⟨e,_⟩:=x;exact⟨ob,e⟩
 |tbl ps=>exact⟨_,(show h.get? a=some _ from x)⟩
 |met f y=>exact⟨_,(show h.get? a=some _ from x)⟩
 |ext φ=>obtain⟨_,e,_⟩:=x;exact e
theorem Un.fly{fs:List Addr}{H H':Hp}{h h1 h2 B:Heap}(u:Un fs [] H H' h h1)(hB:∀b o,h1.get? b=some o→(H' b≠none∨((∃o',h.get? b=some o')∧b∉fs))→B.get? b=some o)
  (st:B.StaysIn h2) (sl:h1.UpToSlots h2) (hf:∀b∈fs,∀o,h.get? b=some o→∀vs,o.data≠ .fields vs) (hfn:∀b∈fs,H b=none):Un fs [] H H' h h2 where
 keep:=fun b o e n hb hx=>st b o (hB b o (u.keep b o e n hb hx) (.inr ⟨⟨_,e⟩,hb⟩))
 slot:=fun b o e n hb hx=>by
  obtain⟨s1,e1⟩:=u.slot b o e n hb hx;obtain⟨s2,e2⟩:=sl b _ e1 (hf b hb o e);exact⟨s2,e2⟩
 free:=u.free
 there:=fun b o e hx=>by
  by_cases hb:b∈fs
  ·obtain⟨s1,e1⟩:=u.slot b o e (hfn b hb) hb hx;obtain⟨s2,e2⟩:=sl b _ e1 (hf b hb o e);exact⟨_,e2⟩
  ·obtain⟨o',e1⟩:=u.there b o e hx;exact⟨o',st b o' (hB b o' e1 (.inr ⟨⟨_,e⟩,hb⟩))⟩
 tups:=u.tups
 frzs:=u.frzs
 tbls:=u.tbls
section
variable {P:Program}{w:World}{K:PySem.W.Frag}{mg:Str→Option Value}{base:Heap}{N:List Str}{qual:Str}{scope:Scope}{f:Addr}{cd:Value}{A:Around}{outer:List Env}{s₀:Shared}{H₀:Hp}{E:XK}
noncomputable abbrev cxX (P:Program) (w:World) (K:PySem.W.Frag) (mg:Str→Option Value) (base:Heap) (N:List Str) (qual:Str) (scope:Scope) (f:Addr) (cd:Value) (A:Around) (outer:List Env) (s₀:Shared) (H₀:Hp) (E:XK):Cx:=
 ZN (CXX P w) P w K mg base N qual scope f cd A outer s₀ H₀ E
theorem Zi9{pins:List (Addr×Obj)}{σ:St}{H H':Hp}{s s':Shared}{ea:Addr}{cls a0:Value}{B:Heap}(I:Inv (cxX P w K mg base N qual scope f cd A outer s₀ H₀ E) pins σ H s)
  (os:s'.os=s.os) (bare:AllBare s'.gens) (u:Un (frs (cxX P w K mg base N qual scope f cd A outer s₀ H₀ E).stack) [] H H' s.heap s'.heap) (ok:HOk P w H' s'.heap)
  (fl:Heap.FlyingW B (cxX P w K mg base N qual scope f cd A outer s₀ H₀ E).stack ea cls a0 s'.heap)
  (hB:∀b o,s'.heap.get? b=some o→(H' b≠none∨((∃o',s.heap.get? b=some o')∧b∉frs (cxX P w K mg base N qual scope f cd A outer s₀ H₀ E).stack))→B.get? b=some o) (q:E cls none H'):
  (cxX P w K mg base N qual scope f cd A outer s₀ H₀ E).xe (.ref ea) s':=by
 have hfr:(A.deeper (envOfC qual scope s₀.heap.objs.size f cd)).frames=some (envOfC qual scope s₀.heap.objs.size f cd::outer):=I.ok.frames;refine wpAny_leaves_onW (L:=s₀.heap.objs.size) hfr rfl fl fun h2 fl2 sl=>?_;have below:∀b o,s₀.heap.get? b=some o→b∉frs outer→(∃o',s.heap.get? b=some o')∧b∉frs (cxX P w K mg base N qual scope f cd A outer s₀ H₀ E).stack:=fun b o e hn=>
  ⟨I.base.there b o e (by intro z;exact absurd (show b∈([]:List Addr) from z) (by simp)),fun z=>by
   rcases List.mem_cons.mp (I.stkSub b z) with q|q
   ·have hb:=Heap.lt_size e;have q':b=s₀.heap.objs.size:=q;rw[q'] at hb;exact Nat.lt_irrefl _ hb
   ·exact hn q⟩
 have u2:Un (frs outer) [] H₀ H' s₀.heap s'.heap:=by
  have b0:Un (frs outer) [] H₀ H s₀.heap s.heap:=I.base;refine⟨fun b o e n hb hx=>?_,fun b o e n hb hx=>?_,fun b o e n hx=>?_,fun b o e hx=>?_,fun b xs e=>u.tups b xs (b0.tups b xs e),fun b o v e=>u.frzs b o v (b0.frzs b o v e),fun b ps e=>?_⟩
  ·exact u.keep b o (b0.keep b o e n hb hx) (b0.free b o e n hx) (below b o e hb).2 hx
  ·obtain⟨s1,e1⟩:=b0.slot b o e n hb hx;obtain⟨s2,e2⟩:=u.any e1 (b0.free b o e n hx) hx;exact⟨s2,e2⟩
  ·obtain⟨o',e1⟩:=b0.there b o e hx;exact u.free b o' e1 (b0.free b o e n hx) hx
  ·obtain⟨o',e1⟩:=b0.there b o e hx;exact u.there b o' e1 hx
  ·obtain⟨m1,e1⟩:=b0.tbls b ps e;obtain⟨m2,e2⟩:=u.tbls b _ e1;exact⟨m1++m2,by rw[e2,Array.append_assoc]⟩
 have hB2:∀b o,s'.heap.get? b=some o→(H' b≠none∨((∃o',s₀.heap.get? b=some o')∧b∉frs outer))→B.get? b=some o:=fun b o e h=>hB b o e (h.imp id fun⟨⟨o',z⟩,hn⟩=>below b o' z hn);have ok2:HOk P w H' h2:=ok.stays (fun b o e n=>hB b o e (.inl n)) fl2.1;refine⟨ea,cls,a0,H',B,rfl,os.trans I.os,bare,u2.fly hB2 fl2.1 sl (fun b hb o e=>?_) (I.ok.frf),ok2,fl2,fun b o e h=>?_,q⟩
 ·obtain⟨_,o',e',d⟩:=I.ok.funs.mem hb;have e'':s₀.heap.get? b=some o':=e';rw[e] at e'';cases e'';exact d
 ·have ex:∃o',s'.heap.get? b=some o':=by
   rcases h with h|⟨h,hn⟩
   ·cases q2:H' b with
    |none=>exact absurd q2 h
    |some v=>exact(ok b v q2).got
   ·obtain⟨o5,q5⟩:=h;exact u2.there b o5 q5 (by simp)
  obtain⟨o',e'⟩:=ex;have e2:=hB2 b o' e' h;have e3:=fl2.1 b o' e2;have e4:h2.get? b=some o:=e;rw[e3] at e4;cases e4;exact e2
theorem Zl:VR (CXX P w) (cxX P w K mg base N qual scope f cd A outer s₀ H₀ E) E:=by
 intro pins σ H s e s' I h;obtain⟨ea,cls,a0,H',B,rfl,os,bare,u,ok,fl,hB,q⟩:=h;exact Zi9 I os bare u ok fl hB q
noncomputable def Zfy (cls:Value) (E:XK) (t:TA):TS:=fun _ σ H=>t σ H fun vs H1=>vs.length≤sizeLine∧E cls none H1
theorem ZiH{pins:List (Addr×Obj)}{σ:St}{H:Hp}{s:Shared}{h':Heap}{ea:Addr}{cls:Value}{us:List Value}(I:Inv (cxX P w K mg base N qual scope f cd A outer s₀ H₀ E) pins σ H s)
  (hx:Heap.MadeExcOf s.heap h' ea cls us) (q:E cls none H):(cxX P w K mg base N qual scope f cd A outer s₀ H₀ E).xe (.ref ea) {s with heap:=h'}:=by
 have hfr:(A.deeper (envOfC qual scope s₀.heap.objs.size f cd)).frames=some (envOfC qual scope s₀.heap.objs.size f cd::outer):=I.ok.frames;have hin:∀env∈(cxX P w K mg base N qual scope f cd A outer s₀ H₀ E).stack,∀b,env.frame=some b→b∈frs (cxX P w K mg base N qual scope f cd A outer s₀ H₀ E).stack:=fun env he b hb=>List.mem_filterMap.mpr ⟨env,he,hb⟩;have inB:∀b o,s.heap.get? b=some o→(H b≠none∨((∃o',s₀.heap.get? b=some o')∧b∉frs outer))→(PySem.W.hideAll s.heap (frs (cxX P w K mg base N qual scope f cd A outer s₀ H₀ E).stack)).get? b=some o:=fun b o e h=>
  PySem.W.hideAll_get _ e fun z=>by
   rcases h with h|⟨⟨o',e'⟩,hn⟩
   ·exact h (I.stkFree b z)
   ·rcases List.mem_cons.mp (I.stkSub b z) with q|q
    ·have hb:=Heap.lt_size e';have q':b=s₀.heap.objs.size:=q;rw[q'] at hb;exact Nat.lt_irrefl _ hb
    ·exact hn q
 refine wpAny_leaves_madeW (base:=PySem.W.hideAll s.heap (frs (cxX P w K mg base N qual scope f cd A outer s₀ H₀ E).stack)) (h:=s.heap) (L:=s₀.heap.objs.size) hfr rfl (fun b o e=>PySem.W.of_hideAll _ e) (PySem.W.funFrames_hide I.stack hin) hx fun h3 t fl _ _ sl=>?_;have sl':s.heap.UpToSlots h3:=(Heap.UpToSlots.of_keeps hx.keeps).trans sl;have b0:Un (frs outer) [] H₀ H s₀.heap s.heap:=I.base;have ok3:HOk P w H h3:=I.hok.stays (fun b o e n=>inB b o e (.inl n)) fl.1;refine⟨ea,cls,_,H,_,rfl,I.os,I.bare,b0.fly inB fl.1 sl' (fun b hb o e=>?_) I.ok.frf,ok3,fl,fun b o e h=>?_,q⟩
 ·obtain⟨_,o',e',d⟩:=I.ok.funs.mem hb;have e'':s₀.heap.get? b=some o':=e';rw[e] at e'';cases e'';exact d
 ·have ex:∃o',s.heap.get? b=some o':=by
   rcases h with h|⟨⟨o5,q5⟩,_⟩
   ·cases q2:H b with
    |none=>exact absurd q2 h
    |some v=>exact(I.hok b v q2).got
   ·exact b0.there b o5 q5 (by simp)
  obtain⟨o',e'⟩:=ex;have e2:=inB b o' e' h;have e3:=fl.1 b o' e2;have e4:h3.get? b=some o:=e;rw[e3] at e4;cases e4;exact e2
theorem Zje{x:Str}{np cpos pos:Pos}{e₀:Expr}{rest:List Expr}{t:TA}{C:Addr}{B newId initId:String}{bm:List Value}(O:OwnCls x C bm newId mg base)(FB:ExcBaseFacts B newId initId bm)
  (hg:Gl (cxX P w K mg base N qual scope f cd A outer s₀ H₀ E) x) (ha:PA (cxX P w K mg base N qual scope f cd A outer s₀ H₀ E) (e₀::rest) t)
  (he:starEach (e₀::rest) (cxX P w K mg base N qual scope f cd A outer s₀ H₀ E).env=(false,eval e₀ (cxX P w K mg base N qual scope f cd A outer s₀ H₀ E).env)::starEach rest (cxX P w K mg base N qual scope f cd A outer s₀ H₀ E).env:=by rfl)
  (hplain:(backTo cpos (starEach rest (cxX P w K mg base N qual scope f cd A outer s₀ H₀ E).env)).any (·.1)=false:=by rfl) (hdb:(x==("__debug__" :Str))=false:=by decide):
  PS (cxX P w K mg base N qual scope f cd A outer s₀ H₀ E) (.Raise (some (.Call (.Name x np) (e₀::rest) [] cpos)) none pos) (Zfy (.ref C) E t):=by
 intro pins s σ H D I h;obtain⟨tl,N',nm,q,bs,hdct,sn,sub,ab,col,dd,k0,k1,k2,k3,k5,mN,hC,hN,hni,T⟩:=O.obj;refine wpAny_Raise_call_subT (C:=C) (nm:=nm) (q:=q) (N:=N') (bs:=bs) (bm:=tl) (hdct:=hdct) (sn:=sn) (sub:=sub) (ab:=ab) (col:=col) (dd:=dd) (k0:=k0) (k1:=k1) (k2:=k2) (k3:=k3) (k5:=k5)
  FB (mN:=mN) (T.hasType FB.hasBase) (I.ok.hd rfl) (by rw[he];show(false||(backTo cpos (starEach rest (cxX P w K mg base N qual scope f cd A outer s₀ H₀ E).env)).any (·.1))=false;rw[hplain];rfl) hni (ZaV I hg O.bound ⟨rfl,?_⟩ hdb)
 have h':=ha cpos pins s σ H _ I h;rw[he] at h'⊢;refine Calls.evalArgs_plain (thn h' fun us s2 ⟨vs,H2,I2,r,hz,q2⟩=>⟨rfl,by rw[←r.length];exact hz,I2.bk _ _ hC,hN.keeps I2.bk,T.keeps I2.bk,fun h3 e hm=>ZiH I2 hm q2⟩)
end
end L2
namespace L2
open PySem PySem.Spec PyProof.Rows
mutual
inductive Wy(K:PySem.W.Frag)(H:Hp):V→PyData→Prop
 |non:Wy K H .non .none
 |bl (b:Bool):Wy K H (.bl b) (.bool b)
 |int (i:Int):Wy K H (.int i) (.int i)
 |str (x:Str):Wy K H (.str x) (.str x)
 |lst {a:Addr} {xs:List V} {ds:List PyData} (h:SqL K H a xs) (r:WQ K H xs ds):Wy K H (.ref a) (.list ds)
 |tup {a:Addr} {xs:List V} {ds:List PyData} (h:SqT K H a xs) (r:WQ K H xs ds):Wy K H (.ref a) (.tuple ds)
inductive WQ(K:PySem.W.Frag)(H:Hp):List V→List PyData→Prop
 |nil:WQ K H [] []
 |cons {x:V} {d:PyData} {xs:List V} {ds:List PyData} (h:Wy K H x d) (r:WQ K H xs ds):WQ K H (x::xs) (d::ds)
end
theorem WQ.ints{K:PySem.W.Frag}{H:Hp}:∀ns:List Int,WQ K H (ns.map V.int) (ns.map PyData.int)
 | []=> .nil
 |n::ns=> .cons (.int n) (WQ.ints ns)
section
variable {X:Cx}{pins:List (Addr×Obj)}{σ:St}{H:Hp}{s:Shared}
mutual
theorem Wy.reads(I:Inv X pins σ H s):∀{x:V}{d:PyData}{v:Value},Wy X.K H x d→ZG x v→∃as,Reads s.heap v d as
 |_,_,_,.non,r=>by cases (show _=Value.none from r);exact⟨_,.none⟩
 |_,_,_,.bl b,r=>by cases (show _=Value.bool b from r);exact⟨_,.bool b⟩
 |_,_,_,.int i,r=>by obtain⟨t,e⟩:=r;cases e;exact⟨_,.int i t⟩
 |_,_,_,.str x,r=>by obtain⟨t,e⟩:=r;cases e;exact⟨_,.str x t⟩
 |_,_,_,.lst (a:=a) h rs,r=>by
  cases (show _=Value.ref a from r);obtain⟨its,rv,p,hz⟩:=I.list h;obtain⟨o,ho,hc,n,hd⟩:=p.isList;obtain⟨as,q⟩:=WQ.reads I rs rv;exact⟨_,.list ho hc hd (by simpa using q)⟩
 |_,_,_,.tup (a:=a) h rs,r=>by
  cases (show _=Value.ref a from r);obtain⟨its,rv,p,hz⟩:=I.tuple h;obtain⟨o,ho,hc,n,hd⟩:=(show s.heap.IsTuple a its.toArray from p);obtain⟨as,q⟩:=WQ.reads I rs rv;exact⟨_,.tuple ho hc hd (by simpa using q)⟩
theorem WQ.reads(I:Inv X pins σ H s):∀{xs:List V}{ds:List PyData}{vs:List Value},WQ X.K H xs ds→ZF xs vs→∃as,ReadsAll s.heap vs ds as
 |_,_,_,.nil,.nil=>⟨_,.nil⟩
 |_,_,_,.cons h r,.cons q t=>by
  obtain⟨as,e⟩:=Wy.reads I h q;obtain⟨bs,e'⟩:=WQ.reads I r t;exact⟨_,.cons e e'⟩
end
end
noncomputable def ZbE (K:PySem.W.Frag) (neg:Bool):R2:=fun x y H Q=>∃dx dy,Wy K H x dx∧Wy K H y dy∧dx.canLay0=true∧dy.canLay0=true∧dx.depth≤60∧Q (.bl (if neg then !PyData.eqv dx dy else PyData.eqv dx dy)) H
section
variable {X:Cx}
theorem ZlH(hu:X.A.units+64<cLine):OpR X (compareOp .Eq) (ZbE X.K false):=by
 intro pins s σ H x y v u Q I rx ry h;obtain⟨dx,dy,h1,h2,c1,c2,dp,q⟩:=h;obtain⟨as,r1⟩:=h1.reads I rx;obtain⟨bs,r2⟩:=h2.reads I ry;exact SeqAt.compareEq_reads r1 r2 c1 c2 (by have:min dx.depth dy.depth≤dx.depth:=Nat.min_le_left _ _;omega) ⟨.bl _,H,I,rfl,q⟩
theorem Zlc(hu:X.A.units+64<cLine):OpR X (compareOp .NotEq) (ZbE X.K true):=by
 intro pins s σ H x y v u Q I rx ry h;obtain⟨dx,dy,h1,h2,c1,c2,dp,q⟩:=h;obtain⟨as,r1⟩:=h1.reads I rx;obtain⟨bs,r2⟩:=h2.reads I ry;exact SeqAt.compareNe_reads r1 r2 c1 c2 (by have:min dx.depth dy.depth≤dx.depth:=Nat.min_le_left _ _;omega) ⟨.bl _,H,I,rfl,q⟩
end
end L2
namespace L2
open PySem PySem.Spec PyProof.Rows
section
variable {prog:Program}{w:World}{A:Around}{E:Value→Shared→Prop}
variable {s:Shared}
end
section
variable {X:Cx}{pos:Pos}
end
end L2
namespace L2
open PySem PySem.Spec PyProof.Rows
section
variable {P:Program}{w:World}{K:PySem.W.Frag}{mg:Str→Option Value}{base:Heap}
theorem Fun.okX{x qual:Str}{st:Stmt}{f:Addr}{fd:FuncData}{N ps:List Str}{k:Nat}{sp:Sp}(F:Fun K x qual st f fd)(S:Zt N ps (Zi st))(len:∀vs H Q E,sp vs H Q E→vs.length=ps.length)
  (hbody:∀(cdv:Value)(A:Around)(outer:List Env)(s:Shared)(H:Hp)(vs:List V)(Q:VK)(E:XK),YO k (A.deeper (envOfC qual (Zi st) s.heap.objs.size f cdv))→sp vs H Q E→
   ∃t,PSs (cxX P w K mg base N qual (Zi st) f cdv A outer s H E) (WV st) t∧t {nx:=fun _ H'=>Q .non H',rt:=Q} (start N vs) H):Zk P w K mg base (CXX P w) (k+1) f fd ps sp:=by
 obtain⟨oc,od,kV,doc,pm,an,cdv,ct,osl,rfl,lk,hcd⟩:=F.ex;exact ZjY lk hcd S len fun A outer s H vs Q E hr hsp=>hbody cdv A outer s H vs Q E hr hsp
theorem VZ{X:Cx}:VR (CXX X.prog X.w) X E0:=by
 intro pins σ H s e s' I h;obtain⟨ea,cls,a0,H',B,_,_,_,_,_,_,_,z⟩:=h;exact z.elim
end
section
variable {X:Cx}
noncomputable def rOr (r r':R2):R2:=fun x y H Q=>r x y H Q∨r' x y H Q
noncomputable def ZeV:R2:=fun x y H Q=>∃i j,x= .str i∧y= .str j∧i.length+j.length≤sizeLine∧Q (.str (i++j)) H
noncomputable def Zhb:R2:=rI0 fun i j=> .int (i+j)
noncomputable def Zhe:R2:=rI (fun i j=>IntMulOk i j) fun i j=> .int (i*j)
theorem Zkn:OpR X (binaryOp .Add) (rOr Zhb (rOr ZeV (rOr rCat (ZeW X.K)))):=Zlt.or (Zhj.or (Zk5.or Zkv))
theorem YR:OpR X (binaryOp .Mult) (rOr Zhe rRep):=Zkw.or Zlu
theorem Zlk(hu:X.A.units+64<cLine):OpR X (compareOp .Eq) (rOr rEq (ZbE X.K false)):=Zmz.or (ZlH hu)
theorem ZlY(hu:X.A.units+64<cLine):OpR X (compareOp .NotEq) (rOr rNe (ZbE X.K true)):=Zmc.or (Zlc hu)
end
namespace Rd
section
variable {σ:St}{H:Hp}{Q:VK}{D:Vz}{K:PySem.W.Frag}{r':R2}
theorem ZmJ{i j:Int}(q:Q (.int (i+j)) H):rOr Zhb r' (.int i) (.int j) H Q:= .inl ⟨i,j,rfl,rfl,q⟩
theorem ZlW{r1:R2}{i j:Str}(hl:i.length+j.length≤sizeLine)(q:Q (.str (i++j)) H):rOr r1 (rOr ZeV r') (.str i) (.str j) H Q:= .inr (.inl ⟨i,j,rfl,rfl,hl,q⟩)
theorem ZlM{r1 r2:R2}{a b:Addr}{xs ys:List V}(ha:H a=some (.lst xs))(hb:H b=some (.lst ys))(hl:xs.length+ys.length≤sizeLine)(q:∀p,H p=none→Q (.ref p) (upd H p (.lst (xs++ys)))):
  rOr r1 (rOr r2 (rOr rCat r')) (.ref a) (.ref b) H Q:= .inr (.inr (.inl ⟨a,b,xs,ys,rfl,rfl,ha,hb,hl,q⟩))
theorem Znf{i j:Int}(c:IntMulOk i j)(q:Q (.int (i*j)) H):rOr Zhe r' (.int i) (.int j) H Q:= .inl ⟨i,j,rfl,rfl,c,q⟩
theorem Znb{i j:Int}(q:Q (.bl (decide (i=j))) H):rOr rEq r' (.int i) (.int j) H Q:= .inl (eqI q)
theorem ZmQ{i j:Int}(q:Q (.bl (!decide (i=j))) H):rOr rNe r' (.int i) (.int j) H Q:= .inl (neI q)
theorem Znm{i j:Bool}(q:Q (.bl (!(i==j))) H):rOr rNe r' (.bl i) (.bl j) H Q:= .inl ⟨rfl,by rw[ZfM];exact q⟩
theorem Zi8{x y:V}{dx dy:PyData}(hx:Wy K H x dx)(hy:Wy K H y dy)(cx:dx.canLay0=true)(cy:dy.canLay0=true)(dp:dx.depth≤60)(q:Q (.bl (PyData.eqv dx dy)) H):rOr rEq (ZbE K false) x y H Q:=
 .inr ⟨dx,dy,hx,hy,cx,cy,dp,q⟩
theorem Zi3{p:Addr}{xs:List V}{i:Int}{v:V}(h:SqL K H p xs)(e:atI xs i=some v)(q:Q v H):rIx K (.ref p) (.int i) H Q:= .inl (ixl h e q)
theorem ZmX{p:Addr}{xs:List V}{i:Int}{v:V}(h:SqT K H p xs)(e:atI xs i=some v)(q:Q v H):rIx K (.ref p) (.int i) H Q:= .inr (.inl (ixt h e q))
theorem Zm6{C:Nat→Prop}{p:Addr}{xs:List V}(h:SqL K H p xs)(q:C xs.length):∃x n,[V.ref p]=[x]∧Zbl K x H n∧C n:=⟨_,_,rfl,.inl ⟨xs,h,rfl⟩,q⟩
theorem Zmi{C:Nat→Prop}{p:Addr}{xs:List V}(h:SqT K H p xs)(q:C xs.length):∃x n,[V.ref p]=[x]∧Zbl K x H n∧C n:=⟨_,_,rfl,.inr ⟨xs,h,rfl⟩,q⟩
theorem Zm0{C:Nat→Prop}{y:Str}(h:y.length≤sizeLine)(q:C y.length):∃x n,[V.str y]=[x]∧Zbl K x H n∧C n:=⟨_,_,rfl,⟨h,rfl⟩,q⟩
theorem Zmr{i:Nat}{v:V}{σ':St}{Q:St→Hp→Prop}(e:σ.set i (some v)=σ')(h:Q σ' H):UT i v σ H Q:=by
 subst e;exact h
theorem ifP{c A B:Prop}[Decidable c](h:c)(a:A):if decide c=true then A else B:=by rw[decide_eq_true h];exact Zhk a
theorem ifN{c A B:Prop}[Decidable c](h:¬c)(b:B):if decide c=true then A else B:=by rw[decide_eq_false h];exact ZfK b
theorem Zm1{c A B:Prop}[Decidable c](h:c)(b:B):if(!decide c)=true then A else B:=by rw[decide_eq_true h];exact ZfK b
theorem Zm3{b:Bool}{C:Bool→Prop}(q:C b):∃k,Zfo K (.bl b) H k∧C k:=⟨b,rfl,q⟩
end
end Rd
end L2
namespace L2
open PySem PySem.Spec PyProof.Rows
namespace Rd
section
variable {H:Hp}{C:Bool→Prop}{K:PySem.W.Frag}
theorem Zg3{i:Int}(q:C true):∃x n' t b,[V.int i,.ty "int"]=[x,.ty n']∧Wp K H x t∧PySem.W.kitOne K t (.type n')=some b∧C b:=⟨_,_,_,true,rfl,.int i,rfl,q⟩
theorem Zgf{i:Int}(q:C false):∃x n' t b,[V.int i,.ty "bool"]=[x,.ty n']∧Wp K H x t∧PySem.W.kitOne K t (.type n')=some b∧C b:=⟨_,_,_,false,rfl,.int i,rfl,q⟩
theorem Zg7{i:Str}(q:C true):∃x n' t b,[V.str i,.ty "str"]=[x,.ty n']∧Wp K H x t∧PySem.W.kitOne K t (.type n')=some b∧C b:=⟨_,_,_,true,rfl,.str i,rfl,q⟩
theorem Zgg{p:Addr}{xs:List V}(h:H p=some (.lst xs))(q:C true):∃x n' t b,[V.ref p,.ty "list"]=[x,.ty n']∧Wp K H x t∧PySem.W.kitOne K t (.type n')=some b∧C b:=⟨_,_,_,true,rfl,.lst h,rfl,q⟩
theorem ZfN{p:Addr}{xs:List V}(h:H p=some (.tup xs))(q:C true):∃x n' t b,[V.ref p,.ty "tuple"]=[x,.ty n']∧Wp K H x t∧PySem.W.kitOne K t (.type n')=some b∧C b:=⟨_,_,_,true,rfl,.tup h,rfl,q⟩
end
end Rd
end L2
namespace L2
open PySem PySem.Spec PyProof.Rows
noncomputable def ZgF (scX sc:Scope) (N zs:List Str) (ix:List Nat):Bool:=
 decide (sc.kind= .function)&&(sc.names.all fun y=>decide (y.2≠ .cell))&&(sc.names.all fun y=>decide (y.2= .local→sc.names.lookup y.1=some .local))&&
 (sc.names.all fun y=>decide (y.2= .free→scX.names.lookup y.1=some .cell∨scX.names.lookup y.1=some .free))&&(zs.all fun z=>decide (sc.names.lookup z=some .free))&&decide (ix.map (fun j=>N[j]?)=zs.map some)
theorem Yh{X:Cx}{sc:Scope}{x:Str}{zs:List Str}{ix:List Nat}(scX:Scope)(N:List Str)(e1:X.env.scope=scX)(e2:X.N=N)(h:ZgF scX sc N zs ix=true):Y3 X sc x zs ix:=by
 unfold ZgF at h;simp only[Bool.and_eq_true,List.all_eq_true,decide_eq_true_eq] at h;obtain⟨⟨⟨⟨⟨h1,h2⟩,h3⟩,h4⟩,h5⟩,h6⟩:=h;subst e1 e2;exact⟨h1,h2,h3,h4,h5,h6⟩
end L2
namespace L2
open PySem PySem.Spec PyProof.Rows
section
variable {X:Cx}{CX:CXT}{k:Nat}{f C:Addr}{fd:FuncData}{ps:List Str}{sp:Sp}{dvs:List V}{ds:List Value}{E:XK}{J:St→Prop}{x m:Str}{p pos apos:Pos}{e o:Expr}{es:List Expr}{ta:TE}{t:TA}
end
end L2
namespace L2
open PySem PySem.Spec PyProof.Rows
section
variable {K:PySem.W.Frag}{H:Hp}
theorem Wy.ints{p:Addr}{ns:List Int}(h:SqL K H p (ns.map V.int)):Wy K H (.ref p) (.list (ns.map PyData.int)):= .lst h (WQ.ints ns)
namespace Rd
variable {Q:VK}
end Rd
end
end L2
namespace L2
open PySem PySem.Spec PyProof.Rows
structure Walks(J:It)(n:Nat)(f:Nat→V)(H:Hp):Prop where
 go:∀H' i,Zd H H'→i<n→J.go i H'
 yld:∀H' i x H2,Zd H H'→i<n→J.yld i H' x H2→H2=H'∧x=f i
 stop:∀H',Zd H H'→J.stop n H'
theorem VN{lo:Int}{n:Nat}{H:Hp}:Walks (Itr lo n) n (fun i=> .int (lo+i)) H:=⟨fun _ _ _ h=>h,fun _ _ _ _ _ _ h=>h,fun _ _=>Nat.le_refl _⟩
theorem ZT{K:PySem.W.Frag}{a:Addr}{xs:List V}{H:Hp}(h:SqL K H a xs):Walks (Itl K a) xs.length (fun i=>xs.getD i .non) H:=
 ⟨fun H' i e hi=>⟨xs,xs[i],e.seq h,by simp[hi]⟩,fun H' i x H2 e hi y=>⟨y.1,by
  have:=y.2 xs (e.seq h);simp[List.getD,this]⟩,fun H' e=>⟨xs,e.seq h,Nat.le_refl _⟩⟩
theorem WN{J:It}{n:Nat}{f:Nat→V}{H0:Hp}(w:Walks J n f H0){g:TG}{tb:TS}{D:Vz}{σ:St}{H:Hp}(Pv:Nat→St→Hp→Prop)(h0:Pv 0 σ H)(hk:∀i σ H,Pv i σ H→Zd H0 H)
  (hs:∀i σ H,i<n→Pv i σ H→g (f i) σ H fun σ2 H2=>tb {D with nx:=Pv (i+1),ct:=Pv (i+1),bk:=D.nx} σ2 H2) (hd:∀σ H,Pv n σ H→D.nx σ H):
  ∃W:Nat→Nat→St→Hp→Prop,(∃m,W 0 m σ H)∧∀i m σ H,W i m σ H→
   (J.stop i H∧D.nx σ H)∨(J.go i H∧∃N:St→Hp→Prop,(∀σ' H',N σ' H'→∃m',m'<m∧W (i+1) m' σ' H')∧∀x H',J.yld i H x H'→g x σ H' fun σ2 H2=>tb {D with nx:=N,ct:=N,bk:=D.nx} σ2 H2):=by
 refine⟨fun i m σ H=>m=n-i∧i≤n∧Pv i σ H,⟨n,by simp,Nat.zero_le _,h0⟩,?_⟩;rintro i m σ H ⟨rfl,hi,p⟩;have sm:=hk i σ H p
 by_cases hlt:i<n
 ·refine .inr ⟨w.go H i sm hlt,Pv (i+1),fun σ' H' p'=>⟨n-(i+1),by omega,rfl,hlt,p'⟩,fun x H' y=>?_⟩;obtain⟨rfl,rfl⟩:=w.yld H i x H' sm hlt y;exact hs i σ _ hlt p
 ·have e:i=n:=by omega
  subst e;exact .inl ⟨w.stop H sm,hd σ H p⟩
theorem YA{ix:List Nat}{tc:TT}{te:TE}{Q:Addr→Hp→Prop}{σ:St}{H:Hp}{J:It}{n:Nat}{f:Nat→V}(w:Walks J n f H)(hn:n<sizeLine)(c:Nat→Bool)(r:Nat→V)
  (hc:∀i H' (Kc:Bool→Hp→Prop),i<n→Zd H H'→(∀H4,Zd H' H4→Kc (c i) H4)→tc (some (f i)::ix.map fun j=>(σ[j]?).join) H' Kc)
  (he:∀i H' (Kc:VK),i<n→c i=true→Zd H H'→(∀H5,Zd H' H5→Kc (r i) H5)→te (some (f i)::ix.map fun j=>(σ[j]?).join) H' Kc)
  (q:∀p H',H p=none→Zd H H'→H' p=some (.lst (((List.range n).filter c).map r))→Q p H'):
  ∀p,H p=none→∃W:Nat→Nat→List V→St→Hp→Prop,(∃m,W 0 m [] (emb ix σ) (upd H p (.lst [])))∧∀i m ys σ' H',W i m ys σ' H'→
   (J.stop i H'∧Q p H')∨(J.go i H'∧∀x H2,J.yld i H' x H2→UT 0 x σ' H2 fun σ2 H3=>tc σ2 H3 fun b H4=>
    if b=true then te σ2 H4 fun v H5=>H5 p=some (.lst ys)∧ys.length<sizeLine∧∃m',m'<m∧W (i+1) m' (ys++ [v]) σ2 (upd H5 p (.lst (ys++ [v])))
    else ∃m',m'<m∧W (i+1) m' ys σ2 H4):=by
 intro p hp;refine⟨fun i m ys σ' H'=>m=n-i∧i≤n∧(∃a,σ'=a::ix.map fun j=>(σ[j]?).join)∧Zd H H'∧H' p=some (.lst ys)∧ys=((List.range i).filter c).map r,
  ⟨n,by simp,Nat.zero_le _,⟨none,rfl⟩,Zo hp,Ze,rfl⟩,?_⟩
 rintro i m ys σ' H' ⟨rfl,hi,⟨a,rfl⟩,sm,hy,hl⟩
 by_cases hlt:i<n
 ·refine .inr ⟨w.go H' i sm hlt,fun x H2 y=>?_⟩;obtain⟨rfl,rfl⟩:=w.yld H' i x H2 sm hlt y;show tc ((a::ix.map fun j=>(σ[j]?).join).set 0 (some (f i))) H2 _;have hlen:ys.length≤i:=by
   rw[hl,List.length_map];exact Nat.le_trans (List.length_filter_le _ _) (by simp)
  refine hc i H2 _ hlt sm fun H4 s4=>?_;have sm4:=sm.trans s4;have hy4:=s4 _ _ hy;have step:(List.range (i+1)).filter c=(List.range i).filter c++(if c i=true then[i] else[]):=by
   rw[List.range_succ,List.filter_append]
   congr 1
   by_cases h:c i=true<;>simp[h]
  by_cases hci:c i=true
  ·rw[hci,if_pos rfl];refine he i H4 _ hlt hci sm4 fun H5 s5=>⟨s5 _ _ hy4,by omega,n-(i+1),by omega,rfl,hlt,⟨_,rfl⟩,(sm4.trans s5).new hp,Ze,?_⟩;rw[step,if_pos hci,List.map_append,hl]
   rfl
  ·have hcf:c i=false:=by simpa using hci
   rw[hcf,if_neg Bool.false_ne_true];refine⟨n-(i+1),by omega,rfl,hlt,⟨_,rfl⟩,sm4,hy4,?_⟩;rw[step,if_neg hci,List.append_nil,hl]
 ·have e:i=n:=by omega
  subst e;exact .inl ⟨w.stop H' sm,q p H' hp sm (by rw[←hl];exact hy)⟩
end L2
namespace L2
open PySem PySem.Spec PyProof.Rows
structure ZH(A:List Addr)(H H':Hp):Prop where
 keep:∀b o,H b=some o→b∉A→H' b=some o
 tups:∀b xs,H b=some (.tup xs)→H' b=some (.tup xs)
theorem Zd.frame{A:List Addr}{H H':Hp}(e:Zd H H'):ZH A H H':=⟨fun b o h _=>e b o h,fun b xs h=>e b _ h⟩
theorem ZH.refl{A:List Addr}{H:Hp}:ZH A H H:=(Zd.refl H).frame
theorem ZH.trans{A:List Addr}{H H1 H2:Hp}(a:ZH A H H1)(b:ZH A H1 H2):ZH A H H2:=⟨fun c o h n=>b.keep c o (a.keep c o h n) n,fun c xs h=>b.tups c xs (a.tups c xs h)⟩
theorem ZH.mono{A B:List Addr}{H H':Hp}(a:ZH A H H')(h:∀x∈A,x∈B):ZH B H H':=⟨fun c o e n=>a.keep c o e fun z=>n (h c z),a.tups⟩
theorem Yk{A:List Addr}{H:Hp}{p:Addr}{o o':HO}(hp:p∈A)(h:H p=some o)(ht:∀xs,o≠ .tup xs):ZH A H (upd H p o'):=by
 refine⟨fun b u e n=>?_,fun b xs e=>?_⟩
 ·have z:b≠p:=fun z=>n (by rw[z];exact hp);rw[Zg z];exact e
 ·have z:b≠p:=fun z=>ht xs (by rw[z,h] at e;exact Option.some.inj e);rw[Zg z];exact e
def Yz(A A':List Addr)(H:Hp):Prop:=∀a∈A',a∈A∨H a=none
theorem Yz.refl{A:List Addr}{H:Hp}:Yz A A H:=fun _ h=> .inl h
def WF(K:PySem.W.Frag)(H:Hp)(A:List Addr)(a:Addr)(xs:List V):Prop:=
 (Rd H a (.lst xs)∧a∉A)∨∃(o:Obj)(its:Array Value)(n:Nat),K.lookup a=some o∧o.cls= .type "list" ∧o.dict=none∧o.data= .seq its n∧its.size≤sizeLine∧ZF xs its.toList
theorem WF.sq{K:PySem.W.Frag}{H:Hp}{A:List Addr}{a:Addr}{xs:List V}(h:WF K H A a xs):SqL K H a xs:=h.imp And.left id
theorem WF.frame{K:PySem.W.Frag}{H H':Hp}{A:List Addr}{a:Addr}{xs:List V}(h:WF K H A a xs)(f:ZH A H H'):WF K H' A a xs:=by
 rcases h with⟨h|⟨o,h⟩,n⟩|h
 ·exact .inl ⟨.inl (f.keep _ _ h n),n⟩
 ·exact .inl ⟨.inr ⟨o,f.keep _ _ h n⟩,n⟩
 ·exact .inr h
theorem WF.more{K:PySem.W.Frag}{H:Hp}{A A':List Addr}{a:Addr}{xs:List V}(h:WF K H A a xs)(g:Yz A A' H):WF K H A' a xs:=by
 rcases h with⟨h,n⟩|h
 ·refine .inl ⟨h,fun z=>?_⟩;rcases g a z with z|z
  ·exact n z
  ·rcases h with h|⟨o,h⟩<;>(rw[h] at z;cases z)
 ·exact .inr h
theorem WF.sub{K:PySem.W.Frag}{H:Hp}{A A':List Addr}{a:Addr}{xs:List V}(h:WF K H A a xs)(g:∀x∈A',x∈A):WF K H A' a xs:=h.imp (fun⟨h,n⟩=>⟨h,fun z=>n (g a z)⟩) id
theorem SqL.off{K:PySem.W.Frag}{H:Hp}{A:List Addr}{a:Addr}{xs:List V}(h:SqL K H a xs)(g:∀x∈A,H x=none):WF K H A a xs:=by
 rcases h with h|h
 ·refine .inl ⟨h,fun z=>?_⟩;have:=g a z;rcases h with h|⟨o,h⟩<;>(rw[h] at this;cases this)
 ·exact .inr h
section
variable {K:PySem.W.Frag}{H H':Hp}{A A':List Addr}
namespace Rd
variable {Q:VK}
end Rd
end
end L2
namespace L2
open PySem PySem.Spec PyProof.Rows
noncomputable def Its (x:Str):It:=⟨fun i _=>i<x.cps.size,fun i H v H'=>H'=H∧∃c,x.cps[i]? =some c∧v= .str ⟨#[c]⟩,fun i _=>x.cps.size≤i⟩
theorem Zjy{P:Program}{w:World}{K:PySem.W.Frag}{tg:Expr}(it:Addr)(x:Str)(t:Tok)(ty:String)(hty:ty="str_ascii_iterator" ∨ty="str_iterator"):Zbr P w K tg (Its x) [it] it (fun i h=>h.IsStrIter it ty x t i) where
 mem:=by simp
 obj:=fun i h st b hb=>by
  have e:b=it:=by simpa using hb
  subst e;obtain⟨o,e,c,d⟩:=st;exact⟨o,e,fun v z=>by rw[d] at z;cases z⟩
 keep:=fun i h h' st k=>let⟨o,ho,r⟩:=st;⟨o,k it (by simp) o ho,r⟩
 item:=by
  intro X hP hw hK hc i pins s σ H E I hf st hg;subst hP hw hK;obtain⟨f0,f1,f2,f3,f4,f5⟩:=hf it (by simp);have hi:i<x.cps.size:=hg;have fin:∀h':Heap,h'.IsStrIter it ty x t (i+1)→Heap.SameBut it s.heap h'→∃u,some (Value.str ⟨#[x.cps[i]]⟩ s.toks)=some u∧
    wpAny (model X.prog X.w) X.A (letOwnedTupleGo tg (.ref it) u) (fun _ s2=>∃y H',Inv X pins σ H' s2∧ZG y u∧(Its x).yld i H y H'∧s2.heap.IsStrIter it ty x t (i+1)∧∀b∈[it],H' b=none) E {s with heap:=h',toks:=s.toks+1}:=fun h' st' sb=>by
   have I1:Inv X pins σ H {s with heap:=h',toks:=s.toks+1}:=I.turned (t':=s.toks+1) (fun b o hb e=>(sb.2 b hb).trans e) f0 f1 f3 f4 f5;obtain⟨o,e,c,d⟩:=id st';refine⟨_,rfl,ZeX (s:={s with heap:=h',toks:=s.toks+1}) e c d (by rcases hty with rfl|rfl<;>decide) ⟨.str ⟨#[x.cps[i]]⟩,H,I1,⟨_,rfl⟩,⟨rfl,x.cps[i],by simp[hi],rfl⟩,st',fun b hb=>(hf b hb).1⟩⟩
  rcases hty with rfl|rfl
  ·exact wpAny_pyNext_ascii_item st (c:=x.cps[i]) (by simp[hi]) fin
  ·exact wpAny_pyNext_wide_item st (c:=x.cps[i]) (by simp[hi]) fin
 done:=by
  intro X hP hw hK hc i pins s σ H E I hf st hg;subst hP hw hK;obtain⟨f0,f1,f2,f3,f4,f5⟩:=hf it (by simp);have hi:x.cps.size≤i:=hg;rcases hty with rfl|rfl
  ·exact wpAny_pyNext_ascii_end (I.ok.hd hc) st (by simp[hi]) fun h' eb=>⟨rfl,I.turned (t':=s.toks) (fun b o hb e=>eb b o hb e) f0 f1 f3 f4 f5⟩
  ·exact wpAny_pyNext_wide_end (I.ok.hd hc) st (by simp[hi]) fun h' eb=>⟨rfl,I.turned (t':=s.toks) (fun b o hb e=>eb b o hb e) f0 f1 f3 f4 f5⟩
 self:=fun _ _ _ _ _ st h=>by
  rcases hty with rfl|rfl
  ·exact wpAny_pyIter_striter_ascii st h
  ·exact wpAny_pyIter_striter_wide st h
section
variable {X:Cx}{tg:Expr}
noncomputable def Zly (tl:TE):TI:=fun σ H R=>tl σ H fun x H1=>∃y,x= .str y∧R (Its y) H1
theorem Zk9{l:Expr}{tl:TE}(hl:PE X l tl):PI X tg l (Zly tl):=by
 intro pins s σ H R I h;refine thn (hl pins s σ H _ I h) fun v s1 ⟨x,H1,I1,r1,q1⟩=>?_;obtain⟨y,e,q⟩:=q1;subst e;obtain⟨t,rfl⟩:=r1;have fin:∀ty:String,(ty="str_ascii_iterator" ∨ty="str_iterator")→PIE X pins σ tg R (.ref s1.heap.objs.size) {s1 with heap:=s1.heap.push {cls:= .type ty,data:= .fields #[.str y t,.int 0 0]}}:=fun ty hty=>by
  refine⟨s1.heap.objs.size,[s1.heap.objs.size],_,_,H1,rfl,I1.kept (t':=s1.toks) fun b o e=>Heap.get?_push_of_some _ e,Zjy _ y t ty hty,⟨_,Heap.get?_push_size _ rfl,rfl,rfl⟩,fun b hb=>?_,q⟩;have e:b=s1.heap.objs.size:=by simpa using hb
  subst e;exact I1.fpOk (Nat.le_refl _) (I1.hok.fresh (Nat.le_refl _))
 cases ha:y.cps.all (· <128)
 ·exact wpAny_pyIter_wide ha (fin _ (.inr rfl))
 ·exact wpAny_pyIter_ascii ha (fin _ (.inl rfl))
theorem ZiJ{x:Str}{H:Hp}:Walks (Its x) x.cps.size (fun i=> .str ⟨#[x.cps.getD i 0]⟩) H:=
 ⟨fun _ _ _ h=>h,fun H' i v H2 _ hi ⟨e,c,hc,hv⟩=>⟨e,by rw[hv];simp[Array.getD,hi] at hc⊢;exact hc.symm⟩,fun _ _=>Nat.le_refl _⟩
noncomputable def rLeS:R2:=fun x y H Q=>∃i j,x= .str i∧y= .str j∧Q (.bl (!decide (j.cps.toList<i.cps.toList))) H
theorem Zeu:OpR X (compareOp .LtE) rLeS:=by
 intro pins s σ H x y v u Q I rx ry h;obtain⟨i,j,rfl,rfl,q⟩:=h;obtain⟨t,rfl⟩:=rx;obtain⟨t',rfl⟩:=ry;exact PySem.P.le_str ⟨.bl _,H,I,rfl,q⟩
theorem Zbn{s:Shared}:∀{bs:List Bool}{us:List Value},ZF (bs.map V.bl) us→us=bs.map Value.bool
 | [],_,r=>by cases r;rfl
 |b::bs,_,r=>by
  cases r with
  |cons r1 r2=>
   have e:_=Value.bool b:=r1;rw[e,Zbn (s:=s) r2]
   rfl
theorem ZgP{s:Shared}{h':Heap}{o:Obj}(hk:∀b x,b∉[s.heap.objs.size]→(s.heap.push o).get? b=some x→h'.get? b=some x):∀b x,s.heap.get? b=some x→h'.get? b=some x:=
 fun b x e=>hk b x (fun hm=>by rw[List.mem_singleton.mp hm] at e;exact Nat.lt_irrefl _ (Heap.lt_size e)) (Heap.get?_push_of_some _ e)
theorem ZhF(bs:List Bool):((List.range bs.length).all fun i=>(bs[i]?).getD true)=bs.all id:=by
 rw[Bool.eq_iff_iff,List.all_eq_true,List.all_eq_true]
 constructor
 ·intro h b hb;obtain⟨i,hi,rfl⟩:=List.getElem_of_mem hb;have:=h i (List.mem_range.mpr hi);simpa[List.getElem?_eq_getElem hi] using this
 ·intro h i hi;have hi':=List.mem_range.mp hi;simp only[List.getElem?_eq_getElem hi',Option.getD_some];exact h _ (List.getElem_mem hi')
theorem Zh7(hc:X.calm=true):Wl X (.builtin "all") (fun xs H Q=>∃(p:Addr)(bs:List Bool),xs=[.ref p]∧SqL X.K H p (bs.map V.bl)∧Q (.bl (bs.all id)) H):=by
 intro pins s σ H xs us Q I r h;obtain⟨p,bs,rfl,hq,q⟩:=h;obtain⟨u,rfl,rx⟩:=Ve r;cases rx;obtain⟨its,rv,pl,hz⟩:=I.list hq;have ev:=Zbn (s:=s) rv;subst ev;have hl:=pl.isList;have hlt:p<s.heap.objs.size:=by obtain⟨_,e,_⟩:=hl;exact Heap.lt_size e
 refine call_all_walk (wpAny_pyIter_list hl ?_);refine⟨s.heap.objs.size,[s.heap.objs.size,p],[s.heap.objs.size],(bs.map Value.bool).toArray.size,_,_,fun i=>(bs[i]?).getD true,rfl,PySem.Walks.list (A:=X.A.in1) (I.ok.hd hc) _ p (Nat.ne_of_lt hlt) (bs.map Value.bool).toArray,
  ⟨⟨_,Heap.get?_push_size _ rfl,rfl,rfl⟩,hl.push _⟩,fun i v s' Q' E' hP hQ=>?_,fun h' tk hk=>?_⟩
 ·have hP':(bs.map Value.bool)[i]? =some v:=by simpa using hP
  rw[List.getElem?_map] at hP';cases e:bs[i]? with
  |none=>rw[e] at hP';cases hP'
  |some b=>
   rw[e] at hP';cases hP';have hQ':Q' ((bs[i]?).getD true) s':=hQ;rw[e] at hQ';exact wpAny_truthy_bool hQ'
 ·have e:((List.range (bs.map Value.bool).toArray.size).all fun i=>(bs[i]?).getD true)=bs.all id:=by
   rw[List.size_toArray,List.length_map];exact ZhF bs
  rw[e];exact⟨.bl (bs.all id),H,I.kept (ZgP hk),rfl,q⟩
theorem Zh1(hc:X.calm=true):Wl X (.builtin "sum") (fun xs H Q=>∃(p:Addr)(ns:List Int),xs=[.ref p]∧SqL X.K H p (ns.map V.int)∧Q (.int ns.sum) H):=by
 intro pins s σ H xs us Q I r h;obtain⟨p,ns,rfl,hq,q⟩:=h;obtain⟨u,rfl,rx⟩:=Ve r;cases rx;obtain⟨its,rv,pl,hz⟩:=I.list hq;have hi:=Zbs rv;obtain⟨xs,hx⟩:=hi.allInts.items;have hl':s.heap.IsList p (intItems xs):=hx▸pl.isList;refine sum_intListG (I.ok.hd hc) hl' fun h' tk t' hk=>?_;have e1:ns=xs.toList.map (·.1):=by
  rw[←nums_intItems,←hx];exact(show numsOf its.toArray.toList=ns from hi.numsOf).symm
 have e2:preSum (numAt xs) xs.size=ns.sum:=by
  rw[preSum_eq,List.take_of_length_le (by simp),e1]
 rw[e2];exact⟨.int ns.sum,H,I.kept hk,⟨_,rfl⟩,q⟩
end
end L2
namespace L2
open PySem PySem.Spec PyProof.Rows
structure Zhp(K:PySem.W.Frag)(x qual:Str)(st:Stmt)(dT:Addr)(f:Addr)(fd:FuncData):Prop where
 ex:∃(oc:Value)(od:Option Addr)(kV doc pm:Value)(an:Option Addr)(cdv ct:Value)(osl:Array (Option Value)),
  fd=PySem.W.fnOf x qual (VM st) (WV st) (Zi st) (.ref dT) kV doc pm an cdv ct∧K.lookup f=some ⟨oc,od,.func fd,osl⟩∧PySem.W.codeIn K cdv qual=true
 kp:PySem.W.keepIn K (.ref f)=true
section
variable {P:Program}{w:World}{K:PySem.W.Frag}{mg:Str→Option Value}{base:Heap}
theorem Zhp.okX{x qual:Str}{st:Stmt}{dT f:Addr}{fd:FuncData}{N ps:List Str}{k:Nat}{sp:Sp}(F:Zhp K x qual st dT f fd)(S:Zt N ps (Zi st))(len:∀vs H Q E,sp vs H Q E→vs.length=ps.length)
  (hbody:∀(cdv:Value)(A:Around)(outer:List Env)(s:Shared)(H:Hp)(vs:List V)(Q:VK)(E:XK),YO k (A.deeper (envOfC qual (Zi st) s.heap.objs.size f cdv))→sp vs H Q E→
   ∃t,PSs (cxX P w K mg base N qual (Zi st) f cdv A outer s H E) (WV st) t∧t {nx:=fun _ H'=>Q .non H',rt:=Q} (start N vs) H):Zk P w K mg base (CXX P w) (k+1) f fd ps sp:=by
 obtain⟨oc,od,kV,doc,pm,an,cdv,ct,osl,rfl,lk,hcd⟩:=F.ex;exact ZjY lk hcd S len fun A outer s H vs Q E hr hsp=>hbody cdv A outer s H vs Q E hr hsp
theorem Zkk{x qual:Str}{st:Stmt}{dT f:Addr}{oc:Value}{od an:Option Addr}{osl:Array (Option Value)}{kV doc pm cdv ct:Value}(l:K.lookup f=some ⟨oc,od,.func (PySem.W.fnOf x qual (VM st) (WV st) (Zi st) (.ref dT) kV doc pm an cdv ct),osl⟩)
  (c:PySem.W.codeIn K cdv qual=true) (k:PySem.W.keepIn K (.ref f)=true):Zhp K x qual st dT f (PySem.W.fnOf x qual (VM st) (WV st) (Zi st) (.ref dT) kV doc pm an cdv ct):=⟨⟨oc,od,kV,doc,pm,an,cdv,ct,osl,rfl,l,c⟩,k⟩
theorem Zlm{h₀:Heap}{x:Str}{C:Addr}{bmB:List Value}{newId:String}(X:K.In h₀)(g:h₀.Ns mainGlobals mg)(e:PySem.W.nsIn K mainGlobals x=some (some (.ref C)))(q:PySem.W.excIn K C bmB newId=true):OwnCls x C bmB newId mg h₀:=by
 refine⟨PySem.W.mg_of X g e,?_⟩;unfold PySem.W.excIn at q
 split at q
 ·rename_i dd cd sl ho
  split at q
  ·rename_i C' bm k0 k1 k2 k3 n k5 hm hs;simp only[Bool.and_eq_true,beq_iff_eq,Bool.not_eq_true'] at q;obtain⟨⟨⟨⟨⟨rfl,rfl⟩,hdel⟩,ht⟩,hok⟩,hni⟩:=q;obtain⟨nm,bs,mro,ns,qn,hd,sn,sub,ab,col,del⟩:=cd;dsimp only at hm hdel hok hni;subst hm hdel;have hsl:sl=#[k0,k1,k2,k3,some (.builtin n),k5]:=by
    obtain⟨l⟩:=sl;simp only at hs;rw[hs]
   subst hsl;exact⟨bm,ns,nm,qn,bs,hd,sn,sub,ab,col,dd,k0,k1,k2,k3,k5,_,X _ _ ho,.of_isNs (PySem.W.isNs_of_in X hok),PySem.W.nsMap_none_of_in X hok hni,PySem.W.tail_of_in X ht⟩
  ·cases q
 ·cases q
section
variable {N:List Str}{qual:Str}{scope:Scope}{f:Addr}{cd:Value}{A:Around}{outer:List Env}{s₀:Shared}{H₀:Hp}{E:XK}
theorem Y2{x:Str}{np cpos pos:Pos}{e₀:Expr}{rest:List Expr}{t:TA}{C:Addr}{B newId initId:String}{bm:List Value}(e:PySem.W.nsIn K mainGlobals x=some (some (.ref C)))(q:PySem.W.excIn K C bm newId=true)(FB:ExcBaseFacts B newId initId bm)
  (hg:Gl (cxX P w K mg base N qual scope f cd A outer s₀ H₀ E) x) (ha:PA (cxX P w K mg base N qual scope f cd A outer s₀ H₀ E) (e₀::rest) t)
  (he:starEach (e₀::rest) (cxX P w K mg base N qual scope f cd A outer s₀ H₀ E).env=(false,eval e₀ (cxX P w K mg base N qual scope f cd A outer s₀ H₀ E).env)::starEach rest (cxX P w K mg base N qual scope f cd A outer s₀ H₀ E).env:=by rfl)
  (hplain:(backTo cpos (starEach rest (cxX P w K mg base N qual scope f cd A outer s₀ H₀ E).env)).any (·.1)=false:=by rfl) (hdb:(x==("__debug__" :Str))=false:=by decide):
  PS (cxX P w K mg base N qual scope f cd A outer s₀ H₀ E) (.Raise (some (.Call (.Name x np) (e₀::rest) [] cpos)) none pos) (Zfy (.ref C) E t):=by
 intro pins s σ H D I h;exact Zje (Zlm I.ok.mod.kin I.ok.mod.glob e q) FB hg ha he hplain hdb pins s σ H D I h
end
end
section
variable {X:Cx}
noncomputable def rSlS:V→Option Int→Option Int→Hp→VK→Prop:=fun x lo hi H Q=>∃z,x= .str z∧z.length≤sizeLine∧Q (.str (Txt.slice z lo hi)) H
theorem Zk4:SlR X rSlS:=by
 intro pins s σ H x v vl vu lo hi sl Q I rx hs pl pu h;obtain⟨z,rfl,hz,q⟩:=h;obtain⟨t,rfl⟩:=rx;refine⟨"str",_,F.slot_str_getitem.lookup,typeIs_str _ _ _,?_⟩;have fin:∀l u:Option (Int×Tok),l.map (·.1)=lo→u.map (·.1)=hi→partValue l=vl→partValue u=vu→wpAny (model X.prog X.w) X.A (getItem (.str z t) (.ref sl)) (EP X pins σ Q) X.xe s:=fun l u e1 e2 e3 e4=>by
  obtain⟨o,ho,hc,hd⟩:=hs;subst e1 e2 e3 e4;exact wpAny_getItem_str_slice (l:=l) (u:=u) (st:=none) ⟨o,ho,hc,hd⟩ rfl (post_val_or_str ⟨Nat.le_trans (Txt.slice_le z _ _) hz,fun t' k=>⟨.str _,H,I.tok k,⟨_,rfl⟩,q⟩⟩)
 cases pl with
 |none=>
  cases pu with
  |none=>exact fin none none rfl rfl rfl rfl
  |int j t'=>exact fin none (some (j,t')) rfl rfl rfl rfl
 |int i ti=>
  cases pu with
  |none=>exact fin (some (i,ti)) none rfl rfl rfl rfl
  |int j t'=>exact fin (some (i,ti)) (some (j,t')) rfl rfl rfl rfl
noncomputable def ZdY (K:PySem.W.Frag):V→Option Int→Option Int→Hp→VK→Prop:=fun x lo hi H Q=>ZlL K x lo hi H Q∨(Zk2 K x lo hi H Q∨rSlS x lo hi H Q)
theorem Znn:SlR X (ZdY X.K):=ZkQ.or (Zlg.or Zk4)
end
structure ZaZ(K:PySem.W.Frag)(C:Addr)(fs:List Str):Prop where
 out:∀f∈fs,Wm K C f
theorem ZaZ.get{K:PySem.W.Frag}{C:Addr}{fs:List Str}{f:Str}(h:ZaZ K C fs)(m:fs.contains f=true):Wm K C f:=h.out f (by simpa using m)
namespace Rd
section
variable {σ:St}{H:Hp}{Q:VK}{D:Vz}{K:PySem.W.Frag}
theorem slS{z:Str}{lo hi:Option Int}(h:z.length≤sizeLine)(q:Q (.str (Txt.slice z lo hi)) H):ZdY K (.str z) lo hi H Q:= .inr (.inr ⟨z,rfl,h,q⟩)
theorem slL{a:Addr}{xs:List V}{lo hi:Option Int}(h:SqL K H a xs)(q:∀p,H p=none→Q (.ref p) (upd H p (.lst (Uf xs lo hi)))):ZdY K (.ref a) lo hi H Q:= .inl ⟨a,xs,rfl,h,q⟩
theorem sl{r:V→Option Int→Option Int→Hp→VK→Prop}{te:TE}{tl th:TO}(h:te σ H fun x H1=>tl σ H1 fun l H2=>th σ H2 fun u H3=>r x l u H3 Q):tSl r te tl th σ H Q:=h
theorem Zlz{Q:Option Int→Hp→Prop}(h:Q none H):tNoPart σ H Q:=h
theorem Zne{te:TE}{Q:Option Int→Hp→Prop}(h:te σ H fun x H1=>∃i,x= .int i∧Q (some i) H1):Zj3 te σ H Q:=h
theorem Zl7{i:Int}{C:Int→Prop}(h:C i):∃j,V.int i= .int j∧C j:=⟨i,rfl,h⟩
theorem ZmP{ta:TE}{f:Str}(h:ta σ H fun x H1=>∃a C dx fs v,x= .ref a∧H1 a=some (.ins C dx fs)∧Cls K C∧Wm K C f∧fs.lookup f=some v∧Q v H1):Zjs K ta f σ H Q:=h
theorem fld{a C dx:Addr}{fs:List (Str×V)}{f:Str}{v:V}{G:V→Prop}(h:H a=some (.ins C dx fs))(c:Cls K C)(n:Wm K C f)(l:fs.lookup f=some v)(q:G v):
  ∃a' C dx fs v,V.ref a= .ref a'∧H a'=some (.ins C dx fs)∧Cls K C∧Wm K C f∧fs.lookup f=some v∧G v:=⟨a,C,dx,fs,v,rfl,h,c,n,l,q⟩
theorem Zmv{C:Addr}{m:Str}{sp:Sp}{dvs:List V}{E:XK}{ta:TE}{t:TA}(h:ta σ H fun x H1=>∃a dx fs,x= .ref a∧H1 a=some (.ins C dx fs)∧fs.lookup m=none∧t σ H1 fun vs H2=>sp (x::(vs++dvs)) H2 Q E):ZgW C m sp dvs E ta t σ H Q:=h
theorem Zl5{C:Addr}{sp:Sp}{dvs:List V}{E:XK}{t:TA}(h:t σ H fun vs H1=>∀x dx,H1 x=none→H1 dx=none→dx≠x→
  sp (.ref x::(vs++dvs)) (upd (upd H1 dx (.own x)) x (.ins C dx [])) (fun v H2=>v= .non∧Q (.ref x) H2) E):ZhD C sp dvs E t σ H Q:=h
theorem ZmS{ta tv:TE}{f:Str}(h:tv σ H fun y H1=>ta σ H1 fun x H2=>∃a C dx fs,x= .ref a∧H2 a=some (.ins C dx fs)∧Cls K C∧Wm K C f∧fs.length<1000∧D.nx σ (upd H2 a (.ins C dx (Y8 f y fs)))):Zju K ta tv f D σ H:=h
theorem Zmo{a C dx:Addr}{fs fs':List (Str×V)}{f:Str}{y:V}(h:H a=some (.ins C dx fs))(c:Cls K C)(n:Wm K C f)(l:fs.length<1000)(e:Y8 f y fs=fs')(q:D.nx σ (upd H a (.ins C dx fs'))):
  ∃a' C dx fs,V.ref a= .ref a'∧H a'=some (.ins C dx fs)∧Cls K C∧Wm K C f∧fs.length<1000∧D.nx σ (upd H a' (.ins C dx (Y8 f y fs))):=⟨a,C,dx,fs,rfl,h,c,n,l,by rw[e];exact q⟩
theorem Zmj{cls:Value}{E:XK}{t:TA}(h:t σ H fun vs H1=>vs.length≤sizeLine∧E cls none H1):Zfy cls E t D σ H:=h
theorem ZkW{v:V}{G:Prop}(q:G):[v].length≤sizeLine∧G:=⟨by show 1≤sizeLine;decide,q⟩
theorem Zmm{te:TE}{R:It→Hp→Prop}(h:te σ H fun x H1=>∃a,x= .ref a∧(∃xs,SqL K H1 a xs)∧R (Itl K a) H1):Zhc K te σ H R:=h
theorem ZmN{te:TE}{R:It→Hp→Prop}(h:te σ H fun x H1=>∃y,x= .str y∧R (Its y) H1):Zly te σ H R:=h
theorem Zmf{y:Str}{G:Str→Prop}(h:G y):∃z,V.str y= .str z∧G z:=⟨y,rfl,h⟩
theorem ZmB{ix:List Nat}{wi:TI}{g:TG}{tc:TT}{te:TE}(h:wi σ H fun J H1=>∀p,H1 p=none→
 ∃W:Nat→Nat→List V→St→Hp→Prop,(∃m,W 0 m [] (emb ix σ) (upd H1 p (.lst [])))∧∀i m ys σ' H',W i m ys σ' H'→
  (J.stop i H'∧Q (.ref p) H')∨(J.go i H'∧∀x H2,J.yld i H' x H2→g x σ' H2 fun σ2 H3=>tc σ2 H3 fun b H4=>
   if b=true then te σ2 H4 fun v H5=>H5 p=some (.lst ys)∧ys.length<sizeLine∧∃m',m'<m∧W (i+1) m' (ys++ [v]) σ2 (upd H5 p (.lst (ys++ [v])))
   else ∃m',m'<m∧W (i+1) m' ys σ2 H4)):Zhw ix wi g tc te σ H Q:=h
theorem Zm8{Q:Bool→Hp→Prop}(h:Q true H):tAll σ H Q:=h
theorem lk0{f:Str}{v:V}{r:List (Str×V)}:((f,v)::r).lookup f=some v:=by simp
theorem lk1{f g:Str}{v:V}{o:Option V}{r:List (Str×V)}(n:(f==g)=false)(h:r.lookup f=o):((g,v)::r).lookup f=o:=by rw[List.lookup_cons,n];exact h
theorem lkN{f:Str}:([]:List (Str×V)).lookup f=none:=rfl
theorem pf1{f g:Str}{v x:V}{r r':List (Str×V)}(n:(g==f)=false)(h:Y8 f v r=r'):Y8 f v ((g,x)::r)=(g,x)::r':=by
 have:¬g=f:=by simpa using n
 simp[Y8,this,h]
theorem pfN{f:Str}{v:V}:Y8 f v []=[(f,v)]:=rfl
end
end Rd
end L2
namespace L2
open PySem PySem.Spec PyProof.Rows
theorem ZgS(x:Int)(ys:List Int):inV (.int x) (ys.map V.int)=decide (x∈ys):=by
 induction ys with
 |nil=>rfl
 |cons y ys ih=>
  have e:inV (.int x) ((y::ys).map V.int)=(eqV (.int y) (.int x)||inV (.int x) (ys.map V.int)):=rfl;rw[e,ih];show((y==x)||decide (x∈ys))=decide (x∈y::ys)
  by_cases h:x=y
  ·subst h;simp
  ·have:(y==x)=false:=by simpa using fun z=>h z.symm
   rw[this];simp[h]
theorem Zed(ys:List Int):(ys.map V.int).all Uv=true:=by
 rw[List.all_map,List.all_eq_true];intro _ _
 rfl
namespace Rd
section
variable {H:Hp}{Q:VK}{K:PySem.W.Frag}
theorem inI{p:Addr}{x:Int}{ys:List Int}(h:SqL K H p (ys.map V.int))(q:Q (.bl (decide (x∈ys))) H):rIn K false (.int x) (.ref p) H Q:=⟨p,_,rfl,.inl h,rfl,Zed ys,by rw[ZgS];exact q⟩
theorem Zm9{p:Addr}{x:Int}{ys:List Int}(h:SqL K H p (ys.map V.int))(q:Q (.bl (!decide (x∈ys))) H):rIn K true (.int x) (.ref p) H Q:=⟨p,_,rfl,.inl h,rfl,Zed ys,by rw[ZgS];exact q⟩
theorem ifD{c A B:Prop}[Decidable c](a:c→A)(b:¬c→B):if decide c=true then A else B:=by
 by_cases h:c
 ·exact ifP h (a h)
 ·exact ifN h (b h)
theorem ZmG{p:Addr}{bs:List Bool}{G:List Bool→Prop}(h:SqL K H p (bs.map V.bl))(q:G bs):∃(p':Addr)(bs':List Bool),[V.ref p]=[.ref p']∧SqL K H p' (bs'.map V.bl)∧G bs':=⟨p,bs,rfl,h,q⟩
theorem leS{x y:Str}(q:Q (.bl (!decide (y.cps.toList<x.cps.toList))) H):rLeS (.str x) (.str y) H Q:=⟨x,y,rfl,rfl,q⟩
theorem Zmy{σ:St}{r r':R2}{ta tb tc:TE}(h:ta σ H fun x H1=>tb σ H1 fun y H2=>r x y H2 fun z H3=>∃k,z= .bl k∧(if k=true then tc σ H3 fun w' H4=>r' y w' H4 Q else Q (.bl false) H3)):Ziq r r' ta tb tc σ H Q:=h
end
end Rd
end L2
namespace L2
open PySem PySem.Spec PyProof.Rows
theorem WF.step{K:PySem.W.Frag}{H H':Hp}{A A':List Addr}{a:Addr}{xs:List V}(h:WF K H A a xs)(f:ZH A H H')(g:Yz A A' H):WF K H' A' a xs:=by
 have h1:=h.more (A':=A++A') fun a z=>(List.mem_append.mp z).elim .inl (g a);exact(h1.frame (f.mono fun a z=>List.mem_append_left _ z)).sub fun a z=>List.mem_append_right _ z
theorem Yz.off{A A':List Addr}{H:Hp}{q:Addr}(g:Yz A A' H)(n:q∉A)(h:H q≠none):q∉A':=fun z=>(g q z).elim n h
namespace Rd
section
variable {H:Hp}{Q:VK}{K:PySem.W.Frag}
theorem Zna{z:Str}{i:Int}{c:Nat}(h:z.length≤sizeLine)(e:atI z.cps.toList i=some c)(q:Q (.str ⟨#[c]⟩) H):rIx K (.str z) (.int i) H Q:= .inr (.inr ⟨z,i,c,rfl,rfl,h,e,q⟩)
theorem Zls{a:Addr}{xs:List V}{G:Addr→Prop}(h:SqL K H a xs)(q:G a):∃a',V.ref a= .ref a'∧(∃xs,SqL K H a' xs)∧G a':=⟨a,rfl,⟨xs,h⟩,q⟩
theorem Zmb{j:Int}{G:Int→Prop}(h1: -(2 ^ 62)≤j)(h2:j<2 ^ 62)(q:G j):∃k,[V.int j]=[.int k]∧ -(2 ^ 62)≤k∧k<2 ^ 62∧G k:=⟨j,rfl,h1,h2,q⟩
end
end Rd
end L2
namespace L2
open PySem PySem.Spec PyProof.Rows
noncomputable def hid (H:Hp) (r:Addr):Hp:=fun b=>if b=r then none else H b
theorem Zc7{H:Hp}{r:Addr}:hid H r r=none:=by unfold hid;rw[if_pos rfl]
theorem ZaU{H:Hp}{r b:Addr}(h:b≠r):hid H r b=H b:=by unfold hid;rw[if_neg h]
theorem VD{H:Hp}{r:Addr}:Zd (hid H r) H:=fun b o e=>by
 by_cases h:b=r
 ·rw[h,Zc7] at e;cases e
 ·rw[ZaU h] at e;exact e
end L2
namespace L2
open PySem PySem.Spec PyProof.Rows
theorem Zff:∀ns:List Int,PyData.canLayAll0 (ns.map PyData.int)=true
 | []=>by simp[PyData.canLayAll0]
 |n::ns=>by
  have:=Zff ns;simp[PyData.canLayAll0,PyData.canLay0] at this⊢;exact this
theorem Zaz(ns:List Int):(PyData.list (ns.map PyData.int)).canLay0=true:=by
 have:=Zff ns;simp[PyData.canLay0];simpa using this
theorem ZdK:∀ns:List Int,PyData.depthAll (ns.map PyData.int)≤1
 | []=>by simp[PyData.depthAll]
 |n::ns=>by
  have:=ZdK ns;simp[PyData.depthAll,PyData.depth] at this⊢;exact this
theorem ZcB(ns:List Int):(PyData.list (ns.map PyData.int)).depth≤60:=by
 have:=ZdK ns;simp only[PyData.depth];omega
end L2
namespace L2
open PySem PySem.Spec PyProof.Rows
namespace Rd
section
variable {H:Hp}{Q:VK}{K:PySem.W.Frag}
theorem Zid{p q:Addr}{ns:List Int}(h1:SqL K H p (ns.map V.int))(h2:SqL K H q (ns.map V.int))(k:Q (.bl true) H):rOr rEq (ZbE K false) (.ref p) (.ref q) H Q:=
 Zi8 (Wy.ints h1) (Wy.ints h2) (Zaz ns) (Zaz ns) (ZcB ns) (by rw[SeqAt.eqv_refl _ (Zaz ns)];exact k)
end
end Rd
end L2
namespace L2
open PySem PySem.Spec PyProof.Rows
namespace Rd
section
variable {σ:St}{H:Hp}{Q:VK}{K:PySem.W.Frag}{J:St→Prop}{E:XK}{sp:Sp}{dvs:List V}{t:TA}{ta:TE}
end
end Rd
end L2
namespace L2
open PySem PySem.Spec PyProof.Rows
namespace Rd
section
variable {σ:St}{H:Hp}
theorem ZmK{to ti:TE}{t:ZcX}{v:V}{Q:St→Hp→Prop}(h:to σ H fun o H1=>ti σ H1 fun i H2=>t o i v H2 fun H3=>Q σ H3):Zlf to ti t v σ H Q:=h
theorem Zni{p:Addr}{xs:List V}{k:Int}{v:V}{Q:Hp→Prop}(hp:H p=some (.lst xs))(h0:0≤k)(h1:k<xs.length)(q:Q (upd H p (.lst (xs.set k.toNat v)))):rSetL (.ref p) (.int k) v H Q:=
 ⟨p,xs,k,k.toNat,rfl,rfl,hp,by unfold ixN;rw[if_pos h0,if_pos h1],q⟩
end
end Rd
section
variable {X hs:List Int}{i:Nat}{v u:Int}
end
end L2
namespace L2
open PySem PySem.Spec PyProof.Rows
noncomputable def only(q:Addr) (o:HO):Hp:=fun a=>if a=q then some o else none
theorem ZaB{q:Addr}{o:HO}:only q o q=some o:=by unfold only;rw[if_pos rfl]
theorem ZaF{q:Addr}{o:HO}{H:Hp}(h:H q=some o):Zd (only q o) H:=fun b x e=>by
 unfold only at e
 by_cases c:b=q
 ·rw[if_pos c] at e;rw[c];cases e;exact h
 ·rw[if_neg c] at e;cases e
end L2
namespace L2
open PySem PySem.Spec PyProof.Rows
section
variable {X:Cx}{K:PySem.W.Frag}
theorem Z6(e:X.K=K):OpR X (binaryOp .Add) (rOr Zhb (rOr ZeV (rOr rCat (ZeW K)))):=e▸Zkn
theorem Wc(e:X.K=K)(hu:X.A.units+64<cLine):OpR X (compareOp .Eq) (rOr rEq (ZbE K false)):=e▸Zlk hu
theorem UG(e:X.K=K)(hu:X.A.units+64<cLine):OpR X (compareOp .NotEq) (rOr rNe (ZbE K true)):=e▸ZlY hu
theorem Zq(e:X.K=K):IxR X (rIx K):=e▸ZlE
theorem ZjI(e:X.K=K):SlR X (ZdY K):=e▸Znn
noncomputable def Zli (K:PySem.W.Frag):List V→Hp→VK→Prop:=fun xs H Q=>∃x n,xs=[x]∧Zbl K x H n∧Q (.int n) H
theorem Ya(e:X.K=K):Wl X (.builtin "len") (Zli K):=e▸ZjJ
theorem ZjO(e:X.K=K):OpR X (compareOp .In) (rIn K false):=e▸ZiM
theorem ZgO(e:X.K=K):OpR X (compareOp .NotIn) (rIn K true):=e▸ZeZ
theorem ZZ{e:Expr}{ta:TE}{f:Str}{pos:Pos}(ek:X.K=K)(he:PE X e ta)(hb:attributeBase e f X.env (eval e X.env)=eval e X.env):PE X (.Attribute e f pos) (Zjs K ta f):=ek▸ZlS he hb
theorem Ul{o value:Expr}{ta tv:TE}{f:Str}{pos pos':Pos}(ek:X.K=K)(ha:PE X o ta)(hv:PE X value tv)(hs:swapsWith value (some (.Attribute o f pos')) pos.line X.env=pure false):
  PS X (.Assign [.Attribute o f pos'] value pos) (Zju K ta tv f):=ek▸ZlG ha hv hs
theorem Z0{tg l:Expr}{tl:TE}(ek:X.K=K)(hl:PE X l tl):PI X tg l (Zhc K tl):=ek▸Zkt hl
noncomputable def Zlx (K:PySem.W.Frag) (ta:TE):TT:=fun σ H Q=>ta σ H fun x H'=>∃k,Zfo K x H' k∧Q k H'
theorem Yr{a:Expr}{ta:TE}(ek:X.K=K)(ha:PE X a ta)(he:∀whole,isTrue a X.env whole=(do let v←whole;standAt a.pos;holding [v] (truthy v))):PT X a (Zlx K ta):=ek▸ZjA ha he
noncomputable def Zld (K:PySem.W.Frag):List V→Hp→VK→Prop:=fun xs H Q=>∃x n t b,xs=[x,.ty n]∧Wp K H x t∧PySem.W.kitOne K t (.type n)=some b∧Q (.bl b) H
theorem Za9(e:X.K=K):Wl X (.builtin "isinstance") (Zld K):=e▸Zf6
noncomputable def ZgN (K:PySem.W.Frag):List V→Hp→VK→Prop:=fun xs H Q=>∃p ys,xs=[.ref p]∧(SqL K H p ys∨SqT K H p ys)∧∀l,H l=none→Q (.ref l) (upd H l (.lst ys))
theorem VC(e:X.K=K):Wl X (.type "list") (ZgN K):=e▸Zfk
noncomputable def Zj9 (K:PySem.W.Frag):List V→Hp→VK→Prop:=fun xs H Q=>∃(p:Addr)(bs:List Bool),xs=[.ref p]∧SqL K H p (bs.map V.bl)∧Q (.bl (bs.all id)) H
theorem Zkc(e:X.K=K)(hc:X.calm=true):Wl X (.builtin "all") (Zj9 K):=e▸Zh7 hc
noncomputable def Zka (K:PySem.W.Frag):List V→Hp→VK→Prop:=fun xs H Q=>∃(p:Addr)(ns:List Int),xs=[.ref p]∧SqL K H p (ns.map V.int)∧Q (.int ns.sum) H
theorem ZhJ(e:X.K=K)(hc:X.calm=true):Wl X (.builtin "sum") (Zka K):=e▸Zh1 hc
theorem Yt{o e:Expr}{es:List Expr}{to:TE}{t:TA}{name:Str}{apos cpos:Pos}{T id:String}{r:V→List V→Hp→VK→Prop}(ek:X.K=K)(pa:PlainAttrs T)(slot:Slot T name id)(hty:typeOf (.builtin id)=pure (.type "method_descriptor"))(hm:MtR X id r)(ho:PE X o to)(ha:PA X (e::es) t)
  (hbase:attributeBase o name X.env (eval o X.env)=eval o X.env:=by rfl)
  (hfew:((backTo cpos (starEach (e::es) X.env)).all (fun x=>!x.1)&&(backToKw cpos (keywordEach [] X.env)).all (fun x=>x.1.isSome)
   &&decide ((e::es).length+([]:List Keyword).length+(if([]:List Keyword).isEmpty then 0 else 1)<30))=true:=by rfl)
  (hline:(apos.endLine==cpos.line)=true:=by rfl) (hs:starEach (e::es) X.env=(false,eval e X.env)::starEach es X.env:=by rfl) (hplain:(backTo cpos (starEach es X.env)).any (·.1)=false:=by rfl):
  PE X (.Call (.Attribute o name apos) (e::es) [] cpos) (tBM K T r to t):=ek▸Zmx pa slot hty hm ho ha hbase hfew hline hs hplain
theorem YF{es:List Expr}{k:Nat}{t:TGs}{n:Nat}{pos:Pos}(ek:X.K=K)(hc:X.calm=true)(h:PGs X es t)(hn:(assignEach es X.env).length=n:=by rfl)(hst:(assignEach es X.env).findIdx? (·.1)=none:=by rfl):
  PG X (.Tuple es k pos) (ZjB K n t):=ek▸Zlr hc h hn hst
end
namespace Rd
section
variable {σ:St}{H:Hp}{Q:VK}{K:PySem.W.Frag}
theorem tru{ta:TE}{Q:Bool→Hp→Prop}(h:ta σ H fun x H'=>∃k,Zfo K x H' k∧Q k H'):Zlx K ta σ H Q:=h
theorem Zng{xs:List V}(h:∃x n,xs=[x]∧Zbl K x H n∧Q (.int n) H):Zli K xs H Q:=h
theorem Znh{xs:List V}(h:∃x n t b,xs=[x,.ty n]∧Wp K H x t∧PySem.W.kitOne K t (.type n)=some b∧Q (.bl b) H):Zld K xs H Q:=h
theorem Zm2{xs:List V}(h:∃(p:Addr)(bs:List Bool),xs=[.ref p]∧SqL K H p (bs.map V.bl)∧Q (.bl (bs.all id)) H):Zj9 K xs H Q:=h
theorem Uo{p:Addr}{xs:List V}(h:SqL K H p xs)(q:∀l,H l=none→Q (.ref l) (upd H l (.lst xs))):ZgN K [.ref p] H Q:=⟨p,xs,rfl,.inl h,q⟩
theorem Zi5{p:Addr}{ns:List Int}(h:SqL K H p (ns.map V.int))(q:Q (.int ns.sum) H):Zka K [.ref p] H Q:=⟨p,ns,rfl,h,q⟩
end
end Rd
end L2
namespace L2
open PySem PySem.Spec PyProof.Rows
section
variable {X:Cx}
noncomputable def rDIn:R2:=fun y x H Q=>∃a o,x= .ref a∧UN H a y o∧Q (.bl o.isSome) H
noncomputable def rDNotIn:R2:=fun y x H Q=>∃a o,x= .ref a∧UN H a y o∧Q (.bl (!o.isSome)) H
theorem ZkZ(hu:X.A.units+64<cLine):OpR X (compareOp .In) rDIn:=by
 intro pins s σ H x y v u Q I rx ry h;obtain⟨a,o,rfl,g,q⟩:=h;cases ry;exact Znc (by omega) I g rx fun s' I'=>⟨.bl o.isSome,H,I',rfl,q⟩
theorem ZbJ(hu:X.A.units+64<cLine):OpR X (compareOp .NotIn) rDNotIn:=by
 intro pins s σ H x y v u Q I rx ry h;obtain⟨a,o,rfl,g,q⟩:=h;cases ry;exact Zky (by omega) I g rx fun s' I'=>⟨.bl (!o.isSome),H,I',rfl,q⟩
noncomputable def rIxD:R2:=fun x y H Q=>∃a v,x= .ref a∧UN H a y (some v)∧Q v H
theorem Zce(hu:X.A.units+64<cLine):IxR X rIxD:=by
 intro value slice pins s σ H x y v u Q I rx ry h hs;obtain⟨a,z,rfl,g,q⟩:=h;cases rx;exact tail_any (Zgs I g) PySem.F.slot_dict_getitem.lookup (Zit (by omega) I g ry fun w' s' I' rw'=>⟨z,H,I',rw',q⟩) hs
noncomputable def rSetD:V→V→V→Hp→(Hp→Prop)→Prop:=fun o i v H Q=>∃a H4,o= .ref a∧ZdV H a i v H4∧Q H4
theorem Zab(hu:X.A.units+64<cLine):ZhP X rSetD:=by
 intro pins s σ H o i v ov iv u Q I ro ri rv h;obtain⟨a,H4,rfl,g,q⟩:=h;cases ro;exact Zik (by omega) I g ri rv fun s' I'=>⟨H4,I',q⟩
theorem Zkb{P:Program}{w:World}{k:Key}{u:Value}(h:(ZP P w).is k u=true):ZG (kV k) u:=by
 cases k with
 |inl i=>exact Value.isInt_shape h
 |inr x=>exact Value.isStrOf_shape h
theorem ZgU:∀{xs:List V}{us:List Value},us.length=xs.length→(∀(j:Nat)(v:V)(u:Value),xs[j]? =some v→us[j]? =some u→ZG v u)→ZF xs us
 | [],[],_,_=> .nil
 |x::xs,u::us,hl,h=> .cons (h 0 x u rfl rfl) (ZgU (by simpa using hl) fun j v w e1 e2=>h (j+1) v w (by simpa using e1) (by simpa using e2))
 | [],_::_,hl,_=>by simp at hl
 |_::_,[],hl,_=>by simp at hl
theorem KV.at{kvs:List (Key×V)}{vs:List (Key×Value)}(r:KV kvs vs):∀{j:Nat}{k:Key}{x:Value},vs[j]? =some (k,x)→∃v,kvs[j]? =some (k,v):=by
 unfold KV at r
 induction r with
 |nil=>intro j k x e;simp at e
 | @cons p q ps qs h t ih=>
  intro j k x e;cases j with
  |zero=>
   simp at e;subst e;have h1:p.1=k:=h.1;exact⟨p.2,by simp[←h1]⟩
  |succ j=>
   obtain⟨v,z⟩:=ih (j:=j) (k:=k) (x:=x) (by simpa using e);exact⟨v,by simpa using z⟩
noncomputable def rListD:List V→Hp→VK→Prop:=fun xs H Q=>∃a kvs,xs=[V.ref a]∧H a=some (.dK kvs)∧∀l,H l=none→Q (.ref l) (upd H l (.lst (kvs.map fun kv=>kV kv.1)))
theorem ZhS(hc:X.calm=true):Wl X (.type "list") rListD:=by
 intro pins s σ H xs us Q I r h;obtain⟨a,kvs,rfl,ha,q⟩:=h;obtain⟨u,rfl,ru⟩:=Ve r;cases ru;obtain⟨z,hd,vs,rel,dd⟩:=ZaN I.hok ha;obtain⟨ep,hat⟩:=dd.dictAt;refine PySem.W.kdl_call (PySem.W.kdl_dict (knd:=ZP X.prog X.w) (kvs:=vs) (ep:=ep) hd) (I.ok.hd hc) hat (by rw[←rel.length];exact z) fun h' tk acc c hk hD hacc=>?_;refine⟨.ref s.heap.objs.size,_,I.laid (a:=s.heap.objs.size) (o:= .lst (kvs.map fun kv=>kV kv.1)) (t':=tk) hk (Nat.le_refl _) ⟨by rw[List.length_map];exact z,acc.toList,c,?_,by simpa using hD⟩,rfl,q _ (I.hok.fresh (Nat.le_refl _))⟩;refine ZgU (by rw[Array.length_toList,hacc.1,List.length_map,rel.length]) fun j v u e1 e2=>?_;obtain⟨k,x,hx,hk'⟩:=hacc.2 j u (by rw[←Array.getElem?_toList];exact e2);obtain⟨v',hv'⟩:=rel.at hx;rw[List.getElem?_map,hv'] at e1;cases e1;exact Zkb hk'
end
section
variable {X:Cx}{pins:List (Addr×Obj)}{σ:List (Option V)}{H H':Hp}{s:Shared}{h':Heap}
theorem Inv.turnedL{t':Nat}{fp:List Addr}(I:Inv X pins σ H s)(k:∀b o,b∉fp→s.heap.get? b=some o→h'.get? b=some o)(hf:∀b∈fp,W2 X pins H b):Inv X pins σ H {s with heap:=h',toks:=t'}:=by
 have nit:∀b u,H b=some u→b∉fp:=fun b u e z=>by rw[(hf b z).1] at e;cases e
 refine I.step (g':=s.gens) (d':=s.drawn) (ch:=fp) (fun b hb=>?_) (fun b o _ _ hc e _=>k b o hc e) (fun b o _ _ hc e _=>⟨o.slots,k b o hc e⟩) (fun _ _ _ _ n=>n)
  (fun b o hc e=>⟨o,k b o hc e⟩) (fun _ _ e=>e) (fun _ _ _ e=>e) (fun b ps e=>⟨#[],by rw[e];simp⟩) (fun m hm=>?_) (fun b u e=>?_) I.bare
 ·obtain⟨f0,f1,f2,f3,f4,f5⟩:=hf b hb;exact⟨f3,f1,f4,f5⟩
 ·obtain⟨o,es,ep,ho,r⟩:=hm;exact⟨o,es,ep,k _ o (fun z=>(hf _ z).2.1 rfl) ho,r⟩
 ·refine(I.hok b u e).stay (fun c v hc q=>k c v ?_ q) (fun _ q=>q) fun _ _ q=>q;rcases hc with z|z
  ·rw[z];exact nit b u e
  ·exact nit c _ z
theorem Inv.turnedNew{t':Nat}{fp:List Addr}{T:Addr}{o:HO}(I:Inv X pins σ H s)(k:∀b o,b∉fp→s.heap.get? b=some o→h'.get? b=some o)(hf:∀b∈fp,W2 X pins H b)(hp:s.heap.objs.size≤T)(new:Z2 X.prog X.w (upd H T o) h' T o):
  Inv X pins σ (upd H T o) {s with heap:=h',toks:=t'}:=by
 have J:Inv X pins σ H {s with heap:=h',toks:=t'}:=I.turnedL k hf;have hn:=I.hok.fresh hp;obtain⟨f0,f1,f2,f3,f4,f5⟩:=I.fpOk hp hn;refine Inv.step (s:={s with heap:=h',toks:=t'}) (h':=h') (g':=s.gens) (d':=s.drawn) (t':=t') (ch:=[T]) J (fun b hb=>?_) (fun b o _ _ hc e _=>e) (fun b o _ _ hc e _=>⟨o.slots,e⟩) (fun b o hc e n=>?_)
  (fun b o hc e=>⟨o,e⟩) (fun b xs e=>?_) (fun b o u e=>?_) (fun b ps e=>⟨#[],?_⟩) (fun m hm=>hm) (fun b u e=>?_) I.bare
 ·have e:b=T:=by simpa using hb
  subst e;exact⟨f3,f1,f4,f5⟩
 ·rw[Zg (fun z=>hc (by simp[z]))];exact n
 ·rw[Zg (Zm e hn)];exact e
 ·rw[Zg (Zm e hn)];exact e
 ·rw[Zg (Zm e hn)];simpa using e
 ·by_cases hb:b=T
  ·subst hb;rw[Ze] at e;cases e;exact new
  ·rw[Zg hb] at e;exact(J.hok b u e).stay (fun c v _ q=>q) (fun c q=>by rw[Zg (Zm q hn)];exact q) fun c xs q=>by rw[Zg (Zm q hn)];exact q
end
noncomputable def Ite (K:PySem.W.Frag) (a:Addr):It:=
 ⟨fun i H=>∃xs x,SqL K H a xs∧xs[i]? =some x,fun i H v H'=>∃t x,H t=none∧v= .ref t∧H'=upd H t (.tup [.int i,x])∧∀xs,SqL K H a xs→xs[i]? =some x,fun i H=>∃xs,SqL K H a xs∧xs.length≤i⟩
theorem ZiU{P:Program}{w:World}{K:PySem.W.Frag}{elts:List Expr}{k1:Nat}{pos:Pos}(a e it:Addr)(hei:e≠it):Zbr P w K (.Tuple elts k1 pos) (Ite K a) [e,it] e (fun i h=>(∃old,IsEnum h e it i old)∧h.IsListIter it a i) where
 mem:=by simp
 obj:=fun i h st b hb=>by
  obtain⟨⟨old,he⟩,o,h1,h2,h3⟩:=st;rcases List.mem_cons.mp hb with rfl|hb
  ·exact⟨_,he,fun v z=>by
    have z':Data.fields _=Data.cell v:=z;cases z'⟩
  ·rw[List.mem_singleton.mp hb];exact⟨o,h1,fun v z=>by rw[h3] at z;cases z⟩
 keep:=fun i h h' st k=>⟨let⟨old,he⟩:=st.1;⟨old,k e (by simp) _ he⟩,st.2.at fun o q=>k it (by simp) o q⟩
 item:=by
  intro X hP hw hK hc i pins s σ H E I hf st hg;subst hP hw hK;obtain⟨xs,x,hq,hx⟩:=hg;obtain⟨its,rv,p,hz⟩:=I.list hq;obtain⟨u,hu,ru⟩:=rv.get hx;obtain⟨⟨old,he⟩,hit⟩:=st;refine wpAny_pyNext_enum_item he hit p.isList (x:=u) (by simpa using hu) hei fun h' ho hit' hT hsz hk=>?_;have hfr:=I.hok.fresh (Nat.le_refl s.heap.objs.size);have helt:e<s.heap.objs.size:=Heap.lt_size he;have hilt:it<s.heap.objs.size:=by obtain⟨_,y,_⟩:=hit;exact Heap.lt_size y
  refine⟨_,rfl,wpAny_letOwnedTupleGo_enum ho fun h2 he2 hs2=>?_⟩;have hT2:h2.get? s.heap.objs.size=some {cls:= .type "tuple",data:= .seq #[.int i s.toks,u]}:=hs2.extBut _ _ (Nat.ne_of_gt helt) hT;have I1:Inv X pins σ (upd H s.heap.objs.size (.tup [.int i,x])) {s with heap:=h2,toks:=s.toks+1}:=
   I.turnedNew (fp:=[e,it]) (fun b o hb q=>by
    have n1:b≠e:=fun z=>hb (by simp[z]);have n2:b≠it:=fun z=>hb (by simp[z]);exact hs2.extBut b o n1 (hk b o n1 n2 q)) hf (Nat.le_refl _) ⟨by show 2≤sizeLine;decide,[.int i s.toks,u],.cons ⟨_,rfl⟩ (.cons ru .nil),_,hT2,rfl,_,rfl⟩
  refine⟨.ref s.heap.objs.size,_,I1,rfl,⟨_,x,hfr,rfl,rfl,fun ys hy=>by rw[I.list_inj hy hq];exact hx⟩,⟨⟨_,he2⟩,hit'.at fun o q=>hs2.extBut _ _ hei.symm q⟩,fun b hb=>?_⟩;have nb:b≠s.heap.objs.size:=by
   rcases List.mem_cons.mp hb with rfl|hb
   ·exact Nat.ne_of_lt helt
   ·rw[List.mem_singleton.mp hb];exact Nat.ne_of_lt hilt
  rw[Zg nb];exact(hf b hb).1
 done:=by
  intro X hP hw hK hc i pins s σ H E I hf st hg;subst hP hw hK;obtain⟨xs,hq,hx⟩:=hg;obtain⟨its,rv,p,hz⟩:=I.list hq;obtain⟨⟨old,he⟩,hit⟩:=st;have hl:=rv.length;exact wpAny_pyNext_enum_end (I.ok.hd hc) he hit p.isList (by simp;omega) fun h' eb=>⟨rfl,I.turnedL (t':=s.toks) (fp:=[e,it]) (fun b o hb q=>eb b o (fun z=>hb (by simp[z])) q) hf⟩
 self:=fun _ _ _ _ _ st h=>wpAny_pyIter_enum st.1.choose_spec h
section
variable {X:Cx}
noncomputable def Zke (K:PySem.W.Frag) (ta:TA):TI:=fun σ H R=>ta σ H fun vs H1=>∃a,vs=[.ref a]∧(∃xs,SqL K H1 a xs)∧R (Ite K a) H1
theorem Za5{K:PySem.W.Frag}{a:Expr}{ta:TA}{p pos tpos:Pos}{elts:List Expr}{k1:Nat}(ek:X.K=K)(hg:Gl X "enumerate")(hm:X.mg "enumerate" =none)(ha:PA X [a] ta)(hs:starEach [a] X.env=[(false,eval a X.env)]:=by rfl):
  PI X (.Tuple elts k1 tpos) (.Call (.Name "enumerate" p) [a] [] pos) (Zke K ta):=by
 subst ek;intro pins s σ H R I h;refine Call_ (Zae I hg hm boot_enumerate (PyProof.Rows.callWith_type1 (thn (ha pos pins s σ H _ I h) fun us s1 ⟨vs,H1,I1,r1,q1⟩=>?_) hs rfl));obtain⟨b,rfl,⟨xs,hq⟩,q⟩:=q1;obtain⟨u,rfl,ru⟩:=Ve r1;cases ru;obtain⟨its,rv,pl,hz⟩:=I1.list hq;refine call_enumerate_list pl.isList fun h' he hit hsz hk=>?_;refine wpAny_pyIter_enum he ?_;have I2:Inv X pins σ H1 {s1 with heap:=h'}:=I1.kept (t':=s1.toks) hk;refine⟨s1.heap.objs.size+1,[s1.heap.objs.size+1,s1.heap.objs.size],_,_,H1,rfl,I2,ZiU b _ _ (Nat.succ_ne_self _),⟨⟨_,he⟩,hit⟩,fun c hc=>?_,q⟩;rcases List.mem_cons.mp hc with rfl|hc
 ·exact I1.fpOk (Nat.le_succ _) (I1.hok.fresh (Nat.le_succ _))
 ·rw[List.mem_singleton.mp hc];exact I1.fpOk (Nat.le_refl _) (I1.hok.fresh (Nat.le_refl _))
end
end L2
namespace L2
open PySem PySem.Spec PyProof.Rows
noncomputable def rLenD:List V→Hp→VK→Prop:=fun xs H Q=>∃a kvs,xs=[V.ref a]∧H a=some (.dK kvs)∧Q (.int kvs.length) H
theorem Zg4{X:Cx}:Wl X (.builtin "len") rLenD:=ZiW
noncomputable def Zb7 (n:Nat) (ix:List Nat) (σ:St):St:=List.replicate n none++ix.map fun j=>(σ[j]?).join
noncomputable def Zfc (n:Nat) (ix:List Nat) (wi:TI) (g:TG) (tc:TT) (te:TE):TE:=fun σ H Q=>wi σ H fun J H1=>∀p,H1 p=none→
 ∃W:Nat→Nat→List V→St→Hp→Prop,(∃m,W 0 m [] (Zb7 n ix σ) (upd H1 p (.lst [])))∧∀i m ys σ' H',W i m ys σ' H'→
  (J.stop i H'∧Q (.ref p) H')∨(J.go i H'∧∀x H2,J.yld i H' x H2→g x σ' H2 fun σ2 H3=>tc σ2 H3 fun b H4=>
   if b=true then te σ2 H4 fun v H5=>H5 p=some (.lst ys)∧ys.length<sizeLine∧∃m',m'<m∧W (i+1) m' (ys++ [v]) σ2 (upd H5 p (.lst (ys++ [v])))
   else ∃m',m'<m∧W (i+1) m' ys σ2 H4)
section
variable {X:Cx}
theorem Zgp{pins:List (Addr×Obj)}{σ:St}{H:Hp}{s:Shared}{sc:Scope}{x:Str}{xs:List Str}{zs:List Str}{ix:List Nat}{cl:List (Str×Addr)}{fp:List Addr}{h₁:Heap}{tk:Nat}
  (S:Y3 X sc x zs ix) (I:Inv X pins σ H s) (hcl:∀y c,cl.lookup y=some c→X.env.cells.lookup y=some c) (hhas:∀y,(y,NameKind.free)∈sc.names→∃c,cl.lookup y=some c)
  (hfp:∀b∈fp,W2 X pins H b∧b<s.heap.objs.size) (hns:h₁.Ns s.heap.objs.size fun _=>none) (hk:∀b o,s.heap.get? b=some o→h₁.get? b=some o):
  Inv (Zn X sc cl s.heap.objs.size (xs++zs) s H fp) [] (Zb7 xs.length ix σ) H {s with heap:=h₁,toks:=tk}:=by
 have sub:∀b∈frs X.stack,b∈X.env.locals::X.fs:=I.stkSub;have nfs:∀b∈fp,b∉frs X.stack:=fun b hb z=>by
  obtain⟨⟨_,f1,f2,_⟩,_⟩:=hfp b hb;rcases List.mem_cons.mp (sub b z) with e|e
  ·exact f1 e
  ·exact f2 e
 have cut:∀y,(Zn X sc cl s.heap.objs.size (xs++zs) s H fp).env.kindOf y=some .cell∨(Zn X sc cl s.heap.objs.size (xs++zs) s H fp).env.kindOf y=some .free→∃c,cl.lookup y=some c:=fun y hy=>by
  have q:∃k,(relabel sc X.env).names.lookup y=some k∧(k= .cell∨k= .free):=by
   rcases hy with hy|hy
   ·exact⟨_,hy,.inl rfl⟩
   ·exact⟨_,hy,.inr rfl⟩
  obtain⟨k,e,hk⟩:=q;obtain⟨k',e',q⟩:=Wz e;have:k'= .free:=by
   rcases q with q|⟨q,_⟩
   ·rcases hk with z|z
    ·exact absurd (q.symm.trans z) (S.nocell _ (Wj e'))
    ·exact q.symm.trans z
   ·exact q
  subst this;exact hhas y (Wj e')
 refine⟨⟨I.ok.mod,S.kind,I.ok.glob,I.ok.blt,Nat.le_refl _,fun y z c h1 h2=>I.ok.inj y z c (hcl _ _ h1) (hcl _ _ h2),cut,fun y c hf _=>?_,I.ok.hd,I.ok.frames,.inl rfl,fun b hb=>?_,I.bs,Nat.le_trans I.ok.bsz I.sz,fun b o e hb=>?_,nfs,I.stack,I.stkFree⟩,
  rfl,I.bare,Un.kept hk,⟨_,hns,fun i y v h1 h2 h3=>?_⟩,fun y c h=>?_,I.hok.fresh (Nat.le_refl _),fun y c h=>I.freeC y c (hcl y c h),fun p hp=>absurd (show p∈([]:List (Addr×Obj)) from hp) (by simp),I.hok.kept hk,?_⟩
 ·exact absurd (show false=true from hf) (by decide)
 ·obtain⟨⟨f0,f1,f2,f3,f4,f5⟩,hl⟩:=hfp b hb;exact⟨Nat.ne_of_lt hl,fun y c h=>f4 y c (hcl y c h)⟩
 ·obtain⟨⟨f0,f1,f2,f3,f4,f5⟩,hl⟩:=hfp b hb;rcases f3 with z|z
  ·exact I.ok.noex b o e z
  ·exact absurd (Nat.lt_of_lt_of_le (Heap.lt_size e) (Nat.le_trans I.ok.bsz z)) (Nat.lt_irrefl _)
 ·
  have hlen:xs.length≤i:=by
   rcases Nat.lt_or_ge i xs.length with z|z
   ·have h2':(List.replicate xs.length none++ix.map fun j=>(σ[j]?).join)[i]? =some (some v):=h2;rw[List.getElem?_append_left (by rw[List.length_replicate];exact z),List.getElem?_replicate,if_pos z] at h2';cases h2'
   ·exact z
  ·obtain⟨i,rfl⟩:∃i',i=xs.length+i':=⟨i-xs.length,by omega⟩;have h1':zs[i]? =some y:=by
    have h1':(xs++zs)[xs.length+i]? =some y:=h1;rw[List.getElem?_append_right (Nat.le_add_right _ _),Nat.add_sub_cancel_left] at h1';exact h1'
   have h2':(ix.map fun j=>(σ[j]?).join)[i]? =some (some v):=by
    have h2':(List.replicate xs.length none++ix.map fun j=>(σ[j]?).join)[xs.length+i]? =some (some v):=h2;rw[List.getElem?_append_right (by rw[List.length_replicate];exact Nat.le_add_right _ _),List.length_replicate,Nat.add_sub_cancel_left] at h2';exact h2'
   have ha:(ix.map fun j=>X.N[j]?)[i]? =some (some y):=by rw[S.at_,List.getElem?_map,h1'];rfl
   rw[List.getElem?_map] at h2' ha;cases e:ix[i]? with
   |none=>rw[e] at h2';cases h2'
   |some j=>
    rw[e] at h2' ha;have ha':X.N[j]? =some y:=Option.some.inj ha;have hj:(σ[j]?).join=some v:=Option.some.inj h2';have hσ:σ[j]? =some (some v):=by
     cases q:σ[j]? with
     |none=>rw[q] at hj;cases hj
     |some o=>rw[q] at hj;exact congrArg some hj
    obtain⟨m,hn,hl⟩:=I.loc;have hfr:=S.zfree y (List.mem_of_getElem? h1');have hkind:=S.free _ (Wj hfr) rfl;have hv:Vis X.env.scope y:=by
     rcases hkind with z|z
     ·exact .inr (.inl z)
     ·exact .inr (.inr z)
    obtain⟨u,r,q⟩:=hl j y v ha' hσ hv;refine⟨u,r,?_⟩;rcases q with⟨kl,_⟩|⟨_,c,hc,hcell⟩
    ·have kl':X.env.kindOf y=some .local:=kl;rcases hkind with z|z<;>(rw[z] at kl';cases kl')
    ·obtain⟨c',hc'⟩:=hhas y (Wj hfr);have ec:c'=c:=by have:=hcl y c' hc';rw[hc] at this;exact(Option.some.inj this).symm
     subst ec;refine .inr ⟨?_,c',hc',?_⟩
     ·have hvis:Vis (relabel sc X.env) y:=h3;rcases hvis with z|z|z
      ·obtain⟨k',e',q⟩:=Wz z;rw[hfr] at e';cases e';rcases q with q|⟨_,q⟩<;>cases q
      ·exact .inl z
      ·exact .inr z
     ·obtain⟨o,ho,hd⟩:=hcell;exact⟨o,hk _ _ ho,hd⟩
 ·obtain⟨v,o,ho,hd⟩:=I.cell y c (hcl y c h);exact⟨v,o,hk _ _ ho,hd⟩
 ·show(List.replicate xs.length none++ix.map fun j=>(σ[j]?).join).length=(xs++zs).length;have:=congrArg List.length S.at_;simp only[List.length_map] at this;simp only[List.length_append,List.length_replicate,List.length_map,this]
theorem Zcu{pins:List (Addr×Obj)}{σ:St}{H:Hp}{s:Shared}{sc:Scope}{x:Str}{xs:List Str}{zs:List Str}{ix:List Nat}{cl:List (Str×Addr)}{fp:List Addr}{it:Addr}{tn:Nat→Heap→Prop}{J:It}
  {elt tg iter:Expr} {ifs:List Expr} {pos:Pos} {g:TG} {tc:TT} {te:TE} {Q:VK} {E:Value→Shared→Prop} {RR:Value→Addr→Result→Shared→Prop}
  (hc:X.calm=true) (S:Y3 X sc x zs ix) (I:Inv X pins σ H s) (hcl:∀y c,cl.lookup y=some c→X.env.cells.lookup y=some c) (hhas:∀y,(y,NameKind.free)∈sc.names→∃c,cl.lookup y=some c)
  (T:Zbr X.prog X.w X.K tg J fp it tn) (st:tn 0 s.heap) (hfp:∀b∈fp,W2 X pins H b)
  (hin:∀C s H,PG (Zn X sc cl C (xs++zs) s H fp) tg g∧PIf (Zn X sc cl C (xs++zs) s H fp) ifs tc∧PE (Zn X sc cl C (xs++zs) s H fp) elt te)
  (hq:∀p,H p=none→∃W:Nat→Nat→List V→St→Hp→Prop,(∃m,W 0 m [] (Zb7 xs.length ix σ) (upd H p (.lst [])))∧∀i m ys σ' H',W i m ys σ' H'→
   (J.stop i H'∧Q (.ref p) H')∨(J.go i H'∧∀x H2,J.yld i H' x H2→g x σ' H2 fun σ2 H3=>tc σ2 H3 fun b H4=>
    if b=true then te σ2 H4 fun v H5=>H5 p=some (.lst ys)∧ys.length<sizeLine∧∃m',m'<m∧W (i+1) m' (ys++ [v]) σ2 (upd H5 p (.lst (ys++ [v])))
    else ∃m',m'<m∧W (i+1) m' ys σ2 H4))
  (hR:∀acc C f s',ZgM X pins σ Q acc C s'→RR acc C (.ok f) s'):
  wpAny (model X.prog X.w) X.A (newList []) (fun acc s₃=>wpAny (model X.prog X.w) X.A (newFunctionEnv sc X.env.globals cl [] X.env.qual none .none (some X.env)) (fun cenv s₄=>
   codeAny (model X.prog X.w) X.A (.compStart (.ListComp elt [⟨tg,iter,ifs,0⟩] sc pos) 0 (.ref it) acc {cenv with scope:=relabel sc X.env}) (RR acc cenv.locals) s₄) E s₃) E s:=by
 refine wpAny_newObj_type (wpAny_newFunctionEnv S.nocell (by intro y hy;simp at hy) (fun h₁ hns₁ hsb₁=>?_) S.kind);have I3:Inv X pins σ (upd H s.heap.objs.size (.lst [])) {s with heap:=s.heap.push {cls:= .type "list",dict:=none,data:= .seq ([]:List Value).toArray}}:=I.lnew (its:=[]) (ys:=[]) (t':=s.toks) .nil (Nat.zero_le _);dsimp only at hns₁ hsb₁⊢;obtain⟨W,⟨m0,w0⟩,turn⟩:=hq s.heap.objs.size (I.hok.fresh (Nat.le_refl _));have lt:∀b∈fp,b<s.heap.objs.size:=fun b hb=>by
  obtain⟨o,e,_⟩:=T.obj 0 s.heap st b hb;exact Heap.lt_size e
 have up:∀b∈fp,∀o,(upd H s.heap.objs.size o) b=H b:=fun b hb o=>Zg (Nat.ne_of_lt (lt b hb));have kp:∀b o,(s.heap.push {cls:= .type "list",dict:=none,data:= .seq ([]:List Value).toArray}).get? b=some o→h₁.get? b=some o:=fun b o e=>
  hsb₁.extBut b o (Nat.ne_of_lt (Heap.lt_size e)) (Heap.get?_push_of_some _ e)
 have f3:∀b∈fp,W2 X pins (upd H s.heap.objs.size (.lst [])) b∧b<(s.heap.push {cls:= .type "list",dict:=none,data:= .seq ([]:List Value).toArray}).objs.size:=fun b hb=>by
  obtain⟨q0,q⟩:=hfp b hb;refine⟨⟨(up b hb _).trans q0,q⟩,?_⟩;rw[Heap.size_push];exact Nat.lt_succ_of_lt (lt b hb)
 generalize hS3:({s with heap:=s.heap.push {cls:= .type "list",dict:=none,data:= .seq ([]:List Value).toArray}}:Shared)=s3 at I3;have hH3:s.heap.push {cls:= .type "list",dict:=none,data:= .seq ([]:List Value).toArray}=s3.heap:=by rw[←hS3]
 rw[hH3] at kp f3 hns₁⊢;have st3:tn 0 h₁:=T.keep 0 _ _ st fun b _ o e=>kp b o (by rw[←hH3];exact Heap.get?_push_of_some _ e);have J0:Inv (Zn X sc cl s3.heap.objs.size (xs++zs) s3 (upd H s.heap.objs.size (.lst [])) fp) [] (Zb7 xs.length ix σ) (upd H s.heap.objs.size (.lst [])) {s3 with heap:=h₁,toks:=s3.toks}:=
  Zgp S I3 hcl hhas f3 hns₁ kp
 obtain⟨hg,hif,he⟩:=hin s3.heap.objs.size s3 (upd H s.heap.objs.size (.lst []));have fpo:∀{H':Hp},(∀b∈fp,H' b=none)→∀b∈fp,W2 (Zn X sc cl s3.heap.objs.size (xs++zs) s3 (upd H s.heap.objs.size (.lst [])) fp) [] H' b:=fun{H'} hn b hb=>
  ⟨hn b hb,(J0.ok.exf b hb).1,J0.ok.exfs b hb,.inl hb,(J0.ok.exf b hb).2,fun p hp=>absurd (show p∈([]:List (Addr×Obj)) from hp) (by simp)⟩
 have loop:∀s4:Shared,s4={s3 with heap:=h₁,toks:=s3.toks}→
   codeAny (model X.prog X.w) X.A (.compLoop (.ListComp elt [⟨tg,iter,ifs,0⟩] sc pos) 0 (.ref it) (.ref s.heap.objs.size) (compEnvC sc cl s3.heap.objs.size X.env)) (RR (.ref s.heap.objs.size) s3.heap.objs.size) s4:=by
  rintro s4 rfl;refine ZbU (fun n s'=>∃i ys σ' H',Inv (Zn X sc cl s3.heap.objs.size (xs++zs) s3 (upd H s.heap.objs.size (.lst [])) fp) [] σ' H' s'∧tn i s'.heap∧(∀b∈fp,H' b=none)∧W i n ys σ' H') ?_ m0
   ⟨0,[],Zb7 xs.length ix σ,_,J0,st3,fun b hb=>(f3 b hb).1.1,w0⟩
  rintro n s5 ⟨i,ys,σ5,H5,I5,st5,fr5,w5⟩;rcases turn i n ys σ5 H5 w5 with⟨stop,qn⟩|⟨go,step⟩
  ·refine thn (T.done (Zn X sc cl s3.heap.objs.size (xs++zs) s3 (upd H s.heap.objs.size (.lst [])) fp) rfl rfl rfl hc i [] s5 σ5 H5 _ I5 (fpo fr5) st5 stop) fun r s6 ⟨hr,I6⟩=>?_;subst hr;obtain⟨m6,hm6,_⟩:=I6.loc;refine hR _ _ _ _ ⟨s.heap.objs.size,H5,m6,rfl,hm6,?_,I3.fpOk (Nat.le_refl _) I6.free,qn⟩;exact I3.call' I6.os I6.base I6.hok I6.bare fun b hb=>by
    obtain⟨⟨f0,f1,f2,f3,f4,f5⟩,_⟩:=f3 b hb;exact⟨f3,f1,f4,f5⟩
  ·refine thn (T.item (Zn X sc cl s3.heap.objs.size (xs++zs) s3 (upd H s.heap.objs.size (.lst [])) fp) rfl rfl rfl hc i [] s5 σ5 H5 _ I5 (fpo fr5) st5 go) fun r s6 ⟨u,hr,h6⟩=>?_;subst hr;refine thn h6 fun _ s7 ⟨x7,H7,I7,r7,y7,st7,fr7⟩=>?_;have I7':=I7.pinned (fpo fr7) (T.obj _ _ st7);refine thn (hg _ s7 σ5 H7 x7 u _ I7' r7 (step x7 H7 y7)) fun _ s8 ⟨σ8,H8,I8,q8⟩=>?_;refine thn (hif _ s8 σ8 H8 _ I8 q8) fun b s9 ⟨H9,I9,q9⟩=>?_;have again:∀{ys':List V}{σ':St}{H':Hp}{m':Nat}{s':Shared},Inv (Zn X sc cl s3.heap.objs.size (xs++zs) s3 (upd H s.heap.objs.size (.lst [])) fp) ([]++ZaX fp s7.heap) σ' H' s'→W (i+1) m' ys' σ' H'→m'<n→
     ∃m,m<n∧∃i ys σ' H',Inv (Zn X sc cl s3.heap.objs.size (xs++zs) s3 (upd H s.heap.objs.size (.lst [])) fp) [] σ' H' s'∧tn i s'.heap∧(∀b∈fp,H' b=none)∧W i m ys σ' H':=fun{ys' σ' H' m' s'} Iz wz hm=>by
    refine⟨m',hm,i+1,ys',σ',H',Iz.unpinned,T.keep _ _ _ st7 fun b hb o e=>(Iz.pin (b,o) (List.mem_append_right _ (List.mem_append_right _ (Vg hb e)))).1,fun b hb=>?_,wz⟩;obtain⟨o,e,d⟩:=T.obj _ _ st7 b hb;exact(Iz.pin (b,o) (List.mem_append_right _ (List.mem_append_right _ (Vg hb e)))).2.1
   cases b with
   |false=>
    rw[if_neg Bool.false_ne_true] at q9⊢;obtain⟨m',hm,wz⟩:=q9;exact again I9 wz hm
   |true=>
    rw[if_pos rfl] at q9⊢;refine thn (he _ s9 σ8 H9 _ I9 q9) fun v s10 ⟨y,H10,I10,r10,hl,hz,m',hm,wz⟩=>?_;refine thn (Yc _ s10 σ8 H10 (.ref s.heap.objs.size) [y] (.ref s.heap.objs.size) [v] (fun z H'=>z= .non∧H'=upd H10 s.heap.objs.size (.lst (ys++ [y]))) I10 rfl (.cons r10 .nil) ⟨_,ys,y,rfl,rfl,hl,hz,rfl,rfl⟩) fun _ s11 ⟨z,H11,I11,_,_,e11⟩=>?_;subst e11;exact again I11 wz hm
 exact codeAny_compStart_list (loop _ (by subst hS3;rfl)) (T.self _ 0 _ _ _ st3 (loop _ (by subst hS3;rfl)))
theorem Va{elt tg iter:Expr}{ifs:List Expr}{sc:Scope}{pos:Pos}{x:Str}{xs:List Str}{zs:List Str}{ix:List Nat}{wi:TI}{g:TG}{tc:TT}{te:TE}
  (hc:X.calm=true) (S:Y3 X sc x zs ix) (hi:PI X tg iter wi)
  (hin:∀cl C s H fp,PG (Zn X sc cl C (xs++zs) s H fp) tg g∧PIf (Zn X sc cl C (xs++zs) s H fp) ifs tc∧PE (Zn X sc cl C (xs++zs) s H fp) elt te)
  (hs:∀x,foldedSetIterable iter X.env x=pure x:=by intro _;rfl):
  PE X (.ListComp elt [⟨tg,iter,ifs,0⟩] sc pos) (Zfc xs.length ix wi g tc te):=by
 intro pins s σ H Q I h;obtain⟨cl,hclos,hcl,hhas⟩:=VQ I.ok S;rw[eval_ListComp];refine wpAny_comprehension_free (use:=none) rfl hs hclos S.kind S.names (thn (hi pins s σ H _ I h) fun v s1 h1=>thn h1 fun itv s2 h2=>?_);obtain⟨it,fp,tn,J,H2,e,I2,T,st2,f2,hq⟩:=h2;subst e;refine Zcu (RR:=fun acc C=>compPost (model X.prog X.w) X.A X.xe none (EP X pins σ Q) acc C) hc S I2 hcl hhas T st2 f2 (fun C s H=>hin cl C s H fp) hq fun acc C f s' h=>?_;obtain⟨p,H',m,rfl,hm,I',⟨g0,g1,g2,g3,g4,g5⟩,q⟩:=h;exact⟨m,hm,fun h' hb=>⟨.ref p,H',I'.turned (t':=s'.toks) (fun b o hne e=>(hb.2 b hne).trans e) g0 g1 g3 g4 g5,rfl,q⟩⟩
theorem Zc3{elt tg iter:Expr}{ifs:List Expr}{sc:Scope}{pos py spos:Pos}{x y:Str}{xs:List Str}{zs:List Str}{ix:List Nat}{wi:TI}{g:TG}{tc:TT}{te:TE}{j:Nat}
  (hc:X.calm=true) (S:Y3 X sc x zs ix) (hi:PI X tg iter wi)
  (hin:∀cl C s H fp,PG (Zn X sc cl C (xs++zs) s H fp) tg g∧PIf (Zn X sc cl C (xs++zs) s H fp) ifs tc∧PE (Zn X sc cl C (xs++zs) s H fp) elt te)
  (hN:X.N.Nodup) (hj:X.N[j]? =some y) (hy:Loc X.env.scope y)
  (hsw:swapsWith (.ListComp elt [⟨tg,iter,ifs,0⟩] sc pos) (some (.Name y py)) spos.line X.env=pure true:=by rfl)
  (hf:X.fn y=true∨X.env.scope.names.lookup y=some .local:=by first|exact .inl rfl|exact .inr rfl|assumption)
  (hs:∀x,foldedSetIterable iter X.env x=pure x:=by intro _;rfl):
  PS X (.Assign [.Name y py] (.ListComp elt [⟨tg,iter,ifs,0⟩] sc pos) spos) (Ze4 (Zfc xs.length ix wi g tc te) (UT j)):=by
 intro pins s σ H D I h;obtain⟨cl,hclos,hcl,hhas⟩:=VQ I.ok S;rw[exec_Assign_Name_used _ _ _ _ hsw];refine wpAny_bind (wpAny_standAt (wpAny_bind ?_));show wpAny _ X.A (do let _←comprehension (.ListComp elt [⟨tg,iter,ifs,0⟩] sc pos) sc X.env _ (newList []) false (eval iter X.env) (some (assign (.Name y py) X.env))) _ _ s;refine wpAny_bind (wpAny_mono (wpAny_comprehension_free (use:=some (assign (.Name y py) X.env)) (Q:=fun _ s'=>SP X pins D .next s') rfl hs hclos S.kind S.names
  (thn (hi pins s σ H _ I h) fun v s1 h1=>thn h1 fun itv s2 h2=>?_)) (fun _ s' hq=>wpAny_pure (wpAny_pure hq)) fun _ _ e=>e)
 obtain⟨it,fp,tn,J,H2,e,I2,T,st2,f2,hq⟩:=h2;subst e;refine Zcu (Q:=fun x H1=>UT j x σ H1 D.nx) (RR:=fun acc C=>compPost (model X.prog X.w) X.A X.xe (some (assign (.Name y py) X.env)) (fun _ s'=>SP X pins D .next s') acc C) hc S I2 hcl hhas T st2 f2 (fun C s H=>hin cl C s H fp) hq fun acc C f s' h=>?_;obtain⟨p,H',m,rfl,hm,I',⟨g0,g1,g2,g3,g4,g5⟩,q⟩:=h;show wpAny _ X.A (assign (.Name y py) X.env (.ref p)) _ _ _;refine wpAny_assign_Name (ZbV I' hN hj hy (show ZG (.ref p) (.ref p) from rfl) (fun s'' I'' ⟨c,hsb,hcc⟩=>?_) hf);have hne:C≠c:=by
  rcases hcc with z|z
  ·rw[z];exact g1
  ·exact Ne.symm (g4 _ _ z)
 exact⟨m,hm.sameBut hsb hne,fun h' hb=>⟨_,H',I''.turned (t':=s''.toks) (fun b o hne e=>(hb.2 b hne).trans e) g0 g1 g3 g4 g5,q⟩⟩
end
structure Zas(J:It)(n:Nat)(y:Nat→Hp→V→Hp→Prop)(H:Hp):Prop where
 go:∀H' i,Zd H H'→i<n→J.go i H'
 yld:∀H' i x H2,Zd H H'→i<n→J.yld i H' x H2→y i H' x H2
 stop:∀H',Zd H H'→J.stop n H'
theorem Walks.y{J:It}{n:Nat}{f:Nat→V}{H:Hp}(w:Walks J n f H):Zas J n (fun i H' v H2=>H2=H'∧v=f i) H:=⟨w.go,w.yld,w.stop⟩
theorem VY{K:PySem.W.Frag}{a:Addr}{xs:List V}{H:Hp}(h:SqL K H a xs):Zas (Ite K a) xs.length (fun i H' v H2=>∃t,H' t=none∧v= .ref t∧H2=upd H' t (.tup [.int i,xs.getD i .non])) H:=
 ⟨fun H' i e hi=>⟨xs,xs[i],e.seq h,by simp[hi]⟩,fun H' i x H2 e hi ⟨t,z,ht,hv,h2,hz⟩=>⟨t,ht,hv,by
  have:=hz xs (e.seq h);rw[h2];simp[List.getD,this]⟩,fun H' e=>⟨xs,e.seq h,Nat.le_refl _⟩⟩
theorem YH{own:Nat}{ix:List Nat}{g:TG}{tc:TT}{te:TE}{Q:Addr→Hp→Prop}{σ:St}{H:Hp}{J:It}{n:Nat}{y:Nat→Hp→V→Hp→Prop}(w:Zas J n y H)(hn:n<sizeLine)(s:Nat→List (Option V))(hs:∀i,(s i).length=own)(c:Nat→Bool)(R:Nat→V→Hp→Prop)
  (mono:∀i v H1 H2,Zd H1 H2→R i v H1→R i v H2)
  (hg:∀i a H' v H2 (Kg:St→Hp→Prop),i<n→Zd H H'→y i H' v H2→a.length=own→(∀H3,Zd H' H3→Kg (s i++ix.map fun j=>(σ[j]?).join) H3)→g v (a++ix.map fun j=>(σ[j]?).join) H2 Kg)
  (hc:∀i H' (Kc:Bool→Hp→Prop),i<n→Zd H H'→(∀H4,Zd H' H4→Kc (c i) H4)→tc (s i++ix.map fun j=>(σ[j]?).join) H' Kc)
  (he:∀p i H' (Kc:VK),i<n→c i=true→H p=none→(∃ys,H' p=some (.lst ys))→Zd H H'→(∀v H5,Zd H' H5→R i v (hid H5 p)→Kc v H5)→te (s i++ix.map fun j=>(σ[j]?).join) H' Kc)
  (q:∀p H' ys,H p=none→Zd H H'→H' p=some (.lst ys)→Paired (fun i v=>R i v (hid H' p)) ((List.range n).filter c) ys→Q p H'):
  ∀p,H p=none→∃W:Nat→Nat→List V→St→Hp→Prop,(∃m,W 0 m [] (Zb7 own ix σ) (upd H p (.lst [])))∧∀i m ys σ' H',W i m ys σ' H'→
   (J.stop i H'∧Q p H')∨(J.go i H'∧∀x H2,J.yld i H' x H2→g x σ' H2 fun σ2 H3=>tc σ2 H3 fun b H4=>
    if b=true then te σ2 H4 fun v H5=>H5 p=some (.lst ys)∧ys.length<sizeLine∧∃m',m'<m∧W (i+1) m' (ys++ [v]) σ2 (upd H5 p (.lst (ys++ [v])))
    else ∃m',m'<m∧W (i+1) m' ys σ2 H4):=by
 intro p hp;have hidS:∀{H1 H2:Hp},Zd H1 H2→Zd (hid H1 p) (hid H2 p):=fun{H1 H2} e b o z=>by
  by_cases h:b=p
  ·rw[h,Zc7] at z;cases z
  ·rw[ZaU h] at z⊢;exact e b o z
 have hidU:∀{H1:Hp}{o:HO},Zd (hid H1 p) (hid (upd H1 p o) p):=fun{H1 o} b u z=>by
  by_cases h:b=p
  ·rw[h,Zc7] at z;cases z
  ·rw[ZaU h] at z⊢;rw[Zg h];exact z
 refine⟨fun i m ys σ' H'=>m=n-i∧i≤n∧(∃a,a.length=own∧σ'=a++ix.map fun j=>(σ[j]?).join)∧Zd H H'∧H' p=some (.lst ys)∧Paired (fun i v=>R i v (hid H' p)) ((List.range i).filter c) ys,
  ⟨n,by simp,Nat.zero_le _,⟨List.replicate own none,List.length_replicate,rfl⟩,Zo hp,Ze,.nil⟩,?_⟩
 rintro i m ys σ' H' ⟨rfl,hi,⟨a,ha,rfl⟩,sm,hy,hl⟩
 by_cases hlt:i<n
 ·refine .inr ⟨w.go H' i sm hlt,fun x H2 yl=>?_⟩;have hlen:ys.length≤i:=by
   rw[←Paired.length hl];exact Nat.le_trans (List.length_filter_le _ _) (by simp)
  refine hg i a H' x H2 _ hlt sm (w.yld H' i x H2 sm hlt yl) ha fun H3 s3=>?_;refine hc i H3 _ hlt (sm.trans s3) fun H4 s4=>?_;have sm4:=(sm.trans s3).trans s4;have hy4:=s4 _ _ (s3 _ _ hy);have step:(List.range (i+1)).filter c=(List.range i).filter c++(if c i=true then[i] else[]):=by
   rw[List.range_succ,List.filter_append]
   congr 1
   by_cases h:c i=true<;>simp[h]
  have hl4:Paired (fun i v=>R i v (hid H4 p)) ((List.range i).filter c) ys:=Paired.mapP hl fun _ _ z=>mono _ _ _ _ (hidS (s3.trans s4)) z
  by_cases hci:c i=true
  ·rw[hci,if_pos rfl];refine he p i H4 _ hlt hci hp ⟨ys,hy4⟩ sm4 fun v H5 s5 r5=>⟨s5 _ _ hy4,by omega,n-(i+1),by omega,rfl,hlt,⟨s i,hs i,rfl⟩,(sm4.trans s5).new hp,Ze,?_⟩;rw[step,if_pos hci];exact Paired.snoc (Paired.mapP hl4 fun _ _ z=>mono _ _ _ _ ((hidS s5).trans hidU) z) (mono _ _ _ _ hidU r5)
  ·have hcf:c i=false:=by simpa using hci
   rw[hcf,if_neg Bool.false_ne_true];refine⟨n-(i+1),by omega,rfl,hlt,⟨s i,hs i,rfl⟩,sm4,hy4,?_⟩;rw[step,if_neg hci,List.append_nil];exact hl4
 ·have e:i=n:=by omega
  subst e;exact .inl ⟨w.stop H' sm,q p H' ys hp sm hy hl⟩
theorem ZgA{H:Hp}{p u:Addr}{o:HO}(h:∃ys,H p=some (.lst ys))(hu:H u=none):hid (upd H u o) p u=some o:=by
 have n:u≠p:=fun z=>by
  obtain⟨ys,e⟩:=h;rw[←z,hu] at e;cases e
 rw[ZaU n,Ze]
theorem Zfs{H H':Hp}{p u:Addr}{o:HO}(h:∃ys,H p=some (.lst ys))(hu:H u=none)(hu':H' u=some o):hid H' p u=some o:=by
 have n:u≠p:=fun z=>by
  obtain⟨ys,e⟩:=h;rw[←z,hu] at e;cases e
 rw[ZaU n,hu']
theorem Zft{H H':Hp}{p b:Addr}{xs:List V}(h:∃ys,H p=some (.lst ys))(s:Zd H H')(e:H' b=some (.tup xs)):hid H' p b=some (.tup xs):=by
 have n:b≠p:=fun z=>by
  obtain⟨ys,e'⟩:=h;rw[z,s _ _ e'] at e;cases e
 rw[ZaU n,e]
theorem UZ{R:Nat→V→Hp→Prop}{H:Hp}{r:Nat→V}(h:∀i v,R i v H→v=r i):∀{is:List Nat}{ys:List V},Paired (fun i v=>R i v H) is ys→ys=is.map r
 |_,_,.nil=>rfl
 |_,_,.cons a t=>by rw[h _ _ a,UZ h t];rfl
theorem VG{J:It}{n:Nat}{y:Nat→Hp→V→Hp→Prop}{H0:Hp}(w:Zas J n y H0){g:TG}{tb:TS}{D:Vz}{σ:St}{H:Hp}(Pv:Nat→St→Hp→Prop)(h0:Pv 0 σ H)(hk:∀i σ H,Pv i σ H→Zd H0 H)
  (hs:∀i σ H v H',i<n→Pv i σ H→y i H v H'→g v σ H' fun σ2 H2=>tb {D with nx:=Pv (i+1),ct:=Pv (i+1),bk:=D.nx} σ2 H2) (hd:∀σ H,Pv n σ H→D.nx σ H):
  ∃W:Nat→Nat→St→Hp→Prop,(∃m,W 0 m σ H)∧∀i m σ H,W i m σ H→
   (J.stop i H∧D.nx σ H)∨(J.go i H∧∃N:St→Hp→Prop,(∀σ' H',N σ' H'→∃m',m'<m∧W (i+1) m' σ' H')∧∀x H',J.yld i H x H'→g x σ H' fun σ2 H2=>tb {D with nx:=N,ct:=N,bk:=D.nx} σ2 H2):=by
 refine⟨fun i m σ H=>m=n-i∧i≤n∧Pv i σ H,⟨n,by simp,Nat.zero_le _,h0⟩,?_⟩;rintro i m σ H ⟨rfl,hi,p⟩;have sm:=hk i σ H p
 by_cases hlt:i<n
 ·exact .inr ⟨w.go H i sm hlt,Pv (i+1),fun σ' H' p'=>⟨n-(i+1),by omega,rfl,hlt,p'⟩,fun x H' yl=>hs i σ H x H' hlt p (w.yld H i x H' sm hlt yl)⟩
 ·have e:i=n:=by omega
  subst e;exact .inl ⟨w.stop H sm,hd σ H p⟩
namespace Rd
section
variable {σ:St}{H:Hp}{Q:VK}{D:Vz}{K:PySem.W.Frag}
theorem ZlU{n:Nat}{ix:List Nat}{wi:TI}{g:TG}{tc:TT}{te:TE}(h:wi σ H fun J H1=>∀p,H1 p=none→
 ∃W:Nat→Nat→List V→St→Hp→Prop,(∃m,W 0 m [] (Zb7 n ix σ) (upd H1 p (.lst [])))∧∀i m ys σ' H',W i m ys σ' H'→
  (J.stop i H'∧Q (.ref p) H')∨(J.go i H'∧∀x H2,J.yld i H' x H2→g x σ' H2 fun σ2 H3=>tc σ2 H3 fun b H4=>
   if b=true then te σ2 H4 fun v H5=>H5 p=some (.lst ys)∧ys.length<sizeLine∧∃m',m'<m∧W (i+1) m' (ys++ [v]) σ2 (upd H5 p (.lst (ys++ [v])))
   else ∃m',m'<m∧W (i+1) m' ys σ2 H4)):Zfc n ix wi g tc te σ H Q:=h
theorem Zmd{ts:TA}{R:It→Hp→Prop}(h:ts σ H fun vs H1=>∃a,vs=[.ref a]∧(∃xs,SqL K H1 a xs)∧R (Ite K a) H1):Zke K ts σ H R:=h
theorem ZlR{a:Addr}{xs:List V}{G:Addr→Prop}(h:SqL K H a xs)(q:G a):∃a',[V.ref a]=[.ref a']∧(∃xs,SqL K H a' xs)∧G a':=⟨a,rfl,⟨xs,h⟩,q⟩
theorem ZmH(h:∀p,H p=none→Q (.ref p) (upd H p (.dK []))):tDNewK σ H Q:=h
theorem Zm7{a:Addr}{kvs:List (Key×V)}{x:Str}(h:H a=some (.dK kvs))(q:Q (.bl (valV kvs (Sum.inr x)).isSome) H):rDIn (.str x) (.ref a) H Q:=⟨a,_,rfl,UN.k (k:=Sum.inr x) h,q⟩
theorem Zmp{a:Addr}{kvs:List (Key×V)}{x:Int}(h:H a=some (.dK kvs))(q:Q (.bl (!(valV kvs (Sum.inl x)).isSome)) H):rDNotIn (.int x) (.ref a) H Q:=⟨a,_,rfl,UN.k (k:=Sum.inl x) h,q⟩
theorem Zl6{a:Addr}{kvs:List (Key×V)}{x:Int}{v:V}(h:H a=some (.dK kvs))(e:valV kvs (Sum.inl x)=some v)(q:Q v H):rIxD (.ref a) (.int x) H Q:=⟨a,v,rfl,by rw[←e];exact UN.k (k:=Sum.inl x) h,q⟩
theorem Zl8{a:Addr}{kvs:List (Key×V)}{x:Str}{v:V}{Q:Hp→Prop}(h:H a=some (.dK kvs))(hl:kvs.length<sizeLine)(q:Q (upd H a (.dK (Z9 kvs (Sum.inr x) v)))):rSetD (.ref a) (.str x) v H Q:=⟨a,_,rfl,ZdV.k (k:=Sum.inr x) h hl,q⟩
theorem Zl4{a:Addr}{kvs:List (Key×V)}{x:Int}{v:V}{Q:Hp→Prop}(h:H a=some (.dK kvs))(hl:kvs.length<sizeLine)(q:Q (upd H a (.dK (Z9 kvs (Sum.inl x) v)))):rSetD (.ref a) (.int x) v H Q:=⟨a,_,rfl,ZdV.k (k:=Sum.inl x) h hl,q⟩
theorem ZmW{a:Addr}{kvs:List (Key×V)}(h:H a=some (.dK kvs))(q:Q (.int kvs.length) H):rLenD [.ref a] H Q:=⟨a,kvs,rfl,h,q⟩
theorem Zmh{a:Addr}{kvs:List (Key×V)}(h:H a=some (.dK kvs))(q:∀l,H l=none→Q (.ref l) (upd H l (.lst (kvs.map fun kv=>kV kv.1)))):rListD [.ref a] H Q:=⟨a,kvs,rfl,h,q⟩
theorem slT{a:Addr}{xs:List V}{lo hi:Option Int}(h:SqT K H a xs)(hw:¬(HT.sIx xs.length 0 lo=0∧HT.sIx xs.length xs.length hi=xs.length))(q:∀p,H p=none→Q (.ref p) (upd H p (.tup (Uf xs lo hi)))):ZdY K (.ref a) lo hi H Q:= .inr (.inl ⟨a,xs,rfl,h,hw,q⟩)
theorem ZmZ{r1 r2 r3:R2}{a b:Addr}{xs ys:List V}(ha:SqT K H a xs)(hb:SqT K H b ys)(h1:xs≠[])(h2:ys≠[])(hl:xs.length+ys.length≤sizeLine)(q:∀p,H p=none→Q (.ref p) (upd H p (.tup (xs++ys)))):
  rOr r1 (rOr r2 (rOr r3 (ZeW K))) (.ref a) (.ref b) H Q:= .inr (.inr (.inr ⟨a,b,xs,ys,rfl,rfl,ha,hb,h1,hl,fun z=>absurd z h2,fun _=>q⟩))
theorem ZmU{to ti te:TE}{tget:V→V→Hp→VK→Prop}{tip:TIp}{tset:ZcX}(h:to σ H fun o H1=>ti σ H1 fun i H2=>tget o i H2 fun x H3=>te σ H3 fun y H4=>tip x y H4 fun z H5=>tset o i z H5 fun H6=>D.nx σ H6):Zkd to ti te tget tip tset D σ H:=h
theorem ipi{f:Int→Int→Int}{i j:Int}(q:Q (.int (f i j)) H):ipI f (.int i) (.int j) H Q:=⟨i,j,rfl,rfl,q⟩
end
end Rd
section
variable {X:Cx}
theorem ZjE:Zjo X (ZdR X.K):=by
 intro pins s σ H o i ov iv Q I ro ri h;obtain⟨p,xs,k,z,rfl,rfl,hq,he,q⟩:=h;cases ro;obtain⟨t,rfl⟩:=ri;obtain⟨its,r,pl,hz⟩:=I.list hq;obtain⟨j,h1,h2,h3,h4,h5⟩:=Zci he;obtain⟨w,ew,rw'⟩:=r.get h2;have hl:=r.length;have hn:=V1;have fin:EP X pins σ Q w s:=⟨z,H,I,rw',q⟩
 by_cases h0:0≤k
 ·have hj:k.toNat=j:=by
   rw[seqIndex_of h0 h5] at h1;exact Option.some.inj h1
  exact wpAny_getItem_list pl.isList h0 (by omega) (by rw[hj];simpa using ew) fin
 ·have hj:(k+(its.toArray.size:Int)).toNat=j:=by
   rw[seqIndex_neg (by omega) h4] at h1;rw[List.size_toArray,←hl];exact Option.some.inj h1
  exact wpAny_getItem_list_neg pl.isList (by omega) (by rw[List.size_toArray]<;>omega) (by omega) (by rw[hj];simpa using ew) fin
theorem ZbW{K:PySem.W.Frag}(e:X.K=K):Zjo X (ZdR K):=e▸ZjE
end
end L2
namespace L2
open PySem PySem.Spec PyProof.Rows
section
variable {X:Cx}{K:PySem.W.Frag}
end
namespace Rd
section
variable {σ:St}{H:Hp}{Q:VK}{K:PySem.W.Frag}
end
end Rd
theorem ZjQ(ns ms:List Int):PyData.eqv (.list (ns.map PyData.int)) (.list (ms.map PyData.int))=decide (ns=ms):=by
 have h:∀ns ms:List Int,PyData.eqvAll (ns.map PyData.int) (ms.map PyData.int)=decide (ns=ms):=by
  intro ns
  induction ns with
  |nil=>intro ms;cases ms<;>simp[PyData.eqvAll]
  |cons n ns ih=>
   intro ms;cases ms with
   |nil=>simp[PyData.eqvAll]
   |cons m ms=>
    simp only[List.map_cons,PyData.eqvAll,PyData.eqv,ih]
    by_cases e:n=m
    ·subst e;simp
    ·simp[e]
 simp only[PyData.eqv];exact h ns ms
end L2
namespace L2
open PySem PySem.Spec PyProof.Rows
section
variable {X:Cx}
noncomputable def rUpdD:V→List V→Hp→VK→Prop:=fun x vs H Q=>∃a b kvs more,x= .ref a∧vs=[.ref b]∧a≠b∧H a=some (.dK kvs)∧H b=some (.dK more)∧kvs.length+more.length≤sizeLine∧Q .non (upd H a (.dK (Yn kvs more)))
theorem Zkz:MtR X "dict.update" rUpdD:=by
 intro pins s σ H x xs v us Q I rx rs h;obtain⟨a,b,kvs,more,rfl,rfl,ne,ha,hb,hl,q⟩:=h;cases rx;obtain⟨u,rfl,ru⟩:=Ve rs;cases ru;obtain⟨z,hd,vs,rel,dd⟩:=ZaN I.hok ha;obtain⟨z2,hd2,rs2,rel2,dd2⟩:=ZaN I.hok hb;refine call_meetsIn PySem.F.slot_dict_update dd.typeIs PySem.F.entry_dict_update (PySem.F.args_dict_update_2 _ _) (meets_dict_update (ZP X.prog X.w) a b ne hd2) ⟨vs,rs2,dd,dd2,by rw[←rel.length,←rel2.length];exact hl,fun h' dd' _ hs=>?_⟩;have hm:=Vw more kvs;have he:∃q,h'.get? a=some q:=let⟨q,_,_,hq,_⟩:=dd';⟨q,hq⟩
 exact⟨.non,_,ZaT (t':=s.toks) I (by rw[ha];exact True.intro) hs he (ZdH (by omega) hd (rel2.merge rel) dd'),rfl,q⟩
end
end L2
namespace L2
open PySem PySem.Spec PyProof.Rows
section
variable {X:Cx}
end
theorem ZhG{own:Nat}{ix:List Nat}{g:TG}{tc:TT}{Q:Addr→Hp→Prop}{σ:St}{H:Hp}{J:It}{n:Nat}{y:Nat→Hp→V→Hp→Prop}(w:Zas J n y H)(hn:n<sizeLine)(s:Nat→List (Option V))(hs:∀i,(s i).length=own)
  (hg:∀i a H' v H2 (Kg:St→Hp→Prop),i<n→Zd H H'→y i H' v H2→a.length=own→(∀H3,Zd H' H3→Kg (s i++ix.map fun j=>(σ[j]?).join) H3)→g v (a++ix.map fun j=>(σ[j]?).join) H2 Kg)
  (hc:∀i H' (Kc:Bool→Hp→Prop),i<n→Zd H H'→Kc true H'→tc (s i++ix.map fun j=>(σ[j]?).join) H' Kc)
  (q:∀p H' (ia:List Addr),H p=none→Zd H H'→H' p=some (.lst (ia.map V.ref))→ia.length=n→ia.Nodup→(∀x∈ia,H x=none∧x≠p∧H' x=some (.lst []))→Q p H'):
  ∀p,H p=none→∃W:Nat→Nat→List V→St→Hp→Prop,(∃m,W 0 m [] (Zb7 own ix σ) (upd H p (.lst [])))∧∀i m ys σ' H',W i m ys σ' H'→
   (J.stop i H'∧Q p H')∨(J.go i H'∧∀x H2,J.yld i H' x H2→g x σ' H2 fun σ2 H3=>tc σ2 H3 fun b H4=>
    if b=true then Zi7 tNil σ2 H4 fun v H5=>H5 p=some (.lst ys)∧ys.length<sizeLine∧∃m',m'<m∧W (i+1) m' (ys++ [v]) σ2 (upd H5 p (.lst (ys++ [v])))
    else ∃m',m'<m∧W (i+1) m' ys σ2 H4):=by
 intro p hp;refine⟨fun i m ys σ' H'=>m=n-i∧i≤n∧(∃a,a.length=own∧σ'=a++ix.map fun j=>(σ[j]?).join)∧Zd H H'∧∃ia:List Addr,ys=ia.map V.ref∧H' p=some (.lst (ia.map V.ref))∧ia.length=i∧ia.Nodup∧∀x∈ia,H x=none∧x≠p∧H' x=some (.lst []),
  ⟨n,by simp,Nat.zero_le _,⟨List.replicate own none,List.length_replicate,rfl⟩,Zo hp,[],rfl,Ze,rfl,.nil,by simp⟩,?_⟩
 rintro i m ys σ' H' ⟨rfl,hi,⟨a,ha,rfl⟩,sm,ia,rfl,hy,hil,hnd,hia⟩
 by_cases hlt:i<n
 ·refine .inr ⟨w.go H' i sm hlt,fun x H2 yl=>?_⟩;refine hg i a H' x H2 _ hlt sm (w.yld H' i x H2 sm hlt yl) ha fun H3 s3=>?_;refine hc i H3 _ hlt (sm.trans s3) ?_;rw[if_pos rfl];show(0:Nat)≤sizeLine∧_;refine⟨Nat.zero_le _,fun u hu=>?_⟩;have sm3:=sm.trans s3;have hy3:=s3 _ _ hy;have nup:u≠p:=fun z=>by rw[z,hy3] at hu;cases hu
  have s4:Zd H3 (upd H3 u (.lst [])):=Zo hu;refine⟨s4 _ _ hy3,by rw[List.length_map];omega,n-(i+1),by omega,rfl,hlt,⟨s i,hs i,rfl⟩,(sm3.trans s4).new hp,ia++ [u],by simp,by rw[Ze];simp,by simp[hil],?_,fun x hx=>?_⟩
  ·refine List.nodup_append.mpr ⟨hnd,by simp,fun x hx z hz=>?_⟩;rw[List.mem_singleton.mp hz];intro e;have:=s3 _ _ (hia x hx).2.2;rw[e,hu] at this;cases this
  ·rcases List.mem_append.mp hx with z|z
   ·obtain⟨h1,h2,h3⟩:=hia x z;exact⟨h1,h2,by rw[Zg h2];exact s4 _ _ (s3 _ _ h3)⟩
   ·rw[List.mem_singleton.mp z];refine⟨?_,nup,by rw[Zg nup,Ze]⟩;cases e:H u with
    |none=>rfl
    |some o=>rw[sm3 _ _ e] at hu;cases hu
 ·have e:i=n:=by omega
  subst e;exact .inl ⟨w.stop H' sm,q p H' ia hp sm hy hil hnd hia⟩
namespace Rd
section
variable {H:Hp}{Q:VK}
theorem ZmF{a b:Addr}{kvs more:List (Key×V)}(ne:a≠b)(ha:H a=some (.dK kvs))(hb:H b=some (.dK more))(hl:kvs.length+more.length≤sizeLine)(q:Q .non (upd H a (.dK (Yn kvs more)))):rUpdD (.ref a) [.ref b] H Q:=⟨a,b,kvs,more,rfl,rfl,ne,ha,hb,hl,q⟩
end
end Rd
end L2
namespace L2
open PySem PySem.Spec PyProof.Rows
section
variable {X:Cx}{pins:List (Addr×Obj)}{σ:St}{H:Hp}{s:Shared}
theorem Inv.freeze{a:Addr}{kvs:List (Key×V)}(I:Inv X pins σ H s)(e:Rd H a (.dK kvs)):∃o,s.heap.get? a=some o∧Inv X pins σ (upd H a (.frz o (.dK kvs))) s:=by
 have ok:Z2 X.prog X.w H s.heap a (.dK kvs):=e.ok I.hok;rcases e with e|⟨o,e⟩
 ·obtain⟨_,_,vs,_,dd⟩:=ZaN I.hok e;obtain⟨ep,hat⟩:=dd.dictAt;obtain⟨o,es,ho,_⟩:=id hat;exact⟨o,ho,I.write (x:=a) (e:=a) (o:= .frz o (.dK kvs)) (t':=s.toks) (by rw[e];exact True.intro) (.inl rfl) (fun b u _ q=>q) ⟨o,ho⟩ ⟨ho,ok⟩⟩
 ·have hx:upd H a (.frz o (.dK kvs))=H:=by
   funext b
   by_cases z:b=a
   ·rw[z,Ze,e]
   ·rw[Zg z]
  exact⟨o,(show Z2 X.prog X.w H s.heap a (.frz o (.dK kvs)) from I.hok a _ e).1,by rw[hx];exact I⟩
theorem KV.fwd{kvs:List (Key×V)}{vs:List (Key×Value)}(r:KV kvs vs):∀{j:Nat}{kv:Key×V},kvs[j]? =some kv→∃u,vs[j]? =some (kv.1,u)∧ZG kv.2 u:=by
 unfold KV at r
 induction r with
 |nil=>intro j kv e;simp at e
 | @cons p q ps qs h t ih=>
  intro j kv e;cases j with
  |zero=>
   simp at e;subst e;obtain⟨q1,q2⟩:=q;exact⟨q2,by simp[h.1],h.2⟩
  |succ j=>
   obtain⟨u,h1,h2⟩:=ih (j:=j) (kv:=kv) (by simpa using e);exact⟨u,by simpa using h1,h2⟩
end
noncomputable def Itv (d:Addr) (o:Obj) (kvs:List (Key×V)):It:=
 ⟨fun i H=>H d=some (.frz o (.dK kvs))∧i<kvs.length,fun i H x H'=>H'=H∧∃kv,kvs[i]? =some kv∧x=kv.2,fun i H=>H d=some (.frz o (.dK kvs))∧kvs.length≤i⟩
noncomputable def Itp (d:Addr) (o:Obj) (kvs:List (Key×V)):It:=
 ⟨fun i H=>H d=some (.frz o (.dK kvs))∧i<kvs.length,fun i H x H'=>∃t kv,kvs[i]? =some kv∧H t=none∧x= .ref t∧H'=upd H t (.tup [kV kv.1,kv.2]),fun i H=>H d=some (.frz o (.dK kvs))∧kvs.length≤i⟩
theorem ZdW:entryFor table "dict_itemiterator.__iter__" =some Builtin.«dict_keyiterator.__iter__»:=entryFor_alias (id':="dict_keyiterator.__iter__") (by kernel_rfl) rfl (by decide+kernel) (by kernel_rfl)
theorem ZeO{P:Program}{w:World}{A:Around}{E:Value→Shared→Prop}{s:Shared}{it d:Addr}{i n ep:Nat}{ok ov:Value}{Q:Value→Shared→Prop}(hit:IsItemIter s.heap it d i n ep ok ov)(h:Q (.ref it) s):wpAny (model P w) A (pyIter (.ref it)) Q E s:=by
 have ty:s.TypeIs (.ref it) "dict_itemiterator" :=⟨_,hit,rfl⟩;refine wpAny_pyIter_slot ty PySem.F.slot_dict_itemiterator_iter (wpAny_call_entry PySem.F.slot_dict_itemiterator_iter ty ZdW (show wpAny _ _ (ret (Value.ref it)) _ _ s from wpAny_pure ⟨_,rfl,"dict_itemiterator",_,ty,PySem.F.slot_dict_itemiterator_next.lookup,h⟩) (PySem.F.args_dict_itemiterator_iter_1 _))
section
variable {P:Program}{w:World}{K:PySem.W.Frag}
theorem ZhT{tg:Expr}(d it:Addr)(o:Obj)(kvs:List (Key×V))(vs:List (Key×Value))(ep:Nat)(rel:KV kvs vs)(hd:∀h:Heap,h.get? d=some o→h.DictAt (ZP P w) d vs ep):Zbr P w K tg (Itv d o kvs) [it] it (fun i h=>h.IsValIter it d i vs.length ep) where
 mem:=by simp
 obj:=fun i h st b hb=>by
  have e:b=it:=by simpa using hb
  subst e;obtain⟨o,e,c,dd⟩:=st;exact⟨o,e,fun v z=>by rw[dd] at z;cases z⟩
 keep:=fun i h h' st k=>st.at fun o q=>k it (by simp) o q
 item:=by
  intro X hP hw hK hc i pins s σ H E I hf st hg;subst hP hw hK;obtain⟨he,hi⟩:=hg;have ho:=(show Z2 X.prog X.w H s.heap d (.frz o (.dK kvs)) from I.hok d _ he).1;obtain⟨f0,f1,f2,f3,f4,f5⟩:=hf it (by simp);obtain⟨u,hu,ru⟩:=rel.fwd (List.getElem?_eq_getElem hi);refine wpAny_pyNext_values_item st (hd _ ho) hu fun h' st' sb=>?_;have I1:Inv X pins σ H {s with heap:=h',toks:=s.toks}:=I.turned (t':=s.toks) (fun b q hb e=>(sb.2 b hb).trans e) f0 f1 f3 f4 f5;obtain⟨q,e,c,dd⟩:=id st';exact⟨_,rfl,ZeX (s:={s with heap:=h',toks:=s.toks}) e c dd (by decide) ⟨_,H,I1,ru,⟨rfl,kvs[i],List.getElem?_eq_getElem hi,rfl⟩,st',fun b hb=>(hf b hb).1⟩⟩
 done:=by
  intro X hP hw hK hc i pins s σ H E I hf st hg;subst hP hw hK;obtain⟨he,hi⟩:=hg;have ho:=(show Z2 X.prog X.w H s.heap d (.frz o (.dK kvs)) from I.hok d _ he).1;obtain⟨f0,f1,f2,f3,f4,f5⟩:=hf it (by simp);exact wpAny_pyNext_values_end (I.ok.hd hc) st (hd _ ho) (List.getElem?_eq_none (by rw[←rel.length];exact hi)) fun h' eb=>⟨rfl,I.turned (t':=s.toks) (fun b q hb e=>eb b q hb e) f0 f1 f3 f4 f5⟩
 self:=fun _ _ _ _ _ st h=>wpAny_pyIter_valiter st h
theorem Zhv{elts:List Expr}{k1:Nat}{pos:Pos}(d it:Addr)(o:Obj)(kvs:List (Key×V))(vs:List (Key×Value))(ep:Nat)(rel:KV kvs vs)(hd:∀h:Heap,h.get? d=some o→h.DictAt (ZP P w) d vs ep):
  Zbr P w K (.Tuple elts k1 pos) (Itp d o kvs) [it] it (fun i h=>∃ok ov,IsItemIter h it d i vs.length ep ok ov) where
 mem:=by simp
 obj:=fun i h st b hb=>by
  obtain⟨ok,ov,e⟩:=st;rw[List.mem_singleton.mp hb];exact⟨_,e,fun v z=>by
   have z':Data.fields _=Data.cell v:=z;cases z'⟩
 keep:=fun i h h' st k=>let⟨ok,ov,e⟩:=st;⟨ok,ov,k it (by simp) _ e⟩
 item:=by
  intro X hP hw hK hc i pins s σ H E I hf st hg;subst hP hw hK;obtain⟨he,hi⟩:=hg;obtain⟨ok,ov,hit⟩:=st;have ho:=(show Z2 X.prog X.w H s.heap d (.frz o (.dK kvs)) from I.hok d _ he).1;obtain⟨u,hu,ru⟩:=rel.fwd (List.getElem?_eq_getElem hi);refine wpAny_pyNext_items_item hit (hd _ ho) hu fun key h' hkey hout hT hsz hk=>?_;have hfr:=I.hok.fresh (Nat.le_refl s.heap.objs.size);have hilt:it<s.heap.objs.size:=Heap.lt_size hit;refine⟨_,rfl,wpAny_letOwnedTupleGo_items hout fun h2 he2 hs2=>?_⟩;have hT2:h2.get? s.heap.objs.size=some {cls:= .type "tuple",data:= .seq #[key,u]}:=hs2.extBut _ _ (Nat.ne_of_gt hilt) hT;have I1:Inv X pins σ (upd H s.heap.objs.size (.tup [kV kvs[i].1,kvs[i].2])) {s with heap:=h2,toks:=s.toks}:=
   I.turnedNew (fp:=[it]) (fun b q hb e=>by
    have n1:b≠it:=fun z=>hb (by simp[z]);exact hs2.extBut b q n1 (hk b q n1 e)) hf (Nat.le_refl _) ⟨by show 2≤sizeLine;decide,[key,u],.cons (Zkb hkey) (.cons ru .nil),_,hT2,rfl,_,rfl⟩
  refine⟨.ref s.heap.objs.size,_,I1,rfl,⟨_,kvs[i],List.getElem?_eq_getElem hi,hfr,rfl,rfl⟩,⟨_,_,he2⟩,fun b hb=>?_⟩;have nb:b≠s.heap.objs.size:=by rw[List.mem_singleton.mp hb];exact Nat.ne_of_lt hilt
  rw[Zg nb];exact(hf b hb).1
 done:=by
  intro X hP hw hK hc i pins s σ H E I hf st hg;subst hP hw hK;obtain⟨he,hi⟩:=hg;obtain⟨ok,ov,hit⟩:=st;have ho:=(show Z2 X.prog X.w H s.heap d (.frz o (.dK kvs)) from I.hok d _ he).1;obtain⟨f0,f1,f2,f3,f4,f5⟩:=hf it (by simp);exact wpAny_pyNext_items_end (I.ok.hd hc) hit (hd _ ho) (List.getElem?_eq_none (by rw[←rel.length];exact hi)) fun h' eb=>⟨rfl,I.turned (t':=s.toks) (fun b q hb e=>eb b q hb e) f0 f1 f3 f4 f5⟩
 self:=fun _ _ _ _ _ st h=>by
  obtain⟨ok,ov,e⟩:=st;exact ZeO e h
end
section
variable {X:Cx}{tg:Expr}
noncomputable def ZjX (td:TE):TI:=fun σ H R=>td σ H fun x H1=>∃a kvs,x= .ref a∧Rd H1 a (.dK kvs)∧∀o,R (Itv a o kvs) (upd H1 a (.frz o (.dK kvs)))
noncomputable def Zib (td:TE):TI:=fun σ H R=>td σ H fun x H1=>∃a kvs,x= .ref a∧Rd H1 a (.dK kvs)∧∀o,R (Itp a o kvs) (upd H1 a (.frz o (.dK kvs)))
theorem Zkx{d:Expr}{td:TE}{apos cpos:Pos}(hd:PE X d td)(hbase:attributeBase d "values" X.env (eval d X.env)=eval d X.env:=by rfl)(hline:(apos.endLine==cpos.line)=true:=by rfl):
  PI X tg (.Call (.Attribute d "values" apos) [] [] cpos) (ZjX td):=by
 intro pins s σ H R I h;refine wpAny_Call_method0_late hbase hline (thn (hd pins s σ H _ I h) fun v s1 ⟨x,H1,I1,r1,q1⟩=>?_);obtain⟨a,kvs,rfl,hr,q⟩:=q1;cases r1;obtain⟨z,hsm,vs,rel,dd⟩:=ZaJ I1.hok hr;obtain⟨ep,hat⟩:=dd.dictAt;obtain⟨o,ho,I2⟩:=I1.freeze hr;have keepd:∀h:Heap,h.get? a=some o→h.DictAt (ZP X.prog X.w) a vs ep:=fun h e=>hat.at' fun o' e'=>by rw[ho] at e';cases e';exact e
 refine⟨"dict","dict.values",PySem.F.plainAttrs_dict,PySem.F.slot_dict_values,PySem.F.type_dict_values,dd.typeIs,dd.mapOf.noDict,Calls.callWith_builtin rfl (PySem.evalArgs_none ?_)⟩;refine call_meetsIn PySem.F.slot_dict_values dd.typeIs PySem.F.entry_dict_values (PySem.F.args_dict_values_1 _) (meets_dict_values (ZP X.prog X.w) a hsm) ⟨⟨vs,dd⟩,?_⟩;refine wpAny_pyIter_values (knd:=ZP X.prog X.w) (d:=a) (kvs:=vs) (ep:=ep) ⟨_,Heap.get?_push_size _ rfl,rfl,rfl⟩ (keepd _ (Heap.get?_push_of_some _ ho)) ?_;have I3:Inv X pins σ (upd H1 a (.frz o (.dK kvs))) {s1 with heap:=s1.heap.push {cls:= .type "dict_values",data:= .fields #[.ref a]}}:=I2.kept (t':=s1.toks) fun b o e=>Heap.get?_push_of_some _ e;refine⟨(s1.heap.push {cls:= .type "dict_values",data:= .fields #[.ref a]}).objs.size,[(s1.heap.push {cls:= .type "dict_values",data:= .fields #[.ref a]}).objs.size],_,_,_,rfl,I3.kept (t':=s1.toks) fun b o e=>Heap.get?_push_of_some _ e,ZhT a _ o kvs vs ep rel keepd,⟨_,Heap.get?_push_size _ rfl,rfl,rfl⟩,fun b hb=>?_,q o⟩;rw[List.mem_singleton.mp hb];exact I3.fpOk (Nat.le_refl _) (I3.hok.fresh (Nat.le_refl _))
theorem ZfB{elts:List Expr}{k1:Nat}{tpos:Pos}{d:Expr}{td:TE}{apos cpos:Pos}(hd:PE X d td)(hbase:attributeBase d "items" X.env (eval d X.env)=eval d X.env:=by rfl)(hline:(apos.endLine==cpos.line)=true:=by rfl):
  PI X (.Tuple elts k1 tpos) (.Call (.Attribute d "items" apos) [] [] cpos) (Zib td):=by
 intro pins s σ H R I h;refine wpAny_Call_method0_late hbase hline (thn (hd pins s σ H _ I h) fun v s1 ⟨x,H1,I1,r1,q1⟩=>?_);obtain⟨a,kvs,rfl,hr,q⟩:=q1;cases r1;obtain⟨z,hsm,vs,rel,dd⟩:=ZaJ I1.hok hr;obtain⟨ep,hat⟩:=dd.dictAt;obtain⟨o,ho,I2⟩:=I1.freeze hr;have keepd:∀h:Heap,h.get? a=some o→h.DictAt (ZP X.prog X.w) a vs ep:=fun h e=>hat.at' fun o' e'=>by rw[ho] at e';cases e';exact e
 refine⟨"dict","dict.items",PySem.F.plainAttrs_dict,PySem.F.slot_dict_items,PySem.F.type_dict_items,dd.typeIs,dd.mapOf.noDict,Calls.callWith_builtin rfl (PySem.evalArgs_none ?_)⟩;refine call_meetsIn PySem.F.slot_dict_items dd.typeIs PySem.F.entry_dict_items (PySem.F.args_dict_items_1 _) (meets_dict_items (ZP X.prog X.w) a hsm) ⟨⟨vs,dd⟩,?_⟩;refine wpAny_pyIter_items (knd:=ZP X.prog X.w) (d:=a) (kvs:=vs) (ep:=ep) ⟨_,Heap.get?_push_size _ rfl,rfl,rfl⟩ (keepd _ (Heap.get?_push_of_some _ ho)) ?_;have I3:Inv X pins σ (upd H1 a (.frz o (.dK kvs))) {s1 with heap:=s1.heap.push {cls:= .type "dict_items",data:= .fields #[.ref a]}}:=I2.kept (t':=s1.toks) fun b o e=>Heap.get?_push_of_some _ e;refine⟨(s1.heap.push {cls:= .type "dict_items",data:= .fields #[.ref a]}).objs.size,[(s1.heap.push {cls:= .type "dict_items",data:= .fields #[.ref a]}).objs.size],_,_,_,rfl,I3.kept (t':=s1.toks) fun b o e=>Heap.get?_push_of_some _ e,Zhv a _ o kvs vs ep rel keepd,⟨_,_,Heap.get?_push_size _ rfl⟩,fun b hb=>?_,q o⟩;rw[List.mem_singleton.mp hb];exact I3.fpOk (Nat.le_refl _) (I3.hok.fresh (Nat.le_refl _))
end
namespace Rd
section
variable {σ:St}{H:Hp}{Q:VK}
theorem Zmk{td:TE}{R:It→Hp→Prop}(h:td σ H fun x H1=>∃a kvs,x= .ref a∧L2.Rd H1 a (.dK kvs)∧∀o,R (Itv a o kvs) (upd H1 a (.frz o (.dK kvs)))):ZjX td σ H R:=h
theorem ZiP{td:TE}{R:It→Hp→Prop}(h:td σ H fun x H1=>∃a kvs,x= .ref a∧L2.Rd H1 a (.dK kvs)∧∀o,R (Itp a o kvs) (upd H1 a (.frz o (.dK kvs)))):Zib td σ H R:=h
end
end Rd
theorem ZgY{d:Addr}{o:Obj}{kvs:List (Key×V)}{H:Hp}(h:H d=some (.frz o (.dK kvs))):Zas (Itv d o kvs) kvs.length (fun i H' v H2=>H2=H'∧∃kv,kvs[i]? =some kv∧v=kv.2) H:=
 ⟨fun H' i s hi=>⟨s _ _ h,hi⟩,fun _ _ _ _ _ _ y=>y,fun H' s=>⟨s _ _ h,Nat.le_refl _⟩⟩
theorem ZcA{d:Addr}{o:Obj}{kvs:List (Key×V)}{H:Hp}(h:H d=some (.frz o (.dK kvs))):Zas (Itp d o kvs) kvs.length (fun i H' v H2=>∃t kv,kvs[i]? =some kv∧H' t=none∧v= .ref t∧H2=upd H' t (.tup [kV kv.1,kv.2])) H:=
 ⟨fun H' i s hi=>⟨s _ _ h,hi⟩,fun _ _ _ _ _ _ y=>y,fun H' s=>⟨s _ _ h,Nat.le_refl _⟩⟩
end L2
namespace L2
open PySem PySem.Spec PyProof.Rows
section
variable {X:Cx}
end
namespace Rd
end Rd
end L2
namespace L2
open PySem PySem.Spec PyProof.Rows
section
variable {X:Cx}{K:PySem.W.Frag}
end
namespace Rd
section
variable {K:PySem.W.Frag}{σ:St}{H:Hp}{Q:VK}
end
end Rd
end L2
namespace L2
open PySem PySem.Spec PyProof.Rows
section
variable {X:Cx}
end
namespace Rd
section
variable {K:PySem.W.Frag}{σ:St}{H:Hp}
end
end Rd
end L2
namespace L2
open PySem PySem.Spec PyProof.Rows
section
variable {X:Cx}{K:PySem.W.Frag}
noncomputable def rIndexB:V→List V→Hp→VK→Prop:=fun x vs H Q=>∃(l:Addr)(bs:List Bool)(j:Nat),x= .ref l∧vs=[.bl true]∧H l=some (.lst (bs.map V.bl))∧bs[j]? =some true∧(∀m<j,bs[m]? =some false)∧Q (.int j) H
theorem ZiL:MtM X "list.index" rIndexB:=by
 intro pins s σ H x vs v us Q I rx rv h;obtain⟨l,bs,j,rfl,rfl,hH,hj,hno,q⟩:=h;cases rx;obtain⟨u,rfl,ru⟩:=Ve rv;obtain rfl:u=Value.bool true:=ru;obtain⟨z,its,n,r,hl,e⟩:=I.lstM hH;have ev:=Zbn (s:=s) r;have hjl:=(List.getElem?_eq_some_iff.mp hj).1;have hz:its.toArray.size=bs.length:=by rw[ev];simp
 have at_:∀(m:Nat)(hm:m<its.toArray.size),its.toArray[m]=Value.bool (bs[m]'(by omega)):=fun m hm=>by
  subst ev;simp
 have hn:=V1;refine call_meets F.slot_list_index ⟨_,e,rfl⟩ F.entry_list_index (F.args_list_index_2 _ _) (PySem.SeqAt.list_indexAt l its.toArray n _ _ (.bool true) (fun y=>y==Value.bool true) j (by omega) (by rw[List.length_map] at z;omega) ?_ ?_) ⟨e,fun y hy=>?_,?_⟩
 ·rw[at_ j (by omega)];have:=(List.getElem?_eq_some_iff.mp hj).2;rw[this]
  rfl
 ·intro m hm hmj;rw[at_ m hm];have:=(List.getElem?_eq_some_iff.mp (hno m hmj)).2;rw[this]
  rfl
 ·subst ev;obtain⟨b,_,rfl⟩:=List.mem_map.mp (List.mem_toArray.mp hy);have he:(Value.bool b==Value.bool true)=(b==true):=by cases b<;>rfl
  rw[he];exact PySem.SeqAt.EqAt.bool_bool b true
 ·exact⟨.int j,H,I.tok _,⟨_,rfl⟩,q⟩
end
namespace Rd
theorem Zlp{H:Hp}{Q:VK}{l:Addr}{bs:List Bool}{j:Nat}(h:H l=some (.lst (bs.map V.bl)))(hj:bs[j]? =some true)(hn:∀m<j,bs[m]? =some false)(q:Q (.int j) H):rIndexB (.ref l) [.bl true] H Q:=⟨l,bs,j,rfl,rfl,h,hj,hn,q⟩
end Rd
end L2
namespace L2
open PySem PySem.Spec PyProof.Rows
section
variable {X:Cx}{K:PySem.W.Frag}
noncomputable def ZgQ (K:PySem.W.Frag):V→List V→Hp→VK→Prop:=fun x vs H Q=>∃(l:Addr)(ns:List Int)(k:Int),x= .ref l∧vs=[.int k]∧SqL K H l (ns.map V.int)∧Q (.int (ns.count k:Nat)) H
theorem Zin(ek:X.K=K):MtM X "list.count" (ZgQ K):=by
 subst ek;intro pins s σ H x vs v us Q I rx rv h;obtain⟨l,ns,k,rfl,rfl,hH,q⟩:=h;cases rx;obtain⟨u,rfl,t,rfl⟩:=Ve rv;obtain⟨its,r,pl,hz⟩:=I.list hH;exact count_list_ints pl.isList (Zbs r) ⟨.int _,H,I.tok _,⟨_,rfl⟩,q⟩
section
variable {prog:Program}{w:World}{A:Around}{E:Value→Shared→Prop}{s:Shared}{I l:Addr}{items:Array Value}
end
end
namespace Rd
theorem ZlF{H:Hp}{K:PySem.W.Frag}{Q:VK}{l:Addr}{ns:List Int}{k:Int}(h:SqL K H l (ns.map V.int))(q:Q (.int (ns.count k:Nat)) H):ZgQ K (.ref l) [.int k] H Q:=⟨l,ns,k,rfl,rfl,h,q⟩
end Rd
end L2
namespace L2
open PySem PySem.Spec PyProof.Rows
section
variable {X:Cx}
noncomputable def rInsert:V→List V→Hp→VK→Prop:=fun x vs H Q=>∃l xs i y,x= .ref l∧vs=[.int i,y]∧H l=some (.lst xs)∧xs.length<sizeLine∧0≤i∧i≤xs.length∧Q .non (upd H l (.lst (xs.take i.toNat++y::xs.drop i.toNat)))
theorem Zet:MtM X "list.insert" rInsert:=by
 intro pins s σ H x vs v us Q I rx rv h;obtain⟨l,xs,i,y,rfl,rfl,hH,hz,i0,i1,q⟩:=h;cases rx;cases rv with
 |cons r1 rr=>
  obtain⟨u,rfl,ru⟩:=Ve rr;obtain⟨t,rfl⟩:=r1;obtain⟨z,its,n,r,hl,e⟩:=I.lstM hH;have hn:=V1;refine call_meets F.slot_list_insert ⟨_,e,rfl⟩ F.entry_list_insert (F.args_list_insert_3 _ _ _) (PySem.AutoSeq1.list_insert_list_int_val_1 l its.toArray n i t u (by rw[fitsIndex_both (by omega) (by omega)];decide) (by rw[List.size_toArray];omega)) ⟨e,?_⟩;refine⟨.non,_,I.lset (its':=its.take i.toNat++u::its.drop i.toNat) hH e ?_ ((r.take i.toNat).append (.cons ru (r.drop i.toNat))) ?_,rfl,q⟩
  ·have hk:(if i<0 then(i+(its.toArray.size:Int)).toNat else min i.toNat its.toArray.size)=i.toNat:=by
    rw[if_neg (by omega),List.size_toArray];omega
   show(its.toArray.extract 0 (if i<0 then(i+(its.toArray.size:Int)).toNat else min i.toNat its.toArray.size)).push u++its.toArray.extract (if i<0 then(i+(its.toArray.size:Int)).toNat else min i.toNat its.toArray.size)=_;rw[hk];exact PySem.W.kl_ins_eq its i.toNat u
  ·simp only[List.length_append,List.length_cons,List.length_take,List.length_drop];omega
end
namespace Rd
theorem ins{H:Hp}{Q:VK}{p:Addr}{xs:List V}{i:Int}{y:V}(h:H p=some (.lst xs))(hl:xs.length<sizeLine)(h0:0≤i)(h1:i≤xs.length)(q:Q .non (upd H p (.lst (xs.take i.toNat++y::xs.drop i.toNat)))):rInsert (.ref p) [.int i,y] H Q:=⟨p,xs,i,y,rfl,rfl,h,hl,h0,h1,q⟩
end Rd
end L2
namespace L2
open PySem PySem.Spec PySem.W PyProof.Rows Builtin Builtin.ObjectAttr Builtin.Getset_descriptor
section
variable {prog:Program}{w:World}{A:Around}{E:Value→Shared→Prop}{s:Shared}{K:Frag}{x C:Addr}
end
section
variable {X:Cx}
end
end L2
namespace L2
open PySem PySem.Spec PyProof.Rows
section
variable {X:Cx}{pins:List (Addr×Obj)}{σ:List (Option V)}{H:Hp}{s:Shared}
end
section
variable {X:Cx}
end
end L2
namespace L2
open PySem PySem.Spec PyProof.Rows
namespace Rd
section
variable {σ:St}{H:Hp}{Q:VK}{K:PySem.W.Frag}
end
end Rd
end L2
namespace L2
open PySem PySem.Spec PyProof.Rows
section
variable {X:Cx}
end
end L2
namespace HT
open PySem PyProof.Rows
section
open PySem.SeqAt
open PySem.MeetsSeq PySem.MeetsSeq2 PySem.MeetsSeq3
variable {prog:Program}{w:World}{A:Around}{E:Value→Shared→Prop}{s:Shared}
end
end HT
namespace L2
section
variable {X:Cx}{K:PySem.W.Frag}
open PySem PySem.Spec PyProof.Rows
end
namespace Rd
open PySem PySem.Spec PyProof.Rows
end Rd
end L2
namespace L2
open PySem PySem.Spec PyProof.Rows
section
def Uk(p:Array Nat):Prop:=p.toList.Pairwise (· < ·)
theorem Uk.lt{p:Array Nat}(h:Uk p){i j:Nat}(hij:i<j)(hj:j<p.size):p[i]'(Nat.lt_trans hij hj)<p[j]:=by
 have:=List.pairwise_iff_getElem.mp h i j (by simpa using Nat.lt_trans hij hj) (by simpa using hj) hij;simpa using this
theorem Zc4{p:Array Nat}{j:Nat}(hr:Uk p):∀(f lo hi:Nat),lo≤hi→hi≤p.size→hi-lo≤f→(∀i (h:i<p.size),i<lo→p[i]<j)→(∀i (h:i<p.size),hi≤i→j≤p[i])→
  SetTable.below.go p j f lo hi≤p.size∧(∀i (h:i<p.size),i<SetTable.below.go p j f lo hi→p[i]<j)∧∀i (h:i<p.size),SetTable.below.go p j f lo hi≤i→j≤p[i]
 |0,lo,hi,h1,h2,h3,h4,h5=>by
  have e:lo=hi:=by omega
  subst e;exact⟨h2,h4,h5⟩
 |f+1,lo,hi,h1,h2,h3,h4,h5=>by
  unfold SetTable.below.go
  by_cases hl:lo<hi
  ·rw[if_pos hl];have hm:(lo+hi) / 2<p.size:=by omega
   have eg:p.getD ((lo+hi) / 2) j=p[(lo+hi) / 2]:=by simp[Array.getD,hm]
   dsimp only;rw[eg]
   by_cases hc:p[(lo+hi) / 2]<j
   ·rw[if_pos hc];refine Zc4 hr f _ _ (by omega) h2 (by omega) (fun i h hi'=>?_) h5;rcases Nat.lt_or_ge i ((lo+hi) / 2) with z|z
    ·exact Nat.lt_trans (hr.lt z hm) hc
    ·have:i=(lo+hi) / 2:=by omega
     subst this;exact hc
   ·rw[if_neg hc];refine Zc4 hr f _ _ (by omega) (by omega) (by omega) h4 fun i h hi'=>?_;rcases Nat.lt_or_ge ((lo+hi) / 2) i with z|z
    ·have:=hr.lt z h;omega
    ·have:i=(lo+hi) / 2:=by omega
     subst this;omega
  ·rw[if_neg hl];have e:lo=hi:=by omega
   subst e;exact⟨h2,h4,h5⟩
theorem ZcU{p:Array Nat}(hr:Uk p)(j:Nat):SetTable.below p j≤p.size∧(∀i (h:i<p.size),i<SetTable.below p j→p[i]<j)∧∀i (h:i<p.size),SetTable.below p j≤i→j≤p[i]:=
 Zc4 hr p.size 0 p.size (Nat.zero_le _) (Nat.le_refl _) (Nat.le_refl _) (fun _ _ h=>absurd h (Nat.not_lt_zero _)) fun i h z=>absurd h (Nat.not_lt.mpr z)
theorem Zhq{p:Array Nat}(hr:Uk p){i:Nat}(hi:i<p.size):SetTable.below p (p[i]+1)=i+1:=by
 obtain⟨h1,h2,h3⟩:=ZcU hr (p[i]+1);rcases Nat.lt_trichotomy (SetTable.below p (p[i]+1)) (i+1) with z|z|z
 ·have:=h3 i hi (by omega);omega
 ·exact z
 ·have hl:i+1<p.size:=by omega
  have:=h2 (i+1) hl z;have:=hr.lt (i:=i) (j:=i+1) (Nat.lt_succ_self i) hl;omega
theorem Zg8{p:Array Nat}(hr:Uk p):SetTable.below p 0=0:=by
 obtain⟨h1,h2,h3⟩:=ZcU hr 0;rcases Nat.eq_zero_or_pos (SetTable.below p 0) with z|z
 ·exact z
 ·have:=h2 0 (by omega) z;omega
theorem Uk.insert{p:Array Nat}(hr:Uk p){j:Nat}(hn:p[SetTable.below p j]? ≠some j):Uk (SetTable.insertAt p (SetTable.below p j) j):=by
 obtain⟨h1,h2,h3⟩:=ZcU hr j;unfold Uk;rw[SetTable.toList_insertAt];generalize SetTable.below p j=b at*;refine List.pairwise_append.mpr ⟨hr.sublist (List.take_sublist _ _),List.pairwise_cons.mpr ⟨fun y hy=>?_,hr.sublist (List.drop_sublist _ _)⟩,fun x hx y hy=>?_⟩
 ·obtain⟨k,hk,rfl⟩:=List.mem_iff_getElem.mp hy;rw[List.getElem_drop];rw[List.length_drop,Array.length_toList] at hk;have hb:b<p.size:=by omega
  have hb':j<p[b]:=Nat.lt_of_le_of_ne (h3 b hb (Nat.le_refl _)) fun e=>hn (by rw[Array.getElem?_eq_getElem hb,e]);rcases Nat.eq_zero_or_pos k with rfl|hk0
  ·simpa using hb'
  ·have:=hr.lt (i:=b) (j:=b+k) (by omega) (by omega);simpa using Nat.lt_trans hb' this
 ·have hx':x<j:=by
   obtain⟨k,hk,rfl⟩:=List.mem_iff_getElem.mp hx;rw[List.length_take,Array.length_toList] at hk;rw[List.getElem_take];simpa using h2 k (by omega) (by omega)
  rcases List.mem_cons.mp hy with rfl|hy
  ·exact hx'
  ·obtain⟨k,hk,rfl⟩:=List.mem_iff_getElem.mp hy;rw[List.length_drop,Array.length_toList] at hk;rw[List.getElem_drop];have:=h3 (b+k) (by omega) (by omega);have h4:x<p[b+k]:=Nat.lt_of_lt_of_le hx' this;simpa using h4
theorem Zg1(n:Nat):Uk (Array.range n):=by
 unfold Uk;rw[Array.toList_range];exact List.pairwise_lt_range
structure Z7(led:Bool)(t:SetTable):Prop where
 rise:Uk t.place
 dum:t.dummies=#[]
 led:t.led=led
variable {led:Bool}{t:SetTable}
theorem Z7.fresh:Z7 led (.fresh 0 0 led):=⟨List.Pairwise.nil,rfl,rfl⟩
theorem Z7.standIn(g:Z7 led t)(n:Nat):Z7 led (t.standIn n):=⟨Zg1 n,rfl,g.led⟩
theorem Z7.orStandIn(g:Z7 led t)(n:Nat):Z7 led (t.orStandIn n):=by
 unfold SetTable.orStandIn
 split
 ·exact g
 ·exact g.standIn n
theorem Z7.noDummy(g:Z7 led t)(j:Nat):SetTable.has t.dummies j=false:=by
 rw[g.dum];simp[SetTable.has]
theorem Z7.slot_empty(g:Z7 led t){j:Nat}(h:t.slot j= .empty):t.place[SetTable.below t.place j]? ≠some j:=by
 intro e;unfold SetTable.slot at h;dsimp only at h;rw[e] at h;simp at h
theorem Zdz(g:Z7 led t){ha:Nat→Int}{h:Int}:∀(f:Nat)(p:SetTable.Probe)(j:Nat)(d:Option Nat),p.dummy=none→SetTable.probe.go t ha h f p=some (.empty j d)→d=none∧t.slot j= .empty
 |0,p,j,d,hp,e=>by cases e
 |f+1,p,j,d,hp,e=>by
  have adv:∀q:SetTable.Probe,(t.advance q).dummy=q.dummy:=fun q=>by
   unfold SetTable.advance
   split<;>rfl
  unfold SetTable.probe.go at e;cases hs:t.slot p.j with
  |empty=>rw[hs] at e;cases e;exact⟨hp,hs⟩
  |dummy=>
   exfalso;unfold SetTable.slot at hs;dsimp only at hs;rw[g.noDummy] at hs
   split at hs<;>simp at hs
  |live i=>
   rw[hs] at e;dsimp only at e
   split at e
   ·cases e
   ·exact Zdz g f _ j d (by rw[adv,hp]) e
theorem Z7.put(g:Z7 led t){j:Nat}(h:t.slot j= .empty):Z7 led (t.put j).1:=by
 refine⟨g.rise.insert (g.slot_empty h),?_,g.led⟩;show(if SetTable.has t.dummies j then _ else t.dummies)=#[];rw[g.noDummy];exact g.dum
theorem Z7.layNew(g:Z7 led t)(es:Array (Int×Value))(h:Int)(x:Value):Z7 led (layNew t es h x).2.1:=by
 unfold PySem.layNew
 split
 ·rename_i slot was e;dsimp only;refine Z7.orStandIn (g.put ?_) _;unfold SetTable.freeSlot at e
  split at e
  ·rename_i j d e2;obtain⟨rfl,hs⟩:=Zdz g _ _ j d rfl e2;cases e;exact hs
  ·cases e
 ·exact g.standIn _
theorem Z7.laid{mask finger moves:Nat}{pl:Bool}{hs:Array Int}{r:SetTable×Array Nat}(e:SetTable.laid mask finger moves led pl hs=some r):Z7 led r.1:=by
 unfold SetTable.laid at e;cases ho:SetTable.layClean mask hs with
 |none=>rw[ho] at e;cases e
 |some owner=>
  rw[ho] at e;cases e;refine⟨?_,rfl,rfl⟩;show List.Pairwise _ _;simp only[List.toList_toArray];rw[List.pairwise_map];refine List.Pairwise.filterMap _ (R:=(· < ·)) (fun a b hab c hc d hd=>?_) List.pairwise_lt_range;cases e1:owner.getD a none with
  |none=>rw[e1] at hc;cases hc
  |some x=>
   cases e2:owner.getD b none with
   |none=>rw[e2] at hd;cases hd
   |some y=>rw[e1] at hc;rw[e2] at hd;cases hc;cases hd;exact hab
theorem Z7.relayAll(g:Z7 led t)(es:Array (Int×Value))(n:Nat):Z7 led (relayAll t es n).2.1:=by
 unfold PySem.relayAll
 split
 ·rename_i t' order e;dsimp only
  split
  ·unfold SetTable.relaid at e;rw[g.led] at e;exact Z7.laid e
  ·exact g.standIn _
 ·exact g.standIn _
end
end L2
namespace L2
open PySem PySem.Spec PyProof.Rows
section
noncomputable def keyI:Int×Value→Int
 |(_,.int n _)=>n
 |_=>0
def Zaf(led:Bool)(ks:List Int)(o:Obj):Prop:=o.ExactSet∧∃es ep t,o.data= .set es ep t∧(∀e∈es.toList,∃n tk,e=(hashInt n,Value.int n tk))∧es.size<scanBound∧t.fits es.size=true∧Z7 led t∧(es.toList.map keyI).Perm ks
variable {prog:Program}{w:World}{A:Around}{E:Value→Shared→Prop}{s:Shared}{led:Bool}
theorem ZbG{l:List (Int×Value)}(h:∀e∈l,∃n tk,e=(hashInt n,Value.int n tk)):ElemsOf (intKind prog w) l:=fun e he=>by
 obtain⟨n,tk,rfl⟩:=h e he;exact⟨⟨n,intKind_is _ _ _ _,rfl⟩,rfl⟩
theorem Zc1{l:List (Int×Value)}(h:∀e∈l,∃n tk,e=(hashInt n,Value.int n tk)){n:Int}:(∃e∈l,(intKind prog w).is n e.2=true)↔n∈l.map keyI:=by
 constructor
 ·rintro⟨e,he,hi⟩;obtain⟨m,tk,rfl⟩:=h e he;have:n=m:=(intKind prog w).inj _ n m hi (intKind_is _ _ _ _);subst this;exact List.mem_map.mpr ⟨_,he,rfl⟩
 ·intro hm;obtain⟨e,he,hk⟩:=List.mem_map.mp hm;obtain⟨m,tk,rfl⟩:=h e he;cases hk;exact⟨_,he,intKind_is _ _ _ _⟩
theorem ZfA{g:Bool→Sem Unit}(hg:∀(b:Bool)(s1:Shared)(Q1:Unit→Shared→Prop),Q1 () s1→wpAny (model prog w) A (g b) Q1 E s1){a:Addr}{o:Obj}{es:Array (Int×Value)}{ep:Nat}{t:SetTable}{ks:List Int}{es1:Array (Int×Value)}{t2:SetTable}{was:Bool}{R:Option Bool→Shared→Prop}
  (ho:s.heap.get? a=some o) (hex:o.ExactSet) (hd:o.data= .set es ep t) (el1:∀e∈es1.toList,∃n tk,e=(hashInt n,Value.int n tk)) (k1:(es1.toList.map keyI).Perm ks) (hb1:es1.size<scanBound) (f2:t2.fits es1.size=true) (g2:Z7 led t2)
  (q:∀h' o',Heap.SameBut a s.heap h'→h'.get? a=some o'→Zaf led ks o'→R (some true) {s with heap:=h'}):
  wpAny (model prog w) A (storeSet a es1 t2 >>= fun _=>if(!was&&t2.tooFull)=true then g (relayAll t2 es1 (SetTable.grown es1.size)).2.2 >>= fun _=>storeSet a (relayAll t2 es1 (SetTable.grown es1.size)).1 (relayAll t2 es1 (SetTable.grown es1.size)).2.1 >>= fun _=>pure (some true) else pure (some true)) R E s:=by
 refine wpAny_bind (wpAny_storeSet_of ho hd ?_ (fits_of_scanBound hb1));have sb:=Heap.SameBut.update s.heap a (Obj.putSet es1 t2);obtain⟨ho1,_⟩:=SetOf_store (knd:=intKind prog w) (S':=fun k=>decide (k∈ks)) ho hex hd (ZbG el1) (fun k=>by rw[Zc1 el1,k1.mem_iff];simp) hb1 f2
 split
 ·have p3:=relayAll_perm t2 es1 (SetTable.grown es1.size);have f3:=relayAll_fits t2 es1 (SetTable.grown es1.size);have g3:=g2.relayAll es1 (SetTable.grown es1.size);generalize relayAll t2 es1 (SetTable.grown es1.size)=R at p3 f3 g3⊢;obtain⟨es2,t3,gave2⟩:=R;dsimp only at p3 f3 g3⊢;have z3:es2.size=es1.size:=by have:=p3.length_eq;simpa using this
  have hb3:es2.size<scanBound:=by rw[z3];exact hb1
  have el3:∀e∈es2.toList,∃n tk,e=(hashInt n,Value.int n tk):=fun e he=>el1 e (p3.mem_iff.mp he);have k3:(es2.toList.map keyI).Perm ks:=(p3.map keyI).trans k1;refine wpAny_bind (hg _ _ _ ?_);refine wpAny_bind (wpAny_storeSet_of ho1 rfl ?_ (fits_of_scanBound hb3));obtain⟨ho3,_⟩:=SetOf_store (knd:=intKind prog w) (S':=fun k=>decide (k∈ks)) ho1 hex rfl (ZbG el3) (fun k=>by rw[Zc1 el3,k3.mem_iff];simp) hb3 f3;exact wpAny_pure (q _ _ (sb.trans (Heap.SameBut.update _ a _)) ho3 ⟨hex,es2,_,t3,rfl,el3,hb3,f3,g3,k3⟩)
 ·exact wpAny_pure (q _ _ sb ho1 ⟨hex,es1,_,t2,rfl,el1,hb1,f2,g2,k1⟩)
theorem Zji{a:Addr}{o:Obj}{ks:List Int}{n:Int}{tk:Tok}{Q:Bool→Shared→Prop}(ho:s.heap.get? a=some o)(hS:Zaf led ks o)(hroom:ks.length+1<scanBound)
  (q:∀h' o',Heap.SameBut a s.heap h'→h'.get? a=some o'→Zaf led (step_dedup ks n) o'→∀b,Q b {s with heap:=h'}):wpAny (model prog w) A (setAddHashed a (.int n tk) (hashInt n)) Q E s:=by
 obtain⟨hex,es,ep,t,hd,hel,hb,hf,hg,hp⟩:=hS;have hE:ElemsOf (intKind prog w) es.toList:=ZbG hel;have hln:es.size=ks.length:=by have:=hp.length_eq;simpa using this
 have hmem:(∃e∈es.toList,(intKind prog w).is n e.2=true)↔n∈ks:=(Zc1 hel).trans hp.mem_iff;unfold setAddHashed setAddHashedIn;refine wpAny_holding (wpAny_bind (wpAny_setState_of ho hd hf ?_));dsimp only;rw[byScan_of (x:= .int n tk) rfl hb hE,if_pos rfl];refine wpAny_bind ?_;unfold setAddByScan;refine wpAny_bind (wpAny_rule (wpAny_bind (wpAny_setScan_of (knd:=intKind prog w) (k:=n) (intKind_is _ _ _ _) ho hd hf hE ?_)));cases hr:es.toList.findIdx? (fun e=>(intKind prog w).is n e.2) with
 |some j=>
  dsimp only;obtain⟨hj,hpj,_⟩:=List.findIdx?_eq_some_iff_getElem.mp hr;have hin:n∈ks:=hmem.mp ⟨_,List.getElem_mem hj,hpj⟩;have e:step_dedup ks n=ks:=by
   unfold step_dedup;rw[if_pos (by simpa using hin)]
  refine wpAny_pure (wpAny_pure ?_);exact q s.heap o (Heap.SameBut.refl a s.heap) ho (by rw[e];exact⟨hex,es,ep,t,hd,hel,hb,hf,hg,hp⟩) false
 |none=>
  dsimp only;have hnot:n∉ks:=fun z=>by
   obtain⟨e,he,hi⟩:=hmem.mpr z;have:=List.findIdx?_eq_none_iff.mp hr e he;rw[hi] at this;cases this
  have e:step_dedup ks n=ks++ [n]:=by
   unfold step_dedup;rw[if_neg (by simpa using hnot)]
  have p1:=layNew_perm t es (hashInt n) (.int n tk);have f1:=layNew_fits t es (hashInt n) (.int n tk);have g1:=hg.layNew es (hashInt n) (.int n tk);generalize layNew t es (hashInt n) (Value.int n tk)=L at p1 f1 g1⊢;obtain⟨es1,t1,was,gave⟩:=L;dsimp only at p1 f1 g1⊢;rw[Array.toList_push] at p1;have el1:∀e∈es1.toList,∃n tk,e=(hashInt n,Value.int n tk):=fun e he=>by
   rcases List.mem_append.mp (p1.mem_iff.mp he) with z|z
   ·exact hel e z
   ·exact⟨n,tk,List.mem_singleton.mp z⟩
  have k1:(es1.toList.map keyI).Perm (ks++ [n]):=(p1.map keyI).trans (by rw[List.map_append];exact hp.append_right _);have z1:es1.size=ks.length+1:=by have:=k1.length_eq;simpa using this
  have hb1:es1.size<scanBound:=by omega
  have pay:∀(b:Bool)(s1:Shared)(Q1:Unit→Shared→Prop),Q1 () s1→wpAny (model prog w) A (match b with|true=>rule "set.scan.the-table-gave-way" |false=>pure ()) Q1 E s1:=fun b s1 Q1 h1=>by
   cases b
   ·exact wpAny_pure h1
   ·exact wpAny_rule h1
  refine wpAny_bind (pay _ _ _ ?_);have fin:∀h' o',Heap.SameBut a s.heap h'→h'.get? a=some o'→Zaf led (ks++ [n]) o'→wpAny (model prog w) A (pure true) Q E {s with heap:=h'}:=fun h' o' x y z=>wpAny_pure (q h' o' x y (by rw[e];exact z) true)
  split
  ·refine wpAny_bind ?_;rw[hashByValue_scannable 8 (x:= .int n tk) rfl];refine wpAny_pure (ZfA (g:=_) ?_ ho hex hd el1 k1 hb1 f1 g1 fin);exact pay
  ·refine wpAny_bind (wpAny_pure (ZfA (g:=_) ?_ ho hex hd el1 k1 hb1 f1 g1 fin));exact pay
end
end L2
namespace L2
open PySem PySem.Spec PyProof.Rows
section
variable {prog:Program}{w:World}{A:Around}{led:Bool}
theorem ZiD(val:Nat→Int)(i:Nat):(firstMet val i).length≤i:=firstMet_length_le val i
theorem ZjG{R:Result→Shared→Prop}{I S:Addr}{fp wr:List Addr}{G:Array GenState→Array GenState→Prop}{n:Nat}{P:Nat→Value→Prop}{St:Nat→Shared→Prop}(W:WalksS prog w A.in1 I fp wr G n P St)(hSf:S∉fp)(val:Nat→Int)(hval:∀i v,P i v→∃t,v= .int (val i) t)(hb:n+1<scanBound):
  ∀(k i:Nat)(s:Shared)(o:Obj),n-i=k→i≤n→St i s→s.heap.get? S=some o→Zaf led (firstMet val i) o→
   (∀s' o',Moved (S::wr) G s s'→s'.heap.get? S=some o'→Zaf led (firstMet val n) o'→R (.ok (.ret .none)) s')→codeAny (model prog w) A (.builtin "set.update.loop" ⟨[.ref S,.ref I],[]⟩) R s:=by
 have hSw:S∉wr:=fun z=>hSf (W.sub _ z);have up:∀b∈wr,b∈S::wr:=fun b z=>List.mem_cons_of_mem _ z;intro k
 induction k with
 |zero=>
  intro i s o hk hi st hS sS q;obtain rfl:i=n:=by omega
  refine codeAny_builtin F.entry_set_update_loop ?_;rw[Around.under_plainId F.plain_set_update_loop];refine wpAny_bind (W.done s _ _ st fun s1 mv=>?_);exact wpAny_pure (q s1 o (mv.mono up) (mv.heap S o hSw hS) sS)
 |succ k ih=>
  intro i s o hk hi st hS sS q;have hlt:i<n:=by omega
  refine codeAny_builtin F.entry_set_update_loop ?_;rw[Around.under_plainId F.plain_set_update_loop];refine wpAny_bind (W.item i s _ _ hlt st fun v s1 hP st1 mv=>?_);obtain⟨t,rfl⟩:=hval i v hP;have hS1:=mv.heap S o hSw hS;refine wpAny_bind (wpAny_holding ?_);unfold setAdd;refine wpAny_holding (wpAny_bind ((intKind prog w).pyHash (k:=val i) (intKind_is _ _ _ _) ?_));have hr:(firstMet val i).length+1<scanBound:=by have:=ZiD val i;omega
  refine Zji (s:={s1 with toks:=s1.toks+1}) hS1 sS hr fun h2 o2 sb h2o s2 b=>?_;rw[←firstMet_succ] at s2;refine wpAny_pure ⟨plainId_quiet F.plain_set_update_loop _,ih (i+1) _ o2 (by omega) hlt (W.frame _ s1 _ _ st1 (Nat.le_succ _) fun c hc o3 e3=>?_) h2o s2 fun s3 o3 mv3 h3 g3=>?_⟩
  ·rw[sb.2 c fun z=>hSf (z▸hc)];exact e3
  ·refine q s3 o3 (Moved.trans W.gtrans ((mv.mono up).then_heap (Nat.le_succ _) fun c o4 hc e4=>?_) mv3) h3 g3;rw[sb.2 c fun z=>hc (z▸List.mem_cons_self)];exact e4
theorem ZjL{E:Value→Shared→Prop}{s:Shared}(a:Value){Q:Value→Shared→Prop}
  (h:Q (.ref s.heap.objs.size) {s with heap:=s.heap.push {cls:= .type "set",dict:=none,data:= .set #[] 0 (.fresh 0 0 (!w.params.followText "set-order"))}}):
  codeAny (model prog w) A (.call (.builtin "set.__new__") ⟨[.type "set",a],[]⟩) (wants Q E) s:=by
 refine codeAny_of_tree ?_;refine wpAny_bind (wpAny_of_eq (F.newCall_set_1 a) (wpAny_pure ⟨plainId_quiet F.plain_set_new _,codeAny_builtin F.entry_set_new ?_⟩));rw[Around.under_plainId F.plain_set_new _];unfold Builtin.«set.__new__» Builtin.Frozenset.newClass;have hsub:=sub_set_self;obtain⟨hp,g,d,tk,os⟩:=s;dsimp only
 wp_walk
 refine wpAny_askSetting (wpAny_pure ?_);dsimp only;simp only[newObj];exact wpAny_bind (wpAny_alloc (wpAny_pure (wpAny_pure h)))
end
end L2
namespace L2
open PySem PySem.Spec PyProof.Rows
section
variable {prog:Program}{w:World}{A:Around}
theorem Zi6{E:Value→Shared→Prop}{s:Shared}{l:Addr}{items:Array Value}{ns:List Int}{Q:Value→Shared→Prop}(hh:A.handled=none)(hl:s.heap.IsList l items)(hi:IntsAre items.toList ns)(hb:items.size+1<scanBound)
  (q:∀(h':Heap)(tk:Nat)(o:Obj),h'.get? s.heap.objs.size=some o→Zaf (!w.params.followText "set-order") (firstMet (fun i=>ns.getD i 0) items.size) o→
   (∀b o,b<s.heap.objs.size→s.heap.get? b=some o→h'.get? b=some o)→Q (.ref s.heap.objs.size) {s with heap:=h',toks:=tk}):
  wpAny (model prog w) A (call (.type "set") [.ref l]) Q E s:=by
 obtain⟨c,tl,hmro⟩:=F.called_set.mro;have hmade:=F.called_set.made;have hsub:=F.called_set.sub;refine wpAny_call (codeAny_of_tree ?_);refine wpAny_pure ⟨Code.quiet_builtin _ (by decide+kernel),codeAny_builtin F.entry_type_call ?_⟩;rw[Around.under_plain (weight_type_call_type "set" [.ref l] []) rfl];have c1:=F.called_set.notType;have c2:=F.called_set.canCreate;have c3:=F.typeCall_set_1 (.ref l)
 repeat (any_goals (first|assumption|wp_step))
 clear c2 c3;refine codeAny_mono (ZjL (.ref l) (E:=E) (Q:=fun v s1=>v= .ref s.heap.objs.size∧s1={s with heap:=s.heap.push {cls:= .type "set",dict:=none,data:= .set #[] 0 (.fresh 0 0 (!w.params.followText "set-order"))}}) ⟨rfl,rfl⟩) fun r s1 hr=>?_;rcases r with e|fl
 ·exact hr
 cases fl with
 |ret v=>
  obtain⟨rfl,rfl⟩:=hr;generalize hN:({cls:= .type "set",dict:=none,data:= .set #[] 0 (.fresh 0 0 (!w.params.followText "set-order"))}:Obj)=N;have hNc:N.cls= .type "set" :=by rw[←hN]
  have hNs:Zaf (!w.params.followText "set-order") [] N:=by
   rw[←hN];exact⟨⟨rfl,rfl,rfl⟩,#[],0,_,rfl,by simp,by decide,by rfl,Z7.fresh,by simp⟩
  have hS:(s.heap.push N).get? s.heap.objs.size=some N:=Heap.get?_push_size _ (by rw[←hN];rfl);have hT:Shared.TypeIs {s with heap:=s.heap.push N} (.ref s.heap.objs.size) "set" :=⟨_,hS,hNc⟩;have li:=F.called_set.init.lookup;have bi:=F.called_set.init.bind (.ref s.heap.objs.size)
  repeat (any_goals (first|assumption|wp_step))
  refine codeAny_mono (codeAny_call_builtin (R:=wants (fun r s2=>r= .none∧∃h' tk o,s2={s with heap:=h',toks:=tk}∧h'.get? s.heap.objs.size=some o∧Zaf (!w.params.followText "set-order") (firstMet (fun i=>ns.getD i 0) items.size) o∧(∀b o,b<s.heap.objs.size→s.heap.get? b=some o→h'.get? b=some o)) E) F.called_set.init.plain F.entry_set_init (check_set_init_1 hT ?_)) fun r s2 hr=>?_
  ·have hl1:(s.heap.push N).IsList l items:=hl.push _;obtain⟨ol,hol,hcl,nl,hdl⟩:=hl;obtain⟨ocls,odict,odata,oslots⟩:=ol;simp only at hcl hdl;subst hcl hdl;have hol1:(s.heap.push N).get? l=some {cls:= .type "list",dict:=odict,data:= .seq items nl,slots:=oslots}:=Heap.get?_push_of_some _ hol;have x1:=F.sub_list_set;have x2:=F.sub_list_frozenset;have x3:(Value.type "list" ==Value.type "dict")=false:=by decide
   have hS':=hS;rw[←hN] at hS hT hol1⊢;unfold Builtin.«set.__init__» noKeywords Builtin.Frozenset.updateFrom;generalize hPI:pyIter=PI
   wp_walk
   subst hPI;rw[hN] at hol1 hS hT⊢;refine wpAny_pyIter_list hl1 ?_;refine wpAny_bind (wpAny_runValue ?_);have hlS:l<s.heap.objs.size:=Heap.lt_size hol;have hh3:A.in1.in1.in1.handled=none:=by simp[hh]
   have ne1:l≠(s.heap.push N).objs.size:=by
    rw[Heap.size_push];exact Nat.ne_of_lt (Nat.lt_succ_of_lt hlS)
   have nf:s.heap.objs.size∉[(s.heap.push N).objs.size,l]:=by
    rw[Heap.size_push];simp only[List.mem_cons,List.not_mem_nil,or_false,not_or];exact⟨Nat.ne_of_lt (Nat.lt_succ_self _),Nat.ne_of_gt hlS⟩
   refine ZjG ((Walks.list hh3 _ l ne1 items).toS) nf (fun i=>ns.getD i 0) (fun i v hv=>IntsAre.int_at hi i v (by rw[Array.getElem?_toList];exact hv)) hb (items.size-0) 0 _ N (by omega) (Nat.zero_le _) ⟨⟨_,Heap.get?_push_size _ rfl,rfl,rfl⟩,hl1.push _⟩ (Heap.get?_push_of_some _ hS) hNs fun s3 o3 mv h3 g3=>?_;obtain⟨h',g',d',tk',os'⟩:=s3;obtain rfl:g'=s.gens:=mv.gens;obtain rfl:d'=s.drawn:=mv.drawn;obtain rfl:os'=s.os:=mv.os;show wpAny _ _ _ _ _ _;refine wpAny_pure ?_;show wpAny _ _ (ret Value.none) _ _ _;refine wpAny_pure ⟨rfl,h',tk',o3,rfl,h3,g3,fun b o hb' e=>mv.heap b o ?_ (Heap.get?_push_of_some _ (Heap.get?_push_of_some _ e))⟩;rw[Heap.size_push];simp only[List.mem_cons,List.not_mem_nil,or_false,not_or];exact⟨Nat.ne_of_lt hb',Nat.ne_of_lt (Nat.lt_succ_of_lt hb')⟩
  ·rcases r with e|fl
   ·exact hr
   cases fl with
   |ret v=>
    obtain⟨rfl,h',tk,o,rfl,h1,h2,h3⟩:=hr
    repeat (any_goals (first|assumption|wp_step))
    exact q _ _ _ h1 h2 h3
   |_=>exact hr.elim
 |_=>exact hr.elim
end
end L2
namespace L2
open PySem PySem.Spec PyProof.Rows
section
theorem W8:Slot "set_iterator" "__next__" "set_iterator.__next__" := .of (owner:="set_iterator") (n:="__next__") (by rw[typeLookup_type,builtinLookup_eq_fast];kernel_rfl) (by decide+kernel) (by decide+kernel) (by decide+kernel) (by first|exact .inl (by decide+kernel)|exact .inr (by decide+kernel)) (by rw[isSubtype_type];kernel_rfl)
theorem Zb9:Slot "set_iterator" "__iter__" "set_iterator.__iter__" := .of (owner:="set_iterator") (n:="__iter__") (by rw[typeLookup_type,builtinLookup_eq_fast];kernel_rfl) (by decide+kernel) (by decide+kernel) (by decide+kernel) (by first|exact .inl (by decide+kernel)|exact .inr (by decide+kernel)) (by rw[isSubtype_type];kernel_rfl)
theorem ZeP:entryFor table "set_iterator.__next__" =some Builtin.«set_iterator.__next__»:=entryFor_of_tree (by kernel_rfl)
theorem ZeK:entryFor table "set_iterator.__iter__" =some Builtin.«dict_keyiterator.__iter__»:=entryFor_alias (id':="dict_keyiterator.__iter__") (by kernel_rfl) rfl (by decide+kernel) (by kernel_rfl)
theorem ZdO:entryFor table "set.__iter__" =some Builtin.«frozenset.__iter__»:=entryFor_alias (id':="frozenset.__iter__") (by kernel_rfl) rfl (by decide+kernel) (by kernel_rfl)
theorem ZfI:Manifest.owners.lookup (String.ofList "set_iterator".toList.reverse.reverse)=some Manifest.sig_set_iterator:=by kernel_rfl
theorem Zfa(a:Value):argsOk "set_iterator.__next__" ⟨[a],[]⟩:=by
 unfold argsOk;rw[signature?_of (id:="set_iterator.__next__") (n:=['_','_','t','x','e','n','_','_']) (o:="set_iterator".toList.reverse) (by kernel_rfl) ZfI]
 kernel_rfl
theorem ZfS(a:Value):argsOk "set_iterator.__iter__" ⟨[a],[]⟩:=by
 unfold argsOk;rw[signature?_of (id:="set_iterator.__iter__") (n:=['_','_','r','e','t','i','_','_']) (o:="set_iterator".toList.reverse) (by kernel_rfl) ZfI]
 kernel_rfl
noncomputable def UR (first:Value) (i:Nat) (a:Addr) (n ep:Nat):Obj:={cls:= .type "set_iterator",dict:=none,data:= .fields #[first,.int i 0,.ref a,.int n 0,.int ep 0],slots:=#[]}
variable {prog:Program}{w:World}{A:Around}{E:Value→Shared→Prop}{s:Shared}
theorem ZgX{src:Source}{n:Nat}{Q:Nat→Shared→Prop}(hn:n≠0)(h:∀i d,i<n→Q i {s with drawn:=d}):wpAny (model prog w) A (choose src n) Q E s:=
 fun _ _ _=>⟨hn,h _ _ (Nat.mod_lt _ (Nat.pos_of_ne_zero hn))⟩
theorem Zc2{α:Type}:∀{l:List α}{i:Nat}(h:i<l.length),(l[i]::l.eraseIdx i).Perm l
 |x::l,0,_=>by simp
 |x::l,i+1,h=>by
  rw[List.getElem_cons_succ,List.eraseIdx_cons_succ];exact(List.Perm.swap _ _ _).trans ((Zc2 (by simpa using h)).cons x)
theorem ZfQ{α:Type}:∀(xs:List α)(s:Shared)(Q:List α→Shared→Prop),(∀ys d,ys.Perm xs→Q ys {s with drawn:=d})→wpAny (model prog w) A (drawOrder xs.length xs) Q E s
 | [],s,Q,h=>wpAny_pure (h [] s.drawn .rfl)
 |x::xs,s,Q,h=>by
  show wpAny _ _ (choose .order (x::xs).length >>= _) _ _ _;refine wpAny_bind (ZgX (by simp) fun i d hi=>?_);rw[List.getElem?_eq_getElem hi];have hp:=Zc2 (l:=x::xs) hi;generalize (x::xs)[i]=y at hp⊢;have hlen:xs.length=((x::xs).eraseIdx i).length:=by rw[List.length_eraseIdx_of_lt hi];rfl
  show wpAny _ _ (drawOrder xs.length ((x::xs).eraseIdx i) >>= _) _ _ _;generalize (x::xs).eraseIdx i=zs at hp hlen⊢;rw[hlen];refine wpAny_bind (ZfQ zs _ _ fun ys d2 hy=>?_);exact wpAny_pure (h (y::ys) d2 ((hy.cons y).trans hp))
 termination_by xs=>xs.length
 decreasing_by simp_wf;omega
theorem Zec{α:Type}(next:Nat→Nat):∀(f k:Nat)(l:List α)(out:Array α),f=l.length→(pickOrder.go next f k l out).toList.Perm (out.toList++l)
 |0,k,l,out,e=>by
  obtain rfl:l=[]:=List.eq_nil_of_length_eq_zero e.symm;simp[pickOrder.go]
 |f+1,k,l,out,e=>by
  have hi:next k % l.length<l.length:=Nat.mod_lt _ (by omega);unfold pickOrder.go;rw[List.getElem?_eq_getElem hi];refine(Zec next f (k+1) _ _ (by rw[List.length_eraseIdx_of_lt hi];omega)).trans ?_;rw[Array.toList_push,List.append_assoc];exact(Zc2 hi).append_left _
theorem Up{α:Type}(next:Nat→Nat)(xs:Array α):(pickOrder next xs).toList.Perm xs.toList:=by
 have:=Zec next xs.size 0 xs.toList #[] (by simp);simpa[pickOrder] using this
theorem ZgR{A':Around}{it:Addr}{Q:Option Value→Shared→Prop}(hh:A.handled=none){h1:Heap}(hb:Heap.SameBut it s.heap h1)(q:∀h',Heap.ExtBut it s.heap h'→Q none {s with heap:=h'}):
  wpAny (model prog w) A (newExc (.type "StopIteration") [] >>= fun e=>(raiseNew e:Sem Fin)) (fun _ _=>False) (fun e s'=>wpAny (model prog w) A' (isInstance e (.type "StopIteration") >>= fun b=>if b=true then pure none else throw e) Q E s') {s with heap:=h1}:=by
 refine wpAny_bind ?_;simp only[newExc,newTuple];refine wpAny_bind (wpAny_newObj_type ?_ (by size_fits));refine wpAny_bind (m:=firstArgMember _ _) (wpAny_of_eq (a:=Value.none) (by first|rfl|(simp only[firstArgMember];rfl)) ?_);refine wpAny_newObj_type ?_ (by size_fits);simp only[raiseNew];refine wpAny_bind (wpAny_handled ?_);rw[hh];refine wpAny_bind (wpAny_pure (wpAny_throw ?_));exact wpAny_bind (wpAny_isInstance (T:="StopIteration") (b:=true) ⟨_,Heap.get?_push_size _ rfl,rfl⟩ isSubtype_stop (wpAny_pure (q _ ((hb.extBut.push _).push _))))
variable {it a:Addr}{o:Obj}{es:Array (Int×Value)}{ep i:Nat}{t:SetTable}{Q:Option Value→Shared→Prop}
theorem ZeU{first:Value}(hit:s.heap.get? it=some (UR first i a es.size ep))(h:wpAny (model prog w) A.in1 (Builtin.«set_iterator.__next__» ⟨[.ref it],[]⟩) (fun fin s'=>∃x,fin= .done (.ret x)∧Q (some x) s') (fun e s'=>wpAny (model prog w) A (isInstance e (.type "StopIteration") >>= fun b=>if b=true then pure none else throw e) Q E s') s):wpAny (model prog w) A (pyNext (.ref it)) Q E s:=by
 have hT:s.TypeIs (.ref it) "set_iterator" :=⟨_,hit,rfl⟩;unfold pyNext;refine wpAny_bind (wpAny_attempt (wpAny_callSpecial?_slot (name:=Str.ofString "__next__") hT W8 (wpAny_call_entry W8 hT ZeP ?_ (Zfa _))));refine wpAny_mono h (fun fin s' z=>?_) fun e s' z=>?_
 ·obtain⟨x,rfl,q⟩:=z;exact⟨x,rfl,wpAny_pure q⟩
 ·exact z
theorem ZgE{sl nx:Nat}{v:Value}(hit:s.heap.get? it=some (UR (.int sl 0) i a es.size ep))(ho:s.heap.get? a=some o)(hd:o.data= .set es ep t)(hf:t.fits es.size=true)
  (hx:∀{A:Around}{E:Value→Shared→Prop}(Q:Option (Value×Nat)→Shared→Prop),Q (some (v,nx)) s→wpAny (model prog w) A (setNext a sl i ep) Q E s)
  (q:∀h',h'.get? it=some (UR (.int nx 0) (i+1) a es.size ep)→Heap.SameBut it s.heap h'→Q (some v) {s with heap:=h'}):wpAny (model prog w) A (pyNext (.ref it)) Q E s:=by
 refine ZeU hit ?_;unfold Builtin.«set_iterator.__next__»;refine wpAny_bind (m:=slotArgs _ _ _) (wpAny_pure (wpAny_bind (wpAny_fieldsOf hit rfl ?_)));show wpAny _ _ (setEntries a >>= _) _ _ _;refine wpAny_bind (wpAny_setEntries_of ho hd hf ?_);rw[if_neg (by simp)];show wpAny _ _ (setNext a _ _ _ >>= _) _ _ _;simp only[Int.toNat_natCast];refine wpAny_bind (hx _ ?_);refine wpAny_bind (wpAny_setField_rec hit (by simp) fun h1 e1 b1=>?_);refine wpAny_bind (wpAny_setField_rec (s:={s with heap:=h1}) e1 (by simp) fun h2 e2 b2=>?_);exact wpAny_pure ⟨v,rfl,q h2 e2 (b1.trans b2)⟩
theorem Ziv{sl:Nat}(hh:A.handled=none)(hit:s.heap.get? it=some (UR (.int sl 0) i a es.size ep))(ho:s.heap.get? a=some o)(hd:o.data= .set es ep t)(hf:t.fits es.size=true)
  (hx:∀{A:Around}{E:Value→Shared→Prop}(Q:Option (Value×Nat)→Shared→Prop),Q none s→wpAny (model prog w) A (setNext a sl i ep) Q E s)
  (q:∀h',Heap.ExtBut it s.heap h'→Q none {s with heap:=h'}):wpAny (model prog w) A (pyNext (.ref it)) Q E s:=by
 refine ZeU hit ?_;unfold Builtin.«set_iterator.__next__»;refine wpAny_bind (m:=slotArgs _ _ _) (wpAny_pure (wpAny_bind (wpAny_fieldsOf hit rfl ?_)));show wpAny _ _ (setEntries a >>= _) _ _ _;refine wpAny_bind (wpAny_setEntries_of ho hd hf ?_);rw[if_neg (by simp)];show wpAny _ _ (setNext a _ _ _ >>= _) _ _ _;simp only[Int.toNat_natCast];refine wpAny_bind (hx _ ?_);refine wpAny_bind (wpAny_setField_rec hit (by simp) fun h1 e1 b1=>?_);exact wpAny_mono (ZgR (A:=A.in1) hh b1 q) (fun _ _ z=>False.elim z) fun _ _ z=>z
theorem ZkA{T:Addr}{items:Array Value}{pl:Nat}{k:Int}{v:Value}(hit:s.heap.get? it=some (UR (.ref T) i a es.size ep))(hT:s.heap.IsTuple T items)(hi:items[i]? =some (.int pl 0))(hv:es[pl]? =some (k,v))(ho:s.heap.get? a=some o)(hd:o.data= .set es ep t)(hf:t.fits es.size=true)
  (q:∀h',h'.get? it=some (UR (.ref T) (i+1) a es.size ep)→Heap.SameBut it s.heap h'→Q (some v) {s with heap:=h'}):wpAny (model prog w) A (pyNext (.ref it)) Q E s:=by
 obtain⟨oT,hoT,hcT,nT,hdT⟩:=hT;refine ZeU hit ?_;unfold Builtin.«set_iterator.__next__»;refine wpAny_bind (m:=slotArgs _ _ _) (wpAny_pure (wpAny_bind (wpAny_fieldsOf hit rfl ?_)));show wpAny _ _ (setEntries a >>= _) _ _ _;refine wpAny_bind (wpAny_setEntries_of ho hd hf ?_);rw[if_neg (by simp)];show wpAny _ _ (seqItems? (.ref T) >>= _) _ _ _;refine wpAny_bind (wpAny_seqItems hoT hdT ?_);simp only[Int.toNat_natCast,hi];unfold setNextDrawn;refine wpAny_bind (wpAny_bind (wpAny_setState_of ho hd hf ?_));dsimp only;rw[if_neg (by simp),hv];refine wpAny_pure ?_;refine wpAny_bind (wpAny_setField_rec hit (by simp) fun h2 e2 b2=>?_);exact wpAny_pure ⟨v,rfl,q h2 e2 b2⟩
theorem ZlP{T:Addr}{items:Array Value}(hh:A.handled=none)(hit:s.heap.get? it=some (UR (.ref T) i a es.size ep))(hT:s.heap.IsTuple T items)(hi:items[i]? =none)(ho:s.heap.get? a=some o)(hd:o.data= .set es ep t)(hf:t.fits es.size=true)
  (q:∀h',Heap.ExtBut it s.heap h'→Q none {s with heap:=h'}):wpAny (model prog w) A (pyNext (.ref it)) Q E s:=by
 obtain⟨oT,hoT,hcT,nT,hdT⟩:=hT;refine ZeU hit ?_;unfold Builtin.«set_iterator.__next__»;refine wpAny_bind (m:=slotArgs _ _ _) (wpAny_pure (wpAny_bind (wpAny_fieldsOf hit rfl ?_)));show wpAny _ _ (setEntries a >>= _) _ _ _;refine wpAny_bind (wpAny_setEntries_of ho hd hf ?_);rw[if_neg (by simp)];show wpAny _ _ (seqItems? (.ref T) >>= _) _ _ _;refine wpAny_bind (wpAny_seqItems hoT hdT ?_);simp only[Int.toNat_natCast,hi];refine wpAny_bind (wpAny_setField_rec hit (by simp) fun h0 e0 b0=>?_);refine wpAny_bind (wpAny_setField_rec (s:={s with heap:=h0}) e0 (by simp) fun h1 e1 b1=>?_);exact wpAny_mono (ZgR (A:=A.in1) (s:=s) hh (b0.trans b1) q) (fun _ _ z=>False.elim z) fun _ _ z=>z
theorem Zex{sl:Nat}(hw:w.params.followText "set-order" =true)(ho:s.heap.get? a=some o)(hd:o.data= .set es ep t)(hf:t.fits es.size=true)(Q:Option (Value×Nat)→Shared→Prop)(q:Q (((pickOrder (w.params.setOrder a ep) es)[i]?).map fun e=>(e.2,sl)) s):wpAny (model prog w) A (setNext a sl i ep) Q E s:=by
 unfold setNext setsByText;refine wpAny_bind (wpAny_setState_of ho hd hf ?_);dsimp only;refine wpAny_bind (wpAny_bind (wpAny_askSetting (wpAny_pure ?_)));show wpAny _ _ (if w.params.followText "set-order" =true then _ else _) _ _ _;rw[if_pos hw,if_neg (by simp)];unfold setWalk setsByText;refine wpAny_bind (wpAny_bind (wpAny_setState_of ho hd hf ?_));dsimp only;refine wpAny_bind (wpAny_bind (wpAny_askSetting (wpAny_pure ?_)));show wpAny _ _ (if w.params.followText "set-order" =true then _ else _) _ _ _;rw[if_pos hw];exact wpAny_bind (wpAny_askSetting (wpAny_pure (wpAny_pure q)))
theorem Zdw{sl:Nat}(hw:w.params.followText "set-order" =false)(ho:s.heap.get? a=some o)(hd:o.data= .set es ep t)(hf:t.fits es.size=true)(hp:(!t.plain&&decide (es.size > 1))=false)(hl:t.led=true)(Q:Option (Value×Nat)→Shared→Prop)
  (q:Q (match es[SetTable.below t.place sl]?,t.place[SetTable.below t.place sl]? with|some (_,x),some j=>some (x,j+1)|_,_=>none) s):wpAny (model prog w) A (setNext a sl i ep) Q E s:=by
 unfold setNext setsByText;refine wpAny_bind (wpAny_setState_of ho hd hf ?_);dsimp only;refine wpAny_bind (wpAny_bind (wpAny_askSetting (wpAny_pure ?_)));show wpAny _ _ (if w.params.followText "set-order" =true then _ else _) _ _ _;rw[if_neg (by rw[hw];simp)];show wpAny _ _ (if(!t.plain&&decide (es.size > 1))=true then _ else _) _ _ _;rw[if_neg (by rw[hp];simp)];refine wpAny_bind ?_;show wpAny _ _ (if(!t.led&& !es.isEmpty)=true then _ else _) _ _ _;rw[if_neg (by rw[hl];simp)];exact wpAny_pure (wpAny_pure q)
end
end L2
namespace L2
open PySem PySem.Spec PyProof.Rows
section
variable {prog:Program}{w:World}{A:Around}{E:Value→Shared→Prop}{s:Shared}{it a:Addr}{o:Obj}{es:Array (Int×Value)}{ep i:Nat}{t:SetTable}
theorem Zd0{first:Value}{n:Nat}{Q:Value→Shared→Prop}(hit:s.heap.get? it=some (UR first i a n ep))(q:Q (.ref it) s):wpAny (model prog w) A (pyIter (.ref it)) Q E s:=by
 have hT:s.TypeIs (.ref it) "set_iterator" :=⟨_,hit,rfl⟩;refine wpAny_pyIter_slot hT Zb9 (wpAny_call_entry Zb9 hT ZeK ?_ (ZfS _));show wpAny _ _ (ret (.ref it)) _ _ s;exact wpAny_pure ⟨_,rfl,"set_iterator",_,hT,W8.lookup,q⟩
theorem Zht(hh:A.handled=none)(I:Addr)(hne:a≠I)(hw:w.params.followText "set-order" =true)(hd:o.data= .set es ep t)(hf:t.fits es.size=true):
  PySem.Walks prog w A I [I,a] [I] es.size (fun i v=>((pickOrder (w.params.setOrder a ep) es).toList.map (·.2))[i]? =some v) (fun i h=>h.get? I=some (UR (.int (0:Nat) 0) i a es.size ep)∧h.get? a=some o) where
 sub:=fun b hb=>by simp at hb;simp[hb]
 frame:=fun _ _ _ st hk=>⟨hk I (by simp) _ st.1,hk a (by simp) _ st.2⟩
 item:=fun i s Q E hi st q=>by
  have hz:(pickOrder (w.params.setOrder a ep) es).size=es.size:=by have:=(Up (w.params.setOrder a ep) es).length_eq;simpa using this
  have hi':i<(pickOrder (w.params.setOrder a ep) es).size:=by rw[hz];exact hi
  refine ZgE (nx:=0) (v:=((pickOrder (w.params.setOrder a ep) es)[i]).2) st.1 st.2 hd hf (fun Q1 q1=>Zex hw st.2 hd hf Q1 (by rw[Array.getElem?_eq_getElem hi'];exact q1)) fun h' e b=>?_;exact q _ h' s.toks (by rw[List.getElem?_map,Array.getElem?_toList,Array.getElem?_eq_getElem hi'];rfl) ⟨e,b.extBut a _ hne st.2⟩ fun b' o' hb e'=>b.extBut b' o' (fun z=>hb (by simp[z])) e'
 done:=fun s Q E st q=>by
  have hz:(pickOrder (w.params.setOrder a ep) es).size=es.size:=by have:=(Up (w.params.setOrder a ep) es).length_eq;simpa using this
  refine Ziv hh st.1 st.2 hd hf (fun Q1 q1=>Zex hw st.2 hd hf Q1 (by rw[Array.getElem?_eq_none (by omega)];exact q1)) fun h' e=>q h' s.toks fun b o' hb e'=>e b o' (fun z=>hb (by simp[z])) e'
 self:=fun _ _ _ _ st q=>Zd0 st.1 q
noncomputable def ZaW (t:SetTable) (i:Nat):Nat:=if i=0 then 0 else t.place.getD (i-1) 0+1
theorem Zcd{led:Bool}(g:Z7 led t){n:Nat}(hz:t.place.size=n)(hi:i≤n):SetTable.below t.place (ZaW t i)=i:=by
 unfold ZaW
 split
 ·rename_i e;rw[e];exact Zg8 g.rise
 ·have h1:i-1<t.place.size:=by omega
  have e:t.place.getD (i-1) 0=t.place[i-1]:=by simp[Array.getD,h1]
  rw[e,Zhq g.rise h1];omega
theorem Zf1{led:Bool}(hh:A.handled=none)(I:Addr)(hne:a≠I)(hw:w.params.followText "set-order" =false)(hd:o.data= .set es ep t)(hf:t.fits es.size=true)(hp:(!t.plain&&decide (es.size > 1))=false)(hl:t.led=true)(g:Z7 led t):
  PySem.Walks prog w A I [I,a] [I] es.size (fun i v=>(es.toList.map (·.2))[i]? =some v) (fun i h=>h.get? I=some (UR (.int (ZaW t i:Nat) 0) i a es.size ep)∧h.get? a=some o) where
 sub:=fun b hb=>by simp at hb;simp[hb]
 frame:=fun _ _ _ st hk=>⟨hk I (by simp) _ st.1,hk a (by simp) _ st.2⟩
 item:=fun i s Q E hi st q=>by
  have hz:t.place.size=es.size:=by simp only[SetTable.fits,Bool.and_eq_true,beq_iff_eq] at hf;exact hf.1
  have hi2:i<t.place.size:=by omega
  have hb:=Zcd (i:=i) g hz (by omega);refine ZgE (nx:=ZaW t (i+1)) (v:=(es[i]).2) st.1 st.2 hd hf (fun Q1 q1=>Zdw hw st.2 hd hf hp hl Q1 ?_) fun h' e b=>?_
  ·rw[hb,Array.getElem?_eq_getElem hi,Array.getElem?_eq_getElem hi2];have e:ZaW t (i+1)=t.place[i]+1:=by
    unfold ZaW;rw[if_neg (by omega)];simp[Array.getD,hi2]
   rw[e] at q1;exact q1
  ·exact q _ h' s.toks (by rw[List.getElem?_map,Array.getElem?_toList,Array.getElem?_eq_getElem hi];rfl) ⟨e,b.extBut a _ hne st.2⟩ fun b' o' hb e'=>b.extBut b' o' (fun z=>hb (by simp[z])) e'
 done:=fun s Q E st q=>by
  have hz:t.place.size=es.size:=by simp only[SetTable.fits,Bool.and_eq_true,beq_iff_eq] at hf;exact hf.1
  have hb:=Zcd (i:=es.size) g hz (Nat.le_refl _);refine Ziv hh st.1 st.2 hd hf (fun Q1 q1=>Zdw hw st.2 hd hf hp hl Q1 ?_) fun h' e=>q h' s.toks fun b o' hb e'=>e b o' (fun z=>hb (by simp[z])) e';rw[hb,Array.getElem?_eq_none (Nat.le_refl _)];exact q1
 self:=fun _ _ _ _ st q=>Zd0 st.1 q
theorem Zgk(hh:A.handled=none)(I T:Addr)(hne:a≠I)(hTI:T≠I)(hd:o.data= .set es ep t)(hf:t.fits es.size=true)(ord:List Nat)(hp:ord.Perm (List.range es.size)):
  PySem.Walks prog w A I [I,a,T] [I] es.size (fun i v=>(ord.map fun j=>(es.getD j (0,.none)).2)[i]? =some v) (fun i h=>h.get? I=some (UR (.ref T) i a es.size ep)∧h.get? a=some o∧h.IsTuple T (ord.map fun(j:Nat)=>Value.int j 0).toArray) where
 sub:=fun b hb=>by simp at hb;simp[hb]
 frame:=fun _ _ _ st hk=>⟨hk I (by simp) _ st.1,hk a (by simp) _ st.2.1,let⟨x,e,r⟩:=st.2.2;⟨x,hk T (by simp) _ e,r⟩⟩
 item:=fun i s Q E hi st q=>by
  have hl:ord.length=es.size:=by have:=hp.length_eq;simpa using this
  have hi2:i<ord.length:=by omega
  have hj:ord[i]<es.size:=by have:=hp.mem_iff.mp (List.getElem_mem hi2);simpa using this
  have ev:(es.getD ord[i] (0,Value.none))=es[ord[i]]:=by simp[Array.getD,hj]
  refine ZkA (pl:=ord[i]) (k:=(es[ord[i]]).1) (v:=(es[ord[i]]).2) st.1 st.2.2 (by simp[hi2]) (by rw[Array.getElem?_eq_getElem hj]) st.2.1 hd hf fun h' e b=>?_;exact q _ h' s.toks (by rw[List.getElem?_map,List.getElem?_eq_getElem hi2];exact congrArg (fun x=>some x.2) ev) ⟨e,b.extBut a _ hne st.2.1,let⟨x,e,r⟩:=st.2.2;⟨x,b.extBut T _ hTI e,r⟩⟩ fun b' o' hb e'=>b.extBut b' o' (fun z=>hb (by simp[z])) e'
 done:=fun s Q E st q=>by
  have hl:ord.length=es.size:=by have:=hp.length_eq;simpa using this
  exact ZlP hh st.1 st.2.2 (by simp[hl]) st.2.1 hd hf fun h' e=>q h' s.toks fun b o' hb e'=>e b o' (fun z=>hb (by simp[z])) e'
 self:=fun _ _ _ _ st q=>Zd0 st.1 q
end
end L2
namespace L2
open PySem PySem.Spec PyProof.Rows
section
variable {prog:Program}{w:World}{A:Around}{E:Value→Shared→Prop}{s:Shared}{a:Addr}{o:Obj}
theorem Zi2{ks:List Int}{Q:Value→Shared→Prop}(ho:s.heap.get? a=some o)(hS:Zaf (!w.params.followText "set-order") ks o)
  (q:∀(I:Addr)(L:List Value)(s':Shared)(fp:List Addr)(St:Nat→Heap→Prop)(n:Nat),n=L.length→(∃ns:List Int,IntsAre L ns∧ns.Perm ks)→(∀b o,s.heap.get? b=some o→s'.heap.get? b=some o)→s'.gens=s.gens→s'.os=s.os→s'.toks=s.toks→
   (∀A':Around,A'.handled=none→PySem.Walks prog w A' I fp [I] n (fun i v=>L[i]? =some v) St)→St 0 s'.heap→s.heap.objs.size≤I→(∀b∈fp,b=a∨s.heap.objs.size≤b)→Q (.ref I) s'):wpAny (model prog w) A (pyIter (.ref a)) Q E s:=by
 obtain⟨hex,es,ep,t,hd,hel,hb,hf,hg,hp⟩:=hS;have hT:s.TypeIs (.ref a) "set" :=⟨_,ho,hex.1⟩;have hlt:a<s.heap.objs.size:=Heap.lt_size ho;have allI:∀l:List (Int×Value),l.Perm es.toList→∃ns:List Int,IntsAre (l.map (·.2)) ns∧ns.Perm ks:=fun l pl=>by
  refine⟨l.map keyI,?_,(pl.map keyI).trans hp⟩;have hl:∀e∈l,∃n tk,e=(hashInt n,Value.int n tk):=fun e he=>hel e (pl.mem_iff.mp he);clear pl
  induction l with
  |nil=>exact .nil
  |cons x l ih=>
   obtain⟨n,tk,rfl⟩:=hl x (by simp);exact .cons n tk (ih fun e he=>hl e (by simp[he]))
 refine wpAny_pyIter_slot hT F.slot_set_iter (wpAny_call_entry F.slot_set_iter hT ZdO ?_ (F.args_set_iter_1 _));unfold Builtin.«frozenset.__iter__» Builtin.Frozenset.sizeOf;refine wpAny_bind (m:=Builtin.Frozenset.slot0 _ _) (wpAny_pure ?_);refine wpAny_bind (wpAny_bind (wpAny_setEntries_of ho hd hf (wpAny_pure ?_)));unfold setDrawn setsByText;refine wpAny_bind (wpAny_bind (wpAny_setState_of ho hd hf ?_));dsimp only;refine wpAny_bind (wpAny_bind (wpAny_askSetting (wpAny_pure (wpAny_pure ?_))));show wpAny _ _ (if(!w.params.followText "set-order" &&(!t.plain&&decide (es.size > 1)))=true then _ else _) _ _ _
 by_cases hc:(!w.params.followText "set-order" &&(!t.plain&&decide (es.size > 1)))=true
 ·rw[if_pos hc];refine wpAny_bind ?_;have hr:(List.range es.size).length=es.size:=List.length_range;have dr:=ZfQ (prog:=prog) (w:=w) (A:=A.in1) (E:=E) (List.range es.size) s;rw[hr] at dr;refine dr _ fun ord d pm=>?_;refine wpAny_bind ?_;simp only[newTuple];have ol:ord.length=es.size:=by have:=pm.length_eq;simpa using this
  refine wpAny_newObj_type ?_ ?_
  ·refine wpAny_bind (wpAny_setEpoch_of (Heap.get?_push_of_some _ ho) hd hf ?_);refine wpAny_bind (wpAny_newObj_type (wpAny_pure ⟨_,rfl,"set_iterator",_,⟨_,Heap.get?_push_size _ rfl,rfl⟩,W8.lookup,?_⟩));generalize hT':({cls:= .type "tuple",data:= .seq (List.map (fun(i:Nat)=>rawInt i) ord).toArray 0}:Obj)=oT;have pe:(List.map (fun j=>es.getD j (0,Value.none)) ord).Perm es.toList:=by
    refine(pm.map _).trans ?_;have:(List.range es.size).map (fun j=>es.getD j (0,Value.none))=es.toList:=by
     refine List.ext_getElem (by simp) fun i h1 h2=>?_;have h3:i<es.size:=by simpa using h2
     simp[Array.getD,h3]
    rw[this]
   have wd:∀A':Around,A'.handled=none→_:=fun A' hh=>Zgk (prog:=prog) (w:=w) (A:=A') (a:=a) (o:=o) (ep:=ep) hh (s.heap.objs.size+1) s.heap.objs.size (Nat.ne_of_lt (Nat.lt_succ_of_lt hlt)) (Nat.ne_of_lt (Nat.lt_succ_self _)) hd hf ord pm;have zl:es.size=(ord.map fun j=>(es.getD j (0,.none)).2).length:=by simp[ol]
   rw[show(s.heap.push oT).objs.size=s.heap.objs.size+1 from Heap.size_push ..];refine q _ (ord.map fun j=>(es.getD j (0,.none)).2) _ [s.heap.objs.size+1,a,s.heap.objs.size] _ _ zl (by have:=allI _ pe;rw[List.map_map] at this;exact this) (fun b o e=>Heap.get?_push_of_some _ (Heap.get?_push_of_some _ e)) rfl rfl rfl (fun A' hh=>wd A' hh) ⟨?_,Heap.get?_push_of_some _ (Heap.get?_push_of_some _ ho),?_⟩ (Nat.le_succ _) (fun b hb=>?_)
   ·have:=Heap.get?_push_size (o:=UR (.ref s.heap.objs.size) 0 a es.size ep) (s.heap.push oT) rfl;rw[show(s.heap.push oT).objs.size=s.heap.objs.size+1 from Heap.size_push ..] at this;exact this
   ·exact⟨oT,Heap.get?_push_of_some _ (Heap.get?_push_size _ (by rw[←hT'];rfl)),by rw[←hT'],0,by rw[←hT'];rfl⟩
   ·simp only[List.mem_cons,List.not_mem_nil,or_false] at hb;rcases hb with rfl|rfl|rfl
    ·exact .inr (Nat.le_succ _)
    ·exact .inl rfl
    ·exact .inr (Nat.le_refl _)
  ·show(List.map _ ord).toArray.size≤sizeLine;rw[List.size_toArray,List.length_map,ol];exact fits_of_scanBound hb
 ·rw[if_neg hc];refine wpAny_bind (wpAny_pure ?_);refine wpAny_bind (wpAny_setEpoch_of ho hd hf ?_);refine wpAny_bind (wpAny_newObj_type (wpAny_pure ⟨_,rfl,"set_iterator",_,⟨_,Heap.get?_push_size _ rfl,rfl⟩,W8.lookup,?_⟩));have hfp:∀b∈[s.heap.objs.size,a],b=a∨s.heap.objs.size≤b:=fun b hb=>by
   simp only[List.mem_cons,List.not_mem_nil,or_false] at hb;rcases hb with rfl|rfl
   ·exact .inr (Nat.le_refl _)
   ·exact .inl rfl
  cases hw:w.params.followText "set-order" with
  |true=>
   have pe:=Up (w.params.setOrder a ep) es;have zl:es.size=((pickOrder (w.params.setOrder a ep) es).toList.map (·.2)).length:=by have:=pe.length_eq;simpa using this.symm
   exact q _ _ _ _ _ _ zl (allI _ pe) (fun b o e=>Heap.get?_push_of_some _ e) rfl rfl rfl (fun A' hh=>Zht hh _ (Nat.ne_of_lt hlt) hw hd hf) ⟨Heap.get?_push_size _ rfl,Heap.get?_push_of_some _ ho⟩ (Nat.le_refl _) hfp
  |false=>
   rw[hw] at hc hg;have zl:es.size=(es.toList.map (·.2)).length:=by simp
   exact q _ _ _ _ _ _ zl (allI _ .rfl) (fun b o e=>Heap.get?_push_of_some _ e) rfl rfl rfl (fun A' hh=>Zf1 hh _ (Nat.ne_of_lt hlt) hw hd hf (by simpa using hc) hg.led hg) ⟨Heap.get?_push_size _ rfl,Heap.get?_push_of_some _ ho⟩ (Nat.le_refl _) hfp
end
end L2
namespace L2
open PySem PySem.Spec PyProof.Rows
section
variable {prog:Program}{w:World}{A:Around}{E:Value→Shared→Prop}{s:Shared}{a:Addr}{o:Obj}
theorem Zjc{Q:Bool→Shared→Prop}(hT:s.TypeIs (.ref a) "set")(q:Q false s):wpAny (model prog w) A (Builtin.List.listLengthHint (.ref a)) Q E s:=by
 unfold Builtin.List.listLengthHint;refine wpAny_bind (wpAny_specialOf hT F.slot_set_len.lookup ?_);generalize hid:("set.__len__" :String)=id0
 wp_delta
 rw[show splitId id0=some ("set","__len__") from by subst hid;decide+kernel];subst hid;refine wpAny_bind (wpAny_isInstance (T:="set") (b:=true) hT sub_set_self ?_);refine wpAny_ite_split (fun z=>absurd z (by decide)) (fun _=>wpAny_ite_split (fun _=>?_) (fun z=>absurd (by decide+kernel) z));exact wpAny_bind (wpAny_typeOf hT (wpAny_pure q))
theorem Zga{ks:List Int}{R:List Value→Shared→Prop}(hh:A.handled=none)(ho:s.heap.get? a=some o)(hS:Zaf (!w.params.followText "set-order") ks o)(hk:ks.length≤sizeLine)
  (q:∀(s':Shared)(L:List Value)(ns:List Int),IntsAre L ns→ns.Perm ks→(∀b o,s.heap.get? b=some o→s'.heap.get? b=some o)→s'.gens=s.gens→s'.os=s.os→R L s'):wpAny (model prog w) A (collect (.ref a)) R E s:=by
 have hlt:a<s.heap.objs.size:=Heap.lt_size ho;generalize hN:({cls:= .type "list",data:= .seq ([]:List Value).toArray}:Obj)=N;have ho1:(s.heap.push N).get? a=some o:=Heap.get?_push_of_some _ ho;have hS1:(s.heap.push N).get? s.heap.objs.size=some N:=Heap.get?_push_size _ (by rw[←hN];rfl);have hT1:Shared.TypeIs {s with heap:=s.heap.push N} (.ref a) "set" :=⟨_,ho1,hS.1.1⟩;unfold collect;refine wpAny_bind (wpAny_runValue (codeAny_builtin PySem.F.entry_proto_collect ?_));rw[Around.under_plainId PySem.F.plain_proto_collect _];refine wpAny_bind (m:=newList []) (wpAny_newObj_type ?_);refine wpAny_pure ⟨plainId_quiet PySem.F.plain_list_iadd _,codeAny_builtin PySem.F.entry_list_iadd ?_⟩;rw[Around.under_plainId PySem.F.plain_list_iadd _,hN];show wpAny _ A.in1 (Builtin.List.listExtendWith (.ref s.heap.objs.size) (.ref a) (.ref s.heap.objs.size)) _ _ _;unfold Builtin.List.listExtendWith;refine wpAny_bind (wpAny_typeOf hT1 ?_);have n1:Builtin.List.listSameRef (.ref s.heap.objs.size) (.ref a)=false:=by simp[Builtin.List.listSameRef];exact Nat.ne_of_gt hlt
 have n2:(Value.type "set" ==Value.type "list")=false:=by decide
 have n3:(Value.type "set" ==Value.type "tuple")=false:=by decide
 simp only[n1,n2,n3,Bool.or_false,Bool.false_eq_true,if_false];refine wpAny_bind (Zi2 ho1 hS fun I L s2 fp St n en hI kp eg eo et W st hge hfp=>?_);obtain⟨ns,hi,hp⟩:=hI;have hS2:=kp _ _ hS1;refine wpAny_bind (wpAny_holding (Zjc (a:=a) ⟨_,kp _ _ ho1,hS.1.1⟩ ?_));have hSf:s.heap.objs.size∉fp:=fun z=>by
  rcases hfp _ z with e|e
  ·exact Nat.ne_of_gt hlt e
  ·rw[Heap.size_push] at e;exact absurd e (Nat.not_succ_le_self _)
 have hIn:s.heap.objs.size≠I:=fun z=>by rw[←z,Heap.size_push] at hge;exact absurd hge (Nat.not_succ_le_self _)
 have Ws:=(W A.in1 hh).toS;have hnl:n≤sizeLine:=by
  have h1:L.length=ns.length:=IntsAre.length hi;rw[en,h1,hp.length_eq];exact hk
 have key:∀(h3:Heap)(c:Nat),St 0 h3→(∀b o,s.heap.get? b=some o→h3.get? b=some o)→h3.get? s.heap.objs.size=some {cls:= .type "list",data:= .seq #[] c}→codeAny (model prog w) A (.builtin "list.extend.loop" ⟨[.ref s.heap.objs.size,.ref I,.ref s.heap.objs.size],[]⟩) (fun r s'=>match r with| .ok (.ret v)=>v= .ref s.heap.objs.size∧∃acc c',s'.heap.get? s.heap.objs.size=some {cls:= .type "list",data:= .seq acc c'}∧acc.toList=L∧(∀b o,s.heap.get? b=some o→s'.heap.get? b=some o)∧s'.gens=s.gens∧s'.os=s.os|_=>False) {s2 with heap:=h3}:=by
  intro h3 c st3 kp3 e3;refine codeAny_extend_loopS Ws hnl _ hSf _ n 0 _ #[] c rfl (Nat.zero_le _) st3 e3 (ItemsOf.nil _) fun s4 acc c4 mv e4 its=>⟨rfl,acc,c4,e4,?_,fun b o' e=>mv.heap b o' (fun z=>?_) (kp3 b o' e),mv.gens.trans eg,mv.os.trans eo⟩
  ·refine List.ext_getElem? fun j=>?_
   by_cases hj:j<n
   ·have hj':j<acc.size:=by rw[its.1];exact hj
    rw[Array.getElem?_toList,its.2 j _ (Array.getElem?_eq_getElem hj'),Array.getElem?_eq_getElem hj']
   ·rw[List.getElem?_eq_none (by rw[Array.length_toList,its.1];omega),List.getElem?_eq_none (by rw[←en];omega)]
  ·have hb:=Heap.lt_size e;rcases List.mem_cons.mp z with z|z
   ·exact Nat.lt_irrefl _ (z▸hb)
   ·rw[List.mem_singleton.mp z] at hb;exact absurd (Nat.le_trans (Nat.le_of_succ_le (by rw[Heap.size_push] at hge;exact hge)) (Nat.le_refl I)) (Nat.not_le_of_gt hb)
 refine wpAny_ite_split (fun _=>?_) (fun _=>wpAny_pure ⟨plainId_quiet PySem.F.plain_extend_loop _,codeAny_mono (key _ 0 st (fun b o e=>kp b o (Heap.get?_push_of_some _ e)) (by rw[hS2,←hN])) fun r s' z=>?fin⟩)
 case fin=>
  rcases r with e|f
  ·exact z.elim
  cases f with
  |ret v=>
   obtain⟨rfl,acc,c',e4,el,k4,g4,o4⟩:=z;refine wpAny_bind (wpAny_load e4 (wpAny_pure ?_));rw[el];exact q s' L ns hi hp k4 g4 o4
  |_=>exact z.elim
 refine wpAny_bind (wpAny_rule (wpAny_bind ?_));show wpAny _ _ (updateSeq s.heap.objs.size (·.push .none) >>= fun _=>updateSeq s.heap.objs.size (·.pop)) _ _ _;rw[←hN] at hS2;refine wpAny_bind (wpAny_updateSeq hS2 rfl ?_);have hS3:=Heap.get?_update_self (Obj.mapSeq (·.push Value.none)) hS2 rfl;refine wpAny_updateSeq (hz:=by seq_fits) hS3 rfl ?_;have hS4:=Heap.get?_update_self (Obj.mapSeq (·.pop)) hS3 rfl;have oth:∀b o,b≠s.heap.objs.size→s2.heap.get? b=some o→((s2.heap.update s.heap.objs.size (Obj.mapSeq (·.push Value.none))).update s.heap.objs.size (Obj.mapSeq (·.pop))).get? b=some o:=fun b o hb e=>
  (Heap.get?_update_other _ _ (Ne.symm hb)).trans ((Heap.get?_update_other _ _ (Ne.symm hb)).trans e)
 refine wpAny_pure ⟨plainId_quiet PySem.F.plain_extend_loop _,codeAny_mono (key _ _ ((W A hh).frame 0 _ _ st fun b hb o e=>oth b o (fun z=>hSf (z▸hb)) e) (fun b o e=>oth b o (Nat.ne_of_lt (Heap.lt_size e)) (kp b o (Heap.get?_push_of_some _ e))) hS4) fun r s' z=>?_⟩;rcases r with e|f
 ·exact z.elim
 cases f with
 |ret v=>
  obtain⟨rfl,acc,c',e4,el,k4,g4,o4⟩:=z;refine wpAny_bind (wpAny_load e4 (wpAny_pure ?_));rw[el];exact q s' L ns hi hp k4 g4 o4
 |_=>exact z.elim
end
end L2
namespace L2
open PySem PySem.Spec PyProof.Rows
section
theorem ZhO{l:List Int}{v:Int}(h:l.Nodup):(step_dedup l v).Nodup:=by
 unfold step_dedup
 split
 ·exact h
 ·rename_i z;refine List.nodup_append.mpr ⟨h,by simp,fun a ha b hb e=>?_⟩;rw[List.mem_singleton.mp hb] at e;exact z (by rw[List.any_eq_true];exact⟨a,ha,by simp[e]⟩)
theorem Zeq(val:Nat→Int):∀i,(firstMet val i).Nodup
 |0=>by rw[firstMet_zero];exact .nil
 |i+1=>by rw[firstMet_succ];exact ZhO (Zeq val i)
theorem ZkU(ns:List Int){x:Int}:x∈firstMet (fun i=>ns.getD i 0) ns.length↔x∈ns:=by
 have h:=firstMet_any (fun i=>ns.getD i 0) ns.length x;have e:(List.range ns.length).map (fun i=>ns.getD i 0)=ns:=by
  refine List.ext_getElem (by simp) fun i h1 h2=>?_;simp[List.getD,h2]
 rw[e] at h;have a1:∀l:List Int,(l.any (· ==x))=true↔x∈l:=fun l=>by simp
 rw[←a1,h,a1]
theorem Zjw{l:List Int}(h:l.Pairwise (· ≤·))(n:l.Nodup):l.Pairwise (· < ·):=by
 refine(List.pairwise_and_iff.mpr ⟨h,n⟩:l.Pairwise fun a b=>a≤b∧a≠b).imp fun z=>?_;omega
variable {X:Cx}{K:PySem.W.Frag}
noncomputable def Zc6 (K:PySem.W.Frag):V→Hp→VK→Prop:=fun x H Q=>∃(l:Addr)(ns:List Int),x= .ref l∧SqL K H l (ns.map V.int)∧ns.length<64∧∀(p:Addr)(ms:List Int),H p=none→ms.Pairwise (· < ·)→(∀x,x∈ms↔x∈ns)→Q (.ref p) (upd H p (.lst (ms.map V.int)))
noncomputable def Zfp (K:PySem.W.Frag) (ta:TA):TE:=fun σ H Q=>ta σ H fun vs H1=>∃x,vs=[x]∧Zc6 K x H1 Q
theorem Zhd{a:Expr}{ta:TA}{p p1 pos pos1:Pos}(hK:X.K=K)(hc:X.calm=true)(hgl:Gl X "sorted")(hml:X.mg "sorted" =none)(hg:Gl X "set")(hm:X.mg "set" =none)(ha:PA X [a] ta)
  (hs:starEach [a] X.env=[(false,eval a X.env)]:=by rfl)
  (he:starEach [Expr.Call (.Name "set" p) [a] [] pos] X.env=(false,eval (.Call (.Name "set" p) [a] [] pos) X.env)::starEach [] X.env:=by rfl):
  PE X (.Call (.Name "sorted" p1) [.Call (.Name "set" p) [a] [] pos] [] pos1) (Zfp K ta):=by
 subst hK;intro pins s σ H Q I h;refine Call_ (Zae I hgl hml PyProof.Rows.boot_sorted ?_);refine PyProof.Rows.callWith_builtin1 ?_ he;rw[he];show wpAny _ _ (spliced ((false,eval (.Call (.Name "set" p) [a] [] pos) X.env):: [])) _ _ s;refine Calls.spliced_cons (Call_ (Zae I hg hm boot_set (PyProof.Rows.callWith_type1 (thn (ha pos pins s σ H _ I h) fun us s1 ⟨vs,H1,I1,r1,q1⟩=>?_) hs rfl)));obtain⟨x,e,l,ns,rfl,hq,hb,q⟩:=q1;subst e;obtain⟨u,rfl,rx⟩:=Ve r1;cases rx;obtain⟨its,rv,pl,hz⟩:=I1.list hq;have hi:=Zbs rv;have hsz:its.toArray.size=ns.length:=by have:=rv.length;simpa using this.symm
 have hb':its.toArray.size+1<scanBound:=by rw[hsz];unfold scanBound;omega
 refine Zi6 (I1.ok.hd hc) pl.isList hi hb' fun h' tk o ho hS hk=>?_;rw[hsz] at hS;refine Calls.spliced_nil ?_;have k1:∀b o,s1.heap.get? b=some o→h'.get? b=some o:=fun b o e=>hk b o (Heap.lt_size e) e;have I2:Inv X pins σ H1 {s1 with heap:=h',toks:=tk}:=I1.kept k1;generalize hM:firstMet (fun i=>ns.getD i 0) ns.length=M at hS;have Mnd:M.Nodup:=by rw[←hM];exact Zeq _ _
 have Mmem:∀x,x∈M↔x∈ns:=fun x=>by rw[←hM];exact ZkU ns
 have Mlen:M.length≤ns.length:=by rw[←hM];exact ZiD _ _
 refine Calls.call_function_entry kind_sorted plain_sorted entry_sorted (args_sorted1 _) ?_;unfold Builtin.«sorted»;refine wpAny_bind (m:=checkCount "sorted" 1 1 _) (wpAny_pure ?_);refine wpAny_bind (Zga (A:=X.A.in1) (I.ok.hd hc) ho hS (Nat.le_of_lt (Zu (n:=M.length) (by omega))) fun s3 L ms hms hpm k3 g3 o3=>?_);obtain⟨h3,gs3,d3,tk3,os3⟩:=s3;dsimp only at k3 g3 o3⊢;subst g3 o3;have k13:∀b o,s1.heap.get? b=some o→h3.get? b=some o:=fun b o e=>k3 b o (k1 b o e);have I3:Inv X pins σ H1 {s1 with heap:=h3,gens:=s1.gens,drawn:=d3,toks:=tk3}:=I1.call (ch:=[]) (Un.kept k13) (I1.hok.kept k13) I1.bare (fun _ z=>nomatch z);have hl:L.length=ms.length:=IntsAre.length hms;have hl2:ms.length≤ns.length:=by rw[hpm.length_eq];exact Mlen
 refine wpAny_bind (wpAny_newList ?_ (Nat.le_of_lt (Zu (n:=L.length) (by omega))));have hoL:(h3.push (seqObj "list" L.toArray 0)).get? h3.objs.size=some (seqObj "list" L.toArray 0):=Heap.get?_push_size _ rfl;refine wpAny_bind (wpAny_holding (wpAny_call_entry slot_list_sort ⟨_,hoL,rfl⟩ entry_list_sort (list_sort_tree hoL hms (by omega) fun out ns' a1 a2 a3=>⟨_,rfl,?_⟩) (args_list_sort _)));refine wpAny_pure ⟨_,rfl,?_⟩;obtain⟨e,he'⟩:=sortedHeap_at (out:=out) hoL;have hv':=ZbI a1;have pm:ns'.Perm M:=a2.trans hpm;refine⟨.ref h3.objs.size,_,I3.laid (a:=h3.objs.size) (o:= .lst (ns'.map V.int)) (t':=tk3) (fun b o hb'=>?_) (Nat.le_refl _) ⟨by rw[List.length_map,a2.length_eq];exact Nat.le_of_lt (Zu (n:=ms.length) (by omega)),out.toList,e,hv',by simpa using he'⟩,rfl,q _ ns' (I3.hok.fresh (Nat.le_refl _)) (Zjw a3 (pm.nodup_iff.mpr Mnd)) fun x=>pm.mem_iff.trans (Mmem x)⟩;have hlt:=Heap.lt_size hb';rw[sortedHeap_old (Nat.ne_of_lt hlt) (by rw[size_push'];exact Nat.lt_succ_of_lt hlt)];exact Heap.get?_push_of_some _ hb'
end
namespace Rd
section
variable {K:PySem.W.Frag}{σ:St}{H:Hp}{Q:VK}
theorem ZmY{ta:TA}(h:ta σ H fun vs H1=>∃x,vs=[x]∧Zc6 K x H1 Q):Zfp K ta σ H Q:=h
theorem Zml{l:Addr}{ns:List Int}(h:SqL K H l (ns.map V.int))(hl:ns.length<64)(q:∀(p:Addr)(ms:List Int),H p=none→ms.Pairwise (· < ·)→(∀x,x∈ms↔x∈ns)→Q (.ref p) (upd H p (.lst (ms.map V.int)))):∃x,[V.ref l]=[x]∧Zc6 K x H Q:=⟨_,rfl,l,ns,rfl,h,hl,q⟩
end
end Rd
end L2
namespace L2
open PySem PySem.Spec PyProof.Rows
section
variable {X:Cx}{K:PySem.W.Frag}
noncomputable def rSetDef:V→List V→Hp→VK→Prop:=fun x vs H Q=>∃(a:Addr)(kvs:List (Key×V))(i:Int)(v:V),x= .ref a∧vs=[.int i,v]∧H a=some (.dK kvs)∧kvs.length<sizeLine∧(∀y,valV kvs (Sum.inl i)=some y→Q y H)∧(valV kvs (Sum.inl i)=none→Q v (upd H a (.dK (Z9 kvs (Sum.inl i) v))))
theorem ZhW:MtR X "dict.setdefault" rSetDef:=by
 intro pins s σ H x xs v us Q I rx rs h;obtain⟨a,kvs,i,y,rfl,rfl,ha,hl,q1,q2⟩:=h;cases rx;obtain⟨u,t,rfl,ru,rt⟩:=rs.two;obtain⟨z,hd,vs,rel,dd⟩:=ZaN I.hok ha;have hk:(ZP X.prog X.w).is (Sum.inl i) u=true:=Zbe (k:=Sum.inl i) ru;refine call_meetsIn PySem.F.slot_dict_setdefault dd.typeIs PySem.F.entry_dict_setdefault (PySem.F.args_dict_setdefault_3 _ _ _) (kt_meets_setdefault (ZP X.prog X.w) a hk hd t) ⟨vs,dd,by rw[←rel.length];exact z,fun w hw=>?_,fun hn h' dd' hs=>?_⟩
 ·cases e:valV kvs (Sum.inl i) with
  |none=>have:=rel.val (Sum.inl i:Key);rw[e,hw] at this;exact nomatch this
  |some y'=>
   obtain⟨w2,h2,r2⟩:=W1.some_of (v:=y') (o:=valueAt vs (Sum.inl i)) (by rw[←e];exact rel.val _);rw[hw] at h2;cases h2;exact⟨y',H,I.tok _,r2,q1 y' e⟩
 ·have hp:(Z9 kvs (Sum.inl i) y).length≤sizeLine:=by have:=Ut kvs (Sum.inl i:Key) y;omega
  have he:∃q,h'.get? a=some q:=let⟨q,_,_,hq,_⟩:=dd';⟨q,hq⟩
  exact⟨y,_,ZaT (t':=s.toks+1) I (by rw[ha];exact True.intro) hs he (ZdH hp hd (rel.put (Sum.inl i) rt) dd'),rt,q2 (by
   cases e:valV kvs (Sum.inl i) with
   |none=>rfl
   |some w=>have:=rel.val (Sum.inl i:Key);rw[e,hn] at this;exact nomatch this)⟩
noncomputable def rMinD:List V→Hp→VK→Prop:=fun xs H Q=>∃(a:Addr)(kvs:List (Key×V))(ks:List Int),xs=[V.ref a]∧H a=some (.dK kvs)∧kvs.map (·.1)=ks.map Sum.inl∧0<kvs.length∧∀M,M∈ks→(∀b∈ks,M≤b)→Q (.int M) H
theorem Zie(hc:X.calm=true):Wl X (.builtin "min") rMinD:=by
 intro pins s σ H xs us Q I r h;obtain⟨a,kvs,ks,rfl,ha,hks,h0,q⟩:=h;obtain⟨u,rfl,ru⟩:=Ve r;cases ru;obtain⟨z,hd,vs,rel,dd⟩:=ZaN I.hok ha;obtain⟨ep,hat⟩:=dd.dictAt;have hkl:kvs.length=ks.length:=by have:=congrArg List.length hks;simpa using this
 have hvl:vs.length=ks.length:=by rw[←rel.length,hkl]
 have hlt:a<s.heap.objs.size:=hat.lt_size;have key:∀(j:Nat)(v:Value),(∃k x,vs[j]? =some (k,x)∧(ZP X.prog X.w).is k v=true)→∃t,v= .int (ks.getD j 0) t:=by
  rintro j v ⟨k,x,hx,hv⟩;obtain⟨v',hv'⟩:=rel.at hx;have hj:(kvs.map (·.1))[j]? =some k:=by rw[List.getElem?_map,hv'];rfl
  rw[hks,List.getElem?_map] at hj;cases e:ks[j]? with
  |none=>rw[e] at hj;cases hj
  |some n=>
   rw[e] at hj;cases hj;have en:ks.getD j 0=n:=by simp[List.getD,e]
   rw[en];exact Value.isInt_shape hv
 refine call_min_walk (wpAny_pyIter_dict hd hat ?_);refine⟨s.heap.objs.size,[s.heap.objs.size,a],[s.heap.objs.size],_,_,_,_,rfl,PySem.Walks.dictKeys (A:=X.A.in1) (knd:=ZP X.prog X.w) (I.ok.hd hc) _ a (Nat.ne_of_lt hlt) vs ep,⟨⟨_,Heap.get?_push_size _ rfl,rfl,rfl⟩,hat.push _⟩,fun b hb=>?_,by omega,CmpOf.ints_lt (fun i=>ks.getD i 0) key,fun v h' tk hP hk=>?_⟩
 ·show b<(s.heap.push _).objs.size;rw[Heap.size_push];rcases List.mem_cons.mp hb with rfl|hb
  ·exact Nat.lt_succ_self _
  ·rw[List.mem_singleton.mp hb];exact Nat.lt_succ_of_lt hlt
 ·obtain⟨t,rfl⟩:=key _ _ hP;obtain⟨h1,h2⟩:=argBest_lt (fun i=>ks.getD i 0) (vs.length-1);refine⟨.int _,H,I.kept (ZgP hk),⟨t,rfl⟩,q _ ?_ fun b hb=>?_⟩
  ·have hl2:argBest (fun i j=>decide (ks.getD i 0<ks.getD j 0)) (vs.length-1)<ks.length:=by omega
   rw[List.getD_eq_getElem?_getD,List.getElem?_eq_getElem hl2];exact List.getElem_mem hl2
  ·obtain⟨j,hj,rfl⟩:=List.getElem_of_mem hb;have:=h2 j (by omega);have e:ks.getD j 0=ks[j]:=by simp[List.getD,hj]
   rw[←e];exact this
theorem Zla(hc:X.calm=true):Wl X (.builtin "min") rMinD:=Zie hc
end
namespace Rd
section
variable {H:Hp}{Q:VK}
theorem Znl{a:Addr}{kvs:List (Key×V)}{ks:List Int}(h:H a=some (.dK kvs))(e:kvs.map (·.1)=ks.map Sum.inl)(h0:0<kvs.length)(q:∀M,M∈ks→(∀b∈ks,M≤b)→Q (.int M) H):rMinD [.ref a] H Q:=⟨a,kvs,ks,rfl,h,e,h0,q⟩
theorem ZlZ{a:Addr}{kvs:List (Key×V)}{i:Int}{v:V}(h:H a=some (.dK kvs))(hl:kvs.length<sizeLine)(q1:∀y,valV kvs (Sum.inl i)=some y→Q y H)(q2:valV kvs (Sum.inl i)=none→Q v (upd H a (.dK (Z9 kvs (Sum.inl i) v)))):rSetDef (.ref a) [.int i,v] H Q:=⟨a,kvs,i,v,rfl,rfl,h,hl,q1,q2⟩
end
end Rd
end L2
namespace My
@[irreducible] noncomputable def G (a b:Int):Int:=((Int.gcd a b:Nat):Int)
theorem Zdx(n m:Nat):G (n:Int) (m:Int)=((Nat.gcd n m:Nat):Int):=by
 unfold G
 rfl
theorem Zic{a b:Int}(ha:0≤a)(hb:b=0):G a b=a:=by
 subst hb;obtain⟨n,rfl⟩:=Int.eq_ofNat_of_zero_le ha;have:=Zdx n 0;rw[Nat.gcd_zero_right] at this;exact this
theorem Zk0{a b:Int}(ha:0≤a)(hb:0<b):G b (Int.fmod a b)=G a b:=by
 obtain⟨n,rfl⟩:=Int.eq_ofNat_of_zero_le ha;obtain⟨m,rfl⟩:=Int.eq_ofNat_of_zero_le (Int.le_of_lt hb);rw[Int.fmod_eq_emod_of_nonneg _ (Int.natCast_nonneg m),←Int.natCast_emod,Zdx,Zdx,Nat.gcd_comm n m,Nat.gcd_rec m n,Nat.gcd_comm]
structure S(k:Nat)(x:Int):Prop where
 lo:0≤x
 hi:x.toNat<2 ^ (2048*2 ^ k)
theorem ZkY{j k:Nat}(h:j≤k):2 ^ (2048*2 ^ j)≤2 ^ (2048*2 ^ k):=
 Nat.pow_le_pow_right (by decide) (Nat.mul_le_mul_left _ (Nat.pow_le_pow_right (by decide) h))
theorem S.mono{j k:Nat}{x:Int}(h:S j x)(hj:j≤k):S k x:=⟨h.lo,Nat.lt_of_lt_of_le h.hi (ZkY hj)⟩
end My
namespace Fo
noncomputable abbrev Trip:=Int×Int×Bool
noncomputable abbrev ZQ:=List (Int×Option Trip)
noncomputable def keys (tr:ZQ):List Int:=tr.map (·.1)
theorem Zaw(tr:ZQ)(w:Int)(s:Option Trip):keys (tr++ [(w,s)])=keys tr++ [w]:=by simp[keys]
theorem ZcV{tr:ZQ}{i:Nat}{w:Int}{s:Option Trip}(h:tr[i]? =some (w,s)):w∈keys tr:=List.mem_map.mpr ⟨(w,s),List.mem_of_getElem? h,rfl⟩
theorem Zcf{tr:ZQ}{w:Int}(h:w∈keys tr):∃(i:Nat)(s:Option Trip),tr[i]? =some (w,s):=by
 obtain⟨⟨w',s⟩,hm,rfl⟩:=List.mem_map.mp h;obtain⟨i,hi⟩:=List.getElem?_of_mem hm;exact⟨i,s,hi⟩
structure Y1(ways:Int→List Trip)(first:Int)(tr:ZQ):Prop where
 head:tr[0]? =some (first,none)
 nodup:(keys tr).Nodup
 steps:∀(i:Nat)(w p b:Int)(al:Bool),tr[i]? =some (w,some (p,b,al))→(w,b,al)∈ways p∧∃(j:Nat)(s:Option Trip),j<i∧tr[j]? =some (p,s)
 only:∀(i:Nat)(w:Int),tr[i]? =some (w,none)→i=0
def UQ(ways:Int→List Trip)(tr:ZQ)(d:Nat):Prop:=∀(j:Nat)(w:Int)(s:Option Trip),j<d→tr[j]? =some (w,s)→∀t∈ways w,t.1∈keys tr
section
variable {ways:Int→List Trip}{first:Int}{tr:ZQ}
theorem ZhY:Y1 ways first [(first,none)]:=by
 refine⟨rfl,by simp[keys],fun i w p b al h=>?_,fun i w h=>?_⟩
 ·cases i with
  |zero=>simp at h
  |succ i=>simp at h
 ·cases i with
  |zero=>rfl
  |succ i=>simp at h
theorem Zd9{tr:ZQ}{x y:Int×Option Trip}{i:Nat}(h:(tr++ [x])[i]? =some y):tr[i]? =some y∨(i=tr.length∧y=x):=by
 rcases Nat.lt_or_ge i tr.length with c|c
 ·rw[List.getElem?_append_left c] at h;exact .inl h
 ·rw[List.getElem?_append_right c] at h;have:i-tr.length=0:=by
   rcases Nat.eq_zero_or_pos (i-tr.length) with z|z
   ·exact z
   ·rw[List.getElem?_eq_none (by simp;omega)] at h;cases h
  rw[this] at h;simp at h;exact .inr ⟨by omega,h.symm⟩
theorem Zcn{tr:ZQ}{x y:Int×Option Trip}{i:Nat}(h:tr[i]? =some y):(tr++ [x])[i]? =some y:=by
 rw[List.getElem?_append_left (List.getElem?_eq_some_iff.mp h).1];exact h
theorem Y1.snoc(g:Y1 ways first tr){w p b:Int}{al:Bool}{j:Nat}{s:Option Trip}(hp:tr[j]? =some (p,s))(hw:(w,b,al)∈ways p)(hn:w∉keys tr):Y1 ways first (tr++ [(w,some (p,b,al))]):=by
 have hj:=(List.getElem?_eq_some_iff.mp hp).1;refine⟨Zcn g.head,?_,fun i w' p' b' al' h=>?_,fun i w' h=>?_⟩
 ·rw[Zaw];refine List.nodup_append.mpr ⟨g.nodup,by simp,fun x hx y hy=>?_⟩;rw[List.mem_singleton.mp hy];intro e;exact hn (e▸hx)
 ·rcases Zd9 h with z|⟨rfl,z⟩
  ·obtain⟨h1,j',s',h2,h3⟩:=g.steps i w' p' b' al' z;exact⟨h1,j',s',h2,Zcn h3⟩
  ·cases z;exact⟨hw,j,s,hj,Zcn hp⟩
 ·rcases Zd9 h with z|⟨rfl,z⟩
  ·exact g.only i w' z
  ·cases z
theorem UQ.snoc{d:Nat}(h:UQ ways tr d)(hd:d≤tr.length)(w:Int)(s:Option Trip):UQ ways (tr++ [(w,s)]) d:=fun j w' s' hj e t ht=>by
 rw[Zaw];refine List.mem_append_left _ ?_;rcases Zd9 e with z|⟨rfl,_⟩
 ·exact h j w' s' hj z t ht
 ·omega
theorem UQ.next{d:Nat}{w:Int}{s:Option Trip}(h:UQ ways tr d)(e:tr[d]? =some (w,s))(all:∀t∈ways w,t.1∈keys tr):UQ ways tr (d+1):=fun j w' s' hj e' t ht=>by
 rcases Nat.lt_succ_iff_lt_or_eq.mp hj with z|rfl
 ·exact h j w' s' z e' t ht
 ·rw[e] at e';cases e';exact all t ht
inductive Vo(ways:Int→List Trip)(a:Int):Int→Prop
 |refl:Vo ways a a
 |step {b c:Int} {t:Int} {al:Bool}:Vo ways a b→(c,t,al)∈ways b→Vo ways a c
theorem Vo.trans{a b c:Int}(h:Vo ways a b)(k:Vo ways b c):Vo ways a c:=by
 induction k with
 |refl=>exact h
 |step _ e ih=>exact .step ih e
def ZjN(ways:Int→List Trip):Prop:=∀(a b t:Int)(al:Bool),(b,t,al)∈ways a→(a,t,!al)∈ways b
theorem Vo.symm(hb:ZjN ways){a b:Int}(h:Vo ways a b):Vo ways b a:=by
 induction h with
 |refl=>exact .refl
 |step _ e ih=>exact(Vo.step .refl (hb _ _ _ _ e)).trans ih
theorem Y1.hang(g:Y1 ways first tr):∀(i:Nat)(w:Int)(s:Option Trip),tr[i]? =some (w,s)→Vo ways first w:=by
 intro i
 induction i using Nat.strongRecOn with
 |_ i ih=>
  intro w s h;cases s with
  |none=>
   have:=g.only i w h;subst this;rw[g.head] at h;cases h;exact .refl
  |some x=>
   obtain⟨p,b,al⟩:=x;obtain⟨h1,j,s',h2,h3⟩:=g.steps i w p b al h;exact .step (ih j h2 p s' h3) h1
theorem Y1.keys_iff(g:Y1 ways first tr)(c:UQ ways tr tr.length)(w:Int):w∈keys tr↔Vo ways first w:=by
 constructor
 ·intro h;obtain⟨i,s,hi⟩:=Zcf h;exact g.hang i w s hi
 ·intro h
  induction h with
  |refl=>exact ZcV g.head
  |step _ e ih=>
   obtain⟨i,s,hi⟩:=Zcf ih;exact c i _ s (List.getElem?_eq_some_iff.mp hi).1 hi _ e
theorem Y1.rg(g:Y1 ways first tr){n:Int}(h0:0≤first∧first<n)(hw:∀a,∀t∈ways a,0≤t.1∧t.1<n):∀w∈keys tr,0≤w∧w<n:=by
 intro w h;obtain⟨i,s,hi⟩:=Zcf h;have:=g.hang i w s hi;cases this with
 |refl=>exact h0
 |step _ e=>exact hw _ _ e
theorem Ub{ks:List Int}{n:Nat}(nd:ks.Nodup)(h:∀w∈ks,0≤w∧w<(n:Int)):ks.length≤n:=by
 have h1:=nd.length_le_of_subset (l₂:=(List.range n).map fun i:Nat=>(i:Int)) (fun w hw=>by
  obtain⟨a,b⟩:=h w hw;exact List.mem_map.mpr ⟨w.toNat,List.mem_range.mpr (by omega),by omega⟩)
 simpa using h1
end
structure Vm(ways:Int→List Trip)(n:Nat)(F:List (Int×ZQ))(i:Nat):Prop where
 tree:∀x∈F,Y1 ways x.1 x.2∧UQ ways x.2 x.2.length∧0≤x.1∧x.1<(i:Int)
 all:∀w:Int,0≤w→w<(i:Int)→∃x∈F,w∈keys x.2
 rise:F.Pairwise fun x y=>x.1<y.1
 least:∀x∈F,∀w∈keys x.2,x.1≤w
section
variable {ways:Int→List Trip}{n i:Nat}{F:List (Int×ZQ)}
theorem ZjP:Vm ways n [] 0:=⟨by simp,fun w h0 h1=>by omega,.nil,by simp⟩
theorem Vm.skip(h:Vm ways n F i)(hi:∃x∈F,(i:Int)∈keys x.2):Vm ways n F (i+1):=
 ⟨fun x hx=>by obtain⟨a,b,c,d⟩:=h.tree x hx;exact⟨a,b,c,by omega⟩,fun w h0 h1=>by
  by_cases e:w=(i:Int)
  ·rw[e];exact hi
  ·exact h.all w h0 (by omega),h.rise,h.least⟩
theorem Vm.grow(hb:ZjN ways)(hw:∀a,∀t∈ways a,0≤t.1∧t.1<(n:Int))(hin:i<n)(h:Vm ways n F i)(hi:∀x∈F,(i:Int)∉keys x.2){tr:ZQ}(g:Y1 ways i tr)(c:UQ ways tr tr.length):Vm ways n (F++ [((i:Int),tr)]) (i+1):=by
 refine⟨fun x hx=>?_,fun w h0 h1=>?_,List.pairwise_append.mpr ⟨h.rise,by simp,fun x hx y hy=>?_⟩,fun x hx=>?_⟩
 ·rcases List.mem_append.mp hx with z|z
  ·obtain⟨a,b,c,d⟩:=h.tree x z;exact⟨a,b,c,by omega⟩
  ·rw[List.mem_singleton.mp z];exact⟨g,c,by simp,by simp;omega⟩
 ·by_cases e:w=(i:Int)
  ·exact⟨_,List.mem_append_right _ (List.mem_singleton.mpr rfl),by rw[e];exact ZcV g.head⟩
  ·obtain⟨x,hx,hk⟩:=h.all w h0 (by omega);exact⟨x,List.mem_append_left _ hx,hk⟩
 ·rw[List.mem_singleton.mp hy];exact(h.tree x hx).2.2.2
 ·rcases List.mem_append.mp hx with z|z
  ·exact h.least x z
  ·rw[List.mem_singleton.mp z];intro w hk;rcases Int.lt_or_le w (i:Int) with y|y
   ·exfalso;have hr:=g.rg ⟨by omega,by omega⟩ hw w hk;obtain⟨x',hx',hk'⟩:=h.all w hr.1 y;obtain⟨g',c',_,_⟩:=h.tree x' hx';have h1:=(g'.keys_iff c' w).mp hk';have h2:=((g.keys_iff c w).mp hk).symm hb;exact hi x' hx' ((g'.keys_iff c' _).mpr (h1.trans h2))
   ·exact y
end
end Fo
namespace Fire
noncomputable def bump (c:Nat→Nat) (w:Nat):Nat→Nat:=fun v=>if v=w then c v+1 else c v
theorem VO(c:Nat→Nat)(w:Nat):bump c w w=c w+1:=by simp[bump]
theorem VP(c:Nat→Nat){v w:Nat}(h:v≠w):bump c w v=c v:=by simp[bump,h]
theorem ZkR(c:Nat→Nat)(w v:Nat):c v≤bump c w v:=by unfold bump;split<;>omega
def ZjT(R:(Nat→Nat)→Nat→Prop):Prop:=∀c c' w,(∀v,c v≤c' v)→c w=c' w→R c w→R c' w
inductive Ye(R:(Nat→Nat)→Nat→Prop):(Nat→Nat)→List Nat→(Nat→Nat)→Prop
 |nil (c:Nat→Nat):Ye R c [] c
 |cons {c d:Nat→Nat} {w:Nat} {ws:List Nat}:R c w→Ye R (bump c w) ws d→Ye R c (w::ws) d
variable {R:(Nat→Nat)→Nat→Prop}
theorem Ye.up{c d:Nat→Nat}{ws:List Nat}(h:Ye R c ws d):∀v,c v≤d v:=by
 induction h with
 |nil c=>exact fun v=>Nat.le_refl _
 |cons _ _ ih=>exact fun v=>Nat.le_trans (ZkR _ _ v) (ih v)
theorem Ye.under(m:ZjT R){c d e:Nat→Nat}{ws:List Nat}(h:Ye R c ws d)(st:∀w,¬R e w)(le:∀v,c v≤e v):∀v,d v≤e v:=by
 induction h with
 |nil c=>exact le
 | @cons c d w ws r _ ih=>
  refine ih fun v=>?_
  by_cases hv:v=w
  ·subst hv;rw[VO];have h1:=le v
   by_cases h2:c v=e v
   ·exact absurd (m c e v le h2 r) (st v)
   ·omega
  ·rw[VP c hv];exact le v
theorem Ye.one(m:ZjT R){c d d':Nat→Nat}{ws ws':List Nat}(h:Ye R c ws d)(s:∀w,¬R d w)(h':Ye R c ws' d')(s':∀w,¬R d' w):d=d':=by
 funext v
 exact Nat.le_antisymm (h.under m s' h'.up v) (h'.under m s h.up v)
theorem Ye.app{c d e:Nat→Nat}{ws ws':List Nat}(h:Ye R c ws d)(h':Ye R d ws' e):Ye R c (ws++ws') e:=by
 induction h with
 |nil c=>exact h'
 |cons r _ ih=>exact .cons r (ih h')
theorem Ye.snoc{c d:Nat→Nat}{ws:List Nat}{w:Nat}(h:Ye R c ws d)(r:R d w):Ye R c (ws++ [w]) (bump d w):=h.app (.cons r (.nil _))
theorem Ye.count{c d:Nat→Nat}{ws:List Nat}(h:Ye R c ws d):∀v,d v=c v+ws.count v:=by
 induction h with
 |nil c=>intro v;simp
 | @cons c d w ws r _ ih=>
  intro v;rw[ih v]
  by_cases hv:v=w
  ·subst hv;rw[VO,List.count_cons_self];omega
  ·rw[VP c hv,List.count_cons_of_ne (Ne.symm hv)]
structure Belt where
 giver:Nat
 taker:Nat
 give:Int
 take:Int
 start:Int
noncomputable def lie (b:Belt) (c:Nat→Nat):Int:=b.start+b.give*(c b.giver:Int)-b.take*(c b.taker:Int)
def Zmw(bs:List Belt)(c:Nat→Nat)(w:Nat):Prop:=∀b∈bs,b.taker=w→b.take≤lie b c
def May(bs:List Belt)(n:Nat)(rate:Nat→Nat)(c:Nat→Nat)(w:Nat):Prop:=w<n∧c w<rate w∧Zmw bs c w
theorem Zjt{b:Belt}(h:0≤b.give){c c':Nat→Nat}(le:∀v,c v≤c' v)(e:c b.taker=c' b.taker):lie b c≤lie b c':=by
 unfold lie;rw[e];have:b.give*(c b.giver:Int)≤b.give*(c' b.giver:Int):=Int.mul_le_mul_of_nonneg_left (by have:=le b.giver;omega) h;omega
theorem Zjb{bs:List Belt}{n:Nat}{rate:Nat→Nat}(h:∀b∈bs,0≤b.give):ZjT (May bs n rate):=by
 rintro c c' w le e ⟨h1,h2,h3⟩;refine⟨h1,by omega,fun b hb ht=>Int.le_trans (h3 b hb ht) (Zjt (h b hb) le ?_)⟩;rw[ht];exact e
def Bal(bs:List Belt)(rate:Nat→Nat):Prop:=∀b∈bs,b.give*(rate b.giver:Int)=b.take*(rate b.taker:Int)
theorem Zgd{bs:List Belt}{rate c:Nat→Nat}{b:Belt}(hb:b∈bs)(bal:Bal bs rate)(hs:0≤b.start)(ht:0≤b.take)(le:c b.giver≤rate b.giver)(tl:c b.taker<rate b.taker)(short:lie b c<b.take):c b.giver<rate b.giver:=by
 rcases Nat.lt_or_ge (c b.giver) (rate b.giver) with h|h
 ·exact h
 ·exfalso;have e:c b.giver=rate b.giver:=by omega
  unfold lie at short;rw[e,bal b hb] at short;have:b.take*((c b.taker:Int)+1)≤b.take*(rate b.taker:Int):=Int.mul_le_mul_of_nonneg_left (by omega) ht;rw[Int.mul_add,Int.mul_one] at this;omega
end Fire
set_option Elab.async false
set_option linter.all false
set_option maxRecDepth 100000
set_option maxHeartbeats 4000000
local macro_rules| `(tactic|walk_at "mul")=>`(tactic|k_dflt (first|with_reducible assumption|exact L2.Zhs.ok (Or.inr ⟨by omega,by omega⟩)|exact L2.Zhs.ok (Or.inl ⟨by omega,by omega⟩)))
local macro_rules| `(tactic|walk_at "lk")=>`(tactic|first|exact L2.Rd.lk0|exact L2.Rd.lkN|(refine L2.Rd.lk1 (by decide+kernel) ?_;walk_at "lk"))
local macro_rules| `(tactic|walk_at "pf")=>`(tactic|first|exact L2.Rd.pfN|(apply L2.Rd.pf1;(decide+kernel);walk_at "pf"))
local macro_rules| `(tactic|walk_at "na")=>`(tactic|exact L2.ZaZ.get (by with_reducible assumption) (by decide+kernel))
local macro_rules| `(tactic|walk_at "cond")=>`(tactic|k_dflt (first|with_reducible assumption|decide|omega|(simp;done)|(simp only[List.length_cons,List.length_nil,List.length_map,List.length_append];omega)))
local macro_rules| `(tactic|walk_at "rdis")=>`(tactic|((with_reducible show ∃x n t b,_=_∧L2.Wp _ _ x t∧_);first|with_reducible apply L2.Rd.Zg3|with_reducible apply L2.Rd.Zgf|with_reducible apply L2.Rd.is_int_str|with_reducible apply L2.Rd.is_int_list|with_reducible apply L2.Rd.is_int_tuple|with_reducible apply L2.Rd.is_int_dict|with_reducible apply L2.Rd.is_bl_int|with_reducible apply L2.Rd.is_bl_bool|with_reducible apply L2.Rd.is_bl_str|with_reducible apply L2.Rd.is_bl_list|with_reducible apply L2.Rd.is_bl_tuple|with_reducible apply L2.Rd.is_bl_dict|with_reducible apply L2.Rd.is_str_int|with_reducible apply L2.Rd.is_str_bool|with_reducible apply L2.Rd.Zg7|with_reducible apply L2.Rd.is_str_list|with_reducible apply L2.Rd.is_str_tuple|with_reducible apply L2.Rd.is_str_dict|with_reducible apply L2.Rd.is_non_int|with_reducible apply L2.Rd.is_non_bool|with_reducible apply L2.Rd.is_non_str|with_reducible apply L2.Rd.is_non_list|with_reducible apply L2.Rd.is_non_tuple|with_reducible apply L2.Rd.is_non_dict|with_reducible refine L2.Rd.is_lst_int (by with_reducible assumption) ?_|with_reducible refine L2.Rd.is_lst_bool (by with_reducible assumption) ?_|with_reducible refine L2.Rd.is_lst_str (by with_reducible assumption) ?_|with_reducible refine L2.Rd.Zgg (by with_reducible assumption) ?_|with_reducible refine L2.Rd.is_lst_tuple (by with_reducible assumption) ?_|with_reducible refine L2.Rd.is_lst_dict (by with_reducible assumption) ?_|with_reducible refine L2.Rd.is_tup_int (by with_reducible assumption) ?_|with_reducible refine L2.Rd.is_tup_bool (by with_reducible assumption) ?_|with_reducible refine L2.Rd.is_tup_str (by with_reducible assumption) ?_|with_reducible refine L2.Rd.is_tup_list (by with_reducible assumption) ?_|with_reducible refine L2.Rd.ZfN (by with_reducible assumption) ?_|with_reducible refine L2.Rd.is_tup_dict (by with_reducible assumption) ?_|with_reducible refine L2.Rd.is_dK_int (by with_reducible assumption) ?_|with_reducible refine L2.Rd.is_dK_bool (by with_reducible assumption) ?_|with_reducible refine L2.Rd.is_dK_str (by with_reducible assumption) ?_|with_reducible refine L2.Rd.is_dK_list (by with_reducible assumption) ?_|with_reducible refine L2.Rd.is_dK_tuple (by with_reducible assumption) ?_|with_reducible refine L2.Rd.is_dK_dict (by with_reducible assumption) ?_))
local macro_rules| `(tactic|walk_at "side")=>`(tactic|k_dflt (first|with_reducible assumption|decide|(dsimp only;decide)|(dsimp only[L2.CPow];decide)|omega|(dsimp only;omega)))
local macro_rules| `(tactic|walk_at "hp")=>`(tactic|with_reducible (first|assumption|((show L2.SqL _ _ _ _);(first|exact L2.SqL.of (by assumption)|exact L2.WF.sq (by assumption)|exact L2.Zd.seq (by assumption) (by assumption)))|((show L2.SqT _ _ _ _);(first|exact L2.SqT.of (by assumption)|exact L2.OffT.sq (by assumption)|exact L2.Zd.seqT (by assumption) (by assumption)))))
local macro_rules| `(tactic|walk_at "rd")=>`(tactic|first|with_reducible (first|apply L2.Rd.seq|apply L2.Rd.asg|apply L2.Rd.ret|apply L2.Rd.ifs|apply L2.Rd.next|apply L2.Rd.drop|apply L2.Rd.op|apply L2.Rd.Znj|apply L2.Rd.con|(show L2.Zhn _ _ _ _;refine L2.Rd.var (by k_dflt rfl) ?_)|(show L2.UT _ _ _ _ _;refine L2.Rd.Zmr (by k_dflt (dsimp only[L2.start,List.map_cons,List.map_nil,List.cons_append,List.nil_append,List.length_cons,List.length_nil,Nat.reduceAdd,Nat.reduceSub,List.replicate,List.set];(try rfl))) ?_)|apply L2.Rd.call|apply L2.Rd.cons|apply L2.Rd.nil|apply L2.Rd.cb|apply L2.Rd.tup|apply L2.Rd.lst|apply L2.Rd.ZmE|apply L2.Rd.or_|apply L2.Rd.ZmR|apply L2.Rd.Zno|apply L2.Rd.ZmD|apply L2.Rd.i0|(show L2.rI _ _ _ _ _ _;refine L2.Rd.iC (by walk_at "side") ?_)|apply L2.Rd.bl|apply L2.Rd.ZmJ|(show L2.rOr L2.Zhe _ _ _ _ _;refine L2.Rd.Znf (by walk_at "mul") ?_)|apply L2.Rd.Znb|apply L2.Rd.ZmQ|apply L2.Rd.Znm|(show L2.rOr _ (L2.rOr L2.ZeV _) (L2.V.str _) (L2.V.str _) _ _;refine L2.Rd.ZlW (by walk_at "side") ?_)|(show L2.rIx _ _ _ _ _;refine L2.Rd.ZmX (by walk_at "hp") (by k_dflt rfl) ?_)|(show L2.rIx _ _ _ _ _;refine L2.Rd.Zi3 (by walk_at "hp") (by k_dflt (first|rfl|with_reducible assumption)) ?_)|(show ∃a,L2.V.ref _=L2.V.ref a∧(∃xs,L2.SqL _ _ a xs)∧_;refine L2.Rd.Zls (by walk_at "hp") ?_)|(show ∃k,[L2.V.int _]=[L2.V.int k]∧_;refine L2.Rd.Zmb (by k_dflt omega) (by k_dflt omega) ?_)|(show ∃x n,_=_∧L2.Zbl _ x _ n∧_;refine L2.Rd.Zmi (by walk_at "hp") ?_)|(show ∃x n,_=_∧L2.Zbl _ x _ n∧_;refine L2.Rd.Zm6 (by walk_at "hp") ?_)|(show ∃x n,_=_∧L2.Zbl _ x _ n∧_;refine L2.Rd.Zm0 (by walk_at "side") ?_))|walk_at "rdis" |with_reducible (first|apply L2.Rd.Zm3|apply L2.Rd.tru|apply L2.Rd.Zng|apply L2.Rd.Znh|apply L2.Rd.Zm2|apply L2.Rd.bm|(show L2.tyV _ _ _ _∧_;refine L2.Rd.tyl (by with_reducible assumption) ?_)|(show L2.rAppend _ _ _ _;refine L2.Rd.app (by with_reducible assumption) (by walk_at "side") ?_)|apply L2.Zhk|apply L2.ZfK|apply L2.Rd.Zj5|apply L2.Rd.Zj2|(show if decide _=true then _ else _;refine L2.Rd.ifP (by walk_at "cond") ?_)|(show if decide _=true then _ else _;refine L2.Rd.ifN (by walk_at "cond") ?_)|(show if(!decide _)=true then _ else _;refine L2.Rd.Zm1 (by walk_at "cond") ?_)|apply L2.Rd.sl|apply L2.Rd.Zlz|apply L2.Rd.Zne|apply L2.Rd.Zl7|(show L2.ZdY _ _ _ _ _ _;refine L2.Rd.slS (by walk_at "side") ?_)|apply L2.Rd.ZmP|(show ∃a C dx fs v,L2.V.ref _=L2.V.ref a∧_=some (L2.HO.ins C dx fs)∧L2.Cls _ C∧_;refine L2.Rd.fld (by with_reducible assumption) (by with_reducible assumption) (by k_dflt (walk_at "na")) (by k_dflt (walk_at "lk")) ?_)|apply L2.Rd.ZmK|(show L2.rSetL _ _ _ _ _;refine L2.Rd.Zni (by with_reducible assumption) (by k_dflt omega) (by walk_at "cond") ?_)|apply L2.Rd.Zmv|apply L2.Rd.Zl5|apply L2.Rd.ZmS|(show ∃a C dx fs,L2.V.ref _=L2.V.ref a∧_=some (L2.HO.ins C dx fs)∧L2.Cls _ C∧_;refine L2.Rd.Zmo (by with_reducible (first|assumption|exact L2.Ze)) (by with_reducible assumption) (by k_dflt (walk_at "na")) (by k_dflt (simp only[List.length_cons,List.length_nil];decide)) (by k_dflt (walk_at "pf")) ?_)|apply L2.Rd.Zmj|apply L2.Rd.ZkW|apply L2.Rd.Zmm|apply L2.Rd.ZmN|apply L2.Rd.Zmf|apply L2.Rd.Zm8|apply L2.Rd.ZmB|(show L2.rIn _ _ _ _ _ _;refine L2.Rd.inI (by walk_at "hp") ?_)|(show L2.rIn _ _ _ _ _ _;refine L2.Rd.Zm9 (by walk_at "hp") ?_)|(show ∃p bs,[L2.V.ref _]=[L2.V.ref p]∧L2.SqL _ _ p (List.map L2.V.bl bs)∧_;refine L2.Rd.ZmG (by walk_at "hp") ?_)|apply L2.Rd.leS|apply L2.Rd.Zmy)|((with_reducible show if(!(_==_))=true then _ else _);first|refine L2.Rd.Zj5 ?_|refine L2.Rd.Zj2 ?_)|((with_reducible show if(_==_)=true then _ else _);first|refine L2.Zhk ?_|refine L2.ZfK ?_)|with_reducible (first|apply L2.Rd.ZlU|apply L2.Rd.Zmd|(show ∃a,_=_∧(∃xs,L2.SqL _ _ a xs)∧_;refine L2.Rd.ZlR (by walk_at "hp") ?_)|apply L2.Rd.ZmH)|((with_reducible show L2.rDIn _ _ _ _);first|with_reducible refine L2.Rd.Zm7 (by with_reducible assumption) ?_|with_reducible refine L2.Rd.dinI (by with_reducible assumption) ?_)|((with_reducible show L2.rDNotIn _ _ _ _);first|with_reducible refine L2.Rd.dninS (by with_reducible assumption) ?_|with_reducible refine L2.Rd.Zmp (by with_reducible assumption) ?_)|((with_reducible show L2.rIxD _ _ _ _);first|with_reducible refine L2.Rd.dgetS (by with_reducible assumption) (by with_reducible assumption) ?_|with_reducible refine L2.Rd.Zl6 (by with_reducible assumption) (by with_reducible assumption) ?_)|((with_reducible show L2.rSetD _ _ _ _ _);first|with_reducible refine L2.Rd.Zl8 (by with_reducible assumption) (by walk_at "side") ?_|with_reducible refine L2.Rd.Zl4 (by with_reducible assumption) (by walk_at "side") ?_)|with_reducible (first|(show L2.rLenD _ _ _;refine L2.Rd.ZmW (by with_reducible assumption) ?_)|(show L2.rListD _ _ _;refine L2.Rd.Zmh (by with_reducible assumption) ?_)|apply L2.Rd.ZmU|apply L2.Rd.ipi|(show L2.ZdR _ _ _ _ _;refine L2.Rd.ixl (by walk_at "hp") (by k_dflt (first|rfl|with_reducible assumption)) ?_)|apply L2.Rd.Zm4|apply L2.Rd.ZmI|apply L2.Rd.Znk|apply L2.Rd.Zme))
local macro_rules| `(tactic|walk_at "rds")=>`(tactic|repeat' (walk_at "rd"))
namespace Nm
open PySem L2
noncomputable def top (i:Nat):Stmt:=PySem.Challenge.pw_ratehall_k12_round_walked.main.body.getD i (.Pass ⟨0,0,0,0⟩)
noncomputable abbrev Zbb:Stmt:=top 52
noncomputable abbrev ZaE:Stmt:=top 53
noncomputable abbrev Uw:Stmt:=top 54
noncomputable abbrev ZaH:Stmt:=top 59
noncomputable abbrev Us:Stmt:=top 57
noncomputable abbrev ZaG:Stmt:=top 58
noncomputable abbrev Ux:Stmt:=top 60
noncomputable abbrev U4:Stmt:=top 16
noncomputable abbrev ZaL:Stmt:=top 17
noncomputable abbrev V2:Stmt:=top 50
noncomputable abbrev Wt:Stmt:=top 18
noncomputable abbrev WJ:Stmt:=Ys (top 49) 12
noncomputable abbrev Uq:Stmt:=Ys (top 49) 4
noncomputable abbrev U6:Stmt:=top 65
noncomputable abbrev V3:Stmt:=Ys (top 49) 7
noncomputable abbrev Vq:Stmt:=top 40
noncomputable abbrev Ud:Stmt:=Ys (top 49) 5
noncomputable abbrev UH:Stmt:=top 25
noncomputable abbrev Uy:Stmt:=top 26
noncomputable abbrev UC:Stmt:=top 24
noncomputable abbrev Zay:Stmt:=top 12
noncomputable abbrev Zcl:Stmt:=top 14
noncomputable abbrev Zck:Stmt:=top 15
noncomputable abbrev ZdN:Stmt:=top 33
noncomputable abbrev Vf:Stmt:=Ys (top 49) 8
noncomputable abbrev Ur:Stmt:=top 32
noncomputable abbrev U5:Stmt:=top 13
noncomputable abbrev V7:Stmt:=top 31
noncomputable abbrev Vs:Stmt:=top 29
noncomputable abbrev Za7:Stmt:=top 27
noncomputable abbrev Vi:Stmt:=top 35
noncomputable abbrev Vk:Stmt:=top 34
noncomputable abbrev U3:Stmt:=top 30
noncomputable abbrev Vy:Stmt:=top 39
noncomputable abbrev Zah:Stmt:=top 22
noncomputable abbrev YY:Stmt:=Ys (top 41) 2
noncomputable abbrev YS:Stmt:=Ys (top 41) 4
noncomputable abbrev Y0:Stmt:=Ys (top 41) 3
noncomputable abbrev YN:Stmt:=Ys (top 41) 1
noncomputable abbrev WK:Stmt:=Ys (top 49) 11
noncomputable abbrev Wk:Stmt:=Ys (top 49) 9
noncomputable abbrev VW:Stmt:=top 20
noncomputable abbrev WB:Stmt:=Ys (top 49) 10
noncomputable abbrev V4:Stmt:=top 21
noncomputable abbrev WZ:Stmt:=top 42
noncomputable abbrev YU:Stmt:=Ys (top 41) 0
noncomputable abbrev U2:Stmt:=top 38
noncomputable abbrev Zax:Stmt:=top 62
noncomputable abbrev ZaO:Stmt:=top 61
noncomputable abbrev WO:Stmt:=top 63
noncomputable abbrev Zbg:Stmt:=top 64
noncomputable abbrev Zbq:Stmt:=top 56
noncomputable abbrev Zbi:Stmt:=top 55
noncomputable abbrev UF:Stmt:=top 45
noncomputable abbrev Uu:Stmt:=Ys (top 49) 1
noncomputable abbrev UU:Stmt:=Ys (top 49) 3
noncomputable abbrev UB:Stmt:=Ys (top 49) 2
noncomputable abbrev UA:Stmt:=Ys (top 49) 0
noncomputable abbrev ZaQ:Stmt:=top 66
theorem Zh3:Zt ["_law_script","_law_k"] ["_law_script","_law_k"] (Zi Zbb):=⟨rfl,rfl,rfl,by decide+kernel,rfl,by decide+kernel,by decide+kernel⟩
theorem Zg9:Zt ["_law_script","_law_k"] ["_law_script","_law_k"] (Zi ZaE):=⟨rfl,rfl,rfl,by decide+kernel,rfl,by decide+kernel,by decide+kernel⟩
theorem V9:Zt ["_law_one","_law_other","_law_rest"] ["_law_one","_law_other"] (Zi Uw):=⟨rfl,rfl,rfl,by decide+kernel,rfl,by decide+kernel,by decide+kernel⟩
theorem Wi:Zt ["_law_script","_law_sizes","_law_lines_here","_law_k","_law_mixed_here","_law_giver","_law_taker","_law_both","_law_factor"] ["_law_script","_law_sizes"] (Zi ZaH):=⟨rfl,rfl,rfl,by decide+kernel,rfl,by decide+kernel,by decide+kernel⟩
theorem Ua:Zt ["_law_lines_here","_law_first","_law_many","_law_piece","_law_lap","_law_line"] ["_law_lines_here","_law_first","_law_many"] (Zi Us):=⟨rfl,rfl,rfl,by decide+kernel,rfl,by decide+kernel,by decide+kernel⟩
theorem Vc:Zt ["_law_lines_here","_law_sizes","_law_rates_here","_law_work","_law_both","_law_other"] ["_law_lines_here","_law_sizes"] (Zi ZaG):=⟨rfl,rfl,rfl,by decide+kernel,rfl,by decide+kernel,by decide+kernel⟩
theorem Yp:Zt ["_law_script","_law_lines_here","_law_rates_here","_law_made","_law_k","_law_giver","_law_taker","_law_give","_law_take","_law_mixed_here","_law_start"] ["_law_script","_law_lines_here","_law_rates_here"] (Zi Ux):=⟨rfl,rfl,rfl,by decide+kernel,rfl,by decide+kernel,by decide+kernel⟩
theorem ZfY:Zt ["thing"] ["thing"] (Zi U4):=⟨rfl,rfl,rfl,by decide+kernel,rfl,by decide+kernel,by decide+kernel⟩
theorem ZhQ:Zt ["thing","least"] ["thing","least"] (Zi ZaL):=⟨rfl,rfl,rfl,by decide+kernel,rfl,by decide+kernel,by decide+kernel⟩
theorem ZeJ:Zt ["start"] ["start"] (Zi V2):=⟨rfl,rfl,rfl,by decide+kernel,rfl,by decide+kernel,by decide+kernel⟩
theorem Zb2:Zt ["thing","bound"] ["thing","bound"] (Zi Wt):=⟨rfl,rfl,rfl,by decide+kernel,rfl,by decide+kernel,by decide+kernel⟩
theorem Zct:Zt ["self","belt"] ["self","belt"] (Zi WJ):=⟨rfl,rfl,rfl,by decide+kernel,rfl,by decide+kernel,by decide+kernel⟩
theorem Zcc:Zt ["self","belt","start","row"] ["self","belt","start"] (Zi Uq):=⟨rfl,rfl,rfl,by decide+kernel,rfl,by decide+kernel,by decide+kernel⟩
theorem Y4:Zt ["_law_hall","_law_lines_here","_law_starts","_law_made","_law_k","_law_giver","_law_taker","_law_give","_law_take","_law_start"] ["_law_hall","_law_lines_here","_law_starts"] (Zi U6):=⟨rfl,rfl,rfl,by decide+kernel,rfl,by decide+kernel,by decide+kernel⟩
theorem ZeQ:Zt ["self"] ["self"] (Zi V3):=⟨rfl,rfl,rfl,by decide+kernel,rfl,by decide+kernel,by decide+kernel⟩
theorem Zfu:Zt ["hall"] ["hall"] (Zi Vq):=⟨rfl,rfl,rfl,by decide+kernel,rfl,by decide+kernel,by decide+kernel⟩
theorem ZeN:Zt ["self"] ["self"] (Zi Ud):=⟨rfl,rfl,rfl,by decide+kernel,rfl,by decide+kernel,by decide+kernel⟩
theorem UY:Zt ["hall","ways","belt","row"] ["hall"] (Zi UH):=⟨rfl,rfl,rfl,by decide+kernel,rfl,by decide+kernel,by decide+kernel⟩
theorem Yy:Zt ["ways","first","tree","reached","done","work","other","belt","along"] ["ways","first"] (Zi Uy):=⟨rfl,rfl,rfl,by decide+kernel,rfl,by decide+kernel,by decide+kernel⟩
theorem Ww:Zt ["hall","ways","seen","forest","work","tree"] ["hall"] (Zi UC):=⟨rfl,rfl,rfl,by decide+kernel,rfl,by decide+kernel,by decide+kernel⟩
theorem U1:Zt ["one","other","rest"] ["one","other"] (Zi Zay):=⟨rfl,rfl,rfl,by decide+kernel,rfl,by decide+kernel,by decide+kernel⟩
theorem Zfv:Zt ["top","bottom","common"] ["top","bottom"] (Zi Zcl):=⟨rfl,rfl,rfl,by decide+kernel,rfl,by decide+kernel,by decide+kernel⟩
theorem Zi1:Zt ["one","other"] ["one","other"] (Zi Zck):=⟨rfl,rfl,rfl,by decide+kernel,rfl,by decide+kernel,by decide+kernel⟩
theorem ZkS:Zt ["row","along"] ["row","along"] (Zi ZdN):=⟨rfl,rfl,rfl,by decide+kernel,rfl,by decide+kernel,by decide+kernel⟩
theorem ZdJ:Zt ["self","belt"] ["self","belt"] (Zi Vf):=⟨rfl,rfl,rfl,by decide+kernel,rfl,by decide+kernel,by decide+kernel⟩
theorem V5:Zt ["hall","tree","shares","work","step"] ["hall","tree"] (Zi Ur):=⟨rfl,rfl,rfl,by decide+kernel,rfl,by decide+kernel,by decide+kernel⟩
theorem Zgo:Zt ["one","other"] ["one","other"] (Zi U5):=⟨rfl,rfl,rfl,by decide+kernel,rfl,by decide+kernel,by decide+kernel⟩
theorem YK:Zt ["hall","forest","rates","tree","shares","common","share","work"] ["hall","forest"] (Zi V7):=⟨rfl,rfl,rfl,by decide+kernel,rfl,by decide+kernel,by decide+kernel⟩
theorem ZfE:Zt ["hall","counts"] ["hall","counts"] (Zi Vs):=⟨rfl,rfl,rfl,by decide+kernel,rfl,by decide+kernel,by decide+kernel⟩
theorem Zix:Zt ["tree","work","way","step"] ["tree","work"] (Zi Za7):=⟨rfl,rfl,rfl,by decide+kernel,rfl,by decide+kernel,by decide+kernel⟩
theorem Zdq:Zt ["one","other","shared"] ["one","other"] (Zi Vi):=⟨rfl,rfl,rfl,by decide+kernel,rfl,by decide+kernel,by decide+kernel⟩
theorem Zdp:Zt ["hall","forest","belt","row","tree","to_giver","to_taker","shared","back"] ["hall","forest","belt"] (Zi Vk):=⟨rfl,rfl,rfl,by decide+kernel,rfl,by decide+kernel,by decide+kernel⟩
theorem Vr:Zt ["hall","forest","rates","belt","change"] ["hall"] (Zi U3):=⟨rfl,rfl,rfl,by decide+kernel,rfl,by decide+kernel,by decide+kernel⟩
theorem Za3:Zt ["hall","rates"] ["hall"] (Zi Vy):=⟨rfl,rfl,rfl,by decide+kernel,rfl,by decide+kernel,by decide+kernel⟩
theorem Zh5:Zt ["heaps","takes"] ["heaps","takes"] (Zi Zah):=⟨rfl,rfl,rfl,by decide+kernel,rfl,by decide+kernel,by decide+kernel⟩
theorem ZS:Zt ["self","starts","heaps","left","able","row","work","belt","take","give","other"] ["self","starts"] (Zi YY):=⟨rfl,rfl,rfl,by decide+kernel,rfl,by decide+kernel,by decide+kernel⟩
theorem Yq:Zt ["self","starts","counts","waits","belt","row","lying"] ["self","starts","counts"] (Zi YS):=⟨rfl,rfl,rfl,by decide+kernel,rfl,by decide+kernel,by decide+kernel⟩
theorem Yf:Zt ["self","starts","counts","waits","places","way","work"] ["self","starts","counts"] (Zi Y0):=⟨rfl,rfl,rfl,by decide+kernel,rfl,by decide+kernel,by decide+kernel⟩
theorem WW:Zt ["self","starts","row","counts"] ["self","starts"] (Zi YN):=⟨rfl,rfl,rfl,by decide+kernel,rfl,by decide+kernel,by decide+kernel⟩
theorem Zcs:Zt ["self","work"] ["self","work"] (Zi WK):=⟨rfl,rfl,rfl,by decide+kernel,rfl,by decide+kernel,by decide+kernel⟩
theorem ZcS:Zt ["self","work"] ["self","work"] (Zi Wk):=⟨rfl,rfl,rfl,by decide+kernel,rfl,by decide+kernel,by decide+kernel⟩
theorem Zf5:Zt ["hall","work"] ["hall","work"] (Zi VW):=⟨rfl,rfl,rfl,by decide+kernel,rfl,by decide+kernel,by decide+kernel⟩
theorem Zdc:Zt ["self","work"] ["self","work"] (Zi WB):=⟨rfl,rfl,rfl,by decide+kernel,rfl,by decide+kernel,by decide+kernel⟩
theorem Zgj:Zt ["hall","work"] ["hall","work"] (Zi V4):=⟨rfl,rfl,rfl,by decide+kernel,rfl,by decide+kernel,by decide+kernel⟩
theorem ZeM:Zt ["hall","work"] ["hall","work"] (Zi WZ):=⟨rfl,rfl,rfl,by decide+kernel,rfl,by decide+kernel,by decide+kernel⟩
theorem ZdZ:Zt ["self","hall","turns"] ["self","hall","turns"] (Zi YU):=⟨rfl,rfl,rfl,by decide+kernel,rfl,by decide+kernel,by decide+kernel⟩
theorem Zf0:Zt ["hall"] ["hall"] (Zi U2):=⟨rfl,rfl,rfl,by decide+kernel,rfl,by decide+kernel,by decide+kernel⟩
theorem Zbc:Zt ["_law_lines_here","_law_heap","_law_work","_law_made","_law_k"] ["_law_lines_here","_law_heap","_law_work"] (Zi Zax):=⟨rfl,rfl,rfl,by decide+kernel,rfl,by decide+kernel,by decide+kernel⟩
theorem ZdE:Zt ["_law_lines_here","_law_heap","_law_work","_law_k"] ["_law_lines_here","_law_heap","_law_work"] (Zi ZaO):=⟨rfl,rfl,rfl,by decide+kernel,rfl,by decide+kernel,by decide+kernel⟩
theorem WT:Zt ["_law_row","_law_lines_here","_law_rates_here","_law_heap","_law_left","_law_work","_law_ready_here"] ["_law_row","_law_lines_here","_law_rates_here"] (Zi WO):=⟨rfl,rfl,rfl,by decide+kernel,rfl,by decide+kernel,by decide+kernel⟩
theorem Zcb:Zt ["_law_hall","_law_lines_here","_law_rates_here","_law_enough","_law_found","_law_kept"] ["_law_hall","_law_lines_here","_law_rates_here","_law_enough"] (Zi Zbg):=⟨rfl,rfl,rfl,by decide+kernel,rfl,by decide+kernel,by decide+kernel⟩
theorem Y5:Zt ["_law_script","_law_sizes","_law_order","_law_k","_law_lines_here","_law_mixed_here","_law_giver","_law_taker","_law_both","_law_at"] ["_law_script","_law_sizes"] (Zi Zbq):=⟨rfl,rfl,rfl,by decide+kernel,rfl,by decide+kernel,by decide+kernel⟩
theorem Zh6:Zt ["_law_k"] ["_law_k"] (Zi Zbi):=⟨rfl,rfl,rfl,by decide+kernel,rfl,by decide+kernel,by decide+kernel⟩
theorem Zho:Zt ["thing"] ["thing"] (Zi UF):=⟨rfl,rfl,rfl,by decide+kernel,rfl,by decide+kernel,by decide+kernel⟩
theorem Zca:Zt ["self","name","number"] ["self","name"] (Zi Uu):=⟨rfl,rfl,rfl,by decide+kernel,rfl,by decide+kernel,by decide+kernel⟩
theorem Zgr:Zt ["self","row"] ["self","row"] (Zi UU):=⟨rfl,rfl,rfl,by decide+kernel,rfl,by decide+kernel,by decide+kernel⟩
theorem ZfX:Zt ["self","giver","taker","give","take","start"] ["self","giver","taker","give","take","start"] (Zi UB):=⟨rfl,rfl,rfl,by decide+kernel,rfl,by decide+kernel,by decide+kernel⟩
theorem ZfL:Zt ["self"] ["self"] (Zi UA):=⟨rfl,rfl,rfl,by decide+kernel,rfl,by decide+kernel,by decide+kernel⟩
theorem Yu:Zt ["_law_script","_law_many","_law_top","_law_sizes","_law_lines_here","_law_rates_here","_law_hall","_law_k","_law_giver","_law_taker","_law_give","_law_take","_law_start","_law_full","_law_again"] ["_law_script"] (Zi ZaQ):=⟨rfl,rfl,rfl,by decide+kernel,rfl,by decide+kernel,by decide+kernel⟩
set_option genInjectivity false
set_option genSizeOf false
set_option genSizeOfSpec false
set_option genInjectivity false in
set_option genSizeOf false in
structure Tp(K:PySem.W.Frag)(mg:Str→Option Value) where
 f_l_cell:Addr
 d_l_cell:FuncData
 F_l_cell:Fun K "_law_cell" "_law_cell" Zbb f_l_cell d_l_cell
 b_l_cell:Zz K d_l_cell ["_law_script","_law_k"] []
 m_l_cell:mg "_law_cell" =some (.ref f_l_cell)
 f_l_mixed:Addr
 d_l_mixed:FuncData
 F_l_mixed:Fun K "_law_mixed" "_law_mixed" ZaE f_l_mixed d_l_mixed
 b_l_mixed:Zz K d_l_mixed ["_law_script","_law_k"] []
 m_l_mixed:mg "_law_mixed" =some (.ref f_l_mixed)
 f_l_divisor:Addr
 d_l_divisor:FuncData
 F_l_divisor:Fun K "_law_divisor" "_law_divisor" Uw f_l_divisor d_l_divisor
 b_l_divisor:Zz K d_l_divisor ["_law_one","_law_other"] []
 m_l_divisor:mg "_law_divisor" =some (.ref f_l_divisor)
 f_l_lines:Addr
 d_l_lines:FuncData
 F_l_lines:Fun K "_law_lines" "_law_lines" ZaH f_l_lines d_l_lines
 b_l_lines:Zz K d_l_lines ["_law_script","_law_sizes"] []
 m_l_lines:mg "_law_lines" =some (.ref f_l_lines)
 f_l_reached:Addr
 d_l_reached:FuncData
 F_l_reached:Fun K "_law_reached" "_law_reached" Us f_l_reached d_l_reached
 b_l_reached:Zz K d_l_reached ["_law_lines_here","_law_first","_law_many"] []
 m_l_reached:mg "_law_reached" =some (.ref f_l_reached)
 f_l_rates:Addr
 d_l_rates:FuncData
 F_l_rates:Fun K "_law_rates" "_law_rates" ZaG f_l_rates d_l_rates
 b_l_rates:Zz K d_l_rates ["_law_lines_here","_law_sizes"] []
 m_l_rates:mg "_law_rates" =some (.ref f_l_rates)
 f_l_started:Addr
 d_l_started:FuncData
 F_l_started:Fun K "_law_started" "_law_started" Ux f_l_started d_l_started
 b_l_started:Zz K d_l_started ["_law_script","_law_lines_here","_law_rates_here"] []
 m_l_started:mg "_law_started" =some (.ref f_l_started)
 f_is_whole:Addr
 d_is_whole:FuncData
 F_is_whole:Fun K "is_whole" "is_whole" U4 f_is_whole d_is_whole
 b_is_whole:Zz K d_is_whole ["thing"] []
 m_is_whole:mg "is_whole" =some (.ref f_is_whole)
 f_is_from:Addr
 d_is_from:FuncData
 F_is_from:Fun K "is_from" "is_from" ZaL f_is_from d_is_from
 b_is_from:Zz K d_is_from ["thing","least"] []
 m_is_from:mg "is_from" =some (.ref f_is_from)
 f_need_start:Addr
 d_need_start:FuncData
 F_need_start:Fun K "need_start" "need_start" V2 f_need_start d_need_start
 b_need_start:Zz K d_need_start ["start"] []
 m_need_start:mg "need_start" =some (.ref f_need_start)
 f_is_number_below:Addr
 d_is_number_below:FuncData
 F_is_number_below:Fun K "is_number_below" "is_number_below" Wt f_is_number_below d_is_number_below
 b_is_number_below:Zz K d_is_number_below ["thing","bound"] []
 m_is_number_below:mg "is_number_below" =some (.ref f_is_number_below)
 f_Hall_need_belt:Addr
 d_Hall_need_belt:FuncData
 F_Hall_need_belt:Fun K "need_belt" "Hall.need_belt" WJ f_Hall_need_belt d_Hall_need_belt
 b_Hall_need_belt:Zz K d_Hall_need_belt ["self","belt"] []
 f_Hall_fill:Addr
 d_Hall_fill:FuncData
 F_Hall_fill:Fun K "fill" "Hall.fill" Uq f_Hall_fill d_Hall_fill
 b_Hall_fill:Zz K d_Hall_fill ["self","belt","start"] []
 f_l_filled:Addr
 d_l_filled:FuncData
 F_l_filled:Fun K "_law_filled" "_law_filled" U6 f_l_filled d_l_filled
 b_l_filled:Zz K d_l_filled ["_law_hall","_law_lines_here","_law_starts"] []
 m_l_filled:mg "_law_filled" =some (.ref f_l_filled)
 f_Hall_belts:Addr
 d_Hall_belts:FuncData
 F_Hall_belts:Fun K "belts" "Hall.belts" V3 f_Hall_belts d_Hall_belts
 b_Hall_belts:Zz K d_Hall_belts ["self"] []
 f_starts_of:Addr
 d_starts_of:FuncData
 F_starts_of:Fun K "starts_of" "starts_of" Vq f_starts_of d_starts_of
 b_starts_of:Zz K d_starts_of ["hall"] []
 m_starts_of:mg "starts_of" =some (.ref f_starts_of)
 f_Hall_names:Addr
 d_Hall_names:FuncData
 F_Hall_names:Fun K "names" "Hall.names" Ud f_Hall_names d_Hall_names
 b_Hall_names:Zz K d_Hall_names ["self"] []
 f_ways_of:Addr
 d_ways_of:FuncData
 F_ways_of:Fun K "ways_of" "ways_of" UH f_ways_of d_ways_of
 b_ways_of:Zz K d_ways_of ["hall"] []
 m_ways_of:mg "ways_of" =some (.ref f_ways_of)
 f_tree_from:Addr
 d_tree_from:FuncData
 F_tree_from:Fun K "tree_from" "tree_from" Uy f_tree_from d_tree_from
 b_tree_from:Zz K d_tree_from ["ways","first"] []
 m_tree_from:mg "tree_from" =some (.ref f_tree_from)
 f_forest_of:Addr
 d_forest_of:FuncData
 F_forest_of:Fun K "forest_of" "forest_of" UC f_forest_of d_forest_of
 b_forest_of:Zz K d_forest_of ["hall"] []
 m_forest_of:mg "forest_of" =some (.ref f_forest_of)
 f_divisor:Addr
 d_divisor:FuncData
 F_divisor:Fun K "divisor" "divisor" Zay f_divisor d_divisor
 b_divisor:Zz K d_divisor ["one","other"] []
 m_divisor:mg "divisor" =some (.ref f_divisor)
 f_ratio:Addr
 d_ratio:FuncData
 F_ratio:Fun K "ratio" "ratio" Zcl f_ratio d_ratio
 b_ratio:Zz K d_ratio ["top","bottom"] []
 m_ratio:mg "ratio" =some (.ref f_ratio)
 f_times:Addr
 d_times:FuncData
 F_times:Fun K "times" "times" Zck f_times d_times
 b_times:Zz K d_times ["one","other"] []
 m_times:mg "times" =some (.ref f_times)
 f_gain:Addr
 d_gain:FuncData
 F_gain:Fun K "gain" "gain" ZdN f_gain d_gain
 b_gain:Zz K d_gain ["row","along"] []
 m_gain:mg "gain" =some (.ref f_gain)
 f_Hall_belt_at:Addr
 d_Hall_belt_at:FuncData
 F_Hall_belt_at:Fun K "belt_at" "Hall.belt_at" Vf f_Hall_belt_at d_Hall_belt_at
 b_Hall_belt_at:Zz K d_Hall_belt_at ["self","belt"] []
 f_shares_of:Addr
 d_shares_of:FuncData
 F_shares_of:Fun K "shares_of" "shares_of" Ur f_shares_of d_shares_of
 b_shares_of:Zz K d_shares_of ["hall","tree"] []
 m_shares_of:mg "shares_of" =some (.ref f_shares_of)
 f_multiple:Addr
 d_multiple:FuncData
 F_multiple:Fun K "multiple" "multiple" U5 f_multiple d_multiple
 b_multiple:Zz K d_multiple ["one","other"] []
 m_multiple:mg "multiple" =some (.ref f_multiple)
 f_rates_by:Addr
 d_rates_by:FuncData
 F_rates_by:Fun K "rates_by" "rates_by" V7 f_rates_by d_rates_by
 b_rates_by:Zz K d_rates_by ["hall","forest"] []
 m_rates_by:mg "rates_by" =some (.ref f_rates_by)
 f_change_of:Addr
 d_change_of:FuncData
 F_change_of:Fun K "change_of" "change_of" Vs f_change_of d_change_of
 b_change_of:Zz K d_change_of ["hall","counts"] []
 m_change_of:mg "change_of" =some (.ref f_change_of)
 f_way_to:Addr
 d_way_to:FuncData
 F_way_to:Fun K "way_to" "way_to" Za7 f_way_to d_way_to
 b_way_to:Zz K d_way_to ["tree","work"] []
 m_way_to:mg "way_to" =some (.ref f_way_to)
 f_shared_steps:Addr
 d_shared_steps:FuncData
 F_shared_steps:Fun K "shared_steps" "shared_steps" Vi f_shared_steps d_shared_steps
 b_shared_steps:Zz K d_shared_steps ["one","other"] []
 m_shared_steps:mg "shared_steps" =some (.ref f_shared_steps)
 f_ring_through:Addr
 d_ring_through:FuncData
 F_ring_through:Fun K "ring_through" "ring_through" Vk f_ring_through d_ring_through
 b_ring_through:Zz K d_ring_through ["hall","forest","belt"] []
 m_ring_through:mg "ring_through" =some (.ref f_ring_through)
 f_rates_of:Addr
 d_rates_of:FuncData
 F_rates_of:Fun K "rates_of" "rates_of" U3 f_rates_of d_rates_of
 b_rates_of:Zz K d_rates_of ["hall"] []
 m_rates_of:mg "rates_of" =some (.ref f_rates_of)
 f_round_rates:Addr
 d_round_rates:FuncData
 F_round_rates:Fun K "round_rates" "round_rates" Vy f_round_rates d_round_rates
 b_round_rates:Zz K d_round_rates ["hall"] []
 m_round_rates:mg "round_rates" =some (.ref f_round_rates)
 f_enough:Addr
 d_enough:FuncData
 F_enough:Fun K "enough" "enough" Zah f_enough d_enough
 b_enough:Zz K d_enough ["heaps","takes"] []
 m_enough:mg "enough" =some (.ref f_enough)
 f_Course_row_from:Addr
 d_Course_row_from:FuncData
 F_Course_row_from:Fun K "row_from" "Course.row_from" YY f_Course_row_from d_Course_row_from
 b_Course_row_from:Zz K d_Course_row_from ["self","starts"] []
 f_Course_waits_behind:Addr
 d_Course_waits_behind:FuncData
 F_Course_waits_behind:Fun K "waits_behind" "Course.waits_behind" YS f_Course_waits_behind d_Course_waits_behind
 b_Course_waits_behind:Zz K d_Course_waits_behind ["self","starts","counts"] []
 f_Course_ring_behind:Addr
 d_Course_ring_behind:FuncData
 F_Course_ring_behind:Fun K "ring_behind" "Course.ring_behind" Y0 f_Course_ring_behind d_Course_ring_behind
 b_Course_ring_behind:Zz K d_Course_ring_behind ["self","starts","counts"] []
 f_Course_told_from:Addr
 d_Course_told_from:FuncData
 F_Course_told_from:Fun K "told_from" "Course.told_from" YN f_Course_told_from d_Course_told_from
 b_Course_told_from:Zz K d_Course_told_from ["self","starts"] []
 f_Hall_need_work:Addr
 d_Hall_need_work:FuncData
 F_Hall_need_work:Fun K "need_work" "Hall.need_work" WK f_Hall_need_work d_Hall_need_work
 b_Hall_need_work:Zz K d_Hall_need_work ["self","work"] []
 f_Hall_entering:Addr
 d_Hall_entering:FuncData
 F_Hall_entering:Fun K "entering" "Hall.entering" Wk f_Hall_entering d_Hall_entering
 b_Hall_entering:Zz K d_Hall_entering ["self","work"] []
 f_takes_of:Addr
 d_takes_of:FuncData
 F_takes_of:Fun K "takes_of" "takes_of" VW f_takes_of d_takes_of
 b_takes_of:Zz K d_takes_of ["hall","work"] []
 m_takes_of:mg "takes_of" =some (.ref f_takes_of)
 f_Hall_leaving:Addr
 d_Hall_leaving:FuncData
 F_Hall_leaving:Fun K "leaving" "Hall.leaving" WB f_Hall_leaving d_Hall_leaving
 b_Hall_leaving:Zz K d_Hall_leaving ["self","work"] []
 f_gives_of:Addr
 d_gives_of:FuncData
 F_gives_of:Fun K "gives_of" "gives_of" V4 f_gives_of d_gives_of
 b_gives_of:Zz K d_gives_of ["hall","work"] []
 m_gives_of:mg "gives_of" =some (.ref f_gives_of)
 f_touched_by:Addr
 d_touched_by:FuncData
 F_touched_by:Fun K "touched_by" "touched_by" WZ f_touched_by d_touched_by
 b_touched_by:Zz K d_touched_by ["hall","work"] []
 m_touched_by:mg "touched_by" =some (.ref f_touched_by)
 f_Course_init:Addr
 d_Course_init:FuncData
 F_Course_init:Fun K "__init__" "Course.__init__" YU f_Course_init d_Course_init
 b_Course_init:Zz K d_Course_init ["self","hall","turns"] []
 f_round_of:Addr
 d_round_of:FuncData
 F_round_of:Fun K "round_of" "round_of" U2 f_round_of d_round_of
 b_round_of:Zz K d_round_of ["hall"] []
 m_round_of:mg "round_of" =some (.ref f_round_of)
 f_l_shift:Addr
 d_l_shift:FuncData
 F_l_shift:Fun K "_law_shift" "_law_shift" Zax f_l_shift d_l_shift
 b_l_shift:Zz K d_l_shift ["_law_lines_here","_law_heap","_law_work"] []
 m_l_shift:mg "_law_shift" =some (.ref f_l_shift)
 f_l_ready:Addr
 d_l_ready:FuncData
 F_l_ready:Fun K "_law_ready" "_law_ready" ZaO f_l_ready d_l_ready
 b_l_ready:Zz K d_l_ready ["_law_lines_here","_law_heap","_law_work"] []
 m_l_ready:mg "_law_ready" =some (.ref f_l_ready)
 f_l_walked:Addr
 d_l_walked:FuncData
 F_l_walked:Fun K "_law_walked" "_law_walked" WO f_l_walked d_l_walked
 b_l_walked:Zz K d_l_walked ["_law_row","_law_lines_here","_law_rates_here"] []
 m_l_walked:mg "_law_walked" =some (.ref f_l_walked)
 f_l_told:Addr
 d_l_told:FuncData
 F_l_told:Fun K "_law_told" "_law_told" Zbg f_l_told d_l_told
 b_l_told:Zz K d_l_told ["_law_hall","_law_lines_here","_law_rates_here","_law_enough"] []
 m_l_told:mg "_law_told" =some (.ref f_l_told)
 f_l_long:Addr
 d_l_long:FuncData
 F_l_long:Fun K "_law_long" "_law_long" Zbq f_l_long d_l_long
 b_l_long:Zz K d_l_long ["_law_script","_law_sizes"] []
 m_l_long:mg "_law_long" =some (.ref f_l_long)
 f_l_name:Addr
 d_l_name:FuncData
 F_l_name:Fun K "_law_name" "_law_name" Zbi f_l_name d_l_name
 b_l_name:Zz K d_l_name ["_law_k"] []
 m_l_name:mg "_law_name" =some (.ref f_l_name)
 f_is_name:Addr
 d_is_name:FuncData
 F_is_name:Fun K "is_name" "is_name" UF f_is_name d_is_name
 b_is_name:Zz K d_is_name ["thing"] []
 m_is_name:mg "is_name" =some (.ref f_is_name)
 f_Hall_work:Addr
 d_Hall_work:FuncData
 F_Hall_work:Fun K "work" "Hall.work" Uu f_Hall_work d_Hall_work
 b_Hall_work:Zz K d_Hall_work ["self","name"] []
 f_Hall_lay:Addr
 d_Hall_lay:FuncData
 F_Hall_lay:Fun K "lay" "Hall.lay" UU f_Hall_lay d_Hall_lay
 b_Hall_lay:Zz K d_Hall_lay ["self","row"] []
 f_Hall_belt:Addr
 d_Hall_belt:FuncData
 dT_Hall_belt:Addr
 dk0_Hall_belt:Tok
 F_Hall_belt:Zhp K "belt" "Hall.belt" UB dT_Hall_belt f_Hall_belt d_Hall_belt
 b_Hall_belt:Zz K d_Hall_belt ["self","giver","taker","give","take","start"] []
 b1_Hall_belt:Zz K d_Hall_belt ["self","giver","taker","give","take","start"] [.int 0 dk0_Hall_belt]
 v1_Hall_belt:ZF [.int 0] [.int 0 dk0_Hall_belt]
 f_Hall_init:Addr
 d_Hall_init:FuncData
 F_Hall_init:Fun K "__init__" "Hall.__init__" UA f_Hall_init d_Hall_init
 b_Hall_init:Zz K d_Hall_init ["self"] []
 f_law:Addr
 d_law:FuncData
 F_law:Fun K "law" "law" ZaQ f_law d_law
 b_law:Zz K d_law ["_law_script"] []
 m_law:mg "law" =some (.ref f_law)
 C_Course:Addr
 cl_Course:Cls K C_Course
 g_Course:mg "Course" =some (.ref C_Course)
 na_Course:ZaZ K C_Course ["turns","rows","takes","gives","touched"]
 M_Course_row_from:WP K C_Course "row_from" f_Course_row_from
 M_Course_waits_behind:WP K C_Course "waits_behind" f_Course_waits_behind
 M_Course_ring_behind:WP K C_Course "ring_behind" f_Course_ring_behind
 M_Course_told_from:WP K C_Course "told_from" f_Course_told_from
 mk_Course:Mk K C_Course f_Course_init
 C_Hall:Addr
 cl_Hall:Cls K C_Hall
 g_Hall:mg "Hall" =some (.ref C_Hall)
 na_Hall:ZaZ K C_Hall ["numbers","rows"]
 M_Hall_need_belt:WP K C_Hall "need_belt" f_Hall_need_belt
 M_Hall_fill:WP K C_Hall "fill" f_Hall_fill
 M_Hall_belts:WP K C_Hall "belts" f_Hall_belts
 M_Hall_names:WP K C_Hall "names" f_Hall_names
 M_Hall_belt_at:WP K C_Hall "belt_at" f_Hall_belt_at
 M_Hall_need_work:WP K C_Hall "need_work" f_Hall_need_work
 M_Hall_entering:WP K C_Hall "entering" f_Hall_entering
 M_Hall_leaving:WP K C_Hall "leaving" f_Hall_leaving
 M_Hall_work:WP K C_Hall "work" f_Hall_work
 M_Hall_lay:WP K C_Hall "lay" f_Hall_lay
 M_Hall_belt:WP K C_Hall "belt" f_Hall_belt
 mk_Hall:Mk K C_Hall f_Hall_init
 n_all:mg "all" =none
 n_bool:mg "bool" =none
 n_enumerate:mg "enumerate" =none
 n_int:mg "int" =none
 n_isinstance:mg "isinstance" =none
 n_len:mg "len" =none
 n_list:mg "list" =none
 n_min:mg "min" =none
 n_range:mg "range" =none
 n_reversed:mg "reversed" =none
 n_set:mg "set" =none
 n_sorted:mg "sorted" =none
 n_str:mg "str" =none
 n_sum:mg "sum" =none
 n_tuple:mg "tuple" =none
 X_NoName:Addr
 gx_NoName:PySem.W.nsIn K mainGlobals "NoName" =some (some (.ref X_NoName))
 mx_NoName:mg "NoName" =some (.ref X_NoName)
 ex_NoName:PySem.W.excIn K X_NoName [.type "ValueError",.type "Exception",.type "BaseException",.type "object"] "ValueError.__new__" =true
 X_Twice:Addr
 gx_Twice:PySem.W.nsIn K mainGlobals "Twice" =some (some (.ref X_Twice))
 mx_Twice:mg "Twice" =some (.ref X_Twice)
 ex_Twice:PySem.W.excIn K X_Twice [.type "ValueError",.type "Exception",.type "BaseException",.type "object"] "ValueError.__new__" =true
 X_TooMuch:Addr
 gx_TooMuch:PySem.W.nsIn K mainGlobals "TooMuch" =some (some (.ref X_TooMuch))
 mx_TooMuch:mg "TooMuch" =some (.ref X_TooMuch)
 ex_TooMuch:PySem.W.excIn K X_TooMuch [.type "ValueError",.type "Exception",.type "BaseException",.type "object"] "ValueError.__new__" =true
 X_NoWork:Addr
 gx_NoWork:PySem.W.nsIn K mainGlobals "NoWork" =some (some (.ref X_NoWork))
 mx_NoWork:mg "NoWork" =some (.ref X_NoWork)
 ex_NoWork:PySem.W.excIn K X_NoWork [.type "ValueError",.type "Exception",.type "BaseException",.type "object"] "ValueError.__new__" =true
 X_NoBelt:Addr
 gx_NoBelt:PySem.W.nsIn K mainGlobals "NoBelt" =some (some (.ref X_NoBelt))
 mx_NoBelt:mg "NoBelt" =some (.ref X_NoBelt)
 ex_NoBelt:PySem.W.excIn K X_NoBelt [.type "ValueError",.type "Exception",.type "BaseException",.type "object"] "ValueError.__new__" =true
 X_NoRate:Addr
 gx_NoRate:PySem.W.nsIn K mainGlobals "NoRate" =some (some (.ref X_NoRate))
 mx_NoRate:mg "NoRate" =some (.ref X_NoRate)
 ex_NoRate:PySem.W.excIn K X_NoRate [.type "ValueError",.type "Exception",.type "BaseException",.type "object"] "ValueError.__new__" =true
 X_NotBalanced:Addr
 gx_NotBalanced:PySem.W.nsIn K mainGlobals "NotBalanced" =some (some (.ref X_NotBalanced))
 mx_NotBalanced:mg "NotBalanced" =some (.ref X_NotBalanced)
 ex_NotBalanced:PySem.W.excIn K X_NotBalanced [.type "ValueError",.type "Exception",.type "BaseException",.type "object"] "ValueError.__new__" =true
 X_TooLong:Addr
 gx_TooLong:PySem.W.nsIn K mainGlobals "TooLong" =some (some (.ref X_TooLong))
 mx_TooLong:mg "TooLong" =some (.ref X_TooLong)
 ex_TooLong:PySem.W.excIn K X_TooLong [.type "ValueError",.type "Exception",.type "BaseException",.type "object"] "ValueError.__new__" =true
 tk_MOST_TURNS:Tok
 c_MOST_TURNS:mg "MOST_TURNS" =some (.int 400 tk_MOST_TURNS)
 tk_MOST_LETTERS:Tok
 c_MOST_LETTERS:mg "MOST_LETTERS" =some (.int 8 tk_MOST_LETTERS)
 tk_MOST_WORKS:Tok
 c_MOST_WORKS:mg "MOST_WORKS" =some (.int 30 tk_MOST_WORKS)
 tk_MOST_BELTS:Tok
 c_MOST_BELTS:mg "MOST_BELTS" =some (.int 60 tk_MOST_BELTS)
 bl_law:∀(s:Shared)(v:Value),BindsTo s d_law ⟨[v],[]⟩ [("_law_script",v)]
set_option genInjectivity true
set_option genSizeOf true
set_option genSizeOfSpec true
theorem ZgG{a b:Int}(ha:0≤a)(hb:0<b):My.G b (a % b)=My.G a b:=by
 rw[←Int.fmod_eq_emod_of_nonneg _ (Int.le_of_lt hb)];exact My.Zk0 ha hb
theorem Znp{k:Nat}{x:Int}(h:My.S k x)(hk:k≤2):x.natAbs.log2<9000:=by
 by_cases h0:x.natAbs=0
 ·rw[h0];decide+kernel
 ·have e:x.natAbs=x.toNat:=by have:=h.lo;omega
  have l:=(Nat.log2_lt h0).mpr (by rw[e];exact(h.mono hk).hi);omega
def Zj0(K:PySem.W.Frag):Sp:=fun vs H Q _=>∃(a:Addr)(ns:List Int),vs=[.ref a]∧SqL K H a (ns.map V.int)∧ns.length≤63∧∀H',Q (.bl true) H'
def Zl2{K:PySem.W.Frag}{mg:Str→Option Value}(T:Tp K mg):Sp:=Zj0 K
noncomputable def WD (x:Str):Bool:=decide (1≤x.length)&&decide (x.length≤8)&&x.cps.toList.all fun c=>decide (97≤c)&&decide (c≤122)
structure B5 where
 giver:Int
 taker:Int
 give:Int
 take:Int
 start:Int
noncomputable def B5.v (b:B5):List V:=[.int b.giver,.int b.taker,.int b.give,.int b.take,.int b.start]
noncomputable def B5.d (b:B5):PyData:= .tuple [.int b.giver,.int b.taker,.int b.give,.int b.take,.int b.start]
structure HM where
 names:List Str
 belts:List B5
noncomputable def Z8 (H:Hp):List V→List B5→Prop:=Paired fun v b=>∃t,v= .ref t∧H t=some (.tup b.v)
noncomputable def numsOf (ns:List Str):List (Key×V):=ns.zipIdx.map fun p=>(Sum.inr p.1,V.int p.2)
theorem UV(ns:List Str):(numsOf ns).length=ns.length:=by unfold numsOf;simp
theorem Zgw(ns:List Str)(x:Str):numsOf (ns++ [x])=numsOf ns++ [(Sum.inr x,.int ns.length)]:=by
 unfold numsOf;rw[List.zipIdx_append];simp
theorem ZcC(ns:List Str):((numsOf ns).map fun kv=>kV kv.1)=ns.map V.str:=by
 unfold numsOf;rw[List.map_map];have:((fun kv:Key×V=>kV kv.1)∘fun p:Str×Nat=>((Sum.inr p.1:Key),V.int p.2))=(V.str∘fun p:Str×Nat=>p.1):=rfl;rw[this,←List.map_map,List.zipIdx_map_fst]
theorem Zer(ns:List Str)(x:Str):(valV (numsOf ns) (Sum.inr x)).isSome=decide (x∈ns):=by
 rw[←W5];rw[Bool.eq_iff_iff,List.any_eq_true,decide_eq_true_eq];have e:x∈ns↔V.str x∈ns.map V.str:=by
  constructor
  ·exact List.mem_map_of_mem
  ·intro h;obtain⟨y,hy,e⟩:=List.mem_map.mp h;cases e;exact hy
 rw[e,←ZcC,List.mem_map]
 constructor
 ·rintro⟨p,hp,h⟩;exact⟨p,hp,by rw[of_decide_eq_true h];rfl⟩
 ·rintro⟨p,hp,h⟩;exact⟨p,hp,decide_eq_true (Zln h)⟩
theorem Zf8{ns:List Str}{x:Str}(h:x∉ns):valV (numsOf ns) (Sum.inr x)=none:=by
 have:=Zer ns x;rw[decide_eq_false h] at this;cases e:valV (numsOf ns) (Sum.inr x) with
 |none=>rfl
 |some v=>rw[e] at this;cases this
theorem ZhM{ns:List Str}{x:Str}(h:x∉ns):Z9 (numsOf ns) (Sum.inr x) (.int ns.length)=numsOf (ns++ [x]):=by
 rw[VA _ (Zf8 h),Zgw]
def ZB{K:PySem.W.Frag}{mg:Str→Option Value}(T:Tp K mg)(H:Hp)(p:Addr)(hl:HM)(fp:List Addr):Prop:=
 ∃(dx a b:Addr)(bs:List V),fp=[p,dx,a,b]∧H p=some (.ins T.C_Hall dx [("numbers",.ref a),("rows",.ref b)])∧H dx=some (.own p)∧H a=some (.dK (numsOf hl.names))∧H b=some (.lst bs)∧a≠b∧Z8 H bs hl.belts
theorem Z8.keep{H H':Hp}(t:∀b xs,H b=some (.tup xs)→H' b=some (.tup xs)):∀{bs:List V}{ls:List B5},Z8 H bs ls→Z8 H' bs ls
 |_,_,.nil=> .nil
 |_,_,.cons ⟨a,e,h⟩ r=> .cons ⟨a,e,t _ _ h⟩ (Z8.keep t r)
theorem Z8.length{H:Hp}{bs:List V}{ls:List B5}(h:Z8 H bs ls):bs.length=ls.length:=Paired.length h
theorem Z8.snoc{H:Hp}:∀{bs:List V}{ls:List B5}{t:Addr}{b:B5},Z8 H bs ls→H t=some (.tup b.v)→Z8 H (bs++ [.ref t]) (ls++ [b])
 |_,_,_,_,.nil,h=> .cons ⟨_,rfl,h⟩ .nil
 |_,_,_,_,.cons x r,h=> .cons x (Z8.snoc r h)
theorem Z8.at{H:Hp}:∀{bs:List V}{ls:List B5}{i:Nat}{b:B5},Z8 H bs ls→ls[i]? =some b→∃t,bs[i]? =some (.ref t)∧H t=some (.tup b.v)
 |_,_,_,_,.nil,e=>by simp at e
 |_,_,0,_,.cons ⟨t,e1,h⟩ _,e=>by simp at e;subst e;exact⟨t,by simp[e1],h⟩
 |_,_,i+1,b,.cons _ r,e=>by
  obtain⟨t,h1,h2⟩:=Z8.at (i:=i) (b:=b) r (by simpa using e);exact⟨t,by simpa using h1,h2⟩
section
variable {K:PySem.W.Frag}{mg:Str→Option Value}{T:Tp K mg}{H H':Hp}{p:Addr}{hl:HM}{fp:List Addr}
theorem ZB.dom(h:ZB T H p hl fp):∀x∈fp,H x≠none:=by
 obtain⟨dx,a,b,bs,rfl,h1,h2,h3,h4,_⟩:=h;intro x hx;simp only[List.mem_cons,List.not_mem_nil,or_false] at hx;rcases hx with rfl|rfl|rfl|rfl
 ·rw[h1];simp
 ·rw[h2];simp
 ·rw[h3];simp
 ·rw[h4];simp
theorem ZB.keep(h:ZB T H p hl fp)(k:∀x∈fp,H' x=H x)(t:∀b xs,H b=some (.tup xs)→H' b=some (.tup xs)):ZB T H' p hl fp:=by
 obtain⟨dx,a,b,bs,rfl,h1,h2,h3,h4,h5,h6⟩:=h;exact⟨dx,a,b,bs,rfl,(k p (by simp)).trans h1,(k dx (by simp)).trans h2,(k a (by simp)).trans h3,(k b (by simp)).trans h4,h5,h6.keep t⟩
theorem ZB.off{A:List Addr}(h:ZB T H p hl fp)(f:ZH A H H')(d:∀x∈fp,x∉A):ZB T H' p hl fp:=by
 refine h.keep (fun x hx=>?_) f.tups;cases q:H x with
 |none=>exact absurd q (h.dom x hx)
 |some o=>exact f.keep x o q (d x hx)
theorem Zij{m:Str}{G:Prop}(h:ZB T H p hl fp)(m1:(m== "numbers")=false)(m2:(m== "rows")=false)(q:G):∃a dx fs,V.ref p= .ref a∧H a=some (.ins T.C_Hall dx fs)∧fs.lookup m=none∧G:=by
 obtain⟨dx,a,b,bs,rfl,h1,_⟩:=h;exact⟨p,dx,_,rfl,h1,Rd.lk1 m1 (Rd.lk1 m2 Rd.lkN),q⟩
theorem ZB.same(h:ZB T H p hl fp)(e:Zd H H'):ZB T H' p hl fp:=h.off (A:=[]) e.frame (by simp)
end
noncomputable def dB:B5:=⟨0,0,0,0,0⟩
noncomputable def ZU (ls:List B5) (w:Int):List Nat:=(List.range ls.length).filter fun i=>decide ((ls.getD i dB).taker=w)
noncomputable def ZL (ls:List B5) (w:Int):List Nat:=(List.range ls.length).filter fun i=>decide ((ls.getD i dB).giver=w)
theorem Z8.getD{H:Hp}{bs:List V}{ls:List B5}{i:Nat}(h:Z8 H bs ls)(hi:i<ls.length):∃t,bs.getD i .non= .ref t∧H t=some (.tup (ls.getD i dB).v):=by
 obtain⟨t,h1,h2⟩:=h.at (List.getElem?_eq_getElem hi);exact⟨t,by simp[List.getD,h1],by simpa[List.getD,hi] using h2⟩
theorem Zlw(b:B5):b.d.canLay0=true:=by simp[B5.d,PyData.canLay0,PyData.canLayAll0]
theorem ZiX(b:B5):b.d.depth≤2:=by simp[B5.d,PyData.depth,PyData.depthAll]
theorem ZgV:∀ls:List B5,PyData.canLayAll0 (ls.map B5.d)=true
 | []=>by simp[PyData.canLayAll0]
 |b::ls=>by
  have:=ZgV ls;simp only[List.map_cons,PyData.canLayAll0,Zlw b,Bool.true_and];exact this
theorem ZcO(ls:List B5):(PyData.list (ls.map B5.d)).canLay0=true:=by
 have:=ZgV ls;simp[PyData.canLay0];simpa using this
theorem Zen:∀ls:List B5,PyData.depthAll (ls.map B5.d)≤3
 | []=>by simp[PyData.depthAll]
 |b::ls=>by
  have h1:=Zen ls;have h2:=ZiX b;simp only[List.map_cons,PyData.depthAll];omega
theorem Zhg(ls:List B5):(PyData.list (ls.map B5.d)).depth≤60:=by
 have:=Zen ls;simp only[PyData.depth];omega
theorem ZlO{K:PySem.W.Frag}{H:Hp}{t:Addr}{b:B5}(h:H t=some (.tup b.v)):Wy K H (.ref t) b.d:= .tup (.of h) (.cons (.int _) (.cons (.int _) (.cons (.int _) (.cons (.int _) (.cons (.int _) .nil)))))
theorem ZdS{K:PySem.W.Frag}{H:Hp}:∀{bs:List V}{ls:List B5},Z8 H bs ls→WQ K H bs (ls.map B5.d)
 |_,_,.nil=> .nil
 |_,_,.cons ⟨t,e,h⟩ r=>by rw[e];exact .cons (ZlO h) (ZdS r)
noncomputable def Zdg (ns:List Int) (k:Int):Int:=if k<ns.length then ns.getD k.toNat 0 else if(ns.length:Int)=0 then k else ns.getD (k % ns.length).toNat 0*31+k
@[irreducible] noncomputable def Wd (ns:List Int) (k:Int):Int:=(Zdg ns k % 2147483647*48271+12345) % 2147483647
theorem ZjF(ns:List Int)(k:Int):(Zdg ns k % 2147483647*48271+12345) % 2147483647=Wd ns k:=by unfold Wd;rfl
theorem Zjv(ns:List Int)(k:Int):0≤Wd ns k:=by unfold Wd;omega
theorem Zja(ns:List Int)(k:Int):Wd ns k<2147483647:=by unfold Wd;omega
theorem ZR{ns:List Int}{k:Int}(h0:0≤k)(h1:k<ns.length):atI (ns.map V.int) k=some (.int (ns.getD k.toNat 0)):=by
 obtain⟨n,rfl⟩:=Int.eq_ofNat_of_zero_le h0;have hn:n<ns.length:=by omega
 refine YT ?_;simp[List.getD,hn]
noncomputable def nameN (k:Nat):Str:=if k<8 then Txt.slice "hgfedcba" (some (k:Int)) none else⟨#[97+k % 26]⟩++ "zz"
theorem ZjV:∀k<30,WD (nameN k)=true:=by decide+kernel
theorem Zim:∀k<30,nameN k∉(List.range k).map nameN:=by decide+kernel
theorem Zlj:∀i<26,("abcdefghijklmnopqrstuvwxyz" :Str).cps.toList[i]? =some (97+i):=by decide+kernel
theorem ZkC:("abcdefghijklmnopqrstuvwxyz" :Str).length≤sizeLine:=by decide+kernel
theorem ZkK:("hgfedcba" :Str).length≤sizeLine:=by decide+kernel
theorem Zbd{n:Nat}(h:n≤10000):n<sizeLine:=Nat.lt_of_le_of_lt h (by decide)
noncomputable def Zba (ls:List B5) (i:Nat) (w:Int):List Fo.Trip:=(if(ls.getD i dB).giver=w then[((ls.getD i dB).taker,(i:Int),true)] else[])++(if(ls.getD i dB).taker=w then[((ls.getD i dB).giver,(i:Int),false)] else[])
noncomputable def WY (ls:List B5) (k:Nat) (w:Int):List Fo.Trip:=(List.range k).flatMap fun i=>Zba ls i w
noncomputable def YJ (ls:List B5):Int→List Fo.Trip:=WY ls ls.length
theorem Zf9(ls:List B5)(k:Nat)(w:Int):WY ls (k+1) w=WY ls k w++Zba ls k w:=by
 unfold WY;rw[List.range_succ,List.flatMap_append];simp
theorem ZbA{α:Type}{xs:List α}(nd:xs.Nodup){i j:Nat}(hi:i<xs.length)(hj:j<xs.length)(e:xs[i]=xs[j]):i=j:=by
 rcases Nat.lt_trichotomy i j with h|h|h
 ·exact absurd e (List.pairwise_iff_getElem.mp nd i j hi hj h)
 ·exact h
 ·exact absurd e.symm (List.pairwise_iff_getElem.mp nd j i hj hi h)
theorem ZK{H H':Hp}{x:Addr}(s:Zd H H')(h:H' x=none):H x=none:=by
 cases e:H x with
 |none=>rfl
 |some o=>rw[s _ _ e] at h;cases h
theorem Zx{α:Type}{xs:List α}{i:Nat}{d:α}(h:i<xs.length):xs.getD i d=xs[i]:=by simp[List.getD,h]
theorem Zac{ls:List B5}{w:Int}{t:Fo.Trip}(h:t∈YJ ls w):∃(i:Nat)(hi:i<ls.length),t∈Zba ls i w:=by
 unfold YJ WY at h;obtain⟨i,hi,ht⟩:=List.mem_flatMap.mp h;exact⟨i,List.mem_range.mp hi,ht⟩
theorem Zfx{ls:List B5}{w:Int}{t:Fo.Trip}{i:Nat}(hi:i<ls.length)(h:t∈Zba ls i w):t∈YJ ls w:=by
 unfold YJ WY;exact List.mem_flatMap.mpr ⟨i,List.mem_range.mpr hi,h⟩
theorem VL{ls:List B5}{i:Nat}{w:Int}{t:Fo.Trip}:t∈Zba ls i w↔((ls.getD i dB).giver=w∧t=((ls.getD i dB).taker,(i:Int),true))∨((ls.getD i dB).taker=w∧t=((ls.getD i dB).giver,(i:Int),false)):=by
 unfold Zba;rw[List.mem_append]
 by_cases h1:(ls.getD i dB).giver=w<;>by_cases h2:(ls.getD i dB).taker=w<;>simp[h1,h2]
theorem ZaA(ls:List B5):Fo.ZjN (YJ ls):=by
 intro a b t al h;obtain⟨i,hi,ht⟩:=Zac h;refine Zfx hi ?_;rw[VL] at ht⊢;rcases ht with⟨h1,h2⟩|⟨h1,h2⟩
 ·injection h2 with e1 e2
  injection e2 with e2 e3
  exact .inr ⟨e1.symm,by rw[←h1,e2,e3];rfl⟩
 ·injection h2 with e1 e2
  injection e2 with e2 e3
  exact .inl ⟨e1.symm,by rw[←h1,e2,e3];rfl⟩
def ZM(ls:List B5)(n:Nat):Prop:=∀b∈ls,0≤b.giver∧b.giver<(n:Int)∧0≤b.taker∧b.taker<(n:Int)
theorem ZM.at{ls:List B5}{n i:Nat}(h:ZM ls n)(hi:i<ls.length):0≤(ls.getD i dB).giver∧(ls.getD i dB).giver<(n:Int)∧0≤(ls.getD i dB).taker∧(ls.getD i dB).taker<(n:Int):=by
 rw[Zx hi];exact h _ (List.getElem_mem hi)
theorem Zaa{ls:List B5}{n:Nat}(h:ZM ls n):∀a,∀t∈YJ ls a,0≤t.1∧t.1<(n:Int):=by
 intro a t ht;obtain⟨i,hi,hm⟩:=Zac ht;have:=h.at hi;rw[VL] at hm;rcases hm with⟨_,rfl⟩|⟨_,rfl⟩<;>(dsimp only;omega)
noncomputable def WX (H:Hp):List Fo.Trip→List V→Prop:=Paired fun x v=>∃t,v= .ref t∧H t=some (.tup [.int x.1,.int x.2.1,.bl x.2.2])
theorem WX.keep{H H':Hp}(t:∀b xs,H b=some (.tup xs)→H' b=some (.tup xs)){vs:List V}{l:List Fo.Trip}(h:WX H l vs):WX H' l vs:=Paired.mapP h fun _ _ ⟨a,e,z⟩=>⟨a,e,t _ _ z⟩
theorem WX.snoc{H:Hp}:∀{l:List Fo.Trip}{vs:List V}{x:Fo.Trip}{t:Addr},WX H l vs→H t=some (.tup [.int x.1,.int x.2.1,.bl x.2.2])→WX H (l++ [x]) (vs++ [.ref t])
 |_,_,_,_,.nil,h=> .cons ⟨_,rfl,h⟩ .nil
 |_,_,_,_,.cons y r,h=> .cons y (WX.snoc r h)
theorem WX.length{H:Hp}{l:List Fo.Trip}{vs:List V}(h:WX H l vs):l.length=vs.length:=Paired.length h
theorem WX.at{H:Hp}:∀{l:List Fo.Trip}{vs:List V}{i:Nat}{x:Fo.Trip},WX H l vs→l[i]? =some x→∃t,vs[i]? =some (.ref t)∧H t=some (.tup [.int x.1,.int x.2.1,.bl x.2.2])
 |_,_,_,_,.nil,e=>by simp at e
 |_,_,0,_,.cons ⟨t,e1,h⟩ _,e=>by simp at e;subst e;exact⟨t,by simp[e1],h⟩
 |_,_,i+1,b,.cons _ r,e=>by
  obtain⟨t,h1,h2⟩:=WX.at (i:=i) (x:=b) r (by simpa using e);exact⟨t,by simpa using h1,h2⟩
def WA(H:Hp)(ia:List Addr)(W:Int→List Fo.Trip):Prop:=∀(j:Nat)(h:j<ia.length),∃vs,H ia[j]=some (.lst vs)∧WX H (W (j:Int)) vs
theorem WA.same{H H':Hp}{ia:List Addr}{W:Int→List Fo.Trip}(h:WA H ia W)(s:Zd H H'):WA H' ia W:=fun j hj=>by
 obtain⟨vs,h1,h2⟩:=h j hj;exact⟨vs,s _ _ h1,h2.keep fun _ _ e=>s _ _ e⟩
theorem WA.add{H:Hp}{ia:List Addr}{W:Int→List Fo.Trip}(h:WA H ia W)(nd:ia.Nodup){g:Nat}(hg:g<ia.length){vs:List V}(hv:H ia[g]=some (.lst vs))(ht:WX H (W (g:Int)) vs){t:Addr}{x:Fo.Trip}(htt:H t=some (.tup [.int x.1,.int x.2.1,.bl x.2.2])):
  WA (upd H ia[g] (.lst (vs++ [.ref t]))) ia (fun j=>W j++(if(g:Int)=j then[x] else[])):=by
 have fr:∀b xs,H b=some (.tup xs)→(upd H ia[g] (.lst (vs++ [.ref t]))) b=some (.tup xs):=fun b xs e=>by rw[Zg (Yw e hv (by intro z;cases z))];exact e
 intro j hj
 by_cases e:j=g
 ·subst e;refine⟨vs++ [.ref t],Ze,?_⟩;dsimp only;rw[if_pos rfl];exact(ht.keep fr).snoc (fr _ _ htt)
 ·obtain⟨us,h1,h2⟩:=h j hj;have ne:ia[j]≠ia[g]:=fun z=>e (ZbA nd hj hg z);refine⟨us,by rw[Zg ne];exact h1,?_⟩;dsimp only;rw[if_neg (by omega),List.append_nil];exact h2.keep fr
structure Zb1(H:Hp)(r:Addr)(ia:List Addr)(n:Nat)(W:Int→List Fo.Trip):Prop where
 at_:H r=some (.lst (ia.map V.ref))
 len:ia.length=n
 nd:ia.Nodup
 wa:WA H ia W
theorem Zb1.same{H H':Hp}{r:Addr}{ia:List Addr}{n:Nat}{W:Int→List Fo.Trip}(h:Zb1 H r ia n W)(s:Zd H H'):Zb1 H' r ia n W:=⟨s _ _ h.at_,h.len,h.nd,h.wa.same s⟩
theorem ZdU{ia:List Addr}{g:Int}(h0:0≤g)(h1:g.toNat<ia.length):atI (ia.map V.ref) g=some (.ref ia[g.toNat]):=by
 have:=YT (xs:=ia.map V.ref) (j:=g.toNat) (v:= .ref ia[g.toNat]) (by simp[h1])
 rwa [Int.toNat_of_nonneg h0] at this
noncomputable def ZaY (H:Hp) (v:V):Option Fo.Trip→Prop
 |none=>v= .non
 |some (p,b,al)=>∃t,v= .ref t∧H t=some (.tup [.int p,.int b,.bl al])
theorem ZaY.keep{H H':Hp}(t:∀b xs,H b=some (.tup xs)→H' b=some (.tup xs)){v:V}:∀{s:Option Fo.Trip},ZaY H v s→ZaY H' v s
 |none,h=>h
 |some (_,_,_),⟨a,e,z⟩=>⟨a,e,t _ _ z⟩
noncomputable def Ent (H:Hp):List (Key×V)→Fo.ZQ→Prop:=Paired fun kv x=>kv.1=Sum.inl x.1∧ZaY H kv.2 x.2
theorem Ent.keep{H H':Hp}(t:∀b xs,H b=some (.tup xs)→H' b=some (.tup xs)){kvs:List (Key×V)}{tr:Fo.ZQ}(h:Ent H kvs tr):Ent H' kvs tr:=Paired.mapP h fun _ _ ⟨a,z⟩=>⟨a,z.keep t⟩
theorem Ent.snoc{H:Hp}:∀{kvs:List (Key×V)}{tr:Fo.ZQ}{w:Int}{v:V}{s:Option Fo.Trip},Ent H kvs tr→ZaY H v s→Ent H (kvs++ [(Sum.inl w,v)]) (tr++ [(w,s)])
 |_,_,_,_,_,.nil,h=> .cons ⟨rfl,h⟩ .nil
 |_,_,_,_,_,.cons y r,h=> .cons y (Ent.snoc r h)
theorem Ent.length{H:Hp}{kvs:List (Key×V)}{tr:Fo.ZQ}(h:Ent H kvs tr):kvs.length=tr.length:=Paired.length h
theorem Ent.keys{H:Hp}:∀{kvs:List (Key×V)}{tr:Fo.ZQ},Ent H kvs tr→kvs.map (·.1)=(Fo.keys tr).map Sum.inl
 |_,_,.nil=>rfl
 |_,_,.cons ⟨a,_⟩ r=>by
  have:=Ent.keys r;unfold Fo.keys at this⊢;rw[List.map_cons,List.map_cons,List.map_cons,a,this]
theorem Ent.some{H:Hp}:∀{kvs:List (Key×V)}{tr:Fo.ZQ}{w:Int},Ent H kvs tr→((valV kvs (Sum.inl w)).isSome=true↔w∈Fo.keys tr):=by
 intro kvs tr w h;rw[←W5,List.any_eq_true];have hk:=h.keys
 constructor
 ·rintro⟨kv,hm,e⟩;have e1:kv.1=Sum.inl w:=of_decide_eq_true e;have:kv.1∈kvs.map (·.1):=List.mem_map_of_mem hm;rw[hk,e1] at this;obtain⟨w',hw',e2⟩:=List.mem_map.mp this;cases e2;exact hw'
 ·intro hw;have:(Sum.inl w:Key)∈(Fo.keys tr).map Sum.inl:=List.mem_map_of_mem hw;rw[←hk] at this;obtain⟨kv,hm,e⟩:=List.mem_map.mp this;exact⟨kv,hm,decide_eq_true e⟩
def Vt(H:Hp)(d:Addr)(tr:Fo.ZQ):Prop:=∃kvs,H d=some (.dK kvs)∧Ent H kvs tr
theorem Vt.same{H H':Hp}{d:Addr}{tr:Fo.ZQ}(h:Vt H d tr)(s:Zd H H'):Vt H' d tr:=by
 obtain⟨kvs,h1,h2⟩:=h;exact⟨kvs,s _ _ h1,h2.keep fun _ _ e=>s _ _ e⟩
theorem Zds:∀(more kvs:List (Key×V))(k:Key),(valV (Yn kvs more) k).isSome=((valV kvs k).isSome||(valV more k).isSome)
 | [],kvs,k=>by
  show(valV kvs k).isSome=((valV kvs k).isSome||(valV ([]:List (Key×V)) k).isSome);have:valV ([]:List (Key×V)) k=none:=rfl;rw[this,Option.isSome_none,Bool.or_false]
 |(j,v)::r,kvs,k=>by
  show(valV (Yn (Z9 kvs j v) r) k).isSome=_;rw[Zds r (Z9 kvs j v) k,Ui]
  by_cases e:j=k
  ·subst e;rw[if_pos rfl,YE rfl];simp
  ·rw[if_neg (fun z=>e z.symm),YG e]
theorem Paired.get'{α β:Type}{P:α→β→Prop}:∀{xs:List α}{ys:List β}{i:Nat}{x:α},Paired P xs ys→xs[i]? =some x→∃y,ys[i]? =some y∧P x y
 |_,_,_,_,.nil,e=>by simp at e
 |_,_,0,_,.cons h _,e=>by simp at e;subst e;exact⟨_,rfl,h⟩
 |_,_,i+1,x,.cons _ r,e=>by
  obtain⟨y,h1,h2⟩:=Paired.get' (i:=i) (x:=x) r (by simpa using e);exact⟨y,by simpa using h1,h2⟩
noncomputable def We (H:Hp):List Addr→List (Int×Fo.ZQ)→Prop:=Paired fun d x=>Vt H d x.2
theorem We.same{H H':Hp}{ds:List Addr}{F:List (Int×Fo.ZQ)}(h:We H ds F)(s:Zd H H'):We H' ds F:=Paired.mapP h fun _ _ z=>z.same s
theorem We.snoc{H:Hp}:∀{ds:List Addr}{F:List (Int×Fo.ZQ)}{d:Addr}{x:Int×Fo.ZQ},We H ds F→Vt H d x.2→We H (ds++ [d]) (F++ [x])
 |_,_,_,_,.nil,h=> .cons h .nil
 |_,_,_,_,.cons y r,h=> .cons y (We.snoc r h)
theorem We.keep{H H':Hp}(t:∀b xs,H b=some (.tup xs)→H' b=some (.tup xs)):∀{ds:List Addr}{F:List (Int×Fo.ZQ)},We H ds F→(∀d∈ds,∀kvs,H d=some (.dK kvs)→H' d=some (.dK kvs))→We H' ds F
 |_,_,.nil,_=> .nil
 |_,_,.cons ⟨kvs,h1,h2⟩ r,k=> .cons ⟨kvs,k _ (by simp) _ h1,h2.keep t⟩ (We.keep t r fun d hd=>k d (List.mem_cons_of_mem _ hd))
theorem We.length{H:Hp}{ds:List Addr}{F:List (Int×Fo.ZQ)}(h:We H ds F):ds.length=F.length:=Paired.length h
structure Zjp(H:Hp)(f:Addr)(ds:List Addr)(F:List (Int×Fo.ZQ)):Prop where
 at_:H f=some (.lst (ds.map V.ref))
 trees:We H ds F
theorem Zkf{n a:Nat}(h:a<2 ^ n):Builtin.Int.intBits (a:Int)≤n:=by
 unfold Builtin.Int.intBits
 split
 ·exact Nat.zero_le _
 ·rename_i hz;have h0:(a:Int).natAbs≠0:=by
   intro e;apply hz;have:(a:Int)=0:=by omega
   rw[this]
   rfl
  have e:(a:Int).natAbs=a:=Int.natAbs_natCast a;have:=(Nat.log2_lt h0).mpr (by rw[e];exact h);omega
theorem Zam{n m a b:Nat}(ha:a<2 ^ n)(hb:b<2 ^ m)(h:n+m≤10000000):IntMulOk (a:Int) (b:Int):=by
 have b1:=Zkf ha;have b2:=Zkf hb;have k:Builtin.Int.intTooBig ((Builtin.Int.intBits (a:Int):Int)+(Builtin.Int.intBits (b:Int):Int))=false:=by
  unfold Builtin.Int.intTooBig;rw[PySem.bitsLine_eq];exact decide_eq_false (by omega)
 unfold IntMulOk;rw[k];simp
theorem ZmM{a:Nat}(h:a<2 ^ 8000):(a:Int).natAbs.log2<9000:=by
 rw[Int.natAbs_natCast]
 by_cases h0:a=0
 ·rw[h0];decide+kernel
 ·have:=(Nat.log2_lt h0).mpr h;omega
theorem Zd5{a b:Nat}(hb:0<b)(h:b<2 ^ 8000):0<(b:Int)∧(b:Int).natAbs.log2<9000:=⟨by omega,ZmM h⟩
theorem V8{a b n m:Nat}(ha:a<2 ^ n)(hb:b<2 ^ m):a*b<2 ^ (n+m):=by
 rw[Nat.pow_add];exact Nat.mul_lt_mul'' ha hb
def Bal(B:B5)(al:Bool)(x y:Nat×Nat):Prop:=if al=true then x.1*y.2*B.take.toNat=y.1*x.2*B.give.toNat else x.1*y.2*B.give.toNat=y.1*x.2*B.take.toNat
structure Wx(ls:List B5)(tr:Fo.ZQ)(zs:List (Int×(Nat×Nat)))(d:Nat):Prop where
 keys:zs.map (·.1)=(Fo.keys tr).take d
 pos:∀x∈zs,0<x.2.1∧0<x.2.2∧Nat.gcd x.2.1 x.2.2=1
 size:∀(i:Nat) x,zs[i]? =some x→x.2.1<2 ^ (110*i+1)∧x.2.2<2 ^ (110*i+1)
 first:∀(i:Nat)(w:Int),i<d→tr[i]? =some (w,none)→zs[i]? =some (w,(1,1))
 step:∀(i:Nat)(w p b:Int)(al:Bool),i<d→tr[i]? =some (w,some (p,b,al))→∃(j:Nat)(x y:Nat×Nat),j<i∧zs[i]? =some (w,x)∧zs[j]? =some (p,y)∧Bal (ls.getD b.toNat dB) al x y
theorem Zjx{ls:List B5}{tr:Fo.ZQ}:Wx ls tr [] 0:=⟨rfl,by simp,by simp,fun i w h=>absurd h (Nat.not_lt_zero _),fun i w p b al h=>absurd h (Nat.not_lt_zero _)⟩
theorem Wx.len{ls:List B5}{tr:Fo.ZQ}{zs:List (Int×(Nat×Nat))}{d:Nat}(h:Wx ls tr zs d)(hd:d≤tr.length):zs.length=d:=by
 have:=congrArg List.length h.keys;rw[List.length_map,List.length_take] at this;simp[Fo.keys] at this;omega
theorem ZiZ{α:Type}{zs:List α}{x y:α}{i:Nat}(h:(zs++ [x])[i]? =some y):zs[i]? =some y∨(i=zs.length∧y=x):=by
 rcases Nat.lt_or_ge i zs.length with c|c
 ·rw[List.getElem?_append_left c] at h;exact .inl h
 ·rw[List.getElem?_append_right c] at h;have:i-zs.length=0:=by
   rcases Nat.eq_zero_or_pos (i-zs.length) with z|z
   ·exact z
   ·rw[List.getElem?_eq_none (by simp;omega)] at h;cases h
  rw[this] at h;simp at h;exact .inr ⟨by omega,h.symm⟩
theorem Zbf{α:Type}{zs:List α}{x y:α}{i:Nat}(h:zs[i]? =some y):(zs++ [x])[i]? =some y:=by
 rw[List.getElem?_append_left (List.getElem?_eq_some_iff.mp h).1];exact h
theorem Zdv{α:Type}{zs:List α}{x:α}:(zs++ [x])[zs.length]? =some x:=by rw[List.getElem?_append_right (Nat.le_refl _),Nat.sub_self];rfl
theorem Wx.more{ls:List B5}{tr:Fo.ZQ}{zs:List (Int×(Nat×Nat))}{d:Nat}(h:Wx ls tr zs d)(hd:d<tr.length){w:Int}{st:Option Fo.Trip}(e:tr[d]? =some (w,st)){x:Nat×Nat}(hp:0<x.1∧0<x.2∧Nat.gcd x.1 x.2=1)(hs:x.1<2 ^ (110*d+1)∧x.2<2 ^ (110*d+1))
  (hn:st=none→x=(1,1)) (hst:∀p b al,st=some (p,b,al)→∃(j:Nat)(y:Nat×Nat),zs[j]? =some (p,y)∧Bal (ls.getD b.toNat dB) al x y):Wx ls tr (zs++ [(w,x)]) (d+1):=by
 have hl:=h.len (Nat.le_of_lt hd);have hk:(Fo.keys tr)[d]? =some w:=by unfold Fo.keys;rw[List.getElem?_map,e];rfl
 refine⟨?_,fun y hy=>?_,fun i y hy=>?_,fun i w' hi e'=>?_,fun i w' p b al hi e'=>?_⟩
 ·rw[List.map_append,h.keys,List.take_succ,hk];rfl
 ·rcases List.mem_append.mp hy with z|z
  ·exact h.pos y z
  ·rw[List.mem_singleton.mp z];exact hp
 ·rcases ZiZ hy with z|⟨z1,z2⟩
  ·exact h.size i y z
  ·rw[z2,z1,hl];exact hs
 ·rcases Nat.lt_succ_iff_lt_or_eq.mp hi with z|z
  ·exact Zbf (h.first i w' z e')
  ·subst z;rw[e] at e';cases e';rw[hn rfl,←hl];exact Zdv
 ·rcases Nat.lt_succ_iff_lt_or_eq.mp hi with z|z
  ·obtain⟨j,x',y',h1,h2,h3,h4⟩:=h.step i w' p b al z e';exact⟨j,x',y',h1,Zbf h2,Zbf h3,h4⟩
  ·subst z;rw[e] at e';cases e';obtain⟨j,y,h1,h2⟩:=hst p b al rfl;have hj:=(List.getElem?_eq_some_iff.mp h1).1;refine⟨j,x,y,by omega,?_,Zbf h1,h2⟩;rw[←hl];exact Zdv
noncomputable def ShE (H:Hp):List (Key×V)→List (Int×(Nat×Nat))→Prop:=Paired fun kv x=>kv.1=Sum.inl x.1∧∃t,kv.2= .ref t∧H t=some (.tup [.int (x.2.1:Nat),.int (x.2.2:Nat)])
theorem ShE.keep{H H':Hp}(t:∀b xs,H b=some (.tup xs)→H' b=some (.tup xs)){kvs:List (Key×V)}{zs:List (Int×(Nat×Nat))}(h:ShE H kvs zs):ShE H' kvs zs:=Paired.mapP h fun _ _ ⟨a,c,e,z⟩=>⟨a,c,e,t _ _ z⟩
theorem ShE.snoc{H:Hp}:∀{kvs:List (Key×V)}{zs:List (Int×(Nat×Nat))}{w:Int}{t:Addr}{x:Nat×Nat},ShE H kvs zs→H t=some (.tup [.int (x.1:Nat),.int (x.2:Nat)])→ShE H (kvs++ [(Sum.inl w,.ref t)]) (zs++ [(w,x)])
 |_,_,_,_,_,.nil,h=> .cons ⟨rfl,_,rfl,h⟩ .nil
 |_,_,_,_,_,.cons y r,h=> .cons y (ShE.snoc r h)
theorem ShE.length{H:Hp}{kvs:List (Key×V)}{zs:List (Int×(Nat×Nat))}(h:ShE H kvs zs):kvs.length=zs.length:=Paired.length h
theorem ShE.get{H:Hp}:∀{kvs:List (Key×V)}{zs:List (Int×(Nat×Nat))}{p:Int},ShE H kvs zs→p∈zs.map (·.1)→∃(y:Nat×Nat)(t:Addr),(p,y)∈zs∧valV kvs (Sum.inl p)=some (.ref t)∧H t=some (.tup [.int (y.1:Nat),.int (y.2:Nat)])
 |_,_,_,.nil,h=>by simp at h
 |_,_,p,.cons (a:=kv) (b:=z) ⟨a,t,e,ht⟩ r,h=>by
  obtain⟨k,v⟩:=kv;obtain⟨w,x⟩:=z;dsimp only at a e ht;subst a e
  by_cases c:w=p
  ·subst c;exact⟨x,t,by simp,YE rfl,ht⟩
  ·have h':p∈_:=(List.mem_cons.mp h).resolve_left (fun y=>c y.symm);obtain⟨y,t',h1,h2,h3⟩:=ShE.get r h';exact⟨y,t',List.mem_cons_of_mem _ h1,by rw[YG (fun y=>c (Sum.inl.inj y))];exact h2,h3⟩
theorem ShE.none{H:Hp}{kvs:List (Key×V)}{zs:List (Int×(Nat×Nat))}{p:Int}(h:ShE H kvs zs)(hp:p∉zs.map (·.1)):valV kvs (Sum.inl p)=none:=by
 cases e:valV kvs (Sum.inl p) with
 |none=>rfl
 |some v=>
  exfalso;have:(valV kvs (Sum.inl p)).isSome=true:=by rw[e];rfl
  rw[←W5,List.any_eq_true] at this;obtain⟨kv,hm,e2⟩:=this;obtain⟨i,hi,rfl⟩:=List.getElem_of_mem hm;obtain⟨z,hz,a,_⟩:=Paired.get' h (List.getElem?_eq_getElem hi);have e3:kvs[i].1=Sum.inl p:=of_decide_eq_true e2;rw[a] at e3;have:z.1=p:=Sum.inl.inj e3;exact hp (List.mem_map.mpr ⟨z,List.mem_of_getElem? hz,this⟩)
theorem Zhz{y u:Nat×Nat}{x:Nat×Nat}{gv tk G n:Nat}(y0:0<y.1)(y1:0<y.2)(g0:0<gv)(t0:0<tk)(hu:u.1=gv / G)(hv:u.2=tk / G)(hG:G=Nat.gcd gv tk)(hx:x.1=y.1*u.1 / Nat.gcd (y.1*u.1) (y.2*u.2))(hx2:x.2=y.2*u.2 / Nat.gcd (y.1*u.1) (y.2*u.2)):
  (0<x.1∧0<x.2∧Nat.gcd x.1 x.2=1)∧x.1*y.2*tk=y.1*x.2*gv∧x.1≤y.1*gv∧x.2≤y.2*tk:=by
 have Gp:0<G:=by rw[hG];exact Nat.gcd_pos_of_pos_left _ g0
 have d1:G ∣ gv:=by rw[hG];exact Nat.gcd_dvd_left _ _
 have d2:G ∣ tk:=by rw[hG];exact Nat.gcd_dvd_right _ _
 have e1:gv=u.1*G:=by rw[hu,Nat.div_mul_cancel d1]
 have e2:tk=u.2*G:=by rw[hv,Nat.div_mul_cancel d2]
 have u0:0<u.1:=by rcases Nat.eq_zero_or_pos u.1 with z|z;rw[z,Nat.zero_mul] at e1;omega;exact z
 have v0:0<u.2:=by rcases Nat.eq_zero_or_pos u.2 with z|z;rw[z,Nat.zero_mul] at e2;omega;exact z
 have A0:0<y.1*u.1:=Nat.mul_pos y0 u0;have B0:0<y.2*u.2:=Nat.mul_pos y1 v0;have gp:0<Nat.gcd (y.1*u.1) (y.2*u.2):=Nat.gcd_pos_of_pos_left _ A0;have c1:x.1*Nat.gcd (y.1*u.1) (y.2*u.2)=y.1*u.1:=by rw[hx,Nat.div_mul_cancel (Nat.gcd_dvd_left _ _)]
 have c2:x.2*Nat.gcd (y.1*u.1) (y.2*u.2)=y.2*u.2:=by rw[hx2,Nat.div_mul_cancel (Nat.gcd_dvd_right _ _)]
 refine⟨⟨?_,?_,?_⟩,?_,?_,?_⟩
 ·rw[hx];exact Nat.div_pos (Nat.le_of_dvd A0 (Nat.gcd_dvd_left _ _)) gp
 ·rw[hx2];exact Nat.div_pos (Nat.le_of_dvd B0 (Nat.gcd_dvd_right _ _)) gp
 ·rw[hx,hx2];exact Nat.gcd_div_gcd_div_gcd_of_pos_left A0
 ·generalize Nat.gcd (y.1*u.1) (y.2*u.2)=g at*;have k:x.1*(y.2*u.2)=(y.1*u.1)*x.2:=by rw[←c2,←c1,Nat.mul_comm x.2 g,Nat.mul_assoc]
  calc x.1*y.2*tk=x.1*(y.2*u.2)*G:=by rw[e2];simp only[Nat.mul_assoc]
   _=(y.1*u.1)*x.2*G:=by rw[k]
   _=y.1*x.2*gv:=by rw[e1,Nat.mul_right_comm y.1 u.1 x.2,Nat.mul_assoc (y.1*x.2)]
 ·have h1:x.1≤y.1*u.1:=by rw[hx];exact Nat.div_le_self _ _
  have h2:u.1≤gv:=by rw[hu];exact Nat.div_le_self _ _
  exact Nat.le_trans h1 (Nat.mul_le_mul_left _ h2)
 ·have h1:x.2≤y.2*u.2:=by rw[hx2];exact Nat.div_le_self _ _
  have h2:u.2≤tk:=by rw[hv];exact Nat.div_le_self _ _
  exact Nat.le_trans h1 (Nat.mul_le_mul_left _ h2)
theorem Zlv{H:Hp}{kvs:List (Key×V)}{tr:Fo.ZQ}{i:Nat}{kv:Key×V}(h:Ent H kvs tr)(e:kvs[i]? =some kv):∃w st,tr[i]? =some (w,st)∧kv.1=Sum.inl w∧ZaY H kv.2 st:=by
 obtain⟨⟨w,st⟩,h1,h2,h3⟩:=Paired.get' h e;exact⟨w,st,h1,h2,h3⟩
theorem Zd6{H:Hp}{a:Addr}{u:HO}(h:L2.Rd H a u):H a≠none:=by
 rcases h with h|⟨o,h⟩<;>(rw[h];simp)
theorem Zat{H:Hp}{d:Addr}{kvs:List (Key×V)}{o:Obj}(h:L2.Rd H d (.dK kvs)):ZH [d] H (upd H d (.frz o (.dK kvs))):=by
 refine⟨fun b x e n=>?_,fun b xs e=>?_⟩
 ·rw[Zg (fun z=>n (by simp[z]))];exact e
 ·have:b≠d:=fun z=>by
   rw[z] at e;rcases h with h|⟨o',h⟩<;>(rw[h] at e;cases e)
  rw[Zg this];exact e
def Wa(ls:List B5):Prop:=∀i<ls.length,∃gv tk,0<gv∧0<tk∧gv<2 ^ 110∧tk<2 ^ 110∧(ls.getD i dB).give=((gv:Nat):Int)∧(ls.getD i dB).take=((tk:Nat):Int)
theorem ZiA{ls:List B5}{n:Nat}{F:List (Int×Fo.ZQ)}(hb:ZM ls n)(hw:Fo.Vm (YJ ls) n F n){i j:Nat}{x y:Int×Fo.ZQ}(hi:F[i]? =some x)(hj:F[j]? =some y)(ne:i≠j):∀w∈Fo.keys x.2,w∉Fo.keys y.2:=by
 intro w h1 h2;obtain⟨g1,c1,_,_⟩:=hw.tree x (List.mem_of_getElem? hi);obtain⟨g2,c2,_,_⟩:=hw.tree y (List.mem_of_getElem? hj);have a1:=(g1.keys_iff c1 w).mp h1;have a2:=(g2.keys_iff c2 w).mp h2;have e1:=hw.least x (List.mem_of_getElem? hi) y.1 ((g1.keys_iff c1 _).mpr (a1.trans (a2.symm (ZaA ls))));have e2:=hw.least y (List.mem_of_getElem? hj) x.1 ((g2.keys_iff c2 _).mpr (a2.trans (a1.symm (ZaA ls))));obtain⟨hi',ei⟩:=List.getElem?_eq_some_iff.mp hi;obtain⟨hj',ej⟩:=List.getElem?_eq_some_iff.mp hj;rcases Nat.lt_or_gt_of_ne ne with z|z
 ·have:=List.pairwise_iff_getElem.mp hw.rise i j hi' hj' z;rw[ei,ej] at this;omega
 ·have:=List.pairwise_iff_getElem.mp hw.rise j i hj' hi' z;rw[ei,ej] at this;omega
theorem UW{α β:Type}{P P':α→β→Prop}:∀{xs:List α}{ys:List β},Paired P xs ys→(∀x y,x∈xs→P x y→P' x y)→Paired P' xs ys
 |_,_,.nil,_=> .nil
 |_,_,.cons h r,f=> .cons (f _ _ (by simp) h) (UW r fun x y hx=>f x y (List.mem_cons_of_mem _ hx))
noncomputable def Y9 (H:Hp):List Addr→List (Int×Fo.ZQ)→Prop:=Paired fun d x=>∃kvs,L2.Rd H d (.dK kvs)∧Ent H kvs x.2
theorem We.r{H:Hp}{ds:List Addr}{F:List (Int×Fo.ZQ)}(h:We H ds F):Y9 H ds F:=Paired.mapP h fun _ _ ⟨kvs,a,b⟩=>⟨kvs,.inl a,b⟩
theorem Y9.same{H H':Hp}{ds:List Addr}{F:List (Int×Fo.ZQ)}(h:Y9 H ds F)(s:Zd H H'):Y9 H' ds F:=Paired.mapP h fun _ _ ⟨kvs,a,b⟩=>⟨kvs,a.imp (s _ _) (fun⟨o,z⟩=>⟨o,s _ _ z⟩),b.keep fun _ _ e=>s _ _ e⟩
theorem Y9.length{H:Hp}{ds:List Addr}{F:List (Int×Fo.ZQ)}(h:Y9 H ds F):ds.length=F.length:=Paired.length h
theorem Zlh{H:Hp}{d:Addr}{k1 k2:List (Key×V)}(h1:L2.Rd H d (.dK k1))(h2:L2.Rd H d (.dK k2)):k1=k2:=by
 rcases h1 with a|⟨o1,a⟩<;>rcases h2 with b|⟨o2,b⟩<;>(rw[a] at b;cases b)<;>rfl
theorem Y9.frz{H:Hp}{ds:List Addr}{F:List (Int×Fo.ZQ)}(h:Y9 H ds F){d:Addr}{kvs:List (Key×V)}{o:Obj}(hd:L2.Rd H d (.dK kvs)):Y9 (upd H d (.frz o (.dK kvs))) ds F:=Paired.mapP h fun d' _ ⟨k,a,b⟩=>by
 refine⟨k,?_,b.keep (Zat hd).tups⟩
 by_cases z:d'=d
 ·subst z;rw[Zlh a hd];exact .inr ⟨o,Ze⟩
 ·rcases a with a|⟨o',a⟩
  ·exact .inl (by rw[Zg z];exact a)
  ·exact .inr ⟨o',by rw[Zg z];exact a⟩
noncomputable def lcmL (zs:List (Int×(Nat×Nat))):Nat:=zs.foldl (fun c x=>Nat.lcm c x.2.2) 1
theorem ZhV(zs:List (Int×(Nat×Nat)))(x:Int×(Nat×Nat)):lcmL (zs++ [x])=Nat.lcm (lcmL zs) x.2.2:=by unfold lcmL;rw[List.foldl_append];rfl
theorem ZiY{a b:Nat}:a / Nat.gcd a b*b=Nat.lcm a b:=by
 unfold Nat.lcm;rw[Nat.div_mul_right_comm (Nat.gcd_dvd_left a b)]
theorem Ziz{a b n m:Nat}(ha:a<2 ^ n)(hb:b<2 ^ m):Nat.lcm a b<2 ^ (n+m):=by
 unfold Nat.lcm;exact Nat.lt_of_le_of_lt (Nat.div_le_self _ _) (V8 ha hb)
def Zbh(ls:List B5)(x:Int×Fo.ZQ)(rs:List Int):Prop:=∃zs,Wx ls x.2 zs x.2.length∧∀y∈zs,rs[y.1.toNat]? =some ((lcmL zs / y.2.2*y.2.1:Nat):Int)
noncomputable def ZcR (cs:List Int) (b:B5):Int:=cs.getD b.giver.toNat 0*b.give-cs.getD b.taker.toNat 0*b.take
structure Zmq(ls:List B5)(n:Nat)(rs:List Int):Prop where
 len:rs.length=n
 pos:∀c∈rs,∃k:Nat,c=(k:Int)∧0<k∧k<2 ^ 420000
theorem Zey:∀(zs:List (Int×(Nat×Nat)))(c:Nat),c ∣ zs.foldl (fun c x=>Nat.lcm c x.2.2) c∧∀y∈zs,y.2.2 ∣ zs.foldl (fun c x=>Nat.lcm c x.2.2) c
 | [],c=>⟨Nat.dvd_refl _,by simp⟩
 |z::zs,c=>by
  obtain⟨h1,h2⟩:=Zey zs (Nat.lcm c z.2.2);refine⟨Nat.dvd_trans (Nat.dvd_lcm_left _ _) h1,fun y hy=>?_⟩;rcases List.mem_cons.mp hy with rfl|hy
  ·exact Nat.dvd_trans (Nat.dvd_lcm_right _ _) h1
  ·exact h2 y hy
theorem ZeC:∀(zs:List (Int×(Nat×Nat)))(c m:Nat),c ∣ m→(∀y∈zs,y.2.2 ∣ m)→zs.foldl (fun c x=>Nat.lcm c x.2.2) c ∣ m
 | [],_,_,h,_=>h
 |z::zs,c,m,h,k=>ZeC zs _ m (Nat.lcm_dvd h (k z (by simp))) fun y hy=>k y (List.mem_cons_of_mem _ hy)
theorem ZdX{zs:List (Int×(Nat×Nat))}{y:Int×(Nat×Nat)}(h:y∈zs):y.2.2 ∣ lcmL zs:=(Zey zs 1).2 y h
theorem ZjC{zs:List (Int×(Nat×Nat))}{m:Nat}(h:∀y∈zs,y.2.2 ∣ m):lcmL zs ∣ m:=ZeC zs 1 m (Nat.one_dvd m) h
theorem ZfH{zs:List (Int×(Nat×Nat))}(h:∀y∈zs,0<y.2.2):0<lcmL zs:=by
 unfold lcmL;have key:∀(zs:List (Int×(Nat×Nat)))(c:Nat),0<c→(∀y∈zs,0<y.2.2)→0<zs.foldl (fun c x=>Nat.lcm c x.2.2) c:=by
  intro zs
  induction zs with
  |nil=>intro c hc _;exact hc
  |cons z zs ih=>intro c hc k;exact ih _ (Nat.lcm_pos hc (k z (by simp))) fun y hy=>k y (List.mem_cons_of_mem _ hy)
 exact key zs 1 (by decide) h
theorem Zgu{ls:List B5}{tr:Fo.ZQ}{first:Int}{ways:Int→List Fo.Trip}{zs:List (Int×(Nat×Nat))}(hg:Fo.Y1 ways first tr)(h:Wx ls tr zs tr.length){k:Nat}(hk:∀y∈zs,k ∣ lcmL zs / y.2.2*y.2.1):k=1:=by
 have hl0:0<tr.length:=(List.getElem?_eq_some_iff.mp hg.head).1;have h0:=List.mem_of_getElem? (h.first 0 first hl0 hg.head);have kC:k ∣ lcmL zs:=by
  have:=hk _ h0;simpa using this
 have Cp:0<lcmL zs:=ZfH fun y hy=>(h.pos y hy).2.1;obtain⟨c,hc⟩:=kC;have k0:0<k:=by
  rcases Nat.eq_zero_or_pos k with z|z
  ·rw[z,Nat.zero_mul] at hc;omega
  ·exact z
 have all:∀y∈zs,y.2.2 ∣ c:=by
  intro y hy;obtain⟨p1,p2,p3⟩:=h.pos y hy;obtain⟨m,hm⟩:=hk y hy;have e1:lcmL zs / y.2.2*y.2.2=lcmL zs:=Nat.div_mul_cancel (ZdX hy);have e2:k*(c*y.2.1)=k*(y.2.2*m):=by
   calc k*(c*y.2.1)=lcmL zs*y.2.1:=by rw[hc,Nat.mul_assoc]
    _=(lcmL zs / y.2.2*y.2.1)*y.2.2:=by
     conv=>lhs;rw[←e1]
     rw[Nat.mul_right_comm]
    _=k*m*y.2.2:=by rw[hm]
    _=k*(y.2.2*m):=by rw[Nat.mul_assoc,Nat.mul_comm m]
  have e3:=Nat.eq_of_mul_eq_mul_left k0 e2;have d:y.2.2 ∣ c*y.2.1:=⟨m,e3⟩;exact Nat.Coprime.dvd_of_dvd_mul_right (show Nat.gcd y.2.2 y.2.1=1 by rw[Nat.gcd_comm];exact p3) d
 have hd:=ZjC all;rw[hc] at hd;have c0:0<c:=by
  rcases Nat.eq_zero_or_pos c with z|z
  ·rw[z,Nat.mul_zero] at hc;omega
  ·exact z
 have:=Nat.le_of_dvd c0 hd;rcases Nat.lt_or_ge k 2 with z|z
 ·omega
 ·have:2*c≤k*c:=Nat.mul_le_mul_right c z;omega
structure VI(ls:List B5)(z:Int→Nat):Prop where
 pos:∀w,0<z w
 bal:∀i<ls.length,(ls.getD i dB).give.toNat*z (ls.getD i dB).giver=(ls.getD i dB).take.toNat*z (ls.getD i dB).taker
theorem Ze7{ls:List B5}{z:Int→Nat}(hz:VI ls z)(hsz:Wa ls){tr:Fo.ZQ}{first:Int}{zs:List (Int×(Nat×Nat))}(hg:Fo.Y1 (YJ ls) first tr)(h:Wx ls tr zs tr.length):
  ∀(i:Nat)(y:Int×(Nat×Nat)),zs[i]? =some y→y.2.1*z first=y.2.2*z y.1:=by
 have hzl:=h.len (Nat.le_refl _);intro i
 induction i using Nat.strongRecOn with
 |_ i ih=>
  intro y hy;have hi:i<tr.length:=by have:=(List.getElem?_eq_some_iff.mp hy).1;omega
  obtain⟨⟨w,st⟩,e⟩:∃x,tr[i]? =some x:=⟨tr[i],List.getElem?_eq_getElem hi⟩;cases st with
  |none=>
   have h1:=h.first i w hi e;rw[hy] at h1;cases h1;have hi0:=hg.only i w e;subst hi0;rw[hg.head] at e;cases e;simp
  |some x=>
   obtain⟨p,b,al⟩:=x;obtain⟨j,x',y',hj,h1,h2,hb⟩:=h.step i w p b al hi e;rw[hy] at h1;cases h1;have ihj:=ih j hj _ h2;obtain⟨hw,_⟩:=hg.steps i w p b al e;obtain⟨bi,hbi,hm⟩:=Zac hw;obtain⟨_,y1,_⟩:=h.pos _ (List.mem_of_getElem? h2);obtain⟨gv,tk,g0,t0,_,_,eg,et⟩:=hsz bi hbi;have hbal:=hz.bal bi hbi;rw[VL] at hm;unfold Bal at hb;dsimp only at ihj y1⊢;rcases hm with⟨m1,m2⟩|⟨m1,m2⟩
   ·injection m2 with e1 e2
    injection e2 with e2 e3
    subst e3;rw[if_pos rfl,e2,Int.toNat_natCast,eg,et,Int.toNat_natCast,Int.toNat_natCast] at hb;rw[eg,et,Int.toNat_natCast,Int.toNat_natCast,m1,←e1] at hbal;refine Nat.eq_of_mul_eq_mul_left (Nat.mul_pos y1 t0) ?_
    calc y'.2*tk*(x'.1*z first)=x'.1*y'.2*tk*z first:=by simp only[Nat.mul_comm,Nat.mul_left_comm,Nat.mul_assoc]
     _=y'.1*x'.2*gv*z first:=by rw[hb]
     _=x'.2*gv*(y'.1*z first):=by simp only[Nat.mul_comm,Nat.mul_left_comm,Nat.mul_assoc]
     _=x'.2*y'.2*(gv*z p):=by rw[ihj];simp only[Nat.mul_comm,Nat.mul_left_comm,Nat.mul_assoc]
     _=y'.2*tk*(x'.2*z w):=by rw[hbal];simp only[Nat.mul_comm,Nat.mul_left_comm,Nat.mul_assoc]
   ·injection m2 with e1 e2
    injection e2 with e2 e3
    subst e3;rw[if_neg (by decide),e2,Int.toNat_natCast,eg,et,Int.toNat_natCast,Int.toNat_natCast] at hb;rw[eg,et,Int.toNat_natCast,Int.toNat_natCast,m1,←e1] at hbal;refine Nat.eq_of_mul_eq_mul_left (Nat.mul_pos y1 g0) ?_
    calc y'.2*gv*(x'.1*z first)=x'.1*y'.2*gv*z first:=by simp only[Nat.mul_comm,Nat.mul_left_comm,Nat.mul_assoc]
     _=y'.1*x'.2*tk*z first:=by rw[hb]
     _=x'.2*tk*(y'.1*z first):=by simp only[Nat.mul_comm,Nat.mul_left_comm,Nat.mul_assoc]
     _=x'.2*y'.2*(tk*z p):=by rw[ihj];simp only[Nat.mul_comm,Nat.mul_left_comm,Nat.mul_assoc]
     _=y'.2*gv*(x'.2*z w):=by rw[←hbal];simp only[Nat.mul_comm,Nat.mul_left_comm,Nat.mul_assoc]
theorem ZcI{ls:List B5}{z:Int→Nat}(hz:VI ls z)(hsz:Wa ls){tr:Fo.ZQ}{first:Int}{zs:List (Int×(Nat×Nat))}(hg:Fo.Y1 (YJ ls) first tr)(h:Wx ls tr zs tr.length){y:Int×(Nat×Nat)}(hy:y∈zs):
  lcmL zs / y.2.2*y.2.1*z first=lcmL zs*z y.1:=by
 obtain⟨i,hi⟩:=List.getElem?_of_mem hy;have e:=Ze7 hz hsz hg h i y hi
 calc lcmL zs / y.2.2*y.2.1*z first=lcmL zs / y.2.2*(y.2.1*z first):=by rw[Nat.mul_assoc]
  _=lcmL zs / y.2.2*y.2.2*z y.1:=by rw[e,Nat.mul_assoc]
  _=lcmL zs*z y.1:=by rw[Nat.div_mul_cancel (ZdX hy)]
theorem ZkM{zs:List (Int×(Nat×Nat))}(h:∀y∈zs,y.2.2<2 ^ 6700):lcmL zs<2 ^ (6700*zs.length+1):=by
 have key:∀(zs:List (Int×(Nat×Nat)))(c n:Nat),c<2 ^ n→(∀y∈zs,y.2.2<2 ^ 6700)→zs.foldl (fun c x=>Nat.lcm c x.2.2) c<2 ^ (n+6700*zs.length):=by
  intro zs
  induction zs with
  |nil=>intro c n hc _;simpa using hc
  |cons z zs ih=>
   intro c n hc k;have:=ih (Nat.lcm c z.2.2) (n+6700) (Ziz hc (k z (by simp))) fun y hy=>k y (List.mem_cons_of_mem _ hy);have e:n+6700+6700*zs.length=n+6700*(z::zs).length:=by simp[Nat.mul_succ];omega
   rw[e] at this;exact this
 have:=key zs 1 1 (by decide) h;rw[Nat.add_comm];exact this
section
variable {ls:List B5}{n:Nat}{F:List (Int×Fo.ZQ)}{rs:List Int}
theorem Ze2{x:Int×Fo.ZQ}{zs:List (Int×(Nat×Nat))}(h:Wx ls x.2 zs x.2.length){w:Int}(hw:w∈Fo.keys x.2):∃y∈zs,y.1=w:=by
 have h1:=h.keys;have h2:(Fo.keys x.2).take x.2.length=Fo.keys x.2:=List.take_of_length_le (by simp[Fo.keys]);rw[h2] at h1;rw[←h1] at hw;obtain⟨y,hy,e⟩:=List.mem_map.mp hw;exact⟨y,hy,e⟩
theorem Zfq(hbt:ZM ls n)(hn:n≤60)(hwd:Fo.Vm (YJ ls) n F n)(hrl:rs.length=n)(hset:∀x∈F,Zbh ls x rs):Zmq ls n rs:=by
 refine⟨hrl,fun c hc=>?_⟩;obtain⟨i,hi,rfl⟩:=List.getElem_of_mem hc;obtain⟨x,hx,hk⟩:=hwd.all (i:Int) (by omega) (by omega);obtain⟨zs,hg,hz⟩:=hset x hx;obtain⟨y,hy,ey⟩:=Ze2 hg hk;have h1:=hz y hy;rw[ey,Int.toNat_natCast,List.getElem?_eq_getElem hi] at h1;obtain⟨g,gg,g0,g1⟩:=hwd.tree x hx;have htl:x.2.length≤60:=by
  have:=Fo.Ub (n:=n) g.nodup (g.rg ⟨g0,g1⟩ (Zaa hbt));simp[Fo.keys] at this;omega
 have hzl:=hg.len (Nat.le_refl _);have sz:∀y∈zs,y.2.1<2 ^ 6700∧y.2.2<2 ^ 6700:=fun y hy=>by
  obtain⟨j,hj⟩:=List.getElem?_of_mem hy;have hjl:=(List.getElem?_eq_some_iff.mp hj).1;obtain⟨a,b⟩:=hg.size j y hj;have e:(2:Nat) ^ (110*j+1)≤2 ^ 6700:=Nat.pow_le_pow_right (by decide) (by omega);exact⟨Nat.lt_of_lt_of_le a e,Nat.lt_of_lt_of_le b e⟩
 have hC:=ZkM fun y hy=>(sz y hy).2;obtain⟨p1,p2,_⟩:=hg.pos y hy;refine⟨_,Option.some.inj h1,Nat.mul_pos (Nat.div_pos (Nat.le_of_dvd (ZfH fun y hy=>(hg.pos y hy).2.1) (ZdX hy)) p2) p1,?_⟩;refine Nat.lt_of_lt_of_le (V8 (Nat.lt_of_le_of_lt (Nat.div_le_self _ _) hC) (sz y hy).1) (Nat.pow_le_pow_right (by decide) ?_);have:6700*zs.length≤6700*60:=Nat.mul_le_mul_left _ (by omega);omega
theorem Zbw{z:Int→Nat}(hz:VI ls z)(hsz:Wa ls)(hbt:ZM ls n)(hwd:Fo.Vm (YJ ls) n F n)(hrl:rs.length=n)(hset:∀x∈F,Zbh ls x rs){i:Nat}(hi:i<ls.length):ZcR rs (ls.getD i dB)=0:=by
 obtain⟨a0,a1,b0,b1⟩:=hbt.at hi;obtain⟨gv,tk,g0,t0,_,_,eg,et⟩:=hsz i hi;have hbal:=hz.bal i hi;rw[eg,et,Int.toNat_natCast,Int.toNat_natCast] at hbal;obtain⟨x,hx,hk⟩:=hwd.all (ls.getD i dB).giver a0 a1;obtain⟨g,gg,x0,x1⟩:=hwd.tree x hx;have hk2:(ls.getD i dB).taker∈Fo.keys x.2:=by
  obtain⟨j,s,hj⟩:=Fo.Zcf hk;exact gg j _ s (List.getElem?_eq_some_iff.mp hj).1 hj ((ls.getD i dB).taker,(i:Int),true) (Zfx hi (VL.mpr (.inl ⟨rfl,rfl⟩)))
 obtain⟨zs,hg,hs⟩:=hset x hx;obtain⟨yg,hyg,eyg⟩:=Ze2 hg hk;obtain⟨yt,hyt,eyt⟩:=Ze2 hg hk2;have r1:=hs yg hyg;have r2:=hs yt hyt;have w1:=ZcI hz hsz g hg hyg;have w2:=ZcI hz hsz g hg hyt;rw[eyg] at r1 w1;rw[eyt] at r2 w2;have e1:rs.getD (ls.getD i dB).giver.toNat 0=((lcmL zs / yg.2.2*yg.2.1:Nat):Int):=by rw[List.getD_eq_getElem?_getD,r1];rfl
 have e2:rs.getD (ls.getD i dB).taker.toNat 0=((lcmL zs / yt.2.2*yt.2.1:Nat):Int):=by rw[List.getD_eq_getElem?_getD,r2];rfl
 generalize lcmL zs / yg.2.2*yg.2.1=A at*;generalize lcmL zs / yt.2.2*yt.2.1=B at*;have key:A*gv=B*tk:=by
  refine Nat.eq_of_mul_eq_mul_right (hz.pos x.1) ?_
  calc A*gv*z x.1=A*z x.1*gv:=Nat.mul_right_comm _ _ _
   _=lcmL zs*z (ls.getD i dB).giver*gv:=by rw[w1]
   _=lcmL zs*(gv*z (ls.getD i dB).giver):=by simp only[Nat.mul_comm,Nat.mul_left_comm,Nat.mul_assoc]
   _=lcmL zs*z (ls.getD i dB).taker*tk:=by rw[hbal];simp only[Nat.mul_comm,Nat.mul_left_comm,Nat.mul_assoc]
   _=B*z x.1*tk:=by rw[w2]
   _=B*tk*z x.1:=Nat.mul_right_comm _ _ _
 unfold ZcR;rw[e1,e2,eg,et];have k2:(A:Int)*(gv:Int)=(B:Int)*(tk:Int):=by
  rw[←Int.natCast_mul,←Int.natCast_mul,key]
 omega
end
theorem Paired.get{α β:Type}{P:α→β→Prop}:∀{xs:List α}{ys:List β}{i:Nat}{x:α},Paired P xs ys→xs[i]? =some x→∃y,ys[i]? =some y∧P x y
 |_,_,_,_,.nil,e=>by simp at e
 |_,_,0,_,.cons h _,e=>by simp at e;subst e;exact⟨_,rfl,h⟩
 |_,_,i+1,x,.cons _ r,e=>by
  obtain⟨y,h1,h2⟩:=Paired.get (i:=i) (x:=x) r (by simpa using e);exact⟨y,by simpa using h1,h2⟩
theorem UJ{α β:Type}{P:α→β→Prop}:∀{xs:List α}{ys:List β},xs.length=ys.length→(∀(i:Nat) x y,xs[i]? =some x→ys[i]? =some y→P x y)→Paired P xs ys
 | [],[],_,_=> .nil
 |x::xs,y::ys,hl,h=> .cons (h 0 x y rfl rfl) (UJ (by simpa using hl) fun i a b e1 e2=>h (i+1) a b (by simpa using e1) (by simpa using e2))
 | [],_::_,hl,_=>by simp at hl
 |_::_,[],hl,_=>by simp at hl
theorem ZfP{β γ:Type}{S:γ→β→Prop}{L:List γ}{d:γ}{ys:List β}(h:Paired (fun i v=>S (L.getD i d) v) ((List.range L.length).filter fun _=>true) ys):Paired S L ys:=by
 rw[List.filter_eq_self.mpr (by simp)] at h;refine UJ (by rw[←Paired.length h,List.length_range]) fun i x y e1 e2=>?_;have hi:i<L.length:=(List.getElem?_eq_some_iff.mp e1).1;obtain⟨y',h1,h2⟩:=Paired.get (i:=i) (x:=i) h (by simp[hi]);rw[e2] at h1;cases h1;simpa[List.getD,e1] using h2
noncomputable def Vv (H:Hp):List (Int×Int)→List V→Prop:=Paired fun x v=>∃t,v= .ref t∧H t=some (.tup [.int x.1,.int x.2])
theorem Vv.keep{H H':Hp}(t:∀b xs,H b=some (.tup xs)→H' b=some (.tup xs)){vs:List V}{l:List (Int×Int)}(h:Vv H l vs):Vv H' l vs:=Paired.mapP h fun _ _ ⟨a,e,z⟩=>⟨a,e,t _ _ z⟩
noncomputable def LL (H:Hp):List (List (Int×Int))→List Addr→Prop:=Paired fun l a=>∃vs,H a=some (.lst vs)∧Vv H l vs
theorem LL.dom{H:Hp}:∀{ls:List (List (Int×Int))}{as:List Addr},LL H ls as→∀x∈as,H x≠none
 |_,_,.nil,_,hx=>by simp at hx
 |_,_,.cons ⟨vs,h,_⟩ r,x,hx=>by
  rcases List.mem_cons.mp hx with rfl|hx
  ·rw[h];simp
  ·exact LL.dom r x hx
theorem LL.keep{H H':Hp}(t:∀b xs,H b=some (.tup xs)→H' b=some (.tup xs)):∀{ls:List (List (Int×Int))}{as:List Addr},LL H ls as→(∀x∈as,H' x=H x)→LL H' ls as
 |_,_,.nil,_=> .nil
 |_,_,.cons ⟨vs,h,p⟩ r,k=> .cons ⟨vs,(k _ (by simp)).trans h,p.keep t⟩ (LL.keep t r fun x hx=>k x (List.mem_cons_of_mem _ hx))
noncomputable def Ym (ls:List B5) (w:Int):List (Int×Int):=(ZU ls w).map fun i:Nat=>((i:Int),(ls.getD i dB).take)
noncomputable def U9 (ls:List B5) (w:Int):List (Int×Int):=(ZL ls w).map fun i:Nat=>((i:Int),(ls.getD i dB).give)
noncomputable def YX (rows:List B5) (hs:List Int) (w:Int):Bool:=(rows.zip hs).all fun x=>!(decide (x.1.taker=w))||decide (x.1.take≤x.2)
theorem ZcF{w:Int}:∀{rows:List B5}{hs:List Int},(∀(i:Nat)(r:B5)(h:Int),rows[i]? =some r→hs[i]? =some h→r.taker=w→r.take≤h)→YX rows hs w=true
 | [],_,_=>by simp[YX]
 |_::_,[],_=>by simp[YX]
 |r::rs,h::hs,q=>by
  have e:=ZcF (rows:=rs) (hs:=hs) (w:=w) fun i r' h' a b=>q (i+1) r' h' (by simpa using a) (by simpa using b);unfold YX at e⊢;rw[List.zip_cons_cons,List.all_cons,e,Bool.and_true]
  by_cases c:r.taker=w
  ·rw[decide_eq_true (q 0 r h rfl rfl c),Bool.or_true]
  ·rw[decide_eq_false c];rfl
theorem Zb8{w:Int}:∀{rows:List B5}{hs:List Int}(i:Nat){r:B5}{h:Int},rows[i]? =some r→hs[i]? =some h→r.taker=w→h<r.take→YX rows hs w=false
 | [],_,_,_,_,a,_,_,_=>by simp at a
 |_::_,[],_,_,_,_,a,_,_=>by simp at a
 |r::rs,h::hs,0,r',h',a,b,c,d=>by
  simp only[List.getElem?_cons_zero,Option.some.injEq] at a b;subst a b;unfold YX;rw[List.zip_cons_cons,List.all_cons,decide_eq_true c,decide_eq_false (show ¬r.take≤h by omega)]
  rfl
 |r::rs,h::hs,i+1,r',h',a,b,c,d=>by
  have e:=Zb8 (rows:=rs) (hs:=hs) (w:=w) i (r:=r') (h:=h') (by simpa using a) (by simpa using b) c d;unfold YX at e⊢;rw[List.zip_cons_cons,List.all_cons,e,Bool.and_false]
noncomputable def Y7 (rows:List B5) (hs:List Int) (w:Int):List Int:=(rows.zip hs).map fun x=>x.2-(if x.1.taker=w then x.1.take else 0)+(if x.1.giver=w then x.1.give else 0)
theorem Za8{rows:List B5}{hs:List Int}{w:Int}(h:hs.length=rows.length):(Y7 rows hs w).length=hs.length:=by unfold Y7;simp;omega
theorem ZbX{rows:List B5}{hs:List Int}{w:Int}{i:Nat}(h1:i<rows.length)(h2:i<hs.length)(h3:i<(Y7 rows hs w).length):(Y7 rows hs w)[i]=hs[i]-(if rows[i].taker=w then rows[i].take else 0)+(if rows[i].giver=w then rows[i].give else 0):=by
 have e:(Y7 rows hs w)[i]? =some (hs[i]-(if rows[i].taker=w then rows[i].take else 0)+(if rows[i].giver=w then rows[i].give else 0)):=by
  unfold Y7;rw[List.getElem?_map,List.getElem?_eq_getElem (by rw[List.length_zip];omega)];simp
 rw[List.getElem?_eq_getElem h3] at e;exact Option.some.inj e
noncomputable def Za2 (hs:List Int) (l:List (Int×Int)):Bool:=l.all fun x=>decide (x.2≤hs.getD x.1.toNat 0)
theorem ZdG{rows:List B5}{hs:List Int}{w:Int}(h:hs.length=rows.length):Za2 hs (Ym rows w)=YX rows hs w:=by
 cases e:Za2 hs (Ym rows w) with
 |true=>
  refine(ZcF fun i r x a b c=>?_).symm;have hi:i<rows.length:=(List.getElem?_eq_some_iff.mp a).1;have er:rows.getD i dB=r:=by simp[List.getD,a]
  have m:((i:Int),r.take)∈Ym rows w:=by
   unfold Ym ZU;refine List.mem_map.mpr ⟨i,List.mem_filter.mpr ⟨List.mem_range.mpr hi,decide_eq_true (by rw[er];exact c)⟩,by rw[er]⟩
  have:=of_decide_eq_true (List.all_eq_true.mp e _ m);simpa[List.getD,b] using this
 |false=>
  unfold Za2 at e;rw[List.all_eq_false] at e;obtain⟨x,hx,d⟩:=e;unfold Ym ZU at hx;obtain⟨i,hi,rfl⟩:=List.mem_map.mp hx;obtain⟨h1,h2⟩:=List.mem_filter.mp hi;have hr:=List.mem_range.mp h1;have ei:=List.getElem?_eq_getElem hr;have eh:=List.getElem?_eq_getElem (show i<hs.length by omega);have er:rows.getD i dB=rows[i]:=by simp[List.getD,ei]
  rw[er] at h2 d;refine(Zb8 i ei eh (of_decide_eq_true h2) ?_).symm;have d':¬rows[i].take≤hs.getD (i:Int).toNat 0:=fun z=>d (decide_eq_true z);have eg:hs.getD (i:Int).toNat 0=hs[i]:=by simp[List.getD,eh]
  rw[eg] at d';omega
theorem ZbT{ls:List B5}{w:Int}{i:Nat}(h:i∈ZU ls w):i<ls.length:=List.mem_range.mp (List.mem_filter.mp h).1
theorem ZaC{ls:List B5}{w:Int}{i:Nat}(h:i∈ZL ls w):i<ls.length:=List.mem_range.mp (List.mem_filter.mp h).1
theorem ZdI{ls:List B5}{w:Int}:(ZU ls w).length≤ls.length:=Nat.le_trans (List.length_filter_le _ _) (by simp)
theorem Zdy{ls:List B5}{w:Int}:(ZL ls w).length≤ls.length:=Nat.le_trans (List.length_filter_le _ _) (by simp)
noncomputable def bump (f:Nat→Int) (hs:List Int) (is:List Nat):List Int:=is.foldl (fun hs i=>hs.set i (hs.getD i 0+f i)) hs
theorem Vb(f:Nat→Int):∀(is:List Nat)(hs:List Int),(bump f hs is).length=hs.length
 | [],_=>rfl
 |i::is,hs=>by
  show(bump f (hs.set i _) is).length=_;rw[Vb f is,List.length_set]
theorem Zd3(f:Nat→Int):∀(is:List Nat)(hs:List Int)(j:Nat),is.Nodup→j<hs.length→(bump f hs is).getD j 0=hs.getD j 0+if j∈is then f j else 0
 | [],hs,j,_,_=>by simp[bump]
 |i::is,hs,j,nd,hj=>by
  obtain⟨n1,n2⟩:=List.nodup_cons.mp nd;show(bump f (hs.set i (hs.getD i 0+f i)) is).getD j 0=_;rw[Zd3 f is _ j n2 (by rw[List.length_set];exact hj)]
  by_cases e:i=j
  ·subst e;have e1:(hs.set i (hs.getD i 0+f i)).getD i 0=hs.getD i 0+f i:=by rw[List.getD_eq_getElem?_getD,List.getElem?_set_self hj];rfl
   rw[e1,if_neg n1,if_pos List.mem_cons_self,Int.add_zero]
  ·have e1:(hs.set i (hs.getD i 0+f i)).getD j 0=hs.getD j 0:=by rw[List.getD_eq_getElem?_getD,List.getElem?_set_ne e,List.getD_eq_getElem?_getD]
   rw[e1];have:(j∈i::is)↔j∈is:=by simp[Ne.symm e]
   simp only[this]
theorem UK(n:Nat)(c:Nat→Bool):((List.range n).filter c).Nodup:=List.nodup_range.filter c
theorem Zhl{rows:List B5}{hs:List Int}{w:Int}(h:hs.length=rows.length):
  bump (fun i=>(rows.getD i dB).give) (bump (fun i=>-(rows.getD i dB).take) hs (ZU rows w)) (ZL rows w)=Y7 rows hs w:=by
 have l1:=Vb (fun i=>-(rows.getD i dB).take) (ZU rows w) hs;refine List.ext_getElem (by rw[Vb,l1,Za8 h]) fun i h1 h2=>?_;rw[Vb,l1] at h1;have hr:i<rows.length:=by omega
 rw[ZbX hr h1 h2];have e0:∀(xs:List Int)(hx:i<xs.length),xs[i]=xs.getD i 0:=fun xs hx=>by simp[List.getD,hx]
 rw[e0 _ (by rw[Vb,l1];exact h1),Zd3 _ (ZL rows w) _ _ (UK _ _) (by rw[l1];exact h1),Zd3 _ (ZU rows w) _ _ (UK _ _) h1,←e0 hs h1];have er:rows.getD i dB=rows[i]:=by simp[List.getD,hr]
 have m1:i∈ZU rows w↔rows[i].taker=w:=by
  unfold ZU;rw[List.mem_filter,List.mem_range,er,decide_eq_true_eq];exact⟨fun z=>z.2,fun z=>⟨hr,z⟩⟩
 have m2:i∈ZL rows w↔rows[i].giver=w:=by
  unfold ZL;rw[List.mem_filter,List.mem_range,er,decide_eq_true_eq];exact⟨fun z=>z.2,fun z=>⟨hr,z⟩⟩
 simp only[m1,m2,er]
 split<;>split<;>omega
theorem LL.at{H:Hp}{ls:List (List (Int×Int))}{ia:List Addr}{w:Int}{l:List (Int×Int)}(h:LL H ls ia)(h0:0≤w)(e:ls[w.toNat]? =some l):∃x vs,atI (ia.map V.ref) w=some (.ref x)∧H x=some (.lst vs)∧Vv H l vs:=by
 obtain⟨x,h1,vs,h2,h3⟩:=Paired.get h e;refine⟨x,vs,?_,h2,h3⟩;have:=YT (xs:=ia.map V.ref) (j:=w.toNat) (v:= .ref x) (by rw[List.getElem?_map,h1];rfl)
 rwa [Int.toNat_of_nonneg h0] at this
theorem LL.len{H:Hp}{ls:List (List (Int×Int))}{ia:List Addr}(h:LL H ls ia):ia.length=ls.length:=(Paired.length h).symm
theorem Zev{H:Hp}{js:List Nat}{f:Nat→Int}{ys:List V}(h:Paired (fun i v=>∃t,v=V.ref t∧H t=some (.tup [.int (js.getD i 0:Nat),.int (f (js.getD i 0))])) ((List.range (js.map fun i:Nat=>V.int i).length).filter fun _=>true) ys):Vv H (js.map fun i:Nat=>((i:Int),f i)) ys:=by
 rw[List.length_map] at h;have h1:Paired (fun(j:Nat) v=>∃t,v=V.ref t∧H t=some (.tup [.int (j:Nat),.int (f j)])) js ys:=ZfP (L:=js) (d:=0) h;refine UJ (by rw[List.length_map];exact Paired.length h1) fun i x y e1 e2=>?_;rw[List.getElem?_map] at e1;cases e:js[i]? with
 |none=>rw[e] at e1;cases e1
 |some j=>
  rw[e] at e1;cases e1;obtain⟨y',e3,h3⟩:=Paired.get h1 e;rw[e2] at e3;cases e3;exact h3
theorem Zdi{ls:List B5}{w:Int}{n:Nat}(h:n=ls.length):∀x∈Ym ls w,0≤x.1∧x.1<n:=by
 intro x hx;obtain⟨i,hi,rfl⟩:=List.mem_map.mp hx;have:=ZbT hi;show 0≤(i:Int)∧(i:Int)<n;omega
theorem ZcK{ls:List B5}{w:Int}:(Ym ls w).length≤ls.length:=by unfold Ym;rw[List.length_map];exact ZdI
theorem Zeo{f:Nat→Int}{hs:List Int}{is:List Nat}{i:Nat}(h:i<is.length):bump f hs (is.take (i+1))=(bump f hs (is.take i)).set is[i] ((bump f hs (is.take i)).getD is[i] 0+f is[i]):=by
 unfold bump;rw[List.take_succ_eq_append_getElem h,List.foldl_append]
 rfl
theorem Zir{js:List Nat}{f:Nat→Int}{H:Hp}{vs:List V}{i:Nat}(h:Vv H (js.map fun i:Nat=>((i:Int),f i)) vs)(hi:i<js.length):∃t,vs.getD i .non= .ref t∧H t=some (.tup [.int (js[i]:Nat),.int (f js[i])]):=by
 obtain⟨v,hv,t,rfl,ht⟩:=Paired.get h (i:=i) (x:=((js[i]:Int),f js[i])) (by rw[List.getElem?_map,List.getElem?_eq_getElem hi];rfl);exact⟨t,by simp[List.getD,hv],ht⟩
noncomputable def fB (b:B5) (s:Int):Fire.Belt:=⟨b.giver.toNat,b.taker.toNat,b.give,b.take,s⟩
noncomputable def fBs (ls:List B5) (st:List Int):List Fire.Belt:=(ls.zip st).map fun x=>fB x.1 x.2
noncomputable def Wr (ls:List B5) (st:List Int) (d:Nat→Nat):List Int:=(fBs ls st).map fun b=>Fire.lie b d
noncomputable def ZO (rs:List Int) (v:Nat):Nat:=(rs.getD v 0).toNat
noncomputable def YW (ls:List B5) (st rs:List Int) (d:Nat→Nat) (v:Nat):Bool:=decide (d v<ZO rs v)&&YX ls (Wr ls st d) v
noncomputable def WI (ls:List B5) (st rs:List Int) (d:Nat→Nat):List Bool:=(List.range rs.length).map fun v=>YW ls st rs d v
noncomputable def ZV (rs:List Int) (d:Nat→Nat):List Int:=(List.range rs.length).map fun v=>(ZO rs v:Int)-(d v:Int)
noncomputable abbrev Wv (ls:List B5) (st rs:List Int):(Nat→Nat)→Nat→Prop:=Fire.May (fBs ls st) rs.length (ZO rs)
def YZ(ls:List B5)(st rs:List Int)(d:Nat→Nat)(w:Nat):Prop:=Wv ls st rs d w∧∀v<w,¬Wv ls st rs d v
theorem Yd{ls:List B5}{st:List Int}{d:Nat→Nat}(h:st.length=ls.length):(Wr ls st d).length=ls.length:=by simp[Wr,fBs,h]
theorem WS{ls:List B5}{st:List Int}{d:Nat→Nat}{j:Nat}(h:st.length=ls.length)(hj:j<ls.length):(Wr ls st d)[j]'(by rw[Yd h];exact hj)=Fire.lie (fB ls[j] (st[j]'(by omega))) d:=by simp[Wr,fBs]
theorem Zcp{ls:List B5}{st:List Int}(h:st.length=ls.length){b:Fire.Belt}(hb:b∈fBs ls st):∃(j:Nat)(hj:j<ls.length),b=fB ls[j] (st[j]'(by omega)):=by
 obtain⟨j,hj,rfl⟩:=List.mem_iff_getElem.mp hb;have hj':j<ls.length:=by simp[fBs,h] at hj;exact hj
 exact⟨j,hj',by simp[fBs]⟩
theorem ZgD{ls:List B5}{st:List Int}(h:st.length=ls.length){j:Nat}(hj:j<ls.length):fB ls[j] (st[j]'(by omega))∈fBs ls st:=
 List.mem_map.mpr ⟨(ls[j],st[j]'(by omega)),List.mem_iff_getElem.mpr ⟨j,by simp[h,hj],by simp⟩,rfl⟩
theorem VJ{ls:List B5}{hs:List Int}{w:Int}(h:hs.length=ls.length):YX ls hs w=true↔∀(j:Nat)(hj:j<ls.length),ls[j].taker=w→ls[j].take≤hs[j]'(by omega):=by
 unfold YX;rw[List.all_eq_true]
 constructor
 ·intro q j hj e;have:=q (ls[j],hs[j]'(by omega)) (List.mem_iff_getElem.mpr ⟨j,by simp[h,hj],by simp⟩);simpa[e] using this
 ·intro q x hx;obtain⟨j,hj,rfl⟩:=List.mem_iff_getElem.mp hx;have hj':j<ls.length:=by simp[h] at hj;exact hj
  by_cases e:ls[j].taker=w
  ·have:=q j hj' e;simp[e,this]
  ·simp[e]
section
variable {ls:List B5}{st rs:List Int}{d:Nat→Nat}{n:Nat}
theorem Zan(h:st.length=ls.length)(hb:ZM ls n){v:Nat}(hv:v<rs.length):YW ls st rs d v=true↔Wv ls st rs d v:=by
 unfold YW;rw[Bool.and_eq_true,decide_eq_true_eq,VJ (Yd h)]
 constructor
 ·rintro⟨h1,h2⟩;refine⟨hv,h1,fun b hm ht=>?_⟩;obtain⟨j,hj,rfl⟩:=Zcp h hm;have:=h2 j hj (by have:=hb ls[j] (List.getElem_mem hj);have ht':ls[j].taker.toNat=v:=ht;omega);rw[WS h hj] at this;exact this
 ·rintro⟨_,h1,h2⟩;refine⟨h1,fun j hj e=>?_⟩;rw[WS h hj];exact h2 _ (ZgD h hj) (by show ls[j].taker.toNat=v;omega)
theorem Zde(h:st.length=ls.length)(hb:ZM ls n){v:Nat}(hv:v<rs.length):YW ls st rs d v=false↔¬Wv ls st rs d v:=by
 rw[←Zan h hb hv];simp
theorem Ze1{v:Nat}(hv:v<rs.length):(WI ls st rs d)[v]? =some (YW ls st rs d v):=by simp[WI,hv]
theorem ZiV:(WI ls st rs d).length=rs.length:=by simp[WI]
theorem VH:(ZV rs d).length=rs.length:=by simp[ZV]
theorem Zc5{v:Nat}(hv:v<rs.length):(ZV rs d).getD v 0=(ZO rs v:Int)-(d v:Int):=by simp[ZV,List.getD,hv]
theorem ZjK(h:st.length=ls.length)(hb:ZM ls n)(q:true∉WI ls st rs d):∀w,¬Wv ls st rs d w:=fun w r=>q (by
 have:=(Zan h hb r.1).mpr r;rw[←this];exact List.mem_map.mpr ⟨w,by simpa using r.1,rfl⟩)
theorem Ze9{b:Fire.Belt}{w:Nat}:Fire.lie b (Fire.bump d w)=Fire.lie b d-(if b.taker=w then b.take else 0)+(if b.giver=w then b.give else 0):=by
 unfold Fire.lie
 by_cases e1:b.giver=w<;>by_cases e2:b.taker=w<;>simp only[e1,e2,if_true,if_false,Fire.VO,Fire.VP,ne_eq,not_false_eq_true,Int.natCast_add,Int.mul_add,Int.natCast_one,Int.mul_one]<;>omega
theorem Zew(h:st.length=ls.length)(hb:ZM ls n)(w:Nat):Y7 ls (Wr ls st d) w=Wr ls st (Fire.bump d w):=by
 refine List.ext_getElem (by rw[Za8 (Yd h),Yd h,Yd h]) fun j h1 h2=>?_;have hj:j<ls.length:=by rw[Yd h] at h2;exact h2
 rw[ZbX hj (by rw[Yd h];exact hj) h1,WS h hj,WS h hj,Ze9];have hbj:=hb ls[j] (List.getElem_mem hj);have e1:(ls[j].taker=(w:Int))↔((fB ls[j] (st[j]'(by omega))).taker=w):=by show _↔ls[j].taker.toNat=w;omega
 have e2:(ls[j].giver=(w:Int))↔((fB ls[j] (st[j]'(by omega))).giver=w):=by show _↔ls[j].giver.toNat=w;omega
 simp only[e1,e2]
 rfl
def Za0(ls:List B5)(w:Int)(ms:List Int):Prop:=ms.Pairwise (· < ·)∧∀x,x∈ms↔x=w∨∃i∈ZL ls w,(ls.getD i dB).taker=x
theorem Zia(h:st.length=ls.length)(hb:ZM ls n){w v:Nat}{ms:List Int}(ht:Za0 ls w ms)(hv:(v:Int)∉ms):YW ls st rs (Fire.bump d w) v=YW ls st rs d v:=by
 have hv':=mt (ht.2 v).mpr hv;have nv:v≠w:=fun e=>hv' (.inl (by rw[e]));unfold YW;rw[Fire.VP d nv]
 congr 1
 rw[Bool.eq_iff_iff,VJ (Yd h),VJ (Yd h)];have key:∀(j:Nat)(hj:j<ls.length),ls[j].taker=(v:Int)→(Wr ls st (Fire.bump d w))[j]'(by rw[Yd h];exact hj)=(Wr ls st d)[j]'(by rw[Yd h];exact hj):=fun j hj e=>by
  have hbj:=hb ls[j] (List.getElem_mem hj);rw[WS h hj,WS h hj,Ze9,if_neg (by show ¬ls[j].taker.toNat=w;omega),if_neg ?_]
  ·omega
  ·intro z;have z':ls[j].giver.toNat=w:=z;refine hv' (.inr ⟨j,?_,?_⟩)
   ·unfold ZL;rw[List.mem_filter];exact⟨by simpa using hj,by simp[List.getD,hj];omega⟩
   ·simp[List.getD,hj,e]
 constructor
 ·intro q j hj e;rw[←key j hj e];exact q j hj e
 ·intro q j hj e;rw[key j hj e];exact q j hj e
end
noncomputable def ZD (ls:List B5):List Int:=ls.map B5.start
def TL(H:Hp)(ls:List B5)(n:Nat)(ic:List Addr):Prop:=ic.length=n∧∀v<n,∃ms:List Int,H (ic.getD v 0)=some (.lst (ms.map V.int))∧Za0 ls v ms
noncomputable def Zb0 (ls:List B5) (n:Nat):List (List (Int×Int)):=(List.range n).map fun w:Nat=>Ym ls w
noncomputable def Ziy (ls:List B5) (n:Nat):List (List (Int×Int)):=(List.range n).map fun w:Nat=>U9 ls w
def Wq{K:PySem.W.Frag}{mg:Str→Option Value}(T:Tp K mg)(H:Hp)(p:Addr)(ls:List B5)(rs:List Int):Prop:=
 ∃(dx a b c d e:Addr)(ia ib ic:List Addr)(bs:List V),H p=some (.ins T.C_Course dx [("turns",.ref a),("rows",.ref b),("takes",.ref c),("gives",.ref d),("touched",.ref e)])∧H a=some (.lst (rs.map V.int))∧H b=some (.lst bs)∧Z8 H bs ls∧
  H c=some (.lst (ia.map V.ref))∧LL H (Zb0 ls rs.length) ia∧H d=some (.lst (ib.map V.ref))∧LL H (Ziy ls rs.length) ib∧H e=some (.lst (ic.map V.ref))∧TL H ls rs.length ic
theorem Wq.same{K:PySem.W.Frag}{mg:Str→Option Value}{T:Tp K mg}{H H':Hp}{p:Addr}{ls:List B5}{rs:List Int}(h:Wq T H p ls rs)(s:Zd H H'):Wq T H' p ls rs:=by
 obtain⟨dx,a,b,c,d,e,ia,ib,ic,bs,h1,h3,h4,h5,h6,h7,h8,h9,h10,h11,h12⟩:=h;have kk:∀{gs:List (List (Int×Int))}{is:List Addr},LL H gs is→LL H' gs is:=fun{gs is} l=>l.keep (fun b xs z=>s _ _ z) fun x hx=>by
  cases q:H x with
  |none=>exact absurd q (l.dom x hx)
  |some o=>exact s _ _ q
 exact⟨dx,a,b,c,d,e,ia,ib,ic,bs,s _ _ h1,s _ _ h3,s _ _ h4,h5.keep fun b xs z=>s _ _ z,s _ _ h6,kk h7,s _ _ h8,kk h9,s _ _ h10,h11,fun v hv=>(let⟨ms,x,y⟩:=h12 v hv;⟨ms,s _ _ x,y⟩)⟩
theorem Zgh{K:PySem.W.Frag}{mg:Str→Option Value}{T:Tp K mg}{H:Hp}{p:Addr}{ls:List B5}{rs:List Int}{m:Str}{G:Prop}(h:Wq T H p ls rs)(m1:(m== "turns")=false)(m2:(m== "rows")=false)(m3:(m== "takes")=false)(m4:(m== "gives")=false)(m5:(m== "touched")=false)(q:G):∃a dx fs,V.ref p= .ref a∧H a=some (.ins T.C_Course dx fs)∧fs.lookup m=none∧G:=by
 obtain⟨dx,a,b,c,d,e,ia,ib,ic,bs,h1,_⟩:=h;exact⟨p,dx,_,rfl,h1,Rd.lk1 m1 (Rd.lk1 m2 (Rd.lk1 m3 (Rd.lk1 m4 (Rd.lk1 m5 Rd.lkN)))),q⟩
theorem Zd2{n:Nat}{P:Nat→Addr→Prop}{ys:List V}(h:Paired (fun(i:Nat) v=>∃x,v=V.ref x∧P i x) (List.range n) ys):∃ia:List Addr,ys=ia.map V.ref∧ia.length=n∧∀i<n,P i (ia.getD i 0):=by
 have hl:n=ys.length:=by have:=Paired.length h;simpa using this
 have hx:∀i:Nat,i<n→∃x,ys[i]? =some (V.ref x)∧P i x:=fun i hi=>by
  obtain⟨y,h1,x,rfl,hx⟩:=Paired.get h (i:=i) (x:=i) (by simp[hi]);exact⟨x,h1,hx⟩
 refine⟨(List.range n).map fun i=>if hi:i<n then(hx i hi).choose else 0,List.ext_getElem? fun i=>?_,by simp,fun i hi=>?_⟩
 ·by_cases hi:i<n
  ·rw[(hx i hi).choose_spec.1];simp[hi]
  ·rw[List.getElem?_eq_none (by omega),List.getElem?_eq_none (by simp;omega)]
 ·have:=(hx i hi).choose_spec.2;simpa[List.getD,hi] using this
noncomputable def W6 (f:Nat→Nat) (n:Nat):Nat:=((List.range n).map f).sum
theorem Y6(f:Nat→Nat)(n:Nat):W6 f (n+1)=W6 f n+f n:=by simp[W6,List.range_succ]
theorem Zem(c:Nat→Nat){w:Nat}:∀{n:Nat},w<n→W6 (Fire.bump c w) n=W6 c n+1
 |0,h=>absurd h (Nat.not_lt_zero _)
 |n+1,h=>by
  rw[Y6,Y6];rcases Nat.lt_or_ge w n with z|z
  ·rw[Zem c z,Fire.VP c (by omega)];omega
  ·obtain rfl:w=n:=by omega
   have:∀k,k≤w→W6 (Fire.bump c w) k=W6 c k:=by
    intro k
    induction k with
    |zero=>intro _;rfl
    |succ k ih=>intro hk;rw[Y6,Y6,ih (by omega),Fire.VP c (by omega)]
   rw[this w (Nat.le_refl _),Fire.VO];omega
theorem Uh{f g:Nat→Nat}:∀{n:Nat},(∀v<n,f v≤g v)→W6 f n≤W6 g n
 |0,_=>Nat.le_refl _
 |n+1,h=>by
  rw[Y6,Y6];exact Nat.add_le_add (Uh fun v hv=>h v (by omega)) (h n (by omega))
theorem ZgC{f g:Nat→Nat}:∀{n:Nat},(∀v<n,f v≤g v)→W6 f n=W6 g n→∀v<n,f v=g v
 |0,_,_=>fun v hv=>absurd hv (Nat.not_lt_zero _)
 |n+1,h,e=>by
  rw[Y6,Y6] at e;have h1:=Uh (n:=n) fun v hv=>h v (by omega);have h2:=h n (by omega);intro v hv;rcases Nat.lt_or_ge v n with z|z
  ·exact ZgC (fun v hv=>h v (by omega)) (by omega) v z
  ·obtain rfl:v=n:=by omega
   omega
noncomputable def tot (rs:List Int):Nat:=W6 (ZO rs) rs.length
theorem Zcg{rs:List Int}(h:∀r∈rs,0≤r):(tot rs:Int)=rs.sum:=by
 unfold tot;have:∀k,k≤rs.length→(W6 (ZO rs) k:Int)=(rs.take k).sum:=by
  intro k
  induction k with
  |zero=>intro _;rfl
  |succ k ih=>
   intro hk;have hk':k<rs.length:=by omega
   rw[Y6,List.take_succ_eq_append_getElem hk',List.sum_append,Int.natCast_add,ih (by omega)];have:=h rs[k] (List.getElem_mem hk');have e:ZO rs k=rs[k].toNat:=by simp[ZO,List.getD,hk']
   rw[e];simp;omega
 rw[this rs.length (Nat.le_refl _),List.take_length]
section
variable {ls:List B5}{st rs:List Int}{d:Nat→Nat}{ws:List Nat}
theorem W0{c:Nat→Nat}(h:Fire.Ye (YZ ls st rs) c ws d):Fire.Ye (Wv ls st rs) c ws d:=by
 induction h with
 |nil c=>exact .nil c
 |cons r _ ih=>exact .cons r.1 ih
theorem ZkT{c:Nat→Nat}(h:Fire.Ye (Wv ls st rs) c ws d)(h0:∀v<rs.length,c v≤ZO rs v):(∀v<rs.length,d v≤ZO rs v)∧W6 d rs.length=W6 c rs.length+ws.length:=by
 induction h with
 |nil c=>exact⟨h0,rfl⟩
 | @cons c d w ws r _ ih=>
  obtain⟨a,b⟩:=ih fun v hv=>by
   by_cases e:v=w
   ·subst e;rw[Fire.VO];exact r.2.1
   ·rw[Fire.VP c e];exact h0 v hv
  refine⟨a,?_⟩;rw[b,Zem c r.1,List.length_cons];omega
theorem Ze0:∀n,W6 (fun _=>0) n=0
 |0=>rfl
 |n+1=>by rw[Y6,Ze0 n]
theorem Zbp(h:Fire.Ye (Wv ls st rs) (fun _=>0) ws d):(∀v<rs.length,d v≤ZO rs v)∧ws.length=W6 d rs.length∧ws.length≤tot rs:=by
 obtain⟨a,b⟩:=ZkT h fun _ _=>Nat.zero_le _;rw[Ze0,Nat.zero_add] at b;exact⟨a,b.symm,by rw[←b];exact Uh a⟩
theorem Zkj(h:Fire.Ye (Wv ls st rs) (fun _=>0) ws d){w:Nat}(r:Wv ls st rs d w):ws.length<tot rs:=by
 have:=(Zbp (h.snoc r)).2.2;rw[List.length_append,List.length_singleton] at this;omega
end
theorem ZiT:∀ys:List Bool,inV (.bl true) (ys.map V.bl)=decide (true∈ys)
 | []=>rfl
 |y::ys=>by
  have e:inV (.bl true) ((y::ys).map V.bl)=(eqV (.bl y) (.bl true)||inV (.bl true) (ys.map V.bl)):=rfl;rw[e,ZiT ys];cases y<;>simp[eqV]
theorem Zjj(ys:List Bool):(ys.map V.bl).all Uv=true:=by
 rw[List.all_map,List.all_eq_true];intro _ _
 rfl
theorem Zdh:∀{bs:List Bool},true∈bs→∃j:Nat,bs[j]? =some true∧∀m<j,bs[m]? =some false
 |true::bs,_=>⟨0,rfl,fun m h=>absurd h (Nat.not_lt_zero m)⟩
 |false::bs,h=>by
  obtain⟨j,h1,h2⟩:=Zdh (bs:=bs) (by simpa using h);exact⟨j+1,by simpa using h1,fun m hm=>by
   cases m with
   |zero=>rfl
   |succ m=>simpa using h2 m (by omega)⟩
theorem Zdt{rs:List Int}{d:Nat→Nat}{w:Nat}(hw:w<rs.length):(ZV rs d).set w ((ZV rs d).getD w 0-1)=ZV rs (Fire.bump d w):=by
 refine List.ext_getElem (by simp[ZV]) fun v h1 h2=>?_;have hv:v<rs.length:=by simpa[ZV] using h2
 have e0:=Zc5 (d:=d) hw;generalize (ZV rs d).getD w 0=y at*;subst e0;rw[List.getElem_set]
 by_cases e:w=v
 ·subst e;simp[ZV,Fire.VO];omega
 ·rw[if_neg e];simp[ZV,Fire.VP d (Ne.symm e)]
noncomputable def Vd (ls:List B5) (st rs:List Int) (d d':Nat→Nat) (ms:List Int):List Bool:=(List.range rs.length).map fun v:Nat=>if(v:Int)∈ms then YW ls st rs d' v else YW ls st rs d v
theorem Zjh{ls:List B5}{st rs:List Int}{d d':Nat→Nat}:Vd ls st rs d d' []=WI ls st rs d:=by simp[Vd,WI]
theorem ZjS{ls:List B5}{st rs:List Int}{d:Nat→Nat}{n w:Nat}{ms:List Int}(h:st.length=ls.length)(hb:ZM ls n)(ht:Za0 ls w ms):Vd ls st rs d (Fire.bump d w) ms=WI ls st rs (Fire.bump d w):=by
 unfold Vd WI;refine List.map_congr_left fun v _=>?_
 split
 ·rfl
 ·rename_i z;exact(Zia h hb ht z).symm
theorem Zel{ls:List B5}{st rs:List Int}{d d':Nat→Nat}{ms:List Int}{v:Nat}:(Vd ls st rs d d' ms).set v (YW ls st rs d' v)=Vd ls st rs d d' (ms++ [(v:Int)]):=by
 refine List.ext_getElem (by simp[Vd]) fun i h1 h2=>?_;have hi:i<rs.length:=by simpa[Vd] using h2
 rw[List.getElem_set]
 by_cases e:v=i
 ·subst e;simp[Vd]
 ·rw[if_neg e];have:¬((i:Int)=(v:Int)):=fun z=>e (by omega);simp[Vd,this,Ne.symm e]
def Yl(ls:List B5)(rs st cs:List Int)(j:Nat):Prop:=cs.getD (ls.getD j dB).taker.toNat 0<rs.getD (ls.getD j dB).taker.toNat 0∧st.getD j 0+(ls.getD j dB).give*cs.getD (ls.getD j dB).giver.toNat 0-(ls.getD j dB).take*cs.getD (ls.getD j dB).taker.toNat 0<(ls.getD j dB).take
structure Uc(ls:List B5)(rs st cs:List Int)(n:Nat)(kvs:List (Key×V)):Prop where
 val:∀i y,valV kvs (Sum.inl i)=some y→∃j<n,y= .int j∧(ls.getD j dB).taker=i∧Yl ls rs st cs j
 all:∀j<n,Yl ls rs st cs j→∃y,valV kvs (Sum.inl (ls.getD j dB).taker)=some y
 keys:∃ks:List Int,kvs.map (·.1)=ks.map Sum.inl∧∀i∈ks,∃y,valV kvs (Sum.inl i)=some y
 len:kvs.length≤n
theorem Uc.nil{ls:List B5}{rs st cs:List Int}:Uc ls rs st cs 0 []:=⟨fun _ _ h=>by simp[Zc9] at h,fun _ h=>absurd h (Nat.not_lt_zero _),⟨[],rfl,by simp⟩,Nat.le_refl _⟩
theorem Uc.skip{ls:List B5}{rs st cs:List Int}{n:Nat}{kvs:List (Key×V)}(h:Uc ls rs st cs n kvs)(hn:Yl ls rs st cs n→∃y,valV kvs (Sum.inl (ls.getD n dB).taker)=some y):Uc ls rs st cs (n+1) kvs:=
 ⟨fun i y e=>(let⟨j,hj,r⟩:=h.val i y e;⟨j,by omega,r⟩),fun j hj s=>by
  rcases Nat.lt_or_ge j n with z|z
  ·exact h.all j z s
  ·obtain rfl:j=n:=by omega
   exact hn s,h.keys,Nat.le_succ_of_le h.len⟩
theorem Uc.add{ls:List B5}{rs st cs:List Int}{n:Nat}{kvs:List (Key×V)}(h:Uc ls rs st cs n kvs)(hs:Yl ls rs st cs n)(hn:valV kvs (Sum.inl (ls.getD n dB).taker)=none):Uc ls rs st cs (n+1) (Z9 kvs (Sum.inl (ls.getD n dB).taker) (.int n)):=by
 refine⟨fun i y e=>?_,fun j hj s=>?_,?_,?_⟩
 ·rw[Ui] at e
  split at e
  ·rename_i q;cases e;exact⟨n,Nat.lt_succ_self _,rfl,(Sum.inl.inj q).symm,hs⟩
  ·obtain⟨j,hj,r⟩:=h.val i y e;exact⟨j,by omega,r⟩
 ·rw[Ui]
  split
  ·exact⟨_,rfl⟩
  ·rename_i q;rcases Nat.lt_or_ge j n with z|z
   ·exact h.all j z s
   ·exact absurd (by rw[show j=n by omega]) q
 ·obtain⟨ks,e,r⟩:=h.keys;refine⟨ks++ [(ls.getD n dB).taker],by rw[VA _ hn,List.map_append,e];simp,fun i hi=>?_⟩;rw[Ui]
  split
  ·exact⟨_,rfl⟩
  ·rename_i q;rcases List.mem_append.mp hi with z|z
   ·exact r i z
   ·exact absurd (by rw[List.mem_singleton.mp z]) q
 ·rw[VA _ hn,List.length_append,List.length_singleton];have:=h.len;omega
noncomputable def Yj (ls:List B5) (j:Nat):Int:=(ls.getD j dB).taker
noncomputable def UE (ls:List B5) (j:Nat):Int:=(ls.getD j dB).giver
structure Zbm(ls:List B5)(rs st cs:List Int)(ring:List Nat):Prop where
 ne:ring≠[]
 inn:∀j∈ring,j<ls.length∧Yl ls rs st cs j
 nd:(ring.map (Yj ls)).Nodup
 link:∀i<ring.length,UE ls (ring.getD i 0)=Yj ls (ring.getD ((i+1) % ring.length) 0)
structure V0(ls:List B5)(rs st cs:List Int)(ys:List Nat)(w:Int)(pl:List (Key×V)):Prop where
 inn:∀j∈ys,j<ls.length∧Yl ls rs st cs j
 nd:(ys.map (Yj ls)).Nodup
 link:∀i<ys.length,UE ls (ys.getD i 0)=(ys.map (Yj ls)++ [w]).getD (i+1) 0
 at_:∀i<ys.length,valV pl (Sum.inl (Yj ls (ys.getD i 0)))=some (.int i)
 no:∀a,a∉ys.map (Yj ls)→valV pl (Sum.inl a)=none
 len:pl.length≤ys.length
section
variable {ls:List B5}{rs st cs:List Int}{ys:List Nat}{w:Int}{pl:List (Key×V)}
theorem V0.nil(w:Int):V0 ls rs st cs [] w []:=⟨by simp,by simp,fun i h=>absurd h (Nat.not_lt_zero _),fun i h=>absurd h (Nat.not_lt_zero _),fun a _=>Zc9,Nat.le_refl _⟩
theorem V0.short{n:Nat}(h:V0 ls rs st cs ys w pl)(hb:ZM ls n):ys.length≤n:=by
 have:=Fo.Ub (n:=n) h.nd (fun a ha=>by
  obtain⟨j,hj,rfl⟩:=List.mem_map.mp ha;have hjl:=(h.inn j hj).1;have:=hb ls[j] (List.getElem_mem hjl);unfold Yj;rw[Zx hjl];omega)
 simpa using this
theorem V0.step(h:V0 ls rs st cs ys w pl)(hw:valV pl (Sum.inl w)=none){j:Nat}(hj:j<ls.length)(hs:Yl ls rs st cs j)(ht:Yj ls j=w):V0 ls rs st cs (ys++ [j]) (UE ls j) (Z9 pl (Sum.inl w) (.int ys.length)):=by
 have nw:w∉ys.map (Yj ls):=fun z=>by
  obtain⟨i,hi,e⟩:=List.getElem_of_mem z;have hi':i<ys.length:=by simpa using hi
  have:=h.at_ i hi';rw[Zx hi'] at this;rw[List.getElem_map] at e;rw[e,hw] at this;cases this
 refine⟨fun i hi=>?_,?_,fun i hi=>?_,fun i hi=>?_,fun a ha=>?_,?_⟩
 ·rcases List.mem_append.mp hi with z|z
  ·exact h.inn i z
  ·rw[List.mem_singleton.mp z];exact⟨hj,hs⟩
 ·rw[List.map_append];refine List.nodup_append.mpr ⟨h.nd,by simp,fun a ha b hb e=>?_⟩;obtain rfl:b=Yj ls j:=by simpa using hb
  rw[ht] at e;exact nw (e▸ha)
 ·rw[List.length_append,List.length_singleton] at hi;rcases Nat.lt_or_ge i ys.length with z|z
  ·have e1:(ys++ [j]).getD i 0=ys.getD i 0:=by simp[List.getD,List.getElem?_append_left z]
   rw[e1,h.link i z,List.map_append,List.map_singleton,ht];have hl:(ys.map (Yj ls)++ [w]).length=ys.length+1:=by simp
   simp only[List.getD];rw[List.getElem?_append_left (l₁:=ys.map (Yj ls)++ [w]) (by rw[hl];omega)]
  ·obtain rfl:i=ys.length:=by omega
   have e1:(ys++ [j]).getD ys.length 0=j:=by simp[List.getD]
   rw[e1];have hl:(((ys++ [j]).map (Yj ls)).length)=ys.length+1:=by simp
   simp only[List.getD];rw[List.getElem?_append_right (by rw[hl];exact Nat.le_refl _),hl,Nat.sub_self]
   rfl
 ·rw[List.length_append,List.length_singleton] at hi;rw[Ui];rcases Nat.lt_or_ge i ys.length with z|z
  ·have e1:(ys++ [j]).getD i 0=ys.getD i 0:=by simp[List.getD,List.getElem?_append_left z]
   rw[e1,if_neg (fun e=>nw (by rw[←Sum.inl.inj e,Zx z];exact List.mem_map.mpr ⟨_,List.getElem_mem z,rfl⟩))];exact h.at_ i z
  ·obtain rfl:i=ys.length:=by omega
   have e1:(ys++ [j]).getD ys.length 0=j:=by simp[List.getD]
   rw[e1,ht,if_pos rfl]
 ·rw[List.map_append,List.mem_append,List.map_singleton,List.mem_singleton,ht] at ha;rw[Ui,if_neg (fun e=>ha (.inr (Sum.inl.inj e)))];exact h.no a fun z=>ha (.inl z)
 ·rw[VA _ hw,List.length_append,List.length_append,List.length_singleton,List.length_singleton];have:=h.len;omega
theorem V0.ring(h:V0 ls rs st cs ys w pl){y:V}(hw:valV pl (Sum.inl w)=some y):∃m:Nat,y= .int m∧m<ys.length∧Zbm ls rs st cs (ys.drop m):=by
 have hm:w∈ys.map (Yj ls):=by
  by_cases z:w∈ys.map (Yj ls)
  ·exact z
  ·rw[h.no w z] at hw;cases hw
 obtain⟨m,hm',e⟩:=List.getElem_of_mem hm;have hml:m<ys.length:=by simpa using hm'
 have e1:=h.at_ m hml;have e2:Yj ls (ys.getD m 0)=w:=by rw[Zx hml];simpa using e
 rw[e2,hw] at e1;cases e1;refine⟨m,rfl,hml,fun z=>?_,fun j hj=>h.inn j (List.mem_of_mem_drop hj),?_,fun i hi=>?_⟩
 ·have:=congrArg List.length z;simp at this;omega
 ·rw[List.map_drop];exact h.nd.sublist (List.drop_sublist _ _)
 ·rw[List.length_drop] at hi;have g1:(ys.drop m).getD i 0=ys.getD (m+i) 0:=by simp[List.getD]
  rw[g1,h.link (m+i) (by omega),List.length_drop];rcases Nat.lt_or_ge (m+i+1) ys.length with z|z
  ·rw[Nat.mod_eq_of_lt (by omega)];have g2:(ys.drop m).getD (i+1) 0=ys.getD (m+i+1) 0:=by simp[List.getD,Nat.add_assoc]
   rw[g2,Zx z];simp only[List.getD];rw[List.getElem?_append_left (by simpa using z)];simp[z]
  ·have ei:i+1=ys.length-m:=by omega
   rw[ei,Nat.mod_self];have g2:(ys.drop m).getD 0 0=ys.getD m 0:=by simp[List.getD]
   have ei2:m+i+1=ys.length:=by omega
   rw[g2,e2,ei2];simp[List.getD]
end
theorem ZjW{xs:List V}{k:Nat}(h:k≤xs.length):Uf xs (some (k:Int)) none=xs.drop k:=by
 have e1:HT.sIx xs.length 0 (some (k:Int))=k:=by
  simp only[HT.sIx];rw[if_neg (by omega)];simp;omega
 have e2:HT.sIx xs.length xs.length none=xs.length:=by simp[HT.sIx]
 unfold Uf;rw[e1,e2,List.take_of_length_le (by rw[List.length_drop];exact Nat.le_refl _)]
noncomputable def W3 (n:Nat) (d:Nat→Nat):List Int:=(List.range n).map fun v=>((d v:Nat):Int)
theorem Zjl{n:Nat}{d:Nat→Nat}:(W3 n d).length=n:=by simp[W3]
theorem ZgB{n v:Nat}{d:Nat→Nat}(h:v<n):(W3 n d).getD v 0=(d v:Int):=by simp[W3,List.getD,h]
def Zfz(ls:List B5)(rs:List Int):Prop:=∀b∈ls,b.give*rs.getD b.giver.toNat 0=b.take*rs.getD b.taker.toNat 0
section
variable {ls:List B5}{rs st:List Int}{d:Nat→Nat}
theorem W9(hpos:∀r∈rs,1≤r){v:Nat}(hv:v<rs.length):(ZO rs v:Int)=rs.getD v 0:=by
 have:=hpos rs[v] (List.getElem_mem hv);unfold ZO;rw[Zx hv];omega
theorem ZeH(hsl:st.length=ls.length)(hbt:ZM ls rs.length)(hpos:∀r∈rs,1≤r){j:Nat}(hj:j<ls.length):Yl ls rs st (W3 rs.length d) j↔d ls[j].taker.toNat<ZO rs ls[j].taker.toNat∧Fire.lie (fB ls[j] (st[j]'(by omega))) d<ls[j].take:=by
 have hb:=hbt ls[j] (List.getElem_mem hj);have r1:=W9 hpos (v:=ls[j].taker.toNat) (by omega);have c1:=ZgB (d:=d) (n:=rs.length) (v:=ls[j].taker.toNat) (by omega);have c2:=ZgB (d:=d) (n:=rs.length) (v:=ls[j].giver.toNat) (by omega);have es:st.getD j 0=st[j]'(by omega):=Zx (by omega);unfold Yl Fire.lie fB;rw[Zx hj,c1,c2,←r1,es]
 constructor
 ·rintro⟨a,b⟩;exact⟨by omega,b⟩
 ·rintro⟨a,b⟩;exact⟨by omega,b⟩
theorem ZcD(hsl:st.length=ls.length)(hbt:ZM ls rs.length)(hpos:∀r∈rs,1≤r)(hst:∀w,¬Wv ls st rs d w){v:Nat}(hv:v<rs.length)(hd:d v<ZO rs v):∃i<ls.length,Yj ls i=(v:Int)∧Yl ls rs st (W3 rs.length d) i:=by
 have h1:=mt (Zan (d:=d) hsl hbt hv).mp (hst v);unfold YW at h1;rw[decide_eq_true hd,Bool.true_and,VJ (Yd hsl)] at h1
 by_cases z:∃i<ls.length,Yj ls i=(v:Int)∧Yl ls rs st (W3 rs.length d) i
 ·exact z
 ·refine absurd (fun j hj e=>?_) h1;rw[WS hsl hj];have ns:¬Yl ls rs st (W3 rs.length d) j:=fun y=>z ⟨j,hj,by unfold Yj;rw[Zx hj];exact e,y⟩;rw[ZeH hsl hbt hpos hj] at ns;have hb:=hbt ls[j] (List.getElem_mem hj);have et:ls[j].taker.toNat=v:=by omega
  rw[et] at ns;have:=fun y=>ns ⟨hd,y⟩;omega
theorem ZhR(hsl:st.length=ls.length)(hbt:ZM ls rs.length)(hpos:∀r∈rs,1≤r)(hst:∀w,¬Wv ls st rs d w)(hbal:Zfz ls rs)(hle:∀v<rs.length,d v≤ZO rs v)(hs0:∀x∈st,0≤x)(hsz:Wa ls){j:Nat}(hj:j<ls.length)(h:Yl ls rs st (W3 rs.length d) j):
  ∃i<ls.length,Yj ls i=UE ls j∧Yl ls rs st (W3 rs.length d) i:=by
 obtain⟨h1,h2⟩:=(ZeH hsl hbt hpos hj).mp h;have hb:=hbt ls[j] (List.getElem_mem hj);have bal:Fire.Bal (fBs ls st) (ZO rs):=fun b hm=>by
  obtain⟨i,hi,rfl⟩:=Zcp hsl hm;have hbi:=hbt ls[i] (List.getElem_mem hi);show ls[i].give*(ZO rs ls[i].giver.toNat:Int)=ls[i].take*(ZO rs ls[i].taker.toNat:Int);rw[W9 hpos (by omega),W9 hpos (by omega)];exact hbal _ (List.getElem_mem hi)
 obtain⟨gv,tk,g0,t0,_,_,_,et⟩:=hsz j hj;rw[Zx hj] at et;have hg:=Fire.Zgd (ZgD hsl hj) bal (hs0 _ (List.getElem_mem _)) (by show 0≤ls[j].take;omega) (hle _ (show ls[j].giver.toNat<rs.length by omega)) h1 h2;obtain⟨i,hi,e,hs⟩:=ZcD hsl hbt hpos hst (v:=ls[j].giver.toNat) (by omega) hg;exact⟨i,hi,by rw[e];unfold UE;rw[Zx hj];omega,hs⟩
end
structure Rts(ls:List B5)(n:Nat)(z:Int→Nat)(rs:List Int):Prop where
 len:rs.length=n
 pos:∀r∈rs,1≤r
 bal:Zfz ls rs
 wood:∃F,Fo.Vm (YJ ls) n F n∧∀x∈F,Zbh ls x rs
def WU(ss:List Int):Prop:=∀s∈ss,0<s∧s≤10 ^ 13
structure W4(ss:List Int)(l:B5):Prop where
 rg:0≤l.giver∧l.giver<(ss.length:Int)∧0≤l.taker∧l.taker<(ss.length:Int)
 sz:∃gv tk:Nat,l.give=(gv:Int)∧l.take=(tk:Int)∧0<gv∧0<tk∧gv<2 ^ 110∧tk<2 ^ 110∧gv*(ss.getD l.giver.toNat 0).toNat=tk*(ss.getD l.taker.toNat 0).toNat
 st:0≤l.start
theorem WC{ss:List Int}(h:WU ss){g:Int}(h0:0≤g)(h1:g<(ss.length:Int)):∃a:Nat,ss.getD g.toNat 0=(a:Int)∧0<a∧a≤10 ^ 13:=by
 have hm:ss.getD g.toNat 0∈ss:=by rw[Zx (by omega)];exact List.getElem_mem _
 obtain⟨p1,p2⟩:=h _ hm;exact⟨(ss.getD g.toNat 0).toNat,by omega,by omega,by omega⟩
theorem ZfO{a b f:Nat}(a0:0<a)(b0:0<b)(f0:0<f)(a1:a≤10 ^ 13)(b1:b≤10 ^ 13)(f1:f≤10 ^ 10):
  0<f*b / Nat.gcd a b∧0<f*a / Nat.gcd a b∧f*b / Nat.gcd a b<2 ^ 110∧f*a / Nat.gcd a b<2 ^ 110∧f*b / Nat.gcd a b*a=f*a / Nat.gcd a b*b:=by
 have g0:0<Nat.gcd a b:=Nat.gcd_pos_of_pos_left _ a0;have d1:=Nat.gcd_dvd_left a b;have d2:=Nat.gcd_dvd_right a b;have e1:f*b / Nat.gcd a b=f*(b / Nat.gcd a b):=Nat.mul_div_assoc _ d2;have e2:f*a / Nat.gcd a b=f*(a / Nat.gcd a b):=Nat.mul_div_assoc _ d1;have up:∀x:Nat,x≤10 ^ 13→f*x / Nat.gcd a b<2 ^ 110:=fun x hx=>by
  refine Nat.lt_of_le_of_lt (Nat.div_le_self _ _) (Nat.lt_of_le_of_lt (Nat.mul_le_mul f1 hx) (by decide))
 refine⟨?_,?_,up b b1,up a a1,?_⟩
 ·rw[e1];exact Nat.mul_pos f0 (Nat.div_pos (Nat.le_of_dvd b0 d2) g0)
 ·rw[e2];exact Nat.mul_pos f0 (Nat.div_pos (Nat.le_of_dvd a0 d1) g0)
 ·rw[e1,e2,Nat.mul_assoc,Nat.mul_assoc]
  congr 1
  refine Nat.eq_of_mul_eq_mul_right g0 ?_;rw[Nat.mul_right_comm,Nat.div_mul_cancel d2,Nat.mul_right_comm,Nat.div_mul_cancel d1,Nat.mul_comm]
theorem Zh2{f a:Nat}(f1:f≤10 ^ 10)(a1:a≤10 ^ 13):IntMulOk (f:Int) (a:Int):=Zam (n:=110) (m:=110) (Nat.lt_of_le_of_lt f1 (by decide)) (Nat.lt_of_le_of_lt a1 (by decide)) (by decide)
structure ZbO(ls:List B5)(n:Nat)(i:Nat)(xs ys:List Int):Prop where
 ext:∃zs,ys=xs++zs
 nd:ys.Nodup
 rg:∀w∈ys,0≤w∧w<(n:Int)
 cl:ys.length=xs.length→∀j<i,((ls.getD j dB).giver∈xs↔(ls.getD j dB).taker∈xs)
noncomputable def addW (a b:Int) (ys:List Int):List Int:=if a∈ys∧b∉ys then ys++ [b] else ys
theorem ZbK{a b:Int}{ys xs:List Int}{n:Nat}(hb:0≤b∧b<(n:Int))(he:∃zs,ys=xs++zs)(hn:ys.Nodup)(hr:∀w∈ys,0≤w∧w<(n:Int)):(∃zs,addW a b ys=xs++zs)∧(addW a b ys).Nodup∧(∀w∈addW a b ys,0≤w∧w<(n:Int))∧ys.length≤(addW a b ys).length∧((addW a b ys).length=ys.length→addW a b ys=ys∧(a∈ys→b∈ys)):=by
 unfold addW
 split
 ·rename_i c;obtain⟨zs,e⟩:=he;refine⟨⟨zs++ [b],by rw[e,List.append_assoc]⟩,?_,?_,by simp,fun z=>by simp at z⟩
  ·rw[List.nodup_append];refine⟨hn,by simp,?_⟩;intro x hx y hy e';rw[List.mem_singleton.mp hy] at e';exact c.2 (e'▸hx)
  ·intro w hw;rcases List.mem_append.mp hw with z|z
   ·exact hr w z
   ·rw[List.mem_singleton.mp z];exact hb
 ·rename_i c;refine⟨he,hn,hr,Nat.le_refl _,fun _=>⟨rfl,fun ha=>?_⟩⟩
  by_cases hbb:b∈ys
  ·exact hbb
  ·exact absurd ⟨ha,hbb⟩ c
theorem ZbO.step{ls:List B5}{n i:Nat}{xs ys:List Int}(h:ZbO ls n i xs ys)(hb:ZM ls n)(hi:i<ls.length):ZbO ls n (i+1) xs (addW (ls.getD i dB).taker (ls.getD i dB).giver (addW (ls.getD i dB).giver (ls.getD i dB).taker ys)):=by
 obtain⟨b1,b2,b3,b4⟩:=hb.at hi;obtain⟨p1,p2,p3,p4,p5⟩:=ZbK (a:=(ls.getD i dB).giver) ⟨b3,b4⟩ h.ext h.nd h.rg;obtain⟨q1,q2,q3,q4,q5⟩:=ZbK (a:=(ls.getD i dB).taker) ⟨b1,b2⟩ p1 p2 p3;refine⟨q1,q2,q3,fun z j hj=>?_⟩;obtain⟨zs,e⟩:=h.ext;have hl:xs.length≤ys.length:=by rw[e,List.length_append];omega
 obtain⟨e1,f1⟩:=p5 (by omega);obtain⟨e2,f2⟩:=q5 (by omega);have ey:ys=xs:=by
  have:zs.length=0:=by
   have:=congrArg List.length e;rw[List.length_append] at this;omega
  rw[e,List.length_eq_zero_iff.mp this,List.append_nil]
 rw[e1] at f2;rw[ey] at f1 f2
 by_cases hji:j=i
 ·subst hji;exact⟨f1,f2⟩
 ·exact h.cl (by rw[ey]) j (by omega)
noncomputable def B5.v4 (b:B5):List V:=[.int b.giver,.int b.taker,.int b.give,.int b.take]
noncomputable def YB (H:Hp):List V→List B5→Prop:=Paired fun v b=>∃t,v= .ref t∧H t=some (.tup b.v4)
theorem YB.keep{H H':Hp}(t:∀b xs,H b=some (.tup xs)→H' b=some (.tup xs)){vs:List V}{l:List B5}(h:YB H vs l):YB H' vs l:=Paired.mapP h fun _ _ ⟨a,e,z⟩=>⟨a,e,t _ _ z⟩
theorem YB.snoc{H:Hp}:∀{vs:List V}{l:List B5}{x:B5}{t:Addr},YB H vs l→H t=some (.tup x.v4)→YB H (vs++ [.ref t]) (l++ [x])
 |_,_,_,_,.nil,h=> .cons ⟨_,rfl,h⟩ .nil
 |_,_,_,_,.cons y r,h=> .cons y (YB.snoc r h)
theorem YB.length{H:Hp}{vs:List V}{l:List B5}(h:YB H vs l):vs.length=l.length:=Paired.length h
theorem YB.at{H:Hp}:∀{bs:List V}{ls:List B5}{i:Nat}{b:B5},YB H bs ls→ls[i]? =some b→∃t,bs[i]? =some (.ref t)∧H t=some (.tup b.v4)
 |_,_,_,_,.nil,e=>by simp at e
 |_,_,0,_,.cons ⟨t,e1,h⟩ _,e=>by simp at e;subst e;exact⟨t,by simp[e1],h⟩
 |_,_,i+1,b,.cons _ r,e=>by
  obtain⟨t,h1,h2⟩:=YB.at (i:=i) (b:=b) r (by simpa using e);exact⟨t,by simpa using h1,h2⟩
theorem YB.getD{H:Hp}{bs:List V}{ls:List B5}{i:Nat}(h:YB H bs ls)(hi:i<ls.length):∃t,bs.getD i .non= .ref t∧H t=some (.tup (ls.getD i dB).v4):=by
 obtain⟨t,h1,h2⟩:=h.at (List.getElem?_eq_getElem hi);exact⟨t,by simp[List.getD,h1],by simpa[List.getD,hi] using h2⟩
theorem ZkP{ls:List B5}{ys:List Int}(hc:∀j<ls.length,((ls.getD j dB).giver∈ys↔(ls.getD j dB).taker∈ys)){a w:Int}(h:Fo.Vo (YJ ls) a w)(ha:a∈ys):w∈ys:=by
 induction h with
 |refl=>exact ha
 |step _ m ih=>
  obtain⟨i,hi,hm⟩:=Zac m;rcases VL.mp hm with⟨e1,e2⟩|⟨e1,e2⟩
  ·have e3:=congrArg Prod.fst e2;dsimp only at e3;rw[e3];exact(hc i hi).mp (e1▸ih)
  ·have e3:=congrArg Prod.fst e2;dsimp only at e3;rw[e3];exact(hc i hi).mpr (e1▸ih)
noncomputable def gcdL (rs:List Int) (ys:List Int):Nat:=ys.foldl (fun c w=>Nat.gcd c (rs.getD w.toNat 0).toNat) 0
theorem Zih(rs:List Int)(ys:List Int)(w:Int):gcdL rs (ys++ [w])=Nat.gcd (gcdL rs ys) (rs.getD w.toNat 0).toNat:=by unfold gcdL;rw[List.foldl_append];rfl
theorem UD(rs:List Int):∀(ys:List Int)(c:Nat),ys.foldl (fun c w=>Nat.gcd c (rs.getD w.toNat 0).toNat) c ∣ c∧∀w∈ys,ys.foldl (fun c w=>Nat.gcd c (rs.getD w.toNat 0).toNat) c ∣ (rs.getD w.toNat 0).toNat
 | [],c=>⟨Nat.dvd_refl c,by simp⟩
 |w::ys,c=>by
  obtain⟨h1,h2⟩:=UD rs ys (Nat.gcd c (rs.getD w.toNat 0).toNat);refine⟨Nat.dvd_trans h1 (Nat.gcd_dvd_left _ _),fun v hv=>?_⟩;rcases List.mem_cons.mp hv with z|z
  ·rw[z];exact Nat.dvd_trans h1 (Nat.gcd_dvd_right _ _)
  ·exact h2 v z
def Zkl(ls:List B5)(n:Nat)(rs:List Int):Prop:=∀(f:Int)(ys:List Int),0≤f→f<(n:Int)→f∈ys→(∀j<ls.length,((ls.getD j dB).giver∈ys↔(ls.getD j dB).taker∈ys))→gcdL rs ys=1
theorem ZjD{ls:List B5}{n:Nat}{F:List (Int×Fo.ZQ)}{rs:List Int}(hwd:Fo.Vm (YJ ls) n F n)(hset:∀x∈F,Zbh ls x rs):Zkl ls n rs:=by
 intro f ys f0 f1 hf hc;obtain⟨x,hx,hk⟩:=hwd.all f f0 f1;obtain⟨hg,hgo,_,_⟩:=hwd.tree x hx;obtain⟨zs,hz,hrs⟩:=hset x hx;refine Zgu hg hz fun y hy=>?_;have hyk:y.1∈Fo.keys x.2:=by
  have h1:=hz.keys;have h2:(Fo.keys x.2).take x.2.length=Fo.keys x.2:=List.take_of_length_le (by simp[Fo.keys]);rw[h2] at h1;rw[←h1];exact List.mem_map.mpr ⟨y,hy,rfl⟩
 have h3:=(hg.keys_iff hgo y.1).mp hyk;have h4:=(hg.keys_iff hgo f).mp hk;have h5:y.1∈ys:=ZkP hc (Fo.Vo.trans (Fo.Vo.symm (ZaA ls) h4) h3) hf;have h6:=(UD rs ys 0).2 _ h5;have h7:=hrs y hy;have h8:rs.getD y.1.toNat 0=((lcmL zs / y.2.2*y.2.1:Nat):Int):=by rw[List.getD,h7];rfl
 rw[h8,Int.toNat_natCast] at h6;exact h6
def U8(ls:List B5)(f:Int)(ys:List Int):Prop:=∀P:Int→Prop,P f→(∀j<ls.length,P (ls.getD j dB).giver↔P (ls.getD j dB).taker)→∀w∈ys,P w
theorem U8.add{ls:List B5}{f a b:Int}{ys:List Int}(h:U8 ls f ys)(hab:∀P:Int→Prop,(∀j<ls.length,P (ls.getD j dB).giver↔P (ls.getD j dB).taker)→P a→P b):U8 ls f (addW a b ys):=fun P pf pj w hw=>by
 unfold addW at hw
 split at hw
 ·rename_i c;rcases List.mem_append.mp hw with z|z
  ·exact h P pf pj w z
  ·rw[List.mem_singleton.mp z];exact hab P pj (h P pf pj a c.1)
 ·exact h P pf pj w hw
def ZdT(ls:List B5)(ys:List Int):Prop:=∀j<ls.length,((ls.getD j dB).giver∈ys↔(ls.getD j dB).taker∈ys)
theorem ZbO.lap{ls:List B5}{n:Nat}{xs ys:List Int}(h:ZbO ls n ls.length xs ys):(ZdT ls xs∧ys=xs)∨xs.length<ys.length:=by
 obtain⟨zs,e⟩:=h.ext;have hl:ys.length=xs.length+zs.length:=by rw[e,List.length_append]
 by_cases z:zs.length=0
 ·have ey:ys=xs:=by rw[e,List.length_eq_zero_iff.mp z,List.append_nil]
  exact .inl ⟨h.cl (by omega),ey⟩
 ·exact .inr (by omega)
theorem ZbO.shut{ls:List B5}{n:Nat}{xs ys:List Int}(h:ZbO ls n ls.length xs ys)(sp:∀w∈ys,w∈xs):ys=xs:=by
 obtain⟨zs,e⟩:=h.ext;cases zs with
 |nil=>rw[e,List.append_nil]
 |cons z zs=>
  exfalso;have nd:=h.nd;rw[e] at nd sp;have:=(List.nodup_append.mp nd).2.2 z (sp z (by simp)) z (by simp);exact this rfl
def Zdr(ls:List B5)(ss:List Int)(w:Nat)(r:Int):Prop:=∃ys:List Int,(w:Int)∈ys∧(∀v∈ys,0≤v∧v<(ss.length:Int))∧ZdT ls ys∧U8 ls w ys∧r=(((ss.getD w 0).toNat / gcdL ss ys:Nat):Int)
def Zav(ls:List B5)(ss rs:List Int):Prop:=rs.length=ss.length∧∀w<ss.length,Zdr ls ss w (rs.getD w 0)
theorem ZcT{ss ys:List Int}{w:Int}(hw:w∈ys)(h:0<(ss.getD w.toNat 0).toNat):0<gcdL ss ys:=by
 have:=(UD ss ys 0).2 w hw;exact Nat.pos_of_dvd_of_pos this h
noncomputable def Wo (b:B5) (s:Int):B5:=⟨b.giver,b.taker,b.give,b.take,s⟩
theorem Ze6(zs:List Int):PyData.eqv (.list (zs.map PyData.int)) (.list [])=decide (zs=[]):=ZjQ zs []
noncomputable def mayL (ls:List B5) (st rs:List Int) (d:Nat→Nat):List Int:=((List.range rs.length).filter fun v=>YW ls st rs d v).map fun v:Nat=>(v:Int)
theorem Zbx{ss:List Int}{ls:List B5}{n:Nat}(h:∀l∈ls,W4 ss l)(e:ss.length=n):ZM ls n:=fun b hb=>by
 have:=(h b hb).rg;rw[e] at this;exact this
theorem Zgc{ss:List Int}{ls:List B5}(h:∀l∈ls,W4 ss l):Wa ls:=fun i hi=>by
 rw[Zx hi];obtain⟨gv,tk,e1,e2,g0,t0,g1,t1,_⟩:=(h _ (List.getElem_mem hi)).sz;exact⟨gv,tk,g0,t0,g1,t1,e1,e2⟩
noncomputable def zOf (ss:List Int) (w:Int):Nat:=if 0<(ss.getD w.toNat 0).toNat then(ss.getD w.toNat 0).toNat else 1
theorem Zil{ss:List Int}(hs:WU ss){w:Int}(h0:0≤w)(h1:w<(ss.length:Int)):zOf ss w=(ss.getD w.toNat 0).toNat:=by
 obtain⟨a,e,a0,_⟩:=WC hs h0 h1;unfold zOf;rw[if_pos (by rw[e];omega)]
theorem ZeL{ss:List Int}{ls:List B5}(hs:WU ss)(h:∀l∈ls,W4 ss l):VI ls (zOf ss):=by
 refine⟨fun w=>by unfold zOf;split<;>omega,fun i hi=>?_⟩;rw[Zx hi];have hl:=h _ (List.getElem_mem hi);obtain⟨r1,r2,r3,r4⟩:=hl.rg;obtain⟨gv,tk,e1,e2,g0,t0,g1,t1,eb⟩:=hl.sz;rw[Zil hs r1 r2,Zil hs r3 r4,e1,e2,Int.toNat_natCast,Int.toNat_natCast];exact eb
theorem ZeF{ss rs:List Int}{a b:Nat}:∀(ys:List Int)(c e:Nat),c*b=a*e→(∀v∈ys,(ss.getD v.toNat 0).toNat*b=a*(rs.getD v.toNat 0).toNat)→ys.foldl (fun c w=>Nat.gcd c (ss.getD w.toNat 0).toNat) c*b=a*ys.foldl (fun c w=>Nat.gcd c (rs.getD w.toNat 0).toNat) e
 | [],c,e,h,_=>h
 |v::ys,c,e,h,q=>by
  refine ZeF ys _ _ ?_ fun w hw=>q w (by simp[hw]);rw[←Nat.gcd_mul_right,h,q v (by simp),Nat.gcd_mul_left]
theorem ZiR{ls:List B5}{ss rs:List Int}{n:Nat}(hs:WU ss)(hl:ss.length=n)(hd:∀l∈ls,W4 ss l)(hR:Rts ls n (zOf ss) rs){w:Nat}(hw:w<n){r:Int}(h:Zdr ls ss w r):r=rs.getD w 0:=by
 obtain⟨ys,hm,hrg,hcl,hsp,rfl⟩:=h;obtain⟨F,hwd,hset⟩:=hR.wood;have h1:gcdL rs ys=1:=ZjD hwd hset (w:Int) ys (by omega) (by omega) hm hcl;have rp:∀v:Int,0≤v→v<(n:Int)→1≤rs.getD v.toNat 0:=fun v a b=>by
  have hv:v.toNat<rs.length:=by rw[hR.len];omega
  rw[Zx hv];exact hR.pos _ (List.getElem_mem hv)
 have key:∀v∈ys,(ss.getD v.toNat 0).toNat*(rs.getD w 0).toNat=(ss.getD w 0).toNat*(rs.getD v.toNat 0).toNat:=by
  refine hsp (fun v=>(ss.getD v.toNat 0).toNat*(rs.getD w 0).toNat=(ss.getD w 0).toNat*(rs.getD v.toNat 0).toNat) (by rw[Int.toNat_natCast]) fun j hj=>?_;have hL:=hd (ls.getD j dB) (by rw[Zx hj];exact List.getElem_mem hj);have hB:=hR.bal (ls.getD j dB) (by rw[Zx hj];exact List.getElem_mem hj);generalize ls.getD j dB=b at*;obtain⟨r1,r2,r3,r4⟩:=hL.rg;obtain⟨gv,tk,e1,e2,g0,t0,_,_,eb⟩:=hL.sz;have p1:=rp b.giver r1 (by omega);have p2:=rp b.taker r3 (by omega);obtain⟨x,ex,x0,_⟩:=WC hs r1 r2;obtain⟨y,ey,y0,_⟩:=WC hs r3 r4;obtain⟨A,eA⟩:∃A:Nat,rs.getD b.giver.toNat 0=(A:Int):=⟨(rs.getD b.giver.toNat 0).toNat,by omega⟩;obtain⟨B,eB⟩:∃B:Nat,rs.getD b.taker.toNat 0=(B:Int):=⟨(rs.getD b.taker.toNat 0).toNat,by omega⟩;rw[eA,eB,e1,e2] at hB;have hB':gv*A=tk*B:=by exact_mod_cast hB
  rw[ex,ey,eA,eB];rw[ex,ey] at eb;simp only[Int.toNat_natCast] at*;generalize (rs.getD w 0).toNat=R;generalize (ss.getD w 0).toNat=S
  constructor
  ·intro q;refine Nat.eq_of_mul_eq_mul_left t0 ?_
   calc tk*(y*R)=gv*x*R:=by rw[eb,Nat.mul_assoc]
    _=gv*(x*R):=Nat.mul_assoc _ _ _
    _=gv*(S*A):=by rw[q]
    _=S*(gv*A):=Nat.mul_left_comm _ _ _
    _=tk*(S*B):=by rw[hB',Nat.mul_left_comm]
  ·intro q;refine Nat.eq_of_mul_eq_mul_left g0 ?_
   calc gv*(x*R)=tk*y*R:=by rw[←eb,Nat.mul_assoc]
    _=tk*(y*R):=Nat.mul_assoc _ _ _
    _=tk*(S*B):=by rw[q]
    _=S*(tk*B):=Nat.mul_left_comm _ _ _
    _=gv*(S*A):=by rw[←hB',Nat.mul_left_comm]
 have h2:=ZeF (ss:=ss) (rs:=rs) ys 0 0 (by simp) key;have h3:gcdL ss ys*(rs.getD w 0).toNat=(ss.getD w 0).toNat:=by
  have:gcdL ss ys*(rs.getD w 0).toNat=(ss.getD w 0).toNat*gcdL rs ys:=h2;rw[this,h1,Nat.mul_one]
 have p0:=rp (w:Int) (by omega) (by omega);rw[Int.toNat_natCast] at p0;obtain⟨x,ex,x0,_⟩:=WC hs (g:=(w:Int)) (by omega) (by omega);rw[Int.toNat_natCast] at ex;have g0:0<gcdL ss ys:=ZcT hm (by rw[Int.toNat_natCast,ex];simpa using x0);rw[←h3,Nat.mul_div_cancel_left _ g0];omega
theorem ZlX{rs:List Int}{c:Int}(h:∀r∈rs,r≤c):rs.sum≤c*rs.length:=by
 induction rs with
 |nil=>simp
 |cons r rs ih=>
  have h1:=h r (by simp);have h2:=ih fun x hx=>h x (by simp[hx]);rw[List.sum_cons,List.length_cons,Int.natCast_add,Int.mul_add];omega
theorem Zek{f:Nat→Int}:∀{is:List Nat}{ys:List V},Paired (fun i v=>v=V.int (f i)) is ys→ys=(is.map f).map V.int
 |_,_,.nil=>rfl
 |_,_,.cons a r=>by rw[a,Zek r];rfl
theorem WL{α:Type}{xs:List α}{i:Nat}{d:α}(h:i<xs.length):xs.getD i d∈xs:=by rw[Zx h];exact List.getElem_mem h
theorem Zgx{ls ls':List B5}{ss rl:List Int}(hl:ls'.length=ls.length)(h:∀j<ls.length,∃s:Int,0≤s∧ls'.getD j dB=Wo (ls.getD j dB) s)(hd:∀l∈ls,W4 ss l)(hR:Zav ls ss rl):(∀l∈ls',W4 ss l)∧Zav ls' ss rl:=by
 have hg:∀j<ls.length,(ls'.getD j dB).giver=(ls.getD j dB).giver∧(ls'.getD j dB).taker=(ls.getD j dB).taker:=fun j hj=>by
  obtain⟨s,_,e⟩:=h j hj;rw[e];exact⟨rfl,rfl⟩
 refine⟨fun l hl'=>?_,hR.1,fun w hw=>?_⟩
 ·obtain⟨j,hj,e⟩:=List.getElem_of_mem hl';obtain⟨s,s0,e2⟩:=h j (by omega);rw[Zx hj,e] at e2;have hL:=hd (ls.getD j dB) (WL (by omega));rw[e2];exact⟨hL.rg,hL.sz,s0⟩
 ·obtain⟨ys,a,b,c,d,e⟩:=hR.2 w hw;refine⟨ys,a,b,fun j hj=>?_,fun P pf pj v hv=>d P pf (fun j hj=>?_) v hv,e⟩
  ·obtain⟨x,y⟩:=hg j (by omega);rw[x,y];exact c j (by omega)
  ·obtain⟨x,y⟩:=hg j hj;rw[←x,←y];exact pj j (by omega)
theorem Zg6{ls:List B5}{rs:List Int}{d:Nat→Nat}(hpos:∀r∈rs,1≤r)(hbt:ZM ls rs.length)(hb:Zfz ls rs)(h:∀v<rs.length,d v=ZO rs v):Wr ls (ZD ls) d=ZD ls:=by
 have hsl:(ZD ls).length=ls.length:=by simp[ZD]
 refine List.ext_getElem (by rw[Yd hsl,hsl]) fun j h1 h2=>?_;have hj:j<ls.length:=by omega
 have b:=hbt ls[j] (List.getElem_mem hj);rw[WS hsl hj];unfold Fire.lie fB;dsimp only;rw[h _ (show ls[j].giver.toNat<rs.length by omega),h _ (show ls[j].taker.toNat<rs.length by omega),W9 hpos (by omega),W9 hpos (by omega),hb _ (List.getElem_mem hj)];omega
theorem ZgZ{ls:List B5}{st rs:List Int}{d:Nat→Nat}{n w:Nat}(h:st.length=ls.length)(hb:ZM ls n)(hf:YZ ls st rs d w):(mayL ls st rs d)[0]? =some (w:Int):=by
 have e:((List.range rs.length).filter fun v=>YW ls st rs d v).head?=some w:=by
  rw[List.head?_filter,List.find?_range_eq_some];refine⟨(Zan h hb hf.1.1).mpr hf.1,by simpa using hf.1.1,fun j hj=>?_⟩;have:=(Zde (d:=d) (rs:=rs) h hb (show j<rs.length by have:=hf.1.1;omega)).mpr (hf.2 j hj);simp[this]
 unfold mayL;rw[List.getElem?_map,←List.head?_eq_getElem?,e]
 rfl
noncomputable def Yx (ls:List B5) (sts:List Int):List B5:=(List.range ls.length).map fun j=>Wo (ls.getD j dB) (sts.getD j 0)
theorem Z1{ls:List B5}{sts:List Int}:(Yx ls sts).length=ls.length:=by simp[Yx]
theorem VF{ls:List B5}{sts:List Int}{j:Nat}(h:j<ls.length):(Yx ls sts)[j]'(by rw[Z1];exact h)=Wo ls[j] (sts.getD j 0):=by simp[Yx,List.getD,h]
theorem Zk8{ls ks:List B5}{i:Nat}(hl:ks.length=ls.length)(hi:i<ls.length):(ks.take i++ls.drop i)[i]? =some ls[i]:=by
 rw[List.getElem?_append_right (by rw[List.length_take];omega),List.length_take,Nat.min_eq_left (by omega),Nat.sub_self,List.getElem?_drop,Nat.add_zero,List.getElem?_eq_getElem hi]
theorem ZkE{ls ks:List B5}{i:Nat}(hl:ks.length=ls.length)(hi:i<ls.length):(ks.take i++ls.drop i).set i (ks[i]'(by omega))=ks.take (i+1)++ls.drop (i+1):=by
 rw[List.set_append_right _ _ (by rw[List.length_take];omega),List.length_take,Nat.min_eq_left (by omega),Nat.sub_self,List.drop_eq_getElem_cons hi,List.set_cons_zero,List.take_succ_eq_append_getElem (show i<ks.length by omega),List.append_assoc]
 rfl
theorem Zmu{A A':List Addr}{H H' H2:Hp}(f:ZH A H H')(g:Yz A A' H)(f2:ZH A' H' H2):ZH A H H2:=
 ⟨fun b o h n=>f2.keep b o (f.keep b o h n) fun z=>(g b z).elim n (fun y=>by rw[h] at y;cases y),fun b xs h=>f2.tups _ _ (f.tups _ _ h)⟩
theorem ZmA{A A' A2:List Addr}{H H':Hp}(f:ZH A H H')(g:Yz A A' H)(g2:Yz A' A2 H'):Yz A A2 H:=fun a h=>by
 rcases g2 a h with z|z
 ·exact g a z
 ·by_cases c:a∈A
  ·exact .inl c
  ·refine .inr ?_;cases e:H a with
   |none=>rfl
   |some o=>rw[f.keep a o e c] at z;cases z
theorem Zl1{A:List Addr}{H H':Hp}{r:Addr}{o:HO}(f:ZH A H H')(hr:H r=none):ZH A H (upd H' r o):=
 ⟨fun b u h n=>by rw[Zg (Zm h hr)];exact f.keep b u h n,fun b xs h=>by rw[Zg (Zm h hr)];exact f.tups b xs h⟩
theorem ZhX{ls:List B5}{st rs:List Int}{c d d2:Nat→Nat}{ws:List Nat}(h:Fire.Ye (YZ ls st rs) c ws d)(hs:∀w,¬Wv ls st rs d w)(hs2:∀w,¬Wv ls st rs d2 w):∀{ws2:List Nat},Fire.Ye (YZ ls st rs) c ws2 d2→ws=ws2:=by
 induction h with
 |nil c=>
  intro ws2 h2;cases h2 with
  |nil=>rfl
  |cons r _=>exact absurd r.1 (hs _)
 | @cons c d w ws r _ ih=>
  intro ws2 h2;cases h2 with
  |nil=>exact absurd r.1 (hs2 _)
  | @cons _ _ w2 _ r2 h3=>
   have e:w=w2:=by
    rcases Nat.lt_trichotomy w w2 with z|z|z
    ·exact absurd r.1 (r2.2 w z)
    ·exact z
    ·exact absurd r2.1 (r.2 w2 z)
   subst e;rw[ih hs h3]
def Zcj(ls:List B5)(rs:List Int):Prop:=∀(j:Nat)(hj:j<ls.length),0≤ls[j].give∧0≤ls[j].take∧0≤ls[j].taker∧ls[j].take*(ZO rs ls[j].taker.toNat:Int)≤ls[j].start
theorem Zhm{ls:List B5}{rs:List Int}{d:Nat→Nat}{v:Nat}(h:Zcj ls rs)(hv:v<rs.length)(hd:d v<ZO rs v):Wv ls (ZD ls) rs d v:=by
 refine⟨hv,hd,fun b hb ht=>?_⟩;obtain⟨j,hj,rfl⟩:=Zcp (by simp[ZD]) hb;obtain⟨h1,h2,h3,h4⟩:=h j hj;have ht':ls[j].taker.toNat=v:=ht;have es:(ZD ls)[j]'(by simpa[ZD] using hj)=ls[j].start:=by simp[ZD]
 unfold Fire.lie fB;dsimp only;rw[ht',es];rw[ht'] at h4;generalize ls[j]=bb at*;have k1:0≤bb.give*(d bb.giver.toNat:Int):=Int.mul_nonneg h1 (by omega);have k2:bb.take*((d v:Int)+1)≤bb.take*(ZO rs v:Int):=Int.mul_le_mul_of_nonneg_left (by omega) h2;rw[Int.mul_add,Int.mul_one] at k2;generalize bb.give*(d bb.giver.toNat:Int)=x1 at*;generalize bb.take*(d v:Int)=x2 at*;generalize bb.take*(ZO rs v:Int)=x3 at*;omega
structure ZeY(ls:List B5)(n:Nat)(z:Int→Nat)(rl:List Int):Prop where
 bt:ZM ls n
 sz:Wa ls
 wt:VI ls z
 st:∀b∈ls,0≤b.start
 le:ls.length≤60
 nn:n≤60
 sum:rl.sum≤400
 uq:∀rs,Rts ls n z rs→rs=rl
theorem Paired.insert{α β:Type}{P:α→β→Prop}:∀{xs:List α}{ys:List β}{x:α}{y:β}(j:Nat),Paired P xs ys→P x y→Paired P (xs.take j++x::xs.drop j) (ys.take j++y::ys.drop j)
 |_,_,_,_,0,h,p=> .cons p h
 |_,_,_,_,_+1,.nil,p=> .cons p .nil
 |_,_,_,_,j+1,.cons a h,p=> .cons a (Paired.insert j h p)
theorem ZgJ{α:Type}{xs:List α}{x y:α}{j:Nat}(h:y∈xs.take j++x::xs.drop j):y∈xs∨y=x:=by
 rcases List.mem_append.mp h with z|z
 ·exact .inl (List.mem_of_mem_take z)
 ·rcases List.mem_cons.mp z with z|z
  ·exact .inr z
  ·exact .inl (List.mem_of_mem_drop z)
theorem ZgH{α:Type}{xs:List α}{x:α}{j:Nat}:(xs.take j++x::xs.drop j).length=xs.length+1:=by
 rw[List.length_append,List.length_cons,List.length_take,List.length_drop];omega
theorem ZkG{α β:Type}(f:α→β){xs:List α}{x:α}{j:Nat}:(xs.take j++x::xs.drop j).map f=(xs.map f).take j++f x::(xs.map f).drop j:=by
 rw[List.map_append,List.map_cons,List.map_take,List.map_drop]
def ZkI(n:Nat)(os:List Int):Prop:=os.length=n∧∀w∈os,0≤w∧w<(n:Int)
theorem Paired.app{α β:Type}{P:α→β→Prop}:∀{xs xs':List α}{ys ys':List β},Paired P xs ys→Paired P xs' ys'→Paired P (xs++xs') (ys++ys')
 |_,_,_,_,.nil,h=>h
 |_,_,_,_,.cons a r,h=> .cons a (Paired.app r h)
theorem Zfg{ls:List B5}{a b:List Int}:Yx (Yx ls a) b=Yx ls b:=by
 refine List.ext_getElem (by rw[Z1,Z1,Z1]) fun j h1 h2=>?_;have hj:j<ls.length:=by rw[Z1] at h2;exact h2
 rw[VF (by rw[Z1];exact hj),VF hj,VF hj]
 rfl
theorem ZiO{ls:List B5}:Yx ls (ZD ls)=ls:=by
 refine List.ext_getElem (by rw[Z1]) fun j h1 h2=>?_;rw[VF h2];simp[ZD,List.getD,h2,Wo]
theorem Zep{ls:List B5}{sts ss rl:List Int}(hs:sts.length=ls.length)(h0:∀s∈sts,0≤s)(hd:∀l∈ls,W4 ss l)(hR:Zav ls ss rl):(∀l∈Yx ls sts,W4 ss l)∧Zav (Yx ls sts) ss rl:=
 Zgx Z1 (fun j hj=>⟨sts.getD j 0,h0 _ (WL (by omega)),by rw[Zx (by rw[Z1];exact hj),VF hj,Zx hj]⟩) hd hR
theorem ZkD{ls:List B5}{ss rl:List Int}{M tp:Nat}(hso:WU ss)(hsl:ss.length=M)(hd:∀l∈ls,W4 ss l)(hR:Zav ls ss rl)(hl:ls.length≤60)(hM:M≤30)(hrb:∀r∈rl,0≤r∧r≤(tp:Int))(ht:tp*M≤60):ZeY ls M (zOf ss) rl:=by
 refine⟨Zbx hd hsl,Zgc hd,ZeL hso hd,fun b hb=>(hd b hb).st,hl,by omega,?_,fun rs hRt=>?_⟩
 ·have h1:=ZlX (rs:=rl) (c:=(tp:Int)) fun r hr=>(hrb r hr).2;have h2:(tp:Int)*(rl.length:Int)=((tp*rl.length:Nat):Int):=by rw[Int.natCast_mul]
  have h3:tp*rl.length=tp*M:=by rw[hR.1,hsl]
  omega
 ·have hrl:=hR.1;refine(List.ext_getElem (by rw[hRt.len];omega) fun v h1 h2=>?_).symm;have:=ZiR hso hsl hd hRt (w:=v) (by omega) (hR.2 v (by omega));rw[Zx h1,Zx h2] at this;exact this
theorem Zes{ls:List B5}{ss rl:List Int}(hso:WU ss)(hR:Zav ls ss rl):∀r∈rl,1≤r:=fun r hr=>by
 obtain⟨w,hw,e⟩:=List.getElem_of_mem hr;obtain⟨ys,hm,_,_,_,e2⟩:=hR.2 w (by rw[←hR.1];exact hw);rw[Zx hw,e] at e2;obtain⟨x,ex,x0,_⟩:=WC hso (g:=(w:Int)) (by omega) (by rw[←hR.1];omega);rw[Int.toNat_natCast] at ex;have g0:0<gcdL ss ys:=ZcT hm (by rw[Int.toNat_natCast,ex];simpa using x0);have gx:gcdL ss ys ∣ x:=by
  have:=(UD ss ys 0).2 _ hm;rw[Int.toNat_natCast,ex,Int.toNat_natCast] at this;exact this
 have h1:0<x / gcdL ss ys:=Nat.div_pos (Nat.le_of_dvd x0 gx) g0;rw[ex,Int.toNat_natCast] at e2;omega
structure UM{K:PySem.W.Frag}{mg:Str→Option Value}(T:Tp K mg)(H:Hp)(hp:Addr)(fp:List Addr)(nms:List Str)(ks:List B5)(q:Addr)(bs:List V)(ls:List B5)(ra:Addr)(rl:List Int)(p:Addr)(ns:List Int):Prop where
 hall:ZB T H hp ⟨nms,ks⟩ fp
 hq:H q=some (.lst bs)
 tq:Z8 H bs ls
 nq:q∉fp
 hra:H ra=some (.lst (rl.map V.int))
 nra:ra∉fp
 off:WF K H fp p (ns.map V.int)
section
variable {K:PySem.W.Frag}{mg:Str→Option Value}{T:Tp K mg}{H H':Hp}{hp:Addr}{fp fp':List Addr}{nms:List Str}{ks ks':List B5}{q:Addr}{bs:List V}{ls:List B5}{ra:Addr}{rl:List Int}{p:Addr}{ns:List Int}
theorem UM.same(h:UM T H hp fp nms ks q bs ls ra rl p ns)(s:Zd H H'):UM T H' hp fp nms ks q bs ls ra rl p ns:=
 ⟨h.hall.same s,s _ _ h.hq,h.tq.keep fun b xs e=>s _ _ e,h.nq,s _ _ h.hra,h.nra,h.off.frame s.frame⟩
theorem UM.step(h:UM T H hp fp nms ks q bs ls ra rl p ns)(f:ZH fp H H')(g:Yz fp fp' H)(hh:ZB T H' hp ⟨nms,ks'⟩ fp'):UM T H' hp fp' nms ks' q bs ls ra rl p ns:=
 ⟨hh,f.keep _ _ h.hq h.nq,h.tq.keep f.tups,g.off h.nq (by rw[h.hq];simp),f.keep _ _ h.hra h.nra,g.off h.nra (by rw[h.hra];simp),h.off.step f g⟩
end
local macro_rules| `(tactic|walk_at "rd")=>`(tactic|first|with_reducible (first|(show ∃a dx fs,L2.V.ref _=L2.V.ref a∧_∧List.lookup _ fs=none∧_;refine Nm.Zij (by with_reducible assumption) (by k_dflt (decide+kernel)) (by k_dflt (decide+kernel)) ?_)|(show ∃a dx fs,L2.V.ref _=L2.V.ref a∧_∧List.lookup _ fs=none∧_;refine Nm.Zgh (by with_reducible assumption) (by k_dflt (decide+kernel)) (by k_dflt (decide+kernel)) (by k_dflt (decide+kernel)) (by k_dflt (decide+kernel)) (by k_dflt (decide+kernel)) ?_))|fail "none here")
def ZaD{K:PySem.W.Frag}{mg:Str→Option Value}(T:Tp K mg):Sp:=fun vs H Q _=>∃(p:Addr)(ns:List Int)(k:Int),vs=[.ref p,.int k]∧SqL K H p (ns.map V.int)∧0≤k∧Q (.int (Zdg ns k)) H
theorem ZiE{K:PySem.W.Frag}{mg:Str→Option Value}{T:Tp K mg}{H:Hp}{Q:VK}{E:XK}{p:Addr}{ns:List Int}{k:Int}(hS:SqL K H p (ns.map V.int))(hk:0≤k)(q:Q (.int (Zdg ns k)) H):ZaD T ([.ref p,.int k]++ []) H Q E:=⟨p,ns,k,rfl,hS,hk,q⟩
local macro_rules| `(tactic|walk_at "rd")=>`(tactic|first|((with_reducible show Nm.ZaD _ _ _ _ _);with_reducible refine Nm.ZiE (by walk_at "hp") (by walk_at "side") ?_)|fail "none here")
section
variable {P:Program}{w:World}{K:PySem.W.Frag}{mg:Str→Option Value}{base:Heap}
theorem ZiB(T:Tp K mg):Zk P w K mg base (CXX P w) 1 T.f_l_cell T.d_l_cell ["_law_script","_law_k"] (ZaD T):=by
 refine T.F_l_cell.okX Zh3 (fun vs H Q E h=>?_) (fun cdv A outer s H vs Q E hr h=>?_)
 ·obtain⟨p,ns,k,rfl,_⟩:=h
  rfl
 ·have hu:=hr.units;obtain⟨p,ns,k,rfl,hS,hk,q⟩:=h;unfold Zdg at q;refine⟨_,(Zc (ZW (ZC U7 (pv 1) (Zy (Ya (K:=K) rfl) (by rfl) T.n_len PySem.boot_len (Za (pv 0) Zb)) (ZI _)) (Zh (Zw (Zj (Zq (K:=K) rfl) (pv 0) (pv 1) (fun _ _=>rfl)))) ZJ)
     (Zc (ZW (ZC (Wc (K:=K) rfl hu) (Zy (Ya (K:=K) rfl) (by rfl) T.n_len PySem.boot_len (Za (pv 0) Zb)) Zf (ZI _)) (Zh (Zw (pv 1))) ZJ)
     (Zh (Zw (Zv (Z6 (K:=K) rfl) (Zv YR (Zj (Zq (K:=K) rfl) (pv 0) (Zv Yi (pv 1) (Zy (Ya (K:=K) rfl) (by rfl) T.n_len PySem.boot_len (Za (pv 0) Zb))) (fun _ _=>rfl)) Zf) (pv 1)))))),?_⟩
  try dsimp only[L2.cxX,L2.ZN,L2.Zn]
  walk_at "rds";refine Rd.ifD (fun c=>?_) (fun c=>?_)
  ·have c':k<ns.length:=by simpa using c
   have ha:=ZR hk c';rw[if_pos c'] at q;walk_at "rds";exact q
  ·have c':¬k<ns.length:=by simpa using c
   rw[if_neg c'] at q;walk_at "rds";refine Rd.ifD (fun d=>?_) (fun d=>?_)
   ·have d':(ns.length:Int)=0:=by simpa using d
    rw[if_pos d'] at q;walk_at "rds";exact q
   ·have d':¬(ns.length:Int)=0:=by simpa using d
    rw[if_neg d'] at q;have e:((ns.map V.int).length:Int)=ns.length:=by simp
    have l0:0<((ns.map V.int).length:Int):=by omega
    have ha:=ZR (ns:=ns) (k:=k % (ns.map V.int).length) (Int.emod_nonneg _ (by omega)) (by rw[e];exact Int.emod_lt_of_pos _ (by omega));walk_at "rds";rw[e];exact q
end
def WH{K:PySem.W.Frag}{mg:Str→Option Value}(T:Tp K mg):Sp:=fun vs H Q _=>∃(p:Addr)(ns:List Int)(k:Int),vs=[.ref p,.int k]∧SqL K H p (ns.map V.int)∧0≤k∧Q (.int (Wd ns k)) H
theorem ZhL{K:PySem.W.Frag}{mg:Str→Option Value}{T:Tp K mg}{H:Hp}{Q:VK}{E:XK}{p:Addr}{ns:List Int}{k:Int}(hS:SqL K H p (ns.map V.int))(hk:0≤k)(q:∀m,m=Wd ns k→0≤m→m<2147483647→Q (.int m) H):WH T ([.ref p,.int k]++ []) H Q E:=
 ⟨p,ns,k,rfl,hS,hk,q _ rfl (Zjv ns k) (Zja ns k)⟩
local macro_rules| `(tactic|walk_at "rd")=>`(tactic|first|((with_reducible show Nm.WH _ _ _ _ _);with_reducible refine Nm.ZhL (by walk_at "hp") (by walk_at "side") (fun _ _ _ _=>?_))|fail "none here")
section
variable {P:Program}{w:World}{K:PySem.W.Frag}{mg:Str→Option Value}{base:Heap}
theorem UX(T:Tp K mg):Zk P w K mg base (CXX P w) 2 T.f_l_mixed T.d_l_mixed ["_law_script","_law_k"] (WH T):=by
 have G_l_cell:Zk P w K mg base (CXX P w) 1 T.f_l_cell T.d_l_cell ["_law_script","_law_k"] (ZaD T):=(ZiB T).mono (by decide);refine T.F_l_mixed.okX Zg9 (fun vs H Q E h=>?_) (fun cdv A outer s H vs Q E hr h=>?_)
 ·obtain⟨p,ns,k,rfl,_⟩:=h
  rfl
 ·have hu:=hr.units;obtain⟨p,ns,k,rfl,hS,hk,q⟩:=h;refine⟨_,(Zh (Zw (Zv Yi (Zv (Z6 (K:=K) rfl) (Zv YR (Zv Yi (Zr G_l_cell hr rfl T.m_l_cell T.F_l_cell.kp T.b_l_cell .nil Zl (Za (pv 0) (Za (pv 1) Zb))) Zf) Zf) Zf) Zf))),?_⟩
  try dsimp only[L2.cxX,L2.ZN,L2.Zn]
  walk_at "rds";rw[ZjF];exact q
end
def VU{K:PySem.W.Frag}{mg:Str→Option Value}(T:Tp K mg):Sp:=fun vs H Q _=>∃a b:Nat,vs=[.int a,.int b]∧Q (.int (Nat.gcd a b:Nat)) H
section
variable {P:Program}{w:World}{K:PySem.W.Frag}{mg:Str→Option Value}{base:Heap}
theorem Zao(T:Tp K mg):Zk P w K mg base (CXX P w) 1 T.f_l_divisor T.d_l_divisor ["_law_one","_law_other"] (VU T):=by
 refine T.F_l_divisor.okX V9 (fun vs H Q E h=>?_) (fun cdv A outer s H vs Q E hr h=>?_)
 ·obtain⟨a,b,rfl,_⟩:=h
  rfl
 ·have hu:=hr.units;obtain⟨a0,b0,rfl,q⟩:=h;rw[←My.Zdx] at q;refine⟨_,(Zc (Zaq PassesOwn.leaving (ZC (UG (K:=K) rfl hu) (pv 1) Zf (ZI _)) (Zc (Zs (i:=2) V9.nd rfl (Or.inl rfl) (Zv Yi (pv 0) (pv 1)))
     (Zc (Zs (i:=0) V9.nd rfl (Or.inl rfl) (pv 1))
     (Zh (Zs (i:=1) V9.nd rfl (Or.inl rfl) (pv 2))))))
     (Zh (Zw (pv 0)))),?_⟩
  try dsimp only[L2.cxX,L2.ZN,L2.Zn]
  walk_at "rd";refine ZbD (fun m σ H'=>H'=H∧∃(x y:Int)(r:Option V),m=y.toNat∧σ=[some (.int x),some (.int y),r]∧0≤x∧0≤y∧My.G x y=My.G a0 b0) _ ⟨rfl,a0,b0,none,rfl,rfl,by omega,by omega,rfl⟩ ?_;rintro m σ H' ⟨rfl,x,y,r,rfl,rfl,hx,hy,hG⟩;walk_at "rds";refine Vl (fun c=>ZdF ?_) (fun c=>?_)
  ·have hy0:0<y:=by
    have:¬y=0:=by simpa using c
    omega
   walk_at "rds";exact⟨_,(by have:=Int.emod_nonneg x (show y≠0 by omega);have:=Int.emod_lt_of_pos x hy0;omega),rfl,y,x % y,some (.int (x % y)),rfl,rfl,hy,Int.emod_nonneg x (by omega),(ZgG hx hy0).trans hG⟩
  ·have hy0:y=0:=by simpa using c
   have e:x=My.G a0 b0:=by rw[←hG,My.Zic hx hy0]
   walk_at "rds";rw[e];exact q
end
def ZdM{K:PySem.W.Frag}{mg:Str→Option Value}(T:Tp K mg):Sp:=fun vs H Q _=>∃(p a:Addr)(ns ss:List Int),vs=[.ref p,.ref a]∧SqL K H p (ns.map V.int)∧SqL K H a (ss.map V.int)∧WU ss∧0<ss.length∧ss.length≤30∧
 ∀(r:Addr)(H':Hp)(bs:List V)(ls:List B5),H r=none→Zd H H'→H' r=some (.lst bs)→YB H' bs ls→ls.length≤7→(∀l∈ls,W4 ss l)→Q (.ref r) H'
section
variable {P:Program}{w:World}{K:PySem.W.Frag}{mg:Str→Option Value}{base:Heap}
theorem Zhx(T:Tp K mg):Zk P w K mg base (CXX P w) 3 T.f_l_lines T.d_l_lines ["_law_script","_law_sizes"] (ZdM T):=by
 have G_l_mixed:Zk P w K mg base (CXX P w) 2 T.f_l_mixed T.d_l_mixed ["_law_script","_law_k"] (WH T):=(UX T).mono (by decide);have G_l_divisor:Zk P w K mg base (CXX P w) 2 T.f_l_divisor T.d_l_divisor ["_law_one","_law_other"] (VU T):=(Zao T).mono (by decide);refine T.F_l_lines.okX Wi (fun vs H Q E h=>?_) (fun cdv A outer s H vs Q E hr h=>?_)
 ·obtain⟨p,a,ns,ss,rfl,_⟩:=h
  rfl
 ·have hu:=hr.units;obtain⟨p,a,ns,ss,rfl,hS,hA,hss,n0,n1,q⟩:=h;have hsl:((ss.map V.int).length:Int)=(ss.length:Int):=by simp
  refine⟨_,(Zc (Zs (i:=2) Wi.nd rfl (Or.inl rfl) (YC Zb))
     (Zc (Z5 PassesOwn.leaving rfl (Z4 rfl T.n_range (Za (Zv Yi (Zv Z3 (Zr G_l_mixed hr rfl T.m_l_mixed T.F_l_mixed.kp T.b_l_mixed .nil Zl (Za (pv 0) (Za Zf Zb))) Zf) Zf) Zb)) (Zp (i:=3) Wi.nd rfl (Or.inl rfl)) (Zc (Zs (i:=4) Wi.nd rfl (Or.inl rfl) (Zr G_l_mixed hr rfl T.m_l_mixed T.F_l_mixed.kp T.b_l_mixed .nil Zl (Za (pv 0) (Za (Zv (Z6 (K:=K) rfl) Zf (pv 3)) Zb))))
     (Zc (Zs (i:=5) Wi.nd rfl (Or.inl rfl) (Zv Yi (pv 4) (Zy (Ya (K:=K) rfl) (by rfl) T.n_len PySem.boot_len (Za (pv 1) Zb))))
     (Zc (Zs (i:=6) Wi.nd rfl (Or.inl rfl) (Zv Yi (Zv Z3 (pv 4) Zf) (Zy (Ya (K:=K) rfl) (by rfl) T.n_len PySem.boot_len (Za (pv 1) Zb))))
     (Zc (Zs (i:=7) Wi.nd rfl (Or.inl rfl) (Zr G_l_divisor hr rfl T.m_l_divisor T.F_l_divisor.kp T.b_l_divisor .nil Zl (Za (Zj (Zq (K:=K) rfl) (pv 1) (pv 5) (fun _ _=>rfl)) (Za (Zj (Zq (K:=K) rfl) (pv 1) (pv 6) (fun _ _=>rfl)) Zb))))
     (Zc (Zs (i:=8) Wi.nd rfl (Or.inl rfl) (Zv (Z6 (K:=K) rfl) Zf (Zv Yi (Zv Z3 (pv 4) Zf) Zf)))
     (Zh (ZX (Yt (K:=K) rfl PySem.F.plainAttrs_list PySem.F.slot_list_append PySem.F.type_list_append Yc (pv 2) (Za (Yv (Za (pv 5) (Za (pv 6) (Za (Zv Z3 (Zv YR (pv 8) (Zj (Zq (K:=K) rfl) (pv 1) (pv 6) (fun _ _=>rfl))) (pv 7)) (Za (Zv Z3 (Zv YR (pv 8) (Zj (Zq (K:=K) rfl) (pv 1) (pv 5) (fun _ _=>rfl))) (pv 7)) Zb))))) Zb))))))))))
     (Zh (Zw (pv 2))))),?_⟩
  try dsimp only[L2.cxX,L2.ZN,L2.Zn]
  walk_at "rds";refine⟨Nat.zero_le _,fun r hr=>?_⟩;have s1:Zd H (upd H r (.lst [])):=Zo hr;have hr1:(upd H r (.lst [])) r=some (.lst []):=Ze;generalize upd H r (.lst [])=H1 at*;have hS1:=s1.seq hS;have hA1:=s1.seq hA;walk_at "rds";rename_i m0 hm0 m00 m01;clear hm0;obtain⟨b,eb⟩:∃b:Nat,m0 / 5 % 8=(b:Int):=⟨(m0 / 5 % 8).toNat,by omega⟩;have b1:b≤7:=by omega
  rw[eb];refine YL (n:=b) (fun i σ H'=>∃(bs:List V)(ls:List B5)(a1 a2 a3 a4 a5 a6:Option V),σ=[some (.ref p),some (.ref a),some (.ref r),a1,a2,a3,a4,a5,a6]∧Zd H H'∧H' r=some (.lst bs)∧YB H' bs ls∧ls.length=i∧∀l∈ls,W4 ss l) ⟨[],[],_,_,_,_,_,_,rfl,s1,hr1,.nil,rfl,by simp⟩ ?_ ?_
  ·rintro i σ H2 hi ⟨bs,ls,a1,a2,a3,a4,a5,a6,rfl,s2,hr2,hT2,hl2,hd2⟩;have hS2:=s2.seq hS;have hA2:=s2.seq hA;have hbl:=hT2.length;have hbz:bs.length<sizeLine:=Zu (by omega);have np:0<((ss.map V.int).length:Int):=by omega
   walk_at "rds";rename_i mx hmx mx0 mx1;clear hmx;have r1:=Int.emod_nonneg mx (show((ss.map V.int).length:Int)≠0 by omega);have r2:=Int.emod_lt_of_pos mx np;have t1:=Int.emod_nonneg (mx / 89) (show((ss.map V.int).length:Int)≠0 by omega);have t2:=Int.emod_lt_of_pos (mx / 89) np;generalize mx % ((ss.map V.int).length:Int)=g at*;generalize mx / 89 % ((ss.map V.int).length:Int)=t at*;rw[hsl] at r2 t2;obtain⟨x,ex,x0,x1⟩:=WC hss r1 r2;obtain⟨y,ey,y0,y1⟩:=WC hss t1 t2;have at1:=ZR r1 r2;have at2:=ZR t1 t2;rw[ex] at at1;rw[ey] at at2;walk_at "rds";refine⟨x,y,rfl,?_⟩;obtain⟨f,ef⟩:∃f:Nat,1+mx / 7921 % 3=(f:Int):=⟨(1+mx / 7921 % 3).toNat,by omega⟩;have f0:0<f:=by omega
   have f1:f≤10 ^ 10:=by omega
   walk_at "rds";rw[ef];obtain⟨q1,q2,q3,q4,q5⟩:=ZfO x0 y0 f0 x1 y1 f1;have m1:=Zh2 f1 x1;have m2:=Zh2 f1 y1;have gd:=Zd5 (a:=0) (Nat.gcd_pos_of_pos_left y x0) (Nat.lt_of_le_of_lt (Nat.le_trans (Nat.le_of_dvd x0 (Nat.gcd_dvd_left x y)) x1) (Nat.lt_of_lt_of_le (by decide:10 ^ 13<2 ^ 110) (Nat.pow_le_pow_right (by decide) (by decide))));walk_at "rds";have eg:(f:Int)*(y:Int) / ((Nat.gcd x y:Nat):Int)=((f*y / Nat.gcd x y:Nat):Int):=rfl;have et:(f:Int)*(x:Int) / ((Nat.gcd x y:Nat):Int)=((f*x / Nat.gcd x y:Nat):Int):=rfl;rw[eg,et];refine⟨by show 4≤sizeLine;decide,fun u hu'=>?_⟩;have su:Zd H2 (upd H2 u (.tup [.int g,.int t,.int ((f*y / Nat.gcd x y:Nat):Int),.int ((f*x / Nat.gcd x y:Nat):Int)])):=Zo hu';have hu3:(upd H2 u (.tup [.int g,.int t,.int ((f*y / Nat.gcd x y:Nat):Int),.int ((f*x / Nat.gcd x y:Nat):Int)])) u=some (.tup (B5.mk g t ((f*y / Nat.gcd x y:Nat):Int) ((f*x / Nat.gcd x y:Nat):Int) 0).v4):=Ze;have hr3:=su _ _ hr2;generalize upd H2 u (.tup [.int g,.int t,.int ((f*y / Nat.gcd x y:Nat):Int),.int ((f*x / Nat.gcd x y:Nat):Int)])=H4 at*;walk_at "rds";have fr4:ZH [r] H4 (upd H4 r (.lst (bs++ [.ref u]))):=Yk (by simp) hr3 (by intro _ z;cases z);refine⟨bs++ [.ref u],ls++ [⟨g,t,((f*y / Nat.gcd x y:Nat):Int),((f*x / Nat.gcd x y:Nat):Int),0⟩],_,_,_,_,_,_,rfl,(s2.trans su).new hr,Ze,((hT2.keep fun b xs e=>su _ _ e).keep fr4.tups).snoc (fr4.tups _ _ hu3),by simp[hl2],fun l hl=>?_⟩;rcases List.mem_append.mp hl with z|z
   ·exact hd2 l z
   ·rw[List.mem_singleton.mp z];refine⟨⟨r1,r2,t1,t2⟩,⟨_,_,rfl,rfl,q1,q2,q3,q4,?_⟩,Int.le_refl _⟩;dsimp only;rw[ex,ey,Int.toNat_natCast,Int.toNat_natCast];exact q5
  ·rintro σ H2 ⟨bs,ls,a1,a2,a3,a4,a5,a6,rfl,s2,hr2,hT2,hl2,hd2⟩;walk_at "rds";exact q r H2 bs ls hr s2 hr2 hT2 (by omega) hd2
end
def ZbL{K:PySem.W.Frag}{mg:Str→Option Value}(T:Tp K mg):Sp:=fun vs H Q _=>∃(lp:Addr)(bs:List V)(ls:List B5)(f:Int)(n:Nat),vs=[.ref lp,.int f,.int n]∧H lp=some (.lst bs)∧YB H bs ls∧ZM ls n∧n≤60∧0≤f∧f<(n:Int)∧
 ∀(r:Addr)(H':Hp)(ys:List Int),H r=none→Zd H H'→H' r=some (.lst (ys.map V.int))→f∈ys→(∀w∈ys,0≤w∧w<(n:Int))→(∀j<ls.length,((ls.getD j dB).giver∈ys↔(ls.getD j dB).taker∈ys))→(∀P:Int→Prop,P f→(∀j<ls.length,P (ls.getD j dB).giver↔P (ls.getD j dB).taker)→∀w∈ys,P w)→Q (.ref r) H'
section
variable {P:Program}{w:World}{K:PySem.W.Frag}{mg:Str→Option Value}{base:Heap}
theorem ZfW(T:Tp K mg):Zk P w K mg base (CXX P w) 1 T.f_l_reached T.d_l_reached ["_law_lines_here","_law_first","_law_many"] (ZbL T):=by
 refine T.F_l_reached.okX Ua (fun vs H Q E h=>?_) (fun cdv A outer s H vs Q E hr h=>?_)
 ·obtain⟨lp,bs,ls,f,n,rfl,_⟩:=h
  rfl
 ·have hu:=hr.units;obtain⟨lp,bs,ls,f,n,rfl,hlp,hT,hbt,hn,f0,f1,q⟩:=h;have hbl:=hT.length;refine⟨_,(Zc (Zs (i:=3) Ua.nd rfl (Or.inl rfl) (YC (Za (pv 1) Zb)))
     (Zc (Z5 PassesOwn.leaving rfl (Z4 rfl T.n_range (Za (pv 2) Zb)) (Zp (i:=4) Ua.nd rfl (Or.inl rfl)) (Zh (Z5 PassesOwn.leaving rfl (Z0 (K:=K) rfl (pv 0)) (Zp (i:=5) Ua.nd rfl (Or.inl rfl)) (Zc (Zal (ZW (PW.pt (ZbM (ZC (ZjO (K:=K) rfl) (Zj (Zq (K:=K) rfl) (pv 5) Zf (fun _ _=>rfl)) (pv 3) (by with_unfolding_all rfl)) (Za1 (ZC (ZgO (K:=K) rfl) (Zj (Zq (K:=K) rfl) (pv 5) Zf (fun _ _=>rfl)) (pv 3) (by with_unfolding_all rfl))))) (Zh (ZX (Yt (K:=K) rfl PySem.F.plainAttrs_list PySem.F.slot_list_append PySem.F.type_list_append Yc (pv 3) (Za (Zj (Zq (K:=K) rfl) (pv 5) Zf (fun _ _=>rfl)) Zb)))) ZJ))
     (Zh (Zal (ZW (PW.pt (ZbM (ZC (ZjO (K:=K) rfl) (Zj (Zq (K:=K) rfl) (pv 5) Zf (fun _ _=>rfl)) (pv 3) (by with_unfolding_all rfl)) (Za1 (ZC (ZgO (K:=K) rfl) (Zj (Zq (K:=K) rfl) (pv 5) Zf (fun _ _=>rfl)) (pv 3) (by with_unfolding_all rfl))))) (Zh (ZX (Yt (K:=K) rfl PySem.F.plainAttrs_list PySem.F.slot_list_append PySem.F.type_list_append Yc (pv 3) (Za (Zj (Zq (K:=K) rfl) (pv 5) Zf (fun _ _=>rfl)) Zb)))) ZJ)))))))
     (Zh (Zw (pv 3))))),?_⟩
  try dsimp only[L2.cxX,L2.ZN,L2.Zn]
  walk_at "rds";intro r hr;have s1:Zd H (upd H r (.lst [V.int f])):=Zo hr;have hr1:(upd H r (.lst [V.int f])) r=some (.lst (([f]:List Int).map V.int)):=Ze;generalize upd H r (.lst [V.int f])=H1 at*;have hlp1:=s1 _ _ hlp;walk_at "rds";refine YL (n:=n) (fun i σ H'=>∃(ys:List Int)(a1 a2:Option V),σ=[some (.ref lp),some (.int f),some (.int n),some (.ref r),a1,a2]∧Zd H H'∧H' r=some (.lst (ys.map V.int))∧f∈ys∧ys.Nodup∧(∀w∈ys,0≤w∧w<(n:Int))∧U8 ls f ys∧(ZdT ls ys∨i<ys.length)) ⟨[f],_,_,rfl,s1,hr1,by simp,by simp,by simp;omega,fun P pf _ w hw=>by rw[List.mem_singleton.mp hw];exact pf,.inr (by simp)⟩ ?_ ?_
  ·rintro i0 σ H2 hi0 ⟨xs,a1,a2,rfl,s2,hr2,hf,hnd,hrg,hsp,hlen⟩;have hlp2:=s2 _ _ hlp;have hsr2:=SqL.of (K:=K) hr2;walk_at "rds";refine WN (ZT (SqL.of hlp)) (fun i σ H'=>Zd H H'∧∃(a3:Option V)(ys:List Int),σ=[some (.ref lp),some (.int f),some (.int n),some (.ref r),some (.int (0+(i0:Int))),a3]∧H' r=some (.lst (ys.map V.int))∧ZbO ls n i xs ys∧U8 ls f ys) ⟨s2,_,xs,rfl,hr2,⟨⟨[],(List.append_nil xs).symm⟩,hnd,hrg,fun _ j hj=>absurd hj (Nat.not_lt_zero _)⟩,hsp⟩ (fun i σ H' h=>h.1) ?_ ?_
   ·rintro i σ H3 hi ⟨s3,a3,ys,rfl,hr3,hm,hsy⟩;have hil:i<ls.length:=by omega
    obtain⟨t,et,ht⟩:=hT.getD hil;rw[et];have ht3:=s3 _ _ ht;have hms:=hm.step hbt hil;have hyl:=Fo.Ub hm.nd hm.rg;have hlb:=hbt.at hil;have hs1:=hsy.add (a:=(ls.getD i dB).giver) (b:=(ls.getD i dB).taker) (fun P pj=>(pj i hil).mp);have hs2:=hs1.add (a:=(ls.getD i dB).taker) (b:=(ls.getD i dB).giver) (fun P pj=>(pj i hil).mpr);generalize ls.getD i dB=l at*;have hsr:=SqL.of (K:=K) hr3;dsimp only[B5.v4] at ht ht3;walk_at "rds";refine Rd.cut (fun σ' H'=>Zd H H'∧σ'=[some (.ref lp),some (.int f),some (.int n),some (.ref r),some (.int (0+(i0:Int))),some (.ref t)]∧H' r=some (.lst ((addW l.giver l.taker ys).map V.int))) ?k1 ?i1
    case i1=>
     walk_at "rds";refine Rd.ifD (fun c=>?_) (fun c=>?_)
     ·walk_at "rds"
      by_cases c2:l.taker∈ys
      ·rw[if_neg (by simp[c2])];walk_at "rds";exact⟨s3,rfl,by rw[hr3];unfold addW;rw[if_neg (fun z=>z.2 c2)]⟩
      ·rw[if_pos (by simp[c2])];have hz:(ys.map V.int).length<sizeLine:=Zu (by rw[List.length_map];omega);walk_at "rds";exact⟨s3.new hr,rfl,by rw[Ze];unfold addW;rw[if_pos ⟨c,c2⟩,List.map_append];rfl⟩
     ·walk_at "rds";exact⟨s3,rfl,by rw[hr3];unfold addW;rw[if_neg (fun z=>c z.1)]⟩
    case k1=>
     rintro σ' H4 ⟨s4,rfl,hr4⟩;have ht4:=s4 _ _ ht;obtain⟨b1,b2,b3,b4⟩:=hlb;obtain⟨p1,p2,p3,p4,p5⟩:=ZbK (a:=l.giver) ⟨b3,b4⟩ hm.ext hm.nd hm.rg;have hzl:=Fo.Ub p2 p3;generalize addW l.giver l.taker ys=zs at*;have hsr4:=SqL.of (K:=K) hr4;walk_at "rds";refine Rd.cut (fun σ' H'=>Zd H H'∧σ'=[some (.ref lp),some (.int f),some (.int n),some (.ref r),some (.int (0+(i0:Int))),some (.ref t)]∧H' r=some (.lst ((addW l.taker l.giver zs).map V.int))) ?k2 ?i2
     case i2=>
      walk_at "rds";refine Rd.ifD (fun c=>?_) (fun c=>?_)
      ·walk_at "rds"
       by_cases c2:l.giver∈zs
       ·rw[if_neg (by simp[c2])];walk_at "rds";exact⟨s4,rfl,by rw[hr4];unfold addW;rw[if_neg (fun z=>z.2 c2)]⟩
       ·rw[if_pos (by simp[c2])];have hz:(zs.map V.int).length<sizeLine:=Zu (by rw[List.length_map];omega);walk_at "rds";exact⟨s4.new hr,rfl,by rw[Ze];unfold addW;rw[if_pos ⟨c,c2⟩,List.map_append];rfl⟩
      ·walk_at "rds";exact⟨s4,rfl,by rw[hr4];unfold addW;rw[if_neg (fun z=>c z.1)]⟩
     case k2=>
      rintro σ' H5 ⟨s5,rfl,hr5⟩;walk_at "rds";exact⟨s5,_,_,rfl,hr5,hms,hs2⟩
   ·rintro σ H3 ⟨s3,a3,ys,rfl,hr3,hm,hsy⟩;rw[hbl] at hm;walk_at "rds";have hfy:f∈ys:=by obtain⟨ws,ew⟩:=hm.ext;rw[ew];exact List.mem_append.mpr (.inl hf)
    refine⟨ys,_,_,rfl,s3,hr3,hfy,hm.nd,hm.rg,hsy,?_⟩;rcases hlen with hcl|hlen
    ·have ey:=hm.shut fun w hw=>hsy (fun w=>w∈xs) hf hcl w hw;exact .inl (by rw[ey];exact hcl)
    ·rcases hm.lap with⟨hcl,ey⟩|z
     ·exact .inl (by rw[ey];exact hcl)
     ·exact .inr (by omega)
  ·rintro σ H2 ⟨ys,a1,a2,rfl,s2,hr2,hf,hnd,hrg,hsp,hlen⟩;have:=Fo.Ub hnd hrg;walk_at "rds";rcases hlen with hcl|hlen
   ·exact q r H2 ys hr s2 hr2 hf hrg hcl hsp
   ·omega
end
def Zdf{K:PySem.W.Frag}{mg:Str→Option Value}(T:Tp K mg):Sp:=fun vs H Q _=>∃(lp a:Addr)(bs:List V)(ls:List B5)(ss:List Int),vs=[.ref lp,.ref a]∧H lp=some (.lst bs)∧YB H bs ls∧SqL K H a (ss.map V.int)∧WU ss∧ZM ls ss.length∧ss.length≤30∧
 ∀(r:Addr)(H':Hp)(rs:List Int),H r=none→Zd H H'→H' r=some (.lst (rs.map V.int))→Zav ls ss rs→Q (.ref r) H'
section
variable {P:Program}{w:World}{K:PySem.W.Frag}{mg:Str→Option Value}{base:Heap}
theorem Zha(T:Tp K mg):Zk P w K mg base (CXX P w) 2 T.f_l_rates T.d_l_rates ["_law_lines_here","_law_sizes"] (Zdf T):=by
 have G_l_reached:Zk P w K mg base (CXX P w) 1 T.f_l_reached T.d_l_reached ["_law_lines_here","_law_first","_law_many"] (ZbL T):=(ZfW T).mono (by decide);have G_l_divisor:Zk P w K mg base (CXX P w) 1 T.f_l_divisor T.d_l_divisor ["_law_one","_law_other"] (VU T):=(Zao T).mono (by decide);refine T.F_l_rates.okX Vc (fun vs H Q E h=>?_) (fun cdv A outer s H vs Q E hr h=>?_)
 ·obtain⟨lp,a,bs,ls,ss,rfl,_⟩:=h
  rfl
 ·have hu:=hr.units;obtain⟨lp,a,bs,ls,ss,rfl,hlp,hT,hA,hss,hbt,hn,q⟩:=h;have hsl:((ss.map V.int).length:Int)=(ss.length:Int):=by simp
  refine⟨_,(Zc (Zs (i:=2) Vc.nd rfl (Or.inl rfl) (YC Zb))
     (Zc (Z5 PassesOwn.leaving rfl (Z4 rfl T.n_range (Za (Zy (Ya (K:=K) rfl) (by rfl) T.n_len PySem.boot_len (Za (pv 1) Zb)) Zb)) (Zp (i:=3) Vc.nd rfl (Or.inl rfl)) (Zc (Zs (i:=4) Vc.nd rfl (Or.inl rfl) Zf)
     (Zc (Z5 PassesOwn.leaving rfl (Z0 (K:=K) rfl (Zr G_l_reached hr rfl T.m_l_reached T.F_l_reached.kp T.b_l_reached .nil Zl (Za (pv 0) (Za (pv 3) (Za (Zy (Ya (K:=K) rfl) (by rfl) T.n_len PySem.boot_len (Za (pv 1) Zb)) Zb))))) (Zp (i:=5) Vc.nd rfl (Or.inl rfl)) (Zh (Zs (i:=4) Vc.nd rfl (Or.inl rfl) (Zr G_l_divisor hr rfl T.m_l_divisor T.F_l_divisor.kp T.b_l_divisor .nil Zl (Za (pv 4) (Za (Zj (Zq (K:=K) rfl) (pv 1) (pv 5) (fun _ _=>rfl)) Zb))))))
     (Zh (ZX (Yt (K:=K) rfl PySem.F.plainAttrs_list PySem.F.slot_list_append PySem.F.type_list_append Yc (pv 2) (Za (Zv Z3 (Zj (Zq (K:=K) rfl) (pv 1) (pv 3) (fun _ _=>rfl)) (pv 4)) Zb)))))))
     (Zh (Zw (pv 2))))),?_⟩
  try dsimp only[L2.cxX,L2.ZN,L2.Zn]
  walk_at "rds";refine⟨Nat.zero_le _,fun r hr=>?_⟩;have s1:Zd H (upd H r (.lst [])):=Zo hr;have hr1:(upd H r (.lst [])) r=some (.lst (([]:List Int).map V.int)):=Ze;generalize upd H r (.lst [])=H1 at*;have hA1:=s1.seq hA;walk_at "rds";refine YL (n:=((ss.map V.int).length:Int).toNat) (fun i σ H'=>∃(rs:List Int)(a1 a2 a3:Option V),σ=[some (.ref lp),some (.ref a),some (.ref r),a1,a2,a3]∧Zd H H'∧H' r=some (.lst (rs.map V.int))∧rs.length=i∧∀w<i,Zdr ls ss w (rs.getD w 0)) ⟨[],_,_,_,rfl,s1,hr1,rfl,fun w h=>absurd h (Nat.not_lt_zero _)⟩ ?_ ?_
  ·rintro i σ H2 hi ⟨rs,a1,a2,a3,rfl,s2,hr2,hrl,hrs⟩;have hil:i<ss.length:=by omega
   have hA2:=s2.seq hA;have hrz:(rs.map V.int).length<sizeLine:=Zu (by rw[List.length_map];omega);walk_at "rds";rw[Int.zero_add,hsl];refine⟨lp,bs,ls,(i:Int),ss.length,rfl,s2 _ _ hlp,hT.keep (fun b xs e=>s2 _ _ e),hbt,by omega,by omega,by omega,fun ra H3 ys hra s3 hra3 hm hrg hcl hsp=>?_⟩;have s23:=s2.trans s3;have hA3:=s23.seq hA;walk_at "rds";refine WN (ZT (SqL.of hra3)) (fun j σ H'=>H'=H3∧∃a3:Option V,σ=[some (.ref lp),some (.ref a),some (.ref r),some (.int i),some (.int (gcdL ss (ys.take j):Nat)),a3]) ⟨rfl,_,rfl⟩ (fun i σ H' h=>by rw[h.1];exact Zd.refl _) ?_ ?_
   ·rintro j σ H4 hj ⟨rfl,a3,rfl⟩;have hj':j<ys.length:=by simpa using hj
    have ev:(ys.map V.int).getD j .non= .int ys[j]:=by simp[List.getD,hj']
    rw[ev];have hr':=hrg _ (List.getElem_mem hj');have eg:=Zih ss (ys.take j) ys[j];rw[←List.take_succ_eq_append_getElem hj'] at eg;generalize ys[j]=v at*;obtain⟨x,ex,x0,x1⟩:=WC hss hr'.1 hr'.2;have at1:=ZR hr'.1 hr'.2;rw[ex] at at1;rw[ex,Int.toNat_natCast] at eg;walk_at "rds";refine⟨gcdL ss (ys.take j),x,rfl,?_⟩;walk_at "rds";exact⟨rfl,some (.int v),by rw[eg]⟩
   ·rintro σ H4 ⟨rfl,a3,rfl⟩;have hr3:=s3 _ _ hr2;rw[List.length_map,List.take_length];obtain⟨x,ex,x0,x1⟩:=WC hss (Int.natCast_nonneg i) (show(i:Int)<ss.length by omega);rw[Int.toNat_natCast] at ex;have at1:=ZR (ns:=ss) (k:=(i:Int)) (Int.natCast_nonneg i) (by omega);rw[Int.toNat_natCast,ex] at at1;have g0:0<gcdL ss ys:=ZcT hm (by rw[Int.toNat_natCast,ex,Int.toNat_natCast];exact x0);have gx:gcdL ss ys ∣ x:=by
     have:=(UD ss ys 0).2 _ hm;rw[Int.toNat_natCast,ex,Int.toNat_natCast] at this;exact this
    have g1:gcdL ss ys≤x:=Nat.le_of_dvd x0 gx;have gd:=Zd5 (a:=0) g0 (Nat.lt_of_le_of_lt (Nat.le_trans g1 x1) (Nat.lt_of_lt_of_le (by decide:10 ^ 13<2 ^ 110) (Nat.pow_le_pow_right (by decide) (by decide))));have hR:Zdr ls ss i (((x / gcdL ss ys:Nat):Int)):=⟨ys,hm,hrg,hcl,hsp,by rw[ex,Int.toNat_natCast]⟩;have ed:(x:Int) / ((gcdL ss ys:Nat):Int)=((x / gcdL ss ys:Nat):Int):=rfl;generalize gcdL ss ys=g at*;walk_at "rds";rw[ed];refine⟨rs++ [((x / g:Nat):Int)],_,_,_,rfl,s23.new hr,by rw[Ze,List.map_append];rfl,by simp[hrl],fun w hw=>?_⟩;rcases Nat.lt_or_ge w i with z|z
    ·have e:(rs++ [((x / g:Nat):Int)]).getD w 0=rs.getD w 0:=by simp[List.getD,List.getElem?_append_left (show w<rs.length by omega)]
     rw[e];exact hrs w z
    ·obtain rfl:w=i:=by omega
     have e:(rs++ [((x / g:Nat):Int)]).getD w 0=((x / g:Nat):Int):=by rw[←hrl];simp[List.getD]
     rw[e];exact hR
  ·rintro σ H2 ⟨rs,a1,a2,a3,rfl,s2,hr2,hrl,hrs⟩;have el:((ss.map V.int).length:Int).toNat=ss.length:=by simp
   rw[el] at hrl hrs;walk_at "rds";exact q r H2 rs hr s2 hr2 ⟨hrl,hrs⟩
end
def ZbP{K:PySem.W.Frag}{mg:Str→Option Value}(T:Tp K mg):Sp:=fun vs H Q _=>∃(p lp ra:Addr)(ns:List Int)(bs:List V)(ls:List B5)(ss rs:List Int),vs=[.ref p,.ref lp,.ref ra]∧SqL K H p (ns.map V.int)∧H lp=some (.lst bs)∧YB H bs ls∧SqL K H ra (rs.map V.int)∧rs.length=ss.length∧(∀r∈rs,0≤r∧r≤10 ^ 13)∧ls.length≤60∧(∀l∈ls,W4 ss l)∧
 ∀(r:Addr)(H':Hp)(bs':List V)(ls':List B5),H r=none→Zd H H'→H' r=some (.lst bs')→Z8 H' bs' ls'→ls'.length=ls.length→(∀j<ls.length,∃s:Int,0≤s∧ls'.getD j dB=Wo (ls.getD j dB) s∧(Wd ns 0 / 40 % 2=0→s=(ls.getD j dB).take*rs.getD (ls.getD j dB).taker.toNat 0))→Q (.ref r) H'
section
variable {P:Program}{w:World}{K:PySem.W.Frag}{mg:Str→Option Value}{base:Heap}
theorem Ze8(T:Tp K mg):Zk P w K mg base (CXX P w) 3 T.f_l_started T.d_l_started ["_law_script","_law_lines_here","_law_rates_here"] (ZbP T):=by
 have G_l_mixed:Zk P w K mg base (CXX P w) 2 T.f_l_mixed T.d_l_mixed ["_law_script","_law_k"] (WH T):=(UX T).mono (by decide);refine T.F_l_started.okX Yp (fun vs H Q E h=>?_) (fun cdv A outer s H vs Q E hr h=>?_)
 ·obtain⟨p,lp,ra,ns,bs,ls,ss,rs,rfl,_⟩:=h
  rfl
 ·have hu:=hr.units;obtain⟨p,lp,ra,ns,bs,ls,ss,rs,rfl,hS,hlp,hT,hR,hrl,hrb,hz,hL,q⟩:=h;have hbl:=hT.length;refine⟨_,(Zc (Zs (i:=3) Yp.nd rfl (Or.inl rfl) (YC Zb))
     (Zc (Z5 PassesOwn.leaving rfl (Z4 rfl T.n_range (Za (Zy (Ya (K:=K) rfl) (by rfl) T.n_len PySem.boot_len (Za (pv 1) Zb)) Zb)) (Zp (i:=4) Yp.nd rfl (Or.inl rfl)) (Zc (Wg (Zj (Zq (K:=K) rfl) (pv 1) (pv 4) (fun _ _=>rfl)) (YF (K:=K) (n:=4) rfl rfl (ZE (Zp (i:=5) Yp.nd rfl (Or.inl rfl)) (ZE (Zp (i:=6) Yp.nd rfl (Or.inl rfl)) (ZE (Zp (i:=7) Yp.nd rfl (Or.inl rfl)) (ZE (Zp (i:=8) Yp.nd rfl (Or.inl rfl)) YD))))))
     (Zc (Zs (i:=9) Yp.nd rfl (Or.inl rfl) (Zv Z3 (Zr G_l_mixed hr rfl T.m_l_mixed T.F_l_mixed.kp T.b_l_mixed .nil Zl (Za (pv 0) (Za (Zv (Z6 (K:=K) rfl) Zf (pv 4)) Zb))) Zf))
     (Zc (Zs (i:=10) Yp.nd rfl (Or.inl rfl) (Zv YR (pv 8) (Zj (Zq (K:=K) rfl) (pv 2) (pv 6) (fun _ _=>rfl))))
     (Zc (Zal (ZW (ZC (Wc (K:=K) rfl hu) (Zv Yi (Zv Z3 (Zr G_l_mixed hr rfl T.m_l_mixed T.F_l_mixed.kp T.b_l_mixed .nil Zl (Za (pv 0) (Za Zf Zb))) Zf) Zf) Zf (ZI _)) (Zh (Zs (i:=10) Yp.nd rfl (Or.inl rfl) (Zj (Zq (K:=K) rfl) (YC (Za (pv 10) (Za Zf (Za (Zv Zau (pv 8) Zf) (Za (pv 7) (Za (pv 10) (Za (Zv (Z6 (K:=K) rfl) (pv 7) (pv 8)) Zb))))))) (Zv Yi (pv 9) Zf) (fun _ _=>rfl)))) ZJ))
     (Zh (ZX (Yt (K:=K) rfl PySem.F.plainAttrs_list PySem.F.slot_list_append PySem.F.type_list_append Yc (pv 3) (Za (Yv (Za (pv 5) (Za (pv 6) (Za (pv 7) (Za (pv 8) (Za (pv 10) Zb)))))) Zb)))))))))
     (Zh (Zw (pv 3))))),?_⟩
  try dsimp only[L2.cxX,L2.ZN,L2.Zn]
  walk_at "rds";refine⟨Nat.zero_le _,fun r hr=>?_⟩;have s1:Zd H (upd H r (.lst [])):=Zo hr;have hr1:(upd H r (.lst [])) r=some (.lst []):=Ze;generalize upd H r (.lst [])=H1 at*;have hlp1:=s1 _ _ hlp;walk_at "rds";refine YL (n:=((bs.length:Nat):Int).toNat) (fun i σ H'=>∃(cs:List V)(ks:List B5)(a1 a2 a3 a4 a5 a6 a7:Option V),σ=[some (.ref p),some (.ref lp),some (.ref ra),some (.ref r),a1,a2,a3,a4,a5,a6,a7]∧Zd H H'∧H' r=some (.lst cs)∧Z8 H' cs ks∧ks.length=i∧∀j<i,∃s:Int,0≤s∧ks.getD j dB=Wo (ls.getD j dB) s∧(Wd ns 0 / 40 % 2=0→s=(ls.getD j dB).take*rs.getD (ls.getD j dB).taker.toNat 0)) ⟨[],[],_,_,_,_,_,_,_,rfl,s1,hr1,.nil,rfl,fun j h=>absurd h (Nat.not_lt_zero _)⟩ ?_ ?_
  ·rintro i σ H2 hi ⟨cs,ks,a1,a2,a3,a4,a5,a6,a7,rfl,s2,hr2,hT2,hl2,hd2⟩;have hil:i<ls.length:=by omega
   have hS2:=s2.seq hS;have hR2:=s2.seq hR;have hlp2:=s2 _ _ hlp;have hbz:cs.length<sizeLine:=Zu (by have:=hT2.length;omega);obtain⟨t,et,ht⟩:=hT.getD hil;have ht2:=s2 _ _ ht;have at0:atI bs (0+(i:Int))=some (.ref t):=by
    rw[Int.zero_add];exact YT (by rw[List.getElem?_eq_getElem (show i<bs.length by omega),←et,Zx (show i<bs.length by omega)])
   have hLi:=hL (ls.getD i dB) (by rw[Zx hil];exact List.getElem_mem hil);generalize hbb:ls.getD i dB=bb at*;obtain⟨gv,tk,eg,ek,g0,t0,g1,t1,_⟩:=hLi.sz;obtain⟨b1,b2,b3,b4⟩:=hLi.rg;dsimp only[B5.v4] at ht2;walk_at "rds";refine Rd.VB (.of ht2) rfl ?_;have at1:=ZR (ns:=rs) (k:=bb.taker) b3 (by omega);obtain⟨rt,ert,hrt⟩:∃rt:Nat,rs.getD bb.taker.toNat 0=(rt:Int)∧rt<2 ^ 110:=by
    have hm:rs.getD bb.taker.toNat 0∈rs:=by rw[Zx (by omega)];exact List.getElem_mem _
    obtain⟨x0,x1⟩:=hrb _ hm;exact⟨(rs.getD bb.taker.toNat 0).toNat,by omega,by omega⟩
   rw[ert] at at1;have mo1:IntMulOk bb.take (rt:Int):=by rw[ek];exact Zam t1 hrt (by decide)
   walk_at "rds";rename_i mx hmx mx0 mx1;clear hmx;have e2:0≤bb.take*(rt:Int):=by rw[ek];exact Int.mul_nonneg (by omega) (by omega)
   generalize hs2q:bb.take*(rt:Int)=s2q at*;refine Rd.cut (fun σ' H'=>Zd H2 H'∧∃st:Int,σ'=[some (.ref p),some (.ref lp),some (.ref ra),some (.ref r),some (.int (0+(i:Int))),some (.int bb.giver),some (.int bb.taker),some (.int bb.give),some (.int bb.take),some (.int (mx / 23763)),some (.int st)]∧0≤st∧(Wd ns 0 / 40 % 2=0→st=s2q)) ?k1 ?i1
   case i1=>
    walk_at "rds";rename_i m0 hm0 m00 m01;refine Rd.ifD (fun c=>?_) (fun c=>?_)
    ·walk_at "rds";refine⟨by show 6≤sizeLine;decide,fun u0 hu0=>?_⟩;have su:Zd H2 (upd H2 u0 (.lst [V.int s2q,V.int 0,V.int (bb.take-1),V.int bb.give,V.int s2q,V.int (bb.give+bb.take)])):=Zo hu0;have hu1:(upd H2 u0 (.lst [V.int s2q,V.int 0,V.int (bb.take-1),V.int bb.give,V.int s2q,V.int (bb.give+bb.take)])) u0=some (.lst (([s2q,0,bb.take-1,bb.give,s2q,bb.give+bb.take]:List Int).map V.int)):=Ze;generalize upd H2 u0 (.lst [V.int s2q,V.int 0,V.int (bb.take-1),V.int bb.give,V.int s2q,V.int (bb.give+bb.take)])=H3 at*;have at2:=ZR (ns:=[s2q,0,bb.take-1,bb.give,s2q,bb.give+bb.take]) (k:=mx / 23763 % 6) (by omega) (by simp;omega);have st0:0≤([s2q,0,bb.take-1,bb.give,s2q,bb.give+bb.take]:List Int).getD (mx / 23763 % 6).toNat 0:=by
      have hm:([s2q,0,bb.take-1,bb.give,s2q,bb.give+bb.take]:List Int).getD (mx / 23763 % 6).toNat 0∈[s2q,0,bb.take-1,bb.give,s2q,bb.give+bb.take]:=by rw[Zx (by simp;omega)];exact List.getElem_mem _
      simp only[List.mem_cons,List.not_mem_nil,or_false] at hm;omega
     walk_at "rds";exact⟨su,_,rfl,st0,fun z=>by rw[←hm0] at z;omega⟩
    ·walk_at "rds";exact⟨Zd.refl _,_,rfl,e2,fun _=>rfl⟩
   case k1=>
   rintro σ' H3 ⟨su,st,rfl,st0,stz⟩;have hr3:=su _ _ hr2;walk_at "rds";refine⟨by show 5≤sizeLine;decide,fun u hu'=>?_⟩;have sv:Zd H3 (upd H3 u (.tup [.int bb.giver,.int bb.taker,.int bb.give,.int bb.take,.int st])):=Zo hu';have hv:(upd H3 u (.tup [.int bb.giver,.int bb.taker,.int bb.give,.int bb.take,.int st])) u=some (.tup (Wo bb st).v):=Ze;generalize upd H3 u (.tup [.int bb.giver,.int bb.taker,.int bb.give,.int bb.take,.int st])=H4 at*;have hr4:=sv _ _ (su _ _ hr2);walk_at "rds";have fr4:ZH [r] H4 (upd H4 r (.lst (cs++ [.ref u]))):=Yk (by simp) hr4 (by intro _ z;cases z);have ss4:=su.trans sv;refine⟨cs++ [.ref u],ks++ [Wo bb st],_,_,_,_,_,_,_,rfl,(s2.trans ss4).new hr,Ze,((hT2.keep fun b xs e=>ss4 _ _ e).keep fr4.tups).snoc (fr4.tups _ _ hv),by simp[hl2],fun j hj=>?_⟩;rcases Nat.lt_or_ge j i with z|z
   ·have e:(ks++ [Wo bb st]).getD j dB=ks.getD j dB:=by simp[List.getD,List.getElem?_append_left (show j<ks.length by omega)]
    rw[e];exact hd2 j z
   ·obtain rfl:j=i:=by omega
    have e:(ks++ [Wo bb st]).getD j dB=Wo bb st:=by rw[←hl2];simp[List.getD]
    exact⟨st,st0,by rw[e,hbb],fun z=>by rw[hbb,ert,hs2q];exact stz z⟩
  ·rintro σ H2 ⟨cs,ks,a1,a2,a3,a4,a5,a6,a7,rfl,s2,hr2,hT2,hl2,hd2⟩;rw[Int.toNat_natCast,hbl] at hl2 hd2;walk_at "rds";exact q r H2 cs ks hr s2 hr2 hT2 hl2 hd2
end
def Uz{K:PySem.W.Frag}{mg:Str→Option Value}(T:Tp K mg):Sp:=fun vs H Q _=>∃i:Int,vs=[.int i]∧Q (.bl true) H
theorem Zgn{K:PySem.W.Frag}{mg:Str→Option Value}{T:Tp K mg}{H:Hp}{Q:VK}{E:XK}{i:Int}(q:Q (.bl true) H):Uz T ([.int i]++ []) H Q E:=⟨i,rfl,q⟩
local macro_rules| `(tactic|walk_at "rd")=>`(tactic|first|((with_reducible show Nm.Uz _ _ _ _ _);with_reducible refine Nm.Zgn ?_)|fail "none here")
section
variable {P:Program}{w:World}{K:PySem.W.Frag}{mg:Str→Option Value}{base:Heap}
theorem Zgi(T:Tp K mg):Zk P w K mg base (CXX P w) 1 T.f_is_whole T.d_is_whole ["thing"] (Uz T):=by
 refine T.F_is_whole.okX ZfY (fun vs H Q E h=>?_) (fun cdv A outer s H vs Q E hr h=>?_)
 ·obtain⟨i,rfl,_⟩:=h
  rfl
 ·have hu:=hr.units;obtain⟨i,rfl,q⟩:=h;refine⟨_,(Zh (Zw (ZbC (Zy (Za9 (K:=K) rfl) (by rfl) T.n_isinstance PyProof.Rows.boot_isinstance (Za (pv 0) (Za (Um (v:= .ty "int") (by rfl) T.n_int PyProof.Rows.boot_int rfl) Zb))) (ZbF (Ziu (Zy (Za9 (K:=K) rfl) (by rfl) T.n_isinstance PyProof.Rows.boot_isinstance (Za (pv 0) (Za (Um (v:= .ty "bool") (by rfl) T.n_bool PyProof.Rows.boot_bool rfl) Zb)))))))),?_⟩
  try dsimp only[L2.cxX,L2.ZN,L2.Zn]
  walk_at "rds";exact q
end
def Vj{K:PySem.W.Frag}{mg:Str→Option Value}(T:Tp K mg):Sp:=fun vs H Q _=>∃i l:Int,vs=[.int i,.int l]∧Q (.bl (decide (l≤i))) H
theorem Zg0{K:PySem.W.Frag}{mg:Str→Option Value}{T:Tp K mg}{H:Hp}{Q:VK}{E:XK}{i l:Int}(q:Q (.bl (decide (l≤i))) H):Vj T ([.int i,.int l]++ []) H Q E:=⟨i,l,rfl,q⟩
local macro_rules| `(tactic|walk_at "rd")=>`(tactic|first|((with_reducible show Nm.Vj _ _ _ _ _);with_reducible refine Nm.Zg0 ?_)|fail "none here")
section
variable {P:Program}{w:World}{K:PySem.W.Frag}{mg:Str→Option Value}{base:Heap}
theorem Zbk(T:Tp K mg):Zk P w K mg base (CXX P w) 2 T.f_is_from T.d_is_from ["thing","least"] (Vj T):=by
 have G_is_whole:Zk P w K mg base (CXX P w) 1 T.f_is_whole T.d_is_whole ["thing"] (Uz T):=(Zgi T).mono (by decide);refine T.F_is_from.okX ZhQ (fun vs H Q E h=>?_) (fun cdv A outer s H vs Q E hr h=>?_)
 ·obtain⟨i,l,rfl,_⟩:=h
  rfl
 ·have hu:=hr.units;obtain⟨i,l,rfl,q⟩:=h;refine⟨_,(Zh (Zw (ZbC (Zr G_is_whole hr rfl T.m_is_whole T.F_is_whole.kp T.b_is_whole .nil Zl (Za (pv 0) Zb)) (ZbF (WE ZeT (pv 0) (pv 1) (ZI _)))))),?_⟩
  try dsimp only[L2.cxX,L2.ZN,L2.Zn]
  walk_at "rds";exact q
end
def UP{K:PySem.W.Frag}{mg:Str→Option Value}(T:Tp K mg):Sp:=fun vs H Q E=>∃i:Int,vs=[.int i]∧(¬0≤i→E (.ref T.X_NoRate) none H)∧(0≤i→Q .non H)
section
variable {P:Program}{w:World}{K:PySem.W.Frag}{mg:Str→Option Value}{base:Heap}
theorem Zbv(T:Tp K mg):Zk P w K mg base (CXX P w) 3 T.f_need_start T.d_need_start ["start"] (UP T):=by
 have G_is_from:Zk P w K mg base (CXX P w) 2 T.f_is_from T.d_is_from ["thing","least"] (Vj T):=(Zbk T).mono (by decide);refine T.F_need_start.okX ZeJ (fun vs H Q E h=>?_) (fun cdv A outer s H vs Q E hr h=>?_)
 ·obtain⟨i,rfl,_⟩:=h
  rfl
 ·have hu:=hr.units;obtain⟨i,rfl,e1,q⟩:=h;refine⟨_,(Zh (ZW (Wh (Yr (K:=K) rfl (Zr G_is_from hr rfl T.m_is_from T.F_is_from.kp T.b_is_from .nil Zl (Za (pv 0) (Za Zf Zb))) (fun _=>rfl))) (Zh (Y2 T.gx_NoRate T.ex_NoRate PySem.F.excBase_ValueError rfl (Za Wb Zb))) ZJ)),?_⟩
  try dsimp only[L2.cxX,L2.ZN,L2.Zn]
  walk_at "rds"
  by_cases c:0≤i
  ·rw[decide_eq_true c];walk_at "rds";exact q c
  ·rw[decide_eq_false c];walk_at "rds";exact e1 c
end
def YM{K:PySem.W.Frag}{mg:Str→Option Value}(T:Tp K mg):Sp:=fun vs H Q _=>∃i b:Int,vs=[.int i,.int b]∧Q (.bl (decide (0≤i∧i<b))) H
theorem ZbQ{K:PySem.W.Frag}{mg:Str→Option Value}{T:Tp K mg}{H:Hp}{Q:VK}{E:XK}{i b:Int}(q:Q (.bl (decide (0≤i∧i<b))) H):YM T ([.int i,.int b]++ []) H Q E:=⟨i,b,rfl,q⟩
local macro_rules| `(tactic|walk_at "rd")=>`(tactic|first|((with_reducible show Nm.YM _ _ _ _ _);with_reducible refine Nm.ZbQ ?_)|fail "none here")
section
variable {P:Program}{w:World}{K:PySem.W.Frag}{mg:Str→Option Value}{base:Heap}
theorem UL(T:Tp K mg):Zk P w K mg base (CXX P w) 3 T.f_is_number_below T.d_is_number_below ["thing","bound"] (YM T):=by
 have G_is_from:Zk P w K mg base (CXX P w) 2 T.f_is_from T.d_is_from ["thing","least"] (Vj T):=(Zbk T).mono (by decide);refine T.F_is_number_below.okX Zb2 (fun vs H Q E h=>?_) (fun cdv A outer s H vs Q E hr h=>?_)
 ·obtain⟨i,b,rfl,_⟩:=h
  rfl
 ·have hu:=hr.units;obtain⟨i,b,rfl,q⟩:=h;refine⟨_,(Zh (Zw (ZbC (Zr G_is_from hr rfl T.m_is_from T.F_is_from.kp T.b_is_from .nil Zl (Za (pv 0) (Za Zf Zb))) (ZbF (WE U7 (pv 0) (pv 1) (ZI _)))))),?_⟩
  try dsimp only[L2.cxX,L2.ZN,L2.Zn]
  walk_at "rds";refine Vl (fun c=>?_) (fun c=>?_)
  ·have c':0≤i:=of_decide_eq_true c;walk_at "rds";have e:decide (i<b)=decide (0≤i∧i<b):=by rw[decide_eq_decide];exact⟨fun z=>⟨c',z⟩,fun z=>z.2⟩
   rw[e];exact q
  ·have c':¬0≤i:=fun z=>c (decide_eq_true z);walk_at "rds";have e:false=decide (0≤i∧i<b):=(decide_eq_false (fun z=>c' z.1)).symm;rw[e];exact q
end
def Vn{K:PySem.W.Frag}{mg:Str→Option Value}(T:Tp K mg):Sp:=fun vs H Q E=>∃(p:Addr)(i:Int)(hl:HM)(fp:List Addr),vs=[.ref p,.int i]∧ZB T H p hl fp∧
 (¬(0≤i∧i<hl.belts.length)→E (.ref T.X_NoBelt) none H)∧(0≤i→i<hl.belts.length→Q .non H)
section
variable {P:Program}{w:World}{K:PySem.W.Frag}{mg:Str→Option Value}{base:Heap}
theorem US(T:Tp K mg):Zk P w K mg base (CXX P w) 4 T.f_Hall_need_belt T.d_Hall_need_belt ["self","belt"] (Vn T):=by
 have G_is_number_below:Zk P w K mg base (CXX P w) 3 T.f_is_number_below T.d_is_number_below ["thing","bound"] (YM T):=(UL T).mono (by decide);have cl_Hall:=T.cl_Hall;have na_Hall:=T.na_Hall;refine T.F_Hall_need_belt.okX Zct (fun vs H Q E h=>?_) (fun cdv A outer s H vs Q E hr h=>?_)
 ·obtain⟨p,i,hl,fp,rfl,_⟩:=h
  rfl
 ·have hu:=hr.units;obtain⟨p,i,hl,fp,rfl,hh,e1,q⟩:=h;obtain⟨dx,a,b,bs,rfl,h1,h2,h3,h4,nab,h6⟩:=id hh;refine⟨_,(Zh (ZW (Wh (Yr (K:=K) rfl (Zr G_is_number_below hr rfl T.m_is_number_below T.F_is_number_below.kp T.b_is_number_below .nil Zl (Za (pv 1) (Za (Zy (Ya (K:=K) rfl) (by rfl) T.n_len PySem.boot_len (Za (ZZ (K:=K) rfl (pv 0) rfl) Zb)) Zb))) (fun _=>rfl))) (Zh (Y2 T.gx_NoBelt T.ex_NoBelt PySem.F.excBase_ValueError rfl (Za Wb Zb))) ZJ)),?_⟩
  try dsimp only[L2.cxX,L2.ZN,L2.Zn]
  walk_at "rds";rw[h6.length]
  by_cases c:0≤i∧i<hl.belts.length
  ·rw[decide_eq_true c];walk_at "rds";exact q c.1 c.2
  ·rw[decide_eq_false c];walk_at "rds";exact e1 c
end
noncomputable def ZcP (b:B5) (s:Int):B5:=⟨b.giver,b.taker,b.give,b.take,s⟩
theorem Z8.set{H:Hp}:∀{bs:List V}{ls:List B5}{t:Addr}{b:B5}(i:Nat),Z8 H bs ls→H t=some (.tup b.v)→Z8 H (bs.set i (.ref t)) (ls.set i b)
 |_,_,_,_,_,.nil,_=> .nil
 |_,_,_,_,0,.cons _ r,h=> .cons ⟨_,rfl,h⟩ r
 |_,_,_,_,i+1,.cons x r,h=> .cons x (Z8.set i r h)
def Zb5{K:PySem.W.Frag}{mg:Str→Option Value}(T:Tp K mg):Sp:=fun vs H Q E=>∃(p:Addr)(i s:Int)(hl:HM)(fp:List Addr),vs=[.ref p,.int i,.int s]∧ZB T H p hl fp∧
 (¬(0≤i∧i<hl.belts.length)→E (.ref T.X_NoBelt) none H)∧((0≤i∧i<hl.belts.length)→¬0≤s→E (.ref T.X_NoRate) none H)∧
 ((0≤i∧i<hl.belts.length)→0≤s→∀(b:B5)(H':Hp)(fp':List Addr),hl.belts[i.toNat]? =some b→ZB T H' p ⟨hl.names,hl.belts.set i.toNat (ZcP b s)⟩ fp'→ZH fp H H'→Yz fp fp' H→Q (.bl (!decide (b.start=s))) H')
section
variable {P:Program}{w:World}{K:PySem.W.Frag}{mg:Str→Option Value}{base:Heap}
theorem ZfV(T:Tp K mg):Zk P w K mg base (CXX P w) 5 T.f_Hall_fill T.d_Hall_fill ["self","belt","start"] (Zb5 T):=by
 have G_need_start:Zk P w K mg base (CXX P w) 4 T.f_need_start T.d_need_start ["start"] (UP T):=(Zbv T).mono (by decide);have G_Hall_need_belt:Zk P w K mg base (CXX P w) 4 T.f_Hall_need_belt T.d_Hall_need_belt ["self","belt"] (Vn T):=(US T).mono (by decide);have cl_Hall:=T.cl_Hall;have na_Hall:=T.na_Hall;refine T.F_Hall_fill.okX Zcc (fun vs H Q E h=>?_) (fun cdv A outer s H vs Q E hr h=>?_)
 ·obtain⟨p,i,s,hl,fp,rfl,_⟩:=h
  rfl
 ·have hu:=hr.units;obtain⟨p,i,st,hl,fp,rfl,hh,e1,e2,q⟩:=h;obtain⟨dx,a,bb,bs,rfl,h1,h2,h3,h4,nab,h6⟩:=id hh;have npb:p≠bb:=Yw h1 h4 (by intro z;cases z);have ndb:dx≠bb:=Yw h2 h4 (by intro z;cases z);have hlb:=h6.length;refine⟨_,(Zc (ZX (Yb (pv 0) T.cl_Hall T.M_Hall_need_belt G_Hall_need_belt hr T.b_Hall_need_belt .nil Zl (Za (pv 1) Zb)))
     (Zc (ZX (Zr G_need_start hr rfl T.m_need_start T.F_need_start.kp T.b_need_start .nil Zl (Za (pv 2) Zb)))
     (Zc (Zs (i:=3) Zcc.nd rfl (Or.inl rfl) (Zj (Zq (K:=K) rfl) (ZZ (K:=K) rfl (pv 0) rfl) (pv 1) (fun _ _=>rfl)))
     (Zc (Wg (Zv (Z6 (K:=K) rfl) (Zda (ZjI (K:=K) rfl) (pv 3) Zd8 (Zd7 Zf)) (Yv (Za (pv 2) Zb))) (W7 (ZZ (K:=K) rfl (pv 0) rfl) (pv 1) WM))
     (Zh (Zw (WE (UG (K:=K) rfl hu) (Zj (Zq (K:=K) rfl) (pv 3) Zf (fun _ _=>rfl)) (pv 2) (ZI _)))))))),?_⟩
  try dsimp only[L2.cxX,L2.ZN,L2.Zn]
  walk_at "rds";refine⟨p,i,hl,_,rfl,hh,e1,fun i0 i1=>?_⟩;walk_at "rds";refine⟨st,rfl,fun z=>e2 ⟨i0,i1⟩ z,fun s0=>?_⟩;have hi:i.toNat<hl.belts.length:=by omega
  have ei:=List.getElem?_eq_getElem hi;obtain⟨t,ht1,ht2⟩:=h6.at ei;have at1:atI bs i=some (.ref t):=by
   have:=YT ht1
   rwa [Int.toNat_of_nonneg i0] at this
  generalize hl.belts[i.toNat]=b at*;dsimp only[B5.v] at ht2;walk_at "rds";refine Rd.slT (.of ht2) (by show ¬(HT.sIx 5 0 none=0∧HT.sIx 5 5 (some 4)=5);decide) (fun u hu'=>?_);have su:Zd H (upd H u (.tup (Uf [V.int b.giver,V.int b.taker,V.int b.give,V.int b.take,V.int b.start] none (some 4)))):=Zo hu';have hu1:(upd H u (.tup (Uf [V.int b.giver,V.int b.taker,V.int b.give,V.int b.take,V.int b.start] none (some 4)))) u=some (.tup [V.int b.giver,V.int b.taker,V.int b.give,V.int b.take]):=Ze;generalize upd H u (.tup (Uf [V.int b.giver,V.int b.taker,V.int b.give,V.int b.take,V.int b.start] none (some 4)))=H1 at*;walk_at "rds";refine(fun u2 hu2=>?_);have su2:Zd H1 (upd H1 u2 (.tup [V.int st])):=Zo hu2;have hv2:(upd H1 u2 (.tup [V.int st])) u2=some (.tup [V.int st]):=Ze;generalize upd H1 u2 (.tup [V.int st])=H2 at*;refine Rd.ZmZ (.of (su2 _ _ hu1)) (.of hv2) (by simp) (by simp) (by show 5≤sizeLine;decide) (fun u3 hu3=>?_);have su3:Zd H2 (upd H2 u3 (.tup ([V.int b.giver,V.int b.taker,V.int b.give,V.int b.take]++ [V.int st]))):=Zo hu3;have hv3:(upd H2 u3 (.tup ([V.int b.giver,V.int b.taker,V.int b.give,V.int b.take]++ [V.int st]))) u3=some (.tup (ZcP b st).v):=Ze;generalize upd H2 u3 (.tup ([V.int b.giver,V.int b.taker,V.int b.give,V.int b.take]++ [V.int st]))=H3 at*;have s3:Zd H H3:=(su.trans su2).trans su3;have g1:=s3 _ _ h1;have g4:=s3 _ _ h4;have il:i<(bs.length:Int):=by omega
  walk_at "rds";have nt:t≠bb:=Yw ht2 h4 (by intro z;cases z);have ht4:(upd H3 bb (.lst (bs.set i.toNat (.ref u3)))) t=some (.tup [V.int b.giver,V.int b.taker,V.int b.give,V.int b.take,V.int b.start]):=by rw[Zg nt];exact s3 _ _ ht2
  walk_at "rds";have fr:ZH [p,dx,a,bb] H (upd H3 bb (.lst (bs.set i.toNat (.ref u3)))):=s3.frame.trans (Yk (by simp) g4 (by intro _ z;cases z));refine q ⟨i0,i1⟩ s0 b _ [p,dx,a,bb] ei ⟨dx,a,bb,_,rfl,?_,?_,?_,Ze,nab,(h6.keep fr.tups).set i.toNat ?_⟩ fr Yz.refl
  ·rw[Zg npb];exact g1
  ·rw[Zg ndb];exact s3 _ _ h2
  ·rw[Zg nab];exact s3 _ _ h3
  ·have nu:u3≠bb:=Yw hv3 g4 (by intro z;cases z);rw[Zg nu];exact hv3
end
def ZcN{K:PySem.W.Frag}{mg:Str→Option Value}(T:Tp K mg):Sp:=fun vs H Q _=>∃(hp q sa:Addr)(nms:List Str)(fp:List Addr)(bs:List V)(ls:List B5)(sts:List Int),vs=[.ref hp,.ref q,.ref sa]∧ZB T H hp ⟨nms,ls⟩ fp∧H q=some (.lst bs)∧Z8 H bs ls∧q∉fp∧H sa=some (.lst (sts.map V.int))∧sa∉fp∧sts.length=ls.length∧ls.length≤1000∧(∀s∈sts,0≤s)∧
 ∀(r:Addr)(H':Hp)(fp':List Addr)(bs':List V),H r=none→ZH fp H H'→Yz fp fp' H→ZB T H' hp ⟨nms,Yx ls sts⟩ fp'→H' r=some (.lst bs')→r∉fp'→Z8 H' bs' (Yx ls sts)→Q (.ref r) H'
section
variable {P:Program}{w:World}{K:PySem.W.Frag}{mg:Str→Option Value}{base:Heap}
theorem Zf2(T:Tp K mg):Zk P w K mg base (CXX P w) 6 T.f_l_filled T.d_l_filled ["_law_hall","_law_lines_here","_law_starts"] (ZcN T):=by
 have G_Hall_fill:Zk P w K mg base (CXX P w) 5 T.f_Hall_fill T.d_Hall_fill ["self","belt","start"] (Zb5 T):=(ZfV T).mono (by decide);have cl_Hall:=T.cl_Hall;have na_Hall:=T.na_Hall;refine T.F_l_filled.okX Y4 (fun vs H Q E h=>?_) (fun cdv A outer s H vs Q E hr h=>?_)
 ·obtain⟨hp,q,sa,nms,fp,bs,ls,sts,rfl,_⟩:=h
  rfl
 ·have hu:=hr.units;obtain⟨hp,q,sa,nms,fp,bs,ls,sts,rfl,hh,hq,hT,nq,hsa,nsa,hsl,hz,hpos,qq⟩:=h;have hbl:=hT.length;refine⟨_,(Zc (Zs (i:=3) Y4.nd rfl (Or.inl rfl) (YC Zb))
     (Zc (Z5 PassesOwn.leaving rfl (Z4 rfl T.n_range (Za (Zy (Ya (K:=K) rfl) (by rfl) T.n_len PySem.boot_len (Za (pv 1) Zb)) Zb)) (Zp (i:=4) Y4.nd rfl (Or.inl rfl)) (Zc (Wg (Zj (Zq (K:=K) rfl) (pv 1) (pv 4) (fun _ _=>rfl)) (YF (K:=K) (n:=5) rfl rfl (ZE (Zp (i:=5) Y4.nd rfl (Or.inl rfl)) (ZE (Zp (i:=6) Y4.nd rfl (Or.inl rfl)) (ZE (Zp (i:=7) Y4.nd rfl (Or.inl rfl)) (ZE (Zp (i:=8) Y4.nd rfl (Or.inl rfl)) (ZE (Zp (i:=9) Y4.nd rfl (Or.inl rfl)) YD)))))))
     (Zc (ZW (ZC (UG (K:=K) rfl hu) (Yb (pv 0) T.cl_Hall T.M_Hall_fill G_Hall_fill hr T.b_Hall_fill .nil Zl (Za (pv 4) (Za (Zj (Zq (K:=K) rfl) (pv 2) (pv 4) (fun _ _=>rfl)) Zb))) (WE (UG (K:=K) rfl hu) (Zj (Zq (K:=K) rfl) (pv 2) (pv 4) (fun _ _=>rfl)) (pv 9) (ZI _)) (ZI _)) (Zh (Zw WR)) ZJ)
     (Zh (ZX (Yt (K:=K) rfl PySem.F.plainAttrs_list PySem.F.slot_list_append PySem.F.type_list_append Yc (pv 3) (Za (Yv (Za (pv 5) (Za (pv 6) (Za (pv 7) (Za (pv 8) (Za (Zj (Zq (K:=K) rfl) (pv 2) (pv 4) (fun _ _=>rfl)) Zb)))))) Zb)))))))
     (Zh (Zw (pv 3))))),?_⟩
  try dsimp only[L2.cxX,L2.ZN,L2.Zn]
  walk_at "rds";refine⟨Nat.zero_le _,fun r hr=>?_⟩;have s1:Zd H (upd H r (.lst [])):=Zo hr;have hr1:(upd H r (.lst [])) r=some (.lst []):=Ze;generalize upd H r (.lst [])=H1 at*;have hq1:=s1 _ _ hq;have nr:r∉fp:=fun z=>hh.dom r z hr;walk_at "rds";refine YL (n:=((bs.length:Nat):Int).toNat) (fun i σ H'=>∃(fp':List Addr)(cs:List V)(a1 a2 a3 a4 a5 a6:Option V),σ=[some (.ref hp),some (.ref q),some (.ref sa),some (.ref r),a1,a2,a3,a4,a5,a6]∧ZH fp H H'∧Yz fp fp' H∧ZB T H' hp ⟨nms,(Yx ls sts).take i++ls.drop i⟩ fp'∧H' r=some (.lst cs)∧r∉fp'∧Z8 H' cs ((Yx ls sts).take i)) ⟨fp,[],_,_,_,_,_,_,rfl,s1.frame,Yz.refl,by simpa using hh.same s1,hr1,nr,by rw[List.take_zero];exact .nil⟩ ?_ ?_
  ·rintro i σ H2 hi ⟨fp2,cs,a1,a2,a3,a4,a5,a6,rfl,f2,g2,hh2,hr2,nr2,hT2⟩;have hil:i<ls.length:=by omega
   have hq2:=f2.keep _ _ hq nq;have hsa2:=f2.keep _ _ hsa nsa;have nsa2:sa∉fp2:=g2.off nsa (by rw[hsa];simp);have hTq:=hT.keep f2.tups;obtain⟨t,et,ht2⟩:=hTq.getD hil;have at0:atI bs (i:Int)=some (.ref t):=YT (by rw[List.getElem?_eq_getElem (show i<bs.length by omega),←et,Zx (show i<bs.length by omega)]);rw[Zx hil] at ht2;have hm1:=Zk8 (ks:=Yx ls sts) Z1 hil;have hm2:=ZkE (ks:=Yx ls sts) Z1 hil;rw[VF hil] at hm2;have hcl:=hT2.length;rw[List.length_take,Z1] at hcl;have hcz:cs.length<sizeLine:=Zu (by omega);have etk:(Yx ls sts).take (i+1)=(Yx ls sts).take i++ [Wo ls[i] (sts.getD i 0)]:=by rw[List.take_succ_eq_append_getElem (show i<(Yx ls sts).length by rw[Z1];exact hil),VF hil]
   have at1:=ZR (ns:=sts) (k:=(i:Int)) (by omega) (by omega);rw[Int.toNat_natCast] at at1;have s0:0≤sts.getD i 0:=hpos _ (WL (by omega));have hbl2:((⟨nms,(Yx ls sts).take i++ls.drop i⟩:HM).belts.length:Int)=(ls.length:Int):=by simp[Z1];omega
   generalize sts.getD i 0=sv at*;generalize ls[i]=bb at*;dsimp only[B5.v] at ht2;rw[Int.zero_add];walk_at "rds";refine Rd.VB (.of ht2) rfl ?_;walk_at "rds";refine⟨hp,(i:Int),sv,⟨nms,(Yx ls sts).take i++ls.drop i⟩,fp2,rfl,hh2,fun z=>absurd ⟨by omega,by omega⟩ z,fun _ z=>absurd s0 z,fun _ _ b H3 fp3 hb hh3 fr3 gr3=>?_⟩;dsimp only at hb hh3;rw[Int.toNat_natCast] at hb hh3;rw[hm1] at hb;obtain rfl:=Option.some.inj hb;have esw:ZcP bb sv=Wo bb sv:=rfl;rw[esw,hm2] at hh3;have hsa3:=fr3.keep _ _ hsa2 nsa2;have hr3:=fr3.keep _ _ hr2 nr2;have nr3:r∉fp3:=gr3.off nr2 (by rw[hr2];simp);have f3:=Zmu f2 g2 fr3;have g3:=ZmA f2 g2 gr3;have hT3:=hT2.keep fr3.tups;have e1:((!decide (bb.start=sv))== !decide (sv=bb.start))=true:=by
    by_cases z:bb.start=sv
    ·simp[z]
    ·have z2:¬sv=bb.start:=fun y=>z y.symm;simp[z,z2]
   walk_at "rds";rw[e1];walk_at "rds";refine⟨by show 5≤sizeLine;decide,fun u hu'=>?_⟩;have sv4:Zd H3 (upd H3 u (.tup [.int bb.giver,.int bb.taker,.int bb.give,.int bb.take,.int sv])):=Zo hu';have hv4:(upd H3 u (.tup [.int bb.giver,.int bb.taker,.int bb.give,.int bb.take,.int sv])) u=some (.tup (Wo bb sv).v):=Ze;generalize upd H3 u (.tup [.int bb.giver,.int bb.taker,.int bb.give,.int bb.take,.int sv])=H4 at*;have hr4:=sv4 _ _ hr3;walk_at "rds";have fr5:ZH [r] H4 (upd H4 r (.lst (cs++ [.ref u]))):=Yk (by simp) hr4 (by intro _ z;cases z);refine⟨fp3,cs++ [.ref u],_,_,_,_,_,_,rfl,Zl1 (f3.trans sv4.frame) hr,g3,(hh3.same sv4).off fr5 (fun x hx hx2=>nr3 (by rw[List.mem_singleton.mp hx2] at hx;exact hx)),Ze,nr3,?_⟩;rw[etk];exact((hT3.keep fun b xs e=>sv4 _ _ e).keep fr5.tups).snoc (fr5.tups _ _ hv4)
  ·rintro σ H2 ⟨fp2,cs,a1,a2,a3,a4,a5,a6,rfl,f2,g2,hh2,hr2,nr2,hT2⟩;rw[Int.toNat_natCast,hbl] at hh2 hT2;have e1:(Yx ls sts).take ls.length=Yx ls sts:=List.take_of_length_le (by rw[Z1];exact Nat.le_refl _);rw[e1] at hT2;rw[e1,List.drop_length,List.append_nil] at hh2;walk_at "rds";exact qq r H2 fp2 cs hr f2 g2 hh2 hr2 nr2 hT2
end
def YV{K:PySem.W.Frag}{mg:Str→Option Value}(T:Tp K mg):Sp:=fun vs H Q _=>∃(p:Addr)(hl:HM)(fp:List Addr),vs=[.ref p]∧ZB T H p hl fp∧
 ∀(q:Addr)(H':Hp)(bs:List V),H q=none→Zd H H'→H' q=some (.lst bs)→Z8 H' bs hl.belts→Q (.ref q) H'
theorem ZeR{K:PySem.W.Frag}{mg:Str→Option Value}{T:Tp K mg}{H:Hp}{Q:VK}{E:XK}{p:Addr}{hl:HM}{fp:List Addr}(h:ZB T H p hl fp)
  (q:∀(q:Addr)(H':Hp)(bs:List V),H q=none→Zd H H'→H' q=some (.lst bs)→Z8 H' bs hl.belts→Q (.ref q) H'):YV T (.ref p::([]++ [])) H Q E:=⟨p,hl,fp,rfl,h,q⟩
local macro_rules| `(tactic|walk_at "rd")=>`(tactic|first|((with_reducible show Nm.YV _ _ _ _ _);with_reducible refine Nm.ZeR (by with_reducible assumption) ?_)|fail "none here")
section
variable {P:Program}{w:World}{K:PySem.W.Frag}{mg:Str→Option Value}{base:Heap}
theorem Vx(T:Tp K mg):Zk P w K mg base (CXX P w) 1 T.f_Hall_belts T.d_Hall_belts ["self"] (YV T):=by
 have cl_Hall:=T.cl_Hall;have na_Hall:=T.na_Hall;refine T.F_Hall_belts.okX ZeQ (fun vs H Q E h=>?_) (fun cdv A outer s H vs Q E hr h=>?_)
 ·obtain⟨p,hl,fp,rfl,_⟩:=h
  rfl
 ·have hu:=hr.units;obtain⟨p,hl,fp,rfl,hh,q⟩:=h;obtain⟨dx,a,b,bs,rfl,h1,h2,h3,h4,nab,h6⟩:=id hh;refine⟨_,(Zh (Zw (WG (VC (K:=K) rfl) (by rfl) T.n_list PyProof.Rows.boot_list (Za (ZZ (K:=K) rfl (pv 0) rfl) Zb)))),?_⟩
  try dsimp only[L2.cxX,L2.ZN,L2.Zn]
  walk_at "rds";refine Rd.Uo (.of h4) (fun l hl'=>?_);exact q l _ bs hl' (Zo hl') Ze (h6.keep ((Zo hl').frame (A:=[])).tups)
end
def ZbN{K:PySem.W.Frag}{mg:Str→Option Value}(T:Tp K mg):Sp:=fun vs H Q _=>∃(p:Addr)(hl:HM)(fp:List Addr),vs=[.ref p]∧ZB T H p hl fp∧hl.belts.length≤1000∧
 ∀(r:Addr)(H':Hp),H r=none→Zd H H'→H' r=some (.lst ((ZD hl.belts).map V.int))→Q (.ref r) H'
section
variable {P:Program}{w:World}{K:PySem.W.Frag}{mg:Str→Option Value}{base:Heap}
theorem Zfl(T:Tp K mg):Zk P w K mg base (CXX P w) 2 T.f_starts_of T.d_starts_of ["hall"] (ZbN T):=by
 have G_Hall_belts:Zk P w K mg base (CXX P w) 1 T.f_Hall_belts T.d_Hall_belts ["self"] (YV T):=(Vx T).mono (by decide);have cl_Hall:=T.cl_Hall;have na_Hall:=T.na_Hall;refine T.F_starts_of.okX Zfu (fun vs H Q E h=>?_) (fun cdv A outer s H vs Q E hr h=>?_)
 ·obtain⟨p,hl,fp,rfl,_⟩:=h
  rfl
 ·have hu:=hr.units;obtain⟨p,hl,fp,rfl,hh,hz,q⟩:=h;refine⟨_,(Zh (Zw (Vh rfl (Yh (x:="row") (zs:=[]) (ix:=[]) (Zi Vq) ["hall"] rfl rfl (by decide+kernel)) (Z0 (K:=K) rfl (Uj (pv 0) T.cl_Hall T.M_Hall_belts G_Hall_belts hr T.b_Hall_belts .nil Zl)) (fun cl C s H fp=>⟨(Zp (i:=0) (show(["row"]:List Str).Nodup by decide+kernel) rfl (Or.inl rfl)),Yg,(Zj (Zq (K:=K) rfl) (pv 0) Zf (fun _ _=>rfl))⟩)))),?_⟩
  try dsimp only[L2.cxX,L2.ZN,L2.Zn]
  walk_at "rds";intro u H1 bs hu0 sm1 hu1 hT;have hl1:=hT.length;have hb:bs.length<sizeLine:=Zu (by rw[hl1];exact hz);walk_at "rds";refine YA (ZT (SqL.of hu1)) hb (fun _=>true) (fun i=> .int (hl.belts.getD i dB).start) (fun i H' Kc hi sm k=>?_) (fun i H' Kc hi _ sm k=>?_) (fun r H' hr sm hr'=>?_)
  ·walk_at "rds";exact k H' (Zd.refl H')
  ·have hil:i<hl.belts.length:=by omega
   obtain⟨t,ht1,ht2⟩:=hT.getD (i:=i) hil;rw[ht1];have ht3:=sm _ _ ht2;generalize hl.belts.getD i dB=bb at*;dsimp only[B5.v] at ht3;walk_at "rds";exact k H' (Zd.refl H')
  ·refine q r H' (ZK sm1 hr) (sm1.trans sm) ?_;rw[hr',List.filter_eq_self.mpr (by simp),hl1];unfold ZD;refine congrArg (fun z=>some (HO.lst z)) ?_;refine List.ext_getElem (by simp) fun i h1 h2=>?_;have:i<hl.belts.length:=by simpa using h1
   simp[List.getD,this]
end
def UO{K:PySem.W.Frag}{mg:Str→Option Value}(T:Tp K mg):Sp:=fun vs H Q E=>∃(p:Addr)(hl:HM)(fp:List Addr),vs=[.ref p]∧ZB T H p hl fp∧
 ∀r H',H r=none→Zd H H'→H' r=some (.lst (hl.names.map V.str))→Q (.ref r) H'
section
variable {P:Program}{w:World}{K:PySem.W.Frag}{mg:Str→Option Value}{base:Heap}
theorem Zbu(T:Tp K mg):Zk P w K mg base (CXX P w) 1 T.f_Hall_names T.d_Hall_names ["self"] (UO T):=by
 have cl_Hall:=T.cl_Hall;have na_Hall:=T.na_Hall;refine T.F_Hall_names.okX ZeN (fun vs H Q E h=>?_) (fun cdv A outer s H vs Q E hr h=>?_)
 ·obtain⟨p,hl,fp,rfl,_⟩:=h
  rfl
 ·have hu:=hr.units;obtain⟨p,hl,fp,rfl,hh,q⟩:=h;obtain⟨dx,a,b,bs,rfl,h1,h2,h3,h4,nab,h6⟩:=id hh;refine⟨_,(Zh (Zw (WG (ZhS rfl) (by rfl) T.n_list PyProof.Rows.boot_list (Za (ZZ (K:=K) rfl (pv 0) rfl) Zb)))),?_⟩
  try dsimp only[L2.cxX,L2.ZN,L2.Zn]
  walk_at "rds";intro l hl';rw[ZcC];exact q l _ hl' (Zo hl') Ze
end
def Zdk{K:PySem.W.Frag}{mg:Str→Option Value}(T:Tp K mg):Sp:=fun vs H Q _=>∃(p:Addr)(hl:HM)(fp:List Addr),vs=[.ref p]∧ZB T H p hl fp∧hl.names.length≤1000∧hl.belts.length≤1000∧ZM hl.belts hl.names.length∧
 ∀(r:Addr)(ia:List Addr)(H':Hp),H r=none→Zd H H'→Zb1 H' r ia hl.names.length (YJ hl.belts)→Q (.ref r) H'
section
variable {P:Program}{w:World}{K:PySem.W.Frag}{mg:Str→Option Value}{base:Heap}
theorem ZhE(T:Tp K mg):Zk P w K mg base (CXX P w) 2 T.f_ways_of T.d_ways_of ["hall"] (Zdk T):=by
 have G_Hall_belts:Zk P w K mg base (CXX P w) 1 T.f_Hall_belts T.d_Hall_belts ["self"] (YV T):=(Vx T).mono (by decide);have G_Hall_names:Zk P w K mg base (CXX P w) 1 T.f_Hall_names T.d_Hall_names ["self"] (UO T):=(Zbu T).mono (by decide);have cl_Hall:=T.cl_Hall;have na_Hall:=T.na_Hall;refine T.F_ways_of.okX UY (fun vs H Q E h=>?_) (fun cdv A outer s H vs Q E hr h=>?_)
 ·obtain⟨p,hl,fp,rfl,_⟩:=h
  rfl
 ·have hu:=hr.units;obtain⟨p,hl,fp,rfl,hh,hn,hz,hbt,q⟩:=h;refine⟨_,(Zc (Zc3 (j:=1) (xs:=["name"]) rfl (Yh (x:="name") (zs:=[]) (ix:=[]) (Zi UH) ["hall","ways","belt","row"] rfl rfl (by decide+kernel)) (Z0 (K:=K) rfl (Uj (pv 0) T.cl_Hall T.M_Hall_names G_Hall_names hr T.b_Hall_names .nil Zl)) (fun cl C s H fp=>⟨(Zp (i:=0) (show(["name"]:List Str).Nodup by decide+kernel) rfl (Or.inl rfl)),Yg,(YC Zb)⟩) UY.nd rfl (Or.inl rfl))
     (Zc (Z5 PassesOwn.leaving rfl (Za5 (K:=K) rfl rfl T.n_enumerate (Za (Uj (pv 0) T.cl_Hall T.M_Hall_belts G_Hall_belts hr T.b_Hall_belts .nil Zl) Zb)) (YF (K:=K) (n:=2) rfl rfl (ZE (Zp (i:=2) UY.nd rfl (Or.inl rfl)) (ZE (Zp (i:=3) UY.nd rfl (Or.inl rfl)) YD))) (Zc (ZX (Yt (K:=K) rfl PySem.F.plainAttrs_list PySem.F.slot_list_append PySem.F.type_list_append Yc (Zj (Zq (K:=K) rfl) (pv 1) (Zj (Zq (K:=K) rfl) (pv 3) Zf (fun _ _=>rfl)) (fun _ _=>rfl)) (Za (Yv (Za (Zj (Zq (K:=K) rfl) (pv 3) Zf (fun _ _=>rfl)) (Za (pv 2) (Za Wf Zb)))) Zb)))
     (Zh (ZX (Yt (K:=K) rfl PySem.F.plainAttrs_list PySem.F.slot_list_append PySem.F.type_list_append Yc (Zj (Zq (K:=K) rfl) (pv 1) (Zj (Zq (K:=K) rfl) (pv 3) Zf (fun _ _=>rfl)) (fun _ _=>rfl)) (Za (Yv (Za (Zj (Zq (K:=K) rfl) (pv 3) Zf (fun _ _=>rfl)) (Za (pv 2) (Za Wf Zb)))) Zb))))))
     (Zh (Zw (pv 1))))),?_⟩
  try dsimp only[L2.cxX,L2.ZN,L2.Zn]
  walk_at "rds";refine⟨p,hl,fp,rfl,hh,fun nm H1 hnm s1 hnm1=>?_⟩;walk_at "rds";refine ZhG (own:=1) (ZT (SqL.of hnm1)).y (Zu (by rw[List.length_map];exact hn)) (fun i=>[some ((hl.names.map V.str).getD i .non)]) (fun _=>rfl) (fun i a' H' v H2 Kg hi sm y hal k=>?_) (fun i H' Kc hi sm k=>?_) (fun r H2 ia hr s2 hr2 hil hnd hia=>?_)
  ·obtain⟨rfl,rfl⟩:=y;obtain⟨x1,rfl⟩:∃x1,a'=[x1]:=by
    match a',hal with
    | [x1],_=>exact⟨x1,rfl⟩
   walk_at "rds";exact k _ (Zd.refl _)
  ·exact k
  rw[List.length_map] at hil;have s12:=s1.trans s2;have hh2:=hh.same s12;have hr0:H r=none:=ZK s1 hr;have hia0:∀x∈ia,H x=none:=fun x hx=>ZK s1 (hia x hx).1;have nri:∀x∈ia,r≠x:=fun x hx z=>(hia x hx).2.1 z.symm;walk_at "rds";intro u H3 bs hu0 s3 hu3 hT;have hbl:=hT.length;have nui:∀x∈ia,u≠x:=fun x hx z=>by
   have:=(hia x hx).2.2;rw[←z,hu0] at this;cases this
  walk_at "rds";refine VG (VY (SqL.of (ZaB (q:=u) (o:= .lst bs)))) (fun k σ H'=>∃(a1 a2:Option V),σ=[some (.ref p),some (.ref r),a1,a2]∧Zd H H'∧H' u=some (.lst bs)∧H' r=some (.lst (ia.map V.ref))∧Z8 H' bs hl.belts∧WA H' ia (WY hl.belts k)∧∀(j:Nat)(h:j<ia.length) vs,H' ia[j]=some (.lst vs)→vs.length≤2*k)
   ⟨_,_,rfl,s12.trans s3,hu3,s3 _ _ hr2,hT,fun j hj=>⟨[],s3 _ _ (hia _ (List.getElem_mem hj)).2.2,.nil⟩,fun j hj vs e=>?_⟩ ?_ ?_ ?_
  ·rw[s3 _ _ (hia _ (List.getElem_mem hj)).2.2] at e;cases e;exact Nat.zero_le _
  ·rintro k σ H' ⟨_,_,_,_,h,_⟩;exact ZaF h
  ·rintro k σ H4 v H5 hk ⟨a1,a2,rfl,s4,hu4,hr4,hT4,hWA,hsz⟩ ⟨t,ht,rfl,rfl⟩;have hkl:k<hl.belts.length:=by omega
   obtain⟨g0,g1,t0,t1⟩:=hbt.at hkl;obtain⟨tb,hb1,hb2⟩:=hT4.getD hkl;rw[hb1];refine Rd.VB (.of Ze) rfl ?_;have s5:Zd H4 (upd H4 t (.tup [.int k,.ref tb])):=Zo ht;generalize upd H4 t (.tup [.int k,.ref tb])=H5 at*;have hW1:∀j:Int,WY hl.belts (k+1) j=(WY hl.belts k j++(if(hl.belts.getD k dB).giver=j then[((hl.belts.getD k dB).taker,(k:Int),true)] else[]))++(if(hl.belts.getD k dB).taker=j then[((hl.belts.getD k dB).giver,(k:Int),false)] else[]):=fun j=>by
    rw[Zf9,Zba,List.append_assoc]
   generalize hl.belts.getD k dB=b at*;have hbt5:=s5 _ _ hb2;dsimp only[B5.v] at hbt5;have hr5:=s5 _ _ hr4;have hWA5:=hWA.same s5;have gl:b.giver.toNat<ia.length:=by omega
   have tl:b.taker.toNat<ia.length:=by omega
   have atg:=ZdU g0 gl;have att:=ZdU t0 tl;have eg:((b.giver.toNat:Nat):Int)=b.giver:=Int.toNat_of_nonneg g0;have et:((b.taker.toNat:Nat):Int)=b.taker:=Int.toNat_of_nonneg t0;obtain⟨vs,hv1,hv2⟩:=hWA5 b.giver.toNat gl;have hsz5:∀(j:Nat)(h:j<ia.length) vs,H5 ia[j]=some (.lst vs)→vs.length≤2*k:=fun j hj us e=>by
    obtain⟨us',h1,_⟩:=hWA j hj;have:=s5 _ _ h1;rw[e] at this;cases this;exact hsz j hj _ h1
   have vz:vs.length<sizeLine:=Zbd (by have:=hsz5 _ gl _ hv1;omega);walk_at "rds";refine⟨by show 3≤sizeLine;decide,fun t2 ht2=>?_⟩;have s6:Zd H5 (upd H5 t2 (.tup [.int b.taker,.int k,.bl true])):=Zo ht2;have ht6:(upd H5 t2 (.tup [.int b.taker,.int k,.bl true])) t2=some (.tup [.int b.taker,.int k,.bl true]):=Ze;generalize upd H5 t2 (.tup [.int b.taker,.int k,.bl true])=H6 at*;have hv6:=s6 _ _ hv1;walk_at "rds";have hWA7:=(hWA5.same s6).add hnd gl hv6 (hv2.keep fun _ _ e=>s6 _ _ e) (x:=(b.taker,(k:Int),true)) ht6;have ng:r≠ia[b.giver.toNat]:=nri _ (List.getElem_mem gl);have nug:u≠ia[b.giver.toNat]:=nui _ (List.getElem_mem gl);have hr7:(upd H6 ia[b.giver.toNat] (.lst (vs++ [.ref t2]))) r=some (.lst (ia.map V.ref)):=by rw[Zg ng];exact s6 _ _ hr5
   have hu7:(upd H6 ia[b.giver.toNat] (.lst (vs++ [.ref t2]))) u=some (.lst bs):=by rw[Zg nug];exact s6 _ _ (s5 _ _ hu4)
   have tk7:∀c xs,H6 c=some (.tup xs)→(upd H6 ia[b.giver.toNat] (.lst (vs++ [.ref t2]))) c=some (.tup xs):=fun c xs e=>by rw[Zg (Yw e hv6 (by intro z;cases z))];exact e
   have hb7:=tk7 _ _ (s6 _ _ hbt5);have hT7:Z8 (upd H6 ia[b.giver.toNat] (.lst (vs++ [.ref t2]))) bs hl.belts:=((hT4.keep fun _ _ e=>s5 _ _ e).keep fun _ _ e=>s6 _ _ e).keep tk7;have sm7:Zd H (upd H6 ia[b.giver.toNat] (.lst (vs++ [.ref t2]))):=((s4.trans s5).trans s6).new (hia0 _ (List.getElem_mem gl));have hsz7:∀(j:Nat)(h:j<ia.length) us,(upd H6 ia[b.giver.toNat] (.lst (vs++ [.ref t2]))) ia[j]=some (.lst us)→us.length≤2*k+1:=fun j hj us e=>by
    by_cases z:j=b.giver.toNat
    ·subst z;rw[Ze] at e;cases e;have:=hsz5 _ gl _ hv1;simp;omega
    ·have ne:ia[j]≠ia[b.giver.toNat]:=fun y=>z (ZbA hnd hj gl y);rw[Zg ne] at e;obtain⟨us',h1,_⟩:=hWA5 j hj;have:=s6 _ _ h1;rw[e] at this;cases this;have:=hsz5 j hj _ h1;omega
   generalize upd H6 ia[b.giver.toNat] (.lst (vs++ [.ref t2]))=H7 at*;obtain⟨us,hq1,hq2⟩:=hWA7 b.taker.toNat tl;have uz:us.length<sizeLine:=Zbd (by have:=hsz7 _ tl _ hq1;omega);walk_at "rds";refine⟨by show 3≤sizeLine;decide,fun t3 ht3=>?_⟩;have s8:Zd H7 (upd H7 t3 (.tup [.int b.giver,.int k,.bl false])):=Zo ht3;have ht8:(upd H7 t3 (.tup [.int b.giver,.int k,.bl false])) t3=some (.tup [.int b.giver,.int k,.bl false]):=Ze;generalize upd H7 t3 (.tup [.int b.giver,.int k,.bl false])=H8 at*;have hq8:=s8 _ _ hq1;walk_at "rds";have hWA9:=(hWA7.same s8).add hnd tl hq8 (hq2.keep fun _ _ e=>s8 _ _ e) (x:=(b.giver,(k:Int),false)) ht8;have ng2:r≠ia[b.taker.toNat]:=nri _ (List.getElem_mem tl);have nug2:u≠ia[b.taker.toNat]:=nui _ (List.getElem_mem tl);have tk9:∀c xs,H8 c=some (.tup xs)→(upd H8 ia[b.taker.toNat] (.lst (us++ [.ref t3]))) c=some (.tup xs):=fun c xs e=>by rw[Zg (Yw e hq8 (by intro z;cases z))];exact e
   refine⟨_,_,rfl,(sm7.trans s8).new (hia0 _ (List.getElem_mem tl)),by rw[Zg nug2];exact s8 _ _ hu7,by rw[Zg ng2];exact s8 _ _ hr7,(hT7.keep fun _ _ e=>s8 _ _ e).keep tk9,?_,fun j hj ws e=>?_⟩
   ·have eW:(fun j=>(fun j=>WY hl.belts k j++(if((b.giver.toNat:Nat):Int)=j then[(b.taker,(k:Int),true)] else[])) j++(if((b.taker.toNat:Nat):Int)=j then[(b.giver,(k:Int),false)] else[]))=WY hl.belts (k+1):=by
     funext j
     rw[hW1 j,eg,et]
    rw[eW] at hWA9;exact hWA9
   ·by_cases z:j=b.taker.toNat
    ·subst z;rw[Ze] at e;cases e;have:=hsz7 _ tl _ hq1;simp;omega
    ·have ne:ia[j]≠ia[b.taker.toNat]:=fun y=>z (ZbA hnd hj tl y);rw[Zg ne] at e;obtain⟨us',h1,_⟩:=hWA7 j hj;have:=s8 _ _ h1;rw[e] at this;cases this;have:=hsz7 j hj _ h1;omega
  ·rintro σ H4 ⟨a1,a2,rfl,s4,hu4,hr4,hT4,hWA,hsz⟩;rw[hbl] at hWA;walk_at "rds";exact q r ia H4 hr0 s4 ⟨hr4,hil,hnd,hWA⟩
end
def ZbR{K:PySem.W.Frag}{mg:Str→Option Value}(T:Tp K mg):Sp:=fun vs H Q _=>∃(r:Addr)(ia:List Addr)(n:Nat)(W:Int→List Fo.Trip)(first:Int),vs=[.ref r,.int first]∧Zb1 H r ia n W∧n≤1000∧(∀a,∀t∈W a,0≤t.1∧t.1<(n:Int))∧0≤first∧first<(n:Int)∧
 ∀(d:Addr)(H':Hp)(tr:Fo.ZQ),H d=none→Zd H H'→Vt H' d tr→Fo.Y1 W first tr→Fo.UQ W tr tr.length→Q (.ref d) H'
section
variable {P:Program}{w:World}{K:PySem.W.Frag}{mg:Str→Option Value}{base:Heap}
theorem ZfT(T:Tp K mg):Zk P w K mg base (CXX P w) 1 T.f_tree_from T.d_tree_from ["ways","first"] (ZbR T):=by
 refine T.F_tree_from.okX Yy (fun vs H Q E h=>?_) (fun cdv A outer s H vs Q E hr h=>?_)
 ·obtain⟨r,ia,n,W,first,rfl,_⟩:=h
  rfl
 ·have hu:=hr.units;obtain⟨r,ia,n,W,first,rfl,hw,hn,hrg,f0,f1,q⟩:=h;have hil:=hw.len;refine⟨_,(Zc (Zs (i:=2) Yy.nd rfl (Or.inl rfl) (Zko (Zjf (pv 1) WR Zkq) rfl rfl (by simp) (by decide)))
     (Zc (Zs (i:=3) Yy.nd rfl (Or.inl rfl) (YC (Za (pv 1) Zb)))
     (Zc (Zs (i:=4) Yy.nd rfl (Or.inl rfl) Zf)
     (Zc (Zaq PassesOwn.leaving (ZC U7 (pv 4) (Zy (Ya (K:=K) rfl) (by rfl) T.n_len PySem.boot_len (Za (pv 3) Zb)) (ZI _)) (Zc (Zs (i:=5) Yy.nd rfl (Or.inl rfl) (Zj (Zq (K:=K) rfl) (pv 3) (pv 4) (fun _ _=>rfl)))
     (Zc (ZlN (i:=4) Yy.nd rfl (Or.inl rfl) Zf ZiG)
     (Zh (Z5 PassesOwn.leaving rfl (Z0 (K:=K) rfl (Zj (Zq (K:=K) rfl) (pv 0) (pv 5) (fun _ _=>rfl))) (YF (K:=K) (n:=3) rfl rfl (ZE (Zp (i:=6) Yy.nd rfl (Or.inl rfl)) (ZE (Zp (i:=7) Yy.nd rfl (Or.inl rfl)) (ZE (Zp (i:=8) Yy.nd rfl (Or.inl rfl)) YD)))) (Zh (ZW (ZC (ZbJ hu) (pv 6) (pv 2) (by with_unfolding_all rfl)) (Zc (Wg (Yv (Za (pv 5) (Za (pv 7) (Za (pv 8) Zb)))) (W7 (pv 2) (pv 6) (Zab hu)))
     (Zh (ZX (Yt (K:=K) rfl PySem.F.plainAttrs_list PySem.F.slot_list_append PySem.F.type_list_append Yc (pv 3) (Za (pv 6) Zb))))) ZJ)))))))
     (Zh (Zw (pv 2))))))),?_⟩
  try dsimp only[L2.cxX,L2.ZN,L2.Zn]
  walk_at "rds";intro d hd;dsimp only[ZdD];walk_at "rds";refine⟨Ze,[(Sum.inl first,.non)],rfl,by simp,?_⟩;have hd1:(upd (upd H d (.dK [])) d (.dK (Yn [] [(Sum.inl first,.non)]))) d=some (.dK [(Sum.inl first,.non)]):=Ze;have s1:Zd H (upd (upd H d (.dK [])) d (.dK (Yn [] [(Sum.inl first,.non)]))):=(Zo hd).new hd;generalize upd (upd H d (.dK [])) d (.dK (Yn [] [(Sum.inl first,.non)]))=H1 at*;walk_at "rds";refine(fun c hc=>?_);have s2:Zd H1 (upd H1 c (.lst [V.int first])):=Zo hc;have hc2:(upd H1 c (.lst [V.int first])) c=some (.lst ((Fo.keys [(first,none)]).map V.int)):=Ze;have hd2:=s2 _ _ hd1;have hc0:H c=none:=ZK s1 hc;have ncd:c≠d:=fun z=>by rw[z,hd1] at hc;cases hc
  generalize upd H1 c (.lst [V.int first])=H2 at*;have s02:=s1.trans s2;have ht2:Vt H2 d [(first,none)]:=⟨_,hd2,.cons ⟨rfl,rfl⟩ .nil⟩;clear hd1 hd2 s1 s2 hc;walk_at "rds";refine ZbD (fun m σ H'=>∃(tr:Fo.ZQ)(dn:Nat)(a1 a2 a3 a4:Option V),σ=[some (.ref r),some (.int first),some (.ref d),some (.ref c),some (.int dn),a1,a2,a3,a4]∧Zd H H'∧Vt H' d tr∧H' c=some (.lst ((Fo.keys tr).map V.int))∧dn≤tr.length∧Fo.Y1 W first tr∧Fo.UQ W tr dn∧m=n+1-dn) (n+1)
   ⟨[(first,none)],0,_,_,_,_,rfl,s02,ht2,hc2,Nat.zero_le _,Fo.ZhY,fun j w s hj=>absurd hj (Nat.not_lt_zero _),rfl⟩ ?_
  rintro m σ H3 ⟨tr,dn,a1,a2,a3,a4,rfl,s3,ht3,hc3,hdn,hg,hgo,rfl⟩;have hkl:((Fo.keys tr).map V.int).length=tr.length:=by simp[Fo.keys]
  have htn:tr.length≤n:=by
   have:=Fo.Ub (n:=n) hg.nodup (hg.rg ⟨f0,f1⟩ hrg);simpa[Fo.keys] using this
  walk_at "rds";rw[hkl];refine Rd.ifD (fun z=>?_) (fun z=>?_)
  ·have hdl:dn<tr.length:=by omega
   obtain⟨⟨w,st⟩,ew⟩:∃x,tr[dn]? =some x:=⟨tr[dn],List.getElem?_eq_getElem hdl⟩;have hwk:=Fo.ZcV ew;obtain⟨w0,w1⟩:=hg.rg ⟨f0,f1⟩ hrg w hwk;have at1:atI ((Fo.keys tr).map V.int) (dn:Int)=some (.int w):=YT (by rw[List.getElem?_map];unfold Fo.keys;rw[List.getElem?_map,ew];rfl);have hwl:w.toNat<ia.length:=by omega
   have atw:=ZdU w0 hwl;have hw3:=hw.same s3;have hwr:=hw3.at_;obtain⟨vs,hv0,hv1⟩:=hw.wa w.toNat hwl;rw[Int.toNat_of_nonneg w0] at hv1;have hv3:=s3 _ _ hv0;have hvl:=hv1.length;refine ZdF ?_;walk_at "rds";refine⟨_,rfl,?_⟩;walk_at "rds";refine WN (ZT (SqL.of hv0)) (fun j σ H'=>∃(tr:Fo.ZQ)(a2 a3 a4:Option V),σ=[some (.ref r),some (.int first),some (.ref d),some (.ref c),some (.int (dn+1)),some (.int w),a2,a3,a4]∧Zd H H'∧Vt H' d tr∧H' c=some (.lst ((Fo.keys tr).map V.int))∧Fo.Y1 W first tr∧Fo.UQ W tr dn∧tr[dn]? =some (w,st)∧∀t∈(W w).take j,t.1∈Fo.keys tr)
    ⟨tr,_,_,_,rfl,s3,ht3,hc3,hg,hgo,ew,by simp⟩ (fun j σ H' ⟨_,_,_,_,_,s,_⟩=>s) ?_ ?_
   ·rintro j σ H4 hj ⟨tr,a2,a3,a4,rfl,s4,⟨kvs,hd4,hen⟩,hc4,hg,hgo,ew,hall⟩;have hjl:j<(W w).length:=by omega
    obtain⟨t,ht1,ht4⟩:=hv1.at (List.getElem?_eq_getElem hjl);have eb:vs.getD j .non= .ref t:=by simp[List.getD,ht1]
    rw[eb];have hmem:(W w)[j]∈W w:=List.getElem_mem hjl;have htk:(W w).take (j+1)=(W w).take j++ [(W w)[j]]:=List.take_succ_eq_append_getElem hjl;have ht5:=s4 _ _ ht4;have hrr:=hrg w _ hmem;generalize (W w)[j]=x at*;obtain⟨o,b,al⟩:=x;refine Rd.VB (.of ht5) rfl ?_;dsimp only at*;have htn:tr.length≤n:=by
     have:=Fo.Ub (n:=n) hg.nodup (hg.rg ⟨f0,f1⟩ hrg);simpa[Fo.keys] using this
    have hkz:kvs.length<sizeLine:=Zu (by rw[hen.length];omega);have hcz:((Fo.keys tr).map V.int).length<sizeLine:=Zu (by simp[Fo.keys];omega);walk_at "rds";have hs:=hen.some (w:=o)
    by_cases ho:o∈Fo.keys tr
    ·rw[hs.mpr ho];walk_at "rds";refine⟨tr,_,_,_,rfl,s4,⟨kvs,hd4,hen⟩,hc4,hg,hgo,ew,?_⟩;rw[htk];intro t' ht';rcases List.mem_append.mp ht' with y|y
     ·exact hall t' y
     ·rw[List.mem_singleton.mp y];exact ho
    ·have hno:valV kvs (Sum.inl o)=none:=by
      cases e:valV kvs (Sum.inl o) with
      |none=>rfl
      |some v=>exact absurd (hs.mp (by rw[e];rfl)) ho
     rw[hno,Option.isSome_none];walk_at "rds";refine⟨by show 3≤sizeLine;decide,fun t2 ht2=>?_⟩;have s5:Zd H4 (upd H4 t2 (.tup [.int w,.int b,.bl al])):=Zo ht2;have hn5:(upd H4 t2 (.tup [.int w,.int b,.bl al])) t2=some (.tup [.int w,.int b,.bl al]):=Ze;have hd5:=s5 _ _ hd4;have hc5:=s5 _ _ hc4;have hen5:Ent (upd H4 t2 (.tup [.int w,.int b,.bl al])) kvs tr:=hen.keep fun _ _ e=>s5 _ _ e;generalize upd H4 t2 (.tup [.int w,.int b,.bl al])=H5 at*;walk_at "rds";rw[VA _ hno];have tk6:∀a xs,H5 a=some (.tup xs)→(upd H5 d (.dK (kvs++ [(Sum.inl o,.ref t2)]))) a=some (.tup xs):=fun a xs e=>by rw[Zg (Yw e hd5 (by intro z;cases z))];exact e
     have hc6:(upd H5 d (.dK (kvs++ [(Sum.inl o,.ref t2)]))) c=some (.lst ((Fo.keys tr).map V.int)):=by rw[Zg ncd];exact hc5
     have hd6:(upd H5 d (.dK (kvs++ [(Sum.inl o,.ref t2)]))) d=some (.dK (kvs++ [(Sum.inl o,.ref t2)])):=Ze;have hen6:=(hen5.keep tk6).snoc (w:=o) (v:= .ref t2) (s:=some (w,b,al)) ⟨t2,rfl,tk6 _ _ hn5⟩;have s6:Zd H (upd H5 d (.dK (kvs++ [(Sum.inl o,.ref t2)]))):=(s4.trans s5).new hd;generalize upd H5 d (.dK (kvs++ [(Sum.inl o,.ref t2)]))=H6 at*;walk_at "rds";have hdl2:=(List.getElem?_eq_some_iff.mp ew).1;refine⟨tr++ [(o,some (w,b,al))],_,_,_,rfl,s6.new hc0,⟨_,by rw[Zg ncd.symm];exact hd6,hen6.keep fun a xs e=>by rw[Zg (Yw e hc6 (by intro z;cases z))];exact e⟩,?_,hg.snoc ew hmem ho,hgo.snoc (by omega) _ _,Fo.Zcn ew,?_⟩
     ·rw[Ze,Fo.Zaw,List.map_append];rfl
     ·rw[htk,Fo.Zaw];intro t' ht';rcases List.mem_append.mp ht' with y|y
      ·exact List.mem_append_left _ (hall t' y)
      ·rw[List.mem_singleton.mp y];exact List.mem_append_right _ (List.mem_singleton.mpr rfl)
   ·rintro σ H4 ⟨tr,a2,a3,a4,rfl,s4,ht4,hc4,hg,hgo,ew,hall⟩;rw[←hvl,List.take_length] at hall;have hdl2:=(List.getElem?_eq_some_iff.mp ew).1;walk_at "rds";exact⟨n+1-(dn+1),by omega,tr,dn+1,_,_,_,_,rfl,s4,ht4,hc4,hdl2,hg,hgo.next ew hall,rfl⟩
  ·have e:dn=tr.length:=by omega
   subst e;walk_at "rds";exact q d H3 tr hd s3 ht3 hg hgo
end
def ZbS{K:PySem.W.Frag}{mg:Str→Option Value}(T:Tp K mg):Sp:=fun vs H Q _=>∃(p:Addr)(hl:HM)(fp:List Addr),vs=[.ref p]∧ZB T H p hl fp∧hl.names.length≤60∧hl.belts.length≤1000∧ZM hl.belts hl.names.length∧
 ∀(f:Addr)(ds:List Addr)(H':Hp)(F:List (Int×Fo.ZQ)),H f=none→Zd H H'→Zjp H' f ds F→(∀d∈ds,H d=none)→Fo.Vm (YJ hl.belts) hl.names.length F hl.names.length→F.length≤hl.names.length→Q (.ref f) H'
section
variable {P:Program}{w:World}{K:PySem.W.Frag}{mg:Str→Option Value}{base:Heap}
theorem ZfJ(T:Tp K mg):Zk P w K mg base (CXX P w) 3 T.f_forest_of T.d_forest_of ["hall"] (ZbS T):=by
 have G_ways_of:Zk P w K mg base (CXX P w) 2 T.f_ways_of T.d_ways_of ["hall"] (Zdk T):=(ZhE T).mono (by decide);have G_tree_from:Zk P w K mg base (CXX P w) 2 T.f_tree_from T.d_tree_from ["ways","first"] (ZbR T):=(ZfT T).mono (by decide);refine T.F_forest_of.okX Ww (fun vs H Q E h=>?_) (fun cdv A outer s H vs Q E hr h=>?_)
 ·obtain⟨p,hl,fp,rfl,_⟩:=h
  rfl
 ·have hu:=hr.units;obtain⟨p,hl,fp,rfl,hh,hn,hz,hbt,q⟩:=h;refine⟨_,(Zc (Zs (i:=1) Ww.nd rfl (Or.inl rfl) (Zr G_ways_of hr rfl T.m_ways_of T.F_ways_of.kp T.b_ways_of .nil Zl (Za (pv 0) Zb)))
     (Zc (Zs (i:=2) Ww.nd rfl (Or.inl rfl) Zar)
     (Zc (Zs (i:=3) Ww.nd rfl (Or.inl rfl) (YC Zb))
     (Zc (Z5 PassesOwn.leaving rfl (Z4 rfl T.n_range (Za (Zy (Ya (K:=K) rfl) (by rfl) T.n_len PySem.boot_len (Za (pv 1) Zb)) Zb)) (Zp (i:=4) Ww.nd rfl (Or.inl rfl)) (Zh (ZW (ZC (ZbJ hu) (pv 4) (pv 2) (by with_unfolding_all rfl)) (Zc (Zs (i:=5) Ww.nd rfl (Or.inl rfl) (Zr G_tree_from hr rfl T.m_tree_from T.F_tree_from.kp T.b_tree_from .nil Zl (Za (pv 1) (Za (pv 4) Zb))))
     (Zc (ZX (Yt (K:=K) rfl PySem.F.plainAttrs_dict PySem.F.slot_dict_update PySem.F.type_dict_update Zkz (pv 2) (Za (pv 5) Zb)))
     (Zh (ZX (Yt (K:=K) rfl PySem.F.plainAttrs_list PySem.F.slot_list_append PySem.F.type_list_append Yc (pv 3) (Za (pv 5) Zb)))))) ZJ)))
     (Zh (Zw (pv 3))))))),?_⟩
  try dsimp only[L2.cxX,L2.ZN,L2.Zn]
  walk_at "rds";refine⟨p,hl,fp,rfl,hh,by omega,hz,hbt,fun r ia H1 hr s1 hw1=>?_⟩;walk_at "rds";intro se hse;have s2:Zd H1 (upd H1 se (.dK [])):=Zo hse;have hs2:(upd H1 se (.dK [])) se=some (.dK []):=Ze;have hse0:H se=none:=ZK s1 hse;generalize upd H1 se (.dK [])=H2 at*;walk_at "rds";refine⟨Nat.zero_le _,fun f hf=>?_⟩;have s3:Zd H2 (upd H2 f (.lst [])):=Zo hf;have hf3:(upd H2 f (.lst [])) f=some (.lst (([]:List Addr).map V.ref)):=Ze;have hs3:=s3 _ _ hs2;have hf1:H1 f=none:=ZK s2 hf;have hf0:H f=none:=ZK s1 hf1;generalize upd H2 f (.lst [])=H3 at*;have s13:=s2.trans s3;have hw3:=hw1.same s13;have hwr:=hw3.at_;have hwl:((ia.map V.ref).length:Int)=(hl.names.length:Int):=by rw[List.length_map,hw1.len]
  walk_at "rds";rw[hwl];refine YL (n:=hl.names.length) (fun i σ H'=>∃(kvs:List (Key×V))(ds:List Addr)(F:List (Int×Fo.ZQ))(a1 a2:Option V),σ=[some (.ref p),some (.ref r),some (.ref se),some (.ref f),a1,a2]∧Zd H1 H'∧H' se=some (.dK kvs)∧H' f=some (.lst (ds.map V.ref))∧We H' ds F∧
   (∀d∈ds,d≠se∧H d=none)∧kvs.length≤60*i∧(∀w:Int,(valV kvs (Sum.inl w)).isSome=true↔∃x∈F,w∈Fo.keys x.2)∧Fo.Vm (YJ hl.belts) hl.names.length F i∧F.length≤i)
   ⟨[],[],[],_,_,rfl,s13,hs3,hf3,.nil,by simp,Nat.zero_le _,fun w=>⟨fun z=>(by cases z),fun⟨x,hx,_⟩=>(by cases hx)⟩,Fo.ZjP,Nat.le_refl _⟩ ?_ ?_
  ·rintro i σ H4 hi ⟨kvs,ds,F,a1,a2,rfl,s4,hs4,hf4,hT4,hds,hkl,hin,hwd,hFl⟩;rw[Int.zero_add];walk_at "rds";have hs:=hin (i:Int)
   by_cases hx:∃x∈F,(i:Int)∈Fo.keys x.2
   ·rw[hs.mpr hx];walk_at "rds";exact⟨kvs,ds,F,_,_,rfl,s4,hs4,hf4,hT4,hds,by omega,hin,hwd.skip hx,by omega⟩
   ·have hno:(valV kvs (Sum.inl (i:Int))).isSome=false:=by
     cases e:(valV kvs (Sum.inl (i:Int))).isSome with
     |false=>rfl
     |true=>exact absurd (hs.mp e) hx
    rw[hno];walk_at "rds";refine⟨r,ia,hl.names.length,YJ hl.belts,(i:Int),rfl,hw1.same s4,by omega,Zaa hbt,by omega,by omega,fun d H5 tr hd0 s5 ht5 hg hgo=>?_⟩;obtain⟨more,hd5,hen⟩:=id ht5;have nds:se≠d:=Zm hs4 hd0;have hs5:=s5 _ _ hs4;have hf5:=s5 _ _ hf4;have hT5:=hT4.same s5;have hrg5:=hg.rg (n:=(hl.names.length:Int)) ⟨by omega,by omega⟩ (Zaa hbt);have htl:tr.length≤hl.names.length:=by
     have:=Fo.Ub (n:=hl.names.length) hg.nodup hrg5;simpa[Fo.keys] using this
    have hml:more.length≤60:=by rw[hen.length];omega
    walk_at "rds";refine⟨.inr (.inr (.inl ⟨rfl,.inl ⟨_,hs5⟩⟩)),?_⟩;walk_at "rds";refine Rd.ZmF nds hs5 hd5 (Nat.le_of_lt (Zbd (by omega))) ?_;have hme:=Zds more kvs;have hmk:=Vw more kvs;have tk6:∀a xs,H5 a=some (.tup xs)→(upd H5 se (.dK (Yn kvs more))) a=some (.tup xs):=fun a xs e=>by rw[Zg (Yw e hs5 (by intro z;cases z))];exact e
    have hs6:(upd H5 se (.dK (Yn kvs more))) se=some (.dK (Yn kvs more)):=Ze;have hf6:(upd H5 se (.dK (Yn kvs more))) f=some (.lst (ds.map V.ref)):=by rw[Zg (Yw hf5 hs5 (by intro z;cases z))];exact hf5
    have hd6:Vt (upd H5 se (.dK (Yn kvs more))) d tr:=⟨more,by rw[Zg nds.symm];exact hd5,hen.keep tk6⟩;have hT6:We (upd H5 se (.dK (Yn kvs more))) ds F:=hT5.keep tk6 (fun d' hd' ks e=>by rw[Zg (hds d' hd').1];exact e);have s6:Zd H1 (upd H5 se (.dK (Yn kvs more))):=(s4.trans s5).new hse;generalize upd H5 se (.dK (Yn kvs more))=H6 at*;have hdz:(ds.map V.ref).length<sizeLine:=Zu (by rw[List.length_map,hT4.length];omega);walk_at "rds";have tk7:∀a xs,H6 a=some (.tup xs)→(upd H6 f (.lst (ds.map V.ref++ [.ref d]))) a=some (.tup xs):=fun a xs e=>by rw[Zg (Yw e hf6 (by intro z;cases z))];exact e
    have dk7:∀a ks,H6 a=some (.dK ks)→(upd H6 f (.lst (ds.map V.ref++ [.ref d]))) a=some (.dK ks):=fun a ks e=>by rw[Zg (Yw e hf6 (by intro z;cases z))];exact e
    obtain⟨more',hd6',hen6⟩:=hd6;refine⟨Yn kvs more,ds++ [d],F++ [((i:Int),tr)],_,_,rfl,s6.new hf1,dk7 _ _ hs6,by rw[Ze,List.map_append];rfl,(hT6.keep tk7 fun d' _ ks e=>dk7 _ _ e).snoc ⟨more',dk7 _ _ hd6',hen6.keep tk7⟩,fun d' hd'=>?_,by omega,fun w=>?_,hwd.grow (ZaA _) (Zaa hbt) hi (fun x hx' hk=>hx ⟨x,hx',hk⟩) hg hgo,by simp;omega⟩
    ·rcases List.mem_append.mp hd' with z|z
     ·exact hds d' z
     ·rw[List.mem_singleton.mp z];exact⟨nds.symm,ZK (s1.trans s4) hd0⟩
    ·rw[hme,Bool.or_eq_true,hin w,hen.some]
     constructor
     ·rintro(⟨x,hx1,hx2⟩|z)
      ·exact⟨x,List.mem_append_left _ hx1,hx2⟩
      ·exact⟨_,List.mem_append_right _ (List.mem_singleton.mpr rfl),z⟩
     ·rintro⟨x,hx1,hx2⟩;rcases List.mem_append.mp hx1 with z|z
      ·exact .inl ⟨x,z,hx2⟩
      ·rw[List.mem_singleton.mp z] at hx2;exact .inr hx2
  ·rintro σ H4 ⟨kvs,ds,F,a1,a2,rfl,s4,hs4,hf4,hT4,hds,hkl,hin,hwd,hFl⟩;walk_at "rds";exact q f ds H4 F hf0 (s1.trans s4) ⟨hf4,hT4⟩ (fun d hd=>(hds d hd).2) hwd hFl
end
def VT{K:PySem.W.Frag}{mg:Str→Option Value}(T:Tp K mg):Sp:=fun vs H Q _=>∃a b:Nat,vs=[.int a,.int b]∧Q (.int (Nat.gcd a b:Nat)) H
theorem ZhB{K:PySem.W.Frag}{mg:Str→Option Value}{T:Tp K mg}{H:Hp}{Q:VK}{E:XK}{a b:Nat}(q:Q (.int (Nat.gcd a b:Nat)) H):VT T ([.int a,.int b]++ []) H Q E:=⟨a,b,rfl,q⟩
local macro_rules| `(tactic|walk_at "rd")=>`(tactic|first|((with_reducible show Nm.VT _ _ _ _ _);with_reducible refine Nm.ZhB ?_)|fail "none here")
section
variable {P:Program}{w:World}{K:PySem.W.Frag}{mg:Str→Option Value}{base:Heap}
theorem ZdA(T:Tp K mg):Zk P w K mg base (CXX P w) 1 T.f_divisor T.d_divisor ["one","other"] (VT T):=by
 refine T.F_divisor.okX U1 (fun vs H Q E h=>?_) (fun cdv A outer s H vs Q E hr h=>?_)
 ·obtain⟨a,b,rfl,_⟩:=h
  rfl
 ·have hu:=hr.units;obtain⟨a0,b0,rfl,q⟩:=h;rw[←My.Zdx] at q;refine⟨_,(Zc (Zaq PassesOwn.leaving (ZC Zcm (pv 1) Zf (ZI _)) (Zc (Zs (i:=2) U1.nd rfl (Or.inl rfl) (Zv Yi (pv 0) (pv 1)))
     (Zc (Zs (i:=0) U1.nd rfl (Or.inl rfl) (pv 1))
     (Zh (Zs (i:=1) U1.nd rfl (Or.inl rfl) (pv 2))))))
     (Zh (Zw (pv 0)))),?_⟩
  try dsimp only[L2.cxX,L2.ZN,L2.Zn]
  walk_at "rd";refine ZbD (fun m σ H'=>H'=H∧∃(x y:Int)(r:Option V),m=y.toNat∧σ=[some (.int x),some (.int y),r]∧0≤x∧0≤y∧My.G x y=My.G a0 b0) _ ⟨rfl,a0,b0,none,rfl,rfl,by omega,by omega,rfl⟩ ?_;rintro m σ H' ⟨rfl,x,y,r,rfl,rfl,hx,hy,hG⟩;walk_at "rds";refine Vl (fun c=>ZdF ?_) (fun c=>?_)
  ·have hy0:0<y:=of_decide_eq_true c;walk_at "rds";exact⟨_,(by have:=Int.emod_nonneg x (show y≠0 by omega);have:=Int.emod_lt_of_pos x hy0;omega),rfl,y,x % y,some (.int (x % y)),rfl,rfl,hy,Int.emod_nonneg x (by omega),(ZgG hx hy0).trans hG⟩
  ·have hy0:¬0<y:=fun z=>c (decide_eq_true z);have e:x=My.G a0 b0:=by rw[←hG,My.Zic hx (show y=0 by omega)]
   walk_at "rds";rw[e];exact q
end
def ZcZ{K:PySem.W.Frag}{mg:Str→Option Value}(T:Tp K mg):Sp:=fun vs H Q _=>∃a b:Nat,vs=[.int a,.int b]∧0<b∧b<2 ^ 8000∧∀(p:Addr)(H':Hp),H p=none→Zd H H'→H' p=some (.tup [.int (a / Nat.gcd a b:Nat),.int (b / Nat.gcd a b:Nat)])→Q (.ref p) H'
section
variable {P:Program}{w:World}{K:PySem.W.Frag}{mg:Str→Option Value}{base:Heap}
theorem Zfn(T:Tp K mg):Zk P w K mg base (CXX P w) 2 T.f_ratio T.d_ratio ["top","bottom"] (ZcZ T):=by
 have G_divisor:Zk P w K mg base (CXX P w) 1 T.f_divisor T.d_divisor ["one","other"] (VT T):=(ZdA T).mono (by decide);refine T.F_ratio.okX Zfv (fun vs H Q E h=>?_) (fun cdv A outer s H vs Q E hr h=>?_)
 ·obtain⟨a,b,rfl,_⟩:=h
  rfl
 ·have hu:=hr.units;obtain⟨a,b,rfl,b0,b1,q⟩:=h;have gp:0<Nat.gcd a b:=Nat.gcd_pos_of_pos_right _ b0;have gl:Nat.gcd a b<2 ^ 8000:=Nat.lt_of_le_of_lt (Nat.le_of_dvd b0 (Nat.gcd_dvd_right a b)) b1;have dg:=Zd5 (a:=a) gp gl;refine⟨_,(Zc (Zs (i:=2) Zfv.nd rfl (Or.inl rfl) (Zr G_divisor hr rfl T.m_divisor T.F_divisor.kp T.b_divisor .nil Zl (Za (pv 0) (Za (pv 1) Zb))))
     (Zh (Zw (Yv (Za (Zv Z3 (pv 0) (pv 2)) (Za (Zv Z3 (pv 1) (pv 2)) Zb)))))),?_⟩
  try dsimp only[L2.cxX,L2.ZN,L2.Zn]
  walk_at "rds";refine⟨by show 2≤sizeLine;decide,fun p hp=>?_⟩;exact q p _ hp (Zo hp) Ze
end
def ZfC{K:PySem.W.Frag}{mg:Str→Option Value}(T:Tp K mg):Sp:=fun vs H Q _=>∃(p q:Addr)(x y u v n m:Nat),vs=[.ref p,.ref q]∧H p=some (.tup [.int x,.int y])∧H q=some (.tup [.int u,.int v])∧0<y∧0<v∧x<2 ^ n∧y<2 ^ n∧u<2 ^ m∧v<2 ^ m∧n+m≤8000∧
 ∀(r:Addr)(H':Hp),H r=none→Zd H H'→H' r=some (.tup [.int (x*u / Nat.gcd (x*u) (y*v):Nat),.int (y*v / Nat.gcd (x*u) (y*v):Nat)])→Q (.ref r) H'
section
variable {P:Program}{w:World}{K:PySem.W.Frag}{mg:Str→Option Value}{base:Heap}
theorem Zi0(T:Tp K mg):Zk P w K mg base (CXX P w) 3 T.f_times T.d_times ["one","other"] (ZfC T):=by
 have G_ratio:Zk P w K mg base (CXX P w) 2 T.f_ratio T.d_ratio ["top","bottom"] (ZcZ T):=(Zfn T).mono (by decide);refine T.F_times.okX Zi1 (fun vs H Q E h=>?_) (fun cdv A outer s H vs Q E hr h=>?_)
 ·obtain⟨p,q,x,y,u,v,n,m,rfl,_⟩:=h
  rfl
 ·have hu:=hr.units;obtain⟨p,q,x,y,u,v,n,m,rfl,h1,h2,y0,v0,xs,ys,us,vs',nm,k⟩:=h;have m1:=Zam xs us (by omega);have m2:=Zam ys vs' (by omega);refine⟨_,(Zh (Zw (Zr G_ratio hr rfl T.m_ratio T.F_ratio.kp T.b_ratio .nil Zl (Za (Zv YR (Zj (Zq (K:=K) rfl) (pv 0) Zf (fun _ _=>rfl)) (Zj (Zq (K:=K) rfl) (pv 1) Zf (fun _ _=>rfl))) (Za (Zv YR (Zj (Zq (K:=K) rfl) (pv 0) Zf (fun _ _=>rfl)) (Zj (Zq (K:=K) rfl) (pv 1) Zf (fun _ _=>rfl))) Zb))))),?_⟩
  try dsimp only[L2.cxX,L2.ZN,L2.Zn]
  walk_at "rds";exact⟨x*u,y*v,rfl,Nat.mul_pos y0 v0,Nat.lt_of_lt_of_le (V8 ys vs') (Nat.pow_le_pow_right (by decide) nm),k⟩
end
structure Zmn(b:B5)(gv tk:Nat):Prop where
 g:b.give=(gv:Int)
 t:b.take=(tk:Int)
 g0:0<gv
 t0:0<tk
 gl:gv<2 ^ 110
 tl:tk<2 ^ 110
def ZgL{K:PySem.W.Frag}{mg:Str→Option Value}(T:Tp K mg):Sp:=fun vs H Q _=>∃(t:Addr)(b:B5)(al:Bool)(gv tk:Nat),vs=[.ref t,.bl al]∧H t=some (.tup b.v)∧Zmn b gv tk∧
 ∀(p:Addr)(H':Hp)(x y:Nat),H p=none→Zd H H'→H' p=some (.tup [.int x,.int y])→(if al=true then x=gv / Nat.gcd gv tk∧y=tk / Nat.gcd gv tk else x=tk / Nat.gcd tk gv∧y=gv / Nat.gcd tk gv)→Q (.ref p) H'
section
variable {P:Program}{w:World}{K:PySem.W.Frag}{mg:Str→Option Value}{base:Heap}
theorem Zkm(T:Tp K mg):Zk P w K mg base (CXX P w) 3 T.f_gain T.d_gain ["row","along"] (ZgL T):=by
 have G_ratio:Zk P w K mg base (CXX P w) 2 T.f_ratio T.d_ratio ["top","bottom"] (ZcZ T):=(Zfn T).mono (by decide);refine T.F_gain.okX ZkS (fun vs H Q E h=>?_) (fun cdv A outer s H vs Q E hr h=>?_)
 ·obtain⟨t,b,al,gv,tk,rfl,_⟩:=h
  rfl
 ·have hu:=hr.units;obtain⟨t,b,al,gv,tk,rfl,ht,sz,q⟩:=h;obtain⟨g,tt,g0,t0,gl,tl⟩:=sz;dsimp only[B5.v] at ht;rw[g,tt] at ht;have big:(2:Nat) ^ 110≤2 ^ 8000:=Nat.pow_le_pow_right (by decide) (by decide);refine⟨_,(Zh (Zw (Zjm (Yr (K:=K) rfl (pv 1) (fun _=>rfl)) (Zr G_ratio hr rfl T.m_ratio T.F_ratio.kp T.b_ratio .nil Zl (Za (Zj (Zq (K:=K) rfl) (pv 0) Zf (fun _ _=>rfl)) (Za (Zj (Zq (K:=K) rfl) (pv 0) Zf (fun _ _=>rfl)) Zb))) (Zr G_ratio hr rfl T.m_ratio T.F_ratio.kp T.b_ratio .nil Zl (Za (Zj (Zq (K:=K) rfl) (pv 0) Zf (fun _ _=>rfl)) (Za (Zj (Zq (K:=K) rfl) (pv 0) Zf (fun _ _=>rfl)) Zb)))))),?_⟩
  try dsimp only[L2.cxX,L2.ZN,L2.Zn]
  walk_at "rds";unfold tIf;walk_at "rds";cases al with
  |true=>
   walk_at "rds";exact⟨gv,tk,rfl,t0,Nat.lt_of_lt_of_le tl big,fun p H' hp s h=>q p H' _ _ hp s h ⟨rfl,rfl⟩⟩
  |false=>
   walk_at "rds";exact⟨tk,gv,rfl,g0,Nat.lt_of_lt_of_le gl big,fun p H' hp s h=>q p H' _ _ hp s h ⟨rfl,rfl⟩⟩
end
def YQ{K:PySem.W.Frag}{mg:Str→Option Value}(T:Tp K mg):Sp:=fun vs H Q E=>∃(p:Addr)(i:Int)(hl:HM)(fp:List Addr),vs=[.ref p,.int i]∧ZB T H p hl fp∧
 (¬(0≤i∧i<hl.belts.length)→E (.ref T.X_NoBelt) none H)∧(0≤i→i<hl.belts.length→∀(t:Addr)(b:B5),hl.belts[i.toNat]? =some b→H t=some (.tup b.v)→Q (.ref t) H)
section
variable {P:Program}{w:World}{K:PySem.W.Frag}{mg:Str→Option Value}{base:Heap}
theorem Wn(T:Tp K mg):Zk P w K mg base (CXX P w) 5 T.f_Hall_belt_at T.d_Hall_belt_at ["self","belt"] (YQ T):=by
 have G_Hall_need_belt:Zk P w K mg base (CXX P w) 4 T.f_Hall_need_belt T.d_Hall_need_belt ["self","belt"] (Vn T):=(US T).mono (by decide);have cl_Hall:=T.cl_Hall;have na_Hall:=T.na_Hall;refine T.F_Hall_belt_at.okX ZdJ (fun vs H Q E h=>?_) (fun cdv A outer s H vs Q E hr h=>?_)
 ·obtain⟨p,i,hl,fp,rfl,_⟩:=h
  rfl
 ·have hu:=hr.units;obtain⟨p,i,hl,fp,rfl,hh,e1,q⟩:=h;obtain⟨dx,a,b,bs,rfl,h1,h2,h3,h4,nab,h6⟩:=id hh;refine⟨_,(Zc (ZX (Yb (pv 0) T.cl_Hall T.M_Hall_need_belt G_Hall_need_belt hr T.b_Hall_need_belt .nil Zl (Za (pv 1) Zb)))
     (Zh (Zw (Zj (Zq (K:=K) rfl) (ZZ (K:=K) rfl (pv 0) rfl) (pv 1) (fun _ _=>rfl))))),?_⟩
  try dsimp only[L2.cxX,L2.ZN,L2.Zn]
  walk_at "rds";refine⟨p,i,hl,_,rfl,hh,e1,fun i0 i1=>?_⟩;have hi:i.toNat<hl.belts.length:=by omega
  have ei:=List.getElem?_eq_getElem hi;obtain⟨t,ht1,ht2⟩:=h6.at ei;have at1:atI bs i=some (.ref t):=by
   have:=YT ht1
   rwa [Int.toNat_of_nonneg i0] at this
  walk_at "rds";exact q i0 i1 t _ ei ht2
end
def ZbB{K:PySem.W.Frag}{mg:Str→Option Value}(T:Tp K mg):Sp:=fun vs H Q _=>∃(p d:Addr)(hl:HM)(fp:List Addr)(kvs:List (Key×V))(tr:Fo.ZQ)(first:Int),vs=[.ref p,.ref d]∧ZB T H p hl fp∧d∉fp∧L2.Rd H d (.dK kvs)∧Ent H kvs tr∧Fo.Y1 (YJ hl.belts) first tr∧tr.length≤60∧Wa hl.belts∧
 ∀(e:Addr)(o:Obj)(H':Hp)(kv2:List (Key×V))(zs:List (Int×(Nat×Nat))),H e=none→Zd (upd H d (.frz o (.dK kvs))) H'→H' e=some (.dK kv2)→ShE H' kv2 zs→Wx hl.belts tr zs tr.length→Q (.ref e) H'
section
variable {P:Program}{w:World}{K:PySem.W.Frag}{mg:Str→Option Value}{base:Heap}
theorem Zfe(T:Tp K mg):Zk P w K mg base (CXX P w) 6 T.f_shares_of T.d_shares_of ["hall","tree"] (ZbB T):=by
 have G_times:Zk P w K mg base (CXX P w) 5 T.f_times T.d_times ["one","other"] (ZfC T):=(Zi0 T).mono (by decide);have G_gain:Zk P w K mg base (CXX P w) 5 T.f_gain T.d_gain ["row","along"] (ZgL T):=(Zkm T).mono (by decide);have G_Hall_belt_at:Zk P w K mg base (CXX P w) 5 T.f_Hall_belt_at T.d_Hall_belt_at ["self","belt"] (YQ T):=(Wn T).mono (by decide);have cl_Hall:=T.cl_Hall;have na_Hall:=T.na_Hall;refine T.F_shares_of.okX V5 (fun vs H Q E h=>?_) (fun cdv A outer s H vs Q E hr h=>?_)
 ·obtain⟨p,d,hl,fp,kvs,tr,first,rfl,_⟩:=h
  rfl
 ·have hu:=hr.units;obtain⟨p,d,hl,fp,kvs,tr,first,rfl,hh,ndf,hd,hen,hg,htl,hsz,q⟩:=h;have hkl:=hen.length;refine⟨_,(Zc (Zs (i:=2) V5.nd rfl (Or.inl rfl) Zar)
     (Zc (Z5 PassesOwn.leaving rfl (ZfB (pv 1)) (YF (K:=K) (n:=2) rfl rfl (ZE (Zp (i:=3) V5.nd rfl (Or.inl rfl)) (ZE (Zp (i:=4) V5.nd rfl (Or.inl rfl)) YD))) (Zh (ZW (ZC ZbH (pv 4) WR (ZI _)) (Zh (Wg (Yv (Za Zf (Za Zf Zb))) (W7 (pv 2) (pv 3) (Zab hu)))) (Zh (Wg (Zr G_times hr rfl T.m_times T.F_times.kp T.b_times .nil Zl (Za (Zj (Zce hu) (pv 2) (Zj (Zq (K:=K) rfl) (pv 4) Zf (fun _ _=>rfl)) (fun _ _=>rfl)) (Za (Zr G_gain hr rfl T.m_gain T.F_gain.kp T.b_gain .nil Zl (Za (Yb (pv 0) T.cl_Hall T.M_Hall_belt_at G_Hall_belt_at hr T.b_Hall_belt_at .nil Zl (Za (Zj (Zq (K:=K) rfl) (pv 4) Zf (fun _ _=>rfl)) Zb)) (Za (Zj (Zq (K:=K) rfl) (pv 4) Zf (fun _ _=>rfl)) Zb))) Zb))) (W7 (pv 2) (pv 3) (Zab hu)))))))
     (Zh (Zw (pv 2))))),?_⟩
  try dsimp only[L2.cxX,L2.ZN,L2.Zn]
  walk_at "rds";intro e he;have nde:d≠e:=fun z=>Zd6 hd (by rw[z];exact he);have s1:Zd H (upd H e (.dK [])):=Zo he;have he1:(upd H e (.dK [])) e=some (.dK []):=Ze;have hd1:L2.Rd (upd H e (.dK [])) d (.dK kvs):=by
   rcases hd with h|⟨o,h⟩
   ·exact .inl (s1 _ _ h)
   ·exact .inr ⟨o,s1 _ _ h⟩
  generalize upd H e (.dK [])=H1 at*;walk_at "rds";refine Rd.ZiP ?_;walk_at "rds";refine⟨d,kvs,rfl,hd1,fun o=>?_⟩;have fr1:=Zat (o:=o) hd;have hh3:ZB T (upd H d (.frz o (.dK kvs))) p hl fp:=hh.off fr1 (fun x hx z=>ndf (by rw[←List.mem_singleton.mp z];exact hx));have hen3:Ent (upd H d (.frz o (.dK kvs))) kvs tr:=hen.keep fr1.tups;have he3:(upd H d (.frz o (.dK kvs))) e=none:=by rw[Zg nde.symm];exact he
  have s3:Zd (upd H d (.frz o (.dK kvs))) (upd H1 d (.frz o (.dK kvs))):=fun b x eb=>by
   by_cases z:b=d
   ·rw[z,Ze] at eb⊢;exact eb
   ·rw[Zg z] at eb⊢;exact s1 _ _ eb
  have hd3:(upd H d (.frz o (.dK kvs))) d=some (.frz o (.dK kvs)):=Ze;have he4:(upd H1 d (.frz o (.dK kvs))) e=some (.dK []):=by rw[Zg nde.symm];exact he1
  have qq:=fun H' kv2 zs=>q e o H' kv2 zs he;generalize upd H1 d (.frz o (.dK kvs))=H4 at*;generalize upd H d (.frz o (.dK kvs))=H3 at*;clear q hd1 he1 s1 fr1;refine VG (ZcA hd3) (fun i σ H'=>∃(kv2:List (Key×V))(zs:List (Int×(Nat×Nat)))(a1 a2:Option V),σ=[some (.ref p),some (.ref d),some (.ref e),a1,a2]∧Zd H3 H'∧H' e=some (.dK kv2)∧ShE H' kv2 zs∧Wx hl.belts tr zs i∧kv2.length≤i)
   ⟨[],[],_,_,rfl,s3,he4,.nil,Zjx,Nat.le_refl _⟩ (fun i σ H' ⟨_,_,_,_,_,s,_⟩=>s) ?_ ?_
  ·rintro i σ H5 v H6 hi ⟨kv2,zs,a1,a2,rfl,s5,he5,hsh,hgs,hk2⟩ ⟨t,kv,hkv,ht,rfl,rfl⟩;obtain⟨w,st,htr,ek,hst⟩:=Zlv hen3 hkv;have hil:i<tr.length:=(List.getElem?_eq_some_iff.mp htr).1;have hzl:=hgs.len (Nat.le_of_lt hil);have hknd:w∉zs.map (·.1):=by
    rw[hgs.keys];intro hm;obtain⟨j,hj,e2⟩:=List.getElem_of_mem hm;rw[List.getElem_take] at e2;have hjl:j<i:=by rw[List.length_take] at hj;omega
    have hjk:j<(Fo.keys tr).length:=by rw[List.length_take] at hj;omega
    have hik:i<(Fo.keys tr).length:=by simp[Fo.keys];exact hil
    have ei:(Fo.keys tr)[i]=w:=by
     have:(Fo.keys tr)[i]? =some w:=by unfold Fo.keys;rw[List.getElem?_map,htr];rfl
     rw[List.getElem?_eq_getElem hik] at this;exact Option.some.inj this
    have:=ZbA hg.nodup hjk hik (e2.trans ei.symm);omega
   obtain⟨k,val⟩:=kv;dsimp only at ek hst;subst ek;refine Rd.VB (.of Ze) rfl ?_;have su:Zd H5 (upd H5 t (.tup [kV (Sum.inl w),val])):=Zo ht;have s6:=s5.trans su;have he6:=su _ _ he5;have hsh6:ShE (upd H5 t (.tup [kV (Sum.inl w),val])) kv2 zs:=hsh.keep fun _ _ e=>su _ _ e;generalize upd H5 t (.tup [kV (Sum.inl w),val])=H6 at*;have ekw:kV (Sum.inl w)= .int w:=rfl;rw[ekw];have hkz:kv2.length<sizeLine:=Zu (by omega);have hno:=hsh6.none hknd;walk_at "rds";refine⟨rfl,?_⟩;cases st with
   |none=>
    have ev:val= .non:=hst;subst ev;walk_at "rds";refine⟨by show 2≤sizeLine;decide,fun t2 ht2=>?_⟩;have s7:Zd H6 (upd H6 t2 (.tup [.int 1,.int 1])):=Zo ht2;have h7:(upd H6 t2 (.tup [.int 1,.int 1])) t2=some (.tup [.int 1,.int 1]):=Ze;have he7:=s7 _ _ he6;have hsh7:ShE (upd H6 t2 (.tup [.int 1,.int 1])) kv2 zs:=hsh6.keep fun _ _ e=>s7 _ _ e;generalize upd H6 t2 (.tup [.int 1,.int 1])=H7 at*;walk_at "rds";rw[VA _ hno];have tk8:∀a xs,H7 a=some (.tup xs)→(upd H7 e (.dK (kv2++ [(Sum.inl w,.ref t2)]))) a=some (.tup xs):=fun a xs ea=>by rw[Zg (Yw ea he7 (by intro z;cases z))];exact ea
    refine⟨_,zs++ [(w,(1,1))],_,_,rfl,(s6.trans s7).new he3,Ze,(hsh7.keep tk8).snoc (x:=(1,1)) (tk8 _ _ h7),hgs.more hil htr ⟨by decide,by decide,by decide⟩ ⟨?_,?_⟩ (fun _=>rfl) (fun p b al z=>by cases z),by simp;omega⟩
    ·exact Nat.lt_of_lt_of_le (by decide:(1:Nat)<2 ^ 1) (Nat.pow_le_pow_right (by decide) (by omega))
    ·exact Nat.lt_of_lt_of_le (by decide:(1:Nat)<2 ^ 1) (Nat.pow_le_pow_right (by decide) (by omega))
   |some x=>
    obtain⟨pw,b,al⟩:=x;obtain⟨t2,ev,ht2⟩:=hst;subst ev;have ht6:=s6 _ _ ht2;obtain⟨hway,j,sj,hj,htj⟩:=hg.steps i w pw b al htr;have hpm:pw∈zs.map (·.1):=by
     rw[hgs.keys];have hk:(Fo.keys tr)[j]? =some pw:=by unfold Fo.keys;rw[List.getElem?_map,htj];rfl
     have:((Fo.keys tr).take i)[j]? =some pw:=by rw[List.getElem?_take,if_pos hj];exact hk
     exact List.mem_of_getElem? this
    obtain⟨y,ty,hym,hval,hty⟩:=hsh6.get hpm;obtain⟨jy,hjy⟩:=List.getElem?_of_mem hym;have hjl:=(List.getElem?_eq_some_iff.mp hjy).1;obtain⟨y0,y1,yg⟩:=hgs.pos _ hym;obtain⟨ys1,ys2⟩:=hgs.size jy _ hjy;obtain⟨bi,hbi,hbm⟩:=Zac hway;have eb:b=(bi:Int):=by
     rw[VL] at hbm;rcases hbm with⟨_,z⟩|⟨_,z⟩<;>(injection z with _ z2;injection z2)
    obtain⟨gv,tk,g0,t0,gl,tl,eg,et⟩:=hsz bi hbi;have hh6:=hh3.same s6;have dec:decide (V.ref t2=V.non)=false:=decide_eq_false (by intro z;cases z);rw[dec];walk_at "rds";refine⟨p,b,hl,fp,rfl,hh6,fun z=>absurd ⟨by omega,by omega⟩ z,fun _ _ tb B hB htB=>?_⟩;have eB:hl.belts.getD bi dB=B:=by
     rw[eb,Int.toNat_natCast] at hB;simp[List.getD,hB]
    rw[eB] at eg et;walk_at "rds";refine⟨tb,B,al,gv,tk,rfl,htB,⟨eg,et,g0,t0,gl,tl⟩,fun t3 H7 u v ht3 s7 h7 huv=>?_⟩;have hn:110*jy+1+110≤110*i+1:=by omega
    have huv2:∃G1 G2 M,G1=Nat.gcd M G2∧True:=⟨_,0,0,rfl,trivial⟩;have key:∃gA tA:Nat,0<gA∧0<tA∧gA<2 ^ 110∧tA<2 ^ 110∧u=gA / Nat.gcd gA tA∧v=tA / Nat.gcd gA tA∧(∀x:Nat×Nat,x.1*y.2*tA=y.1*x.2*gA→Bal B al x y):=by
     cases al with
     |true=>
      rw[if_pos rfl] at huv;refine⟨gv,tk,g0,t0,gl,tl,huv.1,huv.2,fun x hx=>?_⟩;unfold Bal;rw[if_pos rfl,eg,et,Int.toNat_natCast,Int.toNat_natCast];exact hx
     |false=>
      rw[if_neg (by decide)] at huv;refine⟨tk,gv,t0,g0,tl,gl,huv.1,huv.2,fun x hx=>?_⟩;unfold Bal;rw[if_neg (by decide),eg,et,Int.toNat_natCast,Int.toNat_natCast];exact hx
    clear huv huv2;obtain⟨gA,tA,gA0,tA0,gAl,tAl,eu,ev,hbal⟩:=key;have ul:u<2 ^ 110:=by rw[eu];exact Nat.lt_of_le_of_lt (Nat.div_le_self _ _) gAl
    have vl:v<2 ^ 110:=by rw[ev];exact Nat.lt_of_le_of_lt (Nat.div_le_self _ _) tAl
    have v0:0<v:=by
     rw[ev];exact Nat.div_pos (Nat.le_of_dvd tA0 (Nat.gcd_dvd_right _ _)) (Nat.gcd_pos_of_pos_left _ gA0)
    walk_at "rds";refine⟨ty,t3,y.1,y.2,u,v,110*jy+1,110,rfl,s7 _ _ hty,h7,y1,v0,ys1,ys2,ul,vl,by omega,fun t4 H8 ht4 s8 h8=>?_⟩;obtain⟨hp,hb1,hle1,hle2⟩:=Zhz (y:=y) (u:=(u,v)) (x:=(y.1*u / Nat.gcd (y.1*u) (y.2*v),y.2*v / Nat.gcd (y.1*u) (y.2*v))) (n:=0) y0 y1 gA0 tA0 eu ev rfl rfl rfl;have s68:=s7.trans s8;have he8:=s68 _ _ he6;have hsh8:ShE H8 kv2 zs:=hsh6.keep fun _ _ e=>s68 _ _ e;walk_at "rds";rw[VA _ hno];have tk8:∀a xs,H8 a=some (.tup xs)→(upd H8 e (.dK (kv2++ [(Sum.inl w,.ref t4)]))) a=some (.tup xs):=fun a xs ea=>by rw[Zg (Yw ea he8 (by intro z;cases z))];exact ea
    have sz1:y.1*gA<2 ^ (110*i+1):=Nat.lt_of_lt_of_le (V8 ys1 gAl) (Nat.pow_le_pow_right (by decide) hn);have sz2:y.2*tA<2 ^ (110*i+1):=Nat.lt_of_lt_of_le (V8 ys2 tAl) (Nat.pow_le_pow_right (by decide) hn);refine⟨_,zs++ [(w,(y.1*u / Nat.gcd (y.1*u) (y.2*v),y.2*v / Nat.gcd (y.1*u) (y.2*v)))],_,_,rfl,(s6.trans s68).new he3,Ze,(hsh8.keep tk8).snoc (tk8 _ _ h8),hgs.more hil htr hp ⟨Nat.lt_of_le_of_lt hle1 sz1,Nat.lt_of_le_of_lt hle2 sz2⟩ (fun z=>by cases z) (fun p' b' al' z=>?_),by simp;omega⟩;cases z;refine⟨jy,y,hjy,?_⟩;rw[eb,Int.toNat_natCast,eB];exact hbal _ hb1
  ·rintro σ H5 ⟨kv2,zs,a1,a2,rfl,s5,he5,hsh,hgs,hk2⟩;rw[hkl] at hgs;walk_at "rds";exact qq H5 kv2 zs s5 he5 hsh hgs
end
def Zcw{K:PySem.W.Frag}{mg:Str→Option Value}(T:Tp K mg):Sp:=fun vs H Q _=>∃a b n:Nat,vs=[.int a,.int b]∧0<b∧b<2 ^ 8000∧a<2 ^ n∧n≤1000000∧Q (.int (a / Nat.gcd a b*b:Nat)) H
section
variable {P:Program}{w:World}{K:PySem.W.Frag}{mg:Str→Option Value}{base:Heap}
theorem Zgb(T:Tp K mg):Zk P w K mg base (CXX P w) 2 T.f_multiple T.d_multiple ["one","other"] (Zcw T):=by
 have G_divisor:Zk P w K mg base (CXX P w) 1 T.f_divisor T.d_divisor ["one","other"] (VT T):=(ZdA T).mono (by decide);refine T.F_multiple.okX Zgo (fun vs H Q E h=>?_) (fun cdv A outer s H vs Q E hr h=>?_)
 ·obtain⟨a,b,n,rfl,_⟩:=h
  rfl
 ·have hu:=hr.units;obtain⟨a,b,n,rfl,b0,b1,hn,hn2,q⟩:=h;have gp:0<Nat.gcd a b:=Nat.gcd_pos_of_pos_right _ b0;have gl:Nat.gcd a b<2 ^ 8000:=Nat.lt_of_le_of_lt (Nat.le_of_dvd b0 (Nat.gcd_dvd_right a b)) b1;have dg:=Zd5 (a:=a) gp gl;have da:a / Nat.gcd a b<2 ^ n:=Nat.lt_of_le_of_lt (Nat.div_le_self _ _) hn;have mo:IntMulOk ((a:Int) / (Nat.gcd a b:Nat)) (b:Int):=Zam (a:=a / Nat.gcd a b) da b1 (by omega);refine⟨_,(Zh (Zw (Zv YR (Zv Z3 (pv 0) (Zr G_divisor hr rfl T.m_divisor T.F_divisor.kp T.b_divisor .nil Zl (Za (pv 0) (Za (pv 1) Zb)))) (pv 1)))),?_⟩
  try dsimp only[L2.cxX,L2.ZN,L2.Zn]
  walk_at "rds";exact q
end
def Zcy{K:PySem.W.Frag}{mg:Str→Option Value}(T:Tp K mg):Sp:=fun vs H Q _=>∃(p f:Addr)(hl:HM)(fp ds:List Addr)(F:List (Int×Fo.ZQ)),vs=[.ref p,.ref f]∧ZB T H p hl fp∧H f=some (.lst (ds.map V.ref))∧Y9 H ds F∧(∀d∈ds,d∉fp)∧(∀d∈ds,d≠f)∧Fo.Vm (YJ hl.belts) hl.names.length F hl.names.length∧ZM hl.belts hl.names.length∧hl.names.length≤60∧Wa hl.belts∧
 ∀(r:Addr)(H':Hp)(rs:List Int),H r=none→ZH ds H H'→Y9 H' ds F→H' r=some (.lst (rs.map V.int))→rs.length=hl.names.length→(∀x∈F,Zbh hl.belts x rs)→Q (.ref r) H'
section
variable {P:Program}{w:World}{K:PySem.W.Frag}{mg:Str→Option Value}{base:Heap}
theorem Zgt(T:Tp K mg):Zk P w K mg base (CXX P w) 7 T.f_rates_by T.d_rates_by ["hall","forest"] (Zcy T):=by
 have G_shares_of:Zk P w K mg base (CXX P w) 6 T.f_shares_of T.d_shares_of ["hall","tree"] (ZbB T):=(Zfe T).mono (by decide);have G_multiple:Zk P w K mg base (CXX P w) 6 T.f_multiple T.d_multiple ["one","other"] (Zcw T):=(Zgb T).mono (by decide);have G_Hall_names:Zk P w K mg base (CXX P w) 6 T.f_Hall_names T.d_Hall_names ["self"] (UO T):=(Zbu T).mono (by decide);have cl_Hall:=T.cl_Hall;have na_Hall:=T.na_Hall;refine T.F_rates_by.okX YK (fun vs H Q E h=>?_) (fun cdv A outer s H vs Q E hr h=>?_)
 ·obtain⟨p,f,hl,fp,ds,F,rfl,_⟩:=h
  rfl
 ·have hu:=hr.units;obtain⟨p,f,hl,fp,ds,F,rfl,hh,hf,hT,hdf,hdn,hwd,hbt,hn,hsz,q⟩:=h;have hdl:=hT.length;refine⟨_,(Zc (Zd4 (j:=2) rfl (Yh (x:="name") (zs:=[]) (ix:=[]) (Zi V7) ["hall","forest","rates","tree","shares","common","share","work"] rfl rfl (by decide+kernel)) (Z0 (K:=K) rfl (Uj (pv 0) T.cl_Hall T.M_Hall_names G_Hall_names hr T.b_Hall_names .nil Zl)) (fun cl C s H fp=>⟨(Zp (i:=0) (show(["name"]:List Str).Nodup by decide+kernel) rfl (Or.inl rfl)),Yg,Zf⟩) YK.nd rfl (Or.inl rfl))
     (Zc (Z5 PassesOwn.leaving rfl (Z0 (K:=K) rfl (pv 1)) (Zp (i:=3) YK.nd rfl (Or.inl rfl)) (Zc (Zs (i:=4) YK.nd rfl (Or.inl rfl) (Zr G_shares_of hr rfl T.m_shares_of T.F_shares_of.kp T.b_shares_of .nil Zl (Za (pv 0) (Za (pv 3) Zb))))
     (Zc (Zs (i:=5) YK.nd rfl (Or.inl rfl) Zf)
     (Zc (Z5 PassesOwn.leaving rfl (Zkx (pv 4)) (Zp (i:=6) YK.nd rfl (Or.inl rfl)) (Zh (Zs (i:=5) YK.nd rfl (Or.inl rfl) (Zr G_multiple hr rfl T.m_multiple T.F_multiple.kp T.b_multiple .nil Zl (Za (pv 5) (Za (Zj (Zq (K:=K) rfl) (pv 6) Zf (fun _ _=>rfl)) Zb))))))
     (Zh (Z5 PassesOwn.leaving rfl (ZfB (pv 4)) (YF (K:=K) (n:=2) rfl rfl (ZE (Zp (i:=7) YK.nd rfl (Or.inl rfl)) (ZE (Zp (i:=6) YK.nd rfl (Or.inl rfl)) YD))) (Zh (Wg (Zv YR (Zv Z3 (pv 5) (Zj (Zq (K:=K) rfl) (pv 6) Zf (fun _ _=>rfl))) (Zj (Zq (K:=K) rfl) (pv 6) Zf (fun _ _=>rfl))) (W7 (pv 2) (pv 7) WM)))))))))
     (Zh (Zw (pv 2))))),?_⟩
  try dsimp only[L2.cxX,L2.ZN,L2.Zn]
  walk_at "rds";refine⟨p,hl,fp,rfl,hh,fun nm H1 hnm s1 hnm1=>?_⟩;walk_at "rds";refine YA (ZT (SqL.of hnm1)) (Zu (by rw[List.length_map];omega)) (fun _=>true) (fun _=> .int 1) (fun i H' Kc hi sm k=>?_) (fun i H' Kc hi _ sm k=>?_) (fun r H2 hr s2 hr2=>?_)
  ·walk_at "rds";exact k H' (Zd.refl H')
  ·walk_at "rds";exact k H' (Zd.refl H')
  have hr3:H2 r=some (.lst ((List.replicate hl.names.length (1:Int)).map V.int)):=by
   rw[hr2,List.filter_eq_self.mpr (by simp),List.length_map];refine congrArg (fun z=>some (HO.lst z)) ?_;refine List.ext_getElem (by simp) fun i h1 h2=>?_;simp
  clear hr2;have s12:=s1.trans s2;have hr0:H r=none:=ZK s1 hr;have hf2:=s12 _ _ hf;have hrd:∀d∈ds,r≠d:=fun d hd z=>by
   obtain⟨i,hi,rfl⟩:=List.getElem_of_mem hd;obtain⟨x,_,kvs,a,_⟩:=Paired.get' hT (List.getElem?_eq_getElem hi);exact Zd6 a (by rw[←z];exact hr0)
  have nfr:f≠r:=Zm hf hr0;walk_at "rds";refine WN (ZT (SqL.of (ZaB (q:=f) (o:= .lst (ds.map V.ref))))) (fun i σ H'=>∃(rs:List Int)(a1 a2 a3 a4 a5:Option V),σ=[some (.ref p),some (.ref f),some (.ref r),a1,a2,a3,a4,a5]∧ZH ds H H'∧Y9 H' ds F∧H' f=some (.lst (ds.map V.ref))∧H' r=some (.lst (rs.map V.int))∧rs.length=hl.names.length∧∀(k:Nat) x,k<i→F[k]? =some x→Zbh hl.belts x rs)
   ⟨_,_,_,_,_,_,rfl,s12.frame,hT.same s12,hf2,hr3,by simp,fun k x hk=>absurd hk (Nat.not_lt_zero _)⟩ ?_ ?_ ?_
  ·rintro i σ H' ⟨_,_,_,_,_,_,_,_,_,h,_⟩;exact ZaF h
  ·rintro i σ H3 hi ⟨rs,a1,a2,a3,a4,a5,rfl,fr3,hT3,hf3,hr3,hrl,hset⟩;have hi':i<ds.length:=by simpa using hi
   have ei:(ds.map V.ref).getD i .non= .ref ds[i]:=by simp[List.getD,hi']
   rw[ei];obtain⟨x,hx,kvs,hd,hen⟩:=Paired.get' hT3 (List.getElem?_eq_getElem hi');have hdm:=List.getElem_mem hi';generalize ds[i]=d at*;obtain⟨g,gg,g0,g1⟩:=hwd.tree x (List.mem_of_getElem? hx);have hkrg:=g.rg ⟨g0,g1⟩ (Zaa hbt);have htl:x.2.length≤60:=by
    have:=Fo.Ub (n:=hl.names.length) g.nodup hkrg;simp[Fo.keys] at this;omega
   have hh3:=hh.off fr3 (fun y hy z=>hdf y z hy);walk_at "rds";refine⟨p,d,hl,fp,kvs,x.2,x.1,rfl,hh3,hdf d hdm,hd,hen,g,htl,hsz,fun e o H4 kv2 zs he s4 he4 hsh hgs=>?_⟩;have fr4:ZH ds H H4:=fr3.trans (((Zat (o:=o) hd).mono (by intro y hy;rw[List.mem_singleton.mp hy];exact hdm)).trans s4.frame);have hT4:=(hT3.frz (o:=o) hd).same s4;have hf4:H4 f=some (.lst (ds.map V.ref)):=fr4.keep _ _ hf (fun z=>hdn f z rfl);have nrd:=hrd d hdm;have hr4:H4 r=some (.lst (rs.map V.int)):=s4 _ _ (by rw[Zg nrd];exact hr3);have ned:∀d'∈ds,e≠d':=fun d' hd' z=>by
    obtain⟨j,hj,rfl⟩:=List.getElem_of_mem hd';obtain⟨x',_,k',a,_⟩:=Paired.get' hT3 (List.getElem?_eq_getElem hj);exact Zd6 a (by rw[←z];exact he)
   have ner:r≠e:=fun z=>by rw[z,he] at hr3;cases hr3
   have nef:f≠e:=fun z=>by rw[z,he] at hf3;cases hf3
   have he0:H e=none:=by
    cases ee:H e with
    |none=>rfl
    |some o'=>
     by_cases z:e∈ds
     ·exact absurd rfl (ned e z)
     ·rw[fr3.keep _ _ ee z] at he;cases he
   have hzl:=hgs.len (Nat.le_refl _);have hkl:=hsh.length;walk_at "rds";refine Rd.Zmk ?_;walk_at "rds";refine⟨e,kv2,rfl,.inl he4,fun o2=>?_⟩;have he5:(upd H4 e (.frz o2 (.dK kv2))) e=some (.frz o2 (.dK kv2)):=Ze;have tk5:∀a xs,H4 a=some (.tup xs)→(upd H4 e (.frz o2 (.dK kv2))) a=some (.tup xs):=(Zat (o:=o2) (.inl he4)).tups;have hsh5:=hsh.keep tk5;have hr5:(upd H4 e (.frz o2 (.dK kv2))) r=some (.lst (rs.map V.int)):=by rw[Zg ner];exact hr4
   have hf5:(upd H4 e (.frz o2 (.dK kv2))) f=some (.lst (ds.map V.ref)):=by rw[Zg nef];exact hf4
   have fr5:ZH ds H (upd H4 e (.frz o2 (.dK kv2))):=⟨fun b y eb n=>by rw[Zg (fun z=>by rw[z,he0] at eb;cases eb)];exact fr4.keep _ _ eb n,fun b xs eb=>tk5 _ _ (fr4.tups _ _ eb)⟩;have hT5:Y9 (upd H4 e (.frz o2 (.dK kv2))) ds F:=by
    refine UW hT4 fun d' x' hd' ⟨k,a,b⟩=>⟨k,?_,b.keep tk5⟩;have:=(ned d' hd').symm;rcases a with a|⟨o',a⟩
    ·exact .inl (by rw[Zg this];exact a)
    ·exact .inr ⟨o',by rw[Zg this];exact a⟩
   generalize upd H4 e (.frz o2 (.dK kv2))=H5 at*;refine VG (ZgY he5) (fun k σ H'=>H'=H5∧∃(C:Nat)(a4:Option V),σ=[some (.ref p),some (.ref f),some (.ref r),some (.ref d),some (.ref e),some (.int C),a4,a5]∧C=lcmL (zs.take k)∧C<2 ^ (6700*k+1)) ⟨rfl,1,_,rfl,rfl,by decide⟩ (fun i σ H' h=>h.1▸Zd.refl H5) ?_ ?_
   ·rintro k σ H6 v H7 hk ⟨rfl,C,a4,rfl,hC,hCs⟩ ⟨rfl,kv,hkv,rfl⟩;obtain⟨y,hy,_,t,et,ht⟩:=Paired.get' hsh5 hkv;rw[et];have hkz:k<zs.length:=(List.getElem?_eq_some_iff.mp hy).1;obtain⟨y0,y1,_⟩:=hgs.pos y (List.mem_of_getElem? hy);have ysz:=(hgs.size k y hy).2;have ys2:y.2.2<2 ^ 6700:=Nat.lt_of_lt_of_le ysz (Nat.pow_le_pow_right (by decide) (by omega));have et2:zs.take (k+1)=zs.take k++ [y]:=by rw[List.take_succ,hy];rfl
    walk_at "rds";refine⟨C,y.2.2,6700*k+1,rfl,y1,Nat.lt_of_lt_of_le ys2 (Nat.pow_le_pow_right (by decide) (by decide)),hCs,by omega,?_⟩;rw[ZiY];refine⟨rfl,_,_,rfl,by rw[et2,ZhV,hC],?_⟩;have:=Ziz hCs ys2;have e3:6700*(k+1)+1=6700*k+1+6700:=by omega
    rw[e3];exact this
   ·rintro σ H6 ⟨rfl,C,a4,rfl,hC,hCs⟩;rw[hkl,List.take_length] at hC;walk_at "rds";refine Rd.ZiP ?_;walk_at "rds";refine⟨e,kv2,rfl,.inr ⟨o2,he5⟩,fun o3=>?_⟩;have he7:(upd H6 e (.frz o3 (.dK kv2))) e=some (.frz o3 (.dK kv2)):=Ze;have tk7:∀a xs,H6 a=some (.tup xs)→(upd H6 e (.frz o3 (.dK kv2))) a=some (.tup xs):=(Zat (o:=o3) (.inr ⟨o2,he5⟩)).tups;have hsh7:=hsh5.keep tk7;have hr7:(upd H6 e (.frz o3 (.dK kv2))) r=some (.lst (rs.map V.int)):=by rw[Zg ner];exact hr5
    have hf7:(upd H6 e (.frz o3 (.dK kv2))) f=some (.lst (ds.map V.ref)):=by rw[Zg nef];exact hf5
    have fr7:ZH ds H (upd H6 e (.frz o3 (.dK kv2))):=⟨fun b y eb n=>by rw[Zg (fun z=>by rw[z,he0] at eb;cases eb)];exact fr5.keep _ _ eb n,fun b xs eb=>tk7 _ _ (fr5.tups _ _ eb)⟩;have hT7:Y9 (upd H6 e (.frz o3 (.dK kv2))) ds F:=by
     refine UW hT5 fun d' x' hd' ⟨k,a,b⟩=>⟨k,?_,b.keep tk7⟩;have:=(ned d' hd').symm;rcases a with a|⟨o',a⟩
     ·exact .inl (by rw[Zg this];exact a)
     ·exact .inr ⟨o',by rw[Zg this];exact a⟩
    generalize upd H6 e (.frz o3 (.dK kv2))=H7 at*;have hkz:zs.map (·.1)=Fo.keys x.2:=by
     have h1:=hgs.keys;have h2:(Fo.keys x.2).take x.2.length=Fo.keys x.2:=List.take_of_length_le (by simp[Fo.keys]);rw[h1,h2]
    have hzk:∀(j:Nat) y,zs[j]? =some y→y.1∈Fo.keys x.2:=fun j y hy=>by rw[←hkz];exact List.mem_map.mpr ⟨y,List.mem_of_getElem? hy,rfl⟩
    have hzn:∀(j k:Nat) y z,zs[j]? =some y→zs[k]? =some z→j≠k→y.1≠z.1:=fun j k y z hy hz ne ee=>by
     have nd:(zs.map (·.1)).Nodup:=by rw[hkz];exact g.nodup
     obtain⟨hj,ej⟩:=List.getElem?_eq_some_iff.mp hy;obtain⟨hk,ek⟩:=List.getElem?_eq_some_iff.mp hz;refine ne (ZbA nd (by simpa using hj) (by simpa using hk) ?_);rw[List.getElem_map,List.getElem_map,ej,ek];exact ee
    refine VG (ZcA (ZaB (q:=e) (o:= .frz o3 (.dK kv2)))) (fun k σ H'=>∃(rs':List Int)(a6 a7:Option V),σ=[some (.ref p),some (.ref f),some (.ref r),some (.ref d),some (.ref e),some (.int C),a6,a7]∧ZH ds H H'∧Y9 H' ds F∧H' e=some (.frz o3 (.dK kv2))∧H' f=some (.lst (ds.map V.ref))∧H' r=some (.lst (rs'.map V.int))∧rs'.length=hl.names.length∧ShE H' kv2 zs∧
     (∀(j:Nat) y,j<k→zs[j]? =some y→rs'[y.1.toNat]? =some ((C / y.2.2*y.2.1:Nat):Int))∧∀v:Int,0≤v→v∉Fo.keys x.2→rs'[v.toNat]? =rs[v.toNat]?)
     ⟨rs,_,_,rfl,fr7,hT7,he7,hf7,hr7,hrl,hsh7,fun j y hj=>absurd hj (Nat.not_lt_zero _),fun _ _ _=>rfl⟩ ?_ ?_ ?_
    ·rintro k σ H' ⟨_,_,_,_,_,_,h,_⟩;exact ZaF h
    ·rintro k σ H8 v H9 hk ⟨rs',a6,a7,rfl,fr8,hT8,he8,hf8,hr8,hrl8,hsh8,hin8,hout8⟩ ⟨t,kv,hkv,ht,rfl,rfl⟩;obtain⟨y,hy,ek,ty,et,hty⟩:=Paired.get' hsh8 hkv;obtain⟨kk,vv⟩:=kv;dsimp only at ek et;subst ek et;refine Rd.VB (.of Ze) rfl ?_;have su:Zd H8 (upd H8 t (.tup [kV (Sum.inl y.1),.ref ty])):=Zo ht;have hr9:=su _ _ hr8;have hty9:=su _ _ hty;have fr9:ZH ds H (upd H8 t (.tup [kV (Sum.inl y.1),.ref ty])):=fr8.trans su.frame;have hT9:=hT8.same su;have he9:=su _ _ he8;have hf9:=su _ _ hf8;have hsh9:ShE (upd H8 t (.tup [kV (Sum.inl y.1),.ref ty])) kv2 zs:=hsh8.keep fun _ _ e=>su _ _ e;generalize upd H8 t (.tup [kV (Sum.inl y.1),.ref ty])=H9 at*;have ekw:kV (Sum.inl y.1)= .int y.1:=rfl;rw[ekw];obtain⟨y0,y1,_⟩:=hgs.pos y (List.mem_of_getElem? hy);obtain⟨ysz1,ysz2⟩:=hgs.size k y hy;have hkk:k<zs.length:=(List.getElem?_eq_some_iff.mp hy).1;have ys1:y.2.1<2 ^ 6700:=Nat.lt_of_lt_of_le ysz1 (Nat.pow_le_pow_right (by decide) (by omega));have ys2:y.2.2<2 ^ 6700:=Nat.lt_of_lt_of_le ysz2 (Nat.pow_le_pow_right (by decide) (by omega));have dv:=Zd5 (a:=0) y1 (Nat.lt_of_lt_of_le ys2 (Nat.pow_le_pow_right (by decide) (by decide)));have mo:IntMulOk ((C:Int) / (y.2.2:Nat)) ((y.2.1:Nat):Int):=Zam (a:=C / y.2.2) (Nat.lt_of_le_of_lt (Nat.div_le_self _ _) hCs) ys1 (by omega);obtain⟨w0,w1⟩:=hkrg y.1 (hzk k y hy);walk_at "rds";have ev:(C:Int) / ((y.2.2:Nat):Int)*((y.2.1:Nat):Int)=((C / y.2.2*y.2.1:Nat):Int):=rfl;rw[ev];have tkA:∀a xs,H9 a=some (.tup xs)→(upd H9 r (.lst ((rs'.map V.int).set y.1.toNat (.int ((C / y.2.2*y.2.1:Nat):Int))))) a=some (.tup xs):=fun a xs ea=>by rw[Zg (Yw ea hr9 (by intro z;cases z))];exact ea
     have hwl:y.1.toNat<rs'.length:=by omega
     walk_at "rds";refine⟨rs'.set y.1.toNat ((C / y.2.2*y.2.1:Nat):Int),_,_,rfl,⟨fun b z eb n=>by rw[Zg (fun c=>by rw[c,hr0] at eb;cases eb)];exact fr9.keep _ _ eb n,fun b xs eb=>tkA _ _ (fr9.tups _ _ eb)⟩,?_,by rw[Zg ner.symm];exact he9,by rw[Zg nfr];exact hf9,by rw[Ze,List.map_set],by rw[List.length_set];exact hrl8,hsh9.keep tkA,fun j z hj hz=>?_,fun v v0 hv=>?_⟩
     ·refine UW hT9 fun d' x' hd' ⟨k',a,b⟩=>⟨k',?_,b.keep tkA⟩;have:=(hrd d' hd').symm;rcases a with a|⟨o',a⟩
      ·exact .inl (by rw[Zg this];exact a)
      ·exact .inr ⟨o',by rw[Zg this];exact a⟩
     ·rcases Nat.lt_succ_iff_lt_or_eq.mp hj with c|c
      ·have ne:=hzn j k z y hz hy (by omega);obtain⟨z0,_⟩:=hkrg z.1 (hzk j z hz);rw[List.getElem?_set_ne (by omega)];exact hin8 j z c hz
      ·subst c;rw[hy] at hz;cases hz;rw[List.getElem?_set_self hwl]
     ·have ne:v≠y.1:=fun c=>hv (by rw[c];exact hzk k y hy);rw[List.getElem?_set_ne (by omega)];exact hout8 v v0 hv
    ·rintro σ H8 ⟨rs',a6,a7,rfl,fr8,hT8,he8,hf8,hr8,hrl8,hsh8,hin8,hout8⟩;refine⟨rs',_,_,_,_,_,rfl,fr8,hT8,hf8,hr8,hrl8,fun k x' hk hx'=>?_⟩;rcases Nat.lt_succ_iff_lt_or_eq.mp hk with c|c
     ·obtain⟨zs',hg',hz'⟩:=hset k x' c hx';refine⟨zs',hg',fun y hy=>?_⟩;obtain⟨g',gg',g0',g1'⟩:=hwd.tree x' (List.mem_of_getElem? hx');have hyk:y.1∈Fo.keys x'.2:=by
       have h1:=hg'.keys;have h2:(Fo.keys x'.2).take x'.2.length=Fo.keys x'.2:=List.take_of_length_le (by simp[Fo.keys]);rw[h2] at h1;rw[←h1];exact List.mem_map.mpr ⟨y,hy,rfl⟩
      rw[hout8 y.1 (g'.rg ⟨g0',g1'⟩ (Zaa hbt) _ hyk).1 (ZiA hbt hwd hx' hx (by omega) _ hyk)];exact hz' y hy
     ·subst c;rw[hx] at hx';cases hx';refine⟨zs,hgs,fun y hy=>?_⟩;obtain⟨j,hj⟩:=List.getElem?_of_mem hy;rw[←hC];exact hin8 j y (by rw[hkl];exact(List.getElem?_eq_some_iff.mp hj).1) hj
  ·rintro σ H3 ⟨rs,a1,a2,a3,a4,a5,rfl,fr3,hT3,hf3,hr3,hrl,hset⟩;walk_at "rds";refine q r H3 rs hr0 fr3 hT3 hr3 hrl (fun x hx=>?_);obtain⟨k,hk⟩:=List.getElem?_of_mem hx;have:=(List.getElem?_eq_some_iff.mp hk).1;exact hset k x (by rw[List.length_map,hdl];exact this) hk
end
def Zb3{K:PySem.W.Frag}{mg:Str→Option Value}(T:Tp K mg):Sp:=fun vs H Q _=>∃(p c:Addr)(hl:HM)(fp:List Addr)(cs:List Int),vs=[.ref p,.ref c]∧ZB T H p hl fp∧hl.belts.length≤1000∧SqL K H c (cs.map V.int)∧ZM hl.belts cs.length∧Wa hl.belts∧(∀c∈cs,∃k:Nat,c=(k:Int)∧k<2 ^ 420000)∧
 ∀(r:Addr)(H':Hp),H r=none→Zd H H'→H' r=some (.lst ((hl.belts.map (ZcR cs)).map V.int))→Q (.ref r) H'
section
variable {P:Program}{w:World}{K:PySem.W.Frag}{mg:Str→Option Value}{base:Heap}
theorem Zfd(T:Tp K mg):Zk P w K mg base (CXX P w) 2 T.f_change_of T.d_change_of ["hall","counts"] (Zb3 T):=by
 have G_Hall_belts:Zk P w K mg base (CXX P w) 1 T.f_Hall_belts T.d_Hall_belts ["self"] (YV T):=(Vx T).mono (by decide);have cl_Hall:=T.cl_Hall;have na_Hall:=T.na_Hall;refine T.F_change_of.okX ZfE (fun vs H Q E h=>?_) (fun cdv A outer s H vs Q E hr h=>?_)
 ·obtain⟨p,c,hl,fp,cs,rfl,_⟩:=h
  rfl
 ·have hu:=hr.units;obtain⟨p,qa,hl,fp,cs,rfl,hh,hz,hc,hbt,hsz,hcs,q⟩:=h;refine⟨_,(Zh (Zw (Vh rfl (Yh (x:="row") (zs:=["counts"]) (ix:=[1]) (Zi Vs) ["hall","counts"] rfl rfl (by decide+kernel)) (Z0 (K:=K) rfl (Uj (pv 0) T.cl_Hall T.M_Hall_belts G_Hall_belts hr T.b_Hall_belts .nil Zl)) (fun cl C s H fp=>⟨(Zp (i:=0) (show(["row","counts"]:List Str).Nodup by decide+kernel) rfl (Or.inl rfl)),Yg,(Zv Zau (Zv YR (Zj (Zq (K:=K) rfl) (pv 1) (Zj (Zq (K:=K) rfl) (pv 0) Zf (fun _ _=>rfl)) (fun _ _=>rfl)) (Zj (Zq (K:=K) rfl) (pv 0) Zf (fun _ _=>rfl))) (Zv YR (Zj (Zq (K:=K) rfl) (pv 1) (Zj (Zq (K:=K) rfl) (pv 0) Zf (fun _ _=>rfl)) (fun _ _=>rfl)) (Zj (Zq (K:=K) rfl) (pv 0) Zf (fun _ _=>rfl))))⟩)))),?_⟩
  try dsimp only[L2.cxX,L2.ZN,L2.Zn]
  walk_at "rds";intro u H1 bs hu0 sm1 hu1 hT;have hl1:=hT.length;have hb:bs.length<sizeLine:=Zu (by rw[hl1];exact hz);walk_at "rds";refine YA (ZT (SqL.of hu1)) hb (fun _=>true) (fun i=> .int (ZcR cs (hl.belts.getD i dB))) (fun i H' Kc hi sm k=>?_) (fun i H' Kc hi _ sm k=>?_) (fun r H' hr sm hr'=>?_)
  ·walk_at "rds";exact k H' (Zd.refl H')
  ·have hil:i<hl.belts.length:=by omega
   obtain⟨t,ht1,ht2⟩:=hT.getD (i:=i) hil;rw[ht1];obtain⟨r1,r2,r3,r4⟩:=hbt.at hil;obtain⟨gv,tk,g0,t0,gl,tl,eg,et⟩:=hsz i hil;have ht3:=sm _ _ ht2;unfold ZcR at k;generalize hl.belts.getD i dB=bb at*;have gm:∀{v:Int},0≤v→v<cs.length→cs.getD v.toNat 0∈cs:=fun{v} v0 v1=>by rw[Zx (by omega)];exact List.getElem_mem _
   obtain⟨k1,e1,l1⟩:=hcs _ (gm r1 r2);obtain⟨k2,e2,l2⟩:=hcs _ (gm r3 r4);have m1:IntMulOk (cs.getD bb.giver.toNat 0) bb.give:=by rw[e1,eg];exact Zam l1 gl (by decide)
   have m2:IntMulOk (cs.getD bb.taker.toNat 0) bb.take:=by rw[e2,et];exact Zam l2 tl (by decide)
   have hc':SqL K H' qa (cs.map V.int):=(sm1.trans sm).seq hc;have a1:=ZR r1 r2;have a2:=ZR r3 r4;dsimp only[B5.v] at ht3;walk_at "rds";exact k H' (Zd.refl H')
  ·refine q r H' (ZK sm1 hr) (sm1.trans sm) ?_;rw[hr',List.filter_eq_self.mpr (by simp),hl1];refine congrArg (fun z=>some (HO.lst z)) ?_;refine List.ext_getElem (by simp) fun i h1 h2=>?_;have:i<hl.belts.length:=by simpa using h1
   simp[List.getD,this]
end
def ZeB{K:PySem.W.Frag}{mg:Str→Option Value}(T:Tp K mg):Sp:=fun vs _ _ _=>∃a b:V,vs=[a,b]∧False
section
variable {P:Program}{w:World}{K:PySem.W.Frag}{mg:Str→Option Value}{base:Heap}
theorem Ziw(T:Tp K mg):Zk P w K mg base (CXX P w) 1 T.f_way_to T.d_way_to ["tree","work"] (ZeB T):=by
 refine T.F_way_to.okX Zix (fun vs H Q E h=>?_) (fun cdv A outer s H vs Q E hr h=>?_)
 ·obtain⟨a,b,rfl,_⟩:=h
  rfl
 ·have hu:=hr.units;obtain⟨_,_,_,hF⟩:=h;exact hF.elim
end
def ZaK{K:PySem.W.Frag}{mg:Str→Option Value}(T:Tp K mg):Sp:=fun vs _ _ _=>∃a b:V,vs=[a,b]∧False
section
variable {P:Program}{w:World}{K:PySem.W.Frag}{mg:Str→Option Value}{base:Heap}
theorem Zdm(T:Tp K mg):Zk P w K mg base (CXX P w) 1 T.f_shared_steps T.d_shared_steps ["one","other"] (ZaK T):=by
 refine T.F_shared_steps.okX Zdq (fun vs H Q E h=>?_) (fun cdv A outer s H vs Q E hr h=>?_)
 ·obtain⟨a,b,rfl,_⟩:=h
  rfl
 ·have hu:=hr.units;obtain⟨_,_,_,hF⟩:=h;exact hF.elim
end
def ZaM{K:PySem.W.Frag}{mg:Str→Option Value}(T:Tp K mg):Sp:=fun vs _ _ _=>∃a b c:V,vs=[a,b,c]∧False
section
variable {P:Program}{w:World}{K:PySem.W.Frag}{mg:Str→Option Value}{base:Heap}
theorem ZdB(T:Tp K mg):Zk P w K mg base (CXX P w) 6 T.f_ring_through T.d_ring_through ["hall","forest","belt"] (ZaM T):=by
 have G_way_to:Zk P w K mg base (CXX P w) 5 T.f_way_to T.d_way_to ["tree","work"] (ZeB T):=(Ziw T).mono (by decide);have G_shared_steps:Zk P w K mg base (CXX P w) 5 T.f_shared_steps T.d_shared_steps ["one","other"] (ZaK T):=(Zdm T).mono (by decide);have G_Hall_belt_at:Zk P w K mg base (CXX P w) 5 T.f_Hall_belt_at T.d_Hall_belt_at ["self","belt"] (YQ T):=(Wn T).mono (by decide);have cl_Hall:=T.cl_Hall;have na_Hall:=T.na_Hall;refine T.F_ring_through.okX Zdp (fun vs H Q E h=>?_) (fun cdv A outer s H vs Q E hr h=>?_)
 ·obtain⟨a,b,c,rfl,_⟩:=h
  rfl
 ·have hu:=hr.units;obtain⟨_,_,_,_,hF⟩:=h;exact hF.elim
end
def ZcM{K:PySem.W.Frag}{mg:Str→Option Value}(T:Tp K mg):Sp:=fun vs H Q _=>∃(p:Addr)(hl:HM)(fp:List Addr)(z:Int→Nat),vs=[.ref p]∧ZB T H p hl fp∧hl.names.length≤60∧hl.belts.length≤1000∧ZM hl.belts hl.names.length∧Wa hl.belts∧VI hl.belts z∧
 ∀(t r:Addr)(H':Hp)(rs:List Int)(F:List (Int×Fo.ZQ)),Zd H H'→H r=none→H' t=some (.tup [.ref r,.non])→H' r=some (.lst (rs.map V.int))→rs.length=hl.names.length→Fo.Vm (YJ hl.belts) hl.names.length F hl.names.length→(∀x∈F,Zbh hl.belts x rs)→Q (.ref t) H'
section
variable {P:Program}{w:World}{K:PySem.W.Frag}{mg:Str→Option Value}{base:Heap}
theorem Zf3(T:Tp K mg):Zk P w K mg base (CXX P w) 8 T.f_rates_of T.d_rates_of ["hall"] (ZcM T):=by
 have G_forest_of:Zk P w K mg base (CXX P w) 7 T.f_forest_of T.d_forest_of ["hall"] (ZbS T):=(ZfJ T).mono (by decide);have G_rates_by:Zk P w K mg base (CXX P w) 7 T.f_rates_by T.d_rates_by ["hall","forest"] (Zcy T):=(Zgt T).mono (by decide);have G_change_of:Zk P w K mg base (CXX P w) 7 T.f_change_of T.d_change_of ["hall","counts"] (Zb3 T):=(Zfd T).mono (by decide);have G_ring_through:Zk P w K mg base (CXX P w) 7 T.f_ring_through T.d_ring_through ["hall","forest","belt"] (ZaM T):=(ZdB T).mono (by decide);refine T.F_rates_of.okX Vr (fun vs H Q E h=>?_) (fun cdv A outer s H vs Q E hr h=>?_)
 ·obtain⟨p,hl,fp,z,rfl,_⟩:=h
  rfl
 ·have hu:=hr.units;obtain⟨p,hl,fp,z,rfl,hh,hn,hz,hbt,hsz,hwt,q⟩:=h;refine⟨_,(Zc (Zs (i:=1) Vr.nd rfl (Or.inl rfl) (Zr G_forest_of hr rfl T.m_forest_of T.F_forest_of.kp T.b_forest_of .nil Zl (Za (pv 0) Zb)))
     (Zc (Zs (i:=2) Vr.nd rfl (Or.inl rfl) (Zr G_rates_by hr rfl T.m_rates_by T.F_rates_by.kp T.b_rates_by .nil Zl (Za (pv 0) (Za (pv 1) Zb))))
     (Zc (Z5 PassesOwn.leaving rfl (Za5 (K:=K) rfl rfl T.n_enumerate (Za (Zr G_change_of hr rfl T.m_change_of T.F_change_of.kp T.b_change_of .nil Zl (Za (pv 0) (Za (pv 2) Zb))) Zb)) (YF (K:=K) (n:=2) rfl rfl (ZE (Zp (i:=3) Vr.nd rfl (Or.inl rfl)) (ZE (Zp (i:=4) Vr.nd rfl (Or.inl rfl)) YD))) (Zh (ZW (ZC (UG (K:=K) rfl hu) (pv 4) Zf (ZI _)) (Zh (Zw (Yv (Za WR (Za (Zr G_ring_through hr rfl T.m_ring_through T.F_ring_through.kp T.b_ring_through .nil Zl (Za (pv 0) (Za (pv 1) (Za (pv 3) Zb)))) Zb))))) ZJ)))
     (Zh (Zw (Yv (Za (pv 2) (Za WR Zb)))))))),?_⟩
  try dsimp only[L2.cxX,L2.ZN,L2.Zn]
  walk_at "rds";refine⟨p,hl,fp,rfl,hh,hn,hz,hbt,fun f ds H1 F hf0 s1 hF hnew hwd hFl=>?_⟩;have hh1:=hh.same s1;have hdf:∀d∈ds,d∉fp:=fun d hd y=>hh.dom d y (hnew d hd);have hdn:∀d∈ds,d≠f:=fun d hd y=>by
   obtain⟨i,hi,e⟩:=List.getElem_of_mem hd;obtain⟨x,_,kvs,a,_⟩:=Paired.get' hF.trees (List.getElem?_eq_getElem hi);rw[e,y,hF.at_] at a;cases a
  walk_at "rds";refine⟨p,f,hl,fp,ds,F,rfl,hh1,hF.at_,hF.trees.r,hdf,hdn,hwd,hbt,hn,hsz,fun r H2 rs hr0 fr2 hT2 hr2 hrl hset=>?_⟩;have s2:Zd H H2:=fun b o e=>fr2.keep _ _ (s1 _ _ e) (fun y=>by have:=hnew b y;rw[e] at this;cases this);have hh2:=hh.same s2;have hr00:H r=none:=ZK s1 hr0;have hrt:=Zfq hbt hn hwd hrl hset;walk_at "rds";refine⟨p,r,hl,fp,rs,rfl,hh2,hz,.of hr2,by rw[hrl];exact hbt,hsz,fun c hc=>(by obtain⟨k,a,_,b⟩:=hrt.pos c hc;exact⟨k,a,b⟩),fun c H3 hc0 s3 hc3=>?_⟩;have hr3:=s3 _ _ hr2;have s23:=s2.trans s3;walk_at "rds";refine VG (VY (SqL.of hc3)) (fun i σ H'=>Zd H3 H'∧∃a1 a2,σ=[some (.ref p),some (.ref f),some (.ref r),a1,a2]) ⟨Zd.refl H3,_,_,rfl⟩ (fun i σ H' h=>h.1) ?_ ?_
  ·rintro i σ H4 v H5 hi ⟨s4,a1,a2,rfl⟩ ⟨t,ht,rfl,rfl⟩;have hil:i<hl.belts.length:=by simpa using hi
   have ei:((hl.belts.map (ZcR rs)).map V.int).getD i .non= .int 0:=by
    have:=Zbw hwt hsz hbt hwd hrl hset hil;rw[Zx hil] at this;simp[List.getD,hil,this]
   rw[ei];refine Rd.VB (.of Ze) rfl ?_;walk_at "rds";exact⟨s4.trans (Zo ht),_,_,rfl⟩
  ·rintro σ H4 ⟨s4,a1,a2,rfl⟩;have hr4:=s4 _ _ hr3;walk_at "rds";refine⟨by show 2≤sizeLine;decide,fun t ht=>?_⟩;exact q t r _ rs F ((s23.trans s4).trans (Zo ht)) hr00 Ze (Zo ht _ _ hr4) hrl hwd hset
end
def Za4{K:PySem.W.Frag}{mg:Str→Option Value}(T:Tp K mg):Sp:=fun vs H Q E=>∃(p:Addr)(hl:HM)(fp:List Addr)(z:Int→Nat),vs=[.ref p]∧ZB T H p hl fp∧hl.names.length≤60∧hl.belts.length≤1000∧ZM hl.belts hl.names.length∧Wa hl.belts∧VI hl.belts z∧
 ∀(r:Addr)(H':Hp)(rs:List Int),Zd H H'→H r=none→H' r=some (.lst (rs.map V.int))→Rts hl.belts hl.names.length z rs→(rs.sum≤400→Q (.ref r) H')∧(400<rs.sum→E (.ref T.X_TooLong) none H')
section
variable {P:Program}{w:World}{K:PySem.W.Frag}{mg:Str→Option Value}{base:Heap}
theorem Zd1(T:Tp K mg):Zk P w K mg base (CXX P w) 9 T.f_round_rates T.d_round_rates ["hall"] (Za4 T):=by
 have G_rates_of:Zk P w K mg base (CXX P w) 8 T.f_rates_of T.d_rates_of ["hall"] (ZcM T):=(Zf3 T).mono (by decide);refine T.F_round_rates.okX Za3 (fun vs H Q E h=>?_) (fun cdv A outer s H vs Q E hr h=>?_)
 ·obtain⟨p,hl,fp,z,rfl,_⟩:=h
  rfl
 ·have hu:=hr.units;obtain⟨p,hl,fp,z,rfl,hh,hn,hz,hbt,hsz,hwt,q⟩:=h;refine⟨_,(Zc (Zs (i:=1) Za3.nd rfl (Or.inl rfl) (Zj (Zq (K:=K) rfl) (Zr G_rates_of hr rfl T.m_rates_of T.F_rates_of.kp T.b_rates_of .nil Zl (Za (pv 0) Zb)) Zf (fun _ _=>rfl)))
     (Zc (ZW (ZC ZbH (pv 1) WR (ZI _)) (Zh (Y2 T.gx_NotBalanced T.ex_NotBalanced PySem.F.excBase_ValueError rfl (Za Wb Zb))) ZJ)
     (Zc (ZW (ZC Zcm (Zy (ZhJ (K:=K) rfl rfl) (by rfl) T.n_sum PyProof.Rows.boot_sum (Za (pv 1) Zb)) (Zco (v:= .int 400) rfl T.c_MOST_TURNS ⟨_,rfl⟩) (ZI _)) (Zh (Y2 T.gx_TooLong T.ex_TooLong PySem.F.excBase_ValueError rfl (Za Wb Zb))) ZJ)
     (Zh (Zw (pv 1)))))),?_⟩
  try dsimp only[L2.cxX,L2.ZN,L2.Zn]
  walk_at "rds";refine⟨p,hl,fp,z,rfl,hh,hn,hz,hbt,hsz,hwt,fun t r H' rs F s1 hr ht hr1 hrl hwd hset=>?_⟩;have hrt:=Zfq hbt hn hwd hrl hset;have hR:Rts hl.belts hl.names.length z rs:=⟨hrl,fun c hc=>(by obtain⟨k,a,b,_⟩:=hrt.pos c hc;omega),fun b hb=>(by
   obtain⟨i,hi,e⟩:=List.getElem_of_mem hb;have:=Zbw hwt hsz hbt hwd hrl hset hi;rw[Zx hi,e] at this;unfold ZcR at this;rw[Int.mul_comm b.give,Int.mul_comm b.take];omega),F,hwd,hset⟩
  obtain⟨q1,q2⟩:=q r H' rs s1 hr hr1 hR;walk_at "rds";refine⟨rfl,?_⟩;walk_at "rds";refine Rd.Zi5 (.of hr1) ?_;walk_at "rds";refine Vl (fun c=>?_) (fun c=>?_)
  ·walk_at "rds";exact q2 (by have:=of_decide_eq_true c;omega)
  ·walk_at "rds";exact q1 (by
    by_cases y:400<rs.sum
    ·exact absurd (decide_eq_true y) c
    ·omega)
end
def Zef{K:PySem.W.Frag}{mg:Str→Option Value}(T:Tp K mg):Sp:=fun vs H Q _=>∃(a b:Addr)(hs:List Int)(l:List (Int×Int))(xs:List V),vs=[.ref a,.ref b]∧SqL K H a (hs.map V.int)∧SqL K H b xs∧Vv H l xs∧(∀x∈l,0≤x.1∧x.1<hs.length)∧l.length≤1000∧∀H',Zd H H'→Q (.bl (Za2 hs l)) H'
section
variable {P:Program}{w:World}{K:PySem.W.Frag}{mg:Str→Option Value}{base:Heap}
theorem Zh8(T:Tp K mg):Zk P w K mg base (CXX P w) 1 T.f_enough T.d_enough ["heaps","takes"] (Zef T):=by
 refine T.F_enough.okX Zh5 (fun vs H Q E h=>?_) (fun cdv A outer s H vs Q E hr h=>?_)
 ·obtain⟨a,b,hs,l,xs,rfl,_⟩:=h
  rfl
 ·have hu:=hr.units;obtain⟨a,b,hs,l,xs,rfl,ha,hb,hp,hr,hz,q⟩:=h;have hxl:l.length=xs.length:=Paired.length hp;refine⟨_,(Zh (Zw (Zy (Zkc (K:=K) rfl rfl) (by rfl) T.n_all PyProof.Rows.boot_all (Za (Va (xs:=["belt","take"]) rfl (Yh (x:="belt") (zs:=["heaps"]) (ix:=[0]) (Zi Zah) ["heaps","takes"] rfl rfl (by decide+kernel)) (Z0 (K:=K) rfl (pv 1)) (fun cl C s H fp=>⟨(YF (K:=K) (n:=2) rfl rfl (ZE (Zp (i:=0) (show(["belt","take","heaps"]:List Str).Nodup by decide+kernel) rfl (Or.inl rfl)) (ZE (Zp (i:=1) (show(["belt","take","heaps"]:List Str).Nodup by decide+kernel) rfl (Or.inl rfl)) YD))),Yg,(WE ZeT (Zj (Zq (K:=K) rfl) (pv 2) (pv 0) (fun _ _=>rfl)) (pv 1) (ZI _))⟩)) Zb)))),?_⟩
  try dsimp only[L2.cxX,L2.ZN,L2.Zn]
  walk_at "rds";refine YH (own:=2) (ZT hb).y (Zu (by omega)) (fun i=>[some (.int (l.getD i (0,0)).1),some (.int (l.getD i (0,0)).2)]) (fun _=>rfl) (fun _=>true) (fun i v _=>v= .bl (decide ((l.getD i (0,0)).2≤hs.getD (l.getD i (0,0)).1.toNat 0))) (fun _ _ _ _ _ z=>z) (fun i a' H' v H2 Kg hi sm y ha' k=>?_) (fun i H' Kc hi sm k=>?_) (fun pp i H' Kc hi hc hp0 hp1 sm k=>?_) (fun r H' ys hr' sm hl' hR=>?_)
  ·obtain⟨rfl,rfl⟩:=y;obtain⟨x1,x2,rfl⟩:∃x1 x2,a'=[x1,x2]:=by
    match a',ha' with
    | [x1,x2],_=>exact⟨x1,x2,rfl⟩
   obtain⟨v,hv,t,rfl,ht⟩:=Paired.get hp (List.getElem?_eq_getElem (show i<l.length by omega));have eb:xs.getD i .non= .ref t:=by simp[List.getD,hv]
   have el:l.getD i (0,0)=l[i]:=by simp[List.getD,show i<l.length by omega]
   rw[eb];rw[el] at k;refine Rd.VB (.of (sm _ _ ht)) rfl ?_;walk_at "rds";exact k _ (Zd.refl _)
  ·walk_at "rds";exact k H' (Zd.refl H')
  ·have el:l.getD i (0,0)=l[i]:=by simp[List.getD,show i<l.length by omega]
   obtain⟨r0,r1⟩:=hr _ (List.getElem_mem (show i<l.length by omega));rw[el] at k⊢;generalize l[i]=x at*;have hs':=sm.seq ha;have at1:=ZR r0 r1;walk_at "rds";exact k _ H' (Zd.refl H') rfl
  ·have e:ys=(l.map fun x=>decide (x.2≤hs.getD x.1.toNat 0)).map V.bl:=by
    rw[UZ (R:=fun i v _=>v=V.bl (decide ((l.getD i (0,0)).2≤hs.getD (l.getD i (0,0)).1.toNat 0))) (H:=H') (r:=fun i=>V.bl (decide ((l.getD i (0,0)).2≤hs.getD (l.getD i (0,0)).1.toNat 0))) (fun _ _ z=>z) hR,List.filter_eq_self.mpr (by simp),←hxl];refine List.ext_getElem (by simp) fun i h1 h2=>?_;have hi:i<l.length:=by simpa using h1
    have el:l.getD i (0,0)=l[i]:=by simp[List.getD,hi]
    rw[List.getElem_map,List.getElem_map,List.getElem_map,List.getElem_range,el]
   rw[e] at hl';walk_at "rds";have e2:(l.map fun x=>decide (x.2≤hs.getD x.1.toNat 0)).all id=Za2 hs l:=by rw[List.all_map];rfl
   rw[e2];exact q H' sm
end
def UI{K:PySem.W.Frag}{mg:Str→Option Value}(T:Tp K mg):Sp:=fun vs H Q E=>∃(p s:Addr)(ls:List B5)(rs st:List Int),vs=[.ref p,.ref s]∧Wq T H p ls rs∧SqL K H s (st.map V.int)∧st.length=ls.length∧ZM ls rs.length∧ls.length≤1000∧rs.length≤1000∧(∀r∈rs,1≤r)∧tot rs≤1000∧
 ∀(r:Addr)(H':Hp)(ws:List Nat)(d:Nat→Nat),H r=none→Zd H H'→H' r=some (.lst (ws.map fun w:Nat=>V.int w))→Fire.Ye (YZ ls st rs) (fun _=>0) ws d→(∀w,¬Wv ls st rs d w)→Q (.ref r) H'
section
variable {P:Program}{w:World}{K:PySem.W.Frag}{mg:Str→Option Value}{base:Heap}
theorem ZbZ(T:Tp K mg):Zk P w K mg base (CXX P w) 2 T.f_Course_row_from T.d_Course_row_from ["self","starts"] (UI T):=by
 have G_enough:Zk P w K mg base (CXX P w) 1 T.f_enough T.d_enough ["heaps","takes"] (Zef T):=(Zh8 T).mono (by decide);have cl_Course:=T.cl_Course;have na_Course:=T.na_Course;refine T.F_Course_row_from.okX ZS (fun vs H Q E h=>?_) (fun cdv A outer s H vs Q E hr h=>?_)
 ·obtain⟨p,s,ls,rs,st,rfl,_⟩:=h
  rfl
 ·have hu:=hr.units;obtain⟨p,s,ls,rs,st,rfl,hc,hs,hsl,hbt,hz,hn,hpos,htot,q⟩:=h;obtain⟨dx,a,b,c,d0,e,ia,ib,ic,bs,h1,h2,h3,h4,h5,h6,h7,h8,h9,h10⟩:=id hc;have npos:∀v<rs.length,1≤ZO rs v:=fun v hv=>by
   have:=hpos rs[v] (List.getElem_mem hv);simp only[ZO,List.getD,List.getElem?_eq_getElem hv,Option.getD_some];omega
  refine⟨_,(Zc (Zs (i:=2) ZS.nd rfl (Or.inr rfl) (WG (VC (K:=K) rfl) (by rfl) T.n_list PyProof.Rows.boot_list (Za (pv 1) Zb)))
     (Zc (Zs (i:=3) ZS.nd rfl (Or.inl rfl) (WG (VC (K:=K) rfl) (by rfl) T.n_list PyProof.Rows.boot_list (Za (ZZ (K:=K) rfl (pv 0) rfl) Zb)))
     (Zc (Zc3 (j:=4) (xs:=["takes"]) rfl (Yh (x:="takes") (zs:=["heaps"]) (ix:=[2]) (Zi YY) ["self","starts","heaps","left","able","row","work","belt","take","give","other"] rfl rfl (by decide+kernel)) (Z0 (K:=K) rfl (ZZ (K:=K) rfl (pv 0) rfl)) (fun cl C s H fp=>⟨(Zp (i:=0) (show(["takes","heaps"]:List Str).Nodup by decide+kernel) rfl (Or.inl rfl)),Yg,(Zr G_enough hr rfl T.m_enough T.F_enough.kp T.b_enough .nil VZ (Za (pv 1) (Za (pv 0) Zb)))⟩) ZS.nd rfl (Or.inl rfl))
     (Zc (Zs (i:=5) ZS.nd rfl (Or.inl rfl) (YC Zb))
     (Zc (Zaq PassesOwn.leaving (ZC (ZjO (K:=K) rfl) Wf (pv 4) (by with_unfolding_all rfl)) (Zc (Zs (i:=6) ZS.nd rfl (Or.inl rfl) (Yt (K:=K) rfl PySem.F.plainAttrs_list PySem.F.slot_list_index PySem.F.type_list_index ZiL (pv 4) (Za Wf Zb)))
     (Zc (ZX (Yt (K:=K) rfl PySem.F.plainAttrs_list PySem.F.slot_list_append PySem.F.type_list_append Yc (pv 5) (Za (pv 6) Zb)))
     (Zc (Zeb (pv 3) (pv 6) (ZbW (K:=K) rfl) Zf ZhZ WM)
     (Zc (Z5 PassesOwn.leaving rfl (Z0 (K:=K) rfl (Zj (Zq (K:=K) rfl) (ZZ (K:=K) rfl (pv 0) rfl) (pv 6) (fun _ _=>rfl))) (YF (K:=K) (n:=2) rfl rfl (ZE (Zp (i:=7) ZS.nd rfl (Or.inl rfl)) (ZE (Zp (i:=8) ZS.nd rfl (Or.inl rfl)) YD))) (Zh (Zeb (pv 2) (pv 7) (ZbW (K:=K) rfl) (pv 8) ZhZ WM)))
     (Zc (Z5 PassesOwn.leaving rfl (Z0 (K:=K) rfl (Zj (Zq (K:=K) rfl) (ZZ (K:=K) rfl (pv 0) rfl) (pv 6) (fun _ _=>rfl))) (YF (K:=K) (n:=2) rfl rfl (ZE (Zp (i:=7) ZS.nd rfl (Or.inl rfl)) (ZE (Zp (i:=9) ZS.nd rfl (Or.inl rfl)) YD))) (Zh (Zeb (pv 2) (pv 7) (ZbW (K:=K) rfl) (pv 9) ZiG WM)))
     (Zh (Z5 PassesOwn.leaving rfl (Z0 (K:=K) rfl (Zj (Zq (K:=K) rfl) (ZZ (K:=K) rfl (pv 0) rfl) (pv 6) (fun _ _=>rfl))) (Zp (i:=10) ZS.nd rfl (Or.inl rfl)) (Zh (Wg (ZbC (WE Zcm (Zj (Zq (K:=K) rfl) (pv 3) (pv 10) (fun _ _=>rfl)) Zf (ZI _)) (ZbF (Zr G_enough hr rfl T.m_enough T.F_enough.kp T.b_enough .nil Zl (Za (pv 2) (Za (Zj (Zq (K:=K) rfl) (ZZ (K:=K) rfl (pv 0) rfl) (pv 10) (fun _ _=>rfl)) Zb))))) (W7 (pv 4) (pv 10) WM)))))))))))
     (Zh (Zw (pv 5)))))))),?_⟩
  try dsimp only[L2.cxX,L2.ZN,L2.Zn]
  walk_at "rds";refine Rd.Uo hs (fun h hh0=>?_);have s1:Zd H (upd H h (.lst (st.map V.int))):=Zo hh0;have hh1:(upd H h (.lst (st.map V.int))) h=some (.lst (st.map V.int)):=Ze;generalize upd H h (.lst (st.map V.int))=H1 at*;have g1:=s1 _ _ h1;have g2:=s1 _ _ h2;walk_at "rds";refine Rd.Uo (.of g2) (fun l hl0=>?_);have s2:Zd H1 (upd H1 l (.lst (rs.map V.int))):=Zo hl0;have hl2:(upd H1 l (.lst (rs.map V.int))) l=some (.lst (rs.map V.int)):=Ze;generalize upd H1 l (.lst (rs.map V.int))=H2 at*;have hh2:=s2 _ _ hh1;have hl00:H l=none:=ZK s1 hl0;have s02:=s1.trans s2;have k1:=s02 _ _ h1;have k5:=s02 _ _ h5;have e0:Wr ls st (fun _=>0)=st:=by
   refine List.ext_getElem (by rw[Yd hsl,hsl]) fun j a1 a2=>?_;rw[WS hsl (by omega)];unfold Fire.lie fB;simp
  have ial:ia.length=rs.length:=by rw[h6.len];simp[Zb0]
  walk_at "rds";refine YH (own:=1) (ZT (SqL.of k5)).y (Zu (by rw[List.length_map];omega)) (fun i=>[some (.ref (ia.getD i 0))]) (fun _=>rfl) (fun _=>true) (fun(i:Nat) v _=>v= .bl (YW ls st rs (fun _=>0) i)) (fun _ _ _ _ _ z=>z) (fun i a' H' v H2 Kg hi sm y ha' k=>?_) (fun i H' Kc hi sm k=>?_) (fun pp i H' Kc hi hc hp0 hp1' sm k=>?_) (fun ab H3 ys hab0 s3 hab3 hR=>?_)
  ·obtain⟨rfl,rfl⟩:=y;obtain⟨x1,rfl⟩:∃x1,a'=[x1]:=by
    match a',ha' with
    | [x1],_=>exact⟨x1,rfl⟩
   have hi':i<ia.length:=by simpa using hi
   have ev:(ia.map V.ref).getD i .non= .ref (ia.getD i 0):=by simp[List.getD,hi']
   rw[ev];walk_at "rds";exact k _ (Zd.refl _)
  ·walk_at "rds";exact k H' (Zd.refl H')
  ·have hi':i<rs.length:=by rw[List.length_map] at hi;omega
   obtain⟨x,e1,vs,e2,e3⟩:=Paired.get h6 (i:=i) (x:=Ym ls i) (by simp[Zb0,hi']);have ex:ia.getD i 0=x:=by simp[List.getD,e1]
   rw[ex];have sH:=s02.trans sm;have tl:=ZcK (ls:=ls) (w:=i);walk_at "rds";refine⟨h,x,st,Ym ls i,vs,rfl,.of (sm _ _ hh2),.of (sH _ _ e2),e3.keep fun _ _ z=>sH _ _ z,Zdi hsl,by omega,fun H5 s5=>?_⟩;refine k _ H5 s5 ?_;rw[ZdG hsl];unfold YW;rw[e0,decide_eq_true (show(fun _=>0) i<ZO rs i from npos i hi'),Bool.true_and]
  rw[List.filter_eq_self.mpr (by simp),List.length_map,ial] at hR;have eys:ys=(WI ls st rs (fun _=>0)).map V.bl:=by
   have:∀{is:List Nat}{zs:List V},Paired (fun(i:Nat) v=>v=V.bl (YW ls st rs (fun _=>0) i)) is zs→zs=(is.map fun i=>YW ls st rs (fun _=>0) i).map V.bl:=by
    intro is zs h
    induction h with
    |nil=>rfl
    |cons a _ ih=>rw[a,ih];rfl
   exact this hR
  subst eys;have hh3:=s3 _ _ hh2;have hl3:=s3 _ _ hl2;walk_at "rds";refine⟨Nat.zero_le _,fun r hr0=>?_⟩;have s4:Zd H3 (upd H3 r (.lst [])):=Zo hr0;have hr4:(upd H3 r (.lst [])) r=some (.lst []):=Ze;generalize upd H3 r (.lst [])=H4 at*;have s04:=s02.trans (s3.trans s4);have hab4:=s4 _ _ hab3;have hh4:=s4 _ _ hh3;have hl4:=s4 _ _ hl3;have nhl:h≠l:=Zm hh1 hl0;have nha:h≠ab:=Zm hh2 hab0;have nla:l≠ab:=Zm hl2 hab0;have nhr:h≠r:=Zm hh3 hr0;have nlr:l≠r:=Zm hl3 hr0;have nar:ab≠r:=Zm hab3 hr0;have hab00:H ab=none:=ZK s02 hab0;have hr00:H r=none:=ZK (s02.trans s3) hr0;have el0:ZV rs (fun _=>0)=rs:=by
   refine List.ext_getElem (by simp[ZV]) fun v a1 a2=>?_;have:=hpos rs[v] (List.getElem_mem a2);simp[ZV,ZO,List.getD,a2];omega
  walk_at "rds";refine ZbD (fun m σ H'=>∃(ws:List Nat)(d:Nat→Nat)(a1 a2 a3 a4 a5:Option V),m=tot rs-ws.length∧σ=[some (.ref p),some (.ref s),some (.ref h),some (.ref l),some (.ref ab),some (.ref r),a1,a2,a3,a4,a5]∧Zd H H'∧Fire.Ye (YZ ls st rs) (fun _=>0) ws d∧H' h=some (.lst ((Wr ls st d).map V.int))∧H' l=some (.lst ((ZV rs d).map V.int))∧H' ab=some (.lst ((WI ls st rs d).map V.bl))∧H' r=some (.lst (ws.map fun w:Nat=>V.int w))) _ ⟨[],fun _=>0,_,_,_,_,_,rfl,rfl,s04,.nil _,by rw[e0];exact hh4,by rw[el0];exact hl4,hab4,hr4⟩ ?_;rintro m σ H5 ⟨ws,d,a1,a2,a3,a4,a5,rfl,rfl,s5,hrun,hh5,hl5,hab5,hr5⟩;walk_at "rds";refine⟨ab,_,rfl,.inl (SqL.of hab5),rfl,Zjj _,?_⟩;rw[if_neg (by decide),ZiT];walk_at "rds";refine Vl (fun c=>ZdF ?_) (fun c=>?_)
  ·have hin:true∈WI ls st rs d:=by simpa using c
   obtain⟨w,hw1,hw2⟩:=Zdh hin;have hwn:w<rs.length:=by have:=(List.getElem?_eq_some_iff.mp hw1).1;rw[ZiV] at this;exact this
   have hmay:Wv ls st rs d w:=by
    rw[Ze1 hwn] at hw1;exact(Zan hsl hbt hwn).mp (Option.some.inj hw1)
   have hfirst:YZ ls st rs d w:=⟨hmay,fun v hv=>by
    have:=hw2 v hv;rw[Ze1 (by omega)] at this;exact(Zde hsl hbt (by omega)).mp (Option.some.inj this)⟩
   have hrun':=hrun.snoc hfirst;have hlt:=Zkj (W0 hrun) hmay;have w0:(0:Int)≤(w:Int):=Int.natCast_nonneg w;have wl:(ws.map fun w:Nat=>V.int w).length<sizeLine:=Zu (by rw[List.length_map];omega);have wlt:(w:Int)<((ZV rs d).map V.int).length:=by rw[List.length_map,VH];omega
   walk_at "rds";refine Rd.Zlp hab5 hw1 hw2 ?_;walk_at "rds";have s6:Zd H (upd H5 r (.lst ((ws.map fun w:Nat=>V.int w)++ [.int w]))):=s5.new hr00;have hr6:(upd H5 r (.lst ((ws.map fun w:Nat=>V.int w)++ [.int w]))) r=some (.lst ((ws++ [w]).map fun w:Nat=>V.int w)):=by rw[Ze];simp
   have hh6:(upd H5 r (.lst ((ws.map fun w:Nat=>V.int w)++ [.int w]))) h=some (.lst ((Wr ls st d).map V.int)):=by rw[Zg nhr];exact hh5
   have hl6:(upd H5 r (.lst ((ws.map fun w:Nat=>V.int w)++ [.int w]))) l=some (.lst ((ZV rs d).map V.int)):=by rw[Zg nlr];exact hl5
   have hab6:(upd H5 r (.lst ((ws.map fun w:Nat=>V.int w)++ [.int w]))) ab=some (.lst ((WI ls st rs d).map V.bl)):=by rw[Zg nar];exact hab5
   generalize upd H5 r (.lst ((ws.map fun w:Nat=>V.int w)++ [.int w]))=H6 at*;have atl:=ZR (ns:=ZV rs d) w0 (by rw[VH];omega);walk_at "rds";have eL:((ZV rs d).map V.int).set (w:Int).toNat (V.int ((ZV rs d).getD (w:Int).toNat 0-1))=(ZV rs (Fire.bump d w)).map V.int:=by
    rw[Int.toNat_natCast,←Zdt hwn,List.map_set]
   rw[eL];have s7:Zd H (upd H6 l (.lst ((ZV rs (Fire.bump d w)).map V.int))):=s6.new hl00;have hl7:(upd H6 l (.lst ((ZV rs (Fire.bump d w)).map V.int))) l=some (.lst ((ZV rs (Fire.bump d w)).map V.int)):=Ze;have hr7:(upd H6 l (.lst ((ZV rs (Fire.bump d w)).map V.int))) r=_:=(Zg nlr.symm).trans hr6;have hh7:(upd H6 l (.lst ((ZV rs (Fire.bump d w)).map V.int))) h=_:=(Zg nhl).trans hh6;have hab7:(upd H6 l (.lst ((ZV rs (Fire.bump d w)).map V.int))) ab=_:=(Zg nla.symm).trans hab6;generalize upd H6 l (.lst ((ZV rs (Fire.bump d w)).map V.int))=H7 at*;clear hr6 hh6 hab6 hl6 atl eL;obtain⟨x,vs,at1,hx,hpx⟩:=h6.at w0 (l:=Ym ls w) (by simp[Zb0,hwn]);obtain⟨y,vs',at2,hy,hpy⟩:=h8.at w0 (l:=U9 ls w) (by simp[Ziy,hwn]);obtain⟨ms,hms,htc⟩:=h10.2 w hwn;have at4:atI (ic.map V.ref) (w:Int)=some (.ref (ic.getD w 0)):=YT (by rw[List.getElem?_map,List.getElem?_eq_getElem (show w<ic.length by rw[h10.1];exact hwn)];simp[List.getD,show w<ic.length by rw[h10.1];exact hwn]);have m1:=s7 _ _ h1;have m5:=s7 _ _ h5;have mx:=s7 _ _ hx;have vl:vs.length=(ZU ls w).length:=by rw[←Paired.length hpx];unfold Ym;simp
   have vl':vs'.length=(ZL ls w).length:=by rw[←Paired.length hpy];unfold U9;simp
   have hln:=Yd (d:=d) hsl;generalize ehs:Wr ls st d=hs0 at*;walk_at "rds";refine WN (ZT (SqL.of hx)) (fun j σ H'=>Zd H H'∧(∃a2 a3 a4 a5,σ=[some (.ref p),some (.ref s),some (.ref h),some (.ref l),some (.ref ab),some (.ref r),some (.int w),a2,a3,a4,a5])∧H' l=some (.lst ((ZV rs (Fire.bump d w)).map V.int))∧H' r=some (.lst ((ws++ [w]).map fun w:Nat=>V.int w))∧H' ab=some (.lst ((WI ls st rs d).map V.bl))∧H' h=some (.lst ((bump (fun i=>-(ls.getD i dB).take) hs0 ((ZU ls w).take j)).map V.int))) ⟨s7,⟨_,_,_,_,rfl⟩,hl7,hr7,hab7,hh7⟩ (fun i σ H' h=>h.1) ?_ ?_
   ·rintro j σ H8 hj ⟨s8,⟨a2,a3,a4,a5,rfl⟩,hl8,hr8,hab8,hh8⟩;have hj':j<(ZU ls w).length:=by omega
    obtain⟨t,ht1,ht2⟩:=Zir hpx hj';have hlt:=ZbT (List.getElem_mem hj');have bs':=Zeo (f:=fun i=>-(ls.getD i dB).take) (hs:=hs0) hj';rw[ht1];refine Rd.VB (.of (s8 _ _ ht2)) rfl ?_;generalize (ZU ls w)[j]=m at*;have bl:=Vb (fun i=>-(ls.getD i dB).take) ((ZU ls w).take j) hs0;generalize bump (fun i=>-(ls.getD i dB).take) hs0 ((ZU ls w).take j)=us at*;have at3:=ZR (ns:=us) (k:=(m:Int)) (Int.natCast_nonneg m) (by omega);have ml:(m:Int)<((us.map V.int).length:Int):=by simp;omega
    walk_at "rds";refine⟨s8.new hh0,⟨_,_,_,_,rfl⟩,by rw[Zg nhl.symm];exact hl8,by rw[Zg nhr.symm];exact hr8,by rw[Zg nha.symm];exact hab8,?_⟩;rw[Ze,bs',List.map_set]
    rfl
   ·rintro σ H8 ⟨s8,⟨a2,a3,a4,a5,rfl⟩,hl8,hr8,hab8,hh8⟩;have m18:=s8 _ _ h1;have m78:=s8 _ _ h7;have my:=s8 _ _ hy;rw[vl,List.take_length] at hh8;walk_at "rds";have bl:=Vb (fun i=>-(ls.getD i dB).take) (ZU ls w) hs0;refine WN (ZT (SqL.of hy)) (fun j σ H'=>Zd H H'∧(∃a2 a3 a4 a5,σ=[some (.ref p),some (.ref s),some (.ref h),some (.ref l),some (.ref ab),some (.ref r),some (.int w),a2,a3,a4,a5])∧H' l=some (.lst ((ZV rs (Fire.bump d w)).map V.int))∧H' r=some (.lst ((ws++ [w]).map fun w:Nat=>V.int w))∧H' ab=some (.lst ((WI ls st rs d).map V.bl))∧H' h=some (.lst ((bump (fun i=>(ls.getD i dB).give) (bump (fun i=>-(ls.getD i dB).take) hs0 (ZU ls w)) ((ZL ls w).take j)).map V.int))) ⟨s8,⟨_,_,_,_,rfl⟩,hl8,hr8,hab8,hh8⟩ (fun i σ H' h=>h.1) ?_ ?_
    ·rintro j σ H9 hj ⟨s9,⟨a2,a3,a4,a5,rfl⟩,hl9,hr9,hab9,hh9⟩;have hj':j<(ZL ls w).length:=by omega
     obtain⟨t,ht1,ht2⟩:=Zir hpy hj';have hlt:=ZaC (List.getElem_mem hj');have bs':=Zeo (f:=fun i=>(ls.getD i dB).give) (hs:=bump (fun i=>-(ls.getD i dB).take) hs0 (ZU ls w)) hj';rw[ht1];refine Rd.VB (.of (s9 _ _ ht2)) rfl ?_;generalize (ZL ls w)[j]=m at*;have bl2:=Vb (fun i=>(ls.getD i dB).give) ((ZL ls w).take j) (bump (fun i=>-(ls.getD i dB).take) hs0 (ZU ls w));generalize bump (fun i=>(ls.getD i dB).give) (bump (fun i=>-(ls.getD i dB).take) hs0 (ZU ls w)) ((ZL ls w).take j)=us at*;have at3:=ZR (ns:=us) (k:=(m:Int)) (Int.natCast_nonneg m) (by omega);have ml:(m:Int)<((us.map V.int).length:Int):=by simp;omega
     walk_at "rds";refine⟨s9.new hh0,⟨_,_,_,_,rfl⟩,by rw[Zg nhl.symm];exact hl9,by rw[Zg nhr.symm];exact hr9,by rw[Zg nha.symm];exact hab9,?_⟩;rw[Ze,bs',List.map_set]
     rfl
    ·rintro σ H9 ⟨s9,⟨a2,a3,a4,a5,rfl⟩,hl9,hr9,hab9,hh9⟩;rw[vl',List.take_length,Zhl hln] at hh9;have m19:=s9 _ _ h1;have m59:=s9 _ _ h5;have m99:=s9 _ _ h9;have mm:=s9 _ _ hms;walk_at "rds";rw[←ehs,Zew hsl hbt] at hh9;have hln':=Yd (d:=Fire.bump d w) hsl;refine WN (ZT (SqL.of hms)) (fun j σ H'=>Zd H H'∧(∃a2 a3 a4 a5,σ=[some (.ref p),some (.ref s),some (.ref h),some (.ref l),some (.ref ab),some (.ref r),some (.int w),a2,a3,a4,a5])∧H' l=some (.lst ((ZV rs (Fire.bump d w)).map V.int))∧H' r=some (.lst ((ws++ [w]).map fun w:Nat=>V.int w))∧H' h=some (.lst ((Wr ls st (Fire.bump d w)).map V.int))∧H' ab=some (.lst ((Vd ls st rs d (Fire.bump d w) (ms.take j)).map V.bl))) ⟨s9,⟨_,_,_,_,rfl⟩,hl9,hr9,hh9,by rw[List.take_zero,Zjh];exact hab9⟩ (fun i σ H' h=>h.1) ?_ ?_
     ·rintro j σ H10 hj ⟨s10,⟨a2,a3,a4,a5,rfl⟩,hl10,hr10,hh10,hab10⟩;have hj':j<ms.length:=by simpa using hj
      have ev:(ms.map V.int).getD j .non= .int ms[j]:=by simp[List.getD,hj']
      have hmj:=(htc.2 ms[j]).mp (List.getElem_mem hj');have hmr:0≤ms[j]∧ms[j]<(rs.length:Int):=by
       rcases hmj with z|⟨i,hi,z⟩
       ·omega
       ·have hil:=ZaC hi;have hbj:=hbt ls[i] (List.getElem_mem hil);rw[Zx hil] at z;omega
      obtain⟨v,hv⟩:∃v:Nat,ms[j]=(v:Int):=⟨ms[j].toNat,by omega⟩;have hvn:v<rs.length:=by omega
      have etk:ms.take (j+1)=ms.take j++ [(v:Int)]:=by rw[List.take_succ_eq_append_getElem hj',hv]
      rw[ev,hv];obtain⟨x2,vs2,at5,hx2,hpx2⟩:=h6.at (w:=(v:Int)) (Int.natCast_nonneg v) (l:=Ym ls v) (by simp[Zb0,hvn]);have n1:=s10 _ _ h1;have n5:=s10 _ _ h5;have nx2:=s10 _ _ hx2;have tl:=ZcK (ls:=ls) (w:=v);have atl:=ZR (ns:=ZV rs (Fire.bump d w)) (k:=(v:Int)) (Int.natCast_nonneg v) (by rw[VH];omega);rw[Int.toNat_natCast,Zc5 hvn] at atl;have abl:(v:Int)<(((Vd ls st rs d (Fire.bump d w) (ms.take j)).map V.bl).length:Int):=by simp[Vd];omega
      walk_at "rds";refine Vl (fun c2=>?_) (fun c2=>?_)
      ·have hlt2:Fire.bump d w v<ZO rs v:=by have:=of_decide_eq_true c2;omega
       walk_at "rds";refine⟨h,x2,Wr ls st (Fire.bump d w),Ym ls v,vs2,rfl,.of hh10,.of nx2,hpx2.keep fun _ _ z=>s10 _ _ z,Zdi hln',by omega,fun H11 s11=>?_⟩;rw[ZdG hln'];have em:YX ls (Wr ls st (Fire.bump d w)) v=YW ls st rs (Fire.bump d w) v:=by unfold YW;rw[decide_eq_true hlt2,Bool.true_and]
       rw[em];have hab11:=s11 _ _ hab10;have hl11:=s11 _ _ hl10;have hr11:=s11 _ _ hr10;have hh11:=s11 _ _ hh10;walk_at "rds";refine⟨(s10.trans s11).new hab00,⟨_,_,_,_,rfl⟩,by rw[Zg nla];exact hl11,by rw[Zg nar.symm];exact hr11,by rw[Zg nha];exact hh11,?_⟩;rw[Ze,etk,←Zel,List.map_set]
       rfl
      ·have hge:¬Fire.bump d w v<ZO rs v:=by
        have:=of_decide_eq_false (by simpa using c2:decide (0<(ZO rs v:Int)-(Fire.bump d w v:Int))=false);omega
       have em:YW ls st rs (Fire.bump d w) v=false:=by unfold YW;rw[decide_eq_false hge,Bool.false_and]
       walk_at "rds";refine⟨s10.new hab00,⟨_,_,_,_,rfl⟩,by rw[Zg nla];exact hl10,by rw[Zg nar.symm];exact hr10,by rw[Zg nha];exact hh10,?_⟩;rw[Ze,etk,←Zel,List.map_set,em]
       rfl
     ·rintro σ H10 ⟨s10,⟨a2,a3,a4,a5,rfl⟩,hl10,hr10,hh10,hab10⟩;rw[List.length_map,List.take_length,ZjS hsl hbt htc] at hab10;walk_at "rds";exact⟨tot rs-(ws++ [w]).length,by rw[List.length_append,List.length_singleton];omega,ws++ [w],Fire.bump d w,_,_,_,_,_,rfl,rfl,s10,hrun',hh10,hl10,hab10,hr10⟩
  ·walk_at "rds";exact q r H5 ws d hr00 s5 hr5 hrun (ZjK hsl hbt (by simpa using c))
end
def Vu{K:PySem.W.Frag}{mg:Str→Option Value}(T:Tp K mg):Sp:=fun vs H Q E=>∃(p s c:Addr)(ls:List B5)(rs st cs:List Int),vs=[.ref p,.ref s,.ref c]∧Wq T H p ls rs∧SqL K H s (st.map V.int)∧SqL K H c (cs.map V.int)∧st.length=ls.length∧cs.length=rs.length∧ZM ls rs.length∧Wa ls∧ls.length≤1000∧(∀x∈cs,0≤x∧x≤1000)∧
 ∀(r:Addr)(H':Hp)(kvs:List (Key×V)),H r=none→Zd H H'→H' r=some (.dK kvs)→Uc ls rs st cs ls.length kvs→Q (.ref r) H'
section
variable {P:Program}{w:World}{K:PySem.W.Frag}{mg:Str→Option Value}{base:Heap}
theorem ZaR(T:Tp K mg):Zk P w K mg base (CXX P w) 1 T.f_Course_waits_behind T.d_Course_waits_behind ["self","starts","counts"] (Vu T):=by
 have cl_Course:=T.cl_Course;have na_Course:=T.na_Course;refine T.F_Course_waits_behind.okX Yq (fun vs H Q E h=>?_) (fun cdv A outer s H vs Q E hr h=>?_)
 ·obtain⟨p,s,c,ls,rs,st,cs,rfl,_⟩:=h
  rfl
 ·have hu:=hr.units;obtain⟨p,s,c,ls,rs,st,cs,rfl,hc,hs,hcs,hsl,hcl,hbt,hsz,hz,hcb,q⟩:=h;obtain⟨dx,a,b,c2,d0,e,ia,ib,ic,bs,h1,h2,h3,h4,h5,h6,h7,h8,h9,h10⟩:=id hc;have hbl:=h4.length;refine⟨_,(Zc (Zs (i:=3) Yq.nd rfl (Or.inl rfl) Zar)
     (Zc (Z5 PassesOwn.leaving rfl (Za5 (K:=K) rfl rfl T.n_enumerate (Za (ZZ (K:=K) rfl (pv 0) rfl) Zb)) (YF (K:=K) (n:=2) rfl rfl (ZE (Zp (i:=4) Yq.nd rfl (Or.inl rfl)) (ZE (Zp (i:=5) Yq.nd rfl (Or.inl rfl)) YD))) (Zc (Zs (i:=6) Yq.nd rfl (Or.inl rfl) (Zv Zau (Zv (Z6 (K:=K) rfl) (Zj (Zq (K:=K) rfl) (pv 1) (pv 4) (fun _ _=>rfl)) (Zv YR (Zj (Zq (K:=K) rfl) (pv 5) Zf (fun _ _=>rfl)) (Zj (Zq (K:=K) rfl) (pv 2) (Zj (Zq (K:=K) rfl) (pv 5) Zf (fun _ _=>rfl)) (fun _ _=>rfl)))) (Zv YR (Zj (Zq (K:=K) rfl) (pv 5) Zf (fun _ _=>rfl)) (Zj (Zq (K:=K) rfl) (pv 2) (Zj (Zq (K:=K) rfl) (pv 5) Zf (fun _ _=>rfl)) (fun _ _=>rfl)))))
     (Zh (ZW (PW.pt (ZbM (ZC U7 (Zj (Zq (K:=K) rfl) (pv 2) (Zj (Zq (K:=K) rfl) (pv 5) Zf (fun _ _=>rfl)) (fun _ _=>rfl)) (Zj (Zq (K:=K) rfl) (ZZ (K:=K) rfl (pv 0) rfl) (Zj (Zq (K:=K) rfl) (pv 5) Zf (fun _ _=>rfl)) (fun _ _=>rfl)) (ZI _)) (Za1 (ZC U7 (pv 6) (Zj (Zq (K:=K) rfl) (pv 5) Zf (fun _ _=>rfl)) (ZI _))))) (Zh (ZX (Yt (K:=K) rfl PySem.F.plainAttrs_dict PySem.F.slot_dict_setdefault PySem.F.type_dict_setdefault ZhW (pv 3) (Za (Zj (Zq (K:=K) rfl) (pv 5) Zf (fun _ _=>rfl)) (Za (pv 4) Zb))))) ZJ))))
     (Zh (Zw (pv 3))))),?_⟩
  try dsimp only[L2.cxX,L2.ZN,L2.Zn]
  walk_at "rds";intro r hr;have s1:Zd H (upd H r (.dK [])):=Zo hr;have hr1:(upd H r (.dK [])) r=some (.dK []):=Ze;generalize upd H r (.dK [])=H1 at*;have g1:=s1 _ _ h1;have g3:=s1 _ _ h3;walk_at "rds";refine VG (VY (SqL.of h3)) (fun i σ H'=>∃(kvs:List (Key×V))(a1 a2 a3:Option V),σ=[some (.ref p),some (.ref s),some (.ref c),some (.ref r),a1,a2,a3]∧Zd H H'∧H' r=some (.dK kvs)∧Uc ls rs st cs i kvs) ⟨[],_,_,_,rfl,s1,hr1,Uc.nil⟩ (fun i σ H' h=>(let⟨_,_,_,_,_,s,_⟩:=h;s)) ?_ ?_
  ·rintro i σ H4 v H5 hi ⟨kvs,a1,a2,a3,rfl,s4,hr4,hw⟩ ⟨t,ht,rfl,rfl⟩;have hil:i<ls.length:=by omega
   obtain⟨u,hu1,hu2⟩:=h4.getD (i:=i) hil;rw[hu1];have nrt:r≠t:=Zm hr4 ht;have s5:Zd H (upd H4 t (.tup [.int i,.ref u])):=s4.trans (Zo ht);have ht5:(upd H4 t (.tup [.int i,.ref u])) t=some (.tup [.int i,.ref u]):=Ze;have hr5:(upd H4 t (.tup [.int i,.ref u])) r=some (.dK kvs):=(Zg nrt).trans hr4;generalize upd H4 t (.tup [.int i,.ref u])=H5 at*;refine Rd.VB (.of ht5) rfl ?_;have hb:=hbt ls[i] (List.getElem_mem hil);obtain⟨gv,tk,g0,t0,gl,tl,eg,et⟩:=hsz i hil;rw[←Zx (d:=dB) hil] at hb;have hu5:=s5 _ _ hu2;have g15:=s5 _ _ h1;have g25:=s5 _ _ h2;have hs5:=s5.seq hs;have hc5:=s5.seq hcs;have hkl:=hw.len;have hkz:kvs.length<sizeLine:=Zu (by omega);have hws:=hw.skip;have hwa:=hw.add;unfold Yl at hws hwa;generalize ls.getD i dB=bb at*;have cb:∀{w:Int},0≤w→w<rs.length→∃n:Nat,cs.getD w.toNat 0=(n:Int)∧n<2 ^ 10:=fun{w} a b=>by
    have hm:cs.getD w.toNat 0∈cs:=by rw[Zx (by omega)];exact List.getElem_mem _
    obtain⟨x0,x1⟩:=hcb _ hm;exact⟨(cs.getD w.toNat 0).toNat,by omega,by omega⟩
   obtain⟨n1,en1,l1⟩:=cb hb.1 hb.2.1;obtain⟨n2,en2,l2⟩:=cb hb.2.2.1 hb.2.2.2;have mo1:IntMulOk bb.give (cs.getD bb.giver.toNat 0):=by rw[en1,eg];exact Zam gl l1 (by decide)
   have mo2:IntMulOk bb.take (cs.getD bb.taker.toNat 0):=by rw[en2,et];exact Zam tl l2 (by decide)
   have at1:=ZR (ns:=st) (k:=(i:Int)) (Int.natCast_nonneg i) (by omega);have at2:=ZR (ns:=cs) (k:=bb.giver) hb.1 (by omega);have at3:=ZR (ns:=cs) (k:=bb.taker) hb.2.2.1 (by omega);have at4:=ZR (ns:=rs) (k:=bb.taker) hb.2.2.1 (by omega);rw[Int.toNat_natCast] at at1;dsimp only[B5.v] at hu5;walk_at "rds";refine Vl (fun c1=>?_) (fun c1=>?_)
   ·have c1':=of_decide_eq_true c1;walk_at "rds";refine Vl (fun c3=>?_) (fun c3=>?_)
    ·have c3':=of_decide_eq_true c3;walk_at "rds";refine⟨.inr (.inr (.inl ⟨rfl,.inl ⟨_,hr5⟩⟩)),?_⟩;walk_at "rds";refine Rd.ZlZ hr5 hkz (fun y hy=>?_) (fun hn=>?_)
     ·walk_at "rds";exact⟨kvs,_,_,_,rfl,s5,hr5,hws fun _=>⟨y,hy⟩⟩
     ·walk_at "rds";exact⟨_,_,_,_,rfl,s5.new hr,Ze,hwa ⟨c1',c3'⟩ hn⟩
    ·walk_at "rds";exact⟨kvs,_,_,_,rfl,s5,hr5,hws fun z=>absurd (decide_eq_true z.2) c3⟩
   ·walk_at "rds";exact⟨kvs,_,_,_,rfl,s5,hr5,hws fun z=>absurd (decide_eq_true z.1) c1⟩
  ·rintro σ H4 ⟨kvs,a1,a2,a3,rfl,s4,hr4,hw⟩;rw[hbl] at hw;walk_at "rds";exact q r H4 kvs hr s4 hr4 hw
end
def VE{K:PySem.W.Frag}{mg:Str→Option Value}(T:Tp K mg):Sp:=fun vs H Q E=>∃(p s c:Addr)(ls:List B5)(rs st cs:List Int),vs=[.ref p,.ref s,.ref c]∧Wq T H p ls rs∧SqL K H s (st.map V.int)∧SqL K H c (cs.map V.int)∧st.length=ls.length∧cs.length=rs.length∧ZM ls rs.length∧Wa ls∧ls.length≤1000∧rs.length≤1000∧(∀x∈cs,0≤x∧x≤1000)∧
 (∃j<ls.length,Yl ls rs st cs j)∧(∀j<ls.length,Yl ls rs st cs j→∃i<ls.length,Yj ls i=UE ls j∧Yl ls rs st cs i)∧
 ∀(r:Addr)(H':Hp)(ring:List Nat),H r=none→Zd H H'→H' r=some (.lst (ring.map fun j:Nat=>V.int j))→Zbm ls rs st cs ring→Q (.ref r) H'
section
variable {P:Program}{w:World}{K:PySem.W.Frag}{mg:Str→Option Value}{base:Heap}
theorem Za6(T:Tp K mg):Zk P w K mg base (CXX P w) 2 T.f_Course_ring_behind T.d_Course_ring_behind ["self","starts","counts"] (VE T):=by
 have G_Course_waits_behind:Zk P w K mg base (CXX P w) 1 T.f_Course_waits_behind T.d_Course_waits_behind ["self","starts","counts"] (Vu T):=(ZaR T).mono (by decide);have cl_Course:=T.cl_Course;have na_Course:=T.na_Course;refine T.F_Course_ring_behind.okX Yf (fun vs H Q E h=>?_) (fun cdv A outer s H vs Q E hr h=>?_)
 ·obtain⟨p,s,c,ls,rs,st,cs,rfl,_⟩:=h
  rfl
 ·have hu:=hr.units;obtain⟨p,s,c,ls,rs,st,cs,rfl,hc,hs,hcs,hsl,hcl,hbt,hsz,hz,hn,hcb,⟨j0,hj0,hsh0⟩,hnx,q⟩:=h;obtain⟨dx,a,b,c2,d0,e,ia,ib,ic,bs,h1,h2,h3,h4,h5,h6,h7,h8,h9,h10⟩:=id hc;refine⟨_,(Zc (Zs (i:=3) Yf.nd rfl (Or.inl rfl) (Yb (pv 0) T.cl_Course T.M_Course_waits_behind G_Course_waits_behind hr T.b_Course_waits_behind .nil Zl (Za (pv 1) (Za (pv 2) Zb))))
     (Zc (Zs (i:=4) Yf.nd rfl (Or.inl rfl) Zar)
     (Zc (Zs (i:=5) Yf.nd rfl (Or.inl rfl) (YC Zb))
     (Zc (Zs (i:=6) Yf.nd rfl (Or.inl rfl) (Zy (Zla rfl) (by rfl) T.n_min PyProof.Rows.boot_min (Za (pv 3) Zb)))
     (Zc (Zaq PassesOwn.leaving (ZC (ZbJ hu) (pv 6) (pv 4) (by with_unfolding_all rfl)) (Zc (Wg (Zy (Ya (K:=K) rfl) (by rfl) T.n_len PySem.boot_len (Za (pv 5) Zb)) (W7 (pv 4) (pv 6) (Zab hu)))
     (Zc (ZX (Yt (K:=K) rfl PySem.F.plainAttrs_list PySem.F.slot_list_append PySem.F.type_list_append Yc (pv 5) (Za (Zj (Zce hu) (pv 3) (pv 6) (fun _ _=>rfl)) Zb)))
     (Zh (Zs (i:=6) Yf.nd rfl (Or.inl rfl) (Zj (Zq (K:=K) rfl) (Zj (Zq (K:=K) rfl) (ZZ (K:=K) rfl (pv 0) rfl) (Zj (Zce hu) (pv 3) (pv 6) (fun _ _=>rfl)) (fun _ _=>rfl)) Zf (fun _ _=>rfl)))))))
     (Zh (Zw (Zda (ZjI (K:=K) rfl) (pv 5) (Zd7 (Zj (Zce hu) (pv 4) (pv 6) (fun _ _=>rfl))) Zd8)))))))),?_⟩
  try dsimp only[L2.cxX,L2.ZN,L2.Zn]
  walk_at "rds";refine⟨p,s,c,ls,rs,st,cs,rfl,hc,hs,hcs,hsl,hcl,hbt,hsz,hz,hcb,fun wa H1 kvs hwa s1 hwa1 hw=>?_⟩;walk_at "rds";intro pl hpl;have s2:Zd H1 (upd H1 pl (.dK [])):=Zo hpl;have hpl2:(upd H1 pl (.dK [])) pl=some (.dK []):=Ze;generalize upd H1 pl (.dK [])=H2 at*;have hwa2:=s2 _ _ hwa1;have hpl0:H pl=none:=ZK s1 hpl;walk_at "rds";refine⟨Nat.zero_le _,fun y hy=>?_⟩;have s3:Zd H2 (upd H2 y (.lst [])):=Zo hy;have hy3:(upd H2 y (.lst [])) y=some (.lst (([]:List Nat).map fun j:Nat=>V.int j)):=Ze;generalize upd H2 y (.lst [])=H3 at*;have hwa3:=s3 _ _ hwa2;have hpl3:=s3 _ _ hpl2;have s03:=s1.trans (s2.trans s3);have hy0:H y=none:=ZK (s1.trans s2) hy;have nwp:wa≠pl:=Zm hwa1 hpl;have nwy:wa≠y:=Zm hwa2 hy;have npy:pl≠y:=Zm hpl2 hy;obtain⟨ks,eks,hks⟩:=hw.keys;obtain⟨y0,ey0⟩:=hw.all j0 hj0 hsh0;have hk0:0<kvs.length:=by
   cases kvs with
   |nil=>simp[Zc9] at ey0
   |cons x xs=>exact Nat.succ_pos _
  walk_at "rds";refine Rd.Znl hwa3 eks hk0 (fun M hM hMin=>?_);obtain⟨yM,eM⟩:=hks M hM;walk_at "rds";refine ZbD (fun m σ H'=>∃(ys:List Nat)(kp:List (Key×V))(w:Int)(yv:V),m=rs.length+1-ys.length∧σ=[some (.ref p),some (.ref s),some (.ref c),some (.ref wa),some (.ref pl),some (.ref y),some (.int w)]∧ZH [pl,y] H3 H'∧H' pl=some (.dK kp)∧H' y=some (.lst (ys.map fun j:Nat=>V.int j))∧V0 ls rs st cs ys w kp∧valV kvs (Sum.inl w)=some yv) _ ⟨[],[],M,yM,rfl,rfl,ZH.refl,hpl3,hy3,V0.nil M,eM⟩ ?_;rintro m σ H4 ⟨ys,kp,w,yv,rfl,rfl,f4,hpl4,hy4,how,ew⟩;have hshort:=how.short hbt;have hwa4:=f4.keep _ _ hwa3 (by simp[nwp,nwy]);obtain⟨j,hj,rfl,etj,hsj⟩:=hw.val w yv ew;walk_at "rds";have hjt:Yj ls j=w:=etj;have hst':=how.step (j:=j);have hb4:=f4.keep _ _ ((s1.trans (s2.trans s3)) _ _ h3) (by
   have n1:b≠pl:=Zm h3 hpl0;have n2:b≠y:=Zm h3 hy0;simp[n1,n2])
  have hp4:=f4.keep _ _ ((s1.trans (s2.trans s3)) _ _ h1) (by
   have n1:p≠pl:=Zm h1 hpl0;have n2:p≠y:=Zm h1 hy0;simp[n1,n2])
  obtain⟨u,hu1,hu2⟩:=h4.getD (i:=j) hj;have hu4:=f4.tups _ _ (s03 _ _ hu2);have nup:u≠pl:=Zm hu2 hpl0;have nuy:u≠y:=Zm hu2 hy0;have npb:p≠pl:=Zm h1 hpl0;have npy':p≠y:=Zm h1 hy0;have nbp:b≠pl:=Zm h3 hpl0;have nby:b≠y:=Zm h3 hy0;refine Vl (fun cc=>ZdF ?_) (fun cc=>?_)
  ·have hno:valV kp (Sum.inl w)=none:=by simpa using cc
   have hkl:kp.length<sizeLine:=Zu (by have:=how.len;omega);have hyl:(ys.map fun j:Nat=>V.int j).length<sizeLine:=Zu (by rw[List.length_map];omega);have how':=how.step hno hj hsj hjt;have hle:=how'.short hbt;rw[List.length_append,List.length_singleton] at hle;walk_at "rds";have f5:ZH [pl,y] H4 (upd H4 pl (.dK (Z9 kp (Sum.inl w) (.int ys.length)))):=Yk (by simp) hpl4 (by intro _ z;cases z);have hpl5:(upd H4 pl (.dK (Z9 kp (Sum.inl w) (.int ys.length)))) pl=some (.dK (Z9 kp (Sum.inl w) (.int ys.length))):=Ze;have hy5:(upd H4 pl (.dK (Z9 kp (Sum.inl w) (.int ys.length)))) y=_:=(Zg npy.symm).trans hy4;have hwa5:(upd H4 pl (.dK (Z9 kp (Sum.inl w) (.int ys.length)))) wa=_:=(Zg nwp).trans hwa4;have hp5:(upd H4 pl (.dK (Z9 kp (Sum.inl w) (.int ys.length)))) p=_:=(Zg npb).trans hp4;have hb5:(upd H4 pl (.dK (Z9 kp (Sum.inl w) (.int ys.length)))) b=_:=(Zg nbp).trans hb4;have hu5:(upd H4 pl (.dK (Z9 kp (Sum.inl w) (.int ys.length)))) u=_:=(Zg nup).trans hu4;have elen:((ys.map fun j:Nat=>V.int j).length:Int)=(ys.length:Int):=by simp
   rw[elen];generalize upd H4 pl (.dK (Z9 kp (Sum.inl w) (.int ys.length)))=H5 at*;walk_at "rds";have f6:ZH [pl,y] H5 (upd H5 y (.lst ((ys.map fun j:Nat=>V.int j)++ [.int j]))):=Yk (by simp) hy5 (by intro _ z;cases z);have hy6:(upd H5 y (.lst ((ys.map fun j:Nat=>V.int j)++ [.int j]))) y=some (.lst ((ys++ [j]).map fun j:Nat=>V.int j)):=by rw[Ze];simp
   have hpl6:(upd H5 y (.lst ((ys.map fun j:Nat=>V.int j)++ [.int j]))) pl=_:=(Zg npy).trans hpl5;have hwa6:(upd H5 y (.lst ((ys.map fun j:Nat=>V.int j)++ [.int j]))) wa=_:=(Zg nwy).trans hwa5;have hp6:(upd H5 y (.lst ((ys.map fun j:Nat=>V.int j)++ [.int j]))) p=_:=(Zg npy').trans hp5;have hb6:(upd H5 y (.lst ((ys.map fun j:Nat=>V.int j)++ [.int j]))) b=_:=(Zg nby).trans hb5;have hu6:(upd H5 y (.lst ((ys.map fun j:Nat=>V.int j)++ [.int j]))) u=_:=(Zg nuy).trans hu5;generalize upd H5 y (.lst ((ys.map fun j:Nat=>V.int j)++ [.int j]))=H6 at*;have f06:=f4.trans (f5.trans f6);have hbl:=h4.length;have at1:atI bs (j:Int)=some (.ref u):=YT (by rw[List.getElem?_eq_getElem (show j<bs.length by omega),←hu1,Zx (show j<bs.length by omega)]);obtain⟨i,hi,eti,hsi⟩:=hnx j hj hsj;obtain⟨yn,eyn⟩:=hw.all i hi hsi;have eyn':valV kvs (Sum.inl (UE ls j))=some yn:=by rw[←eti];exact eyn
   have eg:UE ls j=(ls.getD j dB).giver:=rfl;rw[eg] at how' eyn';generalize ls.getD j dB=bb at*;dsimp only[B5.v] at hu6;walk_at "rds";exact⟨_,by rw[List.length_append,List.length_singleton];omega,ys++ [j],_,bb.giver,yn,rfl,rfl,f06,hpl6,hy6,how',eyn'⟩
  ·obtain⟨yp,eyp⟩:∃yp,valV kp (Sum.inl w)=some yp:=by
    cases e:valV kp (Sum.inl w) with
    |none=>rw[e] at cc;exact absurd rfl cc
    |some yp=>exact⟨yp,rfl⟩
   obtain⟨k,rfl,hk,hring⟩:=how.ring eyp;walk_at "rds";have s4:Zd H H4:=fun x o e=>f4.keep _ _ (s03 _ _ e) (by
    have n1:x≠pl:=Zm e hpl0;have n2:x≠y:=Zm e hy0;simp[n1,n2])
   refine Rd.slL (.of hy4) (fun r hr=>?_);refine q r _ (ys.drop k) (ZK s4 hr) (s4.trans (Zo hr)) ?_ hring;rw[Ze,ZjW (by rw[List.length_map];omega),List.map_drop]
end
def Ue{K:PySem.W.Frag}{mg:Str→Option Value}(T:Tp K mg):Sp:=fun vs H Q E=>∃(p s:Addr)(ls:List B5)(rs st:List Int),vs=[.ref p,.ref s]∧Wq T H p ls rs∧SqL K H s (st.map V.int)∧st.length=ls.length∧ZM ls rs.length∧Wa ls∧Zfz ls rs∧ls.length≤1000∧rs.length≤1000∧(∀r∈rs,1≤r)∧(∀x∈st,0≤x)∧tot rs≤1000∧
 (∀(t r:Addr)(H':Hp)(ws:List Nat)(d:Nat→Nat),H r=none→Zd H H'→H' t=some (.tup [.ref r,.non])→H' r=some (.lst (ws.map fun w:Nat=>V.int w))→Fire.Ye (YZ ls st rs) (fun _=>0) ws d→(∀v<rs.length,d v=ZO rs v)→Q (.ref t) H')∧
 (∀(t u c g:Addr)(H':Hp)(ws:List Nat)(d:Nat→Nat)(ring:List Nat),H c=none→H g=none→Zd H H'→H' t=some (.tup [.non,.ref u])→H' u=some (.tup [.ref c,.ref g])→H' c=some (.lst ((W3 rs.length d).map V.int))→H' g=some (.lst (ring.map fun j:Nat=>V.int j))→Fire.Ye (YZ ls st rs) (fun _=>0) ws d→(∀w,¬Wv ls st rs d w)→(∃v<rs.length,d v<ZO rs v)→Zbm ls rs st (W3 rs.length d) ring→Q (.ref t) H')
section
variable {P:Program}{w:World}{K:PySem.W.Frag}{mg:Str→Option Value}{base:Heap}
theorem Zbz(T:Tp K mg):Zk P w K mg base (CXX P w) 3 T.f_Course_told_from T.d_Course_told_from ["self","starts"] (Ue T):=by
 have G_Course_row_from:Zk P w K mg base (CXX P w) 2 T.f_Course_row_from T.d_Course_row_from ["self","starts"] (UI T):=(ZbZ T).mono (by decide);have G_Course_ring_behind:Zk P w K mg base (CXX P w) 2 T.f_Course_ring_behind T.d_Course_ring_behind ["self","starts","counts"] (VE T):=(Za6 T).mono (by decide);have cl_Course:=T.cl_Course;have na_Course:=T.na_Course;refine T.F_Course_told_from.okX WW (fun vs H Q E h=>?_) (fun cdv A outer s H vs Q E hr h=>?_)
 ·obtain⟨p,s,ls,rs,st,rfl,_⟩:=h
  rfl
 ·have hu:=hr.units;obtain⟨p,s,ls,rs,st,rfl,hc,hs,hsl,hbt,hsz,hbal,hz,hn,hpos,hs0,htot,q1,q2⟩:=h;refine⟨_,(Zc (Zs (i:=2) WW.nd rfl (Or.inr rfl) (Yb (pv 0) T.cl_Course T.M_Course_row_from G_Course_row_from hr T.b_Course_row_from .nil Zl (Za (pv 1) Zb)))
     (Zc (ZW (ZC (Wc (K:=K) rfl hu) (Zy (Ya (K:=K) rfl) (by rfl) T.n_len PySem.boot_len (Za (pv 2) Zb)) (Zy (ZhJ (K:=K) rfl rfl) (by rfl) T.n_sum PyProof.Rows.boot_sum (Za (ZZ (K:=K) rfl (pv 0) rfl) Zb)) (ZI _)) (Zh (Zw (Yv (Za (pv 2) (Za WR Zb))))) ZJ)
     (Zc (Zd4 (j:=3) rfl (Yh (x:="work") (zs:=["row"]) (ix:=[2]) (Zi YN) ["self","starts","row","counts"] rfl rfl (by decide+kernel)) (Z4 rfl T.n_range (Za (Zy (Ya (K:=K) rfl) (by rfl) T.n_len PySem.boot_len (Za (ZZ (K:=K) rfl (pv 0) rfl) Zb)) Zb)) (fun cl C s H fp=>⟨(Zp (i:=0) (show(["work","row"]:List Str).Nodup by decide+kernel) rfl (Or.inl rfl)),Yg,(Yt (K:=K) rfl PySem.F.plainAttrs_list PySem.F.slot_list_count PySem.F.type_list_count (Zin (K:=K) rfl) (pv 1) (Za (pv 0) Zb))⟩) WW.nd rfl (Or.inl rfl))
     (Zh (Zw (Yv (Za WR (Za (Yv (Za (pv 3) (Za (Yb (pv 0) T.cl_Course T.M_Course_ring_behind G_Course_ring_behind hr T.b_Course_ring_behind .nil Zl (Za (pv 1) (Za (pv 3) Zb))) Zb))) Zb)))))))),?_⟩
  try dsimp only[L2.cxX,L2.ZN,L2.Zn]
  walk_at "rds";refine⟨p,s,ls,rs,st,rfl,hc,hs,hsl,hbt,hz,hn,hpos,htot,fun r H1 ws d hr s1 hr1 hrun hst=>?_⟩;obtain⟨hle,hlen,hlt⟩:=Zbp (W0 hrun);have esum:=Zcg (rs:=rs) fun r hr=>(by have:=hpos r hr;omega);have hc1:=hc.same s1;obtain⟨dx,a,b,c,d0,e,ia,ib,ic,bs,h1,h2,h3,h4,h5,h6,h7,h8,h9,h10⟩:=id hc1;walk_at "rds";refine Rd.Zi5 (.of h2) ?_;rw[←esum];walk_at "rds";have elen:((ws.map fun w:Nat=>V.int w).length:Int)=(ws.length:Int):=by simp
  rw[elen];refine Vl (fun cc=>?_) (fun cc=>?_)
  ·have he:ws.length=tot rs:=by have:=of_decide_eq_true cc;omega
   walk_at "rds";refine⟨by show 2≤sizeLine;decide,fun t ht=>?_⟩;refine q1 t r _ ws d hr (s1.trans (Zo ht)) Ze (Zo ht _ _ hr1) hrun (ZgC hle ?_);rw[←hlen,he]
   rfl
  ·have he:ws.length≠tot rs:=fun z=>cc (decide_eq_true (by omega));have hex:∃v<rs.length,d v<ZO rs v:=by
    by_cases z:∃v<rs.length,d v<ZO rs v
    ·exact z
    ·exfalso;refine he ?_;rw[hlen];have:∀v<rs.length,d v=ZO rs v:=fun v hv=>by
      have:=hle v hv;rcases Nat.lt_or_ge (d v) (ZO rs v) with y|y
      ·exact absurd ⟨v,hv,y⟩ z
      ·omega
     exact Nat.le_antisymm (Uh fun v hv=>by rw[this v hv];exact Nat.le_refl _) (Uh fun v hv=>by rw[this v hv];exact Nat.le_refl _)
   have ecnt:∀v,d v=ws.count v:=fun v=>by have:=(W0 hrun).count v;omega
   have rl:(rs.map V.int).length=rs.length:=by simp
   have hr1':H1 r=some (.lst ((ws.map fun w:Nat=>(w:Int)).map V.int)):=by rw[hr1,List.map_map];rfl
   walk_at "rds";refine YA VN (Zu (by rw[rl];exact hn)) (fun _=>true) (fun i=> .int (((ws.map fun w:Nat=>(w:Int)).count (0+(i:Int)):Nat):Int)) (fun i H' Kc hi sm k=>?_) (fun i H' Kc hi _ sm k=>?_) (fun c2 H2 hc20 s2 hc2=>?_)
   ·walk_at "rds";exact k H' (Zd.refl H')
   ·have hr2:=sm _ _ hr1';walk_at "rds";refine Rd.ZlF (SqL.of hr2) ?_;exact k H' (Zd.refl H')
   ·have ec:H2 c2=some (.lst ((W3 rs.length d).map V.int)):=by
     rw[hc2,List.filter_eq_self.mpr (by simp),rl,Int.toNat_natCast];refine congrArg (fun z=>some (HO.lst z)) ?_;unfold W3;rw[List.map_map];refine List.map_congr_left fun v hv=>?_;show V.int _=V.int ((d v:Nat):Int);rw[Int.zero_add,ecnt v]
     congr 2
     rw[List.count_eq_countP,List.count_eq_countP,List.countP_map];refine List.countP_congr fun x _=>?_;simp;omega
    have hcp:∀x∈W3 rs.length d,0≤x∧x≤1000:=fun x hx=>by
     obtain⟨v,hv,rfl⟩:=List.mem_map.mp hx;have h1:=hle v (by simpa using hv);have h2:ws.count v≤ws.length:=List.count_le_length;have h3:=ecnt v;omega
    obtain⟨v0,hv0,hd0⟩:=hex;obtain⟨j0,hj0,_,hsj0⟩:=ZcD hsl hbt hpos hst hv0 hd0;have hcc:=hc1.same s2;walk_at "rds";refine⟨p,s,c2,ls,rs,st,_,rfl,hcc,s2.seq (s1.seq hs),.of ec,hsl,Zjl,hbt,hsz,hz,hn,hcp,⟨j0,hj0,hsj0⟩,fun j hj hsj=>ZhR hsl hbt hpos hst hbal hle hs0 hsz hj hsj,fun g H3 ring hg s3 hg3 hring=>?_⟩;walk_at "rds";refine⟨by show 2≤sizeLine;decide,fun u hu'=>?_⟩;have s4:Zd H3 (upd H3 u (.tup [.ref c2,.ref g])):=Zo hu';have hu4:(upd H3 u (.tup [.ref c2,.ref g])) u=some (.tup [.ref c2,.ref g]):=Ze;generalize upd H3 u (.tup [.ref c2,.ref g])=H4 at*;walk_at "rds";refine⟨by show 2≤sizeLine;decide,fun t ht=>?_⟩;have s5:Zd H4 (upd H4 t (.tup [.non,.ref u])):=Zo ht;have s24:=s3.trans s4;exact q2 t u c2 g _ ws d ring (ZK s1 hc20) (ZK (s1.trans s2) hg) ((s1.trans s2).trans (s24.trans s5)) Ze (s5 _ _ hu4) (s5 _ _ (s24 _ _ ec)) (s5 _ _ (s4 _ _ hg3)) hrun hst ⟨v0,hv0,hd0⟩ hring
end
def Wu{K:PySem.W.Frag}{mg:Str→Option Value}(T:Tp K mg):Sp:=fun vs H Q E=>∃(p:Addr)(i:Int)(hl:HM)(fp:List Addr),vs=[.ref p,.int i]∧ZB T H p hl fp∧
 (¬(0≤i∧i<hl.names.length)→E (.ref T.X_NoWork) none H)∧(0≤i→i<hl.names.length→Q .non H)
section
variable {P:Program}{w:World}{K:PySem.W.Frag}{mg:Str→Option Value}{base:Heap}
theorem Vp(T:Tp K mg):Zk P w K mg base (CXX P w) 4 T.f_Hall_need_work T.d_Hall_need_work ["self","work"] (Wu T):=by
 have G_is_number_below:Zk P w K mg base (CXX P w) 3 T.f_is_number_below T.d_is_number_below ["thing","bound"] (YM T):=(UL T).mono (by decide);have cl_Hall:=T.cl_Hall;have na_Hall:=T.na_Hall;refine T.F_Hall_need_work.okX Zcs (fun vs H Q E h=>?_) (fun cdv A outer s H vs Q E hr h=>?_)
 ·obtain⟨p,i,hl,fp,rfl,_⟩:=h
  rfl
 ·have hu:=hr.units;obtain⟨p,i,hl,fp,rfl,hh,e1,q⟩:=h;obtain⟨dx,a,b,bs,rfl,h1,h2,h3,h4,nab,h6⟩:=id hh;refine⟨_,(Zh (ZW (Wh (Yr (K:=K) rfl (Zr G_is_number_below hr rfl T.m_is_number_below T.F_is_number_below.kp T.b_is_number_below .nil Zl (Za (pv 1) (Za (Zy Zg4 (by rfl) T.n_len PySem.boot_len (Za (ZZ (K:=K) rfl (pv 0) rfl) Zb)) Zb))) (fun _=>rfl))) (Zh (Y2 T.gx_NoWork T.ex_NoWork PySem.F.excBase_ValueError rfl (Za Wb Zb))) ZJ)),?_⟩
  try dsimp only[L2.cxX,L2.ZN,L2.Zn]
  walk_at "rds";rw[UV]
  by_cases c:0≤i∧i<hl.names.length
  ·rw[decide_eq_true c];walk_at "rds";exact q c.1 c.2
  ·rw[decide_eq_false c];walk_at "rds";exact e1 c
end
def Zak{K:PySem.W.Frag}{mg:Str→Option Value}(T:Tp K mg):Sp:=fun vs H Q E=>∃(p:Addr)(w:Int)(hl:HM)(fp:List Addr),vs=[.ref p,.int w]∧ZB T H p hl fp∧hl.belts.length≤1000∧
 (¬(0≤w∧w<hl.names.length)→E (.ref T.X_NoWork) none H)∧(0≤w→w<hl.names.length→∀r H',H r=none→Zd H H'→H' r=some (.lst ((ZU hl.belts w).map fun i:Nat=>V.int i))→Q (.ref r) H')
section
variable {P:Program}{w:World}{K:PySem.W.Frag}{mg:Str→Option Value}{base:Heap}
theorem Zc8(T:Tp K mg):Zk P w K mg base (CXX P w) 5 T.f_Hall_entering T.d_Hall_entering ["self","work"] (Zak T):=by
 have G_Hall_need_work:Zk P w K mg base (CXX P w) 4 T.f_Hall_need_work T.d_Hall_need_work ["self","work"] (Wu T):=(Vp T).mono (by decide);have cl_Hall:=T.cl_Hall;have na_Hall:=T.na_Hall;refine T.F_Hall_entering.okX ZcS (fun vs H Q E h=>?_) (fun cdv A outer s H vs Q E hr h=>?_)
 ·obtain⟨p,w,hl,fp,rfl,_⟩:=h
  rfl
 ·have hu:=hr.units;obtain⟨p,w,hl,fp,rfl,hh,hz,e1,q⟩:=h;obtain⟨dx,a,b,bs,rfl,h1,h2,h3,h4,nab,h6⟩:=id hh;have hb:=h6.length;refine⟨_,(Zc (ZX (Yb (pv 0) T.cl_Hall T.M_Hall_need_work G_Hall_need_work hr T.b_Hall_need_work .nil Zl (Za (pv 1) Zb)))
     (Zh (Zw (Va (xs:=["belt","row"]) rfl (Yh (x:="belt") (zs:=["work"]) (ix:=[1]) (Zi Wk) ["self","work"] rfl rfl (by decide+kernel)) (Za5 (K:=K) rfl rfl T.n_enumerate (Za (ZZ (K:=K) rfl (pv 0) rfl) Zb)) (fun cl C s H fp=>⟨(YF (K:=K) (n:=2) rfl rfl (ZE (Zp (i:=0) (show(["belt","row","work"]:List Str).Nodup by decide+kernel) rfl (Or.inl rfl)) (ZE (Zp (i:=1) (show(["belt","row","work"]:List Str).Nodup by decide+kernel) rfl (Or.inl rfl)) YD))),(Zea (ZC (Wc (K:=K) rfl hu) (Zj (Zq (K:=K) rfl) (pv 1) Zf (fun _ _=>rfl)) (pv 2) (ZI _))),(pv 0)⟩))))),?_⟩
  try dsimp only[L2.cxX,L2.ZN,L2.Zn]
  walk_at "rds";refine⟨p,w,hl,_,rfl,hh,e1,fun w0 w1=>?_⟩;walk_at "rds";refine YH (own:=2) (VY (SqL.of h4)) (Zu (by omega)) (fun i=>[some (.int i),some (bs.getD i .non)]) (fun _=>rfl) (fun i=>decide ((hl.belts.getD i dB).taker=w)) (fun i v _=>v= .int i) (fun _ _ _ _ _ z=>z) (fun i a' H' v H2 Kg hi sm y ha k=>?_) (fun i H' Kc hi sm k=>?_) (fun pp i H' Kc hi hc hp0 hp1 sm k=>?_) (fun r H' ys hr sm hl' hR=>?_)
  ·obtain⟨t,ht,rfl,rfl⟩:=y;obtain⟨x1,x2,rfl⟩:∃x1 x2,a'=[x1,x2]:=by
    match a',ha with
    | [x1,x2],_=>exact⟨x1,x2,rfl⟩
   refine Rd.VB (.of Ze) rfl ?_;walk_at "rds";exact k _ (Zo ht)
  ·obtain⟨t,ht1,ht2⟩:=h6.getD (i:=i) (by omega);rw[ht1];have ht3:=sm _ _ ht2;generalize hl.belts.getD i dB=bb at*;dsimp only[B5.v] at ht3;walk_at "rds";exact k H' (Zd.refl H')
  ·walk_at "rds";exact k _ H' (Zd.refl H') rfl
  ·refine q w0 w1 r H' hr sm ?_;rw[hl',UZ (R:=fun i v _=>v=V.int (i:Nat)) (H:=H') (r:=fun i:Nat=>V.int i) (fun _ _ z=>z) hR,hb]
   rfl
end
def ZcJ{K:PySem.W.Frag}{mg:Str→Option Value}(T:Tp K mg):Sp:=fun vs H Q E=>∃(p:Addr)(w:Int)(hl:HM)(fp:List Addr),vs=[.ref p,.int w]∧ZB T H p hl fp∧hl.belts.length≤1000∧0≤w∧w<hl.names.length∧
 ∀r H' ys,H r=none→Zd H H'→H' r=some (.lst ys)→Vv H' (Ym hl.belts w) ys→Q (.ref r) H'
section
variable {P:Program}{w:World}{K:PySem.W.Frag}{mg:Str→Option Value}{base:Heap}
theorem Zgq(T:Tp K mg):Zk P w K mg base (CXX P w) 6 T.f_takes_of T.d_takes_of ["hall","work"] (ZcJ T):=by
 have G_Hall_entering:Zk P w K mg base (CXX P w) 5 T.f_Hall_entering T.d_Hall_entering ["self","work"] (Zak T):=(Zc8 T).mono (by decide);have G_Hall_belt_at:Zk P w K mg base (CXX P w) 5 T.f_Hall_belt_at T.d_Hall_belt_at ["self","belt"] (YQ T):=(Wn T).mono (by decide);have cl_Hall:=T.cl_Hall;have na_Hall:=T.na_Hall;refine T.F_takes_of.okX Zf5 (fun vs H Q E h=>?_) (fun cdv A outer s H vs Q E hr h=>?_)
 ·obtain⟨p,w,hl,fp,rfl,_⟩:=h
  rfl
 ·have hu:=hr.units;obtain⟨p,w,hl,fp,rfl,hh,hz,w0,w1,q⟩:=h;refine⟨_,(Zh (Zw (Va (xs:=["belt"]) rfl (Yh (x:="belt") (zs:=["hall"]) (ix:=[0]) (Zi VW) ["hall","work"] rfl rfl (by decide+kernel)) (Z0 (K:=K) rfl (Yb (pv 0) T.cl_Hall T.M_Hall_entering G_Hall_entering hr T.b_Hall_entering .nil Zl (Za (pv 1) Zb))) (fun cl C s H fp=>⟨(Zp (i:=0) (show(["belt","hall"]:List Str).Nodup by decide+kernel) rfl (Or.inl rfl)),Yg,(Yv (Za (pv 0) (Za (Zj (Zq (K:=K) rfl) (Yb (pv 1) T.cl_Hall T.M_Hall_belt_at G_Hall_belt_at hr T.b_Hall_belt_at .nil VZ (Za (pv 0) Zb)) Zf (fun _ _=>rfl)) Zb)))⟩)))),?_⟩
  try dsimp only[L2.cxX,L2.ZN,L2.Zn]
  walk_at "rds";refine⟨p,w,hl,fp,rfl,hh,hz,fun z=>absurd ⟨w0,w1⟩ z,fun _ _ e H1 he s1 he1=>?_⟩;have hh1:=hh.same s1;have el:=ZdI (ls:=hl.belts) (w:=w);walk_at "rds";refine YH (own:=1) (ZT (SqL.of he1)).y (Zu (by rw[List.length_map];omega)) (fun i=>[some (.int ((ZU hl.belts w).getD i 0:Nat))]) (fun _=>rfl) (fun _=>true) (fun i v H=>∃t,v=V.ref t∧H t=some (.tup [.int ((ZU hl.belts w).getD i 0:Nat),.int (hl.belts.getD ((ZU hl.belts w).getD i 0) dB).take])) (fun _ _ _ _ e ⟨t,z1,z2⟩=>⟨t,z1,e _ _ z2⟩) (fun i a' H' v H2 Kg hi sm y ha' k=>?_) (fun i H' Kc hi sm k=>?_) (fun pp i H' Kc hi hc hp0 hp1 sm k=>?_) (fun r H' ys hr' sm hl' hR=>?_)
  ·obtain⟨rfl,rfl⟩:=y;obtain⟨x1,rfl⟩:∃x1,a'=[x1]:=by
    match a',ha' with
    | [x1],_=>exact⟨x1,rfl⟩
   have hi':i<(ZU hl.belts w).length:=by simpa using hi
   have ev:((ZU hl.belts w).map fun i:Nat=>V.int i).getD i .non= .int ((ZU hl.belts w).getD i 0:Nat):=by simp[List.getD,hi']
   rw[ev];walk_at "rds";exact k _ (Zd.refl _)
  ·walk_at "rds";exact k H' (Zd.refl H')
  ·have hi':i<(ZU hl.belts w).length:=by simpa using hi
   have hm:(ZU hl.belts w).getD i 0∈ZU hl.belts w:=by
    have:(ZU hl.belts w).getD i 0=(ZU hl.belts w)[i]:=by simp[List.getD,hi']
    rw[this];exact List.getElem_mem hi'
   have hlt:=ZbT hm;generalize (ZU hl.belts w).getD i 0=j at*;have hh2:=hh1.same sm;walk_at "rds";refine⟨p,(j:Int),hl,fp,rfl,hh2,fun z=>absurd ⟨Int.natCast_nonneg j,by omega⟩ z,fun _ _ t b hb ht=>?_⟩;have hb':hl.belts[j]? =some b:=hb;have eb:hl.belts.getD j dB=b:=by simp[List.getD,hb']
   rw[eb] at k;dsimp only[B5.v] at ht;walk_at "rds";refine⟨by show 2≤sizeLine;decide,fun u hu'=>?_⟩;exact k _ _ (Zo hu') ⟨u,rfl,ZgA hp1 hu'⟩
  ·refine q r H' ys ?_ (s1.trans sm) hl' ?_
   ·cases e:H r with
    |none=>rfl
    |some o=>rw[s1 _ _ e] at hr';cases hr'
   ·exact(Zev hR).keep fun b xs z=>VD _ _ z
end
def VS{K:PySem.W.Frag}{mg:Str→Option Value}(T:Tp K mg):Sp:=fun vs H Q E=>∃(p:Addr)(w:Int)(hl:HM)(fp:List Addr),vs=[.ref p,.int w]∧ZB T H p hl fp∧hl.belts.length≤1000∧
 (¬(0≤w∧w<hl.names.length)→E (.ref T.X_NoWork) none H)∧(0≤w→w<hl.names.length→∀r H',H r=none→Zd H H'→H' r=some (.lst ((ZL hl.belts w).map fun i:Nat=>V.int i))→Q (.ref r) H')
section
variable {P:Program}{w:World}{K:PySem.W.Frag}{mg:Str→Option Value}{base:Heap}
theorem ZaP(T:Tp K mg):Zk P w K mg base (CXX P w) 5 T.f_Hall_leaving T.d_Hall_leaving ["self","work"] (VS T):=by
 have G_Hall_need_work:Zk P w K mg base (CXX P w) 4 T.f_Hall_need_work T.d_Hall_need_work ["self","work"] (Wu T):=(Vp T).mono (by decide);have cl_Hall:=T.cl_Hall;have na_Hall:=T.na_Hall;refine T.F_Hall_leaving.okX Zdc (fun vs H Q E h=>?_) (fun cdv A outer s H vs Q E hr h=>?_)
 ·obtain⟨p,w,hl,fp,rfl,_⟩:=h
  rfl
 ·have hu:=hr.units;obtain⟨p,w,hl,fp,rfl,hh,hz,e1,q⟩:=h;obtain⟨dx,a,b,bs,rfl,h1,h2,h3,h4,nab,h6⟩:=id hh;have hb:=h6.length;refine⟨_,(Zc (ZX (Yb (pv 0) T.cl_Hall T.M_Hall_need_work G_Hall_need_work hr T.b_Hall_need_work .nil Zl (Za (pv 1) Zb)))
     (Zh (Zw (Va (xs:=["belt","row"]) rfl (Yh (x:="belt") (zs:=["work"]) (ix:=[1]) (Zi WB) ["self","work"] rfl rfl (by decide+kernel)) (Za5 (K:=K) rfl rfl T.n_enumerate (Za (ZZ (K:=K) rfl (pv 0) rfl) Zb)) (fun cl C s H fp=>⟨(YF (K:=K) (n:=2) rfl rfl (ZE (Zp (i:=0) (show(["belt","row","work"]:List Str).Nodup by decide+kernel) rfl (Or.inl rfl)) (ZE (Zp (i:=1) (show(["belt","row","work"]:List Str).Nodup by decide+kernel) rfl (Or.inl rfl)) YD))),(Zea (ZC (Wc (K:=K) rfl hu) (Zj (Zq (K:=K) rfl) (pv 1) Zf (fun _ _=>rfl)) (pv 2) (ZI _))),(pv 0)⟩))))),?_⟩
  try dsimp only[L2.cxX,L2.ZN,L2.Zn]
  walk_at "rds";refine⟨p,w,hl,_,rfl,hh,e1,fun w0 w1=>?_⟩;walk_at "rds";refine YH (own:=2) (VY (SqL.of h4)) (Zu (by omega)) (fun i=>[some (.int i),some (bs.getD i .non)]) (fun _=>rfl) (fun i=>decide ((hl.belts.getD i dB).giver=w)) (fun i v _=>v= .int i) (fun _ _ _ _ _ z=>z) (fun i a' H' v H2 Kg hi sm y ha k=>?_) (fun i H' Kc hi sm k=>?_) (fun pp i H' Kc hi hc hp0 hp1 sm k=>?_) (fun r H' ys hr sm hl' hR=>?_)
  ·obtain⟨t,ht,rfl,rfl⟩:=y;obtain⟨x1,x2,rfl⟩:∃x1 x2,a'=[x1,x2]:=by
    match a',ha with
    | [x1,x2],_=>exact⟨x1,x2,rfl⟩
   refine Rd.VB (.of Ze) rfl ?_;walk_at "rds";exact k _ (Zo ht)
  ·obtain⟨t,ht1,ht2⟩:=h6.getD (i:=i) (by omega);rw[ht1];have ht3:=sm _ _ ht2;generalize hl.belts.getD i dB=bb at*;dsimp only[B5.v] at ht3;walk_at "rds";exact k H' (Zd.refl H')
  ·walk_at "rds";exact k _ H' (Zd.refl H') rfl
  ·refine q w0 w1 r H' hr sm ?_;rw[hl',UZ (R:=fun i v _=>v=V.int (i:Nat)) (H:=H') (r:=fun i:Nat=>V.int i) (fun _ _ z=>z) hR,hb]
   rfl
end
def Zcx{K:PySem.W.Frag}{mg:Str→Option Value}(T:Tp K mg):Sp:=fun vs H Q E=>∃(p:Addr)(w:Int)(hl:HM)(fp:List Addr),vs=[.ref p,.int w]∧ZB T H p hl fp∧hl.belts.length≤1000∧0≤w∧w<hl.names.length∧
 ∀r H' ys,H r=none→Zd H H'→H' r=some (.lst ys)→Vv H' (U9 hl.belts w) ys→Q (.ref r) H'
section
variable {P:Program}{w:World}{K:PySem.W.Frag}{mg:Str→Option Value}{base:Heap}
theorem Zf4(T:Tp K mg):Zk P w K mg base (CXX P w) 6 T.f_gives_of T.d_gives_of ["hall","work"] (Zcx T):=by
 have G_Hall_leaving:Zk P w K mg base (CXX P w) 5 T.f_Hall_leaving T.d_Hall_leaving ["self","work"] (VS T):=(ZaP T).mono (by decide);have G_Hall_belt_at:Zk P w K mg base (CXX P w) 5 T.f_Hall_belt_at T.d_Hall_belt_at ["self","belt"] (YQ T):=(Wn T).mono (by decide);have cl_Hall:=T.cl_Hall;have na_Hall:=T.na_Hall;refine T.F_gives_of.okX Zgj (fun vs H Q E h=>?_) (fun cdv A outer s H vs Q E hr h=>?_)
 ·obtain⟨p,w,hl,fp,rfl,_⟩:=h
  rfl
 ·have hu:=hr.units;obtain⟨p,w,hl,fp,rfl,hh,hz,w0,w1,q⟩:=h;refine⟨_,(Zh (Zw (Va (xs:=["belt"]) rfl (Yh (x:="belt") (zs:=["hall"]) (ix:=[0]) (Zi V4) ["hall","work"] rfl rfl (by decide+kernel)) (Z0 (K:=K) rfl (Yb (pv 0) T.cl_Hall T.M_Hall_leaving G_Hall_leaving hr T.b_Hall_leaving .nil Zl (Za (pv 1) Zb))) (fun cl C s H fp=>⟨(Zp (i:=0) (show(["belt","hall"]:List Str).Nodup by decide+kernel) rfl (Or.inl rfl)),Yg,(Yv (Za (pv 0) (Za (Zj (Zq (K:=K) rfl) (Yb (pv 1) T.cl_Hall T.M_Hall_belt_at G_Hall_belt_at hr T.b_Hall_belt_at .nil VZ (Za (pv 0) Zb)) Zf (fun _ _=>rfl)) Zb)))⟩)))),?_⟩
  try dsimp only[L2.cxX,L2.ZN,L2.Zn]
  walk_at "rds";refine⟨p,w,hl,fp,rfl,hh,hz,fun z=>absurd ⟨w0,w1⟩ z,fun _ _ e H1 he s1 he1=>?_⟩;have hh1:=hh.same s1;have el:=Zdy (ls:=hl.belts) (w:=w);walk_at "rds";refine YH (own:=1) (ZT (SqL.of he1)).y (Zu (by rw[List.length_map];omega)) (fun i=>[some (.int ((ZL hl.belts w).getD i 0:Nat))]) (fun _=>rfl) (fun _=>true) (fun i v H=>∃t,v=V.ref t∧H t=some (.tup [.int ((ZL hl.belts w).getD i 0:Nat),.int (hl.belts.getD ((ZL hl.belts w).getD i 0) dB).give])) (fun _ _ _ _ e ⟨t,z1,z2⟩=>⟨t,z1,e _ _ z2⟩) (fun i a' H' v H2 Kg hi sm y ha' k=>?_) (fun i H' Kc hi sm k=>?_) (fun pp i H' Kc hi hc hp0 hp1 sm k=>?_) (fun r H' ys hr' sm hl' hR=>?_)
  ·obtain⟨rfl,rfl⟩:=y;obtain⟨x1,rfl⟩:∃x1,a'=[x1]:=by
    match a',ha' with
    | [x1],_=>exact⟨x1,rfl⟩
   have hi':i<(ZL hl.belts w).length:=by simpa using hi
   have ev:((ZL hl.belts w).map fun i:Nat=>V.int i).getD i .non= .int ((ZL hl.belts w).getD i 0:Nat):=by simp[List.getD,hi']
   rw[ev];walk_at "rds";exact k _ (Zd.refl _)
  ·walk_at "rds";exact k H' (Zd.refl H')
  ·have hi':i<(ZL hl.belts w).length:=by simpa using hi
   have hm:(ZL hl.belts w).getD i 0∈ZL hl.belts w:=by
    have:(ZL hl.belts w).getD i 0=(ZL hl.belts w)[i]:=by simp[List.getD,hi']
    rw[this];exact List.getElem_mem hi'
   have hlt:=ZaC hm;generalize (ZL hl.belts w).getD i 0=j at*;have hh2:=hh1.same sm;walk_at "rds";refine⟨p,(j:Int),hl,fp,rfl,hh2,fun z=>absurd ⟨Int.natCast_nonneg j,by omega⟩ z,fun _ _ t b hb ht=>?_⟩;have hb':hl.belts[j]? =some b:=hb;have eb:hl.belts.getD j dB=b:=by simp[List.getD,hb']
   rw[eb] at k;dsimp only[B5.v] at ht;walk_at "rds";refine⟨by show 2≤sizeLine;decide,fun u hu'=>?_⟩;exact k _ _ (Zo hu') ⟨u,rfl,ZgA hp1 hu'⟩
  ·refine q r H' ys ?_ (s1.trans sm) hl' ?_
   ·cases e:H r with
    |none=>rfl
    |some o=>rw[s1 _ _ e] at hr';cases hr'
   ·exact(Zev hR).keep fun b xs z=>VD _ _ z
end
def Zby{K:PySem.W.Frag}{mg:Str→Option Value}(T:Tp K mg):Sp:=fun vs H Q _=>∃(p:Addr)(w:Int)(hl:HM)(fp:List Addr),vs=[.ref p,.int w]∧ZB T H p hl fp∧hl.belts.length≤60∧0≤w∧w<hl.names.length∧
 ∀(r:Addr)(H':Hp)(ms:List Int),H r=none→Zd H H'→H' r=some (.lst (ms.map V.int))→Za0 hl.belts w ms→Q (.ref r) H'
section
variable {P:Program}{w:World}{K:PySem.W.Frag}{mg:Str→Option Value}{base:Heap}
theorem ZeS(T:Tp K mg):Zk P w K mg base (CXX P w) 6 T.f_touched_by T.d_touched_by ["hall","work"] (Zby T):=by
 have G_Hall_belt_at:Zk P w K mg base (CXX P w) 5 T.f_Hall_belt_at T.d_Hall_belt_at ["self","belt"] (YQ T):=(Wn T).mono (by decide);have G_Hall_leaving:Zk P w K mg base (CXX P w) 5 T.f_Hall_leaving T.d_Hall_leaving ["self","work"] (VS T):=(ZaP T).mono (by decide);have cl_Hall:=T.cl_Hall;have na_Hall:=T.na_Hall;refine T.F_touched_by.okX ZeM (fun vs H Q E h=>?_) (fun cdv A outer s H vs Q E hr h=>?_)
 ·obtain⟨p,w,hl,fp,rfl,_⟩:=h
  rfl
 ·have hu:=hr.units;obtain⟨p,w,hl,fp,rfl,hh,hz,w0,w1,q⟩:=h;refine⟨_,(Zh (Zw (Zhd (K:=K) rfl rfl (by rfl) T.n_sorted (by rfl) T.n_set (Za (Zv (Z6 (K:=K) rfl) (YC (Za (pv 1) Zb)) (Vh rfl (Yh (x:="belt") (zs:=["hall"]) (ix:=[0]) (Zi WZ) ["hall","work"] rfl rfl (by decide+kernel)) (Z0 (K:=K) rfl (Yb (pv 0) T.cl_Hall T.M_Hall_leaving G_Hall_leaving hr T.b_Hall_leaving .nil Zl (Za (pv 1) Zb))) (fun cl C s H fp=>⟨(Zp (i:=0) (show(["belt","hall"]:List Str).Nodup by decide+kernel) rfl (Or.inl rfl)),Yg,(Zj (Zq (K:=K) rfl) (Yb (pv 1) T.cl_Hall T.M_Hall_belt_at G_Hall_belt_at hr T.b_Hall_belt_at .nil VZ (Za (pv 0) Zb)) Zf (fun _ _=>rfl))⟩))) Zb)))),?_⟩
  try dsimp only[L2.cxX,L2.ZN,L2.Zn]
  walk_at "rds";refine Rd.ZmY ?_;walk_at "rds";intro a ha;have s1:Zd H (upd H a (.lst [V.int w])):=Zo ha;have ha1:(upd H a (.lst [V.int w])) a=some (.lst [V.int w]):=Ze;generalize upd H a (.lst [V.int w])=H1 at*;have hh1:=hh.same s1;walk_at "rds";refine⟨p,w,hl,fp,rfl,hh1,by omega,fun z=>absurd ⟨w0,w1⟩ z,fun _ _ e H2 he s2 he2=>?_⟩;have hh2:=hh1.same s2;have ha2:=s2 _ _ ha1;have el:=Zdy (ls:=hl.belts) (w:=w);walk_at "rds";refine YA (ZT (SqL.of he2)) (Zu (by rw[List.length_map];omega)) (fun _=>true) (fun i=> .int (hl.belts.getD ((ZL hl.belts w).getD i 0) dB).taker) (fun i H' Kc hi sm k=>?_) (fun i H' Kc hi _ sm k=>?_) (fun r H' hr sm hr'=>?_)
  ·walk_at "rds";exact k H' (Zd.refl H')
  ·have hi':i<(ZL hl.belts w).length:=by simpa using hi
   have ev:((ZL hl.belts w).map fun i:Nat=>V.int i).getD i .non= .int ((ZL hl.belts w).getD i 0:Nat):=by simp[List.getD,hi']
   rw[ev];have hm:(ZL hl.belts w).getD i 0∈ZL hl.belts w:=by
    have:(ZL hl.belts w).getD i 0=(ZL hl.belts w)[i]:=by simp[List.getD,hi']
    rw[this];exact List.getElem_mem hi'
   have hlt:=ZaC hm;generalize (ZL hl.belts w).getD i 0=j at*;have hh3:=hh2.same sm;walk_at "rds";refine⟨p,(j:Int),hl,fp,rfl,hh3,fun z=>absurd ⟨Int.natCast_nonneg j,by omega⟩ z,fun _ _ t b hb ht=>?_⟩;have hb':hl.belts[j]? =some b:=hb;have eb:hl.belts.getD j dB=b:=by simp[List.getD,hb']
   rw[eb] at k;dsimp only[B5.v] at ht;walk_at "rds";exact k H' (Zd.refl H')
  ·have hr2:H' r=some (.lst (((ZL hl.belts w).map fun i=>(hl.belts.getD i dB).taker).map V.int)):=by
    rw[hr',List.filter_eq_self.mpr (by simp)];refine congrArg (fun z=>some (HO.lst z)) ?_;refine List.ext_getElem (by simp) fun i h1 h2=>?_;have:i<(ZL hl.belts w).length:=by simpa using h2
    simp[List.getD,this]
   have ha3:=sm _ _ ha2;refine Rd.ZlM ha3 hr2 (Nat.le_of_lt (Zu (by simp;omega))) (fun u hu=>?_);have s4:Zd H' (upd H' u (.lst ([V.int w]++((ZL hl.belts w).map fun i=>(hl.belts.getD i dB).taker).map V.int))):=Zo hu;have hu4:(upd H' u (.lst ([V.int w]++((ZL hl.belts w).map fun i=>(hl.belts.getD i dB).taker).map V.int))) u=some (.lst ((w::(ZL hl.belts w).map fun i=>(hl.belts.getD i dB).taker).map V.int)):=Ze;generalize upd H' u (.lst ([V.int w]++((ZL hl.belts w).map fun i=>(hl.belts.getD i dB).taker).map V.int))=H4 at*;walk_at "rds";refine Rd.Zml (.of hu4) (by simp;omega) (fun x ms hx hp hm=>?_);have s04:=s1.trans (s2.trans (sm.trans s4));refine q x _ ms (ZK s04 hx) (s04.trans (Zo hx)) Ze ⟨hp,fun y=>?_⟩;rw[hm y,List.mem_cons,List.mem_map]
end
def Ug{K:PySem.W.Frag}{mg:Str→Option Value}(T:Tp K mg):Sp:=fun vs H Q E=>∃(p dx h t:Addr)(hl:HM)(fp:List Addr)(rs:List Int),vs=[.ref p,.ref h,.ref t]∧H p=some (.ins T.C_Course dx [])∧ZB T H h hl fp∧H t=some (.lst (rs.map V.int))∧rs.length=hl.names.length∧rs.length≤1000∧hl.belts.length≤60∧
 ∀(H':Hp),Wq T H' p hl.belts rs→(∀b o,H b=some o→b≠p→H' b=some o)→Q .non H'
theorem ZdQ{K:PySem.W.Frag}{mg:Str→Option Value}{T:Tp K mg}{H:Hp}{h t:Addr}{hl:HM}{fp:List Addr}{rs:List Int}{Q:Addr→Hp→Prop}{E:XK}(hh:ZB T H h hl fp)(ht:H t=some (.lst (rs.map V.int)))(hn:rs.length=hl.names.length)(hz:rs.length≤1000)(hb:hl.belts.length≤60)
  (q:∀(p:Addr)(H':Hp),Wq T H' p hl.belts rs→H p=none→Zd H H'→Q p H'):
  ∀x dx,H x=none→H dx=none→dx≠x→Ug T (.ref x::([.ref h,.ref t]++ [])) (upd (upd H dx (.own x)) x (.ins T.C_Course dx [])) (fun v H2=>v= .non∧Q x H2) E:=by
 intro x dx hx hdx ne;have sm:Zd H (upd (upd H dx (.own x)) x (.ins T.C_Course dx [])):=fun b o e=>by rw[Zg (Zm e hx),Zg (Zm e hdx)];exact e
 exact⟨x,dx,h,t,hl,fp,rs,rfl,Ze,hh.same sm,sm _ _ ht,hn,hz,hb,fun H' hc hk=>⟨rfl,q x H' hc hx (fun b o e=>hk b o (sm b o e) (Zm e hx))⟩⟩
section
variable {P:Program}{w:World}{K:PySem.W.Frag}{mg:Str→Option Value}{base:Heap}
theorem ZdP(T:Tp K mg):Zk P w K mg base (CXX P w) 7 T.f_Course_init T.d_Course_init ["self","hall","turns"] (Ug T):=by
 have G_takes_of:Zk P w K mg base (CXX P w) 6 T.f_takes_of T.d_takes_of ["hall","work"] (ZcJ T):=(Zgq T).mono (by decide);have G_gives_of:Zk P w K mg base (CXX P w) 6 T.f_gives_of T.d_gives_of ["hall","work"] (Zcx T):=(Zf4 T).mono (by decide);have G_touched_by:Zk P w K mg base (CXX P w) 6 T.f_touched_by T.d_touched_by ["hall","work"] (Zby T):=(ZeS T).mono (by decide);have G_Hall_belts:Zk P w K mg base (CXX P w) 6 T.f_Hall_belts T.d_Hall_belts ["self"] (YV T):=(Vx T).mono (by decide);have cl_Course:=T.cl_Course;have na_Course:=T.na_Course;have cl_Hall:=T.cl_Hall;have na_Hall:=T.na_Hall;refine T.F_Course_init.okX ZdZ (fun vs H Q E h=>?_) (fun cdv A outer s H vs Q E hr h=>?_)
 ·obtain⟨p,dx,h,t,hl,fp,rs,rfl,_⟩:=h
  rfl
 ·have hu:=hr.units;obtain⟨p,dx,ha,t,hl,fp,rs,rfl,hp,hh,ht,hn,hz,hbz,q⟩:=h;have nph:p∉fp:=by
   intro z;obtain⟨dx',a,b,bs,rfl,h1,h2,h3,h4,nab,h6⟩:=hh;simp only[List.mem_cons,List.not_mem_nil,or_false] at z;rcases z with rfl|rfl|rfl|rfl
   ·rw[h1] at hp
    injection hp with e
    injection e with e1 e2 e3
    cases e3
   ·rw[h2] at hp;cases hp
   ·rw[h3] at hp;cases hp
   ·rw[h4] at hp;cases hp
  have rsl:((rs.map V.int).length:Int)=rs.length:=by simp
  refine⟨_,(Zc (Ul (K:=K) rfl (pv 0) (WG (VC (K:=K) rfl) (by rfl) T.n_list PyProof.Rows.boot_list (Za (pv 2) Zb)) rfl)
     (Zc (Ul (K:=K) rfl (pv 0) (Uj (pv 1) T.cl_Hall T.M_Hall_belts G_Hall_belts hr T.b_Hall_belts .nil Zl) rfl)
     (Zc (Ul (K:=K) rfl (pv 0) (Va (xs:=["work"]) rfl (Yh (x:="work") (zs:=["hall"]) (ix:=[1]) (Zi YU) ["self","hall","turns"] rfl rfl (by decide+kernel)) (Z4 rfl T.n_range (Za (Zy (Ya (K:=K) rfl) (by rfl) T.n_len PySem.boot_len (Za (pv 2) Zb)) Zb)) (fun cl C s H fp=>⟨(Zp (i:=0) (show(["work","hall"]:List Str).Nodup by decide+kernel) rfl (Or.inl rfl)),Yg,(Zr G_takes_of hr rfl T.m_takes_of T.F_takes_of.kp T.b_takes_of .nil VZ (Za (pv 1) (Za (pv 0) Zb)))⟩)) rfl)
     (Zc (Ul (K:=K) rfl (pv 0) (Va (xs:=["work"]) rfl (Yh (x:="work") (zs:=["hall"]) (ix:=[1]) (Zi YU) ["self","hall","turns"] rfl rfl (by decide+kernel)) (Z4 rfl T.n_range (Za (Zy (Ya (K:=K) rfl) (by rfl) T.n_len PySem.boot_len (Za (pv 2) Zb)) Zb)) (fun cl C s H fp=>⟨(Zp (i:=0) (show(["work","hall"]:List Str).Nodup by decide+kernel) rfl (Or.inl rfl)),Yg,(Zr G_gives_of hr rfl T.m_gives_of T.F_gives_of.kp T.b_gives_of .nil VZ (Za (pv 1) (Za (pv 0) Zb)))⟩)) rfl)
     (Zh (Ul (K:=K) rfl (pv 0) (Va (xs:=["work"]) rfl (Yh (x:="work") (zs:=["hall"]) (ix:=[1]) (Zi YU) ["self","hall","turns"] rfl rfl (by decide+kernel)) (Z4 rfl T.n_range (Za (Zy (Ya (K:=K) rfl) (by rfl) T.n_len PySem.boot_len (Za (pv 2) Zb)) Zb)) (fun cl C s H fp=>⟨(Zp (i:=0) (show(["work","hall"]:List Str).Nodup by decide+kernel) rfl (Or.inl rfl)),Yg,(Zr G_touched_by hr rfl T.m_touched_by T.F_touched_by.kp T.b_touched_by .nil VZ (Za (pv 1) (Za (pv 0) Zb)))⟩)) rfl)))))),?_⟩
  try dsimp only[L2.cxX,L2.ZN,L2.Zn]
  walk_at "rds";refine Rd.Uo (.of ht) (fun a ha0=>?_);have npa:p≠a:=Zm hp ha0;have s1:Zd H (upd H a (.lst (rs.map V.int))):=Zo ha0;have ha1:(upd H a (.lst (rs.map V.int))) a=some (.lst (rs.map V.int)):=Ze;generalize upd H a (.lst (rs.map V.int))=H1 at*;have hp1:=s1 _ _ hp;walk_at "rds";have f1:ZH [p] H1 (upd H1 p (.ins T.C_Course dx [("turns",.ref a)])):=Yk (by simp) hp1 (by intro _ z;cases z);have f02:ZH [p] H (upd H1 p (.ins T.C_Course dx [("turns",.ref a)])):=s1.frame.trans f1;have hp2:(upd H1 p (.ins T.C_Course dx [("turns",.ref a)])) p=some (.ins T.C_Course dx [("turns",.ref a)]):=Ze;have ha2:=f1.keep _ _ ha1 (by simpa using npa.symm);generalize upd H1 p (.ins T.C_Course dx [("turns",.ref a)])=H2 at*;have ntp:t≠p:=Yw ht hp (by intro z;cases z);have hh2:=hh.off f02 (fun x hx z=>nph (by rw[←List.mem_singleton.mp z];exact hx));clear f1 hp1 ha1;walk_at "rds";intro b H3 bs hb0 s3 hb3 hT3;have hp3:=s3 _ _ hp2;have npb:p≠b:=Zm hp2 hb0;walk_at "rds";have f3:ZH [p] H3 (upd H3 p (.ins T.C_Course dx [("turns",.ref a),("rows",.ref b)])):=Yk (by simp) hp3 (by intro _ z;cases z);have f24:ZH [p] H2 (upd H3 p (.ins T.C_Course dx [("turns",.ref a),("rows",.ref b)])):=s3.frame.trans f3;have hp4:(upd H3 p (.ins T.C_Course dx [("turns",.ref a),("rows",.ref b)])) p=some (.ins T.C_Course dx [("turns",.ref a),("rows",.ref b)]):=Ze;have hb4:=f3.keep _ _ hb3 (by simpa using npb.symm);have hT4:=hT3.keep f3.tups;generalize upd H3 p (.ins T.C_Course dx [("turns",.ref a),("rows",.ref b)])=H4 at*;have f04:=f02.trans f24;have ht4:=f04.keep _ _ ht (by simpa using ntp);have hh4:=hh.off f04 (fun x hx z=>nph (by rw[←List.mem_singleton.mp z];exact hx));clear f3 hp3 hb3 hT3;walk_at "rds";refine YH (own:=1) VN.y (Zu (by rw[List.length_map];exact hz)) (fun i=>[some (.int (0+(i:Int)))]) (fun _=>rfl) (fun _=>true) (fun(i:Nat) v H2=>∃x,v=V.ref x∧∃vs,H4 x=none∧H2 x=some (.lst vs)∧Vv H2 (Ym hl.belts (0+(i:Int))) vs) (fun _ _ _ _ e ⟨x,z0,z1⟩=>⟨x,z0,(let⟨vs,a1,a2,a3⟩:=z1;⟨vs,a1,e _ _ a2,a3.keep fun _ _ z=>e _ _ z⟩)⟩) (fun i a' H' v H2 Kg hi sm y ha' k=>?_) (fun i H' Kc hi sm k=>?_) (fun pp i H' Kc hi hc hp0 hp1' sm k=>?_) (fun c H5 ys4 hc0 s5 hc5 hR4=>?_)
  ·obtain⟨rfl,rfl⟩:=y;obtain⟨x1,rfl⟩:∃x1,a'=[x1]:=by
    match a',ha' with
    | [x1],_=>exact⟨x1,rfl⟩
   walk_at "rds";exact k _ (Zd.refl _)
  ·walk_at "rds";exact k H' (Zd.refl H')
  ·have hi':i<rs.length:=by simpa using hi
   walk_at "rds";refine⟨ha,0+(i:Int),hl,fp,rfl,hh4.same sm,by omega,by omega,by omega,fun x H5 vs hx s5 hx5 hP=>?_⟩;exact k _ H5 s5 ⟨x,rfl,vs,ZK sm hx,Zfs hp1' hx hx5,hP.keep fun b xs z=>Zft hp1' s5 z⟩
  ·rw[List.filter_eq_self.mpr (by simp),List.length_map,Int.toNat_natCast] at hR4;obtain⟨ic,rfl,ilc,iPc⟩:=Zd2 hR4;have hp5:=s5 _ _ hp4;have npc:p≠c:=Zm hp4 hc0;have nic:∀x∈ic,x≠p:=fun x hx z=>by
    obtain⟨j,hj,e⟩:=List.getElem_of_mem hx;obtain⟨_,z0,_⟩:=iPc j (by omega);rw[Zx hj,e,z,hp4] at z0;cases z0
   walk_at "rds";have f5:ZH [p] H5 (upd H5 p (.ins T.C_Course dx [("turns",.ref a),("rows",.ref b),("takes",.ref c)])):=Yk (by simp) hp5 (by intro _ z;cases z);have f46:ZH [p] H4 (upd H5 p (.ins T.C_Course dx [("turns",.ref a),("rows",.ref b),("takes",.ref c)])):=s5.frame.trans f5;have hp6:(upd H5 p (.ins T.C_Course dx [("turns",.ref a),("rows",.ref b),("takes",.ref c)])) p=some (.ins T.C_Course dx [("turns",.ref a),("rows",.ref b),("takes",.ref c)]):=Ze;have hc6:=f5.keep _ _ hc5 (by simpa using npc.symm);have hLc:LL (upd H5 p (.ins T.C_Course dx [("turns",.ref a),("rows",.ref b),("takes",.ref c)])) ((List.range rs.length).map fun w:Nat=>Ym hl.belts w) ic:=by
    refine UJ (by simp[ilc]) fun j x y e1 e2=>?_;have hj:j<rs.length:=by have:=(List.getElem?_eq_some_iff.mp e2).1;omega
    obtain⟨vs,_,z1,z2⟩:=iPc j hj;rw[List.getElem?_map,List.getElem?_range hj] at e1;cases e1;have ey:ic.getD j 0=y:=by simp[List.getD,e2]
    rw[ey] at z1;rw[Int.zero_add] at z2;exact⟨vs,f5.keep _ _ (VD _ _ z1) (by simpa using nic y (List.mem_of_getElem? e2)),z2.keep fun b xs z=>f5.tups _ _ (VD _ _ z)⟩
   generalize upd H5 p (.ins T.C_Course dx [("turns",.ref a),("rows",.ref b),("takes",.ref c)])=H6 at*;have f06:=f04.trans f46;have ht6:=f06.keep _ _ ht (by simpa using ntp);have hh6:=hh.off f06 (fun x hx z=>nph (by rw[←List.mem_singleton.mp z];exact hx));clear f5 hp5 hc5 hR4;walk_at "rds";refine YH (own:=1) VN.y (Zu (by rw[List.length_map];exact hz)) (fun i=>[some (.int (0+(i:Int)))]) (fun _=>rfl) (fun _=>true) (fun(i:Nat) v H2=>∃x,v=V.ref x∧∃vs,H6 x=none∧H2 x=some (.lst vs)∧Vv H2 (U9 hl.belts (0+(i:Int))) vs) (fun _ _ _ _ e ⟨x,z0,z1⟩=>⟨x,z0,(let⟨vs,a1,a2,a3⟩:=z1;⟨vs,a1,e _ _ a2,a3.keep fun _ _ z=>e _ _ z⟩)⟩) (fun i a' H' v H2 Kg hi sm y ha' k=>?_) (fun i H' Kc hi sm k=>?_) (fun pp i H' Kc hi hc hp0 hp1' sm k=>?_) (fun d H7 ys6 hd0 s7 hd7 hR6=>?_)
   ·obtain⟨rfl,rfl⟩:=y;obtain⟨x1,rfl⟩:∃x1,a'=[x1]:=by
     match a',ha' with
     | [x1],_=>exact⟨x1,rfl⟩
    walk_at "rds";exact k _ (Zd.refl _)
   ·walk_at "rds";exact k H' (Zd.refl H')
   ·have hi':i<rs.length:=by simpa using hi
    walk_at "rds";refine⟨ha,0+(i:Int),hl,fp,rfl,hh6.same sm,by omega,by omega,by omega,fun x H5 vs hx s5 hx5 hP=>?_⟩;exact k _ H5 s5 ⟨x,rfl,vs,ZK sm hx,Zfs hp1' hx hx5,hP.keep fun b xs z=>Zft hp1' s5 z⟩
   ·rw[List.filter_eq_self.mpr (by simp),List.length_map,Int.toNat_natCast] at hR6;obtain⟨id,rfl,ild,iPd⟩:=Zd2 hR6;have hp7:=s7 _ _ hp6;have npd:p≠d:=Zm hp6 hd0;have nid:∀x∈id,x≠p:=fun x hx z=>by
     obtain⟨j,hj,e⟩:=List.getElem_of_mem hx;obtain⟨_,z0,_⟩:=iPd j (by omega);rw[Zx hj,e,z,hp6] at z0;cases z0
    walk_at "rds";have f7:ZH [p] H7 (upd H7 p (.ins T.C_Course dx [("turns",.ref a),("rows",.ref b),("takes",.ref c),("gives",.ref d)])):=Yk (by simp) hp7 (by intro _ z;cases z);have f68:ZH [p] H6 (upd H7 p (.ins T.C_Course dx [("turns",.ref a),("rows",.ref b),("takes",.ref c),("gives",.ref d)])):=s7.frame.trans f7;have hp8:(upd H7 p (.ins T.C_Course dx [("turns",.ref a),("rows",.ref b),("takes",.ref c),("gives",.ref d)])) p=some (.ins T.C_Course dx [("turns",.ref a),("rows",.ref b),("takes",.ref c),("gives",.ref d)]):=Ze;have hd8:=f7.keep _ _ hd7 (by simpa using npd.symm);have hLd:LL (upd H7 p (.ins T.C_Course dx [("turns",.ref a),("rows",.ref b),("takes",.ref c),("gives",.ref d)])) ((List.range rs.length).map fun w:Nat=>U9 hl.belts w) id:=by
     refine UJ (by simp[ild]) fun j x y e1 e2=>?_;have hj:j<rs.length:=by have:=(List.getElem?_eq_some_iff.mp e2).1;omega
     obtain⟨vs,_,z1,z2⟩:=iPd j hj;rw[List.getElem?_map,List.getElem?_range hj] at e1;cases e1;have ey:id.getD j 0=y:=by simp[List.getD,e2]
     rw[ey] at z1;rw[Int.zero_add] at z2;exact⟨vs,f7.keep _ _ (VD _ _ z1) (by simpa using nid y (List.mem_of_getElem? e2)),z2.keep fun b xs z=>f7.tups _ _ (VD _ _ z)⟩
    generalize upd H7 p (.ins T.C_Course dx [("turns",.ref a),("rows",.ref b),("takes",.ref c),("gives",.ref d)])=H8 at*;have f08:=f06.trans f68;have ht8:=f08.keep _ _ ht (by simpa using ntp);have hh8:=hh.off f08 (fun x hx z=>nph (by rw[←List.mem_singleton.mp z];exact hx));clear f7 hp7 hd7 hR6;walk_at "rds";refine YH (own:=1) VN.y (Zu (by rw[List.length_map];exact hz)) (fun i=>[some (.int (0+(i:Int)))]) (fun _=>rfl) (fun _=>true) (fun(i:Nat) v H2=>∃x,v=V.ref x∧∃ms:List Int,H8 x=none∧H2 x=some (.lst (ms.map V.int))∧Za0 hl.belts i ms) (fun _ _ _ _ e ⟨x,z0,z1⟩=>⟨x,z0,(let⟨vs,a1,a2,a3⟩:=z1;⟨vs,a1,e _ _ a2,a3⟩)⟩) (fun i a' H' v H2 Kg hi sm y ha' k=>?_) (fun i H' Kc hi sm k=>?_) (fun pp i H' Kc hi hc hp0 hp1' sm k=>?_) (fun e H9 ys8 he0 s9 he9 hR8=>?_)
    ·obtain⟨rfl,rfl⟩:=y;obtain⟨x1,rfl⟩:∃x1,a'=[x1]:=by
      match a',ha' with
      | [x1],_=>exact⟨x1,rfl⟩
     walk_at "rds";exact k _ (Zd.refl _)
    ·walk_at "rds";exact k H' (Zd.refl H')
    ·have hi':i<rs.length:=by simpa using hi
     walk_at "rds";refine⟨ha,0+(i:Int),hl,fp,rfl,hh8.same sm,by omega,by omega,by omega,fun x H5 ms hx s5 hx5 hP=>?_⟩;rw[Int.zero_add] at hP;exact k _ H5 s5 ⟨x,rfl,ms,ZK sm hx,Zfs hp1' hx hx5,hP⟩
    ·rw[List.filter_eq_self.mpr (by simp),List.length_map,Int.toNat_natCast] at hR8;obtain⟨ie,rfl,ile,iPe⟩:=Zd2 hR8;have hp9:=s9 _ _ hp8;have npe:p≠e:=Zm hp8 he0;have nie:∀x∈ie,x≠p:=fun x hx z=>by
      obtain⟨j,hj,e⟩:=List.getElem_of_mem hx;obtain⟨_,z0,_⟩:=iPe j (by omega);rw[Zx hj,e,z,hp8] at z0;cases z0
     walk_at "rds";have f9:ZH [p] H9 (upd H9 p (.ins T.C_Course dx [("turns",.ref a),("rows",.ref b),("takes",.ref c),("gives",.ref d),("touched",.ref e)])):=Yk (by simp) hp9 (by intro _ z;cases z);have f810:ZH [p] H8 (upd H9 p (.ins T.C_Course dx [("turns",.ref a),("rows",.ref b),("takes",.ref c),("gives",.ref d),("touched",.ref e)])):=s9.frame.trans f9;have hp10:(upd H9 p (.ins T.C_Course dx [("turns",.ref a),("rows",.ref b),("takes",.ref c),("gives",.ref d),("touched",.ref e)])) p=some (.ins T.C_Course dx [("turns",.ref a),("rows",.ref b),("takes",.ref c),("gives",.ref d),("touched",.ref e)]):=Ze;have he10:=f9.keep _ _ he9 (by simpa using npe.symm);have hLe:TL (upd H9 p (.ins T.C_Course dx [("turns",.ref a),("rows",.ref b),("takes",.ref c),("gives",.ref d),("touched",.ref e)])) hl.belts rs.length ie:=⟨ile,fun v hv=>by
      obtain⟨ms,_,z1,z2⟩:=iPe v hv;exact⟨ms,f9.keep _ _ (VD _ _ z1) (by rw[List.mem_singleton];exact nie _ (by rw[Zx (by omega)];exact List.getElem_mem _)),z2⟩⟩
     generalize upd H9 p (.ins T.C_Course dx [("turns",.ref a),("rows",.ref b),("takes",.ref c),("gives",.ref d),("touched",.ref e)])=H10 at*;have f010:=f08.trans f810;have ht10:=f010.keep _ _ ht (by simpa using ntp);have hh10:=hh.off f010 (fun x hx z=>nph (by rw[←List.mem_singleton.mp z];exact hx));clear f9 hp9 he9 hR8;have f28:=f24.trans (f46.trans f68);have f410:=f46.trans (f68.trans f810);have f610:=f68.trans f810;have kL:∀{Ha:Hp}{gs:List (List (Int×Int))}{is:List Addr},ZH [p] Ha H10→LL Ha gs is→(∀x∈is,x≠p)→LL H10 gs is:=fun{Ha gs is} f l n=>l.keep f.tups fun x hx=>by
      cases q:Ha x with
      |none=>exact absurd q (l.dom x hx)
      |some o=>exact f.keep _ _ q (by simpa using n x hx)
     refine q H10 ⟨dx,a,b,c,d,e,ic,id,ie,bs,hp10,(f24.trans f410).keep _ _ ha2 (by simpa using npa.symm),f410.keep _ _ hb4 (by simpa using npb.symm),hT4.keep f410.tups,f610.keep _ _ hc6 (by simpa using npc.symm),kL f610 hLc nic,f810.keep _ _ hd8 (by simpa using npd.symm),kL f810 hLd nid,he10,hLe⟩ (fun x o h1 h2=>f010.keep _ _ h1 (by simpa using h2))
end
def Zcv{K:PySem.W.Frag}{mg:Str→Option Value}(T:Tp K mg):Sp:=fun vs H Q E=>∃(p:Addr)(hl:HM)(fp:List Addr)(z:Int→Nat),vs=[.ref p]∧ZB T H p hl fp∧hl.names.length≤60∧hl.belts.length≤60∧ZM hl.belts hl.names.length∧Wa hl.belts∧VI hl.belts z∧(∀b∈hl.belts,0≤b.start)∧
 ∀(rs:List Int),Rts hl.belts hl.names.length z rs→(400<rs.sum→∀H',Zd H H'→E (.ref T.X_TooLong) none H')∧(rs.sum≤400→
 (∀(t r:Addr)(H':Hp)(ws:List Nat)(d:Nat→Nat),H r=none→Zd H H'→H' t=some (.tup [.ref r,.non])→H' r=some (.lst (ws.map fun w:Nat=>V.int w))→Fire.Ye (YZ hl.belts (ZD hl.belts) rs) (fun _=>0) ws d→(∀v<rs.length,d v=ZO rs v)→Q (.ref t) H')∧
 (∀(t u c g:Addr)(H':Hp)(ws:List Nat)(d:Nat→Nat)(ring:List Nat),H c=none→H g=none→Zd H H'→H' t=some (.tup [.non,.ref u])→H' u=some (.tup [.ref c,.ref g])→H' c=some (.lst ((W3 rs.length d).map V.int))→H' g=some (.lst (ring.map fun j:Nat=>V.int j))→Fire.Ye (YZ hl.belts (ZD hl.belts) rs) (fun _=>0) ws d→(∀w,¬Wv hl.belts (ZD hl.belts) rs d w)→(∃v<rs.length,d v<ZO rs v)→Zbm hl.belts rs (ZD hl.belts) (W3 rs.length d) ring→Q (.ref t) H'))
section
variable {P:Program}{w:World}{K:PySem.W.Frag}{mg:Str→Option Value}{base:Heap}
theorem Zf7(T:Tp K mg):Zk P w K mg base (CXX P w) 10 T.f_round_of T.d_round_of ["hall"] (Zcv T):=by
 have G_starts_of:Zk P w K mg base (CXX P w) 9 T.f_starts_of T.d_starts_of ["hall"] (ZbN T):=(Zfl T).mono (by decide);have G_round_rates:Zk P w K mg base (CXX P w) 9 T.f_round_rates T.d_round_rates ["hall"] (Za4 T):=(Zd1 T).mono (by decide);have G_Course_told_from:Zk P w K mg base (CXX P w) 9 T.f_Course_told_from T.d_Course_told_from ["self","starts"] (Ue T):=(Zbz T).mono (by decide);have G_Course_init:Zk P w K mg base (CXX P w) 8 T.f_Course_init T.d_Course_init ["self","hall","turns"] (Ug T):=(ZdP T).mono (by decide);have cl_Course:=T.cl_Course;have na_Course:=T.na_Course;refine T.F_round_of.okX Zf0 (fun vs H Q E h=>?_) (fun cdv A outer s H vs Q E hr h=>?_)
 ·obtain⟨p,hl,fp,z,rfl,_⟩:=h
  rfl
 ·have hu:=hr.units;obtain⟨p,hl,fp,z,rfl,hh,hn,hz,hbt,hsz,hwt,hs0,q⟩:=h;refine⟨_,(Zh (Zw (Yb (Zku T.mk_Course G_Course_init hr rfl T.g_Course T.b_Course_init .nil Zl (Za (pv 0) (Za (Zr G_round_rates hr rfl T.m_round_rates T.F_round_rates.kp T.b_round_rates .nil Zl (Za (pv 0) Zb)) Zb))) T.cl_Course T.M_Course_told_from G_Course_told_from hr T.b_Course_told_from .nil Zl (Za (Zr G_starts_of hr rfl T.m_starts_of T.F_starts_of.kp T.b_starts_of .nil Zl (Za (pv 0) Zb)) Zb)))),?_⟩
  try dsimp only[L2.cxX,L2.ZN,L2.Zn]
  walk_at "rds";refine⟨p,hl,fp,z,rfl,hh,hn,by omega,hbt,hsz,hwt,fun r H1 rs s1 hr hr1 hR=>⟨fun hle=>?_,fun hgt=>(q rs hR).1 hgt H1 s1⟩⟩;obtain⟨q1,q2⟩:=(q rs hR).2 hle;have hh1:=hh.same s1;have hrl:=hR.len;walk_at "rds";refine ZdQ hh1 hr1 hrl (by omega) hz (fun c H2 hc2 hc0 s2=>?_);have hh2:=hh1.same s2;walk_at "rds";refine⟨p,hl,fp,rfl,hh2,by omega,fun sa H3 hsa s3 hsa3=>?_⟩;have hc3:=hc2.same s3;have s13:=s1.trans (s2.trans s3);have htot:(tot rs:Int)=rs.sum:=Zcg fun r hr=>(by have:=hR.pos r hr;omega);have hst0:∀x∈ZD hl.belts,0≤x:=fun x hx=>by
   obtain⟨b,hb,rfl⟩:=List.mem_map.mp hx;exact hs0 b hb
  walk_at "rds";refine⟨c,sa,hl.belts,rs,ZD hl.belts,rfl,hc3,.of hsa3,by simp[ZD],by rw[hrl];exact hbt,hsz,hR.bal,by omega,by omega,hR.pos,hst0,by omega,fun t r2 H4 ws d hr2 s4 ht4 hr4 hrun hd=>?_,fun t u c2 g H4 ws d ring hc20 hg0 s4 ht4 hu4 hc4 hg4 hrun hst hex hring=>?_⟩
  ·exact q1 t r2 H4 ws d (ZK s13 hr2) (s13.trans s4) ht4 hr4 hrun hd
  ·exact q2 t u c2 g H4 ws d ring (ZK s13 hc20) (ZK s13 hg0) (s13.trans s4) ht4 hu4 hc4 hg4 hrun hst hex hring
end
def ZdL{K:PySem.W.Frag}{mg:Str→Option Value}(T:Tp K mg):Sp:=fun vs H Q _=>∃(a b:Addr)(w:Int)(bs:List V)(ls:List B5)(hs:List Int),vs=[.ref a,.ref b,.int w]∧SqL K H a bs∧Z8 H bs ls∧SqL K H b (hs.map V.int)∧hs.length=ls.length∧ls.length≤1000∧∀(r:Addr)(H':Hp),H r=none→Zd H H'→H' r=some (.lst ((Y7 ls hs w).map V.int))→Q (.ref r) H'
section
variable {P:Program}{w:World}{K:PySem.W.Frag}{mg:Str→Option Value}{base:Heap}
theorem ZhN(T:Tp K mg):Zk P w K mg base (CXX P w) 1 T.f_l_shift T.d_l_shift ["_law_lines_here","_law_heap","_law_work"] (ZdL T):=by
 refine T.F_l_shift.okX Zbc (fun vs H Q E h=>?_) (fun cdv A outer s H vs Q E hr h=>?_)
 ·obtain⟨a,b,w,bs,ls,hs,rfl,_⟩:=h
  rfl
 ·have hu:=hr.units;obtain⟨a,b,w,bs,ls,hs,rfl,ha,hT,hb,hl,hz,q⟩:=h;have hbl:=hT.length;have hsl:=Za8 (w:=w) hl;refine⟨_,(Zc (Zs (i:=3) Zbc.nd rfl (Or.inl rfl) (WG (VC (K:=K) rfl) (by rfl) T.n_list PyProof.Rows.boot_list (Za (pv 1) Zb)))
     (Zc (Z5 PassesOwn.leaving rfl (Z4 rfl T.n_range (Za (Zy (Ya (K:=K) rfl) (by rfl) T.n_len PySem.boot_len (Za (pv 0) Zb)) Zb)) (Zp (i:=4) Zbc.nd rfl (Or.inl rfl)) (Zc (Zal (ZW (ZC (Wc (K:=K) rfl hu) (Zj (Zq (K:=K) rfl) (Zj (Zq (K:=K) rfl) (pv 0) (pv 4) (fun _ _=>rfl)) Zf (fun _ _=>rfl)) (pv 2) (ZI _)) (Zh (Wg (Zv Zau (Zj (Zq (K:=K) rfl) (pv 3) (pv 4) (fun _ _=>rfl)) (Zj (Zq (K:=K) rfl) (Zj (Zq (K:=K) rfl) (pv 0) (pv 4) (fun _ _=>rfl)) Zf (fun _ _=>rfl))) (W7 (pv 3) (pv 4) WM))) ZJ))
     (Zh (ZW (ZC (Wc (K:=K) rfl hu) (Zj (Zq (K:=K) rfl) (Zj (Zq (K:=K) rfl) (pv 0) (pv 4) (fun _ _=>rfl)) Zf (fun _ _=>rfl)) (pv 2) (ZI _)) (Zh (Wg (Zv (Z6 (K:=K) rfl) (Zj (Zq (K:=K) rfl) (pv 3) (pv 4) (fun _ _=>rfl)) (Zj (Zq (K:=K) rfl) (Zj (Zq (K:=K) rfl) (pv 0) (pv 4) (fun _ _=>rfl)) Zf (fun _ _=>rfl))) (W7 (pv 3) (pv 4) WM))) ZJ))))
     (Zh (Zw (pv 3))))),?_⟩
  try dsimp only[L2.cxX,L2.ZN,L2.Zn]
  walk_at "rds";refine Rd.Uo hb (fun r hr=>?_);have s1:Zd H (upd H r (.lst (hs.map V.int))):=Zo hr;have hr1:(upd H r (.lst (hs.map V.int))) r=some (.lst (hs.map V.int)):=Ze;generalize upd H r (.lst (hs.map V.int))=H1 at*;have ha1:=s1.seq ha;walk_at "rds";refine YL (n:=((bs.length:Nat):Int).toNat) (fun i σ H'=>∃(us:List Int)(a1:Option V),σ=[some (.ref a),some (.ref b),some (.int w),some (.ref r),a1]∧Zd H H'∧H' r=some (.lst (us.map V.int))∧us.length=hs.length∧∀j<hs.length,us.getD j 0=if j<i then(Y7 ls hs w).getD j 0 else hs.getD j 0) ⟨hs,_,rfl,s1,hr1,rfl,fun j _=>by simp⟩ ?_ ?_
  ·rintro i σ H2 hi ⟨us,a1,rfl,s2,hr2,hul,hus⟩;have hil:i<ls.length:=by omega
   have ha2:=s2.seq ha;obtain⟨u,hu1,hu2⟩:=hT.at (List.getElem?_eq_getElem hil);have hu3:=s2 _ _ hu2;have at1:atI bs (i:Int)=some (.ref u):=YT hu1;have at2:=ZR (ns:=us) (k:=(i:Int)) (by omega) (by omega);have e0:=hus i (by omega);rw[if_neg (Nat.lt_irrefl _)] at e0;rw[Int.toNat_natCast,e0] at at2;have esh:(Y7 ls hs w).getD i 0=hs.getD i 0-(if ls[i].taker=w then ls[i].take else 0)+(if ls[i].giver=w then ls[i].give else 0):=by
    rw[Zx (show i<(Y7 ls hs w).length by omega),ZbX hil (by omega) (by omega),Zx (show i<hs.length by omega)]
   have hset:∀x,x=(Y7 ls hs w).getD i 0→∀j<hs.length,(us.set i x).getD j 0=if j<i+1 then(Y7 ls hs w).getD j 0 else hs.getD j 0:=fun x ex j hj=>by
    have hju:j<us.length:=by omega
    rw[Zx (by rw[List.length_set];exact hju),List.getElem_set]
    by_cases e:i=j
    ·subst e;rw[if_pos rfl,if_pos (Nat.lt_succ_self _),ex]
    ·rw[if_neg e,←Zx (d:=0) hju,hus j hj]
     by_cases z:j<i
     ·rw[if_pos z,if_pos (by omega)]
     ·rw[if_neg z,if_neg (by omega)]
   have il:(i:Int)<((us.map V.int).length:Int):=by simp;omega
   generalize ls[i]=bb at*;generalize hs.getD i 0=h0 at*;dsimp only[B5.v] at hu3;rw[Int.zero_add];walk_at "rds";refine Rd.cut (fun σ' H'=>σ'=[some (.ref a),some (.ref b),some (.int w),some (.ref r),some (.int i)]∧Zd H H'∧H' r=some (.lst ((us.set i (h0-(if bb.taker=w then bb.take else 0))).map V.int))) ?k1 ?i1
   case i1=>
    walk_at "rds";refine Rd.ifD (fun c=>?_) (fun c=>?_)
    ·walk_at "rds";refine⟨rfl,s2.new hr,?_⟩;rw[Ze,if_pos c,List.map_set,Int.toNat_natCast]
    ·walk_at "rds";refine⟨rfl,s2,?_⟩;have:us.set i (h0-0)=us:=by
      rw[Int.sub_zero,←e0,Zx (show i<us.length by omega)];exact List.set_getElem_self _
     rw[if_neg c,this];exact hr2
   case k1=>
   rintro σ' H3 ⟨rfl,s3,hr3⟩;have ha3:=s3.seq ha;have hu4:=s3 _ _ hu2;generalize h0-(if bb.taker=w then bb.take else 0)=h1 at*;have at3:=ZR (ns:=us.set i h1) (k:=(i:Int)) (by omega) (by rw[List.length_set];omega);rw[Int.toNat_natCast,Zx (show i<(us.set i h1).length by rw[List.length_set];omega),List.getElem_set_self] at at3;have il3:(i:Int)<(((us.set i h1).map V.int).length:Int):=by simp;omega
   dsimp only[B5.v] at hu4;walk_at "rds";refine Rd.ifD (fun c=>?_) (fun c=>?_)
   ·walk_at "rds";refine⟨us.set i (h1+bb.give),_,rfl,s3.new hr,?_,by rw[List.length_set];exact hul,hset _ (by rw[esh,if_pos c])⟩;rw[Ze,Int.toNat_natCast,←List.map_set,List.set_set]
   ·walk_at "rds";exact⟨us.set i h1,_,rfl,s3,hr3,by rw[List.length_set];exact hul,hset _ (by rw[esh,if_neg c,Int.add_zero])⟩
  ·rintro σ H2 ⟨us,a1,rfl,s2,hr2,hul,hus⟩;have eu:us=Y7 ls hs w:=by
    refine List.ext_getElem (by omega) fun j h1 h2=>?_;have:=hus j (by omega);rw[if_pos (by rw[Int.toNat_natCast];omega),Zx h1,Zx h2] at this;exact this
   rw[eu] at hr2;walk_at "rds";exact q r H2 hr s2 hr2
end
def ZdC{K:PySem.W.Frag}{mg:Str→Option Value}(T:Tp K mg):Sp:=fun vs H Q _=>∃(a b:Addr)(w:Int)(bs:List V)(ls:List B5)(hs:List Int),vs=[.ref a,.ref b,.int w]∧SqL K H a bs∧Z8 H bs ls∧SqL K H b (hs.map V.int)∧hs.length=ls.length∧ls.length≤1000∧Q (.bl (YX ls hs w)) H
section
variable {P:Program}{w:World}{K:PySem.W.Frag}{mg:Str→Option Value}{base:Heap}
theorem ZhK(T:Tp K mg):Zk P w K mg base (CXX P w) 1 T.f_l_ready T.d_l_ready ["_law_lines_here","_law_heap","_law_work"] (ZdC T):=by
 refine T.F_l_ready.okX ZdE (fun vs H Q E h=>?_) (fun cdv A outer s H vs Q E hr h=>?_)
 ·obtain⟨a,b,w,bs,ls,hs,rfl,_⟩:=h
  rfl
 ·have hu:=hr.units;obtain⟨a,b,w,bs,ls,hs,rfl,ha,hT,hb,hl,hz,q⟩:=h;have hbl:=hT.length;refine⟨_,(Zc (Z5 PassesOwn.leaving rfl (Z4 rfl T.n_range (Za (Zy (Ya (K:=K) rfl) (by rfl) T.n_len PySem.boot_len (Za (pv 0) Zb)) Zb)) (Zp (i:=3) ZdE.nd rfl (Or.inl rfl)) (Zh (ZW (PW.pt (ZbM (ZC (Wc (K:=K) rfl hu) (Zj (Zq (K:=K) rfl) (Zj (Zq (K:=K) rfl) (pv 0) (pv 3) (fun _ _=>rfl)) Zf (fun _ _=>rfl)) (pv 2) (ZI _)) (Za1 (ZC U7 (Zj (Zq (K:=K) rfl) (pv 1) (pv 3) (fun _ _=>rfl)) (Zj (Zq (K:=K) rfl) (Zj (Zq (K:=K) rfl) (pv 0) (pv 3) (fun _ _=>rfl)) Zf (fun _ _=>rfl)) (ZI _))))) (Zh (Zw Wf)) ZJ)))
     (Zh (Zw Wf))),?_⟩
  try dsimp only[L2.cxX,L2.ZN,L2.Zn]
  walk_at "rds";refine YL (n:=((bs.length:Nat):Int).toNat) (fun i σ H'=>H'=H∧(∃a1,σ=[some (.ref a),some (.ref b),some (.int w),a1])∧∀(j:Nat)(hj:j<ls.length),j<i→ls[j].taker=w→ls[j].take≤hs[j]'(by omega)) ⟨rfl,⟨_,rfl⟩,fun j _ h=>absurd h (Nat.not_lt_zero _)⟩ ?_ ?_
  ·rintro i σ H2 hi ⟨rfl,⟨a1,rfl⟩,hp⟩;have hil:i<ls.length:=by omega
   obtain⟨u,hu1,hu2⟩:=hT.at (List.getElem?_eq_getElem hil);have at1:atI bs (0+(i:Int))=some (.ref u):=by rw[Int.zero_add];exact YT hu1
   have at2:=ZR (ns:=hs) (k:=0+(i:Int)) (by omega) (by omega);rw[Int.zero_add,Int.toNat_natCast,Zx (show i<hs.length by omega)] at at2;rw[Int.zero_add] at at1;have hno:=fun(x:ls[i].taker=w) (y:hs[i]'(by omega)<ls[i].take)=>(show YX ls hs w=false by
    rw[←Bool.not_eq_true,VJ hl];intro z;have:=z i hil x;omega)
   have hst:(ls[i].taker=w→ls[i].take≤hs[i]'(by omega))→∀(j:Nat)(hj:j<ls.length),j<i+1→ls[j].taker=w→ls[j].take≤hs[j]'(by omega):=fun g j hj hji e=>by
    rcases Nat.lt_or_ge j i with z|z
    ·exact hp j hj z e
    ·obtain rfl:j=i:=by omega
     exact g e
   generalize ls[i]=bb at*;generalize hs[i]'(by omega)=hh at*;dsimp only[B5.v] at hu2;rw[Int.zero_add];walk_at "rds";refine Rd.ifD (fun c=>?_) (fun c=>?_)
   ·walk_at "rds";refine Rd.ifD (fun c2=>?_) (fun c2=>?_)
    ·rw[hno c c2] at q;walk_at "rds";exact q
    ·walk_at "rds";exact⟨rfl,⟨_,rfl⟩,hst fun _=>by omega⟩
   ·walk_at "rds";exact⟨rfl,⟨_,rfl⟩,hst fun z=>absurd z c⟩
  ·rintro σ H2 ⟨rfl,⟨a1,rfl⟩,hp⟩;have hr:YX ls hs w=true:=(VJ hl).mpr fun j hj e=>hp j hj (by rw[Int.toNat_natCast];omega) e;rw[hr] at q;walk_at "rds";exact q
end
def Zcz{K:PySem.W.Frag}{mg:Str→Option Value}(T:Tp K mg):Sp:=fun vs H Q _=>∃(rw_ a ra:Addr)(ws:List Nat)(d:Nat→Nat)(bs:List V)(ls:List B5)(rs:List Int),vs=[.ref rw_,.ref a,.ref ra]∧H rw_=some (.lst (ws.map fun w:Nat=>V.int w))∧SqL K H a bs∧Z8 H bs ls∧SqL K H ra (rs.map V.int)∧ls.length≤1000∧ZM ls rs.length∧rs.length≤60∧(∀r∈rs,1≤r)∧Zfz ls rs∧Fire.Ye (YZ ls (ZD ls) rs) (fun _=>0) ws d∧(∀v<rs.length,d v=ZO rs v)∧
 ∀H',Zd H H'→Q (.bl true) H'
section
variable {P:Program}{w:World}{K:PySem.W.Frag}{mg:Str→Option Value}{base:Heap}
theorem Zgm(T:Tp K mg):Zk P w K mg base (CXX P w) 2 T.f_l_walked T.d_l_walked ["_law_row","_law_lines_here","_law_rates_here"] (Zcz T):=by
 have G_l_shift:Zk P w K mg base (CXX P w) 1 T.f_l_shift T.d_l_shift ["_law_lines_here","_law_heap","_law_work"] (ZdL T):=(ZhN T).mono (by decide);have G_l_ready:Zk P w K mg base (CXX P w) 1 T.f_l_ready T.d_l_ready ["_law_lines_here","_law_heap","_law_work"] (ZdC T):=(ZhK T).mono (by decide);refine T.F_l_walked.okX WT (fun vs H Q E h=>?_) (fun cdv A outer s H vs Q E hr h=>?_)
 ·obtain⟨rw_,a,ra,ws,d,bs,ls,rs,rfl,_⟩:=h
  rfl
 ·have hu:=hr.units;obtain⟨rw_,a,ra,ws,d,bs,ls,rs,rfl,hrw,ha,hT,hra,hz,hbt,hn,hpos,hbal,hrun,hd,q⟩:=h;have hbl:=hT.length;have hsl:(ZD ls).length=ls.length:=by simp[ZD]
  have rl:((rs.map V.int).length:Int)=(rs.length:Int):=by simp
  have esum:=Zcg (rs:=rs) fun r hr=>(by have:=hpos r hr;omega);obtain⟨hle,hlen,hlt⟩:=Zbp (W0 hrun);have hws:ws.length=tot rs:=by
   rw[hlen];exact Nat.le_antisymm (Uh hle) (Uh fun v hv=>by rw[hd v hv];exact Nat.le_refl _)
  have hrwq:=SqL.of (K:=K) hrw;have elen:((ws.map fun w:Nat=>V.int w).length:Int)=(ws.length:Int):=by simp
  refine⟨_,(Zc (ZW (PW.pt (U0 (Wh (Yr (K:=K) rfl (Zy (Za9 (K:=K) rfl) (by rfl) T.n_isinstance PyProof.Rows.boot_isinstance (Za (pv 0) (Za (Um (v:= .ty "list") (by rfl) T.n_list PyProof.Rows.boot_list rfl) Zb))) (fun _=>rfl))) (V6 (ZC (UG (K:=K) rfl hu) (Zy (Ya (K:=K) rfl) (by rfl) T.n_len PySem.boot_len (Za (pv 0) Zb)) (Zy (ZhJ (K:=K) rfl rfl) (by rfl) T.n_sum PyProof.Rows.boot_sum (Za (pv 2) Zb)) (ZI _))))) (Zh (Zw Wf)) ZJ)
     (Zc (Zs (i:=3) WT.nd rfl (Or.inr rfl) (Vh rfl (Yh (x:="_law_line") (zs:=[]) (ix:=[]) (Zi WO) ["_law_row","_law_lines_here","_law_rates_here","_law_heap","_law_left","_law_work","_law_ready_here"] rfl rfl (by decide+kernel)) (Z0 (K:=K) rfl (pv 1)) (fun cl C s H fp=>⟨(Zp (i:=0) (show(["_law_line"]:List Str).Nodup by decide+kernel) rfl (Or.inl rfl)),Yg,(Zj (Zq (K:=K) rfl) (pv 0) Zf (fun _ _=>rfl))⟩)))
     (Zc (Zs (i:=4) WT.nd rfl (Or.inr rfl) (WG (VC (K:=K) rfl) (by rfl) T.n_list PyProof.Rows.boot_list (Za (pv 2) Zb)))
     (Zc (Z5 PassesOwn.leaving rfl (Z0 (K:=K) rfl (pv 0)) (Zp (i:=5) WT.nd rfl (Or.inl rfl)) (Zc (ZW (PW.pt (U0 (Wh (Yr (K:=K) rfl (Zy (Za9 (K:=K) rfl) (by rfl) T.n_isinstance PyProof.Rows.boot_isinstance (Za (pv 5) (Za (Um (v:= .ty "int") (by rfl) T.n_int PyProof.Rows.boot_int rfl) Zb))) (fun _=>rfl))) (V6 (Yr (K:=K) rfl (Zy (Za9 (K:=K) rfl) (by rfl) T.n_isinstance PyProof.Rows.boot_isinstance (Za (pv 5) (Za (Um (v:= .ty "bool") (by rfl) T.n_bool PyProof.Rows.boot_bool rfl) Zb))) (fun _=>rfl))))) (Zh (Zw Wf)) ZJ)
     (Zc (Zd4 (j:=6) rfl (Yh (x:="_law_one") (zs:=["_law_lines_here","_law_heap","_law_left"]) (ix:=[1,3,4]) (Zi WO) ["_law_row","_law_lines_here","_law_rates_here","_law_heap","_law_left","_law_work","_law_ready_here"] rfl rfl (by decide+kernel)) (Z4 rfl T.n_range (Za (Zy (Ya (K:=K) rfl) (by rfl) T.n_len PySem.boot_len (Za (pv 2) Zb)) Zb)) (fun cl C s H fp=>⟨(Zp (i:=0) (show(["_law_one","_law_lines_here","_law_heap","_law_left"]:List Str).Nodup by decide+kernel) rfl (Or.inl rfl)),(Zea (PW.pt (ZbM (ZC Zcm (Zj (Zq (K:=K) rfl) (pv 3) (pv 0) (fun _ _=>rfl)) Zf (ZI _)) (Za1 (Yr (K:=K) rfl (Zr G_l_ready hr rfl T.m_l_ready T.F_l_ready.kp T.b_l_ready .nil VZ (Za (pv 1) (Za (pv 2) (Za (pv 0) Zb)))) (fun _=>rfl)))))),(pv 0)⟩) WT.nd rfl (Or.inl rfl))
     (Zc (ZW (PW.pt (U0 (ZC (Wc (K:=K) rfl hu) (pv 6) (YC Zb) (ZI _)) (V6 (ZC (UG (K:=K) rfl hu) (pv 5) (Zj (Zq (K:=K) rfl) (pv 6) Zf (fun _ _=>rfl)) (ZI _))))) (Zh (Zw Wf)) ZJ)
     (Zc (Zs (i:=3) WT.nd rfl (Or.inr rfl) (Zr G_l_shift hr rfl T.m_l_shift T.F_l_shift.kp T.b_l_shift .nil Zl (Za (pv 1) (Za (pv 3) (Za (pv 5) Zb)))))
     (Zh (Wg (Zv Zau (Zj (Zq (K:=K) rfl) (pv 4) (pv 5) (fun _ _=>rfl)) Zf) (W7 (pv 4) (pv 5) WM))))))))
     (Zh (Zw (WE (Wc (K:=K) rfl hu) (pv 3) (Vh rfl (Yh (x:="_law_line") (zs:=[]) (ix:=[]) (Zi WO) ["_law_row","_law_lines_here","_law_rates_here","_law_heap","_law_left","_law_work","_law_ready_here"] rfl rfl (by decide+kernel)) (Z0 (K:=K) rfl (pv 1)) (fun cl C s H fp=>⟨(Zp (i:=0) (show(["_law_line"]:List Str).Nodup by decide+kernel) rfl (Or.inl rfl)),Yg,(Zj (Zq (K:=K) rfl) (pv 0) Zf (fun _ _=>rfl))⟩)) (ZI _)))))))),?_⟩
  try dsimp only[L2.cxX,L2.ZN,L2.Zn]
  walk_at "rds";refine Rd.Zi5 hra ?_;rw[←esum,elen];walk_at "rds";refine YA (ZT ha) (Zu (by omega)) (fun _=>true) (fun i=> .int (ls.getD i dB).start) (fun i H' Kc hi sm k=>?_) (fun i H' Kc hi _ sm k=>?_) (fun hp H1 hhp s1 hhp1=>?_)
  ·walk_at "rds";exact k H' (Zd.refl H')
  ·obtain⟨t,ht1,ht2⟩:=hT.getD (i:=i) (by omega);rw[ht1];have ht3:=sm _ _ ht2;generalize ls.getD i dB=bb at*;dsimp only[B5.v] at ht3;walk_at "rds";exact k H' (Zd.refl H')
  have e0:Wr ls (ZD ls) (fun _=>0)=ZD ls:=by
   refine List.ext_getElem (by rw[Yd hsl,hsl]) fun j a1 a2=>?_;rw[WS hsl (by omega)];unfold Fire.lie fB;simp
  have el0:ZV rs (fun _=>0)=rs:=by
   refine List.ext_getElem (by simp[ZV]) fun v a1 a2=>?_;have:=hpos rs[v] (List.getElem_mem a2);simp[ZV,ZO,List.getD,a2];omega
  have hhp2:H1 hp=some (.lst ((Wr ls (ZD ls) (fun _=>0)).map V.int)):=by
   rw[hhp1,List.filter_eq_self.mpr (by simp),e0];refine congrArg (fun z=>some (HO.lst z)) ?_;unfold ZD;rw[hbl];refine List.ext_getElem (by simp) fun i h1 h2=>?_;have:i<ls.length:=by simpa using h1
   simp[List.getD,this]
  have hra1:=s1.seq hra;walk_at "rds";refine Rd.Uo hra1 (fun lf hlf=>?_);have s2:Zd H1 (upd H1 lf (.lst (rs.map V.int))):=Zo hlf;have hlf2:(upd H1 lf (.lst (rs.map V.int))) lf=some (.lst ((ZV rs (fun _=>0)).map V.int)):=by rw[Ze,el0]
  generalize upd H1 lf (.lst (rs.map V.int))=H2 at*;have s02:=s1.trans s2;have hlf0:H lf=none:=ZK s1 hlf;have nhl:hp≠lf:=Zm hhp2 hlf;have hrw2:=s02 _ _ hrw;walk_at "rds";refine WN (ZT hrwq) (fun i σ H'=>∃(hq:Addr)(e:Nat→Nat)(a1 a2:Option V),σ=[some (.ref rw_),some (.ref a),some (.ref ra),some (.ref hq),some (.ref lf),a1,a2]∧Zd H H'∧H' hq=some (.lst ((Wr ls (ZD ls) e).map V.int))∧H' lf=some (.lst ((ZV rs e).map V.int))∧Fire.Ye (YZ ls (ZD ls) rs) (fun _=>0) (ws.take i) e∧Fire.Ye (YZ ls (ZD ls) rs) e (ws.drop i) d) ⟨hp,fun _=>0,_,_,rfl,s02,s2 _ _ hhp2,hlf2,.nil _,hrun⟩ (fun i σ H' h=>(let⟨_,_,_,_,_,s,_⟩:=h;s)) ?_ ?_
  ·rintro i σ H3 hi ⟨hq,e,a1,a2,rfl,s3,hhq3,hlf3,hr1,hr2⟩;have hi':i<ws.length:=by simpa using hi
   have ev:(ws.map fun w:Nat=>V.int w).getD i .non= .int (ws[i]:Nat):=by simp[List.getD,hi']
   rw[ev];rw[List.drop_eq_getElem_cons hi'] at hr2;have etk:=List.take_succ_eq_append_getElem hi';obtain⟨hf,hr3⟩:YZ ls (ZD ls) rs e ws[i]∧Fire.Ye (YZ ls (ZD ls) rs) (Fire.bump e ws[i]) (ws.drop (i+1)) d:=by
    cases hr2 with
    |cons r h=>exact⟨r,h⟩
   have hr4:=hr1.snoc hf;rw[←etk] at hr4;generalize ws[i]=w at*;have hwn:w<rs.length:=hf.1.1;have hhd:=ZgZ hsl hbt hf;have ha3:=s3.seq ha;have hT3:=hT.keep (fun b xs e=>s3 _ _ e);have hra3:=s3.seq hra;have hln:=Yd (d:=e) hsl;walk_at "rds";refine YA VN (Zu (by rw[rl];omega)) (fun v=>YW ls (ZD ls) rs e v) (fun v=> .int (v:Int)) (fun v H' Kc hv sm k=>?_) (fun v H' Kc hv _ sm k=>?_) (fun ry H4 hry s4 hry4=>?_)
   ·have hv':v<rs.length:=by omega
    have at1:=ZR (ns:=ZV rs e) (k:=0+(v:Int)) (by omega) (by rw[VH];omega);rw[Int.zero_add,Int.toNat_natCast,Zc5 hv'] at at1;have hd':=sm _ _ hlf3;rw[Int.zero_add];have em:YW ls (ZD ls) rs e v=(decide (0<(ZO rs v:Int)-(e v:Int))&&YX ls (Wr ls (ZD ls) e) v):=by
     unfold YW
     congr 1
     rw[decide_eq_decide];omega
    rw[em] at k;walk_at "rds";refine Vl (fun c=>?_) (fun c=>?_)
    ·rw[c,Bool.true_and] at k;walk_at "rds";refine⟨a,hq,(v:Int),bs,ls,_,rfl,sm.seq ha3,hT3.keep (fun b xs e=>sm _ _ e),.of (sm _ _ hhq3),hln,hz,?_⟩;walk_at "rds";exact k H' (Zd.refl H')
    ·rw[Bool.not_eq_true] at c;rw[c,Bool.false_and] at k;walk_at "rds";exact k H' (Zd.refl H')
   ·rw[Int.zero_add];walk_at "rds";exact k H' (Zd.refl H')
   ·have ery:H4 ry=some (.lst ((mayL ls (ZD ls) rs e).map V.int)):=by
     rw[hry4];unfold mayL;rw[rl,Int.toNat_natCast,List.map_map]
     rfl
    generalize mayL ls (ZD ls) rs e=ms at*;have hmn:ms≠[]:=fun z=>by rw[z] at hhd;cases hhd
    have at3:atI (ms.map V.int) 0=some (.int (w:Int)):=YT (j:=0) (by rw[List.getElem?_map,hhd];rfl);have s34:=s3.trans s4;have hlf4:=s4 _ _ hlf3;have hhq4:=s4 _ _ hhq3;walk_at "rds";refine⟨Nat.zero_le _,fun o ho=>?_⟩;have s5:Zd H4 (upd H4 o (.lst [])):=Zo ho;have ho5:(upd H4 o (.lst [])) o=some (.lst []):=Ze;generalize upd H4 o (.lst [])=H5 at*;have ery5:=s5 _ _ ery;have hlf5:=s5 _ _ hlf4;have hhq5:=s5 _ _ hhq4;have s35:=s34.trans s5;have ha5:=s35.seq ha;refine Rd.Zi8 (Wy.ints (SqL.of ery5)) (.lst (SqL.of ho5) .nil) (Zaz _) rfl (ZcB _) ?_;rw[Ze6,decide_eq_false hmn];walk_at "rds";refine⟨a,hq,(w:Int),bs,ls,_,rfl,ha5,hT.keep (fun b xs e=>s35 _ _ e),.of hhq5,hln,hz,fun hr H6 hhr s6 hhr6=>?_⟩;rw[Zew hsl hbt] at hhr6;have hlf6:=s6 _ _ hlf5;have nrl:hr≠lf:=fun z=>by rw[z,hlf5] at hhr;cases hhr
    have at4:=ZR (ns:=ZV rs e) (k:=(w:Int)) (by omega) (by rw[VH];omega);have wl:(w:Int)<(((ZV rs e).map V.int).length:Int):=by rw[List.length_map,VH];omega
    walk_at "rds";refine⟨hr,Fire.bump e w,_,_,rfl,(s35.trans s6).new hlf0,by rw[Zg nrl];exact hhr6,?_,hr4,hr3⟩;rw[Ze,Int.toNat_natCast,←Zdt hwn,List.map_set]
  ·rintro σ H3 ⟨hq,e,a1,a2,rfl,s3,hhq3,hlf3,hr1,hr2⟩;rw[List.length_map,List.drop_length] at hr2;have ee:e=d:=by cases hr2;rfl
   subst ee;rw[Zg6 hpos hbt hbal hd] at hhq3;have ha3:=s3.seq ha;have hT3:=hT.keep (fun b xs e=>s3 _ _ e);walk_at "rds";refine YA (ZT ha3) (Zu (by omega)) (fun _=>true) (fun i=> .int (ls.getD i dB).start) (fun i H' Kc hi sm k=>?_) (fun i H' Kc hi _ sm k=>?_) (fun st H4 hst s4 hst4=>?_)
   ·walk_at "rds";exact k H' (Zd.refl H')
   ·obtain⟨t,ht1,ht2⟩:=hT3.getD (i:=i) (by omega);rw[ht1];have ht3:=sm _ _ ht2;generalize ls.getD i dB=bb at*;dsimp only[B5.v] at ht3;walk_at "rds";exact k H' (Zd.refl H')
   have est:H4 st=some (.lst ((ZD ls).map V.int)):=by
    rw[hst4,List.filter_eq_self.mpr (by simp),hbl];refine congrArg (fun z=>some (HO.lst z)) ?_;unfold ZD;refine List.ext_getElem (by simp) fun i h1 h2=>?_;have:i<ls.length:=by simpa using h1
    simp[List.getD,this]
   refine Rd.Zid (SqL.of (s4 _ _ hhq3)) (SqL.of est) ?_;walk_at "rds";exact q H4 (s3.trans s4)
end
def Zeh{K:PySem.W.Frag}{mg:Str→Option Value}(T:Tp K mg):Sp:=fun vs H Q _=>∃(hp q ra:Addr)(en:Bool)(hl:HM)(fp:List Addr)(bs:List V)(rl:List Int)(z:Int→Nat),vs=[.ref hp,.ref q,.ref ra,.bl en]∧ZB T H hp hl fp∧H q=some (.lst bs)∧Z8 H bs hl.belts∧H ra=some (.lst (rl.map V.int))∧ZeY hl.belts hl.names.length z rl∧(en=true→Zcj hl.belts rl)∧
 ∀H',Zd H H'→Q (.bl true) H'
section
variable {P:Program}{w:World}{K:PySem.W.Frag}{mg:Str→Option Value}{base:Heap}
theorem ZiF(T:Tp K mg):Zk P w K mg base (CXX P w) 11 T.f_l_told T.d_l_told ["_law_hall","_law_lines_here","_law_rates_here","_law_enough"] (Zeh T):=by
 have G_round_of:Zk P w K mg base (CXX P w) 10 T.f_round_of T.d_round_of ["hall"] (Zcv T):=(Zf7 T).mono (by decide);have G_l_walked:Zk P w K mg base (CXX P w) 10 T.f_l_walked T.d_l_walked ["_law_row","_law_lines_here","_law_rates_here"] (Zcz T):=(Zgm T).mono (by decide);refine T.F_l_told.okX Zcb (fun vs H Q E h=>?_) (fun cdv A outer s H vs Q E hr h=>?_)
 ·obtain⟨hp,q,ra,en,hl,fp,bs,rl,z,rfl,_⟩:=h
  rfl
 ·have hu:=hr.units;obtain⟨hp,q,ra,en,⟨nms,ls⟩,fp,bs,rl,z,rfl,hh,hq,hT,hra,hok,hen,qq⟩:=h;dsimp only at hT hok hen;refine⟨_,(Zc (Zs (i:=4) Zcb.nd rfl (Or.inl rfl) (Zr G_round_of hr rfl T.m_round_of T.F_round_of.kp T.b_round_of .nil Zl (Za (pv 0) Zb)))
     (Zc (ZW (PW.pt (U0 (Wh (Yr (K:=K) rfl (Zy (Za9 (K:=K) rfl) (by rfl) T.n_isinstance PyProof.Rows.boot_isinstance (Za (pv 4) (Za (Um (v:= .ty "tuple") (by rfl) T.n_tuple PyProof.Rows.boot_tuple rfl) Zb))) (fun _=>rfl))) (V6 (ZC (UG (K:=K) rfl hu) (Zy (Ya (K:=K) rfl) (by rfl) T.n_len PySem.boot_len (Za (pv 4) Zb)) Zf (ZI _))))) (Zh (Zw Wf)) ZJ)
     (Zc (ZW (ZC ZbH (Zj (Zq (K:=K) rfl) (pv 4) Zf (fun _ _=>rfl)) WR (ZI _)) (Zh (Zw (Ziu (pv 3)))) ZJ)
     (Zc (ZW (PW.pt (U0 (ZC ZkJ (Zj (Zq (K:=K) rfl) (pv 4) Zf (fun _ _=>rfl)) WR (ZI _)) (V6 (Wh (Yr (K:=K) rfl (Zr G_l_walked hr rfl T.m_l_walked T.F_l_walked.kp T.b_l_walked .nil Zl (Za (Zj (Zq (K:=K) rfl) (pv 4) Zf (fun _ _=>rfl)) (Za (pv 1) (Za (pv 2) Zb)))) (fun _=>rfl)))))) (Zh (Zw Wf)) ZJ)
     (Zc (Zs (i:=5) Zcb.nd rfl (Or.inl rfl) (WG (VC (K:=K) rfl) (by rfl) T.n_list PyProof.Rows.boot_list (Za (Zj (Zq (K:=K) rfl) (pv 4) Zf (fun _ _=>rfl)) Zb)))
     (Zc (ZX (Yt (K:=K) rfl PySem.F.plainAttrs_list PySem.F.slot_list_append PySem.F.type_list_append Yc (Zj (Zq (K:=K) rfl) (pv 4) Zf (fun _ _=>rfl)) (Za Zf Zb)))
     (Zh (Zw (WE (Wc (K:=K) rfl hu) (Zj (Zq (K:=K) rfl) (Zr G_round_of hr rfl T.m_round_of T.F_round_of.kp T.b_round_of .nil Zl (Za (pv 0) Zb)) Zf (fun _ _=>rfl)) (pv 5) (ZI _)))))))))),?_⟩
  try dsimp only[L2.cxX,L2.ZN,L2.Zn]
  walk_at "rds";refine⟨hp,⟨nms,ls⟩,fp,z,rfl,hh,hok.nn,hok.le,hok.bt,hok.sz,hok.wt,hok.st,fun rs hRt=>?_⟩;dsimp only at hRt;obtain rfl:=hok.uq rs hRt;have hsum:=hok.sum;have hrl:=hRt.len;refine⟨fun z=>by omega,fun _=>⟨fun t r H8 ws d hr0 s8 ht8 hr8 hrun hd=>?_,fun t u c g H8 ws d ring hc0 hg0 s8 ht8 hu8 hc8 hg8 hrun hst hex hring=>?_⟩⟩
  ·dsimp only at hrun;have hst1:∀w,¬Wv ls (ZD ls) rs d w:=fun w z=>by have:=hd w z.1;have:=z.2.1;omega
   have hq8:=s8 _ _ hq;have hT8:=hT.keep (fun b xs e=>s8 _ _ e);have hra8:=s8 _ _ hra;walk_at "rds";refine⟨rfl,?_⟩;walk_at "rds";refine⟨rfl,?_⟩;walk_at "rds";refine⟨r,q,ra,ws,d,bs,ls,rs,rfl,hr8,.of hq8,hT8,.of hra8,by have:=hok.le;omega,by rw[hrl];exact hok.bt,by have:=hok.nn;omega,hRt.pos,hRt.bal,hrun,hd,fun H9 s9=>?_⟩;have ht9:=s9 _ _ ht8;have hr9:=s9 _ _ hr8;have s09:=s8.trans s9;have hwl:=(Zbp (W0 hrun)).2.2;have htot:(tot rs:Int)=rs.sum:=Zcg fun r hr=>(by have:=hRt.pos r hr;omega);have hwz:(ws.map fun w:Nat=>V.int w).length<sizeLine:=Zu (by rw[List.length_map];omega);walk_at "rds";refine Rd.Uo (SqL.of hr9) (fun kp hkp=>?_);have s10:Zd H9 (upd H9 kp (.lst (ws.map fun w:Nat=>V.int w))):=Zo hkp;have hkp10:(upd H9 kp (.lst (ws.map fun w:Nat=>V.int w))) kp=some (.lst (ws.map fun w:Nat=>V.int w)):=Ze;have nkr:kp≠r:=(Zm hr9 hkp).symm;generalize upd H9 kp (.lst (ws.map fun w:Nat=>V.int w))=H10 at*;have hr10:=s10 _ _ hr9;have ht10:=s10 _ _ ht9;walk_at "rds";have s011:Zd H (upd H10 r (.lst ((ws.map fun w:Nat=>V.int w)++ [.int 0]))):=(s09.trans s10).new hr0;have hkp11:(upd H10 r (.lst ((ws.map fun w:Nat=>V.int w)++ [.int 0]))) kp=some (.lst (ws.map fun w:Nat=>V.int w)):=by rw[Zg nkr];exact hkp10
   generalize upd H10 r (.lst ((ws.map fun w:Nat=>V.int w)++ [.int 0]))=H11 at*;walk_at "rds";refine⟨hp,⟨nms,ls⟩,fp,z,rfl,hh.same s011,hok.nn,hok.le,hok.bt,hok.sz,hok.wt,hok.st,fun rs2 hRt2=>?_⟩;dsimp only at hRt2;obtain rfl:rs=rs2:=(hok.uq rs2 hRt2).symm;refine⟨fun z=>by omega,fun _=>⟨fun t2 r2 H12 ws2 d2 hr20 s12 ht12 hr12 hrun2 hd2=>?_,fun t2 u c g H12 ws2 d2 ring hc0 hg0 s12 ht12 hu12 hc12 hg12 hrun2 hst2 hex2 hring=>?_⟩⟩
   ·dsimp only at hrun2;obtain rfl:ws=ws2:=ZhX hrun hst1 (fun w z=>by have:=hd2 w z.1;have:=z.2.1;omega) hrun2;have hkp12:H12 kp=some (.lst ((ws.map fun w:Nat=>(w:Int)).map V.int)):=by rw[List.map_map];exact s12 _ _ hkp11
    have hr12':H12 r2=some (.lst ((ws.map fun w:Nat=>(w:Int)).map V.int)):=by rw[List.map_map];exact hr12
    walk_at "rds";refine Rd.Zid (SqL.of hr12') (SqL.of hkp12) ?_;walk_at "rds";exact qq H12 (s011.trans s12)
   ·exfalso;dsimp only at hrun2;have ed:d2=d:=Fire.Ye.one (Fire.Zjb fun b hb=>by
     obtain⟨j,hj,rfl⟩:=Zcp (by simp[ZD]) hb;obtain⟨gv,tk,g0,_,_,_,eg,_⟩:=hok.sz j hj;rw[Zx hj] at eg;show 0≤ls[j].give;omega) (W0 hrun2) hst2 (W0 hrun) hst1
    subst ed;obtain⟨v,hv,hlt⟩:=hex2;have:=hd v hv;omega
  ·walk_at "rds";refine⟨rfl,?_⟩;walk_at "rds";have e:en=false:=by
    cases en with
    |false=>rfl
    |true=>
     obtain⟨v,hv,hlt⟩:=hex;exact absurd (Zhm (hen rfl) hv hlt) (hst v)
   subst e;exact qq H8 s8
end
def ZeA{K:PySem.W.Frag}{mg:Str→Option Value}(T:Tp K mg):Sp:=fun vs H Q _=>∃(p a:Addr)(ns ss:List Int),vs=[.ref p,.ref a]∧SqL K H p (ns.map V.int)∧SqL K H a (ss.map V.int)∧WU ss∧0<ss.length∧ss.length≤30∧
 ∀(r:Addr)(H':Hp)(bs:List V)(ls:List B5),H r=none→Zd H H'→H' r=some (.lst bs)→YB H' bs ls→ls.length+1=ss.length→(∀l∈ls,W4 ss l)→Q (.ref r) H'
section
variable {P:Program}{w:World}{K:PySem.W.Frag}{mg:Str→Option Value}{base:Heap}
theorem ZiK(T:Tp K mg):Zk P w K mg base (CXX P w) 3 T.f_l_long T.d_l_long ["_law_script","_law_sizes"] (ZeA T):=by
 have G_l_mixed:Zk P w K mg base (CXX P w) 2 T.f_l_mixed T.d_l_mixed ["_law_script","_law_k"] (WH T):=(UX T).mono (by decide);have G_l_divisor:Zk P w K mg base (CXX P w) 2 T.f_l_divisor T.d_l_divisor ["_law_one","_law_other"] (VU T):=(Zao T).mono (by decide);refine T.F_l_long.okX Y5 (fun vs H Q E h=>?_) (fun cdv A outer s H vs Q E hr h=>?_)
 ·obtain⟨p,a,ns,ss,rfl,_⟩:=h
  rfl
 ·have hu:=hr.units;obtain⟨p,a,ns,ss,rfl,hS,hA,hss,n0,n1,q⟩:=h;have hsl:((ss.map V.int).length:Int)=(ss.length:Int):=by simp
  refine⟨_,(Zc (Zs (i:=2) Y5.nd rfl (Or.inl rfl) (YC Zb))
     (Zc (Z5 PassesOwn.leaving rfl (Z4 rfl T.n_range (Za (Zy (Ya (K:=K) rfl) (by rfl) T.n_len PySem.boot_len (Za (pv 1) Zb)) Zb)) (Zp (i:=3) Y5.nd rfl (Or.inl rfl)) (Zh (ZX (Yt (K:=K) rfl PySem.F.plainAttrs_list PySem.F.slot_list_insert PySem.F.type_list_insert Zet (pv 2) (Za (Zv Yi (Zv Z3 (Zr G_l_mixed hr rfl T.m_l_mixed T.F_l_mixed.kp T.b_l_mixed .nil Zl (Za (pv 0) (Za (Zv (Z6 (K:=K) rfl) Zf (pv 3)) Zb))) Zf) (Zv (Z6 (K:=K) rfl) (pv 3) Zf)) (Za (pv 3) Zb))))))
     (Zc (Zs (i:=4) Y5.nd rfl (Or.inl rfl) (YC Zb))
     (Zc (Z5 PassesOwn.leaving rfl (Z4 rfl T.n_range (Za (Zv Zau (Zy (Ya (K:=K) rfl) (by rfl) T.n_len PySem.boot_len (Za (pv 1) Zb)) Zf) Zb)) (Zp (i:=3) Y5.nd rfl (Or.inl rfl)) (Zc (Zs (i:=5) Y5.nd rfl (Or.inl rfl) (Zr G_l_mixed hr rfl T.m_l_mixed T.F_l_mixed.kp T.b_l_mixed .nil Zl (Za (pv 0) (Za (Zv (Z6 (K:=K) rfl) Zf (pv 3)) Zb))))
     (Zc (Wg (Zj (Zq (K:=K) rfl) (YC (Za (Yv (Za (Zj (Zq (K:=K) rfl) (pv 2) (pv 3) (fun _ _=>rfl)) (Za (Zj (Zq (K:=K) rfl) (pv 2) (Zv (Z6 (K:=K) rfl) (pv 3) Zf) (fun _ _=>rfl)) Zb))) (Za (Yv (Za (Zj (Zq (K:=K) rfl) (pv 2) (Zv (Z6 (K:=K) rfl) (pv 3) Zf) (fun _ _=>rfl)) (Za (Zj (Zq (K:=K) rfl) (pv 2) (pv 3) (fun _ _=>rfl)) Zb))) Zb))) (Zv Yi (Zv Z3 (pv 5) Zf) Zf) (fun _ _=>rfl)) (YF (K:=K) (n:=2) rfl rfl (ZE (Zp (i:=6) Y5.nd rfl (Or.inl rfl)) (ZE (Zp (i:=7) Y5.nd rfl (Or.inl rfl)) YD))))
     (Zc (Zs (i:=8) Y5.nd rfl (Or.inl rfl) (Zr G_l_divisor hr rfl T.m_l_divisor T.F_l_divisor.kp T.b_l_divisor .nil Zl (Za (Zj (Zq (K:=K) rfl) (pv 1) (pv 6) (fun _ _=>rfl)) (Za (Zj (Zq (K:=K) rfl) (pv 1) (pv 7) (fun _ _=>rfl)) Zb))))
     (Zc (Zs (i:=9) Y5.nd rfl (Or.inl rfl) (Zj (Zq (K:=K) rfl) (YC (Za Zf (Za (Zv Yi (Zv Z3 (pv 5) Zf) (Zv (Z6 (K:=K) rfl) (Zy (Ya (K:=K) rfl) (by rfl) T.n_len PySem.boot_len (Za (pv 4) Zb)) Zf)) Zb))) (Zv Yi (Zr G_l_mixed hr rfl T.m_l_mixed T.F_l_mixed.kp T.b_l_mixed .nil Zl (Za (pv 0) (Za Zf Zb))) Zf) (fun _ _=>rfl)))
     (Zh (ZX (Yt (K:=K) rfl PySem.F.plainAttrs_list PySem.F.slot_list_insert PySem.F.type_list_insert Zet (pv 4) (Za (pv 9) (Za (Yv (Za (pv 6) (Za (pv 7) (Za (Zv Z3 (Zj (Zq (K:=K) rfl) (pv 1) (pv 7) (fun _ _=>rfl)) (pv 8)) (Za (Zv Z3 (Zj (Zq (K:=K) rfl) (pv 1) (pv 6) (fun _ _=>rfl)) (pv 8)) Zb))))) Zb))))))))))
     (Zh (Zw (pv 4))))))),?_⟩
  try dsimp only[L2.cxX,L2.ZN,L2.Zn]
  walk_at "rds";refine⟨Nat.zero_le _,fun o ho=>?_⟩;have s1:Zd H (upd H o (.lst [])):=Zo ho;have ho1:(upd H o (.lst [])) o=some (.lst (([]:List Int).map V.int)):=Ze;generalize upd H o (.lst [])=H1 at*;have hA1:=s1.seq hA;walk_at "rds";refine YL (n:=((ss.map V.int).length:Int).toNat) (fun i σ H'=>∃(os:List Int)(a1:Option V),σ=[some (.ref p),some (.ref a),some (.ref o),a1,none,none,none,none,none,none]∧Zd H H'∧H' o=some (.lst (os.map V.int))∧ZkI i os) ⟨[],_,rfl,s1,ho1,rfl,by intro w hw;cases hw⟩ ?_ ?_
  ·rintro i σ H2 hi ⟨os,a1,rfl,s2,ho2,hol,hor⟩;have hS2:=s2.seq hS;have hz:(os.map V.int).length<sizeLine:=Zu (by rw[List.length_map];omega);have ip:0<(0+(i:Int))+1:=by omega
   walk_at "rds";rename_i mx hmx mx0 mx1;clear hmx;have r1:=Int.emod_nonneg (mx / 3) (show(0+(i:Int))+1≠0 by omega);have r2:=Int.emod_lt_of_pos (mx / 3) ip;generalize mx / 3 % ((0+(i:Int))+1)=g at*;refine Rd.ins ho2 hz r1 (by rw[List.length_map];omega) ?_;walk_at "rds";refine⟨os.take g.toNat++(0+(i:Int))::os.drop g.toNat,_,rfl,s2.new ho,by rw[Ze,ZkG],by rw[ZgH,hol],fun w hw=>?_⟩;rcases ZgJ hw with z|z
   ·have:=hor w z;omega
   ·omega
  ·rintro σ H3 ⟨os,a1,rfl,s3,ho3,hok⟩;have hS3:=s3.seq hS;have hA3:=s3.seq hA;have enn:((ss.map V.int).length:Int).toNat=ss.length:=by simp
   rw[enn] at hok;obtain⟨hol,hor⟩:=hok;walk_at "rds";refine⟨Nat.zero_le _,fun r hr=>?_⟩;have s4:Zd H3 (upd H3 r (.lst [])):=Zo hr;have hr4:(upd H3 r (.lst [])) r=some (.lst []):=Ze;generalize upd H3 r (.lst [])=H4 at*;have hr0:H r=none:=ZK s3 hr;have hA4:=s4.seq hA3;walk_at "rds";refine YL (n:=(((ss.map V.int).length:Int)-1).toNat) (fun i σ H'=>∃(bs:List V)(ls:List B5)(a3 a5 a6 a7 a8 a9:Option V),σ=[some (.ref p),some (.ref a),some (.ref o),a3,some (.ref r),a5,a6,a7,a8,a9]∧Zd H3 H'∧H' r=some (.lst bs)∧YB H' bs ls∧ls.length=i∧∀l∈ls,W4 ss l) ⟨[],[],_,_,_,_,_,_,rfl,s4,hr4,.nil,rfl,by simp⟩ ?_ ?_
   ·rintro i σ H5 hi ⟨bs,ls,a3,a5,a6,a7,a8,a9,rfl,s5,hr5,hT5,hl5,hd5⟩;have hS5:=s5.seq hS3;have hA5:=s5.seq hA3;have ho5:=s5 _ _ ho3;have hO5:=SqL.of (K:=K) ho5;have il:i+1<os.length:=by rw[List.length_map] at hi;omega
    have e1:os.getD (0+(i:Int)).toNat 0∈os:=by rw[Zx (by omega)];exact List.getElem_mem _
    have e2:os.getD ((0+(i:Int))+1).toNat 0∈os:=by rw[Zx (by omega)];exact List.getElem_mem _
    have at1:=ZR (ns:=os) (k:=0+(i:Int)) (by omega) (by omega);have at2:=ZR (ns:=os) (k:=(0+(i:Int))+1) (by omega) (by omega);have x0:=hor _ e1;have y0:=hor _ e2;generalize os.getD (0+(i:Int)).toNat 0=x at*;generalize os.getD ((0+(i:Int))+1).toNat 0=y at*;walk_at "rds";rename_i mx hmx mx0 mx1;clear hmx;have hbz:bs.length<sizeLine:=Zu (by have:=hT5.length;rw[List.length_map] at hi;omega);refine⟨by show 2≤sizeLine;decide,fun u1 hu1=>?_⟩;have s6:Zd H5 (upd H5 u1 (.tup [V.int x,V.int y])):=Zo hu1;have v1:(upd H5 u1 (.tup [V.int x,V.int y])) u1=some (.tup [V.int x,V.int y]):=Ze;generalize upd H5 u1 (.tup [V.int x,V.int y])=H6 at*;have hO6:=s6.seq hO5;walk_at "rds";refine⟨by show 2≤sizeLine;decide,fun u2 hu2=>?_⟩;have s7:Zd H6 (upd H6 u2 (.tup [V.int y,V.int x])):=Zo hu2;have v2:(upd H6 u2 (.tup [V.int y,V.int x])) u2=some (.tup [V.int y,V.int x]):=Ze;generalize upd H6 u2 (.tup [V.int y,V.int x])=H7 at*;have v1':=s7 _ _ v1;walk_at "rds";refine⟨by show 2≤sizeLine;decide,fun u3 hu3=>?_⟩;have s8:Zd H7 (upd H7 u3 (.lst [V.ref u1,V.ref u2])):=Zo hu3;have v3:(upd H7 u3 (.lst [V.ref u1,V.ref u2])) u3=some (.lst [V.ref u1,V.ref u2]):=Ze;generalize upd H7 u3 (.lst [V.ref u1,V.ref u2])=H8 at*;walk_at "rds";obtain⟨u,g,t,at3,hu8,hg,ht⟩:∃(u:Addr)(g t:Int),atI [V.ref u1,V.ref u2] (mx / 7 % 2)=some (.ref u)∧H8 u=some (.tup [V.int g,V.int t])∧(0≤g∧g<(ss.length:Int))∧(0≤t∧t<(ss.length:Int)):=by
     rcases(by omega:mx / 7 % 2=0∨mx / 7 % 2=1) with z|z
     ·rw[z];exact⟨u1,x,y,rfl,s8 _ _ v1',x0,y0⟩
     ·rw[z];exact⟨u2,y,x,rfl,s8 _ _ v2,y0,x0⟩
    refine Rd.Zi3 (SqL.of v3) at3 ?_;refine Rd.VB (.of hu8) rfl ?_;have s58:=(s6.trans s7).trans s8;have s38:=s5.trans s58;have hr8:=s58 _ _ hr5;have hA8:=s38.seq hA3;have hS8:=s38.seq hS3;obtain⟨gx,egx,gx0,gx1⟩:=WC hss hg.1 hg.2;obtain⟨tx,etx,tx0,tx1⟩:=WC hss ht.1 ht.2;have at4:=ZR hg.1 hg.2;have at5:=ZR ht.1 ht.2;rw[egx] at at4;rw[etx] at at5;obtain⟨q1,q2,q3,q4,q5⟩:=ZfO gx0 tx0 Nat.one_pos gx1 tx1 (by decide);rw[Nat.one_mul] at q1 q2 q3 q4 q5;rw[Nat.one_mul] at q5;have gd:=Zd5 (a:=0) (Nat.gcd_pos_of_pos_left tx gx0) (Nat.lt_of_le_of_lt (Nat.le_trans (Nat.le_of_dvd gx0 (Nat.gcd_dvd_left gx tx)) gx1) (Nat.lt_of_lt_of_le (by decide:10 ^ 13<2 ^ 110) (Nat.pow_le_pow_right (by decide) (by decide))));walk_at "rds";refine⟨gx,tx,rfl,?_⟩;have hlp:0<(bs.length:Int)+1:=by omega
    walk_at "rds";have g1:=Int.emod_nonneg (mx / 21) (show(bs.length:Int)+1≠0 by omega);have g2:=Int.emod_lt_of_pos (mx / 21) hlp;generalize mx / 21 % ((bs.length:Int)+1)=gi at*;refine⟨by show 2≤sizeLine;decide,fun u5 hu5=>?_⟩;have s10:Zd H8 (upd H8 u5 (.lst [V.int 0,V.int gi])):=Zo hu5;have v5:(upd H8 u5 (.lst [V.int 0,V.int gi])) u5=some (.lst [V.int 0,V.int gi]):=Ze;generalize upd H8 u5 (.lst [V.int 0,V.int gi])=H10 at*;have hr10:=s10 _ _ hr8;have hS10:=s10.seq hS8;have hA10:=s10.seq hA8;walk_at "rds";rename_i my hmy my0 my1;clear hmy;obtain⟨j,at6,j0,j1⟩:∃j:Int,atI [V.int 0,V.int gi] (my % 2)=some (.int j)∧0≤j∧j≤(bs.length:Int):=by
     rcases(by omega:my % 2=0∨my % 2=1) with z|z
     ·rw[z];exact⟨0,rfl,by omega,by omega⟩
     ·rw[z];exact⟨gi,rfl,g1,by omega⟩
    refine Rd.Zi3 (SqL.of v5) at6 ?_;walk_at "rds";have eg:(tx:Int) / ((Nat.gcd gx tx:Nat):Int)=((tx / Nat.gcd gx tx:Nat):Int):=rfl;have et:(gx:Int) / ((Nat.gcd gx tx:Nat):Int)=((gx / Nat.gcd gx tx:Nat):Int):=rfl;rw[eg,et];have hl9:W4 ss ⟨g,t,((tx / Nat.gcd gx tx:Nat):Int),((gx / Nat.gcd gx tx:Nat):Int),0⟩:=⟨⟨hg.1,hg.2,ht.1,ht.2⟩,⟨_,_,rfl,rfl,q1,q2,q3,q4,by dsimp only;rw[egx,etx,Int.toNat_natCast,Int.toNat_natCast];exact q5⟩,Int.le_refl _⟩;generalize ((tx / Nat.gcd gx tx:Nat):Int)=c1 at*;generalize ((gx / Nat.gcd gx tx:Nat):Int)=c2 at*;refine⟨by show 4≤sizeLine;decide,fun u4 hu4=>?_⟩;have s11:Zd H10 (upd H10 u4 (.tup [V.int g,V.int t,V.int c1,V.int c2])):=Zo hu4;have v4:(upd H10 u4 (.tup [V.int g,V.int t,V.int c1,V.int c2])) u4=some (.tup (B5.mk g t c1 c2 0).v4):=Ze;generalize upd H10 u4 (.tup [V.int g,V.int t,V.int c1,V.int c2])=H11 at*;have hr11:=s11 _ _ hr10;have s5b:=(s58.trans s10).trans s11;have hT11:=hT5.keep (H':=H11) fun b xs e=>s5b _ _ e;walk_at "rds";refine Rd.ins hr11 hbz j0 j1 ?_;walk_at "rds";have fr:ZH [r] H11 (upd H11 r (.lst (bs.take j.toNat++ .ref u4::bs.drop j.toNat))):=Yk (by simp) hr11 (by intro _ z;cases z);refine⟨_,ls.take j.toNat++⟨g,t,c1,c2,0⟩::ls.drop j.toNat,_,_,_,_,_,_,rfl,(s5.trans s5b).new hr,Ze,?_,by rw[ZgH,hl5],fun l' hl=>?_⟩
    ·exact Paired.insert _ (hT11.keep fr.tups) ⟨u4,rfl,fr.tups _ _ v4⟩
    ·rcases ZgJ hl with z|z
     ·exact hd5 l' z
     ·rw[z];exact hl9
   ·rintro σ H5 ⟨bs,ls,a3,a5,a6,a7,a8,a9,rfl,s5,hr5,hT5,hl5,hd5⟩;walk_at "rds";exact q r H5 bs ls hr0 (s3.trans s5) hr5 hT5 (by rw[List.length_map] at hl5;omega) hd5
end
def ZaI{K:PySem.W.Frag}{mg:Str→Option Value}(T:Tp K mg):Sp:=fun vs H Q _=>∃k:Nat,vs=[.int k]∧Q (.str (nameN k)) H
theorem Zif{K:PySem.W.Frag}{mg:Str→Option Value}{T:Tp K mg}{H:Hp}{Q:VK}{E:XK}{i:Int}(h:0≤i)(q:Q (.str (nameN i.toNat)) H):ZaI T ([.int i]++ []) H Q E:=⟨i.toNat,by rw[Int.toNat_of_nonneg h];rfl,q⟩
local macro_rules| `(tactic|walk_at "rd")=>`(tactic|first|((with_reducible show Nm.ZaI _ _ _ _ _);with_reducible refine Nm.Zif (by walk_at "side") ?_)|fail "none here")
section
variable {P:Program}{w:World}{K:PySem.W.Frag}{mg:Str→Option Value}{base:Heap}
theorem ZiC(T:Tp K mg):Zk P w K mg base (CXX P w) 1 T.f_l_name T.d_l_name ["_law_k"] (ZaI T):=by
 refine T.F_l_name.okX Zh6 (fun vs H Q E h=>?_) (fun cdv A outer s H vs Q E hr h=>?_)
 ·obtain⟨k,rfl,_⟩:=h
  rfl
 ·have hu:=hr.units;obtain⟨k,rfl,q⟩:=h;unfold nameN at q;have al:=ZkC;have hl:=ZkK;refine⟨_,(Zc (ZW (ZC U7 (pv 0) Zf (ZI _)) (Zh (Zw (Zda (ZjI (K:=K) rfl) Wb (Zd7 (pv 0)) Zd8))) ZJ)
     (Zh (Zw (Zv (Z6 (K:=K) rfl) (Zj (Zq (K:=K) rfl) Wb (Zv Yi (pv 0) Zf) (fun _ _=>rfl)) Wb)))),?_⟩
  try dsimp only[L2.cxX,L2.ZN,L2.Zn]
  walk_at "rds";refine Rd.ifD (fun c=>?_) (fun c=>?_)
  ·rw[if_pos (by omega)] at q;walk_at "rds";exact q
  ·rw[if_neg (by omega)] at q;walk_at "rds";have e:((k:Int) % 26)=((k % 26:Nat):Int):=by omega
   rw[e];refine Rd.Zna al (YT (Zlj (k % 26) (Nat.mod_lt _ (by decide)))) ?_;refine Rd.ZlW ?_ ?_
   ·show 1+("zz" :Str).length≤sizeLine
    decide+kernel
   ·exact q
end
def Zdb{K:PySem.W.Frag}{mg:Str→Option Value}(T:Tp K mg):Sp:=fun vs H Q _=>∃x:Str,vs=[.str x]∧x.length≤sizeLine∧∀H',Zd H H'→Q (.bl (WD x)) H'
noncomputable def letter (c:Nat):Bool:=decide (97≤c)&&decide (c≤122)
theorem Zej(c d:Nat):decide ((⟨#[c]⟩:Str).cps.toList<(⟨#[d]⟩:Str).cps.toList)=decide (c<d):=by
 show decide ([c]< [d])=decide (c<d);have e:([c]< [d])↔c<d:=by
  constructor
  ·intro h;cases h with
   |rel h=>exact h
   |cons h=>cases h
  ·exact fun h=> .rel h
 by_cases h:c<d
 ·rw[decide_eq_true h,decide_eq_true (e.mpr h)]
 ·rw[decide_eq_false h,decide_eq_false (fun z=>h (e.mp z))]
theorem Zmg:("a" :Str)=⟨#[97]⟩:=by decide+kernel
theorem Zl9:("z" :Str)=⟨#[122]⟩:=by decide+kernel
theorem Zhr(x:Str):(((List.range x.cps.size).map fun i=>letter (x.cps.getD i 0)).all id)=x.cps.toList.all letter:=by
 rw[List.all_map,Bool.eq_iff_iff,List.all_eq_true,List.all_eq_true]
 constructor
 ·intro h c hc;obtain⟨i,hi,rfl⟩:=List.getElem_of_mem hc;have hi':i<x.cps.size:=by simpa using hi
  have:=h i (List.mem_range.mpr hi');simpa[Array.getD,hi'] using this
 ·intro h i hi;have hi':=List.mem_range.mp hi;have:=h x.cps[i] (by simp);simpa[Array.getD,hi'] using this
theorem ZbY(x:Str):WD x=(decide (1≤x.length)&&decide (x.length≤8)&&x.cps.toList.all letter):=rfl
section
variable {P:Program}{w:World}{K:PySem.W.Frag}{mg:Str→Option Value}{base:Heap}
theorem ZhC(T:Tp K mg):Zk P w K mg base (CXX P w) 1 T.f_is_name T.d_is_name ["thing"] (Zdb T):=by
 refine T.F_is_name.okX Zho (fun vs H Q E h=>?_) (fun cdv A outer s H vs Q E hr h=>?_)
 ·obtain⟨x,rfl,_⟩:=h
  rfl
 ·have hu:=hr.units;obtain⟨x,rfl,hx,q⟩:=h;refine⟨_,(Zc (ZW (Wh (Yr (K:=K) rfl (Zy (Za9 (K:=K) rfl) (by rfl) T.n_isinstance PyProof.Rows.boot_isinstance (Za (pv 0) (Za (Um (v:= .ty "str") (by rfl) T.n_str PyProof.Rows.boot_str rfl) Zb))) (fun _=>rfl))) (Zh (Zw Wf)) ZJ)
     (Zc (ZW (PW.pt (U0 (ZC U7 (Zy (Ya (K:=K) rfl) (by rfl) T.n_len PySem.boot_len (Za (pv 0) Zb)) Zf (ZI _)) (V6 (ZC Zcm (Zy (Ya (K:=K) rfl) (by rfl) T.n_len PySem.boot_len (Za (pv 0) Zb)) (Zco (v:= .int 8) rfl T.c_MOST_LETTERS ⟨_,rfl⟩) (ZI _))))) (Zh (Zw Wf)) ZJ)
     (Zh (Zw (Zy (Zkc (K:=K) rfl rfl) (by rfl) T.n_all PyProof.Rows.boot_all (Za (Vh rfl (Yh (x:="sign") (zs:=[]) (ix:=[]) (Zi UF) ["thing"] rfl rfl (by decide+kernel)) (Zk9 (pv 0)) (fun cl C s H fp=>⟨(Zp (i:=0) (show(["sign"]:List Str).Nodup by decide+kernel) rfl (Or.inl rfl)),Yg,(Zjq Zeu Zeu Wb (pv 0) Wb)⟩)) Zb)))))),?_⟩
  try dsimp only[L2.cxX,L2.ZN,L2.Zn]
  walk_at "rds";refine Vl (fun c=>?_) (fun c=>?_)
  ·have c':¬1≤x.length:=by simp at c;omega
   walk_at "rds";have e:WD x=false:=by rw[ZbY,decide_eq_false c'];rfl
   rw[←e];exact q H (Zd.refl H)
  ·have c':1≤x.length:=by simp at c;omega
   walk_at "rds";refine Vl (fun d=>?_) (fun d=>?_)
   ·have d':¬x.length≤8:=by simp at d;omega
    walk_at "rds";have e:WD x=false:=by rw[ZbY,decide_eq_false d',Bool.and_false];rfl
    rw[←e];exact q H (Zd.refl H)
   ·have d':x.length≤8:=by simp at d;omega
    have hn:x.cps.size<sizeLine:=Zu (by have:x.cps.size=x.length:=rfl;omega);walk_at "rds";refine YA ZiJ hn (fun _=>true) (fun i=> .bl (letter (x.cps.getD i 0))) (fun i H' Kc hi sm k=>?_) (fun i H' Kc hi _ sm k=>?_) (fun p H' hp sm hl=>?_)
    ·walk_at "rds";exact k H' (Zd.refl H')
    ·walk_at "rds";rw[Zmg,Zl9,Zej];generalize x.cps.getD i 0=cc at k⊢;refine Vl (fun z=>?_) (fun z=>?_)
     ·walk_at "rds";have e:(!decide (122<cc))=letter cc:=by
       have z':97≤cc:=by simpa using z
       unfold letter;rw[decide_eq_true z',Bool.true_and]
       by_cases y:cc≤122
       ·rw[decide_eq_true y,decide_eq_false (by omega)];rfl
       ·rw[decide_eq_false y,decide_eq_true (by omega)];rfl
      rw[Zej,e];exact k H' (Zd.refl H')
     ·have e:false=letter cc:=by
       have z':¬97≤cc:=by simpa using z
       unfold letter;rw[decide_eq_false z'];rfl
      rw[e];exact k H' (Zd.refl H')
    ·have hl':H' p=some (.lst (((List.range x.cps.size).map fun i=>letter (x.cps.getD i 0)).map V.bl)):=by
      rw[hl,List.filter_eq_self.mpr (by simp),List.map_map];rfl
     walk_at "rds";rw[Zhr];have e:x.cps.toList.all letter=WD x:=by rw[ZbY,decide_eq_true c',decide_eq_true d'];rfl
     rw[e];exact q H' sm
end
def Zaj{K:PySem.W.Frag}{mg:Str→Option Value}(T:Tp K mg):Sp:=fun vs H Q E=>∃(p:Addr)(x:Str)(hl:HM)(fp:List Addr),vs=[.ref p,.str x]∧ZB T H p hl fp∧x.length≤sizeLine∧hl.names.length≤1000∧
 (WD x=false→∀H',Zd H H'→E (.ref T.X_NoName) none H')∧(WD x=true→x∈hl.names→∀H',Zd H H'→E (.ref T.X_Twice) none H')∧
 (WD x=true→x∉hl.names→30≤hl.names.length→∀H',Zd H H'→E (.ref T.X_TooMuch) none H')∧
 (WD x=true→x∉hl.names→hl.names.length<30→∀(H':Hp)(fp':List Addr),ZB T H' p ⟨hl.names++ [x],hl.belts⟩ fp'→ZH fp H H'→Yz fp fp' H→Q (.int hl.names.length) H')
theorem Zfj{K:PySem.W.Frag}{mg:Str→Option Value}{T:Tp K mg}{H:Hp}{Q:VK}{E:XK}{p:Addr}{x:Str}{hl:HM}{fp:List Addr}(h:ZB T H p hl fp)(hn:WD x=true)(hx:x∉hl.names)(hlen:hl.names.length<30)
  (q:∀(H':Hp)(fp':List Addr),ZB T H' p ⟨hl.names++ [x],hl.belts⟩ fp'→ZH fp H H'→Yz fp fp' H→Q (.int hl.names.length) H'):Zaj T (.ref p::([.str x]++ [])) H Q E:=by
 have l8:x.length≤sizeLine:=by
  have:x.length≤8:=by
   have e:=hn;unfold WD at e;simp only[Bool.and_eq_true,decide_eq_true_eq] at e;exact e.1.2
  exact Nat.le_of_lt (Zu (by omega))
 exact⟨p,x,hl,fp,rfl,h,l8,by omega,fun z=>(by rw[hn] at z;cases z),fun _ z=>absurd z hx,fun _ _ z=>absurd z (by omega),fun _ _ _=>q⟩
section
variable {P:Program}{w:World}{K:PySem.W.Frag}{mg:Str→Option Value}{base:Heap}
theorem ZfF(T:Tp K mg):Zk P w K mg base (CXX P w) 2 T.f_Hall_work T.d_Hall_work ["self","name"] (Zaj T):=by
 have G_is_name:Zk P w K mg base (CXX P w) 1 T.f_is_name T.d_is_name ["thing"] (Zdb T):=(ZhC T).mono (by decide);have cl_Hall:=T.cl_Hall;have na_Hall:=T.na_Hall;refine T.F_Hall_work.okX Zca (fun vs H Q E h=>?_) (fun cdv A outer s H vs Q E hr h=>?_)
 ·obtain⟨p,x,hl,fp,rfl,_⟩:=h
  rfl
 ·have hu:=hr.units;obtain⟨p,x,hl,fp,rfl,hh,hx,hz,e1,e2,e3,q⟩:=h;obtain⟨dx,a,b,bs,rfl,h1,h2,h3,h4,nab,h6⟩:=id hh;have npa:p≠a:=Yw h1 h3 (by intro z;cases z);have nda:dx≠a:=Yw h2 h3 (by intro z;cases z);refine⟨_,(Zc (ZW (Wh (Yr (K:=K) rfl (Zr G_is_name hr rfl T.m_is_name T.F_is_name.kp T.b_is_name .nil Zl (Za (pv 1) Zb)) (fun _=>rfl))) (Zh (Y2 T.gx_NoName T.ex_NoName PySem.F.excBase_ValueError rfl (Za Wb Zb))) ZJ)
     (Zc (ZW (ZC (ZkZ hu) (pv 1) (ZZ (K:=K) rfl (pv 0) rfl) (by with_unfolding_all rfl)) (Zh (Y2 T.gx_Twice T.ex_Twice PySem.F.excBase_ValueError rfl (Za Wb Zb))) ZJ)
     (Zc (ZW (ZC ZeT (Zy Zg4 (by rfl) T.n_len PySem.boot_len (Za (ZZ (K:=K) rfl (pv 0) rfl) Zb)) (Zco (v:= .int 30) rfl T.c_MOST_WORKS ⟨_,rfl⟩) (ZI _)) (Zh (Y2 T.gx_TooMuch T.ex_TooMuch PySem.F.excBase_ValueError rfl (Za Wb Zb))) ZJ)
     (Zc (Zs (i:=2) Zca.nd rfl (Or.inl rfl) (Zy Zg4 (by rfl) T.n_len PySem.boot_len (Za (ZZ (K:=K) rfl (pv 0) rfl) Zb)))
     (Zc (Wg (pv 2) (W7 (ZZ (K:=K) rfl (pv 0) rfl) (pv 1) (Zab hu)))
     (Zh (Zw (pv 2)))))))),?_⟩
  try dsimp only[L2.cxX,L2.ZN,L2.Zn]
  walk_at "rds";refine⟨x,rfl,hx,fun H1 sm1=>?_⟩;have g1:=sm1 _ _ h1;have g3:=sm1 _ _ h3;have hz':(numsOf hl.names).length<sizeLine:=Zu (by rw[UV];exact hz);walk_at "rds";cases hn:WD x with
  |false=>
   walk_at "rds";exact e1 hn H1 sm1
  |true=>
   walk_at "rds";rw[Zer];refine Vl (fun c=>?_) (fun c=>?_)
   ·walk_at "rds";exact e2 hn (of_decide_eq_true c) H1 sm1
   ·have c':x∉hl.names:=fun z=>c (decide_eq_true z);walk_at "rds";rw[UV];refine Vl (fun d=>?_) (fun d=>?_)
    ·have d':30≤hl.names.length:=by simp at d;omega
     walk_at "rds";exact e3 hn c' d' H1 sm1
    ·have d':hl.names.length<30:=by simp at d;omega
     walk_at "rds";rw[UV,ZhM c'];have fr:ZH [p,dx,a,b] H (upd H1 a (.dK (numsOf (hl.names++ [x])))):=sm1.frame.trans (Yk (by simp) g3 (by intro _ z;cases z));refine q hn c' d' _ [p,dx,a,b] ⟨dx,a,b,bs,rfl,?_,?_,Ze,?_,nab,h6.keep fr.tups⟩ fr Yz.refl
     ·rw[Zg npa];exact g1
     ·rw[Zg nda];exact sm1 _ _ h2
     ·rw[Zg nab.symm];exact sm1 _ _ h4
end
def ZcE{K:PySem.W.Frag}{mg:Str→Option Value}(T:Tp K mg):Sp:=fun vs H Q E=>∃(p u:Addr)(b:B5)(hl:HM)(fp:List Addr),vs=[.ref p,.ref u]∧ZB T H p hl fp∧H u=some (.tup b.v)∧hl.belts.length≤1000∧
 ∀(H':Hp)(fp':List Addr),ZB T H' p ⟨hl.names,hl.belts++ [b]⟩ fp'→ZH fp H H'→Yz fp fp' H→Q (.int hl.belts.length) H'
section
variable {P:Program}{w:World}{K:PySem.W.Frag}{mg:Str→Option Value}{base:Heap}
theorem Zgl(T:Tp K mg):Zk P w K mg base (CXX P w) 1 T.f_Hall_lay T.d_Hall_lay ["self","row"] (ZcE T):=by
 have cl_Hall:=T.cl_Hall;have na_Hall:=T.na_Hall;refine T.F_Hall_lay.okX Zgr (fun vs H Q E h=>?_) (fun cdv A outer s H vs Q E hr h=>?_)
 ·obtain⟨p,u,b,hl,fp,rfl,_⟩:=h
  rfl
 ·have hu:=hr.units;obtain⟨p,u,b,hl,fp,rfl,hh,hu',hz,q⟩:=h;obtain⟨dx,a,bb,bs,rfl,h1,h2,h3,h4,nab,h6⟩:=id hh;have npb:p≠bb:=Yw h1 h4 (by intro z;cases z);have ndb:dx≠bb:=Yw h2 h4 (by intro z;cases z);have nub:u≠bb:=Yw hu' h4 (by intro z;cases z);have hz':bs.length<sizeLine:=Zu (by rw[h6.length];exact hz);have hlb:=h6.length;refine⟨_,(Zc (ZX (Yt (K:=K) rfl PySem.F.plainAttrs_list PySem.F.slot_list_append PySem.F.type_list_append Yc (ZZ (K:=K) rfl (pv 0) rfl) (Za (pv 1) Zb)))
     (Zh (Zw (Zv Zau (Zy (Ya (K:=K) rfl) (by rfl) T.n_len PySem.boot_len (Za (ZZ (K:=K) rfl (pv 0) rfl) Zb)) Zf)))),?_⟩
  try dsimp only[L2.cxX,L2.ZN,L2.Zn]
  walk_at "rds";have k1:(upd H bb (.lst (bs++ [.ref u]))) p=some (.ins T.C_Hall dx [("numbers",.ref a),("rows",.ref bb)]):=by rw[Zg npb];exact h1
  have k4:(upd H bb (.lst (bs++ [.ref u]))) bb=some (.lst (bs++ [.ref u])):=Ze;walk_at "rds";have el:((bs++ [V.ref u]).length:Int)-1=hl.belts.length:=by simp[hlb]
  rw[el];have fr:ZH [p,dx,a,bb] H (upd H bb (.lst (bs++ [.ref u]))):=Yk (by simp) h4 (by intro _ z;cases z);refine q _ [p,dx,a,bb] ⟨dx,a,bb,_,rfl,k1,?_,?_,k4,nab,(h6.keep fr.tups).snoc (fr.tups _ _ hu')⟩ fr Yz.refl
  ·rw[Zg ndb];exact h2
  ·rw[Zg nab];exact h3
end
def Zai{K:PySem.W.Frag}{mg:Str→Option Value}(T:Tp K mg):Sp:=fun vs H Q E=>∃(p:Addr)(b:B5)(hl:HM)(fp:List Addr),vs= .ref p::b.v∧ZB T H p hl fp∧hl.belts.length≤1000∧
 (¬(0≤b.giver∧b.giver<hl.names.length∧0≤b.taker∧b.taker<hl.names.length)→∀H',Zd H H'→E (.ref T.X_NoWork) none H')∧
 ((0≤b.giver∧b.giver<hl.names.length∧0≤b.taker∧b.taker<hl.names.length)→¬(1≤b.give∧1≤b.take∧0≤b.start)→∀H',Zd H H'→E (.ref T.X_NoRate) none H')∧
 ((0≤b.giver∧b.giver<hl.names.length∧0≤b.taker∧b.taker<hl.names.length)→(1≤b.give∧1≤b.take∧0≤b.start)→60≤hl.belts.length→∀H',Zd H H'→E (.ref T.X_TooMuch) none H')∧
 ((0≤b.giver∧b.giver<hl.names.length∧0≤b.taker∧b.taker<hl.names.length)→(1≤b.give∧1≤b.take∧0≤b.start)→hl.belts.length<60→∀(H':Hp)(fp':List Addr),ZB T H' p ⟨hl.names,hl.belts++ [b]⟩ fp'→ZH fp H H'→Yz fp fp' H→Q (.int hl.belts.length) H')
theorem ZfG{K:PySem.W.Frag}{mg:Str→Option Value}{T:Tp K mg}{H:Hp}{Q:VK}{E:XK}{p:Addr}{g t gv tk st:Int}{hl:HM}{fp:List Addr}(h:ZB T H p hl fp)
  (h1:0≤g) (h2:g<hl.names.length) (h3:0≤t) (h4:t<hl.names.length) (h5:1≤gv) (h6:1≤tk) (h7:0≤st) (hlen:hl.belts.length<60)
  (q:∀(H':Hp)(fp':List Addr),ZB T H' p ⟨hl.names,hl.belts++ [⟨g,t,gv,tk,st⟩]⟩ fp'→ZH fp H H'→Yz fp fp' H→Q (.int hl.belts.length) H'):Zai T [.ref p,.int g,.int t,.int gv,.int tk,.int st] H Q E:=
 ⟨p,⟨g,t,gv,tk,st⟩,hl,fp,rfl,h,by omega,fun z=>absurd ⟨h1,h2,h3,h4⟩ z,fun _ z=>absurd ⟨h5,h6,h7⟩ z,fun _ _ z=>absurd z (by omega),fun _ _ _=>q⟩
section
variable {P:Program}{w:World}{K:PySem.W.Frag}{mg:Str→Option Value}{base:Heap}
theorem Zfw(T:Tp K mg):Zk P w K mg base (CXX P w) 5 T.f_Hall_belt T.d_Hall_belt ["self","giver","taker","give","take","start"] (Zai T):=by
 have G_need_start:Zk P w K mg base (CXX P w) 4 T.f_need_start T.d_need_start ["start"] (UP T):=(Zbv T).mono (by decide);have G_is_from:Zk P w K mg base (CXX P w) 4 T.f_is_from T.d_is_from ["thing","least"] (Vj T):=(Zbk T).mono (by decide);have G_Hall_need_work:Zk P w K mg base (CXX P w) 4 T.f_Hall_need_work T.d_Hall_need_work ["self","work"] (Wu T):=(Vp T).mono (by decide);have G_Hall_lay:Zk P w K mg base (CXX P w) 4 T.f_Hall_lay T.d_Hall_lay ["self","row"] (ZcE T):=(Zgl T).mono (by decide);have cl_Hall:=T.cl_Hall;have na_Hall:=T.na_Hall;refine T.F_Hall_belt.okX ZfX (fun vs H Q E h=>?_) (fun cdv A outer s H vs Q E hr h=>?_)
 ·obtain⟨p,b,hl,fp,rfl,_⟩:=h
  rfl
 ·have hu:=hr.units;obtain⟨p,b,hl,fp,rfl,hh,hz,e1,e2,e3,q⟩:=h;obtain⟨dx,a,bb,bs,rfl,h1,h2,h3,h4,nab,h6⟩:=id hh;obtain⟨g,t,gv,tk,st⟩:=b;have hlb:=h6.length;refine⟨_,(Zc (ZX (Yb (pv 0) T.cl_Hall T.M_Hall_need_work G_Hall_need_work hr T.b_Hall_need_work .nil Zl (Za (pv 1) Zb)))
     (Zc (ZX (Yb (pv 0) T.cl_Hall T.M_Hall_need_work G_Hall_need_work hr T.b_Hall_need_work .nil Zl (Za (pv 2) Zb)))
     (Zc (ZW (PW.pt (U0 (Wh (Yr (K:=K) rfl (Zr G_is_from hr rfl T.m_is_from T.F_is_from.kp T.b_is_from .nil Zl (Za (pv 3) (Za Zf Zb))) (fun _=>rfl))) (V6 (Wh (Yr (K:=K) rfl (Zr G_is_from hr rfl T.m_is_from T.F_is_from.kp T.b_is_from .nil Zl (Za (pv 4) (Za Zf Zb))) (fun _=>rfl)))))) (Zh (Y2 T.gx_NoRate T.ex_NoRate PySem.F.excBase_ValueError rfl (Za Wb Zb))) ZJ)
     (Zc (ZX (Zr G_need_start hr rfl T.m_need_start T.F_need_start.kp T.b_need_start .nil Zl (Za (pv 5) Zb)))
     (Zc (ZW (ZC ZeT (Zy (Ya (K:=K) rfl) (by rfl) T.n_len PySem.boot_len (Za (ZZ (K:=K) rfl (pv 0) rfl) Zb)) (Zco (v:= .int 60) rfl T.c_MOST_BELTS ⟨_,rfl⟩) (ZI _)) (Zh (Y2 T.gx_TooMuch T.ex_TooMuch PySem.F.excBase_ValueError rfl (Za Wb Zb))) ZJ)
     (Zh (Zw (Yb (pv 0) T.cl_Hall T.M_Hall_lay G_Hall_lay hr T.b_Hall_lay .nil Zl (Za (Yv (Za (pv 1) (Za (pv 2) (Za (pv 3) (Za (pv 4) (Za (pv 5) Zb)))))) Zb))))))))),?_⟩
  try dsimp only[L2.cxX,L2.ZN,L2.Zn]
  dsimp only[B5.v] at*;walk_at "rds";refine⟨p,g,hl,_,rfl,hh,fun z=>e1 (by omega) H (Zd.refl H),fun g0 g1=>?_⟩;walk_at "rds";refine⟨p,t,hl,_,rfl,hh,fun z=>e1 (by omega) H (Zd.refl H),fun t0 t1=>?_⟩;have ws:0≤g∧g<hl.names.length∧0≤t∧t<hl.names.length:=⟨g0,g1,t0,t1⟩;walk_at "rds"
  by_cases c:1≤gv
  ·rw[decide_eq_true c];walk_at "rds"
   by_cases d:1≤tk
   ·rw[decide_eq_true d];walk_at "rds";refine⟨st,rfl,fun z=>e2 ws (by omega) H (Zd.refl H),fun f=>?_⟩;walk_at "rds";refine Rd.ifD (fun l=>?_) (fun l=>?_)
    ·walk_at "rds";exact e3 ws (by omega) (by omega) H (Zd.refl H)
    walk_at "rds";refine⟨by show 5≤sizeLine;decide,fun u hu'=>?_⟩;have sn:Zd H (upd H u (.tup [.int g,.int t,.int gv,.int tk,.int st])):=Zo hu';have hh':=hh.same sn;walk_at "rds";refine⟨p,u,⟨g,t,gv,tk,st⟩,hl,_,rfl,hh',Ze,hz,fun H' fp' hh2 fr gr=>?_⟩;refine q ws (by omega) (by omega) H' fp' hh2 (sn.frame.trans fr) (fun x hx=>?_);rcases gr x hx with z|z
    ·exact .inl z
    ·refine .inr ?_;cases e:H x with
     |none=>rfl
     |some o=>rw[sn _ _ e] at z;cases z
   ·rw[decide_eq_false d];walk_at "rds";exact e2 ws (by omega) H (Zd.refl H)
  ·rw[decide_eq_false c];walk_at "rds";exact e2 ws (by omega) H (Zd.refl H)
end
def Zap{K:PySem.W.Frag}{mg:Str→Option Value}(T:Tp K mg):Sp:=fun vs H Q _=>∃p dx:Addr,vs=[.ref p]∧H p=some (.ins T.C_Hall dx [])∧H dx=some (.own p)∧
 ∀(H':Hp)(fp:List Addr),ZB T H' p ⟨[],[]⟩ fp→(∀x∈fp,x=p∨x=dx∨H x=none)→(∀b o,H b=some o→b≠p→H' b=some o)→Q .non H'
theorem ZfD{K:PySem.W.Frag}{mg:Str→Option Value}{T:Tp K mg}{H:Hp}{Q:Addr→Hp→Prop}{E:XK}
  (q:∀(p:Addr)(fp:List Addr)(H':Hp),ZB T H' p ⟨[],[]⟩ fp→(∀x∈fp,H x=none)→Zd H H'→Q p H'):
  ∀x dx,H x=none→H dx=none→dx≠x→Zap T (.ref x::([]++ [])) (upd (upd H dx (.own x)) x (.ins T.C_Hall dx [])) (fun v H2=>v= .non∧Q x H2) E:=by
 intro x dx hx hdx ne;refine⟨x,dx,rfl,Ze,by rw[Zg ne,Ze],fun H' fp hh hf hk=>⟨rfl,q x fp H' hh (fun y hy=>?_) (fun b o e=>hk b o ?_ (Zm e hx))⟩⟩
 ·rcases hf y hy with rfl|rfl|h
  ·exact hx
  ·exact hdx
  ·by_cases h1:y=x
   ·rw[h1];exact hx
   ·by_cases h2:y=dx
    ·rw[h2];exact hdx
    ·rw[Zg h1,Zg h2] at h;exact h
 ·rw[Zg (Zm e hx),Zg (Zm e hdx)];exact e
local macro_rules| `(tactic|walk_at "rd")=>`(tactic|first|with_reducible refine Nm.ZfD ?_|fail "none here")
section
variable {P:Program}{w:World}{K:PySem.W.Frag}{mg:Str→Option Value}{base:Heap}
theorem ZfU(T:Tp K mg):Zk P w K mg base (CXX P w) 1 T.f_Hall_init T.d_Hall_init ["self"] (Zap T):=by
 have cl_Hall:=T.cl_Hall;have na_Hall:=T.na_Hall;refine T.F_Hall_init.okX ZfL (fun vs H Q E h=>?_) (fun cdv A outer s H vs Q E hr h=>?_)
 ·obtain⟨p,dx,rfl,_⟩:=h
  rfl
 ·have hu:=hr.units;obtain⟨p,dx,rfl,hp,hdx,q⟩:=h;refine⟨_,(Zc (Ul (K:=K) rfl (pv 0) Zar rfl)
     (Zh (Ul (K:=K) rfl (pv 0) (YC Zb) rfl))),?_⟩
  try dsimp only[L2.cxX,L2.ZN,L2.Zn]
  walk_at "rds";intro a ha;have npa:p≠a:=Zm hp ha;have nda:dx≠a:=Zm hdx ha;have npd:p≠dx:=Yw hp hdx (by intro z;cases z);have hp1:(upd H a (.dK [])) p=some (.ins T.C_Hall dx []):=by rw[Zg npa];exact hp
  walk_at "rds";refine⟨Nat.zero_le _,fun b hb=>?_⟩;have hb0:H b=none:=by
   by_cases h1:b=p
   ·rw[h1,Ze] at hb;cases hb
   ·by_cases h2:b=a
    ·rw[h2];exact ha
    ·rw[Zg h1,Zg h2] at hb;exact hb
  have npb:p≠b:=Zm hp hb0;have ndb:dx≠b:=Zm hdx hb0;have nab:a≠b:=by
   intro z;rw[←z,Zg npa.symm,Ze] at hb;cases hb
  have hp2:(upd (upd (upd H a (.dK [])) p (.ins T.C_Hall dx [("numbers",.ref a)])) b (.lst [])) p=some (.ins T.C_Hall dx [("numbers",.ref a)]):=by rw[Zg npb,Ze]
  walk_at "rds";refine q _ [p,dx,a,b] ⟨dx,a,b,[],rfl,Ze,?_,?_,?_,nab,.nil⟩ (fun x hx=>?_) (fun c o e hc=>?_)
  ·rw[Zg npd.symm,Zg ndb,Zg npd.symm,Zg nda];exact hdx
  ·rw[Zg npa.symm,Zg nab,Zg npa.symm,Ze];rfl
  ·rw[Zg npb.symm,Ze]
  ·simp only[List.mem_cons,List.not_mem_nil,or_false] at hx;rcases hx with rfl|rfl|rfl|rfl
   ·exact .inl rfl
   ·exact .inr (.inl rfl)
   ·exact .inr (.inr ha)
   ·exact .inr (.inr hb0)
  ·rw[Zg hc,Zg (Zm e hb0),Zg hc,Zg (Zm e ha)];exact e
end
section
variable {P:Program}{w:World}{K:PySem.W.Frag}{mg:Str→Option Value}{base:Heap}
theorem ZlB(T:Tp K mg):Zk P w K mg base (CXX P w) 12 T.f_law T.d_law ["_law_script"] (Zl2 T):=by
 have G_l_lines:Zk P w K mg base (CXX P w) 11 T.f_l_lines T.d_l_lines ["_law_script","_law_sizes"] (ZdM T):=(Zhx T).mono (by decide);have G_l_rates:Zk P w K mg base (CXX P w) 11 T.f_l_rates T.d_l_rates ["_law_lines_here","_law_sizes"] (Zdf T):=(Zha T).mono (by decide);have G_l_started:Zk P w K mg base (CXX P w) 11 T.f_l_started T.d_l_started ["_law_script","_law_lines_here","_law_rates_here"] (ZbP T):=(Ze8 T).mono (by decide);have G_l_filled:Zk P w K mg base (CXX P w) 11 T.f_l_filled T.d_l_filled ["_law_hall","_law_lines_here","_law_starts"] (ZcN T):=(Zf2 T).mono (by decide);have G_l_told:Zk P w K mg base (CXX P w) 11 T.f_l_told T.d_l_told ["_law_hall","_law_lines_here","_law_rates_here","_law_enough"] (Zeh T):=(ZiF T).mono (by decide);have G_l_mixed:Zk P w K mg base (CXX P w) 11 T.f_l_mixed T.d_l_mixed ["_law_script","_law_k"] (WH T):=(UX T).mono (by decide);have G_l_long:Zk P w K mg base (CXX P w) 11 T.f_l_long T.d_l_long ["_law_script","_law_sizes"] (ZeA T):=(ZiK T).mono (by decide);have G_l_name:Zk P w K mg base (CXX P w) 11 T.f_l_name T.d_l_name ["_law_k"] (ZaI T):=(ZiC T).mono (by decide);have G_Hall_work:Zk P w K mg base (CXX P w) 11 T.f_Hall_work T.d_Hall_work ["self","name"] (Zaj T):=(ZfF T).mono (by decide);have G_Hall_belt:Zk P w K mg base (CXX P w) 11 T.f_Hall_belt T.d_Hall_belt ["self","giver","taker","give","take","start"] (Zai T):=(Zfw T).mono (by decide);have G_Hall_init:Zk P w K mg base (CXX P w) 10 T.f_Hall_init T.d_Hall_init ["self"] (Zap T):=(ZfU T).mono (by decide);have cl_Hall:=T.cl_Hall;have na_Hall:=T.na_Hall;refine T.F_law.okX Yu (fun vs H Q E h=>?_) (fun cdv A outer s H vs Q E hr h=>?_)
 ·obtain⟨a,ns,rfl,_⟩:=h
  rfl
 ·have hu:=hr.units;obtain⟨p,ns,rfl,hS,hlen,k⟩:=h;refine⟨_,(Zc (Zs (i:=1) Yu.nd rfl (Or.inl rfl) (Zv (Z6 (K:=K) rfl) Zf (Zv Yi (Zr G_l_mixed hr rfl T.m_l_mixed T.F_l_mixed.kp T.b_l_mixed .nil Zl (Za (pv 0) (Za Zf Zb))) Zf)))
     (Zc (Zs (i:=2) Yu.nd rfl (Or.inr rfl) Zf)
     (Zc (Zal (ZW (ZC (Wc (K:=K) rfl hu) (Zv Yi (Zv Z3 (Zr G_l_mixed hr rfl T.m_l_mixed T.F_l_mixed.kp T.b_l_mixed .nil Zl (Za (pv 0) (Za Zf Zb))) Zf) Zf) Zf (ZI _)) (Zc (Zs (i:=1) Yu.nd rfl (Or.inl rfl) (Zv (Z6 (K:=K) rfl) Zf (Zv Yi (Zv Z3 (Zr G_l_mixed hr rfl T.m_l_mixed T.F_l_mixed.kp T.b_l_mixed .nil Zl (Za (pv 0) (Za Zf Zb))) Zf) Zf)))
     (Zh (Zs (i:=2) Yu.nd rfl (Or.inr rfl) Zf))) ZJ))
     (Zc (Zc3 (j:=3) (xs:=["_law_k"]) rfl (Yh (x:="_law_k") (zs:=["_law_script","_law_top"]) (ix:=[0,2]) (Zi ZaQ) ["_law_script","_law_many","_law_top","_law_sizes","_law_lines_here","_law_rates_here","_law_hall","_law_k","_law_giver","_law_taker","_law_give","_law_take","_law_start","_law_full","_law_again"] rfl rfl (by decide+kernel)) (Z4 rfl T.n_range (Za (pv 1) Zb)) (fun cl C s H fp=>⟨(Zp (i:=0) (show(["_law_k","_law_script","_law_top"]:List Str).Nodup by decide+kernel) rfl (Or.inl rfl)),Yg,(Zv (Z6 (K:=K) rfl) Zf (Zv Yi (Zr G_l_mixed hr rfl T.m_l_mixed T.F_l_mixed.kp T.b_l_mixed .nil VZ (Za (pv 1) (Za (Zv (Z6 (K:=K) rfl) Zf (pv 0)) Zb))) (pv 2)))⟩) Yu.nd rfl (Or.inl rfl))
     (Zc (Zs (i:=4) Yu.nd rfl (Or.inl rfl) (Zr G_l_lines hr rfl T.m_l_lines T.F_l_lines.kp T.b_l_lines .nil Zl (Za (pv 0) (Za (pv 3) Zb))))
     (Zc (Zal (ZW (ZC Zcm (pv 1) Zf (ZI _)) (Zh (Zs (i:=4) Yu.nd rfl (Or.inl rfl) (Zv (Z6 (K:=K) rfl) (Zr G_l_long hr rfl T.m_l_long T.F_l_long.kp T.b_l_long .nil Zl (Za (pv 0) (Za (pv 3) Zb))) (pv 4)))) ZJ))
     (Zc (Zs (i:=5) Yu.nd rfl (Or.inr rfl) (Zr G_l_rates hr rfl T.m_l_rates T.F_l_rates.kp T.b_l_rates .nil Zl (Za (pv 4) (Za (pv 3) Zb))))
     (Zc (Zs (i:=4) Yu.nd rfl (Or.inl rfl) (Zr G_l_started hr rfl T.m_l_started T.F_l_started.kp T.b_l_started .nil Zl (Za (pv 0) (Za (pv 4) (Za (pv 5) Zb)))))
     (Zc (Zs (i:=6) Yu.nd rfl (Or.inl rfl) (Zjd T.mk_Hall G_Hall_init hr rfl T.g_Hall T.b_Hall_init .nil Zl))
     (Zc (Z5 PassesOwn.leaving rfl (Z4 rfl T.n_range (Za (pv 1) Zb)) (Zp (i:=7) Yu.nd rfl (Or.inl rfl)) (Zh (ZX (Yb (pv 6) T.cl_Hall T.M_Hall_work G_Hall_work hr T.b_Hall_work .nil Zl (Za (Zr G_l_name hr rfl T.m_l_name T.F_l_name.kp T.b_l_name .nil Zl (Za (pv 7) Zb)) Zb)))))
     (Zc (Z5 PassesOwn.leaving rfl (Z0 (K:=K) rfl (pv 4)) (YF (K:=K) (n:=5) rfl rfl (ZE (Zp (i:=8) Yu.nd rfl (Or.inl rfl)) (ZE (Zp (i:=9) Yu.nd rfl (Or.inl rfl)) (ZE (Zp (i:=10) Yu.nd rfl (Or.inl rfl)) (ZE (Zp (i:=11) Yu.nd rfl (Or.inl rfl)) (ZE (Zp (i:=12) Yu.nd rfl (Or.inl rfl)) YD)))))) (Zh (ZX (Yb (pv 6) T.cl_Hall T.M_Hall_belt G_Hall_belt hr T.b_Hall_belt .nil Zl (Za (pv 8) (Za (pv 9) (Za (pv 10) (Za (pv 11) (Za (pv 12) Zb)))))))))
     (Zc (ZW (Wh (Yr (K:=K) rfl (Zr G_l_told hr rfl T.m_l_told T.F_l_told.kp T.b_l_told .nil Zl (Za (pv 6) (Za (pv 4) (Za (pv 5) (Za (WE (Wc (K:=K) rfl hu) (Zv Yi (Zv Z3 (Zr G_l_mixed hr rfl T.m_l_mixed T.F_l_mixed.kp T.b_l_mixed .nil Zl (Za (pv 0) (Za Zf Zb))) Zf) Zf) Zf (ZI _)) Zb))))) (fun _=>rfl))) (Zh (Zw Wf)) ZJ)
     (Zc (Zs (i:=13) Yu.nd rfl (Or.inl rfl) (Zr G_l_filled hr rfl T.m_l_filled T.F_l_filled.kp T.b_l_filled .nil Zl (Za (pv 6) (Za (pv 4) (Za (Vh rfl (Yh (x:="_law_line") (zs:=["_law_rates_here"]) (ix:=[5]) (Zi ZaQ) ["_law_script","_law_many","_law_top","_law_sizes","_law_lines_here","_law_rates_here","_law_hall","_law_k","_law_giver","_law_taker","_law_give","_law_take","_law_start","_law_full","_law_again"] rfl rfl (by decide+kernel)) (Z0 (K:=K) rfl (pv 4)) (fun cl C s H fp=>⟨(Zp (i:=0) (show(["_law_line","_law_rates_here"]:List Str).Nodup by decide+kernel) rfl (Or.inl rfl)),Yg,(Zv YR (Zj (Zq (K:=K) rfl) (pv 0) Zf (fun _ _=>rfl)) (Zj (Zq (K:=K) rfl) (pv 1) (Zj (Zq (K:=K) rfl) (pv 0) Zf (fun _ _=>rfl)) (fun _ _=>rfl)))⟩)) Zb)))))
     (Zc (ZW (PW.pt (U0 (ZC ZbH (pv 13) WR (ZI _)) (V6 (Wh (Yr (K:=K) rfl (Zr G_l_told hr rfl T.m_l_told T.F_l_told.kp T.b_l_told .nil Zl (Za (pv 6) (Za (pv 13) (Za (pv 5) (Za Wf Zb))))) (fun _=>rfl)))))) (Zh (Zw Wf)) ZJ)
     (Zc (Zal (ZW (ZC U7 (pv 1) Zf (ZI _)) (Zc (Zs (i:=13) Yu.nd rfl (Or.inl rfl) (Zr G_l_filled hr rfl T.m_l_filled T.F_l_filled.kp T.b_l_filled .nil Zl (Za (pv 6) (Za (pv 13) (Za (Vh rfl (Yh (x:="_law_line") (zs:=[]) (ix:=[]) (Zi ZaQ) ["_law_script","_law_many","_law_top","_law_sizes","_law_lines_here","_law_rates_here","_law_hall","_law_k","_law_giver","_law_taker","_law_give","_law_take","_law_start","_law_full","_law_again"] rfl rfl (by decide+kernel)) (Z0 (K:=K) rfl (pv 4)) (fun cl C s H fp=>⟨(Zp (i:=0) (show(["_law_line"]:List Str).Nodup by decide+kernel) rfl (Or.inl rfl)),Yg,Zf⟩)) Zb)))))
     (Zh (ZW (PW.pt (U0 (ZC ZbH (pv 13) WR (ZI _)) (V6 (Wh (Yr (K:=K) rfl (Zr G_l_told hr rfl T.m_l_told T.F_l_told.kp T.b_l_told .nil Zl (Za (pv 6) (Za (pv 13) (Za (pv 5) (Za Wf Zb))))) (fun _=>rfl)))))) (Zh (Zw Wf)) ZJ))) ZJ))
     (Zc (Zs (i:=14) Yu.nd rfl (Or.inl rfl) (Zr G_l_filled hr rfl T.m_l_filled T.F_l_filled.kp T.b_l_filled .nil Zl (Za (pv 6) (Za (pv 13) (Za (Vh rfl (Yh (x:="_law_line") (zs:=[]) (ix:=[]) (Zi ZaQ) ["_law_script","_law_many","_law_top","_law_sizes","_law_lines_here","_law_rates_here","_law_hall","_law_k","_law_giver","_law_taker","_law_give","_law_take","_law_start","_law_full","_law_again"] rfl rfl (by decide+kernel)) (Z0 (K:=K) rfl (pv 4)) (fun cl C s H fp=>⟨(Zp (i:=0) (show(["_law_line"]:List Str).Nodup by decide+kernel) rfl (Or.inl rfl)),Yg,(Zj (Zq (K:=K) rfl) (pv 0) Zf (fun _ _=>rfl))⟩)) Zb)))))
     (Zh (Zw (ZbC (WE (Wc (K:=K) rfl hu) (pv 14) (pv 4) (ZI _)) (ZbF (Zr G_l_told hr rfl T.m_l_told T.F_l_told.kp T.b_l_told .nil Zl (Za (pv 6) (Za (pv 4) (Za (pv 5) (Za (WE (Wc (K:=K) rfl hu) (Zv Yi (Zv Z3 (Zr G_l_mixed hr rfl T.m_l_mixed T.F_l_mixed.kp T.b_l_mixed .nil Zl (Za (pv 0) (Za Zf Zb))) Zf) Zf) Zf (ZI _)) Zb))))))))))))))))))))))))),?_⟩
  try dsimp only[L2.cxX,L2.ZN,L2.Zn]
  clear G_l_told G_l_rates G_l_lines G_l_started G_l_long G_l_filled G_l_mixed G_l_name;walk_at "rds";rename_i m0 hm0 m00 m01;clear hm0;obtain⟨M0,eM0⟩:∃M0:Nat,1+m0 % 5=(M0:Int):=⟨(1+m0 % 5).toNat,by omega⟩;rw[eM0];refine Rd.cut (fun σ' H'=>H'=H∧∃M tp:Nat,σ'=[some (.ref p),some (.int M),some (.int tp),none,none,none,none,none,none,none,none,none,none,none,none]∧0<M∧M≤30∧0<tp∧tp≤12∧tp*M≤60) ?k1 ?i1
  case i1=>
   walk_at "rds";refine Rd.ifD (fun c=>?_) (fun c=>?_)
   ·walk_at "rds";rename_i mx2 hm2 z1 z2;obtain⟨M,eM⟩:∃M:Nat,6+mx2 / 640 % 25=(M:Int):=⟨(6+mx2 / 640 % 25).toNat,by omega⟩;rw[eM];exact⟨rfl,M,2,rfl,by omega,by omega,by omega,by omega,by omega⟩
   ·walk_at "rds";exact⟨rfl,M0,12,rfl,by omega,by omega,by omega,by omega,by omega⟩
  case k1=>
   rintro σ' H' ⟨rfl,M,tp,rfl,m1,m2,t1,t2,t3⟩;walk_at "rds";have tpp:(0:Int)<(tp:Int):=by omega
   refine YH (own:=1) VN.y (Zu (by omega)) (fun j=>[some (.int (0+(j:Int)))]) (fun _=>rfl) (fun _=>true) (fun j v _=>v= .int (1+Wd ns (1+(0+(j:Int))) % (tp:Int))) (fun _ _ _ _ _ z=>z) (fun i a' H' v H2 Kg hi sm y ha' k=>?_) (fun i H' Kc hi sm k=>?_) (fun pp i H' Kc hi hc hp0 hp1' sm k=>?_) (fun sa H1 ys hsa s1 hsa1 hR=>?_)
   ·obtain⟨rfl,rfl⟩:=y;obtain⟨x1,rfl⟩:∃x1,a'=[x1]:=by
     match a',ha' with
     | [x1],_=>exact⟨x1,rfl⟩
    walk_at "rds";exact k _ (Zd.refl _)
   ·walk_at "rds";exact k H' (Zd.refl H')
   ·have hS':=sm.seq hS;walk_at "rds";rename_i mx hmx mx0 mx1;rw[hmx];exact k _ H' (Zd.refl H') rfl
   rw[List.filter_eq_self.mpr (by simp),Int.toNat_natCast] at hR;have ey:=Zek hR;have hss:∀s∈(List.range M).map (fun j:Nat=>1+Wd ns (1+(0+(j:Int))) % (tp:Int)),1≤s∧s≤(tp:Int):=fun s hs=>by
    obtain⟨j,_,rfl⟩:=List.mem_map.mp hs;have:=Int.emod_nonneg (Wd ns (1+(0+(j:Int)))) (show(tp:Int)≠0 by omega);have:=Int.emod_lt_of_pos (Wd ns (1+(0+(j:Int)))) tpp;omega
   have hsl:((List.range M).map (fun j:Nat=>1+Wd ns (1+(0+(j:Int))) % (tp:Int))).length=M:=by simp
   generalize (List.range M).map (fun j:Nat=>1+Wd ns (1+(0+(j:Int))) % (tp:Int))=ss at*;subst ey;have hso:WU ss:=fun s hs=>by have:=hss s hs;omega
   have hS1:=s1.seq hS;have hA1:=SqL.of (K:=K) hsa1;walk_at "rds";refine⟨p,sa,ns,ss,rfl,hS1,hA1,hso,by omega,by omega,fun q0 H2 bs0 ls0 hq0 s2 hq2 hT2 l1 hd0=>?_⟩;have hA2:=s2.seq hA1;have hS2:=s2.seq hS1;walk_at "rds";refine Rd.cut (fun σ' H4=>∃(q:Addr)(bs:List V)(ls:List B5),σ'=[some (.ref p),some (.int M),some (.int tp),some (.ref sa),some (.ref q),none,none,none,none,none,none,none,none,none,none]∧Zd H2 H4∧H4 q=some (.lst bs)∧YB H4 bs ls∧ls.length≤36∧∀l∈ls,W4 ss l) ?k2 ?i2
   case i2=>
    walk_at "rds";refine Rd.ifD (fun c=>?_) (fun c=>?_)
    ·walk_at "rds";refine⟨p,sa,ns,ss,rfl,hS2,hA2,hso,by omega,by omega,fun q4 H4 bs4 ls4 hq4 s4 hq4' hT4 hl4 hd4=>?_⟩;have hq34:=s4 _ _ hq2;have hT34:=hT2.keep (H':=H4) fun b xs e=>s4 _ _ e;have hb1:=hT34.length;have hb2:=hT4.length;walk_at "rds";refine Rd.ZlM hq4' hq34 (Nat.le_of_lt (Zu (by omega))) (fun r hr6=>?_);have s6:Zd H4 (upd H4 r (.lst (bs4++bs0))):=Zo hr6;walk_at "rds";refine⟨r,bs4++bs0,ls4++ls0,rfl,s4.trans s6,Ze,Paired.app (hT4.keep fun b xs e=>s6 _ _ e) (hT34.keep fun b xs e=>s6 _ _ e),by rw[List.length_append];omega,fun l hl=>?_⟩;rcases List.mem_append.mp hl with z|z
     ·exact hd4 l z
     ·exact hd0 l z
    ·walk_at "rds";exact⟨q0,bs0,ls0,rfl,Zd.refl _,hq2,hT2,by omega,hd0⟩
   case k2=>
   clear hq2 hT2 hd0 l1 hq0;rintro σ' H2b ⟨q0,bs0,ls0,rfl,s2b,hq2,hT2,l1,hd0⟩;replace hA2:=s2b.seq hA2;replace hS2:=s2b.seq hS2;replace s2:=s2.trans s2b;clear s2b;have hb0:ZM ls0 ss.length:=Zbx hd0 rfl;walk_at "rds";refine⟨q0,sa,bs0,ls0,ss,rfl,hq2,hT2,hA2,hso,hb0,by omega,fun ra H3 rl hra s3 hra3 hRL=>?_⟩;have hS3:=s3.seq hS2;have hrb:∀r∈rl,0≤r∧r≤(tp:Int):=fun r hr=>by
    obtain⟨w,hw,e⟩:=List.getElem_of_mem hr;have hw':w<ss.length:=by rw[←hRL.1];exact hw
    obtain⟨ys,_,_,_,_,e2⟩:=hRL.2 w hw';rw[Zx hw,e] at e2;have h3:=hss (ss.getD w 0) (WL hw');have h4:(ss.getD w 0).toNat / gcdL ss ys≤(ss.getD w 0).toNat:=Nat.div_le_self _ _;generalize (ss.getD w 0).toNat / gcdL ss ys=z at*;omega
   walk_at "rds";refine⟨p,q0,ra,ns,bs0,ls0,ss,rl,rfl,hS3,s3 _ _ hq2,hT2.keep (fun b xs e=>s3 _ _ e),.of hra3,hRL.1,fun r hr=>(by have:=hrb r hr;omega),by omega,hd0,fun q H4 bs ls hq0' s4 hq4 hT4 hll hst=>?_⟩;obtain⟨hld,hRl⟩:=Zgx hll (fun j hj=>(let⟨s,a,b,_⟩:=hst j hj;⟨s,a,b⟩)) hd0 hRL;have hen:Wd ns 0 / 40 % 2=0→Zcj ls rl:=fun z j hj=>by
    obtain⟨s,s0,e1,e2⟩:=hst j (by omega);rw[Zx hj] at e1;rw[e1];have hL:=hd0 (ls0.getD j dB) (WL (by omega));generalize ls0.getD j dB=bb at*;obtain⟨gv,tk,x1,x2,_⟩:=hL.sz;have hr:=hL.rg;have hrl:=hRL.1;refine⟨by show 0≤bb.give;omega,by show 0≤bb.take;omega,hr.2.2.1,?_⟩;show bb.take*(ZO rl bb.taker.toNat:Int)≤s;rw[W9 (Zes hso hRL) (by omega),e2 z];exact Int.le_refl _
   have hra4:=s4 _ _ hra3;have s04:=s1.trans (s2.trans (s3.trans s4));clear hst hd0 hRL hT2 hq2 hb0;have hbl:=hT4.length;walk_at "rds";intro hp fp H5 hh hf sm;have hO5:WF K H5 fp p (ns.map V.int):=(hS.off (A:=fp) (fun x hx=>ZK s04 (hf x hx))).frame (s04.frame.trans sm.frame);have nq:q∉fp:=fun z=>by rw[hf q z] at hq4;cases hq4
   have nra:ra∉fp:=fun z=>by rw[hf ra z] at hra4;cases hra4
   walk_at "rds";refine YL (n:=M) (fun i σ H'=>∃fp' k0,σ=[some (.ref p),some (.int M),some (.int tp),some (.ref sa),some (.ref q),some (.ref ra),some (.ref hp),k0,none,none,none,none,none,none,none]∧ZB T H' hp ⟨(List.range i).map nameN,[]⟩ fp'∧H' q=some (.lst bs)∧Z8 H' bs ls∧q∉fp'∧H' ra=some (.lst (rl.map V.int))∧ra∉fp'∧WF K H' fp' p (ns.map V.int))
    ⟨fp,none,rfl,hh,sm _ _ hq4,hT4.keep (fun b xs e=>sm _ _ e),nq,sm _ _ hra4,nra,hO5⟩ ?_ ?_
   ·rintro i σ H' hi ⟨fp',k0,rfl,hh',hq',hT',nq',hra',nra',hO'⟩;walk_at "rds";have e:(0+(i:Int)).toNat=i:=by omega
    rw[e];refine Zfj hh' (ZjV i (by omega)) (Zim i (by omega)) (by simp;omega) (fun H2 fp2 hh2 fr gr=>?_);refine⟨fp2,_,rfl,?_,fr.keep _ _ hq' nq',hT'.keep fr.tups,gr.off nq' (by rw[hq'];simp),fr.keep _ _ hra' nra',gr.off nra' (by rw[hra'];simp),hO'.step fr gr⟩;rw[List.range_succ,List.map_append];exact hh2
   rintro σ H6 ⟨fp6,k0,rfl,hh6,hq6,hT6,nq6,hra6,nra6,hO6⟩;clear hq4 hT4 hra4 hh hf sm hO5 nq nra;walk_at "rds";refine WN (ZT (SqL.of (ZaB (q:=q) (o:= .lst bs)))) (fun i σ H'=>∃(fp':List Addr)(a1 a2 a3 a4 a5:Option V),σ=[some (.ref p),some (.int M),some (.int tp),some (.ref sa),some (.ref q),some (.ref ra),some (.ref hp),k0,a1,a2,a3,a4,a5,none,none]∧
    ZB T H' hp ⟨(List.range M).map nameN,ls.take i⟩ fp'∧H' q=some (.lst bs)∧Z8 H' bs ls∧q∉fp'∧H' ra=some (.lst (rl.map V.int))∧ra∉fp'∧WF K H' fp' p (ns.map V.int)) ⟨fp6,_,_,_,_,_,rfl,hh6,hq6,hT6,nq6,hra6,nra6,hO6⟩ ?_ ?_ ?_
   ·rintro i σ H' ⟨_,_,_,_,_,_,_,_,h,_⟩;exact ZaF h
   ·rintro i σ H7 hi ⟨fp7,a1,a2,a3,a4,a5,rfl,hh7,hq7,hT7,nq7,hra7,nra7,hO7⟩;have hil:i<ls.length:=by omega
    obtain⟨t,ht1,ht2⟩:=hT7.at (List.getElem?_eq_getElem hil);have eb:bs.getD i .non= .ref t:=by simp[List.getD,ht1]
    rw[eb];have hm:=hld _ (List.getElem_mem hil);have et:=List.take_succ_eq_append_getElem hil;refine Rd.VB (.of ht2) rfl ?_;generalize ls[i]=l at*;obtain⟨r1,r2,r3,r4⟩:=hm.rg;obtain⟨gv,tk,e1,e2,g0,t0,_,_,_⟩:=hm.sz;dsimp only[B5.v];walk_at "rds";refine ZfG hh7 r1 (by simp;omega) r3 (by simp;omega) (by omega) (by omega) hm.st (by simp;omega) (fun H8 fp8 hh8 fr8 gr8=>?_);refine⟨fp8,_,_,_,_,_,rfl,?_,fr8.keep _ _ hq7 nq7,hT7.keep fr8.tups,gr8.off nq7 (by rw[hq7];simp),fr8.keep _ _ hra7 nra7,gr8.off nra7 (by rw[hra7];simp),hO7.step fr8 gr8⟩;rw[et];exact hh8
   rintro σ H7 ⟨fp7,a1,a2,a3,a4,a5,rfl,hh7,hq7,hT7,nq7,hra7,nra7,hO7⟩;rw[hbl,List.take_length] at hh7;clear hh6 hq6 hT6 nq6 hra6 nra6 hO6;have hnl:((List.range M).map nameN).length=M:=by simp
   have hok:∀{ks:List B5},(∀l∈ks,W4 ss l)→Zav ks ss rl→ks.length≤60→ZeY ks ((List.range M).map nameN).length (zOf ss) rl:=fun a b c=>by rw[hnl];exact ZkD hso hsl a b c m2 hrb t3
   have hrp:∀r∈rl,1≤r:=Zes hso hRl;have S7:UM T H7 hp fp7 ((List.range M).map nameN) ls q bs ls ra rl p ns:=⟨hh7,hq7,hT7,nq7,hra7,nra7,hO7⟩;clear hh7 hq7 hT7 nq7 hra7 nra7 hO7;generalize (List.range M).map nameN=nms at*;have hS7:=S7.off.sq;walk_at "rds";rename_i m1 hm1 m10 m11;refine⟨hp,q,ra,_,⟨nms,ls⟩,fp7,bs,rl,zOf ss,rfl,S7.hall,S7.hq,S7.tq,S7.hra,hok hld hRl (show ls.length≤60 by omega),fun e=>hen (by rw[←hm1];exact of_decide_eq_true e),fun H8 s8=>?_⟩;have S8:=S7.same s8;clear S7;have hq8:=S8.hq;have hra8:=S8.hra;walk_at "rds";refine YA (ZT (SqL.of hq8)) (Zu (by omega)) (fun _=>true) (fun i=> .int ((ls.getD i dB).take*rl.getD (ls.getD i dB).taker.toNat 0)) (fun i H' Kc hi sm k=>?_) (fun i H' Kc hi _ sm k=>?_) (fun s1a H9 hs1 s9 hs1'=>?_)
   ·walk_at "rds";exact k H' (Zd.refl H')
   ·have hil:i<ls.length:=by omega
    obtain⟨t,ht1,ht2⟩:=S8.tq.getD (i:=i) hil;rw[ht1];have ht3:=sm _ _ ht2;have hL:=hld (ls.getD i dB) (WL hil);generalize ls.getD i dB=bb at*;obtain⟨r1,r2,r3,r4⟩:=hL.rg;obtain⟨gv,tk,e1,e2,g0,t0,_,tk1,_⟩:=hL.sz;have hrl:=hRl.1;have hr9:=sm _ _ hra8;have at1:=ZR (ns:=rl) (k:=bb.taker) r3 (by omega);have hr:=hrb _ (WL (d:=0) (show bb.taker.toNat<rl.length by omega));obtain⟨y,ey⟩:∃y:Nat,rl.getD bb.taker.toNat 0=(y:Int):=⟨(rl.getD bb.taker.toNat 0).toNat,by omega⟩;rw[ey] at at1 hr k;have mo:IntMulOk bb.take (y:Int):=by rw[e2];exact Zam tk1 (show y<2 ^ 110 by omega) (by decide)
    dsimp only[B5.v] at ht3;walk_at "rds";exact k H' (Zd.refl H')
   obtain⟨sts,ests,hstl,hstv⟩:∃sts:List Int,H9 s1a=some (.lst (sts.map V.int))∧sts.length=ls.length∧∀j<ls.length,sts.getD j 0=(ls.getD j dB).take*rl.getD (ls.getD j dB).taker.toNat 0:=by
    refine⟨(List.range ls.length).map fun i=>(ls.getD i dB).take*rl.getD (ls.getD i dB).taker.toNat 0,?_,by simp,fun j hj=>by simp[List.getD,hj]⟩;rw[hs1',List.filter_eq_self.mpr (by simp),List.map_map,hbl];rfl
   clear hs1';have ns1:s1a∉fp7:=fun z=>S8.hall.dom _ z hs1;have hst0:∀s∈sts,0≤s:=fun s hs=>by
    obtain⟨j,hj,e⟩:=List.getElem_of_mem hs;have h1:=hstv j (by omega);rw[Zx hj,e] at h1;have hL:=hld (ls.getD j dB) (WL (by omega));obtain⟨gv,tk,e1,e2,_⟩:=hL.sz;have hr:=hrb _ (WL (d:=0) (show(ls.getD j dB).taker.toNat<rl.length by have:=hL.rg;have:=hRl.1;omega));rw[h1];exact Int.mul_nonneg (by omega) hr.1
   have S9:=S8.same s9;clear S8;walk_at "rds";refine⟨hp,q,s1a,nms,fp7,bs,ls,sts,rfl,S9.hall,S9.hq,S9.tq,S9.nq,ests,ns1,hstl,by omega,hst0,fun fu Ha fpa bsf hfu fa ga hha hfa nfa hTa=>?_⟩;have Sa:=S9.step fa ga hha;clear S9 hha;obtain⟨hln,hRn⟩:=Zep hstl hst0 hld hRl;have henN:Zcj (Yx ls sts) rl:=fun j hj=>by
    have hj':j<ls.length:=by rw[Z1] at hj;exact hj
    have hL:=hld ls[j] (List.getElem_mem hj');have h1:=hstv j hj';rw[VF hj'];rw[Zx hj'] at h1;generalize ls[j]=bb at*;obtain⟨gv,tk,e1,e2,_⟩:=hL.sz;have hr:=hL.rg;have hrl:=hRl.1;refine⟨by show 0≤bb.give;omega,by show 0≤bb.take;omega,hr.2.2.1,?_⟩;show bb.take*(ZO rl bb.taker.toNat:Int)≤sts.getD j 0;rw[W9 hrp (by omega),h1];exact Int.le_refl _
   walk_at "rds";refine⟨rfl,?_⟩;walk_at "rds";refine⟨hp,fu,ra,true,⟨nms,Yx ls sts⟩,fpa,bsf,rl,zOf ss,rfl,Sa.hall,hfa,hTa,Sa.hra,hok hln hRn (by rw[Z1];omega),fun _=>henN,fun Hb sb=>?_⟩;have Sb:=Sa.same sb;have hfb:=sb _ _ hfa;have hTb:=hTa.keep (fun b xs e=>sb _ _ e);clear Sa hfa hTa;walk_at "rds";refine Rd.cut (fun σ' H'=>∃(fpc:List Addr)(fc:Addr)(bsc:List V)(stc:List Int),σ'=[some (.ref p),some (.int M),some (.int tp),some (.ref sa),some (.ref q),some (.ref ra),some (.ref hp),k0,a1,a2,a3,a4,a5,some (.ref fc),none]∧UM T H' hp fpc nms (Yx ls stc) q bs ls ra rl p ns∧H' fc=some (.lst bsc)∧Z8 H' bsc (Yx ls stc)∧fc∉fpc) ?k3 ?i3
   case i3=>
    walk_at "rds";refine Rd.ifD (fun c=>?_) (fun c=>?_)
    ·have hqb:=Sb.hq;walk_at "rds";refine YA (ZT (SqL.of hqb)) (Zu (by omega)) (fun _=>true) (fun i=> .int 0) (fun i H' Kc hi sm k=>?_) (fun i H' Kc hi _ sm k=>?_) (fun s1a Hc hs1 sc hs1'=>?_)
     ·walk_at "rds";exact k H' (Zd.refl H')
     ·walk_at "rds";exact k H' (Zd.refl H')
     obtain⟨st0,est0,hst0l,hst0v⟩:∃sts:List Int,Hc s1a=some (.lst (sts.map V.int))∧sts.length=ls.length∧∀s∈sts,0≤s:=by
      refine⟨(List.range ls.length).map fun i=>0,?_,by simp,fun s hs=>by obtain⟨_,_,rfl⟩:=List.mem_map.mp hs;exact Int.le_refl _⟩;rw[hs1',List.filter_eq_self.mpr (by simp),List.map_map,hbl];rfl
     have ns1:s1a∉fpa:=fun z=>Sb.hall.dom _ z hs1;have Sc:=Sb.same sc;have hfc:=sc _ _ hfb;have hTc:=hTb.keep (fun b xs e=>sc _ _ e);clear Sb hfb hTb;walk_at "rds";refine⟨hp,fu,s1a,nms,fpa,bsf,Yx ls sts,st0,rfl,Sc.hall,hfc,hTc,nfa,est0,ns1,by rw[Z1];exact hst0l,by rw[Z1];omega,hst0v,fun fd Hd fpd bsd hfd fd' gd hhd hfd1 nfd hTd=>?_⟩;rw[Zfg] at hhd hTd;have Sd:=Sc.step fd' gd hhd;clear Sc hhd;obtain⟨hln2,hRn2⟩:=Zep hst0l hst0v hld hRl;walk_at "rds";refine⟨rfl,?_⟩;walk_at "rds";refine⟨hp,fd,ra,false,⟨nms,Yx ls st0⟩,fpd,bsd,rl,zOf ss,rfl,Sd.hall,hfd1,hTd,Sd.hra,hok hln2 hRn2 (by rw[Z1];omega),(fun z=>nomatch z),fun He se=>?_⟩;walk_at "rds";exact⟨fpd,fd,bsd,st0,rfl,Sd.same se,se _ _ hfd1,hTd.keep (fun b xs e=>se _ _ e),nfd⟩
    ·walk_at "rds";exact⟨fpa,fu,bsf,sts,rfl,Sb,hfb,hTb,nfa⟩
   case k3=>
   clear Sb hfb hTb nfa henN hln hRn hst0 hstl hstv ests;rintro σ' Hc ⟨fpc,fc,bsc,stc,rfl,Sc,hfc,hTc,nfc⟩;have hqc:=Sc.hq;walk_at "rds";refine YA (ZT (SqL.of hqc)) (Zu (by omega)) (fun _=>true) (fun i=> .int (ls.getD i dB).start) (fun i H' Kc hi sm k=>?_) (fun i H' Kc hi _ sm k=>?_) (fun s2a Hd hs2 sd hs2'=>?_)
   ·walk_at "rds";exact k H' (Zd.refl H')
   ·obtain⟨t,ht1,ht2⟩:=Sc.tq.getD (i:=i) (by omega);rw[ht1];have ht3:=sm _ _ ht2;generalize ls.getD i dB=bb at*;dsimp only[B5.v] at ht3;walk_at "rds";exact k H' (Zd.refl H')
   have est:Hd s2a=some (.lst ((ZD ls).map V.int)):=by
    rw[hs2',List.filter_eq_self.mpr (by simp),hbl];refine congrArg (fun z=>some (HO.lst z)) ?_;unfold ZD;refine List.ext_getElem (by simp) fun i h1 h2=>?_;have:i<ls.length:=by simpa using h1
    simp[List.getD,this]
   have ns2:s2a∉fpc:=fun z=>Sc.hall.dom _ z hs2;have Sd:=Sc.same sd;have hfd:=sd _ _ hfc;have hTd:=hTc.keep (fun b xs e=>sd _ _ e);clear Sc hfc hTc;walk_at "rds";refine⟨hp,fc,s2a,nms,fpc,bsc,Yx ls stc,ZD ls,rfl,Sd.hall,hfd,hTd,nfc,est,ns2,by rw[Z1];simp[ZD],by rw[Z1];omega,fun s hs=>by obtain⟨b,hb,rfl⟩:=List.mem_map.mp hs;exact(hld b hb).st,fun ag He fpe bse hag fe ge hhe hage nag hTe=>?_⟩;rw[Zfg,ZiO] at hhe hTe;have Se:=Sd.step fe ge hhe;clear Sd hhe;have hqe:=Se.hq;have hTqe:=Se.tq;walk_at "rds";refine Rd.Zi8 (.lst (SqL.of hage) (ZdS hTe)) (.lst (SqL.of hqe) (ZdS hTqe)) (ZcO ls) (ZcO ls) (Zhg ls) ?_;rw[SeqAt.eqv_refl _ (ZcO ls)];have hSe:=Se.off.sq;walk_at "rds";rename_i m2 hm2 m20 m21;refine⟨hp,q,ra,_,⟨nms,ls⟩,fpe,bs,rl,zOf ss,rfl,Se.hall,hqe,hTqe,Se.hra,hok hld hRl (show ls.length≤60 by omega),fun e=>hen (by rw[←hm2];exact of_decide_eq_true e),fun Hf sf=>?_⟩;walk_at "rds";exact k _
end
abbrev nG(K:PySem.W.Frag)(x:Str)(f:Addr):Prop:=PySem.W.nsIn K mainGlobals x=some (some (.ref f))
abbrev mG(K:PySem.W.Frag)(C:Addr)(x:Str)(f:Addr):Prop:=PySem.W.findIn K (.ref C) x=some (some (.ref f))
abbrev iF(K:PySem.W.Frag)(f:Addr):Prop:=PySem.W.isFn K (.ref f)=true
abbrev lK(K:PySem.W.Frag)(f:Addr)(oc:Value)(od:Option Addr)(nm q:Str)(s:Stmt)(dv kV dc pm:Value)(an:Option Addr)(cd ct:Value)(sl:Array (Option Value)):Prop:=K.lookup f=some ⟨oc,od,.func (PySem.W.fnOf nm q (VM s) (WV s) (Zi s) dv kV dc pm an cd ct),sl⟩
abbrev cI(K:PySem.W.Frag)(cd:Value)(q:Str):Prop:=PySem.W.codeIn K cd q=true
abbrev kI(K:PySem.W.Frag)(f:Addr):Prop:=PySem.W.keepIn K (.ref f)=true
theorem VX{α:Type _}{P:List α→Prop}(h:∀a0,P [a0])(us:List α)(e:us.length=1):P us:=match us,e with| [a0],_=>h a0
theorem Yo{α:Type _}{P:List α→Prop}(h:∀a0 a1,P [a0,a1])(us:List α)(e:us.length=2):P us:=match us,e with| [a0,a1],_=>h a0 a1
theorem Zag{α:Type _}{P:List α→Prop}(h:∀a0 a1 a2,P [a0,a1,a2])(us:List α)(e:us.length=3):P us:=match us,e with| [a0,a1,a2],_=>h a0 a1 a2
theorem ZmT{α:Type _}{P:List α→Prop}(h:∀a0 a1 a2 a3,P [a0,a1,a2,a3])(us:List α)(e:us.length=4):P us:=match us,e with| [a0,a1,a2,a3],_=>h a0 a1 a2 a3
theorem Znq{α:Type _}{P:List α→Prop}(h:∀a0 a1 a2 a3 a4 a5,P [a0,a1,a2,a3,a4,a5])(us:List α)(e:us.length=6):P us:=match us,e with| [a0,a1,a2,a3,a4,a5],_=>h a0 a1 a2 a3 a4 a5
theorem tp_mk{K:PySem.W.Frag}{h:Heap}{mg:Str→Option Value}(X:K.In h)(G:h.Ns mainGlobals mg)
  {C_Course:Addr}
  {C_Hall:Addr}
  {X_NoName:Addr}
  {X_Twice:Addr}
  {X_TooMuch:Addr}
  {X_NoWork:Addr}
  {X_NoBelt:Addr}
  {X_NoRate:Addr}
  {X_NotBalanced:Addr}
  {X_TooLong:Addr}
  {tk_MOST_TURNS:Tok}
  {tk_MOST_LETTERS:Tok}
  {tk_MOST_WORKS:Tok}
  {tk_MOST_BELTS:Tok}
  {dT_Hall_belt:Addr} {od2_Hall_belt:Option Addr} {sl2_Hall_belt:Array (Option Value)} {n2_Hall_belt:Nat} {oc2_Hall_belt:Value} {dk0_Hall_belt:Tok}
  {f_0:Addr} {od_0 an_0:Option Addr} {sl_0:Array (Option Value)} {oc_0 kV_0 dc_0 pm_0 cd_0 ct_0:Value}
  {f_1:Addr} {od_1 an_1:Option Addr} {sl_1:Array (Option Value)} {oc_1 kV_1 dc_1 pm_1 cd_1 ct_1:Value}
  {f_2:Addr} {od_2 an_2:Option Addr} {sl_2:Array (Option Value)} {oc_2 kV_2 dc_2 pm_2 cd_2 ct_2:Value}
  {f_3:Addr} {od_3 an_3:Option Addr} {sl_3:Array (Option Value)} {oc_3 kV_3 dc_3 pm_3 cd_3 ct_3:Value}
  {f_4:Addr} {od_4 an_4:Option Addr} {sl_4:Array (Option Value)} {oc_4 kV_4 dc_4 pm_4 cd_4 ct_4:Value}
  {f_5:Addr} {od_5 an_5:Option Addr} {sl_5:Array (Option Value)} {oc_5 kV_5 dc_5 pm_5 cd_5 ct_5:Value}
  {f_6:Addr} {od_6 an_6:Option Addr} {sl_6:Array (Option Value)} {oc_6 kV_6 dc_6 pm_6 cd_6 ct_6:Value}
  {f_7:Addr} {od_7 an_7:Option Addr} {sl_7:Array (Option Value)} {oc_7 kV_7 dc_7 pm_7 cd_7 ct_7:Value}
  {f_8:Addr} {od_8 an_8:Option Addr} {sl_8:Array (Option Value)} {oc_8 kV_8 dc_8 pm_8 cd_8 ct_8:Value}
  {f_9:Addr} {od_9 an_9:Option Addr} {sl_9:Array (Option Value)} {oc_9 kV_9 dc_9 pm_9 cd_9 ct_9:Value}
  {f_10:Addr} {od_10 an_10:Option Addr} {sl_10:Array (Option Value)} {oc_10 kV_10 dc_10 pm_10 cd_10 ct_10:Value}
  {f_11:Addr} {od_11 an_11:Option Addr} {sl_11:Array (Option Value)} {oc_11 kV_11 dc_11 pm_11 cd_11 ct_11:Value}
  {f_12:Addr} {od_12 an_12:Option Addr} {sl_12:Array (Option Value)} {oc_12 kV_12 dc_12 pm_12 cd_12 ct_12:Value}
  {f_13:Addr} {od_13 an_13:Option Addr} {sl_13:Array (Option Value)} {oc_13 kV_13 dc_13 pm_13 cd_13 ct_13:Value}
  {f_14:Addr} {od_14 an_14:Option Addr} {sl_14:Array (Option Value)} {oc_14 kV_14 dc_14 pm_14 cd_14 ct_14:Value}
  {f_15:Addr} {od_15 an_15:Option Addr} {sl_15:Array (Option Value)} {oc_15 kV_15 dc_15 pm_15 cd_15 ct_15:Value}
  {f_16:Addr} {od_16 an_16:Option Addr} {sl_16:Array (Option Value)} {oc_16 kV_16 dc_16 pm_16 cd_16 ct_16:Value}
  {f_17:Addr} {od_17 an_17:Option Addr} {sl_17:Array (Option Value)} {oc_17 kV_17 dc_17 pm_17 cd_17 ct_17:Value}
  {f_18:Addr} {od_18 an_18:Option Addr} {sl_18:Array (Option Value)} {oc_18 kV_18 dc_18 pm_18 cd_18 ct_18:Value}
  {f_19:Addr} {od_19 an_19:Option Addr} {sl_19:Array (Option Value)} {oc_19 kV_19 dc_19 pm_19 cd_19 ct_19:Value}
  {f_20:Addr} {od_20 an_20:Option Addr} {sl_20:Array (Option Value)} {oc_20 kV_20 dc_20 pm_20 cd_20 ct_20:Value}
  {f_21:Addr} {od_21 an_21:Option Addr} {sl_21:Array (Option Value)} {oc_21 kV_21 dc_21 pm_21 cd_21 ct_21:Value}
  {f_22:Addr} {od_22 an_22:Option Addr} {sl_22:Array (Option Value)} {oc_22 kV_22 dc_22 pm_22 cd_22 ct_22:Value}
  {f_23:Addr} {od_23 an_23:Option Addr} {sl_23:Array (Option Value)} {oc_23 kV_23 dc_23 pm_23 cd_23 ct_23:Value}
  {f_24:Addr} {od_24 an_24:Option Addr} {sl_24:Array (Option Value)} {oc_24 kV_24 dc_24 pm_24 cd_24 ct_24:Value}
  {f_25:Addr} {od_25 an_25:Option Addr} {sl_25:Array (Option Value)} {oc_25 kV_25 dc_25 pm_25 cd_25 ct_25:Value}
  {f_26:Addr} {od_26 an_26:Option Addr} {sl_26:Array (Option Value)} {oc_26 kV_26 dc_26 pm_26 cd_26 ct_26:Value}
  {f_27:Addr} {od_27 an_27:Option Addr} {sl_27:Array (Option Value)} {oc_27 kV_27 dc_27 pm_27 cd_27 ct_27:Value}
  {f_28:Addr} {od_28 an_28:Option Addr} {sl_28:Array (Option Value)} {oc_28 kV_28 dc_28 pm_28 cd_28 ct_28:Value}
  {f_29:Addr} {od_29 an_29:Option Addr} {sl_29:Array (Option Value)} {oc_29 kV_29 dc_29 pm_29 cd_29 ct_29:Value}
  {f_30:Addr} {od_30 an_30:Option Addr} {sl_30:Array (Option Value)} {oc_30 kV_30 dc_30 pm_30 cd_30 ct_30:Value}
  {f_31:Addr} {od_31 an_31:Option Addr} {sl_31:Array (Option Value)} {oc_31 kV_31 dc_31 pm_31 cd_31 ct_31:Value}
  {f_32:Addr} {od_32 an_32:Option Addr} {sl_32:Array (Option Value)} {oc_32 kV_32 dc_32 pm_32 cd_32 ct_32:Value}
  {f_33:Addr} {od_33 an_33:Option Addr} {sl_33:Array (Option Value)} {oc_33 kV_33 dc_33 pm_33 cd_33 ct_33:Value}
  {f_34:Addr} {od_34 an_34:Option Addr} {sl_34:Array (Option Value)} {oc_34 kV_34 dc_34 pm_34 cd_34 ct_34:Value}
  {f_35:Addr} {od_35 an_35:Option Addr} {sl_35:Array (Option Value)} {oc_35 kV_35 dc_35 pm_35 cd_35 ct_35:Value}
  {f_36:Addr} {od_36 an_36:Option Addr} {sl_36:Array (Option Value)} {oc_36 kV_36 dc_36 pm_36 cd_36 ct_36:Value}
  {f_37:Addr} {od_37 an_37:Option Addr} {sl_37:Array (Option Value)} {oc_37 kV_37 dc_37 pm_37 cd_37 ct_37:Value}
  {f_38:Addr} {od_38 an_38:Option Addr} {sl_38:Array (Option Value)} {oc_38 kV_38 dc_38 pm_38 cd_38 ct_38:Value}
  {f_39:Addr} {od_39 an_39:Option Addr} {sl_39:Array (Option Value)} {oc_39 kV_39 dc_39 pm_39 cd_39 ct_39:Value}
  {f_40:Addr} {od_40 an_40:Option Addr} {sl_40:Array (Option Value)} {oc_40 kV_40 dc_40 pm_40 cd_40 ct_40:Value}
  {f_41:Addr} {od_41 an_41:Option Addr} {sl_41:Array (Option Value)} {oc_41 kV_41 dc_41 pm_41 cd_41 ct_41:Value}
  {f_42:Addr} {od_42 an_42:Option Addr} {sl_42:Array (Option Value)} {oc_42 kV_42 dc_42 pm_42 cd_42 ct_42:Value}
  {f_43:Addr} {od_43 an_43:Option Addr} {sl_43:Array (Option Value)} {oc_43 kV_43 dc_43 pm_43 cd_43 ct_43:Value}
  {f_44:Addr} {od_44 an_44:Option Addr} {sl_44:Array (Option Value)} {oc_44 kV_44 dc_44 pm_44 cd_44 ct_44:Value}
  {f_45:Addr} {od_45 an_45:Option Addr} {sl_45:Array (Option Value)} {oc_45 kV_45 dc_45 pm_45 cd_45 ct_45:Value}
  {f_46:Addr} {od_46 an_46:Option Addr} {sl_46:Array (Option Value)} {oc_46 kV_46 dc_46 pm_46 cd_46 ct_46:Value}
  {f_47:Addr} {od_47 an_47:Option Addr} {sl_47:Array (Option Value)} {oc_47 kV_47 dc_47 pm_47 cd_47 ct_47:Value}
  {f_48:Addr} {od_48 an_48:Option Addr} {sl_48:Array (Option Value)} {oc_48 kV_48 dc_48 pm_48 cd_48 ct_48:Value}
  {f_49:Addr} {od_49 an_49:Option Addr} {sl_49:Array (Option Value)} {oc_49 kV_49 dc_49 pm_49 cd_49 ct_49:Value}
  {f_50:Addr} {od_50 an_50:Option Addr} {sl_50:Array (Option Value)} {oc_50 kV_50 dc_50 pm_50 cd_50 ct_50:Value}
  {f_51:Addr} {od_51 an_51:Option Addr} {sl_51:Array (Option Value)} {oc_51 kV_51 dc_51 pm_51 cd_51 ct_51:Value}
  {f_52:Addr} {od_52 an_52:Option Addr} {sl_52:Array (Option Value)} {oc_52 kV_52 dc_52 pm_52 cd_52 ct_52:Value}
  {f_53:Addr} {od_53 an_53:Option Addr} {sl_53:Array (Option Value)} {oc_53 kV_53 dc_53 pm_53 cd_53 ct_53:Value}
  {f_54:Addr} {od_54 an_54:Option Addr} {sl_54:Array (Option Value)} {oc_54 kV_54 dc_54 pm_54 cd_54 ct_54:Value}
  {f_55:Addr} {od_55 an_55:Option Addr} {sl_55:Array (Option Value)} {oc_55 kV_55 dc_55 pm_55 cd_55 ct_55:Value}
  {f_56:Addr} {od_56 an_56:Option Addr} {sl_56:Array (Option Value)} {oc_56 kV_56 dc_56 pm_56 cd_56 ct_56:Value}
  {f_57:Addr} {od_57 an_57:Option Addr} {sl_57:Array (Option Value)} {oc_57 kV_57 dc_57 pm_57 cd_57 ct_57:Value}
  {f_58:Addr} {od_58 an_58:Option Addr} {sl_58:Array (Option Value)} {oc_58 kV_58 dc_58 pm_58 cd_58 ct_58:Value}
  (a_Course:PySem.W.nsIn K mainGlobals "Course" =some (some (.ref C_Course)))
  (a_Hall:PySem.W.nsIn K mainGlobals "Hall" =some (some (.ref C_Hall)))
  (a_0:nG K "_law_cell" f_0)
  (l_0:lK K f_0 oc_0 od_0 "_law_cell" "_law_cell" Zbb .none kV_0 dc_0 pm_0 an_0 cd_0 ct_0 sl_0)
  (c_0:cI K cd_0 "_law_cell")
  (k_0:kI K f_0)
  (a_1:nG K "_law_mixed" f_1)
  (l_1:lK K f_1 oc_1 od_1 "_law_mixed" "_law_mixed" ZaE .none kV_1 dc_1 pm_1 an_1 cd_1 ct_1 sl_1)
  (c_1:cI K cd_1 "_law_mixed")
  (k_1:kI K f_1)
  (a_2:nG K "_law_divisor" f_2)
  (l_2:lK K f_2 oc_2 od_2 "_law_divisor" "_law_divisor" Uw .none kV_2 dc_2 pm_2 an_2 cd_2 ct_2 sl_2)
  (c_2:cI K cd_2 "_law_divisor")
  (k_2:kI K f_2)
  (a_3:nG K "_law_lines" f_3)
  (l_3:lK K f_3 oc_3 od_3 "_law_lines" "_law_lines" ZaH .none kV_3 dc_3 pm_3 an_3 cd_3 ct_3 sl_3)
  (c_3:cI K cd_3 "_law_lines")
  (k_3:kI K f_3)
  (a_4:nG K "_law_reached" f_4)
  (l_4:lK K f_4 oc_4 od_4 "_law_reached" "_law_reached" Us .none kV_4 dc_4 pm_4 an_4 cd_4 ct_4 sl_4)
  (c_4:cI K cd_4 "_law_reached")
  (k_4:kI K f_4)
  (a_5:nG K "_law_rates" f_5)
  (l_5:lK K f_5 oc_5 od_5 "_law_rates" "_law_rates" ZaG .none kV_5 dc_5 pm_5 an_5 cd_5 ct_5 sl_5)
  (c_5:cI K cd_5 "_law_rates")
  (k_5:kI K f_5)
  (a_6:nG K "_law_started" f_6)
  (l_6:lK K f_6 oc_6 od_6 "_law_started" "_law_started" Ux .none kV_6 dc_6 pm_6 an_6 cd_6 ct_6 sl_6)
  (c_6:cI K cd_6 "_law_started")
  (k_6:kI K f_6)
  (a_7:nG K "is_whole" f_7)
  (l_7:lK K f_7 oc_7 od_7 "is_whole" "is_whole" U4 .none kV_7 dc_7 pm_7 an_7 cd_7 ct_7 sl_7)
  (c_7:cI K cd_7 "is_whole")
  (k_7:kI K f_7)
  (a_8:nG K "is_from" f_8)
  (l_8:lK K f_8 oc_8 od_8 "is_from" "is_from" ZaL .none kV_8 dc_8 pm_8 an_8 cd_8 ct_8 sl_8)
  (c_8:cI K cd_8 "is_from")
  (k_8:kI K f_8)
  (a_9:nG K "need_start" f_9)
  (l_9:lK K f_9 oc_9 od_9 "need_start" "need_start" V2 .none kV_9 dc_9 pm_9 an_9 cd_9 ct_9 sl_9)
  (c_9:cI K cd_9 "need_start")
  (k_9:kI K f_9)
  (a_10:nG K "is_number_below" f_10)
  (l_10:lK K f_10 oc_10 od_10 "is_number_below" "is_number_below" Wt .none kV_10 dc_10 pm_10 an_10 cd_10 ct_10 sl_10)
  (c_10:cI K cd_10 "is_number_below")
  (k_10:kI K f_10)
  (a_11:mG K C_Hall "need_belt" f_11)
  (i_11:iF K f_11)
  (l_11:lK K f_11 oc_11 od_11 "need_belt" "Hall.need_belt" WJ .none kV_11 dc_11 pm_11 an_11 cd_11 ct_11 sl_11)
  (c_11:cI K cd_11 "Hall.need_belt")
  (k_11:kI K f_11)
  (a_12:mG K C_Hall "fill" f_12)
  (i_12:iF K f_12)
  (l_12:lK K f_12 oc_12 od_12 "fill" "Hall.fill" Uq .none kV_12 dc_12 pm_12 an_12 cd_12 ct_12 sl_12)
  (c_12:cI K cd_12 "Hall.fill")
  (k_12:kI K f_12)
  (a_13:nG K "_law_filled" f_13)
  (l_13:lK K f_13 oc_13 od_13 "_law_filled" "_law_filled" U6 .none kV_13 dc_13 pm_13 an_13 cd_13 ct_13 sl_13)
  (c_13:cI K cd_13 "_law_filled")
  (k_13:kI K f_13)
  (a_14:mG K C_Hall "belts" f_14)
  (i_14:iF K f_14)
  (l_14:lK K f_14 oc_14 od_14 "belts" "Hall.belts" V3 .none kV_14 dc_14 pm_14 an_14 cd_14 ct_14 sl_14)
  (c_14:cI K cd_14 "Hall.belts")
  (k_14:kI K f_14)
  (a_15:nG K "starts_of" f_15)
  (l_15:lK K f_15 oc_15 od_15 "starts_of" "starts_of" Vq .none kV_15 dc_15 pm_15 an_15 cd_15 ct_15 sl_15)
  (c_15:cI K cd_15 "starts_of")
  (k_15:kI K f_15)
  (a_16:mG K C_Hall "names" f_16)
  (i_16:iF K f_16)
  (l_16:lK K f_16 oc_16 od_16 "names" "Hall.names" Ud .none kV_16 dc_16 pm_16 an_16 cd_16 ct_16 sl_16)
  (c_16:cI K cd_16 "Hall.names")
  (k_16:kI K f_16)
  (a_17:nG K "ways_of" f_17)
  (l_17:lK K f_17 oc_17 od_17 "ways_of" "ways_of" UH .none kV_17 dc_17 pm_17 an_17 cd_17 ct_17 sl_17)
  (c_17:cI K cd_17 "ways_of")
  (k_17:kI K f_17)
  (a_18:nG K "tree_from" f_18)
  (l_18:lK K f_18 oc_18 od_18 "tree_from" "tree_from" Uy .none kV_18 dc_18 pm_18 an_18 cd_18 ct_18 sl_18)
  (c_18:cI K cd_18 "tree_from")
  (k_18:kI K f_18)
  (a_19:nG K "forest_of" f_19)
  (l_19:lK K f_19 oc_19 od_19 "forest_of" "forest_of" UC .none kV_19 dc_19 pm_19 an_19 cd_19 ct_19 sl_19)
  (c_19:cI K cd_19 "forest_of")
  (k_19:kI K f_19)
  (a_20:nG K "divisor" f_20)
  (l_20:lK K f_20 oc_20 od_20 "divisor" "divisor" Zay .none kV_20 dc_20 pm_20 an_20 cd_20 ct_20 sl_20)
  (c_20:cI K cd_20 "divisor")
  (k_20:kI K f_20)
  (a_21:nG K "ratio" f_21)
  (l_21:lK K f_21 oc_21 od_21 "ratio" "ratio" Zcl .none kV_21 dc_21 pm_21 an_21 cd_21 ct_21 sl_21)
  (c_21:cI K cd_21 "ratio")
  (k_21:kI K f_21)
  (a_22:nG K "times" f_22)
  (l_22:lK K f_22 oc_22 od_22 "times" "times" Zck .none kV_22 dc_22 pm_22 an_22 cd_22 ct_22 sl_22)
  (c_22:cI K cd_22 "times")
  (k_22:kI K f_22)
  (a_23:nG K "gain" f_23)
  (l_23:lK K f_23 oc_23 od_23 "gain" "gain" ZdN .none kV_23 dc_23 pm_23 an_23 cd_23 ct_23 sl_23)
  (c_23:cI K cd_23 "gain")
  (k_23:kI K f_23)
  (a_24:mG K C_Hall "belt_at" f_24)
  (i_24:iF K f_24)
  (l_24:lK K f_24 oc_24 od_24 "belt_at" "Hall.belt_at" Vf .none kV_24 dc_24 pm_24 an_24 cd_24 ct_24 sl_24)
  (c_24:cI K cd_24 "Hall.belt_at")
  (k_24:kI K f_24)
  (a_25:nG K "shares_of" f_25)
  (l_25:lK K f_25 oc_25 od_25 "shares_of" "shares_of" Ur .none kV_25 dc_25 pm_25 an_25 cd_25 ct_25 sl_25)
  (c_25:cI K cd_25 "shares_of")
  (k_25:kI K f_25)
  (a_26:nG K "multiple" f_26)
  (l_26:lK K f_26 oc_26 od_26 "multiple" "multiple" U5 .none kV_26 dc_26 pm_26 an_26 cd_26 ct_26 sl_26)
  (c_26:cI K cd_26 "multiple")
  (k_26:kI K f_26)
  (a_27:nG K "rates_by" f_27)
  (l_27:lK K f_27 oc_27 od_27 "rates_by" "rates_by" V7 .none kV_27 dc_27 pm_27 an_27 cd_27 ct_27 sl_27)
  (c_27:cI K cd_27 "rates_by")
  (k_27:kI K f_27)
  (a_28:nG K "change_of" f_28)
  (l_28:lK K f_28 oc_28 od_28 "change_of" "change_of" Vs .none kV_28 dc_28 pm_28 an_28 cd_28 ct_28 sl_28)
  (c_28:cI K cd_28 "change_of")
  (k_28:kI K f_28)
  (a_29:nG K "way_to" f_29)
  (l_29:lK K f_29 oc_29 od_29 "way_to" "way_to" Za7 .none kV_29 dc_29 pm_29 an_29 cd_29 ct_29 sl_29)
  (c_29:cI K cd_29 "way_to")
  (k_29:kI K f_29)
  (a_30:nG K "shared_steps" f_30)
  (l_30:lK K f_30 oc_30 od_30 "shared_steps" "shared_steps" Vi .none kV_30 dc_30 pm_30 an_30 cd_30 ct_30 sl_30)
  (c_30:cI K cd_30 "shared_steps")
  (k_30:kI K f_30)
  (a_31:nG K "ring_through" f_31)
  (l_31:lK K f_31 oc_31 od_31 "ring_through" "ring_through" Vk .none kV_31 dc_31 pm_31 an_31 cd_31 ct_31 sl_31)
  (c_31:cI K cd_31 "ring_through")
  (k_31:kI K f_31)
  (a_32:nG K "rates_of" f_32)
  (l_32:lK K f_32 oc_32 od_32 "rates_of" "rates_of" U3 .none kV_32 dc_32 pm_32 an_32 cd_32 ct_32 sl_32)
  (c_32:cI K cd_32 "rates_of")
  (k_32:kI K f_32)
  (a_33:nG K "round_rates" f_33)
  (l_33:lK K f_33 oc_33 od_33 "round_rates" "round_rates" Vy .none kV_33 dc_33 pm_33 an_33 cd_33 ct_33 sl_33)
  (c_33:cI K cd_33 "round_rates")
  (k_33:kI K f_33)
  (a_34:nG K "enough" f_34)
  (l_34:lK K f_34 oc_34 od_34 "enough" "enough" Zah .none kV_34 dc_34 pm_34 an_34 cd_34 ct_34 sl_34)
  (c_34:cI K cd_34 "enough")
  (k_34:kI K f_34)
  (a_35:mG K C_Course "row_from" f_35)
  (i_35:iF K f_35)
  (l_35:lK K f_35 oc_35 od_35 "row_from" "Course.row_from" YY .none kV_35 dc_35 pm_35 an_35 cd_35 ct_35 sl_35)
  (c_35:cI K cd_35 "Course.row_from")
  (k_35:kI K f_35)
  (a_36:mG K C_Course "waits_behind" f_36)
  (i_36:iF K f_36)
  (l_36:lK K f_36 oc_36 od_36 "waits_behind" "Course.waits_behind" YS .none kV_36 dc_36 pm_36 an_36 cd_36 ct_36 sl_36)
  (c_36:cI K cd_36 "Course.waits_behind")
  (k_36:kI K f_36)
  (a_37:mG K C_Course "ring_behind" f_37)
  (i_37:iF K f_37)
  (l_37:lK K f_37 oc_37 od_37 "ring_behind" "Course.ring_behind" Y0 .none kV_37 dc_37 pm_37 an_37 cd_37 ct_37 sl_37)
  (c_37:cI K cd_37 "Course.ring_behind")
  (k_37:kI K f_37)
  (a_38:mG K C_Course "told_from" f_38)
  (i_38:iF K f_38)
  (l_38:lK K f_38 oc_38 od_38 "told_from" "Course.told_from" YN .none kV_38 dc_38 pm_38 an_38 cd_38 ct_38 sl_38)
  (c_38:cI K cd_38 "Course.told_from")
  (k_38:kI K f_38)
  (a_39:mG K C_Hall "need_work" f_39)
  (i_39:iF K f_39)
  (l_39:lK K f_39 oc_39 od_39 "need_work" "Hall.need_work" WK .none kV_39 dc_39 pm_39 an_39 cd_39 ct_39 sl_39)
  (c_39:cI K cd_39 "Hall.need_work")
  (k_39:kI K f_39)
  (a_40:mG K C_Hall "entering" f_40)
  (i_40:iF K f_40)
  (l_40:lK K f_40 oc_40 od_40 "entering" "Hall.entering" Wk .none kV_40 dc_40 pm_40 an_40 cd_40 ct_40 sl_40)
  (c_40:cI K cd_40 "Hall.entering")
  (k_40:kI K f_40)
  (a_41:nG K "takes_of" f_41)
  (l_41:lK K f_41 oc_41 od_41 "takes_of" "takes_of" VW .none kV_41 dc_41 pm_41 an_41 cd_41 ct_41 sl_41)
  (c_41:cI K cd_41 "takes_of")
  (k_41:kI K f_41)
  (a_42:mG K C_Hall "leaving" f_42)
  (i_42:iF K f_42)
  (l_42:lK K f_42 oc_42 od_42 "leaving" "Hall.leaving" WB .none kV_42 dc_42 pm_42 an_42 cd_42 ct_42 sl_42)
  (c_42:cI K cd_42 "Hall.leaving")
  (k_42:kI K f_42)
  (a_43:nG K "gives_of" f_43)
  (l_43:lK K f_43 oc_43 od_43 "gives_of" "gives_of" V4 .none kV_43 dc_43 pm_43 an_43 cd_43 ct_43 sl_43)
  (c_43:cI K cd_43 "gives_of")
  (k_43:kI K f_43)
  (a_44:nG K "touched_by" f_44)
  (l_44:lK K f_44 oc_44 od_44 "touched_by" "touched_by" WZ .none kV_44 dc_44 pm_44 an_44 cd_44 ct_44 sl_44)
  (c_44:cI K cd_44 "touched_by")
  (k_44:kI K f_44)
  (a_45:mG K C_Course "__init__" f_45)
  (i_45:iF K f_45)
  (l_45:lK K f_45 oc_45 od_45 "__init__" "Course.__init__" YU .none kV_45 dc_45 pm_45 an_45 cd_45 ct_45 sl_45)
  (c_45:cI K cd_45 "Course.__init__")
  (k_45:kI K f_45)
  (a_46:nG K "round_of" f_46)
  (l_46:lK K f_46 oc_46 od_46 "round_of" "round_of" U2 .none kV_46 dc_46 pm_46 an_46 cd_46 ct_46 sl_46)
  (c_46:cI K cd_46 "round_of")
  (k_46:kI K f_46)
  (a_47:nG K "_law_shift" f_47)
  (l_47:lK K f_47 oc_47 od_47 "_law_shift" "_law_shift" Zax .none kV_47 dc_47 pm_47 an_47 cd_47 ct_47 sl_47)
  (c_47:cI K cd_47 "_law_shift")
  (k_47:kI K f_47)
  (a_48:nG K "_law_ready" f_48)
  (l_48:lK K f_48 oc_48 od_48 "_law_ready" "_law_ready" ZaO .none kV_48 dc_48 pm_48 an_48 cd_48 ct_48 sl_48)
  (c_48:cI K cd_48 "_law_ready")
  (k_48:kI K f_48)
  (a_49:nG K "_law_walked" f_49)
  (l_49:lK K f_49 oc_49 od_49 "_law_walked" "_law_walked" WO .none kV_49 dc_49 pm_49 an_49 cd_49 ct_49 sl_49)
  (c_49:cI K cd_49 "_law_walked")
  (k_49:kI K f_49)
  (a_50:nG K "_law_told" f_50)
  (l_50:lK K f_50 oc_50 od_50 "_law_told" "_law_told" Zbg .none kV_50 dc_50 pm_50 an_50 cd_50 ct_50 sl_50)
  (c_50:cI K cd_50 "_law_told")
  (k_50:kI K f_50)
  (a_51:nG K "_law_long" f_51)
  (l_51:lK K f_51 oc_51 od_51 "_law_long" "_law_long" Zbq .none kV_51 dc_51 pm_51 an_51 cd_51 ct_51 sl_51)
  (c_51:cI K cd_51 "_law_long")
  (k_51:kI K f_51)
  (a_52:nG K "_law_name" f_52)
  (l_52:lK K f_52 oc_52 od_52 "_law_name" "_law_name" Zbi .none kV_52 dc_52 pm_52 an_52 cd_52 ct_52 sl_52)
  (c_52:cI K cd_52 "_law_name")
  (k_52:kI K f_52)
  (a_53:nG K "is_name" f_53)
  (l_53:lK K f_53 oc_53 od_53 "is_name" "is_name" UF .none kV_53 dc_53 pm_53 an_53 cd_53 ct_53 sl_53)
  (c_53:cI K cd_53 "is_name")
  (k_53:kI K f_53)
  (a_54:mG K C_Hall "work" f_54)
  (i_54:iF K f_54)
  (l_54:lK K f_54 oc_54 od_54 "work" "Hall.work" Uu .none kV_54 dc_54 pm_54 an_54 cd_54 ct_54 sl_54)
  (c_54:cI K cd_54 "Hall.work")
  (k_54:kI K f_54)
  (a_55:mG K C_Hall "lay" f_55)
  (i_55:iF K f_55)
  (l_55:lK K f_55 oc_55 od_55 "lay" "Hall.lay" UU .none kV_55 dc_55 pm_55 an_55 cd_55 ct_55 sl_55)
  (c_55:cI K cd_55 "Hall.lay")
  (k_55:kI K f_55)
  (a_56:mG K C_Hall "belt" f_56)
  (i_56:iF K f_56)
  (l_56:lK K f_56 oc_56 od_56 "belt" "Hall.belt" UB (.ref dT_Hall_belt) kV_56 dc_56 pm_56 an_56 cd_56 ct_56 sl_56)
  (t_Hall_belt:K.lookup dT_Hall_belt=some ⟨oc2_Hall_belt,od2_Hall_belt,.seq #[.int 0 dk0_Hall_belt] n2_Hall_belt,sl2_Hall_belt⟩)
  (c_56:cI K cd_56 "Hall.belt")
  (k_56:kI K f_56)
  (a_57:mG K C_Hall "__init__" f_57)
  (i_57:iF K f_57)
  (l_57:lK K f_57 oc_57 od_57 "__init__" "Hall.__init__" UA .none kV_57 dc_57 pm_57 an_57 cd_57 ct_57 sl_57)
  (c_57:cI K cd_57 "Hall.__init__")
  (k_57:kI K f_57)
  (a_58:nG K "law" f_58)
  (l_58:lK K f_58 oc_58 od_58 "law" "law" ZaQ .none kV_58 dc_58 pm_58 an_58 cd_58 ct_58 sl_58)
  (c_58:cI K cd_58 "law")
  (k_58:kI K f_58)
  (pg_Course:PySem.W.plainGet K C_Course Str.empty=true)
  (hd_Course:PySem.W.hasDictIn K C_Course=true)
  (po_Course:PySem.W.plainOver K C_Course=true)
  (sa_Course:PySem.W.findIn K (.ref C_Course) "__setattr__" =some (some (.builtin "object.__setattr__")))
  (mk_Course:PySem.W.makesIn K C_Course=true)
  (kc_Course:PySem.W.keepIn K (.ref C_Course)=true)
  (na_Course_turns:PySem.W.findIn K (.ref C_Course) "turns" =some none)
  (na_Course_rows:PySem.W.findIn K (.ref C_Course) "rows" =some none)
  (na_Course_takes:PySem.W.findIn K (.ref C_Course) "takes" =some none)
  (na_Course_gives:PySem.W.findIn K (.ref C_Course) "gives" =some none)
  (na_Course_touched:PySem.W.findIn K (.ref C_Course) "touched" =some none)
  (pg_Hall:PySem.W.plainGet K C_Hall Str.empty=true)
  (hd_Hall:PySem.W.hasDictIn K C_Hall=true)
  (po_Hall:PySem.W.plainOver K C_Hall=true)
  (sa_Hall:PySem.W.findIn K (.ref C_Hall) "__setattr__" =some (some (.builtin "object.__setattr__")))
  (mk_Hall:PySem.W.makesIn K C_Hall=true)
  (kc_Hall:PySem.W.keepIn K (.ref C_Hall)=true)
  (na_Hall_numbers:PySem.W.findIn K (.ref C_Hall) "numbers" =some none)
  (na_Hall_rows:PySem.W.findIn K (.ref C_Hall) "rows" =some none)
  (gx_NoName:PySem.W.nsIn K mainGlobals "NoName" =some (some (.ref X_NoName)))
  (ex_NoName:PySem.W.excIn K X_NoName [.type "ValueError",.type "Exception",.type "BaseException",.type "object"] "ValueError.__new__" =true)
  (gx_Twice:PySem.W.nsIn K mainGlobals "Twice" =some (some (.ref X_Twice)))
  (ex_Twice:PySem.W.excIn K X_Twice [.type "ValueError",.type "Exception",.type "BaseException",.type "object"] "ValueError.__new__" =true)
  (gx_TooMuch:PySem.W.nsIn K mainGlobals "TooMuch" =some (some (.ref X_TooMuch)))
  (ex_TooMuch:PySem.W.excIn K X_TooMuch [.type "ValueError",.type "Exception",.type "BaseException",.type "object"] "ValueError.__new__" =true)
  (gx_NoWork:PySem.W.nsIn K mainGlobals "NoWork" =some (some (.ref X_NoWork)))
  (ex_NoWork:PySem.W.excIn K X_NoWork [.type "ValueError",.type "Exception",.type "BaseException",.type "object"] "ValueError.__new__" =true)
  (gx_NoBelt:PySem.W.nsIn K mainGlobals "NoBelt" =some (some (.ref X_NoBelt)))
  (ex_NoBelt:PySem.W.excIn K X_NoBelt [.type "ValueError",.type "Exception",.type "BaseException",.type "object"] "ValueError.__new__" =true)
  (gx_NoRate:PySem.W.nsIn K mainGlobals "NoRate" =some (some (.ref X_NoRate)))
  (ex_NoRate:PySem.W.excIn K X_NoRate [.type "ValueError",.type "Exception",.type "BaseException",.type "object"] "ValueError.__new__" =true)
  (gx_NotBalanced:PySem.W.nsIn K mainGlobals "NotBalanced" =some (some (.ref X_NotBalanced)))
  (ex_NotBalanced:PySem.W.excIn K X_NotBalanced [.type "ValueError",.type "Exception",.type "BaseException",.type "object"] "ValueError.__new__" =true)
  (gx_TooLong:PySem.W.nsIn K mainGlobals "TooLong" =some (some (.ref X_TooLong)))
  (ex_TooLong:PySem.W.excIn K X_TooLong [.type "ValueError",.type "Exception",.type "BaseException",.type "object"] "ValueError.__new__" =true)
  (c_MOST_TURNS:PySem.W.nsIn K mainGlobals "MOST_TURNS" =some (some (.int 400 tk_MOST_TURNS)))
  (c_MOST_LETTERS:PySem.W.nsIn K mainGlobals "MOST_LETTERS" =some (some (.int 8 tk_MOST_LETTERS)))
  (c_MOST_WORKS:PySem.W.nsIn K mainGlobals "MOST_WORKS" =some (some (.int 30 tk_MOST_WORKS)))
  (c_MOST_BELTS:PySem.W.nsIn K mainGlobals "MOST_BELTS" =some (some (.int 60 tk_MOST_BELTS)))
  (z_all:PySem.W.nsIn K mainGlobals "all" =some none)
  (z_bool:PySem.W.nsIn K mainGlobals "bool" =some none)
  (z_enumerate:PySem.W.nsIn K mainGlobals "enumerate" =some none)
  (z_int:PySem.W.nsIn K mainGlobals "int" =some none)
  (z_isinstance:PySem.W.nsIn K mainGlobals "isinstance" =some none)
  (z_len:PySem.W.nsIn K mainGlobals "len" =some none)
  (z_list:PySem.W.nsIn K mainGlobals "list" =some none)
  (z_min:PySem.W.nsIn K mainGlobals "min" =some none)
  (z_range:PySem.W.nsIn K mainGlobals "range" =some none)
  (z_reversed:PySem.W.nsIn K mainGlobals "reversed" =some none)
  (z_set:PySem.W.nsIn K mainGlobals "set" =some none)
  (z_sorted:PySem.W.nsIn K mainGlobals "sorted" =some none)
  (z_str:PySem.W.nsIn K mainGlobals "str" =some none)
  (z_sum:PySem.W.nsIn K mainGlobals "sum" =some none)
  (z_tuple:PySem.W.nsIn K mainGlobals "tuple" =some none)
  :∃T:Tp K mg,True:=by
 have F_0:=ZA (st:=Zbb) l_0 c_0 k_0;have F_1:=ZA (st:=ZaE) l_1 c_1 k_1;have F_2:=ZA (st:=Uw) l_2 c_2 k_2;have F_3:=ZA (st:=ZaH) l_3 c_3 k_3;have F_4:=ZA (st:=Us) l_4 c_4 k_4;have F_5:=ZA (st:=ZaG) l_5 c_5 k_5;have F_6:=ZA (st:=Ux) l_6 c_6 k_6;have F_7:=ZA (st:=U4) l_7 c_7 k_7;have F_8:=ZA (st:=ZaL) l_8 c_8 k_8;have F_9:=ZA (st:=V2) l_9 c_9 k_9;have F_10:=ZA (st:=Wt) l_10 c_10 k_10;have F_11:=ZA (st:=WJ) l_11 c_11 k_11;have F_12:=ZA (st:=Uq) l_12 c_12 k_12;have F_13:=ZA (st:=U6) l_13 c_13 k_13;have F_14:=ZA (st:=V3) l_14 c_14 k_14;have F_15:=ZA (st:=Vq) l_15 c_15 k_15;have F_16:=ZA (st:=Ud) l_16 c_16 k_16;have F_17:=ZA (st:=UH) l_17 c_17 k_17;have F_18:=ZA (st:=Uy) l_18 c_18 k_18;have F_19:=ZA (st:=UC) l_19 c_19 k_19;have F_20:=ZA (st:=Zay) l_20 c_20 k_20;have F_21:=ZA (st:=Zcl) l_21 c_21 k_21;have F_22:=ZA (st:=Zck) l_22 c_22 k_22;have F_23:=ZA (st:=ZdN) l_23 c_23 k_23;have F_24:=ZA (st:=Vf) l_24 c_24 k_24;have F_25:=ZA (st:=Ur) l_25 c_25 k_25;have F_26:=ZA (st:=U5) l_26 c_26 k_26;have F_27:=ZA (st:=V7) l_27 c_27 k_27;have F_28:=ZA (st:=Vs) l_28 c_28 k_28;have F_29:=ZA (st:=Za7) l_29 c_29 k_29;have F_30:=ZA (st:=Vi) l_30 c_30 k_30;have F_31:=ZA (st:=Vk) l_31 c_31 k_31;have F_32:=ZA (st:=U3) l_32 c_32 k_32;have F_33:=ZA (st:=Vy) l_33 c_33 k_33;have F_34:=ZA (st:=Zah) l_34 c_34 k_34;have F_35:=ZA (st:=YY) l_35 c_35 k_35;have F_36:=ZA (st:=YS) l_36 c_36 k_36;have F_37:=ZA (st:=Y0) l_37 c_37 k_37;have F_38:=ZA (st:=YN) l_38 c_38 k_38;have F_39:=ZA (st:=WK) l_39 c_39 k_39;have F_40:=ZA (st:=Wk) l_40 c_40 k_40;have F_41:=ZA (st:=VW) l_41 c_41 k_41;have F_42:=ZA (st:=WB) l_42 c_42 k_42;have F_43:=ZA (st:=V4) l_43 c_43 k_43;have F_44:=ZA (st:=WZ) l_44 c_44 k_44;have F_45:=ZA (st:=YU) l_45 c_45 k_45;have F_46:=ZA (st:=U2) l_46 c_46 k_46;have F_47:=ZA (st:=Zax) l_47 c_47 k_47;have F_48:=ZA (st:=ZaO) l_48 c_48 k_48;have F_49:=ZA (st:=WO) l_49 c_49 k_49;have F_50:=ZA (st:=Zbg) l_50 c_50 k_50;have F_51:=ZA (st:=Zbq) l_51 c_51 k_51;have F_52:=ZA (st:=Zbi) l_52 c_52 k_52;have F_53:=ZA (st:=UF) l_53 c_53 k_53;have F_54:=ZA (st:=Uu) l_54 c_54 k_54;have F_55:=ZA (st:=UU) l_55 c_55 k_55;have F_56:=Zkk (st:=UB) l_56 c_56 k_56;have F_57:=ZA (st:=UA) l_57 c_57 k_57;have F_58:=ZA (st:=ZaQ) l_58 c_58 k_58;exact⟨{
  f_l_cell:=f_0,d_l_cell:=_,F_l_cell:=F_0,
  b_l_cell:=F_0.binds fun _ _ _ _ _ _ us hl=>by revert hl;revert us;exact Yo (fun _ _=>rfl),
  m_l_cell:=PySem.W.mg_of X G a_0,
  f_l_mixed:=f_1,d_l_mixed:=_,F_l_mixed:=F_1,
  b_l_mixed:=F_1.binds fun _ _ _ _ _ _ us hl=>by revert hl;revert us;exact Yo (fun _ _=>rfl),
  m_l_mixed:=PySem.W.mg_of X G a_1,
  f_l_divisor:=f_2,d_l_divisor:=_,F_l_divisor:=F_2,
  b_l_divisor:=F_2.binds fun _ _ _ _ _ _ us hl=>by revert hl;revert us;exact Yo (fun _ _=>rfl),
  m_l_divisor:=PySem.W.mg_of X G a_2,
  f_l_lines:=f_3,d_l_lines:=_,F_l_lines:=F_3,
  b_l_lines:=F_3.binds fun _ _ _ _ _ _ us hl=>by revert hl;revert us;exact Yo (fun _ _=>rfl),
  m_l_lines:=PySem.W.mg_of X G a_3,
  f_l_reached:=f_4,d_l_reached:=_,F_l_reached:=F_4,
  b_l_reached:=F_4.binds fun _ _ _ _ _ _ us hl=>by revert hl;revert us;exact Zag (fun _ _ _=>rfl),
  m_l_reached:=PySem.W.mg_of X G a_4,
  f_l_rates:=f_5,d_l_rates:=_,F_l_rates:=F_5,
  b_l_rates:=F_5.binds fun _ _ _ _ _ _ us hl=>by revert hl;revert us;exact Yo (fun _ _=>rfl),
  m_l_rates:=PySem.W.mg_of X G a_5,
  f_l_started:=f_6,d_l_started:=_,F_l_started:=F_6,
  b_l_started:=F_6.binds fun _ _ _ _ _ _ us hl=>by revert hl;revert us;exact Zag (fun _ _ _=>rfl),
  m_l_started:=PySem.W.mg_of X G a_6,
  f_is_whole:=f_7,d_is_whole:=_,F_is_whole:=F_7,
  b_is_whole:=F_7.binds fun _ _ _ _ _ _ us hl=>by revert hl;revert us;exact VX (fun _=>rfl),
  m_is_whole:=PySem.W.mg_of X G a_7,
  f_is_from:=f_8,d_is_from:=_,F_is_from:=F_8,
  b_is_from:=F_8.binds fun _ _ _ _ _ _ us hl=>by revert hl;revert us;exact Yo (fun _ _=>rfl),
  m_is_from:=PySem.W.mg_of X G a_8,
  f_need_start:=f_9,d_need_start:=_,F_need_start:=F_9,
  b_need_start:=F_9.binds fun _ _ _ _ _ _ us hl=>by revert hl;revert us;exact VX (fun _=>rfl),
  m_need_start:=PySem.W.mg_of X G a_9,
  f_is_number_below:=f_10,d_is_number_below:=_,F_is_number_below:=F_10,
  b_is_number_below:=F_10.binds fun _ _ _ _ _ _ us hl=>by revert hl;revert us;exact Yo (fun _ _=>rfl),
  m_is_number_below:=PySem.W.mg_of X G a_10,
  f_Hall_need_belt:=f_11,d_Hall_need_belt:=_,F_Hall_need_belt:=F_11,
  b_Hall_need_belt:=F_11.binds fun _ _ _ _ _ _ us hl=>by revert hl;revert us;exact Yo (fun _ _=>rfl),
  f_Hall_fill:=f_12,d_Hall_fill:=_,F_Hall_fill:=F_12,
  b_Hall_fill:=F_12.binds fun _ _ _ _ _ _ us hl=>by revert hl;revert us;exact Zag (fun _ _ _=>rfl),
  f_l_filled:=f_13,d_l_filled:=_,F_l_filled:=F_13,
  b_l_filled:=F_13.binds fun _ _ _ _ _ _ us hl=>by revert hl;revert us;exact Zag (fun _ _ _=>rfl),
  m_l_filled:=PySem.W.mg_of X G a_13,
  f_Hall_belts:=f_14,d_Hall_belts:=_,F_Hall_belts:=F_14,
  b_Hall_belts:=F_14.binds fun _ _ _ _ _ _ us hl=>by revert hl;revert us;exact VX (fun _=>rfl),
  f_starts_of:=f_15,d_starts_of:=_,F_starts_of:=F_15,
  b_starts_of:=F_15.binds fun _ _ _ _ _ _ us hl=>by revert hl;revert us;exact VX (fun _=>rfl),
  m_starts_of:=PySem.W.mg_of X G a_15,
  f_Hall_names:=f_16,d_Hall_names:=_,F_Hall_names:=F_16,
  b_Hall_names:=F_16.binds fun _ _ _ _ _ _ us hl=>by revert hl;revert us;exact VX (fun _=>rfl),
  f_ways_of:=f_17,d_ways_of:=_,F_ways_of:=F_17,
  b_ways_of:=F_17.binds fun _ _ _ _ _ _ us hl=>by revert hl;revert us;exact VX (fun _=>rfl),
  m_ways_of:=PySem.W.mg_of X G a_17,
  f_tree_from:=f_18,d_tree_from:=_,F_tree_from:=F_18,
  b_tree_from:=F_18.binds fun _ _ _ _ _ _ us hl=>by revert hl;revert us;exact Yo (fun _ _=>rfl),
  m_tree_from:=PySem.W.mg_of X G a_18,
  f_forest_of:=f_19,d_forest_of:=_,F_forest_of:=F_19,
  b_forest_of:=F_19.binds fun _ _ _ _ _ _ us hl=>by revert hl;revert us;exact VX (fun _=>rfl),
  m_forest_of:=PySem.W.mg_of X G a_19,
  f_divisor:=f_20,d_divisor:=_,F_divisor:=F_20,
  b_divisor:=F_20.binds fun _ _ _ _ _ _ us hl=>by revert hl;revert us;exact Yo (fun _ _=>rfl),
  m_divisor:=PySem.W.mg_of X G a_20,
  f_ratio:=f_21,d_ratio:=_,F_ratio:=F_21,
  b_ratio:=F_21.binds fun _ _ _ _ _ _ us hl=>by revert hl;revert us;exact Yo (fun _ _=>rfl),
  m_ratio:=PySem.W.mg_of X G a_21,
  f_times:=f_22,d_times:=_,F_times:=F_22,
  b_times:=F_22.binds fun _ _ _ _ _ _ us hl=>by revert hl;revert us;exact Yo (fun _ _=>rfl),
  m_times:=PySem.W.mg_of X G a_22,
  f_gain:=f_23,d_gain:=_,F_gain:=F_23,
  b_gain:=F_23.binds fun _ _ _ _ _ _ us hl=>by revert hl;revert us;exact Yo (fun _ _=>rfl),
  m_gain:=PySem.W.mg_of X G a_23,
  f_Hall_belt_at:=f_24,d_Hall_belt_at:=_,F_Hall_belt_at:=F_24,
  b_Hall_belt_at:=F_24.binds fun _ _ _ _ _ _ us hl=>by revert hl;revert us;exact Yo (fun _ _=>rfl),
  f_shares_of:=f_25,d_shares_of:=_,F_shares_of:=F_25,
  b_shares_of:=F_25.binds fun _ _ _ _ _ _ us hl=>by revert hl;revert us;exact Yo (fun _ _=>rfl),
  m_shares_of:=PySem.W.mg_of X G a_25,
  f_multiple:=f_26,d_multiple:=_,F_multiple:=F_26,
  b_multiple:=F_26.binds fun _ _ _ _ _ _ us hl=>by revert hl;revert us;exact Yo (fun _ _=>rfl),
  m_multiple:=PySem.W.mg_of X G a_26,
  f_rates_by:=f_27,d_rates_by:=_,F_rates_by:=F_27,
  b_rates_by:=F_27.binds fun _ _ _ _ _ _ us hl=>by revert hl;revert us;exact Yo (fun _ _=>rfl),
  m_rates_by:=PySem.W.mg_of X G a_27,
  f_change_of:=f_28,d_change_of:=_,F_change_of:=F_28,
  b_change_of:=F_28.binds fun _ _ _ _ _ _ us hl=>by revert hl;revert us;exact Yo (fun _ _=>rfl),
  m_change_of:=PySem.W.mg_of X G a_28,
  f_way_to:=f_29,d_way_to:=_,F_way_to:=F_29,
  b_way_to:=F_29.binds fun _ _ _ _ _ _ us hl=>by revert hl;revert us;exact Yo (fun _ _=>rfl),
  m_way_to:=PySem.W.mg_of X G a_29,
  f_shared_steps:=f_30,d_shared_steps:=_,F_shared_steps:=F_30,
  b_shared_steps:=F_30.binds fun _ _ _ _ _ _ us hl=>by revert hl;revert us;exact Yo (fun _ _=>rfl),
  m_shared_steps:=PySem.W.mg_of X G a_30,
  f_ring_through:=f_31,d_ring_through:=_,F_ring_through:=F_31,
  b_ring_through:=F_31.binds fun _ _ _ _ _ _ us hl=>by revert hl;revert us;exact Zag (fun _ _ _=>rfl),
  m_ring_through:=PySem.W.mg_of X G a_31,
  f_rates_of:=f_32,d_rates_of:=_,F_rates_of:=F_32,
  b_rates_of:=F_32.binds fun _ _ _ _ _ _ us hl=>by revert hl;revert us;exact VX (fun _=>rfl),
  m_rates_of:=PySem.W.mg_of X G a_32,
  f_round_rates:=f_33,d_round_rates:=_,F_round_rates:=F_33,
  b_round_rates:=F_33.binds fun _ _ _ _ _ _ us hl=>by revert hl;revert us;exact VX (fun _=>rfl),
  m_round_rates:=PySem.W.mg_of X G a_33,
  f_enough:=f_34,d_enough:=_,F_enough:=F_34,
  b_enough:=F_34.binds fun _ _ _ _ _ _ us hl=>by revert hl;revert us;exact Yo (fun _ _=>rfl),
  m_enough:=PySem.W.mg_of X G a_34,
  f_Course_row_from:=f_35,d_Course_row_from:=_,F_Course_row_from:=F_35,
  b_Course_row_from:=F_35.binds fun _ _ _ _ _ _ us hl=>by revert hl;revert us;exact Yo (fun _ _=>rfl),
  f_Course_waits_behind:=f_36,d_Course_waits_behind:=_,F_Course_waits_behind:=F_36,
  b_Course_waits_behind:=F_36.binds fun _ _ _ _ _ _ us hl=>by revert hl;revert us;exact Zag (fun _ _ _=>rfl),
  f_Course_ring_behind:=f_37,d_Course_ring_behind:=_,F_Course_ring_behind:=F_37,
  b_Course_ring_behind:=F_37.binds fun _ _ _ _ _ _ us hl=>by revert hl;revert us;exact Zag (fun _ _ _=>rfl),
  f_Course_told_from:=f_38,d_Course_told_from:=_,F_Course_told_from:=F_38,
  b_Course_told_from:=F_38.binds fun _ _ _ _ _ _ us hl=>by revert hl;revert us;exact Yo (fun _ _=>rfl),
  f_Hall_need_work:=f_39,d_Hall_need_work:=_,F_Hall_need_work:=F_39,
  b_Hall_need_work:=F_39.binds fun _ _ _ _ _ _ us hl=>by revert hl;revert us;exact Yo (fun _ _=>rfl),
  f_Hall_entering:=f_40,d_Hall_entering:=_,F_Hall_entering:=F_40,
  b_Hall_entering:=F_40.binds fun _ _ _ _ _ _ us hl=>by revert hl;revert us;exact Yo (fun _ _=>rfl),
  f_takes_of:=f_41,d_takes_of:=_,F_takes_of:=F_41,
  b_takes_of:=F_41.binds fun _ _ _ _ _ _ us hl=>by revert hl;revert us;exact Yo (fun _ _=>rfl),
  m_takes_of:=PySem.W.mg_of X G a_41,
  f_Hall_leaving:=f_42,d_Hall_leaving:=_,F_Hall_leaving:=F_42,
  b_Hall_leaving:=F_42.binds fun _ _ _ _ _ _ us hl=>by revert hl;revert us;exact Yo (fun _ _=>rfl),
  f_gives_of:=f_43,d_gives_of:=_,F_gives_of:=F_43,
  b_gives_of:=F_43.binds fun _ _ _ _ _ _ us hl=>by revert hl;revert us;exact Yo (fun _ _=>rfl),
  m_gives_of:=PySem.W.mg_of X G a_43,
  f_touched_by:=f_44,d_touched_by:=_,F_touched_by:=F_44,
  b_touched_by:=F_44.binds fun _ _ _ _ _ _ us hl=>by revert hl;revert us;exact Yo (fun _ _=>rfl),
  m_touched_by:=PySem.W.mg_of X G a_44,
  f_Course_init:=f_45,d_Course_init:=_,F_Course_init:=F_45,
  b_Course_init:=F_45.binds fun _ _ _ _ _ _ us hl=>by revert hl;revert us;exact Zag (fun _ _ _=>rfl),
  f_round_of:=f_46,d_round_of:=_,F_round_of:=F_46,
  b_round_of:=F_46.binds fun _ _ _ _ _ _ us hl=>by revert hl;revert us;exact VX (fun _=>rfl),
  m_round_of:=PySem.W.mg_of X G a_46,
  f_l_shift:=f_47,d_l_shift:=_,F_l_shift:=F_47,
  b_l_shift:=F_47.binds fun _ _ _ _ _ _ us hl=>by revert hl;revert us;exact Zag (fun _ _ _=>rfl),
  m_l_shift:=PySem.W.mg_of X G a_47,
  f_l_ready:=f_48,d_l_ready:=_,F_l_ready:=F_48,
  b_l_ready:=F_48.binds fun _ _ _ _ _ _ us hl=>by revert hl;revert us;exact Zag (fun _ _ _=>rfl),
  m_l_ready:=PySem.W.mg_of X G a_48,
  f_l_walked:=f_49,d_l_walked:=_,F_l_walked:=F_49,
  b_l_walked:=F_49.binds fun _ _ _ _ _ _ us hl=>by revert hl;revert us;exact Zag (fun _ _ _=>rfl),
  m_l_walked:=PySem.W.mg_of X G a_49,
  f_l_told:=f_50,d_l_told:=_,F_l_told:=F_50,
  b_l_told:=F_50.binds fun _ _ _ _ _ _ us hl=>by revert hl;revert us;exact ZmT (fun _ _ _ _=>rfl),
  m_l_told:=PySem.W.mg_of X G a_50,
  f_l_long:=f_51,d_l_long:=_,F_l_long:=F_51,
  b_l_long:=F_51.binds fun _ _ _ _ _ _ us hl=>by revert hl;revert us;exact Yo (fun _ _=>rfl),
  m_l_long:=PySem.W.mg_of X G a_51,
  f_l_name:=f_52,d_l_name:=_,F_l_name:=F_52,
  b_l_name:=F_52.binds fun _ _ _ _ _ _ us hl=>by revert hl;revert us;exact VX (fun _=>rfl),
  m_l_name:=PySem.W.mg_of X G a_52,
  f_is_name:=f_53,d_is_name:=_,F_is_name:=F_53,
  b_is_name:=F_53.binds fun _ _ _ _ _ _ us hl=>by revert hl;revert us;exact VX (fun _=>rfl),
  m_is_name:=PySem.W.mg_of X G a_53,
  f_Hall_work:=f_54,d_Hall_work:=_,F_Hall_work:=F_54,
  b_Hall_work:=F_54.binds fun _ _ _ _ _ _ us hl=>by revert hl;revert us;exact Yo (fun _ _=>rfl),
  f_Hall_lay:=f_55,d_Hall_lay:=_,F_Hall_lay:=F_55,
  b_Hall_lay:=F_55.binds fun _ _ _ _ _ _ us hl=>by revert hl;revert us;exact Yo (fun _ _=>rfl),
  f_Hall_belt:=f_56,d_Hall_belt:=_,F_Hall_belt:=F_56,
  dT_Hall_belt:=dT_Hall_belt,
  dk0_Hall_belt:=dk0_Hall_belt,
  b_Hall_belt:=fun s us X hl=>(match us,(show us.length=6 by simpa using hl) with| [_,_,_,_,_,_],_=>PySem.W.binds_K X rfl t_Hall_belt rfl rfl rfl),
  b1_Hall_belt:=fun s us X hl=>(match us,(show us.length=5 by simpa using hl) with| [_,_,_,_,_],_=>PySem.W.binds_K X rfl t_Hall_belt rfl rfl rfl),
  v1_Hall_belt:=(.cons ⟨_,rfl⟩ .nil),
  f_Hall_init:=f_57,d_Hall_init:=_,F_Hall_init:=F_57,
  b_Hall_init:=F_57.binds fun _ _ _ _ _ _ us hl=>by revert hl;revert us;exact VX (fun _=>rfl),
  f_law:=f_58,d_law:=_,F_law:=F_58,
  b_law:=F_58.binds fun _ _ _ _ _ _ us hl=>by revert hl;revert us;exact VX (fun _=>rfl),
  m_law:=PySem.W.mg_of X G a_58,
  C_Course:=C_Course,cl_Course:=⟨pg_Course,hd_Course,po_Course,sa_Course⟩,g_Course:=PySem.W.mg_of X G a_Course,
  na_Course:=⟨fun f hf=>(by
   simp only[List.mem_cons,List.not_mem_nil,or_false] at hf;rcases hf with rfl|rfl|rfl|rfl|rfl
   ·exact na_Course_turns
   ·exact na_Course_rows
   ·exact na_Course_takes
   ·exact na_Course_gives
   ·exact na_Course_touched)⟩,
  M_Course_row_from:=⟨a_35,i_35,k_35⟩,
  M_Course_waits_behind:=⟨a_36,i_36,k_36⟩,
  M_Course_ring_behind:=⟨a_37,i_37,k_37⟩,
  M_Course_told_from:=⟨a_38,i_38,k_38⟩,
  mk_Course:=⟨mk_Course,a_45,i_45,kc_Course⟩,
  C_Hall:=C_Hall,cl_Hall:=⟨pg_Hall,hd_Hall,po_Hall,sa_Hall⟩,g_Hall:=PySem.W.mg_of X G a_Hall,
  na_Hall:=⟨fun f hf=>(by
   simp only[List.mem_cons,List.not_mem_nil,or_false] at hf;rcases hf with rfl|rfl
   ·exact na_Hall_numbers
   ·exact na_Hall_rows)⟩,
  M_Hall_need_belt:=⟨a_11,i_11,k_11⟩,
  M_Hall_fill:=⟨a_12,i_12,k_12⟩,
  M_Hall_belts:=⟨a_14,i_14,k_14⟩,
  M_Hall_names:=⟨a_16,i_16,k_16⟩,
  M_Hall_belt_at:=⟨a_24,i_24,k_24⟩,
  M_Hall_need_work:=⟨a_39,i_39,k_39⟩,
  M_Hall_entering:=⟨a_40,i_40,k_40⟩,
  M_Hall_leaving:=⟨a_42,i_42,k_42⟩,
  M_Hall_work:=⟨a_54,i_54,k_54⟩,
  M_Hall_lay:=⟨a_55,i_55,k_55⟩,
  M_Hall_belt:=⟨a_56,i_56,k_56⟩,
  mk_Hall:=⟨mk_Hall,a_57,i_57,kc_Hall⟩,
  n_all:=PySem.W.mg_none_of X G z_all,
  n_bool:=PySem.W.mg_none_of X G z_bool,
  n_enumerate:=PySem.W.mg_none_of X G z_enumerate,
  n_int:=PySem.W.mg_none_of X G z_int,
  n_isinstance:=PySem.W.mg_none_of X G z_isinstance,
  n_len:=PySem.W.mg_none_of X G z_len,
  n_list:=PySem.W.mg_none_of X G z_list,
  n_min:=PySem.W.mg_none_of X G z_min,
  n_range:=PySem.W.mg_none_of X G z_range,
  n_reversed:=PySem.W.mg_none_of X G z_reversed,
  n_set:=PySem.W.mg_none_of X G z_set,
  n_sorted:=PySem.W.mg_none_of X G z_sorted,
  n_str:=PySem.W.mg_none_of X G z_str,
  n_sum:=PySem.W.mg_none_of X G z_sum,
  n_tuple:=PySem.W.mg_none_of X G z_tuple,
  X_NoName:=X_NoName,gx_NoName:=gx_NoName,mx_NoName:=PySem.W.mg_of X G gx_NoName,ex_NoName:=ex_NoName,
  X_Twice:=X_Twice,gx_Twice:=gx_Twice,mx_Twice:=PySem.W.mg_of X G gx_Twice,ex_Twice:=ex_Twice,
  X_TooMuch:=X_TooMuch,gx_TooMuch:=gx_TooMuch,mx_TooMuch:=PySem.W.mg_of X G gx_TooMuch,ex_TooMuch:=ex_TooMuch,
  X_NoWork:=X_NoWork,gx_NoWork:=gx_NoWork,mx_NoWork:=PySem.W.mg_of X G gx_NoWork,ex_NoWork:=ex_NoWork,
  X_NoBelt:=X_NoBelt,gx_NoBelt:=gx_NoBelt,mx_NoBelt:=PySem.W.mg_of X G gx_NoBelt,ex_NoBelt:=ex_NoBelt,
  X_NoRate:=X_NoRate,gx_NoRate:=gx_NoRate,mx_NoRate:=PySem.W.mg_of X G gx_NoRate,ex_NoRate:=ex_NoRate,
  X_NotBalanced:=X_NotBalanced,gx_NotBalanced:=gx_NotBalanced,mx_NotBalanced:=PySem.W.mg_of X G gx_NotBalanced,ex_NotBalanced:=ex_NotBalanced,
  X_TooLong:=X_TooLong,gx_TooLong:=gx_TooLong,mx_TooLong:=PySem.W.mg_of X G gx_TooLong,ex_TooLong:=ex_TooLong,
  tk_MOST_TURNS:=tk_MOST_TURNS,c_MOST_TURNS:=PySem.W.mg_of X G c_MOST_TURNS,
  tk_MOST_LETTERS:=tk_MOST_LETTERS,c_MOST_LETTERS:=PySem.W.mg_of X G c_MOST_LETTERS,
  tk_MOST_WORKS:=tk_MOST_WORKS,c_MOST_WORKS:=PySem.W.mg_of X G c_MOST_WORKS,
  tk_MOST_BELTS:=tk_MOST_BELTS,c_MOST_BELTS:=PySem.W.mg_of X G c_MOST_BELTS,
  bl_law:=fun s v=> .of_eq rfl},trivial⟩
theorem walk{l:PySem.W.OpenLaw}{q:Program}{loose:List Str}{XP:(Str→Option Value)→Heap→Prop}{YP:World→Heap→Prop}{d:DefRec}{K:Params→PySem.W.Frag}(hn:l.most=some 63)(hdf:d.params.defaults=[])(hdn:d.name="law")
  (hY:∀(w:World)(h:Heap),YP w h→(K w.params).In h)
  (F:∀(w:World)(mg:Str→Option Value)(h:Heap),(K w.params).In h→h.Ns mainGlobals mg→∃T:Tp (K w.params) mg,True):
  PySem.W.WalkO q loose XP YP l.row.toRowW d [] (fun f vs=>PySem.call f vs):=by
 refine L2.ZkH (n:=63) (k:=12) (x:="_law_script") (CX:=fun w=>CXX l.prog w) (sp:=fun w=>Zj0 (K w.params)) hn (by decide) hdf ⟨rfl,by decide,by decide⟩ hY (fun w mg fa h KX G hmg=>?_) (fun _ _ a ns hl _ hS=>⟨a,ns,rfl,hS,hl,fun _=>rfl⟩) ?_
 ·obtain⟨T,_⟩:=F w mg h KX G;rw[hdn,T.m_law] at hmg;cases hmg;exact⟨T.d_law,T.bl_law,fun base _ _=>ZlB T⟩
 ·intro w H s e s' z;obtain⟨_,_,_,_,_,_,_,_,_,_,_,_,z⟩:=z;exact z
end Nm
namespace PySem.W.Fast
def tw13444944931314398518:=True
def tw9643113303131268931:=True
def tw15937316059926975915:=True
def tw13299820605423440916:=True
def tw9234944724793407754:=True
def tw10368917814382558910:=True
def tw13463704089213086620:=True
def tw7839506594160682549:=True
def tw8251746048038546946:=True
def tw9065413299378481465:=True
def tw9467065855169313353:=True
def tw10725906795431662874:=True
def tw5871683713967930516:=True
def tw7043396428836160650:=True
def tw17852887649266672792:=True
def tw12810576236962977952:=True
def tw17035642654020816410:=True
def tw12822076943493587765:=True
def tw10967915177718994701:=True
def tw17419803184882889481:=True
def tw12083338586931823965:=True
def tw4256612355767420426:=True
def tw10678531523864320789:=True
def tw15706255910801419859:=True
def tw1219043413320674182:=True
def tw7858347004651145696:=True
def tw7140316143167178350:=True
def tw34477347021712794:=True
def tw15455341363155010665:=True
def tw10010151257673107891:=True
def tw685199288017501459:=True
def tw7621372644091029274:=True
def tw1171419889566202728:=True
def tw4653565053011826682:=True
def tw4975562377066255205:=True
def tw8392435629445748210:=True
def tw2101526239502153955:=True
def tw7473841570686551137:=True
def tw15822976421159085519:=True
def tw113764626645516604:=True
def tw14137925939071955329:=True
def tw947069099542121756:=True
def tw9596466221004381834:=True
def tw2731800582884797477:=True
def tw2307609420328133791:=True
def tw9142332222639914113:=True
def tw13683480172298750426:=True
def tw17811309884687928929:=True
def tw17195543776163750848:=True
def tw2991979653168487635:=True
def tw7676678805142818702:=True
def tw16977912082375751561:=True
def tw10417333240548242815:=True
def tw10600449584994608770:=True
def tw15866213505721000394:=True
def tw3232183457259909905:=True
def tw2073188209681831953:=True
def tw14691111305195585725:=True
def tw2505957993758028413:=True
def tw6181655937992806845:=True
def tw6577741911960560593:=True
def tw7008110470995809403:=True
def tw6608957756755254927:=True
def tw11757043068596094651:=True
def tw8198317317981057916:=True
def tw7039541812014629586:=True
def tw17860209221207532958:=True
def tw8800746967980203127:=True
def tw15635505216234274376:=True
def tw9164450879378551000:=True
def tw13337036381959904969:=True
def tw14755755597943365687:=True
def tw14888194442521050873:=True
def tw3736854376004533923:=True
def tw1501154578131770185:=True
def tw16548393132046310896:=True
def tw11545390658390691790:=True
def tw2445757299515156084:=True
def tw12513355950301762007:=True
def tw10994685308191661454:=True
def tw2190912361788948768:=True
def tw15656165751172552474:=True
def tw9361058079609930935:=True
def tw2574878718688898876:=True
def tw18314598746468367894:=True
def tw3676966766652925997:=True
def tw16572945343465305419:=True
def tw13951096777587378762:=True
def tw17135479013946929672:=True
def tw1958615704124831665:=True
def tw18356433267457669574:=True
def tw11425888386607642700:=True
def tw2676375620638922011:=True
def tw16326814041209085643:=True
def tw15737233824201748135:=True
def tw6192319043792132536:=True
def tw13847269404860989003:=True
def tw15295451364771759032:=True
def tw8234247413201102869:=True
def tw14138591332474361208:=True
def tw10988189793758119292:=True
def tw10762480947608712079:=True
def tw2757164039158954797:=True
def tw8243817346536567637:=True
def tw14178865680525098513:=True
def tw7588367401364798558:=True
def tw11543837768820743145:=True
def tw2715501172514545091:=True
def tw7150311958379013089:=True
def tw12725446277586660559:=True
def tw328140940098257313:=True
def tw5707186668659819061:=True
def tw9347589223400165423:=True
def tw7324149759682842979:=True
def tw13842618046315514102:=True
def tw9167801847700115866:=True
def tw16778124015761330239:=True
def tw2992588056069886262:=True
def tw1063881883957987200:=True
def tw6785456788971459758:=True
def tw14386747322552880951:=True
def tw2011214043837198375:=True
def tw15083087470474759770:=True
def tw9782502312647708113:=True
def tw8225855074445479663:=True
def tw15866800561549564191:=True
def tw6653665977983062243:=True
def tw3133993019510492881:=True
def tw3737245148916253975:=True
def tw15461004891816803714:=True
def tw14631787946759800651:=True
def tw1510747003398840527:=True
def tw13377423761016946025:=True
def tw9126705090426550528:=True
def tw8077242299065261391:=True
def tw7282673093369752746:=True
def tw6755401591338973028:=True
def tw17729517851188148284:=True
def tw4793170836911780573:=True
def tw12705430498244113382:=True
def tw5971790690655214021:=True
def tw6093806644215673376:=True
def tw9529533202893090979:=True
def tw2474075780846348563:=True
def tw4632316823028193764:=True
def tw7546483311821076063:=True
def tw11053607822977788885:=True
def tw13687045697131495417:=True
def tw609049921482844168:=True
def tw7443375462791001033:=True
def tw9957891866218157820:=True
def tw16526999686078015876:=True
def tw11298724642512535218:=True
def tw8699746383436021787:=True
def tw10811298544807790692:=True
def tw12318345343560507438:=True
def tw7695929630821516798:=True
def tw158293544599119651:=True
def tw14808090639564343852:=True
def tw13383962991293059586:=True
def tw16805696667640730663:=True
def tw6729766921374749768:=True
def tw1001758983821360608:=True
def tw9955859449369286687:=True
def tw9705263111614721933:=True
def tw18332853038362201900:=True
def tw6088498699016520616:=True
def tw6954688739110443543:=True
def tw14402050227269290435:=True
def tw17161179360098029124:=True
def tw4290451739451562942:=True
def tw9904670727392947401:=True
def tw18143452050699780601:=True
def tw18399446041864674935:=True
def tw8554786983885912352:=True
def tw17349137981233830951:=True
def tw6047042254407603995:=True
def tw11713207923310311879:=True
def tw2658198734787521818:=True
def tw13394842257412366344:=True
def tw17678223179519595379:=True
def tw5711482669025399549:=True
def tw13631517887086982164:=True
def tw13971758953639486297:=True
def tw12518980551520585507:=True
def tw13382106397456924110:=True
def tw8090277310563171103:=True
def tw6757943205348228090:=True
def tw6491834118251091546:=True
def tw16783118896306396822:=True
def tw12224505802397152390:=True
def tw2109139315643511902:=True
def tw7029036695845138174:=True
def tw3177115569644522480:=True
def tw10384684071960508461:=True
def tw13406479217576059150:=True
def tw8255067139877113715:=True
def tw14555568719213649614:=True
def tw18170592516693664446:=True
def tw6096549763177820375:=True
def tw5815880034978319353:=True
def tw2082013299893854377:=True
def tw1737160831620209418:=True
def tw11023019335249823416:=True
def tw12396944375781781121:=True
def tw7601010881163325656:=True
def tw4671482189518785506:=True
def tw2321132536573396211:=True
def tw9045210407172977014:=True
def tw2889144137313947026:=True
def tw9241724957732361238:=True
def tw17329801879061673195:=True
def tw8651922674229599002:=True
def tw15518577330458137030:=True
def tw11243566512453975832:=True
def tw11262593219333827216:=True
def tw614522316898474349:=True
def tw16794250188851152642:=True
def tw7642826347276081512:=True
def tw8012001705140517749:=True
def tw10541571586447165520:=True
def tw1030132031478915765:=True
def tw248482688936897095:=True
def tw3135440507185831789:=True
def tw10796078129261821867:=True
def tw3874428844132289416:=True
def tw17156125663729376648:=True
def tw3953815351694338414:=True
def tw13438331477408132737:=True
def tw15287804146678246127:=True
def tw6049540042967408629:=True
def tw16434176205553093588:=True
def tw10343077814009777807:=True
def tw15395276711828497655:=True
def tw1572863029969623061:=True
def tw9612874045963829217:=True
def tw2854063753064572431:=True
def tw15933156992404707937:=True
def tw3621102024295326403:=True
def tw5605833930626256246:=True
def tw2001732547918976199:=True
def tw16567243223888465478:=True
def tw8581118145421725739:=True
def tw14565421772884527546:=True
def tw1270711435143066175:=True
def tw11884541668026780606:=True
def tw7468845673690633672:=True
def tw15405709549870898421:=True
def tw14636870627251954005:=True
def tw4067334428950279859:=True
def tw8973827115378473355:=True
def tw738359981596313766:=True
def tw15383875447382558285:=True
def tw13437788032168783507:=True
def tw3891373225842390695:=True
def tw9980594065046949085:=True
def tw11346189914954938211:=True
def tw14298830479611668533:=True
def tw5815091118833540689:=True
def tw13586047142498118488:=True
def tw7110620894896622283:=True
def tw10524822447350225446:=True
def tw3266717831878507972:=True
def tw5599165165658229861:=True
def tw13347683728014999458:=True
def tw1254499276995429881:=True
def tw7459630149891485148:=True
def tw13521977555061406734:=True
def tw7958720379870864001:=True
def tw14029038929805781670:=True
def tw8653071291313928145:=True
def tw7175103452625452565:=True
def tw6493035028323034527:=True
def tw9826245632651536674:=True
def tw15384711137393728541:=True
def tw16683256999804576090:=True
def tw18410562613068791820:=True
def tw2324536994778980702:=True
def tw1600971102307382463:=True
def tw14013772779776490023:=True
def tw10404786594380525166:=True
def tw16228531659429146173:=True
def tw8230539514189213665:=True
def tw13299568696964406492:=True
def tw9992383793201767891:=True
def tw14912931634423897951:=True
def tw8907945918706368911:=True
def tw9372770700206481551:=True
def tw9487715506785856177:=True
def tw13540710548812634007:=True
def tw7794725383291171727:=True
def tw15221323876959963164:=True
def tw16275425494313251122:=True
def tw12050875372997568044:=True
def tw7852922491090994548:=True
def tw12036594764630006574:=True
def tw1882813701483532827:=True
def tw5031394795400358800:=True
def tw3112895104135834706:=True
def tw5670201147150448724:=True
def tw10691087308097741181:=True
def tw10225965909094496114:=True
def tw8527083826909740442:=True
def tw18412619892180078759:=True
def tw6693611154833655815:=True
def tw12799805509501447831:=True
def tw18360094624849175667:=True
def tw221285044075859392:=True
def tw10982584651432650236:=True
def tw16242979483793115353:=True
def tw11590322190880154020:=True
def tw13947271553202716942:=True
def tw7814223488745220769:=True
def tw4824665663630507736:=True
def tw16422245824998581878:=True
def tw13241425398143427534:=True
def tw6210407203611167324:=True
def tw2752152866171811260:=True
def tw7186708544223851017:=True
def tw12696448691636095420:=True
def tw13600652447846723546:=True
def tw4655447009594398214:=True
def tw7277389905716927908:=True
def tw10631913974412099581:=True
def tw14553828104316768778:=True
def tw14081512395796534828:=True
def tw5101250225138204799:=True
def tw15596949788010867420:=True
def tw3345738715430488289:=True
def tw15988375720184338561:=True
def tw8983307687601734560:=True
def tw2554473815469364182:=True
def tw2559579457292102725:=True
def tw10322982808684972431:=True
def tw18405263424746427282:=True
def tw5678723542662743649:=True
def tw17993123750100435620:=True
def tw8765333240000037291:=True
def tw1524328659041734406:=True
def tw4421719999978941663:=True
def tw9051575635943042943:=True
def tw8772678993915972174:=True
def tw6669837797015089317:=True
def tw11889373345539280280:=True
def tw7907329891530071398:=True
def tw14387453606519332699:=True
def tw16107024878781484351:=True
def tw829153785861010163:=True
def tw13028949798092191720:=True
def tw463067664990600231:=True
def tw16954795794213997234:=True
def tw10734529714381609897:=True
def tw5891622324714418102:=True
def tw4973435436651913557:=True
def tw5712629619662595888:=True
def tw1461730426089307478:=True
def tw18320575441175736330:=True
def tw9353942139636186579:=True
def tw16334524275817308515:=True
def tw5586978856536485078:=True
def tw5433035377074232699:=True
def tw12836298063573406482:=True
def tw184260936853331665:=True
def tw17776762058890296032:=True
def tw7748540706030465824:=True
def tw10274871986169101046:=True
def tw9181310916401720327:=True
def tw231314398361531351:=True
def tw9617491555252527015:=True
def tw17527901039918442733:=True
def tw5937638152824758974:=True
def tw9873658479203646277:=True
def tw4217170524716177221:=True
def tw13273721311072845897:=True
def tw18382922764744563870:=True
def tw9403387997030109428:=True
def tw16074655826609163786:=True
def tw10824616567166746401:=True
def tw17353889690024476240:=True
def tw18376987150399413112:=True
def tw1069547683474947547:=True
def tw14114680222255924349:=True
def tw8679347619697282298:=True
def tw16310523071019060372:=True
def tw4787013540222755224:=True
def tw2359489527196873027:=True
def tw7005602808656421561:=True
def tw6440336682560362801:=True
def tw1884537261334314921:=True
def tw2462334866843726308:=True
def tw6619232576886385350:=True
def tw184091988785368784:=True
def tw10226733257032517443:=True
def tw8372975254790319329:=True
def tw16390848021561956776:=True
def tw4569779780995159430:=True
def tw880754026918081459:=True
def tw6846755878496047215:=True
def tw15225257515885163537:=True
def tw1301655636969297870:=True
def tw14566386698566018079:=True
def tw9128821107406084704:=True
def tw15114142265468699177:=True
def tw5887399150679374359:=True
def tw14867654768453395606:=True
def tw6553184191603362659:=True
def tw16583728021901212381:=True
def tw10591064049922047703:=True
def tw3644886491148758176:=True
def tw9425472105774659155:=True
def tw8534232446420740301:=True
def tw9001960301597274579:=True
def tw2458497016607277700:=True
def tw16937857100314706387:=True
def tw18113177065345164928:=True
def tw44369687154926971:=True
def tw16739194737351248327:=True
def tw16158153096099506186:=True
def tw14031314400953985926:=True
def tw16690639325855532794:=True
def tw9795083595213381067:=True
def tw13031877454199170126:=True
def tw1178709381470435523:=True
def tw631760752297868782:=True
def tw12830207321743547824:=True
def tw5242413626035335520:=True
def tw14060885917933540162:=True
def tw11469485767236026833:=True
def tw6437871334989582294:=True
def tw11334822968705223718:=True
def tw17080039643927951030:=True
def tw91756538134647738:=True
def tw11454741985948613339:=True
def tw16464257988604054277:=True
def tw16452568496729281532:=True
def tw13316654883423308843:=True
def tw11842993721635694867:=True
def tw6744223513049832480:=True
def tw3829431958174728925:=True
def tw14143525402698584742:=True
def tw2045224815644237840:=True
def tw4824974169480949503:=True
def tw17725151448623318339:=True
def tw8392123360535115124:=True
def tw13847139695033086649:=True
def tw8243135776936468342:=True
def tw6880690060713895936:=True
def tw910982468171935769:=True
def tw4069380130219175064:=True
def tw12503657922607670321:=True
def tw10221826500017624827:=True
def tw1582070611084408544:=True
def tw4763823895906880109:=True
def tw11384183571996717538:=True
def tw8605116772667147878:=True
def tw1106076044188088201:=True
def tw2518401467709948107:=True
def tw9169267363164099846:=True
def tw4881470986198587189:=True
def tw12849114300831536687:=True
def tw10350960080322884325:=True
def tw12534761416313142603:=True
def tw4121304024459851653:=True
def tw7750628086524109423:=True
def tw11886111188733477977:=True
def tw3980627253243177731:=True
def tw6218820471293968242:=True
def tw11930674334934413841:=True
def tw7224311457022423939:=True
def tw13123779580452528329:=True
def tw10670035686825162756:=True
def tw3058581619759592500:=True
def tw3365001216220365006:=True
def tw7150366820033490125:=True
def tw12130811598478206175:=True
def tw1214735926705922324:=True
def tw1807727897168111507:=True
def tw17349437145562318325:=True
def tw1254759964296072474:=True
def tw13307808440141588335:=True
def tw10675682348671113540:=True
def tw13433400433890540424:=True
def tw3837713794045204472:=True
def tw17530004645852342700:=True
def tw9312618605718920611:=True
def tw10207178405976104430:=True
def tw6466104951033254799:=True
def tw917838020503958942:=True
def tw6370034912566513966:=True
def tw17366733860869452327:=True
def tw1979333414061853834:=True
def tw12744143741719804657:=True
def tw180697352420191509:=True
def tw4784544817143803099:=True
def tw5710131440081428339:=True
def tw11343699739574704078:=True
def tw1624035553643783062:=True
def tw7968868160122965038:=True
def tw9409389123449836464:=True
def tw10785771619149680631:=True
end PySem.W.Fast
open PySem PySem.W PyProof.Rows
set_option maxRecDepth 100000 in
set_option maxHeartbeats 0 in
theorem PySem.Challenge.cw_ratehall_k12_round_walked_holds : PySem.Challenge.rw_ratehall_k12_round_walked.Holds := by
 w_on;o_law;k_head;(case hw=>w_witness2)
 k_fill
 refine Nm.walk (l:=PySem.Challenge.rw_ratehall_k12_round_walked) rfl rfl rfl (fun w h Y=>PySem.W.kIn_of Y) ?F
 case F=>
  intro w mg h KX G
  refine' Nm.tp_mk KX G ?a_Course ?a_Hall ?a_0 ?l_0 ?c_0 ?k_0 ?a_1 ?l_1 ?c_1 ?k_1 ?a_2 ?l_2 ?c_2 ?k_2 ?a_3 ?l_3 ?c_3 ?k_3 ?a_4 ?l_4 ?c_4 ?k_4 ?a_5 ?l_5 ?c_5 ?k_5 ?a_6 ?l_6 ?c_6 ?k_6 ?a_7 ?l_7 ?c_7 ?k_7 ?a_8 ?l_8 ?c_8 ?k_8 ?a_9 ?l_9 ?c_9 ?k_9 ?a_10 ?l_10 ?c_10 ?k_10 ?a_11 ?i_11 ?l_11 ?c_11 ?k_11 ?a_12 ?i_12 ?l_12 ?c_12 ?k_12 ?a_13 ?l_13 ?c_13 ?k_13 ?a_14 ?i_14 ?l_14 ?c_14 ?k_14 ?a_15 ?l_15 ?c_15 ?k_15 ?a_16 ?i_16 ?l_16 ?c_16 ?k_16 ?a_17 ?l_17 ?c_17 ?k_17 ?a_18 ?l_18 ?c_18 ?k_18 ?a_19 ?l_19 ?c_19 ?k_19 ?a_20 ?l_20 ?c_20 ?k_20 ?a_21 ?l_21 ?c_21 ?k_21 ?a_22 ?l_22 ?c_22 ?k_22 ?a_23 ?l_23 ?c_23 ?k_23 ?a_24 ?i_24 ?l_24 ?c_24 ?k_24 ?a_25 ?l_25 ?c_25 ?k_25 ?a_26 ?l_26 ?c_26 ?k_26 ?a_27 ?l_27 ?c_27 ?k_27 ?a_28 ?l_28 ?c_28 ?k_28 ?a_29 ?l_29 ?c_29 ?k_29 ?a_30 ?l_30 ?c_30 ?k_30 ?a_31 ?l_31 ?c_31 ?k_31 ?a_32 ?l_32 ?c_32 ?k_32 ?a_33 ?l_33 ?c_33 ?k_33 ?a_34 ?l_34 ?c_34 ?k_34 ?a_35 ?i_35 ?l_35 ?c_35 ?k_35 ?a_36 ?i_36 ?l_36 ?c_36 ?k_36 ?a_37 ?i_37 ?l_37 ?c_37 ?k_37 ?a_38 ?i_38 ?l_38 ?c_38 ?k_38 ?a_39 ?i_39 ?l_39 ?c_39 ?k_39 ?a_40 ?i_40 ?l_40 ?c_40 ?k_40 ?a_41 ?l_41 ?c_41 ?k_41 ?a_42 ?i_42 ?l_42 ?c_42 ?k_42 ?a_43 ?l_43 ?c_43 ?k_43 ?a_44 ?l_44 ?c_44 ?k_44 ?a_45 ?i_45 ?l_45 ?c_45 ?k_45 ?a_46 ?l_46 ?c_46 ?k_46 ?a_47 ?l_47 ?c_47 ?k_47 ?a_48 ?l_48 ?c_48 ?k_48 ?a_49 ?l_49 ?c_49 ?k_49 ?a_50 ?l_50 ?c_50 ?k_50 ?a_51 ?l_51 ?c_51 ?k_51 ?a_52 ?l_52 ?c_52 ?k_52 ?a_53 ?l_53 ?c_53 ?k_53 ?a_54 ?i_54 ?l_54 ?c_54 ?k_54 ?a_55 ?i_55 ?l_55 ?c_55 ?k_55 ?a_56 ?i_56 ?l_56 ?t_Hall_belt ?c_56 ?k_56 ?a_57 ?i_57 ?l_57 ?c_57 ?k_57 ?a_58 ?l_58 ?c_58 ?k_58 ?pg_Course ?hd_Course ?po_Course ?sa_Course ?mk_Course ?kc_Course ?na_Course_turns ?na_Course_rows ?na_Course_takes ?na_Course_gives ?na_Course_touched ?pg_Hall ?hd_Hall ?po_Hall ?sa_Hall ?mk_Hall ?kc_Hall ?na_Hall_numbers ?na_Hall_rows ?gx_NoName ?ex_NoName ?gx_Twice ?ex_Twice ?gx_TooMuch ?ex_TooMuch ?gx_NoWork ?ex_NoWork ?gx_NoBelt ?ex_NoBelt ?gx_NoRate ?ex_NoRate ?gx_NotBalanced ?ex_NotBalanced ?gx_TooLong ?ex_TooLong ?c_MOST_TURNS ?c_MOST_LETTERS ?c_MOST_WORKS ?c_MOST_BELTS ?z_all ?z_bool ?z_enumerate ?z_int ?z_isinstance ?z_len ?z_list ?z_min ?z_range ?z_reversed ?z_set ?z_sorted ?z_str ?z_sum ?z_tuple
  (case a_Course=>k_is)
  (case a_Hall=>k_is)
  (case a_0=>show _=_;k_is)
  (case l_0=>show _=_;k_is)
  (case c_0=>show _=_;k_is)
  (case k_0=>show _=_;k_is)
  (case a_1=>show _=_;k_is)
  (case l_1=>show _=_;k_is)
  (case c_1=>show _=_;k_is)
  (case k_1=>show _=_;k_is)
  (case a_2=>show _=_;k_is)
  (case l_2=>show _=_;k_is)
  (case c_2=>show _=_;k_is)
  (case k_2=>show _=_;k_is)
  (case a_3=>show _=_;k_is)
  (case l_3=>show _=_;k_is)
  (case c_3=>show _=_;k_is)
  (case k_3=>show _=_;k_is)
  (case a_4=>show _=_;k_is)
  (case l_4=>show _=_;k_is)
  (case c_4=>show _=_;k_is)
  (case k_4=>show _=_;k_is)
  (case a_5=>show _=_;k_is)
  (case l_5=>show _=_;k_is)
  (case c_5=>show _=_;k_is)
  (case k_5=>show _=_;k_is)
  (case a_6=>show _=_;k_is)
  (case l_6=>show _=_;k_is)
  (case c_6=>show _=_;k_is)
  (case k_6=>show _=_;k_is)
  (case a_7=>show _=_;k_is)
  (case l_7=>show _=_;k_is)
  (case c_7=>show _=_;k_is)
  (case k_7=>show _=_;k_is)
  (case a_8=>show _=_;k_is)
  (case l_8=>show _=_;k_is)
  (case c_8=>show _=_;k_is)
  (case k_8=>show _=_;k_is)
  (case a_9=>show _=_;k_is)
  (case l_9=>show _=_;k_is)
  (case c_9=>show _=_;k_is)
  (case k_9=>show _=_;k_is)
  (case a_10=>show _=_;k_is)
  (case l_10=>show _=_;k_is)
  (case c_10=>show _=_;k_is)
  (case k_10=>show _=_;k_is)
  (case a_11=>show _=_;k_is)
  (case i_11=>show _=_;k_is)
  (case l_11=>show _=_;k_is)
  (case c_11=>show _=_;k_is)
  (case k_11=>show _=_;k_is)
  (case a_12=>show _=_;k_is)
  (case i_12=>show _=_;k_is)
  (case l_12=>show _=_;k_is)
  (case c_12=>show _=_;k_is)
  (case k_12=>show _=_;k_is)
  (case a_13=>show _=_;k_is)
  (case l_13=>show _=_;k_is)
  (case c_13=>show _=_;k_is)
  (case k_13=>show _=_;k_is)
  (case a_14=>show _=_;k_is)
  (case i_14=>show _=_;k_is)
  (case l_14=>show _=_;k_is)
  (case c_14=>show _=_;k_is)
  (case k_14=>show _=_;k_is)
  (case a_15=>show _=_;k_is)
  (case l_15=>show _=_;k_is)
  (case c_15=>show _=_;k_is)
  (case k_15=>show _=_;k_is)
  (case a_16=>show _=_;k_is)
  (case i_16=>show _=_;k_is)
  (case l_16=>show _=_;k_is)
  (case c_16=>show _=_;k_is)
  (case k_16=>show _=_;k_is)
  (case a_17=>show _=_;k_is)
  (case l_17=>show _=_;k_is)
  (case c_17=>show _=_;k_is)
  (case k_17=>show _=_;k_is)
  (case a_18=>show _=_;k_is)
  (case l_18=>show _=_;k_is)
  (case c_18=>show _=_;k_is)
  (case k_18=>show _=_;k_is)
  (case a_19=>show _=_;k_is)
  (case l_19=>show _=_;k_is)
  (case c_19=>show _=_;k_is)
  (case k_19=>show _=_;k_is)
  (case a_20=>show _=_;k_is)
  (case l_20=>show _=_;k_is)
  (case c_20=>show _=_;k_is)
  (case k_20=>show _=_;k_is)
  (case a_21=>show _=_;k_is)
  (case l_21=>show _=_;k_is)
  (case c_21=>show _=_;k_is)
  (case k_21=>show _=_;k_is)
  (case a_22=>show _=_;k_is)
  (case l_22=>show _=_;k_is)
  (case c_22=>show _=_;k_is)
  (case k_22=>show _=_;k_is)
  (case a_23=>show _=_;k_is)
  (case l_23=>show _=_;k_is)
  (case c_23=>show _=_;k_is)
  (case k_23=>show _=_;k_is)
  (case a_24=>show _=_;k_is)
  (case i_24=>show _=_;k_is)
  (case l_24=>show _=_;k_is)
  (case c_24=>show _=_;k_is)
  (case k_24=>show _=_;k_is)
  (case a_25=>show _=_;k_is)
  (case l_25=>show _=_;k_is)
  (case c_25=>show _=_;k_is)
  (case k_25=>show _=_;k_is)
  (case a_26=>show _=_;k_is)
  (case l_26=>show _=_;k_is)
  (case c_26=>show _=_;k_is)
  (case k_26=>show _=_;k_is)
  (case a_27=>show _=_;k_is)
  (case l_27=>show _=_;k_is)
  (case c_27=>show _=_;k_is)
  (case k_27=>show _=_;k_is)
  (case a_28=>show _=_;k_is)
  (case l_28=>show _=_;k_is)
  (case c_28=>show _=_;k_is)
  (case k_28=>show _=_;k_is)
  (case a_29=>show _=_;k_is)
  (case l_29=>show _=_;k_is)
  (case c_29=>show _=_;k_is)
  (case k_29=>show _=_;k_is)
  (case a_30=>show _=_;k_is)
  (case l_30=>show _=_;k_is)
  (case c_30=>show _=_;k_is)
  (case k_30=>show _=_;k_is)
  (case a_31=>show _=_;k_is)
  (case l_31=>show _=_;k_is)
  (case c_31=>show _=_;k_is)
  (case k_31=>show _=_;k_is)
  (case a_32=>show _=_;k_is)
  (case l_32=>show _=_;k_is)
  (case c_32=>show _=_;k_is)
  (case k_32=>show _=_;k_is)
  (case a_33=>show _=_;k_is)
  (case l_33=>show _=_;k_is)
  (case c_33=>show _=_;k_is)
  (case k_33=>show _=_;k_is)
  (case a_34=>show _=_;k_is)
  (case l_34=>show _=_;k_is)
  (case c_34=>show _=_;k_is)
  (case k_34=>show _=_;k_is)
  (case a_35=>show _=_;k_is)
  (case i_35=>show _=_;k_is)
  (case l_35=>show _=_;k_is)
  (case c_35=>show _=_;k_is)
  (case k_35=>show _=_;k_is)
  (case a_36=>show _=_;k_is)
  (case i_36=>show _=_;k_is)
  (case l_36=>show _=_;k_is)
  (case c_36=>show _=_;k_is)
  (case k_36=>show _=_;k_is)
  (case a_37=>show _=_;k_is)
  (case i_37=>show _=_;k_is)
  (case l_37=>show _=_;k_is)
  (case c_37=>show _=_;k_is)
  (case k_37=>show _=_;k_is)
  (case a_38=>show _=_;k_is)
  (case i_38=>show _=_;k_is)
  (case l_38=>show _=_;k_is)
  (case c_38=>show _=_;k_is)
  (case k_38=>show _=_;k_is)
  (case a_39=>show _=_;k_is)
  (case i_39=>show _=_;k_is)
  (case l_39=>show _=_;k_is)
  (case c_39=>show _=_;k_is)
  (case k_39=>show _=_;k_is)
  (case a_40=>show _=_;k_is)
  (case i_40=>show _=_;k_is)
  (case l_40=>show _=_;k_is)
  (case c_40=>show _=_;k_is)
  (case k_40=>show _=_;k_is)
  (case a_41=>show _=_;k_is)
  (case l_41=>show _=_;k_is)
  (case c_41=>show _=_;k_is)
  (case k_41=>show _=_;k_is)
  (case a_42=>show _=_;k_is)
  (case i_42=>show _=_;k_is)
  (case l_42=>show _=_;k_is)
  (case c_42=>show _=_;k_is)
  (case k_42=>show _=_;k_is)
  (case a_43=>show _=_;k_is)
  (case l_43=>show _=_;k_is)
  (case c_43=>show _=_;k_is)
  (case k_43=>show _=_;k_is)
  (case a_44=>show _=_;k_is)
  (case l_44=>show _=_;k_is)
  (case c_44=>show _=_;k_is)
  (case k_44=>show _=_;k_is)
  (case a_45=>show _=_;k_is)
  (case i_45=>show _=_;k_is)
  (case l_45=>show _=_;k_is)
  (case c_45=>show _=_;k_is)
  (case k_45=>show _=_;k_is)
  (case a_46=>show _=_;k_is)
  (case l_46=>show _=_;k_is)
  (case c_46=>show _=_;k_is)
  (case k_46=>show _=_;k_is)
  (case a_47=>show _=_;k_is)
  (case l_47=>show _=_;k_is)
  (case c_47=>show _=_;k_is)
  (case k_47=>show _=_;k_is)
  (case a_48=>show _=_;k_is)
  (case l_48=>show _=_;k_is)
  (case c_48=>show _=_;k_is)
  (case k_48=>show _=_;k_is)
  (case a_49=>show _=_;k_is)
  (case l_49=>show _=_;k_is)
  (case c_49=>show _=_;k_is)
  (case k_49=>show _=_;k_is)
  (case a_50=>show _=_;k_is)
  (case l_50=>show _=_;k_is)
  (case c_50=>show _=_;k_is)
  (case k_50=>show _=_;k_is)
  (case a_51=>show _=_;k_is)
  (case l_51=>show _=_;k_is)
  (case c_51=>show _=_;k_is)
  (case k_51=>show _=_;k_is)
  (case a_52=>show _=_;k_is)
  (case l_52=>show _=_;k_is)
  (case c_52=>show _=_;k_is)
  (case k_52=>show _=_;k_is)
  (case a_53=>show _=_;k_is)
  (case l_53=>show _=_;k_is)
  (case c_53=>show _=_;k_is)
  (case k_53=>show _=_;k_is)
  (case a_54=>show _=_;k_is)
  (case i_54=>show _=_;k_is)
  (case l_54=>show _=_;k_is)
  (case c_54=>show _=_;k_is)
  (case k_54=>show _=_;k_is)
  (case a_55=>show _=_;k_is)
  (case i_55=>show _=_;k_is)
  (case l_55=>show _=_;k_is)
  (case c_55=>show _=_;k_is)
  (case k_55=>show _=_;k_is)
  (case a_56=>show _=_;k_is)
  (case i_56=>show _=_;k_is)
  (case l_56=>show _=_;k_is)
  (case t_Hall_belt=>k_is)
  (case c_56=>show _=_;k_is)
  (case k_56=>show _=_;k_is)
  (case a_57=>show _=_;k_is)
  (case i_57=>show _=_;k_is)
  (case l_57=>show _=_;k_is)
  (case c_57=>show _=_;k_is)
  (case k_57=>show _=_;k_is)
  (case a_58=>show _=_;k_is)
  (case l_58=>show _=_;k_is)
  (case c_58=>show _=_;k_is)
  (case k_58=>show _=_;k_is)
  (case pg_Course=>k_is)
  (case hd_Course=>k_is)
  (case po_Course=>k_is)
  (case sa_Course=>k_is)
  (case mk_Course=>k_is)
  (case kc_Course=>k_is)
  (case na_Course_turns=>k_is)
  (case na_Course_rows=>k_is)
  (case na_Course_takes=>k_is)
  (case na_Course_gives=>k_is)
  (case na_Course_touched=>k_is)
  (case pg_Hall=>k_is)
  (case hd_Hall=>k_is)
  (case po_Hall=>k_is)
  (case sa_Hall=>k_is)
  (case mk_Hall=>k_is)
  (case kc_Hall=>k_is)
  (case na_Hall_numbers=>k_is)
  (case na_Hall_rows=>k_is)
  (case gx_NoName=>k_is)
  (case ex_NoName=>k_exc)
  (case gx_Twice=>k_is)
  (case ex_Twice=>k_exc)
  (case gx_TooMuch=>k_is)
  (case ex_TooMuch=>k_exc)
  (case gx_NoWork=>k_is)
  (case ex_NoWork=>k_exc)
  (case gx_NoBelt=>k_is)
  (case ex_NoBelt=>k_exc)
  (case gx_NoRate=>k_is)
  (case ex_NoRate=>k_exc)
  (case gx_NotBalanced=>k_is)
  (case ex_NotBalanced=>k_exc)
  (case gx_TooLong=>k_is)
  (case ex_TooLong=>k_exc)
  (case c_MOST_TURNS=>k_is)
  (case c_MOST_LETTERS=>k_is)
  (case c_MOST_WORKS=>k_is)
  (case c_MOST_BELTS=>k_is)
  (case z_all=>k_is)
  (case z_bool=>k_is)
  (case z_enumerate=>k_is)
  (case z_int=>k_is)
  (case z_isinstance=>k_is)
  (case z_len=>k_is)
  (case z_list=>k_is)
  (case z_min=>k_is)
  (case z_range=>k_is)
  (case z_reversed=>k_is)
  (case z_set=>k_is)
  (case z_sorted=>k_is)
  (case z_str=>k_is)
  (case z_sum=>k_is)
  (case z_tuple=>k_is)
#print axioms PySem.Challenge.cw_ratehall_k12_round_walked_holds
