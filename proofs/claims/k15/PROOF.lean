import PyProof.Rows.All
import Wide.All
import OpenK.AllK
import Wide.FinOn
import Lean
import PyProof.EqAt
import PyProof.EqKinds
import PyProof.TupleCall
import PyProof.FactsAll.set
import PySem.Challenge.RW_ratehall_k15_no_round_refused
set_option maxHeartbeats 4000000
set_option compiler.extract_closed false
set_option bootstrap.genMatcherCode false
set_option Elab.async false
set_option linter.all false
set_option maxRecDepth 100000
namespace L2
open PySem PySem.Spec PyProof.Rows
noncomputable abbrev Key:=Sum Int Str
noncomputable def ZbU:Key→Value→Bool
 | .inl k,v=>Value.isInt k v
 | .inr x,v=>Value.isStrOf x v
noncomputable def Zmq (w:World):Key→Int
 | .inl k=>hashInt k
 | .inr x=>hashStr w x
theorem Yu:∀{k:Key}{v:Value},ZbU k v=true→(∃i t,k=Sum.inl i∧v=Value.int i t)∨(∃x t,k=Sum.inr x∧v=Value.str x t)
 | .inl i,v,h=>by
  obtain⟨t,e⟩:=Value.isInt_shape (k:=i) (v:=v) h;exact .inl ⟨i,t,rfl,e⟩
 | .inr x,v,h=>by
  obtain⟨t,e⟩:=Value.isStrOf_shape (x:=x) (v:=v) h;exact .inr ⟨x,t,rfl,e⟩
theorem ZhU(i:Int)(t:Tok):ZbU (.inl i) (.int i t)=true:=by simp[ZbU,Value.isInt]
theorem ZhH(x:Str)(t:Tok):ZbU (.inr x) (.str x t)=true:=by simp[ZbU,Value.isStrOf]
theorem Zki(a b:Int):decide ((Sum.inl a:Key)=Sum.inl b)=(a==b):=by
 by_cases e:a=b
 ·subst e;simp
 ·have h:¬(Sum.inl a:Key)=Sum.inl b:=fun q=>e (Sum.inl.inj q);rw[decide_eq_false h];exact(beq_eq_false_iff_ne.mpr e).symm
theorem ZkV(a b:Str):decide ((Sum.inr a:Key)=Sum.inr b)=decide (a=b):=by
 by_cases e:a=b
 ·subst e;simp
 ·have h:¬(Sum.inr a:Key)=Sum.inr b:=fun q=>e (Sum.inr.inj q);rw[decide_eq_false h,decide_eq_false e]
theorem Zlb(a:Int)(b:Str):decide ((Sum.inl a:Key)=Sum.inr b)=false:=decide_eq_false (fun q=>nomatch q)
theorem Zkf(a:Str)(b:Int):decide ((Sum.inr a:Key)=Sum.inl b)=false:=decide_eq_false (fun q=>nomatch q)
noncomputable def ZO (prog:Program) (w:World):PySem.KeyKind prog w Key where
 is:=ZbU
 hash:=Zmq w
 inj:=fun v a b ha hb=>by
  rcases Yu ha with⟨i,t,rfl,rfl⟩|⟨x,t,rfl,rfl⟩
  ·rcases Yu hb with⟨j,u,rfl,e⟩|⟨y,u,rfl,e⟩
   ·injection e with e1 _;rw[e1]
   ·exact nomatch e
  ·rcases Yu hb with⟨j,u,rfl,e⟩|⟨y,u,rfl,e⟩
   ·exact nomatch e
   ·injection e with e1 _;rw[e1]
 byValue:=fun k v h=>by
  rcases Yu h with⟨i,t,rfl,rfl⟩|⟨x,t,rfl,rfl⟩<;>rfl
 pyHash:=fun hv h=>by
  rcases Yu hv with⟨i,t,rfl,rfl⟩|⟨x,t,rfl,rfl⟩
  ·exact wpAny_pyHash_int h
  ·exact wpAny_pyHash_str h
 eqBool:=fun hu hv h=>by
  rcases Yu hu with⟨i,t,rfl,rfl⟩|⟨x,t,rfl,rfl⟩
  ·rcases Yu hv with⟨j,u,rfl,rfl⟩|⟨y,u,rfl,rfl⟩
   ·rw[Zki] at h;exact wpAny_eqBool_int h
   ·rw[Zlb] at h;exact SeqAt.EqAt.int_str i t y u _ _ _ _ h
  ·rcases Yu hv with⟨j,u,rfl,rfl⟩|⟨y,u,rfl,rfl⟩
   ·rw[Zkf] at h;exact SeqAt.EqAt.str_int x t j u _ _ _ _ h
   ·rw[ZkV] at h;exact wpAny_eqBool_str h
 «strs»:=fun k x t v h=>by
  rcases Yu h with⟨i,u,rfl,e⟩|⟨y,u,rfl,e⟩
  ·exact nomatch e
  ·injection e with e1 _
   subst e1;cases v<;>rfl
theorem Zfh(prog:Program)(w:World)(i:Int)(t:Tok):(ZO prog w).is (.inl i) (.int i t)=true:=ZhU i t
theorem Zfv(prog:Program)(w:World)(x:Str)(t:Tok):(ZO prog w).is (.inr x) (.str x t)=true:=ZhH x t
end L2
namespace L2
open PySem PySem.Spec PyProof.Rows
inductive V where
 |non|bl (b:Bool)|int (i:Int)|str (x:Str)|byt (b:Array UInt8)|flt (b:UInt64)|ref (a:Addr)|ty (n:String)
 deriving DecidableEq
noncomputable def Zu:V→Value→Prop
 | .non,u=>u=Value.none
 | .bl b,u=>u=Value.bool b
 | .int i,u=>∃t,u=Value.int i t
 | .str x,u=>∃t,u=Value.str x t
 | .byt b,u=>∃t,u=Value.bytes b t
 | .flt b,u=>∃t,u=Value.float b t
 | .ref a,u=>u=Value.ref a
 | .ty n,u=>u=Value.type n
noncomputable abbrev Zq:List V→List Value→Prop:=Paired Zu
theorem Zq.length{xs:List V}{us:List Value}(r:Zq xs us):xs.length=us.length:=Paired.length r
theorem Zq.get:∀{xs:List V}{us:List Value}{i:Nat}{x:V},Zq xs us→xs[i]? =some x→∃u,us[i]? =some u∧Zu x u
 |_,_,_,_,.nil,e=>by simp at e
 |_,_,0,_,.cons r _,e=>by simp at e;subst e;exact⟨_,rfl,r⟩
 |_,_,i+1,x,.cons _ t,e=>by
  obtain⟨u,h1,h2⟩:=Zq.get (i:=i) (x:=x) t (by simpa using e);exact⟨u,by simpa using h1,h2⟩
theorem Zq.set{x:V}{u:Value}(r:Zu x u):∀{xs:List V}{us:List Value}(i:Nat),Zq xs us→Zq (xs.set i x) (us.set i u)
 |_,_,_,.nil=> .nil
 |_,_,0,.cons _ t=> .cons r t
 |_,_,i+1,.cons q t=> .cons q (Zq.set r i t)
theorem Zq.append:∀{xs ys:List V}{us ws:List Value},Zq xs us→Zq ys ws→Zq (xs++ys) (us++ws)
 |_,_,_,_,.nil,s=>s
 |_,_,_,_,.cons r t,s=> .cons r (Zq.append t s)
theorem Zq.take:∀{xs:List V}{us:List Value}(n:Nat),Zq xs us→Zq (xs.take n) (us.take n)
 |_,_,0,_=> .nil
 |_,_,_+1,.nil=> .nil
 |_,_,n+1,.cons r t=> .cons r (Zq.take n t)
theorem Zq.drop:∀{xs:List V}{us:List Value}(n:Nat),Zq xs us→Zq (xs.drop n) (us.drop n)
 |_,_,0,r=>r
 |_,_,_+1,.nil=> .nil
 |_,_,n+1,.cons _ t=>Zq.drop n t
noncomputable def W1:Option V→Option Value→Prop
 |some v,some u=>Zu v u
 |none,none=>True
 |_,_=>False
noncomputable def KV {κ:Type}:List (κ×V)→List (κ×Value)→Prop:=Paired fun(p:κ×V) (q:κ×Value)=>p.1=q.1∧Zu p.2 q.2
noncomputable def kV:Key→V
 | .inl i=> .int i
 | .inr x=> .str x
inductive HO where
 |lst (xs:List V)
 |tup (xs:List V)
 |dK (kvs:List (Key×V))|dT (kvs:List (List Key×V))
 |set (S:Int→Bool) (n:Nat)
 |ins (C dx:Addr) (fs:List (Str×V))
 |own (x:Addr)
 |xd (fs:List (Str×V))
 |met (f x:Addr)
 |rng (lo hi:Int)
 |frz (o:Obj) (u:HO)
 |tbl (ps:Array Value)
 |ext (φ:Heap→Prop)
noncomputable abbrev Hp:=Addr→Option HO
noncomputable def upd (H:Hp) (a:Addr) (o:HO):Hp:=fun b=>if b=a then some o else H b
theorem Zf{H:Hp}{a:Addr}{o:HO}:upd H a o a=some o:=by unfold upd;rw[if_pos rfl]
theorem Ze{H:Hp}{a b:Addr}{o:HO}(h:b≠a):upd H a o b=H b:=by unfold upd;rw[if_neg h]
theorem YD{H:Hp}{a b:Addr}{o u:HO}(h:H a=some o)(h':H b=some u)(d:o≠u):a≠b:=by
 intro e;subst e;rw[h] at h';exact d (Option.some.inj h')
theorem Zj{H:Hp}{a b:Addr}{o:HO}(h:H a=some o)(h':H b=none):a≠b:=by
 intro e;subst e;rw[h] at h';cases h'
section
variable (P:Program)(w:World)
noncomputable def ZU (H:Hp) (h:Heap) (a:Addr):HO→Prop
 | .lst xs=>xs.length≤sizeLine∧∃(its:List Value)(n:Nat),Zq xs its∧h.get? a=some {cls:= .type "list",data:= .seq its.toArray n}
 | .tup xs=>xs.length≤sizeLine∧∃its:List Value,Zq xs its∧IsTup h a its.toArray
 | .dK kvs=>kvs.length≤sizeLine∧(a==sysModules)=false∧∃vs,KV kvs vs∧h.DictOf (ZO P w) a vs
 | .dT kvs=>kvs.length≤sizeLine∧(a==sysModules)=false∧∃xs:List (List Key×Addr×Value),
   Paired (fun(p:List Key×V) (q:List Key×Addr×Value)=>p.1=q.1∧H q.2.1=some (.tup (p.1.map kV))∧Zu p.2 q.2.2) kvs xs∧
   ∃o es ep,h.get? a=some o∧o.ExactDict∧o.data= .dict es ep∧es.toList=xs.map (entryOfKey (tupleKind (ZO P w)))∧(xs.map (·.1)).Nodup
 | .set S n=>h.SetOf (intKind P w) a S n
 | .ins C dx fs=>H dx=some (.own a)∧fs.length≤1000∧dx≠a∧h.get? a=some (PySem.W.instObj C dx)∧
   ∃mA,h.Ns1 dx mA∧(∀f,W1 (fs.lookup f) (mA f))∧PySem.Within mA (fs.map (·.1))
 | .own _=>∃o,h.get? a=some o
 | .xd fs=>∃mA,h.Ns1 a mA∧∀f,W1 (fs.lookup f) (mA f)
 | .rng lo hi=>∃t u v,h.get? a=some {cls:= .type "range",data:= .fields #[.int lo t,.int hi u,.int 1 v]}
 | .frz o u=>h.get? a=some o∧ZU H h a u
 | .tbl ps=>h.get? a=some {cls:= .none,data:= .fields ps}
 | .met f x=>h.get? a=some (PySem.W.methodObj (.ref f) (.ref x))
 | .ext φ=>φ h∧(∃o,h.get? a=some o)∧∀h1 h2:Heap,φ h1→(∀o,h1.get? a=some o→h2.get? a=some o)→φ h2
def HOk(H:Hp)(h:Heap):Prop:=∀a o,H a=some o→ZU P w H h a o
end
section
variable {P:Program}{w:World}{H H':Hp}{h h':Heap}{a:Addr}{o:HO}
theorem ZU.lt(x:ZU P w H h a o):a<h.objs.size:=by
 cases o with
 |lst xs=>obtain⟨_,_,_,_,e⟩:=x;exact Heap.lt_size e
 |tup xs=>obtain⟨_,_,_,p⟩:=x;exact p.lt
 |dK kvs=>obtain⟨_,_,_,_,o,_,_,e,_⟩:=x;exact Heap.lt_size e
 |dT kvs=>obtain⟨_,_,_,_,o,_,_,e,_⟩:=x;exact Heap.lt_size e
 |set S n=>obtain⟨o,_,_,_,e,_⟩:=x;exact Heap.lt_size e
 |ins C dx fs=>obtain⟨_,_,_,e,_⟩:=x;exact Heap.lt_size e
 |own y=>obtain⟨_,e⟩:=x;exact Heap.lt_size e
 |xd fs=>obtain⟨_,⟨_,_,_,e,_⟩,_⟩:=x;exact Heap.lt_size e
 |rng lo hi=>obtain⟨_,_,_,e⟩:=x;exact Heap.lt_size e
 |frz ob u=>obtain⟨e,_⟩:=x;exact Heap.lt_size e
 |tbl ps=>exact Heap.lt_size (show h.get? a=some _ from x)
 |met f y=>exact Heap.lt_size (show h.get? a=some _ from x)
 |ext φ=>obtain⟨_,⟨_,e⟩,_⟩:=x;exact Heap.lt_size e
theorem Paired.mapP{α β:Type}{F G:α→β→Prop}:∀{l₁:List α}{l₂:List β},Paired F l₁ l₂→(∀a b,F a b→G a b)→Paired G l₁ l₂
 |_,_,.nil,_=> .nil
 |_,_,.cons r t,f=> .cons (f _ _ r) (Paired.mapP t f)
theorem ZU.stay(x:ZU P w H h a o)(k:∀b u,(b=a∨H b=some (.own a))→h.get? b=some u→h'.get? b=some u)
  (ho:∀b,H b=some (.own a)→H' b=some (.own a)) (ht:∀b xs,H b=some (.tup xs)→H' b=some (.tup xs)):ZU P w H' h' a o:=by
 induction o with
 |lst xs=>obtain⟨z,its,n,r,e⟩:=x;exact⟨z,its,n,r,k _ _ (.inl rfl) e⟩
 |tup xs=>obtain⟨z,its,r,ob,e,c⟩:=x;exact⟨z,its,r,ob,k _ _ (.inl rfl) e,c⟩
 |dK kvs=>obtain⟨z,y,vs,r,ob,es,ep,e,c⟩:=x;exact⟨z,y,vs,r,ob,es,ep,k _ _ (.inl rfl) e,c⟩
 |dT kvs=>
  obtain⟨z,y,xs,r,ob,es,ep,e,c⟩:=x;exact⟨z,y,xs,Paired.mapP r fun p q z=>⟨z.1,ht _ _ z.2.1,z.2.2⟩,ob,es,ep,k _ _ (.inl rfl) e,c⟩
 |set S n=>obtain⟨ob,es,ep,t,e,c⟩:=x;exact⟨ob,es,ep,t,k _ _ (.inl rfl) e,c⟩
 |ins C dx fs=>
  obtain⟨d,z,ne,e,mA,⟨od,es,ep,e2,c⟩,r⟩:=x;exact⟨ho _ d,z,ne,k _ _ (.inl rfl) e,mA,⟨od,es,ep,k _ _ (.inr d) e2,c⟩,r⟩
 |own y=>obtain⟨ob,e⟩:=x;exact⟨ob,k _ _ (.inl rfl) e⟩
 |xd fs=>obtain⟨mA,⟨od,es,ep,e,c⟩,r⟩:=x;exact⟨mA,⟨od,es,ep,k _ _ (.inl rfl) e,c⟩,r⟩
 |rng lo hi=>obtain⟨t,u,v,e⟩:=x;exact⟨t,u,v,k _ _ (.inl rfl) e⟩
 |frz ob u ih=>obtain⟨e,q⟩:=x;exact⟨k _ _ (.inl rfl) e,ih q⟩
 |tbl ps=>
  have e:h.get? a=some {cls:= .none,data:= .fields ps}:=x;show h'.get? a=some {cls:= .none,data:= .fields ps};exact k a _ (.inl rfl) e
 |met f y=>
  have e:h.get? a=some (PySem.W.methodObj (.ref f) (.ref y)):=x;show h'.get? a=some (PySem.W.methodObj (.ref f) (.ref y));exact k a _ (.inl rfl) e
 |ext φ=>obtain⟨p,⟨o,e⟩,st⟩:=x;exact⟨st _ _ p fun o q=>k _ _ (.inl rfl) q,⟨o,k _ _ (.inl rfl) e⟩,st⟩
theorem HOk.lt(x:HOk P w H h)(e:H a=some o):a<h.objs.size:=(x a o e).lt
theorem HOk.fresh(x:HOk P w H h)(e:h.objs.size≤a):H a=none:=by
 cases q:H a with
 |none=>rfl
 |some u=>exact absurd (Nat.lt_of_lt_of_le (x.lt q) e) (Nat.lt_irrefl _)
theorem HOk.kept(x:HOk P w H h)(k:∀b u,h.get? b=some u→h'.get? b=some u):HOk P w H h':=fun a o e=>
 (x a o e).stay (fun b u _ q=>k b u q) (fun _ q=>q) fun _ _ q=>q
theorem HOk.laid(x:HOk P w H h)(k:∀b u,h.get? b=some u→h'.get? b=some u)(hp:h.objs.size≤a)(new:ZU P w (upd H a o) h' a o):HOk P w (upd H a o) h':=fun b u e=>by
 have hn:=x.fresh hp
 by_cases hb:b=a
 ·subst hb;rw[Zf] at e;cases e;exact new
 ·rw[Ze hb] at e;exact(x b u e).stay (fun c v _ q=>k c v q) (fun c q=>by rw[Ze (Zj q hn)];exact q) fun c xs q=>by rw[Ze (Zj q hn)];exact q
end
def Rd(H:Hp)(a:Addr)(u:HO):Prop:=H a=some u∨∃o,H a=some (.frz o u)
theorem Rd.ok{P:Program}{w:World}{H:Hp}{h:Heap}{a:Addr}{u:HO}(r:Rd H a u)(x:HOk P w H h):ZU P w H h a u:=by
 rcases r with r|⟨o,r⟩
 ·exact x a u r
 ·obtain⟨_,q⟩:=x a _ r;exact q
noncomputable def Mut:Option HO→Prop
 |some (.lst _)=>True
 |some (.dK _)=>True
 |some (.dT _)=>True
 |some (.set _ _)=>True
 |some (.ins _ _ _)=>True
 |some (.ext _)=>True
 |_=>False
section
variable {P:Program}{w:World}{H:Hp}{h h':Heap}{x e:Addr}{o':HO}
theorem HOk.write(ok:HOk P w H h)(mu:Mut (H x))(he:e=x∨H e=some (.own x))(k:∀b u,b≠e→h.get? b=some u→h'.get? b=some u)(heo:∃u,h'.get? e=some u)
  (new:ZU P w (upd H x o') h' x o'):HOk P w (upd H x o') h':=fun b u q=>by
 have nown:∀c y,H c=some (.own y)→c≠x:=fun c y r z=>by subst z;rw[r] at mu;exact mu
 have ntup:∀c xs,H c=some (.tup xs)→c≠x:=fun c xs r z=>by subst z;rw[r] at mu;exact mu
 by_cases hb:b=x
 ·subst hb;rw[Zf] at q;cases q;exact new
 ·rw[Ze hb] at q
  by_cases hbe:b=e
  ·have q':H b=some (.own x):=by
    rcases he with z|z
    ·exact absurd (hbe.trans z) hb
    ·rw[hbe];exact z
   rw[q] at q';cases q';obtain⟨v,hv⟩:=heo;exact⟨v,by rw[hbe];exact hv⟩
  ·refine(ok b u q).stay (fun c v hc r=>k c v ?_ r) (fun c r=>by rw[Ze (nown c b r)];exact r) fun c xs r=>by rw[Ze (ntup c xs r)];exact r
   rcases hc with rfl|hc
   ·exact hbe
   ·rintro rfl;rcases he with z|z
    ·exact nown c b hc z
    ·rw[hc] at z;cases z;exact hb rfl
end
structure Un(fs ex:List Addr)(H H':Hp)(h h':Heap):Prop where
 keep:∀b o,h.get? b=some o→H b=none→b∉fs→b∉ex→h'.get? b=some o
 slot:∀b o,h.get? b=some o→H b=none→b∈fs→b∉ex→∃sl,h'.get? b=some {o with slots:=sl}
 free:∀b o,h.get? b=some o→H b=none→b∉ex→H' b=none
 there:∀b o,h.get? b=some o→b∉ex→∃o',h'.get? b=some o'
 tups:∀b xs,H b=some (.tup xs)→H' b=some (.tup xs)
 frzs:∀b o u,H b=some (.frz o u)→H' b=some (.frz o u)
 tbls:∀b ps,H b=some (.tbl ps)→∃more,H' b=some (.tbl (ps++more))
section
variable {fs fs' ex ex':List Addr}{H H1 H2:Hp}{h h1 h2 h':Heap}{a x e:Addr}{o:HO}
theorem Un.any(u:Un fs ex H H1 h h1){b:Addr}{ob:Obj}(q:h.get? b=some ob)(n:H b=none)(hx:b∉ex):∃sl,h1.get? b=some {ob with slots:=sl}:=by
 by_cases hb:b∈fs
 ·exact u.slot b ob q n hb hx
 ·exact⟨ob.slots,u.keep b ob q n hb hx⟩
theorem Un.kept(k:∀b u,h.get? b=some u→h'.get? b=some u):Un fs ex H H h h':=
 ⟨fun b ob q _ _ _=>k b ob q,fun b ob q _ _ _=>⟨ob.slots,k b ob q⟩,fun _ _ _ n _=>n,fun b ob q _=>⟨ob,k b ob q⟩,fun _ _ q=>q,fun _ _ _ q=>q,fun _ ps q=>⟨#[],by rw[q];simp⟩⟩
theorem Un.refl:Un fs ex H H h h:=Un.kept fun _ _ q=>q
theorem Un.laid(k:∀b u,h.get? b=some u→h'.get? b=some u)(hp:h.objs.size≤a)(hn:H a=none):Un fs ex H (upd H a o) h h' where
 keep:=fun b u q _ _ _=>k b u q
 slot:=fun b u q _ _ _=>⟨u.slots,k b u q⟩
 free:=fun b u q n _=>by rw[Ze (Nat.ne_of_lt (Nat.lt_of_lt_of_le (Heap.lt_size q) hp))];exact n
 there:=fun b u q _=>⟨u,k b u q⟩
 tups:=fun b xs q=>by rw[Ze (Zj q hn)];exact q
 frzs:=fun b u xs q=>by rw[Ze (Zj q hn)];exact q
 tbls:=fun b ps q=>⟨#[],by rw[Ze (Zj q hn),q];simp⟩
theorem Un.write(mu:Mut (H x))(he:e=x∨H e=some (.own x))(k:∀b u,b≠e→h.get? b=some u→h'.get? b=some u)(heo:∃u,h'.get? e=some u):Un fs ex H (upd H x o) h h':=by
 have hx:∀b,H b=none→b≠x:=fun b n z=>by subst z;rw[n] at mu;exact mu
 have hb:∀b,H b=none→b≠e:=fun b n z=>by
  subst z;rcases he with r|r
  ·exact hx b n r
  ·rw[n] at r;cases r
 have hm:∀b u,H b=some u→¬Mut (some u)→b≠x:=fun b u q nm z=>by subst z;rw[q] at mu;exact nm mu
 refine⟨fun b u q n _ _=>k b u (hb b n) q,fun b u q n _ _=>⟨u.slots,k b u (hb b n) q⟩,fun b u q n _=>by rw[Ze (hx b n)];exact n,fun b u q _=>?_,
  fun b xs q=>by rw[Ze (hm b _ q fun z=>z)];exact q,fun b u xs q=>by rw[Ze (hm b _ q fun z=>z)];exact q,fun b ps q=>⟨#[],by rw[Ze (hm b _ q fun z=>z),q];simp⟩⟩
 by_cases hbe:b=e
 ·subst hbe;exact heo
 ·exact⟨u,k b u hbe q⟩
end
noncomputable def trk (h:Heap) (H:Hp):List Addr:=(List.range h.objs.size).filter fun a=>(H a).isSome
noncomputable def ZaZ (h:Heap) (H:Hp):Heap:=PySem.W.hideAll h (trk h H)
theorem Zh5(h:Heap)(H:Hp):(ZaZ h H).objs.size=h.objs.size:=PySem.W.hideAll_size _ _
theorem Zin{h:Heap}{H:Hp}{b:Addr}{o:Obj}(e:h.get? b=some o)(n:H b=none):(ZaZ h H).get? b=some o:=
 PySem.W.hideAll_get _ e fun hm=>by
  have q:(H b).isSome=true:=(List.mem_filter.mp hm).2;rw[n] at q;simp at q
theorem ZjR{h:Heap}{H:Hp}{b:Addr}{o:Obj}(e:(ZaZ h H).get? b=some o):h.get? b=some o∧H b=none:=by
 have e':h.get? b=some o:=PySem.W.of_hideAll (trk h H) e;refine⟨e',?_⟩;cases q:H b with
 |none=>rfl
 |some x=>
  have hm:b∈trk h H:=List.mem_filter.mpr ⟨List.mem_range.mpr (Heap.lt_size e'),by simp[q]⟩;have z:(ZaZ h H).get? b=none:=PySem.W.hideAll_none (trk h H) hm;rw[z] at e;cases e
end L2
namespace L2
open PySem PySem.Spec PyProof.Rows
structure Mod(K:PySem.W.Frag)(mg:Str→Option Value)(base:Heap):Prop where
 kin:K.In base
 glob:base.Ns mainGlobals mg
 blt:∃mb,base.Ns builtinsNs mb∧∀x:Str,x≠"__name__" →mb x=bootBuiltins x
 nolimit:base.NoLimit
structure Cx where
 prog:Program
 w:World
 K:PySem.W.Frag
 mg:Str→Option Value
 base:Heap
 A:Around
 N:List Str
 s₀:Shared
 H₀:Hp
 env:Env
 outer:List Env
 stack:List Env
 ex:List Addr
 fn:Str→Bool
 calm:Bool
 pn:List (Addr×Obj)
 xe:Value→Shared→Prop
noncomputable def frs (l:List Env):List Addr:=l.filterMap (·.frame)
noncomputable abbrev Cx.fs (X:Cx):List Addr:=frs X.outer
def Vis(sc:Scope)(x:Str):Prop:=sc.names.lookup x=some .local∨sc.names.lookup x=some .cell∨sc.names.lookup x=some .free
def Loc(sc:Scope)(x:Str):Prop:=sc.names.lookup x=some .local∨sc.names.lookup x=some .cell
def Zk8(env:Env)(h:Heap)(m:Str→Option Value)(x:Str)(u:Value):Prop:=
 (env.kindOf x=some .local∧m x=some u)∨((env.kindOf x=some .cell∨env.kindOf x=some .free)∧∃c,env.cells.lookup x=some c∧h.IsCell c (some u))
structure Cx.Ok(X:Cx):Prop where
 mod:Mod X.K X.mg X.base
 kind:X.env.scope.kind= .function
 glob:X.env.globals=mainGlobals
 blt:X.env.builtins=builtinsNs
 above:X.s₀.heap.objs.size≤X.env.locals
 inj:∀x y c,X.env.cells.lookup x=some c→X.env.cells.lookup y=some c→x=y
 has:∀x,(X.env.kindOf x=some .cell∨X.env.kindOf x=some .free)→∃c,X.env.cells.lookup x=some c
 cab:∀x c,X.fn x=true→X.env.cells.lookup x=some c→X.s₀.heap.objs.size≤c
 hd:X.calm=true→X.A.handled=none
 frames:X.A.frames=some X.stack
 stk:X.stack=X.outer∨(X.stack=X.env::X.outer∧X.env.frame=some X.env.locals)
 exf:∀b∈X.ex,b≠X.env.locals∧∀x c,X.env.cells.lookup x=some c→c≠b
 bs:∀b o,X.base.get? b=some o→X.s₀.heap.get? b=some o∧X.H₀ b=none
 bsz:X.base.objs.size≤X.s₀.heap.objs.size
 noex:∀b o,X.base.get? b=some o→b∉X.ex
 exfs:∀b∈X.ex,b∉X.fs
 funs:X.s₀.heap.FunFrames X.base X.outer
 frf:∀b∈X.fs,X.H₀ b=none
structure Inv(X:Cx)(pins:List (Addr×Obj))(σ:List (Option V))(H:Hp)(s:Shared):Prop where
 ok:X.Ok
 os:s.os=X.s₀.os
 bare:AllBare s.gens
 base:Un X.fs X.ex X.H₀ H X.s₀.heap s.heap
 loc:∃m,s.heap.Ns X.env.locals m∧∀(i:Nat)(x:Str)(v:V),X.N[i]? =some x→σ[i]? =some (some v)→Vis X.env.scope x→∃u,Zu v u∧Zk8 X.env s.heap m x u
 cell:∀x c,X.env.cells.lookup x=some c→∃v,s.heap.IsCell c v
 free:H X.env.locals=none
 freeC:∀x c,X.env.cells.lookup x=some c→H c=none
 pin:∀p∈X.pn++pins,s.heap.get? p.1=some p.2∧H p.1=none∧p.1≠X.env.locals∧p.1∉X.fs∧∀v,p.2.data≠ .cell v
 hok:HOk X.prog X.w H s.heap
 len:σ.length=X.N.length
section
variable {X:Cx}{pins:List (Addr×Obj)}{σ:List (Option V)}{H H':Hp}{s:Shared}{h':Heap}
theorem Cx.Ok.nofr(ok:X.Ok){b:Addr}{o:Obj}(e:X.base.get? b=some o):b∉X.fs:=fun hb=>by
 have:=(ok.funs.mem hb).1;rw[e] at this;cases this
theorem Inv.bs(I:Inv X pins σ H s):∀b o,X.base.get? b=some o→s.heap.get? b=some o∧H b=none:=fun b o e=>
 ⟨I.base.keep b o (I.ok.bs b o e).1 (I.ok.bs b o e).2 (I.ok.nofr e) (I.ok.noex b o e),I.base.free b o (I.ok.bs b o e).1 (I.ok.bs b o e).2 (I.ok.noex b o e)⟩
theorem Inv.bk(I:Inv X pins σ H s):∀b o,X.base.get? b=some o→s.heap.get? b=some o:=fun b o e=>(I.bs b o e).1
theorem Inv.mod(I:Inv X pins σ H s):Mod X.K X.mg X.base:=I.ok.mod
theorem Inv.kIn(I:Inv X pins σ H s):X.K.In s.heap:=I.ok.mod.kin.keeps I.bk
theorem Inv.lt(I:Inv X pins σ H s):X.env.locals<s.heap.objs.size:=let⟨_,hn,_⟩:=I.loc;hn.lt
theorem Inv.sz(I:Inv X pins σ H s):X.s₀.heap.objs.size≤s.heap.objs.size:=Nat.le_trans I.ok.above (Nat.le_of_lt I.lt)
theorem Inv.nofs(I:Inv X pins σ H s){a:Addr}(h:s.heap.objs.size≤a):a∉X.fs:=fun hb=>by
 obtain⟨_,o,ho,_⟩:=I.ok.funs.mem hb;exact absurd (Nat.lt_of_lt_of_le (Heap.lt_size ho) (Nat.le_trans I.sz h)) (Nat.lt_irrefl _)
theorem Inv.cne(I:Inv X pins σ H s):∀x c,X.env.cells.lookup x=some c→c≠X.env.locals:=fun x c e z=>by
 obtain⟨v,o,ho,hd⟩:=I.cell x c e;obtain⟨m,⟨o',es,ep,ho',hd',_⟩,_⟩:=I.loc;rw[z,ho'] at ho;cases ho;rw[hd'] at hd;cases hd
theorem Inv.funs(I:Inv X pins σ H s):s.heap.FunFrames X.base X.outer:=by
 have all:∀(l:List Env),(∀b∈frs l,b∈X.fs)→X.s₀.heap.FunFrames X.base l→s.heap.FunFrames X.base l:=by
  intro l
  induction l with
  |nil=>intro _ _;trivial
  |cons env r ih=>
   intro hs hl;obtain⟨hk,⟨L,o,hf,hn,ho,hd⟩,hr⟩:=hl;have hL:L∈X.fs:=hs L (by unfold frs;rw[List.filterMap_cons,hf];exact List.mem_cons_self);obtain⟨sl,e⟩:=I.base.slot L o ho (I.ok.frf L hL) hL fun z=>I.ok.exfs L z hL;exact⟨hk,⟨L,_,hf,hn,e,hd⟩,ih (fun b hb=>hs b (by unfold frs;rw[List.filterMap_cons,hf];exact List.mem_cons_of_mem _ hb)) hr⟩
 exact all X.outer (fun _ hb=>hb) I.ok.funs
theorem Inv.stack(I:Inv X pins σ H s):s.heap.FunFrames X.base X.stack:=by
 rcases I.ok.stk with e|⟨e,hf⟩
 ·rw[e];exact I.funs
 ·rw[e];obtain⟨m,hn,_⟩:=I.loc;refine .cons (by rw[I.ok.kind];decide) hf hn ?_ I.funs;exact Heap.get?_none_of_le (Nat.le_trans I.ok.bsz I.ok.above)
theorem Inv.stkSub(I:Inv X pins σ H s):∀b∈frs X.stack,b∈X.env.locals::X.fs:=fun b hb=>by
 rcases I.ok.stk with e|⟨e,hf⟩
 ·rw[e] at hb;exact List.mem_cons_of_mem _ hb
 ·rw[e] at hb;unfold frs at hb;rw[List.filterMap_cons,hf] at hb;exact hb
theorem Inv.stkFree(I:Inv X pins σ H s):∀b∈frs X.stack,H b=none:=fun b hb=>by
 rcases List.mem_cons.mp (I.stkSub b hb) with e|hb
 ·rw[e];exact I.free
 ·obtain⟨_,o,ho,_⟩:=I.ok.funs.mem hb;exact I.base.free b o ho (I.ok.frf b hb) fun z=>I.ok.exfs b z hb
theorem Inv.step{g':Array GenState}{t':Nat}{d':Drawn}{ch:List Addr}(I:Inv X pins σ H s)
  (hch:∀b∈ch,(b∈X.ex∨X.s₀.heap.objs.size≤b)∧b≠X.env.locals∧(∀x c,X.env.cells.lookup x=some c→c≠b)∧∀p∈X.pn++pins,p.1≠b)
  (keep:∀b o,b≠X.env.locals→b∉X.fs→b∉ch→s.heap.get? b=some o→H b=none→h'.get? b=some o)
  (slot:∀b o,b≠X.env.locals→b∈X.fs→b∉ch→s.heap.get? b=some o→H b=none→∃sl,h'.get? b=some {o with slots:=sl}) (free:∀b o,b∉ch→s.heap.get? b=some o→H b=none→H' b=none)
  (there:∀b o,b∉ch→s.heap.get? b=some o→∃o',h'.get? b=some o')
  (tups:∀b xs,H b=some (.tup xs)→H' b=some (.tup xs)) (frzs:∀b o u,H b=some (.frz o u)→H' b=some (.frz o u)) (tbls:∀b ps,H b=some (.tbl ps)→∃more,H' b=some (.tbl (ps++more)))
  (ns:∀m,s.heap.Ns X.env.locals m→h'.Ns X.env.locals m) (hok:HOk X.prog X.w H' h') (hg:AllBare g'):
  Inv X pins σ H' {s with heap:=h',gens:=g',drawn:=d',toks:=t'}:=by
 have neL:∀b o,X.s₀.heap.get? b=some o→b≠X.env.locals:=fun b o e=>Nat.ne_of_lt (Nat.lt_of_lt_of_le (Heap.lt_size e) I.ok.above);have neC:∀b o,X.s₀.heap.get? b=some o→b∉X.ex→b∉ch:=fun b o e hx hb=>by
  rcases(hch b hb).1 with z|z
  ·exact hx z
  ·exact absurd (Nat.lt_of_lt_of_le (Heap.lt_size e) z) (Nat.lt_irrefl _)
 have cellK:∀x c,X.env.cells.lookup x=some c→∀v,s.heap.IsCell c v→h'.IsCell c v:=fun x c e v ⟨o,ho,hd⟩=>by
  have nch:c∉ch:=fun z=>(hch c z).2.2.1 x c e rfl
  by_cases hc:c∈X.fs
  ·obtain⟨sl,q⟩:=slot c o (I.cne x c e) hc nch ho (I.freeC x c e);exact⟨_,q,hd⟩
  ·exact⟨o,keep c o (I.cne x c e) hc nch ho (I.freeC x c e),hd⟩
 refine⟨I.ok,I.os,hg,⟨fun b o e n hb hx=>?_,fun b o e n hb hx=>?_,fun b o e n hx=>?_,fun b o e hx=>?_,fun b xs e=>tups b xs (I.base.tups b xs e),fun b o xs e=>frzs b o xs (I.base.frzs b o xs e),fun b ps e=>?_⟩,?_,fun x c e=>?_,?_,fun x c e=>?_,fun p hp=>?_,hok,I.len⟩
 ·exact keep b o (neL b o e) hb (neC b o e hx) (I.base.keep b o e n hb hx) (I.base.free b o e n hx)
 ·obtain⟨sl,e1⟩:=I.base.slot b o e n hb hx;obtain⟨sl',e2⟩:=slot b _ (neL b o e) hb (neC b o e hx) e1 (I.base.free b o e n hx);exact⟨sl',e2⟩
 ·obtain⟨o',e1⟩:=I.base.there b o e hx;exact free b o' (neC b o e hx) e1 (I.base.free b o e n hx)
 ·obtain⟨o',e1⟩:=I.base.there b o e hx;exact there b o' (neC b o e hx) e1
 ·obtain⟨m1,e1⟩:=I.base.tbls b ps e;obtain⟨m2,e2⟩:=tbls b _ e1;exact⟨m1++m2,by rw[e2,Array.append_assoc]⟩
 ·obtain⟨m,hn,hl⟩:=I.loc;refine⟨m,ns m hn,fun i x v e1 e2 e3=>?_⟩;obtain⟨u,r,l⟩:=hl i x v e1 e2 e3;refine⟨u,r,?_⟩;rcases l with l|⟨k,c,e,z⟩
  ·exact .inl l
  ·exact .inr ⟨k,c,e,cellK x c e _ z⟩
 ·obtain⟨v,z⟩:=I.cell x c e;exact⟨v,cellK x c e v z⟩
 ·obtain⟨m,⟨o,_,_,ho,_⟩,_⟩:=I.loc;exact free _ o (fun z=>(hch _ z).2.1 rfl) ho I.free
 ·obtain⟨v,o,ho,hd⟩:=I.cell x c e;exact free c o (fun z=>(hch c z).2.2.1 x c e rfl) ho (I.freeC x c e)
 ·obtain⟨e,n,ne,nf,d⟩:=I.pin p hp;have nch:p.1∉ch:=fun z=>(hch p.1 z).2.2.2 p hp rfl;exact⟨keep p.1 p.2 ne nf nch e n,free p.1 p.2 nch e n,ne,nf,d⟩
theorem Inv.un{t':Nat}(I:Inv X pins σ H s)(u:Un X.fs [] H H' s.heap h')(hok:HOk X.prog X.w H' h'):Inv X pins σ H' {s with heap:=h',toks:=t'}:=by
 obtain⟨m,⟨o,es,ep,ho,r⟩,_⟩:=id I.loc;obtain⟨sl,hL⟩:=u.any ho I.free (by simp);exact I.step (g':=s.gens) (d':=s.drawn) (ch:=[]) (fun _ z=>nomatch z) (fun b o _ hb _ e n=>u.keep b o e n hb (by simp)) (fun b o _ hb _ e n=>u.slot b o e n hb (by simp)) (fun b o _ e n=>u.free b o e n (by simp)) (fun b o _ e=>u.there b o e (by simp)) u.tups u.frzs u.tbls (fun m' hm=>by
  obtain⟨o',es',ep',ho',r'⟩:=hm;rw[ho] at ho';cases ho';exact⟨_,es',ep',hL,r'⟩) hok I.bare
theorem Inv.call{g':Array GenState}{t':Nat}{d':Drawn}{ch:List Addr}(I:Inv X pins σ H s)(u:Un (frs X.stack) ch H H' s.heap h')(hok:HOk X.prog X.w H' h')(hg:AllBare g')
  (hch:∀b∈ch,(b∈X.ex∨X.s₀.heap.objs.size≤b)∧b≠X.env.locals∧(∀x c,X.env.cells.lookup x=some c→c≠b)∧∀p∈X.pn++pins,p.1≠b):
  Inv X pins σ H' {s with heap:=h',gens:=g',drawn:=d',toks:=t'}:=by
 obtain⟨m,⟨o,es,ep,ho,r⟩,_⟩:=id I.loc;obtain⟨sl,hL⟩:=u.any ho I.free fun z=>(hch _ z).2.1 rfl;exact I.step (ch:=ch) hch (fun b o hL hb hc e n=>u.keep b o e n (fun z=>(List.mem_cons.mp (I.stkSub b z)).elim hL hb) hc) (fun b o _ _ hc e n=>u.any e n hc) (fun b o hc e n=>u.free b o e n hc) (fun b o hc e=>u.there b o e hc) u.tups u.frzs u.tbls (fun m' hm=>by
  obtain⟨o',es',ep',ho',r'⟩:=hm;rw[ho] at ho';cases ho';exact⟨_,es',ep',hL,r'⟩) hok hg
theorem Inv.turned{t':Nat}{it:Addr}(I:Inv X pins σ H s)(k:∀b o,b≠it→s.heap.get? b=some o→h'.get? b=some o)(hn:H it=none)(hL:it≠X.env.locals)
  (h1:it∈X.ex∨X.s₀.heap.objs.size≤it) (h2:∀x c,X.env.cells.lookup x=some c→c≠it) (h3:∀p∈X.pn++pins,p.1≠it):Inv X pins σ H {s with heap:=h',toks:=t'}:=by
 have nit:∀b u,H b=some u→b≠it:=fun b u e z=>by rw[z,hn] at e;cases e
 refine I.step (g':=s.gens) (d':=s.drawn) (ch:=[it]) (fun b hb=>?_) (fun b o _ _ hc e _=>k b o (fun z=>hc (by simp[z])) e) (fun b o _ _ hc e _=>⟨o.slots,k b o (fun z=>hc (by simp[z])) e⟩) (fun _ _ _ _ n=>n)
  (fun b o hc e=>⟨o,k b o (fun z=>hc (by simp[z])) e⟩) (fun _ _ e=>e) (fun _ _ _ e=>e) (fun b ps e=>⟨#[],by rw[e];simp⟩) (fun m hm=>?_) (fun b u e=>?_) I.bare
 ·have e:b=it:=by simpa using hb
  subst e;exact⟨h1,hL,h2,h3⟩
 ·obtain⟨o,es,ep,ho,r⟩:=hm;exact⟨o,es,ep,k _ o (Ne.symm hL) ho,r⟩
 ·refine(I.hok b u e).stay (fun c v hc q=>k c v ?_ q) (fun _ q=>q) fun _ _ q=>q;rcases hc with z|z
  ·rw[z];exact nit b u e
  ·exact nit c _ z
theorem Inv.tok(I:Inv X pins σ H s)(t:Nat):Inv X pins σ H {s with toks:=t}:=I.un (h':=s.heap) (t':=t) Un.refl I.hok
theorem Inv.kept{t':Nat}(I:Inv X pins σ H s)(k:∀b u,s.heap.get? b=some u→h'.get? b=some u):Inv X pins σ H {s with heap:=h',toks:=t'}:=I.un (Un.kept k) (I.hok.kept k)
theorem Inv.laid{a:Addr}{o:HO}{t':Nat}(I:Inv X pins σ H s)(k:∀b u,s.heap.get? b=some u→h'.get? b=some u)(hp:s.heap.objs.size≤a)(new:ZU X.prog X.w (upd H a o) h' a o):
  Inv X pins σ (upd H a o) {s with heap:=h',toks:=t'}:=I.un (Un.laid k hp (I.hok.fresh hp)) (I.hok.laid k hp new)
theorem Inv.write{x e:Addr}{o:HO}{t':Nat}(I:Inv X pins σ H s)(mu:Mut (H x))(he:e=x∨H e=some (.own x))(k:∀b u,b≠e→s.heap.get? b=some u→h'.get? b=some u)(heo:∃u,h'.get? e=some u)
  (new:ZU X.prog X.w (upd H x o) h' x o):Inv X pins σ (upd H x o) {s with heap:=h',toks:=t'}:=I.un (Un.write mu he k heo) (I.hok.write mu he k heo new)
theorem Inv.pins_of{pins':List (Addr×Obj)}(I:Inv X pins σ H s)(h:∀p∈pins',s.heap.get? p.1=some p.2∧H p.1=none∧p.1≠X.env.locals∧p.1∉X.fs∧∀v,p.2.data≠ .cell v):Inv X pins' σ H s:=
 ⟨I.ok,I.os,I.bare,I.base,I.loc,I.cell,I.free,I.freeC,fun p hp=>(List.mem_append.mp hp).elim (fun z=>I.pin p (List.mem_append_left _ z)) (h p),I.hok,I.len⟩
theorem Zcv{N:List Str}(hN:N.Nodup){i j:Nat}{x:Str}(a:N[i]? =some x)(b:N[j]? =some x):i=j:=by
 obtain⟨h1,e1⟩:=List.getElem?_eq_some_iff.mp a;obtain⟨h2,e2⟩:=List.getElem?_eq_some_iff.mp b;exact(List.getElem_inj hN).mp (e1.trans e2.symm)
theorem Zba{M:Model}{A:Around}{E:Value→Shared→Prop}{i:Nat}{x:Str}{v:V}{u:Value}{Q:Unit→Shared→Prop}(I:Inv X pins σ H s)(hN:X.N.Nodup)(hi:X.N[i]? =some x)(hx:Loc X.env.scope x)(r:Zu v u)
  (h:∀s',Inv X pins (σ.set i (some v)) H s'→(∃a,Heap.SameBut a s.heap s'.heap∧(a=X.env.locals∨X.env.cells.lookup x=some a))→Q () s') (hf:X.fn x=true∨X.env.scope.names.lookup x=some .local:=by first|exact .inl rfl|exact .inr rfl|assumption):wpAny M A (storeName X.env x u) Q E s:=by
 obtain⟨m,hn,hl⟩:=id I.loc;have hcls:(X.env.scope.kind== .class||(X.env.scope.kind== .module&&X.env.locals != X.env.globals))=false:=by rw[I.ok.kind];rfl
 have hiσ:i<σ.length:=by rw[I.len];exact(List.getElem?_eq_some_iff.mp hi).1
 have cne:=I.cne;have tracked:∀{a:Addr}{h':Heap},(∃o,s.heap.get? a=some o∧H a=none)→Heap.SameBut a s.heap h'→HOk X.prog X.w H h':=fun{a h'} ha hs b ob e=>by
  obtain⟨_,_,hfree⟩:=ha;refine(I.hok b ob e).stay (fun c w' hc q=>(hs.2 c ?_).trans q) (fun _ q=>q) fun _ _ q=>q;rintro rfl;rcases hc with rfl|hc
  ·rw[hfree] at e;cases e
  ·rw[hfree] at hc;cases hc
 rcases hx with hk|hk
 ·refine wpAny_storeName_local hk hn (fun h' hn' hs=>?_) hcls;obtain⟨oL,_,_,hoL,_⟩:=id hn;refine h _ ⟨I.ok,I.os,I.bare,⟨fun b o e n hb hx=>?_,fun b o e n hb hx=>?_,I.base.free,fun b o e hx=>?_,I.base.tups,I.base.frzs,I.base.tbls⟩,⟨_,hn',fun j y v' e1 e2 e3=>?_⟩,fun y c e=>?_,I.free,I.freeC,fun p hp=>?_,tracked ⟨oL,hoL,I.free⟩ hs,by simpa using I.len⟩ ⟨_,hs,.inl rfl⟩
  ·exact(hs.2 b (Nat.ne_of_lt (Nat.lt_of_lt_of_le (Heap.lt_size e) I.ok.above))).trans (I.base.keep b o e n hb hx)
  ·obtain⟨sl,e1⟩:=I.base.slot b o e n hb hx;exact⟨sl,(hs.2 b (Nat.ne_of_lt (Nat.lt_of_lt_of_le (Heap.lt_size e) I.ok.above))).trans e1⟩
  ·obtain⟨o',e1⟩:=I.base.there b o e hx;exact⟨o',(hs.2 b (Nat.ne_of_lt (Nat.lt_of_lt_of_le (Heap.lt_size e) I.ok.above))).trans e1⟩
  ·by_cases hj:j=i
   ·subst hj;rw[hi] at e1;cases e1;rw[List.getElem?_set_self hiσ] at e2;cases e2;exact⟨u,r,.inl ⟨hk,by simp⟩⟩
   ·rw[List.getElem?_set_ne (Ne.symm hj)] at e2;obtain⟨u',r',q⟩:=hl j y v' e1 e2 e3;refine⟨u',r',?_⟩;rcases q with⟨k,e⟩|⟨k,c,e,z⟩
    ·refine .inl ⟨k,?_⟩;have:y≠x:=fun e=>hj (Zcv hN e1 (e▸hi));simp[this,e]
    ·exact .inr ⟨k,c,e,z.sameBut hs (cne y c e)⟩
  ·obtain⟨w',z⟩:=I.cell y c e;exact⟨w',z.sameBut hs (cne y c e)⟩
  ·obtain⟨e,n,ne,nf,d⟩:=I.pin p hp;exact⟨(hs.2 p.1 ne).trans e,n,ne,nf,d⟩
 ·have hfn:X.fn x=true:=by
   rcases hf with z|z
   ·exact z
   ·rw[z] at hk;cases hk
  obtain⟨c,hc⟩:=I.ok.has x (.inl hk);obtain⟨w',z⟩:=I.cell x c hc;refine wpAny_storeName_cell I.ok.kind hk hc z (fun h' hc' hs=>?_);obtain⟨oc,hoc,hocd⟩:=id z;refine h {s with heap:=h'} ⟨I.ok,I.os,I.bare,⟨fun b o e n hb hx=>?_,fun b o e n hb hx=>?_,I.base.free,fun b o e hx=>?_,I.base.tups,I.base.frzs,I.base.tbls⟩,⟨m,hn.sameBut hs (Ne.symm (cne x c hc)),fun j y v' e1 e2 e3=>?_⟩,fun y c' e=>?_,I.free,I.freeC,fun p hp=>?_,tracked ⟨oc,hoc,I.freeC x c hc⟩ hs,by simpa using I.len⟩ ⟨c,hs,.inr hc⟩
  ·exact(hs.2 b (Nat.ne_of_lt (Nat.lt_of_lt_of_le (Heap.lt_size e) (I.ok.cab x c hfn hc)))).trans (I.base.keep b o e n hb hx)
  ·obtain⟨sl,e1⟩:=I.base.slot b o e n hb hx;exact⟨sl,(hs.2 b (Nat.ne_of_lt (Nat.lt_of_lt_of_le (Heap.lt_size e) (I.ok.cab x c hfn hc)))).trans e1⟩
  ·obtain⟨o',e1⟩:=I.base.there b o e hx;exact⟨o',(hs.2 b (Nat.ne_of_lt (Nat.lt_of_lt_of_le (Heap.lt_size e) (I.ok.cab x c hfn hc)))).trans e1⟩
  ·by_cases hj:j=i
   ·subst hj;rw[hi] at e1;cases e1;rw[List.getElem?_set_self hiσ] at e2;cases e2;exact⟨u,r,.inr ⟨.inl hk,c,hc,hc'⟩⟩
   ·rw[List.getElem?_set_ne (Ne.symm hj)] at e2;obtain⟨u',r',q⟩:=hl j y v' e1 e2 e3;refine⟨u',r',?_⟩;rcases q with q|⟨k,c',e,z'⟩
    ·exact .inl q
    ·refine .inr ⟨k,c',e,z'.sameBut hs ?_⟩;rintro rfl;exact hj (Zcv hN e1 (I.ok.inj _ _ _ e hc▸hi))
  ·by_cases hcc:c'=c
   ·subst hcc;exact⟨_,hc'⟩
   ·obtain⟨w2,z2⟩:=I.cell y c' e;exact⟨w2,z2.sameBut hs hcc⟩
  ·obtain⟨e,n,ne,nf,d⟩:=I.pin p hp;refine⟨(hs.2 p.1 ?_).trans e,n,ne,nf,d⟩;intro q;rw[q,hoc] at e;have q':oc=p.2:=Option.some.inj e;exact d w' (by rw[←q'];exact hocd)
theorem U7{M:Model}{A:Around}{E:Value→Shared→Prop}{i:Nat}{x:Str}{v:V}{u:Value}{Q:Unit→Shared→Prop}(I:Inv X pins σ H s)(hN:X.N.Nodup)(hi:X.N[i]? =some x)(hx:Loc X.env.scope x)(r:Zu v u)
  (h:∀s',Inv X pins (σ.set i (some v)) H s'→Q () s') (hf:X.fn x=true∨X.env.scope.names.lookup x=some .local:=by first|exact .inl rfl|exact .inr rfl|assumption):wpAny M A (storeName X.env x u) Q E s:=
 Zba I hN hi hx r (fun s' I' _=>h s' I') hf
theorem Inv.call'{s':Shared}{ch:List Addr}(I:Inv X pins σ H s)(ho:s'.os=s.os)(u:Un (frs X.stack) ch H H' s.heap s'.heap)(hok:HOk X.prog X.w H' s'.heap)(hg:AllBare s'.gens)
  (hch:∀b∈ch,(b∈X.ex∨X.s₀.heap.objs.size≤b)∧b≠X.env.locals∧(∀x c,X.env.cells.lookup x=some c→c≠b)∧∀p∈X.pn++pins,p.1≠b):Inv X pins σ H' s':=by
 obtain⟨h',g',d',t',o'⟩:=s';have e:o'=s.os:=ho;subst e;exact I.call (g':=g') (t':=t') (d':=d') u hok hg hch
end
noncomputable abbrev XK:=Value→Option Addr→Hp→Prop
noncomputable abbrev St:=List (Option V)
noncomputable abbrev VK:=V→Hp→Prop
noncomputable abbrev TE:=St→Hp→VK→Prop
noncomputable abbrev TT:=St→Hp→(Bool→Hp→Prop)→Prop
noncomputable abbrev TA:=St→Hp→(List V→Hp→Prop)→Prop
structure W8 where
 nx:St→Hp→Prop
 rt:VK
 bk:St→Hp→Prop:=fun _ _=>False
 ct:St→Hp→Prop:=fun _ _=>False
noncomputable abbrev TS:=W8→St→Hp→Prop
def EP(X:Cx)(pins:List (Addr×Obj))(σ:St)(Q:VK)(u:Value)(s':Shared):Prop:=∃v H',Inv X pins σ H' s'∧Zu v u∧Q v H'
def TP(X:Cx)(pins:List (Addr×Obj))(σ:St)(Q:Bool→Hp→Prop)(b:Bool)(s':Shared):Prop:=∃H',Inv X pins σ H' s'∧Q b H'
def AP(X:Cx)(pins:List (Addr×Obj))(σ:St)(Q:List V→Hp→Prop)(us:List Value)(s':Shared):Prop:=∃vs H',Inv X pins σ H' s'∧Zq vs us∧Q vs H'
def SP(X:Cx)(pins:List (Addr×Obj))(D:W8)(f:Flow)(s':Shared):Prop:=
 match f with
 | .next=>∃σ' H',Inv X pins σ' H' s'∧D.nx σ' H'
 | .brk=>∃σ' H',Inv X pins σ' H' s'∧D.bk σ' H'
 | .cont=>∃σ' H',Inv X pins σ' H' s'∧D.ct σ' H'
 | .ret u=>∃v σ' H',Inv X pins σ' H' s'∧Zu v u∧D.rt v H'
def PE(X:Cx)(e:Expr)(t:TE):Prop:=
 ∀(pins:List (Addr×Obj))(s:Shared)(σ:St)(H:Hp)(Q:VK),Inv X pins σ H s→t σ H Q→wpAny (model X.prog X.w) X.A (eval e X.env) (EP X pins σ Q) X.xe s
def PT(X:Cx)(e:Expr)(t:TT):Prop:=
 ∀(pins:List (Addr×Obj))(s:Shared)(σ:St)(H:Hp)(Q:Bool→Hp→Prop),Inv X pins σ H s→t σ H Q→wpAny (model X.prog X.w) X.A (isTrue e X.env (eval e X.env)) (TP X pins σ Q) X.xe s
def PW(X:Cx)(e:Expr)(t:TT):Prop:=
 ∀(whole:Sem Value)(pins:List (Addr×Obj))(s:Shared)(σ:St)(H:Hp)(Q:Bool→Hp→Prop),Inv X pins σ H s→t σ H Q→wpAny (model X.prog X.w) X.A (isTrue e X.env whole) (TP X pins σ Q) X.xe s
theorem PW.pt{X:Cx}{e:Expr}{t:TT}(h:PW X e t):PT X e t:=h _
def PA(X:Cx)(es:List Expr)(t:TA):Prop:=
 ∀(pos:Pos)(pins:List (Addr×Obj))(s:Shared)(σ:St)(H:Hp)(Q:List V→Hp→Prop),Inv X pins σ H s→t σ H Q→wpAny (model X.prog X.w) X.A (spliced (backTo pos (starEach es X.env))) (AP X pins σ Q) X.xe s
def PS(X:Cx)(st:Stmt)(t:TS):Prop:=
 ∀(pins:List (Addr×Obj))(s:Shared)(σ:St)(H:Hp)(D:W8),Inv X pins σ H s→t D σ H→wpAny (model X.prog X.w) X.A (exec st X.env) (SP X pins D) X.xe s
def PSs(X:Cx)(st:List Stmt)(t:TS):Prop:=
 ∀(pins:List (Addr×Obj))(s:Shared)(σ:St)(H:Hp)(D:W8),Inv X pins σ H s→t D σ H→wpAny (model X.prog X.w) X.A (execs st X.env) (SP X pins D) X.xe s
theorem thn{α:Type}{t:Sem α}{Q Q':α→Shared→Prop}{M:Model}{A:Around}{E:Value→Shared→Prop}{s:Shared}(h:wpAny M A t Q E s)(hQ:∀a s,Q a s→Q' a s):wpAny M A t Q' E s:=wpAny_mono h hQ fun _ _ x=>x
end L2
namespace L2
open PySem PySem.Spec PyProof.Rows
section
variable {X:Cx}
theorem bin{a b:Expr}{ta tb:TE}(ha:PE X a ta)(hb:PE X b tb){pins:List (Addr×Obj)}{s:Shared}{σ:St}{H:Hp}{R:V→V→Hp→Prop}(I:Inv X pins σ H s)(h:ta σ H fun x H1=>tb σ H1 fun y H2=>R x y H2)
  {α:Type} {Q:α→Shared→Prop} {f:Value→Value→Sem α}
  (hf:∀v u s2 x y H2,Inv X pins σ H2 s2→Zu x v→Zu y u→R x y H2→wpAny (model X.prog X.w) X.A (f v u) Q X.xe s2):
  wpAny (model X.prog X.w) X.A (eval a X.env) (fun v s₁=>wpAny (model X.prog X.w) X.A (eval b X.env) (fun u s₂=>wpAny (model X.prog X.w) X.A (f v u) Q X.xe s₂) X.xe s₁) X.xe s:=by
 refine thn (ha pins s σ H _ I h) fun v s1 ⟨x,H1,I1,r1,q1⟩=>?_;refine thn (hb pins s1 σ H1 _ I1 q1) fun u s2 ⟨y,H2,I2,r2,q2⟩=>?_;exact hf v u s2 x y H2 I2 r1 r2 q2
noncomputable def Zgc (i:Nat):TE:=fun σ H Q=>∃v,σ[i]? =some (some v)∧Q v H
noncomputable def tC (v:V):TE:=fun _ H Q=>Q v H
theorem ZkW{i:Nat}{x:Str}{pos:Pos}(hN:X.N[i]? =some x)(hv:Vis X.env.scope x)(hd:(x==("__debug__" :Str))=false:=by decide)(hcd:(x==("__classdict__" :Str))=false:=by decide):PE X (.Name x pos) (Zgc i):=by
 intro pins s σ H Q I h;obtain⟨v,e,h⟩:=h;obtain⟨m,hn,hl⟩:=I.loc;obtain⟨u,r,l⟩:=hl i x v hN e hv;have fin:EP X pins σ Q u s:=⟨v,H,I,r,h⟩;rcases l with⟨hk,hm⟩|⟨hk,c,hc,hcell⟩
 ·exact wpAny_Name (wpAny_loadName_local I.ok.kind hk hn hm fin) hd
 ·rcases hk with hk|hk
  ·exact wpAny_Name (wpAny_loadName_cell I.ok.kind hk hc hcell fin) hd
  ·exact wpAny_Name (wpAny_loadName_free I.ok.kind hk hc hcell fin hcd) hd
theorem Zh{i j pos}:PE X (.Constant (.int i) j pos) (tC (.int i)):=fun _ _ _ H _ I h=>wpAny_Constant_int ⟨.int i,H,I.tok _,⟨_,rfl⟩,h⟩
theorem VI{b j pos}:PE X (.Constant (.bool b) j pos) (tC (.bl b)):=fun _ _ _ H _ I h=>Constant_bool ⟨.bl b,H,I,rfl,h⟩
theorem Vf{j pos}:PE X (.Constant .none j pos) (tC .non):=fun _ _ _ H _ I h=>Constant_none ⟨.non,H,I,rfl,h⟩
theorem Yb{x j pos}:PE X (.Constant (.str x) j pos) (tC (.str x)):=fun _ _ _ H _ I h=>Calls.Constant_str ⟨.str x,H,I.tok _,⟨_,rfl⟩,h⟩
def Gl(X:Cx)(x:Str):Prop:=X.env.kindOf x=some .globalImplicit
theorem V1{E:Value→Shared→Prop}{pins:List (Addr×Obj)}{s:Shared}{σ:St}{H:Hp}{x:Str}{u:Value}{pos:Pos}{Q:Value→Shared→Prop}(I:Inv X pins σ H s)(hg:Gl X x)(hm:X.mg x=some u)(h:Q u s)
  (hd:(x==("__debug__" :Str))=false:=by decide):wpAny (model X.prog X.w) X.A (eval (.Name x pos) X.env) Q E s:=
 Calls.Name_function_global I.ok.kind hg (Calls.loadGlobal_global (by rw[I.ok.glob];exact I.mod.glob.keeps I.bk) hm h) hd
theorem Uv{E:Value→Shared→Prop}{pins:List (Addr×Obj)}{s:Shared}{σ:St}{H:Hp}{x:Str}{u:Value}{pos:Pos}{Q:Value→Shared→Prop}(I:Inv X pins σ H s)(hg:Gl X x)(hm:X.mg x=none)(hv:bootBuiltins x=some u)(h:Q u s)
  (hn:x≠"__name__" :=by decide) (hd:(x==("__debug__" :Str))=false:=by decide):wpAny (model X.prog X.w) X.A (eval (.Name x pos) X.env) Q E s:=by
 obtain⟨mb,h1,h2⟩:=I.mod.blt;exact Calls.Name_function_global I.ok.kind hg (Calls.loadGlobal_builtin (by rw[I.ok.glob];exact I.mod.glob.keeps I.bk) hm (by rw[I.ok.blt];exact h1.keeps I.bk) ((h2 x hn).trans hv) h) hd
theorem Wg{x:Str}{v:V}{u:Value}{pos:Pos}(hg:Gl X x)(hm:X.mg x=some u)(r:Zu v u)(hd:(x==("__debug__" :Str))=false:=by decide):PE X (.Name x pos) (tC v):=
 fun _ _ _ H _ I h=>V1 I hg hm ⟨v,H,I,r,h⟩ hd
theorem ZbN{x:Str}{v:V}{u:Value}{pos:Pos}(hg:Gl X x)(hm:X.mg x=none)(hv:bootBuiltins x=some u)(r:Zu v u)(hn:x≠"__name__" :=by decide)(hd:(x==("__debug__" :Str))=false:=by decide):PE X (.Name x pos) (tC v):=
 fun _ _ _ H _ I h=>Uv I hg hm hv ⟨v,H,I,r,h⟩ hn hd
variable {a b:Expr}{ta tb:TE}{pos:Pos}
variable {tA tB':TT}{rest:List Expr}
noncomputable def Zku (t u:TT):TT:=fun σ H Q=>t σ H fun c H1=>if c=true then u σ H1 Q else Q false H1
noncomputable def tOr (t u:TT):TT:=fun σ H Q=>t σ H fun c H1=>if c=true then Q true H1 else u σ H1 Q
noncomputable def Zkq (t:TT):TT:=fun σ H Q=>t σ H fun c H1=>Q (!c) H1
theorem Vw(ha:PT X a tA):PW X (.BoolOp .And [a] pos) tA:=by
 intro wh pins s σ H Q I h;refine isTrue_and (thn (ha pins s σ H Q I h) fun c s1 e=>?_);cases c with
 |true=>exact isTrue_and_nil e
 |false=>exact e
theorem Zfa(ha:PT X a tA):PW X (.BoolOp .Or [a] pos) tA:=by
 intro wh pins s σ H Q I h;refine isTrue_or (thn (ha pins s σ H Q I h) fun c s1 e=>?_);cases c with
 |false=>exact isTrue_or_nil e
 |true=>exact e
theorem VH(ha:PT X a tA)(hb:PW X (.BoolOp .And (b::rest) pos) tB'):PW X (.BoolOp .And (a::b::rest) pos) (Zku tA tB'):=by
 intro wh pins s σ H Q I h;refine isTrue_and (thn (ha pins s σ H _ I h) fun c s1 ⟨H1,I1,q1⟩=>?_);cases c with
 |true=>exact hb wh pins s1 σ H1 Q I1 q1
 |false=>exact⟨H1,I1,q1⟩
theorem Zgx(ha:PT X a tA)(hb:PW X (.BoolOp .Or (b::rest) pos) tB'):PW X (.BoolOp .Or (a::b::rest) pos) (tOr tA tB'):=by
 intro wh pins s σ H Q I h;refine isTrue_or (thn (ha pins s σ H _ I h) fun c s1 ⟨H1,I1,q1⟩=>?_);cases c with
 |true=>exact⟨H1,I1,q1⟩
 |false=>exact hb wh pins s1 σ H1 Q I1 q1
theorem Wz(ha:PT X a tA):PT X (.UnaryOp .Not a pos) (Zkq tA):=by
 intro pins s σ H Q I h;exact isTrue_not (ha pins s σ H (fun c H1=>Q (!c) H1) I h)
noncomputable def Zjn (ta tb:TE):TE:=fun σ H Q=>ta σ H fun x H1=>∃c,x= .bl c∧if c=true then tb σ H1 Q else Q (.bl false) H1
noncomputable def Zju (ta:TE):TE:=fun σ H Q=>ta σ H fun x H1=>∃c,x= .bl c∧Q (.bl (!c)) H1
theorem Zav{op}{t:TE}(h:PE X a t):PE X (.BoolOp op [a] pos) t:=fun pins s σ H Q I hw=>BoolOp_one (h pins s σ H Q I hw)
theorem Zax(ha:PE X a ta)(hb:PE X (.BoolOp .And (b::rest) pos) tb):PE X (.BoolOp .And (a::b::rest) pos) (Zjn ta tb):=by
 intro pins s σ H Q I h;refine BoolOp_and (thn (ha pins s σ H _ I h) fun v s1 ⟨x,H1,I1,r1,q1⟩=>?_);obtain⟨c,rfl,q1⟩:=q1;cases r1;refine wpAny_truthy_bool ?_;cases c with
 |true=>exact hb pins s1 σ H1 Q I1 q1
 |false=>exact⟨.bl false,H1,I1,rfl,q1⟩
theorem ZhK(ha:PE X a ta):PE X (.UnaryOp .Not a pos) (Zju ta):=by
 intro pins s σ H Q I h;refine UnaryOp_ (thn (ha pins s σ H _ I h) fun v s1 ⟨x,H1,I1,r1,q1⟩=>?_);obtain⟨c,rfl,q1⟩:=q1;cases r1;exact not_of (wpAny_truthy_bool ⟨.bl (!c),H1,I1,rfl,q1⟩)
noncomputable def tIf (t:TT) (ta tb:TE):TE:=fun σ H Q=>t σ H fun c H1=>if c=true then ta σ H1 Q else tb σ H1 Q
theorem Zig{c:Expr}(hc:PT X c tA)(ha:PE X a ta)(hb:PE X b tb):PE X (.IfExp c a b pos) (tIf tA ta tb):=by
 intro pins s σ H Q I h;refine wpAny_IfExp (thn (hc pins s σ H _ I h) fun d s1 ⟨H1,I1,q1⟩=>?_);cases d with
 |true=>exact ha pins s1 σ H1 Q I1 q1
 |false=>exact hb pins s1 σ H1 Q I1 q1
end
end L2
namespace L2
open PySem PySem.Spec PyProof.Rows
def SqL(K:PySem.W.Frag)(H:Hp)(a:Addr)(xs:List V):Prop:=
 Rd H a (.lst xs)∨
  ∃(o:Obj)(its:Array Value)(n:Nat),K.lookup a=some o∧o.cls= .type "list" ∧o.dict=none∧o.data= .seq its n∧its.size≤sizeLine∧Zq xs its.toList
def SqT(K:PySem.W.Frag)(H:Hp)(a:Addr)(xs:List V):Prop:=
 Rd H a (.tup xs)∨
  ∃(o:Obj)(its:Array Value)(n:Nat),K.lookup a=some o∧o.cls= .type "tuple" ∧o.data= .seq its n∧its.size≤sizeLine∧Zq xs its.toList
noncomputable def Zmx:Value→Option V
 | .none=>some .non
 | .bool b=>some (.bl b)
 | .int i _=>some (.int i)
 | .str x _=>some (.str x)
 | .bytes b _=>some (.byt b)
 | .float b _=>some (.flt b)
 | .ref a=>some (.ref a)
 | .type n=>some (.ty n)
 |_=>none
theorem Zu.abs{x:V}{u:Value}(r:Zu x u):Zmx u=some x:=by
 cases x with
 |non=>cases r;rfl
 |bl _=>cases r;rfl
 |int _=>obtain⟨t,rfl⟩:=r;rfl
 |str _=>obtain⟨t,rfl⟩:=r;rfl
 |byt _=>obtain⟨t,rfl⟩:=r;rfl
 |flt _=>obtain⟨t,rfl⟩:=r;rfl
 |ref _=>cases r;rfl
 |ty _=>cases r;rfl
theorem Zu.inj{x y:V}{u:Value}(r:Zu x u)(q:Zu y u):x=y:=Option.some.inj (r.abs.symm.trans q.abs)
theorem Zq.inj:∀{xs ys:List V}{us:List Value},Zq xs us→Zq ys us→xs=ys
 |_,_,_,.nil,.nil=>rfl
 |_,_,_,.cons r t,.cons r' t'=>by rw[r.inj r',Zq.inj t t']
section
variable {X:Cx}{pins:List (Addr×Obj)}{σ:St}{H:Hp}{s:Shared}{a:Addr}{xs ys:List V}
theorem SqL.of{K:PySem.W.Frag}(h:H a=some (.lst xs)):SqL K H a xs:= .inl (.inl h)
theorem SqT.of{K:PySem.W.Frag}(h:H a=some (.tup xs)):SqT K H a xs:= .inl (.inl h)
theorem Inv.list(I:Inv X pins σ H s)(h:SqL X.K H a xs):∃its:List Value,Zq xs its∧PlainL s.heap a its.toArray∧xs.length≤sizeLine:=by
 rcases h with h|⟨o,its,n,hk,hc,hd,hs,hz,r⟩
 ·obtain⟨z,its,n,r,e⟩:=h.ok I.hok;exact⟨its,r,⟨_,n,e,rfl,rfl,rfl⟩,z⟩
 ·refine⟨its.toList,r,⟨o,n,I.kIn a o hk,hc,hd,by simpa using hs⟩,?_⟩;have e:=r.length;simp only[Array.length_toList] at e;omega
theorem Inv.tuple(I:Inv X pins σ H s)(h:SqT X.K H a xs):∃its:List Value,Zq xs its∧IsTup s.heap a its.toArray∧xs.length≤sizeLine:=by
 rcases h with h|⟨o,its,n,hk,hc,hs,hz,r⟩
 ·obtain⟨z,its,r,p⟩:=h.ok I.hok;exact⟨its,r,p,z⟩
 ·refine⟨its.toList,r,⟨o,I.kIn a o hk,hc,n,by simpa using hs⟩,?_⟩;have e:=r.length;simp only[Array.length_toList] at e;omega
theorem Inv.list_inj(I:Inv X pins σ H s)(h:SqL X.K H a xs)(h':SqL X.K H a ys):xs=ys:=by
 obtain⟨its,r,⟨o,n,e,_,_,d⟩,_⟩:=I.list h;obtain⟨its',r',⟨o',n',e',_,_,d'⟩,_⟩:=I.list h';rw[e] at e';cases e';rw[d] at d'
 injection d' with d1 _
 have:its=its':=by simpa using congrArg Array.toList d1
 subst this;exact r.inj r'
end
section
variable {X:Cx}{pins:List (Addr×Obj)}{σ:St}{H:Hp}{s:Shared}{E:Value→Shared→Prop}
end
section
variable {X:Cx}{st:Stmt}{rest:List Stmt}{t u:TS}{e:Expr}{te:TE}{pos:Pos}
noncomputable def tNext:TS:=fun D σ H=>D.nx σ H
noncomputable def Zkv (t u:TS):TS:=fun D σ H=>t {D with nx:=u D} σ H
theorem ZJ:PSs X [] tNext:=fun _ _ σ H _ I h=>wpAny_execs_nil ⟨σ,H,I,h⟩
theorem Zc(h1:PS X st t)(h2:PSs X rest u):PSs X (st::rest) (Zkv t u):=by
 intro pins s σ H D I h;refine wpAny_execs_cons (thn (h1 pins s σ H {D with nx:=u D} I h) fun f s1 q=>?_);cases f with
 |next=>
  obtain⟨σ',H',I',q⟩:=q;exact h2 pins s1 σ' H' D I' q
 |ret v=>exact q
 |brk=>exact q
 |cont=>exact q
theorem Zg(h1:PS X st t):PSs X [st] t:=by
 intro pins s σ H D I h;refine wpAny_execs_cons (thn (h1 pins s σ H D I h) fun f s1 q=>?_);cases f with
 |next=>exact wpAny_execs_nil q
 |ret v=>exact q
 |brk=>exact q
 |cont=>exact q
theorem Inv.quiet{pins:List (Addr×Obj)}{σ:St}{H:Hp}{s:Shared}(I:Inv X pins σ H s):interactive X.env=false:=by simp[interactive,I.ok.kind]
noncomputable def Zjw (te:TE):TS:=fun D σ H=>te σ H fun _ H1=>D.nx σ H1
theorem ZX(he:PE X e te)(hs:swapsWith e none pos.line X.env=pure false:=by rfl):PS X (.Expr e pos) (Zjw te):=by
 intro pins s σ H D I h;exact wpAny_Expr_any (thn (he pins s σ H _ I h) fun v s1 ⟨x,H1,I1,r1,q1⟩=>⟨σ,H1,I1,q1⟩) I.quiet hs
noncomputable def Zk3 (te:TE):TS:=fun D σ H=>te σ H D.rt
theorem Zx(he:PE X e te):PS X (.Return (some e) pos) (Zk3 te):=by
 intro pins s σ H D I h;exact wpAny_Return_some (thn (he pins s σ H _ I h) fun v s1 ⟨x,H1,I1,r1,q1⟩=>⟨x,σ,H1,I1,r1,q1⟩)
noncomputable def Zli (c:TT) (t u:TS):TS:=fun D σ H=>c σ H fun b H1=>if b=true then t D σ H1 else u D σ H1
theorem ZV{c:Expr}{a b:List Stmt}{tc:TT}(hc:PT X c tc)(ha:PSs X a t)(hb:PSs X b u):PS X (.If c a b pos) (Zli tc t u):=by
 intro pins s σ H D I h;refine wpAny_If (thn (hc pins s σ H _ I h) fun d s1 ⟨H1,I1,q1⟩=>?_);cases d with
 |true=>exact ha pins s1 σ H1 D I1 q1
 |false=>exact hb pins s1 σ H1 D I1 q1
end
noncomputable abbrev TG:=V→St→Hp→(St→Hp→Prop)→Prop
noncomputable abbrev TGs:=List V→St→Hp→(St→Hp→Prop)→Prop
def PG(X:Cx)(target:Expr)(t:TG):Prop:=
 ∀(pins:List (Addr×Obj))(s:Shared)(σ:St)(H:Hp)(v:V)(u:Value)(Q:St→Hp→Prop),Inv X pins σ H s→Zu v u→t v σ H Q→
  wpAny (model X.prog X.w) X.A (assign target X.env u) (fun _ s'=>∃σ' H',Inv X pins σ' H' s'∧Q σ' H') X.xe s
def PGs(X:Cx)(ts:List Expr)(t:TGs):Prop:=
 ∀(pins:List (Addr×Obj))(s:Shared)(σ:St)(H:Hp)(vs:List V)(us:List Value)(Q:St→Hp→Prop),Inv X pins σ H s→Zq vs us→t vs σ H Q→
  wpAny (model X.prog X.w) X.A (assignInOrder ((assignEach ts X.env).map (·.2)) us) (fun _ s'=>∃σ' H',Inv X pins σ' H' s'∧Q σ' H') X.xe s
noncomputable abbrev Zcw:=V→V→V→Hp→(Hp→Prop)→Prop
def ZgP(X:Cx)(t:Zcw):Prop:=
 ∀(pins:List (Addr×Obj))(s:Shared)(σ:St)(H:Hp)(o i v:V)(ov iv u:Value)(Q:Hp→Prop),Inv X pins σ H s→Zu o ov→Zu i iv→Zu v u→t o i v H Q→
  wpAny (model X.prog X.w) X.A (setItem ov iv u) (fun _ s'=>∃H',Inv X pins σ H' s'∧Q H') X.xe s
noncomputable abbrev TIp:=V→V→Hp→VK→Prop
def PIp(X:Cx)(op:Operator)(t:TIp):Prop:=
 ∀(pins:List (Addr×Obj))(s:Shared)(σ:St)(H:Hp)(x y:V)(v u:Value)(Q:VK),Inv X pins σ H s→Zu x v→Zu y u→t x y H Q→
  wpAny (model X.prog X.w) X.A (inplaceOp op v u) (EP X pins σ Q) X.xe s
section
variable {X:Cx}{pos:Pos}
noncomputable def UG (i:Nat):TG:=fun v σ H Q=>Q (σ.set i (some v)) H
theorem Zp{i:Nat}{x:Str}(hN:X.N.Nodup)(hi:X.N[i]? =some x)(hx:Loc X.env.scope x)(hf:X.fn x=true∨X.env.scope.names.lookup x=some .local:=by first|exact .inl rfl|exact .inr rfl|assumption):PG X (.Name x pos) (UG i):=by
 intro pins s σ H v u Q I r h;exact wpAny_assign_Name (U7 I hN hi hx r (fun s' I'=>⟨_,H,I',h⟩) hf)
noncomputable def gNil:TGs:=fun vs σ H Q=>vs=[]∧Q σ H
noncomputable def Zjr (t:TG) (u:TGs):TGs:=fun vs σ H Q=>∃v r,vs=v::r∧t v σ H fun σ' H'=>u r σ' H' Q
theorem YW:PGs X [] gNil:=by
 intro pins s σ H vs us Q I r h;obtain⟨e,h⟩:=h;subst e;cases r;exact assignInOrder_nil ⟨σ,H,I,h⟩
theorem ZI{e:Expr}{es:List Expr}{t:TG}{u:TGs}(h1:PG X e t)(h2:PGs X es u)
  (hs:(assignEach (e::es) X.env).map (·.2)=assign e X.env::(assignEach es X.env).map (·.2):=by rfl):PGs X (e::es) (Zjr t u):=by
 intro pins s σ H vs us Q I r h;obtain⟨v,vr,e1,h⟩:=h;subst e1;cases r with
 |cons r rr=>
  rw[hs];refine assignInOrder_cons (thn (h1 pins s σ H _ _ _ I r h) fun _ s1 ⟨σ1,H1,I1,q1⟩=>?_);exact h2 pins s1 σ1 H1 _ _ Q I1 rr q1
noncomputable def ZiU (K:PySem.W.Frag) (n:Nat) (t:TGs):TG:=fun v σ H Q=>∃a xs,v= .ref a∧SqT K H a xs∧xs.length=n∧t xs σ H Q
theorem ZkH{es:List Expr}{k:Nat}{t:TGs}{n:Nat}(hc:X.calm=true)(h:PGs X es t)
  (hn:(assignEach es X.env).length=n:=by rfl) (hst:(assignEach es X.env).findIdx? (·.1)=none:=by rfl):PG X (.Tuple es k pos) (ZiU X.K n t):=by
 intro pins s σ H v u Q I r hw;obtain⟨a,xs,e1,hq,hl,hw⟩:=hw;subst e1;cases r;obtain⟨its,rv,ht,hz⟩:=I.tuple hq;refine assign_Tuple_tuple (I.ok.hd hc) ht (by simp[hn,←hl,rv.length]) hst fun h' hx=>?_;have I1:Inv X pins σ H {s with heap:=h'}:=I.kept (t':=s.toks) fun b o e=>hx b o (Nat.ne_of_lt (Heap.lt_size e)) e;exact h pins _ σ H xs _ Q I1 (by simpa using rv) hw
noncomputable def ZkE (to ti:TE) (t:Zcw):TG:=fun v σ H Q=>to σ H fun o H1=>ti σ H1 fun i H2=>t o i v H2 fun H3=>Q σ H3
theorem VS{o i:Expr}{to ti:TE}{t:Zcw}(ho:PE X o to)(hi:PE X i ti)(hs:ZgP X t)
  (ha:∀v,assign (.Subscript o i pos) X.env v=(do
   let ov←holding [v] (eval o X.env)
   let iv←holding [v,ov] (eval i X.env)
   standAt pos
   holding [v,ov,iv] (setItem ov iv v)
   release [v,ov,iv] []):=by intro _;rfl):PG X (.Subscript o i pos) (ZkE to ti t):=by
 intro pins s σ H v u Q I r h;rw[ha];refine wpAny_bind (wpAny_holding (thn (ho pins s σ H _ I h) fun ov s1 ⟨x,H1,I1,r1,q1⟩=>?_));refine wpAny_bind (wpAny_holding (thn (hi pins s1 σ H1 _ I1 q1) fun iv s2 ⟨y,H2,I2,r2,q2⟩=>?_));refine wpAny_bind (wpAny_standAt (wpAny_bind (wpAny_holding (thn (hs pins s2 σ H2 x y v ov iv u _ I2 r1 r2 r q2) fun _ s3 ⟨H3,I3,q3⟩=>?_))));exact wpAny_release ⟨σ,H3,I3,q3⟩
noncomputable def Ze8 (te:TE) (g:TG):TS:=fun D σ H=>te σ H fun x H1=>g x σ H1 D.nx
theorem WT{tg e:Expr}{te:TE}{g:TG}(he:PE X e te)(hg:PG X tg g)(hs:swapsWithSole [tg] e pos.line X.env=pure false:=by rfl)(hw:swappedStores [tg] e X.env=pure none:=by rfl)
  (h1:(assignEach [tg] X.env).map (·.2)=[assign tg X.env]:=by rfl):PS X (.Assign [tg] e pos) (Ze8 te g):=by
 intro pins s σ H D I h;refine wpAny_Assign_stores (thn (he pins s σ H _ I h) fun v s1 ⟨x,H1,I1,r1,q1⟩=>?_) hs hw;rw[h1];exact thn (hg pins s1 σ H1 x v _ I1 r1 q1) fun _ s2 q=>q
theorem Zt{i:Nat}{x:Str}{e:Expr}{te:TE}{pos':Pos}(hN:X.N.Nodup)(hi:X.N[i]? =some x)(hx:Loc X.env.scope x)(he:PE X e te)(hs:swapsWith e (some (.Name x pos')) pos.line X.env=pure false:=by rfl)(hf:X.fn x=true∨X.env.scope.names.lookup x=some .local:=by first|exact .inl rfl|exact .inr rfl|assumption):
  PS X (.Assign [.Name x pos'] e pos) (Ze8 te (UG i)):=by
 intro pins s σ H D I h;refine wpAny_Assign_Name (thn (he pins s σ H _ I h) fun v s1 ⟨y,H1,I1,r1,q1⟩=>?_) hs;exact U7 I1 hN hi hx r1 (fun s2 I2=>⟨_,H1,I2,q1⟩) hf
noncomputable def Zmb (i:Nat) (te:TE) (ti:TIp):TS:=fun D σ H=>∃x,σ[i]? =some (some x)∧te σ H fun y H1=>ti x y H1 fun z H2=>D.nx (σ.set i (some z)) H2
theorem Zhf{i:Nat}{x:Str}{e:Expr}{te:TE}{op:Operator}{ti:TIp}{pos':Pos}(hN:X.N.Nodup)(hi:X.N[i]? =some x)(hx:Loc X.env.scope x)(he:PE X e te)(ho:PIp X op ti)(hf:X.fn x=true∨X.env.scope.names.lookup x=some .local:=by first|exact .inl rfl|exact .inr rfl|assumption):
  PS X (.AugAssign (.Name x pos') op e pos) (Zmb i te ti):=by
 intro pins s σ H D I h;obtain⟨v,e1,h⟩:=h;obtain⟨m,hn,hl⟩:=I.loc;have vis:Vis X.env.scope x:=by rcases hx with k|k;exact .inl k;exact .inr (.inl k)
 obtain⟨u,r,l⟩:=hl i x v hi e1 vis;refine wpAny_AugAssign_Name ?_;have go:wpAny (model X.prog X.w) X.A (eval e X.env) (fun w s₂=>wpAny (model X.prog X.w) X.A (inplaceOp op u w) (fun r s₃=>wpAny (model X.prog X.w) X.A (storeName X.env x r) (fun _=>SP X pins D .next) X.xe s₃) X.xe s₂) X.xe s:=by
  refine thn (he pins s σ H _ I h) fun w s1 ⟨y,H1,I1,r1,q1⟩=>?_;refine thn (ho pins s1 σ H1 v y u w _ I1 r r1 q1) fun z s2 ⟨zv,H2,I2,r2,q2⟩=>?_;exact U7 I2 hN hi hx r2 (fun s3 I3=>⟨_,H2,I3,q2⟩) hf
 rcases l with⟨hk,hm⟩|⟨hk,c,hc,hcell⟩
 ·exact wpAny_loadName_local I.ok.kind hk hn hm go
 ·rcases hk with hk|hk
  ·exact wpAny_loadName_cell I.ok.kind hk hc hcell go
  ·rcases hx with k|k
   ·have:X.env.scope.names.lookup x=some .free:=hk;rw[k] at this;cases this
   ·have:X.env.scope.names.lookup x=some .free:=hk;rw[k] at this;cases this
noncomputable def Zjm (to ti te:TE) (tget:V→V→Hp→VK→Prop) (tip:TIp) (tset:Zcw):TS:=fun D σ H=>to σ H fun o H1=>ti σ H1 fun i H2=>tget o i H2 fun x H3=>te σ H3 fun y H4=>tip x y H4 fun z H5=>tset o i z H5 fun H6=>D.nx σ H6
def Zie(X:Cx)(t:V→V→Hp→VK→Prop):Prop:=
 ∀(pins:List (Addr×Obj))(s:Shared)(σ:St)(H:Hp)(o i:V)(ov iv:Value)(Q:VK),Inv X pins σ H s→Zu o ov→Zu i iv→t o i H Q→
  wpAny (model X.prog X.w) X.A (getItem ov iv) (EP X pins σ Q) X.xe s
theorem Zdn{o i e:Expr}{to ti te:TE}{tget:V→V→Hp→VK→Prop}{tip:TIp}{tset:Zcw}{op:Operator}{tpos:Pos}(ho:PE X o to)(hi:PE X i ti)(hg:Zie X tget)(he:PE X e te)(hp:PIp X op tip)(hs:ZgP X tset)
  (ha:∀ov iv new,augStore i ov iv new=(do holding [new,ov,iv] (setItem ov iv new);release [new,ov,iv] [];pure .next):=by intros;rfl):PS X (.AugAssign (.Subscript o i tpos) op e pos) (Zjm to ti te tget tip tset):=by
 intro pins s σ H D I h;refine wpAny_AugAssign_SubscriptAny (thn (ho pins s σ H _ I h) fun ov s1 ⟨x1,H1,I1,r1,q1⟩=>?_) ha;refine thn (hi pins s1 σ H1 _ I1 q1) fun iv s2 ⟨x2,H2,I2,r2,q2⟩=>?_;refine thn (hg pins s2 σ H2 x1 x2 ov iv _ I2 r1 r2 q2) fun old s3 ⟨x3,H3,I3,r3,q3⟩=>?_;refine thn (he pins s3 σ H3 _ I3 q3) fun v s4 ⟨x4,H4,I4,r4,q4⟩=>?_;refine thn (hp pins s4 σ H4 x3 x4 old v _ I4 r3 r4 q4) fun new s5 ⟨x5,H5,I5,r5,q5⟩=>?_;exact thn (hs pins s5 σ H5 x1 x2 x5 ov iv new _ I5 r1 r2 r5 q5) fun _ s6 ⟨H6,I6,q6⟩=>⟨σ,H6,I6,q6⟩
noncomputable def ipI (f:Int→Int→Int):TIp:=fun x y H Q=>∃i j,x= .int i∧y= .int j∧Q (.int (f i j)) H
theorem ZeR:PIp X .Add (ipI fun i j=>i+j):=by
 intro pins s σ H x y v u Q I r1 r2 h;obtain⟨i,j,e1,e2,q⟩:=h;subst e1;subst e2;obtain⟨t,rfl⟩:=r1;obtain⟨t',rfl⟩:=r2;exact iadd_int ⟨.int _,H,I.tok _,⟨_,rfl⟩,q⟩
theorem ZhG:PIp X .Sub (ipI fun i j=>i-j):=by
 intro pins s σ H x y v u Q I r1 r2 h;obtain⟨i,j,e1,e2,q⟩:=h;subst e1;subst e2;obtain⟨t,rfl⟩:=r1;obtain⟨t',rfl⟩:=r2;exact isub_int ⟨.int _,H,I.tok _,⟨_,rfl⟩,q⟩
end
section
variable {X:Cx}{pos:Pos}
noncomputable def Zhw (c:TT) (tb:TS):TS:=fun D σ H=>∃W:Nat→St→Hp→Prop,(∃m,W m σ H)∧∀m σ H,W m σ H→
 c σ H fun b H1=>if b=true then ∃N:St→Hp→Prop,(∀σ' H',N σ' H'→∃m',m'<m∧W m' σ' H')∧tb {D with nx:=N,ct:=N,bk:=D.nx} σ H1 else D.nx σ H1
theorem V7{c:Expr}{body:List Stmt}{tc:TT}{tb:TS}(hp:PassesOwn (model X.prog X.w) X.A X.env X.xe)(hc:PT X c tc)(hb:PSs X body tb):PS X (.While c body [] pos) (Zhw tc tb):=by
 intro pins s σ H D I h;obtain⟨W,⟨m0,w0⟩,turn⟩:=h;refine wpAny_While (codeAny_whileLoop (fun n s'=>∃σ' H',Inv X pins σ' H' s'∧W n σ' H') ?_ m0 ⟨σ,H,I,w0⟩);rintro n s1 ⟨σ1,H1,I1,w1⟩;refine wpAny_passesOwn hp (thn (hc pins s1 σ1 H1 _ I1 (turn n σ1 H1 w1)) fun b s2 ⟨H2,I2,q2⟩=>?_);cases b with
 |true=>
  obtain⟨N,hN,q2⟩:=q2;rw[if_pos rfl];refine wpAny_passesOwn hp (thn (hb pins s2 σ1 H2 _ I2 q2) fun f s3 q3=>?_);cases f with
  |next=>
   obtain⟨σ3,H3,I3,n3⟩:=q3;obtain⟨m',hm,w3⟩:=hN σ3 H3 n3;exact⟨m',hm,σ3,H3,I3,w3⟩
  |cont=>
   obtain⟨σ3,H3,I3,n3⟩:=q3;obtain⟨m',hm,w3⟩:=hN σ3 H3 n3;exact⟨m',hm,σ3,H3,I3,w3⟩
  |brk=>exact q3
  |ret v=>exact q3
 |false=>
  rw[if_neg Bool.false_ne_true];exact wpAny_execs_nil ⟨σ1,H2,I2,q2⟩
end
structure It where
 go:Nat→Hp→Prop
 yld:Nat→Hp→V→Hp→Prop
 stop:Nat→Hp→Prop
def WS(X:Cx)(pins:List (Addr×Obj))(H:Hp)(b:Addr):Prop:=
 H b=none∧b≠X.env.locals∧b∉X.fs∧(b∈X.ex∨X.s₀.heap.objs.size≤b)∧(∀x c,X.env.cells.lookup x=some c→c≠b)∧∀p∈X.pn++pins,p.1≠b
theorem Inv.fpOk{X:Cx}{pins:List (Addr×Obj)}{σ:St}{H H':Hp}{s:Shared}{b:Addr}(I:Inv X pins σ H s)(hb:s.heap.objs.size≤b)(hn:H' b=none):WS X pins H' b:=by
 refine⟨hn,Nat.ne_of_gt (Nat.lt_of_lt_of_le I.lt hb),I.nofs hb,.inr (Nat.le_trans I.sz hb),fun x c e z=>?_,fun p hp z=>?_⟩
 ·obtain⟨v,q⟩:=I.cell x c e;exact absurd (Nat.lt_of_lt_of_le q.lt (by rw[z];exact hb)) (Nat.lt_irrefl _)
 ·exact absurd (Nat.lt_of_lt_of_le (Heap.lt_size (I.pin p hp).1) (by rw[z];exact hb)) (Nat.lt_irrefl _)
structure Zao(P:Program)(w:World)(K:PySem.W.Frag)(tg:Expr)(J:It)(fp:List Addr)(it:Addr)(tn:Nat→Heap→Prop):Prop where
 mem:it∈fp
 obj:∀i h,tn i h→∀b∈fp,∃o,h.get? b=some o∧∀v,o.data≠ .cell v
 keep:∀i h h',tn i h→(∀b∈fp,∀o,h.get? b=some o→h'.get? b=some o)→tn i h'
 item:∀(X:Cx),X.prog=P→X.w=w→X.K=K→X.calm=true→∀(i:Nat)(pins:List (Addr×Obj))(s:Shared)(σ:St)(H:Hp)(E:Value→Shared→Prop),Inv X pins σ H s→(∀b∈fp,WS X pins H b)→tn i s.heap→J.go i H→
  wpAny (model P w) X.A (pyNext (.ref it)) (fun r s1=>∃u,r=some u∧
   wpAny (model P w) X.A (letOwnedTupleGo tg (.ref it) u) (fun _ s2=>∃x H',Inv X pins σ H' s2∧Zu x u∧J.yld i H x H'∧tn (i+1) s2.heap∧∀b∈fp,H' b=none) E s1) E s
 done:∀(X:Cx),X.prog=P→X.w=w→X.K=K→X.calm=true→∀(i:Nat)(pins:List (Addr×Obj))(s:Shared)(σ:St)(H:Hp)(E:Value→Shared→Prop),Inv X pins σ H s→(∀b∈fp,WS X pins H b)→tn i s.heap→J.stop i H→
  wpAny (model P w) X.A (pyNext (.ref it)) (fun r s1=>r=none∧Inv X pins σ H s1) E s
 self:∀(A:Around)(i:Nat)(s:Shared)(Q:Value→Shared→Prop)(E:Value→Shared→Prop),tn i s.heap→Q (.ref it) s→wpAny (model P w) A (pyIter (.ref it)) Q E s
noncomputable abbrev TI:=St→Hp→(It→Hp→Prop)→Prop
def PIE(X:Cx)(pins:List (Addr×Obj))(σ:St)(tg:Expr)(R:It→Hp→Prop)(itv:Value)(s2:Shared):Prop:=
 ∃(it:Addr)(fp:List Addr)(tn:Nat→Heap→Prop)(J:It)(H':Hp),itv= .ref it∧Inv X pins σ H' s2∧Zao X.prog X.w X.K tg J fp it tn∧tn 0 s2.heap∧(∀b∈fp,WS X pins H' b)∧R J H'
def PI(X:Cx)(tg iter:Expr)(wi:TI):Prop:=
 ∀(pins:List (Addr×Obj))(s:Shared)(σ:St)(H:Hp)(R:It→Hp→Prop),Inv X pins σ H s→wi σ H R→
  wpAny (model X.prog X.w) X.A (eval iter X.env) (fun v s1=>wpAny (model X.prog X.w) X.A (pyIter v) (PIE X pins σ tg R) X.xe s1) X.xe s
theorem ZcH{M:Model}{A:Around}{E:Value→Shared→Prop}{s:Shared}{tg:Expr}{it:Addr}{u:Value}{o:Obj}{n:String}{vs:Array Value}{Q:Unit→Shared→Prop}(ho:s.heap.get? it=some o)(hc:o.cls= .type n)(hd:o.data= .fields vs)
  (hn:["enumerate","zip","dict_itemiterator","dict_reverseitemiterator","odict_iterator","itertools.zip_longest","itertools.pairwise"].contains n=false) (hQ:Q () s):wpAny M A (letOwnedTupleGo tg (.ref it) u) Q E s:=by
 unfold letOwnedTupleGo;cases tg<;>first
  |exact wpAny_pure hQ
  |(cases u<;>first
    |exact wpAny_pure hQ
    |(refine wpAny_bind (wpAny_load ho ?_)
      rw[hc,hd];show wpAny M A (if(["enumerate","zip","dict_itemiterator","dict_reverseitemiterator","odict_iterator","itertools.zip_longest","itertools.pairwise"].contains n&&vs[0]? ==some (rawInt _))=true then _ else _) Q E s;rw[if_neg (by intro h;rw[hn,Bool.false_and] at h;cases h)];exact wpAny_pure hQ))
noncomputable def Itl (K:PySem.W.Frag) (a:Addr):It:=
 ⟨fun i H=>∃xs x,SqL K H a xs∧xs[i]? =some x,fun i H x H'=>H'=H∧∀xs,SqL K H a xs→xs[i]? =some x,fun i H=>∃xs,SqL K H a xs∧xs.length≤i⟩
noncomputable def Itr (lo:Int) (n:Nat):It:=⟨fun i _=>i<n,fun i H x H'=>H'=H∧x= .int (lo+i),fun i _=>n≤i⟩
theorem ZhB{P:Program}{w:World}{K:PySem.W.Frag}{tg:Expr}(a it:Addr):Zao P w K tg (Itl K a) [it] it (fun i h=>h.IsListIter it a i) where
 mem:=by simp
 obj:=fun i h st b hb=>by
  have e:b=it:=by simpa using hb
  subst e;obtain⟨o,e,c,d⟩:=st;exact⟨o,e,fun v z=>by rw[d] at z;cases z⟩
 keep:=fun i h h' st k=>st.at fun o e=>k it (by simp) o e
 item:=by
  intro X hP hw hK hc i pins s σ H E I hf st hg;subst hP hw hK;obtain⟨xs,x,hq,hx⟩:=hg;obtain⟨its,rv,p,hz⟩:=I.list hq;obtain⟨u,hu,ru⟩:=rv.get hx;obtain⟨f0,f1,f2,f3,f4,f5⟩:=hf it (by simp);refine wpAny_pyNext_list_item st p.isList (x:=u) (by simpa using hu) fun h' st' sb=>?_;have I1:Inv X pins σ H {s with heap:=h'}:=I.turned (t':=s.toks) (fun b o hb e=>(sb.2 b hb).trans e) f0 f1 f3 f4 f5;obtain⟨o,e,c,d⟩:=id st';exact⟨u,rfl,ZcH (s:={s with heap:=h'}) e c d (by decide) ⟨x,H,I1,ru,⟨rfl,fun ys hy=>by rw[I.list_inj hy hq];exact hx⟩,st',fun b hb=>(hf b hb).1⟩⟩
 done:=by
  intro X hP hw hK hc i pins s σ H E I hf st hg;subst hP hw hK;obtain⟨xs,hq,hx⟩:=hg;obtain⟨its,rv,p,hz⟩:=I.list hq;obtain⟨f0,f1,f2,f3,f4,f5⟩:=hf it (by simp);have hl:=rv.length;exact wpAny_pyNext_list_end (I.ok.hd hc) st p.isList (by simp;omega) fun h' eb=>⟨rfl,I.turned (t':=s.toks) (fun b o hb e=>eb b o hb e) f0 f1 f3 f4 f5⟩
 self:=fun _ _ _ _ _ st h=>wpAny_pyIter_listiter st h
theorem ZgI{P:Program}{w:World}{K:PySem.W.Frag}{tg:Expr}(it:Addr)(lo:Int)(n:Nat):Zao P w K tg (Itr lo n) [it] it (fun i h=>IsRangeIter h it (lo+(i:Nat)*1) ((n:Int)-(i:Nat)) 1) where
 mem:=by simp
 obj:=fun i h st b hb=>by
  have e:b=it:=by simpa using hb
  subst e;exact⟨_,st,fun v z=>by
   have z':Data.fields _=Data.cell v:=z;cases z'⟩
 keep:=fun i h h' st k=>k it (by simp) _ st
 item:=by
  intro X hP hw hK hc i pins s σ H E I hf st hg;subst hP hw hK;obtain⟨f0,f1,f2,f3,f4,f5⟩:=hf it (by simp);have W:=Walks.range (prog:=X.prog) (w:=X.w) (I.ok.hd hc) it lo 1 n;refine W.item i s _ _ hg st fun v h' tk hv st' kk=>?_;obtain⟨t,rfl⟩:=hv;have I1:Inv X pins σ H {s with heap:=h',toks:=tk}:=I.turned (fun b o hb e=>kk b o (by simpa using hb) e) f0 f1 f3 f4 f5;refine⟨_,rfl,ZcH (s:={s with heap:=h',toks:=tk}) (n:="range_iterator") st' rfl rfl (by decide) ⟨.int (lo+i),H,I1,⟨t,?_⟩,⟨rfl,rfl⟩,st',fun b hb=>(hf b hb).1⟩⟩;rw[Int.mul_one]
 done:=by
  intro X hP hw hK hc i pins s σ H E I hf st hg;subst hP hw hK;obtain⟨f0,f1,f2,f3,f4,f5⟩:=hf it (by simp);exact wpAny_pyNext_range_end (I.ok.hd hc) st (by have:n≤i:=hg;omega) fun h' eb=>⟨rfl,I.turned (t':=s.toks) (fun b o hb e=>eb b o hb e) f0 f1 f3 f4 f5⟩
 self:=fun _ _ _ _ _ st h=>wpAny_pyIter_rangeiter st h
end L2
namespace L2
open PySem PySem.Spec PyProof.Rows
section
variable {X:Cx}{tg:Expr}
noncomputable def Zg7 (K:PySem.W.Frag) (tl:TE):TI:=fun σ H R=>tl σ H fun x H1=>∃a,x= .ref a∧(∃xs,SqL K H1 a xs)∧R (Itl K a) H1
theorem ZjV{l:Expr}{tl:TE}(hl:PE X l tl):PI X tg l (Zg7 X.K tl):=by
 intro pins s σ H R I h;refine thn (hl pins s σ H _ I h) fun v s1 ⟨x,H1,I1,r1,q1⟩=>?_;obtain⟨a,e,⟨xs,hq⟩,q⟩:=q1;subst e;cases r1;obtain⟨its,rv,p,hz⟩:=I1.list hq;refine wpAny_pyIter_list p.isList ?_;refine⟨s1.heap.objs.size,[s1.heap.objs.size],_,_,H1,rfl,I1.kept (t':=s1.toks) fun b o e=>Heap.get?_push_of_some _ e,ZhB a _,⟨_,Heap.get?_push_size _ rfl,rfl,rfl⟩,fun b hb=>?_,q⟩;have e:b=s1.heap.objs.size:=by simpa using hb
 subst e;exact I1.fpOk (Nat.le_refl _) (I1.hok.fresh (Nat.le_refl _))
theorem ZiF{pins:List (Addr×Obj)}{σ:St}{H:Hp}{s:Shared}{R:It→Hp→Prop}{E:Value→Shared→Prop}{lo hi:Int}{t u v:Tok}{tk:Nat}(I:Inv X pins σ H s)(h1: -(2 ^ 62)≤lo)(h2:lo<2 ^ 62)(h3: -(2 ^ 62)≤hi)(h4:hi<2 ^ 62)
  (q:R (Itr lo (hi-lo).toNat) H):wpAny (model X.prog X.w) X.A (pyIter (.ref s.heap.objs.size)) (PIE X pins σ tg R) E {s with heap:=s.heap.push {cls:= .type "range",data:= .fields #[.int lo t,.int hi u,.int 1 v]},toks:=tk}:=by
 refine wpAny_pyIter_range (IsRange.new ..) (small_one h1 h2 h3 h4) ?_;have I1:Inv X pins σ H {s with heap:=s.heap.push {cls:= .type "range",data:= .fields #[.int lo t,.int hi u,.int 1 v]},toks:=tk}:=I.kept fun b o e=>Heap.get?_push_of_some _ e;refine⟨(s.heap.push {cls:= .type "range",data:= .fields #[.int lo t,.int hi u,.int 1 v]}).objs.size,[(s.heap.push {cls:= .type "range",data:= .fields #[.int lo t,.int hi u,.int 1 v]}).objs.size],_,_,H,rfl,
  I1.kept (t':=tk) fun b o e=>Heap.get?_push_of_some _ e,ZgI _ lo (hi-lo).toNat,?_,fun b hb=>?_,q⟩
 ·have e1:lo+((0:Nat):Int)*1=lo:=by simp
  have e2:(((hi-lo).toNat:Nat):Int)-((0:Nat):Int)=Builtin.Range.rangeSize lo hi 1:=by rw[rangeSize_one];split<;>omega
  show IsRangeIter _ _ (lo+((0:Nat):Int)*1) ((((hi-lo).toNat:Nat):Int)-((0:Nat):Int)) 1;rw[e1,e2];exact Heap.get?_push_size _ rfl
 ·have e:b=(s.heap.push {cls:= .type "range",data:= .fields #[.int lo t,.int hi u,.int 1 v]}).objs.size:=by simpa using hb
  subst e;exact I1.fpOk (Nat.le_refl _) (I1.hok.fresh (Nat.le_refl _))
noncomputable def Zjd (ta:TA):TI:=fun σ H R=>ta σ H fun vs H1=>∃j:Int,vs=[.int j]∧ -(2 ^ 62)≤j∧j<2 ^ 62∧R (Itr 0 j.toNat) H1
theorem Wq{a:Expr}{ta:TA}{p pos:Pos}(hg:Gl X "range")(hm:X.mg "range" =none)(ha:PA X [a] ta)(hs:starEach [a] X.env=[(false,eval a X.env)]:=by rfl):PI X tg (.Call (.Name "range" p) [a] [] pos) (Zjd ta):=by
 intro pins s σ H R I h;refine Call_ (Uv I hg hm boot_range (PyProof.Rows.callWith_type1 (thn (ha pos pins s σ H _ I h) fun us s1 ⟨vs,H1,I1,r1,q1⟩=>?_) hs rfl));obtain⟨j,e,q1,q2,q⟩:=q1;subst e;cases r1 with
 |cons r rr=>
  cases rr;obtain⟨t,rfl⟩:=r;exact call_range_1 (ZiF I1 (by omega) (by omega) q1 q2 (by simpa using q))
noncomputable def Zkj (wi:TI) (g:TG) (tb:TS):TS:=fun D σ H=>wi σ H fun J H1=>∃W:Nat→Nat→St→Hp→Prop,(∃m,W 0 m σ H1)∧∀i m σ H,W i m σ H→
 (J.stop i H∧D.nx σ H)∨(J.go i H∧∃N:St→Hp→Prop,(∀σ' H',N σ' H'→∃m',m'<m∧W (i+1) m' σ' H')∧∀x H',J.yld i H x H'→g x σ H' fun σ2 H2=>tb {D with nx:=N,ct:=N,bk:=D.nx} σ2 H2)
noncomputable def ZaH (fp:List Addr) (h:Heap):List (Addr×Obj):=fp.filterMap fun b=>(h.get? b).map fun o=>(b,o)
theorem W3{fp:List Addr}{h:Heap}{b:Addr}{o:Obj}(hb:b∈fp)(e:h.get? b=some o):(b,o)∈ZaH fp h:=List.mem_filterMap.mpr ⟨b,hb,by rw[e];rfl⟩
theorem Zh4{fp:List Addr}{h:Heap}{p:Addr×Obj}(hp:p∈ZaH fp h):p.1∈fp∧h.get? p.1=some p.2:=by
 obtain⟨b,hb,e⟩:=List.mem_filterMap.mp hp;cases q:h.get? b with
 |none=>rw[q] at e;cases e
 |some o=>
  rw[q] at e;have e':(b,o)=p:=Option.some.inj e;subst e';exact⟨hb,q⟩
theorem Inv.pinned{pins:List (Addr×Obj)}{σ:St}{H:Hp}{s:Shared}{fp:List Addr}(I:Inv X pins σ H s)(hf:∀b∈fp,WS X pins H b)(ho:∀b∈fp,∃o,s.heap.get? b=some o∧∀v,o.data≠ .cell v):Inv X (pins++ZaH fp s.heap) σ H s:=
 I.pins_of fun p hp=>(List.mem_append.mp hp).elim (fun z=>I.pin p (List.mem_append_right _ z)) fun z=>by
  obtain⟨hb,e⟩:=Zh4 z;obtain⟨f0,f1,f2,_⟩:=hf p.1 hb;obtain⟨o,e',d⟩:=ho p.1 hb;rw[e] at e';cases e';exact⟨e,f0,f1,f2,d⟩
theorem Inv.unpinned{pins pl:List (Addr×Obj)}{σ:St}{H:Hp}{s:Shared}(I:Inv X (pins++pl) σ H s):Inv X pins σ H s:=I.pins_of fun p hp=>I.pin p (List.mem_append_right _ (List.mem_append_left _ hp))
theorem Y1{iter:Expr}{body:List Stmt}{wi:TI}{g:TG}{tb:TS}{pos:Pos}(hp:PassesOwn (model X.prog X.w) X.A X.env X.xe)(hc:X.calm=true)(hi:PI X tg iter wi)(hg:PG X tg g)(hb:PSs X body tb)
  (hs:∀x,foldedSetIterable iter X.env x=pure x:=by intro _;rfl):PS X (.For tg iter body [] pos) (Zkj wi g tb):=by
 intro pins s σ H D I h;refine wpAny_For (thn (hi pins s σ H _ I h) fun v s1 h1=>thn h1 fun itv s2 h2=>?_) hs;obtain⟨it,fp,tn,J,H2,e,I2,T,st2,f2,W,⟨m0,w0⟩,turn⟩:=h2;subst e;have stat:∀{H':Hp},(∀b∈fp,H' b=none)→∀b∈fp,WS X pins H' b:=fun hn b hb=>⟨hn b hb,(f2 b hb).2⟩;refine codeAny_forLoop_any (fun n s'=>∃i σ' H',Inv X pins σ' H' s'∧tn i s'.heap∧(∀b∈fp,H' b=none)∧W i n σ' H') ?_ m0 ⟨0,σ,H2,I2,st2,fun b hb=>(f2 b hb).1,w0⟩;rintro n s3 ⟨i,σ3,H3,I3,st3,fr3,w3⟩;rcases turn i n σ3 H3 w3 with⟨stop,qn⟩|⟨go,N,hN,step⟩
 ·refine wpAny_passesOwn hp (thn (T.done X rfl rfl rfl hc i pins s3 σ3 H3 X.xe I3 (stat fr3) st3 stop) fun r s4 ⟨hr,I4⟩=>?_);subst hr;exact wpAny_execs_nil ⟨σ3,H3,I4,qn⟩
 ·refine wpAny_passesOwn hp (thn (T.item X rfl rfl rfl hc i pins s3 σ3 H3 X.xe I3 (stat fr3) st3 go) fun r s4 ⟨u,hr,h4⟩=>?_);subst hr;refine wpAny_passesOwn hp (thn h4 fun _ s5 ⟨x,H5,I5,r5,y5,st5,fr5⟩=>?_);have I5':=I5.pinned (stat fr5) (T.obj _ _ st5);refine wpAny_passesOwn hp (thn (hg _ s5 σ3 H5 x u _ I5' r5 (step x H5 y5)) fun _ s6 ⟨σ6,H6,I6,q6⟩=>?_);refine wpAny_passesOwn hp (thn (hb _ s6 σ6 H6 _ I6 q6) fun f s7 q7=>?_);have again:∀{σ7:St}{H7:Hp},Inv X (pins++ZaH fp s5.heap) σ7 H7 s7→N σ7 H7→∃m,m<n∧∃i σ' H',Inv X pins σ' H' s7∧tn i s7.heap∧(∀b∈fp,H' b=none)∧W i m σ' H':=fun{σ7 H7} I7 n7=>by
   obtain⟨m',hm,w7⟩:=hN σ7 H7 n7;refine⟨m',hm,i+1,σ7,H7,I7.unpinned,T.keep _ _ _ st5 fun b hb o e=>(I7.pin (b,o) (List.mem_append_right _ (List.mem_append_right _ (W3 hb e)))).1,fun b hb=>?_,w7⟩;obtain⟨o,e,d⟩:=T.obj _ _ st5 b hb;exact(I7.pin (b,o) (List.mem_append_right _ (List.mem_append_right _ (W3 hb e)))).2.1
  cases f with
  |next=>obtain⟨σ7,H7,I7,n7⟩:=q7;exact again I7 n7
  |cont=>obtain⟨σ7,H7,I7,n7⟩:=q7;exact again I7 n7
  |brk=>obtain⟨σ7,H7,I7,q7⟩:=q7;exact⟨σ7,H7,I7.unpinned,q7⟩
  |ret v=>obtain⟨x7,σ7,H7,I7,r7,q7⟩:=q7;exact⟨x7,σ7,H7,I7.unpinned,r7,q7⟩
end
theorem Zby{lo:Int}{n:Nat}{g:TG}{tb:TS}{D:W8}{σ:St}{H:Hp}(Pv:Nat→St→Hp→Prop)(h0:Pv 0 σ H)
  (hs:∀i σ H,i<n→Pv i σ H→g (.int (lo+i)) σ H fun σ2 H2=>tb {D with nx:=Pv (i+1),ct:=Pv (i+1),bk:=D.nx} σ2 H2) (hd:∀σ H,Pv n σ H→D.nx σ H):
  ∃W:Nat→Nat→St→Hp→Prop,(∃m,W 0 m σ H)∧∀i m σ H,W i m σ H→
   ((Itr lo n).stop i H∧D.nx σ H)∨((Itr lo n).go i H∧∃N:St→Hp→Prop,(∀σ' H',N σ' H'→∃m',m'<m∧W (i+1) m' σ' H')∧∀x H',(Itr lo n).yld i H x H'→g x σ H' fun σ2 H2=>tb {D with nx:=N,ct:=N,bk:=D.nx} σ2 H2):=by
 refine⟨fun i m σ H=>m=n-i∧i≤n∧Pv i σ H,⟨n,by simp,Nat.zero_le _,h0⟩,?_⟩;rintro i m σ H ⟨rfl,hi,p⟩
 by_cases hlt:i<n
 ·refine .inr ⟨hlt,Pv (i+1),fun σ' H' p'=>⟨n-(i+1),by omega,rfl,hlt,p'⟩,fun x H' y=>?_⟩;obtain⟨e,y⟩:=y;subst e y;exact hs i σ _ hlt p
 ·have e:i=n:=by omega
  subst e;exact .inl ⟨Nat.le_refl _,hd σ H p⟩
end L2
namespace L2
open PySem PySem.Spec PyProof.Rows
noncomputable abbrev R2:=V→V→Hp→VK→Prop
def OpR(X:Cx)(f:Value→Value→Sem Value)(r:R2):Prop:=
 ∀(pins:List (Addr×Obj))(s:Shared)(σ:St)(H:Hp)(x y:V)(v u:Value)(Q:VK),Inv X pins σ H s→Zu x v→Zu y u→r x y H Q→
  wpAny (model X.prog X.w) X.A (f v u) (EP X pins σ Q) X.xe s
def YO(X:Cx)(f:Value)(r:List V→Hp→VK→Prop):Prop:=
 ∀(pins:List (Addr×Obj))(s:Shared)(σ:St)(H:Hp)(xs:List V)(us:List Value)(Q:VK),Inv X pins σ H s→Zq xs us→r xs H Q→
  wpAny (model X.prog X.w) X.A (call f us) (EP X pins σ Q) X.xe s
def Zmr(X:Cx)(r:V→Hp→(Bool→Hp→Prop)→Prop):Prop:=
 ∀(pins:List (Addr×Obj))(s:Shared)(σ:St)(H:Hp)(x:V)(v:Value)(Q:Bool→Hp→Prop),Inv X pins σ H s→Zu x v→r x H Q→
  wpAny (model X.prog X.w) X.A (truthy v) (TP X pins σ Q) X.xe s
noncomputable def tOp (r:R2) (ta tb:TE):TE:=fun σ H Q=>ta σ H fun x H1=>tb σ H1 fun y H2=>r x y H2 Q
noncomputable def rI (C:Int→Int→Prop) (g:Int→Int→V):R2:=fun x y H Q=>∃i j,x= .int i∧y= .int j∧C i j∧Q (g i j) H
noncomputable def rI0 (g:Int→Int→V):R2:=fun x y H Q=>∃i j,x= .int i∧y= .int j∧Q (g i j) H
section
variable {X:Cx}{a b c:Expr}{ta tb tc:TE}{pos:Pos}
theorem Zi0(ha:PE X a ta)(hb:PE X b tb){pins:List (Addr×Obj)}{s:Shared}{σ:St}{H:Hp}{R:V→V→Hp→Prop}(I:Inv X pins σ H s)
  (h:ta σ H fun x H1=>tb σ H1 fun y H2=>R x y H2) {Q:Value→Shared→Prop} {f:Value→Value→Sem Value}
  (hf:∀v u s2 x y H2,Inv X pins σ H2 s2→Zu x v→Zu y u→R x y H2→wpAny (model X.prog X.w) X.A (f v u) Q X.xe s2):
  wpAny (model X.prog X.w) X.A (eval a X.env) (fun v s₁=>wpAny (model X.prog X.w) X.A (eval b X.env) (fun u s₂=>wpAny (model X.prog X.w) X.A (f v u) Q X.xe s₂) X.xe s₁) X.xe s:=by
 refine thn (ha pins s σ H _ I h) fun v s1 ⟨x,H1,I1,r1,q1⟩=>?_;refine thn (hb pins s1 σ H1 _ I1 q1) fun u s2 ⟨y,H2,I2,r2,q2⟩=>?_;exact hf v u s2 x y H2 I2 r1 r2 q2
theorem ZL{op:Operator}{r:R2}(ho:OpR X (binaryOp op) r)(ha:PE X a ta)(hb:PE X b tb):PE X (.BinOp a op b pos) (tOp r ta tb):=by
 intro pins s σ H Q I h;exact wpAny_BinOp (Zi0 ha hb I h fun v u s2 x y H2 I2 rx ry q=>ho pins s2 σ H2 x y v u Q I2 rx ry q)
theorem opI{f:Value→Value→Sem Value}{C:Int→Int→Prop}{g:Int→Int→Int}
  (rule:∀(i j:Int)(t u:Tok)(s:Shared)(Q:Value→Shared→Prop)(E:Value→Shared→Prop),C i j→Q (.int (g i j) s.toks) {s with toks:=s.toks+1}→wpAny (model X.prog X.w) X.A (f (.int i t) (.int j u)) Q E s):
  OpR X f (rI C fun i j=> .int (g i j)):=by
 intro pins s σ H x y v u Q I rx ry h;obtain⟨i,j,rfl,rfl,hc,q⟩:=h;obtain⟨t,rfl⟩:=rx;obtain⟨t',rfl⟩:=ry;exact rule i j t t' s _ _ hc ⟨.int (g i j),H,I.tok _,⟨_,rfl⟩,q⟩
theorem Zk5{f:Value→Value→Sem Value}{g:Int→Int→Int}
  (rule:∀(i j:Int)(t u:Tok)(s:Shared)(Q:Value→Shared→Prop)(E:Value→Shared→Prop),Q (.int (g i j) s.toks) {s with toks:=s.toks+1}→wpAny (model X.prog X.w) X.A (f (.int i t) (.int j u)) Q E s):
  OpR X f (rI0 fun i j=> .int (g i j)):=by
 intro pins s σ H x y v u Q I rx ry h;obtain⟨i,j,rfl,rfl,q⟩:=h;obtain⟨t,rfl⟩:=rx;obtain⟨t',rfl⟩:=ry;exact rule i j t t' s _ _ ⟨.int (g i j),H,I.tok _,⟨_,rfl⟩,q⟩
theorem ZiC{f:Value→Value→Sem Value}{g:Int→Int→Bool}
  (rule:∀(i j:Int)(t u:Tok)(s:Shared)(Q:Value→Shared→Prop)(E:Value→Shared→Prop),Q (.bool (g i j)) s→wpAny (model X.prog X.w) X.A (f (.int i t) (.int j u)) Q E s):
  OpR X f (rI0 fun i j=> .bl (g i j)):=by
 intro pins s σ H x y v u Q I rx ry h;obtain⟨i,j,rfl,rfl,q⟩:=h;obtain⟨t,rfl⟩:=rx;obtain⟨t',rfl⟩:=ry;exact rule i j t t' s _ _ ⟨.bl (g i j),H,I,rfl,q⟩
def ZkD(i j:Int):Prop:=0≤j∧j≤1000000∧i.natAbs<2 ^ 64
def Zg4(i j:Int):Prop:=(-(2 ^ 64)<i∧i<2 ^ 64)∨(-(2 ^ 64)<j∧j<2 ^ 64)
theorem Zg4.ok{i j:Int}(h:Zg4 i j):IntMulOk i j:=by
 rcases h with⟨h1,h2⟩|⟨h1,h2⟩
 ·exact .of_left (intBits_le_64 h1 h2)
 ·exact .of_right (intBits_le_64 h1 h2)
theorem Zk2:OpR X (binaryOp .Add) (rI0 fun i j=> .int (i+j)):=Zk5 fun _ _ _ _ _ _ _ q=>add_int q
theorem Uw:OpR X (binaryOp .Sub) (rI0 fun i j=> .int (i-j)):=Zk5 fun _ _ _ _ _ _ _ q=>sub_int q
theorem VQ:OpR X (binaryOp .Mod) (rI (fun _ j=>0<j) fun i j=> .int (i % j)):=opI fun i j _ _ _ _ _ hc q=>by
 have h1:(0:Int)<j:=hc;exact mod_int' (by omega) (by rw[Int.fmod_eq_emod_of_nonneg i (by omega)];exact q)
theorem Zkz:OpR X (binaryOp .Pow) (rI ZkD fun i j=> .int (i ^ j.toNat)):=opI fun _ _ _ _ _ _ _ hc q=>pow_int_small hc.1 hc.2.1 hc.2.2 q
end
noncomputable def ZkO:V→V→Bool
 | .non,.non=>true| .non,.int _=>true| .int _,.non=>true| .non,.bl _=>true| .bl _,.non=>true| .non,.str _=>true| .str _,.non=>true
 | .int _,.int _=>true| .bl _,.bl _=>true| .str _,.str _=>true| .byt _,.byt _=>true
 | .int _,.str _=>true| .str _,.int _=>true| .bl _,.str _=>true| .str _,.bl _=>true
 |_,_=>false
noncomputable def rEq:R2:=fun x y H Q=>ZkO x y=true∧Q (.bl (decide (x=y))) H
noncomputable def rNe:R2:=fun x y H Q=>ZkO x y=true∧Q (.bl (!decide (x=y))) H
theorem ZfP{i j:Int}:decide (V.int i=V.int j)=(i==j):=by
 rw[Bool.eq_iff_iff];simp
theorem ZhF{i j:Bool}:decide (V.bl i=V.bl j)=(i==j):=by
 rw[Bool.eq_iff_iff];simp
theorem Zf6{i j:Str}:decide (V.str i=V.str j)=(i==j):=by
 rw[Bool.eq_iff_iff];simp
theorem Zf0{i j:Array UInt8}:decide (V.byt i=V.byt j)=(i.toList==j.toList):=by
 rw[Bool.eq_iff_iff];cases i;cases j;simp
section
variable {X:Cx}{a b c:Expr}{ta tb tc:TE}{pos:Pos}
theorem ZT{pins:List (Addr×Obj)}{σ:St}{H:Hp}{s:Shared}{Q:VK}{k k':Bool}(I:Inv X pins σ H s)(q:Q (.bl k) H)(e:k=k'):EP X pins σ Q (.bool k') s:=by
 subst e;exact⟨.bl k,H,I,rfl,q⟩
theorem ZlS:OpR X (compareOp .Eq) rEq:=by
 intro pins s σ H x y v u Q I rx ry h;obtain⟨hs,q⟩:=h;cases x with
 |non=>
  cases rx;cases y with
  |non=>cases ry;exact PySem.EqNone.eq_none_none (ZT I q (by simp))
  |bl j=>cases ry;exact PySem.EqNone.eq_none_bool (ZT I q (by simp))
  |int j=>obtain⟨t',rfl⟩:=ry;exact PySem.EqNone.eq_none_int (ZT I q (by simp))
  |str j=>obtain⟨t',rfl⟩:=ry;exact PySem.EqNone.eq_none_str (ZT I q (by simp))
  |_=>exact absurd (show false=true from hs) Bool.false_ne_true
 |bl i=>
  cases rx;cases y with
  |non=>cases ry;exact PySem.EqNone.eq_bool_none (ZT I q (by simp))
  |bl j=>cases ry;exact eq_bool (ZT I q ZhF)
  |str j=>obtain⟨t',rfl⟩:=ry;exact PySem.EqMixed.eq_bool_str (ZT I q (by simp))
  |_=>exact absurd (show false=true from hs) Bool.false_ne_true
 |int i=>
  obtain⟨t,rfl⟩:=rx;cases y with
  |non=>cases ry;exact PySem.EqNone.eq_int_none (ZT I q (by simp))
  |int j=>obtain⟨t',rfl⟩:=ry;exact eq_int (ZT I q ZfP)
  |str j=>obtain⟨t',rfl⟩:=ry;exact PySem.EqMixed.eq_int_str (ZT I q (by simp))
  |_=>exact absurd (show false=true from hs) Bool.false_ne_true
 |str i=>
  obtain⟨t,rfl⟩:=rx;cases y with
  |non=>cases ry;exact PySem.EqNone.eq_str_none (ZT I q (by simp))
  |bl j=>cases ry;exact PySem.EqMixed.eq_str_bool (ZT I q (by simp))
  |int j=>obtain⟨t',rfl⟩:=ry;exact PySem.EqMixed.eq_str_int (ZT I q (by simp))
  |str j=>obtain⟨t',rfl⟩:=ry;exact eq_str (ZT I q Zf6)
  |_=>exact absurd (show false=true from hs) Bool.false_ne_true
 |byt i=>
  obtain⟨t,rfl⟩:=rx;cases y with
  |byt j=>obtain⟨t',rfl⟩:=ry;exact PySem.W.eq_bytes (ZT I q Zf0)
  |_=>exact absurd (show false=true from hs) Bool.false_ne_true
 |_=>cases y<;>exact absurd (show false=true from hs) Bool.false_ne_true
theorem ZlL:OpR X (compareOp .NotEq) rNe:=by
 intro pins s σ H x y v u Q I rx ry h;obtain⟨hs,q⟩:=h;cases x with
 |non=>
  cases rx;cases y with
  |non=>cases ry;exact PySem.EqNone.ne_none_none (ZT I q (by simp))
  |bl j=>cases ry;exact PySem.EqNone.ne_none_bool (ZT I q (by simp))
  |int j=>obtain⟨t',rfl⟩:=ry;exact PySem.EqNone.ne_none_int (ZT I q (by simp))
  |str j=>obtain⟨t',rfl⟩:=ry;exact PySem.EqNone.ne_none_str (ZT I q (by simp))
  |_=>exact absurd (show false=true from hs) Bool.false_ne_true
 |bl i=>
  cases rx;cases y with
  |non=>cases ry;exact PySem.EqNone.ne_bool_none (ZT I q (by simp))
  |bl j=>cases ry;exact ne_bool (ZT I q (congrArg not ZhF))
  |str j=>obtain⟨t',rfl⟩:=ry;exact PySem.EqMixed.ne_bool_str (ZT I q (by simp))
  |_=>exact absurd (show false=true from hs) Bool.false_ne_true
 |int i=>
  obtain⟨t,rfl⟩:=rx;cases y with
  |non=>cases ry;exact PySem.EqNone.ne_int_none (ZT I q (by simp))
  |int j=>obtain⟨t',rfl⟩:=ry;exact ne_int (ZT I q (congrArg not ZfP))
  |str j=>obtain⟨t',rfl⟩:=ry;exact PySem.EqMixed.ne_int_str (ZT I q (by simp))
  |_=>exact absurd (show false=true from hs) Bool.false_ne_true
 |str i=>
  obtain⟨t,rfl⟩:=rx;cases y with
  |non=>cases ry;exact PySem.EqNone.ne_str_none (ZT I q (by simp))
  |bl j=>cases ry;exact PySem.EqMixed.ne_str_bool (ZT I q (by simp))
  |int j=>obtain⟨t',rfl⟩:=ry;exact PySem.EqMixed.ne_str_int (ZT I q (by simp))
  |str j=>obtain⟨t',rfl⟩:=ry;exact ne_str (ZT I q (congrArg not Zf6))
  |_=>exact absurd (show false=true from hs) Bool.false_ne_true
 |byt i=>
  obtain⟨t,rfl⟩:=rx;cases y with
  |byt j=>obtain⟨t',rfl⟩:=ry;exact PySem.W.ne_bytes (ZT I q (congrArg not Zf0))
  |_=>exact absurd (show false=true from hs) Bool.false_ne_true
 |_=>cases y<;>exact absurd (show false=true from hs) Bool.false_ne_true
theorem UP:OpR X (compareOp .Lt) (rI0 fun i j=> .bl (decide (i<j))):=ZiC fun _ _ _ _ _ _ _ q=>lt_int q
theorem ZbX:OpR X (compareOp .Gt) (rI0 fun i j=> .bl (decide (j<i))):=ZiC fun _ _ _ _ _ _ _ q=>gt_int q
theorem Zeg:OpR X (compareOp .GtE) (rI0 fun i j=> .bl (decide (j≤i))):=ZiC fun _ _ _ _ _ _ _ q=>ge_int q
theorem ZcW:OpR X (compareOp .Is) (fun x y H Q=>y= .non∧Q (.bl (decide (x= .non))) H):=by
 intro pins s σ H x y v u Q I rx ry h;obtain⟨rfl,q⟩:=h;cases ry;refine is_none_gen (ZT I q ?_);cases x<;>first
  |(cases rx;rfl)
  |(obtain⟨t,rfl⟩:=rx;rfl)
theorem Zj7:OpR X (compareOp .IsNot) (fun x y H Q=>y= .non∧Q (.bl (!decide (x= .non))) H):=by
 intro pins s σ H x y v u Q I rx ry h;obtain⟨rfl,q⟩:=h;cases ry;refine isnot_none_gen (ZT I q ?_);cases x<;>first
  |(cases rx;rfl)
  |(obtain⟨t,rfl⟩:=rx;rfl)
theorem OpR.or{f:Value→Value→Sem Value}{r r':R2}(h:OpR X f r)(h':OpR X f r'):OpR X f (fun x y H Q=>r x y H Q∨r' x y H Q):=by
 intro pins s σ H x y v u Q I rx ry q;rcases q with q|q
 ·exact h pins s σ H x y v u Q I rx ry q
 ·exact h' pins s σ H x y v u Q I rx ry q
theorem ZE(b:Expr){op:CmpOp}(h:op≠ .In:=by decide)(h2:op≠ .NotIn:=by decide):behindInMarks op b=false:=by
 have e1:(op==CmpOp.In)=false:=by cases op<;>first|rfl|exact absurd rfl h
 have e2:(op==CmpOp.NotIn)=false:=by cases op<;>first|rfl|exact absurd rfl h2
 cases b<;>simp[behindInMarks,e1,e2]
theorem W7{op:CmpOp}{r:R2}(ho:OpR X (compareOp op) r)(ha:PE X a ta)(hb:PE X b tb)(hm:behindInMarks op b=false):PE X (.Compare a [op] [b] pos) (tOp r ta tb):=by
 intro pins s σ H Q I h;exact wpAny_Compare1 (Zi0 ha hb I h fun v u s2 x y H2 I2 rx ry q=>ho pins s2 σ H2 x y v u Q I2 rx ry q) hm
noncomputable def Zjt (t:TE):TT:=fun σ H Q=>t σ H fun x H'=>∃k,x= .bl k∧Q k H'
theorem ZC{op:CmpOp}{r:R2}(ho:OpR X (compareOp op) r)(ha:PE X a ta)(hb:PE X b tb)(hm:behindInMarks op b=false):PT X (.Compare a [op] [b] pos) (Zjt (tOp r ta tb)):=by
 intro pins s σ H Q I h;refine wpAny_isTrue_Compare1 (thn (ha pins s σ H _ I h) fun v s1 ⟨x,H1,I1,r1,q1⟩=>thn (hb pins s1 σ H1 _ I1 q1) fun u s2 ⟨y,H2,I2,r2,q2⟩=>
  thn (ho pins s2 σ H2 x y v u _ I2 r1 r2 q2) fun c s3 ⟨z,H3,I3,r3,k,e,q3⟩=>?_) hm
 subst e;cases r3;exact wpAny_truthy_bool ⟨H3,I3,q3⟩
noncomputable def Zhc (r r':R2) (ta tb tc:TE):TE:=fun σ H Q=>ta σ H fun x H1=>tb σ H1 fun y H2=>r x y H2 fun z H3=>∃k,z= .bl k∧
 (if k=true then tc σ H3 fun w' H4=>r' y w' H4 Q else Q (.bl false) H3)
theorem Ziv{op op':CmpOp}{r r':R2}(ho:OpR X (compareOp op) r)(ho':OpR X (compareOp op') r')(ha:PE X a ta)(hb:PE X b tb)(hc:PE X c tc)
  (hm:lastMarks [op,op'] [b,c]=false:=by with_unfolding_all rfl):PE X (.Compare a [op,op'] [b,c] pos) (Zhc r r' ta tb tc):=by
 intro pins s σ H Q I h;refine Compare_chain (thn (ha pins s σ H _ I h) fun v s1 ⟨x,H1,I1,r1,q1⟩=>chain_link (thn (hb pins s1 σ H1 _ I1 q1) fun u s2 ⟨y,H2,I2,r2,q2⟩=>
  thn (ho pins s2 σ H2 x y v u _ I2 r1 r2 q2) fun d s3 ⟨z,H3,I3,r3,k,e,q3⟩=>?_)) hm
 subst e;cases r3;refine wpAny_truthy_bool ?_;cases k with
 |false=>exact ite_ff ⟨.bl false,H3,I3,rfl,q3⟩
 |true=>exact ite_tt (chain_last (thn (hc pins s3 σ H3 _ I3 q3) fun w' s4 ⟨z',H4,I4,r4,q4⟩=>ho' pins s4 σ H4 y z' u w' Q I4 r2 r4 q4))
def Zez(K:PySem.W.Frag)(x:V)(H:Hp)(k:Bool):Prop:=
 match x with
 | .non=>k=false
 | .bl b=>k=b
 | .int i=>k=(i != 0)
 | .str y=>y.length≤sizeLine∧k=((y.length:Int) != 0)
 | .byt y=>y.size≤sizeLine∧k=((y.size:Int) != 0)
 | .ref p=>(∃xs,SqL K H p xs∧k= !xs.isEmpty)∨(∃xs,SqT K H p xs∧k= !xs.isEmpty)∨∃kvs,H p=some (.dK kvs)∧k= !kvs.isEmpty
 |_=>False
theorem Zgq{κ:Type}{kvs:List (κ×V)}{vs:List (κ×Value)}(r:KV kvs vs):(!vs.isEmpty)= !kvs.isEmpty:=by
 cases r<;>rfl
theorem Zc0{xs:List V}{its:List Value}(r:Zq xs its):(!its.toArray.isEmpty)= !xs.isEmpty:=by
 cases r<;>simp
theorem Uq:(sizeLine:Nat)<2 ^ 63:=by rw[sizeLine_eq];decide
theorem ZkX:Zmr X (fun x H Q=>∃k,Zez X.K x H k∧Q k H):=by
 intro pins s σ H x v Q I rx h;obtain⟨k,e,q⟩:=h;have hl:=Uq;have hs:sizeLine=16777216:=sizeLine_eq;cases x with
 |non=>
  cases rx;have e':k=false:=e;subst e';exact truthy_none ⟨H,I,q⟩
 |bl b=>
  cases rx;have e':k=b:=e;subst e';exact wpAny_truthy_bool ⟨H,I,q⟩
 |int i=>
  obtain⟨t,rfl⟩:=rx;have e':k=(i != 0):=e;subst e';exact PySem.P.truthy_int ⟨H,I,q⟩
 |str y=>
  obtain⟨t,rfl⟩:=rx;obtain⟨hy,e'⟩:y.length≤sizeLine∧k=((y.length:Int) != 0):=e;subst e';exact PySem.P.truthy_str (by omega) ⟨H,I.tok _,q⟩
 |byt y=>
  obtain⟨t,rfl⟩:=rx;obtain⟨hy,e'⟩:y.size≤sizeLine∧k=((y.size:Int) != 0):=e;subst e';exact PySem.W.truthy_bytes (by omega) ⟨H,I.tok _,q⟩
 |ref p=>
  cases rx;have e':(∃xs,SqL X.K H p xs∧k= !xs.isEmpty)∨(∃xs,SqT X.K H p xs∧k= !xs.isEmpty)∨∃kvs,H p=some (.dK kvs)∧k= !kvs.isEmpty:=e;rcases e' with⟨xs,hx,e'⟩|⟨xs,hx,e'⟩|⟨kvs,hx,e'⟩
  ·subst e';obtain⟨its,r,pl,hz⟩:=I.list hx;have hlen:=r.length;exact wpAny_truthy_list pl.isList (by simp only[List.size_toArray];omega) ⟨H,I.tok _,by rw[Zc0 r];exact q⟩
  ·subst e';obtain⟨its,r,pl,hz⟩:=I.tuple hx;have hlen:=r.length;exact truthy_tuple pl (by simp only[List.size_toArray];omega) ⟨H,I.tok _,by rw[Zc0 r];exact q⟩
  ·subst e';obtain⟨hz,hS,vs,r,m⟩:kvs.length≤sizeLine∧(p==sysModules)=false∧∃vs,KV kvs vs∧s.heap.DictOf (ZO X.prog X.w) p vs:=I.hok p _ hx;have hlen:kvs.length=vs.length:=Paired.length r;exact wpAny_truthy_dict hS m (by omega) ⟨H,I.tok _,by rw[Zgq r];exact q⟩
 |_=>exact(show False from e).elim
theorem ZiI(ha:PE X a ta)(he:∀whole,isTrue a X.env whole=(do let v←whole;standAt a.pos;holding [v] (truthy v))):
  PT X a (fun σ H Q=>ta σ H fun x H'=>∃k,Zez X.K x H' k∧Q k H'):=by
 intro pins s σ H Q I h;exact isTrue_plain (thn (ha pins s σ H _ I h) fun v s1 ⟨x,H1,I1,r1,q1⟩=>ZkX pins s1 σ H1 x v Q I1 r1 q1) (he _)
theorem ZgV:OpR X (binaryOp .Add) (fun x y H Q=>∃i j,x= .str i∧y= .str j∧i.length+j.length≤sizeLine∧Q (.str (i++j)) H):=by
 intro pins s σ H x y v u Q I rx ry h;obtain⟨i,j,rfl,rfl,hz,q⟩:=h;obtain⟨t,rfl⟩:=rx;obtain⟨t',rfl⟩:=ry;exact add_str (fun t' tk=>⟨.str (i++j),H,I.tok _,⟨_,rfl⟩,q⟩) hz
theorem WJ{x:V}{us:List Value}(r:Zq [x] us):∃u,us=[u]∧Zu x u:=by
 cases r with
 |cons r1 r2=>cases r2;exact⟨_,rfl,r1⟩
theorem ZlK{x y:V}{us:List Value}(r:Zq [x,y] us):∃u w',us=[u,w']∧Zu x u∧Zu y w':=by
 cases r with
 |cons r1 r2=>
  cases r2 with
  |cons r3 r4=>cases r4;exact⟨_,_,rfl,r1,r3⟩
theorem Zht(hc:X.calm=true):YO X (.builtin "min") (fun xs H Q=>∃i j,xs=[.int i,.int j]∧Q (.int (if j<i then j else i)) H):=by
 intro pins s σ H xs us Q I r h;obtain⟨i,j,rfl,q⟩:=h;obtain⟨u,w',rfl,⟨t,rfl⟩,⟨t',rfl⟩⟩:=ZlK r;refine min_two_ints (I.ok.hd hc) fun h' tk k=>⟨_,H,I.kept k,?_,q⟩
 by_cases hj:j<i
 ·rw[if_pos hj,if_pos hj];exact⟨_,rfl⟩
 ·rw[if_neg hj,if_neg hj];exact⟨_,rfl⟩
def ZcA(K:PySem.W.Frag)(x:V)(H:Hp)(n:Nat):Prop:=
 match x with
 | .str y=>y.length≤sizeLine∧n=y.length
 | .byt y=>y.size≤sizeLine∧n=y.size
 | .ref p=>(∃xs,SqL K H p xs∧n=xs.length)∨∃xs,SqT K H p xs∧n=xs.length
 |_=>False
theorem ZiP:YO X (.builtin "len") (fun xs H Q=>∃x n,xs=[x]∧ZcA X.K x H n∧Q (.int n) H):=by
 intro pins s σ H xs us Q I r h;obtain⟨x,n,rfl,e,q⟩:=h;obtain⟨u,rfl,rx⟩:=WJ r;have hl:=Uq;have hs:sizeLine=16777216:=sizeLine_eq;cases x with
 |str y=>
  obtain⟨t,rfl⟩:=rx;obtain⟨hy,e'⟩:y.length≤sizeLine∧n=y.length:=e;subst e';exact len_str (by omega) ⟨.int _,H,I.tok _,⟨_,rfl⟩,q⟩
 |byt y=>
  obtain⟨t,rfl⟩:=rx;obtain⟨hy,e'⟩:y.size≤sizeLine∧n=y.size:=e;subst e';exact PySem.W.len_bytes (by omega) ⟨.int _,H,I.tok _,⟨_,rfl⟩,q⟩
 |ref p=>
  cases rx;have e':(∃xs,SqL X.K H p xs∧n=xs.length)∨∃xs,SqT X.K H p xs∧n=xs.length:=e;rcases e' with⟨xs,hx,e'⟩|⟨xs,hx,e'⟩
  ·subst e';obtain⟨its,r',pl,hz⟩:=I.list hx;have hlen:=r'.length;exact Calls.call_len_list pl.isList (by simp only[List.size_toArray];omega) ⟨.int xs.length,H,I.tok _,⟨_,by simp only[List.size_toArray];rw[hlen]⟩,q⟩
  ·subst e';obtain⟨its,r',pl,hz⟩:=I.tuple hx;have hlen:=r'.length;exact len_tuple pl (by simp only[List.size_toArray];omega) ⟨.int xs.length,H,I.tok _,⟨_,by simp only[List.size_toArray];rw[hlen]⟩,q⟩
 |_=>exact(show False from e).elim
end
end L2
namespace L2
open PySem PySem.Spec PyProof.Rows
structure Zcq(h:Heap)(x dx C:Addr)(mA:Str→Option Value):Prop where
 obj:h.get? x=some (PySem.W.instObj C dx)
 ns:h.Ns1 dx mA
 ne:dx≠x
theorem Zh6{h:Heap}{dx:Addr}{mA:Str→Option Value}(n:h.Ns1 dx mA):∃od,h.get? dx=some od∧∀name,PySem.W.lookIn name od=some (mA name):=by
 obtain⟨o,es,ep,ho,hd,hk,_,hm⟩:=n;refine⟨o,ho,fun name=>?_⟩;have e:=hm name;unfold nsFind findBy at e;rw[←Array.find?_toList] at e;unfold PySem.W.lookIn;rw[hd];dsimp only
 split
 ·rename_i y q;rw[q] at e;exact congrArg some e
 ·rename_i q;rw[q] at e;have a:es.toList.any (·.refKey)=false:=by
   rw[List.any_eq_false];intro y hy;obtain⟨z,t,hkey⟩:=hk y (Array.mem_toList_iff.mp hy);simp[DictEntry.refKey,hkey]
  have a':¬es.toList.any (·.refKey)=true:=by rw[a];exact Bool.false_ne_true
  rw[if_neg a'];exact congrArg some e
theorem Zcq.look{h:Heap}{x dx C:Addr}{mA:Str→Option Value}(I:Zcq h x dx C mA):∃od,PySem.W.InstAt h x (PySem.W.instObj C dx) C (some od)∧∀name,PySem.W.lookIn name od=some (mA name):=
 let⟨od,ho,hl⟩:=Zh6 I.ns
 ⟨od,⟨I.obj,rfl,rfl,ho⟩,hl⟩
section
variable {prog:Program}{w:World}{A:Around}{E:Value→Shared→Prop}{s:Shared}{K:PySem.W.Frag}{x dx C f:Addr}{mA:Str→Option Value}{name:Str}{v:Value}
theorem ZjB{expr:Bool}{Q:Value→Shared→Prop}(X:K.In s.heap)(I:Zcq s.heap x dx C mA)(hg:PySem.W.plainGet K C name=true)(hh:PySem.W.hasDictIn K C=true)
  (ha:PySem.W.findIn K (.ref C) name=some none) (hv:mA name=some v) (hv':PySem.W.handedIn v=true) (h:Q v {s with toks:=s.toks+1}):
  wpAny (model prog w) A (getAttr (.ref x) name expr) Q E s:=by
 obtain⟨od,J,hl⟩:=I.look;exact PySem.W.get_value X J (PySem.W.plainGet_of hg).1 (PySem.W.findObj_own hh ha rfl (by rw[hl,hv])) hv' h
theorem ZiN{pl:Sem Bool}{Q:Value×List Value→Shared→Prop}(X:K.In s.heap)(I:Zcq s.heap x dx C mA)(hg:PySem.W.plainGet K C name=true)
  (hf:PySem.W.findIn K (.ref C) name=some (some (.ref f))) (ht:PySem.W.isFn K (.ref f)=true) (hv:mA name=none) (h:Q (.ref f,[.ref x]) s):
  wpAny (model prog w) A (getMethod (.ref x) name pl) Q E s:=by
 obtain⟨od,J,hl⟩:=I.look;exact PySem.W.method_fn X J (PySem.W.plainGet_of hg).1 (PySem.W.plainGet_of hg).2 hf (beq_iff_eq.mp ht) (by show(PySem.W.lookIn name od).map (·.isSome)=some false;rw[hl,hv];rfl) h
theorem Zj8{ns:List Str}{Q:Unit→Shared→Prop}(X:K.In s.heap)(I:Zcq s.heap x dx C mA)
  (hs:PySem.W.findIn K (.ref C) "__setattr__" =some (some (.builtin "object.__setattr__"))) (hp:PySem.W.plainOver K C=true) (ht:PySem.W.takerIn K C name=some none) (hh:PySem.W.hasDictIn K C=true)
  (hw:PySem.Within mA ns) (hsz:ns.length≤sizeLine)
  (h:∀h',Zcq h' x dx C (fun y=>if y=name then some v else mA y)→Heap.SameBut dx s.heap h'→Q () {s with heap:=h',toks:=s.toks+2}):
  wpAny (model prog w) A (setAttr (.ref x) name v) Q E s:=by
 obtain⟨od,J,hl⟩:=I.look;refine PySem.W.set_plain X J hs (PySem.W.osa_open (s:={s with toks:=s.toks+1}) (r:=none) X J hp ht fun b=>?_);obtain⟨cd,hc,hd'⟩:=PySem.W.any_some hh;have hx:s.heap.get? x=some ⟨.ref C,some dx,.plain,#[]⟩:=I.obj;refine wpAny_bind (wpAny_pure (wpAny_bind (wpAny_bind (wpAny_loadPart hx (wpAny_bind (PySem.W.Looks.here (s:={s with toks:=s.toks+1}) (PySem.W.looks_clsIn X hc) ?_))))));rw[hd'];refine wpAny_pure (a:=some dx) (wpAny_bind (wpAny_pure (wpAny_bind ?_)));refine wpAny_nsSet1 (s:={s with toks:=s.toks+1}) I.ns fun h' hn2 hs2=>?_;obtain⟨oD,esD,epD,hoD,hdD,hcD⟩:=hn2.count (PySem.Within.cons name v hw);refine wpAny_bind (wpAny_lookBehind hoD (by rw[hdD];exact pastItsLine_dict (Nat.le_trans hcD (by rw[List.length_cons];omega))) ?_);exact wpAny_pure (h _ ⟨(hs2.2 _ (Ne.symm I.ne)).trans I.obj,hn2,I.ne⟩ hs2)
theorem Zi3{R:Result→Shared→Prop}{vs:List Value}{kw:List (Str×Value)}(X:K.In s.heap)(hm:PySem.W.makesIn K C=true)
  (hi:PySem.W.findIn K (.ref C) "__init__" =some (some (.ref f))) (hf:PySem.W.typeIn K (.ref f)=some (.type "function"))
  (h:codeAny (model prog w) (A.under (.builtin "type.__call__" ⟨.ref C::vs,kw⟩)) (.call (.ref f) ⟨.ref (s.heap.objs.size+1)::vs,kw⟩) (PySem.W.InitBack (s.heap.objs.size+1) R)
   {s with heap:=(s.heap.push PySem.W.emptyDict).push (PySem.W.instObj C s.heap.objs.size)}):
  codeAny (model prog w) A (.call (.ref C) ⟨vs,kw⟩) R s:=by
 obtain⟨hh,g,d,t,os⟩:=s;exact PySem.W.make_core (PySem.W.makes_of X hm) (PySem.W.looks_findIn X hi) (fun self=>PySem.W.bind_fn X self hf) (.inl rfl) h
end
noncomputable def YZ (f:Str) (v:V):List (Str×V)→List (Str×V)
 | []=>[(f,v)]
 |(g,x)::r=>if g=f then(g,v)::r else(g,x)::YZ f v r
theorem Zcd(f g:Str)(v:V):∀fs:List (Str×V),(YZ f v fs).lookup g=if g=f then some v else fs.lookup g
 | []=>by
  show List.lookup g [(f,v)]=_
  by_cases h:g=f
  ·have hb:(g==f)=true:=beq_iff_eq.mpr h;simp only[List.lookup,hb,if_pos h]
  ·have hb:(g==f)=false:=beq_eq_false_iff_ne.mpr h;simp only[List.lookup,hb,if_neg h]
 |(k,x)::r=>by
  have ih:=Zcd f g v r;rw[show YZ f v ((k,x)::r)=(if k=f then(k,v)::r else(k,x)::YZ f v r) from rfl]
  by_cases hk:k=f
  ·rw[if_pos hk]
   by_cases h:g=k
   ·have hb:(g==k)=true:=beq_iff_eq.mpr h;simp only[List.lookup,hb,if_pos (h.trans hk)]
   ·have hb:(g==k)=false:=beq_eq_false_iff_ne.mpr h;simp only[List.lookup,hb,if_neg (fun e:g=f=>h (e.trans hk.symm))]
  ·rw[if_neg hk]
   by_cases h:g=k
   ·have hb:(g==k)=true:=beq_iff_eq.mpr h;simp only[List.lookup,hb,if_neg (fun e:g=f=>hk (h.symm.trans e))]
   ·have hb:(g==k)=false:=beq_eq_false_iff_ne.mpr h;simp only[List.lookup,hb];exact ih
theorem Zbh(f:Str)(v:V):∀fs:List (Str×V),f∈(YZ f v fs).map (·.1)∧∀g,g∈fs.map (·.1)→g∈(YZ f v fs).map (·.1)
 | []=>⟨by simp[YZ],fun g h=>by simp at h⟩
 |(k,x)::r=>by
  obtain⟨i1,i2⟩:=Zbh f v r;rw[show YZ f v ((k,x)::r)=(if k=f then(k,v)::r else(k,x)::YZ f v r) from rfl]
  by_cases hk:k=f
  ·rw[if_pos hk];subst hk;exact⟨by simp,fun g h=>by simpa using h⟩
  ·rw[if_neg hk];refine⟨?_,fun g h=>?_⟩
   ·rw[List.map_cons];exact List.mem_cons_of_mem _ i1
   ·rw[List.map_cons] at h⊢;rcases List.mem_cons.mp h with e|e
    ·exact List.mem_cons.mpr (.inl e)
    ·exact List.mem_cons_of_mem _ (i2 g e)
theorem Zb5(f:Str)(v:V):∀fs:List (Str×V),(YZ f v fs).length≤fs.length+1
 | []=>by simp[YZ]
 |(k,x)::r=>by
  have ih:=Zb5 f v r;rw[show YZ f v ((k,x)::r)=(if k=f then(k,v)::r else(k,x)::YZ f v r) from rfl]
  by_cases hk:k=f
  ·rw[if_pos hk,List.length_cons,List.length_cons];omega
  ·rw[if_neg hk,List.length_cons,List.length_cons];omega
theorem W1.some_of{v:V}{o:Option Value}(r:W1 (some v) o):∃u,o=some u∧Zu v u:=by
 cases o with
 |none=>exact(show False from r).elim
 |some u=>exact⟨u,rfl,r⟩
theorem W1.none_of{o:Option Value}(r:W1 none o):o=none:=by
 cases o with
 |none=>rfl
 |some u=>exact(show False from r).elim
theorem ZhL{v:V}{u:Value}(r:Zu v u):PySem.W.handedIn u=true:=by
 cases v with
 |non=>cases (show u=Value.none from r);rfl
 |bl b=>cases (show u=Value.bool b from r);rfl
 |int i=>obtain⟨t,e⟩:=(show ∃t,u=Value.int i t from r);cases e;rfl
 |str x=>obtain⟨t,e⟩:=(show ∃t,u=Value.str x t from r);cases e;rfl
 |byt b=>obtain⟨t,e⟩:=(show ∃t,u=Value.bytes b t from r);cases e;rfl
 |flt b=>obtain⟨t,e⟩:=(show ∃t,u=Value.float b t from r);cases e;rfl
 |ref a=>cases (show u=Value.ref a from r);rfl
 |ty n=>cases (show u=Value.type n from r);rfl
section
variable {P:Program}{w:World}{H H':Hp}{h h':Heap}{a C dx:Addr}{fs fs':List (Str×V)}
theorem ZbY(hok:HOk P w H h)(e:H a=some (.ins C dx fs)):∃mA,Zcq h a dx C mA∧(∀f,W1 (fs.lookup f) (mA f))∧PySem.Within mA (fs.map (·.1))∧fs.length≤1000∧H dx=some (.own a):=by
 obtain⟨d,z,ne,ob,mA,n,r,q⟩:=(show ZU P w H h a (.ins C dx fs) from hok a _ e);exact⟨mA,⟨ob,n,ne⟩,r,q,z,d⟩
end
structure Cls(K:PySem.W.Frag)(C:Addr):Prop where
 pg:PySem.W.plainGet K C Str.empty=true
 hd:PySem.W.hasDictIn K C=true
 po:PySem.W.plainOver K C=true
 sa:PySem.W.findIn K (.ref C) "__setattr__" =some (some (.builtin "object.__setattr__"))
theorem Cls.get{K:PySem.W.Frag}{C:Addr}(c:Cls K C)(f:Str):PySem.W.plainGet K C f=true:=c.pg
def Y6(K:PySem.W.Frag)(C:Addr)(f:Str):Prop:=PySem.W.findIn K (.ref C) f=some none
theorem Y6.taker{K:PySem.W.Frag}{C:Addr}{f:Str}(n:Y6 K C f):PySem.W.takerIn K C f=some none:=by
 unfold PySem.W.takerIn;rw[show PySem.W.findIn K (.ref C) f=some none from n]
 rfl
structure WH(K:PySem.W.Frag)(C:Addr)(m:Str)(f:Addr):Prop where
 at_:PySem.W.findIn K (.ref C) m=some (some (.ref f))
 fn:PySem.W.isFn K (.ref f)=true
 kp:PySem.W.keepIn K (.ref f)=true
section
variable {X:Cx}{pins:List (Addr×Obj)}{σ:St}{H:Hp}{s:Shared}{a C dx:Addr}{fs:List (Str×V)}{f:Str}{v:V}{A:Around}{E:Value→Shared→Prop}
theorem ZgK{b:Bool}{Q:Value→Shared→Prop}(I:Inv X pins σ H s)(e:H a=some (.ins C dx fs))(c:Cls X.K C)(n:Y6 X.K C f)(l:fs.lookup f=some v)
  (h:∀u s',Inv X pins σ H s'→Zu v u→Q u s'):wpAny (model X.prog X.w) A (getAttr (.ref a) f b) Q E s:=by
 obtain⟨mA,O,r,_,_,_⟩:=ZbY I.hok e;obtain⟨u,hu,ru⟩:=W1.some_of (v:=v) (o:=mA f) (by rw[←l];exact r f);exact ZjB I.kIn O (c.get f) c.hd n hu (ZhL ru) (h u _ (I.tok _) ru)
theorem ZaW{m:Str}{g:Addr}{pl:Sem Bool}{Q:Value×List Value→Shared→Prop}(I:Inv X pins σ H s)(e:H a=some (.ins C dx fs))(c:Cls X.K C)(k:WH X.K C m g)(l:fs.lookup m=none)
  (h:Q (.ref g,[.ref a]) s):wpAny (model X.prog X.w) A (getMethod (.ref a) m pl) Q E s:=by
 obtain⟨mA,O,r,_,_,_⟩:=ZbY I.hok e;have hn:mA m=none:=W1.none_of (by rw[←l];exact r m);exact ZiN I.kIn O (c.get m) k.at_ k.fn hn h
theorem Zgm{y:V}{u:Value}{Q:Unit→Shared→Prop}(I:Inv X pins σ H s)(e:H a=some (.ins C dx fs))(c:Cls X.K C)(n:Y6 X.K C f)(hl:fs.length<1000)(ry:Zu y u)
  (h:∀s',Inv X pins σ (upd H a (.ins C dx (YZ f y fs))) s'→Q () s'):wpAny (model X.prog X.w) A (setAttr (.ref a) f u) Q E s:=by
 obtain⟨mA,O,r,wi,_,ho⟩:=ZbY I.hok e;have hz:(fs.map (·.1)).length≤sizeLine:=by rw[List.length_map,sizeLine_eq];omega
 refine Zj8 I.kIn O c.sa c.po n.taker c.hd wi hz fun h' O' sb=>h _ ?_;have hd:∃o,h'.get? dx=some o:=let⟨o,_,_,e',_⟩:=O'.ns;⟨o,e'⟩
 refine I.write (x:=a) (e:=dx) (by rw[e];exact True.intro) (.inr ho) (fun b q hb z=>(sb.2 b hb).trans z) hd ?_;refine⟨by rw[Ze O.ne];exact ho,?_,O.ne,O'.obj,_,O'.ns,fun g=>?_,fun g hg=>?_⟩
 ·have:=Zb5 f y fs;omega
 ·show W1 ((YZ f y fs).lookup g) (if g=f then some u else mA g);rw[Zcd]
  by_cases q:g=f
  ·rw[if_pos q,if_pos q];exact ry
  ·rw[if_neg q,if_neg q];exact r g
 ·by_cases q:g=f
  ·rw[q];exact(Zbh f y fs).1
  ·refine(Zbh f y fs).2 g (wi g fun z=>hg ?_);show(if g=f then some u else mA g)=none;rw[if_neg q];exact z
theorem Inv.made(I:Inv X pins σ H s):Inv X pins σ (upd (upd H s.heap.objs.size (.own (s.heap.objs.size+1))) (s.heap.objs.size+1) (.ins C s.heap.objs.size []))
  {s with heap:=(s.heap.push PySem.W.emptyDict).push (PySem.W.instObj C s.heap.objs.size)}:=by
 have e1:(s.heap.push PySem.W.emptyDict).get? s.heap.objs.size=some PySem.W.emptyDict:=Heap.get?_push_size s.heap rfl;have e2:((s.heap.push PySem.W.emptyDict).push (PySem.W.instObj C s.heap.objs.size)).get? (s.heap.objs.size+1)=some (PySem.W.instObj C s.heap.objs.size):=by
  have:=Heap.get?_push_size (s.heap.push PySem.W.emptyDict) (o:=PySem.W.instObj C s.heap.objs.size) rfl
  rwa [Heap.size_push] at this
 have e3:(s.heap.push PySem.W.emptyDict).Ns s.heap.objs.size (fun _=>none):=⟨PySem.W.emptyDict,#[],_,e1,rfl,(fun e he=>absurd he (by simp)),fun _=>rfl⟩;have I1:=I.laid (a:=s.heap.objs.size) (o:= .own (s.heap.objs.size+1)) (h':=s.heap.push PySem.W.emptyDict) (t':=s.toks) (fun b u q=>Heap.get?_push_of_some _ q) (Nat.le_refl _) ⟨_,e1⟩;refine I1.laid (a:=s.heap.objs.size+1) (o:= .ins C s.heap.objs.size []) (t':=s.toks) (fun b u q=>Heap.get?_push_of_some _ q) (Nat.le_of_eq (Heap.size_push _ _)) ?_;have ne:s.heap.objs.size≠s.heap.objs.size+1:=Nat.ne_of_lt (Nat.lt_succ_self _);refine⟨by rw[Ze ne,Zf],Nat.zero_le _,ne,e2,fun _=>none,(Heap.Ns1.of_empty e3).at fun o q=>Heap.get?_push_of_some _ q,fun _=>True.intro,fun y hy=>absurd rfl hy⟩
theorem ZjX{prog:Program}{w:World}{env:Env}{e:Expr}{f:Str}{pos:Pos}{s:Shared}{Q:Value→Shared→Prop}(hb:attributeBase e f env (eval e env)=eval e env)
  (h:wpAny (model prog w) A (eval e env) (fun o s₁=>wpAny (model prog w) A (getAttr o f true) Q E s₁) E s):wpAny (model prog w) A (eval (.Attribute e f pos) env) Q E s:=
 Attribute_any_ h (by rw[arm_eval_Attribute,hb])
end
noncomputable def Zih (K:PySem.W.Frag) (ta:TE) (f:Str):TE:=fun σ H Q=>ta σ H fun x H1=>∃a C dx fs v,x= .ref a∧H1 a=some (.ins C dx fs)∧Cls K C∧Y6 K C f∧fs.lookup f=some v∧Q v H1
noncomputable def Ziq (K:PySem.W.Frag) (ta tv:TE) (f:Str):TS:=fun D σ H=>tv σ H fun y H1=>ta σ H1 fun x H2=>∃a C dx fs,x= .ref a∧H2 a=some (.ins C dx fs)∧Cls K C∧Y6 K C f∧fs.length<1000∧
 D.nx σ (upd H2 a (.ins C dx (YZ f y fs)))
section
variable {X:Cx}{o e value:Expr}{f:Str}{pos pos' tpos:Pos}{ta tv:TE}
theorem ZkQ(he:PE X e ta)(hb:attributeBase e f X.env (eval e X.env)=eval e X.env):PE X (.Attribute e f pos) (Zih X.K ta f):=by
 intro pins s σ H Q I h;refine ZjX hb (thn (he pins s σ H _ I h) fun u s1 ⟨x,H1,I1,rx,a,C,dx,fs,v,ex,ea,c,n,l,q⟩=>?_);subst ex;obtain rfl:u=Value.ref a:=rx;exact ZgK I1 ea c n l fun u' s2 I2 ru=>⟨v,H1,I2,ru,q⟩
theorem Zkr(ha:PE X o ta)(hv:PE X value tv)(hs:swapsWith value (some (.Attribute o f pos')) pos.line X.env=pure false):PS X (.Assign [.Attribute o f pos'] value pos) (Ziq X.K ta tv f):=by
 intro pins s σ H D I h;refine plainObj_wpAny_Assign_Attribute (thn (hv pins s σ H _ I h) fun u s1 ⟨y,H1,I1,ry,q⟩=>thn (ha pins s1 σ H1 _ I1 q) fun ov s2 ⟨x,H2,I2,rx,a,C,dx,fs,ex,ea,c,n,l,q2⟩=>?_) hs;subst ex;obtain rfl:ov=Value.ref a:=rx;exact Zgm I2 ea c n l ry fun s3 I3=>⟨σ,_,I3,q2⟩
theorem Zlk{pl:Sem Bool}{m:Str}{apos:Pos}{args:List Expr}{pins:List (Addr×Obj)}{s:Shared}{σ:St}{H:Hp}{Q:Value→Shared→Prop}{te:TE}(he:PE X e te)(I:Inv X pins σ H s)
  (h:te σ H fun x H1=>∃a C dx fs g,x= .ref a∧H1 a=some (.ins C dx fs)∧Cls X.K C∧WH X.K C m g∧fs.lookup m=none∧
   ∀s1,Inv X pins σ H1 s1→wpAny (model X.prog X.w) X.A (callWith pos (.ref g) [.ref a] (backTo pos (starEach args X.env)) (backToKw pos (keywordEach [] X.env))) Q X.xe s1)
  (ht:eval (.Call (.Attribute e m apos) args [] pos) X.env=(do
   let ov←eval e X.env
   standAt apos.atName
   let(f,first)←holding [ov] (getMethod ov m pl)
   callWith pos f first (backTo pos (starEach args X.env)) (backToKw pos (keywordEach [] X.env)))):
  wpAny (model X.prog X.w) X.A (eval (.Call (.Attribute e m apos) args [] pos) X.env) Q X.xe s:=by
 refine PySem.W.methodCall_KW (pl:=pl) (thn (he pins s σ H _ I h) fun u s1 ⟨x,H1,I1,rx,a,C,dx,fs,g,ex,ea,c,k,l,q⟩=>?_) ht;subst ex;obtain rfl:u=Value.ref a:=rx;exact ZaW I1 ea c k l (q s1 I1)
end
section
variable {X:Cx}{pins:List (Addr×Obj)}{σ:St}{H:Hp}{s:Shared}{A:Around}{E:Value→Shared→Prop}{Q:Value→Shared→Prop}{c:Value}{b:Bool}
inductive Wu(K:PySem.W.Frag)(H:Hp):V→Value→Prop where
 |non:Wu K H .non (.type "NoneType")
 |bl (x:Bool):Wu K H (.bl x) (.type "bool")
 |int (i:Int):Wu K H (.int i) (.type "int")
 |str (x:Str):Wu K H (.str x) (.type "str")
 |flt (x:UInt64):Wu K H (.flt x) (.type "float")
 |lst {a:Addr} {xs:List V} (e:H a=some (.lst xs)):Wu K H (.ref a) (.type "list")
 |frz {a:Addr} {o:Obj} {xs:List V} (e:H a=some (.frz o (.lst xs))):Wu K H (.ref a) (.type "list")
 |tup {a:Addr} {xs:List V} (e:H a=some (.tup xs)):Wu K H (.ref a) (.type "tuple")
 |dK {a:Addr} {kvs:List (Key×V)} (e:H a=some (.dK kvs)):Wu K H (.ref a) (.type "dict")
 |dT {a:Addr} {kvs:List (List Key×V)} (e:H a=some (.dT kvs)):Wu K H (.ref a) (.type "dict")
 |ins {a C dx:Addr} {fs:List (Str×V)} (e:H a=some (.ins C dx fs)) (cl:Cls K C) (ha:PySem.W.findIn K (.ref C) "__class__" =some (some (.builtin "object.__class__")))
   (hn:PySem.W.specialIn K (.builtin "object.__class__") "__get__" =some (some (.builtin "getset_descriptor.__get__"))) (htk:PySem.W.takesIn K (.builtin "object.__class__")=some true)
   (hm:PySem.W.mroIn K C (.type "object")=some true):Wu K H (.ref a) (.ref C)
theorem Zhd{x:V}{u t:Value}(I:Inv X pins σ H s)(rx:Zu x u)(ty:Wu X.K H x t)(e:PySem.W.kitOne X.K t c=some b)(h:∀tk,Q (.bool b) {s with toks:=tk}):
  wpAny (model X.prog X.w) A (call (.builtin "isinstance") [u,c]) Q E s:=by
 cases ty with
 |non=>cases (show u=Value.none from rx);exact PySem.W.kia_one PySem.W.kitx_none I.kIn True.intro e (fun z=>nomatch z) h
 |bl y=>cases (show u=Value.bool y from rx);exact PySem.W.kia_one PySem.W.kitx_bool I.kIn True.intro e (fun z=>nomatch z) h
 |int i=>obtain⟨t,q⟩:=(show ∃t,u=Value.int i t from rx);cases q;exact PySem.W.kia_one PySem.W.kitx_int I.kIn True.intro e (fun z=>nomatch z) h
 |str y=>obtain⟨t,q⟩:=(show ∃t,u=Value.str y t from rx);cases q;exact PySem.W.kia_one PySem.W.kitx_str I.kIn True.intro e (fun z=>nomatch z) h
 |flt y=>obtain⟨t,q⟩:=(show ∃t,u=Value.float y t from rx);cases q;exact PySem.W.kia_one PySem.W.kitx_float I.kIn True.intro e (fun z=>nomatch z) h
 | @lst a xs ea=>
  cases (show u=Value.ref a from rx);obtain⟨_,_,n,_,h1⟩:=(show ZU X.prog X.w H s.heap a (.lst xs) from I.hok a _ ea);exact PySem.W.kia_one PySem.W.kitx_list I.kIn ⟨_,h1,rfl⟩ e (fun z=>nomatch z) h
 | @frz a ob xs ea=>
  cases (show u=Value.ref a from rx);obtain⟨_,_,_,n,_,h1⟩:=(show ZU X.prog X.w H s.heap a (.frz ob (.lst xs)) from I.hok a _ ea);exact PySem.W.kia_one PySem.W.kitx_list I.kIn ⟨_,h1,rfl⟩ e (fun z=>nomatch z) h
 | @tup a xs ea=>
  cases (show u=Value.ref a from rx);obtain⟨_,_,_,p⟩:=(show ZU X.prog X.w H s.heap a (.tup xs) from I.hok a _ ea);obtain⟨o,h1,h2,_⟩:=p;exact PySem.W.kia_one PySem.W.kitx_tuple I.kIn ⟨o,h1,h2⟩ e (fun z=>nomatch z) h
 | @dK a kvs ea=>
  cases (show u=Value.ref a from rx);obtain⟨_,_,vs,_,p⟩:=(show ZU X.prog X.w H s.heap a (.dK kvs) from I.hok a _ ea);obtain⟨o,es,ep,h1,h2,_⟩:=p;exact PySem.W.kia_one PySem.W.kitx_dict I.kIn ⟨o,h1,h2.1⟩ e (fun z=>nomatch z) h
 | @dT a kvs ea=>
  cases (show u=Value.ref a from rx);obtain⟨_,_,xs,_,o,es,ep,h1,h2,_⟩:=(show ZU X.prog X.w H s.heap a (.dT kvs) from I.hok a _ ea);exact PySem.W.kia_one PySem.W.kitx_dict I.kIn ⟨o,h1,h2.1⟩ e (fun z=>nomatch z) h
 | @ins a C dx fs ea cl ha hn htk hm=>
  cases (show u=Value.ref a from rx);obtain⟨mA,O,_⟩:=ZbY I.hok ea;obtain⟨od,J,_⟩:=O.look;exact PySem.W.kia_one (PySem.W.kitx_own (cl.get _) cl.hd ha hn htk hm) I.kIn J e (fun z=>nomatch z) h
end
end L2
namespace L2
open PySem PySem.Spec PyProof.Rows
structure Yq(k:Nat)(A:Around):Prop where
 hd:A.handled=none
 dp:A.depth+3*k+5<recursionLimit
 un:A.units+16*k+200<cLine
theorem Yq.mono{j k:Nat}{A:Around}(r:Yq k A)(h:j≤k):Yq j A:=⟨r.hd,by have:=r.dp;omega,by have:=r.un;omega⟩
theorem Yq.deeper{k:Nat}{A:Around}(r:Yq (k+1) A)(env:Env):Yq k (A.deeper env):=
 ⟨r.hd,by have:=r.dp;show A.depth+1+3*k+5<_;omega,by have:=r.un;show A.units+3+16*k+200<_;omega⟩
theorem Zgl{A:Around}{C:Addr}{us:List Value}{kw:List (Str×Value)}:(A.under (.builtin "type.__call__" ⟨.ref C::us,kw⟩)).depth=A.depth+1:=by
 first|rfl|simp[Around.under,Code.weight,Code.isCreation,Code.isGuard,Code.isCaller,Code.frames,Code.isFrame,guardIds]
theorem Zgr{A:Around}{C:Addr}{us:List Value}{kw:List (Str×Value)}:(A.under (.builtin "type.__call__" ⟨.ref C::us,kw⟩)).units=A.units+1:=by
 first|rfl|simp[Around.under,Code.cUnits,Code.frames,Code.isFrame]
theorem Yq.make{k:Nat}{A:Around}(r:Yq (k+1) A)(C:Addr)(us:List Value)(kw:List (Str×Value)):Yq k (A.under (.builtin "type.__call__" ⟨.ref C::us,kw⟩)):=
 ⟨r.hd,by have:=r.dp;rw[Zgl];omega,by have:=r.un;rw[Zgr];omega⟩
theorem Yq.depth{k:Nat}{A:Around}(r:Yq k A):A.depth<recursionLimit:=by have:=r.dp;omega
theorem Yq.units{k:Nat}{A:Around}(r:Yq k A):A.units+64<cLine:=by have:=r.un;omega
noncomputable def tNil:TA:=fun _ H Q=>Q [] H
noncomputable def Zjx (ta:TE) (tr:TA):TA:=fun σ H Q=>ta σ H fun x H1=>tr σ H1 fun xs H2=>Q (x::xs) H2
section
variable {X:Cx}{e:Expr}{es:List Expr}{te:TE}{t:TA}{pos:Pos}
theorem Zb:PA X [] tNil:=fun _ _ _ _ H Q I h=>Calls.spliced_nil ⟨[],H,I,.nil,h⟩
theorem Za(ha:PE X e te)(hr:PA X es t)(hs:starEach (e::es) X.env=(false,eval e X.env)::starEach es X.env:=by rfl):PA X (e::es) (Zjx te t):=by
 intro pos pins s σ H Q I h;rw[hs];show wpAny _ _ (spliced ((false,eval e X.env)::backTo pos (starEach es X.env))) _ _ s;refine Calls.spliced_cons (thn (ha pins s σ H _ I h) fun u s1 ⟨x,H1,I1,r1,q1⟩=>?_);exact thn (hr pos pins s1 σ H1 _ I1 q1) fun us s2 ⟨xs,H2,I2,r2,q2⟩=>⟨x::xs,H2,I2,.cons r1 r2,q2⟩
noncomputable def Zks (t:TA):TE:=fun σ H Q=>t σ H fun xs H1=>xs.length≤sizeLine∧∀p,H1 p=none→Q (.ref p) (upd H1 p (.tup xs))
noncomputable def Zip (t:TA):TE:=fun σ H Q=>t σ H fun xs H1=>xs.length≤sizeLine∧∀p,H1 p=none→Q (.ref p) (upd H1 p (.lst xs))
theorem YJ{x1}(h:PA X es t):PE X (.Tuple es x1 pos) (Zks t):=by
 intro pins s σ H Q I hq;refine wpAny_Tuple_spliced (thn (h pos pins s σ H _ I hq) fun us s1 ⟨xs,H1,I1,r,z,q⟩=>⟨by rw[←r.length];exact z,?_⟩);have hf:H1 s1.heap.objs.size=none:=I1.hok.fresh (Nat.le_refl _);refine⟨.ref s1.heap.objs.size,upd H1 s1.heap.objs.size (.tup xs),I1.laid (t':=s1.toks) (fun b u e=>Heap.get?_push_of_some _ e) (Nat.le_refl _) ?_,rfl,q _ hf⟩;exact⟨z,us,r,⟨_,Heap.get?_push_size _ rfl,rfl,_,rfl⟩⟩
theorem WU(h:PA X es t):PE X (.List es pos) (Zip t):=by
 intro pins s σ H Q I hq;refine wpAny_List_spliced (thn (h pos pins s σ H _ I hq) fun us s1 ⟨xs,H1,I1,r,z,q⟩=>⟨by rw[←r.length];exact z,?_⟩);have hf:H1 s1.heap.objs.size=none:=I1.hok.fresh (Nat.le_refl _);refine⟨.ref s1.heap.objs.size,upd H1 s1.heap.objs.size (.lst xs),I1.laid (t':=s1.toks) (fun b u e=>Heap.get?_push_of_some _ e) (Nat.le_refl _) ?_,rfl,q _ hf⟩;exact⟨z,us,0,r,Heap.get?_push_size _ rfl⟩
end
noncomputable abbrev Sp:=List V→Hp→VK→XK→Prop
noncomputable abbrev CXT:=List Env→Hp→Shared→XK→Value→Shared→Prop
structure ZcC(P:Program)(w:World)(K:PySem.W.Frag)(mg:Str→Option Value)(base:Heap)(A:Around)(outer:List Env)(s:Shared)(H:Hp):Prop where
 frames:A.frames=some outer
 mod:Mod K mg base
 bs:∀b o,base.get? b=some o→s.heap.get? b=some o∧H b=none
 bsz:base.objs.size≤s.heap.objs.size
 funs:s.heap.FunFrames base outer
 frf:∀b∈frs outer,H b=none
 hok:HOk P w H s.heap
 bare:AllBare s.gens
def CE(outer:List Env)(P:Program)(w:World)(H:Hp)(s:Shared)(Q:VK)(u:Value)(s':Shared):Prop:=
 ∃v H',s'.os=s.os∧AllBare s'.gens∧Un (frs outer) [] H H' s.heap s'.heap∧HOk P w H' s'.heap∧Zu v u∧Q v H'
def CR(CX:CXT)(outer:List Env)(P:Program)(w:World)(H:Hp)(s:Shared)(Q:VK)(E:XK)(r:Result)(s':Shared):Prop:=
 match r with
 | .ok (.ret u)=>CE outer P w H s Q u s'
 | .ok _=>False
 | .error e=>CX outer H s E e s'
structure Zk(P:Program)(w:World)(K:PySem.W.Frag)(mg:Str→Option Value)(base:Heap)(CX:CXT)(k:Nat)(f:Addr)(fd:FuncData)(ps:List Str)(sp:Sp):Prop where
 len:∀vs H Q E,sp vs H Q E→vs.length=ps.length
 run:∀(A:Around)(outer:List Env)(s:Shared)(H:Hp)(args:Args)(us:List Value)(vs:List V)(Q:VK)(E:XK),Yq k A→ZcC P w K mg base A outer s H→BindsTo s fd args (ps.zip us)→Zq vs us→sp vs H Q E→
  codeAny (model P w) A (.call (.ref f) args) (CR CX outer P w H s Q E) s
theorem Zk.mono{P:Program}{w:World}{K:PySem.W.Frag}{mg:Str→Option Value}{base:Heap}{CX:CXT}{j k:Nat}{f:Addr}{fd:FuncData}{ps:List Str}{sp:Sp}(F:Zk P w K mg base CX j f fd ps sp)(h:j≤k):
  Zk P w K mg base CX k f fd ps sp:=⟨F.len,fun A outer s H args us vs Q E hr=>F.run A outer s H args us vs Q E (hr.mono h)⟩
theorem ZcC.make{P:Program}{w:World}{K:PySem.W.Frag}{mg:Str→Option Value}{base:Heap}{A:Around}{outer:List Env}{s:Shared}{H:Hp}(e:ZcC P w K mg base A outer s H)(C:Addr)(us:List Value)(kw:List (Str×Value)):
  ZcC P w K mg base (A.under (.builtin "type.__call__" ⟨.ref C::us,kw⟩)) outer s H:=⟨by first|exact e.frames|(simpa[Around.under,Code.envs,Code.isFrame,pushEnvs] using e.frames),e.mod,e.bs,e.bsz,e.funs,e.frf,e.hok,e.bare⟩
section
variable {X:Cx}{pins:List (Addr×Obj)}{σ:St}{H:Hp}{s s':Shared}
theorem Inv.env0(I:Inv X pins σ H s):ZcC X.prog X.w X.K X.mg X.base X.A X.stack s H:=
 ⟨I.ok.frames,I.ok.mod,I.bs,Nat.le_trans I.ok.bsz I.sz,I.stack,I.stkFree,I.hok,I.bare⟩
theorem Inv.after{Q:VK}{u:Value}(I:Inv X pins σ H s)(h:CE X.stack X.prog X.w H s Q u s'):EP X pins σ Q u s':=by
 obtain⟨v,H',os,bare,un,hok,r,q⟩:=h;obtain⟨hh,g,d,t,os'⟩:=s';obtain rfl:os'=s.os:=os;exact⟨v,H',I.call (h':=hh) (g':=g) (d':=d) (t':=t) (ch:=[]) un hok bare (fun b z=>absurd z (by simp)),r,q⟩
end
noncomputable def Zjo (sp:Sp) (dvs:List V) (E:XK) (t:TA):TE:=fun σ H Q=>t σ H fun vs H1=>sp (vs++dvs) H1 Q E
noncomputable def ZgJ (C:Addr) (m:Str) (sp:Sp) (dvs:List V) (E:XK) (ta:TE) (t:TA):TE:=fun σ H Q=>ta σ H fun x H1=>∃a dx fs,x= .ref a∧H1 a=some (.ins C dx fs)∧fs.lookup m=none∧
 t σ H1 fun vs H2=>sp (x::(vs++dvs)) H2 Q E
noncomputable def Zg5 (C:Addr) (sp:Sp) (dvs:List V) (E:XK) (t:TA):TE:=fun σ H Q=>t σ H fun vs H1=>∀x dx,H1 x=none→H1 dx=none→dx≠x→
 sp (.ref x::(vs++dvs)) (upd (upd H1 dx (.own x)) x (.ins C dx [])) (fun v H2=>v= .non∧Q (.ref x) H2) E
def Zz(K:PySem.W.Frag)(fd:FuncData)(ps:List Str)(ds:List Value):Prop:=
 ∀(s:Shared)(us:List Value),K.In s.heap→(us++ds).length=ps.length→BindsTo s fd ⟨us,[]⟩ (ps.zip (us++ds))
theorem Zz.all{K:PySem.W.Frag}{fd:FuncData}{ps:List Str}(h:∀us:List Value,us.length=ps.length→bindArgs fd ⟨us,[]⟩=pure (ps.zip us)):Zz K fd ps []:=fun s us _ hl=>by
 rw[List.append_nil] at hl⊢;exact .of_eq (h us hl)
def VJ(CX:CXT)(X:Cx)(E:XK):Prop:=∀(pins:List (Addr×Obj))(σ:St)(H:Hp)(s:Shared)(e:Value)(s':Shared),Inv X pins σ H s→CX X.stack H s E e s'→X.xe e s'
section
variable {X:Cx}{CX:CXT}{k:Nat}{f C:Addr}{fd:FuncData}{ps:List Str}{sp:Sp}{dvs:List V}{ds:List Value}{E:XK}{x m:Str}{p pos apos:Pos}{e o:Expr}{es:List Expr}{ta:TE}{t:TA}
theorem Zeo{pins:List (Addr×Obj)}{σ:St}{H:Hp}{s:Shared}{Q:VK}{us:List Value}{vs:List V}(F:Zk X.prog X.w X.K X.mg X.base CX k f fd ps sp)(hr:Yq k X.A)(hb:Zz X.K fd ps ds)(hd:Zq dvs ds)(hx:VJ CX X E)
  (I:Inv X pins σ H s) (r:Zq vs us) (h:sp (vs++dvs) H Q E):wpAny (model X.prog X.w) X.A (call (.ref f) us) (EP X pins σ Q) X.xe s:=by
 have r2:Zq (vs++dvs) (us++ds):=r.append hd;have hl:(us++ds).length=ps.length:=by rw[←r2.length];exact F.len _ _ _ _ h
 refine wpAny_call (codeAny_mono (F.run X.A X.stack s H ⟨us,[]⟩ (us++ds) (vs++dvs) Q E hr I.env0 (hb s us I.kIn hl) r2 h) fun r s' hq=>?_);cases r with
 |error e=>exact hx pins σ H s e s' I hq
 |ok fl=>
  cases fl with
  |ret u=>exact I.after hq
  |next=>exact False.elim hq
  |brk=>exact False.elim hq
  |cont=>exact False.elim hq
theorem Zw(F:Zk X.prog X.w X.K X.mg X.base CX k f fd ps sp)(hr:Yq k X.A)(hg:Gl X x)(hm:X.mg x=some (.ref f))(hk:PySem.W.keepIn X.K (.ref f)=true)(hb:Zz X.K fd ps ds)(hd:Zq dvs ds)(hx:VJ CX X E)
  (ha:PA X (e::es) t) (hdb:(x==("__debug__" :Str))=false:=by decide) (he:starEach (e::es) X.env=(false,eval e X.env)::starEach es X.env:=by rfl) (hpl:(backTo pos (starEach es X.env)).any (·.1)=false:=by rfl):
  PE X (.Call (.Name x p) (e::es) [] pos) (Zjo sp dvs E t):=by
 intro pins s σ H Q I h;refine wpAny_Call_Name_kw (V1 I hg hm ?_ hdb);refine PySem.W.callWith_K (h₀:=X.base) I.ok.mod.kin hk (thn (ha pos pins s σ H _ I h) fun us s1 ⟨vs,H1,I1,r,q⟩=>⟨I1.kIn,?_⟩) he hpl;exact Zeo F hr hb hd hx I1 r q
theorem ZY{pl:Sem Bool}(he:PE X o ta)(c:Cls X.K C)(hm:WH X.K C m f)(F:Zk X.prog X.w X.K X.mg X.base CX k f fd ps sp)(hr:Yq k X.A)(hb:Zz X.K fd ps ds)(hd:Zq dvs ds)(hx:VJ CX X E)(ha:PA X (e::es) t)
  (hst:starEach (e::es) X.env=(false,eval e X.env)::starEach es X.env:=by rfl) (hpl:(backTo pos (starEach es X.env)).any (·.1)=false:=by rfl)
  (ht:eval (.Call (.Attribute o m apos) (e::es) [] pos) X.env=(do
   let ov←eval o X.env
   standAt apos.atName
   let(f,first)←holding [ov] (getMethod ov m pl)
   callWith pos f first (backTo pos (starEach (e::es) X.env)) (backToKw pos (keywordEach [] X.env))):=by rfl):
  PE X (.Call (.Attribute o m apos) (e::es) [] pos) (ZgJ C m sp dvs E ta t):=by
 intro pins s σ H Q I h;refine PySem.W.methodCall_KW (pl:=pl) (thn (he pins s σ H _ I h) fun u s1 ⟨x,H1,I1,rx,a,dx,fs,ex,ea,l,q⟩=>?_) ht;subst ex;obtain rfl:u=Value.ref a:=rx;refine ZaW I1 ea c hm l ?_;refine PySem.W.callWith_K (first:=[.ref a]) (h₀:=X.base) I.ok.mod.kin hm.kp (thn (ha pos pins s1 σ H1 _ I1 q) fun us s2 ⟨vs,H2,I2,r,q2⟩=>⟨I2.kIn,?_⟩) hst hpl;exact Zeo (us:= .ref a::us) (vs:= .ref a::vs) F hr hb hd hx I2 (.cons rfl r) q2
theorem Vn{pl:Sem Bool}(he:PE X o ta)(c:Cls X.K C)(hm:WH X.K C m f)(F:Zk X.prog X.w X.K X.mg X.base CX k f fd ps sp)(hr:Yq k X.A)(hb:Zz X.K fd ps ds)(hd:Zq dvs ds)(hx:VJ CX X E)
  (ht:eval (.Call (.Attribute o m apos) [] [] pos) X.env=(do
   let ov←eval o X.env
   standAt apos.atName
   let(f,first)←holding [ov] (getMethod ov m pl)
   callWith pos f first (backTo pos (starEach [] X.env)) (backToKw pos (keywordEach [] X.env))):=by rfl):
  PE X (.Call (.Attribute o m apos) [] [] pos) (ZgJ C m sp dvs E ta tNil):=by
 intro pins s σ H Q I h;refine PySem.W.methodCall_KW (pl:=pl) (thn (he pins s σ H _ I h) fun u s1 ⟨x,H1,I1,rx,a,dx,fs,ex,ea,l,q⟩=>?_) ht;subst ex;obtain rfl:u=Value.ref a:=rx;refine ZaW I1 ea c hm l ?_;exact PySem.W.callWith_K0 (first:=[.ref a]) I1.kIn hm.kp (Zeo (us:=[.ref a]) (vs:=[.ref a]) F hr hb hd hx I1 (.cons rfl .nil) q)
structure Mk(K:PySem.W.Frag)(C f:Addr):Prop where
 makes:PySem.W.makesIn K C=true
 init:PySem.W.findIn K (.ref C) "__init__" =some (some (.ref f))
 fn:PySem.W.isFn K (.ref f)=true
 kp:PySem.W.keepIn K (.ref C)=true
theorem ZeO{pins:List (Addr×Obj)}{σ:St}{H:Hp}{s:Shared}{Q:VK}{us:List Value}{vs:List V}(M:Mk X.K C f)(F:Zk X.prog X.w X.K X.mg X.base CX k f fd ps sp)(hr:Yq (k+1) X.A)(hb:Zz X.K fd ps ds)(hd:Zq dvs ds)
  (hx:VJ CX X E) (I:Inv X pins σ H s) (r:Zq vs us)
  (h:∀x dx,H x=none→H dx=none→dx≠x→sp (.ref x::(vs++dvs)) (upd (upd H dx (.own x)) x (.ins C dx [])) (fun v H2=>v= .non∧Q (.ref x) H2) E):
  wpAny (model X.prog X.w) X.A (call (.ref C) us) (EP X pins σ Q) X.xe s:=by
 have hq:=h (s.heap.objs.size+1) s.heap.objs.size (I.hok.fresh (Nat.le_succ _)) (I.hok.fresh (Nat.le_refl _)) (Nat.ne_of_lt (Nat.lt_succ_self _));have I2:=Inv.made (C:=C) I;have r2:Zq (V.ref (s.heap.objs.size+1)::(vs++dvs)) (Value.ref (s.heap.objs.size+1)::(us++ds)):= .cons rfl (r.append hd);have hl:(Value.ref (s.heap.objs.size+1)::us++ds).length=ps.length:=by
  have e:=r2.length;rw[F.len _ _ _ _ hq] at e;exact e.symm
 refine wpAny_call (Zi3 (f:=f) I.kIn M.makes M.init (beq_iff_eq.mp M.fn) (codeAny_mono (F.run _ X.stack _ _ ⟨Value.ref (s.heap.objs.size+1)::us,[]⟩ (Value.ref (s.heap.objs.size+1)::(us++ds)) _ _ E (hr.make C us [])
  (I2.env0.make C us []) (hb _ (Value.ref (s.heap.objs.size+1)::us) I2.kIn hl) r2 hq) fun r s' hq'=>?_))
 cases r with
 |error e=>exact hx pins σ _ _ e s' I2 hq'
 |ok fl=>
  cases fl with
  |ret u=>
   obtain⟨v,H',I3,rv,ev,q3⟩:=I2.after hq';subst ev;exact⟨rv,⟨V.ref (s.heap.objs.size+1),H',I3,rfl,q3⟩⟩
  |next=>exact False.elim hq'
  |brk=>exact False.elim hq'
  |cont=>exact False.elim hq'
theorem ZjG(M:Mk X.K C f)(F:Zk X.prog X.w X.K X.mg X.base CX k f fd ps sp)(hr:Yq (k+1) X.A)(hg:Gl X x)(hm:X.mg x=some (.ref C))(hb:Zz X.K fd ps ds)(hd:Zq dvs ds)(hx:VJ CX X E)
  (ha:PA X (e::es) t) (hdb:(x==("__debug__" :Str))=false:=by decide) (he:starEach (e::es) X.env=(false,eval e X.env)::starEach es X.env:=by rfl) (hpl:(backTo pos (starEach es X.env)).any (·.1)=false:=by rfl):
  PE X (.Call (.Name x p) (e::es) [] pos) (Zg5 C sp dvs E t):=by
 intro pins s σ H Q I h;refine wpAny_Call_Name_kw (V1 I hg hm ?_ hdb);refine PySem.W.callWith_K (h₀:=X.base) I.ok.mod.kin M.kp (thn (ha pos pins s σ H _ I h) fun us s1 ⟨vs,H1,I1,r,q⟩=>⟨I1.kIn,?_⟩) he hpl;exact ZeO M F hr hb hd hx I1 r q
theorem ZiT(M:Mk X.K C f)(F:Zk X.prog X.w X.K X.mg X.base CX k f fd ps sp)(hr:Yq (k+1) X.A)(hg:Gl X x)(hm:X.mg x=some (.ref C))(hb:Zz X.K fd ps ds)(hd:Zq dvs ds)(hx:VJ CX X E)
  (hdb:(x==("__debug__" :Str))=false:=by decide):PE X (.Call (.Name x p) [] [] pos) (Zg5 C sp dvs E tNil):=by
 intro pins s σ H Q I h;refine wpAny_Call_Name_kw (V1 I hg hm ?_ hdb);exact PySem.W.callWith_K0 I.kIn M.kp (ZeO (us:=[]) M F hr hb hd hx I .nil h)
end
section
variable {X:Cx}{CX:CXT}{k:Nat}{f C:Addr}{fd:FuncData}{ps ks:List Str}{sp:Sp}{E:XK}{x m:Str}{p pos apos kpos:Pos}{e o:Expr}{es:List Expr}{kws:List Keyword}{te ta:TE}{t tk:TA}{nm:Option Str}
variable {g:List Value→List Value→List Value}{gV:List V→List V→List V}
end
structure Zr(N P:List Str)(sc:Scope):Prop where
 kind:sc.kind= .function
 co:sc.isCoroutine=false
 gen:sc.isGenerator=false
 nd:N.Nodup
 pre:N.take P.length=P
 par:∀x∈P,sc.names.lookup x=some .local∨sc.names.lookup x=some .cell
 nofree:∀y∈sc.names,y.2≠ .free
theorem ZdR{kindOf:Str→Option NameKind}{x:Str}:∀{binds:List (Str×Value)}{m:Str→Option Value},(∀v,(x,v)∉binds)→bindL kindOf binds m x=m x
 | [],_,_=>rfl
 |(n,v)::r,m,h=>by
  unfold bindL;rw[ZdR fun w hw=>h w (List.mem_cons_of_mem _ hw)]
  split
  ·have:x≠n:=by rintro rfl;exact h v List.mem_cons_self
   simp[this]
  ·rfl
theorem ZdV{kindOf:Str→Option NameKind}{x:Str}:∀{binds:List (Str×Value)}{m:Str→Option Value},(∀v,(x,v)∉binds)→bindC kindOf binds m x=m x
 | [],_,_=>rfl
 |(n,v)::r,m,h=>by
  unfold bindC;rw[ZdV fun w hw=>h w (List.mem_cons_of_mem _ hw)]
  split
  ·rfl
  ·have:x≠n:=by rintro rfl;exact h v List.mem_cons_self
   simp[this]
theorem ZdT{kindOf:Str→Option NameKind}{x:Str}{v:Value}:∀{P:List Str}{vs:List Value}{i:Nat}{m:Str→Option Value},P.Nodup→P[i]? =some x→vs[i]? =some v→kindOf x=some .local→
  bindL kindOf (P.zip vs) m x=some v
 | [],_,_,_,_,h,_,_=>by simp at h
 |_::_,[],_,_,_,_,h,_=>by simp at h
 |p::P,w::vs,0,m,nd,h1,h2,hk=>by
  simp at h1 h2;subst h1;subst h2;show bindL kindOf ((p,w)::P.zip vs) m p=_;unfold bindL;rw[ZdR fun v hv=>(List.nodup_cons.mp nd).1 (List.of_mem_zip hv).1,if_pos hk];simp
 |p::P,w::vs,i+1,m,nd,h1,h2,hk=>by
  show bindL kindOf ((p,w)::P.zip vs) m x=_;unfold bindL;exact ZdT (i:=i) (List.nodup_cons.mp nd).2 (by simpa using h1) (by simpa using h2) hk
theorem ZdJ{kindOf:Str→Option NameKind}{x:Str}{v:Value}:∀{P:List Str}{vs:List Value}{i:Nat}{m:Str→Option Value},P.Nodup→P[i]? =some x→vs[i]? =some v→kindOf x≠some .local→
  bindC kindOf (P.zip vs) m x=some v
 | [],_,_,_,_,h,_,_=>by simp at h
 |_::_,[],_,_,_,_,h,_=>by simp at h
 |p::P,w::vs,0,m,nd,h1,h2,hk=>by
  simp at h1 h2;subst h1;subst h2;show bindC kindOf ((p,w)::P.zip vs) m p=_;unfold bindC;rw[ZdV fun v hv=>(List.nodup_cons.mp nd).1 (List.of_mem_zip hv).1,if_neg hk];simp
 |p::P,w::vs,i+1,m,nd,h1,h2,hk=>by
  show bindC kindOf ((p,w)::P.zip vs) m x=_;unfold bindC;exact ZdJ (i:=i) (List.nodup_cons.mp nd).2 (by simpa using h1) (by simpa using h2) hk
noncomputable def start (N:List Str) (vs:List V):St:=vs.map some++List.replicate (N.length-vs.length) none
noncomputable def ZP (CX:CXT) (P:Program) (w:World) (K:PySem.W.Frag) (mg:Str→Option Value) (base:Heap) (N:List Str) (qual:Str) (scope:Scope) (f:Addr) (cd:Value) (A:Around) (outer:List Env) (s:Shared) (H:Hp) (E:XK):Cx where
 prog:=P
 w:=w
 K:=K
 mg:=mg
 base:=base
 A:=A.deeper (envOfC qual scope s.heap.objs.size f cd)
 N:=N
 s₀:=s
 H₀:=H
 env:=envOfC qual scope s.heap.objs.size f cd
 outer:=outer
 stack:=envOfC qual scope s.heap.objs.size f cd::outer
 ex:=[]
 calm:=true
 fn:=fun _=>true
 pn:=[]
 xe:=fun e s'=>wpAny (model P w) (A.deeper (envOfC qual scope s.heap.objs.size f cd)) (leaving (envOfC qual scope s.heap.objs.size f cd) e) (fun _ s''=>CX outer H s E e s'') (fun e' s''=>CX outer H s E e' s'') s'
theorem ZeG{sc:Scope}{n:Nat}{x:Str}(h:sc.names.lookup x=some .cell):∃c,(cellsFrom n sc.names []).lookup x=some c:=by
 have q:=PySem.W.cellsFrom_some sc.names n [] (.inl h);exact Option.isSome_iff_exists.mp q
theorem ZhX{CX:CXT}{P:Program}{w:World}{K:PySem.W.Frag}{mg:Str→Option Value}{base:Heap}{N ps:List Str}{qual:Str}{scope:Scope}{f:Addr}{cd:Value}{A:Around}{outer:List Env}{s s1:Shared}{H:Hp}{E:XK}{us:List Value}{vs:List V}
  (S:Zr N ps scope) (hd:A.handled=none) (e0:ZcC P w K mg base A outer s H) (hl:vs.length=ps.length) (r:Zq vs us)
  (x:InCallC s s.heap.objs.size (bindL (envOfC qual scope s.heap.objs.size f cd).kindOf (ps.zip us) fun _=>none) (cellsFrom (s.heap.objs.size+1) scope.names []) (bindC (envOfC qual scope s.heap.objs.size f cd).kindOf (ps.zip us) fun _=>none) s1):
  Inv (ZP CX P w K mg base N qual scope f cd A outer s H E) [] (start N vs) H s1:=by
 have hpl:ps.length≤N.length:=by have:=congrArg List.length S.pre;rw[List.length_take] at this;omega
 obtain⟨h1,tk,rfl,hk⟩:=x.done;have noA:∀b:Addr,b∉(ZP CX P w K mg base N qual scope f cd A outer s H E).ex:=fun b z=>absurd (show b∈([]:List Addr) from z) (by simp);refine⟨⟨e0.mod,S.kind,rfl,rfl,Nat.le_refl _,fun y z c h1 h2=>?_,fun y hy=>?_,fun y c _ h=>?_,fun _=>hd,Around.frames_deeper e0.frames,.inr ⟨rfl,rfl⟩,fun b z=>absurd z (noA b),e0.bs,e0.bsz,fun b _ _=>noA b,fun b z=>absurd z (noA b),e0.funs,e0.frf⟩,
  rfl,e0.bare,Un.kept hk,⟨_,x.toInCall.ns,fun i y v h1 h2 h3=>?_⟩,fun y c h=>⟨_,x.cell y c h⟩,e0.hok.fresh (Nat.le_refl _),fun y c h=>?_,fun p hp=>absurd (show p∈([]:List (Addr×Obj)) from hp) (by simp),e0.hok.kept hk,?_⟩
 ·exact name_of_addr x.apart (PySem.mem_of_lookup h1) (PySem.mem_of_lookup h2)
 ·have hy:scope.names.lookup y=some .cell∨scope.names.lookup y=some .free:=hy;rcases hy with hy|hy
  ·exact ZeG hy
  ·exact absurd rfl (S.nofree _ (PySem.mem_of_lookup hy))
 ·exact Nat.le_of_lt (x.above y c (PySem.mem_of_lookup h))
 ·have hi:i<vs.length:=by
   unfold start at h2
   by_cases hi:i<vs.length
   ·exact hi
   ·rw[List.getElem?_append_right (by simpa using hi)] at h2;rw[List.getElem?_replicate] at h2
    split at h2<;>cases h2
  have ha:vs[i]? =some v:=by
   unfold start at h2;rw[List.getElem?_append_left (by simpa using hi),List.getElem?_map] at h2;cases e:vs[i]? with
   |none=>rw[e] at h2;cases h2
   |some a=>rw[e] at h2;cases h2;rfl
  obtain⟨u,hu,rv⟩:=r.get ha;have hp:ps[i]? =some y:=by
   rw[←S.pre,List.getElem?_take_of_lt (by omega)];exact h1
  have ndP:ps.Nodup:=by rw[←S.pre];exact S.nd.sublist (List.take_sublist _ _)
  refine⟨u,rv,?_⟩;rcases S.par y (List.mem_of_getElem? hp) with k|k
  ·exact .inl ⟨k,ZdT ndP hp hu k⟩
  ·obtain⟨c,e⟩:=ZeG (n:=s.heap.objs.size+1) k;refine .inr ⟨.inl k,c,e,?_⟩;have q:=x.cell y c e;rw[ZdJ ndP hp hu (by show scope.names.lookup y≠_;rw[k];decide)] at q;exact q
 ·exact e0.hok.fresh (Nat.le_of_lt (x.above y c (PySem.mem_of_lookup h)))
 ·unfold start;show _=N.length;rw[List.length_append,List.length_map,List.length_replicate];omega
theorem Zjq{CX:CXT}{P:Program}{w:World}{K:PySem.W.Frag}{mg:Str→Option Value}{base:Heap}{k:Nat}{f:Addr}{name qual:Str}{params:Arguments}{body:List Stmt}{scope:Scope}{dV kV doc pm cdv ct oc:Value}{an od:Option Addr}
  {osl:Array (Option Value)} {N ps:List Str} {sp:Sp} (lk:K.lookup f=some ⟨oc,od,.func (PySem.W.fnOf name qual params body scope dV kV doc pm an cdv ct),osl⟩) (hcd:PySem.W.codeIn K cdv qual=true) (S:Zr N ps scope)
  (len:∀vs H Q E,sp vs H Q E→vs.length=ps.length)
  (hbody:∀(A:Around)(outer:List Env)(s:Shared)(H:Hp)(vs:List V)(Q:VK)(E:XK),Yq k (A.deeper (envOfC qual scope s.heap.objs.size f cdv))→sp vs H Q E→
   ∃t,PSs (ZP CX P w K mg base N qual scope f cdv A outer s H E) body t∧t {nx:=fun _ H'=>Q .non H',rt:=Q} (start N vs) H):
  Zk P w K mg base CX (k+1) f (PySem.W.fnOf name qual params body scope dV kV doc pm an cdv ct) ps sp:=by
 refine⟨len,fun A outer s H args us vs Q E hr e0 hb r hsp=>?_⟩;have hl:=len _ _ _ _ hsp;have KX:K.In s.heap:=e0.mod.kin.keeps fun b o e=>(e0.bs b o e).1;have lim:s.heap.NoLimit:=e0.mod.nolimit.keeps fun b o e=>(e0.bs b o e).1;have hkind:∀y∈ps.zip us,scope.names.lookup y.1=some .local∨(scope.names.lookup y.1=some .cell∧((cellsFrom (s.heap.objs.size+1) scope.names []).lookup y.1).isSome=true):=fun⟨n,v⟩ hy=>by
  rcases S.par n (List.of_mem_zip hy).1 with q|q
  ·exact .inl q
  ·exact .inr ⟨q,PySem.W.cellsFrom_some _ _ _ (.inl q)⟩
 refine codeAny_call_function hr.depth (KX _ _ lk) rfl S.co S.gen rfl (PySem.W.codeRec_of KX hcd) (hb _ _ _ _ ?_);refine wpAny_newFunctionEnv_cells S.kind hkind fun env he s1 x=>?_;subst he;refine⟨lim.keeps x.toInCall.keep,codeAny_func ?_⟩;obtain⟨t,ht,hq⟩:=hbody A outer s H vs Q E (hr.deeper _) hsp;have I:Inv (ZP CX P w K mg base N qual scope f cdv A outer s H E) [] (start N vs) H s1:=ZhX S hr.hd e0 hl r x;refine wpAny_mono (ht [] s1 (start N vs) H _ I hq) (fun fl s' hs=>?_) fun e s' hs=>hs;have fin:∀{σ':St}{H':Hp}{v:V}{u:Value},Inv (ZP CX P w K mg base N qual scope f cdv A outer s H E) [] σ' H' s'→Zu v u→Q v H'→CE outer P w H s Q u s':=
  fun{σ' H' v u} J rv q=>⟨v,H',J.os,J.bare,J.base,J.hok,rv,q⟩
 cases fl with
 |ret u=>
  obtain⟨v,σ',H',J,rv,q⟩:=hs;exact fin J rv q
 |next=>
  obtain⟨σ',H',J,q⟩:=hs;exact fin (v:=V.non) (u:=Value.none) J rfl q
 |brk=>
  obtain⟨_,_,_,q⟩:=hs;exact False.elim q
 |cont=>
  obtain⟨_,_,_,q⟩:=hs;exact False.elim q
end L2
namespace L2
open PySem PySem.Spec PyProof.Rows
section
variable {X:Cx}{x:Str}{p pos:Pos}{e:Expr}{es:List Expr}{t:TA}{id T:String}{r:List V→Hp→VK→Prop}
noncomputable def tCB (r:List V→Hp→VK→Prop) (t:TA):TE:=fun σ H Q=>t σ H fun vs H1=>r vs H1 Q
theorem ZB(hc:YO X (.builtin id) r)(hg:Gl X x)(hm:X.mg x=none)(hv:bootBuiltins x=some (.builtin id))(ha:PA X (e::es) t)(hn:x≠"__name__" :=by decide)(hdb:(x==("__debug__" :Str))=false:=by decide)
  (he:starEach (e::es) X.env=(false,eval e X.env)::starEach es X.env:=by rfl) (hpl:(backTo pos (starEach es X.env)).any (·.1)=false:=by rfl):PE X (.Call (.Name x p) (e::es) [] pos) (tCB r t):=by
 intro pins s σ H Q I h;refine wpAny_Call_Name_kw (Uv I hg hm hv ?_ hn hdb);exact PyProof.Rows.callWith_builtin1 (thn (ha pos pins s σ H _ I h) fun us s1 ⟨vs,H1,I1,r1,q1⟩=>hc pins s1 σ H1 vs us Q I1 r1 q1) he hpl
theorem Ul(hc:YO X (.type T) r)(hg:Gl X x)(hm:X.mg x=none)(hv:bootBuiltins x=some (.type T))(ha:PA X (e::es) t)(hn:x≠"__name__" :=by decide)(hdb:(x==("__debug__" :Str))=false:=by decide)
  (he:starEach (e::es) X.env=(false,eval e X.env)::starEach es X.env:=by rfl) (hpl:(backTo pos (starEach es X.env)).any (·.1)=false:=by rfl):PE X (.Call (.Name x p) (e::es) [] pos) (tCB r t):=by
 intro pins s σ H Q I h;refine wpAny_Call_Name_kw (Uv I hg hm hv ?_ hn hdb);exact PyProof.Rows.callWith_type1 (thn (ha pos pins s σ H _ I h) fun us s1 ⟨vs,H1,I1,r1,q1⟩=>hc pins s1 σ H1 vs us Q I1 r1 q1) he hpl
end
end L2
namespace HT
open PySem PyProof.Rows
section
open PySem.SeqAt
open PySem.AutoSeq1 (wpAny_loadPart')
open PySem.MeetsSeq PySem.MeetsSeq2 PySem.MeetsSeq3
end
section
variable {prog:Program}{w:World}{A:Around}{E:Value→Shared→Prop}{s:Shared}
theorem ZjN{t b:Addr}{vs ws:List Value}{Q:Value→Shared→Prop}(ht:IsTup s.heap t vs.toArray)(hb:IsTup s.heap b ws.toArray)(hv:vs≠[])
  (h1:ws=[]→Q (.ref t) s) (h2:ws≠[]→Q (.ref s.heap.objs.size) {s with heap:=s.heap.push {cls:= .type "tuple",data:= .seq (vs++ws).toArray}})
  (hsz:vs.length+ws.length≤sizeLine):wpAny (model prog w) A (binaryOp .Add (.ref t) (.ref b)) Q E s:=by
 obtain⟨⟨cls,dd,data,sl⟩,ho,hc,n,hd⟩:=id ht;obtain⟨⟨cls2,dd2,data2,sl2⟩,ho2,hc2,n2,hd2⟩:=id hb;simp only at hc hd hc2 hd2;subst hc hd hc2 hd2;have e:vs.toArray++ws.toArray=(vs++ws).toArray:=by simp
 by_cases hw:ws=[]
 ·exact concat_meets ⟨_,ho,rfl⟩ ⟨_,ho2,rfl⟩ noFill_tuple_add seq_tuple_add PySem.F.slot_tuple_add PySem.F.entry_tuple_add (PySem.F.args_tuple_add_2 _ _)
   (tuple_addW1 t b vs.toArray ws.toArray n n2 dd dd2 sl sl2 (by simpa using hv) (by simp[hw])) ⟨ho,ho2,h1 hw⟩
 ·refine concat_meets ⟨_,ho,rfl⟩ ⟨_,ho2,rfl⟩ noFill_tuple_add seq_tuple_add PySem.F.slot_tuple_add PySem.F.entry_tuple_add (PySem.F.args_tuple_add_2 _ _)
   (tuple_addW2 t b vs.toArray ws.toArray n n2 dd dd2 sl sl2 (by simpa using hv) (by simpa using hw) (by rw[List.size_toArray,List.size_toArray];exact hsz)) ⟨ho,ho2,?_⟩
  rw[e];exact h2 hw
noncomputable def sIx (n d:Nat):Option Int→Nat
 |none=>d
 |some v=>if v<0 then(v+(n:Int)).toNat else min v.toNat n
theorem Zlg(n d:Nat)(hd:d≤n)(o:Option Int):sIx n d o≤n:=by
 cases o with
 |none=>exact hd
 |some v=>
  show(if v<0 then(v+(n:Int)).toNat else min v.toNat n)≤n
  by_cases hv:v<0
  ·rw[if_pos hv];omega
  ·rw[if_neg hv];exact Nat.min_le_right _ _
theorem ZfV(v:Int)(n d:Nat):(if v<0 then max (v+(n:Int)) 0 else min v (n:Int))=((sIx n d (some v):Nat):Int):=by
 show(if v<0 then max (v+(n:Int)) 0 else min v (n:Int))=(((if v<0 then(v+(n:Int)).toNat else min v.toNat n):Nat):Int)
 by_cases hv:v<0
 ·simp only[if_pos hv];omega
 ·simp only[if_neg hv];omega
theorem Zge(lo hi:Option Int)(n:Nat):Builtin.Slice.sliceAdjust lo hi 1 (n:Int)=(((sIx n 0 lo:Nat):Int),((sIx n n hi:Nat):Int)):=by
 have h1:¬((1:Int)<0):=by omega
 unfold Builtin.Slice.sliceAdjust;simp only[h1,if_false];refine Prod.ext ?_ ?_
 ·cases lo with
  |none=>rfl
  |some v=>exact ZfV v n 0
 ·cases hi with
  |none=>rfl
  |some v=>exact ZfV v n n
theorem ZgF(i j:Nat):Builtin.Slice.slicePlaces (i:Int) (j:Int) 1=j-i:=by
 unfold Builtin.Slice.slicePlaces;have h1:(1:Int) > 0:=by omega
 simp only[h1,if_true,Int.ediv_one]
 split<;>omega
theorem ZcM{v:Value}{o:Option Int}{Q:Option Int→Shared→Prop}(p:IsPart v o)(h:Q o s):wpAny (model prog w) A (Builtin.Slice.slicePartIndex v) Q E s:=by
 cases p with
 |none=>exact slicePart_none h
 |int i t=>exact slicePart_int h
theorem Zcm{sl:Addr}{vl vu:Value}{lo hi:Option Int}{n:Nat}{Q:Int×Int×Nat→Shared→Prop}(hs:s.heap.IsSliceOf sl vl vu .none)(pl:IsPart vl lo)(pu:IsPart vu hi)
  (h:Q (((sIx n 0 lo:Nat):Int),1,sIx n n hi-sIx n 0 lo) s):wpAny (model prog w) A (Builtin.Slice.sliceApplied (.ref sl) (pure (n:Int))) Q E s:=by
 obtain⟨os,hos,hcs,hds⟩:=id hs;unfold Builtin.Slice.sliceApplied Builtin.Slice.sliceFields;refine wpAny_bind (wpAny_bind (wpAny_field hos hds (x:=vl) rfl (wpAny_bind (wpAny_field hos hds (x:=vu) rfl (wpAny_bind (wpAny_field hos hds (x:= .none) rfl (wpAny_pure ?_)))))));refine wpAny_bind (slicePart_none ?_);show wpAny _ _ (if((1:Int)==0)=true then _ else _) _ _ s;rw[if_neg (by decide)];refine wpAny_bind (ZcM pl (wpAny_bind (ZcM pu (wpAny_bind (wpAny_pure ?_)))));show wpAny _ _ (match Builtin.Slice.sliceAdjust lo hi 1 (n:Int) with|(lo,hi)=>pure (lo,(1:Int),Builtin.Slice.slicePlaces lo hi 1)) _ _ s;rw[Zge lo hi n];show wpAny _ _ (pure (((sIx n 0 lo:Nat):Int),(1:Int),Builtin.Slice.slicePlaces ((sIx n 0 lo:Nat):Int) ((sIx n n hi:Nat):Int) 1)) _ _ s;rw[ZgF];exact wpAny_pure h
theorem ZiJ(xs:Array Value)(i k:Nat):((List.range k).filterMap fun(m:Nat)=>xs[((i:Int)+(m:Int)*1).toNat]?).toArray=((xs.toList.drop i).take k).toArray:=by
 have e:(fun(m:Nat)=>xs[((i:Int)+(m:Int)*1).toNat]?)=fun m=>xs[i+m]? :=by
  funext m
  have:((i:Int)+(m:Int)*1).toNat=i+m:=by omega
  rw[this]
 rw[e];have:=pick_run xs i k;rw[List.filterMap_map] at this;have e2:((fun x=>xs[x]?)∘fun x=>i+x)=fun m=>xs[i+m]? :=rfl;rw[e2] at this;rw[this]
theorem Zb1{t sl:Addr}{items:Array Value}{vl vu:Value}{lo hi:Option Int}{Q:Value→Shared→Prop}(ht:IsTup s.heap t items)(hs:s.heap.IsSliceOf sl vl vu .none)(pl:IsPart vl lo)(pu:IsPart vu hi)
  (hw:¬(sIx items.size 0 lo=0∧sIx items.size items.size hi=items.size))
  (h:Q (.ref s.heap.objs.size) {s with heap:=s.heap.push {cls:= .type "tuple",data:= .seq ((items.toList.drop (sIx items.size 0 lo)).take (sIx items.size items.size hi-sIx items.size 0 lo)).toArray}})
  (hsz:items.size≤sizeLine):wpAny (model prog w) A (getItem (.ref t) (.ref sl)) Q E s:=by
 have htake:sizeOk (.seq ((items.toList.drop (sIx items.size 0 lo)).take (sIx items.size items.size hi-sIx items.size 0 lo)).toArray):=by
  show((items.toList.drop (sIx items.size 0 lo)).take (sIx items.size items.size hi-sIx items.size 0 lo)).toArray.size≤sizeLine;rw[List.size_toArray,List.length_take,List.length_drop,Array.length_toList];omega
 have hj:sIx items.size items.size hi≤items.size:=Zlg _ _ (Nat.le_refl _) hi;obtain⟨os,hos,hcs,hds⟩:=id hs;have hTs:s.TypeIs (.ref sl) "slice" :=⟨os,hos,hcs⟩;unfold getItem
 try with_reducible refine wpAny_holding ?_
 first|refine wpAny_bind (wpAny_pure ?_)|skip
 refine wpAny_bind (wpAny_sequenceKey ht.typeIs (by decide) ?_);refine wpAny_bind (wpAny_callSpecial?_slot (name:=Str.ofString "__getitem__") ht.typeIs PyProof.Rows.slot_tuple_getitem
  (wpAny_call_entry PyProof.Rows.slot_tuple_getitem ht.typeIs entry_tuple_getitem ?_ (args_tuple_getitem _ _)))
 show wpAny _ _ (Builtin.Tuple.tupleItemsOf (.ref t) >>= _) _ _ s;refine wpAny_bind (tupleItemsOf_ ht ?_);refine wpAny_bind (wpAny_typeOf hTs ?_);rw[if_pos (by decide)];refine wpAny_bind (Zcm hs pl pu ?_);have hno:¬((((sIx items.size 0 lo:Nat):Int)==0&&(1:Int)==1&&(sIx items.size items.size hi-sIx items.size 0 lo)==items.size)=true):=by
  intro q;rw[Bool.and_eq_true,Bool.and_eq_true] at q;have q1:((sIx items.size 0 lo:Nat):Int)=0:=eq_of_beq q.1.1;have q2:sIx items.size items.size hi-sIx items.size 0 lo=items.size:=eq_of_beq q.2;exact hw ⟨by omega,by omega⟩
 show wpAny _ _ (if(((sIx items.size 0 lo:Nat):Int)==0&&(1:Int)==1&&(sIx items.size items.size hi-sIx items.size 0 lo)==items.size)=true then _ else _) _ _ s;rw[if_neg hno,ZiJ]
 first
  |exact wpAny_bind (m:=Builtin.Tuple.tupleExact _) (wpAny_newObj_type (wpAny_pure ⟨_,rfl,wpAny_pure h⟩) htake)
  |exact wpAny_bind (m:=Builtin.Tuple.tupleExact _) (wpAny_newObj_type (wpAny_bind (wpAny_pure (wpAny_pure ⟨_,rfl,wpAny_pure h⟩))) htake)
  |exact wpAny_bind (wpAny_bind (m:=Builtin.Tuple.tupleExact _) (wpAny_newObj_type (wpAny_pure (wpAny_pure ⟨_,rfl,wpAny_pure h⟩)) htake))
  |exact wpAny_bind (wpAny_bind (m:=Builtin.Tuple.tupleExact _) (wpAny_newObj_type (wpAny_pure ⟨_,rfl,wpAny_pure h⟩) htake))
end
end HT
namespace L2
open PySem PySem.Spec PyProof.Rows
noncomputable abbrev TO:=St→Hp→(Option Int→Hp→Prop)→Prop
def PO(X:Cx)(e:Option Expr)(t:TO):Prop:=
 ∀(pins:List (Addr×Obj))(s:Shared)(σ:St)(H:Hp)(Q:Option Int→Hp→Prop),Inv X pins σ H s→t σ H Q→
  wpAny (model X.prog X.w) X.A (evalPart e X.env) (fun u s'=>∃o H',Inv X pins σ H' s'∧IsPart u o∧Q o H') X.xe s
noncomputable def tNoPart:TO:=fun _ H Q=>Q none H
noncomputable def Zjh (t:TE):TO:=fun σ H Q=>t σ H fun x H1=>∃i,x= .int i∧Q (some i) H1
theorem ZaP{ns:List Int}:∀{us:List Value},Zq (ns.map V.int) us→IntsAre us ns:=by
 induction ns with
 |nil=>intro us r;rw[List.map_nil] at r;cases r;exact .nil
 |cons n ns ih=>
  intro us r;rw[List.map_cons] at r;cases r with
  |cons r1 r2=>
   obtain⟨t,e⟩:=r1;subst e;exact .cons n t (ih r2)
section
variable {X:Cx}{e:Expr}{te:TE}{lo hi:Option Expr}{tl th:TO}{pos p2:Pos}
theorem ZbP:PO X none tNoPart:=by
 intro pins s σ H Q I h;rw[evalPart_none];exact wpAny_pure ⟨none,H,I,.none,h⟩
theorem ZbO(h:PE X e te):PO X (some e) (Zjh te):=by
 intro pins s σ H Q I hw;rw[evalPart_some];refine thn (h pins s σ H _ I hw) fun u s1 ⟨x,H1,I1,r1,q1⟩=>?_;obtain⟨i,rfl,q⟩:=q1;obtain⟨t,rfl⟩:=r1;exact⟨some i,H1,I1,.int i t,q⟩
def SlR(X:Cx)(r:V→Option Int→Option Int→Hp→VK→Prop):Prop:=
 ∀(pins:List (Addr×Obj))(s:Shared)(σ:St)(H:Hp)(x:V)(v vl vu:Value)(lo hi:Option Int)(sl:Addr)(Q:VK),Inv X pins σ H s→Zu x v→s.heap.IsSliceOf sl vl vu .none→IsPart vl lo→IsPart vu hi→r x lo hi H Q→
  ∃T id,typeLookup (.type T) "__getitem__" =pure (some (.builtin id))∧s.TypeIs v T∧wpAny (model X.prog X.w) X.A (getItem v (.ref sl)) (EP X pins σ Q) X.xe s
theorem SlR.or{r r':V→Option Int→Option Int→Hp→VK→Prop}(h:SlR X r)(h':SlR X r'):SlR X (fun x lo hi H Q=>r x lo hi H Q∨r' x lo hi H Q):=by
 intro pins s σ H x v vl vu lo hi sl Q I rx hs pl pu q;rcases q with q|q
 ·exact h pins s σ H x v vl vu lo hi sl Q I rx hs pl pu q
 ·exact h' pins s σ H x v vl vu lo hi sl Q I rx hs pl pu q
noncomputable def tSl (r:V→Option Int→Option Int→Hp→VK→Prop) (te:TE) (tl th:TO):TE:=fun σ H Q=>te σ H fun x H1=>tl σ H1 fun l H2=>th σ H2 fun u H3=>r x l u H3 Q
theorem ZaT{r:V→Option Int→Option Int→Hp→VK→Prop}(hr:SlR X r)(he:PE X e te)(hl:PO X lo tl)(hu:PO X hi th):PE X (.Subscript e (.Slice lo hi none p2) pos) (tSl r te tl th):=by
 intro pins s σ H Q I h;refine Subscript_ (thn (he pins s σ H _ I h) fun v s1 ⟨x,H1,I1,r1,q1⟩=>?_);refine wpAny_Slice (thn (hl pins s1 σ H1 _ I1 q1) fun vl s2 ⟨l,H2,I2,pl,q2⟩=>thn (hu pins s2 σ H2 _ I2 q2) fun vu s3 ⟨u,H3,I3,pu,q3⟩=>?_);rw[evalPart_none];refine wpAny_pure ?_;have I4:Inv X pins σ H3 {s3 with heap:=s3.heap.push {cls:= .type "slice",data:= .fields #[vl,vu,.none]}}:=I3.kept (t':=s3.toks) fun b ob q=>Heap.get?_push_of_some _ q;obtain⟨T,id,hT,ht,hg⟩:=hr pins {s3 with heap:=s3.heap.push {cls:= .type "slice",data:= .fields #[vl,vu,.none]}} σ H3 x v vl vu l u s3.heap.objs.size Q I4 r1 (Heap.IsSliceOf.new ..) pl pu q3;show wpAny (model X.prog X.w) X.A (subscriptTail e (.Slice lo hi none p2) v (.ref s3.heap.objs.size)) (EP X pins σ Q) X.xe {s3 with heap:=s3.heap.push {cls:= .type "slice",data:= .fields #[vl,vu,.none]}};exact tail_any (ops:=[.ref s3.heap.objs.size,v]) ht hT hg (by with_unfolding_all rfl)
noncomputable def UW (xs:List V) (lo hi:Option Int):List V:=(xs.drop (HT.sIx xs.length 0 lo)).take (HT.sIx xs.length xs.length hi-HT.sIx xs.length 0 lo)
theorem Zce(xs:List V)(lo hi:Option Int):(UW xs lo hi).length≤xs.length:=by
 unfold UW;rw[List.length_take,List.length_drop];omega
noncomputable def ZkB (K:PySem.W.Frag):V→Option Int→Option Int→Hp→VK→Prop:=fun x lo hi H Q=>∃a xs,x= .ref a∧SqT K H a xs∧
 ¬(HT.sIx xs.length 0 lo=0∧HT.sIx xs.length xs.length hi=xs.length)∧∀p,H p=none→Q (.ref p) (upd H p (.tup (UW xs lo hi)))
theorem Zk0:SlR X (ZkB X.K):=by
 intro pins s σ H x v vl vu lo hi sl Q I rx hs pl pu h;obtain⟨a,xs,rfl,hx,hw,q⟩:=h;cases rx;obtain⟨its,r,ht,hz⟩:=I.tuple hx;have hlen:its.toArray.size=xs.length:=by rw[List.size_toArray];exact r.length.symm
 refine⟨"tuple",_,PyProof.Rows.slot_tuple_getitem.lookup,ht.typeIs,?_⟩;refine HT.Zb1 ht hs pl pu (by rw[hlen];exact hw) ?_ (by rw[hlen];exact hz);rw[hlen];refine⟨.ref s.heap.objs.size,_,I.laid (t':=s.toks) (o:= .tup (UW xs lo hi)) (fun b ob q=>Heap.get?_push_of_some _ q) (Nat.le_refl _) ?_,rfl,q _ (I.hok.fresh (Nat.le_refl _))⟩;exact⟨Nat.le_trans (Zce xs lo hi) hz,_,(r.drop (HT.sIx xs.length 0 lo)).take (HT.sIx xs.length xs.length hi-HT.sIx xs.length 0 lo),IsTup.new _ _⟩
noncomputable def ZgT (K:PySem.W.Frag):R2:=fun x y H Q=>∃a b xs ys,x= .ref a∧y= .ref b∧SqT K H a xs∧SqT K H b ys∧xs≠[]∧xs.length+ys.length≤sizeLine∧
 (ys=[]→Q (.ref a) H)∧(ys≠[]→∀p,H p=none→Q (.ref p) (upd H p (.tup (xs++ys))))
theorem Zq.nil_iff{xs:List V}{us:List Value}(r:Zq xs us):us=[]↔xs=[]:=by
 cases r with
 |nil=>simp
 |cons _ _=>simp
theorem Zj4:OpR X (binaryOp .Add) (ZgT X.K):=by
 intro pins s σ H x y v u Q I rx ry h;obtain⟨a,b,xs,ys,rfl,rfl,ha,hb,hx,hz,q1,q2⟩:=h;cases rx;cases ry;obtain⟨its,r1,p1,_⟩:=I.tuple ha;obtain⟨its2,r2,p2,_⟩:=I.tuple hb;refine HT.ZjN p1 p2 (fun z=>hx (r1.nil_iff.mp z)) (fun z=>⟨.ref a,H,I,rfl,q1 (r2.nil_iff.mp z)⟩) (fun z=>?_) (by rw[←r1.length,←r2.length];exact hz);refine⟨.ref s.heap.objs.size,_,I.laid (t':=s.toks) (o:= .tup (xs++ys)) (fun b ob q=>Heap.get?_push_of_some _ q) (Nat.le_refl _) ?_,rfl,q2 (fun w=>z (r2.nil_iff.mpr w)) _ (I.hok.fresh (Nat.le_refl _))⟩;exact⟨by rw[List.length_append];exact hz,_,r1.append r2,IsTup.new _ _⟩
end
end L2
namespace L2
open PySem PySem.Spec PyProof.Rows
noncomputable def ixN (n:Nat) (i:Int):Option Nat:=if 0≤i then(if i<n then some i.toNat else none) else if -(n:Int)≤i then some (i+n).toNat else none
noncomputable def atI {α:Type} (xs:List α) (i:Int):Option α:=(ixN xs.length i).bind fun j=>xs[j]?
theorem ZfY{n:Nat}{i:Int}{j:Nat}(h:ixN n i=some j):seqIndex? i n=some j∧j<n∧ -(n:Int)≤i∧i<n:=by
 unfold ixN at h
 by_cases h0:0≤i
 ·rw[if_pos h0] at h
  by_cases h1:i<n
  ·rw[if_pos h1] at h;have e:i.toNat=j:=Option.some.inj h;exact⟨by rw[seqIndex_of h0 h1,e],by omega,by omega,h1⟩
  ·rw[if_neg h1] at h;cases h
 ·rw[if_neg h0] at h
  by_cases h1: -(n:Int)≤i
  ·rw[if_pos h1] at h;have e:(i+n).toNat=j:=Option.some.inj h;exact⟨by rw[seqIndex_neg (by omega) h1,e],by omega,h1,by omega⟩
  ·rw[if_neg h1] at h;cases h
theorem ZbT{α:Type}{xs:List α}{i:Int}{v:α}(h:atI xs i=some v):∃j,seqIndex? i xs.length=some j∧xs[j]? =some v∧j<xs.length∧ -(xs.length:Int)≤i∧i<xs.length:=by
 unfold atI at h;cases e:ixN xs.length i with
 |none=>rw[e] at h;cases h
 |some j=>
  rw[e] at h;obtain⟨h1,h2,h3,h4⟩:=ZfY e;exact⟨j,h1,h,h2,h3,h4⟩
theorem Wf{α:Type}{xs:List α}{j:Nat}{v:α}(h:xs[j]? =some v):atI xs (j:Int)=some v:=by
 have hj:j<xs.length:=(List.getElem?_eq_some_iff.mp h).1;have e:ixN xs.length (j:Int)=some j:=by
  unfold ixN;rw[if_pos (by omega),if_pos (by omega)];simp
 unfold atI;rw[e];exact h
def ZjH(b:Expr):Prop:=∀o i,subscripted b false o i=operate [o,i] (getItem o i)
def IxR(X:Cx)(r:R2):Prop:=
 ∀(value slice:Expr)(pins:List (Addr×Obj))(s:Shared)(σ:St)(H:Hp)(x y:V)(v u:Value)(Q:VK),Inv X pins σ H s→Zu x v→Zu y u→r x y H Q→
  subscripted slice false v u=operate [v,u] (getItem v u)→wpAny (model X.prog X.w) X.A (subscriptTail value slice v u) (EP X pins σ Q) X.xe s
def MtR(X:Cx)(id:String)(r:V→List V→Hp→VK→Prop):Prop:=
 ∀(pins:List (Addr×Obj))(s:Shared)(σ:St)(H:Hp)(x:V)(xs:List V)(v:Value)(us:List Value)(Q:VK),Inv X pins σ H s→Zu x v→Zq xs us→r x xs H Q→
  wpAny (model X.prog X.w) X.A (call (.builtin id) (v::us)) (EP X pins σ Q) X.xe s
section
variable {X:Cx}{a b:Expr}{ta tb:TE}{pos:Pos}
theorem IxR.or{r r':R2}(h:IxR X r)(h':IxR X r'):IxR X (fun x y H Q=>r x y H Q∨r' x y H Q):=by
 intro value slice pins s σ H x y v u Q I rx ry q hs;rcases q with q|q
 ·exact h value slice pins s σ H x y v u Q I rx ry q hs
 ·exact h' value slice pins s σ H x y v u Q I rx ry q hs
theorem Zo{r:R2}(hr:IxR X r)(ha:PE X a ta)(hb:PE X b tb)(hs:ZjH b):PE X (.Subscript a b pos) (tOp r ta tb):=by
 intro pins s σ H Q I h;exact Subscript_ (Zi0 ha hb I h fun v u s2 x y H2 I2 rx ry q=>hr a b pins s2 σ H2 x y v u Q I2 rx ry q (hs _ _))
noncomputable def Zdr (K:PySem.W.Frag):R2:=fun x y H Q=>∃p xs i v,x= .ref p∧y= .int i∧SqL K H p xs∧atI xs i=some v∧Q v H
noncomputable def ZiD (K:PySem.W.Frag):R2:=fun x y H Q=>∃p xs i v,x= .ref p∧y= .int i∧SqT K H p xs∧atI xs i=some v∧Q v H
noncomputable def rIxS:R2:=fun x y H Q=>∃z i c,x= .str z∧y= .int i∧z.length≤sizeLine∧atI z.cps.toList i=some c∧Q (.str ⟨#[c]⟩) H
theorem ZjL:IxR X (Zdr X.K):=by
 intro value slice pins s σ H x y v u Q I rx ry h hs;obtain⟨p,xs,i,z,rfl,rfl,hq,he,q⟩:=h;cases rx;obtain⟨t,rfl⟩:=ry;obtain⟨its,r,pl,hz⟩:=I.list hq;obtain⟨j,h1,h2,h3,h4,h5⟩:=ZbT he;obtain⟨w,ew,rw'⟩:=r.get h2;have hl:=r.length;have hn:=Uq;have fin:EP X pins σ Q w s:=⟨z,H,I,rw',q⟩
 by_cases h0:0≤i
 ·have hj:i.toNat=j:=by
   rw[seqIndex_of h0 h5] at h1;exact Option.some.inj h1
  exact item_listR pl.isList h0 (by omega) (by rw[hj];simpa using ew) fin hs
 ·have hj:(i+(its.toArray.size:Int)).toNat=j:=by
   rw[seqIndex_neg (by omega) h4] at h1;rw[List.size_toArray,←hl];exact Option.some.inj h1
  exact subscriptTail_builtinR (x:=w) pl.isList.typeIs slot_list_getitem.lookup
   (wpAny_getItem_list_neg (Q:=fun r s'=>r=w∧EP X pins σ Q r s') pl.isList (by omega) (by rw[List.size_toArray]<;>omega) (by omega) (by rw[hj];simpa using ew) ⟨rfl,fin⟩) hs
theorem Zkg:IxR X (ZiD X.K):=by
 intro value slice pins s σ H x y v u Q I rx ry h hs;obtain⟨p,xs,i,z,rfl,rfl,hq,he,q⟩:=h;cases rx;obtain⟨t,rfl⟩:=ry;obtain⟨its,r,pl,hz⟩:=I.tuple hq;obtain⟨j,h1,h2,h3,h4,h5⟩:=ZbT he;obtain⟨w,ew,rw'⟩:=r.get h2;have hl:=r.length;have hn:=Uq;have fin:EP X pins σ Q w s:=⟨z,H,I,rw',q⟩;exact subscriptTail_builtinR (x:=w) pl.typeIs slot_tuple_getitem.lookup
  (getItem_tuple (j:=j) (Q:=fun r s'=>r=w∧EP X pins σ Q r s') pl (by omega) (by omega) (by rw[List.size_toArray,←hl];exact h1) (by simpa using ew) ⟨rfl,fin⟩) hs
theorem Zkn:IxR X rIxS:=by
 intro value slice pins s σ H x y v u Q I rx ry h hs;obtain⟨z,i,c,rfl,rfl,hz,he,q⟩:=h;obtain⟨t,rfl⟩:=rx;obtain⟨t',rfl⟩:=ry;obtain⟨j,h1,h2,h3,h4,h5⟩:=ZbT he;have hl:z.cps.toList.length=z.length:=by simp[Str.length]
 rw[hl] at h1 h4 h5;have hn:=Uq;exact tail_any (typeIs_str s z t) slot_str_getitem.lookup (getItem_str (c:=c) (by
  have e1:decide (i< -(2 ^ 63:Int))=false:=decide_eq_false (by omega);have e2:decide (i≥2 ^ 63)=false:=decide_eq_false (by omega);rw[e1,e2,Bool.or_false]) (by rw[h1];simpa using h2) ⟨.str ⟨#[c]⟩,H,I.tok _,⟨_,rfl⟩,q⟩) hs
noncomputable def rIx (K:PySem.W.Frag):R2:=fun x y H Q=>Zdr K x y H Q∨ZiD K x y H Q∨rIxS x y H Q
theorem ZkY:IxR X (rIx X.K):=ZjL.or (Zkg.or Zkn)
theorem ZgB(its:List Value)(n j:Nat)(u:Value):Obj.mapSeq (·.setIfInBounds j u) {cls:= .type "list",data:= .seq its.toArray n}={cls:= .type "list",data:= .seq (its.set j u).toArray n}:=by
 simp[Obj.mapSeq]
theorem Inv.lst{pins:List (Addr×Obj)}{σ:St}{H:Hp}{s:Shared}{p:Addr}{xs:List V}(I:Inv X pins σ H s)(h:H p=some (.lst xs)):
  ∃(its:List Value)(n:Nat),Zq xs its∧s.heap.get? p=some {cls:= .type "list",data:= .seq its.toArray n}∧xs.length≤sizeLine:=by
 obtain⟨z,its,n,r,e⟩:=I.hok p _ h;exact⟨its,n,r,e,z⟩
theorem Inv.lstUpd{pins:List (Addr×Obj)}{σ:St}{H:Hp}{s:Shared}{p:Addr}{xs ys:List V}{its its':List Value}{n n':Nat}{f:Obj→Obj}(I:Inv X pins σ H s)(h:H p=some (.lst xs))
  (ho:s.heap.get? p=some {cls:= .type "list",data:= .seq its.toArray n}) (hf:f {cls:= .type "list",data:= .seq its.toArray n}={cls:= .type "list",data:= .seq its'.toArray n'}) (r:Zq ys its') (hz:ys.length≤sizeLine) (t:Nat):
  Inv X pins σ (upd H p (.lst ys)) {s with heap:=s.heap.update p f,toks:=t}:=by
 have e:(s.heap.update p f).get? p=some {cls:= .type "list",data:= .seq its'.toArray n'}:=by
  rw[Heap.get?_update_self f ho (by rw[hf]<;>rfl),hf]
 refine I.write (x:=p) (e:=p) (by rw[h];trivial) (.inl rfl) (fun b u hb q=>(Heap.get?_update_other _ _ (Ne.symm hb)).trans q) ⟨_,e⟩ ?_;exact⟨hz,its',n',r,e⟩
noncomputable def rSetL:V→V→V→Hp→(Hp→Prop)→Prop:=fun o i v H Q=>∃p xs k j,o= .ref p∧i= .int k∧H p=some (.lst xs)∧ixN xs.length k=some j∧Q (upd H p (.lst (xs.set j v)))
theorem Vo:ZgP X rSetL:=by
 intro pins s σ H o i v ov iv u Q I ro ri rv h;obtain⟨p,xs,k,j,rfl,rfl,hp,hj,q⟩:=h;cases ro;obtain⟨t,rfl⟩:=ri;obtain⟨its,n,r,ho,hz⟩:=I.lst hp;obtain⟨h1,h2,h3,h4⟩:=ZfY hj;have hl:=r.length;have hn:=Uq;have I':Inv X pins σ (upd H p (.lst (xs.set j v))) {s with heap:=s.heap.update p (Obj.mapSeq (·.setIfInBounds j u))}:=
  I.lstUpd hp ho (ZgB its n j u) (r.set rv j) (by rw[List.length_set];exact hz) s.toks
 by_cases h0:0≤k
 ·have hk:k.toNat=j:=by
   rw[seqIndex_of h0 h4] at h1;exact Option.some.inj h1
  exact PySem.W.ki_setAt ho h0 (by omega) (by rw[List.size_toArray,←hl];exact h4) (by rw[hk];exact⟨_,I',q⟩)
 ·have hk:(k+(its.toArray.size:Int)).toNat=j:=by
   rw[seqIndex_neg (by omega) h3] at h1;rw[List.size_toArray,←hl];exact Option.some.inj h1
  exact PySem.W.ki_setBack ho (by omega) (by rw[List.size_toArray,←hl];exact h3) (by omega) (by rw[hk];exact⟨_,I',q⟩)
theorem ZeW(lo hi:Option Int)(n:Nat):(sliceBounds lo hi none n).1=((HT.sIx n 0 lo:Nat):Int)∧(sliceBounds lo hi none n).2.1=((HT.sIx n n hi:Nat):Int)∧(sliceBounds lo hi none n).2.2=1:=by
 refine⟨?_,?_,rfl⟩
 ·cases lo with
  |none=>simp[sliceBounds,HT.sIx]
  |some i=>
   simp only[sliceBounds,HT.sIx,Option.getD_none,show(1:Int) > 0 by decide,if_true]
   by_cases h:i<0
   ·simp only[h,if_true]<;>omega
   ·simp only[h,if_false]<;>omega
 ·cases hi with
  |none=>simp[sliceBounds,HT.sIx]
  |some i=>
   simp only[sliceBounds,HT.sIx,Option.getD_none,show(1:Int) > 0 by decide,if_true]
   by_cases h:i<0
   ·simp only[h,if_true]<;>omega
   ·simp only[h,if_false]<;>omega
theorem Zeb(its:List Value)(lo hi:Option Int):slicePick its.toArray lo hi none=((its.drop (HT.sIx its.length 0 lo)).take (HT.sIx its.length its.length hi-HT.sIx its.length 0 lo)).toArray:=by
 obtain⟨h1,h2,h3⟩:=ZeW lo hi its.toArray.size;unfold slicePick;rw[h1,h2,h3];simp only[sliceRange_one,pick_run,List.size_toArray]<;>rfl
noncomputable def Zkk (K:PySem.W.Frag):V→Option Int→Option Int→Hp→VK→Prop:=fun x lo hi H Q=>∃a xs,x= .ref a∧SqL K H a xs∧∀p,H p=none→Q (.ref p) (upd H p (.lst (UW xs lo hi)))
theorem ZjZ:SlR X (Zkk X.K):=by
 intro pins s σ H x v vl vu lo hi sl Q I rx hs pl pu h;obtain⟨a,xs,rfl,hx,q⟩:=h;cases rx;obtain⟨its,r,ht,hz⟩:=I.list hx;have hlen:=r.length;refine⟨"list",_,slot_list_getitem.lookup,ht.isList.typeIs,?_⟩;refine wpAny_getItem_list_slice ht.isList hs pl pu .none (by simp) ?_ (by rw[List.size_toArray]<;>omega);rw[Zeb,←hlen];refine⟨.ref s.heap.objs.size,_,I.laid (t':=s.toks) (o:= .lst (UW xs lo hi)) (fun b ob q=>Heap.get?_push_of_some _ q) (Nat.le_refl _) ?_,rfl,q _ (I.hok.fresh (Nat.le_refl _))⟩;exact⟨Nat.le_trans (Zce xs lo hi) hz,_,0,(r.drop (HT.sIx xs.length 0 lo)).take (HT.sIx xs.length xs.length hi-HT.sIx xs.length 0 lo),Heap.get?_push_size _ rfl⟩
noncomputable def UM:V→Bool
 | .non=>true
 | .bl _=>true
 | .int _=>true
 | .str _=>true
 |_=>false
noncomputable def eqV:V→V→Bool
 | .non,.non=>true
 | .bl a,.bl b=>a==b
 | .bl a,.int b=>(if a then 1 else 0)==b
 | .int a,.bl b=>a==(if b then 1 else 0)
 | .int a,.int b=>a==b
 | .str a,.str b=>a==b
 |_,_=>false
theorem Zld{A:Around}{s:Shared}{y x:V}{u v:Value}(ry:Zu y u)(rx:Zu x v)(fy:UM y=true)(fx:UM x=true):SeqAt.EqAt A s u v (eqV y x):=by
 cases y with
 |non=>
  cases ry;cases x with
  |non=>cases rx;exact SeqAt.EqAt.same _
  |bl b=>cases rx;exact SeqAt.EqAt.none_bool b
  |int b=>obtain⟨t,rfl⟩:=rx;exact SeqAt.EqAt.none_int b t
  |str b=>obtain⟨t,rfl⟩:=rx;exact SeqAt.EqAt.none_str b t
  |_=>exact absurd (show false=true from fx) Bool.false_ne_true
 |bl a=>
  cases ry;cases x with
  |non=>cases rx;exact SeqAt.EqAt.bool_none a
  |bl b=>cases rx;exact SeqAt.EqAt.bool_bool a b
  |int b=>obtain⟨t,rfl⟩:=rx;exact SeqAt.EqAt.bool_int a b t
  |str b=>obtain⟨t,rfl⟩:=rx;exact SeqAt.EqAt.bool_str a b t
  |_=>exact absurd (show false=true from fx) Bool.false_ne_true
 |int a=>
  obtain⟨t',rfl⟩:=ry;cases x with
  |non=>cases rx;exact SeqAt.EqAt.int_none a t'
  |bl b=>cases rx;exact SeqAt.EqAt.int_bool a t' b
  |int b=>obtain⟨t,rfl⟩:=rx;exact SeqAt.EqAt.int_int a t' b t
  |str b=>obtain⟨t,rfl⟩:=rx;exact SeqAt.EqAt.int_str a t' b t
  |_=>exact absurd (show false=true from fx) Bool.false_ne_true
 |str a=>
  obtain⟨t',rfl⟩:=ry;cases x with
  |non=>cases rx;exact SeqAt.EqAt.str_none a t'
  |bl b=>cases rx;exact SeqAt.EqAt.str_bool a t' b
  |int b=>obtain⟨t,rfl⟩:=rx;exact SeqAt.EqAt.str_int a t' b t
  |str b=>obtain⟨t,rfl⟩:=rx;exact SeqAt.EqAt.str_str a t' b t
  |_=>exact absurd (show false=true from fx) Bool.false_ne_true
 |_=>exact absurd (show false=true from fy) Bool.false_ne_true
noncomputable def eqU (x:V) (u:Value):Bool:=match u with
 | .none=>eqV .non x
 | .bool b=>eqV (.bl b) x
 | .int i _=>eqV (.int i) x
 | .str z _=>eqV (.str z) x
 |_=>false
theorem Zhm{x y:V}{u:Value}(r:Zu y u)(f:UM y=true):eqU x u=eqV y x:=by
 cases y with
 |non=>cases r;rfl
 |bl b=>cases r;rfl
 |int i=>obtain⟨t,rfl⟩:=r;rfl
 |str z=>obtain⟨t,rfl⟩:=r;rfl
 |_=>exact absurd (show false=true from f) Bool.false_ne_true
theorem Zdj{x:V}:∀{xs:List V}{us:List Value},Zq xs us→xs.all UM=true→us.any (eqU x)=xs.any fun y=>eqV y x
 |_,_,.nil,_=>rfl
 |y::xs,u::us,.cons r t,f=>by
  rw[List.all_cons,Bool.and_eq_true] at f;rw[List.any_cons,List.any_cons,Zhm r f.1,Zdj t f.2]
theorem Zcp{A:Around}{s:Shared}{x:V}{v:Value}(rx:Zu x v)(fx:UM x=true):∀{xs:List V}{us:List Value},Zq xs us→xs.all UM=true→∀u∈us,SeqAt.EqAt A s u v (eqU x u)
 |_,_,.nil,_=>fun u hu=>by cases hu
 |y::xs,u::us,.cons r t,f=>fun u' hu=>by
  rw[List.all_cons,Bool.and_eq_true] at f;rcases List.mem_cons.mp hu with rfl|hu
  ·rw[Zhm r f.1];exact Zld r rx f.1 fx
  ·exact Zcp rx fx t f.2 u' hu
noncomputable def inV (x:V) (xs:List V):Bool:=xs.any fun y=>eqV y x
noncomputable def rIn (K:PySem.W.Frag) (neg:Bool):R2:=fun x y H Q=>∃p xs,y= .ref p∧(SqL K H p xs∨SqT K H p xs)∧UM x=true∧xs.all UM=true∧Q (.bl (if neg then !inV x xs else inV x xs)) H
theorem Zh3:OpR X (compareOp .In) (rIn X.K false):=by
 intro pins s σ H x y v u Q I rx ry h;obtain⟨p,xs,rfl,hq,fx,fs,q⟩:=h;cases ry;rcases hq with hq|hq
 ·obtain⟨its,r,pl,hz⟩:=I.list hq;refine SeqAt.in_listAt (eqU x) pl.isList (fun w hw=>Zcp rx fx r fs w (by simpa using hw)) ⟨.bl _,H,I,rfl,?_⟩;rw[show its.toArray.any (eqU x)=its.any (eqU x) by simp,Zdj r fs];exact q
 ·obtain⟨its,r,pl,hz⟩:=I.tuple hq;refine SeqAt.in_tupleAt (eqU x) pl (fun w hw=>Zcp rx fx r fs w (by simpa using hw)) ⟨.bl _,H,I,rfl,?_⟩;rw[show its.toArray.any (eqU x)=its.any (eqU x) by simp,Zdj r fs];exact q
theorem Zer:YO X (.type "list") (fun xs H Q=>∃p ys,xs=[.ref p]∧(SqL X.K H p ys∨SqT X.K H p ys)∧∀l,H l=none→Q (.ref l) (upd H l (.lst ys))):=by
 intro pins s σ H xs us Q I r h;obtain⟨p,ys,rfl,hq,q⟩:=h;obtain⟨u,rfl,rx⟩:=WJ r;cases rx;have fin:∀(its:List Value),Zq ys its→ys.length≤sizeLine→∀(h':Heap)(c':Nat),(∀b o',s.heap.get? b=some o'→h'.get? b=some o')→
   h'.get? s.heap.objs.size=some {cls:= .type "list",dict:=none,data:= .seq its.toArray c',slots:=#[]}→EP X pins σ Q (.ref s.heap.objs.size) {s with heap:=h'}:=fun its r' hz h' c' kp e=>
  ⟨.ref s.heap.objs.size,_,I.laid (t':=s.toks) kp (Nat.le_refl _) (show ZU X.prog X.w _ h' _ (.lst ys) from⟨hz,its,c',r',e⟩),rfl,q _ (I.hok.fresh (Nat.le_refl _))⟩
 rcases hq with hq|hq
 ·obtain⟨its,r',pl,hz⟩:=I.list hq;have hlen:=r'.length;obtain⟨o,ho,hc,n,hd⟩:=pl.isList;exact call_list_seq p (.inl rfl) ho hc hd (fun h' c' kp e=>fin its r' hz h' c' kp e) (by simp only[List.size_toArray]<;>omega)
 ·obtain⟨its,r',pl,hz⟩:=I.tuple hq;have hlen:=r'.length;obtain⟨o,ho,hc,n,hd⟩:=pl;exact call_list_seq p (.inr rfl) ho hc hd (fun h' c' kp e=>fin its r' hz h' c' kp e) (by simp only[List.size_toArray]<;>omega)
def tyV(K:PySem.W.Frag)(T:String)(x:V)(H:Hp):Prop:=match x with
 | .str _=>T="str"
 | .int _=>T="int"
 | .ref p=>(T="list" ∧∃xs,SqL K H p xs)∨(T="tuple" ∧∃o,K.lookup p=some o∧o.cls= .type "tuple" ∧o.dict=none)∨
   (T="dict" ∧((∃kvs,H p=some (.dK kvs))∨∃kvs,H p=some (.dT kvs)))∨(T="set" ∧∃S n,H p=some (.set S n))
 |_=>False
theorem ZhI{pins:List (Addr×Obj)}{σ:St}{H:Hp}{s:Shared}{T:String}{x:V}{v:Value}(I:Inv X pins σ H s)(r:Zu x v)(ty:tyV X.K T x H):
  s.TypeIs v T∧∀a,v= .ref a→∃ob,s.heap.get? a=some ob∧ob.dict=none:=by
 cases x with
 |str z=>
  obtain⟨t,rfl⟩:=r;cases (show T="str" from ty);exact⟨typeIs_str s z t,fun _ e=>nomatch e⟩
 |int i=>
  obtain⟨t,rfl⟩:=r;cases (show T="int" from ty);exact⟨typeIs_int s i t,fun _ e=>nomatch e⟩
 |ref p=>
  cases r;rcases ty with⟨rfl,xs,hq⟩|⟨rfl,o,hk,hc,hd⟩|⟨rfl,hk⟩|⟨rfl,S,n,hk⟩
  ·obtain⟨its,_,pl,_⟩:=I.list hq;refine⟨pl.isList.typeIs,fun a e=>?_⟩;cases e;obtain⟨o,n,e,c,hd,_⟩:=pl;exact⟨o,e,hd⟩
  ·refine⟨⟨o,I.kIn p o hk,hc⟩,fun a e=>?_⟩;cases e;exact⟨o,I.kIn _ o hk,hd⟩
  ·have z:∃o,s.heap.get? p=some o∧o.ExactDict:=by
    rcases hk with⟨kvs,hk⟩|⟨kvs,hk⟩
    ·obtain⟨_,_,_,_,o,_,_,e,ex,_⟩:=I.hok p _ hk;exact⟨o,e,ex⟩
    ·obtain⟨_,_,_,_,o,_,_,e,ex,_⟩:=I.hok p _ hk;exact⟨o,e,ex⟩
   obtain⟨o,e,ex⟩:=z;refine⟨⟨o,e,ex.1⟩,fun a e2=>?_⟩;cases e2;exact⟨o,e,ex.2.1⟩
  ·obtain⟨o,_,_,_,e,ex,_⟩:=I.hok p _ hk;refine⟨⟨o,e,ex.1⟩,fun a e2=>?_⟩;cases e2;exact⟨o,e,ex.2.1⟩
 |_=>exact False.elim ty
noncomputable def Zid (K:PySem.W.Frag) (T:String) (r:V→List V→Hp→VK→Prop) (to:TE):TE:=fun σ H Q=>to σ H fun x H1=>tyV K T x H1∧r x [] H1 Q
noncomputable def tBM (K:PySem.W.Frag) (T:String) (r:V→List V→Hp→VK→Prop) (to:TE) (t:TA):TE:=fun σ H Q=>to σ H fun x H1=>tyV K T x H1∧t σ H1 fun xs H2=>r x xs H2 Q
variable {o e:Expr}{es:List Expr}{to:TE}{t:TA}{name:Str}{apos cpos:Pos}{T id:String}{r:V→List V→Hp→VK→Prop}
theorem Zk4(pa:PlainAttrs T)(slot:Slot T name id)(hty:typeOf (.builtin id)=pure (.type "method_descriptor"))(hm:MtR X id r)(ho:PE X o to)
  (hbase:attributeBase o name X.env (eval o X.env)=eval o X.env:=by rfl) (hline:(apos.endLine==cpos.line)=true:=by rfl):PE X (.Call (.Attribute o name apos) [] [] cpos) (Zid X.K T r to):=by
 intro pins s σ H Q I h;refine wpAny_Call_method0_late hbase hline (thn (ho pins s σ H _ I h) fun v s1 ⟨x,H1,I1,r1,ty,q1⟩=>?_);obtain⟨h1,h2⟩:=ZhI I1 r1 ty;exact⟨T,id,pa,slot,hty,h1,h2,Calls.callWith_builtin rfl (PySem.evalArgs_none (hm pins s1 σ H1 x [] v [] Q I1 r1 .nil q1))⟩
theorem Zll(pa:PlainAttrs T)(slot:Slot T name id)(hty:typeOf (.builtin id)=pure (.type "method_descriptor"))(hm:MtR X id r)(ho:PE X o to)(ha:PA X (e::es) t)
  (hbase:attributeBase o name X.env (eval o X.env)=eval o X.env:=by rfl)
  (hfew:((backTo cpos (starEach (e::es) X.env)).all (fun x=>!x.1)&&(backToKw cpos (keywordEach [] X.env)).all (fun x=>x.1.isSome)
   &&decide ((e::es).length+([]:List Keyword).length+(if([]:List Keyword).isEmpty then 0 else 1)<30))=true:=by rfl)
  (hline:(apos.endLine==cpos.line)=true:=by rfl) (hs:starEach (e::es) X.env=(false,eval e X.env)::starEach es X.env:=by rfl) (hplain:(backTo cpos (starEach es X.env)).any (·.1)=false:=by rfl):
  PE X (.Call (.Attribute o name apos) (e::es) [] cpos) (tBM X.K T r to t):=by
 intro pins s σ H Q I h;refine wpAny_Call_method_late hbase hfew hline rfl (thn (ho pins s σ H _ I h) fun v s1 ⟨x,H1,I1,r1,ty,q1⟩=>?_);obtain⟨h1,h2⟩:=ZhI I1 r1 ty;refine⟨T,id,pa,slot,hty,h1,h2,?_⟩;have hA:=ha cpos pins s1 σ H1 _ I1 q1;rw[hs] at hA⊢;refine Calls.callWith_builtin (by show(false||(backTo cpos (starEach es X.env)).any (·.1))=false;rw[hplain]<;>rfl) (Calls.evalArgs_plain ?_);exact thn hA fun us s2 ⟨vs,H2,I2,r2,q2⟩=>hm pins s2 σ H2 x vs v us Q I2 r1 r2 q2
end
end L2
namespace L2
open PySem PySem.Spec PyProof.Rows
def MtM(X:Cx)(id:String)(r:V→List V→Hp→VK→Prop):Prop:=
 ∀(pins:List (Addr×Obj))(s:Shared)(σ:St)(H:Hp)(x:V)(xs:List V)(v:Value)(us:List Value)(Q:VK),Inv X pins σ H s→Zu x v→Zq xs us→r x xs H Q→
  wpAny (model X.prog X.w) X.A (call (.builtin id) (v::us)) (EP X pins σ Q) X.xe s
theorem Zq.one:∀{x:V}{us:List Value},Zq [x] us→∃u,us=[u]∧Zu x u
 |_,_,.cons r .nil=>⟨_,rfl,r⟩
theorem Zq.two:∀{x y:V}{us:List Value},Zq [x,y] us→∃u v,us=[u,v]∧Zu x u∧Zu y v
 |_,_,_,.cons r (.cons q .nil)=>⟨_,_,rfl,r,q⟩
theorem Zq.zero:∀{us:List Value},Zq [] us→us=[]
 |_,.nil=>rfl
theorem Zq.dropLast{xs:List V}{us:List Value}(h:Zq xs us):Zq xs.dropLast us.dropLast:=by
 induction h with
 |nil=>exact .nil
 |cons r t ih=>
  cases t with
  |nil=>exact .nil
  |cons q t'=>exact .cons r ih
theorem Zq.reverse{xs:List V}{us:List Value}(h:Zq xs us):Zq xs.reverse us.reverse:=by
 induction h with
 |nil=>exact .nil
 |cons r t ih=>rw[List.reverse_cons,List.reverse_cons];exact Zq.append ih (.cons r .nil)
theorem Zq.rep{xs:List V}{us:List Value}(h:Zq xs us):∀k:Nat,Zq (List.replicate k xs).flatten (List.replicate k us).flatten
 |0=> .nil
 |k+1=>by
  rw[List.replicate_succ,List.replicate_succ,List.flatten_cons,List.flatten_cons];exact Zq.append h (Zq.rep h k)
theorem ZgH{α:Type}(l:List α):l.eraseIdx (l.length-1)=l.dropLast:=by
 induction l with
 |nil=>rfl
 |cons a r ih=>
  cases r with
  |nil=>rfl
  |cons b r=>
   have e:(a::b::r).length-1=((b::r).length-1)+1:=by
    have h1:(a::b::r).length=r.length+2:=rfl;have h2:(b::r).length=r.length+1:=rfl;omega
   rw[e,List.eraseIdx_cons_succ,ih]
   all_goals rfl
theorem ZdZ(its:List Value):∀(k:Nat)(acc:List Value),
  List.foldl (fun x1 x2=>x1++x2) acc.toArray (List.replicate k its.toArray)=(acc++(List.replicate k its).flatten).toArray
 |0,acc=>by simp
 |k+1,acc=>by
  have e:acc.toArray++its.toArray=(acc++its).toArray:=by simp
  have e2:(acc++its)++(List.replicate k its).flatten=acc++(List.replicate (k+1) its).flatten:=by
   rw[List.replicate_succ,List.flatten_cons,List.append_assoc]
  rw[←e2,←ZdZ its k (acc++its),←e,List.replicate_succ,List.foldl_cons]
section
variable {X:Cx}{pins:List (Addr×Obj)}{σ:St}{H:Hp}{s:Shared}{l b:Addr}{xs ys zs:List V}
theorem Inv.lset{its its':List Value}{n:Nat}{f:Array Value→Array Value}{t':Nat}(I:Inv X pins σ H s)(hH:H l=some (.lst xs))
  (e:s.heap.get? l=some {cls:= .type "list",data:= .seq its.toArray n}) (hf:f its.toArray=its'.toArray) (hv:Zq ys its') (hz:ys.length≤sizeLine):
  Inv X pins σ (upd H l (.lst ys)) {s with heap:=s.heap.update l (Obj.mapSeq f),toks:=t'}:=by
 have q:=PySem.IsL.update e f;rw[hf] at q;refine I.write (x:=l) (e:=l) (by rw[hH];exact trivial) (.inl rfl) (fun b' u hb hu=>(Heap.get?_update_other s.heap (Obj.mapSeq f) (Ne.symm hb)).trans hu) ⟨_,q⟩ ?_;exact⟨hz,its',_,hv,q⟩
theorem Inv.lnew{its:List Value}{t':Nat}(I:Inv X pins σ H s)(hv:Zq ys its)(hz:ys.length≤sizeLine):
  Inv X pins σ (upd H s.heap.objs.size (.lst ys)) {s with heap:=s.heap.push {cls:= .type "list",data:= .seq its.toArray},toks:=t'}:=
 I.laid (fun _ _ q=>Heap.get?_push_of_some _ q) (Nat.le_refl _) ⟨hz,its,0,hv,Heap.get?_push_size _ rfl⟩
theorem Inv.fresh(I:Inv X pins σ H s):H s.heap.objs.size=none:=I.hok.fresh (Nat.le_refl _)
theorem Inv.lstM(I:Inv X pins σ H s)(hH:H l=some (.lst xs)):xs.length≤sizeLine∧∃(its:List Value)(n:Nat),Zq xs its∧xs.length=its.length∧s.heap.get? l=some {cls:= .type "list",data:= .seq its.toArray n}:=by
 obtain⟨z,its,n,r,e⟩:=I.hok l _ hH;exact⟨z,its,n,r,r.length,e⟩
theorem ZeA{n:Nat}(h:n≤sizeLine):Builtin.List.listTooLong n=false:=by
 unfold Builtin.List.listTooLong;exact decide_eq_false (by omega)
end
section
variable {X:Cx}
noncomputable def rAppend:V→List V→Hp→VK→Prop:=fun x vs H Q=>∃l xs y,x= .ref l∧vs=[y]∧H l=some (.lst xs)∧xs.length<sizeLine∧Q .non (upd H l (.lst (xs++ [y])))
theorem YT:MtM X "list.append" rAppend:=by
 intro pins s σ H x vs v us Q I rx rv h;obtain⟨l,xs,y,rfl,rfl,hH,hz,q⟩:=h;cases rx;obtain⟨u,rfl,ru⟩:=rv.one;obtain⟨z,its,n,r,hl,e⟩:=I.lstM hH;refine call_meets F.slot_list_append ⟨_,e,rfl⟩ F.entry_list_append (F.args_list_append_2 _ _) (PySem.list_append l its.toArray n u (by rw[List.size_toArray];omega)) ⟨e,?_⟩;refine⟨.non,_,I.lset (its':=its++ [u]) hH e (by simp) (r.append (.cons ru .nil)) ?_,rfl,q⟩;rw[List.length_append,List.length_singleton];omega
noncomputable def rExtend:V→List V→Hp→VK→Prop:=fun x vs H Q=>∃l b xs zs,x= .ref l∧vs=[.ref b]∧H l=some (.lst xs)∧H b=some (.lst zs)∧xs.length+zs.length≤sizeLine∧Q .non (upd H l (.lst (xs++zs)))
theorem ZlT:MtM X "list.extend" rExtend:=by
 intro pins s σ H x vs v us Q I rx rv h;obtain⟨l,b,xs,zs,rfl,rfl,hH,hB,hz,q⟩:=h;cases rx;obtain⟨u,rfl,ru⟩:=rv.one;cases ru;obtain⟨z,its,n,r,hl,e⟩:=I.lstM hH;obtain⟨z2,its2,n2,r2,hl2,e2⟩:=I.lstM hB;have hsz:its.toArray.size+its2.toArray.size≤sizeLine:=by rw[List.size_toArray,List.size_toArray];omega
 have hlong:¬(!its.toArray.isEmpty&&Builtin.List.listTooLong (its.toArray.size+its2.toArray.size))=true:=by
  rw[ZeA hsz,Bool.and_false];exact Bool.false_ne_true
 refine call_meets F.slot_list_extend ⟨_,e,rfl⟩ F.entry_list_extend (F.args_list_extend_2 _ _)
  (AutoSeq1.list_extend_list_list_0 l its.toArray n b its2.toArray n2 hlong (by rw[List.size_toArray];omega) (by omega)) ⟨e,e2,?_⟩
 refine⟨.non,_,I.lset (its':=its++its2) hH e (by simp) (r.append r2) ?_,rfl,q⟩;rw[List.length_append];omega
noncomputable def rPop:V→List V→Hp→VK→Prop:=fun x vs H Q=>∃l xs y,x= .ref l∧vs=[]∧H l=some (.lst xs)∧xs[xs.length-1]? =some y∧Q y (upd H l (.lst xs.dropLast))
theorem ZmM:MtM X "list.pop" rPop:=by
 intro pins s σ H x vs v us Q I rx rv h;obtain⟨l,xs,y,rfl,rfl,hH,hy,q⟩:=h;cases rx;have hus:=rv.zero;subst hus;obtain⟨z,its,n,r,hl,e⟩:=I.lstM hH;obtain⟨u,hu,ru⟩:=r.get hy;have hy':its.toArray[its.toArray.size-1]? =some u:=by
  show its.toArray[its.length-1]? =some u;rw[←Array.getElem?_toList,←hl];exact hu
 refine call_meets F.slot_list_pop ⟨_,e,rfl⟩ F.entry_list_pop (F.args_list_pop_1 _) (MeetsSeq.list_pop_last l its.toArray n u hy' (by rw[List.size_toArray];omega)) ⟨e,?_⟩;refine⟨y,_,I.lset (its':=its.dropLast) hH e ?_ r.dropLast ?_,ru,q⟩
 ·show its.toArray.eraseIdxIfInBounds (its.toArray.size-1)=its.dropLast.toArray;rw[List.size_toArray,List.eraseIdxIfInBounds_toArray,ZgH]
 ·rw[List.length_dropLast];omega
noncomputable def rReverse:V→List V→Hp→VK→Prop:=fun x vs H Q=>∃l xs,x= .ref l∧vs=[]∧H l=some (.lst xs)∧Q .non (upd H l (.lst xs.reverse))
theorem ZgR:MtM X "list.reverse" rReverse:=by
 intro pins s σ H x vs v us Q I rx rv h;obtain⟨l,xs,rfl,rfl,hH,q⟩:=h;cases rx;have hus:=rv.zero;subst hus;obtain⟨z,its,n,r,hl,e⟩:=I.lstM hH;refine call_meets F.slot_list_reverse ⟨_,e,rfl⟩ F.entry_list_reverse (F.args_list_reverse_1 _) (AutoSeq1.list_reverse_list_0 l its.toArray n (by rw[List.size_toArray];omega)) ⟨e,?_⟩;refine⟨.non,_,I.lset (its':=its.reverse) hH e (by simp) r.reverse ?_,rfl,q⟩;rw[List.length_reverse];omega
noncomputable def rCat:R2:=fun x y H Q=>∃l b xs zs,x= .ref l∧y= .ref b∧H l=some (.lst xs)∧H b=some (.lst zs)∧xs.length+zs.length≤sizeLine∧∀p,H p=none→Q (.ref p) (upd H p (.lst (xs++zs)))
theorem Zlj:OpR X (binaryOp .Add) rCat:=by
 intro pins s σ H x y v u Q I rx ry h;obtain⟨l,b,xs,zs,rfl,rfl,hH,hB,hz,q⟩:=h;cases rx;cases ry;obtain⟨z,its,n,r,hl,e⟩:=I.lstM hH;obtain⟨z2,its2,n2,r2,hl2,e2⟩:=I.lstM hB;refine PySem.P.add_list e e2 ?_ (by rw[List.size_toArray,List.size_toArray];omega);have ea:its.toArray++its2.toArray=(its++its2).toArray:=by simp
 rw[ea];exact⟨.ref _,_,I.lnew (t':=s.toks) (r.append r2) (by rw[List.length_append];omega),rfl,q _ I.fresh⟩
noncomputable def rRep:R2:=fun x y H Q=>∃l k xs,x= .ref l∧y= .int k∧H l=some (.lst xs)∧ -(2 ^ 63)≤k∧k<2 ^ 63∧xs.length*k.toNat≤sizeLine∧
 ∀p,H p=none→Q (.ref p) (upd H p (.lst (List.replicate k.toNat xs).flatten))
theorem ZjQ{α:Type}(xs:List α)(k:Nat):(List.replicate k xs).flatten.length=k*xs.length:=by
 induction k with
 |zero=>simp
 |succ k ih=>rw[List.replicate_succ,List.flatten_cons,List.length_append,ih,Nat.succ_mul,Nat.add_comm]
theorem ZkN:OpR X (binaryOp .Mult) rRep:=by
 intro pins s σ H x y v u Q I rx ry h;obtain⟨l,k,xs,rfl,rfl,hH,h1,h2,hz,q⟩:=h;cases rx;obtain⟨t,rfl⟩:=ry;obtain⟨z,its,n,r,hl,e⟩:=I.lstM hH;have hlen:its.toArray.size*k.toNat≤sizeLine:=by rw[List.size_toArray,←hl];exact hz
 have hcap:¬its.toArray.size*k.toNat > (2 ^ 63-1) / 8:=by
  have:(sizeLine:Nat)≤(2 ^ 63-1) / 8:=by decide
  omega
 have hfit:¬(!Builtin.List.listFitsIndex k)=true:=by
  rw[fitsIndex_both h1 h2];exact Bool.false_ne_true
 have hlong:¬Builtin.List.listTooLong (its.toArray.size*k.toNat)=true:=by
  rw[ZeA hlen];exact Bool.false_ne_true
 have hnew:List.foldl (fun x1 x2=>x1++x2) #[] (List.replicate (if its.toArray.isEmpty=true then 0 else k.toNat) its.toArray)=(List.replicate k.toNat its).flatten.toArray:=by
  have f0:∀m:Nat,List.foldl (fun x1 x2=>x1++x2) #[] (List.replicate m its.toArray)=(List.replicate m its).flatten.toArray:=fun m=>by
   have:=ZdZ its m [];rw[List.nil_append] at this;exact this
  rw[f0];cases its with
  |nil=>simp
  |cons a r'=>rw[if_neg (by simp)]
 refine wpAny_binaryOp_repeat_ref (T:="list") (U:="int") (by decide) ⟨_,e,rfl⟩ (fun s'=>typeIs_int s' k t) noFill_list_mul F.fills_int_mul F.slot_int_rmul repeat_list F.slot_int_index.lookup
  (call_meets F.slot_int_rmul (typeIs_int s k t) F.entry_int_rmul (F.args_int_rmul_2 _ _) (int___rmul___int_list k t l its.toArray n)
   ⟨e,rfl,⟨_,e,rfl⟩,call_meets F.slot_list_mul ⟨_,e,rfl⟩ F.entry_list_mul (F.args_list_mul_2 _ _) (AutoListH.list___mul___list_int_3 l its.toArray n k t hfit hcap hlong) ⟨e,?_⟩⟩)
 rw[hnew];exact⟨.ref _,_,I.lnew (t':=s.toks) (r.rep k.toNat) (by rw[ZjQ,Nat.mul_comm];exact hz),rfl,q _ I.fresh⟩
end
section
variable {prog:Program}{w:World}{A:Around}{E:Value→Shared→Prop}{s:Shared}
end
section
variable {X:Cx}
end
end L2
namespace Att
open PySem PySem.W PySem.Calls PyProof.Rows
theorem ZcU{P:Params}{h:Heap}:∀(ns:List Int)(vs:List Value),WellAll P h vs (ns.map WData.int)→IntsAre vs ns:=by
 intro ns
 induction ns with
 |nil=>
  intro vs w;rw[List.map_nil] at w;cases w;exact .nil
 |cons n ns ih=>
  intro vs w;rw[List.map_cons] at w;cases w with
  |cons a b=>
   cases a;exact .cons _ _ (ih _ b)
theorem Zhq{l:OpenLaw}{n:Nat}(hn:l.most=some n){P:Params}{h:Heap}{args:List WData}{vals:List Value}
  (hpre:l.row.toRowW.claim.pre args=true) (hwl:WellAll P h vals args):
  ∃a vs ns,vals=[Value.ref a]∧args=[WData.list (ns.map WData.int)]∧h.get? a=some {cls:= .type "list",data:= .seq vs.toArray}∧IntsAre vs ns∧ns.length≤n:=by
 have hsh:WShape.hasAll [] args [.list .int]=true:=(pre_splitW hpre).1;have hc:l.pre.holds [] {args:=args}=true:=(pre_splitW hpre).2;obtain⟨d,r,rfl,h1,h2⟩:=hasAllW_cons hsh;obtain rfl:=hasAllW_nil h2;obtain⟨xs,rfl,h3⟩:=hasW_list h1;obtain⟨ns,rfl⟩:=items_int h3;have hlen:ns.length≤n:=by
  unfold OpenLaw.pre at hc;have h4:(WTm.not (.lt (.lit (.int (n:Int))) (.len (.arg 0)))).holds [] {args:=[.list (ns.map .int)]}=true:=by
   have h4:=(holds_andW hc).1;rw[hn] at h4;exact h4
  have h5:=condW_of h4 (w_not (w_lt w_lit (w_len_list (w_arg rfl))));rw[List.length_map] at h5;refine Nat.le_of_not_lt fun q=>?_;have q':(n:Int)<((ns.length:Nat):Int):=by omega
  first
   |(rw[decide_eq_true q'] at h5;exact absurd h5 (by decide))
   |(simp at h5;omega)
 cases hwl with
 |cons w1 w2=>
  cases w2;cases w1 with
  |list ho hall=>exact⟨_,_,ns,rfl,rfl,ho,ZcU ns _ hall,hlen⟩
theorem ZhV(l:OpenLaw)(args:List WData):l.row.toRowW.claim.post args (.bool true) args=true:=
 postW_of (r:=l.row.toRowW) (X:=(true==true))
  (show WShape.has [] (.bool true) .bool=true by first|rfl|decide|simp[WShape.has,WShape.arms,WShape.armsAll])
  (show(WTm.eq .res (.lit (.bool true))).value [] {args:=args,res:=some (.bool true),after:=args}=some (.bool (true==true)) from w_eq_bool (w_res rfl) w_lit) rfl
theorem Zfi{l:OpenLaw}{n:Nat}{q:Program}{loose:List Str}{XP:(Str→Option Value)→Heap→Prop}{YP:World→Heap→Prop}{d:DefRec}
  (hn:l.most=some n) (hdf:d.params.defaults=[])
  (call:∀(w:World)(s₀ s₁:Shared)(mg mb:Str→Option Value)(fa:Addr)(o:Obj)(pm cd doc:Value)(a:Addr)(vs:List Value)(ns:List Int),
   Ground q loose [] XP w s₀ mg mb s₁.heap→YP w s₁.heap→
   s₁.heap.get? fa=some o→o.data= .func (docDef d.name d.params d.body d.scope pm cd doc)→s₁.heap.CodeRec cd d.name→mg d.name=some (.ref fa)→
   s₁.heap.get? a=some {cls:= .type "list",data:= .seq vs.toArray}→IntsAre vs ns→ns.length≤n→s₁.gens=#[]→
   codeAny (model l.prog w) callerA (.call (.ref fa) ⟨[.ref a],[]⟩) (fun r s'=>r= .ok (.ret (.bool true))∧OldK s₁.heap s'.heap∧s'.os=s₁.os∧AllBare s'.gens) s₁):
  WalkO q loose XP YP l.row.toRowW d [] (fun f vs=>PySem.call f vs):=by
 intro w s₀ s₁ mg mb G Y fa o pm cd doc dV kV ho hd hcd hD hmg hg args vals as hpre hlay hrd hwl hlo;obtain rfl:dV= .none:=Dflts.none hD hdf;obtain rfl:kV= .none:=Dflts.noKw hD;obtain⟨a,vs,ns,rfl,rfl,hobj,hints,hlen⟩:=Zhq hn hpre hwl;refine enter_call (codeAny_mono (call w s₀ s₁ mg mb fa o pm cd doc a vs ns G Y ho (fd_plain hd) hcd hmg hobj hints hlen hg) fun r s' hq=>?_);obtain⟨rfl,h2,h3,h4⟩:=hq;exact⟨.inl ⟨.bool true,.bool true,[],rfl,fun _=>rfl,.bool true,ZhV l _,fun _=>⟨List.Pairwise.nil,fun _ hm=>(nomatch hm)⟩⟩,h2,h3,h4⟩
section
variable {prog:Program}{w:World}{A:Around}{E:Value→Shared→Prop}{s:Shared}{K:Frag}
end
end Att
namespace L2
open PySem PySem.Spec PyProof.Rows
theorem ZbJ:∀{vs:List Value}{ns:List Int},IntsAre vs ns→Zq (ns.map V.int) vs
 |_,_,.nil=> .nil
 |_,_,.cons n t h=> .cons ⟨t,rfl⟩ (ZbJ h)
def Zif(H:Hp):Prop:=∀b,H b=none∨∃o xs,H b=some (.frz o (.lst xs))
theorem ZiY{P:Program}{w:World}{K:PySem.W.Frag}{mg mb:Str→Option Value}{CX:CXT}{k:Nat}{fa a:Addr}{fd:FuncData}{x:Str}{sp:Sp}{s₁:Shared}{vs:List Value}{ns:List Int}
  (KX:K.In s₁.heap) (hns:s₁.heap.Ns mainGlobals mg) (hb:s₁.heap.Ns builtinsNs mb) (hbb:∀x:Str,x≠"__name__" →mb x=bootBuiltins x) (hlim:s₁.heap.NoLimit) (hg:s₁.gens=#[])
  (ha:s₁.heap.get? a=some {cls:= .type "list",data:= .seq vs.toArray}) (hi:IntsAre vs ns) (hl:ns.length≤sizeLine) (hr:Yq k callerA)
  (F:∀base:Heap,K.In base→base.Ns mainGlobals mg→Zk P w K mg base CX k fa fd [x] sp) (hbind:∀(s:Shared)(u:Value),BindsTo s fd ⟨[u],[]⟩ [(x,u)])
  (hsp:∀H:Hp,Zif H→SqL K H a (ns.map V.int)→sp [.ref a] H (fun v _=>v= .bl true) fun _ _ _=>False)
  (hCX:∀H e s',CX [] H s₁ (fun _ _ _=>False) e s'→False):
  codeAny (model P w) callerA (.call (.ref fa) ⟨[.ref a],[]⟩) (fun r s'=>r= .ok (.ret (.bool true))∧OldK s₁.heap s'.heap∧s'.os=s₁.os∧AllBare s'.gens) s₁:=by
 have rv:=ZbJ hi;have lenV:=hi.length;have core:∀H:Hp,Zif H→SqL K H a (ns.map V.int)→HOk P w H s₁.heap→(∀b,H b≠none→b=a)→(H a≠none→K.lookup a=none)→
   codeAny (model P w) callerA (.call (.ref fa) ⟨[.ref a],[]⟩) (fun r s'=>r= .ok (.ret (.bool true))∧OldK s₁.heap s'.heap∧s'.os=s₁.os∧AllBare s'.gens) s₁:=by
  intro H hO hS hok hA hK;have base_of:∀{b:Addr}{o:Obj},s₁.heap.get? b=some o→H b=none→(ZaZ s₁.heap H).get? b=some o:=fun e n=>Zin e n;have noA:∀{b:Addr}{o:Obj}{es:Array DictEntry}{ep:Nat},s₁.heap.get? b=some o→o.data= .dict es ep→H b=none:=fun{b o es ep} e d=>by
   cases q:H b with
   |none=>rfl
   |some u=>
    have e':b=a:=hA b (by rw[q];simp);subst e';rw[ha] at e;cases e;have d':Data.seq vs.toArray _=Data.dict es ep:=d;cases d'
  have nsK:∀{b:Addr}{m:Str→Option Value},s₁.heap.Ns b m→(ZaZ s₁.heap H).Ns b m:=fun{b m} ⟨o,es,ep,e,d,r⟩=>⟨o,es,ep,base_of e (noA e d),d,r⟩;have hKb:K.In (ZaZ s₁.heap H):=fun b o e=>base_of (KX b o e) (by
   cases q:H b with
   |none=>rfl
   |some u=>
    have e':b=a:=hA b (by rw[q];simp);subst e';rw[hK (by rw[q];simp)] at e;cases e)
  have hM:Mod K mg (ZaZ s₁.heap H):=⟨hKb,nsK hns,⟨mb,nsK hb,hbb⟩,let⟨mc,h1,h2⟩:=hlim;⟨mc,nsK h1,h2⟩⟩;have e0:ZcC P w K mg (ZaZ s₁.heap H) callerA [] s₁ H:=⟨rfl,hM,fun b o e=>ZjR e,Nat.le_of_eq (Zh5 _ _),trivial,fun b hb=>absurd (show b∈([]:List Addr) from hb) (by simp),hok,.of_eq hg⟩;refine codeAny_mono ((F _ hKb (nsK hns)).run callerA [] s₁ H ⟨[.ref a],[]⟩ [.ref a] [.ref a] _ _ hr e0 (hbind s₁ (.ref a)) (.cons rfl .nil) (hsp H hO hS)) fun r s' h=>?_;cases r with
  |error e=>exact(hCX H e s' h).elim
  |ok fl=>
   cases fl with
   |next=>exact False.elim h
   |brk=>exact False.elim h
   |cont=>exact False.elim h
   |ret u=>
    obtain⟨v,H',os,bare,un,hok',r',q⟩:=h;have q':v= .bl true:=q;subst q';obtain rfl:u=Value.bool true:=r';refine⟨rfl,OldK.of_keep fun b o e=>?_,os,bare⟩;cases q:H b with
    |none=>exact un.keep b o e q (by intro z;exact absurd (show b∈([]:List Addr) from z) (by simp)) (by simp)
    |some u=>
     rcases hO b with z|⟨ob,xs,z⟩
     ·rw[q] at z;cases z
     ·have z2:=un.frzs b ob _ z;obtain⟨e1,_⟩:=hok b _ z;obtain⟨e2,_⟩:=hok' b _ z2;rw[e] at e1;cases e1;exact e2
 cases hk:K.lookup a with
 |some o=>
  have e:=KX a o hk;rw[ha] at e;cases e;refine core (fun _=>none) (fun _=> .inl rfl) (.inr ⟨_,vs.toArray,_,hk,rfl,rfl,rfl,by rw[List.size_toArray,lenV];exact hl,by simpa using rv⟩) (fun b u z=>by have z':(none:Option HO)=some u:=z;cases z') (fun b z=>absurd rfl z) fun z=>absurd rfl z
 |none=>
  refine core (fun b=>if b=a then some (.frz {cls:= .type "list",data:= .seq vs.toArray} (.lst (ns.map V.int))) else none) (fun b=>?_) (.inl (.inr ⟨{cls:= .type "list",data:= .seq vs.toArray},if_pos rfl⟩)) (fun b u z=>?_) (fun b z=>?_) fun _=>hk
  ·by_cases hb:b=a
   ·exact .inr ⟨_,_,if_pos hb⟩
   ·exact .inl (if_neg hb)
  ·by_cases hb:b=a
   ·have z':=(if_pos hb).symm.trans z;cases z';subst hb;exact⟨ha,by rw[List.length_map];exact hl,vs,_,rv,ha⟩
   ·have z':=(if_neg hb).symm.trans z;cases z'
  ·by_cases hb:b=a
   ·exact hb
   ·exact absurd (if_neg hb) z
end L2
namespace L2
open PySem PySem.Spec PyProof.Rows
theorem ZjW{l:PySem.W.OpenLaw}{n k:Nat}{q:Program}{loose:List Str}{XP:(Str→Option Value)→Heap→Prop}{YP:World→Heap→Prop}{d:DefRec}{K:Params→PySem.W.Frag}{CX:World→CXT}{sp:World→Sp}{x:Str}
  (hn:l.most=some n) (hn2:n≤sizeLine) (hdf:d.params.defaults=[]) (hr:Yq k callerA)
  (hY:∀(w:World)(h:Heap),YP w h→(K w.params).In h)
  (F:∀(w:World)(mg:Str→Option Value)(fa:Addr)(h:Heap),(K w.params).In h→h.Ns mainGlobals mg→mg d.name=some (.ref fa)→
   ∃fd:FuncData,(∀(s:Shared)(u:Value),BindsTo s fd ⟨[u],[]⟩ [(x,u)])∧
    ∀base:Heap,(K w.params).In base→base.Ns mainGlobals mg→Zk l.prog w (K w.params) mg base (CX w) k fa fd [x] (sp w))
  (hsp:∀(w:World)(H:Hp)(a:Addr)(ns:List Int),ns.length≤n→Zif H→SqL (K w.params) H a (ns.map V.int)→sp w [.ref a] H (fun v _=>v= .bl true) fun _ _ _=>False)
  (hCX:∀(w:World)(H:Hp)(s:Shared)(e:Value)(s':Shared),CX w [] H s (fun _ _ _=>False) e s'→False):
  PySem.W.WalkO q loose XP YP l.row.toRowW d [] (fun f vs=>PySem.call f vs):=by
 refine Att.Zfi hn hdf fun w s₀ s₁ mg mb fa o pm cd doc a vs ns G Y ho hd hcd hmg hobj hints hlen hg=>?_;have KX:=hY w _ Y;obtain⟨fd,hb,hF⟩:=F w mg fa _ KX G.T.g hmg;exact ZiY KX G.T.g G.T.b G.T.builtins G.T.nolimit hg hobj hints (Nat.le_trans hlen hn2) hr hF hb (fun H hO hS=>hsp w H a ns hlen hO hS) fun H e s'=>hCX w H s₁ e s'
end L2
namespace L2
open PySem PySem.Spec PyProof.Rows
noncomputable def Yo (s:Stmt) (j:Nat):Stmt:=match s with
 | .ClassDef _ _ _ body _ _ _ _ _ _ _=>body.getD j (.Pass ⟨0,0,0,0⟩)
 |_=> .Pass ⟨0,0,0,0⟩
noncomputable def Vr (s:Stmt):Arguments:=match s with
 | .FunctionDef _ a _ _ _ _ _ _ _ _=>a
 |_=>{posonlyargs:=[],args:=[],vararg:=none,kwonlyargs:=[],kw_defaults:=[],kwarg:=none,defaults:=[]}
noncomputable def WD (s:Stmt):List Stmt:=match s with
 | .FunctionDef _ _ b _ _ _ _ _ _ _=>b
 |_=>[]
noncomputable def Zi (s:Stmt):Scope:=match s with
 | .FunctionDef _ _ _ _ _ _ sc _ _ _=>sc
 |_=>{kind:= .function,names:=[],isGenerator:=false,isCoroutine:=false}
noncomputable abbrev E0:XK:=fun _ _ _=>False
structure Fun(K:PySem.W.Frag)(x qual:Str)(st:Stmt)(f:Addr)(fd:FuncData):Prop where
 ex:∃(oc:Value)(od:Option Addr)(kV doc pm:Value)(an:Option Addr)(cdv ct:Value)(osl:Array (Option Value)),
  fd=PySem.W.fnOf x qual (Vr st) (WD st) (Zi st) .none kV doc pm an cdv ct∧K.lookup f=some ⟨oc,od,.func fd,osl⟩∧PySem.W.codeIn K cdv qual=true
 kp:PySem.W.keepIn K (.ref f)=true
section
variable {P:Program}{w:World}{K:PySem.W.Frag}{mg:Str→Option Value}{base:Heap}
theorem Fun.binds{x qual:Str}{st:Stmt}{f:Addr}{fd:FuncData}{ps:List Str}(F:Fun K x qual st f fd)
  (h:∀(kV doc pm:Value)(an:Option Addr)(cdv ct:Value)(us:List Value),us.length=ps.length→bindArgs (PySem.W.fnOf x qual (Vr st) (WD st) (Zi st) .none kV doc pm an cdv ct) ⟨us,[]⟩=pure (ps.zip us)):Zz K fd ps []:=by
 obtain⟨oc,od,kV,doc,pm,an,cdv,ct,osl,rfl,lk,hcd⟩:=F.ex;exact .all (h kV doc pm an cdv ct)
theorem ZD{x qual:Str}{st:Stmt}{f:Addr}{oc:Value}{od an:Option Addr}{osl:Array (Option Value)}{kV doc pm cdv ct:Value}(l:K.lookup f=some ⟨oc,od,.func (PySem.W.fnOf x qual (Vr st) (WD st) (Zi st) .none kV doc pm an cdv ct),osl⟩)
  (c:PySem.W.codeIn K cdv qual=true) (k:PySem.W.keepIn K (.ref f)=true):Fun K x qual st f (PySem.W.fnOf x qual (Vr st) (WD st) (Zi st) .none kV doc pm an cdv ct):=⟨⟨oc,od,kV,doc,pm,an,cdv,ct,osl,rfl,l,c⟩,k⟩
end
theorem Zs{n:Nat}(h:n≤1000):n<sizeLine:=Nat.lt_of_le_of_lt h (by decide)
section
variable {X:Cx}
theorem pv(i:Nat){x:Str}{pos:Pos}(hN:X.N[i]? =some x:=by rfl)(hv:Vis X.env.scope x:=by first|exact Or.inl rfl|exact Or.inr (Or.inl rfl)|exact Or.inr (Or.inr rfl))(hd:(x==("__debug__" :Str))=false:=by decide)
  (hcd:(x==("__classdict__" :Str))=false:=by decide):PE X (.Name x pos) (Zgc i):=ZkW hN hv hd hcd
end
theorem Zdv{A B:Prop}(h:B):if false=true then A else B:=by
 rw[if_neg Bool.false_ne_true];exact h
theorem ZeZ{A B:Prop}(h:A):if true=true then A else B:=by
 rw[if_pos rfl];exact h
theorem Vp{c A B:Prop}[Decidable c](h1:c→A)(h2:¬c→B):if c then A else B:=by
 by_cases h:c
 ·rw[if_pos h];exact h1 h
 ·rw[if_neg h];exact h2 h
def Zd(H H':Hp):Prop:=∀b o,H b=some o→H' b=some o
theorem Zd.refl(H:Hp):Zd H H:=fun _ _ h=>h
theorem Zd.trans{H H1 H2:Hp}(a:Zd H H1)(b:Zd H1 H2):Zd H H2:=fun c o h=>b c o (a c o h)
theorem Zd.seq{K:PySem.W.Frag}{H H':Hp}{a:Addr}{xs:List V}(e:Zd H H')(h:SqL K H a xs):SqL K H' a xs:=by
 rcases h with(h|⟨o,h⟩)|h
 ·exact .inl (.inl (e _ _ h))
 ·exact .inl (.inr ⟨o,e _ _ h⟩)
 ·exact .inr h
end L2
namespace L2
open PySem PySem.Spec PyProof.Rows
section
variable {κ:Type}[DecidableEq κ]
noncomputable def valV (kvs:List (κ×V)) (k:κ):Option V:=(kvs.find? fun kv=>decide (kv.1=k)).map (·.2)
noncomputable def Z4 (kvs:List (κ×V)) (k:κ) (v:V):List (κ×V):=
 if(kvs.any fun kv=>decide (kv.1=k))=true then kvs.map (fun kv=>if kv.1=k then(kv.1,v) else kv) else kvs++ [(k,v)]
theorem Zco{k:κ}:valV ([]:List (κ×V)) k=none:=rfl
theorem Yl{p:κ×V}{r:List (κ×V)}{k:κ}(e:p.1=k):valV (p::r) k=some p.2:=by simp[valV,List.find?_cons,e]
theorem Yn{p:κ×V}{r:List (κ×V)}{k:κ}(e:¬p.1=k):valV (p::r) k=valV r k:=by simp[valV,List.find?_cons,e]
theorem WZ(k:κ):∀kvs:List (κ×V),(kvs.any fun kv=>decide (kv.1=k))=(valV kvs k).isSome
 | []=>rfl
 |p::r=>by
  rw[List.any_cons]
  by_cases e:p.1=k
  ·simp only[Yl e,decide_eq_true e,Bool.true_or,Option.isSome_some]
  ·rw[Yn e,decide_eq_false e,Bool.false_or];exact WZ k r
theorem ZeS(k j:κ)(y:V):∀kvs:List (κ×V),valV (kvs.map fun kv=>if kv.1=k then(kv.1,y) else kv) j=(valV kvs j).map fun x=>if j=k then y else x
 | []=>rfl
 |p::r=>by
  have ih:=ZeS k j y r;rw[List.map_cons]
  by_cases h:p.1=k
  ·rw[if_pos h]
   by_cases e:p.1=j
   ·rw[Yl (p:=(p.1,y)) e,Yl e,Option.map_some,if_pos (e.symm.trans h)]
   ·rw[Yn (p:=(p.1,y)) e,Yn e,ih]
  ·rw[if_neg h]
   by_cases e:p.1=j
   ·rw[Yl (p:=p) e,Yl e,Option.map_some,if_neg (fun z=>h (e.trans z))]
   ·rw[Yn (p:=p) e,Yn e,ih]
theorem Zdz(k j:κ)(y:V):∀kvs:List (κ×V),valV kvs k=none→valV (kvs++ [(k,y)]) j=if j=k then some y else valV kvs j
 | [],_=>by
  by_cases e:k=j
  ·rw[if_pos e.symm];exact Yl (p:=(k,y)) e
  ·rw[if_neg (fun z=>e z.symm)];exact Yn (p:=(k,y)) e
 |p::r,hn=>by
  rw[List.cons_append];have hk:¬p.1=k:=fun z=>by rw[Yl z] at hn;cases hn
  rw[Yn hk] at hn;have ih:=Zdz k j y r hn
  by_cases e:p.1=j
  ·rw[Yl e,Yl e,if_neg (fun z=>hk (e.trans z))]
  ·rw[Yn e,Yn e,ih]
theorem V0(kvs:List (κ×V))(k j:κ)(y:V):valV (Z4 kvs k y) j=if j=k then some y else valV kvs j:=by
 unfold Z4
 by_cases a:(kvs.any fun kv=>decide (kv.1=k))=true
 ·rw[if_pos a,ZeS];rw[WZ] at a
  by_cases e:j=k
  ·obtain⟨x,hx⟩:=Option.isSome_iff_exists.mp a;rw[if_pos e,e,hx,Option.map_some,if_pos rfl]
  ·rw[if_neg e];cases valV kvs j with
   |none=>rfl
   |some x=>rw[Option.map_some,if_neg e]
 ·rw[if_neg a];refine Zdz k j y kvs ?_;rw[WZ] at a;cases q:valV kvs k with
  |none=>rfl
  |some x=>rw[q] at a;exact(a rfl).elim
theorem Ud(kvs:List (κ×V))(k:κ)(v:V):(Z4 kvs k v).length≤kvs.length+1:=by
 unfold Z4
 split
 ·rw[List.length_map];omega
 ·rw[List.length_append,List.length_cons,List.length_nil];omega
theorem Vk{kvs:List (κ×V)}{k:κ}(v:V)(h:valV kvs k=none):Z4 kvs k v=kvs++ [(k,v)]:=by
 unfold Z4;rw[WZ,h];exact if_neg (by decide)
theorem W1.isSome_eq{o:Option V}{u:Option Value}(r:W1 o u):o.isSome=u.isSome:=by
 cases o with
 |none=>cases u with
  |none=>rfl
  |some _=>exact(show False from r).elim
 |some _=>cases u with
  |none=>exact(show False from r).elim
  |some _=>rfl
theorem KV.val{kvs:List (κ×V)}{vs:List (κ×Value)}(r:KV kvs vs)(k:κ):W1 (valV kvs k) (valueAt vs k):=by
 unfold KV at r
 induction r with
 |nil=>exact True.intro
 | @cons p q ps qs h t ih=>
  obtain⟨h1,h2⟩:=h
  by_cases e:p.1=k
  ·have e':q.1=k:=h1.symm.trans e;have b:valueAt (q::qs) k=some q.2:=by simp[valueAt,List.find?_cons,e']
   rw[Yl e,b];exact h2
  ·have e':¬q.1=k:=fun z=>e (h1.trans z);have b:valueAt (q::qs) k=valueAt qs k:=by simp[valueAt,List.find?_cons,e']
   rw[Yn e,b];exact ih
theorem KV.any{kvs:List (κ×V)}{vs:List (κ×Value)}(r:KV kvs vs)(k:κ):(kvs.any fun kv=>decide (kv.1=k))=vs.any fun kv=>decide (kv.1=k):=by
 unfold KV at r
 induction r with
 |nil=>rfl
 |cons h t ih=>rw[List.any_cons,List.any_cons,ih,h.1]
theorem KV.repl{kvs:List (κ×V)}{vs:List (κ×Value)}(r:KV kvs vs)(k:κ){y:V}{u:Value}(ry:Zu y u):
  KV (kvs.map fun kv=>if kv.1=k then(kv.1,y) else kv) (vs.map fun kv=>if kv.1=k then(kv.1,u) else kv):=by
 unfold KV at r⊢
 induction r with
 |nil=>exact .nil
 | @cons p q ps qs h t ih=>
  rw[List.map_cons,List.map_cons];refine .cons ?_ ih;obtain⟨h1,h2⟩:=h
  by_cases e:p.1=k
  ·rw[if_pos e,if_pos (h1.symm.trans e)];exact⟨h1,ry⟩
  ·rw[if_neg e,if_neg (fun z=>e (h1.trans z))];exact⟨h1,h2⟩
theorem KV.put{kvs:List (κ×V)}{vs:List (κ×Value)}(r:KV kvs vs)(k:κ){y:V}{u:Value}(ry:Zu y u):KV (Z4 kvs k y) (stored vs k u):=by
 unfold Z4 stored;rw[r.any k]
 by_cases e:(vs.any fun kv=>decide (kv.1=k))=true
 ·rw[if_pos e,if_pos e];exact r.repl k ry
 ·rw[if_neg e,if_neg e];exact Paired.snoc r ⟨rfl,ry⟩
theorem KV.length{kvs:List (κ×V)}{vs:List (κ×Value)}(r:KV kvs vs):kvs.length=vs.length:=Paired.length r
end
theorem ZaY{P:Program}{w:World}{k:Key}{u:Value}(r:Zu (kV k) u):(ZO P w).is k u=true:=by
 cases k with
 |inl i=>obtain⟨t,e⟩:=(show ∃t,u=Value.int i t from r);subst e;exact Zfh P w i t
 |inr x=>obtain⟨t,e⟩:=(show ∃t,u=Value.str x t from r);subst e;exact Zfv P w x t
theorem Zkd{a b:Key}(e:kV a=kV b):a=b:=by
 cases a with
 |inl i=>cases b with
  |inl j=>have e':V.int i=V.int j:=e;injection e' with e';rw[e']
  |inr y=>exact nomatch (show V.int i=V.str y from e)
 |inr x=>cases b with
  |inl j=>exact nomatch (show V.str x=V.int j from e)
  |inr y=>have e':V.str x=V.str y:=e;injection e' with e';rw[e']
theorem ZdM{P:Program}{w:World}:∀{ks:List Key}{us:List Value},Zq (ks.map kV) us→ItemsAre (ZO P w) ks us
 | [],_,r=>by rw[List.map_nil] at r;cases r;exact .nil
 |k::ks,_,r=>by
  rw[List.map_cons] at r;cases r with
  |cons h t=>exact .cons (ZaY h) (ZdM t)
noncomputable abbrev KT (H:Hp):List (List Key×V)→List (List Key×Addr×Value)→Prop:=Paired fun p q=>p.1=q.1∧H q.2.1=some (.tup (p.1.map kV))∧Zu p.2 q.2.2
theorem KT.val{H:Hp}{kvs:List (List Key×V)}{xs:List (List Key×Addr×Value)}(r:KT H kvs xs)(k:List Key):W1 (valV kvs k) ((atKey xs k).map (·.2)):=by
 induction r with
 |nil=>exact True.intro
 | @cons p q ps qs h t ih=>
  obtain⟨h1,_,h2⟩:=h
  by_cases e:p.1=k
  ·have e':q.1=k:=h1.symm.trans e;have b:atKey (q::qs) k=some q.2:=by simp[atKey,List.find?_cons,e']
   rw[Yl e,b];exact h2
  ·have e':¬q.1=k:=fun z=>e (h1.trans z);have b:atKey (q::qs) k=atKey qs k:=by simp[atKey,List.find?_cons,e']
   rw[Yn e,b];exact ih
theorem KT.repl{H:Hp}{kvs:List (List Key×V)}{xs:List (List Key×Addr×Value)}(r:KT H kvs xs)(k:List Key){y:V}{u:Value}(ry:Zu y u):
  KT H (kvs.map fun kv=>if kv.1=k then(kv.1,y) else kv) (xs.map (putAt k u)):=by
 induction r with
 |nil=>exact .nil
 | @cons p q ps qs h t ih=>
  rw[List.map_cons,List.map_cons];refine .cons ?_ ih;obtain⟨h1,h2,h3⟩:=h;unfold putAt
  by_cases e:p.1=k
  ·rw[if_pos e,if_pos (h1.symm.trans e)];exact⟨h1,h2,ry⟩
  ·rw[if_neg e,if_neg (fun z=>e (h1.trans z))];exact⟨h1,h2,h3⟩
theorem KT.put{H:Hp}{kvs:List (List Key×V)}{xs:List (List Key×Addr×Value)}(r:KT H kvs xs)(k:List Key){b:Addr}{y:V}{u:Value}(hb:H b=some (.tup (k.map kV)))(ry:Zu y u):
  KT H (Z4 kvs k y) (storedH xs k b u):=by
 have e:(kvs.any fun kv=>decide (kv.1=k))=(atKey xs k).isSome:=by
  rw[WZ,(r.val k).isSome_eq,Option.isSome_map]
 unfold Z4 storedH;rw[e]
 by_cases q:(atKey xs k).isSome=true
 ·rw[if_pos q,if_pos q];exact r.repl k ry
 ·rw[if_neg q,if_neg q];exact Paired.snoc r ⟨rfl,hb,ry⟩
theorem KT.keeps{H H':Hp}{kvs:List (List Key×V)}{xs:List (List Key×Addr×Value)}(r:KT H kvs xs)(ht:∀b ys,H b=some (.tup ys)→H' b=some (.tup ys)):KT H' kvs xs:=
 Paired.mapP r fun _ _ z=>⟨z.1,ht _ _ z.2.1,z.2.2⟩
section
variable {P:Program}{w:World}{H:Hp}{h:Heap}{a:Addr}
theorem Zje{u:HO}(ok:HOk P w H h)(e:Rd H a u):ZU P w H h a u:=e.ok ok
theorem Zal{kvs:List (Key×V)}(ok:HOk P w H h)(e:Rd H a (.dK kvs)):kvs.length≤sizeLine∧(a==sysModules)=false∧∃vs,KV kvs vs∧h.DictOf (ZO P w) a vs:=
 show ZU P w H h a (.dK kvs) from Zje ok e
theorem Zag{kvs:List (Key×V)}(ok:HOk P w H h)(e:H a=some (.dK kvs)):kvs.length≤sizeLine∧(a==sysModules)=false∧∃vs,KV kvs vs∧h.DictOf (ZO P w) a vs:=Zal ok (.inl e)
theorem ZbD{ks:List Key}(ok:HOk P w H h)(e:H a=some (.tup (ks.map kV))):(tupleKind (ZO P w)).is h ks a:=by
 obtain⟨_,its,r,o,h1,h2,n,h3⟩:=(show ZU P w H h a (.tup (ks.map kV)) from ok a _ e);exact⟨o,its.toArray,n,h1,h2,h3,by simpa using ZdM r⟩
theorem ZcZ{kvs:List (List Key×V)}(ok:HOk P w H h)(e:Rd H a (.dT kvs)):kvs.length≤sizeLine∧(a==sysModules)=false∧
  ∃xs,KT H kvs xs∧h.DictOfH (tupleKind (ZO P w)) a xs:=by
 obtain⟨z,y,xs,r,o,es,ep,h1,h2,h3,h4,h5⟩:=(show ZU P w H h a (.dT kvs) from Zje ok e);refine⟨z,y,xs,r,o,es,ep,h1,h2,h3,h4,fun x hx=>?_,h5⟩;have all:∀{l:List (List Key×V)}{m:List (List Key×Addr×Value)},KT H l m→∀x∈m,(tupleKind (ZO P w)).is h x.1 x.2.1:=by
  intro l m q
  induction q with
  |nil=>intro x hx;exact nomatch hx
  | @cons p q ps qs hq t ih=>
   intro x hx;rcases List.mem_cons.mp hx with e|hx
   ·subst e;exact ZbD ok (by rw[←hq.1];exact hq.2.1)
   ·exact ih x hx
 exact all r x hx
theorem ZlC{kvs:List (List Key×V)}(ok:HOk P w H h)(e:H a=some (.dT kvs)):kvs.length≤sizeLine∧(a==sysModules)=false∧
  ∃xs,KT H kvs xs∧h.DictOfH (tupleKind (ZO P w)) a xs:=ZcZ ok (.inl e)
end
def UD(H:Hp)(a:Addr)(y:V)(r:Option V):Prop:=
 (∃kvs k,Rd H a (.dK kvs)∧y=kV k∧r=valV kvs k)∨∃kvs k b,Rd H a (.dT kvs)∧y= .ref b∧H b=some (.tup (k.map kV))∧r=valV kvs k
def Zdt(H:Hp)(a:Addr)(y v:V)(H':Hp):Prop:=
 (∃kvs k,H a=some (.dK kvs)∧y=kV k∧kvs.length<sizeLine∧H'=upd H a (.dK (Z4 kvs k v)))∨
 ∃kvs k b,H a=some (.dT kvs)∧y= .ref b∧H b=some (.tup (k.map kV))∧kvs.length<sizeLine∧H'=upd H a (.dT (Z4 kvs k v))
theorem UD.k{H:Hp}{a:Addr}{kvs:List (Key×V)}{k:Key}(e:H a=some (.dK kvs)):UD H a (kV k) (valV kvs k):= .inl ⟨kvs,k,.inl e,rfl,rfl⟩
theorem Zdt.k{H:Hp}{a:Addr}{kvs:List (Key×V)}{k:Key}{v:V}(e:H a=some (.dK kvs))(hl:kvs.length<sizeLine):Zdt H a (kV k) v (upd H a (.dK (Z4 kvs k v))):= .inl ⟨kvs,k,e,rfl,hl,rfl⟩
section
variable {X:Cx}{pins:List (Addr×Obj)}{σ:St}{H:Hp}{s:Shared}{a:Addr}{y v:V}{u r:Value}{o:Option V}{A:Around}{E:Value→Shared→Prop}
theorem Inv.big(I:Inv X pins σ H s):sysModules<s.heap.objs.size:=by
 have h:mainGlobals<s.heap.objs.size:=(I.mod.glob.keeps I.bk).lt;exact Nat.lt_trans (by decide) h
theorem ZhO{Q:Value→Shared→Prop}(hu:A.units+1<cLine)(I:Inv X pins σ H s)(g:UD H a y (some v))(ry:Zu y u)(h:∀w' s',Inv X pins σ H s'→Zu v w'→Q w' s'):
  wpAny (model X.prog X.w) A (getItem (.ref a) u) Q E s:=by
 rcases g with⟨kvs,k,e,ey,l⟩|⟨kvs,k,b,e,ey,eb,l⟩
 ·subst ey;obtain⟨z,hd,vs,rel,dd⟩:=Zal I.hok e;obtain⟨w',hw,rw'⟩:=W1.some_of (v:=v) (o:=valueAt vs k) (by rw[l];exact rel.val k);exact wpAny_getItem_of (ZaY ry) dd.mapOf hw (h w' _ (I.tok _) rw')
 ·subst ey;cases (show u=Value.ref b from ry);obtain⟨z,hd,xs,rel,dd⟩:=ZcZ I.hok e;obtain⟨w',hw,rw'⟩:=W1.some_of (v:=v) (o:=(atKey xs k).map (·.2)) (by rw[l];exact rel.val k);obtain⟨p,hp,hp2⟩:=Option.map_eq_some_iff.mp hw;refine wpAny_getItem_heap (tupleKind_room_in1 hu) (ZbD I.hok eb) dd hp ?_;rw[hp2];exact h w' _ (I.tok _) rw'
theorem ZlX{Q:Value→Shared→Prop}(hu:A.units+1<cLine)(I:Inv X pins σ H s)(g:UD H a y o)(ry:Zu y u)(h:∀s',Inv X pins σ H s'→Q (.bool o.isSome) s'):
  wpAny (model X.prog X.w) A (compareOp .In u (.ref a)) Q E s:=by
 rcases g with⟨kvs,k,e,ey,l⟩|⟨kvs,k,b,e,ey,eb,l⟩
 ·subst ey;obtain⟨z,hd,vs,rel,dd⟩:=Zal I.hok e;refine wpAny_in_of (ZaY ry) hd dd.mapOf ?_;rw[←(rel.val k).isSome_eq,←l];exact h _ (I.tok _)
 ·subst ey;cases (show u=Value.ref b from ry);obtain⟨z,hd,xs,rel,dd⟩:=ZcZ I.hok e;refine wpAny_in_heap (tupleKind_room_in1 hu) (ZbD I.hok eb) hd dd ?_;have q:=(rel.val k).isSome_eq;rw[Option.isSome_map] at q;rw[←q,←l];exact h _ (I.tok _)
theorem ZjE{Q:Value→Shared→Prop}(hu:A.units+1<cLine)(I:Inv X pins σ H s)(g:UD H a y o)(ry:Zu y u)(h:∀s',Inv X pins σ H s'→Q (.bool (!o.isSome)) s'):
  wpAny (model X.prog X.w) A (compareOp .NotIn u (.ref a)) Q E s:=by
 rcases g with⟨kvs,k,e,ey,l⟩|⟨kvs,k,b,e,ey,eb,l⟩
 ·subst ey;obtain⟨z,hd,vs,rel,dd⟩:=Zal I.hok e;refine wpAny_notIn_of (ZaY ry) hd dd.mapOf ?_;rw[←(rel.val k).isSome_eq,←l];exact h _ (I.tok _)
 ·subst ey;cases (show u=Value.ref b from ry);obtain⟨z,hd,xs,rel,dd⟩:=ZcZ I.hok e;refine wpAny_notIn_heap (tupleKind_room_in1 hu) (ZbD I.hok eb) hd dd ?_;have q:=(rel.val k).isSome_eq;rw[Option.isSome_map] at q;rw[←q,←l];exact h _ (I.tok _)
theorem Zat{h':Heap}{t':Nat}{ob:HO}(I:Inv X pins σ H s)(mu:Mut (H a))(hs:Heap.SameBut a s.heap h')(he:∃q,h'.get? a=some q)(new:ZU X.prog X.w (upd H a ob) h' a ob):
  Inv X pins σ (upd H a ob) {s with heap:=h',toks:=t'}:=
 I.write (x:=a) (e:=a) mu (.inl rfl) (fun b q hb z=>(hs.2 b hb).trans z) he new
theorem Zc5{P:Program}{w:World}{H':Hp}{h':Heap}{kvs:List (Key×V)}{vs:List (Key×Value)}(z:kvs.length≤sizeLine)(hd:(a==sysModules)=false)(rel:KV kvs vs)(dd:h'.DictOf (ZO P w) a vs):
  ZU P w H' h' a (.dK kvs):=⟨z,hd,vs,rel,dd⟩
theorem ZhY{H':Hp}{Q:Unit→Shared→Prop}(hu:A.units+1<cLine)(I:Inv X pins σ H s)(g:Zdt H a y v H')(ry:Zu y u)(rv:Zu v r)(h:∀s',Inv X pins σ H' s'→Q () s'):
  wpAny (model X.prog X.w) A (setItem (.ref a) u r) Q E s:=by
 rcases g with⟨kvs,k,e,ey,l,eH⟩|⟨kvs,k,b,e,ey,eb,l,eH⟩
 ·subst ey eH;obtain⟨z,hd,vs,rel,dd⟩:=Zag I.hok e;have hz:vs.length≤sizeLine:=by rw[←rel.length];exact z
  have hl:(Z4 kvs k v).length≤sizeLine:=by have:=Ud kvs k v;omega
  refine wpAny_setItem_pairs (hsz:=hz) (ZaY ry) dd fun h' dd' hs=>h _ ?_;have he:∃q,h'.get? a=some q:=let⟨q,_,_,hq,_⟩:=dd';⟨q,hq⟩
  exact Zat I (by rw[e];exact True.intro) hs he (Zc5 hl hd (rel.put k rv) dd')
 ·subst ey eH;cases (show u=Value.ref b from ry);obtain⟨z,hd,xs,rel,dd⟩:=ZlC I.hok e;have hz:xs.length≤sizeLine:=by rw[←Paired.length rel];exact z
  have hl:(Z4 kvs k v).length≤sizeLine:=by have:=Ud kvs k v;omega
  refine wpAny_setItem_heap (hsz:=hz) (tupleKind_room_in1 hu) (ZbD I.hok eb) dd fun h' dd' hs=>h _ ?_;obtain⟨q,es,ep,hq,h2,h3,h4,_,h5⟩:=dd';refine Zat I (by rw[e];exact True.intro) hs ⟨q,hq⟩ ⟨hl,hd,_,(rel.put k eb rv).keeps fun c ys ec=>?_,q,es,ep,hq,h2,h3,h4,h5⟩;rw[Ze (YD ec e (fun z=>nomatch z))];exact ec
end
section
variable {X:Cx}{pins:List (Addr×Obj)}{σ:St}{H:Hp}{s:Shared}{a:Addr}{kvs:List (Key×V)}{k:Key}{u:Value}{A:Around}{E:Value→Shared→Prop}
theorem Zlx{Q:Value→Shared→Prop}(I:Inv X pins σ H s)(e:Rd H a (.dK kvs))(h:∀t s',Inv X pins σ H s'→Q (.int kvs.length t) s'):wpAny (model X.prog X.w) A (call (.builtin "len") [.ref a]) Q E s:=by
 obtain⟨z,hd,vs,rel,dd⟩:=Zal I.hok e;refine call_len_dict hd dd (by rw[←rel.length];rw[sizeLine_eq] at z;omega) ?_;rw[←rel.length];exact h _ _ (I.tok _)
end
theorem ZfM{X:Cx}{pins:List (Addr×Obj)}{σ:St}{H:Hp}{s:Shared}{a:Addr}{y:V}{o:Option V}(I:Inv X pins σ H s)(g:UD H a y o):s.TypeIs (.ref a) "dict" :=by
 rcases g with⟨kvs,k,e,_,_⟩|⟨kvs,k,b,e,_,_,_⟩
 ·obtain⟨_,_,vs,_,dd⟩:=Zal I.hok e;exact dd.typeIs
 ·obtain⟨_,_,xs,_,dd⟩:=ZcZ I.hok e;exact dd.typeIs
section
variable {X:Cx}{o i e value:Expr}{pos pos' tpos:Pos}{td ty tv:TE}
end
theorem ZeK{P:Program}{w:World}{H:Hp}(h:Heap)(hb:sysModules<h.objs.size):ZU P w H (h.push {cls:= .type "dict",data:= .dict #[]}) h.objs.size (.dK []):=
 ⟨Nat.zero_le _,beq_eq_false_iff_ne.mpr (Ne.symm (Nat.ne_of_lt hb)),[],.nil,Heap.DictOf.new h⟩
noncomputable def tDNewK:TE:=fun _ H Q=>∀p,H p=none→Q (.ref p) (upd H p (.dK []))
section
variable {X:Cx}{pos:Pos}
theorem U5:PE X (.Dict [] [] pos) tDNewK:=fun pins s σ H Q I h=>
 wpAny_Dict_empty ⟨.ref s.heap.objs.size,_,I.laid (a:=s.heap.objs.size) (o:= .dK []) (t':=s.toks) (fun _ _ q=>Heap.get?_push_of_some _ q) (Nat.le_refl _) (ZeK s.heap I.big),rfl,h _ (I.hok.fresh (Nat.le_refl _))⟩
end
noncomputable def ZcE:List (TE×TE)→St→Hp→(List (V×V)→Hp→Prop)→Prop
 | [],_,H,Q=>Q [] H
 |(tk,tv)::r,σ,H,Q=>tk σ H fun x H1=>tv σ H1 fun y H2=>ZcE r σ H2 fun ps H3=>Q ((x,y)::ps) H3
noncomputable abbrev VV:List (V×V)→List (Value×Value)→Prop:=Paired fun p q=>Zu p.1 q.1∧Zu p.2 q.2
def PPs(X:Cx)(pos:Pos)(keys:List (Option Expr))(values:List Expr)(trs:List (TE×TE)):Prop:=
 ∀(pins:List (Addr×Obj))(s:Shared)(σ:St)(H:Hp)(Q:List (V×V)→Hp→Prop),Inv X pins σ H s→ZcE trs σ H Q→
  wpAny (model X.prog X.w) X.A (evalPairs (pairTrees keys values X.env pos)) (fun vs s'=>∃ps H',Inv X pins σ H' s'∧VV ps vs∧Q ps H') X.xe s
theorem Zj9{X:Cx}{pos:Pos}:PPs X pos [] [] []:=fun pins s σ H Q I h=>pairTrees_nil_walk ⟨[],H,I,.nil,h⟩
theorem ZiE{X:Cx}{pos:Pos}{k v:Expr}{ks:List (Option Expr)}{vs:List Expr}{tk tv:TE}{trs:List (TE×TE)}(hk:PE X k tk)(hv:PE X v tv)(hr:PPs X pos ks vs trs):
  PPs X pos (some k::ks) (v::vs) ((tk,tv)::trs):=fun pins s σ H Q I h=>
 pairTrees_cons_walk (thn (hk pins s σ H _ I h) fun u s1 ⟨x,H1,I1,rx,q1⟩=>thn (hv pins s1 σ H1 _ I1 q1) fun w2 s2 ⟨y,H2,I2,ry,q2⟩=>
  thn (hr pins s2 σ H2 _ I2 q2) fun ws s3 ⟨ps,H3,I3,rel,q3⟩=>⟨(x,y)::ps,H3,I3,.cons ⟨rx,ry⟩ rel,q3⟩)
noncomputable def Yj (kvs more:List (Key×V)):List (Key×V):=more.foldl (fun acc kv=>Z4 acc kv.1 kv.2) kvs
theorem KV.merge:∀{more:List (Key×V)}{rs:List (Key×Value)}{kvs:List (Key×V)}{vs:List (Key×Value)},KV more rs→KV kvs vs→KV (Yj kvs more) (merged vs rs):=by
 intro more rs kvs vs r;unfold KV at r
 induction r generalizing kvs vs with
 |nil=>intro q;exact q
 | @cons p q ps qs h t ih=>
  intro r0;have e:KV (Z4 kvs p.1 p.2) (stored vs q.1 q.2):=by
   have:=r0.put p.1 h.2;rw[←h.1];exact this
  exact ih e
theorem Vi:∀(more kvs:List (Key×V)),(Yj kvs more).length≤kvs.length+more.length
 | [],kvs=>by show kvs.length≤kvs.length+0;omega
 |p::r,kvs=>by
  have h1:=Vi r (Z4 kvs p.1 p.2);have h2:=Ud kvs p.1 p.2;show(Yj (Z4 kvs p.1 p.2) r).length≤_;rw[List.length_cons];omega
theorem Zc7{P:Program}{w:World}:∀{kvs:List (Key×V)}{ws:List (Value×Value)},VV (kvs.map fun kv=>(kV kv.1,kv.2)) ws→∃rs,Carries (ZO P w) ws rs∧KV kvs rs
 | [],_,r=>by rw[List.map_nil] at r;cases r;exact⟨[],True.intro,.nil⟩
 |p::kvs,_,r=>by
  rw[List.map_cons] at r;cases r with
  | @cons a b as bs h t=>
   obtain⟨rs,c,q⟩:=Zc7 (P:=P) (w:=w) t;obtain⟨b1,b2⟩:=b;exact⟨(p.1,b2)::rs,⟨ZaY h.1,rfl,c⟩,.cons ⟨rfl,h.2⟩ q⟩
noncomputable def ZlJ (trs:List (TE×TE)):TE:=fun σ H Q=>∀p,H p=none→ZcE trs σ (upd H p (.dK [])) fun ps H2=>H2 p=some (.dK [])∧∃kvs:List (Key×V),ps=kvs.map (fun kv=>(kV kv.1,kv.2))∧kvs.length≤15∧Q (.ref p) (upd H2 p (.dK (Yj [] kvs)))
theorem ZjM{X:Cx}{pos:Pos}{keys:List (Option Expr)}{values:List Expr}{trs:List (TE×TE)}(h:PPs X pos keys values trs)(hall:keys.all (·.isSome)=true)(hl:keys.length=values.length)(h0:keys≠[])
  (h15:keys.length≤15):PE X (.Dict keys values pos) (ZlJ trs):=by
 intro pins s σ H Q I q;have hn:=I.hok.fresh (Nat.le_refl s.heap.objs.size);have I1:=I.laid (a:=s.heap.objs.size) (o:= .dK []) (h':=s.heap.push {cls:= .type "dict",data:= .dict #[]}) (t':=s.toks) (fun _ _ q=>Heap.get?_push_of_some _ q) (Nat.le_refl _) (ZeK s.heap I.big);refine wpAny_Dict_walk (knd:=ZO X.prog X.w) hall hl h0 h15 (thn (h pins _ σ _ _ I1 (q _ hn)) fun ws s2 ⟨ps,H2,I2,rel,e,kvs,ep,lk,q2⟩=>?_);subst ep;obtain⟨rs,c,rk⟩:=Zc7 (P:=X.prog) (w:=X.w) rel;obtain⟨z,hd,vs0,r0,dd⟩:=Zag I2.hok e;cases r0;refine⟨rs,c,dd,fun h' dd' hs=>⟨.ref s.heap.objs.size,_,?_,rfl,q2⟩⟩;have hz:(Yj [] kvs).length≤sizeLine:=by
  have h1:=Vi kvs [];rw[List.length_nil] at h1;rw[sizeLine_eq];omega
 have he:∃q,h'.get? s.heap.objs.size=some q:=let⟨q,_,_,hq,_⟩:=dd';⟨q,hq⟩
 exact Zat I2 (by rw[e];exact True.intro) hs he (Zc5 hz hd (rk.merge .nil) dd')
section
variable {X:Cx}{pins:List (Addr×Obj)}{σ:St}{H:Hp}{s:Shared}{a:Addr}{y d:V}{u r:Value}{o:Option V}{A:Around}{E:Value→Shared→Prop}
end
section
variable {X:Cx}{o e f:Expr}{apos cpos:Pos}{td ty tx:TE}
end
section
variable {X:Cx}{pins:List (Addr×Obj)}{σ:St}{H:Hp}{s:Shared}{a:Addr}{kvs:List (Key×V)}{A:Around}{E:Value→Shared→Prop}
end
section
variable {X:Cx}{pins:List (Addr×Obj)}{σ:St}{H:Hp}{s:Shared}{a:Addr}{y:V}{u:Value}{A:Around}{E:Value→Shared→Prop}
end
end L2
namespace L2
open PySem PySem.Spec PyProof.Rows
section
variable {X:Cx}
theorem Zib:YO X (.builtin "len") (fun xs H Q=>∃a kvs,xs=[V.ref a]∧H a=some (.dK kvs)∧Q (.int kvs.length) H):=by
 intro pins s σ H xs us Q I r h;obtain⟨a,kvs,rfl,ha,q⟩:=h;obtain⟨u,rfl,ru⟩:=WJ r;cases ru;exact Zlx I (.inl ha) fun t s' I'=>⟨.int kvs.length,H,I',⟨t,rfl⟩,q⟩
end
section
variable {κ:Type}[DecidableEq κ]
end
end L2
namespace L2
open PySem PySem.Spec PyProof.Rows
namespace Rd
section
variable {σ:St}{H:Hp}{Q:VK}{D:W8}{t u:TS}{ta tb te:TE}{r:R2}
theorem var{i:Nat}{v:V}(h:σ[i]? =some (some v))(q:Q v H):Zgc i σ H Q:=⟨v,h,q⟩
theorem con{v:V}(q:Q v H):tC v σ H Q:=q
theorem op(h:ta σ H fun x H1=>tb σ H1 fun y H2=>r x y H2 Q):tOp r ta tb σ H Q:=h
theorem i0{g:Int→Int→V}{i j:Int}(q:Q (g i j) H):rI0 g (.int i) (.int j) H Q:=⟨i,j,rfl,rfl,q⟩
theorem iC{C:Int→Int→Prop}{g:Int→Int→V}{i j:Int}(c:C i j)(q:Q (g i j) H):rI C g (.int i) (.int j) H Q:=⟨i,j,rfl,rfl,c,q⟩
theorem eqI{i j:Int}(q:Q (.bl (decide (i=j))) H):rEq (.int i) (.int j) H Q:=⟨rfl,by
 have e:decide (V.int i=V.int j)=decide (i=j):=by
  by_cases h:i=j
  ·rw[h];simp
  ·rw[decide_eq_false h,decide_eq_false (fun z=>h (V.int.inj z))]
 rw[e];exact q⟩
theorem neI{i j:Int}(q:Q (.bl (!decide (i=j))) H):rNe (.int i) (.int j) H Q:=⟨rfl,by
 have e:decide (V.int i=V.int j)=decide (i=j):=by
  by_cases h:i=j
  ·rw[h];simp
  ·rw[decide_eq_false h,decide_eq_false (fun z=>h (V.int.inj z))]
 rw[e];exact q⟩
theorem ZmB{Q:Bool→Hp→Prop}(h:te σ H fun x H'=>∃k,x= .bl k∧Q k H'):Zjt te σ H Q:=h
theorem bl{k:Bool}{Q:Bool→Prop}(q:Q k):∃k',V.bl k= .bl k'∧Q k':=⟨k,rfl,q⟩
theorem seq(h:t {D with nx:=u D} σ H):Zkv t u D σ H:=h
theorem asg{g:TG}(h:te σ H fun x H1=>g x σ H1 D.nx):Ze8 te g D σ H:=h
theorem ifs{c:TT}(h:c σ H fun b H1=>if b=true then t D σ H1 else u D σ H1):Zli c t u D σ H:=h
theorem ret(h:te σ H D.rt):Zk3 te D σ H:=h
theorem next(h:D.nx σ H):tNext D σ H:=h
theorem drop(h:te σ H fun _ H1=>D.nx σ H1):Zjw te D σ H:=h
theorem nil{Q:List V→Hp→Prop}(h:Q [] H):tNil σ H Q:=h
theorem cons{tr:TA}{Q:List V→Hp→Prop}(h:ta σ H fun x H1=>tr σ H1 fun xs H2=>Q (x::xs) H2):Zjx ta tr σ H Q:=h
theorem call{sp:Sp}{dvs:List V}{E:XK}{ts:TA}(h:ts σ H fun vs H1=>sp (vs++dvs) H1 Q E):Zjo sp dvs E ts σ H Q:=h
theorem cb{r:List V→Hp→VK→Prop}{ts:TA}(h:ts σ H fun vs H1=>r vs H1 Q):tCB r ts σ H Q:=h
theorem tup{ts:TA}(h:ts σ H fun xs H1=>xs.length≤sizeLine∧∀p,H1 p=none→Q (.ref p) (upd H1 p (.tup xs))):Zks ts σ H Q:=h
theorem lst{ts:TA}(h:ts σ H fun xs H1=>xs.length≤sizeLine∧∀p,H1 p=none→Q (.ref p) (upd H1 p (.lst xs))):Zip ts σ H Q:=h
theorem Zmv{t u:TT}{Q:Bool→Hp→Prop}(h:t σ H fun c H1=>if c=true then u σ H1 Q else Q false H1):Zku t u σ H Q:=h
theorem or_{t u:TT}{Q:Bool→Hp→Prop}(h:t σ H fun c H1=>if c=true then Q true H1 else u σ H1 Q):tOr t u σ H Q:=h
theorem Zmg{t:TT}{Q:Bool→Hp→Prop}(h:t σ H fun c H1=>Q (!c) H1):Zkq t σ H Q:=h
theorem ZmA(h:ta σ H fun x H1=>∃c,x= .bl c∧if c=true then tb σ H1 Q else Q (.bl false) H1):Zjn ta tb σ H Q:=h
theorem ZlW(h:ta σ H fun x H1=>∃c,x= .bl c∧Q (.bl (!c)) H1):Zju ta σ H Q:=h
end
end Rd
end L2
namespace L2
open PySem PySem.Spec PyProof.Rows
section
variable {X:Cx}
theorem ZjU:OpR X (binaryOp .Mult) (rI (fun i j=>IntMulOk i j) fun i j=> .int (i*j)):=opI fun _ _ _ _ _ _ _ hc q=>mul_int q hc
theorem Vl:OpR X (binaryOp .FloorDiv) (rI (fun _ j=>0<j∧j.natAbs.log2<9000) fun i j=> .int (i / j)):=opI fun i j _ _ _ _ _ hc q=>by
 rw[←Int.fdiv_eq_ediv_of_nonneg i (Int.le_of_lt hc.1)] at q;exact floordiv_int (by have:=hc.1;omega) q (.inl (PyProof.noPylong_of_log2 hc.2))
theorem Zfp:YO X (.builtin "isinstance") (fun xs H Q=>∃x n t b,xs=[x,.ty n]∧Wu X.K H x t∧PySem.W.kitOne X.K t (.type n)=some b∧Q (.bl b) H):=by
 intro pins s σ H xs us Q I r h;obtain⟨x,n,t,b,rfl,ty,e,q⟩:=h;obtain⟨u,v,rfl,ru,rv⟩:=r.two;obtain rfl:v=Value.type n:=rv;exact Zhd I ru ty e fun tk=>⟨.bl b,H,I.tok tk,rfl,q⟩
theorem Zay{c:TT}{tb:TS}{D:W8}{σ:St}{H:Hp}(W:Nat→St→Hp→Prop)(m:Nat)(h0:W m σ H)
  (hs:∀m σ H,W m σ H→c σ H fun b H1=>if b=true then ∃N:St→Hp→Prop,(∀σ' H',N σ' H'→∃m',m'<m∧W m' σ' H')∧tb {D with nx:=N,ct:=N,bk:=D.nx} σ H1 else D.nx σ H1):Zhw c tb D σ H:=
 ⟨W,⟨m,h0⟩,hs⟩
theorem ZbS{W:Nat→St→Hp→Prop}{m:Nat}{tb:TS}{D:W8}{σ:St}{H1:Hp}
  (h:tb {D with nx:=fun σ' H'=>∃m',m'<m∧W m' σ' H',ct:=fun σ' H'=>∃m',m'<m∧W m' σ' H',bk:=D.nx} σ H1):
  ∃N:St→Hp→Prop,(∀σ' H',N σ' H'→∃m',m'<m∧W m' σ' H')∧tb {D with nx:=N,ct:=N,bk:=D.nx} σ H1:=⟨_,fun _ _ z=>z,h⟩
noncomputable def Zkl (t:TS):TS:=fun D σ H=>∃J:St→Hp→Prop,(∀σ' H',J σ' H'→D.nx σ' H')∧t {D with nx:=J} σ H
theorem Up{st:Stmt}{t:TS}(h:PS X st t):PS X st (Zkl t):=by
 intro pins s σ H D I hq;obtain⟨J,hJ,q⟩:=hq;refine thn (h pins s σ H _ I q) fun f s1 q1=>?_;cases f with
 |next=>obtain⟨σ',H',I',j⟩:=q1;exact⟨σ',H',I',hJ _ _ j⟩
 |brk=>exact q1
 |cont=>exact q1
 |ret v=>exact q1
end
namespace Rd
theorem Zjv{A B:Prop}(h:B):if(!true)=true then A else B:=Zdv h
theorem Zjj{A B:Prop}(h:A):if(!false)=true then A else B:=ZeZ h
section
variable {σ:St}{H:Hp}{Q:VK}{D:W8}{t u:TS}{ta tb te:TE}
theorem cut(J:St→Hp→Prop)(hJ:∀σ' H',J σ' H'→D.nx σ' H')(h:t {D with nx:=J} σ H):Zkl t D σ H:=⟨J,hJ,h⟩
theorem ZlV{wi:TI}{g:TG}{tb:TS}(h:wi σ H fun J H1=>∃W:Nat→Nat→St→Hp→Prop,(∃m,W 0 m σ H1)∧∀i m σ H,W i m σ H→
  (J.stop i H∧D.nx σ H)∨(J.go i H∧∃N:St→Hp→Prop,(∀σ' H',N σ' H'→∃m',m'<m∧W (i+1) m' σ' H')∧∀x H',J.yld i H x H'→g x σ H' fun σ2 H2=>tb {D with nx:=N,ct:=N,bk:=D.nx} σ2 H2)):Zkj wi g tb D σ H:=h
theorem Zmp{ts:TA}{R:It→Hp→Prop}(h:ts σ H fun vs H1=>∃j:Int,vs=[.int j]∧ -(2 ^ 62)≤j∧j<2 ^ 62∧R (Itr 0 j.toNat) H1):Zjd ts σ H R:=h
theorem VL{K:PySem.W.Frag}{n:Nat}{ts:TGs}{a:Addr}{xs:List V}{Q:St→Hp→Prop}(hs:SqT K H a xs)(hn:xs.length=n)(h:ts xs σ H Q):ZiU K n ts (.ref a) σ H Q:=⟨a,xs,rfl,hs,hn,h⟩
theorem Zmk{Q:St→Hp→Prop}(h:Q σ H):gNil [] σ H Q:=⟨rfl,h⟩
theorem ZlP{g:TG}{gs:TGs}{v:V}{r:List V}{Q:St→Hp→Prop}(h:g v σ H fun σ' H'=>gs r σ' H' Q):Zjr g gs (v::r) σ H Q:=⟨v,r,rfl,h⟩
end
end Rd
end L2
namespace L2
open PySem PySem.Spec PyProof.Rows
theorem Zn{H:Hp}{p:Addr}{o:HO}(hp:H p=none):Zd H (upd H p o):=fun c u e=>by rw[Ze (Zj e hp)];exact e
theorem Zd.new{H H':Hp}{q:Addr}{o:HO}(sm:Zd H H')(hq:H q=none):Zd H (upd H' q o):=fun c u e=>by rw[Ze (Zj e hq)];exact sm c u e
namespace Rd
section
variable {σ:St}{H:Hp}{Q:VK}{D:W8}{K:PySem.W.Frag}
theorem ixt{p:Addr}{xs:List V}{i:Int}{v:V}(h:SqT K H p xs)(e:atI xs i=some v)(q:Q v H):ZiD K (.ref p) (.int i) H Q:=⟨p,xs,i,v,rfl,rfl,h,e,q⟩
theorem ixl{p:Addr}{xs:List V}{i:Int}{v:V}(h:SqL K H p xs)(e:atI xs i=some v)(q:Q v H):Zdr K (.ref p) (.int i) H Q:=⟨p,xs,i,v,rfl,rfl,h,e,q⟩
theorem bm{T:String}{r:V→List V→Hp→VK→Prop}{to:TE}{t:TA}(h:to σ H fun x H1=>tyV K T x H1∧t σ H1 fun xs H2=>r x xs H2 Q):tBM K T r to t σ H Q:=h
theorem bm0{T:String}{r:V→List V→Hp→VK→Prop}{to:TE}(h:to σ H fun x H1=>tyV K T x H1∧r x [] H1 Q):Zid K T r to σ H Q:=h
theorem tyl{p:Addr}{xs:List V}{B:Prop}(h:H p=some (.lst xs))(q:B):tyV K "list" (.ref p) H∧B:=⟨.inl ⟨rfl,xs,.of h⟩,q⟩
theorem app{p:Addr}{xs:List V}{y:V}(h:H p=some (.lst xs))(hl:xs.length<sizeLine)(q:Q .non (upd H p (.lst (xs++ [y])))):rAppend (.ref p) [y] H Q:=⟨p,xs,y,rfl,rfl,h,hl,q⟩
end
end Rd
end L2
namespace L2
open PySem PySem.Spec PyProof.Rows
noncomputable def emb (ix:List Nat) (σ:St):St:=none::ix.map fun j=>(σ[j]?).join
noncomputable def Zl (X:Cx) (sc:Scope) (cl:List (Str×Addr)) (C:Addr) (N:List Str) (s:Shared) (H:Hp) (fp:List Addr):Cx where
 prog:=X.prog
 w:=X.w
 K:=X.K
 mg:=X.mg
 base:=X.base
 A:=X.A
 N:=N
 s₀:=s
 H₀:=H
 env:=compEnvC sc cl C X.env
 outer:=X.stack
 stack:=X.stack
 ex:=fp
 fn:=fun _=>false
 calm:=X.calm
 pn:=[]
 xe:=fun _ _=>False
structure YR(X:Cx)(sc:Scope)(x:Str)(zs:List Str)(ix:List Nat):Prop where
 kind:sc.kind= .function
 nocell:∀y∈sc.names,y.2≠ .cell
 names:∀y∈sc.names,y.2= .local→sc.names.lookup y.1=some .local
 free:∀y∈sc.names,y.2= .free→X.env.kindOf y.1=some .cell∨X.env.kindOf y.1=some .free
 zfree:∀z∈zs,sc.names.lookup z=some .free
 at_:ix.map (fun j=>X.N[j]?)=zs.map some
theorem Wo{env:Env}{x:Str}:∀{names:List (Str×NameKind)}{k:NameKind},
  (names.map fun(n,k)=>if(k==NameKind.free&&env.scope.kind== .function&&env.kindOf n==some .cell) then(n,NameKind.cell) else(n,k)).lookup x=some k→
  ∃k',names.lookup x=some k'∧(k=k'∨(k'= .free∧k= .cell))
 | [],_,h=>by simp at h
 |(n,j)::r,k,h=>by
  have h':List.lookup x ((if(j==NameKind.free&&env.scope.kind== .function&&env.kindOf n==some .cell)=true then(n,NameKind.cell) else(n,j))::(r.map fun(n,k)=>if(k==NameKind.free&&env.scope.kind== .function&&env.kindOf n==some .cell) then(n,NameKind.cell) else(n,k)))=some k:=h;cases hx:x==n with
  |true=>
   refine⟨j,by simp[List.lookup_cons,hx],?_⟩
   by_cases hc:(j==NameKind.free&&env.scope.kind== .function&&env.kindOf n==some .cell)=true
   ·rw[if_pos hc] at h';simp only[List.lookup_cons,hx] at h';cases h';simp only[Bool.and_eq_true,beq_iff_eq] at hc;exact .inr ⟨hc.1.1,rfl⟩
   ·rw[if_neg hc] at h';simp only[List.lookup_cons,hx] at h';cases h';exact .inl rfl
  |false=>
   have h2:List.lookup x (r.map fun(n,k)=>if(k==NameKind.free&&env.scope.kind== .function&&env.kindOf n==some .cell) then(n,NameKind.cell) else(n,k))=some k:=by
    by_cases hc:(j==NameKind.free&&env.scope.kind== .function&&env.kindOf n==some .cell)=true
    ·rw[if_pos hc] at h';simpa only[List.lookup_cons,hx] using h'
    ·rw[if_neg hc] at h';simpa only[List.lookup_cons,hx] using h'
   obtain⟨k',e,q⟩:=Wo h2;exact⟨k',by simp only[List.lookup_cons,hx];exact e,q⟩
theorem Y9{x:Str}{k:NameKind}:∀{names:List (Str×NameKind)},names.lookup x=some k→(x,k)∈names:=fun h=>PySem.mem_of_lookup h
theorem ZaI(env:Env):∀(names:List (Str×NameKind))(acc:List (Str×Addr)),
  (∀y∈names,y.2= .free→∃c,env.cells.lookup y.1=some c)→(∀y c,acc.lookup y=some c→env.cells.lookup y=some c)→
  ∃cl:List (Str×Addr),(forIn names acc (fun x (r:List (Str×Addr))=>if x.2==NameKind.free then(do let a←cellOf env x.1;pure (ForInStep.yield ((x.1,a)::r))) else pure (ForInStep.yield r)):Sem (List (Str×Addr)))=pure cl∧
   (∀y c,cl.lookup y=some c→env.cells.lookup y=some c)∧(∀y,(∃c,acc.lookup y=some c)∨(y,NameKind.free)∈names→∃c,cl.lookup y=some c)
 | [],acc,_,ha=>⟨acc,rfl,ha,fun y h=>h.elim id fun z=>absurd z (by simp)⟩
 |(n,k)::r,acc,hf,ha=>by
  have hr:∀y∈r,y.2= .free→∃c,env.cells.lookup y.1=some c:=fun y hy=>hf y (List.mem_cons_of_mem _ hy)
  by_cases hk:k= .free
  ·subst hk;obtain⟨c,hc⟩:=hf (n,.free) List.mem_cons_self rfl;have ha':∀y c',((n,c)::acc).lookup y=some c'→env.cells.lookup y=some c':=fun y c' h=>by
    cases hy:y==n with
    |true=>
     simp only[List.lookup_cons,hy] at h;cases h;rw[beq_iff_eq.mp hy];exact hc
    |false=>
     simp only[List.lookup_cons,hy] at h;exact ha y c' h
   obtain⟨cl,e,h1,h2⟩:=ZaI env r ((n,c)::acc) hr ha';refine⟨cl,?_,h1,fun y h=>h2 y ?_⟩
   ·rw[List.forIn_cons];have:cellOf env n=pure c:=by unfold cellOf;rw[hc]
    simp only[beq_self_eq_true,if_true,this];exact e
   ·rcases h with⟨c',h⟩|h
    ·cases hy:y==n with
     |true=>exact .inl ⟨c,by simp only[List.lookup_cons,hy]⟩
     |false=>exact .inl ⟨c',by simp only[List.lookup_cons,hy];exact h⟩
    ·rcases List.mem_cons.mp h with h|h
     ·cases h;exact .inl ⟨c,by simp⟩
     ·exact .inr h
  ·obtain⟨cl,e,h1,h2⟩:=ZaI env r acc hr ha;refine⟨cl,?_,h1,fun y h=>h2 y ?_⟩
   ·rw[List.forIn_cons];have hb:(k==NameKind.free)=false:=by simpa using hk
    simp only[hb,Bool.false_eq_true,if_false];exact e
   ·rcases h with h|h
    ·exact .inl h
    ·rcases List.mem_cons.mp h with h|h
     ·cases h;exact absurd rfl hk
     ·exact .inr h
def PIf(X:Cx)(ifs:List Expr)(t:TT):Prop:=
 ∀(pins:List (Addr×Obj))(s:Shared)(σ:St)(H:Hp)(Q:Bool→Hp→Prop),Inv X pins σ H s→t σ H Q→
  wpAny (model X.prog X.w) X.A (forIn ifs true fun c r=>if r=true then do let ok←isTrue c X.env (eval c X.env);pure (ForInStep.yield ok) else pure (ForInStep.yield r)) (TP X pins σ Q) X.xe s
noncomputable def tAll:TT:=fun _ H Q=>Q true H
section
variable {X:Cx}
theorem Ye:PIf X [] tAll:=fun _ _ _ H _ I h=>wpAny_pure ⟨H,I,h⟩
theorem Zdh{c:Expr}{t:TT}(hc:PT X c t):PIf X [c] t:=by
 intro pins s σ H Q I h;rw[List.forIn_cons];simp only[if_true];refine wpAny_bind (wpAny_bind (thn (hc pins s σ H _ I h) fun b s1 q=>wpAny_pure ?_));exact wpAny_pure q
end
section
variable {prog:Program}{w:World}{A:Around}{R:Result→Shared→Prop}{s:Shared}
theorem Zbg{elt target iter:Expr}{ifs:List Expr}{scope:Scope}{pos:Pos}{it acc:Value}{env:Env}(I:Nat→Shared→Prop)
  (turn:∀n s,I n s→wpAny (model prog w) A (pyNext it) (fun r s₁=>match r with
   |none=>R (.ok .next) s₁
   |some v=>wpAny (model prog w) A (letOwnedTupleGo target it v) (fun _ s₀=>wpAny (model prog w) A (assign target env v) (fun _ s₂=>
     wpAny (model prog w) A (forIn ifs true fun c r=>if r=true then do let ok←isTrue c env (eval c env);pure (ForInStep.yield ok) else pure (ForInStep.yield r)) (fun ok s₃=>
      if ok=true then wpAny (model prog w) A (eval elt env) (fun x s₄=>
       wpAny (model prog w) A (call (.builtin "list.append") [acc,x]) (fun _ s₅=>∃m,m<n∧I m s₅) (fun _ _=>False) s₄) (fun _ _=>False) s₃
      else ∃m,m<n∧I m s₃) (fun _ _=>False) s₂) (fun _ _=>False) s₀) (fun _ _=>False) s₁) (fun _ _=>False) s)
  (n:Nat) (h:I n s):
  codeAny (model prog w) A (.compLoop (.ListComp elt [⟨target,iter,ifs,0⟩] scope pos) 0 it acc env) R s:=by
 refine codeAny_loop rfl I (fun n s hI=>?_) n h;show wpAny _ A ((compTurn (.ListComp elt [⟨target,iter,ifs,0⟩] scope pos) 0 it acc env).onRaise (fun x=>do noteFrame x env;theTreesLotGoes x)) _ _ s;refine wpAny_noted ?_;rw[compTurn_list];refine wpAny_bind (wpAny_standAt (wpAny_bind (wpAny_mono (turn n s hI) (fun r s₁ h₁=>?_) fun _ _ z=>z.elim)));cases r with
 |none=>exact wpAny_pure h₁
 |some v=>
  refine wpAny_bind (wpAny_mono h₁ (fun _ s₀ h₀=>?_) fun _ _ z=>z.elim);refine wpAny_bind (wpAny_mono h₀ (fun _ s₂ h₂=>wpAny_bind (wpAny_mono h₂ (fun ok s₃ h₃=>?_) fun _ _ z=>z.elim)) fun _ _ z=>z.elim);cases ok with
  |false=>exact wpAny_pure ⟨rfl,h₃⟩
  |true=>
   exact wpAny_bind (wpAny_bind (wpAny_mono h₃ (fun x s₄ h₄=>wpAny_bind (wpAny_mono h₄ (fun _ s₅ h₅=>wpAny_pure (wpAny_pure ⟨rfl,h₅⟩)) fun _ _ z=>z.elim)) fun _ _ z=>z.elim))
end
noncomputable def Zg8 (ix:List Nat) (wi:TI) (g:TG) (tc:TT) (te:TE):TE:=fun σ H Q=>wi σ H fun J H1=>∀p,H1 p=none→
 ∃W:Nat→Nat→List V→St→Hp→Prop,(∃m,W 0 m [] (emb ix σ) (upd H1 p (.lst [])))∧∀i m ys σ' H',W i m ys σ' H'→
  (J.stop i H'∧Q (.ref p) H')∨(J.go i H'∧∀x H2,J.yld i H' x H2→g x σ' H2 fun σ2 H3=>tc σ2 H3 fun b H4=>
   if b=true then te σ2 H4 fun v H5=>H5 p=some (.lst ys)∧ys.length<sizeLine∧∃m',m'<m∧W (i+1) m' (ys++ [v]) σ2 (upd H5 p (.lst (ys++ [v])))
   else ∃m',m'<m∧W (i+1) m' ys σ2 H4)
section
variable {X:Cx}
theorem Zgw{pins:List (Addr×Obj)}{σ:St}{H:Hp}{s:Shared}{sc:Scope}{x:Str}{zs:List Str}{ix:List Nat}{cl:List (Str×Addr)}{fp:List Addr}{h₁:Heap}{tk:Nat}
  (S:YR X sc x zs ix) (I:Inv X pins σ H s) (hcl:∀y c,cl.lookup y=some c→X.env.cells.lookup y=some c) (hhas:∀y,(y,NameKind.free)∈sc.names→∃c,cl.lookup y=some c)
  (hfp:∀b∈fp,WS X pins H b∧b<s.heap.objs.size) (hns:h₁.Ns s.heap.objs.size fun _=>none) (hk:∀b o,s.heap.get? b=some o→h₁.get? b=some o):
  Inv (Zl X sc cl s.heap.objs.size (x::zs) s H fp) [] (emb ix σ) H {s with heap:=h₁,toks:=tk}:=by
 have sub:∀b∈frs X.stack,b∈X.env.locals::X.fs:=I.stkSub;have nfs:∀b∈fp,b∉frs X.stack:=fun b hb z=>by
  obtain⟨⟨_,f1,f2,_⟩,_⟩:=hfp b hb;rcases List.mem_cons.mp (sub b z) with e|e
  ·exact f1 e
  ·exact f2 e
 have cut:∀y,(Zl X sc cl s.heap.objs.size (x::zs) s H fp).env.kindOf y=some .cell∨(Zl X sc cl s.heap.objs.size (x::zs) s H fp).env.kindOf y=some .free→∃c,cl.lookup y=some c:=fun y hy=>by
  have q:∃k,(relabel sc X.env).names.lookup y=some k∧(k= .cell∨k= .free):=by
   rcases hy with hy|hy
   ·exact⟨_,hy,.inl rfl⟩
   ·exact⟨_,hy,.inr rfl⟩
  obtain⟨k,e,hk⟩:=q;obtain⟨k',e',q⟩:=Wo e;have:k'= .free:=by
   rcases q with q|⟨q,_⟩
   ·rcases hk with z|z
    ·exact absurd (q.symm.trans z) (S.nocell _ (Y9 e'))
    ·exact q.symm.trans z
   ·exact q
  subst this;exact hhas y (Y9 e')
 refine⟨⟨I.ok.mod,S.kind,I.ok.glob,I.ok.blt,Nat.le_refl _,fun y z c h1 h2=>I.ok.inj y z c (hcl _ _ h1) (hcl _ _ h2),cut,fun y c hf _=>?_,I.ok.hd,I.ok.frames,.inl rfl,fun b hb=>?_,I.bs,Nat.le_trans I.ok.bsz I.sz,fun b o e hb=>?_,nfs,I.stack,I.stkFree⟩,
  rfl,I.bare,Un.kept hk,⟨_,hns,fun i y v h1 h2 h3=>?_⟩,fun y c h=>?_,I.hok.fresh (Nat.le_refl _),fun y c h=>I.freeC y c (hcl y c h),fun p hp=>absurd (show p∈([]:List (Addr×Obj)) from hp) (by simp),I.hok.kept hk,?_⟩
 ·exact absurd (show false=true from hf) (by decide)
 ·obtain⟨⟨f0,f1,f2,f3,f4,f5⟩,hl⟩:=hfp b hb;exact⟨Nat.ne_of_lt hl,fun y c h=>f4 y c (hcl y c h)⟩
 ·obtain⟨⟨f0,f1,f2,f3,f4,f5⟩,hl⟩:=hfp b hb;rcases f3 with z|z
  ·exact I.ok.noex b o e z
  ·exact absurd (Nat.lt_of_lt_of_le (Heap.lt_size e) (Nat.le_trans I.ok.bsz z)) (Nat.lt_irrefl _)
 ·
  cases i with
  |zero=>
   have:(none:Option (Option V))=some (some v)∨(some none:Option (Option V))=some (some v):= .inr h2;rcases this with z|z<;>cases z
  |succ i=>
   have h1':zs[i]? =some y:=h1;have h2':(ix.map fun j=>(σ[j]?).join)[i]? =some (some v):=h2;have ha:(ix.map fun j=>X.N[j]?)[i]? =some (some y):=by rw[S.at_,List.getElem?_map,h1'];rfl
   rw[List.getElem?_map] at h2' ha;cases e:ix[i]? with
   |none=>rw[e] at h2';cases h2'
   |some j=>
    rw[e] at h2' ha;have ha':X.N[j]? =some y:=Option.some.inj ha;have hj:(σ[j]?).join=some v:=Option.some.inj h2';have hσ:σ[j]? =some (some v):=by
     cases q:σ[j]? with
     |none=>rw[q] at hj;cases hj
     |some o=>rw[q] at hj;exact congrArg some hj
    obtain⟨m,hn,hl⟩:=I.loc;have hfr:=S.zfree y (List.mem_of_getElem? h1');have hkind:=S.free _ (Y9 hfr) rfl;have hv:Vis X.env.scope y:=by
     rcases hkind with z|z
     ·exact .inr (.inl z)
     ·exact .inr (.inr z)
    obtain⟨u,r,q⟩:=hl j y v ha' hσ hv;refine⟨u,r,?_⟩;rcases q with⟨kl,_⟩|⟨_,c,hc,hcell⟩
    ·have kl':X.env.kindOf y=some .local:=kl;rcases hkind with z|z<;>(rw[z] at kl';cases kl')
    ·obtain⟨c',hc'⟩:=hhas y (Y9 hfr);have ec:c'=c:=by have:=hcl y c' hc';rw[hc] at this;exact(Option.some.inj this).symm
     subst ec;refine .inr ⟨?_,c',hc',?_⟩
     ·have hvis:Vis (relabel sc X.env) y:=h3;rcases hvis with z|z|z
      ·obtain⟨k',e',q⟩:=Wo z;rw[hfr] at e';cases e';rcases q with q|⟨_,q⟩<;>cases q
      ·exact .inl z
      ·exact .inr z
     ·obtain⟨o,ho,hd⟩:=hcell;exact⟨o,hk _ _ ho,hd⟩
 ·obtain⟨v,o,ho,hd⟩:=I.cell y c (hcl y c h);exact⟨v,o,hk _ _ ho,hd⟩
 ·show(none::ix.map fun j=>(σ[j]?).join).length=(x::zs).length;have:=congrArg List.length S.at_;simp only[List.length_map] at this;simp only[List.length_cons,List.length_map,this]
def Zf3(X:Cx)(pins:List (Addr×Obj))(σ:St)(Q:VK)(acc:Value)(C:Addr)(s':Shared):Prop:=
 ∃p H' m,acc=Value.ref p∧s'.heap.Ns C m∧Inv X pins σ H' s'∧WS X pins H' C∧Q (.ref p) H'
theorem ZcG{pins:List (Addr×Obj)}{σ:St}{H:Hp}{s:Shared}{sc:Scope}{x:Str}{zs:List Str}{ix:List Nat}{cl:List (Str×Addr)}{fp:List Addr}{it:Addr}{tn:Nat→Heap→Prop}{J:It}
  {elt tg iter:Expr} {ifs:List Expr} {pos:Pos} {g:TG} {tc:TT} {te:TE} {Q:VK} {E:Value→Shared→Prop} {RR:Value→Addr→Result→Shared→Prop}
  (hc:X.calm=true) (S:YR X sc x zs ix) (I:Inv X pins σ H s) (hcl:∀y c,cl.lookup y=some c→X.env.cells.lookup y=some c) (hhas:∀y,(y,NameKind.free)∈sc.names→∃c,cl.lookup y=some c)
  (T:Zao X.prog X.w X.K tg J fp it tn) (st:tn 0 s.heap) (hfp:∀b∈fp,WS X pins H b)
  (hin:∀C s H,PG (Zl X sc cl C (x::zs) s H fp) tg g∧PIf (Zl X sc cl C (x::zs) s H fp) ifs tc∧PE (Zl X sc cl C (x::zs) s H fp) elt te)
  (hq:∀p,H p=none→∃W:Nat→Nat→List V→St→Hp→Prop,(∃m,W 0 m [] (emb ix σ) (upd H p (.lst [])))∧∀i m ys σ' H',W i m ys σ' H'→
   (J.stop i H'∧Q (.ref p) H')∨(J.go i H'∧∀x H2,J.yld i H' x H2→g x σ' H2 fun σ2 H3=>tc σ2 H3 fun b H4=>
    if b=true then te σ2 H4 fun v H5=>H5 p=some (.lst ys)∧ys.length<sizeLine∧∃m',m'<m∧W (i+1) m' (ys++ [v]) σ2 (upd H5 p (.lst (ys++ [v])))
    else ∃m',m'<m∧W (i+1) m' ys σ2 H4))
  (hR:∀acc C f s',Zf3 X pins σ Q acc C s'→RR acc C (.ok f) s'):
  wpAny (model X.prog X.w) X.A (newList []) (fun acc s₃=>wpAny (model X.prog X.w) X.A (newFunctionEnv sc X.env.globals cl [] X.env.qual none .none (some X.env)) (fun cenv s₄=>
   codeAny (model X.prog X.w) X.A (.compStart (.ListComp elt [⟨tg,iter,ifs,0⟩] sc pos) 0 (.ref it) acc {cenv with scope:=relabel sc X.env}) (RR acc cenv.locals) s₄) E s₃) E s:=by
 refine wpAny_newObj_type (wpAny_newFunctionEnv S.nocell (by intro y hy;simp at hy) (fun h₁ hns₁ hsb₁=>?_) S.kind);have I3:Inv X pins σ (upd H s.heap.objs.size (.lst [])) {s with heap:=s.heap.push {cls:= .type "list",dict:=none,data:= .seq ([]:List Value).toArray}}:=I.lnew (its:=[]) (ys:=[]) (t':=s.toks) .nil (Nat.zero_le _);dsimp only at hns₁ hsb₁⊢;obtain⟨W,⟨m0,w0⟩,turn⟩:=hq s.heap.objs.size (I.hok.fresh (Nat.le_refl _));have lt:∀b∈fp,b<s.heap.objs.size:=fun b hb=>by
  obtain⟨o,e,_⟩:=T.obj 0 s.heap st b hb;exact Heap.lt_size e
 have up:∀b∈fp,∀o,(upd H s.heap.objs.size o) b=H b:=fun b hb o=>Ze (Nat.ne_of_lt (lt b hb));have kp:∀b o,(s.heap.push {cls:= .type "list",dict:=none,data:= .seq ([]:List Value).toArray}).get? b=some o→h₁.get? b=some o:=fun b o e=>
  hsb₁.extBut b o (Nat.ne_of_lt (Heap.lt_size e)) (Heap.get?_push_of_some _ e)
 have f3:∀b∈fp,WS X pins (upd H s.heap.objs.size (.lst [])) b∧b<(s.heap.push {cls:= .type "list",dict:=none,data:= .seq ([]:List Value).toArray}).objs.size:=fun b hb=>by
  obtain⟨q0,q⟩:=hfp b hb;refine⟨⟨(up b hb _).trans q0,q⟩,?_⟩;rw[Heap.size_push];exact Nat.lt_succ_of_lt (lt b hb)
 generalize hS3:({s with heap:=s.heap.push {cls:= .type "list",dict:=none,data:= .seq ([]:List Value).toArray}}:Shared)=s3 at I3;have hH3:s.heap.push {cls:= .type "list",dict:=none,data:= .seq ([]:List Value).toArray}=s3.heap:=by rw[←hS3]
 rw[hH3] at kp f3 hns₁⊢;have st3:tn 0 h₁:=T.keep 0 _ _ st fun b _ o e=>kp b o (by rw[←hH3];exact Heap.get?_push_of_some _ e);have J0:Inv (Zl X sc cl s3.heap.objs.size (x::zs) s3 (upd H s.heap.objs.size (.lst [])) fp) [] (emb ix σ) (upd H s.heap.objs.size (.lst [])) {s3 with heap:=h₁,toks:=s3.toks}:=
  Zgw S I3 hcl hhas f3 hns₁ kp
 obtain⟨hg,hif,he⟩:=hin s3.heap.objs.size s3 (upd H s.heap.objs.size (.lst []));have fpo:∀{H':Hp},(∀b∈fp,H' b=none)→∀b∈fp,WS (Zl X sc cl s3.heap.objs.size (x::zs) s3 (upd H s.heap.objs.size (.lst [])) fp) [] H' b:=fun{H'} hn b hb=>
  ⟨hn b hb,(J0.ok.exf b hb).1,J0.ok.exfs b hb,.inl hb,(J0.ok.exf b hb).2,fun p hp=>absurd (show p∈([]:List (Addr×Obj)) from hp) (by simp)⟩
 have loop:∀s4:Shared,s4={s3 with heap:=h₁,toks:=s3.toks}→
   codeAny (model X.prog X.w) X.A (.compLoop (.ListComp elt [⟨tg,iter,ifs,0⟩] sc pos) 0 (.ref it) (.ref s.heap.objs.size) (compEnvC sc cl s3.heap.objs.size X.env)) (RR (.ref s.heap.objs.size) s3.heap.objs.size) s4:=by
  rintro s4 rfl;refine Zbg (fun n s'=>∃i ys σ' H',Inv (Zl X sc cl s3.heap.objs.size (x::zs) s3 (upd H s.heap.objs.size (.lst [])) fp) [] σ' H' s'∧tn i s'.heap∧(∀b∈fp,H' b=none)∧W i n ys σ' H') ?_ m0
   ⟨0,[],emb ix σ,_,J0,st3,fun b hb=>(f3 b hb).1.1,w0⟩
  rintro n s5 ⟨i,ys,σ5,H5,I5,st5,fr5,w5⟩;rcases turn i n ys σ5 H5 w5 with⟨stop,qn⟩|⟨go,step⟩
  ·refine thn (T.done (Zl X sc cl s3.heap.objs.size (x::zs) s3 (upd H s.heap.objs.size (.lst [])) fp) rfl rfl rfl hc i [] s5 σ5 H5 _ I5 (fpo fr5) st5 stop) fun r s6 ⟨hr,I6⟩=>?_;subst hr;obtain⟨m6,hm6,_⟩:=I6.loc;refine hR _ _ _ _ ⟨s.heap.objs.size,H5,m6,rfl,hm6,?_,I3.fpOk (Nat.le_refl _) I6.free,qn⟩;exact I3.call' I6.os I6.base I6.hok I6.bare fun b hb=>by
    obtain⟨⟨f0,f1,f2,f3,f4,f5⟩,_⟩:=f3 b hb;exact⟨f3,f1,f4,f5⟩
  ·refine thn (T.item (Zl X sc cl s3.heap.objs.size (x::zs) s3 (upd H s.heap.objs.size (.lst [])) fp) rfl rfl rfl hc i [] s5 σ5 H5 _ I5 (fpo fr5) st5 go) fun r s6 ⟨u,hr,h6⟩=>?_;subst hr;refine thn h6 fun _ s7 ⟨x7,H7,I7,r7,y7,st7,fr7⟩=>?_;have I7':=I7.pinned (fpo fr7) (T.obj _ _ st7);refine thn (hg _ s7 σ5 H7 x7 u _ I7' r7 (step x7 H7 y7)) fun _ s8 ⟨σ8,H8,I8,q8⟩=>?_;refine thn (hif _ s8 σ8 H8 _ I8 q8) fun b s9 ⟨H9,I9,q9⟩=>?_;have again:∀{ys':List V}{σ':St}{H':Hp}{m':Nat}{s':Shared},Inv (Zl X sc cl s3.heap.objs.size (x::zs) s3 (upd H s.heap.objs.size (.lst [])) fp) ([]++ZaH fp s7.heap) σ' H' s'→W (i+1) m' ys' σ' H'→m'<n→
     ∃m,m<n∧∃i ys σ' H',Inv (Zl X sc cl s3.heap.objs.size (x::zs) s3 (upd H s.heap.objs.size (.lst [])) fp) [] σ' H' s'∧tn i s'.heap∧(∀b∈fp,H' b=none)∧W i m ys σ' H':=fun{ys' σ' H' m' s'} Iz wz hm=>by
    refine⟨m',hm,i+1,ys',σ',H',Iz.unpinned,T.keep _ _ _ st7 fun b hb o e=>(Iz.pin (b,o) (List.mem_append_right _ (List.mem_append_right _ (W3 hb e)))).1,fun b hb=>?_,wz⟩;obtain⟨o,e,d⟩:=T.obj _ _ st7 b hb;exact(Iz.pin (b,o) (List.mem_append_right _ (List.mem_append_right _ (W3 hb e)))).2.1
   cases b with
   |false=>
    rw[if_neg Bool.false_ne_true] at q9⊢;obtain⟨m',hm,wz⟩:=q9;exact again I9 wz hm
   |true=>
    rw[if_pos rfl] at q9⊢;refine thn (he _ s9 σ8 H9 _ I9 q9) fun v s10 ⟨y,H10,I10,r10,hl,hz,m',hm,wz⟩=>?_;refine thn (YT _ s10 σ8 H10 (.ref s.heap.objs.size) [y] (.ref s.heap.objs.size) [v] (fun z H'=>z= .non∧H'=upd H10 s.heap.objs.size (.lst (ys++ [y]))) I10 rfl (.cons r10 .nil) ⟨_,ys,y,rfl,rfl,hl,hz,rfl,rfl⟩) fun _ s11 ⟨z,H11,I11,_,_,e11⟩=>?_;subst e11;exact again I11 wz hm
 exact codeAny_compStart_list (loop _ (by subst hS3;rfl)) (T.self _ 0 _ _ _ st3 (loop _ (by subst hS3;rfl)))
theorem VF{sc:Scope}{x:Str}{zs:List Str}{ix:List Nat}(ok:X.Ok)(S:YR X sc x zs ix):
  ∃cl,closureFor sc X.env=pure cl∧(∀y c,cl.lookup y=some c→X.env.cells.lookup y=some c)∧∀y,(y,NameKind.free)∈sc.names→∃c,cl.lookup y=some c:=by
 obtain⟨cl,e,h1,h2⟩:=ZaI X.env sc.names [] (fun y hy hf=>ok.has y.1 (S.free y hy hf)) (fun y c h=>by simp at h);refine⟨cl,?_,h1,fun y hy=>h2 y (.inr hy)⟩;unfold closureFor;simp only;rw[e]
 rfl
theorem UT{elt tg iter:Expr}{ifs:List Expr}{sc:Scope}{pos:Pos}{x:Str}{zs:List Str}{ix:List Nat}{wi:TI}{g:TG}{tc:TT}{te:TE}
  (hc:X.calm=true) (S:YR X sc x zs ix) (hi:PI X tg iter wi)
  (hin:∀cl C s H fp,PG (Zl X sc cl C (x::zs) s H fp) tg g∧PIf (Zl X sc cl C (x::zs) s H fp) ifs tc∧PE (Zl X sc cl C (x::zs) s H fp) elt te)
  (hs:∀x,foldedSetIterable iter X.env x=pure x:=by intro _;rfl):
  PE X (.ListComp elt [⟨tg,iter,ifs,0⟩] sc pos) (Zg8 ix wi g tc te):=by
 intro pins s σ H Q I h;obtain⟨cl,hclos,hcl,hhas⟩:=VF I.ok S;rw[eval_ListComp];refine wpAny_comprehension_free (use:=none) rfl hs hclos S.kind S.names (thn (hi pins s σ H _ I h) fun v s1 h1=>thn h1 fun itv s2 h2=>?_);obtain⟨it,fp,tn,J,H2,e,I2,T,st2,f2,hq⟩:=h2;subst e;refine ZcG (RR:=fun acc C=>compPost (model X.prog X.w) X.A X.xe none (EP X pins σ Q) acc C) hc S I2 hcl hhas T st2 f2 (fun C s H=>hin cl C s H fp) hq fun acc C f s' h=>?_;obtain⟨p,H',m,rfl,hm,I',⟨g0,g1,g2,g3,g4,g5⟩,q⟩:=h;exact⟨m,hm,fun h' hb=>⟨.ref p,H',I'.turned (t':=s'.toks) (fun b o hne e=>(hb.2 b hne).trans e) g0 g1 g3 g4 g5,rfl,q⟩⟩
theorem ZbW{elt tg iter:Expr}{ifs:List Expr}{sc:Scope}{pos py spos:Pos}{x y:Str}{zs:List Str}{ix:List Nat}{wi:TI}{g:TG}{tc:TT}{te:TE}{j:Nat}
  (hc:X.calm=true) (S:YR X sc x zs ix) (hi:PI X tg iter wi)
  (hin:∀cl C s H fp,PG (Zl X sc cl C (x::zs) s H fp) tg g∧PIf (Zl X sc cl C (x::zs) s H fp) ifs tc∧PE (Zl X sc cl C (x::zs) s H fp) elt te)
  (hN:X.N.Nodup) (hj:X.N[j]? =some y) (hy:Loc X.env.scope y)
  (hsw:swapsWith (.ListComp elt [⟨tg,iter,ifs,0⟩] sc pos) (some (.Name y py)) spos.line X.env=pure true:=by rfl)
  (hf:X.fn y=true∨X.env.scope.names.lookup y=some .local:=by first|exact .inl rfl|exact .inr rfl|assumption)
  (hs:∀x,foldedSetIterable iter X.env x=pure x:=by intro _;rfl):
  PS X (.Assign [.Name y py] (.ListComp elt [⟨tg,iter,ifs,0⟩] sc pos) spos) (Ze8 (Zg8 ix wi g tc te) (UG j)):=by
 intro pins s σ H D I h;obtain⟨cl,hclos,hcl,hhas⟩:=VF I.ok S;rw[exec_Assign_Name_used _ _ _ _ hsw];refine wpAny_bind (wpAny_standAt (wpAny_bind ?_));show wpAny _ X.A (do let _←comprehension (.ListComp elt [⟨tg,iter,ifs,0⟩] sc pos) sc X.env _ (newList []) false (eval iter X.env) (some (assign (.Name y py) X.env))) _ _ s;refine wpAny_bind (wpAny_mono (wpAny_comprehension_free (use:=some (assign (.Name y py) X.env)) (Q:=fun _ s'=>SP X pins D .next s') rfl hs hclos S.kind S.names
  (thn (hi pins s σ H _ I h) fun v s1 h1=>thn h1 fun itv s2 h2=>?_)) (fun _ s' hq=>wpAny_pure (wpAny_pure hq)) fun _ _ e=>e)
 obtain⟨it,fp,tn,J,H2,e,I2,T,st2,f2,hq⟩:=h2;subst e;refine ZcG (Q:=fun x H1=>UG j x σ H1 D.nx) (RR:=fun acc C=>compPost (model X.prog X.w) X.A X.xe (some (assign (.Name y py) X.env)) (fun _ s'=>SP X pins D .next s') acc C) hc S I2 hcl hhas T st2 f2 (fun C s H=>hin cl C s H fp) hq fun acc C f s' h=>?_;obtain⟨p,H',m,rfl,hm,I',⟨g0,g1,g2,g3,g4,g5⟩,q⟩:=h;show wpAny _ X.A (assign (.Name y py) X.env (.ref p)) _ _ _;refine wpAny_assign_Name (Zba I' hN hj hy (show Zu (.ref p) (.ref p) from rfl) (fun s'' I'' ⟨c,hsb,hcc⟩=>?_) hf);have hne:C≠c:=by
  rcases hcc with z|z
  ·rw[z];exact g1
  ·exact Ne.symm (g4 _ _ z)
 exact⟨m,hm.sameBut hsb hne,fun h' hb=>⟨_,H',I''.turned (t':=s''.toks) (fun b o hne e=>(hb.2 b hne).trans e) g0 g1 g3 g4 g5,q⟩⟩
end
end L2
namespace L2
open PySem PySem.Spec PyProof.Rows
noncomputable def CXX (P:Program) (w:World):CXT:=fun outer H s E e s'=>
 ∃(ea:Addr)(cls a0:Value)(H':Hp)(B:Heap),e= .ref ea∧s'.os=s.os∧AllBare s'.gens∧Un (frs outer) [] H H' s.heap s'.heap∧HOk P w H' s'.heap∧
  Heap.FlyingW B outer ea cls a0 s'.heap∧(∀b o,s'.heap.get? b=some o→(H' b≠none∨((∃o',s.heap.get? b=some o')∧b∉frs outer))→B.get? b=some o)∧E cls none H'
theorem HOk.stays{P:Program}{w:World}{H:Hp}{h h' B:Heap}(ok:HOk P w H h)(hB:∀b o,h.get? b=some o→H b≠none→B.get? b=some o)(st:B.StaysIn h'):HOk P w H h':=fun a o e=>
 (ok a o e).stay (fun b u hb q=>st b u (hB b u q (by
  rcases hb with rfl|hb
  ·rw[e];exact fun z=>nomatch z
  ·rw[hb];exact fun z=>nomatch z))) (fun _ q=>q) fun _ _ q=>q
theorem ZU.got{P:Program}{w:World}{H:Hp}{h:Heap}{a:Addr}{o:HO}(x:ZU P w H h a o):∃ob,h.get? a=some ob:=by
 cases o with
 |lst xs=>obtain⟨_,_,_,_,e⟩:=x;exact⟨_,e⟩
 |tup xs=>obtain⟨_,_,_,p⟩:=x;obtain⟨ob,e,_⟩:=p;exact⟨ob,e⟩
 |dK kvs=>obtain⟨_,_,_,_,o,_,_,e,_⟩:=x;exact⟨o,e⟩
 |dT kvs=>obtain⟨_,_,_,_,o,_,_,e,_⟩:=x;exact⟨o,e⟩
 |set S n=>obtain⟨o,_,_,_,e,_⟩:=x;exact⟨o,e⟩
 |ins C dx fs=>obtain⟨_,_,_,e,_⟩:=x;exact⟨_,e⟩
 |own y=>exact x
 |xd fs=>obtain⟨_,⟨o,_,_,e,_⟩,_⟩:=x;exact⟨o,e⟩
 |rng lo hi=>obtain⟨_,_,_,e⟩:=x;exact⟨_,e⟩
 |frz ob u=>obtain⟨e,_⟩:=x;exact⟨ob,e⟩
 |tbl ps=>exact⟨_,(show h.get? a=some _ from x)⟩
 |met f y=>exact⟨_,(show h.get? a=some _ from x)⟩
 |ext φ=>obtain⟨_,e,_⟩:=x;exact e
theorem Un.fly{fs:List Addr}{H H':Hp}{h h1 h2 B:Heap}(u:Un fs [] H H' h h1)(hB:∀b o,h1.get? b=some o→(H' b≠none∨((∃o',h.get? b=some o')∧b∉fs))→B.get? b=some o)
  (st:B.StaysIn h2) (sl:h1.UpToSlots h2) (hf:∀b∈fs,∀o,h.get? b=some o→∀vs,o.data≠ .fields vs) (hfn:∀b∈fs,H b=none):Un fs [] H H' h h2 where
 keep:=fun b o e n hb hx=>st b o (hB b o (u.keep b o e n hb hx) (.inr ⟨⟨_,e⟩,hb⟩))
 slot:=fun b o e n hb hx=>by
  obtain⟨s1,e1⟩:=u.slot b o e n hb hx;obtain⟨s2,e2⟩:=sl b _ e1 (hf b hb o e);exact⟨s2,e2⟩
 free:=u.free
 there:=fun b o e hx=>by
  by_cases hb:b∈fs
  ·obtain⟨s1,e1⟩:=u.slot b o e (hfn b hb) hb hx;obtain⟨s2,e2⟩:=sl b _ e1 (hf b hb o e);exact⟨_,e2⟩
  ·obtain⟨o',e1⟩:=u.there b o e hx;exact⟨o',st b o' (hB b o' e1 (.inr ⟨⟨_,e⟩,hb⟩))⟩
 tups:=u.tups
 frzs:=u.frzs
 tbls:=u.tbls
section
variable {P:Program}{w:World}{K:PySem.W.Frag}{mg:Str→Option Value}{base:Heap}{N:List Str}{qual:Str}{scope:Scope}{f:Addr}{cd:Value}{A:Around}{outer:List Env}{s₀:Shared}{H₀:Hp}{E:XK}
noncomputable abbrev cxX (P:Program) (w:World) (K:PySem.W.Frag) (mg:Str→Option Value) (base:Heap) (N:List Str) (qual:Str) (scope:Scope) (f:Addr) (cd:Value) (A:Around) (outer:List Env) (s₀:Shared) (H₀:Hp) (E:XK):Cx:=
 ZP (CXX P w) P w K mg base N qual scope f cd A outer s₀ H₀ E
theorem Zir{pins:List (Addr×Obj)}{σ:St}{H H':Hp}{s s':Shared}{ea:Addr}{cls a0:Value}{B:Heap}(I:Inv (cxX P w K mg base N qual scope f cd A outer s₀ H₀ E) pins σ H s)
  (os:s'.os=s.os) (bare:AllBare s'.gens) (u:Un (frs (cxX P w K mg base N qual scope f cd A outer s₀ H₀ E).stack) [] H H' s.heap s'.heap) (ok:HOk P w H' s'.heap)
  (fl:Heap.FlyingW B (cxX P w K mg base N qual scope f cd A outer s₀ H₀ E).stack ea cls a0 s'.heap)
  (hB:∀b o,s'.heap.get? b=some o→(H' b≠none∨((∃o',s.heap.get? b=some o')∧b∉frs (cxX P w K mg base N qual scope f cd A outer s₀ H₀ E).stack))→B.get? b=some o) (q:E cls none H'):
  (cxX P w K mg base N qual scope f cd A outer s₀ H₀ E).xe (.ref ea) s':=by
 have hfr:(A.deeper (envOfC qual scope s₀.heap.objs.size f cd)).frames=some (envOfC qual scope s₀.heap.objs.size f cd::outer):=I.ok.frames;refine wpAny_leaves_onW (L:=s₀.heap.objs.size) hfr rfl fl fun h2 fl2 sl=>?_;have below:∀b o,s₀.heap.get? b=some o→b∉frs outer→(∃o',s.heap.get? b=some o')∧b∉frs (cxX P w K mg base N qual scope f cd A outer s₀ H₀ E).stack:=fun b o e hn=>
  ⟨I.base.there b o e (by intro z;exact absurd (show b∈([]:List Addr) from z) (by simp)),fun z=>by
   rcases List.mem_cons.mp (I.stkSub b z) with q|q
   ·have hb:=Heap.lt_size e;have q':b=s₀.heap.objs.size:=q;rw[q'] at hb;exact Nat.lt_irrefl _ hb
   ·exact hn q⟩
 have u2:Un (frs outer) [] H₀ H' s₀.heap s'.heap:=by
  have b0:Un (frs outer) [] H₀ H s₀.heap s.heap:=I.base;refine⟨fun b o e n hb hx=>?_,fun b o e n hb hx=>?_,fun b o e n hx=>?_,fun b o e hx=>?_,fun b xs e=>u.tups b xs (b0.tups b xs e),fun b o v e=>u.frzs b o v (b0.frzs b o v e),fun b ps e=>?_⟩
  ·exact u.keep b o (b0.keep b o e n hb hx) (b0.free b o e n hx) (below b o e hb).2 hx
  ·obtain⟨s1,e1⟩:=b0.slot b o e n hb hx;obtain⟨s2,e2⟩:=u.any e1 (b0.free b o e n hx) hx;exact⟨s2,e2⟩
  ·obtain⟨o',e1⟩:=b0.there b o e hx;exact u.free b o' e1 (b0.free b o e n hx) hx
  ·obtain⟨o',e1⟩:=b0.there b o e hx;exact u.there b o' e1 hx
  ·obtain⟨m1,e1⟩:=b0.tbls b ps e;obtain⟨m2,e2⟩:=u.tbls b _ e1;exact⟨m1++m2,by rw[e2,Array.append_assoc]⟩
 have hB2:∀b o,s'.heap.get? b=some o→(H' b≠none∨((∃o',s₀.heap.get? b=some o')∧b∉frs outer))→B.get? b=some o:=fun b o e h=>hB b o e (h.imp id fun⟨⟨o',z⟩,hn⟩=>below b o' z hn);have ok2:HOk P w H' h2:=ok.stays (fun b o e n=>hB b o e (.inl n)) fl2.1;refine⟨ea,cls,a0,H',B,rfl,os.trans I.os,bare,u2.fly hB2 fl2.1 sl (fun b hb o e=>?_) (I.ok.frf),ok2,fl2,fun b o e h=>?_,q⟩
 ·obtain⟨_,o',e',d⟩:=I.ok.funs.mem hb;have e'':s₀.heap.get? b=some o':=e';rw[e] at e'';cases e'';exact d
 ·have ex:∃o',s'.heap.get? b=some o':=by
   rcases h with h|⟨h,hn⟩
   ·cases q2:H' b with
    |none=>exact absurd q2 h
    |some v=>exact(ok b v q2).got
   ·obtain⟨o5,q5⟩:=h;exact u2.there b o5 q5 (by simp)
  obtain⟨o',e'⟩:=ex;have e2:=hB2 b o' e' h;have e3:=fl2.1 b o' e2;have e4:h2.get? b=some o:=e;rw[e3] at e4;cases e4;exact e2
theorem Zm:VJ (CXX P w) (cxX P w K mg base N qual scope f cd A outer s₀ H₀ E) E:=by
 intro pins σ H s e s' I h;obtain⟨ea,cls,a0,H',B,rfl,os,bare,u,ok,fl,hB,q⟩:=h;exact Zir I os bare u ok fl hB q
noncomputable def ZeN (cls:Value) (E:XK) (t:TA):TS:=fun _ σ H=>t σ H fun vs H1=>vs.length≤sizeLine∧E cls none H1
theorem Zhl{pins:List (Addr×Obj)}{σ:St}{H:Hp}{s:Shared}{h':Heap}{ea:Addr}{cls:Value}{us:List Value}(I:Inv (cxX P w K mg base N qual scope f cd A outer s₀ H₀ E) pins σ H s)
  (hx:Heap.MadeExcOf s.heap h' ea cls us) (q:E cls none H):(cxX P w K mg base N qual scope f cd A outer s₀ H₀ E).xe (.ref ea) {s with heap:=h'}:=by
 have hfr:(A.deeper (envOfC qual scope s₀.heap.objs.size f cd)).frames=some (envOfC qual scope s₀.heap.objs.size f cd::outer):=I.ok.frames;have hin:∀env∈(cxX P w K mg base N qual scope f cd A outer s₀ H₀ E).stack,∀b,env.frame=some b→b∈frs (cxX P w K mg base N qual scope f cd A outer s₀ H₀ E).stack:=fun env he b hb=>List.mem_filterMap.mpr ⟨env,he,hb⟩;have inB:∀b o,s.heap.get? b=some o→(H b≠none∨((∃o',s₀.heap.get? b=some o')∧b∉frs outer))→(PySem.W.hideAll s.heap (frs (cxX P w K mg base N qual scope f cd A outer s₀ H₀ E).stack)).get? b=some o:=fun b o e h=>
  PySem.W.hideAll_get _ e fun z=>by
   rcases h with h|⟨⟨o',e'⟩,hn⟩
   ·exact h (I.stkFree b z)
   ·rcases List.mem_cons.mp (I.stkSub b z) with q|q
    ·have hb:=Heap.lt_size e';have q':b=s₀.heap.objs.size:=q;rw[q'] at hb;exact Nat.lt_irrefl _ hb
    ·exact hn q
 refine wpAny_leaves_madeW (base:=PySem.W.hideAll s.heap (frs (cxX P w K mg base N qual scope f cd A outer s₀ H₀ E).stack)) (h:=s.heap) (L:=s₀.heap.objs.size) hfr rfl (fun b o e=>PySem.W.of_hideAll _ e) (PySem.W.funFrames_hide I.stack hin) hx fun h3 t fl _ _ sl=>?_;have sl':s.heap.UpToSlots h3:=(Heap.UpToSlots.of_keeps hx.keeps).trans sl;have b0:Un (frs outer) [] H₀ H s₀.heap s.heap:=I.base;have ok3:HOk P w H h3:=I.hok.stays (fun b o e n=>inB b o e (.inl n)) fl.1;refine⟨ea,cls,_,H,_,rfl,I.os,I.bare,b0.fly inB fl.1 sl' (fun b hb o e=>?_) I.ok.frf,ok3,fl,fun b o e h=>?_,q⟩
 ·obtain⟨_,o',e',d⟩:=I.ok.funs.mem hb;have e'':s₀.heap.get? b=some o':=e';rw[e] at e'';cases e'';exact d
 ·have ex:∃o',s.heap.get? b=some o':=by
   rcases h with h|⟨⟨o5,q5⟩,_⟩
   ·cases q2:H b with
    |none=>exact absurd q2 h
    |some v=>exact(I.hok b v q2).got
   ·exact b0.there b o5 q5 (by simp)
  obtain⟨o',e'⟩:=ex;have e2:=inB b o' e' h;have e3:=fl.1 b o' e2;have e4:h3.get? b=some o:=e;rw[e3] at e4;cases e4;exact e2
theorem ZiW{x:Str}{np cpos pos:Pos}{e₀:Expr}{rest:List Expr}{t:TA}{C:Addr}{B newId initId:String}{bm:List Value}(O:OwnCls x C bm newId mg base)(FB:ExcBaseFacts B newId initId bm)
  (hg:Gl (cxX P w K mg base N qual scope f cd A outer s₀ H₀ E) x) (ha:PA (cxX P w K mg base N qual scope f cd A outer s₀ H₀ E) (e₀::rest) t)
  (he:starEach (e₀::rest) (cxX P w K mg base N qual scope f cd A outer s₀ H₀ E).env=(false,eval e₀ (cxX P w K mg base N qual scope f cd A outer s₀ H₀ E).env)::starEach rest (cxX P w K mg base N qual scope f cd A outer s₀ H₀ E).env:=by rfl)
  (hplain:(backTo cpos (starEach rest (cxX P w K mg base N qual scope f cd A outer s₀ H₀ E).env)).any (·.1)=false:=by rfl) (hdb:(x==("__debug__" :Str))=false:=by decide):
  PS (cxX P w K mg base N qual scope f cd A outer s₀ H₀ E) (.Raise (some (.Call (.Name x np) (e₀::rest) [] cpos)) none pos) (ZeN (.ref C) E t):=by
 intro pins s σ H D I h;obtain⟨tl,N',nm,q,bs,hdct,sn,sub,ab,col,dd,k0,k1,k2,k3,k5,mN,hC,hN,hni,T⟩:=O.obj;refine wpAny_Raise_call_subT (C:=C) (nm:=nm) (q:=q) (N:=N') (bs:=bs) (bm:=tl) (hdct:=hdct) (sn:=sn) (sub:=sub) (ab:=ab) (col:=col) (dd:=dd) (k0:=k0) (k1:=k1) (k2:=k2) (k3:=k3) (k5:=k5)
  FB (mN:=mN) (T.hasType FB.hasBase) (I.ok.hd rfl) (by rw[he];show(false||(backTo cpos (starEach rest (cxX P w K mg base N qual scope f cd A outer s₀ H₀ E).env)).any (·.1))=false;rw[hplain];rfl) hni (V1 I hg O.bound ⟨rfl,?_⟩ hdb)
 have h':=ha cpos pins s σ H _ I h;rw[he] at h'⊢;refine Calls.evalArgs_plain (thn h' fun us s2 ⟨vs,H2,I2,r,hz,q2⟩=>⟨rfl,by rw[←r.length];exact hz,I2.bk _ _ hC,hN.keeps I2.bk,T.keeps I2.bk,fun h3 e hm=>Zhl I2 hm q2⟩)
end
end L2
namespace L2
open PySem PySem.Spec PyProof.Rows
mutual
inductive Wr(K:PySem.W.Frag)(H:Hp):V→PyData→Prop
 |non:Wr K H .non .none
 |bl (b:Bool):Wr K H (.bl b) (.bool b)
 |int (i:Int):Wr K H (.int i) (.int i)
 |str (x:Str):Wr K H (.str x) (.str x)
 |lst {a:Addr} {xs:List V} {ds:List PyData} (h:SqL K H a xs) (r:DRels K H xs ds):Wr K H (.ref a) (.list ds)
 |tup {a:Addr} {xs:List V} {ds:List PyData} (h:SqT K H a xs) (r:DRels K H xs ds):Wr K H (.ref a) (.tuple ds)
inductive DRels(K:PySem.W.Frag)(H:Hp):List V→List PyData→Prop
 |nil:DRels K H [] []
 |cons {x:V} {d:PyData} {xs:List V} {ds:List PyData} (h:Wr K H x d) (r:DRels K H xs ds):DRels K H (x::xs) (d::ds)
end
theorem DRels.ints{K:PySem.W.Frag}{H:Hp}:∀ns:List Int,DRels K H (ns.map V.int) (ns.map PyData.int)
 | []=> .nil
 |n::ns=> .cons (.int n) (DRels.ints ns)
section
variable {X:Cx}{pins:List (Addr×Obj)}{σ:St}{H:Hp}{s:Shared}
mutual
theorem Wr.reads(I:Inv X pins σ H s):∀{x:V}{d:PyData}{v:Value},Wr X.K H x d→Zu x v→∃as,Reads s.heap v d as
 |_,_,_,.non,r=>by cases (show _=Value.none from r);exact⟨_,.none⟩
 |_,_,_,.bl b,r=>by cases (show _=Value.bool b from r);exact⟨_,.bool b⟩
 |_,_,_,.int i,r=>by obtain⟨t,e⟩:=r;cases e;exact⟨_,.int i t⟩
 |_,_,_,.str x,r=>by obtain⟨t,e⟩:=r;cases e;exact⟨_,.str x t⟩
 |_,_,_,.lst (a:=a) h rs,r=>by
  cases (show _=Value.ref a from r);obtain⟨its,rv,p,hz⟩:=I.list h;obtain⟨o,ho,hc,n,hd⟩:=p.isList;obtain⟨as,q⟩:=DRels.reads I rs rv;exact⟨_,.list ho hc hd (by simpa using q)⟩
 |_,_,_,.tup (a:=a) h rs,r=>by
  cases (show _=Value.ref a from r);obtain⟨its,rv,p,hz⟩:=I.tuple h;obtain⟨o,ho,hc,n,hd⟩:=(show s.heap.IsTuple a its.toArray from p);obtain⟨as,q⟩:=DRels.reads I rs rv;exact⟨_,.tuple ho hc hd (by simpa using q)⟩
theorem DRels.reads(I:Inv X pins σ H s):∀{xs:List V}{ds:List PyData}{vs:List Value},DRels X.K H xs ds→Zq xs vs→∃as,ReadsAll s.heap vs ds as
 |_,_,_,.nil,.nil=>⟨_,.nil⟩
 |_,_,_,.cons h r,.cons q t=>by
  obtain⟨as,e⟩:=Wr.reads I h q;obtain⟨bs,e'⟩:=DRels.reads I r t;exact⟨_,.cons e e'⟩
end
end
noncomputable def ZbG (K:PySem.W.Frag) (neg:Bool):R2:=fun x y H Q=>∃dx dy,Wr K H x dx∧Wr K H y dy∧dx.canLay0=true∧dy.canLay0=true∧dx.depth≤60∧Q (.bl (if neg then !PyData.eqv dx dy else PyData.eqv dx dy)) H
section
variable {X:Cx}
theorem ZkK(hu:X.A.units+64<cLine):OpR X (compareOp .Eq) (ZbG X.K false):=by
 intro pins s σ H x y v u Q I rx ry h;obtain⟨dx,dy,h1,h2,c1,c2,dp,q⟩:=h;obtain⟨as,r1⟩:=h1.reads I rx;obtain⟨bs,r2⟩:=h2.reads I ry;exact SeqAt.compareEq_reads r1 r2 c1 c2 (by have:min dx.depth dy.depth≤dx.depth:=Nat.min_le_left _ _;omega) ⟨.bl _,H,I,rfl,q⟩
theorem ZkG(hu:X.A.units+64<cLine):OpR X (compareOp .NotEq) (ZbG X.K true):=by
 intro pins s σ H x y v u Q I rx ry h;obtain⟨dx,dy,h1,h2,c1,c2,dp,q⟩:=h;obtain⟨as,r1⟩:=h1.reads I rx;obtain⟨bs,r2⟩:=h2.reads I ry;exact SeqAt.compareNe_reads r1 r2 c1 c2 (by have:min dx.depth dy.depth≤dx.depth:=Nat.min_le_left _ _;omega) ⟨.bl _,H,I,rfl,q⟩
end
end L2
namespace L2
open PySem PySem.Spec PyProof.Rows
section
variable {prog:Program}{w:World}{A:Around}{E:Value→Shared→Prop}
variable {s:Shared}
end
section
variable {X:Cx}{pos:Pos}
end
end L2
namespace L2
open PySem PySem.Spec PyProof.Rows
section
variable {P:Program}{w:World}{K:PySem.W.Frag}{mg:Str→Option Value}{base:Heap}
theorem Fun.okX{x qual:Str}{st:Stmt}{f:Addr}{fd:FuncData}{N ps:List Str}{k:Nat}{sp:Sp}(F:Fun K x qual st f fd)(S:Zr N ps (Zi st))(len:∀vs H Q E,sp vs H Q E→vs.length=ps.length)
  (hbody:∀(cdv:Value)(A:Around)(outer:List Env)(s:Shared)(H:Hp)(vs:List V)(Q:VK)(E:XK),Yq k (A.deeper (envOfC qual (Zi st) s.heap.objs.size f cdv))→sp vs H Q E→
   ∃t,PSs (cxX P w K mg base N qual (Zi st) f cdv A outer s H E) (WD st) t∧t {nx:=fun _ H'=>Q .non H',rt:=Q} (start N vs) H):Zk P w K mg base (CXX P w) (k+1) f fd ps sp:=by
 obtain⟨oc,od,kV,doc,pm,an,cdv,ct,osl,rfl,lk,hcd⟩:=F.ex;exact Zjq lk hcd S len fun A outer s H vs Q E hr hsp=>hbody cdv A outer s H vs Q E hr hsp
theorem U3{X:Cx}:VJ (CXX X.prog X.w) X E0:=by
 intro pins σ H s e s' I h;obtain⟨ea,cls,a0,H',B,_,_,_,_,_,_,_,z⟩:=h;exact z.elim
end
section
variable {X:Cx}
noncomputable def rOr (r r':R2):R2:=fun x y H Q=>r x y H Q∨r' x y H Q
noncomputable def ZjA:R2:=fun x y H Q=>∃i j,x= .str i∧y= .str j∧i.length+j.length≤sizeLine∧Q (.str (i++j)) H
noncomputable def Zgv:R2:=rI0 fun i j=> .int (i+j)
noncomputable def ZgY:R2:=rI (fun i j=>IntMulOk i j) fun i j=> .int (i*j)
theorem ZjK:OpR X (binaryOp .Add) (rOr Zgv (rOr ZjA (rOr rCat (ZgT X.K)))):=Zk2.or (ZgV.or (Zlj.or Zj4))
theorem WG:OpR X (binaryOp .Mult) (rOr ZgY rRep):=ZjU.or ZkN
theorem ZkZ(hu:X.A.units+64<cLine):OpR X (compareOp .Eq) (rOr rEq (ZbG X.K false)):=ZlS.or (ZkK hu)
theorem Zkt(hu:X.A.units+64<cLine):OpR X (compareOp .NotEq) (rOr rNe (ZbG X.K true)):=ZlL.or (ZkG hu)
end
namespace Rd
section
variable {σ:St}{H:Hp}{Q:VK}{D:W8}{K:PySem.W.Frag}{r':R2}
theorem Zmy{i j:Int}(q:Q (.int (i+j)) H):rOr Zgv r' (.int i) (.int j) H Q:= .inl ⟨i,j,rfl,rfl,q⟩
theorem Zf7{r1 r2:R2}{a b:Addr}{xs ys:List V}(ha:H a=some (.lst xs))(hb:H b=some (.lst ys))(hl:xs.length+ys.length≤sizeLine)(q:∀p,H p=none→Q (.ref p) (upd H p (.lst (xs++ys)))):
  rOr r1 (rOr r2 (rOr rCat r')) (.ref a) (.ref b) H Q:= .inr (.inr (.inl ⟨a,b,xs,ys,rfl,rfl,ha,hb,hl,q⟩))
theorem Zmc{i j:Int}(c:IntMulOk i j)(q:Q (.int (i*j)) H):rOr ZgY r' (.int i) (.int j) H Q:= .inl ⟨i,j,rfl,rfl,c,q⟩
theorem ZlU{i j:Int}(q:Q (.bl (decide (i=j))) H):rOr rEq r' (.int i) (.int j) H Q:= .inl (eqI q)
theorem Zmm{i j:Int}(q:Q (.bl (!decide (i=j))) H):rOr rNe r' (.int i) (.int j) H Q:= .inl (neI q)
theorem ZmK{i j:Str}(q:Q (.bl (decide (i=j))) H):rOr rEq r' (.str i) (.str j) H Q:= .inl ⟨rfl,by
 have e:decide (V.str i=V.str j)=decide (i=j):=by
  by_cases h:i=j
  ·rw[h];simp
  ·rw[decide_eq_false h,decide_eq_false (fun z=>h (V.str.inj z))]
 rw[e];exact q⟩
theorem Zl9{i j:Str}(q:Q (.bl (!decide (i=j))) H):rOr rNe r' (.str i) (.str j) H Q:= .inl ⟨rfl,by
 have e:decide (V.str i=V.str j)=decide (i=j):=by
  by_cases h:i=j
  ·rw[h];simp
  ·rw[decide_eq_false h,decide_eq_false (fun z=>h (V.str.inj z))]
 rw[e];exact q⟩
theorem ZkA{x y:V}{dx dy:PyData}(hx:Wr K H x dx)(hy:Wr K H y dy)(cx:dx.canLay0=true)(cy:dy.canLay0=true)(dp:dx.depth≤60)(q:Q (.bl (PyData.eqv dx dy)) H):rOr rEq (ZbG K false) x y H Q:=
 .inr ⟨dx,dy,hx,hy,cx,cy,dp,q⟩
theorem Zk6{p:Addr}{xs:List V}{i:Int}{v:V}(h:SqL K H p xs)(e:atI xs i=some v)(q:Q v H):rIx K (.ref p) (.int i) H Q:= .inl (ixl h e q)
theorem ZmF{p:Addr}{xs:List V}{i:Int}{v:V}(h:SqT K H p xs)(e:atI xs i=some v)(q:Q v H):rIx K (.ref p) (.int i) H Q:= .inr (.inl (ixt h e q))
theorem ZmH{C:Nat→Prop}{p:Addr}{xs:List V}(h:SqL K H p xs)(q:C xs.length):∃x n,[V.ref p]=[x]∧ZcA K x H n∧C n:=⟨_,_,rfl,.inl ⟨xs,h,rfl⟩,q⟩
theorem Zmi{C:Nat→Prop}{y:Str}(h:y.length≤sizeLine)(q:C y.length):∃x n,[V.str y]=[x]∧ZcA K x H n∧C n:=⟨_,_,rfl,⟨h,rfl⟩,q⟩
theorem Zlp{i:Nat}{v:V}{σ':St}{Q:St→Hp→Prop}(e:σ.set i (some v)=σ')(h:Q σ' H):UG i v σ H Q:=by
 subst e;exact h
theorem ifP{c A B:Prop}[Decidable c](h:c)(a:A):if decide c=true then A else B:=by rw[decide_eq_true h];exact ZeZ a
theorem ifN{c A B:Prop}[Decidable c](h:¬c)(b:B):if decide c=true then A else B:=by rw[decide_eq_false h];exact Zdv b
theorem ZmI{c A B:Prop}[Decidable c](h:c)(b:B):if(!decide c)=true then A else B:=by rw[decide_eq_true h];exact Zdv b
theorem Zl5{b:Bool}{C:Bool→Prop}(q:C b):∃k,Zez K (.bl b) H k∧C k:=⟨b,rfl,q⟩
end
end Rd
end L2
namespace L2
open PySem PySem.Spec PyProof.Rows
namespace Rd
section
variable {H:Hp}{C:Bool→Prop}{K:PySem.W.Frag}
theorem ZgO{i:Int}(q:C true):∃x n' t b,[V.int i,.ty "int"]=[x,.ty n']∧Wu K H x t∧PySem.W.kitOne K t (.type n')=some b∧C b:=⟨_,_,_,true,rfl,.int i,rfl,q⟩
theorem ZfC{i:Int}(q:C false):∃x n' t b,[V.int i,.ty "bool"]=[x,.ty n']∧Wu K H x t∧PySem.W.kitOne K t (.type n')=some b∧C b:=⟨_,_,_,false,rfl,.int i,rfl,q⟩
theorem Zgi{i:Str}(q:C true):∃x n' t b,[V.str i,.ty "str"]=[x,.ty n']∧Wu K H x t∧PySem.W.kitOne K t (.type n')=some b∧C b:=⟨_,_,_,true,rfl,.str i,rfl,q⟩
end
end Rd
end L2
namespace L2
open PySem PySem.Spec PyProof.Rows
noncomputable def Zf1 (scX sc:Scope) (N zs:List Str) (ix:List Nat):Bool:=
 decide (sc.kind= .function)&&(sc.names.all fun y=>decide (y.2≠ .cell))&&(sc.names.all fun y=>decide (y.2= .local→sc.names.lookup y.1=some .local))&&
 (sc.names.all fun y=>decide (y.2= .free→scX.names.lookup y.1=some .cell∨scX.names.lookup y.1=some .free))&&(zs.all fun z=>decide (sc.names.lookup z=some .free))&&decide (ix.map (fun j=>N[j]?)=zs.map some)
theorem Yi{X:Cx}{sc:Scope}{x:Str}{zs:List Str}{ix:List Nat}(scX:Scope)(N:List Str)(e1:X.env.scope=scX)(e2:X.N=N)(h:Zf1 scX sc N zs ix=true):YR X sc x zs ix:=by
 unfold Zf1 at h;simp only[Bool.and_eq_true,List.all_eq_true,decide_eq_true_eq] at h;obtain⟨⟨⟨⟨⟨h1,h2⟩,h3⟩,h4⟩,h5⟩,h6⟩:=h;subst e1 e2;exact⟨h1,h2,h3,h4,h5,h6⟩
end L2
namespace L2
open PySem PySem.Spec PyProof.Rows
def Zdo(CX:CXT)(X:Cx)(J:St→Prop)(E:XK):Prop:=∀(pins:List (Addr×Obj))(σ:St)(H:Hp)(s:Shared)(e:Value)(s':Shared),J σ→Inv X pins σ H s→CX X.stack H s E e s'→X.xe e s'
noncomputable def Zev (J:St→Prop) (sp:Sp) (dvs:List V) (E:XK) (t:TA):TE:=fun σ H Q=>J σ∧t σ H fun vs H1=>sp (vs++dvs) H1 Q E
section
variable {X:Cx}{CX:CXT}{k:Nat}{f C:Addr}{fd:FuncData}{ps:List Str}{sp:Sp}{dvs:List V}{ds:List Value}{E:XK}{J:St→Prop}{x m:Str}{p pos apos:Pos}{e o:Expr}{es:List Expr}{ta:TE}{t:TA}
def ZkR(CX:CXT)(X:Cx)(σ:St)(E:XK):Prop:=∀(pins:List (Addr×Obj))(H:Hp)(s:Shared)(e:Value)(s':Shared),Inv X pins σ H s→CX X.stack H s E e s'→X.xe e s'
theorem ZmJ{pins:List (Addr×Obj)}{σ:St}{H:Hp}{s:Shared}{Q:VK}{us:List Value}{vs:List V}(F:Zk X.prog X.w X.K X.mg X.base CX k f fd ps sp)(hr:Yq k X.A)(hb:Zz X.K fd ps ds)(hd:Zq dvs ds)(hx:ZkR CX X σ E)
  (I:Inv X pins σ H s) (r:Zq vs us) (h:sp (vs++dvs) H Q E):wpAny (model X.prog X.w) X.A (call (.ref f) us) (EP X pins σ Q) X.xe s:=by
 have r2:Zq (vs++dvs) (us++ds):=r.append hd;have hl:(us++ds).length=ps.length:=by rw[←r2.length];exact F.len _ _ _ _ h
 refine wpAny_call (codeAny_mono (F.run X.A X.stack s H ⟨us,[]⟩ (us++ds) (vs++dvs) Q E hr I.env0 (hb s us I.kIn hl) r2 h) fun r s' hq=>?_);cases r with
 |error e=>exact hx pins H s e s' I hq
 |ok fl=>
  cases fl with
  |ret u=>exact I.after hq
  |next=>exact False.elim hq
  |brk=>exact False.elim hq
  |cont=>exact False.elim hq
theorem ZiR(F:Zk X.prog X.w X.K X.mg X.base CX k f fd ps sp)(hr:Yq k X.A)(hg:Gl X x)(hm:X.mg x=some (.ref f))(hk:PySem.W.keepIn X.K (.ref f)=true)(hb:Zz X.K fd ps ds)(hd:Zq dvs ds)(hx:Zdo CX X J E)
  (ha:PA X (e::es) t) (hdb:(x==("__debug__" :Str))=false:=by decide) (he:starEach (e::es) X.env=(false,eval e X.env)::starEach es X.env:=by rfl) (hpl:(backTo pos (starEach es X.env)).any (·.1)=false:=by rfl):
  PE X (.Call (.Name x p) (e::es) [] pos) (Zev J sp dvs E t):=by
 intro pins s σ H Q I h;obtain⟨hJ,h⟩:=h;refine wpAny_Call_Name_kw (V1 I hg hm ?_ hdb);refine PySem.W.callWith_K (h₀:=X.base) I.ok.mod.kin hk (thn (ha pos pins s σ H _ I h) fun us s1 ⟨vs,H1,I1,r,q⟩=>⟨I1.kIn,?_⟩) he hpl;exact ZmJ F hr hb hd (fun pins H s e s'=>hx pins σ H s e s' hJ) I1 r q
def Zl3(X:Cx)(body:List Stmt)(tb:(St→Prop)→XK→TS):Prop:=∀(J:St→Prop)(E1:XK)(pn:List (Addr×Obj))(xe1:Value→Shared→Prop),PassesOwn (model X.prog X.w) X.A X.env xe1→
 Zdo (CXX X.prog X.w) {X with pn:=pn,xe:=xe1} J E1→PSs {X with pn:=pn,xe:=xe1} body (tb J E1)
def Zke(X:Cx)(suite:List Stmt)(th:TS):Prop:=∀(A':Around),PSs {X with A:=A',calm:=false,xe:=fun _ _=>False} suite th
end
end L2
namespace L2
open PySem PySem.Spec PyProof.Rows
section
variable {K:PySem.W.Frag}{H:Hp}
theorem Wr.ints{p:Addr}{ns:List Int}(h:SqL K H p (ns.map V.int)):Wr K H (.ref p) (.list (ns.map PyData.int)):= .lst h (DRels.ints ns)
namespace Rd
variable {Q:VK}
end Rd
end
end L2
namespace L2
open PySem PySem.Spec PyProof.Rows
structure Walks(J:It)(n:Nat)(f:Nat→V)(H:Hp):Prop where
 go:∀H' i,Zd H H'→i<n→J.go i H'
 yld:∀H' i x H2,Zd H H'→i<n→J.yld i H' x H2→H2=H'∧x=f i
 stop:∀H',Zd H H'→J.stop n H'
theorem Uz{lo:Int}{n:Nat}{H:Hp}:Walks (Itr lo n) n (fun i=> .int (lo+i)) H:=⟨fun _ _ _ h=>h,fun _ _ _ _ _ _ h=>h,fun _ _=>Nat.le_refl _⟩
theorem ZZ{K:PySem.W.Frag}{a:Addr}{xs:List V}{H:Hp}(h:SqL K H a xs):Walks (Itl K a) xs.length (fun i=>xs.getD i .non) H:=
 ⟨fun H' i e hi=>⟨xs,xs[i],e.seq h,by simp[hi]⟩,fun H' i x H2 e hi y=>⟨y.1,by
  have:=y.2 xs (e.seq h);simp[List.getD,this]⟩,fun H' e=>⟨xs,e.seq h,Nat.le_refl _⟩⟩
theorem V5{J:It}{n:Nat}{f:Nat→V}{H0:Hp}(w:Walks J n f H0){g:TG}{tb:TS}{D:W8}{σ:St}{H:Hp}(Pv:Nat→St→Hp→Prop)(h0:Pv 0 σ H)(hk:∀i σ H,Pv i σ H→Zd H0 H)
  (hs:∀i σ H,i<n→Pv i σ H→g (f i) σ H fun σ2 H2=>tb {D with nx:=Pv (i+1),ct:=Pv (i+1),bk:=D.nx} σ2 H2) (hd:∀σ H,Pv n σ H→D.nx σ H):
  ∃W:Nat→Nat→St→Hp→Prop,(∃m,W 0 m σ H)∧∀i m σ H,W i m σ H→
   (J.stop i H∧D.nx σ H)∨(J.go i H∧∃N:St→Hp→Prop,(∀σ' H',N σ' H'→∃m',m'<m∧W (i+1) m' σ' H')∧∀x H',J.yld i H x H'→g x σ H' fun σ2 H2=>tb {D with nx:=N,ct:=N,bk:=D.nx} σ2 H2):=by
 refine⟨fun i m σ H=>m=n-i∧i≤n∧Pv i σ H,⟨n,by simp,Nat.zero_le _,h0⟩,?_⟩;rintro i m σ H ⟨rfl,hi,p⟩;have sm:=hk i σ H p
 by_cases hlt:i<n
 ·refine .inr ⟨w.go H i sm hlt,Pv (i+1),fun σ' H' p'=>⟨n-(i+1),by omega,rfl,hlt,p'⟩,fun x H' y=>?_⟩;obtain⟨rfl,rfl⟩:=w.yld H i x H' sm hlt y;exact hs i σ _ hlt p
 ·have e:i=n:=by omega
  subst e;exact .inl ⟨w.stop H sm,hd σ H p⟩
theorem YU{ix:List Nat}{tc:TT}{te:TE}{Q:Addr→Hp→Prop}{σ:St}{H:Hp}{J:It}{n:Nat}{f:Nat→V}(w:Walks J n f H)(hn:n<sizeLine)(c:Nat→Bool)(r:Nat→V)
  (hc:∀i H' (Kc:Bool→Hp→Prop),i<n→Zd H H'→(∀H4,Zd H' H4→Kc (c i) H4)→tc (some (f i)::ix.map fun j=>(σ[j]?).join) H' Kc)
  (he:∀i H' (Kc:VK),i<n→c i=true→Zd H H'→(∀H5,Zd H' H5→Kc (r i) H5)→te (some (f i)::ix.map fun j=>(σ[j]?).join) H' Kc)
  (q:∀p H',H p=none→Zd H H'→H' p=some (.lst (((List.range n).filter c).map r))→Q p H'):
  ∀p,H p=none→∃W:Nat→Nat→List V→St→Hp→Prop,(∃m,W 0 m [] (emb ix σ) (upd H p (.lst [])))∧∀i m ys σ' H',W i m ys σ' H'→
   (J.stop i H'∧Q p H')∨(J.go i H'∧∀x H2,J.yld i H' x H2→UG 0 x σ' H2 fun σ2 H3=>tc σ2 H3 fun b H4=>
    if b=true then te σ2 H4 fun v H5=>H5 p=some (.lst ys)∧ys.length<sizeLine∧∃m',m'<m∧W (i+1) m' (ys++ [v]) σ2 (upd H5 p (.lst (ys++ [v])))
    else ∃m',m'<m∧W (i+1) m' ys σ2 H4):=by
 intro p hp;refine⟨fun i m ys σ' H'=>m=n-i∧i≤n∧(∃a,σ'=a::ix.map fun j=>(σ[j]?).join)∧Zd H H'∧H' p=some (.lst ys)∧ys=((List.range i).filter c).map r,
  ⟨n,by simp,Nat.zero_le _,⟨none,rfl⟩,Zn hp,Zf,rfl⟩,?_⟩
 rintro i m ys σ' H' ⟨rfl,hi,⟨a,rfl⟩,sm,hy,hl⟩
 by_cases hlt:i<n
 ·refine .inr ⟨w.go H' i sm hlt,fun x H2 y=>?_⟩;obtain⟨rfl,rfl⟩:=w.yld H' i x H2 sm hlt y;show tc ((a::ix.map fun j=>(σ[j]?).join).set 0 (some (f i))) H2 _;have hlen:ys.length≤i:=by
   rw[hl,List.length_map];exact Nat.le_trans (List.length_filter_le _ _) (by simp)
  refine hc i H2 _ hlt sm fun H4 s4=>?_;have sm4:=sm.trans s4;have hy4:=s4 _ _ hy;have step:(List.range (i+1)).filter c=(List.range i).filter c++(if c i=true then[i] else[]):=by
   rw[List.range_succ,List.filter_append]
   congr 1
   by_cases h:c i=true<;>simp[h]
  by_cases hci:c i=true
  ·rw[hci,if_pos rfl];refine he i H4 _ hlt hci sm4 fun H5 s5=>⟨s5 _ _ hy4,by omega,n-(i+1),by omega,rfl,hlt,⟨_,rfl⟩,(sm4.trans s5).new hp,Zf,?_⟩;rw[step,if_pos hci,List.map_append,hl]
   rfl
  ·have hcf:c i=false:=by simpa using hci
   rw[hcf,if_neg Bool.false_ne_true];refine⟨n-(i+1),by omega,rfl,hlt,⟨_,rfl⟩,sm4,hy4,?_⟩;rw[step,if_neg hci,List.append_nil,hl]
 ·have e:i=n:=by omega
  subst e;exact .inl ⟨w.stop H' sm,q p H' hp sm (by rw[←hl];exact hy)⟩
end L2
namespace L2
open PySem PySem.Spec PyProof.Rows
structure ZM(A:List Addr)(H H':Hp):Prop where
 keep:∀b o,H b=some o→b∉A→H' b=some o
 tups:∀b xs,H b=some (.tup xs)→H' b=some (.tup xs)
theorem Zd.frame{A:List Addr}{H H':Hp}(e:Zd H H'):ZM A H H':=⟨fun b o h _=>e b o h,fun b xs h=>e b _ h⟩
theorem ZM.refl{A:List Addr}{H:Hp}:ZM A H H:=(Zd.refl H).frame
theorem ZM.trans{A:List Addr}{H H1 H2:Hp}(a:ZM A H H1)(b:ZM A H1 H2):ZM A H H2:=⟨fun c o h n=>b.keep c o (a.keep c o h n) n,fun c xs h=>b.tups c xs (a.tups c xs h)⟩
theorem ZM.mono{A B:List Addr}{H H':Hp}(a:ZM A H H')(h:∀x∈A,x∈B):ZM B H H':=⟨fun c o e n=>a.keep c o e fun z=>n (h c z),a.tups⟩
theorem Yy{A:List Addr}{H:Hp}{p:Addr}{o o':HO}(hp:p∈A)(h:H p=some o)(ht:∀xs,o≠ .tup xs):ZM A H (upd H p o'):=by
 refine⟨fun b u e n=>?_,fun b xs e=>?_⟩
 ·have z:b≠p:=fun z=>n (by rw[z];exact hp);rw[Ze z];exact e
 ·have z:b≠p:=fun z=>ht xs (by rw[z,h] at e;exact Option.some.inj e);rw[Ze z];exact e
def VU(A A':List Addr)(H:Hp):Prop:=∀a∈A',a∈A∨H a=none
theorem VU.refl{A:List Addr}{H:Hp}:VU A A H:=fun _ h=> .inl h
def Ww(K:PySem.W.Frag)(H:Hp)(A:List Addr)(a:Addr)(xs:List V):Prop:=
 (Rd H a (.lst xs)∧a∉A)∨∃(o:Obj)(its:Array Value)(n:Nat),K.lookup a=some o∧o.cls= .type "list" ∧o.dict=none∧o.data= .seq its n∧its.size≤sizeLine∧Zq xs its.toList
theorem Ww.sq{K:PySem.W.Frag}{H:Hp}{A:List Addr}{a:Addr}{xs:List V}(h:Ww K H A a xs):SqL K H a xs:=h.imp And.left id
theorem Ww.frame{K:PySem.W.Frag}{H H':Hp}{A:List Addr}{a:Addr}{xs:List V}(h:Ww K H A a xs)(f:ZM A H H'):Ww K H' A a xs:=by
 rcases h with⟨h|⟨o,h⟩,n⟩|h
 ·exact .inl ⟨.inl (f.keep _ _ h n),n⟩
 ·exact .inl ⟨.inr ⟨o,f.keep _ _ h n⟩,n⟩
 ·exact .inr h
theorem Ww.more{K:PySem.W.Frag}{H:Hp}{A A':List Addr}{a:Addr}{xs:List V}(h:Ww K H A a xs)(g:VU A A' H):Ww K H A' a xs:=by
 rcases h with⟨h,n⟩|h
 ·refine .inl ⟨h,fun z=>?_⟩;rcases g a z with z|z
  ·exact n z
  ·rcases h with h|⟨o,h⟩<;>(rw[h] at z;cases z)
 ·exact .inr h
theorem Ww.sub{K:PySem.W.Frag}{H:Hp}{A A':List Addr}{a:Addr}{xs:List V}(h:Ww K H A a xs)(g:∀x∈A',x∈A):Ww K H A' a xs:=h.imp (fun⟨h,n⟩=>⟨h,fun z=>n (g a z)⟩) id
theorem SqL.off{K:PySem.W.Frag}{H:Hp}{A:List Addr}{a:Addr}{xs:List V}(h:SqL K H a xs)(g:∀x∈A,H x=none):Ww K H A a xs:=by
 rcases h with h|h
 ·refine .inl ⟨h,fun z=>?_⟩;have:=g a z;rcases h with h|⟨o,h⟩<;>(rw[h] at this;cases this)
 ·exact .inr h
section
variable {K:PySem.W.Frag}{H H':Hp}{A A':List Addr}
namespace Rd
variable {Q:VK}
end Rd
end
end L2
namespace L2
open PySem PySem.Spec PyProof.Rows
noncomputable def Its (x:Str):It:=⟨fun i _=>i<x.cps.size,fun i H v H'=>H'=H∧∃c,x.cps[i]? =some c∧v= .str ⟨#[c]⟩,fun i _=>x.cps.size≤i⟩
theorem ZiQ{P:Program}{w:World}{K:PySem.W.Frag}{tg:Expr}(it:Addr)(x:Str)(t:Tok)(ty:String)(hty:ty="str_ascii_iterator" ∨ty="str_iterator"):Zao P w K tg (Its x) [it] it (fun i h=>h.IsStrIter it ty x t i) where
 mem:=by simp
 obj:=fun i h st b hb=>by
  have e:b=it:=by simpa using hb
  subst e;obtain⟨o,e,c,d⟩:=st;exact⟨o,e,fun v z=>by rw[d] at z;cases z⟩
 keep:=fun i h h' st k=>let⟨o,ho,r⟩:=st;⟨o,k it (by simp) o ho,r⟩
 item:=by
  intro X hP hw hK hc i pins s σ H E I hf st hg;subst hP hw hK;obtain⟨f0,f1,f2,f3,f4,f5⟩:=hf it (by simp);have hi:i<x.cps.size:=hg;have fin:∀h':Heap,h'.IsStrIter it ty x t (i+1)→Heap.SameBut it s.heap h'→∃u,some (Value.str ⟨#[x.cps[i]]⟩ s.toks)=some u∧
    wpAny (model X.prog X.w) X.A (letOwnedTupleGo tg (.ref it) u) (fun _ s2=>∃y H',Inv X pins σ H' s2∧Zu y u∧(Its x).yld i H y H'∧s2.heap.IsStrIter it ty x t (i+1)∧∀b∈[it],H' b=none) E {s with heap:=h',toks:=s.toks+1}:=fun h' st' sb=>by
   have I1:Inv X pins σ H {s with heap:=h',toks:=s.toks+1}:=I.turned (t':=s.toks+1) (fun b o hb e=>(sb.2 b hb).trans e) f0 f1 f3 f4 f5;obtain⟨o,e,c,d⟩:=id st';refine⟨_,rfl,ZcH (s:={s with heap:=h',toks:=s.toks+1}) e c d (by rcases hty with rfl|rfl<;>decide) ⟨.str ⟨#[x.cps[i]]⟩,H,I1,⟨_,rfl⟩,⟨rfl,x.cps[i],by simp[hi],rfl⟩,st',fun b hb=>(hf b hb).1⟩⟩
  rcases hty with rfl|rfl
  ·exact wpAny_pyNext_ascii_item st (c:=x.cps[i]) (by simp[hi]) fin
  ·exact wpAny_pyNext_wide_item st (c:=x.cps[i]) (by simp[hi]) fin
 done:=by
  intro X hP hw hK hc i pins s σ H E I hf st hg;subst hP hw hK;obtain⟨f0,f1,f2,f3,f4,f5⟩:=hf it (by simp);have hi:x.cps.size≤i:=hg;rcases hty with rfl|rfl
  ·exact wpAny_pyNext_ascii_end (I.ok.hd hc) st (by simp[hi]) fun h' eb=>⟨rfl,I.turned (t':=s.toks) (fun b o hb e=>eb b o hb e) f0 f1 f3 f4 f5⟩
  ·exact wpAny_pyNext_wide_end (I.ok.hd hc) st (by simp[hi]) fun h' eb=>⟨rfl,I.turned (t':=s.toks) (fun b o hb e=>eb b o hb e) f0 f1 f3 f4 f5⟩
 self:=fun _ _ _ _ _ st h=>by
  rcases hty with rfl|rfl
  ·exact wpAny_pyIter_striter_ascii st h
  ·exact wpAny_pyIter_striter_wide st h
section
variable {X:Cx}{tg:Expr}
noncomputable def Zlf (tl:TE):TI:=fun σ H R=>tl σ H fun x H1=>∃y,x= .str y∧R (Its y) H1
theorem Zk9{l:Expr}{tl:TE}(hl:PE X l tl):PI X tg l (Zlf tl):=by
 intro pins s σ H R I h;refine thn (hl pins s σ H _ I h) fun v s1 ⟨x,H1,I1,r1,q1⟩=>?_;obtain⟨y,e,q⟩:=q1;subst e;obtain⟨t,rfl⟩:=r1;have fin:∀ty:String,(ty="str_ascii_iterator" ∨ty="str_iterator")→PIE X pins σ tg R (.ref s1.heap.objs.size) {s1 with heap:=s1.heap.push {cls:= .type ty,data:= .fields #[.str y t,.int 0 0]}}:=fun ty hty=>by
  refine⟨s1.heap.objs.size,[s1.heap.objs.size],_,_,H1,rfl,I1.kept (t':=s1.toks) fun b o e=>Heap.get?_push_of_some _ e,ZiQ _ y t ty hty,⟨_,Heap.get?_push_size _ rfl,rfl,rfl⟩,fun b hb=>?_,q⟩;have e:b=s1.heap.objs.size:=by simpa using hb
  subst e;exact I1.fpOk (Nat.le_refl _) (I1.hok.fresh (Nat.le_refl _))
 cases ha:y.cps.all (· <128)
 ·exact wpAny_pyIter_wide ha (fin _ (.inr rfl))
 ·exact wpAny_pyIter_ascii ha (fin _ (.inl rfl))
theorem Zhj{x:Str}{H:Hp}:Walks (Its x) x.cps.size (fun i=> .str ⟨#[x.cps.getD i 0]⟩) H:=
 ⟨fun _ _ _ h=>h,fun H' i v H2 _ hi ⟨e,c,hc,hv⟩=>⟨e,by rw[hv];simp[Array.getD,hi] at hc⊢;exact hc.symm⟩,fun _ _=>Nat.le_refl _⟩
noncomputable def rLeS:R2:=fun x y H Q=>∃i j,x= .str i∧y= .str j∧Q (.bl (!decide (j.cps.toList<i.cps.toList))) H
theorem ZdL:OpR X (compareOp .LtE) rLeS:=by
 intro pins s σ H x y v u Q I rx ry h;obtain⟨i,j,rfl,rfl,q⟩:=h;obtain⟨t,rfl⟩:=rx;obtain⟨t',rfl⟩:=ry;exact PySem.P.le_str ⟨.bl _,H,I,rfl,q⟩
theorem Za1{s:Shared}:∀{bs:List Bool}{us:List Value},Zq (bs.map V.bl) us→us=bs.map Value.bool
 | [],_,r=>by cases r;rfl
 |b::bs,_,r=>by
  cases r with
  |cons r1 r2=>
   have e:_=Value.bool b:=r1;rw[e,Za1 (s:=s) r2]
   rfl
theorem ZfX{s:Shared}{h':Heap}{o:Obj}(hk:∀b x,b∉[s.heap.objs.size]→(s.heap.push o).get? b=some x→h'.get? b=some x):∀b x,s.heap.get? b=some x→h'.get? b=some x:=
 fun b x e=>hk b x (fun hm=>by rw[List.mem_singleton.mp hm] at e;exact Nat.lt_irrefl _ (Heap.lt_size e)) (Heap.get?_push_of_some _ e)
theorem Zgn(bs:List Bool):((List.range bs.length).all fun i=>(bs[i]?).getD true)=bs.all id:=by
 rw[Bool.eq_iff_iff,List.all_eq_true,List.all_eq_true]
 constructor
 ·intro h b hb;obtain⟨i,hi,rfl⟩:=List.getElem_of_mem hb;have:=h i (List.mem_range.mpr hi);simpa[List.getElem?_eq_getElem hi] using this
 ·intro h i hi;have hi':=List.mem_range.mp hi;simp only[List.getElem?_eq_getElem hi',Option.getD_some];exact h _ (List.getElem_mem hi')
theorem Zhz(hc:X.calm=true):YO X (.builtin "all") (fun xs H Q=>∃(p:Addr)(bs:List Bool),xs=[.ref p]∧SqL X.K H p (bs.map V.bl)∧Q (.bl (bs.all id)) H):=by
 intro pins s σ H xs us Q I r h;obtain⟨p,bs,rfl,hq,q⟩:=h;obtain⟨u,rfl,rx⟩:=WJ r;cases rx;obtain⟨its,rv,pl,hz⟩:=I.list hq;have ev:=Za1 (s:=s) rv;subst ev;have hl:=pl.isList;have hlt:p<s.heap.objs.size:=by obtain⟨_,e,_⟩:=hl;exact Heap.lt_size e
 refine call_all_walk (wpAny_pyIter_list hl ?_);refine⟨s.heap.objs.size,[s.heap.objs.size,p],[s.heap.objs.size],(bs.map Value.bool).toArray.size,_,_,fun i=>(bs[i]?).getD true,rfl,PySem.Walks.list (A:=X.A.in1) (I.ok.hd hc) _ p (Nat.ne_of_lt hlt) (bs.map Value.bool).toArray,
  ⟨⟨_,Heap.get?_push_size _ rfl,rfl,rfl⟩,hl.push _⟩,fun i v s' Q' E' hP hQ=>?_,fun h' tk hk=>?_⟩
 ·have hP':(bs.map Value.bool)[i]? =some v:=by simpa using hP
  rw[List.getElem?_map] at hP';cases e:bs[i]? with
  |none=>rw[e] at hP';cases hP'
  |some b=>
   rw[e] at hP';cases hP';have hQ':Q' ((bs[i]?).getD true) s':=hQ;rw[e] at hQ';exact wpAny_truthy_bool hQ'
 ·have e:((List.range (bs.map Value.bool).toArray.size).all fun i=>(bs[i]?).getD true)=bs.all id:=by
   rw[List.size_toArray,List.length_map];exact Zgn bs
  rw[e];exact⟨.bl (bs.all id),H,I.kept (ZfX hk),rfl,q⟩
theorem Zh0(hc:X.calm=true):YO X (.builtin "sum") (fun xs H Q=>∃(p:Addr)(ns:List Int),xs=[.ref p]∧SqL X.K H p (ns.map V.int)∧Q (.int ns.sum) H):=by
 intro pins s σ H xs us Q I r h;obtain⟨p,ns,rfl,hq,q⟩:=h;obtain⟨u,rfl,rx⟩:=WJ r;cases rx;obtain⟨its,rv,pl,hz⟩:=I.list hq;have hi:=ZaP rv;obtain⟨xs,hx⟩:=hi.allInts.items;have hl':s.heap.IsList p (intItems xs):=hx▸pl.isList;refine sum_intListG (I.ok.hd hc) hl' fun h' tk t' hk=>?_;have e1:ns=xs.toList.map (·.1):=by
  rw[←nums_intItems,←hx];exact(show numsOf its.toArray.toList=ns from hi.numsOf).symm
 have e2:preSum (numAt xs) xs.size=ns.sum:=by
  rw[preSum_eq,List.take_of_length_le (by simp),e1]
 rw[e2];exact⟨.int ns.sum,H,I.kept hk,⟨_,rfl⟩,q⟩
end
end L2
namespace L2
open PySem PySem.Spec PyProof.Rows
structure ZgN(K:PySem.W.Frag)(x qual:Str)(st:Stmt)(dT:Addr)(f:Addr)(fd:FuncData):Prop where
 ex:∃(oc:Value)(od:Option Addr)(kV doc pm:Value)(an:Option Addr)(cdv ct:Value)(osl:Array (Option Value)),
  fd=PySem.W.fnOf x qual (Vr st) (WD st) (Zi st) (.ref dT) kV doc pm an cdv ct∧K.lookup f=some ⟨oc,od,.func fd,osl⟩∧PySem.W.codeIn K cdv qual=true
 kp:PySem.W.keepIn K (.ref f)=true
section
variable {P:Program}{w:World}{K:PySem.W.Frag}{mg:Str→Option Value}{base:Heap}
theorem ZgN.okX{x qual:Str}{st:Stmt}{dT f:Addr}{fd:FuncData}{N ps:List Str}{k:Nat}{sp:Sp}(F:ZgN K x qual st dT f fd)(S:Zr N ps (Zi st))(len:∀vs H Q E,sp vs H Q E→vs.length=ps.length)
  (hbody:∀(cdv:Value)(A:Around)(outer:List Env)(s:Shared)(H:Hp)(vs:List V)(Q:VK)(E:XK),Yq k (A.deeper (envOfC qual (Zi st) s.heap.objs.size f cdv))→sp vs H Q E→
   ∃t,PSs (cxX P w K mg base N qual (Zi st) f cdv A outer s H E) (WD st) t∧t {nx:=fun _ H'=>Q .non H',rt:=Q} (start N vs) H):Zk P w K mg base (CXX P w) (k+1) f fd ps sp:=by
 obtain⟨oc,od,kV,doc,pm,an,cdv,ct,osl,rfl,lk,hcd⟩:=F.ex;exact Zjq lk hcd S len fun A outer s H vs Q E hr hsp=>hbody cdv A outer s H vs Q E hr hsp
theorem ZjC{x qual:Str}{st:Stmt}{dT f:Addr}{oc:Value}{od an:Option Addr}{osl:Array (Option Value)}{kV doc pm cdv ct:Value}(l:K.lookup f=some ⟨oc,od,.func (PySem.W.fnOf x qual (Vr st) (WD st) (Zi st) (.ref dT) kV doc pm an cdv ct),osl⟩)
  (c:PySem.W.codeIn K cdv qual=true) (k:PySem.W.keepIn K (.ref f)=true):ZgN K x qual st dT f (PySem.W.fnOf x qual (Vr st) (WD st) (Zi st) (.ref dT) kV doc pm an cdv ct):=⟨⟨oc,od,kV,doc,pm,an,cdv,ct,osl,rfl,l,c⟩,k⟩
theorem ZkP{h₀:Heap}{x:Str}{C:Addr}{bmB:List Value}{newId:String}(X:K.In h₀)(g:h₀.Ns mainGlobals mg)(e:PySem.W.nsIn K mainGlobals x=some (some (.ref C)))(q:PySem.W.excIn K C bmB newId=true):OwnCls x C bmB newId mg h₀:=by
 refine⟨PySem.W.mg_of X g e,?_⟩;unfold PySem.W.excIn at q
 split at q
 ·rename_i dd cd sl ho
  split at q
  ·rename_i C' bm k0 k1 k2 k3 n k5 hm hs;simp only[Bool.and_eq_true,beq_iff_eq,Bool.not_eq_true'] at q;obtain⟨⟨⟨⟨⟨rfl,rfl⟩,hdel⟩,ht⟩,hok⟩,hni⟩:=q;obtain⟨nm,bs,mro,ns,qn,hd,sn,sub,ab,col,del⟩:=cd;dsimp only at hm hdel hok hni;subst hm hdel;have hsl:sl=#[k0,k1,k2,k3,some (.builtin n),k5]:=by
    obtain⟨l⟩:=sl;simp only at hs;rw[hs]
   subst hsl;exact⟨bm,ns,nm,qn,bs,hd,sn,sub,ab,col,dd,k0,k1,k2,k3,k5,_,X _ _ ho,.of_isNs (PySem.W.isNs_of_in X hok),PySem.W.nsMap_none_of_in X hok hni,PySem.W.tail_of_in X ht⟩
  ·cases q
 ·cases q
section
variable {N:List Str}{qual:Str}{scope:Scope}{f:Addr}{cd:Value}{A:Around}{outer:List Env}{s₀:Shared}{H₀:Hp}{E:XK}
theorem YQ{x:Str}{np cpos pos:Pos}{e₀:Expr}{rest:List Expr}{t:TA}{C:Addr}{B newId initId:String}{bm:List Value}(e:PySem.W.nsIn K mainGlobals x=some (some (.ref C)))(q:PySem.W.excIn K C bm newId=true)(FB:ExcBaseFacts B newId initId bm)
  (hg:Gl (cxX P w K mg base N qual scope f cd A outer s₀ H₀ E) x) (ha:PA (cxX P w K mg base N qual scope f cd A outer s₀ H₀ E) (e₀::rest) t)
  (he:starEach (e₀::rest) (cxX P w K mg base N qual scope f cd A outer s₀ H₀ E).env=(false,eval e₀ (cxX P w K mg base N qual scope f cd A outer s₀ H₀ E).env)::starEach rest (cxX P w K mg base N qual scope f cd A outer s₀ H₀ E).env:=by rfl)
  (hplain:(backTo cpos (starEach rest (cxX P w K mg base N qual scope f cd A outer s₀ H₀ E).env)).any (·.1)=false:=by rfl) (hdb:(x==("__debug__" :Str))=false:=by decide):
  PS (cxX P w K mg base N qual scope f cd A outer s₀ H₀ E) (.Raise (some (.Call (.Name x np) (e₀::rest) [] cpos)) none pos) (ZeN (.ref C) E t):=by
 intro pins s σ H D I h;exact ZiW (ZkP I.ok.mod.kin I.ok.mod.glob e q) FB hg ha he hplain hdb pins s σ H D I h
end
end
section
variable {X:Cx}
noncomputable def rSlS:V→Option Int→Option Int→Hp→VK→Prop:=fun x lo hi H Q=>∃z,x= .str z∧z.length≤sizeLine∧Q (.str (Txt.slice z lo hi)) H
theorem ZkC:SlR X rSlS:=by
 intro pins s σ H x v vl vu lo hi sl Q I rx hs pl pu h;obtain⟨z,rfl,hz,q⟩:=h;obtain⟨t,rfl⟩:=rx;refine⟨"str",_,F.slot_str_getitem.lookup,typeIs_str _ _ _,?_⟩;have fin:∀l u:Option (Int×Tok),l.map (·.1)=lo→u.map (·.1)=hi→partValue l=vl→partValue u=vu→wpAny (model X.prog X.w) X.A (getItem (.str z t) (.ref sl)) (EP X pins σ Q) X.xe s:=fun l u e1 e2 e3 e4=>by
  obtain⟨o,ho,hc,hd⟩:=hs;subst e1 e2 e3 e4;exact wpAny_getItem_str_slice (l:=l) (u:=u) (st:=none) ⟨o,ho,hc,hd⟩ rfl (post_val_or_str ⟨Nat.le_trans (Txt.slice_le z _ _) hz,fun t' k=>⟨.str _,H,I.tok k,⟨_,rfl⟩,q⟩⟩)
 cases pl with
 |none=>
  cases pu with
  |none=>exact fin none none rfl rfl rfl rfl
  |int j t'=>exact fin none (some (j,t')) rfl rfl rfl rfl
 |int i ti=>
  cases pu with
  |none=>exact fin (some (i,ti)) none rfl rfl rfl rfl
  |int j t'=>exact fin (some (i,ti)) (some (j,t')) rfl rfl rfl rfl
noncomputable def ZeJ (K:PySem.W.Frag):V→Option Int→Option Int→Hp→VK→Prop:=fun x lo hi H Q=>Zkk K x lo hi H Q∨(ZkB K x lo hi H Q∨rSlS x lo hi H Q)
theorem Zl0:SlR X (ZeJ X.K):=ZjZ.or (Zk0.or ZkC)
end
structure ZaA(K:PySem.W.Frag)(C:Addr)(fs:List Str):Prop where
 out:∀f∈fs,Y6 K C f
theorem ZaA.get{K:PySem.W.Frag}{C:Addr}{fs:List Str}{f:Str}(h:ZaA K C fs)(m:fs.contains f=true):Y6 K C f:=h.out f (by simpa using m)
namespace Rd
section
variable {σ:St}{H:Hp}{Q:VK}{D:W8}{K:PySem.W.Frag}
theorem slS{z:Str}{lo hi:Option Int}(h:z.length≤sizeLine)(q:Q (.str (Txt.slice z lo hi)) H):ZeJ K (.str z) lo hi H Q:= .inr (.inr ⟨z,rfl,h,q⟩)
theorem slL{a:Addr}{xs:List V}{lo hi:Option Int}(h:SqL K H a xs)(q:∀p,H p=none→Q (.ref p) (upd H p (.lst (UW xs lo hi)))):ZeJ K (.ref a) lo hi H Q:= .inl ⟨a,xs,rfl,h,q⟩
theorem sl{r:V→Option Int→Option Int→Hp→VK→Prop}{te:TE}{tl th:TO}(h:te σ H fun x H1=>tl σ H1 fun l H2=>th σ H2 fun u H3=>r x l u H3 Q):tSl r te tl th σ H Q:=h
theorem ZkI{Q:Option Int→Hp→Prop}(h:Q none H):tNoPart σ H Q:=h
theorem Zl8{te:TE}{Q:Option Int→Hp→Prop}(h:te σ H fun x H1=>∃i,x= .int i∧Q (some i) H1):Zjh te σ H Q:=h
theorem Zlv{i:Int}{C:Int→Prop}(h:C i):∃j,V.int i= .int j∧C j:=⟨i,rfl,h⟩
theorem Zmw{ta:TE}{f:Str}(h:ta σ H fun x H1=>∃a C dx fs v,x= .ref a∧H1 a=some (.ins C dx fs)∧Cls K C∧Y6 K C f∧fs.lookup f=some v∧Q v H1):Zih K ta f σ H Q:=h
theorem fld{a C dx:Addr}{fs:List (Str×V)}{f:Str}{v:V}{G:V→Prop}(h:H a=some (.ins C dx fs))(c:Cls K C)(n:Y6 K C f)(l:fs.lookup f=some v)(q:G v):
  ∃a' C dx fs v,V.ref a= .ref a'∧H a'=some (.ins C dx fs)∧Cls K C∧Y6 K C f∧fs.lookup f=some v∧G v:=⟨a,C,dx,fs,v,rfl,h,c,n,l,q⟩
theorem Zlt{C:Addr}{m:Str}{sp:Sp}{dvs:List V}{E:XK}{ta:TE}{t:TA}(h:ta σ H fun x H1=>∃a dx fs,x= .ref a∧H1 a=some (.ins C dx fs)∧fs.lookup m=none∧t σ H1 fun vs H2=>sp (x::(vs++dvs)) H2 Q E):ZgJ C m sp dvs E ta t σ H Q:=h
theorem ZlH{C:Addr}{sp:Sp}{dvs:List V}{E:XK}{t:TA}(h:t σ H fun vs H1=>∀x dx,H1 x=none→H1 dx=none→dx≠x→
  sp (.ref x::(vs++dvs)) (upd (upd H1 dx (.own x)) x (.ins C dx [])) (fun v H2=>v= .non∧Q (.ref x) H2) E):Zg5 C sp dvs E t σ H Q:=h
theorem Zl7{ta tv:TE}{f:Str}(h:tv σ H fun y H1=>ta σ H1 fun x H2=>∃a C dx fs,x= .ref a∧H2 a=some (.ins C dx fs)∧Cls K C∧Y6 K C f∧fs.length<1000∧D.nx σ (upd H2 a (.ins C dx (YZ f y fs)))):Ziq K ta tv f D σ H:=h
theorem ZlN{a C dx:Addr}{fs fs':List (Str×V)}{f:Str}{y:V}(h:H a=some (.ins C dx fs))(c:Cls K C)(n:Y6 K C f)(l:fs.length<1000)(e:YZ f y fs=fs')(q:D.nx σ (upd H a (.ins C dx fs'))):
  ∃a' C dx fs,V.ref a= .ref a'∧H a'=some (.ins C dx fs)∧Cls K C∧Y6 K C f∧fs.length<1000∧D.nx σ (upd H a' (.ins C dx (YZ f y fs))):=⟨a,C,dx,fs,rfl,h,c,n,l,by rw[e];exact q⟩
theorem Zlz{cls:Value}{E:XK}{t:TA}(h:t σ H fun vs H1=>vs.length≤sizeLine∧E cls none H1):ZeN cls E t D σ H:=h
theorem Zkx{v:V}{G:Prop}(q:G):[v].length≤sizeLine∧G:=⟨by show 1≤sizeLine;decide,q⟩
theorem Zly{te:TE}{R:It→Hp→Prop}(h:te σ H fun x H1=>∃a,x= .ref a∧(∃xs,SqL K H1 a xs)∧R (Itl K a) H1):Zg7 K te σ H R:=h
theorem Zl6{te:TE}{R:It→Hp→Prop}(h:te σ H fun x H1=>∃y,x= .str y∧R (Its y) H1):Zlf te σ H R:=h
theorem ZlD{y:Str}{G:Str→Prop}(h:G y):∃z,V.str y= .str z∧G z:=⟨y,rfl,h⟩
theorem ZlE{ix:List Nat}{wi:TI}{g:TG}{tc:TT}{te:TE}(h:wi σ H fun J H1=>∀p,H1 p=none→
 ∃W:Nat→Nat→List V→St→Hp→Prop,(∃m,W 0 m [] (emb ix σ) (upd H1 p (.lst [])))∧∀i m ys σ' H',W i m ys σ' H'→
  (J.stop i H'∧Q (.ref p) H')∨(J.go i H'∧∀x H2,J.yld i H' x H2→g x σ' H2 fun σ2 H3=>tc σ2 H3 fun b H4=>
   if b=true then te σ2 H4 fun v H5=>H5 p=some (.lst ys)∧ys.length<sizeLine∧∃m',m'<m∧W (i+1) m' (ys++ [v]) σ2 (upd H5 p (.lst (ys++ [v])))
   else ∃m',m'<m∧W (i+1) m' ys σ2 H4)):Zg8 ix wi g tc te σ H Q:=h
theorem ZlZ{Q:Bool→Hp→Prop}(h:Q true H):tAll σ H Q:=h
theorem lk0{f:Str}{v:V}{r:List (Str×V)}:((f,v)::r).lookup f=some v:=by simp
theorem lk1{f g:Str}{v:V}{o:Option V}{r:List (Str×V)}(n:(f==g)=false)(h:r.lookup f=o):((g,v)::r).lookup f=o:=by rw[List.lookup_cons,n];exact h
theorem lkN{f:Str}:([]:List (Str×V)).lookup f=none:=rfl
theorem pf1{f g:Str}{v x:V}{r r':List (Str×V)}(n:(g==f)=false)(h:YZ f v r=r'):YZ f v ((g,x)::r)=(g,x)::r':=by
 have:¬g=f:=by simpa using n
 simp[YZ,this,h]
theorem pfN{f:Str}{v:V}:YZ f v []=[(f,v)]:=rfl
end
end Rd
end L2
namespace L2
open PySem PySem.Spec PyProof.Rows
namespace Rd
section
variable {H:Hp}{Q:VK}{K:PySem.W.Frag}
theorem ifD{c A B:Prop}[Decidable c](a:c→A)(b:¬c→B):if decide c=true then A else B:=by
 by_cases h:c
 ·exact ifP h (a h)
 ·exact ifN h (b h)
theorem ZmC{p:Addr}{bs:List Bool}{G:List Bool→Prop}(h:SqL K H p (bs.map V.bl))(q:G bs):∃(p':Addr)(bs':List Bool),[V.ref p]=[.ref p']∧SqL K H p' (bs'.map V.bl)∧G bs':=⟨p,bs,rfl,h,q⟩
theorem leS{x y:Str}(q:Q (.bl (!decide (y.cps.toList<x.cps.toList))) H):rLeS (.str x) (.str y) H Q:=⟨x,y,rfl,rfl,q⟩
theorem ZlG{σ:St}{r r':R2}{ta tb tc:TE}(h:ta σ H fun x H1=>tb σ H1 fun y H2=>r x y H2 fun z H3=>∃k,z= .bl k∧(if k=true then tc σ H3 fun w' H4=>r' y w' H4 Q else Q (.bl false) H3)):Zhc r r' ta tb tc σ H Q:=h
end
end Rd
end L2
namespace L2
open PySem PySem.Spec PyProof.Rows
theorem Ww.step{K:PySem.W.Frag}{H H':Hp}{A A':List Addr}{a:Addr}{xs:List V}(h:Ww K H A a xs)(f:ZM A H H')(g:VU A A' H):Ww K H' A' a xs:=by
 have h1:=h.more (A':=A++A') fun a z=>(List.mem_append.mp z).elim .inl (g a);exact(h1.frame (f.mono fun a z=>List.mem_append_left _ z)).sub fun a z=>List.mem_append_right _ z
namespace Rd
section
variable {H:Hp}{Q:VK}{K:PySem.W.Frag}
theorem Zk1{a:Addr}{xs:List V}{G:Addr→Prop}(h:SqL K H a xs)(q:G a):∃a',V.ref a= .ref a'∧(∃xs,SqL K H a' xs)∧G a':=⟨a,rfl,⟨xs,h⟩,q⟩
theorem ZlI{j:Int}{G:Int→Prop}(h1: -(2 ^ 62)≤j)(h2:j<2 ^ 62)(q:G j):∃k,[V.int j]=[.int k]∧ -(2 ^ 62)≤k∧k<2 ^ 62∧G k:=⟨j,rfl,h1,h2,q⟩
theorem Zmt{i j:Int}{G:Int→Int→Prop}(q:G i j):∃i' j',[V.int i,.int j]=[.int i',.int j']∧G i' j':=⟨i,j,rfl,q⟩
end
end Rd
end L2
namespace L2
open PySem PySem.Spec PyProof.Rows
noncomputable def hid (H:Hp) (r:Addr):Hp:=fun b=>if b=r then none else H b
theorem Zcr{H:Hp}{r:Addr}:hid H r r=none:=by unfold hid;rw[if_pos rfl]
theorem ZaE{H:Hp}{r b:Addr}(h:b≠r):hid H r b=H b:=by unfold hid;rw[if_neg h]
theorem WN{H:Hp}{r:Addr}:Zd (hid H r) H:=fun b o e=>by
 by_cases h:b=r
 ·rw[h,Zcr] at e;cases e
 ·rw[ZaE h] at e;exact e
end L2
namespace L2
open PySem PySem.Spec PyProof.Rows
theorem ZeU:∀ns:List Int,PyData.canLayAll0 (ns.map PyData.int)=true
 | []=>by simp[PyData.canLayAll0]
 |n::ns=>by
  have:=ZeU ns;simp[PyData.canLayAll0,PyData.canLay0] at this⊢;exact this
theorem Zbi(ns:List Int):(PyData.list (ns.map PyData.int)).canLay0=true:=by
 have:=ZeU ns;simp[PyData.canLay0];simpa using this
theorem ZcK:∀ns:List Int,PyData.depthAll (ns.map PyData.int)≤1
 | []=>by simp[PyData.depthAll]
 |n::ns=>by
  have:=ZcK ns;simp[PyData.depthAll,PyData.depth] at this⊢;exact this
theorem Zfq(ns:List Int):(PyData.list (ns.map PyData.int)).depth≤60:=by
 have:=ZcK ns;simp only[PyData.depth];omega
end L2
namespace L2
open PySem PySem.Spec PyProof.Rows
namespace Rd
section
variable {H:Hp}{Q:VK}{K:PySem.W.Frag}
theorem ZhE{p q:Addr}{ns:List Int}(h1:SqL K H p (ns.map V.int))(h2:SqL K H q (ns.map V.int))(k:Q (.bl true) H):rOr rEq (ZbG K false) (.ref p) (.ref q) H Q:=
 ZkA (Wr.ints h1) (Wr.ints h2) (Zbi ns) (Zbi ns) (Zfq ns) (by rw[SeqAt.eqv_refl _ (Zbi ns)];exact k)
end
end Rd
end L2
namespace L2
open PySem PySem.Spec PyProof.Rows
namespace Rd
section
variable {σ:St}{H:Hp}{Q:VK}{K:PySem.W.Frag}{J:St→Prop}{E:XK}{sp:Sp}{dvs:List V}{t:TA}{ta:TE}
theorem Zln(hj:J σ)(h:t σ H fun vs H1=>sp (vs++dvs) H1 Q E):Zev J sp dvs E t σ H Q:=⟨hj,h⟩
end
end Rd
end L2
namespace L2
open PySem PySem.Spec PyProof.Rows
namespace Rd
section
variable {σ:St}{H:Hp}
theorem Zma{to ti:TE}{t:Zcw}{v:V}{Q:St→Hp→Prop}(h:to σ H fun o H1=>ti σ H1 fun i H2=>t o i v H2 fun H3=>Q σ H3):ZkE to ti t v σ H Q:=h
theorem Zms{p:Addr}{xs:List V}{k:Int}{v:V}{Q:Hp→Prop}(hp:H p=some (.lst xs))(h0:0≤k)(h1:k<xs.length)(q:Q (upd H p (.lst (xs.set k.toNat v)))):rSetL (.ref p) (.int k) v H Q:=
 ⟨p,xs,k,k.toNat,rfl,rfl,hp,by unfold ixN;rw[if_pos h0,if_pos h1],q⟩
end
end Rd
section
variable {X hs:List Int}{i:Nat}{v u:Int}
end
end L2
namespace L2
open PySem PySem.Spec PyProof.Rows
noncomputable def only(q:Addr) (o:HO):Hp:=fun a=>if a=q then some o else none
theorem ZbH{q:Addr}{o:HO}:only q o q=some o:=by unfold only;rw[if_pos rfl]
theorem Zbp{q:Addr}{o:HO}{H:Hp}(h:H q=some o):Zd (only q o) H:=fun b x e=>by
 unfold only at e
 by_cases c:b=q
 ·rw[if_pos c] at e;rw[c];cases e;exact h
 ·rw[if_neg c] at e;cases e
end L2
namespace L2
open PySem PySem.Spec PyProof.Rows
section
variable {X:Cx}{K:PySem.W.Frag}
theorem Y4(e:X.K=K):OpR X (binaryOp .Add) (rOr Zgv (rOr ZjA (rOr rCat (ZgT K)))):=e▸ZjK
theorem YA(e:X.K=K)(hu:X.A.units+64<cLine):OpR X (compareOp .Eq) (rOr rEq (ZbG K false)):=e▸ZkZ hu
theorem Zfc(e:X.K=K)(hu:X.A.units+64<cLine):OpR X (compareOp .NotEq) (rOr rNe (ZbG K true)):=e▸Zkt hu
theorem ZA(e:X.K=K):IxR X (rIx K):=e▸ZkY
theorem Zgk(e:X.K=K):SlR X (ZeJ K):=e▸Zl0
noncomputable def Zlh (K:PySem.W.Frag):List V→Hp→VK→Prop:=fun xs H Q=>∃x n,xs=[x]∧ZcA K x H n∧Q (.int n) H
theorem Y2(e:X.K=K):YO X (.builtin "len") (Zlh K):=e▸ZiP
theorem Zml(e:X.K=K):OpR X (compareOp .In) (rIn K false):=e▸Zh3
theorem ZW{e:Expr}{ta:TE}{f:Str}{pos:Pos}(ek:X.K=K)(he:PE X e ta)(hb:attributeBase e f X.env (eval e X.env)=eval e X.env):PE X (.Attribute e f pos) (Zih K ta f):=ek▸ZkQ he hb
theorem V2{o value:Expr}{ta tv:TE}{f:Str}{pos pos':Pos}(ek:X.K=K)(ha:PE X o ta)(hv:PE X value tv)(hs:swapsWith value (some (.Attribute o f pos')) pos.line X.env=pure false):
  PS X (.Assign [.Attribute o f pos'] value pos) (Ziq K ta tv f):=ek▸Zkr ha hv hs
theorem Z6{tg l:Expr}{tl:TE}(ek:X.K=K)(hl:PE X l tl):PI X tg l (Zg7 K tl):=ek▸ZjV hl
noncomputable def ZkS (K:PySem.W.Frag) (ta:TE):TT:=fun σ H Q=>ta σ H fun x H'=>∃k,Zez K x H' k∧Q k H'
theorem Yd{a:Expr}{ta:TE}(ek:X.K=K)(ha:PE X a ta)(he:∀whole,isTrue a X.env whole=(do let v←whole;standAt a.pos;holding [v] (truthy v))):PT X a (ZkS K ta):=ek▸ZiI ha he
noncomputable def ZkL (K:PySem.W.Frag):List V→Hp→VK→Prop:=fun xs H Q=>∃x n t b,xs=[x,.ty n]∧Wu K H x t∧PySem.W.kitOne K t (.type n)=some b∧Q (.bl b) H
theorem Zgj(e:X.K=K):YO X (.builtin "isinstance") (ZkL K):=e▸Zfp
noncomputable def ZfZ (K:PySem.W.Frag):List V→Hp→VK→Prop:=fun xs H Q=>∃p ys,xs=[.ref p]∧(SqL K H p ys∨SqT K H p ys)∧∀l,H l=none→Q (.ref l) (upd H l (.lst ys))
theorem ZaS(e:X.K=K):YO X (.type "list") (ZfZ K):=e▸Zer
noncomputable def Zjl (K:PySem.W.Frag):List V→Hp→VK→Prop:=fun xs H Q=>∃(p:Addr)(bs:List Bool),xs=[.ref p]∧SqL K H p (bs.map V.bl)∧Q (.bl (bs.all id)) H
theorem Zjs(e:X.K=K)(hc:X.calm=true):YO X (.builtin "all") (Zjl K):=e▸Zhz hc
noncomputable def Zji (K:PySem.W.Frag):List V→Hp→VK→Prop:=fun xs H Q=>∃(p:Addr)(ns:List Int),xs=[.ref p]∧SqL K H p (ns.map V.int)∧Q (.int ns.sum) H
theorem Zjz(e:X.K=K)(hc:X.calm=true):YO X (.builtin "sum") (Zji K):=e▸Zh0 hc
theorem Zj0{o:Expr}{to:TE}{name:Str}{apos cpos:Pos}{T id:String}{r:V→List V→Hp→VK→Prop}(ek:X.K=K)(pa:PlainAttrs T)(slot:Slot T name id)(hty:typeOf (.builtin id)=pure (.type "method_descriptor"))(hm:MtR X id r)(ho:PE X o to)
  (hbase:attributeBase o name X.env (eval o X.env)=eval o X.env:=by rfl) (hline:(apos.endLine==cpos.line)=true:=by rfl):PE X (.Call (.Attribute o name apos) [] [] cpos) (Zid K T r to):=ek▸Zk4 pa slot hty hm ho hbase hline
theorem Wi{o e:Expr}{es:List Expr}{to:TE}{t:TA}{name:Str}{apos cpos:Pos}{T id:String}{r:V→List V→Hp→VK→Prop}(ek:X.K=K)(pa:PlainAttrs T)(slot:Slot T name id)(hty:typeOf (.builtin id)=pure (.type "method_descriptor"))(hm:MtR X id r)(ho:PE X o to)(ha:PA X (e::es) t)
  (hbase:attributeBase o name X.env (eval o X.env)=eval o X.env:=by rfl)
  (hfew:((backTo cpos (starEach (e::es) X.env)).all (fun x=>!x.1)&&(backToKw cpos (keywordEach [] X.env)).all (fun x=>x.1.isSome)
   &&decide ((e::es).length+([]:List Keyword).length+(if([]:List Keyword).isEmpty then 0 else 1)<30))=true:=by rfl)
  (hline:(apos.endLine==cpos.line)=true:=by rfl) (hs:starEach (e::es) X.env=(false,eval e X.env)::starEach es X.env:=by rfl) (hplain:(backTo cpos (starEach es X.env)).any (·.1)=false:=by rfl):
  PE X (.Call (.Attribute o name apos) (e::es) [] cpos) (tBM K T r to t):=ek▸Zll pa slot hty hm ho ha hbase hfew hline hs hplain
theorem YX{es:List Expr}{k:Nat}{t:TGs}{n:Nat}{pos:Pos}(ek:X.K=K)(hc:X.calm=true)(h:PGs X es t)(hn:(assignEach es X.env).length=n:=by rfl)(hst:(assignEach es X.env).findIdx? (·.1)=none:=by rfl):
  PG X (.Tuple es k pos) (ZiU K n t):=ek▸ZkH hc h hn hst
end
namespace Rd
section
variable {σ:St}{H:Hp}{Q:VK}{K:PySem.W.Frag}
theorem tru{ta:TE}{Q:Bool→Hp→Prop}(h:ta σ H fun x H'=>∃k,Zez K x H' k∧Q k H'):ZkS K ta σ H Q:=h
theorem Zmh{xs:List V}(h:∃x n,xs=[x]∧ZcA K x H n∧Q (.int n) H):Zlh K xs H Q:=h
theorem Zme{xs:List V}(h:∃x n t b,xs=[x,.ty n]∧Wu K H x t∧PySem.W.kitOne K t (.type n)=some b∧Q (.bl b) H):ZkL K xs H Q:=h
theorem Zmz{xs:List V}(h:∃(p:Addr)(bs:List Bool),xs=[.ref p]∧SqL K H p (bs.map V.bl)∧Q (.bl (bs.all id)) H):Zjl K xs H Q:=h
theorem ZbK{p:Addr}{xs:List V}(h:SqL K H p xs)(q:∀l,H l=none→Q (.ref l) (upd H l (.lst xs))):ZfZ K [.ref p] H Q:=⟨p,xs,rfl,.inl h,q⟩
theorem ZkJ{p:Addr}{ns:List Int}(h:SqL K H p (ns.map V.int))(q:Q (.int ns.sum) H):Zji K [.ref p] H Q:=⟨p,ns,rfl,h,q⟩
end
end Rd
end L2
namespace L2
open PySem PySem.Spec PyProof.Rows
section
variable {X:Cx}
noncomputable def rDIn:R2:=fun y x H Q=>∃a o,x= .ref a∧UD H a y o∧Q (.bl o.isSome) H
noncomputable def rDNotIn:R2:=fun y x H Q=>∃a o,x= .ref a∧UD H a y o∧Q (.bl (!o.isSome)) H
theorem Zhg(hu:X.A.units+64<cLine):OpR X (compareOp .In) rDIn:=by
 intro pins s σ H x y v u Q I rx ry h;obtain⟨a,o,rfl,g,q⟩:=h;cases ry;exact ZlX (by omega) I g rx fun s' I'=>⟨.bl o.isSome,H,I',rfl,q⟩
theorem Zbu(hu:X.A.units+64<cLine):OpR X (compareOp .NotIn) rDNotIn:=by
 intro pins s σ H x y v u Q I rx ry h;obtain⟨a,o,rfl,g,q⟩:=h;cases ry;exact ZjE (by omega) I g rx fun s' I'=>⟨.bl (!o.isSome),H,I',rfl,q⟩
noncomputable def rIxD:R2:=fun x y H Q=>∃a v,x= .ref a∧UD H a y (some v)∧Q v H
theorem UV(hu:X.A.units+64<cLine):IxR X rIxD:=by
 intro value slice pins s σ H x y v u Q I rx ry h hs;obtain⟨a,z,rfl,g,q⟩:=h;cases rx;exact tail_any (ZfM I g) PySem.F.slot_dict_getitem.lookup (ZhO (by omega) I g ry fun w' s' I' rw'=>⟨z,H,I',rw',q⟩) hs
noncomputable def rSetD:V→V→V→Hp→(Hp→Prop)→Prop:=fun o i v H Q=>∃a H4,o= .ref a∧Zdt H a i v H4∧Q H4
theorem UX(hu:X.A.units+64<cLine):ZgP X rSetD:=by
 intro pins s σ H o i v ov iv u Q I ro ri rv h;obtain⟨a,H4,rfl,g,q⟩:=h;cases ro;exact ZhY (by omega) I g ri rv fun s' I'=>⟨H4,I',q⟩
theorem Zjy{P:Program}{w:World}{k:Key}{u:Value}(h:(ZO P w).is k u=true):Zu (kV k) u:=by
 cases k with
 |inl i=>exact Value.isInt_shape h
 |inr x=>exact Value.isStrOf_shape h
theorem ZfR:∀{xs:List V}{us:List Value},us.length=xs.length→(∀(j:Nat)(v:V)(u:Value),xs[j]? =some v→us[j]? =some u→Zu v u)→Zq xs us
 | [],[],_,_=> .nil
 |x::xs,u::us,hl,h=> .cons (h 0 x u rfl rfl) (ZfR (by simpa using hl) fun j v w e1 e2=>h (j+1) v w (by simpa using e1) (by simpa using e2))
 | [],_::_,hl,_=>by simp at hl
 |_::_,[],hl,_=>by simp at hl
theorem KV.at{kvs:List (Key×V)}{vs:List (Key×Value)}(r:KV kvs vs):∀{j:Nat}{k:Key}{x:Value},vs[j]? =some (k,x)→∃v,kvs[j]? =some (k,v):=by
 unfold KV at r
 induction r with
 |nil=>intro j k x e;simp at e
 | @cons p q ps qs h t ih=>
  intro j k x e;cases j with
  |zero=>
   simp at e;subst e;have h1:p.1=k:=h.1;exact⟨p.2,by simp[←h1]⟩
  |succ j=>
   obtain⟨v,z⟩:=ih (j:=j) (k:=k) (x:=x) (by simpa using e);exact⟨v,by simpa using z⟩
noncomputable def rListD:List V→Hp→VK→Prop:=fun xs H Q=>∃a kvs,xs=[V.ref a]∧H a=some (.dK kvs)∧∀l,H l=none→Q (.ref l) (upd H l (.lst (kvs.map fun kv=>kV kv.1)))
theorem ZgM(hc:X.calm=true):YO X (.type "list") rListD:=by
 intro pins s σ H xs us Q I r h;obtain⟨a,kvs,rfl,ha,q⟩:=h;obtain⟨u,rfl,ru⟩:=WJ r;cases ru;obtain⟨z,hd,vs,rel,dd⟩:=Zag I.hok ha;obtain⟨ep,hat⟩:=dd.dictAt;refine PySem.W.kdl_call (PySem.W.kdl_dict (knd:=ZO X.prog X.w) (kvs:=vs) (ep:=ep) hd) (I.ok.hd hc) hat (by rw[←rel.length];exact z) fun h' tk acc c hk hD hacc=>?_;refine⟨.ref s.heap.objs.size,_,I.laid (a:=s.heap.objs.size) (o:= .lst (kvs.map fun kv=>kV kv.1)) (t':=tk) hk (Nat.le_refl _) ⟨by rw[List.length_map];exact z,acc.toList,c,?_,by simpa using hD⟩,rfl,q _ (I.hok.fresh (Nat.le_refl _))⟩;refine ZfR (by rw[Array.length_toList,hacc.1,List.length_map,rel.length]) fun j v u e1 e2=>?_;obtain⟨k,x,hx,hk'⟩:=hacc.2 j u (by rw[←Array.getElem?_toList];exact e2);obtain⟨v',hv'⟩:=rel.at hx;rw[List.getElem?_map,hv'] at e1;cases e1;exact Zjy hk'
end
section
variable {X:Cx}{pins:List (Addr×Obj)}{σ:List (Option V)}{H H':Hp}{s:Shared}{h':Heap}
theorem Inv.turnedL{t':Nat}{fp:List Addr}(I:Inv X pins σ H s)(k:∀b o,b∉fp→s.heap.get? b=some o→h'.get? b=some o)(hf:∀b∈fp,WS X pins H b):Inv X pins σ H {s with heap:=h',toks:=t'}:=by
 have nit:∀b u,H b=some u→b∉fp:=fun b u e z=>by rw[(hf b z).1] at e;cases e
 refine I.step (g':=s.gens) (d':=s.drawn) (ch:=fp) (fun b hb=>?_) (fun b o _ _ hc e _=>k b o hc e) (fun b o _ _ hc e _=>⟨o.slots,k b o hc e⟩) (fun _ _ _ _ n=>n)
  (fun b o hc e=>⟨o,k b o hc e⟩) (fun _ _ e=>e) (fun _ _ _ e=>e) (fun b ps e=>⟨#[],by rw[e];simp⟩) (fun m hm=>?_) (fun b u e=>?_) I.bare
 ·obtain⟨f0,f1,f2,f3,f4,f5⟩:=hf b hb;exact⟨f3,f1,f4,f5⟩
 ·obtain⟨o,es,ep,ho,r⟩:=hm;exact⟨o,es,ep,k _ o (fun z=>(hf _ z).2.1 rfl) ho,r⟩
 ·refine(I.hok b u e).stay (fun c v hc q=>k c v ?_ q) (fun _ q=>q) fun _ _ q=>q;rcases hc with z|z
  ·rw[z];exact nit b u e
  ·exact nit c _ z
theorem Inv.turnedNew{t':Nat}{fp:List Addr}{T:Addr}{o:HO}(I:Inv X pins σ H s)(k:∀b o,b∉fp→s.heap.get? b=some o→h'.get? b=some o)(hf:∀b∈fp,WS X pins H b)(hp:s.heap.objs.size≤T)(new:ZU X.prog X.w (upd H T o) h' T o):
  Inv X pins σ (upd H T o) {s with heap:=h',toks:=t'}:=by
 have J:Inv X pins σ H {s with heap:=h',toks:=t'}:=I.turnedL k hf;have hn:=I.hok.fresh hp;obtain⟨f0,f1,f2,f3,f4,f5⟩:=I.fpOk hp hn;refine Inv.step (s:={s with heap:=h',toks:=t'}) (h':=h') (g':=s.gens) (d':=s.drawn) (t':=t') (ch:=[T]) J (fun b hb=>?_) (fun b o _ _ hc e _=>e) (fun b o _ _ hc e _=>⟨o.slots,e⟩) (fun b o hc e n=>?_)
  (fun b o hc e=>⟨o,e⟩) (fun b xs e=>?_) (fun b o u e=>?_) (fun b ps e=>⟨#[],?_⟩) (fun m hm=>hm) (fun b u e=>?_) I.bare
 ·have e:b=T:=by simpa using hb
  subst e;exact⟨f3,f1,f4,f5⟩
 ·rw[Ze (fun z=>hc (by simp[z]))];exact n
 ·rw[Ze (Zj e hn)];exact e
 ·rw[Ze (Zj e hn)];exact e
 ·rw[Ze (Zj e hn)];simpa using e
 ·by_cases hb:b=T
  ·subst hb;rw[Zf] at e;cases e;exact new
  ·rw[Ze hb] at e;exact(J.hok b u e).stay (fun c v _ q=>q) (fun c q=>by rw[Ze (Zj q hn)];exact q) fun c xs q=>by rw[Ze (Zj q hn)];exact q
end
noncomputable def Ite (K:PySem.W.Frag) (a:Addr):It:=
 ⟨fun i H=>∃xs x,SqL K H a xs∧xs[i]? =some x,fun i H v H'=>∃t x,H t=none∧v= .ref t∧H'=upd H t (.tup [.int i,x])∧∀xs,SqL K H a xs→xs[i]? =some x,fun i H=>∃xs,SqL K H a xs∧xs.length≤i⟩
theorem Zhs{P:Program}{w:World}{K:PySem.W.Frag}{elts:List Expr}{k1:Nat}{pos:Pos}(a e it:Addr)(hei:e≠it):Zao P w K (.Tuple elts k1 pos) (Ite K a) [e,it] e (fun i h=>(∃old,IsEnum h e it i old)∧h.IsListIter it a i) where
 mem:=by simp
 obj:=fun i h st b hb=>by
  obtain⟨⟨old,he⟩,o,h1,h2,h3⟩:=st;rcases List.mem_cons.mp hb with rfl|hb
  ·exact⟨_,he,fun v z=>by
    have z':Data.fields _=Data.cell v:=z;cases z'⟩
  ·rw[List.mem_singleton.mp hb];exact⟨o,h1,fun v z=>by rw[h3] at z;cases z⟩
 keep:=fun i h h' st k=>⟨let⟨old,he⟩:=st.1;⟨old,k e (by simp) _ he⟩,st.2.at fun o q=>k it (by simp) o q⟩
 item:=by
  intro X hP hw hK hc i pins s σ H E I hf st hg;subst hP hw hK;obtain⟨xs,x,hq,hx⟩:=hg;obtain⟨its,rv,p,hz⟩:=I.list hq;obtain⟨u,hu,ru⟩:=rv.get hx;obtain⟨⟨old,he⟩,hit⟩:=st;refine wpAny_pyNext_enum_item he hit p.isList (x:=u) (by simpa using hu) hei fun h' ho hit' hT hsz hk=>?_;have hfr:=I.hok.fresh (Nat.le_refl s.heap.objs.size);have helt:e<s.heap.objs.size:=Heap.lt_size he;have hilt:it<s.heap.objs.size:=by obtain⟨_,y,_⟩:=hit;exact Heap.lt_size y
  refine⟨_,rfl,wpAny_letOwnedTupleGo_enum ho fun h2 he2 hs2=>?_⟩;have hT2:h2.get? s.heap.objs.size=some {cls:= .type "tuple",data:= .seq #[.int i s.toks,u]}:=hs2.extBut _ _ (Nat.ne_of_gt helt) hT;have I1:Inv X pins σ (upd H s.heap.objs.size (.tup [.int i,x])) {s with heap:=h2,toks:=s.toks+1}:=
   I.turnedNew (fp:=[e,it]) (fun b o hb q=>by
    have n1:b≠e:=fun z=>hb (by simp[z]);have n2:b≠it:=fun z=>hb (by simp[z]);exact hs2.extBut b o n1 (hk b o n1 n2 q)) hf (Nat.le_refl _) ⟨by show 2≤sizeLine;decide,[.int i s.toks,u],.cons ⟨_,rfl⟩ (.cons ru .nil),_,hT2,rfl,_,rfl⟩
  refine⟨.ref s.heap.objs.size,_,I1,rfl,⟨_,x,hfr,rfl,rfl,fun ys hy=>by rw[I.list_inj hy hq];exact hx⟩,⟨⟨_,he2⟩,hit'.at fun o q=>hs2.extBut _ _ hei.symm q⟩,fun b hb=>?_⟩;have nb:b≠s.heap.objs.size:=by
   rcases List.mem_cons.mp hb with rfl|hb
   ·exact Nat.ne_of_lt helt
   ·rw[List.mem_singleton.mp hb];exact Nat.ne_of_lt hilt
  rw[Ze nb];exact(hf b hb).1
 done:=by
  intro X hP hw hK hc i pins s σ H E I hf st hg;subst hP hw hK;obtain⟨xs,hq,hx⟩:=hg;obtain⟨its,rv,p,hz⟩:=I.list hq;obtain⟨⟨old,he⟩,hit⟩:=st;have hl:=rv.length;exact wpAny_pyNext_enum_end (I.ok.hd hc) he hit p.isList (by simp;omega) fun h' eb=>⟨rfl,I.turnedL (t':=s.toks) (fp:=[e,it]) (fun b o hb q=>eb b o (fun z=>hb (by simp[z])) q) hf⟩
 self:=fun _ _ _ _ _ st h=>wpAny_pyIter_enum st.1.choose_spec h
section
variable {X:Cx}
noncomputable def Zjp (K:PySem.W.Frag) (ta:TA):TI:=fun σ H R=>ta σ H fun vs H1=>∃a,vs=[.ref a]∧(∃xs,SqL K H1 a xs)∧R (Ite K a) H1
theorem ZaF{K:PySem.W.Frag}{a:Expr}{ta:TA}{p pos tpos:Pos}{elts:List Expr}{k1:Nat}(ek:X.K=K)(hg:Gl X "enumerate")(hm:X.mg "enumerate" =none)(ha:PA X [a] ta)(hs:starEach [a] X.env=[(false,eval a X.env)]:=by rfl):
  PI X (.Tuple elts k1 tpos) (.Call (.Name "enumerate" p) [a] [] pos) (Zjp K ta):=by
 subst ek;intro pins s σ H R I h;refine Call_ (Uv I hg hm boot_enumerate (PyProof.Rows.callWith_type1 (thn (ha pos pins s σ H _ I h) fun us s1 ⟨vs,H1,I1,r1,q1⟩=>?_) hs rfl));obtain⟨b,rfl,⟨xs,hq⟩,q⟩:=q1;obtain⟨u,rfl,ru⟩:=WJ r1;cases ru;obtain⟨its,rv,pl,hz⟩:=I1.list hq;refine call_enumerate_list pl.isList fun h' he hit hsz hk=>?_;refine wpAny_pyIter_enum he ?_;have I2:Inv X pins σ H1 {s1 with heap:=h'}:=I1.kept (t':=s1.toks) hk;refine⟨s1.heap.objs.size+1,[s1.heap.objs.size+1,s1.heap.objs.size],_,_,H1,rfl,I2,Zhs b _ _ (Nat.succ_ne_self _),⟨⟨_,he⟩,hit⟩,fun c hc=>?_,q⟩;rcases List.mem_cons.mp hc with rfl|hc
 ·exact I1.fpOk (Nat.le_succ _) (I1.hok.fresh (Nat.le_succ _))
 ·rw[List.mem_singleton.mp hc];exact I1.fpOk (Nat.le_refl _) (I1.hok.fresh (Nat.le_refl _))
end
end L2
namespace L2
open PySem PySem.Spec PyProof.Rows
noncomputable def rLenD:List V→Hp→VK→Prop:=fun xs H Q=>∃a kvs,xs=[V.ref a]∧H a=some (.dK kvs)∧Q (.int kvs.length) H
theorem Zf9{X:Cx}:YO X (.builtin "len") rLenD:=Zib
noncomputable def Zbk (n:Nat) (ix:List Nat) (σ:St):St:=List.replicate n none++ix.map fun j=>(σ[j]?).join
noncomputable def Zeh (n:Nat) (ix:List Nat) (wi:TI) (g:TG) (tc:TT) (te:TE):TE:=fun σ H Q=>wi σ H fun J H1=>∀p,H1 p=none→
 ∃W:Nat→Nat→List V→St→Hp→Prop,(∃m,W 0 m [] (Zbk n ix σ) (upd H1 p (.lst [])))∧∀i m ys σ' H',W i m ys σ' H'→
  (J.stop i H'∧Q (.ref p) H')∨(J.go i H'∧∀x H2,J.yld i H' x H2→g x σ' H2 fun σ2 H3=>tc σ2 H3 fun b H4=>
   if b=true then te σ2 H4 fun v H5=>H5 p=some (.lst ys)∧ys.length<sizeLine∧∃m',m'<m∧W (i+1) m' (ys++ [v]) σ2 (upd H5 p (.lst (ys++ [v])))
   else ∃m',m'<m∧W (i+1) m' ys σ2 H4)
section
variable {X:Cx}
theorem Zfy{pins:List (Addr×Obj)}{σ:St}{H:Hp}{s:Shared}{sc:Scope}{x:Str}{xs:List Str}{zs:List Str}{ix:List Nat}{cl:List (Str×Addr)}{fp:List Addr}{h₁:Heap}{tk:Nat}
  (S:YR X sc x zs ix) (I:Inv X pins σ H s) (hcl:∀y c,cl.lookup y=some c→X.env.cells.lookup y=some c) (hhas:∀y,(y,NameKind.free)∈sc.names→∃c,cl.lookup y=some c)
  (hfp:∀b∈fp,WS X pins H b∧b<s.heap.objs.size) (hns:h₁.Ns s.heap.objs.size fun _=>none) (hk:∀b o,s.heap.get? b=some o→h₁.get? b=some o):
  Inv (Zl X sc cl s.heap.objs.size (xs++zs) s H fp) [] (Zbk xs.length ix σ) H {s with heap:=h₁,toks:=tk}:=by
 have sub:∀b∈frs X.stack,b∈X.env.locals::X.fs:=I.stkSub;have nfs:∀b∈fp,b∉frs X.stack:=fun b hb z=>by
  obtain⟨⟨_,f1,f2,_⟩,_⟩:=hfp b hb;rcases List.mem_cons.mp (sub b z) with e|e
  ·exact f1 e
  ·exact f2 e
 have cut:∀y,(Zl X sc cl s.heap.objs.size (xs++zs) s H fp).env.kindOf y=some .cell∨(Zl X sc cl s.heap.objs.size (xs++zs) s H fp).env.kindOf y=some .free→∃c,cl.lookup y=some c:=fun y hy=>by
  have q:∃k,(relabel sc X.env).names.lookup y=some k∧(k= .cell∨k= .free):=by
   rcases hy with hy|hy
   ·exact⟨_,hy,.inl rfl⟩
   ·exact⟨_,hy,.inr rfl⟩
  obtain⟨k,e,hk⟩:=q;obtain⟨k',e',q⟩:=Wo e;have:k'= .free:=by
   rcases q with q|⟨q,_⟩
   ·rcases hk with z|z
    ·exact absurd (q.symm.trans z) (S.nocell _ (Y9 e'))
    ·exact q.symm.trans z
   ·exact q
  subst this;exact hhas y (Y9 e')
 refine⟨⟨I.ok.mod,S.kind,I.ok.glob,I.ok.blt,Nat.le_refl _,fun y z c h1 h2=>I.ok.inj y z c (hcl _ _ h1) (hcl _ _ h2),cut,fun y c hf _=>?_,I.ok.hd,I.ok.frames,.inl rfl,fun b hb=>?_,I.bs,Nat.le_trans I.ok.bsz I.sz,fun b o e hb=>?_,nfs,I.stack,I.stkFree⟩,
  rfl,I.bare,Un.kept hk,⟨_,hns,fun i y v h1 h2 h3=>?_⟩,fun y c h=>?_,I.hok.fresh (Nat.le_refl _),fun y c h=>I.freeC y c (hcl y c h),fun p hp=>absurd (show p∈([]:List (Addr×Obj)) from hp) (by simp),I.hok.kept hk,?_⟩
 ·exact absurd (show false=true from hf) (by decide)
 ·obtain⟨⟨f0,f1,f2,f3,f4,f5⟩,hl⟩:=hfp b hb;exact⟨Nat.ne_of_lt hl,fun y c h=>f4 y c (hcl y c h)⟩
 ·obtain⟨⟨f0,f1,f2,f3,f4,f5⟩,hl⟩:=hfp b hb;rcases f3 with z|z
  ·exact I.ok.noex b o e z
  ·exact absurd (Nat.lt_of_lt_of_le (Heap.lt_size e) (Nat.le_trans I.ok.bsz z)) (Nat.lt_irrefl _)
 ·
  have hlen:xs.length≤i:=by
   rcases Nat.lt_or_ge i xs.length with z|z
   ·have h2':(List.replicate xs.length none++ix.map fun j=>(σ[j]?).join)[i]? =some (some v):=h2;rw[List.getElem?_append_left (by rw[List.length_replicate];exact z),List.getElem?_replicate,if_pos z] at h2';cases h2'
   ·exact z
  ·obtain⟨i,rfl⟩:∃i',i=xs.length+i':=⟨i-xs.length,by omega⟩;have h1':zs[i]? =some y:=by
    have h1':(xs++zs)[xs.length+i]? =some y:=h1;rw[List.getElem?_append_right (Nat.le_add_right _ _),Nat.add_sub_cancel_left] at h1';exact h1'
   have h2':(ix.map fun j=>(σ[j]?).join)[i]? =some (some v):=by
    have h2':(List.replicate xs.length none++ix.map fun j=>(σ[j]?).join)[xs.length+i]? =some (some v):=h2;rw[List.getElem?_append_right (by rw[List.length_replicate];exact Nat.le_add_right _ _),List.length_replicate,Nat.add_sub_cancel_left] at h2';exact h2'
   have ha:(ix.map fun j=>X.N[j]?)[i]? =some (some y):=by rw[S.at_,List.getElem?_map,h1'];rfl
   rw[List.getElem?_map] at h2' ha;cases e:ix[i]? with
   |none=>rw[e] at h2';cases h2'
   |some j=>
    rw[e] at h2' ha;have ha':X.N[j]? =some y:=Option.some.inj ha;have hj:(σ[j]?).join=some v:=Option.some.inj h2';have hσ:σ[j]? =some (some v):=by
     cases q:σ[j]? with
     |none=>rw[q] at hj;cases hj
     |some o=>rw[q] at hj;exact congrArg some hj
    obtain⟨m,hn,hl⟩:=I.loc;have hfr:=S.zfree y (List.mem_of_getElem? h1');have hkind:=S.free _ (Y9 hfr) rfl;have hv:Vis X.env.scope y:=by
     rcases hkind with z|z
     ·exact .inr (.inl z)
     ·exact .inr (.inr z)
    obtain⟨u,r,q⟩:=hl j y v ha' hσ hv;refine⟨u,r,?_⟩;rcases q with⟨kl,_⟩|⟨_,c,hc,hcell⟩
    ·have kl':X.env.kindOf y=some .local:=kl;rcases hkind with z|z<;>(rw[z] at kl';cases kl')
    ·obtain⟨c',hc'⟩:=hhas y (Y9 hfr);have ec:c'=c:=by have:=hcl y c' hc';rw[hc] at this;exact(Option.some.inj this).symm
     subst ec;refine .inr ⟨?_,c',hc',?_⟩
     ·have hvis:Vis (relabel sc X.env) y:=h3;rcases hvis with z|z|z
      ·obtain⟨k',e',q⟩:=Wo z;rw[hfr] at e';cases e';rcases q with q|⟨_,q⟩<;>cases q
      ·exact .inl z
      ·exact .inr z
     ·obtain⟨o,ho,hd⟩:=hcell;exact⟨o,hk _ _ ho,hd⟩
 ·obtain⟨v,o,ho,hd⟩:=I.cell y c (hcl y c h);exact⟨v,o,hk _ _ ho,hd⟩
 ·show(List.replicate xs.length none++ix.map fun j=>(σ[j]?).join).length=(xs++zs).length;have:=congrArg List.length S.at_;simp only[List.length_map] at this;simp only[List.length_append,List.length_replicate,List.length_map,this]
theorem Zci{pins:List (Addr×Obj)}{σ:St}{H:Hp}{s:Shared}{sc:Scope}{x:Str}{xs:List Str}{zs:List Str}{ix:List Nat}{cl:List (Str×Addr)}{fp:List Addr}{it:Addr}{tn:Nat→Heap→Prop}{J:It}
  {elt tg iter:Expr} {ifs:List Expr} {pos:Pos} {g:TG} {tc:TT} {te:TE} {Q:VK} {E:Value→Shared→Prop} {RR:Value→Addr→Result→Shared→Prop}
  (hc:X.calm=true) (S:YR X sc x zs ix) (I:Inv X pins σ H s) (hcl:∀y c,cl.lookup y=some c→X.env.cells.lookup y=some c) (hhas:∀y,(y,NameKind.free)∈sc.names→∃c,cl.lookup y=some c)
  (T:Zao X.prog X.w X.K tg J fp it tn) (st:tn 0 s.heap) (hfp:∀b∈fp,WS X pins H b)
  (hin:∀C s H,PG (Zl X sc cl C (xs++zs) s H fp) tg g∧PIf (Zl X sc cl C (xs++zs) s H fp) ifs tc∧PE (Zl X sc cl C (xs++zs) s H fp) elt te)
  (hq:∀p,H p=none→∃W:Nat→Nat→List V→St→Hp→Prop,(∃m,W 0 m [] (Zbk xs.length ix σ) (upd H p (.lst [])))∧∀i m ys σ' H',W i m ys σ' H'→
   (J.stop i H'∧Q (.ref p) H')∨(J.go i H'∧∀x H2,J.yld i H' x H2→g x σ' H2 fun σ2 H3=>tc σ2 H3 fun b H4=>
    if b=true then te σ2 H4 fun v H5=>H5 p=some (.lst ys)∧ys.length<sizeLine∧∃m',m'<m∧W (i+1) m' (ys++ [v]) σ2 (upd H5 p (.lst (ys++ [v])))
    else ∃m',m'<m∧W (i+1) m' ys σ2 H4))
  (hR:∀acc C f s',Zf3 X pins σ Q acc C s'→RR acc C (.ok f) s'):
  wpAny (model X.prog X.w) X.A (newList []) (fun acc s₃=>wpAny (model X.prog X.w) X.A (newFunctionEnv sc X.env.globals cl [] X.env.qual none .none (some X.env)) (fun cenv s₄=>
   codeAny (model X.prog X.w) X.A (.compStart (.ListComp elt [⟨tg,iter,ifs,0⟩] sc pos) 0 (.ref it) acc {cenv with scope:=relabel sc X.env}) (RR acc cenv.locals) s₄) E s₃) E s:=by
 refine wpAny_newObj_type (wpAny_newFunctionEnv S.nocell (by intro y hy;simp at hy) (fun h₁ hns₁ hsb₁=>?_) S.kind);have I3:Inv X pins σ (upd H s.heap.objs.size (.lst [])) {s with heap:=s.heap.push {cls:= .type "list",dict:=none,data:= .seq ([]:List Value).toArray}}:=I.lnew (its:=[]) (ys:=[]) (t':=s.toks) .nil (Nat.zero_le _);dsimp only at hns₁ hsb₁⊢;obtain⟨W,⟨m0,w0⟩,turn⟩:=hq s.heap.objs.size (I.hok.fresh (Nat.le_refl _));have lt:∀b∈fp,b<s.heap.objs.size:=fun b hb=>by
  obtain⟨o,e,_⟩:=T.obj 0 s.heap st b hb;exact Heap.lt_size e
 have up:∀b∈fp,∀o,(upd H s.heap.objs.size o) b=H b:=fun b hb o=>Ze (Nat.ne_of_lt (lt b hb));have kp:∀b o,(s.heap.push {cls:= .type "list",dict:=none,data:= .seq ([]:List Value).toArray}).get? b=some o→h₁.get? b=some o:=fun b o e=>
  hsb₁.extBut b o (Nat.ne_of_lt (Heap.lt_size e)) (Heap.get?_push_of_some _ e)
 have f3:∀b∈fp,WS X pins (upd H s.heap.objs.size (.lst [])) b∧b<(s.heap.push {cls:= .type "list",dict:=none,data:= .seq ([]:List Value).toArray}).objs.size:=fun b hb=>by
  obtain⟨q0,q⟩:=hfp b hb;refine⟨⟨(up b hb _).trans q0,q⟩,?_⟩;rw[Heap.size_push];exact Nat.lt_succ_of_lt (lt b hb)
 generalize hS3:({s with heap:=s.heap.push {cls:= .type "list",dict:=none,data:= .seq ([]:List Value).toArray}}:Shared)=s3 at I3;have hH3:s.heap.push {cls:= .type "list",dict:=none,data:= .seq ([]:List Value).toArray}=s3.heap:=by rw[←hS3]
 rw[hH3] at kp f3 hns₁⊢;have st3:tn 0 h₁:=T.keep 0 _ _ st fun b _ o e=>kp b o (by rw[←hH3];exact Heap.get?_push_of_some _ e);have J0:Inv (Zl X sc cl s3.heap.objs.size (xs++zs) s3 (upd H s.heap.objs.size (.lst [])) fp) [] (Zbk xs.length ix σ) (upd H s.heap.objs.size (.lst [])) {s3 with heap:=h₁,toks:=s3.toks}:=
  Zfy S I3 hcl hhas f3 hns₁ kp
 obtain⟨hg,hif,he⟩:=hin s3.heap.objs.size s3 (upd H s.heap.objs.size (.lst []));have fpo:∀{H':Hp},(∀b∈fp,H' b=none)→∀b∈fp,WS (Zl X sc cl s3.heap.objs.size (xs++zs) s3 (upd H s.heap.objs.size (.lst [])) fp) [] H' b:=fun{H'} hn b hb=>
  ⟨hn b hb,(J0.ok.exf b hb).1,J0.ok.exfs b hb,.inl hb,(J0.ok.exf b hb).2,fun p hp=>absurd (show p∈([]:List (Addr×Obj)) from hp) (by simp)⟩
 have loop:∀s4:Shared,s4={s3 with heap:=h₁,toks:=s3.toks}→
   codeAny (model X.prog X.w) X.A (.compLoop (.ListComp elt [⟨tg,iter,ifs,0⟩] sc pos) 0 (.ref it) (.ref s.heap.objs.size) (compEnvC sc cl s3.heap.objs.size X.env)) (RR (.ref s.heap.objs.size) s3.heap.objs.size) s4:=by
  rintro s4 rfl;refine Zbg (fun n s'=>∃i ys σ' H',Inv (Zl X sc cl s3.heap.objs.size (xs++zs) s3 (upd H s.heap.objs.size (.lst [])) fp) [] σ' H' s'∧tn i s'.heap∧(∀b∈fp,H' b=none)∧W i n ys σ' H') ?_ m0
   ⟨0,[],Zbk xs.length ix σ,_,J0,st3,fun b hb=>(f3 b hb).1.1,w0⟩
  rintro n s5 ⟨i,ys,σ5,H5,I5,st5,fr5,w5⟩;rcases turn i n ys σ5 H5 w5 with⟨stop,qn⟩|⟨go,step⟩
  ·refine thn (T.done (Zl X sc cl s3.heap.objs.size (xs++zs) s3 (upd H s.heap.objs.size (.lst [])) fp) rfl rfl rfl hc i [] s5 σ5 H5 _ I5 (fpo fr5) st5 stop) fun r s6 ⟨hr,I6⟩=>?_;subst hr;obtain⟨m6,hm6,_⟩:=I6.loc;refine hR _ _ _ _ ⟨s.heap.objs.size,H5,m6,rfl,hm6,?_,I3.fpOk (Nat.le_refl _) I6.free,qn⟩;exact I3.call' I6.os I6.base I6.hok I6.bare fun b hb=>by
    obtain⟨⟨f0,f1,f2,f3,f4,f5⟩,_⟩:=f3 b hb;exact⟨f3,f1,f4,f5⟩
  ·refine thn (T.item (Zl X sc cl s3.heap.objs.size (xs++zs) s3 (upd H s.heap.objs.size (.lst [])) fp) rfl rfl rfl hc i [] s5 σ5 H5 _ I5 (fpo fr5) st5 go) fun r s6 ⟨u,hr,h6⟩=>?_;subst hr;refine thn h6 fun _ s7 ⟨x7,H7,I7,r7,y7,st7,fr7⟩=>?_;have I7':=I7.pinned (fpo fr7) (T.obj _ _ st7);refine thn (hg _ s7 σ5 H7 x7 u _ I7' r7 (step x7 H7 y7)) fun _ s8 ⟨σ8,H8,I8,q8⟩=>?_;refine thn (hif _ s8 σ8 H8 _ I8 q8) fun b s9 ⟨H9,I9,q9⟩=>?_;have again:∀{ys':List V}{σ':St}{H':Hp}{m':Nat}{s':Shared},Inv (Zl X sc cl s3.heap.objs.size (xs++zs) s3 (upd H s.heap.objs.size (.lst [])) fp) ([]++ZaH fp s7.heap) σ' H' s'→W (i+1) m' ys' σ' H'→m'<n→
     ∃m,m<n∧∃i ys σ' H',Inv (Zl X sc cl s3.heap.objs.size (xs++zs) s3 (upd H s.heap.objs.size (.lst [])) fp) [] σ' H' s'∧tn i s'.heap∧(∀b∈fp,H' b=none)∧W i m ys σ' H':=fun{ys' σ' H' m' s'} Iz wz hm=>by
    refine⟨m',hm,i+1,ys',σ',H',Iz.unpinned,T.keep _ _ _ st7 fun b hb o e=>(Iz.pin (b,o) (List.mem_append_right _ (List.mem_append_right _ (W3 hb e)))).1,fun b hb=>?_,wz⟩;obtain⟨o,e,d⟩:=T.obj _ _ st7 b hb;exact(Iz.pin (b,o) (List.mem_append_right _ (List.mem_append_right _ (W3 hb e)))).2.1
   cases b with
   |false=>
    rw[if_neg Bool.false_ne_true] at q9⊢;obtain⟨m',hm,wz⟩:=q9;exact again I9 wz hm
   |true=>
    rw[if_pos rfl] at q9⊢;refine thn (he _ s9 σ8 H9 _ I9 q9) fun v s10 ⟨y,H10,I10,r10,hl,hz,m',hm,wz⟩=>?_;refine thn (YT _ s10 σ8 H10 (.ref s.heap.objs.size) [y] (.ref s.heap.objs.size) [v] (fun z H'=>z= .non∧H'=upd H10 s.heap.objs.size (.lst (ys++ [y]))) I10 rfl (.cons r10 .nil) ⟨_,ys,y,rfl,rfl,hl,hz,rfl,rfl⟩) fun _ s11 ⟨z,H11,I11,_,_,e11⟩=>?_;subst e11;exact again I11 wz hm
 exact codeAny_compStart_list (loop _ (by subst hS3;rfl)) (T.self _ 0 _ _ _ st3 (loop _ (by subst hS3;rfl)))
theorem WY{elt tg iter:Expr}{ifs:List Expr}{sc:Scope}{pos:Pos}{x:Str}{xs:List Str}{zs:List Str}{ix:List Nat}{wi:TI}{g:TG}{tc:TT}{te:TE}
  (hc:X.calm=true) (S:YR X sc x zs ix) (hi:PI X tg iter wi)
  (hin:∀cl C s H fp,PG (Zl X sc cl C (xs++zs) s H fp) tg g∧PIf (Zl X sc cl C (xs++zs) s H fp) ifs tc∧PE (Zl X sc cl C (xs++zs) s H fp) elt te)
  (hs:∀x,foldedSetIterable iter X.env x=pure x:=by intro _;rfl):
  PE X (.ListComp elt [⟨tg,iter,ifs,0⟩] sc pos) (Zeh xs.length ix wi g tc te):=by
 intro pins s σ H Q I h;obtain⟨cl,hclos,hcl,hhas⟩:=VF I.ok S;rw[eval_ListComp];refine wpAny_comprehension_free (use:=none) rfl hs hclos S.kind S.names (thn (hi pins s σ H _ I h) fun v s1 h1=>thn h1 fun itv s2 h2=>?_);obtain⟨it,fp,tn,J,H2,e,I2,T,st2,f2,hq⟩:=h2;subst e;refine Zci (RR:=fun acc C=>compPost (model X.prog X.w) X.A X.xe none (EP X pins σ Q) acc C) hc S I2 hcl hhas T st2 f2 (fun C s H=>hin cl C s H fp) hq fun acc C f s' h=>?_;obtain⟨p,H',m,rfl,hm,I',⟨g0,g1,g2,g3,g4,g5⟩,q⟩:=h;exact⟨m,hm,fun h' hb=>⟨.ref p,H',I'.turned (t':=s'.toks) (fun b o hne e=>(hb.2 b hne).trans e) g0 g1 g3 g4 g5,rfl,q⟩⟩
theorem Zcx{elt tg iter:Expr}{ifs:List Expr}{sc:Scope}{pos py spos:Pos}{x y:Str}{xs:List Str}{zs:List Str}{ix:List Nat}{wi:TI}{g:TG}{tc:TT}{te:TE}{j:Nat}
  (hc:X.calm=true) (S:YR X sc x zs ix) (hi:PI X tg iter wi)
  (hin:∀cl C s H fp,PG (Zl X sc cl C (xs++zs) s H fp) tg g∧PIf (Zl X sc cl C (xs++zs) s H fp) ifs tc∧PE (Zl X sc cl C (xs++zs) s H fp) elt te)
  (hN:X.N.Nodup) (hj:X.N[j]? =some y) (hy:Loc X.env.scope y)
  (hsw:swapsWith (.ListComp elt [⟨tg,iter,ifs,0⟩] sc pos) (some (.Name y py)) spos.line X.env=pure true:=by rfl)
  (hf:X.fn y=true∨X.env.scope.names.lookup y=some .local:=by first|exact .inl rfl|exact .inr rfl|assumption)
  (hs:∀x,foldedSetIterable iter X.env x=pure x:=by intro _;rfl):
  PS X (.Assign [.Name y py] (.ListComp elt [⟨tg,iter,ifs,0⟩] sc pos) spos) (Ze8 (Zeh xs.length ix wi g tc te) (UG j)):=by
 intro pins s σ H D I h;obtain⟨cl,hclos,hcl,hhas⟩:=VF I.ok S;rw[exec_Assign_Name_used _ _ _ _ hsw];refine wpAny_bind (wpAny_standAt (wpAny_bind ?_));show wpAny _ X.A (do let _←comprehension (.ListComp elt [⟨tg,iter,ifs,0⟩] sc pos) sc X.env _ (newList []) false (eval iter X.env) (some (assign (.Name y py) X.env))) _ _ s;refine wpAny_bind (wpAny_mono (wpAny_comprehension_free (use:=some (assign (.Name y py) X.env)) (Q:=fun _ s'=>SP X pins D .next s') rfl hs hclos S.kind S.names
  (thn (hi pins s σ H _ I h) fun v s1 h1=>thn h1 fun itv s2 h2=>?_)) (fun _ s' hq=>wpAny_pure (wpAny_pure hq)) fun _ _ e=>e)
 obtain⟨it,fp,tn,J,H2,e,I2,T,st2,f2,hq⟩:=h2;subst e;refine Zci (Q:=fun x H1=>UG j x σ H1 D.nx) (RR:=fun acc C=>compPost (model X.prog X.w) X.A X.xe (some (assign (.Name y py) X.env)) (fun _ s'=>SP X pins D .next s') acc C) hc S I2 hcl hhas T st2 f2 (fun C s H=>hin cl C s H fp) hq fun acc C f s' h=>?_;obtain⟨p,H',m,rfl,hm,I',⟨g0,g1,g2,g3,g4,g5⟩,q⟩:=h;show wpAny _ X.A (assign (.Name y py) X.env (.ref p)) _ _ _;refine wpAny_assign_Name (Zba I' hN hj hy (show Zu (.ref p) (.ref p) from rfl) (fun s'' I'' ⟨c,hsb,hcc⟩=>?_) hf);have hne:C≠c:=by
  rcases hcc with z|z
  ·rw[z];exact g1
  ·exact Ne.symm (g4 _ _ z)
 exact⟨m,hm.sameBut hsb hne,fun h' hb=>⟨_,H',I''.turned (t':=s''.toks) (fun b o hne e=>(hb.2 b hne).trans e) g0 g1 g3 g4 g5,q⟩⟩
end
structure U4(J:It)(n:Nat)(y:Nat→Hp→V→Hp→Prop)(H:Hp):Prop where
 go:∀H' i,Zd H H'→i<n→J.go i H'
 yld:∀H' i x H2,Zd H H'→i<n→J.yld i H' x H2→y i H' x H2
 stop:∀H',Zd H H'→J.stop n H'
theorem Walks.y{J:It}{n:Nat}{f:Nat→V}{H:Hp}(w:Walks J n f H):U4 J n (fun i H' v H2=>H2=H'∧v=f i) H:=⟨w.go,w.yld,w.stop⟩
theorem Vz{K:PySem.W.Frag}{a:Addr}{xs:List V}{H:Hp}(h:SqL K H a xs):U4 (Ite K a) xs.length (fun i H' v H2=>∃t,H' t=none∧v= .ref t∧H2=upd H' t (.tup [.int i,xs.getD i .non])) H:=
 ⟨fun H' i e hi=>⟨xs,xs[i],e.seq h,by simp[hi]⟩,fun H' i x H2 e hi ⟨t,z,ht,hv,h2,hz⟩=>⟨t,ht,hv,by
  have:=hz xs (e.seq h);rw[h2];simp[List.getD,this]⟩,fun H' e=>⟨xs,e.seq h,Nat.le_refl _⟩⟩
theorem Yw{own:Nat}{ix:List Nat}{g:TG}{tc:TT}{te:TE}{Q:Addr→Hp→Prop}{σ:St}{H:Hp}{J:It}{n:Nat}{y:Nat→Hp→V→Hp→Prop}(w:U4 J n y H)(hn:n<sizeLine)(s:Nat→List (Option V))(hs:∀i,(s i).length=own)(c:Nat→Bool)(R:Nat→V→Hp→Prop)
  (mono:∀i v H1 H2,Zd H1 H2→R i v H1→R i v H2)
  (hg:∀i a H' v H2 (Kg:St→Hp→Prop),i<n→Zd H H'→y i H' v H2→a.length=own→(∀H3,Zd H' H3→Kg (s i++ix.map fun j=>(σ[j]?).join) H3)→g v (a++ix.map fun j=>(σ[j]?).join) H2 Kg)
  (hc:∀i H' (Kc:Bool→Hp→Prop),i<n→Zd H H'→(∀H4,Zd H' H4→Kc (c i) H4)→tc (s i++ix.map fun j=>(σ[j]?).join) H' Kc)
  (he:∀p i H' (Kc:VK),i<n→c i=true→H p=none→(∃ys,H' p=some (.lst ys))→Zd H H'→(∀v H5,Zd H' H5→R i v (hid H5 p)→Kc v H5)→te (s i++ix.map fun j=>(σ[j]?).join) H' Kc)
  (q:∀p H' ys,H p=none→Zd H H'→H' p=some (.lst ys)→Paired (fun i v=>R i v (hid H' p)) ((List.range n).filter c) ys→Q p H'):
  ∀p,H p=none→∃W:Nat→Nat→List V→St→Hp→Prop,(∃m,W 0 m [] (Zbk own ix σ) (upd H p (.lst [])))∧∀i m ys σ' H',W i m ys σ' H'→
   (J.stop i H'∧Q p H')∨(J.go i H'∧∀x H2,J.yld i H' x H2→g x σ' H2 fun σ2 H3=>tc σ2 H3 fun b H4=>
    if b=true then te σ2 H4 fun v H5=>H5 p=some (.lst ys)∧ys.length<sizeLine∧∃m',m'<m∧W (i+1) m' (ys++ [v]) σ2 (upd H5 p (.lst (ys++ [v])))
    else ∃m',m'<m∧W (i+1) m' ys σ2 H4):=by
 intro p hp;have hidS:∀{H1 H2:Hp},Zd H1 H2→Zd (hid H1 p) (hid H2 p):=fun{H1 H2} e b o z=>by
  by_cases h:b=p
  ·rw[h,Zcr] at z;cases z
  ·rw[ZaE h] at z⊢;exact e b o z
 have hidU:∀{H1:Hp}{o:HO},Zd (hid H1 p) (hid (upd H1 p o) p):=fun{H1 o} b u z=>by
  by_cases h:b=p
  ·rw[h,Zcr] at z;cases z
  ·rw[ZaE h] at z⊢;rw[Ze h];exact z
 refine⟨fun i m ys σ' H'=>m=n-i∧i≤n∧(∃a,a.length=own∧σ'=a++ix.map fun j=>(σ[j]?).join)∧Zd H H'∧H' p=some (.lst ys)∧Paired (fun i v=>R i v (hid H' p)) ((List.range i).filter c) ys,
  ⟨n,by simp,Nat.zero_le _,⟨List.replicate own none,List.length_replicate,rfl⟩,Zn hp,Zf,.nil⟩,?_⟩
 rintro i m ys σ' H' ⟨rfl,hi,⟨a,ha,rfl⟩,sm,hy,hl⟩
 by_cases hlt:i<n
 ·refine .inr ⟨w.go H' i sm hlt,fun x H2 yl=>?_⟩;have hlen:ys.length≤i:=by
   rw[←Paired.length hl];exact Nat.le_trans (List.length_filter_le _ _) (by simp)
  refine hg i a H' x H2 _ hlt sm (w.yld H' i x H2 sm hlt yl) ha fun H3 s3=>?_;refine hc i H3 _ hlt (sm.trans s3) fun H4 s4=>?_;have sm4:=(sm.trans s3).trans s4;have hy4:=s4 _ _ (s3 _ _ hy);have step:(List.range (i+1)).filter c=(List.range i).filter c++(if c i=true then[i] else[]):=by
   rw[List.range_succ,List.filter_append]
   congr 1
   by_cases h:c i=true<;>simp[h]
  have hl4:Paired (fun i v=>R i v (hid H4 p)) ((List.range i).filter c) ys:=Paired.mapP hl fun _ _ z=>mono _ _ _ _ (hidS (s3.trans s4)) z
  by_cases hci:c i=true
  ·rw[hci,if_pos rfl];refine he p i H4 _ hlt hci hp ⟨ys,hy4⟩ sm4 fun v H5 s5 r5=>⟨s5 _ _ hy4,by omega,n-(i+1),by omega,rfl,hlt,⟨s i,hs i,rfl⟩,(sm4.trans s5).new hp,Zf,?_⟩;rw[step,if_pos hci];exact Paired.snoc (Paired.mapP hl4 fun _ _ z=>mono _ _ _ _ ((hidS s5).trans hidU) z) (mono _ _ _ _ hidU r5)
  ·have hcf:c i=false:=by simpa using hci
   rw[hcf,if_neg Bool.false_ne_true];refine⟨n-(i+1),by omega,rfl,hlt,⟨s i,hs i,rfl⟩,sm4,hy4,?_⟩;rw[step,if_neg hci,List.append_nil];exact hl4
 ·have e:i=n:=by omega
  subst e;exact .inl ⟨w.stop H' sm,q p H' ys hp sm hy hl⟩
theorem Zdp{H:Hp}{p u:Addr}{o:HO}(h:∃ys,H p=some (.lst ys))(hu:H u=none):hid (upd H u o) p u=some o:=by
 have n:u≠p:=fun z=>by
  obtain⟨ys,e⟩:=h;rw[←z,hu] at e;cases e
 rw[ZaE n,Zf]
theorem Zew{H H':Hp}{p u:Addr}{o:HO}(h:∃ys,H p=some (.lst ys))(hu:H u=none)(hu':H' u=some o):hid H' p u=some o:=by
 have n:u≠p:=fun z=>by
  obtain⟨ys,e⟩:=h;rw[←z,hu] at e;cases e
 rw[ZaE n,hu']
theorem ZeV{H H':Hp}{p b:Addr}{xs:List V}(h:∃ys,H p=some (.lst ys))(s:Zd H H')(e:H' b=some (.tup xs)):hid H' p b=some (.tup xs):=by
 have n:b≠p:=fun z=>by
  obtain⟨ys,e'⟩:=h;rw[z,s _ _ e'] at e;cases e
 rw[ZaE n,e]
theorem UJ{R:Nat→V→Hp→Prop}{H:Hp}{r:Nat→V}(h:∀i v,R i v H→v=r i):∀{is:List Nat}{ys:List V},Paired (fun i v=>R i v H) is ys→ys=is.map r
 |_,_,.nil=>rfl
 |_,_,.cons a t=>by rw[h _ _ a,UJ h t];rfl
theorem Vt{J:It}{n:Nat}{y:Nat→Hp→V→Hp→Prop}{H0:Hp}(w:U4 J n y H0){g:TG}{tb:TS}{D:W8}{σ:St}{H:Hp}(Pv:Nat→St→Hp→Prop)(h0:Pv 0 σ H)(hk:∀i σ H,Pv i σ H→Zd H0 H)
  (hs:∀i σ H v H',i<n→Pv i σ H→y i H v H'→g v σ H' fun σ2 H2=>tb {D with nx:=Pv (i+1),ct:=Pv (i+1),bk:=D.nx} σ2 H2) (hd:∀σ H,Pv n σ H→D.nx σ H):
  ∃W:Nat→Nat→St→Hp→Prop,(∃m,W 0 m σ H)∧∀i m σ H,W i m σ H→
   (J.stop i H∧D.nx σ H)∨(J.go i H∧∃N:St→Hp→Prop,(∀σ' H',N σ' H'→∃m',m'<m∧W (i+1) m' σ' H')∧∀x H',J.yld i H x H'→g x σ H' fun σ2 H2=>tb {D with nx:=N,ct:=N,bk:=D.nx} σ2 H2):=by
 refine⟨fun i m σ H=>m=n-i∧i≤n∧Pv i σ H,⟨n,by simp,Nat.zero_le _,h0⟩,?_⟩;rintro i m σ H ⟨rfl,hi,p⟩;have sm:=hk i σ H p
 by_cases hlt:i<n
 ·exact .inr ⟨w.go H i sm hlt,Pv (i+1),fun σ' H' p'=>⟨n-(i+1),by omega,rfl,hlt,p'⟩,fun x H' yl=>hs i σ H x H' hlt p (w.yld H i x H' sm hlt yl)⟩
 ·have e:i=n:=by omega
  subst e;exact .inl ⟨w.stop H sm,hd σ H p⟩
namespace Rd
section
variable {σ:St}{H:Hp}{Q:VK}{D:W8}{K:PySem.W.Frag}
theorem Zlc{n:Nat}{ix:List Nat}{wi:TI}{g:TG}{tc:TT}{te:TE}(h:wi σ H fun J H1=>∀p,H1 p=none→
 ∃W:Nat→Nat→List V→St→Hp→Prop,(∃m,W 0 m [] (Zbk n ix σ) (upd H1 p (.lst [])))∧∀i m ys σ' H',W i m ys σ' H'→
  (J.stop i H'∧Q (.ref p) H')∨(J.go i H'∧∀x H2,J.yld i H' x H2→g x σ' H2 fun σ2 H3=>tc σ2 H3 fun b H4=>
   if b=true then te σ2 H4 fun v H5=>H5 p=some (.lst ys)∧ys.length<sizeLine∧∃m',m'<m∧W (i+1) m' (ys++ [v]) σ2 (upd H5 p (.lst (ys++ [v])))
   else ∃m',m'<m∧W (i+1) m' ys σ2 H4)):Zeh n ix wi g tc te σ H Q:=h
theorem ZlR{ts:TA}{R:It→Hp→Prop}(h:ts σ H fun vs H1=>∃a,vs=[.ref a]∧(∃xs,SqL K H1 a xs)∧R (Ite K a) H1):Zjp K ts σ H R:=h
theorem Zky{a:Addr}{xs:List V}{G:Addr→Prop}(h:SqL K H a xs)(q:G a):∃a',[V.ref a]=[.ref a']∧(∃xs,SqL K H a' xs)∧G a':=⟨a,rfl,⟨xs,h⟩,q⟩
theorem Zmo(h:∀p,H p=none→Q (.ref p) (upd H p (.dK []))):tDNewK σ H Q:=h
theorem Zl4{a:Addr}{kvs:List (Key×V)}{x:Str}(h:H a=some (.dK kvs))(q:Q (.bl (valV kvs (Sum.inr x)).isSome) H):rDIn (.str x) (.ref a) H Q:=⟨a,_,rfl,UD.k (k:=Sum.inr x) h,q⟩
theorem ZlM{a:Addr}{kvs:List (Key×V)}{x:Int}(h:H a=some (.dK kvs))(q:Q (.bl (!(valV kvs (Sum.inl x)).isSome)) H):rDNotIn (.int x) (.ref a) H Q:=⟨a,_,rfl,UD.k (k:=Sum.inl x) h,q⟩
theorem Zlw{a:Addr}{kvs:List (Key×V)}{x:Int}{v:V}(h:H a=some (.dK kvs))(e:valV kvs (Sum.inl x)=some v)(q:Q v H):rIxD (.ref a) (.int x) H Q:=⟨a,v,rfl,by rw[←e];exact UD.k (k:=Sum.inl x) h,q⟩
theorem ZlQ{a:Addr}{kvs:List (Key×V)}{x:Str}{v:V}{Q:Hp→Prop}(h:H a=some (.dK kvs))(hl:kvs.length<sizeLine)(q:Q (upd H a (.dK (Z4 kvs (Sum.inr x) v)))):rSetD (.ref a) (.str x) v H Q:=⟨a,_,rfl,Zdt.k (k:=Sum.inr x) h hl,q⟩
theorem ZlF{a:Addr}{kvs:List (Key×V)}{x:Int}{v:V}{Q:Hp→Prop}(h:H a=some (.dK kvs))(hl:kvs.length<sizeLine)(q:Q (upd H a (.dK (Z4 kvs (Sum.inl x) v)))):rSetD (.ref a) (.int x) v H Q:=⟨a,_,rfl,Zdt.k (k:=Sum.inl x) h hl,q⟩
theorem Zl1{a:Addr}{kvs:List (Key×V)}(h:H a=some (.dK kvs))(q:Q (.int kvs.length) H):rLenD [.ref a] H Q:=⟨a,kvs,rfl,h,q⟩
theorem ZlB{a:Addr}{kvs:List (Key×V)}(h:H a=some (.dK kvs))(q:∀l,H l=none→Q (.ref l) (upd H l (.lst (kvs.map fun kv=>kV kv.1)))):rListD [.ref a] H Q:=⟨a,kvs,rfl,h,q⟩
theorem ZmE{to ti te:TE}{tget:V→V→Hp→VK→Prop}{tip:TIp}{tset:Zcw}(h:to σ H fun o H1=>ti σ H1 fun i H2=>tget o i H2 fun x H3=>te σ H3 fun y H4=>tip x y H4 fun z H5=>tset o i z H5 fun H6=>D.nx σ H6):Zjm to ti te tget tip tset D σ H:=h
theorem ipi{f:Int→Int→Int}{i j:Int}(q:Q (.int (f i j)) H):ipI f (.int i) (.int j) H Q:=⟨i,j,rfl,rfl,q⟩
end
end Rd
section
variable {X:Cx}
theorem ZiB:Zie X (Zdr X.K):=by
 intro pins s σ H o i ov iv Q I ro ri h;obtain⟨p,xs,k,z,rfl,rfl,hq,he,q⟩:=h;cases ro;obtain⟨t,rfl⟩:=ri;obtain⟨its,r,pl,hz⟩:=I.list hq;obtain⟨j,h1,h2,h3,h4,h5⟩:=ZbT he;obtain⟨w,ew,rw'⟩:=r.get h2;have hl:=r.length;have hn:=Uq;have fin:EP X pins σ Q w s:=⟨z,H,I,rw',q⟩
 by_cases h0:0≤k
 ·have hj:k.toNat=j:=by
   rw[seqIndex_of h0 h5] at h1;exact Option.some.inj h1
  exact wpAny_getItem_list pl.isList h0 (by omega) (by rw[hj];simpa using ew) fin
 ·have hj:(k+(its.toArray.size:Int)).toNat=j:=by
   rw[seqIndex_neg (by omega) h4] at h1;rw[List.size_toArray,←hl];exact Option.some.inj h1
  exact wpAny_getItem_list_neg pl.isList (by omega) (by rw[List.size_toArray]<;>omega) (by omega) (by rw[hj];simpa using ew) fin
theorem ZbI{K:PySem.W.Frag}(e:X.K=K):Zie X (Zdr K):=e▸ZiB
end
end L2
namespace L2
open PySem PySem.Spec PyProof.Rows
section
variable {X:Cx}{K:PySem.W.Frag}
end
namespace Rd
section
variable {σ:St}{H:Hp}{Q:VK}{K:PySem.W.Frag}
theorem rep{r:R2}{l:Addr}{k:Int}{xs:List V}(h:H l=some (.lst xs))(h0:0≤k)(h1:k<1000)(hz:xs.length*k.toNat≤sizeLine)(q:∀p,H p=none→Q (.ref p) (upd H p (.lst (List.replicate k.toNat xs).flatten))):rOr r rRep (.ref l) (.int k) H Q:=
 .inr ⟨l,k,xs,rfl,rfl,h,by omega,by omega,hz,q⟩
end
end Rd
end L2
namespace L2
open PySem PySem.Spec PyProof.Rows
section
variable {X:Cx}
noncomputable def rUpdD:V→List V→Hp→VK→Prop:=fun x vs H Q=>∃a b kvs more,x= .ref a∧vs=[.ref b]∧a≠b∧H a=some (.dK kvs)∧H b=some (.dK more)∧kvs.length+more.length≤sizeLine∧Q .non (upd H a (.dK (Yj kvs more)))
theorem ZjS:MtR X "dict.update" rUpdD:=by
 intro pins s σ H x xs v us Q I rx rs h;obtain⟨a,b,kvs,more,rfl,rfl,ne,ha,hb,hl,q⟩:=h;cases rx;obtain⟨u,rfl,ru⟩:=WJ rs;cases ru;obtain⟨z,hd,vs,rel,dd⟩:=Zag I.hok ha;obtain⟨z2,hd2,rs2,rel2,dd2⟩:=Zag I.hok hb;refine call_meetsIn PySem.F.slot_dict_update dd.typeIs PySem.F.entry_dict_update (PySem.F.args_dict_update_2 _ _) (meets_dict_update (ZO X.prog X.w) a b ne hd2) ⟨vs,rs2,dd,dd2,by rw[←rel.length,←rel2.length];exact hl,fun h' dd' _ hs=>?_⟩;have hm:=Vi more kvs;have he:∃q,h'.get? a=some q:=let⟨q,_,_,hq,_⟩:=dd';⟨q,hq⟩
 exact⟨.non,_,Zat (t':=s.toks) I (by rw[ha];exact True.intro) hs he (Zc5 (by omega) hd (rel2.merge rel) dd'),rfl,q⟩
end
end L2
namespace L2
open PySem PySem.Spec PyProof.Rows
section
variable {X:Cx}
end
theorem ZgE{own:Nat}{ix:List Nat}{g:TG}{tc:TT}{Q:Addr→Hp→Prop}{σ:St}{H:Hp}{J:It}{n:Nat}{y:Nat→Hp→V→Hp→Prop}(w:U4 J n y H)(hn:n<sizeLine)(s:Nat→List (Option V))(hs:∀i,(s i).length=own)
  (hg:∀i a H' v H2 (Kg:St→Hp→Prop),i<n→Zd H H'→y i H' v H2→a.length=own→(∀H3,Zd H' H3→Kg (s i++ix.map fun j=>(σ[j]?).join) H3)→g v (a++ix.map fun j=>(σ[j]?).join) H2 Kg)
  (hc:∀i H' (Kc:Bool→Hp→Prop),i<n→Zd H H'→Kc true H'→tc (s i++ix.map fun j=>(σ[j]?).join) H' Kc)
  (q:∀p H' (ia:List Addr),H p=none→Zd H H'→H' p=some (.lst (ia.map V.ref))→ia.length=n→ia.Nodup→(∀x∈ia,H x=none∧x≠p∧H' x=some (.lst []))→Q p H'):
  ∀p,H p=none→∃W:Nat→Nat→List V→St→Hp→Prop,(∃m,W 0 m [] (Zbk own ix σ) (upd H p (.lst [])))∧∀i m ys σ' H',W i m ys σ' H'→
   (J.stop i H'∧Q p H')∨(J.go i H'∧∀x H2,J.yld i H' x H2→g x σ' H2 fun σ2 H3=>tc σ2 H3 fun b H4=>
    if b=true then Zip tNil σ2 H4 fun v H5=>H5 p=some (.lst ys)∧ys.length<sizeLine∧∃m',m'<m∧W (i+1) m' (ys++ [v]) σ2 (upd H5 p (.lst (ys++ [v])))
    else ∃m',m'<m∧W (i+1) m' ys σ2 H4):=by
 intro p hp;refine⟨fun i m ys σ' H'=>m=n-i∧i≤n∧(∃a,a.length=own∧σ'=a++ix.map fun j=>(σ[j]?).join)∧Zd H H'∧∃ia:List Addr,ys=ia.map V.ref∧H' p=some (.lst (ia.map V.ref))∧ia.length=i∧ia.Nodup∧∀x∈ia,H x=none∧x≠p∧H' x=some (.lst []),
  ⟨n,by simp,Nat.zero_le _,⟨List.replicate own none,List.length_replicate,rfl⟩,Zn hp,[],rfl,Zf,rfl,.nil,by simp⟩,?_⟩
 rintro i m ys σ' H' ⟨rfl,hi,⟨a,ha,rfl⟩,sm,ia,rfl,hy,hil,hnd,hia⟩
 by_cases hlt:i<n
 ·refine .inr ⟨w.go H' i sm hlt,fun x H2 yl=>?_⟩;refine hg i a H' x H2 _ hlt sm (w.yld H' i x H2 sm hlt yl) ha fun H3 s3=>?_;refine hc i H3 _ hlt (sm.trans s3) ?_;rw[if_pos rfl];show(0:Nat)≤sizeLine∧_;refine⟨Nat.zero_le _,fun u hu=>?_⟩;have sm3:=sm.trans s3;have hy3:=s3 _ _ hy;have nup:u≠p:=fun z=>by rw[z,hy3] at hu;cases hu
  have s4:Zd H3 (upd H3 u (.lst [])):=Zn hu;refine⟨s4 _ _ hy3,by rw[List.length_map];omega,n-(i+1),by omega,rfl,hlt,⟨s i,hs i,rfl⟩,(sm3.trans s4).new hp,ia++ [u],by simp,by rw[Zf];simp,by simp[hil],?_,fun x hx=>?_⟩
  ·refine List.nodup_append.mpr ⟨hnd,by simp,fun x hx z hz=>?_⟩;rw[List.mem_singleton.mp hz];intro e;have:=s3 _ _ (hia x hx).2.2;rw[e,hu] at this;cases this
  ·rcases List.mem_append.mp hx with z|z
   ·obtain⟨h1,h2,h3⟩:=hia x z;exact⟨h1,h2,by rw[Ze h2];exact s4 _ _ (s3 _ _ h3)⟩
   ·rw[List.mem_singleton.mp z];refine⟨?_,nup,by rw[Ze nup,Zf]⟩;cases e:H u with
    |none=>rfl
    |some o=>rw[sm3 _ _ e] at hu;cases hu
 ·have e:i=n:=by omega
  subst e;exact .inl ⟨w.stop H' sm,q p H' ia hp sm hy hil hnd hia⟩
namespace Rd
section
variable {H:Hp}{Q:VK}
theorem Zmd{a b:Addr}{kvs more:List (Key×V)}(ne:a≠b)(ha:H a=some (.dK kvs))(hb:H b=some (.dK more))(hl:kvs.length+more.length≤sizeLine)(q:Q .non (upd H a (.dK (Yj kvs more)))):rUpdD (.ref a) [.ref b] H Q:=⟨a,b,kvs,more,rfl,rfl,ne,ha,hb,hl,q⟩
end
end Rd
end L2
namespace L2
open PySem PySem.Spec PyProof.Rows
section
variable {X:Cx}{pins:List (Addr×Obj)}{σ:St}{H:Hp}{s:Shared}
theorem Inv.freeze{a:Addr}{kvs:List (Key×V)}(I:Inv X pins σ H s)(e:Rd H a (.dK kvs)):∃o,s.heap.get? a=some o∧Inv X pins σ (upd H a (.frz o (.dK kvs))) s:=by
 have ok:ZU X.prog X.w H s.heap a (.dK kvs):=e.ok I.hok;rcases e with e|⟨o,e⟩
 ·obtain⟨_,_,vs,_,dd⟩:=Zag I.hok e;obtain⟨ep,hat⟩:=dd.dictAt;obtain⟨o,es,ho,_⟩:=id hat;exact⟨o,ho,I.write (x:=a) (e:=a) (o:= .frz o (.dK kvs)) (t':=s.toks) (by rw[e];exact True.intro) (.inl rfl) (fun b u _ q=>q) ⟨o,ho⟩ ⟨ho,ok⟩⟩
 ·have hx:upd H a (.frz o (.dK kvs))=H:=by
   funext b
   by_cases z:b=a
   ·rw[z,Zf,e]
   ·rw[Ze z]
  exact⟨o,(show ZU X.prog X.w H s.heap a (.frz o (.dK kvs)) from I.hok a _ e).1,by rw[hx];exact I⟩
theorem KV.fwd{kvs:List (Key×V)}{vs:List (Key×Value)}(r:KV kvs vs):∀{j:Nat}{kv:Key×V},kvs[j]? =some kv→∃u,vs[j]? =some (kv.1,u)∧Zu kv.2 u:=by
 unfold KV at r
 induction r with
 |nil=>intro j kv e;simp at e
 | @cons p q ps qs h t ih=>
  intro j kv e;cases j with
  |zero=>
   simp at e;subst e;obtain⟨q1,q2⟩:=q;exact⟨q2,by simp[h.1],h.2⟩
  |succ j=>
   obtain⟨u,h1,h2⟩:=ih (j:=j) (kv:=kv) (by simpa using e);exact⟨u,by simpa using h1,h2⟩
end
noncomputable def Itv (d:Addr) (o:Obj) (kvs:List (Key×V)):It:=
 ⟨fun i H=>H d=some (.frz o (.dK kvs))∧i<kvs.length,fun i H x H'=>H'=H∧∃kv,kvs[i]? =some kv∧x=kv.2,fun i H=>H d=some (.frz o (.dK kvs))∧kvs.length≤i⟩
noncomputable def Itp (d:Addr) (o:Obj) (kvs:List (Key×V)):It:=
 ⟨fun i H=>H d=some (.frz o (.dK kvs))∧i<kvs.length,fun i H x H'=>∃t kv,kvs[i]? =some kv∧H t=none∧x= .ref t∧H'=upd H t (.tup [kV kv.1,kv.2]),fun i H=>H d=some (.frz o (.dK kvs))∧kvs.length≤i⟩
theorem Zdf:entryFor table "dict_itemiterator.__iter__" =some Builtin.«dict_keyiterator.__iter__»:=entryFor_alias (id':="dict_keyiterator.__iter__") (by kernel_rfl) rfl (by decide+kernel) (by kernel_rfl)
theorem Zd9{P:Program}{w:World}{A:Around}{E:Value→Shared→Prop}{s:Shared}{it d:Addr}{i n ep:Nat}{ok ov:Value}{Q:Value→Shared→Prop}(hit:IsItemIter s.heap it d i n ep ok ov)(h:Q (.ref it) s):wpAny (model P w) A (pyIter (.ref it)) Q E s:=by
 have ty:s.TypeIs (.ref it) "dict_itemiterator" :=⟨_,hit,rfl⟩;refine wpAny_pyIter_slot ty PySem.F.slot_dict_itemiterator_iter (wpAny_call_entry PySem.F.slot_dict_itemiterator_iter ty Zdf (show wpAny _ _ (ret (Value.ref it)) _ _ s from wpAny_pure ⟨_,rfl,"dict_itemiterator",_,ty,PySem.F.slot_dict_itemiterator_next.lookup,h⟩) (PySem.F.args_dict_itemiterator_iter_1 _))
section
variable {P:Program}{w:World}{K:PySem.W.Frag}
theorem Zic{tg:Expr}(d it:Addr)(o:Obj)(kvs:List (Key×V))(vs:List (Key×Value))(ep:Nat)(rel:KV kvs vs)(hd:∀h:Heap,h.get? d=some o→h.DictAt (ZO P w) d vs ep):Zao P w K tg (Itv d o kvs) [it] it (fun i h=>h.IsValIter it d i vs.length ep) where
 mem:=by simp
 obj:=fun i h st b hb=>by
  have e:b=it:=by simpa using hb
  subst e;obtain⟨o,e,c,dd⟩:=st;exact⟨o,e,fun v z=>by rw[dd] at z;cases z⟩
 keep:=fun i h h' st k=>st.at fun o q=>k it (by simp) o q
 item:=by
  intro X hP hw hK hc i pins s σ H E I hf st hg;subst hP hw hK;obtain⟨he,hi⟩:=hg;have ho:=(show ZU X.prog X.w H s.heap d (.frz o (.dK kvs)) from I.hok d _ he).1;obtain⟨f0,f1,f2,f3,f4,f5⟩:=hf it (by simp);obtain⟨u,hu,ru⟩:=rel.fwd (List.getElem?_eq_getElem hi);refine wpAny_pyNext_values_item st (hd _ ho) hu fun h' st' sb=>?_;have I1:Inv X pins σ H {s with heap:=h',toks:=s.toks}:=I.turned (t':=s.toks) (fun b q hb e=>(sb.2 b hb).trans e) f0 f1 f3 f4 f5;obtain⟨q,e,c,dd⟩:=id st';exact⟨_,rfl,ZcH (s:={s with heap:=h',toks:=s.toks}) e c dd (by decide) ⟨_,H,I1,ru,⟨rfl,kvs[i],List.getElem?_eq_getElem hi,rfl⟩,st',fun b hb=>(hf b hb).1⟩⟩
 done:=by
  intro X hP hw hK hc i pins s σ H E I hf st hg;subst hP hw hK;obtain⟨he,hi⟩:=hg;have ho:=(show ZU X.prog X.w H s.heap d (.frz o (.dK kvs)) from I.hok d _ he).1;obtain⟨f0,f1,f2,f3,f4,f5⟩:=hf it (by simp);exact wpAny_pyNext_values_end (I.ok.hd hc) st (hd _ ho) (List.getElem?_eq_none (by rw[←rel.length];exact hi)) fun h' eb=>⟨rfl,I.turned (t':=s.toks) (fun b q hb e=>eb b q hb e) f0 f1 f3 f4 f5⟩
 self:=fun _ _ _ _ _ st h=>wpAny_pyIter_valiter st h
theorem ZgG{elts:List Expr}{k1:Nat}{pos:Pos}(d it:Addr)(o:Obj)(kvs:List (Key×V))(vs:List (Key×Value))(ep:Nat)(rel:KV kvs vs)(hd:∀h:Heap,h.get? d=some o→h.DictAt (ZO P w) d vs ep):
  Zao P w K (.Tuple elts k1 pos) (Itp d o kvs) [it] it (fun i h=>∃ok ov,IsItemIter h it d i vs.length ep ok ov) where
 mem:=by simp
 obj:=fun i h st b hb=>by
  obtain⟨ok,ov,e⟩:=st;rw[List.mem_singleton.mp hb];exact⟨_,e,fun v z=>by
   have z':Data.fields _=Data.cell v:=z;cases z'⟩
 keep:=fun i h h' st k=>let⟨ok,ov,e⟩:=st;⟨ok,ov,k it (by simp) _ e⟩
 item:=by
  intro X hP hw hK hc i pins s σ H E I hf st hg;subst hP hw hK;obtain⟨he,hi⟩:=hg;obtain⟨ok,ov,hit⟩:=st;have ho:=(show ZU X.prog X.w H s.heap d (.frz o (.dK kvs)) from I.hok d _ he).1;obtain⟨u,hu,ru⟩:=rel.fwd (List.getElem?_eq_getElem hi);refine wpAny_pyNext_items_item hit (hd _ ho) hu fun key h' hkey hout hT hsz hk=>?_;have hfr:=I.hok.fresh (Nat.le_refl s.heap.objs.size);have hilt:it<s.heap.objs.size:=Heap.lt_size hit;refine⟨_,rfl,wpAny_letOwnedTupleGo_items hout fun h2 he2 hs2=>?_⟩;have hT2:h2.get? s.heap.objs.size=some {cls:= .type "tuple",data:= .seq #[key,u]}:=hs2.extBut _ _ (Nat.ne_of_gt hilt) hT;have I1:Inv X pins σ (upd H s.heap.objs.size (.tup [kV kvs[i].1,kvs[i].2])) {s with heap:=h2,toks:=s.toks}:=
   I.turnedNew (fp:=[it]) (fun b q hb e=>by
    have n1:b≠it:=fun z=>hb (by simp[z]);exact hs2.extBut b q n1 (hk b q n1 e)) hf (Nat.le_refl _) ⟨by show 2≤sizeLine;decide,[key,u],.cons (Zjy hkey) (.cons ru .nil),_,hT2,rfl,_,rfl⟩
  refine⟨.ref s.heap.objs.size,_,I1,rfl,⟨_,kvs[i],List.getElem?_eq_getElem hi,hfr,rfl,rfl⟩,⟨_,_,he2⟩,fun b hb=>?_⟩;have nb:b≠s.heap.objs.size:=by rw[List.mem_singleton.mp hb];exact Nat.ne_of_lt hilt
  rw[Ze nb];exact(hf b hb).1
 done:=by
  intro X hP hw hK hc i pins s σ H E I hf st hg;subst hP hw hK;obtain⟨he,hi⟩:=hg;obtain⟨ok,ov,hit⟩:=st;have ho:=(show ZU X.prog X.w H s.heap d (.frz o (.dK kvs)) from I.hok d _ he).1;obtain⟨f0,f1,f2,f3,f4,f5⟩:=hf it (by simp);exact wpAny_pyNext_items_end (I.ok.hd hc) hit (hd _ ho) (List.getElem?_eq_none (by rw[←rel.length];exact hi)) fun h' eb=>⟨rfl,I.turned (t':=s.toks) (fun b q hb e=>eb b q hb e) f0 f1 f3 f4 f5⟩
 self:=fun _ _ _ _ _ st h=>by
  obtain⟨ok,ov,e⟩:=st;exact Zd9 e h
end
section
variable {X:Cx}{tg:Expr}
noncomputable def Zjf (td:TE):TI:=fun σ H R=>td σ H fun x H1=>∃a kvs,x= .ref a∧Rd H1 a (.dK kvs)∧∀o,R (Itv a o kvs) (upd H1 a (.frz o (.dK kvs)))
noncomputable def Zhe (td:TE):TI:=fun σ H R=>td σ H fun x H1=>∃a kvs,x= .ref a∧Rd H1 a (.dK kvs)∧∀o,R (Itp a o kvs) (upd H1 a (.frz o (.dK kvs)))
theorem ZjJ{d:Expr}{td:TE}{apos cpos:Pos}(hd:PE X d td)(hbase:attributeBase d "values" X.env (eval d X.env)=eval d X.env:=by rfl)(hline:(apos.endLine==cpos.line)=true:=by rfl):
  PI X tg (.Call (.Attribute d "values" apos) [] [] cpos) (Zjf td):=by
 intro pins s σ H R I h;refine wpAny_Call_method0_late hbase hline (thn (hd pins s σ H _ I h) fun v s1 ⟨x,H1,I1,r1,q1⟩=>?_);obtain⟨a,kvs,rfl,hr,q⟩:=q1;cases r1;obtain⟨z,hsm,vs,rel,dd⟩:=Zal I1.hok hr;obtain⟨ep,hat⟩:=dd.dictAt;obtain⟨o,ho,I2⟩:=I1.freeze hr;have keepd:∀h:Heap,h.get? a=some o→h.DictAt (ZO X.prog X.w) a vs ep:=fun h e=>hat.at' fun o' e'=>by rw[ho] at e';cases e';exact e
 refine⟨"dict","dict.values",PySem.F.plainAttrs_dict,PySem.F.slot_dict_values,PySem.F.type_dict_values,dd.typeIs,dd.mapOf.noDict,Calls.callWith_builtin rfl (PySem.evalArgs_none ?_)⟩;refine call_meetsIn PySem.F.slot_dict_values dd.typeIs PySem.F.entry_dict_values (PySem.F.args_dict_values_1 _) (meets_dict_values (ZO X.prog X.w) a hsm) ⟨⟨vs,dd⟩,?_⟩;refine wpAny_pyIter_values (knd:=ZO X.prog X.w) (d:=a) (kvs:=vs) (ep:=ep) ⟨_,Heap.get?_push_size _ rfl,rfl,rfl⟩ (keepd _ (Heap.get?_push_of_some _ ho)) ?_;have I3:Inv X pins σ (upd H1 a (.frz o (.dK kvs))) {s1 with heap:=s1.heap.push {cls:= .type "dict_values",data:= .fields #[.ref a]}}:=I2.kept (t':=s1.toks) fun b o e=>Heap.get?_push_of_some _ e;refine⟨(s1.heap.push {cls:= .type "dict_values",data:= .fields #[.ref a]}).objs.size,[(s1.heap.push {cls:= .type "dict_values",data:= .fields #[.ref a]}).objs.size],_,_,_,rfl,I3.kept (t':=s1.toks) fun b o e=>Heap.get?_push_of_some _ e,Zic a _ o kvs vs ep rel keepd,⟨_,Heap.get?_push_size _ rfl,rfl,rfl⟩,fun b hb=>?_,q o⟩;rw[List.mem_singleton.mp hb];exact I3.fpOk (Nat.le_refl _) (I3.hok.fresh (Nat.le_refl _))
theorem ZeM{elts:List Expr}{k1:Nat}{tpos:Pos}{d:Expr}{td:TE}{apos cpos:Pos}(hd:PE X d td)(hbase:attributeBase d "items" X.env (eval d X.env)=eval d X.env:=by rfl)(hline:(apos.endLine==cpos.line)=true:=by rfl):
  PI X (.Tuple elts k1 tpos) (.Call (.Attribute d "items" apos) [] [] cpos) (Zhe td):=by
 intro pins s σ H R I h;refine wpAny_Call_method0_late hbase hline (thn (hd pins s σ H _ I h) fun v s1 ⟨x,H1,I1,r1,q1⟩=>?_);obtain⟨a,kvs,rfl,hr,q⟩:=q1;cases r1;obtain⟨z,hsm,vs,rel,dd⟩:=Zal I1.hok hr;obtain⟨ep,hat⟩:=dd.dictAt;obtain⟨o,ho,I2⟩:=I1.freeze hr;have keepd:∀h:Heap,h.get? a=some o→h.DictAt (ZO X.prog X.w) a vs ep:=fun h e=>hat.at' fun o' e'=>by rw[ho] at e';cases e';exact e
 refine⟨"dict","dict.items",PySem.F.plainAttrs_dict,PySem.F.slot_dict_items,PySem.F.type_dict_items,dd.typeIs,dd.mapOf.noDict,Calls.callWith_builtin rfl (PySem.evalArgs_none ?_)⟩;refine call_meetsIn PySem.F.slot_dict_items dd.typeIs PySem.F.entry_dict_items (PySem.F.args_dict_items_1 _) (meets_dict_items (ZO X.prog X.w) a hsm) ⟨⟨vs,dd⟩,?_⟩;refine wpAny_pyIter_items (knd:=ZO X.prog X.w) (d:=a) (kvs:=vs) (ep:=ep) ⟨_,Heap.get?_push_size _ rfl,rfl,rfl⟩ (keepd _ (Heap.get?_push_of_some _ ho)) ?_;have I3:Inv X pins σ (upd H1 a (.frz o (.dK kvs))) {s1 with heap:=s1.heap.push {cls:= .type "dict_items",data:= .fields #[.ref a]}}:=I2.kept (t':=s1.toks) fun b o e=>Heap.get?_push_of_some _ e;refine⟨(s1.heap.push {cls:= .type "dict_items",data:= .fields #[.ref a]}).objs.size,[(s1.heap.push {cls:= .type "dict_items",data:= .fields #[.ref a]}).objs.size],_,_,_,rfl,I3.kept (t':=s1.toks) fun b o e=>Heap.get?_push_of_some _ e,ZgG a _ o kvs vs ep rel keepd,⟨_,_,Heap.get?_push_size _ rfl⟩,fun b hb=>?_,q o⟩;rw[List.mem_singleton.mp hb];exact I3.fpOk (Nat.le_refl _) (I3.hok.fresh (Nat.le_refl _))
end
namespace Rd
section
variable {σ:St}{H:Hp}{Q:VK}
theorem Zlo{td:TE}{R:It→Hp→Prop}(h:td σ H fun x H1=>∃a kvs,x= .ref a∧L2.Rd H1 a (.dK kvs)∧∀o,R (Itv a o kvs) (upd H1 a (.frz o (.dK kvs)))):Zjf td σ H R:=h
theorem Zh8{td:TE}{R:It→Hp→Prop}(h:td σ H fun x H1=>∃a kvs,x= .ref a∧L2.Rd H1 a (.dK kvs)∧∀o,R (Itp a o kvs) (upd H1 a (.frz o (.dK kvs)))):Zhe td σ H R:=h
theorem Zjc{a:Addr}{kvs:List (Key×V)}{x:Int}{v:V}(h:L2.Rd H a (.dK kvs))(e:valV kvs (Sum.inl x)=some v)(q:Q v H):rIxD (.ref a) (.int x) H Q:=⟨a,v,rfl,.inl ⟨kvs,Sum.inl x,h,rfl,e.symm⟩,q⟩
theorem Zmn{a:Addr}{kvs:List (Key×V)}{x:Int}(h:L2.Rd H a (.dK kvs))(q:Q (.bl (valV kvs (Sum.inl x)).isSome) H):rDIn (.int x) (.ref a) H Q:=⟨a,_,rfl,.inl ⟨kvs,Sum.inl x,h,rfl,rfl⟩,q⟩
end
end Rd
theorem Zg2{d:Addr}{o:Obj}{kvs:List (Key×V)}{H:Hp}(h:H d=some (.frz o (.dK kvs))):U4 (Itv d o kvs) kvs.length (fun i H' v H2=>H2=H'∧∃kv,kvs[i]? =some kv∧v=kv.2) H:=
 ⟨fun H' i s hi=>⟨s _ _ h,hi⟩,fun _ _ _ _ _ _ y=>y,fun H' s=>⟨s _ _ h,Nat.le_refl _⟩⟩
theorem Zb4{d:Addr}{o:Obj}{kvs:List (Key×V)}{H:Hp}(h:H d=some (.frz o (.dK kvs))):U4 (Itp d o kvs) kvs.length (fun i H' v H2=>∃t kv,kvs[i]? =some kv∧H' t=none∧v= .ref t∧H2=upd H' t (.tup [kV kv.1,kv.2])) H:=
 ⟨fun H' i s hi=>⟨s _ _ h,hi⟩,fun _ _ _ _ _ _ y=>y,fun H' s=>⟨s _ _ h,Nat.le_refl _⟩⟩
end L2
namespace L2
open PySem PySem.Spec PyProof.Rows
noncomputable def Itw (K:PySem.W.Frag) (a:Addr) (n:Nat):It:=
 ⟨fun i H=>∃xs x,SqL K H a xs∧i<n∧xs[n-1-i]? =some x,fun i H x H'=>H'=H∧∀xs,SqL K H a xs→xs[n-1-i]? =some x,fun i _=>i=n⟩
theorem ZiH{P:Program}{w:World}{K:PySem.W.Frag}{tg:Expr}(a it:Addr)(n:Nat):Zao P w K tg (Itw K a n) [it] it (fun i h=>h.IsRevIter it a ((n:Int)-1-i)) where
 mem:=by simp
 obj:=fun i h st b hb=>by
  have e:b=it:=by simpa using hb
  subst e;obtain⟨o,e,c,d⟩:=st;exact⟨o,e,fun v z=>by rw[d] at z;cases z⟩
 keep:=fun i h h' st k=>st.at fun o e=>k it (by simp) o e
 item:=by
  intro X hP hw hK hc i pins s σ H E I hf st hg;subst hP hw hK;obtain⟨xs,x,hq,hin,hx⟩:=hg;obtain⟨its,rv,p,hz⟩:=I.list hq;obtain⟨u,hu,ru⟩:=rv.get hx;obtain⟨f0,f1,f2,f3,f4,f5⟩:=hf it (by simp);have ei:(n:Int)-1-(i:Int)=((n-1-i:Nat):Int):=by omega
  rw[ei] at st;refine wpAny_pyNext_rev_item st p.isList (x:=u) (by simpa using hu) fun h' st' sb=>?_;have I1:Inv X pins σ H {s with heap:=h'}:=I.turned (t':=s.toks) (fun b o hb e=>(sb.2 b hb).trans e) f0 f1 f3 f4 f5;have ej:((n-1-i:Nat):Int)-1=(n:Int)-1-((i+1:Nat):Int):=by omega
  rw[ej] at st';obtain⟨o,e,c,d⟩:=id st';exact⟨u,rfl,ZcH (s:={s with heap:=h'}) e c d (by decide) ⟨x,H,I1,ru,⟨rfl,fun ys hy=>by rw[I.list_inj hy hq];exact hx⟩,st',fun b hb=>(hf b hb).1⟩⟩
 done:=by
  intro X hP hw hK hc i pins s σ H E I hf st hg;subst hP hw hK;obtain⟨f0,f1,f2,f3,f4,f5⟩:=hf it (by simp);have hg':i=n:=hg;have ei:(n:Int)-1-(i:Int)= -1:=by omega
  rw[ei] at st;exact wpAny_pyNext_rev_end (I.ok.hd hc) st fun h' eb=>⟨rfl,I.turned (t':=s.toks) (fun b o hb e=>eb b o hb e) f0 f1 f3 f4 f5⟩
 self:=fun _ _ _ _ _ st h=>wpAny_pyIter_revIter st h
section
variable {X:Cx}
noncomputable def ZkF (K:PySem.W.Frag) (ta:TA):TI:=fun σ H R=>ta σ H fun vs H1=>∃a xs,vs=[.ref a]∧SqL K H1 a xs∧R (Itw K a xs.length) H1
theorem Zkm{K:PySem.W.Frag}{a tg:Expr}{ta:TA}{p pos:Pos}(ek:X.K=K)(hg:Gl X "reversed")(hm:X.mg "reversed" =none)(ha:PA X [a] ta)(hs:starEach [a] X.env=[(false,eval a X.env)]:=by rfl):
  PI X tg (.Call (.Name "reversed" p) [a] [] pos) (ZkF K ta):=by
 subst ek;intro pins s σ H R I h;refine Call_ (Uv I hg hm boot_reversed (PyProof.Rows.callWith_type1 (thn (ha pos pins s σ H _ I h) fun us s1 ⟨vs,H1,I1,r1,q1⟩=>?_) hs rfl));obtain⟨b,xs,rfl,hq,q⟩:=q1;obtain⟨u,rfl,ru⟩:=WJ r1;cases ru;obtain⟨its,rv,pl,hz⟩:=I1.list hq;have hl:=rv.length;refine call_reversed_list pl.isList ?_;have hit:(s1.heap.push (revObj b (((its.toArray.size:Nat):Int)-1))).IsRevIter s1.heap.objs.size b ((xs.length:Int)-1-((0:Nat):Int)):=by
  refine⟨_,Heap.get?_push_size _ rfl,rfl,?_⟩;show Data.fields #[Value.ref b,rawInt (((its.toArray.size:Nat):Int)-1)]=_;rw[List.size_toArray,←hl];simp
 refine wpAny_pyIter_revIter hit ?_;refine⟨s1.heap.objs.size,[s1.heap.objs.size],_,_,H1,rfl,I1.kept (t':=s1.toks) fun b o e=>Heap.get?_push_of_some _ e,ZiH b _ xs.length,hit,fun c hc=>?_,q⟩;have e:c=s1.heap.objs.size:=by simpa using hc
 subst e;exact I1.fpOk (Nat.le_refl _) (I1.hok.fresh (Nat.le_refl _))
end
theorem Zhr{K:PySem.W.Frag}{a:Addr}{xs:List V}{H:Hp}(h:SqL K H a xs):Walks (Itw K a xs.length) xs.length (fun i=>xs.reverse.getD i .non) H:=
 ⟨fun H' i e hi=>⟨xs,xs[xs.length-1-i],e.seq h,hi,by simp⟩,fun H' i x H2 e hi y=>⟨y.1,by
  have:=y.2 xs (e.seq h);rw[List.getD,List.getElem?_reverse hi,this]
  rfl⟩,fun H' e=>rfl⟩
namespace Rd
theorem ZmD{σ:St}{H:Hp}{K:PySem.W.Frag}{ta:TA}{R:It→Hp→Prop}(h:ta σ H fun vs H1=>∃a xs,vs=[.ref a]∧SqL K H1 a xs∧R (Itw K a xs.length) H1):ZkF K ta σ H R:=h
end Rd
end L2
namespace L2
open PySem PySem.Spec PyProof.Rows
section
variable {X:Cx}{K:PySem.W.Frag}
end
namespace Rd
section
variable {K:PySem.W.Frag}{σ:St}{H:Hp}{Q:VK}
end
end Rd
end L2
namespace L2
open PySem PySem.Spec PyProof.Rows
section
variable {X:Cx}
end
namespace Rd
section
variable {K:PySem.W.Frag}{σ:St}{H:Hp}
end
end Rd
end L2
namespace L2
open PySem PySem.Spec PyProof.Rows
section
variable {X:Cx}{K:PySem.W.Frag}
noncomputable def rIndexB:V→List V→Hp→VK→Prop:=fun x vs H Q=>∃(l:Addr)(bs:List Bool)(j:Nat),x= .ref l∧vs=[.bl true]∧H l=some (.lst (bs.map V.bl))∧bs[j]? =some true∧(∀m<j,bs[m]? =some false)∧Q (.int j) H
theorem ZhS:MtM X "list.index" rIndexB:=by
 intro pins s σ H x vs v us Q I rx rv h;obtain⟨l,bs,j,rfl,rfl,hH,hj,hno,q⟩:=h;cases rx;obtain⟨u,rfl,ru⟩:=WJ rv;obtain rfl:u=Value.bool true:=ru;obtain⟨z,its,n,r,hl,e⟩:=I.lstM hH;have ev:=Za1 (s:=s) r;have hjl:=(List.getElem?_eq_some_iff.mp hj).1;have hz:its.toArray.size=bs.length:=by rw[ev];simp
 have at_:∀(m:Nat)(hm:m<its.toArray.size),its.toArray[m]=Value.bool (bs[m]'(by omega)):=fun m hm=>by
  subst ev;simp
 have hn:=Uq;refine call_meets F.slot_list_index ⟨_,e,rfl⟩ F.entry_list_index (F.args_list_index_2 _ _) (PySem.SeqAt.list_indexAt l its.toArray n _ _ (.bool true) (fun y=>y==Value.bool true) j (by omega) (by rw[List.length_map] at z;omega) ?_ ?_) ⟨e,fun y hy=>?_,?_⟩
 ·rw[at_ j (by omega)];have:=(List.getElem?_eq_some_iff.mp hj).2;rw[this]
  rfl
 ·intro m hm hmj;rw[at_ m hm];have:=(List.getElem?_eq_some_iff.mp (hno m hmj)).2;rw[this]
  rfl
 ·subst ev;obtain⟨b,_,rfl⟩:=List.mem_map.mp (List.mem_toArray.mp hy);have he:(Value.bool b==Value.bool true)=(b==true):=by cases b<;>rfl
  rw[he];exact PySem.SeqAt.EqAt.bool_bool b true
 ·exact⟨.int j,H,I.tok _,⟨_,rfl⟩,q⟩
end
namespace Rd
theorem Zkp{H:Hp}{Q:VK}{l:Addr}{bs:List Bool}{j:Nat}(h:H l=some (.lst (bs.map V.bl)))(hj:bs[j]? =some true)(hn:∀m<j,bs[m]? =some false)(q:Q (.int j) H):rIndexB (.ref l) [.bl true] H Q:=⟨l,bs,j,rfl,rfl,h,hj,hn,q⟩
end Rd
end L2
namespace L2
open PySem PySem.Spec PyProof.Rows
section
variable {X:Cx}{K:PySem.W.Frag}
noncomputable def ZfO (K:PySem.W.Frag):V→List V→Hp→VK→Prop:=fun x vs H Q=>∃(l:Addr)(ns:List Int)(k:Int),x= .ref l∧vs=[.int k]∧SqL K H l (ns.map V.int)∧Q (.int (ns.count k:Nat)) H
theorem ZdS(ek:X.K=K):MtM X "list.count" (ZfO K):=by
 subst ek;intro pins s σ H x vs v us Q I rx rv h;obtain⟨l,ns,k,rfl,rfl,hH,q⟩:=h;cases rx;obtain⟨u,rfl,t,rfl⟩:=WJ rv;obtain⟨its,r,pl,hz⟩:=I.list hH;exact count_list_ints pl.isList (ZaP r) ⟨.int _,H,I.tok _,⟨_,rfl⟩,q⟩
section
variable {prog:Program}{w:World}{A:Around}{E:Value→Shared→Prop}{s:Shared}{I l:Addr}{items:Array Value}
end
end
namespace Rd
theorem ZhZ{H:Hp}{K:PySem.W.Frag}{Q:VK}{l:Addr}{ns:List Int}{k:Int}(h:SqL K H l (ns.map V.int))(q:Q (.int (ns.count k:Nat)) H):ZfO K (.ref l) [.int k] H Q:=⟨l,ns,k,rfl,rfl,h,q⟩
end Rd
end L2
namespace L2
open PySem PySem.Spec PyProof.Rows
section
variable {X:Cx}
end
namespace Rd
end Rd
end L2
namespace L2
open PySem PySem.Spec PySem.W PyProof.Rows Builtin Builtin.ObjectAttr Builtin.Getset_descriptor
def ZaX(x C:Addr)(h:Heap):Prop:=∃o,h.get? x=some o∧o.cls= .ref C
theorem ZaX.type{M:Model}{h:Heap}{x C:Addr}(I:ZaX x C h):Looks M h (typeOf (.ref x)) (.ref C):=by
 obtain⟨o,h1,h2⟩:=I;exact h2▸(Looks.ld h1).andThen .now
structure YI(K:Frag)(C:Addr):Prop where
 cl:(clsIn K C).isSome=true
 ga:findIn K (.ref C) "__getattribute__" =some (some (.builtin "BaseException.__getattribute__"))
 gk:findIn K (.ref C) "__getattr__" =some none
 ca:findIn K (.ref C) "__class__" =some (some (.builtin "object.__class__"))
 cg:specialIn K (.builtin "object.__class__") "__get__" =some (some (.builtin "getset_descriptor.__get__"))
 ct:takesIn K (.builtin "object.__class__")=some true
 sub:subIn K (.ref C) (.type "BaseException")=some true
 mr:mroIn K C (.type "object")=some true
section
variable {prog:Program}{w:World}{A:Around}{E:Value→Shared→Prop}{s:Shared}{K:Frag}{x C:Addr}
theorem ZiO{M:Model}{h:Heap}(X:K.In h)(c:YI K C):Looks M h (Builtin.ObjectAttr.find (.ref x) (.ref C) "__class__") (.bind (.builtin "getset_descriptor.__get__") (.builtin "object.__class__")):=by
 have L1:=looks_findIn (M:=M) X c.ca;have L2:Looks M h (Builtin.ObjectAttr.getOf (some (.builtin "object.__class__"))) (some (.builtin "getset_descriptor.__get__")):=looks_specialIn X c.cg;have L3:=looks_takesIn (M:=M) X c.ct;exact L1.andThen (L2.andThen ((show Looks M h (Builtin.ObjectAttr.dataDescriptor? (some (.builtin "object.__class__")) (some (.builtin "getset_descriptor.__get__"))) (some (.builtin "getset_descriptor.__get__",.builtin "object.__class__")) from L3.andThen .now).andThen (Looks.tag .now)))
theorem Zj6{tp:Value}{R:Result→Shared→Prop}(X:K.In s.heap)(I:ZaX x C s.heap)(c:YI K C)(h:R (.ok (.ret (.ref C))) s):codeAny (model prog w) A (.call (.builtin "getset_descriptor.__get__") ⟨[.builtin "object.__class__",.ref x,tp],[]⟩) R s:=by
 obtain⟨hh,g,dr,t,os⟩:=s;have L0:=I.type (M:=model prog w);have L1:=looks_mroIn (M:=model prog w) X c.mr;refine codeAny_call_builtin KF.slot_gs.plain KF.entry_gs (KF.slot_gs.check _ _ _ _ _ _ _ _ KF.type_class (KF.args_gs _ _ _) ?_);unfold Builtin.«getset_descriptor.__get__» descrGet;rw[dga_obj];refine wpAny_bind (wpAny_pure ?_);unfold descrGetter descrCheckInstance descrNameAndClass isInstance;simp only[KF.owner_class]
 repeat lk
 refine⟨Code.quiet_builtin _ (by decide+kernel),codeAny_builtin KF.entry_class ?_⟩;unfold Builtin.«object.__class__» shownTypeOf
 repeat lk
 exact h
theorem ZhR{tk:Tok}{Q:Fin→Shared→Prop}(X:K.In s.heap)(I:ZaX x C s.heap)(c:YI K C)
  (h:Q (.done (.ret (.ref C))) s):wpAny (model prog w) A (Builtin.«object.__getattribute__» ⟨[.ref x,.str "__class__" tk],[]⟩) Q E s:=by
 obtain⟨hh,g,d,t,os⟩:=s;have L0:=I.type (M:=model prog w);have L3:=ZiO (M:=model prog w) (x:=x) X c;show wpAny _ _ (typeOf (.ref x) >>= _) _ _ _;refine wpAny_bind (L0.at (wpAny_bind (L3.at ?_)));show wpAny _ _ (holding [Value.builtin "object.__class__"] (call (.builtin "getset_descriptor.__get__") [.builtin "object.__class__",.ref x,.ref C]) >>= ret) _ _ _;exact wpAny_bind (wpAny_holding (wpAny_call (Zj6 (s:=⟨hh,g,d,t,os⟩) X I c (wpAny_pure h))))
theorem Zhv{Q:Option Value→Shared→Prop}(X:K.In s.heap)(I:ZaX x C s.heap)(c:YI K C)(h:Q (some (.ref C)) {s with toks:=s.toks+1}):wpAny (model prog w) A (getAttr? (.ref x) "__class__") Q E s:=by
 obtain⟨hh,g,d,t,os⟩:=s;have L0:=I.type (M:=model prog w);have L1:=looks_findIn (M:=model prog w) X c.ga;have L2:=looks_findIn (M:=model prog w) X c.gk;have L4:Looks (model prog w) hh (isSubtype (.ref C) (.type "BaseException")) true:=looks_subIn X c.sub;have LI:Looks (model prog w) hh (isInstance (.ref x) (.type "BaseException")) true:=L0.andThen L4;unfold getAttr? getAttrBy? getAttrBy;refine wpAny_bind (wpAny_mkText (wpAny_bind (wpAny_attempt (wpAny_holding (wpAny_bind (L0.at (wpAny_bind (L1.at ?_))))))));show wpAny _ _ (getAttrByItsOwn _ _ _ _ _ _) _ _ _;unfold getAttrByItsOwn hookBefore;refine wpAny_bind (L2.at (wpAny_bind (wpAny_attempt (wpAny_holding ?_))));show wpAny _ _ (bindSpecial _ _ >>= _) _ _ _;rw[F.excAttr_ValueError.ga.bind (.ref x)];refine wpAny_bind (wpAny_pure (wpAny_call (codeAny_call_builtin F.excAttr_ValueError.ga.plain F.entry_bexc_ga ?_)));have hk:builtinKind "BaseException.__getattribute__" =some .slot:=by decide+kernel
 have hsp:splitId "BaseException.__getattribute__" =some ("BaseException","__getattribute__"):=by decide+kernel
 have ha:=F.args_bexc_ga (.ref x) (.str "__class__" t);have chk:∀(Q:Unit→Shared→Prop)(E:Value→Shared→Prop),Q () ⟨hh,g,d,t+1,os⟩→wpAny (model prog w) A.in1 (checkBuiltinCall "BaseException.__getattribute__" ⟨[.ref x,.str "__class__" t],[]⟩) Q E ⟨hh,g,d,t+1,os⟩:=fun Q E hQ=>by
  simp only[checkBuiltinCall,hk,hsp];refine wpAny_bind (LI.at ?_);simp only[Bool.not_true,Bool.false_eq_true,if_false];cases hsig:Manifest.signature? "BaseException.__getattribute__" with
  |none=>exact wpAny_pure hQ
  |some sig=>
   simp only[argsOk,hsig] at ha;have h2:Bind.checkArgs "BaseException.__getattribute__" sig ⟨[.ref x,.str "__class__" t],[]⟩=pure ():=ha;show wpAny _ _ (Bind.checkArgs "BaseException.__getattribute__" sig ⟨[.ref x,.str "__class__" t],[]⟩) Q E _;rw[h2];exact wpAny_pure hQ
 refine chk _ _ ?_;refine ZhR (s:=⟨hh,g,d,t+1,os⟩) (A:=A.in1) X I c ?_;exact handed_on rfl (wpAny_pure h)
theorem Ziw(c:YI K C):KitX K (.ref x) (.ref C) (ZaX x C) where
 ty:=fun _ _ _ I=>I.type
 it:=fun _ _ X _=>by
  obtain⟨cdD,hcD⟩:=Option.isSome_iff_exists.mp c.cl;unfold clsIn at hcD
  split at hcD
  ·rename_i c' d' cd' sl' ho;intro A' Q' E' s' k q;unfold isType loadHead;exact wpAny_bind (wpAny_loadPart (k _ _ (X _ _ ho)) (wpAny_pure q))
  ·cases hcD
 ne:=fun h tp dd its n sl X htp=>by
  obtain⟨cdD,hcD⟩:=Option.isSome_iff_exists.mp c.cl;refine Bool.eq_false_iff.mpr fun q=>?_;have e:C=tp:=Value.ref.inj (beq_iff_eq.mp q);subst e;unfold clsIn at hcD
  split at hcD
  ·rename_i c' d' cd' sl' ho;have z:=(X _ _ ho).symm.trans htp;cases z
  ·cases hcD
 ca:=fun X I k=>Zhv X I c k
end
noncomputable def Vm (x C:Addr):HO:= .ext (ZaX x C)
section
variable {X:Cx}
noncomputable def Zi9 (K:Frag):List V→Hp→VK→Prop:=fun xs H Q=>∃(x C:Addr)(c:V)(u:Value)(b:Bool),xs=[.ref x,c]∧H x=some (Vm x C)∧YI K C∧(∀v,Zu c v→v=u)∧kitOne K (.ref C) u=some b∧Q (.bl b) H
theorem ZaQ{K:Frag}(e:X.K=K):YO X (.builtin "isinstance") (Zi9 K):=by
 subst e;intro pins s σ H xs us Q I r h;obtain⟨x,C,c,u,b,rfl,hx,ec,hu,hk,q⟩:=h;cases r with
 |cons r1 rr=>
  obtain⟨v,rfl,rv⟩:=WJ rr;cases (show _=Value.ref x from r1);have ev:=hu v rv;subst ev;obtain⟨hφ,_,_⟩:=(show ZU X.prog X.w H s.heap x (Vm x C) from I.hok x _ hx);exact kia_one (Ziw ec) I.kIn hφ hk (fun z=>nomatch z) fun tk=>⟨.bl b,H,I.tok tk,rfl,q⟩
end
end L2
namespace L2
open PySem PySem.Spec PyProof.Rows
section
variable {X:Cx}{pins:List (Addr×Obj)}{σ:List (Option V)}{H:Hp}{s:Shared}
theorem Inv.track{ea:Addr}{o:HO}(I:Inv X pins σ H s)(h0:∀ob,X.s₀.heap.get? ea=some ob→ea∈X.ex)(hL:ea≠X.env.locals)(hc:∀x c,X.env.cells.lookup x=some c→c≠ea)(hp:∀p∈X.pn++pins,p.1≠ea)(hn:H ea=none)
  (new:ZU X.prog X.w (upd H ea o) s.heap ea o):Inv X pins σ (upd H ea o) s:=by
 refine⟨I.ok,I.os,I.bare,⟨I.base.keep,I.base.slot,fun b ob e n hx=>?_,I.base.there,fun b xs e=>?_,fun b ob u e=>?_,fun b ps e=>?_⟩,I.loc,I.cell,?_,fun x c e=>?_,fun p hp'=>?_,fun b u e=>?_,I.len⟩
 ·rw[Ze (fun z=>hx (by rw[z];exact h0 ob (by rw[←z];exact e)))];exact I.base.free b ob e n hx
 ·rw[Ze (Zj (I.base.tups b xs e) hn)];exact I.base.tups b xs e
 ·rw[Ze (Zj (I.base.frzs b ob u e) hn)];exact I.base.frzs b ob u e
 ·obtain⟨more,q⟩:=I.base.tbls b ps e;exact⟨more,by rw[Ze (Zj q hn)];exact q⟩
 ·rw[Ze (Ne.symm hL)];exact I.free
 ·rw[Ze (hc x c e)];exact I.freeC x c e
 ·obtain⟨a,b,r⟩:=I.pin p hp';exact⟨a,by rw[Ze (hp p hp')];exact b,r⟩
 ·by_cases hb:b=ea
  ·subst hb;rw[Zf] at e;cases e;exact new
  ·rw[Ze hb] at e;exact(I.hok b u e).stay (fun c v _ q=>q) (fun c q=>by rw[Ze (Zj q hn)];exact q) fun c xs q=>by rw[Ze (Zj q hn)];exact q
theorem Inv.dropName{h':Heap}{t':Nat}{j:Nat}{n:Str}{m:Str→Option Value}{v:Option Value}(I:Inv X pins σ H s)(hN:X.N.Nodup)(hj:X.N[j]? =some n)(hs:Heap.SameBut X.env.locals s.heap h')
  (hm:∀(i:Nat) x w,X.N[i]? =some x→σ[i]? =some (some w)→Vis X.env.scope x→∃u,Zu w u∧Zk8 X.env s.heap m x u) (hn:h'.Ns X.env.locals (fun x=>if x=n then v else m x)):Inv X pins (σ.set j none) H {s with heap:=h',toks:=t'}:=by
 have neL:∀b o,X.s₀.heap.get? b=some o→b≠X.env.locals:=fun b o e=>Nat.ne_of_lt (Nat.lt_of_lt_of_le (Heap.lt_size e) I.ok.above);have k:∀b o,b≠X.env.locals→s.heap.get? b=some o→h'.get? b=some o:=fun b o hb e=>(hs.2 b hb).trans e;refine⟨I.ok,I.os,I.bare,⟨fun b o e n' hb hx=>k b o (neL b o e) (I.base.keep b o e n' hb hx),fun b o e n' hb hx=>?_,I.base.free,fun b o e hx=>?_,I.base.tups,I.base.frzs,I.base.tbls⟩,⟨_,hn,fun i x w e1 e2 e3=>?_⟩,fun x c e=>?_,I.free,I.freeC,fun p hp=>?_,fun b u e=>?_,by rw[List.length_set];exact I.len⟩
 ·obtain⟨sl,q⟩:=I.base.slot b o e n' hb hx;exact⟨sl,k b _ (neL b o e) q⟩
 ·obtain⟨o',q⟩:=I.base.there b o e hx;exact⟨o',k b o' (neL b o e) q⟩
 ·by_cases ij:i=j
  ·subst ij;have:(σ.set i none)[i]? =some none∨(σ.set i none)[i]? =none:=by
    rcases Nat.lt_or_ge i σ.length with z|z
    ·exact .inl (by rw[List.getElem?_set_self z])
    ·exact .inr (List.getElem?_eq_none (by rw[List.length_set];exact z))
   rcases this with z|z<;>(rw[z] at e2;cases e2)
  ·rw[List.getElem?_set_ne (fun z=>ij z.symm)] at e2;obtain⟨u,r,l⟩:=hm i x w e1 e2 e3;have nx:x≠n:=fun z=>ij (Zcv hN (by rw[e1,z]) hj);refine⟨u,r,?_⟩;rcases l with⟨a,b⟩|⟨a,c,e,o,ho,hd⟩
   ·exact .inl ⟨a,by simp only[if_neg nx];exact b⟩
   ·exact .inr ⟨a,c,e,o,k c o (I.cne x c e) ho,hd⟩
 ·obtain⟨w,o,ho,hd⟩:=I.cell x c e;exact⟨w,o,k c o (I.cne x c e) ho,hd⟩
 ·obtain⟨a,b,c,r⟩:=I.pin p hp;exact⟨k _ _ c a,b,c,r⟩
 ·refine(I.hok b u e).stay (fun c v' hc q=>k c v' ?_ q) (fun _ q=>q) fun _ _ q=>q;rcases hc with z|z
  ·rw[z];exact Zj e I.free
  ·exact Zj z I.free
end
section
variable {X:Cx}
noncomputable def Zg9 (K:PySem.W.Frag) (c:Value) (j:Nat) (tb:(St→Prop)→XK→TS) (th:TS):TS:=fun D σ H=>∃(J:St→Prop)(E1:XK),tb J E1 D σ H∧∀σ' cls H',J σ'→E1 cls none H'→PySem.W.exmOne K cls c=some true∧∃C,cls= .ref C∧∀ea,H' ea=none→
 th {D with nx:=fun σ2 H2=>D.nx (σ2.set j none) H2,bk:=fun σ2 H2=>D.bk (σ2.set j none) H2,ct:=fun σ2 H2=>D.ct (σ2.set j none) H2} (σ'.set j (some (.ref ea))) (upd H' ea (Vm ea C))
theorem Zim{n:Str}{j:Nat}{body:List Stmt}{b₀:Stmt}{suite:List Stmt}{x:Str}{np hpos pos:Pos}{tb:(St→Prop)→XK→TS}{th:TS}{C:Addr}
  (hst:X.stack=X.env::X.outer) (hfr:X.env.frame=some X.env.locals) (hg:Gl X x) (hm:X.mg x=some (.ref C)) (hb:Zl3 X body tb) (hs:Zke X (b₀::suite) th) (hN:X.N.Nodup) (hj:X.N[j]? =some n) (hloc:X.env.scope.names.lookup n=some .local) (hdb:(x==("__debug__" :Str))=false:=by decide):
  PS X (.Try body [.ExceptHandler (some (.Name x np)) (some n) (b₀::suite) hpos] [] [] pos) (Zg9 X.K (.ref C) j tb th):=by
 intro pins s σ H D I h;obtain⟨J,E1,hb1,hh⟩:=h;have hfra:X.A.frames=some (X.env::X.outer):=by rw[I.ok.frames,hst]
 refine wpAny_Try_except ?_
 let xe1:Value→Shared→Prop:=fun e s₁=>wpAny (model X.prog X.w) X.A (noteFrame e X.env) (fun _ s₂=>wpAny (model X.prog X.w) X.A (setFlight e none) (fun _ s₃=>wpAny (model X.prog X.w) X.A (handleBy e X.env [.ExceptHandler (some (.Name x np)) (some n) (b₀::suite) hpos]) (SP X pins D) X.xe s₃) X.xe s₂) X.xe s₁
 have own:PassesOwn (model X.prog X.w) X.A X.env xe1:=PassesOwn.looking;have back:∀{xe:Value→Shared→Prop}{pins':List (Addr×Obj)}{σ':St}{H':Hp}{s':Shared},Inv {X with pn:=X.pn++pins,xe:=xe} pins' σ' H' s'→Inv X pins σ' H' s':=fun{xe pins' σ' H' s'} J=>by
  have o:=J.ok;exact⟨⟨o.mod,o.kind,o.glob,o.blt,o.above,o.inj,o.has,o.cab,o.hd,o.frames,o.stk,o.exf,o.bs,o.bsz,o.noex,o.exfs,o.funs,o.frf⟩,J.os,J.bare,J.base,J.loc,J.cell,J.free,J.freeC,fun p hp=>J.pin p (List.mem_append_left _ hp),J.hok,J.len⟩
 have forth:Inv {X with pn:=X.pn++pins,xe:=xe1} [] σ H s:=by
  have o:=I.ok;exact⟨⟨o.mod,o.kind,o.glob,o.blt,o.above,o.inj,o.has,o.cab,o.hd,o.frames,o.stk,o.exf,o.bs,o.bsz,o.noex,o.exfs,o.funs,o.frf⟩,I.os,I.bare,I.base,I.loc,I.cell,I.free,I.freeC,fun p hp=>I.pin p (by simpa using hp),I.hok,I.len⟩
 have pas:Zdo (CXX X.prog X.w) {X with pn:=X.pn++pins,xe:=xe1} J E1:=by
  intro pins' σ' H1 s1 e s' hJ I1 hcx;obtain⟨ea,cls,a0,H',B,rfl,os,bare,un,ok,fl,hB,q⟩:=hcx;have I':=back I1;obtain⟨hmt,Ce,rfl,hth⟩:=hh σ' cls H' hJ q;have fl0:Heap.FlyingW B (X.env::X.outer) ea (.ref Ce) a0 s'.heap:=by rw[←hst];exact fl
  show wpAny _ _ _ _ _ _;refine wpAny_looks_onW hfra hfr fl0 fun h₄ held₄ sl₄=>?_;refine wpAny_landsW held₄ fun h₅ fl₅ sl₅=>?_;have there:∀{h6:Heap},Heap.FlyingW B (X.env::X.outer) ea (.ref Ce) a0 h6→s'.heap.UpToSlots h6→Inv X pins σ' H' {s' with heap:=h6}:=fun{h6} f6 sl=>by
   have u6:Un (frs X.stack) [] H1 H' s1.heap h6:=un.fly hB f6.1 sl (fun b hb o e=>by
    obtain⟨_,o',e',d⟩:=I'.stack.mem hb;rw[e] at e';cases e';exact d) I'.stkFree
   exact I'.call' (s':={s' with heap:=h6}) os u6 (ok.stays (fun b o e n=>hB b o e (.inl n)) f6.1) bare (fun b z=>absurd z (by simp))
  have held:∀{s6:Shared},Inv X pins σ' H' s6→Inv {X with A:=X.A.mark (some (.ref ea)),calm:=false,xe:=fun _ _=>False} pins σ' H' s6:=fun{s6} J=>by
   have o:=J.ok;exact⟨⟨o.mod,o.kind,o.glob,o.blt,o.above,o.inj,o.has,o.cab,fun z=>absurd (show false=true from z) Bool.false_ne_true,o.frames,o.stk,o.exf,o.bs,o.bsz,o.noex,o.exfs,o.funs,o.frf⟩,J.os,J.bare,J.base,J.loc,J.cell,J.free,J.freeC,J.pin,J.hok,J.len⟩
  have I5:=held (there fl₅ (sl₄.trans sl₅));refine wpAny_handleBy_cons (codeAny_handlers_test ?_) (by intro q;cases q);refine V1 I5 hg hm ?_ hdb;obtain⟨ob,hob,hobc⟩:=fl₅.there;have LT:PySem.W.Looks (model X.prog X.w) h₅ (typeOf (.ref ea)) (.ref Ce):=by
   exact hobc▸(PySem.W.Looks.ld hob).andThen .now
  refine(PySem.W.exm_one I5.kIn LT hmt).here ?_;refine codeAny_handlers_suite_as ?_;refine lands_againW fl₅ fun h₆ fl₆ sl₆=>?_;have I6:=held (there fl₆ ((sl₄.trans sl₅).trans sl₆));obtain⟨oe,heo,hec⟩:=fl.there;have old:∀b o,s1.heap.get? b=some o→b≠ea:=fun b o e z=>by
   subst z
   by_cases hf:b∈frs X.stack
   ·obtain⟨_,o',e',d⟩:=I'.stack.mem hf;obtain⟨sl,q'⟩:=un.any e' (I'.stkFree b hf) (by simp);obtain⟨ox,vs,hx1,_,hx3,_⟩:=fl.first;rw[q'] at hx1;cases hx1;exact d vs hx3
   ·have:=hB b oe heo (.inr ⟨⟨o,e⟩,hf⟩);rw[fl.2.1] at this;cases this
  have hne:H' ea=none:=by
   cases e:H' ea with
   |none=>rfl
   |some o=>
    have:=hB ea oe heo (.inl (by rw[e];simp));rw[fl.2.1] at this;cases this
  have h0:∀ob,X.s₀.heap.get? ea=some ob→ea∈X.ex:=fun ob e=>by
   by_cases hx:ea∈X.ex
   ·exact hx
   ·obtain⟨o',q'⟩:=I'.base.there ea ob e hx;exact absurd rfl (old ea o' q')
  obtain⟨om,heo6,hec6⟩:=fl₆.there;have I7:=Inv.track (o:=Vm ea Ce) I6 h0 (fun z=>by
   obtain⟨m,⟨o,es,ep,ho,_⟩,_⟩:=I'.loc;exact old _ o ho z.symm) (fun y c e=>by
   obtain⟨v,o,ho,_⟩:=I'.cell y c e;exact old c o ho) (fun p' hp'=>old _ _ (I'.pin p' hp').1) hne ⟨⟨om,heo6,hec6⟩,⟨om,heo6⟩,fun h1 h2 ⟨o,a1,a2⟩ k=>⟨o,k o a1,a2⟩⟩
  refine U7 (X:={X with A:=X.A.mark (some (.ref ea)),calm:=false,xe:=fun _ _=>False}) I7 hN hj (.inl hloc) (show Zu (.ref ea) (.ref ea) from rfl) (fun s7 I8=>?_) (.inr hloc);refine wpAny_mono (hs (X.A.mark (some (.ref ea))) pins s7 _ _ _ I8 (hth ea hne)) (fun f s2 h2=>?_) fun _ _ z=>False.elim z;have un2:∀{σ2:St}{H2:Hp}{s2:Shared},Inv {X with A:=X.A.mark (some (.ref ea)),calm:=false,xe:=fun _ _=>False} pins σ2 H2 s2→Inv X pins σ2 H2 s2:=fun{σ2 H2 s2} J=>by
   have o:=J.ok;exact⟨⟨o.mod,o.kind,o.glob,o.blt,o.above,o.inj,o.has,o.cab,I.ok.hd,I.ok.frames,o.stk,o.exf,o.bs,o.bsz,o.noex,o.exfs,o.funs,o.frf⟩,J.os,J.bare,J.base,J.loc,J.cell,J.free,J.freeC,J.pin,J.hok,J.len⟩
  have goes:∀{σ2:St}{H2:Hp}{s2:Shared}{Q:Unit→Shared→Prop},Inv X pins σ2 H2 s2→(∀s3,Inv X pins (σ2.set j none) H2 s3→Q () s3)→wpAny (model X.prog X.w) X.A (do bindName X.env n .none;unbindBehindTheSuite X.env n hpos) Q X.xe s2:=fun{σ2 H2 s2 Q} J hq=>by
   refine wpAny_bind (wpAny_bindName (U7 (u:= .none) J hN hj (.inl hloc) (show Zu .non .none from rfl) (fun s3 J3=>?_) (.inr hloc)));obtain⟨m,hn,hl⟩:=J3.loc;have hcls:(X.env.scope.kind== .class||(X.env.scope.kind== .module&&X.env.locals != X.env.globals))=false:=by rw[J3.ok.kind];rfl
   have hkn:X.env.kindOf n=some .local:=hloc;unfold unbindBehindTheSuite;refine wpAny_onRaise ?_;unfold unbindName;refine wpAny_bind (wpAny_point (wpAny_bind ?_));unfold deleteName;simp only[hkn,hcls];rw[if_neg (by decide)];refine wpAny_bind (wpAny_nsDel_keeps hn fun h₂ v hn₂ hs₂=>?_);have J4:Inv X pins ((σ2.set j (some .non)).set j none) H2 {s3 with heap:=h₂,toks:=s3.toks}:=J3.dropName hN hj hs₂ hl hn₂;rw[List.set_set] at J4;have hjl:j<σ2.length:=by rw[J.len];exact(List.getElem?_eq_some_iff.mp hj).1
   have hmn:(m n).isSome=true:=by
    obtain⟨u,r,l⟩:=hl j n .non hj (by rw[List.getElem?_set_self hjl]) (.inl hloc);rcases l with⟨_,b⟩|⟨a,_⟩
    ·rw[b];rfl
    ·rcases a with a|a<;>(rw[hkn] at a;cases a)
   rw[hmn];simp only[if_true,Bool.not_true,Bool.false_eq_true,if_false];exact wpAny_pure (wpAny_point (hq _ J4))
  show wpAny (model X.prog X.w) X.A (do bindName X.env n .none;unbindBehindTheSuite X.env n hpos) (fun _ s₃=>SP X pins D f s₃) X.xe s2;cases f with
  |next=>obtain⟨σ2,H2,J2,q2⟩:=h2;exact goes (un2 J2) fun s3 J3=>⟨_,H2,J3,q2⟩
  |brk=>obtain⟨σ2,H2,J2,q2⟩:=h2;exact goes (un2 J2) fun s3 J3=>⟨_,H2,J3,q2⟩
  |cont=>obtain⟨σ2,H2,J2,q2⟩:=h2;exact goes (un2 J2) fun s3 J3=>⟨_,H2,J3,q2⟩
  |ret u=>obtain⟨v,σ2,H2,J2,r2,q2⟩:=h2;exact goes (un2 J2) fun s3 J3=>⟨v,_,H2,J3,r2,q2⟩
 refine wpAny_mono (hb J E1 (X.pn++pins) xe1 own pas [] s σ H D forth hb1) (fun f s1 h1=>?_) fun e s1 h1=>h1;cases f with
 |next=>
  obtain⟨σ2,H2,J2,q2⟩:=h1;show wpAny _ _ (execs [] X.env) _ _ _;exact wpAny_pure ⟨σ2,H2,back J2,q2⟩
 |brk=>obtain⟨σ2,H2,J2,q2⟩:=h1;exact⟨σ2,H2,back J2,q2⟩
 |cont=>obtain⟨σ2,H2,J2,q2⟩:=h1;exact⟨σ2,H2,back J2,q2⟩
 |ret u=>obtain⟨v,σ2,H2,J2,r2,q2⟩:=h1;exact⟨v,σ2,H2,back J2,r2,q2⟩
end
end L2
namespace L2
open PySem PySem.Spec PyProof.Rows
namespace Rd
section
variable {σ:St}{H:Hp}{Q:VK}{K:PySem.W.Frag}
theorem Zlq{c:Value}{j:Nat}{tb:(St→Prop)→XK→TS}{th:TS}{D:W8}(E1:XK)(hb:tb (fun s=>s=σ) E1 D σ H)(hh:∀cls H',E1 cls none H'→PySem.W.exmOne K cls c=some true∧∃C,cls= .ref C∧∀ea,H' ea=none→
  th {D with nx:=fun σ2 H2=>D.nx (σ2.set j none) H2,bk:=fun σ2 H2=>D.bk (σ2.set j none) H2,ct:=fun σ2 H2=>D.ct (σ2.set j none) H2} (σ.set j (some (.ref ea))) (upd H' ea (Vm ea C))):Zg9 K c j tb th D σ H:=
 ⟨fun s=>s=σ,E1,hb,fun _ cls H' e h=>e▸hh cls H' h⟩
theorem Zmf{x C B:Addr}{b:Bool}(h:H x=some (Vm x C))(ec:YI K C)(k:PySem.W.kitOne K (.ref C) (.ref B)=some b)(q:Q (.bl b) H):Zi9 K [.ref x,.ref B] H Q:=⟨x,C,.ref B,.ref B,b,rfl,h,ec,fun v r=>r,k,q⟩
theorem Zl2{x C:Addr}{n:String}{b:Bool}(h:H x=some (Vm x C))(ec:YI K C)(k:PySem.W.kitOne K (.ref C) (.type n)=some b)(q:Q (.bl b) H):Zi9 K [.ref x,.ty n] H Q:=⟨x,C,.ty n,.type n,b,rfl,h,ec,fun v r=>r,k,q⟩
end
end Rd
theorem Wp{K:PySem.W.Frag}{C:Addr}{bm:List Value}{n:String}(h:PySem.W.excIn K C bm n=true):(PySem.W.clsIn K C).isSome=true:=by
 unfold PySem.W.excIn at h
 split at h
 ·rename_i dd cd sl ho;unfold PySem.W.clsIn;rw[ho]
  rfl
 ·cases h
end L2
namespace L2
open PySem PySem.Spec PyProof.Rows
section
variable {X:Cx}
end
end L2
namespace HT
open PySem PyProof.Rows
section
open PySem.SeqAt
open PySem.MeetsSeq PySem.MeetsSeq2 PySem.MeetsSeq3
variable {prog:Program}{w:World}{A:Around}{E:Value→Shared→Prop}{s:Shared}
end
end HT
namespace L2
section
variable {X:Cx}{K:PySem.W.Frag}
open PySem PySem.Spec PyProof.Rows
end
namespace Rd
open PySem PySem.Spec PyProof.Rows
end Rd
end L2
namespace L2
open PySem PySem.Spec PyProof.Rows
section
def VX(p:Array Nat):Prop:=p.toList.Pairwise (· < ·)
theorem VX.lt{p:Array Nat}(h:VX p){i j:Nat}(hij:i<j)(hj:j<p.size):p[i]'(Nat.lt_trans hij hj)<p[j]:=by
 have:=List.pairwise_iff_getElem.mp h i j (by simpa using Nat.lt_trans hij hj) (by simpa using hj) hij;simpa using this
theorem Zcy{p:Array Nat}{j:Nat}(hr:VX p):∀(f lo hi:Nat),lo≤hi→hi≤p.size→hi-lo≤f→(∀i (h:i<p.size),i<lo→p[i]<j)→(∀i (h:i<p.size),hi≤i→j≤p[i])→
  SetTable.below.go p j f lo hi≤p.size∧(∀i (h:i<p.size),i<SetTable.below.go p j f lo hi→p[i]<j)∧∀i (h:i<p.size),SetTable.below.go p j f lo hi≤i→j≤p[i]
 |0,lo,hi,h1,h2,h3,h4,h5=>by
  have e:lo=hi:=by omega
  subst e;exact⟨h2,h4,h5⟩
 |f+1,lo,hi,h1,h2,h3,h4,h5=>by
  unfold SetTable.below.go
  by_cases hl:lo<hi
  ·rw[if_pos hl];have hm:(lo+hi) / 2<p.size:=by omega
   have eg:p.getD ((lo+hi) / 2) j=p[(lo+hi) / 2]:=by simp[Array.getD,hm]
   dsimp only;rw[eg]
   by_cases hc:p[(lo+hi) / 2]<j
   ·rw[if_pos hc];refine Zcy hr f _ _ (by omega) h2 (by omega) (fun i h hi'=>?_) h5;rcases Nat.lt_or_ge i ((lo+hi) / 2) with z|z
    ·exact Nat.lt_trans (hr.lt z hm) hc
    ·have:i=(lo+hi) / 2:=by omega
     subst this;exact hc
   ·rw[if_neg hc];refine Zcy hr f _ _ (by omega) (by omega) (by omega) h4 fun i h hi'=>?_;rcases Nat.lt_or_ge ((lo+hi) / 2) i with z|z
    ·have:=hr.lt z h;omega
    ·have:i=(lo+hi) / 2:=by omega
     subst this;omega
  ·rw[if_neg hl];have e:lo=hi:=by omega
   subst e;exact⟨h2,h4,h5⟩
theorem Zct{p:Array Nat}(hr:VX p)(j:Nat):SetTable.below p j≤p.size∧(∀i (h:i<p.size),i<SetTable.below p j→p[i]<j)∧∀i (h:i<p.size),SetTable.below p j≤i→j≤p[i]:=
 Zcy hr p.size 0 p.size (Nat.zero_le _) (Nat.le_refl _) (Nat.le_refl _) (fun _ _ h=>absurd h (Nat.not_lt_zero _)) fun i h z=>absurd h (Nat.not_lt.mpr z)
theorem Zf8{p:Array Nat}(hr:VX p){i:Nat}(hi:i<p.size):SetTable.below p (p[i]+1)=i+1:=by
 obtain⟨h1,h2,h3⟩:=Zct hr (p[i]+1);rcases Nat.lt_trichotomy (SetTable.below p (p[i]+1)) (i+1) with z|z|z
 ·have:=h3 i hi (by omega);omega
 ·exact z
 ·have hl:i+1<p.size:=by omega
  have:=h2 (i+1) hl z;have:=hr.lt (i:=i) (j:=i+1) (Nat.lt_succ_self i) hl;omega
theorem ZgZ{p:Array Nat}(hr:VX p):SetTable.below p 0=0:=by
 obtain⟨h1,h2,h3⟩:=Zct hr 0;rcases Nat.eq_zero_or_pos (SetTable.below p 0) with z|z
 ·exact z
 ·have:=h2 0 (by omega) z;omega
theorem VX.insert{p:Array Nat}(hr:VX p){j:Nat}(hn:p[SetTable.below p j]? ≠some j):VX (SetTable.insertAt p (SetTable.below p j) j):=by
 obtain⟨h1,h2,h3⟩:=Zct hr j;unfold VX;rw[SetTable.toList_insertAt];generalize SetTable.below p j=b at*;refine List.pairwise_append.mpr ⟨hr.sublist (List.take_sublist _ _),List.pairwise_cons.mpr ⟨fun y hy=>?_,hr.sublist (List.drop_sublist _ _)⟩,fun x hx y hy=>?_⟩
 ·obtain⟨k,hk,rfl⟩:=List.mem_iff_getElem.mp hy;rw[List.getElem_drop];rw[List.length_drop,Array.length_toList] at hk;have hb:b<p.size:=by omega
  have hb':j<p[b]:=Nat.lt_of_le_of_ne (h3 b hb (Nat.le_refl _)) fun e=>hn (by rw[Array.getElem?_eq_getElem hb,e]);rcases Nat.eq_zero_or_pos k with rfl|hk0
  ·simpa using hb'
  ·have:=hr.lt (i:=b) (j:=b+k) (by omega) (by omega);simpa using Nat.lt_trans hb' this
 ·have hx':x<j:=by
   obtain⟨k,hk,rfl⟩:=List.mem_iff_getElem.mp hx;rw[List.length_take,Array.length_toList] at hk;rw[List.getElem_take];simpa using h2 k (by omega) (by omega)
  rcases List.mem_cons.mp hy with rfl|hy
  ·exact hx'
  ·obtain⟨k,hk,rfl⟩:=List.mem_iff_getElem.mp hy;rw[List.length_drop,Array.length_toList] at hk;rw[List.getElem_drop];have:=h3 (b+k) (by omega) (by omega);have h4:x<p[b+k]:=Nat.lt_of_lt_of_le hx' this;simpa using h4
theorem ZgS(n:Nat):VX (Array.range n):=by
 unfold VX;rw[Array.toList_range];exact List.pairwise_lt_range
structure Z3(led:Bool)(t:SetTable):Prop where
 rise:VX t.place
 dum:t.dummies=#[]
 led:t.led=led
variable {led:Bool}{t:SetTable}
theorem Z3.fresh:Z3 led (.fresh 0 0 led):=⟨List.Pairwise.nil,rfl,rfl⟩
theorem Z3.standIn(g:Z3 led t)(n:Nat):Z3 led (t.standIn n):=⟨ZgS n,rfl,g.led⟩
theorem Z3.orStandIn(g:Z3 led t)(n:Nat):Z3 led (t.orStandIn n):=by
 unfold SetTable.orStandIn
 split
 ·exact g
 ·exact g.standIn n
theorem Z3.noDummy(g:Z3 led t)(j:Nat):SetTable.has t.dummies j=false:=by
 rw[g.dum];simp[SetTable.has]
theorem Z3.slot_empty(g:Z3 led t){j:Nat}(h:t.slot j= .empty):t.place[SetTable.below t.place j]? ≠some j:=by
 intro e;unfold SetTable.slot at h;dsimp only at h;rw[e] at h;simp at h
theorem ZcN(g:Z3 led t){ha:Nat→Int}{h:Int}:∀(f:Nat)(p:SetTable.Probe)(j:Nat)(d:Option Nat),p.dummy=none→SetTable.probe.go t ha h f p=some (.empty j d)→d=none∧t.slot j= .empty
 |0,p,j,d,hp,e=>by cases e
 |f+1,p,j,d,hp,e=>by
  have adv:∀q:SetTable.Probe,(t.advance q).dummy=q.dummy:=fun q=>by
   unfold SetTable.advance
   split<;>rfl
  unfold SetTable.probe.go at e;cases hs:t.slot p.j with
  |empty=>rw[hs] at e;cases e;exact⟨hp,hs⟩
  |dummy=>
   exfalso;unfold SetTable.slot at hs;dsimp only at hs;rw[g.noDummy] at hs
   split at hs<;>simp at hs
  |live i=>
   rw[hs] at e;dsimp only at e
   split at e
   ·cases e
   ·exact ZcN g f _ j d (by rw[adv,hp]) e
theorem Z3.put(g:Z3 led t){j:Nat}(h:t.slot j= .empty):Z3 led (t.put j).1:=by
 refine⟨g.rise.insert (g.slot_empty h),?_,g.led⟩;show(if SetTable.has t.dummies j then _ else t.dummies)=#[];rw[g.noDummy];exact g.dum
theorem Z3.layNew(g:Z3 led t)(es:Array (Int×Value))(h:Int)(x:Value):Z3 led (layNew t es h x).2.1:=by
 unfold PySem.layNew
 split
 ·rename_i slot was e;dsimp only;refine Z3.orStandIn (g.put ?_) _;unfold SetTable.freeSlot at e
  split at e
  ·rename_i j d e2;obtain⟨rfl,hs⟩:=ZcN g _ _ j d rfl e2;cases e;exact hs
  ·cases e
 ·exact g.standIn _
theorem Z3.laid{mask finger moves:Nat}{pl:Bool}{hs:Array Int}{r:SetTable×Array Nat}(e:SetTable.laid mask finger moves led pl hs=some r):Z3 led r.1:=by
 unfold SetTable.laid at e;cases ho:SetTable.layClean mask hs with
 |none=>rw[ho] at e;cases e
 |some owner=>
  rw[ho] at e;cases e;refine⟨?_,rfl,rfl⟩;show List.Pairwise _ _;simp only[List.toList_toArray];rw[List.pairwise_map];refine List.Pairwise.filterMap _ (R:=(· < ·)) (fun a b hab c hc d hd=>?_) List.pairwise_lt_range;cases e1:owner.getD a none with
  |none=>rw[e1] at hc;cases hc
  |some x=>
   cases e2:owner.getD b none with
   |none=>rw[e2] at hd;cases hd
   |some y=>rw[e1] at hc;rw[e2] at hd;cases hc;cases hd;exact hab
theorem Z3.relayAll(g:Z3 led t)(es:Array (Int×Value))(n:Nat):Z3 led (relayAll t es n).2.1:=by
 unfold PySem.relayAll
 split
 ·rename_i t' order e;dsimp only
  split
  ·unfold SetTable.relaid at e;rw[g.led] at e;exact Z3.laid e
  ·exact g.standIn _
 ·exact g.standIn _
end
end L2
namespace L2
open PySem PySem.Spec PyProof.Rows
section
noncomputable def keyI:Int×Value→Int
 |(_,.int n _)=>n
 |_=>0
def U1(led:Bool)(ks:List Int)(o:Obj):Prop:=o.ExactSet∧∃es ep t,o.data= .set es ep t∧(∀e∈es.toList,∃n tk,e=(hashInt n,Value.int n tk))∧es.size<scanBound∧t.fits es.size=true∧Z3 led t∧(es.toList.map keyI).Perm ks
variable {prog:Program}{w:World}{A:Around}{E:Value→Shared→Prop}{s:Shared}{led:Bool}
theorem Zbw{l:List (Int×Value)}(h:∀e∈l,∃n tk,e=(hashInt n,Value.int n tk)):ElemsOf (intKind prog w) l:=fun e he=>by
 obtain⟨n,tk,rfl⟩:=h e he;exact⟨⟨n,intKind_is _ _ _ _,rfl⟩,rfl⟩
theorem Zcu{l:List (Int×Value)}(h:∀e∈l,∃n tk,e=(hashInt n,Value.int n tk)){n:Int}:(∃e∈l,(intKind prog w).is n e.2=true)↔n∈l.map keyI:=by
 constructor
 ·rintro⟨e,he,hi⟩;obtain⟨m,tk,rfl⟩:=h e he;have:n=m:=(intKind prog w).inj _ n m hi (intKind_is _ _ _ _);subst this;exact List.mem_map.mpr ⟨_,he,rfl⟩
 ·intro hm;obtain⟨e,he,hk⟩:=List.mem_map.mp hm;obtain⟨m,tk,rfl⟩:=h e he;cases hk;exact⟨_,he,intKind_is _ _ _ _⟩
theorem Zel{g:Bool→Sem Unit}(hg:∀(b:Bool)(s1:Shared)(Q1:Unit→Shared→Prop),Q1 () s1→wpAny (model prog w) A (g b) Q1 E s1){a:Addr}{o:Obj}{es:Array (Int×Value)}{ep:Nat}{t:SetTable}{ks:List Int}{es1:Array (Int×Value)}{t2:SetTable}{was:Bool}{R:Option Bool→Shared→Prop}
  (ho:s.heap.get? a=some o) (hex:o.ExactSet) (hd:o.data= .set es ep t) (el1:∀e∈es1.toList,∃n tk,e=(hashInt n,Value.int n tk)) (k1:(es1.toList.map keyI).Perm ks) (hb1:es1.size<scanBound) (f2:t2.fits es1.size=true) (g2:Z3 led t2)
  (q:∀h' o',Heap.SameBut a s.heap h'→h'.get? a=some o'→U1 led ks o'→R (some true) {s with heap:=h'}):
  wpAny (model prog w) A (storeSet a es1 t2 >>= fun _=>if(!was&&t2.tooFull)=true then g (relayAll t2 es1 (SetTable.grown es1.size)).2.2 >>= fun _=>storeSet a (relayAll t2 es1 (SetTable.grown es1.size)).1 (relayAll t2 es1 (SetTable.grown es1.size)).2.1 >>= fun _=>pure (some true) else pure (some true)) R E s:=by
 refine wpAny_bind (wpAny_storeSet_of ho hd ?_ (fits_of_scanBound hb1));have sb:=Heap.SameBut.update s.heap a (Obj.putSet es1 t2);obtain⟨ho1,_⟩:=SetOf_store (knd:=intKind prog w) (S':=fun k=>decide (k∈ks)) ho hex hd (Zbw el1) (fun k=>by rw[Zcu el1,k1.mem_iff];simp) hb1 f2
 split
 ·have p3:=relayAll_perm t2 es1 (SetTable.grown es1.size);have f3:=relayAll_fits t2 es1 (SetTable.grown es1.size);have g3:=g2.relayAll es1 (SetTable.grown es1.size);generalize relayAll t2 es1 (SetTable.grown es1.size)=R at p3 f3 g3⊢;obtain⟨es2,t3,gave2⟩:=R;dsimp only at p3 f3 g3⊢;have z3:es2.size=es1.size:=by have:=p3.length_eq;simpa using this
  have hb3:es2.size<scanBound:=by rw[z3];exact hb1
  have el3:∀e∈es2.toList,∃n tk,e=(hashInt n,Value.int n tk):=fun e he=>el1 e (p3.mem_iff.mp he);have k3:(es2.toList.map keyI).Perm ks:=(p3.map keyI).trans k1;refine wpAny_bind (hg _ _ _ ?_);refine wpAny_bind (wpAny_storeSet_of ho1 rfl ?_ (fits_of_scanBound hb3));obtain⟨ho3,_⟩:=SetOf_store (knd:=intKind prog w) (S':=fun k=>decide (k∈ks)) ho1 hex rfl (Zbw el3) (fun k=>by rw[Zcu el3,k3.mem_iff];simp) hb3 f3;exact wpAny_pure (q _ _ (sb.trans (Heap.SameBut.update _ a _)) ho3 ⟨hex,es2,_,t3,rfl,el3,hb3,f3,g3,k3⟩)
 ·exact wpAny_pure (q _ _ sb ho1 ⟨hex,es1,_,t2,rfl,el1,hb1,f2,g2,k1⟩)
theorem ZiZ{a:Addr}{o:Obj}{ks:List Int}{n:Int}{tk:Tok}{Q:Bool→Shared→Prop}(ho:s.heap.get? a=some o)(hS:U1 led ks o)(hroom:ks.length+1<scanBound)
  (q:∀h' o',Heap.SameBut a s.heap h'→h'.get? a=some o'→U1 led (step_dedup ks n) o'→∀b,Q b {s with heap:=h'}):wpAny (model prog w) A (setAddHashed a (.int n tk) (hashInt n)) Q E s:=by
 obtain⟨hex,es,ep,t,hd,hel,hb,hf,hg,hp⟩:=hS;have hE:ElemsOf (intKind prog w) es.toList:=Zbw hel;have hln:es.size=ks.length:=by have:=hp.length_eq;simpa using this
 have hmem:(∃e∈es.toList,(intKind prog w).is n e.2=true)↔n∈ks:=(Zcu hel).trans hp.mem_iff;unfold setAddHashed setAddHashedIn;refine wpAny_holding (wpAny_bind (wpAny_setState_of ho hd hf ?_));dsimp only;rw[byScan_of (x:= .int n tk) rfl hb hE,if_pos rfl];refine wpAny_bind ?_;unfold setAddByScan;refine wpAny_bind (wpAny_rule (wpAny_bind (wpAny_setScan_of (knd:=intKind prog w) (k:=n) (intKind_is _ _ _ _) ho hd hf hE ?_)));cases hr:es.toList.findIdx? (fun e=>(intKind prog w).is n e.2) with
 |some j=>
  dsimp only;obtain⟨hj,hpj,_⟩:=List.findIdx?_eq_some_iff_getElem.mp hr;have hin:n∈ks:=hmem.mp ⟨_,List.getElem_mem hj,hpj⟩;have e:step_dedup ks n=ks:=by
   unfold step_dedup;rw[if_pos (by simpa using hin)]
  refine wpAny_pure (wpAny_pure ?_);exact q s.heap o (Heap.SameBut.refl a s.heap) ho (by rw[e];exact⟨hex,es,ep,t,hd,hel,hb,hf,hg,hp⟩) false
 |none=>
  dsimp only;have hnot:n∉ks:=fun z=>by
   obtain⟨e,he,hi⟩:=hmem.mpr z;have:=List.findIdx?_eq_none_iff.mp hr e he;rw[hi] at this;cases this
  have e:step_dedup ks n=ks++ [n]:=by
   unfold step_dedup;rw[if_neg (by simpa using hnot)]
  have p1:=layNew_perm t es (hashInt n) (.int n tk);have f1:=layNew_fits t es (hashInt n) (.int n tk);have g1:=hg.layNew es (hashInt n) (.int n tk);generalize layNew t es (hashInt n) (Value.int n tk)=L at p1 f1 g1⊢;obtain⟨es1,t1,was,gave⟩:=L;dsimp only at p1 f1 g1⊢;rw[Array.toList_push] at p1;have el1:∀e∈es1.toList,∃n tk,e=(hashInt n,Value.int n tk):=fun e he=>by
   rcases List.mem_append.mp (p1.mem_iff.mp he) with z|z
   ·exact hel e z
   ·exact⟨n,tk,List.mem_singleton.mp z⟩
  have k1:(es1.toList.map keyI).Perm (ks++ [n]):=(p1.map keyI).trans (by rw[List.map_append];exact hp.append_right _);have z1:es1.size=ks.length+1:=by have:=k1.length_eq;simpa using this
  have hb1:es1.size<scanBound:=by omega
  have pay:∀(b:Bool)(s1:Shared)(Q1:Unit→Shared→Prop),Q1 () s1→wpAny (model prog w) A (match b with|true=>rule "set.scan.the-table-gave-way" |false=>pure ()) Q1 E s1:=fun b s1 Q1 h1=>by
   cases b
   ·exact wpAny_pure h1
   ·exact wpAny_rule h1
  refine wpAny_bind (pay _ _ _ ?_);have fin:∀h' o',Heap.SameBut a s.heap h'→h'.get? a=some o'→U1 led (ks++ [n]) o'→wpAny (model prog w) A (pure true) Q E {s with heap:=h'}:=fun h' o' x y z=>wpAny_pure (q h' o' x y (by rw[e];exact z) true)
  split
  ·refine wpAny_bind ?_;rw[hashByValue_scannable 8 (x:= .int n tk) rfl];refine wpAny_pure (Zel (g:=_) ?_ ho hex hd el1 k1 hb1 f1 g1 fin);exact pay
  ·refine wpAny_bind (wpAny_pure (Zel (g:=_) ?_ ho hex hd el1 k1 hb1 f1 g1 fin));exact pay
end
end L2
namespace L2
open PySem PySem.Spec PyProof.Rows
section
variable {prog:Program}{w:World}{A:Around}{led:Bool}
theorem Zhn(val:Nat→Int)(i:Nat):(firstMet val i).length≤i:=firstMet_length_le val i
theorem ZiS{R:Result→Shared→Prop}{I S:Addr}{fp wr:List Addr}{G:Array GenState→Array GenState→Prop}{n:Nat}{P:Nat→Value→Prop}{St:Nat→Shared→Prop}(W:WalksS prog w A.in1 I fp wr G n P St)(hSf:S∉fp)(val:Nat→Int)(hval:∀i v,P i v→∃t,v= .int (val i) t)(hb:n+1<scanBound):
  ∀(k i:Nat)(s:Shared)(o:Obj),n-i=k→i≤n→St i s→s.heap.get? S=some o→U1 led (firstMet val i) o→
   (∀s' o',Moved (S::wr) G s s'→s'.heap.get? S=some o'→U1 led (firstMet val n) o'→R (.ok (.ret .none)) s')→codeAny (model prog w) A (.builtin "set.update.loop" ⟨[.ref S,.ref I],[]⟩) R s:=by
 have hSw:S∉wr:=fun z=>hSf (W.sub _ z);have up:∀b∈wr,b∈S::wr:=fun b z=>List.mem_cons_of_mem _ z;intro k
 induction k with
 |zero=>
  intro i s o hk hi st hS sS q;obtain rfl:i=n:=by omega
  refine codeAny_builtin F.entry_set_update_loop ?_;rw[Around.under_plainId F.plain_set_update_loop];refine wpAny_bind (W.done s _ _ st fun s1 mv=>?_);exact wpAny_pure (q s1 o (mv.mono up) (mv.heap S o hSw hS) sS)
 |succ k ih=>
  intro i s o hk hi st hS sS q;have hlt:i<n:=by omega
  refine codeAny_builtin F.entry_set_update_loop ?_;rw[Around.under_plainId F.plain_set_update_loop];refine wpAny_bind (W.item i s _ _ hlt st fun v s1 hP st1 mv=>?_);obtain⟨t,rfl⟩:=hval i v hP;have hS1:=mv.heap S o hSw hS;refine wpAny_bind (wpAny_holding ?_);unfold setAdd;refine wpAny_holding (wpAny_bind ((intKind prog w).pyHash (k:=val i) (intKind_is _ _ _ _) ?_));have hr:(firstMet val i).length+1<scanBound:=by have:=Zhn val i;omega
  refine ZiZ (s:={s1 with toks:=s1.toks+1}) hS1 sS hr fun h2 o2 sb h2o s2 b=>?_;rw[←firstMet_succ] at s2;refine wpAny_pure ⟨plainId_quiet F.plain_set_update_loop _,ih (i+1) _ o2 (by omega) hlt (W.frame _ s1 _ _ st1 (Nat.le_succ _) fun c hc o3 e3=>?_) h2o s2 fun s3 o3 mv3 h3 g3=>?_⟩
  ·rw[sb.2 c fun z=>hSf (z▸hc)];exact e3
  ·refine q s3 o3 (Moved.trans W.gtrans ((mv.mono up).then_heap (Nat.le_succ _) fun c o4 hc e4=>?_) mv3) h3 g3;rw[sb.2 c fun z=>hc (z▸List.mem_cons_self)];exact e4
theorem Zik{E:Value→Shared→Prop}{s:Shared}(a:Value){Q:Value→Shared→Prop}
  (h:Q (.ref s.heap.objs.size) {s with heap:=s.heap.push {cls:= .type "set",dict:=none,data:= .set #[] 0 (.fresh 0 0 (!w.params.followText "set-order"))}}):
  codeAny (model prog w) A (.call (.builtin "set.__new__") ⟨[.type "set",a],[]⟩) (wants Q E) s:=by
 refine codeAny_of_tree ?_;refine wpAny_bind (wpAny_of_eq (F.newCall_set_1 a) (wpAny_pure ⟨plainId_quiet F.plain_set_new _,codeAny_builtin F.entry_set_new ?_⟩));rw[Around.under_plainId F.plain_set_new _];unfold Builtin.«set.__new__» Builtin.Frozenset.newClass;have hsub:=sub_set_self;obtain⟨hp,g,d,tk,os⟩:=s;dsimp only
 wp_walk
 refine wpAny_askSetting (wpAny_pure ?_);dsimp only;simp only[newObj];exact wpAny_bind (wpAny_alloc (wpAny_pure (wpAny_pure h)))
end
end L2
namespace L2
open PySem PySem.Spec PyProof.Rows
section
variable {prog:Program}{w:World}{A:Around}
theorem Ziy{E:Value→Shared→Prop}{s:Shared}{l:Addr}{items:Array Value}{ns:List Int}{Q:Value→Shared→Prop}(hh:A.handled=none)(hl:s.heap.IsList l items)(hi:IntsAre items.toList ns)(hb:items.size+1<scanBound)
  (q:∀(h':Heap)(tk:Nat)(o:Obj),h'.get? s.heap.objs.size=some o→U1 (!w.params.followText "set-order") (firstMet (fun i=>ns.getD i 0) items.size) o→
   (∀b o,b<s.heap.objs.size→s.heap.get? b=some o→h'.get? b=some o)→Q (.ref s.heap.objs.size) {s with heap:=h',toks:=tk}):
  wpAny (model prog w) A (call (.type "set") [.ref l]) Q E s:=by
 obtain⟨c,tl,hmro⟩:=F.called_set.mro;have hmade:=F.called_set.made;have hsub:=F.called_set.sub;refine wpAny_call (codeAny_of_tree ?_);refine wpAny_pure ⟨Code.quiet_builtin _ (by decide+kernel),codeAny_builtin F.entry_type_call ?_⟩;rw[Around.under_plain (weight_type_call_type "set" [.ref l] []) rfl];have c1:=F.called_set.notType;have c2:=F.called_set.canCreate;have c3:=F.typeCall_set_1 (.ref l)
 repeat (any_goals (first|assumption|wp_step))
 clear c2 c3;refine codeAny_mono (Zik (.ref l) (E:=E) (Q:=fun v s1=>v= .ref s.heap.objs.size∧s1={s with heap:=s.heap.push {cls:= .type "set",dict:=none,data:= .set #[] 0 (.fresh 0 0 (!w.params.followText "set-order"))}}) ⟨rfl,rfl⟩) fun r s1 hr=>?_;rcases r with e|fl
 ·exact hr
 cases fl with
 |ret v=>
  obtain⟨rfl,rfl⟩:=hr;generalize hN:({cls:= .type "set",dict:=none,data:= .set #[] 0 (.fresh 0 0 (!w.params.followText "set-order"))}:Obj)=N;have hNc:N.cls= .type "set" :=by rw[←hN]
  have hNs:U1 (!w.params.followText "set-order") [] N:=by
   rw[←hN];exact⟨⟨rfl,rfl,rfl⟩,#[],0,_,rfl,by simp,by decide,by rfl,Z3.fresh,by simp⟩
  have hS:(s.heap.push N).get? s.heap.objs.size=some N:=Heap.get?_push_size _ (by rw[←hN];rfl);have hT:Shared.TypeIs {s with heap:=s.heap.push N} (.ref s.heap.objs.size) "set" :=⟨_,hS,hNc⟩;have li:=F.called_set.init.lookup;have bi:=F.called_set.init.bind (.ref s.heap.objs.size)
  repeat (any_goals (first|assumption|wp_step))
  refine codeAny_mono (codeAny_call_builtin (R:=wants (fun r s2=>r= .none∧∃h' tk o,s2={s with heap:=h',toks:=tk}∧h'.get? s.heap.objs.size=some o∧U1 (!w.params.followText "set-order") (firstMet (fun i=>ns.getD i 0) items.size) o∧(∀b o,b<s.heap.objs.size→s.heap.get? b=some o→h'.get? b=some o)) E) F.called_set.init.plain F.entry_set_init (check_set_init_1 hT ?_)) fun r s2 hr=>?_
  ·have hl1:(s.heap.push N).IsList l items:=hl.push _;obtain⟨ol,hol,hcl,nl,hdl⟩:=hl;obtain⟨ocls,odict,odata,oslots⟩:=ol;simp only at hcl hdl;subst hcl hdl;have hol1:(s.heap.push N).get? l=some {cls:= .type "list",dict:=odict,data:= .seq items nl,slots:=oslots}:=Heap.get?_push_of_some _ hol;have x1:=F.sub_list_set;have x2:=F.sub_list_frozenset;have x3:(Value.type "list" ==Value.type "dict")=false:=by decide
   have hS':=hS;rw[←hN] at hS hT hol1⊢;unfold Builtin.«set.__init__» noKeywords Builtin.Frozenset.updateFrom;generalize hPI:pyIter=PI
   wp_walk
   subst hPI;rw[hN] at hol1 hS hT⊢;refine wpAny_pyIter_list hl1 ?_;refine wpAny_bind (wpAny_runValue ?_);have hlS:l<s.heap.objs.size:=Heap.lt_size hol;have hh3:A.in1.in1.in1.handled=none:=by simp[hh]
   have ne1:l≠(s.heap.push N).objs.size:=by
    rw[Heap.size_push];exact Nat.ne_of_lt (Nat.lt_succ_of_lt hlS)
   have nf:s.heap.objs.size∉[(s.heap.push N).objs.size,l]:=by
    rw[Heap.size_push];simp only[List.mem_cons,List.not_mem_nil,or_false,not_or];exact⟨Nat.ne_of_lt (Nat.lt_succ_self _),Nat.ne_of_gt hlS⟩
   refine ZiS ((Walks.list hh3 _ l ne1 items).toS) nf (fun i=>ns.getD i 0) (fun i v hv=>IntsAre.int_at hi i v (by rw[Array.getElem?_toList];exact hv)) hb (items.size-0) 0 _ N (by omega) (Nat.zero_le _) ⟨⟨_,Heap.get?_push_size _ rfl,rfl,rfl⟩,hl1.push _⟩ (Heap.get?_push_of_some _ hS) hNs fun s3 o3 mv h3 g3=>?_;obtain⟨h',g',d',tk',os'⟩:=s3;obtain rfl:g'=s.gens:=mv.gens;obtain rfl:d'=s.drawn:=mv.drawn;obtain rfl:os'=s.os:=mv.os;show wpAny _ _ _ _ _ _;refine wpAny_pure ?_;show wpAny _ _ (ret Value.none) _ _ _;refine wpAny_pure ⟨rfl,h',tk',o3,rfl,h3,g3,fun b o hb' e=>mv.heap b o ?_ (Heap.get?_push_of_some _ (Heap.get?_push_of_some _ e))⟩;rw[Heap.size_push];simp only[List.mem_cons,List.not_mem_nil,or_false,not_or];exact⟨Nat.ne_of_lt hb',Nat.ne_of_lt (Nat.lt_succ_of_lt hb')⟩
  ·rcases r with e|fl
   ·exact hr
   cases fl with
   |ret v=>
    obtain⟨rfl,h',tk,o,rfl,h1,h2,h3⟩:=hr
    repeat (any_goals (first|assumption|wp_step))
    exact q _ _ _ h1 h2 h3
   |_=>exact hr.elim
 |_=>exact hr.elim
end
end L2
namespace L2
open PySem PySem.Spec PyProof.Rows
section
theorem WV:Slot "set_iterator" "__next__" "set_iterator.__next__" := .of (owner:="set_iterator") (n:="__next__") (by rw[typeLookup_type,builtinLookup_eq_fast];kernel_rfl) (by decide+kernel) (by decide+kernel) (by decide+kernel) (by first|exact .inl (by decide+kernel)|exact .inr (by decide+kernel)) (by rw[isSubtype_type];kernel_rfl)
theorem Zbo:Slot "set_iterator" "__iter__" "set_iterator.__iter__" := .of (owner:="set_iterator") (n:="__iter__") (by rw[typeLookup_type,builtinLookup_eq_fast];kernel_rfl) (by decide+kernel) (by decide+kernel) (by decide+kernel) (by first|exact .inl (by decide+kernel)|exact .inr (by decide+kernel)) (by rw[isSubtype_type];kernel_rfl)
theorem Zd7:entryFor table "set_iterator.__next__" =some Builtin.«set_iterator.__next__»:=entryFor_of_tree (by kernel_rfl)
theorem Zea:entryFor table "set_iterator.__iter__" =some Builtin.«dict_keyiterator.__iter__»:=entryFor_alias (id':="dict_keyiterator.__iter__") (by kernel_rfl) rfl (by decide+kernel) (by kernel_rfl)
theorem Zdq:entryFor table "set.__iter__" =some Builtin.«frozenset.__iter__»:=entryFor_alias (id':="frozenset.__iter__") (by kernel_rfl) rfl (by decide+kernel) (by kernel_rfl)
theorem ZeT:Manifest.owners.lookup (String.ofList "set_iterator".toList.reverse.reverse)=some Manifest.sig_set_iterator:=by kernel_rfl
theorem Zfg(a:Value):argsOk "set_iterator.__next__" ⟨[a],[]⟩:=by
 unfold argsOk;rw[signature?_of (id:="set_iterator.__next__") (n:=['_','_','t','x','e','n','_','_']) (o:="set_iterator".toList.reverse) (by kernel_rfl) ZeT]
 kernel_rfl
theorem Ze0(a:Value):argsOk "set_iterator.__iter__" ⟨[a],[]⟩:=by
 unfold argsOk;rw[signature?_of (id:="set_iterator.__iter__") (n:=['_','_','r','e','t','i','_','_']) (o:="set_iterator".toList.reverse) (by kernel_rfl) ZeT]
 kernel_rfl
noncomputable def UB (first:Value) (i:Nat) (a:Addr) (n ep:Nat):Obj:={cls:= .type "set_iterator",dict:=none,data:= .fields #[first,.int i 0,.ref a,.int n 0,.int ep 0],slots:=#[]}
variable {prog:Program}{w:World}{A:Around}{E:Value→Shared→Prop}{s:Shared}
theorem Zgu{src:Source}{n:Nat}{Q:Nat→Shared→Prop}(hn:n≠0)(h:∀i d,i<n→Q i {s with drawn:=d}):wpAny (model prog w) A (choose src n) Q E s:=
 fun _ _ _=>⟨hn,h _ _ (Nat.mod_lt _ (Nat.pos_of_ne_zero hn))⟩
theorem Zcn{α:Type}:∀{l:List α}{i:Nat}(h:i<l.length),(l[i]::l.eraseIdx i).Perm l
 |x::l,0,_=>by simp
 |x::l,i+1,h=>by
  rw[List.getElem_cons_succ,List.eraseIdx_cons_succ];exact(List.Perm.swap _ _ _).trans ((Zcn (by simpa using h)).cons x)
theorem Ze5{α:Type}:∀(xs:List α)(s:Shared)(Q:List α→Shared→Prop),(∀ys d,ys.Perm xs→Q ys {s with drawn:=d})→wpAny (model prog w) A (drawOrder xs.length xs) Q E s
 | [],s,Q,h=>wpAny_pure (h [] s.drawn .rfl)
 |x::xs,s,Q,h=>by
  show wpAny _ _ (choose .order (x::xs).length >>= _) _ _ _;refine wpAny_bind (Zgu (by simp) fun i d hi=>?_);rw[List.getElem?_eq_getElem hi];have hp:=Zcn (l:=x::xs) hi;generalize (x::xs)[i]=y at hp⊢;have hlen:xs.length=((x::xs).eraseIdx i).length:=by rw[List.length_eraseIdx_of_lt hi];rfl
  show wpAny _ _ (drawOrder xs.length ((x::xs).eraseIdx i) >>= _) _ _ _;generalize (x::xs).eraseIdx i=zs at hp hlen⊢;rw[hlen];refine wpAny_bind (Ze5 zs _ _ fun ys d2 hy=>?_);exact wpAny_pure (h (y::ys) d2 ((hy.cons y).trans hp))
 termination_by xs=>xs.length
 decreasing_by simp_wf;omega
theorem ZdK{α:Type}(next:Nat→Nat):∀(f k:Nat)(l:List α)(out:Array α),f=l.length→(pickOrder.go next f k l out).toList.Perm (out.toList++l)
 |0,k,l,out,e=>by
  obtain rfl:l=[]:=List.eq_nil_of_length_eq_zero e.symm;simp[pickOrder.go]
 |f+1,k,l,out,e=>by
  have hi:next k % l.length<l.length:=Nat.mod_lt _ (by omega);unfold pickOrder.go;rw[List.getElem?_eq_getElem hi];refine(ZdK next f (k+1) _ _ (by rw[List.length_eraseIdx_of_lt hi];omega)).trans ?_;rw[Array.toList_push,List.append_assoc];exact(Zcn hi).append_left _
theorem V6{α:Type}(next:Nat→Nat)(xs:Array α):(pickOrder next xs).toList.Perm xs.toList:=by
 have:=ZdK next xs.size 0 xs.toList #[] (by simp);simpa[pickOrder] using this
theorem ZfS{A':Around}{it:Addr}{Q:Option Value→Shared→Prop}(hh:A.handled=none){h1:Heap}(hb:Heap.SameBut it s.heap h1)(q:∀h',Heap.ExtBut it s.heap h'→Q none {s with heap:=h'}):
  wpAny (model prog w) A (newExc (.type "StopIteration") [] >>= fun e=>(raiseNew e:Sem Fin)) (fun _ _=>False) (fun e s'=>wpAny (model prog w) A' (isInstance e (.type "StopIteration") >>= fun b=>if b=true then pure none else throw e) Q E s') {s with heap:=h1}:=by
 refine wpAny_bind ?_;simp only[newExc,newTuple];refine wpAny_bind (wpAny_newObj_type ?_ (by size_fits));refine wpAny_bind (m:=firstArgMember _ _) (wpAny_of_eq (a:=Value.none) (by first|rfl|(simp only[firstArgMember];rfl)) ?_);refine wpAny_newObj_type ?_ (by size_fits);simp only[raiseNew];refine wpAny_bind (wpAny_handled ?_);rw[hh];refine wpAny_bind (wpAny_pure (wpAny_throw ?_));exact wpAny_bind (wpAny_isInstance (T:="StopIteration") (b:=true) ⟨_,Heap.get?_push_size _ rfl,rfl⟩ isSubtype_stop (wpAny_pure (q _ ((hb.extBut.push _).push _))))
variable {it a:Addr}{o:Obj}{es:Array (Int×Value)}{ep i:Nat}{t:SetTable}{Q:Option Value→Shared→Prop}
theorem Zee{first:Value}(hit:s.heap.get? it=some (UB first i a es.size ep))(h:wpAny (model prog w) A.in1 (Builtin.«set_iterator.__next__» ⟨[.ref it],[]⟩) (fun fin s'=>∃x,fin= .done (.ret x)∧Q (some x) s') (fun e s'=>wpAny (model prog w) A (isInstance e (.type "StopIteration") >>= fun b=>if b=true then pure none else throw e) Q E s') s):wpAny (model prog w) A (pyNext (.ref it)) Q E s:=by
 have hT:s.TypeIs (.ref it) "set_iterator" :=⟨_,hit,rfl⟩;unfold pyNext;refine wpAny_bind (wpAny_attempt (wpAny_callSpecial?_slot (name:=Str.ofString "__next__") hT WV (wpAny_call_entry WV hT Zd7 ?_ (Zfg _))));refine wpAny_mono h (fun fin s' z=>?_) fun e s' z=>?_
 ·obtain⟨x,rfl,q⟩:=z;exact⟨x,rfl,wpAny_pure q⟩
 ·exact z
theorem ZfU{sl nx:Nat}{v:Value}(hit:s.heap.get? it=some (UB (.int sl 0) i a es.size ep))(ho:s.heap.get? a=some o)(hd:o.data= .set es ep t)(hf:t.fits es.size=true)
  (hx:∀{A:Around}{E:Value→Shared→Prop}(Q:Option (Value×Nat)→Shared→Prop),Q (some (v,nx)) s→wpAny (model prog w) A (setNext a sl i ep) Q E s)
  (q:∀h',h'.get? it=some (UB (.int nx 0) (i+1) a es.size ep)→Heap.SameBut it s.heap h'→Q (some v) {s with heap:=h'}):wpAny (model prog w) A (pyNext (.ref it)) Q E s:=by
 refine Zee hit ?_;unfold Builtin.«set_iterator.__next__»;refine wpAny_bind (m:=slotArgs _ _ _) (wpAny_pure (wpAny_bind (wpAny_fieldsOf hit rfl ?_)));show wpAny _ _ (setEntries a >>= _) _ _ _;refine wpAny_bind (wpAny_setEntries_of ho hd hf ?_);rw[if_neg (by simp)];show wpAny _ _ (setNext a _ _ _ >>= _) _ _ _;simp only[Int.toNat_natCast];refine wpAny_bind (hx _ ?_);refine wpAny_bind (wpAny_setField_rec hit (by simp) fun h1 e1 b1=>?_);refine wpAny_bind (wpAny_setField_rec (s:={s with heap:=h1}) e1 (by simp) fun h2 e2 b2=>?_);exact wpAny_pure ⟨v,rfl,q h2 e2 (b1.trans b2)⟩
theorem Zhu{sl:Nat}(hh:A.handled=none)(hit:s.heap.get? it=some (UB (.int sl 0) i a es.size ep))(ho:s.heap.get? a=some o)(hd:o.data= .set es ep t)(hf:t.fits es.size=true)
  (hx:∀{A:Around}{E:Value→Shared→Prop}(Q:Option (Value×Nat)→Shared→Prop),Q none s→wpAny (model prog w) A (setNext a sl i ep) Q E s)
  (q:∀h',Heap.ExtBut it s.heap h'→Q none {s with heap:=h'}):wpAny (model prog w) A (pyNext (.ref it)) Q E s:=by
 refine Zee hit ?_;unfold Builtin.«set_iterator.__next__»;refine wpAny_bind (m:=slotArgs _ _ _) (wpAny_pure (wpAny_bind (wpAny_fieldsOf hit rfl ?_)));show wpAny _ _ (setEntries a >>= _) _ _ _;refine wpAny_bind (wpAny_setEntries_of ho hd hf ?_);rw[if_neg (by simp)];show wpAny _ _ (setNext a _ _ _ >>= _) _ _ _;simp only[Int.toNat_natCast];refine wpAny_bind (hx _ ?_);refine wpAny_bind (wpAny_setField_rec hit (by simp) fun h1 e1 b1=>?_);exact wpAny_mono (ZfS (A:=A.in1) hh b1 q) (fun _ _ z=>False.elim z) fun _ _ z=>z
theorem Zkb{T:Addr}{items:Array Value}{pl:Nat}{k:Int}{v:Value}(hit:s.heap.get? it=some (UB (.ref T) i a es.size ep))(hT:s.heap.IsTuple T items)(hi:items[i]? =some (.int pl 0))(hv:es[pl]? =some (k,v))(ho:s.heap.get? a=some o)(hd:o.data= .set es ep t)(hf:t.fits es.size=true)
  (q:∀h',h'.get? it=some (UB (.ref T) (i+1) a es.size ep)→Heap.SameBut it s.heap h'→Q (some v) {s with heap:=h'}):wpAny (model prog w) A (pyNext (.ref it)) Q E s:=by
 obtain⟨oT,hoT,hcT,nT,hdT⟩:=hT;refine Zee hit ?_;unfold Builtin.«set_iterator.__next__»;refine wpAny_bind (m:=slotArgs _ _ _) (wpAny_pure (wpAny_bind (wpAny_fieldsOf hit rfl ?_)));show wpAny _ _ (setEntries a >>= _) _ _ _;refine wpAny_bind (wpAny_setEntries_of ho hd hf ?_);rw[if_neg (by simp)];show wpAny _ _ (seqItems? (.ref T) >>= _) _ _ _;refine wpAny_bind (wpAny_seqItems hoT hdT ?_);simp only[Int.toNat_natCast,hi];unfold setNextDrawn;refine wpAny_bind (wpAny_bind (wpAny_setState_of ho hd hf ?_));dsimp only;rw[if_neg (by simp),hv];refine wpAny_pure ?_;refine wpAny_bind (wpAny_setField_rec hit (by simp) fun h2 e2 b2=>?_);exact wpAny_pure ⟨v,rfl,q h2 e2 b2⟩
theorem Zko{T:Addr}{items:Array Value}(hh:A.handled=none)(hit:s.heap.get? it=some (UB (.ref T) i a es.size ep))(hT:s.heap.IsTuple T items)(hi:items[i]? =none)(ho:s.heap.get? a=some o)(hd:o.data= .set es ep t)(hf:t.fits es.size=true)
  (q:∀h',Heap.ExtBut it s.heap h'→Q none {s with heap:=h'}):wpAny (model prog w) A (pyNext (.ref it)) Q E s:=by
 obtain⟨oT,hoT,hcT,nT,hdT⟩:=hT;refine Zee hit ?_;unfold Builtin.«set_iterator.__next__»;refine wpAny_bind (m:=slotArgs _ _ _) (wpAny_pure (wpAny_bind (wpAny_fieldsOf hit rfl ?_)));show wpAny _ _ (setEntries a >>= _) _ _ _;refine wpAny_bind (wpAny_setEntries_of ho hd hf ?_);rw[if_neg (by simp)];show wpAny _ _ (seqItems? (.ref T) >>= _) _ _ _;refine wpAny_bind (wpAny_seqItems hoT hdT ?_);simp only[Int.toNat_natCast,hi];refine wpAny_bind (wpAny_setField_rec hit (by simp) fun h0 e0 b0=>?_);refine wpAny_bind (wpAny_setField_rec (s:={s with heap:=h0}) e0 (by simp) fun h1 e1 b1=>?_);exact wpAny_mono (ZfS (A:=A.in1) (s:=s) hh (b0.trans b1) q) (fun _ _ z=>False.elim z) fun _ _ z=>z
theorem ZdY{sl:Nat}(hw:w.params.followText "set-order" =true)(ho:s.heap.get? a=some o)(hd:o.data= .set es ep t)(hf:t.fits es.size=true)(Q:Option (Value×Nat)→Shared→Prop)(q:Q (((pickOrder (w.params.setOrder a ep) es)[i]?).map fun e=>(e.2,sl)) s):wpAny (model prog w) A (setNext a sl i ep) Q E s:=by
 unfold setNext setsByText;refine wpAny_bind (wpAny_setState_of ho hd hf ?_);dsimp only;refine wpAny_bind (wpAny_bind (wpAny_askSetting (wpAny_pure ?_)));show wpAny _ _ (if w.params.followText "set-order" =true then _ else _) _ _ _;rw[if_pos hw,if_neg (by simp)];unfold setWalk setsByText;refine wpAny_bind (wpAny_bind (wpAny_setState_of ho hd hf ?_));dsimp only;refine wpAny_bind (wpAny_bind (wpAny_askSetting (wpAny_pure ?_)));show wpAny _ _ (if w.params.followText "set-order" =true then _ else _) _ _ _;rw[if_pos hw];exact wpAny_bind (wpAny_askSetting (wpAny_pure (wpAny_pure q)))
theorem ZcY{sl:Nat}(hw:w.params.followText "set-order" =false)(ho:s.heap.get? a=some o)(hd:o.data= .set es ep t)(hf:t.fits es.size=true)(hp:(!t.plain&&decide (es.size > 1))=false)(hl:t.led=true)(Q:Option (Value×Nat)→Shared→Prop)
  (q:Q (match es[SetTable.below t.place sl]?,t.place[SetTable.below t.place sl]? with|some (_,x),some j=>some (x,j+1)|_,_=>none) s):wpAny (model prog w) A (setNext a sl i ep) Q E s:=by
 unfold setNext setsByText;refine wpAny_bind (wpAny_setState_of ho hd hf ?_);dsimp only;refine wpAny_bind (wpAny_bind (wpAny_askSetting (wpAny_pure ?_)));show wpAny _ _ (if w.params.followText "set-order" =true then _ else _) _ _ _;rw[if_neg (by rw[hw];simp)];show wpAny _ _ (if(!t.plain&&decide (es.size > 1))=true then _ else _) _ _ _;rw[if_neg (by rw[hp];simp)];refine wpAny_bind ?_;show wpAny _ _ (if(!t.led&& !es.isEmpty)=true then _ else _) _ _ _;rw[if_neg (by rw[hl];simp)];exact wpAny_pure (wpAny_pure q)
end
end L2
namespace L2
open PySem PySem.Spec PyProof.Rows
section
variable {prog:Program}{w:World}{A:Around}{E:Value→Shared→Prop}{s:Shared}{it a:Addr}{o:Obj}{es:Array (Int×Value)}{ep i:Nat}{t:SetTable}
theorem Zde{first:Value}{n:Nat}{Q:Value→Shared→Prop}(hit:s.heap.get? it=some (UB first i a n ep))(q:Q (.ref it) s):wpAny (model prog w) A (pyIter (.ref it)) Q E s:=by
 have hT:s.TypeIs (.ref it) "set_iterator" :=⟨_,hit,rfl⟩;refine wpAny_pyIter_slot hT Zbo (wpAny_call_entry Zbo hT Zea ?_ (Ze0 _));show wpAny _ _ (ret (.ref it)) _ _ s;exact wpAny_pure ⟨_,rfl,"set_iterator",_,hT,WV.lookup,q⟩
theorem Zg6(hh:A.handled=none)(I:Addr)(hne:a≠I)(hw:w.params.followText "set-order" =true)(hd:o.data= .set es ep t)(hf:t.fits es.size=true):
  PySem.Walks prog w A I [I,a] [I] es.size (fun i v=>((pickOrder (w.params.setOrder a ep) es).toList.map (·.2))[i]? =some v) (fun i h=>h.get? I=some (UB (.int (0:Nat) 0) i a es.size ep)∧h.get? a=some o) where
 sub:=fun b hb=>by simp at hb;simp[hb]
 frame:=fun _ _ _ st hk=>⟨hk I (by simp) _ st.1,hk a (by simp) _ st.2⟩
 item:=fun i s Q E hi st q=>by
  have hz:(pickOrder (w.params.setOrder a ep) es).size=es.size:=by have:=(V6 (w.params.setOrder a ep) es).length_eq;simpa using this
  have hi':i<(pickOrder (w.params.setOrder a ep) es).size:=by rw[hz];exact hi
  refine ZfU (nx:=0) (v:=((pickOrder (w.params.setOrder a ep) es)[i]).2) st.1 st.2 hd hf (fun Q1 q1=>ZdY hw st.2 hd hf Q1 (by rw[Array.getElem?_eq_getElem hi'];exact q1)) fun h' e b=>?_;exact q _ h' s.toks (by rw[List.getElem?_map,Array.getElem?_toList,Array.getElem?_eq_getElem hi'];rfl) ⟨e,b.extBut a _ hne st.2⟩ fun b' o' hb e'=>b.extBut b' o' (fun z=>hb (by simp[z])) e'
 done:=fun s Q E st q=>by
  have hz:(pickOrder (w.params.setOrder a ep) es).size=es.size:=by have:=(V6 (w.params.setOrder a ep) es).length_eq;simpa using this
  refine Zhu hh st.1 st.2 hd hf (fun Q1 q1=>ZdY hw st.2 hd hf Q1 (by rw[Array.getElem?_eq_none (by omega)];exact q1)) fun h' e=>q h' s.toks fun b o' hb e'=>e b o' (fun z=>hb (by simp[z])) e'
 self:=fun _ _ _ _ st q=>Zde st.1 q
noncomputable def Zar (t:SetTable) (i:Nat):Nat:=if i=0 then 0 else t.place.getD (i-1) 0+1
theorem Zbm{led:Bool}(g:Z3 led t){n:Nat}(hz:t.place.size=n)(hi:i≤n):SetTable.below t.place (Zar t i)=i:=by
 unfold Zar
 split
 ·rename_i e;rw[e];exact ZgZ g.rise
 ·have h1:i-1<t.place.size:=by omega
  have e:t.place.getD (i-1) 0=t.place[i-1]:=by simp[Array.getD,h1]
  rw[e,Zf8 g.rise h1];omega
theorem Zfs{led:Bool}(hh:A.handled=none)(I:Addr)(hne:a≠I)(hw:w.params.followText "set-order" =false)(hd:o.data= .set es ep t)(hf:t.fits es.size=true)(hp:(!t.plain&&decide (es.size > 1))=false)(hl:t.led=true)(g:Z3 led t):
  PySem.Walks prog w A I [I,a] [I] es.size (fun i v=>(es.toList.map (·.2))[i]? =some v) (fun i h=>h.get? I=some (UB (.int (Zar t i:Nat) 0) i a es.size ep)∧h.get? a=some o) where
 sub:=fun b hb=>by simp at hb;simp[hb]
 frame:=fun _ _ _ st hk=>⟨hk I (by simp) _ st.1,hk a (by simp) _ st.2⟩
 item:=fun i s Q E hi st q=>by
  have hz:t.place.size=es.size:=by simp only[SetTable.fits,Bool.and_eq_true,beq_iff_eq] at hf;exact hf.1
  have hi2:i<t.place.size:=by omega
  have hb:=Zbm (i:=i) g hz (by omega);refine ZfU (nx:=Zar t (i+1)) (v:=(es[i]).2) st.1 st.2 hd hf (fun Q1 q1=>ZcY hw st.2 hd hf hp hl Q1 ?_) fun h' e b=>?_
  ·rw[hb,Array.getElem?_eq_getElem hi,Array.getElem?_eq_getElem hi2];have e:Zar t (i+1)=t.place[i]+1:=by
    unfold Zar;rw[if_neg (by omega)];simp[Array.getD,hi2]
   rw[e] at q1;exact q1
  ·exact q _ h' s.toks (by rw[List.getElem?_map,Array.getElem?_toList,Array.getElem?_eq_getElem hi];rfl) ⟨e,b.extBut a _ hne st.2⟩ fun b' o' hb e'=>b.extBut b' o' (fun z=>hb (by simp[z])) e'
 done:=fun s Q E st q=>by
  have hz:t.place.size=es.size:=by simp only[SetTable.fits,Bool.and_eq_true,beq_iff_eq] at hf;exact hf.1
  have hb:=Zbm (i:=es.size) g hz (Nat.le_refl _);refine Zhu hh st.1 st.2 hd hf (fun Q1 q1=>ZcY hw st.2 hd hf hp hl Q1 ?_) fun h' e=>q h' s.toks fun b o' hb e'=>e b o' (fun z=>hb (by simp[z])) e';rw[hb,Array.getElem?_eq_none (Nat.le_refl _)];exact q1
 self:=fun _ _ _ _ st q=>Zde st.1 q
theorem ZfF(hh:A.handled=none)(I T:Addr)(hne:a≠I)(hTI:T≠I)(hd:o.data= .set es ep t)(hf:t.fits es.size=true)(ord:List Nat)(hp:ord.Perm (List.range es.size)):
  PySem.Walks prog w A I [I,a,T] [I] es.size (fun i v=>(ord.map fun j=>(es.getD j (0,.none)).2)[i]? =some v) (fun i h=>h.get? I=some (UB (.ref T) i a es.size ep)∧h.get? a=some o∧h.IsTuple T (ord.map fun(j:Nat)=>Value.int j 0).toArray) where
 sub:=fun b hb=>by simp at hb;simp[hb]
 frame:=fun _ _ _ st hk=>⟨hk I (by simp) _ st.1,hk a (by simp) _ st.2.1,let⟨x,e,r⟩:=st.2.2;⟨x,hk T (by simp) _ e,r⟩⟩
 item:=fun i s Q E hi st q=>by
  have hl:ord.length=es.size:=by have:=hp.length_eq;simpa using this
  have hi2:i<ord.length:=by omega
  have hj:ord[i]<es.size:=by have:=hp.mem_iff.mp (List.getElem_mem hi2);simpa using this
  have ev:(es.getD ord[i] (0,Value.none))=es[ord[i]]:=by simp[Array.getD,hj]
  refine Zkb (pl:=ord[i]) (k:=(es[ord[i]]).1) (v:=(es[ord[i]]).2) st.1 st.2.2 (by simp[hi2]) (by rw[Array.getElem?_eq_getElem hj]) st.2.1 hd hf fun h' e b=>?_;exact q _ h' s.toks (by rw[List.getElem?_map,List.getElem?_eq_getElem hi2];exact congrArg (fun x=>some x.2) ev) ⟨e,b.extBut a _ hne st.2.1,let⟨x,e,r⟩:=st.2.2;⟨x,b.extBut T _ hTI e,r⟩⟩ fun b' o' hb e'=>b.extBut b' o' (fun z=>hb (by simp[z])) e'
 done:=fun s Q E st q=>by
  have hl:ord.length=es.size:=by have:=hp.length_eq;simpa using this
  exact Zko hh st.1 st.2.2 (by simp[hl]) st.2.1 hd hf fun h' e=>q h' s.toks fun b o' hb e'=>e b o' (fun z=>hb (by simp[z])) e'
 self:=fun _ _ _ _ st q=>Zde st.1 q
end
end L2
namespace L2
open PySem PySem.Spec PyProof.Rows
section
variable {prog:Program}{w:World}{A:Around}{E:Value→Shared→Prop}{s:Shared}{a:Addr}{o:Obj}
theorem ZiK{ks:List Int}{Q:Value→Shared→Prop}(ho:s.heap.get? a=some o)(hS:U1 (!w.params.followText "set-order") ks o)
  (q:∀(I:Addr)(L:List Value)(s':Shared)(fp:List Addr)(St:Nat→Heap→Prop)(n:Nat),n=L.length→(∃ns:List Int,IntsAre L ns∧ns.Perm ks)→(∀b o,s.heap.get? b=some o→s'.heap.get? b=some o)→s'.gens=s.gens→s'.os=s.os→s'.toks=s.toks→
   (∀A':Around,A'.handled=none→PySem.Walks prog w A' I fp [I] n (fun i v=>L[i]? =some v) St)→St 0 s'.heap→s.heap.objs.size≤I→(∀b∈fp,b=a∨s.heap.objs.size≤b)→Q (.ref I) s'):wpAny (model prog w) A (pyIter (.ref a)) Q E s:=by
 obtain⟨hex,es,ep,t,hd,hel,hb,hf,hg,hp⟩:=hS;have hT:s.TypeIs (.ref a) "set" :=⟨_,ho,hex.1⟩;have hlt:a<s.heap.objs.size:=Heap.lt_size ho;have allI:∀l:List (Int×Value),l.Perm es.toList→∃ns:List Int,IntsAre (l.map (·.2)) ns∧ns.Perm ks:=fun l pl=>by
  refine⟨l.map keyI,?_,(pl.map keyI).trans hp⟩;have hl:∀e∈l,∃n tk,e=(hashInt n,Value.int n tk):=fun e he=>hel e (pl.mem_iff.mp he);clear pl
  induction l with
  |nil=>exact .nil
  |cons x l ih=>
   obtain⟨n,tk,rfl⟩:=hl x (by simp);exact .cons n tk (ih fun e he=>hl e (by simp[he]))
 refine wpAny_pyIter_slot hT F.slot_set_iter (wpAny_call_entry F.slot_set_iter hT Zdq ?_ (F.args_set_iter_1 _));unfold Builtin.«frozenset.__iter__» Builtin.Frozenset.sizeOf;refine wpAny_bind (m:=Builtin.Frozenset.slot0 _ _) (wpAny_pure ?_);refine wpAny_bind (wpAny_bind (wpAny_setEntries_of ho hd hf (wpAny_pure ?_)));unfold setDrawn setsByText;refine wpAny_bind (wpAny_bind (wpAny_setState_of ho hd hf ?_));dsimp only;refine wpAny_bind (wpAny_bind (wpAny_askSetting (wpAny_pure (wpAny_pure ?_))));show wpAny _ _ (if(!w.params.followText "set-order" &&(!t.plain&&decide (es.size > 1)))=true then _ else _) _ _ _
 by_cases hc:(!w.params.followText "set-order" &&(!t.plain&&decide (es.size > 1)))=true
 ·rw[if_pos hc];refine wpAny_bind ?_;have hr:(List.range es.size).length=es.size:=List.length_range;have dr:=Ze5 (prog:=prog) (w:=w) (A:=A.in1) (E:=E) (List.range es.size) s;rw[hr] at dr;refine dr _ fun ord d pm=>?_;refine wpAny_bind ?_;simp only[newTuple];have ol:ord.length=es.size:=by have:=pm.length_eq;simpa using this
  refine wpAny_newObj_type ?_ ?_
  ·refine wpAny_bind (wpAny_setEpoch_of (Heap.get?_push_of_some _ ho) hd hf ?_);refine wpAny_bind (wpAny_newObj_type (wpAny_pure ⟨_,rfl,"set_iterator",_,⟨_,Heap.get?_push_size _ rfl,rfl⟩,WV.lookup,?_⟩));generalize hT':({cls:= .type "tuple",data:= .seq (List.map (fun(i:Nat)=>rawInt i) ord).toArray 0}:Obj)=oT;have pe:(List.map (fun j=>es.getD j (0,Value.none)) ord).Perm es.toList:=by
    refine(pm.map _).trans ?_;have:(List.range es.size).map (fun j=>es.getD j (0,Value.none))=es.toList:=by
     refine List.ext_getElem (by simp) fun i h1 h2=>?_;have h3:i<es.size:=by simpa using h2
     simp[Array.getD,h3]
    rw[this]
   have wd:∀A':Around,A'.handled=none→_:=fun A' hh=>ZfF (prog:=prog) (w:=w) (A:=A') (a:=a) (o:=o) (ep:=ep) hh (s.heap.objs.size+1) s.heap.objs.size (Nat.ne_of_lt (Nat.lt_succ_of_lt hlt)) (Nat.ne_of_lt (Nat.lt_succ_self _)) hd hf ord pm;have zl:es.size=(ord.map fun j=>(es.getD j (0,.none)).2).length:=by simp[ol]
   rw[show(s.heap.push oT).objs.size=s.heap.objs.size+1 from Heap.size_push ..];refine q _ (ord.map fun j=>(es.getD j (0,.none)).2) _ [s.heap.objs.size+1,a,s.heap.objs.size] _ _ zl (by have:=allI _ pe;rw[List.map_map] at this;exact this) (fun b o e=>Heap.get?_push_of_some _ (Heap.get?_push_of_some _ e)) rfl rfl rfl (fun A' hh=>wd A' hh) ⟨?_,Heap.get?_push_of_some _ (Heap.get?_push_of_some _ ho),?_⟩ (Nat.le_succ _) (fun b hb=>?_)
   ·have:=Heap.get?_push_size (o:=UB (.ref s.heap.objs.size) 0 a es.size ep) (s.heap.push oT) rfl;rw[show(s.heap.push oT).objs.size=s.heap.objs.size+1 from Heap.size_push ..] at this;exact this
   ·exact⟨oT,Heap.get?_push_of_some _ (Heap.get?_push_size _ (by rw[←hT'];rfl)),by rw[←hT'],0,by rw[←hT'];rfl⟩
   ·simp only[List.mem_cons,List.not_mem_nil,or_false] at hb;rcases hb with rfl|rfl|rfl
    ·exact .inr (Nat.le_succ _)
    ·exact .inl rfl
    ·exact .inr (Nat.le_refl _)
  ·show(List.map _ ord).toArray.size≤sizeLine;rw[List.size_toArray,List.length_map,ol];exact fits_of_scanBound hb
 ·rw[if_neg hc];refine wpAny_bind (wpAny_pure ?_);refine wpAny_bind (wpAny_setEpoch_of ho hd hf ?_);refine wpAny_bind (wpAny_newObj_type (wpAny_pure ⟨_,rfl,"set_iterator",_,⟨_,Heap.get?_push_size _ rfl,rfl⟩,WV.lookup,?_⟩));have hfp:∀b∈[s.heap.objs.size,a],b=a∨s.heap.objs.size≤b:=fun b hb=>by
   simp only[List.mem_cons,List.not_mem_nil,or_false] at hb;rcases hb with rfl|rfl
   ·exact .inr (Nat.le_refl _)
   ·exact .inl rfl
  cases hw:w.params.followText "set-order" with
  |true=>
   have pe:=V6 (w.params.setOrder a ep) es;have zl:es.size=((pickOrder (w.params.setOrder a ep) es).toList.map (·.2)).length:=by have:=pe.length_eq;simpa using this.symm
   exact q _ _ _ _ _ _ zl (allI _ pe) (fun b o e=>Heap.get?_push_of_some _ e) rfl rfl rfl (fun A' hh=>Zg6 hh _ (Nat.ne_of_lt hlt) hw hd hf) ⟨Heap.get?_push_size _ rfl,Heap.get?_push_of_some _ ho⟩ (Nat.le_refl _) hfp
  |false=>
   rw[hw] at hc hg;have zl:es.size=(es.toList.map (·.2)).length:=by simp
   exact q _ _ _ _ _ _ zl (allI _ .rfl) (fun b o e=>Heap.get?_push_of_some _ e) rfl rfl rfl (fun A' hh=>Zfs hh _ (Nat.ne_of_lt hlt) hw hd hf (by simpa using hc) hg.led hg) ⟨Heap.get?_push_size _ rfl,Heap.get?_push_of_some _ ho⟩ (Nat.le_refl _) hfp
end
end L2
namespace L2
open PySem PySem.Spec PyProof.Rows
section
variable {prog:Program}{w:World}{A:Around}{E:Value→Shared→Prop}{s:Shared}{a:Addr}{o:Obj}
theorem Zix{Q:Bool→Shared→Prop}(hT:s.TypeIs (.ref a) "set")(q:Q false s):wpAny (model prog w) A (Builtin.List.listLengthHint (.ref a)) Q E s:=by
 unfold Builtin.List.listLengthHint;refine wpAny_bind (wpAny_specialOf hT F.slot_set_len.lookup ?_);generalize hid:("set.__len__" :String)=id0
 wp_delta
 rw[show splitId id0=some ("set","__len__") from by subst hid;decide+kernel];subst hid;refine wpAny_bind (wpAny_isInstance (T:="set") (b:=true) hT sub_set_self ?_);refine wpAny_ite_split (fun z=>absurd z (by decide)) (fun _=>wpAny_ite_split (fun _=>?_) (fun z=>absurd (by decide+kernel) z));exact wpAny_bind (wpAny_typeOf hT (wpAny_pure q))
theorem ZfL{ks:List Int}{R:List Value→Shared→Prop}(hh:A.handled=none)(ho:s.heap.get? a=some o)(hS:U1 (!w.params.followText "set-order") ks o)(hk:ks.length≤sizeLine)
  (q:∀(s':Shared)(L:List Value)(ns:List Int),IntsAre L ns→ns.Perm ks→(∀b o,s.heap.get? b=some o→s'.heap.get? b=some o)→s'.gens=s.gens→s'.os=s.os→R L s'):wpAny (model prog w) A (collect (.ref a)) R E s:=by
 have hlt:a<s.heap.objs.size:=Heap.lt_size ho;generalize hN:({cls:= .type "list",data:= .seq ([]:List Value).toArray}:Obj)=N;have ho1:(s.heap.push N).get? a=some o:=Heap.get?_push_of_some _ ho;have hS1:(s.heap.push N).get? s.heap.objs.size=some N:=Heap.get?_push_size _ (by rw[←hN];rfl);have hT1:Shared.TypeIs {s with heap:=s.heap.push N} (.ref a) "set" :=⟨_,ho1,hS.1.1⟩;unfold collect;refine wpAny_bind (wpAny_runValue (codeAny_builtin PySem.F.entry_proto_collect ?_));rw[Around.under_plainId PySem.F.plain_proto_collect _];refine wpAny_bind (m:=newList []) (wpAny_newObj_type ?_);refine wpAny_pure ⟨plainId_quiet PySem.F.plain_list_iadd _,codeAny_builtin PySem.F.entry_list_iadd ?_⟩;rw[Around.under_plainId PySem.F.plain_list_iadd _,hN];show wpAny _ A.in1 (Builtin.List.listExtendWith (.ref s.heap.objs.size) (.ref a) (.ref s.heap.objs.size)) _ _ _;unfold Builtin.List.listExtendWith;refine wpAny_bind (wpAny_typeOf hT1 ?_);have n1:Builtin.List.listSameRef (.ref s.heap.objs.size) (.ref a)=false:=by simp[Builtin.List.listSameRef];exact Nat.ne_of_gt hlt
 have n2:(Value.type "set" ==Value.type "list")=false:=by decide
 have n3:(Value.type "set" ==Value.type "tuple")=false:=by decide
 simp only[n1,n2,n3,Bool.or_false,Bool.false_eq_true,if_false];refine wpAny_bind (ZiK ho1 hS fun I L s2 fp St n en hI kp eg eo et W st hge hfp=>?_);obtain⟨ns,hi,hp⟩:=hI;have hS2:=kp _ _ hS1;refine wpAny_bind (wpAny_holding (Zix (a:=a) ⟨_,kp _ _ ho1,hS.1.1⟩ ?_));have hSf:s.heap.objs.size∉fp:=fun z=>by
  rcases hfp _ z with e|e
  ·exact Nat.ne_of_gt hlt e
  ·rw[Heap.size_push] at e;exact absurd e (Nat.not_succ_le_self _)
 have hIn:s.heap.objs.size≠I:=fun z=>by rw[←z,Heap.size_push] at hge;exact absurd hge (Nat.not_succ_le_self _)
 have Ws:=(W A.in1 hh).toS;have hnl:n≤sizeLine:=by
  have h1:L.length=ns.length:=IntsAre.length hi;rw[en,h1,hp.length_eq];exact hk
 have key:∀(h3:Heap)(c:Nat),St 0 h3→(∀b o,s.heap.get? b=some o→h3.get? b=some o)→h3.get? s.heap.objs.size=some {cls:= .type "list",data:= .seq #[] c}→codeAny (model prog w) A (.builtin "list.extend.loop" ⟨[.ref s.heap.objs.size,.ref I,.ref s.heap.objs.size],[]⟩) (fun r s'=>match r with| .ok (.ret v)=>v= .ref s.heap.objs.size∧∃acc c',s'.heap.get? s.heap.objs.size=some {cls:= .type "list",data:= .seq acc c'}∧acc.toList=L∧(∀b o,s.heap.get? b=some o→s'.heap.get? b=some o)∧s'.gens=s.gens∧s'.os=s.os|_=>False) {s2 with heap:=h3}:=by
  intro h3 c st3 kp3 e3;refine codeAny_extend_loopS Ws hnl _ hSf _ n 0 _ #[] c rfl (Nat.zero_le _) st3 e3 (ItemsOf.nil _) fun s4 acc c4 mv e4 its=>⟨rfl,acc,c4,e4,?_,fun b o' e=>mv.heap b o' (fun z=>?_) (kp3 b o' e),mv.gens.trans eg,mv.os.trans eo⟩
  ·refine List.ext_getElem? fun j=>?_
   by_cases hj:j<n
   ·have hj':j<acc.size:=by rw[its.1];exact hj
    rw[Array.getElem?_toList,its.2 j _ (Array.getElem?_eq_getElem hj'),Array.getElem?_eq_getElem hj']
   ·rw[List.getElem?_eq_none (by rw[Array.length_toList,its.1];omega),List.getElem?_eq_none (by rw[←en];omega)]
  ·have hb:=Heap.lt_size e;rcases List.mem_cons.mp z with z|z
   ·exact Nat.lt_irrefl _ (z▸hb)
   ·rw[List.mem_singleton.mp z] at hb;exact absurd (Nat.le_trans (Nat.le_of_succ_le (by rw[Heap.size_push] at hge;exact hge)) (Nat.le_refl I)) (Nat.not_le_of_gt hb)
 refine wpAny_ite_split (fun _=>?_) (fun _=>wpAny_pure ⟨plainId_quiet PySem.F.plain_extend_loop _,codeAny_mono (key _ 0 st (fun b o e=>kp b o (Heap.get?_push_of_some _ e)) (by rw[hS2,←hN])) fun r s' z=>?fin⟩)
 case fin=>
  rcases r with e|f
  ·exact z.elim
  cases f with
  |ret v=>
   obtain⟨rfl,acc,c',e4,el,k4,g4,o4⟩:=z;refine wpAny_bind (wpAny_load e4 (wpAny_pure ?_));rw[el];exact q s' L ns hi hp k4 g4 o4
  |_=>exact z.elim
 refine wpAny_bind (wpAny_rule (wpAny_bind ?_));show wpAny _ _ (updateSeq s.heap.objs.size (·.push .none) >>= fun _=>updateSeq s.heap.objs.size (·.pop)) _ _ _;rw[←hN] at hS2;refine wpAny_bind (wpAny_updateSeq hS2 rfl ?_);have hS3:=Heap.get?_update_self (Obj.mapSeq (·.push Value.none)) hS2 rfl;refine wpAny_updateSeq (hz:=by seq_fits) hS3 rfl ?_;have hS4:=Heap.get?_update_self (Obj.mapSeq (·.pop)) hS3 rfl;have oth:∀b o,b≠s.heap.objs.size→s2.heap.get? b=some o→((s2.heap.update s.heap.objs.size (Obj.mapSeq (·.push Value.none))).update s.heap.objs.size (Obj.mapSeq (·.pop))).get? b=some o:=fun b o hb e=>
  (Heap.get?_update_other _ _ (Ne.symm hb)).trans ((Heap.get?_update_other _ _ (Ne.symm hb)).trans e)
 refine wpAny_pure ⟨plainId_quiet PySem.F.plain_extend_loop _,codeAny_mono (key _ _ ((W A hh).frame 0 _ _ st fun b hb o e=>oth b o (fun z=>hSf (z▸hb)) e) (fun b o e=>oth b o (Nat.ne_of_lt (Heap.lt_size e)) (kp b o (Heap.get?_push_of_some _ e))) hS4) fun r s' z=>?_⟩;rcases r with e|f
 ·exact z.elim
 cases f with
 |ret v=>
  obtain⟨rfl,acc,c',e4,el,k4,g4,o4⟩:=z;refine wpAny_bind (wpAny_load e4 (wpAny_pure ?_));rw[el];exact q s' L ns hi hp k4 g4 o4
 |_=>exact z.elim
end
end L2
namespace L2
open PySem PySem.Spec PyProof.Rows
section
theorem Zgs{l:List Int}{v:Int}(h:l.Nodup):(step_dedup l v).Nodup:=by
 unfold step_dedup
 split
 ·exact h
 ·rename_i z;refine List.nodup_append.mpr ⟨h,by simp,fun a ha b hb e=>?_⟩;rw[List.mem_singleton.mp hb] at e;exact z (by rw[List.any_eq_true];exact⟨a,ha,by simp[e]⟩)
theorem ZdX(val:Nat→Int):∀i,(firstMet val i).Nodup
 |0=>by rw[firstMet_zero];exact .nil
 |i+1=>by rw[firstMet_succ];exact Zgs (ZdX val i)
theorem Zj5(ns:List Int){x:Int}:x∈firstMet (fun i=>ns.getD i 0) ns.length↔x∈ns:=by
 have h:=firstMet_any (fun i=>ns.getD i 0) ns.length x;have e:(List.range ns.length).map (fun i=>ns.getD i 0)=ns:=by
  refine List.ext_getElem (by simp) fun i h1 h2=>?_;simp[List.getD,h2]
 rw[e] at h;have a1:∀l:List Int,(l.any (· ==x))=true↔x∈l:=fun l=>by simp
 rw[←a1,h,a1]
theorem ZiA{l:List Int}(h:l.Pairwise (· ≤·))(n:l.Nodup):l.Pairwise (· < ·):=by
 refine(List.pairwise_and_iff.mpr ⟨h,n⟩:l.Pairwise fun a b=>a≤b∧a≠b).imp fun z=>?_;omega
variable {X:Cx}{K:PySem.W.Frag}
noncomputable def ZcB (K:PySem.W.Frag):V→Hp→VK→Prop:=fun x H Q=>∃(l:Addr)(ns:List Int),x= .ref l∧SqL K H l (ns.map V.int)∧ns.length<64∧∀(p:Addr)(ms:List Int),H p=none→ms.Pairwise (· < ·)→(∀x,x∈ms↔x∈ns)→Q (.ref p) (upd H p (.lst (ms.map V.int)))
noncomputable def Zem (K:PySem.W.Frag) (ta:TA):TE:=fun σ H Q=>ta σ H fun vs H1=>∃x,vs=[x]∧ZcB K x H1 Q
theorem Zgd{a:Expr}{ta:TA}{p p1 pos pos1:Pos}(hK:X.K=K)(hc:X.calm=true)(hgl:Gl X "sorted")(hml:X.mg "sorted" =none)(hg:Gl X "set")(hm:X.mg "set" =none)(ha:PA X [a] ta)
  (hs:starEach [a] X.env=[(false,eval a X.env)]:=by rfl)
  (he:starEach [Expr.Call (.Name "set" p) [a] [] pos] X.env=(false,eval (.Call (.Name "set" p) [a] [] pos) X.env)::starEach [] X.env:=by rfl):
  PE X (.Call (.Name "sorted" p1) [.Call (.Name "set" p) [a] [] pos] [] pos1) (Zem K ta):=by
 subst hK;intro pins s σ H Q I h;refine Call_ (Uv I hgl hml PyProof.Rows.boot_sorted ?_);refine PyProof.Rows.callWith_builtin1 ?_ he;rw[he];show wpAny _ _ (spliced ((false,eval (.Call (.Name "set" p) [a] [] pos) X.env):: [])) _ _ s;refine Calls.spliced_cons (Call_ (Uv I hg hm boot_set (PyProof.Rows.callWith_type1 (thn (ha pos pins s σ H _ I h) fun us s1 ⟨vs,H1,I1,r1,q1⟩=>?_) hs rfl)));obtain⟨x,e,l,ns,rfl,hq,hb,q⟩:=q1;subst e;obtain⟨u,rfl,rx⟩:=WJ r1;cases rx;obtain⟨its,rv,pl,hz⟩:=I1.list hq;have hi:=ZaP rv;have hsz:its.toArray.size=ns.length:=by have:=rv.length;simpa using this.symm
 have hb':its.toArray.size+1<scanBound:=by rw[hsz];unfold scanBound;omega
 refine Ziy (I1.ok.hd hc) pl.isList hi hb' fun h' tk o ho hS hk=>?_;rw[hsz] at hS;refine Calls.spliced_nil ?_;have k1:∀b o,s1.heap.get? b=some o→h'.get? b=some o:=fun b o e=>hk b o (Heap.lt_size e) e;have I2:Inv X pins σ H1 {s1 with heap:=h',toks:=tk}:=I1.kept k1;generalize hM:firstMet (fun i=>ns.getD i 0) ns.length=M at hS;have Mnd:M.Nodup:=by rw[←hM];exact ZdX _ _
 have Mmem:∀x,x∈M↔x∈ns:=fun x=>by rw[←hM];exact Zj5 ns
 have Mlen:M.length≤ns.length:=by rw[←hM];exact Zhn _ _
 refine Calls.call_function_entry kind_sorted plain_sorted entry_sorted (args_sorted1 _) ?_;unfold Builtin.«sorted»;refine wpAny_bind (m:=checkCount "sorted" 1 1 _) (wpAny_pure ?_);refine wpAny_bind (ZfL (A:=X.A.in1) (I.ok.hd hc) ho hS (Nat.le_of_lt (Zs (n:=M.length) (by omega))) fun s3 L ms hms hpm k3 g3 o3=>?_);obtain⟨h3,gs3,d3,tk3,os3⟩:=s3;dsimp only at k3 g3 o3⊢;subst g3 o3;have k13:∀b o,s1.heap.get? b=some o→h3.get? b=some o:=fun b o e=>k3 b o (k1 b o e);have I3:Inv X pins σ H1 {s1 with heap:=h3,gens:=s1.gens,drawn:=d3,toks:=tk3}:=I1.call (ch:=[]) (Un.kept k13) (I1.hok.kept k13) I1.bare (fun _ z=>nomatch z);have hl:L.length=ms.length:=IntsAre.length hms;have hl2:ms.length≤ns.length:=by rw[hpm.length_eq];exact Mlen
 refine wpAny_bind (wpAny_newList ?_ (Nat.le_of_lt (Zs (n:=L.length) (by omega))));have hoL:(h3.push (seqObj "list" L.toArray 0)).get? h3.objs.size=some (seqObj "list" L.toArray 0):=Heap.get?_push_size _ rfl;refine wpAny_bind (wpAny_holding (wpAny_call_entry slot_list_sort ⟨_,hoL,rfl⟩ entry_list_sort (list_sort_tree hoL hms (by omega) fun out ns' a1 a2 a3=>⟨_,rfl,?_⟩) (args_list_sort _)));refine wpAny_pure ⟨_,rfl,?_⟩;obtain⟨e,he'⟩:=sortedHeap_at (out:=out) hoL;have hv':=ZbJ a1;have pm:ns'.Perm M:=a2.trans hpm;refine⟨.ref h3.objs.size,_,I3.laid (a:=h3.objs.size) (o:= .lst (ns'.map V.int)) (t':=tk3) (fun b o hb'=>?_) (Nat.le_refl _) ⟨by rw[List.length_map,a2.length_eq];exact Nat.le_of_lt (Zs (n:=ms.length) (by omega)),out.toList,e,hv',by simpa using he'⟩,rfl,q _ ns' (I3.hok.fresh (Nat.le_refl _)) (ZiA a3 (pm.nodup_iff.mpr Mnd)) fun x=>pm.mem_iff.trans (Mmem x)⟩;have hlt:=Heap.lt_size hb';rw[sortedHeap_old (Nat.ne_of_lt hlt) (by rw[size_push'];exact Nat.lt_succ_of_lt hlt)];exact Heap.get?_push_of_some _ hb'
end
namespace Rd
section
variable {K:PySem.W.Frag}{σ:St}{H:Hp}{Q:VK}
theorem ZmG{ta:TA}(h:ta σ H fun vs H1=>∃x,vs=[x]∧ZcB K x H1 Q):Zem K ta σ H Q:=h
theorem ZlA{l:Addr}{ns:List Int}(h:SqL K H l (ns.map V.int))(hl:ns.length<64)(q:∀(p:Addr)(ms:List Int),H p=none→ms.Pairwise (· < ·)→(∀x,x∈ms↔x∈ns)→Q (.ref p) (upd H p (.lst (ms.map V.int)))):∃x,[V.ref l]=[x]∧ZcB K x H Q:=⟨_,rfl,l,ns,rfl,h,hl,q⟩
end
end Rd
end L2
namespace L2
open PySem PySem.Spec PyProof.Rows
section
variable {X:Cx}{K:PySem.W.Frag}
noncomputable def rSetDef:V→List V→Hp→VK→Prop:=fun x vs H Q=>∃(a:Addr)(kvs:List (Key×V))(i:Int)(v:V),x= .ref a∧vs=[.int i,v]∧H a=some (.dK kvs)∧kvs.length<sizeLine∧(∀y,valV kvs (Sum.inl i)=some y→Q y H)∧(valV kvs (Sum.inl i)=none→Q v (upd H a (.dK (Z4 kvs (Sum.inl i) v))))
theorem Zho:MtR X "dict.setdefault" rSetDef:=by
 intro pins s σ H x xs v us Q I rx rs h;obtain⟨a,kvs,i,y,rfl,rfl,ha,hl,q1,q2⟩:=h;cases rx;obtain⟨u,t,rfl,ru,rt⟩:=rs.two;obtain⟨z,hd,vs,rel,dd⟩:=Zag I.hok ha;have hk:(ZO X.prog X.w).is (Sum.inl i) u=true:=ZaY (k:=Sum.inl i) ru;refine call_meetsIn PySem.F.slot_dict_setdefault dd.typeIs PySem.F.entry_dict_setdefault (PySem.F.args_dict_setdefault_3 _ _ _) (kt_meets_setdefault (ZO X.prog X.w) a hk hd t) ⟨vs,dd,by rw[←rel.length];exact z,fun w hw=>?_,fun hn h' dd' hs=>?_⟩
 ·cases e:valV kvs (Sum.inl i) with
  |none=>have:=rel.val (Sum.inl i:Key);rw[e,hw] at this;exact nomatch this
  |some y'=>
   obtain⟨w2,h2,r2⟩:=W1.some_of (v:=y') (o:=valueAt vs (Sum.inl i)) (by rw[←e];exact rel.val _);rw[hw] at h2;cases h2;exact⟨y',H,I.tok _,r2,q1 y' e⟩
 ·have hp:(Z4 kvs (Sum.inl i) y).length≤sizeLine:=by have:=Ud kvs (Sum.inl i:Key) y;omega
  have he:∃q,h'.get? a=some q:=let⟨q,_,_,hq,_⟩:=dd';⟨q,hq⟩
  exact⟨y,_,Zat (t':=s.toks+1) I (by rw[ha];exact True.intro) hs he (Zc5 hp hd (rel.put (Sum.inl i) rt) dd'),rt,q2 (by
   cases e:valV kvs (Sum.inl i) with
   |none=>rfl
   |some w=>have:=rel.val (Sum.inl i:Key);rw[e,hn] at this;exact nomatch this)⟩
noncomputable def rMinD:List V→Hp→VK→Prop:=fun xs H Q=>∃(a:Addr)(kvs:List (Key×V))(ks:List Int),xs=[V.ref a]∧H a=some (.dK kvs)∧kvs.map (·.1)=ks.map Sum.inl∧0<kvs.length∧∀M,M∈ks→(∀b∈ks,M≤b)→Q (.int M) H
theorem Zhh(hc:X.calm=true):YO X (.builtin "min") rMinD:=by
 intro pins s σ H xs us Q I r h;obtain⟨a,kvs,ks,rfl,ha,hks,h0,q⟩:=h;obtain⟨u,rfl,ru⟩:=WJ r;cases ru;obtain⟨z,hd,vs,rel,dd⟩:=Zag I.hok ha;obtain⟨ep,hat⟩:=dd.dictAt;have hkl:kvs.length=ks.length:=by have:=congrArg List.length hks;simpa using this
 have hvl:vs.length=ks.length:=by rw[←rel.length,hkl]
 have hlt:a<s.heap.objs.size:=hat.lt_size;have key:∀(j:Nat)(v:Value),(∃k x,vs[j]? =some (k,x)∧(ZO X.prog X.w).is k v=true)→∃t,v= .int (ks.getD j 0) t:=by
  rintro j v ⟨k,x,hx,hv⟩;obtain⟨v',hv'⟩:=rel.at hx;have hj:(kvs.map (·.1))[j]? =some k:=by rw[List.getElem?_map,hv'];rfl
  rw[hks,List.getElem?_map] at hj;cases e:ks[j]? with
  |none=>rw[e] at hj;cases hj
  |some n=>
   rw[e] at hj;cases hj;have en:ks.getD j 0=n:=by simp[List.getD,e]
   rw[en];exact Value.isInt_shape hv
 refine call_min_walk (wpAny_pyIter_dict hd hat ?_);refine⟨s.heap.objs.size,[s.heap.objs.size,a],[s.heap.objs.size],_,_,_,_,rfl,PySem.Walks.dictKeys (A:=X.A.in1) (knd:=ZO X.prog X.w) (I.ok.hd hc) _ a (Nat.ne_of_lt hlt) vs ep,⟨⟨_,Heap.get?_push_size _ rfl,rfl,rfl⟩,hat.push _⟩,fun b hb=>?_,by omega,CmpOf.ints_lt (fun i=>ks.getD i 0) key,fun v h' tk hP hk=>?_⟩
 ·show b<(s.heap.push _).objs.size;rw[Heap.size_push];rcases List.mem_cons.mp hb with rfl|hb
  ·exact Nat.lt_succ_self _
  ·rw[List.mem_singleton.mp hb];exact Nat.lt_succ_of_lt hlt
 ·obtain⟨t,rfl⟩:=key _ _ hP;obtain⟨h1,h2⟩:=argBest_lt (fun i=>ks.getD i 0) (vs.length-1);refine⟨.int _,H,I.kept (ZfX hk),⟨t,rfl⟩,q _ ?_ fun b hb=>?_⟩
  ·have hl2:argBest (fun i j=>decide (ks.getD i 0<ks.getD j 0)) (vs.length-1)<ks.length:=by omega
   rw[List.getD_eq_getElem?_getD,List.getElem?_eq_getElem hl2];exact List.getElem_mem hl2
  ·obtain⟨j,hj,rfl⟩:=List.getElem_of_mem hb;have:=h2 j (by omega);have e:ks.getD j 0=ks[j]:=by simp[List.getD,hj]
   rw[←e];exact this
theorem Zkw(hc:X.calm=true):YO X (.builtin "min") rMinD:=Zhh hc
end
namespace Rd
section
variable {H:Hp}{Q:VK}
theorem Zmj{a:Addr}{kvs:List (Key×V)}{ks:List Int}(h:H a=some (.dK kvs))(e:kvs.map (·.1)=ks.map Sum.inl)(h0:0<kvs.length)(q:∀M,M∈ks→(∀b∈ks,M≤b)→Q (.int M) H):rMinD [.ref a] H Q:=⟨a,kvs,ks,rfl,h,e,h0,q⟩
theorem ZkM{a:Addr}{kvs:List (Key×V)}{i:Int}{v:V}(h:H a=some (.dK kvs))(hl:kvs.length<sizeLine)(q1:∀y,valV kvs (Sum.inl i)=some y→Q y H)(q2:valV kvs (Sum.inl i)=none→Q v (upd H a (.dK (Z4 kvs (Sum.inl i) v)))):rSetDef (.ref a) [.int i,v] H Q:=⟨a,kvs,i,v,rfl,rfl,h,hl,q1,q2⟩
end
end Rd
end L2
namespace My
@[irreducible] noncomputable def G (a b:Int):Int:=((Int.gcd a b:Nat):Int)
theorem Zed(n m:Nat):G (n:Int) (m:Int)=((Nat.gcd n m:Nat):Int):=by
 unfold G
 rfl
theorem Zk7{a b:Int}(ha:0≤a)(hb:b=0):G a b=a:=by
 subst hb;obtain⟨n,rfl⟩:=Int.eq_ofNat_of_zero_le ha;have:=Zed n 0;rw[Nat.gcd_zero_right] at this;exact this
theorem Zkc{a b:Int}(ha:0≤a)(hb:0<b):G b (Int.fmod a b)=G a b:=by
 obtain⟨n,rfl⟩:=Int.eq_ofNat_of_zero_le ha;obtain⟨m,rfl⟩:=Int.eq_ofNat_of_zero_le (Int.le_of_lt hb);rw[Int.fmod_eq_emod_of_nonneg _ (Int.natCast_nonneg m),←Int.natCast_emod,Zed,Zed,Nat.gcd_comm n m,Nat.gcd_rec m n,Nat.gcd_comm]
structure S(k:Nat)(x:Int):Prop where
 lo:0≤x
 hi:x.toNat<2 ^ (2048*2 ^ k)
theorem Zle{j k:Nat}(h:j≤k):2 ^ (2048*2 ^ j)≤2 ^ (2048*2 ^ k):=
 Nat.pow_le_pow_right (by decide) (Nat.mul_le_mul_left _ (Nat.pow_le_pow_right (by decide) h))
theorem S.mono{j k:Nat}{x:Int}(h:S j x)(hj:j≤k):S k x:=⟨h.lo,Nat.lt_of_lt_of_le h.hi (Zle hj)⟩
end My
namespace Fo
noncomputable abbrev Trip:=Int×Int×Bool
noncomputable abbrev ZG:=List (Int×Option Trip)
noncomputable def keys (tr:ZG):List Int:=tr.map (·.1)
theorem Zae(tr:ZG)(w:Int)(s:Option Trip):keys (tr++ [(w,s)])=keys tr++ [w]:=by simp[keys]
theorem Wy{tr:ZG}{i:Nat}{w:Int}{s:Option Trip}(h:tr[i]? =some (w,s)):w∈keys tr:=List.mem_map.mpr ⟨(w,s),List.mem_of_getElem? h,rfl⟩
theorem V9{tr:ZG}{w:Int}(h:w∈keys tr):∃(i:Nat)(s:Option Trip),tr[i]? =some (w,s):=by
 obtain⟨⟨w',s⟩,hm,rfl⟩:=List.mem_map.mp h;obtain⟨i,hi⟩:=List.getElem?_of_mem hm;exact⟨i,s,hi⟩
structure Z2(ways:Int→List Trip)(first:Int)(tr:ZG):Prop where
 head:tr[0]? =some (first,none)
 nodup:(keys tr).Nodup
 steps:∀(i:Nat)(w p b:Int)(al:Bool),tr[i]? =some (w,some (p,b,al))→(w,b,al)∈ways p∧∃(j:Nat)(s:Option Trip),j<i∧tr[j]? =some (p,s)
 only:∀(i:Nat)(w:Int),tr[i]? =some (w,none)→i=0
def UE(ways:Int→List Trip)(tr:ZG)(d:Nat):Prop:=∀(j:Nat)(w:Int)(s:Option Trip),j<d→tr[j]? =some (w,s)→∀t∈ways w,t.1∈keys tr
section
variable {ways:Int→List Trip}{first:Int}{tr:ZG}
theorem Zia:Z2 ways first [(first,none)]:=by
 refine⟨rfl,by simp[keys],fun i w p b al h=>?_,fun i w h=>?_⟩
 ·cases i with
  |zero=>simp at h
  |succ i=>simp at h
 ·cases i with
  |zero=>rfl
  |succ i=>simp at h
theorem Zdm{tr:ZG}{x y:Int×Option Trip}{i:Nat}(h:(tr++ [x])[i]? =some y):tr[i]? =some y∨(i=tr.length∧y=x):=by
 rcases Nat.lt_or_ge i tr.length with c|c
 ·rw[List.getElem?_append_left c] at h;exact .inl h
 ·rw[List.getElem?_append_right c] at h;have:i-tr.length=0:=by
   rcases Nat.eq_zero_or_pos (i-tr.length) with z|z
   ·exact z
   ·rw[List.getElem?_eq_none (by simp;omega)] at h;cases h
  rw[this] at h;simp at h;exact .inr ⟨by omega,h.symm⟩
theorem ZbV{tr:ZG}{x y:Int×Option Trip}{i:Nat}(h:tr[i]? =some y):(tr++ [x])[i]? =some y:=by
 rw[List.getElem?_append_left (List.getElem?_eq_some_iff.mp h).1];exact h
theorem Z2.snoc(g:Z2 ways first tr){w p b:Int}{al:Bool}{j:Nat}{s:Option Trip}(hp:tr[j]? =some (p,s))(hw:(w,b,al)∈ways p)(hn:w∉keys tr):Z2 ways first (tr++ [(w,some (p,b,al))]):=by
 have hj:=(List.getElem?_eq_some_iff.mp hp).1;refine⟨ZbV g.head,?_,fun i w' p' b' al' h=>?_,fun i w' h=>?_⟩
 ·rw[Zae];refine List.nodup_append.mpr ⟨g.nodup,by simp,fun x hx y hy=>?_⟩;rw[List.mem_singleton.mp hy];intro e;exact hn (e▸hx)
 ·rcases Zdm h with z|⟨rfl,z⟩
  ·obtain⟨h1,j',s',h2,h3⟩:=g.steps i w' p' b' al' z;exact⟨h1,j',s',h2,ZbV h3⟩
  ·cases z;exact⟨hw,j,s,hj,ZbV hp⟩
 ·rcases Zdm h with z|⟨rfl,z⟩
  ·exact g.only i w' z
  ·cases z
theorem UE.snoc{d:Nat}(h:UE ways tr d)(hd:d≤tr.length)(w:Int)(s:Option Trip):UE ways (tr++ [(w,s)]) d:=fun j w' s' hj e t ht=>by
 rw[Zae];refine List.mem_append_left _ ?_;rcases Zdm e with z|⟨rfl,_⟩
 ·exact h j w' s' hj z t ht
 ·omega
theorem UE.next{d:Nat}{w:Int}{s:Option Trip}(h:UE ways tr d)(e:tr[d]? =some (w,s))(all:∀t∈ways w,t.1∈keys tr):UE ways tr (d+1):=fun j w' s' hj e' t ht=>by
 rcases Nat.lt_succ_iff_lt_or_eq.mp hj with z|rfl
 ·exact h j w' s' z e' t ht
 ·rw[e] at e';cases e';exact all t ht
inductive Va(ways:Int→List Trip)(a:Int):Int→Prop
 |refl:Va ways a a
 |step {b c:Int} {t:Int} {al:Bool}:Va ways a b→(c,t,al)∈ways b→Va ways a c
theorem Va.trans{a b c:Int}(h:Va ways a b)(k:Va ways b c):Va ways a c:=by
 induction k with
 |refl=>exact h
 |step _ e ih=>exact .step ih e
def ZiL(ways:Int→List Trip):Prop:=∀(a b t:Int)(al:Bool),(b,t,al)∈ways a→(a,t,!al)∈ways b
theorem Va.symm(hb:ZiL ways){a b:Int}(h:Va ways a b):Va ways b a:=by
 induction h with
 |refl=>exact .refl
 |step _ e ih=>exact(Va.step .refl (hb _ _ _ _ e)).trans ih
theorem Z2.hang(g:Z2 ways first tr):∀(i:Nat)(w:Int)(s:Option Trip),tr[i]? =some (w,s)→Va ways first w:=by
 intro i
 induction i using Nat.strongRecOn with
 |_ i ih=>
  intro w s h;cases s with
  |none=>
   have:=g.only i w h;subst this;rw[g.head] at h;cases h;exact .refl
  |some x=>
   obtain⟨p,b,al⟩:=x;obtain⟨h1,j,s',h2,h3⟩:=g.steps i w p b al h;exact .step (ih j h2 p s' h3) h1
theorem Z2.keys_iff(g:Z2 ways first tr)(c:UE ways tr tr.length)(w:Int):w∈keys tr↔Va ways first w:=by
 constructor
 ·intro h;obtain⟨i,s,hi⟩:=V9 h;exact g.hang i w s hi
 ·intro h
  induction h with
  |refl=>exact Wy g.head
  |step _ e ih=>
   obtain⟨i,s,hi⟩:=V9 ih;exact c i _ s (List.getElem?_eq_some_iff.mp hi).1 hi _ e
theorem Z2.rg(g:Z2 ways first tr){n:Int}(h0:0≤first∧first<n)(hw:∀a,∀t∈ways a,0≤t.1∧t.1<n):∀w∈keys tr,0≤w∧w<n:=by
 intro w h;obtain⟨i,s,hi⟩:=V9 h;have:=g.hang i w s hi;cases this with
 |refl=>exact h0
 |step _ e=>exact hw _ _ e
theorem UA{ks:List Int}{n:Nat}(nd:ks.Nodup)(h:∀w∈ks,0≤w∧w<(n:Int)):ks.length≤n:=by
 have h1:=nd.length_le_of_subset (l₂:=(List.range n).map fun i:Nat=>(i:Int)) (fun w hw=>by
  obtain⟨a,b⟩:=h w hw;exact List.mem_map.mpr ⟨w.toNat,List.mem_range.mpr (by omega),by omega⟩)
 simpa using h1
end
structure WM(ways:Int→List Trip)(n:Nat)(F:List (Int×ZG))(i:Nat):Prop where
 tree:∀x∈F,Z2 ways x.1 x.2∧UE ways x.2 x.2.length∧0≤x.1∧x.1<(i:Int)
 all:∀w:Int,0≤w→w<(i:Int)→∃x∈F,w∈keys x.2
 rise:F.Pairwise fun x y=>x.1<y.1
 least:∀x∈F,∀w∈keys x.2,x.1≤w
section
variable {ways:Int→List Trip}{n i:Nat}{F:List (Int×ZG)}
theorem Ziz:WM ways n [] 0:=⟨by simp,fun w h0 h1=>by omega,.nil,by simp⟩
theorem WM.skip(h:WM ways n F i)(hi:∃x∈F,(i:Int)∈keys x.2):WM ways n F (i+1):=
 ⟨fun x hx=>by obtain⟨a,b,c,d⟩:=h.tree x hx;exact⟨a,b,c,by omega⟩,fun w h0 h1=>by
  by_cases e:w=(i:Int)
  ·rw[e];exact hi
  ·exact h.all w h0 (by omega),h.rise,h.least⟩
theorem WM.grow(hb:ZiL ways)(hw:∀a,∀t∈ways a,0≤t.1∧t.1<(n:Int))(hin:i<n)(h:WM ways n F i)(hi:∀x∈F,(i:Int)∉keys x.2){tr:ZG}(g:Z2 ways i tr)(c:UE ways tr tr.length):WM ways n (F++ [((i:Int),tr)]) (i+1):=by
 refine⟨fun x hx=>?_,fun w h0 h1=>?_,List.pairwise_append.mpr ⟨h.rise,by simp,fun x hx y hy=>?_⟩,fun x hx=>?_⟩
 ·rcases List.mem_append.mp hx with z|z
  ·obtain⟨a,b,c,d⟩:=h.tree x z;exact⟨a,b,c,by omega⟩
  ·rw[List.mem_singleton.mp z];exact⟨g,c,by simp,by simp;omega⟩
 ·by_cases e:w=(i:Int)
  ·exact⟨_,List.mem_append_right _ (List.mem_singleton.mpr rfl),by rw[e];exact Wy g.head⟩
  ·obtain⟨x,hx,hk⟩:=h.all w h0 (by omega);exact⟨x,List.mem_append_left _ hx,hk⟩
 ·rw[List.mem_singleton.mp hy];exact(h.tree x hx).2.2.2
 ·rcases List.mem_append.mp hx with z|z
  ·exact h.least x z
  ·rw[List.mem_singleton.mp z];intro w hk;rcases Int.lt_or_le w (i:Int) with y|y
   ·exfalso;have hr:=g.rg ⟨by omega,by omega⟩ hw w hk;obtain⟨x',hx',hk'⟩:=h.all w hr.1 y;obtain⟨g',c',_,_⟩:=h.tree x' hx';have h1:=(g'.keys_iff c' w).mp hk';have h2:=((g.keys_iff c w).mp hk).symm hb;exact hi x' hx' ((g'.keys_iff c' _).mpr (h1.trans h2))
   ·exact y
end
end Fo
namespace Fire
noncomputable def bump (c:Nat→Nat) (w:Nat):Nat→Nat:=fun v=>if v=w then c v+1 else c v
theorem Ux(c:Nat→Nat)(w:Nat):bump c w w=c w+1:=by simp[bump]
theorem VZ(c:Nat→Nat){v w:Nat}(h:v≠w):bump c w v=c v:=by simp[bump,h]
inductive Ys(R:(Nat→Nat)→Nat→Prop):(Nat→Nat)→List Nat→(Nat→Nat)→Prop
 |nil (c:Nat→Nat):Ys R c [] c
 |cons {c d:Nat→Nat} {w:Nat} {ws:List Nat}:R c w→Ys R (bump c w) ws d→Ys R c (w::ws) d
variable {R:(Nat→Nat)→Nat→Prop}
theorem Ys.app{c d e:Nat→Nat}{ws ws':List Nat}(h:Ys R c ws d)(h':Ys R d ws' e):Ys R c (ws++ws') e:=by
 induction h with
 |nil c=>exact h'
 |cons r _ ih=>exact .cons r (ih h')
theorem Ys.snoc{c d:Nat→Nat}{ws:List Nat}{w:Nat}(h:Ys R c ws d)(r:R d w):Ys R c (ws++ [w]) (bump d w):=h.app (.cons r (.nil _))
theorem Ys.count{c d:Nat→Nat}{ws:List Nat}(h:Ys R c ws d):∀v,d v=c v+ws.count v:=by
 induction h with
 |nil c=>intro v;simp
 | @cons c d w ws r _ ih=>
  intro v;rw[ih v]
  by_cases hv:v=w
  ·subst hv;rw[Ux,List.count_cons_self];omega
  ·rw[VZ c hv,List.count_cons_of_ne (Ne.symm hv)]
structure Belt where
 giver:Nat
 taker:Nat
 give:Int
 take:Int
 start:Int
noncomputable def lie (b:Belt) (c:Nat→Nat):Int:=b.start+b.give*(c b.giver:Int)-b.take*(c b.taker:Int)
def ZlO(bs:List Belt)(c:Nat→Nat)(w:Nat):Prop:=∀b∈bs,b.taker=w→b.take≤lie b c
def May(bs:List Belt)(n:Nat)(rate:Nat→Nat)(c:Nat→Nat)(w:Nat):Prop:=w<n∧c w<rate w∧ZlO bs c w
def Bal(bs:List Belt)(rate:Nat→Nat):Prop:=∀b∈bs,b.give*(rate b.giver:Int)=b.take*(rate b.taker:Int)
theorem ZfB{bs:List Belt}{rate c:Nat→Nat}{b:Belt}(hb:b∈bs)(bal:Bal bs rate)(hs:0≤b.start)(ht:0≤b.take)(le:c b.giver≤rate b.giver)(tl:c b.taker<rate b.taker)(short:lie b c<b.take):c b.giver<rate b.giver:=by
 rcases Nat.lt_or_ge (c b.giver) (rate b.giver) with h|h
 ·exact h
 ·exfalso;have e:c b.giver=rate b.giver:=by omega
  unfold lie at short;rw[e,bal b hb] at short;have:b.take*((c b.taker:Int)+1)≤b.take*(rate b.taker:Int):=Int.mul_le_mul_of_nonneg_left (by omega) ht;rw[Int.mul_add,Int.mul_one] at this;omega
end Fire
set_option Elab.async false
set_option linter.all false
set_option maxRecDepth 100000
set_option maxHeartbeats 4000000
local macro_rules| `(tactic|walk_at "mul")=>`(tactic|k_dflt (first|with_reducible assumption|exact L2.Zg4.ok (Or.inr ⟨by omega,by omega⟩)|exact L2.Zg4.ok (Or.inl ⟨by omega,by omega⟩)))
local macro_rules| `(tactic|walk_at "lk")=>`(tactic|first|exact L2.Rd.lk0|exact L2.Rd.lkN|(refine L2.Rd.lk1 (by decide+kernel) ?_;walk_at "lk"))
local macro_rules| `(tactic|walk_at "pf")=>`(tactic|first|exact L2.Rd.pfN|(apply L2.Rd.pf1;(decide+kernel);walk_at "pf"))
local macro_rules| `(tactic|walk_at "na")=>`(tactic|exact L2.ZaA.get (by with_reducible assumption) (by decide+kernel))
local macro_rules| `(tactic|walk_at "cond")=>`(tactic|k_dflt (first|with_reducible assumption|decide|omega|(simp;done)|(simp only[List.length_cons,List.length_nil,List.length_map,List.length_append];omega)))
local macro_rules| `(tactic|walk_at "rdis")=>`(tactic|((with_reducible show ∃x n t b,_=_∧L2.Wu _ _ x t∧_);first|with_reducible apply L2.Rd.ZgO|with_reducible apply L2.Rd.ZfC|with_reducible apply L2.Rd.is_int_str|with_reducible apply L2.Rd.is_int_list|with_reducible apply L2.Rd.is_int_tuple|with_reducible apply L2.Rd.is_int_dict|with_reducible apply L2.Rd.is_bl_int|with_reducible apply L2.Rd.is_bl_bool|with_reducible apply L2.Rd.is_bl_str|with_reducible apply L2.Rd.is_bl_list|with_reducible apply L2.Rd.is_bl_tuple|with_reducible apply L2.Rd.is_bl_dict|with_reducible apply L2.Rd.is_str_int|with_reducible apply L2.Rd.is_str_bool|with_reducible apply L2.Rd.Zgi|with_reducible apply L2.Rd.is_str_list|with_reducible apply L2.Rd.is_str_tuple|with_reducible apply L2.Rd.is_str_dict|with_reducible apply L2.Rd.is_non_int|with_reducible apply L2.Rd.is_non_bool|with_reducible apply L2.Rd.is_non_str|with_reducible apply L2.Rd.is_non_list|with_reducible apply L2.Rd.is_non_tuple|with_reducible apply L2.Rd.is_non_dict|with_reducible refine L2.Rd.is_lst_int (by with_reducible assumption) ?_|with_reducible refine L2.Rd.is_lst_bool (by with_reducible assumption) ?_|with_reducible refine L2.Rd.is_lst_str (by with_reducible assumption) ?_|with_reducible refine L2.Rd.is_lst_list (by with_reducible assumption) ?_|with_reducible refine L2.Rd.is_lst_tuple (by with_reducible assumption) ?_|with_reducible refine L2.Rd.is_lst_dict (by with_reducible assumption) ?_|with_reducible refine L2.Rd.is_tup_int (by with_reducible assumption) ?_|with_reducible refine L2.Rd.is_tup_bool (by with_reducible assumption) ?_|with_reducible refine L2.Rd.is_tup_str (by with_reducible assumption) ?_|with_reducible refine L2.Rd.is_tup_list (by with_reducible assumption) ?_|with_reducible refine L2.Rd.is_tup_tuple (by with_reducible assumption) ?_|with_reducible refine L2.Rd.is_tup_dict (by with_reducible assumption) ?_|with_reducible refine L2.Rd.is_dK_int (by with_reducible assumption) ?_|with_reducible refine L2.Rd.is_dK_bool (by with_reducible assumption) ?_|with_reducible refine L2.Rd.is_dK_str (by with_reducible assumption) ?_|with_reducible refine L2.Rd.is_dK_list (by with_reducible assumption) ?_|with_reducible refine L2.Rd.is_dK_tuple (by with_reducible assumption) ?_|with_reducible refine L2.Rd.is_dK_dict (by with_reducible assumption) ?_))
local macro_rules| `(tactic|walk_at "side")=>`(tactic|k_dflt (first|with_reducible assumption|decide|(dsimp only;decide)|(dsimp only[L2.ZkD];decide)|omega|(dsimp only;omega)))
local macro_rules| `(tactic|walk_at "hp")=>`(tactic|with_reducible (first|assumption|((show L2.SqL _ _ _ _);(first|exact L2.SqL.of (by assumption)|exact L2.Ww.sq (by assumption)|exact L2.Zd.seq (by assumption) (by assumption)))|((show L2.SqT _ _ _ _);(first|exact L2.SqT.of (by assumption)|exact L2.OffT.sq (by assumption)|exact L2.Zd.seqT (by assumption) (by assumption)))))
local macro_rules| `(tactic|walk_at "rd")=>`(tactic|first|with_reducible (first|apply L2.Rd.seq|apply L2.Rd.asg|apply L2.Rd.ret|apply L2.Rd.ifs|apply L2.Rd.next|apply L2.Rd.drop|apply L2.Rd.op|apply L2.Rd.ZmB|apply L2.Rd.con|(show L2.Zgc _ _ _ _;refine L2.Rd.var (by k_dflt rfl) ?_)|(show L2.UG _ _ _ _ _;refine L2.Rd.Zlp (by k_dflt (dsimp only[L2.start,List.map_cons,List.map_nil,List.cons_append,List.nil_append,List.length_cons,List.length_nil,Nat.reduceAdd,Nat.reduceSub,List.replicate,List.set];(try rfl))) ?_)|apply L2.Rd.call|apply L2.Rd.cons|apply L2.Rd.nil|apply L2.Rd.cb|apply L2.Rd.tup|apply L2.Rd.lst|apply L2.Rd.Zmv|apply L2.Rd.or_|apply L2.Rd.Zmg|apply L2.Rd.ZmA|apply L2.Rd.ZlW|apply L2.Rd.i0|(show L2.rI _ _ _ _ _ _;refine L2.Rd.iC (by walk_at "side") ?_)|apply L2.Rd.bl|apply L2.Rd.Zmy|(show L2.rOr L2.ZgY _ _ _ _ _;refine L2.Rd.Zmc (by walk_at "mul") ?_)|apply L2.Rd.ZlU|apply L2.Rd.Zmm|apply L2.Rd.ZmK|apply L2.Rd.Zl9|(show L2.rIx _ _ _ _ _;refine L2.Rd.ZmF (by walk_at "hp") (by k_dflt rfl) ?_)|(show L2.rIx _ _ _ _ _;refine L2.Rd.Zk6 (by walk_at "hp") (by k_dflt (first|rfl|with_reducible assumption)) ?_)|(show ∃a,L2.V.ref _=L2.V.ref a∧(∃xs,L2.SqL _ _ a xs)∧_;refine L2.Rd.Zk1 (by walk_at "hp") ?_)|(show ∃k,[L2.V.int _]=[L2.V.int k]∧_;refine L2.Rd.ZlI (by k_dflt omega) (by k_dflt omega) ?_)|apply L2.Rd.Zmt|(show ∃x n,_=_∧L2.ZcA _ x _ n∧_;refine L2.Rd.ZmH (by walk_at "hp") ?_)|(show ∃x n,_=_∧L2.ZcA _ x _ n∧_;refine L2.Rd.Zmi (by walk_at "side") ?_))|walk_at "rdis" |with_reducible (first|apply L2.Rd.Zl5|apply L2.Rd.tru|apply L2.Rd.Zmh|apply L2.Rd.Zme|apply L2.Rd.Zmz|apply L2.Rd.bm|apply L2.Rd.bm0|(show L2.tyV _ _ _ _∧_;refine L2.Rd.tyl (by with_reducible assumption) ?_)|(show L2.rAppend _ _ _ _;refine L2.Rd.app (by with_reducible assumption) (by walk_at "side") ?_)|apply L2.ZeZ|apply L2.Zdv|apply L2.Rd.Zjv|apply L2.Rd.Zjj|(show if decide _=true then _ else _;refine L2.Rd.ifP (by walk_at "cond") ?_)|(show if decide _=true then _ else _;refine L2.Rd.ifN (by walk_at "cond") ?_)|(show if(!decide _)=true then _ else _;refine L2.Rd.ZmI (by walk_at "cond") ?_)|apply L2.Rd.sl|apply L2.Rd.ZkI|apply L2.Rd.Zl8|apply L2.Rd.Zlv|(show L2.ZeJ _ _ _ _ _ _;refine L2.Rd.slS (by walk_at "side") ?_)|apply L2.Rd.Zmw|(show ∃a C dx fs v,L2.V.ref _=L2.V.ref a∧_=some (L2.HO.ins C dx fs)∧L2.Cls _ C∧_;refine L2.Rd.fld (by with_reducible assumption) (by with_reducible assumption) (by k_dflt (walk_at "na")) (by k_dflt (walk_at "lk")) ?_)|(show L2.Zev _ _ _ _ _ _ _ _;refine L2.Rd.Zln (by k_dflt rfl) ?_)|apply L2.Rd.Zma|(show L2.rSetL _ _ _ _ _;refine L2.Rd.Zms (by with_reducible assumption) (by k_dflt omega) (by walk_at "cond") ?_)|apply L2.Rd.Zlt|apply L2.Rd.ZlH|apply L2.Rd.Zl7|(show ∃a C dx fs,L2.V.ref _=L2.V.ref a∧_=some (L2.HO.ins C dx fs)∧L2.Cls _ C∧_;refine L2.Rd.ZlN (by with_reducible (first|assumption|exact L2.Zf)) (by with_reducible assumption) (by k_dflt (walk_at "na")) (by k_dflt (simp only[List.length_cons,List.length_nil];decide)) (by k_dflt (walk_at "pf")) ?_)|apply L2.Rd.Zlz|apply L2.Rd.Zkx|apply L2.Rd.Zly|apply L2.Rd.Zl6|apply L2.Rd.ZlD|apply L2.Rd.ZlZ|apply L2.Rd.ZlE|(show ∃p bs,[L2.V.ref _]=[L2.V.ref p]∧L2.SqL _ _ p (List.map L2.V.bl bs)∧_;refine L2.Rd.ZmC (by walk_at "hp") ?_)|apply L2.Rd.leS|apply L2.Rd.ZlG)|((with_reducible show if(!(_==_))=true then _ else _);first|refine L2.Rd.Zjv ?_|refine L2.Rd.Zjj ?_)|((with_reducible show if(_==_)=true then _ else _);first|refine L2.ZeZ ?_|refine L2.Zdv ?_)|with_reducible (first|apply L2.Rd.Zlc|apply L2.Rd.ZlR|(show ∃a,_=_∧(∃xs,L2.SqL _ _ a xs)∧_;refine L2.Rd.Zky (by walk_at "hp") ?_)|apply L2.Rd.Zmo)|((with_reducible show L2.rDIn _ _ _ _);first|with_reducible refine L2.Rd.Zl4 (by with_reducible assumption) ?_|with_reducible refine L2.Rd.dinI (by with_reducible assumption) ?_)|((with_reducible show L2.rDNotIn _ _ _ _);first|with_reducible refine L2.Rd.dninS (by with_reducible assumption) ?_|with_reducible refine L2.Rd.ZlM (by with_reducible assumption) ?_)|((with_reducible show L2.rIxD _ _ _ _);first|with_reducible refine L2.Rd.dgetS (by with_reducible assumption) (by with_reducible assumption) ?_|with_reducible refine L2.Rd.Zlw (by with_reducible assumption) (by with_reducible assumption) ?_)|((with_reducible show L2.rSetD _ _ _ _ _);first|with_reducible refine L2.Rd.ZlQ (by with_reducible assumption) (by walk_at "side") ?_|with_reducible refine L2.Rd.ZlF (by with_reducible assumption) (by walk_at "side") ?_)|with_reducible (first|(show L2.rLenD _ _ _;refine L2.Rd.Zl1 (by with_reducible assumption) ?_)|(show L2.rListD _ _ _;refine L2.Rd.ZlB (by with_reducible assumption) ?_)|apply L2.Rd.ZmE|apply L2.Rd.ipi|(show L2.Zdr _ _ _ _ _;refine L2.Rd.ixl (by walk_at "hp") (by k_dflt (first|rfl|with_reducible assumption)) ?_)|apply L2.Rd.ZlV|apply L2.Rd.Zmp|apply L2.Rd.Zmk|apply L2.Rd.ZlP))
local macro_rules| `(tactic|walk_at "rds")=>`(tactic|repeat' (walk_at "rd"))
namespace Nm
open PySem L2
noncomputable def top (i:Nat):Stmt:=PySem.Challenge.pw_ratehall_k15_no_round_refused.main.body.getD i (.Pass ⟨0,0,0,0⟩)
noncomputable abbrev Za2:Stmt:=top 54
noncomputable abbrev Zac:Stmt:=top 56
noncomputable abbrev VD:Stmt:=Yo (top 51) 7
noncomputable abbrev Vd:Stmt:=top 42
noncomputable abbrev Vy:Stmt:=Yo (top 51) 5
noncomputable abbrev Us:Stmt:=top 27
noncomputable abbrev Uc:Stmt:=top 28
noncomputable abbrev Ue:Stmt:=top 26
noncomputable abbrev Zad:Stmt:=top 14
noncomputable abbrev ZbR:Stmt:=top 16
noncomputable abbrev ZbL:Stmt:=top 17
noncomputable abbrev Zc3:Stmt:=top 35
noncomputable abbrev UQ:Stmt:=top 18
noncomputable abbrev Zan:Stmt:=top 19
noncomputable abbrev We:Stmt:=top 20
noncomputable abbrev Wt:Stmt:=Yo (top 51) 12
noncomputable abbrev W6:Stmt:=Yo (top 51) 8
noncomputable abbrev Ua:Stmt:=top 34
noncomputable abbrev UK:Stmt:=top 15
noncomputable abbrev VR:Stmt:=top 33
noncomputable abbrev Vb:Stmt:=top 31
noncomputable abbrev ZaR:Stmt:=top 29
noncomputable abbrev W5:Stmt:=top 37
noncomputable abbrev YV:Stmt:=top 36
noncomputable abbrev UO:Stmt:=top 32
noncomputable abbrev Vj:Stmt:=top 41
noncomputable abbrev U8:Stmt:=top 24
noncomputable abbrev YL:Stmt:=Yo (top 43) 2
noncomputable abbrev YB:Stmt:=Yo (top 43) 4
noncomputable abbrev YM:Stmt:=Yo (top 43) 3
noncomputable abbrev Yz:Stmt:=Yo (top 43) 1
noncomputable abbrev Wx:Stmt:=Yo (top 51) 11
noncomputable abbrev Y7:Stmt:=Yo (top 51) 9
noncomputable abbrev Vx:Stmt:=top 22
noncomputable abbrev Wh:Stmt:=Yo (top 51) 10
noncomputable abbrev VM:Stmt:=top 23
noncomputable abbrev WO:Stmt:=top 44
noncomputable abbrev YF:Stmt:=Yo (top 43) 0
noncomputable abbrev UH:Stmt:=top 40
noncomputable abbrev ZaV:Stmt:=top 55
noncomputable abbrev YY:Stmt:=top 57
noncomputable abbrev VG:Stmt:=top 52
noncomputable abbrev UI:Stmt:=Yo (top 51) 3
noncomputable abbrev Ug:Stmt:=Yo (top 51) 2
noncomputable abbrev Uu:Stmt:=top 47
noncomputable abbrev Uh:Stmt:=Yo (top 51) 1
noncomputable abbrev Ub:Stmt:=Yo (top 51) 0
noncomputable abbrev Zef:Stmt:=top 58
theorem Zhb:Zr ["_law_script","_law_k"] ["_law_script","_law_k"] (Zi Za2):=⟨rfl,rfl,rfl,by decide+kernel,rfl,by decide+kernel,by decide+kernel⟩
theorem Zc1:Zr ["_law_script","_law_cell_here"] ["_law_script"] (Zi Zac):=⟨rfl,rfl,rfl,by decide+kernel,rfl,by decide+kernel,by decide+kernel⟩
theorem Zd5:Zr ["self"] ["self"] (Zi VD):=⟨rfl,rfl,rfl,by decide+kernel,rfl,by decide+kernel,by decide+kernel⟩
theorem Ze2:Zr ["hall"] ["hall"] (Zi Vd):=⟨rfl,rfl,rfl,by decide+kernel,rfl,by decide+kernel,by decide+kernel⟩
theorem Zd3:Zr ["self"] ["self"] (Zi Vy):=⟨rfl,rfl,rfl,by decide+kernel,rfl,by decide+kernel,by decide+kernel⟩
theorem UN:Zr ["hall","ways","belt","row"] ["hall"] (Zi Us):=⟨rfl,rfl,rfl,by decide+kernel,rfl,by decide+kernel,by decide+kernel⟩
theorem Ym:Zr ["ways","first","tree","reached","done","work","other","belt","along"] ["ways","first"] (Zi Uc):=⟨rfl,rfl,rfl,by decide+kernel,rfl,by decide+kernel,by decide+kernel⟩
theorem Wm:Zr ["hall","ways","seen","forest","work","tree"] ["hall"] (Zi Ue):=⟨rfl,rfl,rfl,by decide+kernel,rfl,by decide+kernel,by decide+kernel⟩
theorem UL:Zr ["one","other","rest"] ["one","other"] (Zi Zad):=⟨rfl,rfl,rfl,by decide+kernel,rfl,by decide+kernel,by decide+kernel⟩
theorem Zeq:Zr ["top","bottom","common"] ["top","bottom"] (Zi ZbR):=⟨rfl,rfl,rfl,by decide+kernel,rfl,by decide+kernel,by decide+kernel⟩
theorem Zit:Zr ["one","other"] ["one","other"] (Zi ZbL):=⟨rfl,rfl,rfl,by decide+kernel,rfl,by decide+kernel,by decide+kernel⟩
theorem ZjF:Zr ["row","along"] ["row","along"] (Zi Zc3):=⟨rfl,rfl,rfl,by decide+kernel,rfl,by decide+kernel,by decide+kernel⟩
theorem Zfm:Zr ["thing"] ["thing"] (Zi UQ):=⟨rfl,rfl,rfl,by decide+kernel,rfl,by decide+kernel,by decide+kernel⟩
theorem Zg0:Zr ["thing","least"] ["thing","least"] (Zi Zan):=⟨rfl,rfl,rfl,by decide+kernel,rfl,by decide+kernel,by decide+kernel⟩
theorem Zbs:Zr ["thing","bound"] ["thing","bound"] (Zi We):=⟨rfl,rfl,rfl,by decide+kernel,rfl,by decide+kernel,by decide+kernel⟩
theorem Zb0:Zr ["self","belt"] ["self","belt"] (Zi Wt):=⟨rfl,rfl,rfl,by decide+kernel,rfl,by decide+kernel,by decide+kernel⟩
theorem Zc6:Zr ["self","belt"] ["self","belt"] (Zi W6):=⟨rfl,rfl,rfl,by decide+kernel,rfl,by decide+kernel,by decide+kernel⟩
theorem VB:Zr ["hall","tree","shares","work","step"] ["hall","tree"] (Zi Ua):=⟨rfl,rfl,rfl,by decide+kernel,rfl,by decide+kernel,by decide+kernel⟩
theorem Zfk:Zr ["one","other"] ["one","other"] (Zi UK):=⟨rfl,rfl,rfl,by decide+kernel,rfl,by decide+kernel,by decide+kernel⟩
theorem Yv:Zr ["hall","forest","rates","tree","shares","common","share","work"] ["hall","forest"] (Zi VR):=⟨rfl,rfl,rfl,by decide+kernel,rfl,by decide+kernel,by decide+kernel⟩
theorem Zex:Zr ["hall","counts"] ["hall","counts"] (Zi Vb):=⟨rfl,rfl,rfl,by decide+kernel,rfl,by decide+kernel,by decide+kernel⟩
theorem Zaa:Zr ["tree","work","way","step"] ["tree","work"] (Zi ZaR):=⟨rfl,rfl,rfl,by decide+kernel,rfl,by decide+kernel,by decide+kernel⟩
theorem VO:Zr ["one","other","shared"] ["one","other"] (Zi W5):=⟨rfl,rfl,rfl,by decide+kernel,rfl,by decide+kernel,by decide+kernel⟩
theorem Yk:Zr ["hall","forest","belt","row","tree","to_giver","to_taker","shared","back"] ["hall","forest","belt"] (Zi YV):=⟨rfl,rfl,rfl,by decide+kernel,rfl,by decide+kernel,by decide+kernel⟩
theorem Vg:Zr ["hall","forest","rates","belt","change"] ["hall"] (Zi UO):=⟨rfl,rfl,rfl,by decide+kernel,rfl,by decide+kernel,by decide+kernel⟩
theorem ZaD:Zr ["hall","rates"] ["hall"] (Zi Vj):=⟨rfl,rfl,rfl,by decide+kernel,rfl,by decide+kernel,by decide+kernel⟩
theorem ZhC:Zr ["heaps","takes"] ["heaps","takes"] (Zi U8):=⟨rfl,rfl,rfl,by decide+kernel,rfl,by decide+kernel,by decide+kernel⟩
theorem ZQ:Zr ["self","starts","heaps","left","able","row","work","belt","take","give","other"] ["self","starts"] (Zi YL):=⟨rfl,rfl,rfl,by decide+kernel,rfl,by decide+kernel,by decide+kernel⟩
theorem Yh:Zr ["self","starts","counts","waits","belt","row","lying"] ["self","starts","counts"] (Zi YB):=⟨rfl,rfl,rfl,by decide+kernel,rfl,by decide+kernel,by decide+kernel⟩
theorem Z8:Zr ["self","starts","counts","waits","places","way","work"] ["self","starts","counts"] (Zi YM):=⟨rfl,rfl,rfl,by decide+kernel,rfl,by decide+kernel,by decide+kernel⟩
theorem WI:Zr ["self","starts","row","counts"] ["self","starts"] (Zi Yz):=⟨rfl,rfl,rfl,by decide+kernel,rfl,by decide+kernel,by decide+kernel⟩
theorem Zb2:Zr ["self","work"] ["self","work"] (Zi Wx):=⟨rfl,rfl,rfl,by decide+kernel,rfl,by decide+kernel,by decide+kernel⟩
theorem Zcz:Zr ["self","work"] ["self","work"] (Zi Y7):=⟨rfl,rfl,rfl,by decide+kernel,rfl,by decide+kernel,by decide+kernel⟩
theorem Zfu:Zr ["hall","work"] ["hall","work"] (Zi Vx):=⟨rfl,rfl,rfl,by decide+kernel,rfl,by decide+kernel,by decide+kernel⟩
theorem ZcS:Zr ["self","work"] ["self","work"] (Zi Wh):=⟨rfl,rfl,rfl,by decide+kernel,rfl,by decide+kernel,by decide+kernel⟩
theorem ZfK:Zr ["hall","work"] ["hall","work"] (Zi VM):=⟨rfl,rfl,rfl,by decide+kernel,rfl,by decide+kernel,by decide+kernel⟩
theorem Zec:Zr ["hall","work"] ["hall","work"] (Zi WO):=⟨rfl,rfl,rfl,by decide+kernel,rfl,by decide+kernel,by decide+kernel⟩
theorem Zdg:Zr ["self","hall","turns"] ["self","hall","turns"] (Zi YF):=⟨rfl,rfl,rfl,by decide+kernel,rfl,by decide+kernel,by decide+kernel⟩
theorem Zfz:Zr ["hall"] ["hall"] (Zi UH):=⟨rfl,rfl,rfl,by decide+kernel,rfl,by decide+kernel,by decide+kernel⟩
theorem Vu:Zr ["_law_hall","_law_kind_here","e"] ["_law_hall"] (Zi ZaV):=⟨rfl,rfl,rfl,by decide+kernel,rfl,by decide+kernel,by decide+kernel⟩
theorem Ya:Zr ["_law_row","_law_lines","_law_rates","_law_heap","_law_work","_law_k","_law_giver","_law_taker","_law_give","_law_take","_law_start","_law_counts"] ["_law_row","_law_lines","_law_rates"] (Zi YY):=⟨rfl,rfl,rfl,by decide+kernel,rfl,by decide+kernel,by decide+kernel⟩
theorem Zd6:Zr ["start"] ["start"] (Zi VG):=⟨rfl,rfl,rfl,by decide+kernel,rfl,by decide+kernel,by decide+kernel⟩
theorem ZfA:Zr ["self","row"] ["self","row"] (Zi UI):=⟨rfl,rfl,rfl,by decide+kernel,rfl,by decide+kernel,by decide+kernel⟩
theorem ZeE:Zr ["self","giver","taker","give","take","start"] ["self","giver","taker","give","take","start"] (Zi Ug):=⟨rfl,rfl,rfl,by decide+kernel,rfl,by decide+kernel,by decide+kernel⟩
theorem Zgo:Zr ["thing"] ["thing"] (Zi Uu):=⟨rfl,rfl,rfl,by decide+kernel,rfl,by decide+kernel,by decide+kernel⟩
theorem Zbn:Zr ["self","name","number"] ["self","name"] (Zi Uh):=⟨rfl,rfl,rfl,by decide+kernel,rfl,by decide+kernel,by decide+kernel⟩
theorem Zfb:Zr ["self"] ["self"] (Zi Ub):=⟨rfl,rfl,rfl,by decide+kernel,rfl,by decide+kernel,by decide+kernel⟩
theorem YK:Zr ["_law_script","_law_turns_here","_law_extra","_law_hall","_law_k","_law_many","_law_back","_law_start","_law_odd","_law_due","_law_row","_law_stop"] ["_law_script"] (Zi Zef):=⟨rfl,rfl,rfl,by decide+kernel,rfl,by decide+kernel,by decide+kernel⟩
set_option genInjectivity false
set_option genSizeOf false
set_option genSizeOfSpec false
set_option genInjectivity false in
set_option genSizeOf false in
structure Tp(K:PySem.W.Frag)(mg:Str→Option Value) where
 f_l_cell:Addr
 d_l_cell:FuncData
 F_l_cell:Fun K "_law_cell" "_law_cell" Za2 f_l_cell d_l_cell
 b_l_cell:Zz K d_l_cell ["_law_script","_law_k"] []
 m_l_cell:mg "_law_cell" =some (.ref f_l_cell)
 f_l_turns:Addr
 d_l_turns:FuncData
 F_l_turns:Fun K "_law_turns" "_law_turns" Zac f_l_turns d_l_turns
 b_l_turns:Zz K d_l_turns ["_law_script"] []
 m_l_turns:mg "_law_turns" =some (.ref f_l_turns)
 f_Hall_belts:Addr
 d_Hall_belts:FuncData
 F_Hall_belts:Fun K "belts" "Hall.belts" VD f_Hall_belts d_Hall_belts
 b_Hall_belts:Zz K d_Hall_belts ["self"] []
 f_starts_of:Addr
 d_starts_of:FuncData
 F_starts_of:Fun K "starts_of" "starts_of" Vd f_starts_of d_starts_of
 b_starts_of:Zz K d_starts_of ["hall"] []
 m_starts_of:mg "starts_of" =some (.ref f_starts_of)
 f_Hall_names:Addr
 d_Hall_names:FuncData
 F_Hall_names:Fun K "names" "Hall.names" Vy f_Hall_names d_Hall_names
 b_Hall_names:Zz K d_Hall_names ["self"] []
 f_ways_of:Addr
 d_ways_of:FuncData
 F_ways_of:Fun K "ways_of" "ways_of" Us f_ways_of d_ways_of
 b_ways_of:Zz K d_ways_of ["hall"] []
 m_ways_of:mg "ways_of" =some (.ref f_ways_of)
 f_tree_from:Addr
 d_tree_from:FuncData
 F_tree_from:Fun K "tree_from" "tree_from" Uc f_tree_from d_tree_from
 b_tree_from:Zz K d_tree_from ["ways","first"] []
 m_tree_from:mg "tree_from" =some (.ref f_tree_from)
 f_forest_of:Addr
 d_forest_of:FuncData
 F_forest_of:Fun K "forest_of" "forest_of" Ue f_forest_of d_forest_of
 b_forest_of:Zz K d_forest_of ["hall"] []
 m_forest_of:mg "forest_of" =some (.ref f_forest_of)
 f_divisor:Addr
 d_divisor:FuncData
 F_divisor:Fun K "divisor" "divisor" Zad f_divisor d_divisor
 b_divisor:Zz K d_divisor ["one","other"] []
 m_divisor:mg "divisor" =some (.ref f_divisor)
 f_ratio:Addr
 d_ratio:FuncData
 F_ratio:Fun K "ratio" "ratio" ZbR f_ratio d_ratio
 b_ratio:Zz K d_ratio ["top","bottom"] []
 m_ratio:mg "ratio" =some (.ref f_ratio)
 f_times:Addr
 d_times:FuncData
 F_times:Fun K "times" "times" ZbL f_times d_times
 b_times:Zz K d_times ["one","other"] []
 m_times:mg "times" =some (.ref f_times)
 f_gain:Addr
 d_gain:FuncData
 F_gain:Fun K "gain" "gain" Zc3 f_gain d_gain
 b_gain:Zz K d_gain ["row","along"] []
 m_gain:mg "gain" =some (.ref f_gain)
 f_is_whole:Addr
 d_is_whole:FuncData
 F_is_whole:Fun K "is_whole" "is_whole" UQ f_is_whole d_is_whole
 b_is_whole:Zz K d_is_whole ["thing"] []
 m_is_whole:mg "is_whole" =some (.ref f_is_whole)
 f_is_from:Addr
 d_is_from:FuncData
 F_is_from:Fun K "is_from" "is_from" Zan f_is_from d_is_from
 b_is_from:Zz K d_is_from ["thing","least"] []
 m_is_from:mg "is_from" =some (.ref f_is_from)
 f_is_number_below:Addr
 d_is_number_below:FuncData
 F_is_number_below:Fun K "is_number_below" "is_number_below" We f_is_number_below d_is_number_below
 b_is_number_below:Zz K d_is_number_below ["thing","bound"] []
 m_is_number_below:mg "is_number_below" =some (.ref f_is_number_below)
 f_Hall_need_belt:Addr
 d_Hall_need_belt:FuncData
 F_Hall_need_belt:Fun K "need_belt" "Hall.need_belt" Wt f_Hall_need_belt d_Hall_need_belt
 b_Hall_need_belt:Zz K d_Hall_need_belt ["self","belt"] []
 f_Hall_belt_at:Addr
 d_Hall_belt_at:FuncData
 F_Hall_belt_at:Fun K "belt_at" "Hall.belt_at" W6 f_Hall_belt_at d_Hall_belt_at
 b_Hall_belt_at:Zz K d_Hall_belt_at ["self","belt"] []
 f_shares_of:Addr
 d_shares_of:FuncData
 F_shares_of:Fun K "shares_of" "shares_of" Ua f_shares_of d_shares_of
 b_shares_of:Zz K d_shares_of ["hall","tree"] []
 m_shares_of:mg "shares_of" =some (.ref f_shares_of)
 f_multiple:Addr
 d_multiple:FuncData
 F_multiple:Fun K "multiple" "multiple" UK f_multiple d_multiple
 b_multiple:Zz K d_multiple ["one","other"] []
 m_multiple:mg "multiple" =some (.ref f_multiple)
 f_rates_by:Addr
 d_rates_by:FuncData
 F_rates_by:Fun K "rates_by" "rates_by" VR f_rates_by d_rates_by
 b_rates_by:Zz K d_rates_by ["hall","forest"] []
 m_rates_by:mg "rates_by" =some (.ref f_rates_by)
 f_change_of:Addr
 d_change_of:FuncData
 F_change_of:Fun K "change_of" "change_of" Vb f_change_of d_change_of
 b_change_of:Zz K d_change_of ["hall","counts"] []
 m_change_of:mg "change_of" =some (.ref f_change_of)
 f_way_to:Addr
 d_way_to:FuncData
 F_way_to:Fun K "way_to" "way_to" ZaR f_way_to d_way_to
 b_way_to:Zz K d_way_to ["tree","work"] []
 m_way_to:mg "way_to" =some (.ref f_way_to)
 f_shared_steps:Addr
 d_shared_steps:FuncData
 F_shared_steps:Fun K "shared_steps" "shared_steps" W5 f_shared_steps d_shared_steps
 b_shared_steps:Zz K d_shared_steps ["one","other"] []
 m_shared_steps:mg "shared_steps" =some (.ref f_shared_steps)
 f_ring_through:Addr
 d_ring_through:FuncData
 F_ring_through:Fun K "ring_through" "ring_through" YV f_ring_through d_ring_through
 b_ring_through:Zz K d_ring_through ["hall","forest","belt"] []
 m_ring_through:mg "ring_through" =some (.ref f_ring_through)
 f_rates_of:Addr
 d_rates_of:FuncData
 F_rates_of:Fun K "rates_of" "rates_of" UO f_rates_of d_rates_of
 b_rates_of:Zz K d_rates_of ["hall"] []
 m_rates_of:mg "rates_of" =some (.ref f_rates_of)
 f_round_rates:Addr
 d_round_rates:FuncData
 F_round_rates:Fun K "round_rates" "round_rates" Vj f_round_rates d_round_rates
 b_round_rates:Zz K d_round_rates ["hall"] []
 m_round_rates:mg "round_rates" =some (.ref f_round_rates)
 f_enough:Addr
 d_enough:FuncData
 F_enough:Fun K "enough" "enough" U8 f_enough d_enough
 b_enough:Zz K d_enough ["heaps","takes"] []
 m_enough:mg "enough" =some (.ref f_enough)
 f_Course_row_from:Addr
 d_Course_row_from:FuncData
 F_Course_row_from:Fun K "row_from" "Course.row_from" YL f_Course_row_from d_Course_row_from
 b_Course_row_from:Zz K d_Course_row_from ["self","starts"] []
 f_Course_waits_behind:Addr
 d_Course_waits_behind:FuncData
 F_Course_waits_behind:Fun K "waits_behind" "Course.waits_behind" YB f_Course_waits_behind d_Course_waits_behind
 b_Course_waits_behind:Zz K d_Course_waits_behind ["self","starts","counts"] []
 f_Course_ring_behind:Addr
 d_Course_ring_behind:FuncData
 F_Course_ring_behind:Fun K "ring_behind" "Course.ring_behind" YM f_Course_ring_behind d_Course_ring_behind
 b_Course_ring_behind:Zz K d_Course_ring_behind ["self","starts","counts"] []
 f_Course_told_from:Addr
 d_Course_told_from:FuncData
 F_Course_told_from:Fun K "told_from" "Course.told_from" Yz f_Course_told_from d_Course_told_from
 b_Course_told_from:Zz K d_Course_told_from ["self","starts"] []
 f_Hall_need_work:Addr
 d_Hall_need_work:FuncData
 F_Hall_need_work:Fun K "need_work" "Hall.need_work" Wx f_Hall_need_work d_Hall_need_work
 b_Hall_need_work:Zz K d_Hall_need_work ["self","work"] []
 f_Hall_entering:Addr
 d_Hall_entering:FuncData
 F_Hall_entering:Fun K "entering" "Hall.entering" Y7 f_Hall_entering d_Hall_entering
 b_Hall_entering:Zz K d_Hall_entering ["self","work"] []
 f_takes_of:Addr
 d_takes_of:FuncData
 F_takes_of:Fun K "takes_of" "takes_of" Vx f_takes_of d_takes_of
 b_takes_of:Zz K d_takes_of ["hall","work"] []
 m_takes_of:mg "takes_of" =some (.ref f_takes_of)
 f_Hall_leaving:Addr
 d_Hall_leaving:FuncData
 F_Hall_leaving:Fun K "leaving" "Hall.leaving" Wh f_Hall_leaving d_Hall_leaving
 b_Hall_leaving:Zz K d_Hall_leaving ["self","work"] []
 f_gives_of:Addr
 d_gives_of:FuncData
 F_gives_of:Fun K "gives_of" "gives_of" VM f_gives_of d_gives_of
 b_gives_of:Zz K d_gives_of ["hall","work"] []
 m_gives_of:mg "gives_of" =some (.ref f_gives_of)
 f_touched_by:Addr
 d_touched_by:FuncData
 F_touched_by:Fun K "touched_by" "touched_by" WO f_touched_by d_touched_by
 b_touched_by:Zz K d_touched_by ["hall","work"] []
 m_touched_by:mg "touched_by" =some (.ref f_touched_by)
 f_Course_init:Addr
 d_Course_init:FuncData
 F_Course_init:Fun K "__init__" "Course.__init__" YF f_Course_init d_Course_init
 b_Course_init:Zz K d_Course_init ["self","hall","turns"] []
 f_round_of:Addr
 d_round_of:FuncData
 F_round_of:Fun K "round_of" "round_of" UH f_round_of d_round_of
 b_round_of:Zz K d_round_of ["hall"] []
 m_round_of:mg "round_of" =some (.ref f_round_of)
 f_l_kind:Addr
 d_l_kind:FuncData
 F_l_kind:Fun K "_law_kind" "_law_kind" ZaV f_l_kind d_l_kind
 b_l_kind:Zz K d_l_kind ["_law_hall"] []
 m_l_kind:mg "_law_kind" =some (.ref f_l_kind)
 f_l_row_good:Addr
 d_l_row_good:FuncData
 F_l_row_good:Fun K "_law_row_good" "_law_row_good" YY f_l_row_good d_l_row_good
 b_l_row_good:Zz K d_l_row_good ["_law_row","_law_lines","_law_rates"] []
 m_l_row_good:mg "_law_row_good" =some (.ref f_l_row_good)
 f_need_start:Addr
 d_need_start:FuncData
 F_need_start:Fun K "need_start" "need_start" VG f_need_start d_need_start
 b_need_start:Zz K d_need_start ["start"] []
 m_need_start:mg "need_start" =some (.ref f_need_start)
 f_Hall_lay:Addr
 d_Hall_lay:FuncData
 F_Hall_lay:Fun K "lay" "Hall.lay" UI f_Hall_lay d_Hall_lay
 b_Hall_lay:Zz K d_Hall_lay ["self","row"] []
 f_Hall_belt:Addr
 d_Hall_belt:FuncData
 dT_Hall_belt:Addr
 dk0_Hall_belt:Tok
 F_Hall_belt:ZgN K "belt" "Hall.belt" Ug dT_Hall_belt f_Hall_belt d_Hall_belt
 b_Hall_belt:Zz K d_Hall_belt ["self","giver","taker","give","take","start"] []
 b1_Hall_belt:Zz K d_Hall_belt ["self","giver","taker","give","take","start"] [.int 0 dk0_Hall_belt]
 v1_Hall_belt:Zq [.int 0] [.int 0 dk0_Hall_belt]
 f_is_name:Addr
 d_is_name:FuncData
 F_is_name:Fun K "is_name" "is_name" Uu f_is_name d_is_name
 b_is_name:Zz K d_is_name ["thing"] []
 m_is_name:mg "is_name" =some (.ref f_is_name)
 f_Hall_work:Addr
 d_Hall_work:FuncData
 F_Hall_work:Fun K "work" "Hall.work" Uh f_Hall_work d_Hall_work
 b_Hall_work:Zz K d_Hall_work ["self","name"] []
 f_Hall_init:Addr
 d_Hall_init:FuncData
 F_Hall_init:Fun K "__init__" "Hall.__init__" Ub f_Hall_init d_Hall_init
 b_Hall_init:Zz K d_Hall_init ["self"] []
 f_law:Addr
 d_law:FuncData
 F_law:Fun K "law" "law" Zef f_law d_law
 b_law:Zz K d_law ["_law_script"] []
 m_law:mg "law" =some (.ref f_law)
 C_Course:Addr
 cl_Course:Cls K C_Course
 g_Course:mg "Course" =some (.ref C_Course)
 na_Course:ZaA K C_Course ["turns","rows","takes","gives","touched"]
 M_Course_row_from:WH K C_Course "row_from" f_Course_row_from
 M_Course_waits_behind:WH K C_Course "waits_behind" f_Course_waits_behind
 M_Course_ring_behind:WH K C_Course "ring_behind" f_Course_ring_behind
 M_Course_told_from:WH K C_Course "told_from" f_Course_told_from
 mk_Course:Mk K C_Course f_Course_init
 C_Hall:Addr
 cl_Hall:Cls K C_Hall
 g_Hall:mg "Hall" =some (.ref C_Hall)
 na_Hall:ZaA K C_Hall ["numbers","rows"]
 M_Hall_belts:WH K C_Hall "belts" f_Hall_belts
 M_Hall_names:WH K C_Hall "names" f_Hall_names
 M_Hall_need_belt:WH K C_Hall "need_belt" f_Hall_need_belt
 M_Hall_belt_at:WH K C_Hall "belt_at" f_Hall_belt_at
 M_Hall_need_work:WH K C_Hall "need_work" f_Hall_need_work
 M_Hall_entering:WH K C_Hall "entering" f_Hall_entering
 M_Hall_leaving:WH K C_Hall "leaving" f_Hall_leaving
 M_Hall_lay:WH K C_Hall "lay" f_Hall_lay
 M_Hall_belt:WH K C_Hall "belt" f_Hall_belt
 M_Hall_work:WH K C_Hall "work" f_Hall_work
 mk_Hall:Mk K C_Hall f_Hall_init
 n_ValueError:mg "ValueError" =none
 n_all:mg "all" =none
 n_bool:mg "bool" =none
 n_enumerate:mg "enumerate" =none
 n_int:mg "int" =none
 n_isinstance:mg "isinstance" =none
 n_len:mg "len" =none
 n_list:mg "list" =none
 n_min:mg "min" =none
 n_range:mg "range" =none
 n_reversed:mg "reversed" =none
 n_set:mg "set" =none
 n_sorted:mg "sorted" =none
 n_str:mg "str" =none
 n_sum:mg "sum" =none
 X_RateError:Addr
 gx_RateError:PySem.W.nsIn K mainGlobals "RateError" =some (some (.ref X_RateError))
 mx_RateError:mg "RateError" =some (.ref X_RateError)
 ex_RateError:PySem.W.excIn K X_RateError [.type "ValueError",.type "Exception",.type "BaseException",.type "object"] "ValueError.__new__" =true
 X_NoName:Addr
 gx_NoName:PySem.W.nsIn K mainGlobals "NoName" =some (some (.ref X_NoName))
 mx_NoName:mg "NoName" =some (.ref X_NoName)
 ex_NoName:PySem.W.excIn K X_NoName [.type "ValueError",.type "Exception",.type "BaseException",.type "object"] "ValueError.__new__" =true
 X_Twice:Addr
 gx_Twice:PySem.W.nsIn K mainGlobals "Twice" =some (some (.ref X_Twice))
 mx_Twice:mg "Twice" =some (.ref X_Twice)
 ex_Twice:PySem.W.excIn K X_Twice [.type "ValueError",.type "Exception",.type "BaseException",.type "object"] "ValueError.__new__" =true
 X_TooMuch:Addr
 gx_TooMuch:PySem.W.nsIn K mainGlobals "TooMuch" =some (some (.ref X_TooMuch))
 mx_TooMuch:mg "TooMuch" =some (.ref X_TooMuch)
 ex_TooMuch:PySem.W.excIn K X_TooMuch [.type "ValueError",.type "Exception",.type "BaseException",.type "object"] "ValueError.__new__" =true
 X_NoWork:Addr
 gx_NoWork:PySem.W.nsIn K mainGlobals "NoWork" =some (some (.ref X_NoWork))
 mx_NoWork:mg "NoWork" =some (.ref X_NoWork)
 ex_NoWork:PySem.W.excIn K X_NoWork [.type "ValueError",.type "Exception",.type "BaseException",.type "object"] "ValueError.__new__" =true
 X_NoBelt:Addr
 gx_NoBelt:PySem.W.nsIn K mainGlobals "NoBelt" =some (some (.ref X_NoBelt))
 mx_NoBelt:mg "NoBelt" =some (.ref X_NoBelt)
 ex_NoBelt:PySem.W.excIn K X_NoBelt [.type "ValueError",.type "Exception",.type "BaseException",.type "object"] "ValueError.__new__" =true
 X_NoRate:Addr
 gx_NoRate:PySem.W.nsIn K mainGlobals "NoRate" =some (some (.ref X_NoRate))
 mx_NoRate:mg "NoRate" =some (.ref X_NoRate)
 ex_NoRate:PySem.W.excIn K X_NoRate [.type "ValueError",.type "Exception",.type "BaseException",.type "object"] "ValueError.__new__" =true
 X_Empty:Addr
 gx_Empty:PySem.W.nsIn K mainGlobals "Empty" =some (some (.ref X_Empty))
 mx_Empty:mg "Empty" =some (.ref X_Empty)
 ex_Empty:PySem.W.excIn K X_Empty [.type "ValueError",.type "Exception",.type "BaseException",.type "object"] "ValueError.__new__" =true
 X_NotBalanced:Addr
 gx_NotBalanced:PySem.W.nsIn K mainGlobals "NotBalanced" =some (some (.ref X_NotBalanced))
 mx_NotBalanced:mg "NotBalanced" =some (.ref X_NotBalanced)
 ex_NotBalanced:PySem.W.excIn K X_NotBalanced [.type "ValueError",.type "Exception",.type "BaseException",.type "object"] "ValueError.__new__" =true
 X_TooLong:Addr
 gx_TooLong:PySem.W.nsIn K mainGlobals "TooLong" =some (some (.ref X_TooLong))
 mx_TooLong:mg "TooLong" =some (.ref X_TooLong)
 ex_TooLong:PySem.W.excIn K X_TooLong [.type "ValueError",.type "Exception",.type "BaseException",.type "object"] "ValueError.__new__" =true
 X_Stuck:Addr
 gx_Stuck:PySem.W.nsIn K mainGlobals "Stuck" =some (some (.ref X_Stuck))
 mx_Stuck:mg "Stuck" =some (.ref X_Stuck)
 ex_Stuck:PySem.W.excIn K X_Stuck [.type "ValueError",.type "Exception",.type "BaseException",.type "object"] "ValueError.__new__" =true
 em_RateError_RateError:PySem.W.exmOne K (.ref X_RateError) (.ref X_RateError)=some true
 em_NoName_RateError:PySem.W.exmOne K (.ref X_NoName) (.ref X_RateError)=some true
 em_Twice_RateError:PySem.W.exmOne K (.ref X_Twice) (.ref X_RateError)=some true
 em_TooMuch_RateError:PySem.W.exmOne K (.ref X_TooMuch) (.ref X_RateError)=some true
 em_NoWork_RateError:PySem.W.exmOne K (.ref X_NoWork) (.ref X_RateError)=some true
 em_NoBelt_RateError:PySem.W.exmOne K (.ref X_NoBelt) (.ref X_RateError)=some true
 em_NoRate_RateError:PySem.W.exmOne K (.ref X_NoRate) (.ref X_RateError)=some true
 em_Empty_RateError:PySem.W.exmOne K (.ref X_Empty) (.ref X_RateError)=some true
 em_NotBalanced_RateError:PySem.W.exmOne K (.ref X_NotBalanced) (.ref X_RateError)=some true
 em_TooLong_RateError:PySem.W.exmOne K (.ref X_TooLong) (.ref X_RateError)=some true
 em_Stuck_RateError:PySem.W.exmOne K (.ref X_Stuck) (.ref X_RateError)=some true
 xc_NoName:YI K X_NoName
 xc_Twice:YI K X_Twice
 xc_TooMuch:YI K X_TooMuch
 xc_NoWork:YI K X_NoWork
 xc_NoBelt:YI K X_NoBelt
 xc_NoRate:YI K X_NoRate
 xc_NotBalanced:YI K X_NotBalanced
 xc_TooLong:YI K X_TooLong
 ki_NoName_ValueError:PySem.W.kitOne K (.ref X_NoName) (.type "ValueError")=some true
 ki_NoName_Stuck:PySem.W.kitOne K (.ref X_NoName) (.ref X_Stuck)=some false
 ki_NoName_Empty:PySem.W.kitOne K (.ref X_NoName) (.ref X_Empty)=some false
 ki_NoName_NotBalanced:PySem.W.kitOne K (.ref X_NoName) (.ref X_NotBalanced)=some false
 ki_NoName_TooLong:PySem.W.kitOne K (.ref X_NoName) (.ref X_TooLong)=some false
 ki_Twice_ValueError:PySem.W.kitOne K (.ref X_Twice) (.type "ValueError")=some true
 ki_Twice_Stuck:PySem.W.kitOne K (.ref X_Twice) (.ref X_Stuck)=some false
 ki_Twice_Empty:PySem.W.kitOne K (.ref X_Twice) (.ref X_Empty)=some false
 ki_Twice_NotBalanced:PySem.W.kitOne K (.ref X_Twice) (.ref X_NotBalanced)=some false
 ki_Twice_TooLong:PySem.W.kitOne K (.ref X_Twice) (.ref X_TooLong)=some false
 ki_TooMuch_ValueError:PySem.W.kitOne K (.ref X_TooMuch) (.type "ValueError")=some true
 ki_TooMuch_Stuck:PySem.W.kitOne K (.ref X_TooMuch) (.ref X_Stuck)=some false
 ki_TooMuch_Empty:PySem.W.kitOne K (.ref X_TooMuch) (.ref X_Empty)=some false
 ki_TooMuch_NotBalanced:PySem.W.kitOne K (.ref X_TooMuch) (.ref X_NotBalanced)=some false
 ki_TooMuch_TooLong:PySem.W.kitOne K (.ref X_TooMuch) (.ref X_TooLong)=some false
 ki_NoWork_ValueError:PySem.W.kitOne K (.ref X_NoWork) (.type "ValueError")=some true
 ki_NoWork_Stuck:PySem.W.kitOne K (.ref X_NoWork) (.ref X_Stuck)=some false
 ki_NoWork_Empty:PySem.W.kitOne K (.ref X_NoWork) (.ref X_Empty)=some false
 ki_NoWork_NotBalanced:PySem.W.kitOne K (.ref X_NoWork) (.ref X_NotBalanced)=some false
 ki_NoWork_TooLong:PySem.W.kitOne K (.ref X_NoWork) (.ref X_TooLong)=some false
 ki_NoBelt_ValueError:PySem.W.kitOne K (.ref X_NoBelt) (.type "ValueError")=some true
 ki_NoBelt_Stuck:PySem.W.kitOne K (.ref X_NoBelt) (.ref X_Stuck)=some false
 ki_NoBelt_Empty:PySem.W.kitOne K (.ref X_NoBelt) (.ref X_Empty)=some false
 ki_NoBelt_NotBalanced:PySem.W.kitOne K (.ref X_NoBelt) (.ref X_NotBalanced)=some false
 ki_NoBelt_TooLong:PySem.W.kitOne K (.ref X_NoBelt) (.ref X_TooLong)=some false
 ki_NoRate_ValueError:PySem.W.kitOne K (.ref X_NoRate) (.type "ValueError")=some true
 ki_NoRate_Stuck:PySem.W.kitOne K (.ref X_NoRate) (.ref X_Stuck)=some false
 ki_NoRate_Empty:PySem.W.kitOne K (.ref X_NoRate) (.ref X_Empty)=some false
 ki_NoRate_NotBalanced:PySem.W.kitOne K (.ref X_NoRate) (.ref X_NotBalanced)=some false
 ki_NoRate_TooLong:PySem.W.kitOne K (.ref X_NoRate) (.ref X_TooLong)=some false
 ki_NotBalanced_ValueError:PySem.W.kitOne K (.ref X_NotBalanced) (.type "ValueError")=some true
 ki_NotBalanced_Stuck:PySem.W.kitOne K (.ref X_NotBalanced) (.ref X_Stuck)=some false
 ki_NotBalanced_Empty:PySem.W.kitOne K (.ref X_NotBalanced) (.ref X_Empty)=some false
 ki_NotBalanced_NotBalanced:PySem.W.kitOne K (.ref X_NotBalanced) (.ref X_NotBalanced)=some true
 ki_NotBalanced_TooLong:PySem.W.kitOne K (.ref X_NotBalanced) (.ref X_TooLong)=some false
 ki_TooLong_ValueError:PySem.W.kitOne K (.ref X_TooLong) (.type "ValueError")=some true
 ki_TooLong_Stuck:PySem.W.kitOne K (.ref X_TooLong) (.ref X_Stuck)=some false
 ki_TooLong_Empty:PySem.W.kitOne K (.ref X_TooLong) (.ref X_Empty)=some false
 ki_TooLong_NotBalanced:PySem.W.kitOne K (.ref X_TooLong) (.ref X_NotBalanced)=some false
 ki_TooLong_TooLong:PySem.W.kitOne K (.ref X_TooLong) (.ref X_TooLong)=some true
 tk_MOST_TURNS:Tok
 c_MOST_TURNS:mg "MOST_TURNS" =some (.int 400 tk_MOST_TURNS)
 tk_MOST_BELTS:Tok
 c_MOST_BELTS:mg "MOST_BELTS" =some (.int 60 tk_MOST_BELTS)
 tk_MOST_LETTERS:Tok
 c_MOST_LETTERS:mg "MOST_LETTERS" =some (.int 8 tk_MOST_LETTERS)
 tk_MOST_WORKS:Tok
 c_MOST_WORKS:mg "MOST_WORKS" =some (.int 30 tk_MOST_WORKS)
 bl_law:∀(s:Shared)(v:Value),BindsTo s d_law ⟨[v],[]⟩ [("_law_script",v)]
set_option genInjectivity true
set_option genSizeOf true
set_option genSizeOfSpec true
theorem ZjY{a b:Int}(ha:0≤a)(hb:0<b):My.G b (a % b)=My.G a b:=by
 rw[←Int.fmod_eq_emod_of_nonneg _ (Int.le_of_lt hb)];exact My.Zkc ha hb
theorem ZmL{k:Nat}{x:Int}(h:My.S k x)(hk:k≤2):x.natAbs.log2<9000:=by
 by_cases h0:x.natAbs=0
 ·rw[h0];decide+kernel
 ·have e:x.natAbs=x.toNat:=by have:=h.lo;omega
  have l:=(Nat.log2_lt h0).mpr (by rw[e];exact(h.mono hk).hi);omega
def Zjg(K:PySem.W.Frag):Sp:=fun vs H Q _=>∃(a:Addr)(ns:List Int),vs=[.ref a]∧SqL K H a (ns.map V.int)∧ns.length≤63∧∀H',Q (.bl true) H'
def Zla{K:PySem.W.Frag}{mg:Str→Option Value}(T:Tp K mg):Sp:=Zjg K
noncomputable def Wl (x:Str):Bool:=decide (1≤x.length)&&decide (x.length≤8)&&x.cps.toList.all fun c=>decide (97≤c)&&decide (c≤122)
structure B5 where
 giver:Int
 taker:Int
 give:Int
 take:Int
 start:Int
noncomputable def B5.v (b:B5):List V:=[.int b.giver,.int b.taker,.int b.give,.int b.take,.int b.start]
structure HM where
 names:List Str
 belts:List B5
noncomputable def Y0 (H:Hp):List V→List B5→Prop:=Paired fun v b=>∃t,v= .ref t∧H t=some (.tup b.v)
noncomputable def numsOf (ns:List Str):List (Key×V):=ns.zipIdx.map fun p=>(Sum.inr p.1,V.int p.2)
theorem US(ns:List Str):(numsOf ns).length=ns.length:=by unfold numsOf;simp
theorem ZfE(ns:List Str)(x:Str):numsOf (ns++ [x])=numsOf ns++ [(Sum.inr x,.int ns.length)]:=by
 unfold numsOf;rw[List.zipIdx_append];simp
theorem Zb9(ns:List Str):((numsOf ns).map fun kv=>kV kv.1)=ns.map V.str:=by
 unfold numsOf;rw[List.map_map];have:((fun kv:Key×V=>kV kv.1)∘fun p:Str×Nat=>((Sum.inr p.1:Key),V.int p.2))=(V.str∘fun p:Str×Nat=>p.1):=rfl;rw[this,←List.map_map,List.zipIdx_map_fst]
theorem ZdI(ns:List Str)(x:Str):(valV (numsOf ns) (Sum.inr x)).isSome=decide (x∈ns):=by
 rw[←WZ];rw[Bool.eq_iff_iff,List.any_eq_true,decide_eq_true_eq];have e:x∈ns↔V.str x∈ns.map V.str:=by
  constructor
  ·exact List.mem_map_of_mem
  ·intro h;obtain⟨y,hy,e⟩:=List.mem_map.mp h;cases e;exact hy
 rw[e,←Zb9,List.mem_map]
 constructor
 ·rintro⟨p,hp,h⟩;exact⟨p,hp,by rw[of_decide_eq_true h];rfl⟩
 ·rintro⟨p,hp,h⟩;exact⟨p,hp,decide_eq_true (Zkd h)⟩
theorem ZfG{ns:List Str}{x:Str}(h:x∉ns):valV (numsOf ns) (Sum.inr x)=none:=by
 have:=ZdI ns x;rw[decide_eq_false h] at this;cases e:valV (numsOf ns) (Sum.inr x) with
 |none=>rfl
 |some v=>rw[e] at this;cases this
theorem Zgt{ns:List Str}{x:Str}(h:x∉ns):Z4 (numsOf ns) (Sum.inr x) (.int ns.length)=numsOf (ns++ [x]):=by
 rw[Vk _ (ZfG h),ZfE]
def Zy{K:PySem.W.Frag}{mg:Str→Option Value}(T:Tp K mg)(H:Hp)(p:Addr)(hl:HM)(fp:List Addr):Prop:=
 ∃(dx a b:Addr)(bs:List V),fp=[p,dx,a,b]∧H p=some (.ins T.C_Hall dx [("numbers",.ref a),("rows",.ref b)])∧H dx=some (.own p)∧H a=some (.dK (numsOf hl.names))∧H b=some (.lst bs)∧a≠b∧Y0 H bs hl.belts
theorem Y0.keep{H H':Hp}(t:∀b xs,H b=some (.tup xs)→H' b=some (.tup xs)):∀{bs:List V}{ls:List B5},Y0 H bs ls→Y0 H' bs ls
 |_,_,.nil=> .nil
 |_,_,.cons ⟨a,e,h⟩ r=> .cons ⟨a,e,t _ _ h⟩ (Y0.keep t r)
theorem Y0.length{H:Hp}{bs:List V}{ls:List B5}(h:Y0 H bs ls):bs.length=ls.length:=Paired.length h
theorem Y0.snoc{H:Hp}:∀{bs:List V}{ls:List B5}{t:Addr}{b:B5},Y0 H bs ls→H t=some (.tup b.v)→Y0 H (bs++ [.ref t]) (ls++ [b])
 |_,_,_,_,.nil,h=> .cons ⟨_,rfl,h⟩ .nil
 |_,_,_,_,.cons x r,h=> .cons x (Y0.snoc r h)
theorem Y0.at{H:Hp}:∀{bs:List V}{ls:List B5}{i:Nat}{b:B5},Y0 H bs ls→ls[i]? =some b→∃t,bs[i]? =some (.ref t)∧H t=some (.tup b.v)
 |_,_,_,_,.nil,e=>by simp at e
 |_,_,0,_,.cons ⟨t,e1,h⟩ _,e=>by simp at e;subst e;exact⟨t,by simp[e1],h⟩
 |_,_,i+1,b,.cons _ r,e=>by
  obtain⟨t,h1,h2⟩:=Y0.at (i:=i) (b:=b) r (by simpa using e);exact⟨t,by simpa using h1,h2⟩
section
variable {K:PySem.W.Frag}{mg:Str→Option Value}{T:Tp K mg}{H H':Hp}{p:Addr}{hl:HM}{fp:List Addr}
theorem Zy.dom(h:Zy T H p hl fp):∀x∈fp,H x≠none:=by
 obtain⟨dx,a,b,bs,rfl,h1,h2,h3,h4,_⟩:=h;intro x hx;simp only[List.mem_cons,List.not_mem_nil,or_false] at hx;rcases hx with rfl|rfl|rfl|rfl
 ·rw[h1];simp
 ·rw[h2];simp
 ·rw[h3];simp
 ·rw[h4];simp
theorem Zy.keep(h:Zy T H p hl fp)(k:∀x∈fp,H' x=H x)(t:∀b xs,H b=some (.tup xs)→H' b=some (.tup xs)):Zy T H' p hl fp:=by
 obtain⟨dx,a,b,bs,rfl,h1,h2,h3,h4,h5,h6⟩:=h;exact⟨dx,a,b,bs,rfl,(k p (by simp)).trans h1,(k dx (by simp)).trans h2,(k a (by simp)).trans h3,(k b (by simp)).trans h4,h5,h6.keep t⟩
theorem Zy.off{A:List Addr}(h:Zy T H p hl fp)(f:ZM A H H')(d:∀x∈fp,x∉A):Zy T H' p hl fp:=by
 refine h.keep (fun x hx=>?_) f.tups;cases q:H x with
 |none=>exact absurd q (h.dom x hx)
 |some o=>exact f.keep x o q (d x hx)
theorem Zhi{m:Str}{G:Prop}(h:Zy T H p hl fp)(m1:(m== "numbers")=false)(m2:(m== "rows")=false)(q:G):∃a dx fs,V.ref p= .ref a∧H a=some (.ins T.C_Hall dx fs)∧fs.lookup m=none∧G:=by
 obtain⟨dx,a,b,bs,rfl,h1,_⟩:=h;exact⟨p,dx,_,rfl,h1,Rd.lk1 m1 (Rd.lk1 m2 Rd.lkN),q⟩
theorem Zy.same(h:Zy T H p hl fp)(e:Zd H H'):Zy T H' p hl fp:=h.off (A:=[]) e.frame (by simp)
end
noncomputable def dB:B5:=⟨0,0,0,0,0⟩
noncomputable def ZS (ls:List B5) (w:Int):List Nat:=(List.range ls.length).filter fun i=>decide ((ls.getD i dB).taker=w)
noncomputable def ZF (ls:List B5) (w:Int):List Nat:=(List.range ls.length).filter fun i=>decide ((ls.getD i dB).giver=w)
theorem Y0.getD{H:Hp}{bs:List V}{ls:List B5}{i:Nat}(h:Y0 H bs ls)(hi:i<ls.length):∃t,bs.getD i .non= .ref t∧H t=some (.tup (ls.getD i dB).v):=by
 obtain⟨t,h1,h2⟩:=h.at (List.getElem?_eq_getElem hi);exact⟨t,by simp[List.getD,h1],by simpa[List.getD,hi] using h2⟩
theorem YE{ns:List Int}{k:Int}(h0:0≤k)(h1:k<ns.length):atI (ns.map V.int) k=some (.int (ns.getD k.toNat 0)):=by
 obtain⟨n,rfl⟩:=Int.eq_ofNat_of_zero_le h0;have hn:n<ns.length:=by omega
 refine Wf ?_;simp[List.getD,hn]
theorem ZaN{n:Nat}(h:n≤10000):n<sizeLine:=Nat.lt_of_le_of_lt h (by decide)
noncomputable def ZaO (ls:List B5) (i:Nat) (w:Int):List Fo.Trip:=(if(ls.getD i dB).giver=w then[((ls.getD i dB).taker,(i:Int),true)] else[])++(if(ls.getD i dB).taker=w then[((ls.getD i dB).giver,(i:Int),false)] else[])
noncomputable def WR (ls:List B5) (k:Nat) (w:Int):List Fo.Trip:=(List.range k).flatMap fun i=>ZaO ls i w
noncomputable def Z9 (ls:List B5):Int→List Fo.Trip:=WR ls ls.length
theorem Zfj(ls:List B5)(k:Nat)(w:Int):WR ls (k+1) w=WR ls k w++ZaO ls k w:=by
 unfold WR;rw[List.range_succ,List.flatMap_append];simp
theorem ZbF{α:Type}{xs:List α}(nd:xs.Nodup){i j:Nat}(hi:i<xs.length)(hj:j<xs.length)(e:xs[i]=xs[j]):i=j:=by
 rcases Nat.lt_trichotomy i j with h|h|h
 ·exact absurd e (List.pairwise_iff_getElem.mp nd i j hi hj h)
 ·exact h
 ·exact absurd e.symm (List.pairwise_iff_getElem.mp nd j i hj hi h)
theorem ZK{H H':Hp}{x:Addr}(s:Zd H H')(h:H' x=none):H x=none:=by
 cases e:H x with
 |none=>rfl
 |some o=>rw[s _ _ e] at h;cases h
theorem Zv{α:Type}{xs:List α}{i:Nat}{d:α}(h:i<xs.length):xs.getD i d=xs[i]:=by simp[List.getD,h]
theorem V4{ls:List B5}{w:Int}{t:Fo.Trip}(h:t∈Z9 ls w):∃(i:Nat)(hi:i<ls.length),t∈ZaO ls i w:=by
 unfold Z9 WR at h;obtain⟨i,hi,ht⟩:=List.mem_flatMap.mp h;exact⟨i,List.mem_range.mp hi,ht⟩
theorem Zey{ls:List B5}{w:Int}{t:Fo.Trip}{i:Nat}(hi:i<ls.length)(h:t∈ZaO ls i w):t∈Z9 ls w:=by
 unfold Z9 WR;exact List.mem_flatMap.mpr ⟨i,List.mem_range.mpr hi,h⟩
theorem WQ{ls:List B5}{i:Nat}{w:Int}{t:Fo.Trip}:t∈ZaO ls i w↔((ls.getD i dB).giver=w∧t=((ls.getD i dB).taker,(i:Int),true))∨((ls.getD i dB).taker=w∧t=((ls.getD i dB).giver,(i:Int),false)):=by
 unfold ZaO;rw[List.mem_append]
 by_cases h1:(ls.getD i dB).giver=w<;>by_cases h2:(ls.getD i dB).taker=w<;>simp[h1,h2]
theorem Zaf(ls:List B5):Fo.ZiL (Z9 ls):=by
 intro a b t al h;obtain⟨i,hi,ht⟩:=V4 h;refine Zey hi ?_;rw[WQ] at ht⊢;rcases ht with⟨h1,h2⟩|⟨h1,h2⟩
 ·injection h2 with e1 e2
  injection e2 with e2 e3
  exact .inr ⟨e1.symm,by rw[←h1,e2,e3];rfl⟩
 ·injection h2 with e1 e2
  injection e2 with e2 e3
  exact .inl ⟨e1.symm,by rw[←h1,e2,e3];rfl⟩
def ZH(ls:List B5)(n:Nat):Prop:=∀b∈ls,0≤b.giver∧b.giver<(n:Int)∧0≤b.taker∧b.taker<(n:Int)
theorem ZH.at{ls:List B5}{n i:Nat}(h:ZH ls n)(hi:i<ls.length):0≤(ls.getD i dB).giver∧(ls.getD i dB).giver<(n:Int)∧0≤(ls.getD i dB).taker∧(ls.getD i dB).taker<(n:Int):=by
 rw[Zv hi];exact h _ (List.getElem_mem hi)
theorem V8{ls:List B5}{n:Nat}(h:ZH ls n):∀a,∀t∈Z9 ls a,0≤t.1∧t.1<(n:Int):=by
 intro a t ht;obtain⟨i,hi,hm⟩:=V4 ht;have:=h.at hi;rw[WQ] at hm;rcases hm with⟨_,rfl⟩|⟨_,rfl⟩<;>(dsimp only;omega)
noncomputable def WK (H:Hp):List Fo.Trip→List V→Prop:=Paired fun x v=>∃t,v= .ref t∧H t=some (.tup [.int x.1,.int x.2.1,.bl x.2.2])
theorem WK.keep{H H':Hp}(t:∀b xs,H b=some (.tup xs)→H' b=some (.tup xs)){vs:List V}{l:List Fo.Trip}(h:WK H l vs):WK H' l vs:=Paired.mapP h fun _ _ ⟨a,e,z⟩=>⟨a,e,t _ _ z⟩
theorem WK.snoc{H:Hp}:∀{l:List Fo.Trip}{vs:List V}{x:Fo.Trip}{t:Addr},WK H l vs→H t=some (.tup [.int x.1,.int x.2.1,.bl x.2.2])→WK H (l++ [x]) (vs++ [.ref t])
 |_,_,_,_,.nil,h=> .cons ⟨_,rfl,h⟩ .nil
 |_,_,_,_,.cons y r,h=> .cons y (WK.snoc r h)
theorem WK.length{H:Hp}{l:List Fo.Trip}{vs:List V}(h:WK H l vs):l.length=vs.length:=Paired.length h
theorem WK.at{H:Hp}:∀{l:List Fo.Trip}{vs:List V}{i:Nat}{x:Fo.Trip},WK H l vs→l[i]? =some x→∃t,vs[i]? =some (.ref t)∧H t=some (.tup [.int x.1,.int x.2.1,.bl x.2.2])
 |_,_,_,_,.nil,e=>by simp at e
 |_,_,0,_,.cons ⟨t,e1,h⟩ _,e=>by simp at e;subst e;exact⟨t,by simp[e1],h⟩
 |_,_,i+1,b,.cons _ r,e=>by
  obtain⟨t,h1,h2⟩:=WK.at (i:=i) (x:=b) r (by simpa using e);exact⟨t,by simpa using h1,h2⟩
def WA(H:Hp)(ia:List Addr)(W:Int→List Fo.Trip):Prop:=∀(j:Nat)(h:j<ia.length),∃vs,H ia[j]=some (.lst vs)∧WK H (W (j:Int)) vs
theorem WA.same{H H':Hp}{ia:List Addr}{W:Int→List Fo.Trip}(h:WA H ia W)(s:Zd H H'):WA H' ia W:=fun j hj=>by
 obtain⟨vs,h1,h2⟩:=h j hj;exact⟨vs,s _ _ h1,h2.keep fun _ _ e=>s _ _ e⟩
theorem WA.add{H:Hp}{ia:List Addr}{W:Int→List Fo.Trip}(h:WA H ia W)(nd:ia.Nodup){g:Nat}(hg:g<ia.length){vs:List V}(hv:H ia[g]=some (.lst vs))(ht:WK H (W (g:Int)) vs){t:Addr}{x:Fo.Trip}(htt:H t=some (.tup [.int x.1,.int x.2.1,.bl x.2.2])):
  WA (upd H ia[g] (.lst (vs++ [.ref t]))) ia (fun j=>W j++(if(g:Int)=j then[x] else[])):=by
 have fr:∀b xs,H b=some (.tup xs)→(upd H ia[g] (.lst (vs++ [.ref t]))) b=some (.tup xs):=fun b xs e=>by rw[Ze (YD e hv (by intro z;cases z))];exact e
 intro j hj
 by_cases e:j=g
 ·subst e;refine⟨vs++ [.ref t],Zf,?_⟩;dsimp only;rw[if_pos rfl];exact(ht.keep fr).snoc (fr _ _ htt)
 ·obtain⟨us,h1,h2⟩:=h j hj;have ne:ia[j]≠ia[g]:=fun z=>e (ZbF nd hj hg z);refine⟨us,by rw[Ze ne];exact h1,?_⟩;dsimp only;rw[if_neg (by omega),List.append_nil];exact h2.keep fr
structure Zbt(H:Hp)(r:Addr)(ia:List Addr)(n:Nat)(W:Int→List Fo.Trip):Prop where
 at_:H r=some (.lst (ia.map V.ref))
 len:ia.length=n
 nd:ia.Nodup
 wa:WA H ia W
theorem Zbt.same{H H':Hp}{r:Addr}{ia:List Addr}{n:Nat}{W:Int→List Fo.Trip}(h:Zbt H r ia n W)(s:Zd H H'):Zbt H' r ia n W:=⟨s _ _ h.at_,h.len,h.nd,h.wa.same s⟩
theorem Zdb{ia:List Addr}{g:Int}(h0:0≤g)(h1:g.toNat<ia.length):atI (ia.map V.ref) g=some (.ref ia[g.toNat]):=by
 have:=Wf (xs:=ia.map V.ref) (j:=g.toNat) (v:= .ref ia[g.toNat]) (by simp[h1])
 rwa [Int.toNat_of_nonneg h0] at this
noncomputable def Ut (H:Hp) (v:V):Option Fo.Trip→Prop
 |none=>v= .non
 |some (p,b,al)=>∃t,v= .ref t∧H t=some (.tup [.int p,.int b,.bl al])
theorem Ut.keep{H H':Hp}(t:∀b xs,H b=some (.tup xs)→H' b=some (.tup xs)){v:V}:∀{s:Option Fo.Trip},Ut H v s→Ut H' v s
 |none,h=>h
 |some (_,_,_),⟨a,e,z⟩=>⟨a,e,t _ _ z⟩
noncomputable def Ent (H:Hp):List (Key×V)→Fo.ZG→Prop:=Paired fun kv x=>kv.1=Sum.inl x.1∧Ut H kv.2 x.2
theorem Ent.keep{H H':Hp}(t:∀b xs,H b=some (.tup xs)→H' b=some (.tup xs)){kvs:List (Key×V)}{tr:Fo.ZG}(h:Ent H kvs tr):Ent H' kvs tr:=Paired.mapP h fun _ _ ⟨a,z⟩=>⟨a,z.keep t⟩
theorem Ent.snoc{H:Hp}:∀{kvs:List (Key×V)}{tr:Fo.ZG}{w:Int}{v:V}{s:Option Fo.Trip},Ent H kvs tr→Ut H v s→Ent H (kvs++ [(Sum.inl w,v)]) (tr++ [(w,s)])
 |_,_,_,_,_,.nil,h=> .cons ⟨rfl,h⟩ .nil
 |_,_,_,_,_,.cons y r,h=> .cons y (Ent.snoc r h)
theorem Ent.length{H:Hp}{kvs:List (Key×V)}{tr:Fo.ZG}(h:Ent H kvs tr):kvs.length=tr.length:=Paired.length h
theorem Ent.keys{H:Hp}:∀{kvs:List (Key×V)}{tr:Fo.ZG},Ent H kvs tr→kvs.map (·.1)=(Fo.keys tr).map Sum.inl
 |_,_,.nil=>rfl
 |_,_,.cons ⟨a,_⟩ r=>by
  have:=Ent.keys r;unfold Fo.keys at this⊢;rw[List.map_cons,List.map_cons,List.map_cons,a,this]
theorem Ent.some{H:Hp}:∀{kvs:List (Key×V)}{tr:Fo.ZG}{w:Int},Ent H kvs tr→((valV kvs (Sum.inl w)).isSome=true↔w∈Fo.keys tr):=by
 intro kvs tr w h;rw[←WZ,List.any_eq_true];have hk:=h.keys
 constructor
 ·rintro⟨kv,hm,e⟩;have e1:kv.1=Sum.inl w:=of_decide_eq_true e;have:kv.1∈kvs.map (·.1):=List.mem_map_of_mem hm;rw[hk,e1] at this;obtain⟨w',hw',e2⟩:=List.mem_map.mp this;cases e2;exact hw'
 ·intro hw;have:(Sum.inl w:Key)∈(Fo.keys tr).map Sum.inl:=List.mem_map_of_mem hw;rw[←hk] at this;obtain⟨kv,hm,e⟩:=List.mem_map.mp this;exact⟨kv,hm,decide_eq_true e⟩
def Ve(H:Hp)(d:Addr)(tr:Fo.ZG):Prop:=∃kvs,H d=some (.dK kvs)∧Ent H kvs tr
theorem Ve.same{H H':Hp}{d:Addr}{tr:Fo.ZG}(h:Ve H d tr)(s:Zd H H'):Ve H' d tr:=by
 obtain⟨kvs,h1,h2⟩:=h;exact⟨kvs,s _ _ h1,h2.keep fun _ _ e=>s _ _ e⟩
theorem ZcR:∀(more kvs:List (Key×V))(k:Key),(valV (Yj kvs more) k).isSome=((valV kvs k).isSome||(valV more k).isSome)
 | [],kvs,k=>by
  show(valV kvs k).isSome=((valV kvs k).isSome||(valV ([]:List (Key×V)) k).isSome);have:valV ([]:List (Key×V)) k=none:=rfl;rw[this,Option.isSome_none,Bool.or_false]
 |(j,v)::r,kvs,k=>by
  show(valV (Yj (Z4 kvs j v) r) k).isSome=_;rw[ZcR r (Z4 kvs j v) k,V0]
  by_cases e:j=k
  ·subst e;rw[if_pos rfl,Yl rfl];simp
  ·rw[if_neg (fun z=>e z.symm),Yn e]
theorem Paired.get'{α β:Type}{P:α→β→Prop}:∀{xs:List α}{ys:List β}{i:Nat}{x:α},Paired P xs ys→xs[i]? =some x→∃y,ys[i]? =some y∧P x y
 |_,_,_,_,.nil,e=>by simp at e
 |_,_,0,_,.cons h _,e=>by simp at e;subst e;exact⟨_,rfl,h⟩
 |_,_,i+1,x,.cons _ r,e=>by
  obtain⟨y,h1,h2⟩:=Paired.get' (i:=i) (x:=x) r (by simpa using e);exact⟨y,by simpa using h1,h2⟩
noncomputable def Y3 (H:Hp):List Addr→List (Int×Fo.ZG)→Prop:=Paired fun d x=>Ve H d x.2
theorem Y3.same{H H':Hp}{ds:List Addr}{F:List (Int×Fo.ZG)}(h:Y3 H ds F)(s:Zd H H'):Y3 H' ds F:=Paired.mapP h fun _ _ z=>z.same s
theorem Y3.snoc{H:Hp}:∀{ds:List Addr}{F:List (Int×Fo.ZG)}{d:Addr}{x:Int×Fo.ZG},Y3 H ds F→Ve H d x.2→Y3 H (ds++ [d]) (F++ [x])
 |_,_,_,_,.nil,h=> .cons h .nil
 |_,_,_,_,.cons y r,h=> .cons y (Y3.snoc r h)
theorem Y3.keep{H H':Hp}(t:∀b xs,H b=some (.tup xs)→H' b=some (.tup xs)):∀{ds:List Addr}{F:List (Int×Fo.ZG)},Y3 H ds F→(∀d∈ds,∀kvs,H d=some (.dK kvs)→H' d=some (.dK kvs))→Y3 H' ds F
 |_,_,.nil,_=> .nil
 |_,_,.cons ⟨kvs,h1,h2⟩ r,k=> .cons ⟨kvs,k _ (by simp) _ h1,h2.keep t⟩ (Y3.keep t r fun d hd=>k d (List.mem_cons_of_mem _ hd))
theorem Y3.length{H:Hp}{ds:List Addr}{F:List (Int×Fo.ZG)}(h:Y3 H ds F):ds.length=F.length:=Paired.length h
structure Ziu(H:Hp)(f:Addr)(ds:List Addr)(F:List (Int×Fo.ZG)):Prop where
 at_:H f=some (.lst (ds.map V.ref))
 trees:Y3 H ds F
theorem Zjk{n a:Nat}(h:a<2 ^ n):Builtin.Int.intBits (a:Int)≤n:=by
 unfold Builtin.Int.intBits
 split
 ·exact Nat.zero_le _
 ·rename_i hz;have h0:(a:Int).natAbs≠0:=by
   intro e;apply hz;have:(a:Int)=0:=by omega
   rw[this]
   rfl
  have e:(a:Int).natAbs=a:=Int.natAbs_natCast a;have:=(Nat.log2_lt h0).mpr (by rw[e];exact h);omega
theorem ZaL{n m a b:Nat}(ha:a<2 ^ n)(hb:b<2 ^ m)(h:n+m≤10000000):IntMulOk (a:Int) (b:Int):=by
 have b1:=Zjk ha;have b2:=Zjk hb;have k:Builtin.Int.intTooBig ((Builtin.Int.intBits (a:Int):Int)+(Builtin.Int.intBits (b:Int):Int))=false:=by
  unfold Builtin.Int.intTooBig;rw[PySem.bitsLine_eq];exact decide_eq_false (by omega)
 unfold IntMulOk;rw[k];simp
theorem Zmu{a:Nat}(h:a<2 ^ 8000):(a:Int).natAbs.log2<9000:=by
 rw[Int.natAbs_natCast]
 by_cases h0:a=0
 ·rw[h0];decide+kernel
 ·have:=(Nat.log2_lt h0).mpr h;omega
theorem Zis{a b:Nat}(hb:0<b)(h:b<2 ^ 8000):0<(b:Int)∧(b:Int).natAbs.log2<9000:=⟨by omega,Zmu h⟩
theorem VE{a b n m:Nat}(ha:a<2 ^ n)(hb:b<2 ^ m):a*b<2 ^ (n+m):=by
 rw[Nat.pow_add];exact Nat.mul_lt_mul'' ha hb
def Bal(B:B5)(al:Bool)(x y:Nat×Nat):Prop:=if al=true then x.1*y.2*B.take.toNat=y.1*x.2*B.give.toNat else x.1*y.2*B.give.toNat=y.1*x.2*B.take.toNat
structure Y8(ls:List B5)(tr:Fo.ZG)(zs:List (Int×(Nat×Nat)))(d:Nat):Prop where
 keys:zs.map (·.1)=(Fo.keys tr).take d
 pos:∀x∈zs,0<x.2.1∧0<x.2.2∧Nat.gcd x.2.1 x.2.2=1
 size:∀(i:Nat) x,zs[i]? =some x→x.2.1<2 ^ (110*i+1)∧x.2.2<2 ^ (110*i+1)
 first:∀(i:Nat)(w:Int),i<d→tr[i]? =some (w,none)→zs[i]? =some (w,(1,1))
 step:∀(i:Nat)(w p b:Int)(al:Bool),i<d→tr[i]? =some (w,some (p,b,al))→∃(j:Nat)(x y:Nat×Nat),j<i∧zs[i]? =some (w,x)∧zs[j]? =some (p,y)∧Bal (ls.getD b.toNat dB) al x y
theorem Zjb{ls:List B5}{tr:Fo.ZG}:Y8 ls tr [] 0:=⟨rfl,by simp,by simp,fun i w h=>absurd h (Nat.not_lt_zero _),fun i w p b al h=>absurd h (Nat.not_lt_zero _)⟩
theorem Y8.len{ls:List B5}{tr:Fo.ZG}{zs:List (Int×(Nat×Nat))}{d:Nat}(h:Y8 ls tr zs d)(hd:d≤tr.length):zs.length=d:=by
 have:=congrArg List.length h.keys;rw[List.length_map,List.length_take] at this;simp[Fo.keys] at this;omega
theorem ZiM{α:Type}{zs:List α}{x y:α}{i:Nat}(h:(zs++ [x])[i]? =some y):zs[i]? =some y∨(i=zs.length∧y=x):=by
 rcases Nat.lt_or_ge i zs.length with c|c
 ·rw[List.getElem?_append_left c] at h;exact .inl h
 ·rw[List.getElem?_append_right c] at h;have:i-zs.length=0:=by
   rcases Nat.eq_zero_or_pos (i-zs.length) with z|z
   ·exact z
   ·rw[List.getElem?_eq_none (by simp;omega)] at h;cases h
  rw[this] at h;simp at h;exact .inr ⟨by omega,h.symm⟩
theorem ZaU{α:Type}{zs:List α}{x y:α}{i:Nat}(h:zs[i]? =some y):(zs++ [x])[i]? =some y:=by
 rw[List.getElem?_append_left (List.getElem?_eq_some_iff.mp h).1];exact h
theorem ZcJ{α:Type}{zs:List α}{x:α}:(zs++ [x])[zs.length]? =some x:=by rw[List.getElem?_append_right (Nat.le_refl _),Nat.sub_self];rfl
theorem Y8.more{ls:List B5}{tr:Fo.ZG}{zs:List (Int×(Nat×Nat))}{d:Nat}(h:Y8 ls tr zs d)(hd:d<tr.length){w:Int}{st:Option Fo.Trip}(e:tr[d]? =some (w,st)){x:Nat×Nat}(hp:0<x.1∧0<x.2∧Nat.gcd x.1 x.2=1)(hs:x.1<2 ^ (110*d+1)∧x.2<2 ^ (110*d+1))
  (hn:st=none→x=(1,1)) (hst:∀p b al,st=some (p,b,al)→∃(j:Nat)(y:Nat×Nat),zs[j]? =some (p,y)∧Bal (ls.getD b.toNat dB) al x y):Y8 ls tr (zs++ [(w,x)]) (d+1):=by
 have hl:=h.len (Nat.le_of_lt hd);have hk:(Fo.keys tr)[d]? =some w:=by unfold Fo.keys;rw[List.getElem?_map,e];rfl
 refine⟨?_,fun y hy=>?_,fun i y hy=>?_,fun i w' hi e'=>?_,fun i w' p b al hi e'=>?_⟩
 ·rw[List.map_append,h.keys,List.take_succ,hk];rfl
 ·rcases List.mem_append.mp hy with z|z
  ·exact h.pos y z
  ·rw[List.mem_singleton.mp z];exact hp
 ·rcases ZiM hy with z|⟨z1,z2⟩
  ·exact h.size i y z
  ·rw[z2,z1,hl];exact hs
 ·rcases Nat.lt_succ_iff_lt_or_eq.mp hi with z|z
  ·exact ZaU (h.first i w' z e')
  ·subst z;rw[e] at e';cases e';rw[hn rfl,←hl];exact ZcJ
 ·rcases Nat.lt_succ_iff_lt_or_eq.mp hi with z|z
  ·obtain⟨j,x',y',h1,h2,h3,h4⟩:=h.step i w' p b al z e';exact⟨j,x',y',h1,ZaU h2,ZaU h3,h4⟩
  ·subst z;rw[e] at e';cases e';obtain⟨j,y,h1,h2⟩:=hst p b al rfl;have hj:=(List.getElem?_eq_some_iff.mp h1).1;refine⟨j,x,y,by omega,?_,ZaU h1,h2⟩;rw[←hl];exact ZcJ
noncomputable def ShE (H:Hp):List (Key×V)→List (Int×(Nat×Nat))→Prop:=Paired fun kv x=>kv.1=Sum.inl x.1∧∃t,kv.2= .ref t∧H t=some (.tup [.int (x.2.1:Nat),.int (x.2.2:Nat)])
theorem ShE.keep{H H':Hp}(t:∀b xs,H b=some (.tup xs)→H' b=some (.tup xs)){kvs:List (Key×V)}{zs:List (Int×(Nat×Nat))}(h:ShE H kvs zs):ShE H' kvs zs:=Paired.mapP h fun _ _ ⟨a,c,e,z⟩=>⟨a,c,e,t _ _ z⟩
theorem ShE.snoc{H:Hp}:∀{kvs:List (Key×V)}{zs:List (Int×(Nat×Nat))}{w:Int}{t:Addr}{x:Nat×Nat},ShE H kvs zs→H t=some (.tup [.int (x.1:Nat),.int (x.2:Nat)])→ShE H (kvs++ [(Sum.inl w,.ref t)]) (zs++ [(w,x)])
 |_,_,_,_,_,.nil,h=> .cons ⟨rfl,_,rfl,h⟩ .nil
 |_,_,_,_,_,.cons y r,h=> .cons y (ShE.snoc r h)
theorem ShE.length{H:Hp}{kvs:List (Key×V)}{zs:List (Int×(Nat×Nat))}(h:ShE H kvs zs):kvs.length=zs.length:=Paired.length h
theorem ShE.get{H:Hp}:∀{kvs:List (Key×V)}{zs:List (Int×(Nat×Nat))}{p:Int},ShE H kvs zs→p∈zs.map (·.1)→∃(y:Nat×Nat)(t:Addr),(p,y)∈zs∧valV kvs (Sum.inl p)=some (.ref t)∧H t=some (.tup [.int (y.1:Nat),.int (y.2:Nat)])
 |_,_,_,.nil,h=>by simp at h
 |_,_,p,.cons (a:=kv) (b:=z) ⟨a,t,e,ht⟩ r,h=>by
  obtain⟨k,v⟩:=kv;obtain⟨w,x⟩:=z;dsimp only at a e ht;subst a e
  by_cases c:w=p
  ·subst c;exact⟨x,t,by simp,Yl rfl,ht⟩
  ·have h':p∈_:=(List.mem_cons.mp h).resolve_left (fun y=>c y.symm);obtain⟨y,t',h1,h2,h3⟩:=ShE.get r h';exact⟨y,t',List.mem_cons_of_mem _ h1,by rw[Yn (fun y=>c (Sum.inl.inj y))];exact h2,h3⟩
theorem ShE.none{H:Hp}{kvs:List (Key×V)}{zs:List (Int×(Nat×Nat))}{p:Int}(h:ShE H kvs zs)(hp:p∉zs.map (·.1)):valV kvs (Sum.inl p)=none:=by
 cases e:valV kvs (Sum.inl p) with
 |none=>rfl
 |some v=>
  exfalso;have:(valV kvs (Sum.inl p)).isSome=true:=by rw[e];rfl
  rw[←WZ,List.any_eq_true] at this;obtain⟨kv,hm,e2⟩:=this;obtain⟨i,hi,rfl⟩:=List.getElem_of_mem hm;obtain⟨z,hz,a,_⟩:=Paired.get' h (List.getElem?_eq_getElem hi);have e3:kvs[i].1=Sum.inl p:=of_decide_eq_true e2;rw[a] at e3;have:z.1=p:=Sum.inl.inj e3;exact hp (List.mem_map.mpr ⟨z,List.mem_of_getElem? hz,this⟩)
theorem ZgC{y u:Nat×Nat}{x:Nat×Nat}{gv tk G n:Nat}(y0:0<y.1)(y1:0<y.2)(g0:0<gv)(t0:0<tk)(hu:u.1=gv / G)(hv:u.2=tk / G)(hG:G=Nat.gcd gv tk)(hx:x.1=y.1*u.1 / Nat.gcd (y.1*u.1) (y.2*u.2))(hx2:x.2=y.2*u.2 / Nat.gcd (y.1*u.1) (y.2*u.2)):
  (0<x.1∧0<x.2∧Nat.gcd x.1 x.2=1)∧x.1*y.2*tk=y.1*x.2*gv∧x.1≤y.1*gv∧x.2≤y.2*tk:=by
 have Gp:0<G:=by rw[hG];exact Nat.gcd_pos_of_pos_left _ g0
 have d1:G ∣ gv:=by rw[hG];exact Nat.gcd_dvd_left _ _
 have d2:G ∣ tk:=by rw[hG];exact Nat.gcd_dvd_right _ _
 have e1:gv=u.1*G:=by rw[hu,Nat.div_mul_cancel d1]
 have e2:tk=u.2*G:=by rw[hv,Nat.div_mul_cancel d2]
 have u0:0<u.1:=by rcases Nat.eq_zero_or_pos u.1 with z|z;rw[z,Nat.zero_mul] at e1;omega;exact z
 have v0:0<u.2:=by rcases Nat.eq_zero_or_pos u.2 with z|z;rw[z,Nat.zero_mul] at e2;omega;exact z
 have A0:0<y.1*u.1:=Nat.mul_pos y0 u0;have B0:0<y.2*u.2:=Nat.mul_pos y1 v0;have gp:0<Nat.gcd (y.1*u.1) (y.2*u.2):=Nat.gcd_pos_of_pos_left _ A0;have c1:x.1*Nat.gcd (y.1*u.1) (y.2*u.2)=y.1*u.1:=by rw[hx,Nat.div_mul_cancel (Nat.gcd_dvd_left _ _)]
 have c2:x.2*Nat.gcd (y.1*u.1) (y.2*u.2)=y.2*u.2:=by rw[hx2,Nat.div_mul_cancel (Nat.gcd_dvd_right _ _)]
 refine⟨⟨?_,?_,?_⟩,?_,?_,?_⟩
 ·rw[hx];exact Nat.div_pos (Nat.le_of_dvd A0 (Nat.gcd_dvd_left _ _)) gp
 ·rw[hx2];exact Nat.div_pos (Nat.le_of_dvd B0 (Nat.gcd_dvd_right _ _)) gp
 ·rw[hx,hx2];exact Nat.gcd_div_gcd_div_gcd_of_pos_left A0
 ·generalize Nat.gcd (y.1*u.1) (y.2*u.2)=g at*;have k:x.1*(y.2*u.2)=(y.1*u.1)*x.2:=by rw[←c2,←c1,Nat.mul_comm x.2 g,Nat.mul_assoc]
  calc x.1*y.2*tk=x.1*(y.2*u.2)*G:=by rw[e2];simp only[Nat.mul_assoc]
   _=(y.1*u.1)*x.2*G:=by rw[k]
   _=y.1*x.2*gv:=by rw[e1,Nat.mul_right_comm y.1 u.1 x.2,Nat.mul_assoc (y.1*x.2)]
 ·have h1:x.1≤y.1*u.1:=by rw[hx];exact Nat.div_le_self _ _
  have h2:u.1≤gv:=by rw[hu];exact Nat.div_le_self _ _
  exact Nat.le_trans h1 (Nat.mul_le_mul_left _ h2)
 ·have h1:x.2≤y.2*u.2:=by rw[hx2];exact Nat.div_le_self _ _
  have h2:u.2≤tk:=by rw[hv];exact Nat.div_le_self _ _
  exact Nat.le_trans h1 (Nat.mul_le_mul_left _ h2)
theorem Zkh{H:Hp}{kvs:List (Key×V)}{tr:Fo.ZG}{i:Nat}{kv:Key×V}(h:Ent H kvs tr)(e:kvs[i]? =some kv):∃w st,tr[i]? =some (w,st)∧kv.1=Sum.inl w∧Ut H kv.2 st:=by
 obtain⟨⟨w,st⟩,h1,h2,h3⟩:=Paired.get' h e;exact⟨w,st,h1,h2,h3⟩
theorem Zdc{H:Hp}{a:Addr}{u:HO}(h:L2.Rd H a u):H a≠none:=by
 rcases h with h|⟨o,h⟩<;>(rw[h];simp)
theorem U0{H:Hp}{d:Addr}{kvs:List (Key×V)}{o:Obj}(h:L2.Rd H d (.dK kvs)):ZM [d] H (upd H d (.frz o (.dK kvs))):=by
 refine⟨fun b x e n=>?_,fun b xs e=>?_⟩
 ·rw[Ze (fun z=>n (by simp[z]))];exact e
 ·have:b≠d:=fun z=>by
   rw[z] at e;rcases h with h|⟨o',h⟩<;>(rw[h] at e;cases e)
  rw[Ze this];exact e
def YH(ls:List B5):Prop:=∀i<ls.length,∃gv tk,0<gv∧0<tk∧gv<2 ^ 110∧tk<2 ^ 110∧(ls.getD i dB).give=((gv:Nat):Int)∧(ls.getD i dB).take=((tk:Nat):Int)
theorem Zh9{ls:List B5}{n:Nat}{F:List (Int×Fo.ZG)}(hb:ZH ls n)(hw:Fo.WM (Z9 ls) n F n){i j:Nat}{x y:Int×Fo.ZG}(hi:F[i]? =some x)(hj:F[j]? =some y)(ne:i≠j):∀w∈Fo.keys x.2,w∉Fo.keys y.2:=by
 intro w h1 h2;obtain⟨g1,c1,_,_⟩:=hw.tree x (List.mem_of_getElem? hi);obtain⟨g2,c2,_,_⟩:=hw.tree y (List.mem_of_getElem? hj);have a1:=(g1.keys_iff c1 w).mp h1;have a2:=(g2.keys_iff c2 w).mp h2;have e1:=hw.least x (List.mem_of_getElem? hi) y.1 ((g1.keys_iff c1 _).mpr (a1.trans (a2.symm (Zaf ls))));have e2:=hw.least y (List.mem_of_getElem? hj) x.1 ((g2.keys_iff c2 _).mpr (a2.trans (a1.symm (Zaf ls))));obtain⟨hi',ei⟩:=List.getElem?_eq_some_iff.mp hi;obtain⟨hj',ej⟩:=List.getElem?_eq_some_iff.mp hj;rcases Nat.lt_or_gt_of_ne ne with z|z
 ·have:=List.pairwise_iff_getElem.mp hw.rise i j hi' hj' z;rw[ei,ej] at this;omega
 ·have:=List.pairwise_iff_getElem.mp hw.rise j i hj' hi' z;rw[ei,ej] at this;omega
theorem UR{α β:Type}{P P':α→β→Prop}:∀{xs:List α}{ys:List β},Paired P xs ys→(∀x y,x∈xs→P x y→P' x y)→Paired P' xs ys
 |_,_,.nil,_=> .nil
 |_,_,.cons h r,f=> .cons (f _ _ (by simp) h) (UR r fun x y hx=>f x y (List.mem_cons_of_mem _ hx))
noncomputable def YG (H:Hp):List Addr→List (Int×Fo.ZG)→Prop:=Paired fun d x=>∃kvs,L2.Rd H d (.dK kvs)∧Ent H kvs x.2
theorem Y3.r{H:Hp}{ds:List Addr}{F:List (Int×Fo.ZG)}(h:Y3 H ds F):YG H ds F:=Paired.mapP h fun _ _ ⟨kvs,a,b⟩=>⟨kvs,.inl a,b⟩
theorem YG.same{H H':Hp}{ds:List Addr}{F:List (Int×Fo.ZG)}(h:YG H ds F)(s:Zd H H'):YG H' ds F:=Paired.mapP h fun _ _ ⟨kvs,a,b⟩=>⟨kvs,a.imp (s _ _) (fun⟨o,z⟩=>⟨o,s _ _ z⟩),b.keep fun _ _ e=>s _ _ e⟩
theorem YG.length{H:Hp}{ds:List Addr}{F:List (Int×Fo.ZG)}(h:YG H ds F):ds.length=F.length:=Paired.length h
theorem ZkT{H:Hp}{d:Addr}{k1 k2:List (Key×V)}(h1:L2.Rd H d (.dK k1))(h2:L2.Rd H d (.dK k2)):k1=k2:=by
 rcases h1 with a|⟨o1,a⟩<;>rcases h2 with b|⟨o2,b⟩<;>(rw[a] at b;cases b)<;>rfl
theorem YG.frz{H:Hp}{ds:List Addr}{F:List (Int×Fo.ZG)}(h:YG H ds F){d:Addr}{kvs:List (Key×V)}{o:Obj}(hd:L2.Rd H d (.dK kvs)):YG (upd H d (.frz o (.dK kvs))) ds F:=Paired.mapP h fun d' _ ⟨k,a,b⟩=>by
 refine⟨k,?_,b.keep (U0 hd).tups⟩
 by_cases z:d'=d
 ·subst z;rw[ZkT a hd];exact .inr ⟨o,Zf⟩
 ·rcases a with a|⟨o',a⟩
  ·exact .inl (by rw[Ze z];exact a)
  ·exact .inr ⟨o',by rw[Ze z];exact a⟩
noncomputable def lcmL (zs:List (Int×(Nat×Nat))):Nat:=zs.foldl (fun c x=>Nat.lcm c x.2.2) 1
theorem ZhA(zs:List (Int×(Nat×Nat)))(x:Int×(Nat×Nat)):lcmL (zs++ [x])=Nat.lcm (lcmL zs) x.2.2:=by unfold lcmL;rw[List.foldl_append];rfl
theorem Zi4{a b:Nat}:a / Nat.gcd a b*b=Nat.lcm a b:=by
 unfold Nat.lcm;rw[Nat.div_mul_right_comm (Nat.gcd_dvd_left a b)]
theorem Zh1{a b n m:Nat}(ha:a<2 ^ n)(hb:b<2 ^ m):Nat.lcm a b<2 ^ (n+m):=by
 unfold Nat.lcm;exact Nat.lt_of_le_of_lt (Nat.div_le_self _ _) (VE ha hb)
def ZaJ(ls:List B5)(x:Int×Fo.ZG)(rs:List Int):Prop:=∃zs,Y8 ls x.2 zs x.2.length∧∀y∈zs,rs[y.1.toNat]? =some ((lcmL zs / y.2.2*y.2.1:Nat):Int)
noncomputable def WW (cs:List Int) (b:B5):Int:=cs.getD b.giver.toNat 0*b.give-cs.getD b.taker.toNat 0*b.take
structure Zlr(ls:List B5)(n:Nat)(rs:List Int):Prop where
 len:rs.length=n
 pos:∀c∈rs,∃k:Nat,c=(k:Int)∧0<k∧k<2 ^ 420000
theorem ZdQ:∀(zs:List (Int×(Nat×Nat)))(c:Nat),c ∣ zs.foldl (fun c x=>Nat.lcm c x.2.2) c∧∀y∈zs,y.2.2 ∣ zs.foldl (fun c x=>Nat.lcm c x.2.2) c
 | [],c=>⟨Nat.dvd_refl _,by simp⟩
 |z::zs,c=>by
  obtain⟨h1,h2⟩:=ZdQ zs (Nat.lcm c z.2.2);refine⟨Nat.dvd_trans (Nat.dvd_lcm_left _ _) h1,fun y hy=>?_⟩;rcases List.mem_cons.mp hy with rfl|hy
  ·exact Nat.dvd_trans (Nat.dvd_lcm_right _ _) h1
  ·exact h2 y hy
theorem ZdD:∀(zs:List (Int×(Nat×Nat)))(c m:Nat),c ∣ m→(∀y∈zs,y.2.2 ∣ m)→zs.foldl (fun c x=>Nat.lcm c x.2.2) c ∣ m
 | [],_,_,h,_=>h
 |z::zs,c,m,h,k=>ZdD zs _ m (Nat.lcm_dvd h (k z (by simp))) fun y hy=>k y (List.mem_cons_of_mem _ hy)
theorem ZbQ{zs:List (Int×(Nat×Nat))}{y:Int×(Nat×Nat)}(h:y∈zs):y.2.2 ∣ lcmL zs:=(ZdQ zs 1).2 y h
theorem ZiV{zs:List (Int×(Nat×Nat))}{m:Nat}(h:∀y∈zs,y.2.2 ∣ m):lcmL zs ∣ m:=ZdD zs 1 m (Nat.one_dvd m) h
theorem Ze9{zs:List (Int×(Nat×Nat))}(h:∀y∈zs,0<y.2.2):0<lcmL zs:=by
 unfold lcmL;have key:∀(zs:List (Int×(Nat×Nat)))(c:Nat),0<c→(∀y∈zs,0<y.2.2)→0<zs.foldl (fun c x=>Nat.lcm c x.2.2) c:=by
  intro zs
  induction zs with
  |nil=>intro c hc _;exact hc
  |cons z zs ih=>intro c hc k;exact ih _ (Nat.lcm_pos hc (k z (by simp))) fun y hy=>k y (List.mem_cons_of_mem _ hy)
 exact key zs 1 (by decide) h
theorem Zft{ls:List B5}{tr:Fo.ZG}{first:Int}{ways:Int→List Fo.Trip}{zs:List (Int×(Nat×Nat))}(hg:Fo.Z2 ways first tr)(h:Y8 ls tr zs tr.length){k:Nat}(hk:∀y∈zs,k ∣ lcmL zs / y.2.2*y.2.1):k=1:=by
 have hl0:0<tr.length:=(List.getElem?_eq_some_iff.mp hg.head).1;have h0:=List.mem_of_getElem? (h.first 0 first hl0 hg.head);have kC:k ∣ lcmL zs:=by
  have:=hk _ h0;simpa using this
 have Cp:0<lcmL zs:=Ze9 fun y hy=>(h.pos y hy).2.1;obtain⟨c,hc⟩:=kC;have k0:0<k:=by
  rcases Nat.eq_zero_or_pos k with z|z
  ·rw[z,Nat.zero_mul] at hc;omega
  ·exact z
 have all:∀y∈zs,y.2.2 ∣ c:=by
  intro y hy;obtain⟨p1,p2,p3⟩:=h.pos y hy;obtain⟨m,hm⟩:=hk y hy;have e1:lcmL zs / y.2.2*y.2.2=lcmL zs:=Nat.div_mul_cancel (ZbQ hy);have e2:k*(c*y.2.1)=k*(y.2.2*m):=by
   calc k*(c*y.2.1)=lcmL zs*y.2.1:=by rw[hc,Nat.mul_assoc]
    _=(lcmL zs / y.2.2*y.2.1)*y.2.2:=by
     conv=>lhs;rw[←e1]
     rw[Nat.mul_right_comm]
    _=k*m*y.2.2:=by rw[hm]
    _=k*(y.2.2*m):=by rw[Nat.mul_assoc,Nat.mul_comm m]
  have e3:=Nat.eq_of_mul_eq_mul_left k0 e2;have d:y.2.2 ∣ c*y.2.1:=⟨m,e3⟩;exact Nat.Coprime.dvd_of_dvd_mul_right (show Nat.gcd y.2.2 y.2.1=1 by rw[Nat.gcd_comm];exact p3) d
 have hd:=ZiV all;rw[hc] at hd;have c0:0<c:=by
  rcases Nat.eq_zero_or_pos c with z|z
  ·rw[z,Nat.mul_zero] at hc;omega
  ·exact z
 have:=Nat.le_of_dvd c0 hd;rcases Nat.lt_or_ge k 2 with z|z
 ·omega
 ·have:2*c≤k*c:=Nat.mul_le_mul_right c z;omega
structure Zf5(ls:List B5)(z:Int→Nat):Prop where
 pos:∀w,0<z w
 bal:∀i<ls.length,(ls.getD i dB).give.toNat*z (ls.getD i dB).giver=(ls.getD i dB).take.toNat*z (ls.getD i dB).taker
theorem ZjP{zs:List (Int×(Nat×Nat))}(h:∀y∈zs,y.2.2<2 ^ 6700):lcmL zs<2 ^ (6700*zs.length+1):=by
 have key:∀(zs:List (Int×(Nat×Nat)))(c n:Nat),c<2 ^ n→(∀y∈zs,y.2.2<2 ^ 6700)→zs.foldl (fun c x=>Nat.lcm c x.2.2) c<2 ^ (n+6700*zs.length):=by
  intro zs
  induction zs with
  |nil=>intro c n hc _;simpa using hc
  |cons z zs ih=>
   intro c n hc k;have:=ih (Nat.lcm c z.2.2) (n+6700) (Zh1 hc (k z (by simp))) fun y hy=>k y (List.mem_cons_of_mem _ hy);have e:n+6700+6700*zs.length=n+6700*(z::zs).length:=by simp[Nat.mul_succ];omega
   rw[e] at this;exact this
 have:=key zs 1 1 (by decide) h;rw[Nat.add_comm];exact this
section
variable {ls:List B5}{n:Nat}{F:List (Int×Fo.ZG)}{rs:List Int}
theorem ZcD{x:Int×Fo.ZG}{zs:List (Int×(Nat×Nat))}(h:Y8 ls x.2 zs x.2.length){w:Int}(hw:w∈Fo.keys x.2):∃y∈zs,y.1=w:=by
 have h1:=h.keys;have h2:(Fo.keys x.2).take x.2.length=Fo.keys x.2:=List.take_of_length_le (by simp[Fo.keys]);rw[h2] at h1;rw[←h1] at hw;obtain⟨y,hy,e⟩:=List.mem_map.mp hw;exact⟨y,hy,e⟩
theorem ZeD(hbt:ZH ls n)(hn:n≤60)(hwd:Fo.WM (Z9 ls) n F n)(hrl:rs.length=n)(hset:∀x∈F,ZaJ ls x rs):Zlr ls n rs:=by
 refine⟨hrl,fun c hc=>?_⟩;obtain⟨i,hi,rfl⟩:=List.getElem_of_mem hc;obtain⟨x,hx,hk⟩:=hwd.all (i:Int) (by omega) (by omega);obtain⟨zs,hg,hz⟩:=hset x hx;obtain⟨y,hy,ey⟩:=ZcD hg hk;have h1:=hz y hy;rw[ey,Int.toNat_natCast,List.getElem?_eq_getElem hi] at h1;obtain⟨g,gg,g0,g1⟩:=hwd.tree x hx;have htl:x.2.length≤60:=by
  have:=Fo.UA (n:=n) g.nodup (g.rg ⟨g0,g1⟩ (V8 hbt));simp[Fo.keys] at this;omega
 have hzl:=hg.len (Nat.le_refl _);have sz:∀y∈zs,y.2.1<2 ^ 6700∧y.2.2<2 ^ 6700:=fun y hy=>by
  obtain⟨j,hj⟩:=List.getElem?_of_mem hy;have hjl:=(List.getElem?_eq_some_iff.mp hj).1;obtain⟨a,b⟩:=hg.size j y hj;have e:(2:Nat) ^ (110*j+1)≤2 ^ 6700:=Nat.pow_le_pow_right (by decide) (by omega);exact⟨Nat.lt_of_lt_of_le a e,Nat.lt_of_lt_of_le b e⟩
 have hC:=ZjP fun y hy=>(sz y hy).2;obtain⟨p1,p2,_⟩:=hg.pos y hy;refine⟨_,Option.some.inj h1,Nat.mul_pos (Nat.div_pos (Nat.le_of_dvd (Ze9 fun y hy=>(hg.pos y hy).2.1) (ZbQ hy)) p2) p1,?_⟩;refine Nat.lt_of_lt_of_le (VE (Nat.lt_of_le_of_lt (Nat.div_le_self _ _) hC) (sz y hy).1) (Nat.pow_le_pow_right (by decide) ?_);have:6700*zs.length≤6700*60:=Nat.mul_le_mul_left _ (by omega);omega
end
inductive Z7(tr:Fo.ZG):Int→List (Int×Bool)→Prop
 |root {w:Int} {i:Nat}:tr[i]? =some (w,none)→Z7 tr w []
 |step {w p b:Int} {al:Bool} {i:Nat} {ps:List (Int×Bool)}:tr[i]? =some (w,some (p,b,al))→Z7 tr p ps→Z7 tr w (ps++ [(b,al)])
theorem Zc9{H:Hp}:∀{kvs:List (Key×V)}{tr:Fo.ZG}{i:Nat}{w:Int}{s:Option Fo.Trip},Ent H kvs tr→(Fo.keys tr).Nodup→tr[i]? =some (w,s)→∃v,valV kvs (Sum.inl w)=some v∧Ut H v s
 |_,_,_,_,_,.nil,_,h=>by simp at h
 |kv::_,z::_,0,w,s,.cons ⟨a,e⟩ r,nd,h=>by
  obtain⟨k,v⟩:=kv;obtain rfl:z=(w,s):=by simpa using h
  dsimp only at a e;subst a;exact⟨v,Yl rfl,e⟩
 |kv::_,z::tr,i+1,w,s,.cons ⟨a,e⟩ r,nd,h=>by
  obtain⟨k,v⟩:=kv;obtain⟨w',x⟩:=z;dsimp only at a e;subst a;have h':tr[i]? =some (w,s):=by simpa using h
  have nd':(w'::Fo.keys tr).Nodup:=nd;have c:w'≠w:=fun y=>(List.nodup_cons.mp nd').1 (y▸Fo.Wy h');obtain⟨v',h1,h2⟩:=Zc9 r (List.nodup_cons.mp nd').2 h';exact⟨v',by rw[Yn (fun y=>c (Sum.inl.inj y))];exact h1,h2⟩
noncomputable def Z1 (H:Hp):List V→List (Int×Bool)→Prop:=Paired fun v x=>∃t,v= .ref t∧H t=some (.tup [.int x.1,.bl x.2])
theorem Z1.keep{H H':Hp}(t:∀b xs,H b=some (.tup xs)→H' b=some (.tup xs)){vs:List V}{l:List (Int×Bool)}(h:Z1 H vs l):Z1 H' vs l:=Paired.mapP h fun _ _ ⟨a,e,z⟩=>⟨a,e,t _ _ z⟩
theorem Z1.snoc{H:Hp}:∀{vs:List V}{l:List (Int×Bool)}{x:Int×Bool}{t:Addr},Z1 H vs l→H t=some (.tup [.int x.1,.bl x.2])→Z1 H (vs++ [.ref t]) (l++ [x])
 |_,_,_,_,.nil,h=> .cons ⟨_,rfl,h⟩ .nil
 |_,_,_,_,.cons y r,h=> .cons y (Z1.snoc r h)
theorem Z1.rev{H:Hp}:∀{vs:List V}{l:List (Int×Bool)},Z1 H vs l→Z1 H vs.reverse l.reverse
 |_,_,.nil=> .nil
 |_,_,.cons ⟨t,e,h⟩ r=>by
  subst e;rw[List.reverse_cons,List.reverse_cons];exact Z1.snoc (Z1.rev r) h
theorem Z1.length{H:Hp}{vs:List V}{l:List (Int×Bool)}(h:Z1 H vs l):vs.length=l.length:=Paired.length h
theorem ZaC{H H':Hp}{d:Addr}{kvs:List (Key×V)}(h:L2.Rd H d (.dK kvs))(s:Zd H H'):L2.Rd H' d (.dK kvs):=h.imp (s _ _) (fun⟨o,z⟩=>⟨o,s _ _ z⟩)
noncomputable def WP (bi:Int) (pg pt:List (Int×Bool)) (k:Nat):List (Int×Bool):=(bi,true)::((pt.drop k).reverse.map fun x=>(x.1,!x.2))++pg.drop k
theorem Zio(a b:Int)(x y:Bool):PyData.eqv (.tuple [.int a,.bool x]) (.tuple [.int b,.bool y])=decide (a=b∧x=y):=by
 cases x<;>cases y<;>simp[PyData.eqv,PyData.eqvAll]<;>by_cases h:a=b<;>simp[h]
theorem Ze4{K:PySem.W.Frag}{H:Hp}{t:Addr}{a:Int}{x:Bool}(h:H t=some (.tup [.int a,.bl x])):Wr K H (.ref t) (.tuple [.int a,.bool x]):= .tup (.of h) (.cons (.int _) (.cons (.bl _) .nil))
theorem Ze6(a:Int)(x:Bool):(PyData.tuple [.int a,.bool x]).canLay0=true:=by simp[PyData.canLay0,PyData.canLayAll0]
theorem ZgQ(a:Int)(x:Bool):(PyData.tuple [.int a,.bool x]).depth≤60:=by simp[PyData.depth,PyData.depthAll]
theorem ZbM{H:Hp}:∀{vs:List V}{ps:List (Int×Bool)}{i:Nat}{x:Int×Bool},Z1 H vs ps→ps[i]? =some x→∃t,vs[i]? =some (.ref t)∧H t=some (.tup [.int x.1,.bl x.2])
 |_,_,_,_,.nil,e=>by simp at e
 |_,_,0,_,.cons ⟨t,e1,h⟩ _,e=>by simp at e;subst e;exact⟨t,by simp[e1],h⟩
 |_,_,i+1,x,.cons _ r,e=>by
  obtain⟨t,h1,h2⟩:=ZbM (i:=i) (x:=x) r (by simpa using e);exact⟨t,by simpa using h1,h2⟩
def UZ(W:Int→List Fo.Trip)(gv tk:Int→Int):Prop:=∀(p o b:Int)(al:Bool),(o,b,al)∈W p→(al=true∧p=gv b∧o=tk b)∨(al=false∧p=tk b∧o=gv b)
noncomputable def Zbe (gv tk:Int→Int) (x:Int×Bool):Int:=if x.2=true then gv x.1 else tk x.1
noncomputable def ZgA (gv tk:Int→Int) (x:Int×Bool):Int:=if x.2=true then tk x.1 else gv x.1
noncomputable def YN (gv tk:Int→Int):Int→List (Int×Bool)→Int→Prop
 |a,[],c=>a=c
 |a,x::ps,c=>Zbe gv tk x=a∧YN gv tk (ZgA gv tk x) ps c
theorem YN.app{gv tk:Int→Int}:∀{ps:List (Int×Bool)}{a m c:Int}{qs:List (Int×Bool)},YN gv tk a ps m→YN gv tk m qs c→YN gv tk a (ps++qs) c
 | [],_,_,_,_,h,k=>by
  have e:_=_:=h;rw[e];exact k
 |_::_,_,_,_,_,h,k=>⟨h.1,YN.app h.2 k⟩
theorem YN.split{gv tk:Int→Int}:∀{ps:List (Int×Bool)}{a c:Int}{qs:List (Int×Bool)},YN gv tk a (ps++qs) c→∃m,YN gv tk a ps m∧YN gv tk m qs c
 | [],a,_,_,h=>⟨a,rfl,h⟩
 |x::ps,_,_,_,h=>by
  obtain⟨m,h1,h2⟩:=YN.split (ps:=ps) h.2;exact⟨m,⟨h.1,h1⟩,h2⟩
theorem YN.det{gv tk:Int→Int}:∀{ps:List (Int×Bool)}{a c c':Int},YN gv tk a ps c→YN gv tk a ps c'→c=c'
 | [],_,_,_,h,k=>by
  have e:_=_:=h;have e':_=_:=k;exact e.symm.trans e'
 |_::ps,_,_,_,h,k=>YN.det (ps:=ps) h.2 k.2
theorem YN.rev{gv tk:Int→Int}:∀{ps:List (Int×Bool)}{a c:Int},YN gv tk a ps c→YN gv tk c (ps.reverse.map fun x=>(x.1,!x.2)) a
 | [],_,_,h=>by
  have e:_=_:=h;exact e.symm
 |(b,al)::ps,a,c,h=>by
  have ih:=YN.rev (ps:=ps) h.2;rw[List.reverse_cons,List.map_append];refine ih.app ?_;have h1:=h.1;refine⟨?_,?_⟩
  ·cases al<;>simp[Zbe,ZgA]
  ·show ZgA gv tk (b,!al)=a;rw[←h1];cases al<;>simp[Zbe,ZgA]
section
variable {W:Int→List Fo.Trip}{first:Int}{tr:Fo.ZG}{gv tk:Int→Int}
theorem WF{i j:Nat}{w:Int}{s s':Option Fo.Trip}(nd:(Fo.keys tr).Nodup)(h1:tr[i]? =some (w,s))(h2:tr[j]? =some (w,s')):i=j:=by
 have e1:(Fo.keys tr)[i]? =some w:=by simp[Fo.keys,h1]
 have e2:(Fo.keys tr)[j]? =some w:=by simp[Fo.keys,h2]
 exact(List.getElem?_inj (List.getElem?_eq_some_iff.mp e1).1 nd).mp (e1.trans e2.symm)
theorem ZdW(hg:Fo.Z2 W first tr)(hW:UZ W gv tk){i i':Nat}{w w' p p' b:Int}{al al':Bool}(h:tr[i]? =some (w,some (p,b,al)))(h':tr[i']? =some (w',some (p',b,al'))):i=i':=by
 obtain⟨m,j,s,hj,ej⟩:=hg.steps _ _ _ _ _ h;obtain⟨m',j',s',hj',ej'⟩:=hg.steps _ _ _ _ _ h';rcases hW _ _ _ _ m with⟨_,a2,a3⟩|⟨_,a2,a3⟩<;>rcases hW _ _ _ _ m' with⟨_,b2,b3⟩|⟨_,b2,b3⟩
 ·have e:w=w':=a3.trans b3.symm;subst e;exact WF hg.nodup h h'
 ·have e:w=p':=a3.trans b2.symm;have e':p=w':=a2.trans b3.symm;subst e e';have:=WF hg.nodup h ej';have:=WF hg.nodup h' ej;omega
 ·have e:w=p':=a3.trans b2.symm;have e':p=w':=a2.trans b3.symm;subst e e';have:=WF hg.nodup h ej';have:=WF hg.nodup h' ej;omega
 ·have e:w=w':=a3.trans b3.symm;subst e;exact WF hg.nodup h h'
theorem Z7.walk(hg:Fo.Z2 W first tr)(hW:UZ W gv tk){w:Int}{ps:List (Int×Bool)}(h:Z7 tr w ps):YN gv tk first ps w:=by
 induction h with
 |root e=>
  have:=hg.only _ _ e;subst this;rw[hg.head] at e;cases e
  rfl
 |step e _ ih=>
  refine ih.app ?_;obtain⟨m,_⟩:=hg.steps _ _ _ _ _ e;rcases hW _ _ _ _ m with⟨a1,a2,a3⟩|⟨a1,a2,a3⟩
  ·subst a1;exact⟨a2.symm,a3.symm⟩
  ·subst a1;exact⟨a2.symm,a3.symm⟩
theorem Z7.origin(hg:Fo.Z2 W first tr){w:Int}{ps:List (Int×Bool)}(h:Z7 tr w ps):∀{i:Nat}{s:Option Fo.Trip},tr[i]? =some (w,s)→∀x∈ps,∃(i':Nat)(w' p':Int),i'≤i∧tr[i']? =some (w',some (p',x.1,x.2)):=by
 induction h with
 |root e=>intro i s _ x hx;cases hx
 | @step w p b al i0 ps e h ih=>
  intro i s hi x hx;have ei:=WF hg.nodup e hi;subst ei;obtain⟨_,j,sj,hj,ej⟩:=hg.steps _ _ _ _ _ e;rcases List.mem_append.mp hx with z|z
  ·obtain⟨i',w',p',a,c⟩:=ih ej x z;exact⟨i',w',p',by omega,c⟩
  ·rw[List.mem_singleton.mp z];exact⟨i0,w,p,Nat.le_refl _,e⟩
theorem Z7.nodup(hg:Fo.Z2 W first tr)(hW:UZ W gv tk){w:Int}{ps:List (Int×Bool)}(h:Z7 tr w ps):(ps.map (·.1)).Nodup:=by
 induction h with
 |root e=>exact List.nodup_nil
 | @step w p b al i0 ps e h ih=>
  rw[List.map_append];refine List.nodup_append.mpr ⟨ih,by simp,fun x hx y hy e'=>?_⟩;obtain rfl:y=b:=by simpa using hy
  obtain⟨z,hz,ez⟩:=List.mem_map.mp hx;obtain⟨_,j,sj,hj,ej⟩:=hg.steps _ _ _ _ _ e;obtain⟨i',w',p',a,c⟩:=h.origin hg ej z hz;rw[ez,e'] at c;have:=ZdW hg hW e c;omega
theorem Z7.uniq(hg:Fo.Z2 W first tr){w:Int}{ps:List (Int×Bool)}(h:Z7 tr w ps):∀{qs:List (Int×Bool)},Z7 tr w qs→ps=qs:=by
 induction h with
 |root e=>
  intro qs k;cases k with
  |root _=>rfl
  |step e' _=>
   have:=WF hg.nodup e e';subst this;rw[e] at e';cases e'
 |step e _ ih=>
  intro qs k;cases k with
  |root e'=>
   have:=WF hg.nodup e e';subst this;rw[e] at e';cases e'
  |step e' k'=>
   have:=WF hg.nodup e e';subst this;rw[e] at e';cases e';rw[ih k']
theorem Z7.pre{w:Int}{ps:List (Int×Bool)}(h:Z7 tr w ps):∀{m:Nat}{x:Int×Bool},ps[m]? =some x→∃(i':Nat)(w' p':Int),tr[i']? =some (w',some (p',x.1,x.2))∧Z7 tr w' (ps.take (m+1)):=by
 induction h with
 |root e=>intro m x hx;simp at hx
 | @step w p b al i0 ps e h ih=>
  intro m x hx;rcases Nat.lt_or_ge m ps.length with c|c
  ·rw[List.getElem?_append_left c] at hx;obtain⟨i',w',p',h1,h2⟩:=ih hx;refine⟨i',w',p',h1,?_⟩;rw[List.take_append_of_le_length (by omega)];exact h2
  ·have hl:=(List.getElem?_eq_some_iff.mp hx).1;rw[List.length_append] at hl;have em:m=ps.length:=by simp at hl;omega
   subst em;rw[List.getElem?_append_right (Nat.le_refl _),Nat.sub_self] at hx;obtain rfl:(b,al)=x:=by simpa using hx
   refine⟨i0,w,p,e,?_⟩;rw[List.take_of_length_le (by simp)];exact .step e h
theorem Zg3(hg:Fo.Z2 W first tr)(hW:UZ W gv tk){g t:Int}{pg pt:List (Int×Bool)}{k:Nat}(hp:Z7 tr g pg)(hq:Z7 tr t pt)(hm:k=pg.length∨k=pt.length∨pg[k]? ≠pt[k]?){x y:Int×Bool}(hx:x∈pt.drop k)(hy:y∈pg.drop k):x.1≠y.1:=by
 intro e;obtain⟨xb,xa⟩:=x;obtain⟨yb,ya⟩:=y;dsimp only at e;subst e;obtain⟨m,hm1⟩:=List.getElem?_of_mem hx;obtain⟨m',hm1'⟩:=List.getElem?_of_mem hy;rw[List.getElem?_drop] at hm1 hm1';have l1:=(List.getElem?_eq_some_iff.mp hm1).1;have l2:=(List.getElem?_eq_some_iff.mp hm1').1;obtain⟨i1,w1,p1,a1,c1⟩:=hq.pre hm1;obtain⟨i2,w2,p2,a2,c2⟩:=hp.pre hm1';have:=ZdW hg hW a1 a2;subst this;rw[a1] at a2;cases a2;have et:=c1.uniq hg c2;have el:=congrArg List.length et;rw[List.length_take,List.length_take] at el;rcases hm with z|z|z
 ·omega
 ·omega
 ·apply z;have e1:(pg.take (k+m'+1))[k]? =pg[k]? :=by rw[List.getElem?_take,if_pos (by omega)]
  have e2:(pt.take (k+m+1))[k]? =pt[k]? :=by rw[List.getElem?_take,if_pos (by omega)]
  rw[←e1,←e2,et]
theorem Zgb(hg:Fo.Z2 W first tr)(hW:UZ W gv tk){g t bi:Int}{pg pt:List (Int×Bool)}{k:Nat}(hp:Z7 tr g pg)(hq:Z7 tr t pt)(hm:k=pg.length∨k=pt.length∨pg[k]? ≠pt[k]?)(hb:∀x∈pg,x.1≠bi)(hb':∀x∈pt,x.1≠bi):((WP bi pg pt k).map (·.1)).Nodup:=by
 unfold WP;rw[List.cons_append,List.map_cons,List.map_append,List.map_map,List.nodup_cons];have n1:=(hq.nodup hg hW).sublist ((List.drop_sublist k pt).map (·.1));have n2:=(hp.nodup hg hW).sublist ((List.drop_sublist k pg).map (·.1));have e:((pt.drop k).reverse.map ((fun x:Int×Bool=>x.1)∘fun x=>(x.1,!x.2)))=((pt.drop k).map (·.1)).reverse:=by
  rw[List.map_reverse];rfl
 rw[e];refine⟨fun z=>?_,?_⟩
 ·rcases List.mem_append.mp z with z|z
  ·obtain⟨x,hx,ex⟩:=List.mem_map.mp (List.mem_reverse.mp z);exact hb' x (List.mem_of_mem_drop hx) ex
  ·obtain⟨x,hx,ex⟩:=List.mem_map.mp z;exact hb x (List.mem_of_mem_drop hx) ex
 ·refine List.nodup_append.mpr ⟨(List.reverse_perm _).nodup_iff.mpr n1,n2,fun a ha b hb2 e2=>?_⟩;obtain⟨x,hx,ex⟩:=List.mem_map.mp (List.mem_reverse.mp ha);obtain⟨y,hy,ey⟩:=List.mem_map.mp hb2;exact Zg3 hg hW hp hq hm hx hy (ex.trans (e2.trans ey.symm))
theorem ZhN(hg:Fo.Z2 W first tr)(hW:UZ W gv tk){bi:Int}{pg pt:List (Int×Bool)}{k:Nat}(hp:Z7 tr (gv bi) pg)(hq:Z7 tr (tk bi) pt)(hk:pg.take k=pt.take k):YN gv tk (gv bi) (WP bi pg pt k) (gv bi):=by
 have w1:=hp.walk hg hW;have w2:=hq.walk hg hW;rw[←List.take_append_drop k pg] at w1;rw[←List.take_append_drop k pt] at w2;obtain⟨m1,a1,a2⟩:=w1.split;obtain⟨m2,b1,b2⟩:=w2.split;rw[hk] at a1;have e:=a1.det b1;subst e;unfold WP;exact YN.app (ps:=(bi,true)::_) ⟨rfl,b2.rev⟩ a2
end
noncomputable def prN (gi ta:Int→Nat):List (Int×Bool)→Nat
 | []=>1
 |x::ps=>(if x.2=true then gi x.1 else ta x.1)*prN gi ta ps
theorem WE(gi ta:Int→Nat):∀ps qs,prN gi ta (ps++qs)=prN gi ta ps*prN gi ta qs
 | [],qs=>(Nat.one_mul _).symm
 |x::ps,qs=>by
  show _*prN gi ta (ps++qs)=_*prN gi ta ps*_;rw[WE gi ta ps qs,Nat.mul_assoc]
theorem Zdu(gi ta:Int→Nat):∀ps,prN gi ta (ps.reverse.map fun x=>(x.1,!x.2))=prN ta gi ps
 | []=>rfl
 |(b,al)::ps=>by
  rw[List.reverse_cons,List.map_append,WE,Zdu gi ta ps];show prN ta gi ps*((if(!al)=true then gi b else ta b)*1)=(if al=true then ta b else gi b)*prN ta gi ps;cases al<;>simp[Nat.mul_comm]
theorem Zaz{gi ta:Int→Nat}:∀{ps:List (Int×Bool)},(∀x∈ps,0<gi x.1∧0<ta x.1)→0<prN gi ta ps
 | [],_=>Nat.one_pos
 |x::ps,h=>by
  refine Nat.mul_pos ?_ (Zaz fun y hy=>h y (List.mem_cons_of_mem _ hy));have:=h x (List.mem_cons_self ..)
  split
  ·exact this.1
  ·exact this.2
section
variable {W:Int→List Fo.Trip}{first:Int}{tr:Fo.ZG}{gi ta:Int→Nat}{sh:Int→Nat×Nat}
structure Shared(gi ta:Int→Nat)(first:Int)(tr:Fo.ZG)(sh:Int→Nat×Nat):Prop where
 one:sh first=(1,1)
 pos:∀w∈Fo.keys tr,0<(sh w).1∧0<(sh w).2
 step:∀(i:Nat)(w p b:Int)(al:Bool),tr[i]? =some (w,some (p,b,al))→(sh w).1*(sh p).2*(if al=true then ta b else gi b)=(sh p).1*(sh w).2*(if al=true then gi b else ta b)
theorem Z7.share(hg:Fo.Z2 W first tr)(hs:Shared gi ta first tr sh){w:Int}{ps:List (Int×Bool)}(h:Z7 tr w ps):(sh w).1*prN ta gi ps=(sh w).2*prN gi ta ps:=by
 induction h with
 |root e=>
  have:=hg.only _ _ e;subst this;rw[hg.head] at e;cases e;rw[hs.one]
  rfl
 | @step w p b al i ps e h ih=>
  obtain⟨_,j,sj,hj,ej⟩:=hg.steps _ _ _ _ _ e;have hpp:=(hs.pos p (Fo.Wy ej)).2;have hst:=hs.step _ _ _ _ _ e;rw[WE,WE];show(sh w).1*(prN ta gi ps*((if al=true then ta b else gi b)*1))=(sh w).2*(prN gi ta ps*((if al=true then gi b else ta b)*1));generalize (if al=true then ta b else gi b)=dn at*;generalize (if al=true then gi b else ta b)=nm at*;generalize prN ta gi ps=D at*;generalize prN gi ta ps=N at*;refine Nat.eq_of_mul_eq_mul_left hpp ?_
  calc (sh p).2*((sh w).1*(D*(dn*1)))=((sh w).1*(sh p).2*dn)*D:=by simp only[Nat.mul_one,Nat.mul_comm,Nat.mul_left_comm,Nat.mul_assoc]
   _=(sh p).1*(sh w).2*nm*D:=by rw[hst]
   _=(sh w).2*nm*((sh p).1*D):=by simp only[Nat.mul_comm,Nat.mul_left_comm,Nat.mul_assoc]
   _=(sh w).2*nm*((sh p).2*N):=by rw[ih]
   _=(sh p).2*((sh w).2*(N*(nm*1))):=by simp only[Nat.mul_one,Nat.mul_comm,Nat.mul_left_comm,Nat.mul_assoc]
theorem Zi1(hg:Fo.Z2 W first tr)(hs:Shared gi ta first tr sh)(hpos:∀(i:Nat)(w p b:Int)(al:Bool),tr[i]? =some (w,some (p,b,al))→0<gi b∧0<ta b){g t bi:Int}{pg pt:List (Int×Bool)}{k:Nat}(hp:Z7 tr g pg)(hq:Z7 tr t pt)(hgk:g∈Fo.keys tr)(htk:t∈Fo.keys tr)(hk:pg.take k=pt.take k)
  (hne:(sh g).1*(sh t).2*gi bi≠(sh t).1*(sh g).2*ta bi):prN gi ta (WP bi pg pt k)≠prN ta gi (WP bi pg pt k):=by
 intro e;apply hne;have e1:=hp.share hg hs;have e2:=hq.share hg hs;have sub:∀{w:Int}{ps:List (Int×Bool)},Z7 tr w ps→w∈Fo.keys tr→∀x∈ps,0<gi x.1∧0<ta x.1:=fun h hw x hx=>by
  obtain⟨i,s,hi⟩:=Fo.V9 hw;obtain⟨i',w',p',_,c⟩:=h.origin hg hi x hx;exact hpos _ _ _ _ _ c
 have pp:=sub hp hgk;have qq:=sub hq htk;rw[←List.take_append_drop k pg,WE,WE,hk] at e1;rw[←List.take_append_drop k pt,WE,WE] at e2;unfold WP at e;rw[WE,WE] at e;have u1:prN gi ta ((bi,true)::((pt.drop k).reverse.map fun x=>(x.1,!x.2)))=gi bi*prN ta gi (pt.drop k):=by
  show gi bi*prN gi ta _=_;rw[Zdu]
 have u2:prN ta gi ((bi,true)::((pt.drop k).reverse.map fun x=>(x.1,!x.2)))=ta bi*prN gi ta (pt.drop k):=by
  show ta bi*prN ta gi _=_;rw[Zdu]
 rw[u1,u2] at e;have c0:0<prN gi ta (pt.take k):=Zaz fun x hx=>qq x (List.mem_of_mem_take hx);have d0:0<prN ta gi (pt.take k):=Zaz fun x hx=>(qq x (List.mem_of_mem_take hx)).symm;have b0:0<prN ta gi (pg.drop k):=Zaz fun x hx=>(pp x (List.mem_of_mem_drop hx)).symm;have f0:0<prN gi ta (pt.drop k):=Zaz fun x hx=>qq x (List.mem_of_mem_drop hx);generalize prN gi ta (pt.take k)=c at*;generalize prN ta gi (pt.take k)=d at*;generalize prN gi ta (pg.drop k)=a at*;generalize prN ta gi (pg.drop k)=b at*;generalize prN gi ta (pt.drop k)=f at*;generalize prN ta gi (pt.drop k)=h at*;refine Nat.eq_of_mul_eq_mul_left (Nat.mul_pos (Nat.mul_pos d0 b0) (Nat.mul_pos c0 f0)) ?_
 calc d*b*(c*f)*((sh g).1*(sh t).2*gi bi)=((sh g).1*(d*b))*((sh t).2*(c*f))*gi bi:=by simp only[Nat.mul_comm,Nat.mul_left_comm,Nat.mul_assoc]
  _=((sh g).2*(c*a))*((sh t).1*(d*h))*gi bi:=by rw[e1,e2]
  _=(sh g).2*(sh t).1*(c*d)*(gi bi*h*a):=by simp only[Nat.mul_comm,Nat.mul_left_comm,Nat.mul_assoc]
  _=(sh g).2*(sh t).1*(c*d)*(ta bi*f*b):=by rw[e]
  _=d*b*(c*f)*((sh t).1*(sh g).2*ta bi):=by simp only[Nat.mul_comm,Nat.mul_left_comm,Nat.mul_assoc]
end
noncomputable def gvI (ls:List B5) (b:Int):Int:=(ls.getD b.toNat dB).giver
noncomputable def tkI (ls:List B5) (b:Int):Int:=(ls.getD b.toNat dB).taker
noncomputable def giN (ls:List B5) (b:Int):Nat:=(ls.getD b.toNat dB).give.toNat
noncomputable def taN (ls:List B5) (b:Int):Nat:=(ls.getD b.toNat dB).take.toNat
theorem ZjI(ls:List B5):UZ (Z9 ls) (gvI ls) (tkI ls):=fun p o b al h=>by
 obtain⟨i,hi,hm⟩:=V4 h;rcases WQ.mp hm with⟨e1,e2⟩|⟨e1,e2⟩
 ·injection e2 with e2 e3
  injection e3 with e3 e4
  subst e2 e3 e4;exact .inl ⟨rfl,e1.symm,rfl⟩
 ·injection e2 with e2 e3
  injection e3 with e3 e4
  subst e2 e3 e4;exact .inr ⟨rfl,e1.symm,rfl⟩
theorem Zdy{ls:List B5}{p o b:Int}{al:Bool}(h:(o,b,al)∈Z9 ls p):0≤b∧b<(ls.length:Int):=by
 obtain⟨i,hi,hm⟩:=V4 h;rcases WQ.mp hm with⟨e1,e2⟩|⟨e1,e2⟩
 ·injection e2 with e2 e3
  injection e3 with e3 e4
  subst e3;omega
 ·injection e2 with e2 e3
  injection e3 with e3 e4
  subst e3;omega
noncomputable def ZbE (zs:List (Int×(Nat×Nat))) (w:Int):Nat×Nat:=((zs.find? fun y=>decide (y.1=w)).map (·.2)).getD (1,1)
theorem VY:∀{zs:List (Int×(Nat×Nat))}{y:Int×(Nat×Nat)},(zs.map (·.1)).Nodup→y∈zs→ZbE zs y.1=y.2
 |z::zs,y,nd,h=>by
  rw[List.map_cons,List.nodup_cons] at nd;unfold ZbE;rw[List.find?_cons]
  by_cases c:z.1=y.1
  ·rcases List.mem_cons.mp h with e|e
   ·subst e;simp
   ·exact absurd (List.mem_map.mpr ⟨y,e,c.symm⟩) nd.1
  ·have e:=(List.mem_cons.mp h).resolve_left (fun e=>c (by rw[e]));have ih:=VY nd.2 e;unfold ZbE at ih;simp only[c,decide_false];exact ih
section
variable {ls:List B5}{n:Nat}{F:List (Int×Fo.ZG)}{rs:List Int}{tr:Fo.ZG}{first:Int}{zs:List (Int×(Nat×Nat))}
theorem Zfe(hg:Fo.Z2 (Z9 ls) first tr)(h:Y8 ls tr zs tr.length):(zs.map (·.1)).Nodup:=by
 rw[h.keys];exact hg.nodup.sublist (List.take_sublist _ _)
theorem Zha(hg:Fo.Z2 (Z9 ls) first tr)(h:Y8 ls tr zs tr.length):Shared (giN ls) (taN ls) first tr (ZbE zs):=by
 have nd:=Zfe hg h;have hl0:0<tr.length:=(List.getElem?_eq_some_iff.mp hg.head).1;refine⟨VY (y:=(first,(1,1))) nd (List.mem_of_getElem? (h.first 0 first hl0 hg.head)),fun w hw=>?_,fun i w p b al e=>?_⟩
 ·obtain⟨y,hy,ey⟩:=ZcD (x:=(first,tr)) h hw;rw[←ey,VY nd hy];exact⟨(h.pos y hy).1,(h.pos y hy).2.1⟩
 ·obtain⟨j,x,y,hj,h1,h2,hb⟩:=h.step i w p b al (List.getElem?_eq_some_iff.mp e).1 e;rw[VY (y:=(w,x)) nd (List.mem_of_getElem? h1),VY (y:=(p,y)) nd (List.mem_of_getElem? h2)];unfold Bal at hb;cases al with
  |true=>rw[if_pos rfl] at hb;exact hb
  |false=>rw[if_neg (by decide)] at hb;exact hb
theorem Zbl(hg:Fo.Z2 (Z9 ls) first tr)(h:Y8 ls tr zs tr.length)(hs:∀y∈zs,rs[y.1.toNat]? =some ((lcmL zs / y.2.2*y.2.1:Nat):Int)){b:B5}{gv tk:Nat}(eg:b.give=(gv:Int))(et:b.take=(tk:Int))(hgk:b.giver∈Fo.keys tr)(htk:b.taker∈Fo.keys tr)
  (e:(ZbE zs b.giver).1*(ZbE zs b.taker).2*gv=(ZbE zs b.taker).1*(ZbE zs b.giver).2*tk):WW rs b=0:=by
 have nd:=Zfe hg h;obtain⟨yg,hyg,eyg⟩:=ZcD (x:=(first,tr)) h hgk;obtain⟨yt,hyt,eyt⟩:=ZcD (x:=(first,tr)) h htk;rw[←eyg,←eyt,VY nd hyg,VY nd hyt] at e;have r1:=hs yg hyg;have r2:=hs yt hyt;rw[eyg] at r1;rw[eyt] at r2;have e1:rs.getD b.giver.toNat 0=((lcmL zs / yg.2.2*yg.2.1:Nat):Int):=by rw[List.getD_eq_getElem?_getD,r1];rfl
 have e2:rs.getD b.taker.toNat 0=((lcmL zs / yt.2.2*yt.2.1:Nat):Int):=by rw[List.getD_eq_getElem?_getD,r2];rfl
 have d1:=Nat.div_mul_cancel (ZbQ hyg);have d2:=Nat.div_mul_cancel (ZbQ hyt);have p1:=(h.pos yg hyg).2.1;have p2:=(h.pos yt hyt).2.1;generalize lcmL zs / yg.2.2=A at*;generalize lcmL zs / yt.2.2=B at*;generalize lcmL zs=C at*;have key:A*yg.2.1*gv=B*yt.2.1*tk:=by
  refine Nat.eq_of_mul_eq_mul_left (Nat.mul_pos p1 p2) ?_
  calc yg.2.2*yt.2.2*(A*yg.2.1*gv)=A*yg.2.2*(yg.2.1*yt.2.2*gv):=by simp only[Nat.mul_comm,Nat.mul_left_comm,Nat.mul_assoc]
   _=B*yt.2.2*(yt.2.1*yg.2.2*tk):=by rw[e,d1,d2]
   _=yg.2.2*yt.2.2*(B*yt.2.1*tk):=by simp only[Nat.mul_comm,Nat.mul_left_comm,Nat.mul_assoc]
 unfold WW;rw[e1,e2,eg,et];have k2:((A*yg.2.1:Nat):Int)*(gv:Int)=((B*yt.2.1:Nat):Int)*(tk:Int):=by
  rw[←Int.natCast_mul,←Int.natCast_mul,key]
 omega
structure VT(ls:List B5)(ring:List (Int×Bool)):Prop where
 some_:ring≠[]
 rg:∀x∈ring,0≤x.1∧x.1<(ls.length:Int)
 nd:(ring.map (·.1)).Nodup
 walk:∃a,YN (gvI ls) (tkI ls) a ring a
 odd:prN (giN ls) (taN ls) ring≠prN (taN ls) (giN ls) ring
theorem Z7.mem{w:Int}{ps:List (Int×Bool)}(h:Z7 tr w ps):w∈Fo.keys tr:=by
 cases h with
 |root e=>exact Fo.Wy e
 |step e _=>exact Fo.Wy e
theorem Zj3(hbt:ZH ls n)(hsz:YH ls)(hwd:Fo.WM (Z9 ls) n F n)(hset:∀x∈F,ZaJ ls x rs){bi:Nat}(hbi:bi<ls.length)(hch:WW rs (ls.getD bi dB)≠0){x:Int×Fo.ZG}(hx:x∈F){pg pt:List (Int×Bool)}{k:Nat}(hp:Z7 x.2 (ls.getD bi dB).giver pg)(hq:Z7 x.2 (ls.getD bi dB).taker pt)(hk:pg.take k=pt.take k)(hm:k=pg.length∨k=pt.length∨pg[k]? ≠pt[k]?):VT ls (WP bi pg pt k):=by
 obtain⟨hg,_,_,_⟩:=hwd.tree x hx;obtain⟨zs,hgs,hs⟩:=hset x hx;have hW:=ZjI ls;have hsh:=Zha hg hgs;have hpos:∀(i:Nat)(w p b:Int)(al:Bool),x.2[i]? =some (w,some (p,b,al))→0<giN ls b∧0<taN ls b:=fun i w p b al e=>by
  obtain⟨h1,_⟩:=hg.steps _ _ _ _ _ e;obtain⟨b0,b1⟩:=Zdy h1;obtain⟨gv,tk,g0,t0,_,_,eg,et⟩:=hsz b.toNat (by omega);unfold giN taN;rw[eg,et];exact⟨by omega,by omega⟩
 have from_tree:∀{w:Int}{ps:List (Int×Bool)},Z7 x.2 w ps→∀y∈ps,(0≤y.1∧y.1<(ls.length:Int))∧y.1≠(bi:Int):=fun{w ps} h y hy=>by
  obtain⟨i,s,hi⟩:=Fo.V9 h.mem;obtain⟨i',w',p',_,c⟩:=h.origin hg hi y hy;obtain⟨h1,j,sj,hj,ej⟩:=hg.steps _ _ _ _ _ c;have hb:=Zdy h1;refine⟨hb,fun e=>hch ?_⟩;obtain⟨gv,tk,g0,t0,_,_,eg,et⟩:=hsz bi hbi;have hst:=hsh.step _ _ _ _ _ c;have k1:giN ls y.1=gv:=by unfold giN;rw[e,Int.toNat_natCast,eg,Int.toNat_natCast]
  have k2:taN ls y.1=tk:=by unfold taN;rw[e,Int.toNat_natCast,et,Int.toNat_natCast]
  rw[k1,k2] at hst;have k3:=Fo.Wy c;have k4:=Fo.Wy ej;have a:∀z,gvI ls y.1=z→(ls.getD bi dB).giver=z:=fun z hz=>by rw[←hz];unfold gvI;rw[e,Int.toNat_natCast]
  have b:∀z,tkI ls y.1=z→(ls.getD bi dB).taker=z:=fun z hz=>by rw[←hz];unfold tkI;rw[e,Int.toNat_natCast]
  rcases hW _ _ _ _ h1 with⟨z1,z2,z3⟩|⟨z1,z2,z3⟩
  ·rw[z1,if_pos rfl,if_pos rfl] at hst;refine Zbl hg hgs hs eg et (by rw[a _ z2.symm];exact k4) (by rw[b _ z3.symm];exact k3) ?_;rw[a _ z2.symm,b _ z3.symm];exact hst.symm
  ·rw[z1,if_neg (by decide),if_neg (by decide)] at hst;refine Zbl hg hgs hs eg et (by rw[a _ z3.symm];exact k3) (by rw[b _ z2.symm];exact k4) ?_;rw[a _ z3.symm,b _ z2.symm];exact hst
 have g1:gvI ls (bi:Int)=(ls.getD bi dB).giver:=rfl;have g2:tkI ls (bi:Int)=(ls.getD bi dB).taker:=rfl;refine⟨fun z=>(by unfold WP at z;cases z),fun y hy=>?_,Zgb hg hW hp hq hm (fun y hy=>(from_tree hp y hy).2) (fun y hy=>(from_tree hq y hy).2),⟨_,ZhN hg hW (bi:=(bi:Int)) hp hq hk⟩,Zi1 hg hsh hpos hp hq hp.mem hq.mem hk fun e=>hch ?_⟩
 ·unfold WP at hy;rw[List.cons_append] at hy;rcases List.mem_cons.mp hy with z|z
  ·rw[z];exact⟨by omega,by dsimp only;omega⟩
  ·rcases List.mem_append.mp z with z|z
   ·obtain⟨y',hy',ey⟩:=List.mem_map.mp z;have:=(from_tree hq y' (List.mem_of_mem_drop (List.mem_reverse.mp hy'))).1;rw[←ey];exact this
   ·exact(from_tree hp y (List.mem_of_mem_drop z)).1
 ·obtain⟨gv,tk,g0,t0,_,_,eg,et⟩:=hsz bi hbi;have k1:giN ls (bi:Int)=gv:=by unfold giN;rw[Int.toNat_natCast,eg,Int.toNat_natCast]
  have k2:taN ls (bi:Int)=tk:=by unfold taN;rw[Int.toNat_natCast,et,Int.toNat_natCast]
  rw[k1,k2] at e;exact Zbl hg hgs hs eg et hp.mem hq.mem e
end
theorem Paired.get{α β:Type}{P:α→β→Prop}:∀{xs:List α}{ys:List β}{i:Nat}{x:α},Paired P xs ys→xs[i]? =some x→∃y,ys[i]? =some y∧P x y
 |_,_,_,_,.nil,e=>by simp at e
 |_,_,0,_,.cons h _,e=>by simp at e;subst e;exact⟨_,rfl,h⟩
 |_,_,i+1,x,.cons _ r,e=>by
  obtain⟨y,h1,h2⟩:=Paired.get (i:=i) (x:=x) r (by simpa using e);exact⟨y,by simpa using h1,h2⟩
theorem Uo{α β:Type}{P:α→β→Prop}:∀{xs:List α}{ys:List β},xs.length=ys.length→(∀(i:Nat) x y,xs[i]? =some x→ys[i]? =some y→P x y)→Paired P xs ys
 | [],[],_,_=> .nil
 |x::xs,y::ys,hl,h=> .cons (h 0 x y rfl rfl) (Uo (by simpa using hl) fun i a b e1 e2=>h (i+1) a b (by simpa using e1) (by simpa using e2))
 | [],_::_,hl,_=>by simp at hl
 |_::_,[],hl,_=>by simp at hl
theorem ZeL{β γ:Type}{S:γ→β→Prop}{L:List γ}{d:γ}{ys:List β}(h:Paired (fun i v=>S (L.getD i d) v) ((List.range L.length).filter fun _=>true) ys):Paired S L ys:=by
 rw[List.filter_eq_self.mpr (by simp)] at h;refine Uo (by rw[←Paired.length h,List.length_range]) fun i x y e1 e2=>?_;have hi:i<L.length:=(List.getElem?_eq_some_iff.mp e1).1;obtain⟨y',h1,h2⟩:=Paired.get (i:=i) (x:=i) h (by simp[hi]);rw[e2] at h1;cases h1;simpa[List.getD,e1] using h2
noncomputable def Vh (H:Hp):List (Int×Int)→List V→Prop:=Paired fun x v=>∃t,v= .ref t∧H t=some (.tup [.int x.1,.int x.2])
theorem Vh.keep{H H':Hp}(t:∀b xs,H b=some (.tup xs)→H' b=some (.tup xs)){vs:List V}{l:List (Int×Int)}(h:Vh H l vs):Vh H' l vs:=Paired.mapP h fun _ _ ⟨a,e,z⟩=>⟨a,e,t _ _ z⟩
noncomputable def LL (H:Hp):List (List (Int×Int))→List Addr→Prop:=Paired fun l a=>∃vs,H a=some (.lst vs)∧Vh H l vs
theorem LL.dom{H:Hp}:∀{ls:List (List (Int×Int))}{as:List Addr},LL H ls as→∀x∈as,H x≠none
 |_,_,.nil,_,hx=>by simp at hx
 |_,_,.cons ⟨vs,h,_⟩ r,x,hx=>by
  rcases List.mem_cons.mp hx with rfl|hx
  ·rw[h];simp
  ·exact LL.dom r x hx
theorem LL.keep{H H':Hp}(t:∀b xs,H b=some (.tup xs)→H' b=some (.tup xs)):∀{ls:List (List (Int×Int))}{as:List Addr},LL H ls as→(∀x∈as,H' x=H x)→LL H' ls as
 |_,_,.nil,_=> .nil
 |_,_,.cons ⟨vs,h,p⟩ r,k=> .cons ⟨vs,(k _ (by simp)).trans h,p.keep t⟩ (LL.keep t r fun x hx=>k x (List.mem_cons_of_mem _ hx))
noncomputable def Yf (ls:List B5) (w:Int):List (Int×Int):=(ZS ls w).map fun i:Nat=>((i:Int),(ls.getD i dB).take)
noncomputable def UU (ls:List B5) (w:Int):List (Int×Int):=(ZF ls w).map fun i:Nat=>((i:Int),(ls.getD i dB).give)
noncomputable def WC (rows:List B5) (hs:List Int) (w:Int):Bool:=(rows.zip hs).all fun x=>!(decide (x.1.taker=w))||decide (x.1.take≤x.2)
theorem Zb3{w:Int}:∀{rows:List B5}{hs:List Int},(∀(i:Nat)(r:B5)(h:Int),rows[i]? =some r→hs[i]? =some h→r.taker=w→r.take≤h)→WC rows hs w=true
 | [],_,_=>by simp[WC]
 |_::_,[],_=>by simp[WC]
 |r::rs,h::hs,q=>by
  have e:=Zb3 (rows:=rs) (hs:=hs) (w:=w) fun i r' h' a b=>q (i+1) r' h' (by simpa using a) (by simpa using b);unfold WC at e⊢;rw[List.zip_cons_cons,List.all_cons,e,Bool.and_true]
  by_cases c:r.taker=w
  ·rw[decide_eq_true (q 0 r h rfl rfl c),Bool.or_true]
  ·rw[decide_eq_false c];rfl
theorem ZbB{w:Int}:∀{rows:List B5}{hs:List Int}(i:Nat){r:B5}{h:Int},rows[i]? =some r→hs[i]? =some h→r.taker=w→h<r.take→WC rows hs w=false
 | [],_,_,_,_,a,_,_,_=>by simp at a
 |_::_,[],_,_,_,_,a,_,_=>by simp at a
 |r::rs,h::hs,0,r',h',a,b,c,d=>by
  simp only[List.getElem?_cons_zero,Option.some.injEq] at a b;subst a b;unfold WC;rw[List.zip_cons_cons,List.all_cons,decide_eq_true c,decide_eq_false (show ¬r.take≤h by omega)]
  rfl
 |r::rs,h::hs,i+1,r',h',a,b,c,d=>by
  have e:=ZbB (rows:=rs) (hs:=hs) (w:=w) i (r:=r') (h:=h') (by simpa using a) (by simpa using b) c d;unfold WC at e⊢;rw[List.zip_cons_cons,List.all_cons,e,Bool.and_false]
noncomputable def Y5 (rows:List B5) (hs:List Int) (w:Int):List Int:=(rows.zip hs).map fun x=>x.2-(if x.1.taker=w then x.1.take else 0)+(if x.1.giver=w then x.1.give else 0)
theorem ZaM{rows:List B5}{hs:List Int}{w:Int}(h:hs.length=rows.length):(Y5 rows hs w).length=hs.length:=by unfold Y5;simp;omega
theorem ZbA{rows:List B5}{hs:List Int}{w:Int}{i:Nat}(h1:i<rows.length)(h2:i<hs.length)(h3:i<(Y5 rows hs w).length):(Y5 rows hs w)[i]=hs[i]-(if rows[i].taker=w then rows[i].take else 0)+(if rows[i].giver=w then rows[i].give else 0):=by
 have e:(Y5 rows hs w)[i]? =some (hs[i]-(if rows[i].taker=w then rows[i].take else 0)+(if rows[i].giver=w then rows[i].give else 0)):=by
  unfold Y5;rw[List.getElem?_map,List.getElem?_eq_getElem (by rw[List.length_zip];omega)];simp
 rw[List.getElem?_eq_getElem h3] at e;exact Option.some.inj e
noncomputable def Zas (hs:List Int) (l:List (Int×Int)):Bool:=l.all fun x=>decide (x.2≤hs.getD x.1.toNat 0)
theorem ZcV{rows:List B5}{hs:List Int}{w:Int}(h:hs.length=rows.length):Zas hs (Yf rows w)=WC rows hs w:=by
 cases e:Zas hs (Yf rows w) with
 |true=>
  refine(Zb3 fun i r x a b c=>?_).symm;have hi:i<rows.length:=(List.getElem?_eq_some_iff.mp a).1;have er:rows.getD i dB=r:=by simp[List.getD,a]
  have m:((i:Int),r.take)∈Yf rows w:=by
   unfold Yf ZS;refine List.mem_map.mpr ⟨i,List.mem_filter.mpr ⟨List.mem_range.mpr hi,decide_eq_true (by rw[er];exact c)⟩,by rw[er]⟩
  have:=of_decide_eq_true (List.all_eq_true.mp e _ m);simpa[List.getD,b] using this
 |false=>
  unfold Zas at e;rw[List.all_eq_false] at e;obtain⟨x,hx,d⟩:=e;unfold Yf ZS at hx;obtain⟨i,hi,rfl⟩:=List.mem_map.mp hx;obtain⟨h1,h2⟩:=List.mem_filter.mp hi;have hr:=List.mem_range.mp h1;have ei:=List.getElem?_eq_getElem hr;have eh:=List.getElem?_eq_getElem (show i<hs.length by omega);have er:rows.getD i dB=rows[i]:=by simp[List.getD,ei]
  rw[er] at h2 d;refine(ZbB i ei eh (of_decide_eq_true h2) ?_).symm;have d':¬rows[i].take≤hs.getD (i:Int).toNat 0:=fun z=>d (decide_eq_true z);have eg:hs.getD (i:Int).toNat 0=hs[i]:=by simp[List.getD,eh]
  rw[eg] at d';omega
theorem Zbb{ls:List B5}{w:Int}{i:Nat}(h:i∈ZS ls w):i<ls.length:=List.mem_range.mp (List.mem_filter.mp h).1
theorem Zah{ls:List B5}{w:Int}{i:Nat}(h:i∈ZF ls w):i<ls.length:=List.mem_range.mp (List.mem_filter.mp h).1
theorem ZcQ{ls:List B5}{w:Int}:(ZS ls w).length≤ls.length:=Nat.le_trans (List.length_filter_le _ _) (by simp)
theorem ZcF{ls:List B5}{w:Int}:(ZF ls w).length≤ls.length:=Nat.le_trans (List.length_filter_le _ _) (by simp)
noncomputable def bump (f:Nat→Int) (hs:List Int) (is:List Nat):List Int:=is.foldl (fun hs i=>hs.set i (hs.getD i 0+f i)) hs
theorem WL(f:Nat→Int):∀(is:List Nat)(hs:List Int),(bump f hs is).length=hs.length
 | [],_=>rfl
 |i::is,hs=>by
  show(bump f (hs.set i _) is).length=_;rw[WL f is,List.length_set]
theorem Zdi(f:Nat→Int):∀(is:List Nat)(hs:List Int)(j:Nat),is.Nodup→j<hs.length→(bump f hs is).getD j 0=hs.getD j 0+if j∈is then f j else 0
 | [],hs,j,_,_=>by simp[bump]
 |i::is,hs,j,nd,hj=>by
  obtain⟨n1,n2⟩:=List.nodup_cons.mp nd;show(bump f (hs.set i (hs.getD i 0+f i)) is).getD j 0=_;rw[Zdi f is _ j n2 (by rw[List.length_set];exact hj)]
  by_cases e:i=j
  ·subst e;have e1:(hs.set i (hs.getD i 0+f i)).getD i 0=hs.getD i 0+f i:=by rw[List.getD_eq_getElem?_getD,List.getElem?_set_self hj];rfl
   rw[e1,if_neg n1,if_pos List.mem_cons_self,Int.add_zero]
  ·have e1:(hs.set i (hs.getD i 0+f i)).getD j 0=hs.getD j 0:=by rw[List.getD_eq_getElem?_getD,List.getElem?_set_ne e,List.getD_eq_getElem?_getD]
   rw[e1];have:(j∈i::is)↔j∈is:=by simp[Ne.symm e]
   simp only[this]
theorem Uj(n:Nat)(c:Nat→Bool):((List.range n).filter c).Nodup:=List.nodup_range.filter c
theorem Zgz{rows:List B5}{hs:List Int}{w:Int}(h:hs.length=rows.length):
  bump (fun i=>(rows.getD i dB).give) (bump (fun i=>-(rows.getD i dB).take) hs (ZS rows w)) (ZF rows w)=Y5 rows hs w:=by
 have l1:=WL (fun i=>-(rows.getD i dB).take) (ZS rows w) hs;refine List.ext_getElem (by rw[WL,l1,ZaM h]) fun i h1 h2=>?_;rw[WL,l1] at h1;have hr:i<rows.length:=by omega
 rw[ZbA hr h1 h2];have e0:∀(xs:List Int)(hx:i<xs.length),xs[i]=xs.getD i 0:=fun xs hx=>by simp[List.getD,hx]
 rw[e0 _ (by rw[WL,l1];exact h1),Zdi _ (ZF rows w) _ _ (Uj _ _) (by rw[l1];exact h1),Zdi _ (ZS rows w) _ _ (Uj _ _) h1,←e0 hs h1];have er:rows.getD i dB=rows[i]:=by simp[List.getD,hr]
 have m1:i∈ZS rows w↔rows[i].taker=w:=by
  unfold ZS;rw[List.mem_filter,List.mem_range,er,decide_eq_true_eq];exact⟨fun z=>z.2,fun z=>⟨hr,z⟩⟩
 have m2:i∈ZF rows w↔rows[i].giver=w:=by
  unfold ZF;rw[List.mem_filter,List.mem_range,er,decide_eq_true_eq];exact⟨fun z=>z.2,fun z=>⟨hr,z⟩⟩
 simp only[m1,m2,er]
 split<;>split<;>omega
theorem LL.at{H:Hp}{ls:List (List (Int×Int))}{ia:List Addr}{w:Int}{l:List (Int×Int)}(h:LL H ls ia)(h0:0≤w)(e:ls[w.toNat]? =some l):∃x vs,atI (ia.map V.ref) w=some (.ref x)∧H x=some (.lst vs)∧Vh H l vs:=by
 obtain⟨x,h1,vs,h2,h3⟩:=Paired.get h e;refine⟨x,vs,?_,h2,h3⟩;have:=Wf (xs:=ia.map V.ref) (j:=w.toNat) (v:= .ref x) (by rw[List.getElem?_map,h1];rfl)
 rwa [Int.toNat_of_nonneg h0] at this
theorem LL.len{H:Hp}{ls:List (List (Int×Int))}{ia:List Addr}(h:LL H ls ia):ia.length=ls.length:=(Paired.length h).symm
theorem ZdA{H:Hp}{js:List Nat}{f:Nat→Int}{ys:List V}(h:Paired (fun i v=>∃t,v=V.ref t∧H t=some (.tup [.int (js.getD i 0:Nat),.int (f (js.getD i 0))])) ((List.range (js.map fun i:Nat=>V.int i).length).filter fun _=>true) ys):Vh H (js.map fun i:Nat=>((i:Int),f i)) ys:=by
 rw[List.length_map] at h;have h1:Paired (fun(j:Nat) v=>∃t,v=V.ref t∧H t=some (.tup [.int (j:Nat),.int (f j)])) js ys:=ZeL (L:=js) (d:=0) h;refine Uo (by rw[List.length_map];exact Paired.length h1) fun i x y e1 e2=>?_;rw[List.getElem?_map] at e1;cases e:js[i]? with
 |none=>rw[e] at e1;cases e1
 |some j=>
  rw[e] at e1;cases e1;obtain⟨y',e3,h3⟩:=Paired.get h1 e;rw[e2] at e3;cases e3;exact h3
theorem ZcL{ls:List B5}{w:Int}{n:Nat}(h:n=ls.length):∀x∈Yf ls w,0≤x.1∧x.1<n:=by
 intro x hx;obtain⟨i,hi,rfl⟩:=List.mem_map.mp hx;have:=Zbb hi;show 0≤(i:Int)∧(i:Int)<n;omega
theorem Zcb{ls:List B5}{w:Int}:(Yf ls w).length≤ls.length:=by unfold Yf;rw[List.length_map];exact ZcQ
theorem ZdE{f:Nat→Int}{hs:List Int}{is:List Nat}{i:Nat}(h:i<is.length):bump f hs (is.take (i+1))=(bump f hs (is.take i)).set is[i] ((bump f hs (is.take i)).getD is[i] 0+f is[i]):=by
 unfold bump;rw[List.take_succ_eq_append_getElem h,List.foldl_append]
 rfl
theorem Zh2{js:List Nat}{f:Nat→Int}{H:Hp}{vs:List V}{i:Nat}(h:Vh H (js.map fun i:Nat=>((i:Int),f i)) vs)(hi:i<js.length):∃t,vs.getD i .non= .ref t∧H t=some (.tup [.int (js[i]:Nat),.int (f js[i])]):=by
 obtain⟨v,hv,t,rfl,ht⟩:=Paired.get h (i:=i) (x:=((js[i]:Int),f js[i])) (by rw[List.getElem?_map,List.getElem?_eq_getElem hi];rfl);exact⟨t,by simp[List.getD,hv],ht⟩
noncomputable def fB (b:B5) (s:Int):Fire.Belt:=⟨b.giver.toNat,b.taker.toNat,b.give,b.take,s⟩
noncomputable def fBs (ls:List B5) (st:List Int):List Fire.Belt:=(ls.zip st).map fun x=>fB x.1 x.2
noncomputable def lieL (ls:List B5) (st:List Int) (d:Nat→Nat):List Int:=(fBs ls st).map fun b=>Fire.lie b d
noncomputable def ZR (rs:List Int) (v:Nat):Nat:=(rs.getD v 0).toNat
noncomputable def Wn (ls:List B5) (st rs:List Int) (d:Nat→Nat) (v:Nat):Bool:=decide (d v<ZR rs v)&&WC ls (lieL ls st d) v
noncomputable def Wv (ls:List B5) (st rs:List Int) (d:Nat→Nat):List Bool:=(List.range rs.length).map fun v=>Wn ls st rs d v
noncomputable def Z0 (rs:List Int) (d:Nat→Nat):List Int:=(List.range rs.length).map fun v=>(ZR rs v:Int)-(d v:Int)
noncomputable abbrev Wb (ls:List B5) (st rs:List Int):(Nat→Nat)→Nat→Prop:=Fire.May (fBs ls st) rs.length (ZR rs)
def Um(ls:List B5)(st rs:List Int)(d:Nat→Nat)(w:Nat):Prop:=Wb ls st rs d w∧∀v<w,¬Wb ls st rs d v
theorem Z5{ls:List B5}{st:List Int}{d:Nat→Nat}(h:st.length=ls.length):(lieL ls st d).length=ls.length:=by simp[lieL,fBs,h]
theorem Wj{ls:List B5}{st:List Int}{d:Nat→Nat}{j:Nat}(h:st.length=ls.length)(hj:j<ls.length):(lieL ls st d)[j]'(by rw[Z5 h];exact hj)=Fire.lie (fB ls[j] (st[j]'(by omega))) d:=by simp[lieL,fBs]
theorem Zdl{ls:List B5}{st:List Int}(h:st.length=ls.length){b:Fire.Belt}(hb:b∈fBs ls st):∃(j:Nat)(hj:j<ls.length),b=fB ls[j] (st[j]'(by omega)):=by
 obtain⟨j,hj,rfl⟩:=List.mem_iff_getElem.mp hb;have hj':j<ls.length:=by simp[fBs,h] at hj;exact hj
 exact⟨j,hj',by simp[fBs]⟩
theorem Zds{ls:List B5}{st:List Int}(h:st.length=ls.length){j:Nat}(hj:j<ls.length):fB ls[j] (st[j]'(by omega))∈fBs ls st:=
 List.mem_map.mpr ⟨(ls[j],st[j]'(by omega)),List.mem_iff_getElem.mpr ⟨j,by simp[h,hj],by simp⟩,rfl⟩
theorem Zak{ls:List B5}{hs:List Int}{w:Int}(h:hs.length=ls.length):WC ls hs w=true↔∀(j:Nat)(hj:j<ls.length),ls[j].taker=w→ls[j].take≤hs[j]'(by omega):=by
 unfold WC;rw[List.all_eq_true]
 constructor
 ·intro q j hj e;have:=q (ls[j],hs[j]'(by omega)) (List.mem_iff_getElem.mpr ⟨j,by simp[h,hj],by simp⟩);simpa[e] using this
 ·intro q x hx;obtain⟨j,hj,rfl⟩:=List.mem_iff_getElem.mp hx;have hj':j<ls.length:=by simp[h] at hj;exact hj
  by_cases e:ls[j].taker=w
  ·have:=q j hj' e;simp[e,this]
  ·simp[e]
section
variable {ls:List B5}{st rs:List Int}{d:Nat→Nat}{n:Nat}
theorem Za0(h:st.length=ls.length)(hb:ZH ls n){v:Nat}(hv:v<rs.length):Wn ls st rs d v=true↔Wb ls st rs d v:=by
 unfold Wn;rw[Bool.and_eq_true,decide_eq_true_eq,Zak (Z5 h)]
 constructor
 ·rintro⟨h1,h2⟩;refine⟨hv,h1,fun b hm ht=>?_⟩;obtain⟨j,hj,rfl⟩:=Zdl h hm;have:=h2 j hj (by have:=hb ls[j] (List.getElem_mem hj);have ht':ls[j].taker.toNat=v:=ht;omega);rw[Wj h hj] at this;exact this
 ·rintro⟨_,h1,h2⟩;refine⟨h1,fun j hj e=>?_⟩;rw[Wj h hj];exact h2 _ (Zds h hj) (by show ls[j].taker.toNat=v;omega)
theorem Zgf(h:st.length=ls.length)(hb:ZH ls n){v:Nat}(hv:v<rs.length):Wn ls st rs d v=false↔¬Wb ls st rs d v:=by
 rw[←Za0 h hb hv];simp
theorem Zfd{v:Nat}(hv:v<rs.length):(Wv ls st rs d)[v]? =some (Wn ls st rs d v):=by simp[Wv,hv]
theorem Zhp:(Wv ls st rs d).length=rs.length:=by simp[Wv]
theorem Zbd:(Z0 rs d).length=rs.length:=by simp[Z0]
theorem ZeF{v:Nat}(hv:v<rs.length):(Z0 rs d).getD v 0=(ZR rs v:Int)-(d v:Int):=by simp[Z0,List.getD,hv]
theorem Zi7(h:st.length=ls.length)(hb:ZH ls n)(q:true∉Wv ls st rs d):∀w,¬Wb ls st rs d w:=fun w r=>q (by
 have:=(Za0 h hb r.1).mpr r;rw[←this];exact List.mem_map.mpr ⟨w,by simpa using r.1,rfl⟩)
theorem Zej{b:Fire.Belt}{w:Nat}:Fire.lie b (Fire.bump d w)=Fire.lie b d-(if b.taker=w then b.take else 0)+(if b.giver=w then b.give else 0):=by
 unfold Fire.lie
 by_cases e1:b.giver=w<;>by_cases e2:b.taker=w<;>simp only[e1,e2,if_true,if_false,Fire.Ux,Fire.VZ,ne_eq,not_false_eq_true,Int.natCast_add,Int.mul_add,Int.natCast_one,Int.mul_one]<;>omega
theorem ZdN(h:st.length=ls.length)(hb:ZH ls n)(w:Nat):Y5 ls (lieL ls st d) w=lieL ls st (Fire.bump d w):=by
 refine List.ext_getElem (by rw[ZaM (Z5 h),Z5 h,Z5 h]) fun j h1 h2=>?_;have hj:j<ls.length:=by rw[Z5 h] at h2;exact h2
 rw[ZbA hj (by rw[Z5 h];exact hj) h1,Wj h hj,Wj h hj,Zej];have hbj:=hb ls[j] (List.getElem_mem hj);have e1:(ls[j].taker=(w:Int))↔((fB ls[j] (st[j]'(by omega))).taker=w):=by show _↔ls[j].taker.toNat=w;omega
 have e2:(ls[j].giver=(w:Int))↔((fB ls[j] (st[j]'(by omega))).giver=w):=by show _↔ls[j].giver.toNat=w;omega
 simp only[e1,e2]
 rfl
def Zau(ls:List B5)(w:Int)(ms:List Int):Prop:=ms.Pairwise (· < ·)∧∀x,x∈ms↔x=w∨∃i∈ZF ls w,(ls.getD i dB).taker=x
theorem ZhQ(h:st.length=ls.length)(hb:ZH ls n){w v:Nat}{ms:List Int}(ht:Zau ls w ms)(hv:(v:Int)∉ms):Wn ls st rs (Fire.bump d w) v=Wn ls st rs d v:=by
 have hv':=mt (ht.2 v).mpr hv;have nv:v≠w:=fun e=>hv' (.inl (by rw[e]));unfold Wn;rw[Fire.VZ d nv]
 congr 1
 rw[Bool.eq_iff_iff,Zak (Z5 h),Zak (Z5 h)];have key:∀(j:Nat)(hj:j<ls.length),ls[j].taker=(v:Int)→(lieL ls st (Fire.bump d w))[j]'(by rw[Z5 h];exact hj)=(lieL ls st d)[j]'(by rw[Z5 h];exact hj):=fun j hj e=>by
  have hbj:=hb ls[j] (List.getElem_mem hj);rw[Wj h hj,Wj h hj,Zej,if_neg (by show ¬ls[j].taker.toNat=w;omega),if_neg ?_]
  ·omega
  ·intro z;have z':ls[j].giver.toNat=w:=z;refine hv' (.inr ⟨j,?_,?_⟩)
   ·unfold ZF;rw[List.mem_filter];exact⟨by simpa using hj,by simp[List.getD,hj];omega⟩
   ·simp[List.getD,hj,e]
 constructor
 ·intro q j hj e;rw[←key j hj e];exact q j hj e
 ·intro q j hj e;rw[key j hj e];exact q j hj e
end
noncomputable def ZN (ls:List B5):List Int:=ls.map B5.start
def TL(H:Hp)(ls:List B5)(n:Nat)(ic:List Addr):Prop:=ic.length=n∧∀v<n,∃ms:List Int,H (ic.getD v 0)=some (.lst (ms.map V.int))∧Zau ls v ms
noncomputable def Zbz (ls:List B5) (n:Nat):List (List (Int×Int)):=(List.range n).map fun w:Nat=>Yf ls w
noncomputable def Zhx (ls:List B5) (n:Nat):List (List (Int×Int)):=(List.range n).map fun w:Nat=>UU ls w
def Wc{K:PySem.W.Frag}{mg:Str→Option Value}(T:Tp K mg)(H:Hp)(p:Addr)(ls:List B5)(rs:List Int):Prop:=
 ∃(dx a b c d e:Addr)(ia ib ic:List Addr)(bs:List V),H p=some (.ins T.C_Course dx [("turns",.ref a),("rows",.ref b),("takes",.ref c),("gives",.ref d),("touched",.ref e)])∧H a=some (.lst (rs.map V.int))∧H b=some (.lst bs)∧Y0 H bs ls∧
  H c=some (.lst (ia.map V.ref))∧LL H (Zbz ls rs.length) ia∧H d=some (.lst (ib.map V.ref))∧LL H (Zhx ls rs.length) ib∧H e=some (.lst (ic.map V.ref))∧TL H ls rs.length ic
theorem Wc.same{K:PySem.W.Frag}{mg:Str→Option Value}{T:Tp K mg}{H H':Hp}{p:Addr}{ls:List B5}{rs:List Int}(h:Wc T H p ls rs)(s:Zd H H'):Wc T H' p ls rs:=by
 obtain⟨dx,a,b,c,d,e,ia,ib,ic,bs,h1,h3,h4,h5,h6,h7,h8,h9,h10,h11,h12⟩:=h;have kk:∀{gs:List (List (Int×Int))}{is:List Addr},LL H gs is→LL H' gs is:=fun{gs is} l=>l.keep (fun b xs z=>s _ _ z) fun x hx=>by
  cases q:H x with
  |none=>exact absurd q (l.dom x hx)
  |some o=>exact s _ _ q
 exact⟨dx,a,b,c,d,e,ia,ib,ic,bs,s _ _ h1,s _ _ h3,s _ _ h4,h5.keep fun b xs z=>s _ _ z,s _ _ h6,kk h7,s _ _ h8,kk h9,s _ _ h10,h11,fun v hv=>(let⟨ms,x,y⟩:=h12 v hv;⟨ms,s _ _ x,y⟩)⟩
theorem ZfD{K:PySem.W.Frag}{mg:Str→Option Value}{T:Tp K mg}{H:Hp}{p:Addr}{ls:List B5}{rs:List Int}{m:Str}{G:Prop}(h:Wc T H p ls rs)(m1:(m== "turns")=false)(m2:(m== "rows")=false)(m3:(m== "takes")=false)(m4:(m== "gives")=false)(m5:(m== "touched")=false)(q:G):∃a dx fs,V.ref p= .ref a∧H a=some (.ins T.C_Course dx fs)∧fs.lookup m=none∧G:=by
 obtain⟨dx,a,b,c,d,e,ia,ib,ic,bs,h1,_⟩:=h;exact⟨p,dx,_,rfl,h1,Rd.lk1 m1 (Rd.lk1 m2 (Rd.lk1 m3 (Rd.lk1 m4 (Rd.lk1 m5 Rd.lkN)))),q⟩
theorem Zda{n:Nat}{P:Nat→Addr→Prop}{ys:List V}(h:Paired (fun(i:Nat) v=>∃x,v=V.ref x∧P i x) (List.range n) ys):∃ia:List Addr,ys=ia.map V.ref∧ia.length=n∧∀i<n,P i (ia.getD i 0):=by
 have hl:n=ys.length:=by have:=Paired.length h;simpa using this
 have hx:∀i:Nat,i<n→∃x,ys[i]? =some (V.ref x)∧P i x:=fun i hi=>by
  obtain⟨y,h1,x,rfl,hx⟩:=Paired.get h (i:=i) (x:=i) (by simp[hi]);exact⟨x,h1,hx⟩
 refine⟨(List.range n).map fun i=>if hi:i<n then(hx i hi).choose else 0,List.ext_getElem? fun i=>?_,by simp,fun i hi=>?_⟩
 ·by_cases hi:i<n
  ·rw[(hx i hi).choose_spec.1];simp[hi]
  ·rw[List.getElem?_eq_none (by omega),List.getElem?_eq_none (by simp;omega)]
 ·have:=(hx i hi).choose_spec.2;simpa[List.getD,hi] using this
noncomputable def WX (f:Nat→Nat) (n:Nat):Nat:=((List.range n).map f).sum
theorem YS(f:Nat→Nat)(n:Nat):WX f (n+1)=WX f n+f n:=by simp[WX,List.range_succ]
theorem ZdH(c:Nat→Nat){w:Nat}:∀{n:Nat},w<n→WX (Fire.bump c w) n=WX c n+1
 |0,h=>absurd h (Nat.not_lt_zero _)
 |n+1,h=>by
  rw[YS,YS];rcases Nat.lt_or_ge w n with z|z
  ·rw[ZdH c z,Fire.VZ c (by omega)];omega
  ·obtain rfl:w=n:=by omega
   have:∀k,k≤w→WX (Fire.bump c w) k=WX c k:=by
    intro k
    induction k with
    |zero=>intro _;rfl
    |succ k ih=>intro hk;rw[YS,YS,ih (by omega),Fire.VZ c (by omega)]
   rw[this w (Nat.le_refl _),Fire.Ux];omega
theorem ZaB{f g:Nat→Nat}:∀{n:Nat},(∀v<n,f v≤g v)→WX f n≤WX g n
 |0,_=>Nat.le_refl _
 |n+1,h=>by
  rw[YS,YS];exact Nat.add_le_add (ZaB fun v hv=>h v (by omega)) (h n (by omega))
theorem ZfW{f g:Nat→Nat}:∀{n:Nat},(∀v<n,f v≤g v)→WX f n=WX g n→∀v<n,f v=g v
 |0,_,_=>fun v hv=>absurd hv (Nat.not_lt_zero _)
 |n+1,h,e=>by
  rw[YS,YS] at e;have h1:=ZaB (n:=n) fun v hv=>h v (by omega);have h2:=h n (by omega);intro v hv;rcases Nat.lt_or_ge v n with z|z
  ·exact ZfW (fun v hv=>h v (by omega)) (by omega) v z
  ·obtain rfl:v=n:=by omega
   omega
noncomputable def tot (rs:List Int):Nat:=WX (ZR rs) rs.length
theorem ZfT{rs:List Int}(h:∀r∈rs,0≤r):(tot rs:Int)=rs.sum:=by
 unfold tot;have:∀k,k≤rs.length→(WX (ZR rs) k:Int)=(rs.take k).sum:=by
  intro k
  induction k with
  |zero=>intro _;rfl
  |succ k ih=>
   intro hk;have hk':k<rs.length:=by omega
   rw[YS,List.take_succ_eq_append_getElem hk',List.sum_append,Int.natCast_add,ih (by omega)];have:=h rs[k] (List.getElem_mem hk');have e:ZR rs k=rs[k].toNat:=by simp[ZR,List.getD,hk']
   rw[e];simp;omega
 rw[this rs.length (Nat.le_refl _),List.take_length]
section
variable {ls:List B5}{st rs:List Int}{d:Nat→Nat}{ws:List Nat}
theorem Zai{c:Nat→Nat}(h:Fire.Ys (Um ls st rs) c ws d):Fire.Ys (Wb ls st rs) c ws d:=by
 induction h with
 |nil c=>exact .nil c
 |cons r _ ih=>exact .cons r.1 ih
theorem Zj2{c:Nat→Nat}(h:Fire.Ys (Wb ls st rs) c ws d)(h0:∀v<rs.length,c v≤ZR rs v):(∀v<rs.length,d v≤ZR rs v)∧WX d rs.length=WX c rs.length+ws.length:=by
 induction h with
 |nil c=>exact⟨h0,rfl⟩
 | @cons c d w ws r _ ih=>
  obtain⟨a,b⟩:=ih fun v hv=>by
   by_cases e:v=w
   ·subst e;rw[Fire.Ux];exact r.2.1
   ·rw[Fire.VZ c e];exact h0 v hv
  refine⟨a,?_⟩;rw[b,ZdH c r.1,List.length_cons];omega
theorem ZeP:∀n,WX (fun _=>0) n=0
 |0=>rfl
 |n+1=>by rw[YS,ZeP n]
theorem Zep(h:Fire.Ys (Wb ls st rs) (fun _=>0) ws d):(∀v<rs.length,d v≤ZR rs v)∧ws.length=WX d rs.length∧ws.length≤tot rs:=by
 obtain⟨a,b⟩:=Zj2 h fun _ _=>Nat.zero_le _;rw[ZeP,Nat.zero_add] at b;exact⟨a,b.symm,by rw[←b];exact ZaB a⟩
theorem ZjD(h:Fire.Ys (Wb ls st rs) (fun _=>0) ws d){w:Nat}(r:Wb ls st rs d w):ws.length<tot rs:=by
 have:=(Zep (h.snoc r)).2.2;rw[List.length_append,List.length_singleton] at this;omega
end
theorem ZhW:∀ys:List Bool,inV (.bl true) (ys.map V.bl)=decide (true∈ys)
 | []=>rfl
 |y::ys=>by
  have e:inV (.bl true) ((y::ys).map V.bl)=(eqV (.bl y) (.bl true)||inV (.bl true) (ys.map V.bl)):=rfl;rw[e,ZhW ys];cases y<;>simp[eqV]
theorem Zi5(ys:List Bool):(ys.map V.bl).all UM=true:=by
 rw[List.all_map,List.all_eq_true];intro _ _
 rfl
theorem ZcI:∀{bs:List Bool},true∈bs→∃j:Nat,bs[j]? =some true∧∀m<j,bs[m]? =some false
 |true::bs,_=>⟨0,rfl,fun m h=>absurd h (Nat.not_lt_zero m)⟩
 |false::bs,h=>by
  obtain⟨j,h1,h2⟩:=ZcI (bs:=bs) (by simpa using h);exact⟨j+1,by simpa using h1,fun m hm=>by
   cases m with
   |zero=>rfl
   |succ m=>simpa using h2 m (by omega)⟩
theorem Zgg{rs:List Int}{d:Nat→Nat}{w:Nat}(hw:w<rs.length):(Z0 rs d).set w ((Z0 rs d).getD w 0-1)=Z0 rs (Fire.bump d w):=by
 refine List.ext_getElem (by simp[Z0]) fun v h1 h2=>?_;have hv:v<rs.length:=by simpa[Z0] using h2
 have e0:=ZeF (d:=d) hw;generalize (Z0 rs d).getD w 0=y at*;subst e0;rw[List.getElem_set]
 by_cases e:w=v
 ·subst e;simp[Z0,Fire.Ux];omega
 ·rw[if_neg e];simp[Z0,Fire.VZ d (Ne.symm e)]
noncomputable def W4 (ls:List B5) (st rs:List Int) (d d':Nat→Nat) (ms:List Int):List Bool:=(List.range rs.length).map fun v:Nat=>if(v:Int)∈ms then Wn ls st rs d' v else Wn ls st rs d v
theorem Zij{ls:List B5}{st rs:List Int}{d d':Nat→Nat}:W4 ls st rs d d' []=Wv ls st rs d:=by simp[W4,Wv]
theorem Zja{ls:List B5}{st rs:List Int}{d:Nat→Nat}{n w:Nat}{ms:List Int}(h:st.length=ls.length)(hb:ZH ls n)(ht:Zau ls w ms):W4 ls st rs d (Fire.bump d w) ms=Wv ls st rs (Fire.bump d w):=by
 unfold W4 Wv;refine List.map_congr_left fun v _=>?_
 split
 ·rfl
 ·rename_i z;exact(ZhQ h hb ht z).symm
theorem ZdU{ls:List B5}{st rs:List Int}{d d':Nat→Nat}{ms:List Int}{v:Nat}:(W4 ls st rs d d' ms).set v (Wn ls st rs d' v)=W4 ls st rs d d' (ms++ [(v:Int)]):=by
 refine List.ext_getElem (by simp[W4]) fun i h1 h2=>?_;have hi:i<rs.length:=by simpa[W4] using h2
 rw[List.getElem_set]
 by_cases e:v=i
 ·subst e;simp[W4]
 ·rw[if_neg e];have:¬((i:Int)=(v:Int)):=fun z=>e (by omega);simp[W4,this,Ne.symm e]
def Yg(ls:List B5)(rs st cs:List Int)(j:Nat):Prop:=cs.getD (ls.getD j dB).taker.toNat 0<rs.getD (ls.getD j dB).taker.toNat 0∧st.getD j 0+(ls.getD j dB).give*cs.getD (ls.getD j dB).giver.toNat 0-(ls.getD j dB).take*cs.getD (ls.getD j dB).taker.toNat 0<(ls.getD j dB).take
structure VC(ls:List B5)(rs st cs:List Int)(n:Nat)(kvs:List (Key×V)):Prop where
 val:∀i y,valV kvs (Sum.inl i)=some y→∃j<n,y= .int j∧(ls.getD j dB).taker=i∧Yg ls rs st cs j
 all:∀j<n,Yg ls rs st cs j→∃y,valV kvs (Sum.inl (ls.getD j dB).taker)=some y
 keys:∃ks:List Int,kvs.map (·.1)=ks.map Sum.inl∧∀i∈ks,∃y,valV kvs (Sum.inl i)=some y
 len:kvs.length≤n
theorem VC.nil{ls:List B5}{rs st cs:List Int}:VC ls rs st cs 0 []:=⟨fun _ _ h=>by simp[Zco] at h,fun _ h=>absurd h (Nat.not_lt_zero _),⟨[],rfl,by simp⟩,Nat.le_refl _⟩
theorem VC.skip{ls:List B5}{rs st cs:List Int}{n:Nat}{kvs:List (Key×V)}(h:VC ls rs st cs n kvs)(hn:Yg ls rs st cs n→∃y,valV kvs (Sum.inl (ls.getD n dB).taker)=some y):VC ls rs st cs (n+1) kvs:=
 ⟨fun i y e=>(let⟨j,hj,r⟩:=h.val i y e;⟨j,by omega,r⟩),fun j hj s=>by
  rcases Nat.lt_or_ge j n with z|z
  ·exact h.all j z s
  ·obtain rfl:j=n:=by omega
   exact hn s,h.keys,Nat.le_succ_of_le h.len⟩
theorem VC.add{ls:List B5}{rs st cs:List Int}{n:Nat}{kvs:List (Key×V)}(h:VC ls rs st cs n kvs)(hs:Yg ls rs st cs n)(hn:valV kvs (Sum.inl (ls.getD n dB).taker)=none):VC ls rs st cs (n+1) (Z4 kvs (Sum.inl (ls.getD n dB).taker) (.int n)):=by
 refine⟨fun i y e=>?_,fun j hj s=>?_,?_,?_⟩
 ·rw[V0] at e
  split at e
  ·rename_i q;cases e;exact⟨n,Nat.lt_succ_self _,rfl,(Sum.inl.inj q).symm,hs⟩
  ·obtain⟨j,hj,r⟩:=h.val i y e;exact⟨j,by omega,r⟩
 ·rw[V0]
  split
  ·exact⟨_,rfl⟩
  ·rename_i q;rcases Nat.lt_or_ge j n with z|z
   ·exact h.all j z s
   ·exact absurd (by rw[show j=n by omega]) q
 ·obtain⟨ks,e,r⟩:=h.keys;refine⟨ks++ [(ls.getD n dB).taker],by rw[Vk _ hn,List.map_append,e];simp,fun i hi=>?_⟩;rw[V0]
  split
  ·exact⟨_,rfl⟩
  ·rename_i q;rcases List.mem_append.mp hi with z|z
   ·exact r i z
   ·exact absurd (by rw[List.mem_singleton.mp z]) q
 ·rw[Vk _ hn,List.length_append,List.length_singleton];have:=h.len;omega
noncomputable def Yc (ls:List B5) (j:Nat):Int:=(ls.getD j dB).taker
noncomputable def Uk (ls:List B5) (j:Nat):Int:=(ls.getD j dB).giver
structure Za3(ls:List B5)(rs st cs:List Int)(ring:List Nat):Prop where
 ne:ring≠[]
 inn:∀j∈ring,j<ls.length∧Yg ls rs st cs j
 nd:(ring.map (Yc ls)).Nodup
 link:∀i<ring.length,Uk ls (ring.getD i 0)=Yc ls (ring.getD ((i+1) % ring.length) 0)
structure VP(ls:List B5)(rs st cs:List Int)(ys:List Nat)(w:Int)(pl:List (Key×V)):Prop where
 inn:∀j∈ys,j<ls.length∧Yg ls rs st cs j
 nd:(ys.map (Yc ls)).Nodup
 link:∀i<ys.length,Uk ls (ys.getD i 0)=(ys.map (Yc ls)++ [w]).getD (i+1) 0
 at_:∀i<ys.length,valV pl (Sum.inl (Yc ls (ys.getD i 0)))=some (.int i)
 no:∀a,a∉ys.map (Yc ls)→valV pl (Sum.inl a)=none
 len:pl.length≤ys.length
section
variable {ls:List B5}{rs st cs:List Int}{ys:List Nat}{w:Int}{pl:List (Key×V)}
theorem VP.nil(w:Int):VP ls rs st cs [] w []:=⟨by simp,by simp,fun i h=>absurd h (Nat.not_lt_zero _),fun i h=>absurd h (Nat.not_lt_zero _),fun a _=>Zco,Nat.le_refl _⟩
theorem VP.short{n:Nat}(h:VP ls rs st cs ys w pl)(hb:ZH ls n):ys.length≤n:=by
 have:=Fo.UA (n:=n) h.nd (fun a ha=>by
  obtain⟨j,hj,rfl⟩:=List.mem_map.mp ha;have hjl:=(h.inn j hj).1;have:=hb ls[j] (List.getElem_mem hjl);unfold Yc;rw[Zv hjl];omega)
 simpa using this
theorem VP.step(h:VP ls rs st cs ys w pl)(hw:valV pl (Sum.inl w)=none){j:Nat}(hj:j<ls.length)(hs:Yg ls rs st cs j)(ht:Yc ls j=w):VP ls rs st cs (ys++ [j]) (Uk ls j) (Z4 pl (Sum.inl w) (.int ys.length)):=by
 have nw:w∉ys.map (Yc ls):=fun z=>by
  obtain⟨i,hi,e⟩:=List.getElem_of_mem z;have hi':i<ys.length:=by simpa using hi
  have:=h.at_ i hi';rw[Zv hi'] at this;rw[List.getElem_map] at e;rw[e,hw] at this;cases this
 refine⟨fun i hi=>?_,?_,fun i hi=>?_,fun i hi=>?_,fun a ha=>?_,?_⟩
 ·rcases List.mem_append.mp hi with z|z
  ·exact h.inn i z
  ·rw[List.mem_singleton.mp z];exact⟨hj,hs⟩
 ·rw[List.map_append];refine List.nodup_append.mpr ⟨h.nd,by simp,fun a ha b hb e=>?_⟩;obtain rfl:b=Yc ls j:=by simpa using hb
  rw[ht] at e;exact nw (e▸ha)
 ·rw[List.length_append,List.length_singleton] at hi;rcases Nat.lt_or_ge i ys.length with z|z
  ·have e1:(ys++ [j]).getD i 0=ys.getD i 0:=by simp[List.getD,List.getElem?_append_left z]
   rw[e1,h.link i z,List.map_append,List.map_singleton,ht];have hl:(ys.map (Yc ls)++ [w]).length=ys.length+1:=by simp
   simp only[List.getD];rw[List.getElem?_append_left (l₁:=ys.map (Yc ls)++ [w]) (by rw[hl];omega)]
  ·obtain rfl:i=ys.length:=by omega
   have e1:(ys++ [j]).getD ys.length 0=j:=by simp[List.getD]
   rw[e1];have hl:(((ys++ [j]).map (Yc ls)).length)=ys.length+1:=by simp
   simp only[List.getD];rw[List.getElem?_append_right (by rw[hl];exact Nat.le_refl _),hl,Nat.sub_self]
   rfl
 ·rw[List.length_append,List.length_singleton] at hi;rw[V0];rcases Nat.lt_or_ge i ys.length with z|z
  ·have e1:(ys++ [j]).getD i 0=ys.getD i 0:=by simp[List.getD,List.getElem?_append_left z]
   rw[e1,if_neg (fun e=>nw (by rw[←Sum.inl.inj e,Zv z];exact List.mem_map.mpr ⟨_,List.getElem_mem z,rfl⟩))];exact h.at_ i z
  ·obtain rfl:i=ys.length:=by omega
   have e1:(ys++ [j]).getD ys.length 0=j:=by simp[List.getD]
   rw[e1,ht,if_pos rfl]
 ·rw[List.map_append,List.mem_append,List.map_singleton,List.mem_singleton,ht] at ha;rw[V0,if_neg (fun e=>ha (.inr (Sum.inl.inj e)))];exact h.no a fun z=>ha (.inl z)
 ·rw[Vk _ hw,List.length_append,List.length_append,List.length_singleton,List.length_singleton];have:=h.len;omega
theorem VP.ring(h:VP ls rs st cs ys w pl){y:V}(hw:valV pl (Sum.inl w)=some y):∃m:Nat,y= .int m∧m<ys.length∧Za3 ls rs st cs (ys.drop m):=by
 have hm:w∈ys.map (Yc ls):=by
  by_cases z:w∈ys.map (Yc ls)
  ·exact z
  ·rw[h.no w z] at hw;cases hw
 obtain⟨m,hm',e⟩:=List.getElem_of_mem hm;have hml:m<ys.length:=by simpa using hm'
 have e1:=h.at_ m hml;have e2:Yc ls (ys.getD m 0)=w:=by rw[Zv hml];simpa using e
 rw[e2,hw] at e1;cases e1;refine⟨m,rfl,hml,fun z=>?_,fun j hj=>h.inn j (List.mem_of_mem_drop hj),?_,fun i hi=>?_⟩
 ·have:=congrArg List.length z;simp at this;omega
 ·rw[List.map_drop];exact h.nd.sublist (List.drop_sublist _ _)
 ·rw[List.length_drop] at hi;have g1:(ys.drop m).getD i 0=ys.getD (m+i) 0:=by simp[List.getD]
  rw[g1,h.link (m+i) (by omega),List.length_drop];rcases Nat.lt_or_ge (m+i+1) ys.length with z|z
  ·rw[Nat.mod_eq_of_lt (by omega)];have g2:(ys.drop m).getD (i+1) 0=ys.getD (m+i+1) 0:=by simp[List.getD,Nat.add_assoc]
   rw[g2,Zv z];simp only[List.getD];rw[List.getElem?_append_left (by simpa using z)];simp[z]
  ·have ei:i+1=ys.length-m:=by omega
   rw[ei,Nat.mod_self];have g2:(ys.drop m).getD 0 0=ys.getD m 0:=by simp[List.getD]
   have ei2:m+i+1=ys.length:=by omega
   rw[g2,e2,ei2];simp[List.getD]
end
theorem Zil{xs:List V}{k:Nat}(h:k≤xs.length):UW xs (some (k:Int)) none=xs.drop k:=by
 have e1:HT.sIx xs.length 0 (some (k:Int))=k:=by
  simp only[HT.sIx];rw[if_neg (by omega)];simp;omega
 have e2:HT.sIx xs.length xs.length none=xs.length:=by simp[HT.sIx]
 unfold UW;rw[e1,e2,List.take_of_length_le (by rw[List.length_drop];exact Nat.le_refl _)]
noncomputable def W0 (n:Nat) (d:Nat→Nat):List Int:=(List.range n).map fun v=>((d v:Nat):Int)
theorem Zii{n:Nat}{d:Nat→Nat}:(W0 n d).length=n:=by simp[W0]
theorem ZfQ{n v:Nat}{d:Nat→Nat}(h:v<n):(W0 n d).getD v 0=(d v:Int):=by simp[W0,List.getD,h]
def ZeX(ls:List B5)(rs:List Int):Prop:=∀b∈ls,b.give*rs.getD b.giver.toNat 0=b.take*rs.getD b.taker.toNat 0
section
variable {ls:List B5}{rs st:List Int}{d:Nat→Nat}
theorem Vs(hpos:∀r∈rs,1≤r){v:Nat}(hv:v<rs.length):(ZR rs v:Int)=rs.getD v 0:=by
 have:=hpos rs[v] (List.getElem_mem hv);unfold ZR;rw[Zv hv];omega
theorem ZdF(hsl:st.length=ls.length)(hbt:ZH ls rs.length)(hpos:∀r∈rs,1≤r){j:Nat}(hj:j<ls.length):Yg ls rs st (W0 rs.length d) j↔d ls[j].taker.toNat<ZR rs ls[j].taker.toNat∧Fire.lie (fB ls[j] (st[j]'(by omega))) d<ls[j].take:=by
 have hb:=hbt ls[j] (List.getElem_mem hj);have r1:=Vs hpos (v:=ls[j].taker.toNat) (by omega);have c1:=ZfQ (d:=d) (n:=rs.length) (v:=ls[j].taker.toNat) (by omega);have c2:=ZfQ (d:=d) (n:=rs.length) (v:=ls[j].giver.toNat) (by omega);have es:st.getD j 0=st[j]'(by omega):=Zv (by omega);unfold Yg Fire.lie fB;rw[Zv hj,c1,c2,←r1,es]
 constructor
 ·rintro⟨a,b⟩;exact⟨by omega,b⟩
 ·rintro⟨a,b⟩;exact⟨by omega,b⟩
theorem Zcf(hsl:st.length=ls.length)(hbt:ZH ls rs.length)(hpos:∀r∈rs,1≤r)(hst:∀w,¬Wb ls st rs d w){v:Nat}(hv:v<rs.length)(hd:d v<ZR rs v):∃i<ls.length,Yc ls i=(v:Int)∧Yg ls rs st (W0 rs.length d) i:=by
 have h1:=mt (Za0 (d:=d) hsl hbt hv).mp (hst v);unfold Wn at h1;rw[decide_eq_true hd,Bool.true_and,Zak (Z5 hsl)] at h1
 by_cases z:∃i<ls.length,Yc ls i=(v:Int)∧Yg ls rs st (W0 rs.length d) i
 ·exact z
 ·refine absurd (fun j hj e=>?_) h1;rw[Wj hsl hj];have ns:¬Yg ls rs st (W0 rs.length d) j:=fun y=>z ⟨j,hj,by unfold Yc;rw[Zv hj];exact e,y⟩;rw[ZdF hsl hbt hpos hj] at ns;have hb:=hbt ls[j] (List.getElem_mem hj);have et:ls[j].taker.toNat=v:=by omega
  rw[et] at ns;have:=fun y=>ns ⟨hd,y⟩;omega
theorem Zgy(hsl:st.length=ls.length)(hbt:ZH ls rs.length)(hpos:∀r∈rs,1≤r)(hst:∀w,¬Wb ls st rs d w)(hbal:ZeX ls rs)(hle:∀v<rs.length,d v≤ZR rs v)(hs0:∀x∈st,0≤x)(hsz:YH ls){j:Nat}(hj:j<ls.length)(h:Yg ls rs st (W0 rs.length d) j):
  ∃i<ls.length,Yc ls i=Uk ls j∧Yg ls rs st (W0 rs.length d) i:=by
 obtain⟨h1,h2⟩:=(ZdF hsl hbt hpos hj).mp h;have hb:=hbt ls[j] (List.getElem_mem hj);have bal:Fire.Bal (fBs ls st) (ZR rs):=fun b hm=>by
  obtain⟨i,hi,rfl⟩:=Zdl hsl hm;have hbi:=hbt ls[i] (List.getElem_mem hi);show ls[i].give*(ZR rs ls[i].giver.toNat:Int)=ls[i].take*(ZR rs ls[i].taker.toNat:Int);rw[Vs hpos (by omega),Vs hpos (by omega)];exact hbal _ (List.getElem_mem hi)
 obtain⟨gv,tk,g0,t0,_,_,_,et⟩:=hsz j hj;rw[Zv hj] at et;have hg:=Fire.ZfB (Zds hsl hj) bal (hs0 _ (List.getElem_mem _)) (by show 0≤ls[j].take;omega) (hle _ (show ls[j].giver.toNat<rs.length by omega)) h1 h2;obtain⟨i,hi,e,hs⟩:=Zcf hsl hbt hpos hst (v:=ls[j].giver.toNat) (by omega) hg;exact⟨i,hi,by rw[e];unfold Uk;rw[Zv hj];omega,hs⟩
end
structure Rts(ls:List B5)(n:Nat)(z:Int→Nat)(rs:List Int):Prop where
 len:rs.length=n
 pos:∀r∈rs,1≤r
 bal:ZeX ls rs
 wood:∃F,Fo.WM (Z9 ls) n F n∧∀x∈F,ZaJ ls x rs
theorem Zj1{ls:List B5}{ys:List Int}(hc:∀j<ls.length,((ls.getD j dB).giver∈ys↔(ls.getD j dB).taker∈ys)){a w:Int}(h:Fo.Va (Z9 ls) a w)(ha:a∈ys):w∈ys:=by
 induction h with
 |refl=>exact ha
 |step _ m ih=>
  obtain⟨i,hi,hm⟩:=V4 m;rcases WQ.mp hm with⟨e1,e2⟩|⟨e1,e2⟩
  ·have e3:=congrArg Prod.fst e2;dsimp only at e3;rw[e3];exact(hc i hi).mp (e1▸ih)
  ·have e3:=congrArg Prod.fst e2;dsimp only at e3;rw[e3];exact(hc i hi).mpr (e1▸ih)
noncomputable def Ze7 (rs:List Int) (ys:List Int):Nat:=ys.foldl (fun c w=>Nat.gcd c (rs.getD w.toNat 0).toNat) 0
theorem ZdO(rs:List Int):∀(ys:List Int)(c:Nat),ys.foldl (fun c w=>Nat.gcd c (rs.getD w.toNat 0).toNat) c ∣ c∧∀w∈ys,ys.foldl (fun c w=>Nat.gcd c (rs.getD w.toNat 0).toNat) c ∣ (rs.getD w.toNat 0).toNat
 | [],c=>⟨Nat.dvd_refl c,by simp⟩
 |w::ys,c=>by
  obtain⟨h1,h2⟩:=ZdO rs ys (Nat.gcd c (rs.getD w.toNat 0).toNat);refine⟨Nat.dvd_trans h1 (Nat.gcd_dvd_left _ _),fun v hv=>?_⟩;rcases List.mem_cons.mp hv with z|z
  ·rw[z];exact Nat.dvd_trans h1 (Nat.gcd_dvd_right _ _)
  ·exact h2 v z
def ZjO(ls:List B5)(n:Nat)(rs:List Int):Prop:=∀(f:Int)(ys:List Int),0≤f→f<(n:Int)→f∈ys→(∀j<ls.length,((ls.getD j dB).giver∈ys↔(ls.getD j dB).taker∈ys))→Ze7 rs ys=1
theorem ZiG{ls:List B5}{n:Nat}{F:List (Int×Fo.ZG)}{rs:List Int}(hwd:Fo.WM (Z9 ls) n F n)(hset:∀x∈F,ZaJ ls x rs):ZjO ls n rs:=by
 intro f ys f0 f1 hf hc;obtain⟨x,hx,hk⟩:=hwd.all f f0 f1;obtain⟨hg,hgo,_,_⟩:=hwd.tree x hx;obtain⟨zs,hz,hrs⟩:=hset x hx;refine Zft hg hz fun y hy=>?_;have hyk:y.1∈Fo.keys x.2:=by
  have h1:=hz.keys;have h2:(Fo.keys x.2).take x.2.length=Fo.keys x.2:=List.take_of_length_le (by simp[Fo.keys]);rw[h2] at h1;rw[←h1];exact List.mem_map.mpr ⟨y,hy,rfl⟩
 have h3:=(hg.keys_iff hgo y.1).mp hyk;have h4:=(hg.keys_iff hgo f).mp hk;have h5:y.1∈ys:=Zj1 hc (Fo.Va.trans (Fo.Va.symm (Zaf ls) h4) h3) hf;have h6:=(ZdO rs ys 0).2 _ h5;have h7:=hrs y hy;have h8:rs.getD y.1.toNat 0=((lcmL zs / y.2.2*y.2.1:Nat):Int):=by rw[List.getD,h7];rfl
 rw[h8,Int.toNat_natCast] at h6;exact h6
theorem Zch{ls:List B5}{c:Int→Int}:∀{ps:List (Int×Bool)}{a b:Int},YN (gvI ls) (tkI ls) a ps b→(∀x∈ps,c (gvI ls x.1)*(giN ls x.1:Int)=c (tkI ls x.1)*(taN ls x.1:Int))→c a*(prN (giN ls) (taN ls) ps:Int)=c b*(prN (taN ls) (giN ls) ps:Int)
 | [],_,_,h,_=>by
  have e:_=_:=h;rw[e]
  rfl
 |(x,al)::ps,a,b,h,k=>by
  have ih:=Zch (ps:=ps) h.2 fun y hy=>k y (List.mem_cons_of_mem _ hy);have h1:=h.1;have k1:=k (x,al) (List.mem_cons_self ..);show c a*(((if al=true then giN ls x else taN ls x)*prN (giN ls) (taN ls) ps:Nat):Int)=c b*(((if al=true then taN ls x else giN ls x)*prN (taN ls) (giN ls) ps:Nat):Int);rw[Int.natCast_mul,Int.natCast_mul,←h1];dsimp only at k1;cases al with
  |true=>
   show c (gvI ls x)*((giN ls x:Int)*_)=c b*((taN ls x:Int)*_);have ih':c (tkI ls x)*(prN (giN ls) (taN ls) ps:Int)=c b*(prN (taN ls) (giN ls) ps:Int):=ih
   calc c (gvI ls x)*((giN ls x:Int)*(prN (giN ls) (taN ls) ps:Int))=c (gvI ls x)*(giN ls x:Int)*(prN (giN ls) (taN ls) ps:Int):=by rw[Int.mul_assoc]
    _=(taN ls x:Int)*(c (tkI ls x)*(prN (giN ls) (taN ls) ps:Int)):=by rw[k1];simp only[Int.mul_comm,Int.mul_left_comm,Int.mul_assoc]
    _=c b*((taN ls x:Int)*(prN (taN ls) (giN ls) ps:Int)):=by rw[ih'];simp only[Int.mul_comm,Int.mul_left_comm,Int.mul_assoc]
  |false=>
   show c (tkI ls x)*((taN ls x:Int)*_)=c b*((giN ls x:Int)*_);have ih':c (gvI ls x)*(prN (giN ls) (taN ls) ps:Int)=c b*(prN (taN ls) (giN ls) ps:Int):=ih
   calc c (tkI ls x)*((taN ls x:Int)*(prN (giN ls) (taN ls) ps:Int))=c (tkI ls x)*(taN ls x:Int)*(prN (giN ls) (taN ls) ps:Int):=by rw[Int.mul_assoc]
    _=(giN ls x:Int)*(c (gvI ls x)*(prN (giN ls) (taN ls) ps:Int)):=by rw[←k1];simp only[Int.mul_comm,Int.mul_left_comm,Int.mul_assoc]
    _=c b*((giN ls x:Int)*(prN (taN ls) (giN ls) ps:Int)):=by rw[ih'];simp only[Int.mul_comm,Int.mul_left_comm,Int.mul_assoc]
theorem ZfI{ls:List B5}{n:Nat}{ring:List (Int×Bool)}(hok:VT ls ring)(hbt:ZH ls n)(hsz:YH ls){cs:List Int}(hp:∀w:Int,0≤w→w<(n:Int)→0<cs.getD w.toNat 0):∃x∈ring,WW cs (ls.getD x.1.toNat dB)≠0:=by
 refine Classical.byContradiction fun hno=>?_;obtain⟨a,hw⟩:=hok.walk;have h1:=Zch (c:=fun w=>cs.getD w.toNat 0) hw fun x hx=>by
  have h0:WW cs (ls.getD x.1.toNat dB)=0:=Classical.byContradiction fun z=>hno ⟨x,hx,z⟩;obtain⟨x0,x1⟩:=hok.rg x hx;obtain⟨gv,tk,g0,t0,gl,tl,eg,et⟩:=hsz x.1.toNat (by omega);unfold WW at h0;unfold giN taN gvI tkI;rw[eg,et] at h0⊢;rw[Int.toNat_natCast,Int.toNat_natCast];omega
 apply hok.odd;have ha:0<cs.getD a.toNat 0:=by
  cases ring with
  |nil=>exact absurd rfl hok.some_
  |cons x ps=>
   have e:Zbe (gvI ls) (tkI ls) x=a:=hw.1;obtain⟨x0,x1⟩:=hok.rg x (List.mem_cons_self ..);obtain⟨b1,b2,b3,b4⟩:=hbt.at (i:=x.1.toNat) (by omega);rw[←e];unfold Zbe gvI tkI
   split
   ·exact hp _ b1 b2
   ·exact hp _ b3 b4
 exact Int.ofNat.inj (Int.eq_of_mul_eq_mul_left (show cs.getD a.toNat 0≠0 by omega) h1)
theorem Zbv{ls:List B5}{n:Nat}{ring:List (Int×Bool)}{z:Int→Nat}(hok:VT ls ring)(hbt:ZH ls n)(hsz:YH ls)(hz:Zf5 ls z):False:=by
 have hg:∀w:Int,0≤w→w<(n:Int)→((List.range n).map fun v:Nat=>(z (v:Int):Int)).getD w.toNat 0=(z w:Int):=fun w h0 h1=>by
  have:w.toNat<n:=by omega
  have e:((w.toNat:Nat):Int)=w:=by omega
  simp[List.getD,this,e]
 obtain⟨x,hx,hc⟩:=ZfI hok hbt hsz (cs:=(List.range n).map fun v:Nat=>(z (v:Int):Int)) (fun w h0 h1=>by rw[hg w h0 h1];have:=hz.pos w;omega);refine hc ?_;obtain⟨x0,x1⟩:=hok.rg x hx;have hi:x.1.toNat<ls.length:=by omega
 obtain⟨gv,tk,g0,t0,gl,tl,eg,et⟩:=hsz _ hi;obtain⟨b1,b2,b3,b4⟩:=hbt.at hi;have hb:=hz.bal _ hi;unfold WW;rw[hg _ b1 b2,hg _ b3 b4];rw[eg,et] at hb⊢;rw[Int.toNat_natCast,Int.toNat_natCast] at hb;have hb':((gv*z (ls.getD x.1.toNat dB).giver:Nat):Int)=((tk*z (ls.getD x.1.toNat dB).taker:Nat):Int):=by rw[hb]
 rw[Int.natCast_mul,Int.natCast_mul] at hb';rw[Int.mul_comm (z _:Int),Int.mul_comm (z (ls.getD x.1.toNat dB).taker:Int)];omega
def ZlY(m:Nat)(b:B5):Prop:=0≤b.start∧((b.giver=0∧b.taker=1∧b.give=(m:Int)∧b.take=1)∨(b.giver=1∧b.taker=0∧b.give=1∧b.take=(m:Int)))
def Zdx(m:Nat)(ls:List B5):Prop:=ls≠[]∧∀b∈ls,ZlY m b
noncomputable def Zi6 (m:Nat) (w:Int):Nat:=if w=1 then m else 1
noncomputable def Yr (m n:Nat):List Int:=1::(m:Int)::List.replicate n 1
section
variable {m n:Nat}{ls:List B5}{rs:List Int}{z:Int→Nat}
theorem ZfH(h:Zdx m ls)(hn:2≤n):ZH ls n:=fun b hb=>by
 rcases(h.2 b hb).2 with⟨a,b',_⟩|⟨a,b',_⟩<;>(rw[a,b'];omega)
theorem Zh7(h:Zdx m ls)(h0:0<m)(h1:m<2 ^ 110):YH ls:=fun i hi=>by
 rw[Zv hi];rcases(h.2 _ (List.getElem_mem hi)).2 with⟨_,_,c,d⟩|⟨_,_,c,d⟩
 ·exact⟨m,1,h0,Nat.one_pos,h1,by decide,c,d⟩
 ·exact⟨1,m,Nat.one_pos,h0,by decide,h1,c,d⟩
theorem Zcc(h:Zdx m ls)(h0:0<m):Zf5 ls (Zi6 m):=by
 refine⟨fun w=>by unfold Zi6;split<;>omega,fun i hi=>?_⟩;rw[Zv hi];unfold Zi6;rcases(h.2 _ (List.getElem_mem hi)).2 with⟨a,b,c,d⟩|⟨a,b,c,d⟩<;>(rw[a,b,c,d];simp)
theorem ZhJ(h:Zdx m ls)(h0:0<m)(hR:Rts ls (2+n) z rs):rs=Yr m n:=by
 obtain⟨F,hwd,hset⟩:=hR.wood;have hlo:=ZiG hwd hset;have hp:∀v,v<2+n→1≤rs.getD v 0:=fun v hv=>by
  rw[Zv (by rw[hR.len];exact hv)];exact hR.pos _ (List.getElem_mem _)
 have hin:∀j<ls.length,((ls.getD j dB).giver=0∧(ls.getD j dB).taker=1)∨((ls.getD j dB).giver=1∧(ls.getD j dB).taker=0):=fun j hj=>by
  rw[Zv hj];rcases(h.2 _ (List.getElem_mem hj)).2 with⟨a,b,_⟩|⟨a,b,_⟩
  ·exact .inl ⟨a,b⟩
  ·exact .inr ⟨a,b⟩
 have h01:Ze7 rs [0,1]=1:=hlo 0 [0,1] (by omega) (by omega) (by simp) fun j hj=>by
  rcases hin j hj with⟨a,b⟩|⟨a,b⟩<;>(rw[a,b];simp)
 have hv1:∀v,2≤v→v<2+n→rs.getD v 0=1:=fun v a b=>by
  have h1:Ze7 rs [(v:Int)]=1:=hlo (v:Int) [(v:Int)] (by omega) (by omega) (by simp) fun j hj=>by
   rcases hin j hj with⟨x,y⟩|⟨x,y⟩<;>(rw[x,y];simp;omega)
  unfold Ze7 at h1;simp only[List.foldl,Nat.gcd_zero_left,Int.toNat_natCast] at h1;have:=hp v b;omega
 have e01:rs.getD 1 0=(m:Int)*rs.getD 0 0:=by
  obtain⟨b,hb⟩:=List.exists_mem_of_ne_nil _ h.1;have hB:=hR.bal b hb;rcases(h.2 b hb).2 with⟨a1,a2,a3,a4⟩|⟨a1,a2,a3,a4⟩
  ·rw[a1,a2,a3,a4,Int.one_mul] at hB;exact hB.symm
  ·rw[a1,a2,a3,a4,Int.one_mul] at hB;exact hB
 have e0:rs.getD 0 0=1:=by
  unfold Ze7 at h01;simp only[List.foldl,Nat.gcd_zero_left] at h01;have p0:=hp 0 (by omega);obtain⟨a,ea⟩:∃a:Nat,rs.getD 0 0=(a:Int):=⟨(rs.getD 0 0).toNat,by omega⟩;have t0:(0:Int).toNat=0:=rfl;have t1:(1:Int).toNat=1:=rfl;rw[t0,t1,e01,ea] at h01;have e2:((m:Int)*(a:Int)).toNat=m*a:=by rw[←Int.natCast_mul,Int.toNat_natCast]
  rw[e2,Int.toNat_natCast,Nat.gcd_eq_left (Nat.dvd_mul_left a m)] at h01;rw[ea,h01]
  rfl
 refine List.ext_getElem (by rw[hR.len];simp[Yr];omega) fun v a1 a2=>?_;rw[←Zv (d:=0) a1];have hv:v<2+n:=by rw[←hR.len];exact a1
 match v,hv with
 |0,_=>exact e0
 |1,_=>rw[e01,e0,Int.mul_one];rfl
 |v+2,hv=>rw[hv1 (v+2) (by omega) hv];simp[Yr]
theorem Zf4:∀n:Nat,(List.replicate n (1:Int)).sum=(n:Int)
 |0=>rfl
 |n+1=>by rw[List.replicate_succ,List.sum_cons,Zf4 n];omega
theorem ZgL:(Yr m n).sum=1+(m:Int)+(n:Int):=by
 unfold Yr;rw[List.sum_cons,List.sum_cons,Zf4];omega
theorem Zi2{d:Nat→Nat}(h:Zdx m ls)(hf:∀b∈ls,b.giver=1→b.start=(m:Int))(hst:∀w,¬Wb ls (ZN ls) (Yr m n) d w):∀v<2+n,ZR (Yr m n) v≤d v:=by
 have hb:∀b∈fBs ls (ZN ls),∃c∈ls,b=fB c c.start:=fun b hb=>by
  obtain⟨j,hj,e⟩:=Zdl (by simp[ZN]) hb;exact⟨ls[j],List.getElem_mem hj,by rw[e];simp[ZN]⟩
 have hl:(Yr m n).length=2+n:=by simp[Yr];omega
 have h0:ZR (Yr m n) 0≤d 0:=by
  refine Nat.le_of_not_lt fun z=>hst 0 ⟨by omega,z,fun b hb' ht=>?_⟩;have e0:d 0=0:=by
   have:ZR (Yr m n) 0=1:=rfl;omega
  obtain⟨c,hc,rfl⟩:=hb b hb';have ht':c.taker.toNat=0:=ht;rcases(h.2 c hc).2 with⟨a1,a2,a3,a4⟩|⟨a1,a2,a3,a4⟩
  ·rw[a2] at ht';cases ht'
  ·have:=hf c hc a1;unfold Fire.lie fB;dsimp only;rw[a1,a2,a3,a4,this];have t0:(0:Int).toNat=0:=rfl;rw[t0,e0];simp only[Int.natCast_zero,Int.mul_zero,Int.one_mul];omega
 intro v hv;refine Nat.le_of_not_lt fun z=>hst v ⟨by omega,z,fun b hb' ht=>?_⟩;obtain⟨c,hc,rfl⟩:=hb b hb';have ht':c.taker.toNat=v:=ht;rcases(h.2 c hc).2 with⟨a1,a2,a3,a4⟩|⟨a1,a2,a3,a4⟩
 ·have ev:v=1:=by rw[a2] at ht';exact ht'.symm
  subst ev;have e1:ZR (Yr m n) 1=m:=by simp[ZR,Yr]
  have e0:ZR (Yr m n) 0=1:=rfl;rw[e1] at z;rw[e0] at h0;have s0:=(h.2 c hc).1;unfold Fire.lie fB;dsimp only;rw[a1,a2,a3,a4];have t0:(0:Int).toNat=0:=rfl;have t1:(1:Int).toNat=1:=rfl;rw[t0,t1];have k1:(m:Int)*1≤(m:Int)*(d 0:Int):=Int.mul_le_mul_of_nonneg_left (by omega) (by omega);generalize (m:Int)*(d 0:Int)=y at*;omega
 ·have ev:v=0:=by rw[a2] at ht';exact ht'.symm
  subst ev;omega
theorem ZhM{b:B5}{k:Nat}(hb:b∈ls)(e1:b.giver=(k:Int))(e2:b.taker=(k:Int))(e3:b.give=b.take+1)(hk:k<n):¬Rts ls n z rs:=fun h=>by
 have h1:=h.bal b hb;rw[e1,e2,e3,Int.add_mul,Int.one_mul,Int.toNat_natCast] at h1;have h2:1≤rs.getD k 0:=by rw[Zv (by rw[h.len];exact hk)];exact h.pos _ (List.getElem_mem _)
 omega
end
theorem Zgh{ls:List B5}{rs:List Int}{d:Nat→Nat}(hpos:∀r∈rs,1≤r)(hbt:ZH ls rs.length)(hb:ZeX ls rs)(h:∀v<rs.length,d v=ZR rs v):lieL ls (ZN ls) d=ZN ls:=by
 have hsl:(ZN ls).length=ls.length:=by simp[ZN]
 refine List.ext_getElem (by rw[Z5 hsl,hsl]) fun j h1 h2=>?_;have hj:j<ls.length:=by omega
 have b:=hbt ls[j] (List.getElem_mem hj);rw[Wj hsl hj];unfold Fire.lie fB;dsimp only;rw[h _ (show ls[j].giver.toNat<rs.length by omega),h _ (show ls[j].taker.toNat<rs.length by omega),Vs hpos (by omega),Vs hpos (by omega),hb _ (List.getElem_mem hj)];omega
theorem ZgU(ws:List Nat)(v:Nat):(ws.map fun w:Nat=>(w:Int)).count (v:Int)=ws.count v:=by
 induction ws with
 |nil=>rfl
 |cons w ws ih=>
  rw[List.map_cons,List.count_cons,List.count_cons,ih]
  congr 1
  by_cases e:w=v
  ·simp[e]
  ·have:¬(w:Int)=(v:Int):=fun z=>e (by omega);simp[e,this]
noncomputable def nameE (k:Nat):Str:=Txt.slice "edcba" (some (k:Int)) none
theorem Zi8:∀k<5,Wl (nameE k)=true:=by decide+kernel
theorem Zhk:∀k<5,nameE k∉(List.range k).map nameE:=by decide+kernel
theorem Zka:("edcba" :Str).length≤sizeLine:=by decide+kernel
local macro_rules| `(tactic|walk_at "rd")=>`(tactic|first|with_reducible (first|(show ∃a dx fs,L2.V.ref _=L2.V.ref a∧_∧List.lookup _ fs=none∧_;refine Nm.Zhi (by with_reducible assumption) (by k_dflt (decide+kernel)) (by k_dflt (decide+kernel)) ?_)|(show ∃a dx fs,L2.V.ref _=L2.V.ref a∧_∧List.lookup _ fs=none∧_;refine Nm.ZfD (by with_reducible assumption) (by k_dflt (decide+kernel)) (by k_dflt (decide+kernel)) (by k_dflt (decide+kernel)) (by k_dflt (decide+kernel)) (by k_dflt (decide+kernel)) ?_)|refine L2.Rd.Zmf (by with_reducible assumption) (by with_reducible assumption) (by with_reducible assumption) ?_|refine L2.Rd.Zl2 (by with_reducible assumption) (by with_reducible assumption) (by with_reducible assumption) ?_)|fail "none here")
def Ur{K:PySem.W.Frag}{mg:Str→Option Value}(T:Tp K mg):Sp:=fun vs H Q _=>∃(p:Addr)(ns:List Int)(k:Int),vs=[.ref p,.int k]∧SqL K H p (ns.map V.int)∧0≤k∧∀c:Int,Q (.int c) H
theorem ZhD{K:PySem.W.Frag}{mg:Str→Option Value}{T:Tp K mg}{H:Hp}{Q:VK}{E:XK}{p:Addr}{ns:List Int}{k:Int}(hS:SqL K H p (ns.map V.int))(hk:0≤k)(q:∀c:Int,Q (.int c) H):Ur T ([.ref p,.int k]++ []) H Q E:=⟨p,ns,k,rfl,hS,hk,q⟩
local macro_rules| `(tactic|walk_at "rd")=>`(tactic|first|((with_reducible show Nm.Ur _ _ _ _ _);with_reducible refine Nm.ZhD (by walk_at "hp") (by walk_at "side") (fun _=>?_))|fail "none here")
section
variable {P:Program}{w:World}{K:PySem.W.Frag}{mg:Str→Option Value}{base:Heap}
theorem ZdB(T:Tp K mg):Zk P w K mg base (CXX P w) 1 T.f_l_cell T.d_l_cell ["_law_script","_law_k"] (Ur T):=by
 refine T.F_l_cell.okX Zhb (fun vs H Q E h=>?_) (fun cdv A outer s H vs Q E hr h=>?_)
 ·obtain⟨p,ns,k,rfl,_⟩:=h
  rfl
 ·have hu:=hr.units;obtain⟨p,ns,k,rfl,hS,hk,q⟩:=h;refine⟨_,(Zc (ZV (ZC UP (pv 1) (ZB (Y2 (K:=K) rfl) (by rfl) T.n_len PySem.boot_len (Za (pv 0) Zb)) (ZE _)) (Zg (Zx (Zo (ZA (K:=K) rfl) (pv 0) (pv 1) (fun _ _=>rfl)))) ZJ)
     (Zg (Zx Zh))),?_⟩
  try dsimp only[L2.cxX,L2.ZP,L2.Zl]
  walk_at "rds";refine Rd.ifD (fun c=>?_) (fun c=>?_)
  ·have c':k<ns.length:=by simpa using c
   have ha:=YE hk c';walk_at "rds";exact q _
  ·walk_at "rds";exact q _
end
def ZcX{K:PySem.W.Frag}{mg:Str→Option Value}(T:Tp K mg):Sp:=fun vs H Q _=>∃(p:Addr)(ns:List Int),vs=[.ref p]∧SqL K H p (ns.map V.int)∧∀t:Nat,(398≤t∧t≤403)∨(1000≤t∧t<10 ^ 30)→Q (.int t) H
section
variable {P:Program}{w:World}{K:PySem.W.Frag}{mg:Str→Option Value}{base:Heap}
theorem ZgW(T:Tp K mg):Zk P w K mg base (CXX P w) 2 T.f_l_turns T.d_l_turns ["_law_script"] (ZcX T):=by
 have G_l_cell:Zk P w K mg base (CXX P w) 1 T.f_l_cell T.d_l_cell ["_law_script","_law_k"] (Ur T):=(ZdB T).mono (by decide);refine T.F_l_turns.okX Zc1 (fun vs H Q E h=>?_) (fun cdv A outer s H vs Q E hr h=>?_)
 ·obtain⟨p,ns,rfl,_⟩:=h
  rfl
 ·have hu:=hr.units;obtain⟨p,ns,rfl,hS,q⟩:=h;refine⟨_,(Zc (Zt (i:=1) Zc1.nd rfl (Or.inl rfl) (Zw G_l_cell hr rfl T.m_l_cell T.F_l_cell.kp T.b_l_cell .nil Zm (Za (pv 0) (Za Zh Zb))))
     (Zc (ZV (ZC (YA (K:=K) rfl hu) (ZL VQ (pv 1) Zh) Zh (ZE _)) (Zg (Zx (ZL (Y4 (K:=K) rfl) Zh (ZL VQ (ZL Vl (pv 1) Zh) (ZL Uw (ZL Zkz Zh Zh) Zh))))) ZJ)
     (Zg (Zx (ZL (Y4 (K:=K) rfl) Zh (ZL VQ (ZL Vl (pv 1) Zh) Zh)))))),?_⟩
  try dsimp only[L2.cxX,L2.ZP,L2.Zl]
  walk_at "rds";rename_i cc;refine Rd.ifD (fun c=>?_) (fun c=>?_)
  ·walk_at "rds";have e30:(10:Int) ^ Int.toNat 30=10 ^ 30:=rfl;rw[e30];obtain⟨t,et⟩:∃t:Nat,1000+cc / 4 % (10 ^ 30-2000)=(t:Int):=⟨(1000+cc / 4 % (10 ^ 30-2000)).toNat,by omega⟩;rw[et];exact q t (.inr ⟨by omega,by omega⟩)
  ·walk_at "rds";obtain⟨t,et⟩:∃t:Nat,398+cc / 4 % 6=(t:Int):=⟨(398+cc / 4 % 6).toNat,by omega⟩;rw[et];exact q t (.inl ⟨by omega,by omega⟩)
end
def Yp{K:PySem.W.Frag}{mg:Str→Option Value}(T:Tp K mg):Sp:=fun vs H Q _=>∃(p:Addr)(hl:HM)(fp:List Addr),vs=[.ref p]∧Zy T H p hl fp∧
 ∀(q:Addr)(H':Hp)(bs:List V),H q=none→Zd H H'→H' q=some (.lst bs)→Y0 H' bs hl.belts→Q (.ref q) H'
theorem Zd1{K:PySem.W.Frag}{mg:Str→Option Value}{T:Tp K mg}{H:Hp}{Q:VK}{E:XK}{p:Addr}{hl:HM}{fp:List Addr}(h:Zy T H p hl fp)
  (q:∀(q:Addr)(H':Hp)(bs:List V),H q=none→Zd H H'→H' q=some (.lst bs)→Y0 H' bs hl.belts→Q (.ref q) H'):Yp T (.ref p::([]++ [])) H Q E:=⟨p,hl,fp,rfl,h,q⟩
local macro_rules| `(tactic|walk_at "rd")=>`(tactic|first|((with_reducible show Nm.Yp _ _ _ _ _);with_reducible refine Nm.Zd1 (by with_reducible assumption) ?_)|fail "none here")
section
variable {P:Program}{w:World}{K:PySem.W.Frag}{mg:Str→Option Value}{base:Heap}
theorem WB(T:Tp K mg):Zk P w K mg base (CXX P w) 1 T.f_Hall_belts T.d_Hall_belts ["self"] (Yp T):=by
 have cl_Hall:=T.cl_Hall;have na_Hall:=T.na_Hall;refine T.F_Hall_belts.okX Zd5 (fun vs H Q E h=>?_) (fun cdv A outer s H vs Q E hr h=>?_)
 ·obtain⟨p,hl,fp,rfl,_⟩:=h
  rfl
 ·have hu:=hr.units;obtain⟨p,hl,fp,rfl,hh,q⟩:=h;obtain⟨dx,a,b,bs,rfl,h1,h2,h3,h4,nab,h6⟩:=id hh;refine⟨_,(Zg (Zx (Ul (ZaS (K:=K) rfl) (by rfl) T.n_list PyProof.Rows.boot_list (Za (ZW (K:=K) rfl (pv 0) rfl) Zb)))),?_⟩
  try dsimp only[L2.cxX,L2.ZP,L2.Zl]
  walk_at "rds";refine Rd.ZbK (.of h4) (fun l hl'=>?_);exact q l _ bs hl' (Zn hl') Zf (h6.keep ((Zn hl').frame (A:=[])).tups)
end
def Zbx{K:PySem.W.Frag}{mg:Str→Option Value}(T:Tp K mg):Sp:=fun vs H Q _=>∃(p:Addr)(hl:HM)(fp:List Addr),vs=[.ref p]∧Zy T H p hl fp∧hl.belts.length≤1000∧
 ∀(r:Addr)(H':Hp),H r=none→Zd H H'→H' r=some (.lst ((ZN hl.belts).map V.int))→Q (.ref r) H'
section
variable {P:Program}{w:World}{K:PySem.W.Frag}{mg:Str→Option Value}{base:Heap}
theorem ZeQ(T:Tp K mg):Zk P w K mg base (CXX P w) 2 T.f_starts_of T.d_starts_of ["hall"] (Zbx T):=by
 have G_Hall_belts:Zk P w K mg base (CXX P w) 1 T.f_Hall_belts T.d_Hall_belts ["self"] (Yp T):=(WB T).mono (by decide);have cl_Hall:=T.cl_Hall;have na_Hall:=T.na_Hall;refine T.F_starts_of.okX Ze2 (fun vs H Q E h=>?_) (fun cdv A outer s H vs Q E hr h=>?_)
 ·obtain⟨p,hl,fp,rfl,_⟩:=h
  rfl
 ·have hu:=hr.units;obtain⟨p,hl,fp,rfl,hh,hz,q⟩:=h;refine⟨_,(Zg (Zx (UT rfl (Yi (x:="row") (zs:=[]) (ix:=[]) (Zi Vd) ["hall"] rfl rfl (by decide+kernel)) (Z6 (K:=K) rfl (Vn (pv 0) T.cl_Hall T.M_Hall_belts G_Hall_belts hr T.b_Hall_belts .nil Zm)) (fun cl C s H fp=>⟨(Zp (i:=0) (show(["row"]:List Str).Nodup by decide+kernel) rfl (Or.inl rfl)),Ye,(Zo (ZA (K:=K) rfl) (pv 0) Zh (fun _ _=>rfl))⟩)))),?_⟩
  try dsimp only[L2.cxX,L2.ZP,L2.Zl]
  walk_at "rds";intro u H1 bs hu0 sm1 hu1 hT;have hl1:=hT.length;have hb:bs.length<sizeLine:=Zs (by rw[hl1];exact hz);walk_at "rds";refine YU (ZZ (SqL.of hu1)) hb (fun _=>true) (fun i=> .int (hl.belts.getD i dB).start) (fun i H' Kc hi sm k=>?_) (fun i H' Kc hi _ sm k=>?_) (fun r H' hr sm hr'=>?_)
  ·walk_at "rds";exact k H' (Zd.refl H')
  ·have hil:i<hl.belts.length:=by omega
   obtain⟨t,ht1,ht2⟩:=hT.getD (i:=i) hil;rw[ht1];have ht3:=sm _ _ ht2;generalize hl.belts.getD i dB=bb at*;dsimp only[B5.v] at ht3;walk_at "rds";exact k H' (Zd.refl H')
  ·refine q r H' (ZK sm1 hr) (sm1.trans sm) ?_;rw[hr',List.filter_eq_self.mpr (by simp),hl1];unfold ZN;refine congrArg (fun z=>some (HO.lst z)) ?_;refine List.ext_getElem (by simp) fun i h1 h2=>?_;have:i<hl.belts.length:=by simpa using h1
   simp[List.getD,this]
end
def UC{K:PySem.W.Frag}{mg:Str→Option Value}(T:Tp K mg):Sp:=fun vs H Q E=>∃(p:Addr)(hl:HM)(fp:List Addr),vs=[.ref p]∧Zy T H p hl fp∧
 ∀r H',H r=none→Zd H H'→H' r=some (.lst (hl.names.map V.str))→Q (.ref r) H'
section
variable {P:Program}{w:World}{K:PySem.W.Frag}{mg:Str→Option Value}{base:Heap}
theorem Za4(T:Tp K mg):Zk P w K mg base (CXX P w) 1 T.f_Hall_names T.d_Hall_names ["self"] (UC T):=by
 have cl_Hall:=T.cl_Hall;have na_Hall:=T.na_Hall;refine T.F_Hall_names.okX Zd3 (fun vs H Q E h=>?_) (fun cdv A outer s H vs Q E hr h=>?_)
 ·obtain⟨p,hl,fp,rfl,_⟩:=h
  rfl
 ·have hu:=hr.units;obtain⟨p,hl,fp,rfl,hh,q⟩:=h;obtain⟨dx,a,b,bs,rfl,h1,h2,h3,h4,nab,h6⟩:=id hh;refine⟨_,(Zg (Zx (Ul (ZgM rfl) (by rfl) T.n_list PyProof.Rows.boot_list (Za (ZW (K:=K) rfl (pv 0) rfl) Zb)))),?_⟩
  try dsimp only[L2.cxX,L2.ZP,L2.Zl]
  walk_at "rds";intro l hl';rw[Zb9];exact q l _ hl' (Zn hl') Zf
end
def ZcO{K:PySem.W.Frag}{mg:Str→Option Value}(T:Tp K mg):Sp:=fun vs H Q _=>∃(p:Addr)(hl:HM)(fp:List Addr),vs=[.ref p]∧Zy T H p hl fp∧hl.names.length≤1000∧hl.belts.length≤1000∧ZH hl.belts hl.names.length∧
 ∀(r:Addr)(ia:List Addr)(H':Hp),H r=none→Zd H H'→Zbt H' r ia hl.names.length (Z9 hl.belts)→Q (.ref r) H'
section
variable {P:Program}{w:World}{K:PySem.W.Frag}{mg:Str→Option Value}{base:Heap}
theorem Zgp(T:Tp K mg):Zk P w K mg base (CXX P w) 2 T.f_ways_of T.d_ways_of ["hall"] (ZcO T):=by
 have G_Hall_belts:Zk P w K mg base (CXX P w) 1 T.f_Hall_belts T.d_Hall_belts ["self"] (Yp T):=(WB T).mono (by decide);have G_Hall_names:Zk P w K mg base (CXX P w) 1 T.f_Hall_names T.d_Hall_names ["self"] (UC T):=(Za4 T).mono (by decide);have cl_Hall:=T.cl_Hall;have na_Hall:=T.na_Hall;refine T.F_ways_of.okX UN (fun vs H Q E h=>?_) (fun cdv A outer s H vs Q E hr h=>?_)
 ·obtain⟨p,hl,fp,rfl,_⟩:=h
  rfl
 ·have hu:=hr.units;obtain⟨p,hl,fp,rfl,hh,hn,hz,hbt,q⟩:=h;refine⟨_,(Zc (Zcx (j:=1) (xs:=["name"]) rfl (Yi (x:="name") (zs:=[]) (ix:=[]) (Zi Us) ["hall","ways","belt","row"] rfl rfl (by decide+kernel)) (Z6 (K:=K) rfl (Vn (pv 0) T.cl_Hall T.M_Hall_names G_Hall_names hr T.b_Hall_names .nil Zm)) (fun cl C s H fp=>⟨(Zp (i:=0) (show(["name"]:List Str).Nodup by decide+kernel) rfl (Or.inl rfl)),Ye,(WU Zb)⟩) UN.nd rfl (Or.inl rfl))
     (Zc (Y1 PassesOwn.leaving rfl (ZaF (K:=K) rfl rfl T.n_enumerate (Za (Vn (pv 0) T.cl_Hall T.M_Hall_belts G_Hall_belts hr T.b_Hall_belts .nil Zm) Zb)) (YX (K:=K) (n:=2) rfl rfl (ZI (Zp (i:=2) UN.nd rfl (Or.inl rfl)) (ZI (Zp (i:=3) UN.nd rfl (Or.inl rfl)) YW))) (Zc (ZX (Wi (K:=K) rfl PySem.F.plainAttrs_list PySem.F.slot_list_append PySem.F.type_list_append YT (Zo (ZA (K:=K) rfl) (pv 1) (Zo (ZA (K:=K) rfl) (pv 3) Zh (fun _ _=>rfl)) (fun _ _=>rfl)) (Za (YJ (Za (Zo (ZA (K:=K) rfl) (pv 3) Zh (fun _ _=>rfl)) (Za (pv 2) (Za VI Zb)))) Zb)))
     (Zg (ZX (Wi (K:=K) rfl PySem.F.plainAttrs_list PySem.F.slot_list_append PySem.F.type_list_append YT (Zo (ZA (K:=K) rfl) (pv 1) (Zo (ZA (K:=K) rfl) (pv 3) Zh (fun _ _=>rfl)) (fun _ _=>rfl)) (Za (YJ (Za (Zo (ZA (K:=K) rfl) (pv 3) Zh (fun _ _=>rfl)) (Za (pv 2) (Za VI Zb)))) Zb))))))
     (Zg (Zx (pv 1))))),?_⟩
  try dsimp only[L2.cxX,L2.ZP,L2.Zl]
  walk_at "rds";refine⟨p,hl,fp,rfl,hh,fun nm H1 hnm s1 hnm1=>?_⟩;walk_at "rds";refine ZgE (own:=1) (ZZ (SqL.of hnm1)).y (Zs (by rw[List.length_map];exact hn)) (fun i=>[some ((hl.names.map V.str).getD i .non)]) (fun _=>rfl) (fun i a' H' v H2 Kg hi sm y hal k=>?_) (fun i H' Kc hi sm k=>?_) (fun r H2 ia hr s2 hr2 hil hnd hia=>?_)
  ·obtain⟨rfl,rfl⟩:=y;obtain⟨x1,rfl⟩:∃x1,a'=[x1]:=by
    match a',hal with
    | [x1],_=>exact⟨x1,rfl⟩
   walk_at "rds";exact k _ (Zd.refl _)
  ·exact k
  rw[List.length_map] at hil;have s12:=s1.trans s2;have hh2:=hh.same s12;have hr0:H r=none:=ZK s1 hr;have hia0:∀x∈ia,H x=none:=fun x hx=>ZK s1 (hia x hx).1;have nri:∀x∈ia,r≠x:=fun x hx z=>(hia x hx).2.1 z.symm;walk_at "rds";intro u H3 bs hu0 s3 hu3 hT;have hbl:=hT.length;have nui:∀x∈ia,u≠x:=fun x hx z=>by
   have:=(hia x hx).2.2;rw[←z,hu0] at this;cases this
  walk_at "rds";refine Vt (Vz (SqL.of (ZbH (q:=u) (o:= .lst bs)))) (fun k σ H'=>∃(a1 a2:Option V),σ=[some (.ref p),some (.ref r),a1,a2]∧Zd H H'∧H' u=some (.lst bs)∧H' r=some (.lst (ia.map V.ref))∧Y0 H' bs hl.belts∧WA H' ia (WR hl.belts k)∧∀(j:Nat)(h:j<ia.length) vs,H' ia[j]=some (.lst vs)→vs.length≤2*k)
   ⟨_,_,rfl,s12.trans s3,hu3,s3 _ _ hr2,hT,fun j hj=>⟨[],s3 _ _ (hia _ (List.getElem_mem hj)).2.2,.nil⟩,fun j hj vs e=>?_⟩ ?_ ?_ ?_
  ·rw[s3 _ _ (hia _ (List.getElem_mem hj)).2.2] at e;cases e;exact Nat.zero_le _
  ·rintro k σ H' ⟨_,_,_,_,h,_⟩;exact Zbp h
  ·rintro k σ H4 v H5 hk ⟨a1,a2,rfl,s4,hu4,hr4,hT4,hWA,hsz⟩ ⟨t,ht,rfl,rfl⟩;have hkl:k<hl.belts.length:=by omega
   obtain⟨g0,g1,t0,t1⟩:=hbt.at hkl;obtain⟨tb,hb1,hb2⟩:=hT4.getD hkl;rw[hb1];refine Rd.VL (.of Zf) rfl ?_;have s5:Zd H4 (upd H4 t (.tup [.int k,.ref tb])):=Zn ht;generalize upd H4 t (.tup [.int k,.ref tb])=H5 at*;have hW1:∀j:Int,WR hl.belts (k+1) j=(WR hl.belts k j++(if(hl.belts.getD k dB).giver=j then[((hl.belts.getD k dB).taker,(k:Int),true)] else[]))++(if(hl.belts.getD k dB).taker=j then[((hl.belts.getD k dB).giver,(k:Int),false)] else[]):=fun j=>by
    rw[Zfj,ZaO,List.append_assoc]
   generalize hl.belts.getD k dB=b at*;have hbt5:=s5 _ _ hb2;dsimp only[B5.v] at hbt5;have hr5:=s5 _ _ hr4;have hWA5:=hWA.same s5;have gl:b.giver.toNat<ia.length:=by omega
   have tl:b.taker.toNat<ia.length:=by omega
   have atg:=Zdb g0 gl;have att:=Zdb t0 tl;have eg:((b.giver.toNat:Nat):Int)=b.giver:=Int.toNat_of_nonneg g0;have et:((b.taker.toNat:Nat):Int)=b.taker:=Int.toNat_of_nonneg t0;obtain⟨vs,hv1,hv2⟩:=hWA5 b.giver.toNat gl;have hsz5:∀(j:Nat)(h:j<ia.length) vs,H5 ia[j]=some (.lst vs)→vs.length≤2*k:=fun j hj us e=>by
    obtain⟨us',h1,_⟩:=hWA j hj;have:=s5 _ _ h1;rw[e] at this;cases this;exact hsz j hj _ h1
   have vz:vs.length<sizeLine:=ZaN (by have:=hsz5 _ gl _ hv1;omega);walk_at "rds";refine⟨by show 3≤sizeLine;decide,fun t2 ht2=>?_⟩;have s6:Zd H5 (upd H5 t2 (.tup [.int b.taker,.int k,.bl true])):=Zn ht2;have ht6:(upd H5 t2 (.tup [.int b.taker,.int k,.bl true])) t2=some (.tup [.int b.taker,.int k,.bl true]):=Zf;generalize upd H5 t2 (.tup [.int b.taker,.int k,.bl true])=H6 at*;have hv6:=s6 _ _ hv1;walk_at "rds";have hWA7:=(hWA5.same s6).add hnd gl hv6 (hv2.keep fun _ _ e=>s6 _ _ e) (x:=(b.taker,(k:Int),true)) ht6;have ng:r≠ia[b.giver.toNat]:=nri _ (List.getElem_mem gl);have nug:u≠ia[b.giver.toNat]:=nui _ (List.getElem_mem gl);have hr7:(upd H6 ia[b.giver.toNat] (.lst (vs++ [.ref t2]))) r=some (.lst (ia.map V.ref)):=by rw[Ze ng];exact s6 _ _ hr5
   have hu7:(upd H6 ia[b.giver.toNat] (.lst (vs++ [.ref t2]))) u=some (.lst bs):=by rw[Ze nug];exact s6 _ _ (s5 _ _ hu4)
   have tk7:∀c xs,H6 c=some (.tup xs)→(upd H6 ia[b.giver.toNat] (.lst (vs++ [.ref t2]))) c=some (.tup xs):=fun c xs e=>by rw[Ze (YD e hv6 (by intro z;cases z))];exact e
   have hb7:=tk7 _ _ (s6 _ _ hbt5);have hT7:Y0 (upd H6 ia[b.giver.toNat] (.lst (vs++ [.ref t2]))) bs hl.belts:=((hT4.keep fun _ _ e=>s5 _ _ e).keep fun _ _ e=>s6 _ _ e).keep tk7;have sm7:Zd H (upd H6 ia[b.giver.toNat] (.lst (vs++ [.ref t2]))):=((s4.trans s5).trans s6).new (hia0 _ (List.getElem_mem gl));have hsz7:∀(j:Nat)(h:j<ia.length) us,(upd H6 ia[b.giver.toNat] (.lst (vs++ [.ref t2]))) ia[j]=some (.lst us)→us.length≤2*k+1:=fun j hj us e=>by
    by_cases z:j=b.giver.toNat
    ·subst z;rw[Zf] at e;cases e;have:=hsz5 _ gl _ hv1;simp;omega
    ·have ne:ia[j]≠ia[b.giver.toNat]:=fun y=>z (ZbF hnd hj gl y);rw[Ze ne] at e;obtain⟨us',h1,_⟩:=hWA5 j hj;have:=s6 _ _ h1;rw[e] at this;cases this;have:=hsz5 j hj _ h1;omega
   generalize upd H6 ia[b.giver.toNat] (.lst (vs++ [.ref t2]))=H7 at*;obtain⟨us,hq1,hq2⟩:=hWA7 b.taker.toNat tl;have uz:us.length<sizeLine:=ZaN (by have:=hsz7 _ tl _ hq1;omega);walk_at "rds";refine⟨by show 3≤sizeLine;decide,fun t3 ht3=>?_⟩;have s8:Zd H7 (upd H7 t3 (.tup [.int b.giver,.int k,.bl false])):=Zn ht3;have ht8:(upd H7 t3 (.tup [.int b.giver,.int k,.bl false])) t3=some (.tup [.int b.giver,.int k,.bl false]):=Zf;generalize upd H7 t3 (.tup [.int b.giver,.int k,.bl false])=H8 at*;have hq8:=s8 _ _ hq1;walk_at "rds";have hWA9:=(hWA7.same s8).add hnd tl hq8 (hq2.keep fun _ _ e=>s8 _ _ e) (x:=(b.giver,(k:Int),false)) ht8;have ng2:r≠ia[b.taker.toNat]:=nri _ (List.getElem_mem tl);have nug2:u≠ia[b.taker.toNat]:=nui _ (List.getElem_mem tl);have tk9:∀c xs,H8 c=some (.tup xs)→(upd H8 ia[b.taker.toNat] (.lst (us++ [.ref t3]))) c=some (.tup xs):=fun c xs e=>by rw[Ze (YD e hq8 (by intro z;cases z))];exact e
   refine⟨_,_,rfl,(sm7.trans s8).new (hia0 _ (List.getElem_mem tl)),by rw[Ze nug2];exact s8 _ _ hu7,by rw[Ze ng2];exact s8 _ _ hr7,(hT7.keep fun _ _ e=>s8 _ _ e).keep tk9,?_,fun j hj ws e=>?_⟩
   ·have eW:(fun j=>(fun j=>WR hl.belts k j++(if((b.giver.toNat:Nat):Int)=j then[(b.taker,(k:Int),true)] else[])) j++(if((b.taker.toNat:Nat):Int)=j then[(b.giver,(k:Int),false)] else[]))=WR hl.belts (k+1):=by
     funext j
     rw[hW1 j,eg,et]
    rw[eW] at hWA9;exact hWA9
   ·by_cases z:j=b.taker.toNat
    ·subst z;rw[Zf] at e;cases e;have:=hsz7 _ tl _ hq1;simp;omega
    ·have ne:ia[j]≠ia[b.taker.toNat]:=fun y=>z (ZbF hnd hj tl y);rw[Ze ne] at e;obtain⟨us',h1,_⟩:=hWA7 j hj;have:=s8 _ _ h1;rw[e] at this;cases this;have:=hsz7 j hj _ h1;omega
  ·rintro σ H4 ⟨a1,a2,rfl,s4,hu4,hr4,hT4,hWA,hsz⟩;rw[hbl] at hWA;walk_at "rds";exact q r ia H4 hr0 s4 ⟨hr4,hil,hnd,hWA⟩
end
def Zbc{K:PySem.W.Frag}{mg:Str→Option Value}(T:Tp K mg):Sp:=fun vs H Q _=>∃(r:Addr)(ia:List Addr)(n:Nat)(W:Int→List Fo.Trip)(first:Int),vs=[.ref r,.int first]∧Zbt H r ia n W∧n≤1000∧(∀a,∀t∈W a,0≤t.1∧t.1<(n:Int))∧0≤first∧first<(n:Int)∧
 ∀(d:Addr)(H':Hp)(tr:Fo.ZG),H d=none→Zd H H'→Ve H' d tr→Fo.Z2 W first tr→Fo.UE W tr tr.length→Q (.ref d) H'
section
variable {P:Program}{w:World}{K:PySem.W.Frag}{mg:Str→Option Value}{base:Heap}
theorem Zek(T:Tp K mg):Zk P w K mg base (CXX P w) 1 T.f_tree_from T.d_tree_from ["ways","first"] (Zbc T):=by
 refine T.F_tree_from.okX Ym (fun vs H Q E h=>?_) (fun cdv A outer s H vs Q E hr h=>?_)
 ·obtain⟨r,ia,n,W,first,rfl,_⟩:=h
  rfl
 ·have hu:=hr.units;obtain⟨r,ia,n,W,first,rfl,hw,hn,hrg,f0,f1,q⟩:=h;have hil:=hw.len;refine⟨_,(Zc (Zt (i:=2) Ym.nd rfl (Or.inl rfl) (ZjM (ZiE (pv 1) Vf Zj9) rfl rfl (by simp) (by decide)))
     (Zc (Zt (i:=3) Ym.nd rfl (Or.inl rfl) (WU (Za (pv 1) Zb)))
     (Zc (Zt (i:=4) Ym.nd rfl (Or.inl rfl) Zh)
     (Zc (V7 PassesOwn.leaving (ZC UP (pv 4) (ZB (Y2 (K:=K) rfl) (by rfl) T.n_len PySem.boot_len (Za (pv 3) Zb)) (ZE _)) (Zc (Zt (i:=5) Ym.nd rfl (Or.inl rfl) (Zo (ZA (K:=K) rfl) (pv 3) (pv 4) (fun _ _=>rfl)))
     (Zc (Zhf (i:=4) Ym.nd rfl (Or.inl rfl) Zh ZeR)
     (Zg (Y1 PassesOwn.leaving rfl (Z6 (K:=K) rfl (Zo (ZA (K:=K) rfl) (pv 0) (pv 5) (fun _ _=>rfl))) (YX (K:=K) (n:=3) rfl rfl (ZI (Zp (i:=6) Ym.nd rfl (Or.inl rfl)) (ZI (Zp (i:=7) Ym.nd rfl (Or.inl rfl)) (ZI (Zp (i:=8) Ym.nd rfl (Or.inl rfl)) YW)))) (Zg (ZV (ZC (Zbu hu) (pv 6) (pv 2) (by with_unfolding_all rfl)) (Zc (WT (YJ (Za (pv 5) (Za (pv 7) (Za (pv 8) Zb)))) (VS (pv 2) (pv 6) (UX hu)))
     (Zg (ZX (Wi (K:=K) rfl PySem.F.plainAttrs_list PySem.F.slot_list_append PySem.F.type_list_append YT (pv 3) (Za (pv 6) Zb))))) ZJ)))))))
     (Zg (Zx (pv 2))))))),?_⟩
  try dsimp only[L2.cxX,L2.ZP,L2.Zl]
  walk_at "rds";intro d hd;dsimp only[ZcE];walk_at "rds";refine⟨Zf,[(Sum.inl first,.non)],rfl,by simp,?_⟩;have hd1:(upd (upd H d (.dK [])) d (.dK (Yj [] [(Sum.inl first,.non)]))) d=some (.dK [(Sum.inl first,.non)]):=Zf;have s1:Zd H (upd (upd H d (.dK [])) d (.dK (Yj [] [(Sum.inl first,.non)]))):=(Zn hd).new hd;generalize upd (upd H d (.dK [])) d (.dK (Yj [] [(Sum.inl first,.non)]))=H1 at*;walk_at "rds";refine(fun c hc=>?_);have s2:Zd H1 (upd H1 c (.lst [V.int first])):=Zn hc;have hc2:(upd H1 c (.lst [V.int first])) c=some (.lst ((Fo.keys [(first,none)]).map V.int)):=Zf;have hd2:=s2 _ _ hd1;have hc0:H c=none:=ZK s1 hc;have ncd:c≠d:=fun z=>by rw[z,hd1] at hc;cases hc
  generalize upd H1 c (.lst [V.int first])=H2 at*;have s02:=s1.trans s2;have ht2:Ve H2 d [(first,none)]:=⟨_,hd2,.cons ⟨rfl,rfl⟩ .nil⟩;clear hd1 hd2 s1 s2 hc;walk_at "rds";refine Zay (fun m σ H'=>∃(tr:Fo.ZG)(dn:Nat)(a1 a2 a3 a4:Option V),σ=[some (.ref r),some (.int first),some (.ref d),some (.ref c),some (.int dn),a1,a2,a3,a4]∧Zd H H'∧Ve H' d tr∧H' c=some (.lst ((Fo.keys tr).map V.int))∧dn≤tr.length∧Fo.Z2 W first tr∧Fo.UE W tr dn∧m=n+1-dn) (n+1)
   ⟨[(first,none)],0,_,_,_,_,rfl,s02,ht2,hc2,Nat.zero_le _,Fo.Zia,fun j w s hj=>absurd hj (Nat.not_lt_zero _),rfl⟩ ?_
  rintro m σ H3 ⟨tr,dn,a1,a2,a3,a4,rfl,s3,ht3,hc3,hdn,hg,hgo,rfl⟩;have hkl:((Fo.keys tr).map V.int).length=tr.length:=by simp[Fo.keys]
  have htn:tr.length≤n:=by
   have:=Fo.UA (n:=n) hg.nodup (hg.rg ⟨f0,f1⟩ hrg);simpa[Fo.keys] using this
  walk_at "rds";rw[hkl];refine Rd.ifD (fun z=>?_) (fun z=>?_)
  ·have hdl:dn<tr.length:=by omega
   obtain⟨⟨w,st⟩,ew⟩:∃x,tr[dn]? =some x:=⟨tr[dn],List.getElem?_eq_getElem hdl⟩;have hwk:=Fo.Wy ew;obtain⟨w0,w1⟩:=hg.rg ⟨f0,f1⟩ hrg w hwk;have at1:atI ((Fo.keys tr).map V.int) (dn:Int)=some (.int w):=Wf (by rw[List.getElem?_map];unfold Fo.keys;rw[List.getElem?_map,ew];rfl);have hwl:w.toNat<ia.length:=by omega
   have atw:=Zdb w0 hwl;have hw3:=hw.same s3;have hwr:=hw3.at_;obtain⟨vs,hv0,hv1⟩:=hw.wa w.toNat hwl;rw[Int.toNat_of_nonneg w0] at hv1;have hv3:=s3 _ _ hv0;have hvl:=hv1.length;refine ZbS ?_;walk_at "rds";refine⟨_,rfl,?_⟩;walk_at "rds";refine V5 (ZZ (SqL.of hv0)) (fun j σ H'=>∃(tr:Fo.ZG)(a2 a3 a4:Option V),σ=[some (.ref r),some (.int first),some (.ref d),some (.ref c),some (.int (dn+1)),some (.int w),a2,a3,a4]∧Zd H H'∧Ve H' d tr∧H' c=some (.lst ((Fo.keys tr).map V.int))∧Fo.Z2 W first tr∧Fo.UE W tr dn∧tr[dn]? =some (w,st)∧∀t∈(W w).take j,t.1∈Fo.keys tr)
    ⟨tr,_,_,_,rfl,s3,ht3,hc3,hg,hgo,ew,by simp⟩ (fun j σ H' ⟨_,_,_,_,_,s,_⟩=>s) ?_ ?_
   ·rintro j σ H4 hj ⟨tr,a2,a3,a4,rfl,s4,⟨kvs,hd4,hen⟩,hc4,hg,hgo,ew,hall⟩;have hjl:j<(W w).length:=by omega
    obtain⟨t,ht1,ht4⟩:=hv1.at (List.getElem?_eq_getElem hjl);have eb:vs.getD j .non= .ref t:=by simp[List.getD,ht1]
    rw[eb];have hmem:(W w)[j]∈W w:=List.getElem_mem hjl;have htk:(W w).take (j+1)=(W w).take j++ [(W w)[j]]:=List.take_succ_eq_append_getElem hjl;have ht5:=s4 _ _ ht4;have hrr:=hrg w _ hmem;generalize (W w)[j]=x at*;obtain⟨o,b,al⟩:=x;refine Rd.VL (.of ht5) rfl ?_;dsimp only at*;have htn:tr.length≤n:=by
     have:=Fo.UA (n:=n) hg.nodup (hg.rg ⟨f0,f1⟩ hrg);simpa[Fo.keys] using this
    have hkz:kvs.length<sizeLine:=Zs (by rw[hen.length];omega);have hcz:((Fo.keys tr).map V.int).length<sizeLine:=Zs (by simp[Fo.keys];omega);walk_at "rds";have hs:=hen.some (w:=o)
    by_cases ho:o∈Fo.keys tr
    ·rw[hs.mpr ho];walk_at "rds";refine⟨tr,_,_,_,rfl,s4,⟨kvs,hd4,hen⟩,hc4,hg,hgo,ew,?_⟩;rw[htk];intro t' ht';rcases List.mem_append.mp ht' with y|y
     ·exact hall t' y
     ·rw[List.mem_singleton.mp y];exact ho
    ·have hno:valV kvs (Sum.inl o)=none:=by
      cases e:valV kvs (Sum.inl o) with
      |none=>rfl
      |some v=>exact absurd (hs.mp (by rw[e];rfl)) ho
     rw[hno,Option.isSome_none];walk_at "rds";refine⟨by show 3≤sizeLine;decide,fun t2 ht2=>?_⟩;have s5:Zd H4 (upd H4 t2 (.tup [.int w,.int b,.bl al])):=Zn ht2;have hn5:(upd H4 t2 (.tup [.int w,.int b,.bl al])) t2=some (.tup [.int w,.int b,.bl al]):=Zf;have hd5:=s5 _ _ hd4;have hc5:=s5 _ _ hc4;have hen5:Ent (upd H4 t2 (.tup [.int w,.int b,.bl al])) kvs tr:=hen.keep fun _ _ e=>s5 _ _ e;generalize upd H4 t2 (.tup [.int w,.int b,.bl al])=H5 at*;walk_at "rds";rw[Vk _ hno];have tk6:∀a xs,H5 a=some (.tup xs)→(upd H5 d (.dK (kvs++ [(Sum.inl o,.ref t2)]))) a=some (.tup xs):=fun a xs e=>by rw[Ze (YD e hd5 (by intro z;cases z))];exact e
     have hc6:(upd H5 d (.dK (kvs++ [(Sum.inl o,.ref t2)]))) c=some (.lst ((Fo.keys tr).map V.int)):=by rw[Ze ncd];exact hc5
     have hd6:(upd H5 d (.dK (kvs++ [(Sum.inl o,.ref t2)]))) d=some (.dK (kvs++ [(Sum.inl o,.ref t2)])):=Zf;have hen6:=(hen5.keep tk6).snoc (w:=o) (v:= .ref t2) (s:=some (w,b,al)) ⟨t2,rfl,tk6 _ _ hn5⟩;have s6:Zd H (upd H5 d (.dK (kvs++ [(Sum.inl o,.ref t2)]))):=(s4.trans s5).new hd;generalize upd H5 d (.dK (kvs++ [(Sum.inl o,.ref t2)]))=H6 at*;walk_at "rds";have hdl2:=(List.getElem?_eq_some_iff.mp ew).1;refine⟨tr++ [(o,some (w,b,al))],_,_,_,rfl,s6.new hc0,⟨_,by rw[Ze ncd.symm];exact hd6,hen6.keep fun a xs e=>by rw[Ze (YD e hc6 (by intro z;cases z))];exact e⟩,?_,hg.snoc ew hmem ho,hgo.snoc (by omega) _ _,Fo.ZbV ew,?_⟩
     ·rw[Zf,Fo.Zae,List.map_append];rfl
     ·rw[htk,Fo.Zae];intro t' ht';rcases List.mem_append.mp ht' with y|y
      ·exact List.mem_append_left _ (hall t' y)
      ·rw[List.mem_singleton.mp y];exact List.mem_append_right _ (List.mem_singleton.mpr rfl)
   ·rintro σ H4 ⟨tr,a2,a3,a4,rfl,s4,ht4,hc4,hg,hgo,ew,hall⟩;rw[←hvl,List.take_length] at hall;have hdl2:=(List.getElem?_eq_some_iff.mp ew).1;walk_at "rds";exact⟨n+1-(dn+1),by omega,tr,dn+1,_,_,_,_,rfl,s4,ht4,hc4,hdl2,hg,hgo.next ew hall,rfl⟩
  ·have e:dn=tr.length:=by omega
   subst e;walk_at "rds";exact q d H3 tr hd s3 ht3 hg hgo
end
def Za9{K:PySem.W.Frag}{mg:Str→Option Value}(T:Tp K mg):Sp:=fun vs H Q _=>∃(p:Addr)(hl:HM)(fp:List Addr),vs=[.ref p]∧Zy T H p hl fp∧hl.names.length≤60∧hl.belts.length≤1000∧ZH hl.belts hl.names.length∧
 ∀(f:Addr)(ds:List Addr)(H':Hp)(F:List (Int×Fo.ZG)),H f=none→Zd H H'→Ziu H' f ds F→(∀d∈ds,H d=none)→Fo.WM (Z9 hl.belts) hl.names.length F hl.names.length→F.length≤hl.names.length→Q (.ref f) H'
section
variable {P:Program}{w:World}{K:PySem.W.Frag}{mg:Str→Option Value}{base:Heap}
theorem Zff(T:Tp K mg):Zk P w K mg base (CXX P w) 3 T.f_forest_of T.d_forest_of ["hall"] (Za9 T):=by
 have G_ways_of:Zk P w K mg base (CXX P w) 2 T.f_ways_of T.d_ways_of ["hall"] (ZcO T):=(Zgp T).mono (by decide);have G_tree_from:Zk P w K mg base (CXX P w) 2 T.f_tree_from T.d_tree_from ["ways","first"] (Zbc T):=(Zek T).mono (by decide);refine T.F_forest_of.okX Wm (fun vs H Q E h=>?_) (fun cdv A outer s H vs Q E hr h=>?_)
 ·obtain⟨p,hl,fp,rfl,_⟩:=h
  rfl
 ·have hu:=hr.units;obtain⟨p,hl,fp,rfl,hh,hn,hz,hbt,q⟩:=h;refine⟨_,(Zc (Zt (i:=1) Wm.nd rfl (Or.inl rfl) (Zw G_ways_of hr rfl T.m_ways_of T.F_ways_of.kp T.b_ways_of .nil Zm (Za (pv 0) Zb)))
     (Zc (Zt (i:=2) Wm.nd rfl (Or.inl rfl) U5)
     (Zc (Zt (i:=3) Wm.nd rfl (Or.inl rfl) (WU Zb))
     (Zc (Y1 PassesOwn.leaving rfl (Wq rfl T.n_range (Za (ZB (Y2 (K:=K) rfl) (by rfl) T.n_len PySem.boot_len (Za (pv 1) Zb)) Zb)) (Zp (i:=4) Wm.nd rfl (Or.inl rfl)) (Zg (ZV (ZC (Zbu hu) (pv 4) (pv 2) (by with_unfolding_all rfl)) (Zc (Zt (i:=5) Wm.nd rfl (Or.inl rfl) (Zw G_tree_from hr rfl T.m_tree_from T.F_tree_from.kp T.b_tree_from .nil Zm (Za (pv 1) (Za (pv 4) Zb))))
     (Zc (ZX (Wi (K:=K) rfl PySem.F.plainAttrs_dict PySem.F.slot_dict_update PySem.F.type_dict_update ZjS (pv 2) (Za (pv 5) Zb)))
     (Zg (ZX (Wi (K:=K) rfl PySem.F.plainAttrs_list PySem.F.slot_list_append PySem.F.type_list_append YT (pv 3) (Za (pv 5) Zb)))))) ZJ)))
     (Zg (Zx (pv 3))))))),?_⟩
  try dsimp only[L2.cxX,L2.ZP,L2.Zl]
  walk_at "rds";refine⟨p,hl,fp,rfl,hh,by omega,hz,hbt,fun r ia H1 hr s1 hw1=>?_⟩;walk_at "rds";intro se hse;have s2:Zd H1 (upd H1 se (.dK [])):=Zn hse;have hs2:(upd H1 se (.dK [])) se=some (.dK []):=Zf;have hse0:H se=none:=ZK s1 hse;generalize upd H1 se (.dK [])=H2 at*;walk_at "rds";refine⟨Nat.zero_le _,fun f hf=>?_⟩;have s3:Zd H2 (upd H2 f (.lst [])):=Zn hf;have hf3:(upd H2 f (.lst [])) f=some (.lst (([]:List Addr).map V.ref)):=Zf;have hs3:=s3 _ _ hs2;have hf1:H1 f=none:=ZK s2 hf;have hf0:H f=none:=ZK s1 hf1;generalize upd H2 f (.lst [])=H3 at*;have s13:=s2.trans s3;have hw3:=hw1.same s13;have hwr:=hw3.at_;have hwl:((ia.map V.ref).length:Int)=(hl.names.length:Int):=by rw[List.length_map,hw1.len]
  walk_at "rds";rw[hwl];refine Zby (n:=hl.names.length) (fun i σ H'=>∃(kvs:List (Key×V))(ds:List Addr)(F:List (Int×Fo.ZG))(a1 a2:Option V),σ=[some (.ref p),some (.ref r),some (.ref se),some (.ref f),a1,a2]∧Zd H1 H'∧H' se=some (.dK kvs)∧H' f=some (.lst (ds.map V.ref))∧Y3 H' ds F∧
   (∀d∈ds,d≠se∧H d=none)∧kvs.length≤60*i∧(∀w:Int,(valV kvs (Sum.inl w)).isSome=true↔∃x∈F,w∈Fo.keys x.2)∧Fo.WM (Z9 hl.belts) hl.names.length F i∧F.length≤i)
   ⟨[],[],[],_,_,rfl,s13,hs3,hf3,.nil,by simp,Nat.zero_le _,fun w=>⟨fun z=>(by cases z),fun⟨x,hx,_⟩=>(by cases hx)⟩,Fo.Ziz,Nat.le_refl _⟩ ?_ ?_
  ·rintro i σ H4 hi ⟨kvs,ds,F,a1,a2,rfl,s4,hs4,hf4,hT4,hds,hkl,hin,hwd,hFl⟩;rw[Int.zero_add];walk_at "rds";have hs:=hin (i:Int)
   by_cases hx:∃x∈F,(i:Int)∈Fo.keys x.2
   ·rw[hs.mpr hx];walk_at "rds";exact⟨kvs,ds,F,_,_,rfl,s4,hs4,hf4,hT4,hds,by omega,hin,hwd.skip hx,by omega⟩
   ·have hno:(valV kvs (Sum.inl (i:Int))).isSome=false:=by
     cases e:(valV kvs (Sum.inl (i:Int))).isSome with
     |false=>rfl
     |true=>exact absurd (hs.mp e) hx
    rw[hno];walk_at "rds";refine⟨r,ia,hl.names.length,Z9 hl.belts,(i:Int),rfl,hw1.same s4,by omega,V8 hbt,by omega,by omega,fun d H5 tr hd0 s5 ht5 hg hgo=>?_⟩;obtain⟨more,hd5,hen⟩:=id ht5;have nds:se≠d:=Zj hs4 hd0;have hs5:=s5 _ _ hs4;have hf5:=s5 _ _ hf4;have hT5:=hT4.same s5;have hrg5:=hg.rg (n:=(hl.names.length:Int)) ⟨by omega,by omega⟩ (V8 hbt);have htl:tr.length≤hl.names.length:=by
     have:=Fo.UA (n:=hl.names.length) hg.nodup hrg5;simpa[Fo.keys] using this
    have hml:more.length≤60:=by rw[hen.length];omega
    walk_at "rds";refine⟨.inr (.inr (.inl ⟨rfl,.inl ⟨_,hs5⟩⟩)),?_⟩;walk_at "rds";refine Rd.Zmd nds hs5 hd5 (Nat.le_of_lt (ZaN (by omega))) ?_;have hme:=ZcR more kvs;have hmk:=Vi more kvs;have tk6:∀a xs,H5 a=some (.tup xs)→(upd H5 se (.dK (Yj kvs more))) a=some (.tup xs):=fun a xs e=>by rw[Ze (YD e hs5 (by intro z;cases z))];exact e
    have hs6:(upd H5 se (.dK (Yj kvs more))) se=some (.dK (Yj kvs more)):=Zf;have hf6:(upd H5 se (.dK (Yj kvs more))) f=some (.lst (ds.map V.ref)):=by rw[Ze (YD hf5 hs5 (by intro z;cases z))];exact hf5
    have hd6:Ve (upd H5 se (.dK (Yj kvs more))) d tr:=⟨more,by rw[Ze nds.symm];exact hd5,hen.keep tk6⟩;have hT6:Y3 (upd H5 se (.dK (Yj kvs more))) ds F:=hT5.keep tk6 (fun d' hd' ks e=>by rw[Ze (hds d' hd').1];exact e);have s6:Zd H1 (upd H5 se (.dK (Yj kvs more))):=(s4.trans s5).new hse;generalize upd H5 se (.dK (Yj kvs more))=H6 at*;have hdz:(ds.map V.ref).length<sizeLine:=Zs (by rw[List.length_map,hT4.length];omega);walk_at "rds";have tk7:∀a xs,H6 a=some (.tup xs)→(upd H6 f (.lst (ds.map V.ref++ [.ref d]))) a=some (.tup xs):=fun a xs e=>by rw[Ze (YD e hf6 (by intro z;cases z))];exact e
    have dk7:∀a ks,H6 a=some (.dK ks)→(upd H6 f (.lst (ds.map V.ref++ [.ref d]))) a=some (.dK ks):=fun a ks e=>by rw[Ze (YD e hf6 (by intro z;cases z))];exact e
    obtain⟨more',hd6',hen6⟩:=hd6;refine⟨Yj kvs more,ds++ [d],F++ [((i:Int),tr)],_,_,rfl,s6.new hf1,dk7 _ _ hs6,by rw[Zf,List.map_append];rfl,(hT6.keep tk7 fun d' _ ks e=>dk7 _ _ e).snoc ⟨more',dk7 _ _ hd6',hen6.keep tk7⟩,fun d' hd'=>?_,by omega,fun w=>?_,hwd.grow (Zaf _) (V8 hbt) hi (fun x hx' hk=>hx ⟨x,hx',hk⟩) hg hgo,by simp;omega⟩
    ·rcases List.mem_append.mp hd' with z|z
     ·exact hds d' z
     ·rw[List.mem_singleton.mp z];exact⟨nds.symm,ZK (s1.trans s4) hd0⟩
    ·rw[hme,Bool.or_eq_true,hin w,hen.some]
     constructor
     ·rintro(⟨x,hx1,hx2⟩|z)
      ·exact⟨x,List.mem_append_left _ hx1,hx2⟩
      ·exact⟨_,List.mem_append_right _ (List.mem_singleton.mpr rfl),z⟩
     ·rintro⟨x,hx1,hx2⟩;rcases List.mem_append.mp hx1 with z|z
      ·exact .inl ⟨x,z,hx2⟩
      ·rw[List.mem_singleton.mp z] at hx2;exact .inr hx2
  ·rintro σ H4 ⟨kvs,ds,F,a1,a2,rfl,s4,hs4,hf4,hT4,hds,hkl,hin,hwd,hFl⟩;walk_at "rds";exact q f ds H4 F hf0 (s1.trans s4) ⟨hf4,hT4⟩ (fun d hd=>(hds d hd).2) hwd hFl
end
def VA{K:PySem.W.Frag}{mg:Str→Option Value}(T:Tp K mg):Sp:=fun vs H Q _=>∃a b:Nat,vs=[.int a,.int b]∧Q (.int (Nat.gcd a b:Nat)) H
theorem ZgX{K:PySem.W.Frag}{mg:Str→Option Value}{T:Tp K mg}{H:Hp}{Q:VK}{E:XK}{a b:Nat}(q:Q (.int (Nat.gcd a b:Nat)) H):VA T ([.int a,.int b]++ []) H Q E:=⟨a,b,rfl,q⟩
local macro_rules| `(tactic|walk_at "rd")=>`(tactic|first|((with_reducible show Nm.VA _ _ _ _ _);with_reducible refine Nm.ZgX ?_)|fail "none here")
section
variable {P:Program}{w:World}{K:PySem.W.Frag}{mg:Str→Option Value}{base:Heap}
theorem ZcT(T:Tp K mg):Zk P w K mg base (CXX P w) 1 T.f_divisor T.d_divisor ["one","other"] (VA T):=by
 refine T.F_divisor.okX UL (fun vs H Q E h=>?_) (fun cdv A outer s H vs Q E hr h=>?_)
 ·obtain⟨a,b,rfl,_⟩:=h
  rfl
 ·have hu:=hr.units;obtain⟨a0,b0,rfl,q⟩:=h;rw[←My.Zed] at q;refine⟨_,(Zc (V7 PassesOwn.leaving (ZC ZbX (pv 1) Zh (ZE _)) (Zc (Zt (i:=2) UL.nd rfl (Or.inl rfl) (ZL VQ (pv 0) (pv 1)))
     (Zc (Zt (i:=0) UL.nd rfl (Or.inl rfl) (pv 1))
     (Zg (Zt (i:=1) UL.nd rfl (Or.inl rfl) (pv 2))))))
     (Zg (Zx (pv 0)))),?_⟩
  try dsimp only[L2.cxX,L2.ZP,L2.Zl]
  walk_at "rd";refine Zay (fun m σ H'=>H'=H∧∃(x y:Int)(r:Option V),m=y.toNat∧σ=[some (.int x),some (.int y),r]∧0≤x∧0≤y∧My.G x y=My.G a0 b0) _ ⟨rfl,a0,b0,none,rfl,rfl,by omega,by omega,rfl⟩ ?_;rintro m σ H' ⟨rfl,x,y,r,rfl,rfl,hx,hy,hG⟩;walk_at "rds";refine Vp (fun c=>ZbS ?_) (fun c=>?_)
  ·have hy0:0<y:=of_decide_eq_true c;walk_at "rds";exact⟨_,(by have:=Int.emod_nonneg x (show y≠0 by omega);have:=Int.emod_lt_of_pos x hy0;omega),rfl,y,x % y,some (.int (x % y)),rfl,rfl,hy,Int.emod_nonneg x (by omega),(ZjY hx hy0).trans hG⟩
  ·have hy0:¬0<y:=fun z=>c (decide_eq_true z);have e:x=My.G a0 b0:=by rw[←hG,My.Zk7 hx (show y=0 by omega)]
   walk_at "rds";rw[e];exact q
end
def Zcs{K:PySem.W.Frag}{mg:Str→Option Value}(T:Tp K mg):Sp:=fun vs H Q _=>∃a b:Nat,vs=[.int a,.int b]∧0<b∧b<2 ^ 8000∧∀(p:Addr)(H':Hp),H p=none→Zd H H'→H' p=some (.tup [.int (a / Nat.gcd a b:Nat),.int (b / Nat.gcd a b:Nat)])→Q (.ref p) H'
section
variable {P:Program}{w:World}{K:PySem.W.Frag}{mg:Str→Option Value}{base:Heap}
theorem Zen(T:Tp K mg):Zk P w K mg base (CXX P w) 2 T.f_ratio T.d_ratio ["top","bottom"] (Zcs T):=by
 have G_divisor:Zk P w K mg base (CXX P w) 1 T.f_divisor T.d_divisor ["one","other"] (VA T):=(ZcT T).mono (by decide);refine T.F_ratio.okX Zeq (fun vs H Q E h=>?_) (fun cdv A outer s H vs Q E hr h=>?_)
 ·obtain⟨a,b,rfl,_⟩:=h
  rfl
 ·have hu:=hr.units;obtain⟨a,b,rfl,b0,b1,q⟩:=h;have gp:0<Nat.gcd a b:=Nat.gcd_pos_of_pos_right _ b0;have gl:Nat.gcd a b<2 ^ 8000:=Nat.lt_of_le_of_lt (Nat.le_of_dvd b0 (Nat.gcd_dvd_right a b)) b1;have dg:=Zis (a:=a) gp gl;refine⟨_,(Zc (Zt (i:=2) Zeq.nd rfl (Or.inl rfl) (Zw G_divisor hr rfl T.m_divisor T.F_divisor.kp T.b_divisor .nil Zm (Za (pv 0) (Za (pv 1) Zb))))
     (Zg (Zx (YJ (Za (ZL Vl (pv 0) (pv 2)) (Za (ZL Vl (pv 1) (pv 2)) Zb)))))),?_⟩
  try dsimp only[L2.cxX,L2.ZP,L2.Zl]
  walk_at "rds";refine⟨by show 2≤sizeLine;decide,fun p hp=>?_⟩;exact q p _ hp (Zn hp) Zf
end
def Zet{K:PySem.W.Frag}{mg:Str→Option Value}(T:Tp K mg):Sp:=fun vs H Q _=>∃(p q:Addr)(x y u v n m:Nat),vs=[.ref p,.ref q]∧H p=some (.tup [.int x,.int y])∧H q=some (.tup [.int u,.int v])∧0<y∧0<v∧x<2 ^ n∧y<2 ^ n∧u<2 ^ m∧v<2 ^ m∧n+m≤8000∧
 ∀(r:Addr)(H':Hp),H r=none→Zd H H'→H' r=some (.tup [.int (x*u / Nat.gcd (x*u) (y*v):Nat),.int (y*v / Nat.gcd (x*u) (y*v):Nat)])→Q (.ref r) H'
section
variable {P:Program}{w:World}{K:PySem.W.Frag}{mg:Str→Option Value}{base:Heap}
theorem ZiX(T:Tp K mg):Zk P w K mg base (CXX P w) 3 T.f_times T.d_times ["one","other"] (Zet T):=by
 have G_ratio:Zk P w K mg base (CXX P w) 2 T.f_ratio T.d_ratio ["top","bottom"] (Zcs T):=(Zen T).mono (by decide);refine T.F_times.okX Zit (fun vs H Q E h=>?_) (fun cdv A outer s H vs Q E hr h=>?_)
 ·obtain⟨p,q,x,y,u,v,n,m,rfl,_⟩:=h
  rfl
 ·have hu:=hr.units;obtain⟨p,q,x,y,u,v,n,m,rfl,h1,h2,y0,v0,xs,ys,us,vs',nm,k⟩:=h;have m1:=ZaL xs us (by omega);have m2:=ZaL ys vs' (by omega);refine⟨_,(Zg (Zx (Zw G_ratio hr rfl T.m_ratio T.F_ratio.kp T.b_ratio .nil Zm (Za (ZL WG (Zo (ZA (K:=K) rfl) (pv 0) Zh (fun _ _=>rfl)) (Zo (ZA (K:=K) rfl) (pv 1) Zh (fun _ _=>rfl))) (Za (ZL WG (Zo (ZA (K:=K) rfl) (pv 0) Zh (fun _ _=>rfl)) (Zo (ZA (K:=K) rfl) (pv 1) Zh (fun _ _=>rfl))) Zb))))),?_⟩
  try dsimp only[L2.cxX,L2.ZP,L2.Zl]
  walk_at "rds";exact⟨x*u,y*v,rfl,Nat.mul_pos y0 v0,Nat.lt_of_lt_of_le (VE ys vs') (Nat.pow_le_pow_right (by decide) nm),k⟩
end
structure Zlu(b:B5)(gv tk:Nat):Prop where
 g:b.give=(gv:Int)
 t:b.take=(tk:Int)
 g0:0<gv
 t0:0<tk
 gl:gv<2 ^ 110
 tl:tk<2 ^ 110
def Zf2{K:PySem.W.Frag}{mg:Str→Option Value}(T:Tp K mg):Sp:=fun vs H Q _=>∃(t:Addr)(b:B5)(al:Bool)(gv tk:Nat),vs=[.ref t,.bl al]∧H t=some (.tup b.v)∧Zlu b gv tk∧
 ∀(p:Addr)(H':Hp)(x y:Nat),H p=none→Zd H H'→H' p=some (.tup [.int x,.int y])→(if al=true then x=gv / Nat.gcd gv tk∧y=tk / Nat.gcd gv tk else x=tk / Nat.gcd tk gv∧y=gv / Nat.gcd tk gv)→Q (.ref p) H'
section
variable {P:Program}{w:World}{K:PySem.W.Frag}{mg:Str→Option Value}{base:Heap}
theorem ZjT(T:Tp K mg):Zk P w K mg base (CXX P w) 3 T.f_gain T.d_gain ["row","along"] (Zf2 T):=by
 have G_ratio:Zk P w K mg base (CXX P w) 2 T.f_ratio T.d_ratio ["top","bottom"] (Zcs T):=(Zen T).mono (by decide);refine T.F_gain.okX ZjF (fun vs H Q E h=>?_) (fun cdv A outer s H vs Q E hr h=>?_)
 ·obtain⟨t,b,al,gv,tk,rfl,_⟩:=h
  rfl
 ·have hu:=hr.units;obtain⟨t,b,al,gv,tk,rfl,ht,sz,q⟩:=h;obtain⟨g,tt,g0,t0,gl,tl⟩:=sz;dsimp only[B5.v] at ht;rw[g,tt] at ht;have big:(2:Nat) ^ 110≤2 ^ 8000:=Nat.pow_le_pow_right (by decide) (by decide);refine⟨_,(Zg (Zx (Zig (Yd (K:=K) rfl (pv 1) (fun _=>rfl)) (Zw G_ratio hr rfl T.m_ratio T.F_ratio.kp T.b_ratio .nil Zm (Za (Zo (ZA (K:=K) rfl) (pv 0) Zh (fun _ _=>rfl)) (Za (Zo (ZA (K:=K) rfl) (pv 0) Zh (fun _ _=>rfl)) Zb))) (Zw G_ratio hr rfl T.m_ratio T.F_ratio.kp T.b_ratio .nil Zm (Za (Zo (ZA (K:=K) rfl) (pv 0) Zh (fun _ _=>rfl)) (Za (Zo (ZA (K:=K) rfl) (pv 0) Zh (fun _ _=>rfl)) Zb)))))),?_⟩
  try dsimp only[L2.cxX,L2.ZP,L2.Zl]
  walk_at "rds";unfold tIf;walk_at "rds";cases al with
  |true=>
   walk_at "rds";exact⟨gv,tk,rfl,t0,Nat.lt_of_lt_of_le tl big,fun p H' hp s h=>q p H' _ _ hp s h ⟨rfl,rfl⟩⟩
  |false=>
   walk_at "rds";exact⟨tk,gv,rfl,g0,Nat.lt_of_lt_of_le gl big,fun p H' hp s h=>q p H' _ _ hp s h ⟨rfl,rfl⟩⟩
end
def Uf{K:PySem.W.Frag}{mg:Str→Option Value}(T:Tp K mg):Sp:=fun vs H Q _=>∃i:Int,vs=[.int i]∧Q (.bl true) H
theorem ZfN{K:PySem.W.Frag}{mg:Str→Option Value}{T:Tp K mg}{H:Hp}{Q:VK}{E:XK}{i:Int}(q:Q (.bl true) H):Uf T ([.int i]++ []) H Q E:=⟨i,rfl,q⟩
local macro_rules| `(tactic|walk_at "rd")=>`(tactic|first|((with_reducible show Nm.Uf _ _ _ _ _);with_reducible refine Nm.ZfN ?_)|fail "none here")
section
variable {P:Program}{w:World}{K:PySem.W.Frag}{mg:Str→Option Value}{base:Heap}
theorem ZfJ(T:Tp K mg):Zk P w K mg base (CXX P w) 1 T.f_is_whole T.d_is_whole ["thing"] (Uf T):=by
 refine T.F_is_whole.okX Zfm (fun vs H Q E h=>?_) (fun cdv A outer s H vs Q E hr h=>?_)
 ·obtain⟨i,rfl,_⟩:=h
  rfl
 ·have hu:=hr.units;obtain⟨i,rfl,q⟩:=h;refine⟨_,(Zg (Zx (Zax (ZB (Zgj (K:=K) rfl) (by rfl) T.n_isinstance PyProof.Rows.boot_isinstance (Za (pv 0) (Za (ZbN (v:= .ty "int") (by rfl) T.n_int PyProof.Rows.boot_int rfl) Zb))) (Zav (ZhK (ZB (Zgj (K:=K) rfl) (by rfl) T.n_isinstance PyProof.Rows.boot_isinstance (Za (pv 0) (Za (ZbN (v:= .ty "bool") (by rfl) T.n_bool PyProof.Rows.boot_bool rfl) Zb)))))))),?_⟩
  try dsimp only[L2.cxX,L2.ZP,L2.Zl]
  walk_at "rds";exact q
end
def W2{K:PySem.W.Frag}{mg:Str→Option Value}(T:Tp K mg):Sp:=fun vs H Q _=>∃i l:Int,vs=[.int i,.int l]∧Q (.bl (decide (l≤i))) H
theorem ZgD{K:PySem.W.Frag}{mg:Str→Option Value}{T:Tp K mg}{H:Hp}{Q:VK}{E:XK}{i l:Int}(q:Q (.bl (decide (l≤i))) H):W2 T ([.int i,.int l]++ []) H Q E:=⟨i,l,rfl,q⟩
local macro_rules| `(tactic|walk_at "rd")=>`(tactic|first|((with_reducible show Nm.W2 _ _ _ _ _);with_reducible refine Nm.ZgD ?_)|fail "none here")
section
variable {P:Program}{w:World}{K:PySem.W.Frag}{mg:Str→Option Value}{base:Heap}
theorem ZaK(T:Tp K mg):Zk P w K mg base (CXX P w) 2 T.f_is_from T.d_is_from ["thing","least"] (W2 T):=by
 have G_is_whole:Zk P w K mg base (CXX P w) 1 T.f_is_whole T.d_is_whole ["thing"] (Uf T):=(ZfJ T).mono (by decide);refine T.F_is_from.okX Zg0 (fun vs H Q E h=>?_) (fun cdv A outer s H vs Q E hr h=>?_)
 ·obtain⟨i,l,rfl,_⟩:=h
  rfl
 ·have hu:=hr.units;obtain⟨i,l,rfl,q⟩:=h;refine⟨_,(Zg (Zx (Zax (Zw G_is_whole hr rfl T.m_is_whole T.F_is_whole.kp T.b_is_whole .nil Zm (Za (pv 0) Zb)) (Zav (W7 Zeg (pv 0) (pv 1) (ZE _)))))),?_⟩
  try dsimp only[L2.cxX,L2.ZP,L2.Zl]
  walk_at "rds";exact q
end
def Yx{K:PySem.W.Frag}{mg:Str→Option Value}(T:Tp K mg):Sp:=fun vs H Q _=>∃i b:Int,vs=[.int i,.int b]∧Q (.bl (decide (0≤i∧i<b))) H
theorem Zbj{K:PySem.W.Frag}{mg:Str→Option Value}{T:Tp K mg}{H:Hp}{Q:VK}{E:XK}{i b:Int}(q:Q (.bl (decide (0≤i∧i<b))) H):Yx T ([.int i,.int b]++ []) H Q E:=⟨i,b,rfl,q⟩
local macro_rules| `(tactic|walk_at "rd")=>`(tactic|first|((with_reducible show Nm.Yx _ _ _ _ _);with_reducible refine Nm.Zbj ?_)|fail "none here")
section
variable {P:Program}{w:World}{K:PySem.W.Frag}{mg:Str→Option Value}{base:Heap}
theorem Ui(T:Tp K mg):Zk P w K mg base (CXX P w) 3 T.f_is_number_below T.d_is_number_below ["thing","bound"] (Yx T):=by
 have G_is_from:Zk P w K mg base (CXX P w) 2 T.f_is_from T.d_is_from ["thing","least"] (W2 T):=(ZaK T).mono (by decide);refine T.F_is_number_below.okX Zbs (fun vs H Q E h=>?_) (fun cdv A outer s H vs Q E hr h=>?_)
 ·obtain⟨i,b,rfl,_⟩:=h
  rfl
 ·have hu:=hr.units;obtain⟨i,b,rfl,q⟩:=h;refine⟨_,(Zg (Zx (Zax (Zw G_is_from hr rfl T.m_is_from T.F_is_from.kp T.b_is_from .nil Zm (Za (pv 0) (Za Zh Zb))) (Zav (W7 UP (pv 0) (pv 1) (ZE _)))))),?_⟩
  try dsimp only[L2.cxX,L2.ZP,L2.Zl]
  walk_at "rds";refine Vp (fun c=>?_) (fun c=>?_)
  ·have c':0≤i:=of_decide_eq_true c;walk_at "rds";have e:decide (i<b)=decide (0≤i∧i<b):=by rw[decide_eq_decide];exact⟨fun z=>⟨c',z⟩,fun z=>z.2⟩
   rw[e];exact q
  ·have c':¬0≤i:=fun z=>c (decide_eq_true z);walk_at "rds";have e:false=decide (0≤i∧i<b):=(decide_eq_false (fun z=>c' z.1)).symm;rw[e];exact q
end
def UF{K:PySem.W.Frag}{mg:Str→Option Value}(T:Tp K mg):Sp:=fun vs H Q E=>∃(p:Addr)(i:Int)(hl:HM)(fp:List Addr),vs=[.ref p,.int i]∧Zy T H p hl fp∧
 (¬(0≤i∧i<hl.belts.length)→E (.ref T.X_NoBelt) none H)∧(0≤i→i<hl.belts.length→Q .non H)
section
variable {P:Program}{w:World}{K:PySem.W.Frag}{mg:Str→Option Value}{base:Heap}
theorem ZbZ(T:Tp K mg):Zk P w K mg base (CXX P w) 4 T.f_Hall_need_belt T.d_Hall_need_belt ["self","belt"] (UF T):=by
 have G_is_number_below:Zk P w K mg base (CXX P w) 3 T.f_is_number_below T.d_is_number_below ["thing","bound"] (Yx T):=(Ui T).mono (by decide);have cl_Hall:=T.cl_Hall;have na_Hall:=T.na_Hall;refine T.F_Hall_need_belt.okX Zb0 (fun vs H Q E h=>?_) (fun cdv A outer s H vs Q E hr h=>?_)
 ·obtain⟨p,i,hl,fp,rfl,_⟩:=h
  rfl
 ·have hu:=hr.units;obtain⟨p,i,hl,fp,rfl,hh,e1,q⟩:=h;obtain⟨dx,a,b,bs,rfl,h1,h2,h3,h4,nab,h6⟩:=id hh;refine⟨_,(Zg (ZV (Wz (Yd (K:=K) rfl (Zw G_is_number_below hr rfl T.m_is_number_below T.F_is_number_below.kp T.b_is_number_below .nil Zm (Za (pv 1) (Za (ZB (Y2 (K:=K) rfl) (by rfl) T.n_len PySem.boot_len (Za (ZW (K:=K) rfl (pv 0) rfl) Zb)) Zb))) (fun _=>rfl))) (Zg (YQ T.gx_NoBelt T.ex_NoBelt PySem.F.excBase_ValueError rfl (Za Yb Zb))) ZJ)),?_⟩
  try dsimp only[L2.cxX,L2.ZP,L2.Zl]
  walk_at "rds";rw[h6.length]
  by_cases c:0≤i∧i<hl.belts.length
  ·rw[decide_eq_true c];walk_at "rds";exact q c.1 c.2
  ·rw[decide_eq_false c];walk_at "rds";exact e1 c
end
def YC{K:PySem.W.Frag}{mg:Str→Option Value}(T:Tp K mg):Sp:=fun vs H Q E=>∃(p:Addr)(i:Int)(hl:HM)(fp:List Addr),vs=[.ref p,.int i]∧Zy T H p hl fp∧
 (¬(0≤i∧i<hl.belts.length)→E (.ref T.X_NoBelt) none H)∧(0≤i→i<hl.belts.length→∀(t:Addr)(b:B5),hl.belts[i.toNat]? =some b→H t=some (.tup b.v)→Q (.ref t) H)
section
variable {P:Program}{w:World}{K:PySem.W.Frag}{mg:Str→Option Value}{base:Heap}
theorem Wa(T:Tp K mg):Zk P w K mg base (CXX P w) 5 T.f_Hall_belt_at T.d_Hall_belt_at ["self","belt"] (YC T):=by
 have G_Hall_need_belt:Zk P w K mg base (CXX P w) 4 T.f_Hall_need_belt T.d_Hall_need_belt ["self","belt"] (UF T):=(ZbZ T).mono (by decide);have cl_Hall:=T.cl_Hall;have na_Hall:=T.na_Hall;refine T.F_Hall_belt_at.okX Zc6 (fun vs H Q E h=>?_) (fun cdv A outer s H vs Q E hr h=>?_)
 ·obtain⟨p,i,hl,fp,rfl,_⟩:=h
  rfl
 ·have hu:=hr.units;obtain⟨p,i,hl,fp,rfl,hh,e1,q⟩:=h;obtain⟨dx,a,b,bs,rfl,h1,h2,h3,h4,nab,h6⟩:=id hh;refine⟨_,(Zc (ZX (ZY (pv 0) T.cl_Hall T.M_Hall_need_belt G_Hall_need_belt hr T.b_Hall_need_belt .nil Zm (Za (pv 1) Zb)))
     (Zg (Zx (Zo (ZA (K:=K) rfl) (ZW (K:=K) rfl (pv 0) rfl) (pv 1) (fun _ _=>rfl))))),?_⟩
  try dsimp only[L2.cxX,L2.ZP,L2.Zl]
  walk_at "rds";refine⟨p,i,hl,_,rfl,hh,e1,fun i0 i1=>?_⟩;have hi:i.toNat<hl.belts.length:=by omega
  have ei:=List.getElem?_eq_getElem hi;obtain⟨t,ht1,ht2⟩:=h6.at ei;have at1:atI bs i=some (.ref t):=by
   have:=Wf ht1
   rwa [Int.toNat_of_nonneg i0] at this
  walk_at "rds";exact q i0 i1 t _ ei ht2
end
def ZbC{K:PySem.W.Frag}{mg:Str→Option Value}(T:Tp K mg):Sp:=fun vs H Q _=>∃(p d:Addr)(hl:HM)(fp:List Addr)(kvs:List (Key×V))(tr:Fo.ZG)(first:Int),vs=[.ref p,.ref d]∧Zy T H p hl fp∧d∉fp∧L2.Rd H d (.dK kvs)∧Ent H kvs tr∧Fo.Z2 (Z9 hl.belts) first tr∧tr.length≤60∧YH hl.belts∧
 ∀(e:Addr)(o:Obj)(H':Hp)(kv2:List (Key×V))(zs:List (Int×(Nat×Nat))),H e=none→Zd (upd H d (.frz o (.dK kvs))) H'→H' e=some (.dK kv2)→ShE H' kv2 zs→Y8 hl.belts tr zs tr.length→Q (.ref e) H'
section
variable {P:Program}{w:World}{K:PySem.W.Frag}{mg:Str→Option Value}{base:Heap}
theorem Zeu(T:Tp K mg):Zk P w K mg base (CXX P w) 6 T.f_shares_of T.d_shares_of ["hall","tree"] (ZbC T):=by
 have G_times:Zk P w K mg base (CXX P w) 5 T.f_times T.d_times ["one","other"] (Zet T):=(ZiX T).mono (by decide);have G_gain:Zk P w K mg base (CXX P w) 5 T.f_gain T.d_gain ["row","along"] (Zf2 T):=(ZjT T).mono (by decide);have G_Hall_belt_at:Zk P w K mg base (CXX P w) 5 T.f_Hall_belt_at T.d_Hall_belt_at ["self","belt"] (YC T):=(Wa T).mono (by decide);have cl_Hall:=T.cl_Hall;have na_Hall:=T.na_Hall;refine T.F_shares_of.okX VB (fun vs H Q E h=>?_) (fun cdv A outer s H vs Q E hr h=>?_)
 ·obtain⟨p,d,hl,fp,kvs,tr,first,rfl,_⟩:=h
  rfl
 ·have hu:=hr.units;obtain⟨p,d,hl,fp,kvs,tr,first,rfl,hh,ndf,hd,hen,hg,htl,hsz,q⟩:=h;have hkl:=hen.length;refine⟨_,(Zc (Zt (i:=2) VB.nd rfl (Or.inl rfl) U5)
     (Zc (Y1 PassesOwn.leaving rfl (ZeM (pv 1)) (YX (K:=K) (n:=2) rfl rfl (ZI (Zp (i:=3) VB.nd rfl (Or.inl rfl)) (ZI (Zp (i:=4) VB.nd rfl (Or.inl rfl)) YW))) (Zg (ZV (ZC ZcW (pv 4) Vf (ZE _)) (Zg (WT (YJ (Za Zh (Za Zh Zb))) (VS (pv 2) (pv 3) (UX hu)))) (Zg (WT (Zw G_times hr rfl T.m_times T.F_times.kp T.b_times .nil Zm (Za (Zo (UV hu) (pv 2) (Zo (ZA (K:=K) rfl) (pv 4) Zh (fun _ _=>rfl)) (fun _ _=>rfl)) (Za (Zw G_gain hr rfl T.m_gain T.F_gain.kp T.b_gain .nil Zm (Za (ZY (pv 0) T.cl_Hall T.M_Hall_belt_at G_Hall_belt_at hr T.b_Hall_belt_at .nil Zm (Za (Zo (ZA (K:=K) rfl) (pv 4) Zh (fun _ _=>rfl)) Zb)) (Za (Zo (ZA (K:=K) rfl) (pv 4) Zh (fun _ _=>rfl)) Zb))) Zb))) (VS (pv 2) (pv 3) (UX hu)))))))
     (Zg (Zx (pv 2))))),?_⟩
  try dsimp only[L2.cxX,L2.ZP,L2.Zl]
  walk_at "rds";intro e he;have nde:d≠e:=fun z=>Zdc hd (by rw[z];exact he);have s1:Zd H (upd H e (.dK [])):=Zn he;have he1:(upd H e (.dK [])) e=some (.dK []):=Zf;have hd1:L2.Rd (upd H e (.dK [])) d (.dK kvs):=by
   rcases hd with h|⟨o,h⟩
   ·exact .inl (s1 _ _ h)
   ·exact .inr ⟨o,s1 _ _ h⟩
  generalize upd H e (.dK [])=H1 at*;walk_at "rds";refine Rd.Zh8 ?_;walk_at "rds";refine⟨d,kvs,rfl,hd1,fun o=>?_⟩;have fr1:=U0 (o:=o) hd;have hh3:Zy T (upd H d (.frz o (.dK kvs))) p hl fp:=hh.off fr1 (fun x hx z=>ndf (by rw[←List.mem_singleton.mp z];exact hx));have hen3:Ent (upd H d (.frz o (.dK kvs))) kvs tr:=hen.keep fr1.tups;have he3:(upd H d (.frz o (.dK kvs))) e=none:=by rw[Ze nde.symm];exact he
  have s3:Zd (upd H d (.frz o (.dK kvs))) (upd H1 d (.frz o (.dK kvs))):=fun b x eb=>by
   by_cases z:b=d
   ·rw[z,Zf] at eb⊢;exact eb
   ·rw[Ze z] at eb⊢;exact s1 _ _ eb
  have hd3:(upd H d (.frz o (.dK kvs))) d=some (.frz o (.dK kvs)):=Zf;have he4:(upd H1 d (.frz o (.dK kvs))) e=some (.dK []):=by rw[Ze nde.symm];exact he1
  have qq:=fun H' kv2 zs=>q e o H' kv2 zs he;generalize upd H1 d (.frz o (.dK kvs))=H4 at*;generalize upd H d (.frz o (.dK kvs))=H3 at*;clear q hd1 he1 s1 fr1;refine Vt (Zb4 hd3) (fun i σ H'=>∃(kv2:List (Key×V))(zs:List (Int×(Nat×Nat)))(a1 a2:Option V),σ=[some (.ref p),some (.ref d),some (.ref e),a1,a2]∧Zd H3 H'∧H' e=some (.dK kv2)∧ShE H' kv2 zs∧Y8 hl.belts tr zs i∧kv2.length≤i)
   ⟨[],[],_,_,rfl,s3,he4,.nil,Zjb,Nat.le_refl _⟩ (fun i σ H' ⟨_,_,_,_,_,s,_⟩=>s) ?_ ?_
  ·rintro i σ H5 v H6 hi ⟨kv2,zs,a1,a2,rfl,s5,he5,hsh,hgs,hk2⟩ ⟨t,kv,hkv,ht,rfl,rfl⟩;obtain⟨w,st,htr,ek,hst⟩:=Zkh hen3 hkv;have hil:i<tr.length:=(List.getElem?_eq_some_iff.mp htr).1;have hzl:=hgs.len (Nat.le_of_lt hil);have hknd:w∉zs.map (·.1):=by
    rw[hgs.keys];intro hm;obtain⟨j,hj,e2⟩:=List.getElem_of_mem hm;rw[List.getElem_take] at e2;have hjl:j<i:=by rw[List.length_take] at hj;omega
    have hjk:j<(Fo.keys tr).length:=by rw[List.length_take] at hj;omega
    have hik:i<(Fo.keys tr).length:=by simp[Fo.keys];exact hil
    have ei:(Fo.keys tr)[i]=w:=by
     have:(Fo.keys tr)[i]? =some w:=by unfold Fo.keys;rw[List.getElem?_map,htr];rfl
     rw[List.getElem?_eq_getElem hik] at this;exact Option.some.inj this
    have:=ZbF hg.nodup hjk hik (e2.trans ei.symm);omega
   obtain⟨k,val⟩:=kv;dsimp only at ek hst;subst ek;refine Rd.VL (.of Zf) rfl ?_;have su:Zd H5 (upd H5 t (.tup [kV (Sum.inl w),val])):=Zn ht;have s6:=s5.trans su;have he6:=su _ _ he5;have hsh6:ShE (upd H5 t (.tup [kV (Sum.inl w),val])) kv2 zs:=hsh.keep fun _ _ e=>su _ _ e;generalize upd H5 t (.tup [kV (Sum.inl w),val])=H6 at*;have ekw:kV (Sum.inl w)= .int w:=rfl;rw[ekw];have hkz:kv2.length<sizeLine:=Zs (by omega);have hno:=hsh6.none hknd;walk_at "rds";refine⟨rfl,?_⟩;cases st with
   |none=>
    have ev:val= .non:=hst;subst ev;walk_at "rds";refine⟨by show 2≤sizeLine;decide,fun t2 ht2=>?_⟩;have s7:Zd H6 (upd H6 t2 (.tup [.int 1,.int 1])):=Zn ht2;have h7:(upd H6 t2 (.tup [.int 1,.int 1])) t2=some (.tup [.int 1,.int 1]):=Zf;have he7:=s7 _ _ he6;have hsh7:ShE (upd H6 t2 (.tup [.int 1,.int 1])) kv2 zs:=hsh6.keep fun _ _ e=>s7 _ _ e;generalize upd H6 t2 (.tup [.int 1,.int 1])=H7 at*;walk_at "rds";rw[Vk _ hno];have tk8:∀a xs,H7 a=some (.tup xs)→(upd H7 e (.dK (kv2++ [(Sum.inl w,.ref t2)]))) a=some (.tup xs):=fun a xs ea=>by rw[Ze (YD ea he7 (by intro z;cases z))];exact ea
    refine⟨_,zs++ [(w,(1,1))],_,_,rfl,(s6.trans s7).new he3,Zf,(hsh7.keep tk8).snoc (x:=(1,1)) (tk8 _ _ h7),hgs.more hil htr ⟨by decide,by decide,by decide⟩ ⟨?_,?_⟩ (fun _=>rfl) (fun p b al z=>by cases z),by simp;omega⟩
    ·exact Nat.lt_of_lt_of_le (by decide:(1:Nat)<2 ^ 1) (Nat.pow_le_pow_right (by decide) (by omega))
    ·exact Nat.lt_of_lt_of_le (by decide:(1:Nat)<2 ^ 1) (Nat.pow_le_pow_right (by decide) (by omega))
   |some x=>
    obtain⟨pw,b,al⟩:=x;obtain⟨t2,ev,ht2⟩:=hst;subst ev;have ht6:=s6 _ _ ht2;obtain⟨hway,j,sj,hj,htj⟩:=hg.steps i w pw b al htr;have hpm:pw∈zs.map (·.1):=by
     rw[hgs.keys];have hk:(Fo.keys tr)[j]? =some pw:=by unfold Fo.keys;rw[List.getElem?_map,htj];rfl
     have:((Fo.keys tr).take i)[j]? =some pw:=by rw[List.getElem?_take,if_pos hj];exact hk
     exact List.mem_of_getElem? this
    obtain⟨y,ty,hym,hval,hty⟩:=hsh6.get hpm;obtain⟨jy,hjy⟩:=List.getElem?_of_mem hym;have hjl:=(List.getElem?_eq_some_iff.mp hjy).1;obtain⟨y0,y1,yg⟩:=hgs.pos _ hym;obtain⟨ys1,ys2⟩:=hgs.size jy _ hjy;obtain⟨bi,hbi,hbm⟩:=V4 hway;have eb:b=(bi:Int):=by
     rw[WQ] at hbm;rcases hbm with⟨_,z⟩|⟨_,z⟩<;>(injection z with _ z2;injection z2)
    obtain⟨gv,tk,g0,t0,gl,tl,eg,et⟩:=hsz bi hbi;have hh6:=hh3.same s6;have dec:decide (V.ref t2=V.non)=false:=decide_eq_false (by intro z;cases z);rw[dec];walk_at "rds";refine⟨p,b,hl,fp,rfl,hh6,fun z=>absurd ⟨by omega,by omega⟩ z,fun _ _ tb B hB htB=>?_⟩;have eB:hl.belts.getD bi dB=B:=by
     rw[eb,Int.toNat_natCast] at hB;simp[List.getD,hB]
    rw[eB] at eg et;walk_at "rds";refine⟨tb,B,al,gv,tk,rfl,htB,⟨eg,et,g0,t0,gl,tl⟩,fun t3 H7 u v ht3 s7 h7 huv=>?_⟩;have hn:110*jy+1+110≤110*i+1:=by omega
    have huv2:∃G1 G2 M,G1=Nat.gcd M G2∧True:=⟨_,0,0,rfl,trivial⟩;have key:∃gA tA:Nat,0<gA∧0<tA∧gA<2 ^ 110∧tA<2 ^ 110∧u=gA / Nat.gcd gA tA∧v=tA / Nat.gcd gA tA∧(∀x:Nat×Nat,x.1*y.2*tA=y.1*x.2*gA→Bal B al x y):=by
     cases al with
     |true=>
      rw[if_pos rfl] at huv;refine⟨gv,tk,g0,t0,gl,tl,huv.1,huv.2,fun x hx=>?_⟩;unfold Bal;rw[if_pos rfl,eg,et,Int.toNat_natCast,Int.toNat_natCast];exact hx
     |false=>
      rw[if_neg (by decide)] at huv;refine⟨tk,gv,t0,g0,tl,gl,huv.1,huv.2,fun x hx=>?_⟩;unfold Bal;rw[if_neg (by decide),eg,et,Int.toNat_natCast,Int.toNat_natCast];exact hx
    clear huv huv2;obtain⟨gA,tA,gA0,tA0,gAl,tAl,eu,ev,hbal⟩:=key;have ul:u<2 ^ 110:=by rw[eu];exact Nat.lt_of_le_of_lt (Nat.div_le_self _ _) gAl
    have vl:v<2 ^ 110:=by rw[ev];exact Nat.lt_of_le_of_lt (Nat.div_le_self _ _) tAl
    have v0:0<v:=by
     rw[ev];exact Nat.div_pos (Nat.le_of_dvd tA0 (Nat.gcd_dvd_right _ _)) (Nat.gcd_pos_of_pos_left _ gA0)
    walk_at "rds";refine⟨ty,t3,y.1,y.2,u,v,110*jy+1,110,rfl,s7 _ _ hty,h7,y1,v0,ys1,ys2,ul,vl,by omega,fun t4 H8 ht4 s8 h8=>?_⟩;obtain⟨hp,hb1,hle1,hle2⟩:=ZgC (y:=y) (u:=(u,v)) (x:=(y.1*u / Nat.gcd (y.1*u) (y.2*v),y.2*v / Nat.gcd (y.1*u) (y.2*v))) (n:=0) y0 y1 gA0 tA0 eu ev rfl rfl rfl;have s68:=s7.trans s8;have he8:=s68 _ _ he6;have hsh8:ShE H8 kv2 zs:=hsh6.keep fun _ _ e=>s68 _ _ e;walk_at "rds";rw[Vk _ hno];have tk8:∀a xs,H8 a=some (.tup xs)→(upd H8 e (.dK (kv2++ [(Sum.inl w,.ref t4)]))) a=some (.tup xs):=fun a xs ea=>by rw[Ze (YD ea he8 (by intro z;cases z))];exact ea
    have sz1:y.1*gA<2 ^ (110*i+1):=Nat.lt_of_lt_of_le (VE ys1 gAl) (Nat.pow_le_pow_right (by decide) hn);have sz2:y.2*tA<2 ^ (110*i+1):=Nat.lt_of_lt_of_le (VE ys2 tAl) (Nat.pow_le_pow_right (by decide) hn);refine⟨_,zs++ [(w,(y.1*u / Nat.gcd (y.1*u) (y.2*v),y.2*v / Nat.gcd (y.1*u) (y.2*v)))],_,_,rfl,(s6.trans s68).new he3,Zf,(hsh8.keep tk8).snoc (tk8 _ _ h8),hgs.more hil htr hp ⟨Nat.lt_of_le_of_lt hle1 sz1,Nat.lt_of_le_of_lt hle2 sz2⟩ (fun z=>by cases z) (fun p' b' al' z=>?_),by simp;omega⟩;cases z;refine⟨jy,y,hjy,?_⟩;rw[eb,Int.toNat_natCast,eB];exact hbal _ hb1
  ·rintro σ H5 ⟨kv2,zs,a1,a2,rfl,s5,he5,hsh,hgs,hk2⟩;rw[hkl] at hgs;walk_at "rds";exact qq H5 kv2 zs s5 he5 hsh hgs
end
def Zb6{K:PySem.W.Frag}{mg:Str→Option Value}(T:Tp K mg):Sp:=fun vs H Q _=>∃a b n:Nat,vs=[.int a,.int b]∧0<b∧b<2 ^ 8000∧a<2 ^ n∧n≤1000000∧Q (.int (a / Nat.gcd a b*b:Nat)) H
section
variable {P:Program}{w:World}{K:PySem.W.Frag}{mg:Str→Option Value}{base:Heap}
theorem Zfn(T:Tp K mg):Zk P w K mg base (CXX P w) 2 T.f_multiple T.d_multiple ["one","other"] (Zb6 T):=by
 have G_divisor:Zk P w K mg base (CXX P w) 1 T.f_divisor T.d_divisor ["one","other"] (VA T):=(ZcT T).mono (by decide);refine T.F_multiple.okX Zfk (fun vs H Q E h=>?_) (fun cdv A outer s H vs Q E hr h=>?_)
 ·obtain⟨a,b,n,rfl,_⟩:=h
  rfl
 ·have hu:=hr.units;obtain⟨a,b,n,rfl,b0,b1,hn,hn2,q⟩:=h;have gp:0<Nat.gcd a b:=Nat.gcd_pos_of_pos_right _ b0;have gl:Nat.gcd a b<2 ^ 8000:=Nat.lt_of_le_of_lt (Nat.le_of_dvd b0 (Nat.gcd_dvd_right a b)) b1;have dg:=Zis (a:=a) gp gl;have da:a / Nat.gcd a b<2 ^ n:=Nat.lt_of_le_of_lt (Nat.div_le_self _ _) hn;have mo:IntMulOk ((a:Int) / (Nat.gcd a b:Nat)) (b:Int):=ZaL (a:=a / Nat.gcd a b) da b1 (by omega);refine⟨_,(Zg (Zx (ZL WG (ZL Vl (pv 0) (Zw G_divisor hr rfl T.m_divisor T.F_divisor.kp T.b_divisor .nil Zm (Za (pv 0) (Za (pv 1) Zb)))) (pv 1)))),?_⟩
  try dsimp only[L2.cxX,L2.ZP,L2.Zl]
  walk_at "rds";exact q
end
def Zb7{K:PySem.W.Frag}{mg:Str→Option Value}(T:Tp K mg):Sp:=fun vs H Q _=>∃(p f:Addr)(hl:HM)(fp ds:List Addr)(F:List (Int×Fo.ZG)),vs=[.ref p,.ref f]∧Zy T H p hl fp∧H f=some (.lst (ds.map V.ref))∧YG H ds F∧(∀d∈ds,d∉fp)∧(∀d∈ds,d≠f)∧Fo.WM (Z9 hl.belts) hl.names.length F hl.names.length∧ZH hl.belts hl.names.length∧hl.names.length≤60∧YH hl.belts∧
 ∀(r:Addr)(H':Hp)(rs:List Int),H r=none→ZM ds H H'→YG H' ds F→H' r=some (.lst (rs.map V.int))→rs.length=hl.names.length→(∀x∈F,ZaJ hl.belts x rs)→Q (.ref r) H'
section
variable {P:Program}{w:World}{K:PySem.W.Frag}{mg:Str→Option Value}{base:Heap}
theorem Zfo(T:Tp K mg):Zk P w K mg base (CXX P w) 7 T.f_rates_by T.d_rates_by ["hall","forest"] (Zb7 T):=by
 have G_shares_of:Zk P w K mg base (CXX P w) 6 T.f_shares_of T.d_shares_of ["hall","tree"] (ZbC T):=(Zeu T).mono (by decide);have G_multiple:Zk P w K mg base (CXX P w) 6 T.f_multiple T.d_multiple ["one","other"] (Zb6 T):=(Zfn T).mono (by decide);have G_Hall_names:Zk P w K mg base (CXX P w) 6 T.f_Hall_names T.d_Hall_names ["self"] (UC T):=(Za4 T).mono (by decide);have cl_Hall:=T.cl_Hall;have na_Hall:=T.na_Hall;refine T.F_rates_by.okX Yv (fun vs H Q E h=>?_) (fun cdv A outer s H vs Q E hr h=>?_)
 ·obtain⟨p,f,hl,fp,ds,F,rfl,_⟩:=h
  rfl
 ·have hu:=hr.units;obtain⟨p,f,hl,fp,ds,F,rfl,hh,hf,hT,hdf,hdn,hwd,hbt,hn,hsz,q⟩:=h;have hdl:=hT.length;refine⟨_,(Zc (ZbW (j:=2) rfl (Yi (x:="name") (zs:=[]) (ix:=[]) (Zi VR) ["hall","forest","rates","tree","shares","common","share","work"] rfl rfl (by decide+kernel)) (Z6 (K:=K) rfl (Vn (pv 0) T.cl_Hall T.M_Hall_names G_Hall_names hr T.b_Hall_names .nil Zm)) (fun cl C s H fp=>⟨(Zp (i:=0) (show(["name"]:List Str).Nodup by decide+kernel) rfl (Or.inl rfl)),Ye,Zh⟩) Yv.nd rfl (Or.inl rfl))
     (Zc (Y1 PassesOwn.leaving rfl (Z6 (K:=K) rfl (pv 1)) (Zp (i:=3) Yv.nd rfl (Or.inl rfl)) (Zc (Zt (i:=4) Yv.nd rfl (Or.inl rfl) (Zw G_shares_of hr rfl T.m_shares_of T.F_shares_of.kp T.b_shares_of .nil Zm (Za (pv 0) (Za (pv 3) Zb))))
     (Zc (Zt (i:=5) Yv.nd rfl (Or.inl rfl) Zh)
     (Zc (Y1 PassesOwn.leaving rfl (ZjJ (pv 4)) (Zp (i:=6) Yv.nd rfl (Or.inl rfl)) (Zg (Zt (i:=5) Yv.nd rfl (Or.inl rfl) (Zw G_multiple hr rfl T.m_multiple T.F_multiple.kp T.b_multiple .nil Zm (Za (pv 5) (Za (Zo (ZA (K:=K) rfl) (pv 6) Zh (fun _ _=>rfl)) Zb))))))
     (Zg (Y1 PassesOwn.leaving rfl (ZeM (pv 4)) (YX (K:=K) (n:=2) rfl rfl (ZI (Zp (i:=7) Yv.nd rfl (Or.inl rfl)) (ZI (Zp (i:=6) Yv.nd rfl (Or.inl rfl)) YW))) (Zg (WT (ZL WG (ZL Vl (pv 5) (Zo (ZA (K:=K) rfl) (pv 6) Zh (fun _ _=>rfl))) (Zo (ZA (K:=K) rfl) (pv 6) Zh (fun _ _=>rfl))) (VS (pv 2) (pv 7) Vo)))))))))
     (Zg (Zx (pv 2))))),?_⟩
  try dsimp only[L2.cxX,L2.ZP,L2.Zl]
  walk_at "rds";refine⟨p,hl,fp,rfl,hh,fun nm H1 hnm s1 hnm1=>?_⟩;walk_at "rds";refine YU (ZZ (SqL.of hnm1)) (Zs (by rw[List.length_map];omega)) (fun _=>true) (fun _=> .int 1) (fun i H' Kc hi sm k=>?_) (fun i H' Kc hi _ sm k=>?_) (fun r H2 hr s2 hr2=>?_)
  ·walk_at "rds";exact k H' (Zd.refl H')
  ·walk_at "rds";exact k H' (Zd.refl H')
  have hr3:H2 r=some (.lst ((List.replicate hl.names.length (1:Int)).map V.int)):=by
   rw[hr2,List.filter_eq_self.mpr (by simp),List.length_map];refine congrArg (fun z=>some (HO.lst z)) ?_;refine List.ext_getElem (by simp) fun i h1 h2=>?_;simp
  clear hr2;have s12:=s1.trans s2;have hr0:H r=none:=ZK s1 hr;have hf2:=s12 _ _ hf;have hrd:∀d∈ds,r≠d:=fun d hd z=>by
   obtain⟨i,hi,rfl⟩:=List.getElem_of_mem hd;obtain⟨x,_,kvs,a,_⟩:=Paired.get' hT (List.getElem?_eq_getElem hi);exact Zdc a (by rw[←z];exact hr0)
  have nfr:f≠r:=Zj hf hr0;walk_at "rds";refine V5 (ZZ (SqL.of (ZbH (q:=f) (o:= .lst (ds.map V.ref))))) (fun i σ H'=>∃(rs:List Int)(a1 a2 a3 a4 a5:Option V),σ=[some (.ref p),some (.ref f),some (.ref r),a1,a2,a3,a4,a5]∧ZM ds H H'∧YG H' ds F∧H' f=some (.lst (ds.map V.ref))∧H' r=some (.lst (rs.map V.int))∧rs.length=hl.names.length∧∀(k:Nat) x,k<i→F[k]? =some x→ZaJ hl.belts x rs)
   ⟨_,_,_,_,_,_,rfl,s12.frame,hT.same s12,hf2,hr3,by simp,fun k x hk=>absurd hk (Nat.not_lt_zero _)⟩ ?_ ?_ ?_
  ·rintro i σ H' ⟨_,_,_,_,_,_,_,_,_,h,_⟩;exact Zbp h
  ·rintro i σ H3 hi ⟨rs,a1,a2,a3,a4,a5,rfl,fr3,hT3,hf3,hr3,hrl,hset⟩;have hi':i<ds.length:=by simpa using hi
   have ei:(ds.map V.ref).getD i .non= .ref ds[i]:=by simp[List.getD,hi']
   rw[ei];obtain⟨x,hx,kvs,hd,hen⟩:=Paired.get' hT3 (List.getElem?_eq_getElem hi');have hdm:=List.getElem_mem hi';generalize ds[i]=d at*;obtain⟨g,gg,g0,g1⟩:=hwd.tree x (List.mem_of_getElem? hx);have hkrg:=g.rg ⟨g0,g1⟩ (V8 hbt);have htl:x.2.length≤60:=by
    have:=Fo.UA (n:=hl.names.length) g.nodup hkrg;simp[Fo.keys] at this;omega
   have hh3:=hh.off fr3 (fun y hy z=>hdf y z hy);walk_at "rds";refine⟨p,d,hl,fp,kvs,x.2,x.1,rfl,hh3,hdf d hdm,hd,hen,g,htl,hsz,fun e o H4 kv2 zs he s4 he4 hsh hgs=>?_⟩;have fr4:ZM ds H H4:=fr3.trans (((U0 (o:=o) hd).mono (by intro y hy;rw[List.mem_singleton.mp hy];exact hdm)).trans s4.frame);have hT4:=(hT3.frz (o:=o) hd).same s4;have hf4:H4 f=some (.lst (ds.map V.ref)):=fr4.keep _ _ hf (fun z=>hdn f z rfl);have nrd:=hrd d hdm;have hr4:H4 r=some (.lst (rs.map V.int)):=s4 _ _ (by rw[Ze nrd];exact hr3);have ned:∀d'∈ds,e≠d':=fun d' hd' z=>by
    obtain⟨j,hj,rfl⟩:=List.getElem_of_mem hd';obtain⟨x',_,k',a,_⟩:=Paired.get' hT3 (List.getElem?_eq_getElem hj);exact Zdc a (by rw[←z];exact he)
   have ner:r≠e:=fun z=>by rw[z,he] at hr3;cases hr3
   have nef:f≠e:=fun z=>by rw[z,he] at hf3;cases hf3
   have he0:H e=none:=by
    cases ee:H e with
    |none=>rfl
    |some o'=>
     by_cases z:e∈ds
     ·exact absurd rfl (ned e z)
     ·rw[fr3.keep _ _ ee z] at he;cases he
   have hzl:=hgs.len (Nat.le_refl _);have hkl:=hsh.length;walk_at "rds";refine Rd.Zlo ?_;walk_at "rds";refine⟨e,kv2,rfl,.inl he4,fun o2=>?_⟩;have he5:(upd H4 e (.frz o2 (.dK kv2))) e=some (.frz o2 (.dK kv2)):=Zf;have tk5:∀a xs,H4 a=some (.tup xs)→(upd H4 e (.frz o2 (.dK kv2))) a=some (.tup xs):=(U0 (o:=o2) (.inl he4)).tups;have hsh5:=hsh.keep tk5;have hr5:(upd H4 e (.frz o2 (.dK kv2))) r=some (.lst (rs.map V.int)):=by rw[Ze ner];exact hr4
   have hf5:(upd H4 e (.frz o2 (.dK kv2))) f=some (.lst (ds.map V.ref)):=by rw[Ze nef];exact hf4
   have fr5:ZM ds H (upd H4 e (.frz o2 (.dK kv2))):=⟨fun b y eb n=>by rw[Ze (fun z=>by rw[z,he0] at eb;cases eb)];exact fr4.keep _ _ eb n,fun b xs eb=>tk5 _ _ (fr4.tups _ _ eb)⟩;have hT5:YG (upd H4 e (.frz o2 (.dK kv2))) ds F:=by
    refine UR hT4 fun d' x' hd' ⟨k,a,b⟩=>⟨k,?_,b.keep tk5⟩;have:=(ned d' hd').symm;rcases a with a|⟨o',a⟩
    ·exact .inl (by rw[Ze this];exact a)
    ·exact .inr ⟨o',by rw[Ze this];exact a⟩
   generalize upd H4 e (.frz o2 (.dK kv2))=H5 at*;refine Vt (Zg2 he5) (fun k σ H'=>H'=H5∧∃(C:Nat)(a4:Option V),σ=[some (.ref p),some (.ref f),some (.ref r),some (.ref d),some (.ref e),some (.int C),a4,a5]∧C=lcmL (zs.take k)∧C<2 ^ (6700*k+1)) ⟨rfl,1,_,rfl,rfl,by decide⟩ (fun i σ H' h=>h.1▸Zd.refl H5) ?_ ?_
   ·rintro k σ H6 v H7 hk ⟨rfl,C,a4,rfl,hC,hCs⟩ ⟨rfl,kv,hkv,rfl⟩;obtain⟨y,hy,_,t,et,ht⟩:=Paired.get' hsh5 hkv;rw[et];have hkz:k<zs.length:=(List.getElem?_eq_some_iff.mp hy).1;obtain⟨y0,y1,_⟩:=hgs.pos y (List.mem_of_getElem? hy);have ysz:=(hgs.size k y hy).2;have ys2:y.2.2<2 ^ 6700:=Nat.lt_of_lt_of_le ysz (Nat.pow_le_pow_right (by decide) (by omega));have et2:zs.take (k+1)=zs.take k++ [y]:=by rw[List.take_succ,hy];rfl
    walk_at "rds";refine⟨C,y.2.2,6700*k+1,rfl,y1,Nat.lt_of_lt_of_le ys2 (Nat.pow_le_pow_right (by decide) (by decide)),hCs,by omega,?_⟩;rw[Zi4];refine⟨rfl,_,_,rfl,by rw[et2,ZhA,hC],?_⟩;have:=Zh1 hCs ys2;have e3:6700*(k+1)+1=6700*k+1+6700:=by omega
    rw[e3];exact this
   ·rintro σ H6 ⟨rfl,C,a4,rfl,hC,hCs⟩;rw[hkl,List.take_length] at hC;walk_at "rds";refine Rd.Zh8 ?_;walk_at "rds";refine⟨e,kv2,rfl,.inr ⟨o2,he5⟩,fun o3=>?_⟩;have he7:(upd H6 e (.frz o3 (.dK kv2))) e=some (.frz o3 (.dK kv2)):=Zf;have tk7:∀a xs,H6 a=some (.tup xs)→(upd H6 e (.frz o3 (.dK kv2))) a=some (.tup xs):=(U0 (o:=o3) (.inr ⟨o2,he5⟩)).tups;have hsh7:=hsh5.keep tk7;have hr7:(upd H6 e (.frz o3 (.dK kv2))) r=some (.lst (rs.map V.int)):=by rw[Ze ner];exact hr5
    have hf7:(upd H6 e (.frz o3 (.dK kv2))) f=some (.lst (ds.map V.ref)):=by rw[Ze nef];exact hf5
    have fr7:ZM ds H (upd H6 e (.frz o3 (.dK kv2))):=⟨fun b y eb n=>by rw[Ze (fun z=>by rw[z,he0] at eb;cases eb)];exact fr5.keep _ _ eb n,fun b xs eb=>tk7 _ _ (fr5.tups _ _ eb)⟩;have hT7:YG (upd H6 e (.frz o3 (.dK kv2))) ds F:=by
     refine UR hT5 fun d' x' hd' ⟨k,a,b⟩=>⟨k,?_,b.keep tk7⟩;have:=(ned d' hd').symm;rcases a with a|⟨o',a⟩
     ·exact .inl (by rw[Ze this];exact a)
     ·exact .inr ⟨o',by rw[Ze this];exact a⟩
    generalize upd H6 e (.frz o3 (.dK kv2))=H7 at*;have hkz:zs.map (·.1)=Fo.keys x.2:=by
     have h1:=hgs.keys;have h2:(Fo.keys x.2).take x.2.length=Fo.keys x.2:=List.take_of_length_le (by simp[Fo.keys]);rw[h1,h2]
    have hzk:∀(j:Nat) y,zs[j]? =some y→y.1∈Fo.keys x.2:=fun j y hy=>by rw[←hkz];exact List.mem_map.mpr ⟨y,List.mem_of_getElem? hy,rfl⟩
    have hzn:∀(j k:Nat) y z,zs[j]? =some y→zs[k]? =some z→j≠k→y.1≠z.1:=fun j k y z hy hz ne ee=>by
     have nd:(zs.map (·.1)).Nodup:=by rw[hkz];exact g.nodup
     obtain⟨hj,ej⟩:=List.getElem?_eq_some_iff.mp hy;obtain⟨hk,ek⟩:=List.getElem?_eq_some_iff.mp hz;refine ne (ZbF nd (by simpa using hj) (by simpa using hk) ?_);rw[List.getElem_map,List.getElem_map,ej,ek];exact ee
    refine Vt (Zb4 (ZbH (q:=e) (o:= .frz o3 (.dK kv2)))) (fun k σ H'=>∃(rs':List Int)(a6 a7:Option V),σ=[some (.ref p),some (.ref f),some (.ref r),some (.ref d),some (.ref e),some (.int C),a6,a7]∧ZM ds H H'∧YG H' ds F∧H' e=some (.frz o3 (.dK kv2))∧H' f=some (.lst (ds.map V.ref))∧H' r=some (.lst (rs'.map V.int))∧rs'.length=hl.names.length∧ShE H' kv2 zs∧
     (∀(j:Nat) y,j<k→zs[j]? =some y→rs'[y.1.toNat]? =some ((C / y.2.2*y.2.1:Nat):Int))∧∀v:Int,0≤v→v∉Fo.keys x.2→rs'[v.toNat]? =rs[v.toNat]?)
     ⟨rs,_,_,rfl,fr7,hT7,he7,hf7,hr7,hrl,hsh7,fun j y hj=>absurd hj (Nat.not_lt_zero _),fun _ _ _=>rfl⟩ ?_ ?_ ?_
    ·rintro k σ H' ⟨_,_,_,_,_,_,h,_⟩;exact Zbp h
    ·rintro k σ H8 v H9 hk ⟨rs',a6,a7,rfl,fr8,hT8,he8,hf8,hr8,hrl8,hsh8,hin8,hout8⟩ ⟨t,kv,hkv,ht,rfl,rfl⟩;obtain⟨y,hy,ek,ty,et,hty⟩:=Paired.get' hsh8 hkv;obtain⟨kk,vv⟩:=kv;dsimp only at ek et;subst ek et;refine Rd.VL (.of Zf) rfl ?_;have su:Zd H8 (upd H8 t (.tup [kV (Sum.inl y.1),.ref ty])):=Zn ht;have hr9:=su _ _ hr8;have hty9:=su _ _ hty;have fr9:ZM ds H (upd H8 t (.tup [kV (Sum.inl y.1),.ref ty])):=fr8.trans su.frame;have hT9:=hT8.same su;have he9:=su _ _ he8;have hf9:=su _ _ hf8;have hsh9:ShE (upd H8 t (.tup [kV (Sum.inl y.1),.ref ty])) kv2 zs:=hsh8.keep fun _ _ e=>su _ _ e;generalize upd H8 t (.tup [kV (Sum.inl y.1),.ref ty])=H9 at*;have ekw:kV (Sum.inl y.1)= .int y.1:=rfl;rw[ekw];obtain⟨y0,y1,_⟩:=hgs.pos y (List.mem_of_getElem? hy);obtain⟨ysz1,ysz2⟩:=hgs.size k y hy;have hkk:k<zs.length:=(List.getElem?_eq_some_iff.mp hy).1;have ys1:y.2.1<2 ^ 6700:=Nat.lt_of_lt_of_le ysz1 (Nat.pow_le_pow_right (by decide) (by omega));have ys2:y.2.2<2 ^ 6700:=Nat.lt_of_lt_of_le ysz2 (Nat.pow_le_pow_right (by decide) (by omega));have dv:=Zis (a:=0) y1 (Nat.lt_of_lt_of_le ys2 (Nat.pow_le_pow_right (by decide) (by decide)));have mo:IntMulOk ((C:Int) / (y.2.2:Nat)) ((y.2.1:Nat):Int):=ZaL (a:=C / y.2.2) (Nat.lt_of_le_of_lt (Nat.div_le_self _ _) hCs) ys1 (by omega);obtain⟨w0,w1⟩:=hkrg y.1 (hzk k y hy);walk_at "rds";have ev:(C:Int) / ((y.2.2:Nat):Int)*((y.2.1:Nat):Int)=((C / y.2.2*y.2.1:Nat):Int):=rfl;rw[ev];have tkA:∀a xs,H9 a=some (.tup xs)→(upd H9 r (.lst ((rs'.map V.int).set y.1.toNat (.int ((C / y.2.2*y.2.1:Nat):Int))))) a=some (.tup xs):=fun a xs ea=>by rw[Ze (YD ea hr9 (by intro z;cases z))];exact ea
     have hwl:y.1.toNat<rs'.length:=by omega
     walk_at "rds";refine⟨rs'.set y.1.toNat ((C / y.2.2*y.2.1:Nat):Int),_,_,rfl,⟨fun b z eb n=>by rw[Ze (fun c=>by rw[c,hr0] at eb;cases eb)];exact fr9.keep _ _ eb n,fun b xs eb=>tkA _ _ (fr9.tups _ _ eb)⟩,?_,by rw[Ze ner.symm];exact he9,by rw[Ze nfr];exact hf9,by rw[Zf,List.map_set],by rw[List.length_set];exact hrl8,hsh9.keep tkA,fun j z hj hz=>?_,fun v v0 hv=>?_⟩
     ·refine UR hT9 fun d' x' hd' ⟨k',a,b⟩=>⟨k',?_,b.keep tkA⟩;have:=(hrd d' hd').symm;rcases a with a|⟨o',a⟩
      ·exact .inl (by rw[Ze this];exact a)
      ·exact .inr ⟨o',by rw[Ze this];exact a⟩
     ·rcases Nat.lt_succ_iff_lt_or_eq.mp hj with c|c
      ·have ne:=hzn j k z y hz hy (by omega);obtain⟨z0,_⟩:=hkrg z.1 (hzk j z hz);rw[List.getElem?_set_ne (by omega)];exact hin8 j z c hz
      ·subst c;rw[hy] at hz;cases hz;rw[List.getElem?_set_self hwl]
     ·have ne:v≠y.1:=fun c=>hv (by rw[c];exact hzk k y hy);rw[List.getElem?_set_ne (by omega)];exact hout8 v v0 hv
    ·rintro σ H8 ⟨rs',a6,a7,rfl,fr8,hT8,he8,hf8,hr8,hrl8,hsh8,hin8,hout8⟩;refine⟨rs',_,_,_,_,_,rfl,fr8,hT8,hf8,hr8,hrl8,fun k x' hk hx'=>?_⟩;rcases Nat.lt_succ_iff_lt_or_eq.mp hk with c|c
     ·obtain⟨zs',hg',hz'⟩:=hset k x' c hx';refine⟨zs',hg',fun y hy=>?_⟩;obtain⟨g',gg',g0',g1'⟩:=hwd.tree x' (List.mem_of_getElem? hx');have hyk:y.1∈Fo.keys x'.2:=by
       have h1:=hg'.keys;have h2:(Fo.keys x'.2).take x'.2.length=Fo.keys x'.2:=List.take_of_length_le (by simp[Fo.keys]);rw[h2] at h1;rw[←h1];exact List.mem_map.mpr ⟨y,hy,rfl⟩
      rw[hout8 y.1 (g'.rg ⟨g0',g1'⟩ (V8 hbt) _ hyk).1 (Zh9 hbt hwd hx' hx (by omega) _ hyk)];exact hz' y hy
     ·subst c;rw[hx] at hx';cases hx';refine⟨zs,hgs,fun y hy=>?_⟩;obtain⟨j,hj⟩:=List.getElem?_of_mem hy;rw[←hC];exact hin8 j y (by rw[hkl];exact(List.getElem?_eq_some_iff.mp hj).1) hj
  ·rintro σ H3 ⟨rs,a1,a2,a3,a4,a5,rfl,fr3,hT3,hf3,hr3,hrl,hset⟩;walk_at "rds";refine q r H3 rs hr0 fr3 hT3 hr3 hrl (fun x hx=>?_);obtain⟨k,hk⟩:=List.getElem?_of_mem hx;have:=(List.getElem?_eq_some_iff.mp hk).1;exact hset k x (by rw[List.length_map,hdl];exact this) hk
end
def Zbf{K:PySem.W.Frag}{mg:Str→Option Value}(T:Tp K mg):Sp:=fun vs H Q _=>∃(p c:Addr)(hl:HM)(fp:List Addr)(cs:List Int),vs=[.ref p,.ref c]∧Zy T H p hl fp∧hl.belts.length≤1000∧SqL K H c (cs.map V.int)∧ZH hl.belts cs.length∧YH hl.belts∧(∀c∈cs,∃k:Nat,c=(k:Int)∧k<2 ^ 420000)∧
 ∀(r:Addr)(H':Hp),H r=none→Zd H H'→H' r=some (.lst ((hl.belts.map (WW cs)).map V.int))→Q (.ref r) H'
section
variable {P:Program}{w:World}{K:PySem.W.Frag}{mg:Str→Option Value}{base:Heap}
theorem Zes(T:Tp K mg):Zk P w K mg base (CXX P w) 2 T.f_change_of T.d_change_of ["hall","counts"] (Zbf T):=by
 have G_Hall_belts:Zk P w K mg base (CXX P w) 1 T.f_Hall_belts T.d_Hall_belts ["self"] (Yp T):=(WB T).mono (by decide);have cl_Hall:=T.cl_Hall;have na_Hall:=T.na_Hall;refine T.F_change_of.okX Zex (fun vs H Q E h=>?_) (fun cdv A outer s H vs Q E hr h=>?_)
 ·obtain⟨p,c,hl,fp,cs,rfl,_⟩:=h
  rfl
 ·have hu:=hr.units;obtain⟨p,qa,hl,fp,cs,rfl,hh,hz,hc,hbt,hsz,hcs,q⟩:=h;refine⟨_,(Zg (Zx (UT rfl (Yi (x:="row") (zs:=["counts"]) (ix:=[1]) (Zi Vb) ["hall","counts"] rfl rfl (by decide+kernel)) (Z6 (K:=K) rfl (Vn (pv 0) T.cl_Hall T.M_Hall_belts G_Hall_belts hr T.b_Hall_belts .nil Zm)) (fun cl C s H fp=>⟨(Zp (i:=0) (show(["row","counts"]:List Str).Nodup by decide+kernel) rfl (Or.inl rfl)),Ye,(ZL Uw (ZL WG (Zo (ZA (K:=K) rfl) (pv 1) (Zo (ZA (K:=K) rfl) (pv 0) Zh (fun _ _=>rfl)) (fun _ _=>rfl)) (Zo (ZA (K:=K) rfl) (pv 0) Zh (fun _ _=>rfl))) (ZL WG (Zo (ZA (K:=K) rfl) (pv 1) (Zo (ZA (K:=K) rfl) (pv 0) Zh (fun _ _=>rfl)) (fun _ _=>rfl)) (Zo (ZA (K:=K) rfl) (pv 0) Zh (fun _ _=>rfl))))⟩)))),?_⟩
  try dsimp only[L2.cxX,L2.ZP,L2.Zl]
  walk_at "rds";intro u H1 bs hu0 sm1 hu1 hT;have hl1:=hT.length;have hb:bs.length<sizeLine:=Zs (by rw[hl1];exact hz);walk_at "rds";refine YU (ZZ (SqL.of hu1)) hb (fun _=>true) (fun i=> .int (WW cs (hl.belts.getD i dB))) (fun i H' Kc hi sm k=>?_) (fun i H' Kc hi _ sm k=>?_) (fun r H' hr sm hr'=>?_)
  ·walk_at "rds";exact k H' (Zd.refl H')
  ·have hil:i<hl.belts.length:=by omega
   obtain⟨t,ht1,ht2⟩:=hT.getD (i:=i) hil;rw[ht1];obtain⟨r1,r2,r3,r4⟩:=hbt.at hil;obtain⟨gv,tk,g0,t0,gl,tl,eg,et⟩:=hsz i hil;have ht3:=sm _ _ ht2;unfold WW at k;generalize hl.belts.getD i dB=bb at*;have gm:∀{v:Int},0≤v→v<cs.length→cs.getD v.toNat 0∈cs:=fun{v} v0 v1=>by rw[Zv (by omega)];exact List.getElem_mem _
   obtain⟨k1,e1,l1⟩:=hcs _ (gm r1 r2);obtain⟨k2,e2,l2⟩:=hcs _ (gm r3 r4);have m1:IntMulOk (cs.getD bb.giver.toNat 0) bb.give:=by rw[e1,eg];exact ZaL l1 gl (by decide)
   have m2:IntMulOk (cs.getD bb.taker.toNat 0) bb.take:=by rw[e2,et];exact ZaL l2 tl (by decide)
   have hc':SqL K H' qa (cs.map V.int):=(sm1.trans sm).seq hc;have a1:=YE r1 r2;have a2:=YE r3 r4;dsimp only[B5.v] at ht3;walk_at "rds";exact k H' (Zd.refl H')
  ·refine q r H' (ZK sm1 hr) (sm1.trans sm) ?_;rw[hr',List.filter_eq_self.mpr (by simp),hl1];refine congrArg (fun z=>some (HO.lst z)) ?_;refine List.ext_getElem (by simp) fun i h1 h2=>?_;have:i<hl.belts.length:=by simpa using h1
   simp[List.getD,this]
end
def Zd0{K:PySem.W.Frag}{mg:Str→Option Value}(T:Tp K mg):Sp:=fun vs H Q _=>∃(d:Addr)(kvs:List (Key×V))(tr:Fo.ZG)(W:Int→List Fo.Trip)(first w:Int),vs=[.ref d,.int w]∧L2.Rd H d (.dK kvs)∧Ent H kvs tr∧Fo.Z2 W first tr∧tr.length≤60∧w∈Fo.keys tr∧
 ∀(r:Addr)(H':Hp)(vs':List V)(ps:List (Int×Bool)),H r=none→Zd H H'→H' r=some (.lst vs')→Z1 H' vs' ps→Z7 tr w ps→ps.length≤tr.length→Q (.ref r) H'
section
variable {P:Program}{w:World}{K:PySem.W.Frag}{mg:Str→Option Value}{base:Heap}
theorem Zhy(T:Tp K mg):Zk P w K mg base (CXX P w) 1 T.f_way_to T.d_way_to ["tree","work"] (Zd0 T):=by
 refine T.F_way_to.okX Zaa (fun vs H Q E h=>?_) (fun cdv A outer s H vs Q E hr h=>?_)
 ·obtain⟨d,kvs,tr,W,first,w,rfl,_⟩:=h
  rfl
 ·have hu:=hr.units;obtain⟨d,kvs,tr,W,first,w,rfl,hd,hen,hg,htl,hw,q⟩:=h;refine⟨_,(Zc (Zt (i:=2) Zaa.nd rfl (Or.inl rfl) (WU Zb))
     (Zc (Zt (i:=3) Zaa.nd rfl (Or.inl rfl) (Zo (UV hu) (pv 0) (pv 1) (fun _ _=>rfl)))
     (Zc (V7 PassesOwn.leaving (ZC Zj7 (pv 3) Vf (ZE _)) (Zc (ZX (Wi (K:=K) rfl PySem.F.plainAttrs_list PySem.F.slot_list_append PySem.F.type_list_append YT (pv 2) (Za (YJ (Za (Zo (ZA (K:=K) rfl) (pv 3) Zh (fun _ _=>rfl)) (Za (Zo (ZA (K:=K) rfl) (pv 3) Zh (fun _ _=>rfl)) Zb))) Zb)))
     (Zg (Zt (i:=3) Zaa.nd rfl (Or.inl rfl) (Zo (UV hu) (pv 0) (Zo (ZA (K:=K) rfl) (pv 3) Zh (fun _ _=>rfl)) (fun _ _=>rfl))))))
     (Zc (ZX (Zj0 (K:=K) rfl PySem.F.plainAttrs_list PySem.F.slot_list_reverse PySem.F.type_list_reverse ZgR (pv 2)))
     (Zg (Zx (pv 2))))))),?_⟩
  try dsimp only[L2.cxX,L2.ZP,L2.Zl]
  walk_at "rds";refine⟨Nat.zero_le _,fun r hr0=>?_⟩;have s1:Zd H (upd H r (.lst [])):=Zn hr0;have hr1:(upd H r (.lst [])) r=some (.lst []):=Zf;generalize upd H r (.lst [])=H1 at*;obtain⟨i0,st0,hi0⟩:=Fo.V9 hw;obtain⟨v0,hv0,hs0⟩:=Zc9 hen hg.nodup hi0;walk_at "rds";refine Rd.Zjc (ZaC hd s1) hv0 ?_;walk_at "rds";refine Zay (fun m σ H'=>Zd H H'∧∃(u:Int)(st:Option Fo.Trip)(v:V)(vs:List V)(acc:List (Int×Bool)),σ=[some (.ref d),some (.int w),some (.ref r),some v]∧Ut H v st∧tr[m]? =some (u,st)∧H' r=some (.lst vs)∧Z1 H' vs acc∧(∀ps,Z7 tr u ps→Z7 tr w (ps++acc.reverse))∧m+acc.length<tr.length) i0 ⟨s1,w,st0,v0,[],[],rfl,hs0,hi0,hr1,.nil,fun ps h=>by simpa using h,by have:=(List.getElem?_eq_some_iff.mp hi0).1;simpa using this⟩ ?_;rintro m σ H2 ⟨s2,u,st,v,vs,acc,rfl,hst,hm,hr2,hP,hpath,hml⟩;have hpl:=hP.length;cases st with
  |none=>
   obtain rfl:v= .non:=hst;walk_at "rds";refine⟨rfl,false,rfl,?_⟩;refine Zdv ?_;walk_at "rds";refine⟨r,vs,rfl,rfl,hr2,?_⟩;have fr2:ZM [r] H2 (upd H2 r (.lst vs.reverse)):=Yy (by simp) hr2 (by intro _ z;cases z);have s3:Zd H (upd H2 r (.lst vs.reverse)):=s2.new hr0;have hr3:(upd H2 r (.lst vs.reverse)) r=some (.lst vs.reverse):=Zf;have hP3:=(hP.keep fr2.tups).rev;generalize upd H2 r (.lst vs.reverse)=H3 at*;walk_at "rds";exact q r H3 vs.reverse acc.reverse hr0 s3 hr3 hP3 (by have:=hpath [] (.root hm);simpa using this) (by rw[List.length_reverse];omega)
  |some t3=>
   obtain⟨p,b,al⟩:=t3;obtain⟨t,rfl,ht⟩:=hst;have ht2:=s2 _ _ ht;have hvz:vs.length<sizeLine:=Zs (by omega);obtain⟨_,j,sj,hj,hjt⟩:=hg.steps m u p b al hm;obtain⟨vj,hvj,hsj⟩:=Zc9 hen hg.nodup hjt;walk_at "rds";refine⟨rfl,true,rfl,?_⟩;refine ZeZ (ZbS ?_);walk_at "rds";refine⟨by show 2≤sizeLine;decide,fun u1 hu1=>?_⟩;have s3:Zd H2 (upd H2 u1 (.tup [V.int b,V.bl al])):=Zn hu1;have v1:(upd H2 u1 (.tup [V.int b,V.bl al])) u1=some (.tup [V.int b,V.bl al]):=Zf;generalize upd H2 u1 (.tup [V.int b,V.bl al])=H3 at*;have hr3:=s3 _ _ hr2;have ht3:=s3 _ _ ht2;walk_at "rds";have fr4:ZM [r] H3 (upd H3 r (.lst (vs++ [V.ref u1]))):=Yy (by simp) hr3 (by intro _ z;cases z);have s4:Zd H (upd H3 r (.lst (vs++ [V.ref u1]))):=(s2.trans s3).new hr0;have hr4:(upd H3 r (.lst (vs++ [V.ref u1]))) r=some (.lst (vs++ [V.ref u1])):=Zf;have hP4:=((hP.keep fun b xs e=>s3 _ _ e).keep fr4.tups).snoc (x:=(b,al)) (fr4.tups _ _ v1);have ht4:=fr4.tups _ _ ht3;generalize upd H3 r (.lst (vs++ [V.ref u1]))=H4 at*;walk_at "rds";refine Rd.Zjc (ZaC hd s4) hvj ?_;walk_at "rds";refine⟨j,hj,s4,p,sj,vj,vs++ [.ref u1],acc++ [(b,al)],rfl,hsj,hjt,hr4,hP4,fun ps h=>?_,by rw[List.length_append];show j+(acc.length+1)<tr.length;omega⟩;have:=hpath _ (.step hm h);rw[List.reverse_append];simpa using this
end
def Zam{K:PySem.W.Frag}{mg:Str→Option Value}(T:Tp K mg):Sp:=fun vs H Q _=>∃(a b:Addr)(xs ys:List V)(ps qs:List (Int×Bool)),vs=[.ref a,.ref b]∧H a=some (.lst xs)∧H b=some (.lst ys)∧Z1 H xs ps∧Z1 H ys qs∧
 ∀k:Nat,k≤ps.length→k≤qs.length→ps.take k=qs.take k→(k=ps.length∨k=qs.length∨ps[k]? ≠qs[k]?)→Q (.int k) H
section
variable {P:Program}{w:World}{K:PySem.W.Frag}{mg:Str→Option Value}{base:Heap}
theorem Zc2(T:Tp K mg):Zk P w K mg base (CXX P w) 1 T.f_shared_steps T.d_shared_steps ["one","other"] (Zam T):=by
 refine T.F_shared_steps.okX VO (fun vs H Q E h=>?_) (fun cdv A outer s H vs Q E hr h=>?_)
 ·obtain⟨a,b,xs,ys,ps,qs,rfl,_⟩:=h
  rfl
 ·have hu:=hr.units;obtain⟨a,b,xs,ys,ps,qs,rfl,ha,hb,hp1,hp2,q⟩:=h;have l1:=hp1.length;have l2:=hp2.length;have hA:=SqL.of (K:=K) ha;have hB:=SqL.of (K:=K) hb;refine⟨_,(Zc (Zt (i:=2) VO.nd rfl (Or.inl rfl) Zh)
     (Zc (V7 PassesOwn.leaving (PW.pt (VH (ZC UP (pv 2) (ZB (Zht rfl) (by rfl) T.n_min PyProof.Rows.boot_min (Za (ZB (Y2 (K:=K) rfl) (by rfl) T.n_len PySem.boot_len (Za (pv 0) Zb)) (Za (ZB (Y2 (K:=K) rfl) (by rfl) T.n_len PySem.boot_len (Za (pv 1) Zb)) Zb))) (ZE _)) (Vw (ZC (YA (K:=K) rfl hu) (Zo (ZA (K:=K) rfl) (pv 0) (pv 2) (fun _ _=>rfl)) (Zo (ZA (K:=K) rfl) (pv 1) (pv 2) (fun _ _=>rfl)) (ZE _))))) (Zg (Zhf (i:=2) VO.nd rfl (Or.inl rfl) Zh ZeR)))
     (Zg (Zx (pv 2))))),?_⟩
  try dsimp only[L2.cxX,L2.ZP,L2.Zl]
  walk_at "rds";refine Zay (fun m σ H'=>H'=H∧∃k:Nat,σ=[some (.ref a),some (.ref b),some (.int k)]∧m=ps.length-k∧k≤ps.length∧k≤qs.length∧ps.take k=qs.take k) ps.length ⟨rfl,0,rfl,rfl,Nat.zero_le _,Nat.zero_le _,rfl⟩ ?_;rintro m σ H' ⟨rfl,k,rfl,rfl,k1,k2,hk⟩;walk_at "rds";refine Rd.ifD (fun c=>?_) (fun c=>?_)
  ·have c1:k<ps.length∧k<qs.length:=by split at c<;>omega
   obtain⟨t1,e1,h1⟩:=ZbM hp1 (List.getElem?_eq_getElem c1.1);obtain⟨t2,e2,h2⟩:=ZbM hp2 (List.getElem?_eq_getElem c1.2);have at1:atI xs (k:Int)=some (.ref t1):=Wf e1;have at2:atI ys (k:Int)=some (.ref t2):=Wf e2;walk_at "rds";refine Rd.ZkA (Ze4 h1) (Ze4 h2) (Ze6 _ _) (Ze6 _ _) (ZgQ _ _) ?_;rw[Zio];walk_at "rds";refine Rd.ifD (fun c2=>ZbS ?_) (fun c2=>?_)
   ·refine⟨.int k,rfl,?_⟩;walk_at "rds";refine⟨ps.length-(k+1),by omega,rfl,k+1,rfl,rfl,by omega,by omega,?_⟩;rw[List.take_succ_eq_append_getElem c1.1,List.take_succ_eq_append_getElem c1.2,hk]
    congr 2
    exact Prod.ext c2.1 c2.2
   ·walk_at "rds";refine q k k1 k2 hk (.inr (.inr fun z=>c2 ?_));rw[List.getElem?_eq_getElem c1.1,List.getElem?_eq_getElem c1.2] at z;have z':=Option.some.inj z;exact⟨congrArg Prod.fst z',congrArg Prod.snd z'⟩
  ·walk_at "rds";exact q k k1 k2 hk (by split at c<;>omega)
end
theorem Z1.drop{H:Hp}:∀{vs:List V}{l:List (Int×Bool)}(k:Nat),Z1 H vs l→Z1 H (vs.drop k) (l.drop k)
 |_,_,0,h=>h
 |_,_,_+1,.nil=> .nil
 |_,_,k+1,.cons _ r=>Z1.drop k r
theorem Z1.app{H:Hp}:∀{vs vs':List V}{l l':List (Int×Bool)},Z1 H vs l→Z1 H vs' l'→Z1 H (vs++vs') (l++l')
 |_,_,_,_,.nil,h=>h
 |_,_,_,_,.cons a r,h=> .cons a (Z1.app r h)
theorem ZeY{H:Hp}{ws:List (Int×Bool)}:∀{is:List Nat}{ys:List V},Paired (fun i v=>∃t,v=V.ref t∧H t=some (.tup [.int (ws.getD i (0,false)).1,.bl (!(ws.getD i (0,false)).2)])) is ys→Z1 H ys (is.map fun i=>((ws.getD i (0,false)).1,!(ws.getD i (0,false)).2))
 |_,_,.nil=> .nil
 |_,_,.cons a r=> .cons a (ZeY r)
theorem Zc8(ws:List (Int×Bool)):((List.range ws.length).map fun i=>((ws.getD i (0,false)).1,!(ws.getD i (0,false)).2))=ws.map fun x=>(x.1,!x.2):=by
 refine List.ext_getElem (by simp) fun i h1 h2=>?_;have hi:i<ws.length:=by simpa using h2
 simp[List.getD,hi]
theorem Ze1{xs:List V}{k:Nat}(h:k≤xs.length):UW xs (some (k:Int)) none=xs.drop k:=by
 have e1:HT.sIx xs.length 0 (some (k:Int))=k:=by
  simp only[HT.sIx];rw[if_neg (by omega)];simp;omega
 have e2:HT.sIx xs.length xs.length none=xs.length:=by simp[HT.sIx]
 unfold UW;rw[e1,e2,List.take_of_length_le (by rw[List.length_drop];exact Nat.le_refl _)]
theorem Paired.flip{α β:Type}{P:α→β→Prop}:∀{xs:List α}{ys:List β},Paired P xs ys→Paired (fun y x=>P x y) ys xs
 |_,_,.nil=> .nil
 |_,_,.cons a r=> .cons a (Paired.flip r)
def Zab{K:PySem.W.Frag}{mg:Str→Option Value}(T:Tp K mg):Sp:=fun vs H Q _=>∃(p f:Addr)(hl:HM)(fp ds:List Addr)(F:List (Int×Fo.ZG))(bi:Nat),vs=[.ref p,.ref f,.int bi]∧Zy T H p hl fp∧H f=some (.lst (ds.map V.ref))∧YG H ds F∧Fo.WM (Z9 hl.belts) hl.names.length F hl.names.length∧hl.names.length≤60∧hl.belts.length≤1000∧ZH hl.belts hl.names.length∧bi<hl.belts.length∧
 ∀(r:Addr)(H':Hp)(vs':List V)(x:Int×Fo.ZG)(pg pt:List (Int×Bool))(k:Nat),Zd H H'→H' r=some (.lst vs')→x∈F→Z7 x.2 (hl.belts.getD bi dB).giver pg→Z7 x.2 (hl.belts.getD bi dB).taker pt→k≤pg.length→k≤pt.length→pg.take k=pt.take k→(k=pg.length∨k=pt.length∨pg[k]? ≠pt[k]?)→Z1 H' vs' (WP bi pg pt k)→Q (.ref r) H'
section
variable {P:Program}{w:World}{K:PySem.W.Frag}{mg:Str→Option Value}{base:Heap}
theorem Zc4(T:Tp K mg):Zk P w K mg base (CXX P w) 6 T.f_ring_through T.d_ring_through ["hall","forest","belt"] (Zab T):=by
 have G_way_to:Zk P w K mg base (CXX P w) 5 T.f_way_to T.d_way_to ["tree","work"] (Zd0 T):=(Zhy T).mono (by decide);have G_shared_steps:Zk P w K mg base (CXX P w) 5 T.f_shared_steps T.d_shared_steps ["one","other"] (Zam T):=(Zc2 T).mono (by decide);have G_Hall_belt_at:Zk P w K mg base (CXX P w) 5 T.f_Hall_belt_at T.d_Hall_belt_at ["self","belt"] (YC T):=(Wa T).mono (by decide);have cl_Hall:=T.cl_Hall;have na_Hall:=T.na_Hall;refine T.F_ring_through.okX Yk (fun vs H Q E h=>?_) (fun cdv A outer s H vs Q E hr h=>?_)
 ·obtain⟨p,f,hl,fp,ds,F,bi,rfl,_⟩:=h
  rfl
 ·have hu:=hr.units;obtain⟨p,f,hl,fp,ds,F,bi,rfl,hh,hf,hTr,hwd,hn,hz,hbt,hbi,q⟩:=h;refine⟨_,(Zc (Zt (i:=3) Yk.nd rfl (Or.inr rfl) (ZY (pv 0) T.cl_Hall T.M_Hall_belt_at G_Hall_belt_at hr T.b_Hall_belt_at .nil Zm (Za (pv 2) Zb)))
     (Zc (Zt (i:=4) Yk.nd rfl (Or.inl rfl) (Zo (ZA (K:=K) rfl) (UT rfl (Yi (x:="grown") (zs:=["row"]) (ix:=[3]) (Zi YV) ["hall","forest","belt","row","tree","to_giver","to_taker","shared","back"] rfl rfl (by decide+kernel)) (Z6 (K:=K) rfl (pv 1)) (fun cl C s H fp=>⟨(Zp (i:=0) (show(["grown","row"]:List Str).Nodup by decide+kernel) rfl (Or.inl rfl)),(Zdh (ZC (Zhg hu) (Zo (ZA (K:=K) rfl) (pv 1) Zh (fun _ _=>rfl)) (pv 0) (by with_unfolding_all rfl))),(pv 0)⟩)) Zh (fun _ _=>rfl)))
     (Zc (Zt (i:=5) Yk.nd rfl (Or.inl rfl) (Zw G_way_to hr rfl T.m_way_to T.F_way_to.kp T.b_way_to .nil Zm (Za (pv 4) (Za (Zo (ZA (K:=K) rfl) (pv 3) Zh (fun _ _=>rfl)) Zb))))
     (Zc (Zt (i:=6) Yk.nd rfl (Or.inl rfl) (Zw G_way_to hr rfl T.m_way_to T.F_way_to.kp T.b_way_to .nil Zm (Za (pv 4) (Za (Zo (ZA (K:=K) rfl) (pv 3) Zh (fun _ _=>rfl)) Zb))))
     (Zc (Zt (i:=7) Yk.nd rfl (Or.inl rfl) (Zw G_shared_steps hr rfl T.m_shared_steps T.F_shared_steps.kp T.b_shared_steps .nil Zm (Za (pv 5) (Za (pv 6) Zb))))
     (Zc (Zcx (j:=8) (xs:=["step"]) rfl (Yi (x:="step") (zs:=[]) (ix:=[]) (Zi YV) ["hall","forest","belt","row","tree","to_giver","to_taker","shared","back"] rfl rfl (by decide+kernel)) (Zkm (K:=K) rfl rfl T.n_reversed (Za (ZaT (Zgk (K:=K) rfl) (pv 6) (ZbO (pv 7)) ZbP) Zb)) (fun cl C s H fp=>⟨(Zp (i:=0) (show(["step"]:List Str).Nodup by decide+kernel) rfl (Or.inl rfl)),Ye,(YJ (Za (Zo (ZA (K:=K) rfl) (pv 0) Zh (fun _ _=>rfl)) (Za (ZhK (Zo (ZA (K:=K) rfl) (pv 0) Zh (fun _ _=>rfl))) Zb)))⟩) Yk.nd rfl (Or.inl rfl))
     (Zg (Zx (ZL (Y4 (K:=K) rfl) (ZL (Y4 (K:=K) rfl) (WU (Za (YJ (Za (pv 2) (Za VI Zb))) Zb)) (pv 8)) (ZaT (Zgk (K:=K) rfl) (pv 5) (ZbO (pv 7)) ZbP)))))))))),?_⟩
  try dsimp only[L2.cxX,L2.ZP,L2.Zl]
  have hdl:=hTr.length;have hFl:F.length≤hl.names.length:=by
   have h1:(F.map (·.1)).Nodup:=by
    rw[List.nodup_iff_pairwise_ne,List.pairwise_map];exact hwd.rise.imp fun h=>Int.ne_of_lt h
   have h2:∀w∈F.map (·.1),0≤w∧w<(hl.names.length:Int):=fun w hw=>by
    obtain⟨x,hx,rfl⟩:=List.mem_map.mp hw;exact(hwd.tree x hx).2.2
   have:=Fo.UA h1 h2;simpa using this
  walk_at "rds";refine⟨p,bi,hl,fp,rfl,hh,fun z=>absurd ⟨by omega,by omega⟩ z,fun _ _ t b hb ht=>?_⟩;have eb:hl.belts.getD bi dB=b:=by
   rw[Int.toNat_natCast] at hb;rw[List.getD,hb]
   rfl
  obtain⟨b1,b2,b3,b4⟩:=hbt.at hbi;rw[eb] at b1 b2 b3 b4 q;have ht':H t=some (.tup [.int b.giver,.int b.taker,.int b.give,.int b.take,.int b.start]):=ht;walk_at "rds";refine YU (ZZ (SqL.of hf)) (Zs (by rw[List.length_map];omega)) (fun i=>decide (b.giver∈Fo.keys (F.getD i (0,[])).2)) (fun i=>(ds.map V.ref).getD i .non) (fun i H' Kc hi sm k=>?_) (fun i H' Kc hi _ sm k=>?_) (fun g H4 hg s4 hg4=>?_)
  ·have hil:i<ds.length:=by simpa using hi
   obtain⟨x,hx,kvs,hrd,hen⟩:=Paired.get' hTr (List.getElem?_eq_getElem hil);have e1:(ds.map V.ref).getD i .non= .ref ds[i]:=by simp[List.getD,hil]
   rw[e1];have e2:F.getD i (0,[])=x:=by rw[List.getD,hx];rfl
   rw[e2] at k;have ht2:=sm _ _ ht';have e3:(valV kvs (Sum.inl b.giver)).isSome=decide (b.giver∈Fo.keys x.2):=by
    rw[Bool.eq_iff_iff,hen.some,decide_eq_true_iff]
   walk_at "rds";refine Rd.Zmn (ZaC hrd sm) ?_;rw[e3];walk_at "rds";exact k _ (Zd.refl _)
  ·walk_at "rds";exact k _ (Zd.refl _)
  ·obtain⟨x0,hx0,hk0⟩:=hwd.all b.giver b1 b2;obtain⟨j0,hj0⟩:=List.getElem?_of_mem hx0;obtain⟨j,x,hj,hjk,hat⟩:∃(j:Nat)(x:Int×Fo.ZG),F[j]? =some x∧b.giver∈Fo.keys x.2∧atI (((List.range (ds.map V.ref).length).filter fun i=>decide (b.giver∈Fo.keys (F.getD i (0,[])).2)).map fun i=>(ds.map V.ref).getD i .non) 0=some ((ds.map V.ref).getD j .non):=by
    have hj0l:=(List.getElem?_eq_some_iff.mp hj0).1;have hm:j0∈(List.range (ds.map V.ref).length).filter fun i=>decide (b.giver∈Fo.keys (F.getD i (0,[])).2):=by
     rw[List.mem_filter,List.mem_range,List.length_map];exact⟨by omega,by rw[List.getD,hj0];simpa using hk0⟩
    cases hL:(List.range (ds.map V.ref).length).filter fun i=>decide (b.giver∈Fo.keys (F.getD i (0,[])).2) with
    |nil=>rw[hL] at hm;cases hm
    |cons j rest=>
     have hjm:j∈(List.range (ds.map V.ref).length).filter fun i=>decide (b.giver∈Fo.keys (F.getD i (0,[])).2):=by rw[hL];exact List.mem_cons_self
     rw[List.mem_filter,List.mem_range,List.length_map] at hjm;have hjl:j<F.length:=by omega
     have hk:=of_decide_eq_true hjm.2;rw[Zv hjl] at hk;exact⟨j,F[j],List.getElem?_eq_getElem hjl,hk,Wf (j:=0) rfl⟩
   have hjl:j<ds.length:=by have:=(List.getElem?_eq_some_iff.mp hj).1;omega
   have hxF:=List.mem_of_getElem? hj;obtain⟨d,hd,kvs,hrd,hen⟩:=Paired.get' (P:=fun(x:Int×Fo.ZG) d=>∃kvs,L2.Rd H d (.dK kvs)∧Ent H kvs x.2) (Paired.flip hTr) hj;have ed:(ds.map V.ref).getD j .non= .ref d:=by simp[List.getD,hd]
   rw[ed] at hat;refine Rd.Zk6 (SqL.of hg4) hat ?_;have ht4:=s4 _ _ ht';obtain⟨hgr,hgo,x0,x1⟩:=hwd.tree x hxF;have hxl:x.2.length≤60:=by
    have:=Fo.UA hgr.nodup (hgr.rg ⟨x0,x1⟩ (V8 hbt));simp[Fo.keys] at this;omega
   have htk:b.taker∈Fo.keys x.2:=by
    obtain⟨i,st,hi⟩:=Fo.V9 hjk;have hil:=(List.getElem?_eq_some_iff.mp hi).1;have hw:(b.taker,(bi:Int),true)∈Z9 hl.belts b.giver:=Zey hbi (WQ.mpr (.inl ⟨by rw[eb],by rw[eb]⟩));exact hgo i _ st hil hi _ hw
   walk_at "rds";refine⟨d,kvs,x.2,Z9 hl.belts,x.1,b.giver,rfl,ZaC hrd s4,hen.keep fun c xs e=>s4 _ _ e,hgr,hxl,hjk,?_⟩;intro ra H5 va pg hra s5 hra5 hPa hpath hpal;have s45:=s4.trans s5;have ht5:=s45 _ _ ht';walk_at "rds";refine⟨d,kvs,x.2,Z9 hl.belts,x.1,b.taker,rfl,ZaC hrd s45,hen.keep fun c xs e=>s45 _ _ e,hgr,hxl,htk,?_⟩;intro rb H6 vb pt hrb s6 hrb6 hPb hpatb hpbl;have s46:=s45.trans s6;have hra6:=s6 _ _ hra5;have hPa6:=hPa.keep fun c xs e=>s6 _ _ e;walk_at "rds";refine⟨ra,rb,va,vb,pg,pt,rfl,hra6,hrb6,hPa6,hPb,?_⟩;intro k k1 k2 hk hk3;have hqa:=SqL.of (K:=K) hra6;have hqb:=SqL.of (K:=K) hrb6;have lb:=hPb.length;have la:=hPa.length;walk_at "rds";refine Rd.ZmD ?_;walk_at "rds";refine Rd.slL hqb ?_;intro rc hrc;rw[Ze1 (by omega)];have s7:Zd H6 (upd H6 rc (.lst (vb.drop k))):=Zn hrc;have v7:(upd H6 rc (.lst (vb.drop k))) rc=some (.lst (vb.drop k)):=Zf;generalize upd H6 rc (.lst (vb.drop k))=H7 at*;have hPr:=((hPb.keep fun c xs e=>s7 _ _ e).drop k).rev;have hrl:(vb.drop k).length=((pt.drop k).reverse).length:=by simp[lb]
   have s47:=s46.trans s7;walk_at "rds";refine⟨rc,vb.drop k,rfl,SqL.of v7,?_⟩;refine Yw (own:=1) (Zhr (SqL.of v7)).y (Zs (by rw[List.length_drop];omega)) (fun i=>[some ((vb.drop k).reverse.getD i .non)]) (fun _=>rfl) (fun _=>true) (fun i v H=>∃t,v=V.ref t∧H t=some (.tup [.int ((pt.drop k).reverse.getD i (0,false)).1,.bl (!((pt.drop k).reverse.getD i (0,false)).2)])) (fun _ _ _ _ e ⟨t,z1,z2⟩=>⟨t,z1,e _ _ z2⟩) (fun i a' H' v H2 Kg hi sm y ha' k=>?_) (fun i H' Kc hi sm k=>?_) (fun pp i H' Kc hi hc hp0 hp1 sm kk=>?_) (fun re H8 ys hr' sm hl' hR=>?_)
   ·obtain⟨rfl,rfl⟩:=y;obtain⟨x1,rfl⟩:∃x1,a'=[x1]:=by
     match a',ha' with
     | [x1],_=>exact⟨x1,rfl⟩
    walk_at "rds";exact k _ (Zd.refl _)
   ·walk_at "rds";exact k H' (Zd.refl H')
   ·have hi':i<((pt.drop k).reverse).length:=by omega
    obtain⟨u,hu1,hu2⟩:=ZbM hPr (List.getElem?_eq_getElem hi');have e1:(vb.drop k).reverse.getD i .non= .ref u:=by rw[List.getD,hu1];rfl
    rw[e1];rw[Zv hi'] at kk;have hu3:=sm _ _ hu2;generalize ((pt.drop k).reverse)[i]=y at*;walk_at "rds";refine⟨by show 2≤sizeLine;decide,fun u' hu'=>?_⟩;exact kk _ _ (Zn hu') ⟨u',rfl,Zdp hp1 hu'⟩
   ·have hR':=ZeY hR;rw[List.filter_eq_self.mpr (by simp),hrl,Zc8] at hR';have hP8:=hR'.keep (H':=H8) fun c xs e=>WN _ _ e;have yl:=hP8.length;have s68:=s7.trans sm;have hqa8:=s68.seq hqa;have hPa8:=hPa6.keep fun c xs e=>s68 _ _ e;have s48:=s46.trans s68;walk_at "rds";refine⟨by show 2≤sizeLine;decide,fun u1 hu1=>?_⟩;have s9:Zd H8 (upd H8 u1 (.tup [V.int bi,V.bl true])):=Zn hu1;have v9:(upd H8 u1 (.tup [V.int bi,V.bl true])) u1=some (.tup [V.int bi,V.bl true]):=Zf;generalize upd H8 u1 (.tup [V.int bi,V.bl true])=H9 at*;walk_at "rds";intro u2 hu2;have s10:Zd H9 (upd H9 u2 (.lst [V.ref u1])):=Zn hu2;have v10:(upd H9 u2 (.lst [V.ref u1])) u2=some (.lst [V.ref u1]):=Zf;generalize upd H9 u2 (.lst [V.ref u1])=H10 at*;have hl10:=s10 _ _ (s9 _ _ hl');have yl2:ys.length≤60:=by rw[yl,List.length_map,List.length_reverse,List.length_drop];omega
    walk_at "rds";refine Rd.Zf7 v10 hl10 (Nat.le_of_lt (Zs (by simp;omega))) ?_;intro u3 hu3;have s11:Zd H10 (upd H10 u3 (.lst ([V.ref u1]++ys))):=Zn hu3;have v11:(upd H10 u3 (.lst ([V.ref u1]++ys))) u3=some (.lst ([V.ref u1]++ys)):=Zf;generalize upd H10 u3 (.lst ([V.ref u1]++ys))=H11 at*;have s811:=(s9.trans s10).trans s11;have hqa11:=s811.seq hqa8;walk_at "rds";refine Rd.slL hqa11 ?_;intro u4 hu4;rw[Ze1 (by omega)];have s12:Zd H11 (upd H11 u4 (.lst (va.drop k))):=Zn hu4;have v12:(upd H11 u4 (.lst (va.drop k))) u4=some (.lst (va.drop k)):=Zf;generalize upd H11 u4 (.lst (va.drop k))=H12 at*;have v11':=s12 _ _ v11;walk_at "rds";refine Rd.Zf7 v11' v12 (Nat.le_of_lt (Zs (by simp;omega))) ?_;intro u5 hu5;have s13:Zd H12 (upd H12 u5 (.lst ([V.ref u1]++ys++va.drop k))):=Zn hu5;have v13:(upd H12 u5 (.lst ([V.ref u1]++ys++va.drop k))) u5=some (.lst ([V.ref u1]++ys++va.drop k)):=Zf;generalize upd H12 u5 (.lst ([V.ref u1]++ys++va.drop k))=H13 at*;have s813:=(s811.trans s12).trans s13;have s913:=((s10.trans s11).trans s12).trans s13;walk_at "rds";refine q u5 H13 _ x pg pt k (s48.trans s813) v13 hxF hpath hpatb k1 k2 hk hk3 ?_;exact Z1.app (Z1.app (.cons ⟨u1,rfl,s913 _ _ v9⟩ .nil) (hP8.keep fun c xs e=>s813 _ _ e)) ((hPa8.keep fun c xs e=>s813 _ _ e).drop k)
end
def Zb8{K:PySem.W.Frag}{mg:Str→Option Value}(T:Tp K mg):Sp:=fun vs H Q _=>∃(p:Addr)(hl:HM)(fp:List Addr),vs=[.ref p]∧Zy T H p hl fp∧hl.names.length≤60∧hl.belts.length≤1000∧ZH hl.belts hl.names.length∧YH hl.belts∧
 (∀(t r:Addr)(H':Hp)(rs:List Int)(F:List (Int×Fo.ZG)),Zd H H'→H r=none→H' t=some (.tup [.ref r,.non])→H' r=some (.lst (rs.map V.int))→rs.length=hl.names.length→Fo.WM (Z9 hl.belts) hl.names.length F hl.names.length→(∀x∈F,ZaJ hl.belts x rs)→(∀j<hl.belts.length,WW rs (hl.belts.getD j dB)=0)→Q (.ref t) H')∧
 (∀(t r:Addr)(H':Hp)(vs':List V)(ring:List (Int×Bool)),Zd H H'→H' t=some (.tup [.non,.ref r])→H' r=some (.lst vs')→Z1 H' vs' ring→VT hl.belts ring→Q (.ref t) H')
section
variable {P:Program}{w:World}{K:PySem.W.Frag}{mg:Str→Option Value}{base:Heap}
theorem Zfw(T:Tp K mg):Zk P w K mg base (CXX P w) 8 T.f_rates_of T.d_rates_of ["hall"] (Zb8 T):=by
 have G_forest_of:Zk P w K mg base (CXX P w) 7 T.f_forest_of T.d_forest_of ["hall"] (Za9 T):=(Zff T).mono (by decide);have G_rates_by:Zk P w K mg base (CXX P w) 7 T.f_rates_by T.d_rates_by ["hall","forest"] (Zb7 T):=(Zfo T).mono (by decide);have G_change_of:Zk P w K mg base (CXX P w) 7 T.f_change_of T.d_change_of ["hall","counts"] (Zbf T):=(Zes T).mono (by decide);have G_ring_through:Zk P w K mg base (CXX P w) 7 T.f_ring_through T.d_ring_through ["hall","forest","belt"] (Zab T):=(Zc4 T).mono (by decide);refine T.F_rates_of.okX Vg (fun vs H Q E h=>?_) (fun cdv A outer s H vs Q E hr h=>?_)
 ·obtain⟨p,hl,fp,rfl,_⟩:=h
  rfl
 ·have hu:=hr.units;obtain⟨p,hl,fp,rfl,hh,hn,hz,hbt,hsz,q,q2⟩:=h;refine⟨_,(Zc (Zt (i:=1) Vg.nd rfl (Or.inl rfl) (Zw G_forest_of hr rfl T.m_forest_of T.F_forest_of.kp T.b_forest_of .nil Zm (Za (pv 0) Zb)))
     (Zc (Zt (i:=2) Vg.nd rfl (Or.inl rfl) (Zw G_rates_by hr rfl T.m_rates_by T.F_rates_by.kp T.b_rates_by .nil Zm (Za (pv 0) (Za (pv 1) Zb))))
     (Zc (Y1 PassesOwn.leaving rfl (ZaF (K:=K) rfl rfl T.n_enumerate (Za (Zw G_change_of hr rfl T.m_change_of T.F_change_of.kp T.b_change_of .nil Zm (Za (pv 0) (Za (pv 2) Zb))) Zb)) (YX (K:=K) (n:=2) rfl rfl (ZI (Zp (i:=3) Vg.nd rfl (Or.inl rfl)) (ZI (Zp (i:=4) Vg.nd rfl (Or.inl rfl)) YW))) (Zg (ZV (ZC (Zfc (K:=K) rfl hu) (pv 4) Zh (ZE _)) (Zg (Zx (YJ (Za Vf (Za (Zw G_ring_through hr rfl T.m_ring_through T.F_ring_through.kp T.b_ring_through .nil Zm (Za (pv 0) (Za (pv 1) (Za (pv 3) Zb)))) Zb))))) ZJ)))
     (Zg (Zx (YJ (Za (pv 2) (Za Vf Zb)))))))),?_⟩
  try dsimp only[L2.cxX,L2.ZP,L2.Zl]
  walk_at "rds";refine⟨p,hl,fp,rfl,hh,hn,hz,hbt,fun f ds H1 F hf0 s1 hF hnew hwd hFl=>?_⟩;have hh1:=hh.same s1;have hdf:∀d∈ds,d∉fp:=fun d hd y=>hh.dom d y (hnew d hd);have hdn:∀d∈ds,d≠f:=fun d hd y=>by
   obtain⟨i,hi,e⟩:=List.getElem_of_mem hd;obtain⟨x,_,kvs,a,_⟩:=Paired.get' hF.trees (List.getElem?_eq_getElem hi);rw[e,y,hF.at_] at a;cases a
  walk_at "rds";refine⟨p,f,hl,fp,ds,F,rfl,hh1,hF.at_,hF.trees.r,hdf,hdn,hwd,hbt,hn,hsz,fun r H2 rs hr0 fr2 hT2 hr2 hrl hset=>?_⟩;have s2:Zd H H2:=fun b o e=>fr2.keep _ _ (s1 _ _ e) (fun y=>by have:=hnew b y;rw[e] at this;cases this);have hf2:=fr2.keep _ _ hF.at_ (fun y=>hdn f y rfl);have hh2:=hh.same s2;have hr00:H r=none:=ZK s1 hr0;have hrt:=ZeD hbt hn hwd hrl hset;walk_at "rds";refine⟨p,r,hl,fp,rs,rfl,hh2,hz,.of hr2,by rw[hrl];exact hbt,hsz,fun c hc=>(by obtain⟨k,a,_,b⟩:=hrt.pos c hc;exact⟨k,a,b⟩),fun c H3 hc0 s3 hc3=>?_⟩;have hr3:=s3 _ _ hr2;have hf3:=s3 _ _ hf2;have hT3:=hT2.same s3;have s23:=s2.trans s3;walk_at "rds";refine Vt (Vz (SqL.of hc3)) (fun i σ H'=>Zd H3 H'∧(∀j<i,WW rs (hl.belts.getD j dB)=0)∧∃a1 a2,σ=[some (.ref p),some (.ref f),some (.ref r),a1,a2]) ⟨Zd.refl H3,fun j hj=>absurd hj (Nat.not_lt_zero _),_,_,rfl⟩ (fun i σ H' h=>h.1) ?_ ?_
  ·rintro i σ H4 v H5 hi ⟨s4,hch,a1,a2,rfl⟩ ⟨t,ht,rfl,rfl⟩;have hil:i<hl.belts.length:=by simpa using hi
   have ei:((hl.belts.map (WW rs)).map V.int).getD i .non= .int (WW rs (hl.belts.getD i dB)):=by
    rw[Zv hil];simp[List.getD,hil]
   rw[ei];refine Rd.VL (.of Zf) rfl ?_;have s5:Zd H4 (upd H4 t (.tup [V.int i,V.int (WW rs (hl.belts.getD i dB))])):=Zn ht;generalize upd H4 t (.tup [V.int i,V.int (WW rs (hl.belts.getD i dB))])=H5 at*;walk_at "rds";refine Vp (fun c=>?_) (fun c=>?_)
   ·have s35:=s4.trans s5;walk_at "rds";refine⟨p,f,hl,fp,ds,F,i,rfl,hh.same (s23.trans s35),s35 _ _ hf3,hT3.same s35,hwd,hn,hz,hbt,hil,?_⟩;intro r' H6 vs' x pg pt k s6 hr6 hx hp hq k1 k2 hk hk3 hP;walk_at "rds";refine⟨by show 2≤sizeLine;decide,fun t' ht'=>?_⟩;exact q2 t' r' _ vs' _ (((s23.trans s35).trans s6).trans (Zn ht')) Zf (Zn ht' _ _ hr6) (hP.keep fun b xs e=>Zn ht' _ _ e) (Zj3 hbt hsz hwd hset hil (by simpa using c) hx hp hq hk hk3)
   ·walk_at "rds";refine⟨s4.trans s5,fun j hj=>?_,_,_,rfl⟩;rcases Nat.lt_succ_iff_lt_or_eq.mp hj with z|z
    ·exact hch j z
    ·rw[z];simpa using c
  ·rintro σ H4 ⟨s4,hch,a1,a2,rfl⟩;have hr4:=s4 _ _ hr3;walk_at "rds";refine⟨by show 2≤sizeLine;decide,fun t ht=>?_⟩;exact q t r _ rs F ((s23.trans s4).trans (Zn ht)) hr00 Zf (Zn ht _ _ hr4) hrl hwd hset (fun j hj=>hch j (by simpa using hj))
end
def ZaG{K:PySem.W.Frag}{mg:Str→Option Value}(T:Tp K mg):Sp:=fun vs H Q E=>∃(p:Addr)(hl:HM)(fp:List Addr),vs=[.ref p]∧Zy T H p hl fp∧hl.names.length≤60∧hl.belts.length≤1000∧ZH hl.belts hl.names.length∧YH hl.belts∧
 (∀(r:Addr)(H':Hp)(rs:List Int),Zd H H'→H r=none→H' r=some (.lst (rs.map V.int))→Rts hl.belts hl.names.length (fun _=>1) rs→(rs.sum≤400→Q (.ref r) H')∧(400<rs.sum→E (.ref T.X_TooLong) none H'))∧
 (∀(ring:List (Int×Bool))(H':Hp),Zd H H'→VT hl.belts ring→E (.ref T.X_NotBalanced) none H')
section
variable {P:Program}{w:World}{K:PySem.W.Frag}{mg:Str→Option Value}{base:Heap}
theorem Zdd(T:Tp K mg):Zk P w K mg base (CXX P w) 9 T.f_round_rates T.d_round_rates ["hall"] (ZaG T):=by
 have G_rates_of:Zk P w K mg base (CXX P w) 8 T.f_rates_of T.d_rates_of ["hall"] (Zb8 T):=(Zfw T).mono (by decide);refine T.F_round_rates.okX ZaD (fun vs H Q E h=>?_) (fun cdv A outer s H vs Q E hr h=>?_)
 ·obtain⟨p,hl,fp,rfl,_⟩:=h
  rfl
 ·have hu:=hr.units;obtain⟨p,hl,fp,rfl,hh,hn,hz,hbt,hsz,q,q3⟩:=h;refine⟨_,(Zc (Zt (i:=1) ZaD.nd rfl (Or.inl rfl) (Zo (ZA (K:=K) rfl) (Zw G_rates_of hr rfl T.m_rates_of T.F_rates_of.kp T.b_rates_of .nil Zm (Za (pv 0) Zb)) Zh (fun _ _=>rfl)))
     (Zc (ZV (ZC ZcW (pv 1) Vf (ZE _)) (Zg (YQ T.gx_NotBalanced T.ex_NotBalanced PySem.F.excBase_ValueError rfl (Za Yb Zb))) ZJ)
     (Zc (ZV (ZC ZbX (ZB (Zjz (K:=K) rfl rfl) (by rfl) T.n_sum PyProof.Rows.boot_sum (Za (pv 1) Zb)) (Wg (v:= .int 400) rfl T.c_MOST_TURNS ⟨_,rfl⟩) (ZE _)) (Zg (YQ T.gx_TooLong T.ex_TooLong PySem.F.excBase_ValueError rfl (Za Yb Zb))) ZJ)
     (Zg (Zx (pv 1)))))),?_⟩
  try dsimp only[L2.cxX,L2.ZP,L2.Zl]
  walk_at "rds";refine⟨p,hl,fp,rfl,hh,hn,hz,hbt,hsz,fun t r H' rs F s1 hr ht hr1 hrl hwd hset hch=>?_,fun t r H' vs' ring s1 ht hr1 hpc hok=>?_⟩
  ·have hrt:=ZeD hbt hn hwd hrl hset;have hR:Rts hl.belts hl.names.length (fun _=>1) rs:=⟨hrl,fun c hc=>(by obtain⟨k,a,b,_⟩:=hrt.pos c hc;omega),fun b hb=>(by
    obtain⟨i,hi,e⟩:=List.getElem_of_mem hb;have:=hch i hi;rw[Zv hi,e] at this;unfold WW at this;rw[Int.mul_comm b.give,Int.mul_comm b.take];omega),F,hwd,hset⟩
   obtain⟨q1,q2⟩:=q r H' rs s1 hr hr1 hR;walk_at "rds";refine⟨rfl,?_⟩;walk_at "rds";refine Rd.ZkJ (.of hr1) ?_;walk_at "rds";refine Vp (fun c=>?_) (fun c=>?_)
   ·walk_at "rds";exact q2 (by have:=of_decide_eq_true c;omega)
   ·walk_at "rds";exact q1 (by
     by_cases y:400<rs.sum
     ·exact absurd (decide_eq_true y) c
     ·omega)
  ·walk_at "rds";refine⟨rfl,?_⟩;walk_at "rds";exact q3 ring _ s1 hok
end
def ZdP{K:PySem.W.Frag}{mg:Str→Option Value}(T:Tp K mg):Sp:=fun vs H Q _=>∃(a b:Addr)(hs:List Int)(l:List (Int×Int))(xs:List V),vs=[.ref a,.ref b]∧SqL K H a (hs.map V.int)∧SqL K H b xs∧Vh H l xs∧(∀x∈l,0≤x.1∧x.1<hs.length)∧l.length≤1000∧∀H',Zd H H'→Q (.bl (Zas hs l)) H'
section
variable {P:Program}{w:World}{K:PySem.W.Frag}{mg:Str→Option Value}{base:Heap}
theorem ZhP(T:Tp K mg):Zk P w K mg base (CXX P w) 1 T.f_enough T.d_enough ["heaps","takes"] (ZdP T):=by
 refine T.F_enough.okX ZhC (fun vs H Q E h=>?_) (fun cdv A outer s H vs Q E hr h=>?_)
 ·obtain⟨a,b,hs,l,xs,rfl,_⟩:=h
  rfl
 ·have hu:=hr.units;obtain⟨a,b,hs,l,xs,rfl,ha,hb,hp,hr,hz,q⟩:=h;have hxl:l.length=xs.length:=Paired.length hp;refine⟨_,(Zg (Zx (ZB (Zjs (K:=K) rfl rfl) (by rfl) T.n_all PyProof.Rows.boot_all (Za (WY (xs:=["belt","take"]) rfl (Yi (x:="belt") (zs:=["heaps"]) (ix:=[0]) (Zi U8) ["heaps","takes"] rfl rfl (by decide+kernel)) (Z6 (K:=K) rfl (pv 1)) (fun cl C s H fp=>⟨(YX (K:=K) (n:=2) rfl rfl (ZI (Zp (i:=0) (show(["belt","take","heaps"]:List Str).Nodup by decide+kernel) rfl (Or.inl rfl)) (ZI (Zp (i:=1) (show(["belt","take","heaps"]:List Str).Nodup by decide+kernel) rfl (Or.inl rfl)) YW))),Ye,(W7 Zeg (Zo (ZA (K:=K) rfl) (pv 2) (pv 0) (fun _ _=>rfl)) (pv 1) (ZE _))⟩)) Zb)))),?_⟩
  try dsimp only[L2.cxX,L2.ZP,L2.Zl]
  walk_at "rds";refine Yw (own:=2) (ZZ hb).y (Zs (by omega)) (fun i=>[some (.int (l.getD i (0,0)).1),some (.int (l.getD i (0,0)).2)]) (fun _=>rfl) (fun _=>true) (fun i v _=>v= .bl (decide ((l.getD i (0,0)).2≤hs.getD (l.getD i (0,0)).1.toNat 0))) (fun _ _ _ _ _ z=>z) (fun i a' H' v H2 Kg hi sm y ha' k=>?_) (fun i H' Kc hi sm k=>?_) (fun pp i H' Kc hi hc hp0 hp1 sm k=>?_) (fun r H' ys hr' sm hl' hR=>?_)
  ·obtain⟨rfl,rfl⟩:=y;obtain⟨x1,x2,rfl⟩:∃x1 x2,a'=[x1,x2]:=by
    match a',ha' with
    | [x1,x2],_=>exact⟨x1,x2,rfl⟩
   obtain⟨v,hv,t,rfl,ht⟩:=Paired.get hp (List.getElem?_eq_getElem (show i<l.length by omega));have eb:xs.getD i .non= .ref t:=by simp[List.getD,hv]
   have el:l.getD i (0,0)=l[i]:=by simp[List.getD,show i<l.length by omega]
   rw[eb];rw[el] at k;refine Rd.VL (.of (sm _ _ ht)) rfl ?_;walk_at "rds";exact k _ (Zd.refl _)
  ·walk_at "rds";exact k H' (Zd.refl H')
  ·have el:l.getD i (0,0)=l[i]:=by simp[List.getD,show i<l.length by omega]
   obtain⟨r0,r1⟩:=hr _ (List.getElem_mem (show i<l.length by omega));rw[el] at k⊢;generalize l[i]=x at*;have hs':=sm.seq ha;have at1:=YE r0 r1;walk_at "rds";exact k _ H' (Zd.refl H') rfl
  ·have e:ys=(l.map fun x=>decide (x.2≤hs.getD x.1.toNat 0)).map V.bl:=by
    rw[UJ (R:=fun i v _=>v=V.bl (decide ((l.getD i (0,0)).2≤hs.getD (l.getD i (0,0)).1.toNat 0))) (H:=H') (r:=fun i=>V.bl (decide ((l.getD i (0,0)).2≤hs.getD (l.getD i (0,0)).1.toNat 0))) (fun _ _ z=>z) hR,List.filter_eq_self.mpr (by simp),←hxl];refine List.ext_getElem (by simp) fun i h1 h2=>?_;have hi:i<l.length:=by simpa using h1
    have el:l.getD i (0,0)=l[i]:=by simp[List.getD,hi]
    rw[List.getElem_map,List.getElem_map,List.getElem_map,List.getElem_range,el]
   rw[e] at hl';walk_at "rds";have e2:(l.map fun x=>decide (x.2≤hs.getD x.1.toNat 0)).all id=Zas hs l:=by rw[List.all_map];rfl
   rw[e2];exact q H' sm
end
def Uy{K:PySem.W.Frag}{mg:Str→Option Value}(T:Tp K mg):Sp:=fun vs H Q E=>∃(p s:Addr)(ls:List B5)(rs st:List Int),vs=[.ref p,.ref s]∧Wc T H p ls rs∧SqL K H s (st.map V.int)∧st.length=ls.length∧ZH ls rs.length∧ls.length≤1000∧rs.length≤1000∧(∀r∈rs,1≤r)∧tot rs≤1000∧
 ∀(r:Addr)(H':Hp)(ws:List Nat)(d:Nat→Nat),H r=none→Zd H H'→H' r=some (.lst (ws.map fun w:Nat=>V.int w))→Fire.Ys (Um ls st rs) (fun _=>0) ws d→(∀w,¬Wb ls st rs d w)→Q (.ref r) H'
section
variable {P:Program}{w:World}{K:PySem.W.Frag}{mg:Str→Option Value}{base:Heap}
theorem Zbq(T:Tp K mg):Zk P w K mg base (CXX P w) 2 T.f_Course_row_from T.d_Course_row_from ["self","starts"] (Uy T):=by
 have G_enough:Zk P w K mg base (CXX P w) 1 T.f_enough T.d_enough ["heaps","takes"] (ZdP T):=(ZhP T).mono (by decide);have cl_Course:=T.cl_Course;have na_Course:=T.na_Course;refine T.F_Course_row_from.okX ZQ (fun vs H Q E h=>?_) (fun cdv A outer s H vs Q E hr h=>?_)
 ·obtain⟨p,s,ls,rs,st,rfl,_⟩:=h
  rfl
 ·have hu:=hr.units;obtain⟨p,s,ls,rs,st,rfl,hc,hs,hsl,hbt,hz,hn,hpos,htot,q⟩:=h;obtain⟨dx,a,b,c,d0,e,ia,ib,ic,bs,h1,h2,h3,h4,h5,h6,h7,h8,h9,h10⟩:=id hc;have npos:∀v<rs.length,1≤ZR rs v:=fun v hv=>by
   have:=hpos rs[v] (List.getElem_mem hv);simp only[ZR,List.getD,List.getElem?_eq_getElem hv,Option.getD_some];omega
  refine⟨_,(Zc (Zt (i:=2) ZQ.nd rfl (Or.inr rfl) (Ul (ZaS (K:=K) rfl) (by rfl) T.n_list PyProof.Rows.boot_list (Za (pv 1) Zb)))
     (Zc (Zt (i:=3) ZQ.nd rfl (Or.inl rfl) (Ul (ZaS (K:=K) rfl) (by rfl) T.n_list PyProof.Rows.boot_list (Za (ZW (K:=K) rfl (pv 0) rfl) Zb)))
     (Zc (Zcx (j:=4) (xs:=["takes"]) rfl (Yi (x:="takes") (zs:=["heaps"]) (ix:=[2]) (Zi YL) ["self","starts","heaps","left","able","row","work","belt","take","give","other"] rfl rfl (by decide+kernel)) (Z6 (K:=K) rfl (ZW (K:=K) rfl (pv 0) rfl)) (fun cl C s H fp=>⟨(Zp (i:=0) (show(["takes","heaps"]:List Str).Nodup by decide+kernel) rfl (Or.inl rfl)),Ye,(Zw G_enough hr rfl T.m_enough T.F_enough.kp T.b_enough .nil U3 (Za (pv 1) (Za (pv 0) Zb)))⟩) ZQ.nd rfl (Or.inl rfl))
     (Zc (Zt (i:=5) ZQ.nd rfl (Or.inl rfl) (WU Zb))
     (Zc (V7 PassesOwn.leaving (ZC (Zml (K:=K) rfl) VI (pv 4) (by with_unfolding_all rfl)) (Zc (Zt (i:=6) ZQ.nd rfl (Or.inl rfl) (Wi (K:=K) rfl PySem.F.plainAttrs_list PySem.F.slot_list_index PySem.F.type_list_index ZhS (pv 4) (Za VI Zb)))
     (Zc (ZX (Wi (K:=K) rfl PySem.F.plainAttrs_list PySem.F.slot_list_append PySem.F.type_list_append YT (pv 5) (Za (pv 6) Zb)))
     (Zc (Zdn (pv 3) (pv 6) (ZbI (K:=K) rfl) Zh ZhG Vo)
     (Zc (Y1 PassesOwn.leaving rfl (Z6 (K:=K) rfl (Zo (ZA (K:=K) rfl) (ZW (K:=K) rfl (pv 0) rfl) (pv 6) (fun _ _=>rfl))) (YX (K:=K) (n:=2) rfl rfl (ZI (Zp (i:=7) ZQ.nd rfl (Or.inl rfl)) (ZI (Zp (i:=8) ZQ.nd rfl (Or.inl rfl)) YW))) (Zg (Zdn (pv 2) (pv 7) (ZbI (K:=K) rfl) (pv 8) ZhG Vo)))
     (Zc (Y1 PassesOwn.leaving rfl (Z6 (K:=K) rfl (Zo (ZA (K:=K) rfl) (ZW (K:=K) rfl (pv 0) rfl) (pv 6) (fun _ _=>rfl))) (YX (K:=K) (n:=2) rfl rfl (ZI (Zp (i:=7) ZQ.nd rfl (Or.inl rfl)) (ZI (Zp (i:=9) ZQ.nd rfl (Or.inl rfl)) YW))) (Zg (Zdn (pv 2) (pv 7) (ZbI (K:=K) rfl) (pv 9) ZeR Vo)))
     (Zg (Y1 PassesOwn.leaving rfl (Z6 (K:=K) rfl (Zo (ZA (K:=K) rfl) (ZW (K:=K) rfl (pv 0) rfl) (pv 6) (fun _ _=>rfl))) (Zp (i:=10) ZQ.nd rfl (Or.inl rfl)) (Zg (WT (Zax (W7 ZbX (Zo (ZA (K:=K) rfl) (pv 3) (pv 10) (fun _ _=>rfl)) Zh (ZE _)) (Zav (Zw G_enough hr rfl T.m_enough T.F_enough.kp T.b_enough .nil Zm (Za (pv 2) (Za (Zo (ZA (K:=K) rfl) (ZW (K:=K) rfl (pv 0) rfl) (pv 10) (fun _ _=>rfl)) Zb))))) (VS (pv 4) (pv 10) Vo)))))))))))
     (Zg (Zx (pv 5)))))))),?_⟩
  try dsimp only[L2.cxX,L2.ZP,L2.Zl]
  walk_at "rds";refine Rd.ZbK hs (fun h hh0=>?_);have s1:Zd H (upd H h (.lst (st.map V.int))):=Zn hh0;have hh1:(upd H h (.lst (st.map V.int))) h=some (.lst (st.map V.int)):=Zf;generalize upd H h (.lst (st.map V.int))=H1 at*;have g1:=s1 _ _ h1;have g2:=s1 _ _ h2;walk_at "rds";refine Rd.ZbK (.of g2) (fun l hl0=>?_);have s2:Zd H1 (upd H1 l (.lst (rs.map V.int))):=Zn hl0;have hl2:(upd H1 l (.lst (rs.map V.int))) l=some (.lst (rs.map V.int)):=Zf;generalize upd H1 l (.lst (rs.map V.int))=H2 at*;have hh2:=s2 _ _ hh1;have hl00:H l=none:=ZK s1 hl0;have s02:=s1.trans s2;have k1:=s02 _ _ h1;have k5:=s02 _ _ h5;have e0:lieL ls st (fun _=>0)=st:=by
   refine List.ext_getElem (by rw[Z5 hsl,hsl]) fun j a1 a2=>?_;rw[Wj hsl (by omega)];unfold Fire.lie fB;simp
  have ial:ia.length=rs.length:=by rw[h6.len];simp[Zbz]
  walk_at "rds";refine Yw (own:=1) (ZZ (SqL.of k5)).y (Zs (by rw[List.length_map];omega)) (fun i=>[some (.ref (ia.getD i 0))]) (fun _=>rfl) (fun _=>true) (fun(i:Nat) v _=>v= .bl (Wn ls st rs (fun _=>0) i)) (fun _ _ _ _ _ z=>z) (fun i a' H' v H2 Kg hi sm y ha' k=>?_) (fun i H' Kc hi sm k=>?_) (fun pp i H' Kc hi hc hp0 hp1' sm k=>?_) (fun ab H3 ys hab0 s3 hab3 hR=>?_)
  ·obtain⟨rfl,rfl⟩:=y;obtain⟨x1,rfl⟩:∃x1,a'=[x1]:=by
    match a',ha' with
    | [x1],_=>exact⟨x1,rfl⟩
   have hi':i<ia.length:=by simpa using hi
   have ev:(ia.map V.ref).getD i .non= .ref (ia.getD i 0):=by simp[List.getD,hi']
   rw[ev];walk_at "rds";exact k _ (Zd.refl _)
  ·walk_at "rds";exact k H' (Zd.refl H')
  ·have hi':i<rs.length:=by rw[List.length_map] at hi;omega
   obtain⟨x,e1,vs,e2,e3⟩:=Paired.get h6 (i:=i) (x:=Yf ls i) (by simp[Zbz,hi']);have ex:ia.getD i 0=x:=by simp[List.getD,e1]
   rw[ex];have sH:=s02.trans sm;have tl:=Zcb (ls:=ls) (w:=i);walk_at "rds";refine⟨h,x,st,Yf ls i,vs,rfl,.of (sm _ _ hh2),.of (sH _ _ e2),e3.keep fun _ _ z=>sH _ _ z,ZcL hsl,by omega,fun H5 s5=>?_⟩;refine k _ H5 s5 ?_;rw[ZcV hsl];unfold Wn;rw[e0,decide_eq_true (show(fun _=>0) i<ZR rs i from npos i hi'),Bool.true_and]
  rw[List.filter_eq_self.mpr (by simp),List.length_map,ial] at hR;have eys:ys=(Wv ls st rs (fun _=>0)).map V.bl:=by
   have:∀{is:List Nat}{zs:List V},Paired (fun(i:Nat) v=>v=V.bl (Wn ls st rs (fun _=>0) i)) is zs→zs=(is.map fun i=>Wn ls st rs (fun _=>0) i).map V.bl:=by
    intro is zs h
    induction h with
    |nil=>rfl
    |cons a _ ih=>rw[a,ih];rfl
   exact this hR
  subst eys;have hh3:=s3 _ _ hh2;have hl3:=s3 _ _ hl2;walk_at "rds";refine⟨Nat.zero_le _,fun r hr0=>?_⟩;have s4:Zd H3 (upd H3 r (.lst [])):=Zn hr0;have hr4:(upd H3 r (.lst [])) r=some (.lst []):=Zf;generalize upd H3 r (.lst [])=H4 at*;have s04:=s02.trans (s3.trans s4);have hab4:=s4 _ _ hab3;have hh4:=s4 _ _ hh3;have hl4:=s4 _ _ hl3;have nhl:h≠l:=Zj hh1 hl0;have nha:h≠ab:=Zj hh2 hab0;have nla:l≠ab:=Zj hl2 hab0;have nhr:h≠r:=Zj hh3 hr0;have nlr:l≠r:=Zj hl3 hr0;have nar:ab≠r:=Zj hab3 hr0;have hab00:H ab=none:=ZK s02 hab0;have hr00:H r=none:=ZK (s02.trans s3) hr0;have el0:Z0 rs (fun _=>0)=rs:=by
   refine List.ext_getElem (by simp[Z0]) fun v a1 a2=>?_;have:=hpos rs[v] (List.getElem_mem a2);simp[Z0,ZR,List.getD,a2];omega
  walk_at "rds";refine Zay (fun m σ H'=>∃(ws:List Nat)(d:Nat→Nat)(a1 a2 a3 a4 a5:Option V),m=tot rs-ws.length∧σ=[some (.ref p),some (.ref s),some (.ref h),some (.ref l),some (.ref ab),some (.ref r),a1,a2,a3,a4,a5]∧Zd H H'∧Fire.Ys (Um ls st rs) (fun _=>0) ws d∧H' h=some (.lst ((lieL ls st d).map V.int))∧H' l=some (.lst ((Z0 rs d).map V.int))∧H' ab=some (.lst ((Wv ls st rs d).map V.bl))∧H' r=some (.lst (ws.map fun w:Nat=>V.int w))) _ ⟨[],fun _=>0,_,_,_,_,_,rfl,rfl,s04,.nil _,by rw[e0];exact hh4,by rw[el0];exact hl4,hab4,hr4⟩ ?_;rintro m σ H5 ⟨ws,d,a1,a2,a3,a4,a5,rfl,rfl,s5,hrun,hh5,hl5,hab5,hr5⟩;walk_at "rds";refine⟨ab,_,rfl,.inl (SqL.of hab5),rfl,Zi5 _,?_⟩;rw[if_neg (by decide),ZhW];walk_at "rds";refine Vp (fun c=>ZbS ?_) (fun c=>?_)
  ·have hin:true∈Wv ls st rs d:=by simpa using c
   obtain⟨w,hw1,hw2⟩:=ZcI hin;have hwn:w<rs.length:=by have:=(List.getElem?_eq_some_iff.mp hw1).1;rw[Zhp] at this;exact this
   have hmay:Wb ls st rs d w:=by
    rw[Zfd hwn] at hw1;exact(Za0 hsl hbt hwn).mp (Option.some.inj hw1)
   have hfirst:Um ls st rs d w:=⟨hmay,fun v hv=>by
    have:=hw2 v hv;rw[Zfd (by omega)] at this;exact(Zgf hsl hbt (by omega)).mp (Option.some.inj this)⟩
   have hrun':=hrun.snoc hfirst;have hlt:=ZjD (Zai hrun) hmay;have w0:(0:Int)≤(w:Int):=Int.natCast_nonneg w;have wl:(ws.map fun w:Nat=>V.int w).length<sizeLine:=Zs (by rw[List.length_map];omega);have wlt:(w:Int)<((Z0 rs d).map V.int).length:=by rw[List.length_map,Zbd];omega
   walk_at "rds";refine Rd.Zkp hab5 hw1 hw2 ?_;walk_at "rds";have s6:Zd H (upd H5 r (.lst ((ws.map fun w:Nat=>V.int w)++ [.int w]))):=s5.new hr00;have hr6:(upd H5 r (.lst ((ws.map fun w:Nat=>V.int w)++ [.int w]))) r=some (.lst ((ws++ [w]).map fun w:Nat=>V.int w)):=by rw[Zf];simp
   have hh6:(upd H5 r (.lst ((ws.map fun w:Nat=>V.int w)++ [.int w]))) h=some (.lst ((lieL ls st d).map V.int)):=by rw[Ze nhr];exact hh5
   have hl6:(upd H5 r (.lst ((ws.map fun w:Nat=>V.int w)++ [.int w]))) l=some (.lst ((Z0 rs d).map V.int)):=by rw[Ze nlr];exact hl5
   have hab6:(upd H5 r (.lst ((ws.map fun w:Nat=>V.int w)++ [.int w]))) ab=some (.lst ((Wv ls st rs d).map V.bl)):=by rw[Ze nar];exact hab5
   generalize upd H5 r (.lst ((ws.map fun w:Nat=>V.int w)++ [.int w]))=H6 at*;have atl:=YE (ns:=Z0 rs d) w0 (by rw[Zbd];omega);walk_at "rds";have eL:((Z0 rs d).map V.int).set (w:Int).toNat (V.int ((Z0 rs d).getD (w:Int).toNat 0-1))=(Z0 rs (Fire.bump d w)).map V.int:=by
    rw[Int.toNat_natCast,←Zgg hwn,List.map_set]
   rw[eL];have s7:Zd H (upd H6 l (.lst ((Z0 rs (Fire.bump d w)).map V.int))):=s6.new hl00;have hl7:(upd H6 l (.lst ((Z0 rs (Fire.bump d w)).map V.int))) l=some (.lst ((Z0 rs (Fire.bump d w)).map V.int)):=Zf;have hr7:(upd H6 l (.lst ((Z0 rs (Fire.bump d w)).map V.int))) r=_:=(Ze nlr.symm).trans hr6;have hh7:(upd H6 l (.lst ((Z0 rs (Fire.bump d w)).map V.int))) h=_:=(Ze nhl).trans hh6;have hab7:(upd H6 l (.lst ((Z0 rs (Fire.bump d w)).map V.int))) ab=_:=(Ze nla.symm).trans hab6;generalize upd H6 l (.lst ((Z0 rs (Fire.bump d w)).map V.int))=H7 at*;clear hr6 hh6 hab6 hl6 atl eL;obtain⟨x,vs,at1,hx,hpx⟩:=h6.at w0 (l:=Yf ls w) (by simp[Zbz,hwn]);obtain⟨y,vs',at2,hy,hpy⟩:=h8.at w0 (l:=UU ls w) (by simp[Zhx,hwn]);obtain⟨ms,hms,htc⟩:=h10.2 w hwn;have at4:atI (ic.map V.ref) (w:Int)=some (.ref (ic.getD w 0)):=Wf (by rw[List.getElem?_map,List.getElem?_eq_getElem (show w<ic.length by rw[h10.1];exact hwn)];simp[List.getD,show w<ic.length by rw[h10.1];exact hwn]);have m1:=s7 _ _ h1;have m5:=s7 _ _ h5;have mx:=s7 _ _ hx;have vl:vs.length=(ZS ls w).length:=by rw[←Paired.length hpx];unfold Yf;simp
   have vl':vs'.length=(ZF ls w).length:=by rw[←Paired.length hpy];unfold UU;simp
   have hln:=Z5 (d:=d) hsl;generalize ehs:lieL ls st d=hs0 at*;walk_at "rds";refine V5 (ZZ (SqL.of hx)) (fun j σ H'=>Zd H H'∧(∃a2 a3 a4 a5,σ=[some (.ref p),some (.ref s),some (.ref h),some (.ref l),some (.ref ab),some (.ref r),some (.int w),a2,a3,a4,a5])∧H' l=some (.lst ((Z0 rs (Fire.bump d w)).map V.int))∧H' r=some (.lst ((ws++ [w]).map fun w:Nat=>V.int w))∧H' ab=some (.lst ((Wv ls st rs d).map V.bl))∧H' h=some (.lst ((bump (fun i=>-(ls.getD i dB).take) hs0 ((ZS ls w).take j)).map V.int))) ⟨s7,⟨_,_,_,_,rfl⟩,hl7,hr7,hab7,hh7⟩ (fun i σ H' h=>h.1) ?_ ?_
   ·rintro j σ H8 hj ⟨s8,⟨a2,a3,a4,a5,rfl⟩,hl8,hr8,hab8,hh8⟩;have hj':j<(ZS ls w).length:=by omega
    obtain⟨t,ht1,ht2⟩:=Zh2 hpx hj';have hlt:=Zbb (List.getElem_mem hj');have bs':=ZdE (f:=fun i=>-(ls.getD i dB).take) (hs:=hs0) hj';rw[ht1];refine Rd.VL (.of (s8 _ _ ht2)) rfl ?_;generalize (ZS ls w)[j]=m at*;have bl:=WL (fun i=>-(ls.getD i dB).take) ((ZS ls w).take j) hs0;generalize bump (fun i=>-(ls.getD i dB).take) hs0 ((ZS ls w).take j)=us at*;have at3:=YE (ns:=us) (k:=(m:Int)) (Int.natCast_nonneg m) (by omega);have ml:(m:Int)<((us.map V.int).length:Int):=by simp;omega
    walk_at "rds";refine⟨s8.new hh0,⟨_,_,_,_,rfl⟩,by rw[Ze nhl.symm];exact hl8,by rw[Ze nhr.symm];exact hr8,by rw[Ze nha.symm];exact hab8,?_⟩;rw[Zf,bs',List.map_set]
    rfl
   ·rintro σ H8 ⟨s8,⟨a2,a3,a4,a5,rfl⟩,hl8,hr8,hab8,hh8⟩;have m18:=s8 _ _ h1;have m78:=s8 _ _ h7;have my:=s8 _ _ hy;rw[vl,List.take_length] at hh8;walk_at "rds";have bl:=WL (fun i=>-(ls.getD i dB).take) (ZS ls w) hs0;refine V5 (ZZ (SqL.of hy)) (fun j σ H'=>Zd H H'∧(∃a2 a3 a4 a5,σ=[some (.ref p),some (.ref s),some (.ref h),some (.ref l),some (.ref ab),some (.ref r),some (.int w),a2,a3,a4,a5])∧H' l=some (.lst ((Z0 rs (Fire.bump d w)).map V.int))∧H' r=some (.lst ((ws++ [w]).map fun w:Nat=>V.int w))∧H' ab=some (.lst ((Wv ls st rs d).map V.bl))∧H' h=some (.lst ((bump (fun i=>(ls.getD i dB).give) (bump (fun i=>-(ls.getD i dB).take) hs0 (ZS ls w)) ((ZF ls w).take j)).map V.int))) ⟨s8,⟨_,_,_,_,rfl⟩,hl8,hr8,hab8,hh8⟩ (fun i σ H' h=>h.1) ?_ ?_
    ·rintro j σ H9 hj ⟨s9,⟨a2,a3,a4,a5,rfl⟩,hl9,hr9,hab9,hh9⟩;have hj':j<(ZF ls w).length:=by omega
     obtain⟨t,ht1,ht2⟩:=Zh2 hpy hj';have hlt:=Zah (List.getElem_mem hj');have bs':=ZdE (f:=fun i=>(ls.getD i dB).give) (hs:=bump (fun i=>-(ls.getD i dB).take) hs0 (ZS ls w)) hj';rw[ht1];refine Rd.VL (.of (s9 _ _ ht2)) rfl ?_;generalize (ZF ls w)[j]=m at*;have bl2:=WL (fun i=>(ls.getD i dB).give) ((ZF ls w).take j) (bump (fun i=>-(ls.getD i dB).take) hs0 (ZS ls w));generalize bump (fun i=>(ls.getD i dB).give) (bump (fun i=>-(ls.getD i dB).take) hs0 (ZS ls w)) ((ZF ls w).take j)=us at*;have at3:=YE (ns:=us) (k:=(m:Int)) (Int.natCast_nonneg m) (by omega);have ml:(m:Int)<((us.map V.int).length:Int):=by simp;omega
     walk_at "rds";refine⟨s9.new hh0,⟨_,_,_,_,rfl⟩,by rw[Ze nhl.symm];exact hl9,by rw[Ze nhr.symm];exact hr9,by rw[Ze nha.symm];exact hab9,?_⟩;rw[Zf,bs',List.map_set]
     rfl
    ·rintro σ H9 ⟨s9,⟨a2,a3,a4,a5,rfl⟩,hl9,hr9,hab9,hh9⟩;rw[vl',List.take_length,Zgz hln] at hh9;have m19:=s9 _ _ h1;have m59:=s9 _ _ h5;have m99:=s9 _ _ h9;have mm:=s9 _ _ hms;walk_at "rds";rw[←ehs,ZdN hsl hbt] at hh9;have hln':=Z5 (d:=Fire.bump d w) hsl;refine V5 (ZZ (SqL.of hms)) (fun j σ H'=>Zd H H'∧(∃a2 a3 a4 a5,σ=[some (.ref p),some (.ref s),some (.ref h),some (.ref l),some (.ref ab),some (.ref r),some (.int w),a2,a3,a4,a5])∧H' l=some (.lst ((Z0 rs (Fire.bump d w)).map V.int))∧H' r=some (.lst ((ws++ [w]).map fun w:Nat=>V.int w))∧H' h=some (.lst ((lieL ls st (Fire.bump d w)).map V.int))∧H' ab=some (.lst ((W4 ls st rs d (Fire.bump d w) (ms.take j)).map V.bl))) ⟨s9,⟨_,_,_,_,rfl⟩,hl9,hr9,hh9,by rw[List.take_zero,Zij];exact hab9⟩ (fun i σ H' h=>h.1) ?_ ?_
     ·rintro j σ H10 hj ⟨s10,⟨a2,a3,a4,a5,rfl⟩,hl10,hr10,hh10,hab10⟩;have hj':j<ms.length:=by simpa using hj
      have ev:(ms.map V.int).getD j .non= .int ms[j]:=by simp[List.getD,hj']
      have hmj:=(htc.2 ms[j]).mp (List.getElem_mem hj');have hmr:0≤ms[j]∧ms[j]<(rs.length:Int):=by
       rcases hmj with z|⟨i,hi,z⟩
       ·omega
       ·have hil:=Zah hi;have hbj:=hbt ls[i] (List.getElem_mem hil);rw[Zv hil] at z;omega
      obtain⟨v,hv⟩:∃v:Nat,ms[j]=(v:Int):=⟨ms[j].toNat,by omega⟩;have hvn:v<rs.length:=by omega
      have etk:ms.take (j+1)=ms.take j++ [(v:Int)]:=by rw[List.take_succ_eq_append_getElem hj',hv]
      rw[ev,hv];obtain⟨x2,vs2,at5,hx2,hpx2⟩:=h6.at (w:=(v:Int)) (Int.natCast_nonneg v) (l:=Yf ls v) (by simp[Zbz,hvn]);have n1:=s10 _ _ h1;have n5:=s10 _ _ h5;have nx2:=s10 _ _ hx2;have tl:=Zcb (ls:=ls) (w:=v);have atl:=YE (ns:=Z0 rs (Fire.bump d w)) (k:=(v:Int)) (Int.natCast_nonneg v) (by rw[Zbd];omega);rw[Int.toNat_natCast,ZeF hvn] at atl;have abl:(v:Int)<(((W4 ls st rs d (Fire.bump d w) (ms.take j)).map V.bl).length:Int):=by simp[W4];omega
      walk_at "rds";refine Vp (fun c2=>?_) (fun c2=>?_)
      ·have hlt2:Fire.bump d w v<ZR rs v:=by have:=of_decide_eq_true c2;omega
       walk_at "rds";refine⟨h,x2,lieL ls st (Fire.bump d w),Yf ls v,vs2,rfl,.of hh10,.of nx2,hpx2.keep fun _ _ z=>s10 _ _ z,ZcL hln',by omega,fun H11 s11=>?_⟩;rw[ZcV hln'];have em:WC ls (lieL ls st (Fire.bump d w)) v=Wn ls st rs (Fire.bump d w) v:=by unfold Wn;rw[decide_eq_true hlt2,Bool.true_and]
       rw[em];have hab11:=s11 _ _ hab10;have hl11:=s11 _ _ hl10;have hr11:=s11 _ _ hr10;have hh11:=s11 _ _ hh10;walk_at "rds";refine⟨(s10.trans s11).new hab00,⟨_,_,_,_,rfl⟩,by rw[Ze nla];exact hl11,by rw[Ze nar.symm];exact hr11,by rw[Ze nha];exact hh11,?_⟩;rw[Zf,etk,←ZdU,List.map_set]
       rfl
      ·have hge:¬Fire.bump d w v<ZR rs v:=by
        have:=of_decide_eq_false (by simpa using c2:decide (0<(ZR rs v:Int)-(Fire.bump d w v:Int))=false);omega
       have em:Wn ls st rs (Fire.bump d w) v=false:=by unfold Wn;rw[decide_eq_false hge,Bool.false_and]
       walk_at "rds";refine⟨s10.new hab00,⟨_,_,_,_,rfl⟩,by rw[Ze nla];exact hl10,by rw[Ze nar.symm];exact hr10,by rw[Ze nha];exact hh10,?_⟩;rw[Zf,etk,←ZdU,List.map_set,em]
       rfl
     ·rintro σ H10 ⟨s10,⟨a2,a3,a4,a5,rfl⟩,hl10,hr10,hh10,hab10⟩;rw[List.length_map,List.take_length,Zja hsl hbt htc] at hab10;walk_at "rds";exact⟨tot rs-(ws++ [w]).length,by rw[List.length_append,List.length_singleton];omega,ws++ [w],Fire.bump d w,_,_,_,_,_,rfl,rfl,s10,hrun',hh10,hl10,hab10,hr10⟩
  ·walk_at "rds";exact q r H5 ws d hr00 s5 hr5 hrun (Zi7 hsl hbt (by simpa using c))
end
def Vc{K:PySem.W.Frag}{mg:Str→Option Value}(T:Tp K mg):Sp:=fun vs H Q E=>∃(p s c:Addr)(ls:List B5)(rs st cs:List Int),vs=[.ref p,.ref s,.ref c]∧Wc T H p ls rs∧SqL K H s (st.map V.int)∧SqL K H c (cs.map V.int)∧st.length=ls.length∧cs.length=rs.length∧ZH ls rs.length∧YH ls∧ls.length≤1000∧(∀x∈cs,0≤x∧x≤1000)∧
 ∀(r:Addr)(H':Hp)(kvs:List (Key×V)),H r=none→Zd H H'→H' r=some (.dK kvs)→VC ls rs st cs ls.length kvs→Q (.ref r) H'
section
variable {P:Program}{w:World}{K:PySem.W.Frag}{mg:Str→Option Value}{base:Heap}
theorem Zaq(T:Tp K mg):Zk P w K mg base (CXX P w) 1 T.f_Course_waits_behind T.d_Course_waits_behind ["self","starts","counts"] (Vc T):=by
 have cl_Course:=T.cl_Course;have na_Course:=T.na_Course;refine T.F_Course_waits_behind.okX Yh (fun vs H Q E h=>?_) (fun cdv A outer s H vs Q E hr h=>?_)
 ·obtain⟨p,s,c,ls,rs,st,cs,rfl,_⟩:=h
  rfl
 ·have hu:=hr.units;obtain⟨p,s,c,ls,rs,st,cs,rfl,hc,hs,hcs,hsl,hcl,hbt,hsz,hz,hcb,q⟩:=h;obtain⟨dx,a,b,c2,d0,e,ia,ib,ic,bs,h1,h2,h3,h4,h5,h6,h7,h8,h9,h10⟩:=id hc;have hbl:=h4.length;refine⟨_,(Zc (Zt (i:=3) Yh.nd rfl (Or.inl rfl) U5)
     (Zc (Y1 PassesOwn.leaving rfl (ZaF (K:=K) rfl rfl T.n_enumerate (Za (ZW (K:=K) rfl (pv 0) rfl) Zb)) (YX (K:=K) (n:=2) rfl rfl (ZI (Zp (i:=4) Yh.nd rfl (Or.inl rfl)) (ZI (Zp (i:=5) Yh.nd rfl (Or.inl rfl)) YW))) (Zc (Zt (i:=6) Yh.nd rfl (Or.inl rfl) (ZL Uw (ZL (Y4 (K:=K) rfl) (Zo (ZA (K:=K) rfl) (pv 1) (pv 4) (fun _ _=>rfl)) (ZL WG (Zo (ZA (K:=K) rfl) (pv 5) Zh (fun _ _=>rfl)) (Zo (ZA (K:=K) rfl) (pv 2) (Zo (ZA (K:=K) rfl) (pv 5) Zh (fun _ _=>rfl)) (fun _ _=>rfl)))) (ZL WG (Zo (ZA (K:=K) rfl) (pv 5) Zh (fun _ _=>rfl)) (Zo (ZA (K:=K) rfl) (pv 2) (Zo (ZA (K:=K) rfl) (pv 5) Zh (fun _ _=>rfl)) (fun _ _=>rfl)))))
     (Zg (ZV (PW.pt (VH (ZC UP (Zo (ZA (K:=K) rfl) (pv 2) (Zo (ZA (K:=K) rfl) (pv 5) Zh (fun _ _=>rfl)) (fun _ _=>rfl)) (Zo (ZA (K:=K) rfl) (ZW (K:=K) rfl (pv 0) rfl) (Zo (ZA (K:=K) rfl) (pv 5) Zh (fun _ _=>rfl)) (fun _ _=>rfl)) (ZE _)) (Vw (ZC UP (pv 6) (Zo (ZA (K:=K) rfl) (pv 5) Zh (fun _ _=>rfl)) (ZE _))))) (Zg (ZX (Wi (K:=K) rfl PySem.F.plainAttrs_dict PySem.F.slot_dict_setdefault PySem.F.type_dict_setdefault Zho (pv 3) (Za (Zo (ZA (K:=K) rfl) (pv 5) Zh (fun _ _=>rfl)) (Za (pv 4) Zb))))) ZJ))))
     (Zg (Zx (pv 3))))),?_⟩
  try dsimp only[L2.cxX,L2.ZP,L2.Zl]
  walk_at "rds";intro r hr;have s1:Zd H (upd H r (.dK [])):=Zn hr;have hr1:(upd H r (.dK [])) r=some (.dK []):=Zf;generalize upd H r (.dK [])=H1 at*;have g1:=s1 _ _ h1;have g3:=s1 _ _ h3;walk_at "rds";refine Vt (Vz (SqL.of h3)) (fun i σ H'=>∃(kvs:List (Key×V))(a1 a2 a3:Option V),σ=[some (.ref p),some (.ref s),some (.ref c),some (.ref r),a1,a2,a3]∧Zd H H'∧H' r=some (.dK kvs)∧VC ls rs st cs i kvs) ⟨[],_,_,_,rfl,s1,hr1,VC.nil⟩ (fun i σ H' h=>(let⟨_,_,_,_,_,s,_⟩:=h;s)) ?_ ?_
  ·rintro i σ H4 v H5 hi ⟨kvs,a1,a2,a3,rfl,s4,hr4,hw⟩ ⟨t,ht,rfl,rfl⟩;have hil:i<ls.length:=by omega
   obtain⟨u,hu1,hu2⟩:=h4.getD (i:=i) hil;rw[hu1];have nrt:r≠t:=Zj hr4 ht;have s5:Zd H (upd H4 t (.tup [.int i,.ref u])):=s4.trans (Zn ht);have ht5:(upd H4 t (.tup [.int i,.ref u])) t=some (.tup [.int i,.ref u]):=Zf;have hr5:(upd H4 t (.tup [.int i,.ref u])) r=some (.dK kvs):=(Ze nrt).trans hr4;generalize upd H4 t (.tup [.int i,.ref u])=H5 at*;refine Rd.VL (.of ht5) rfl ?_;have hb:=hbt ls[i] (List.getElem_mem hil);obtain⟨gv,tk,g0,t0,gl,tl,eg,et⟩:=hsz i hil;rw[←Zv (d:=dB) hil] at hb;have hu5:=s5 _ _ hu2;have g15:=s5 _ _ h1;have g25:=s5 _ _ h2;have hs5:=s5.seq hs;have hc5:=s5.seq hcs;have hkl:=hw.len;have hkz:kvs.length<sizeLine:=Zs (by omega);have hws:=hw.skip;have hwa:=hw.add;unfold Yg at hws hwa;generalize ls.getD i dB=bb at*;have cb:∀{w:Int},0≤w→w<rs.length→∃n:Nat,cs.getD w.toNat 0=(n:Int)∧n<2 ^ 10:=fun{w} a b=>by
    have hm:cs.getD w.toNat 0∈cs:=by rw[Zv (by omega)];exact List.getElem_mem _
    obtain⟨x0,x1⟩:=hcb _ hm;exact⟨(cs.getD w.toNat 0).toNat,by omega,by omega⟩
   obtain⟨n1,en1,l1⟩:=cb hb.1 hb.2.1;obtain⟨n2,en2,l2⟩:=cb hb.2.2.1 hb.2.2.2;have mo1:IntMulOk bb.give (cs.getD bb.giver.toNat 0):=by rw[en1,eg];exact ZaL gl l1 (by decide)
   have mo2:IntMulOk bb.take (cs.getD bb.taker.toNat 0):=by rw[en2,et];exact ZaL tl l2 (by decide)
   have at1:=YE (ns:=st) (k:=(i:Int)) (Int.natCast_nonneg i) (by omega);have at2:=YE (ns:=cs) (k:=bb.giver) hb.1 (by omega);have at3:=YE (ns:=cs) (k:=bb.taker) hb.2.2.1 (by omega);have at4:=YE (ns:=rs) (k:=bb.taker) hb.2.2.1 (by omega);rw[Int.toNat_natCast] at at1;dsimp only[B5.v] at hu5;walk_at "rds";refine Vp (fun c1=>?_) (fun c1=>?_)
   ·have c1':=of_decide_eq_true c1;walk_at "rds";refine Vp (fun c3=>?_) (fun c3=>?_)
    ·have c3':=of_decide_eq_true c3;walk_at "rds";refine⟨.inr (.inr (.inl ⟨rfl,.inl ⟨_,hr5⟩⟩)),?_⟩;walk_at "rds";refine Rd.ZkM hr5 hkz (fun y hy=>?_) (fun hn=>?_)
     ·walk_at "rds";exact⟨kvs,_,_,_,rfl,s5,hr5,hws fun _=>⟨y,hy⟩⟩
     ·walk_at "rds";exact⟨_,_,_,_,rfl,s5.new hr,Zf,hwa ⟨c1',c3'⟩ hn⟩
    ·walk_at "rds";exact⟨kvs,_,_,_,rfl,s5,hr5,hws fun z=>absurd (decide_eq_true z.2) c3⟩
   ·walk_at "rds";exact⟨kvs,_,_,_,rfl,s5,hr5,hws fun z=>absurd (decide_eq_true z.1) c1⟩
  ·rintro σ H4 ⟨kvs,a1,a2,a3,rfl,s4,hr4,hw⟩;rw[hbl] at hw;walk_at "rds";exact q r H4 kvs hr s4 hr4 hw
end
def Vv{K:PySem.W.Frag}{mg:Str→Option Value}(T:Tp K mg):Sp:=fun vs H Q E=>∃(p s c:Addr)(ls:List B5)(rs st cs:List Int),vs=[.ref p,.ref s,.ref c]∧Wc T H p ls rs∧SqL K H s (st.map V.int)∧SqL K H c (cs.map V.int)∧st.length=ls.length∧cs.length=rs.length∧ZH ls rs.length∧YH ls∧ls.length≤1000∧rs.length≤1000∧(∀x∈cs,0≤x∧x≤1000)∧
 (∃j<ls.length,Yg ls rs st cs j)∧(∀j<ls.length,Yg ls rs st cs j→∃i<ls.length,Yc ls i=Uk ls j∧Yg ls rs st cs i)∧
 ∀(r:Addr)(H':Hp)(ring:List Nat),H r=none→Zd H H'→H' r=some (.lst (ring.map fun j:Nat=>V.int j))→Za3 ls rs st cs ring→Q (.ref r) H'
section
variable {P:Program}{w:World}{K:PySem.W.Frag}{mg:Str→Option Value}{base:Heap}
theorem Zaw(T:Tp K mg):Zk P w K mg base (CXX P w) 2 T.f_Course_ring_behind T.d_Course_ring_behind ["self","starts","counts"] (Vv T):=by
 have G_Course_waits_behind:Zk P w K mg base (CXX P w) 1 T.f_Course_waits_behind T.d_Course_waits_behind ["self","starts","counts"] (Vc T):=(Zaq T).mono (by decide);have cl_Course:=T.cl_Course;have na_Course:=T.na_Course;refine T.F_Course_ring_behind.okX Z8 (fun vs H Q E h=>?_) (fun cdv A outer s H vs Q E hr h=>?_)
 ·obtain⟨p,s,c,ls,rs,st,cs,rfl,_⟩:=h
  rfl
 ·have hu:=hr.units;obtain⟨p,s,c,ls,rs,st,cs,rfl,hc,hs,hcs,hsl,hcl,hbt,hsz,hz,hn,hcb,⟨j0,hj0,hsh0⟩,hnx,q⟩:=h;obtain⟨dx,a,b,c2,d0,e,ia,ib,ic,bs,h1,h2,h3,h4,h5,h6,h7,h8,h9,h10⟩:=id hc;refine⟨_,(Zc (Zt (i:=3) Z8.nd rfl (Or.inl rfl) (ZY (pv 0) T.cl_Course T.M_Course_waits_behind G_Course_waits_behind hr T.b_Course_waits_behind .nil Zm (Za (pv 1) (Za (pv 2) Zb))))
     (Zc (Zt (i:=4) Z8.nd rfl (Or.inl rfl) U5)
     (Zc (Zt (i:=5) Z8.nd rfl (Or.inl rfl) (WU Zb))
     (Zc (Zt (i:=6) Z8.nd rfl (Or.inl rfl) (ZB (Zkw rfl) (by rfl) T.n_min PyProof.Rows.boot_min (Za (pv 3) Zb)))
     (Zc (V7 PassesOwn.leaving (ZC (Zbu hu) (pv 6) (pv 4) (by with_unfolding_all rfl)) (Zc (WT (ZB (Y2 (K:=K) rfl) (by rfl) T.n_len PySem.boot_len (Za (pv 5) Zb)) (VS (pv 4) (pv 6) (UX hu)))
     (Zc (ZX (Wi (K:=K) rfl PySem.F.plainAttrs_list PySem.F.slot_list_append PySem.F.type_list_append YT (pv 5) (Za (Zo (UV hu) (pv 3) (pv 6) (fun _ _=>rfl)) Zb)))
     (Zg (Zt (i:=6) Z8.nd rfl (Or.inl rfl) (Zo (ZA (K:=K) rfl) (Zo (ZA (K:=K) rfl) (ZW (K:=K) rfl (pv 0) rfl) (Zo (UV hu) (pv 3) (pv 6) (fun _ _=>rfl)) (fun _ _=>rfl)) Zh (fun _ _=>rfl)))))))
     (Zg (Zx (ZaT (Zgk (K:=K) rfl) (pv 5) (ZbO (Zo (UV hu) (pv 4) (pv 6) (fun _ _=>rfl))) ZbP)))))))),?_⟩
  try dsimp only[L2.cxX,L2.ZP,L2.Zl]
  walk_at "rds";refine⟨p,s,c,ls,rs,st,cs,rfl,hc,hs,hcs,hsl,hcl,hbt,hsz,hz,hcb,fun wa H1 kvs hwa s1 hwa1 hw=>?_⟩;walk_at "rds";intro pl hpl;have s2:Zd H1 (upd H1 pl (.dK [])):=Zn hpl;have hpl2:(upd H1 pl (.dK [])) pl=some (.dK []):=Zf;generalize upd H1 pl (.dK [])=H2 at*;have hwa2:=s2 _ _ hwa1;have hpl0:H pl=none:=ZK s1 hpl;walk_at "rds";refine⟨Nat.zero_le _,fun y hy=>?_⟩;have s3:Zd H2 (upd H2 y (.lst [])):=Zn hy;have hy3:(upd H2 y (.lst [])) y=some (.lst (([]:List Nat).map fun j:Nat=>V.int j)):=Zf;generalize upd H2 y (.lst [])=H3 at*;have hwa3:=s3 _ _ hwa2;have hpl3:=s3 _ _ hpl2;have s03:=s1.trans (s2.trans s3);have hy0:H y=none:=ZK (s1.trans s2) hy;have nwp:wa≠pl:=Zj hwa1 hpl;have nwy:wa≠y:=Zj hwa2 hy;have npy:pl≠y:=Zj hpl2 hy;obtain⟨ks,eks,hks⟩:=hw.keys;obtain⟨y0,ey0⟩:=hw.all j0 hj0 hsh0;have hk0:0<kvs.length:=by
   cases kvs with
   |nil=>simp[Zco] at ey0
   |cons x xs=>exact Nat.succ_pos _
  walk_at "rds";refine Rd.Zmj hwa3 eks hk0 (fun M hM hMin=>?_);obtain⟨yM,eM⟩:=hks M hM;walk_at "rds";refine Zay (fun m σ H'=>∃(ys:List Nat)(kp:List (Key×V))(w:Int)(yv:V),m=rs.length+1-ys.length∧σ=[some (.ref p),some (.ref s),some (.ref c),some (.ref wa),some (.ref pl),some (.ref y),some (.int w)]∧ZM [pl,y] H3 H'∧H' pl=some (.dK kp)∧H' y=some (.lst (ys.map fun j:Nat=>V.int j))∧VP ls rs st cs ys w kp∧valV kvs (Sum.inl w)=some yv) _ ⟨[],[],M,yM,rfl,rfl,ZM.refl,hpl3,hy3,VP.nil M,eM⟩ ?_;rintro m σ H4 ⟨ys,kp,w,yv,rfl,rfl,f4,hpl4,hy4,how,ew⟩;have hshort:=how.short hbt;have hwa4:=f4.keep _ _ hwa3 (by simp[nwp,nwy]);obtain⟨j,hj,rfl,etj,hsj⟩:=hw.val w yv ew;walk_at "rds";have hjt:Yc ls j=w:=etj;have hst':=how.step (j:=j);have hb4:=f4.keep _ _ ((s1.trans (s2.trans s3)) _ _ h3) (by
   have n1:b≠pl:=Zj h3 hpl0;have n2:b≠y:=Zj h3 hy0;simp[n1,n2])
  have hp4:=f4.keep _ _ ((s1.trans (s2.trans s3)) _ _ h1) (by
   have n1:p≠pl:=Zj h1 hpl0;have n2:p≠y:=Zj h1 hy0;simp[n1,n2])
  obtain⟨u,hu1,hu2⟩:=h4.getD (i:=j) hj;have hu4:=f4.tups _ _ (s03 _ _ hu2);have nup:u≠pl:=Zj hu2 hpl0;have nuy:u≠y:=Zj hu2 hy0;have npb:p≠pl:=Zj h1 hpl0;have npy':p≠y:=Zj h1 hy0;have nbp:b≠pl:=Zj h3 hpl0;have nby:b≠y:=Zj h3 hy0;refine Vp (fun cc=>ZbS ?_) (fun cc=>?_)
  ·have hno:valV kp (Sum.inl w)=none:=by simpa using cc
   have hkl:kp.length<sizeLine:=Zs (by have:=how.len;omega);have hyl:(ys.map fun j:Nat=>V.int j).length<sizeLine:=Zs (by rw[List.length_map];omega);have how':=how.step hno hj hsj hjt;have hle:=how'.short hbt;rw[List.length_append,List.length_singleton] at hle;walk_at "rds";have f5:ZM [pl,y] H4 (upd H4 pl (.dK (Z4 kp (Sum.inl w) (.int ys.length)))):=Yy (by simp) hpl4 (by intro _ z;cases z);have hpl5:(upd H4 pl (.dK (Z4 kp (Sum.inl w) (.int ys.length)))) pl=some (.dK (Z4 kp (Sum.inl w) (.int ys.length))):=Zf;have hy5:(upd H4 pl (.dK (Z4 kp (Sum.inl w) (.int ys.length)))) y=_:=(Ze npy.symm).trans hy4;have hwa5:(upd H4 pl (.dK (Z4 kp (Sum.inl w) (.int ys.length)))) wa=_:=(Ze nwp).trans hwa4;have hp5:(upd H4 pl (.dK (Z4 kp (Sum.inl w) (.int ys.length)))) p=_:=(Ze npb).trans hp4;have hb5:(upd H4 pl (.dK (Z4 kp (Sum.inl w) (.int ys.length)))) b=_:=(Ze nbp).trans hb4;have hu5:(upd H4 pl (.dK (Z4 kp (Sum.inl w) (.int ys.length)))) u=_:=(Ze nup).trans hu4;have elen:((ys.map fun j:Nat=>V.int j).length:Int)=(ys.length:Int):=by simp
   rw[elen];generalize upd H4 pl (.dK (Z4 kp (Sum.inl w) (.int ys.length)))=H5 at*;walk_at "rds";have f6:ZM [pl,y] H5 (upd H5 y (.lst ((ys.map fun j:Nat=>V.int j)++ [.int j]))):=Yy (by simp) hy5 (by intro _ z;cases z);have hy6:(upd H5 y (.lst ((ys.map fun j:Nat=>V.int j)++ [.int j]))) y=some (.lst ((ys++ [j]).map fun j:Nat=>V.int j)):=by rw[Zf];simp
   have hpl6:(upd H5 y (.lst ((ys.map fun j:Nat=>V.int j)++ [.int j]))) pl=_:=(Ze npy).trans hpl5;have hwa6:(upd H5 y (.lst ((ys.map fun j:Nat=>V.int j)++ [.int j]))) wa=_:=(Ze nwy).trans hwa5;have hp6:(upd H5 y (.lst ((ys.map fun j:Nat=>V.int j)++ [.int j]))) p=_:=(Ze npy').trans hp5;have hb6:(upd H5 y (.lst ((ys.map fun j:Nat=>V.int j)++ [.int j]))) b=_:=(Ze nby).trans hb5;have hu6:(upd H5 y (.lst ((ys.map fun j:Nat=>V.int j)++ [.int j]))) u=_:=(Ze nuy).trans hu5;generalize upd H5 y (.lst ((ys.map fun j:Nat=>V.int j)++ [.int j]))=H6 at*;have f06:=f4.trans (f5.trans f6);have hbl:=h4.length;have at1:atI bs (j:Int)=some (.ref u):=Wf (by rw[List.getElem?_eq_getElem (show j<bs.length by omega),←hu1,Zv (show j<bs.length by omega)]);obtain⟨i,hi,eti,hsi⟩:=hnx j hj hsj;obtain⟨yn,eyn⟩:=hw.all i hi hsi;have eyn':valV kvs (Sum.inl (Uk ls j))=some yn:=by rw[←eti];exact eyn
   have eg:Uk ls j=(ls.getD j dB).giver:=rfl;rw[eg] at how' eyn';generalize ls.getD j dB=bb at*;dsimp only[B5.v] at hu6;walk_at "rds";exact⟨_,by rw[List.length_append,List.length_singleton];omega,ys++ [j],_,bb.giver,yn,rfl,rfl,f06,hpl6,hy6,how',eyn'⟩
  ·obtain⟨yp,eyp⟩:∃yp,valV kp (Sum.inl w)=some yp:=by
    cases e:valV kp (Sum.inl w) with
    |none=>rw[e] at cc;exact absurd rfl cc
    |some yp=>exact⟨yp,rfl⟩
   obtain⟨k,rfl,hk,hring⟩:=how.ring eyp;walk_at "rds";have s4:Zd H H4:=fun x o e=>f4.keep _ _ (s03 _ _ e) (by
    have n1:x≠pl:=Zj e hpl0;have n2:x≠y:=Zj e hy0;simp[n1,n2])
   refine Rd.slL (.of hy4) (fun r hr=>?_);refine q r _ (ys.drop k) (ZK s4 hr) (s4.trans (Zn hr)) ?_ hring;rw[Zf,Zil (by rw[List.length_map];omega),List.map_drop]
end
def VW{K:PySem.W.Frag}{mg:Str→Option Value}(T:Tp K mg):Sp:=fun vs H Q E=>∃(p s:Addr)(ls:List B5)(rs st:List Int),vs=[.ref p,.ref s]∧Wc T H p ls rs∧SqL K H s (st.map V.int)∧st.length=ls.length∧ZH ls rs.length∧YH ls∧ZeX ls rs∧ls.length≤1000∧rs.length≤1000∧(∀r∈rs,1≤r)∧(∀x∈st,0≤x)∧tot rs≤1000∧
 (∀(t r:Addr)(H':Hp)(ws:List Nat)(d:Nat→Nat),H r=none→Zd H H'→H' t=some (.tup [.ref r,.non])→H' r=some (.lst (ws.map fun w:Nat=>V.int w))→Fire.Ys (Um ls st rs) (fun _=>0) ws d→(∀v<rs.length,d v=ZR rs v)→Q (.ref t) H')∧
 (∀(t u c g:Addr)(H':Hp)(ws:List Nat)(d:Nat→Nat)(ring:List Nat),H c=none→H g=none→Zd H H'→H' t=some (.tup [.non,.ref u])→H' u=some (.tup [.ref c,.ref g])→H' c=some (.lst ((W0 rs.length d).map V.int))→H' g=some (.lst (ring.map fun j:Nat=>V.int j))→Fire.Ys (Um ls st rs) (fun _=>0) ws d→(∀w,¬Wb ls st rs d w)→(∃v<rs.length,d v<ZR rs v)→Za3 ls rs st (W0 rs.length d) ring→Q (.ref t) H')
section
variable {P:Program}{w:World}{K:PySem.W.Frag}{mg:Str→Option Value}{base:Heap}
theorem Za8(T:Tp K mg):Zk P w K mg base (CXX P w) 3 T.f_Course_told_from T.d_Course_told_from ["self","starts"] (VW T):=by
 have G_Course_row_from:Zk P w K mg base (CXX P w) 2 T.f_Course_row_from T.d_Course_row_from ["self","starts"] (Uy T):=(Zbq T).mono (by decide);have G_Course_ring_behind:Zk P w K mg base (CXX P w) 2 T.f_Course_ring_behind T.d_Course_ring_behind ["self","starts","counts"] (Vv T):=(Zaw T).mono (by decide);have cl_Course:=T.cl_Course;have na_Course:=T.na_Course;refine T.F_Course_told_from.okX WI (fun vs H Q E h=>?_) (fun cdv A outer s H vs Q E hr h=>?_)
 ·obtain⟨p,s,ls,rs,st,rfl,_⟩:=h
  rfl
 ·have hu:=hr.units;obtain⟨p,s,ls,rs,st,rfl,hc,hs,hsl,hbt,hsz,hbal,hz,hn,hpos,hs0,htot,q1,q2⟩:=h;refine⟨_,(Zc (Zt (i:=2) WI.nd rfl (Or.inr rfl) (ZY (pv 0) T.cl_Course T.M_Course_row_from G_Course_row_from hr T.b_Course_row_from .nil Zm (Za (pv 1) Zb)))
     (Zc (ZV (ZC (YA (K:=K) rfl hu) (ZB (Y2 (K:=K) rfl) (by rfl) T.n_len PySem.boot_len (Za (pv 2) Zb)) (ZB (Zjz (K:=K) rfl rfl) (by rfl) T.n_sum PyProof.Rows.boot_sum (Za (ZW (K:=K) rfl (pv 0) rfl) Zb)) (ZE _)) (Zg (Zx (YJ (Za (pv 2) (Za Vf Zb))))) ZJ)
     (Zc (ZbW (j:=3) rfl (Yi (x:="work") (zs:=["row"]) (ix:=[2]) (Zi Yz) ["self","starts","row","counts"] rfl rfl (by decide+kernel)) (Wq rfl T.n_range (Za (ZB (Y2 (K:=K) rfl) (by rfl) T.n_len PySem.boot_len (Za (ZW (K:=K) rfl (pv 0) rfl) Zb)) Zb)) (fun cl C s H fp=>⟨(Zp (i:=0) (show(["work","row"]:List Str).Nodup by decide+kernel) rfl (Or.inl rfl)),Ye,(Wi (K:=K) rfl PySem.F.plainAttrs_list PySem.F.slot_list_count PySem.F.type_list_count (ZdS (K:=K) rfl) (pv 1) (Za (pv 0) Zb))⟩) WI.nd rfl (Or.inl rfl))
     (Zg (Zx (YJ (Za Vf (Za (YJ (Za (pv 3) (Za (ZY (pv 0) T.cl_Course T.M_Course_ring_behind G_Course_ring_behind hr T.b_Course_ring_behind .nil Zm (Za (pv 1) (Za (pv 3) Zb))) Zb))) Zb)))))))),?_⟩
  try dsimp only[L2.cxX,L2.ZP,L2.Zl]
  walk_at "rds";refine⟨p,s,ls,rs,st,rfl,hc,hs,hsl,hbt,hz,hn,hpos,htot,fun r H1 ws d hr s1 hr1 hrun hst=>?_⟩;obtain⟨hle,hlen,hlt⟩:=Zep (Zai hrun);have esum:=ZfT (rs:=rs) fun r hr=>(by have:=hpos r hr;omega);have hc1:=hc.same s1;obtain⟨dx,a,b,c,d0,e,ia,ib,ic,bs,h1,h2,h3,h4,h5,h6,h7,h8,h9,h10⟩:=id hc1;walk_at "rds";refine Rd.ZkJ (.of h2) ?_;rw[←esum];walk_at "rds";have elen:((ws.map fun w:Nat=>V.int w).length:Int)=(ws.length:Int):=by simp
  rw[elen];refine Vp (fun cc=>?_) (fun cc=>?_)
  ·have he:ws.length=tot rs:=by have:=of_decide_eq_true cc;omega
   walk_at "rds";refine⟨by show 2≤sizeLine;decide,fun t ht=>?_⟩;refine q1 t r _ ws d hr (s1.trans (Zn ht)) Zf (Zn ht _ _ hr1) hrun (ZfW hle ?_);rw[←hlen,he]
   rfl
  ·have he:ws.length≠tot rs:=fun z=>cc (decide_eq_true (by omega));have hex:∃v<rs.length,d v<ZR rs v:=by
    by_cases z:∃v<rs.length,d v<ZR rs v
    ·exact z
    ·exfalso;refine he ?_;rw[hlen];have:∀v<rs.length,d v=ZR rs v:=fun v hv=>by
      have:=hle v hv;rcases Nat.lt_or_ge (d v) (ZR rs v) with y|y
      ·exact absurd ⟨v,hv,y⟩ z
      ·omega
     exact Nat.le_antisymm (ZaB fun v hv=>by rw[this v hv];exact Nat.le_refl _) (ZaB fun v hv=>by rw[this v hv];exact Nat.le_refl _)
   have ecnt:∀v,d v=ws.count v:=fun v=>by have:=(Zai hrun).count v;omega
   have rl:(rs.map V.int).length=rs.length:=by simp
   have hr1':H1 r=some (.lst ((ws.map fun w:Nat=>(w:Int)).map V.int)):=by rw[hr1,List.map_map];rfl
   walk_at "rds";refine YU Uz (Zs (by rw[rl];exact hn)) (fun _=>true) (fun i=> .int (((ws.map fun w:Nat=>(w:Int)).count (0+(i:Int)):Nat):Int)) (fun i H' Kc hi sm k=>?_) (fun i H' Kc hi _ sm k=>?_) (fun c2 H2 hc20 s2 hc2=>?_)
   ·walk_at "rds";exact k H' (Zd.refl H')
   ·have hr2:=sm _ _ hr1';walk_at "rds";refine Rd.ZhZ (SqL.of hr2) ?_;exact k H' (Zd.refl H')
   ·have ec:H2 c2=some (.lst ((W0 rs.length d).map V.int)):=by
     rw[hc2,List.filter_eq_self.mpr (by simp),rl,Int.toNat_natCast];refine congrArg (fun z=>some (HO.lst z)) ?_;unfold W0;rw[List.map_map];refine List.map_congr_left fun v hv=>?_;show V.int _=V.int ((d v:Nat):Int);rw[Int.zero_add,ecnt v]
     congr 2
     rw[List.count_eq_countP,List.count_eq_countP,List.countP_map];refine List.countP_congr fun x _=>?_;simp;omega
    have hcp:∀x∈W0 rs.length d,0≤x∧x≤1000:=fun x hx=>by
     obtain⟨v,hv,rfl⟩:=List.mem_map.mp hx;have h1:=hle v (by simpa using hv);have h2:ws.count v≤ws.length:=List.count_le_length;have h3:=ecnt v;omega
    obtain⟨v0,hv0,hd0⟩:=hex;obtain⟨j0,hj0,_,hsj0⟩:=Zcf hsl hbt hpos hst hv0 hd0;have hcc:=hc1.same s2;walk_at "rds";refine⟨p,s,c2,ls,rs,st,_,rfl,hcc,s2.seq (s1.seq hs),.of ec,hsl,Zii,hbt,hsz,hz,hn,hcp,⟨j0,hj0,hsj0⟩,fun j hj hsj=>Zgy hsl hbt hpos hst hbal hle hs0 hsz hj hsj,fun g H3 ring hg s3 hg3 hring=>?_⟩;walk_at "rds";refine⟨by show 2≤sizeLine;decide,fun u hu'=>?_⟩;have s4:Zd H3 (upd H3 u (.tup [.ref c2,.ref g])):=Zn hu';have hu4:(upd H3 u (.tup [.ref c2,.ref g])) u=some (.tup [.ref c2,.ref g]):=Zf;generalize upd H3 u (.tup [.ref c2,.ref g])=H4 at*;walk_at "rds";refine⟨by show 2≤sizeLine;decide,fun t ht=>?_⟩;have s5:Zd H4 (upd H4 t (.tup [.non,.ref u])):=Zn ht;have s24:=s3.trans s4;exact q2 t u c2 g _ ws d ring (ZK s1 hc20) (ZK (s1.trans s2) hg) ((s1.trans s2).trans (s24.trans s5)) Zf (s5 _ _ hu4) (s5 _ _ (s24 _ _ ec)) (s5 _ _ (s4 _ _ hg3)) hrun hst ⟨v0,hv0,hd0⟩ hring
end
def Wd{K:PySem.W.Frag}{mg:Str→Option Value}(T:Tp K mg):Sp:=fun vs H Q E=>∃(p:Addr)(i:Int)(hl:HM)(fp:List Addr),vs=[.ref p,.int i]∧Zy T H p hl fp∧
 (¬(0≤i∧i<hl.names.length)→E (.ref T.X_NoWork) none H)∧(0≤i→i<hl.names.length→Q .non H)
section
variable {P:Program}{w:World}{K:PySem.W.Frag}{mg:Str→Option Value}{base:Heap}
theorem W9(T:Tp K mg):Zk P w K mg base (CXX P w) 4 T.f_Hall_need_work T.d_Hall_need_work ["self","work"] (Wd T):=by
 have G_is_number_below:Zk P w K mg base (CXX P w) 3 T.f_is_number_below T.d_is_number_below ["thing","bound"] (Yx T):=(Ui T).mono (by decide);have cl_Hall:=T.cl_Hall;have na_Hall:=T.na_Hall;refine T.F_Hall_need_work.okX Zb2 (fun vs H Q E h=>?_) (fun cdv A outer s H vs Q E hr h=>?_)
 ·obtain⟨p,i,hl,fp,rfl,_⟩:=h
  rfl
 ·have hu:=hr.units;obtain⟨p,i,hl,fp,rfl,hh,e1,q⟩:=h;obtain⟨dx,a,b,bs,rfl,h1,h2,h3,h4,nab,h6⟩:=id hh;refine⟨_,(Zg (ZV (Wz (Yd (K:=K) rfl (Zw G_is_number_below hr rfl T.m_is_number_below T.F_is_number_below.kp T.b_is_number_below .nil Zm (Za (pv 1) (Za (ZB Zf9 (by rfl) T.n_len PySem.boot_len (Za (ZW (K:=K) rfl (pv 0) rfl) Zb)) Zb))) (fun _=>rfl))) (Zg (YQ T.gx_NoWork T.ex_NoWork PySem.F.excBase_ValueError rfl (Za Yb Zb))) ZJ)),?_⟩
  try dsimp only[L2.cxX,L2.ZP,L2.Zl]
  walk_at "rds";rw[US]
  by_cases c:0≤i∧i<hl.names.length
  ·rw[decide_eq_true c];walk_at "rds";exact q c.1 c.2
  ·rw[decide_eq_false c];walk_at "rds";exact e1 c
end
def U9{K:PySem.W.Frag}{mg:Str→Option Value}(T:Tp K mg):Sp:=fun vs H Q E=>∃(p:Addr)(w:Int)(hl:HM)(fp:List Addr),vs=[.ref p,.int w]∧Zy T H p hl fp∧hl.belts.length≤1000∧
 (¬(0≤w∧w<hl.names.length)→E (.ref T.X_NoWork) none H)∧(0≤w→w<hl.names.length→∀r H',H r=none→Zd H H'→H' r=some (.lst ((ZS hl.belts w).map fun i:Nat=>V.int i))→Q (.ref r) H')
section
variable {P:Program}{w:World}{K:PySem.W.Frag}{mg:Str→Option Value}{base:Heap}
theorem Zcl(T:Tp K mg):Zk P w K mg base (CXX P w) 5 T.f_Hall_entering T.d_Hall_entering ["self","work"] (U9 T):=by
 have G_Hall_need_work:Zk P w K mg base (CXX P w) 4 T.f_Hall_need_work T.d_Hall_need_work ["self","work"] (Wd T):=(W9 T).mono (by decide);have cl_Hall:=T.cl_Hall;have na_Hall:=T.na_Hall;refine T.F_Hall_entering.okX Zcz (fun vs H Q E h=>?_) (fun cdv A outer s H vs Q E hr h=>?_)
 ·obtain⟨p,w,hl,fp,rfl,_⟩:=h
  rfl
 ·have hu:=hr.units;obtain⟨p,w,hl,fp,rfl,hh,hz,e1,q⟩:=h;obtain⟨dx,a,b,bs,rfl,h1,h2,h3,h4,nab,h6⟩:=id hh;have hb:=h6.length;refine⟨_,(Zc (ZX (ZY (pv 0) T.cl_Hall T.M_Hall_need_work G_Hall_need_work hr T.b_Hall_need_work .nil Zm (Za (pv 1) Zb)))
     (Zg (Zx (WY (xs:=["belt","row"]) rfl (Yi (x:="belt") (zs:=["work"]) (ix:=[1]) (Zi Y7) ["self","work"] rfl rfl (by decide+kernel)) (ZaF (K:=K) rfl rfl T.n_enumerate (Za (ZW (K:=K) rfl (pv 0) rfl) Zb)) (fun cl C s H fp=>⟨(YX (K:=K) (n:=2) rfl rfl (ZI (Zp (i:=0) (show(["belt","row","work"]:List Str).Nodup by decide+kernel) rfl (Or.inl rfl)) (ZI (Zp (i:=1) (show(["belt","row","work"]:List Str).Nodup by decide+kernel) rfl (Or.inl rfl)) YW))),(Zdh (ZC (YA (K:=K) rfl hu) (Zo (ZA (K:=K) rfl) (pv 1) Zh (fun _ _=>rfl)) (pv 2) (ZE _))),(pv 0)⟩))))),?_⟩
  try dsimp only[L2.cxX,L2.ZP,L2.Zl]
  walk_at "rds";refine⟨p,w,hl,_,rfl,hh,e1,fun w0 w1=>?_⟩;walk_at "rds";refine Yw (own:=2) (Vz (SqL.of h4)) (Zs (by omega)) (fun i=>[some (.int i),some (bs.getD i .non)]) (fun _=>rfl) (fun i=>decide ((hl.belts.getD i dB).taker=w)) (fun i v _=>v= .int i) (fun _ _ _ _ _ z=>z) (fun i a' H' v H2 Kg hi sm y ha k=>?_) (fun i H' Kc hi sm k=>?_) (fun pp i H' Kc hi hc hp0 hp1 sm k=>?_) (fun r H' ys hr sm hl' hR=>?_)
  ·obtain⟨t,ht,rfl,rfl⟩:=y;obtain⟨x1,x2,rfl⟩:∃x1 x2,a'=[x1,x2]:=by
    match a',ha with
    | [x1,x2],_=>exact⟨x1,x2,rfl⟩
   refine Rd.VL (.of Zf) rfl ?_;walk_at "rds";exact k _ (Zn ht)
  ·obtain⟨t,ht1,ht2⟩:=h6.getD (i:=i) (by omega);rw[ht1];have ht3:=sm _ _ ht2;generalize hl.belts.getD i dB=bb at*;dsimp only[B5.v] at ht3;walk_at "rds";exact k H' (Zd.refl H')
  ·walk_at "rds";exact k _ H' (Zd.refl H') rfl
  ·refine q w0 w1 r H' hr sm ?_;rw[hl',UJ (R:=fun i v _=>v=V.int (i:Nat)) (H:=H') (r:=fun i:Nat=>V.int i) (fun _ _ z=>z) hR,hb]
   rfl
end
def Zca{K:PySem.W.Frag}{mg:Str→Option Value}(T:Tp K mg):Sp:=fun vs H Q E=>∃(p:Addr)(w:Int)(hl:HM)(fp:List Addr),vs=[.ref p,.int w]∧Zy T H p hl fp∧hl.belts.length≤1000∧0≤w∧w<hl.names.length∧
 ∀r H' ys,H r=none→Zd H H'→H' r=some (.lst ys)→Vh H' (Yf hl.belts w) ys→Q (.ref r) H'
section
variable {P:Program}{w:World}{K:PySem.W.Frag}{mg:Str→Option Value}{base:Heap}
theorem Zfx(T:Tp K mg):Zk P w K mg base (CXX P w) 6 T.f_takes_of T.d_takes_of ["hall","work"] (Zca T):=by
 have G_Hall_entering:Zk P w K mg base (CXX P w) 5 T.f_Hall_entering T.d_Hall_entering ["self","work"] (U9 T):=(Zcl T).mono (by decide);have G_Hall_belt_at:Zk P w K mg base (CXX P w) 5 T.f_Hall_belt_at T.d_Hall_belt_at ["self","belt"] (YC T):=(Wa T).mono (by decide);have cl_Hall:=T.cl_Hall;have na_Hall:=T.na_Hall;refine T.F_takes_of.okX Zfu (fun vs H Q E h=>?_) (fun cdv A outer s H vs Q E hr h=>?_)
 ·obtain⟨p,w,hl,fp,rfl,_⟩:=h
  rfl
 ·have hu:=hr.units;obtain⟨p,w,hl,fp,rfl,hh,hz,w0,w1,q⟩:=h;refine⟨_,(Zg (Zx (WY (xs:=["belt"]) rfl (Yi (x:="belt") (zs:=["hall"]) (ix:=[0]) (Zi Vx) ["hall","work"] rfl rfl (by decide+kernel)) (Z6 (K:=K) rfl (ZY (pv 0) T.cl_Hall T.M_Hall_entering G_Hall_entering hr T.b_Hall_entering .nil Zm (Za (pv 1) Zb))) (fun cl C s H fp=>⟨(Zp (i:=0) (show(["belt","hall"]:List Str).Nodup by decide+kernel) rfl (Or.inl rfl)),Ye,(YJ (Za (pv 0) (Za (Zo (ZA (K:=K) rfl) (ZY (pv 1) T.cl_Hall T.M_Hall_belt_at G_Hall_belt_at hr T.b_Hall_belt_at .nil U3 (Za (pv 0) Zb)) Zh (fun _ _=>rfl)) Zb)))⟩)))),?_⟩
  try dsimp only[L2.cxX,L2.ZP,L2.Zl]
  walk_at "rds";refine⟨p,w,hl,fp,rfl,hh,hz,fun z=>absurd ⟨w0,w1⟩ z,fun _ _ e H1 he s1 he1=>?_⟩;have hh1:=hh.same s1;have el:=ZcQ (ls:=hl.belts) (w:=w);walk_at "rds";refine Yw (own:=1) (ZZ (SqL.of he1)).y (Zs (by rw[List.length_map];omega)) (fun i=>[some (.int ((ZS hl.belts w).getD i 0:Nat))]) (fun _=>rfl) (fun _=>true) (fun i v H=>∃t,v=V.ref t∧H t=some (.tup [.int ((ZS hl.belts w).getD i 0:Nat),.int (hl.belts.getD ((ZS hl.belts w).getD i 0) dB).take])) (fun _ _ _ _ e ⟨t,z1,z2⟩=>⟨t,z1,e _ _ z2⟩) (fun i a' H' v H2 Kg hi sm y ha' k=>?_) (fun i H' Kc hi sm k=>?_) (fun pp i H' Kc hi hc hp0 hp1 sm k=>?_) (fun r H' ys hr' sm hl' hR=>?_)
  ·obtain⟨rfl,rfl⟩:=y;obtain⟨x1,rfl⟩:∃x1,a'=[x1]:=by
    match a',ha' with
    | [x1],_=>exact⟨x1,rfl⟩
   have hi':i<(ZS hl.belts w).length:=by simpa using hi
   have ev:((ZS hl.belts w).map fun i:Nat=>V.int i).getD i .non= .int ((ZS hl.belts w).getD i 0:Nat):=by simp[List.getD,hi']
   rw[ev];walk_at "rds";exact k _ (Zd.refl _)
  ·walk_at "rds";exact k H' (Zd.refl H')
  ·have hi':i<(ZS hl.belts w).length:=by simpa using hi
   have hm:(ZS hl.belts w).getD i 0∈ZS hl.belts w:=by
    have:(ZS hl.belts w).getD i 0=(ZS hl.belts w)[i]:=by simp[List.getD,hi']
    rw[this];exact List.getElem_mem hi'
   have hlt:=Zbb hm;generalize (ZS hl.belts w).getD i 0=j at*;have hh2:=hh1.same sm;walk_at "rds";refine⟨p,(j:Int),hl,fp,rfl,hh2,fun z=>absurd ⟨Int.natCast_nonneg j,by omega⟩ z,fun _ _ t b hb ht=>?_⟩;have hb':hl.belts[j]? =some b:=hb;have eb:hl.belts.getD j dB=b:=by simp[List.getD,hb']
   rw[eb] at k;dsimp only[B5.v] at ht;walk_at "rds";refine⟨by show 2≤sizeLine;decide,fun u hu'=>?_⟩;exact k _ _ (Zn hu') ⟨u,rfl,Zdp hp1 hu'⟩
  ·refine q r H' ys ?_ (s1.trans sm) hl' ?_
   ·cases e:H r with
    |none=>rfl
    |some o=>rw[s1 _ _ e] at hr';cases hr'
   ·exact(ZdA hR).keep fun b xs z=>WN _ _ z
end
def VN{K:PySem.W.Frag}{mg:Str→Option Value}(T:Tp K mg):Sp:=fun vs H Q E=>∃(p:Addr)(w:Int)(hl:HM)(fp:List Addr),vs=[.ref p,.int w]∧Zy T H p hl fp∧hl.belts.length≤1000∧
 (¬(0≤w∧w<hl.names.length)→E (.ref T.X_NoWork) none H)∧(0≤w→w<hl.names.length→∀r H',H r=none→Zd H H'→H' r=some (.lst ((ZF hl.belts w).map fun i:Nat=>V.int i))→Q (.ref r) H')
section
variable {P:Program}{w:World}{K:PySem.W.Frag}{mg:Str→Option Value}{base:Heap}
theorem Zaj(T:Tp K mg):Zk P w K mg base (CXX P w) 5 T.f_Hall_leaving T.d_Hall_leaving ["self","work"] (VN T):=by
 have G_Hall_need_work:Zk P w K mg base (CXX P w) 4 T.f_Hall_need_work T.d_Hall_need_work ["self","work"] (Wd T):=(W9 T).mono (by decide);have cl_Hall:=T.cl_Hall;have na_Hall:=T.na_Hall;refine T.F_Hall_leaving.okX ZcS (fun vs H Q E h=>?_) (fun cdv A outer s H vs Q E hr h=>?_)
 ·obtain⟨p,w,hl,fp,rfl,_⟩:=h
  rfl
 ·have hu:=hr.units;obtain⟨p,w,hl,fp,rfl,hh,hz,e1,q⟩:=h;obtain⟨dx,a,b,bs,rfl,h1,h2,h3,h4,nab,h6⟩:=id hh;have hb:=h6.length;refine⟨_,(Zc (ZX (ZY (pv 0) T.cl_Hall T.M_Hall_need_work G_Hall_need_work hr T.b_Hall_need_work .nil Zm (Za (pv 1) Zb)))
     (Zg (Zx (WY (xs:=["belt","row"]) rfl (Yi (x:="belt") (zs:=["work"]) (ix:=[1]) (Zi Wh) ["self","work"] rfl rfl (by decide+kernel)) (ZaF (K:=K) rfl rfl T.n_enumerate (Za (ZW (K:=K) rfl (pv 0) rfl) Zb)) (fun cl C s H fp=>⟨(YX (K:=K) (n:=2) rfl rfl (ZI (Zp (i:=0) (show(["belt","row","work"]:List Str).Nodup by decide+kernel) rfl (Or.inl rfl)) (ZI (Zp (i:=1) (show(["belt","row","work"]:List Str).Nodup by decide+kernel) rfl (Or.inl rfl)) YW))),(Zdh (ZC (YA (K:=K) rfl hu) (Zo (ZA (K:=K) rfl) (pv 1) Zh (fun _ _=>rfl)) (pv 2) (ZE _))),(pv 0)⟩))))),?_⟩
  try dsimp only[L2.cxX,L2.ZP,L2.Zl]
  walk_at "rds";refine⟨p,w,hl,_,rfl,hh,e1,fun w0 w1=>?_⟩;walk_at "rds";refine Yw (own:=2) (Vz (SqL.of h4)) (Zs (by omega)) (fun i=>[some (.int i),some (bs.getD i .non)]) (fun _=>rfl) (fun i=>decide ((hl.belts.getD i dB).giver=w)) (fun i v _=>v= .int i) (fun _ _ _ _ _ z=>z) (fun i a' H' v H2 Kg hi sm y ha k=>?_) (fun i H' Kc hi sm k=>?_) (fun pp i H' Kc hi hc hp0 hp1 sm k=>?_) (fun r H' ys hr sm hl' hR=>?_)
  ·obtain⟨t,ht,rfl,rfl⟩:=y;obtain⟨x1,x2,rfl⟩:∃x1 x2,a'=[x1,x2]:=by
    match a',ha with
    | [x1,x2],_=>exact⟨x1,x2,rfl⟩
   refine Rd.VL (.of Zf) rfl ?_;walk_at "rds";exact k _ (Zn ht)
  ·obtain⟨t,ht1,ht2⟩:=h6.getD (i:=i) (by omega);rw[ht1];have ht3:=sm _ _ ht2;generalize hl.belts.getD i dB=bb at*;dsimp only[B5.v] at ht3;walk_at "rds";exact k H' (Zd.refl H')
  ·walk_at "rds";exact k _ H' (Zd.refl H') rfl
  ·refine q w0 w1 r H' hr sm ?_;rw[hl',UJ (R:=fun i v _=>v=V.int (i:Nat)) (H:=H') (r:=fun i:Nat=>V.int i) (fun _ _ z=>z) hR,hb]
   rfl
end
def Zcj{K:PySem.W.Frag}{mg:Str→Option Value}(T:Tp K mg):Sp:=fun vs H Q E=>∃(p:Addr)(w:Int)(hl:HM)(fp:List Addr),vs=[.ref p,.int w]∧Zy T H p hl fp∧hl.belts.length≤1000∧0≤w∧w<hl.names.length∧
 ∀r H' ys,H r=none→Zd H H'→H' r=some (.lst ys)→Vh H' (UU hl.belts w) ys→Q (.ref r) H'
section
variable {P:Program}{w:World}{K:PySem.W.Frag}{mg:Str→Option Value}{base:Heap}
theorem Zfr(T:Tp K mg):Zk P w K mg base (CXX P w) 6 T.f_gives_of T.d_gives_of ["hall","work"] (Zcj T):=by
 have G_Hall_leaving:Zk P w K mg base (CXX P w) 5 T.f_Hall_leaving T.d_Hall_leaving ["self","work"] (VN T):=(Zaj T).mono (by decide);have G_Hall_belt_at:Zk P w K mg base (CXX P w) 5 T.f_Hall_belt_at T.d_Hall_belt_at ["self","belt"] (YC T):=(Wa T).mono (by decide);have cl_Hall:=T.cl_Hall;have na_Hall:=T.na_Hall;refine T.F_gives_of.okX ZfK (fun vs H Q E h=>?_) (fun cdv A outer s H vs Q E hr h=>?_)
 ·obtain⟨p,w,hl,fp,rfl,_⟩:=h
  rfl
 ·have hu:=hr.units;obtain⟨p,w,hl,fp,rfl,hh,hz,w0,w1,q⟩:=h;refine⟨_,(Zg (Zx (WY (xs:=["belt"]) rfl (Yi (x:="belt") (zs:=["hall"]) (ix:=[0]) (Zi VM) ["hall","work"] rfl rfl (by decide+kernel)) (Z6 (K:=K) rfl (ZY (pv 0) T.cl_Hall T.M_Hall_leaving G_Hall_leaving hr T.b_Hall_leaving .nil Zm (Za (pv 1) Zb))) (fun cl C s H fp=>⟨(Zp (i:=0) (show(["belt","hall"]:List Str).Nodup by decide+kernel) rfl (Or.inl rfl)),Ye,(YJ (Za (pv 0) (Za (Zo (ZA (K:=K) rfl) (ZY (pv 1) T.cl_Hall T.M_Hall_belt_at G_Hall_belt_at hr T.b_Hall_belt_at .nil U3 (Za (pv 0) Zb)) Zh (fun _ _=>rfl)) Zb)))⟩)))),?_⟩
  try dsimp only[L2.cxX,L2.ZP,L2.Zl]
  walk_at "rds";refine⟨p,w,hl,fp,rfl,hh,hz,fun z=>absurd ⟨w0,w1⟩ z,fun _ _ e H1 he s1 he1=>?_⟩;have hh1:=hh.same s1;have el:=ZcF (ls:=hl.belts) (w:=w);walk_at "rds";refine Yw (own:=1) (ZZ (SqL.of he1)).y (Zs (by rw[List.length_map];omega)) (fun i=>[some (.int ((ZF hl.belts w).getD i 0:Nat))]) (fun _=>rfl) (fun _=>true) (fun i v H=>∃t,v=V.ref t∧H t=some (.tup [.int ((ZF hl.belts w).getD i 0:Nat),.int (hl.belts.getD ((ZF hl.belts w).getD i 0) dB).give])) (fun _ _ _ _ e ⟨t,z1,z2⟩=>⟨t,z1,e _ _ z2⟩) (fun i a' H' v H2 Kg hi sm y ha' k=>?_) (fun i H' Kc hi sm k=>?_) (fun pp i H' Kc hi hc hp0 hp1 sm k=>?_) (fun r H' ys hr' sm hl' hR=>?_)
  ·obtain⟨rfl,rfl⟩:=y;obtain⟨x1,rfl⟩:∃x1,a'=[x1]:=by
    match a',ha' with
    | [x1],_=>exact⟨x1,rfl⟩
   have hi':i<(ZF hl.belts w).length:=by simpa using hi
   have ev:((ZF hl.belts w).map fun i:Nat=>V.int i).getD i .non= .int ((ZF hl.belts w).getD i 0:Nat):=by simp[List.getD,hi']
   rw[ev];walk_at "rds";exact k _ (Zd.refl _)
  ·walk_at "rds";exact k H' (Zd.refl H')
  ·have hi':i<(ZF hl.belts w).length:=by simpa using hi
   have hm:(ZF hl.belts w).getD i 0∈ZF hl.belts w:=by
    have:(ZF hl.belts w).getD i 0=(ZF hl.belts w)[i]:=by simp[List.getD,hi']
    rw[this];exact List.getElem_mem hi'
   have hlt:=Zah hm;generalize (ZF hl.belts w).getD i 0=j at*;have hh2:=hh1.same sm;walk_at "rds";refine⟨p,(j:Int),hl,fp,rfl,hh2,fun z=>absurd ⟨Int.natCast_nonneg j,by omega⟩ z,fun _ _ t b hb ht=>?_⟩;have hb':hl.belts[j]? =some b:=hb;have eb:hl.belts.getD j dB=b:=by simp[List.getD,hb']
   rw[eb] at k;dsimp only[B5.v] at ht;walk_at "rds";refine⟨by show 2≤sizeLine;decide,fun u hu'=>?_⟩;exact k _ _ (Zn hu') ⟨u,rfl,Zdp hp1 hu'⟩
  ·refine q r H' ys ?_ (s1.trans sm) hl' ?_
   ·cases e:H r with
    |none=>rfl
    |some o=>rw[s1 _ _ e] at hr';cases hr'
   ·exact(ZdA hR).keep fun b xs z=>WN _ _ z
end
def Za5{K:PySem.W.Frag}{mg:Str→Option Value}(T:Tp K mg):Sp:=fun vs H Q _=>∃(p:Addr)(w:Int)(hl:HM)(fp:List Addr),vs=[.ref p,.int w]∧Zy T H p hl fp∧hl.belts.length≤60∧0≤w∧w<hl.names.length∧
 ∀(r:Addr)(H':Hp)(ms:List Int),H r=none→Zd H H'→H' r=some (.lst (ms.map V.int))→Zau hl.belts w ms→Q (.ref r) H'
section
variable {P:Program}{w:World}{K:PySem.W.Frag}{mg:Str→Option Value}{base:Heap}
theorem Zd8(T:Tp K mg):Zk P w K mg base (CXX P w) 6 T.f_touched_by T.d_touched_by ["hall","work"] (Za5 T):=by
 have G_Hall_belt_at:Zk P w K mg base (CXX P w) 5 T.f_Hall_belt_at T.d_Hall_belt_at ["self","belt"] (YC T):=(Wa T).mono (by decide);have G_Hall_leaving:Zk P w K mg base (CXX P w) 5 T.f_Hall_leaving T.d_Hall_leaving ["self","work"] (VN T):=(Zaj T).mono (by decide);have cl_Hall:=T.cl_Hall;have na_Hall:=T.na_Hall;refine T.F_touched_by.okX Zec (fun vs H Q E h=>?_) (fun cdv A outer s H vs Q E hr h=>?_)
 ·obtain⟨p,w,hl,fp,rfl,_⟩:=h
  rfl
 ·have hu:=hr.units;obtain⟨p,w,hl,fp,rfl,hh,hz,w0,w1,q⟩:=h;refine⟨_,(Zg (Zx (Zgd (K:=K) rfl rfl (by rfl) T.n_sorted (by rfl) T.n_set (Za (ZL (Y4 (K:=K) rfl) (WU (Za (pv 1) Zb)) (UT rfl (Yi (x:="belt") (zs:=["hall"]) (ix:=[0]) (Zi WO) ["hall","work"] rfl rfl (by decide+kernel)) (Z6 (K:=K) rfl (ZY (pv 0) T.cl_Hall T.M_Hall_leaving G_Hall_leaving hr T.b_Hall_leaving .nil Zm (Za (pv 1) Zb))) (fun cl C s H fp=>⟨(Zp (i:=0) (show(["belt","hall"]:List Str).Nodup by decide+kernel) rfl (Or.inl rfl)),Ye,(Zo (ZA (K:=K) rfl) (ZY (pv 1) T.cl_Hall T.M_Hall_belt_at G_Hall_belt_at hr T.b_Hall_belt_at .nil U3 (Za (pv 0) Zb)) Zh (fun _ _=>rfl))⟩))) Zb)))),?_⟩
  try dsimp only[L2.cxX,L2.ZP,L2.Zl]
  walk_at "rds";refine Rd.ZmG ?_;walk_at "rds";intro a ha;have s1:Zd H (upd H a (.lst [V.int w])):=Zn ha;have ha1:(upd H a (.lst [V.int w])) a=some (.lst [V.int w]):=Zf;generalize upd H a (.lst [V.int w])=H1 at*;have hh1:=hh.same s1;walk_at "rds";refine⟨p,w,hl,fp,rfl,hh1,by omega,fun z=>absurd ⟨w0,w1⟩ z,fun _ _ e H2 he s2 he2=>?_⟩;have hh2:=hh1.same s2;have ha2:=s2 _ _ ha1;have el:=ZcF (ls:=hl.belts) (w:=w);walk_at "rds";refine YU (ZZ (SqL.of he2)) (Zs (by rw[List.length_map];omega)) (fun _=>true) (fun i=> .int (hl.belts.getD ((ZF hl.belts w).getD i 0) dB).taker) (fun i H' Kc hi sm k=>?_) (fun i H' Kc hi _ sm k=>?_) (fun r H' hr sm hr'=>?_)
  ·walk_at "rds";exact k H' (Zd.refl H')
  ·have hi':i<(ZF hl.belts w).length:=by simpa using hi
   have ev:((ZF hl.belts w).map fun i:Nat=>V.int i).getD i .non= .int ((ZF hl.belts w).getD i 0:Nat):=by simp[List.getD,hi']
   rw[ev];have hm:(ZF hl.belts w).getD i 0∈ZF hl.belts w:=by
    have:(ZF hl.belts w).getD i 0=(ZF hl.belts w)[i]:=by simp[List.getD,hi']
    rw[this];exact List.getElem_mem hi'
   have hlt:=Zah hm;generalize (ZF hl.belts w).getD i 0=j at*;have hh3:=hh2.same sm;walk_at "rds";refine⟨p,(j:Int),hl,fp,rfl,hh3,fun z=>absurd ⟨Int.natCast_nonneg j,by omega⟩ z,fun _ _ t b hb ht=>?_⟩;have hb':hl.belts[j]? =some b:=hb;have eb:hl.belts.getD j dB=b:=by simp[List.getD,hb']
   rw[eb] at k;dsimp only[B5.v] at ht;walk_at "rds";exact k H' (Zd.refl H')
  ·have hr2:H' r=some (.lst (((ZF hl.belts w).map fun i=>(hl.belts.getD i dB).taker).map V.int)):=by
    rw[hr',List.filter_eq_self.mpr (by simp)];refine congrArg (fun z=>some (HO.lst z)) ?_;refine List.ext_getElem (by simp) fun i h1 h2=>?_;have:i<(ZF hl.belts w).length:=by simpa using h2
    simp[List.getD,this]
   have ha3:=sm _ _ ha2;refine Rd.Zf7 ha3 hr2 (Nat.le_of_lt (Zs (by simp;omega))) (fun u hu=>?_);have s4:Zd H' (upd H' u (.lst ([V.int w]++((ZF hl.belts w).map fun i=>(hl.belts.getD i dB).taker).map V.int))):=Zn hu;have hu4:(upd H' u (.lst ([V.int w]++((ZF hl.belts w).map fun i=>(hl.belts.getD i dB).taker).map V.int))) u=some (.lst ((w::(ZF hl.belts w).map fun i=>(hl.belts.getD i dB).taker).map V.int)):=Zf;generalize upd H' u (.lst ([V.int w]++((ZF hl.belts w).map fun i=>(hl.belts.getD i dB).taker).map V.int))=H4 at*;walk_at "rds";refine Rd.ZlA (.of hu4) (by simp;omega) (fun x ms hx hp hm=>?_);have s04:=s1.trans (s2.trans (sm.trans s4));refine q x _ ms (ZK s04 hx) (s04.trans (Zn hx)) Zf ⟨hp,fun y=>?_⟩;rw[hm y,List.mem_cons,List.mem_map]
end
def V3{K:PySem.W.Frag}{mg:Str→Option Value}(T:Tp K mg):Sp:=fun vs H Q E=>∃(p dx h t:Addr)(hl:HM)(fp:List Addr)(rs:List Int),vs=[.ref p,.ref h,.ref t]∧H p=some (.ins T.C_Course dx [])∧Zy T H h hl fp∧H t=some (.lst (rs.map V.int))∧rs.length=hl.names.length∧rs.length≤1000∧hl.belts.length≤60∧
 ∀(H':Hp),Wc T H' p hl.belts rs→(∀b o,H b=some o→b≠p→H' b=some o)→Q .non H'
theorem Zdk{K:PySem.W.Frag}{mg:Str→Option Value}{T:Tp K mg}{H:Hp}{h t:Addr}{hl:HM}{fp:List Addr}{rs:List Int}{Q:Addr→Hp→Prop}{E:XK}(hh:Zy T H h hl fp)(ht:H t=some (.lst (rs.map V.int)))(hn:rs.length=hl.names.length)(hz:rs.length≤1000)(hb:hl.belts.length≤60)
  (q:∀(p:Addr)(H':Hp),Wc T H' p hl.belts rs→H p=none→Zd H H'→Q p H'):
  ∀x dx,H x=none→H dx=none→dx≠x→V3 T (.ref x::([.ref h,.ref t]++ [])) (upd (upd H dx (.own x)) x (.ins T.C_Course dx [])) (fun v H2=>v= .non∧Q x H2) E:=by
 intro x dx hx hdx ne;have sm:Zd H (upd (upd H dx (.own x)) x (.ins T.C_Course dx [])):=fun b o e=>by rw[Ze (Zj e hx),Ze (Zj e hdx)];exact e
 exact⟨x,dx,h,t,hl,fp,rs,rfl,Zf,hh.same sm,sm _ _ ht,hn,hz,hb,fun H' hc hk=>⟨rfl,q x H' hc hx (fun b o e=>hk b o (sm b o e) (Zj e hx))⟩⟩
section
variable {P:Program}{w:World}{K:PySem.W.Frag}{mg:Str→Option Value}{base:Heap}
theorem Zdw(T:Tp K mg):Zk P w K mg base (CXX P w) 7 T.f_Course_init T.d_Course_init ["self","hall","turns"] (V3 T):=by
 have G_takes_of:Zk P w K mg base (CXX P w) 6 T.f_takes_of T.d_takes_of ["hall","work"] (Zca T):=(Zfx T).mono (by decide);have G_gives_of:Zk P w K mg base (CXX P w) 6 T.f_gives_of T.d_gives_of ["hall","work"] (Zcj T):=(Zfr T).mono (by decide);have G_touched_by:Zk P w K mg base (CXX P w) 6 T.f_touched_by T.d_touched_by ["hall","work"] (Za5 T):=(Zd8 T).mono (by decide);have G_Hall_belts:Zk P w K mg base (CXX P w) 6 T.f_Hall_belts T.d_Hall_belts ["self"] (Yp T):=(WB T).mono (by decide);have cl_Course:=T.cl_Course;have na_Course:=T.na_Course;have cl_Hall:=T.cl_Hall;have na_Hall:=T.na_Hall;refine T.F_Course_init.okX Zdg (fun vs H Q E h=>?_) (fun cdv A outer s H vs Q E hr h=>?_)
 ·obtain⟨p,dx,h,t,hl,fp,rs,rfl,_⟩:=h
  rfl
 ·have hu:=hr.units;obtain⟨p,dx,ha,t,hl,fp,rs,rfl,hp,hh,ht,hn,hz,hbz,q⟩:=h;have nph:p∉fp:=by
   intro z;obtain⟨dx',a,b,bs,rfl,h1,h2,h3,h4,nab,h6⟩:=hh;simp only[List.mem_cons,List.not_mem_nil,or_false] at z;rcases z with rfl|rfl|rfl|rfl
   ·rw[h1] at hp
    injection hp with e
    injection e with e1 e2 e3
    cases e3
   ·rw[h2] at hp;cases hp
   ·rw[h3] at hp;cases hp
   ·rw[h4] at hp;cases hp
  have rsl:((rs.map V.int).length:Int)=rs.length:=by simp
  refine⟨_,(Zc (V2 (K:=K) rfl (pv 0) (Ul (ZaS (K:=K) rfl) (by rfl) T.n_list PyProof.Rows.boot_list (Za (pv 2) Zb)) rfl)
     (Zc (V2 (K:=K) rfl (pv 0) (Vn (pv 1) T.cl_Hall T.M_Hall_belts G_Hall_belts hr T.b_Hall_belts .nil Zm) rfl)
     (Zc (V2 (K:=K) rfl (pv 0) (WY (xs:=["work"]) rfl (Yi (x:="work") (zs:=["hall"]) (ix:=[1]) (Zi YF) ["self","hall","turns"] rfl rfl (by decide+kernel)) (Wq rfl T.n_range (Za (ZB (Y2 (K:=K) rfl) (by rfl) T.n_len PySem.boot_len (Za (pv 2) Zb)) Zb)) (fun cl C s H fp=>⟨(Zp (i:=0) (show(["work","hall"]:List Str).Nodup by decide+kernel) rfl (Or.inl rfl)),Ye,(Zw G_takes_of hr rfl T.m_takes_of T.F_takes_of.kp T.b_takes_of .nil U3 (Za (pv 1) (Za (pv 0) Zb)))⟩)) rfl)
     (Zc (V2 (K:=K) rfl (pv 0) (WY (xs:=["work"]) rfl (Yi (x:="work") (zs:=["hall"]) (ix:=[1]) (Zi YF) ["self","hall","turns"] rfl rfl (by decide+kernel)) (Wq rfl T.n_range (Za (ZB (Y2 (K:=K) rfl) (by rfl) T.n_len PySem.boot_len (Za (pv 2) Zb)) Zb)) (fun cl C s H fp=>⟨(Zp (i:=0) (show(["work","hall"]:List Str).Nodup by decide+kernel) rfl (Or.inl rfl)),Ye,(Zw G_gives_of hr rfl T.m_gives_of T.F_gives_of.kp T.b_gives_of .nil U3 (Za (pv 1) (Za (pv 0) Zb)))⟩)) rfl)
     (Zg (V2 (K:=K) rfl (pv 0) (WY (xs:=["work"]) rfl (Yi (x:="work") (zs:=["hall"]) (ix:=[1]) (Zi YF) ["self","hall","turns"] rfl rfl (by decide+kernel)) (Wq rfl T.n_range (Za (ZB (Y2 (K:=K) rfl) (by rfl) T.n_len PySem.boot_len (Za (pv 2) Zb)) Zb)) (fun cl C s H fp=>⟨(Zp (i:=0) (show(["work","hall"]:List Str).Nodup by decide+kernel) rfl (Or.inl rfl)),Ye,(Zw G_touched_by hr rfl T.m_touched_by T.F_touched_by.kp T.b_touched_by .nil U3 (Za (pv 1) (Za (pv 0) Zb)))⟩)) rfl)))))),?_⟩
  try dsimp only[L2.cxX,L2.ZP,L2.Zl]
  walk_at "rds";refine Rd.ZbK (.of ht) (fun a ha0=>?_);have npa:p≠a:=Zj hp ha0;have s1:Zd H (upd H a (.lst (rs.map V.int))):=Zn ha0;have ha1:(upd H a (.lst (rs.map V.int))) a=some (.lst (rs.map V.int)):=Zf;generalize upd H a (.lst (rs.map V.int))=H1 at*;have hp1:=s1 _ _ hp;walk_at "rds";have f1:ZM [p] H1 (upd H1 p (.ins T.C_Course dx [("turns",.ref a)])):=Yy (by simp) hp1 (by intro _ z;cases z);have f02:ZM [p] H (upd H1 p (.ins T.C_Course dx [("turns",.ref a)])):=s1.frame.trans f1;have hp2:(upd H1 p (.ins T.C_Course dx [("turns",.ref a)])) p=some (.ins T.C_Course dx [("turns",.ref a)]):=Zf;have ha2:=f1.keep _ _ ha1 (by simpa using npa.symm);generalize upd H1 p (.ins T.C_Course dx [("turns",.ref a)])=H2 at*;have ntp:t≠p:=YD ht hp (by intro z;cases z);have hh2:=hh.off f02 (fun x hx z=>nph (by rw[←List.mem_singleton.mp z];exact hx));clear f1 hp1 ha1;walk_at "rds";intro b H3 bs hb0 s3 hb3 hT3;have hp3:=s3 _ _ hp2;have npb:p≠b:=Zj hp2 hb0;walk_at "rds";have f3:ZM [p] H3 (upd H3 p (.ins T.C_Course dx [("turns",.ref a),("rows",.ref b)])):=Yy (by simp) hp3 (by intro _ z;cases z);have f24:ZM [p] H2 (upd H3 p (.ins T.C_Course dx [("turns",.ref a),("rows",.ref b)])):=s3.frame.trans f3;have hp4:(upd H3 p (.ins T.C_Course dx [("turns",.ref a),("rows",.ref b)])) p=some (.ins T.C_Course dx [("turns",.ref a),("rows",.ref b)]):=Zf;have hb4:=f3.keep _ _ hb3 (by simpa using npb.symm);have hT4:=hT3.keep f3.tups;generalize upd H3 p (.ins T.C_Course dx [("turns",.ref a),("rows",.ref b)])=H4 at*;have f04:=f02.trans f24;have ht4:=f04.keep _ _ ht (by simpa using ntp);have hh4:=hh.off f04 (fun x hx z=>nph (by rw[←List.mem_singleton.mp z];exact hx));clear f3 hp3 hb3 hT3;walk_at "rds";refine Yw (own:=1) Uz.y (Zs (by rw[List.length_map];exact hz)) (fun i=>[some (.int (0+(i:Int)))]) (fun _=>rfl) (fun _=>true) (fun(i:Nat) v H2=>∃x,v=V.ref x∧∃vs,H4 x=none∧H2 x=some (.lst vs)∧Vh H2 (Yf hl.belts (0+(i:Int))) vs) (fun _ _ _ _ e ⟨x,z0,z1⟩=>⟨x,z0,(let⟨vs,a1,a2,a3⟩:=z1;⟨vs,a1,e _ _ a2,a3.keep fun _ _ z=>e _ _ z⟩)⟩) (fun i a' H' v H2 Kg hi sm y ha' k=>?_) (fun i H' Kc hi sm k=>?_) (fun pp i H' Kc hi hc hp0 hp1' sm k=>?_) (fun c H5 ys4 hc0 s5 hc5 hR4=>?_)
  ·obtain⟨rfl,rfl⟩:=y;obtain⟨x1,rfl⟩:∃x1,a'=[x1]:=by
    match a',ha' with
    | [x1],_=>exact⟨x1,rfl⟩
   walk_at "rds";exact k _ (Zd.refl _)
  ·walk_at "rds";exact k H' (Zd.refl H')
  ·have hi':i<rs.length:=by simpa using hi
   walk_at "rds";refine⟨ha,0+(i:Int),hl,fp,rfl,hh4.same sm,by omega,by omega,by omega,fun x H5 vs hx s5 hx5 hP=>?_⟩;exact k _ H5 s5 ⟨x,rfl,vs,ZK sm hx,Zew hp1' hx hx5,hP.keep fun b xs z=>ZeV hp1' s5 z⟩
  ·rw[List.filter_eq_self.mpr (by simp),List.length_map,Int.toNat_natCast] at hR4;obtain⟨ic,rfl,ilc,iPc⟩:=Zda hR4;have hp5:=s5 _ _ hp4;have npc:p≠c:=Zj hp4 hc0;have nic:∀x∈ic,x≠p:=fun x hx z=>by
    obtain⟨j,hj,e⟩:=List.getElem_of_mem hx;obtain⟨_,z0,_⟩:=iPc j (by omega);rw[Zv hj,e,z,hp4] at z0;cases z0
   walk_at "rds";have f5:ZM [p] H5 (upd H5 p (.ins T.C_Course dx [("turns",.ref a),("rows",.ref b),("takes",.ref c)])):=Yy (by simp) hp5 (by intro _ z;cases z);have f46:ZM [p] H4 (upd H5 p (.ins T.C_Course dx [("turns",.ref a),("rows",.ref b),("takes",.ref c)])):=s5.frame.trans f5;have hp6:(upd H5 p (.ins T.C_Course dx [("turns",.ref a),("rows",.ref b),("takes",.ref c)])) p=some (.ins T.C_Course dx [("turns",.ref a),("rows",.ref b),("takes",.ref c)]):=Zf;have hc6:=f5.keep _ _ hc5 (by simpa using npc.symm);have hLc:LL (upd H5 p (.ins T.C_Course dx [("turns",.ref a),("rows",.ref b),("takes",.ref c)])) ((List.range rs.length).map fun w:Nat=>Yf hl.belts w) ic:=by
    refine Uo (by simp[ilc]) fun j x y e1 e2=>?_;have hj:j<rs.length:=by have:=(List.getElem?_eq_some_iff.mp e2).1;omega
    obtain⟨vs,_,z1,z2⟩:=iPc j hj;rw[List.getElem?_map,List.getElem?_range hj] at e1;cases e1;have ey:ic.getD j 0=y:=by simp[List.getD,e2]
    rw[ey] at z1;rw[Int.zero_add] at z2;exact⟨vs,f5.keep _ _ (WN _ _ z1) (by simpa using nic y (List.mem_of_getElem? e2)),z2.keep fun b xs z=>f5.tups _ _ (WN _ _ z)⟩
   generalize upd H5 p (.ins T.C_Course dx [("turns",.ref a),("rows",.ref b),("takes",.ref c)])=H6 at*;have f06:=f04.trans f46;have ht6:=f06.keep _ _ ht (by simpa using ntp);have hh6:=hh.off f06 (fun x hx z=>nph (by rw[←List.mem_singleton.mp z];exact hx));clear f5 hp5 hc5 hR4;walk_at "rds";refine Yw (own:=1) Uz.y (Zs (by rw[List.length_map];exact hz)) (fun i=>[some (.int (0+(i:Int)))]) (fun _=>rfl) (fun _=>true) (fun(i:Nat) v H2=>∃x,v=V.ref x∧∃vs,H6 x=none∧H2 x=some (.lst vs)∧Vh H2 (UU hl.belts (0+(i:Int))) vs) (fun _ _ _ _ e ⟨x,z0,z1⟩=>⟨x,z0,(let⟨vs,a1,a2,a3⟩:=z1;⟨vs,a1,e _ _ a2,a3.keep fun _ _ z=>e _ _ z⟩)⟩) (fun i a' H' v H2 Kg hi sm y ha' k=>?_) (fun i H' Kc hi sm k=>?_) (fun pp i H' Kc hi hc hp0 hp1' sm k=>?_) (fun d H7 ys6 hd0 s7 hd7 hR6=>?_)
   ·obtain⟨rfl,rfl⟩:=y;obtain⟨x1,rfl⟩:∃x1,a'=[x1]:=by
     match a',ha' with
     | [x1],_=>exact⟨x1,rfl⟩
    walk_at "rds";exact k _ (Zd.refl _)
   ·walk_at "rds";exact k H' (Zd.refl H')
   ·have hi':i<rs.length:=by simpa using hi
    walk_at "rds";refine⟨ha,0+(i:Int),hl,fp,rfl,hh6.same sm,by omega,by omega,by omega,fun x H5 vs hx s5 hx5 hP=>?_⟩;exact k _ H5 s5 ⟨x,rfl,vs,ZK sm hx,Zew hp1' hx hx5,hP.keep fun b xs z=>ZeV hp1' s5 z⟩
   ·rw[List.filter_eq_self.mpr (by simp),List.length_map,Int.toNat_natCast] at hR6;obtain⟨id,rfl,ild,iPd⟩:=Zda hR6;have hp7:=s7 _ _ hp6;have npd:p≠d:=Zj hp6 hd0;have nid:∀x∈id,x≠p:=fun x hx z=>by
     obtain⟨j,hj,e⟩:=List.getElem_of_mem hx;obtain⟨_,z0,_⟩:=iPd j (by omega);rw[Zv hj,e,z,hp6] at z0;cases z0
    walk_at "rds";have f7:ZM [p] H7 (upd H7 p (.ins T.C_Course dx [("turns",.ref a),("rows",.ref b),("takes",.ref c),("gives",.ref d)])):=Yy (by simp) hp7 (by intro _ z;cases z);have f68:ZM [p] H6 (upd H7 p (.ins T.C_Course dx [("turns",.ref a),("rows",.ref b),("takes",.ref c),("gives",.ref d)])):=s7.frame.trans f7;have hp8:(upd H7 p (.ins T.C_Course dx [("turns",.ref a),("rows",.ref b),("takes",.ref c),("gives",.ref d)])) p=some (.ins T.C_Course dx [("turns",.ref a),("rows",.ref b),("takes",.ref c),("gives",.ref d)]):=Zf;have hd8:=f7.keep _ _ hd7 (by simpa using npd.symm);have hLd:LL (upd H7 p (.ins T.C_Course dx [("turns",.ref a),("rows",.ref b),("takes",.ref c),("gives",.ref d)])) ((List.range rs.length).map fun w:Nat=>UU hl.belts w) id:=by
     refine Uo (by simp[ild]) fun j x y e1 e2=>?_;have hj:j<rs.length:=by have:=(List.getElem?_eq_some_iff.mp e2).1;omega
     obtain⟨vs,_,z1,z2⟩:=iPd j hj;rw[List.getElem?_map,List.getElem?_range hj] at e1;cases e1;have ey:id.getD j 0=y:=by simp[List.getD,e2]
     rw[ey] at z1;rw[Int.zero_add] at z2;exact⟨vs,f7.keep _ _ (WN _ _ z1) (by simpa using nid y (List.mem_of_getElem? e2)),z2.keep fun b xs z=>f7.tups _ _ (WN _ _ z)⟩
    generalize upd H7 p (.ins T.C_Course dx [("turns",.ref a),("rows",.ref b),("takes",.ref c),("gives",.ref d)])=H8 at*;have f08:=f06.trans f68;have ht8:=f08.keep _ _ ht (by simpa using ntp);have hh8:=hh.off f08 (fun x hx z=>nph (by rw[←List.mem_singleton.mp z];exact hx));clear f7 hp7 hd7 hR6;walk_at "rds";refine Yw (own:=1) Uz.y (Zs (by rw[List.length_map];exact hz)) (fun i=>[some (.int (0+(i:Int)))]) (fun _=>rfl) (fun _=>true) (fun(i:Nat) v H2=>∃x,v=V.ref x∧∃ms:List Int,H8 x=none∧H2 x=some (.lst (ms.map V.int))∧Zau hl.belts i ms) (fun _ _ _ _ e ⟨x,z0,z1⟩=>⟨x,z0,(let⟨vs,a1,a2,a3⟩:=z1;⟨vs,a1,e _ _ a2,a3⟩)⟩) (fun i a' H' v H2 Kg hi sm y ha' k=>?_) (fun i H' Kc hi sm k=>?_) (fun pp i H' Kc hi hc hp0 hp1' sm k=>?_) (fun e H9 ys8 he0 s9 he9 hR8=>?_)
    ·obtain⟨rfl,rfl⟩:=y;obtain⟨x1,rfl⟩:∃x1,a'=[x1]:=by
      match a',ha' with
      | [x1],_=>exact⟨x1,rfl⟩
     walk_at "rds";exact k _ (Zd.refl _)
    ·walk_at "rds";exact k H' (Zd.refl H')
    ·have hi':i<rs.length:=by simpa using hi
     walk_at "rds";refine⟨ha,0+(i:Int),hl,fp,rfl,hh8.same sm,by omega,by omega,by omega,fun x H5 ms hx s5 hx5 hP=>?_⟩;rw[Int.zero_add] at hP;exact k _ H5 s5 ⟨x,rfl,ms,ZK sm hx,Zew hp1' hx hx5,hP⟩
    ·rw[List.filter_eq_self.mpr (by simp),List.length_map,Int.toNat_natCast] at hR8;obtain⟨ie,rfl,ile,iPe⟩:=Zda hR8;have hp9:=s9 _ _ hp8;have npe:p≠e:=Zj hp8 he0;have nie:∀x∈ie,x≠p:=fun x hx z=>by
      obtain⟨j,hj,e⟩:=List.getElem_of_mem hx;obtain⟨_,z0,_⟩:=iPe j (by omega);rw[Zv hj,e,z,hp8] at z0;cases z0
     walk_at "rds";have f9:ZM [p] H9 (upd H9 p (.ins T.C_Course dx [("turns",.ref a),("rows",.ref b),("takes",.ref c),("gives",.ref d),("touched",.ref e)])):=Yy (by simp) hp9 (by intro _ z;cases z);have f810:ZM [p] H8 (upd H9 p (.ins T.C_Course dx [("turns",.ref a),("rows",.ref b),("takes",.ref c),("gives",.ref d),("touched",.ref e)])):=s9.frame.trans f9;have hp10:(upd H9 p (.ins T.C_Course dx [("turns",.ref a),("rows",.ref b),("takes",.ref c),("gives",.ref d),("touched",.ref e)])) p=some (.ins T.C_Course dx [("turns",.ref a),("rows",.ref b),("takes",.ref c),("gives",.ref d),("touched",.ref e)]):=Zf;have he10:=f9.keep _ _ he9 (by simpa using npe.symm);have hLe:TL (upd H9 p (.ins T.C_Course dx [("turns",.ref a),("rows",.ref b),("takes",.ref c),("gives",.ref d),("touched",.ref e)])) hl.belts rs.length ie:=⟨ile,fun v hv=>by
      obtain⟨ms,_,z1,z2⟩:=iPe v hv;exact⟨ms,f9.keep _ _ (WN _ _ z1) (by rw[List.mem_singleton];exact nie _ (by rw[Zv (by omega)];exact List.getElem_mem _)),z2⟩⟩
     generalize upd H9 p (.ins T.C_Course dx [("turns",.ref a),("rows",.ref b),("takes",.ref c),("gives",.ref d),("touched",.ref e)])=H10 at*;have f010:=f08.trans f810;have ht10:=f010.keep _ _ ht (by simpa using ntp);have hh10:=hh.off f010 (fun x hx z=>nph (by rw[←List.mem_singleton.mp z];exact hx));clear f9 hp9 he9 hR8;have f28:=f24.trans (f46.trans f68);have f410:=f46.trans (f68.trans f810);have f610:=f68.trans f810;have kL:∀{Ha:Hp}{gs:List (List (Int×Int))}{is:List Addr},ZM [p] Ha H10→LL Ha gs is→(∀x∈is,x≠p)→LL H10 gs is:=fun{Ha gs is} f l n=>l.keep f.tups fun x hx=>by
      cases q:Ha x with
      |none=>exact absurd q (l.dom x hx)
      |some o=>exact f.keep _ _ q (by simpa using n x hx)
     refine q H10 ⟨dx,a,b,c,d,e,ic,id,ie,bs,hp10,(f24.trans f410).keep _ _ ha2 (by simpa using npa.symm),f410.keep _ _ hb4 (by simpa using npb.symm),hT4.keep f410.tups,f610.keep _ _ hc6 (by simpa using npc.symm),kL f610 hLc nic,f810.keep _ _ hd8 (by simpa using npd.symm),kL f810 hLd nid,he10,hLe⟩ (fun x o h1 h2=>f010.keep _ _ h1 (by simpa using h2))
end
def Zap{K:PySem.W.Frag}{mg:Str→Option Value}(T:Tp K mg):Sp:=fun vs H Q E=>∃(p:Addr)(hl:HM)(fp:List Addr),vs=[.ref p]∧Zy T H p hl fp∧hl.names.length≤60∧hl.belts.length≤60∧ZH hl.belts hl.names.length∧YH hl.belts∧(∀b∈hl.belts,0≤b.start)∧
 (∀(rs:List Int),Rts hl.belts hl.names.length (fun _=>1) rs→(400<rs.sum→∀H',Zd H H'→E (.ref T.X_TooLong) none H')∧(rs.sum≤400→
 (∀(t r:Addr)(H':Hp)(ws:List Nat)(d:Nat→Nat),H r=none→Zd H H'→H' t=some (.tup [.ref r,.non])→H' r=some (.lst (ws.map fun w:Nat=>V.int w))→Fire.Ys (Um hl.belts (ZN hl.belts) rs) (fun _=>0) ws d→(∀v<rs.length,d v=ZR rs v)→Q (.ref t) H')∧
 (∀(t u c g:Addr)(H':Hp)(ws:List Nat)(d:Nat→Nat)(ring:List Nat),H c=none→H g=none→Zd H H'→H' t=some (.tup [.non,.ref u])→H' u=some (.tup [.ref c,.ref g])→H' c=some (.lst ((W0 rs.length d).map V.int))→H' g=some (.lst (ring.map fun j:Nat=>V.int j))→Fire.Ys (Um hl.belts (ZN hl.belts) rs) (fun _=>0) ws d→(∀w,¬Wb hl.belts (ZN hl.belts) rs d w)→(∃v<rs.length,d v<ZR rs v)→Za3 hl.belts rs (ZN hl.belts) (W0 rs.length d) ring→Q (.ref t) H')))∧
 (∀(ring:List (Int×Bool))(H':Hp),Zd H H'→VT hl.belts ring→E (.ref T.X_NotBalanced) none H')
section
variable {P:Program}{w:World}{K:PySem.W.Frag}{mg:Str→Option Value}{base:Heap}
theorem Zcg(T:Tp K mg):Zk P w K mg base (CXX P w) 10 T.f_round_of T.d_round_of ["hall"] (Zap T):=by
 have G_starts_of:Zk P w K mg base (CXX P w) 9 T.f_starts_of T.d_starts_of ["hall"] (Zbx T):=(ZeQ T).mono (by decide);have G_round_rates:Zk P w K mg base (CXX P w) 9 T.f_round_rates T.d_round_rates ["hall"] (ZaG T):=(Zdd T).mono (by decide);have G_Course_told_from:Zk P w K mg base (CXX P w) 9 T.f_Course_told_from T.d_Course_told_from ["self","starts"] (VW T):=(Za8 T).mono (by decide);have G_Course_init:Zk P w K mg base (CXX P w) 8 T.f_Course_init T.d_Course_init ["self","hall","turns"] (V3 T):=(Zdw T).mono (by decide);have cl_Course:=T.cl_Course;have na_Course:=T.na_Course;refine T.F_round_of.okX Zfz (fun vs H Q E h=>?_) (fun cdv A outer s H vs Q E hr h=>?_)
 ·obtain⟨p,hl,fp,rfl,_⟩:=h
  rfl
 ·have hu:=hr.units;obtain⟨p,hl,fp,rfl,hh,hn,hz,hbt,hsz,hs0,q,q4⟩:=h;refine⟨_,(Zg (Zx (ZY (ZjG T.mk_Course G_Course_init hr rfl T.g_Course T.b_Course_init .nil Zm (Za (pv 0) (Za (Zw G_round_rates hr rfl T.m_round_rates T.F_round_rates.kp T.b_round_rates .nil Zm (Za (pv 0) Zb)) Zb))) T.cl_Course T.M_Course_told_from G_Course_told_from hr T.b_Course_told_from .nil Zm (Za (Zw G_starts_of hr rfl T.m_starts_of T.F_starts_of.kp T.b_starts_of .nil Zm (Za (pv 0) Zb)) Zb)))),?_⟩
  try dsimp only[L2.cxX,L2.ZP,L2.Zl]
  walk_at "rds";refine⟨p,hl,fp,rfl,hh,hn,by omega,hbt,hsz,fun r H1 rs s1 hr hr1 hR=>⟨fun hle=>?_,fun hgt=>(q rs hR).1 hgt H1 s1⟩,q4⟩;obtain⟨q1,q2⟩:=(q rs hR).2 hle;have hh1:=hh.same s1;have hrl:=hR.len;walk_at "rds";refine Zdk hh1 hr1 hrl (by omega) hz (fun c H2 hc2 hc0 s2=>?_);have hh2:=hh1.same s2;walk_at "rds";refine⟨p,hl,fp,rfl,hh2,by omega,fun sa H3 hsa s3 hsa3=>?_⟩;have hc3:=hc2.same s3;have s13:=s1.trans (s2.trans s3);have htot:(tot rs:Int)=rs.sum:=ZfT fun r hr=>(by have:=hR.pos r hr;omega);have hst0:∀x∈ZN hl.belts,0≤x:=fun x hx=>by
   obtain⟨b,hb,rfl⟩:=List.mem_map.mp hx;exact hs0 b hb
  walk_at "rds";refine⟨c,sa,hl.belts,rs,ZN hl.belts,rfl,hc3,.of hsa3,by simp[ZN],by rw[hrl];exact hbt,hsz,hR.bal,by omega,by omega,hR.pos,hst0,by omega,fun t r2 H4 ws d hr2 s4 ht4 hr4 hrun hd=>?_,fun t u c2 g H4 ws d ring hc20 hg0 s4 ht4 hu4 hc4 hg4 hrun hst hex hring=>?_⟩
  ·exact q1 t r2 H4 ws d (ZK s13 hr2) (s13.trans s4) ht4 hr4 hrun hd
  ·exact q2 t u c2 g H4 ws d ring (ZK s13 hc20) (ZK s13 hg0) (s13.trans s4) ht4 hu4 hc4 hg4 hrun hst hex hring
end
def ZdG{K:PySem.W.Frag}{mg:Str→Option Value}(T:Tp K mg):Sp:=fun vs H Q E=>∃(p:Addr)(hl:HM)(fp:List Addr)(du:Str),vs=[.ref p]∧Zy T H p hl fp∧hl.names.length≤60∧hl.belts.length≤60∧ZH hl.belts hl.names.length∧YH hl.belts∧(∀b∈hl.belts,0≤b.start)∧
 (∀rs,Rts hl.belts hl.names.length (fun _=>1) rs→400<rs.sum→du="too long")∧
 (∀rs,Rts hl.belts hl.names.length (fun _=>1) rs→rs.sum≤400→du="")∧
 (∀ring,VT hl.belts ring→du="not balanced")∧∀H',Zd H H'→Q (.str du) H'
section
variable {P:Program}{w:World}{K:PySem.W.Frag}{mg:Str→Option Value}{base:Heap}
theorem ZhT(T:Tp K mg):Zk P w K mg base (CXX P w) 11 T.f_l_kind T.d_l_kind ["_law_hall"] (ZdG T):=by
 have G_round_of:Zk P w K mg base (CXX P w) 10 T.f_round_of T.d_round_of ["hall"] (Zap T):=(Zcg T).mono (by decide);refine T.F_l_kind.okX Vu (fun vs H Q E h=>?_) (fun cdv A outer s H vs Q E hr h=>?_)
 ·obtain⟨p,hl,fp,du,rfl,_⟩:=h
  rfl
 ·have hu:=hr.units;obtain⟨p,hl,fp,du,rfl,hh,hn,hz,hbt,hsz,hs0,q1,q2,q3,q⟩:=h;have xn:=T.xc_NotBalanced;have xe:=T.xc_TooLong;have k1:=T.ki_NotBalanced_ValueError;have k2:=T.ki_NotBalanced_Stuck;have k3:=T.ki_NotBalanced_Empty;have k4:=T.ki_NotBalanced_NotBalanced;have k5:=T.ki_NotBalanced_TooLong;have k6:=T.ki_TooLong_ValueError;have k7:=T.ki_TooLong_Stuck;have k8:=T.ki_TooLong_Empty;have k9:=T.ki_TooLong_NotBalanced;have k10:=T.ki_TooLong_TooLong;refine⟨_,(Zc (Zt (i:=1) Vu.nd rfl (Or.inl rfl) Yb)
     (Zc (Zim (j:=2) rfl rfl rfl T.mx_RateError (fun J E1 pn xe1 ownT pasT=>(Zg (ZX (ZiR G_round_of hr rfl T.m_round_of T.F_round_of.kp T.b_round_of .nil pasT (Za (pv 0) Zb))))) (fun A'=>(Zc (Zt (i:=1) Vu.nd rfl (Or.inl rfl) Yb)
     (Zg (ZV (PW.pt (VH (Yd (K:=K) rfl (ZB (ZaQ (K:=K) rfl) (by rfl) T.n_isinstance PyProof.Rows.boot_isinstance (Za (pv 2) (Za (ZbN (v:= .ty "ValueError") (by rfl) T.n_ValueError (by first|rfl|decide+kernel) rfl) Zb))) (fun _=>rfl)) (VH (Wz (Yd (K:=K) rfl (ZB (ZaQ (K:=K) rfl) (by rfl) T.n_isinstance PyProof.Rows.boot_isinstance (Za (pv 2) (Za (Wg (v:= .ref T.X_Stuck) rfl T.mx_Stuck rfl) Zb))) (fun _=>rfl))) (Vw (Wz (Yd (K:=K) rfl (ZB (ZaQ (K:=K) rfl) (by rfl) T.n_isinstance PyProof.Rows.boot_isinstance (Za (pv 2) (Za (Wg (v:= .ref T.X_Empty) rfl T.mx_Empty rfl) Zb))) (fun _=>rfl))))))) (Zc (ZV (PW.pt (VH (Yd (K:=K) rfl (ZB (ZaQ (K:=K) rfl) (by rfl) T.n_isinstance PyProof.Rows.boot_isinstance (Za (pv 2) (Za (Wg (v:= .ref T.X_NotBalanced) rfl T.mx_NotBalanced rfl) Zb))) (fun _=>rfl)) (Vw (Wz (Yd (K:=K) rfl (ZB (ZaQ (K:=K) rfl) (by rfl) T.n_isinstance PyProof.Rows.boot_isinstance (Za (pv 2) (Za (Wg (v:= .ref T.X_TooLong) rfl T.mx_TooLong rfl) Zb))) (fun _=>rfl)))))) (Zg (Zt (i:=1) Vu.nd rfl (Or.inl rfl) Yb)) ZJ)
     (Zg (ZV (PW.pt (VH (Yd (K:=K) rfl (ZB (ZaQ (K:=K) rfl) (by rfl) T.n_isinstance PyProof.Rows.boot_isinstance (Za (pv 2) (Za (Wg (v:= .ref T.X_TooLong) rfl T.mx_TooLong rfl) Zb))) (fun _=>rfl)) (Vw (Wz (Yd (K:=K) rfl (ZB (ZaQ (K:=K) rfl) (by rfl) T.n_isinstance PyProof.Rows.boot_isinstance (Za (pv 2) (Za (Wg (v:= .ref T.X_NotBalanced) rfl T.mx_NotBalanced rfl) Zb))) (fun _=>rfl)))))) (Zg (Zt (i:=1) Vu.nd rfl (Or.inl rfl) Yb)) ZJ))) ZJ)))) Vu.nd rfl rfl)
     (Zg (Zx (pv 1))))),?_⟩
  try dsimp only[L2.cxX,L2.ZP,L2.Zl]
  walk_at "rds";refine L2.Rd.Zlq (fun cls _ H'=>Zd H H'∧((cls= .ref T.X_NotBalanced∧∃ring,VT hl.belts ring)∨(cls= .ref T.X_TooLong∧∃rs,Rts hl.belts hl.names.length (fun _=>1) rs∧400<rs.sum))) ?_ ?_
  ·walk_at "rds";refine⟨p,hl,fp,rfl,hh,hn,hz,hbt,hsz,hs0,fun rs hR=>⟨fun h4 H' s=>⟨s,.inr ⟨rfl,rs,hR,h4⟩⟩,fun h4=>⟨fun t r H' ws d _ s _ _ _ _=>?_,fun t u c g H' ws d ring _ _ s _ _ _ _ _ _ _ _=>?_⟩⟩,fun ring H' s hr=>⟨s,.inl ⟨rfl,ring,hr⟩⟩⟩
   ·walk_at "rds";rw[q2 rs hR h4] at q;exact q H' s
   ·walk_at "rds";rw[q2 rs hR h4] at q;exact q H' s
  ·rintro cls H1 ⟨s1,⟨rfl,ring,z⟩|⟨rfl,rs,hR,z⟩⟩
   ·refine⟨T.em_NotBalanced_RateError,_,rfl,fun ea hea=>?_⟩;have hex:(upd H1 ea (Vm ea T.X_NotBalanced)) ea=some (Vm ea T.X_NotBalanced):=Zf;have s2:Zd H (upd H1 ea (Vm ea T.X_NotBalanced)):=s1.trans (Zn hea);generalize upd H1 ea (Vm ea T.X_NotBalanced)=H2 at*;walk_at "rds";rw[q3 ring z] at q;exact q _ s2
   ·refine⟨T.em_TooLong_RateError,_,rfl,fun ea hea=>?_⟩;have hex:(upd H1 ea (Vm ea T.X_TooLong)) ea=some (Vm ea T.X_TooLong):=Zf;have s2:Zd H (upd H1 ea (Vm ea T.X_TooLong)):=s1.trans (Zn hea);generalize upd H1 ea (Vm ea T.X_TooLong)=H2 at*;walk_at "rds";rw[q1 rs hR z] at q;exact q _ s2
end
def Za7{K:PySem.W.Frag}{mg:Str→Option Value}(T:Tp K mg):Sp:=fun vs H Q _=>∃(rw_ a ra:Addr)(ws:List Nat)(d:Nat→Nat)(bs:List V)(ls:List B5)(rs:List Int),vs=[.ref rw_,.ref a,.ref ra]∧H rw_=some (.lst (ws.map fun w:Nat=>V.int w))∧SqL K H a bs∧Y0 H bs ls∧SqL K H ra (rs.map V.int)∧ls.length≤1000∧ZH ls rs.length∧rs.length≤60∧(∀r∈rs,1≤r)∧ZeX ls rs∧Fire.Ys (Wb ls (ZN ls) rs) (fun _=>0) ws d∧(∀v<rs.length,d v=ZR rs v)∧
 ∀H',Zd H H'→Q (.bl true) H'
section
variable {P:Program}{w:World}{K:PySem.W.Frag}{mg:Str→Option Value}{base:Heap}
theorem Zd2(T:Tp K mg):Zk P w K mg base (CXX P w) 1 T.f_l_row_good T.d_l_row_good ["_law_row","_law_lines","_law_rates"] (Za7 T):=by
 refine T.F_l_row_good.okX Ya (fun vs H Q E h=>?_) (fun cdv A outer s H vs Q E hr h=>?_)
 ·obtain⟨rw_,a,ra,ws,d,bs,ls,rs,rfl,_⟩:=h
  rfl
 ·have hu:=hr.units;obtain⟨rw_,a,ra,ws,d,bs,ls,rs,rfl,hrw,ha,hT,hra,hz,hbt,hn,hpos,hbal,hrun,hd,q⟩:=h;have hbl:=hT.length;have hsl:(ZN ls).length=ls.length:=by simp[ZN]
  have rl:((rs.map V.int).length:Int)=(rs.length:Int):=by simp
  have hrw':H rw_=some (.lst ((ws.map fun w:Nat=>(w:Int)).map V.int)):=by rw[List.map_map];exact hrw
  have hrwq:=SqL.of (K:=K) hrw';have hcnt:=Fire.Ys.count hrun;have hstart:∀(H0:Hp),Zd H H0→Y0 H0 bs ls:=fun H0 s=>hT.keep (fun b xs e=>s _ _ e);refine⟨_,(Zc (ZbW (j:=3) rfl (Yi (x:="_law_line") (zs:=[]) (ix:=[]) (Zi YY) ["_law_row","_law_lines","_law_rates","_law_heap","_law_work","_law_k","_law_giver","_law_taker","_law_give","_law_take","_law_start","_law_counts"] rfl rfl (by decide+kernel)) (Z6 (K:=K) rfl (pv 1)) (fun cl C s H fp=>⟨(Zp (i:=0) (show(["_law_line"]:List Str).Nodup by decide+kernel) rfl (Or.inl rfl)),Ye,(Zo (ZA (K:=K) rfl) (pv 0) Zh (fun _ _=>rfl))⟩) Ya.nd rfl (Or.inl rfl))
     (Zc (Y1 PassesOwn.leaving rfl (Z6 (K:=K) rfl (pv 0)) (Zp (i:=4) Ya.nd rfl (Or.inl rfl)) (Zg (Y1 PassesOwn.leaving rfl (Wq rfl T.n_range (Za (ZB (Y2 (K:=K) rfl) (by rfl) T.n_len PySem.boot_len (Za (pv 1) Zb)) Zb)) (Zp (i:=5) Ya.nd rfl (Or.inl rfl)) (Zc (WT (Zo (ZA (K:=K) rfl) (pv 1) (pv 5) (fun _ _=>rfl)) (YX (K:=K) (n:=5) rfl rfl (ZI (Zp (i:=6) Ya.nd rfl (Or.inl rfl)) (ZI (Zp (i:=7) Ya.nd rfl (Or.inl rfl)) (ZI (Zp (i:=8) Ya.nd rfl (Or.inl rfl)) (ZI (Zp (i:=9) Ya.nd rfl (Or.inl rfl)) (ZI (Zp (i:=10) Ya.nd rfl (Or.inl rfl)) YW)))))))
     (Zc (Up (ZV (PW.pt (VH (ZC (YA (K:=K) rfl hu) (pv 7) (pv 4) (ZE _)) (Vw (ZC UP (Zo (ZA (K:=K) rfl) (pv 3) (pv 5) (fun _ _=>rfl)) (pv 9) (ZE _))))) (Zg (Zx VI)) ZJ))
     (Zc (Up (ZV (ZC (YA (K:=K) rfl hu) (pv 7) (pv 4) (ZE _)) (Zg (WT (ZL Uw (Zo (ZA (K:=K) rfl) (pv 3) (pv 5) (fun _ _=>rfl)) (pv 9)) (VS (pv 3) (pv 5) Vo))) ZJ))
     (Zg (ZV (ZC (YA (K:=K) rfl hu) (pv 6) (pv 4) (ZE _)) (Zg (WT (ZL (Y4 (K:=K) rfl) (Zo (ZA (K:=K) rfl) (pv 3) (pv 5) (fun _ _=>rfl)) (pv 8)) (VS (pv 3) (pv 5) Vo))) ZJ))))))))
     (Zc (ZbW (j:=11) rfl (Yi (x:="_law_work") (zs:=["_law_row"]) (ix:=[0]) (Zi YY) ["_law_row","_law_lines","_law_rates","_law_heap","_law_work","_law_k","_law_giver","_law_taker","_law_give","_law_take","_law_start","_law_counts"] rfl rfl (by decide+kernel)) (Wq rfl T.n_range (Za (ZB (Y2 (K:=K) rfl) (by rfl) T.n_len PySem.boot_len (Za (pv 2) Zb)) Zb)) (fun cl C s H fp=>⟨(Zp (i:=0) (show(["_law_work","_law_row"]:List Str).Nodup by decide+kernel) rfl (Or.inl rfl)),Ye,(Wi (K:=K) rfl PySem.F.plainAttrs_list PySem.F.slot_list_count PySem.F.type_list_count (ZdS (K:=K) rfl) (pv 1) (Za (pv 0) Zb))⟩) Ya.nd rfl (Or.inl rfl))
     (Zg (Zx (Zax (W7 (YA (K:=K) rfl hu) (pv 11) (pv 2) (ZE _)) (Zav (W7 (YA (K:=K) rfl hu) (pv 3) (UT rfl (Yi (x:="_law_line") (zs:=[]) (ix:=[]) (Zi YY) ["_law_row","_law_lines","_law_rates","_law_heap","_law_work","_law_k","_law_giver","_law_taker","_law_give","_law_take","_law_start","_law_counts"] rfl rfl (by decide+kernel)) (Z6 (K:=K) rfl (pv 1)) (fun cl C s H fp=>⟨(Zp (i:=0) (show(["_law_line"]:List Str).Nodup by decide+kernel) rfl (Or.inl rfl)),Ye,(Zo (ZA (K:=K) rfl) (pv 0) Zh (fun _ _=>rfl))⟩)) (ZE _))))))))),?_⟩
  try dsimp only[L2.cxX,L2.ZP,L2.Zl]
  walk_at "rds";refine YU (ZZ ha) (Zs (by omega)) (fun _=>true) (fun i=> .int (ls.getD i dB).start) (fun i H' Kc hi sm k=>?_) (fun i H' Kc hi _ sm k=>?_) (fun hp H1 hhp s1 hhp1=>?_)
  ·walk_at "rds";exact k H' (Zd.refl H')
  ·obtain⟨t,ht1,ht2⟩:=hT.getD (i:=i) (by omega);rw[ht1];have ht3:=sm _ _ ht2;generalize ls.getD i dB=bb at*;dsimp only[B5.v] at ht3;walk_at "rds";exact k H' (Zd.refl H')
  have e0:lieL ls (ZN ls) (fun _=>0)=ZN ls:=by
   refine List.ext_getElem (by rw[Z5 hsl,hsl]) fun j a1 a2=>?_;rw[Wj hsl (by omega)];unfold Fire.lie fB;simp
  have hhp2:H1 hp=some (.lst ((lieL ls (ZN ls) (fun _=>0)).map V.int)):=by
   rw[hhp1,List.filter_eq_self.mpr (by simp),e0];refine congrArg (fun z=>some (HO.lst z)) ?_;unfold ZN;rw[hbl];refine List.ext_getElem (by simp) fun i h1 h2=>?_;have:i<ls.length:=by simpa using h1
   simp[List.getD,this]
  have hrw1:=s1.seq hrwq;walk_at "rds";refine V5 (ZZ hrwq) (fun i σ H'=>∃(e:Nat→Nat)(a1 a2 a3 a4 a5 a6 a7:Option V),σ=[some (.ref rw_),some (.ref a),some (.ref ra),some (.ref hp),a1,a2,a3,a4,a5,a6,a7,none]∧Zd H H'∧H' hp=some (.lst ((lieL ls (ZN ls) e).map V.int))∧Fire.Ys (Wb ls (ZN ls) rs) e (ws.drop i) d) ⟨fun _=>0,_,_,_,_,_,_,_,rfl,s1,hhp2,hrun⟩ (fun i σ H' h=>(let⟨_,_,_,_,_,_,_,_,_,s,_⟩:=h;s)) ?_ ?_
  ·rintro i σ H3 hi ⟨e,a1,a2,a3,a4,a5,a6,a7,rfl,s3,hhq3,hr2⟩;have hi':i<ws.length:=by simpa using hi
   have ev:((ws.map fun w:Nat=>(w:Int)).map V.int).getD i .non= .int (ws[i]:Nat):=by simp[List.getD,hi']
   rw[ev];rw[List.drop_eq_getElem_cons hi'] at hr2;obtain⟨hmay,hr3⟩:Wb ls (ZN ls) rs e ws[i]∧Fire.Ys (Wb ls (ZN ls) rs) (Fire.bump e ws[i]) (ws.drop (i+1)) d:=by
    cases hr2 with
    |cons r h=>exact⟨r,h⟩
   generalize ws[i]=w at*;have hln:=Z5 (d:=e) hsl;have esh:=ZdN (d:=e) hsl hbt w;have hsl2:=ZaM (w:=(w:Int)) hln;have hmin:∀(j:Nat)(hj:j<ls.length),ls[j].taker=(w:Int)→ls[j].take≤(lieL ls (ZN ls) e).getD j 0:=fun j hj ht=>by
    rw[Zv (by omega)];have:=hmay.2.2 _ (Zds hsl hj) (by show ls[j].taker.toNat=w;omega);rw[Wj hsl hj];exact this
   generalize lieL ls (ZN ls) e=hs at*;have ha3:=s3.seq ha;walk_at "rds";refine Zby (n:=((bs.length:Nat):Int).toNat) (fun m σ H'=>∃(us:List Int)(b2 b3 b4 b5 b6 b7:Option V),σ=[some (.ref rw_),some (.ref a),some (.ref ra),some (.ref hp),some (.int (w:Nat)),b2,b3,b4,b5,b6,b7,none]∧Zd H H'∧H' hp=some (.lst (us.map V.int))∧us.length=hs.length∧∀j<hs.length,us.getD j 0=if j<m then(Y5 ls hs w).getD j 0 else hs.getD j 0) ⟨hs,_,_,_,_,_,_,rfl,s3,hhq3,rfl,fun j _=>by simp⟩ ?_ ?_
   ·rintro i2 σ H6 hi2 ⟨us,b2,b3,b4,b5,b6,b7,rfl,s6,hr6,hul,hus⟩;have hil:i2<ls.length:=by omega
    have ha6:=s6.seq ha;obtain⟨u,hu1,hu2⟩:=hT.at (List.getElem?_eq_getElem hil);have hu3:=s6 _ _ hu2;have at1:atI bs (i2:Int)=some (.ref u):=Wf hu1;have at2:=YE (ns:=us) (k:=(i2:Int)) (by omega) (by omega);have e1:=hus i2 (by omega);rw[if_neg (Nat.lt_irrefl _)] at e1;rw[Int.toNat_natCast,e1] at at2;have hm1:=hmin i2 hil;have esx:(Y5 ls hs w).getD i2 0=hs.getD i2 0-(if ls[i2].taker=w then ls[i2].take else 0)+(if ls[i2].giver=w then ls[i2].give else 0):=by
     rw[Zv (show i2<(Y5 ls hs w).length by omega),ZbA hil (by omega) (by omega),Zv (show i2<hs.length by omega)]
    have hset:∀x,x=(Y5 ls hs w).getD i2 0→∀j<hs.length,(us.set i2 x).getD j 0=if j<i2+1 then(Y5 ls hs w).getD j 0 else hs.getD j 0:=fun x ex j hj=>by
     have hju:j<us.length:=by omega
     rw[Zv (by rw[List.length_set];exact hju),List.getElem_set]
     by_cases e:i2=j
     ·subst e;rw[if_pos rfl,if_pos (Nat.lt_succ_self _),ex]
     ·rw[if_neg e,←Zv (d:=0) hju,hus j hj]
      by_cases z:j<i2
      ·rw[if_pos z,if_pos (by omega)]
      ·rw[if_neg z,if_neg (by omega)]
    have il:(i2:Int)<((us.map V.int).length:Int):=by simp;omega
    generalize ls[i2]=bb at*;generalize hs.getD i2 0=h0 at*;dsimp only[B5.v] at hu3;rw[Int.zero_add];walk_at "rds";refine Rd.VL (.of hu3) rfl ?_;walk_at "rds";refine Rd.cut (fun σ' H'=>H'=H6∧σ'=[some (.ref rw_),some (.ref a),some (.ref ra),some (.ref hp),some (.int (w:Nat)),some (.int i2),some (.int bb.giver),some (.int bb.taker),some (.int bb.give),some (.int bb.take),some (.int bb.start),none]) ?k0 ?i0
    case i0=>
     walk_at "rds";refine Rd.ifD (fun c=>?_) (fun c=>?_)
     ·have hm2:¬h0<bb.take:=Int.not_lt.mpr (hm1 c);walk_at "rds";exact⟨rfl,rfl⟩
     ·walk_at "rds";exact⟨rfl,rfl⟩
    case k0=>
    rintro σ' H' ⟨rfl,rfl⟩;refine Rd.cut (fun σ' H'=>σ'=[some (.ref rw_),some (.ref a),some (.ref ra),some (.ref hp),some (.int (w:Nat)),some (.int i2),some (.int bb.giver),some (.int bb.taker),some (.int bb.give),some (.int bb.take),some (.int bb.start),none]∧Zd H H'∧H' hp=some (.lst ((us.set i2 (h0-(if bb.taker=w then bb.take else 0))).map V.int))) ?k1 ?i1
    case i1=>
     walk_at "rds";refine Rd.ifD (fun c=>?_) (fun c=>?_)
     ·walk_at "rds";refine⟨rfl,s6.new hhp,?_⟩;rw[Zf,if_pos c,List.map_set,Int.toNat_natCast]
     ·walk_at "rds";refine⟨rfl,s6,?_⟩;have:us.set i2 (h0-0)=us:=by
       rw[Int.sub_zero,←e1,Zv (show i2<us.length by omega)];exact List.set_getElem_self _
      rw[if_neg c,this];exact hr6
    case k1=>
    rintro σ' H7 ⟨rfl,s7,hr7⟩;generalize h0-(if bb.taker=w then bb.take else 0)=h1 at*;have at3:=YE (ns:=us.set i2 h1) (k:=(i2:Int)) (by omega) (by rw[List.length_set];omega);rw[Int.toNat_natCast,Zv (show i2<(us.set i2 h1).length by rw[List.length_set];omega),List.getElem_set_self] at at3;have il3:(i2:Int)<(((us.set i2 h1).map V.int).length:Int):=by simp;omega
    walk_at "rds";refine Rd.ifD (fun c=>?_) (fun c=>?_)
    ·walk_at "rds";refine⟨us.set i2 (h1+bb.give),_,_,_,_,_,_,rfl,s7.new hhp,?_,by rw[List.length_set];exact hul,hset _ (by rw[esx,if_pos c])⟩;rw[Zf,Int.toNat_natCast,←List.map_set,List.set_set]
    ·walk_at "rds";exact⟨us.set i2 h1,_,_,_,_,_,_,rfl,s7,hr7,by rw[List.length_set];exact hul,hset _ (by rw[esx,if_neg c,Int.add_zero])⟩
   ·rintro σ H6 ⟨us,b2,b3,b4,b5,b6,b7,rfl,s6,hr6,hul,hus⟩;have eu:us=Y5 ls hs w:=by
     refine List.ext_getElem (by omega) fun j h1 h2=>?_;have:=hus j (by omega);rw[if_pos (by rw[Int.toNat_natCast];omega),Zv h1,Zv h2] at this;exact this
    rw[eu,esh] at hr6;walk_at "rds";exact⟨Fire.bump e w,_,_,_,_,_,_,_,rfl,s6,hr6,hr3⟩
  ·rintro σ H3 ⟨e,a1,a2,a3,a4,a5,a6,a7,rfl,s3,hhq3,hr2⟩;rw[List.length_map,List.length_map,List.drop_length] at hr2;have ee:e=d:=by cases hr2;rfl
   subst ee;rw[Zgh hpos hbt hbal hd] at hhq3;have ha3:=s3.seq ha;have hT3:=hstart _ s3;have hra3:=s3.seq hra;have hrw3:=s3.seq hrwq;walk_at "rds";refine YU Uz (Zs (by rw[rl];omega)) (fun _=>true) (fun v=> .int (rs.getD v 0)) (fun v H' Kc hv sm k=>?_) (fun v H' Kc hv _ sm k=>?_) (fun ct H4 hct s4 hct4=>?_)
   ·walk_at "rds";exact k H' (Zd.refl H')
   ·have hv':v<rs.length:=by omega
    have hr4:=sm _ _ (s3 _ _ hrw');have hw4:=SqL.of (K:=K) hr4;have ec:((ws.map fun w:Nat=>(w:Int)).count (v:Int):Int)=rs.getD v 0:=by
     rw[ZgU,←Vs hpos hv',←hd v hv',hcnt v];simp
    rw[Int.zero_add];walk_at "rds";refine Rd.ZhZ hw4 ?_;rw[ec];walk_at "rds";exact k H' (Zd.refl H')
   have ect:H4 ct=some (.lst (rs.map V.int)):=by
    rw[hct4,List.filter_eq_self.mpr (by simp),rl,Int.toNat_natCast];refine congrArg (fun z=>some (HO.lst z)) ?_;refine List.ext_getElem (by simp) fun i h1 h2=>?_;have:i<rs.length:=by simpa using h1
    simp[List.getD,this]
   have s34:=s3.trans s4;have hra4:=s34.seq hra;have hhq4:=s4 _ _ hhq3;have ha4:=s34.seq ha;have hT4:=hstart _ s34;walk_at "rds";refine Rd.ZhE (SqL.of ect) hra4 ?_;walk_at "rds";refine YU (ZZ ha4) (Zs (by omega)) (fun _=>true) (fun i=> .int (ls.getD i dB).start) (fun i H' Kc hi sm k=>?_) (fun i H' Kc hi _ sm k=>?_) (fun st H5 hst s5 hst5=>?_)
   ·walk_at "rds";exact k H' (Zd.refl H')
   ·obtain⟨t,ht1,ht2⟩:=hT4.getD (i:=i) (by omega);rw[ht1];have ht3:=sm _ _ ht2;generalize ls.getD i dB=bb at*;dsimp only[B5.v] at ht3;walk_at "rds";exact k H' (Zd.refl H')
   have est:H5 st=some (.lst ((ZN ls).map V.int)):=by
    rw[hst5,List.filter_eq_self.mpr (by simp),hbl];refine congrArg (fun z=>some (HO.lst z)) ?_;unfold ZN;refine List.ext_getElem (by simp) fun i h1 h2=>?_;have:i<ls.length:=by simpa using h1
    simp[List.getD,this]
   refine Rd.ZhE (SqL.of (s5 _ _ hhq4)) (SqL.of est) ?_;walk_at "rds";exact q H5 (s34.trans s5)
end
def Za6{K:PySem.W.Frag}{mg:Str→Option Value}(T:Tp K mg):Sp:=fun vs H Q E=>∃i:Int,vs=[.int i]∧(¬0≤i→E (.ref T.X_NoRate) none H)∧(0≤i→Q .non H)
section
variable {P:Program}{w:World}{K:PySem.W.Frag}{mg:Str→Option Value}{base:Heap}
theorem Zd4(T:Tp K mg):Zk P w K mg base (CXX P w) 3 T.f_need_start T.d_need_start ["start"] (Za6 T):=by
 have G_is_from:Zk P w K mg base (CXX P w) 2 T.f_is_from T.d_is_from ["thing","least"] (W2 T):=(ZaK T).mono (by decide);refine T.F_need_start.okX Zd6 (fun vs H Q E h=>?_) (fun cdv A outer s H vs Q E hr h=>?_)
 ·obtain⟨i,rfl,_⟩:=h
  rfl
 ·have hu:=hr.units;obtain⟨i,rfl,e1,q⟩:=h;refine⟨_,(Zg (ZV (Wz (Yd (K:=K) rfl (Zw G_is_from hr rfl T.m_is_from T.F_is_from.kp T.b_is_from .nil Zm (Za (pv 0) (Za Zh Zb))) (fun _=>rfl))) (Zg (YQ T.gx_NoRate T.ex_NoRate PySem.F.excBase_ValueError rfl (Za Yb Zb))) ZJ)),?_⟩
  try dsimp only[L2.cxX,L2.ZP,L2.Zl]
  walk_at "rds"
  by_cases c:0≤i
  ·rw[decide_eq_true c];walk_at "rds";exact q c
  ·rw[decide_eq_false c];walk_at "rds";exact e1 c
end
def Zck{K:PySem.W.Frag}{mg:Str→Option Value}(T:Tp K mg):Sp:=fun vs H Q E=>∃(p u:Addr)(b:B5)(hl:HM)(fp:List Addr),vs=[.ref p,.ref u]∧Zy T H p hl fp∧H u=some (.tup b.v)∧hl.belts.length≤1000∧
 ∀(H':Hp)(fp':List Addr),Zy T H' p ⟨hl.names,hl.belts++ [b]⟩ fp'→ZM fp H H'→VU fp fp' H→Q (.int hl.belts.length) H'
section
variable {P:Program}{w:World}{K:PySem.W.Frag}{mg:Str→Option Value}{base:Heap}
theorem Zfl(T:Tp K mg):Zk P w K mg base (CXX P w) 1 T.f_Hall_lay T.d_Hall_lay ["self","row"] (Zck T):=by
 have cl_Hall:=T.cl_Hall;have na_Hall:=T.na_Hall;refine T.F_Hall_lay.okX ZfA (fun vs H Q E h=>?_) (fun cdv A outer s H vs Q E hr h=>?_)
 ·obtain⟨p,u,b,hl,fp,rfl,_⟩:=h
  rfl
 ·have hu:=hr.units;obtain⟨p,u,b,hl,fp,rfl,hh,hu',hz,q⟩:=h;obtain⟨dx,a,bb,bs,rfl,h1,h2,h3,h4,nab,h6⟩:=id hh;have npb:p≠bb:=YD h1 h4 (by intro z;cases z);have ndb:dx≠bb:=YD h2 h4 (by intro z;cases z);have nub:u≠bb:=YD hu' h4 (by intro z;cases z);have hz':bs.length<sizeLine:=Zs (by rw[h6.length];exact hz);have hlb:=h6.length;refine⟨_,(Zc (ZX (Wi (K:=K) rfl PySem.F.plainAttrs_list PySem.F.slot_list_append PySem.F.type_list_append YT (ZW (K:=K) rfl (pv 0) rfl) (Za (pv 1) Zb)))
     (Zg (Zx (ZL Uw (ZB (Y2 (K:=K) rfl) (by rfl) T.n_len PySem.boot_len (Za (ZW (K:=K) rfl (pv 0) rfl) Zb)) Zh)))),?_⟩
  try dsimp only[L2.cxX,L2.ZP,L2.Zl]
  walk_at "rds";have k1:(upd H bb (.lst (bs++ [.ref u]))) p=some (.ins T.C_Hall dx [("numbers",.ref a),("rows",.ref bb)]):=by rw[Ze npb];exact h1
  have k4:(upd H bb (.lst (bs++ [.ref u]))) bb=some (.lst (bs++ [.ref u])):=Zf;walk_at "rds";have el:((bs++ [V.ref u]).length:Int)-1=hl.belts.length:=by simp[hlb]
  rw[el];have fr:ZM [p,dx,a,bb] H (upd H bb (.lst (bs++ [.ref u]))):=Yy (by simp) h4 (by intro _ z;cases z);refine q _ [p,dx,a,bb] ⟨dx,a,bb,_,rfl,k1,?_,?_,k4,nab,(h6.keep fr.tups).snoc (fr.tups _ _ hu')⟩ fr VU.refl
  ·rw[Ze ndb];exact h2
  ·rw[Ze nab];exact h3
end
def UY{K:PySem.W.Frag}{mg:Str→Option Value}(T:Tp K mg):Sp:=fun vs H Q E=>∃(p:Addr)(b:B5)(hl:HM)(fp:List Addr),vs= .ref p::b.v∧Zy T H p hl fp∧hl.belts.length≤1000∧
 (¬(0≤b.giver∧b.giver<hl.names.length∧0≤b.taker∧b.taker<hl.names.length)→∀H',Zd H H'→E (.ref T.X_NoWork) none H')∧
 ((0≤b.giver∧b.giver<hl.names.length∧0≤b.taker∧b.taker<hl.names.length)→¬(1≤b.give∧1≤b.take∧0≤b.start)→∀H',Zd H H'→E (.ref T.X_NoRate) none H')∧
 ((0≤b.giver∧b.giver<hl.names.length∧0≤b.taker∧b.taker<hl.names.length)→(1≤b.give∧1≤b.take∧0≤b.start)→60≤hl.belts.length→∀H',Zd H H'→E (.ref T.X_TooMuch) none H')∧
 ((0≤b.giver∧b.giver<hl.names.length∧0≤b.taker∧b.taker<hl.names.length)→(1≤b.give∧1≤b.take∧0≤b.start)→hl.belts.length<60→∀(H':Hp)(fp':List Addr),Zy T H' p ⟨hl.names,hl.belts++ [b]⟩ fp'→ZM fp H H'→VU fp fp' H→Q (.int hl.belts.length) H')
theorem Wk{K:PySem.W.Frag}{mg:Str→Option Value}{T:Tp K mg}{H:Hp}{Q:VK}{E:XK}{p:Addr}{g t gv tk st:Int}{hl:HM}{fp:List Addr}(h:Zy T H p hl fp)
  (h1:0≤g) (h2:g<hl.names.length) (h3:0≤t) (h4:t<hl.names.length) (h5:1≤gv) (h6:1≤tk) (h7:0≤st) (hlen:hl.belts.length<60)
  (q:∀(H':Hp)(fp':List Addr),Zy T H' p ⟨hl.names,hl.belts++ [⟨g,t,gv,tk,st⟩]⟩ fp'→ZM fp H H'→VU fp fp' H→Q (.int hl.belts.length) H'):UY T [.ref p,.int g,.int t,.int gv,.int tk,.int st] H Q E:=
 ⟨p,⟨g,t,gv,tk,st⟩,hl,fp,rfl,h,by omega,fun z=>absurd ⟨h1,h2,h3,h4⟩ z,fun _ z=>absurd ⟨h5,h6,h7⟩ z,fun _ _ z=>absurd z (by omega),fun _ _ _=>q⟩
section
variable {P:Program}{w:World}{K:PySem.W.Frag}{mg:Str→Option Value}{base:Heap}
theorem Ze3(T:Tp K mg):Zk P w K mg base (CXX P w) 5 T.f_Hall_belt T.d_Hall_belt ["self","giver","taker","give","take","start"] (UY T):=by
 have G_need_start:Zk P w K mg base (CXX P w) 4 T.f_need_start T.d_need_start ["start"] (Za6 T):=(Zd4 T).mono (by decide);have G_is_from:Zk P w K mg base (CXX P w) 4 T.f_is_from T.d_is_from ["thing","least"] (W2 T):=(ZaK T).mono (by decide);have G_Hall_need_work:Zk P w K mg base (CXX P w) 4 T.f_Hall_need_work T.d_Hall_need_work ["self","work"] (Wd T):=(W9 T).mono (by decide);have G_Hall_lay:Zk P w K mg base (CXX P w) 4 T.f_Hall_lay T.d_Hall_lay ["self","row"] (Zck T):=(Zfl T).mono (by decide);have cl_Hall:=T.cl_Hall;have na_Hall:=T.na_Hall;refine T.F_Hall_belt.okX ZeE (fun vs H Q E h=>?_) (fun cdv A outer s H vs Q E hr h=>?_)
 ·obtain⟨p,b,hl,fp,rfl,_⟩:=h
  rfl
 ·have hu:=hr.units;obtain⟨p,b,hl,fp,rfl,hh,hz,e1,e2,e3,q⟩:=h;obtain⟨dx,a,bb,bs,rfl,h1,h2,h3,h4,nab,h6⟩:=id hh;obtain⟨g,t,gv,tk,st⟩:=b;have hlb:=h6.length;refine⟨_,(Zc (ZX (ZY (pv 0) T.cl_Hall T.M_Hall_need_work G_Hall_need_work hr T.b_Hall_need_work .nil Zm (Za (pv 1) Zb)))
     (Zc (ZX (ZY (pv 0) T.cl_Hall T.M_Hall_need_work G_Hall_need_work hr T.b_Hall_need_work .nil Zm (Za (pv 2) Zb)))
     (Zc (ZV (PW.pt (Zgx (Wz (Yd (K:=K) rfl (Zw G_is_from hr rfl T.m_is_from T.F_is_from.kp T.b_is_from .nil Zm (Za (pv 3) (Za Zh Zb))) (fun _=>rfl))) (Zfa (Wz (Yd (K:=K) rfl (Zw G_is_from hr rfl T.m_is_from T.F_is_from.kp T.b_is_from .nil Zm (Za (pv 4) (Za Zh Zb))) (fun _=>rfl)))))) (Zg (YQ T.gx_NoRate T.ex_NoRate PySem.F.excBase_ValueError rfl (Za Yb Zb))) ZJ)
     (Zc (ZX (Zw G_need_start hr rfl T.m_need_start T.F_need_start.kp T.b_need_start .nil Zm (Za (pv 5) Zb)))
     (Zc (ZV (ZC Zeg (ZB (Y2 (K:=K) rfl) (by rfl) T.n_len PySem.boot_len (Za (ZW (K:=K) rfl (pv 0) rfl) Zb)) (Wg (v:= .int 60) rfl T.c_MOST_BELTS ⟨_,rfl⟩) (ZE _)) (Zg (YQ T.gx_TooMuch T.ex_TooMuch PySem.F.excBase_ValueError rfl (Za Yb Zb))) ZJ)
     (Zg (Zx (ZY (pv 0) T.cl_Hall T.M_Hall_lay G_Hall_lay hr T.b_Hall_lay .nil Zm (Za (YJ (Za (pv 1) (Za (pv 2) (Za (pv 3) (Za (pv 4) (Za (pv 5) Zb)))))) Zb))))))))),?_⟩
  try dsimp only[L2.cxX,L2.ZP,L2.Zl]
  dsimp only[B5.v] at*;walk_at "rds";refine⟨p,g,hl,_,rfl,hh,fun z=>e1 (by omega) H (Zd.refl H),fun g0 g1=>?_⟩;walk_at "rds";refine⟨p,t,hl,_,rfl,hh,fun z=>e1 (by omega) H (Zd.refl H),fun t0 t1=>?_⟩;have ws:0≤g∧g<hl.names.length∧0≤t∧t<hl.names.length:=⟨g0,g1,t0,t1⟩;walk_at "rds"
  by_cases c:1≤gv
  ·rw[decide_eq_true c];walk_at "rds"
   by_cases d:1≤tk
   ·rw[decide_eq_true d];walk_at "rds";refine⟨st,rfl,fun z=>e2 ws (by omega) H (Zd.refl H),fun f=>?_⟩;walk_at "rds";refine Rd.ifD (fun l=>?_) (fun l=>?_)
    ·walk_at "rds";exact e3 ws (by omega) (by omega) H (Zd.refl H)
    walk_at "rds";refine⟨by show 5≤sizeLine;decide,fun u hu'=>?_⟩;have sn:Zd H (upd H u (.tup [.int g,.int t,.int gv,.int tk,.int st])):=Zn hu';have hh':=hh.same sn;walk_at "rds";refine⟨p,u,⟨g,t,gv,tk,st⟩,hl,_,rfl,hh',Zf,hz,fun H' fp' hh2 fr gr=>?_⟩;refine q ws (by omega) (by omega) H' fp' hh2 (sn.frame.trans fr) (fun x hx=>?_);rcases gr x hx with z|z
    ·exact .inl z
    ·refine .inr ?_;cases e:H x with
     |none=>rfl
     |some o=>rw[sn _ _ e] at z;cases z
   ·rw[decide_eq_false d];walk_at "rds";exact e2 ws (by omega) H (Zd.refl H)
  ·rw[decide_eq_false c];walk_at "rds";exact e2 ws (by omega) H (Zd.refl H)
end
def ZcP{K:PySem.W.Frag}{mg:Str→Option Value}(T:Tp K mg):Sp:=fun vs H Q _=>∃x:Str,vs=[.str x]∧x.length≤sizeLine∧∀H',Zd H H'→Q (.bl (Wl x)) H'
noncomputable def letter (c:Nat):Bool:=decide (97≤c)&&decide (c≤122)
theorem ZdC(c d:Nat):decide ((⟨#[c]⟩:Str).cps.toList<(⟨#[d]⟩:Str).cps.toList)=decide (c<d):=by
 show decide ([c]< [d])=decide (c<d);have e:([c]< [d])↔c<d:=by
  constructor
  ·intro h;cases h with
   |rel h=>exact h
   |cons h=>cases h
  ·exact fun h=> .rel h
 by_cases h:c<d
 ·rw[decide_eq_true h,decide_eq_true (e.mpr h)]
 ·rw[decide_eq_false h,decide_eq_false (fun z=>h (e.mp z))]
theorem Zlm:("a" :Str)=⟨#[97]⟩:=by decide+kernel
theorem Zls:("z" :Str)=⟨#[122]⟩:=by decide+kernel
theorem Zga(x:Str):(((List.range x.cps.size).map fun i=>letter (x.cps.getD i 0)).all id)=x.cps.toList.all letter:=by
 rw[List.all_map,Bool.eq_iff_iff,List.all_eq_true,List.all_eq_true]
 constructor
 ·intro h c hc;obtain⟨i,hi,rfl⟩:=List.getElem_of_mem hc;have hi':i<x.cps.size:=by simpa using hi
  have:=h i (List.mem_range.mpr hi');simpa[Array.getD,hi'] using this
 ·intro h i hi;have hi':=List.mem_range.mp hi;have:=h x.cps[i] (by simp);simpa[Array.getD,hi'] using this
theorem Zbr(x:Str):Wl x=(decide (1≤x.length)&&decide (x.length≤8)&&x.cps.toList.all letter):=rfl
section
variable {P:Program}{w:World}{K:PySem.W.Frag}{mg:Str→Option Value}{base:Heap}
theorem Zg1(T:Tp K mg):Zk P w K mg base (CXX P w) 1 T.f_is_name T.d_is_name ["thing"] (ZcP T):=by
 refine T.F_is_name.okX Zgo (fun vs H Q E h=>?_) (fun cdv A outer s H vs Q E hr h=>?_)
 ·obtain⟨x,rfl,_⟩:=h
  rfl
 ·have hu:=hr.units;obtain⟨x,rfl,hx,q⟩:=h;refine⟨_,(Zc (ZV (Wz (Yd (K:=K) rfl (ZB (Zgj (K:=K) rfl) (by rfl) T.n_isinstance PyProof.Rows.boot_isinstance (Za (pv 0) (Za (ZbN (v:= .ty "str") (by rfl) T.n_str PyProof.Rows.boot_str rfl) Zb))) (fun _=>rfl))) (Zg (Zx VI)) ZJ)
     (Zc (ZV (PW.pt (Zgx (ZC UP (ZB (Y2 (K:=K) rfl) (by rfl) T.n_len PySem.boot_len (Za (pv 0) Zb)) Zh (ZE _)) (Zfa (ZC ZbX (ZB (Y2 (K:=K) rfl) (by rfl) T.n_len PySem.boot_len (Za (pv 0) Zb)) (Wg (v:= .int 8) rfl T.c_MOST_LETTERS ⟨_,rfl⟩) (ZE _))))) (Zg (Zx VI)) ZJ)
     (Zg (Zx (ZB (Zjs (K:=K) rfl rfl) (by rfl) T.n_all PyProof.Rows.boot_all (Za (UT rfl (Yi (x:="sign") (zs:=[]) (ix:=[]) (Zi Uu) ["thing"] rfl rfl (by decide+kernel)) (Zk9 (pv 0)) (fun cl C s H fp=>⟨(Zp (i:=0) (show(["sign"]:List Str).Nodup by decide+kernel) rfl (Or.inl rfl)),Ye,(Ziv ZdL ZdL Yb (pv 0) Yb)⟩)) Zb)))))),?_⟩
  try dsimp only[L2.cxX,L2.ZP,L2.Zl]
  walk_at "rds";refine Vp (fun c=>?_) (fun c=>?_)
  ·have c':¬1≤x.length:=by simp at c;omega
   walk_at "rds";have e:Wl x=false:=by rw[Zbr,decide_eq_false c'];rfl
   rw[←e];exact q H (Zd.refl H)
  ·have c':1≤x.length:=by simp at c;omega
   walk_at "rds";refine Vp (fun d=>?_) (fun d=>?_)
   ·have d':¬x.length≤8:=by simp at d;omega
    walk_at "rds";have e:Wl x=false:=by rw[Zbr,decide_eq_false d',Bool.and_false];rfl
    rw[←e];exact q H (Zd.refl H)
   ·have d':x.length≤8:=by simp at d;omega
    have hn:x.cps.size<sizeLine:=Zs (by have:x.cps.size=x.length:=rfl;omega);walk_at "rds";refine YU Zhj hn (fun _=>true) (fun i=> .bl (letter (x.cps.getD i 0))) (fun i H' Kc hi sm k=>?_) (fun i H' Kc hi _ sm k=>?_) (fun p H' hp sm hl=>?_)
    ·walk_at "rds";exact k H' (Zd.refl H')
    ·walk_at "rds";rw[Zlm,Zls,ZdC];generalize x.cps.getD i 0=cc at k⊢;refine Vp (fun z=>?_) (fun z=>?_)
     ·walk_at "rds";have e:(!decide (122<cc))=letter cc:=by
       have z':97≤cc:=by simpa using z
       unfold letter;rw[decide_eq_true z',Bool.true_and]
       by_cases y:cc≤122
       ·rw[decide_eq_true y,decide_eq_false (by omega)];rfl
       ·rw[decide_eq_false y,decide_eq_true (by omega)];rfl
      rw[ZdC,e];exact k H' (Zd.refl H')
     ·have e:false=letter cc:=by
       have z':¬97≤cc:=by simpa using z
       unfold letter;rw[decide_eq_false z'];rfl
      rw[e];exact k H' (Zd.refl H')
    ·have hl':H' p=some (.lst (((List.range x.cps.size).map fun i=>letter (x.cps.getD i 0)).map V.bl)):=by
      rw[hl,List.filter_eq_self.mpr (by simp),List.map_map];rfl
     walk_at "rds";rw[Zga];have e:x.cps.toList.all letter=Wl x:=by rw[Zbr,decide_eq_true c',decide_eq_true d'];rfl
     rw[e];exact q H' sm
end
def U2{K:PySem.W.Frag}{mg:Str→Option Value}(T:Tp K mg):Sp:=fun vs H Q E=>∃(p:Addr)(x:Str)(hl:HM)(fp:List Addr),vs=[.ref p,.str x]∧Zy T H p hl fp∧x.length≤sizeLine∧hl.names.length≤1000∧
 (Wl x=false→∀H',Zd H H'→E (.ref T.X_NoName) none H')∧(Wl x=true→x∈hl.names→∀H',Zd H H'→E (.ref T.X_Twice) none H')∧
 (Wl x=true→x∉hl.names→30≤hl.names.length→∀H',Zd H H'→E (.ref T.X_TooMuch) none H')∧
 (Wl x=true→x∉hl.names→hl.names.length<30→∀(H':Hp)(fp':List Addr),Zy T H' p ⟨hl.names++ [x],hl.belts⟩ fp'→ZM fp H H'→VU fp fp' H→Q (.int hl.names.length) H')
theorem ZeB{K:PySem.W.Frag}{mg:Str→Option Value}{T:Tp K mg}{H:Hp}{Q:VK}{E:XK}{p:Addr}{x:Str}{hl:HM}{fp:List Addr}(h:Zy T H p hl fp)(hn:Wl x=true)(hx:x∉hl.names)(hlen:hl.names.length<30)
  (q:∀(H':Hp)(fp':List Addr),Zy T H' p ⟨hl.names++ [x],hl.belts⟩ fp'→ZM fp H H'→VU fp fp' H→Q (.int hl.names.length) H'):U2 T (.ref p::([.str x]++ [])) H Q E:=by
 have l8:x.length≤sizeLine:=by
  have:x.length≤8:=by
   have e:=hn;unfold Wl at e;simp only[Bool.and_eq_true,decide_eq_true_eq] at e;exact e.1.2
  exact Nat.le_of_lt (Zs (by omega))
 exact⟨p,x,hl,fp,rfl,h,l8,by omega,fun z=>(by rw[hn] at z;cases z),fun _ z=>absurd z hx,fun _ _ z=>absurd z (by omega),fun _ _ _=>q⟩
section
variable {P:Program}{w:World}{K:PySem.W.Frag}{mg:Str→Option Value}{base:Heap}
theorem ZeH(T:Tp K mg):Zk P w K mg base (CXX P w) 2 T.f_Hall_work T.d_Hall_work ["self","name"] (U2 T):=by
 have G_is_name:Zk P w K mg base (CXX P w) 1 T.f_is_name T.d_is_name ["thing"] (ZcP T):=(Zg1 T).mono (by decide);have cl_Hall:=T.cl_Hall;have na_Hall:=T.na_Hall;refine T.F_Hall_work.okX Zbn (fun vs H Q E h=>?_) (fun cdv A outer s H vs Q E hr h=>?_)
 ·obtain⟨p,x,hl,fp,rfl,_⟩:=h
  rfl
 ·have hu:=hr.units;obtain⟨p,x,hl,fp,rfl,hh,hx,hz,e1,e2,e3,q⟩:=h;obtain⟨dx,a,b,bs,rfl,h1,h2,h3,h4,nab,h6⟩:=id hh;have npa:p≠a:=YD h1 h3 (by intro z;cases z);have nda:dx≠a:=YD h2 h3 (by intro z;cases z);refine⟨_,(Zc (ZV (Wz (Yd (K:=K) rfl (Zw G_is_name hr rfl T.m_is_name T.F_is_name.kp T.b_is_name .nil Zm (Za (pv 1) Zb)) (fun _=>rfl))) (Zg (YQ T.gx_NoName T.ex_NoName PySem.F.excBase_ValueError rfl (Za Yb Zb))) ZJ)
     (Zc (ZV (ZC (Zhg hu) (pv 1) (ZW (K:=K) rfl (pv 0) rfl) (by with_unfolding_all rfl)) (Zg (YQ T.gx_Twice T.ex_Twice PySem.F.excBase_ValueError rfl (Za Yb Zb))) ZJ)
     (Zc (ZV (ZC Zeg (ZB Zf9 (by rfl) T.n_len PySem.boot_len (Za (ZW (K:=K) rfl (pv 0) rfl) Zb)) (Wg (v:= .int 30) rfl T.c_MOST_WORKS ⟨_,rfl⟩) (ZE _)) (Zg (YQ T.gx_TooMuch T.ex_TooMuch PySem.F.excBase_ValueError rfl (Za Yb Zb))) ZJ)
     (Zc (Zt (i:=2) Zbn.nd rfl (Or.inl rfl) (ZB Zf9 (by rfl) T.n_len PySem.boot_len (Za (ZW (K:=K) rfl (pv 0) rfl) Zb)))
     (Zc (WT (pv 2) (VS (ZW (K:=K) rfl (pv 0) rfl) (pv 1) (UX hu)))
     (Zg (Zx (pv 2)))))))),?_⟩
  try dsimp only[L2.cxX,L2.ZP,L2.Zl]
  walk_at "rds";refine⟨x,rfl,hx,fun H1 sm1=>?_⟩;have g1:=sm1 _ _ h1;have g3:=sm1 _ _ h3;have hz':(numsOf hl.names).length<sizeLine:=Zs (by rw[US];exact hz);walk_at "rds";cases hn:Wl x with
  |false=>
   walk_at "rds";exact e1 hn H1 sm1
  |true=>
   walk_at "rds";rw[ZdI];refine Vp (fun c=>?_) (fun c=>?_)
   ·walk_at "rds";exact e2 hn (of_decide_eq_true c) H1 sm1
   ·have c':x∉hl.names:=fun z=>c (decide_eq_true z);walk_at "rds";rw[US];refine Vp (fun d=>?_) (fun d=>?_)
    ·have d':30≤hl.names.length:=by simp at d;omega
     walk_at "rds";exact e3 hn c' d' H1 sm1
    ·have d':hl.names.length<30:=by simp at d;omega
     walk_at "rds";rw[US,Zgt c'];have fr:ZM [p,dx,a,b] H (upd H1 a (.dK (numsOf (hl.names++ [x])))):=sm1.frame.trans (Yy (by simp) g3 (by intro _ z;cases z));refine q hn c' d' _ [p,dx,a,b] ⟨dx,a,b,bs,rfl,?_,?_,Zf,?_,nab,h6.keep fr.tups⟩ fr VU.refl
     ·rw[Ze npa];exact g1
     ·rw[Ze nda];exact sm1 _ _ h2
     ·rw[Ze nab.symm];exact sm1 _ _ h4
end
def U6{K:PySem.W.Frag}{mg:Str→Option Value}(T:Tp K mg):Sp:=fun vs H Q _=>∃p dx:Addr,vs=[.ref p]∧H p=some (.ins T.C_Hall dx [])∧H dx=some (.own p)∧
 ∀(H':Hp)(fp:List Addr),Zy T H' p ⟨[],[]⟩ fp→(∀x∈fp,x=p∨x=dx∨H x=none)→(∀b o,H b=some o→b≠p→H' b=some o)→Q .non H'
theorem Zei{K:PySem.W.Frag}{mg:Str→Option Value}{T:Tp K mg}{H:Hp}{Q:Addr→Hp→Prop}{E:XK}
  (q:∀(p:Addr)(fp:List Addr)(H':Hp),Zy T H' p ⟨[],[]⟩ fp→(∀x∈fp,H x=none)→Zd H H'→Q p H'):
  ∀x dx,H x=none→H dx=none→dx≠x→U6 T (.ref x::([]++ [])) (upd (upd H dx (.own x)) x (.ins T.C_Hall dx [])) (fun v H2=>v= .non∧Q x H2) E:=by
 intro x dx hx hdx ne;refine⟨x,dx,rfl,Zf,by rw[Ze ne,Zf],fun H' fp hh hf hk=>⟨rfl,q x fp H' hh (fun y hy=>?_) (fun b o e=>hk b o ?_ (Zj e hx))⟩⟩
 ·rcases hf y hy with rfl|rfl|h
  ·exact hx
  ·exact hdx
  ·by_cases h1:y=x
   ·rw[h1];exact hx
   ·by_cases h2:y=dx
    ·rw[h2];exact hdx
    ·rw[Ze h1,Ze h2] at h;exact h
 ·rw[Ze (Zj e hx),Ze (Zj e hdx)];exact e
local macro_rules| `(tactic|walk_at "rd")=>`(tactic|first|with_reducible refine Nm.Zei ?_|fail "none here")
section
variable {P:Program}{w:World}{K:PySem.W.Frag}{mg:Str→Option Value}{base:Heap}
theorem ZeC(T:Tp K mg):Zk P w K mg base (CXX P w) 1 T.f_Hall_init T.d_Hall_init ["self"] (U6 T):=by
 have cl_Hall:=T.cl_Hall;have na_Hall:=T.na_Hall;refine T.F_Hall_init.okX Zfb (fun vs H Q E h=>?_) (fun cdv A outer s H vs Q E hr h=>?_)
 ·obtain⟨p,dx,rfl,_⟩:=h
  rfl
 ·have hu:=hr.units;obtain⟨p,dx,rfl,hp,hdx,q⟩:=h;refine⟨_,(Zc (V2 (K:=K) rfl (pv 0) U5 rfl)
     (Zg (V2 (K:=K) rfl (pv 0) (WU Zb) rfl))),?_⟩
  try dsimp only[L2.cxX,L2.ZP,L2.Zl]
  walk_at "rds";intro a ha;have npa:p≠a:=Zj hp ha;have nda:dx≠a:=Zj hdx ha;have npd:p≠dx:=YD hp hdx (by intro z;cases z);have hp1:(upd H a (.dK [])) p=some (.ins T.C_Hall dx []):=by rw[Ze npa];exact hp
  walk_at "rds";refine⟨Nat.zero_le _,fun b hb=>?_⟩;have hb0:H b=none:=by
   by_cases h1:b=p
   ·rw[h1,Zf] at hb;cases hb
   ·by_cases h2:b=a
    ·rw[h2];exact ha
    ·rw[Ze h1,Ze h2] at hb;exact hb
  have npb:p≠b:=Zj hp hb0;have ndb:dx≠b:=Zj hdx hb0;have nab:a≠b:=by
   intro z;rw[←z,Ze npa.symm,Zf] at hb;cases hb
  have hp2:(upd (upd (upd H a (.dK [])) p (.ins T.C_Hall dx [("numbers",.ref a)])) b (.lst [])) p=some (.ins T.C_Hall dx [("numbers",.ref a)]):=by rw[Ze npb,Zf]
  walk_at "rds";refine q _ [p,dx,a,b] ⟨dx,a,b,[],rfl,Zf,?_,?_,?_,nab,.nil⟩ (fun x hx=>?_) (fun c o e hc=>?_)
  ·rw[Ze npd.symm,Ze ndb,Ze npd.symm,Ze nda];exact hdx
  ·rw[Ze npa.symm,Ze nab,Ze npa.symm,Zf];rfl
  ·rw[Ze npb.symm,Zf]
  ·simp only[List.mem_cons,List.not_mem_nil,or_false] at hx;rcases hx with rfl|rfl|rfl|rfl
   ·exact .inl rfl
   ·exact .inr (.inl rfl)
   ·exact .inr (.inr ha)
   ·exact .inr (.inr hb0)
  ·rw[Ze hc,Ze (Zj e hb0),Ze hc,Ze (Zj e ha)];exact e
end
section
variable {P:Program}{w:World}{K:PySem.W.Frag}{mg:Str→Option Value}{base:Heap}
theorem ZkU(T:Tp K mg):Zk P w K mg base (CXX P w) 12 T.f_law T.d_law ["_law_script"] (Zla T):=by
 have G_l_turns:Zk P w K mg base (CXX P w) 11 T.f_l_turns T.d_l_turns ["_law_script"] (ZcX T):=(ZgW T).mono (by decide);have G_l_cell:Zk P w K mg base (CXX P w) 11 T.f_l_cell T.d_l_cell ["_law_script","_law_k"] (Ur T):=(ZdB T).mono (by decide);have G_l_kind:Zk P w K mg base (CXX P w) 11 T.f_l_kind T.d_l_kind ["_law_hall"] (ZdG T):=(ZhT T).mono (by decide);have G_round_of:Zk P w K mg base (CXX P w) 11 T.f_round_of T.d_round_of ["hall"] (Zap T):=(Zcg T).mono (by decide);have G_l_row_good:Zk P w K mg base (CXX P w) 11 T.f_l_row_good T.d_l_row_good ["_law_row","_law_lines","_law_rates"] (Za7 T):=(Zd2 T).mono (by decide);have G_Hall_belt:Zk P w K mg base (CXX P w) 11 T.f_Hall_belt T.d_Hall_belt ["self","giver","taker","give","take","start"] (UY T):=(Ze3 T).mono (by decide);have G_Hall_work:Zk P w K mg base (CXX P w) 11 T.f_Hall_work T.d_Hall_work ["self","name"] (U2 T):=(ZeH T).mono (by decide);have G_Hall_belts:Zk P w K mg base (CXX P w) 11 T.f_Hall_belts T.d_Hall_belts ["self"] (Yp T):=(WB T).mono (by decide);have G_Hall_init:Zk P w K mg base (CXX P w) 10 T.f_Hall_init T.d_Hall_init ["self"] (U6 T):=(ZeC T).mono (by decide);have cl_Hall:=T.cl_Hall;have na_Hall:=T.na_Hall;refine T.F_law.okX YK (fun vs H Q E h=>?_) (fun cdv A outer s H vs Q E hr h=>?_)
 ·obtain⟨a,ns,rfl,_⟩:=h
  rfl
 ·have hu:=hr.units;obtain⟨p,ns,rfl,hS,hlen,k⟩:=h;have el:=Zka;refine⟨_,(Zc (Zt (i:=1) YK.nd rfl (Or.inl rfl) (Zw G_l_turns hr rfl T.m_l_turns T.F_l_turns.kp T.b_l_turns .nil Zm (Za (pv 0) Zb)))
     (Zc (Zt (i:=2) YK.nd rfl (Or.inl rfl) (ZL VQ (Zw G_l_cell hr rfl T.m_l_cell T.F_l_cell.kp T.b_l_cell .nil Zm (Za (pv 0) (Za Zh Zb))) Zh))
     (Zc (Zt (i:=3) YK.nd rfl (Or.inl rfl) (ZiT T.mk_Hall G_Hall_init hr rfl T.g_Hall T.b_Hall_init .nil Zm))
     (Zc (Y1 PassesOwn.leaving rfl (Wq rfl T.n_range (Za (ZL (Y4 (K:=K) rfl) Zh (pv 2)) Zb)) (Zp (i:=4) YK.nd rfl (Or.inl rfl)) (Zg (ZX (ZY (pv 3) T.cl_Hall T.M_Hall_work G_Hall_work hr T.b_Hall_work .nil Zm (Za (ZaT (Zgk (K:=K) rfl) Yb (ZbO (pv 4)) ZbP) Zb)))))
     (Zc (Zt (i:=5) YK.nd rfl (Or.inl rfl) (ZL Uw (pv 1) Zh))
     (Zc (Up (ZV (ZC UP (pv 1) Zh (ZE _)) (Zg (Zt (i:=5) YK.nd rfl (Or.inl rfl) (ZL Uw (ZL Uw (pv 1) Zh) (pv 2)))) (Zg (Zt (i:=1) YK.nd rfl (Or.inl rfl) (ZL (Y4 (K:=K) rfl) (pv 1) (pv 2))))))
     (Zc (Zt (i:=6) YK.nd rfl (Or.inl rfl) (ZL VQ (ZL Vl (Zw G_l_cell hr rfl T.m_l_cell T.F_l_cell.kp T.b_l_cell .nil Zm (Za (pv 0) (Za Zh Zb))) Zh) Zh))
     (Zc (Zt (i:=7) YK.nd rfl (Or.inl rfl) (ZL WG (pv 5) (ZL VQ (Zw G_l_cell hr rfl T.m_l_cell T.F_l_cell.kp T.b_l_cell .nil Zm (Za (pv 0) (Za Zh Zb))) Zh)))
     (Zc (Up (ZV (ZC (YA (K:=K) rfl hu) (ZL VQ (Zw G_l_cell hr rfl T.m_l_cell T.F_l_cell.kp T.b_l_cell .nil Zm (Za (pv 0) (Za Zh Zb))) Zh) Zh (ZE _)) (Zc (ZX (ZY (pv 3) T.cl_Hall T.M_Hall_belt G_Hall_belt hr T.b_Hall_belt .nil Zm (Za Zh (Za Zh (Za (pv 5) (Za Zh (Za Zh Zb)))))))
     (Zg (ZV (ZC (YA (K:=K) rfl hu) (pv 6) Zh (ZE _)) (Zg (ZX (ZY (pv 3) T.cl_Hall T.M_Hall_belt G_Hall_belt hr T.b_Hall_belt .nil Zm (Za Zh (Za Zh (Za Zh (Za (pv 5) (Za (pv 7) Zb)))))))) ZJ))) (Zc (ZX (ZY (pv 3) T.cl_Hall T.M_Hall_belt G_Hall_belt hr T.b_Hall_belt .nil Zm (Za Zh (Za Zh (Za Zh (Za (pv 5) (Za (pv 5) Zb)))))))
     (Zg (ZV (ZC (YA (K:=K) rfl hu) (pv 6) Zh (ZE _)) (Zg (ZX (ZY (pv 3) T.cl_Hall T.M_Hall_belt G_Hall_belt hr T.b_Hall_belt .nil Zm (Za Zh (Za Zh (Za (pv 5) (Za Zh (Za (pv 7) Zb)))))))) ZJ)))))
     (Zc (Zt (i:=8) YK.nd rfl (Or.inl rfl) (W7 (YA (K:=K) rfl hu) (ZL VQ (Zw G_l_cell hr rfl T.m_l_cell T.F_l_cell.kp T.b_l_cell .nil Zm (Za (pv 0) (Za Zh Zb))) Zh) Zh (ZE _)))
     (Zc (Up (ZV (Yd (K:=K) rfl (pv 8) (fun _=>rfl)) (Zg (ZX (ZY (pv 3) T.cl_Hall T.M_Hall_belt G_Hall_belt hr T.b_Hall_belt .nil Zm (Za (ZL (Y4 (K:=K) rfl) Zh (pv 2)) (Za (ZL (Y4 (K:=K) rfl) Zh (pv 2)) (Za Zh (Za Zh (Za Zh Zb)))))))) ZJ))
     (Zc (Zt (i:=9) YK.nd rfl (Or.inl rfl) Yb)
     (Zc (Up (ZV (ZC ZbX (pv 1) Zh (ZE _)) (Zg (Zt (i:=9) YK.nd rfl (Or.inl rfl) Yb)) ZJ))
     (Zc (Up (ZV (Yd (K:=K) rfl (pv 8) (fun _=>rfl)) (Zg (Zt (i:=9) YK.nd rfl (Or.inl rfl) Yb)) ZJ))
     (Zc (ZV (ZC (Zfc (K:=K) rfl hu) (Zw G_l_kind hr rfl T.m_l_kind T.F_l_kind.kp T.b_l_kind .nil Zm (Za (pv 3) Zb)) (pv 9) (ZE _)) (Zg (Zx VI)) ZJ)
     (Zc (Up (ZV (ZC (YA (K:=K) rfl hu) (pv 9) Yb (ZE _)) (Zc (WT (Zw G_round_of hr rfl T.m_round_of T.F_round_of.kp T.b_round_of .nil Zm (Za (pv 3) Zb)) (YX (K:=K) (n:=2) rfl rfl (ZI (Zp (i:=10) YK.nd rfl (Or.inl rfl)) (ZI (Zp (i:=11) YK.nd rfl (Or.inl rfl)) YW))))
     (Zc (ZV (PW.pt (VH (ZC ZcW (pv 10) Vf (ZE _)) (Vw (PW.pt (Zgx (ZC (Zfc (K:=K) rfl hu) (pv 6) Zh (ZE _)) (Zfa (ZC ZbX (pv 7) Zh (ZE _)))))))) (Zg (Zx VI)) ZJ)
     (Zg (ZV (PW.pt (VH (ZC ZcW (pv 11) Vf (ZE _)) (Vw (Wz (Yd (K:=K) rfl (Zw G_l_row_good hr rfl T.m_l_row_good T.F_l_row_good.kp T.b_l_row_good .nil Zm (Za (pv 10) (Za (Vn (pv 3) T.cl_Hall T.M_Hall_belts G_Hall_belts hr T.b_Hall_belts .nil Zm) (Za (ZL (Y4 (K:=K) rfl) (WU (Za Zh (Za (pv 5) Zb))) (ZL WG (WU (Za Zh Zb)) (pv 2))) Zb)))) (fun _=>rfl)))))) (Zg (Zx VI)) ZJ)))) ZJ))
     (Zc (ZX (ZY (pv 3) T.cl_Hall T.M_Hall_belt G_Hall_belt hr T.b_Hall_belt .nil Zm (Za Zh (Za Zh (Za Zh (Za Zh (Za Zh Zb)))))))
     (Zg (Zx (Zax (W7 (YA (K:=K) rfl hu) (Zw G_l_kind hr rfl T.m_l_kind T.F_l_kind.kp T.b_l_kind .nil Zm (Za (pv 3) Zb)) Yb (ZE _)) (Zav (W7 (YA (K:=K) rfl hu) (Wg (v:= .int 400) rfl T.c_MOST_TURNS ⟨_,rfl⟩) Zh (ZE _))))))))))))))))))))))),?_⟩
  try dsimp only[L2.cxX,L2.ZP,L2.Zl]
  walk_at "rds";refine⟨p,ns,rfl,hS,fun t0 ht0=>?_⟩;walk_at "rds";rename_i c1;obtain⟨e,ee⟩:∃e:Nat,c1 % 4=(e:Int):=⟨(c1 % 4).toNat,by omega⟩;have e3:e≤3:=by omega
  rw[ee];walk_at "rds";intro hp fp H5 hh hf sm;have hO5:Ww K H5 fp p (ns.map V.int):=(hS.off hf).frame sm.frame;walk_at "rds";have e2:(2:Int)+(e:Int)=((2+e:Nat):Int):=by omega
  rw[e2];refine Zby (n:=2+e) (fun i σ H'=>∃fp' k0,σ=[some (.ref p),some (.int t0),some (.int e),some (.ref hp),k0,none,none,none,none,none,none,none]∧Zy T H' hp ⟨(List.range i).map nameE,[]⟩ fp'∧Ww K H' fp' p (ns.map V.int)) ⟨fp,none,rfl,hh,hO5⟩ ?_ ?_
  ·rintro i σ H' hi ⟨fp',k0,rfl,hh',hO'⟩;rw[Int.zero_add];walk_at "rds";refine ZeB hh' (Zi8 i (by omega)) (Zhk i (by omega)) (by simp;omega) (fun H2 fp2 hh2 fr gr=>?_);refine⟨fp2,_,rfl,?_,hO'.step fr gr⟩;rw[List.range_succ,List.map_append];exact hh2
  rintro σ H6 ⟨fp6,k0,rfl,hh6,hO6⟩;clear hh hf sm hO5;have hnl:((List.range (2+e)).map nameE).length=2+e:=by simp
  generalize (List.range (2+e)).map nameE=nms at*;walk_at "rds";refine Rd.cut (fun σ' H'=>H6=H'∧∃t m:Nat,σ'=[some (.ref p),some (.int t),some (.int e),some (.ref hp),k0,some (.int m),none,none,none,none,none,none]∧t=1+m+e∧394≤m∧m<10 ^ 30) ?k1 ?i1
  case i1=>
   walk_at "rds";refine Rd.ifD (fun c=>?_) (fun c=>?_)
   ·walk_at "rds";have e1:(t0:Int)-1-(e:Int)=((t0-1-e:Nat):Int):=by omega
    rw[e1];exact⟨rfl,t0,t0-1-e,rfl,by omega,by omega,by omega⟩
   ·walk_at "rds";have e1:(t0:Int)-1=((t0-1:Nat):Int):=by omega
    have e4:(t0:Int)+(e:Int)=((t0+e:Nat):Int):=by omega
    rw[e1,e4];exact⟨rfl,t0+e,t0-1,rfl,by omega,by omega,by omega⟩
  case k1=>
  rintro σ' H' ⟨rfl,t,m,rfl,et,m0,m1⟩;clear ht0;have hS6:=hO6.sq;have m2:m<2 ^ 110:=Nat.lt_of_lt_of_le m1 (by decide);walk_at "rds";rename_i cb cs;have mo:IntMulOk (m:Int) (cs % 2):=by
   obtain⟨y,ey,y1⟩:∃y:Nat,cs % 2=(y:Int)∧y<2 ^ 110:=⟨(cs % 2).toNat,by omega,by omega⟩;rw[ey];exact ZaL m2 y1 (by decide)
  obtain⟨s,es,hs⟩:∃s:Nat,(m:Int)*(cs % 2)=(s:Int)∧(s=0∨s=m):=by
   rcases(by omega:cs % 2=0∨cs % 2=1) with z|z
   ·exact⟨0,by rw[z,Int.mul_zero];rfl,.inl rfl⟩
   ·exact⟨m,by rw[z,Int.mul_one],.inr rfl⟩
  walk_at "rds";rw[es];generalize hbk:cb / 2 % 3=bk at*;refine Rd.cut (fun σ' H'=>∃(fp':List Addr)(ls:List B5),σ'=[some (.ref p),some (.int t),some (.int e),some (.ref hp),k0,some (.int m),some (.int bk),some (.int s),none,none,none,none]∧Zy T H' hp ⟨nms,ls⟩ fp'∧Ww K H' fp' p (ns.map V.int)∧Zdx m ls∧ls.length≤2∧(¬(bk=1)∨0<s→∀b∈ls,b.giver=1→b.start=(m:Int))) ?k2 ?i2
  case i2=>
   walk_at "rds";refine Rd.ifD (fun c=>?_) (fun c=>?_)
   ·walk_at "rds";refine Wk hh6 (by omega) (by simp;omega) (by omega) (by simp;omega) (by omega) (by omega) (by omega) (by simp) (fun H7 fp7 hh7 fr7 gr7=>?_);have hO7:=hO6.step fr7 gr7;walk_at "rds";refine Rd.ifD (fun c2=>?_) (fun c2=>?_)
    ·walk_at "rds";refine Wk hh7 (by omega) (by simp;omega) (by omega) (by simp;omega) (by omega) (by omega) (by omega) (by simp) (fun H8 fp8 hh8 fr8 gr8=>?_);refine⟨fp8,_,rfl,hh8,hO7.step fr8 gr8,⟨by simp,fun b hb=>?_⟩,by simp,fun z b hb hg=>?_⟩
     ·simp only[List.nil_append,List.mem_append,List.mem_singleton] at hb;rcases hb with rfl|rfl
      ·exact⟨Int.le_refl _,.inl ⟨rfl,rfl,rfl,rfl⟩⟩
      ·exact⟨by show(0:Int)≤(s:Int);omega,.inr ⟨rfl,rfl,rfl,rfl⟩⟩
     ·simp only[List.nil_append,List.mem_append,List.mem_singleton] at hb;rcases hb with rfl|rfl
      ·cases hg
      ·show(s:Int)=(m:Int);omega
    ·walk_at "rds";refine⟨fp7,_,rfl,hh7,hO7,⟨by simp,fun b hb=>?_⟩,by simp,fun z b hb hg=>?_⟩
     ·simp only[List.nil_append,List.mem_singleton] at hb;subst hb;exact⟨Int.le_refl _,.inl ⟨rfl,rfl,rfl,rfl⟩⟩
     ·simp only[List.nil_append,List.mem_singleton] at hb;subst hb;cases hg
   ·walk_at "rds";refine Wk hh6 (by omega) (by simp;omega) (by omega) (by simp;omega) (by omega) (by omega) (by omega) (by simp) (fun H7 fp7 hh7 fr7 gr7=>?_);have hO7:=hO6.step fr7 gr7;walk_at "rds";refine Rd.ifD (fun c2=>?_) (fun c2=>?_)
    ·walk_at "rds";refine Wk hh7 (by omega) (by simp;omega) (by omega) (by simp;omega) (by omega) (by omega) (by omega) (by simp) (fun H8 fp8 hh8 fr8 gr8=>?_);refine⟨fp8,_,rfl,hh8,hO7.step fr8 gr8,⟨by simp,fun b hb=>?_⟩,by simp,fun z b hb hg=>?_⟩
     ·simp only[List.nil_append,List.mem_append,List.mem_singleton] at hb;rcases hb with rfl|rfl
      ·exact⟨by show(0:Int)≤(m:Int);omega,.inr ⟨rfl,rfl,rfl,rfl⟩⟩
      ·exact⟨by show(0:Int)≤(s:Int);omega,.inl ⟨rfl,rfl,rfl,rfl⟩⟩
     ·simp only[List.nil_append,List.mem_append,List.mem_singleton] at hb;rcases hb with rfl|rfl
      ·rfl
      ·cases hg
    ·walk_at "rds";refine⟨fp7,_,rfl,hh7,hO7,⟨by simp,fun b hb=>?_⟩,by simp,fun z b hb hg=>?_⟩
     ·simp only[List.nil_append,List.mem_singleton] at hb;subst hb;exact⟨by show(0:Int)≤(m:Int);omega,.inr ⟨rfl,rfl,rfl,rfl⟩⟩
     ·simp only[List.nil_append,List.mem_singleton] at hb;subst hb
      rfl
  case k2=>
  clear hh6 hO6 hS6;rintro σ' H7 ⟨fp7,ls,rfl,hh7,hO7,hTwo,hll,hFl⟩;have hS7:=hO7.sq;have hbt:=ZfH (n:=2+e) hTwo (by omega);have hsz:=Zh7 hTwo (by omega) m2;walk_at "rds";rename_i co;generalize decide (co % 3=1)=od;refine Rd.cut (fun σ' H'=>∃(fp':List Addr)(ks:List B5),σ'=[some (.ref p),some (.int t),some (.int e),some (.ref hp),k0,some (.int m),some (.int bk),some (.int s),some (.bl od),none,none,none]∧Zy T H' hp ⟨nms,ks⟩ fp'∧ks.length≤3∧ZH ks (2+e)∧YH ks∧(∀b∈ks,0≤b.start)∧(od=false→ks=ls)∧(od=true→∀z rs,¬Rts ks (2+e) z rs)) ?k3 ?i3
  case i3=>
   walk_at "rds";cases od with
   |true=>
    walk_at "rds";refine Wk hh7 (by omega) (by rw[hnl];omega) (by omega) (by rw[hnl];omega) (by omega) (by omega) (by omega) (by show ls.length<60;omega) (fun H8 fp8 hh8 fr8 gr8=>?_);have ek:(1:Int)+(e:Int)=((1+e:Nat):Int):=by omega
    refine⟨fp8,_,rfl,hh8,by simp;omega,fun b hb=>?_,fun i hi=>?_,fun b hb=>?_,(fun z=>nomatch z),fun _ z rs=>ZhM (k:=1+e) (List.mem_append_right _ (List.mem_singleton.mpr rfl)) ek ek rfl (by omega)⟩
    ·rcases List.mem_append.mp hb with y|y
     ·exact hbt b y
     ·rw[List.mem_singleton.mp y];exact⟨by show 0≤(1:Int)+e;omega,by show(1:Int)+e<_;omega,by show 0≤(1:Int)+e;omega,by show(1:Int)+e<_;omega⟩
    ·rcases Nat.lt_or_ge i ls.length with y|y
     ·have:=hsz i y;rw[Zv y] at this;rw[Zv hi,List.getElem_append_left y];exact this
     ·rw[Zv hi,List.getElem_append_right y];simp only[List.getElem_singleton];exact⟨3,2,by decide,by decide,by decide,by decide,rfl,rfl⟩
    ·rcases List.mem_append.mp hb with y|y
     ·exact(hTwo.2 b y).1
     ·rw[List.mem_singleton.mp y];exact(by decide:(0:Int)≤9)
   |false=>
    walk_at "rds";exact⟨fp7,ls,rfl,hh7,by omega,hbt,hsz,fun b hb=>(hTwo.2 b hb).1,fun _=>rfl,fun z=>nomatch z⟩
  case k3=>
  clear hh7 hO7 hS7;rintro σ' H8 ⟨fp8,ks,rfl,hh8,hkl,hkb,hks,hk0,hkF,hkT⟩;walk_at "rds";refine Rd.cut (fun σ' H'=>H8=H'∧σ'=[some (.ref p),some (.int t),some (.int e),some (.ref hp),k0,some (.int m),some (.int bk),some (.int s),some (.bl od),some (.str (if 400<t then "too long" else "")),none,none]) ?k4 ?i4
  case i4=>
   walk_at "rds";refine Rd.ifD (fun c=>?_) (fun c=>?_)
   ·walk_at "rds";exact⟨rfl,by rw[if_pos (by omega)]⟩
   ·walk_at "rds";exact⟨rfl,by rw[if_neg (by omega)]⟩
  case k4=>
  rintro σ' H' ⟨rfl,rfl⟩;refine Rd.cut (fun σ' H'=>H8=H'∧σ'=[some (.ref p),some (.int t),some (.int e),some (.ref hp),k0,some (.int m),some (.int bk),some (.int s),some (.bl od),some (.str (if od=true then "not balanced" else if 400<t then "too long" else "")),none,none]) ?k5 ?i5
  case i5=>
   cases od with
   |true=>
    walk_at "rds";exact⟨rfl,rfl⟩
   |false=>
    walk_at "rds";exact⟨rfl,rfl⟩
  case k5=>
  rintro σ' H' ⟨rfl,rfl⟩;obtain⟨du,edu⟩:∃du:Str,(if od=true then("not balanced" :Str) else if 400<t then("too long" :Str) else("" :Str))=du:=⟨_,rfl⟩;rw[edu];have hsum:od=false→∀rs,Rts ks (2+e) (fun _=>1) rs→rs=Yr m e∧rs.sum=(t:Int):=fun z rs hR=>by
   rw[hkF z] at hR;have:=ZhJ hTwo (by omega) hR;refine⟨this,?_⟩;rw[this,ZgL];omega
  have hd1:∀rs,Rts ks (2+e) (fun _=>1) rs→400<rs.sum→du="too long" :=fun rs hR h4=>by
   cases od with
   |true=>exact absurd hR (hkT rfl _ _)
   |false=>
    have:=(hsum rfl rs hR).2;rw[←edu,if_neg (by simp),if_pos (by omega)]
  have hd2:∀rs,Rts ks (2+e) (fun _=>1) rs→rs.sum≤400→du="" :=fun rs hR h4=>by
   cases od with
   |true=>exact absurd hR (hkT rfl _ _)
   |false=>
    have:=(hsum rfl rs hR).2;rw[←edu,if_neg (by simp),if_neg (by omega)]
  have hd3:∀ring,VT ks ring→du="not balanced" :=fun ring hr=>by
   cases od with
   |true=>rw[←edu,if_pos rfl]
   |false=>
    rw[hkF rfl] at hr;exact(Zbv hr hbt hsz (Zcc hTwo (by omega))).elim
  walk_at "rds";refine⟨hp,⟨nms,ks⟩,fp8,du,rfl,hh8,by show nms.length≤60;omega,by show ks.length≤60;omega,by rw[hnl];exact hkb,hks,hk0,by rw[hnl];exact hd1,by rw[hnl];exact hd2,hd3,fun H9 s9=>?_⟩;have hh9:=hh8.same s9;walk_at "rds";refine Rd.cut (fun σ' H'=>Zd H9 H'∧∃r1 r2:Option V,σ'=[some (.ref p),some (.int t),some (.int e),some (.ref hp),k0,some (.int m),some (.int bk),some (.int s),some (.bl od),some (.str du),r1,r2]) ?k6 ?i6
  case i6=>
   walk_at "rds";refine Rd.ifD (fun c=>?_) (fun c=>?_)
   ·have hodt:od=false∧t≤400:=by
     cases od with
     |true=>rw[if_pos rfl] at edu;rw[←edu] at c;exact absurd c (by decide+kernel)
     |false=>
      rw[if_neg (by simp)] at edu
      by_cases y:400<t
      ·rw[if_pos y] at edu;rw[←edu] at c;exact absurd c (by decide+kernel)
      ·exact⟨rfl,by omega⟩
    obtain⟨rfl,ht4⟩:=hodt;have eks:=hkF rfl;subst eks;walk_at "rds";refine⟨hp,⟨nms,ks⟩,fp8,rfl,hh9,by show nms.length≤60;omega,by show ks.length≤60;omega,by rw[hnl];exact hkb,hks,hk0,fun rs hR=>?_,fun ring H' _ hr=>(Zbv hr hbt hsz (Zcc hTwo (by omega))).elim⟩;dsimp only at hR;rw[hnl] at hR;obtain⟨ers,esm⟩:=hsum rfl rs hR;subst ers;have hRl:=hR.len;refine⟨fun z=>by omega,fun _=>⟨fun t1 r H10 ws d hr0 s10 ht10 hr10 hrun hd=>?_,fun t1 u c1 g H10 ws d ring hc0 hg0 s10 ht10 hu10 hc10 hg10 hrun hst hex hring=>?_⟩⟩
    ·dsimp only at hrun;have hh10:=hh9.same s10;refine Rd.VL (.of ht10) rfl ?_;walk_at "rds";refine⟨rfl,?_⟩;walk_at "rds";refine⟨rfl,?_⟩;walk_at "rds";intro bq H11 bbs hbq s11 hbq11 hTb;dsimp only at hTb;walk_at "rds";refine⟨by show 2≤sizeLine;decide,fun l1 hl1=>?_⟩;have s12:Zd H11 (upd H11 l1 (.lst [V.int 1,V.int m])):=Zn hl1;have hl12:(upd H11 l1 (.lst [V.int 1,V.int m])) l1=some (.lst [V.int 1,V.int m]):=Zf;generalize upd H11 l1 (.lst [V.int 1,V.int m])=H12 at*;walk_at "rds";intro l2 hl2;have s13:Zd H12 (upd H12 l2 (.lst [V.int 1])):=Zn hl2;have hl13:(upd H12 l2 (.lst [V.int 1])) l2=some (.lst [V.int 1]):=Zf;generalize upd H12 l2 (.lst [V.int 1])=H13 at*;walk_at "rds";refine Rd.rep hl13 (by omega) (by omega) (by have:=sizeLine_eq;simp;omega) (fun l3 hl3=>?_);rw[Int.toNat_natCast];have s14:Zd H13 (upd H13 l3 (.lst (List.replicate e [V.int 1]).flatten)):=Zn hl3;have hl14:(upd H13 l3 (.lst (List.replicate e [V.int 1]).flatten)) l3=some (.lst (List.replicate e (V.int 1))):=by rw[Zf,List.flatten_replicate_singleton]
     generalize upd H13 l3 (.lst (List.replicate e [V.int 1]).flatten)=H14 at*;have hl12':=s14 _ _ (s13 _ _ hl12);refine Rd.Zf7 hl12' hl14 (Nat.le_of_lt (Zs (by simp;omega))) (fun l5 hl5=>?_);have s15:Zd H14 (upd H14 l5 (.lst ([V.int 1,V.int m]++List.replicate e (V.int 1)))):=Zn hl5;have hl15:(upd H14 l5 (.lst ([V.int 1,V.int m]++List.replicate e (V.int 1)))) l5=some (.lst ((Yr m e).map V.int)):=by
      rw[Zf];unfold Yr;simp
     generalize upd H14 l5 (.lst ([V.int 1,V.int m]++List.replicate e (V.int 1)))=H15 at*;have s1f:Zd H11 H15:=s12.trans (s13.trans (s14.trans s15));have s0f:Zd H10 H15:=s11.trans s1f;walk_at "rds";refine⟨r,bq,l5,ws,d,bbs,ks,Yr m e,rfl,s0f _ _ hr10,.of (s1f _ _ hbq11),hTb.keep (fun b xs e=>s1f _ _ e),.of hl15,by omega,by rw[hRl];exact hkb,by omega,hR.pos,hR.bal,Zai hrun,hd,fun H16 s16=>?_⟩;walk_at "rds";exact⟨s10.trans (s0f.trans s16),_,_,rfl⟩
    ·dsimp only at hrun hst hring;have hno:¬(¬(bk=1)∨0<s):=fun z=>by
      obtain⟨v,hv,hlt⟩:=hex;have:=Zi2 hTwo (hFl z) hst v (by omega);omega
     have hb1:bk=1:=Classical.byContradiction fun z=>hno (.inl z);have hs1:s=0:=Classical.byContradiction fun z=>hno (.inr (by omega));subst hb1;subst hs1;refine Rd.VL (.of ht10) rfl ?_;walk_at "rds";refine⟨rfl,?_⟩;walk_at "rds";refine⟨rfl,?_⟩;walk_at "rds";exact⟨s10,_,_,rfl⟩
   ·walk_at "rds";exact⟨Zd.refl _,_,_,rfl⟩
  case k6=>
  rintro σ' H10 ⟨s10,r1,r2,rfl⟩;have hh10:=hh9.same s10;walk_at "rds";refine Wk hh10 (by omega) (by rw[hnl];omega) (by omega) (by rw[hnl];omega) (by omega) (by omega) (by omega) (by show ks.length<60;omega) (fun H11 fp11 hh11 fr11 gr11=>?_);have hno:∀z rs,¬Rts (ks++ [⟨0,0,2,1,5⟩]) (2+e) z rs:=fun z rs=>ZhM (k:=0) (List.mem_append_right _ (List.mem_singleton.mpr rfl)) rfl rfl rfl (by omega);walk_at "rds";refine⟨hp,⟨nms,ks++ [⟨0,0,2,1,5⟩]⟩,fp11,"not balanced",rfl,hh11,by show nms.length≤60;omega,by simp;omega,fun b hb=>?_,fun i hi=>?_,fun b hb=>?_,fun rs hR=>absurd hR (by rw[hnl];exact hno _ _),fun rs hR=>absurd hR (by rw[hnl];exact hno _ _),fun _ _=>rfl,fun H12 s12=>?_⟩
  ·rcases List.mem_append.mp hb with y|y
   ·rw[hnl];exact hkb b y
   ·rw[List.mem_singleton.mp y,hnl];exact⟨by decide,by show(0:Int)<_;omega,by decide,by show(0:Int)<_;omega⟩
  ·dsimp only at hi⊢;rcases Nat.lt_or_ge i ks.length with y|y
   ·have:=hks i y;rw[Zv y] at this;rw[Zv hi,List.getElem_append_left y];exact this
   ·rw[Zv hi,List.getElem_append_right y];simp only[List.getElem_singleton];exact⟨2,1,by decide,by decide,by decide,by decide,rfl,rfl⟩
  ·rcases List.mem_append.mp hb with y|y
   ·exact hk0 b y
   ·rw[List.mem_singleton.mp y];exact(by decide:(0:Int)≤5)
  walk_at "rds";exact k _
end
abbrev nG(K:PySem.W.Frag)(x:Str)(f:Addr):Prop:=PySem.W.nsIn K mainGlobals x=some (some (.ref f))
abbrev mG(K:PySem.W.Frag)(C:Addr)(x:Str)(f:Addr):Prop:=PySem.W.findIn K (.ref C) x=some (some (.ref f))
abbrev iF(K:PySem.W.Frag)(f:Addr):Prop:=PySem.W.isFn K (.ref f)=true
abbrev lK(K:PySem.W.Frag)(f:Addr)(oc:Value)(od:Option Addr)(nm q:Str)(s:Stmt)(dv kV dc pm:Value)(an:Option Addr)(cd ct:Value)(sl:Array (Option Value)):Prop:=K.lookup f=some ⟨oc,od,.func (PySem.W.fnOf nm q (Vr s) (WD s) (Zi s) dv kV dc pm an cd ct),sl⟩
abbrev cI(K:PySem.W.Frag)(cd:Value)(q:Str):Prop:=PySem.W.codeIn K cd q=true
abbrev kI(K:PySem.W.Frag)(f:Addr):Prop:=PySem.W.keepIn K (.ref f)=true
theorem Vq{α:Type _}{P:List α→Prop}(h:∀a0,P [a0])(us:List α)(e:us.length=1):P us:=match us,e with| [a0],_=>h a0
theorem Yt{α:Type _}{P:List α→Prop}(h:∀a0 a1,P [a0,a1])(us:List α)(e:us.length=2):P us:=match us,e with| [a0,a1],_=>h a0 a1
theorem ZeI{α:Type _}{P:List α→Prop}(h:∀a0 a1 a2,P [a0,a1,a2])(us:List α)(e:us.length=3):P us:=match us,e with| [a0,a1,a2],_=>h a0 a1 a2
theorem ZmN{α:Type _}{P:List α→Prop}(h:∀a0 a1 a2 a3 a4 a5,P [a0,a1,a2,a3,a4,a5])(us:List α)(e:us.length=6):P us:=match us,e with| [a0,a1,a2,a3,a4,a5],_=>h a0 a1 a2 a3 a4 a5
theorem tp_mk{K:PySem.W.Frag}{h:Heap}{mg:Str→Option Value}(X:K.In h)(G:h.Ns mainGlobals mg)
  {C_Course:Addr}
  {C_Hall:Addr}
  {X_RateError:Addr}
  {X_NoName:Addr}
  {X_Twice:Addr}
  {X_TooMuch:Addr}
  {X_NoWork:Addr}
  {X_NoBelt:Addr}
  {X_NoRate:Addr}
  {X_Empty:Addr}
  {X_NotBalanced:Addr}
  {X_TooLong:Addr}
  {X_Stuck:Addr}
  {tk_MOST_TURNS:Tok}
  {tk_MOST_BELTS:Tok}
  {tk_MOST_LETTERS:Tok}
  {tk_MOST_WORKS:Tok}
  {dT_Hall_belt:Addr} {od2_Hall_belt:Option Addr} {sl2_Hall_belt:Array (Option Value)} {n2_Hall_belt:Nat} {oc2_Hall_belt:Value} {dk0_Hall_belt:Tok}
  {f_0:Addr} {od_0 an_0:Option Addr} {sl_0:Array (Option Value)} {oc_0 kV_0 dc_0 pm_0 cd_0 ct_0:Value}
  {f_1:Addr} {od_1 an_1:Option Addr} {sl_1:Array (Option Value)} {oc_1 kV_1 dc_1 pm_1 cd_1 ct_1:Value}
  {f_2:Addr} {od_2 an_2:Option Addr} {sl_2:Array (Option Value)} {oc_2 kV_2 dc_2 pm_2 cd_2 ct_2:Value}
  {f_3:Addr} {od_3 an_3:Option Addr} {sl_3:Array (Option Value)} {oc_3 kV_3 dc_3 pm_3 cd_3 ct_3:Value}
  {f_4:Addr} {od_4 an_4:Option Addr} {sl_4:Array (Option Value)} {oc_4 kV_4 dc_4 pm_4 cd_4 ct_4:Value}
  {f_5:Addr} {od_5 an_5:Option Addr} {sl_5:Array (Option Value)} {oc_5 kV_5 dc_5 pm_5 cd_5 ct_5:Value}
  {f_6:Addr} {od_6 an_6:Option Addr} {sl_6:Array (Option Value)} {oc_6 kV_6 dc_6 pm_6 cd_6 ct_6:Value}
  {f_7:Addr} {od_7 an_7:Option Addr} {sl_7:Array (Option Value)} {oc_7 kV_7 dc_7 pm_7 cd_7 ct_7:Value}
  {f_8:Addr} {od_8 an_8:Option Addr} {sl_8:Array (Option Value)} {oc_8 kV_8 dc_8 pm_8 cd_8 ct_8:Value}
  {f_9:Addr} {od_9 an_9:Option Addr} {sl_9:Array (Option Value)} {oc_9 kV_9 dc_9 pm_9 cd_9 ct_9:Value}
  {f_10:Addr} {od_10 an_10:Option Addr} {sl_10:Array (Option Value)} {oc_10 kV_10 dc_10 pm_10 cd_10 ct_10:Value}
  {f_11:Addr} {od_11 an_11:Option Addr} {sl_11:Array (Option Value)} {oc_11 kV_11 dc_11 pm_11 cd_11 ct_11:Value}
  {f_12:Addr} {od_12 an_12:Option Addr} {sl_12:Array (Option Value)} {oc_12 kV_12 dc_12 pm_12 cd_12 ct_12:Value}
  {f_13:Addr} {od_13 an_13:Option Addr} {sl_13:Array (Option Value)} {oc_13 kV_13 dc_13 pm_13 cd_13 ct_13:Value}
  {f_14:Addr} {od_14 an_14:Option Addr} {sl_14:Array (Option Value)} {oc_14 kV_14 dc_14 pm_14 cd_14 ct_14:Value}
  {f_15:Addr} {od_15 an_15:Option Addr} {sl_15:Array (Option Value)} {oc_15 kV_15 dc_15 pm_15 cd_15 ct_15:Value}
  {f_16:Addr} {od_16 an_16:Option Addr} {sl_16:Array (Option Value)} {oc_16 kV_16 dc_16 pm_16 cd_16 ct_16:Value}
  {f_17:Addr} {od_17 an_17:Option Addr} {sl_17:Array (Option Value)} {oc_17 kV_17 dc_17 pm_17 cd_17 ct_17:Value}
  {f_18:Addr} {od_18 an_18:Option Addr} {sl_18:Array (Option Value)} {oc_18 kV_18 dc_18 pm_18 cd_18 ct_18:Value}
  {f_19:Addr} {od_19 an_19:Option Addr} {sl_19:Array (Option Value)} {oc_19 kV_19 dc_19 pm_19 cd_19 ct_19:Value}
  {f_20:Addr} {od_20 an_20:Option Addr} {sl_20:Array (Option Value)} {oc_20 kV_20 dc_20 pm_20 cd_20 ct_20:Value}
  {f_21:Addr} {od_21 an_21:Option Addr} {sl_21:Array (Option Value)} {oc_21 kV_21 dc_21 pm_21 cd_21 ct_21:Value}
  {f_22:Addr} {od_22 an_22:Option Addr} {sl_22:Array (Option Value)} {oc_22 kV_22 dc_22 pm_22 cd_22 ct_22:Value}
  {f_23:Addr} {od_23 an_23:Option Addr} {sl_23:Array (Option Value)} {oc_23 kV_23 dc_23 pm_23 cd_23 ct_23:Value}
  {f_24:Addr} {od_24 an_24:Option Addr} {sl_24:Array (Option Value)} {oc_24 kV_24 dc_24 pm_24 cd_24 ct_24:Value}
  {f_25:Addr} {od_25 an_25:Option Addr} {sl_25:Array (Option Value)} {oc_25 kV_25 dc_25 pm_25 cd_25 ct_25:Value}
  {f_26:Addr} {od_26 an_26:Option Addr} {sl_26:Array (Option Value)} {oc_26 kV_26 dc_26 pm_26 cd_26 ct_26:Value}
  {f_27:Addr} {od_27 an_27:Option Addr} {sl_27:Array (Option Value)} {oc_27 kV_27 dc_27 pm_27 cd_27 ct_27:Value}
  {f_28:Addr} {od_28 an_28:Option Addr} {sl_28:Array (Option Value)} {oc_28 kV_28 dc_28 pm_28 cd_28 ct_28:Value}
  {f_29:Addr} {od_29 an_29:Option Addr} {sl_29:Array (Option Value)} {oc_29 kV_29 dc_29 pm_29 cd_29 ct_29:Value}
  {f_30:Addr} {od_30 an_30:Option Addr} {sl_30:Array (Option Value)} {oc_30 kV_30 dc_30 pm_30 cd_30 ct_30:Value}
  {f_31:Addr} {od_31 an_31:Option Addr} {sl_31:Array (Option Value)} {oc_31 kV_31 dc_31 pm_31 cd_31 ct_31:Value}
  {f_32:Addr} {od_32 an_32:Option Addr} {sl_32:Array (Option Value)} {oc_32 kV_32 dc_32 pm_32 cd_32 ct_32:Value}
  {f_33:Addr} {od_33 an_33:Option Addr} {sl_33:Array (Option Value)} {oc_33 kV_33 dc_33 pm_33 cd_33 ct_33:Value}
  {f_34:Addr} {od_34 an_34:Option Addr} {sl_34:Array (Option Value)} {oc_34 kV_34 dc_34 pm_34 cd_34 ct_34:Value}
  {f_35:Addr} {od_35 an_35:Option Addr} {sl_35:Array (Option Value)} {oc_35 kV_35 dc_35 pm_35 cd_35 ct_35:Value}
  {f_36:Addr} {od_36 an_36:Option Addr} {sl_36:Array (Option Value)} {oc_36 kV_36 dc_36 pm_36 cd_36 ct_36:Value}
  {f_37:Addr} {od_37 an_37:Option Addr} {sl_37:Array (Option Value)} {oc_37 kV_37 dc_37 pm_37 cd_37 ct_37:Value}
  {f_38:Addr} {od_38 an_38:Option Addr} {sl_38:Array (Option Value)} {oc_38 kV_38 dc_38 pm_38 cd_38 ct_38:Value}
  {f_39:Addr} {od_39 an_39:Option Addr} {sl_39:Array (Option Value)} {oc_39 kV_39 dc_39 pm_39 cd_39 ct_39:Value}
  {f_40:Addr} {od_40 an_40:Option Addr} {sl_40:Array (Option Value)} {oc_40 kV_40 dc_40 pm_40 cd_40 ct_40:Value}
  {f_41:Addr} {od_41 an_41:Option Addr} {sl_41:Array (Option Value)} {oc_41 kV_41 dc_41 pm_41 cd_41 ct_41:Value}
  {f_42:Addr} {od_42 an_42:Option Addr} {sl_42:Array (Option Value)} {oc_42 kV_42 dc_42 pm_42 cd_42 ct_42:Value}
  {f_43:Addr} {od_43 an_43:Option Addr} {sl_43:Array (Option Value)} {oc_43 kV_43 dc_43 pm_43 cd_43 ct_43:Value}
  {f_44:Addr} {od_44 an_44:Option Addr} {sl_44:Array (Option Value)} {oc_44 kV_44 dc_44 pm_44 cd_44 ct_44:Value}
  {f_45:Addr} {od_45 an_45:Option Addr} {sl_45:Array (Option Value)} {oc_45 kV_45 dc_45 pm_45 cd_45 ct_45:Value}
  {f_46:Addr} {od_46 an_46:Option Addr} {sl_46:Array (Option Value)} {oc_46 kV_46 dc_46 pm_46 cd_46 ct_46:Value}
  {f_47:Addr} {od_47 an_47:Option Addr} {sl_47:Array (Option Value)} {oc_47 kV_47 dc_47 pm_47 cd_47 ct_47:Value}
  (a_Course:PySem.W.nsIn K mainGlobals "Course" =some (some (.ref C_Course)))
  (a_Hall:PySem.W.nsIn K mainGlobals "Hall" =some (some (.ref C_Hall)))
  (a_0:nG K "_law_cell" f_0)
  (l_0:lK K f_0 oc_0 od_0 "_law_cell" "_law_cell" Za2 .none kV_0 dc_0 pm_0 an_0 cd_0 ct_0 sl_0)
  (c_0:cI K cd_0 "_law_cell")
  (k_0:kI K f_0)
  (a_1:nG K "_law_turns" f_1)
  (l_1:lK K f_1 oc_1 od_1 "_law_turns" "_law_turns" Zac .none kV_1 dc_1 pm_1 an_1 cd_1 ct_1 sl_1)
  (c_1:cI K cd_1 "_law_turns")
  (k_1:kI K f_1)
  (a_2:mG K C_Hall "belts" f_2)
  (i_2:iF K f_2)
  (l_2:lK K f_2 oc_2 od_2 "belts" "Hall.belts" VD .none kV_2 dc_2 pm_2 an_2 cd_2 ct_2 sl_2)
  (c_2:cI K cd_2 "Hall.belts")
  (k_2:kI K f_2)
  (a_3:nG K "starts_of" f_3)
  (l_3:lK K f_3 oc_3 od_3 "starts_of" "starts_of" Vd .none kV_3 dc_3 pm_3 an_3 cd_3 ct_3 sl_3)
  (c_3:cI K cd_3 "starts_of")
  (k_3:kI K f_3)
  (a_4:mG K C_Hall "names" f_4)
  (i_4:iF K f_4)
  (l_4:lK K f_4 oc_4 od_4 "names" "Hall.names" Vy .none kV_4 dc_4 pm_4 an_4 cd_4 ct_4 sl_4)
  (c_4:cI K cd_4 "Hall.names")
  (k_4:kI K f_4)
  (a_5:nG K "ways_of" f_5)
  (l_5:lK K f_5 oc_5 od_5 "ways_of" "ways_of" Us .none kV_5 dc_5 pm_5 an_5 cd_5 ct_5 sl_5)
  (c_5:cI K cd_5 "ways_of")
  (k_5:kI K f_5)
  (a_6:nG K "tree_from" f_6)
  (l_6:lK K f_6 oc_6 od_6 "tree_from" "tree_from" Uc .none kV_6 dc_6 pm_6 an_6 cd_6 ct_6 sl_6)
  (c_6:cI K cd_6 "tree_from")
  (k_6:kI K f_6)
  (a_7:nG K "forest_of" f_7)
  (l_7:lK K f_7 oc_7 od_7 "forest_of" "forest_of" Ue .none kV_7 dc_7 pm_7 an_7 cd_7 ct_7 sl_7)
  (c_7:cI K cd_7 "forest_of")
  (k_7:kI K f_7)
  (a_8:nG K "divisor" f_8)
  (l_8:lK K f_8 oc_8 od_8 "divisor" "divisor" Zad .none kV_8 dc_8 pm_8 an_8 cd_8 ct_8 sl_8)
  (c_8:cI K cd_8 "divisor")
  (k_8:kI K f_8)
  (a_9:nG K "ratio" f_9)
  (l_9:lK K f_9 oc_9 od_9 "ratio" "ratio" ZbR .none kV_9 dc_9 pm_9 an_9 cd_9 ct_9 sl_9)
  (c_9:cI K cd_9 "ratio")
  (k_9:kI K f_9)
  (a_10:nG K "times" f_10)
  (l_10:lK K f_10 oc_10 od_10 "times" "times" ZbL .none kV_10 dc_10 pm_10 an_10 cd_10 ct_10 sl_10)
  (c_10:cI K cd_10 "times")
  (k_10:kI K f_10)
  (a_11:nG K "gain" f_11)
  (l_11:lK K f_11 oc_11 od_11 "gain" "gain" Zc3 .none kV_11 dc_11 pm_11 an_11 cd_11 ct_11 sl_11)
  (c_11:cI K cd_11 "gain")
  (k_11:kI K f_11)
  (a_12:nG K "is_whole" f_12)
  (l_12:lK K f_12 oc_12 od_12 "is_whole" "is_whole" UQ .none kV_12 dc_12 pm_12 an_12 cd_12 ct_12 sl_12)
  (c_12:cI K cd_12 "is_whole")
  (k_12:kI K f_12)
  (a_13:nG K "is_from" f_13)
  (l_13:lK K f_13 oc_13 od_13 "is_from" "is_from" Zan .none kV_13 dc_13 pm_13 an_13 cd_13 ct_13 sl_13)
  (c_13:cI K cd_13 "is_from")
  (k_13:kI K f_13)
  (a_14:nG K "is_number_below" f_14)
  (l_14:lK K f_14 oc_14 od_14 "is_number_below" "is_number_below" We .none kV_14 dc_14 pm_14 an_14 cd_14 ct_14 sl_14)
  (c_14:cI K cd_14 "is_number_below")
  (k_14:kI K f_14)
  (a_15:mG K C_Hall "need_belt" f_15)
  (i_15:iF K f_15)
  (l_15:lK K f_15 oc_15 od_15 "need_belt" "Hall.need_belt" Wt .none kV_15 dc_15 pm_15 an_15 cd_15 ct_15 sl_15)
  (c_15:cI K cd_15 "Hall.need_belt")
  (k_15:kI K f_15)
  (a_16:mG K C_Hall "belt_at" f_16)
  (i_16:iF K f_16)
  (l_16:lK K f_16 oc_16 od_16 "belt_at" "Hall.belt_at" W6 .none kV_16 dc_16 pm_16 an_16 cd_16 ct_16 sl_16)
  (c_16:cI K cd_16 "Hall.belt_at")
  (k_16:kI K f_16)
  (a_17:nG K "shares_of" f_17)
  (l_17:lK K f_17 oc_17 od_17 "shares_of" "shares_of" Ua .none kV_17 dc_17 pm_17 an_17 cd_17 ct_17 sl_17)
  (c_17:cI K cd_17 "shares_of")
  (k_17:kI K f_17)
  (a_18:nG K "multiple" f_18)
  (l_18:lK K f_18 oc_18 od_18 "multiple" "multiple" UK .none kV_18 dc_18 pm_18 an_18 cd_18 ct_18 sl_18)
  (c_18:cI K cd_18 "multiple")
  (k_18:kI K f_18)
  (a_19:nG K "rates_by" f_19)
  (l_19:lK K f_19 oc_19 od_19 "rates_by" "rates_by" VR .none kV_19 dc_19 pm_19 an_19 cd_19 ct_19 sl_19)
  (c_19:cI K cd_19 "rates_by")
  (k_19:kI K f_19)
  (a_20:nG K "change_of" f_20)
  (l_20:lK K f_20 oc_20 od_20 "change_of" "change_of" Vb .none kV_20 dc_20 pm_20 an_20 cd_20 ct_20 sl_20)
  (c_20:cI K cd_20 "change_of")
  (k_20:kI K f_20)
  (a_21:nG K "way_to" f_21)
  (l_21:lK K f_21 oc_21 od_21 "way_to" "way_to" ZaR .none kV_21 dc_21 pm_21 an_21 cd_21 ct_21 sl_21)
  (c_21:cI K cd_21 "way_to")
  (k_21:kI K f_21)
  (a_22:nG K "shared_steps" f_22)
  (l_22:lK K f_22 oc_22 od_22 "shared_steps" "shared_steps" W5 .none kV_22 dc_22 pm_22 an_22 cd_22 ct_22 sl_22)
  (c_22:cI K cd_22 "shared_steps")
  (k_22:kI K f_22)
  (a_23:nG K "ring_through" f_23)
  (l_23:lK K f_23 oc_23 od_23 "ring_through" "ring_through" YV .none kV_23 dc_23 pm_23 an_23 cd_23 ct_23 sl_23)
  (c_23:cI K cd_23 "ring_through")
  (k_23:kI K f_23)
  (a_24:nG K "rates_of" f_24)
  (l_24:lK K f_24 oc_24 od_24 "rates_of" "rates_of" UO .none kV_24 dc_24 pm_24 an_24 cd_24 ct_24 sl_24)
  (c_24:cI K cd_24 "rates_of")
  (k_24:kI K f_24)
  (a_25:nG K "round_rates" f_25)
  (l_25:lK K f_25 oc_25 od_25 "round_rates" "round_rates" Vj .none kV_25 dc_25 pm_25 an_25 cd_25 ct_25 sl_25)
  (c_25:cI K cd_25 "round_rates")
  (k_25:kI K f_25)
  (a_26:nG K "enough" f_26)
  (l_26:lK K f_26 oc_26 od_26 "enough" "enough" U8 .none kV_26 dc_26 pm_26 an_26 cd_26 ct_26 sl_26)
  (c_26:cI K cd_26 "enough")
  (k_26:kI K f_26)
  (a_27:mG K C_Course "row_from" f_27)
  (i_27:iF K f_27)
  (l_27:lK K f_27 oc_27 od_27 "row_from" "Course.row_from" YL .none kV_27 dc_27 pm_27 an_27 cd_27 ct_27 sl_27)
  (c_27:cI K cd_27 "Course.row_from")
  (k_27:kI K f_27)
  (a_28:mG K C_Course "waits_behind" f_28)
  (i_28:iF K f_28)
  (l_28:lK K f_28 oc_28 od_28 "waits_behind" "Course.waits_behind" YB .none kV_28 dc_28 pm_28 an_28 cd_28 ct_28 sl_28)
  (c_28:cI K cd_28 "Course.waits_behind")
  (k_28:kI K f_28)
  (a_29:mG K C_Course "ring_behind" f_29)
  (i_29:iF K f_29)
  (l_29:lK K f_29 oc_29 od_29 "ring_behind" "Course.ring_behind" YM .none kV_29 dc_29 pm_29 an_29 cd_29 ct_29 sl_29)
  (c_29:cI K cd_29 "Course.ring_behind")
  (k_29:kI K f_29)
  (a_30:mG K C_Course "told_from" f_30)
  (i_30:iF K f_30)
  (l_30:lK K f_30 oc_30 od_30 "told_from" "Course.told_from" Yz .none kV_30 dc_30 pm_30 an_30 cd_30 ct_30 sl_30)
  (c_30:cI K cd_30 "Course.told_from")
  (k_30:kI K f_30)
  (a_31:mG K C_Hall "need_work" f_31)
  (i_31:iF K f_31)
  (l_31:lK K f_31 oc_31 od_31 "need_work" "Hall.need_work" Wx .none kV_31 dc_31 pm_31 an_31 cd_31 ct_31 sl_31)
  (c_31:cI K cd_31 "Hall.need_work")
  (k_31:kI K f_31)
  (a_32:mG K C_Hall "entering" f_32)
  (i_32:iF K f_32)
  (l_32:lK K f_32 oc_32 od_32 "entering" "Hall.entering" Y7 .none kV_32 dc_32 pm_32 an_32 cd_32 ct_32 sl_32)
  (c_32:cI K cd_32 "Hall.entering")
  (k_32:kI K f_32)
  (a_33:nG K "takes_of" f_33)
  (l_33:lK K f_33 oc_33 od_33 "takes_of" "takes_of" Vx .none kV_33 dc_33 pm_33 an_33 cd_33 ct_33 sl_33)
  (c_33:cI K cd_33 "takes_of")
  (k_33:kI K f_33)
  (a_34:mG K C_Hall "leaving" f_34)
  (i_34:iF K f_34)
  (l_34:lK K f_34 oc_34 od_34 "leaving" "Hall.leaving" Wh .none kV_34 dc_34 pm_34 an_34 cd_34 ct_34 sl_34)
  (c_34:cI K cd_34 "Hall.leaving")
  (k_34:kI K f_34)
  (a_35:nG K "gives_of" f_35)
  (l_35:lK K f_35 oc_35 od_35 "gives_of" "gives_of" VM .none kV_35 dc_35 pm_35 an_35 cd_35 ct_35 sl_35)
  (c_35:cI K cd_35 "gives_of")
  (k_35:kI K f_35)
  (a_36:nG K "touched_by" f_36)
  (l_36:lK K f_36 oc_36 od_36 "touched_by" "touched_by" WO .none kV_36 dc_36 pm_36 an_36 cd_36 ct_36 sl_36)
  (c_36:cI K cd_36 "touched_by")
  (k_36:kI K f_36)
  (a_37:mG K C_Course "__init__" f_37)
  (i_37:iF K f_37)
  (l_37:lK K f_37 oc_37 od_37 "__init__" "Course.__init__" YF .none kV_37 dc_37 pm_37 an_37 cd_37 ct_37 sl_37)
  (c_37:cI K cd_37 "Course.__init__")
  (k_37:kI K f_37)
  (a_38:nG K "round_of" f_38)
  (l_38:lK K f_38 oc_38 od_38 "round_of" "round_of" UH .none kV_38 dc_38 pm_38 an_38 cd_38 ct_38 sl_38)
  (c_38:cI K cd_38 "round_of")
  (k_38:kI K f_38)
  (a_39:nG K "_law_kind" f_39)
  (l_39:lK K f_39 oc_39 od_39 "_law_kind" "_law_kind" ZaV .none kV_39 dc_39 pm_39 an_39 cd_39 ct_39 sl_39)
  (c_39:cI K cd_39 "_law_kind")
  (k_39:kI K f_39)
  (a_40:nG K "_law_row_good" f_40)
  (l_40:lK K f_40 oc_40 od_40 "_law_row_good" "_law_row_good" YY .none kV_40 dc_40 pm_40 an_40 cd_40 ct_40 sl_40)
  (c_40:cI K cd_40 "_law_row_good")
  (k_40:kI K f_40)
  (a_41:nG K "need_start" f_41)
  (l_41:lK K f_41 oc_41 od_41 "need_start" "need_start" VG .none kV_41 dc_41 pm_41 an_41 cd_41 ct_41 sl_41)
  (c_41:cI K cd_41 "need_start")
  (k_41:kI K f_41)
  (a_42:mG K C_Hall "lay" f_42)
  (i_42:iF K f_42)
  (l_42:lK K f_42 oc_42 od_42 "lay" "Hall.lay" UI .none kV_42 dc_42 pm_42 an_42 cd_42 ct_42 sl_42)
  (c_42:cI K cd_42 "Hall.lay")
  (k_42:kI K f_42)
  (a_43:mG K C_Hall "belt" f_43)
  (i_43:iF K f_43)
  (l_43:lK K f_43 oc_43 od_43 "belt" "Hall.belt" Ug (.ref dT_Hall_belt) kV_43 dc_43 pm_43 an_43 cd_43 ct_43 sl_43)
  (t_Hall_belt:K.lookup dT_Hall_belt=some ⟨oc2_Hall_belt,od2_Hall_belt,.seq #[.int 0 dk0_Hall_belt] n2_Hall_belt,sl2_Hall_belt⟩)
  (c_43:cI K cd_43 "Hall.belt")
  (k_43:kI K f_43)
  (a_44:nG K "is_name" f_44)
  (l_44:lK K f_44 oc_44 od_44 "is_name" "is_name" Uu .none kV_44 dc_44 pm_44 an_44 cd_44 ct_44 sl_44)
  (c_44:cI K cd_44 "is_name")
  (k_44:kI K f_44)
  (a_45:mG K C_Hall "work" f_45)
  (i_45:iF K f_45)
  (l_45:lK K f_45 oc_45 od_45 "work" "Hall.work" Uh .none kV_45 dc_45 pm_45 an_45 cd_45 ct_45 sl_45)
  (c_45:cI K cd_45 "Hall.work")
  (k_45:kI K f_45)
  (a_46:mG K C_Hall "__init__" f_46)
  (i_46:iF K f_46)
  (l_46:lK K f_46 oc_46 od_46 "__init__" "Hall.__init__" Ub .none kV_46 dc_46 pm_46 an_46 cd_46 ct_46 sl_46)
  (c_46:cI K cd_46 "Hall.__init__")
  (k_46:kI K f_46)
  (a_47:nG K "law" f_47)
  (l_47:lK K f_47 oc_47 od_47 "law" "law" Zef .none kV_47 dc_47 pm_47 an_47 cd_47 ct_47 sl_47)
  (c_47:cI K cd_47 "law")
  (k_47:kI K f_47)
  (pg_Course:PySem.W.plainGet K C_Course Str.empty=true)
  (hd_Course:PySem.W.hasDictIn K C_Course=true)
  (po_Course:PySem.W.plainOver K C_Course=true)
  (sa_Course:PySem.W.findIn K (.ref C_Course) "__setattr__" =some (some (.builtin "object.__setattr__")))
  (mk_Course:PySem.W.makesIn K C_Course=true)
  (kc_Course:PySem.W.keepIn K (.ref C_Course)=true)
  (na_Course_turns:PySem.W.findIn K (.ref C_Course) "turns" =some none)
  (na_Course_rows:PySem.W.findIn K (.ref C_Course) "rows" =some none)
  (na_Course_takes:PySem.W.findIn K (.ref C_Course) "takes" =some none)
  (na_Course_gives:PySem.W.findIn K (.ref C_Course) "gives" =some none)
  (na_Course_touched:PySem.W.findIn K (.ref C_Course) "touched" =some none)
  (pg_Hall:PySem.W.plainGet K C_Hall Str.empty=true)
  (hd_Hall:PySem.W.hasDictIn K C_Hall=true)
  (po_Hall:PySem.W.plainOver K C_Hall=true)
  (sa_Hall:PySem.W.findIn K (.ref C_Hall) "__setattr__" =some (some (.builtin "object.__setattr__")))
  (mk_Hall:PySem.W.makesIn K C_Hall=true)
  (kc_Hall:PySem.W.keepIn K (.ref C_Hall)=true)
  (na_Hall_numbers:PySem.W.findIn K (.ref C_Hall) "numbers" =some none)
  (na_Hall_rows:PySem.W.findIn K (.ref C_Hall) "rows" =some none)
  (gx_RateError:PySem.W.nsIn K mainGlobals "RateError" =some (some (.ref X_RateError)))
  (ex_RateError:PySem.W.excIn K X_RateError [.type "ValueError",.type "Exception",.type "BaseException",.type "object"] "ValueError.__new__" =true)
  (gx_NoName:PySem.W.nsIn K mainGlobals "NoName" =some (some (.ref X_NoName)))
  (ex_NoName:PySem.W.excIn K X_NoName [.type "ValueError",.type "Exception",.type "BaseException",.type "object"] "ValueError.__new__" =true)
  (gx_Twice:PySem.W.nsIn K mainGlobals "Twice" =some (some (.ref X_Twice)))
  (ex_Twice:PySem.W.excIn K X_Twice [.type "ValueError",.type "Exception",.type "BaseException",.type "object"] "ValueError.__new__" =true)
  (gx_TooMuch:PySem.W.nsIn K mainGlobals "TooMuch" =some (some (.ref X_TooMuch)))
  (ex_TooMuch:PySem.W.excIn K X_TooMuch [.type "ValueError",.type "Exception",.type "BaseException",.type "object"] "ValueError.__new__" =true)
  (gx_NoWork:PySem.W.nsIn K mainGlobals "NoWork" =some (some (.ref X_NoWork)))
  (ex_NoWork:PySem.W.excIn K X_NoWork [.type "ValueError",.type "Exception",.type "BaseException",.type "object"] "ValueError.__new__" =true)
  (gx_NoBelt:PySem.W.nsIn K mainGlobals "NoBelt" =some (some (.ref X_NoBelt)))
  (ex_NoBelt:PySem.W.excIn K X_NoBelt [.type "ValueError",.type "Exception",.type "BaseException",.type "object"] "ValueError.__new__" =true)
  (gx_NoRate:PySem.W.nsIn K mainGlobals "NoRate" =some (some (.ref X_NoRate)))
  (ex_NoRate:PySem.W.excIn K X_NoRate [.type "ValueError",.type "Exception",.type "BaseException",.type "object"] "ValueError.__new__" =true)
  (gx_Empty:PySem.W.nsIn K mainGlobals "Empty" =some (some (.ref X_Empty)))
  (ex_Empty:PySem.W.excIn K X_Empty [.type "ValueError",.type "Exception",.type "BaseException",.type "object"] "ValueError.__new__" =true)
  (gx_NotBalanced:PySem.W.nsIn K mainGlobals "NotBalanced" =some (some (.ref X_NotBalanced)))
  (ex_NotBalanced:PySem.W.excIn K X_NotBalanced [.type "ValueError",.type "Exception",.type "BaseException",.type "object"] "ValueError.__new__" =true)
  (gx_TooLong:PySem.W.nsIn K mainGlobals "TooLong" =some (some (.ref X_TooLong)))
  (ex_TooLong:PySem.W.excIn K X_TooLong [.type "ValueError",.type "Exception",.type "BaseException",.type "object"] "ValueError.__new__" =true)
  (gx_Stuck:PySem.W.nsIn K mainGlobals "Stuck" =some (some (.ref X_Stuck)))
  (ex_Stuck:PySem.W.excIn K X_Stuck [.type "ValueError",.type "Exception",.type "BaseException",.type "object"] "ValueError.__new__" =true)
  (em_RateError_RateError:PySem.W.exmOne K (.ref X_RateError) (.ref X_RateError)=some true)
  (em_NoName_RateError:PySem.W.exmOne K (.ref X_NoName) (.ref X_RateError)=some true)
  (em_Twice_RateError:PySem.W.exmOne K (.ref X_Twice) (.ref X_RateError)=some true)
  (em_TooMuch_RateError:PySem.W.exmOne K (.ref X_TooMuch) (.ref X_RateError)=some true)
  (em_NoWork_RateError:PySem.W.exmOne K (.ref X_NoWork) (.ref X_RateError)=some true)
  (em_NoBelt_RateError:PySem.W.exmOne K (.ref X_NoBelt) (.ref X_RateError)=some true)
  (em_NoRate_RateError:PySem.W.exmOne K (.ref X_NoRate) (.ref X_RateError)=some true)
  (em_Empty_RateError:PySem.W.exmOne K (.ref X_Empty) (.ref X_RateError)=some true)
  (em_NotBalanced_RateError:PySem.W.exmOne K (.ref X_NotBalanced) (.ref X_RateError)=some true)
  (em_TooLong_RateError:PySem.W.exmOne K (.ref X_TooLong) (.ref X_RateError)=some true)
  (em_Stuck_RateError:PySem.W.exmOne K (.ref X_Stuck) (.ref X_RateError)=some true)
  (xg:PySem.W.specialIn K (.builtin "object.__class__") "__get__" =some (some (.builtin "getset_descriptor.__get__")))
  (xt:PySem.W.takesIn K (.builtin "object.__class__")=some true)
  (x1_NoName:PySem.W.findIn K (.ref X_NoName) "__getattribute__" =some (some (.builtin "BaseException.__getattribute__")))
  (x2_NoName:PySem.W.findIn K (.ref X_NoName) "__getattr__" =some none)
  (x3_NoName:PySem.W.findIn K (.ref X_NoName) "__class__" =some (some (.builtin "object.__class__")))
  (x4_NoName:PySem.W.subIn K (.ref X_NoName) (.type "BaseException")=some true)
  (x5_NoName:PySem.W.mroIn K X_NoName (.type "object")=some true)
  (x1_Twice:PySem.W.findIn K (.ref X_Twice) "__getattribute__" =some (some (.builtin "BaseException.__getattribute__")))
  (x2_Twice:PySem.W.findIn K (.ref X_Twice) "__getattr__" =some none)
  (x3_Twice:PySem.W.findIn K (.ref X_Twice) "__class__" =some (some (.builtin "object.__class__")))
  (x4_Twice:PySem.W.subIn K (.ref X_Twice) (.type "BaseException")=some true)
  (x5_Twice:PySem.W.mroIn K X_Twice (.type "object")=some true)
  (x1_TooMuch:PySem.W.findIn K (.ref X_TooMuch) "__getattribute__" =some (some (.builtin "BaseException.__getattribute__")))
  (x2_TooMuch:PySem.W.findIn K (.ref X_TooMuch) "__getattr__" =some none)
  (x3_TooMuch:PySem.W.findIn K (.ref X_TooMuch) "__class__" =some (some (.builtin "object.__class__")))
  (x4_TooMuch:PySem.W.subIn K (.ref X_TooMuch) (.type "BaseException")=some true)
  (x5_TooMuch:PySem.W.mroIn K X_TooMuch (.type "object")=some true)
  (x1_NoWork:PySem.W.findIn K (.ref X_NoWork) "__getattribute__" =some (some (.builtin "BaseException.__getattribute__")))
  (x2_NoWork:PySem.W.findIn K (.ref X_NoWork) "__getattr__" =some none)
  (x3_NoWork:PySem.W.findIn K (.ref X_NoWork) "__class__" =some (some (.builtin "object.__class__")))
  (x4_NoWork:PySem.W.subIn K (.ref X_NoWork) (.type "BaseException")=some true)
  (x5_NoWork:PySem.W.mroIn K X_NoWork (.type "object")=some true)
  (x1_NoBelt:PySem.W.findIn K (.ref X_NoBelt) "__getattribute__" =some (some (.builtin "BaseException.__getattribute__")))
  (x2_NoBelt:PySem.W.findIn K (.ref X_NoBelt) "__getattr__" =some none)
  (x3_NoBelt:PySem.W.findIn K (.ref X_NoBelt) "__class__" =some (some (.builtin "object.__class__")))
  (x4_NoBelt:PySem.W.subIn K (.ref X_NoBelt) (.type "BaseException")=some true)
  (x5_NoBelt:PySem.W.mroIn K X_NoBelt (.type "object")=some true)
  (x1_NoRate:PySem.W.findIn K (.ref X_NoRate) "__getattribute__" =some (some (.builtin "BaseException.__getattribute__")))
  (x2_NoRate:PySem.W.findIn K (.ref X_NoRate) "__getattr__" =some none)
  (x3_NoRate:PySem.W.findIn K (.ref X_NoRate) "__class__" =some (some (.builtin "object.__class__")))
  (x4_NoRate:PySem.W.subIn K (.ref X_NoRate) (.type "BaseException")=some true)
  (x5_NoRate:PySem.W.mroIn K X_NoRate (.type "object")=some true)
  (x1_NotBalanced:PySem.W.findIn K (.ref X_NotBalanced) "__getattribute__" =some (some (.builtin "BaseException.__getattribute__")))
  (x2_NotBalanced:PySem.W.findIn K (.ref X_NotBalanced) "__getattr__" =some none)
  (x3_NotBalanced:PySem.W.findIn K (.ref X_NotBalanced) "__class__" =some (some (.builtin "object.__class__")))
  (x4_NotBalanced:PySem.W.subIn K (.ref X_NotBalanced) (.type "BaseException")=some true)
  (x5_NotBalanced:PySem.W.mroIn K X_NotBalanced (.type "object")=some true)
  (x1_TooLong:PySem.W.findIn K (.ref X_TooLong) "__getattribute__" =some (some (.builtin "BaseException.__getattribute__")))
  (x2_TooLong:PySem.W.findIn K (.ref X_TooLong) "__getattr__" =some none)
  (x3_TooLong:PySem.W.findIn K (.ref X_TooLong) "__class__" =some (some (.builtin "object.__class__")))
  (x4_TooLong:PySem.W.subIn K (.ref X_TooLong) (.type "BaseException")=some true)
  (x5_TooLong:PySem.W.mroIn K X_TooLong (.type "object")=some true)
  (ki_NoName_ValueError:PySem.W.kitOne K (.ref X_NoName) (.type "ValueError")=some true)
  (ki_NoName_Stuck:PySem.W.kitOne K (.ref X_NoName) (.ref X_Stuck)=some false)
  (ki_NoName_Empty:PySem.W.kitOne K (.ref X_NoName) (.ref X_Empty)=some false)
  (ki_NoName_NotBalanced:PySem.W.kitOne K (.ref X_NoName) (.ref X_NotBalanced)=some false)
  (ki_NoName_TooLong:PySem.W.kitOne K (.ref X_NoName) (.ref X_TooLong)=some false)
  (ki_Twice_ValueError:PySem.W.kitOne K (.ref X_Twice) (.type "ValueError")=some true)
  (ki_Twice_Stuck:PySem.W.kitOne K (.ref X_Twice) (.ref X_Stuck)=some false)
  (ki_Twice_Empty:PySem.W.kitOne K (.ref X_Twice) (.ref X_Empty)=some false)
  (ki_Twice_NotBalanced:PySem.W.kitOne K (.ref X_Twice) (.ref X_NotBalanced)=some false)
  (ki_Twice_TooLong:PySem.W.kitOne K (.ref X_Twice) (.ref X_TooLong)=some false)
  (ki_TooMuch_ValueError:PySem.W.kitOne K (.ref X_TooMuch) (.type "ValueError")=some true)
  (ki_TooMuch_Stuck:PySem.W.kitOne K (.ref X_TooMuch) (.ref X_Stuck)=some false)
  (ki_TooMuch_Empty:PySem.W.kitOne K (.ref X_TooMuch) (.ref X_Empty)=some false)
  (ki_TooMuch_NotBalanced:PySem.W.kitOne K (.ref X_TooMuch) (.ref X_NotBalanced)=some false)
  (ki_TooMuch_TooLong:PySem.W.kitOne K (.ref X_TooMuch) (.ref X_TooLong)=some false)
  (ki_NoWork_ValueError:PySem.W.kitOne K (.ref X_NoWork) (.type "ValueError")=some true)
  (ki_NoWork_Stuck:PySem.W.kitOne K (.ref X_NoWork) (.ref X_Stuck)=some false)
  (ki_NoWork_Empty:PySem.W.kitOne K (.ref X_NoWork) (.ref X_Empty)=some false)
  (ki_NoWork_NotBalanced:PySem.W.kitOne K (.ref X_NoWork) (.ref X_NotBalanced)=some false)
  (ki_NoWork_TooLong:PySem.W.kitOne K (.ref X_NoWork) (.ref X_TooLong)=some false)
  (ki_NoBelt_ValueError:PySem.W.kitOne K (.ref X_NoBelt) (.type "ValueError")=some true)
  (ki_NoBelt_Stuck:PySem.W.kitOne K (.ref X_NoBelt) (.ref X_Stuck)=some false)
  (ki_NoBelt_Empty:PySem.W.kitOne K (.ref X_NoBelt) (.ref X_Empty)=some false)
  (ki_NoBelt_NotBalanced:PySem.W.kitOne K (.ref X_NoBelt) (.ref X_NotBalanced)=some false)
  (ki_NoBelt_TooLong:PySem.W.kitOne K (.ref X_NoBelt) (.ref X_TooLong)=some false)
  (ki_NoRate_ValueError:PySem.W.kitOne K (.ref X_NoRate) (.type "ValueError")=some true)
  (ki_NoRate_Stuck:PySem.W.kitOne K (.ref X_NoRate) (.ref X_Stuck)=some false)
  (ki_NoRate_Empty:PySem.W.kitOne K (.ref X_NoRate) (.ref X_Empty)=some false)
  (ki_NoRate_NotBalanced:PySem.W.kitOne K (.ref X_NoRate) (.ref X_NotBalanced)=some false)
  (ki_NoRate_TooLong:PySem.W.kitOne K (.ref X_NoRate) (.ref X_TooLong)=some false)
  (ki_NotBalanced_ValueError:PySem.W.kitOne K (.ref X_NotBalanced) (.type "ValueError")=some true)
  (ki_NotBalanced_Stuck:PySem.W.kitOne K (.ref X_NotBalanced) (.ref X_Stuck)=some false)
  (ki_NotBalanced_Empty:PySem.W.kitOne K (.ref X_NotBalanced) (.ref X_Empty)=some false)
  (ki_NotBalanced_NotBalanced:PySem.W.kitOne K (.ref X_NotBalanced) (.ref X_NotBalanced)=some true)
  (ki_NotBalanced_TooLong:PySem.W.kitOne K (.ref X_NotBalanced) (.ref X_TooLong)=some false)
  (ki_TooLong_ValueError:PySem.W.kitOne K (.ref X_TooLong) (.type "ValueError")=some true)
  (ki_TooLong_Stuck:PySem.W.kitOne K (.ref X_TooLong) (.ref X_Stuck)=some false)
  (ki_TooLong_Empty:PySem.W.kitOne K (.ref X_TooLong) (.ref X_Empty)=some false)
  (ki_TooLong_NotBalanced:PySem.W.kitOne K (.ref X_TooLong) (.ref X_NotBalanced)=some false)
  (ki_TooLong_TooLong:PySem.W.kitOne K (.ref X_TooLong) (.ref X_TooLong)=some true)
  (c_MOST_TURNS:PySem.W.nsIn K mainGlobals "MOST_TURNS" =some (some (.int 400 tk_MOST_TURNS)))
  (c_MOST_BELTS:PySem.W.nsIn K mainGlobals "MOST_BELTS" =some (some (.int 60 tk_MOST_BELTS)))
  (c_MOST_LETTERS:PySem.W.nsIn K mainGlobals "MOST_LETTERS" =some (some (.int 8 tk_MOST_LETTERS)))
  (c_MOST_WORKS:PySem.W.nsIn K mainGlobals "MOST_WORKS" =some (some (.int 30 tk_MOST_WORKS)))
  (z_ValueError:PySem.W.nsIn K mainGlobals "ValueError" =some none)
  (z_all:PySem.W.nsIn K mainGlobals "all" =some none)
  (z_bool:PySem.W.nsIn K mainGlobals "bool" =some none)
  (z_enumerate:PySem.W.nsIn K mainGlobals "enumerate" =some none)
  (z_int:PySem.W.nsIn K mainGlobals "int" =some none)
  (z_isinstance:PySem.W.nsIn K mainGlobals "isinstance" =some none)
  (z_len:PySem.W.nsIn K mainGlobals "len" =some none)
  (z_list:PySem.W.nsIn K mainGlobals "list" =some none)
  (z_min:PySem.W.nsIn K mainGlobals "min" =some none)
  (z_range:PySem.W.nsIn K mainGlobals "range" =some none)
  (z_reversed:PySem.W.nsIn K mainGlobals "reversed" =some none)
  (z_set:PySem.W.nsIn K mainGlobals "set" =some none)
  (z_sorted:PySem.W.nsIn K mainGlobals "sorted" =some none)
  (z_str:PySem.W.nsIn K mainGlobals "str" =some none)
  (z_sum:PySem.W.nsIn K mainGlobals "sum" =some none)
  :∃T:Tp K mg,True:=by
 have F_0:=ZD (st:=Za2) l_0 c_0 k_0;have F_1:=ZD (st:=Zac) l_1 c_1 k_1;have F_2:=ZD (st:=VD) l_2 c_2 k_2;have F_3:=ZD (st:=Vd) l_3 c_3 k_3;have F_4:=ZD (st:=Vy) l_4 c_4 k_4;have F_5:=ZD (st:=Us) l_5 c_5 k_5;have F_6:=ZD (st:=Uc) l_6 c_6 k_6;have F_7:=ZD (st:=Ue) l_7 c_7 k_7;have F_8:=ZD (st:=Zad) l_8 c_8 k_8;have F_9:=ZD (st:=ZbR) l_9 c_9 k_9;have F_10:=ZD (st:=ZbL) l_10 c_10 k_10;have F_11:=ZD (st:=Zc3) l_11 c_11 k_11;have F_12:=ZD (st:=UQ) l_12 c_12 k_12;have F_13:=ZD (st:=Zan) l_13 c_13 k_13;have F_14:=ZD (st:=We) l_14 c_14 k_14;have F_15:=ZD (st:=Wt) l_15 c_15 k_15;have F_16:=ZD (st:=W6) l_16 c_16 k_16;have F_17:=ZD (st:=Ua) l_17 c_17 k_17;have F_18:=ZD (st:=UK) l_18 c_18 k_18;have F_19:=ZD (st:=VR) l_19 c_19 k_19;have F_20:=ZD (st:=Vb) l_20 c_20 k_20;have F_21:=ZD (st:=ZaR) l_21 c_21 k_21;have F_22:=ZD (st:=W5) l_22 c_22 k_22;have F_23:=ZD (st:=YV) l_23 c_23 k_23;have F_24:=ZD (st:=UO) l_24 c_24 k_24;have F_25:=ZD (st:=Vj) l_25 c_25 k_25;have F_26:=ZD (st:=U8) l_26 c_26 k_26;have F_27:=ZD (st:=YL) l_27 c_27 k_27;have F_28:=ZD (st:=YB) l_28 c_28 k_28;have F_29:=ZD (st:=YM) l_29 c_29 k_29;have F_30:=ZD (st:=Yz) l_30 c_30 k_30;have F_31:=ZD (st:=Wx) l_31 c_31 k_31;have F_32:=ZD (st:=Y7) l_32 c_32 k_32;have F_33:=ZD (st:=Vx) l_33 c_33 k_33;have F_34:=ZD (st:=Wh) l_34 c_34 k_34;have F_35:=ZD (st:=VM) l_35 c_35 k_35;have F_36:=ZD (st:=WO) l_36 c_36 k_36;have F_37:=ZD (st:=YF) l_37 c_37 k_37;have F_38:=ZD (st:=UH) l_38 c_38 k_38;have F_39:=ZD (st:=ZaV) l_39 c_39 k_39;have F_40:=ZD (st:=YY) l_40 c_40 k_40;have F_41:=ZD (st:=VG) l_41 c_41 k_41;have F_42:=ZD (st:=UI) l_42 c_42 k_42;have F_43:=ZjC (st:=Ug) l_43 c_43 k_43;have F_44:=ZD (st:=Uu) l_44 c_44 k_44;have F_45:=ZD (st:=Uh) l_45 c_45 k_45;have F_46:=ZD (st:=Ub) l_46 c_46 k_46;have F_47:=ZD (st:=Zef) l_47 c_47 k_47;exact⟨{
  f_l_cell:=f_0,d_l_cell:=_,F_l_cell:=F_0,
  b_l_cell:=F_0.binds fun _ _ _ _ _ _ us hl=>by revert hl;revert us;exact Yt (fun _ _=>rfl),
  m_l_cell:=PySem.W.mg_of X G a_0,
  f_l_turns:=f_1,d_l_turns:=_,F_l_turns:=F_1,
  b_l_turns:=F_1.binds fun _ _ _ _ _ _ us hl=>by revert hl;revert us;exact Vq (fun _=>rfl),
  m_l_turns:=PySem.W.mg_of X G a_1,
  f_Hall_belts:=f_2,d_Hall_belts:=_,F_Hall_belts:=F_2,
  b_Hall_belts:=F_2.binds fun _ _ _ _ _ _ us hl=>by revert hl;revert us;exact Vq (fun _=>rfl),
  f_starts_of:=f_3,d_starts_of:=_,F_starts_of:=F_3,
  b_starts_of:=F_3.binds fun _ _ _ _ _ _ us hl=>by revert hl;revert us;exact Vq (fun _=>rfl),
  m_starts_of:=PySem.W.mg_of X G a_3,
  f_Hall_names:=f_4,d_Hall_names:=_,F_Hall_names:=F_4,
  b_Hall_names:=F_4.binds fun _ _ _ _ _ _ us hl=>by revert hl;revert us;exact Vq (fun _=>rfl),
  f_ways_of:=f_5,d_ways_of:=_,F_ways_of:=F_5,
  b_ways_of:=F_5.binds fun _ _ _ _ _ _ us hl=>by revert hl;revert us;exact Vq (fun _=>rfl),
  m_ways_of:=PySem.W.mg_of X G a_5,
  f_tree_from:=f_6,d_tree_from:=_,F_tree_from:=F_6,
  b_tree_from:=F_6.binds fun _ _ _ _ _ _ us hl=>by revert hl;revert us;exact Yt (fun _ _=>rfl),
  m_tree_from:=PySem.W.mg_of X G a_6,
  f_forest_of:=f_7,d_forest_of:=_,F_forest_of:=F_7,
  b_forest_of:=F_7.binds fun _ _ _ _ _ _ us hl=>by revert hl;revert us;exact Vq (fun _=>rfl),
  m_forest_of:=PySem.W.mg_of X G a_7,
  f_divisor:=f_8,d_divisor:=_,F_divisor:=F_8,
  b_divisor:=F_8.binds fun _ _ _ _ _ _ us hl=>by revert hl;revert us;exact Yt (fun _ _=>rfl),
  m_divisor:=PySem.W.mg_of X G a_8,
  f_ratio:=f_9,d_ratio:=_,F_ratio:=F_9,
  b_ratio:=F_9.binds fun _ _ _ _ _ _ us hl=>by revert hl;revert us;exact Yt (fun _ _=>rfl),
  m_ratio:=PySem.W.mg_of X G a_9,
  f_times:=f_10,d_times:=_,F_times:=F_10,
  b_times:=F_10.binds fun _ _ _ _ _ _ us hl=>by revert hl;revert us;exact Yt (fun _ _=>rfl),
  m_times:=PySem.W.mg_of X G a_10,
  f_gain:=f_11,d_gain:=_,F_gain:=F_11,
  b_gain:=F_11.binds fun _ _ _ _ _ _ us hl=>by revert hl;revert us;exact Yt (fun _ _=>rfl),
  m_gain:=PySem.W.mg_of X G a_11,
  f_is_whole:=f_12,d_is_whole:=_,F_is_whole:=F_12,
  b_is_whole:=F_12.binds fun _ _ _ _ _ _ us hl=>by revert hl;revert us;exact Vq (fun _=>rfl),
  m_is_whole:=PySem.W.mg_of X G a_12,
  f_is_from:=f_13,d_is_from:=_,F_is_from:=F_13,
  b_is_from:=F_13.binds fun _ _ _ _ _ _ us hl=>by revert hl;revert us;exact Yt (fun _ _=>rfl),
  m_is_from:=PySem.W.mg_of X G a_13,
  f_is_number_below:=f_14,d_is_number_below:=_,F_is_number_below:=F_14,
  b_is_number_below:=F_14.binds fun _ _ _ _ _ _ us hl=>by revert hl;revert us;exact Yt (fun _ _=>rfl),
  m_is_number_below:=PySem.W.mg_of X G a_14,
  f_Hall_need_belt:=f_15,d_Hall_need_belt:=_,F_Hall_need_belt:=F_15,
  b_Hall_need_belt:=F_15.binds fun _ _ _ _ _ _ us hl=>by revert hl;revert us;exact Yt (fun _ _=>rfl),
  f_Hall_belt_at:=f_16,d_Hall_belt_at:=_,F_Hall_belt_at:=F_16,
  b_Hall_belt_at:=F_16.binds fun _ _ _ _ _ _ us hl=>by revert hl;revert us;exact Yt (fun _ _=>rfl),
  f_shares_of:=f_17,d_shares_of:=_,F_shares_of:=F_17,
  b_shares_of:=F_17.binds fun _ _ _ _ _ _ us hl=>by revert hl;revert us;exact Yt (fun _ _=>rfl),
  m_shares_of:=PySem.W.mg_of X G a_17,
  f_multiple:=f_18,d_multiple:=_,F_multiple:=F_18,
  b_multiple:=F_18.binds fun _ _ _ _ _ _ us hl=>by revert hl;revert us;exact Yt (fun _ _=>rfl),
  m_multiple:=PySem.W.mg_of X G a_18,
  f_rates_by:=f_19,d_rates_by:=_,F_rates_by:=F_19,
  b_rates_by:=F_19.binds fun _ _ _ _ _ _ us hl=>by revert hl;revert us;exact Yt (fun _ _=>rfl),
  m_rates_by:=PySem.W.mg_of X G a_19,
  f_change_of:=f_20,d_change_of:=_,F_change_of:=F_20,
  b_change_of:=F_20.binds fun _ _ _ _ _ _ us hl=>by revert hl;revert us;exact Yt (fun _ _=>rfl),
  m_change_of:=PySem.W.mg_of X G a_20,
  f_way_to:=f_21,d_way_to:=_,F_way_to:=F_21,
  b_way_to:=F_21.binds fun _ _ _ _ _ _ us hl=>by revert hl;revert us;exact Yt (fun _ _=>rfl),
  m_way_to:=PySem.W.mg_of X G a_21,
  f_shared_steps:=f_22,d_shared_steps:=_,F_shared_steps:=F_22,
  b_shared_steps:=F_22.binds fun _ _ _ _ _ _ us hl=>by revert hl;revert us;exact Yt (fun _ _=>rfl),
  m_shared_steps:=PySem.W.mg_of X G a_22,
  f_ring_through:=f_23,d_ring_through:=_,F_ring_through:=F_23,
  b_ring_through:=F_23.binds fun _ _ _ _ _ _ us hl=>by revert hl;revert us;exact ZeI (fun _ _ _=>rfl),
  m_ring_through:=PySem.W.mg_of X G a_23,
  f_rates_of:=f_24,d_rates_of:=_,F_rates_of:=F_24,
  b_rates_of:=F_24.binds fun _ _ _ _ _ _ us hl=>by revert hl;revert us;exact Vq (fun _=>rfl),
  m_rates_of:=PySem.W.mg_of X G a_24,
  f_round_rates:=f_25,d_round_rates:=_,F_round_rates:=F_25,
  b_round_rates:=F_25.binds fun _ _ _ _ _ _ us hl=>by revert hl;revert us;exact Vq (fun _=>rfl),
  m_round_rates:=PySem.W.mg_of X G a_25,
  f_enough:=f_26,d_enough:=_,F_enough:=F_26,
  b_enough:=F_26.binds fun _ _ _ _ _ _ us hl=>by revert hl;revert us;exact Yt (fun _ _=>rfl),
  m_enough:=PySem.W.mg_of X G a_26,
  f_Course_row_from:=f_27,d_Course_row_from:=_,F_Course_row_from:=F_27,
  b_Course_row_from:=F_27.binds fun _ _ _ _ _ _ us hl=>by revert hl;revert us;exact Yt (fun _ _=>rfl),
  f_Course_waits_behind:=f_28,d_Course_waits_behind:=_,F_Course_waits_behind:=F_28,
  b_Course_waits_behind:=F_28.binds fun _ _ _ _ _ _ us hl=>by revert hl;revert us;exact ZeI (fun _ _ _=>rfl),
  f_Course_ring_behind:=f_29,d_Course_ring_behind:=_,F_Course_ring_behind:=F_29,
  b_Course_ring_behind:=F_29.binds fun _ _ _ _ _ _ us hl=>by revert hl;revert us;exact ZeI (fun _ _ _=>rfl),
  f_Course_told_from:=f_30,d_Course_told_from:=_,F_Course_told_from:=F_30,
  b_Course_told_from:=F_30.binds fun _ _ _ _ _ _ us hl=>by revert hl;revert us;exact Yt (fun _ _=>rfl),
  f_Hall_need_work:=f_31,d_Hall_need_work:=_,F_Hall_need_work:=F_31,
  b_Hall_need_work:=F_31.binds fun _ _ _ _ _ _ us hl=>by revert hl;revert us;exact Yt (fun _ _=>rfl),
  f_Hall_entering:=f_32,d_Hall_entering:=_,F_Hall_entering:=F_32,
  b_Hall_entering:=F_32.binds fun _ _ _ _ _ _ us hl=>by revert hl;revert us;exact Yt (fun _ _=>rfl),
  f_takes_of:=f_33,d_takes_of:=_,F_takes_of:=F_33,
  b_takes_of:=F_33.binds fun _ _ _ _ _ _ us hl=>by revert hl;revert us;exact Yt (fun _ _=>rfl),
  m_takes_of:=PySem.W.mg_of X G a_33,
  f_Hall_leaving:=f_34,d_Hall_leaving:=_,F_Hall_leaving:=F_34,
  b_Hall_leaving:=F_34.binds fun _ _ _ _ _ _ us hl=>by revert hl;revert us;exact Yt (fun _ _=>rfl),
  f_gives_of:=f_35,d_gives_of:=_,F_gives_of:=F_35,
  b_gives_of:=F_35.binds fun _ _ _ _ _ _ us hl=>by revert hl;revert us;exact Yt (fun _ _=>rfl),
  m_gives_of:=PySem.W.mg_of X G a_35,
  f_touched_by:=f_36,d_touched_by:=_,F_touched_by:=F_36,
  b_touched_by:=F_36.binds fun _ _ _ _ _ _ us hl=>by revert hl;revert us;exact Yt (fun _ _=>rfl),
  m_touched_by:=PySem.W.mg_of X G a_36,
  f_Course_init:=f_37,d_Course_init:=_,F_Course_init:=F_37,
  b_Course_init:=F_37.binds fun _ _ _ _ _ _ us hl=>by revert hl;revert us;exact ZeI (fun _ _ _=>rfl),
  f_round_of:=f_38,d_round_of:=_,F_round_of:=F_38,
  b_round_of:=F_38.binds fun _ _ _ _ _ _ us hl=>by revert hl;revert us;exact Vq (fun _=>rfl),
  m_round_of:=PySem.W.mg_of X G a_38,
  f_l_kind:=f_39,d_l_kind:=_,F_l_kind:=F_39,
  b_l_kind:=F_39.binds fun _ _ _ _ _ _ us hl=>by revert hl;revert us;exact Vq (fun _=>rfl),
  m_l_kind:=PySem.W.mg_of X G a_39,
  f_l_row_good:=f_40,d_l_row_good:=_,F_l_row_good:=F_40,
  b_l_row_good:=F_40.binds fun _ _ _ _ _ _ us hl=>by revert hl;revert us;exact ZeI (fun _ _ _=>rfl),
  m_l_row_good:=PySem.W.mg_of X G a_40,
  f_need_start:=f_41,d_need_start:=_,F_need_start:=F_41,
  b_need_start:=F_41.binds fun _ _ _ _ _ _ us hl=>by revert hl;revert us;exact Vq (fun _=>rfl),
  m_need_start:=PySem.W.mg_of X G a_41,
  f_Hall_lay:=f_42,d_Hall_lay:=_,F_Hall_lay:=F_42,
  b_Hall_lay:=F_42.binds fun _ _ _ _ _ _ us hl=>by revert hl;revert us;exact Yt (fun _ _=>rfl),
  f_Hall_belt:=f_43,d_Hall_belt:=_,F_Hall_belt:=F_43,
  dT_Hall_belt:=dT_Hall_belt,
  dk0_Hall_belt:=dk0_Hall_belt,
  b_Hall_belt:=fun s us X hl=>(match us,(show us.length=6 by simpa using hl) with| [_,_,_,_,_,_],_=>PySem.W.binds_K X rfl t_Hall_belt rfl rfl rfl),
  b1_Hall_belt:=fun s us X hl=>(match us,(show us.length=5 by simpa using hl) with| [_,_,_,_,_],_=>PySem.W.binds_K X rfl t_Hall_belt rfl rfl rfl),
  v1_Hall_belt:=(.cons ⟨_,rfl⟩ .nil),
  f_is_name:=f_44,d_is_name:=_,F_is_name:=F_44,
  b_is_name:=F_44.binds fun _ _ _ _ _ _ us hl=>by revert hl;revert us;exact Vq (fun _=>rfl),
  m_is_name:=PySem.W.mg_of X G a_44,
  f_Hall_work:=f_45,d_Hall_work:=_,F_Hall_work:=F_45,
  b_Hall_work:=F_45.binds fun _ _ _ _ _ _ us hl=>by revert hl;revert us;exact Yt (fun _ _=>rfl),
  f_Hall_init:=f_46,d_Hall_init:=_,F_Hall_init:=F_46,
  b_Hall_init:=F_46.binds fun _ _ _ _ _ _ us hl=>by revert hl;revert us;exact Vq (fun _=>rfl),
  f_law:=f_47,d_law:=_,F_law:=F_47,
  b_law:=F_47.binds fun _ _ _ _ _ _ us hl=>by revert hl;revert us;exact Vq (fun _=>rfl),
  m_law:=PySem.W.mg_of X G a_47,
  C_Course:=C_Course,cl_Course:=⟨pg_Course,hd_Course,po_Course,sa_Course⟩,g_Course:=PySem.W.mg_of X G a_Course,
  na_Course:=⟨fun f hf=>(by
   simp only[List.mem_cons,List.not_mem_nil,or_false] at hf;rcases hf with rfl|rfl|rfl|rfl|rfl
   ·exact na_Course_turns
   ·exact na_Course_rows
   ·exact na_Course_takes
   ·exact na_Course_gives
   ·exact na_Course_touched)⟩,
  M_Course_row_from:=⟨a_27,i_27,k_27⟩,
  M_Course_waits_behind:=⟨a_28,i_28,k_28⟩,
  M_Course_ring_behind:=⟨a_29,i_29,k_29⟩,
  M_Course_told_from:=⟨a_30,i_30,k_30⟩,
  mk_Course:=⟨mk_Course,a_37,i_37,kc_Course⟩,
  C_Hall:=C_Hall,cl_Hall:=⟨pg_Hall,hd_Hall,po_Hall,sa_Hall⟩,g_Hall:=PySem.W.mg_of X G a_Hall,
  na_Hall:=⟨fun f hf=>(by
   simp only[List.mem_cons,List.not_mem_nil,or_false] at hf;rcases hf with rfl|rfl
   ·exact na_Hall_numbers
   ·exact na_Hall_rows)⟩,
  M_Hall_belts:=⟨a_2,i_2,k_2⟩,
  M_Hall_names:=⟨a_4,i_4,k_4⟩,
  M_Hall_need_belt:=⟨a_15,i_15,k_15⟩,
  M_Hall_belt_at:=⟨a_16,i_16,k_16⟩,
  M_Hall_need_work:=⟨a_31,i_31,k_31⟩,
  M_Hall_entering:=⟨a_32,i_32,k_32⟩,
  M_Hall_leaving:=⟨a_34,i_34,k_34⟩,
  M_Hall_lay:=⟨a_42,i_42,k_42⟩,
  M_Hall_belt:=⟨a_43,i_43,k_43⟩,
  M_Hall_work:=⟨a_45,i_45,k_45⟩,
  mk_Hall:=⟨mk_Hall,a_46,i_46,kc_Hall⟩,
  n_ValueError:=PySem.W.mg_none_of X G z_ValueError,
  n_all:=PySem.W.mg_none_of X G z_all,
  n_bool:=PySem.W.mg_none_of X G z_bool,
  n_enumerate:=PySem.W.mg_none_of X G z_enumerate,
  n_int:=PySem.W.mg_none_of X G z_int,
  n_isinstance:=PySem.W.mg_none_of X G z_isinstance,
  n_len:=PySem.W.mg_none_of X G z_len,
  n_list:=PySem.W.mg_none_of X G z_list,
  n_min:=PySem.W.mg_none_of X G z_min,
  n_range:=PySem.W.mg_none_of X G z_range,
  n_reversed:=PySem.W.mg_none_of X G z_reversed,
  n_set:=PySem.W.mg_none_of X G z_set,
  n_sorted:=PySem.W.mg_none_of X G z_sorted,
  n_str:=PySem.W.mg_none_of X G z_str,
  n_sum:=PySem.W.mg_none_of X G z_sum,
  X_RateError:=X_RateError,gx_RateError:=gx_RateError,mx_RateError:=PySem.W.mg_of X G gx_RateError,ex_RateError:=ex_RateError,
  X_NoName:=X_NoName,gx_NoName:=gx_NoName,mx_NoName:=PySem.W.mg_of X G gx_NoName,ex_NoName:=ex_NoName,
  X_Twice:=X_Twice,gx_Twice:=gx_Twice,mx_Twice:=PySem.W.mg_of X G gx_Twice,ex_Twice:=ex_Twice,
  X_TooMuch:=X_TooMuch,gx_TooMuch:=gx_TooMuch,mx_TooMuch:=PySem.W.mg_of X G gx_TooMuch,ex_TooMuch:=ex_TooMuch,
  X_NoWork:=X_NoWork,gx_NoWork:=gx_NoWork,mx_NoWork:=PySem.W.mg_of X G gx_NoWork,ex_NoWork:=ex_NoWork,
  X_NoBelt:=X_NoBelt,gx_NoBelt:=gx_NoBelt,mx_NoBelt:=PySem.W.mg_of X G gx_NoBelt,ex_NoBelt:=ex_NoBelt,
  X_NoRate:=X_NoRate,gx_NoRate:=gx_NoRate,mx_NoRate:=PySem.W.mg_of X G gx_NoRate,ex_NoRate:=ex_NoRate,
  X_Empty:=X_Empty,gx_Empty:=gx_Empty,mx_Empty:=PySem.W.mg_of X G gx_Empty,ex_Empty:=ex_Empty,
  X_NotBalanced:=X_NotBalanced,gx_NotBalanced:=gx_NotBalanced,mx_NotBalanced:=PySem.W.mg_of X G gx_NotBalanced,ex_NotBalanced:=ex_NotBalanced,
  X_TooLong:=X_TooLong,gx_TooLong:=gx_TooLong,mx_TooLong:=PySem.W.mg_of X G gx_TooLong,ex_TooLong:=ex_TooLong,
  X_Stuck:=X_Stuck,gx_Stuck:=gx_Stuck,mx_Stuck:=PySem.W.mg_of X G gx_Stuck,ex_Stuck:=ex_Stuck,
  em_RateError_RateError:=em_RateError_RateError,
  em_NoName_RateError:=em_NoName_RateError,
  em_Twice_RateError:=em_Twice_RateError,
  em_TooMuch_RateError:=em_TooMuch_RateError,
  em_NoWork_RateError:=em_NoWork_RateError,
  em_NoBelt_RateError:=em_NoBelt_RateError,
  em_NoRate_RateError:=em_NoRate_RateError,
  em_Empty_RateError:=em_Empty_RateError,
  em_NotBalanced_RateError:=em_NotBalanced_RateError,
  em_TooLong_RateError:=em_TooLong_RateError,
  em_Stuck_RateError:=em_Stuck_RateError,
  xc_NoName:=⟨Wp ex_NoName,x1_NoName,x2_NoName,x3_NoName,xg,xt,x4_NoName,x5_NoName⟩,
  xc_Twice:=⟨Wp ex_Twice,x1_Twice,x2_Twice,x3_Twice,xg,xt,x4_Twice,x5_Twice⟩,
  xc_TooMuch:=⟨Wp ex_TooMuch,x1_TooMuch,x2_TooMuch,x3_TooMuch,xg,xt,x4_TooMuch,x5_TooMuch⟩,
  xc_NoWork:=⟨Wp ex_NoWork,x1_NoWork,x2_NoWork,x3_NoWork,xg,xt,x4_NoWork,x5_NoWork⟩,
  xc_NoBelt:=⟨Wp ex_NoBelt,x1_NoBelt,x2_NoBelt,x3_NoBelt,xg,xt,x4_NoBelt,x5_NoBelt⟩,
  xc_NoRate:=⟨Wp ex_NoRate,x1_NoRate,x2_NoRate,x3_NoRate,xg,xt,x4_NoRate,x5_NoRate⟩,
  xc_NotBalanced:=⟨Wp ex_NotBalanced,x1_NotBalanced,x2_NotBalanced,x3_NotBalanced,xg,xt,x4_NotBalanced,x5_NotBalanced⟩,
  xc_TooLong:=⟨Wp ex_TooLong,x1_TooLong,x2_TooLong,x3_TooLong,xg,xt,x4_TooLong,x5_TooLong⟩,
  ki_NoName_ValueError:=ki_NoName_ValueError,
  ki_NoName_Stuck:=ki_NoName_Stuck,
  ki_NoName_Empty:=ki_NoName_Empty,
  ki_NoName_NotBalanced:=ki_NoName_NotBalanced,
  ki_NoName_TooLong:=ki_NoName_TooLong,
  ki_Twice_ValueError:=ki_Twice_ValueError,
  ki_Twice_Stuck:=ki_Twice_Stuck,
  ki_Twice_Empty:=ki_Twice_Empty,
  ki_Twice_NotBalanced:=ki_Twice_NotBalanced,
  ki_Twice_TooLong:=ki_Twice_TooLong,
  ki_TooMuch_ValueError:=ki_TooMuch_ValueError,
  ki_TooMuch_Stuck:=ki_TooMuch_Stuck,
  ki_TooMuch_Empty:=ki_TooMuch_Empty,
  ki_TooMuch_NotBalanced:=ki_TooMuch_NotBalanced,
  ki_TooMuch_TooLong:=ki_TooMuch_TooLong,
  ki_NoWork_ValueError:=ki_NoWork_ValueError,
  ki_NoWork_Stuck:=ki_NoWork_Stuck,
  ki_NoWork_Empty:=ki_NoWork_Empty,
  ki_NoWork_NotBalanced:=ki_NoWork_NotBalanced,
  ki_NoWork_TooLong:=ki_NoWork_TooLong,
  ki_NoBelt_ValueError:=ki_NoBelt_ValueError,
  ki_NoBelt_Stuck:=ki_NoBelt_Stuck,
  ki_NoBelt_Empty:=ki_NoBelt_Empty,
  ki_NoBelt_NotBalanced:=ki_NoBelt_NotBalanced,
  ki_NoBelt_TooLong:=ki_NoBelt_TooLong,
  ki_NoRate_ValueError:=ki_NoRate_ValueError,
  ki_NoRate_Stuck:=ki_NoRate_Stuck,
  ki_NoRate_Empty:=ki_NoRate_Empty,
  ki_NoRate_NotBalanced:=ki_NoRate_NotBalanced,
  ki_NoRate_TooLong:=ki_NoRate_TooLong,
  ki_NotBalanced_ValueError:=ki_NotBalanced_ValueError,
  ki_NotBalanced_Stuck:=ki_NotBalanced_Stuck,
  ki_NotBalanced_Empty:=ki_NotBalanced_Empty,
  ki_NotBalanced_NotBalanced:=ki_NotBalanced_NotBalanced,
  ki_NotBalanced_TooLong:=ki_NotBalanced_TooLong,
  ki_TooLong_ValueError:=ki_TooLong_ValueError,
  ki_TooLong_Stuck:=ki_TooLong_Stuck,
  ki_TooLong_Empty:=ki_TooLong_Empty,
  ki_TooLong_NotBalanced:=ki_TooLong_NotBalanced,
  ki_TooLong_TooLong:=ki_TooLong_TooLong,
  tk_MOST_TURNS:=tk_MOST_TURNS,c_MOST_TURNS:=PySem.W.mg_of X G c_MOST_TURNS,
  tk_MOST_BELTS:=tk_MOST_BELTS,c_MOST_BELTS:=PySem.W.mg_of X G c_MOST_BELTS,
  tk_MOST_LETTERS:=tk_MOST_LETTERS,c_MOST_LETTERS:=PySem.W.mg_of X G c_MOST_LETTERS,
  tk_MOST_WORKS:=tk_MOST_WORKS,c_MOST_WORKS:=PySem.W.mg_of X G c_MOST_WORKS,
  bl_law:=fun s v=> .of_eq rfl},trivial⟩
theorem walk{l:PySem.W.OpenLaw}{q:Program}{loose:List Str}{XP:(Str→Option Value)→Heap→Prop}{YP:World→Heap→Prop}{d:DefRec}{K:Params→PySem.W.Frag}(hn:l.most=some 63)(hdf:d.params.defaults=[])(hdn:d.name="law")
  (hY:∀(w:World)(h:Heap),YP w h→(K w.params).In h)
  (F:∀(w:World)(mg:Str→Option Value)(h:Heap),(K w.params).In h→h.Ns mainGlobals mg→∃T:Tp (K w.params) mg,True):
  PySem.W.WalkO q loose XP YP l.row.toRowW d [] (fun f vs=>PySem.call f vs):=by
 refine L2.ZjW (n:=63) (k:=12) (x:="_law_script") (CX:=fun w=>CXX l.prog w) (sp:=fun w=>Zjg (K w.params)) hn (by decide) hdf ⟨rfl,by decide,by decide⟩ hY (fun w mg fa h KX G hmg=>?_) (fun _ _ a ns hl _ hS=>⟨a,ns,rfl,hS,hl,fun _=>rfl⟩) ?_
 ·obtain⟨T,_⟩:=F w mg h KX G;rw[hdn,T.m_law] at hmg;cases hmg;exact⟨T.d_law,T.bl_law,fun base _ _=>ZkU T⟩
 ·intro w H s e s' z;obtain⟨_,_,_,_,_,_,_,_,_,_,_,_,z⟩:=z;exact z
end Nm
namespace PySem.W.Fast
def tw8224661171192210195:=True
def tw2125473888983742478:=True
def tw7536416753535468197:=True
def tw5932028253918658565:=True
def tw16170586728484848141:=True
def tw15030023587049319923:=True
def tw14590546864363256764:=True
def tw15067846056638508089:=True
def tw11782747884198029379:=True
def tw1928893954944508519:=True
def tw1249859475656716890:=True
def tw7883087106585844043:=True
def tw1890517845896516095:=True
def tw5507951905259625770:=True
def tw54146520264565922:=True
def tw14333605972791080978:=True
def tw15541221835084155993:=True
def tw7682593554853431576:=True
def tw16512234120218493739:=True
def tw12566209680657651567:=True
def tw3325826960773016063:=True
def tw7107718865424963148:=True
def tw6415746062040910819:=True
def tw2028845702937738851:=True
def tw6755750294171150001:=True
def tw886113439447866993:=True
def tw17348177359210515276:=True
def tw5065489420429454974:=True
def tw6482459495689705598:=True
def tw14683746553224105141:=True
def tw15423716551263521998:=True
def tw11048772930920601215:=True
def tw5626536338325102327:=True
def tw15468424950740225511:=True
def tw7357704879871812830:=True
def tw17977976360264954090:=True
def tw15068103900569971737:=True
def tw845878122099225200:=True
def tw9905287242732244625:=True
def tw17625031197732857877:=True
def tw9771432312017736242:=True
def tw17386268443400201190:=True
def tw2255721731170020861:=True
def tw4398818782746910165:=True
def tw8163316390122316664:=True
def tw10237069685801022757:=True
def tw16064805986395980884:=True
def tw1589864528284637544:=True
def tw11853971054874682133:=True
def tw10868523101453582812:=True
def tw14545556377855270799:=True
def tw6494116279083593535:=True
def tw16635319082576059566:=True
def tw11504202933829950324:=True
def tw10348468756304336891:=True
def tw9046892691406268782:=True
def tw16417253784041990768:=True
def tw2316280041710330203:=True
def tw4333697056246384512:=True
def tw11389736144371378633:=True
def tw1793699221902056016:=True
def tw976934066752799717:=True
def tw15131799395432986127:=True
def tw17970871495872242786:=True
def tw9681339867980465087:=True
def tw2614288523088631204:=True
def tw15588880026382377813:=True
def tw3105348675259390539:=True
def tw844929591116723362:=True
def tw8851152296277735399:=True
def tw5110083985252131087:=True
def tw6443033338173608117:=True
def tw4464543416502191436:=True
def tw633995897326582222:=True
def tw12845077688275422621:=True
def tw15261993439311467350:=True
def tw10122140955309058965:=True
def tw13484830374047524006:=True
def tw11894115197984825783:=True
def tw5183308703393316737:=True
def tw16010002571856426241:=True
def tw7128806531739137010:=True
def tw5513483033494051784:=True
def tw10431214763130918442:=True
def tw16421110426530626816:=True
def tw14568051553117972680:=True
def tw12684773598664695205:=True
def tw1757845509188203697:=True
def tw2439105217311961491:=True
def tw6113202067539632120:=True
def tw13698209567413799322:=True
def tw10223196476579604218:=True
def tw14983745606655497114:=True
def tw15578769501264545264:=True
def tw6792702950184237019:=True
def tw16686110881778527909:=True
def tw8790397316914683130:=True
def tw13869028233268837660:=True
def tw17928205786414338981:=True
def tw16622799039504068669:=True
def tw2365628383004220449:=True
def tw1838739907154315939:=True
def tw2909561885241580862:=True
def tw8466906293731709313:=True
def tw9704803366453337422:=True
def tw14213552192114244130:=True
def tw13576570174822153194:=True
def tw2017497701369018112:=True
def tw17067393406075293517:=True
def tw8942037229064169379:=True
def tw3328982927475405866:=True
def tw5346645524096586257:=True
def tw3615805514993162037:=True
def tw58110965430405799:=True
def tw9789713714225112410:=True
def tw16377131275510098915:=True
def tw2697879784873184075:=True
def tw505655025069884839:=True
def tw8405592101270301135:=True
def tw13644945480809887966:=True
def tw5995741619120724374:=True
def tw6390202675935733049:=True
def tw3819555903379374740:=True
def tw17557578474478651954:=True
def tw8630225400990595311:=True
def tw16692600327207149123:=True
def tw13208645836698396222:=True
def tw6456742185442800545:=True
def tw3905517816253950478:=True
def tw16924006507173522063:=True
def tw7680281852654009698:=True
def tw16204912097917048013:=True
def tw3110008478931054953:=True
def tw8966326217319204104:=True
def tw11138347538264460862:=True
def tw15610541124980892323:=True
def tw14236402973826551357:=True
def tw4383899643689418030:=True
def tw7576017175073037931:=True
def tw12237120127951677240:=True
def tw1827001620652695610:=True
def tw10329431040731514627:=True
def tw11654095887576876116:=True
def tw16938830095295105944:=True
def tw4789016579957024539:=True
def tw9111821112861562727:=True
def tw1704971975301234016:=True
def tw4196872926027911632:=True
def tw1200008839469775638:=True
def tw10695918665590711141:=True
def tw12601831143131441226:=True
def tw5409301697235144900:=True
def tw5706531769411699523:=True
def tw5011415731444650449:=True
def tw16921394295769786112:=True
def tw9345275636174683551:=True
def tw5594453593330506622:=True
def tw13381624613659057668:=True
def tw3491007398073472834:=True
def tw3244092833980563694:=True
def tw10853684439167917617:=True
def tw4175041127480336249:=True
def tw747858633030672009:=True
def tw3590025551219064658:=True
def tw13040812558555138632:=True
def tw1038794189223856618:=True
def tw8079977172419251279:=True
def tw3807454819547104800:=True
def tw14250910699419208298:=True
def tw7410974352932247635:=True
def tw1768048870740783864:=True
def tw15487851176321380549:=True
def tw7189830542439552485:=True
def tw12719580811359845955:=True
def tw4553469043907539518:=True
def tw5158442966819928115:=True
def tw2196973113499248131:=True
def tw12432477122854660595:=True
def tw16702951917279219374:=True
def tw9263222429160297890:=True
def tw8800860980413543262:=True
def tw3721573501724595201:=True
def tw17418233498208609535:=True
def tw13700328758979628449:=True
def tw12321855368099729698:=True
def tw4565693717097817699:=True
def tw15400146785211624916:=True
def tw9281960242715806637:=True
def tw6263520699219416852:=True
def tw15992040948202201201:=True
def tw9511546672075861389:=True
def tw16975605486710032827:=True
def tw14837197256051557302:=True
def tw3353742264683874827:=True
def tw17261961687113544133:=True
def tw5636683770165688013:=True
def tw11479452065840480559:=True
def tw17356357175817305359:=True
def tw1863161444407058701:=True
def tw18305255203669490744:=True
def tw2501588502015268087:=True
def tw12092627088765427357:=True
def tw12995559580601921920:=True
def tw18335746403692580626:=True
def tw1094277264073397816:=True
def tw17752670897803628150:=True
def tw4022032527601293058:=True
def tw14933626462539109757:=True
def tw2469244071620660067:=True
def tw10634693355839727948:=True
def tw18353398404103272378:=True
def tw10179114112996290240:=True
def tw8586714271682024713:=True
def tw437354161189891738:=True
def tw7847897904765467865:=True
def tw10874259089473784864:=True
def tw1245299129466357740:=True
def tw10353361526131646771:=True
def tw9449354085256184346:=True
def tw6137323839839115133:=True
def tw7594967365999713262:=True
def tw10512261609347028173:=True
def tw8307134205326120215:=True
def tw1355388985136198203:=True
def tw7387426098522647788:=True
def tw16459458755664170159:=True
def tw13162458150820416516:=True
def tw12395501554572680925:=True
def tw5235737400859908334:=True
def tw2954472221592494476:=True
def tw2793984626263392730:=True
def tw17769947071383185818:=True
def tw12641334812331650012:=True
def tw17451664832805544522:=True
def tw8609957345096143504:=True
def tw11239226622650200951:=True
def tw14009689906445003251:=True
def tw15726551002540751376:=True
def tw9572347137419838444:=True
def tw16707308284759618706:=True
def tw3426354714745305871:=True
def tw14630433671975176922:=True
def tw6847877964767236084:=True
def tw12169611102950088787:=True
def tw8533753672509284349:=True
def tw13664534519053566172:=True
def tw2010956655741345192:=True
def tw2079781712475446037:=True
def tw3933143011378289037:=True
def tw15867335998721091180:=True
def tw3092467749044555543:=True
def tw2662769889947664787:=True
def tw17709968968602829018:=True
def tw14677983253756110693:=True
def tw3542670455305220899:=True
def tw12661456407534963660:=True
def tw6193191258391749822:=True
def tw2312885604623281309:=True
def tw18384967073637538803:=True
def tw7203654775513548359:=True
def tw18426970941555096262:=True
def tw15870625393814689277:=True
def tw15268124595809551017:=True
def tw15252808459938299546:=True
def tw17597513175941861718:=True
def tw14542137038851433866:=True
def tw7011066922989914728:=True
def tw3446074875067573336:=True
def tw3124076231779135759:=True
def tw6845674120179605252:=True
def tw17160389612234158893:=True
def tw1665301154844867554:=True
def tw6606858015653796830:=True
def tw1971315524989560412:=True
def tw57486694284111781:=True
def tw7277759963018126466:=True
def tw14244139038606374314:=True
def tw14918208727921710996:=True
def tw1176588643569867497:=True
def tw16044213507715801628:=True
def tw12969756625989457307:=True
def tw13722899681190476649:=True
def tw7183204754071295541:=True
def tw238332432428963804:=True
def tw989613914478733340:=True
def tw2148237875783708268:=True
def tw3675900309159562197:=True
def tw18285203407061673935:=True
def tw13480429928617443057:=True
def tw8162308748334036972:=True
def tw17542254107712683732:=True
def tw2473356964595563249:=True
def tw12889782178708368662:=True
def tw12826152198075326459:=True
def tw5087162229190549515:=True
def tw3446414971328095430:=True
def tw6130127650702406865:=True
def tw18257214966092971756:=True
def tw14370087764653395788:=True
def tw17807291368511404949:=True
def tw16431465219510569419:=True
def tw11374863005076226949:=True
def tw7756257360101205873:=True
def tw1433727311801543249:=True
def tw11603960148810012072:=True
def tw4530344922230527611:=True
def tw4614534916977819819:=True
def tw8113104814320844502:=True
def tw5513270744670420086:=True
def tw17521128587209291808:=True
def tw3457240689525297000:=True
def tw16797690456987466313:=True
def tw2043082288205130485:=True
def tw12247655446139899903:=True
def tw6048540622045360185:=True
def tw17286673072179093747:=True
def tw16522870866832079252:=True
def tw2755103044292524187:=True
def tw17019512617268096038:=True
def tw6810924808728178862:=True
def tw1043220153264942410:=True
def tw2248113485819681571:=True
def tw1458346888912923070:=True
def tw2091764888702062467:=True
def tw9591596344083933981:=True
def tw6544637544233513522:=True
def tw13146072480025816743:=True
def tw13411336538543781996:=True
def tw2078155199691792134:=True
def tw14118961958848392558:=True
def tw16534899428905619699:=True
def tw2607999533496306167:=True
def tw5965430538760744753:=True
def tw15835194673360548688:=True
def tw15992594962162637654:=True
def tw16246885148943900373:=True
def tw2171630715409518812:=True
def tw16743610167514890914:=True
def tw14857893548005845426:=True
def tw1724519178139211819:=True
def tw1225225742083794835:=True
def tw12035381200861233429:=True
def tw16380102621019261372:=True
def tw14646163828825423919:=True
def tw3285014025475079558:=True
def tw6835513155393643218:=True
def tw10007561802404876930:=True
def tw2952872149219603984:=True
def tw16603588835456609743:=True
def tw12530818772438966712:=True
def tw6107829673500829778:=True
def tw16316753560880147758:=True
def tw11507190645033274034:=True
def tw1043722736285082605:=True
def tw15062185033353652556:=True
def tw14962995380362392542:=True
def tw14373594524129316034:=True
def tw8120704575402682560:=True
def tw15099904526944048858:=True
def tw14744366070145030228:=True
def tw9468735905609416020:=True
def tw4314006151574717166:=True
def tw14390822334857657870:=True
def tw9972391047242170564:=True
def tw6988004634055233074:=True
def tw14340025576750357806:=True
def tw12587847734139827949:=True
def tw10219211536700395179:=True
def tw4670629589032260956:=True
def tw4279533019643189846:=True
def tw15869872838119876604:=True
def tw8874305735778590948:=True
def tw16380264967855266666:=True
def tw11789952659395577658:=True
def tw12874061720695907868:=True
def tw15598824528471061292:=True
def tw6852435763384874914:=True
def tw14787701736529490431:=True
def tw12876183590511406731:=True
def tw7625882125864544073:=True
def tw13922988985074210731:=True
def tw2202693502795768917:=True
def tw8666116175493043806:=True
def tw12319162722976138978:=True
def tw9727049928506622151:=True
def tw16484671926514785539:=True
def tw17994047336069788724:=True
def tw14051738710145311381:=True
def tw12207456453945728216:=True
def tw7313819529759416286:=True
def tw3972410497607478709:=True
def tw10529811885013419409:=True
def tw6407946542800652287:=True
def tw5250495197952603695:=True
def tw6377049302669086448:=True
def tw4996138862457212451:=True
def tw12850428650533574019:=True
def tw10630856479658823638:=True
def tw9269390174887128337:=True
def tw10343732329034065529:=True
def tw17274318782433824734:=True
def tw6163210485884044434:=True
def tw18041589566212922254:=True
def tw3128765862414147692:=True
def tw9276246159269966442:=True
def tw3999511542482220454:=True
def tw8202750938159558383:=True
def tw9972955809284690411:=True
def tw16631256278750846428:=True
def tw5933018288624647509:=True
def tw11532252366340264366:=True
def tw4885895725079868215:=True
def tw16603773531204033995:=True
def tw12507208614805667050:=True
def tw15872032216943771483:=True
def tw1948550085764067633:=True
def tw17962348201680891355:=True
def tw145772150607268126:=True
def tw15400556580522406689:=True
def tw17996110265737414107:=True
def tw16255069397819536374:=True
def tw18020383767061097321:=True
def tw6859006195179688261:=True
def tw7331880905911957925:=True
def tw5863811294283637002:=True
def tw934476069978020816:=True
def tw7465365958064916214:=True
def tw3652262104231519656:=True
def tw5809600948621297403:=True
def tw8699662169589689451:=True
def tw4691804794858648436:=True
def tw5027560149393254063:=True
def tw13447628500321094417:=True
def tw13348335665232307907:=True
def tw14849004817603839765:=True
def tw17910218136661944289:=True
def tw3456054817542476502:=True
def tw2966092538880611025:=True
def tw10510213899125526395:=True
def tw15891392695172165974:=True
def tw13883457022964428836:=True
def tw8595930856672075232:=True
def tw5928062495768438032:=True
def tw16659290089929027370:=True
def tw14749835589514009359:=True
def tw7676023405695403412:=True
def tw3160090387745297466:=True
def tw17430004671170563079:=True
def tw13626868581370788628:=True
def tw8734789940801305466:=True
def tw11974501917241980067:=True
def tw3437430076137446432:=True
def tw5365972798046360871:=True
def tw3430930355843526129:=True
def tw9312643311684062355:=True
def tw13128994408016995993:=True
def tw16949362441655949347:=True
def tw4538772181900188872:=True
def tw3003487759262785443:=True
def tw18123745195942258073:=True
def tw5987837416299093020:=True
def tw4194811469149834642:=True
def tw2169939350229023584:=True
def tw2334307897092206245:=True
def tw12986134120700617901:=True
def tw15780284577988955784:=True
def tw17258300988560817097:=True
def tw9486906369413127055:=True
def tw16057533085873561369:=True
def tw13980771747134170022:=True
def tw7328131978540954043:=True
def tw14283147944633321975:=True
def tw6272019416872697738:=True
def tw9219289398937585894:=True
def tw9300821369946284007:=True
def tw11678962429476359474:=True
def tw16094910804688792740:=True
def tw4904902502355399536:=True
def tw8397647050601477488:=True
def tw3413889517567033124:=True
def tw17357957639307611789:=True
def tw6497245470147061222:=True
def tw12202399377354820569:=True
def tw7790819531972540971:=True
def tw18135039982689263071:=True
def tw16050354424292808701:=True
def tw8479178418665654375:=True
def tw7487909595742468254:=True
def tw5028899206710144475:=True
def tw15759175401468981150:=True
def tw7822274536329570821:=True
def tw7997542500280066845:=True
def tw13242714473371175863:=True
def tw2191017459585624474:=True
def tw1661524409560454734:=True
def tw15386428846627140220:=True
def tw2112571022700601392:=True
def tw2717140370672816661:=True
def tw2415893965250118992:=True
def tw17352277228382177768:=True
end PySem.W.Fast
open PySem PySem.W PyProof.Rows
set_option maxRecDepth 100000 in
set_option maxHeartbeats 0 in
theorem PySem.Challenge.cw_ratehall_k15_no_round_refused_holds : PySem.Challenge.rw_ratehall_k15_no_round_refused.Holds := by
 w_on;o_law;k_head;(case hw=>w_witness2)
 k_fill
 refine Nm.walk (l:=PySem.Challenge.rw_ratehall_k15_no_round_refused) rfl rfl rfl (fun w h Y=>PySem.W.kIn_of Y) ?F
 case F=>
  intro w mg h KX G
  refine' Nm.tp_mk KX G ?a_Course ?a_Hall ?a_0 ?l_0 ?c_0 ?k_0 ?a_1 ?l_1 ?c_1 ?k_1 ?a_2 ?i_2 ?l_2 ?c_2 ?k_2 ?a_3 ?l_3 ?c_3 ?k_3 ?a_4 ?i_4 ?l_4 ?c_4 ?k_4 ?a_5 ?l_5 ?c_5 ?k_5 ?a_6 ?l_6 ?c_6 ?k_6 ?a_7 ?l_7 ?c_7 ?k_7 ?a_8 ?l_8 ?c_8 ?k_8 ?a_9 ?l_9 ?c_9 ?k_9 ?a_10 ?l_10 ?c_10 ?k_10 ?a_11 ?l_11 ?c_11 ?k_11 ?a_12 ?l_12 ?c_12 ?k_12 ?a_13 ?l_13 ?c_13 ?k_13 ?a_14 ?l_14 ?c_14 ?k_14 ?a_15 ?i_15 ?l_15 ?c_15 ?k_15 ?a_16 ?i_16 ?l_16 ?c_16 ?k_16 ?a_17 ?l_17 ?c_17 ?k_17 ?a_18 ?l_18 ?c_18 ?k_18 ?a_19 ?l_19 ?c_19 ?k_19 ?a_20 ?l_20 ?c_20 ?k_20 ?a_21 ?l_21 ?c_21 ?k_21 ?a_22 ?l_22 ?c_22 ?k_22 ?a_23 ?l_23 ?c_23 ?k_23 ?a_24 ?l_24 ?c_24 ?k_24 ?a_25 ?l_25 ?c_25 ?k_25 ?a_26 ?l_26 ?c_26 ?k_26 ?a_27 ?i_27 ?l_27 ?c_27 ?k_27 ?a_28 ?i_28 ?l_28 ?c_28 ?k_28 ?a_29 ?i_29 ?l_29 ?c_29 ?k_29 ?a_30 ?i_30 ?l_30 ?c_30 ?k_30 ?a_31 ?i_31 ?l_31 ?c_31 ?k_31 ?a_32 ?i_32 ?l_32 ?c_32 ?k_32 ?a_33 ?l_33 ?c_33 ?k_33 ?a_34 ?i_34 ?l_34 ?c_34 ?k_34 ?a_35 ?l_35 ?c_35 ?k_35 ?a_36 ?l_36 ?c_36 ?k_36 ?a_37 ?i_37 ?l_37 ?c_37 ?k_37 ?a_38 ?l_38 ?c_38 ?k_38 ?a_39 ?l_39 ?c_39 ?k_39 ?a_40 ?l_40 ?c_40 ?k_40 ?a_41 ?l_41 ?c_41 ?k_41 ?a_42 ?i_42 ?l_42 ?c_42 ?k_42 ?a_43 ?i_43 ?l_43 ?t_Hall_belt ?c_43 ?k_43 ?a_44 ?l_44 ?c_44 ?k_44 ?a_45 ?i_45 ?l_45 ?c_45 ?k_45 ?a_46 ?i_46 ?l_46 ?c_46 ?k_46 ?a_47 ?l_47 ?c_47 ?k_47 ?pg_Course ?hd_Course ?po_Course ?sa_Course ?mk_Course ?kc_Course ?na_Course_turns ?na_Course_rows ?na_Course_takes ?na_Course_gives ?na_Course_touched ?pg_Hall ?hd_Hall ?po_Hall ?sa_Hall ?mk_Hall ?kc_Hall ?na_Hall_numbers ?na_Hall_rows ?gx_RateError ?ex_RateError ?gx_NoName ?ex_NoName ?gx_Twice ?ex_Twice ?gx_TooMuch ?ex_TooMuch ?gx_NoWork ?ex_NoWork ?gx_NoBelt ?ex_NoBelt ?gx_NoRate ?ex_NoRate ?gx_Empty ?ex_Empty ?gx_NotBalanced ?ex_NotBalanced ?gx_TooLong ?ex_TooLong ?gx_Stuck ?ex_Stuck ?em_RateError_RateError ?em_NoName_RateError ?em_Twice_RateError ?em_TooMuch_RateError ?em_NoWork_RateError ?em_NoBelt_RateError ?em_NoRate_RateError ?em_Empty_RateError ?em_NotBalanced_RateError ?em_TooLong_RateError ?em_Stuck_RateError ?xg ?xt ?x1_NoName ?x2_NoName ?x3_NoName ?x4_NoName ?x5_NoName ?x1_Twice ?x2_Twice ?x3_Twice ?x4_Twice ?x5_Twice ?x1_TooMuch ?x2_TooMuch ?x3_TooMuch ?x4_TooMuch ?x5_TooMuch ?x1_NoWork ?x2_NoWork ?x3_NoWork ?x4_NoWork ?x5_NoWork ?x1_NoBelt ?x2_NoBelt ?x3_NoBelt ?x4_NoBelt ?x5_NoBelt ?x1_NoRate ?x2_NoRate ?x3_NoRate ?x4_NoRate ?x5_NoRate ?x1_NotBalanced ?x2_NotBalanced ?x3_NotBalanced ?x4_NotBalanced ?x5_NotBalanced ?x1_TooLong ?x2_TooLong ?x3_TooLong ?x4_TooLong ?x5_TooLong ?ki_NoName_ValueError ?ki_NoName_Stuck ?ki_NoName_Empty ?ki_NoName_NotBalanced ?ki_NoName_TooLong ?ki_Twice_ValueError ?ki_Twice_Stuck ?ki_Twice_Empty ?ki_Twice_NotBalanced ?ki_Twice_TooLong ?ki_TooMuch_ValueError ?ki_TooMuch_Stuck ?ki_TooMuch_Empty ?ki_TooMuch_NotBalanced ?ki_TooMuch_TooLong ?ki_NoWork_ValueError ?ki_NoWork_Stuck ?ki_NoWork_Empty ?ki_NoWork_NotBalanced ?ki_NoWork_TooLong ?ki_NoBelt_ValueError ?ki_NoBelt_Stuck ?ki_NoBelt_Empty ?ki_NoBelt_NotBalanced ?ki_NoBelt_TooLong ?ki_NoRate_ValueError ?ki_NoRate_Stuck ?ki_NoRate_Empty ?ki_NoRate_NotBalanced ?ki_NoRate_TooLong ?ki_NotBalanced_ValueError ?ki_NotBalanced_Stuck ?ki_NotBalanced_Empty ?ki_NotBalanced_NotBalanced ?ki_NotBalanced_TooLong ?ki_TooLong_ValueError ?ki_TooLong_Stuck ?ki_TooLong_Empty ?ki_TooLong_NotBalanced ?ki_TooLong_TooLong ?c_MOST_TURNS ?c_MOST_BELTS ?c_MOST_LETTERS ?c_MOST_WORKS ?z_ValueError ?z_all ?z_bool ?z_enumerate ?z_int ?z_isinstance ?z_len ?z_list ?z_min ?z_range ?z_reversed ?z_set ?z_sorted ?z_str ?z_sum
  (case a_Course=>k_is)
  (case a_Hall=>k_is)
  (case a_0=>show _=_;k_is)
  (case l_0=>show _=_;k_is)
  (case c_0=>show _=_;k_is)
  (case k_0=>show _=_;k_is)
  (case a_1=>show _=_;k_is)
  (case l_1=>show _=_;k_is)
  (case c_1=>show _=_;k_is)
  (case k_1=>show _=_;k_is)
  (case a_2=>show _=_;k_is)
  (case i_2=>show _=_;k_is)
  (case l_2=>show _=_;k_is)
  (case c_2=>show _=_;k_is)
  (case k_2=>show _=_;k_is)
  (case a_3=>show _=_;k_is)
  (case l_3=>show _=_;k_is)
  (case c_3=>show _=_;k_is)
  (case k_3=>show _=_;k_is)
  (case a_4=>show _=_;k_is)
  (case i_4=>show _=_;k_is)
  (case l_4=>show _=_;k_is)
  (case c_4=>show _=_;k_is)
  (case k_4=>show _=_;k_is)
  (case a_5=>show _=_;k_is)
  (case l_5=>show _=_;k_is)
  (case c_5=>show _=_;k_is)
  (case k_5=>show _=_;k_is)
  (case a_6=>show _=_;k_is)
  (case l_6=>show _=_;k_is)
  (case c_6=>show _=_;k_is)
  (case k_6=>show _=_;k_is)
  (case a_7=>show _=_;k_is)
  (case l_7=>show _=_;k_is)
  (case c_7=>show _=_;k_is)
  (case k_7=>show _=_;k_is)
  (case a_8=>show _=_;k_is)
  (case l_8=>show _=_;k_is)
  (case c_8=>show _=_;k_is)
  (case k_8=>show _=_;k_is)
  (case a_9=>show _=_;k_is)
  (case l_9=>show _=_;k_is)
  (case c_9=>show _=_;k_is)
  (case k_9=>show _=_;k_is)
  (case a_10=>show _=_;k_is)
  (case l_10=>show _=_;k_is)
  (case c_10=>show _=_;k_is)
  (case k_10=>show _=_;k_is)
  (case a_11=>show _=_;k_is)
  (case l_11=>show _=_;k_is)
  (case c_11=>show _=_;k_is)
  (case k_11=>show _=_;k_is)
  (case a_12=>show _=_;k_is)
  (case l_12=>show _=_;k_is)
  (case c_12=>show _=_;k_is)
  (case k_12=>show _=_;k_is)
  (case a_13=>show _=_;k_is)
  (case l_13=>show _=_;k_is)
  (case c_13=>show _=_;k_is)
  (case k_13=>show _=_;k_is)
  (case a_14=>show _=_;k_is)
  (case l_14=>show _=_;k_is)
  (case c_14=>show _=_;k_is)
  (case k_14=>show _=_;k_is)
  (case a_15=>show _=_;k_is)
  (case i_15=>show _=_;k_is)
  (case l_15=>show _=_;k_is)
  (case c_15=>show _=_;k_is)
  (case k_15=>show _=_;k_is)
  (case a_16=>show _=_;k_is)
  (case i_16=>show _=_;k_is)
  (case l_16=>show _=_;k_is)
  (case c_16=>show _=_;k_is)
  (case k_16=>show _=_;k_is)
  (case a_17=>show _=_;k_is)
  (case l_17=>show _=_;k_is)
  (case c_17=>show _=_;k_is)
  (case k_17=>show _=_;k_is)
  (case a_18=>show _=_;k_is)
  (case l_18=>show _=_;k_is)
  (case c_18=>show _=_;k_is)
  (case k_18=>show _=_;k_is)
  (case a_19=>show _=_;k_is)
  (case l_19=>show _=_;k_is)
  (case c_19=>show _=_;k_is)
  (case k_19=>show _=_;k_is)
  (case a_20=>show _=_;k_is)
  (case l_20=>show _=_;k_is)
  (case c_20=>show _=_;k_is)
  (case k_20=>show _=_;k_is)
  (case a_21=>show _=_;k_is)
  (case l_21=>show _=_;k_is)
  (case c_21=>show _=_;k_is)
  (case k_21=>show _=_;k_is)
  (case a_22=>show _=_;k_is)
  (case l_22=>show _=_;k_is)
  (case c_22=>show _=_;k_is)
  (case k_22=>show _=_;k_is)
  (case a_23=>show _=_;k_is)
  (case l_23=>show _=_;k_is)
  (case c_23=>show _=_;k_is)
  (case k_23=>show _=_;k_is)
  (case a_24=>show _=_;k_is)
  (case l_24=>show _=_;k_is)
  (case c_24=>show _=_;k_is)
  (case k_24=>show _=_;k_is)
  (case a_25=>show _=_;k_is)
  (case l_25=>show _=_;k_is)
  (case c_25=>show _=_;k_is)
  (case k_25=>show _=_;k_is)
  (case a_26=>show _=_;k_is)
  (case l_26=>show _=_;k_is)
  (case c_26=>show _=_;k_is)
  (case k_26=>show _=_;k_is)
  (case a_27=>show _=_;k_is)
  (case i_27=>show _=_;k_is)
  (case l_27=>show _=_;k_is)
  (case c_27=>show _=_;k_is)
  (case k_27=>show _=_;k_is)
  (case a_28=>show _=_;k_is)
  (case i_28=>show _=_;k_is)
  (case l_28=>show _=_;k_is)
  (case c_28=>show _=_;k_is)
  (case k_28=>show _=_;k_is)
  (case a_29=>show _=_;k_is)
  (case i_29=>show _=_;k_is)
  (case l_29=>show _=_;k_is)
  (case c_29=>show _=_;k_is)
  (case k_29=>show _=_;k_is)
  (case a_30=>show _=_;k_is)
  (case i_30=>show _=_;k_is)
  (case l_30=>show _=_;k_is)
  (case c_30=>show _=_;k_is)
  (case k_30=>show _=_;k_is)
  (case a_31=>show _=_;k_is)
  (case i_31=>show _=_;k_is)
  (case l_31=>show _=_;k_is)
  (case c_31=>show _=_;k_is)
  (case k_31=>show _=_;k_is)
  (case a_32=>show _=_;k_is)
  (case i_32=>show _=_;k_is)
  (case l_32=>show _=_;k_is)
  (case c_32=>show _=_;k_is)
  (case k_32=>show _=_;k_is)
  (case a_33=>show _=_;k_is)
  (case l_33=>show _=_;k_is)
  (case c_33=>show _=_;k_is)
  (case k_33=>show _=_;k_is)
  (case a_34=>show _=_;k_is)
  (case i_34=>show _=_;k_is)
  (case l_34=>show _=_;k_is)
  (case c_34=>show _=_;k_is)
  (case k_34=>show _=_;k_is)
  (case a_35=>show _=_;k_is)
  (case l_35=>show _=_;k_is)
  (case c_35=>show _=_;k_is)
  (case k_35=>show _=_;k_is)
  (case a_36=>show _=_;k_is)
  (case l_36=>show _=_;k_is)
  (case c_36=>show _=_;k_is)
  (case k_36=>show _=_;k_is)
  (case a_37=>show _=_;k_is)
  (case i_37=>show _=_;k_is)
  (case l_37=>show _=_;k_is)
  (case c_37=>show _=_;k_is)
  (case k_37=>show _=_;k_is)
  (case a_38=>show _=_;k_is)
  (case l_38=>show _=_;k_is)
  (case c_38=>show _=_;k_is)
  (case k_38=>show _=_;k_is)
  (case a_39=>show _=_;k_is)
  (case l_39=>show _=_;k_is)
  (case c_39=>show _=_;k_is)
  (case k_39=>show _=_;k_is)
  (case a_40=>show _=_;k_is)
  (case l_40=>show _=_;k_is)
  (case c_40=>show _=_;k_is)
  (case k_40=>show _=_;k_is)
  (case a_41=>show _=_;k_is)
  (case l_41=>show _=_;k_is)
  (case c_41=>show _=_;k_is)
  (case k_41=>show _=_;k_is)
  (case a_42=>show _=_;k_is)
  (case i_42=>show _=_;k_is)
  (case l_42=>show _=_;k_is)
  (case c_42=>show _=_;k_is)
  (case k_42=>show _=_;k_is)
  (case a_43=>show _=_;k_is)
  (case i_43=>show _=_;k_is)
  (case l_43=>show _=_;k_is)
  (case t_Hall_belt=>k_is)
  (case c_43=>show _=_;k_is)
  (case k_43=>show _=_;k_is)
  (case a_44=>show _=_;k_is)
  (case l_44=>show _=_;k_is)
  (case c_44=>show _=_;k_is)
  (case k_44=>show _=_;k_is)
  (case a_45=>show _=_;k_is)
  (case i_45=>show _=_;k_is)
  (case l_45=>show _=_;k_is)
  (case c_45=>show _=_;k_is)
  (case k_45=>show _=_;k_is)
  (case a_46=>show _=_;k_is)
  (case i_46=>show _=_;k_is)
  (case l_46=>show _=_;k_is)
  (case c_46=>show _=_;k_is)
  (case k_46=>show _=_;k_is)
  (case a_47=>show _=_;k_is)
  (case l_47=>show _=_;k_is)
  (case c_47=>show _=_;k_is)
  (case k_47=>show _=_;k_is)
  (case pg_Course=>k_is)
  (case hd_Course=>k_is)
  (case po_Course=>k_is)
  (case sa_Course=>k_is)
  (case mk_Course=>k_is)
  (case kc_Course=>k_is)
  (case na_Course_turns=>k_is)
  (case na_Course_rows=>k_is)
  (case na_Course_takes=>k_is)
  (case na_Course_gives=>k_is)
  (case na_Course_touched=>k_is)
  (case pg_Hall=>k_is)
  (case hd_Hall=>k_is)
  (case po_Hall=>k_is)
  (case sa_Hall=>k_is)
  (case mk_Hall=>k_is)
  (case kc_Hall=>k_is)
  (case na_Hall_numbers=>k_is)
  (case na_Hall_rows=>k_is)
  (case gx_RateError=>k_is)
  (case ex_RateError=>k_exc)
  (case gx_NoName=>k_is)
  (case ex_NoName=>k_exc)
  (case gx_Twice=>k_is)
  (case ex_Twice=>k_exc)
  (case gx_TooMuch=>k_is)
  (case ex_TooMuch=>k_exc)
  (case gx_NoWork=>k_is)
  (case ex_NoWork=>k_exc)
  (case gx_NoBelt=>k_is)
  (case ex_NoBelt=>k_exc)
  (case gx_NoRate=>k_is)
  (case ex_NoRate=>k_exc)
  (case gx_Empty=>k_is)
  (case ex_Empty=>k_exc)
  (case gx_NotBalanced=>k_is)
  (case ex_NotBalanced=>k_exc)
  (case gx_TooLong=>k_is)
  (case ex_TooLong=>k_exc)
  (case gx_Stuck=>k_is)
  (case ex_Stuck=>k_exc)
  (case em_RateError_RateError=>kts_exm)
  (case em_NoName_RateError=>kts_exm)
  (case em_Twice_RateError=>kts_exm)
  (case em_TooMuch_RateError=>kts_exm)
  (case em_NoWork_RateError=>kts_exm)
  (case em_NoBelt_RateError=>kts_exm)
  (case em_NoRate_RateError=>kts_exm)
  (case em_Empty_RateError=>kts_exm)
  (case em_NotBalanced_RateError=>kts_exm)
  (case em_TooLong_RateError=>kts_exm)
  (case em_Stuck_RateError=>kts_exm)
  (case xg=>k_is)
  (case xt=>k_is)
  (case x1_NoName=>k_is)
  (case x2_NoName=>k_is)
  (case x3_NoName=>k_is)
  (case x4_NoName=>k_is)
  (case x5_NoName=>k_is)
  (case x1_Twice=>k_is)
  (case x2_Twice=>k_is)
  (case x3_Twice=>k_is)
  (case x4_Twice=>k_is)
  (case x5_Twice=>k_is)
  (case x1_TooMuch=>k_is)
  (case x2_TooMuch=>k_is)
  (case x3_TooMuch=>k_is)
  (case x4_TooMuch=>k_is)
  (case x5_TooMuch=>k_is)
  (case x1_NoWork=>k_is)
  (case x2_NoWork=>k_is)
  (case x3_NoWork=>k_is)
  (case x4_NoWork=>k_is)
  (case x5_NoWork=>k_is)
  (case x1_NoBelt=>k_is)
  (case x2_NoBelt=>k_is)
  (case x3_NoBelt=>k_is)
  (case x4_NoBelt=>k_is)
  (case x5_NoBelt=>k_is)
  (case x1_NoRate=>k_is)
  (case x2_NoRate=>k_is)
  (case x3_NoRate=>k_is)
  (case x4_NoRate=>k_is)
  (case x5_NoRate=>k_is)
  (case x1_NotBalanced=>k_is)
  (case x2_NotBalanced=>k_is)
  (case x3_NotBalanced=>k_is)
  (case x4_NotBalanced=>k_is)
  (case x5_NotBalanced=>k_is)
  (case x1_TooLong=>k_is)
  (case x2_TooLong=>k_is)
  (case x3_TooLong=>k_is)
  (case x4_TooLong=>k_is)
  (case x5_TooLong=>k_is)
  (case ki_NoName_ValueError=>kit_is)
  (case ki_NoName_Stuck=>kit_is)
  (case ki_NoName_Empty=>kit_is)
  (case ki_NoName_NotBalanced=>kit_is)
  (case ki_NoName_TooLong=>kit_is)
  (case ki_Twice_ValueError=>kit_is)
  (case ki_Twice_Stuck=>kit_is)
  (case ki_Twice_Empty=>kit_is)
  (case ki_Twice_NotBalanced=>kit_is)
  (case ki_Twice_TooLong=>kit_is)
  (case ki_TooMuch_ValueError=>kit_is)
  (case ki_TooMuch_Stuck=>kit_is)
  (case ki_TooMuch_Empty=>kit_is)
  (case ki_TooMuch_NotBalanced=>kit_is)
  (case ki_TooMuch_TooLong=>kit_is)
  (case ki_NoWork_ValueError=>kit_is)
  (case ki_NoWork_Stuck=>kit_is)
  (case ki_NoWork_Empty=>kit_is)
  (case ki_NoWork_NotBalanced=>kit_is)
  (case ki_NoWork_TooLong=>kit_is)
  (case ki_NoBelt_ValueError=>kit_is)
  (case ki_NoBelt_Stuck=>kit_is)
  (case ki_NoBelt_Empty=>kit_is)
  (case ki_NoBelt_NotBalanced=>kit_is)
  (case ki_NoBelt_TooLong=>kit_is)
  (case ki_NoRate_ValueError=>kit_is)
  (case ki_NoRate_Stuck=>kit_is)
  (case ki_NoRate_Empty=>kit_is)
  (case ki_NoRate_NotBalanced=>kit_is)
  (case ki_NoRate_TooLong=>kit_is)
  (case ki_NotBalanced_ValueError=>kit_is)
  (case ki_NotBalanced_Stuck=>kit_is)
  (case ki_NotBalanced_Empty=>kit_is)
  (case ki_NotBalanced_NotBalanced=>kit_is)
  (case ki_NotBalanced_TooLong=>kit_is)
  (case ki_TooLong_ValueError=>kit_is)
  (case ki_TooLong_Stuck=>kit_is)
  (case ki_TooLong_Empty=>kit_is)
  (case ki_TooLong_NotBalanced=>kit_is)
  (case ki_TooLong_TooLong=>kit_is)
  (case c_MOST_TURNS=>k_is)
  (case c_MOST_BELTS=>k_is)
  (case c_MOST_LETTERS=>k_is)
  (case c_MOST_WORKS=>k_is)
  (case z_ValueError=>k_is)
  (case z_all=>k_is)
  (case z_bool=>k_is)
  (case z_enumerate=>k_is)
  (case z_int=>k_is)
  (case z_isinstance=>k_is)
  (case z_len=>k_is)
  (case z_list=>k_is)
  (case z_min=>k_is)
  (case z_range=>k_is)
  (case z_reversed=>k_is)
  (case z_set=>k_is)
  (case z_sorted=>k_is)
  (case z_str=>k_is)
  (case z_sum=>k_is)
#print axioms PySem.Challenge.cw_ratehall_k15_no_round_refused_holds
