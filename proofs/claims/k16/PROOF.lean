import PyProof.Rows.All
import Wide.All
import OpenK.AllK
import Wide.FinOn
import Lean
import PyProof.EqAt
import PyProof.EqKinds
import PyProof.TupleCall
import PySem.Challenge.RW_ratehall_k16_backed_halls
set_option maxHeartbeats 4000000
set_option compiler.extract_closed false
set_option bootstrap.genMatcherCode false
set_option Elab.async false
set_option linter.all false
set_option maxRecDepth 100000
namespace L2
open PySem PySem.Spec PyProof.Rows
noncomputable abbrev Key:=Sum Int Str
noncomputable def Zce:Key→Value→Bool
 | .inl k,v=>Value.isInt k v
 | .inr x,v=>Value.isStrOf x v
noncomputable def ZmW (w:World):Key→Int
 | .inl k=>hashInt k
 | .inr x=>hashStr w x
theorem YE:∀{k:Key}{v:Value},Zce k v=true→(∃i t,k=Sum.inl i∧v=Value.int i t)∨(∃x t,k=Sum.inr x∧v=Value.str x t)
 | .inl i,v,h=>by
  obtain⟨t,e⟩:=Value.isInt_shape (k:=i) (v:=v) h;exact .inl ⟨i,t,rfl,e⟩
 | .inr x,v,h=>by
  obtain⟨t,e⟩:=Value.isStrOf_shape (x:=x) (v:=v) h;exact .inr ⟨x,t,rfl,e⟩
theorem ZhY(i:Int)(t:Tok):Zce (.inl i) (.int i t)=true:=by simp[Zce,Value.isInt]
theorem Ziz(x:Str)(t:Tok):Zce (.inr x) (.str x t)=true:=by simp[Zce,Value.isStrOf]
theorem ZkR(a b:Int):decide ((Sum.inl a:Key)=Sum.inl b)=(a==b):=by
 by_cases e:a=b
 ·subst e;simp
 ·have h:¬(Sum.inl a:Key)=Sum.inl b:=fun q=>e (Sum.inl.inj q);rw[decide_eq_false h];exact(beq_eq_false_iff_ne.mpr e).symm
theorem Zlb(a b:Str):decide ((Sum.inr a:Key)=Sum.inr b)=decide (a=b):=by
 by_cases e:a=b
 ·subst e;simp
 ·have h:¬(Sum.inr a:Key)=Sum.inr b:=fun q=>e (Sum.inr.inj q);rw[decide_eq_false h,decide_eq_false e]
theorem ZlF(a:Int)(b:Str):decide ((Sum.inl a:Key)=Sum.inr b)=false:=decide_eq_false (fun q=>nomatch q)
theorem ZkE(a:Str)(b:Int):decide ((Sum.inr a:Key)=Sum.inl b)=false:=decide_eq_false (fun q=>nomatch q)
noncomputable def ZQ (prog:Program) (w:World):PySem.KeyKind prog w Key where
 is:=Zce
 hash:=ZmW w
 inj:=fun v a b ha hb=>by
  rcases YE ha with⟨i,t,rfl,rfl⟩|⟨x,t,rfl,rfl⟩
  ·rcases YE hb with⟨j,u,rfl,e⟩|⟨y,u,rfl,e⟩
   ·injection e with e1 _;rw[e1]
   ·exact nomatch e
  ·rcases YE hb with⟨j,u,rfl,e⟩|⟨y,u,rfl,e⟩
   ·exact nomatch e
   ·injection e with e1 _;rw[e1]
 byValue:=fun k v h=>by
  rcases YE h with⟨i,t,rfl,rfl⟩|⟨x,t,rfl,rfl⟩<;>rfl
 pyHash:=fun hv h=>by
  rcases YE hv with⟨i,t,rfl,rfl⟩|⟨x,t,rfl,rfl⟩
  ·exact wpAny_pyHash_int h
  ·exact wpAny_pyHash_str h
 eqBool:=fun hu hv h=>by
  rcases YE hu with⟨i,t,rfl,rfl⟩|⟨x,t,rfl,rfl⟩
  ·rcases YE hv with⟨j,u,rfl,rfl⟩|⟨y,u,rfl,rfl⟩
   ·rw[ZkR] at h;exact wpAny_eqBool_int h
   ·rw[ZlF] at h;exact SeqAt.EqAt.int_str i t y u _ _ _ _ h
  ·rcases YE hv with⟨j,u,rfl,rfl⟩|⟨y,u,rfl,rfl⟩
   ·rw[ZkE] at h;exact SeqAt.EqAt.str_int x t j u _ _ _ _ h
   ·rw[Zlb] at h;exact wpAny_eqBool_str h
 «strs»:=fun k x t v h=>by
  rcases YE h with⟨i,u,rfl,e⟩|⟨y,u,rfl,e⟩
  ·exact nomatch e
  ·injection e with e1 _
   subst e1;cases v<;>rfl
theorem Zf4(prog:Program)(w:World)(i:Int)(t:Tok):(ZQ prog w).is (.inl i) (.int i t)=true:=ZhY i t
theorem Zge(prog:Program)(w:World)(x:Str)(t:Tok):(ZQ prog w).is (.inr x) (.str x t)=true:=Ziz x t
end L2
namespace L2
open PySem PySem.Spec PyProof.Rows
inductive V where
 |non|bl (b:Bool)|int (i:Int)|str (x:Str)|byt (b:Array UInt8)|flt (b:UInt64)|ref (a:Addr)|ty (n:String)
 deriving DecidableEq
noncomputable def ZD:V→Value→Prop
 | .non,u=>u=Value.none
 | .bl b,u=>u=Value.bool b
 | .int i,u=>∃t,u=Value.int i t
 | .str x,u=>∃t,u=Value.str x t
 | .byt b,u=>∃t,u=Value.bytes b t
 | .flt b,u=>∃t,u=Value.float b t
 | .ref a,u=>u=Value.ref a
 | .ty n,u=>u=Value.type n
noncomputable abbrev Zw:List V→List Value→Prop:=Paired ZD
theorem Zw.length{xs:List V}{us:List Value}(r:Zw xs us):xs.length=us.length:=Paired.length r
theorem Zw.get:∀{xs:List V}{us:List Value}{i:Nat}{x:V},Zw xs us→xs[i]? =some x→∃u,us[i]? =some u∧ZD x u
 |_,_,_,_,.nil,e=>by simp at e
 |_,_,0,_,.cons r _,e=>by simp at e;subst e;exact⟨_,rfl,r⟩
 |_,_,i+1,x,.cons _ t,e=>by
  obtain⟨u,h1,h2⟩:=Zw.get (i:=i) (x:=x) t (by simpa using e);exact⟨u,by simpa using h1,h2⟩
theorem Zw.set{x:V}{u:Value}(r:ZD x u):∀{xs:List V}{us:List Value}(i:Nat),Zw xs us→Zw (xs.set i x) (us.set i u)
 |_,_,_,.nil=> .nil
 |_,_,0,.cons _ t=> .cons r t
 |_,_,i+1,.cons q t=> .cons q (Zw.set r i t)
theorem Zw.append:∀{xs ys:List V}{us ws:List Value},Zw xs us→Zw ys ws→Zw (xs++ys) (us++ws)
 |_,_,_,_,.nil,s=>s
 |_,_,_,_,.cons r t,s=> .cons r (Zw.append t s)
theorem Zw.take:∀{xs:List V}{us:List Value}(n:Nat),Zw xs us→Zw (xs.take n) (us.take n)
 |_,_,0,_=> .nil
 |_,_,_+1,.nil=> .nil
 |_,_,n+1,.cons r t=> .cons r (Zw.take n t)
theorem Zw.drop:∀{xs:List V}{us:List Value}(n:Nat),Zw xs us→Zw (xs.drop n) (us.drop n)
 |_,_,0,r=>r
 |_,_,_+1,.nil=> .nil
 |_,_,n+1,.cons _ t=>Zw.drop n t
noncomputable def Ve:Option V→Option Value→Prop
 |some v,some u=>ZD v u
 |none,none=>True
 |_,_=>False
noncomputable def KV {κ:Type}:List (κ×V)→List (κ×Value)→Prop:=Paired fun(p:κ×V) (q:κ×Value)=>p.1=q.1∧ZD p.2 q.2
noncomputable def kV:Key→V
 | .inl i=> .int i
 | .inr x=> .str x
inductive HO where
 |lst (xs:List V)
 |tup (xs:List V)
 |dK (kvs:List (Key×V))|dT (kvs:List (List Key×V))
 |set (S:Int→Bool) (n:Nat)
 |ins (C dx:Addr) (fs:List (Str×V))
 |own (x:Addr)
 |xd (fs:List (Str×V))
 |met (f x:Addr)
 |rng (lo hi:Int)
 |frz (o:Obj) (u:HO)
 |tbl (ps:Array Value)
 |ext (φ:Heap→Prop)
noncomputable abbrev Hp:=Addr→Option HO
noncomputable def upd (H:Hp) (a:Addr) (o:HO):Hp:=fun b=>if b=a then some o else H b
theorem Ze{H:Hp}{a:Addr}{o:HO}:upd H a o a=some o:=by unfold upd;rw[if_pos rfl]
theorem Zh{H:Hp}{a b:Addr}{o:HO}(h:b≠a):upd H a o b=H b:=by unfold upd;rw[if_neg h]
theorem Yd{H:Hp}{a b:Addr}{o u:HO}(h:H a=some o)(h':H b=some u)(d:o≠u):a≠b:=by
 intro e;subst e;rw[h] at h';exact d (Option.some.inj h')
theorem Zy{H:Hp}{a b:Addr}{o:HO}(h:H a=some o)(h':H b=none):a≠b:=by
 intro e;subst e;rw[h] at h';cases h'
section
variable (P:Program)(w:World)
noncomputable def ZO (H:Hp) (h:Heap) (a:Addr):HO→Prop
 | .lst xs=>xs.length≤sizeLine∧∃(its:List Value)(n:Nat),Zw xs its∧h.get? a=some {cls:= .type "list",data:= .seq its.toArray n}
 | .tup xs=>xs.length≤sizeLine∧∃its:List Value,Zw xs its∧IsTup h a its.toArray
 | .dK kvs=>kvs.length≤sizeLine∧(a==sysModules)=false∧∃vs,KV kvs vs∧h.DictOf (ZQ P w) a vs
 | .dT kvs=>kvs.length≤sizeLine∧(a==sysModules)=false∧∃xs:List (List Key×Addr×Value),
   Paired (fun(p:List Key×V) (q:List Key×Addr×Value)=>p.1=q.1∧H q.2.1=some (.tup (p.1.map kV))∧ZD p.2 q.2.2) kvs xs∧
   ∃o es ep,h.get? a=some o∧o.ExactDict∧o.data= .dict es ep∧es.toList=xs.map (entryOfKey (tupleKind (ZQ P w)))∧(xs.map (·.1)).Nodup
 | .set S n=>h.SetOf (intKind P w) a S n
 | .ins C dx fs=>H dx=some (.own a)∧fs.length≤1000∧dx≠a∧h.get? a=some (PySem.W.instObj C dx)∧
   ∃mA,h.Ns1 dx mA∧(∀f,Ve (fs.lookup f) (mA f))∧PySem.Within mA (fs.map (·.1))
 | .own _=>∃o,h.get? a=some o
 | .xd fs=>∃mA,h.Ns1 a mA∧∀f,Ve (fs.lookup f) (mA f)
 | .rng lo hi=>∃t u v,h.get? a=some {cls:= .type "range",data:= .fields #[.int lo t,.int hi u,.int 1 v]}
 | .frz o u=>h.get? a=some o∧ZO H h a u
 | .tbl ps=>h.get? a=some {cls:= .none,data:= .fields ps}
 | .met f x=>h.get? a=some (PySem.W.methodObj (.ref f) (.ref x))
 | .ext φ=>φ h∧(∃o,h.get? a=some o)∧∀h1 h2:Heap,φ h1→(∀o,h1.get? a=some o→h2.get? a=some o)→φ h2
def HOk(H:Hp)(h:Heap):Prop:=∀a o,H a=some o→ZO P w H h a o
end
section
variable {P:Program}{w:World}{H H':Hp}{h h':Heap}{a:Addr}{o:HO}
theorem ZO.lt(x:ZO P w H h a o):a<h.objs.size:=by
 cases o with
 |lst xs=>obtain⟨_,_,_,_,e⟩:=x;exact Heap.lt_size e
 |tup xs=>obtain⟨_,_,_,p⟩:=x;exact p.lt
 |dK kvs=>obtain⟨_,_,_,_,o,_,_,e,_⟩:=x;exact Heap.lt_size e
 |dT kvs=>obtain⟨_,_,_,_,o,_,_,e,_⟩:=x;exact Heap.lt_size e
 |set S n=>obtain⟨o,_,_,_,e,_⟩:=x;exact Heap.lt_size e
 |ins C dx fs=>obtain⟨_,_,_,e,_⟩:=x;exact Heap.lt_size e
 |own y=>obtain⟨_,e⟩:=x;exact Heap.lt_size e
 |xd fs=>obtain⟨_,⟨_,_,_,e,_⟩,_⟩:=x;exact Heap.lt_size e
 |rng lo hi=>obtain⟨_,_,_,e⟩:=x;exact Heap.lt_size e
 |frz ob u=>obtain⟨e,_⟩:=x;exact Heap.lt_size e
 |tbl ps=>exact Heap.lt_size (show h.get? a=some _ from x)
 |met f y=>exact Heap.lt_size (show h.get? a=some _ from x)
 |ext φ=>obtain⟨_,⟨_,e⟩,_⟩:=x;exact Heap.lt_size e
theorem Paired.mapP{α β:Type}{F G:α→β→Prop}:∀{l₁:List α}{l₂:List β},Paired F l₁ l₂→(∀a b,F a b→G a b)→Paired G l₁ l₂
 |_,_,.nil,_=> .nil
 |_,_,.cons r t,f=> .cons (f _ _ r) (Paired.mapP t f)
theorem ZO.stay(x:ZO P w H h a o)(k:∀b u,(b=a∨H b=some (.own a))→h.get? b=some u→h'.get? b=some u)
  (ho:∀b,H b=some (.own a)→H' b=some (.own a)) (ht:∀b xs,H b=some (.tup xs)→H' b=some (.tup xs)):ZO P w H' h' a o:=by
 induction o with
 |lst xs=>obtain⟨z,its,n,r,e⟩:=x;exact⟨z,its,n,r,k _ _ (.inl rfl) e⟩
 |tup xs=>obtain⟨z,its,r,ob,e,c⟩:=x;exact⟨z,its,r,ob,k _ _ (.inl rfl) e,c⟩
 |dK kvs=>obtain⟨z,y,vs,r,ob,es,ep,e,c⟩:=x;exact⟨z,y,vs,r,ob,es,ep,k _ _ (.inl rfl) e,c⟩
 |dT kvs=>
  obtain⟨z,y,xs,r,ob,es,ep,e,c⟩:=x;exact⟨z,y,xs,Paired.mapP r fun p q z=>⟨z.1,ht _ _ z.2.1,z.2.2⟩,ob,es,ep,k _ _ (.inl rfl) e,c⟩
 |set S n=>obtain⟨ob,es,ep,t,e,c⟩:=x;exact⟨ob,es,ep,t,k _ _ (.inl rfl) e,c⟩
 |ins C dx fs=>
  obtain⟨d,z,ne,e,mA,⟨od,es,ep,e2,c⟩,r⟩:=x;exact⟨ho _ d,z,ne,k _ _ (.inl rfl) e,mA,⟨od,es,ep,k _ _ (.inr d) e2,c⟩,r⟩
 |own y=>obtain⟨ob,e⟩:=x;exact⟨ob,k _ _ (.inl rfl) e⟩
 |xd fs=>obtain⟨mA,⟨od,es,ep,e,c⟩,r⟩:=x;exact⟨mA,⟨od,es,ep,k _ _ (.inl rfl) e,c⟩,r⟩
 |rng lo hi=>obtain⟨t,u,v,e⟩:=x;exact⟨t,u,v,k _ _ (.inl rfl) e⟩
 |frz ob u ih=>obtain⟨e,q⟩:=x;exact⟨k _ _ (.inl rfl) e,ih q⟩
 |tbl ps=>
  have e:h.get? a=some {cls:= .none,data:= .fields ps}:=x;show h'.get? a=some {cls:= .none,data:= .fields ps};exact k a _ (.inl rfl) e
 |met f y=>
  have e:h.get? a=some (PySem.W.methodObj (.ref f) (.ref y)):=x;show h'.get? a=some (PySem.W.methodObj (.ref f) (.ref y));exact k a _ (.inl rfl) e
 |ext φ=>obtain⟨p,⟨o,e⟩,st⟩:=x;exact⟨st _ _ p fun o q=>k _ _ (.inl rfl) q,⟨o,k _ _ (.inl rfl) e⟩,st⟩
theorem HOk.lt(x:HOk P w H h)(e:H a=some o):a<h.objs.size:=(x a o e).lt
theorem HOk.fresh(x:HOk P w H h)(e:h.objs.size≤a):H a=none:=by
 cases q:H a with
 |none=>rfl
 |some u=>exact absurd (Nat.lt_of_lt_of_le (x.lt q) e) (Nat.lt_irrefl _)
theorem HOk.kept(x:HOk P w H h)(k:∀b u,h.get? b=some u→h'.get? b=some u):HOk P w H h':=fun a o e=>
 (x a o e).stay (fun b u _ q=>k b u q) (fun _ q=>q) fun _ _ q=>q
theorem HOk.laid(x:HOk P w H h)(k:∀b u,h.get? b=some u→h'.get? b=some u)(hp:h.objs.size≤a)(new:ZO P w (upd H a o) h' a o):HOk P w (upd H a o) h':=fun b u e=>by
 have hn:=x.fresh hp
 by_cases hb:b=a
 ·subst hb;rw[Ze] at e;cases e;exact new
 ·rw[Zh hb] at e;exact(x b u e).stay (fun c v _ q=>k c v q) (fun c q=>by rw[Zh (Zy q hn)];exact q) fun c xs q=>by rw[Zh (Zy q hn)];exact q
end
def Rd(H:Hp)(a:Addr)(u:HO):Prop:=H a=some u∨∃o,H a=some (.frz o u)
theorem Rd.ok{P:Program}{w:World}{H:Hp}{h:Heap}{a:Addr}{u:HO}(r:Rd H a u)(x:HOk P w H h):ZO P w H h a u:=by
 rcases r with r|⟨o,r⟩
 ·exact x a u r
 ·obtain⟨_,q⟩:=x a _ r;exact q
noncomputable def Mut:Option HO→Prop
 |some (.lst _)=>True
 |some (.dK _)=>True
 |some (.dT _)=>True
 |some (.set _ _)=>True
 |some (.ins _ _ _)=>True
 |some (.ext _)=>True
 |_=>False
section
variable {P:Program}{w:World}{H:Hp}{h h':Heap}{x e:Addr}{o':HO}
theorem HOk.write(ok:HOk P w H h)(mu:Mut (H x))(he:e=x∨H e=some (.own x))(k:∀b u,b≠e→h.get? b=some u→h'.get? b=some u)(heo:∃u,h'.get? e=some u)
  (new:ZO P w (upd H x o') h' x o'):HOk P w (upd H x o') h':=fun b u q=>by
 have nown:∀c y,H c=some (.own y)→c≠x:=fun c y r z=>by subst z;rw[r] at mu;exact mu
 have ntup:∀c xs,H c=some (.tup xs)→c≠x:=fun c xs r z=>by subst z;rw[r] at mu;exact mu
 by_cases hb:b=x
 ·subst hb;rw[Ze] at q;cases q;exact new
 ·rw[Zh hb] at q
  by_cases hbe:b=e
  ·have q':H b=some (.own x):=by
    rcases he with z|z
    ·exact absurd (hbe.trans z) hb
    ·rw[hbe];exact z
   rw[q] at q';cases q';obtain⟨v,hv⟩:=heo;exact⟨v,by rw[hbe];exact hv⟩
  ·refine(ok b u q).stay (fun c v hc r=>k c v ?_ r) (fun c r=>by rw[Zh (nown c b r)];exact r) fun c xs r=>by rw[Zh (ntup c xs r)];exact r
   rcases hc with rfl|hc
   ·exact hbe
   ·rintro rfl;rcases he with z|z
    ·exact nown c b hc z
    ·rw[hc] at z;cases z;exact hb rfl
end
structure Un(fs ex:List Addr)(H H':Hp)(h h':Heap):Prop where
 keep:∀b o,h.get? b=some o→H b=none→b∉fs→b∉ex→h'.get? b=some o
 slot:∀b o,h.get? b=some o→H b=none→b∈fs→b∉ex→∃sl,h'.get? b=some {o with slots:=sl}
 free:∀b o,h.get? b=some o→H b=none→b∉ex→H' b=none
 there:∀b o,h.get? b=some o→b∉ex→∃o',h'.get? b=some o'
 tups:∀b xs,H b=some (.tup xs)→H' b=some (.tup xs)
 frzs:∀b o u,H b=some (.frz o u)→H' b=some (.frz o u)
 tbls:∀b ps,H b=some (.tbl ps)→∃more,H' b=some (.tbl (ps++more))
section
variable {fs fs' ex ex':List Addr}{H H1 H2:Hp}{h h1 h2 h':Heap}{a x e:Addr}{o:HO}
theorem Un.any(u:Un fs ex H H1 h h1){b:Addr}{ob:Obj}(q:h.get? b=some ob)(n:H b=none)(hx:b∉ex):∃sl,h1.get? b=some {ob with slots:=sl}:=by
 by_cases hb:b∈fs
 ·exact u.slot b ob q n hb hx
 ·exact⟨ob.slots,u.keep b ob q n hb hx⟩
theorem Un.kept(k:∀b u,h.get? b=some u→h'.get? b=some u):Un fs ex H H h h':=
 ⟨fun b ob q _ _ _=>k b ob q,fun b ob q _ _ _=>⟨ob.slots,k b ob q⟩,fun _ _ _ n _=>n,fun b ob q _=>⟨ob,k b ob q⟩,fun _ _ q=>q,fun _ _ _ q=>q,fun _ ps q=>⟨#[],by rw[q];simp⟩⟩
theorem Un.refl:Un fs ex H H h h:=Un.kept fun _ _ q=>q
theorem Un.laid(k:∀b u,h.get? b=some u→h'.get? b=some u)(hp:h.objs.size≤a)(hn:H a=none):Un fs ex H (upd H a o) h h' where
 keep:=fun b u q _ _ _=>k b u q
 slot:=fun b u q _ _ _=>⟨u.slots,k b u q⟩
 free:=fun b u q n _=>by rw[Zh (Nat.ne_of_lt (Nat.lt_of_lt_of_le (Heap.lt_size q) hp))];exact n
 there:=fun b u q _=>⟨u,k b u q⟩
 tups:=fun b xs q=>by rw[Zh (Zy q hn)];exact q
 frzs:=fun b u xs q=>by rw[Zh (Zy q hn)];exact q
 tbls:=fun b ps q=>⟨#[],by rw[Zh (Zy q hn),q];simp⟩
theorem Un.write(mu:Mut (H x))(he:e=x∨H e=some (.own x))(k:∀b u,b≠e→h.get? b=some u→h'.get? b=some u)(heo:∃u,h'.get? e=some u):Un fs ex H (upd H x o) h h':=by
 have hx:∀b,H b=none→b≠x:=fun b n z=>by subst z;rw[n] at mu;exact mu
 have hb:∀b,H b=none→b≠e:=fun b n z=>by
  subst z;rcases he with r|r
  ·exact hx b n r
  ·rw[n] at r;cases r
 have hm:∀b u,H b=some u→¬Mut (some u)→b≠x:=fun b u q nm z=>by subst z;rw[q] at mu;exact nm mu
 refine⟨fun b u q n _ _=>k b u (hb b n) q,fun b u q n _ _=>⟨u.slots,k b u (hb b n) q⟩,fun b u q n _=>by rw[Zh (hx b n)];exact n,fun b u q _=>?_,
  fun b xs q=>by rw[Zh (hm b _ q fun z=>z)];exact q,fun b u xs q=>by rw[Zh (hm b _ q fun z=>z)];exact q,fun b ps q=>⟨#[],by rw[Zh (hm b _ q fun z=>z),q];simp⟩⟩
 by_cases hbe:b=e
 ·subst hbe;exact heo
 ·exact⟨u,k b u hbe q⟩
end
noncomputable def trk (h:Heap) (H:Hp):List Addr:=(List.range h.objs.size).filter fun a=>(H a).isSome
noncomputable def Zba (h:Heap) (H:Hp):Heap:=PySem.W.hideAll h (trk h H)
theorem Zil(h:Heap)(H:Hp):(Zba h H).objs.size=h.objs.size:=PySem.W.hideAll_size _ _
theorem Zji{h:Heap}{H:Hp}{b:Addr}{o:Obj}(e:h.get? b=some o)(n:H b=none):(Zba h H).get? b=some o:=
 PySem.W.hideAll_get _ e fun hm=>by
  have q:(H b).isSome=true:=(List.mem_filter.mp hm).2;rw[n] at q;simp at q
theorem Zj1{h:Heap}{H:Hp}{b:Addr}{o:Obj}(e:(Zba h H).get? b=some o):h.get? b=some o∧H b=none:=by
 have e':h.get? b=some o:=PySem.W.of_hideAll (trk h H) e;refine⟨e',?_⟩;cases q:H b with
 |none=>rfl
 |some x=>
  have hm:b∈trk h H:=List.mem_filter.mpr ⟨List.mem_range.mpr (Heap.lt_size e'),by simp[q]⟩;have z:(Zba h H).get? b=none:=PySem.W.hideAll_none (trk h H) hm;rw[z] at e;cases e
end L2
namespace L2
open PySem PySem.Spec PyProof.Rows
structure Mod(K:PySem.W.Frag)(mg:Str→Option Value)(base:Heap):Prop where
 kin:K.In base
 glob:base.Ns mainGlobals mg
 blt:∃mb,base.Ns builtinsNs mb∧∀x:Str,x≠"__name__" →mb x=bootBuiltins x
 nolimit:base.NoLimit
structure Cx where
 prog:Program
 w:World
 K:PySem.W.Frag
 mg:Str→Option Value
 base:Heap
 A:Around
 N:List Str
 s₀:Shared
 H₀:Hp
 env:Env
 outer:List Env
 stack:List Env
 ex:List Addr
 fn:Str→Bool
 calm:Bool
 pn:List (Addr×Obj)
 xe:Value→Shared→Prop
noncomputable def frs (l:List Env):List Addr:=l.filterMap (·.frame)
noncomputable abbrev Cx.fs (X:Cx):List Addr:=frs X.outer
def Vis(sc:Scope)(x:Str):Prop:=sc.names.lookup x=some .local∨sc.names.lookup x=some .cell∨sc.names.lookup x=some .free
def Loc(sc:Scope)(x:Str):Prop:=sc.names.lookup x=some .local∨sc.names.lookup x=some .cell
def ZlQ(env:Env)(h:Heap)(m:Str→Option Value)(x:Str)(u:Value):Prop:=
 (env.kindOf x=some .local∧m x=some u)∨((env.kindOf x=some .cell∨env.kindOf x=some .free)∧∃c,env.cells.lookup x=some c∧h.IsCell c (some u))
structure Cx.Ok(X:Cx):Prop where
 mod:Mod X.K X.mg X.base
 kind:X.env.scope.kind= .function
 glob:X.env.globals=mainGlobals
 blt:X.env.builtins=builtinsNs
 above:X.s₀.heap.objs.size≤X.env.locals
 inj:∀x y c,X.env.cells.lookup x=some c→X.env.cells.lookup y=some c→x=y
 has:∀x,(X.env.kindOf x=some .cell∨X.env.kindOf x=some .free)→∃c,X.env.cells.lookup x=some c
 cab:∀x c,X.fn x=true→X.env.cells.lookup x=some c→X.s₀.heap.objs.size≤c
 hd:X.calm=true→X.A.handled=none
 frames:X.A.frames=some X.stack
 stk:X.stack=X.outer∨(X.stack=X.env::X.outer∧X.env.frame=some X.env.locals)
 exf:∀b∈X.ex,b≠X.env.locals∧∀x c,X.env.cells.lookup x=some c→c≠b
 bs:∀b o,X.base.get? b=some o→X.s₀.heap.get? b=some o∧X.H₀ b=none
 bsz:X.base.objs.size≤X.s₀.heap.objs.size
 noex:∀b o,X.base.get? b=some o→b∉X.ex
 exfs:∀b∈X.ex,b∉X.fs
 funs:X.s₀.heap.FunFrames X.base X.outer
 frf:∀b∈X.fs,X.H₀ b=none
structure Inv(X:Cx)(pins:List (Addr×Obj))(σ:List (Option V))(H:Hp)(s:Shared):Prop where
 ok:X.Ok
 os:s.os=X.s₀.os
 bare:AllBare s.gens
 base:Un X.fs X.ex X.H₀ H X.s₀.heap s.heap
 loc:∃m,s.heap.Ns X.env.locals m∧∀(i:Nat)(x:Str)(v:V),X.N[i]? =some x→σ[i]? =some (some v)→Vis X.env.scope x→∃u,ZD v u∧ZlQ X.env s.heap m x u
 cell:∀x c,X.env.cells.lookup x=some c→∃v,s.heap.IsCell c v
 free:H X.env.locals=none
 freeC:∀x c,X.env.cells.lookup x=some c→H c=none
 pin:∀p∈X.pn++pins,s.heap.get? p.1=some p.2∧H p.1=none∧p.1≠X.env.locals∧p.1∉X.fs∧∀v,p.2.data≠ .cell v
 hok:HOk X.prog X.w H s.heap
 len:σ.length=X.N.length
section
variable {X:Cx}{pins:List (Addr×Obj)}{σ:List (Option V)}{H H':Hp}{s:Shared}{h':Heap}
theorem Cx.Ok.nofr(ok:X.Ok){b:Addr}{o:Obj}(e:X.base.get? b=some o):b∉X.fs:=fun hb=>by
 have:=(ok.funs.mem hb).1;rw[e] at this;cases this
theorem Inv.bs(I:Inv X pins σ H s):∀b o,X.base.get? b=some o→s.heap.get? b=some o∧H b=none:=fun b o e=>
 ⟨I.base.keep b o (I.ok.bs b o e).1 (I.ok.bs b o e).2 (I.ok.nofr e) (I.ok.noex b o e),I.base.free b o (I.ok.bs b o e).1 (I.ok.bs b o e).2 (I.ok.noex b o e)⟩
theorem Inv.bk(I:Inv X pins σ H s):∀b o,X.base.get? b=some o→s.heap.get? b=some o:=fun b o e=>(I.bs b o e).1
theorem Inv.mod(I:Inv X pins σ H s):Mod X.K X.mg X.base:=I.ok.mod
theorem Inv.kIn(I:Inv X pins σ H s):X.K.In s.heap:=I.ok.mod.kin.keeps I.bk
theorem Inv.lt(I:Inv X pins σ H s):X.env.locals<s.heap.objs.size:=let⟨_,hn,_⟩:=I.loc;hn.lt
theorem Inv.sz(I:Inv X pins σ H s):X.s₀.heap.objs.size≤s.heap.objs.size:=Nat.le_trans I.ok.above (Nat.le_of_lt I.lt)
theorem Inv.nofs(I:Inv X pins σ H s){a:Addr}(h:s.heap.objs.size≤a):a∉X.fs:=fun hb=>by
 obtain⟨_,o,ho,_⟩:=I.ok.funs.mem hb;exact absurd (Nat.lt_of_lt_of_le (Heap.lt_size ho) (Nat.le_trans I.sz h)) (Nat.lt_irrefl _)
theorem Inv.cne(I:Inv X pins σ H s):∀x c,X.env.cells.lookup x=some c→c≠X.env.locals:=fun x c e z=>by
 obtain⟨v,o,ho,hd⟩:=I.cell x c e;obtain⟨m,⟨o',es,ep,ho',hd',_⟩,_⟩:=I.loc;rw[z,ho'] at ho;cases ho;rw[hd'] at hd;cases hd
theorem Inv.funs(I:Inv X pins σ H s):s.heap.FunFrames X.base X.outer:=by
 have all:∀(l:List Env),(∀b∈frs l,b∈X.fs)→X.s₀.heap.FunFrames X.base l→s.heap.FunFrames X.base l:=by
  intro l
  induction l with
  |nil=>intro _ _;trivial
  |cons env r ih=>
   intro hs hl;obtain⟨hk,⟨L,o,hf,hn,ho,hd⟩,hr⟩:=hl;have hL:L∈X.fs:=hs L (by unfold frs;rw[List.filterMap_cons,hf];exact List.mem_cons_self);obtain⟨sl,e⟩:=I.base.slot L o ho (I.ok.frf L hL) hL fun z=>I.ok.exfs L z hL;exact⟨hk,⟨L,_,hf,hn,e,hd⟩,ih (fun b hb=>hs b (by unfold frs;rw[List.filterMap_cons,hf];exact List.mem_cons_of_mem _ hb)) hr⟩
 exact all X.outer (fun _ hb=>hb) I.ok.funs
theorem Inv.stack(I:Inv X pins σ H s):s.heap.FunFrames X.base X.stack:=by
 rcases I.ok.stk with e|⟨e,hf⟩
 ·rw[e];exact I.funs
 ·rw[e];obtain⟨m,hn,_⟩:=I.loc;refine .cons (by rw[I.ok.kind];decide) hf hn ?_ I.funs;exact Heap.get?_none_of_le (Nat.le_trans I.ok.bsz I.ok.above)
theorem Inv.stkSub(I:Inv X pins σ H s):∀b∈frs X.stack,b∈X.env.locals::X.fs:=fun b hb=>by
 rcases I.ok.stk with e|⟨e,hf⟩
 ·rw[e] at hb;exact List.mem_cons_of_mem _ hb
 ·rw[e] at hb;unfold frs at hb;rw[List.filterMap_cons,hf] at hb;exact hb
theorem Inv.stkFree(I:Inv X pins σ H s):∀b∈frs X.stack,H b=none:=fun b hb=>by
 rcases List.mem_cons.mp (I.stkSub b hb) with e|hb
 ·rw[e];exact I.free
 ·obtain⟨_,o,ho,_⟩:=I.ok.funs.mem hb;exact I.base.free b o ho (I.ok.frf b hb) fun z=>I.ok.exfs b z hb
theorem Inv.step{g':Array GenState}{t':Nat}{d':Drawn}{ch:List Addr}(I:Inv X pins σ H s)
  (hch:∀b∈ch,(b∈X.ex∨X.s₀.heap.objs.size≤b)∧b≠X.env.locals∧(∀x c,X.env.cells.lookup x=some c→c≠b)∧∀p∈X.pn++pins,p.1≠b)
  (keep:∀b o,b≠X.env.locals→b∉X.fs→b∉ch→s.heap.get? b=some o→H b=none→h'.get? b=some o)
  (slot:∀b o,b≠X.env.locals→b∈X.fs→b∉ch→s.heap.get? b=some o→H b=none→∃sl,h'.get? b=some {o with slots:=sl}) (free:∀b o,b∉ch→s.heap.get? b=some o→H b=none→H' b=none)
  (there:∀b o,b∉ch→s.heap.get? b=some o→∃o',h'.get? b=some o')
  (tups:∀b xs,H b=some (.tup xs)→H' b=some (.tup xs)) (frzs:∀b o u,H b=some (.frz o u)→H' b=some (.frz o u)) (tbls:∀b ps,H b=some (.tbl ps)→∃more,H' b=some (.tbl (ps++more)))
  (ns:∀m,s.heap.Ns X.env.locals m→h'.Ns X.env.locals m) (hok:HOk X.prog X.w H' h') (hg:AllBare g'):
  Inv X pins σ H' {s with heap:=h',gens:=g',drawn:=d',toks:=t'}:=by
 have neL:∀b o,X.s₀.heap.get? b=some o→b≠X.env.locals:=fun b o e=>Nat.ne_of_lt (Nat.lt_of_lt_of_le (Heap.lt_size e) I.ok.above);have neC:∀b o,X.s₀.heap.get? b=some o→b∉X.ex→b∉ch:=fun b o e hx hb=>by
  rcases(hch b hb).1 with z|z
  ·exact hx z
  ·exact absurd (Nat.lt_of_lt_of_le (Heap.lt_size e) z) (Nat.lt_irrefl _)
 have cellK:∀x c,X.env.cells.lookup x=some c→∀v,s.heap.IsCell c v→h'.IsCell c v:=fun x c e v ⟨o,ho,hd⟩=>by
  have nch:c∉ch:=fun z=>(hch c z).2.2.1 x c e rfl
  by_cases hc:c∈X.fs
  ·obtain⟨sl,q⟩:=slot c o (I.cne x c e) hc nch ho (I.freeC x c e);exact⟨_,q,hd⟩
  ·exact⟨o,keep c o (I.cne x c e) hc nch ho (I.freeC x c e),hd⟩
 refine⟨I.ok,I.os,hg,⟨fun b o e n hb hx=>?_,fun b o e n hb hx=>?_,fun b o e n hx=>?_,fun b o e hx=>?_,fun b xs e=>tups b xs (I.base.tups b xs e),fun b o xs e=>frzs b o xs (I.base.frzs b o xs e),fun b ps e=>?_⟩,?_,fun x c e=>?_,?_,fun x c e=>?_,fun p hp=>?_,hok,I.len⟩
 ·exact keep b o (neL b o e) hb (neC b o e hx) (I.base.keep b o e n hb hx) (I.base.free b o e n hx)
 ·obtain⟨sl,e1⟩:=I.base.slot b o e n hb hx;obtain⟨sl',e2⟩:=slot b _ (neL b o e) hb (neC b o e hx) e1 (I.base.free b o e n hx);exact⟨sl',e2⟩
 ·obtain⟨o',e1⟩:=I.base.there b o e hx;exact free b o' (neC b o e hx) e1 (I.base.free b o e n hx)
 ·obtain⟨o',e1⟩:=I.base.there b o e hx;exact there b o' (neC b o e hx) e1
 ·obtain⟨m1,e1⟩:=I.base.tbls b ps e;obtain⟨m2,e2⟩:=tbls b _ e1;exact⟨m1++m2,by rw[e2,Array.append_assoc]⟩
 ·obtain⟨m,hn,hl⟩:=I.loc;refine⟨m,ns m hn,fun i x v e1 e2 e3=>?_⟩;obtain⟨u,r,l⟩:=hl i x v e1 e2 e3;refine⟨u,r,?_⟩;rcases l with l|⟨k,c,e,z⟩
  ·exact .inl l
  ·exact .inr ⟨k,c,e,cellK x c e _ z⟩
 ·obtain⟨v,z⟩:=I.cell x c e;exact⟨v,cellK x c e v z⟩
 ·obtain⟨m,⟨o,_,_,ho,_⟩,_⟩:=I.loc;exact free _ o (fun z=>(hch _ z).2.1 rfl) ho I.free
 ·obtain⟨v,o,ho,hd⟩:=I.cell x c e;exact free c o (fun z=>(hch c z).2.2.1 x c e rfl) ho (I.freeC x c e)
 ·obtain⟨e,n,ne,nf,d⟩:=I.pin p hp;have nch:p.1∉ch:=fun z=>(hch p.1 z).2.2.2 p hp rfl;exact⟨keep p.1 p.2 ne nf nch e n,free p.1 p.2 nch e n,ne,nf,d⟩
theorem Inv.un{t':Nat}(I:Inv X pins σ H s)(u:Un X.fs [] H H' s.heap h')(hok:HOk X.prog X.w H' h'):Inv X pins σ H' {s with heap:=h',toks:=t'}:=by
 obtain⟨m,⟨o,es,ep,ho,r⟩,_⟩:=id I.loc;obtain⟨sl,hL⟩:=u.any ho I.free (by simp);exact I.step (g':=s.gens) (d':=s.drawn) (ch:=[]) (fun _ z=>nomatch z) (fun b o _ hb _ e n=>u.keep b o e n hb (by simp)) (fun b o _ hb _ e n=>u.slot b o e n hb (by simp)) (fun b o _ e n=>u.free b o e n (by simp)) (fun b o _ e=>u.there b o e (by simp)) u.tups u.frzs u.tbls (fun m' hm=>by
  obtain⟨o',es',ep',ho',r'⟩:=hm;rw[ho] at ho';cases ho';exact⟨_,es',ep',hL,r'⟩) hok I.bare
theorem Inv.call{g':Array GenState}{t':Nat}{d':Drawn}{ch:List Addr}(I:Inv X pins σ H s)(u:Un (frs X.stack) ch H H' s.heap h')(hok:HOk X.prog X.w H' h')(hg:AllBare g')
  (hch:∀b∈ch,(b∈X.ex∨X.s₀.heap.objs.size≤b)∧b≠X.env.locals∧(∀x c,X.env.cells.lookup x=some c→c≠b)∧∀p∈X.pn++pins,p.1≠b):
  Inv X pins σ H' {s with heap:=h',gens:=g',drawn:=d',toks:=t'}:=by
 obtain⟨m,⟨o,es,ep,ho,r⟩,_⟩:=id I.loc;obtain⟨sl,hL⟩:=u.any ho I.free fun z=>(hch _ z).2.1 rfl;exact I.step (ch:=ch) hch (fun b o hL hb hc e n=>u.keep b o e n (fun z=>(List.mem_cons.mp (I.stkSub b z)).elim hL hb) hc) (fun b o _ _ hc e n=>u.any e n hc) (fun b o hc e n=>u.free b o e n hc) (fun b o hc e=>u.there b o e hc) u.tups u.frzs u.tbls (fun m' hm=>by
  obtain⟨o',es',ep',ho',r'⟩:=hm;rw[ho] at ho';cases ho';exact⟨_,es',ep',hL,r'⟩) hok hg
theorem Inv.turned{t':Nat}{it:Addr}(I:Inv X pins σ H s)(k:∀b o,b≠it→s.heap.get? b=some o→h'.get? b=some o)(hn:H it=none)(hL:it≠X.env.locals)
  (h1:it∈X.ex∨X.s₀.heap.objs.size≤it) (h2:∀x c,X.env.cells.lookup x=some c→c≠it) (h3:∀p∈X.pn++pins,p.1≠it):Inv X pins σ H {s with heap:=h',toks:=t'}:=by
 have nit:∀b u,H b=some u→b≠it:=fun b u e z=>by rw[z,hn] at e;cases e
 refine I.step (g':=s.gens) (d':=s.drawn) (ch:=[it]) (fun b hb=>?_) (fun b o _ _ hc e _=>k b o (fun z=>hc (by simp[z])) e) (fun b o _ _ hc e _=>⟨o.slots,k b o (fun z=>hc (by simp[z])) e⟩) (fun _ _ _ _ n=>n)
  (fun b o hc e=>⟨o,k b o (fun z=>hc (by simp[z])) e⟩) (fun _ _ e=>e) (fun _ _ _ e=>e) (fun b ps e=>⟨#[],by rw[e];simp⟩) (fun m hm=>?_) (fun b u e=>?_) I.bare
 ·have e:b=it:=by simpa using hb
  subst e;exact⟨h1,hL,h2,h3⟩
 ·obtain⟨o,es,ep,ho,r⟩:=hm;exact⟨o,es,ep,k _ o (Ne.symm hL) ho,r⟩
 ·refine(I.hok b u e).stay (fun c v hc q=>k c v ?_ q) (fun _ q=>q) fun _ _ q=>q;rcases hc with z|z
  ·rw[z];exact nit b u e
  ·exact nit c _ z
theorem Inv.tok(I:Inv X pins σ H s)(t:Nat):Inv X pins σ H {s with toks:=t}:=I.un (h':=s.heap) (t':=t) Un.refl I.hok
theorem Inv.kept{t':Nat}(I:Inv X pins σ H s)(k:∀b u,s.heap.get? b=some u→h'.get? b=some u):Inv X pins σ H {s with heap:=h',toks:=t'}:=I.un (Un.kept k) (I.hok.kept k)
theorem Inv.laid{a:Addr}{o:HO}{t':Nat}(I:Inv X pins σ H s)(k:∀b u,s.heap.get? b=some u→h'.get? b=some u)(hp:s.heap.objs.size≤a)(new:ZO X.prog X.w (upd H a o) h' a o):
  Inv X pins σ (upd H a o) {s with heap:=h',toks:=t'}:=I.un (Un.laid k hp (I.hok.fresh hp)) (I.hok.laid k hp new)
theorem Inv.write{x e:Addr}{o:HO}{t':Nat}(I:Inv X pins σ H s)(mu:Mut (H x))(he:e=x∨H e=some (.own x))(k:∀b u,b≠e→s.heap.get? b=some u→h'.get? b=some u)(heo:∃u,h'.get? e=some u)
  (new:ZO X.prog X.w (upd H x o) h' x o):Inv X pins σ (upd H x o) {s with heap:=h',toks:=t'}:=I.un (Un.write mu he k heo) (I.hok.write mu he k heo new)
theorem Inv.pins_of{pins':List (Addr×Obj)}(I:Inv X pins σ H s)(h:∀p∈pins',s.heap.get? p.1=some p.2∧H p.1=none∧p.1≠X.env.locals∧p.1∉X.fs∧∀v,p.2.data≠ .cell v):Inv X pins' σ H s:=
 ⟨I.ok,I.os,I.bare,I.base,I.loc,I.cell,I.free,I.freeC,fun p hp=>(List.mem_append.mp hp).elim (fun z=>I.pin p (List.mem_append_left _ z)) (h p),I.hok,I.len⟩
theorem ZcK{N:List Str}(hN:N.Nodup){i j:Nat}{x:Str}(a:N[i]? =some x)(b:N[j]? =some x):i=j:=by
 obtain⟨h1,e1⟩:=List.getElem?_eq_some_iff.mp a;obtain⟨h2,e2⟩:=List.getElem?_eq_some_iff.mp b;exact(List.getElem_inj hN).mp (e1.trans e2.symm)
theorem Zbw{M:Model}{A:Around}{E:Value→Shared→Prop}{i:Nat}{x:Str}{v:V}{u:Value}{Q:Unit→Shared→Prop}(I:Inv X pins σ H s)(hN:X.N.Nodup)(hi:X.N[i]? =some x)(hx:Loc X.env.scope x)(r:ZD v u)
  (h:∀s',Inv X pins (σ.set i (some v)) H s'→(∃a,Heap.SameBut a s.heap s'.heap∧(a=X.env.locals∨X.env.cells.lookup x=some a))→Q () s') (hf:X.fn x=true∨X.env.scope.names.lookup x=some .local:=by first|exact .inl rfl|exact .inr rfl|assumption):wpAny M A (storeName X.env x u) Q E s:=by
 obtain⟨m,hn,hl⟩:=id I.loc;have hcls:(X.env.scope.kind== .class||(X.env.scope.kind== .module&&X.env.locals != X.env.globals))=false:=by rw[I.ok.kind];rfl
 have hiσ:i<σ.length:=by rw[I.len];exact(List.getElem?_eq_some_iff.mp hi).1
 have cne:=I.cne;have tracked:∀{a:Addr}{h':Heap},(∃o,s.heap.get? a=some o∧H a=none)→Heap.SameBut a s.heap h'→HOk X.prog X.w H h':=fun{a h'} ha hs b ob e=>by
  obtain⟨_,_,hfree⟩:=ha;refine(I.hok b ob e).stay (fun c w' hc q=>(hs.2 c ?_).trans q) (fun _ q=>q) fun _ _ q=>q;rintro rfl;rcases hc with rfl|hc
  ·rw[hfree] at e;cases e
  ·rw[hfree] at hc;cases hc
 rcases hx with hk|hk
 ·refine wpAny_storeName_local hk hn (fun h' hn' hs=>?_) hcls;obtain⟨oL,_,_,hoL,_⟩:=id hn;refine h _ ⟨I.ok,I.os,I.bare,⟨fun b o e n hb hx=>?_,fun b o e n hb hx=>?_,I.base.free,fun b o e hx=>?_,I.base.tups,I.base.frzs,I.base.tbls⟩,⟨_,hn',fun j y v' e1 e2 e3=>?_⟩,fun y c e=>?_,I.free,I.freeC,fun p hp=>?_,tracked ⟨oL,hoL,I.free⟩ hs,by simpa using I.len⟩ ⟨_,hs,.inl rfl⟩
  ·exact(hs.2 b (Nat.ne_of_lt (Nat.lt_of_lt_of_le (Heap.lt_size e) I.ok.above))).trans (I.base.keep b o e n hb hx)
  ·obtain⟨sl,e1⟩:=I.base.slot b o e n hb hx;exact⟨sl,(hs.2 b (Nat.ne_of_lt (Nat.lt_of_lt_of_le (Heap.lt_size e) I.ok.above))).trans e1⟩
  ·obtain⟨o',e1⟩:=I.base.there b o e hx;exact⟨o',(hs.2 b (Nat.ne_of_lt (Nat.lt_of_lt_of_le (Heap.lt_size e) I.ok.above))).trans e1⟩
  ·by_cases hj:j=i
   ·subst hj;rw[hi] at e1;cases e1;rw[List.getElem?_set_self hiσ] at e2;cases e2;exact⟨u,r,.inl ⟨hk,by simp⟩⟩
   ·rw[List.getElem?_set_ne (Ne.symm hj)] at e2;obtain⟨u',r',q⟩:=hl j y v' e1 e2 e3;refine⟨u',r',?_⟩;rcases q with⟨k,e⟩|⟨k,c,e,z⟩
    ·refine .inl ⟨k,?_⟩;have:y≠x:=fun e=>hj (ZcK hN e1 (e▸hi));simp[this,e]
    ·exact .inr ⟨k,c,e,z.sameBut hs (cne y c e)⟩
  ·obtain⟨w',z⟩:=I.cell y c e;exact⟨w',z.sameBut hs (cne y c e)⟩
  ·obtain⟨e,n,ne,nf,d⟩:=I.pin p hp;exact⟨(hs.2 p.1 ne).trans e,n,ne,nf,d⟩
 ·have hfn:X.fn x=true:=by
   rcases hf with z|z
   ·exact z
   ·rw[z] at hk;cases hk
  obtain⟨c,hc⟩:=I.ok.has x (.inl hk);obtain⟨w',z⟩:=I.cell x c hc;refine wpAny_storeName_cell I.ok.kind hk hc z (fun h' hc' hs=>?_);obtain⟨oc,hoc,hocd⟩:=id z;refine h {s with heap:=h'} ⟨I.ok,I.os,I.bare,⟨fun b o e n hb hx=>?_,fun b o e n hb hx=>?_,I.base.free,fun b o e hx=>?_,I.base.tups,I.base.frzs,I.base.tbls⟩,⟨m,hn.sameBut hs (Ne.symm (cne x c hc)),fun j y v' e1 e2 e3=>?_⟩,fun y c' e=>?_,I.free,I.freeC,fun p hp=>?_,tracked ⟨oc,hoc,I.freeC x c hc⟩ hs,by simpa using I.len⟩ ⟨c,hs,.inr hc⟩
  ·exact(hs.2 b (Nat.ne_of_lt (Nat.lt_of_lt_of_le (Heap.lt_size e) (I.ok.cab x c hfn hc)))).trans (I.base.keep b o e n hb hx)
  ·obtain⟨sl,e1⟩:=I.base.slot b o e n hb hx;exact⟨sl,(hs.2 b (Nat.ne_of_lt (Nat.lt_of_lt_of_le (Heap.lt_size e) (I.ok.cab x c hfn hc)))).trans e1⟩
  ·obtain⟨o',e1⟩:=I.base.there b o e hx;exact⟨o',(hs.2 b (Nat.ne_of_lt (Nat.lt_of_lt_of_le (Heap.lt_size e) (I.ok.cab x c hfn hc)))).trans e1⟩
  ·by_cases hj:j=i
   ·subst hj;rw[hi] at e1;cases e1;rw[List.getElem?_set_self hiσ] at e2;cases e2;exact⟨u,r,.inr ⟨.inl hk,c,hc,hc'⟩⟩
   ·rw[List.getElem?_set_ne (Ne.symm hj)] at e2;obtain⟨u',r',q⟩:=hl j y v' e1 e2 e3;refine⟨u',r',?_⟩;rcases q with q|⟨k,c',e,z'⟩
    ·exact .inl q
    ·refine .inr ⟨k,c',e,z'.sameBut hs ?_⟩;rintro rfl;exact hj (ZcK hN e1 (I.ok.inj _ _ _ e hc▸hi))
  ·by_cases hcc:c'=c
   ·subst hcc;exact⟨_,hc'⟩
   ·obtain⟨w2,z2⟩:=I.cell y c' e;exact⟨w2,z2.sameBut hs hcc⟩
  ·obtain⟨e,n,ne,nf,d⟩:=I.pin p hp;refine⟨(hs.2 p.1 ?_).trans e,n,ne,nf,d⟩;intro q;rw[q,hoc] at e;have q':oc=p.2:=Option.some.inj e;exact d w' (by rw[←q'];exact hocd)
theorem U8{M:Model}{A:Around}{E:Value→Shared→Prop}{i:Nat}{x:Str}{v:V}{u:Value}{Q:Unit→Shared→Prop}(I:Inv X pins σ H s)(hN:X.N.Nodup)(hi:X.N[i]? =some x)(hx:Loc X.env.scope x)(r:ZD v u)
  (h:∀s',Inv X pins (σ.set i (some v)) H s'→Q () s') (hf:X.fn x=true∨X.env.scope.names.lookup x=some .local:=by first|exact .inl rfl|exact .inr rfl|assumption):wpAny M A (storeName X.env x u) Q E s:=
 Zbw I hN hi hx r (fun s' I' _=>h s' I') hf
theorem Inv.call'{s':Shared}{ch:List Addr}(I:Inv X pins σ H s)(ho:s'.os=s.os)(u:Un (frs X.stack) ch H H' s.heap s'.heap)(hok:HOk X.prog X.w H' s'.heap)(hg:AllBare s'.gens)
  (hch:∀b∈ch,(b∈X.ex∨X.s₀.heap.objs.size≤b)∧b≠X.env.locals∧(∀x c,X.env.cells.lookup x=some c→c≠b)∧∀p∈X.pn++pins,p.1≠b):Inv X pins σ H' s':=by
 obtain⟨h',g',d',t',o'⟩:=s';have e:o'=s.os:=ho;subst e;exact I.call (g':=g') (t':=t') (d':=d') u hok hg hch
end
noncomputable abbrev XK:=Value→Option Addr→Hp→Prop
noncomputable abbrev St:=List (Option V)
noncomputable abbrev VK:=V→Hp→Prop
noncomputable abbrev TE:=St→Hp→VK→Prop
noncomputable abbrev TT:=St→Hp→(Bool→Hp→Prop)→Prop
noncomputable abbrev TA:=St→Hp→(List V→Hp→Prop)→Prop
structure Vf where
 nx:St→Hp→Prop
 rt:VK
 bk:St→Hp→Prop:=fun _ _=>False
 ct:St→Hp→Prop:=fun _ _=>False
noncomputable abbrev TS:=Vf→St→Hp→Prop
def EP(X:Cx)(pins:List (Addr×Obj))(σ:St)(Q:VK)(u:Value)(s':Shared):Prop:=∃v H',Inv X pins σ H' s'∧ZD v u∧Q v H'
def TP(X:Cx)(pins:List (Addr×Obj))(σ:St)(Q:Bool→Hp→Prop)(b:Bool)(s':Shared):Prop:=∃H',Inv X pins σ H' s'∧Q b H'
def AP(X:Cx)(pins:List (Addr×Obj))(σ:St)(Q:List V→Hp→Prop)(us:List Value)(s':Shared):Prop:=∃vs H',Inv X pins σ H' s'∧Zw vs us∧Q vs H'
def SP(X:Cx)(pins:List (Addr×Obj))(D:Vf)(f:Flow)(s':Shared):Prop:=
 match f with
 | .next=>∃σ' H',Inv X pins σ' H' s'∧D.nx σ' H'
 | .brk=>∃σ' H',Inv X pins σ' H' s'∧D.bk σ' H'
 | .cont=>∃σ' H',Inv X pins σ' H' s'∧D.ct σ' H'
 | .ret u=>∃v σ' H',Inv X pins σ' H' s'∧ZD v u∧D.rt v H'
def PE(X:Cx)(e:Expr)(t:TE):Prop:=
 ∀(pins:List (Addr×Obj))(s:Shared)(σ:St)(H:Hp)(Q:VK),Inv X pins σ H s→t σ H Q→wpAny (model X.prog X.w) X.A (eval e X.env) (EP X pins σ Q) X.xe s
def PT(X:Cx)(e:Expr)(t:TT):Prop:=
 ∀(pins:List (Addr×Obj))(s:Shared)(σ:St)(H:Hp)(Q:Bool→Hp→Prop),Inv X pins σ H s→t σ H Q→wpAny (model X.prog X.w) X.A (isTrue e X.env (eval e X.env)) (TP X pins σ Q) X.xe s
def PW(X:Cx)(e:Expr)(t:TT):Prop:=
 ∀(whole:Sem Value)(pins:List (Addr×Obj))(s:Shared)(σ:St)(H:Hp)(Q:Bool→Hp→Prop),Inv X pins σ H s→t σ H Q→wpAny (model X.prog X.w) X.A (isTrue e X.env whole) (TP X pins σ Q) X.xe s
theorem PW.pt{X:Cx}{e:Expr}{t:TT}(h:PW X e t):PT X e t:=h _
def PA(X:Cx)(es:List Expr)(t:TA):Prop:=
 ∀(pos:Pos)(pins:List (Addr×Obj))(s:Shared)(σ:St)(H:Hp)(Q:List V→Hp→Prop),Inv X pins σ H s→t σ H Q→wpAny (model X.prog X.w) X.A (spliced (backTo pos (starEach es X.env))) (AP X pins σ Q) X.xe s
def PS(X:Cx)(st:Stmt)(t:TS):Prop:=
 ∀(pins:List (Addr×Obj))(s:Shared)(σ:St)(H:Hp)(D:Vf),Inv X pins σ H s→t D σ H→wpAny (model X.prog X.w) X.A (exec st X.env) (SP X pins D) X.xe s
def PSs(X:Cx)(st:List Stmt)(t:TS):Prop:=
 ∀(pins:List (Addr×Obj))(s:Shared)(σ:St)(H:Hp)(D:Vf),Inv X pins σ H s→t D σ H→wpAny (model X.prog X.w) X.A (execs st X.env) (SP X pins D) X.xe s
theorem thn{α:Type}{t:Sem α}{Q Q':α→Shared→Prop}{M:Model}{A:Around}{E:Value→Shared→Prop}{s:Shared}(h:wpAny M A t Q E s)(hQ:∀a s,Q a s→Q' a s):wpAny M A t Q' E s:=wpAny_mono h hQ fun _ _ x=>x
end L2
namespace L2
open PySem PySem.Spec PyProof.Rows
section
variable {X:Cx}
theorem bin{a b:Expr}{ta tb:TE}(ha:PE X a ta)(hb:PE X b tb){pins:List (Addr×Obj)}{s:Shared}{σ:St}{H:Hp}{R:V→V→Hp→Prop}(I:Inv X pins σ H s)(h:ta σ H fun x H1=>tb σ H1 fun y H2=>R x y H2)
  {α:Type} {Q:α→Shared→Prop} {f:Value→Value→Sem α}
  (hf:∀v u s2 x y H2,Inv X pins σ H2 s2→ZD x v→ZD y u→R x y H2→wpAny (model X.prog X.w) X.A (f v u) Q X.xe s2):
  wpAny (model X.prog X.w) X.A (eval a X.env) (fun v s₁=>wpAny (model X.prog X.w) X.A (eval b X.env) (fun u s₂=>wpAny (model X.prog X.w) X.A (f v u) Q X.xe s₂) X.xe s₁) X.xe s:=by
 refine thn (ha pins s σ H _ I h) fun v s1 ⟨x,H1,I1,r1,q1⟩=>?_;refine thn (hb pins s1 σ H1 _ I1 q1) fun u s2 ⟨y,H2,I2,r2,q2⟩=>?_;exact hf v u s2 x y H2 I2 r1 r2 q2
noncomputable def Zhh (i:Nat):TE:=fun σ H Q=>∃v,σ[i]? =some (some v)∧Q v H
noncomputable def tC (v:V):TE:=fun _ H Q=>Q v H
theorem Zlv{i:Nat}{x:Str}{pos:Pos}(hN:X.N[i]? =some x)(hv:Vis X.env.scope x)(hd:(x==("__debug__" :Str))=false:=by decide)(hcd:(x==("__classdict__" :Str))=false:=by decide):PE X (.Name x pos) (Zhh i):=by
 intro pins s σ H Q I h;obtain⟨v,e,h⟩:=h;obtain⟨m,hn,hl⟩:=I.loc;obtain⟨u,r,l⟩:=hl i x v hN e hv;have fin:EP X pins σ Q u s:=⟨v,H,I,r,h⟩;rcases l with⟨hk,hm⟩|⟨hk,c,hc,hcell⟩
 ·exact wpAny_Name (wpAny_loadName_local I.ok.kind hk hn hm fin) hd
 ·rcases hk with hk|hk
  ·exact wpAny_Name (wpAny_loadName_cell I.ok.kind hk hc hcell fin) hd
  ·exact wpAny_Name (wpAny_loadName_free I.ok.kind hk hc hcell fin hcd) hd
theorem Zc{i j pos}:PE X (.Constant (.int i) j pos) (tC (.int i)):=fun _ _ _ H _ I h=>wpAny_Constant_int ⟨.int i,H,I.tok _,⟨_,rfl⟩,h⟩
theorem WB{b j pos}:PE X (.Constant (.bool b) j pos) (tC (.bl b)):=fun _ _ _ H _ I h=>Constant_bool ⟨.bl b,H,I,rfl,h⟩
theorem Zbi{j pos}:PE X (.Constant .none j pos) (tC .non):=fun _ _ _ H _ I h=>Constant_none ⟨.non,H,I,rfl,h⟩
theorem Ys{x j pos}:PE X (.Constant (.str x) j pos) (tC (.str x)):=fun _ _ _ H _ I h=>Calls.Constant_str ⟨.str x,H,I.tok _,⟨_,rfl⟩,h⟩
def Gl(X:Cx)(x:Str):Prop:=X.env.kindOf x=some .globalImplicit
theorem V7{E:Value→Shared→Prop}{pins:List (Addr×Obj)}{s:Shared}{σ:St}{H:Hp}{x:Str}{u:Value}{pos:Pos}{Q:Value→Shared→Prop}(I:Inv X pins σ H s)(hg:Gl X x)(hm:X.mg x=some u)(h:Q u s)
  (hd:(x==("__debug__" :Str))=false:=by decide):wpAny (model X.prog X.w) X.A (eval (.Name x pos) X.env) Q E s:=
 Calls.Name_function_global I.ok.kind hg (Calls.loadGlobal_global (by rw[I.ok.glob];exact I.mod.glob.keeps I.bk) hm h) hd
theorem Zac{E:Value→Shared→Prop}{pins:List (Addr×Obj)}{s:Shared}{σ:St}{H:Hp}{x:Str}{u:Value}{pos:Pos}{Q:Value→Shared→Prop}(I:Inv X pins σ H s)(hg:Gl X x)(hm:X.mg x=none)(hv:bootBuiltins x=some u)(h:Q u s)
  (hn:x≠"__name__" :=by decide) (hd:(x==("__debug__" :Str))=false:=by decide):wpAny (model X.prog X.w) X.A (eval (.Name x pos) X.env) Q E s:=by
 obtain⟨mb,h1,h2⟩:=I.mod.blt;exact Calls.Name_function_global I.ok.kind hg (Calls.loadGlobal_builtin (by rw[I.ok.glob];exact I.mod.glob.keeps I.bk) hm (by rw[I.ok.blt];exact h1.keeps I.bk) ((h2 x hn).trans hv) h) hd
theorem V1{x:Str}{v:V}{u:Value}{pos:Pos}(hg:Gl X x)(hm:X.mg x=some u)(r:ZD v u)(hd:(x==("__debug__" :Str))=false:=by decide):PE X (.Name x pos) (tC v):=
 fun _ _ _ H _ I h=>V7 I hg hm ⟨v,H,I,r,h⟩ hd
theorem UW{x:Str}{v:V}{u:Value}{pos:Pos}(hg:Gl X x)(hm:X.mg x=none)(hv:bootBuiltins x=some u)(r:ZD v u)(hn:x≠"__name__" :=by decide)(hd:(x==("__debug__" :Str))=false:=by decide):PE X (.Name x pos) (tC v):=
 fun _ _ _ H _ I h=>Zac I hg hm hv ⟨v,H,I,r,h⟩ hn hd
variable {a b:Expr}{ta tb:TE}{pos:Pos}
variable {tA tB':TT}{rest:List Expr}
noncomputable def Zlj (t u:TT):TT:=fun σ H Q=>t σ H fun c H1=>if c=true then u σ H1 Q else Q false H1
noncomputable def tOr (t u:TT):TT:=fun σ H Q=>t σ H fun c H1=>if c=true then Q true H1 else u σ H1 Q
noncomputable def ZlO (t:TT):TT:=fun σ H Q=>t σ H fun c H1=>Q (!c) H1
theorem ZaJ(ha:PT X a tA):PW X (.BoolOp .And [a] pos) tA:=by
 intro wh pins s σ H Q I h;refine isTrue_and (thn (ha pins s σ H Q I h) fun c s1 e=>?_);cases c with
 |true=>exact isTrue_and_nil e
 |false=>exact e
theorem VL(ha:PT X a tA):PW X (.BoolOp .Or [a] pos) tA:=by
 intro wh pins s σ H Q I h;refine isTrue_or (thn (ha pins s σ H Q I h) fun c s1 e=>?_);cases c with
 |false=>exact isTrue_or_nil e
 |true=>exact e
theorem ZbK(ha:PT X a tA)(hb:PW X (.BoolOp .And (b::rest) pos) tB'):PW X (.BoolOp .And (a::b::rest) pos) (Zlj tA tB'):=by
 intro wh pins s σ H Q I h;refine isTrue_and (thn (ha pins s σ H _ I h) fun c s1 ⟨H1,I1,q1⟩=>?_);cases c with
 |true=>exact hb wh pins s1 σ H1 Q I1 q1
 |false=>exact⟨H1,I1,q1⟩
theorem Vp(ha:PT X a tA)(hb:PW X (.BoolOp .Or (b::rest) pos) tB'):PW X (.BoolOp .Or (a::b::rest) pos) (tOr tA tB'):=by
 intro wh pins s σ H Q I h;refine isTrue_or (thn (ha pins s σ H _ I h) fun c s1 ⟨H1,I1,q1⟩=>?_);cases c with
 |true=>exact⟨H1,I1,q1⟩
 |false=>exact hb wh pins s1 σ H1 Q I1 q1
theorem WG(ha:PT X a tA):PT X (.UnaryOp .Not a pos) (ZlO tA):=by
 intro pins s σ H Q I h;exact isTrue_not (ha pins s σ H (fun c H1=>Q (!c) H1) I h)
noncomputable def ZjS (ta tb:TE):TE:=fun σ H Q=>ta σ H fun x H1=>∃c,x= .bl c∧if c=true then tb σ H1 Q else Q (.bl false) H1
noncomputable def ZjR (ta:TE):TE:=fun σ H Q=>ta σ H fun x H1=>∃c,x= .bl c∧Q (.bl (!c)) H1
theorem Zbl{op}{t:TE}(h:PE X a t):PE X (.BoolOp op [a] pos) t:=fun pins s σ H Q I hw=>BoolOp_one (h pins s σ H Q I hw)
theorem ZaE(ha:PE X a ta)(hb:PE X (.BoolOp .And (b::rest) pos) tb):PE X (.BoolOp .And (a::b::rest) pos) (ZjS ta tb):=by
 intro pins s σ H Q I h;refine BoolOp_and (thn (ha pins s σ H _ I h) fun v s1 ⟨x,H1,I1,r1,q1⟩=>?_);obtain⟨c,rfl,q1⟩:=q1;cases r1;refine wpAny_truthy_bool ?_;cases c with
 |true=>exact hb pins s1 σ H1 Q I1 q1
 |false=>exact⟨.bl false,H1,I1,rfl,q1⟩
theorem ZfA(ha:PE X a ta):PE X (.UnaryOp .Not a pos) (ZjR ta):=by
 intro pins s σ H Q I h;refine UnaryOp_ (thn (ha pins s σ H _ I h) fun v s1 ⟨x,H1,I1,r1,q1⟩=>?_);obtain⟨c,rfl,q1⟩:=q1;cases r1;exact not_of (wpAny_truthy_bool ⟨.bl (!c),H1,I1,rfl,q1⟩)
noncomputable def tIf (t:TT) (ta tb:TE):TE:=fun σ H Q=>t σ H fun c H1=>if c=true then ta σ H1 Q else tb σ H1 Q
theorem Zjy{c:Expr}(hc:PT X c tA)(ha:PE X a ta)(hb:PE X b tb):PE X (.IfExp c a b pos) (tIf tA ta tb):=by
 intro pins s σ H Q I h;refine wpAny_IfExp (thn (hc pins s σ H _ I h) fun d s1 ⟨H1,I1,q1⟩=>?_);cases d with
 |true=>exact ha pins s1 σ H1 Q I1 q1
 |false=>exact hb pins s1 σ H1 Q I1 q1
end
end L2
namespace L2
open PySem PySem.Spec PyProof.Rows
def SqL(K:PySem.W.Frag)(H:Hp)(a:Addr)(xs:List V):Prop:=
 Rd H a (.lst xs)∨
  ∃(o:Obj)(its:Array Value)(n:Nat),K.lookup a=some o∧o.cls= .type "list" ∧o.dict=none∧o.data= .seq its n∧its.size≤sizeLine∧Zw xs its.toList
def SqT(K:PySem.W.Frag)(H:Hp)(a:Addr)(xs:List V):Prop:=
 Rd H a (.tup xs)∨
  ∃(o:Obj)(its:Array Value)(n:Nat),K.lookup a=some o∧o.cls= .type "tuple" ∧o.data= .seq its n∧its.size≤sizeLine∧Zw xs its.toList
noncomputable def ZmY:Value→Option V
 | .none=>some .non
 | .bool b=>some (.bl b)
 | .int i _=>some (.int i)
 | .str x _=>some (.str x)
 | .bytes b _=>some (.byt b)
 | .float b _=>some (.flt b)
 | .ref a=>some (.ref a)
 | .type n=>some (.ty n)
 |_=>none
theorem ZD.abs{x:V}{u:Value}(r:ZD x u):ZmY u=some x:=by
 cases x with
 |non=>cases r;rfl
 |bl _=>cases r;rfl
 |int _=>obtain⟨t,rfl⟩:=r;rfl
 |str _=>obtain⟨t,rfl⟩:=r;rfl
 |byt _=>obtain⟨t,rfl⟩:=r;rfl
 |flt _=>obtain⟨t,rfl⟩:=r;rfl
 |ref _=>cases r;rfl
 |ty _=>cases r;rfl
theorem ZD.inj{x y:V}{u:Value}(r:ZD x u)(q:ZD y u):x=y:=Option.some.inj (r.abs.symm.trans q.abs)
theorem Zw.inj:∀{xs ys:List V}{us:List Value},Zw xs us→Zw ys us→xs=ys
 |_,_,_,.nil,.nil=>rfl
 |_,_,_,.cons r t,.cons r' t'=>by rw[r.inj r',Zw.inj t t']
section
variable {X:Cx}{pins:List (Addr×Obj)}{σ:St}{H:Hp}{s:Shared}{a:Addr}{xs ys:List V}
theorem SqL.of{K:PySem.W.Frag}(h:H a=some (.lst xs)):SqL K H a xs:= .inl (.inl h)
theorem SqT.of{K:PySem.W.Frag}(h:H a=some (.tup xs)):SqT K H a xs:= .inl (.inl h)
theorem Inv.list(I:Inv X pins σ H s)(h:SqL X.K H a xs):∃its:List Value,Zw xs its∧PlainL s.heap a its.toArray∧xs.length≤sizeLine:=by
 rcases h with h|⟨o,its,n,hk,hc,hd,hs,hz,r⟩
 ·obtain⟨z,its,n,r,e⟩:=h.ok I.hok;exact⟨its,r,⟨_,n,e,rfl,rfl,rfl⟩,z⟩
 ·refine⟨its.toList,r,⟨o,n,I.kIn a o hk,hc,hd,by simpa using hs⟩,?_⟩;have e:=r.length;simp only[Array.length_toList] at e;omega
theorem Inv.tuple(I:Inv X pins σ H s)(h:SqT X.K H a xs):∃its:List Value,Zw xs its∧IsTup s.heap a its.toArray∧xs.length≤sizeLine:=by
 rcases h with h|⟨o,its,n,hk,hc,hs,hz,r⟩
 ·obtain⟨z,its,r,p⟩:=h.ok I.hok;exact⟨its,r,p,z⟩
 ·refine⟨its.toList,r,⟨o,I.kIn a o hk,hc,n,by simpa using hs⟩,?_⟩;have e:=r.length;simp only[Array.length_toList] at e;omega
theorem Inv.list_inj(I:Inv X pins σ H s)(h:SqL X.K H a xs)(h':SqL X.K H a ys):xs=ys:=by
 obtain⟨its,r,⟨o,n,e,_,_,d⟩,_⟩:=I.list h;obtain⟨its',r',⟨o',n',e',_,_,d'⟩,_⟩:=I.list h';rw[e] at e';cases e';rw[d] at d'
 injection d' with d1 _
 have:its=its':=by simpa using congrArg Array.toList d1
 subst this;exact r.inj r'
end
section
variable {X:Cx}{pins:List (Addr×Obj)}{σ:St}{H:Hp}{s:Shared}{E:Value→Shared→Prop}
end
section
variable {X:Cx}{st:Stmt}{rest:List Stmt}{t u:TS}{e:Expr}{te:TE}{pos:Pos}
noncomputable def tNext:TS:=fun D σ H=>D.nx σ H
noncomputable def ZlC (t u:TS):TS:=fun D σ H=>t {D with nx:=u D} σ H
theorem ZI:PSs X [] tNext:=fun _ _ σ H _ I h=>wpAny_execs_nil ⟨σ,H,I,h⟩
theorem Zf(h1:PS X st t)(h2:PSs X rest u):PSs X (st::rest) (ZlC t u):=by
 intro pins s σ H D I h;refine wpAny_execs_cons (thn (h1 pins s σ H {D with nx:=u D} I h) fun f s1 q=>?_);cases f with
 |next=>
  obtain⟨σ',H',I',q⟩:=q;exact h2 pins s1 σ' H' D I' q
 |ret v=>exact q
 |brk=>exact q
 |cont=>exact q
theorem Zg(h1:PS X st t):PSs X [st] t:=by
 intro pins s σ H D I h;refine wpAny_execs_cons (thn (h1 pins s σ H D I h) fun f s1 q=>?_);cases f with
 |next=>exact wpAny_execs_nil q
 |ret v=>exact q
 |brk=>exact q
 |cont=>exact q
theorem Inv.quiet{pins:List (Addr×Obj)}{σ:St}{H:Hp}{s:Shared}(I:Inv X pins σ H s):interactive X.env=false:=by simp[interactive,I.ok.kind]
noncomputable def ZjH (te:TE):TS:=fun D σ H=>te σ H fun _ H1=>D.nx σ H1
theorem ZL(he:PE X e te)(hs:swapsWith e none pos.line X.env=pure false:=by rfl):PS X (.Expr e pos) (ZjH te):=by
 intro pins s σ H D I h;exact wpAny_Expr_any (thn (he pins s σ H _ I h) fun v s1 ⟨x,H1,I1,r1,q1⟩=>⟨σ,H1,I1,q1⟩) I.quiet hs
noncomputable def Zlk (te:TE):TS:=fun D σ H=>te σ H D.rt
theorem Zt(he:PE X e te):PS X (.Return (some e) pos) (Zlk te):=by
 intro pins s σ H D I h;exact wpAny_Return_some (thn (he pins s σ H _ I h) fun v s1 ⟨x,H1,I1,r1,q1⟩=>⟨x,σ,H1,I1,r1,q1⟩)
noncomputable def Zlf (c:TT) (t u:TS):TS:=fun D σ H=>c σ H fun b H1=>if b=true then t D σ H1 else u D σ H1
theorem ZX{c:Expr}{a b:List Stmt}{tc:TT}(hc:PT X c tc)(ha:PSs X a t)(hb:PSs X b u):PS X (.If c a b pos) (Zlf tc t u):=by
 intro pins s σ H D I h;refine wpAny_If (thn (hc pins s σ H _ I h) fun d s1 ⟨H1,I1,q1⟩=>?_);cases d with
 |true=>exact ha pins s1 σ H1 D I1 q1
 |false=>exact hb pins s1 σ H1 D I1 q1
end
noncomputable abbrev TG:=V→St→Hp→(St→Hp→Prop)→Prop
noncomputable abbrev TGs:=List V→St→Hp→(St→Hp→Prop)→Prop
def PG(X:Cx)(target:Expr)(t:TG):Prop:=
 ∀(pins:List (Addr×Obj))(s:Shared)(σ:St)(H:Hp)(v:V)(u:Value)(Q:St→Hp→Prop),Inv X pins σ H s→ZD v u→t v σ H Q→
  wpAny (model X.prog X.w) X.A (assign target X.env u) (fun _ s'=>∃σ' H',Inv X pins σ' H' s'∧Q σ' H') X.xe s
def PGs(X:Cx)(ts:List Expr)(t:TGs):Prop:=
 ∀(pins:List (Addr×Obj))(s:Shared)(σ:St)(H:Hp)(vs:List V)(us:List Value)(Q:St→Hp→Prop),Inv X pins σ H s→Zw vs us→t vs σ H Q→
  wpAny (model X.prog X.w) X.A (assignInOrder ((assignEach ts X.env).map (·.2)) us) (fun _ s'=>∃σ' H',Inv X pins σ' H' s'∧Q σ' H') X.xe s
noncomputable abbrev ZgN:=V→V→V→Hp→(Hp→Prop)→Prop
def Zjg(X:Cx)(t:ZgN):Prop:=
 ∀(pins:List (Addr×Obj))(s:Shared)(σ:St)(H:Hp)(o i v:V)(ov iv u:Value)(Q:Hp→Prop),Inv X pins σ H s→ZD o ov→ZD i iv→ZD v u→t o i v H Q→
  wpAny (model X.prog X.w) X.A (setItem ov iv u) (fun _ s'=>∃H',Inv X pins σ H' s'∧Q H') X.xe s
noncomputable abbrev TIp:=V→V→Hp→VK→Prop
def PIp(X:Cx)(op:Operator)(t:TIp):Prop:=
 ∀(pins:List (Addr×Obj))(s:Shared)(σ:St)(H:Hp)(x y:V)(v u:Value)(Q:VK),Inv X pins σ H s→ZD x v→ZD y u→t x y H Q→
  wpAny (model X.prog X.w) X.A (inplaceOp op v u) (EP X pins σ Q) X.xe s
section
variable {X:Cx}{pos:Pos}
noncomputable def UI (i:Nat):TG:=fun v σ H Q=>Q (σ.set i (some v)) H
theorem Zr{i:Nat}{x:Str}(hN:X.N.Nodup)(hi:X.N[i]? =some x)(hx:Loc X.env.scope x)(hf:X.fn x=true∨X.env.scope.names.lookup x=some .local:=by first|exact .inl rfl|exact .inr rfl|assumption):PG X (.Name x pos) (UI i):=by
 intro pins s σ H v u Q I r h;exact wpAny_assign_Name (U8 I hN hi hx r (fun s' I'=>⟨_,H,I',h⟩) hf)
noncomputable def gNil:TGs:=fun vs σ H Q=>vs=[]∧Q σ H
noncomputable def ZjV (t:TG) (u:TGs):TGs:=fun vs σ H Q=>∃v r,vs=v::r∧t v σ H fun σ' H'=>u r σ' H' Q
theorem Y8:PGs X [] gNil:=by
 intro pins s σ H vs us Q I r h;obtain⟨e,h⟩:=h;subst e;cases r;exact assignInOrder_nil ⟨σ,H,I,h⟩
theorem ZP{e:Expr}{es:List Expr}{t:TG}{u:TGs}(h1:PG X e t)(h2:PGs X es u)
  (hs:(assignEach (e::es) X.env).map (·.2)=assign e X.env::(assignEach es X.env).map (·.2):=by rfl):PGs X (e::es) (ZjV t u):=by
 intro pins s σ H vs us Q I r h;obtain⟨v,vr,e1,h⟩:=h;subst e1;cases r with
 |cons r rr=>
  rw[hs];refine assignInOrder_cons (thn (h1 pins s σ H _ _ _ I r h) fun _ s1 ⟨σ1,H1,I1,q1⟩=>?_);exact h2 pins s1 σ1 H1 _ _ Q I1 rr q1
noncomputable def Zjh (K:PySem.W.Frag) (n:Nat) (t:TGs):TG:=fun v σ H Q=>∃a xs,v= .ref a∧SqT K H a xs∧xs.length=n∧t xs σ H Q
theorem ZkV{es:List Expr}{k:Nat}{t:TGs}{n:Nat}(hc:X.calm=true)(h:PGs X es t)
  (hn:(assignEach es X.env).length=n:=by rfl) (hst:(assignEach es X.env).findIdx? (·.1)=none:=by rfl):PG X (.Tuple es k pos) (Zjh X.K n t):=by
 intro pins s σ H v u Q I r hw;obtain⟨a,xs,e1,hq,hl,hw⟩:=hw;subst e1;cases r;obtain⟨its,rv,ht,hz⟩:=I.tuple hq;refine assign_Tuple_tuple (I.ok.hd hc) ht (by simp[hn,←hl,rv.length]) hst fun h' hx=>?_;have I1:Inv X pins σ H {s with heap:=h'}:=I.kept (t':=s.toks) fun b o e=>hx b o (Nat.ne_of_lt (Heap.lt_size e)) e;exact h pins _ σ H xs _ Q I1 (by simpa using rv) hw
noncomputable def ZkM (to ti:TE) (t:ZgN):TG:=fun v σ H Q=>to σ H fun o H1=>ti σ H1 fun i H2=>t o i v H2 fun H3=>Q σ H3
theorem ZaG{o i:Expr}{to ti:TE}{t:ZgN}(ho:PE X o to)(hi:PE X i ti)(hs:Zjg X t)
  (ha:∀v,assign (.Subscript o i pos) X.env v=(do
   let ov←holding [v] (eval o X.env)
   let iv←holding [v,ov] (eval i X.env)
   standAt pos
   holding [v,ov,iv] (setItem ov iv v)
   release [v,ov,iv] []):=by intro _;rfl):PG X (.Subscript o i pos) (ZkM to ti t):=by
 intro pins s σ H v u Q I r h;rw[ha];refine wpAny_bind (wpAny_holding (thn (ho pins s σ H _ I h) fun ov s1 ⟨x,H1,I1,r1,q1⟩=>?_));refine wpAny_bind (wpAny_holding (thn (hi pins s1 σ H1 _ I1 q1) fun iv s2 ⟨y,H2,I2,r2,q2⟩=>?_));refine wpAny_bind (wpAny_standAt (wpAny_bind (wpAny_holding (thn (hs pins s2 σ H2 x y v ov iv u _ I2 r1 r2 r q2) fun _ s3 ⟨H3,I3,q3⟩=>?_))));exact wpAny_release ⟨σ,H3,I3,q3⟩
noncomputable def Zfy (te:TE) (g:TG):TS:=fun D σ H=>te σ H fun x H1=>g x σ H1 D.nx
theorem ZaR{tg e:Expr}{te:TE}{g:TG}(he:PE X e te)(hg:PG X tg g)(hs:swapsWithSole [tg] e pos.line X.env=pure false:=by rfl)(hw:swappedStores [tg] e X.env=pure none:=by rfl)
  (h1:(assignEach [tg] X.env).map (·.2)=[assign tg X.env]:=by rfl):PS X (.Assign [tg] e pos) (Zfy te g):=by
 intro pins s σ H D I h;refine wpAny_Assign_stores (thn (he pins s σ H _ I h) fun v s1 ⟨x,H1,I1,r1,q1⟩=>?_) hs hw;rw[h1];exact thn (hg pins s1 σ H1 x v _ I1 r1 q1) fun _ s2 q=>q
theorem Zx{i:Nat}{x:Str}{e:Expr}{te:TE}{pos':Pos}(hN:X.N.Nodup)(hi:X.N[i]? =some x)(hx:Loc X.env.scope x)(he:PE X e te)(hs:swapsWith e (some (.Name x pos')) pos.line X.env=pure false:=by rfl)(hf:X.fn x=true∨X.env.scope.names.lookup x=some .local:=by first|exact .inl rfl|exact .inr rfl|assumption):
  PS X (.Assign [.Name x pos'] e pos) (Zfy te (UI i)):=by
 intro pins s σ H D I h;refine wpAny_Assign_Name (thn (he pins s σ H _ I h) fun v s1 ⟨y,H1,I1,r1,q1⟩=>?_) hs;exact U8 I1 hN hi hx r1 (fun s2 I2=>⟨_,H1,I2,q1⟩) hf
noncomputable def ZmD (i:Nat) (te:TE) (ti:TIp):TS:=fun D σ H=>∃x,σ[i]? =some (some x)∧te σ H fun y H1=>ti x y H1 fun z H2=>D.nx (σ.set i (some z)) H2
theorem Zh0{i:Nat}{x:Str}{e:Expr}{te:TE}{op:Operator}{ti:TIp}{pos':Pos}(hN:X.N.Nodup)(hi:X.N[i]? =some x)(hx:Loc X.env.scope x)(he:PE X e te)(ho:PIp X op ti)(hf:X.fn x=true∨X.env.scope.names.lookup x=some .local:=by first|exact .inl rfl|exact .inr rfl|assumption):
  PS X (.AugAssign (.Name x pos') op e pos) (ZmD i te ti):=by
 intro pins s σ H D I h;obtain⟨v,e1,h⟩:=h;obtain⟨m,hn,hl⟩:=I.loc;have vis:Vis X.env.scope x:=by rcases hx with k|k;exact .inl k;exact .inr (.inl k)
 obtain⟨u,r,l⟩:=hl i x v hi e1 vis;refine wpAny_AugAssign_Name ?_;have go:wpAny (model X.prog X.w) X.A (eval e X.env) (fun w s₂=>wpAny (model X.prog X.w) X.A (inplaceOp op u w) (fun r s₃=>wpAny (model X.prog X.w) X.A (storeName X.env x r) (fun _=>SP X pins D .next) X.xe s₃) X.xe s₂) X.xe s:=by
  refine thn (he pins s σ H _ I h) fun w s1 ⟨y,H1,I1,r1,q1⟩=>?_;refine thn (ho pins s1 σ H1 v y u w _ I1 r r1 q1) fun z s2 ⟨zv,H2,I2,r2,q2⟩=>?_;exact U8 I2 hN hi hx r2 (fun s3 I3=>⟨_,H2,I3,q2⟩) hf
 rcases l with⟨hk,hm⟩|⟨hk,c,hc,hcell⟩
 ·exact wpAny_loadName_local I.ok.kind hk hn hm go
 ·rcases hk with hk|hk
  ·exact wpAny_loadName_cell I.ok.kind hk hc hcell go
  ·rcases hx with k|k
   ·have:X.env.scope.names.lookup x=some .free:=hk;rw[k] at this;cases this
   ·have:X.env.scope.names.lookup x=some .free:=hk;rw[k] at this;cases this
noncomputable def ipI (f:Int→Int→Int):TIp:=fun x y H Q=>∃i j,x= .int i∧y= .int j∧Q (.int (f i j)) H
theorem ZhQ:PIp X .Add (ipI fun i j=>i+j):=by
 intro pins s σ H x y v u Q I r1 r2 h;obtain⟨i,j,e1,e2,q⟩:=h;subst e1;subst e2;obtain⟨t,rfl⟩:=r1;obtain⟨t',rfl⟩:=r2;exact iadd_int ⟨.int _,H,I.tok _,⟨_,rfl⟩,q⟩
end
section
variable {X:Cx}{pos:Pos}
noncomputable def ZhW (c:TT) (tb:TS):TS:=fun D σ H=>∃W:Nat→St→Hp→Prop,(∃m,W m σ H)∧∀m σ H,W m σ H→
 c σ H fun b H1=>if b=true then ∃N:St→Hp→Prop,(∀σ' H',N σ' H'→∃m',m'<m∧W m' σ' H')∧tb {D with nx:=N,ct:=N,bk:=D.nx} σ H1 else D.nx σ H1
theorem Za3{c:Expr}{body:List Stmt}{tc:TT}{tb:TS}(hp:PassesOwn (model X.prog X.w) X.A X.env X.xe)(hc:PT X c tc)(hb:PSs X body tb):PS X (.While c body [] pos) (ZhW tc tb):=by
 intro pins s σ H D I h;obtain⟨W,⟨m0,w0⟩,turn⟩:=h;refine wpAny_While (codeAny_whileLoop (fun n s'=>∃σ' H',Inv X pins σ' H' s'∧W n σ' H') ?_ m0 ⟨σ,H,I,w0⟩);rintro n s1 ⟨σ1,H1,I1,w1⟩;refine wpAny_passesOwn hp (thn (hc pins s1 σ1 H1 _ I1 (turn n σ1 H1 w1)) fun b s2 ⟨H2,I2,q2⟩=>?_);cases b with
 |true=>
  obtain⟨N,hN,q2⟩:=q2;rw[if_pos rfl];refine wpAny_passesOwn hp (thn (hb pins s2 σ1 H2 _ I2 q2) fun f s3 q3=>?_);cases f with
  |next=>
   obtain⟨σ3,H3,I3,n3⟩:=q3;obtain⟨m',hm,w3⟩:=hN σ3 H3 n3;exact⟨m',hm,σ3,H3,I3,w3⟩
  |cont=>
   obtain⟨σ3,H3,I3,n3⟩:=q3;obtain⟨m',hm,w3⟩:=hN σ3 H3 n3;exact⟨m',hm,σ3,H3,I3,w3⟩
  |brk=>exact q3
  |ret v=>exact q3
 |false=>
  rw[if_neg Bool.false_ne_true];exact wpAny_execs_nil ⟨σ1,H2,I2,q2⟩
end
structure It where
 go:Nat→Hp→Prop
 yld:Nat→Hp→V→Hp→Prop
 stop:Nat→Hp→Prop
def WY(X:Cx)(pins:List (Addr×Obj))(H:Hp)(b:Addr):Prop:=
 H b=none∧b≠X.env.locals∧b∉X.fs∧(b∈X.ex∨X.s₀.heap.objs.size≤b)∧(∀x c,X.env.cells.lookup x=some c→c≠b)∧∀p∈X.pn++pins,p.1≠b
theorem Inv.fpOk{X:Cx}{pins:List (Addr×Obj)}{σ:St}{H H':Hp}{s:Shared}{b:Addr}(I:Inv X pins σ H s)(hb:s.heap.objs.size≤b)(hn:H' b=none):WY X pins H' b:=by
 refine⟨hn,Nat.ne_of_gt (Nat.lt_of_lt_of_le I.lt hb),I.nofs hb,.inr (Nat.le_trans I.sz hb),fun x c e z=>?_,fun p hp z=>?_⟩
 ·obtain⟨v,q⟩:=I.cell x c e;exact absurd (Nat.lt_of_lt_of_le q.lt (by rw[z];exact hb)) (Nat.lt_irrefl _)
 ·exact absurd (Nat.lt_of_lt_of_le (Heap.lt_size (I.pin p hp).1) (by rw[z];exact hb)) (Nat.lt_irrefl _)
structure U1(P:Program)(w:World)(K:PySem.W.Frag)(tg:Expr)(J:It)(fp:List Addr)(it:Addr)(tn:Nat→Heap→Prop):Prop where
 mem:it∈fp
 obj:∀i h,tn i h→∀b∈fp,∃o,h.get? b=some o∧∀v,o.data≠ .cell v
 keep:∀i h h',tn i h→(∀b∈fp,∀o,h.get? b=some o→h'.get? b=some o)→tn i h'
 item:∀(X:Cx),X.prog=P→X.w=w→X.K=K→X.calm=true→∀(i:Nat)(pins:List (Addr×Obj))(s:Shared)(σ:St)(H:Hp)(E:Value→Shared→Prop),Inv X pins σ H s→(∀b∈fp,WY X pins H b)→tn i s.heap→J.go i H→
  wpAny (model P w) X.A (pyNext (.ref it)) (fun r s1=>∃u,r=some u∧
   wpAny (model P w) X.A (letOwnedTupleGo tg (.ref it) u) (fun _ s2=>∃x H',Inv X pins σ H' s2∧ZD x u∧J.yld i H x H'∧tn (i+1) s2.heap∧∀b∈fp,H' b=none) E s1) E s
 done:∀(X:Cx),X.prog=P→X.w=w→X.K=K→X.calm=true→∀(i:Nat)(pins:List (Addr×Obj))(s:Shared)(σ:St)(H:Hp)(E:Value→Shared→Prop),Inv X pins σ H s→(∀b∈fp,WY X pins H b)→tn i s.heap→J.stop i H→
  wpAny (model P w) X.A (pyNext (.ref it)) (fun r s1=>r=none∧Inv X pins σ H s1) E s
 self:∀(A:Around)(i:Nat)(s:Shared)(Q:Value→Shared→Prop)(E:Value→Shared→Prop),tn i s.heap→Q (.ref it) s→wpAny (model P w) A (pyIter (.ref it)) Q E s
noncomputable abbrev TI:=St→Hp→(It→Hp→Prop)→Prop
def PIE(X:Cx)(pins:List (Addr×Obj))(σ:St)(tg:Expr)(R:It→Hp→Prop)(itv:Value)(s2:Shared):Prop:=
 ∃(it:Addr)(fp:List Addr)(tn:Nat→Heap→Prop)(J:It)(H':Hp),itv= .ref it∧Inv X pins σ H' s2∧U1 X.prog X.w X.K tg J fp it tn∧tn 0 s2.heap∧(∀b∈fp,WY X pins H' b)∧R J H'
def PI(X:Cx)(tg iter:Expr)(wi:TI):Prop:=
 ∀(pins:List (Addr×Obj))(s:Shared)(σ:St)(H:Hp)(R:It→Hp→Prop),Inv X pins σ H s→wi σ H R→
  wpAny (model X.prog X.w) X.A (eval iter X.env) (fun v s1=>wpAny (model X.prog X.w) X.A (pyIter v) (PIE X pins σ tg R) X.xe s1) X.xe s
theorem Zc2{M:Model}{A:Around}{E:Value→Shared→Prop}{s:Shared}{tg:Expr}{it:Addr}{u:Value}{o:Obj}{n:String}{vs:Array Value}{Q:Unit→Shared→Prop}(ho:s.heap.get? it=some o)(hc:o.cls= .type n)(hd:o.data= .fields vs)
  (hn:["enumerate","zip","dict_itemiterator","dict_reverseitemiterator","odict_iterator","itertools.zip_longest","itertools.pairwise"].contains n=false) (hQ:Q () s):wpAny M A (letOwnedTupleGo tg (.ref it) u) Q E s:=by
 unfold letOwnedTupleGo;cases tg<;>first
  |exact wpAny_pure hQ
  |(cases u<;>first
    |exact wpAny_pure hQ
    |(refine wpAny_bind (wpAny_load ho ?_)
      rw[hc,hd];show wpAny M A (if(["enumerate","zip","dict_itemiterator","dict_reverseitemiterator","odict_iterator","itertools.zip_longest","itertools.pairwise"].contains n&&vs[0]? ==some (rawInt _))=true then _ else _) Q E s;rw[if_neg (by intro h;rw[hn,Bool.false_and] at h;cases h)];exact wpAny_pure hQ))
noncomputable def Itl (K:PySem.W.Frag) (a:Addr):It:=
 ⟨fun i H=>∃xs x,SqL K H a xs∧xs[i]? =some x,fun i H x H'=>H'=H∧∀xs,SqL K H a xs→xs[i]? =some x,fun i H=>∃xs,SqL K H a xs∧xs.length≤i⟩
noncomputable def Itr (lo:Int) (n:Nat):It:=⟨fun i _=>i<n,fun i H x H'=>H'=H∧x= .int (lo+i),fun i _=>n≤i⟩
theorem Zio{P:Program}{w:World}{K:PySem.W.Frag}{tg:Expr}(a it:Addr):U1 P w K tg (Itl K a) [it] it (fun i h=>h.IsListIter it a i) where
 mem:=by simp
 obj:=fun i h st b hb=>by
  have e:b=it:=by simpa using hb
  subst e;obtain⟨o,e,c,d⟩:=st;exact⟨o,e,fun v z=>by rw[d] at z;cases z⟩
 keep:=fun i h h' st k=>st.at fun o e=>k it (by simp) o e
 item:=by
  intro X hP hw hK hc i pins s σ H E I hf st hg;subst hP hw hK;obtain⟨xs,x,hq,hx⟩:=hg;obtain⟨its,rv,p,hz⟩:=I.list hq;obtain⟨u,hu,ru⟩:=rv.get hx;obtain⟨f0,f1,f2,f3,f4,f5⟩:=hf it (by simp);refine wpAny_pyNext_list_item st p.isList (x:=u) (by simpa using hu) fun h' st' sb=>?_;have I1:Inv X pins σ H {s with heap:=h'}:=I.turned (t':=s.toks) (fun b o hb e=>(sb.2 b hb).trans e) f0 f1 f3 f4 f5;obtain⟨o,e,c,d⟩:=id st';exact⟨u,rfl,Zc2 (s:={s with heap:=h'}) e c d (by decide) ⟨x,H,I1,ru,⟨rfl,fun ys hy=>by rw[I.list_inj hy hq];exact hx⟩,st',fun b hb=>(hf b hb).1⟩⟩
 done:=by
  intro X hP hw hK hc i pins s σ H E I hf st hg;subst hP hw hK;obtain⟨xs,hq,hx⟩:=hg;obtain⟨its,rv,p,hz⟩:=I.list hq;obtain⟨f0,f1,f2,f3,f4,f5⟩:=hf it (by simp);have hl:=rv.length;exact wpAny_pyNext_list_end (I.ok.hd hc) st p.isList (by simp;omega) fun h' eb=>⟨rfl,I.turned (t':=s.toks) (fun b o hb e=>eb b o hb e) f0 f1 f3 f4 f5⟩
 self:=fun _ _ _ _ _ st h=>wpAny_pyIter_listiter st h
theorem ZhD{P:Program}{w:World}{K:PySem.W.Frag}{tg:Expr}(it:Addr)(lo:Int)(n:Nat):U1 P w K tg (Itr lo n) [it] it (fun i h=>IsRangeIter h it (lo+(i:Nat)*1) ((n:Int)-(i:Nat)) 1) where
 mem:=by simp
 obj:=fun i h st b hb=>by
  have e:b=it:=by simpa using hb
  subst e;exact⟨_,st,fun v z=>by
   have z':Data.fields _=Data.cell v:=z;cases z'⟩
 keep:=fun i h h' st k=>k it (by simp) _ st
 item:=by
  intro X hP hw hK hc i pins s σ H E I hf st hg;subst hP hw hK;obtain⟨f0,f1,f2,f3,f4,f5⟩:=hf it (by simp);have W:=Walks.range (prog:=X.prog) (w:=X.w) (I.ok.hd hc) it lo 1 n;refine W.item i s _ _ hg st fun v h' tk hv st' kk=>?_;obtain⟨t,rfl⟩:=hv;have I1:Inv X pins σ H {s with heap:=h',toks:=tk}:=I.turned (fun b o hb e=>kk b o (by simpa using hb) e) f0 f1 f3 f4 f5;refine⟨_,rfl,Zc2 (s:={s with heap:=h',toks:=tk}) (n:="range_iterator") st' rfl rfl (by decide) ⟨.int (lo+i),H,I1,⟨t,?_⟩,⟨rfl,rfl⟩,st',fun b hb=>(hf b hb).1⟩⟩;rw[Int.mul_one]
 done:=by
  intro X hP hw hK hc i pins s σ H E I hf st hg;subst hP hw hK;obtain⟨f0,f1,f2,f3,f4,f5⟩:=hf it (by simp);exact wpAny_pyNext_range_end (I.ok.hd hc) st (by have:n≤i:=hg;omega) fun h' eb=>⟨rfl,I.turned (t':=s.toks) (fun b o hb e=>eb b o hb e) f0 f1 f3 f4 f5⟩
 self:=fun _ _ _ _ _ st h=>wpAny_pyIter_rangeiter st h
end L2
namespace L2
open PySem PySem.Spec PyProof.Rows
section
variable {X:Cx}{tg:Expr}
noncomputable def ZhE (K:PySem.W.Frag) (tl:TE):TI:=fun σ H R=>tl σ H fun x H1=>∃a,x= .ref a∧(∃xs,SqL K H1 a xs)∧R (Itl K a) H1
theorem Zkh{l:Expr}{tl:TE}(hl:PE X l tl):PI X tg l (ZhE X.K tl):=by
 intro pins s σ H R I h;refine thn (hl pins s σ H _ I h) fun v s1 ⟨x,H1,I1,r1,q1⟩=>?_;obtain⟨a,e,⟨xs,hq⟩,q⟩:=q1;subst e;cases r1;obtain⟨its,rv,p,hz⟩:=I1.list hq;refine wpAny_pyIter_list p.isList ?_;refine⟨s1.heap.objs.size,[s1.heap.objs.size],_,_,H1,rfl,I1.kept (t':=s1.toks) fun b o e=>Heap.get?_push_of_some _ e,Zio a _,⟨_,Heap.get?_push_size _ rfl,rfl,rfl⟩,fun b hb=>?_,q⟩;have e:b=s1.heap.objs.size:=by simpa using hb
 subst e;exact I1.fpOk (Nat.le_refl _) (I1.hok.fresh (Nat.le_refl _))
theorem Zjm{pins:List (Addr×Obj)}{σ:St}{H:Hp}{s:Shared}{R:It→Hp→Prop}{E:Value→Shared→Prop}{lo hi:Int}{t u v:Tok}{tk:Nat}(I:Inv X pins σ H s)(h1: -(2 ^ 62)≤lo)(h2:lo<2 ^ 62)(h3: -(2 ^ 62)≤hi)(h4:hi<2 ^ 62)
  (q:R (Itr lo (hi-lo).toNat) H):wpAny (model X.prog X.w) X.A (pyIter (.ref s.heap.objs.size)) (PIE X pins σ tg R) E {s with heap:=s.heap.push {cls:= .type "range",data:= .fields #[.int lo t,.int hi u,.int 1 v]},toks:=tk}:=by
 refine wpAny_pyIter_range (IsRange.new ..) (small_one h1 h2 h3 h4) ?_;have I1:Inv X pins σ H {s with heap:=s.heap.push {cls:= .type "range",data:= .fields #[.int lo t,.int hi u,.int 1 v]},toks:=tk}:=I.kept fun b o e=>Heap.get?_push_of_some _ e;refine⟨(s.heap.push {cls:= .type "range",data:= .fields #[.int lo t,.int hi u,.int 1 v]}).objs.size,[(s.heap.push {cls:= .type "range",data:= .fields #[.int lo t,.int hi u,.int 1 v]}).objs.size],_,_,H,rfl,
  I1.kept (t':=tk) fun b o e=>Heap.get?_push_of_some _ e,ZhD _ lo (hi-lo).toNat,?_,fun b hb=>?_,q⟩
 ·have e1:lo+((0:Nat):Int)*1=lo:=by simp
  have e2:(((hi-lo).toNat:Nat):Int)-((0:Nat):Int)=Builtin.Range.rangeSize lo hi 1:=by rw[rangeSize_one];split<;>omega
  show IsRangeIter _ _ (lo+((0:Nat):Int)*1) ((((hi-lo).toNat:Nat):Int)-((0:Nat):Int)) 1;rw[e1,e2];exact Heap.get?_push_size _ rfl
 ·have e:b=(s.heap.push {cls:= .type "range",data:= .fields #[.int lo t,.int hi u,.int 1 v]}).objs.size:=by simpa using hb
  subst e;exact I1.fpOk (Nat.le_refl _) (I1.hok.fresh (Nat.le_refl _))
noncomputable def ZjT (ta:TA):TI:=fun σ H R=>ta σ H fun vs H1=>∃j:Int,vs=[.int j]∧ -(2 ^ 62)≤j∧j<2 ^ 62∧R (Itr 0 j.toNat) H1
theorem Yb{a:Expr}{ta:TA}{p pos:Pos}(hg:Gl X "range")(hm:X.mg "range" =none)(ha:PA X [a] ta)(hs:starEach [a] X.env=[(false,eval a X.env)]:=by rfl):PI X tg (.Call (.Name "range" p) [a] [] pos) (ZjT ta):=by
 intro pins s σ H R I h;refine Call_ (Zac I hg hm boot_range (PyProof.Rows.callWith_type1 (thn (ha pos pins s σ H _ I h) fun us s1 ⟨vs,H1,I1,r1,q1⟩=>?_) hs rfl));obtain⟨j,e,q1,q2,q⟩:=q1;subst e;cases r1 with
 |cons r rr=>
  cases rr;obtain⟨t,rfl⟩:=r;exact call_range_1 (Zjm I1 (by omega) (by omega) q1 q2 (by simpa using q))
noncomputable def Zlq (wi:TI) (g:TG) (tb:TS):TS:=fun D σ H=>wi σ H fun J H1=>∃W:Nat→Nat→St→Hp→Prop,(∃m,W 0 m σ H1)∧∀i m σ H,W i m σ H→
 (J.stop i H∧D.nx σ H)∨(J.go i H∧∃N:St→Hp→Prop,(∀σ' H',N σ' H'→∃m',m'<m∧W (i+1) m' σ' H')∧∀x H',J.yld i H x H'→g x σ H' fun σ2 H2=>tb {D with nx:=N,ct:=N,bk:=D.nx} σ2 H2)
noncomputable def ZaD (fp:List Addr) (h:Heap):List (Addr×Obj):=fp.filterMap fun b=>(h.get? b).map fun o=>(b,o)
theorem W8{fp:List Addr}{h:Heap}{b:Addr}{o:Obj}(hb:b∈fp)(e:h.get? b=some o):(b,o)∈ZaD fp h:=List.mem_filterMap.mpr ⟨b,hb,by rw[e];rfl⟩
theorem Zik{fp:List Addr}{h:Heap}{p:Addr×Obj}(hp:p∈ZaD fp h):p.1∈fp∧h.get? p.1=some p.2:=by
 obtain⟨b,hb,e⟩:=List.mem_filterMap.mp hp;cases q:h.get? b with
 |none=>rw[q] at e;cases e
 |some o=>
  rw[q] at e;have e':(b,o)=p:=Option.some.inj e;subst e';exact⟨hb,q⟩
theorem Inv.pinned{pins:List (Addr×Obj)}{σ:St}{H:Hp}{s:Shared}{fp:List Addr}(I:Inv X pins σ H s)(hf:∀b∈fp,WY X pins H b)(ho:∀b∈fp,∃o,s.heap.get? b=some o∧∀v,o.data≠ .cell v):Inv X (pins++ZaD fp s.heap) σ H s:=
 I.pins_of fun p hp=>(List.mem_append.mp hp).elim (fun z=>I.pin p (List.mem_append_right _ z)) fun z=>by
  obtain⟨hb,e⟩:=Zik z;obtain⟨f0,f1,f2,_⟩:=hf p.1 hb;obtain⟨o,e',d⟩:=ho p.1 hb;rw[e] at e';cases e';exact⟨e,f0,f1,f2,d⟩
theorem Inv.unpinned{pins pl:List (Addr×Obj)}{σ:St}{H:Hp}{s:Shared}(I:Inv X (pins++pl) σ H s):Inv X pins σ H s:=I.pins_of fun p hp=>I.pin p (List.mem_append_right _ (List.mem_append_left _ hp))
theorem Yf{iter:Expr}{body:List Stmt}{wi:TI}{g:TG}{tb:TS}{pos:Pos}(hp:PassesOwn (model X.prog X.w) X.A X.env X.xe)(hc:X.calm=true)(hi:PI X tg iter wi)(hg:PG X tg g)(hb:PSs X body tb)
  (hs:∀x,foldedSetIterable iter X.env x=pure x:=by intro _;rfl):PS X (.For tg iter body [] pos) (Zlq wi g tb):=by
 intro pins s σ H D I h;refine wpAny_For (thn (hi pins s σ H _ I h) fun v s1 h1=>thn h1 fun itv s2 h2=>?_) hs;obtain⟨it,fp,tn,J,H2,e,I2,T,st2,f2,W,⟨m0,w0⟩,turn⟩:=h2;subst e;have stat:∀{H':Hp},(∀b∈fp,H' b=none)→∀b∈fp,WY X pins H' b:=fun hn b hb=>⟨hn b hb,(f2 b hb).2⟩;refine codeAny_forLoop_any (fun n s'=>∃i σ' H',Inv X pins σ' H' s'∧tn i s'.heap∧(∀b∈fp,H' b=none)∧W i n σ' H') ?_ m0 ⟨0,σ,H2,I2,st2,fun b hb=>(f2 b hb).1,w0⟩;rintro n s3 ⟨i,σ3,H3,I3,st3,fr3,w3⟩;rcases turn i n σ3 H3 w3 with⟨stop,qn⟩|⟨go,N,hN,step⟩
 ·refine wpAny_passesOwn hp (thn (T.done X rfl rfl rfl hc i pins s3 σ3 H3 X.xe I3 (stat fr3) st3 stop) fun r s4 ⟨hr,I4⟩=>?_);subst hr;exact wpAny_execs_nil ⟨σ3,H3,I4,qn⟩
 ·refine wpAny_passesOwn hp (thn (T.item X rfl rfl rfl hc i pins s3 σ3 H3 X.xe I3 (stat fr3) st3 go) fun r s4 ⟨u,hr,h4⟩=>?_);subst hr;refine wpAny_passesOwn hp (thn h4 fun _ s5 ⟨x,H5,I5,r5,y5,st5,fr5⟩=>?_);have I5':=I5.pinned (stat fr5) (T.obj _ _ st5);refine wpAny_passesOwn hp (thn (hg _ s5 σ3 H5 x u _ I5' r5 (step x H5 y5)) fun _ s6 ⟨σ6,H6,I6,q6⟩=>?_);refine wpAny_passesOwn hp (thn (hb _ s6 σ6 H6 _ I6 q6) fun f s7 q7=>?_);have again:∀{σ7:St}{H7:Hp},Inv X (pins++ZaD fp s5.heap) σ7 H7 s7→N σ7 H7→∃m,m<n∧∃i σ' H',Inv X pins σ' H' s7∧tn i s7.heap∧(∀b∈fp,H' b=none)∧W i m σ' H':=fun{σ7 H7} I7 n7=>by
   obtain⟨m',hm,w7⟩:=hN σ7 H7 n7;refine⟨m',hm,i+1,σ7,H7,I7.unpinned,T.keep _ _ _ st5 fun b hb o e=>(I7.pin (b,o) (List.mem_append_right _ (List.mem_append_right _ (W8 hb e)))).1,fun b hb=>?_,w7⟩;obtain⟨o,e,d⟩:=T.obj _ _ st5 b hb;exact(I7.pin (b,o) (List.mem_append_right _ (List.mem_append_right _ (W8 hb e)))).2.1
  cases f with
  |next=>obtain⟨σ7,H7,I7,n7⟩:=q7;exact again I7 n7
  |cont=>obtain⟨σ7,H7,I7,n7⟩:=q7;exact again I7 n7
  |brk=>obtain⟨σ7,H7,I7,q7⟩:=q7;exact⟨σ7,H7,I7.unpinned,q7⟩
  |ret v=>obtain⟨x7,σ7,H7,I7,r7,q7⟩:=q7;exact⟨x7,σ7,H7,I7.unpinned,r7,q7⟩
end
theorem Wg{lo:Int}{n:Nat}{g:TG}{tb:TS}{D:Vf}{σ:St}{H:Hp}(Pv:Nat→St→Hp→Prop)(h0:Pv 0 σ H)
  (hs:∀i σ H,i<n→Pv i σ H→g (.int (lo+i)) σ H fun σ2 H2=>tb {D with nx:=Pv (i+1),ct:=Pv (i+1),bk:=D.nx} σ2 H2) (hd:∀σ H,Pv n σ H→D.nx σ H):
  ∃W:Nat→Nat→St→Hp→Prop,(∃m,W 0 m σ H)∧∀i m σ H,W i m σ H→
   ((Itr lo n).stop i H∧D.nx σ H)∨((Itr lo n).go i H∧∃N:St→Hp→Prop,(∀σ' H',N σ' H'→∃m',m'<m∧W (i+1) m' σ' H')∧∀x H',(Itr lo n).yld i H x H'→g x σ H' fun σ2 H2=>tb {D with nx:=N,ct:=N,bk:=D.nx} σ2 H2):=by
 refine⟨fun i m σ H=>m=n-i∧i≤n∧Pv i σ H,⟨n,by simp,Nat.zero_le _,h0⟩,?_⟩;rintro i m σ H ⟨rfl,hi,p⟩
 by_cases hlt:i<n
 ·refine .inr ⟨hlt,Pv (i+1),fun σ' H' p'=>⟨n-(i+1),by omega,rfl,hlt,p'⟩,fun x H' y=>?_⟩;obtain⟨e,y⟩:=y;subst e y;exact hs i σ _ hlt p
 ·have e:i=n:=by omega
  subst e;exact .inl ⟨Nat.le_refl _,hd σ H p⟩
end L2
namespace L2
open PySem PySem.Spec PyProof.Rows
noncomputable abbrev R2:=V→V→Hp→VK→Prop
def OpR(X:Cx)(f:Value→Value→Sem Value)(r:R2):Prop:=
 ∀(pins:List (Addr×Obj))(s:Shared)(σ:St)(H:Hp)(x y:V)(v u:Value)(Q:VK),Inv X pins σ H s→ZD x v→ZD y u→r x y H Q→
  wpAny (model X.prog X.w) X.A (f v u) (EP X pins σ Q) X.xe s
def Yz(X:Cx)(f:Value)(r:List V→Hp→VK→Prop):Prop:=
 ∀(pins:List (Addr×Obj))(s:Shared)(σ:St)(H:Hp)(xs:List V)(us:List Value)(Q:VK),Inv X pins σ H s→Zw xs us→r xs H Q→
  wpAny (model X.prog X.w) X.A (call f us) (EP X pins σ Q) X.xe s
def ZmP(X:Cx)(r:V→Hp→(Bool→Hp→Prop)→Prop):Prop:=
 ∀(pins:List (Addr×Obj))(s:Shared)(σ:St)(H:Hp)(x:V)(v:Value)(Q:Bool→Hp→Prop),Inv X pins σ H s→ZD x v→r x H Q→
  wpAny (model X.prog X.w) X.A (truthy v) (TP X pins σ Q) X.xe s
noncomputable def tOp (r:R2) (ta tb:TE):TE:=fun σ H Q=>ta σ H fun x H1=>tb σ H1 fun y H2=>r x y H2 Q
noncomputable def rI (C:Int→Int→Prop) (g:Int→Int→V):R2:=fun x y H Q=>∃i j,x= .int i∧y= .int j∧C i j∧Q (g i j) H
noncomputable def rI0 (g:Int→Int→V):R2:=fun x y H Q=>∃i j,x= .int i∧y= .int j∧Q (g i j) H
section
variable {X:Cx}{a b c:Expr}{ta tb tc:TE}{pos:Pos}
theorem Zja(ha:PE X a ta)(hb:PE X b tb){pins:List (Addr×Obj)}{s:Shared}{σ:St}{H:Hp}{R:V→V→Hp→Prop}(I:Inv X pins σ H s)
  (h:ta σ H fun x H1=>tb σ H1 fun y H2=>R x y H2) {Q:Value→Shared→Prop} {f:Value→Value→Sem Value}
  (hf:∀v u s2 x y H2,Inv X pins σ H2 s2→ZD x v→ZD y u→R x y H2→wpAny (model X.prog X.w) X.A (f v u) Q X.xe s2):
  wpAny (model X.prog X.w) X.A (eval a X.env) (fun v s₁=>wpAny (model X.prog X.w) X.A (eval b X.env) (fun u s₂=>wpAny (model X.prog X.w) X.A (f v u) Q X.xe s₂) X.xe s₁) X.xe s:=by
 refine thn (ha pins s σ H _ I h) fun v s1 ⟨x,H1,I1,r1,q1⟩=>?_;refine thn (hb pins s1 σ H1 _ I1 q1) fun u s2 ⟨y,H2,I2,r2,q2⟩=>?_;exact hf v u s2 x y H2 I2 r1 r2 q2
theorem Zo{op:Operator}{r:R2}(ho:OpR X (binaryOp op) r)(ha:PE X a ta)(hb:PE X b tb):PE X (.BinOp a op b pos) (tOp r ta tb):=by
 intro pins s σ H Q I h;exact wpAny_BinOp (Zja ha hb I h fun v u s2 x y H2 I2 rx ry q=>ho pins s2 σ H2 x y v u Q I2 rx ry q)
theorem opI{f:Value→Value→Sem Value}{C:Int→Int→Prop}{g:Int→Int→Int}
  (rule:∀(i j:Int)(t u:Tok)(s:Shared)(Q:Value→Shared→Prop)(E:Value→Shared→Prop),C i j→Q (.int (g i j) s.toks) {s with toks:=s.toks+1}→wpAny (model X.prog X.w) X.A (f (.int i t) (.int j u)) Q E s):
  OpR X f (rI C fun i j=> .int (g i j)):=by
 intro pins s σ H x y v u Q I rx ry h;obtain⟨i,j,rfl,rfl,hc,q⟩:=h;obtain⟨t,rfl⟩:=rx;obtain⟨t',rfl⟩:=ry;exact rule i j t t' s _ _ hc ⟨.int (g i j),H,I.tok _,⟨_,rfl⟩,q⟩
theorem Zlr{f:Value→Value→Sem Value}{g:Int→Int→Int}
  (rule:∀(i j:Int)(t u:Tok)(s:Shared)(Q:Value→Shared→Prop)(E:Value→Shared→Prop),Q (.int (g i j) s.toks) {s with toks:=s.toks+1}→wpAny (model X.prog X.w) X.A (f (.int i t) (.int j u)) Q E s):
  OpR X f (rI0 fun i j=> .int (g i j)):=by
 intro pins s σ H x y v u Q I rx ry h;obtain⟨i,j,rfl,rfl,q⟩:=h;obtain⟨t,rfl⟩:=rx;obtain⟨t',rfl⟩:=ry;exact rule i j t t' s _ _ ⟨.int (g i j),H,I.tok _,⟨_,rfl⟩,q⟩
theorem Zi3{f:Value→Value→Sem Value}{g:Int→Int→Bool}
  (rule:∀(i j:Int)(t u:Tok)(s:Shared)(Q:Value→Shared→Prop)(E:Value→Shared→Prop),Q (.bool (g i j)) s→wpAny (model X.prog X.w) X.A (f (.int i t) (.int j u)) Q E s):
  OpR X f (rI0 fun i j=> .bl (g i j)):=by
 intro pins s σ H x y v u Q I rx ry h;obtain⟨i,j,rfl,rfl,q⟩:=h;obtain⟨t,rfl⟩:=rx;obtain⟨t',rfl⟩:=ry;exact rule i j t t' s _ _ ⟨.bl (g i j),H,I,rfl,q⟩
def ZkU(i j:Int):Prop:=0≤j∧j≤1000000∧i.natAbs<2 ^ 64
def ZgU(i j:Int):Prop:=(-(2 ^ 64)<i∧i<2 ^ 64)∨(-(2 ^ 64)<j∧j<2 ^ 64)
theorem ZgU.ok{i j:Int}(h:ZgU i j):IntMulOk i j:=by
 rcases h with⟨h1,h2⟩|⟨h1,h2⟩
 ·exact .of_left (intBits_le_64 h1 h2)
 ·exact .of_right (intBits_le_64 h1 h2)
theorem ZkN:OpR X (binaryOp .Add) (rI0 fun i j=> .int (i+j)):=Zlr fun _ _ _ _ _ _ _ q=>add_int q
theorem Zad:OpR X (binaryOp .Sub) (rI0 fun i j=> .int (i-j)):=Zlr fun _ _ _ _ _ _ _ q=>sub_int q
theorem Z1:OpR X (binaryOp .Mod) (rI (fun _ j=>0<j) fun i j=> .int (i % j)):=opI fun i j _ _ _ _ _ hc q=>by
 have h1:(0:Int)<j:=hc;exact mod_int' (by omega) (by rw[Int.fmod_eq_emod_of_nonneg i (by omega)];exact q)
theorem Zfg:OpR X (binaryOp .Pow) (rI ZkU fun i j=> .int (i ^ j.toNat)):=opI fun _ _ _ _ _ _ _ hc q=>pow_int_small hc.1 hc.2.1 hc.2.2 q
end
noncomputable def Zk7:V→V→Bool
 | .non,.non=>true| .non,.int _=>true| .int _,.non=>true| .non,.bl _=>true| .bl _,.non=>true| .non,.str _=>true| .str _,.non=>true
 | .int _,.int _=>true| .bl _,.bl _=>true| .str _,.str _=>true| .byt _,.byt _=>true
 | .int _,.str _=>true| .str _,.int _=>true| .bl _,.str _=>true| .str _,.bl _=>true
 |_,_=>false
noncomputable def rEq:R2:=fun x y H Q=>Zk7 x y=true∧Q (.bl (decide (x=y))) H
noncomputable def rNe:R2:=fun x y H Q=>Zk7 x y=true∧Q (.bl (!decide (x=y))) H
theorem Zgu{i j:Int}:decide (V.int i=V.int j)=(i==j):=by
 rw[Bool.eq_iff_iff];simp
theorem Zin{i j:Bool}:decide (V.bl i=V.bl j)=(i==j):=by
 rw[Bool.eq_iff_iff];simp
theorem ZgL{i j:Str}:decide (V.str i=V.str j)=(i==j):=by
 rw[Bool.eq_iff_iff];simp
theorem ZgC{i j:Array UInt8}:decide (V.byt i=V.byt j)=(i.toList==j.toList):=by
 rw[Bool.eq_iff_iff];cases i;cases j;simp
section
variable {X:Cx}{a b c:Expr}{ta tb tc:TE}{pos:Pos}
theorem ZR{pins:List (Addr×Obj)}{σ:St}{H:Hp}{s:Shared}{Q:VK}{k k':Bool}(I:Inv X pins σ H s)(q:Q (.bl k) H)(e:k=k'):EP X pins σ Q (.bool k') s:=by
 subst e;exact⟨.bl k,H,I,rfl,q⟩
theorem Zmn:OpR X (compareOp .Eq) rEq:=by
 intro pins s σ H x y v u Q I rx ry h;obtain⟨hs,q⟩:=h;cases x with
 |non=>
  cases rx;cases y with
  |non=>cases ry;exact PySem.EqNone.eq_none_none (ZR I q (by simp))
  |bl j=>cases ry;exact PySem.EqNone.eq_none_bool (ZR I q (by simp))
  |int j=>obtain⟨t',rfl⟩:=ry;exact PySem.EqNone.eq_none_int (ZR I q (by simp))
  |str j=>obtain⟨t',rfl⟩:=ry;exact PySem.EqNone.eq_none_str (ZR I q (by simp))
  |_=>exact absurd (show false=true from hs) Bool.false_ne_true
 |bl i=>
  cases rx;cases y with
  |non=>cases ry;exact PySem.EqNone.eq_bool_none (ZR I q (by simp))
  |bl j=>cases ry;exact eq_bool (ZR I q Zin)
  |str j=>obtain⟨t',rfl⟩:=ry;exact PySem.EqMixed.eq_bool_str (ZR I q (by simp))
  |_=>exact absurd (show false=true from hs) Bool.false_ne_true
 |int i=>
  obtain⟨t,rfl⟩:=rx;cases y with
  |non=>cases ry;exact PySem.EqNone.eq_int_none (ZR I q (by simp))
  |int j=>obtain⟨t',rfl⟩:=ry;exact eq_int (ZR I q Zgu)
  |str j=>obtain⟨t',rfl⟩:=ry;exact PySem.EqMixed.eq_int_str (ZR I q (by simp))
  |_=>exact absurd (show false=true from hs) Bool.false_ne_true
 |str i=>
  obtain⟨t,rfl⟩:=rx;cases y with
  |non=>cases ry;exact PySem.EqNone.eq_str_none (ZR I q (by simp))
  |bl j=>cases ry;exact PySem.EqMixed.eq_str_bool (ZR I q (by simp))
  |int j=>obtain⟨t',rfl⟩:=ry;exact PySem.EqMixed.eq_str_int (ZR I q (by simp))
  |str j=>obtain⟨t',rfl⟩:=ry;exact eq_str (ZR I q ZgL)
  |_=>exact absurd (show false=true from hs) Bool.false_ne_true
 |byt i=>
  obtain⟨t,rfl⟩:=rx;cases y with
  |byt j=>obtain⟨t',rfl⟩:=ry;exact PySem.W.eq_bytes (ZR I q ZgC)
  |_=>exact absurd (show false=true from hs) Bool.false_ne_true
 |_=>cases y<;>exact absurd (show false=true from hs) Bool.false_ne_true
theorem Zmt:OpR X (compareOp .NotEq) rNe:=by
 intro pins s σ H x y v u Q I rx ry h;obtain⟨hs,q⟩:=h;cases x with
 |non=>
  cases rx;cases y with
  |non=>cases ry;exact PySem.EqNone.ne_none_none (ZR I q (by simp))
  |bl j=>cases ry;exact PySem.EqNone.ne_none_bool (ZR I q (by simp))
  |int j=>obtain⟨t',rfl⟩:=ry;exact PySem.EqNone.ne_none_int (ZR I q (by simp))
  |str j=>obtain⟨t',rfl⟩:=ry;exact PySem.EqNone.ne_none_str (ZR I q (by simp))
  |_=>exact absurd (show false=true from hs) Bool.false_ne_true
 |bl i=>
  cases rx;cases y with
  |non=>cases ry;exact PySem.EqNone.ne_bool_none (ZR I q (by simp))
  |bl j=>cases ry;exact ne_bool (ZR I q (congrArg not Zin))
  |str j=>obtain⟨t',rfl⟩:=ry;exact PySem.EqMixed.ne_bool_str (ZR I q (by simp))
  |_=>exact absurd (show false=true from hs) Bool.false_ne_true
 |int i=>
  obtain⟨t,rfl⟩:=rx;cases y with
  |non=>cases ry;exact PySem.EqNone.ne_int_none (ZR I q (by simp))
  |int j=>obtain⟨t',rfl⟩:=ry;exact ne_int (ZR I q (congrArg not Zgu))
  |str j=>obtain⟨t',rfl⟩:=ry;exact PySem.EqMixed.ne_int_str (ZR I q (by simp))
  |_=>exact absurd (show false=true from hs) Bool.false_ne_true
 |str i=>
  obtain⟨t,rfl⟩:=rx;cases y with
  |non=>cases ry;exact PySem.EqNone.ne_str_none (ZR I q (by simp))
  |bl j=>cases ry;exact PySem.EqMixed.ne_str_bool (ZR I q (by simp))
  |int j=>obtain⟨t',rfl⟩:=ry;exact PySem.EqMixed.ne_str_int (ZR I q (by simp))
  |str j=>obtain⟨t',rfl⟩:=ry;exact ne_str (ZR I q (congrArg not ZgL))
  |_=>exact absurd (show false=true from hs) Bool.false_ne_true
 |byt i=>
  obtain⟨t,rfl⟩:=rx;cases y with
  |byt j=>obtain⟨t',rfl⟩:=ry;exact PySem.W.ne_bytes (ZR I q (congrArg not ZgC))
  |_=>exact absurd (show false=true from hs) Bool.false_ne_true
 |_=>cases y<;>exact absurd (show false=true from hs) Bool.false_ne_true
theorem Zb5:OpR X (compareOp .Lt) (rI0 fun i j=> .bl (decide (i<j))):=Zi3 fun _ _ _ _ _ _ _ q=>lt_int q
theorem ZeK:OpR X (compareOp .Gt) (rI0 fun i j=> .bl (decide (j<i))):=Zi3 fun _ _ _ _ _ _ _ q=>gt_int q
theorem Zdn:OpR X (compareOp .GtE) (rI0 fun i j=> .bl (decide (j≤i))):=Zi3 fun _ _ _ _ _ _ _ q=>ge_int q
theorem Zlw:OpR X (compareOp .Is) (fun x y H Q=>y= .non∧Q (.bl (decide (x= .non))) H):=by
 intro pins s σ H x y v u Q I rx ry h;obtain⟨rfl,q⟩:=h;cases ry;refine is_none_gen (ZR I q ?_);cases x<;>first
  |(cases rx;rfl)
  |(obtain⟨t,rfl⟩:=rx;rfl)
theorem Zkz:OpR X (compareOp .IsNot) (fun x y H Q=>y= .non∧Q (.bl (!decide (x= .non))) H):=by
 intro pins s σ H x y v u Q I rx ry h;obtain⟨rfl,q⟩:=h;cases ry;refine isnot_none_gen (ZR I q ?_);cases x<;>first
  |(cases rx;rfl)
  |(obtain⟨t,rfl⟩:=rx;rfl)
theorem OpR.or{f:Value→Value→Sem Value}{r r':R2}(h:OpR X f r)(h':OpR X f r'):OpR X f (fun x y H Q=>r x y H Q∨r' x y H Q):=by
 intro pins s σ H x y v u Q I rx ry q;rcases q with q|q
 ·exact h pins s σ H x y v u Q I rx ry q
 ·exact h' pins s σ H x y v u Q I rx ry q
theorem ZG(b:Expr){op:CmpOp}(h:op≠ .In:=by decide)(h2:op≠ .NotIn:=by decide):behindInMarks op b=false:=by
 have e1:(op==CmpOp.In)=false:=by cases op<;>first|rfl|exact absurd rfl h
 have e2:(op==CmpOp.NotIn)=false:=by cases op<;>first|rfl|exact absurd rfl h2
 cases b<;>simp[behindInMarks,e1,e2]
theorem W7{op:CmpOp}{r:R2}(ho:OpR X (compareOp op) r)(ha:PE X a ta)(hb:PE X b tb)(hm:behindInMarks op b=false):PE X (.Compare a [op] [b] pos) (tOp r ta tb):=by
 intro pins s σ H Q I h;exact wpAny_Compare1 (Zja ha hb I h fun v u s2 x y H2 I2 rx ry q=>ho pins s2 σ H2 x y v u Q I2 rx ry q) hm
noncomputable def ZjJ (t:TE):TT:=fun σ H Q=>t σ H fun x H'=>∃k,x= .bl k∧Q k H'
theorem Zz{op:CmpOp}{r:R2}(ho:OpR X (compareOp op) r)(ha:PE X a ta)(hb:PE X b tb)(hm:behindInMarks op b=false):PT X (.Compare a [op] [b] pos) (ZjJ (tOp r ta tb)):=by
 intro pins s σ H Q I h;refine wpAny_isTrue_Compare1 (thn (ha pins s σ H _ I h) fun v s1 ⟨x,H1,I1,r1,q1⟩=>thn (hb pins s1 σ H1 _ I1 q1) fun u s2 ⟨y,H2,I2,r2,q2⟩=>
  thn (ho pins s2 σ H2 x y v u _ I2 r1 r2 q2) fun c s3 ⟨z,H3,I3,r3,k,e,q3⟩=>?_) hm
 subst e;cases r3;exact wpAny_truthy_bool ⟨H3,I3,q3⟩
noncomputable def Zim (r r':R2) (ta tb tc:TE):TE:=fun σ H Q=>ta σ H fun x H1=>tb σ H1 fun y H2=>r x y H2 fun z H3=>∃k,z= .bl k∧
 (if k=true then tc σ H3 fun w' H4=>r' y w' H4 Q else Q (.bl false) H3)
theorem Zi4{op op':CmpOp}{r r':R2}(ho:OpR X (compareOp op) r)(ho':OpR X (compareOp op') r')(ha:PE X a ta)(hb:PE X b tb)(hc:PE X c tc)
  (hm:lastMarks [op,op'] [b,c]=false:=by with_unfolding_all rfl):PE X (.Compare a [op,op'] [b,c] pos) (Zim r r' ta tb tc):=by
 intro pins s σ H Q I h;refine Compare_chain (thn (ha pins s σ H _ I h) fun v s1 ⟨x,H1,I1,r1,q1⟩=>chain_link (thn (hb pins s1 σ H1 _ I1 q1) fun u s2 ⟨y,H2,I2,r2,q2⟩=>
  thn (ho pins s2 σ H2 x y v u _ I2 r1 r2 q2) fun d s3 ⟨z,H3,I3,r3,k,e,q3⟩=>?_)) hm
 subst e;cases r3;refine wpAny_truthy_bool ?_;cases k with
 |false=>exact ite_ff ⟨.bl false,H3,I3,rfl,q3⟩
 |true=>exact ite_tt (chain_last (thn (hc pins s3 σ H3 _ I3 q3) fun w' s4 ⟨z',H4,I4,r4,q4⟩=>ho' pins s4 σ H4 y z' u w' Q I4 r2 r4 q4))
def Zfq(K:PySem.W.Frag)(x:V)(H:Hp)(k:Bool):Prop:=
 match x with
 | .non=>k=false
 | .bl b=>k=b
 | .int i=>k=(i != 0)
 | .str y=>y.length≤sizeLine∧k=((y.length:Int) != 0)
 | .byt y=>y.size≤sizeLine∧k=((y.size:Int) != 0)
 | .ref p=>(∃xs,SqL K H p xs∧k= !xs.isEmpty)∨(∃xs,SqT K H p xs∧k= !xs.isEmpty)∨∃kvs,H p=some (.dK kvs)∧k= !kvs.isEmpty
 |_=>False
theorem Zg0{κ:Type}{kvs:List (κ×V)}{vs:List (κ×Value)}(r:KV kvs vs):(!vs.isEmpty)= !kvs.isEmpty:=by
 cases r<;>rfl
theorem Zdu{xs:List V}{its:List Value}(r:Zw xs its):(!its.toArray.isEmpty)= !xs.isEmpty:=by
 cases r<;>simp
theorem ZaI:(sizeLine:Nat)<2 ^ 63:=by rw[sizeLine_eq];decide
theorem Zlt:ZmP X (fun x H Q=>∃k,Zfq X.K x H k∧Q k H):=by
 intro pins s σ H x v Q I rx h;obtain⟨k,e,q⟩:=h;have hl:=ZaI;have hs:sizeLine=16777216:=sizeLine_eq;cases x with
 |non=>
  cases rx;have e':k=false:=e;subst e';exact truthy_none ⟨H,I,q⟩
 |bl b=>
  cases rx;have e':k=b:=e;subst e';exact wpAny_truthy_bool ⟨H,I,q⟩
 |int i=>
  obtain⟨t,rfl⟩:=rx;have e':k=(i != 0):=e;subst e';exact PySem.P.truthy_int ⟨H,I,q⟩
 |str y=>
  obtain⟨t,rfl⟩:=rx;obtain⟨hy,e'⟩:y.length≤sizeLine∧k=((y.length:Int) != 0):=e;subst e';exact PySem.P.truthy_str (by omega) ⟨H,I.tok _,q⟩
 |byt y=>
  obtain⟨t,rfl⟩:=rx;obtain⟨hy,e'⟩:y.size≤sizeLine∧k=((y.size:Int) != 0):=e;subst e';exact PySem.W.truthy_bytes (by omega) ⟨H,I.tok _,q⟩
 |ref p=>
  cases rx;have e':(∃xs,SqL X.K H p xs∧k= !xs.isEmpty)∨(∃xs,SqT X.K H p xs∧k= !xs.isEmpty)∨∃kvs,H p=some (.dK kvs)∧k= !kvs.isEmpty:=e;rcases e' with⟨xs,hx,e'⟩|⟨xs,hx,e'⟩|⟨kvs,hx,e'⟩
  ·subst e';obtain⟨its,r,pl,hz⟩:=I.list hx;have hlen:=r.length;exact wpAny_truthy_list pl.isList (by simp only[List.size_toArray];omega) ⟨H,I.tok _,by rw[Zdu r];exact q⟩
  ·subst e';obtain⟨its,r,pl,hz⟩:=I.tuple hx;have hlen:=r.length;exact truthy_tuple pl (by simp only[List.size_toArray];omega) ⟨H,I.tok _,by rw[Zdu r];exact q⟩
  ·subst e';obtain⟨hz,hS,vs,r,m⟩:kvs.length≤sizeLine∧(p==sysModules)=false∧∃vs,KV kvs vs∧s.heap.DictOf (ZQ X.prog X.w) p vs:=I.hok p _ hx;have hlen:kvs.length=vs.length:=Paired.length r;exact wpAny_truthy_dict hS m (by omega) ⟨H,I.tok _,by rw[Zg0 r];exact q⟩
 |_=>exact(show False from e).elim
theorem Zjt(ha:PE X a ta)(he:∀whole,isTrue a X.env whole=(do let v←whole;standAt a.pos;holding [v] (truthy v))):
  PT X a (fun σ H Q=>ta σ H fun x H'=>∃k,Zfq X.K x H' k∧Q k H'):=by
 intro pins s σ H Q I h;exact isTrue_plain (thn (ha pins s σ H _ I h) fun v s1 ⟨x,H1,I1,r1,q1⟩=>Zlt pins s1 σ H1 x v Q I1 r1 q1) (he _)
theorem Zhc:OpR X (binaryOp .Add) (fun x y H Q=>∃i j,x= .str i∧y= .str j∧i.length+j.length≤sizeLine∧Q (.str (i++j)) H):=by
 intro pins s σ H x y v u Q I rx ry h;obtain⟨i,j,rfl,rfl,hz,q⟩:=h;obtain⟨t,rfl⟩:=rx;obtain⟨t',rfl⟩:=ry;exact add_str (fun t' tk=>⟨.str (i++j),H,I.tok _,⟨_,rfl⟩,q⟩) hz
theorem Vl{x:V}{us:List Value}(r:Zw [x] us):∃u,us=[u]∧ZD x u:=by
 cases r with
 |cons r1 r2=>cases r2;exact⟨_,rfl,r1⟩
theorem ZjU{x y:V}{us:List Value}(r:Zw [x,y] us):∃u w',us=[u,w']∧ZD x u∧ZD y w':=by
 cases r with
 |cons r1 r2=>
  cases r2 with
  |cons r3 r4=>cases r4;exact⟨_,_,rfl,r1,r3⟩
theorem Zia(hc:X.calm=true):Yz X (.builtin "min") (fun xs H Q=>∃i j,xs=[.int i,.int j]∧Q (.int (if j<i then j else i)) H):=by
 intro pins s σ H xs us Q I r h;obtain⟨i,j,rfl,q⟩:=h;obtain⟨u,w',rfl,⟨t,rfl⟩,⟨t',rfl⟩⟩:=ZjU r;refine min_two_ints (I.ok.hd hc) fun h' tk k=>⟨_,H,I.kept k,?_,q⟩
 by_cases hj:j<i
 ·rw[if_pos hj,if_pos hj];exact⟨_,rfl⟩
 ·rw[if_neg hj,if_neg hj];exact⟨_,rfl⟩
def ZcO(K:PySem.W.Frag)(x:V)(H:Hp)(n:Nat):Prop:=
 match x with
 | .str y=>y.length≤sizeLine∧n=y.length
 | .byt y=>y.size≤sizeLine∧n=y.size
 | .ref p=>(∃xs,SqL K H p xs∧n=xs.length)∨∃xs,SqT K H p xs∧n=xs.length
 |_=>False
theorem ZjA:Yz X (.builtin "len") (fun xs H Q=>∃x n,xs=[x]∧ZcO X.K x H n∧Q (.int n) H):=by
 intro pins s σ H xs us Q I r h;obtain⟨x,n,rfl,e,q⟩:=h;obtain⟨u,rfl,rx⟩:=Vl r;have hl:=ZaI;have hs:sizeLine=16777216:=sizeLine_eq;cases x with
 |str y=>
  obtain⟨t,rfl⟩:=rx;obtain⟨hy,e'⟩:y.length≤sizeLine∧n=y.length:=e;subst e';exact len_str (by omega) ⟨.int _,H,I.tok _,⟨_,rfl⟩,q⟩
 |byt y=>
  obtain⟨t,rfl⟩:=rx;obtain⟨hy,e'⟩:y.size≤sizeLine∧n=y.size:=e;subst e';exact PySem.W.len_bytes (by omega) ⟨.int _,H,I.tok _,⟨_,rfl⟩,q⟩
 |ref p=>
  cases rx;have e':(∃xs,SqL X.K H p xs∧n=xs.length)∨∃xs,SqT X.K H p xs∧n=xs.length:=e;rcases e' with⟨xs,hx,e'⟩|⟨xs,hx,e'⟩
  ·subst e';obtain⟨its,r',pl,hz⟩:=I.list hx;have hlen:=r'.length;exact Calls.call_len_list pl.isList (by simp only[List.size_toArray];omega) ⟨.int xs.length,H,I.tok _,⟨_,by simp only[List.size_toArray];rw[hlen]⟩,q⟩
  ·subst e';obtain⟨its,r',pl,hz⟩:=I.tuple hx;have hlen:=r'.length;exact len_tuple pl (by simp only[List.size_toArray];omega) ⟨.int xs.length,H,I.tok _,⟨_,by simp only[List.size_toArray];rw[hlen]⟩,q⟩
 |_=>exact(show False from e).elim
end
end L2
namespace L2
open PySem PySem.Spec PyProof.Rows
structure ZcU(h:Heap)(x dx C:Addr)(mA:Str→Option Value):Prop where
 obj:h.get? x=some (PySem.W.instObj C dx)
 ns:h.Ns1 dx mA
 ne:dx≠x
theorem Zh1{h:Heap}{dx:Addr}{mA:Str→Option Value}(n:h.Ns1 dx mA):∃od,h.get? dx=some od∧∀name,PySem.W.lookIn name od=some (mA name):=by
 obtain⟨o,es,ep,ho,hd,hk,_,hm⟩:=n;refine⟨o,ho,fun name=>?_⟩;have e:=hm name;unfold nsFind findBy at e;rw[←Array.find?_toList] at e;unfold PySem.W.lookIn;rw[hd];dsimp only
 split
 ·rename_i y q;rw[q] at e;exact congrArg some e
 ·rename_i q;rw[q] at e;have a:es.toList.any (·.refKey)=false:=by
   rw[List.any_eq_false];intro y hy;obtain⟨z,t,hkey⟩:=hk y (Array.mem_toList_iff.mp hy);simp[DictEntry.refKey,hkey]
  have a':¬es.toList.any (·.refKey)=true:=by rw[a];exact Bool.false_ne_true
  rw[if_neg a'];exact congrArg some e
theorem ZcU.look{h:Heap}{x dx C:Addr}{mA:Str→Option Value}(I:ZcU h x dx C mA):∃od,PySem.W.InstAt h x (PySem.W.instObj C dx) C (some od)∧∀name,PySem.W.lookIn name od=some (mA name):=
 let⟨od,ho,hl⟩:=Zh1 I.ns
 ⟨od,⟨I.obj,rfl,rfl,ho⟩,hl⟩
section
variable {prog:Program}{w:World}{A:Around}{E:Value→Shared→Prop}{s:Shared}{K:PySem.W.Frag}{x dx C f:Addr}{mA:Str→Option Value}{name:Str}{v:Value}
theorem Zkw{expr:Bool}{Q:Value→Shared→Prop}(X:K.In s.heap)(I:ZcU s.heap x dx C mA)(hg:PySem.W.plainGet K C name=true)(hh:PySem.W.hasDictIn K C=true)
  (ha:PySem.W.findIn K (.ref C) name=some none) (hv:mA name=some v) (hv':PySem.W.handedIn v=true) (h:Q v {s with toks:=s.toks+1}):
  wpAny (model prog w) A (getAttr (.ref x) name expr) Q E s:=by
 obtain⟨od,J,hl⟩:=I.look;exact PySem.W.get_value X J (PySem.W.plainGet_of hg).1 (PySem.W.findObj_own hh ha rfl (by rw[hl,hv])) hv' h
theorem Zjs{pl:Sem Bool}{Q:Value×List Value→Shared→Prop}(X:K.In s.heap)(I:ZcU s.heap x dx C mA)(hg:PySem.W.plainGet K C name=true)
  (hf:PySem.W.findIn K (.ref C) name=some (some (.ref f))) (ht:PySem.W.isFn K (.ref f)=true) (hv:mA name=none) (h:Q (.ref f,[.ref x]) s):
  wpAny (model prog w) A (getMethod (.ref x) name pl) Q E s:=by
 obtain⟨od,J,hl⟩:=I.look;exact PySem.W.method_fn X J (PySem.W.plainGet_of hg).1 (PySem.W.plainGet_of hg).2 hf (beq_iff_eq.mp ht) (by show(PySem.W.lookIn name od).map (·.isSome)=some false;rw[hl,hv];rfl) h
theorem Zkc{ns:List Str}{Q:Unit→Shared→Prop}(X:K.In s.heap)(I:ZcU s.heap x dx C mA)
  (hs:PySem.W.findIn K (.ref C) "__setattr__" =some (some (.builtin "object.__setattr__"))) (hp:PySem.W.plainOver K C=true) (ht:PySem.W.takerIn K C name=some none) (hh:PySem.W.hasDictIn K C=true)
  (hw:PySem.Within mA ns) (hsz:ns.length≤sizeLine)
  (h:∀h',ZcU h' x dx C (fun y=>if y=name then some v else mA y)→Heap.SameBut dx s.heap h'→Q () {s with heap:=h',toks:=s.toks+2}):
  wpAny (model prog w) A (setAttr (.ref x) name v) Q E s:=by
 obtain⟨od,J,hl⟩:=I.look;refine PySem.W.set_plain X J hs (PySem.W.osa_open (s:={s with toks:=s.toks+1}) (r:=none) X J hp ht fun b=>?_);obtain⟨cd,hc,hd'⟩:=PySem.W.any_some hh;have hx:s.heap.get? x=some ⟨.ref C,some dx,.plain,#[]⟩:=I.obj;refine wpAny_bind (wpAny_pure (wpAny_bind (wpAny_bind (wpAny_loadPart hx (wpAny_bind (PySem.W.Looks.here (s:={s with toks:=s.toks+1}) (PySem.W.looks_clsIn X hc) ?_))))));rw[hd'];refine wpAny_pure (a:=some dx) (wpAny_bind (wpAny_pure (wpAny_bind ?_)));refine wpAny_nsSet1 (s:={s with toks:=s.toks+1}) I.ns fun h' hn2 hs2=>?_;obtain⟨oD,esD,epD,hoD,hdD,hcD⟩:=hn2.count (PySem.Within.cons name v hw);refine wpAny_bind (wpAny_lookBehind hoD (by rw[hdD];exact pastItsLine_dict (Nat.le_trans hcD (by rw[List.length_cons];omega))) ?_);exact wpAny_pure (h _ ⟨(hs2.2 _ (Ne.symm I.ne)).trans I.obj,hn2,I.ne⟩ hs2)
theorem Zi8{R:Result→Shared→Prop}{vs:List Value}{kw:List (Str×Value)}(X:K.In s.heap)(hm:PySem.W.makesIn K C=true)
  (hi:PySem.W.findIn K (.ref C) "__init__" =some (some (.ref f))) (hf:PySem.W.typeIn K (.ref f)=some (.type "function"))
  (h:codeAny (model prog w) (A.under (.builtin "type.__call__" ⟨.ref C::vs,kw⟩)) (.call (.ref f) ⟨.ref (s.heap.objs.size+1)::vs,kw⟩) (PySem.W.InitBack (s.heap.objs.size+1) R)
   {s with heap:=(s.heap.push PySem.W.emptyDict).push (PySem.W.instObj C s.heap.objs.size)}):
  codeAny (model prog w) A (.call (.ref C) ⟨vs,kw⟩) R s:=by
 obtain⟨hh,g,d,t,os⟩:=s;exact PySem.W.make_core (PySem.W.makes_of X hm) (PySem.W.looks_findIn X hi) (fun self=>PySem.W.bind_fn X self hf) (.inl rfl) h
end
noncomputable def YX (f:Str) (v:V):List (Str×V)→List (Str×V)
 | []=>[(f,v)]
 |(g,x)::r=>if g=f then(g,v)::r else(g,x)::YX f v r
theorem ZcG(f g:Str)(v:V):∀fs:List (Str×V),(YX f v fs).lookup g=if g=f then some v else fs.lookup g
 | []=>by
  show List.lookup g [(f,v)]=_
  by_cases h:g=f
  ·have hb:(g==f)=true:=beq_iff_eq.mpr h;simp only[List.lookup,hb,if_pos h]
  ·have hb:(g==f)=false:=beq_eq_false_iff_ne.mpr h;simp only[List.lookup,hb,if_neg h]
 |(k,x)::r=>by
  have ih:=ZcG f g v r;rw[show YX f v ((k,x)::r)=(if k=f then(k,v)::r else(k,x)::YX f v r) from rfl]
  by_cases hk:k=f
  ·rw[if_pos hk]
   by_cases h:g=k
   ·have hb:(g==k)=true:=beq_iff_eq.mpr h;simp only[List.lookup,hb,if_pos (h.trans hk)]
   ·have hb:(g==k)=false:=beq_eq_false_iff_ne.mpr h;simp only[List.lookup,hb,if_neg (fun e:g=f=>h (e.trans hk.symm))]
  ·rw[if_neg hk]
   by_cases h:g=k
   ·have hb:(g==k)=true:=beq_iff_eq.mpr h;simp only[List.lookup,hb,if_neg (fun e:g=f=>hk (h.symm.trans e))]
   ·have hb:(g==k)=false:=beq_eq_false_iff_ne.mpr h;simp only[List.lookup,hb];exact ih
theorem ZbT(f:Str)(v:V):∀fs:List (Str×V),f∈(YX f v fs).map (·.1)∧∀g,g∈fs.map (·.1)→g∈(YX f v fs).map (·.1)
 | []=>⟨by simp[YX],fun g h=>by simp at h⟩
 |(k,x)::r=>by
  obtain⟨i1,i2⟩:=ZbT f v r;rw[show YX f v ((k,x)::r)=(if k=f then(k,v)::r else(k,x)::YX f v r) from rfl]
  by_cases hk:k=f
  ·rw[if_pos hk];subst hk;exact⟨by simp,fun g h=>by simpa using h⟩
  ·rw[if_neg hk];refine⟨?_,fun g h=>?_⟩
   ·rw[List.map_cons];exact List.mem_cons_of_mem _ i1
   ·rw[List.map_cons] at h⊢;rcases List.mem_cons.mp h with e|e
    ·exact List.mem_cons.mpr (.inl e)
    ·exact List.mem_cons_of_mem _ (i2 g e)
theorem ZcC(f:Str)(v:V):∀fs:List (Str×V),(YX f v fs).length≤fs.length+1
 | []=>by simp[YX]
 |(k,x)::r=>by
  have ih:=ZcC f v r;rw[show YX f v ((k,x)::r)=(if k=f then(k,v)::r else(k,x)::YX f v r) from rfl]
  by_cases hk:k=f
  ·rw[if_pos hk,List.length_cons,List.length_cons];omega
  ·rw[if_neg hk,List.length_cons,List.length_cons];omega
theorem Ve.some_of{v:V}{o:Option Value}(r:Ve (some v) o):∃u,o=some u∧ZD v u:=by
 cases o with
 |none=>exact(show False from r).elim
 |some u=>exact⟨u,rfl,r⟩
theorem Ve.none_of{o:Option Value}(r:Ve none o):o=none:=by
 cases o with
 |none=>rfl
 |some u=>exact(show False from r).elim
theorem ZhZ{v:V}{u:Value}(r:ZD v u):PySem.W.handedIn u=true:=by
 cases v with
 |non=>cases (show u=Value.none from r);rfl
 |bl b=>cases (show u=Value.bool b from r);rfl
 |int i=>obtain⟨t,e⟩:=(show ∃t,u=Value.int i t from r);cases e;rfl
 |str x=>obtain⟨t,e⟩:=(show ∃t,u=Value.str x t from r);cases e;rfl
 |byt b=>obtain⟨t,e⟩:=(show ∃t,u=Value.bytes b t from r);cases e;rfl
 |flt b=>obtain⟨t,e⟩:=(show ∃t,u=Value.float b t from r);cases e;rfl
 |ref a=>cases (show u=Value.ref a from r);rfl
 |ty n=>cases (show u=Value.type n from r);rfl
section
variable {P:Program}{w:World}{H H':Hp}{h h':Heap}{a C dx:Addr}{fs fs':List (Str×V)}
theorem Zb4(hok:HOk P w H h)(e:H a=some (.ins C dx fs)):∃mA,ZcU h a dx C mA∧(∀f,Ve (fs.lookup f) (mA f))∧PySem.Within mA (fs.map (·.1))∧fs.length≤1000∧H dx=some (.own a):=by
 obtain⟨d,z,ne,ob,mA,n,r,q⟩:=(show ZO P w H h a (.ins C dx fs) from hok a _ e);exact⟨mA,⟨ob,n,ne⟩,r,q,z,d⟩
end
structure Cls(K:PySem.W.Frag)(C:Addr):Prop where
 pg:PySem.W.plainGet K C Str.empty=true
 hd:PySem.W.hasDictIn K C=true
 po:PySem.W.plainOver K C=true
 sa:PySem.W.findIn K (.ref C) "__setattr__" =some (some (.builtin "object.__setattr__"))
theorem Cls.get{K:PySem.W.Frag}{C:Addr}(c:Cls K C)(f:Str):PySem.W.plainGet K C f=true:=c.pg
def Wk(K:PySem.W.Frag)(C:Addr)(f:Str):Prop:=PySem.W.findIn K (.ref C) f=some none
theorem Wk.taker{K:PySem.W.Frag}{C:Addr}{f:Str}(n:Wk K C f):PySem.W.takerIn K C f=some none:=by
 unfold PySem.W.takerIn;rw[show PySem.W.findIn K (.ref C) f=some none from n]
 rfl
structure WQ(K:PySem.W.Frag)(C:Addr)(m:Str)(f:Addr):Prop where
 at_:PySem.W.findIn K (.ref C) m=some (some (.ref f))
 fn:PySem.W.isFn K (.ref f)=true
 kp:PySem.W.keepIn K (.ref f)=true
section
variable {X:Cx}{pins:List (Addr×Obj)}{σ:St}{H:Hp}{s:Shared}{a C dx:Addr}{fs:List (Str×V)}{f:Str}{v:V}{A:Around}{E:Value→Shared→Prop}
theorem Zhl{b:Bool}{Q:Value→Shared→Prop}(I:Inv X pins σ H s)(e:H a=some (.ins C dx fs))(c:Cls X.K C)(n:Wk X.K C f)(l:fs.lookup f=some v)
  (h:∀u s',Inv X pins σ H s'→ZD v u→Q u s'):wpAny (model X.prog X.w) A (getAttr (.ref a) f b) Q E s:=by
 obtain⟨mA,O,r,_,_,_⟩:=Zb4 I.hok e;obtain⟨u,hu,ru⟩:=Ve.some_of (v:=v) (o:=mA f) (by rw[←l];exact r f);exact Zkw I.kIn O (c.get f) c.hd n hu (ZhZ ru) (h u _ (I.tok _) ru)
theorem Za9{m:Str}{g:Addr}{pl:Sem Bool}{Q:Value×List Value→Shared→Prop}(I:Inv X pins σ H s)(e:H a=some (.ins C dx fs))(c:Cls X.K C)(k:WQ X.K C m g)(l:fs.lookup m=none)
  (h:Q (.ref g,[.ref a]) s):wpAny (model X.prog X.w) A (getMethod (.ref a) m pl) Q E s:=by
 obtain⟨mA,O,r,_,_,_⟩:=Zb4 I.hok e;have hn:mA m=none:=Ve.none_of (by rw[←l];exact r m);exact Zjs I.kIn O (c.get m) k.at_ k.fn hn h
theorem ZhN{y:V}{u:Value}{Q:Unit→Shared→Prop}(I:Inv X pins σ H s)(e:H a=some (.ins C dx fs))(c:Cls X.K C)(n:Wk X.K C f)(hl:fs.length<1000)(ry:ZD y u)
  (h:∀s',Inv X pins σ (upd H a (.ins C dx (YX f y fs))) s'→Q () s'):wpAny (model X.prog X.w) A (setAttr (.ref a) f u) Q E s:=by
 obtain⟨mA,O,r,wi,_,ho⟩:=Zb4 I.hok e;have hz:(fs.map (·.1)).length≤sizeLine:=by rw[List.length_map,sizeLine_eq];omega
 refine Zkc I.kIn O c.sa c.po n.taker c.hd wi hz fun h' O' sb=>h _ ?_;have hd:∃o,h'.get? dx=some o:=let⟨o,_,_,e',_⟩:=O'.ns;⟨o,e'⟩
 refine I.write (x:=a) (e:=dx) (by rw[e];exact True.intro) (.inr ho) (fun b q hb z=>(sb.2 b hb).trans z) hd ?_;refine⟨by rw[Zh O.ne];exact ho,?_,O.ne,O'.obj,_,O'.ns,fun g=>?_,fun g hg=>?_⟩
 ·have:=ZcC f y fs;omega
 ·show Ve ((YX f y fs).lookup g) (if g=f then some u else mA g);rw[ZcG]
  by_cases q:g=f
  ·rw[if_pos q,if_pos q];exact ry
  ·rw[if_neg q,if_neg q];exact r g
 ·by_cases q:g=f
  ·rw[q];exact(ZbT f y fs).1
  ·refine(ZbT f y fs).2 g (wi g fun z=>hg ?_);show(if g=f then some u else mA g)=none;rw[if_neg q];exact z
theorem Inv.made(I:Inv X pins σ H s):Inv X pins σ (upd (upd H s.heap.objs.size (.own (s.heap.objs.size+1))) (s.heap.objs.size+1) (.ins C s.heap.objs.size []))
  {s with heap:=(s.heap.push PySem.W.emptyDict).push (PySem.W.instObj C s.heap.objs.size)}:=by
 have e1:(s.heap.push PySem.W.emptyDict).get? s.heap.objs.size=some PySem.W.emptyDict:=Heap.get?_push_size s.heap rfl;have e2:((s.heap.push PySem.W.emptyDict).push (PySem.W.instObj C s.heap.objs.size)).get? (s.heap.objs.size+1)=some (PySem.W.instObj C s.heap.objs.size):=by
  have:=Heap.get?_push_size (s.heap.push PySem.W.emptyDict) (o:=PySem.W.instObj C s.heap.objs.size) rfl
  rwa [Heap.size_push] at this
 have e3:(s.heap.push PySem.W.emptyDict).Ns s.heap.objs.size (fun _=>none):=⟨PySem.W.emptyDict,#[],_,e1,rfl,(fun e he=>absurd he (by simp)),fun _=>rfl⟩;have I1:=I.laid (a:=s.heap.objs.size) (o:= .own (s.heap.objs.size+1)) (h':=s.heap.push PySem.W.emptyDict) (t':=s.toks) (fun b u q=>Heap.get?_push_of_some _ q) (Nat.le_refl _) ⟨_,e1⟩;refine I1.laid (a:=s.heap.objs.size+1) (o:= .ins C s.heap.objs.size []) (t':=s.toks) (fun b u q=>Heap.get?_push_of_some _ q) (Nat.le_of_eq (Heap.size_push _ _)) ?_;have ne:s.heap.objs.size≠s.heap.objs.size+1:=Nat.ne_of_lt (Nat.lt_succ_self _);refine⟨by rw[Zh ne,Ze],Nat.zero_le _,ne,e2,fun _=>none,(Heap.Ns1.of_empty e3).at fun o q=>Heap.get?_push_of_some _ q,fun _=>True.intro,fun y hy=>absurd rfl hy⟩
theorem Zke{prog:Program}{w:World}{env:Env}{e:Expr}{f:Str}{pos:Pos}{s:Shared}{Q:Value→Shared→Prop}(hb:attributeBase e f env (eval e env)=eval e env)
  (h:wpAny (model prog w) A (eval e env) (fun o s₁=>wpAny (model prog w) A (getAttr o f true) Q E s₁) E s):wpAny (model prog w) A (eval (.Attribute e f pos) env) Q E s:=
 Attribute_any_ h (by rw[arm_eval_Attribute,hb])
end
noncomputable def Zi1 (K:PySem.W.Frag) (ta:TE) (f:Str):TE:=fun σ H Q=>ta σ H fun x H1=>∃a C dx fs v,x= .ref a∧H1 a=some (.ins C dx fs)∧Cls K C∧Wk K C f∧fs.lookup f=some v∧Q v H1
noncomputable def ZiQ (K:PySem.W.Frag) (ta tv:TE) (f:Str):TS:=fun D σ H=>tv σ H fun y H1=>ta σ H1 fun x H2=>∃a C dx fs,x= .ref a∧H2 a=some (.ins C dx fs)∧Cls K C∧Wk K C f∧fs.length<1000∧
 D.nx σ (upd H2 a (.ins C dx (YX f y fs)))
section
variable {X:Cx}{o e value:Expr}{f:Str}{pos pos' tpos:Pos}{ta tv:TE}
theorem ZkZ(he:PE X e ta)(hb:attributeBase e f X.env (eval e X.env)=eval e X.env):PE X (.Attribute e f pos) (Zi1 X.K ta f):=by
 intro pins s σ H Q I h;refine Zke hb (thn (he pins s σ H _ I h) fun u s1 ⟨x,H1,I1,rx,a,C,dx,fs,v,ex,ea,c,n,l,q⟩=>?_);subst ex;obtain rfl:u=Value.ref a:=rx;exact Zhl I1 ea c n l fun u' s2 I2 ru=>⟨v,H1,I2,ru,q⟩
theorem ZlB(ha:PE X o ta)(hv:PE X value tv)(hs:swapsWith value (some (.Attribute o f pos')) pos.line X.env=pure false):PS X (.Assign [.Attribute o f pos'] value pos) (ZiQ X.K ta tv f):=by
 intro pins s σ H D I h;refine plainObj_wpAny_Assign_Attribute (thn (hv pins s σ H _ I h) fun u s1 ⟨y,H1,I1,ry,q⟩=>thn (ha pins s1 σ H1 _ I1 q) fun ov s2 ⟨x,H2,I2,rx,a,C,dx,fs,ex,ea,c,n,l,q2⟩=>?_) hs;subst ex;obtain rfl:ov=Value.ref a:=rx;exact ZhN I2 ea c n l ry fun s3 I3=>⟨σ,_,I3,q2⟩
theorem ZlW{pl:Sem Bool}{m:Str}{apos:Pos}{args:List Expr}{pins:List (Addr×Obj)}{s:Shared}{σ:St}{H:Hp}{Q:Value→Shared→Prop}{te:TE}(he:PE X e te)(I:Inv X pins σ H s)
  (h:te σ H fun x H1=>∃a C dx fs g,x= .ref a∧H1 a=some (.ins C dx fs)∧Cls X.K C∧WQ X.K C m g∧fs.lookup m=none∧
   ∀s1,Inv X pins σ H1 s1→wpAny (model X.prog X.w) X.A (callWith pos (.ref g) [.ref a] (backTo pos (starEach args X.env)) (backToKw pos (keywordEach [] X.env))) Q X.xe s1)
  (ht:eval (.Call (.Attribute e m apos) args [] pos) X.env=(do
   let ov←eval e X.env
   standAt apos.atName
   let(f,first)←holding [ov] (getMethod ov m pl)
   callWith pos f first (backTo pos (starEach args X.env)) (backToKw pos (keywordEach [] X.env)))):
  wpAny (model X.prog X.w) X.A (eval (.Call (.Attribute e m apos) args [] pos) X.env) Q X.xe s:=by
 refine PySem.W.methodCall_KW (pl:=pl) (thn (he pins s σ H _ I h) fun u s1 ⟨x,H1,I1,rx,a,C,dx,fs,g,ex,ea,c,k,l,q⟩=>?_) ht;subst ex;obtain rfl:u=Value.ref a:=rx;exact Za9 I1 ea c k l (q s1 I1)
end
section
variable {X:Cx}{pins:List (Addr×Obj)}{σ:St}{H:Hp}{s:Shared}{A:Around}{E:Value→Shared→Prop}{Q:Value→Shared→Prop}{c:Value}{b:Bool}
inductive WC(K:PySem.W.Frag)(H:Hp):V→Value→Prop where
 |non:WC K H .non (.type "NoneType")
 |bl (x:Bool):WC K H (.bl x) (.type "bool")
 |int (i:Int):WC K H (.int i) (.type "int")
 |str (x:Str):WC K H (.str x) (.type "str")
 |flt (x:UInt64):WC K H (.flt x) (.type "float")
 |lst {a:Addr} {xs:List V} (e:H a=some (.lst xs)):WC K H (.ref a) (.type "list")
 |frz {a:Addr} {o:Obj} {xs:List V} (e:H a=some (.frz o (.lst xs))):WC K H (.ref a) (.type "list")
 |tup {a:Addr} {xs:List V} (e:H a=some (.tup xs)):WC K H (.ref a) (.type "tuple")
 |dK {a:Addr} {kvs:List (Key×V)} (e:H a=some (.dK kvs)):WC K H (.ref a) (.type "dict")
 |dT {a:Addr} {kvs:List (List Key×V)} (e:H a=some (.dT kvs)):WC K H (.ref a) (.type "dict")
 |ins {a C dx:Addr} {fs:List (Str×V)} (e:H a=some (.ins C dx fs)) (cl:Cls K C) (ha:PySem.W.findIn K (.ref C) "__class__" =some (some (.builtin "object.__class__")))
   (hn:PySem.W.specialIn K (.builtin "object.__class__") "__get__" =some (some (.builtin "getset_descriptor.__get__"))) (htk:PySem.W.takesIn K (.builtin "object.__class__")=some true)
   (hm:PySem.W.mroIn K C (.type "object")=some true):WC K H (.ref a) (.ref C)
theorem Zih{x:V}{u t:Value}(I:Inv X pins σ H s)(rx:ZD x u)(ty:WC X.K H x t)(e:PySem.W.kitOne X.K t c=some b)(h:∀tk,Q (.bool b) {s with toks:=tk}):
  wpAny (model X.prog X.w) A (call (.builtin "isinstance") [u,c]) Q E s:=by
 cases ty with
 |non=>cases (show u=Value.none from rx);exact PySem.W.kia_one PySem.W.kitx_none I.kIn True.intro e (fun z=>nomatch z) h
 |bl y=>cases (show u=Value.bool y from rx);exact PySem.W.kia_one PySem.W.kitx_bool I.kIn True.intro e (fun z=>nomatch z) h
 |int i=>obtain⟨t,q⟩:=(show ∃t,u=Value.int i t from rx);cases q;exact PySem.W.kia_one PySem.W.kitx_int I.kIn True.intro e (fun z=>nomatch z) h
 |str y=>obtain⟨t,q⟩:=(show ∃t,u=Value.str y t from rx);cases q;exact PySem.W.kia_one PySem.W.kitx_str I.kIn True.intro e (fun z=>nomatch z) h
 |flt y=>obtain⟨t,q⟩:=(show ∃t,u=Value.float y t from rx);cases q;exact PySem.W.kia_one PySem.W.kitx_float I.kIn True.intro e (fun z=>nomatch z) h
 | @lst a xs ea=>
  cases (show u=Value.ref a from rx);obtain⟨_,_,n,_,h1⟩:=(show ZO X.prog X.w H s.heap a (.lst xs) from I.hok a _ ea);exact PySem.W.kia_one PySem.W.kitx_list I.kIn ⟨_,h1,rfl⟩ e (fun z=>nomatch z) h
 | @frz a ob xs ea=>
  cases (show u=Value.ref a from rx);obtain⟨_,_,_,n,_,h1⟩:=(show ZO X.prog X.w H s.heap a (.frz ob (.lst xs)) from I.hok a _ ea);exact PySem.W.kia_one PySem.W.kitx_list I.kIn ⟨_,h1,rfl⟩ e (fun z=>nomatch z) h
 | @tup a xs ea=>
  cases (show u=Value.ref a from rx);obtain⟨_,_,_,p⟩:=(show ZO X.prog X.w H s.heap a (.tup xs) from I.hok a _ ea);obtain⟨o,h1,h2,_⟩:=p;exact PySem.W.kia_one PySem.W.kitx_tuple I.kIn ⟨o,h1,h2⟩ e (fun z=>nomatch z) h
 | @dK a kvs ea=>
  cases (show u=Value.ref a from rx);obtain⟨_,_,vs,_,p⟩:=(show ZO X.prog X.w H s.heap a (.dK kvs) from I.hok a _ ea);obtain⟨o,es,ep,h1,h2,_⟩:=p;exact PySem.W.kia_one PySem.W.kitx_dict I.kIn ⟨o,h1,h2.1⟩ e (fun z=>nomatch z) h
 | @dT a kvs ea=>
  cases (show u=Value.ref a from rx);obtain⟨_,_,xs,_,o,es,ep,h1,h2,_⟩:=(show ZO X.prog X.w H s.heap a (.dT kvs) from I.hok a _ ea);exact PySem.W.kia_one PySem.W.kitx_dict I.kIn ⟨o,h1,h2.1⟩ e (fun z=>nomatch z) h
 | @ins a C dx fs ea cl ha hn htk hm=>
  cases (show u=Value.ref a from rx);obtain⟨mA,O,_⟩:=Zb4 I.hok ea;obtain⟨od,J,_⟩:=O.look;exact PySem.W.kia_one (PySem.W.kitx_own (cl.get _) cl.hd ha hn htk hm) I.kIn J e (fun z=>nomatch z) h
end
end L2
namespace L2
open PySem PySem.Spec PyProof.Rows
structure YB(k:Nat)(A:Around):Prop where
 hd:A.handled=none
 dp:A.depth+3*k+5<recursionLimit
 un:A.units+16*k+200<cLine
theorem YB.mono{j k:Nat}{A:Around}(r:YB k A)(h:j≤k):YB j A:=⟨r.hd,by have:=r.dp;omega,by have:=r.un;omega⟩
theorem YB.deeper{k:Nat}{A:Around}(r:YB (k+1) A)(env:Env):YB k (A.deeper env):=
 ⟨r.hd,by have:=r.dp;show A.depth+1+3*k+5<_;omega,by have:=r.un;show A.units+3+16*k+200<_;omega⟩
theorem ZgZ{A:Around}{C:Addr}{us:List Value}{kw:List (Str×Value)}:(A.under (.builtin "type.__call__" ⟨.ref C::us,kw⟩)).depth=A.depth+1:=by
 first|rfl|simp[Around.under,Code.weight,Code.isCreation,Code.isGuard,Code.isCaller,Code.frames,Code.isFrame,guardIds]
theorem Zg5{A:Around}{C:Addr}{us:List Value}{kw:List (Str×Value)}:(A.under (.builtin "type.__call__" ⟨.ref C::us,kw⟩)).units=A.units+1:=by
 first|rfl|simp[Around.under,Code.cUnits,Code.frames,Code.isFrame]
theorem YB.make{k:Nat}{A:Around}(r:YB (k+1) A)(C:Addr)(us:List Value)(kw:List (Str×Value)):YB k (A.under (.builtin "type.__call__" ⟨.ref C::us,kw⟩)):=
 ⟨r.hd,by have:=r.dp;rw[ZgZ];omega,by have:=r.un;rw[Zg5];omega⟩
theorem YB.depth{k:Nat}{A:Around}(r:YB k A):A.depth<recursionLimit:=by have:=r.dp;omega
theorem YB.units{k:Nat}{A:Around}(r:YB k A):A.units+64<cLine:=by have:=r.un;omega
noncomputable def tNil:TA:=fun _ H Q=>Q [] H
noncomputable def ZjZ (ta:TE) (tr:TA):TA:=fun σ H Q=>ta σ H fun x H1=>tr σ H1 fun xs H2=>Q (x::xs) H2
section
variable {X:Cx}{e:Expr}{es:List Expr}{te:TE}{t:TA}{pos:Pos}
theorem Zb:PA X [] tNil:=fun _ _ _ _ H Q I h=>Calls.spliced_nil ⟨[],H,I,.nil,h⟩
theorem Za(ha:PE X e te)(hr:PA X es t)(hs:starEach (e::es) X.env=(false,eval e X.env)::starEach es X.env:=by rfl):PA X (e::es) (ZjZ te t):=by
 intro pos pins s σ H Q I h;rw[hs];show wpAny _ _ (spliced ((false,eval e X.env)::backTo pos (starEach es X.env))) _ _ s;refine Calls.spliced_cons (thn (ha pins s σ H _ I h) fun u s1 ⟨x,H1,I1,r1,q1⟩=>?_);exact thn (hr pos pins s1 σ H1 _ I1 q1) fun us s2 ⟨xs,H2,I2,r2,q2⟩=>⟨x::xs,H2,I2,.cons r1 r2,q2⟩
noncomputable def ZlG (t:TA):TE:=fun σ H Q=>t σ H fun xs H1=>xs.length≤sizeLine∧∀p,H1 p=none→Q (.ref p) (upd H1 p (.tup xs))
noncomputable def Zjd (t:TA):TE:=fun σ H Q=>t σ H fun xs H1=>xs.length≤sizeLine∧∀p,H1 p=none→Q (.ref p) (upd H1 p (.lst xs))
theorem Yu{x1}(h:PA X es t):PE X (.Tuple es x1 pos) (ZlG t):=by
 intro pins s σ H Q I hq;refine wpAny_Tuple_spliced (thn (h pos pins s σ H _ I hq) fun us s1 ⟨xs,H1,I1,r,z,q⟩=>⟨by rw[←r.length];exact z,?_⟩);have hf:H1 s1.heap.objs.size=none:=I1.hok.fresh (Nat.le_refl _);refine⟨.ref s1.heap.objs.size,upd H1 s1.heap.objs.size (.tup xs),I1.laid (t':=s1.toks) (fun b u e=>Heap.get?_push_of_some _ e) (Nat.le_refl _) ?_,rfl,q _ hf⟩;exact⟨z,us,r,⟨_,Heap.get?_push_size _ rfl,rfl,_,rfl⟩⟩
theorem YH(h:PA X es t):PE X (.List es pos) (Zjd t):=by
 intro pins s σ H Q I hq;refine wpAny_List_spliced (thn (h pos pins s σ H _ I hq) fun us s1 ⟨xs,H1,I1,r,z,q⟩=>⟨by rw[←r.length];exact z,?_⟩);have hf:H1 s1.heap.objs.size=none:=I1.hok.fresh (Nat.le_refl _);refine⟨.ref s1.heap.objs.size,upd H1 s1.heap.objs.size (.lst xs),I1.laid (t':=s1.toks) (fun b u e=>Heap.get?_push_of_some _ e) (Nat.le_refl _) ?_,rfl,q _ hf⟩;exact⟨z,us,0,r,Heap.get?_push_size _ rfl⟩
end
noncomputable abbrev Sp:=List V→Hp→VK→XK→Prop
noncomputable abbrev CXT:=List Env→Hp→Shared→XK→Value→Shared→Prop
structure ZcN(P:Program)(w:World)(K:PySem.W.Frag)(mg:Str→Option Value)(base:Heap)(A:Around)(outer:List Env)(s:Shared)(H:Hp):Prop where
 frames:A.frames=some outer
 mod:Mod K mg base
 bs:∀b o,base.get? b=some o→s.heap.get? b=some o∧H b=none
 bsz:base.objs.size≤s.heap.objs.size
 funs:s.heap.FunFrames base outer
 frf:∀b∈frs outer,H b=none
 hok:HOk P w H s.heap
 bare:AllBare s.gens
def CE(outer:List Env)(P:Program)(w:World)(H:Hp)(s:Shared)(Q:VK)(u:Value)(s':Shared):Prop:=
 ∃v H',s'.os=s.os∧AllBare s'.gens∧Un (frs outer) [] H H' s.heap s'.heap∧HOk P w H' s'.heap∧ZD v u∧Q v H'
def CR(CX:CXT)(outer:List Env)(P:Program)(w:World)(H:Hp)(s:Shared)(Q:VK)(E:XK)(r:Result)(s':Shared):Prop:=
 match r with
 | .ok (.ret u)=>CE outer P w H s Q u s'
 | .ok _=>False
 | .error e=>CX outer H s E e s'
structure Zl(P:Program)(w:World)(K:PySem.W.Frag)(mg:Str→Option Value)(base:Heap)(CX:CXT)(k:Nat)(f:Addr)(fd:FuncData)(ps:List Str)(sp:Sp):Prop where
 len:∀vs H Q E,sp vs H Q E→vs.length=ps.length
 run:∀(A:Around)(outer:List Env)(s:Shared)(H:Hp)(args:Args)(us:List Value)(vs:List V)(Q:VK)(E:XK),YB k A→ZcN P w K mg base A outer s H→BindsTo s fd args (ps.zip us)→Zw vs us→sp vs H Q E→
  codeAny (model P w) A (.call (.ref f) args) (CR CX outer P w H s Q E) s
theorem Zl.mono{P:Program}{w:World}{K:PySem.W.Frag}{mg:Str→Option Value}{base:Heap}{CX:CXT}{j k:Nat}{f:Addr}{fd:FuncData}{ps:List Str}{sp:Sp}(F:Zl P w K mg base CX j f fd ps sp)(h:j≤k):
  Zl P w K mg base CX k f fd ps sp:=⟨F.len,fun A outer s H args us vs Q E hr=>F.run A outer s H args us vs Q E (hr.mono h)⟩
theorem ZcN.make{P:Program}{w:World}{K:PySem.W.Frag}{mg:Str→Option Value}{base:Heap}{A:Around}{outer:List Env}{s:Shared}{H:Hp}(e:ZcN P w K mg base A outer s H)(C:Addr)(us:List Value)(kw:List (Str×Value)):
  ZcN P w K mg base (A.under (.builtin "type.__call__" ⟨.ref C::us,kw⟩)) outer s H:=⟨by first|exact e.frames|(simpa[Around.under,Code.envs,Code.isFrame,pushEnvs] using e.frames),e.mod,e.bs,e.bsz,e.funs,e.frf,e.hok,e.bare⟩
section
variable {X:Cx}{pins:List (Addr×Obj)}{σ:St}{H:Hp}{s s':Shared}
theorem Inv.env0(I:Inv X pins σ H s):ZcN X.prog X.w X.K X.mg X.base X.A X.stack s H:=
 ⟨I.ok.frames,I.ok.mod,I.bs,Nat.le_trans I.ok.bsz I.sz,I.stack,I.stkFree,I.hok,I.bare⟩
theorem Inv.after{Q:VK}{u:Value}(I:Inv X pins σ H s)(h:CE X.stack X.prog X.w H s Q u s'):EP X pins σ Q u s':=by
 obtain⟨v,H',os,bare,un,hok,r,q⟩:=h;obtain⟨hh,g,d,t,os'⟩:=s';obtain rfl:os'=s.os:=os;exact⟨v,H',I.call (h':=hh) (g':=g) (d':=d) (t':=t) (ch:=[]) un hok bare (fun b z=>absurd z (by simp)),r,q⟩
end
noncomputable def ZjY (sp:Sp) (dvs:List V) (E:XK) (t:TA):TE:=fun σ H Q=>t σ H fun vs H1=>sp (vs++dvs) H1 Q E
noncomputable def Zhk (C:Addr) (m:Str) (sp:Sp) (dvs:List V) (E:XK) (ta:TE) (t:TA):TE:=fun σ H Q=>ta σ H fun x H1=>∃a dx fs,x= .ref a∧H1 a=some (.ins C dx fs)∧fs.lookup m=none∧
 t σ H1 fun vs H2=>sp (x::(vs++dvs)) H2 Q E
noncomputable def ZgS (C:Addr) (sp:Sp) (dvs:List V) (E:XK) (t:TA):TE:=fun σ H Q=>t σ H fun vs H1=>∀x dx,H1 x=none→H1 dx=none→dx≠x→
 sp (.ref x::(vs++dvs)) (upd (upd H1 dx (.own x)) x (.ins C dx [])) (fun v H2=>v= .non∧Q (.ref x) H2) E
def ZA(K:PySem.W.Frag)(fd:FuncData)(ps:List Str)(ds:List Value):Prop:=
 ∀(s:Shared)(us:List Value),K.In s.heap→(us++ds).length=ps.length→BindsTo s fd ⟨us,[]⟩ (ps.zip (us++ds))
theorem ZA.all{K:PySem.W.Frag}{fd:FuncData}{ps:List Str}(h:∀us:List Value,us.length=ps.length→bindArgs fd ⟨us,[]⟩=pure (ps.zip us)):ZA K fd ps []:=fun s us _ hl=>by
 rw[List.append_nil] at hl⊢;exact .of_eq (h us hl)
def VJ(CX:CXT)(X:Cx)(E:XK):Prop:=∀(pins:List (Addr×Obj))(σ:St)(H:Hp)(s:Shared)(e:Value)(s':Shared),Inv X pins σ H s→CX X.stack H s E e s'→X.xe e s'
section
variable {X:Cx}{CX:CXT}{k:Nat}{f C:Addr}{fd:FuncData}{ps:List Str}{sp:Sp}{dvs:List V}{ds:List Value}{E:XK}{x m:Str}{p pos apos:Pos}{e o:Expr}{es:List Expr}{ta:TE}{t:TA}
theorem ZeT{pins:List (Addr×Obj)}{σ:St}{H:Hp}{s:Shared}{Q:VK}{us:List Value}{vs:List V}(F:Zl X.prog X.w X.K X.mg X.base CX k f fd ps sp)(hr:YB k X.A)(hb:ZA X.K fd ps ds)(hd:Zw dvs ds)(hx:VJ CX X E)
  (I:Inv X pins σ H s) (r:Zw vs us) (h:sp (vs++dvs) H Q E):wpAny (model X.prog X.w) X.A (call (.ref f) us) (EP X pins σ Q) X.xe s:=by
 have r2:Zw (vs++dvs) (us++ds):=r.append hd;have hl:(us++ds).length=ps.length:=by rw[←r2.length];exact F.len _ _ _ _ h
 refine wpAny_call (codeAny_mono (F.run X.A X.stack s H ⟨us,[]⟩ (us++ds) (vs++dvs) Q E hr I.env0 (hb s us I.kIn hl) r2 h) fun r s' hq=>?_);cases r with
 |error e=>exact hx pins σ H s e s' I hq
 |ok fl=>
  cases fl with
  |ret u=>exact I.after hq
  |next=>exact False.elim hq
  |brk=>exact False.elim hq
  |cont=>exact False.elim hq
theorem Zn(F:Zl X.prog X.w X.K X.mg X.base CX k f fd ps sp)(hr:YB k X.A)(hg:Gl X x)(hm:X.mg x=some (.ref f))(hk:PySem.W.keepIn X.K (.ref f)=true)(hb:ZA X.K fd ps ds)(hd:Zw dvs ds)(hx:VJ CX X E)
  (ha:PA X (e::es) t) (hdb:(x==("__debug__" :Str))=false:=by decide) (he:starEach (e::es) X.env=(false,eval e X.env)::starEach es X.env:=by rfl) (hpl:(backTo pos (starEach es X.env)).any (·.1)=false:=by rfl):
  PE X (.Call (.Name x p) (e::es) [] pos) (ZjY sp dvs E t):=by
 intro pins s σ H Q I h;refine wpAny_Call_Name_kw (V7 I hg hm ?_ hdb);refine PySem.W.callWith_K (h₀:=X.base) I.ok.mod.kin hk (thn (ha pos pins s σ H _ I h) fun us s1 ⟨vs,H1,I1,r,q⟩=>⟨I1.kIn,?_⟩) he hpl;exact ZeT F hr hb hd hx I1 r q
theorem ZV{pl:Sem Bool}(he:PE X o ta)(c:Cls X.K C)(hm:WQ X.K C m f)(F:Zl X.prog X.w X.K X.mg X.base CX k f fd ps sp)(hr:YB k X.A)(hb:ZA X.K fd ps ds)(hd:Zw dvs ds)(hx:VJ CX X E)(ha:PA X (e::es) t)
  (hst:starEach (e::es) X.env=(false,eval e X.env)::starEach es X.env:=by rfl) (hpl:(backTo pos (starEach es X.env)).any (·.1)=false:=by rfl)
  (ht:eval (.Call (.Attribute o m apos) (e::es) [] pos) X.env=(do
   let ov←eval o X.env
   standAt apos.atName
   let(f,first)←holding [ov] (getMethod ov m pl)
   callWith pos f first (backTo pos (starEach (e::es) X.env)) (backToKw pos (keywordEach [] X.env))):=by rfl):
  PE X (.Call (.Attribute o m apos) (e::es) [] pos) (Zhk C m sp dvs E ta t):=by
 intro pins s σ H Q I h;refine PySem.W.methodCall_KW (pl:=pl) (thn (he pins s σ H _ I h) fun u s1 ⟨x,H1,I1,rx,a,dx,fs,ex,ea,l,q⟩=>?_) ht;subst ex;obtain rfl:u=Value.ref a:=rx;refine Za9 I1 ea c hm l ?_;refine PySem.W.callWith_K (first:=[.ref a]) (h₀:=X.base) I.ok.mod.kin hm.kp (thn (ha pos pins s1 σ H1 _ I1 q) fun us s2 ⟨vs,H2,I2,r,q2⟩=>⟨I2.kIn,?_⟩) hst hpl;exact ZeT (us:= .ref a::us) (vs:= .ref a::vs) F hr hb hd hx I2 (.cons rfl r) q2
theorem Z3{pl:Sem Bool}(he:PE X o ta)(c:Cls X.K C)(hm:WQ X.K C m f)(F:Zl X.prog X.w X.K X.mg X.base CX k f fd ps sp)(hr:YB k X.A)(hb:ZA X.K fd ps ds)(hd:Zw dvs ds)(hx:VJ CX X E)
  (ht:eval (.Call (.Attribute o m apos) [] [] pos) X.env=(do
   let ov←eval o X.env
   standAt apos.atName
   let(f,first)←holding [ov] (getMethod ov m pl)
   callWith pos f first (backTo pos (starEach [] X.env)) (backToKw pos (keywordEach [] X.env))):=by rfl):
  PE X (.Call (.Attribute o m apos) [] [] pos) (Zhk C m sp dvs E ta tNil):=by
 intro pins s σ H Q I h;refine PySem.W.methodCall_KW (pl:=pl) (thn (he pins s σ H _ I h) fun u s1 ⟨x,H1,I1,rx,a,dx,fs,ex,ea,l,q⟩=>?_) ht;subst ex;obtain rfl:u=Value.ref a:=rx;refine Za9 I1 ea c hm l ?_;exact PySem.W.callWith_K0 (first:=[.ref a]) I1.kIn hm.kp (ZeT (us:=[.ref a]) (vs:=[.ref a]) F hr hb hd hx I1 (.cons rfl .nil) q)
structure Mk(K:PySem.W.Frag)(C f:Addr):Prop where
 makes:PySem.W.makesIn K C=true
 init:PySem.W.findIn K (.ref C) "__init__" =some (some (.ref f))
 fn:PySem.W.isFn K (.ref f)=true
 kp:PySem.W.keepIn K (.ref C)=true
theorem ZfM{pins:List (Addr×Obj)}{σ:St}{H:Hp}{s:Shared}{Q:VK}{us:List Value}{vs:List V}(M:Mk X.K C f)(F:Zl X.prog X.w X.K X.mg X.base CX k f fd ps sp)(hr:YB (k+1) X.A)(hb:ZA X.K fd ps ds)(hd:Zw dvs ds)
  (hx:VJ CX X E) (I:Inv X pins σ H s) (r:Zw vs us)
  (h:∀x dx,H x=none→H dx=none→dx≠x→sp (.ref x::(vs++dvs)) (upd (upd H dx (.own x)) x (.ins C dx [])) (fun v H2=>v= .non∧Q (.ref x) H2) E):
  wpAny (model X.prog X.w) X.A (call (.ref C) us) (EP X pins σ Q) X.xe s:=by
 have hq:=h (s.heap.objs.size+1) s.heap.objs.size (I.hok.fresh (Nat.le_succ _)) (I.hok.fresh (Nat.le_refl _)) (Nat.ne_of_lt (Nat.lt_succ_self _));have I2:=Inv.made (C:=C) I;have r2:Zw (V.ref (s.heap.objs.size+1)::(vs++dvs)) (Value.ref (s.heap.objs.size+1)::(us++ds)):= .cons rfl (r.append hd);have hl:(Value.ref (s.heap.objs.size+1)::us++ds).length=ps.length:=by
  have e:=r2.length;rw[F.len _ _ _ _ hq] at e;exact e.symm
 refine wpAny_call (Zi8 (f:=f) I.kIn M.makes M.init (beq_iff_eq.mp M.fn) (codeAny_mono (F.run _ X.stack _ _ ⟨Value.ref (s.heap.objs.size+1)::us,[]⟩ (Value.ref (s.heap.objs.size+1)::(us++ds)) _ _ E (hr.make C us [])
  (I2.env0.make C us []) (hb _ (Value.ref (s.heap.objs.size+1)::us) I2.kIn hl) r2 hq) fun r s' hq'=>?_))
 cases r with
 |error e=>exact hx pins σ _ _ e s' I2 hq'
 |ok fl=>
  cases fl with
  |ret u=>
   obtain⟨v,H',I3,rv,ev,q3⟩:=I2.after hq';subst ev;exact⟨rv,⟨V.ref (s.heap.objs.size+1),H',I3,rfl,q3⟩⟩
  |next=>exact False.elim hq'
  |brk=>exact False.elim hq'
  |cont=>exact False.elim hq'
theorem Zks(M:Mk X.K C f)(F:Zl X.prog X.w X.K X.mg X.base CX k f fd ps sp)(hr:YB (k+1) X.A)(hg:Gl X x)(hm:X.mg x=some (.ref C))(hb:ZA X.K fd ps ds)(hd:Zw dvs ds)(hx:VJ CX X E)
  (ha:PA X (e::es) t) (hdb:(x==("__debug__" :Str))=false:=by decide) (he:starEach (e::es) X.env=(false,eval e X.env)::starEach es X.env:=by rfl) (hpl:(backTo pos (starEach es X.env)).any (·.1)=false:=by rfl):
  PE X (.Call (.Name x p) (e::es) [] pos) (ZgS C sp dvs E t):=by
 intro pins s σ H Q I h;refine wpAny_Call_Name_kw (V7 I hg hm ?_ hdb);refine PySem.W.callWith_K (h₀:=X.base) I.ok.mod.kin M.kp (thn (ha pos pins s σ H _ I h) fun us s1 ⟨vs,H1,I1,r,q⟩=>⟨I1.kIn,?_⟩) he hpl;exact ZfM M F hr hb hd hx I1 r q
theorem ZeO(M:Mk X.K C f)(F:Zl X.prog X.w X.K X.mg X.base CX k f fd ps sp)(hr:YB (k+1) X.A)(hg:Gl X x)(hm:X.mg x=some (.ref C))(hb:ZA X.K fd ps ds)(hd:Zw dvs ds)(hx:VJ CX X E)
  (hdb:(x==("__debug__" :Str))=false:=by decide):PE X (.Call (.Name x p) [] [] pos) (ZgS C sp dvs E tNil):=by
 intro pins s σ H Q I h;refine wpAny_Call_Name_kw (V7 I hg hm ?_ hdb);exact PySem.W.callWith_K0 I.kIn M.kp (ZfM (us:=[]) M F hr hb hd hx I .nil h)
end
section
variable {X:Cx}{CX:CXT}{k:Nat}{f C:Addr}{fd:FuncData}{ps ks:List Str}{sp:Sp}{E:XK}{x m:Str}{p pos apos kpos:Pos}{e o:Expr}{es:List Expr}{kws:List Keyword}{te ta:TE}{t tk:TA}{nm:Option Str}
variable {g:List Value→List Value→List Value}{gV:List V→List V→List V}
end
structure Zs(N P:List Str)(sc:Scope):Prop where
 kind:sc.kind= .function
 co:sc.isCoroutine=false
 gen:sc.isGenerator=false
 nd:N.Nodup
 pre:N.take P.length=P
 par:∀x∈P,sc.names.lookup x=some .local∨sc.names.lookup x=some .cell
 nofree:∀y∈sc.names,y.2≠ .free
theorem Zd1{kindOf:Str→Option NameKind}{x:Str}:∀{binds:List (Str×Value)}{m:Str→Option Value},(∀v,(x,v)∉binds)→bindL kindOf binds m x=m x
 | [],_,_=>rfl
 |(n,v)::r,m,h=>by
  unfold bindL;rw[Zd1 fun w hw=>h w (List.mem_cons_of_mem _ hw)]
  split
  ·have:x≠n:=by rintro rfl;exact h v List.mem_cons_self
   simp[this]
  ·rfl
theorem ZdX{kindOf:Str→Option NameKind}{x:Str}:∀{binds:List (Str×Value)}{m:Str→Option Value},(∀v,(x,v)∉binds)→bindC kindOf binds m x=m x
 | [],_,_=>rfl
 |(n,v)::r,m,h=>by
  unfold bindC;rw[ZdX fun w hw=>h w (List.mem_cons_of_mem _ hw)]
  split
  ·rfl
  ·have:x≠n:=by rintro rfl;exact h v List.mem_cons_self
   simp[this]
theorem Zer{kindOf:Str→Option NameKind}{x:Str}{v:Value}:∀{P:List Str}{vs:List Value}{i:Nat}{m:Str→Option Value},P.Nodup→P[i]? =some x→vs[i]? =some v→kindOf x=some .local→
  bindL kindOf (P.zip vs) m x=some v
 | [],_,_,_,_,h,_,_=>by simp at h
 |_::_,[],_,_,_,_,h,_=>by simp at h
 |p::P,w::vs,0,m,nd,h1,h2,hk=>by
  simp at h1 h2;subst h1;subst h2;show bindL kindOf ((p,w)::P.zip vs) m p=_;unfold bindL;rw[Zd1 fun v hv=>(List.nodup_cons.mp nd).1 (List.of_mem_zip hv).1,if_pos hk];simp
 |p::P,w::vs,i+1,m,nd,h1,h2,hk=>by
  show bindL kindOf ((p,w)::P.zip vs) m x=_;unfold bindL;exact Zer (i:=i) (List.nodup_cons.mp nd).2 (by simpa using h1) (by simpa using h2) hk
theorem Zep{kindOf:Str→Option NameKind}{x:Str}{v:Value}:∀{P:List Str}{vs:List Value}{i:Nat}{m:Str→Option Value},P.Nodup→P[i]? =some x→vs[i]? =some v→kindOf x≠some .local→
  bindC kindOf (P.zip vs) m x=some v
 | [],_,_,_,_,h,_,_=>by simp at h
 |_::_,[],_,_,_,_,h,_=>by simp at h
 |p::P,w::vs,0,m,nd,h1,h2,hk=>by
  simp at h1 h2;subst h1;subst h2;show bindC kindOf ((p,w)::P.zip vs) m p=_;unfold bindC;rw[ZdX fun v hv=>(List.nodup_cons.mp nd).1 (List.of_mem_zip hv).1,if_neg hk];simp
 |p::P,w::vs,i+1,m,nd,h1,h2,hk=>by
  show bindC kindOf ((p,w)::P.zip vs) m x=_;unfold bindC;exact Zep (i:=i) (List.nodup_cons.mp nd).2 (by simpa using h1) (by simpa using h2) hk
noncomputable def start (N:List Str) (vs:List V):St:=vs.map some++List.replicate (N.length-vs.length) none
noncomputable def ZJ (CX:CXT) (P:Program) (w:World) (K:PySem.W.Frag) (mg:Str→Option Value) (base:Heap) (N:List Str) (qual:Str) (scope:Scope) (f:Addr) (cd:Value) (A:Around) (outer:List Env) (s:Shared) (H:Hp) (E:XK):Cx where
 prog:=P
 w:=w
 K:=K
 mg:=mg
 base:=base
 A:=A.deeper (envOfC qual scope s.heap.objs.size f cd)
 N:=N
 s₀:=s
 H₀:=H
 env:=envOfC qual scope s.heap.objs.size f cd
 outer:=outer
 stack:=envOfC qual scope s.heap.objs.size f cd::outer
 ex:=[]
 calm:=true
 fn:=fun _=>true
 pn:=[]
 xe:=fun e s'=>wpAny (model P w) (A.deeper (envOfC qual scope s.heap.objs.size f cd)) (leaving (envOfC qual scope s.heap.objs.size f cd) e) (fun _ s''=>CX outer H s E e s'') (fun e' s''=>CX outer H s E e' s'') s'
theorem Zfx{sc:Scope}{n:Nat}{x:Str}(h:sc.names.lookup x=some .cell):∃c,(cellsFrom n sc.names []).lookup x=some c:=by
 have q:=PySem.W.cellsFrom_some sc.names n [] (.inl h);exact Option.isSome_iff_exists.mp q
theorem Zic{CX:CXT}{P:Program}{w:World}{K:PySem.W.Frag}{mg:Str→Option Value}{base:Heap}{N ps:List Str}{qual:Str}{scope:Scope}{f:Addr}{cd:Value}{A:Around}{outer:List Env}{s s1:Shared}{H:Hp}{E:XK}{us:List Value}{vs:List V}
  (S:Zs N ps scope) (hd:A.handled=none) (e0:ZcN P w K mg base A outer s H) (hl:vs.length=ps.length) (r:Zw vs us)
  (x:InCallC s s.heap.objs.size (bindL (envOfC qual scope s.heap.objs.size f cd).kindOf (ps.zip us) fun _=>none) (cellsFrom (s.heap.objs.size+1) scope.names []) (bindC (envOfC qual scope s.heap.objs.size f cd).kindOf (ps.zip us) fun _=>none) s1):
  Inv (ZJ CX P w K mg base N qual scope f cd A outer s H E) [] (start N vs) H s1:=by
 have hpl:ps.length≤N.length:=by have:=congrArg List.length S.pre;rw[List.length_take] at this;omega
 obtain⟨h1,tk,rfl,hk⟩:=x.done;have noA:∀b:Addr,b∉(ZJ CX P w K mg base N qual scope f cd A outer s H E).ex:=fun b z=>absurd (show b∈([]:List Addr) from z) (by simp);refine⟨⟨e0.mod,S.kind,rfl,rfl,Nat.le_refl _,fun y z c h1 h2=>?_,fun y hy=>?_,fun y c _ h=>?_,fun _=>hd,Around.frames_deeper e0.frames,.inr ⟨rfl,rfl⟩,fun b z=>absurd z (noA b),e0.bs,e0.bsz,fun b _ _=>noA b,fun b z=>absurd z (noA b),e0.funs,e0.frf⟩,
  rfl,e0.bare,Un.kept hk,⟨_,x.toInCall.ns,fun i y v h1 h2 h3=>?_⟩,fun y c h=>⟨_,x.cell y c h⟩,e0.hok.fresh (Nat.le_refl _),fun y c h=>?_,fun p hp=>absurd (show p∈([]:List (Addr×Obj)) from hp) (by simp),e0.hok.kept hk,?_⟩
 ·exact name_of_addr x.apart (PySem.mem_of_lookup h1) (PySem.mem_of_lookup h2)
 ·have hy:scope.names.lookup y=some .cell∨scope.names.lookup y=some .free:=hy;rcases hy with hy|hy
  ·exact Zfx hy
  ·exact absurd rfl (S.nofree _ (PySem.mem_of_lookup hy))
 ·exact Nat.le_of_lt (x.above y c (PySem.mem_of_lookup h))
 ·have hi:i<vs.length:=by
   unfold start at h2
   by_cases hi:i<vs.length
   ·exact hi
   ·rw[List.getElem?_append_right (by simpa using hi)] at h2;rw[List.getElem?_replicate] at h2
    split at h2<;>cases h2
  have ha:vs[i]? =some v:=by
   unfold start at h2;rw[List.getElem?_append_left (by simpa using hi),List.getElem?_map] at h2;cases e:vs[i]? with
   |none=>rw[e] at h2;cases h2
   |some a=>rw[e] at h2;cases h2;rfl
  obtain⟨u,hu,rv⟩:=r.get ha;have hp:ps[i]? =some y:=by
   rw[←S.pre,List.getElem?_take_of_lt (by omega)];exact h1
  have ndP:ps.Nodup:=by rw[←S.pre];exact S.nd.sublist (List.take_sublist _ _)
  refine⟨u,rv,?_⟩;rcases S.par y (List.mem_of_getElem? hp) with k|k
  ·exact .inl ⟨k,Zer ndP hp hu k⟩
  ·obtain⟨c,e⟩:=Zfx (n:=s.heap.objs.size+1) k;refine .inr ⟨.inl k,c,e,?_⟩;have q:=x.cell y c e;rw[Zep ndP hp hu (by show scope.names.lookup y≠_;rw[k];decide)] at q;exact q
 ·exact e0.hok.fresh (Nat.le_of_lt (x.above y c (PySem.mem_of_lookup h)))
 ·unfold start;show _=N.length;rw[List.length_append,List.length_map,List.length_replicate];omega
theorem ZjE{CX:CXT}{P:Program}{w:World}{K:PySem.W.Frag}{mg:Str→Option Value}{base:Heap}{k:Nat}{f:Addr}{name qual:Str}{params:Arguments}{body:List Stmt}{scope:Scope}{dV kV doc pm cdv ct oc:Value}{an od:Option Addr}
  {osl:Array (Option Value)} {N ps:List Str} {sp:Sp} (lk:K.lookup f=some ⟨oc,od,.func (PySem.W.fnOf name qual params body scope dV kV doc pm an cdv ct),osl⟩) (hcd:PySem.W.codeIn K cdv qual=true) (S:Zs N ps scope)
  (len:∀vs H Q E,sp vs H Q E→vs.length=ps.length)
  (hbody:∀(A:Around)(outer:List Env)(s:Shared)(H:Hp)(vs:List V)(Q:VK)(E:XK),YB k (A.deeper (envOfC qual scope s.heap.objs.size f cdv))→sp vs H Q E→
   ∃t,PSs (ZJ CX P w K mg base N qual scope f cdv A outer s H E) body t∧t {nx:=fun _ H'=>Q .non H',rt:=Q} (start N vs) H):
  Zl P w K mg base CX (k+1) f (PySem.W.fnOf name qual params body scope dV kV doc pm an cdv ct) ps sp:=by
 refine⟨len,fun A outer s H args us vs Q E hr e0 hb r hsp=>?_⟩;have hl:=len _ _ _ _ hsp;have KX:K.In s.heap:=e0.mod.kin.keeps fun b o e=>(e0.bs b o e).1;have lim:s.heap.NoLimit:=e0.mod.nolimit.keeps fun b o e=>(e0.bs b o e).1;have hkind:∀y∈ps.zip us,scope.names.lookup y.1=some .local∨(scope.names.lookup y.1=some .cell∧((cellsFrom (s.heap.objs.size+1) scope.names []).lookup y.1).isSome=true):=fun⟨n,v⟩ hy=>by
  rcases S.par n (List.of_mem_zip hy).1 with q|q
  ·exact .inl q
  ·exact .inr ⟨q,PySem.W.cellsFrom_some _ _ _ (.inl q)⟩
 refine codeAny_call_function hr.depth (KX _ _ lk) rfl S.co S.gen rfl (PySem.W.codeRec_of KX hcd) (hb _ _ _ _ ?_);refine wpAny_newFunctionEnv_cells S.kind hkind fun env he s1 x=>?_;subst he;refine⟨lim.keeps x.toInCall.keep,codeAny_func ?_⟩;obtain⟨t,ht,hq⟩:=hbody A outer s H vs Q E (hr.deeper _) hsp;have I:Inv (ZJ CX P w K mg base N qual scope f cdv A outer s H E) [] (start N vs) H s1:=Zic S hr.hd e0 hl r x;refine wpAny_mono (ht [] s1 (start N vs) H _ I hq) (fun fl s' hs=>?_) fun e s' hs=>hs;have fin:∀{σ':St}{H':Hp}{v:V}{u:Value},Inv (ZJ CX P w K mg base N qual scope f cdv A outer s H E) [] σ' H' s'→ZD v u→Q v H'→CE outer P w H s Q u s':=
  fun{σ' H' v u} J rv q=>⟨v,H',J.os,J.bare,J.base,J.hok,rv,q⟩
 cases fl with
 |ret u=>
  obtain⟨v,σ',H',J,rv,q⟩:=hs;exact fin J rv q
 |next=>
  obtain⟨σ',H',J,q⟩:=hs;exact fin (v:=V.non) (u:=Value.none) J rfl q
 |brk=>
  obtain⟨_,_,_,q⟩:=hs;exact False.elim q
 |cont=>
  obtain⟨_,_,_,q⟩:=hs;exact False.elim q
end L2
namespace L2
open PySem PySem.Spec PyProof.Rows
section
variable {X:Cx}{x:Str}{p pos:Pos}{e:Expr}{es:List Expr}{t:TA}{id T:String}{r:List V→Hp→VK→Prop}
noncomputable def tCB (r:List V→Hp→VK→Prop) (t:TA):TE:=fun σ H Q=>t σ H fun vs H1=>r vs H1 Q
theorem ZC(hc:Yz X (.builtin id) r)(hg:Gl X x)(hm:X.mg x=none)(hv:bootBuiltins x=some (.builtin id))(ha:PA X (e::es) t)(hn:x≠"__name__" :=by decide)(hdb:(x==("__debug__" :Str))=false:=by decide)
  (he:starEach (e::es) X.env=(false,eval e X.env)::starEach es X.env:=by rfl) (hpl:(backTo pos (starEach es X.env)).any (·.1)=false:=by rfl):PE X (.Call (.Name x p) (e::es) [] pos) (tCB r t):=by
 intro pins s σ H Q I h;refine wpAny_Call_Name_kw (Zac I hg hm hv ?_ hn hdb);exact PyProof.Rows.callWith_builtin1 (thn (ha pos pins s σ H _ I h) fun us s1 ⟨vs,H1,I1,r1,q1⟩=>hc pins s1 σ H1 vs us Q I1 r1 q1) he hpl
theorem Uq(hc:Yz X (.type T) r)(hg:Gl X x)(hm:X.mg x=none)(hv:bootBuiltins x=some (.type T))(ha:PA X (e::es) t)(hn:x≠"__name__" :=by decide)(hdb:(x==("__debug__" :Str))=false:=by decide)
  (he:starEach (e::es) X.env=(false,eval e X.env)::starEach es X.env:=by rfl) (hpl:(backTo pos (starEach es X.env)).any (·.1)=false:=by rfl):PE X (.Call (.Name x p) (e::es) [] pos) (tCB r t):=by
 intro pins s σ H Q I h;refine wpAny_Call_Name_kw (Zac I hg hm hv ?_ hn hdb);exact PyProof.Rows.callWith_type1 (thn (ha pos pins s σ H _ I h) fun us s1 ⟨vs,H1,I1,r1,q1⟩=>hc pins s1 σ H1 vs us Q I1 r1 q1) he hpl
end
end L2
namespace HT
open PySem PyProof.Rows
section
open PySem.SeqAt
open PySem.AutoSeq1 (wpAny_loadPart')
open PySem.MeetsSeq PySem.MeetsSeq2 PySem.MeetsSeq3
end
section
variable {prog:Program}{w:World}{A:Around}{E:Value→Shared→Prop}{s:Shared}
theorem Zj3{t b:Addr}{vs ws:List Value}{Q:Value→Shared→Prop}(ht:IsTup s.heap t vs.toArray)(hb:IsTup s.heap b ws.toArray)(hv:vs≠[])
  (h1:ws=[]→Q (.ref t) s) (h2:ws≠[]→Q (.ref s.heap.objs.size) {s with heap:=s.heap.push {cls:= .type "tuple",data:= .seq (vs++ws).toArray}})
  (hsz:vs.length+ws.length≤sizeLine):wpAny (model prog w) A (binaryOp .Add (.ref t) (.ref b)) Q E s:=by
 obtain⟨⟨cls,dd,data,sl⟩,ho,hc,n,hd⟩:=id ht;obtain⟨⟨cls2,dd2,data2,sl2⟩,ho2,hc2,n2,hd2⟩:=id hb;simp only at hc hd hc2 hd2;subst hc hd hc2 hd2;have e:vs.toArray++ws.toArray=(vs++ws).toArray:=by simp
 by_cases hw:ws=[]
 ·exact concat_meets ⟨_,ho,rfl⟩ ⟨_,ho2,rfl⟩ noFill_tuple_add seq_tuple_add PySem.F.slot_tuple_add PySem.F.entry_tuple_add (PySem.F.args_tuple_add_2 _ _)
   (tuple_addW1 t b vs.toArray ws.toArray n n2 dd dd2 sl sl2 (by simpa using hv) (by simp[hw])) ⟨ho,ho2,h1 hw⟩
 ·refine concat_meets ⟨_,ho,rfl⟩ ⟨_,ho2,rfl⟩ noFill_tuple_add seq_tuple_add PySem.F.slot_tuple_add PySem.F.entry_tuple_add (PySem.F.args_tuple_add_2 _ _)
   (tuple_addW2 t b vs.toArray ws.toArray n n2 dd dd2 sl sl2 (by simpa using hv) (by simpa using hw) (by rw[List.size_toArray,List.size_toArray];exact hsz)) ⟨ho,ho2,?_⟩
  rw[e];exact h2 hw
noncomputable def sIx (n d:Nat):Option Int→Nat
 |none=>d
 |some v=>if v<0 then(v+(n:Int)).toNat else min v.toNat n
theorem ZlT(n d:Nat)(hd:d≤n)(o:Option Int):sIx n d o≤n:=by
 cases o with
 |none=>exact hd
 |some v=>
  show(if v<0 then(v+(n:Int)).toNat else min v.toNat n)≤n
  by_cases hv:v<0
  ·rw[if_pos hv];omega
  ·rw[if_neg hv];exact Nat.min_le_right _ _
theorem Zgs(v:Int)(n d:Nat):(if v<0 then max (v+(n:Int)) 0 else min v (n:Int))=((sIx n d (some v):Nat):Int):=by
 show(if v<0 then max (v+(n:Int)) 0 else min v (n:Int))=(((if v<0 then(v+(n:Int)).toNat else min v.toNat n):Nat):Int)
 by_cases hv:v<0
 ·simp only[if_pos hv];omega
 ·simp only[if_neg hv];omega
theorem ZhC(lo hi:Option Int)(n:Nat):Builtin.Slice.sliceAdjust lo hi 1 (n:Int)=(((sIx n 0 lo:Nat):Int),((sIx n n hi:Nat):Int)):=by
 have h1:¬((1:Int)<0):=by omega
 unfold Builtin.Slice.sliceAdjust;simp only[h1,if_false];refine Prod.ext ?_ ?_
 ·cases lo with
  |none=>rfl
  |some v=>exact Zgs v n 0
 ·cases hi with
  |none=>rfl
  |some v=>exact Zgs v n n
theorem ZhO(i j:Nat):Builtin.Slice.slicePlaces (i:Int) (j:Int) 1=j-i:=by
 unfold Builtin.Slice.slicePlaces;have h1:(1:Int) > 0:=by omega
 simp only[h1,if_true,Int.ediv_one]
 split<;>omega
theorem Zdv{v:Value}{o:Option Int}{Q:Option Int→Shared→Prop}(p:IsPart v o)(h:Q o s):wpAny (model prog w) A (Builtin.Slice.slicePartIndex v) Q E s:=by
 cases p with
 |none=>exact slicePart_none h
 |int i t=>exact slicePart_int h
theorem ZcJ{sl:Addr}{vl vu:Value}{lo hi:Option Int}{n:Nat}{Q:Int×Int×Nat→Shared→Prop}(hs:s.heap.IsSliceOf sl vl vu .none)(pl:IsPart vl lo)(pu:IsPart vu hi)
  (h:Q (((sIx n 0 lo:Nat):Int),1,sIx n n hi-sIx n 0 lo) s):wpAny (model prog w) A (Builtin.Slice.sliceApplied (.ref sl) (pure (n:Int))) Q E s:=by
 obtain⟨os,hos,hcs,hds⟩:=id hs;unfold Builtin.Slice.sliceApplied Builtin.Slice.sliceFields;refine wpAny_bind (wpAny_bind (wpAny_field hos hds (x:=vl) rfl (wpAny_bind (wpAny_field hos hds (x:=vu) rfl (wpAny_bind (wpAny_field hos hds (x:= .none) rfl (wpAny_pure ?_)))))));refine wpAny_bind (slicePart_none ?_);show wpAny _ _ (if((1:Int)==0)=true then _ else _) _ _ s;rw[if_neg (by decide)];refine wpAny_bind (Zdv pl (wpAny_bind (Zdv pu (wpAny_bind (wpAny_pure ?_)))));show wpAny _ _ (match Builtin.Slice.sliceAdjust lo hi 1 (n:Int) with|(lo,hi)=>pure (lo,(1:Int),Builtin.Slice.slicePlaces lo hi 1)) _ _ s;rw[ZhC lo hi n];show wpAny _ _ (pure (((sIx n 0 lo:Nat):Int),(1:Int),Builtin.Slice.slicePlaces ((sIx n 0 lo:Nat):Int) ((sIx n n hi:Nat):Int) 1)) _ _ s;rw[ZhO];exact wpAny_pure h
theorem Zjx(xs:Array Value)(i k:Nat):((List.range k).filterMap fun(m:Nat)=>xs[((i:Int)+(m:Int)*1).toNat]?).toArray=((xs.toList.drop i).take k).toArray:=by
 have e:(fun(m:Nat)=>xs[((i:Int)+(m:Int)*1).toNat]?)=fun m=>xs[i+m]? :=by
  funext m
  have:((i:Int)+(m:Int)*1).toNat=i+m:=by omega
  rw[this]
 rw[e];have:=pick_run xs i k;rw[List.filterMap_map] at this;have e2:((fun x=>xs[x]?)∘fun x=>i+x)=fun m=>xs[i+m]? :=rfl;rw[e2] at this;rw[this]
theorem Zcp{t sl:Addr}{items:Array Value}{vl vu:Value}{lo hi:Option Int}{Q:Value→Shared→Prop}(ht:IsTup s.heap t items)(hs:s.heap.IsSliceOf sl vl vu .none)(pl:IsPart vl lo)(pu:IsPart vu hi)
  (hw:¬(sIx items.size 0 lo=0∧sIx items.size items.size hi=items.size))
  (h:Q (.ref s.heap.objs.size) {s with heap:=s.heap.push {cls:= .type "tuple",data:= .seq ((items.toList.drop (sIx items.size 0 lo)).take (sIx items.size items.size hi-sIx items.size 0 lo)).toArray}})
  (hsz:items.size≤sizeLine):wpAny (model prog w) A (getItem (.ref t) (.ref sl)) Q E s:=by
 have htake:sizeOk (.seq ((items.toList.drop (sIx items.size 0 lo)).take (sIx items.size items.size hi-sIx items.size 0 lo)).toArray):=by
  show((items.toList.drop (sIx items.size 0 lo)).take (sIx items.size items.size hi-sIx items.size 0 lo)).toArray.size≤sizeLine;rw[List.size_toArray,List.length_take,List.length_drop,Array.length_toList];omega
 have hj:sIx items.size items.size hi≤items.size:=ZlT _ _ (Nat.le_refl _) hi;obtain⟨os,hos,hcs,hds⟩:=id hs;have hTs:s.TypeIs (.ref sl) "slice" :=⟨os,hos,hcs⟩;unfold getItem
 try with_reducible refine wpAny_holding ?_
 first|refine wpAny_bind (wpAny_pure ?_)|skip
 refine wpAny_bind (wpAny_sequenceKey ht.typeIs (by decide) ?_);refine wpAny_bind (wpAny_callSpecial?_slot (name:=Str.ofString "__getitem__") ht.typeIs PyProof.Rows.slot_tuple_getitem
  (wpAny_call_entry PyProof.Rows.slot_tuple_getitem ht.typeIs entry_tuple_getitem ?_ (args_tuple_getitem _ _)))
 show wpAny _ _ (Builtin.Tuple.tupleItemsOf (.ref t) >>= _) _ _ s;refine wpAny_bind (tupleItemsOf_ ht ?_);refine wpAny_bind (wpAny_typeOf hTs ?_);rw[if_pos (by decide)];refine wpAny_bind (ZcJ hs pl pu ?_);have hno:¬((((sIx items.size 0 lo:Nat):Int)==0&&(1:Int)==1&&(sIx items.size items.size hi-sIx items.size 0 lo)==items.size)=true):=by
  intro q;rw[Bool.and_eq_true,Bool.and_eq_true] at q;have q1:((sIx items.size 0 lo:Nat):Int)=0:=eq_of_beq q.1.1;have q2:sIx items.size items.size hi-sIx items.size 0 lo=items.size:=eq_of_beq q.2;exact hw ⟨by omega,by omega⟩
 show wpAny _ _ (if(((sIx items.size 0 lo:Nat):Int)==0&&(1:Int)==1&&(sIx items.size items.size hi-sIx items.size 0 lo)==items.size)=true then _ else _) _ _ s;rw[if_neg hno,Zjx]
 first
  |exact wpAny_bind (m:=Builtin.Tuple.tupleExact _) (wpAny_newObj_type (wpAny_pure ⟨_,rfl,wpAny_pure h⟩) htake)
  |exact wpAny_bind (m:=Builtin.Tuple.tupleExact _) (wpAny_newObj_type (wpAny_bind (wpAny_pure (wpAny_pure ⟨_,rfl,wpAny_pure h⟩))) htake)
  |exact wpAny_bind (wpAny_bind (m:=Builtin.Tuple.tupleExact _) (wpAny_newObj_type (wpAny_pure (wpAny_pure ⟨_,rfl,wpAny_pure h⟩)) htake))
  |exact wpAny_bind (wpAny_bind (m:=Builtin.Tuple.tupleExact _) (wpAny_newObj_type (wpAny_pure ⟨_,rfl,wpAny_pure h⟩) htake))
end
end HT
namespace L2
open PySem PySem.Spec PyProof.Rows
noncomputable abbrev TO:=St→Hp→(Option Int→Hp→Prop)→Prop
def PO(X:Cx)(e:Option Expr)(t:TO):Prop:=
 ∀(pins:List (Addr×Obj))(s:Shared)(σ:St)(H:Hp)(Q:Option Int→Hp→Prop),Inv X pins σ H s→t σ H Q→
  wpAny (model X.prog X.w) X.A (evalPart e X.env) (fun u s'=>∃o H',Inv X pins σ H' s'∧IsPart u o∧Q o H') X.xe s
noncomputable def tNoPart:TO:=fun _ H Q=>Q none H
noncomputable def ZjF (t:TE):TO:=fun σ H Q=>t σ H fun x H1=>∃i,x= .int i∧Q (some i) H1
theorem Zdl{ns:List Int}:∀{us:List Value},Zw (ns.map V.int) us→IntsAre us ns:=by
 induction ns with
 |nil=>intro us r;rw[List.map_nil] at r;cases r;exact .nil
 |cons n ns ih=>
  intro us r;rw[List.map_cons] at r;cases r with
  |cons r1 r2=>
   obtain⟨t,e⟩:=r1;subst e;exact .cons n t (ih r2)
section
variable {X:Cx}{e:Expr}{te:TE}{lo hi:Option Expr}{tl th:TO}{pos p2:Pos}
theorem Vu:PO X none tNoPart:=by
 intro pins s σ H Q I h;rw[evalPart_none];exact wpAny_pure ⟨none,H,I,.none,h⟩
theorem Vz(h:PE X e te):PO X (some e) (ZjF te):=by
 intro pins s σ H Q I hw;rw[evalPart_some];refine thn (h pins s σ H _ I hw) fun u s1 ⟨x,H1,I1,r1,q1⟩=>?_;obtain⟨i,rfl,q⟩:=q1;obtain⟨t,rfl⟩:=r1;exact⟨some i,H1,I1,.int i t,q⟩
def SlR(X:Cx)(r:V→Option Int→Option Int→Hp→VK→Prop):Prop:=
 ∀(pins:List (Addr×Obj))(s:Shared)(σ:St)(H:Hp)(x:V)(v vl vu:Value)(lo hi:Option Int)(sl:Addr)(Q:VK),Inv X pins σ H s→ZD x v→s.heap.IsSliceOf sl vl vu .none→IsPart vl lo→IsPart vu hi→r x lo hi H Q→
  ∃T id,typeLookup (.type T) "__getitem__" =pure (some (.builtin id))∧s.TypeIs v T∧wpAny (model X.prog X.w) X.A (getItem v (.ref sl)) (EP X pins σ Q) X.xe s
theorem SlR.or{r r':V→Option Int→Option Int→Hp→VK→Prop}(h:SlR X r)(h':SlR X r'):SlR X (fun x lo hi H Q=>r x lo hi H Q∨r' x lo hi H Q):=by
 intro pins s σ H x v vl vu lo hi sl Q I rx hs pl pu q;rcases q with q|q
 ·exact h pins s σ H x v vl vu lo hi sl Q I rx hs pl pu q
 ·exact h' pins s σ H x v vl vu lo hi sl Q I rx hs pl pu q
noncomputable def tSl (r:V→Option Int→Option Int→Hp→VK→Prop) (te:TE) (tl th:TO):TE:=fun σ H Q=>te σ H fun x H1=>tl σ H1 fun l H2=>th σ H2 fun u H3=>r x l u H3 Q
theorem WS{r:V→Option Int→Option Int→Hp→VK→Prop}(hr:SlR X r)(he:PE X e te)(hl:PO X lo tl)(hu:PO X hi th):PE X (.Subscript e (.Slice lo hi none p2) pos) (tSl r te tl th):=by
 intro pins s σ H Q I h;refine Subscript_ (thn (he pins s σ H _ I h) fun v s1 ⟨x,H1,I1,r1,q1⟩=>?_);refine wpAny_Slice (thn (hl pins s1 σ H1 _ I1 q1) fun vl s2 ⟨l,H2,I2,pl,q2⟩=>thn (hu pins s2 σ H2 _ I2 q2) fun vu s3 ⟨u,H3,I3,pu,q3⟩=>?_);rw[evalPart_none];refine wpAny_pure ?_;have I4:Inv X pins σ H3 {s3 with heap:=s3.heap.push {cls:= .type "slice",data:= .fields #[vl,vu,.none]}}:=I3.kept (t':=s3.toks) fun b ob q=>Heap.get?_push_of_some _ q;obtain⟨T,id,hT,ht,hg⟩:=hr pins {s3 with heap:=s3.heap.push {cls:= .type "slice",data:= .fields #[vl,vu,.none]}} σ H3 x v vl vu l u s3.heap.objs.size Q I4 r1 (Heap.IsSliceOf.new ..) pl pu q3;show wpAny (model X.prog X.w) X.A (subscriptTail e (.Slice lo hi none p2) v (.ref s3.heap.objs.size)) (EP X pins σ Q) X.xe {s3 with heap:=s3.heap.push {cls:= .type "slice",data:= .fields #[vl,vu,.none]}};exact tail_any (ops:=[.ref s3.heap.objs.size,v]) ht hT hg (by with_unfolding_all rfl)
noncomputable def Y3 (xs:List V) (lo hi:Option Int):List V:=(xs.drop (HT.sIx xs.length 0 lo)).take (HT.sIx xs.length xs.length hi-HT.sIx xs.length 0 lo)
theorem ZcB(xs:List V)(lo hi:Option Int):(Y3 xs lo hi).length≤xs.length:=by
 unfold Y3;rw[List.length_take,List.length_drop];omega
noncomputable def ZlU (K:PySem.W.Frag):V→Option Int→Option Int→Hp→VK→Prop:=fun x lo hi H Q=>∃a xs,x= .ref a∧SqT K H a xs∧
 ¬(HT.sIx xs.length 0 lo=0∧HT.sIx xs.length xs.length hi=xs.length)∧∀p,H p=none→Q (.ref p) (upd H p (.tup (Y3 xs lo hi)))
theorem Zk5:SlR X (ZlU X.K):=by
 intro pins s σ H x v vl vu lo hi sl Q I rx hs pl pu h;obtain⟨a,xs,rfl,hx,hw,q⟩:=h;cases rx;obtain⟨its,r,ht,hz⟩:=I.tuple hx;have hlen:its.toArray.size=xs.length:=by rw[List.size_toArray];exact r.length.symm
 refine⟨"tuple",_,PyProof.Rows.slot_tuple_getitem.lookup,ht.typeIs,?_⟩;refine HT.Zcp ht hs pl pu (by rw[hlen];exact hw) ?_ (by rw[hlen];exact hz);rw[hlen];refine⟨.ref s.heap.objs.size,_,I.laid (t':=s.toks) (o:= .tup (Y3 xs lo hi)) (fun b ob q=>Heap.get?_push_of_some _ q) (Nat.le_refl _) ?_,rfl,q _ (I.hok.fresh (Nat.le_refl _))⟩;exact⟨Nat.le_trans (ZcB xs lo hi) hz,_,(r.drop (HT.sIx xs.length 0 lo)).take (HT.sIx xs.length xs.length hi-HT.sIx xs.length 0 lo),IsTup.new _ _⟩
noncomputable def ZeM (K:PySem.W.Frag):R2:=fun x y H Q=>∃a b xs ys,x= .ref a∧y= .ref b∧SqT K H a xs∧SqT K H b ys∧xs≠[]∧xs.length+ys.length≤sizeLine∧
 (ys=[]→Q (.ref a) H)∧(ys≠[]→∀p,H p=none→Q (.ref p) (upd H p (.tup (xs++ys))))
theorem Zw.nil_iff{xs:List V}{us:List Value}(r:Zw xs us):us=[]↔xs=[]:=by
 cases r with
 |nil=>simp
 |cons _ _=>simp
theorem Zkx:OpR X (binaryOp .Add) (ZeM X.K):=by
 intro pins s σ H x y v u Q I rx ry h;obtain⟨a,b,xs,ys,rfl,rfl,ha,hb,hx,hz,q1,q2⟩:=h;cases rx;cases ry;obtain⟨its,r1,p1,_⟩:=I.tuple ha;obtain⟨its2,r2,p2,_⟩:=I.tuple hb;refine HT.Zj3 p1 p2 (fun z=>hx (r1.nil_iff.mp z)) (fun z=>⟨.ref a,H,I,rfl,q1 (r2.nil_iff.mp z)⟩) (fun z=>?_) (by rw[←r1.length,←r2.length];exact hz);refine⟨.ref s.heap.objs.size,_,I.laid (t':=s.toks) (o:= .tup (xs++ys)) (fun b ob q=>Heap.get?_push_of_some _ q) (Nat.le_refl _) ?_,rfl,q2 (fun w=>z (r2.nil_iff.mpr w)) _ (I.hok.fresh (Nat.le_refl _))⟩;exact⟨by rw[List.length_append];exact hz,_,r1.append r2,IsTup.new _ _⟩
end
end L2
namespace L2
open PySem PySem.Spec PyProof.Rows
noncomputable def ixN (n:Nat) (i:Int):Option Nat:=if 0≤i then(if i<n then some i.toNat else none) else if -(n:Int)≤i then some (i+n).toNat else none
noncomputable def atI {α:Type} (xs:List α) (i:Int):Option α:=(ixN xs.length i).bind fun j=>xs[j]?
theorem Zgw{n:Nat}{i:Int}{j:Nat}(h:ixN n i=some j):seqIndex? i n=some j∧j<n∧ -(n:Int)≤i∧i<n:=by
 unfold ixN at h
 by_cases h0:0≤i
 ·rw[if_pos h0] at h
  by_cases h1:i<n
  ·rw[if_pos h1] at h;have e:i.toNat=j:=Option.some.inj h;exact⟨by rw[seqIndex_of h0 h1,e],by omega,by omega,h1⟩
  ·rw[if_neg h1] at h;cases h
 ·rw[if_neg h0] at h
  by_cases h1: -(n:Int)≤i
  ·rw[if_pos h1] at h;have e:(i+n).toNat=j:=Option.some.inj h;exact⟨by rw[seqIndex_neg (by omega) h1,e],by omega,h1,by omega⟩
  ·rw[if_neg h1] at h;cases h
theorem ZdG{α:Type}{xs:List α}{i:Int}{v:α}(h:atI xs i=some v):∃j,seqIndex? i xs.length=some j∧xs[j]? =some v∧j<xs.length∧ -(xs.length:Int)≤i∧i<xs.length:=by
 unfold atI at h;cases e:ixN xs.length i with
 |none=>rw[e] at h;cases h
 |some j=>
  rw[e] at h;obtain⟨h1,h2,h3,h4⟩:=Zgw e;exact⟨j,h1,h,h2,h3,h4⟩
theorem Yo{α:Type}{xs:List α}{j:Nat}{v:α}(h:xs[j]? =some v):atI xs (j:Int)=some v:=by
 have hj:j<xs.length:=(List.getElem?_eq_some_iff.mp h).1;have e:ixN xs.length (j:Int)=some j:=by
  unfold ixN;rw[if_pos (by omega),if_pos (by omega)];simp
 unfold atI;rw[e];exact h
def Zku(b:Expr):Prop:=∀o i,subscripted b false o i=operate [o,i] (getItem o i)
def IxR(X:Cx)(r:R2):Prop:=
 ∀(value slice:Expr)(pins:List (Addr×Obj))(s:Shared)(σ:St)(H:Hp)(x y:V)(v u:Value)(Q:VK),Inv X pins σ H s→ZD x v→ZD y u→r x y H Q→
  subscripted slice false v u=operate [v,u] (getItem v u)→wpAny (model X.prog X.w) X.A (subscriptTail value slice v u) (EP X pins σ Q) X.xe s
def MtR(X:Cx)(id:String)(r:V→List V→Hp→VK→Prop):Prop:=
 ∀(pins:List (Addr×Obj))(s:Shared)(σ:St)(H:Hp)(x:V)(xs:List V)(v:Value)(us:List Value)(Q:VK),Inv X pins σ H s→ZD x v→Zw xs us→r x xs H Q→
  wpAny (model X.prog X.w) X.A (call (.builtin id) (v::us)) (EP X pins σ Q) X.xe s
section
variable {X:Cx}{a b:Expr}{ta tb:TE}{pos:Pos}
theorem IxR.or{r r':R2}(h:IxR X r)(h':IxR X r'):IxR X (fun x y H Q=>r x y H Q∨r' x y H Q):=by
 intro value slice pins s σ H x y v u Q I rx ry q hs;rcases q with q|q
 ·exact h value slice pins s σ H x y v u Q I rx ry q hs
 ·exact h' value slice pins s σ H x y v u Q I rx ry q hs
theorem Zp{r:R2}(hr:IxR X r)(ha:PE X a ta)(hb:PE X b tb)(hs:Zku b):PE X (.Subscript a b pos) (tOp r ta tb):=by
 intro pins s σ H Q I h;exact Subscript_ (Zja ha hb I h fun v u s2 x y H2 I2 rx ry q=>hr a b pins s2 σ H2 x y v u Q I2 rx ry q (hs _ _))
noncomputable def Zhw (K:PySem.W.Frag):R2:=fun x y H Q=>∃p xs i v,x= .ref p∧y= .int i∧SqL K H p xs∧atI xs i=some v∧Q v H
noncomputable def Zjl (K:PySem.W.Frag):R2:=fun x y H Q=>∃p xs i v,x= .ref p∧y= .int i∧SqT K H p xs∧atI xs i=some v∧Q v H
noncomputable def rIxS:R2:=fun x y H Q=>∃z i c,x= .str z∧y= .int i∧z.length≤sizeLine∧atI z.cps.toList i=some c∧Q (.str ⟨#[c]⟩) H
theorem Zkl:IxR X (Zhw X.K):=by
 intro value slice pins s σ H x y v u Q I rx ry h hs;obtain⟨p,xs,i,z,rfl,rfl,hq,he,q⟩:=h;cases rx;obtain⟨t,rfl⟩:=ry;obtain⟨its,r,pl,hz⟩:=I.list hq;obtain⟨j,h1,h2,h3,h4,h5⟩:=ZdG he;obtain⟨w,ew,rw'⟩:=r.get h2;have hl:=r.length;have hn:=ZaI;have fin:EP X pins σ Q w s:=⟨z,H,I,rw',q⟩
 by_cases h0:0≤i
 ·have hj:i.toNat=j:=by
   rw[seqIndex_of h0 h5] at h1;exact Option.some.inj h1
  exact item_listR pl.isList h0 (by omega) (by rw[hj];simpa using ew) fin hs
 ·have hj:(i+(its.toArray.size:Int)).toNat=j:=by
   rw[seqIndex_neg (by omega) h4] at h1;rw[List.size_toArray,←hl];exact Option.some.inj h1
  exact subscriptTail_builtinR (x:=w) pl.isList.typeIs slot_list_getitem.lookup
   (wpAny_getItem_list_neg (Q:=fun r s'=>r=w∧EP X pins σ Q r s') pl.isList (by omega) (by rw[List.size_toArray]<;>omega) (by omega) (by rw[hj];simpa using ew) ⟨rfl,fin⟩) hs
theorem ZlJ:IxR X (Zjl X.K):=by
 intro value slice pins s σ H x y v u Q I rx ry h hs;obtain⟨p,xs,i,z,rfl,rfl,hq,he,q⟩:=h;cases rx;obtain⟨t,rfl⟩:=ry;obtain⟨its,r,pl,hz⟩:=I.tuple hq;obtain⟨j,h1,h2,h3,h4,h5⟩:=ZdG he;obtain⟨w,ew,rw'⟩:=r.get h2;have hl:=r.length;have hn:=ZaI;have fin:EP X pins σ Q w s:=⟨z,H,I,rw',q⟩;exact subscriptTail_builtinR (x:=w) pl.typeIs slot_tuple_getitem.lookup
  (getItem_tuple (j:=j) (Q:=fun r s'=>r=w∧EP X pins σ Q r s') pl (by omega) (by omega) (by rw[List.size_toArray,←hl];exact h1) (by simpa using ew) ⟨rfl,fin⟩) hs
theorem ZlK:IxR X rIxS:=by
 intro value slice pins s σ H x y v u Q I rx ry h hs;obtain⟨z,i,c,rfl,rfl,hz,he,q⟩:=h;obtain⟨t,rfl⟩:=rx;obtain⟨t',rfl⟩:=ry;obtain⟨j,h1,h2,h3,h4,h5⟩:=ZdG he;have hl:z.cps.toList.length=z.length:=by simp[Str.length]
 rw[hl] at h1 h4 h5;have hn:=ZaI;exact tail_any (typeIs_str s z t) slot_str_getitem.lookup (getItem_str (c:=c) (by
  have e1:decide (i< -(2 ^ 63:Int))=false:=decide_eq_false (by omega);have e2:decide (i≥2 ^ 63)=false:=decide_eq_false (by omega);rw[e1,e2,Bool.or_false]) (by rw[h1];simpa using h2) ⟨.str ⟨#[c]⟩,H,I.tok _,⟨_,rfl⟩,q⟩) hs
noncomputable def rIx (K:PySem.W.Frag):R2:=fun x y H Q=>Zhw K x y H Q∨Zjl K x y H Q∨rIxS x y H Q
theorem Zld:IxR X (rIx X.K):=Zkl.or (ZlJ.or ZlK)
theorem Zhr(its:List Value)(n j:Nat)(u:Value):Obj.mapSeq (·.setIfInBounds j u) {cls:= .type "list",data:= .seq its.toArray n}={cls:= .type "list",data:= .seq (its.set j u).toArray n}:=by
 simp[Obj.mapSeq]
theorem Inv.lst{pins:List (Addr×Obj)}{σ:St}{H:Hp}{s:Shared}{p:Addr}{xs:List V}(I:Inv X pins σ H s)(h:H p=some (.lst xs)):
  ∃(its:List Value)(n:Nat),Zw xs its∧s.heap.get? p=some {cls:= .type "list",data:= .seq its.toArray n}∧xs.length≤sizeLine:=by
 obtain⟨z,its,n,r,e⟩:=I.hok p _ h;exact⟨its,n,r,e,z⟩
theorem Inv.lstUpd{pins:List (Addr×Obj)}{σ:St}{H:Hp}{s:Shared}{p:Addr}{xs ys:List V}{its its':List Value}{n n':Nat}{f:Obj→Obj}(I:Inv X pins σ H s)(h:H p=some (.lst xs))
  (ho:s.heap.get? p=some {cls:= .type "list",data:= .seq its.toArray n}) (hf:f {cls:= .type "list",data:= .seq its.toArray n}={cls:= .type "list",data:= .seq its'.toArray n'}) (r:Zw ys its') (hz:ys.length≤sizeLine) (t:Nat):
  Inv X pins σ (upd H p (.lst ys)) {s with heap:=s.heap.update p f,toks:=t}:=by
 have e:(s.heap.update p f).get? p=some {cls:= .type "list",data:= .seq its'.toArray n'}:=by
  rw[Heap.get?_update_self f ho (by rw[hf]<;>rfl),hf]
 refine I.write (x:=p) (e:=p) (by rw[h];trivial) (.inl rfl) (fun b u hb q=>(Heap.get?_update_other _ _ (Ne.symm hb)).trans q) ⟨_,e⟩ ?_;exact⟨hz,its',n',r,e⟩
noncomputable def rSetL:V→V→V→Hp→(Hp→Prop)→Prop:=fun o i v H Q=>∃p xs k j,o= .ref p∧i= .int k∧H p=some (.lst xs)∧ixN xs.length k=some j∧Q (upd H p (.lst (xs.set j v)))
theorem Zfz:Zjg X rSetL:=by
 intro pins s σ H o i v ov iv u Q I ro ri rv h;obtain⟨p,xs,k,j,rfl,rfl,hp,hj,q⟩:=h;cases ro;obtain⟨t,rfl⟩:=ri;obtain⟨its,n,r,ho,hz⟩:=I.lst hp;obtain⟨h1,h2,h3,h4⟩:=Zgw hj;have hl:=r.length;have hn:=ZaI;have I':Inv X pins σ (upd H p (.lst (xs.set j v))) {s with heap:=s.heap.update p (Obj.mapSeq (·.setIfInBounds j u))}:=
  I.lstUpd hp ho (Zhr its n j u) (r.set rv j) (by rw[List.length_set];exact hz) s.toks
 by_cases h0:0≤k
 ·have hk:k.toNat=j:=by
   rw[seqIndex_of h0 h4] at h1;exact Option.some.inj h1
  exact PySem.W.ki_setAt ho h0 (by omega) (by rw[List.size_toArray,←hl];exact h4) (by rw[hk];exact⟨_,I',q⟩)
 ·have hk:(k+(its.toArray.size:Int)).toNat=j:=by
   rw[seqIndex_neg (by omega) h3] at h1;rw[List.size_toArray,←hl];exact Option.some.inj h1
  exact PySem.W.ki_setBack ho (by omega) (by rw[List.size_toArray,←hl];exact h3) (by omega) (by rw[hk];exact⟨_,I',q⟩)
theorem ZeN(lo hi:Option Int)(n:Nat):(sliceBounds lo hi none n).1=((HT.sIx n 0 lo:Nat):Int)∧(sliceBounds lo hi none n).2.1=((HT.sIx n n hi:Nat):Int)∧(sliceBounds lo hi none n).2.2=1:=by
 refine⟨?_,?_,rfl⟩
 ·cases lo with
  |none=>simp[sliceBounds,HT.sIx]
  |some i=>
   simp only[sliceBounds,HT.sIx,Option.getD_none,show(1:Int) > 0 by decide,if_true]
   by_cases h:i<0
   ·simp only[h,if_true]<;>omega
   ·simp only[h,if_false]<;>omega
 ·cases hi with
  |none=>simp[sliceBounds,HT.sIx]
  |some i=>
   simp only[sliceBounds,HT.sIx,Option.getD_none,show(1:Int) > 0 by decide,if_true]
   by_cases h:i<0
   ·simp only[h,if_true]<;>omega
   ·simp only[h,if_false]<;>omega
theorem Zev(its:List Value)(lo hi:Option Int):slicePick its.toArray lo hi none=((its.drop (HT.sIx its.length 0 lo)).take (HT.sIx its.length its.length hi-HT.sIx its.length 0 lo)).toArray:=by
 obtain⟨h1,h2,h3⟩:=ZeN lo hi its.toArray.size;unfold slicePick;rw[h1,h2,h3];simp only[sliceRange_one,pick_run,List.size_toArray]<;>rfl
noncomputable def Zk4 (K:PySem.W.Frag):V→Option Int→Option Int→Hp→VK→Prop:=fun x lo hi H Q=>∃a xs,x= .ref a∧SqL K H a xs∧∀p,H p=none→Q (.ref p) (upd H p (.lst (Y3 xs lo hi)))
theorem ZkB:SlR X (Zk4 X.K):=by
 intro pins s σ H x v vl vu lo hi sl Q I rx hs pl pu h;obtain⟨a,xs,rfl,hx,q⟩:=h;cases rx;obtain⟨its,r,ht,hz⟩:=I.list hx;have hlen:=r.length;refine⟨"list",_,slot_list_getitem.lookup,ht.isList.typeIs,?_⟩;refine wpAny_getItem_list_slice ht.isList hs pl pu .none (by simp) ?_ (by rw[List.size_toArray]<;>omega);rw[Zev,←hlen];refine⟨.ref s.heap.objs.size,_,I.laid (t':=s.toks) (o:= .lst (Y3 xs lo hi)) (fun b ob q=>Heap.get?_push_of_some _ q) (Nat.le_refl _) ?_,rfl,q _ (I.hok.fresh (Nat.le_refl _))⟩;exact⟨Nat.le_trans (ZcB xs lo hi) hz,_,0,(r.drop (HT.sIx xs.length 0 lo)).take (HT.sIx xs.length xs.length hi-HT.sIx xs.length 0 lo),Heap.get?_push_size _ rfl⟩
noncomputable def UM:V→Bool
 | .non=>true
 | .bl _=>true
 | .int _=>true
 | .str _=>true
 |_=>false
noncomputable def eqV:V→V→Bool
 | .non,.non=>true
 | .bl a,.bl b=>a==b
 | .bl a,.int b=>(if a then 1 else 0)==b
 | .int a,.bl b=>a==(if b then 1 else 0)
 | .int a,.int b=>a==b
 | .str a,.str b=>a==b
 |_,_=>false
theorem ZlV{A:Around}{s:Shared}{y x:V}{u v:Value}(ry:ZD y u)(rx:ZD x v)(fy:UM y=true)(fx:UM x=true):SeqAt.EqAt A s u v (eqV y x):=by
 cases y with
 |non=>
  cases ry;cases x with
  |non=>cases rx;exact SeqAt.EqAt.same _
  |bl b=>cases rx;exact SeqAt.EqAt.none_bool b
  |int b=>obtain⟨t,rfl⟩:=rx;exact SeqAt.EqAt.none_int b t
  |str b=>obtain⟨t,rfl⟩:=rx;exact SeqAt.EqAt.none_str b t
  |_=>exact absurd (show false=true from fx) Bool.false_ne_true
 |bl a=>
  cases ry;cases x with
  |non=>cases rx;exact SeqAt.EqAt.bool_none a
  |bl b=>cases rx;exact SeqAt.EqAt.bool_bool a b
  |int b=>obtain⟨t,rfl⟩:=rx;exact SeqAt.EqAt.bool_int a b t
  |str b=>obtain⟨t,rfl⟩:=rx;exact SeqAt.EqAt.bool_str a b t
  |_=>exact absurd (show false=true from fx) Bool.false_ne_true
 |int a=>
  obtain⟨t',rfl⟩:=ry;cases x with
  |non=>cases rx;exact SeqAt.EqAt.int_none a t'
  |bl b=>cases rx;exact SeqAt.EqAt.int_bool a t' b
  |int b=>obtain⟨t,rfl⟩:=rx;exact SeqAt.EqAt.int_int a t' b t
  |str b=>obtain⟨t,rfl⟩:=rx;exact SeqAt.EqAt.int_str a t' b t
  |_=>exact absurd (show false=true from fx) Bool.false_ne_true
 |str a=>
  obtain⟨t',rfl⟩:=ry;cases x with
  |non=>cases rx;exact SeqAt.EqAt.str_none a t'
  |bl b=>cases rx;exact SeqAt.EqAt.str_bool a t' b
  |int b=>obtain⟨t,rfl⟩:=rx;exact SeqAt.EqAt.str_int a t' b t
  |str b=>obtain⟨t,rfl⟩:=rx;exact SeqAt.EqAt.str_str a t' b t
  |_=>exact absurd (show false=true from fx) Bool.false_ne_true
 |_=>exact absurd (show false=true from fy) Bool.false_ne_true
noncomputable def eqU (x:V) (u:Value):Bool:=match u with
 | .none=>eqV .non x
 | .bool b=>eqV (.bl b) x
 | .int i _=>eqV (.int i) x
 | .str z _=>eqV (.str z) x
 |_=>false
theorem ZhR{x y:V}{u:Value}(r:ZD y u)(f:UM y=true):eqU x u=eqV y x:=by
 cases y with
 |non=>cases r;rfl
 |bl b=>cases r;rfl
 |int i=>obtain⟨t,rfl⟩:=r;rfl
 |str z=>obtain⟨t,rfl⟩:=r;rfl
 |_=>exact absurd (show false=true from f) Bool.false_ne_true
theorem ZaH{x:V}:∀{xs:List V}{us:List Value},Zw xs us→xs.all UM=true→us.any (eqU x)=xs.any fun y=>eqV y x
 |_,_,.nil,_=>rfl
 |y::xs,u::us,.cons r t,f=>by
  rw[List.all_cons,Bool.and_eq_true] at f;rw[List.any_cons,List.any_cons,ZhR r f.1,ZaH t f.2]
theorem Zaa{A:Around}{s:Shared}{x:V}{v:Value}(rx:ZD x v)(fx:UM x=true):∀{xs:List V}{us:List Value},Zw xs us→xs.all UM=true→∀u∈us,SeqAt.EqAt A s u v (eqU x u)
 |_,_,.nil,_=>fun u hu=>by cases hu
 |y::xs,u::us,.cons r t,f=>fun u' hu=>by
  rw[List.all_cons,Bool.and_eq_true] at f;rcases List.mem_cons.mp hu with rfl|hu
  ·rw[ZhR r f.1];exact ZlV r rx f.1 fx
  ·exact Zaa rx fx t f.2 u' hu
noncomputable def inV (x:V) (xs:List V):Bool:=xs.any fun y=>eqV y x
noncomputable def rIn (K:PySem.W.Frag) (neg:Bool):R2:=fun x y H Q=>∃p xs,y= .ref p∧(SqL K H p xs∨SqT K H p xs)∧UM x=true∧xs.all UM=true∧Q (.bl (if neg then !inV x xs else inV x xs)) H
theorem Zh3:OpR X (compareOp .In) (rIn X.K false):=by
 intro pins s σ H x y v u Q I rx ry h;obtain⟨p,xs,rfl,hq,fx,fs,q⟩:=h;cases ry;rcases hq with hq|hq
 ·obtain⟨its,r,pl,hz⟩:=I.list hq;refine SeqAt.in_listAt (eqU x) pl.isList (fun w hw=>Zaa rx fx r fs w (by simpa using hw)) ⟨.bl _,H,I,rfl,?_⟩;rw[show its.toArray.any (eqU x)=its.any (eqU x) by simp,ZaH r fs];exact q
 ·obtain⟨its,r,pl,hz⟩:=I.tuple hq;refine SeqAt.in_tupleAt (eqU x) pl (fun w hw=>Zaa rx fx r fs w (by simpa using hw)) ⟨.bl _,H,I,rfl,?_⟩;rw[show its.toArray.any (eqU x)=its.any (eqU x) by simp,ZaH r fs];exact q
theorem ZfP:OpR X (compareOp .NotIn) (rIn X.K true):=by
 intro pins s σ H x y v u Q I rx ry h;obtain⟨p,xs,rfl,hq,fx,fs,q⟩:=h;cases ry;rcases hq with hq|hq
 ·obtain⟨its,r,pl,hz⟩:=I.list hq;refine SeqAt.notIn_listAt (eqU x) pl.isList (fun w hw=>Zaa rx fx r fs w (by simpa using hw)) ⟨.bl _,H,I,rfl,?_⟩;rw[show its.toArray.any (eqU x)=its.any (eqU x) by simp,ZaH r fs];exact q
 ·obtain⟨its,r,pl,hz⟩:=I.tuple hq;refine SeqAt.notIn_tupleAt (eqU x) pl (fun w hw=>Zaa rx fx r fs w (by simpa using hw)) ⟨.bl _,H,I,rfl,?_⟩;rw[show its.toArray.any (eqU x)=its.any (eqU x) by simp,ZaH r fs];exact q
theorem ZfF:Yz X (.type "list") (fun xs H Q=>∃p ys,xs=[.ref p]∧(SqL X.K H p ys∨SqT X.K H p ys)∧∀l,H l=none→Q (.ref l) (upd H l (.lst ys))):=by
 intro pins s σ H xs us Q I r h;obtain⟨p,ys,rfl,hq,q⟩:=h;obtain⟨u,rfl,rx⟩:=Vl r;cases rx;have fin:∀(its:List Value),Zw ys its→ys.length≤sizeLine→∀(h':Heap)(c':Nat),(∀b o',s.heap.get? b=some o'→h'.get? b=some o')→
   h'.get? s.heap.objs.size=some {cls:= .type "list",dict:=none,data:= .seq its.toArray c',slots:=#[]}→EP X pins σ Q (.ref s.heap.objs.size) {s with heap:=h'}:=fun its r' hz h' c' kp e=>
  ⟨.ref s.heap.objs.size,_,I.laid (t':=s.toks) kp (Nat.le_refl _) (show ZO X.prog X.w _ h' _ (.lst ys) from⟨hz,its,c',r',e⟩),rfl,q _ (I.hok.fresh (Nat.le_refl _))⟩
 rcases hq with hq|hq
 ·obtain⟨its,r',pl,hz⟩:=I.list hq;have hlen:=r'.length;obtain⟨o,ho,hc,n,hd⟩:=pl.isList;exact call_list_seq p (.inl rfl) ho hc hd (fun h' c' kp e=>fin its r' hz h' c' kp e) (by simp only[List.size_toArray]<;>omega)
 ·obtain⟨its,r',pl,hz⟩:=I.tuple hq;have hlen:=r'.length;obtain⟨o,ho,hc,n,hd⟩:=pl;exact call_list_seq p (.inr rfl) ho hc hd (fun h' c' kp e=>fin its r' hz h' c' kp e) (by simp only[List.size_toArray]<;>omega)
theorem Zey:Yz X (.type "tuple") (fun xs H Q=>∃p ys,xs=[.ref p]∧((SqL X.K H p ys∧∀l,H l=none→Q (.ref l) (upd H l (.tup ys)))∨(SqT X.K H p ys∧Q (.ref p) H))):=by
 intro pins s σ H xs us Q I r h;obtain⟨p,ys,rfl,h⟩:=h;obtain⟨u,rfl,rx⟩:=Vl r;cases rx;rcases h with⟨hq,q⟩|⟨hq,q⟩
 ·obtain⟨its,r',pl,hz⟩:=I.list hq;have hlen:=r'.length;refine call_tuple_list pl.isList (fun h' kp=>?_) (by simp only[List.size_toArray]<;>omega);have I1:Inv X pins σ H {s with heap:=h'}:=I.kept (t':=s.toks) kp;have I2:Inv X pins σ (upd H h'.objs.size (.tup ys)) {s with heap:=h'.push {cls:= .type "tuple",data:= .seq its.toArray}}:=
   I1.laid (t':=s.toks) (fun b o e=>Heap.get?_push_of_some _ e) (Nat.le_refl _) (show ZO X.prog X.w _ _ _ (.tup ys) from⟨hz,its,r',IsTup.new _ _⟩)
  exact⟨.ref h'.objs.size,_,I2,rfl,q _ (I1.hok.fresh (Nat.le_refl _))⟩
 ·obtain⟨its,r',pl,hz⟩:=I.tuple hq;exact call_tuple_same pl ⟨.ref p,H,I,rfl,q⟩
def tyV(K:PySem.W.Frag)(T:String)(x:V)(H:Hp):Prop:=match x with
 | .str _=>T="str"
 | .int _=>T="int"
 | .ref p=>(T="list" ∧∃xs,SqL K H p xs)∨(T="tuple" ∧∃o,K.lookup p=some o∧o.cls= .type "tuple" ∧o.dict=none)∨
   (T="dict" ∧((∃kvs,H p=some (.dK kvs))∨∃kvs,H p=some (.dT kvs)))∨(T="set" ∧∃S n,H p=some (.set S n))
 |_=>False
theorem Ziw{pins:List (Addr×Obj)}{σ:St}{H:Hp}{s:Shared}{T:String}{x:V}{v:Value}(I:Inv X pins σ H s)(r:ZD x v)(ty:tyV X.K T x H):
  s.TypeIs v T∧∀a,v= .ref a→∃ob,s.heap.get? a=some ob∧ob.dict=none:=by
 cases x with
 |str z=>
  obtain⟨t,rfl⟩:=r;cases (show T="str" from ty);exact⟨typeIs_str s z t,fun _ e=>nomatch e⟩
 |int i=>
  obtain⟨t,rfl⟩:=r;cases (show T="int" from ty);exact⟨typeIs_int s i t,fun _ e=>nomatch e⟩
 |ref p=>
  cases r;rcases ty with⟨rfl,xs,hq⟩|⟨rfl,o,hk,hc,hd⟩|⟨rfl,hk⟩|⟨rfl,S,n,hk⟩
  ·obtain⟨its,_,pl,_⟩:=I.list hq;refine⟨pl.isList.typeIs,fun a e=>?_⟩;cases e;obtain⟨o,n,e,c,hd,_⟩:=pl;exact⟨o,e,hd⟩
  ·refine⟨⟨o,I.kIn p o hk,hc⟩,fun a e=>?_⟩;cases e;exact⟨o,I.kIn _ o hk,hd⟩
  ·have z:∃o,s.heap.get? p=some o∧o.ExactDict:=by
    rcases hk with⟨kvs,hk⟩|⟨kvs,hk⟩
    ·obtain⟨_,_,_,_,o,_,_,e,ex,_⟩:=I.hok p _ hk;exact⟨o,e,ex⟩
    ·obtain⟨_,_,_,_,o,_,_,e,ex,_⟩:=I.hok p _ hk;exact⟨o,e,ex⟩
   obtain⟨o,e,ex⟩:=z;refine⟨⟨o,e,ex.1⟩,fun a e2=>?_⟩;cases e2;exact⟨o,e,ex.2.1⟩
  ·obtain⟨o,_,_,_,e,ex,_⟩:=I.hok p _ hk;refine⟨⟨o,e,ex.1⟩,fun a e2=>?_⟩;cases e2;exact⟨o,e,ex.2.1⟩
 |_=>exact False.elim ty
noncomputable def ZiY (K:PySem.W.Frag) (T:String) (r:V→List V→Hp→VK→Prop) (to:TE):TE:=fun σ H Q=>to σ H fun x H1=>tyV K T x H1∧r x [] H1 Q
noncomputable def tBM (K:PySem.W.Frag) (T:String) (r:V→List V→Hp→VK→Prop) (to:TE) (t:TA):TE:=fun σ H Q=>to σ H fun x H1=>tyV K T x H1∧t σ H1 fun xs H2=>r x xs H2 Q
variable {o e:Expr}{es:List Expr}{to:TE}{t:TA}{name:Str}{apos cpos:Pos}{T id:String}{r:V→List V→Hp→VK→Prop}
theorem ZkS(pa:PlainAttrs T)(slot:Slot T name id)(hty:typeOf (.builtin id)=pure (.type "method_descriptor"))(hm:MtR X id r)(ho:PE X o to)
  (hbase:attributeBase o name X.env (eval o X.env)=eval o X.env:=by rfl) (hline:(apos.endLine==cpos.line)=true:=by rfl):PE X (.Call (.Attribute o name apos) [] [] cpos) (ZiY X.K T r to):=by
 intro pins s σ H Q I h;refine wpAny_Call_method0_late hbase hline (thn (ho pins s σ H _ I h) fun v s1 ⟨x,H1,I1,r1,ty,q1⟩=>?_);obtain⟨h1,h2⟩:=Ziw I1 r1 ty;exact⟨T,id,pa,slot,hty,h1,h2,Calls.callWith_builtin rfl (PySem.evalArgs_none (hm pins s1 σ H1 x [] v [] Q I1 r1 .nil q1))⟩
theorem Zl9(pa:PlainAttrs T)(slot:Slot T name id)(hty:typeOf (.builtin id)=pure (.type "method_descriptor"))(hm:MtR X id r)(ho:PE X o to)(ha:PA X (e::es) t)
  (hbase:attributeBase o name X.env (eval o X.env)=eval o X.env:=by rfl)
  (hfew:((backTo cpos (starEach (e::es) X.env)).all (fun x=>!x.1)&&(backToKw cpos (keywordEach [] X.env)).all (fun x=>x.1.isSome)
   &&decide ((e::es).length+([]:List Keyword).length+(if([]:List Keyword).isEmpty then 0 else 1)<30))=true:=by rfl)
  (hline:(apos.endLine==cpos.line)=true:=by rfl) (hs:starEach (e::es) X.env=(false,eval e X.env)::starEach es X.env:=by rfl) (hplain:(backTo cpos (starEach es X.env)).any (·.1)=false:=by rfl):
  PE X (.Call (.Attribute o name apos) (e::es) [] cpos) (tBM X.K T r to t):=by
 intro pins s σ H Q I h;refine wpAny_Call_method_late hbase hfew hline rfl (thn (ho pins s σ H _ I h) fun v s1 ⟨x,H1,I1,r1,ty,q1⟩=>?_);obtain⟨h1,h2⟩:=Ziw I1 r1 ty;refine⟨T,id,pa,slot,hty,h1,h2,?_⟩;have hA:=ha cpos pins s1 σ H1 _ I1 q1;rw[hs] at hA⊢;refine Calls.callWith_builtin (by show(false||(backTo cpos (starEach es X.env)).any (·.1))=false;rw[hplain]<;>rfl) (Calls.evalArgs_plain ?_);exact thn hA fun us s2 ⟨vs,H2,I2,r2,q2⟩=>hm pins s2 σ H2 x vs v us Q I2 r1 r2 q2
end
end L2
namespace L2
open PySem PySem.Spec PyProof.Rows
def MtM(X:Cx)(id:String)(r:V→List V→Hp→VK→Prop):Prop:=
 ∀(pins:List (Addr×Obj))(s:Shared)(σ:St)(H:Hp)(x:V)(xs:List V)(v:Value)(us:List Value)(Q:VK),Inv X pins σ H s→ZD x v→Zw xs us→r x xs H Q→
  wpAny (model X.prog X.w) X.A (call (.builtin id) (v::us)) (EP X pins σ Q) X.xe s
theorem Zw.one:∀{x:V}{us:List Value},Zw [x] us→∃u,us=[u]∧ZD x u
 |_,_,.cons r .nil=>⟨_,rfl,r⟩
theorem Zw.two:∀{x y:V}{us:List Value},Zw [x,y] us→∃u v,us=[u,v]∧ZD x u∧ZD y v
 |_,_,_,.cons r (.cons q .nil)=>⟨_,_,rfl,r,q⟩
theorem Zw.zero:∀{us:List Value},Zw [] us→us=[]
 |_,.nil=>rfl
theorem Zw.dropLast{xs:List V}{us:List Value}(h:Zw xs us):Zw xs.dropLast us.dropLast:=by
 induction h with
 |nil=>exact .nil
 |cons r t ih=>
  cases t with
  |nil=>exact .nil
  |cons q t'=>exact .cons r ih
theorem Zw.reverse{xs:List V}{us:List Value}(h:Zw xs us):Zw xs.reverse us.reverse:=by
 induction h with
 |nil=>exact .nil
 |cons r t ih=>rw[List.reverse_cons,List.reverse_cons];exact Zw.append ih (.cons r .nil)
theorem Zw.rep{xs:List V}{us:List Value}(h:Zw xs us):∀k:Nat,Zw (List.replicate k xs).flatten (List.replicate k us).flatten
 |0=> .nil
 |k+1=>by
  rw[List.replicate_succ,List.replicate_succ,List.flatten_cons,List.flatten_cons];exact Zw.append h (Zw.rep h k)
theorem ZgT{α:Type}(l:List α):l.eraseIdx (l.length-1)=l.dropLast:=by
 induction l with
 |nil=>rfl
 |cons a r ih=>
  cases r with
  |nil=>rfl
  |cons b r=>
   have e:(a::b::r).length-1=((b::r).length-1)+1:=by
    have h1:(a::b::r).length=r.length+2:=rfl;have h2:(b::r).length=r.length+1:=rfl;omega
   rw[e,List.eraseIdx_cons_succ,ih]
   all_goals rfl
theorem Zd2(its:List Value):∀(k:Nat)(acc:List Value),
  List.foldl (fun x1 x2=>x1++x2) acc.toArray (List.replicate k its.toArray)=(acc++(List.replicate k its).flatten).toArray
 |0,acc=>by simp
 |k+1,acc=>by
  have e:acc.toArray++its.toArray=(acc++its).toArray:=by simp
  have e2:(acc++its)++(List.replicate k its).flatten=acc++(List.replicate (k+1) its).flatten:=by
   rw[List.replicate_succ,List.flatten_cons,List.append_assoc]
  rw[←e2,←Zd2 its k (acc++its),←e,List.replicate_succ,List.foldl_cons]
section
variable {X:Cx}{pins:List (Addr×Obj)}{σ:St}{H:Hp}{s:Shared}{l b:Addr}{xs ys zs:List V}
theorem Inv.lset{its its':List Value}{n:Nat}{f:Array Value→Array Value}{t':Nat}(I:Inv X pins σ H s)(hH:H l=some (.lst xs))
  (e:s.heap.get? l=some {cls:= .type "list",data:= .seq its.toArray n}) (hf:f its.toArray=its'.toArray) (hv:Zw ys its') (hz:ys.length≤sizeLine):
  Inv X pins σ (upd H l (.lst ys)) {s with heap:=s.heap.update l (Obj.mapSeq f),toks:=t'}:=by
 have q:=PySem.IsL.update e f;rw[hf] at q;refine I.write (x:=l) (e:=l) (by rw[hH];exact trivial) (.inl rfl) (fun b' u hb hu=>(Heap.get?_update_other s.heap (Obj.mapSeq f) (Ne.symm hb)).trans hu) ⟨_,q⟩ ?_;exact⟨hz,its',_,hv,q⟩
theorem Inv.lnew{its:List Value}{t':Nat}(I:Inv X pins σ H s)(hv:Zw ys its)(hz:ys.length≤sizeLine):
  Inv X pins σ (upd H s.heap.objs.size (.lst ys)) {s with heap:=s.heap.push {cls:= .type "list",data:= .seq its.toArray},toks:=t'}:=
 I.laid (fun _ _ q=>Heap.get?_push_of_some _ q) (Nat.le_refl _) ⟨hz,its,0,hv,Heap.get?_push_size _ rfl⟩
theorem Inv.fresh(I:Inv X pins σ H s):H s.heap.objs.size=none:=I.hok.fresh (Nat.le_refl _)
theorem Inv.lstM(I:Inv X pins σ H s)(hH:H l=some (.lst xs)):xs.length≤sizeLine∧∃(its:List Value)(n:Nat),Zw xs its∧xs.length=its.length∧s.heap.get? l=some {cls:= .type "list",data:= .seq its.toArray n}:=by
 obtain⟨z,its,n,r,e⟩:=I.hok l _ hH;exact⟨z,its,n,r,r.length,e⟩
theorem Zfi{n:Nat}(h:n≤sizeLine):Builtin.List.listTooLong n=false:=by
 unfold Builtin.List.listTooLong;exact decide_eq_false (by omega)
end
section
variable {X:Cx}
noncomputable def rAppend:V→List V→Hp→VK→Prop:=fun x vs H Q=>∃l xs y,x= .ref l∧vs=[y]∧H l=some (.lst xs)∧xs.length<sizeLine∧Q .non (upd H l (.lst (xs++ [y])))
theorem Ym:MtM X "list.append" rAppend:=by
 intro pins s σ H x vs v us Q I rx rv h;obtain⟨l,xs,y,rfl,rfl,hH,hz,q⟩:=h;cases rx;obtain⟨u,rfl,ru⟩:=rv.one;obtain⟨z,its,n,r,hl,e⟩:=I.lstM hH;refine call_meets F.slot_list_append ⟨_,e,rfl⟩ F.entry_list_append (F.args_list_append_2 _ _) (PySem.list_append l its.toArray n u (by rw[List.size_toArray];omega)) ⟨e,?_⟩;refine⟨.non,_,I.lset (its':=its++ [u]) hH e (by simp) (r.append (.cons ru .nil)) ?_,rfl,q⟩;rw[List.length_append,List.length_singleton];omega
noncomputable def rExtend:V→List V→Hp→VK→Prop:=fun x vs H Q=>∃l b xs zs,x= .ref l∧vs=[.ref b]∧H l=some (.lst xs)∧H b=some (.lst zs)∧xs.length+zs.length≤sizeLine∧Q .non (upd H l (.lst (xs++zs)))
theorem Zmw:MtM X "list.extend" rExtend:=by
 intro pins s σ H x vs v us Q I rx rv h;obtain⟨l,b,xs,zs,rfl,rfl,hH,hB,hz,q⟩:=h;cases rx;obtain⟨u,rfl,ru⟩:=rv.one;cases ru;obtain⟨z,its,n,r,hl,e⟩:=I.lstM hH;obtain⟨z2,its2,n2,r2,hl2,e2⟩:=I.lstM hB;have hsz:its.toArray.size+its2.toArray.size≤sizeLine:=by rw[List.size_toArray,List.size_toArray];omega
 have hlong:¬(!its.toArray.isEmpty&&Builtin.List.listTooLong (its.toArray.size+its2.toArray.size))=true:=by
  rw[Zfi hsz,Bool.and_false];exact Bool.false_ne_true
 refine call_meets F.slot_list_extend ⟨_,e,rfl⟩ F.entry_list_extend (F.args_list_extend_2 _ _)
  (AutoSeq1.list_extend_list_list_0 l its.toArray n b its2.toArray n2 hlong (by rw[List.size_toArray];omega) (by omega)) ⟨e,e2,?_⟩
 refine⟨.non,_,I.lset (its':=its++its2) hH e (by simp) (r.append r2) ?_,rfl,q⟩;rw[List.length_append];omega
noncomputable def rPop:V→List V→Hp→VK→Prop:=fun x vs H Q=>∃l xs y,x= .ref l∧vs=[]∧H l=some (.lst xs)∧xs[xs.length-1]? =some y∧Q y (upd H l (.lst xs.dropLast))
theorem Znn:MtM X "list.pop" rPop:=by
 intro pins s σ H x vs v us Q I rx rv h;obtain⟨l,xs,y,rfl,rfl,hH,hy,q⟩:=h;cases rx;have hus:=rv.zero;subst hus;obtain⟨z,its,n,r,hl,e⟩:=I.lstM hH;obtain⟨u,hu,ru⟩:=r.get hy;have hy':its.toArray[its.toArray.size-1]? =some u:=by
  show its.toArray[its.length-1]? =some u;rw[←Array.getElem?_toList,←hl];exact hu
 refine call_meets F.slot_list_pop ⟨_,e,rfl⟩ F.entry_list_pop (F.args_list_pop_1 _) (MeetsSeq.list_pop_last l its.toArray n u hy' (by rw[List.size_toArray];omega)) ⟨e,?_⟩;refine⟨y,_,I.lset (its':=its.dropLast) hH e ?_ r.dropLast ?_,ru,q⟩
 ·show its.toArray.eraseIdxIfInBounds (its.toArray.size-1)=its.dropLast.toArray;rw[List.size_toArray,List.eraseIdxIfInBounds_toArray,ZgT]
 ·rw[List.length_dropLast];omega
noncomputable def rReverse:V→List V→Hp→VK→Prop:=fun x vs H Q=>∃l xs,x= .ref l∧vs=[]∧H l=some (.lst xs)∧Q .non (upd H l (.lst xs.reverse))
theorem ZgP:MtM X "list.reverse" rReverse:=by
 intro pins s σ H x vs v us Q I rx rv h;obtain⟨l,xs,rfl,rfl,hH,q⟩:=h;cases rx;have hus:=rv.zero;subst hus;obtain⟨z,its,n,r,hl,e⟩:=I.lstM hH;refine call_meets F.slot_list_reverse ⟨_,e,rfl⟩ F.entry_list_reverse (F.args_list_reverse_1 _) (AutoSeq1.list_reverse_list_0 l its.toArray n (by rw[List.size_toArray];omega)) ⟨e,?_⟩;refine⟨.non,_,I.lset (its':=its.reverse) hH e (by simp) r.reverse ?_,rfl,q⟩;rw[List.length_reverse];omega
noncomputable def rCat:R2:=fun x y H Q=>∃l b xs zs,x= .ref l∧y= .ref b∧H l=some (.lst xs)∧H b=some (.lst zs)∧xs.length+zs.length≤sizeLine∧∀p,H p=none→Q (.ref p) (upd H p (.lst (xs++zs)))
theorem Zll:OpR X (binaryOp .Add) rCat:=by
 intro pins s σ H x y v u Q I rx ry h;obtain⟨l,b,xs,zs,rfl,rfl,hH,hB,hz,q⟩:=h;cases rx;cases ry;obtain⟨z,its,n,r,hl,e⟩:=I.lstM hH;obtain⟨z2,its2,n2,r2,hl2,e2⟩:=I.lstM hB;refine PySem.P.add_list e e2 ?_ (by rw[List.size_toArray,List.size_toArray];omega);have ea:its.toArray++its2.toArray=(its++its2).toArray:=by simp
 rw[ea];exact⟨.ref _,_,I.lnew (t':=s.toks) (r.append r2) (by rw[List.length_append];omega),rfl,q _ I.fresh⟩
noncomputable def rRep:R2:=fun x y H Q=>∃l k xs,x= .ref l∧y= .int k∧H l=some (.lst xs)∧ -(2 ^ 63)≤k∧k<2 ^ 63∧xs.length*k.toNat≤sizeLine∧
 ∀p,H p=none→Q (.ref p) (upd H p (.lst (List.replicate k.toNat xs).flatten))
theorem Zky{α:Type}(xs:List α)(k:Nat):(List.replicate k xs).flatten.length=k*xs.length:=by
 induction k with
 |zero=>simp
 |succ k ih=>rw[List.replicate_succ,List.flatten_cons,List.length_append,ih,Nat.succ_mul,Nat.add_comm]
theorem Zk9:OpR X (binaryOp .Mult) rRep:=by
 intro pins s σ H x y v u Q I rx ry h;obtain⟨l,k,xs,rfl,rfl,hH,h1,h2,hz,q⟩:=h;cases rx;obtain⟨t,rfl⟩:=ry;obtain⟨z,its,n,r,hl,e⟩:=I.lstM hH;have hlen:its.toArray.size*k.toNat≤sizeLine:=by rw[List.size_toArray,←hl];exact hz
 have hcap:¬its.toArray.size*k.toNat > (2 ^ 63-1) / 8:=by
  have:(sizeLine:Nat)≤(2 ^ 63-1) / 8:=by decide
  omega
 have hfit:¬(!Builtin.List.listFitsIndex k)=true:=by
  rw[fitsIndex_both h1 h2];exact Bool.false_ne_true
 have hlong:¬Builtin.List.listTooLong (its.toArray.size*k.toNat)=true:=by
  rw[Zfi hlen];exact Bool.false_ne_true
 have hnew:List.foldl (fun x1 x2=>x1++x2) #[] (List.replicate (if its.toArray.isEmpty=true then 0 else k.toNat) its.toArray)=(List.replicate k.toNat its).flatten.toArray:=by
  have f0:∀m:Nat,List.foldl (fun x1 x2=>x1++x2) #[] (List.replicate m its.toArray)=(List.replicate m its).flatten.toArray:=fun m=>by
   have:=Zd2 its m [];rw[List.nil_append] at this;exact this
  rw[f0];cases its with
  |nil=>simp
  |cons a r'=>rw[if_neg (by simp)]
 refine wpAny_binaryOp_repeat_ref (T:="list") (U:="int") (by decide) ⟨_,e,rfl⟩ (fun s'=>typeIs_int s' k t) noFill_list_mul F.fills_int_mul F.slot_int_rmul repeat_list F.slot_int_index.lookup
  (call_meets F.slot_int_rmul (typeIs_int s k t) F.entry_int_rmul (F.args_int_rmul_2 _ _) (int___rmul___int_list k t l its.toArray n)
   ⟨e,rfl,⟨_,e,rfl⟩,call_meets F.slot_list_mul ⟨_,e,rfl⟩ F.entry_list_mul (F.args_list_mul_2 _ _) (AutoListH.list___mul___list_int_3 l its.toArray n k t hfit hcap hlong) ⟨e,?_⟩⟩)
 rw[hnew];exact⟨.ref _,_,I.lnew (t':=s.toks) (r.rep k.toNat) (by rw[Zky,Nat.mul_comm];exact hz),rfl,q _ I.fresh⟩
end
section
variable {prog:Program}{w:World}{A:Around}{E:Value→Shared→Prop}{s:Shared}
end
section
variable {X:Cx}
end
end L2
namespace Att
open PySem PySem.W PySem.Calls PyProof.Rows
theorem Zdp{P:Params}{h:Heap}:∀(ns:List Int)(vs:List Value),WellAll P h vs (ns.map WData.int)→IntsAre vs ns:=by
 intro ns
 induction ns with
 |nil=>
  intro vs w;rw[List.map_nil] at w;cases w;exact .nil
 |cons n ns ih=>
  intro vs w;rw[List.map_cons] at w;cases w with
  |cons a b=>
   cases a;exact .cons _ _ (ih _ b)
theorem Ziq{l:OpenLaw}{n:Nat}(hn:l.most=some n){P:Params}{h:Heap}{args:List WData}{vals:List Value}
  (hpre:l.row.toRowW.claim.pre args=true) (hwl:WellAll P h vals args):
  ∃a vs ns,vals=[Value.ref a]∧args=[WData.list (ns.map WData.int)]∧h.get? a=some {cls:= .type "list",data:= .seq vs.toArray}∧IntsAre vs ns∧ns.length≤n:=by
 have hsh:WShape.hasAll [] args [.list .int]=true:=(pre_splitW hpre).1;have hc:l.pre.holds [] {args:=args}=true:=(pre_splitW hpre).2;obtain⟨d,r,rfl,h1,h2⟩:=hasAllW_cons hsh;obtain rfl:=hasAllW_nil h2;obtain⟨xs,rfl,h3⟩:=hasW_list h1;obtain⟨ns,rfl⟩:=items_int h3;have hlen:ns.length≤n:=by
  unfold OpenLaw.pre at hc;have h4:(WTm.not (.lt (.lit (.int (n:Int))) (.len (.arg 0)))).holds [] {args:=[.list (ns.map .int)]}=true:=by
   have h4:=(holds_andW hc).1;rw[hn] at h4;exact h4
  have h5:=condW_of h4 (w_not (w_lt w_lit (w_len_list (w_arg rfl))));rw[List.length_map] at h5;refine Nat.le_of_not_lt fun q=>?_;have q':(n:Int)<((ns.length:Nat):Int):=by omega
  first
   |(rw[decide_eq_true q'] at h5;exact absurd h5 (by decide))
   |(simp at h5;omega)
 cases hwl with
 |cons w1 w2=>
  cases w2;cases w1 with
  |list ho hall=>exact⟨_,_,ns,rfl,rfl,ho,Zdp ns _ hall,hlen⟩
theorem Ziv(l:OpenLaw)(args:List WData):l.row.toRowW.claim.post args (.bool true) args=true:=
 postW_of (r:=l.row.toRowW) (X:=(true==true))
  (show WShape.has [] (.bool true) .bool=true by first|rfl|decide|simp[WShape.has,WShape.arms,WShape.armsAll])
  (show(WTm.eq .res (.lit (.bool true))).value [] {args:=args,res:=some (.bool true),after:=args}=some (.bool (true==true)) from w_eq_bool (w_res rfl) w_lit) rfl
theorem Zgf{l:OpenLaw}{n:Nat}{q:Program}{loose:List Str}{XP:(Str→Option Value)→Heap→Prop}{YP:World→Heap→Prop}{d:DefRec}
  (hn:l.most=some n) (hdf:d.params.defaults=[])
  (call:∀(w:World)(s₀ s₁:Shared)(mg mb:Str→Option Value)(fa:Addr)(o:Obj)(pm cd doc:Value)(a:Addr)(vs:List Value)(ns:List Int),
   Ground q loose [] XP w s₀ mg mb s₁.heap→YP w s₁.heap→
   s₁.heap.get? fa=some o→o.data= .func (docDef d.name d.params d.body d.scope pm cd doc)→s₁.heap.CodeRec cd d.name→mg d.name=some (.ref fa)→
   s₁.heap.get? a=some {cls:= .type "list",data:= .seq vs.toArray}→IntsAre vs ns→ns.length≤n→s₁.gens=#[]→
   codeAny (model l.prog w) callerA (.call (.ref fa) ⟨[.ref a],[]⟩) (fun r s'=>r= .ok (.ret (.bool true))∧OldK s₁.heap s'.heap∧s'.os=s₁.os∧AllBare s'.gens) s₁):
  WalkO q loose XP YP l.row.toRowW d [] (fun f vs=>PySem.call f vs):=by
 intro w s₀ s₁ mg mb G Y fa o pm cd doc dV kV ho hd hcd hD hmg hg args vals as hpre hlay hrd hwl hlo;obtain rfl:dV= .none:=Dflts.none hD hdf;obtain rfl:kV= .none:=Dflts.noKw hD;obtain⟨a,vs,ns,rfl,rfl,hobj,hints,hlen⟩:=Ziq hn hpre hwl;refine enter_call (codeAny_mono (call w s₀ s₁ mg mb fa o pm cd doc a vs ns G Y ho (fd_plain hd) hcd hmg hobj hints hlen hg) fun r s' hq=>?_);obtain⟨rfl,h2,h3,h4⟩:=hq;exact⟨.inl ⟨.bool true,.bool true,[],rfl,fun _=>rfl,.bool true,Ziv l _,fun _=>⟨List.Pairwise.nil,fun _ hm=>(nomatch hm)⟩⟩,h2,h3,h4⟩
section
variable {prog:Program}{w:World}{A:Around}{E:Value→Shared→Prop}{s:Shared}{K:Frag}
end
end Att
namespace L2
open PySem PySem.Spec PyProof.Rows
theorem Zah:∀{vs:List Value}{ns:List Int},IntsAre vs ns→Zw (ns.map V.int) vs
 |_,_,.nil=> .nil
 |_,_,.cons n t h=> .cons ⟨t,rfl⟩ (Zah h)
def Zjw(H:Hp):Prop:=∀b,H b=none∨∃o xs,H b=some (.frz o (.lst xs))
theorem ZiV{P:Program}{w:World}{K:PySem.W.Frag}{mg mb:Str→Option Value}{CX:CXT}{k:Nat}{fa a:Addr}{fd:FuncData}{x:Str}{sp:Sp}{s₁:Shared}{vs:List Value}{ns:List Int}
  (KX:K.In s₁.heap) (hns:s₁.heap.Ns mainGlobals mg) (hb:s₁.heap.Ns builtinsNs mb) (hbb:∀x:Str,x≠"__name__" →mb x=bootBuiltins x) (hlim:s₁.heap.NoLimit) (hg:s₁.gens=#[])
  (ha:s₁.heap.get? a=some {cls:= .type "list",data:= .seq vs.toArray}) (hi:IntsAre vs ns) (hl:ns.length≤sizeLine) (hr:YB k callerA)
  (F:∀base:Heap,K.In base→base.Ns mainGlobals mg→Zl P w K mg base CX k fa fd [x] sp) (hbind:∀(s:Shared)(u:Value),BindsTo s fd ⟨[u],[]⟩ [(x,u)])
  (hsp:∀H:Hp,Zjw H→SqL K H a (ns.map V.int)→sp [.ref a] H (fun v _=>v= .bl true) fun _ _ _=>False)
  (hCX:∀H e s',CX [] H s₁ (fun _ _ _=>False) e s'→False):
  codeAny (model P w) callerA (.call (.ref fa) ⟨[.ref a],[]⟩) (fun r s'=>r= .ok (.ret (.bool true))∧OldK s₁.heap s'.heap∧s'.os=s₁.os∧AllBare s'.gens) s₁:=by
 have rv:=Zah hi;have lenV:=hi.length;have core:∀H:Hp,Zjw H→SqL K H a (ns.map V.int)→HOk P w H s₁.heap→(∀b,H b≠none→b=a)→(H a≠none→K.lookup a=none)→
   codeAny (model P w) callerA (.call (.ref fa) ⟨[.ref a],[]⟩) (fun r s'=>r= .ok (.ret (.bool true))∧OldK s₁.heap s'.heap∧s'.os=s₁.os∧AllBare s'.gens) s₁:=by
  intro H hO hS hok hA hK;have base_of:∀{b:Addr}{o:Obj},s₁.heap.get? b=some o→H b=none→(Zba s₁.heap H).get? b=some o:=fun e n=>Zji e n;have noA:∀{b:Addr}{o:Obj}{es:Array DictEntry}{ep:Nat},s₁.heap.get? b=some o→o.data= .dict es ep→H b=none:=fun{b o es ep} e d=>by
   cases q:H b with
   |none=>rfl
   |some u=>
    have e':b=a:=hA b (by rw[q];simp);subst e';rw[ha] at e;cases e;have d':Data.seq vs.toArray _=Data.dict es ep:=d;cases d'
  have nsK:∀{b:Addr}{m:Str→Option Value},s₁.heap.Ns b m→(Zba s₁.heap H).Ns b m:=fun{b m} ⟨o,es,ep,e,d,r⟩=>⟨o,es,ep,base_of e (noA e d),d,r⟩;have hKb:K.In (Zba s₁.heap H):=fun b o e=>base_of (KX b o e) (by
   cases q:H b with
   |none=>rfl
   |some u=>
    have e':b=a:=hA b (by rw[q];simp);subst e';rw[hK (by rw[q];simp)] at e;cases e)
  have hM:Mod K mg (Zba s₁.heap H):=⟨hKb,nsK hns,⟨mb,nsK hb,hbb⟩,let⟨mc,h1,h2⟩:=hlim;⟨mc,nsK h1,h2⟩⟩;have e0:ZcN P w K mg (Zba s₁.heap H) callerA [] s₁ H:=⟨rfl,hM,fun b o e=>Zj1 e,Nat.le_of_eq (Zil _ _),trivial,fun b hb=>absurd (show b∈([]:List Addr) from hb) (by simp),hok,.of_eq hg⟩;refine codeAny_mono ((F _ hKb (nsK hns)).run callerA [] s₁ H ⟨[.ref a],[]⟩ [.ref a] [.ref a] _ _ hr e0 (hbind s₁ (.ref a)) (.cons rfl .nil) (hsp H hO hS)) fun r s' h=>?_;cases r with
  |error e=>exact(hCX H e s' h).elim
  |ok fl=>
   cases fl with
   |next=>exact False.elim h
   |brk=>exact False.elim h
   |cont=>exact False.elim h
   |ret u=>
    obtain⟨v,H',os,bare,un,hok',r',q⟩:=h;have q':v= .bl true:=q;subst q';obtain rfl:u=Value.bool true:=r';refine⟨rfl,OldK.of_keep fun b o e=>?_,os,bare⟩;cases q:H b with
    |none=>exact un.keep b o e q (by intro z;exact absurd (show b∈([]:List Addr) from z) (by simp)) (by simp)
    |some u=>
     rcases hO b with z|⟨ob,xs,z⟩
     ·rw[q] at z;cases z
     ·have z2:=un.frzs b ob _ z;obtain⟨e1,_⟩:=hok b _ z;obtain⟨e2,_⟩:=hok' b _ z2;rw[e] at e1;cases e1;exact e2
 cases hk:K.lookup a with
 |some o=>
  have e:=KX a o hk;rw[ha] at e;cases e;refine core (fun _=>none) (fun _=> .inl rfl) (.inr ⟨_,vs.toArray,_,hk,rfl,rfl,rfl,by rw[List.size_toArray,lenV];exact hl,by simpa using rv⟩) (fun b u z=>by have z':(none:Option HO)=some u:=z;cases z') (fun b z=>absurd rfl z) fun z=>absurd rfl z
 |none=>
  refine core (fun b=>if b=a then some (.frz {cls:= .type "list",data:= .seq vs.toArray} (.lst (ns.map V.int))) else none) (fun b=>?_) (.inl (.inr ⟨{cls:= .type "list",data:= .seq vs.toArray},if_pos rfl⟩)) (fun b u z=>?_) (fun b z=>?_) fun _=>hk
  ·by_cases hb:b=a
   ·exact .inr ⟨_,_,if_pos hb⟩
   ·exact .inl (if_neg hb)
  ·by_cases hb:b=a
   ·have z':=(if_pos hb).symm.trans z;cases z';subst hb;exact⟨ha,by rw[List.length_map];exact hl,vs,_,rv,ha⟩
   ·have z':=(if_neg hb).symm.trans z;cases z'
  ·by_cases hb:b=a
   ·exact hb
   ·exact absurd (if_neg hb) z
end L2
namespace L2
open PySem PySem.Spec PyProof.Rows
theorem Zkd{l:PySem.W.OpenLaw}{n k:Nat}{q:Program}{loose:List Str}{XP:(Str→Option Value)→Heap→Prop}{YP:World→Heap→Prop}{d:DefRec}{K:Params→PySem.W.Frag}{CX:World→CXT}{sp:World→Sp}{x:Str}
  (hn:l.most=some n) (hn2:n≤sizeLine) (hdf:d.params.defaults=[]) (hr:YB k callerA)
  (hY:∀(w:World)(h:Heap),YP w h→(K w.params).In h)
  (F:∀(w:World)(mg:Str→Option Value)(fa:Addr)(h:Heap),(K w.params).In h→h.Ns mainGlobals mg→mg d.name=some (.ref fa)→
   ∃fd:FuncData,(∀(s:Shared)(u:Value),BindsTo s fd ⟨[u],[]⟩ [(x,u)])∧
    ∀base:Heap,(K w.params).In base→base.Ns mainGlobals mg→Zl l.prog w (K w.params) mg base (CX w) k fa fd [x] (sp w))
  (hsp:∀(w:World)(H:Hp)(a:Addr)(ns:List Int),ns.length≤n→Zjw H→SqL (K w.params) H a (ns.map V.int)→sp w [.ref a] H (fun v _=>v= .bl true) fun _ _ _=>False)
  (hCX:∀(w:World)(H:Hp)(s:Shared)(e:Value)(s':Shared),CX w [] H s (fun _ _ _=>False) e s'→False):
  PySem.W.WalkO q loose XP YP l.row.toRowW d [] (fun f vs=>PySem.call f vs):=by
 refine Att.Zgf hn hdf fun w s₀ s₁ mg mb fa o pm cd doc a vs ns G Y ho hd hcd hmg hobj hints hlen hg=>?_;have KX:=hY w _ Y;obtain⟨fd,hb,hF⟩:=F w mg fa _ KX G.T.g hmg;exact ZiV KX G.T.g G.T.b G.T.builtins G.T.nolimit hg hobj hints (Nat.le_trans hlen hn2) hr hF hb (fun H hO hS=>hsp w H a ns hlen hO hS) fun H e s'=>hCX w H s₁ e s'
end L2
namespace L2
open PySem PySem.Spec PyProof.Rows
noncomputable def YA (s:Stmt) (j:Nat):Stmt:=match s with
 | .ClassDef _ _ _ body _ _ _ _ _ _ _=>body.getD j (.Pass ⟨0,0,0,0⟩)
 |_=> .Pass ⟨0,0,0,0⟩
noncomputable def VB (s:Stmt):Arguments:=match s with
 | .FunctionDef _ a _ _ _ _ _ _ _ _=>a
 |_=>{posonlyargs:=[],args:=[],vararg:=none,kwonlyargs:=[],kw_defaults:=[],kwarg:=none,defaults:=[]}
noncomputable def WL (s:Stmt):List Stmt:=match s with
 | .FunctionDef _ _ b _ _ _ _ _ _ _=>b
 |_=>[]
noncomputable def Zj (s:Stmt):Scope:=match s with
 | .FunctionDef _ _ _ _ _ _ sc _ _ _=>sc
 |_=>{kind:= .function,names:=[],isGenerator:=false,isCoroutine:=false}
noncomputable abbrev E0:XK:=fun _ _ _=>False
structure Fun(K:PySem.W.Frag)(x qual:Str)(st:Stmt)(f:Addr)(fd:FuncData):Prop where
 ex:∃(oc:Value)(od:Option Addr)(kV doc pm:Value)(an:Option Addr)(cdv ct:Value)(osl:Array (Option Value)),
  fd=PySem.W.fnOf x qual (VB st) (WL st) (Zj st) .none kV doc pm an cdv ct∧K.lookup f=some ⟨oc,od,.func fd,osl⟩∧PySem.W.codeIn K cdv qual=true
 kp:PySem.W.keepIn K (.ref f)=true
section
variable {P:Program}{w:World}{K:PySem.W.Frag}{mg:Str→Option Value}{base:Heap}
theorem Fun.binds{x qual:Str}{st:Stmt}{f:Addr}{fd:FuncData}{ps:List Str}(F:Fun K x qual st f fd)
  (h:∀(kV doc pm:Value)(an:Option Addr)(cdv ct:Value)(us:List Value),us.length=ps.length→bindArgs (PySem.W.fnOf x qual (VB st) (WL st) (Zj st) .none kV doc pm an cdv ct) ⟨us,[]⟩=pure (ps.zip us)):ZA K fd ps []:=by
 obtain⟨oc,od,kV,doc,pm,an,cdv,ct,osl,rfl,lk,hcd⟩:=F.ex;exact .all (h kV doc pm an cdv ct)
theorem ZB{x qual:Str}{st:Stmt}{f:Addr}{oc:Value}{od an:Option Addr}{osl:Array (Option Value)}{kV doc pm cdv ct:Value}(l:K.lookup f=some ⟨oc,od,.func (PySem.W.fnOf x qual (VB st) (WL st) (Zj st) .none kV doc pm an cdv ct),osl⟩)
  (c:PySem.W.codeIn K cdv qual=true) (k:PySem.W.keepIn K (.ref f)=true):Fun K x qual st f (PySem.W.fnOf x qual (VB st) (WL st) (Zj st) .none kV doc pm an cdv ct):=⟨⟨oc,od,kV,doc,pm,an,cdv,ct,osl,rfl,l,c⟩,k⟩
end
theorem Zq{n:Nat}(h:n≤1000):n<sizeLine:=Nat.lt_of_le_of_lt h (by decide)
section
variable {X:Cx}
theorem pv(i:Nat){x:Str}{pos:Pos}(hN:X.N[i]? =some x:=by rfl)(hv:Vis X.env.scope x:=by first|exact Or.inl rfl|exact Or.inr (Or.inl rfl)|exact Or.inr (Or.inr rfl))(hd:(x==("__debug__" :Str))=false:=by decide)
  (hcd:(x==("__classdict__" :Str))=false:=by decide):PE X (.Name x pos) (Zhh i):=Zlv hN hv hd hcd
end
theorem ZfQ{A B:Prop}(h:B):if false=true then A else B:=by
 rw[if_neg Bool.false_ne_true];exact h
theorem ZeV{A B:Prop}(h:A):if true=true then A else B:=by
 rw[if_pos rfl];exact h
theorem Zbs{c A B:Prop}[Decidable c](h1:c→A)(h2:¬c→B):if c then A else B:=by
 by_cases h:c
 ·rw[if_pos h];exact h1 h
 ·rw[if_neg h];exact h2 h
def Zd(H H':Hp):Prop:=∀b o,H b=some o→H' b=some o
theorem Zd.refl(H:Hp):Zd H H:=fun _ _ h=>h
theorem Zd.trans{H H1 H2:Hp}(a:Zd H H1)(b:Zd H1 H2):Zd H H2:=fun c o h=>b c o (a c o h)
theorem Zd.seq{K:PySem.W.Frag}{H H':Hp}{a:Addr}{xs:List V}(e:Zd H H')(h:SqL K H a xs):SqL K H' a xs:=by
 rcases h with(h|⟨o,h⟩)|h
 ·exact .inl (.inl (e _ _ h))
 ·exact .inl (.inr ⟨o,e _ _ h⟩)
 ·exact .inr h
end L2
namespace L2
open PySem PySem.Spec PyProof.Rows
section
variable {κ:Type}[DecidableEq κ]
noncomputable def valV (kvs:List (κ×V)) (k:κ):Option V:=(kvs.find? fun kv=>decide (kv.1=k)).map (·.2)
noncomputable def YR (kvs:List (κ×V)) (k:κ) (v:V):List (κ×V):=
 if(kvs.any fun kv=>decide (kv.1=k))=true then kvs.map (fun kv=>if kv.1=k then(kv.1,v) else kv) else kvs++ [(k,v)]
theorem Yy{p:κ×V}{r:List (κ×V)}{k:κ}(e:p.1=k):valV (p::r) k=some p.2:=by simp[valV,List.find?_cons,e]
theorem Yx{p:κ×V}{r:List (κ×V)}{k:κ}(e:¬p.1=k):valV (p::r) k=valV r k:=by simp[valV,List.find?_cons,e]
theorem W4(k:κ):∀kvs:List (κ×V),(kvs.any fun kv=>decide (kv.1=k))=(valV kvs k).isSome
 | []=>rfl
 |p::r=>by
  rw[List.any_cons]
  by_cases e:p.1=k
  ·simp only[Yy e,decide_eq_true e,Bool.true_or,Option.isSome_some]
  ·rw[Yx e,decide_eq_false e,Bool.false_or];exact W4 k r
theorem Zft(k j:κ)(y:V):∀kvs:List (κ×V),valV (kvs.map fun kv=>if kv.1=k then(kv.1,y) else kv) j=(valV kvs j).map fun x=>if j=k then y else x
 | []=>rfl
 |p::r=>by
  have ih:=Zft k j y r;rw[List.map_cons]
  by_cases h:p.1=k
  ·rw[if_pos h]
   by_cases e:p.1=j
   ·rw[Yy (p:=(p.1,y)) e,Yy e,Option.map_some,if_pos (e.symm.trans h)]
   ·rw[Yx (p:=(p.1,y)) e,Yx e,ih]
  ·rw[if_neg h]
   by_cases e:p.1=j
   ·rw[Yy (p:=p) e,Yy e,Option.map_some,if_neg (fun z=>h (e.trans z))]
   ·rw[Yx (p:=p) e,Yx e,ih]
theorem Zef(k j:κ)(y:V):∀kvs:List (κ×V),valV kvs k=none→valV (kvs++ [(k,y)]) j=if j=k then some y else valV kvs j
 | [],_=>by
  by_cases e:k=j
  ·rw[if_pos e.symm];exact Yy (p:=(k,y)) e
  ·rw[if_neg (fun z=>e z.symm)];exact Yx (p:=(k,y)) e
 |p::r,hn=>by
  rw[List.cons_append];have hk:¬p.1=k:=fun z=>by rw[Yy z] at hn;cases hn
  rw[Yx hk] at hn;have ih:=Zef k j y r hn
  by_cases e:p.1=j
  ·rw[Yy e,Yy e,if_neg (fun z=>hk (e.trans z))]
  ·rw[Yx e,Yx e,ih]
theorem Zjn(kvs:List (κ×V))(k j:κ)(y:V):valV (YR kvs k y) j=if j=k then some y else valV kvs j:=by
 unfold YR
 by_cases a:(kvs.any fun kv=>decide (kv.1=k))=true
 ·rw[if_pos a,Zft];rw[W4] at a
  by_cases e:j=k
  ·obtain⟨x,hx⟩:=Option.isSome_iff_exists.mp a;rw[if_pos e,e,hx,Option.map_some,if_pos rfl]
  ·rw[if_neg e];cases valV kvs j with
   |none=>rfl
   |some x=>rw[Option.map_some,if_neg e]
 ·rw[if_neg a];refine Zef k j y kvs ?_;rw[W4] at a;cases q:valV kvs k with
  |none=>rfl
  |some x=>rw[q] at a;exact(a rfl).elim
theorem Zax(kvs:List (κ×V))(k:κ)(v:V):(YR kvs k v).length≤kvs.length+1:=by
 unfold YR
 split
 ·rw[List.length_map];omega
 ·rw[List.length_append,List.length_cons,List.length_nil];omega
theorem Za6{kvs:List (κ×V)}{k:κ}(v:V)(h:valV kvs k=none):YR kvs k v=kvs++ [(k,v)]:=by
 unfold YR;rw[W4,h];exact if_neg (by decide)
theorem Ve.isSome_eq{o:Option V}{u:Option Value}(r:Ve o u):o.isSome=u.isSome:=by
 cases o with
 |none=>cases u with
  |none=>rfl
  |some _=>exact(show False from r).elim
 |some _=>cases u with
  |none=>exact(show False from r).elim
  |some _=>rfl
theorem KV.val{kvs:List (κ×V)}{vs:List (κ×Value)}(r:KV kvs vs)(k:κ):Ve (valV kvs k) (valueAt vs k):=by
 unfold KV at r
 induction r with
 |nil=>exact True.intro
 | @cons p q ps qs h t ih=>
  obtain⟨h1,h2⟩:=h
  by_cases e:p.1=k
  ·have e':q.1=k:=h1.symm.trans e;have b:valueAt (q::qs) k=some q.2:=by simp[valueAt,List.find?_cons,e']
   rw[Yy e,b];exact h2
  ·have e':¬q.1=k:=fun z=>e (h1.trans z);have b:valueAt (q::qs) k=valueAt qs k:=by simp[valueAt,List.find?_cons,e']
   rw[Yx e,b];exact ih
theorem KV.any{kvs:List (κ×V)}{vs:List (κ×Value)}(r:KV kvs vs)(k:κ):(kvs.any fun kv=>decide (kv.1=k))=vs.any fun kv=>decide (kv.1=k):=by
 unfold KV at r
 induction r with
 |nil=>rfl
 |cons h t ih=>rw[List.any_cons,List.any_cons,ih,h.1]
theorem KV.repl{kvs:List (κ×V)}{vs:List (κ×Value)}(r:KV kvs vs)(k:κ){y:V}{u:Value}(ry:ZD y u):
  KV (kvs.map fun kv=>if kv.1=k then(kv.1,y) else kv) (vs.map fun kv=>if kv.1=k then(kv.1,u) else kv):=by
 unfold KV at r⊢
 induction r with
 |nil=>exact .nil
 | @cons p q ps qs h t ih=>
  rw[List.map_cons,List.map_cons];refine .cons ?_ ih;obtain⟨h1,h2⟩:=h
  by_cases e:p.1=k
  ·rw[if_pos e,if_pos (h1.symm.trans e)];exact⟨h1,ry⟩
  ·rw[if_neg e,if_neg (fun z=>e (h1.trans z))];exact⟨h1,h2⟩
theorem KV.put{kvs:List (κ×V)}{vs:List (κ×Value)}(r:KV kvs vs)(k:κ){y:V}{u:Value}(ry:ZD y u):KV (YR kvs k y) (stored vs k u):=by
 unfold YR stored;rw[r.any k]
 by_cases e:(vs.any fun kv=>decide (kv.1=k))=true
 ·rw[if_pos e,if_pos e];exact r.repl k ry
 ·rw[if_neg e,if_neg e];exact Paired.snoc r ⟨rfl,ry⟩
theorem KV.length{kvs:List (κ×V)}{vs:List (κ×Value)}(r:KV kvs vs):kvs.length=vs.length:=Paired.length r
end
theorem Zch{P:Program}{w:World}{k:Key}{u:Value}(r:ZD (kV k) u):(ZQ P w).is k u=true:=by
 cases k with
 |inl i=>obtain⟨t,e⟩:=(show ∃t,u=Value.int i t from r);subst e;exact Zf4 P w i t
 |inr x=>obtain⟨t,e⟩:=(show ∃t,u=Value.str x t from r);subst e;exact Zge P w x t
theorem ZlH{a b:Key}(e:kV a=kV b):a=b:=by
 cases a with
 |inl i=>cases b with
  |inl j=>have e':V.int i=V.int j:=e;injection e' with e';rw[e']
  |inr y=>exact nomatch (show V.int i=V.str y from e)
 |inr x=>cases b with
  |inl j=>exact nomatch (show V.str x=V.int j from e)
  |inr y=>have e':V.str x=V.str y:=e;injection e' with e';rw[e']
theorem ZdY{P:Program}{w:World}:∀{ks:List Key}{us:List Value},Zw (ks.map kV) us→ItemsAre (ZQ P w) ks us
 | [],_,r=>by rw[List.map_nil] at r;cases r;exact .nil
 |k::ks,_,r=>by
  rw[List.map_cons] at r;cases r with
  |cons h t=>exact .cons (Zch h) (ZdY t)
noncomputable abbrev KT (H:Hp):List (List Key×V)→List (List Key×Addr×Value)→Prop:=Paired fun p q=>p.1=q.1∧H q.2.1=some (.tup (p.1.map kV))∧ZD p.2 q.2.2
theorem KT.val{H:Hp}{kvs:List (List Key×V)}{xs:List (List Key×Addr×Value)}(r:KT H kvs xs)(k:List Key):Ve (valV kvs k) ((atKey xs k).map (·.2)):=by
 induction r with
 |nil=>exact True.intro
 | @cons p q ps qs h t ih=>
  obtain⟨h1,_,h2⟩:=h
  by_cases e:p.1=k
  ·have e':q.1=k:=h1.symm.trans e;have b:atKey (q::qs) k=some q.2:=by simp[atKey,List.find?_cons,e']
   rw[Yy e,b];exact h2
  ·have e':¬q.1=k:=fun z=>e (h1.trans z);have b:atKey (q::qs) k=atKey qs k:=by simp[atKey,List.find?_cons,e']
   rw[Yx e,b];exact ih
theorem KT.repl{H:Hp}{kvs:List (List Key×V)}{xs:List (List Key×Addr×Value)}(r:KT H kvs xs)(k:List Key){y:V}{u:Value}(ry:ZD y u):
  KT H (kvs.map fun kv=>if kv.1=k then(kv.1,y) else kv) (xs.map (putAt k u)):=by
 induction r with
 |nil=>exact .nil
 | @cons p q ps qs h t ih=>
  rw[List.map_cons,List.map_cons];refine .cons ?_ ih;obtain⟨h1,h2,h3⟩:=h;unfold putAt
  by_cases e:p.1=k
  ·rw[if_pos e,if_pos (h1.symm.trans e)];exact⟨h1,h2,ry⟩
  ·rw[if_neg e,if_neg (fun z=>e (h1.trans z))];exact⟨h1,h2,h3⟩
theorem KT.put{H:Hp}{kvs:List (List Key×V)}{xs:List (List Key×Addr×Value)}(r:KT H kvs xs)(k:List Key){b:Addr}{y:V}{u:Value}(hb:H b=some (.tup (k.map kV)))(ry:ZD y u):
  KT H (YR kvs k y) (storedH xs k b u):=by
 have e:(kvs.any fun kv=>decide (kv.1=k))=(atKey xs k).isSome:=by
  rw[W4,(r.val k).isSome_eq,Option.isSome_map]
 unfold YR storedH;rw[e]
 by_cases q:(atKey xs k).isSome=true
 ·rw[if_pos q,if_pos q];exact r.repl k ry
 ·rw[if_neg q,if_neg q];exact Paired.snoc r ⟨rfl,hb,ry⟩
theorem KT.keeps{H H':Hp}{kvs:List (List Key×V)}{xs:List (List Key×Addr×Value)}(r:KT H kvs xs)(ht:∀b ys,H b=some (.tup ys)→H' b=some (.tup ys)):KT H' kvs xs:=
 Paired.mapP r fun _ _ z=>⟨z.1,ht _ _ z.2.1,z.2.2⟩
section
variable {P:Program}{w:World}{H:Hp}{h:Heap}{a:Addr}
theorem ZjX{u:HO}(ok:HOk P w H h)(e:Rd H a u):ZO P w H h a u:=e.ok ok
theorem Zae{kvs:List (Key×V)}(ok:HOk P w H h)(e:Rd H a (.dK kvs)):kvs.length≤sizeLine∧(a==sysModules)=false∧∃vs,KV kvs vs∧h.DictOf (ZQ P w) a vs:=
 show ZO P w H h a (.dK kvs) from ZjX ok e
theorem ZaX{kvs:List (Key×V)}(ok:HOk P w H h)(e:H a=some (.dK kvs)):kvs.length≤sizeLine∧(a==sysModules)=false∧∃vs,KV kvs vs∧h.DictOf (ZQ P w) a vs:=Zae ok (.inl e)
theorem Zbj{ks:List Key}(ok:HOk P w H h)(e:H a=some (.tup (ks.map kV))):(tupleKind (ZQ P w)).is h ks a:=by
 obtain⟨_,its,r,o,h1,h2,n,h3⟩:=(show ZO P w H h a (.tup (ks.map kV)) from ok a _ e);exact⟨o,its.toArray,n,h1,h2,h3,by simpa using ZdY r⟩
theorem Zdg{kvs:List (List Key×V)}(ok:HOk P w H h)(e:Rd H a (.dT kvs)):kvs.length≤sizeLine∧(a==sysModules)=false∧
  ∃xs,KT H kvs xs∧h.DictOfH (tupleKind (ZQ P w)) a xs:=by
 obtain⟨z,y,xs,r,o,es,ep,h1,h2,h3,h4,h5⟩:=(show ZO P w H h a (.dT kvs) from ZjX ok e);refine⟨z,y,xs,r,o,es,ep,h1,h2,h3,h4,fun x hx=>?_,h5⟩;have all:∀{l:List (List Key×V)}{m:List (List Key×Addr×Value)},KT H l m→∀x∈m,(tupleKind (ZQ P w)).is h x.1 x.2.1:=by
  intro l m q
  induction q with
  |nil=>intro x hx;exact nomatch hx
  | @cons p q ps qs hq t ih=>
   intro x hx;rcases List.mem_cons.mp hx with e|hx
   ·subst e;exact Zbj ok (by rw[←hq.1];exact hq.2.1)
   ·exact ih x hx
 exact all r x hx
theorem Zl2{kvs:List (List Key×V)}(ok:HOk P w H h)(e:H a=some (.dT kvs)):kvs.length≤sizeLine∧(a==sysModules)=false∧
  ∃xs,KT H kvs xs∧h.DictOfH (tupleKind (ZQ P w)) a xs:=Zdg ok (.inl e)
end
def Uu(H:Hp)(a:Addr)(y:V)(r:Option V):Prop:=
 (∃kvs k,Rd H a (.dK kvs)∧y=kV k∧r=valV kvs k)∨∃kvs k b,Rd H a (.dT kvs)∧y= .ref b∧H b=some (.tup (k.map kV))∧r=valV kvs k
def ZdF(H:Hp)(a:Addr)(y v:V)(H':Hp):Prop:=
 (∃kvs k,H a=some (.dK kvs)∧y=kV k∧kvs.length<sizeLine∧H'=upd H a (.dK (YR kvs k v)))∨
 ∃kvs k b,H a=some (.dT kvs)∧y= .ref b∧H b=some (.tup (k.map kV))∧kvs.length<sizeLine∧H'=upd H a (.dT (YR kvs k v))
theorem Uu.k{H:Hp}{a:Addr}{kvs:List (Key×V)}{k:Key}(e:H a=some (.dK kvs)):Uu H a (kV k) (valV kvs k):= .inl ⟨kvs,k,.inl e,rfl,rfl⟩
theorem ZdF.k{H:Hp}{a:Addr}{kvs:List (Key×V)}{k:Key}{v:V}(e:H a=some (.dK kvs))(hl:kvs.length<sizeLine):ZdF H a (kV k) v (upd H a (.dK (YR kvs k v))):= .inl ⟨kvs,k,e,rfl,hl,rfl⟩
section
variable {X:Cx}{pins:List (Addr×Obj)}{σ:St}{H:Hp}{s:Shared}{a:Addr}{y v:V}{u r:Value}{o:Option V}{A:Around}{E:Value→Shared→Prop}
theorem Inv.big(I:Inv X pins σ H s):sysModules<s.heap.objs.size:=by
 have h:mainGlobals<s.heap.objs.size:=(I.mod.glob.keeps I.bk).lt;exact Nat.lt_trans (by decide) h
theorem ZiD{Q:Value→Shared→Prop}(hu:A.units+1<cLine)(I:Inv X pins σ H s)(g:Uu H a y (some v))(ry:ZD y u)(h:∀w' s',Inv X pins σ H s'→ZD v w'→Q w' s'):
  wpAny (model X.prog X.w) A (getItem (.ref a) u) Q E s:=by
 rcases g with⟨kvs,k,e,ey,l⟩|⟨kvs,k,b,e,ey,eb,l⟩
 ·subst ey;obtain⟨z,hd,vs,rel,dd⟩:=Zae I.hok e;obtain⟨w',hw,rw'⟩:=Ve.some_of (v:=v) (o:=valueAt vs k) (by rw[l];exact rel.val k);exact wpAny_getItem_of (Zch ry) dd.mapOf hw (h w' _ (I.tok _) rw')
 ·subst ey;cases (show u=Value.ref b from ry);obtain⟨z,hd,xs,rel,dd⟩:=Zdg I.hok e;obtain⟨w',hw,rw'⟩:=Ve.some_of (v:=v) (o:=(atKey xs k).map (·.2)) (by rw[l];exact rel.val k);obtain⟨p,hp,hp2⟩:=Option.map_eq_some_iff.mp hw;refine wpAny_getItem_heap (tupleKind_room_in1 hu) (Zbj I.hok eb) dd hp ?_;rw[hp2];exact h w' _ (I.tok _) rw'
theorem ZmB{Q:Value→Shared→Prop}(hu:A.units+1<cLine)(I:Inv X pins σ H s)(g:Uu H a y o)(ry:ZD y u)(h:∀s',Inv X pins σ H s'→Q (.bool o.isSome) s'):
  wpAny (model X.prog X.w) A (compareOp .In u (.ref a)) Q E s:=by
 rcases g with⟨kvs,k,e,ey,l⟩|⟨kvs,k,b,e,ey,eb,l⟩
 ·subst ey;obtain⟨z,hd,vs,rel,dd⟩:=Zae I.hok e;refine wpAny_in_of (Zch ry) hd dd.mapOf ?_;rw[←(rel.val k).isSome_eq,←l];exact h _ (I.tok _)
 ·subst ey;cases (show u=Value.ref b from ry);obtain⟨z,hd,xs,rel,dd⟩:=Zdg I.hok e;refine wpAny_in_heap (tupleKind_room_in1 hu) (Zbj I.hok eb) hd dd ?_;have q:=(rel.val k).isSome_eq;rw[Option.isSome_map] at q;rw[←q,←l];exact h _ (I.tok _)
theorem Zkn{Q:Value→Shared→Prop}(hu:A.units+1<cLine)(I:Inv X pins σ H s)(g:Uu H a y o)(ry:ZD y u)(h:∀s',Inv X pins σ H s'→Q (.bool (!o.isSome)) s'):
  wpAny (model X.prog X.w) A (compareOp .NotIn u (.ref a)) Q E s:=by
 rcases g with⟨kvs,k,e,ey,l⟩|⟨kvs,k,b,e,ey,eb,l⟩
 ·subst ey;obtain⟨z,hd,vs,rel,dd⟩:=Zae I.hok e;refine wpAny_notIn_of (Zch ry) hd dd.mapOf ?_;rw[←(rel.val k).isSome_eq,←l];exact h _ (I.tok _)
 ·subst ey;cases (show u=Value.ref b from ry);obtain⟨z,hd,xs,rel,dd⟩:=Zdg I.hok e;refine wpAny_notIn_heap (tupleKind_room_in1 hu) (Zbj I.hok eb) hd dd ?_;have q:=(rel.val k).isSome_eq;rw[Option.isSome_map] at q;rw[←q,←l];exact h _ (I.tok _)
theorem Zcg{h':Heap}{t':Nat}{ob:HO}(I:Inv X pins σ H s)(mu:Mut (H a))(hs:Heap.SameBut a s.heap h')(he:∃q,h'.get? a=some q)(new:ZO X.prog X.w (upd H a ob) h' a ob):
  Inv X pins σ (upd H a ob) {s with heap:=h',toks:=t'}:=
 I.write (x:=a) (e:=a) mu (.inl rfl) (fun b q hb z=>(hs.2 b hb).trans z) he new
theorem Zfe{P:Program}{w:World}{H':Hp}{h':Heap}{kvs:List (Key×V)}{vs:List (Key×Value)}(z:kvs.length≤sizeLine)(hd:(a==sysModules)=false)(rel:KV kvs vs)(dd:h'.DictOf (ZQ P w) a vs):
  ZO P w H' h' a (.dK kvs):=⟨z,hd,vs,rel,dd⟩
theorem ZiH{H':Hp}{Q:Unit→Shared→Prop}(hu:A.units+1<cLine)(I:Inv X pins σ H s)(g:ZdF H a y v H')(ry:ZD y u)(rv:ZD v r)(h:∀s',Inv X pins σ H' s'→Q () s'):
  wpAny (model X.prog X.w) A (setItem (.ref a) u r) Q E s:=by
 rcases g with⟨kvs,k,e,ey,l,eH⟩|⟨kvs,k,b,e,ey,eb,l,eH⟩
 ·subst ey eH;obtain⟨z,hd,vs,rel,dd⟩:=ZaX I.hok e;have hz:vs.length≤sizeLine:=by rw[←rel.length];exact z
  have hl:(YR kvs k v).length≤sizeLine:=by have:=Zax kvs k v;omega
  refine wpAny_setItem_pairs (hsz:=hz) (Zch ry) dd fun h' dd' hs=>h _ ?_;have he:∃q,h'.get? a=some q:=let⟨q,_,_,hq,_⟩:=dd';⟨q,hq⟩
  exact Zcg I (by rw[e];exact True.intro) hs he (Zfe hl hd (rel.put k rv) dd')
 ·subst ey eH;cases (show u=Value.ref b from ry);obtain⟨z,hd,xs,rel,dd⟩:=Zl2 I.hok e;have hz:xs.length≤sizeLine:=by rw[←Paired.length rel];exact z
  have hl:(YR kvs k v).length≤sizeLine:=by have:=Zax kvs k v;omega
  refine wpAny_setItem_heap (hsz:=hz) (tupleKind_room_in1 hu) (Zbj I.hok eb) dd fun h' dd' hs=>h _ ?_;obtain⟨q,es,ep,hq,h2,h3,h4,_,h5⟩:=dd';refine Zcg I (by rw[e];exact True.intro) hs ⟨q,hq⟩ ⟨hl,hd,_,(rel.put k eb rv).keeps fun c ys ec=>?_,q,es,ep,hq,h2,h3,h4,h5⟩;rw[Zh (Yd ec e (fun z=>nomatch z))];exact ec
end
section
variable {X:Cx}{pins:List (Addr×Obj)}{σ:St}{H:Hp}{s:Shared}{a:Addr}{kvs:List (Key×V)}{k:Key}{u:Value}{A:Around}{E:Value→Shared→Prop}
theorem Zl0{Q:Value→Shared→Prop}(I:Inv X pins σ H s)(e:Rd H a (.dK kvs))(h:∀t s',Inv X pins σ H s'→Q (.int kvs.length t) s'):wpAny (model X.prog X.w) A (call (.builtin "len") [.ref a]) Q E s:=by
 obtain⟨z,hd,vs,rel,dd⟩:=Zae I.hok e;refine call_len_dict hd dd (by rw[←rel.length];rw[sizeLine_eq] at z;omega) ?_;rw[←rel.length];exact h _ _ (I.tok _)
end
theorem Zgd{X:Cx}{pins:List (Addr×Obj)}{σ:St}{H:Hp}{s:Shared}{a:Addr}{y:V}{o:Option V}(I:Inv X pins σ H s)(g:Uu H a y o):s.TypeIs (.ref a) "dict" :=by
 rcases g with⟨kvs,k,e,_,_⟩|⟨kvs,k,b,e,_,_,_⟩
 ·obtain⟨_,_,vs,_,dd⟩:=Zae I.hok e;exact dd.typeIs
 ·obtain⟨_,_,xs,_,dd⟩:=Zdg I.hok e;exact dd.typeIs
section
variable {X:Cx}{o i e value:Expr}{pos pos' tpos:Pos}{td ty tv:TE}
end
theorem Zff{P:Program}{w:World}{H:Hp}(h:Heap)(hb:sysModules<h.objs.size):ZO P w H (h.push {cls:= .type "dict",data:= .dict #[]}) h.objs.size (.dK []):=
 ⟨Nat.zero_le _,beq_eq_false_iff_ne.mpr (Ne.symm (Nat.ne_of_lt hb)),[],.nil,Heap.DictOf.new h⟩
noncomputable def tDNewK:TE:=fun _ H Q=>∀p,H p=none→Q (.ref p) (upd H p (.dK []))
section
variable {X:Cx}{pos:Pos}
theorem ZcR:PE X (.Dict [] [] pos) tDNewK:=fun pins s σ H Q I h=>
 wpAny_Dict_empty ⟨.ref s.heap.objs.size,_,I.laid (a:=s.heap.objs.size) (o:= .dK []) (t':=s.toks) (fun _ _ q=>Heap.get?_push_of_some _ q) (Nat.le_refl _) (Zff s.heap I.big),rfl,h _ (I.hok.fresh (Nat.le_refl _))⟩
end
noncomputable def Zc4:List (TE×TE)→St→Hp→(List (V×V)→Hp→Prop)→Prop
 | [],_,H,Q=>Q [] H
 |(tk,tv)::r,σ,H,Q=>tk σ H fun x H1=>tv σ H1 fun y H2=>Zc4 r σ H2 fun ps H3=>Q ((x,y)::ps) H3
noncomputable abbrev VV:List (V×V)→List (Value×Value)→Prop:=Paired fun p q=>ZD p.1 q.1∧ZD p.2 q.2
def PPs(X:Cx)(pos:Pos)(keys:List (Option Expr))(values:List Expr)(trs:List (TE×TE)):Prop:=
 ∀(pins:List (Addr×Obj))(s:Shared)(σ:St)(H:Hp)(Q:List (V×V)→Hp→Prop),Inv X pins σ H s→Zc4 trs σ H Q→
  wpAny (model X.prog X.w) X.A (evalPairs (pairTrees keys values X.env pos)) (fun vs s'=>∃ps H',Inv X pins σ H' s'∧VV ps vs∧Q ps H') X.xe s
theorem ZkA{X:Cx}{pos:Pos}:PPs X pos [] [] []:=fun pins s σ H Q I h=>pairTrees_nil_walk ⟨[],H,I,.nil,h⟩
theorem ZjB{X:Cx}{pos:Pos}{k v:Expr}{ks:List (Option Expr)}{vs:List Expr}{tk tv:TE}{trs:List (TE×TE)}(hk:PE X k tk)(hv:PE X v tv)(hr:PPs X pos ks vs trs):
  PPs X pos (some k::ks) (v::vs) ((tk,tv)::trs):=fun pins s σ H Q I h=>
 pairTrees_cons_walk (thn (hk pins s σ H _ I h) fun u s1 ⟨x,H1,I1,rx,q1⟩=>thn (hv pins s1 σ H1 _ I1 q1) fun w2 s2 ⟨y,H2,I2,ry,q2⟩=>
  thn (hr pins s2 σ H2 _ I2 q2) fun ws s3 ⟨ps,H3,I3,rel,q3⟩=>⟨(x,y)::ps,H3,I3,.cons ⟨rx,ry⟩ rel,q3⟩)
noncomputable def Yg (kvs more:List (Key×V)):List (Key×V):=more.foldl (fun acc kv=>YR acc kv.1 kv.2) kvs
theorem KV.merge:∀{more:List (Key×V)}{rs:List (Key×Value)}{kvs:List (Key×V)}{vs:List (Key×Value)},KV more rs→KV kvs vs→KV (Yg kvs more) (merged vs rs):=by
 intro more rs kvs vs r;unfold KV at r
 induction r generalizing kvs vs with
 |nil=>intro q;exact q
 | @cons p q ps qs h t ih=>
  intro r0;have e:KV (YR kvs p.1 p.2) (stored vs q.1 q.2):=by
   have:=r0.put p.1 h.2;rw[←h.1];exact this
  exact ih e
theorem Vn:∀(more kvs:List (Key×V)),(Yg kvs more).length≤kvs.length+more.length
 | [],kvs=>by show kvs.length≤kvs.length+0;omega
 |p::r,kvs=>by
  have h1:=Vn r (YR kvs p.1 p.2);have h2:=Zax kvs p.1 p.2;show(Yg (YR kvs p.1 p.2) r).length≤_;rw[List.length_cons];omega
theorem Zda{P:Program}{w:World}:∀{kvs:List (Key×V)}{ws:List (Value×Value)},VV (kvs.map fun kv=>(kV kv.1,kv.2)) ws→∃rs,Carries (ZQ P w) ws rs∧KV kvs rs
 | [],_,r=>by rw[List.map_nil] at r;cases r;exact⟨[],True.intro,.nil⟩
 |p::kvs,_,r=>by
  rw[List.map_cons] at r;cases r with
  | @cons a b as bs h t=>
   obtain⟨rs,c,q⟩:=Zda (P:=P) (w:=w) t;obtain⟨b1,b2⟩:=b;exact⟨(p.1,b2)::rs,⟨Zch h.1,rfl,c⟩,.cons ⟨rfl,h.2⟩ q⟩
noncomputable def Zmu (trs:List (TE×TE)):TE:=fun σ H Q=>∀p,H p=none→Zc4 trs σ (upd H p (.dK [])) fun ps H2=>H2 p=some (.dK [])∧∃kvs:List (Key×V),ps=kvs.map (fun kv=>(kV kv.1,kv.2))∧kvs.length≤15∧Q (.ref p) (upd H2 p (.dK (Yg [] kvs)))
theorem Zj9{X:Cx}{pos:Pos}{keys:List (Option Expr)}{values:List Expr}{trs:List (TE×TE)}(h:PPs X pos keys values trs)(hall:keys.all (·.isSome)=true)(hl:keys.length=values.length)(h0:keys≠[])
  (h15:keys.length≤15):PE X (.Dict keys values pos) (Zmu trs):=by
 intro pins s σ H Q I q;have hn:=I.hok.fresh (Nat.le_refl s.heap.objs.size);have I1:=I.laid (a:=s.heap.objs.size) (o:= .dK []) (h':=s.heap.push {cls:= .type "dict",data:= .dict #[]}) (t':=s.toks) (fun _ _ q=>Heap.get?_push_of_some _ q) (Nat.le_refl _) (Zff s.heap I.big);refine wpAny_Dict_walk (knd:=ZQ X.prog X.w) hall hl h0 h15 (thn (h pins _ σ _ _ I1 (q _ hn)) fun ws s2 ⟨ps,H2,I2,rel,e,kvs,ep,lk,q2⟩=>?_);subst ep;obtain⟨rs,c,rk⟩:=Zda (P:=X.prog) (w:=X.w) rel;obtain⟨z,hd,vs0,r0,dd⟩:=ZaX I2.hok e;cases r0;refine⟨rs,c,dd,fun h' dd' hs=>⟨.ref s.heap.objs.size,_,?_,rfl,q2⟩⟩;have hz:(Yg [] kvs).length≤sizeLine:=by
  have h1:=Vn kvs [];rw[List.length_nil] at h1;rw[sizeLine_eq];omega
 have he:∃q,h'.get? s.heap.objs.size=some q:=let⟨q,_,_,hq,_⟩:=dd';⟨q,hq⟩
 exact Zcg I2 (by rw[e];exact True.intro) hs he (Zfe hz hd (rk.merge .nil) dd')
section
variable {X:Cx}{pins:List (Addr×Obj)}{σ:St}{H:Hp}{s:Shared}{a:Addr}{y d:V}{u r:Value}{o:Option V}{A:Around}{E:Value→Shared→Prop}
end
section
variable {X:Cx}{o e f:Expr}{apos cpos:Pos}{td ty tx:TE}
end
section
variable {X:Cx}{pins:List (Addr×Obj)}{σ:St}{H:Hp}{s:Shared}{a:Addr}{kvs:List (Key×V)}{A:Around}{E:Value→Shared→Prop}
end
section
variable {X:Cx}{pins:List (Addr×Obj)}{σ:St}{H:Hp}{s:Shared}{a:Addr}{y:V}{u:Value}{A:Around}{E:Value→Shared→Prop}
end
end L2
namespace L2
open PySem PySem.Spec PyProof.Rows
section
variable {X:Cx}
theorem Zh9:Yz X (.builtin "len") (fun xs H Q=>∃a kvs,xs=[V.ref a]∧H a=some (.dK kvs)∧Q (.int kvs.length) H):=by
 intro pins s σ H xs us Q I r h;obtain⟨a,kvs,rfl,ha,q⟩:=h;obtain⟨u,rfl,ru⟩:=Vl r;cases ru;exact Zl0 I (.inl ha) fun t s' I'=>⟨.int kvs.length,H,I',⟨t,rfl⟩,q⟩
end
section
variable {κ:Type}[DecidableEq κ]
end
end L2
namespace L2
open PySem PySem.Spec PyProof.Rows
namespace Rd
section
variable {σ:St}{H:Hp}{Q:VK}{D:Vf}{t u:TS}{ta tb te:TE}{r:R2}
theorem var{i:Nat}{v:V}(h:σ[i]? =some (some v))(q:Q v H):Zhh i σ H Q:=⟨v,h,q⟩
theorem con{v:V}(q:Q v H):tC v σ H Q:=q
theorem op(h:ta σ H fun x H1=>tb σ H1 fun y H2=>r x y H2 Q):tOp r ta tb σ H Q:=h
theorem i0{g:Int→Int→V}{i j:Int}(q:Q (g i j) H):rI0 g (.int i) (.int j) H Q:=⟨i,j,rfl,rfl,q⟩
theorem iC{C:Int→Int→Prop}{g:Int→Int→V}{i j:Int}(c:C i j)(q:Q (g i j) H):rI C g (.int i) (.int j) H Q:=⟨i,j,rfl,rfl,c,q⟩
theorem eqI{i j:Int}(q:Q (.bl (decide (i=j))) H):rEq (.int i) (.int j) H Q:=⟨rfl,by
 have e:decide (V.int i=V.int j)=decide (i=j):=by
  by_cases h:i=j
  ·rw[h];simp
  ·rw[decide_eq_false h,decide_eq_false (fun z=>h (V.int.inj z))]
 rw[e];exact q⟩
theorem neI{i j:Int}(q:Q (.bl (!decide (i=j))) H):rNe (.int i) (.int j) H Q:=⟨rfl,by
 have e:decide (V.int i=V.int j)=decide (i=j):=by
  by_cases h:i=j
  ·rw[h];simp
  ·rw[decide_eq_false h,decide_eq_false (fun z=>h (V.int.inj z))]
 rw[e];exact q⟩
theorem ZmG{Q:Bool→Hp→Prop}(h:te σ H fun x H'=>∃k,x= .bl k∧Q k H'):ZjJ te σ H Q:=h
theorem bl{k:Bool}{Q:Bool→Prop}(q:Q k):∃k',V.bl k= .bl k'∧Q k':=⟨k,rfl,q⟩
theorem seq(h:t {D with nx:=u D} σ H):ZlC t u D σ H:=h
theorem asg{g:TG}(h:te σ H fun x H1=>g x σ H1 D.nx):Zfy te g D σ H:=h
theorem ifs{c:TT}(h:c σ H fun b H1=>if b=true then t D σ H1 else u D σ H1):Zlf c t u D σ H:=h
theorem ret(h:te σ H D.rt):Zlk te D σ H:=h
theorem next(h:D.nx σ H):tNext D σ H:=h
theorem drop(h:te σ H fun _ H1=>D.nx σ H1):ZjH te D σ H:=h
theorem nil{Q:List V→Hp→Prop}(h:Q [] H):tNil σ H Q:=h
theorem cons{tr:TA}{Q:List V→Hp→Prop}(h:ta σ H fun x H1=>tr σ H1 fun xs H2=>Q (x::xs) H2):ZjZ ta tr σ H Q:=h
theorem call{sp:Sp}{dvs:List V}{E:XK}{ts:TA}(h:ts σ H fun vs H1=>sp (vs++dvs) H1 Q E):ZjY sp dvs E ts σ H Q:=h
theorem cb{r:List V→Hp→VK→Prop}{ts:TA}(h:ts σ H fun vs H1=>r vs H1 Q):tCB r ts σ H Q:=h
theorem tup{ts:TA}(h:ts σ H fun xs H1=>xs.length≤sizeLine∧∀p,H1 p=none→Q (.ref p) (upd H1 p (.tup xs))):ZlG ts σ H Q:=h
theorem lst{ts:TA}(h:ts σ H fun xs H1=>xs.length≤sizeLine∧∀p,H1 p=none→Q (.ref p) (upd H1 p (.lst xs))):Zjd ts σ H Q:=h
theorem Zmy{t u:TT}{Q:Bool→Hp→Prop}(h:t σ H fun c H1=>if c=true then u σ H1 Q else Q false H1):Zlj t u σ H Q:=h
theorem or_{t u:TT}{Q:Bool→Hp→Prop}(h:t σ H fun c H1=>if c=true then Q true H1 else u σ H1 Q):tOr t u σ H Q:=h
theorem ZmU{t:TT}{Q:Bool→Hp→Prop}(h:t σ H fun c H1=>Q (!c) H1):ZlO t σ H Q:=h
theorem ZmV(h:ta σ H fun x H1=>∃c,x= .bl c∧if c=true then tb σ H1 Q else Q (.bl false) H1):ZjS ta tb σ H Q:=h
theorem Zm9(h:ta σ H fun x H1=>∃c,x= .bl c∧Q (.bl (!c)) H1):ZjR ta σ H Q:=h
end
end Rd
end L2
namespace L2
open PySem PySem.Spec PyProof.Rows
section
variable {X:Cx}
theorem Zkk:OpR X (binaryOp .Mult) (rI (fun i j=>IntMulOk i j) fun i j=> .int (i*j)):=opI fun _ _ _ _ _ _ _ hc q=>mul_int q hc
theorem Z4:OpR X (binaryOp .FloorDiv) (rI (fun _ j=>0<j∧j.natAbs.log2<9000) fun i j=> .int (i / j)):=opI fun i j _ _ _ _ _ hc q=>by
 rw[←Int.fdiv_eq_ediv_of_nonneg i (Int.le_of_lt hc.1)] at q;exact floordiv_int (by have:=hc.1;omega) q (.inl (PyProof.noPylong_of_log2 hc.2))
theorem Zf5:Yz X (.builtin "isinstance") (fun xs H Q=>∃x n t b,xs=[x,.ty n]∧WC X.K H x t∧PySem.W.kitOne X.K t (.type n)=some b∧Q (.bl b) H):=by
 intro pins s σ H xs us Q I r h;obtain⟨x,n,t,b,rfl,ty,e,q⟩:=h;obtain⟨u,v,rfl,ru,rv⟩:=r.two;obtain rfl:v=Value.type n:=rv;exact Zih I ru ty e fun tk=>⟨.bl b,H,I.tok tk,rfl,q⟩
theorem Zc6{c:TT}{tb:TS}{D:Vf}{σ:St}{H:Hp}(W:Nat→St→Hp→Prop)(m:Nat)(h0:W m σ H)
  (hs:∀m σ H,W m σ H→c σ H fun b H1=>if b=true then ∃N:St→Hp→Prop,(∀σ' H',N σ' H'→∃m',m'<m∧W m' σ' H')∧tb {D with nx:=N,ct:=N,bk:=D.nx} σ H1 else D.nx σ H1):ZhW c tb D σ H:=
 ⟨W,⟨m,h0⟩,hs⟩
theorem ZeH{W:Nat→St→Hp→Prop}{m:Nat}{tb:TS}{D:Vf}{σ:St}{H1:Hp}
  (h:tb {D with nx:=fun σ' H'=>∃m',m'<m∧W m' σ' H',ct:=fun σ' H'=>∃m',m'<m∧W m' σ' H',bk:=D.nx} σ H1):
  ∃N:St→Hp→Prop,(∀σ' H',N σ' H'→∃m',m'<m∧W m' σ' H')∧tb {D with nx:=N,ct:=N,bk:=D.nx} σ H1:=⟨_,fun _ _ z=>z,h⟩
noncomputable def ZkY (t:TS):TS:=fun D σ H=>∃J:St→Hp→Prop,(∀σ' H',J σ' H'→D.nx σ' H')∧t {D with nx:=J} σ H
theorem Zaz{st:Stmt}{t:TS}(h:PS X st t):PS X st (ZkY t):=by
 intro pins s σ H D I hq;obtain⟨J,hJ,q⟩:=hq;refine thn (h pins s σ H _ I q) fun f s1 q1=>?_;cases f with
 |next=>obtain⟨σ',H',I',j⟩:=q1;exact⟨σ',H',I',hJ _ _ j⟩
 |brk=>exact q1
 |cont=>exact q1
 |ret v=>exact q1
end
namespace Rd
theorem ZjQ{A B:Prop}(h:B):if(!true)=true then A else B:=ZfQ h
theorem ZjK{A B:Prop}(h:A):if(!false)=true then A else B:=ZeV h
section
variable {σ:St}{H:Hp}{Q:VK}{D:Vf}{t u:TS}{ta tb te:TE}
theorem cut(J:St→Hp→Prop)(hJ:∀σ' H',J σ' H'→D.nx σ' H')(h:t {D with nx:=J} σ H):ZkY t D σ H:=⟨J,hJ,h⟩
theorem ZmT{wi:TI}{g:TG}{tb:TS}(h:wi σ H fun J H1=>∃W:Nat→Nat→St→Hp→Prop,(∃m,W 0 m σ H1)∧∀i m σ H,W i m σ H→
  (J.stop i H∧D.nx σ H)∨(J.go i H∧∃N:St→Hp→Prop,(∀σ' H',N σ' H'→∃m',m'<m∧W (i+1) m' σ' H')∧∀x H',J.yld i H x H'→g x σ H' fun σ2 H2=>tb {D with nx:=N,ct:=N,bk:=D.nx} σ2 H2)):Zlq wi g tb D σ H:=h
theorem ZmM{ts:TA}{R:It→Hp→Prop}(h:ts σ H fun vs H1=>∃j:Int,vs=[.int j]∧ -(2 ^ 62)≤j∧j<2 ^ 62∧R (Itr 0 j.toNat) H1):ZjT ts σ H R:=h
theorem Uz{K:PySem.W.Frag}{n:Nat}{ts:TGs}{a:Addr}{xs:List V}{Q:St→Hp→Prop}(hs:SqT K H a xs)(hn:xs.length=n)(h:ts xs σ H Q):Zjh K n ts (.ref a) σ H Q:=⟨a,xs,rfl,hs,hn,h⟩
theorem Zm7{Q:St→Hp→Prop}(h:Q σ H):gNil [] σ H Q:=⟨rfl,h⟩
theorem Zma{g:TG}{gs:TGs}{v:V}{r:List V}{Q:St→Hp→Prop}(h:g v σ H fun σ' H'=>gs r σ' H' Q):ZjV g gs (v::r) σ H Q:=⟨v,r,rfl,h⟩
end
end Rd
end L2
namespace L2
open PySem PySem.Spec PyProof.Rows
theorem Zk{H:Hp}{p:Addr}{o:HO}(hp:H p=none):Zd H (upd H p o):=fun c u e=>by rw[Zh (Zy e hp)];exact e
theorem Zd.new{H H':Hp}{q:Addr}{o:HO}(sm:Zd H H')(hq:H q=none):Zd H (upd H' q o):=fun c u e=>by rw[Zh (Zy e hq)];exact sm c u e
namespace Rd
section
variable {σ:St}{H:Hp}{Q:VK}{D:Vf}{K:PySem.W.Frag}
theorem ixt{p:Addr}{xs:List V}{i:Int}{v:V}(h:SqT K H p xs)(e:atI xs i=some v)(q:Q v H):Zjl K (.ref p) (.int i) H Q:=⟨p,xs,i,v,rfl,rfl,h,e,q⟩
theorem ixl{p:Addr}{xs:List V}{i:Int}{v:V}(h:SqL K H p xs)(e:atI xs i=some v)(q:Q v H):Zhw K (.ref p) (.int i) H Q:=⟨p,xs,i,v,rfl,rfl,h,e,q⟩
theorem bm{T:String}{r:V→List V→Hp→VK→Prop}{to:TE}{t:TA}(h:to σ H fun x H1=>tyV K T x H1∧t σ H1 fun xs H2=>r x xs H2 Q):tBM K T r to t σ H Q:=h
theorem bm0{T:String}{r:V→List V→Hp→VK→Prop}{to:TE}(h:to σ H fun x H1=>tyV K T x H1∧r x [] H1 Q):ZiY K T r to σ H Q:=h
theorem tyl{p:Addr}{xs:List V}{B:Prop}(h:H p=some (.lst xs))(q:B):tyV K "list" (.ref p) H∧B:=⟨.inl ⟨rfl,xs,.of h⟩,q⟩
theorem app{p:Addr}{xs:List V}{y:V}(h:H p=some (.lst xs))(hl:xs.length<sizeLine)(q:Q .non (upd H p (.lst (xs++ [y])))):rAppend (.ref p) [y] H Q:=⟨p,xs,y,rfl,rfl,h,hl,q⟩
end
end Rd
end L2
namespace L2
open PySem PySem.Spec PyProof.Rows
noncomputable def emb (ix:List Nat) (σ:St):St:=none::ix.map fun j=>(σ[j]?).join
noncomputable def Zm (X:Cx) (sc:Scope) (cl:List (Str×Addr)) (C:Addr) (N:List Str) (s:Shared) (H:Hp) (fp:List Addr):Cx where
 prog:=X.prog
 w:=X.w
 K:=X.K
 mg:=X.mg
 base:=X.base
 A:=X.A
 N:=N
 s₀:=s
 H₀:=H
 env:=compEnvC sc cl C X.env
 outer:=X.stack
 stack:=X.stack
 ex:=fp
 fn:=fun _=>false
 calm:=X.calm
 pn:=[]
 xe:=fun _ _=>False
structure YU(X:Cx)(sc:Scope)(x:Str)(zs:List Str)(ix:List Nat):Prop where
 kind:sc.kind= .function
 nocell:∀y∈sc.names,y.2≠ .cell
 names:∀y∈sc.names,y.2= .local→sc.names.lookup y.1=some .local
 free:∀y∈sc.names,y.2= .free→X.env.kindOf y.1=some .cell∨X.env.kindOf y.1=some .free
 zfree:∀z∈zs,sc.names.lookup z=some .free
 at_:ix.map (fun j=>X.N[j]?)=zs.map some
theorem Ws{env:Env}{x:Str}:∀{names:List (Str×NameKind)}{k:NameKind},
  (names.map fun(n,k)=>if(k==NameKind.free&&env.scope.kind== .function&&env.kindOf n==some .cell) then(n,NameKind.cell) else(n,k)).lookup x=some k→
  ∃k',names.lookup x=some k'∧(k=k'∨(k'= .free∧k= .cell))
 | [],_,h=>by simp at h
 |(n,j)::r,k,h=>by
  have h':List.lookup x ((if(j==NameKind.free&&env.scope.kind== .function&&env.kindOf n==some .cell)=true then(n,NameKind.cell) else(n,j))::(r.map fun(n,k)=>if(k==NameKind.free&&env.scope.kind== .function&&env.kindOf n==some .cell) then(n,NameKind.cell) else(n,k)))=some k:=h;cases hx:x==n with
  |true=>
   refine⟨j,by simp[List.lookup_cons,hx],?_⟩
   by_cases hc:(j==NameKind.free&&env.scope.kind== .function&&env.kindOf n==some .cell)=true
   ·rw[if_pos hc] at h';simp only[List.lookup_cons,hx] at h';cases h';simp only[Bool.and_eq_true,beq_iff_eq] at hc;exact .inr ⟨hc.1.1,rfl⟩
   ·rw[if_neg hc] at h';simp only[List.lookup_cons,hx] at h';cases h';exact .inl rfl
  |false=>
   have h2:List.lookup x (r.map fun(n,k)=>if(k==NameKind.free&&env.scope.kind== .function&&env.kindOf n==some .cell) then(n,NameKind.cell) else(n,k))=some k:=by
    by_cases hc:(j==NameKind.free&&env.scope.kind== .function&&env.kindOf n==some .cell)=true
    ·rw[if_pos hc] at h';simpa only[List.lookup_cons,hx] using h'
    ·rw[if_neg hc] at h';simpa only[List.lookup_cons,hx] using h'
   obtain⟨k',e,q⟩:=Ws h2;exact⟨k',by simp only[List.lookup_cons,hx];exact e,q⟩
theorem Wl{x:Str}{k:NameKind}:∀{names:List (Str×NameKind)},names.lookup x=some k→(x,k)∈names:=fun h=>PySem.mem_of_lookup h
theorem ZaV(env:Env):∀(names:List (Str×NameKind))(acc:List (Str×Addr)),
  (∀y∈names,y.2= .free→∃c,env.cells.lookup y.1=some c)→(∀y c,acc.lookup y=some c→env.cells.lookup y=some c)→
  ∃cl:List (Str×Addr),(forIn names acc (fun x (r:List (Str×Addr))=>if x.2==NameKind.free then(do let a←cellOf env x.1;pure (ForInStep.yield ((x.1,a)::r))) else pure (ForInStep.yield r)):Sem (List (Str×Addr)))=pure cl∧
   (∀y c,cl.lookup y=some c→env.cells.lookup y=some c)∧(∀y,(∃c,acc.lookup y=some c)∨(y,NameKind.free)∈names→∃c,cl.lookup y=some c)
 | [],acc,_,ha=>⟨acc,rfl,ha,fun y h=>h.elim id fun z=>absurd z (by simp)⟩
 |(n,k)::r,acc,hf,ha=>by
  have hr:∀y∈r,y.2= .free→∃c,env.cells.lookup y.1=some c:=fun y hy=>hf y (List.mem_cons_of_mem _ hy)
  by_cases hk:k= .free
  ·subst hk;obtain⟨c,hc⟩:=hf (n,.free) List.mem_cons_self rfl;have ha':∀y c',((n,c)::acc).lookup y=some c'→env.cells.lookup y=some c':=fun y c' h=>by
    cases hy:y==n with
    |true=>
     simp only[List.lookup_cons,hy] at h;cases h;rw[beq_iff_eq.mp hy];exact hc
    |false=>
     simp only[List.lookup_cons,hy] at h;exact ha y c' h
   obtain⟨cl,e,h1,h2⟩:=ZaV env r ((n,c)::acc) hr ha';refine⟨cl,?_,h1,fun y h=>h2 y ?_⟩
   ·rw[List.forIn_cons];have:cellOf env n=pure c:=by unfold cellOf;rw[hc]
    simp only[beq_self_eq_true,if_true,this];exact e
   ·rcases h with⟨c',h⟩|h
    ·cases hy:y==n with
     |true=>exact .inl ⟨c,by simp only[List.lookup_cons,hy]⟩
     |false=>exact .inl ⟨c',by simp only[List.lookup_cons,hy];exact h⟩
    ·rcases List.mem_cons.mp h with h|h
     ·cases h;exact .inl ⟨c,by simp⟩
     ·exact .inr h
  ·obtain⟨cl,e,h1,h2⟩:=ZaV env r acc hr ha;refine⟨cl,?_,h1,fun y h=>h2 y ?_⟩
   ·rw[List.forIn_cons];have hb:(k==NameKind.free)=false:=by simpa using hk
    simp only[hb,Bool.false_eq_true,if_false];exact e
   ·rcases h with h|h
    ·exact .inl h
    ·rcases List.mem_cons.mp h with h|h
     ·cases h;exact absurd rfl hk
     ·exact .inr h
def PIf(X:Cx)(ifs:List Expr)(t:TT):Prop:=
 ∀(pins:List (Addr×Obj))(s:Shared)(σ:St)(H:Hp)(Q:Bool→Hp→Prop),Inv X pins σ H s→t σ H Q→
  wpAny (model X.prog X.w) X.A (forIn ifs true fun c r=>if r=true then do let ok←isTrue c X.env (eval c X.env);pure (ForInStep.yield ok) else pure (ForInStep.yield r)) (TP X pins σ Q) X.xe s
noncomputable def tAll:TT:=fun _ H Q=>Q true H
section
variable {X:Cx}
theorem Z8:PIf X [] tAll:=fun _ _ _ H _ I h=>wpAny_pure ⟨H,I,h⟩
theorem UV{c:Expr}{t:TT}(hc:PT X c t):PIf X [c] t:=by
 intro pins s σ H Q I h;rw[List.forIn_cons];simp only[if_true];refine wpAny_bind (wpAny_bind (thn (hc pins s σ H _ I h) fun b s1 q=>wpAny_pure ?_));exact wpAny_pure q
end
section
variable {prog:Program}{w:World}{A:Around}{R:Result→Shared→Prop}{s:Shared}
theorem ZbD{elt target iter:Expr}{ifs:List Expr}{scope:Scope}{pos:Pos}{it acc:Value}{env:Env}(I:Nat→Shared→Prop)
  (turn:∀n s,I n s→wpAny (model prog w) A (pyNext it) (fun r s₁=>match r with
   |none=>R (.ok .next) s₁
   |some v=>wpAny (model prog w) A (letOwnedTupleGo target it v) (fun _ s₀=>wpAny (model prog w) A (assign target env v) (fun _ s₂=>
     wpAny (model prog w) A (forIn ifs true fun c r=>if r=true then do let ok←isTrue c env (eval c env);pure (ForInStep.yield ok) else pure (ForInStep.yield r)) (fun ok s₃=>
      if ok=true then wpAny (model prog w) A (eval elt env) (fun x s₄=>
       wpAny (model prog w) A (call (.builtin "list.append") [acc,x]) (fun _ s₅=>∃m,m<n∧I m s₅) (fun _ _=>False) s₄) (fun _ _=>False) s₃
      else ∃m,m<n∧I m s₃) (fun _ _=>False) s₂) (fun _ _=>False) s₀) (fun _ _=>False) s₁) (fun _ _=>False) s)
  (n:Nat) (h:I n s):
  codeAny (model prog w) A (.compLoop (.ListComp elt [⟨target,iter,ifs,0⟩] scope pos) 0 it acc env) R s:=by
 refine codeAny_loop rfl I (fun n s hI=>?_) n h;show wpAny _ A ((compTurn (.ListComp elt [⟨target,iter,ifs,0⟩] scope pos) 0 it acc env).onRaise (fun x=>do noteFrame x env;theTreesLotGoes x)) _ _ s;refine wpAny_noted ?_;rw[compTurn_list];refine wpAny_bind (wpAny_standAt (wpAny_bind (wpAny_mono (turn n s hI) (fun r s₁ h₁=>?_) fun _ _ z=>z.elim)));cases r with
 |none=>exact wpAny_pure h₁
 |some v=>
  refine wpAny_bind (wpAny_mono h₁ (fun _ s₀ h₀=>?_) fun _ _ z=>z.elim);refine wpAny_bind (wpAny_mono h₀ (fun _ s₂ h₂=>wpAny_bind (wpAny_mono h₂ (fun ok s₃ h₃=>?_) fun _ _ z=>z.elim)) fun _ _ z=>z.elim);cases ok with
  |false=>exact wpAny_pure ⟨rfl,h₃⟩
  |true=>
   exact wpAny_bind (wpAny_bind (wpAny_mono h₃ (fun x s₄ h₄=>wpAny_bind (wpAny_mono h₄ (fun _ s₅ h₅=>wpAny_pure (wpAny_pure ⟨rfl,h₅⟩)) fun _ _ z=>z.elim)) fun _ _ z=>z.elim))
end
noncomputable def Zhj (ix:List Nat) (wi:TI) (g:TG) (tc:TT) (te:TE):TE:=fun σ H Q=>wi σ H fun J H1=>∀p,H1 p=none→
 ∃W:Nat→Nat→List V→St→Hp→Prop,(∃m,W 0 m [] (emb ix σ) (upd H1 p (.lst [])))∧∀i m ys σ' H',W i m ys σ' H'→
  (J.stop i H'∧Q (.ref p) H')∨(J.go i H'∧∀x H2,J.yld i H' x H2→g x σ' H2 fun σ2 H3=>tc σ2 H3 fun b H4=>
   if b=true then te σ2 H4 fun v H5=>H5 p=some (.lst ys)∧ys.length<sizeLine∧∃m',m'<m∧W (i+1) m' (ys++ [v]) σ2 (upd H5 p (.lst (ys++ [v])))
   else ∃m',m'<m∧W (i+1) m' ys σ2 H4)
section
variable {X:Cx}
theorem Zg3{pins:List (Addr×Obj)}{σ:St}{H:Hp}{s:Shared}{sc:Scope}{x:Str}{zs:List Str}{ix:List Nat}{cl:List (Str×Addr)}{fp:List Addr}{h₁:Heap}{tk:Nat}
  (S:YU X sc x zs ix) (I:Inv X pins σ H s) (hcl:∀y c,cl.lookup y=some c→X.env.cells.lookup y=some c) (hhas:∀y,(y,NameKind.free)∈sc.names→∃c,cl.lookup y=some c)
  (hfp:∀b∈fp,WY X pins H b∧b<s.heap.objs.size) (hns:h₁.Ns s.heap.objs.size fun _=>none) (hk:∀b o,s.heap.get? b=some o→h₁.get? b=some o):
  Inv (Zm X sc cl s.heap.objs.size (x::zs) s H fp) [] (emb ix σ) H {s with heap:=h₁,toks:=tk}:=by
 have sub:∀b∈frs X.stack,b∈X.env.locals::X.fs:=I.stkSub;have nfs:∀b∈fp,b∉frs X.stack:=fun b hb z=>by
  obtain⟨⟨_,f1,f2,_⟩,_⟩:=hfp b hb;rcases List.mem_cons.mp (sub b z) with e|e
  ·exact f1 e
  ·exact f2 e
 have cut:∀y,(Zm X sc cl s.heap.objs.size (x::zs) s H fp).env.kindOf y=some .cell∨(Zm X sc cl s.heap.objs.size (x::zs) s H fp).env.kindOf y=some .free→∃c,cl.lookup y=some c:=fun y hy=>by
  have q:∃k,(relabel sc X.env).names.lookup y=some k∧(k= .cell∨k= .free):=by
   rcases hy with hy|hy
   ·exact⟨_,hy,.inl rfl⟩
   ·exact⟨_,hy,.inr rfl⟩
  obtain⟨k,e,hk⟩:=q;obtain⟨k',e',q⟩:=Ws e;have:k'= .free:=by
   rcases q with q|⟨q,_⟩
   ·rcases hk with z|z
    ·exact absurd (q.symm.trans z) (S.nocell _ (Wl e'))
    ·exact q.symm.trans z
   ·exact q
  subst this;exact hhas y (Wl e')
 refine⟨⟨I.ok.mod,S.kind,I.ok.glob,I.ok.blt,Nat.le_refl _,fun y z c h1 h2=>I.ok.inj y z c (hcl _ _ h1) (hcl _ _ h2),cut,fun y c hf _=>?_,I.ok.hd,I.ok.frames,.inl rfl,fun b hb=>?_,I.bs,Nat.le_trans I.ok.bsz I.sz,fun b o e hb=>?_,nfs,I.stack,I.stkFree⟩,
  rfl,I.bare,Un.kept hk,⟨_,hns,fun i y v h1 h2 h3=>?_⟩,fun y c h=>?_,I.hok.fresh (Nat.le_refl _),fun y c h=>I.freeC y c (hcl y c h),fun p hp=>absurd (show p∈([]:List (Addr×Obj)) from hp) (by simp),I.hok.kept hk,?_⟩
 ·exact absurd (show false=true from hf) (by decide)
 ·obtain⟨⟨f0,f1,f2,f3,f4,f5⟩,hl⟩:=hfp b hb;exact⟨Nat.ne_of_lt hl,fun y c h=>f4 y c (hcl y c h)⟩
 ·obtain⟨⟨f0,f1,f2,f3,f4,f5⟩,hl⟩:=hfp b hb;rcases f3 with z|z
  ·exact I.ok.noex b o e z
  ·exact absurd (Nat.lt_of_lt_of_le (Heap.lt_size e) (Nat.le_trans I.ok.bsz z)) (Nat.lt_irrefl _)
 ·
  cases i with
  |zero=>
   have:(none:Option (Option V))=some (some v)∨(some none:Option (Option V))=some (some v):= .inr h2;rcases this with z|z<;>cases z
  |succ i=>
   have h1':zs[i]? =some y:=h1;have h2':(ix.map fun j=>(σ[j]?).join)[i]? =some (some v):=h2;have ha:(ix.map fun j=>X.N[j]?)[i]? =some (some y):=by rw[S.at_,List.getElem?_map,h1'];rfl
   rw[List.getElem?_map] at h2' ha;cases e:ix[i]? with
   |none=>rw[e] at h2';cases h2'
   |some j=>
    rw[e] at h2' ha;have ha':X.N[j]? =some y:=Option.some.inj ha;have hj:(σ[j]?).join=some v:=Option.some.inj h2';have hσ:σ[j]? =some (some v):=by
     cases q:σ[j]? with
     |none=>rw[q] at hj;cases hj
     |some o=>rw[q] at hj;exact congrArg some hj
    obtain⟨m,hn,hl⟩:=I.loc;have hfr:=S.zfree y (List.mem_of_getElem? h1');have hkind:=S.free _ (Wl hfr) rfl;have hv:Vis X.env.scope y:=by
     rcases hkind with z|z
     ·exact .inr (.inl z)
     ·exact .inr (.inr z)
    obtain⟨u,r,q⟩:=hl j y v ha' hσ hv;refine⟨u,r,?_⟩;rcases q with⟨kl,_⟩|⟨_,c,hc,hcell⟩
    ·have kl':X.env.kindOf y=some .local:=kl;rcases hkind with z|z<;>(rw[z] at kl';cases kl')
    ·obtain⟨c',hc'⟩:=hhas y (Wl hfr);have ec:c'=c:=by have:=hcl y c' hc';rw[hc] at this;exact(Option.some.inj this).symm
     subst ec;refine .inr ⟨?_,c',hc',?_⟩
     ·have hvis:Vis (relabel sc X.env) y:=h3;rcases hvis with z|z|z
      ·obtain⟨k',e',q⟩:=Ws z;rw[hfr] at e';cases e';rcases q with q|⟨_,q⟩<;>cases q
      ·exact .inl z
      ·exact .inr z
     ·obtain⟨o,ho,hd⟩:=hcell;exact⟨o,hk _ _ ho,hd⟩
 ·obtain⟨v,o,ho,hd⟩:=I.cell y c (hcl y c h);exact⟨v,o,hk _ _ ho,hd⟩
 ·show(none::ix.map fun j=>(σ[j]?).join).length=(x::zs).length;have:=congrArg List.length S.at_;simp only[List.length_map] at this;simp only[List.length_cons,List.length_map,this]
def ZgI(X:Cx)(pins:List (Addr×Obj))(σ:St)(Q:VK)(acc:Value)(C:Addr)(s':Shared):Prop:=
 ∃p H' m,acc=Value.ref p∧s'.heap.Ns C m∧Inv X pins σ H' s'∧WY X pins H' C∧Q (.ref p) H'
theorem ZcV{pins:List (Addr×Obj)}{σ:St}{H:Hp}{s:Shared}{sc:Scope}{x:Str}{zs:List Str}{ix:List Nat}{cl:List (Str×Addr)}{fp:List Addr}{it:Addr}{tn:Nat→Heap→Prop}{J:It}
  {elt tg iter:Expr} {ifs:List Expr} {pos:Pos} {g:TG} {tc:TT} {te:TE} {Q:VK} {E:Value→Shared→Prop} {RR:Value→Addr→Result→Shared→Prop}
  (hc:X.calm=true) (S:YU X sc x zs ix) (I:Inv X pins σ H s) (hcl:∀y c,cl.lookup y=some c→X.env.cells.lookup y=some c) (hhas:∀y,(y,NameKind.free)∈sc.names→∃c,cl.lookup y=some c)
  (T:U1 X.prog X.w X.K tg J fp it tn) (st:tn 0 s.heap) (hfp:∀b∈fp,WY X pins H b)
  (hin:∀C s H,PG (Zm X sc cl C (x::zs) s H fp) tg g∧PIf (Zm X sc cl C (x::zs) s H fp) ifs tc∧PE (Zm X sc cl C (x::zs) s H fp) elt te)
  (hq:∀p,H p=none→∃W:Nat→Nat→List V→St→Hp→Prop,(∃m,W 0 m [] (emb ix σ) (upd H p (.lst [])))∧∀i m ys σ' H',W i m ys σ' H'→
   (J.stop i H'∧Q (.ref p) H')∨(J.go i H'∧∀x H2,J.yld i H' x H2→g x σ' H2 fun σ2 H3=>tc σ2 H3 fun b H4=>
    if b=true then te σ2 H4 fun v H5=>H5 p=some (.lst ys)∧ys.length<sizeLine∧∃m',m'<m∧W (i+1) m' (ys++ [v]) σ2 (upd H5 p (.lst (ys++ [v])))
    else ∃m',m'<m∧W (i+1) m' ys σ2 H4))
  (hR:∀acc C f s',ZgI X pins σ Q acc C s'→RR acc C (.ok f) s'):
  wpAny (model X.prog X.w) X.A (newList []) (fun acc s₃=>wpAny (model X.prog X.w) X.A (newFunctionEnv sc X.env.globals cl [] X.env.qual none .none (some X.env)) (fun cenv s₄=>
   codeAny (model X.prog X.w) X.A (.compStart (.ListComp elt [⟨tg,iter,ifs,0⟩] sc pos) 0 (.ref it) acc {cenv with scope:=relabel sc X.env}) (RR acc cenv.locals) s₄) E s₃) E s:=by
 refine wpAny_newObj_type (wpAny_newFunctionEnv S.nocell (by intro y hy;simp at hy) (fun h₁ hns₁ hsb₁=>?_) S.kind);have I3:Inv X pins σ (upd H s.heap.objs.size (.lst [])) {s with heap:=s.heap.push {cls:= .type "list",dict:=none,data:= .seq ([]:List Value).toArray}}:=I.lnew (its:=[]) (ys:=[]) (t':=s.toks) .nil (Nat.zero_le _);dsimp only at hns₁ hsb₁⊢;obtain⟨W,⟨m0,w0⟩,turn⟩:=hq s.heap.objs.size (I.hok.fresh (Nat.le_refl _));have lt:∀b∈fp,b<s.heap.objs.size:=fun b hb=>by
  obtain⟨o,e,_⟩:=T.obj 0 s.heap st b hb;exact Heap.lt_size e
 have up:∀b∈fp,∀o,(upd H s.heap.objs.size o) b=H b:=fun b hb o=>Zh (Nat.ne_of_lt (lt b hb));have kp:∀b o,(s.heap.push {cls:= .type "list",dict:=none,data:= .seq ([]:List Value).toArray}).get? b=some o→h₁.get? b=some o:=fun b o e=>
  hsb₁.extBut b o (Nat.ne_of_lt (Heap.lt_size e)) (Heap.get?_push_of_some _ e)
 have f3:∀b∈fp,WY X pins (upd H s.heap.objs.size (.lst [])) b∧b<(s.heap.push {cls:= .type "list",dict:=none,data:= .seq ([]:List Value).toArray}).objs.size:=fun b hb=>by
  obtain⟨q0,q⟩:=hfp b hb;refine⟨⟨(up b hb _).trans q0,q⟩,?_⟩;rw[Heap.size_push];exact Nat.lt_succ_of_lt (lt b hb)
 generalize hS3:({s with heap:=s.heap.push {cls:= .type "list",dict:=none,data:= .seq ([]:List Value).toArray}}:Shared)=s3 at I3;have hH3:s.heap.push {cls:= .type "list",dict:=none,data:= .seq ([]:List Value).toArray}=s3.heap:=by rw[←hS3]
 rw[hH3] at kp f3 hns₁⊢;have st3:tn 0 h₁:=T.keep 0 _ _ st fun b _ o e=>kp b o (by rw[←hH3];exact Heap.get?_push_of_some _ e);have J0:Inv (Zm X sc cl s3.heap.objs.size (x::zs) s3 (upd H s.heap.objs.size (.lst [])) fp) [] (emb ix σ) (upd H s.heap.objs.size (.lst [])) {s3 with heap:=h₁,toks:=s3.toks}:=
  Zg3 S I3 hcl hhas f3 hns₁ kp
 obtain⟨hg,hif,he⟩:=hin s3.heap.objs.size s3 (upd H s.heap.objs.size (.lst []));have fpo:∀{H':Hp},(∀b∈fp,H' b=none)→∀b∈fp,WY (Zm X sc cl s3.heap.objs.size (x::zs) s3 (upd H s.heap.objs.size (.lst [])) fp) [] H' b:=fun{H'} hn b hb=>
  ⟨hn b hb,(J0.ok.exf b hb).1,J0.ok.exfs b hb,.inl hb,(J0.ok.exf b hb).2,fun p hp=>absurd (show p∈([]:List (Addr×Obj)) from hp) (by simp)⟩
 have loop:∀s4:Shared,s4={s3 with heap:=h₁,toks:=s3.toks}→
   codeAny (model X.prog X.w) X.A (.compLoop (.ListComp elt [⟨tg,iter,ifs,0⟩] sc pos) 0 (.ref it) (.ref s.heap.objs.size) (compEnvC sc cl s3.heap.objs.size X.env)) (RR (.ref s.heap.objs.size) s3.heap.objs.size) s4:=by
  rintro s4 rfl;refine ZbD (fun n s'=>∃i ys σ' H',Inv (Zm X sc cl s3.heap.objs.size (x::zs) s3 (upd H s.heap.objs.size (.lst [])) fp) [] σ' H' s'∧tn i s'.heap∧(∀b∈fp,H' b=none)∧W i n ys σ' H') ?_ m0
   ⟨0,[],emb ix σ,_,J0,st3,fun b hb=>(f3 b hb).1.1,w0⟩
  rintro n s5 ⟨i,ys,σ5,H5,I5,st5,fr5,w5⟩;rcases turn i n ys σ5 H5 w5 with⟨stop,qn⟩|⟨go,step⟩
  ·refine thn (T.done (Zm X sc cl s3.heap.objs.size (x::zs) s3 (upd H s.heap.objs.size (.lst [])) fp) rfl rfl rfl hc i [] s5 σ5 H5 _ I5 (fpo fr5) st5 stop) fun r s6 ⟨hr,I6⟩=>?_;subst hr;obtain⟨m6,hm6,_⟩:=I6.loc;refine hR _ _ _ _ ⟨s.heap.objs.size,H5,m6,rfl,hm6,?_,I3.fpOk (Nat.le_refl _) I6.free,qn⟩;exact I3.call' I6.os I6.base I6.hok I6.bare fun b hb=>by
    obtain⟨⟨f0,f1,f2,f3,f4,f5⟩,_⟩:=f3 b hb;exact⟨f3,f1,f4,f5⟩
  ·refine thn (T.item (Zm X sc cl s3.heap.objs.size (x::zs) s3 (upd H s.heap.objs.size (.lst [])) fp) rfl rfl rfl hc i [] s5 σ5 H5 _ I5 (fpo fr5) st5 go) fun r s6 ⟨u,hr,h6⟩=>?_;subst hr;refine thn h6 fun _ s7 ⟨x7,H7,I7,r7,y7,st7,fr7⟩=>?_;have I7':=I7.pinned (fpo fr7) (T.obj _ _ st7);refine thn (hg _ s7 σ5 H7 x7 u _ I7' r7 (step x7 H7 y7)) fun _ s8 ⟨σ8,H8,I8,q8⟩=>?_;refine thn (hif _ s8 σ8 H8 _ I8 q8) fun b s9 ⟨H9,I9,q9⟩=>?_;have again:∀{ys':List V}{σ':St}{H':Hp}{m':Nat}{s':Shared},Inv (Zm X sc cl s3.heap.objs.size (x::zs) s3 (upd H s.heap.objs.size (.lst [])) fp) ([]++ZaD fp s7.heap) σ' H' s'→W (i+1) m' ys' σ' H'→m'<n→
     ∃m,m<n∧∃i ys σ' H',Inv (Zm X sc cl s3.heap.objs.size (x::zs) s3 (upd H s.heap.objs.size (.lst [])) fp) [] σ' H' s'∧tn i s'.heap∧(∀b∈fp,H' b=none)∧W i m ys σ' H':=fun{ys' σ' H' m' s'} Iz wz hm=>by
    refine⟨m',hm,i+1,ys',σ',H',Iz.unpinned,T.keep _ _ _ st7 fun b hb o e=>(Iz.pin (b,o) (List.mem_append_right _ (List.mem_append_right _ (W8 hb e)))).1,fun b hb=>?_,wz⟩;obtain⟨o,e,d⟩:=T.obj _ _ st7 b hb;exact(Iz.pin (b,o) (List.mem_append_right _ (List.mem_append_right _ (W8 hb e)))).2.1
   cases b with
   |false=>
    rw[if_neg Bool.false_ne_true] at q9⊢;obtain⟨m',hm,wz⟩:=q9;exact again I9 wz hm
   |true=>
    rw[if_pos rfl] at q9⊢;refine thn (he _ s9 σ8 H9 _ I9 q9) fun v s10 ⟨y,H10,I10,r10,hl,hz,m',hm,wz⟩=>?_;refine thn (Ym _ s10 σ8 H10 (.ref s.heap.objs.size) [y] (.ref s.heap.objs.size) [v] (fun z H'=>z= .non∧H'=upd H10 s.heap.objs.size (.lst (ys++ [y]))) I10 rfl (.cons r10 .nil) ⟨_,ys,y,rfl,rfl,hl,hz,rfl,rfl⟩) fun _ s11 ⟨z,H11,I11,_,_,e11⟩=>?_;subst e11;exact again I11 wz hm
 exact codeAny_compStart_list (loop _ (by subst hS3;rfl)) (T.self _ 0 _ _ _ st3 (loop _ (by subst hS3;rfl)))
theorem VR{sc:Scope}{x:Str}{zs:List Str}{ix:List Nat}(ok:X.Ok)(S:YU X sc x zs ix):
  ∃cl,closureFor sc X.env=pure cl∧(∀y c,cl.lookup y=some c→X.env.cells.lookup y=some c)∧∀y,(y,NameKind.free)∈sc.names→∃c,cl.lookup y=some c:=by
 obtain⟨cl,e,h1,h2⟩:=ZaV X.env sc.names [] (fun y hy hf=>ok.has y.1 (S.free y hy hf)) (fun y c h=>by simp at h);refine⟨cl,?_,h1,fun y hy=>h2 y (.inr hy)⟩;unfold closureFor;simp only;rw[e]
 rfl
theorem Wa{elt tg iter:Expr}{ifs:List Expr}{sc:Scope}{pos:Pos}{x:Str}{zs:List Str}{ix:List Nat}{wi:TI}{g:TG}{tc:TT}{te:TE}
  (hc:X.calm=true) (S:YU X sc x zs ix) (hi:PI X tg iter wi)
  (hin:∀cl C s H fp,PG (Zm X sc cl C (x::zs) s H fp) tg g∧PIf (Zm X sc cl C (x::zs) s H fp) ifs tc∧PE (Zm X sc cl C (x::zs) s H fp) elt te)
  (hs:∀x,foldedSetIterable iter X.env x=pure x:=by intro _;rfl):
  PE X (.ListComp elt [⟨tg,iter,ifs,0⟩] sc pos) (Zhj ix wi g tc te):=by
 intro pins s σ H Q I h;obtain⟨cl,hclos,hcl,hhas⟩:=VR I.ok S;rw[eval_ListComp];refine wpAny_comprehension_free (use:=none) rfl hs hclos S.kind S.names (thn (hi pins s σ H _ I h) fun v s1 h1=>thn h1 fun itv s2 h2=>?_);obtain⟨it,fp,tn,J,H2,e,I2,T,st2,f2,hq⟩:=h2;subst e;refine ZcV (RR:=fun acc C=>compPost (model X.prog X.w) X.A X.xe none (EP X pins σ Q) acc C) hc S I2 hcl hhas T st2 f2 (fun C s H=>hin cl C s H fp) hq fun acc C f s' h=>?_;obtain⟨p,H',m,rfl,hm,I',⟨g0,g1,g2,g3,g4,g5⟩,q⟩:=h;exact⟨m,hm,fun h' hb=>⟨.ref p,H',I'.turned (t':=s'.toks) (fun b o hne e=>(hb.2 b hne).trans e) g0 g1 g3 g4 g5,rfl,q⟩⟩
theorem Zj4{elt tg iter:Expr}{ifs:List Expr}{sc:Scope}{pos py spos:Pos}{x y:Str}{zs:List Str}{ix:List Nat}{wi:TI}{g:TG}{tc:TT}{te:TE}{j:Nat}
  (hc:X.calm=true) (S:YU X sc x zs ix) (hi:PI X tg iter wi)
  (hin:∀cl C s H fp,PG (Zm X sc cl C (x::zs) s H fp) tg g∧PIf (Zm X sc cl C (x::zs) s H fp) ifs tc∧PE (Zm X sc cl C (x::zs) s H fp) elt te)
  (hN:X.N.Nodup) (hj:X.N[j]? =some y) (hy:Loc X.env.scope y)
  (hsw:swapsWith (.ListComp elt [⟨tg,iter,ifs,0⟩] sc pos) (some (.Name y py)) spos.line X.env=pure true:=by rfl)
  (hf:X.fn y=true∨X.env.scope.names.lookup y=some .local:=by first|exact .inl rfl|exact .inr rfl|assumption)
  (hs:∀x,foldedSetIterable iter X.env x=pure x:=by intro _;rfl):
  PS X (.Assign [.Name y py] (.ListComp elt [⟨tg,iter,ifs,0⟩] sc pos) spos) (Zfy (Zhj ix wi g tc te) (UI j)):=by
 intro pins s σ H D I h;obtain⟨cl,hclos,hcl,hhas⟩:=VR I.ok S;rw[exec_Assign_Name_used _ _ _ _ hsw];refine wpAny_bind (wpAny_standAt (wpAny_bind ?_));show wpAny _ X.A (do let _←comprehension (.ListComp elt [⟨tg,iter,ifs,0⟩] sc pos) sc X.env _ (newList []) false (eval iter X.env) (some (assign (.Name y py) X.env))) _ _ s;refine wpAny_bind (wpAny_mono (wpAny_comprehension_free (use:=some (assign (.Name y py) X.env)) (Q:=fun _ s'=>SP X pins D .next s') rfl hs hclos S.kind S.names
  (thn (hi pins s σ H _ I h) fun v s1 h1=>thn h1 fun itv s2 h2=>?_)) (fun _ s' hq=>wpAny_pure (wpAny_pure hq)) fun _ _ e=>e)
 obtain⟨it,fp,tn,J,H2,e,I2,T,st2,f2,hq⟩:=h2;subst e;refine ZcV (Q:=fun x H1=>UI j x σ H1 D.nx) (RR:=fun acc C=>compPost (model X.prog X.w) X.A X.xe (some (assign (.Name y py) X.env)) (fun _ s'=>SP X pins D .next s') acc C) hc S I2 hcl hhas T st2 f2 (fun C s H=>hin cl C s H fp) hq fun acc C f s' h=>?_;obtain⟨p,H',m,rfl,hm,I',⟨g0,g1,g2,g3,g4,g5⟩,q⟩:=h;show wpAny _ X.A (assign (.Name y py) X.env (.ref p)) _ _ _;refine wpAny_assign_Name (Zbw I' hN hj hy (show ZD (.ref p) (.ref p) from rfl) (fun s'' I'' ⟨c,hsb,hcc⟩=>?_) hf);have hne:C≠c:=by
  rcases hcc with z|z
  ·rw[z];exact g1
  ·exact Ne.symm (g4 _ _ z)
 exact⟨m,hm.sameBut hsb hne,fun h' hb=>⟨_,H',I''.turned (t':=s''.toks) (fun b o hne e=>(hb.2 b hne).trans e) g0 g1 g3 g4 g5,q⟩⟩
end
end L2
namespace L2
open PySem PySem.Spec PyProof.Rows
noncomputable def CXX (P:Program) (w:World):CXT:=fun outer H s E e s'=>
 ∃(ea:Addr)(cls a0:Value)(H':Hp)(B:Heap),e= .ref ea∧s'.os=s.os∧AllBare s'.gens∧Un (frs outer) [] H H' s.heap s'.heap∧HOk P w H' s'.heap∧
  Heap.FlyingW B outer ea cls a0 s'.heap∧(∀b o,s'.heap.get? b=some o→(H' b≠none∨((∃o',s.heap.get? b=some o')∧b∉frs outer))→B.get? b=some o)∧E cls none H'
theorem HOk.stays{P:Program}{w:World}{H:Hp}{h h' B:Heap}(ok:HOk P w H h)(hB:∀b o,h.get? b=some o→H b≠none→B.get? b=some o)(st:B.StaysIn h'):HOk P w H h':=fun a o e=>
 (ok a o e).stay (fun b u hb q=>st b u (hB b u q (by
  rcases hb with rfl|hb
  ·rw[e];exact fun z=>nomatch z
  ·rw[hb];exact fun z=>nomatch z))) (fun _ q=>q) fun _ _ q=>q
theorem ZO.got{P:Program}{w:World}{H:Hp}{h:Heap}{a:Addr}{o:HO}(x:ZO P w H h a o):∃ob,h.get? a=some ob:=by
 cases o with
 |lst xs=>obtain⟨_,_,_,_,e⟩:=x;exact⟨_,e⟩
 |tup xs=>obtain⟨_,_,_,p⟩:=x;obtain⟨ob,e,_⟩:=p;exact⟨ob,e⟩
 |dK kvs=>obtain⟨_,_,_,_,o,_,_,e,_⟩:=x;exact⟨o,e⟩
 |dT kvs=>obtain⟨_,_,_,_,o,_,_,e,_⟩:=x;exact⟨o,e⟩
 |set S n=>obtain⟨o,_,_,_,e,_⟩:=x;exact⟨o,e⟩
 |ins C dx fs=>obtain⟨_,_,_,e,_⟩:=x;exact⟨_,e⟩
 |own y=>exact x
 |xd fs=>obtain⟨_,⟨o,_,_,e,_⟩,_⟩:=x;exact⟨o,e⟩
 |rng lo hi=>obtain⟨_,_,_,e⟩:=x;exact⟨_,e⟩
 |frz ob u=>obtain⟨e,_⟩:=x;exact⟨ob,e⟩
 |tbl ps=>exact⟨_,(show h.get? a=some _ from x)⟩
 |met f y=>exact⟨_,(show h.get? a=some _ from x)⟩
 |ext φ=>obtain⟨_,e,_⟩:=x;exact e
theorem Un.fly{fs:List Addr}{H H':Hp}{h h1 h2 B:Heap}(u:Un fs [] H H' h h1)(hB:∀b o,h1.get? b=some o→(H' b≠none∨((∃o',h.get? b=some o')∧b∉fs))→B.get? b=some o)
  (st:B.StaysIn h2) (sl:h1.UpToSlots h2) (hf:∀b∈fs,∀o,h.get? b=some o→∀vs,o.data≠ .fields vs) (hfn:∀b∈fs,H b=none):Un fs [] H H' h h2 where
 keep:=fun b o e n hb hx=>st b o (hB b o (u.keep b o e n hb hx) (.inr ⟨⟨_,e⟩,hb⟩))
 slot:=fun b o e n hb hx=>by
  obtain⟨s1,e1⟩:=u.slot b o e n hb hx;obtain⟨s2,e2⟩:=sl b _ e1 (hf b hb o e);exact⟨s2,e2⟩
 free:=u.free
 there:=fun b o e hx=>by
  by_cases hb:b∈fs
  ·obtain⟨s1,e1⟩:=u.slot b o e (hfn b hb) hb hx;obtain⟨s2,e2⟩:=sl b _ e1 (hf b hb o e);exact⟨_,e2⟩
  ·obtain⟨o',e1⟩:=u.there b o e hx;exact⟨o',st b o' (hB b o' e1 (.inr ⟨⟨_,e⟩,hb⟩))⟩
 tups:=u.tups
 frzs:=u.frzs
 tbls:=u.tbls
section
variable {P:Program}{w:World}{K:PySem.W.Frag}{mg:Str→Option Value}{base:Heap}{N:List Str}{qual:Str}{scope:Scope}{f:Addr}{cd:Value}{A:Around}{outer:List Env}{s₀:Shared}{H₀:Hp}{E:XK}
noncomputable abbrev cxX (P:Program) (w:World) (K:PySem.W.Frag) (mg:Str→Option Value) (base:Heap) (N:List Str) (qual:Str) (scope:Scope) (f:Addr) (cd:Value) (A:Around) (outer:List Env) (s₀:Shared) (H₀:Hp) (E:XK):Cx:=
 ZJ (CXX P w) P w K mg base N qual scope f cd A outer s₀ H₀ E
theorem Zjc{pins:List (Addr×Obj)}{σ:St}{H H':Hp}{s s':Shared}{ea:Addr}{cls a0:Value}{B:Heap}(I:Inv (cxX P w K mg base N qual scope f cd A outer s₀ H₀ E) pins σ H s)
  (os:s'.os=s.os) (bare:AllBare s'.gens) (u:Un (frs (cxX P w K mg base N qual scope f cd A outer s₀ H₀ E).stack) [] H H' s.heap s'.heap) (ok:HOk P w H' s'.heap)
  (fl:Heap.FlyingW B (cxX P w K mg base N qual scope f cd A outer s₀ H₀ E).stack ea cls a0 s'.heap)
  (hB:∀b o,s'.heap.get? b=some o→(H' b≠none∨((∃o',s.heap.get? b=some o')∧b∉frs (cxX P w K mg base N qual scope f cd A outer s₀ H₀ E).stack))→B.get? b=some o) (q:E cls none H'):
  (cxX P w K mg base N qual scope f cd A outer s₀ H₀ E).xe (.ref ea) s':=by
 have hfr:(A.deeper (envOfC qual scope s₀.heap.objs.size f cd)).frames=some (envOfC qual scope s₀.heap.objs.size f cd::outer):=I.ok.frames;refine wpAny_leaves_onW (L:=s₀.heap.objs.size) hfr rfl fl fun h2 fl2 sl=>?_;have below:∀b o,s₀.heap.get? b=some o→b∉frs outer→(∃o',s.heap.get? b=some o')∧b∉frs (cxX P w K mg base N qual scope f cd A outer s₀ H₀ E).stack:=fun b o e hn=>
  ⟨I.base.there b o e (by intro z;exact absurd (show b∈([]:List Addr) from z) (by simp)),fun z=>by
   rcases List.mem_cons.mp (I.stkSub b z) with q|q
   ·have hb:=Heap.lt_size e;have q':b=s₀.heap.objs.size:=q;rw[q'] at hb;exact Nat.lt_irrefl _ hb
   ·exact hn q⟩
 have u2:Un (frs outer) [] H₀ H' s₀.heap s'.heap:=by
  have b0:Un (frs outer) [] H₀ H s₀.heap s.heap:=I.base;refine⟨fun b o e n hb hx=>?_,fun b o e n hb hx=>?_,fun b o e n hx=>?_,fun b o e hx=>?_,fun b xs e=>u.tups b xs (b0.tups b xs e),fun b o v e=>u.frzs b o v (b0.frzs b o v e),fun b ps e=>?_⟩
  ·exact u.keep b o (b0.keep b o e n hb hx) (b0.free b o e n hx) (below b o e hb).2 hx
  ·obtain⟨s1,e1⟩:=b0.slot b o e n hb hx;obtain⟨s2,e2⟩:=u.any e1 (b0.free b o e n hx) hx;exact⟨s2,e2⟩
  ·obtain⟨o',e1⟩:=b0.there b o e hx;exact u.free b o' e1 (b0.free b o e n hx) hx
  ·obtain⟨o',e1⟩:=b0.there b o e hx;exact u.there b o' e1 hx
  ·obtain⟨m1,e1⟩:=b0.tbls b ps e;obtain⟨m2,e2⟩:=u.tbls b _ e1;exact⟨m1++m2,by rw[e2,Array.append_assoc]⟩
 have hB2:∀b o,s'.heap.get? b=some o→(H' b≠none∨((∃o',s₀.heap.get? b=some o')∧b∉frs outer))→B.get? b=some o:=fun b o e h=>hB b o e (h.imp id fun⟨⟨o',z⟩,hn⟩=>below b o' z hn);have ok2:HOk P w H' h2:=ok.stays (fun b o e n=>hB b o e (.inl n)) fl2.1;refine⟨ea,cls,a0,H',B,rfl,os.trans I.os,bare,u2.fly hB2 fl2.1 sl (fun b hb o e=>?_) (I.ok.frf),ok2,fl2,fun b o e h=>?_,q⟩
 ·obtain⟨_,o',e',d⟩:=I.ok.funs.mem hb;have e'':s₀.heap.get? b=some o':=e';rw[e] at e'';cases e'';exact d
 ·have ex:∃o',s'.heap.get? b=some o':=by
   rcases h with h|⟨h,hn⟩
   ·cases q2:H' b with
    |none=>exact absurd q2 h
    |some v=>exact(ok b v q2).got
   ·obtain⟨o5,q5⟩:=h;exact u2.there b o5 q5 (by simp)
  obtain⟨o',e'⟩:=ex;have e2:=hB2 b o' e' h;have e3:=fl2.1 b o' e2;have e4:h2.get? b=some o:=e;rw[e3] at e4;cases e4;exact e2
theorem Zi:VJ (CXX P w) (cxX P w K mg base N qual scope f cd A outer s₀ H₀ E) E:=by
 intro pins σ H s e s' I h;obtain⟨ea,cls,a0,H',B,rfl,os,bare,u,ok,fl,hB,q⟩:=h;exact Zjc I os bare u ok fl hB q
noncomputable def Zfr (cls:Value) (E:XK) (t:TA):TS:=fun _ σ H=>t σ H fun vs H1=>vs.length≤sizeLine∧E cls none H1
theorem Zib{pins:List (Addr×Obj)}{σ:St}{H:Hp}{s:Shared}{h':Heap}{ea:Addr}{cls:Value}{us:List Value}(I:Inv (cxX P w K mg base N qual scope f cd A outer s₀ H₀ E) pins σ H s)
  (hx:Heap.MadeExcOf s.heap h' ea cls us) (q:E cls none H):(cxX P w K mg base N qual scope f cd A outer s₀ H₀ E).xe (.ref ea) {s with heap:=h'}:=by
 have hfr:(A.deeper (envOfC qual scope s₀.heap.objs.size f cd)).frames=some (envOfC qual scope s₀.heap.objs.size f cd::outer):=I.ok.frames;have hin:∀env∈(cxX P w K mg base N qual scope f cd A outer s₀ H₀ E).stack,∀b,env.frame=some b→b∈frs (cxX P w K mg base N qual scope f cd A outer s₀ H₀ E).stack:=fun env he b hb=>List.mem_filterMap.mpr ⟨env,he,hb⟩;have inB:∀b o,s.heap.get? b=some o→(H b≠none∨((∃o',s₀.heap.get? b=some o')∧b∉frs outer))→(PySem.W.hideAll s.heap (frs (cxX P w K mg base N qual scope f cd A outer s₀ H₀ E).stack)).get? b=some o:=fun b o e h=>
  PySem.W.hideAll_get _ e fun z=>by
   rcases h with h|⟨⟨o',e'⟩,hn⟩
   ·exact h (I.stkFree b z)
   ·rcases List.mem_cons.mp (I.stkSub b z) with q|q
    ·have hb:=Heap.lt_size e';have q':b=s₀.heap.objs.size:=q;rw[q'] at hb;exact Nat.lt_irrefl _ hb
    ·exact hn q
 refine wpAny_leaves_madeW (base:=PySem.W.hideAll s.heap (frs (cxX P w K mg base N qual scope f cd A outer s₀ H₀ E).stack)) (h:=s.heap) (L:=s₀.heap.objs.size) hfr rfl (fun b o e=>PySem.W.of_hideAll _ e) (PySem.W.funFrames_hide I.stack hin) hx fun h3 t fl _ _ sl=>?_;have sl':s.heap.UpToSlots h3:=(Heap.UpToSlots.of_keeps hx.keeps).trans sl;have b0:Un (frs outer) [] H₀ H s₀.heap s.heap:=I.base;have ok3:HOk P w H h3:=I.hok.stays (fun b o e n=>inB b o e (.inl n)) fl.1;refine⟨ea,cls,_,H,_,rfl,I.os,I.bare,b0.fly inB fl.1 sl' (fun b hb o e=>?_) I.ok.frf,ok3,fl,fun b o e h=>?_,q⟩
 ·obtain⟨_,o',e',d⟩:=I.ok.funs.mem hb;have e'':s₀.heap.get? b=some o':=e';rw[e] at e'';cases e'';exact d
 ·have ex:∃o',s.heap.get? b=some o':=by
   rcases h with h|⟨⟨o5,q5⟩,_⟩
   ·cases q2:H b with
    |none=>exact absurd q2 h
    |some v=>exact(I.hok b v q2).got
   ·exact b0.there b o5 q5 (by simp)
  obtain⟨o',e'⟩:=ex;have e2:=inB b o' e' h;have e3:=fl.1 b o' e2;have e4:h3.get? b=some o:=e;rw[e3] at e4;cases e4;exact e2
theorem Zi2{x:Str}{np cpos pos:Pos}{e₀:Expr}{rest:List Expr}{t:TA}{C:Addr}{B newId initId:String}{bm:List Value}(O:OwnCls x C bm newId mg base)(FB:ExcBaseFacts B newId initId bm)
  (hg:Gl (cxX P w K mg base N qual scope f cd A outer s₀ H₀ E) x) (ha:PA (cxX P w K mg base N qual scope f cd A outer s₀ H₀ E) (e₀::rest) t)
  (he:starEach (e₀::rest) (cxX P w K mg base N qual scope f cd A outer s₀ H₀ E).env=(false,eval e₀ (cxX P w K mg base N qual scope f cd A outer s₀ H₀ E).env)::starEach rest (cxX P w K mg base N qual scope f cd A outer s₀ H₀ E).env:=by rfl)
  (hplain:(backTo cpos (starEach rest (cxX P w K mg base N qual scope f cd A outer s₀ H₀ E).env)).any (·.1)=false:=by rfl) (hdb:(x==("__debug__" :Str))=false:=by decide):
  PS (cxX P w K mg base N qual scope f cd A outer s₀ H₀ E) (.Raise (some (.Call (.Name x np) (e₀::rest) [] cpos)) none pos) (Zfr (.ref C) E t):=by
 intro pins s σ H D I h;obtain⟨tl,N',nm,q,bs,hdct,sn,sub,ab,col,dd,k0,k1,k2,k3,k5,mN,hC,hN,hni,T⟩:=O.obj;refine wpAny_Raise_call_subT (C:=C) (nm:=nm) (q:=q) (N:=N') (bs:=bs) (bm:=tl) (hdct:=hdct) (sn:=sn) (sub:=sub) (ab:=ab) (col:=col) (dd:=dd) (k0:=k0) (k1:=k1) (k2:=k2) (k3:=k3) (k5:=k5)
  FB (mN:=mN) (T.hasType FB.hasBase) (I.ok.hd rfl) (by rw[he];show(false||(backTo cpos (starEach rest (cxX P w K mg base N qual scope f cd A outer s₀ H₀ E).env)).any (·.1))=false;rw[hplain];rfl) hni (V7 I hg O.bound ⟨rfl,?_⟩ hdb)
 have h':=ha cpos pins s σ H _ I h;rw[he] at h'⊢;refine Calls.evalArgs_plain (thn h' fun us s2 ⟨vs,H2,I2,r,hz,q2⟩=>⟨rfl,by rw[←r.length];exact hz,I2.bk _ _ hC,hN.keeps I2.bk,T.keeps I2.bk,fun h3 e hm=>Zib I2 hm q2⟩)
end
end L2
namespace L2
open PySem PySem.Spec PyProof.Rows
mutual
inductive Y0(K:PySem.W.Frag)(H:Hp):V→PyData→Prop
 |non:Y0 K H .non .none
 |bl (b:Bool):Y0 K H (.bl b) (.bool b)
 |int (i:Int):Y0 K H (.int i) (.int i)
 |str (x:Str):Y0 K H (.str x) (.str x)
 |lst {a:Addr} {xs:List V} {ds:List PyData} (h:SqL K H a xs) (r:DRels K H xs ds):Y0 K H (.ref a) (.list ds)
 |tup {a:Addr} {xs:List V} {ds:List PyData} (h:SqT K H a xs) (r:DRels K H xs ds):Y0 K H (.ref a) (.tuple ds)
inductive DRels(K:PySem.W.Frag)(H:Hp):List V→List PyData→Prop
 |nil:DRels K H [] []
 |cons {x:V} {d:PyData} {xs:List V} {ds:List PyData} (h:Y0 K H x d) (r:DRels K H xs ds):DRels K H (x::xs) (d::ds)
end
theorem DRels.ints{K:PySem.W.Frag}{H:Hp}:∀ns:List Int,DRels K H (ns.map V.int) (ns.map PyData.int)
 | []=> .nil
 |n::ns=> .cons (.int n) (DRels.ints ns)
section
variable {X:Cx}{pins:List (Addr×Obj)}{σ:St}{H:Hp}{s:Shared}
mutual
theorem Y0.reads(I:Inv X pins σ H s):∀{x:V}{d:PyData}{v:Value},Y0 X.K H x d→ZD x v→∃as,Reads s.heap v d as
 |_,_,_,.non,r=>by cases (show _=Value.none from r);exact⟨_,.none⟩
 |_,_,_,.bl b,r=>by cases (show _=Value.bool b from r);exact⟨_,.bool b⟩
 |_,_,_,.int i,r=>by obtain⟨t,e⟩:=r;cases e;exact⟨_,.int i t⟩
 |_,_,_,.str x,r=>by obtain⟨t,e⟩:=r;cases e;exact⟨_,.str x t⟩
 |_,_,_,.lst (a:=a) h rs,r=>by
  cases (show _=Value.ref a from r);obtain⟨its,rv,p,hz⟩:=I.list h;obtain⟨o,ho,hc,n,hd⟩:=p.isList;obtain⟨as,q⟩:=DRels.reads I rs rv;exact⟨_,.list ho hc hd (by simpa using q)⟩
 |_,_,_,.tup (a:=a) h rs,r=>by
  cases (show _=Value.ref a from r);obtain⟨its,rv,p,hz⟩:=I.tuple h;obtain⟨o,ho,hc,n,hd⟩:=(show s.heap.IsTuple a its.toArray from p);obtain⟨as,q⟩:=DRels.reads I rs rv;exact⟨_,.tuple ho hc hd (by simpa using q)⟩
theorem DRels.reads(I:Inv X pins σ H s):∀{xs:List V}{ds:List PyData}{vs:List Value},DRels X.K H xs ds→Zw xs vs→∃as,ReadsAll s.heap vs ds as
 |_,_,_,.nil,.nil=>⟨_,.nil⟩
 |_,_,_,.cons h r,.cons q t=>by
  obtain⟨as,e⟩:=Y0.reads I h q;obtain⟨bs,e'⟩:=DRels.reads I r t;exact⟨_,.cons e e'⟩
end
end
noncomputable def Uw (K:PySem.W.Frag) (neg:Bool):R2:=fun x y H Q=>∃dx dy,Y0 K H x dx∧Y0 K H y dy∧dx.canLay0=true∧dy.canLay0=true∧dx.depth≤60∧Q (.bl (if neg then !PyData.eqv dx dy else PyData.eqv dx dy)) H
section
variable {X:Cx}
theorem ZlR(hu:X.A.units+64<cLine):OpR X (compareOp .Eq) (Uw X.K false):=by
 intro pins s σ H x y v u Q I rx ry h;obtain⟨dx,dy,h1,h2,c1,c2,dp,q⟩:=h;obtain⟨as,r1⟩:=h1.reads I rx;obtain⟨bs,r2⟩:=h2.reads I ry;exact SeqAt.compareEq_reads r1 r2 c1 c2 (by have:min dx.depth dy.depth≤dx.depth:=Nat.min_le_left _ _;omega) ⟨.bl _,H,I,rfl,q⟩
theorem Zlu(hu:X.A.units+64<cLine):OpR X (compareOp .NotEq) (Uw X.K true):=by
 intro pins s σ H x y v u Q I rx ry h;obtain⟨dx,dy,h1,h2,c1,c2,dp,q⟩:=h;obtain⟨as,r1⟩:=h1.reads I rx;obtain⟨bs,r2⟩:=h2.reads I ry;exact SeqAt.compareNe_reads r1 r2 c1 c2 (by have:min dx.depth dy.depth≤dx.depth:=Nat.min_le_left _ _;omega) ⟨.bl _,H,I,rfl,q⟩
end
end L2
namespace L2
open PySem PySem.Spec PyProof.Rows
section
variable {prog:Program}{w:World}{A:Around}{E:Value→Shared→Prop}
variable {s:Shared}
end
section
variable {X:Cx}{pos:Pos}
end
end L2
namespace L2
open PySem PySem.Spec PyProof.Rows
section
variable {P:Program}{w:World}{K:PySem.W.Frag}{mg:Str→Option Value}{base:Heap}
theorem Fun.okX{x qual:Str}{st:Stmt}{f:Addr}{fd:FuncData}{N ps:List Str}{k:Nat}{sp:Sp}(F:Fun K x qual st f fd)(S:Zs N ps (Zj st))(len:∀vs H Q E,sp vs H Q E→vs.length=ps.length)
  (hbody:∀(cdv:Value)(A:Around)(outer:List Env)(s:Shared)(H:Hp)(vs:List V)(Q:VK)(E:XK),YB k (A.deeper (envOfC qual (Zj st) s.heap.objs.size f cdv))→sp vs H Q E→
   ∃t,PSs (cxX P w K mg base N qual (Zj st) f cdv A outer s H E) (WL st) t∧t {nx:=fun _ H'=>Q .non H',rt:=Q} (start N vs) H):Zl P w K mg base (CXX P w) (k+1) f fd ps sp:=by
 obtain⟨oc,od,kV,doc,pm,an,cdv,ct,osl,rfl,lk,hcd⟩:=F.ex;exact ZjE lk hcd S len fun A outer s H vs Q E hr hsp=>hbody cdv A outer s H vs Q E hr hsp
theorem Uk{X:Cx}:VJ (CXX X.prog X.w) X E0:=by
 intro pins σ H s e s' I h;obtain⟨ea,cls,a0,H',B,_,_,_,_,_,_,_,z⟩:=h;exact z.elim
end
section
variable {X:Cx}
noncomputable def rOr (r r':R2):R2:=fun x y H Q=>r x y H Q∨r' x y H Q
noncomputable def ZeL:R2:=fun x y H Q=>∃i j,x= .str i∧y= .str j∧i.length+j.length≤sizeLine∧Q (.str (i++j)) H
noncomputable def ZgY:R2:=rI0 fun i j=> .int (i+j)
noncomputable def ZhA:R2:=rI (fun i j=>IntMulOk i j) fun i j=> .int (i*j)
theorem Zki:OpR X (binaryOp .Add) (rOr ZgY (rOr ZeL (rOr rCat (ZeM X.K)))):=ZkN.or (Zhc.or (Zll.or Zkx))
theorem Y7:OpR X (binaryOp .Mult) (rOr ZhA rRep):=Zkk.or Zk9
theorem Zk3(hu:X.A.units+64<cLine):OpR X (compareOp .Eq) (rOr rEq (Uw X.K false)):=Zmn.or (ZlR hu)
theorem Zk8(hu:X.A.units+64<cLine):OpR X (compareOp .NotEq) (rOr rNe (Uw X.K true)):=Zmt.or (Zlu hu)
end
namespace Rd
section
variable {σ:St}{H:Hp}{Q:VK}{D:Vf}{K:PySem.W.Frag}{r':R2}
theorem ZmQ{i j:Int}(q:Q (.int (i+j)) H):rOr ZgY r' (.int i) (.int j) H Q:= .inl ⟨i,j,rfl,rfl,q⟩
theorem ZiU{r1:R2}{i j:Str}(hl:i.length+j.length≤sizeLine)(q:Q (.str (i++j)) H):rOr r1 (rOr ZeL r') (.str i) (.str j) H Q:= .inr (.inl ⟨i,j,rfl,rfl,hl,q⟩)
theorem Ux{r1 r2:R2}{a b:Addr}{xs ys:List V}(ha:H a=some (.lst xs))(hb:H b=some (.lst ys))(hl:xs.length+ys.length≤sizeLine)(q:∀p,H p=none→Q (.ref p) (upd H p (.lst (xs++ys)))):
  rOr r1 (rOr r2 (rOr rCat r')) (.ref a) (.ref b) H Q:= .inr (.inr (.inl ⟨a,b,xs,ys,rfl,rfl,ha,hb,hl,q⟩))
theorem Zm0{i j:Int}(c:IntMulOk i j)(q:Q (.int (i*j)) H):rOr ZhA r' (.int i) (.int j) H Q:= .inl ⟨i,j,rfl,rfl,c,q⟩
theorem ZmA{i j:Int}(q:Q (.bl (decide (i=j))) H):rOr rEq r' (.int i) (.int j) H Q:= .inl (eqI q)
theorem Zm1{i j:Int}(q:Q (.bl (!decide (i=j))) H):rOr rNe r' (.int i) (.int j) H Q:= .inl (neI q)
theorem ZgO{x y:V}{dx dy:PyData}(hx:Y0 K H x dx)(hy:Y0 K H y dy)(cx:dx.canLay0=true)(cy:dy.canLay0=true)(dp:dx.depth≤60)(q:Q (.bl (PyData.eqv dx dy)) H):rOr rEq (Uw K false) x y H Q:=
 .inr ⟨dx,dy,hx,hy,cx,cy,dp,q⟩
theorem Zb3{x y:V}{dx dy:PyData}(hx:Y0 K H x dx)(hy:Y0 K H y dy)(cx:dx.canLay0=true)(cy:dy.canLay0=true)(dp:dx.depth≤60)(q:Q (.bl (!PyData.eqv dx dy)) H):rOr rNe (Uw K true) x y H Q:=
 .inr ⟨dx,dy,hx,hy,cx,cy,dp,q⟩
theorem ZlS{p:Addr}{xs:List V}{i:Int}{v:V}(h:SqL K H p xs)(e:atI xs i=some v)(q:Q v H):rIx K (.ref p) (.int i) H Q:= .inl (ixl h e q)
theorem Znj{p:Addr}{xs:List V}{i:Int}{v:V}(h:SqT K H p xs)(e:atI xs i=some v)(q:Q v H):rIx K (.ref p) (.int i) H Q:= .inr (.inl (ixt h e q))
theorem ZmH{C:Nat→Prop}{p:Addr}{xs:List V}(h:SqL K H p xs)(q:C xs.length):∃x n,[V.ref p]=[x]∧ZcO K x H n∧C n:=⟨_,_,rfl,.inl ⟨xs,h,rfl⟩,q⟩
theorem Zne{C:Nat→Prop}{y:Str}(h:y.length≤sizeLine)(q:C y.length):∃x n,[V.str y]=[x]∧ZcO K x H n∧C n:=⟨_,_,rfl,⟨h,rfl⟩,q⟩
theorem Zl7{i:Nat}{v:V}{σ':St}{Q:St→Hp→Prop}(e:σ.set i (some v)=σ')(h:Q σ' H):UI i v σ H Q:=by
 subst e;exact h
theorem ifP{c A B:Prop}[Decidable c](h:c)(a:A):if decide c=true then A else B:=by rw[decide_eq_true h];exact ZeV a
theorem ifN{c A B:Prop}[Decidable c](h:¬c)(b:B):if decide c=true then A else B:=by rw[decide_eq_false h];exact ZfQ b
theorem ZmC{b:Bool}{C:Bool→Prop}(q:C b):∃k,Zfq K (.bl b) H k∧C k:=⟨b,rfl,q⟩
end
end Rd
end L2
namespace L2
open PySem PySem.Spec PyProof.Rows
namespace Rd
section
variable {H:Hp}{C:Bool→Prop}{K:PySem.W.Frag}
theorem Zhx{i:Int}(q:C true):∃x n' t b,[V.int i,.ty "int"]=[x,.ty n']∧WC K H x t∧PySem.W.kitOne K t (.type n')=some b∧C b:=⟨_,_,_,true,rfl,.int i,rfl,q⟩
theorem Zf8{i:Int}(q:C false):∃x n' t b,[V.int i,.ty "bool"]=[x,.ty n']∧WC K H x t∧PySem.W.kitOne K t (.type n')=some b∧C b:=⟨_,_,_,false,rfl,.int i,rfl,q⟩
theorem Zhz{i:Str}(q:C true):∃x n' t b,[V.str i,.ty "str"]=[x,.ty n']∧WC K H x t∧PySem.W.kitOne K t (.type n')=some b∧C b:=⟨_,_,_,true,rfl,.str i,rfl,q⟩
end
end Rd
end L2
namespace L2
open PySem PySem.Spec PyProof.Rows
noncomputable def Zgy (scX sc:Scope) (N zs:List Str) (ix:List Nat):Bool:=
 decide (sc.kind= .function)&&(sc.names.all fun y=>decide (y.2≠ .cell))&&(sc.names.all fun y=>decide (y.2= .local→sc.names.lookup y.1=some .local))&&
 (sc.names.all fun y=>decide (y.2= .free→scX.names.lookup y.1=some .cell∨scX.names.lookup y.1=some .free))&&(zs.all fun z=>decide (sc.names.lookup z=some .free))&&decide (ix.map (fun j=>N[j]?)=zs.map some)
theorem Z2{X:Cx}{sc:Scope}{x:Str}{zs:List Str}{ix:List Nat}(scX:Scope)(N:List Str)(e1:X.env.scope=scX)(e2:X.N=N)(h:Zgy scX sc N zs ix=true):YU X sc x zs ix:=by
 unfold Zgy at h;simp only[Bool.and_eq_true,List.all_eq_true,decide_eq_true_eq] at h;obtain⟨⟨⟨⟨⟨h1,h2⟩,h3⟩,h4⟩,h5⟩,h6⟩:=h;subst e1 e2;exact⟨h1,h2,h3,h4,h5,h6⟩
end L2
namespace L2
open PySem PySem.Spec PyProof.Rows
def ZdA(CX:CXT)(X:Cx)(J:St→Prop)(E:XK):Prop:=∀(pins:List (Addr×Obj))(σ:St)(H:Hp)(s:Shared)(e:Value)(s':Shared),J σ→Inv X pins σ H s→CX X.stack H s E e s'→X.xe e s'
noncomputable def Ze3 (J:St→Prop) (sp:Sp) (dvs:List V) (E:XK) (t:TA):TE:=fun σ H Q=>J σ∧t σ H fun vs H1=>sp (vs++dvs) H1 Q E
section
variable {X:Cx}{CX:CXT}{k:Nat}{f C:Addr}{fd:FuncData}{ps:List Str}{sp:Sp}{dvs:List V}{ds:List Value}{E:XK}{J:St→Prop}{x m:Str}{p pos apos:Pos}{e o:Expr}{es:List Expr}{ta:TE}{t:TA}
def ZkO(CX:CXT)(X:Cx)(σ:St)(E:XK):Prop:=∀(pins:List (Addr×Obj))(H:Hp)(s:Shared)(e:Value)(s':Shared),Inv X pins σ H s→CX X.stack H s E e s'→X.xe e s'
theorem Zm8{pins:List (Addr×Obj)}{σ:St}{H:Hp}{s:Shared}{Q:VK}{us:List Value}{vs:List V}(F:Zl X.prog X.w X.K X.mg X.base CX k f fd ps sp)(hr:YB k X.A)(hb:ZA X.K fd ps ds)(hd:Zw dvs ds)(hx:ZkO CX X σ E)
  (I:Inv X pins σ H s) (r:Zw vs us) (h:sp (vs++dvs) H Q E):wpAny (model X.prog X.w) X.A (call (.ref f) us) (EP X pins σ Q) X.xe s:=by
 have r2:Zw (vs++dvs) (us++ds):=r.append hd;have hl:(us++ds).length=ps.length:=by rw[←r2.length];exact F.len _ _ _ _ h
 refine wpAny_call (codeAny_mono (F.run X.A X.stack s H ⟨us,[]⟩ (us++ds) (vs++dvs) Q E hr I.env0 (hb s us I.kIn hl) r2 h) fun r s' hq=>?_);cases r with
 |error e=>exact hx pins H s e s' I hq
 |ok fl=>
  cases fl with
  |ret u=>exact I.after hq
  |next=>exact False.elim hq
  |brk=>exact False.elim hq
  |cont=>exact False.elim hq
theorem ZiZ(F:Zl X.prog X.w X.K X.mg X.base CX k f fd ps sp)(hr:YB k X.A)(hg:Gl X x)(hm:X.mg x=some (.ref f))(hk:PySem.W.keepIn X.K (.ref f)=true)(hb:ZA X.K fd ps ds)(hd:Zw dvs ds)(hx:ZdA CX X J E)
  (ha:PA X (e::es) t) (hdb:(x==("__debug__" :Str))=false:=by decide) (he:starEach (e::es) X.env=(false,eval e X.env)::starEach es X.env:=by rfl) (hpl:(backTo pos (starEach es X.env)).any (·.1)=false:=by rfl):
  PE X (.Call (.Name x p) (e::es) [] pos) (Ze3 J sp dvs E t):=by
 intro pins s σ H Q I h;obtain⟨hJ,h⟩:=h;refine wpAny_Call_Name_kw (V7 I hg hm ?_ hdb);refine PySem.W.callWith_K (h₀:=X.base) I.ok.mod.kin hk (thn (ha pos pins s σ H _ I h) fun us s1 ⟨vs,H1,I1,r,q⟩=>⟨I1.kIn,?_⟩) he hpl;exact Zm8 F hr hb hd (fun pins H s e s'=>hx pins σ H s e s' hJ) I1 r q
def Zm2(X:Cx)(body:List Stmt)(tb:(St→Prop)→XK→TS):Prop:=∀(J:St→Prop)(E1:XK)(pn:List (Addr×Obj))(xe1:Value→Shared→Prop),PassesOwn (model X.prog X.w) X.A X.env xe1→
 ZdA (CXX X.prog X.w) {X with pn:=pn,xe:=xe1} J E1→PSs {X with pn:=pn,xe:=xe1} body (tb J E1)
def ZlD(X:Cx)(suite:List Stmt)(th:TS):Prop:=∀(A':Around),PSs {X with A:=A',calm:=false,xe:=fun _ _=>False} suite th
end
end L2
namespace L2
open PySem PySem.Spec PyProof.Rows
section
variable {K:PySem.W.Frag}{H:Hp}
theorem Y0.ints{p:Addr}{ns:List Int}(h:SqL K H p (ns.map V.int)):Y0 K H (.ref p) (.list (ns.map PyData.int)):= .lst h (DRels.ints ns)
namespace Rd
variable {Q:VK}
end Rd
end
end L2
namespace L2
open PySem PySem.Spec PyProof.Rows
structure Walks(J:It)(n:Nat)(f:Nat→V)(H:Hp):Prop where
 go:∀H' i,Zd H H'→i<n→J.go i H'
 yld:∀H' i x H2,Zd H H'→i<n→J.yld i H' x H2→H2=H'∧x=f i
 stop:∀H',Zd H H'→J.stop n H'
theorem VA{lo:Int}{n:Nat}{H:Hp}:Walks (Itr lo n) n (fun i=> .int (lo+i)) H:=⟨fun _ _ _ h=>h,fun _ _ _ _ _ _ h=>h,fun _ _=>Nat.le_refl _⟩
theorem ZU{K:PySem.W.Frag}{a:Addr}{xs:List V}{H:Hp}(h:SqL K H a xs):Walks (Itl K a) xs.length (fun i=>xs.getD i .non) H:=
 ⟨fun H' i e hi=>⟨xs,xs[i],e.seq h,by simp[hi]⟩,fun H' i x H2 e hi y=>⟨y.1,by
  have:=y.2 xs (e.seq h);simp[List.getD,this]⟩,fun H' e=>⟨xs,e.seq h,Nat.le_refl _⟩⟩
theorem VZ{J:It}{n:Nat}{f:Nat→V}{H0:Hp}(w:Walks J n f H0){g:TG}{tb:TS}{D:Vf}{σ:St}{H:Hp}(Pv:Nat→St→Hp→Prop)(h0:Pv 0 σ H)(hk:∀i σ H,Pv i σ H→Zd H0 H)
  (hs:∀i σ H,i<n→Pv i σ H→g (f i) σ H fun σ2 H2=>tb {D with nx:=Pv (i+1),ct:=Pv (i+1),bk:=D.nx} σ2 H2) (hd:∀σ H,Pv n σ H→D.nx σ H):
  ∃W:Nat→Nat→St→Hp→Prop,(∃m,W 0 m σ H)∧∀i m σ H,W i m σ H→
   (J.stop i H∧D.nx σ H)∨(J.go i H∧∃N:St→Hp→Prop,(∀σ' H',N σ' H'→∃m',m'<m∧W (i+1) m' σ' H')∧∀x H',J.yld i H x H'→g x σ H' fun σ2 H2=>tb {D with nx:=N,ct:=N,bk:=D.nx} σ2 H2):=by
 refine⟨fun i m σ H=>m=n-i∧i≤n∧Pv i σ H,⟨n,by simp,Nat.zero_le _,h0⟩,?_⟩;rintro i m σ H ⟨rfl,hi,p⟩;have sm:=hk i σ H p
 by_cases hlt:i<n
 ·refine .inr ⟨w.go H i sm hlt,Pv (i+1),fun σ' H' p'=>⟨n-(i+1),by omega,rfl,hlt,p'⟩,fun x H' y=>?_⟩;obtain⟨rfl,rfl⟩:=w.yld H i x H' sm hlt y;exact hs i σ _ hlt p
 ·have e:i=n:=by omega
  subst e;exact .inl ⟨w.stop H sm,hd σ H p⟩
theorem Yn{ix:List Nat}{tc:TT}{te:TE}{Q:Addr→Hp→Prop}{σ:St}{H:Hp}{J:It}{n:Nat}{f:Nat→V}(w:Walks J n f H)(hn:n<sizeLine)(c:Nat→Bool)(r:Nat→V)
  (hc:∀i H' (Kc:Bool→Hp→Prop),i<n→Zd H H'→(∀H4,Zd H' H4→Kc (c i) H4)→tc (some (f i)::ix.map fun j=>(σ[j]?).join) H' Kc)
  (he:∀i H' (Kc:VK),i<n→c i=true→Zd H H'→(∀H5,Zd H' H5→Kc (r i) H5)→te (some (f i)::ix.map fun j=>(σ[j]?).join) H' Kc)
  (q:∀p H',H p=none→Zd H H'→H' p=some (.lst (((List.range n).filter c).map r))→Q p H'):
  ∀p,H p=none→∃W:Nat→Nat→List V→St→Hp→Prop,(∃m,W 0 m [] (emb ix σ) (upd H p (.lst [])))∧∀i m ys σ' H',W i m ys σ' H'→
   (J.stop i H'∧Q p H')∨(J.go i H'∧∀x H2,J.yld i H' x H2→UI 0 x σ' H2 fun σ2 H3=>tc σ2 H3 fun b H4=>
    if b=true then te σ2 H4 fun v H5=>H5 p=some (.lst ys)∧ys.length<sizeLine∧∃m',m'<m∧W (i+1) m' (ys++ [v]) σ2 (upd H5 p (.lst (ys++ [v])))
    else ∃m',m'<m∧W (i+1) m' ys σ2 H4):=by
 intro p hp;refine⟨fun i m ys σ' H'=>m=n-i∧i≤n∧(∃a,σ'=a::ix.map fun j=>(σ[j]?).join)∧Zd H H'∧H' p=some (.lst ys)∧ys=((List.range i).filter c).map r,
  ⟨n,by simp,Nat.zero_le _,⟨none,rfl⟩,Zk hp,Ze,rfl⟩,?_⟩
 rintro i m ys σ' H' ⟨rfl,hi,⟨a,rfl⟩,sm,hy,hl⟩
 by_cases hlt:i<n
 ·refine .inr ⟨w.go H' i sm hlt,fun x H2 y=>?_⟩;obtain⟨rfl,rfl⟩:=w.yld H' i x H2 sm hlt y;show tc ((a::ix.map fun j=>(σ[j]?).join).set 0 (some (f i))) H2 _;have hlen:ys.length≤i:=by
   rw[hl,List.length_map];exact Nat.le_trans (List.length_filter_le _ _) (by simp)
  refine hc i H2 _ hlt sm fun H4 s4=>?_;have sm4:=sm.trans s4;have hy4:=s4 _ _ hy;have step:(List.range (i+1)).filter c=(List.range i).filter c++(if c i=true then[i] else[]):=by
   rw[List.range_succ,List.filter_append]
   congr 1
   by_cases h:c i=true<;>simp[h]
  by_cases hci:c i=true
  ·rw[hci,if_pos rfl];refine he i H4 _ hlt hci sm4 fun H5 s5=>⟨s5 _ _ hy4,by omega,n-(i+1),by omega,rfl,hlt,⟨_,rfl⟩,(sm4.trans s5).new hp,Ze,?_⟩;rw[step,if_pos hci,List.map_append,hl]
   rfl
  ·have hcf:c i=false:=by simpa using hci
   rw[hcf,if_neg Bool.false_ne_true];refine⟨n-(i+1),by omega,rfl,hlt,⟨_,rfl⟩,sm4,hy4,?_⟩;rw[step,if_neg hci,List.append_nil,hl]
 ·have e:i=n:=by omega
  subst e;exact .inl ⟨w.stop H' sm,q p H' hp sm (by rw[←hl];exact hy)⟩
end L2
namespace L2
open PySem PySem.Spec PyProof.Rows
structure ZW(A:List Addr)(H H':Hp):Prop where
 keep:∀b o,H b=some o→b∉A→H' b=some o
 tups:∀b xs,H b=some (.tup xs)→H' b=some (.tup xs)
theorem Zd.frame{A:List Addr}{H H':Hp}(e:Zd H H'):ZW A H H':=⟨fun b o h _=>e b o h,fun b xs h=>e b _ h⟩
theorem ZW.trans{A:List Addr}{H H1 H2:Hp}(a:ZW A H H1)(b:ZW A H1 H2):ZW A H H2:=⟨fun c o h n=>b.keep c o (a.keep c o h n) n,fun c xs h=>b.tups c xs (a.tups c xs h)⟩
theorem ZW.mono{A B:List Addr}{H H':Hp}(a:ZW A H H')(h:∀x∈A,x∈B):ZW B H H':=⟨fun c o e n=>a.keep c o e fun z=>n (h c z),a.tups⟩
theorem Wb{A:List Addr}{H:Hp}{p:Addr}{o o':HO}(hp:p∈A)(h:H p=some o)(ht:∀xs,o≠ .tup xs):ZW A H (upd H p o'):=by
 refine⟨fun b u e n=>?_,fun b xs e=>?_⟩
 ·have z:b≠p:=fun z=>n (by rw[z];exact hp);rw[Zh z];exact e
 ·have z:b≠p:=fun z=>ht xs (by rw[z,h] at e;exact Option.some.inj e);rw[Zh z];exact e
def Wz(A A':List Addr)(H:Hp):Prop:=∀a∈A',a∈A∨H a=none
theorem Wz.refl{A:List Addr}{H:Hp}:Wz A A H:=fun _ h=> .inl h
section
variable {K:PySem.W.Frag}{H H':Hp}{A A':List Addr}
namespace Rd
variable {Q:VK}
end Rd
end
end L2
namespace L2
open PySem PySem.Spec PyProof.Rows
noncomputable def Its (x:Str):It:=⟨fun i _=>i<x.cps.size,fun i H v H'=>H'=H∧∃c,x.cps[i]? =some c∧v= .str ⟨#[c]⟩,fun i _=>x.cps.size≤i⟩
theorem Zjv{P:Program}{w:World}{K:PySem.W.Frag}{tg:Expr}(it:Addr)(x:Str)(t:Tok)(ty:String)(hty:ty="str_ascii_iterator" ∨ty="str_iterator"):U1 P w K tg (Its x) [it] it (fun i h=>h.IsStrIter it ty x t i) where
 mem:=by simp
 obj:=fun i h st b hb=>by
  have e:b=it:=by simpa using hb
  subst e;obtain⟨o,e,c,d⟩:=st;exact⟨o,e,fun v z=>by rw[d] at z;cases z⟩
 keep:=fun i h h' st k=>let⟨o,ho,r⟩:=st;⟨o,k it (by simp) o ho,r⟩
 item:=by
  intro X hP hw hK hc i pins s σ H E I hf st hg;subst hP hw hK;obtain⟨f0,f1,f2,f3,f4,f5⟩:=hf it (by simp);have hi:i<x.cps.size:=hg;have fin:∀h':Heap,h'.IsStrIter it ty x t (i+1)→Heap.SameBut it s.heap h'→∃u,some (Value.str ⟨#[x.cps[i]]⟩ s.toks)=some u∧
    wpAny (model X.prog X.w) X.A (letOwnedTupleGo tg (.ref it) u) (fun _ s2=>∃y H',Inv X pins σ H' s2∧ZD y u∧(Its x).yld i H y H'∧s2.heap.IsStrIter it ty x t (i+1)∧∀b∈[it],H' b=none) E {s with heap:=h',toks:=s.toks+1}:=fun h' st' sb=>by
   have I1:Inv X pins σ H {s with heap:=h',toks:=s.toks+1}:=I.turned (t':=s.toks+1) (fun b o hb e=>(sb.2 b hb).trans e) f0 f1 f3 f4 f5;obtain⟨o,e,c,d⟩:=id st';refine⟨_,rfl,Zc2 (s:={s with heap:=h',toks:=s.toks+1}) e c d (by rcases hty with rfl|rfl<;>decide) ⟨.str ⟨#[x.cps[i]]⟩,H,I1,⟨_,rfl⟩,⟨rfl,x.cps[i],by simp[hi],rfl⟩,st',fun b hb=>(hf b hb).1⟩⟩
  rcases hty with rfl|rfl
  ·exact wpAny_pyNext_ascii_item st (c:=x.cps[i]) (by simp[hi]) fin
  ·exact wpAny_pyNext_wide_item st (c:=x.cps[i]) (by simp[hi]) fin
 done:=by
  intro X hP hw hK hc i pins s σ H E I hf st hg;subst hP hw hK;obtain⟨f0,f1,f2,f3,f4,f5⟩:=hf it (by simp);have hi:x.cps.size≤i:=hg;rcases hty with rfl|rfl
  ·exact wpAny_pyNext_ascii_end (I.ok.hd hc) st (by simp[hi]) fun h' eb=>⟨rfl,I.turned (t':=s.toks) (fun b o hb e=>eb b o hb e) f0 f1 f3 f4 f5⟩
  ·exact wpAny_pyNext_wide_end (I.ok.hd hc) st (by simp[hi]) fun h' eb=>⟨rfl,I.turned (t':=s.toks) (fun b o hb e=>eb b o hb e) f0 f1 f3 f4 f5⟩
 self:=fun _ _ _ _ _ st h=>by
  rcases hty with rfl|rfl
  ·exact wpAny_pyIter_striter_ascii st h
  ·exact wpAny_pyIter_striter_wide st h
section
variable {X:Cx}{tg:Expr}
noncomputable def Zlx (tl:TE):TI:=fun σ H R=>tl σ H fun x H1=>∃y,x= .str y∧R (Its y) H1
theorem Zls{l:Expr}{tl:TE}(hl:PE X l tl):PI X tg l (Zlx tl):=by
 intro pins s σ H R I h;refine thn (hl pins s σ H _ I h) fun v s1 ⟨x,H1,I1,r1,q1⟩=>?_;obtain⟨y,e,q⟩:=q1;subst e;obtain⟨t,rfl⟩:=r1;have fin:∀ty:String,(ty="str_ascii_iterator" ∨ty="str_iterator")→PIE X pins σ tg R (.ref s1.heap.objs.size) {s1 with heap:=s1.heap.push {cls:= .type ty,data:= .fields #[.str y t,.int 0 0]}}:=fun ty hty=>by
  refine⟨s1.heap.objs.size,[s1.heap.objs.size],_,_,H1,rfl,I1.kept (t':=s1.toks) fun b o e=>Heap.get?_push_of_some _ e,Zjv _ y t ty hty,⟨_,Heap.get?_push_size _ rfl,rfl,rfl⟩,fun b hb=>?_,q⟩;have e:b=s1.heap.objs.size:=by simpa using hb
  subst e;exact I1.fpOk (Nat.le_refl _) (I1.hok.fresh (Nat.le_refl _))
 cases ha:y.cps.all (· <128)
 ·exact wpAny_pyIter_wide ha (fin _ (.inr rfl))
 ·exact wpAny_pyIter_ascii ha (fin _ (.inl rfl))
theorem Zh2{x:Str}{H:Hp}:Walks (Its x) x.cps.size (fun i=> .str ⟨#[x.cps.getD i 0]⟩) H:=
 ⟨fun _ _ _ h=>h,fun H' i v H2 _ hi ⟨e,c,hc,hv⟩=>⟨e,by rw[hv];simp[Array.getD,hi] at hc⊢;exact hc.symm⟩,fun _ _=>Nat.le_refl _⟩
noncomputable def rLeS:R2:=fun x y H Q=>∃i j,x= .str i∧y= .str j∧Q (.bl (!decide (j.cps.toList<i.cps.toList))) H
theorem Zes:OpR X (compareOp .LtE) rLeS:=by
 intro pins s σ H x y v u Q I rx ry h;obtain⟨i,j,rfl,rfl,q⟩:=h;obtain⟨t,rfl⟩:=rx;obtain⟨t',rfl⟩:=ry;exact PySem.P.le_str ⟨.bl _,H,I,rfl,q⟩
theorem ZcY{s:Shared}:∀{bs:List Bool}{us:List Value},Zw (bs.map V.bl) us→us=bs.map Value.bool
 | [],_,r=>by cases r;rfl
 |b::bs,_,r=>by
  cases r with
  |cons r1 r2=>
   have e:_=Value.bool b:=r1;rw[e,ZcY (s:=s) r2]
   rfl
theorem Zkf{s:Shared}{h':Heap}{o:Obj}(hk:∀b x,b∉[s.heap.objs.size]→(s.heap.push o).get? b=some x→h'.get? b=some x):∀b x,s.heap.get? b=some x→h'.get? b=some x:=
 fun b x e=>hk b x (fun hm=>by rw[List.mem_singleton.mp hm] at e;exact Nat.lt_irrefl _ (Heap.lt_size e)) (Heap.get?_push_of_some _ e)
theorem Zhi(bs:List Bool):((List.range bs.length).all fun i=>(bs[i]?).getD true)=bs.all id:=by
 rw[Bool.eq_iff_iff,List.all_eq_true,List.all_eq_true]
 constructor
 ·intro h b hb;obtain⟨i,hi,rfl⟩:=List.getElem_of_mem hb;have:=h i (List.mem_range.mpr hi);simpa[List.getElem?_eq_getElem hi] using this
 ·intro h i hi;have hi':=List.mem_range.mp hi;simp only[List.getElem?_eq_getElem hi',Option.getD_some];exact h _ (List.getElem_mem hi')
theorem Zii(hc:X.calm=true):Yz X (.builtin "all") (fun xs H Q=>∃(p:Addr)(bs:List Bool),xs=[.ref p]∧SqL X.K H p (bs.map V.bl)∧Q (.bl (bs.all id)) H):=by
 intro pins s σ H xs us Q I r h;obtain⟨p,bs,rfl,hq,q⟩:=h;obtain⟨u,rfl,rx⟩:=Vl r;cases rx;obtain⟨its,rv,pl,hz⟩:=I.list hq;have ev:=ZcY (s:=s) rv;subst ev;have hl:=pl.isList;have hlt:p<s.heap.objs.size:=by obtain⟨_,e,_⟩:=hl;exact Heap.lt_size e
 refine call_all_walk (wpAny_pyIter_list hl ?_);refine⟨s.heap.objs.size,[s.heap.objs.size,p],[s.heap.objs.size],(bs.map Value.bool).toArray.size,_,_,fun i=>(bs[i]?).getD true,rfl,PySem.Walks.list (A:=X.A.in1) (I.ok.hd hc) _ p (Nat.ne_of_lt hlt) (bs.map Value.bool).toArray,
  ⟨⟨_,Heap.get?_push_size _ rfl,rfl,rfl⟩,hl.push _⟩,fun i v s' Q' E' hP hQ=>?_,fun h' tk hk=>?_⟩
 ·have hP':(bs.map Value.bool)[i]? =some v:=by simpa using hP
  rw[List.getElem?_map] at hP';cases e:bs[i]? with
  |none=>rw[e] at hP';cases hP'
  |some b=>
   rw[e] at hP';cases hP';have hQ':Q' ((bs[i]?).getD true) s':=hQ;rw[e] at hQ';exact wpAny_truthy_bool hQ'
 ·have e:((List.range (bs.map Value.bool).toArray.size).all fun i=>(bs[i]?).getD true)=bs.all id:=by
   rw[List.size_toArray,List.length_map];exact Zhi bs
  rw[e];exact⟨.bl (bs.all id),H,I.kept (Zkf hk),rfl,q⟩
end
end L2
namespace L2
open PySem PySem.Spec PyProof.Rows
structure Zhu(K:PySem.W.Frag)(x qual:Str)(st:Stmt)(dT:Addr)(f:Addr)(fd:FuncData):Prop where
 ex:∃(oc:Value)(od:Option Addr)(kV doc pm:Value)(an:Option Addr)(cdv ct:Value)(osl:Array (Option Value)),
  fd=PySem.W.fnOf x qual (VB st) (WL st) (Zj st) (.ref dT) kV doc pm an cdv ct∧K.lookup f=some ⟨oc,od,.func fd,osl⟩∧PySem.W.codeIn K cdv qual=true
 kp:PySem.W.keepIn K (.ref f)=true
section
variable {P:Program}{w:World}{K:PySem.W.Frag}{mg:Str→Option Value}{base:Heap}
theorem Zhu.okX{x qual:Str}{st:Stmt}{dT f:Addr}{fd:FuncData}{N ps:List Str}{k:Nat}{sp:Sp}(F:Zhu K x qual st dT f fd)(S:Zs N ps (Zj st))(len:∀vs H Q E,sp vs H Q E→vs.length=ps.length)
  (hbody:∀(cdv:Value)(A:Around)(outer:List Env)(s:Shared)(H:Hp)(vs:List V)(Q:VK)(E:XK),YB k (A.deeper (envOfC qual (Zj st) s.heap.objs.size f cdv))→sp vs H Q E→
   ∃t,PSs (cxX P w K mg base N qual (Zj st) f cdv A outer s H E) (WL st) t∧t {nx:=fun _ H'=>Q .non H',rt:=Q} (start N vs) H):Zl P w K mg base (CXX P w) (k+1) f fd ps sp:=by
 obtain⟨oc,od,kV,doc,pm,an,cdv,ct,osl,rfl,lk,hcd⟩:=F.ex;exact ZjE lk hcd S len fun A outer s H vs Q E hr hsp=>hbody cdv A outer s H vs Q E hr hsp
theorem Zkq{x qual:Str}{st:Stmt}{dT f:Addr}{oc:Value}{od an:Option Addr}{osl:Array (Option Value)}{kV doc pm cdv ct:Value}(l:K.lookup f=some ⟨oc,od,.func (PySem.W.fnOf x qual (VB st) (WL st) (Zj st) (.ref dT) kV doc pm an cdv ct),osl⟩)
  (c:PySem.W.codeIn K cdv qual=true) (k:PySem.W.keepIn K (.ref f)=true):Zhu K x qual st dT f (PySem.W.fnOf x qual (VB st) (WL st) (Zj st) (.ref dT) kV doc pm an cdv ct):=⟨⟨oc,od,kV,doc,pm,an,cdv,ct,osl,rfl,l,c⟩,k⟩
theorem Zk1{h₀:Heap}{x:Str}{C:Addr}{bmB:List Value}{newId:String}(X:K.In h₀)(g:h₀.Ns mainGlobals mg)(e:PySem.W.nsIn K mainGlobals x=some (some (.ref C)))(q:PySem.W.excIn K C bmB newId=true):OwnCls x C bmB newId mg h₀:=by
 refine⟨PySem.W.mg_of X g e,?_⟩;unfold PySem.W.excIn at q
 split at q
 ·rename_i dd cd sl ho
  split at q
  ·rename_i C' bm k0 k1 k2 k3 n k5 hm hs;simp only[Bool.and_eq_true,beq_iff_eq,Bool.not_eq_true'] at q;obtain⟨⟨⟨⟨⟨rfl,rfl⟩,hdel⟩,ht⟩,hok⟩,hni⟩:=q;obtain⟨nm,bs,mro,ns,qn,hd,sn,sub,ab,col,del⟩:=cd;dsimp only at hm hdel hok hni;subst hm hdel;have hsl:sl=#[k0,k1,k2,k3,some (.builtin n),k5]:=by
    obtain⟨l⟩:=sl;simp only at hs;rw[hs]
   subst hsl;exact⟨bm,ns,nm,qn,bs,hd,sn,sub,ab,col,dd,k0,k1,k2,k3,k5,_,X _ _ ho,.of_isNs (PySem.W.isNs_of_in X hok),PySem.W.nsMap_none_of_in X hok hni,PySem.W.tail_of_in X ht⟩
  ·cases q
 ·cases q
section
variable {N:List Str}{qual:Str}{scope:Scope}{f:Addr}{cd:Value}{A:Around}{outer:List Env}{s₀:Shared}{H₀:Hp}{E:XK}
theorem YK{x:Str}{np cpos pos:Pos}{e₀:Expr}{rest:List Expr}{t:TA}{C:Addr}{B newId initId:String}{bm:List Value}(e:PySem.W.nsIn K mainGlobals x=some (some (.ref C)))(q:PySem.W.excIn K C bm newId=true)(FB:ExcBaseFacts B newId initId bm)
  (hg:Gl (cxX P w K mg base N qual scope f cd A outer s₀ H₀ E) x) (ha:PA (cxX P w K mg base N qual scope f cd A outer s₀ H₀ E) (e₀::rest) t)
  (he:starEach (e₀::rest) (cxX P w K mg base N qual scope f cd A outer s₀ H₀ E).env=(false,eval e₀ (cxX P w K mg base N qual scope f cd A outer s₀ H₀ E).env)::starEach rest (cxX P w K mg base N qual scope f cd A outer s₀ H₀ E).env:=by rfl)
  (hplain:(backTo cpos (starEach rest (cxX P w K mg base N qual scope f cd A outer s₀ H₀ E).env)).any (·.1)=false:=by rfl) (hdb:(x==("__debug__" :Str))=false:=by decide):
  PS (cxX P w K mg base N qual scope f cd A outer s₀ H₀ E) (.Raise (some (.Call (.Name x np) (e₀::rest) [] cpos)) none pos) (Zfr (.ref C) E t):=by
 intro pins s σ H D I h;exact Zi2 (Zk1 I.ok.mod.kin I.ok.mod.glob e q) FB hg ha he hplain hdb pins s σ H D I h
end
end
section
variable {X:Cx}
noncomputable def rSlS:V→Option Int→Option Int→Hp→VK→Prop:=fun x lo hi H Q=>∃z,x= .str z∧z.length≤sizeLine∧Q (.str (Txt.slice z lo hi)) H
theorem ZlI:SlR X rSlS:=by
 intro pins s σ H x v vl vu lo hi sl Q I rx hs pl pu h;obtain⟨z,rfl,hz,q⟩:=h;obtain⟨t,rfl⟩:=rx;refine⟨"str",_,F.slot_str_getitem.lookup,typeIs_str _ _ _,?_⟩;have fin:∀l u:Option (Int×Tok),l.map (·.1)=lo→u.map (·.1)=hi→partValue l=vl→partValue u=vu→wpAny (model X.prog X.w) X.A (getItem (.str z t) (.ref sl)) (EP X pins σ Q) X.xe s:=fun l u e1 e2 e3 e4=>by
  obtain⟨o,ho,hc,hd⟩:=hs;subst e1 e2 e3 e4;exact wpAny_getItem_str_slice (l:=l) (u:=u) (st:=none) ⟨o,ho,hc,hd⟩ rfl (post_val_or_str ⟨Nat.le_trans (Txt.slice_le z _ _) hz,fun t' k=>⟨.str _,H,I.tok k,⟨_,rfl⟩,q⟩⟩)
 cases pl with
 |none=>
  cases pu with
  |none=>exact fin none none rfl rfl rfl rfl
  |int j t'=>exact fin none (some (j,t')) rfl rfl rfl rfl
 |int i ti=>
  cases pu with
  |none=>exact fin (some (i,ti)) none rfl rfl rfl rfl
  |int j t'=>exact fin (some (i,ti)) (some (j,t')) rfl rfl rfl rfl
noncomputable def Zhf (K:PySem.W.Frag):V→Option Int→Option Int→Hp→VK→Prop:=fun x lo hi H Q=>Zk4 K x lo hi H Q∨(ZlU K x lo hi H Q∨rSlS x lo hi H Q)
theorem Zm3:SlR X (Zhf X.K):=ZkB.or (Zk5.or ZlI)
end
structure ZaO(K:PySem.W.Frag)(C:Addr)(fs:List Str):Prop where
 out:∀f∈fs,Wk K C f
theorem ZaO.get{K:PySem.W.Frag}{C:Addr}{fs:List Str}{f:Str}(h:ZaO K C fs)(m:fs.contains f=true):Wk K C f:=h.out f (by simpa using m)
namespace Rd
section
variable {σ:St}{H:Hp}{Q:VK}{D:Vf}{K:PySem.W.Frag}
theorem slL{a:Addr}{xs:List V}{lo hi:Option Int}(h:SqL K H a xs)(q:∀p,H p=none→Q (.ref p) (upd H p (.lst (Y3 xs lo hi)))):Zhf K (.ref a) lo hi H Q:= .inl ⟨a,xs,rfl,h,q⟩
theorem sl{r:V→Option Int→Option Int→Hp→VK→Prop}{te:TE}{tl th:TO}(h:te σ H fun x H1=>tl σ H1 fun l H2=>th σ H2 fun u H3=>r x l u H3 Q):tSl r te tl th σ H Q:=h
theorem Zlp{Q:Option Int→Hp→Prop}(h:Q none H):tNoPart σ H Q:=h
theorem Znb{te:TE}{Q:Option Int→Hp→Prop}(h:te σ H fun x H1=>∃i,x= .int i∧Q (some i) H1):ZjF te σ H Q:=h
theorem Zmj{i:Int}{C:Int→Prop}(h:C i):∃j,V.int i= .int j∧C j:=⟨i,rfl,h⟩
theorem Zna{ta:TE}{f:Str}(h:ta σ H fun x H1=>∃a C dx fs v,x= .ref a∧H1 a=some (.ins C dx fs)∧Cls K C∧Wk K C f∧fs.lookup f=some v∧Q v H1):Zi1 K ta f σ H Q:=h
theorem fld{a C dx:Addr}{fs:List (Str×V)}{f:Str}{v:V}{G:V→Prop}(h:H a=some (.ins C dx fs))(c:Cls K C)(n:Wk K C f)(l:fs.lookup f=some v)(q:G v):
  ∃a' C dx fs v,V.ref a= .ref a'∧H a'=some (.ins C dx fs)∧Cls K C∧Wk K C f∧fs.lookup f=some v∧G v:=⟨a,C,dx,fs,v,rfl,h,c,n,l,q⟩
theorem Zl3{C:Addr}{m:Str}{sp:Sp}{dvs:List V}{E:XK}{ta:TE}{t:TA}(h:ta σ H fun x H1=>∃a dx fs,x= .ref a∧H1 a=some (.ins C dx fs)∧fs.lookup m=none∧t σ H1 fun vs H2=>sp (x::(vs++dvs)) H2 Q E):Zhk C m sp dvs E ta t σ H Q:=h
theorem Zmh{C:Addr}{sp:Sp}{dvs:List V}{E:XK}{t:TA}(h:t σ H fun vs H1=>∀x dx,H1 x=none→H1 dx=none→dx≠x→
  sp (.ref x::(vs++dvs)) (upd (upd H1 dx (.own x)) x (.ins C dx [])) (fun v H2=>v= .non∧Q (.ref x) H2) E):ZgS C sp dvs E t σ H Q:=h
theorem ZmL{ta tv:TE}{f:Str}(h:tv σ H fun y H1=>ta σ H1 fun x H2=>∃a C dx fs,x= .ref a∧H2 a=some (.ins C dx fs)∧Cls K C∧Wk K C f∧fs.length<1000∧D.nx σ (upd H2 a (.ins C dx (YX f y fs)))):ZiQ K ta tv f D σ H:=h
theorem Zl8{a C dx:Addr}{fs fs':List (Str×V)}{f:Str}{y:V}(h:H a=some (.ins C dx fs))(c:Cls K C)(n:Wk K C f)(l:fs.length<1000)(e:YX f y fs=fs')(q:D.nx σ (upd H a (.ins C dx fs'))):
  ∃a' C dx fs,V.ref a= .ref a'∧H a'=some (.ins C dx fs)∧Cls K C∧Wk K C f∧fs.length<1000∧D.nx σ (upd H a' (.ins C dx (YX f y fs))):=⟨a,C,dx,fs,rfl,h,c,n,l,by rw[e];exact q⟩
theorem Zms{cls:Value}{E:XK}{t:TA}(h:t σ H fun vs H1=>vs.length≤sizeLine∧E cls none H1):Zfr cls E t D σ H:=h
theorem ZkF{v:V}{G:Prop}(q:G):[v].length≤sizeLine∧G:=⟨by show 1≤sizeLine;decide,q⟩
theorem Zmd{te:TE}{R:It→Hp→Prop}(h:te σ H fun x H1=>∃a,x= .ref a∧(∃xs,SqL K H1 a xs)∧R (Itl K a) H1):ZhE K te σ H R:=h
theorem Zmz{te:TE}{R:It→Hp→Prop}(h:te σ H fun x H1=>∃y,x= .str y∧R (Its y) H1):Zlx te σ H R:=h
theorem Zmi{y:Str}{G:Str→Prop}(h:G y):∃z,V.str y= .str z∧G z:=⟨y,rfl,h⟩
theorem Zmv{ix:List Nat}{wi:TI}{g:TG}{tc:TT}{te:TE}(h:wi σ H fun J H1=>∀p,H1 p=none→
 ∃W:Nat→Nat→List V→St→Hp→Prop,(∃m,W 0 m [] (emb ix σ) (upd H1 p (.lst [])))∧∀i m ys σ' H',W i m ys σ' H'→
  (J.stop i H'∧Q (.ref p) H')∨(J.go i H'∧∀x H2,J.yld i H' x H2→g x σ' H2 fun σ2 H3=>tc σ2 H3 fun b H4=>
   if b=true then te σ2 H4 fun v H5=>H5 p=some (.lst ys)∧ys.length<sizeLine∧∃m',m'<m∧W (i+1) m' (ys++ [v]) σ2 (upd H5 p (.lst (ys++ [v])))
   else ∃m',m'<m∧W (i+1) m' ys σ2 H4)):Zhj ix wi g tc te σ H Q:=h
theorem Zng{Q:Bool→Hp→Prop}(h:Q true H):tAll σ H Q:=h
theorem lk0{f:Str}{v:V}{r:List (Str×V)}:((f,v)::r).lookup f=some v:=by simp
theorem lk1{f g:Str}{v:V}{o:Option V}{r:List (Str×V)}(n:(f==g)=false)(h:r.lookup f=o):((g,v)::r).lookup f=o:=by rw[List.lookup_cons,n];exact h
theorem lkN{f:Str}:([]:List (Str×V)).lookup f=none:=rfl
theorem pf1{f g:Str}{v x:V}{r r':List (Str×V)}(n:(g==f)=false)(h:YX f v r=r'):YX f v ((g,x)::r)=(g,x)::r':=by
 have:¬g=f:=by simpa using n
 simp[YX,this,h]
theorem pfN{f:Str}{v:V}:YX f v []=[(f,v)]:=rfl
end
end Rd
end L2
namespace L2
open PySem PySem.Spec PyProof.Rows
theorem Zgv(x:Int)(ys:List Int):inV (.int x) (ys.map V.int)=decide (x∈ys):=by
 induction ys with
 |nil=>rfl
 |cons y ys ih=>
  have e:inV (.int x) ((y::ys).map V.int)=(eqV (.int y) (.int x)||inV (.int x) (ys.map V.int)):=rfl;rw[e,ih];show((y==x)||decide (x∈ys))=decide (x∈y::ys)
  by_cases h:x=y
  ·subst h;simp
  ·have:(y==x)=false:=by simpa using fun z=>h z.symm
   rw[this];simp[h]
theorem Zd9(ys:List Int):(ys.map V.int).all UM=true:=by
 rw[List.all_map,List.all_eq_true];intro _ _
 rfl
namespace Rd
section
variable {H:Hp}{Q:VK}{K:PySem.W.Frag}
theorem inI{p:Addr}{x:Int}{ys:List Int}(h:SqL K H p (ys.map V.int))(q:Q (.bl (decide (x∈ys))) H):rIn K false (.int x) (.ref p) H Q:=⟨p,_,rfl,.inl h,rfl,Zd9 ys,by rw[Zgv];exact q⟩
theorem Znc{p:Addr}{x:Int}{ys:List Int}(h:SqL K H p (ys.map V.int))(q:Q (.bl (!decide (x∈ys))) H):rIn K true (.int x) (.ref p) H Q:=⟨p,_,rfl,.inl h,rfl,Zd9 ys,by rw[Zgv];exact q⟩
theorem ifD{c A B:Prop}[Decidable c](a:c→A)(b:¬c→B):if decide c=true then A else B:=by
 by_cases h:c
 ·exact ifP h (a h)
 ·exact ifN h (b h)
theorem Zmx{p:Addr}{bs:List Bool}{G:List Bool→Prop}(h:SqL K H p (bs.map V.bl))(q:G bs):∃(p':Addr)(bs':List Bool),[V.ref p]=[.ref p']∧SqL K H p' (bs'.map V.bl)∧G bs':=⟨p,bs,rfl,h,q⟩
theorem leS{x y:Str}(q:Q (.bl (!decide (y.cps.toList<x.cps.toList))) H):rLeS (.str x) (.str y) H Q:=⟨x,y,rfl,rfl,q⟩
theorem Zmf{σ:St}{r r':R2}{ta tb tc:TE}(h:ta σ H fun x H1=>tb σ H1 fun y H2=>r x y H2 fun z H3=>∃k,z= .bl k∧(if k=true then tc σ H3 fun w' H4=>r' y w' H4 Q else Q (.bl false) H3)):Zim r r' ta tb tc σ H Q:=h
end
end Rd
end L2
namespace L2
open PySem PySem.Spec PyProof.Rows
theorem Wz.off{A A':List Addr}{H:Hp}{q:Addr}(g:Wz A A' H)(n:q∉A)(h:H q≠none):q∉A':=fun z=>(g q z).elim n h
namespace Rd
section
variable {H:Hp}{Q:VK}{K:PySem.W.Frag}
theorem Zlm{z:Str}{i:Int}{c:Nat}(h:z.length≤sizeLine)(e:atI z.cps.toList i=some c)(q:Q (.str ⟨#[c]⟩) H):rIx K (.str z) (.int i) H Q:= .inr (.inr ⟨z,i,c,rfl,rfl,h,e,q⟩)
theorem ZkW{a:Addr}{xs:List V}{G:Addr→Prop}(h:SqL K H a xs)(q:G a):∃a',V.ref a= .ref a'∧(∃xs,SqL K H a' xs)∧G a':=⟨a,rfl,⟨xs,h⟩,q⟩
theorem ZlZ{j:Int}{G:Int→Prop}(h1: -(2 ^ 62)≤j)(h2:j<2 ^ 62)(q:G j):∃k,[V.int j]=[.int k]∧ -(2 ^ 62)≤k∧k<2 ^ 62∧G k:=⟨j,rfl,h1,h2,q⟩
theorem Zni{i j:Int}{G:Int→Int→Prop}(q:G i j):∃i' j',[V.int i,.int j]=[.int i',.int j']∧G i' j':=⟨i,j,rfl,q⟩
end
end Rd
end L2
namespace L2
open PySem PySem.Spec PyProof.Rows
noncomputable def hid (H:Hp) (r:Addr):Hp:=fun b=>if b=r then none else H b
theorem V2{H:Hp}{r:Addr}:hid H r r=none:=by unfold hid;rw[if_pos rfl]
theorem WJ{H:Hp}{r b:Addr}(h:b≠r):hid H r b=H b:=by unfold hid;rw[if_neg h]
theorem Yk{H:Hp}{r:Addr}:Zd (hid H r) H:=fun b o e=>by
 by_cases h:b=r
 ·rw[h,V2] at e;cases e
 ·rw[WJ h] at e;exact e
end L2
namespace L2
open PySem PySem.Spec PyProof.Rows
theorem Zfj:∀ns:List Int,PyData.canLayAll0 (ns.map PyData.int)=true
 | []=>by simp[PyData.canLayAll0]
 |n::ns=>by
  have:=Zfj ns;simp[PyData.canLayAll0,PyData.canLay0] at this⊢;exact this
theorem Zam(ns:List Int):(PyData.list (ns.map PyData.int)).canLay0=true:=by
 have:=Zfj ns;simp[PyData.canLay0];simpa using this
theorem Za7:∀ns:List Int,PyData.depthAll (ns.map PyData.int)≤1
 | []=>by simp[PyData.depthAll]
 |n::ns=>by
  have:=Za7 ns;simp[PyData.depthAll,PyData.depth] at this⊢;exact this
theorem Zgh(ns:List Int):(PyData.list (ns.map PyData.int)).depth≤60:=by
 have:=Za7 ns;simp only[PyData.depth];omega
end L2
namespace L2
open PySem PySem.Spec PyProof.Rows
namespace Rd
section
variable {H:Hp}{Q:VK}{K:PySem.W.Frag}
theorem ZbF{p q:Addr}{ns:List Int}(h1:SqL K H p (ns.map V.int))(h2:SqL K H q (ns.map V.int))(k:Q (.bl false) H):rOr rNe (Uw K true) (.ref p) (.ref q) H Q:=
 Zb3 (Y0.ints h1) (Y0.ints h2) (Zam ns) (Zam ns) (Zgh ns) (by rw[SeqAt.eqv_refl _ (Zam ns)];exact k)
end
end Rd
end L2
namespace L2
open PySem PySem.Spec PyProof.Rows
namespace Rd
section
variable {σ:St}{H:Hp}{Q:VK}{K:PySem.W.Frag}{J:St→Prop}{E:XK}{sp:Sp}{dvs:List V}{t:TA}{ta:TE}
theorem Zl1(hj:J σ)(h:t σ H fun vs H1=>sp (vs++dvs) H1 Q E):Ze3 J sp dvs E t σ H Q:=⟨hj,h⟩
end
end Rd
end L2
namespace L2
open PySem PySem.Spec PyProof.Rows
namespace Rd
section
variable {σ:St}{H:Hp}
theorem Znd{to ti:TE}{t:ZgN}{v:V}{Q:St→Hp→Prop}(h:to σ H fun o H1=>ti σ H1 fun i H2=>t o i v H2 fun H3=>Q σ H3):ZkM to ti t v σ H Q:=h
theorem ZmI{p:Addr}{xs:List V}{k:Int}{v:V}{Q:Hp→Prop}(hp:H p=some (.lst xs))(h0:0≤k)(h1:k<xs.length)(q:Q (upd H p (.lst (xs.set k.toNat v)))):rSetL (.ref p) (.int k) v H Q:=
 ⟨p,xs,k,k.toNat,rfl,rfl,hp,by unfold ixN;rw[if_pos h0,if_pos h1],q⟩
end
end Rd
section
variable {X hs:List Int}{i:Nat}{v u:Int}
end
end L2
namespace L2
open PySem PySem.Spec PyProof.Rows
noncomputable def only(q:Addr) (o:HO):Hp:=fun a=>if a=q then some o else none
theorem Um{q:Addr}{o:HO}:only q o q=some o:=by unfold only;rw[if_pos rfl]
theorem Ut{q:Addr}{o:HO}{H:Hp}(h:H q=some o):Zd (only q o) H:=fun b x e=>by
 unfold only at e
 by_cases c:b=q
 ·rw[if_pos c] at e;rw[c];cases e;exact h
 ·rw[if_neg c] at e;cases e
end L2
namespace L2
open PySem PySem.Spec PyProof.Rows
section
variable {X:Cx}{K:PySem.W.Frag}
theorem ZM(e:X.K=K):OpR X (binaryOp .Add) (rOr ZgY (rOr ZeL (rOr rCat (ZeM K)))):=e▸Zki
theorem Wd(e:X.K=K)(hu:X.A.units+64<cLine):OpR X (compareOp .Eq) (rOr rEq (Uw K false)):=e▸Zk3 hu
theorem Yr(e:X.K=K)(hu:X.A.units+64<cLine):OpR X (compareOp .NotEq) (rOr rNe (Uw K true)):=e▸Zk8 hu
theorem Zu(e:X.K=K):IxR X (rIx K):=e▸Zld
theorem ZbQ(e:X.K=K):SlR X (Zhf K):=e▸Zm3
noncomputable def Zly (K:PySem.W.Frag):List V→Hp→VK→Prop:=fun xs H Q=>∃x n,xs=[x]∧ZcO K x H n∧Q (.int n) H
theorem YC(e:X.K=K):Yz X (.builtin "len") (Zly K):=e▸ZjA
theorem Zk0(e:X.K=K):OpR X (compareOp .In) (rIn K false):=e▸Zh3
theorem ZdV(e:X.K=K):OpR X (compareOp .NotIn) (rIn K true):=e▸ZfP
theorem Ya{e:Expr}{ta:TE}{f:Str}{pos:Pos}(ek:X.K=K)(he:PE X e ta)(hb:attributeBase e f X.env (eval e X.env)=eval e X.env):PE X (.Attribute e f pos) (Zi1 K ta f):=ek▸ZkZ he hb
theorem ZaL{o value:Expr}{ta tv:TE}{f:Str}{pos pos':Pos}(ek:X.K=K)(ha:PE X o ta)(hv:PE X value tv)(hs:swapsWith value (some (.Attribute o f pos')) pos.line X.env=pure false):
  PS X (.Assign [.Attribute o f pos'] value pos) (ZiQ K ta tv f):=ek▸ZlB ha hv hs
theorem Z0{tg l:Expr}{tl:TE}(ek:X.K=K)(hl:PE X l tl):PI X tg l (ZhE K tl):=ek▸Zkh hl
noncomputable def ZkG (K:PySem.W.Frag) (ta:TE):TT:=fun σ H Q=>ta σ H fun x H'=>∃k,Zfq K x H' k∧Q k H'
theorem YM{a:Expr}{ta:TE}(ek:X.K=K)(ha:PE X a ta)(he:∀whole,isTrue a X.env whole=(do let v←whole;standAt a.pos;holding [v] (truthy v))):PT X a (ZkG K ta):=ek▸Zjt ha he
noncomputable def ZkH (K:PySem.W.Frag):List V→Hp→VK→Prop:=fun xs H Q=>∃x n t b,xs=[x,.ty n]∧WC K H x t∧PySem.W.kitOne K t (.type n)=some b∧Q (.bl b) H
theorem Zhe(e:X.K=K):Yz X (.builtin "isinstance") (ZkH K):=e▸Zf5
noncomputable def ZgD (K:PySem.W.Frag):List V→Hp→VK→Prop:=fun xs H Q=>∃p ys,xs=[.ref p]∧(SqL K H p ys∨SqT K H p ys)∧∀l,H l=none→Q (.ref l) (upd H l (.lst ys))
theorem ZcT(e:X.K=K):Yz X (.type "list") (ZgD K):=e▸ZfF
noncomputable def Zlg (K:PySem.W.Frag):List V→Hp→VK→Prop:=fun xs H Q=>∃p ys,xs=[.ref p]∧((SqL K H p ys∧∀l,H l=none→Q (.ref l) (upd H l (.tup ys)))∨(SqT K H p ys∧Q (.ref p) H))
theorem Zj2(e:X.K=K):Yz X (.type "tuple") (Zlg K):=e▸Zey
noncomputable def ZjP (K:PySem.W.Frag):List V→Hp→VK→Prop:=fun xs H Q=>∃(p:Addr)(bs:List Bool),xs=[.ref p]∧SqL K H p (bs.map V.bl)∧Q (.bl (bs.all id)) H
theorem Zc5(e:X.K=K)(hc:X.calm=true):Yz X (.builtin "all") (ZjP K):=e▸Zii hc
theorem Zkt{o:Expr}{to:TE}{name:Str}{apos cpos:Pos}{T id:String}{r:V→List V→Hp→VK→Prop}(ek:X.K=K)(pa:PlainAttrs T)(slot:Slot T name id)(hty:typeOf (.builtin id)=pure (.type "method_descriptor"))(hm:MtR X id r)(ho:PE X o to)
  (hbase:attributeBase o name X.env (eval o X.env)=eval o X.env:=by rfl) (hline:(apos.endLine==cpos.line)=true:=by rfl):PE X (.Call (.Attribute o name apos) [] [] cpos) (ZiY K T r to):=ek▸ZkS pa slot hty hm ho hbase hline
theorem WK{o e:Expr}{es:List Expr}{to:TE}{t:TA}{name:Str}{apos cpos:Pos}{T id:String}{r:V→List V→Hp→VK→Prop}(ek:X.K=K)(pa:PlainAttrs T)(slot:Slot T name id)(hty:typeOf (.builtin id)=pure (.type "method_descriptor"))(hm:MtR X id r)(ho:PE X o to)(ha:PA X (e::es) t)
  (hbase:attributeBase o name X.env (eval o X.env)=eval o X.env:=by rfl)
  (hfew:((backTo cpos (starEach (e::es) X.env)).all (fun x=>!x.1)&&(backToKw cpos (keywordEach [] X.env)).all (fun x=>x.1.isSome)
   &&decide ((e::es).length+([]:List Keyword).length+(if([]:List Keyword).isEmpty then 0 else 1)<30))=true:=by rfl)
  (hline:(apos.endLine==cpos.line)=true:=by rfl) (hs:starEach (e::es) X.env=(false,eval e X.env)::starEach es X.env:=by rfl) (hplain:(backTo cpos (starEach es X.env)).any (·.1)=false:=by rfl):
  PE X (.Call (.Attribute o name apos) (e::es) [] cpos) (tBM K T r to t):=ek▸Zl9 pa slot hty hm ho ha hbase hfew hline hs hplain
theorem Y6{es:List Expr}{k:Nat}{t:TGs}{n:Nat}{pos:Pos}(ek:X.K=K)(hc:X.calm=true)(h:PGs X es t)(hn:(assignEach es X.env).length=n:=by rfl)(hst:(assignEach es X.env).findIdx? (·.1)=none:=by rfl):
  PG X (.Tuple es k pos) (Zjh K n t):=ek▸ZkV hc h hn hst
end
namespace Rd
section
variable {σ:St}{H:Hp}{Q:VK}{K:PySem.W.Frag}
theorem tru{ta:TE}{Q:Bool→Hp→Prop}(h:ta σ H fun x H'=>∃k,Zfq K x H' k∧Q k H'):ZkG K ta σ H Q:=h
theorem ZmZ{xs:List V}(h:∃x n,xs=[x]∧ZcO K x H n∧Q (.int n) H):Zly K xs H Q:=h
theorem Zm4{xs:List V}(h:∃x n t b,xs=[x,.ty n]∧WC K H x t∧PySem.W.kitOne K t (.type n)=some b∧Q (.bl b) H):ZkH K xs H Q:=h
theorem ZmR{xs:List V}(h:∃(p:Addr)(bs:List Bool),xs=[.ref p]∧SqL K H p (bs.map V.bl)∧Q (.bl (bs.all id)) H):ZjP K xs H Q:=h
theorem ZdD{p:Addr}{xs:List V}(h:SqL K H p xs)(q:∀l,H l=none→Q (.ref l) (upd H l (.lst xs))):ZgD K [.ref p] H Q:=⟨p,xs,rfl,.inl h,q⟩
end
end Rd
end L2
namespace L2
open PySem PySem.Spec PyProof.Rows
section
variable {X:Cx}
noncomputable def rDIn:R2:=fun y x H Q=>∃a o,x= .ref a∧Uu H a y o∧Q (.bl o.isSome) H
noncomputable def rDNotIn:R2:=fun y x H Q=>∃a o,x= .ref a∧Uu H a y o∧Q (.bl (!o.isSome)) H
theorem Zit(hu:X.A.units+64<cLine):OpR X (compareOp .In) rDIn:=by
 intro pins s σ H x y v u Q I rx ry h;obtain⟨a,o,rfl,g,q⟩:=h;cases ry;exact ZmB (by omega) I g rx fun s' I'=>⟨.bl o.isSome,H,I',rfl,q⟩
theorem Zeg(hu:X.A.units+64<cLine):OpR X (compareOp .NotIn) rDNotIn:=by
 intro pins s σ H x y v u Q I rx ry h;obtain⟨a,o,rfl,g,q⟩:=h;cases ry;exact Zkn (by omega) I g rx fun s' I'=>⟨.bl (!o.isSome),H,I',rfl,q⟩
noncomputable def rIxD:R2:=fun x y H Q=>∃a v,x= .ref a∧Uu H a y (some v)∧Q v H
theorem ZdQ(hu:X.A.units+64<cLine):IxR X rIxD:=by
 intro value slice pins s σ H x y v u Q I rx ry h hs;obtain⟨a,z,rfl,g,q⟩:=h;cases rx;exact tail_any (Zgd I g) PySem.F.slot_dict_getitem.lookup (ZiD (by omega) I g ry fun w' s' I' rw'=>⟨z,H,I',rw',q⟩) hs
noncomputable def rSetD:V→V→V→Hp→(Hp→Prop)→Prop:=fun o i v H Q=>∃a H4,o= .ref a∧ZdF H a i v H4∧Q H4
theorem Za1(hu:X.A.units+64<cLine):Zjg X rSetD:=by
 intro pins s σ H o i v ov iv u Q I ro ri rv h;obtain⟨a,H4,rfl,g,q⟩:=h;cases ro;exact ZiH (by omega) I g ri rv fun s' I'=>⟨H4,I',q⟩
theorem ZhG{P:Program}{w:World}{k:Key}{u:Value}(h:(ZQ P w).is k u=true):ZD (kV k) u:=by
 cases k with
 |inl i=>exact Value.isInt_shape h
 |inr x=>exact Value.isStrOf_shape h
theorem ZdB:∀{xs:List V}{us:List Value},us.length=xs.length→(∀(j:Nat)(v:V)(u:Value),xs[j]? =some v→us[j]? =some u→ZD v u)→Zw xs us
 | [],[],_,_=> .nil
 |x::xs,u::us,hl,h=> .cons (h 0 x u rfl rfl) (ZdB (by simpa using hl) fun j v w e1 e2=>h (j+1) v w (by simpa using e1) (by simpa using e2))
 | [],_::_,hl,_=>by simp at hl
 |_::_,[],hl,_=>by simp at hl
theorem KV.at{kvs:List (Key×V)}{vs:List (Key×Value)}(r:KV kvs vs):∀{j:Nat}{k:Key}{x:Value},vs[j]? =some (k,x)→∃v,kvs[j]? =some (k,v):=by
 unfold KV at r
 induction r with
 |nil=>intro j k x e;simp at e
 | @cons p q ps qs h t ih=>
  intro j k x e;cases j with
  |zero=>
   simp at e;subst e;have h1:p.1=k:=h.1;exact⟨p.2,by simp[←h1]⟩
  |succ j=>
   obtain⟨v,z⟩:=ih (j:=j) (k:=k) (x:=x) (by simpa using e);exact⟨v,by simpa using z⟩
noncomputable def rListD:List V→Hp→VK→Prop:=fun xs H Q=>∃a kvs,xs=[V.ref a]∧H a=some (.dK kvs)∧∀l,H l=none→Q (.ref l) (upd H l (.lst (kvs.map fun kv=>kV kv.1)))
theorem ZgX(hc:X.calm=true):Yz X (.type "list") rListD:=by
 intro pins s σ H xs us Q I r h;obtain⟨a,kvs,rfl,ha,q⟩:=h;obtain⟨u,rfl,ru⟩:=Vl r;cases ru;obtain⟨z,hd,vs,rel,dd⟩:=ZaX I.hok ha;obtain⟨ep,hat⟩:=dd.dictAt;refine PySem.W.kdl_call (PySem.W.kdl_dict (knd:=ZQ X.prog X.w) (kvs:=vs) (ep:=ep) hd) (I.ok.hd hc) hat (by rw[←rel.length];exact z) fun h' tk acc c hk hD hacc=>?_;refine⟨.ref s.heap.objs.size,_,I.laid (a:=s.heap.objs.size) (o:= .lst (kvs.map fun kv=>kV kv.1)) (t':=tk) hk (Nat.le_refl _) ⟨by rw[List.length_map];exact z,acc.toList,c,?_,by simpa using hD⟩,rfl,q _ (I.hok.fresh (Nat.le_refl _))⟩;refine ZdB (by rw[Array.length_toList,hacc.1,List.length_map,rel.length]) fun j v u e1 e2=>?_;obtain⟨k,x,hx,hk'⟩:=hacc.2 j u (by rw[←Array.getElem?_toList];exact e2);obtain⟨v',hv'⟩:=rel.at hx;rw[List.getElem?_map,hv'] at e1;cases e1;exact ZhG hk'
end
section
variable {X:Cx}{pins:List (Addr×Obj)}{σ:List (Option V)}{H H':Hp}{s:Shared}{h':Heap}
theorem Inv.turnedL{t':Nat}{fp:List Addr}(I:Inv X pins σ H s)(k:∀b o,b∉fp→s.heap.get? b=some o→h'.get? b=some o)(hf:∀b∈fp,WY X pins H b):Inv X pins σ H {s with heap:=h',toks:=t'}:=by
 have nit:∀b u,H b=some u→b∉fp:=fun b u e z=>by rw[(hf b z).1] at e;cases e
 refine I.step (g':=s.gens) (d':=s.drawn) (ch:=fp) (fun b hb=>?_) (fun b o _ _ hc e _=>k b o hc e) (fun b o _ _ hc e _=>⟨o.slots,k b o hc e⟩) (fun _ _ _ _ n=>n)
  (fun b o hc e=>⟨o,k b o hc e⟩) (fun _ _ e=>e) (fun _ _ _ e=>e) (fun b ps e=>⟨#[],by rw[e];simp⟩) (fun m hm=>?_) (fun b u e=>?_) I.bare
 ·obtain⟨f0,f1,f2,f3,f4,f5⟩:=hf b hb;exact⟨f3,f1,f4,f5⟩
 ·obtain⟨o,es,ep,ho,r⟩:=hm;exact⟨o,es,ep,k _ o (fun z=>(hf _ z).2.1 rfl) ho,r⟩
 ·refine(I.hok b u e).stay (fun c v hc q=>k c v ?_ q) (fun _ q=>q) fun _ _ q=>q;rcases hc with z|z
  ·rw[z];exact nit b u e
  ·exact nit c _ z
theorem Inv.turnedNew{t':Nat}{fp:List Addr}{T:Addr}{o:HO}(I:Inv X pins σ H s)(k:∀b o,b∉fp→s.heap.get? b=some o→h'.get? b=some o)(hf:∀b∈fp,WY X pins H b)(hp:s.heap.objs.size≤T)(new:ZO X.prog X.w (upd H T o) h' T o):
  Inv X pins σ (upd H T o) {s with heap:=h',toks:=t'}:=by
 have J:Inv X pins σ H {s with heap:=h',toks:=t'}:=I.turnedL k hf;have hn:=I.hok.fresh hp;obtain⟨f0,f1,f2,f3,f4,f5⟩:=I.fpOk hp hn;refine Inv.step (s:={s with heap:=h',toks:=t'}) (h':=h') (g':=s.gens) (d':=s.drawn) (t':=t') (ch:=[T]) J (fun b hb=>?_) (fun b o _ _ hc e _=>e) (fun b o _ _ hc e _=>⟨o.slots,e⟩) (fun b o hc e n=>?_)
  (fun b o hc e=>⟨o,e⟩) (fun b xs e=>?_) (fun b o u e=>?_) (fun b ps e=>⟨#[],?_⟩) (fun m hm=>hm) (fun b u e=>?_) I.bare
 ·have e:b=T:=by simpa using hb
  subst e;exact⟨f3,f1,f4,f5⟩
 ·rw[Zh (fun z=>hc (by simp[z]))];exact n
 ·rw[Zh (Zy e hn)];exact e
 ·rw[Zh (Zy e hn)];exact e
 ·rw[Zh (Zy e hn)];simpa using e
 ·by_cases hb:b=T
  ·subst hb;rw[Ze] at e;cases e;exact new
  ·rw[Zh hb] at e;exact(J.hok b u e).stay (fun c v _ q=>q) (fun c q=>by rw[Zh (Zy q hn)];exact q) fun c xs q=>by rw[Zh (Zy q hn)];exact q
end
noncomputable def Ite (K:PySem.W.Frag) (a:Addr):It:=
 ⟨fun i H=>∃xs x,SqL K H a xs∧xs[i]? =some x,fun i H v H'=>∃t x,H t=none∧v= .ref t∧H'=upd H t (.tup [.int i,x])∧∀xs,SqL K H a xs→xs[i]? =some x,fun i H=>∃xs,SqL K H a xs∧xs.length≤i⟩
theorem Zh7{P:Program}{w:World}{K:PySem.W.Frag}{elts:List Expr}{k1:Nat}{pos:Pos}(a e it:Addr)(hei:e≠it):U1 P w K (.Tuple elts k1 pos) (Ite K a) [e,it] e (fun i h=>(∃old,IsEnum h e it i old)∧h.IsListIter it a i) where
 mem:=by simp
 obj:=fun i h st b hb=>by
  obtain⟨⟨old,he⟩,o,h1,h2,h3⟩:=st;rcases List.mem_cons.mp hb with rfl|hb
  ·exact⟨_,he,fun v z=>by
    have z':Data.fields _=Data.cell v:=z;cases z'⟩
  ·rw[List.mem_singleton.mp hb];exact⟨o,h1,fun v z=>by rw[h3] at z;cases z⟩
 keep:=fun i h h' st k=>⟨let⟨old,he⟩:=st.1;⟨old,k e (by simp) _ he⟩,st.2.at fun o q=>k it (by simp) o q⟩
 item:=by
  intro X hP hw hK hc i pins s σ H E I hf st hg;subst hP hw hK;obtain⟨xs,x,hq,hx⟩:=hg;obtain⟨its,rv,p,hz⟩:=I.list hq;obtain⟨u,hu,ru⟩:=rv.get hx;obtain⟨⟨old,he⟩,hit⟩:=st;refine wpAny_pyNext_enum_item he hit p.isList (x:=u) (by simpa using hu) hei fun h' ho hit' hT hsz hk=>?_;have hfr:=I.hok.fresh (Nat.le_refl s.heap.objs.size);have helt:e<s.heap.objs.size:=Heap.lt_size he;have hilt:it<s.heap.objs.size:=by obtain⟨_,y,_⟩:=hit;exact Heap.lt_size y
  refine⟨_,rfl,wpAny_letOwnedTupleGo_enum ho fun h2 he2 hs2=>?_⟩;have hT2:h2.get? s.heap.objs.size=some {cls:= .type "tuple",data:= .seq #[.int i s.toks,u]}:=hs2.extBut _ _ (Nat.ne_of_gt helt) hT;have I1:Inv X pins σ (upd H s.heap.objs.size (.tup [.int i,x])) {s with heap:=h2,toks:=s.toks+1}:=
   I.turnedNew (fp:=[e,it]) (fun b o hb q=>by
    have n1:b≠e:=fun z=>hb (by simp[z]);have n2:b≠it:=fun z=>hb (by simp[z]);exact hs2.extBut b o n1 (hk b o n1 n2 q)) hf (Nat.le_refl _) ⟨by show 2≤sizeLine;decide,[.int i s.toks,u],.cons ⟨_,rfl⟩ (.cons ru .nil),_,hT2,rfl,_,rfl⟩
  refine⟨.ref s.heap.objs.size,_,I1,rfl,⟨_,x,hfr,rfl,rfl,fun ys hy=>by rw[I.list_inj hy hq];exact hx⟩,⟨⟨_,he2⟩,hit'.at fun o q=>hs2.extBut _ _ hei.symm q⟩,fun b hb=>?_⟩;have nb:b≠s.heap.objs.size:=by
   rcases List.mem_cons.mp hb with rfl|hb
   ·exact Nat.ne_of_lt helt
   ·rw[List.mem_singleton.mp hb];exact Nat.ne_of_lt hilt
  rw[Zh nb];exact(hf b hb).1
 done:=by
  intro X hP hw hK hc i pins s σ H E I hf st hg;subst hP hw hK;obtain⟨xs,hq,hx⟩:=hg;obtain⟨its,rv,p,hz⟩:=I.list hq;obtain⟨⟨old,he⟩,hit⟩:=st;have hl:=rv.length;exact wpAny_pyNext_enum_end (I.ok.hd hc) he hit p.isList (by simp;omega) fun h' eb=>⟨rfl,I.turnedL (t':=s.toks) (fp:=[e,it]) (fun b o hb q=>eb b o (fun z=>hb (by simp[z])) q) hf⟩
 self:=fun _ _ _ _ _ st h=>wpAny_pyIter_enum st.1.choose_spec h
section
variable {X:Cx}
noncomputable def ZjW (K:PySem.W.Frag) (ta:TA):TI:=fun σ H R=>ta σ H fun vs H1=>∃a,vs=[.ref a]∧(∃xs,SqL K H1 a xs)∧R (Ite K a) H1
theorem ZaA{K:PySem.W.Frag}{a:Expr}{ta:TA}{p pos tpos:Pos}{elts:List Expr}{k1:Nat}(ek:X.K=K)(hg:Gl X "enumerate")(hm:X.mg "enumerate" =none)(ha:PA X [a] ta)(hs:starEach [a] X.env=[(false,eval a X.env)]:=by rfl):
  PI X (.Tuple elts k1 tpos) (.Call (.Name "enumerate" p) [a] [] pos) (ZjW K ta):=by
 subst ek;intro pins s σ H R I h;refine Call_ (Zac I hg hm boot_enumerate (PyProof.Rows.callWith_type1 (thn (ha pos pins s σ H _ I h) fun us s1 ⟨vs,H1,I1,r1,q1⟩=>?_) hs rfl));obtain⟨b,rfl,⟨xs,hq⟩,q⟩:=q1;obtain⟨u,rfl,ru⟩:=Vl r1;cases ru;obtain⟨its,rv,pl,hz⟩:=I1.list hq;refine call_enumerate_list pl.isList fun h' he hit hsz hk=>?_;refine wpAny_pyIter_enum he ?_;have I2:Inv X pins σ H1 {s1 with heap:=h'}:=I1.kept (t':=s1.toks) hk;refine⟨s1.heap.objs.size+1,[s1.heap.objs.size+1,s1.heap.objs.size],_,_,H1,rfl,I2,Zh7 b _ _ (Nat.succ_ne_self _),⟨⟨_,he⟩,hit⟩,fun c hc=>?_,q⟩;rcases List.mem_cons.mp hc with rfl|hc
 ·exact I1.fpOk (Nat.le_succ _) (I1.hok.fresh (Nat.le_succ _))
 ·rw[List.mem_singleton.mp hc];exact I1.fpOk (Nat.le_refl _) (I1.hok.fresh (Nat.le_refl _))
end
end L2
namespace L2
open PySem PySem.Spec PyProof.Rows
noncomputable def rLenD:List V→Hp→VK→Prop:=fun xs H Q=>∃a kvs,xs=[V.ref a]∧H a=some (.dK kvs)∧Q (.int kvs.length) H
theorem Zg8{X:Cx}:Yz X (.builtin "len") rLenD:=Zh9
noncomputable def ZbA (n:Nat) (ix:List Nat) (σ:St):St:=List.replicate n none++ix.map fun j=>(σ[j]?).join
noncomputable def ZfE (n:Nat) (ix:List Nat) (wi:TI) (g:TG) (tc:TT) (te:TE):TE:=fun σ H Q=>wi σ H fun J H1=>∀p,H1 p=none→
 ∃W:Nat→Nat→List V→St→Hp→Prop,(∃m,W 0 m [] (ZbA n ix σ) (upd H1 p (.lst [])))∧∀i m ys σ' H',W i m ys σ' H'→
  (J.stop i H'∧Q (.ref p) H')∨(J.go i H'∧∀x H2,J.yld i H' x H2→g x σ' H2 fun σ2 H3=>tc σ2 H3 fun b H4=>
   if b=true then te σ2 H4 fun v H5=>H5 p=some (.lst ys)∧ys.length<sizeLine∧∃m',m'<m∧W (i+1) m' (ys++ [v]) σ2 (upd H5 p (.lst (ys++ [v])))
   else ∃m',m'<m∧W (i+1) m' ys σ2 H4)
section
variable {X:Cx}
theorem Zgo{pins:List (Addr×Obj)}{σ:St}{H:Hp}{s:Shared}{sc:Scope}{x:Str}{xs:List Str}{zs:List Str}{ix:List Nat}{cl:List (Str×Addr)}{fp:List Addr}{h₁:Heap}{tk:Nat}
  (S:YU X sc x zs ix) (I:Inv X pins σ H s) (hcl:∀y c,cl.lookup y=some c→X.env.cells.lookup y=some c) (hhas:∀y,(y,NameKind.free)∈sc.names→∃c,cl.lookup y=some c)
  (hfp:∀b∈fp,WY X pins H b∧b<s.heap.objs.size) (hns:h₁.Ns s.heap.objs.size fun _=>none) (hk:∀b o,s.heap.get? b=some o→h₁.get? b=some o):
  Inv (Zm X sc cl s.heap.objs.size (xs++zs) s H fp) [] (ZbA xs.length ix σ) H {s with heap:=h₁,toks:=tk}:=by
 have sub:∀b∈frs X.stack,b∈X.env.locals::X.fs:=I.stkSub;have nfs:∀b∈fp,b∉frs X.stack:=fun b hb z=>by
  obtain⟨⟨_,f1,f2,_⟩,_⟩:=hfp b hb;rcases List.mem_cons.mp (sub b z) with e|e
  ·exact f1 e
  ·exact f2 e
 have cut:∀y,(Zm X sc cl s.heap.objs.size (xs++zs) s H fp).env.kindOf y=some .cell∨(Zm X sc cl s.heap.objs.size (xs++zs) s H fp).env.kindOf y=some .free→∃c,cl.lookup y=some c:=fun y hy=>by
  have q:∃k,(relabel sc X.env).names.lookup y=some k∧(k= .cell∨k= .free):=by
   rcases hy with hy|hy
   ·exact⟨_,hy,.inl rfl⟩
   ·exact⟨_,hy,.inr rfl⟩
  obtain⟨k,e,hk⟩:=q;obtain⟨k',e',q⟩:=Ws e;have:k'= .free:=by
   rcases q with q|⟨q,_⟩
   ·rcases hk with z|z
    ·exact absurd (q.symm.trans z) (S.nocell _ (Wl e'))
    ·exact q.symm.trans z
   ·exact q
  subst this;exact hhas y (Wl e')
 refine⟨⟨I.ok.mod,S.kind,I.ok.glob,I.ok.blt,Nat.le_refl _,fun y z c h1 h2=>I.ok.inj y z c (hcl _ _ h1) (hcl _ _ h2),cut,fun y c hf _=>?_,I.ok.hd,I.ok.frames,.inl rfl,fun b hb=>?_,I.bs,Nat.le_trans I.ok.bsz I.sz,fun b o e hb=>?_,nfs,I.stack,I.stkFree⟩,
  rfl,I.bare,Un.kept hk,⟨_,hns,fun i y v h1 h2 h3=>?_⟩,fun y c h=>?_,I.hok.fresh (Nat.le_refl _),fun y c h=>I.freeC y c (hcl y c h),fun p hp=>absurd (show p∈([]:List (Addr×Obj)) from hp) (by simp),I.hok.kept hk,?_⟩
 ·exact absurd (show false=true from hf) (by decide)
 ·obtain⟨⟨f0,f1,f2,f3,f4,f5⟩,hl⟩:=hfp b hb;exact⟨Nat.ne_of_lt hl,fun y c h=>f4 y c (hcl y c h)⟩
 ·obtain⟨⟨f0,f1,f2,f3,f4,f5⟩,hl⟩:=hfp b hb;rcases f3 with z|z
  ·exact I.ok.noex b o e z
  ·exact absurd (Nat.lt_of_lt_of_le (Heap.lt_size e) (Nat.le_trans I.ok.bsz z)) (Nat.lt_irrefl _)
 ·
  have hlen:xs.length≤i:=by
   rcases Nat.lt_or_ge i xs.length with z|z
   ·have h2':(List.replicate xs.length none++ix.map fun j=>(σ[j]?).join)[i]? =some (some v):=h2;rw[List.getElem?_append_left (by rw[List.length_replicate];exact z),List.getElem?_replicate,if_pos z] at h2';cases h2'
   ·exact z
  ·obtain⟨i,rfl⟩:∃i',i=xs.length+i':=⟨i-xs.length,by omega⟩;have h1':zs[i]? =some y:=by
    have h1':(xs++zs)[xs.length+i]? =some y:=h1;rw[List.getElem?_append_right (Nat.le_add_right _ _),Nat.add_sub_cancel_left] at h1';exact h1'
   have h2':(ix.map fun j=>(σ[j]?).join)[i]? =some (some v):=by
    have h2':(List.replicate xs.length none++ix.map fun j=>(σ[j]?).join)[xs.length+i]? =some (some v):=h2;rw[List.getElem?_append_right (by rw[List.length_replicate];exact Nat.le_add_right _ _),List.length_replicate,Nat.add_sub_cancel_left] at h2';exact h2'
   have ha:(ix.map fun j=>X.N[j]?)[i]? =some (some y):=by rw[S.at_,List.getElem?_map,h1'];rfl
   rw[List.getElem?_map] at h2' ha;cases e:ix[i]? with
   |none=>rw[e] at h2';cases h2'
   |some j=>
    rw[e] at h2' ha;have ha':X.N[j]? =some y:=Option.some.inj ha;have hj:(σ[j]?).join=some v:=Option.some.inj h2';have hσ:σ[j]? =some (some v):=by
     cases q:σ[j]? with
     |none=>rw[q] at hj;cases hj
     |some o=>rw[q] at hj;exact congrArg some hj
    obtain⟨m,hn,hl⟩:=I.loc;have hfr:=S.zfree y (List.mem_of_getElem? h1');have hkind:=S.free _ (Wl hfr) rfl;have hv:Vis X.env.scope y:=by
     rcases hkind with z|z
     ·exact .inr (.inl z)
     ·exact .inr (.inr z)
    obtain⟨u,r,q⟩:=hl j y v ha' hσ hv;refine⟨u,r,?_⟩;rcases q with⟨kl,_⟩|⟨_,c,hc,hcell⟩
    ·have kl':X.env.kindOf y=some .local:=kl;rcases hkind with z|z<;>(rw[z] at kl';cases kl')
    ·obtain⟨c',hc'⟩:=hhas y (Wl hfr);have ec:c'=c:=by have:=hcl y c' hc';rw[hc] at this;exact(Option.some.inj this).symm
     subst ec;refine .inr ⟨?_,c',hc',?_⟩
     ·have hvis:Vis (relabel sc X.env) y:=h3;rcases hvis with z|z|z
      ·obtain⟨k',e',q⟩:=Ws z;rw[hfr] at e';cases e';rcases q with q|⟨_,q⟩<;>cases q
      ·exact .inl z
      ·exact .inr z
     ·obtain⟨o,ho,hd⟩:=hcell;exact⟨o,hk _ _ ho,hd⟩
 ·obtain⟨v,o,ho,hd⟩:=I.cell y c (hcl y c h);exact⟨v,o,hk _ _ ho,hd⟩
 ·show(List.replicate xs.length none++ix.map fun j=>(σ[j]?).join).length=(xs++zs).length;have:=congrArg List.length S.at_;simp only[List.length_map] at this;simp only[List.length_append,List.length_replicate,List.length_map,this]
theorem Zcw{pins:List (Addr×Obj)}{σ:St}{H:Hp}{s:Shared}{sc:Scope}{x:Str}{xs:List Str}{zs:List Str}{ix:List Nat}{cl:List (Str×Addr)}{fp:List Addr}{it:Addr}{tn:Nat→Heap→Prop}{J:It}
  {elt tg iter:Expr} {ifs:List Expr} {pos:Pos} {g:TG} {tc:TT} {te:TE} {Q:VK} {E:Value→Shared→Prop} {RR:Value→Addr→Result→Shared→Prop}
  (hc:X.calm=true) (S:YU X sc x zs ix) (I:Inv X pins σ H s) (hcl:∀y c,cl.lookup y=some c→X.env.cells.lookup y=some c) (hhas:∀y,(y,NameKind.free)∈sc.names→∃c,cl.lookup y=some c)
  (T:U1 X.prog X.w X.K tg J fp it tn) (st:tn 0 s.heap) (hfp:∀b∈fp,WY X pins H b)
  (hin:∀C s H,PG (Zm X sc cl C (xs++zs) s H fp) tg g∧PIf (Zm X sc cl C (xs++zs) s H fp) ifs tc∧PE (Zm X sc cl C (xs++zs) s H fp) elt te)
  (hq:∀p,H p=none→∃W:Nat→Nat→List V→St→Hp→Prop,(∃m,W 0 m [] (ZbA xs.length ix σ) (upd H p (.lst [])))∧∀i m ys σ' H',W i m ys σ' H'→
   (J.stop i H'∧Q (.ref p) H')∨(J.go i H'∧∀x H2,J.yld i H' x H2→g x σ' H2 fun σ2 H3=>tc σ2 H3 fun b H4=>
    if b=true then te σ2 H4 fun v H5=>H5 p=some (.lst ys)∧ys.length<sizeLine∧∃m',m'<m∧W (i+1) m' (ys++ [v]) σ2 (upd H5 p (.lst (ys++ [v])))
    else ∃m',m'<m∧W (i+1) m' ys σ2 H4))
  (hR:∀acc C f s',ZgI X pins σ Q acc C s'→RR acc C (.ok f) s'):
  wpAny (model X.prog X.w) X.A (newList []) (fun acc s₃=>wpAny (model X.prog X.w) X.A (newFunctionEnv sc X.env.globals cl [] X.env.qual none .none (some X.env)) (fun cenv s₄=>
   codeAny (model X.prog X.w) X.A (.compStart (.ListComp elt [⟨tg,iter,ifs,0⟩] sc pos) 0 (.ref it) acc {cenv with scope:=relabel sc X.env}) (RR acc cenv.locals) s₄) E s₃) E s:=by
 refine wpAny_newObj_type (wpAny_newFunctionEnv S.nocell (by intro y hy;simp at hy) (fun h₁ hns₁ hsb₁=>?_) S.kind);have I3:Inv X pins σ (upd H s.heap.objs.size (.lst [])) {s with heap:=s.heap.push {cls:= .type "list",dict:=none,data:= .seq ([]:List Value).toArray}}:=I.lnew (its:=[]) (ys:=[]) (t':=s.toks) .nil (Nat.zero_le _);dsimp only at hns₁ hsb₁⊢;obtain⟨W,⟨m0,w0⟩,turn⟩:=hq s.heap.objs.size (I.hok.fresh (Nat.le_refl _));have lt:∀b∈fp,b<s.heap.objs.size:=fun b hb=>by
  obtain⟨o,e,_⟩:=T.obj 0 s.heap st b hb;exact Heap.lt_size e
 have up:∀b∈fp,∀o,(upd H s.heap.objs.size o) b=H b:=fun b hb o=>Zh (Nat.ne_of_lt (lt b hb));have kp:∀b o,(s.heap.push {cls:= .type "list",dict:=none,data:= .seq ([]:List Value).toArray}).get? b=some o→h₁.get? b=some o:=fun b o e=>
  hsb₁.extBut b o (Nat.ne_of_lt (Heap.lt_size e)) (Heap.get?_push_of_some _ e)
 have f3:∀b∈fp,WY X pins (upd H s.heap.objs.size (.lst [])) b∧b<(s.heap.push {cls:= .type "list",dict:=none,data:= .seq ([]:List Value).toArray}).objs.size:=fun b hb=>by
  obtain⟨q0,q⟩:=hfp b hb;refine⟨⟨(up b hb _).trans q0,q⟩,?_⟩;rw[Heap.size_push];exact Nat.lt_succ_of_lt (lt b hb)
 generalize hS3:({s with heap:=s.heap.push {cls:= .type "list",dict:=none,data:= .seq ([]:List Value).toArray}}:Shared)=s3 at I3;have hH3:s.heap.push {cls:= .type "list",dict:=none,data:= .seq ([]:List Value).toArray}=s3.heap:=by rw[←hS3]
 rw[hH3] at kp f3 hns₁⊢;have st3:tn 0 h₁:=T.keep 0 _ _ st fun b _ o e=>kp b o (by rw[←hH3];exact Heap.get?_push_of_some _ e);have J0:Inv (Zm X sc cl s3.heap.objs.size (xs++zs) s3 (upd H s.heap.objs.size (.lst [])) fp) [] (ZbA xs.length ix σ) (upd H s.heap.objs.size (.lst [])) {s3 with heap:=h₁,toks:=s3.toks}:=
  Zgo S I3 hcl hhas f3 hns₁ kp
 obtain⟨hg,hif,he⟩:=hin s3.heap.objs.size s3 (upd H s.heap.objs.size (.lst []));have fpo:∀{H':Hp},(∀b∈fp,H' b=none)→∀b∈fp,WY (Zm X sc cl s3.heap.objs.size (xs++zs) s3 (upd H s.heap.objs.size (.lst [])) fp) [] H' b:=fun{H'} hn b hb=>
  ⟨hn b hb,(J0.ok.exf b hb).1,J0.ok.exfs b hb,.inl hb,(J0.ok.exf b hb).2,fun p hp=>absurd (show p∈([]:List (Addr×Obj)) from hp) (by simp)⟩
 have loop:∀s4:Shared,s4={s3 with heap:=h₁,toks:=s3.toks}→
   codeAny (model X.prog X.w) X.A (.compLoop (.ListComp elt [⟨tg,iter,ifs,0⟩] sc pos) 0 (.ref it) (.ref s.heap.objs.size) (compEnvC sc cl s3.heap.objs.size X.env)) (RR (.ref s.heap.objs.size) s3.heap.objs.size) s4:=by
  rintro s4 rfl;refine ZbD (fun n s'=>∃i ys σ' H',Inv (Zm X sc cl s3.heap.objs.size (xs++zs) s3 (upd H s.heap.objs.size (.lst [])) fp) [] σ' H' s'∧tn i s'.heap∧(∀b∈fp,H' b=none)∧W i n ys σ' H') ?_ m0
   ⟨0,[],ZbA xs.length ix σ,_,J0,st3,fun b hb=>(f3 b hb).1.1,w0⟩
  rintro n s5 ⟨i,ys,σ5,H5,I5,st5,fr5,w5⟩;rcases turn i n ys σ5 H5 w5 with⟨stop,qn⟩|⟨go,step⟩
  ·refine thn (T.done (Zm X sc cl s3.heap.objs.size (xs++zs) s3 (upd H s.heap.objs.size (.lst [])) fp) rfl rfl rfl hc i [] s5 σ5 H5 _ I5 (fpo fr5) st5 stop) fun r s6 ⟨hr,I6⟩=>?_;subst hr;obtain⟨m6,hm6,_⟩:=I6.loc;refine hR _ _ _ _ ⟨s.heap.objs.size,H5,m6,rfl,hm6,?_,I3.fpOk (Nat.le_refl _) I6.free,qn⟩;exact I3.call' I6.os I6.base I6.hok I6.bare fun b hb=>by
    obtain⟨⟨f0,f1,f2,f3,f4,f5⟩,_⟩:=f3 b hb;exact⟨f3,f1,f4,f5⟩
  ·refine thn (T.item (Zm X sc cl s3.heap.objs.size (xs++zs) s3 (upd H s.heap.objs.size (.lst [])) fp) rfl rfl rfl hc i [] s5 σ5 H5 _ I5 (fpo fr5) st5 go) fun r s6 ⟨u,hr,h6⟩=>?_;subst hr;refine thn h6 fun _ s7 ⟨x7,H7,I7,r7,y7,st7,fr7⟩=>?_;have I7':=I7.pinned (fpo fr7) (T.obj _ _ st7);refine thn (hg _ s7 σ5 H7 x7 u _ I7' r7 (step x7 H7 y7)) fun _ s8 ⟨σ8,H8,I8,q8⟩=>?_;refine thn (hif _ s8 σ8 H8 _ I8 q8) fun b s9 ⟨H9,I9,q9⟩=>?_;have again:∀{ys':List V}{σ':St}{H':Hp}{m':Nat}{s':Shared},Inv (Zm X sc cl s3.heap.objs.size (xs++zs) s3 (upd H s.heap.objs.size (.lst [])) fp) ([]++ZaD fp s7.heap) σ' H' s'→W (i+1) m' ys' σ' H'→m'<n→
     ∃m,m<n∧∃i ys σ' H',Inv (Zm X sc cl s3.heap.objs.size (xs++zs) s3 (upd H s.heap.objs.size (.lst [])) fp) [] σ' H' s'∧tn i s'.heap∧(∀b∈fp,H' b=none)∧W i m ys σ' H':=fun{ys' σ' H' m' s'} Iz wz hm=>by
    refine⟨m',hm,i+1,ys',σ',H',Iz.unpinned,T.keep _ _ _ st7 fun b hb o e=>(Iz.pin (b,o) (List.mem_append_right _ (List.mem_append_right _ (W8 hb e)))).1,fun b hb=>?_,wz⟩;obtain⟨o,e,d⟩:=T.obj _ _ st7 b hb;exact(Iz.pin (b,o) (List.mem_append_right _ (List.mem_append_right _ (W8 hb e)))).2.1
   cases b with
   |false=>
    rw[if_neg Bool.false_ne_true] at q9⊢;obtain⟨m',hm,wz⟩:=q9;exact again I9 wz hm
   |true=>
    rw[if_pos rfl] at q9⊢;refine thn (he _ s9 σ8 H9 _ I9 q9) fun v s10 ⟨y,H10,I10,r10,hl,hz,m',hm,wz⟩=>?_;refine thn (Ym _ s10 σ8 H10 (.ref s.heap.objs.size) [y] (.ref s.heap.objs.size) [v] (fun z H'=>z= .non∧H'=upd H10 s.heap.objs.size (.lst (ys++ [y]))) I10 rfl (.cons r10 .nil) ⟨_,ys,y,rfl,rfl,hl,hz,rfl,rfl⟩) fun _ s11 ⟨z,H11,I11,_,_,e11⟩=>?_;subst e11;exact again I11 wz hm
 exact codeAny_compStart_list (loop _ (by subst hS3;rfl)) (T.self _ 0 _ _ _ st3 (loop _ (by subst hS3;rfl)))
theorem YY{elt tg iter:Expr}{ifs:List Expr}{sc:Scope}{pos:Pos}{x:Str}{xs:List Str}{zs:List Str}{ix:List Nat}{wi:TI}{g:TG}{tc:TT}{te:TE}
  (hc:X.calm=true) (S:YU X sc x zs ix) (hi:PI X tg iter wi)
  (hin:∀cl C s H fp,PG (Zm X sc cl C (xs++zs) s H fp) tg g∧PIf (Zm X sc cl C (xs++zs) s H fp) ifs tc∧PE (Zm X sc cl C (xs++zs) s H fp) elt te)
  (hs:∀x,foldedSetIterable iter X.env x=pure x:=by intro _;rfl):
  PE X (.ListComp elt [⟨tg,iter,ifs,0⟩] sc pos) (ZfE xs.length ix wi g tc te):=by
 intro pins s σ H Q I h;obtain⟨cl,hclos,hcl,hhas⟩:=VR I.ok S;rw[eval_ListComp];refine wpAny_comprehension_free (use:=none) rfl hs hclos S.kind S.names (thn (hi pins s σ H _ I h) fun v s1 h1=>thn h1 fun itv s2 h2=>?_);obtain⟨it,fp,tn,J,H2,e,I2,T,st2,f2,hq⟩:=h2;subst e;refine Zcw (RR:=fun acc C=>compPost (model X.prog X.w) X.A X.xe none (EP X pins σ Q) acc C) hc S I2 hcl hhas T st2 f2 (fun C s H=>hin cl C s H fp) hq fun acc C f s' h=>?_;obtain⟨p,H',m,rfl,hm,I',⟨g0,g1,g2,g3,g4,g5⟩,q⟩:=h;exact⟨m,hm,fun h' hb=>⟨.ref p,H',I'.turned (t':=s'.toks) (fun b o hne e=>(hb.2 b hne).trans e) g0 g1 g3 g4 g5,rfl,q⟩⟩
theorem ZcP{elt tg iter:Expr}{ifs:List Expr}{sc:Scope}{pos py spos:Pos}{x y:Str}{xs:List Str}{zs:List Str}{ix:List Nat}{wi:TI}{g:TG}{tc:TT}{te:TE}{j:Nat}
  (hc:X.calm=true) (S:YU X sc x zs ix) (hi:PI X tg iter wi)
  (hin:∀cl C s H fp,PG (Zm X sc cl C (xs++zs) s H fp) tg g∧PIf (Zm X sc cl C (xs++zs) s H fp) ifs tc∧PE (Zm X sc cl C (xs++zs) s H fp) elt te)
  (hN:X.N.Nodup) (hj:X.N[j]? =some y) (hy:Loc X.env.scope y)
  (hsw:swapsWith (.ListComp elt [⟨tg,iter,ifs,0⟩] sc pos) (some (.Name y py)) spos.line X.env=pure true:=by rfl)
  (hf:X.fn y=true∨X.env.scope.names.lookup y=some .local:=by first|exact .inl rfl|exact .inr rfl|assumption)
  (hs:∀x,foldedSetIterable iter X.env x=pure x:=by intro _;rfl):
  PS X (.Assign [.Name y py] (.ListComp elt [⟨tg,iter,ifs,0⟩] sc pos) spos) (Zfy (ZfE xs.length ix wi g tc te) (UI j)):=by
 intro pins s σ H D I h;obtain⟨cl,hclos,hcl,hhas⟩:=VR I.ok S;rw[exec_Assign_Name_used _ _ _ _ hsw];refine wpAny_bind (wpAny_standAt (wpAny_bind ?_));show wpAny _ X.A (do let _←comprehension (.ListComp elt [⟨tg,iter,ifs,0⟩] sc pos) sc X.env _ (newList []) false (eval iter X.env) (some (assign (.Name y py) X.env))) _ _ s;refine wpAny_bind (wpAny_mono (wpAny_comprehension_free (use:=some (assign (.Name y py) X.env)) (Q:=fun _ s'=>SP X pins D .next s') rfl hs hclos S.kind S.names
  (thn (hi pins s σ H _ I h) fun v s1 h1=>thn h1 fun itv s2 h2=>?_)) (fun _ s' hq=>wpAny_pure (wpAny_pure hq)) fun _ _ e=>e)
 obtain⟨it,fp,tn,J,H2,e,I2,T,st2,f2,hq⟩:=h2;subst e;refine Zcw (Q:=fun x H1=>UI j x σ H1 D.nx) (RR:=fun acc C=>compPost (model X.prog X.w) X.A X.xe (some (assign (.Name y py) X.env)) (fun _ s'=>SP X pins D .next s') acc C) hc S I2 hcl hhas T st2 f2 (fun C s H=>hin cl C s H fp) hq fun acc C f s' h=>?_;obtain⟨p,H',m,rfl,hm,I',⟨g0,g1,g2,g3,g4,g5⟩,q⟩:=h;show wpAny _ X.A (assign (.Name y py) X.env (.ref p)) _ _ _;refine wpAny_assign_Name (Zbw I' hN hj hy (show ZD (.ref p) (.ref p) from rfl) (fun s'' I'' ⟨c,hsb,hcc⟩=>?_) hf);have hne:C≠c:=by
  rcases hcc with z|z
  ·rw[z];exact g1
  ·exact Ne.symm (g4 _ _ z)
 exact⟨m,hm.sameBut hsb hne,fun h' hb=>⟨_,H',I''.turned (t':=s''.toks) (fun b o hne e=>(hb.2 b hne).trans e) g0 g1 g3 g4 g5,q⟩⟩
end
structure Us(J:It)(n:Nat)(y:Nat→Hp→V→Hp→Prop)(H:Hp):Prop where
 go:∀H' i,Zd H H'→i<n→J.go i H'
 yld:∀H' i x H2,Zd H H'→i<n→J.yld i H' x H2→y i H' x H2
 stop:∀H',Zd H H'→J.stop n H'
theorem Walks.y{J:It}{n:Nat}{f:Nat→V}{H:Hp}(w:Walks J n f H):Us J n (fun i H' v H2=>H2=H'∧v=f i) H:=⟨w.go,w.yld,w.stop⟩
theorem VF{K:PySem.W.Frag}{a:Addr}{xs:List V}{H:Hp}(h:SqL K H a xs):Us (Ite K a) xs.length (fun i H' v H2=>∃t,H' t=none∧v= .ref t∧H2=upd H' t (.tup [.int i,xs.getD i .non])) H:=
 ⟨fun H' i e hi=>⟨xs,xs[i],e.seq h,by simp[hi]⟩,fun H' i x H2 e hi ⟨t,z,ht,hv,h2,hz⟩=>⟨t,ht,hv,by
  have:=hz xs (e.seq h);rw[h2];simp[List.getD,this]⟩,fun H' e=>⟨xs,e.seq h,Nat.le_refl _⟩⟩
theorem Yc{own:Nat}{ix:List Nat}{g:TG}{tc:TT}{te:TE}{Q:Addr→Hp→Prop}{σ:St}{H:Hp}{J:It}{n:Nat}{y:Nat→Hp→V→Hp→Prop}(w:Us J n y H)(hn:n<sizeLine)(s:Nat→List (Option V))(hs:∀i,(s i).length=own)(c:Nat→Bool)(R:Nat→V→Hp→Prop)
  (mono:∀i v H1 H2,Zd H1 H2→R i v H1→R i v H2)
  (hg:∀i a H' v H2 (Kg:St→Hp→Prop),i<n→Zd H H'→y i H' v H2→a.length=own→(∀H3,Zd H' H3→Kg (s i++ix.map fun j=>(σ[j]?).join) H3)→g v (a++ix.map fun j=>(σ[j]?).join) H2 Kg)
  (hc:∀i H' (Kc:Bool→Hp→Prop),i<n→Zd H H'→(∀H4,Zd H' H4→Kc (c i) H4)→tc (s i++ix.map fun j=>(σ[j]?).join) H' Kc)
  (he:∀p i H' (Kc:VK),i<n→c i=true→H p=none→(∃ys,H' p=some (.lst ys))→Zd H H'→(∀v H5,Zd H' H5→R i v (hid H5 p)→Kc v H5)→te (s i++ix.map fun j=>(σ[j]?).join) H' Kc)
  (q:∀p H' ys,H p=none→Zd H H'→H' p=some (.lst ys)→Paired (fun i v=>R i v (hid H' p)) ((List.range n).filter c) ys→Q p H'):
  ∀p,H p=none→∃W:Nat→Nat→List V→St→Hp→Prop,(∃m,W 0 m [] (ZbA own ix σ) (upd H p (.lst [])))∧∀i m ys σ' H',W i m ys σ' H'→
   (J.stop i H'∧Q p H')∨(J.go i H'∧∀x H2,J.yld i H' x H2→g x σ' H2 fun σ2 H3=>tc σ2 H3 fun b H4=>
    if b=true then te σ2 H4 fun v H5=>H5 p=some (.lst ys)∧ys.length<sizeLine∧∃m',m'<m∧W (i+1) m' (ys++ [v]) σ2 (upd H5 p (.lst (ys++ [v])))
    else ∃m',m'<m∧W (i+1) m' ys σ2 H4):=by
 intro p hp;have hidS:∀{H1 H2:Hp},Zd H1 H2→Zd (hid H1 p) (hid H2 p):=fun{H1 H2} e b o z=>by
  by_cases h:b=p
  ·rw[h,V2] at z;cases z
  ·rw[WJ h] at z⊢;exact e b o z
 have hidU:∀{H1:Hp}{o:HO},Zd (hid H1 p) (hid (upd H1 p o) p):=fun{H1 o} b u z=>by
  by_cases h:b=p
  ·rw[h,V2] at z;cases z
  ·rw[WJ h] at z⊢;rw[Zh h];exact z
 refine⟨fun i m ys σ' H'=>m=n-i∧i≤n∧(∃a,a.length=own∧σ'=a++ix.map fun j=>(σ[j]?).join)∧Zd H H'∧H' p=some (.lst ys)∧Paired (fun i v=>R i v (hid H' p)) ((List.range i).filter c) ys,
  ⟨n,by simp,Nat.zero_le _,⟨List.replicate own none,List.length_replicate,rfl⟩,Zk hp,Ze,.nil⟩,?_⟩
 rintro i m ys σ' H' ⟨rfl,hi,⟨a,ha,rfl⟩,sm,hy,hl⟩
 by_cases hlt:i<n
 ·refine .inr ⟨w.go H' i sm hlt,fun x H2 yl=>?_⟩;have hlen:ys.length≤i:=by
   rw[←Paired.length hl];exact Nat.le_trans (List.length_filter_le _ _) (by simp)
  refine hg i a H' x H2 _ hlt sm (w.yld H' i x H2 sm hlt yl) ha fun H3 s3=>?_;refine hc i H3 _ hlt (sm.trans s3) fun H4 s4=>?_;have sm4:=(sm.trans s3).trans s4;have hy4:=s4 _ _ (s3 _ _ hy);have step:(List.range (i+1)).filter c=(List.range i).filter c++(if c i=true then[i] else[]):=by
   rw[List.range_succ,List.filter_append]
   congr 1
   by_cases h:c i=true<;>simp[h]
  have hl4:Paired (fun i v=>R i v (hid H4 p)) ((List.range i).filter c) ys:=Paired.mapP hl fun _ _ z=>mono _ _ _ _ (hidS (s3.trans s4)) z
  by_cases hci:c i=true
  ·rw[hci,if_pos rfl];refine he p i H4 _ hlt hci hp ⟨ys,hy4⟩ sm4 fun v H5 s5 r5=>⟨s5 _ _ hy4,by omega,n-(i+1),by omega,rfl,hlt,⟨s i,hs i,rfl⟩,(sm4.trans s5).new hp,Ze,?_⟩;rw[step,if_pos hci];exact Paired.snoc (Paired.mapP hl4 fun _ _ z=>mono _ _ _ _ ((hidS s5).trans hidU) z) (mono _ _ _ _ hidU r5)
  ·have hcf:c i=false:=by simpa using hci
   rw[hcf,if_neg Bool.false_ne_true];refine⟨n-(i+1),by omega,rfl,hlt,⟨s i,hs i,rfl⟩,sm4,hy4,?_⟩;rw[step,if_neg hci,List.append_nil];exact hl4
 ·have e:i=n:=by omega
  subst e;exact .inl ⟨w.stop H' sm,q p H' ys hp sm hy hl⟩
theorem Zb9{H:Hp}{p u:Addr}{o:HO}(h:∃ys,H p=some (.lst ys))(hu:H u=none):hid (upd H u o) p u=some o:=by
 have n:u≠p:=fun z=>by
  obtain⟨ys,e⟩:=h;rw[←z,hu] at e;cases e
 rw[WJ n,Ze]
theorem ZiG{H H':Hp}{p u:Addr}{o:HO}(h:∃ys,H p=some (.lst ys))(hu:H u=none)(hu':H' u=some o):hid H' p u=some o:=by
 have n:u≠p:=fun z=>by
  obtain⟨ys,e⟩:=h;rw[←z,hu] at e;cases e
 rw[WJ n,hu']
theorem ZfL{H H':Hp}{p b:Addr}{xs:List V}(h:∃ys,H p=some (.lst ys))(s:Zd H H')(e:H' b=some (.tup xs)):hid H' p b=some (.tup xs):=by
 have n:b≠p:=fun z=>by
  obtain⟨ys,e'⟩:=h;rw[z,s _ _ e'] at e;cases e
 rw[WJ n,e]
theorem UL{R:Nat→V→Hp→Prop}{H:Hp}{r:Nat→V}(h:∀i v,R i v H→v=r i):∀{is:List Nat}{ys:List V},Paired (fun i v=>R i v H) is ys→ys=is.map r
 |_,_,.nil=>rfl
 |_,_,.cons a t=>by rw[h _ _ a,UL h t];rfl
theorem Vy{J:It}{n:Nat}{y:Nat→Hp→V→Hp→Prop}{H0:Hp}(w:Us J n y H0){g:TG}{tb:TS}{D:Vf}{σ:St}{H:Hp}(Pv:Nat→St→Hp→Prop)(h0:Pv 0 σ H)(hk:∀i σ H,Pv i σ H→Zd H0 H)
  (hs:∀i σ H v H',i<n→Pv i σ H→y i H v H'→g v σ H' fun σ2 H2=>tb {D with nx:=Pv (i+1),ct:=Pv (i+1),bk:=D.nx} σ2 H2) (hd:∀σ H,Pv n σ H→D.nx σ H):
  ∃W:Nat→Nat→St→Hp→Prop,(∃m,W 0 m σ H)∧∀i m σ H,W i m σ H→
   (J.stop i H∧D.nx σ H)∨(J.go i H∧∃N:St→Hp→Prop,(∀σ' H',N σ' H'→∃m',m'<m∧W (i+1) m' σ' H')∧∀x H',J.yld i H x H'→g x σ H' fun σ2 H2=>tb {D with nx:=N,ct:=N,bk:=D.nx} σ2 H2):=by
 refine⟨fun i m σ H=>m=n-i∧i≤n∧Pv i σ H,⟨n,by simp,Nat.zero_le _,h0⟩,?_⟩;rintro i m σ H ⟨rfl,hi,p⟩;have sm:=hk i σ H p
 by_cases hlt:i<n
 ·exact .inr ⟨w.go H i sm hlt,Pv (i+1),fun σ' H' p'=>⟨n-(i+1),by omega,rfl,hlt,p'⟩,fun x H' yl=>hs i σ H x H' hlt p (w.yld H i x H' sm hlt yl)⟩
 ·have e:i=n:=by omega
  subst e;exact .inl ⟨w.stop H sm,hd σ H p⟩
namespace Rd
section
variable {σ:St}{H:Hp}{Q:VK}{D:Vf}{K:PySem.W.Frag}
theorem Zlc{n:Nat}{ix:List Nat}{wi:TI}{g:TG}{tc:TT}{te:TE}(h:wi σ H fun J H1=>∀p,H1 p=none→
 ∃W:Nat→Nat→List V→St→Hp→Prop,(∃m,W 0 m [] (ZbA n ix σ) (upd H1 p (.lst [])))∧∀i m ys σ' H',W i m ys σ' H'→
  (J.stop i H'∧Q (.ref p) H')∨(J.go i H'∧∀x H2,J.yld i H' x H2→g x σ' H2 fun σ2 H3=>tc σ2 H3 fun b H4=>
   if b=true then te σ2 H4 fun v H5=>H5 p=some (.lst ys)∧ys.length<sizeLine∧∃m',m'<m∧W (i+1) m' (ys++ [v]) σ2 (upd H5 p (.lst (ys++ [v])))
   else ∃m',m'<m∧W (i+1) m' ys σ2 H4)):ZfE n ix wi g tc te σ H Q:=h
theorem Zml{ts:TA}{R:It→Hp→Prop}(h:ts σ H fun vs H1=>∃a,vs=[.ref a]∧(∃xs,SqL K H1 a xs)∧R (Ite K a) H1):ZjW K ts σ H R:=h
theorem Zlz{a:Addr}{xs:List V}{G:Addr→Prop}(h:SqL K H a xs)(q:G a):∃a',[V.ref a]=[.ref a']∧(∃xs,SqL K H a' xs)∧G a':=⟨a,rfl,⟨xs,h⟩,q⟩
theorem ZmE(h:∀p,H p=none→Q (.ref p) (upd H p (.dK []))):tDNewK σ H Q:=h
theorem Zm6{a:Addr}{kvs:List (Key×V)}{x:Str}(h:H a=some (.dK kvs))(q:Q (.bl (valV kvs (Sum.inr x)).isSome) H):rDIn (.str x) (.ref a) H Q:=⟨a,_,rfl,Uu.k (k:=Sum.inr x) h,q⟩
theorem Zl6{a:Addr}{kvs:List (Key×V)}{x:Int}(h:H a=some (.dK kvs))(q:Q (.bl (!(valV kvs (Sum.inl x)).isSome)) H):rDNotIn (.int x) (.ref a) H Q:=⟨a,_,rfl,Uu.k (k:=Sum.inl x) h,q⟩
theorem Zl4{a:Addr}{kvs:List (Key×V)}{x:Int}{v:V}(h:H a=some (.dK kvs))(e:valV kvs (Sum.inl x)=some v)(q:Q v H):rIxD (.ref a) (.int x) H Q:=⟨a,v,rfl,by rw[←e];exact Uu.k (k:=Sum.inl x) h,q⟩
theorem Zmm{a:Addr}{kvs:List (Key×V)}{x:Str}{v:V}{Q:Hp→Prop}(h:H a=some (.dK kvs))(hl:kvs.length<sizeLine)(q:Q (upd H a (.dK (YR kvs (Sum.inr x) v)))):rSetD (.ref a) (.str x) v H Q:=⟨a,_,rfl,ZdF.k (k:=Sum.inr x) h hl,q⟩
theorem Zmo{a:Addr}{kvs:List (Key×V)}{x:Int}{v:V}{Q:Hp→Prop}(h:H a=some (.dK kvs))(hl:kvs.length<sizeLine)(q:Q (upd H a (.dK (YR kvs (Sum.inl x) v)))):rSetD (.ref a) (.int x) v H Q:=⟨a,_,rfl,ZdF.k (k:=Sum.inl x) h hl,q⟩
theorem ZmK{a:Addr}{kvs:List (Key×V)}(h:H a=some (.dK kvs))(q:Q (.int kvs.length) H):rLenD [.ref a] H Q:=⟨a,kvs,rfl,h,q⟩
theorem Zmp{a:Addr}{kvs:List (Key×V)}(h:H a=some (.dK kvs))(q:∀l,H l=none→Q (.ref l) (upd H l (.lst (kvs.map fun kv=>kV kv.1)))):rListD [.ref a] H Q:=⟨a,kvs,rfl,h,q⟩
theorem slT{a:Addr}{xs:List V}{lo hi:Option Int}(h:SqT K H a xs)(hw:¬(HT.sIx xs.length 0 lo=0∧HT.sIx xs.length xs.length hi=xs.length))(q:∀p,H p=none→Q (.ref p) (upd H p (.tup (Y3 xs lo hi)))):Zhf K (.ref a) lo hi H Q:= .inr (.inl ⟨a,xs,rfl,h,hw,q⟩)
theorem ZkX{r1 r2 r3:R2}{a b:Addr}{xs ys:List V}(ha:SqT K H a xs)(hb:SqT K H b ys)(h1:xs≠[])(h2:ys≠[])(hl:xs.length+ys.length≤sizeLine)(q:∀p,H p=none→Q (.ref p) (upd H p (.tup (xs++ys)))):
  rOr r1 (rOr r2 (rOr r3 (ZeM K))) (.ref a) (.ref b) H Q:= .inr (.inr (.inr ⟨a,b,xs,ys,rfl,rfl,ha,hb,h1,hl,fun z=>absurd z h2,fun _=>q⟩))
theorem ipi{f:Int→Int→Int}{i j:Int}(q:Q (.int (f i j)) H):ipI f (.int i) (.int j) H Q:=⟨i,j,rfl,rfl,q⟩
end
end Rd
section
variable {X:Cx}
end
end L2
namespace L2
open PySem PySem.Spec PyProof.Rows
section
variable {X:Cx}{K:PySem.W.Frag}
noncomputable def rMulS:R2:=fun x y H Q=>∃(z:Str)(n:Int),x= .str z∧y= .int n∧MulOk z n∧Q (.str (Txt.mul z n)) H
theorem Zka:OpR X (binaryOp .Mult) rMulS:=by
 intro pins s σ H x y v u Q I rx ry h;obtain⟨z,n,rfl,rfl,ok,q⟩:=h;obtain⟨t,rfl⟩:=rx;obtain⟨t',rfl⟩:=ry;exact SB.mul ok fun t' k=>⟨.str _,H,I.tok _,⟨_,rfl⟩,q⟩
end
namespace Rd
section
variable {σ:St}{H:Hp}{Q:VK}{K:PySem.W.Frag}
theorem Znl{z:Str}{n:Int}(h:MulOk z n)(q:Q (.str (Txt.mul z n)) H):rMulS (.str z) (.int n) H Q:=⟨z,n,rfl,rfl,h,q⟩
end
end Rd
noncomputable def Yw (H:Hp):List V→List (List Int)→Prop:=Paired fun v xs=>∃t,v= .ref t∧H t=some (.lst (xs.map V.int))
theorem Yw.same{H H':Hp}{ys:List V}{xss:List (List Int)}(h:Yw H ys xss)(e:Zd H H'):Yw H' ys xss:=Paired.mapP h fun _ _ ⟨t,a,b⟩=>⟨t,a,e _ _ b⟩
theorem Yw.length{H:Hp}{ys:List V}{xss:List (List Int)}(h:Yw H ys xss):ys.length=xss.length:=Paired.length h
theorem Yw.at{H:Hp}:∀{ys:List V}{xss:List (List Int)}{i:Nat}{xs:List Int},Yw H ys xss→xss[i]? =some xs→∃t,ys[i]? =some (.ref t)∧H t=some (.lst (xs.map V.int))
 |_,_,_,_,.nil,e=>by simp at e
 |_,_,0,_,.cons ⟨t,e1,h⟩ _,e=>by simp at e;subst e;exact⟨t,by simp[e1],h⟩
 |_,_,i+1,b,.cons _ r,e=>by
  obtain⟨t,h1,h2⟩:=Yw.at (i:=i) (xs:=b) r (by simpa using e);exact⟨t,by simpa using h1,h2⟩
theorem Yw.snoc{H:Hp}:∀{ys:List V}{xss:List (List Int)}{t:Addr}{xs:List Int},Yw H ys xss→H t=some (.lst (xs.map V.int))→Yw H (ys++ [.ref t]) (xss++ [xs])
 |_,_,_,_,.nil,h=> .cons ⟨_,rfl,h⟩ .nil
 |_,_,_,_,.cons x r,h=> .cons x (Yw.snoc r h)
theorem Zas{H H':Hp}{p:Addr}(e:Zd H H'):Zd (hid H p) (hid H' p):=fun b o z=>by
 by_cases h:b=p
 ·rw[h,V2] at z;cases z
 ·rw[WJ h] at z⊢;exact e b o z
theorem ZkC{H:Hp}{p:Addr}{o:HO}:Zd (hid H p) (hid (upd H p o) p):=fun b u z=>by
 by_cases h:b=p
 ·rw[h,V2] at z;cases z
 ·rw[WJ h] at z⊢;rw[Zh h];exact z
end L2
namespace L2
open PySem PySem.Spec PyProof.Rows
section
variable {X:Cx}
noncomputable def rUpdD:V→List V→Hp→VK→Prop:=fun x vs H Q=>∃a b kvs more,x= .ref a∧vs=[.ref b]∧a≠b∧H a=some (.dK kvs)∧H b=some (.dK more)∧kvs.length+more.length≤sizeLine∧Q .non (upd H a (.dK (Yg kvs more)))
theorem Zkg:MtR X "dict.update" rUpdD:=by
 intro pins s σ H x xs v us Q I rx rs h;obtain⟨a,b,kvs,more,rfl,rfl,ne,ha,hb,hl,q⟩:=h;cases rx;obtain⟨u,rfl,ru⟩:=Vl rs;cases ru;obtain⟨z,hd,vs,rel,dd⟩:=ZaX I.hok ha;obtain⟨z2,hd2,rs2,rel2,dd2⟩:=ZaX I.hok hb;refine call_meetsIn PySem.F.slot_dict_update dd.typeIs PySem.F.entry_dict_update (PySem.F.args_dict_update_2 _ _) (meets_dict_update (ZQ X.prog X.w) a b ne hd2) ⟨vs,rs2,dd,dd2,by rw[←rel.length,←rel2.length];exact hl,fun h' dd' _ hs=>?_⟩;have hm:=Vn more kvs;have he:∃q,h'.get? a=some q:=let⟨q,_,_,hq,_⟩:=dd';⟨q,hq⟩
 exact⟨.non,_,Zcg (t':=s.toks) I (by rw[ha];exact True.intro) hs he (Zfe (by omega) hd (rel2.merge rel) dd'),rfl,q⟩
end
end L2
namespace L2
open PySem PySem.Spec PyProof.Rows
section
variable {X:Cx}
noncomputable def rSortD:List V→Hp→VK→Prop:=fun xs H Q=>∃(a:Addr)(kvs:List (Key×V))(ks:List Int),xs=[V.ref a]∧H a=some (.dK kvs)∧kvs.map (·.1)=ks.map Sum.inl∧kvs.length<64∧∀(l:Addr)(ns:List Int),H l=none→ns.Perm ks→ns.Pairwise (· ≤·)→Q (.ref l) (upd H l (.lst (ns.map V.int)))
theorem Zfo(hc:X.calm=true):Yz X (.builtin "sorted") rSortD:=by
 intro pins s σ H xs us Q I r h;obtain⟨a,kvs,ks,rfl,ha,hks,h64,q⟩:=h;obtain⟨u,rfl,ru⟩:=Vl r;cases ru;obtain⟨z,hd,vs,rel,dd⟩:=ZaX I.hok ha;obtain⟨ep,hat⟩:=dd.dictAt;refine Calls.call_function_entry kind_sorted plain_sorted entry_sorted (args_sorted1 _) ?_;unfold Builtin.«sorted»;refine wpAny_bind (m:=checkCount "sorted" 1 1 _) (wpAny_pure ?_);refine wpAny_bind (PySem.W.kdu_collect (A:=X.A.in1) (PySem.W.kdl_dict (knd:=ZQ X.prog X.w) (kvs:=vs) (ep:=ep) hd) (I.ok.hd hc) hat (by rw[←rel.length];exact z) fun h' tk acc hkp hacc=>?_);have hl:acc.toList.length=vs.length:=by rw[Array.length_toList];exact hacc.1
 have hkl:kvs.length=ks.length:=by have:=congrArg List.length hks;simpa using this
 have hv:Zw (ks.map V.int) acc.toList:=by
  refine ZdB (by rw[hl,←rel.length,hkl,List.length_map]) fun j v u e1 e2=>?_;obtain⟨k,x,hx,hk'⟩:=hacc.2 j u (by rw[←Array.getElem?_toList];exact e2);obtain⟨v',hv'⟩:=rel.at hx;have hj:(kvs.map (·.1))[j]? =some k:=by rw[List.getElem?_map,hv'];rfl
  rw[hks,List.getElem?_map] at hj;rw[List.getElem?_map] at e1;cases e:ks[j]? with
  |none=>rw[e] at e1;cases e1
  |some n=>
   rw[e] at e1 hj;cases e1;cases hj;exact ZhG hk'
 have hI:=Zdl hv;refine wpAny_bind (wpAny_newList ?_ (by rw[hl,←rel.length];exact z));have hoL:(h'.push (seqObj "list" acc.toList.toArray 0)).get? h'.objs.size=some (seqObj "list" acc.toList.toArray 0):=Heap.get?_push_size _ rfl;have I1:Inv X pins σ H {s with heap:=h',toks:=tk}:=I.kept hkp;refine wpAny_bind (wpAny_holding (wpAny_call_entry slot_list_sort ⟨_,hoL,rfl⟩ entry_list_sort (list_sort_tree hoL hI (by rw[hl,←rel.length];exact h64) fun out ns' a1 a2 a3=>⟨_,rfl,?_⟩) (args_list_sort _)));refine wpAny_pure ⟨_,rfl,?_⟩;obtain⟨e,he⟩:=sortedHeap_at (out:=out) hoL;have hv':=Zah a1;refine⟨.ref h'.objs.size,_,I1.laid (a:=h'.objs.size) (o:= .lst (ns'.map V.int)) (t':=tk) (fun b o hb'=>?_) (Nat.le_refl _) ⟨by rw[List.length_map,a2.length_eq,←hkl];exact z,out.toList,e,hv',by simpa using he⟩,rfl,q _ ns' (I1.hok.fresh (Nat.le_refl _)) a2 a3⟩;have hlt:=Heap.lt_size hb';rw[sortedHeap_old (Nat.ne_of_lt hlt) (by rw[size_push'];exact Nat.lt_succ_of_lt hlt)];exact Heap.get?_push_of_some _ hb'
end
theorem ZgR{own:Nat}{ix:List Nat}{g:TG}{tc:TT}{Q:Addr→Hp→Prop}{σ:St}{H:Hp}{J:It}{n:Nat}{y:Nat→Hp→V→Hp→Prop}(w:Us J n y H)(hn:n<sizeLine)(s:Nat→List (Option V))(hs:∀i,(s i).length=own)
  (hg:∀i a H' v H2 (Kg:St→Hp→Prop),i<n→Zd H H'→y i H' v H2→a.length=own→(∀H3,Zd H' H3→Kg (s i++ix.map fun j=>(σ[j]?).join) H3)→g v (a++ix.map fun j=>(σ[j]?).join) H2 Kg)
  (hc:∀i H' (Kc:Bool→Hp→Prop),i<n→Zd H H'→Kc true H'→tc (s i++ix.map fun j=>(σ[j]?).join) H' Kc)
  (q:∀p H' (ia:List Addr),H p=none→Zd H H'→H' p=some (.lst (ia.map V.ref))→ia.length=n→ia.Nodup→(∀x∈ia,H x=none∧x≠p∧H' x=some (.lst []))→Q p H'):
  ∀p,H p=none→∃W:Nat→Nat→List V→St→Hp→Prop,(∃m,W 0 m [] (ZbA own ix σ) (upd H p (.lst [])))∧∀i m ys σ' H',W i m ys σ' H'→
   (J.stop i H'∧Q p H')∨(J.go i H'∧∀x H2,J.yld i H' x H2→g x σ' H2 fun σ2 H3=>tc σ2 H3 fun b H4=>
    if b=true then Zjd tNil σ2 H4 fun v H5=>H5 p=some (.lst ys)∧ys.length<sizeLine∧∃m',m'<m∧W (i+1) m' (ys++ [v]) σ2 (upd H5 p (.lst (ys++ [v])))
    else ∃m',m'<m∧W (i+1) m' ys σ2 H4):=by
 intro p hp;refine⟨fun i m ys σ' H'=>m=n-i∧i≤n∧(∃a,a.length=own∧σ'=a++ix.map fun j=>(σ[j]?).join)∧Zd H H'∧∃ia:List Addr,ys=ia.map V.ref∧H' p=some (.lst (ia.map V.ref))∧ia.length=i∧ia.Nodup∧∀x∈ia,H x=none∧x≠p∧H' x=some (.lst []),
  ⟨n,by simp,Nat.zero_le _,⟨List.replicate own none,List.length_replicate,rfl⟩,Zk hp,[],rfl,Ze,rfl,.nil,by simp⟩,?_⟩
 rintro i m ys σ' H' ⟨rfl,hi,⟨a,ha,rfl⟩,sm,ia,rfl,hy,hil,hnd,hia⟩
 by_cases hlt:i<n
 ·refine .inr ⟨w.go H' i sm hlt,fun x H2 yl=>?_⟩;refine hg i a H' x H2 _ hlt sm (w.yld H' i x H2 sm hlt yl) ha fun H3 s3=>?_;refine hc i H3 _ hlt (sm.trans s3) ?_;rw[if_pos rfl];show(0:Nat)≤sizeLine∧_;refine⟨Nat.zero_le _,fun u hu=>?_⟩;have sm3:=sm.trans s3;have hy3:=s3 _ _ hy;have nup:u≠p:=fun z=>by rw[z,hy3] at hu;cases hu
  have s4:Zd H3 (upd H3 u (.lst [])):=Zk hu;refine⟨s4 _ _ hy3,by rw[List.length_map];omega,n-(i+1),by omega,rfl,hlt,⟨s i,hs i,rfl⟩,(sm3.trans s4).new hp,ia++ [u],by simp,by rw[Ze];simp,by simp[hil],?_,fun x hx=>?_⟩
  ·refine List.nodup_append.mpr ⟨hnd,by simp,fun x hx z hz=>?_⟩;rw[List.mem_singleton.mp hz];intro e;have:=s3 _ _ (hia x hx).2.2;rw[e,hu] at this;cases this
  ·rcases List.mem_append.mp hx with z|z
   ·obtain⟨h1,h2,h3⟩:=hia x z;exact⟨h1,h2,by rw[Zh h2];exact s4 _ _ (s3 _ _ h3)⟩
   ·rw[List.mem_singleton.mp z];refine⟨?_,nup,by rw[Zh nup,Ze]⟩;cases e:H u with
    |none=>rfl
    |some o=>rw[sm3 _ _ e] at hu;cases hu
 ·have e:i=n:=by omega
  subst e;exact .inl ⟨w.stop H' sm,q p H' ia hp sm hy hil hnd hia⟩
namespace Rd
section
variable {H:Hp}{Q:VK}
theorem ZlX{a:Addr}{kvs:List (Key×V)}{ks:List Int}(h:H a=some (.dK kvs))(e:kvs.map (·.1)=ks.map Sum.inl)(hl:kvs.length<64)(q:∀(l:Addr)(ns:List Int),H l=none→ns.Perm ks→ns.Pairwise (· ≤·)→Q (.ref l) (upd H l (.lst (ns.map V.int)))):rSortD [.ref a] H Q:=⟨a,kvs,ks,rfl,h,e,hl,q⟩
theorem Zm5{a b:Addr}{kvs more:List (Key×V)}(ne:a≠b)(ha:H a=some (.dK kvs))(hb:H b=some (.dK more))(hl:kvs.length+more.length≤sizeLine)(q:Q .non (upd H a (.dK (Yg kvs more)))):rUpdD (.ref a) [.ref b] H Q:=⟨a,b,kvs,more,rfl,rfl,ne,ha,hb,hl,q⟩
end
end Rd
end L2
namespace L2
open PySem PySem.Spec PyProof.Rows
section
variable {X:Cx}{pins:List (Addr×Obj)}{σ:St}{H:Hp}{s:Shared}
theorem Inv.freeze{a:Addr}{kvs:List (Key×V)}(I:Inv X pins σ H s)(e:Rd H a (.dK kvs)):∃o,s.heap.get? a=some o∧Inv X pins σ (upd H a (.frz o (.dK kvs))) s:=by
 have ok:ZO X.prog X.w H s.heap a (.dK kvs):=e.ok I.hok;rcases e with e|⟨o,e⟩
 ·obtain⟨_,_,vs,_,dd⟩:=ZaX I.hok e;obtain⟨ep,hat⟩:=dd.dictAt;obtain⟨o,es,ho,_⟩:=id hat;exact⟨o,ho,I.write (x:=a) (e:=a) (o:= .frz o (.dK kvs)) (t':=s.toks) (by rw[e];exact True.intro) (.inl rfl) (fun b u _ q=>q) ⟨o,ho⟩ ⟨ho,ok⟩⟩
 ·have hx:upd H a (.frz o (.dK kvs))=H:=by
   funext b
   by_cases z:b=a
   ·rw[z,Ze,e]
   ·rw[Zh z]
  exact⟨o,(show ZO X.prog X.w H s.heap a (.frz o (.dK kvs)) from I.hok a _ e).1,by rw[hx];exact I⟩
theorem KV.fwd{kvs:List (Key×V)}{vs:List (Key×Value)}(r:KV kvs vs):∀{j:Nat}{kv:Key×V},kvs[j]? =some kv→∃u,vs[j]? =some (kv.1,u)∧ZD kv.2 u:=by
 unfold KV at r
 induction r with
 |nil=>intro j kv e;simp at e
 | @cons p q ps qs h t ih=>
  intro j kv e;cases j with
  |zero=>
   simp at e;subst e;obtain⟨q1,q2⟩:=q;exact⟨q2,by simp[h.1],h.2⟩
  |succ j=>
   obtain⟨u,h1,h2⟩:=ih (j:=j) (kv:=kv) (by simpa using e);exact⟨u,by simpa using h1,h2⟩
end
noncomputable def Itv (d:Addr) (o:Obj) (kvs:List (Key×V)):It:=
 ⟨fun i H=>H d=some (.frz o (.dK kvs))∧i<kvs.length,fun i H x H'=>H'=H∧∃kv,kvs[i]? =some kv∧x=kv.2,fun i H=>H d=some (.frz o (.dK kvs))∧kvs.length≤i⟩
noncomputable def Itp (d:Addr) (o:Obj) (kvs:List (Key×V)):It:=
 ⟨fun i H=>H d=some (.frz o (.dK kvs))∧i<kvs.length,fun i H x H'=>∃t kv,kvs[i]? =some kv∧H t=none∧x= .ref t∧H'=upd H t (.tup [kV kv.1,kv.2]),fun i H=>H d=some (.frz o (.dK kvs))∧kvs.length≤i⟩
theorem ZdM:entryFor table "dict_itemiterator.__iter__" =some Builtin.«dict_keyiterator.__iter__»:=entryFor_alias (id':="dict_keyiterator.__iter__") (by kernel_rfl) rfl (by decide+kernel) (by kernel_rfl)
theorem Zew{P:Program}{w:World}{A:Around}{E:Value→Shared→Prop}{s:Shared}{it d:Addr}{i n ep:Nat}{ok ov:Value}{Q:Value→Shared→Prop}(hit:IsItemIter s.heap it d i n ep ok ov)(h:Q (.ref it) s):wpAny (model P w) A (pyIter (.ref it)) Q E s:=by
 have ty:s.TypeIs (.ref it) "dict_itemiterator" :=⟨_,hit,rfl⟩;refine wpAny_pyIter_slot ty PySem.F.slot_dict_itemiterator_iter (wpAny_call_entry PySem.F.slot_dict_itemiterator_iter ty ZdM (show wpAny _ _ (ret (Value.ref it)) _ _ s from wpAny_pure ⟨_,rfl,"dict_itemiterator",_,ty,PySem.F.slot_dict_itemiterator_next.lookup,h⟩) (PySem.F.args_dict_itemiterator_iter_1 _))
section
variable {P:Program}{w:World}{K:PySem.W.Frag}
theorem Ziu{tg:Expr}(d it:Addr)(o:Obj)(kvs:List (Key×V))(vs:List (Key×Value))(ep:Nat)(rel:KV kvs vs)(hd:∀h:Heap,h.get? d=some o→h.DictAt (ZQ P w) d vs ep):U1 P w K tg (Itv d o kvs) [it] it (fun i h=>h.IsValIter it d i vs.length ep) where
 mem:=by simp
 obj:=fun i h st b hb=>by
  have e:b=it:=by simpa using hb
  subst e;obtain⟨o,e,c,dd⟩:=st;exact⟨o,e,fun v z=>by rw[dd] at z;cases z⟩
 keep:=fun i h h' st k=>st.at fun o q=>k it (by simp) o q
 item:=by
  intro X hP hw hK hc i pins s σ H E I hf st hg;subst hP hw hK;obtain⟨he,hi⟩:=hg;have ho:=(show ZO X.prog X.w H s.heap d (.frz o (.dK kvs)) from I.hok d _ he).1;obtain⟨f0,f1,f2,f3,f4,f5⟩:=hf it (by simp);obtain⟨u,hu,ru⟩:=rel.fwd (List.getElem?_eq_getElem hi);refine wpAny_pyNext_values_item st (hd _ ho) hu fun h' st' sb=>?_;have I1:Inv X pins σ H {s with heap:=h',toks:=s.toks}:=I.turned (t':=s.toks) (fun b q hb e=>(sb.2 b hb).trans e) f0 f1 f3 f4 f5;obtain⟨q,e,c,dd⟩:=id st';exact⟨_,rfl,Zc2 (s:={s with heap:=h',toks:=s.toks}) e c dd (by decide) ⟨_,H,I1,ru,⟨rfl,kvs[i],List.getElem?_eq_getElem hi,rfl⟩,st',fun b hb=>(hf b hb).1⟩⟩
 done:=by
  intro X hP hw hK hc i pins s σ H E I hf st hg;subst hP hw hK;obtain⟨he,hi⟩:=hg;have ho:=(show ZO X.prog X.w H s.heap d (.frz o (.dK kvs)) from I.hok d _ he).1;obtain⟨f0,f1,f2,f3,f4,f5⟩:=hf it (by simp);exact wpAny_pyNext_values_end (I.ok.hd hc) st (hd _ ho) (List.getElem?_eq_none (by rw[←rel.length];exact hi)) fun h' eb=>⟨rfl,I.turned (t':=s.toks) (fun b q hb e=>eb b q hb e) f0 f1 f3 f4 f5⟩
 self:=fun _ _ _ _ _ st h=>wpAny_pyIter_valiter st h
theorem Zho{elts:List Expr}{k1:Nat}{pos:Pos}(d it:Addr)(o:Obj)(kvs:List (Key×V))(vs:List (Key×Value))(ep:Nat)(rel:KV kvs vs)(hd:∀h:Heap,h.get? d=some o→h.DictAt (ZQ P w) d vs ep):
  U1 P w K (.Tuple elts k1 pos) (Itp d o kvs) [it] it (fun i h=>∃ok ov,IsItemIter h it d i vs.length ep ok ov) where
 mem:=by simp
 obj:=fun i h st b hb=>by
  obtain⟨ok,ov,e⟩:=st;rw[List.mem_singleton.mp hb];exact⟨_,e,fun v z=>by
   have z':Data.fields _=Data.cell v:=z;cases z'⟩
 keep:=fun i h h' st k=>let⟨ok,ov,e⟩:=st;⟨ok,ov,k it (by simp) _ e⟩
 item:=by
  intro X hP hw hK hc i pins s σ H E I hf st hg;subst hP hw hK;obtain⟨he,hi⟩:=hg;obtain⟨ok,ov,hit⟩:=st;have ho:=(show ZO X.prog X.w H s.heap d (.frz o (.dK kvs)) from I.hok d _ he).1;obtain⟨u,hu,ru⟩:=rel.fwd (List.getElem?_eq_getElem hi);refine wpAny_pyNext_items_item hit (hd _ ho) hu fun key h' hkey hout hT hsz hk=>?_;have hfr:=I.hok.fresh (Nat.le_refl s.heap.objs.size);have hilt:it<s.heap.objs.size:=Heap.lt_size hit;refine⟨_,rfl,wpAny_letOwnedTupleGo_items hout fun h2 he2 hs2=>?_⟩;have hT2:h2.get? s.heap.objs.size=some {cls:= .type "tuple",data:= .seq #[key,u]}:=hs2.extBut _ _ (Nat.ne_of_gt hilt) hT;have I1:Inv X pins σ (upd H s.heap.objs.size (.tup [kV kvs[i].1,kvs[i].2])) {s with heap:=h2,toks:=s.toks}:=
   I.turnedNew (fp:=[it]) (fun b q hb e=>by
    have n1:b≠it:=fun z=>hb (by simp[z]);exact hs2.extBut b q n1 (hk b q n1 e)) hf (Nat.le_refl _) ⟨by show 2≤sizeLine;decide,[key,u],.cons (ZhG hkey) (.cons ru .nil),_,hT2,rfl,_,rfl⟩
  refine⟨.ref s.heap.objs.size,_,I1,rfl,⟨_,kvs[i],List.getElem?_eq_getElem hi,hfr,rfl,rfl⟩,⟨_,_,he2⟩,fun b hb=>?_⟩;have nb:b≠s.heap.objs.size:=by rw[List.mem_singleton.mp hb];exact Nat.ne_of_lt hilt
  rw[Zh nb];exact(hf b hb).1
 done:=by
  intro X hP hw hK hc i pins s σ H E I hf st hg;subst hP hw hK;obtain⟨he,hi⟩:=hg;obtain⟨ok,ov,hit⟩:=st;have ho:=(show ZO X.prog X.w H s.heap d (.frz o (.dK kvs)) from I.hok d _ he).1;obtain⟨f0,f1,f2,f3,f4,f5⟩:=hf it (by simp);exact wpAny_pyNext_items_end (I.ok.hd hc) hit (hd _ ho) (List.getElem?_eq_none (by rw[←rel.length];exact hi)) fun h' eb=>⟨rfl,I.turned (t':=s.toks) (fun b q hb e=>eb b q hb e) f0 f1 f3 f4 f5⟩
 self:=fun _ _ _ _ _ st h=>by
  obtain⟨ok,ov,e⟩:=st;exact Zew e h
end
section
variable {X:Cx}{tg:Expr}
noncomputable def ZjO (td:TE):TI:=fun σ H R=>td σ H fun x H1=>∃a kvs,x= .ref a∧Rd H1 a (.dK kvs)∧∀o,R (Itv a o kvs) (upd H1 a (.frz o (.dK kvs)))
noncomputable def ZiN (td:TE):TI:=fun σ H R=>td σ H fun x H1=>∃a kvs,x= .ref a∧Rd H1 a (.dK kvs)∧∀o,R (Itp a o kvs) (upd H1 a (.frz o (.dK kvs)))
theorem Zkr{d:Expr}{td:TE}{apos cpos:Pos}(hd:PE X d td)(hbase:attributeBase d "values" X.env (eval d X.env)=eval d X.env:=by rfl)(hline:(apos.endLine==cpos.line)=true:=by rfl):
  PI X tg (.Call (.Attribute d "values" apos) [] [] cpos) (ZjO td):=by
 intro pins s σ H R I h;refine wpAny_Call_method0_late hbase hline (thn (hd pins s σ H _ I h) fun v s1 ⟨x,H1,I1,r1,q1⟩=>?_);obtain⟨a,kvs,rfl,hr,q⟩:=q1;cases r1;obtain⟨z,hsm,vs,rel,dd⟩:=Zae I1.hok hr;obtain⟨ep,hat⟩:=dd.dictAt;obtain⟨o,ho,I2⟩:=I1.freeze hr;have keepd:∀h:Heap,h.get? a=some o→h.DictAt (ZQ X.prog X.w) a vs ep:=fun h e=>hat.at' fun o' e'=>by rw[ho] at e';cases e';exact e
 refine⟨"dict","dict.values",PySem.F.plainAttrs_dict,PySem.F.slot_dict_values,PySem.F.type_dict_values,dd.typeIs,dd.mapOf.noDict,Calls.callWith_builtin rfl (PySem.evalArgs_none ?_)⟩;refine call_meetsIn PySem.F.slot_dict_values dd.typeIs PySem.F.entry_dict_values (PySem.F.args_dict_values_1 _) (meets_dict_values (ZQ X.prog X.w) a hsm) ⟨⟨vs,dd⟩,?_⟩;refine wpAny_pyIter_values (knd:=ZQ X.prog X.w) (d:=a) (kvs:=vs) (ep:=ep) ⟨_,Heap.get?_push_size _ rfl,rfl,rfl⟩ (keepd _ (Heap.get?_push_of_some _ ho)) ?_;have I3:Inv X pins σ (upd H1 a (.frz o (.dK kvs))) {s1 with heap:=s1.heap.push {cls:= .type "dict_values",data:= .fields #[.ref a]}}:=I2.kept (t':=s1.toks) fun b o e=>Heap.get?_push_of_some _ e;refine⟨(s1.heap.push {cls:= .type "dict_values",data:= .fields #[.ref a]}).objs.size,[(s1.heap.push {cls:= .type "dict_values",data:= .fields #[.ref a]}).objs.size],_,_,_,rfl,I3.kept (t':=s1.toks) fun b o e=>Heap.get?_push_of_some _ e,Ziu a _ o kvs vs ep rel keepd,⟨_,Heap.get?_push_size _ rfl,rfl,rfl⟩,fun b hb=>?_,q o⟩;rw[List.mem_singleton.mp hb];exact I3.fpOk (Nat.le_refl _) (I3.hok.fresh (Nat.le_refl _))
theorem ZeP{elts:List Expr}{k1:Nat}{tpos:Pos}{d:Expr}{td:TE}{apos cpos:Pos}(hd:PE X d td)(hbase:attributeBase d "items" X.env (eval d X.env)=eval d X.env:=by rfl)(hline:(apos.endLine==cpos.line)=true:=by rfl):
  PI X (.Tuple elts k1 tpos) (.Call (.Attribute d "items" apos) [] [] cpos) (ZiN td):=by
 intro pins s σ H R I h;refine wpAny_Call_method0_late hbase hline (thn (hd pins s σ H _ I h) fun v s1 ⟨x,H1,I1,r1,q1⟩=>?_);obtain⟨a,kvs,rfl,hr,q⟩:=q1;cases r1;obtain⟨z,hsm,vs,rel,dd⟩:=Zae I1.hok hr;obtain⟨ep,hat⟩:=dd.dictAt;obtain⟨o,ho,I2⟩:=I1.freeze hr;have keepd:∀h:Heap,h.get? a=some o→h.DictAt (ZQ X.prog X.w) a vs ep:=fun h e=>hat.at' fun o' e'=>by rw[ho] at e';cases e';exact e
 refine⟨"dict","dict.items",PySem.F.plainAttrs_dict,PySem.F.slot_dict_items,PySem.F.type_dict_items,dd.typeIs,dd.mapOf.noDict,Calls.callWith_builtin rfl (PySem.evalArgs_none ?_)⟩;refine call_meetsIn PySem.F.slot_dict_items dd.typeIs PySem.F.entry_dict_items (PySem.F.args_dict_items_1 _) (meets_dict_items (ZQ X.prog X.w) a hsm) ⟨⟨vs,dd⟩,?_⟩;refine wpAny_pyIter_items (knd:=ZQ X.prog X.w) (d:=a) (kvs:=vs) (ep:=ep) ⟨_,Heap.get?_push_size _ rfl,rfl,rfl⟩ (keepd _ (Heap.get?_push_of_some _ ho)) ?_;have I3:Inv X pins σ (upd H1 a (.frz o (.dK kvs))) {s1 with heap:=s1.heap.push {cls:= .type "dict_items",data:= .fields #[.ref a]}}:=I2.kept (t':=s1.toks) fun b o e=>Heap.get?_push_of_some _ e;refine⟨(s1.heap.push {cls:= .type "dict_items",data:= .fields #[.ref a]}).objs.size,[(s1.heap.push {cls:= .type "dict_items",data:= .fields #[.ref a]}).objs.size],_,_,_,rfl,I3.kept (t':=s1.toks) fun b o e=>Heap.get?_push_of_some _ e,Zho a _ o kvs vs ep rel keepd,⟨_,_,Heap.get?_push_size _ rfl⟩,fun b hb=>?_,q o⟩;rw[List.mem_singleton.mp hb];exact I3.fpOk (Nat.le_refl _) (I3.hok.fresh (Nat.le_refl _))
end
namespace Rd
section
variable {σ:St}{H:Hp}{Q:VK}
theorem Zme{td:TE}{R:It→Hp→Prop}(h:td σ H fun x H1=>∃a kvs,x= .ref a∧L2.Rd H1 a (.dK kvs)∧∀o,R (Itv a o kvs) (upd H1 a (.frz o (.dK kvs)))):ZjO td σ H R:=h
theorem Zh5{td:TE}{R:It→Hp→Prop}(h:td σ H fun x H1=>∃a kvs,x= .ref a∧L2.Rd H1 a (.dK kvs)∧∀o,R (Itp a o kvs) (upd H1 a (.frz o (.dK kvs)))):ZiN td σ H R:=h
theorem ZjD{a:Addr}{kvs:List (Key×V)}{x:Int}{v:V}(h:L2.Rd H a (.dK kvs))(e:valV kvs (Sum.inl x)=some v)(q:Q v H):rIxD (.ref a) (.int x) H Q:=⟨a,v,rfl,.inl ⟨kvs,Sum.inl x,h,rfl,e.symm⟩,q⟩
theorem ZmJ{a:Addr}{kvs:List (Key×V)}{x:Int}(h:L2.Rd H a (.dK kvs))(q:Q (.bl (valV kvs (Sum.inl x)).isSome) H):rDIn (.int x) (.ref a) H Q:=⟨a,_,rfl,.inl ⟨kvs,Sum.inl x,h,rfl,rfl⟩,q⟩
end
end Rd
theorem ZhI{d:Addr}{o:Obj}{kvs:List (Key×V)}{H:Hp}(h:H d=some (.frz o (.dK kvs))):Us (Itv d o kvs) kvs.length (fun i H' v H2=>H2=H'∧∃kv,kvs[i]? =some kv∧v=kv.2) H:=
 ⟨fun H' i s hi=>⟨s _ _ h,hi⟩,fun _ _ _ _ _ _ y=>y,fun H' s=>⟨s _ _ h,Nat.le_refl _⟩⟩
theorem Zcu{d:Addr}{o:Obj}{kvs:List (Key×V)}{H:Hp}(h:H d=some (.frz o (.dK kvs))):Us (Itp d o kvs) kvs.length (fun i H' v H2=>∃t kv,kvs[i]? =some kv∧H' t=none∧v= .ref t∧H2=upd H' t (.tup [kV kv.1,kv.2])) H:=
 ⟨fun H' i s hi=>⟨s _ _ h,hi⟩,fun _ _ _ _ _ _ y=>y,fun H' s=>⟨s _ _ h,Nat.le_refl _⟩⟩
end L2
namespace L2
open PySem PySem.Spec PyProof.Rows
noncomputable def Itw (K:PySem.W.Frag) (a:Addr) (n:Nat):It:=
 ⟨fun i H=>∃xs x,SqL K H a xs∧i<n∧xs[n-1-i]? =some x,fun i H x H'=>H'=H∧∀xs,SqL K H a xs→xs[n-1-i]? =some x,fun i _=>i=n⟩
theorem ZiX{P:Program}{w:World}{K:PySem.W.Frag}{tg:Expr}(a it:Addr)(n:Nat):U1 P w K tg (Itw K a n) [it] it (fun i h=>h.IsRevIter it a ((n:Int)-1-i)) where
 mem:=by simp
 obj:=fun i h st b hb=>by
  have e:b=it:=by simpa using hb
  subst e;obtain⟨o,e,c,d⟩:=st;exact⟨o,e,fun v z=>by rw[d] at z;cases z⟩
 keep:=fun i h h' st k=>st.at fun o e=>k it (by simp) o e
 item:=by
  intro X hP hw hK hc i pins s σ H E I hf st hg;subst hP hw hK;obtain⟨xs,x,hq,hin,hx⟩:=hg;obtain⟨its,rv,p,hz⟩:=I.list hq;obtain⟨u,hu,ru⟩:=rv.get hx;obtain⟨f0,f1,f2,f3,f4,f5⟩:=hf it (by simp);have ei:(n:Int)-1-(i:Int)=((n-1-i:Nat):Int):=by omega
  rw[ei] at st;refine wpAny_pyNext_rev_item st p.isList (x:=u) (by simpa using hu) fun h' st' sb=>?_;have I1:Inv X pins σ H {s with heap:=h'}:=I.turned (t':=s.toks) (fun b o hb e=>(sb.2 b hb).trans e) f0 f1 f3 f4 f5;have ej:((n-1-i:Nat):Int)-1=(n:Int)-1-((i+1:Nat):Int):=by omega
  rw[ej] at st';obtain⟨o,e,c,d⟩:=id st';exact⟨u,rfl,Zc2 (s:={s with heap:=h'}) e c d (by decide) ⟨x,H,I1,ru,⟨rfl,fun ys hy=>by rw[I.list_inj hy hq];exact hx⟩,st',fun b hb=>(hf b hb).1⟩⟩
 done:=by
  intro X hP hw hK hc i pins s σ H E I hf st hg;subst hP hw hK;obtain⟨f0,f1,f2,f3,f4,f5⟩:=hf it (by simp);have hg':i=n:=hg;have ei:(n:Int)-1-(i:Int)= -1:=by omega
  rw[ei] at st;exact wpAny_pyNext_rev_end (I.ok.hd hc) st fun h' eb=>⟨rfl,I.turned (t':=s.toks) (fun b o hb e=>eb b o hb e) f0 f1 f3 f4 f5⟩
 self:=fun _ _ _ _ _ st h=>wpAny_pyIter_revIter st h
section
variable {X:Cx}
noncomputable def Zk2 (K:PySem.W.Frag) (ta:TA):TI:=fun σ H R=>ta σ H fun vs H1=>∃a xs,vs=[.ref a]∧SqL K H1 a xs∧R (Itw K a xs.length) H1
theorem Zlh{K:PySem.W.Frag}{a tg:Expr}{ta:TA}{p pos:Pos}(ek:X.K=K)(hg:Gl X "reversed")(hm:X.mg "reversed" =none)(ha:PA X [a] ta)(hs:starEach [a] X.env=[(false,eval a X.env)]:=by rfl):
  PI X tg (.Call (.Name "reversed" p) [a] [] pos) (Zk2 K ta):=by
 subst ek;intro pins s σ H R I h;refine Call_ (Zac I hg hm boot_reversed (PyProof.Rows.callWith_type1 (thn (ha pos pins s σ H _ I h) fun us s1 ⟨vs,H1,I1,r1,q1⟩=>?_) hs rfl));obtain⟨b,xs,rfl,hq,q⟩:=q1;obtain⟨u,rfl,ru⟩:=Vl r1;cases ru;obtain⟨its,rv,pl,hz⟩:=I1.list hq;have hl:=rv.length;refine call_reversed_list pl.isList ?_;have hit:(s1.heap.push (revObj b (((its.toArray.size:Nat):Int)-1))).IsRevIter s1.heap.objs.size b ((xs.length:Int)-1-((0:Nat):Int)):=by
  refine⟨_,Heap.get?_push_size _ rfl,rfl,?_⟩;show Data.fields #[Value.ref b,rawInt (((its.toArray.size:Nat):Int)-1)]=_;rw[List.size_toArray,←hl];simp
 refine wpAny_pyIter_revIter hit ?_;refine⟨s1.heap.objs.size,[s1.heap.objs.size],_,_,H1,rfl,I1.kept (t':=s1.toks) fun b o e=>Heap.get?_push_of_some _ e,ZiX b _ xs.length,hit,fun c hc=>?_,q⟩;have e:c=s1.heap.objs.size:=by simpa using hc
 subst e;exact I1.fpOk (Nat.le_refl _) (I1.hok.fresh (Nat.le_refl _))
end
theorem ZiK{K:PySem.W.Frag}{a:Addr}{xs:List V}{H:Hp}(h:SqL K H a xs):Walks (Itw K a xs.length) xs.length (fun i=>xs.reverse.getD i .non) H:=
 ⟨fun H' i e hi=>⟨xs,xs[xs.length-1-i],e.seq h,hi,by simp⟩,fun H' i x H2 e hi y=>⟨y.1,by
  have:=y.2 xs (e.seq h);rw[List.getD,List.getElem?_reverse hi,this]
  rfl⟩,fun H' e=>rfl⟩
namespace Rd
theorem Znh{σ:St}{H:Hp}{K:PySem.W.Frag}{ta:TA}{R:It→Hp→Prop}(h:ta σ H fun vs H1=>∃a xs,vs=[.ref a]∧SqL K H1 a xs∧R (Itw K a xs.length) H1):Zk2 K ta σ H R:=h
end Rd
end L2
namespace L2
open PySem PySem.Spec PyProof.Rows
noncomputable def Itz (K:PySem.W.Frag) (a b:Addr):It:=
 ⟨fun i H=>∃xs x ys y,SqL K H a xs∧xs[i]? =some x∧SqL K H b ys∧ys[i]? =some y,fun i H v H'=>∃t x y,H t=none∧v= .ref t∧H'=upd H t (.tup [x,y])∧(∀xs,SqL K H a xs→xs[i]? =some x)∧∀ys,SqL K H b ys→ys[i]? =some y,fun i H=>∃xs ys,SqL K H a xs∧SqL K H b ys∧(xs.length≤i∨ys.length≤i)⟩
theorem Vv{h:Heap}{l b:Addr}{xs:Array Value}{o:Obj}(hl:h.IsList l xs)(ho:h.get? b=some o)(hc:o.cls≠ .type "list"):l≠b:=fun z=>by
 subst z;obtain⟨o',h1,h2,_⟩:=hl;rw[ho] at h1;cases h1;exact hc h2
structure Zhs(h:Heap)(z TI TO i1 i2 a b:Addr)(i:Nat):Prop where
 zip:IsZip h z TI TO .none
 ti:IsPair h TI (.ref i1) (.ref i2)
 to:∃x y,IsPair h TO x y
 l1:h.IsListIter i1 a i
 l2:h.IsListIter i2 b i
structure Ze4(z TI TO i1 i2:Addr):Prop where
 TIz:TI≠z
 TOz:TO≠z
 i1z:i1≠z
 i2z:i2≠z
 TITO:TI≠TO
 TIi1:TI≠i1
 TIi2:TI≠i2
 TOi1:TO≠i1
 TOi2:TO≠i2
 i12:i1≠i2
theorem ZkI(n:Nat):Ze4 (n+4) (n+2) (n+3) n (n+1):=⟨show n+2≠n+4 by omega,show n+3≠n+4 by omega,show n≠n+4 by omega,show n+1≠n+4 by omega,show n+2≠n+3 by omega,show n+2≠n by omega,show n+2≠n+1 by omega,show n+3≠n by omega,show n+3≠n+1 by omega,show n≠n+1 by omega⟩
theorem Zhs.apart{h:Heap}{z TI TO i1 i2 a b:Addr}{i:Nat}{xs ys:Array Value}(D:Ze4 z TI TO i1 i2)(st:Zhs h z TI TO i1 i2 a b i)(ha:h.IsList a xs)(hb:h.IsList b ys):ZipApart z TI TO i1 i2 a b:=by
 obtain⟨x,y,hto⟩:=st.to;obtain⟨o1,p1,c1,_⟩:=st.l1;obtain⟨o2,p2,c2,_⟩:=st.l2;have n1:o1.cls≠ .type "list" :=by rw[c1];decide
 have n2:o2.cls≠ .type "list" :=by rw[c2];decide
 exact⟨D.TIz,D.TOz,D.i1z,D.i2z,D.TITO,D.TIi1,D.TIi2,D.TOi1,D.TOi2,D.i12,Vv ha st.zip (show Value.type "zip" ≠Value.type "list" by decide),Vv ha hto (show Value.type "tuple" ≠Value.type "list" by decide),Vv ha p1 n1,Vv ha p2 n2,Vv hb st.zip (show Value.type "zip" ≠Value.type "list" by decide),Vv hb hto (show Value.type "tuple" ≠Value.type "list" by decide),Vv hb p1 n1,Vv hb p2 n2⟩
theorem ZiW{P:Program}{w:World}{K:PySem.W.Frag}{elts:List Expr}{k1:Nat}{pos:Pos}(a b z TI TO i1 i2:Addr)(D:Ze4 z TI TO i1 i2):U1 P w K (.Tuple elts k1 pos) (Itz K a b) [z,TI,TO,i1,i2] z (fun i h=>Zhs h z TI TO i1 i2 a b i) where
 mem:=by simp
 obj:=fun i h st c hc=>by
  obtain⟨x,y,hto⟩:=st.to;obtain⟨o1,p1,_,d1⟩:=st.l1;obtain⟨o2,p2,_,d2⟩:=st.l2;simp only[List.mem_cons,List.not_mem_nil,or_false] at hc;rcases hc with rfl|rfl|rfl|rfl|rfl
  ·exact⟨_,st.zip,fun v q=>by cases (show Data.fields _=Data.cell v from q)⟩
  ·exact⟨_,st.ti,fun v q=>by cases (show Data.seq _ _=Data.cell v from q)⟩
  ·exact⟨_,hto,fun v q=>by cases (show Data.seq _ _=Data.cell v from q)⟩
  ·exact⟨o1,p1,fun v q=>by rw[d1] at q;cases q⟩
  ·exact⟨o2,p2,fun v q=>by rw[d2] at q;cases q⟩
 keep:=fun i h h' st k=>by
  obtain⟨x,y,hto⟩:=st.to;exact⟨k z (by simp) _ st.zip,k TI (by simp) _ st.ti,⟨x,y,k TO (by simp) _ hto⟩,st.l1.at fun o q=>k i1 (by simp) o q,st.l2.at fun o q=>k i2 (by simp) o q⟩
 item:=by
  intro X hP hw hK hc i pins s σ H E I hf st hg;subst hP hw hK;obtain⟨xs,x,ys,y,hq1,hx,hq2,hy⟩:=hg;obtain⟨its1,rv1,p1,hz1⟩:=I.list hq1;obtain⟨its2,rv2,p2,hz2⟩:=I.list hq2;obtain⟨u1,hu1,ru1⟩:=rv1.get hx;obtain⟨u2,hu2,ru2⟩:=rv2.get hy;obtain⟨a0,b0,hto⟩:=st.to;refine wpAny_pyNext_zip_item (st.apart D p1.isList p2.isList) st.zip st.ti hto st.l1 st.l2 p1.isList p2.isList (x:=u1) (y:=u2) (by simpa using hu1) (by simpa using hu2) fun h' hz' hTO' h1' h2' hT hsz hk=>?_;have hfr:=I.hok.fresh (Nat.le_refl s.heap.objs.size);have lt:∀{c:Addr}{o:Obj},s.heap.get? c=some o→c<s.heap.objs.size:=fun e=>Heap.lt_size e;have zlt:=lt st.zip;have i1lt:i1<s.heap.objs.size:=by obtain⟨_,q,_⟩:=st.l1;exact lt q
  have i2lt:i2<s.heap.objs.size:=by obtain⟨_,q,_⟩:=st.l2;exact lt q
  refine⟨_,rfl,wpAny_letOwnedTupleGo_zip hz' fun h2 hz2' hs2=>?_⟩;have hT2:IsPair h2 s.heap.objs.size u1 u2:=hs2.extBut _ _ (Nat.ne_of_gt zlt) hT;have I1:Inv X pins σ (upd H s.heap.objs.size (.tup [x,y])) {s with heap:=h2}:=
   I.turnedNew (t':=s.toks) (fp:=[z,TI,TO,i1,i2]) (fun c o hc q=>by
    have n1:c≠z:=fun e=>hc (by simp[e]);have n2:c≠TO:=fun e=>hc (by simp[e]);have n3:c≠i1:=fun e=>hc (by simp[e]);have n4:c≠i2:=fun e=>hc (by simp[e]);exact hs2.extBut c o n1 (hk c o n1 n2 n3 n4 q)) hf (Nat.le_refl _) ⟨by show 2≤sizeLine;decide,[u1,u2],.cons ru1 (.cons ru2 .nil),_,hT2,rfl,_,rfl⟩
  refine⟨.ref s.heap.objs.size,_,I1,rfl,⟨_,x,y,hfr,rfl,rfl,fun zs hz=>by rw[I.list_inj hz hq1];exact hx,fun zs hz=>by rw[I.list_inj hz hq2];exact hy⟩,⟨hz2',hs2.extBut _ _ D.TIz (hk _ _ D.TIz D.TITO D.TIi1 D.TIi2 st.ti),⟨_,_,hs2.extBut _ _ D.TOz hTO'⟩,h1'.at fun o q=>hs2.extBut _ _ D.i1z q,h2'.at fun o q=>hs2.extBut _ _ D.i2z q⟩,fun c hc=>?_⟩;have nb:c≠s.heap.objs.size:=by
   simp only[List.mem_cons,List.not_mem_nil,or_false] at hc;rcases hc with rfl|rfl|rfl|rfl|rfl
   ·exact Nat.ne_of_lt zlt
   ·exact Nat.ne_of_lt (lt st.ti)
   ·exact Nat.ne_of_lt (lt hto)
   ·exact Nat.ne_of_lt i1lt
   ·exact Nat.ne_of_lt i2lt
  rw[Zh nb];exact(hf c hc).1
 done:=by
  intro X hP hw hK hc i pins s σ H E I hf st hg;subst hP hw hK;obtain⟨xs,ys,hq1,hq2,hx⟩:=hg;obtain⟨its1,rv1,p1,hz1⟩:=I.list hq1;obtain⟨its2,rv2,p2,hz2⟩:=I.list hq2;obtain⟨a0,b0,hto⟩:=st.to;have e1:=rv1.length;have e2:=rv2.length;exact wpAny_pyNext_zip_end (I.ok.hd hc) (st.apart D p1.isList p2.isList) st.zip st.ti hto st.l1 st.l2 p1.isList p2.isList (by rcases hx with q|q;exact .inl (by simp;omega);exact .inr (by simp;omega)) fun h' eb=>⟨rfl,I.turnedL (t':=s.toks) (fp:=[z,TI,TO,i1,i2]) (fun c o hc q=>eb c o (fun e=>hc (by simp[e])) (fun e=>hc (by simp[e])) (fun e=>hc (by simp[e])) (fun e=>hc (by simp[e])) q) hf⟩
 self:=fun _ _ _ _ _ st h=>wpAny_pyIter_zip st.zip h
section
variable {X:Cx}
noncomputable def Zlo (K:PySem.W.Frag) (ta:TA):TI:=fun σ H R=>ta σ H fun vs H1=>∃a b,vs=[.ref a,.ref b]∧(∃xs,SqL K H1 a xs)∧(∃ys,SqL K H1 b ys)∧R (Itz K a b) H1
theorem ZeX{K:PySem.W.Frag}{a b:Expr}{ta:TA}{p pos tpos:Pos}{elts:List Expr}{k1:Nat}(ek:X.K=K)(hg:Gl X "zip")(hm:X.mg "zip" =none)(ha:PA X [a,b] ta)(hs:starEach [a,b] X.env=(false,eval a X.env)::starEach [b] X.env:=by rfl)(hpl:(backTo pos (starEach [b] X.env)).any (·.1)=false:=by rfl):
  PI X (.Tuple elts k1 tpos) (.Call (.Name "zip" p) [a,b] [] pos) (Zlo K ta):=by
 subst ek;intro pins s σ H R I h;refine Call_ (Zac I hg hm boot_zip (PyProof.Rows.callWith_type1 (thn (ha pos pins s σ H _ I h) fun us s1 ⟨vs,H1,I1,r1,q1⟩=>?_) hs hpl));obtain⟨b1,b2,rfl,⟨xs,hq1⟩,⟨ys,hq2⟩,q⟩:=q1;obtain⟨u1,u2,rfl,ru1,ru2⟩:=ZjU r1;cases ru1;cases ru2;obtain⟨its1,rv1,p1,hz1⟩:=I1.list hq1;obtain⟨its2,rv2,p2,hz2⟩:=I1.list hq2;refine call_zip_2 p1.isList p2.isList fun h' hz hTI hTO h1 h2 hsz hk=>?_;refine wpAny_pyIter_zip hz ?_;have I2:Inv X pins σ H1 {s1 with heap:=h'}:=I1.kept (t':=s1.toks) hk;have fr:∀k:Nat,s1.heap.objs.size≤s1.heap.objs.size+k:=fun k=>Nat.le_add_right _ _;refine⟨s1.heap.objs.size+4,[s1.heap.objs.size+4,s1.heap.objs.size+2,s1.heap.objs.size+3,s1.heap.objs.size,s1.heap.objs.size+1],_,_,H1,rfl,I2,ZiW b1 b2 _ _ _ _ _ (ZkI _),⟨hz,hTI,⟨_,_,hTO⟩,h1,h2⟩,fun c hc=>?_,q⟩;simp only[List.mem_cons,List.not_mem_nil,or_false] at hc;rcases hc with rfl|rfl|rfl|rfl|rfl
 ·exact I1.fpOk (fr 4) (I1.hok.fresh (fr 4))
 ·exact I1.fpOk (fr 2) (I1.hok.fresh (fr 2))
 ·exact I1.fpOk (fr 3) (I1.hok.fresh (fr 3))
 ·exact I1.fpOk (Nat.le_refl _) (I1.hok.fresh (Nat.le_refl _))
 ·exact I1.fpOk (fr 1) (I1.hok.fresh (fr 1))
end
theorem ZbR{K:PySem.W.Frag}{a b:Addr}{xs ys:List V}{H:Hp}(h1:SqL K H a xs)(h2:SqL K H b ys)(hl:xs.length=ys.length):Us (Itz K a b) xs.length (fun i H' v H2=>∃t,H' t=none∧v= .ref t∧H2=upd H' t (.tup [xs.getD i .non,ys.getD i .non])) H:=
 ⟨fun H' i e hi=>⟨xs,xs[i],ys,ys[i],e.seq h1,by simp[hi],e.seq h2,by simp⟩,fun H' i x H2 e hi ⟨t,z,z',ht,hv,hu,hz,hz'⟩=>⟨t,ht,hv,by
  have e1:=hz xs (e.seq h1);have e2:=hz' ys (e.seq h2);rw[hu];simp[List.getD,e1,e2]⟩,fun H' e=>⟨xs,ys,e.seq h1,e.seq h2,.inl (Nat.le_refl _)⟩⟩
namespace Rd
section
variable {K:PySem.W.Frag}{σ:St}{H:Hp}
theorem ZmS{ts:TA}{R:It→Hp→Prop}(h:ts σ H fun vs H1=>∃a b,vs=[.ref a,.ref b]∧(∃xs,SqL K H1 a xs)∧(∃ys,SqL K H1 b ys)∧R (Itz K a b) H1):Zlo K ts σ H R:=h
end
end Rd
end L2
namespace L2
open PySem PySem.Spec PyProof.Rows
section
variable {X:Cx}{K:PySem.W.Frag}
noncomputable def ZhJ (K:PySem.W.Frag):List V→Hp→VK→Prop:=fun xs H Q=>∃a p ys,xs=[.ref a,.ref p]∧SqL K H a ys∧H p=some (.tup [.ty "list",.ty "tuple"])∧Q (.bl true) H
theorem ZiF:Yz X (.builtin "isinstance") (ZhJ X.K):=by
 intro pins s σ H xs us Q I r h;obtain⟨a,p,ys,rfl,hq,hp,q⟩:=h;obtain⟨u,v,rfl,ru,rv⟩:=r.two;cases ru;cases rv;obtain⟨its,rvs,pl,hz⟩:=I.list hq;obtain⟨o1,h1,c1,_⟩:=pl.isList;obtain⟨_,its2,rv2,pt⟩:=(show ZO X.prog X.w H s.heap p (.tup [.ty "list",.ty "tuple"]) from I.hok p _ hp);obtain⟨o2,h2,c2,n2,d2⟩:=pt;obtain⟨v1,v2,rfl,r1,r2⟩:=rv2.two;obtain rfl:v1=Value.type "list" :=r1;obtain rfl:v2=Value.type "tuple" :=r2;obtain⟨cls,dd,dat,sl⟩:=o2;dsimp only at c2 d2;subst c2 d2;exact PySem.W.kia_tup (its:=[Value.type "list",Value.type "tuple"]) PySem.W.kitx_list I.kIn ⟨o1,h1,c1⟩ h2 (b:=true) (by rfl) (fun z=>nomatch z) fun tk=>⟨.bl true,H,I.tok tk,rfl,q⟩
theorem ZkP(e:X.K=K):Yz X (.builtin "isinstance") (ZhJ K):=e▸ZiF
end
namespace Rd
theorem ZmO{K:PySem.W.Frag}{H:Hp}{Q:VK}{a p:Addr}{ys:List V}(h:SqL K H a ys)(hp:H p=some (.tup [.ty "list",.ty "tuple"]))(q:Q (.bl true) H):ZhJ K [.ref a,.ref p] H Q:=⟨a,p,ys,rfl,h,hp,q⟩
end Rd
end L2
namespace L2
open PySem PySem.Spec PyProof.Rows
section
variable {X:Cx}
end
namespace Rd
end Rd
end L2
namespace L2
open PySem PySem.Spec PySem.W PyProof.Rows Builtin Builtin.ObjectAttr Builtin.Getset_descriptor
def Ud(x C:Addr)(h:Heap):Prop:=∃o,h.get? x=some o∧o.cls= .ref C
theorem Ud.type{M:Model}{h:Heap}{x C:Addr}(I:Ud x C h):Looks M h (typeOf (.ref x)) (.ref C):=by
 obtain⟨o,h1,h2⟩:=I;exact h2▸(Looks.ld h1).andThen .now
structure YJ(K:Frag)(C:Addr):Prop where
 cl:(clsIn K C).isSome=true
 ga:findIn K (.ref C) "__getattribute__" =some (some (.builtin "BaseException.__getattribute__"))
 gk:findIn K (.ref C) "__getattr__" =some none
 ca:findIn K (.ref C) "__class__" =some (some (.builtin "object.__class__"))
 cg:specialIn K (.builtin "object.__class__") "__get__" =some (some (.builtin "getset_descriptor.__get__"))
 ct:takesIn K (.builtin "object.__class__")=some true
 sub:subIn K (.ref C) (.type "BaseException")=some true
 mr:mroIn K C (.type "object")=some true
section
variable {prog:Program}{w:World}{A:Around}{E:Value→Shared→Prop}{s:Shared}{K:Frag}{x C:Addr}
theorem ZiS{M:Model}{h:Heap}(X:K.In h)(c:YJ K C):Looks M h (Builtin.ObjectAttr.find (.ref x) (.ref C) "__class__") (.bind (.builtin "getset_descriptor.__get__") (.builtin "object.__class__")):=by
 have L1:=looks_findIn (M:=M) X c.ca;have L2:Looks M h (Builtin.ObjectAttr.getOf (some (.builtin "object.__class__"))) (some (.builtin "getset_descriptor.__get__")):=looks_specialIn X c.cg;have L3:=looks_takesIn (M:=M) X c.ct;exact L1.andThen (L2.andThen ((show Looks M h (Builtin.ObjectAttr.dataDescriptor? (some (.builtin "object.__class__")) (some (.builtin "getset_descriptor.__get__"))) (some (.builtin "getset_descriptor.__get__",.builtin "object.__class__")) from L3.andThen .now).andThen (Looks.tag .now)))
theorem Zko{tp:Value}{R:Result→Shared→Prop}(X:K.In s.heap)(I:Ud x C s.heap)(c:YJ K C)(h:R (.ok (.ret (.ref C))) s):codeAny (model prog w) A (.call (.builtin "getset_descriptor.__get__") ⟨[.builtin "object.__class__",.ref x,tp],[]⟩) R s:=by
 obtain⟨hh,g,dr,t,os⟩:=s;have L0:=I.type (M:=model prog w);have L1:=looks_mroIn (M:=model prog w) X c.mr;refine codeAny_call_builtin KF.slot_gs.plain KF.entry_gs (KF.slot_gs.check _ _ _ _ _ _ _ _ KF.type_class (KF.args_gs _ _ _) ?_);unfold Builtin.«getset_descriptor.__get__» descrGet;rw[dga_obj];refine wpAny_bind (wpAny_pure ?_);unfold descrGetter descrCheckInstance descrNameAndClass isInstance;simp only[KF.owner_class]
 repeat lk
 refine⟨Code.quiet_builtin _ (by decide+kernel),codeAny_builtin KF.entry_class ?_⟩;unfold Builtin.«object.__class__» shownTypeOf
 repeat lk
 exact h
theorem ZiL{tk:Tok}{Q:Fin→Shared→Prop}(X:K.In s.heap)(I:Ud x C s.heap)(c:YJ K C)
  (h:Q (.done (.ret (.ref C))) s):wpAny (model prog w) A (Builtin.«object.__getattribute__» ⟨[.ref x,.str "__class__" tk],[]⟩) Q E s:=by
 obtain⟨hh,g,d,t,os⟩:=s;have L0:=I.type (M:=model prog w);have L3:=ZiS (M:=model prog w) (x:=x) X c;show wpAny _ _ (typeOf (.ref x) >>= _) _ _ _;refine wpAny_bind (L0.at (wpAny_bind (L3.at ?_)));show wpAny _ _ (holding [Value.builtin "object.__class__"] (call (.builtin "getset_descriptor.__get__") [.builtin "object.__class__",.ref x,.ref C]) >>= ret) _ _ _;exact wpAny_bind (wpAny_holding (wpAny_call (Zko (s:=⟨hh,g,d,t,os⟩) X I c (wpAny_pure h))))
theorem Zir{Q:Option Value→Shared→Prop}(X:K.In s.heap)(I:Ud x C s.heap)(c:YJ K C)(h:Q (some (.ref C)) {s with toks:=s.toks+1}):wpAny (model prog w) A (getAttr? (.ref x) "__class__") Q E s:=by
 obtain⟨hh,g,d,t,os⟩:=s;have L0:=I.type (M:=model prog w);have L1:=looks_findIn (M:=model prog w) X c.ga;have L2:=looks_findIn (M:=model prog w) X c.gk;have L4:Looks (model prog w) hh (isSubtype (.ref C) (.type "BaseException")) true:=looks_subIn X c.sub;have LI:Looks (model prog w) hh (isInstance (.ref x) (.type "BaseException")) true:=L0.andThen L4;unfold getAttr? getAttrBy? getAttrBy;refine wpAny_bind (wpAny_mkText (wpAny_bind (wpAny_attempt (wpAny_holding (wpAny_bind (L0.at (wpAny_bind (L1.at ?_))))))));show wpAny _ _ (getAttrByItsOwn _ _ _ _ _ _) _ _ _;unfold getAttrByItsOwn hookBefore;refine wpAny_bind (L2.at (wpAny_bind (wpAny_attempt (wpAny_holding ?_))));show wpAny _ _ (bindSpecial _ _ >>= _) _ _ _;rw[F.excAttr_ValueError.ga.bind (.ref x)];refine wpAny_bind (wpAny_pure (wpAny_call (codeAny_call_builtin F.excAttr_ValueError.ga.plain F.entry_bexc_ga ?_)));have hk:builtinKind "BaseException.__getattribute__" =some .slot:=by decide+kernel
 have hsp:splitId "BaseException.__getattribute__" =some ("BaseException","__getattribute__"):=by decide+kernel
 have ha:=F.args_bexc_ga (.ref x) (.str "__class__" t);have chk:∀(Q:Unit→Shared→Prop)(E:Value→Shared→Prop),Q () ⟨hh,g,d,t+1,os⟩→wpAny (model prog w) A.in1 (checkBuiltinCall "BaseException.__getattribute__" ⟨[.ref x,.str "__class__" t],[]⟩) Q E ⟨hh,g,d,t+1,os⟩:=fun Q E hQ=>by
  simp only[checkBuiltinCall,hk,hsp];refine wpAny_bind (LI.at ?_);simp only[Bool.not_true,Bool.false_eq_true,if_false];cases hsig:Manifest.signature? "BaseException.__getattribute__" with
  |none=>exact wpAny_pure hQ
  |some sig=>
   simp only[argsOk,hsig] at ha;have h2:Bind.checkArgs "BaseException.__getattribute__" sig ⟨[.ref x,.str "__class__" t],[]⟩=pure ():=ha;show wpAny _ _ (Bind.checkArgs "BaseException.__getattribute__" sig ⟨[.ref x,.str "__class__" t],[]⟩) Q E _;rw[h2];exact wpAny_pure hQ
 refine chk _ _ ?_;refine ZiL (s:=⟨hh,g,d,t+1,os⟩) (A:=A.in1) X I c ?_;exact handed_on rfl (wpAny_pure h)
theorem Zfs(c:YJ K C):KitX K (.ref x) (.ref C) (Ud x C) where
 ty:=fun _ _ _ I=>I.type
 it:=fun _ _ X _=>by
  obtain⟨cdD,hcD⟩:=Option.isSome_iff_exists.mp c.cl;unfold clsIn at hcD
  split at hcD
  ·rename_i c' d' cd' sl' ho;intro A' Q' E' s' k q;unfold isType loadHead;exact wpAny_bind (wpAny_loadPart (k _ _ (X _ _ ho)) (wpAny_pure q))
  ·cases hcD
 ne:=fun h tp dd its n sl X htp=>by
  obtain⟨cdD,hcD⟩:=Option.isSome_iff_exists.mp c.cl;refine Bool.eq_false_iff.mpr fun q=>?_;have e:C=tp:=Value.ref.inj (beq_iff_eq.mp q);subst e;unfold clsIn at hcD
  split at hcD
  ·rename_i c' d' cd' sl' ho;have z:=(X _ _ ho).symm.trans htp;cases z
  ·cases hcD
 ca:=fun X I k=>Zir X I c k
end
noncomputable def VX (x C:Addr):HO:= .ext (Ud x C)
section
variable {X:Cx}
noncomputable def Zi0 (K:Frag):List V→Hp→VK→Prop:=fun xs H Q=>∃(x C:Addr)(c:V)(u:Value)(b:Bool),xs=[.ref x,c]∧H x=some (VX x C)∧YJ K C∧(∀v,ZD c v→v=u)∧kitOne K (.ref C) u=some b∧Q (.bl b) H
theorem ZjG{K:Frag}(e:X.K=K):Yz X (.builtin "isinstance") (Zi0 K):=by
 subst e;intro pins s σ H xs us Q I r h;obtain⟨x,C,c,u,b,rfl,hx,ec,hu,hk,q⟩:=h;cases r with
 |cons r1 rr=>
  obtain⟨v,rfl,rv⟩:=Vl rr;cases (show _=Value.ref x from r1);have ev:=hu v rv;subst ev;obtain⟨hφ,_,_⟩:=(show ZO X.prog X.w H s.heap x (VX x C) from I.hok x _ hx);exact kia_one (Zfs ec) I.kIn hφ hk (fun z=>nomatch z) fun tk=>⟨.bl b,H,I.tok tk,rfl,q⟩
end
end L2
namespace L2
open PySem PySem.Spec PyProof.Rows
section
variable {X:Cx}{pins:List (Addr×Obj)}{σ:List (Option V)}{H:Hp}{s:Shared}
theorem Inv.track{ea:Addr}{o:HO}(I:Inv X pins σ H s)(h0:∀ob,X.s₀.heap.get? ea=some ob→ea∈X.ex)(hL:ea≠X.env.locals)(hc:∀x c,X.env.cells.lookup x=some c→c≠ea)(hp:∀p∈X.pn++pins,p.1≠ea)(hn:H ea=none)
  (new:ZO X.prog X.w (upd H ea o) s.heap ea o):Inv X pins σ (upd H ea o) s:=by
 refine⟨I.ok,I.os,I.bare,⟨I.base.keep,I.base.slot,fun b ob e n hx=>?_,I.base.there,fun b xs e=>?_,fun b ob u e=>?_,fun b ps e=>?_⟩,I.loc,I.cell,?_,fun x c e=>?_,fun p hp'=>?_,fun b u e=>?_,I.len⟩
 ·rw[Zh (fun z=>hx (by rw[z];exact h0 ob (by rw[←z];exact e)))];exact I.base.free b ob e n hx
 ·rw[Zh (Zy (I.base.tups b xs e) hn)];exact I.base.tups b xs e
 ·rw[Zh (Zy (I.base.frzs b ob u e) hn)];exact I.base.frzs b ob u e
 ·obtain⟨more,q⟩:=I.base.tbls b ps e;exact⟨more,by rw[Zh (Zy q hn)];exact q⟩
 ·rw[Zh (Ne.symm hL)];exact I.free
 ·rw[Zh (hc x c e)];exact I.freeC x c e
 ·obtain⟨a,b,r⟩:=I.pin p hp';exact⟨a,by rw[Zh (hp p hp')];exact b,r⟩
 ·by_cases hb:b=ea
  ·subst hb;rw[Ze] at e;cases e;exact new
  ·rw[Zh hb] at e;exact(I.hok b u e).stay (fun c v _ q=>q) (fun c q=>by rw[Zh (Zy q hn)];exact q) fun c xs q=>by rw[Zh (Zy q hn)];exact q
theorem Inv.dropName{h':Heap}{t':Nat}{j:Nat}{n:Str}{m:Str→Option Value}{v:Option Value}(I:Inv X pins σ H s)(hN:X.N.Nodup)(hj:X.N[j]? =some n)(hs:Heap.SameBut X.env.locals s.heap h')
  (hm:∀(i:Nat) x w,X.N[i]? =some x→σ[i]? =some (some w)→Vis X.env.scope x→∃u,ZD w u∧ZlQ X.env s.heap m x u) (hn:h'.Ns X.env.locals (fun x=>if x=n then v else m x)):Inv X pins (σ.set j none) H {s with heap:=h',toks:=t'}:=by
 have neL:∀b o,X.s₀.heap.get? b=some o→b≠X.env.locals:=fun b o e=>Nat.ne_of_lt (Nat.lt_of_lt_of_le (Heap.lt_size e) I.ok.above);have k:∀b o,b≠X.env.locals→s.heap.get? b=some o→h'.get? b=some o:=fun b o hb e=>(hs.2 b hb).trans e;refine⟨I.ok,I.os,I.bare,⟨fun b o e n' hb hx=>k b o (neL b o e) (I.base.keep b o e n' hb hx),fun b o e n' hb hx=>?_,I.base.free,fun b o e hx=>?_,I.base.tups,I.base.frzs,I.base.tbls⟩,⟨_,hn,fun i x w e1 e2 e3=>?_⟩,fun x c e=>?_,I.free,I.freeC,fun p hp=>?_,fun b u e=>?_,by rw[List.length_set];exact I.len⟩
 ·obtain⟨sl,q⟩:=I.base.slot b o e n' hb hx;exact⟨sl,k b _ (neL b o e) q⟩
 ·obtain⟨o',q⟩:=I.base.there b o e hx;exact⟨o',k b o' (neL b o e) q⟩
 ·by_cases ij:i=j
  ·subst ij;have:(σ.set i none)[i]? =some none∨(σ.set i none)[i]? =none:=by
    rcases Nat.lt_or_ge i σ.length with z|z
    ·exact .inl (by rw[List.getElem?_set_self z])
    ·exact .inr (List.getElem?_eq_none (by rw[List.length_set];exact z))
   rcases this with z|z<;>(rw[z] at e2;cases e2)
  ·rw[List.getElem?_set_ne (fun z=>ij z.symm)] at e2;obtain⟨u,r,l⟩:=hm i x w e1 e2 e3;have nx:x≠n:=fun z=>ij (ZcK hN (by rw[e1,z]) hj);refine⟨u,r,?_⟩;rcases l with⟨a,b⟩|⟨a,c,e,o,ho,hd⟩
   ·exact .inl ⟨a,by simp only[if_neg nx];exact b⟩
   ·exact .inr ⟨a,c,e,o,k c o (I.cne x c e) ho,hd⟩
 ·obtain⟨w,o,ho,hd⟩:=I.cell x c e;exact⟨w,o,k c o (I.cne x c e) ho,hd⟩
 ·obtain⟨a,b,c,r⟩:=I.pin p hp;exact⟨k _ _ c a,b,c,r⟩
 ·refine(I.hok b u e).stay (fun c v' hc q=>k c v' ?_ q) (fun _ q=>q) fun _ _ q=>q;rcases hc with z|z
  ·rw[z];exact Zy e I.free
  ·exact Zy z I.free
end
section
variable {X:Cx}
noncomputable def ZhV (K:PySem.W.Frag) (c:Value) (j:Nat) (tb:(St→Prop)→XK→TS) (th:TS):TS:=fun D σ H=>∃(J:St→Prop)(E1:XK),tb J E1 D σ H∧∀σ' cls H',J σ'→E1 cls none H'→PySem.W.exmOne K cls c=some true∧∃C,cls= .ref C∧∀ea,H' ea=none→
 th {D with nx:=fun σ2 H2=>D.nx (σ2.set j none) H2,bk:=fun σ2 H2=>D.bk (σ2.set j none) H2,ct:=fun σ2 H2=>D.ct (σ2.set j none) H2} (σ'.set j (some (.ref ea))) (upd H' ea (VX ea C))
theorem Zjr{n:Str}{j:Nat}{body:List Stmt}{b₀:Stmt}{suite:List Stmt}{x:Str}{np hpos pos:Pos}{tb:(St→Prop)→XK→TS}{th:TS}{C:Addr}
  (hst:X.stack=X.env::X.outer) (hfr:X.env.frame=some X.env.locals) (hg:Gl X x) (hm:X.mg x=some (.ref C)) (hb:Zm2 X body tb) (hs:ZlD X (b₀::suite) th) (hN:X.N.Nodup) (hj:X.N[j]? =some n) (hloc:X.env.scope.names.lookup n=some .local) (hdb:(x==("__debug__" :Str))=false:=by decide):
  PS X (.Try body [.ExceptHandler (some (.Name x np)) (some n) (b₀::suite) hpos] [] [] pos) (ZhV X.K (.ref C) j tb th):=by
 intro pins s σ H D I h;obtain⟨J,E1,hb1,hh⟩:=h;have hfra:X.A.frames=some (X.env::X.outer):=by rw[I.ok.frames,hst]
 refine wpAny_Try_except ?_
 let xe1:Value→Shared→Prop:=fun e s₁=>wpAny (model X.prog X.w) X.A (noteFrame e X.env) (fun _ s₂=>wpAny (model X.prog X.w) X.A (setFlight e none) (fun _ s₃=>wpAny (model X.prog X.w) X.A (handleBy e X.env [.ExceptHandler (some (.Name x np)) (some n) (b₀::suite) hpos]) (SP X pins D) X.xe s₃) X.xe s₂) X.xe s₁
 have own:PassesOwn (model X.prog X.w) X.A X.env xe1:=PassesOwn.looking;have back:∀{xe:Value→Shared→Prop}{pins':List (Addr×Obj)}{σ':St}{H':Hp}{s':Shared},Inv {X with pn:=X.pn++pins,xe:=xe} pins' σ' H' s'→Inv X pins σ' H' s':=fun{xe pins' σ' H' s'} J=>by
  have o:=J.ok;exact⟨⟨o.mod,o.kind,o.glob,o.blt,o.above,o.inj,o.has,o.cab,o.hd,o.frames,o.stk,o.exf,o.bs,o.bsz,o.noex,o.exfs,o.funs,o.frf⟩,J.os,J.bare,J.base,J.loc,J.cell,J.free,J.freeC,fun p hp=>J.pin p (List.mem_append_left _ hp),J.hok,J.len⟩
 have forth:Inv {X with pn:=X.pn++pins,xe:=xe1} [] σ H s:=by
  have o:=I.ok;exact⟨⟨o.mod,o.kind,o.glob,o.blt,o.above,o.inj,o.has,o.cab,o.hd,o.frames,o.stk,o.exf,o.bs,o.bsz,o.noex,o.exfs,o.funs,o.frf⟩,I.os,I.bare,I.base,I.loc,I.cell,I.free,I.freeC,fun p hp=>I.pin p (by simpa using hp),I.hok,I.len⟩
 have pas:ZdA (CXX X.prog X.w) {X with pn:=X.pn++pins,xe:=xe1} J E1:=by
  intro pins' σ' H1 s1 e s' hJ I1 hcx;obtain⟨ea,cls,a0,H',B,rfl,os,bare,un,ok,fl,hB,q⟩:=hcx;have I':=back I1;obtain⟨hmt,Ce,rfl,hth⟩:=hh σ' cls H' hJ q;have fl0:Heap.FlyingW B (X.env::X.outer) ea (.ref Ce) a0 s'.heap:=by rw[←hst];exact fl
  show wpAny _ _ _ _ _ _;refine wpAny_looks_onW hfra hfr fl0 fun h₄ held₄ sl₄=>?_;refine wpAny_landsW held₄ fun h₅ fl₅ sl₅=>?_;have there:∀{h6:Heap},Heap.FlyingW B (X.env::X.outer) ea (.ref Ce) a0 h6→s'.heap.UpToSlots h6→Inv X pins σ' H' {s' with heap:=h6}:=fun{h6} f6 sl=>by
   have u6:Un (frs X.stack) [] H1 H' s1.heap h6:=un.fly hB f6.1 sl (fun b hb o e=>by
    obtain⟨_,o',e',d⟩:=I'.stack.mem hb;rw[e] at e';cases e';exact d) I'.stkFree
   exact I'.call' (s':={s' with heap:=h6}) os u6 (ok.stays (fun b o e n=>hB b o e (.inl n)) f6.1) bare (fun b z=>absurd z (by simp))
  have held:∀{s6:Shared},Inv X pins σ' H' s6→Inv {X with A:=X.A.mark (some (.ref ea)),calm:=false,xe:=fun _ _=>False} pins σ' H' s6:=fun{s6} J=>by
   have o:=J.ok;exact⟨⟨o.mod,o.kind,o.glob,o.blt,o.above,o.inj,o.has,o.cab,fun z=>absurd (show false=true from z) Bool.false_ne_true,o.frames,o.stk,o.exf,o.bs,o.bsz,o.noex,o.exfs,o.funs,o.frf⟩,J.os,J.bare,J.base,J.loc,J.cell,J.free,J.freeC,J.pin,J.hok,J.len⟩
  have I5:=held (there fl₅ (sl₄.trans sl₅));refine wpAny_handleBy_cons (codeAny_handlers_test ?_) (by intro q;cases q);refine V7 I5 hg hm ?_ hdb;obtain⟨ob,hob,hobc⟩:=fl₅.there;have LT:PySem.W.Looks (model X.prog X.w) h₅ (typeOf (.ref ea)) (.ref Ce):=by
   exact hobc▸(PySem.W.Looks.ld hob).andThen .now
  refine(PySem.W.exm_one I5.kIn LT hmt).here ?_;refine codeAny_handlers_suite_as ?_;refine lands_againW fl₅ fun h₆ fl₆ sl₆=>?_;have I6:=held (there fl₆ ((sl₄.trans sl₅).trans sl₆));obtain⟨oe,heo,hec⟩:=fl.there;have old:∀b o,s1.heap.get? b=some o→b≠ea:=fun b o e z=>by
   subst z
   by_cases hf:b∈frs X.stack
   ·obtain⟨_,o',e',d⟩:=I'.stack.mem hf;obtain⟨sl,q'⟩:=un.any e' (I'.stkFree b hf) (by simp);obtain⟨ox,vs,hx1,_,hx3,_⟩:=fl.first;rw[q'] at hx1;cases hx1;exact d vs hx3
   ·have:=hB b oe heo (.inr ⟨⟨o,e⟩,hf⟩);rw[fl.2.1] at this;cases this
  have hne:H' ea=none:=by
   cases e:H' ea with
   |none=>rfl
   |some o=>
    have:=hB ea oe heo (.inl (by rw[e];simp));rw[fl.2.1] at this;cases this
  have h0:∀ob,X.s₀.heap.get? ea=some ob→ea∈X.ex:=fun ob e=>by
   by_cases hx:ea∈X.ex
   ·exact hx
   ·obtain⟨o',q'⟩:=I'.base.there ea ob e hx;exact absurd rfl (old ea o' q')
  obtain⟨om,heo6,hec6⟩:=fl₆.there;have I7:=Inv.track (o:=VX ea Ce) I6 h0 (fun z=>by
   obtain⟨m,⟨o,es,ep,ho,_⟩,_⟩:=I'.loc;exact old _ o ho z.symm) (fun y c e=>by
   obtain⟨v,o,ho,_⟩:=I'.cell y c e;exact old c o ho) (fun p' hp'=>old _ _ (I'.pin p' hp').1) hne ⟨⟨om,heo6,hec6⟩,⟨om,heo6⟩,fun h1 h2 ⟨o,a1,a2⟩ k=>⟨o,k o a1,a2⟩⟩
  refine U8 (X:={X with A:=X.A.mark (some (.ref ea)),calm:=false,xe:=fun _ _=>False}) I7 hN hj (.inl hloc) (show ZD (.ref ea) (.ref ea) from rfl) (fun s7 I8=>?_) (.inr hloc);refine wpAny_mono (hs (X.A.mark (some (.ref ea))) pins s7 _ _ _ I8 (hth ea hne)) (fun f s2 h2=>?_) fun _ _ z=>False.elim z;have un2:∀{σ2:St}{H2:Hp}{s2:Shared},Inv {X with A:=X.A.mark (some (.ref ea)),calm:=false,xe:=fun _ _=>False} pins σ2 H2 s2→Inv X pins σ2 H2 s2:=fun{σ2 H2 s2} J=>by
   have o:=J.ok;exact⟨⟨o.mod,o.kind,o.glob,o.blt,o.above,o.inj,o.has,o.cab,I.ok.hd,I.ok.frames,o.stk,o.exf,o.bs,o.bsz,o.noex,o.exfs,o.funs,o.frf⟩,J.os,J.bare,J.base,J.loc,J.cell,J.free,J.freeC,J.pin,J.hok,J.len⟩
  have goes:∀{σ2:St}{H2:Hp}{s2:Shared}{Q:Unit→Shared→Prop},Inv X pins σ2 H2 s2→(∀s3,Inv X pins (σ2.set j none) H2 s3→Q () s3)→wpAny (model X.prog X.w) X.A (do bindName X.env n .none;unbindBehindTheSuite X.env n hpos) Q X.xe s2:=fun{σ2 H2 s2 Q} J hq=>by
   refine wpAny_bind (wpAny_bindName (U8 (u:= .none) J hN hj (.inl hloc) (show ZD .non .none from rfl) (fun s3 J3=>?_) (.inr hloc)));obtain⟨m,hn,hl⟩:=J3.loc;have hcls:(X.env.scope.kind== .class||(X.env.scope.kind== .module&&X.env.locals != X.env.globals))=false:=by rw[J3.ok.kind];rfl
   have hkn:X.env.kindOf n=some .local:=hloc;unfold unbindBehindTheSuite;refine wpAny_onRaise ?_;unfold unbindName;refine wpAny_bind (wpAny_point (wpAny_bind ?_));unfold deleteName;simp only[hkn,hcls];rw[if_neg (by decide)];refine wpAny_bind (wpAny_nsDel_keeps hn fun h₂ v hn₂ hs₂=>?_);have J4:Inv X pins ((σ2.set j (some .non)).set j none) H2 {s3 with heap:=h₂,toks:=s3.toks}:=J3.dropName hN hj hs₂ hl hn₂;rw[List.set_set] at J4;have hjl:j<σ2.length:=by rw[J.len];exact(List.getElem?_eq_some_iff.mp hj).1
   have hmn:(m n).isSome=true:=by
    obtain⟨u,r,l⟩:=hl j n .non hj (by rw[List.getElem?_set_self hjl]) (.inl hloc);rcases l with⟨_,b⟩|⟨a,_⟩
    ·rw[b];rfl
    ·rcases a with a|a<;>(rw[hkn] at a;cases a)
   rw[hmn];simp only[if_true,Bool.not_true,Bool.false_eq_true,if_false];exact wpAny_pure (wpAny_point (hq _ J4))
  show wpAny (model X.prog X.w) X.A (do bindName X.env n .none;unbindBehindTheSuite X.env n hpos) (fun _ s₃=>SP X pins D f s₃) X.xe s2;cases f with
  |next=>obtain⟨σ2,H2,J2,q2⟩:=h2;exact goes (un2 J2) fun s3 J3=>⟨_,H2,J3,q2⟩
  |brk=>obtain⟨σ2,H2,J2,q2⟩:=h2;exact goes (un2 J2) fun s3 J3=>⟨_,H2,J3,q2⟩
  |cont=>obtain⟨σ2,H2,J2,q2⟩:=h2;exact goes (un2 J2) fun s3 J3=>⟨_,H2,J3,q2⟩
  |ret u=>obtain⟨v,σ2,H2,J2,r2,q2⟩:=h2;exact goes (un2 J2) fun s3 J3=>⟨v,_,H2,J3,r2,q2⟩
 refine wpAny_mono (hb J E1 (X.pn++pins) xe1 own pas [] s σ H D forth hb1) (fun f s1 h1=>?_) fun e s1 h1=>h1;cases f with
 |next=>
  obtain⟨σ2,H2,J2,q2⟩:=h1;show wpAny _ _ (execs [] X.env) _ _ _;exact wpAny_pure ⟨σ2,H2,back J2,q2⟩
 |brk=>obtain⟨σ2,H2,J2,q2⟩:=h1;exact⟨σ2,H2,back J2,q2⟩
 |cont=>obtain⟨σ2,H2,J2,q2⟩:=h1;exact⟨σ2,H2,back J2,q2⟩
 |ret u=>obtain⟨v,σ2,H2,J2,r2,q2⟩:=h1;exact⟨v,σ2,H2,back J2,r2,q2⟩
end
end L2
namespace L2
open PySem PySem.Spec PyProof.Rows
namespace Rd
section
variable {σ:St}{H:Hp}{Q:VK}{K:PySem.W.Frag}
theorem ZlY{c:Value}{j:Nat}{tb:(St→Prop)→XK→TS}{th:TS}{D:Vf}(E1:XK)(hb:tb (fun s=>s=σ) E1 D σ H)(hh:∀cls H',E1 cls none H'→PySem.W.exmOne K cls c=some true∧∃C,cls= .ref C∧∀ea,H' ea=none→
  th {D with nx:=fun σ2 H2=>D.nx (σ2.set j none) H2,bk:=fun σ2 H2=>D.bk (σ2.set j none) H2,ct:=fun σ2 H2=>D.ct (σ2.set j none) H2} (σ.set j (some (.ref ea))) (upd H' ea (VX ea C))):ZhV K c j tb th D σ H:=
 ⟨fun s=>s=σ,E1,hb,fun _ cls H' e h=>e▸hh cls H' h⟩
theorem ZmF{x C B:Addr}{b:Bool}(h:H x=some (VX x C))(ec:YJ K C)(k:PySem.W.kitOne K (.ref C) (.ref B)=some b)(q:Q (.bl b) H):Zi0 K [.ref x,.ref B] H Q:=⟨x,C,.ref B,.ref B,b,rfl,h,ec,fun v r=>r,k,q⟩
theorem Znf{x C:Addr}{n:String}{b:Bool}(h:H x=some (VX x C))(ec:YJ K C)(k:PySem.W.kitOne K (.ref C) (.type n)=some b)(q:Q (.bl b) H):Zi0 K [.ref x,.ty n] H Q:=⟨x,C,.ty n,.type n,b,rfl,h,ec,fun v r=>r,k,q⟩
end
end Rd
theorem WW{K:PySem.W.Frag}{C:Addr}{bm:List Value}{n:String}(h:PySem.W.excIn K C bm n=true):(PySem.W.clsIn K C).isSome=true:=by
 unfold PySem.W.excIn at h
 split at h
 ·rename_i dd cd sl ho;unfold PySem.W.clsIn;rw[ho]
  rfl
 ·cases h
end L2
namespace L2
open PySem PySem.Spec PySem.W PyProof.Rows
section
variable {X:Cx}
noncomputable def ZjC (K:Frag):List V→Hp→VK→Prop:=fun xs H Q=>∃(x p C A B:Addr)(a b:Bool),xs=[.ref x,.ref p]∧H x=some (VX x C)∧YJ K C∧H p=some (.tup [.ref A,.ref B])∧kitOne K (.ref C) (.ref A)=some a∧kitOne K (.ref C) (.ref B)=some b∧Q (.bl (a||b)) H
theorem Zle{K:Frag}(e:X.K=K):Yz X (.builtin "isinstance") (ZjC K):=by
 subst e;intro pins s σ H xs us Q I r h;obtain⟨x,p,C,A,B,a,b,rfl,hx,ec,hp,ha,hb,q⟩:=h;obtain⟨u,v,rfl,ru,rv⟩:=r.two;cases ru;cases rv;obtain⟨hφ,_,_⟩:=(show ZO X.prog X.w H s.heap x (VX x C) from I.hok x _ hx);obtain⟨_,its2,rv2,pt⟩:=(show ZO X.prog X.w H s.heap p (.tup [.ref A,.ref B]) from I.hok p _ hp);obtain⟨o2,h2,c2,n2,d2⟩:=pt;obtain⟨v1,v2,rfl,r1,r2⟩:=rv2.two;obtain rfl:v1=Value.ref A:=r1;obtain rfl:v2=Value.ref B:=r2;obtain⟨cls,dd,dat,sl⟩:=o2;dsimp only at c2 d2;subst c2 d2;exact kia_tup (its:=[Value.ref A,Value.ref B]) (Zfs ec) I.kIn hφ h2 (b:=(a||b)) (by cases a<;>cases b<;>simp[kitAny,ha,hb]) (fun z=>nomatch z) fun tk=>⟨.bl (a||b),H,I.tok tk,rfl,q⟩
end
namespace Rd
theorem ZmX{K:Frag}{H:Hp}{Q:VK}{x p C A B:Addr}{a b:Bool}(h:H x=some (VX x C))(ec:YJ K C)(hp:H p=some (.tup [.ref A,.ref B]))(ha:kitOne K (.ref C) (.ref A)=some a)(hb:kitOne K (.ref C) (.ref B)=some b)(q:Q (.bl (a||b)) H):ZjC K [.ref x,.ref p] H Q:=⟨x,p,C,A,B,a,b,rfl,h,ec,hp,ha,hb,q⟩
end Rd
end L2
namespace L2
open PySem PySem.Spec PySem.W PyProof.Rows
theorem Zj6{x C:Addr}:Answers (fun s=>Ud x C s.heap) (.ref x) (.ref C) true:=by
 intro dep tk prog w A R s hs;obtain⟨h0,g,d,tt,os⟩:=s;obtain⟨p,hq⟩:=hs;have LT:=Ud.type (M:=model prog w) p;unfold Builtin.«isinstance.nested»;refine wpAny_bind (LT.at ?_);rw[if_pos (beq_self_eq_true _)]
 first
  |exact wpAny_bind (wpAny_rule (hq tt))
  |exact wpAny_bind (wpAny_rule (wpAny_pure (hq tt)))
  |exact hq tt
  |exact wpAny_pure (hq tt)
section
variable {X:Cx}
noncomputable def rIsI:List V→Hp→VK→Prop:=fun xs H Q=>∃(x C dx:Addr)(fs:List (Str×V)),xs=[.ref x,.ref C]∧H x=some (.ins C dx fs)∧Q (.bl true) H
theorem Zmk:Yz X (.builtin "isinstance") rIsI:=by
 intro pins s σ H xs us Q I r h;obtain⟨x,C,dx,fs,rfl,hx,q⟩:=h;obtain⟨u,v,rfl,ru,rv⟩:=r.two;cases ru;cases rv;obtain⟨_,_,_,ob,_⟩:=(show ZO X.prog X.w H s.heap x (.ins C dx fs) from I.hok x _ hx);exact call_isinstance (S:=fun _ R s=>Ud x C s.heap∧∀tk,R (.ok (.ret (.bool true))) {s with toks:=tk})
  (fun prog w A R s hs=>isinstance_outer (Zj6 0 _ prog w A R s hs) (fun z=>nomatch z)) ⟨⟨_,ob,rfl⟩,fun tk=>⟨.bl true,H,I.tok tk,rfl,q⟩⟩
end
namespace Rd
theorem isI{H:Hp}{Q:VK}{x C dx:Addr}{fs:List (Str×V)}(h:H x=some (.ins C dx fs))(q:Q (.bl true) H):rIsI [.ref x,.ref C] H Q:=⟨x,C,dx,fs,rfl,h,q⟩
end Rd
end L2
namespace L2
open PySem PySem.Spec PyProof.Rows
section
variable {X:Cx}
noncomputable def ZhS (K:PySem.W.Frag):List V→Hp→VK→Prop:=fun xs H Q=>∃(a:Addr)(ks:List Int),xs=[V.ref a]∧SqL K H a (ks.map V.int)∧ks.length<64∧∀(l:Addr)(ns:List Int),H l=none→ns.Perm ks→ns.Pairwise (· ≤·)→Q (.ref l) (upd H l (.lst (ns.map V.int)))
theorem Ze1{K:PySem.W.Frag}(hK:X.K=K):Yz X (.builtin "sorted") (ZhS K):=by
 subst hK;intro pins s σ H xs us Q I r h;obtain⟨a,ks,rfl,ha,h64,q⟩:=h;obtain⟨u,rfl,ru⟩:=Vl r;cases ru;obtain⟨its,rv,pl,hz⟩:=I.list ha;have hI:=Zdl rv;have hl:its.length=ks.length:=by have:=rv.length;simpa using this.symm
 obtain⟨o,ho,hcl,n,hdt⟩:=pl.isList;have hzz:ks.length≤sizeLine:=Nat.le_of_lt (Zq (n:=ks.length) (by omega));refine Calls.call_function_entry kind_sorted plain_sorted entry_sorted (args_sorted1 _) ?_;unfold Builtin.«sorted»;refine wpAny_bind (m:=checkCount "sorted" 1 1 _) (wpAny_pure ?_);refine wpAny_bind (wpAny_collect_seq a (.inl rfl) ho hcl hdt (fun h' hk=>?_) (by rw[List.size_toArray,hl];exact hzz));rw[List.toList_toArray];refine wpAny_bind (wpAny_newList ?_ (by rw[hl];exact hzz));have hoL:(h'.push (seqObj "list" its.toArray 0)).get? h'.objs.size=some (seqObj "list" its.toArray 0):=Heap.get?_push_size _ rfl;have I1:Inv X pins σ H {s with heap:=h'}:=I.kept hk;refine wpAny_bind (wpAny_holding (wpAny_call_entry slot_list_sort ⟨_,hoL,rfl⟩ entry_list_sort (list_sort_tree hoL hI (by rw[hl];exact h64) fun out ns' a1 a2 a3=>⟨_,rfl,?_⟩) (args_list_sort _)));refine wpAny_pure ⟨_,rfl,?_⟩;obtain⟨e,he⟩:=sortedHeap_at (out:=out) hoL;have hv':=Zah a1;refine⟨.ref h'.objs.size,_,I1.laid (a:=h'.objs.size) (o:= .lst (ns'.map V.int)) (t':=s.toks) (fun b o hb'=>?_) (Nat.le_refl _) ⟨by rw[List.length_map,a2.length_eq];exact hzz,out.toList,e,hv',by simpa using he⟩,rfl,q _ ns' (I1.hok.fresh (Nat.le_refl _)) a2 a3⟩;have hlt:=Heap.lt_size hb';rw[sortedHeap_old (Nat.ne_of_lt hlt) (by rw[size_push'];exact Nat.lt_succ_of_lt hlt)];exact Heap.get?_push_of_some _ hb'
end
namespace Rd
section
variable {K:PySem.W.Frag}{H:Hp}{Q:VK}
theorem Zl5{a:Addr}{ks:List Int}(h:SqL K H a (ks.map V.int))(hl:ks.length<64)(q:∀(l:Addr)(ns:List Int),H l=none→ns.Perm ks→ns.Pairwise (· ≤·)→Q (.ref l) (upd H l (.lst (ns.map V.int)))):ZhS K [V.ref a] H Q:=⟨a,ks,rfl,h,hl,q⟩
end
end Rd
end L2
namespace My
@[irreducible] noncomputable def G (a b:Int):Int:=((Int.gcd a b:Nat):Int)
theorem ZeI(n m:Nat):G (n:Int) (m:Int)=((Nat.gcd n m:Nat):Int):=by
 unfold G
 rfl
theorem ZlM{a b:Int}(ha:0≤a)(hb:b=0):G a b=a:=by
 subst hb;obtain⟨n,rfl⟩:=Int.eq_ofNat_of_zero_le ha;have:=ZeI n 0;rw[Nat.gcd_zero_right] at this;exact this
theorem ZlA{a b:Int}(ha:0≤a)(hb:0<b):G b (Int.fmod a b)=G a b:=by
 obtain⟨n,rfl⟩:=Int.eq_ofNat_of_zero_le ha;obtain⟨m,rfl⟩:=Int.eq_ofNat_of_zero_le (Int.le_of_lt hb);rw[Int.fmod_eq_emod_of_nonneg _ (Int.natCast_nonneg m),←Int.natCast_emod,ZeI,ZeI,Nat.gcd_comm n m,Nat.gcd_rec m n,Nat.gcd_comm]
structure S(k:Nat)(x:Int):Prop where
 lo:0≤x
 hi:x.toNat<2 ^ (2048*2 ^ k)
theorem Zk6{j k:Nat}(h:j≤k):2 ^ (2048*2 ^ j)≤2 ^ (2048*2 ^ k):=
 Nat.pow_le_pow_right (by decide) (Nat.mul_le_mul_left _ (Nat.pow_le_pow_right (by decide) h))
theorem S.mono{j k:Nat}{x:Int}(h:S j x)(hj:j≤k):S k x:=⟨h.lo,Nat.lt_of_lt_of_le h.hi (Zk6 hj)⟩
end My
namespace Fo
noncomputable abbrev Trip:=Int×Int×Bool
noncomputable abbrev ZF:=List (Int×Option Trip)
noncomputable def keys (tr:ZF):List Int:=tr.map (·.1)
theorem Zag(tr:ZF)(w:Int)(s:Option Trip):keys (tr++ [(w,s)])=keys tr++ [w]:=by simp[keys]
theorem WF{tr:ZF}{i:Nat}{w:Int}{s:Option Trip}(h:tr[i]? =some (w,s)):w∈keys tr:=List.mem_map.mpr ⟨(w,s),List.mem_of_getElem? h,rfl⟩
theorem V8{tr:ZF}{w:Int}(h:w∈keys tr):∃(i:Nat)(s:Option Trip),tr[i]? =some (w,s):=by
 obtain⟨⟨w',s⟩,hm,rfl⟩:=List.mem_map.mp h;obtain⟨i,hi⟩:=List.getElem?_of_mem hm;exact⟨i,s,hi⟩
structure Z6(ways:Int→List Trip)(first:Int)(tr:ZF):Prop where
 head:tr[0]? =some (first,none)
 nodup:(keys tr).Nodup
 steps:∀(i:Nat)(w p b:Int)(al:Bool),tr[i]? =some (w,some (p,b,al))→(w,b,al)∈ways p∧∃(j:Nat)(s:Option Trip),j<i∧tr[j]? =some (p,s)
 only:∀(i:Nat)(w:Int),tr[i]? =some (w,none)→i=0
def Uy(ways:Int→List Trip)(tr:ZF)(d:Nat):Prop:=∀(j:Nat)(w:Int)(s:Option Trip),j<d→tr[j]? =some (w,s)→∀t∈ways w,t.1∈keys tr
section
variable {ways:Int→List Trip}{first:Int}{tr:ZF}
theorem ZiM:Z6 ways first [(first,none)]:=by
 refine⟨rfl,by simp[keys],fun i w p b al h=>?_,fun i w h=>?_⟩
 ·cases i with
  |zero=>simp at h
  |succ i=>simp at h
 ·cases i with
  |zero=>rfl
  |succ i=>simp at h
theorem Zdw{tr:ZF}{x y:Int×Option Trip}{i:Nat}(h:(tr++ [x])[i]? =some y):tr[i]? =some y∨(i=tr.length∧y=x):=by
 rcases Nat.lt_or_ge i tr.length with c|c
 ·rw[List.getElem?_append_left c] at h;exact .inl h
 ·rw[List.getElem?_append_right c] at h;have:i-tr.length=0:=by
   rcases Nat.eq_zero_or_pos (i-tr.length) with z|z
   ·exact z
   ·rw[List.getElem?_eq_none (by simp;omega)] at h;cases h
  rw[this] at h;simp at h;exact .inr ⟨by omega,h.symm⟩
theorem Zci{tr:ZF}{x y:Int×Option Trip}{i:Nat}(h:tr[i]? =some y):(tr++ [x])[i]? =some y:=by
 rw[List.getElem?_append_left (List.getElem?_eq_some_iff.mp h).1];exact h
theorem Z6.snoc(g:Z6 ways first tr){w p b:Int}{al:Bool}{j:Nat}{s:Option Trip}(hp:tr[j]? =some (p,s))(hw:(w,b,al)∈ways p)(hn:w∉keys tr):Z6 ways first (tr++ [(w,some (p,b,al))]):=by
 have hj:=(List.getElem?_eq_some_iff.mp hp).1;refine⟨Zci g.head,?_,fun i w' p' b' al' h=>?_,fun i w' h=>?_⟩
 ·rw[Zag];refine List.nodup_append.mpr ⟨g.nodup,by simp,fun x hx y hy=>?_⟩;rw[List.mem_singleton.mp hy];intro e;exact hn (e▸hx)
 ·rcases Zdw h with z|⟨rfl,z⟩
  ·obtain⟨h1,j',s',h2,h3⟩:=g.steps i w' p' b' al' z;exact⟨h1,j',s',h2,Zci h3⟩
  ·cases z;exact⟨hw,j,s,hj,Zci hp⟩
 ·rcases Zdw h with z|⟨rfl,z⟩
  ·exact g.only i w' z
  ·cases z
theorem Uy.snoc{d:Nat}(h:Uy ways tr d)(hd:d≤tr.length)(w:Int)(s:Option Trip):Uy ways (tr++ [(w,s)]) d:=fun j w' s' hj e t ht=>by
 rw[Zag];refine List.mem_append_left _ ?_;rcases Zdw e with z|⟨rfl,_⟩
 ·exact h j w' s' hj z t ht
 ·omega
theorem Uy.next{d:Nat}{w:Int}{s:Option Trip}(h:Uy ways tr d)(e:tr[d]? =some (w,s))(all:∀t∈ways w,t.1∈keys tr):Uy ways tr (d+1):=fun j w' s' hj e' t ht=>by
 rcases Nat.lt_succ_iff_lt_or_eq.mp hj with z|rfl
 ·exact h j w' s' z e' t ht
 ·rw[e] at e';cases e';exact all t ht
inductive Wo(ways:Int→List Trip)(a:Int):Int→Prop
 |refl:Wo ways a a
 |step {b c:Int} {t:Int} {al:Bool}:Wo ways a b→(c,t,al)∈ways b→Wo ways a c
theorem Wo.trans{a b c:Int}(h:Wo ways a b)(k:Wo ways b c):Wo ways a c:=by
 induction k with
 |refl=>exact h
 |step _ e ih=>exact .step ih e
def ZiO(ways:Int→List Trip):Prop:=∀(a b t:Int)(al:Bool),(b,t,al)∈ways a→(a,t,!al)∈ways b
theorem Wo.symm(hb:ZiO ways){a b:Int}(h:Wo ways a b):Wo ways b a:=by
 induction h with
 |refl=>exact .refl
 |step _ e ih=>exact(Wo.step .refl (hb _ _ _ _ e)).trans ih
theorem Z6.hang(g:Z6 ways first tr):∀(i:Nat)(w:Int)(s:Option Trip),tr[i]? =some (w,s)→Wo ways first w:=by
 intro i
 induction i using Nat.strongRecOn with
 |_ i ih=>
  intro w s h;cases s with
  |none=>
   have:=g.only i w h;subst this;rw[g.head] at h;cases h;exact .refl
  |some x=>
   obtain⟨p,b,al⟩:=x;obtain⟨h1,j,s',h2,h3⟩:=g.steps i w p b al h;exact .step (ih j h2 p s' h3) h1
theorem Z6.keys_iff(g:Z6 ways first tr)(c:Uy ways tr tr.length)(w:Int):w∈keys tr↔Wo ways first w:=by
 constructor
 ·intro h;obtain⟨i,s,hi⟩:=V8 h;exact g.hang i w s hi
 ·intro h
  induction h with
  |refl=>exact WF g.head
  |step _ e ih=>
   obtain⟨i,s,hi⟩:=V8 ih;exact c i _ s (List.getElem?_eq_some_iff.mp hi).1 hi _ e
theorem Z6.rg(g:Z6 ways first tr){n:Int}(h0:0≤first∧first<n)(hw:∀a,∀t∈ways a,0≤t.1∧t.1<n):∀w∈keys tr,0≤w∧w<n:=by
 intro w h;obtain⟨i,s,hi⟩:=V8 h;have:=g.hang i w s hi;cases this with
 |refl=>exact h0
 |step _ e=>exact hw _ _ e
theorem WT{ks:List Int}{n:Nat}(nd:ks.Nodup)(h:∀w∈ks,0≤w∧w<(n:Int)):ks.length≤n:=by
 have h1:=nd.length_le_of_subset (l₂:=(List.range n).map fun i:Nat=>(i:Int)) (fun w hw=>by
  obtain⟨a,b⟩:=h w hw;exact List.mem_map.mpr ⟨w.toNat,List.mem_range.mpr (by omega),by omega⟩)
 simpa using h1
end
structure Wn(ways:Int→List Trip)(n:Nat)(F:List (Int×ZF))(i:Nat):Prop where
 tree:∀x∈F,Z6 ways x.1 x.2∧Uy ways x.2 x.2.length∧0≤x.1∧x.1<(i:Int)
 all:∀w:Int,0≤w→w<(i:Int)→∃x∈F,w∈keys x.2
 rise:F.Pairwise fun x y=>x.1<y.1
 least:∀x∈F,∀w∈keys x.2,x.1≤w
section
variable {ways:Int→List Trip}{n i:Nat}{F:List (Int×ZF)}
theorem Zi5:Wn ways n [] 0:=⟨by simp,fun w h0 h1=>by omega,.nil,by simp⟩
theorem Wn.skip(h:Wn ways n F i)(hi:∃x∈F,(i:Int)∈keys x.2):Wn ways n F (i+1):=
 ⟨fun x hx=>by obtain⟨a,b,c,d⟩:=h.tree x hx;exact⟨a,b,c,by omega⟩,fun w h0 h1=>by
  by_cases e:w=(i:Int)
  ·rw[e];exact hi
  ·exact h.all w h0 (by omega),h.rise,h.least⟩
theorem Wn.grow(hb:ZiO ways)(hw:∀a,∀t∈ways a,0≤t.1∧t.1<(n:Int))(hin:i<n)(h:Wn ways n F i)(hi:∀x∈F,(i:Int)∉keys x.2){tr:ZF}(g:Z6 ways i tr)(c:Uy ways tr tr.length):Wn ways n (F++ [((i:Int),tr)]) (i+1):=by
 refine⟨fun x hx=>?_,fun w h0 h1=>?_,List.pairwise_append.mpr ⟨h.rise,by simp,fun x hx y hy=>?_⟩,fun x hx=>?_⟩
 ·rcases List.mem_append.mp hx with z|z
  ·obtain⟨a,b,c,d⟩:=h.tree x z;exact⟨a,b,c,by omega⟩
  ·rw[List.mem_singleton.mp z];exact⟨g,c,by simp,by simp;omega⟩
 ·by_cases e:w=(i:Int)
  ·exact⟨_,List.mem_append_right _ (List.mem_singleton.mpr rfl),by rw[e];exact WF g.head⟩
  ·obtain⟨x,hx,hk⟩:=h.all w h0 (by omega);exact⟨x,List.mem_append_left _ hx,hk⟩
 ·rw[List.mem_singleton.mp hy];exact(h.tree x hx).2.2.2
 ·rcases List.mem_append.mp hx with z|z
  ·exact h.least x z
  ·rw[List.mem_singleton.mp z];intro w hk;rcases Int.lt_or_le w (i:Int) with y|y
   ·exfalso;have hr:=g.rg ⟨by omega,by omega⟩ hw w hk;obtain⟨x',hx',hk'⟩:=h.all w hr.1 y;obtain⟨g',c',_,_⟩:=h.tree x' hx';have h1:=(g'.keys_iff c' w).mp hk';have h2:=((g.keys_iff c w).mp hk).symm hb;exact hi x' hx' ((g'.keys_iff c' _).mpr (h1.trans h2))
   ·exact y
end
end Fo
namespace Pc
inductive Z5(E:List (Nat×Nat)):Nat→Nat→Prop where
 |refl (a:Nat):Z5 E a a
 |fwd {a b c:Nat}:Z5 E a b→(b,c)∈E→Z5 E a c
 |bwd {a b c:Nat}:Z5 E a b→(c,b)∈E→Z5 E a c
theorem Z5.trans{E:List (Nat×Nat)}{a b c:Nat}(h:Z5 E a b)(k:Z5 E b c):Z5 E a c:=by
 induction k with
 |refl=>exact h
 |fwd _ e ih=>exact .fwd ih e
 |bwd _ e ih=>exact .bwd ih e
theorem Z5.symm{E:List (Nat×Nat)}{a b:Nat}(h:Z5 E a b):Z5 E b a:=by
 induction h with
 |refl=>exact .refl _
 |fwd _ e ih=>exact(Z5.bwd (.refl _) e).trans ih
 |bwd _ e ih=>exact(Z5.fwd (.refl _) e).trans ih
theorem Z5.lt{E:List (Nat×Nat)}{n a b:Nat}(hE:∀e∈E,e.1<n∧e.2<n)(h:Z5 E a b)(ha:a<n):b<n:=by
 induction h with
 |refl=>exact ha
 |fwd _ e ih=>exact(hE _ e).2
 |bwd _ e ih=>exact(hE _ e).1
noncomputable def step (l:Nat→Nat) (e:Nat×Nat):Nat→Nat:=fun w=>if w=e.1∨w=e.2 then min (l e.1) (l e.2) else l w
noncomputable def lap (E:List (Nat×Nat)) (l:Nat→Nat):Nat→Nat:=E.foldl step l
noncomputable def YG (E:List (Nat×Nat)):Nat→(Nat→Nat)→Nat→Nat
 |0,l=>l
 |k+1,l=>lap E (YG E k l)
theorem Zdz(l:Nat→Nat)(e:Nat×Nat)(w:Nat):step l e w≤l w:=by
 unfold step
 split
 ·rename_i h;rcases h with rfl|rfl
  ·exact Nat.min_le_left _ _
  ·exact Nat.min_le_right _ _
 ·exact Nat.le_refl _
theorem Za0(F:List (Nat×Nat)):∀(l:Nat→Nat)(w:Nat),F.foldl step l w≤l w:=by
 induction F with
 |nil=>intro l w;exact Nat.le_refl _
 |cons e F ih=>intro l w;exact Nat.le_trans (ih (step l e) w) (Zdz l e w)
theorem Zc3(F:List (Nat×Nat)):∀(l:Nat→Nat)(e:Nat×Nat),e∈F→F.foldl step l e.1≤l e.2∧F.foldl step l e.2≤l e.1:=by
 induction F with
 |nil=>intro l e h;cases h
 |cons f F ih=>
  intro l e h;rcases List.mem_cons.mp h with rfl|h
  ·have a:=Za0 F (step l e) e.1;have b:=Za0 F (step l e) e.2;have c:step l e e.1≤l e.2:=by unfold step;rw[if_pos (.inl rfl)];exact Nat.min_le_right _ _
   have d:step l e e.2≤l e.1:=by unfold step;rw[if_pos (.inr rfl)];exact Nat.min_le_left _ _
   exact⟨Nat.le_trans a c,Nat.le_trans b d⟩
  ·have:=ih (step l f) e h;exact⟨Nat.le_trans this.1 (Zdz l f e.2),Nat.le_trans this.2 (Zdz l f e.1)⟩
def UF(E:List (Nat×Nat))(l:Nat→Nat):Prop:=∀w,Z5 E w (l w)
theorem Zg2{E:List (Nat×Nat)}{l:Nat→Nat}{e:Nat×Nat}(h:UF E l)(he:e∈E):UF E (step l e):=by
 intro w;unfold step
 split
 ·rename_i hw;have ab:Z5 E e.1 e.2:= .fwd (.refl _) he;have wa:Z5 E w e.1:=by
   rcases hw with rfl|rfl
   ·exact .refl _
   ·exact ab.symm
  rcases Nat.le_total (l e.1) (l e.2) with q|q
  ·rw[Nat.min_eq_left q];exact wa.trans (h e.1)
  ·rw[Nat.min_eq_right q];exact(wa.trans ab).trans (h e.2)
 ·exact h w
theorem Zgi{E:List (Nat×Nat)}(F:List (Nat×Nat)):∀(l:Nat→Nat),UF E l→(∀e∈F,e∈E)→UF E (F.foldl step l):=by
 induction F with
 |nil=>intro l h _;exact h
 |cons e F ih=>intro l h k;exact ih _ (Zg2 h (k e List.mem_cons_self)) fun x hx=>k x (List.mem_cons_of_mem _ hx)
theorem UJ{E:List (Nat×Nat)}{l:Nat→Nat}(h:UF E l):∀k,UF E (YG E k l)
 |0=>h
 |k+1=>Zgi E _ (UJ h k) fun _ x=>x
theorem ZeR{p q:Nat→Bool}:∀{xs:List Nat}{a:Nat},(∀x∈xs,p x=true→q x=true)→a∈xs→p a=false→q a=true→xs.countP p+1≤xs.countP q
 | [],_,_,h,_,_=>by cases h
 |x::xs,a,s,h,pa,qa=>by
  have mono:xs.countP p≤xs.countP q:=List.countP_mono_left fun y hy=>s y (List.mem_cons_of_mem _ hy);rw[List.countP_cons,List.countP_cons];rcases List.mem_cons.mp h with rfl|h'
  ·rw[pa,qa];simp;omega
  ·have ih:=ZeR (fun y hy=>s y (List.mem_cons_of_mem _ hy)) h' pa qa
   by_cases px:p x=true
   ·rw[px,s x List.mem_cons_self px];simp;omega
   ·have px':p x=false:=by simpa using px
    rw[px'];simp;omega
theorem Zli{E:List (Nat×Nat)}{m w:Nat}{p:Nat→Bool}(h:Z5 E m w)(hm:p m=true)(hw:p w=false):
  ∃a b,Z5 E m a∧p a=true∧p b=false∧((a,b)∈E∨(b,a)∈E):=by
 induction h with
 |refl=>rw[hm] at hw;cases hw
 | @fwd b c hb e ih=>
  by_cases q:p b=true
  ·exact⟨b,c,hb,q,hw,.inl e⟩
  ·exact ih (by simpa using q)
 | @bwd b c hb e ih=>
  by_cases q:p b=true
  ·exact⟨b,c,hb,q,hw,.inr e⟩
  ·exact ih (by simpa using q)
theorem ZjI{E:List (Nat×Nat)}{n m:Nat}(hE:∀e∈E,e.1<n∧e.2<n)(hm:m<n)(least:∀v,Z5 E m v→m≤v):
  ∀k,(∀w,Z5 E m w→YG E k (fun i=>i) w=m)∨k+1≤(List.range n).countP (fun w=>YG E k (fun i=>i) w==m)
 |0=>by
  right
  show 0+1≤(List.range n).countP (fun w=>w==m);exact List.countP_pos_iff.mpr ⟨m,List.mem_range.mpr hm,by simp⟩
 |k+1=>by
  have snd:UF E (YG E k (fun i=>i)):=UJ (fun w=> .refl w) k;have snd':UF E (YG E (k+1) (fun i=>i)):=UJ (fun w=> .refl w) (k+1);have down:∀w,YG E (k+1) (fun i=>i) w≤YG E k (fun i=>i) w:=fun w=>Za0 E _ w;have stays:∀w,Z5 E m w→YG E k (fun i=>i) w=m→YG E (k+1) (fun i=>i) w=m:=fun w hw e=>by
   have a:=down w;have b:=least _ (hw.trans (snd' w));omega
  have self:∀k,YG E k (fun i=>i) m=m:=fun k=>by
   have s2:UF E (YG E k (fun i=>i)):=UJ (fun w=> .refl w) k;have b:=least _ (s2 m);have c:∀j,YG E j (fun i=>i) m≤m:=fun j=>by
    induction j with
    |zero=>exact Nat.le_refl _
    |succ j ih=>exact Nat.le_trans (Za0 E _ m) ih
   have:=c k;omega
  rcases ZjI hE hm least k with h|h
  ·left
   exact fun w hw=>stays w hw (h w hw)
  ·by_cases all:∀w,Z5 E m w→YG E k (fun i=>i) w=m
   ·left
    exact fun w hw=>stays w hw (all w hw)
   ·right
    obtain⟨w,hw⟩:=Classical.not_forall.mp all;obtain⟨cw,nw⟩:=Classical.not_imp.mp hw;obtain⟨a,b,ca,pa,pb,e⟩:=Zli (p:=fun w=>YG E k (fun i=>i) w==m) cw (by simp[self k]) (by simpa using nw);have pa':YG E k (fun i=>i) a=m:=by simpa using pa
    have cb:Z5 E m b:=by
     rcases e with e|e
     ·exact .fwd ca e
     ·exact .bwd ca e
    have nb:YG E (k+1) (fun i=>i) b=m:=by
     have l1:=least _ (cb.trans (snd' b));have l2:YG E (k+1) (fun i=>i) b≤YG E k (fun i=>i) a:=by
      rcases e with e|e
      ·exact(Zc3 E _ (a,b) e).2
      ·exact(Zc3 E _ (b,a) e).1
     omega
    have hb:b<n:=cb.lt hE hm;have:=ZeR (p:=fun w=>YG E k (fun i=>i) w==m) (q:=fun w=>YG E (k+1) (fun i=>i) w==m) (xs:=List.range n) (a:=b)
     (fun x hx px=>?_) (List.mem_range.mpr hb) pb (by simp[nb])
    ·omega
    ·have px':YG E k (fun i=>i) x=m:=by simpa using px
     have cx:Z5 E m x:=by have:=snd x;rw[px'] at this;exact this.symm
     simp[stays x cx px']
theorem Zei{E:List (Nat×Nat)}:∀(k w:Nat),w≤k→∃m,Z5 E w m∧∀v,Z5 E w v→m≤v
 |0,w,h=>⟨w,.refl w,fun v _=>by omega⟩
 |k+1,w,h=>by
  by_cases q:∃v,Z5 E w v∧v<w
  ·obtain⟨v,cv,lv⟩:=q;obtain⟨m,cm,lm⟩:=Zei (E:=E) k v (by omega);exact⟨m,cv.trans cm,fun u cu=>lm u (cv.symm.trans cu)⟩
  ·exact⟨w,.refl w,fun v cv=>by
    by_cases hv:v<w
    ·exact absurd ⟨v,cv,hv⟩ q
    ·omega⟩
theorem Wj{E:List (Nat×Nat)}{n:Nat}(hE:∀e∈E,e.1<n∧e.2<n){w:Nat}(hw:w<n):
  Z5 E w (YG E n (fun i=>i) w)∧∀v,Z5 E w v→YG E n (fun i=>i) w≤v:=by
 obtain⟨m,cm,lm⟩:=Zei (E:=E) w w (Nat.le_refl _);have hm:m<n:=cm.lt hE hw;have least:∀v,Z5 E m v→m≤v:=fun v cv=>lm v (cm.trans cv);rcases ZjI hE hm least n with h|h
 ·have e:=h w cm.symm;rw[e];exact⟨cm,lm⟩
 ·have:=List.countP_le_length (p:=fun w=>YG E n (fun i=>i) w==m) (l:=List.range n);rw[List.length_range] at this;omega
end Pc
set_option Elab.async false
set_option linter.all false
set_option maxRecDepth 100000
set_option maxHeartbeats 4000000
local macro_rules| `(tactic|walk_at "mul")=>`(tactic|k_dflt (first|with_reducible assumption|exact L2.ZgU.ok (Or.inr ⟨by omega,by omega⟩)|exact L2.ZgU.ok (Or.inl ⟨by omega,by omega⟩)))
local macro_rules| `(tactic|walk_at "lk")=>`(tactic|first|exact L2.Rd.lk0|exact L2.Rd.lkN|(refine L2.Rd.lk1 (by decide+kernel) ?_;walk_at "lk"))
local macro_rules| `(tactic|walk_at "pf")=>`(tactic|first|exact L2.Rd.pfN|(apply L2.Rd.pf1;(decide+kernel);walk_at "pf"))
local macro_rules| `(tactic|walk_at "na")=>`(tactic|exact L2.ZaO.get (by with_reducible assumption) (by decide+kernel))
local macro_rules| `(tactic|walk_at "cond")=>`(tactic|k_dflt (first|with_reducible assumption|decide|omega|(simp;done)|(simp only[List.length_cons,List.length_nil,List.length_map,List.length_append];omega)))
local macro_rules| `(tactic|walk_at "rdis")=>`(tactic|((with_reducible show ∃x n t b,_=_∧L2.WC _ _ x t∧_);first|with_reducible apply L2.Rd.Zhx|with_reducible apply L2.Rd.Zf8|with_reducible apply L2.Rd.is_int_str|with_reducible apply L2.Rd.is_int_list|with_reducible apply L2.Rd.is_int_tuple|with_reducible apply L2.Rd.is_int_dict|with_reducible apply L2.Rd.is_bl_int|with_reducible apply L2.Rd.is_bl_bool|with_reducible apply L2.Rd.is_bl_str|with_reducible apply L2.Rd.is_bl_list|with_reducible apply L2.Rd.is_bl_tuple|with_reducible apply L2.Rd.is_bl_dict|with_reducible apply L2.Rd.is_str_int|with_reducible apply L2.Rd.is_str_bool|with_reducible apply L2.Rd.Zhz|with_reducible apply L2.Rd.is_str_list|with_reducible apply L2.Rd.is_str_tuple|with_reducible apply L2.Rd.is_str_dict|with_reducible apply L2.Rd.is_non_int|with_reducible apply L2.Rd.is_non_bool|with_reducible apply L2.Rd.is_non_str|with_reducible apply L2.Rd.is_non_list|with_reducible apply L2.Rd.is_non_tuple|with_reducible apply L2.Rd.is_non_dict|with_reducible refine L2.Rd.is_lst_int (by with_reducible assumption) ?_|with_reducible refine L2.Rd.is_lst_bool (by with_reducible assumption) ?_|with_reducible refine L2.Rd.is_lst_str (by with_reducible assumption) ?_|with_reducible refine L2.Rd.is_lst_list (by with_reducible assumption) ?_|with_reducible refine L2.Rd.is_lst_tuple (by with_reducible assumption) ?_|with_reducible refine L2.Rd.is_lst_dict (by with_reducible assumption) ?_|with_reducible refine L2.Rd.is_tup_int (by with_reducible assumption) ?_|with_reducible refine L2.Rd.is_tup_bool (by with_reducible assumption) ?_|with_reducible refine L2.Rd.is_tup_str (by with_reducible assumption) ?_|with_reducible refine L2.Rd.is_tup_list (by with_reducible assumption) ?_|with_reducible refine L2.Rd.is_tup_tuple (by with_reducible assumption) ?_|with_reducible refine L2.Rd.is_tup_dict (by with_reducible assumption) ?_|with_reducible refine L2.Rd.is_dK_int (by with_reducible assumption) ?_|with_reducible refine L2.Rd.is_dK_bool (by with_reducible assumption) ?_|with_reducible refine L2.Rd.is_dK_str (by with_reducible assumption) ?_|with_reducible refine L2.Rd.is_dK_list (by with_reducible assumption) ?_|with_reducible refine L2.Rd.is_dK_tuple (by with_reducible assumption) ?_|with_reducible refine L2.Rd.is_dK_dict (by with_reducible assumption) ?_))
local macro_rules| `(tactic|walk_at "side")=>`(tactic|k_dflt (first|with_reducible assumption|decide|(dsimp only;decide)|(dsimp only[L2.ZkU];decide)|omega|(dsimp only;omega)))
local macro_rules| `(tactic|walk_at "hp")=>`(tactic|with_reducible (first|assumption|((show L2.SqL _ _ _ _);(first|exact L2.SqL.of (by assumption)|exact L2.OffL.sq (by assumption)|exact L2.Zd.seq (by assumption) (by assumption)))|((show L2.SqT _ _ _ _);(first|exact L2.SqT.of (by assumption)|exact L2.OffT.sq (by assumption)|exact L2.Zd.seqT (by assumption) (by assumption)))))
local macro_rules| `(tactic|walk_at "rd")=>`(tactic|first|with_reducible (first|apply L2.Rd.seq|apply L2.Rd.asg|apply L2.Rd.ret|apply L2.Rd.ifs|apply L2.Rd.next|apply L2.Rd.drop|apply L2.Rd.op|apply L2.Rd.ZmG|apply L2.Rd.con|(show L2.Zhh _ _ _ _;refine L2.Rd.var (by k_dflt rfl) ?_)|(show L2.UI _ _ _ _ _;refine L2.Rd.Zl7 (by k_dflt (dsimp only[L2.start,List.map_cons,List.map_nil,List.cons_append,List.nil_append,List.length_cons,List.length_nil,Nat.reduceAdd,Nat.reduceSub,List.replicate,List.set];(try rfl))) ?_)|apply L2.Rd.call|apply L2.Rd.cons|apply L2.Rd.nil|apply L2.Rd.cb|apply L2.Rd.tup|apply L2.Rd.lst|apply L2.Rd.Zmy|apply L2.Rd.or_|apply L2.Rd.ZmU|apply L2.Rd.ZmV|apply L2.Rd.Zm9|apply L2.Rd.i0|(show L2.rI _ _ _ _ _ _;refine L2.Rd.iC (by walk_at "side") ?_)|apply L2.Rd.bl|apply L2.Rd.ZmQ|(show L2.rOr L2.ZhA _ _ _ _ _;refine L2.Rd.Zm0 (by walk_at "mul") ?_)|apply L2.Rd.ZmA|apply L2.Rd.Zm1|(show L2.rOr _ (L2.rOr L2.ZeL _) (L2.V.str _) (L2.V.str _) _ _;refine L2.Rd.ZiU (by walk_at "side") ?_)|(show L2.rIx _ _ _ _ _;refine L2.Rd.Znj (by walk_at "hp") (by k_dflt rfl) ?_)|(show L2.rIx _ _ _ _ _;refine L2.Rd.ZlS (by walk_at "hp") (by k_dflt (first|rfl|with_reducible assumption)) ?_)|(show ∃a,L2.V.ref _=L2.V.ref a∧(∃xs,L2.SqL _ _ a xs)∧_;refine L2.Rd.ZkW (by walk_at "hp") ?_)|(show ∃k,[L2.V.int _]=[L2.V.int k]∧_;refine L2.Rd.ZlZ (by k_dflt omega) (by k_dflt omega) ?_)|apply L2.Rd.Zni|(show ∃x n,_=_∧L2.ZcO _ x _ n∧_;refine L2.Rd.ZmH (by walk_at "hp") ?_)|(show ∃x n,_=_∧L2.ZcO _ x _ n∧_;refine L2.Rd.Zne (by walk_at "side") ?_))|walk_at "rdis" |with_reducible (first|apply L2.Rd.ZmC|apply L2.Rd.tru|apply L2.Rd.ZmZ|apply L2.Rd.Zm4|apply L2.Rd.ZmR|apply L2.Rd.bm|apply L2.Rd.bm0|(show L2.tyV _ _ _ _∧_;refine L2.Rd.tyl (by with_reducible assumption) ?_)|(show L2.rAppend _ _ _ _;refine L2.Rd.app (by with_reducible assumption) (by walk_at "side") ?_)|apply L2.ZeV|apply L2.ZfQ|apply L2.Rd.ZjQ|apply L2.Rd.ZjK|(show if decide _=true then _ else _;refine L2.Rd.ifP (by walk_at "cond") ?_)|(show if decide _=true then _ else _;refine L2.Rd.ifN (by walk_at "cond") ?_)|apply L2.Rd.sl|apply L2.Rd.Zlp|apply L2.Rd.Znb|apply L2.Rd.Zmj|apply L2.Rd.Zna|(show ∃a C dx fs v,L2.V.ref _=L2.V.ref a∧_=some (L2.HO.ins C dx fs)∧L2.Cls _ C∧_;refine L2.Rd.fld (by with_reducible assumption) (by with_reducible assumption) (by k_dflt (walk_at "na")) (by k_dflt (walk_at "lk")) ?_)|(show L2.Ze3 _ _ _ _ _ _ _ _;refine L2.Rd.Zl1 (by k_dflt rfl) ?_)|apply L2.Rd.Znd|(show L2.rSetL _ _ _ _ _;refine L2.Rd.ZmI (by with_reducible assumption) (by k_dflt omega) (by walk_at "cond") ?_)|apply L2.Rd.Zl3|apply L2.Rd.Zmh|apply L2.Rd.ZmL|(show ∃a C dx fs,L2.V.ref _=L2.V.ref a∧_=some (L2.HO.ins C dx fs)∧L2.Cls _ C∧_;refine L2.Rd.Zl8 (by with_reducible (first|assumption|exact L2.Ze)) (by with_reducible assumption) (by k_dflt (walk_at "na")) (by k_dflt (simp only[List.length_cons,List.length_nil];decide)) (by k_dflt (walk_at "pf")) ?_)|apply L2.Rd.Zms|apply L2.Rd.ZkF|apply L2.Rd.Zmd|apply L2.Rd.Zmz|apply L2.Rd.Zmi|apply L2.Rd.Zng|apply L2.Rd.Zmv|(show L2.rIn _ _ _ _ _ _;refine L2.Rd.inI (by walk_at "hp") ?_)|(show L2.rIn _ _ _ _ _ _;refine L2.Rd.Znc (by walk_at "hp") ?_)|(show ∃p bs,[L2.V.ref _]=[L2.V.ref p]∧L2.SqL _ _ p (List.map L2.V.bl bs)∧_;refine L2.Rd.Zmx (by walk_at "hp") ?_)|apply L2.Rd.leS|apply L2.Rd.Zmf)|((with_reducible show if(!(_==_))=true then _ else _);first|refine L2.Rd.ZjQ ?_|refine L2.Rd.ZjK ?_)|((with_reducible show if(_==_)=true then _ else _);first|refine L2.ZeV ?_|refine L2.ZfQ ?_)|with_reducible (first|apply L2.Rd.Zlc|apply L2.Rd.Zml|(show ∃a,_=_∧(∃xs,L2.SqL _ _ a xs)∧_;refine L2.Rd.Zlz (by walk_at "hp") ?_)|apply L2.Rd.ZmS|apply L2.Rd.ZmE)|((with_reducible show L2.rDIn _ _ _ _);first|with_reducible refine L2.Rd.Zm6 (by with_reducible assumption) ?_|with_reducible refine L2.Rd.dinI (by with_reducible assumption) ?_)|((with_reducible show L2.rDNotIn _ _ _ _);first|with_reducible refine L2.Rd.dninS (by with_reducible assumption) ?_|with_reducible refine L2.Rd.Zl6 (by with_reducible assumption) ?_)|((with_reducible show L2.rIxD _ _ _ _);first|with_reducible refine L2.Rd.dgetS (by with_reducible assumption) (by with_reducible assumption) ?_|with_reducible refine L2.Rd.Zl4 (by with_reducible assumption) (by with_reducible assumption) ?_)|((with_reducible show L2.rSetD _ _ _ _ _);first|with_reducible refine L2.Rd.Zmm (by with_reducible assumption) (by walk_at "side") ?_|with_reducible refine L2.Rd.Zmo (by with_reducible assumption) (by walk_at "side") ?_)|with_reducible (first|(show L2.rLenD _ _ _;refine L2.Rd.ZmK (by with_reducible assumption) ?_)|(show L2.rListD _ _ _;refine L2.Rd.Zmp (by with_reducible assumption) ?_)|apply L2.Rd.ipi|(show L2.Zhw _ _ _ _ _;refine L2.Rd.ixl (by walk_at "hp") (by k_dflt (first|rfl|with_reducible assumption)) ?_)|apply L2.Rd.ZmT|apply L2.Rd.ZmM|apply L2.Rd.Zm7|apply L2.Rd.Zma))
local macro_rules| `(tactic|walk_at "rds")=>`(tactic|repeat' (walk_at "rd"))
namespace Nm
open PySem L2
noncomputable def top (i:Nat):Stmt:=PySem.Challenge.pw_ratehall_k16_backed_halls.main.body.getD i (.Pass ⟨0,0,0,0⟩)
noncomputable abbrev Za4:Stmt:=top 54
noncomputable abbrev Zcd:Stmt:=top 55
noncomputable abbrev Zaj:Stmt:=top 58
noncomputable abbrev Ul:Stmt:=top 26
noncomputable abbrev Uh:Stmt:=YA (top 30) 1
noncomputable abbrev US:Stmt:=top 16
noncomputable abbrev Zaf:Stmt:=top 17
noncomputable abbrev VO:Stmt:=top 32
noncomputable abbrev Wr:Stmt:=top 18
noncomputable abbrev Wv:Stmt:=YA (top 30) 11
noncomputable abbrev UD:Stmt:=YA (top 30) 3
noncomputable abbrev Ub:Stmt:=YA (top 30) 2
noncomputable abbrev V9:Stmt:=YA (top 30) 0
noncomputable abbrev ZaU:Stmt:=top 56
noncomputable abbrev VC:Stmt:=YA (top 30) 7
noncomputable abbrev Vj:Stmt:=top 48
noncomputable abbrev WV:Stmt:=top 51
noncomputable abbrev Zao:Stmt:=top 31
noncomputable abbrev Zar:Stmt:=top 52
noncomputable abbrev VQ:Stmt:=YA (top 30) 5
noncomputable abbrev U0:Stmt:=top 50
noncomputable abbrev WH:Stmt:=top 57
noncomputable abbrev Uf:Stmt:=top 60
noncomputable abbrev Up:Stmt:=top 36
noncomputable abbrev Uc:Stmt:=top 37
noncomputable abbrev Ug:Stmt:=top 35
noncomputable abbrev Vi:Stmt:=top 34
noncomputable abbrev VE:Stmt:=top 61
noncomputable abbrev WX:Stmt:=top 62
noncomputable abbrev Wc:Stmt:=YA (top 30) 9
noncomputable abbrev Wu:Stmt:=YA (top 30) 10
noncomputable abbrev Wx:Stmt:=YA (top 30) 12
noncomputable abbrev Va:Stmt:=YA (top 30) 8
noncomputable abbrev Vo:Stmt:=YA (top 20) 4
noncomputable abbrev U6:Stmt:=top 23
noncomputable abbrev Wp:Stmt:=YA (top 20) 5
noncomputable abbrev Vq:Stmt:=YA (top 20) 1
noncomputable abbrev VI:Stmt:=top 21
noncomputable abbrev VU:Stmt:=top 22
noncomputable abbrev Y1:Stmt:=YA (top 20) 0
noncomputable abbrev Yj:Stmt:=top 63
noncomputable abbrev UO:Stmt:=top 59
noncomputable abbrev Zan:Stmt:=top 12
noncomputable abbrev Zcc:Stmt:=top 14
noncomputable abbrev Zcl:Stmt:=top 15
noncomputable abbrev Zds:Stmt:=top 44
noncomputable abbrev Ue:Stmt:=top 43
noncomputable abbrev UN:Stmt:=top 13
noncomputable abbrev VP:Stmt:=top 42
noncomputable abbrev Vg:Stmt:=top 40
noncomputable abbrev ZaZ:Stmt:=top 38
noncomputable abbrev W9:Stmt:=top 46
noncomputable abbrev YV:Stmt:=top 45
noncomputable abbrev UH:Stmt:=top 41
noncomputable abbrev Ua:Stmt:=YA (top 30) 4
noncomputable abbrev Zdj:Stmt:=top 64
theorem Zh6:Zs ["_law_script","_law_k"] ["_law_script","_law_k"] (Zj Za4):=⟨rfl,rfl,rfl,by decide+kernel,rfl,by decide+kernel,by decide+kernel⟩
theorem ZfH:Zs ["_law_cell_here","_law_way","_law_first"] ["_law_cell_here","_law_way"] (Zj Zcd):=⟨rfl,rfl,rfl,by decide+kernel,rfl,by decide+kernel,by decide+kernel⟩
theorem YS:Zs ["_law_script","_law_many","_law_lines_here","_law_size","_law_k","_law_cell_here","_law_draw","_law_line"] ["_law_script","_law_many"] (Zj Zaj):=⟨rfl,rfl,rfl,by decide+kernel,rfl,by decide+kernel,by decide+kernel⟩
theorem Zht:Zs ["thing"] ["thing"] (Zj Ul):=⟨rfl,rfl,rfl,by decide+kernel,rfl,by decide+kernel,by decide+kernel⟩
theorem Zb1:Zs ["self","name","number"] ["self","name"] (Zj Uh):=⟨rfl,rfl,rfl,by decide+kernel,rfl,by decide+kernel,by decide+kernel⟩
theorem Zgm:Zs ["thing"] ["thing"] (Zj US):=⟨rfl,rfl,rfl,by decide+kernel,rfl,by decide+kernel,by decide+kernel⟩
theorem ZhB:Zs ["thing","least"] ["thing","least"] (Zj Zaf):=⟨rfl,rfl,rfl,by decide+kernel,rfl,by decide+kernel,by decide+kernel⟩
theorem ZeB:Zs ["start"] ["start"] (Zj VO):=⟨rfl,rfl,rfl,by decide+kernel,rfl,by decide+kernel,by decide+kernel⟩
theorem ZbY:Zs ["thing","bound"] ["thing","bound"] (Zj Wr):=⟨rfl,rfl,rfl,by decide+kernel,rfl,by decide+kernel,by decide+kernel⟩
theorem Zcn:Zs ["self","work"] ["self","work"] (Zj Wv):=⟨rfl,rfl,rfl,by decide+kernel,rfl,by decide+kernel,by decide+kernel⟩
theorem Zf9:Zs ["self","row"] ["self","row"] (Zj UD):=⟨rfl,rfl,rfl,by decide+kernel,rfl,by decide+kernel,by decide+kernel⟩
theorem Zfw:Zs ["self","giver","taker","give","take","start"] ["self","giver","taker","give","take","start"] (Zj Ub):=⟨rfl,rfl,rfl,by decide+kernel,rfl,by decide+kernel,by decide+kernel⟩
theorem Zfu:Zs ["self"] ["self"] (Zj V9):=⟨rfl,rfl,rfl,by decide+kernel,rfl,by decide+kernel,by decide+kernel⟩
theorem Ur:Zs ["_law_many","_law_lines_here","_law_letters","_law_hall","_law_k","_law_line"] ["_law_many","_law_lines_here"] (Zj ZaU):=⟨rfl,rfl,rfl,by decide+kernel,rfl,by decide+kernel,by decide+kernel⟩
theorem ZeG:Zs ["self"] ["self"] (Zj VC):=⟨rfl,rfl,rfl,by decide+kernel,rfl,by decide+kernel,by decide+kernel⟩
theorem Zfc:Zs ["hall"] ["hall"] (Zj Vj):=⟨rfl,rfl,rfl,by decide+kernel,rfl,by decide+kernel,by decide+kernel⟩
theorem Zbc:Zs ["hall","rooms","starts"] ["hall","rooms"] (Zj WV):=⟨rfl,rfl,rfl,by decide+kernel,rfl,by decide+kernel,by decide+kernel⟩
theorem UR:Zs ["names","rows","hall","name","row"] ["names","rows"] (Zj Zao):=⟨rfl,rfl,rfl,by decide+kernel,rfl,by decide+kernel,by decide+kernel⟩
theorem ZhP:Zs ["row","room"] ["row","room"] (Zj Zar):=⟨rfl,rfl,rfl,by decide+kernel,rfl,by decide+kernel,by decide+kernel⟩
theorem Zez:Zs ["self"] ["self"] (Zj VQ):=⟨rfl,rfl,rfl,by decide+kernel,rfl,by decide+kernel,by decide+kernel⟩
theorem Zel:Zs ["hall","rooms","belts"] ["hall","rooms"] (Zj U0):=⟨rfl,rfl,rfl,by decide+kernel,rfl,by decide+kernel,by decide+kernel⟩
theorem ZaC:Zs ["_law_lines_here","_law_rooms","_law_back"] ["_law_lines_here","_law_rooms"] (Zj WH):=⟨rfl,rfl,rfl,by decide+kernel,rfl,by decide+kernel,by decide+kernel⟩
theorem VM:Zs ["_law_hall","_law_rooms","_law_refused_here","e"] ["_law_hall","_law_rooms"] (Zj Uf):=⟨rfl,rfl,rfl,by decide+kernel,rfl,by decide+kernel,by decide+kernel⟩
theorem UQ:Zs ["hall","ways","belt","row"] ["hall"] (Zj Up):=⟨rfl,rfl,rfl,by decide+kernel,rfl,by decide+kernel,by decide+kernel⟩
theorem Yv:Zs ["ways","first","tree","reached","done","work","other","belt","along"] ["ways","first"] (Zj Uc):=⟨rfl,rfl,rfl,by decide+kernel,rfl,by decide+kernel,by decide+kernel⟩
theorem Wt:Zs ["hall","ways","seen","forest","work","tree"] ["hall"] (Zj Ug):=⟨rfl,rfl,rfl,by decide+kernel,rfl,by decide+kernel,by decide+kernel⟩
theorem ZfG:Zs ["hall"] ["hall"] (Zj Vi):=⟨rfl,rfl,rfl,by decide+kernel,rfl,by decide+kernel,by decide+kernel⟩
theorem WP:Zs ["_law_many","_law_lines_here","_law_found","_law_work","_law_part","_law_step","_law_line"] ["_law_many","_law_lines_here"] (Zj VE):=⟨rfl,rfl,rfl,by decide+kernel,rfl,by decide+kernel,by decide+kernel⟩
theorem Zet:Zs ["_law_due","_law_work"] ["_law_due","_law_work"] (Zj WX):=⟨rfl,rfl,rfl,by decide+kernel,rfl,by decide+kernel,by decide+kernel⟩
theorem ZcS:Zs ["self","work"] ["self","work"] (Zj Wc):=⟨rfl,rfl,rfl,by decide+kernel,rfl,by decide+kernel,by decide+kernel⟩
theorem Zdh:Zs ["self","work"] ["self","work"] (Zj Wu):=⟨rfl,rfl,rfl,by decide+kernel,rfl,by decide+kernel,by decide+kernel⟩
theorem Zco:Zs ["self","belt"] ["self","belt"] (Zj Wx):=⟨rfl,rfl,rfl,by decide+kernel,rfl,by decide+kernel,by decide+kernel⟩
theorem Zdf:Zs ["self","belt"] ["self","belt"] (Zj Va):=⟨rfl,rfl,rfl,by decide+kernel,rfl,by decide+kernel,by decide+kernel⟩
theorem ZdN:Zs ["self"] ["self"] (Zj Vo):=⟨rfl,rfl,rfl,by decide+kernel,rfl,by decide+kernel,by decide+kernel⟩
theorem ZiJ:Zs ["heaps","takes"] ["heaps","takes"] (Zj U6):=⟨rfl,rfl,rfl,by decide+kernel,rfl,by decide+kernel,by decide+kernel⟩
theorem Zbt:Zs ["self","work"] ["self","work"] (Zj Wp):=⟨rfl,rfl,rfl,by decide+kernel,rfl,by decide+kernel,by decide+kernel⟩
theorem ZdO:Zs ["self","work"] ["self","work"] (Zj Vq):=⟨rfl,rfl,rfl,by decide+kernel,rfl,by decide+kernel,by decide+kernel⟩
theorem Zgq:Zs ["hall","work"] ["hall","work"] (Zj VI):=⟨rfl,rfl,rfl,by decide+kernel,rfl,by decide+kernel,by decide+kernel⟩
theorem ZfY:Zs ["hall","work"] ["hall","work"] (Zj VU):=⟨rfl,rfl,rfl,by decide+kernel,rfl,by decide+kernel,by decide+kernel⟩
theorem Zbe:Zs ["self","hall","works"] ["self","hall"] (Zj Y1):=⟨rfl,rfl,rfl,by decide+kernel,rfl,by decide+kernel,by decide+kernel⟩
theorem Vb:Zs ["_law_made_here","_law_due","_law_many","_law_work","_law_k","_law_floor"] ["_law_made_here","_law_due","_law_many"] (Zj Yj):=⟨rfl,rfl,rfl,by decide+kernel,rfl,by decide+kernel,by decide+kernel⟩
theorem Zau:Zs ["_law_script","_law_lines_here","_law_rooms","_law_draw","_law_at"] ["_law_script","_law_lines_here","_law_rooms"] (Zj UO):=⟨rfl,rfl,rfl,by decide+kernel,rfl,by decide+kernel,by decide+kernel⟩
theorem UG:Zs ["one","other","rest"] ["one","other"] (Zj Zan):=⟨rfl,rfl,rfl,by decide+kernel,rfl,by decide+kernel,by decide+kernel⟩
theorem Zfv:Zs ["top","bottom","common"] ["top","bottom"] (Zj Zcc):=⟨rfl,rfl,rfl,by decide+kernel,rfl,by decide+kernel,by decide+kernel⟩
theorem Zjo:Zs ["one","other"] ["one","other"] (Zj Zcl):=⟨rfl,rfl,rfl,by decide+kernel,rfl,by decide+kernel,by decide+kernel⟩
theorem Zkv:Zs ["row","along"] ["row","along"] (Zj Zds):=⟨rfl,rfl,rfl,by decide+kernel,rfl,by decide+kernel,by decide+kernel⟩
theorem VW:Zs ["hall","tree","shares","work","step"] ["hall","tree"] (Zj Ue):=⟨rfl,rfl,rfl,by decide+kernel,rfl,by decide+kernel,by decide+kernel⟩
theorem Zgj:Zs ["one","other"] ["one","other"] (Zj UN):=⟨rfl,rfl,rfl,by decide+kernel,rfl,by decide+kernel,by decide+kernel⟩
theorem YD:Zs ["hall","forest","rates","tree","shares","common","share","work"] ["hall","forest"] (Zj VP):=⟨rfl,rfl,rfl,by decide+kernel,rfl,by decide+kernel,by decide+kernel⟩
theorem Ze6:Zs ["hall","counts"] ["hall","counts"] (Zj Vg):=⟨rfl,rfl,rfl,by decide+kernel,rfl,by decide+kernel,by decide+kernel⟩
theorem Zai:Zs ["tree","work","way","step"] ["tree","work"] (Zj ZaZ):=⟨rfl,rfl,rfl,by decide+kernel,rfl,by decide+kernel,by decide+kernel⟩
theorem VG:Zs ["one","other","shared"] ["one","other"] (Zj W9):=⟨rfl,rfl,rfl,by decide+kernel,rfl,by decide+kernel,by decide+kernel⟩
theorem Yq:Zs ["hall","forest","belt","row","tree","to_giver","to_taker","shared","back"] ["hall","forest","belt"] (Zj YV):=⟨rfl,rfl,rfl,by decide+kernel,rfl,by decide+kernel,by decide+kernel⟩
theorem Vh:Zs ["hall","forest","rates","belt","change"] ["hall"] (Zj UH):=⟨rfl,rfl,rfl,by decide+kernel,rfl,by decide+kernel,by decide+kernel⟩
theorem Zbz:Zs ["self","belt","start","row"] ["self","belt","start"] (Zj Ua):=⟨rfl,rfl,rfl,by decide+kernel,rfl,by decide+kernel,by decide+kernel⟩
theorem YW:Zs ["_law_script","_law_many","_law_lines_here","_law_hall","_law_names","_law_rooms","_law_k","_law_line","_law_draw","_law_handed","_law_made_here","_law_due"] ["_law_script"] (Zj Zdj):=⟨rfl,rfl,rfl,by decide+kernel,rfl,by decide+kernel,by decide+kernel⟩
set_option genInjectivity false
set_option genSizeOf false
set_option genSizeOfSpec false
set_option genInjectivity false in
set_option genSizeOf false in
structure Tp(K:PySem.W.Frag)(mg:Str→Option Value) where
 f_l_cell:Addr
 d_l_cell:FuncData
 F_l_cell:Fun K "_law_cell" "_law_cell" Za4 f_l_cell d_l_cell
 b_l_cell:ZA K d_l_cell ["_law_script","_law_k"] []
 m_l_cell:mg "_law_cell" =some (.ref f_l_cell)
 f_l_mix:Addr
 d_l_mix:FuncData
 F_l_mix:Fun K "_law_mix" "_law_mix" Zcd f_l_mix d_l_mix
 b_l_mix:ZA K d_l_mix ["_law_cell_here","_law_way"] []
 m_l_mix:mg "_law_mix" =some (.ref f_l_mix)
 f_l_lines:Addr
 d_l_lines:FuncData
 F_l_lines:Fun K "_law_lines" "_law_lines" Zaj f_l_lines d_l_lines
 b_l_lines:ZA K d_l_lines ["_law_script","_law_many"] []
 m_l_lines:mg "_law_lines" =some (.ref f_l_lines)
 f_is_name:Addr
 d_is_name:FuncData
 F_is_name:Fun K "is_name" "is_name" Ul f_is_name d_is_name
 b_is_name:ZA K d_is_name ["thing"] []
 m_is_name:mg "is_name" =some (.ref f_is_name)
 f_Hall_work:Addr
 d_Hall_work:FuncData
 F_Hall_work:Fun K "work" "Hall.work" Uh f_Hall_work d_Hall_work
 b_Hall_work:ZA K d_Hall_work ["self","name"] []
 f_is_whole:Addr
 d_is_whole:FuncData
 F_is_whole:Fun K "is_whole" "is_whole" US f_is_whole d_is_whole
 b_is_whole:ZA K d_is_whole ["thing"] []
 m_is_whole:mg "is_whole" =some (.ref f_is_whole)
 f_is_from:Addr
 d_is_from:FuncData
 F_is_from:Fun K "is_from" "is_from" Zaf f_is_from d_is_from
 b_is_from:ZA K d_is_from ["thing","least"] []
 m_is_from:mg "is_from" =some (.ref f_is_from)
 f_need_start:Addr
 d_need_start:FuncData
 F_need_start:Fun K "need_start" "need_start" VO f_need_start d_need_start
 b_need_start:ZA K d_need_start ["start"] []
 m_need_start:mg "need_start" =some (.ref f_need_start)
 f_is_number_below:Addr
 d_is_number_below:FuncData
 F_is_number_below:Fun K "is_number_below" "is_number_below" Wr f_is_number_below d_is_number_below
 b_is_number_below:ZA K d_is_number_below ["thing","bound"] []
 m_is_number_below:mg "is_number_below" =some (.ref f_is_number_below)
 f_Hall_need_work:Addr
 d_Hall_need_work:FuncData
 F_Hall_need_work:Fun K "need_work" "Hall.need_work" Wv f_Hall_need_work d_Hall_need_work
 b_Hall_need_work:ZA K d_Hall_need_work ["self","work"] []
 f_Hall_lay:Addr
 d_Hall_lay:FuncData
 F_Hall_lay:Fun K "lay" "Hall.lay" UD f_Hall_lay d_Hall_lay
 b_Hall_lay:ZA K d_Hall_lay ["self","row"] []
 f_Hall_belt:Addr
 d_Hall_belt:FuncData
 dT_Hall_belt:Addr
 dk0_Hall_belt:Tok
 F_Hall_belt:Zhu K "belt" "Hall.belt" Ub dT_Hall_belt f_Hall_belt d_Hall_belt
 b_Hall_belt:ZA K d_Hall_belt ["self","giver","taker","give","take","start"] []
 b1_Hall_belt:ZA K d_Hall_belt ["self","giver","taker","give","take","start"] [.int 0 dk0_Hall_belt]
 v1_Hall_belt:Zw [.int 0] [.int 0 dk0_Hall_belt]
 f_Hall_init:Addr
 d_Hall_init:FuncData
 F_Hall_init:Fun K "__init__" "Hall.__init__" V9 f_Hall_init d_Hall_init
 b_Hall_init:ZA K d_Hall_init ["self"] []
 f_l_made:Addr
 d_l_made:FuncData
 F_l_made:Fun K "_law_made" "_law_made" ZaU f_l_made d_l_made
 b_l_made:ZA K d_l_made ["_law_many","_law_lines_here"] []
 m_l_made:mg "_law_made" =some (.ref f_l_made)
 f_Hall_belts:Addr
 d_Hall_belts:FuncData
 F_Hall_belts:Fun K "belts" "Hall.belts" VC f_Hall_belts d_Hall_belts
 b_Hall_belts:ZA K d_Hall_belts ["self"] []
 f_starts_of:Addr
 d_starts_of:FuncData
 F_starts_of:Fun K "starts_of" "starts_of" Vj f_starts_of d_starts_of
 b_starts_of:ZA K d_starts_of ["hall"] []
 m_starts_of:mg "starts_of" =some (.ref f_starts_of)
 f_need_rooms:Addr
 d_need_rooms:FuncData
 F_need_rooms:Fun K "need_rooms" "need_rooms" WV f_need_rooms d_need_rooms
 b_need_rooms:ZA K d_need_rooms ["hall","rooms"] []
 m_need_rooms:mg "need_rooms" =some (.ref f_need_rooms)
 f_hall_of:Addr
 d_hall_of:FuncData
 F_hall_of:Fun K "hall_of" "hall_of" Zao f_hall_of d_hall_of
 b_hall_of:ZA K d_hall_of ["names","rows"] []
 m_hall_of:mg "hall_of" =some (.ref f_hall_of)
 f_back_of:Addr
 d_back_of:FuncData
 F_back_of:Fun K "back_of" "back_of" Zar f_back_of d_back_of
 b_back_of:ZA K d_back_of ["row","room"] []
 m_back_of:mg "back_of" =some (.ref f_back_of)
 f_Hall_names:Addr
 d_Hall_names:FuncData
 F_Hall_names:Fun K "names" "Hall.names" VQ f_Hall_names d_Hall_names
 b_Hall_names:ZA K d_Hall_names ["self"] []
 f_backed:Addr
 d_backed:FuncData
 F_backed:Fun K "backed" "backed" U0 f_backed d_backed
 b_backed:ZA K d_backed ["hall","rooms"] []
 m_backed:mg "backed" =some (.ref f_backed)
 f_l_with_back:Addr
 d_l_with_back:FuncData
 F_l_with_back:Fun K "_law_with_back" "_law_with_back" WH f_l_with_back d_l_with_back
 b_l_with_back:ZA K d_l_with_back ["_law_lines_here","_law_rooms"] []
 m_l_with_back:mg "_law_with_back" =some (.ref f_l_with_back)
 f_l_refused:Addr
 d_l_refused:FuncData
 F_l_refused:Fun K "_law_refused" "_law_refused" Uf f_l_refused d_l_refused
 b_l_refused:ZA K d_l_refused ["_law_hall","_law_rooms"] []
 m_l_refused:mg "_law_refused" =some (.ref f_l_refused)
 f_ways_of:Addr
 d_ways_of:FuncData
 F_ways_of:Fun K "ways_of" "ways_of" Up f_ways_of d_ways_of
 b_ways_of:ZA K d_ways_of ["hall"] []
 m_ways_of:mg "ways_of" =some (.ref f_ways_of)
 f_tree_from:Addr
 d_tree_from:FuncData
 F_tree_from:Fun K "tree_from" "tree_from" Uc f_tree_from d_tree_from
 b_tree_from:ZA K d_tree_from ["ways","first"] []
 m_tree_from:mg "tree_from" =some (.ref f_tree_from)
 f_forest_of:Addr
 d_forest_of:FuncData
 F_forest_of:Fun K "forest_of" "forest_of" Ug f_forest_of d_forest_of
 b_forest_of:ZA K d_forest_of ["hall"] []
 m_forest_of:mg "forest_of" =some (.ref f_forest_of)
 f_pieces_of:Addr
 d_pieces_of:FuncData
 F_pieces_of:Fun K "pieces_of" "pieces_of" Vi f_pieces_of d_pieces_of
 b_pieces_of:ZA K d_pieces_of ["hall"] []
 m_pieces_of:mg "pieces_of" =some (.ref f_pieces_of)
 f_l_pieces:Addr
 d_l_pieces:FuncData
 F_l_pieces:Fun K "_law_pieces" "_law_pieces" VE f_l_pieces d_l_pieces
 b_l_pieces:ZA K d_l_pieces ["_law_many","_law_lines_here"] []
 m_l_pieces:mg "_law_pieces" =some (.ref f_l_pieces)
 f_l_is_ready:Addr
 d_l_is_ready:FuncData
 F_l_is_ready:Fun K "_law_is_ready" "_law_is_ready" WX f_l_is_ready d_l_is_ready
 b_l_is_ready:ZA K d_l_is_ready ["_law_due","_law_work"] []
 m_l_is_ready:mg "_law_is_ready" =some (.ref f_l_is_ready)
 f_Hall_entering:Addr
 d_Hall_entering:FuncData
 F_Hall_entering:Fun K "entering" "Hall.entering" Wc f_Hall_entering d_Hall_entering
 b_Hall_entering:ZA K d_Hall_entering ["self","work"] []
 f_Hall_leaving:Addr
 d_Hall_leaving:FuncData
 F_Hall_leaving:Fun K "leaving" "Hall.leaving" Wu f_Hall_leaving d_Hall_leaving
 b_Hall_leaving:ZA K d_Hall_leaving ["self","work"] []
 f_Hall_need_belt:Addr
 d_Hall_need_belt:FuncData
 F_Hall_need_belt:Fun K "need_belt" "Hall.need_belt" Wx f_Hall_need_belt d_Hall_need_belt
 b_Hall_need_belt:ZA K d_Hall_need_belt ["self","belt"] []
 f_Hall_belt_at:Addr
 d_Hall_belt_at:FuncData
 F_Hall_belt_at:Fun K "belt_at" "Hall.belt_at" Va f_Hall_belt_at d_Hall_belt_at
 b_Hall_belt_at:ZA K d_Hall_belt_at ["self","belt"] []
 f_Floor_lying:Addr
 d_Floor_lying:FuncData
 F_Floor_lying:Fun K "lying" "Floor.lying" Vo f_Floor_lying d_Floor_lying
 b_Floor_lying:ZA K d_Floor_lying ["self"] []
 f_enough:Addr
 d_enough:FuncData
 F_enough:Fun K "enough" "enough" U6 f_enough d_enough
 b_enough:ZA K d_enough ["heaps","takes"] []
 m_enough:mg "enough" =some (.ref f_enough)
 f_Floor_need_work:Addr
 d_Floor_need_work:FuncData
 F_Floor_need_work:Fun K "need_work" "Floor.need_work" Wp f_Floor_need_work d_Floor_need_work
 b_Floor_need_work:ZA K d_Floor_need_work ["self","work"] []
 f_Floor_ready:Addr
 d_Floor_ready:FuncData
 F_Floor_ready:Fun K "ready" "Floor.ready" Vq f_Floor_ready d_Floor_ready
 b_Floor_ready:ZA K d_Floor_ready ["self","work"] []
 f_takes_of:Addr
 d_takes_of:FuncData
 F_takes_of:Fun K "takes_of" "takes_of" VI f_takes_of d_takes_of
 b_takes_of:ZA K d_takes_of ["hall","work"] []
 m_takes_of:mg "takes_of" =some (.ref f_takes_of)
 f_gives_of:Addr
 d_gives_of:FuncData
 F_gives_of:Fun K "gives_of" "gives_of" VU f_gives_of d_gives_of
 b_gives_of:ZA K d_gives_of ["hall","work"] []
 m_gives_of:mg "gives_of" =some (.ref f_gives_of)
 f_Floor_init:Addr
 d_Floor_init:FuncData
 F_Floor_init:Fun K "__init__" "Floor.__init__" Y1 f_Floor_init d_Floor_init
 b_Floor_init:ZA K d_Floor_init ["self","hall"] []
 f_l_hall_like:Addr
 d_l_hall_like:FuncData
 F_l_hall_like:Fun K "_law_hall_like" "_law_hall_like" Yj f_l_hall_like d_l_hall_like
 b_l_hall_like:ZA K d_l_hall_like ["_law_made_here","_law_due","_law_many"] []
 m_l_hall_like:mg "_law_hall_like" =some (.ref f_l_hall_like)
 f_l_spoilt:Addr
 d_l_spoilt:FuncData
 F_l_spoilt:Fun K "_law_spoilt" "_law_spoilt" UO f_l_spoilt d_l_spoilt
 b_l_spoilt:ZA K d_l_spoilt ["_law_script","_law_lines_here","_law_rooms"] []
 m_l_spoilt:mg "_law_spoilt" =some (.ref f_l_spoilt)
 f_divisor:Addr
 d_divisor:FuncData
 F_divisor:Fun K "divisor" "divisor" Zan f_divisor d_divisor
 b_divisor:ZA K d_divisor ["one","other"] []
 m_divisor:mg "divisor" =some (.ref f_divisor)
 f_ratio:Addr
 d_ratio:FuncData
 F_ratio:Fun K "ratio" "ratio" Zcc f_ratio d_ratio
 b_ratio:ZA K d_ratio ["top","bottom"] []
 m_ratio:mg "ratio" =some (.ref f_ratio)
 f_times:Addr
 d_times:FuncData
 F_times:Fun K "times" "times" Zcl f_times d_times
 b_times:ZA K d_times ["one","other"] []
 m_times:mg "times" =some (.ref f_times)
 f_gain:Addr
 d_gain:FuncData
 F_gain:Fun K "gain" "gain" Zds f_gain d_gain
 b_gain:ZA K d_gain ["row","along"] []
 m_gain:mg "gain" =some (.ref f_gain)
 f_shares_of:Addr
 d_shares_of:FuncData
 F_shares_of:Fun K "shares_of" "shares_of" Ue f_shares_of d_shares_of
 b_shares_of:ZA K d_shares_of ["hall","tree"] []
 m_shares_of:mg "shares_of" =some (.ref f_shares_of)
 f_multiple:Addr
 d_multiple:FuncData
 F_multiple:Fun K "multiple" "multiple" UN f_multiple d_multiple
 b_multiple:ZA K d_multiple ["one","other"] []
 m_multiple:mg "multiple" =some (.ref f_multiple)
 f_rates_by:Addr
 d_rates_by:FuncData
 F_rates_by:Fun K "rates_by" "rates_by" VP f_rates_by d_rates_by
 b_rates_by:ZA K d_rates_by ["hall","forest"] []
 m_rates_by:mg "rates_by" =some (.ref f_rates_by)
 f_change_of:Addr
 d_change_of:FuncData
 F_change_of:Fun K "change_of" "change_of" Vg f_change_of d_change_of
 b_change_of:ZA K d_change_of ["hall","counts"] []
 m_change_of:mg "change_of" =some (.ref f_change_of)
 f_way_to:Addr
 d_way_to:FuncData
 F_way_to:Fun K "way_to" "way_to" ZaZ f_way_to d_way_to
 b_way_to:ZA K d_way_to ["tree","work"] []
 m_way_to:mg "way_to" =some (.ref f_way_to)
 f_shared_steps:Addr
 d_shared_steps:FuncData
 F_shared_steps:Fun K "shared_steps" "shared_steps" W9 f_shared_steps d_shared_steps
 b_shared_steps:ZA K d_shared_steps ["one","other"] []
 m_shared_steps:mg "shared_steps" =some (.ref f_shared_steps)
 f_ring_through:Addr
 d_ring_through:FuncData
 F_ring_through:Fun K "ring_through" "ring_through" YV f_ring_through d_ring_through
 b_ring_through:ZA K d_ring_through ["hall","forest","belt"] []
 m_ring_through:mg "ring_through" =some (.ref f_ring_through)
 f_rates_of:Addr
 d_rates_of:FuncData
 F_rates_of:Fun K "rates_of" "rates_of" UH f_rates_of d_rates_of
 b_rates_of:ZA K d_rates_of ["hall"] []
 m_rates_of:mg "rates_of" =some (.ref f_rates_of)
 f_Hall_fill:Addr
 d_Hall_fill:FuncData
 F_Hall_fill:Fun K "fill" "Hall.fill" Ua f_Hall_fill d_Hall_fill
 b_Hall_fill:ZA K d_Hall_fill ["self","belt","start"] []
 f_law:Addr
 d_law:FuncData
 F_law:Fun K "law" "law" Zdj f_law d_law
 b_law:ZA K d_law ["_law_script"] []
 m_law:mg "law" =some (.ref f_law)
 C_Floor:Addr
 cl_Floor:Cls K C_Floor
 g_Floor:mg "Floor" =some (.ref C_Floor)
 na_Floor:ZaO K C_Floor ["takes","gives","heaps"]
 M_Floor_lying:WQ K C_Floor "lying" f_Floor_lying
 M_Floor_need_work:WQ K C_Floor "need_work" f_Floor_need_work
 M_Floor_ready:WQ K C_Floor "ready" f_Floor_ready
 mk_Floor:Mk K C_Floor f_Floor_init
 C_Hall:Addr
 cl_Hall:Cls K C_Hall
 g_Hall:mg "Hall" =some (.ref C_Hall)
 na_Hall:ZaO K C_Hall ["numbers","rows"]
 M_Hall_work:WQ K C_Hall "work" f_Hall_work
 M_Hall_need_work:WQ K C_Hall "need_work" f_Hall_need_work
 M_Hall_lay:WQ K C_Hall "lay" f_Hall_lay
 M_Hall_belt:WQ K C_Hall "belt" f_Hall_belt
 mk_Hall:Mk K C_Hall f_Hall_init
 M_Hall_belts:WQ K C_Hall "belts" f_Hall_belts
 M_Hall_names:WQ K C_Hall "names" f_Hall_names
 M_Hall_entering:WQ K C_Hall "entering" f_Hall_entering
 M_Hall_leaving:WQ K C_Hall "leaving" f_Hall_leaving
 M_Hall_need_belt:WQ K C_Hall "need_belt" f_Hall_need_belt
 M_Hall_belt_at:WQ K C_Hall "belt_at" f_Hall_belt_at
 M_Hall_fill:WQ K C_Hall "fill" f_Hall_fill
 n_ValueError:mg "ValueError" =none
 n_all:mg "all" =none
 n_bool:mg "bool" =none
 n_enumerate:mg "enumerate" =none
 n_int:mg "int" =none
 n_isinstance:mg "isinstance" =none
 n_len:mg "len" =none
 n_list:mg "list" =none
 n_min:mg "min" =none
 n_range:mg "range" =none
 n_reversed:mg "reversed" =none
 n_sorted:mg "sorted" =none
 n_str:mg "str" =none
 n_tuple:mg "tuple" =none
 n_zip:mg "zip" =none
 X_RateError:Addr
 gx_RateError:PySem.W.nsIn K mainGlobals "RateError" =some (some (.ref X_RateError))
 mx_RateError:mg "RateError" =some (.ref X_RateError)
 ex_RateError:PySem.W.excIn K X_RateError [.type "ValueError",.type "Exception",.type "BaseException",.type "object"] "ValueError.__new__" =true
 X_NoName:Addr
 gx_NoName:PySem.W.nsIn K mainGlobals "NoName" =some (some (.ref X_NoName))
 mx_NoName:mg "NoName" =some (.ref X_NoName)
 ex_NoName:PySem.W.excIn K X_NoName [.type "ValueError",.type "Exception",.type "BaseException",.type "object"] "ValueError.__new__" =true
 X_Twice:Addr
 gx_Twice:PySem.W.nsIn K mainGlobals "Twice" =some (some (.ref X_Twice))
 mx_Twice:mg "Twice" =some (.ref X_Twice)
 ex_Twice:PySem.W.excIn K X_Twice [.type "ValueError",.type "Exception",.type "BaseException",.type "object"] "ValueError.__new__" =true
 X_TooMuch:Addr
 gx_TooMuch:PySem.W.nsIn K mainGlobals "TooMuch" =some (some (.ref X_TooMuch))
 mx_TooMuch:mg "TooMuch" =some (.ref X_TooMuch)
 ex_TooMuch:PySem.W.excIn K X_TooMuch [.type "ValueError",.type "Exception",.type "BaseException",.type "object"] "ValueError.__new__" =true
 X_NoWork:Addr
 gx_NoWork:PySem.W.nsIn K mainGlobals "NoWork" =some (some (.ref X_NoWork))
 mx_NoWork:mg "NoWork" =some (.ref X_NoWork)
 ex_NoWork:PySem.W.excIn K X_NoWork [.type "ValueError",.type "Exception",.type "BaseException",.type "object"] "ValueError.__new__" =true
 X_NoBelt:Addr
 gx_NoBelt:PySem.W.nsIn K mainGlobals "NoBelt" =some (some (.ref X_NoBelt))
 mx_NoBelt:mg "NoBelt" =some (.ref X_NoBelt)
 ex_NoBelt:PySem.W.excIn K X_NoBelt [.type "ValueError",.type "Exception",.type "BaseException",.type "object"] "ValueError.__new__" =true
 X_NoRate:Addr
 gx_NoRate:PySem.W.nsIn K mainGlobals "NoRate" =some (some (.ref X_NoRate))
 mx_NoRate:mg "NoRate" =some (.ref X_NoRate)
 ex_NoRate:PySem.W.excIn K X_NoRate [.type "ValueError",.type "Exception",.type "BaseException",.type "object"] "ValueError.__new__" =true
 X_NoRoom:Addr
 gx_NoRoom:PySem.W.nsIn K mainGlobals "NoRoom" =some (some (.ref X_NoRoom))
 mx_NoRoom:mg "NoRoom" =some (.ref X_NoRoom)
 ex_NoRoom:PySem.W.excIn K X_NoRoom [.type "ValueError",.type "Exception",.type "BaseException",.type "object"] "ValueError.__new__" =true
 em_RateError_RateError:PySem.W.exmOne K (.ref X_RateError) (.ref X_RateError)=some true
 em_NoName_RateError:PySem.W.exmOne K (.ref X_NoName) (.ref X_RateError)=some true
 em_Twice_RateError:PySem.W.exmOne K (.ref X_Twice) (.ref X_RateError)=some true
 em_TooMuch_RateError:PySem.W.exmOne K (.ref X_TooMuch) (.ref X_RateError)=some true
 em_NoWork_RateError:PySem.W.exmOne K (.ref X_NoWork) (.ref X_RateError)=some true
 em_NoBelt_RateError:PySem.W.exmOne K (.ref X_NoBelt) (.ref X_RateError)=some true
 em_NoRate_RateError:PySem.W.exmOne K (.ref X_NoRate) (.ref X_RateError)=some true
 em_NoRoom_RateError:PySem.W.exmOne K (.ref X_NoRoom) (.ref X_RateError)=some true
 xc_NoName:YJ K X_NoName
 xc_Twice:YJ K X_Twice
 xc_TooMuch:YJ K X_TooMuch
 xc_NoWork:YJ K X_NoWork
 xc_NoBelt:YJ K X_NoBelt
 xc_NoRate:YJ K X_NoRate
 xc_NoRoom:YJ K X_NoRoom
 ki_NoName_NoRoom:PySem.W.kitOne K (.ref X_NoName) (.ref X_NoRoom)=some false
 ki_NoName_ValueError:PySem.W.kitOne K (.ref X_NoName) (.type "ValueError")=some true
 ki_NoName_NoRate:PySem.W.kitOne K (.ref X_NoName) (.ref X_NoRate)=some false
 ki_NoName_TooMuch:PySem.W.kitOne K (.ref X_NoName) (.ref X_TooMuch)=some false
 ki_Twice_NoRoom:PySem.W.kitOne K (.ref X_Twice) (.ref X_NoRoom)=some false
 ki_Twice_ValueError:PySem.W.kitOne K (.ref X_Twice) (.type "ValueError")=some true
 ki_Twice_NoRate:PySem.W.kitOne K (.ref X_Twice) (.ref X_NoRate)=some false
 ki_Twice_TooMuch:PySem.W.kitOne K (.ref X_Twice) (.ref X_TooMuch)=some false
 ki_TooMuch_NoRoom:PySem.W.kitOne K (.ref X_TooMuch) (.ref X_NoRoom)=some false
 ki_TooMuch_ValueError:PySem.W.kitOne K (.ref X_TooMuch) (.type "ValueError")=some true
 ki_TooMuch_NoRate:PySem.W.kitOne K (.ref X_TooMuch) (.ref X_NoRate)=some false
 ki_TooMuch_TooMuch:PySem.W.kitOne K (.ref X_TooMuch) (.ref X_TooMuch)=some true
 ki_NoWork_NoRoom:PySem.W.kitOne K (.ref X_NoWork) (.ref X_NoRoom)=some false
 ki_NoWork_ValueError:PySem.W.kitOne K (.ref X_NoWork) (.type "ValueError")=some true
 ki_NoWork_NoRate:PySem.W.kitOne K (.ref X_NoWork) (.ref X_NoRate)=some false
 ki_NoWork_TooMuch:PySem.W.kitOne K (.ref X_NoWork) (.ref X_TooMuch)=some false
 ki_NoBelt_NoRoom:PySem.W.kitOne K (.ref X_NoBelt) (.ref X_NoRoom)=some false
 ki_NoBelt_ValueError:PySem.W.kitOne K (.ref X_NoBelt) (.type "ValueError")=some true
 ki_NoBelt_NoRate:PySem.W.kitOne K (.ref X_NoBelt) (.ref X_NoRate)=some false
 ki_NoBelt_TooMuch:PySem.W.kitOne K (.ref X_NoBelt) (.ref X_TooMuch)=some false
 ki_NoRate_NoRoom:PySem.W.kitOne K (.ref X_NoRate) (.ref X_NoRoom)=some false
 ki_NoRate_ValueError:PySem.W.kitOne K (.ref X_NoRate) (.type "ValueError")=some true
 ki_NoRate_NoRate:PySem.W.kitOne K (.ref X_NoRate) (.ref X_NoRate)=some true
 ki_NoRate_TooMuch:PySem.W.kitOne K (.ref X_NoRate) (.ref X_TooMuch)=some false
 ki_NoRoom_NoRoom:PySem.W.kitOne K (.ref X_NoRoom) (.ref X_NoRoom)=some true
 ki_NoRoom_ValueError:PySem.W.kitOne K (.ref X_NoRoom) (.type "ValueError")=some true
 ki_NoRoom_NoRate:PySem.W.kitOne K (.ref X_NoRoom) (.ref X_NoRate)=some false
 ki_NoRoom_TooMuch:PySem.W.kitOne K (.ref X_NoRoom) (.ref X_TooMuch)=some false
 tk_MOST_LETTERS:Tok
 c_MOST_LETTERS:mg "MOST_LETTERS" =some (.int 8 tk_MOST_LETTERS)
 tk_MOST_WORKS:Tok
 c_MOST_WORKS:mg "MOST_WORKS" =some (.int 30 tk_MOST_WORKS)
 tk_MOST_BELTS:Tok
 c_MOST_BELTS:mg "MOST_BELTS" =some (.int 60 tk_MOST_BELTS)
 bl_law:∀(s:Shared)(v:Value),BindsTo s d_law ⟨[v],[]⟩ [("_law_script",v)]
set_option genInjectivity true
set_option genSizeOf true
set_option genSizeOfSpec true
theorem Zj7{a b:Int}(ha:0≤a)(hb:0<b):My.G b (a % b)=My.G a b:=by
 rw[←Int.fmod_eq_emod_of_nonneg _ (Int.le_of_lt hb)];exact My.ZlA ha hb
theorem Zno{k:Nat}{x:Int}(h:My.S k x)(hk:k≤2):x.natAbs.log2<9000:=by
 by_cases h0:x.natAbs=0
 ·rw[h0];decide+kernel
 ·have e:x.natAbs=x.toNat:=by have:=h.lo;omega
  have l:=(Nat.log2_lt h0).mpr (by rw[e];exact(h.mono hk).hi);omega
def ZjN(K:PySem.W.Frag):Sp:=fun vs H Q _=>∃(a:Addr)(ns:List Int),vs=[.ref a]∧SqL K H a (ns.map V.int)∧ns.length≤63∧∀H',Q (.bl true) H'
def ZkJ{K:PySem.W.Frag}{mg:Str→Option Value}(T:Tp K mg):Sp:=ZjN K
noncomputable def Yt (x:Str):Bool:=decide (1≤x.length)&&decide (x.length≤8)&&x.cps.toList.all fun c=>decide (97≤c)&&decide (c≤122)
structure B5 where
 giver:Int
 taker:Int
 give:Int
 take:Int
 start:Int
noncomputable def B5.v (b:B5):List V:=[.int b.giver,.int b.taker,.int b.give,.int b.take,.int b.start]
noncomputable def B5.d (b:B5):PyData:= .tuple [.int b.giver,.int b.taker,.int b.give,.int b.take,.int b.start]
structure HM where
 names:List Str
 belts:List B5
noncomputable def ZS (H:Hp):List V→List B5→Prop:=Paired fun v b=>∃t,v= .ref t∧H t=some (.tup b.v)
noncomputable def Y2 (ns:List Str):List (Key×V):=ns.zipIdx.map fun p=>(Sum.inr p.1,V.int p.2)
theorem UK(ns:List Str):(Y2 ns).length=ns.length:=by unfold Y2;simp
theorem ZfW(ns:List Str)(x:Str):Y2 (ns++ [x])=Y2 ns++ [(Sum.inr x,.int ns.length)]:=by
 unfold Y2;rw[List.zipIdx_append];simp
theorem Zct(ns:List Str):((Y2 ns).map fun kv=>kV kv.1)=ns.map V.str:=by
 unfold Y2;rw[List.map_map];have:((fun kv:Key×V=>kV kv.1)∘fun p:Str×Nat=>((Sum.inr p.1:Key),V.int p.2))=(V.str∘fun p:Str×Nat=>p.1):=rfl;rw[this,←List.map_map,List.zipIdx_map_fst]
theorem Zd8(ns:List Str)(x:Str):(valV (Y2 ns) (Sum.inr x)).isSome=decide (x∈ns):=by
 rw[←W4];rw[Bool.eq_iff_iff,List.any_eq_true,decide_eq_true_eq];have e:x∈ns↔V.str x∈ns.map V.str:=by
  constructor
  ·exact List.mem_map_of_mem
  ·intro h;obtain⟨y,hy,e⟩:=List.mem_map.mp h;cases e;exact hy
 rw[e,←Zct,List.mem_map]
 constructor
 ·rintro⟨p,hp,h⟩;exact⟨p,hp,by rw[of_decide_eq_true h];rfl⟩
 ·rintro⟨p,hp,h⟩;exact⟨p,hp,decide_eq_true (ZlH h)⟩
theorem Zgp{ns:List Str}{x:Str}(h:x∉ns):valV (Y2 ns) (Sum.inr x)=none:=by
 have:=Zd8 ns x;rw[decide_eq_false h] at this;cases e:valV (Y2 ns) (Sum.inr x) with
 |none=>rfl
 |some v=>rw[e] at this;cases this
theorem ZgQ{ns:List Str}{x:Str}(h:x∉ns):YR (Y2 ns) (Sum.inr x) (.int ns.length)=Y2 (ns++ [x]):=by
 rw[Za6 _ (Zgp h),ZfW]
def Zv{K:PySem.W.Frag}{mg:Str→Option Value}(T:Tp K mg)(H:Hp)(p:Addr)(hl:HM)(fp:List Addr):Prop:=
 ∃(dx a b:Addr)(bs:List V),fp=[p,dx,a,b]∧H p=some (.ins T.C_Hall dx [("numbers",.ref a),("rows",.ref b)])∧H dx=some (.own p)∧H a=some (.dK (Y2 hl.names))∧H b=some (.lst bs)∧a≠b∧ZS H bs hl.belts
theorem ZS.keep{H H':Hp}(t:∀b xs,H b=some (.tup xs)→H' b=some (.tup xs)):∀{bs:List V}{ls:List B5},ZS H bs ls→ZS H' bs ls
 |_,_,.nil=> .nil
 |_,_,.cons ⟨a,e,h⟩ r=> .cons ⟨a,e,t _ _ h⟩ (ZS.keep t r)
theorem ZS.length{H:Hp}{bs:List V}{ls:List B5}(h:ZS H bs ls):bs.length=ls.length:=Paired.length h
theorem ZS.snoc{H:Hp}:∀{bs:List V}{ls:List B5}{t:Addr}{b:B5},ZS H bs ls→H t=some (.tup b.v)→ZS H (bs++ [.ref t]) (ls++ [b])
 |_,_,_,_,.nil,h=> .cons ⟨_,rfl,h⟩ .nil
 |_,_,_,_,.cons x r,h=> .cons x (ZS.snoc r h)
theorem ZS.at{H:Hp}:∀{bs:List V}{ls:List B5}{i:Nat}{b:B5},ZS H bs ls→ls[i]? =some b→∃t,bs[i]? =some (.ref t)∧H t=some (.tup b.v)
 |_,_,_,_,.nil,e=>by simp at e
 |_,_,0,_,.cons ⟨t,e1,h⟩ _,e=>by simp at e;subst e;exact⟨t,by simp[e1],h⟩
 |_,_,i+1,b,.cons _ r,e=>by
  obtain⟨t,h1,h2⟩:=ZS.at (i:=i) (b:=b) r (by simpa using e);exact⟨t,by simpa using h1,h2⟩
section
variable {K:PySem.W.Frag}{mg:Str→Option Value}{T:Tp K mg}{H H':Hp}{p:Addr}{hl:HM}{fp:List Addr}
theorem Zv.dom(h:Zv T H p hl fp):∀x∈fp,H x≠none:=by
 obtain⟨dx,a,b,bs,rfl,h1,h2,h3,h4,_⟩:=h;intro x hx;simp only[List.mem_cons,List.not_mem_nil,or_false] at hx;rcases hx with rfl|rfl|rfl|rfl
 ·rw[h1];simp
 ·rw[h2];simp
 ·rw[h3];simp
 ·rw[h4];simp
theorem Zv.keep(h:Zv T H p hl fp)(k:∀x∈fp,H' x=H x)(t:∀b xs,H b=some (.tup xs)→H' b=some (.tup xs)):Zv T H' p hl fp:=by
 obtain⟨dx,a,b,bs,rfl,h1,h2,h3,h4,h5,h6⟩:=h;exact⟨dx,a,b,bs,rfl,(k p (by simp)).trans h1,(k dx (by simp)).trans h2,(k a (by simp)).trans h3,(k b (by simp)).trans h4,h5,h6.keep t⟩
theorem Zv.off{A:List Addr}(h:Zv T H p hl fp)(f:ZW A H H')(d:∀x∈fp,x∉A):Zv T H' p hl fp:=by
 refine h.keep (fun x hx=>?_) f.tups;cases q:H x with
 |none=>exact absurd q (h.dom x hx)
 |some o=>exact f.keep x o q (d x hx)
theorem ZiA{m:Str}{G:Prop}(h:Zv T H p hl fp)(m1:(m== "numbers")=false)(m2:(m== "rows")=false)(q:G):∃a dx fs,V.ref p= .ref a∧H a=some (.ins T.C_Hall dx fs)∧fs.lookup m=none∧G:=by
 obtain⟨dx,a,b,bs,rfl,h1,_⟩:=h;exact⟨p,dx,_,rfl,h1,Rd.lk1 m1 (Rd.lk1 m2 Rd.lkN),q⟩
theorem Zv.same(h:Zv T H p hl fp)(e:Zd H H'):Zv T H' p hl fp:=h.off (A:=[]) e.frame (by simp)
end
noncomputable def dB:B5:=⟨0,0,0,0,0⟩
noncomputable def Yp (ls:List B5) (w:Int):List Nat:=(List.range ls.length).filter fun i=>decide ((ls.getD i dB).taker=w)
noncomputable def YF (ls:List B5) (w:Int):List Nat:=(List.range ls.length).filter fun i=>decide ((ls.getD i dB).giver=w)
theorem ZS.getD{H:Hp}{bs:List V}{ls:List B5}{i:Nat}(h:ZS H bs ls)(hi:i<ls.length):∃t,bs.getD i .non= .ref t∧H t=some (.tup (ls.getD i dB).v):=by
 obtain⟨t,h1,h2⟩:=h.at (List.getElem?_eq_getElem hi);exact⟨t,by simp[List.getD,h1],by simpa[List.getD,hi] using h2⟩
theorem Zdb(b:B5):b.d.canLay0=true:=by simp[B5.d,PyData.canLay0,PyData.canLayAll0]
theorem Zfh(b:B5):b.d.depth≤2:=by simp[B5.d,PyData.depth,PyData.depthAll]
theorem Zgx:∀ls:List B5,PyData.canLayAll0 (ls.map B5.d)=true
 | []=>by simp[PyData.canLayAll0]
 |b::ls=>by
  have:=Zgx ls;simp only[List.map_cons,PyData.canLayAll0,Zdb b,Bool.true_and];exact this
theorem WE(ls:List B5):(PyData.list (ls.map B5.d)).canLay0=true:=by
 have:=Zgx ls;simp[PyData.canLay0];simpa using this
theorem Zd3:∀ls:List B5,PyData.depthAll (ls.map B5.d)≤3
 | []=>by simp[PyData.depthAll]
 |b::ls=>by
  have h1:=Zd3 ls;have h2:=Zfh b;simp only[List.map_cons,PyData.depthAll];omega
theorem ZaY(ls:List B5):(PyData.list (ls.map B5.d)).depth≤60:=by
 have:=Zd3 ls;simp only[PyData.depth];omega
theorem ZeU{K:PySem.W.Frag}{H:Hp}{t:Addr}{b:B5}(h:H t=some (.tup b.v)):Y0 K H (.ref t) b.d:= .tup (.of h) (.cons (.int _) (.cons (.int _) (.cons (.int _) (.cons (.int _) (.cons (.int _) .nil)))))
theorem V3{K:PySem.W.Frag}{H:Hp}:∀{bs:List V}{ls:List B5},ZS H bs ls→DRels K H bs (ls.map B5.d)
 |_,_,.nil=> .nil
 |_,_,.cons ⟨t,e,h⟩ r=>by rw[e];exact .cons (ZeU h) (V3 r)
theorem Zhv{K:PySem.W.Frag}{H:Hp}{Q:VK}{p q:Addr}{bs cs:List V}{ls:List B5}(h1:SqL K H p bs)(t1:ZS H bs ls)(h2:SqL K H q cs)(t2:ZS H cs ls)(k:Q (.bl false) H):rOr rNe (Uw K true) (.ref p) (.ref q) H Q:=
 Rd.Zb3 (.lst h1 (V3 t1)) (.lst h2 (V3 t2)) (WE ls) (WE ls) (ZaY ls) (by rw[SeqAt.eqv_refl _ (WE ls)];exact k)
theorem ZaM{ns:List Int}{k:Int}(h0:0≤k)(h1:k<ns.length):atI (ns.map V.int) k=some (.int (ns.getD k.toNat 0)):=by
 obtain⟨n,rfl⟩:=Int.eq_ofNat_of_zero_le h0;have hn:n<ns.length:=by omega
 refine Yo ?_;simp[List.getD,hn]
theorem Za5{n:Nat}(h:n≤10000):n<sizeLine:=Nat.lt_of_le_of_lt h (by decide)
noncomputable def ZaW (ls:List B5) (i:Nat) (w:Int):List Fo.Trip:=(if(ls.getD i dB).giver=w then[((ls.getD i dB).taker,(i:Int),true)] else[])++(if(ls.getD i dB).taker=w then[((ls.getD i dB).giver,(i:Int),false)] else[])
noncomputable def W0 (ls:List B5) (k:Nat) (w:Int):List Fo.Trip:=(List.range k).flatMap fun i=>ZaW ls i w
noncomputable def ZT (ls:List B5):Int→List Fo.Trip:=W0 ls ls.length
theorem Zgb(ls:List B5)(k:Nat)(w:Int):W0 ls (k+1) w=W0 ls k w++ZaW ls k w:=by
 unfold W0;rw[List.range_succ,List.flatMap_append];simp
theorem Zby{α:Type}{xs:List α}(nd:xs.Nodup){i j:Nat}(hi:i<xs.length)(hj:j<xs.length)(e:xs[i]=xs[j]):i=j:=by
 rcases Nat.lt_trichotomy i j with h|h|h
 ·exact absurd e (List.pairwise_iff_getElem.mp nd i j hi hj h)
 ·exact h
 ·exact absurd e.symm (List.pairwise_iff_getElem.mp nd j i hj hi h)
theorem ZY{H H':Hp}{x:Addr}(s:Zd H H')(h:H' x=none):H x=none:=by
 cases e:H x with
 |none=>rfl
 |some o=>rw[s _ _ e] at h;cases h
theorem ZH{α:Type}{xs:List α}{i:Nat}{d:α}(h:i<xs.length):xs.getD i d=xs[i]:=by simp[List.getD,h]
theorem W3{ls:List B5}{w:Int}{t:Fo.Trip}(h:t∈ZT ls w):∃(i:Nat)(hi:i<ls.length),t∈ZaW ls i w:=by
 unfold ZT W0 at h;obtain⟨i,hi,ht⟩:=List.mem_flatMap.mp h;exact⟨i,List.mem_range.mp hi,ht⟩
theorem Vr{ls:List B5}{w:Int}{t:Fo.Trip}{i:Nat}(hi:i<ls.length)(h:t∈ZaW ls i w):t∈ZT ls w:=by
 unfold ZT W0;exact List.mem_flatMap.mpr ⟨i,List.mem_range.mpr hi,h⟩
theorem Ye{ls:List B5}{i:Nat}{w:Int}{t:Fo.Trip}:t∈ZaW ls i w↔((ls.getD i dB).giver=w∧t=((ls.getD i dB).taker,(i:Int),true))∨((ls.getD i dB).taker=w∧t=((ls.getD i dB).giver,(i:Int),false)):=by
 unfold ZaW;rw[List.mem_append]
 by_cases h1:(ls.getD i dB).giver=w<;>by_cases h2:(ls.getD i dB).taker=w<;>simp[h1,h2]
theorem Zal(ls:List B5):Fo.ZiO (ZT ls):=by
 intro a b t al h;obtain⟨i,hi,ht⟩:=W3 h;refine Vr hi ?_;rw[Ye] at ht⊢;rcases ht with⟨h1,h2⟩|⟨h1,h2⟩
 ·injection h2 with e1 e2
  injection e2 with e2 e3
  exact .inr ⟨e1.symm,by rw[←h1,e2,e3];rfl⟩
 ·injection h2 with e1 e2
  injection e2 with e2 e3
  exact .inl ⟨e1.symm,by rw[←h1,e2,e3];rfl⟩
def ZE(ls:List B5)(n:Nat):Prop:=∀b∈ls,0≤b.giver∧b.giver<(n:Int)∧0≤b.taker∧b.taker<(n:Int)
theorem ZE.at{ls:List B5}{n i:Nat}(h:ZE ls n)(hi:i<ls.length):0≤(ls.getD i dB).giver∧(ls.getD i dB).giver<(n:Int)∧0≤(ls.getD i dB).taker∧(ls.getD i dB).taker<(n:Int):=by
 rw[ZH hi];exact h _ (List.getElem_mem hi)
theorem W5{ls:List B5}{n:Nat}(h:ZE ls n):∀a,∀t∈ZT ls a,0≤t.1∧t.1<(n:Int):=by
 intro a t ht;obtain⟨i,hi,hm⟩:=W3 ht;have:=h.at hi;rw[Ye] at hm;rcases hm with⟨_,rfl⟩|⟨_,rfl⟩<;>(dsimp only;omega)
noncomputable def WR (H:Hp):List Fo.Trip→List V→Prop:=Paired fun x v=>∃t,v= .ref t∧H t=some (.tup [.int x.1,.int x.2.1,.bl x.2.2])
theorem WR.keep{H H':Hp}(t:∀b xs,H b=some (.tup xs)→H' b=some (.tup xs)){vs:List V}{l:List Fo.Trip}(h:WR H l vs):WR H' l vs:=Paired.mapP h fun _ _ ⟨a,e,z⟩=>⟨a,e,t _ _ z⟩
theorem WR.snoc{H:Hp}:∀{l:List Fo.Trip}{vs:List V}{x:Fo.Trip}{t:Addr},WR H l vs→H t=some (.tup [.int x.1,.int x.2.1,.bl x.2.2])→WR H (l++ [x]) (vs++ [.ref t])
 |_,_,_,_,.nil,h=> .cons ⟨_,rfl,h⟩ .nil
 |_,_,_,_,.cons y r,h=> .cons y (WR.snoc r h)
theorem WR.length{H:Hp}{l:List Fo.Trip}{vs:List V}(h:WR H l vs):l.length=vs.length:=Paired.length h
theorem WR.at{H:Hp}:∀{l:List Fo.Trip}{vs:List V}{i:Nat}{x:Fo.Trip},WR H l vs→l[i]? =some x→∃t,vs[i]? =some (.ref t)∧H t=some (.tup [.int x.1,.int x.2.1,.bl x.2.2])
 |_,_,_,_,.nil,e=>by simp at e
 |_,_,0,_,.cons ⟨t,e1,h⟩ _,e=>by simp at e;subst e;exact⟨t,by simp[e1],h⟩
 |_,_,i+1,b,.cons _ r,e=>by
  obtain⟨t,h1,h2⟩:=WR.at (i:=i) (x:=b) r (by simpa using e);exact⟨t,by simpa using h1,h2⟩
def WA(H:Hp)(ia:List Addr)(W:Int→List Fo.Trip):Prop:=∀(j:Nat)(h:j<ia.length),∃vs,H ia[j]=some (.lst vs)∧WR H (W (j:Int)) vs
theorem WA.same{H H':Hp}{ia:List Addr}{W:Int→List Fo.Trip}(h:WA H ia W)(s:Zd H H'):WA H' ia W:=fun j hj=>by
 obtain⟨vs,h1,h2⟩:=h j hj;exact⟨vs,s _ _ h1,h2.keep fun _ _ e=>s _ _ e⟩
theorem WA.add{H:Hp}{ia:List Addr}{W:Int→List Fo.Trip}(h:WA H ia W)(nd:ia.Nodup){g:Nat}(hg:g<ia.length){vs:List V}(hv:H ia[g]=some (.lst vs))(ht:WR H (W (g:Int)) vs){t:Addr}{x:Fo.Trip}(htt:H t=some (.tup [.int x.1,.int x.2.1,.bl x.2.2])):
  WA (upd H ia[g] (.lst (vs++ [.ref t]))) ia (fun j=>W j++(if(g:Int)=j then[x] else[])):=by
 have fr:∀b xs,H b=some (.tup xs)→(upd H ia[g] (.lst (vs++ [.ref t]))) b=some (.tup xs):=fun b xs e=>by rw[Zh (Yd e hv (by intro z;cases z))];exact e
 intro j hj
 by_cases e:j=g
 ·subst e;refine⟨vs++ [.ref t],Ze,?_⟩;dsimp only;rw[if_pos rfl];exact(ht.keep fr).snoc (fr _ _ htt)
 ·obtain⟨us,h1,h2⟩:=h j hj;have ne:ia[j]≠ia[g]:=fun z=>e (Zby nd hj hg z);refine⟨us,by rw[Zh ne];exact h1,?_⟩;dsimp only;rw[if_neg (by omega),List.append_nil];exact h2.keep fr
structure ZbI(H:Hp)(r:Addr)(ia:List Addr)(n:Nat)(W:Int→List Fo.Trip):Prop where
 at_:H r=some (.lst (ia.map V.ref))
 len:ia.length=n
 nd:ia.Nodup
 wa:WA H ia W
theorem ZbI.same{H H':Hp}{r:Addr}{ia:List Addr}{n:Nat}{W:Int→List Fo.Trip}(h:ZbI H r ia n W)(s:Zd H H'):ZbI H' r ia n W:=⟨s _ _ h.at_,h.len,h.nd,h.wa.same s⟩
theorem ZdL{ia:List Addr}{g:Int}(h0:0≤g)(h1:g.toNat<ia.length):atI (ia.map V.ref) g=some (.ref ia[g.toNat]):=by
 have:=Yo (xs:=ia.map V.ref) (j:=g.toNat) (v:= .ref ia[g.toNat]) (by simp[h1])
 rwa [Int.toNat_of_nonneg h0] at this
noncomputable def Uo (H:Hp) (v:V):Option Fo.Trip→Prop
 |none=>v= .non
 |some (p,b,al)=>∃t,v= .ref t∧H t=some (.tup [.int p,.int b,.bl al])
theorem Uo.keep{H H':Hp}(t:∀b xs,H b=some (.tup xs)→H' b=some (.tup xs)){v:V}:∀{s:Option Fo.Trip},Uo H v s→Uo H' v s
 |none,h=>h
 |some (_,_,_),⟨a,e,z⟩=>⟨a,e,t _ _ z⟩
noncomputable def Ent (H:Hp):List (Key×V)→Fo.ZF→Prop:=Paired fun kv x=>kv.1=Sum.inl x.1∧Uo H kv.2 x.2
theorem Ent.keep{H H':Hp}(t:∀b xs,H b=some (.tup xs)→H' b=some (.tup xs)){kvs:List (Key×V)}{tr:Fo.ZF}(h:Ent H kvs tr):Ent H' kvs tr:=Paired.mapP h fun _ _ ⟨a,z⟩=>⟨a,z.keep t⟩
theorem Ent.snoc{H:Hp}:∀{kvs:List (Key×V)}{tr:Fo.ZF}{w:Int}{v:V}{s:Option Fo.Trip},Ent H kvs tr→Uo H v s→Ent H (kvs++ [(Sum.inl w,v)]) (tr++ [(w,s)])
 |_,_,_,_,_,.nil,h=> .cons ⟨rfl,h⟩ .nil
 |_,_,_,_,_,.cons y r,h=> .cons y (Ent.snoc r h)
theorem Ent.length{H:Hp}{kvs:List (Key×V)}{tr:Fo.ZF}(h:Ent H kvs tr):kvs.length=tr.length:=Paired.length h
theorem Ent.keys{H:Hp}:∀{kvs:List (Key×V)}{tr:Fo.ZF},Ent H kvs tr→kvs.map (·.1)=(Fo.keys tr).map Sum.inl
 |_,_,.nil=>rfl
 |_,_,.cons ⟨a,_⟩ r=>by
  have:=Ent.keys r;unfold Fo.keys at this⊢;rw[List.map_cons,List.map_cons,List.map_cons,a,this]
theorem Ent.some{H:Hp}:∀{kvs:List (Key×V)}{tr:Fo.ZF}{w:Int},Ent H kvs tr→((valV kvs (Sum.inl w)).isSome=true↔w∈Fo.keys tr):=by
 intro kvs tr w h;rw[←W4,List.any_eq_true];have hk:=h.keys
 constructor
 ·rintro⟨kv,hm,e⟩;have e1:kv.1=Sum.inl w:=of_decide_eq_true e;have:kv.1∈kvs.map (·.1):=List.mem_map_of_mem hm;rw[hk,e1] at this;obtain⟨w',hw',e2⟩:=List.mem_map.mp this;cases e2;exact hw'
 ·intro hw;have:(Sum.inl w:Key)∈(Fo.keys tr).map Sum.inl:=List.mem_map_of_mem hw;rw[←hk] at this;obtain⟨kv,hm,e⟩:=List.mem_map.mp this;exact⟨kv,hm,decide_eq_true e⟩
def Vk(H:Hp)(d:Addr)(tr:Fo.ZF):Prop:=∃kvs,H d=some (.dK kvs)∧Ent H kvs tr
theorem Vk.same{H H':Hp}{d:Addr}{tr:Fo.ZF}(h:Vk H d tr)(s:Zd H H'):Vk H' d tr:=by
 obtain⟨kvs,h1,h2⟩:=h;exact⟨kvs,s _ _ h1,h2.keep fun _ _ e=>s _ _ e⟩
theorem Zdk:∀(more kvs:List (Key×V))(k:Key),(valV (Yg kvs more) k).isSome=((valV kvs k).isSome||(valV more k).isSome)
 | [],kvs,k=>by
  show(valV kvs k).isSome=((valV kvs k).isSome||(valV ([]:List (Key×V)) k).isSome);have:valV ([]:List (Key×V)) k=none:=rfl;rw[this,Option.isSome_none,Bool.or_false]
 |(j,v)::r,kvs,k=>by
  show(valV (Yg (YR kvs j v) r) k).isSome=_;rw[Zdk r (YR kvs j v) k,Zjn]
  by_cases e:j=k
  ·subst e;rw[if_pos rfl,Yy rfl];simp
  ·rw[if_neg (fun z=>e z.symm),Yx e]
theorem Paired.get'{α β:Type}{P:α→β→Prop}:∀{xs:List α}{ys:List β}{i:Nat}{x:α},Paired P xs ys→xs[i]? =some x→∃y,ys[i]? =some y∧P x y
 |_,_,_,_,.nil,e=>by simp at e
 |_,_,0,_,.cons h _,e=>by simp at e;subst e;exact⟨_,rfl,h⟩
 |_,_,i+1,x,.cons _ r,e=>by
  obtain⟨y,h1,h2⟩:=Paired.get' (i:=i) (x:=x) r (by simpa using e);exact⟨y,by simpa using h1,h2⟩
noncomputable def Y4 (H:Hp):List Addr→List (Int×Fo.ZF)→Prop:=Paired fun d x=>Vk H d x.2
theorem Y4.same{H H':Hp}{ds:List Addr}{F:List (Int×Fo.ZF)}(h:Y4 H ds F)(s:Zd H H'):Y4 H' ds F:=Paired.mapP h fun _ _ z=>z.same s
theorem Y4.snoc{H:Hp}:∀{ds:List Addr}{F:List (Int×Fo.ZF)}{d:Addr}{x:Int×Fo.ZF},Y4 H ds F→Vk H d x.2→Y4 H (ds++ [d]) (F++ [x])
 |_,_,_,_,.nil,h=> .cons h .nil
 |_,_,_,_,.cons y r,h=> .cons y (Y4.snoc r h)
theorem Y4.keep{H H':Hp}(t:∀b xs,H b=some (.tup xs)→H' b=some (.tup xs)):∀{ds:List Addr}{F:List (Int×Fo.ZF)},Y4 H ds F→(∀d∈ds,∀kvs,H d=some (.dK kvs)→H' d=some (.dK kvs))→Y4 H' ds F
 |_,_,.nil,_=> .nil
 |_,_,.cons ⟨kvs,h1,h2⟩ r,k=> .cons ⟨kvs,k _ (by simp) _ h1,h2.keep t⟩ (Y4.keep t r fun d hd=>k d (List.mem_cons_of_mem _ hd))
theorem Y4.length{H:Hp}{ds:List Addr}{F:List (Int×Fo.ZF)}(h:Y4 H ds F):ds.length=F.length:=Paired.length h
noncomputable def ZeJ:List (List Int)→List (Int×Fo.ZF)→Prop:=Paired fun xs x=>xs.Perm (Fo.keys x.2)∧xs.Pairwise (· ≤·)
structure Zi6(H:Hp)(f:Addr)(ds:List Addr)(F:List (Int×Fo.ZF)):Prop where
 at_:H f=some (.lst (ds.map V.ref))
 trees:Y4 H ds F
theorem ZjM{n a:Nat}(h:a<2 ^ n):Builtin.Int.intBits (a:Int)≤n:=by
 unfold Builtin.Int.intBits
 split
 ·exact Nat.zero_le _
 ·rename_i hz;have h0:(a:Int).natAbs≠0:=by
   intro e;apply hz;have:(a:Int)=0:=by omega
   rw[this]
   rfl
  have e:(a:Int).natAbs=a:=Int.natAbs_natCast a;have:=(Nat.log2_lt h0).mpr (by rw[e];exact h);omega
theorem ZdS{n m a b:Nat}(ha:a<2 ^ n)(hb:b<2 ^ m)(h:n+m≤10000000):IntMulOk (a:Int) (b:Int):=by
 have b1:=ZjM ha;have b2:=ZjM hb;have k:Builtin.Int.intTooBig ((Builtin.Int.intBits (a:Int):Int)+(Builtin.Int.intBits (b:Int):Int))=false:=by
  unfold Builtin.Int.intTooBig;rw[PySem.bitsLine_eq];exact decide_eq_false (by omega)
 unfold IntMulOk;rw[k];simp
theorem ZmN{a:Nat}(h:a<2 ^ 8000):(a:Int).natAbs.log2<9000:=by
 rw[Int.natAbs_natCast]
 by_cases h0:a=0
 ·rw[h0];decide+kernel
 ·have:=(Nat.log2_lt h0).mpr h;omega
theorem Zjq{a b:Nat}(hb:0<b)(h:b<2 ^ 8000):0<(b:Int)∧(b:Int).natAbs.log2<9000:=⟨by omega,ZmN h⟩
theorem VN{a b n m:Nat}(ha:a<2 ^ n)(hb:b<2 ^ m):a*b<2 ^ (n+m):=by
 rw[Nat.pow_add];exact Nat.mul_lt_mul'' ha hb
def Bal(B:B5)(al:Bool)(x y:Nat×Nat):Prop:=if al=true then x.1*y.2*B.take.toNat=y.1*x.2*B.give.toNat else x.1*y.2*B.give.toNat=y.1*x.2*B.take.toNat
structure Wf(ls:List B5)(tr:Fo.ZF)(zs:List (Int×(Nat×Nat)))(d:Nat):Prop where
 keys:zs.map (·.1)=(Fo.keys tr).take d
 pos:∀x∈zs,0<x.2.1∧0<x.2.2∧Nat.gcd x.2.1 x.2.2=1
 size:∀(i:Nat) x,zs[i]? =some x→x.2.1<2 ^ (110*i+1)∧x.2.2<2 ^ (110*i+1)
 first:∀(i:Nat)(w:Int),i<d→tr[i]? =some (w,none)→zs[i]? =some (w,(1,1))
 step:∀(i:Nat)(w p b:Int)(al:Bool),i<d→tr[i]? =some (w,some (p,b,al))→∃(j:Nat)(x y:Nat×Nat),j<i∧zs[i]? =some (w,x)∧zs[j]? =some (p,y)∧Bal (ls.getD b.toNat dB) al x y
theorem Zjb{ls:List B5}{tr:Fo.ZF}:Wf ls tr [] 0:=⟨rfl,by simp,by simp,fun i w h=>absurd h (Nat.not_lt_zero _),fun i w p b al h=>absurd h (Nat.not_lt_zero _)⟩
theorem Wf.len{ls:List B5}{tr:Fo.ZF}{zs:List (Int×(Nat×Nat))}{d:Nat}(h:Wf ls tr zs d)(hd:d≤tr.length):zs.length=d:=by
 have:=congrArg List.length h.keys;rw[List.length_map,List.length_take] at this;simp[Fo.keys] at this;omega
theorem Zjz{α:Type}{zs:List α}{x y:α}{i:Nat}(h:(zs++ [x])[i]? =some y):zs[i]? =some y∨(i=zs.length∧y=x):=by
 rcases Nat.lt_or_ge i zs.length with c|c
 ·rw[List.getElem?_append_left c] at h;exact .inl h
 ·rw[List.getElem?_append_right c] at h;have:i-zs.length=0:=by
   rcases Nat.eq_zero_or_pos (i-zs.length) with z|z
   ·exact z
   ·rw[List.getElem?_eq_none (by simp;omega)] at h;cases h
  rw[this] at h;simp at h;exact .inr ⟨by omega,h.symm⟩
theorem Za8{α:Type}{zs:List α}{x y:α}{i:Nat}(h:zs[i]? =some y):(zs++ [x])[i]? =some y:=by
 rw[List.getElem?_append_left (List.getElem?_eq_some_iff.mp h).1];exact h
theorem Zc7{α:Type}{zs:List α}{x:α}:(zs++ [x])[zs.length]? =some x:=by rw[List.getElem?_append_right (Nat.le_refl _),Nat.sub_self];rfl
theorem Wf.more{ls:List B5}{tr:Fo.ZF}{zs:List (Int×(Nat×Nat))}{d:Nat}(h:Wf ls tr zs d)(hd:d<tr.length){w:Int}{st:Option Fo.Trip}(e:tr[d]? =some (w,st)){x:Nat×Nat}(hp:0<x.1∧0<x.2∧Nat.gcd x.1 x.2=1)(hs:x.1<2 ^ (110*d+1)∧x.2<2 ^ (110*d+1))
  (hn:st=none→x=(1,1)) (hst:∀p b al,st=some (p,b,al)→∃(j:Nat)(y:Nat×Nat),zs[j]? =some (p,y)∧Bal (ls.getD b.toNat dB) al x y):Wf ls tr (zs++ [(w,x)]) (d+1):=by
 have hl:=h.len (Nat.le_of_lt hd);have hk:(Fo.keys tr)[d]? =some w:=by unfold Fo.keys;rw[List.getElem?_map,e];rfl
 refine⟨?_,fun y hy=>?_,fun i y hy=>?_,fun i w' hi e'=>?_,fun i w' p b al hi e'=>?_⟩
 ·rw[List.map_append,h.keys,List.take_succ,hk];rfl
 ·rcases List.mem_append.mp hy with z|z
  ·exact h.pos y z
  ·rw[List.mem_singleton.mp z];exact hp
 ·rcases Zjz hy with z|⟨z1,z2⟩
  ·exact h.size i y z
  ·rw[z2,z1,hl];exact hs
 ·rcases Nat.lt_succ_iff_lt_or_eq.mp hi with z|z
  ·exact Za8 (h.first i w' z e')
  ·subst z;rw[e] at e';cases e';rw[hn rfl,←hl];exact Zc7
 ·rcases Nat.lt_succ_iff_lt_or_eq.mp hi with z|z
  ·obtain⟨j,x',y',h1,h2,h3,h4⟩:=h.step i w' p b al z e';exact⟨j,x',y',h1,Za8 h2,Za8 h3,h4⟩
  ·subst z;rw[e] at e';cases e';obtain⟨j,y,h1,h2⟩:=hst p b al rfl;have hj:=(List.getElem?_eq_some_iff.mp h1).1;refine⟨j,x,y,by omega,?_,Za8 h1,h2⟩;rw[←hl];exact Zc7
noncomputable def ShE (H:Hp):List (Key×V)→List (Int×(Nat×Nat))→Prop:=Paired fun kv x=>kv.1=Sum.inl x.1∧∃t,kv.2= .ref t∧H t=some (.tup [.int (x.2.1:Nat),.int (x.2.2:Nat)])
theorem ShE.keep{H H':Hp}(t:∀b xs,H b=some (.tup xs)→H' b=some (.tup xs)){kvs:List (Key×V)}{zs:List (Int×(Nat×Nat))}(h:ShE H kvs zs):ShE H' kvs zs:=Paired.mapP h fun _ _ ⟨a,c,e,z⟩=>⟨a,c,e,t _ _ z⟩
theorem ShE.snoc{H:Hp}:∀{kvs:List (Key×V)}{zs:List (Int×(Nat×Nat))}{w:Int}{t:Addr}{x:Nat×Nat},ShE H kvs zs→H t=some (.tup [.int (x.1:Nat),.int (x.2:Nat)])→ShE H (kvs++ [(Sum.inl w,.ref t)]) (zs++ [(w,x)])
 |_,_,_,_,_,.nil,h=> .cons ⟨rfl,_,rfl,h⟩ .nil
 |_,_,_,_,_,.cons y r,h=> .cons y (ShE.snoc r h)
theorem ShE.length{H:Hp}{kvs:List (Key×V)}{zs:List (Int×(Nat×Nat))}(h:ShE H kvs zs):kvs.length=zs.length:=Paired.length h
theorem ShE.get{H:Hp}:∀{kvs:List (Key×V)}{zs:List (Int×(Nat×Nat))}{p:Int},ShE H kvs zs→p∈zs.map (·.1)→∃(y:Nat×Nat)(t:Addr),(p,y)∈zs∧valV kvs (Sum.inl p)=some (.ref t)∧H t=some (.tup [.int (y.1:Nat),.int (y.2:Nat)])
 |_,_,_,.nil,h=>by simp at h
 |_,_,p,.cons (a:=kv) (b:=z) ⟨a,t,e,ht⟩ r,h=>by
  obtain⟨k,v⟩:=kv;obtain⟨w,x⟩:=z;dsimp only at a e ht;subst a e
  by_cases c:w=p
  ·subst c;exact⟨x,t,by simp,Yy rfl,ht⟩
  ·have h':p∈_:=(List.mem_cons.mp h).resolve_left (fun y=>c y.symm);obtain⟨y,t',h1,h2,h3⟩:=ShE.get r h';exact⟨y,t',List.mem_cons_of_mem _ h1,by rw[Yx (fun y=>c (Sum.inl.inj y))];exact h2,h3⟩
theorem ShE.none{H:Hp}{kvs:List (Key×V)}{zs:List (Int×(Nat×Nat))}{p:Int}(h:ShE H kvs zs)(hp:p∉zs.map (·.1)):valV kvs (Sum.inl p)=none:=by
 cases e:valV kvs (Sum.inl p) with
 |none=>rfl
 |some v=>
  exfalso;have:(valV kvs (Sum.inl p)).isSome=true:=by rw[e];rfl
  rw[←W4,List.any_eq_true] at this;obtain⟨kv,hm,e2⟩:=this;obtain⟨i,hi,rfl⟩:=List.getElem_of_mem hm;obtain⟨z,hz,a,_⟩:=Paired.get' h (List.getElem?_eq_getElem hi);have e3:kvs[i].1=Sum.inl p:=of_decide_eq_true e2;rw[a] at e3;have:z.1=p:=Sum.inl.inj e3;exact hp (List.mem_map.mpr ⟨z,List.mem_of_getElem? hz,this⟩)
theorem Zhm{y u:Nat×Nat}{x:Nat×Nat}{gv tk G n:Nat}(y0:0<y.1)(y1:0<y.2)(g0:0<gv)(t0:0<tk)(hu:u.1=gv / G)(hv:u.2=tk / G)(hG:G=Nat.gcd gv tk)(hx:x.1=y.1*u.1 / Nat.gcd (y.1*u.1) (y.2*u.2))(hx2:x.2=y.2*u.2 / Nat.gcd (y.1*u.1) (y.2*u.2)):
  (0<x.1∧0<x.2∧Nat.gcd x.1 x.2=1)∧x.1*y.2*tk=y.1*x.2*gv∧x.1≤y.1*gv∧x.2≤y.2*tk:=by
 have Gp:0<G:=by rw[hG];exact Nat.gcd_pos_of_pos_left _ g0
 have d1:G ∣ gv:=by rw[hG];exact Nat.gcd_dvd_left _ _
 have d2:G ∣ tk:=by rw[hG];exact Nat.gcd_dvd_right _ _
 have e1:gv=u.1*G:=by rw[hu,Nat.div_mul_cancel d1]
 have e2:tk=u.2*G:=by rw[hv,Nat.div_mul_cancel d2]
 have u0:0<u.1:=by rcases Nat.eq_zero_or_pos u.1 with z|z;rw[z,Nat.zero_mul] at e1;omega;exact z
 have v0:0<u.2:=by rcases Nat.eq_zero_or_pos u.2 with z|z;rw[z,Nat.zero_mul] at e2;omega;exact z
 have A0:0<y.1*u.1:=Nat.mul_pos y0 u0;have B0:0<y.2*u.2:=Nat.mul_pos y1 v0;have gp:0<Nat.gcd (y.1*u.1) (y.2*u.2):=Nat.gcd_pos_of_pos_left _ A0;have c1:x.1*Nat.gcd (y.1*u.1) (y.2*u.2)=y.1*u.1:=by rw[hx,Nat.div_mul_cancel (Nat.gcd_dvd_left _ _)]
 have c2:x.2*Nat.gcd (y.1*u.1) (y.2*u.2)=y.2*u.2:=by rw[hx2,Nat.div_mul_cancel (Nat.gcd_dvd_right _ _)]
 refine⟨⟨?_,?_,?_⟩,?_,?_,?_⟩
 ·rw[hx];exact Nat.div_pos (Nat.le_of_dvd A0 (Nat.gcd_dvd_left _ _)) gp
 ·rw[hx2];exact Nat.div_pos (Nat.le_of_dvd B0 (Nat.gcd_dvd_right _ _)) gp
 ·rw[hx,hx2];exact Nat.gcd_div_gcd_div_gcd_of_pos_left A0
 ·generalize Nat.gcd (y.1*u.1) (y.2*u.2)=g at*;have k:x.1*(y.2*u.2)=(y.1*u.1)*x.2:=by rw[←c2,←c1,Nat.mul_comm x.2 g,Nat.mul_assoc]
  calc x.1*y.2*tk=x.1*(y.2*u.2)*G:=by rw[e2];simp only[Nat.mul_assoc]
   _=(y.1*u.1)*x.2*G:=by rw[k]
   _=y.1*x.2*gv:=by rw[e1,Nat.mul_right_comm y.1 u.1 x.2,Nat.mul_assoc (y.1*x.2)]
 ·have h1:x.1≤y.1*u.1:=by rw[hx];exact Nat.div_le_self _ _
  have h2:u.1≤gv:=by rw[hu];exact Nat.div_le_self _ _
  exact Nat.le_trans h1 (Nat.mul_le_mul_left _ h2)
 ·have h1:x.2≤y.2*u.2:=by rw[hx2];exact Nat.div_le_self _ _
  have h2:u.2≤tk:=by rw[hv];exact Nat.div_le_self _ _
  exact Nat.le_trans h1 (Nat.mul_le_mul_left _ h2)
theorem ZkL{H:Hp}{kvs:List (Key×V)}{tr:Fo.ZF}{i:Nat}{kv:Key×V}(h:Ent H kvs tr)(e:kvs[i]? =some kv):∃w st,tr[i]? =some (w,st)∧kv.1=Sum.inl w∧Uo H kv.2 st:=by
 obtain⟨⟨w,st⟩,h1,h2,h3⟩:=Paired.get' h e;exact⟨w,st,h1,h2,h3⟩
theorem ZdU{H:Hp}{a:Addr}{u:HO}(h:L2.Rd H a u):H a≠none:=by
 rcases h with h|⟨o,h⟩<;>(rw[h];simp)
theorem U9{H:Hp}{d:Addr}{kvs:List (Key×V)}{o:Obj}(h:L2.Rd H d (.dK kvs)):ZW [d] H (upd H d (.frz o (.dK kvs))):=by
 refine⟨fun b x e n=>?_,fun b xs e=>?_⟩
 ·rw[Zh (fun z=>n (by simp[z]))];exact e
 ·have:b≠d:=fun z=>by
   rw[z] at e;rcases h with h|⟨o',h⟩<;>(rw[h] at e;cases e)
  rw[Zh this];exact e
def YZ(ls:List B5):Prop:=∀i<ls.length,∃gv tk,0<gv∧0<tk∧gv<2 ^ 110∧tk<2 ^ 110∧(ls.getD i dB).give=((gv:Nat):Int)∧(ls.getD i dB).take=((tk:Nat):Int)
theorem ZiC{ls:List B5}{n:Nat}{F:List (Int×Fo.ZF)}(hb:ZE ls n)(hw:Fo.Wn (ZT ls) n F n){i j:Nat}{x y:Int×Fo.ZF}(hi:F[i]? =some x)(hj:F[j]? =some y)(ne:i≠j):∀w∈Fo.keys x.2,w∉Fo.keys y.2:=by
 intro w h1 h2;obtain⟨g1,c1,_,_⟩:=hw.tree x (List.mem_of_getElem? hi);obtain⟨g2,c2,_,_⟩:=hw.tree y (List.mem_of_getElem? hj);have a1:=(g1.keys_iff c1 w).mp h1;have a2:=(g2.keys_iff c2 w).mp h2;have e1:=hw.least x (List.mem_of_getElem? hi) y.1 ((g1.keys_iff c1 _).mpr (a1.trans (a2.symm (Zal ls))));have e2:=hw.least y (List.mem_of_getElem? hj) x.1 ((g2.keys_iff c2 _).mpr (a2.trans (a1.symm (Zal ls))));obtain⟨hi',ei⟩:=List.getElem?_eq_some_iff.mp hi;obtain⟨hj',ej⟩:=List.getElem?_eq_some_iff.mp hj;rcases Nat.lt_or_gt_of_ne ne with z|z
 ·have:=List.pairwise_iff_getElem.mp hw.rise i j hi' hj' z;rw[ei,ej] at this;omega
 ·have:=List.pairwise_iff_getElem.mp hw.rise j i hj' hi' z;rw[ei,ej] at this;omega
theorem UC{α β:Type}{P P':α→β→Prop}:∀{xs:List α}{ys:List β},Paired P xs ys→(∀x y,x∈xs→P x y→P' x y)→Paired P' xs ys
 |_,_,.nil,_=> .nil
 |_,_,.cons h r,f=> .cons (f _ _ (by simp) h) (UC r fun x y hx=>f x y (List.mem_cons_of_mem _ hx))
noncomputable def YQ (H:Hp):List Addr→List (Int×Fo.ZF)→Prop:=Paired fun d x=>∃kvs,L2.Rd H d (.dK kvs)∧Ent H kvs x.2
theorem Y4.r{H:Hp}{ds:List Addr}{F:List (Int×Fo.ZF)}(h:Y4 H ds F):YQ H ds F:=Paired.mapP h fun _ _ ⟨kvs,a,b⟩=>⟨kvs,.inl a,b⟩
theorem YQ.same{H H':Hp}{ds:List Addr}{F:List (Int×Fo.ZF)}(h:YQ H ds F)(s:Zd H H'):YQ H' ds F:=Paired.mapP h fun _ _ ⟨kvs,a,b⟩=>⟨kvs,a.imp (s _ _) (fun⟨o,z⟩=>⟨o,s _ _ z⟩),b.keep fun _ _ e=>s _ _ e⟩
theorem YQ.length{H:Hp}{ds:List Addr}{F:List (Int×Fo.ZF)}(h:YQ H ds F):ds.length=F.length:=Paired.length h
theorem ZkT{H:Hp}{d:Addr}{k1 k2:List (Key×V)}(h1:L2.Rd H d (.dK k1))(h2:L2.Rd H d (.dK k2)):k1=k2:=by
 rcases h1 with a|⟨o1,a⟩<;>rcases h2 with b|⟨o2,b⟩<;>(rw[a] at b;cases b)<;>rfl
theorem YQ.frz{H:Hp}{ds:List Addr}{F:List (Int×Fo.ZF)}(h:YQ H ds F){d:Addr}{kvs:List (Key×V)}{o:Obj}(hd:L2.Rd H d (.dK kvs)):YQ (upd H d (.frz o (.dK kvs))) ds F:=Paired.mapP h fun d' _ ⟨k,a,b⟩=>by
 refine⟨k,?_,b.keep (U9 hd).tups⟩
 by_cases z:d'=d
 ·subst z;rw[ZkT a hd];exact .inr ⟨o,Ze⟩
 ·rcases a with a|⟨o',a⟩
  ·exact .inl (by rw[Zh z];exact a)
  ·exact .inr ⟨o',by rw[Zh z];exact a⟩
noncomputable def lcmL (zs:List (Int×(Nat×Nat))):Nat:=zs.foldl (fun c x=>Nat.lcm c x.2.2) 1
theorem ZiE(zs:List (Int×(Nat×Nat)))(x:Int×(Nat×Nat)):lcmL (zs++ [x])=Nat.lcm (lcmL zs) x.2.2:=by unfold lcmL;rw[List.foldl_append];rfl
theorem Zje{a b:Nat}:a / Nat.gcd a b*b=Nat.lcm a b:=by
 unfold Nat.lcm;rw[Nat.div_mul_right_comm (Nat.gcd_dvd_left a b)]
theorem ZhU{a b n m:Nat}(ha:a<2 ^ n)(hb:b<2 ^ m):Nat.lcm a b<2 ^ (n+m):=by
 unfold Nat.lcm;exact Nat.lt_of_le_of_lt (Nat.div_le_self _ _) (VN ha hb)
def Za2(ls:List B5)(x:Int×Fo.ZF)(rs:List Int):Prop:=∃zs,Wf ls x.2 zs x.2.length∧∀y∈zs,rs[y.1.toNat]? =some ((lcmL zs / y.2.2*y.2.1:Nat):Int)
noncomputable def Wy (cs:List Int) (b:B5):Int:=cs.getD b.giver.toNat 0*b.give-cs.getD b.taker.toNat 0*b.take
structure Zmg(ls:List B5)(n:Nat)(rs:List Int):Prop where
 len:rs.length=n
 pos:∀c∈rs,∃k:Nat,c=(k:Int)∧0<k∧k<2 ^ 420000
theorem Zd0:∀(zs:List (Int×(Nat×Nat)))(c:Nat),c ∣ zs.foldl (fun c x=>Nat.lcm c x.2.2) c∧∀y∈zs,y.2.2 ∣ zs.foldl (fun c x=>Nat.lcm c x.2.2) c
 | [],c=>⟨Nat.dvd_refl _,by simp⟩
 |z::zs,c=>by
  obtain⟨h1,h2⟩:=Zd0 zs (Nat.lcm c z.2.2);refine⟨Nat.dvd_trans (Nat.dvd_lcm_left _ _) h1,fun y hy=>?_⟩;rcases List.mem_cons.mp hy with rfl|hy
  ·exact Nat.dvd_trans (Nat.dvd_lcm_right _ _) h1
  ·exact h2 y hy
theorem Zeh:∀(zs:List (Int×(Nat×Nat)))(c m:Nat),c ∣ m→(∀y∈zs,y.2.2 ∣ m)→zs.foldl (fun c x=>Nat.lcm c x.2.2) c ∣ m
 | [],_,_,h,_=>h
 |z::zs,c,m,h,k=>Zeh zs _ m (Nat.lcm_dvd h (k z (by simp))) fun y hy=>k y (List.mem_cons_of_mem _ hy)
theorem Zb8{zs:List (Int×(Nat×Nat))}{y:Int×(Nat×Nat)}(h:y∈zs):y.2.2 ∣ lcmL zs:=(Zd0 zs 1).2 y h
theorem ZiT{zs:List (Int×(Nat×Nat))}{m:Nat}(h:∀y∈zs,y.2.2 ∣ m):lcmL zs ∣ m:=Zeh zs 1 m (Nat.one_dvd m) h
theorem ZeY{zs:List (Int×(Nat×Nat))}(h:∀y∈zs,0<y.2.2):0<lcmL zs:=by
 unfold lcmL;have key:∀(zs:List (Int×(Nat×Nat)))(c:Nat),0<c→(∀y∈zs,0<y.2.2)→0<zs.foldl (fun c x=>Nat.lcm c x.2.2) c:=by
  intro zs
  induction zs with
  |nil=>intro c hc _;exact hc
  |cons z zs ih=>intro c hc k;exact ih _ (Nat.lcm_pos hc (k z (by simp))) fun y hy=>k y (List.mem_cons_of_mem _ hy)
 exact key zs 1 (by decide) h
theorem Zgk{ls:List B5}{tr:Fo.ZF}{first:Int}{ways:Int→List Fo.Trip}{zs:List (Int×(Nat×Nat))}(hg:Fo.Z6 ways first tr)(h:Wf ls tr zs tr.length){k:Nat}(hk:∀y∈zs,k ∣ lcmL zs / y.2.2*y.2.1):k=1:=by
 have hl0:0<tr.length:=(List.getElem?_eq_some_iff.mp hg.head).1;have h0:=List.mem_of_getElem? (h.first 0 first hl0 hg.head);have kC:k ∣ lcmL zs:=by
  have:=hk _ h0;simpa using this
 have Cp:0<lcmL zs:=ZeY fun y hy=>(h.pos y hy).2.1;obtain⟨c,hc⟩:=kC;have k0:0<k:=by
  rcases Nat.eq_zero_or_pos k with z|z
  ·rw[z,Nat.zero_mul] at hc;omega
  ·exact z
 have all:∀y∈zs,y.2.2 ∣ c:=by
  intro y hy;obtain⟨p1,p2,p3⟩:=h.pos y hy;obtain⟨m,hm⟩:=hk y hy;have e1:lcmL zs / y.2.2*y.2.2=lcmL zs:=Nat.div_mul_cancel (Zb8 hy);have e2:k*(c*y.2.1)=k*(y.2.2*m):=by
   calc k*(c*y.2.1)=lcmL zs*y.2.1:=by rw[hc,Nat.mul_assoc]
    _=(lcmL zs / y.2.2*y.2.1)*y.2.2:=by
     conv=>lhs;rw[←e1]
     rw[Nat.mul_right_comm]
    _=k*m*y.2.2:=by rw[hm]
    _=k*(y.2.2*m):=by rw[Nat.mul_assoc,Nat.mul_comm m]
  have e3:=Nat.eq_of_mul_eq_mul_left k0 e2;have d:y.2.2 ∣ c*y.2.1:=⟨m,e3⟩;exact Nat.Coprime.dvd_of_dvd_mul_right (show Nat.gcd y.2.2 y.2.1=1 by rw[Nat.gcd_comm];exact p3) d
 have hd:=ZiT all;rw[hc] at hd;have c0:0<c:=by
  rcases Nat.eq_zero_or_pos c with z|z
  ·rw[z,Nat.mul_zero] at hc;omega
  ·exact z
 have:=Nat.le_of_dvd c0 hd;rcases Nat.lt_or_ge k 2 with z|z
 ·omega
 ·have:2*c≤k*c:=Nat.mul_le_mul_right c z;omega
structure ZgE(ls:List B5)(z:Int→Nat):Prop where
 pos:∀w,0<z w
 bal:∀i<ls.length,(ls.getD i dB).give.toNat*z (ls.getD i dB).giver=(ls.getD i dB).take.toNat*z (ls.getD i dB).taker
theorem ZkD{zs:List (Int×(Nat×Nat))}(h:∀y∈zs,y.2.2<2 ^ 6700):lcmL zs<2 ^ (6700*zs.length+1):=by
 have key:∀(zs:List (Int×(Nat×Nat)))(c n:Nat),c<2 ^ n→(∀y∈zs,y.2.2<2 ^ 6700)→zs.foldl (fun c x=>Nat.lcm c x.2.2) c<2 ^ (n+6700*zs.length):=by
  intro zs
  induction zs with
  |nil=>intro c n hc _;simpa using hc
  |cons z zs ih=>
   intro c n hc k;have:=ih (Nat.lcm c z.2.2) (n+6700) (ZhU hc (k z (by simp))) fun y hy=>k y (List.mem_cons_of_mem _ hy);have e:n+6700+6700*zs.length=n+6700*(z::zs).length:=by simp[Nat.mul_succ];omega
   rw[e] at this;exact this
 have:=key zs 1 1 (by decide) h;rw[Nat.add_comm];exact this
section
variable {ls:List B5}{n:Nat}{F:List (Int×Fo.ZF)}{rs:List Int}
theorem ZcW{x:Int×Fo.ZF}{zs:List (Int×(Nat×Nat))}(h:Wf ls x.2 zs x.2.length){w:Int}(hw:w∈Fo.keys x.2):∃y∈zs,y.1=w:=by
 have h1:=h.keys;have h2:(Fo.keys x.2).take x.2.length=Fo.keys x.2:=List.take_of_length_le (by simp[Fo.keys]);rw[h2] at h1;rw[←h1] at hw;obtain⟨y,hy,e⟩:=List.mem_map.mp hw;exact⟨y,hy,e⟩
theorem Ze5(hbt:ZE ls n)(hn:n≤60)(hwd:Fo.Wn (ZT ls) n F n)(hrl:rs.length=n)(hset:∀x∈F,Za2 ls x rs):Zmg ls n rs:=by
 refine⟨hrl,fun c hc=>?_⟩;obtain⟨i,hi,rfl⟩:=List.getElem_of_mem hc;obtain⟨x,hx,hk⟩:=hwd.all (i:Int) (by omega) (by omega);obtain⟨zs,hg,hz⟩:=hset x hx;obtain⟨y,hy,ey⟩:=ZcW hg hk;have h1:=hz y hy;rw[ey,Int.toNat_natCast,List.getElem?_eq_getElem hi] at h1;obtain⟨g,gg,g0,g1⟩:=hwd.tree x hx;have htl:x.2.length≤60:=by
  have:=Fo.WT (n:=n) g.nodup (g.rg ⟨g0,g1⟩ (W5 hbt));simp[Fo.keys] at this;omega
 have hzl:=hg.len (Nat.le_refl _);have sz:∀y∈zs,y.2.1<2 ^ 6700∧y.2.2<2 ^ 6700:=fun y hy=>by
  obtain⟨j,hj⟩:=List.getElem?_of_mem hy;have hjl:=(List.getElem?_eq_some_iff.mp hj).1;obtain⟨a,b⟩:=hg.size j y hj;have e:(2:Nat) ^ (110*j+1)≤2 ^ 6700:=Nat.pow_le_pow_right (by decide) (by omega);exact⟨Nat.lt_of_lt_of_le a e,Nat.lt_of_lt_of_le b e⟩
 have hC:=ZkD fun y hy=>(sz y hy).2;obtain⟨p1,p2,_⟩:=hg.pos y hy;refine⟨_,Option.some.inj h1,Nat.mul_pos (Nat.div_pos (Nat.le_of_dvd (ZeY fun y hy=>(hg.pos y hy).2.1) (Zb8 hy)) p2) p1,?_⟩;refine Nat.lt_of_lt_of_le (VN (Nat.lt_of_le_of_lt (Nat.div_le_self _ _) hC) (sz y hy).1) (Nat.pow_le_pow_right (by decide) ?_);have:6700*zs.length≤6700*60:=Nat.mul_le_mul_left _ (by omega);omega
end
inductive Z9(tr:Fo.ZF):Int→List (Int×Bool)→Prop
 |root {w:Int} {i:Nat}:tr[i]? =some (w,none)→Z9 tr w []
 |step {w p b:Int} {al:Bool} {i:Nat} {ps:List (Int×Bool)}:tr[i]? =some (w,some (p,b,al))→Z9 tr p ps→Z9 tr w (ps++ [(b,al)])
theorem ZdC{H:Hp}:∀{kvs:List (Key×V)}{tr:Fo.ZF}{i:Nat}{w:Int}{s:Option Fo.Trip},Ent H kvs tr→(Fo.keys tr).Nodup→tr[i]? =some (w,s)→∃v,valV kvs (Sum.inl w)=some v∧Uo H v s
 |_,_,_,_,_,.nil,_,h=>by simp at h
 |kv::_,z::_,0,w,s,.cons ⟨a,e⟩ r,nd,h=>by
  obtain⟨k,v⟩:=kv;obtain rfl:z=(w,s):=by simpa using h
  dsimp only at a e;subst a;exact⟨v,Yy rfl,e⟩
 |kv::_,z::tr,i+1,w,s,.cons ⟨a,e⟩ r,nd,h=>by
  obtain⟨k,v⟩:=kv;obtain⟨w',x⟩:=z;dsimp only at a e;subst a;have h':tr[i]? =some (w,s):=by simpa using h
  have nd':(w'::Fo.keys tr).Nodup:=nd;have c:w'≠w:=fun y=>(List.nodup_cons.mp nd').1 (y▸Fo.WF h');obtain⟨v',h1,h2⟩:=ZdC r (List.nodup_cons.mp nd').2 h';exact⟨v',by rw[Yx (fun y=>c (Sum.inl.inj y))];exact h1,h2⟩
noncomputable def ZZ (H:Hp):List V→List (Int×Bool)→Prop:=Paired fun v x=>∃t,v= .ref t∧H t=some (.tup [.int x.1,.bl x.2])
theorem ZZ.keep{H H':Hp}(t:∀b xs,H b=some (.tup xs)→H' b=some (.tup xs)){vs:List V}{l:List (Int×Bool)}(h:ZZ H vs l):ZZ H' vs l:=Paired.mapP h fun _ _ ⟨a,e,z⟩=>⟨a,e,t _ _ z⟩
theorem ZZ.snoc{H:Hp}:∀{vs:List V}{l:List (Int×Bool)}{x:Int×Bool}{t:Addr},ZZ H vs l→H t=some (.tup [.int x.1,.bl x.2])→ZZ H (vs++ [.ref t]) (l++ [x])
 |_,_,_,_,.nil,h=> .cons ⟨_,rfl,h⟩ .nil
 |_,_,_,_,.cons y r,h=> .cons y (ZZ.snoc r h)
theorem ZZ.rev{H:Hp}:∀{vs:List V}{l:List (Int×Bool)},ZZ H vs l→ZZ H vs.reverse l.reverse
 |_,_,.nil=> .nil
 |_,_,.cons ⟨t,e,h⟩ r=>by
  subst e;rw[List.reverse_cons,List.reverse_cons];exact ZZ.snoc (ZZ.rev r) h
theorem ZZ.length{H:Hp}{vs:List V}{l:List (Int×Bool)}(h:ZZ H vs l):vs.length=l.length:=Paired.length h
theorem ZaK{H H':Hp}{d:Addr}{kvs:List (Key×V)}(h:L2.Rd H d (.dK kvs))(s:Zd H H'):L2.Rd H' d (.dK kvs):=h.imp (s _ _) (fun⟨o,z⟩=>⟨o,s _ _ z⟩)
noncomputable def W1 (bi:Int) (pg pt:List (Int×Bool)) (k:Nat):List (Int×Bool):=(bi,true)::((pt.drop k).reverse.map fun x=>(x.1,!x.2))++pg.drop k
theorem ZiP(a b:Int)(x y:Bool):PyData.eqv (.tuple [.int a,.bool x]) (.tuple [.int b,.bool y])=decide (a=b∧x=y):=by
 cases x<;>cases y<;>simp[PyData.eqv,PyData.eqvAll]<;>by_cases h:a=b<;>simp[h]
theorem Zfd{K:PySem.W.Frag}{H:Hp}{t:Addr}{a:Int}{x:Bool}(h:H t=some (.tup [.int a,.bl x])):Y0 K H (.ref t) (.tuple [.int a,.bool x]):= .tup (.of h) (.cons (.int _) (.cons (.bl _) .nil))
theorem Ze2(a:Int)(x:Bool):(PyData.tuple [.int a,.bool x]).canLay0=true:=by simp[PyData.canLay0,PyData.canLayAll0]
theorem ZhK(a:Int)(x:Bool):(PyData.tuple [.int a,.bool x]).depth≤60:=by simp[PyData.depth,PyData.depthAll]
theorem Zcf{H:Hp}:∀{vs:List V}{ps:List (Int×Bool)}{i:Nat}{x:Int×Bool},ZZ H vs ps→ps[i]? =some x→∃t,vs[i]? =some (.ref t)∧H t=some (.tup [.int x.1,.bl x.2])
 |_,_,_,_,.nil,e=>by simp at e
 |_,_,0,_,.cons ⟨t,e1,h⟩ _,e=>by simp at e;subst e;exact⟨t,by simp[e1],h⟩
 |_,_,i+1,x,.cons _ r,e=>by
  obtain⟨t,h1,h2⟩:=Zcf (i:=i) (x:=x) r (by simpa using e);exact⟨t,by simpa using h1,h2⟩
def Zab(W:Int→List Fo.Trip)(gv tk:Int→Int):Prop:=∀(p o b:Int)(al:Bool),(o,b,al)∈W p→(al=true∧p=gv b∧o=tk b)∨(al=false∧p=tk b∧o=gv b)
noncomputable def Zb0 (gv tk:Int→Int) (x:Int×Bool):Int:=if x.2=true then gv x.1 else tk x.1
noncomputable def Zg4 (gv tk:Int→Int) (x:Int×Bool):Int:=if x.2=true then tk x.1 else gv x.1
noncomputable def YT (gv tk:Int→Int):Int→List (Int×Bool)→Int→Prop
 |a,[],c=>a=c
 |a,x::ps,c=>Zb0 gv tk x=a∧YT gv tk (Zg4 gv tk x) ps c
theorem YT.app{gv tk:Int→Int}:∀{ps:List (Int×Bool)}{a m c:Int}{qs:List (Int×Bool)},YT gv tk a ps m→YT gv tk m qs c→YT gv tk a (ps++qs) c
 | [],_,_,_,_,h,k=>by
  have e:_=_:=h;rw[e];exact k
 |_::_,_,_,_,_,h,k=>⟨h.1,YT.app h.2 k⟩
theorem YT.split{gv tk:Int→Int}:∀{ps:List (Int×Bool)}{a c:Int}{qs:List (Int×Bool)},YT gv tk a (ps++qs) c→∃m,YT gv tk a ps m∧YT gv tk m qs c
 | [],a,_,_,h=>⟨a,rfl,h⟩
 |x::ps,_,_,_,h=>by
  obtain⟨m,h1,h2⟩:=YT.split (ps:=ps) h.2;exact⟨m,⟨h.1,h1⟩,h2⟩
theorem YT.det{gv tk:Int→Int}:∀{ps:List (Int×Bool)}{a c c':Int},YT gv tk a ps c→YT gv tk a ps c'→c=c'
 | [],_,_,_,h,k=>by
  have e:_=_:=h;have e':_=_:=k;exact e.symm.trans e'
 |_::ps,_,_,_,h,k=>YT.det (ps:=ps) h.2 k.2
theorem YT.rev{gv tk:Int→Int}:∀{ps:List (Int×Bool)}{a c:Int},YT gv tk a ps c→YT gv tk c (ps.reverse.map fun x=>(x.1,!x.2)) a
 | [],_,_,h=>by
  have e:_=_:=h;exact e.symm
 |(b,al)::ps,a,c,h=>by
  have ih:=YT.rev (ps:=ps) h.2;rw[List.reverse_cons,List.map_append];refine ih.app ?_;have h1:=h.1;refine⟨?_,?_⟩
  ·cases al<;>simp[Zb0,Zg4]
  ·show Zg4 gv tk (b,!al)=a;rw[←h1];cases al<;>simp[Zb0,Zg4]
section
variable {W:Int→List Fo.Trip}{first:Int}{tr:Fo.ZF}{gv tk:Int→Int}
theorem WM{i j:Nat}{w:Int}{s s':Option Fo.Trip}(nd:(Fo.keys tr).Nodup)(h1:tr[i]? =some (w,s))(h2:tr[j]? =some (w,s')):i=j:=by
 have e1:(Fo.keys tr)[i]? =some w:=by simp[Fo.keys,h1]
 have e2:(Fo.keys tr)[j]? =some w:=by simp[Fo.keys,h2]
 exact(List.getElem?_inj (List.getElem?_eq_some_iff.mp e1).1 nd).mp (e1.trans e2.symm)
theorem Zee(hg:Fo.Z6 W first tr)(hW:Zab W gv tk){i i':Nat}{w w' p p' b:Int}{al al':Bool}(h:tr[i]? =some (w,some (p,b,al)))(h':tr[i']? =some (w',some (p',b,al'))):i=i':=by
 obtain⟨m,j,s,hj,ej⟩:=hg.steps _ _ _ _ _ h;obtain⟨m',j',s',hj',ej'⟩:=hg.steps _ _ _ _ _ h';rcases hW _ _ _ _ m with⟨_,a2,a3⟩|⟨_,a2,a3⟩<;>rcases hW _ _ _ _ m' with⟨_,b2,b3⟩|⟨_,b2,b3⟩
 ·have e:w=w':=a3.trans b3.symm;subst e;exact WM hg.nodup h h'
 ·have e:w=p':=a3.trans b2.symm;have e':p=w':=a2.trans b3.symm;subst e e';have:=WM hg.nodup h ej';have:=WM hg.nodup h' ej;omega
 ·have e:w=p':=a3.trans b2.symm;have e':p=w':=a2.trans b3.symm;subst e e';have:=WM hg.nodup h ej';have:=WM hg.nodup h' ej;omega
 ·have e:w=w':=a3.trans b3.symm;subst e;exact WM hg.nodup h h'
theorem Z9.walk(hg:Fo.Z6 W first tr)(hW:Zab W gv tk){w:Int}{ps:List (Int×Bool)}(h:Z9 tr w ps):YT gv tk first ps w:=by
 induction h with
 |root e=>
  have:=hg.only _ _ e;subst this;rw[hg.head] at e;cases e
  rfl
 |step e _ ih=>
  refine ih.app ?_;obtain⟨m,_⟩:=hg.steps _ _ _ _ _ e;rcases hW _ _ _ _ m with⟨a1,a2,a3⟩|⟨a1,a2,a3⟩
  ·subst a1;exact⟨a2.symm,a3.symm⟩
  ·subst a1;exact⟨a2.symm,a3.symm⟩
theorem Z9.origin(hg:Fo.Z6 W first tr){w:Int}{ps:List (Int×Bool)}(h:Z9 tr w ps):∀{i:Nat}{s:Option Fo.Trip},tr[i]? =some (w,s)→∀x∈ps,∃(i':Nat)(w' p':Int),i'≤i∧tr[i']? =some (w',some (p',x.1,x.2)):=by
 induction h with
 |root e=>intro i s _ x hx;cases hx
 | @step w p b al i0 ps e h ih=>
  intro i s hi x hx;have ei:=WM hg.nodup e hi;subst ei;obtain⟨_,j,sj,hj,ej⟩:=hg.steps _ _ _ _ _ e;rcases List.mem_append.mp hx with z|z
  ·obtain⟨i',w',p',a,c⟩:=ih ej x z;exact⟨i',w',p',by omega,c⟩
  ·rw[List.mem_singleton.mp z];exact⟨i0,w,p,Nat.le_refl _,e⟩
theorem Z9.nodup(hg:Fo.Z6 W first tr)(hW:Zab W gv tk){w:Int}{ps:List (Int×Bool)}(h:Z9 tr w ps):(ps.map (·.1)).Nodup:=by
 induction h with
 |root e=>exact List.nodup_nil
 | @step w p b al i0 ps e h ih=>
  rw[List.map_append];refine List.nodup_append.mpr ⟨ih,by simp,fun x hx y hy e'=>?_⟩;obtain rfl:y=b:=by simpa using hy
  obtain⟨z,hz,ez⟩:=List.mem_map.mp hx;obtain⟨_,j,sj,hj,ej⟩:=hg.steps _ _ _ _ _ e;obtain⟨i',w',p',a,c⟩:=h.origin hg ej z hz;rw[ez,e'] at c;have:=Zee hg hW e c;omega
theorem Z9.uniq(hg:Fo.Z6 W first tr){w:Int}{ps:List (Int×Bool)}(h:Z9 tr w ps):∀{qs:List (Int×Bool)},Z9 tr w qs→ps=qs:=by
 induction h with
 |root e=>
  intro qs k;cases k with
  |root _=>rfl
  |step e' _=>
   have:=WM hg.nodup e e';subst this;rw[e] at e';cases e'
 |step e _ ih=>
  intro qs k;cases k with
  |root e'=>
   have:=WM hg.nodup e e';subst this;rw[e] at e';cases e'
  |step e' k'=>
   have:=WM hg.nodup e e';subst this;rw[e] at e';cases e';rw[ih k']
theorem Z9.pre{w:Int}{ps:List (Int×Bool)}(h:Z9 tr w ps):∀{m:Nat}{x:Int×Bool},ps[m]? =some x→∃(i':Nat)(w' p':Int),tr[i']? =some (w',some (p',x.1,x.2))∧Z9 tr w' (ps.take (m+1)):=by
 induction h with
 |root e=>intro m x hx;simp at hx
 | @step w p b al i0 ps e h ih=>
  intro m x hx;rcases Nat.lt_or_ge m ps.length with c|c
  ·rw[List.getElem?_append_left c] at hx;obtain⟨i',w',p',h1,h2⟩:=ih hx;refine⟨i',w',p',h1,?_⟩;rw[List.take_append_of_le_length (by omega)];exact h2
  ·have hl:=(List.getElem?_eq_some_iff.mp hx).1;rw[List.length_append] at hl;have em:m=ps.length:=by simp at hl;omega
   subst em;rw[List.getElem?_append_right (Nat.le_refl _),Nat.sub_self] at hx;obtain rfl:(b,al)=x:=by simpa using hx
   refine⟨i0,w,p,e,?_⟩;rw[List.take_of_length_le (by simp)];exact .step e h
theorem Zg6(hg:Fo.Z6 W first tr)(hW:Zab W gv tk){g t:Int}{pg pt:List (Int×Bool)}{k:Nat}(hp:Z9 tr g pg)(hq:Z9 tr t pt)(hm:k=pg.length∨k=pt.length∨pg[k]? ≠pt[k]?){x y:Int×Bool}(hx:x∈pt.drop k)(hy:y∈pg.drop k):x.1≠y.1:=by
 intro e;obtain⟨xb,xa⟩:=x;obtain⟨yb,ya⟩:=y;dsimp only at e;subst e;obtain⟨m,hm1⟩:=List.getElem?_of_mem hx;obtain⟨m',hm1'⟩:=List.getElem?_of_mem hy;rw[List.getElem?_drop] at hm1 hm1';have l1:=(List.getElem?_eq_some_iff.mp hm1).1;have l2:=(List.getElem?_eq_some_iff.mp hm1').1;obtain⟨i1,w1,p1,a1,c1⟩:=hq.pre hm1;obtain⟨i2,w2,p2,a2,c2⟩:=hp.pre hm1';have:=Zee hg hW a1 a2;subst this;rw[a1] at a2;cases a2;have et:=c1.uniq hg c2;have el:=congrArg List.length et;rw[List.length_take,List.length_take] at el;rcases hm with z|z|z
 ·omega
 ·omega
 ·apply z;have e1:(pg.take (k+m'+1))[k]? =pg[k]? :=by rw[List.getElem?_take,if_pos (by omega)]
  have e2:(pt.take (k+m+1))[k]? =pt[k]? :=by rw[List.getElem?_take,if_pos (by omega)]
  rw[←e1,←e2,et]
theorem Zg9(hg:Fo.Z6 W first tr)(hW:Zab W gv tk){g t bi:Int}{pg pt:List (Int×Bool)}{k:Nat}(hp:Z9 tr g pg)(hq:Z9 tr t pt)(hm:k=pg.length∨k=pt.length∨pg[k]? ≠pt[k]?)(hb:∀x∈pg,x.1≠bi)(hb':∀x∈pt,x.1≠bi):((W1 bi pg pt k).map (·.1)).Nodup:=by
 unfold W1;rw[List.cons_append,List.map_cons,List.map_append,List.map_map,List.nodup_cons];have n1:=(hq.nodup hg hW).sublist ((List.drop_sublist k pt).map (·.1));have n2:=(hp.nodup hg hW).sublist ((List.drop_sublist k pg).map (·.1));have e:((pt.drop k).reverse.map ((fun x:Int×Bool=>x.1)∘fun x=>(x.1,!x.2)))=((pt.drop k).map (·.1)).reverse:=by
  rw[List.map_reverse];rfl
 rw[e];refine⟨fun z=>?_,?_⟩
 ·rcases List.mem_append.mp z with z|z
  ·obtain⟨x,hx,ex⟩:=List.mem_map.mp (List.mem_reverse.mp z);exact hb' x (List.mem_of_mem_drop hx) ex
  ·obtain⟨x,hx,ex⟩:=List.mem_map.mp z;exact hb x (List.mem_of_mem_drop hx) ex
 ·refine List.nodup_append.mpr ⟨(List.reverse_perm _).nodup_iff.mpr n1,n2,fun a ha b hb2 e2=>?_⟩;obtain⟨x,hx,ex⟩:=List.mem_map.mp (List.mem_reverse.mp ha);obtain⟨y,hy,ey⟩:=List.mem_map.mp hb2;exact Zg6 hg hW hp hq hm hx hy (ex.trans (e2.trans ey.symm))
theorem Zid(hg:Fo.Z6 W first tr)(hW:Zab W gv tk){bi:Int}{pg pt:List (Int×Bool)}{k:Nat}(hp:Z9 tr (gv bi) pg)(hq:Z9 tr (tk bi) pt)(hk:pg.take k=pt.take k):YT gv tk (gv bi) (W1 bi pg pt k) (gv bi):=by
 have w1:=hp.walk hg hW;have w2:=hq.walk hg hW;rw[←List.take_append_drop k pg] at w1;rw[←List.take_append_drop k pt] at w2;obtain⟨m1,a1,a2⟩:=w1.split;obtain⟨m2,b1,b2⟩:=w2.split;rw[hk] at a1;have e:=a1.det b1;subst e;unfold W1;exact YT.app (ps:=(bi,true)::_) ⟨rfl,b2.rev⟩ a2
end
noncomputable def prN (gi ta:Int→Nat):List (Int×Bool)→Nat
 | []=>1
 |x::ps=>(if x.2=true then gi x.1 else ta x.1)*prN gi ta ps
theorem WN(gi ta:Int→Nat):∀ps qs,prN gi ta (ps++qs)=prN gi ta ps*prN gi ta qs
 | [],qs=>(Nat.one_mul _).symm
 |x::ps,qs=>by
  show _*prN gi ta (ps++qs)=_*prN gi ta ps*_;rw[WN gi ta ps qs,Nat.mul_assoc]
theorem ZdJ(gi ta:Int→Nat):∀ps,prN gi ta (ps.reverse.map fun x=>(x.1,!x.2))=prN ta gi ps
 | []=>rfl
 |(b,al)::ps=>by
  rw[List.reverse_cons,List.map_append,WN,ZdJ gi ta ps];show prN ta gi ps*((if(!al)=true then gi b else ta b)*1)=(if al=true then ta b else gi b)*prN ta gi ps;cases al<;>simp[Nat.mul_comm]
theorem ZaB{gi ta:Int→Nat}:∀{ps:List (Int×Bool)},(∀x∈ps,0<gi x.1∧0<ta x.1)→0<prN gi ta ps
 | [],_=>Nat.one_pos
 |x::ps,h=>by
  refine Nat.mul_pos ?_ (ZaB fun y hy=>h y (List.mem_cons_of_mem _ hy));have:=h x (List.mem_cons_self ..)
  split
  ·exact this.1
  ·exact this.2
section
variable {W:Int→List Fo.Trip}{first:Int}{tr:Fo.ZF}{gi ta:Int→Nat}{sh:Int→Nat×Nat}
structure Shared(gi ta:Int→Nat)(first:Int)(tr:Fo.ZF)(sh:Int→Nat×Nat):Prop where
 one:sh first=(1,1)
 pos:∀w∈Fo.keys tr,0<(sh w).1∧0<(sh w).2
 step:∀(i:Nat)(w p b:Int)(al:Bool),tr[i]? =some (w,some (p,b,al))→(sh w).1*(sh p).2*(if al=true then ta b else gi b)=(sh p).1*(sh w).2*(if al=true then gi b else ta b)
theorem Z9.share(hg:Fo.Z6 W first tr)(hs:Shared gi ta first tr sh){w:Int}{ps:List (Int×Bool)}(h:Z9 tr w ps):(sh w).1*prN ta gi ps=(sh w).2*prN gi ta ps:=by
 induction h with
 |root e=>
  have:=hg.only _ _ e;subst this;rw[hg.head] at e;cases e;rw[hs.one]
  rfl
 | @step w p b al i ps e h ih=>
  obtain⟨_,j,sj,hj,ej⟩:=hg.steps _ _ _ _ _ e;have hpp:=(hs.pos p (Fo.WF ej)).2;have hst:=hs.step _ _ _ _ _ e;rw[WN,WN];show(sh w).1*(prN ta gi ps*((if al=true then ta b else gi b)*1))=(sh w).2*(prN gi ta ps*((if al=true then gi b else ta b)*1));generalize (if al=true then ta b else gi b)=dn at*;generalize (if al=true then gi b else ta b)=nm at*;generalize prN ta gi ps=D at*;generalize prN gi ta ps=N at*;refine Nat.eq_of_mul_eq_mul_left hpp ?_
  calc (sh p).2*((sh w).1*(D*(dn*1)))=((sh w).1*(sh p).2*dn)*D:=by simp only[Nat.mul_one,Nat.mul_comm,Nat.mul_left_comm,Nat.mul_assoc]
   _=(sh p).1*(sh w).2*nm*D:=by rw[hst]
   _=(sh w).2*nm*((sh p).1*D):=by simp only[Nat.mul_comm,Nat.mul_left_comm,Nat.mul_assoc]
   _=(sh w).2*nm*((sh p).2*N):=by rw[ih]
   _=(sh p).2*((sh w).2*(N*(nm*1))):=by simp only[Nat.mul_one,Nat.mul_comm,Nat.mul_left_comm,Nat.mul_assoc]
theorem Zi9(hg:Fo.Z6 W first tr)(hs:Shared gi ta first tr sh)(hpos:∀(i:Nat)(w p b:Int)(al:Bool),tr[i]? =some (w,some (p,b,al))→0<gi b∧0<ta b){g t bi:Int}{pg pt:List (Int×Bool)}{k:Nat}(hp:Z9 tr g pg)(hq:Z9 tr t pt)(hgk:g∈Fo.keys tr)(htk:t∈Fo.keys tr)(hk:pg.take k=pt.take k)
  (hne:(sh g).1*(sh t).2*gi bi≠(sh t).1*(sh g).2*ta bi):prN gi ta (W1 bi pg pt k)≠prN ta gi (W1 bi pg pt k):=by
 intro e;apply hne;have e1:=hp.share hg hs;have e2:=hq.share hg hs;have sub:∀{w:Int}{ps:List (Int×Bool)},Z9 tr w ps→w∈Fo.keys tr→∀x∈ps,0<gi x.1∧0<ta x.1:=fun h hw x hx=>by
  obtain⟨i,s,hi⟩:=Fo.V8 hw;obtain⟨i',w',p',_,c⟩:=h.origin hg hi x hx;exact hpos _ _ _ _ _ c
 have pp:=sub hp hgk;have qq:=sub hq htk;rw[←List.take_append_drop k pg,WN,WN,hk] at e1;rw[←List.take_append_drop k pt,WN,WN] at e2;unfold W1 at e;rw[WN,WN] at e;have u1:prN gi ta ((bi,true)::((pt.drop k).reverse.map fun x=>(x.1,!x.2)))=gi bi*prN ta gi (pt.drop k):=by
  show gi bi*prN gi ta _=_;rw[ZdJ]
 have u2:prN ta gi ((bi,true)::((pt.drop k).reverse.map fun x=>(x.1,!x.2)))=ta bi*prN gi ta (pt.drop k):=by
  show ta bi*prN ta gi _=_;rw[ZdJ]
 rw[u1,u2] at e;have c0:0<prN gi ta (pt.take k):=ZaB fun x hx=>qq x (List.mem_of_mem_take hx);have d0:0<prN ta gi (pt.take k):=ZaB fun x hx=>(qq x (List.mem_of_mem_take hx)).symm;have b0:0<prN ta gi (pg.drop k):=ZaB fun x hx=>(pp x (List.mem_of_mem_drop hx)).symm;have f0:0<prN gi ta (pt.drop k):=ZaB fun x hx=>qq x (List.mem_of_mem_drop hx);generalize prN gi ta (pt.take k)=c at*;generalize prN ta gi (pt.take k)=d at*;generalize prN gi ta (pg.drop k)=a at*;generalize prN ta gi (pg.drop k)=b at*;generalize prN gi ta (pt.drop k)=f at*;generalize prN ta gi (pt.drop k)=h at*;refine Nat.eq_of_mul_eq_mul_left (Nat.mul_pos (Nat.mul_pos d0 b0) (Nat.mul_pos c0 f0)) ?_
 calc d*b*(c*f)*((sh g).1*(sh t).2*gi bi)=((sh g).1*(d*b))*((sh t).2*(c*f))*gi bi:=by simp only[Nat.mul_comm,Nat.mul_left_comm,Nat.mul_assoc]
  _=((sh g).2*(c*a))*((sh t).1*(d*h))*gi bi:=by rw[e1,e2]
  _=(sh g).2*(sh t).1*(c*d)*(gi bi*h*a):=by simp only[Nat.mul_comm,Nat.mul_left_comm,Nat.mul_assoc]
  _=(sh g).2*(sh t).1*(c*d)*(ta bi*f*b):=by rw[e]
  _=d*b*(c*f)*((sh t).1*(sh g).2*ta bi):=by simp only[Nat.mul_comm,Nat.mul_left_comm,Nat.mul_assoc]
end
noncomputable def gvI (ls:List B5) (b:Int):Int:=(ls.getD b.toNat dB).giver
noncomputable def tkI (ls:List B5) (b:Int):Int:=(ls.getD b.toNat dB).taker
noncomputable def giN (ls:List B5) (b:Int):Nat:=(ls.getD b.toNat dB).give.toNat
noncomputable def taN (ls:List B5) (b:Int):Nat:=(ls.getD b.toNat dB).take.toNat
theorem Zj5(ls:List B5):Zab (ZT ls) (gvI ls) (tkI ls):=fun p o b al h=>by
 obtain⟨i,hi,hm⟩:=W3 h;rcases Ye.mp hm with⟨e1,e2⟩|⟨e1,e2⟩
 ·injection e2 with e2 e3
  injection e3 with e3 e4
  subst e2 e3 e4;exact .inl ⟨rfl,e1.symm,rfl⟩
 ·injection e2 with e2 e3
  injection e3 with e3 e4
  subst e2 e3 e4;exact .inr ⟨rfl,e1.symm,rfl⟩
theorem Zeo{ls:List B5}{p o b:Int}{al:Bool}(h:(o,b,al)∈ZT ls p):0≤b∧b<(ls.length:Int):=by
 obtain⟨i,hi,hm⟩:=W3 h;rcases Ye.mp hm with⟨e1,e2⟩|⟨e1,e2⟩
 ·injection e2 with e2 e3
  injection e3 with e3 e4
  subst e3;omega
 ·injection e2 with e2 e3
  injection e3 with e3 e4
  subst e3;omega
noncomputable def ZbJ (zs:List (Int×(Nat×Nat))) (w:Int):Nat×Nat:=((zs.find? fun y=>decide (y.1=w)).map (·.2)).getD (1,1)
theorem V0:∀{zs:List (Int×(Nat×Nat))}{y:Int×(Nat×Nat)},(zs.map (·.1)).Nodup→y∈zs→ZbJ zs y.1=y.2
 |z::zs,y,nd,h=>by
  rw[List.map_cons,List.nodup_cons] at nd;unfold ZbJ;rw[List.find?_cons]
  by_cases c:z.1=y.1
  ·rcases List.mem_cons.mp h with e|e
   ·subst e;simp
   ·exact absurd (List.mem_map.mpr ⟨y,e,c.symm⟩) nd.1
  ·have e:=(List.mem_cons.mp h).resolve_left (fun e=>c (by rw[e]));have ih:=V0 nd.2 e;unfold ZbJ at ih;simp only[c,decide_false];exact ih
section
variable {ls:List B5}{n:Nat}{F:List (Int×Fo.ZF)}{rs:List Int}{tr:Fo.ZF}{first:Int}{zs:List (Int×(Nat×Nat))}
theorem Zfb(hg:Fo.Z6 (ZT ls) first tr)(h:Wf ls tr zs tr.length):(zs.map (·.1)).Nodup:=by
 rw[h.keys];exact hg.nodup.sublist (List.take_sublist _ _)
theorem Zip(hg:Fo.Z6 (ZT ls) first tr)(h:Wf ls tr zs tr.length):Shared (giN ls) (taN ls) first tr (ZbJ zs):=by
 have nd:=Zfb hg h;have hl0:0<tr.length:=(List.getElem?_eq_some_iff.mp hg.head).1;refine⟨V0 (y:=(first,(1,1))) nd (List.mem_of_getElem? (h.first 0 first hl0 hg.head)),fun w hw=>?_,fun i w p b al e=>?_⟩
 ·obtain⟨y,hy,ey⟩:=ZcW (x:=(first,tr)) h hw;rw[←ey,V0 nd hy];exact⟨(h.pos y hy).1,(h.pos y hy).2.1⟩
 ·obtain⟨j,x,y,hj,h1,h2,hb⟩:=h.step i w p b al (List.getElem?_eq_some_iff.mp e).1 e;rw[V0 (y:=(w,x)) nd (List.mem_of_getElem? h1),V0 (y:=(p,y)) nd (List.mem_of_getElem? h2)];unfold Bal at hb;cases al with
  |true=>rw[if_pos rfl] at hb;exact hb
  |false=>rw[if_neg (by decide)] at hb;exact hb
theorem Zbp(hg:Fo.Z6 (ZT ls) first tr)(h:Wf ls tr zs tr.length)(hs:∀y∈zs,rs[y.1.toNat]? =some ((lcmL zs / y.2.2*y.2.1:Nat):Int)){b:B5}{gv tk:Nat}(eg:b.give=(gv:Int))(et:b.take=(tk:Int))(hgk:b.giver∈Fo.keys tr)(htk:b.taker∈Fo.keys tr)
  (e:(ZbJ zs b.giver).1*(ZbJ zs b.taker).2*gv=(ZbJ zs b.taker).1*(ZbJ zs b.giver).2*tk):Wy rs b=0:=by
 have nd:=Zfb hg h;obtain⟨yg,hyg,eyg⟩:=ZcW (x:=(first,tr)) h hgk;obtain⟨yt,hyt,eyt⟩:=ZcW (x:=(first,tr)) h htk;rw[←eyg,←eyt,V0 nd hyg,V0 nd hyt] at e;have r1:=hs yg hyg;have r2:=hs yt hyt;rw[eyg] at r1;rw[eyt] at r2;have e1:rs.getD b.giver.toNat 0=((lcmL zs / yg.2.2*yg.2.1:Nat):Int):=by rw[List.getD_eq_getElem?_getD,r1];rfl
 have e2:rs.getD b.taker.toNat 0=((lcmL zs / yt.2.2*yt.2.1:Nat):Int):=by rw[List.getD_eq_getElem?_getD,r2];rfl
 have d1:=Nat.div_mul_cancel (Zb8 hyg);have d2:=Nat.div_mul_cancel (Zb8 hyt);have p1:=(h.pos yg hyg).2.1;have p2:=(h.pos yt hyt).2.1;generalize lcmL zs / yg.2.2=A at*;generalize lcmL zs / yt.2.2=B at*;generalize lcmL zs=C at*;have key:A*yg.2.1*gv=B*yt.2.1*tk:=by
  refine Nat.eq_of_mul_eq_mul_left (Nat.mul_pos p1 p2) ?_
  calc yg.2.2*yt.2.2*(A*yg.2.1*gv)=A*yg.2.2*(yg.2.1*yt.2.2*gv):=by simp only[Nat.mul_comm,Nat.mul_left_comm,Nat.mul_assoc]
   _=B*yt.2.2*(yt.2.1*yg.2.2*tk):=by rw[e,d1,d2]
   _=yg.2.2*yt.2.2*(B*yt.2.1*tk):=by simp only[Nat.mul_comm,Nat.mul_left_comm,Nat.mul_assoc]
 unfold Wy;rw[e1,e2,eg,et];have k2:((A*yg.2.1:Nat):Int)*(gv:Int)=((B*yt.2.1:Nat):Int)*(tk:Int):=by
  rw[←Int.natCast_mul,←Int.natCast_mul,key]
 omega
structure Zdq(ls:List B5)(ring:List (Int×Bool)):Prop where
 some_:ring≠[]
 rg:∀x∈ring,0≤x.1∧x.1<(ls.length:Int)
 nd:(ring.map (·.1)).Nodup
 walk:∃a,YT (gvI ls) (tkI ls) a ring a
 odd:prN (giN ls) (taN ls) ring≠prN (taN ls) (giN ls) ring
theorem Z9.mem{w:Int}{ps:List (Int×Bool)}(h:Z9 tr w ps):w∈Fo.keys tr:=by
 cases h with
 |root e=>exact Fo.WF e
 |step e _=>exact Fo.WF e
theorem Zj0(hbt:ZE ls n)(hsz:YZ ls)(hwd:Fo.Wn (ZT ls) n F n)(hset:∀x∈F,Za2 ls x rs){bi:Nat}(hbi:bi<ls.length)(hch:Wy rs (ls.getD bi dB)≠0){x:Int×Fo.ZF}(hx:x∈F){pg pt:List (Int×Bool)}{k:Nat}(hp:Z9 x.2 (ls.getD bi dB).giver pg)(hq:Z9 x.2 (ls.getD bi dB).taker pt)(hk:pg.take k=pt.take k)(hm:k=pg.length∨k=pt.length∨pg[k]? ≠pt[k]?):Zdq ls (W1 bi pg pt k):=by
 obtain⟨hg,_,_,_⟩:=hwd.tree x hx;obtain⟨zs,hgs,hs⟩:=hset x hx;have hW:=Zj5 ls;have hsh:=Zip hg hgs;have hpos:∀(i:Nat)(w p b:Int)(al:Bool),x.2[i]? =some (w,some (p,b,al))→0<giN ls b∧0<taN ls b:=fun i w p b al e=>by
  obtain⟨h1,_⟩:=hg.steps _ _ _ _ _ e;obtain⟨b0,b1⟩:=Zeo h1;obtain⟨gv,tk,g0,t0,_,_,eg,et⟩:=hsz b.toNat (by omega);unfold giN taN;rw[eg,et];exact⟨by omega,by omega⟩
 have from_tree:∀{w:Int}{ps:List (Int×Bool)},Z9 x.2 w ps→∀y∈ps,(0≤y.1∧y.1<(ls.length:Int))∧y.1≠(bi:Int):=fun{w ps} h y hy=>by
  obtain⟨i,s,hi⟩:=Fo.V8 h.mem;obtain⟨i',w',p',_,c⟩:=h.origin hg hi y hy;obtain⟨h1,j,sj,hj,ej⟩:=hg.steps _ _ _ _ _ c;have hb:=Zeo h1;refine⟨hb,fun e=>hch ?_⟩;obtain⟨gv,tk,g0,t0,_,_,eg,et⟩:=hsz bi hbi;have hst:=hsh.step _ _ _ _ _ c;have k1:giN ls y.1=gv:=by unfold giN;rw[e,Int.toNat_natCast,eg,Int.toNat_natCast]
  have k2:taN ls y.1=tk:=by unfold taN;rw[e,Int.toNat_natCast,et,Int.toNat_natCast]
  rw[k1,k2] at hst;have k3:=Fo.WF c;have k4:=Fo.WF ej;have a:∀z,gvI ls y.1=z→(ls.getD bi dB).giver=z:=fun z hz=>by rw[←hz];unfold gvI;rw[e,Int.toNat_natCast]
  have b:∀z,tkI ls y.1=z→(ls.getD bi dB).taker=z:=fun z hz=>by rw[←hz];unfold tkI;rw[e,Int.toNat_natCast]
  rcases hW _ _ _ _ h1 with⟨z1,z2,z3⟩|⟨z1,z2,z3⟩
  ·rw[z1,if_pos rfl,if_pos rfl] at hst;refine Zbp hg hgs hs eg et (by rw[a _ z2.symm];exact k4) (by rw[b _ z3.symm];exact k3) ?_;rw[a _ z2.symm,b _ z3.symm];exact hst.symm
  ·rw[z1,if_neg (by decide),if_neg (by decide)] at hst;refine Zbp hg hgs hs eg et (by rw[a _ z3.symm];exact k3) (by rw[b _ z2.symm];exact k4) ?_;rw[a _ z3.symm,b _ z2.symm];exact hst
 have g1:gvI ls (bi:Int)=(ls.getD bi dB).giver:=rfl;have g2:tkI ls (bi:Int)=(ls.getD bi dB).taker:=rfl;refine⟨fun z=>(by unfold W1 at z;cases z),fun y hy=>?_,Zg9 hg hW hp hq hm (fun y hy=>(from_tree hp y hy).2) (fun y hy=>(from_tree hq y hy).2),⟨_,Zid hg hW (bi:=(bi:Int)) hp hq hk⟩,Zi9 hg hsh hpos hp hq hp.mem hq.mem hk fun e=>hch ?_⟩
 ·unfold W1 at hy;rw[List.cons_append] at hy;rcases List.mem_cons.mp hy with z|z
  ·rw[z];exact⟨by omega,by dsimp only;omega⟩
  ·rcases List.mem_append.mp z with z|z
   ·obtain⟨y',hy',ey⟩:=List.mem_map.mp z;have:=(from_tree hq y' (List.mem_of_mem_drop (List.mem_reverse.mp hy'))).1;rw[←ey];exact this
   ·exact(from_tree hp y (List.mem_of_mem_drop z)).1
 ·obtain⟨gv,tk,g0,t0,_,_,eg,et⟩:=hsz bi hbi;have k1:giN ls (bi:Int)=gv:=by unfold giN;rw[Int.toNat_natCast,eg,Int.toNat_natCast]
  have k2:taN ls (bi:Int)=tk:=by unfold taN;rw[Int.toNat_natCast,et,Int.toNat_natCast]
  rw[k1,k2] at e;exact Zbp hg hgs hs eg et hp.mem hq.mem e
end
theorem Paired.get{α β:Type}{P:α→β→Prop}:∀{xs:List α}{ys:List β}{i:Nat}{x:α},Paired P xs ys→xs[i]? =some x→∃y,ys[i]? =some y∧P x y
 |_,_,_,_,.nil,e=>by simp at e
 |_,_,0,_,.cons h _,e=>by simp at e;subst e;exact⟨_,rfl,h⟩
 |_,_,i+1,x,.cons _ r,e=>by
  obtain⟨y,h1,h2⟩:=Paired.get (i:=i) (x:=x) r (by simpa using e);exact⟨y,by simpa using h1,h2⟩
theorem ZbB{α β:Type}{P:α→β→Prop}:∀{xs:List α}{ys:List β},xs.length=ys.length→(∀(i:Nat) x y,xs[i]? =some x→ys[i]? =some y→P x y)→Paired P xs ys
 | [],[],_,_=> .nil
 |x::xs,y::ys,hl,h=> .cons (h 0 x y rfl rfl) (ZbB (by simpa using hl) fun i a b e1 e2=>h (i+1) a b (by simpa using e1) (by simpa using e2))
 | [],_::_,hl,_=>by simp at hl
 |_::_,[],hl,_=>by simp at hl
theorem Ze0{β γ:Type}{S:γ→β→Prop}{L:List γ}{d:γ}{ys:List β}(h:Paired (fun i v=>S (L.getD i d) v) ((List.range L.length).filter fun _=>true) ys):Paired S L ys:=by
 rw[List.filter_eq_self.mpr (by simp)] at h;refine ZbB (by rw[←Paired.length h,List.length_range]) fun i x y e1 e2=>?_;have hi:i<L.length:=(List.getElem?_eq_some_iff.mp e1).1;obtain⟨y',h1,h2⟩:=Paired.get (i:=i) (x:=i) h (by simp[hi]);rw[e2] at h1;cases h1;simpa[List.getD,e1] using h2
noncomputable def Vm (H:Hp):List (Int×Int)→List V→Prop:=Paired fun x v=>∃t,v= .ref t∧H t=some (.tup [.int x.1,.int x.2])
theorem Vm.keep{H H':Hp}(t:∀b xs,H b=some (.tup xs)→H' b=some (.tup xs)){vs:List V}{l:List (Int×Int)}(h:Vm H l vs):Vm H' l vs:=Paired.mapP h fun _ _ ⟨a,e,z⟩=>⟨a,e,t _ _ z⟩
noncomputable def LL (H:Hp):List (List (Int×Int))→List Addr→Prop:=Paired fun l a=>∃vs,H a=some (.lst vs)∧Vm H l vs
theorem LL.dom{H:Hp}:∀{ls:List (List (Int×Int))}{as:List Addr},LL H ls as→∀x∈as,H x≠none
 |_,_,.nil,_,hx=>by simp at hx
 |_,_,.cons ⟨vs,h,_⟩ r,x,hx=>by
  rcases List.mem_cons.mp hx with rfl|hx
  ·rw[h];simp
  ·exact LL.dom r x hx
theorem LL.keep{H H':Hp}(t:∀b xs,H b=some (.tup xs)→H' b=some (.tup xs)):∀{ls:List (List (Int×Int))}{as:List Addr},LL H ls as→(∀x∈as,H' x=H x)→LL H' ls as
 |_,_,.nil,_=> .nil
 |_,_,.cons ⟨vs,h,p⟩ r,k=> .cons ⟨vs,(k _ (by simp)).trans h,p.keep t⟩ (LL.keep t r fun x hx=>k x (List.mem_cons_of_mem _ hx))
noncomputable def YL (ls:List B5) (w:Int):List (Int×Int):=(Yp ls w).map fun i:Nat=>((i:Int),(ls.getD i dB).take)
noncomputable def ZdH (ls:List B5) (w:Int):List (Int×Int):=(YF ls w).map fun i:Nat=>((i:Int),(ls.getD i dB).give)
structure FM where
 many:Int
 rows:List B5
 heaps:List Int
noncomputable def Zdi (fl:FM):List (List (Int×Int)):=(List.range fl.many.toNat).map fun w:Nat=>YL fl.rows w
noncomputable def ZlP (fl:FM):List (List (Int×Int)):=(List.range fl.many.toNat).map fun w:Nat=>ZdH fl.rows w
def YO{K:PySem.W.Frag}{mg:Str→Option Value}(T:Tp K mg)(H:Hp)(p:Addr)(fl:FM)(fp:List Addr):Prop:=
 ∃(dx a b c:Addr)(ia ib:List Addr),fp=p::dx::a::b::c::(ia++ib)∧H p=some (.ins T.C_Floor dx [("takes",.ref a),("gives",.ref b),("heaps",.ref c)])∧H dx=some (.own p)∧H a=some (.lst (ia.map V.ref))∧H b=some (.lst (ib.map V.ref))∧
  H c=some (.lst (fl.heaps.map V.int))∧LL H (Zdi fl) ia∧LL H (ZlP fl) ib∧fl.heaps.length=fl.rows.length∧0≤fl.many
section
variable {K:PySem.W.Frag}{mg:Str→Option Value}{T:Tp K mg}{H H':Hp}{p:Addr}{fl:FM}{fp:List Addr}
theorem YO.dom(h:YO T H p fl fp):∀x∈fp,H x≠none:=by
 obtain⟨dx,a,b,c,ia,ib,rfl,h1,h2,h3,h4,h5,h6,h7,h8,h9⟩:=h;intro x hx;simp only[List.mem_cons,List.mem_append] at hx;rcases hx with rfl|rfl|rfl|rfl|rfl|hx|hx
 ·rw[h1];simp
 ·rw[h2];simp
 ·rw[h3];simp
 ·rw[h4];simp
 ·rw[h5];simp
 ·exact h6.dom x hx
 ·exact h7.dom x hx
theorem YO.off{A:List Addr}(h:YO T H p fl fp)(f:ZW A H H')(d:∀x∈fp,x∉A):YO T H' p fl fp:=by
 have k:∀x∈fp,H' x=H x:=fun x hx=>by
  cases q:H x with
  |none=>exact absurd q (h.dom x hx)
  |some o=>exact f.keep x o q (d x hx)
 obtain⟨dx,a,b,c,ia,ib,rfl,h1,h2,h3,h4,h5,h6,h7,h8,h9⟩:=h;exact⟨dx,a,b,c,ia,ib,rfl,(k p (by simp)).trans h1,(k dx (by simp)).trans h2,(k a (by simp)).trans h3,(k b (by simp)).trans h4,(k c (by simp)).trans h5,
  h6.keep f.tups (fun x hx=>k x (by simp[hx])),h7.keep f.tups (fun x hx=>k x (by simp[hx])),h8,h9⟩
theorem YO.same(h:YO T H p fl fp)(e:Zd H H'):YO T H' p fl fp:=h.off (A:=[]) e.frame (by simp)
theorem Zhb{m:Str}{G:Prop}(h:YO T H p fl fp)(m1:(m== "takes")=false)(m2:(m== "gives")=false)(m3:(m== "heaps")=false)(q:G):∃a dx fs,V.ref p= .ref a∧H a=some (.ins T.C_Floor dx fs)∧fs.lookup m=none∧G:=by
 obtain⟨dx,a,b,c,ia,ib,rfl,h1,_⟩:=h;exact⟨p,dx,_,rfl,h1,Rd.lk1 m1 (Rd.lk1 m2 (Rd.lk1 m3 Rd.lkN)),q⟩
end
noncomputable def YI (rows:List B5) (hs:List Int) (w:Int):Bool:=(rows.zip hs).all fun x=>!(decide (x.1.taker=w))||decide (x.1.take≤x.2)
theorem Zcy{w:Int}:∀{rows:List B5}{hs:List Int},(∀(i:Nat)(r:B5)(h:Int),rows[i]? =some r→hs[i]? =some h→r.taker=w→r.take≤h)→YI rows hs w=true
 | [],_,_=>by simp[YI]
 |_::_,[],_=>by simp[YI]
 |r::rs,h::hs,q=>by
  have e:=Zcy (rows:=rs) (hs:=hs) (w:=w) fun i r' h' a b=>q (i+1) r' h' (by simpa using a) (by simpa using b);unfold YI at e⊢;rw[List.zip_cons_cons,List.all_cons,e,Bool.and_true]
  by_cases c:r.taker=w
  ·rw[decide_eq_true (q 0 r h rfl rfl c),Bool.or_true]
  ·rw[decide_eq_false c];rfl
theorem Zbm{w:Int}:∀{rows:List B5}{hs:List Int}(i:Nat){r:B5}{h:Int},rows[i]? =some r→hs[i]? =some h→r.taker=w→h<r.take→YI rows hs w=false
 | [],_,_,_,_,a,_,_,_=>by simp at a
 |_::_,[],_,_,_,_,a,_,_=>by simp at a
 |r::rs,h::hs,0,r',h',a,b,c,d=>by
  simp only[List.getElem?_cons_zero,Option.some.injEq] at a b;subst a b;unfold YI;rw[List.zip_cons_cons,List.all_cons,decide_eq_true c,decide_eq_false (show ¬r.take≤h by omega)]
  rfl
 |r::rs,h::hs,i+1,r',h',a,b,c,d=>by
  have e:=Zbm (rows:=rs) (hs:=hs) (w:=w) i (r:=r') (h:=h') (by simpa using a) (by simpa using b) c d;unfold YI at e⊢;rw[List.zip_cons_cons,List.all_cons,e,Bool.and_false]
noncomputable def Zla (fl:FM) (w:Int):Bool:=YI fl.rows fl.heaps w
noncomputable def ZaS (hs:List Int) (l:List (Int×Int)):Bool:=l.all fun x=>decide (x.2≤hs.getD x.1.toNat 0)
theorem Zg1{rows:List B5}{hs:List Int}{w:Int}(h:hs.length=rows.length):ZaS hs (YL rows w)=YI rows hs w:=by
 cases e:ZaS hs (YL rows w) with
 |true=>
  refine(Zcy fun i r x a b c=>?_).symm;have hi:i<rows.length:=(List.getElem?_eq_some_iff.mp a).1;have er:rows.getD i dB=r:=by simp[List.getD,a]
  have m:((i:Int),r.take)∈YL rows w:=by
   unfold YL Yp;refine List.mem_map.mpr ⟨i,List.mem_filter.mpr ⟨List.mem_range.mpr hi,decide_eq_true (by rw[er];exact c)⟩,by rw[er]⟩
  have:=of_decide_eq_true (List.all_eq_true.mp e _ m);simpa[List.getD,b] using this
 |false=>
  unfold ZaS at e;rw[List.all_eq_false] at e;obtain⟨x,hx,d⟩:=e;unfold YL Yp at hx;obtain⟨i,hi,rfl⟩:=List.mem_map.mp hx;obtain⟨h1,h2⟩:=List.mem_filter.mp hi;have hr:=List.mem_range.mp h1;have ei:=List.getElem?_eq_getElem hr;have eh:=List.getElem?_eq_getElem (show i<hs.length by omega);have er:rows.getD i dB=rows[i]:=by simp[List.getD,ei]
  rw[er] at h2 d;refine(Zbm i ei eh (of_decide_eq_true h2) ?_).symm;have d':¬rows[i].take≤hs.getD (i:Int).toNat 0:=fun z=>d (decide_eq_true z);have eg:hs.getD (i:Int).toNat 0=hs[i]:=by simp[List.getD,eh]
  rw[eg] at d';omega
theorem Zek{ls:List B5}{w:Int}{i:Nat}(h:i∈Yp ls w):i<ls.length:=List.mem_range.mp (List.mem_filter.mp h).1
theorem Zh8{ls:List B5}{w:Int}{i:Nat}(h:i∈YF ls w):i<ls.length:=List.mem_range.mp (List.mem_filter.mp h).1
theorem Zdt{ls:List B5}{w:Int}:(Yp ls w).length≤ls.length:=Nat.le_trans (List.length_filter_le _ _) (by simp)
theorem ZgV{ls:List B5}{w:Int}:(YF ls w).length≤ls.length:=Nat.le_trans (List.length_filter_le _ _) (by simp)
theorem Zig{fl:FM}{w:Int}(h0:0≤w)(h1:w<fl.many):(Zdi fl)[w.toNat]? =some (YL fl.rows w):=by
 unfold Zdi;have:w.toNat<fl.many.toNat:=by omega
 rw[List.getElem?_map,List.getElem?_range this];show some (YL fl.rows (w.toNat:Int))=_;rw[Int.toNat_of_nonneg h0]
theorem LL.at{H:Hp}{ls:List (List (Int×Int))}{ia:List Addr}{w:Int}{l:List (Int×Int)}(h:LL H ls ia)(h0:0≤w)(e:ls[w.toNat]? =some l):∃x vs,atI (ia.map V.ref) w=some (.ref x)∧H x=some (.lst vs)∧Vm H l vs:=by
 obtain⟨x,h1,vs,h2,h3⟩:=Paired.get h e;refine⟨x,vs,?_,h2,h3⟩;have:=Yo (xs:=ia.map V.ref) (j:=w.toNat) (v:= .ref x) (by rw[List.getElem?_map,h1];rfl)
 rwa [Int.toNat_of_nonneg h0] at this
theorem LL.len{H:Hp}{ls:List (List (Int×Int))}{ia:List Addr}(h:LL H ls ia):ia.length=ls.length:=(Paired.length h).symm
theorem Zd5{H:Hp}{js:List Nat}{f:Nat→Int}{ys:List V}(h:Paired (fun i v=>∃t,v=V.ref t∧H t=some (.tup [.int (js.getD i 0:Nat),.int (f (js.getD i 0))])) ((List.range (js.map fun i:Nat=>V.int i).length).filter fun _=>true) ys):Vm H (js.map fun i:Nat=>((i:Int),f i)) ys:=by
 rw[List.length_map] at h;have h1:Paired (fun(j:Nat) v=>∃t,v=V.ref t∧H t=some (.tup [.int (j:Nat),.int (f j)])) js ys:=Ze0 (L:=js) (d:=0) h;refine ZbB (by rw[List.length_map];exact Paired.length h1) fun i x y e1 e2=>?_;rw[List.getElem?_map] at e1;cases e:js[i]? with
 |none=>rw[e] at e1;cases e1
 |some j=>
  rw[e] at e1;cases e1;obtain⟨y',e3,h3⟩:=Paired.get h1 e;rw[e2] at e3;cases e3;exact h3
theorem Zg7{ls:List B5}{w:Int}{n:Nat}(h:n=ls.length):∀x∈YL ls w,0≤x.1∧x.1<n:=by
 intro x hx;obtain⟨i,hi,rfl⟩:=List.mem_map.mp hx;have:=Zek hi;show 0≤(i:Int)∧(i:Int)<n;omega
theorem Zgr{ls:List B5}{w:Int}:(YL ls w).length≤ls.length:=by unfold YL;rw[List.length_map];exact Zdt
def U4(ls:List B5)(rs:List Int):Prop:=∀b∈ls,b.give*rs.getD b.giver.toNat 0=b.take*rs.getD b.taker.toNat 0
noncomputable def startsL (ls:List B5):List Int:=ls.map B5.start
def Zkp(ss:List Int):Prop:=∀s∈ss,0<s∧s≤10 ^ 13
theorem Znm{ss:List Int}(h:Zkp ss){g:Int}(h0:0≤g)(h1:g<(ss.length:Int)):∃a:Nat,ss.getD g.toNat 0=(a:Int)∧0<a∧a≤10 ^ 13:=by
 have hm:ss.getD g.toNat 0∈ss:=by rw[ZH (by omega)];exact List.getElem_mem _
 obtain⟨p1,p2⟩:=h _ hm;exact⟨(ss.getD g.toNat 0).toNat,by omega,by omega,by omega⟩
structure ZbL(ls:List B5)(n:Nat)(i:Nat)(xs ys:List Int):Prop where
 ext:∃zs,ys=xs++zs
 nd:ys.Nodup
 rg:∀w∈ys,0≤w∧w<(n:Int)
 cl:ys.length=xs.length→∀j<i,((ls.getD j dB).giver∈xs↔(ls.getD j dB).taker∈xs)
noncomputable def addW (a b:Int) (ys:List Int):List Int:=if a∈ys∧b∉ys then ys++ [b] else ys
theorem ZbU{a b:Int}{ys xs:List Int}{n:Nat}(hb:0≤b∧b<(n:Int))(he:∃zs,ys=xs++zs)(hn:ys.Nodup)(hr:∀w∈ys,0≤w∧w<(n:Int)):(∃zs,addW a b ys=xs++zs)∧(addW a b ys).Nodup∧(∀w∈addW a b ys,0≤w∧w<(n:Int))∧ys.length≤(addW a b ys).length∧((addW a b ys).length=ys.length→addW a b ys=ys∧(a∈ys→b∈ys)):=by
 unfold addW
 split
 ·rename_i c;obtain⟨zs,e⟩:=he;refine⟨⟨zs++ [b],by rw[e,List.append_assoc]⟩,?_,?_,by simp,fun z=>by simp at z⟩
  ·rw[List.nodup_append];refine⟨hn,by simp,?_⟩;intro x hx y hy e';rw[List.mem_singleton.mp hy] at e';exact c.2 (e'▸hx)
  ·intro w hw;rcases List.mem_append.mp hw with z|z
   ·exact hr w z
   ·rw[List.mem_singleton.mp z];exact hb
 ·rename_i c;refine⟨he,hn,hr,Nat.le_refl _,fun _=>⟨rfl,fun ha=>?_⟩⟩
  by_cases hbb:b∈ys
  ·exact hbb
  ·exact absurd ⟨ha,hbb⟩ c
theorem ZbL.step{ls:List B5}{n i:Nat}{xs ys:List Int}(h:ZbL ls n i xs ys)(hb:ZE ls n)(hi:i<ls.length):ZbL ls n (i+1) xs (addW (ls.getD i dB).taker (ls.getD i dB).giver (addW (ls.getD i dB).giver (ls.getD i dB).taker ys)):=by
 obtain⟨b1,b2,b3,b4⟩:=hb.at hi;obtain⟨p1,p2,p3,p4,p5⟩:=ZbU (a:=(ls.getD i dB).giver) ⟨b3,b4⟩ h.ext h.nd h.rg;obtain⟨q1,q2,q3,q4,q5⟩:=ZbU (a:=(ls.getD i dB).taker) ⟨b1,b2⟩ p1 p2 p3;refine⟨q1,q2,q3,fun z j hj=>?_⟩;obtain⟨zs,e⟩:=h.ext;have hl:xs.length≤ys.length:=by rw[e,List.length_append];omega
 obtain⟨e1,f1⟩:=p5 (by omega);obtain⟨e2,f2⟩:=q5 (by omega);have ey:ys=xs:=by
  have:zs.length=0:=by
   have:=congrArg List.length e;rw[List.length_append] at this;omega
  rw[e,List.length_eq_zero_iff.mp this,List.append_nil]
 rw[e1] at f2;rw[ey] at f1 f2
 by_cases hji:j=i
 ·subst hji;exact⟨f1,f2⟩
 ·exact h.cl (by rw[ey]) j (by omega)
theorem ZgK{ls:List B5}{ys:List Int}(hc:∀j<ls.length,((ls.getD j dB).giver∈ys↔(ls.getD j dB).taker∈ys)){a w:Int}(h:Fo.Wo (ZT ls) a w)(ha:a∈ys):w∈ys:=by
 induction h with
 |refl=>exact ha
 |step _ m ih=>
  obtain⟨i,hi,hm⟩:=W3 m;rcases Ye.mp hm with⟨e1,e2⟩|⟨e1,e2⟩
  ·have e3:=congrArg Prod.fst e2;dsimp only at e3;rw[e3];exact(hc i hi).mp (e1▸ih)
  ·have e3:=congrArg Prod.fst e2;dsimp only at e3;rw[e3];exact(hc i hi).mpr (e1▸ih)
noncomputable def Zjp (rs:List Int) (ys:List Int):Nat:=ys.foldl (fun c w=>Nat.gcd c (rs.getD w.toNat 0).toNat) 0
theorem Zd4(rs:List Int):∀(ys:List Int)(c:Nat),ys.foldl (fun c w=>Nat.gcd c (rs.getD w.toNat 0).toNat) c ∣ c∧∀w∈ys,ys.foldl (fun c w=>Nat.gcd c (rs.getD w.toNat 0).toNat) c ∣ (rs.getD w.toNat 0).toNat
 | [],c=>⟨Nat.dvd_refl c,by simp⟩
 |w::ys,c=>by
  obtain⟨h1,h2⟩:=Zd4 rs ys (Nat.gcd c (rs.getD w.toNat 0).toNat);refine⟨Nat.dvd_trans h1 (Nat.gcd_dvd_left _ _),fun v hv=>?_⟩;rcases List.mem_cons.mp hv with z|z
  ·rw[z];exact Nat.dvd_trans h1 (Nat.gcd_dvd_right _ _)
  ·exact h2 v z
def UU(ls:List B5)(n:Nat)(rs:List Int):Prop:=∀(f:Int)(ys:List Int),0≤f→f<(n:Int)→f∈ys→(∀j<ls.length,((ls.getD j dB).giver∈ys↔(ls.getD j dB).taker∈ys))→Zjp rs ys=1
theorem ZiR{ls:List B5}{n:Nat}{F:List (Int×Fo.ZF)}{rs:List Int}(hwd:Fo.Wn (ZT ls) n F n)(hset:∀x∈F,Za2 ls x rs):UU ls n rs:=by
 intro f ys f0 f1 hf hc;obtain⟨x,hx,hk⟩:=hwd.all f f0 f1;obtain⟨hg,hgo,_,_⟩:=hwd.tree x hx;obtain⟨zs,hz,hrs⟩:=hset x hx;refine Zgk hg hz fun y hy=>?_;have hyk:y.1∈Fo.keys x.2:=by
  have h1:=hz.keys;have h2:(Fo.keys x.2).take x.2.length=Fo.keys x.2:=List.take_of_length_le (by simp[Fo.keys]);rw[h2] at h1;rw[←h1];exact List.mem_map.mpr ⟨y,hy,rfl⟩
 have h3:=(hg.keys_iff hgo y.1).mp hyk;have h4:=(hg.keys_iff hgo f).mp hk;have h5:y.1∈ys:=ZgK hc (Fo.Wo.trans (Fo.Wo.symm (Zal ls) h4) h3) hf;have h6:=(Zd4 rs ys 0).2 _ h5;have h7:=hrs y hy;have h8:rs.getD y.1.toNat 0=((lcmL zs / y.2.2*y.2.1:Nat):Int):=by rw[List.getD,h7];rfl
 rw[h8,Int.toNat_natCast] at h6;exact h6
def UT(ls:List B5)(f:Int)(ys:List Int):Prop:=∀P:Int→Prop,P f→(∀j<ls.length,P (ls.getD j dB).giver↔P (ls.getD j dB).taker)→∀w∈ys,P w
theorem UT.add{ls:List B5}{f a b:Int}{ys:List Int}(h:UT ls f ys)(hab:∀P:Int→Prop,(∀j<ls.length,P (ls.getD j dB).giver↔P (ls.getD j dB).taker)→P a→P b):UT ls f (addW a b ys):=fun P pf pj w hw=>by
 unfold addW at hw
 split at hw
 ·rename_i c;rcases List.mem_append.mp hw with z|z
  ·exact h P pf pj w z
  ·rw[List.mem_singleton.mp z];exact hab P pj (h P pf pj a c.1)
 ·exact h P pf pj w hw
def Zcj(ls:List B5)(ys:List Int):Prop:=∀j<ls.length,((ls.getD j dB).giver∈ys↔(ls.getD j dB).taker∈ys)
theorem ZbL.lap{ls:List B5}{n:Nat}{xs ys:List Int}(h:ZbL ls n ls.length xs ys):(Zcj ls xs∧ys=xs)∨xs.length<ys.length:=by
 obtain⟨zs,e⟩:=h.ext;have hl:ys.length=xs.length+zs.length:=by rw[e,List.length_append]
 by_cases z:zs.length=0
 ·have ey:ys=xs:=by rw[e,List.length_eq_zero_iff.mp z,List.append_nil]
  exact .inl ⟨h.cl (by omega),ey⟩
 ·exact .inr (by omega)
theorem ZbL.shut{ls:List B5}{n:Nat}{xs ys:List Int}(h:ZbL ls n ls.length xs ys)(sp:∀w∈ys,w∈xs):ys=xs:=by
 obtain⟨zs,e⟩:=h.ext;cases zs with
 |nil=>rw[e,List.append_nil]
 |cons z zs=>
  exfalso;have nd:=h.nd;rw[e] at nd sp;have:=(List.nodup_append.mp nd).2.2 z (sp z (by simp)) z (by simp);exact this rfl
theorem ZcF{ls:List B5}{c:Int→Int}:∀{ps:List (Int×Bool)}{a b:Int},YT (gvI ls) (tkI ls) a ps b→(∀x∈ps,c (gvI ls x.1)*(giN ls x.1:Int)=c (tkI ls x.1)*(taN ls x.1:Int))→c a*(prN (giN ls) (taN ls) ps:Int)=c b*(prN (taN ls) (giN ls) ps:Int)
 | [],_,_,h,_=>by
  have e:_=_:=h;rw[e]
  rfl
 |(x,al)::ps,a,b,h,k=>by
  have ih:=ZcF (ps:=ps) h.2 fun y hy=>k y (List.mem_cons_of_mem _ hy);have h1:=h.1;have k1:=k (x,al) (List.mem_cons_self ..);show c a*(((if al=true then giN ls x else taN ls x)*prN (giN ls) (taN ls) ps:Nat):Int)=c b*(((if al=true then taN ls x else giN ls x)*prN (taN ls) (giN ls) ps:Nat):Int);rw[Int.natCast_mul,Int.natCast_mul,←h1];dsimp only at k1;cases al with
  |true=>
   show c (gvI ls x)*((giN ls x:Int)*_)=c b*((taN ls x:Int)*_);have ih':c (tkI ls x)*(prN (giN ls) (taN ls) ps:Int)=c b*(prN (taN ls) (giN ls) ps:Int):=ih
   calc c (gvI ls x)*((giN ls x:Int)*(prN (giN ls) (taN ls) ps:Int))=c (gvI ls x)*(giN ls x:Int)*(prN (giN ls) (taN ls) ps:Int):=by rw[Int.mul_assoc]
    _=(taN ls x:Int)*(c (tkI ls x)*(prN (giN ls) (taN ls) ps:Int)):=by rw[k1];simp only[Int.mul_comm,Int.mul_left_comm,Int.mul_assoc]
    _=c b*((taN ls x:Int)*(prN (taN ls) (giN ls) ps:Int)):=by rw[ih'];simp only[Int.mul_comm,Int.mul_left_comm,Int.mul_assoc]
  |false=>
   show c (tkI ls x)*((taN ls x:Int)*_)=c b*((giN ls x:Int)*_);have ih':c (gvI ls x)*(prN (giN ls) (taN ls) ps:Int)=c b*(prN (taN ls) (giN ls) ps:Int):=ih
   calc c (tkI ls x)*((taN ls x:Int)*(prN (giN ls) (taN ls) ps:Int))=c (tkI ls x)*(taN ls x:Int)*(prN (giN ls) (taN ls) ps:Int):=by rw[Int.mul_assoc]
    _=(giN ls x:Int)*(c (gvI ls x)*(prN (giN ls) (taN ls) ps:Int)):=by rw[←k1];simp only[Int.mul_comm,Int.mul_left_comm,Int.mul_assoc]
    _=c b*((giN ls x:Int)*(prN (taN ls) (giN ls) ps:Int)):=by rw[ih'];simp only[Int.mul_comm,Int.mul_left_comm,Int.mul_assoc]
theorem Zf6{ls:List B5}{n:Nat}{ring:List (Int×Bool)}(hok:Zdq ls ring)(hbt:ZE ls n)(hsz:YZ ls){cs:List Int}(hp:∀w:Int,0≤w→w<(n:Int)→0<cs.getD w.toNat 0):∃x∈ring,Wy cs (ls.getD x.1.toNat dB)≠0:=by
 refine Classical.byContradiction fun hno=>?_;obtain⟨a,hw⟩:=hok.walk;have h1:=ZcF (c:=fun w=>cs.getD w.toNat 0) hw fun x hx=>by
  have h0:Wy cs (ls.getD x.1.toNat dB)=0:=Classical.byContradiction fun z=>hno ⟨x,hx,z⟩;obtain⟨x0,x1⟩:=hok.rg x hx;obtain⟨gv,tk,g0,t0,gl,tl,eg,et⟩:=hsz x.1.toNat (by omega);unfold Wy at h0;unfold giN taN gvI tkI;rw[eg,et] at h0⊢;rw[Int.toNat_natCast,Int.toNat_natCast];omega
 apply hok.odd;have ha:0<cs.getD a.toNat 0:=by
  cases ring with
  |nil=>exact absurd rfl hok.some_
  |cons x ps=>
   have e:Zb0 (gvI ls) (tkI ls) x=a:=hw.1;obtain⟨x0,x1⟩:=hok.rg x (List.mem_cons_self ..);obtain⟨b1,b2,b3,b4⟩:=hbt.at (i:=x.1.toNat) (by omega);rw[←e];unfold Zb0 gvI tkI
   split
   ·exact hp _ b1 b2
   ·exact hp _ b3 b4
 exact Int.ofNat.inj (Int.eq_of_mul_eq_mul_left (show cs.getD a.toNat 0≠0 by omega) h1)
def Vw(rs ss:List Int):Prop:=rs.length=ss.length∧∀i<rs.length,ss.getD i 0≤rs.getD i 0
theorem Zbn{f:Nat→Bool}:∀{is:List Nat}{ys:List V},Paired (fun i v=>v=V.bl (f i)) is ys→ys=(is.map f).map V.bl
 |_,_,.nil=>rfl
 |_,_,.cons a r=>by rw[a,Zbn r];rfl
theorem Zd7{n:Nat}{P:Nat→Prop}[∀i,Decidable (P i)]:(((List.range n).map fun i=>decide (P i)).all id)=true↔∀i<n,P i:=by
 simp
noncomputable def Zca (b:B5) (r:Int):B5:=⟨b.taker,b.giver,b.take,b.give,r-b.start⟩
noncomputable def ZK (ls:List B5) (rs:List Int):List B5:=(List.range ls.length).map fun i=>Zca (ls.getD i dB) (rs.getD i 0)
theorem We{ls:List B5}{rs:List Int}:(ZK ls rs).length=ls.length:=by simp[ZK]
theorem ZbW{ls:List B5}{rs:List Int}{j:Nat}(h:j<ls.length):(ZK ls rs)[j]'(by rw[We];exact h)=Zca ls[j] (rs.getD j 0):=by simp[ZK,List.getD,h]
theorem Zb7{H:Hp}{f:Nat→B5}:∀{is:List Nat}{ys:List V},Paired (fun i v=>∃u,v=V.ref u∧H u=some (.tup (f i).v)) is ys→ZS H ys (is.map f)
 |_,_,.nil=> .nil
 |_,_,.cons a r=> .cons a (Zb7 r)
theorem ZS.app{H:Hp}:∀{bs cs:List V}{ls ks:List B5},ZS H bs ls→ZS H cs ks→ZS H (bs++cs) (ls++ks)
 |_,_,_,_,.nil,h=>h
 |_,_,_,_,.cons x r,h=> .cons x (ZS.app r h)
def ZaP(nms:List Str):Prop:=nms.Nodup∧(∀x∈nms,Yt x=true)∧nms.length≤30
theorem ZbS{ls:List B5}{n:Nat}{ring:List (Int×Bool)}{z:Int→Nat}(hok:Zdq ls ring)(hbt:ZE ls n)(hsz:YZ ls)(hz:ZgE ls z):False:=by
 have hg:∀w:Int,0≤w→w<(n:Int)→((List.range n).map fun v:Nat=>(z (v:Int):Int)).getD w.toNat 0=(z w:Int):=fun w h0 h1=>by
  have:w.toNat<n:=by omega
  have e:((w.toNat:Nat):Int)=w:=by omega
  simp[List.getD,this,e]
 obtain⟨x,hx,hc⟩:=Zf6 hok hbt hsz (cs:=(List.range n).map fun v:Nat=>(z (v:Int):Int)) (fun w h0 h1=>by rw[hg w h0 h1];have:=hz.pos w;omega);refine hc ?_;obtain⟨x0,x1⟩:=hok.rg x hx;have hi:x.1.toNat<ls.length:=by omega
 obtain⟨gv,tk,g0,t0,gl,tl,eg,et⟩:=hsz _ hi;obtain⟨b1,b2,b3,b4⟩:=hbt.at hi;have hb:=hz.bal _ hi;unfold Wy;rw[hg _ b1 b2,hg _ b3 b4];rw[eg,et] at hb⊢;rw[Int.toNat_natCast,Int.toNat_natCast] at hb;have hb':((gv*z (ls.getD x.1.toNat dB).giver:Nat):Int)=((tk*z (ls.getD x.1.toNat dB).taker:Nat):Int):=by rw[hb]
 rw[Int.natCast_mul,Int.natCast_mul] at hb';rw[Int.mul_comm (z _:Int),Int.mul_comm (z (ls.getD x.1.toNat dB).taker:Int)];omega
section
variable {ls:List B5}{n:Nat}{rs rs' rm:List Int}{z z':Int→Nat}
theorem Zbr{b:B5}(h:b∈ZK ls rm):∃(j:Nat)(hj:j<ls.length),b=Zca ls[j] (rm.getD j 0):=by
 obtain⟨j,hj,rfl⟩:=List.getElem_of_mem h;have hj':j<ls.length:=by rw[We] at hj;exact hj
 exact⟨j,hj',ZbW hj'⟩
theorem ZeA(h:ZE ls n):ZE (ls++ZK ls rm) n:=fun b hb=>by
 rcases List.mem_append.mp hb with y|y
 ·exact h b y
 ·obtain⟨j,hj,rfl⟩:=Zbr y;have:=h _ (List.getElem_mem hj);exact⟨this.2.2.1,this.2.2.2,this.1,this.2.1⟩
theorem Zga(h:YZ ls):YZ (ls++ZK ls rm):=fun i hi=>by
 rw[ZH hi];rcases Nat.lt_or_ge i ls.length with y|y
 ·have:=h i y;rw[ZH y] at this;rw[List.getElem_append_left y];exact this
 ·rw[List.getElem_append_right y];have hi':i-ls.length<ls.length:=by rw[List.length_append,We] at hi;omega
  have:=h _ hi';rw[ZH hi'] at this;rw[ZbW hi'];obtain⟨a,b,c,d,e,f,g,k⟩:=this;exact⟨b,a,d,c,f,e,k,g⟩
theorem ZiB(h:U4 ls rs):U4 (ls++ZK ls rm) rs:=fun b hb=>by
 rcases List.mem_append.mp hb with y|y
 ·exact h b y
 ·obtain⟨j,hj,rfl⟩:=Zbr y;exact(h _ (List.getElem_mem hj)).symm
noncomputable def Zcm (rs:List Int) (w:Int):Nat:=if 0<(rs.getD w.toNat 0).toNat then(rs.getD w.toNat 0).toNat else 1
theorem ZbM(hbt:ZE ls rs.length)(hsz:YZ ls)(hpos:∀r∈rs,1≤r)(hb:U4 ls rs):ZgE ls (Zcm rs):=by
 have hz:∀w:Int,0≤w→w<(rs.length:Int)→((Zcm rs w:Nat):Int)=rs.getD w.toNat 0:=fun w a b=>by
  have h1:1≤rs.getD w.toNat 0:=by rw[ZH (by omega)];exact hpos _ (List.getElem_mem _)
  unfold Zcm;rw[if_pos (by omega)];omega
 refine⟨fun w=>by unfold Zcm;split<;>omega,fun i hi=>?_⟩;obtain⟨gv,tk,g0,t0,gl,tl,eg,et⟩:=hsz i hi;obtain⟨b1,b2,b3,b4⟩:=hbt.at hi;have h1:=hb (ls.getD i dB) (by rw[ZH hi];exact List.getElem_mem hi);rw[←hz _ b1 b2,←hz _ b3 b4,eg,et] at h1;rw[eg,et,Int.toNat_natCast,Int.toNat_natCast];have:((gv*Zcm rs (ls.getD i dB).giver:Nat):Int)=((tk*Zcm rs (ls.getD i dB).taker:Nat):Int):=by rw[Int.natCast_mul,Int.natCast_mul];exact h1
 exact Int.ofNat.inj this
theorem Zfm{rs rs':List Int}{a b:Nat}:∀(ys:List Int)(c e:Nat),c*b=a*e→(∀v∈ys,(rs.getD v.toNat 0).toNat*b=a*(rs'.getD v.toNat 0).toNat)→ys.foldl (fun c w=>Nat.gcd c (rs.getD w.toNat 0).toNat) c*b=a*ys.foldl (fun c w=>Nat.gcd c (rs'.getD w.toNat 0).toNat) e
 | [],c,e,h,_=>h
 |v::ys,c,e,h,q=>by
  refine Zfm ys _ _ ?_ fun w hw=>q w (by simp[hw]);rw[←Nat.gcd_mul_right,h,q v (by simp),Nat.gcd_mul_left]
theorem ZhM(hbt:ZE ls n)(hsz:YZ ls)(hl:rs.length=n)(hl':rs'.length=n)(q1:∀r∈rs,1≤r)(q2:∀r∈rs',1≤r)(k1:U4 ls rs)(k2:U4 ls rs')(l1:UU ls n rs)(l2:UU ls n rs'):rs'=rs:=by
 have hp:∀{xs:List Int},xs.length=n→(∀r∈xs,1≤r)→∀v:Nat,v<n→1≤xs.getD v 0:=fun{xs} e q v hv=>by
  rw[ZH (by rw[e];exact hv)];exact q _ (List.getElem_mem _)
 refine List.ext_getElem (by rw[hl,hl']) fun w a1 a2=>?_;have hw:w<n:=by rw[←hl];exact a2
 rw[←ZH (d:=0) a1,←ZH (d:=0) a2]
 classical
 obtain⟨ys,hys⟩:∃ys:List Int,∀v:Int,v∈ys↔(0≤v∧v<(n:Int))∧Fo.Wo (ZT ls) w v:=by
  refine⟨((List.range n).map fun v:Nat=>(v:Int)).filter fun v=>decide (Fo.Wo (ZT ls) (w:Int) v),fun v=>?_⟩;simp only[List.mem_filter,List.mem_map,List.mem_range,decide_eq_true_eq]
  constructor
  ·rintro⟨⟨u,hu,rfl⟩,hh⟩;exact⟨⟨by omega,by omega⟩,hh⟩
  ·rintro⟨⟨a,b⟩,hh⟩;exact⟨⟨v.toNat,by omega,by omega⟩,hh⟩
 have cl:∀j<ls.length,((ls.getD j dB).giver∈ys↔(ls.getD j dB).taker∈ys):=fun j hj=>by
  obtain⟨b1,b2,b3,b4⟩:=hbt.at hj;rw[hys,hys]
  constructor
  ·rintro⟨_,hh⟩;exact⟨⟨b3,b4⟩,.step hh (Vr hj (Ye.mpr (.inl ⟨rfl,rfl⟩)))⟩
  ·rintro⟨_,hh⟩;exact⟨⟨b1,b2⟩,.step hh (Vr hj (Ye.mpr (.inr ⟨rfl,rfl⟩)))⟩
 have hw0:(w:Int)∈ys:=(hys _).mpr ⟨⟨by omega,by omega⟩,.refl⟩;have g1:=l1 (w:Int) ys (by omega) (by omega) hw0 cl;have g2:=l2 (w:Int) ys (by omega) (by omega) hw0 cl;have key:∀v,Fo.Wo (ZT ls) (w:Int) v→(rs.getD v.toNat 0).toNat*(rs'.getD w 0).toNat=(rs.getD w 0).toNat*(rs'.getD v.toNat 0).toNat:=by
  intro v hv
  induction hv with
  |refl=>rw[Int.toNat_natCast]
  | @step b c t al _ m ih=>
   obtain⟨i,hi,hm⟩:=W3 m;have hB:=k1 (ls.getD i dB) (by rw[ZH hi];exact List.getElem_mem hi);have hB':=k2 (ls.getD i dB) (by rw[ZH hi];exact List.getElem_mem hi);obtain⟨gv,tk,g0,t0,_,_,eg,et⟩:=hsz i hi;obtain⟨b1,b2,b3,b4⟩:=hbt.at hi;have hm':=Ye.mp hm;generalize ls.getD i dB=bb at*;have p1:=hp hl q1 bb.giver.toNat (by omega);have p2:=hp hl q1 bb.taker.toNat (by omega);have p3:=hp hl' q2 bb.giver.toNat (by omega);have p4:=hp hl' q2 bb.taker.toNat (by omega);obtain⟨A,eA⟩:∃A:Nat,rs.getD bb.giver.toNat 0=(A:Int):=⟨(rs.getD bb.giver.toNat 0).toNat,by omega⟩;obtain⟨B,eB⟩:∃B:Nat,rs.getD bb.taker.toNat 0=(B:Int):=⟨(rs.getD bb.taker.toNat 0).toNat,by omega⟩;obtain⟨A',eA'⟩:∃A:Nat,rs'.getD bb.giver.toNat 0=(A:Int):=⟨(rs'.getD bb.giver.toNat 0).toNat,by omega⟩;obtain⟨B',eB'⟩:∃B:Nat,rs'.getD bb.taker.toNat 0=(B:Int):=⟨(rs'.getD bb.taker.toNat 0).toNat,by omega⟩;rw[eA,eB,eg,et] at hB;rw[eA',eB',eg,et] at hB';have hB1:gv*A=tk*B:=by exact_mod_cast hB
   have hB2:gv*A'=tk*B':=by exact_mod_cast hB'
   generalize (rs'.getD w 0).toNat=R at*;generalize (rs.getD w 0).toNat=S at*;rcases hm' with⟨x1,x2⟩|⟨x1,x2⟩
   ·have x3:=congrArg Prod.fst x2;dsimp only at x3;rw[←x1,eA,eA'] at ih;rw[x3,eB,eB'];simp only[Int.toNat_natCast] at ih⊢;refine Nat.eq_of_mul_eq_mul_left t0 ?_
    calc tk*(B*R)=gv*A*R:=by rw[hB1,Nat.mul_assoc]
     _=gv*(A*R):=Nat.mul_assoc _ _ _
     _=gv*(S*A'):=by rw[ih]
     _=S*(gv*A'):=Nat.mul_left_comm _ _ _
     _=tk*(S*B'):=by rw[hB2,Nat.mul_left_comm]
   ·have x3:=congrArg Prod.fst x2;dsimp only at x3;rw[←x1,eB,eB'] at ih;rw[x3,eA,eA'];simp only[Int.toNat_natCast] at ih⊢;refine Nat.eq_of_mul_eq_mul_left g0 ?_
    calc gv*(A*R)=tk*B*R:=by rw[←hB1,Nat.mul_assoc]
     _=tk*(B*R):=Nat.mul_assoc _ _ _
     _=tk*(S*B'):=by rw[ih]
     _=S*(tk*B'):=Nat.mul_left_comm _ _ _
     _=gv*(S*A'):=by rw[←hB2,Nat.mul_left_comm]
 have h2:=Zfm (rs:=rs) (rs':=rs') ys 0 0 (by simp) fun v hv=>key v ((hys v).mp hv).2;have h3:Zjp rs ys*(rs'.getD w 0).toNat=(rs.getD w 0).toNat*Zjp rs' ys:=h2;rw[g1,g2,Nat.one_mul,Nat.mul_one] at h3;have p1:=hp hl q1 w hw;have p2:=hp hl' q2 w hw;omega
end
noncomputable def Yh (E:List (Nat×Nat)) (n w:Nat):Nat:=Pc.YG E n (fun i=>i) w
noncomputable def VT (E:List (Nat×Nat)) (n f:Nat):List Int:=((List.range n).filter fun w=>decide (Yh E n w=f)).map fun w:Nat=>(w:Int)
noncomputable def ZeZ (E:List (Nat×Nat)) (n:Nat):List (List Int):=((List.range n).map (VT E n)).filter fun xs=>decide (xs≠[])
noncomputable def ZN (ls:List B5):List (Nat×Nat):=ls.map fun b=>(b.giver.toNat,b.taker.toNat)
theorem U2{ls:List B5}{n:Nat}(h:ZE ls n):∀e∈ZN ls,e.1<n∧e.2<n:=by
 intro e he;obtain⟨b,hb,rfl⟩:=List.mem_map.mp he;have:=h b hb;dsimp only;omega
theorem ZbO{ls:List B5}{n:Nat}(hb:ZE ls n){a b:Int}(ha:0≤a)(h:Fo.Wo (ZT ls) a b):Pc.Z5 (ZN ls) a.toNat b.toNat:=by
 induction h with
 |refl=>exact .refl _
 |step _ e ih=>
  obtain⟨i,hi,hm⟩:=W3 e;have hr:=hb.at hi;have hmem:((ls.getD i dB).giver.toNat,(ls.getD i dB).taker.toNat)∈ZN ls:=List.mem_map.mpr ⟨ls.getD i dB,by rw[ZH hi];exact List.getElem_mem hi,rfl⟩;rw[Ye] at hm;rcases hm with⟨h1,h2⟩|⟨h1,h2⟩
  ·injection h2 with e1 _
   rw[e1];rw[←h1] at ih;exact .fwd ih hmem
  ·injection h2 with e1 _
   rw[e1];rw[←h1] at ih;exact .bwd ih hmem
theorem ZbV{ls:List B5}{n:Nat}(hb:ZE ls n){a b:Nat}(h:Pc.Z5 (ZN ls) a b):Fo.Wo (ZT ls) (a:Int) (b:Int):=by
 induction h with
 |refl=>exact .refl
 |fwd _ e ih=>
  obtain⟨x,hx,e2⟩:=List.mem_map.mp e;obtain⟨i,hi,rfl⟩:=List.getElem_of_mem hx;have hr:=hb _ hx
  injection e2 with e3 e4
  refine .step (t:=(i:Int)) (al:=true) ih (Vr hi ?_);rw[Ye,ZH hi];exact .inl ⟨by omega,by congr 1;omega⟩
 |bwd _ e ih=>
  obtain⟨x,hx,e2⟩:=List.mem_map.mp e;obtain⟨i,hi,rfl⟩:=List.getElem_of_mem hx;have hr:=hb _ hx
  injection e2 with e3 e4
  refine .step (t:=(i:Int)) (al:=false) ih (Vr hi ?_);rw[Ye,ZH hi];exact .inr ⟨by omega,by congr 1;omega⟩
theorem ZcX{E:List (Nat×Nat)}{n:Nat}(hE:∀e∈E,e.1<n∧e.2<n){a b:Nat}(ha:a<n)(hb:b<n)(h:Pc.Z5 E a b):Yh E n a=Yh E n b:=by
 obtain⟨c1,l1⟩:=Pc.Wj hE ha;obtain⟨c2,l2⟩:=Pc.Wj hE hb;have h1:=l1 _ (h.trans c2);have h2:=l2 _ (h.symm.trans c1);unfold Yh;omega
theorem Zln{E:List (Nat×Nat)}{n:Nat}(hE:∀e∈E,e.1<n∧e.2<n){a:Nat}(ha:a<n):Yh E n a<n:=(Pc.Wj hE ha).1.lt hE ha
theorem ZgF{E:List (Nat×Nat)}{n:Nat}(hE:∀e∈E,e.1<n∧e.2<n){a:Nat}(ha:a<n):Yh E n (Yh E n a)=Yh E n a:=(ZcX hE ha (Zln hE ha) (Pc.Wj hE ha).1).symm
theorem ZlL{E:List (Nat×Nat)}{n f:Nat}(hE:∀e∈E,e.1<n∧e.2<n)(hf:f<n):decide (VT E n f≠[])=decide (Yh E n f=f):=by
 rw[decide_eq_decide]
 constructor
 ·intro h;obtain⟨x,hx⟩:=List.exists_mem_of_ne_nil _ h;obtain⟨w,hw,_⟩:=List.mem_map.mp hx;obtain⟨h1,h2⟩:=List.mem_filter.mp hw;have h3:Yh E n w=f:=of_decide_eq_true h2;rw[←h3];exact ZgF hE (List.mem_range.mp h1)
 ·intro h;refine List.ne_nil_of_mem (a:=(f:Int)) (List.mem_map.mpr ⟨f,List.mem_filter.mpr ⟨List.mem_range.mpr hf,decide_eq_true h⟩,rfl⟩)
theorem ZgJ{E:List (Nat×Nat)}{n:Nat}(hE:∀e∈E,e.1<n∧e.2<n):ZeZ E n=((List.range n).filter fun f=>decide (Yh E n f=f)).map (VT E n):=by
 unfold ZeZ;rw[List.filter_map]
 congr 1
 refine List.filter_congr fun f hf=>?_;exact ZlL hE (List.mem_range.mp hf)
theorem Zea{xs:List Nat}(h:xs.Pairwise (· < ·)):(xs.map fun w:Nat=>(w:Int)).Pairwise (· ≤·):=by
 rw[List.pairwise_map];exact h.imp fun h=>by omega
theorem WO(n:Nat)(c:Nat→Bool):((List.range n).filter c).Pairwise (· < ·):=List.Pairwise.sublist List.filter_sublist List.pairwise_lt_range
theorem Zbf{xs:List Nat}(h:xs.Pairwise (· < ·)):xs.Nodup:=h.imp fun h=>Nat.ne_of_lt h
theorem ZdZ{xs ys:List Int}(h1:xs.Pairwise (· ≤·))(h2:ys.Pairwise (· ≤·))(p:xs.Perm ys):xs=ys:=List.Perm.eq_of_pairwise (le:=(· ≤·)) (fun a b _ _ h k=>Int.le_antisymm h k) h1 h2 p
theorem ZbN{ls:List B5}{n:Nat}(hb:ZE ls n){F:List (Int×Fo.ZF)}(hw:Fo.Wn (ZT ls) n F n){x:Int×Fo.ZF}(hx:x∈F):Yh (ZN ls) n x.1.toNat=x.1.toNat:=by
 have hE:=U2 hb;obtain⟨g,gg,g0,g1⟩:=hw.tree x hx;have hl:=Pc.Wj hE (w:=x.1.toNat) (by omega);have h1:=hl.2 _ (.refl _);have h2:=hw.least x hx ((Yh (ZN ls) n x.1.toNat:Nat):Int) ((g.keys_iff gg _).mpr (by
  have:=ZbV hb hl.1;rw[Int.toNat_of_nonneg g0] at this;exact this))
 unfold Yh at h2⊢;omega
theorem Zjj{ls:List B5}{n:Nat}(hb:ZE ls n){F:List (Int×Fo.ZF)}(hw:Fo.Wn (ZT ls) n F n){x:Int×Fo.ZF}(hx:x∈F){xs:List Int}(hp:xs.Perm (Fo.keys x.2))(hr:xs.Pairwise (· ≤·)):xs=VT (ZN ls) n x.1.toNat:=by
 have hE:=U2 hb;obtain⟨g,gg,g0,g1⟩:=hw.tree x hx;refine ZdZ hr (Zea (WO _ _)) (hp.trans ?_);refine(List.perm_ext_iff_of_nodup g.nodup (List.Pairwise.map _ (fun a b h=>by omega) (WO _ _))).mpr fun w=>?_;rw[g.keys_iff gg w]
 constructor
 ·intro h;have hr:=(g.rg ⟨g0,g1⟩ (W5 hb)) w ((g.keys_iff gg w).mpr h);refine List.mem_map.mpr ⟨w.toNat,List.mem_filter.mpr ⟨List.mem_range.mpr (by omega),decide_eq_true ?_⟩,by omega⟩;rw[←ZcX hE (by omega) (by omega) (ZbO hb g0 h)];exact ZbN hb hw hx
 ·intro h;obtain⟨v,hv,rfl⟩:=List.mem_map.mp h;obtain⟨h1,h2⟩:=List.mem_filter.mp hv;have h3:Yh (ZN ls) n v=x.1.toNat:=of_decide_eq_true h2;have hc:=(Pc.Wj hE (List.mem_range.mp h1)).1;have hc2:Pc.Z5 (ZN ls) v x.1.toNat:=by rw[←h3];exact hc
  have:=ZbV hb hc2.symm;rw[Int.toNat_of_nonneg g0] at this;exact this
theorem ZdW{f:Int×Fo.ZF→List Int}:∀{xss:List (List Int)}{F:List (Int×Fo.ZF)},ZeJ xss F→(∀x∈F,∀xs:List Int,xs.Perm (Fo.keys x.2)→xs.Pairwise (· ≤·)→xs=f x)→xss=F.map f
 |_,_,.nil,_=>rfl
 |_,_,.cons ⟨h1,h2⟩ r,h=>by rw[h _ (by simp) _ h1 h2,ZdW r fun x hx=>h x (List.mem_cons_of_mem _ hx)];rfl
theorem ZaT{ls:List B5}{n:Nat}(hb:ZE ls n){F:List (Int×Fo.ZF)}(hw:Fo.Wn (ZT ls) n F n){xss:List (List Int)}(hs:ZeJ xss F):xss=ZeZ (ZN ls) n:=by
 have hE:=U2 hb;rw[ZgJ hE,ZdW hs fun x hx xs hp hr=>Zjj hb hw hx hp hr];have e:F.map (fun x=>VT (ZN ls) n x.1.toNat)=(F.map fun x=>x.1.toNat).map (VT (ZN ls) n):=by rw[List.map_map];rfl
 rw[e]
 congr 1
 have p1:(F.map fun x=>x.1.toNat).Pairwise (· < ·):=by
  rw[List.pairwise_map];refine List.Pairwise.imp_of_mem (fun{x y} hx hy h=>?_) hw.rise;have h1:=(hw.tree x hx).2.2.1;omega
 refine List.Perm.eq_of_pairwise (le:=(· < ·)) (fun a b _ _ h k=>absurd h (by omega)) p1 (WO _ _) ((List.perm_ext_iff_of_nodup (Zbf p1) (Zbf (WO _ _))).mpr fun f=>?_)
 constructor
 ·intro h;obtain⟨x,hx,rfl⟩:=List.mem_map.mp h;obtain⟨_,_,g0,g1⟩:=hw.tree x hx;exact List.mem_filter.mpr ⟨List.mem_range.mpr (by omega),decide_eq_true (ZbN hb hw hx)⟩
 ·intro h;obtain⟨h1,h2⟩:=List.mem_filter.mp h;have hf:=List.mem_range.mp h1;have h3:Yh (ZN ls) n f=f:=of_decide_eq_true h2;obtain⟨x,hx,hk⟩:=hw.all (f:Int) (by omega) (by omega);obtain⟨g,gg,g0,g1⟩:=hw.tree x hx;have hc:=ZbO hb g0 ((g.keys_iff gg _).mp hk);rw[Int.toNat_natCast] at hc;have:=ZcX hE (by omega) hf hc;rw[ZbN hb hw hx,h3] at this;exact List.mem_map.mpr ⟨x,hx,this⟩
noncomputable def UE (xss:List (List Int)):List PyData:=xss.map fun xs=> .list (xs.map PyData.int)
theorem Zfn:∀xss:List (List Int),PyData.canLayAll0 (UE xss)=true
 | []=>by simp[UE,PyData.canLayAll0]
 |xs::xss=>by
  have h1:=Zfn xss;have h2:=Zam xs;unfold UE at h1⊢;rw[List.map_cons,PyData.canLayAll0,h2,h1]
  rfl
theorem Wi(xss:List (List Int)):(PyData.list (UE xss)).canLay0=true:=by
 rw[PyData.canLay0];exact Zfn xss
theorem Zdr:∀xss:List (List Int),PyData.depthAll (UE xss)≤3
 | []=>by simp[UE,PyData.depthAll]
 |xs::xss=>by
  have h1:=Zdr xss;have h2:=Za7 xs;unfold UE at h1⊢;simp only[List.map_cons,PyData.depthAll,PyData.depth] at h1⊢;omega
theorem Zaw(xss:List (List Int)):(PyData.list (UE xss)).depth≤60:=by
 have:=Zdr xss;simp only[PyData.depth];omega
theorem Vs{K:PySem.W.Frag}{H:Hp}:∀{ys:List V}{xss:List (List Int)},Yw H ys xss→DRels K H ys (UE xss)
 |_,_,.nil=> .nil
 |_,_,.cons ⟨t,e,h⟩ r=>by rw[e];exact .cons (Y0.ints (.of h)) (Vs r)
theorem ZdP{K:PySem.W.Frag}{H:Hp}:∀bs:List Bool,DRels K H (bs.map V.bl) (bs.map PyData.bool)
 | []=> .nil
 |b::bs=> .cons (.bl b) (ZdP bs)
theorem ZgG:∀bs:List Bool,PyData.canLayAll0 (bs.map PyData.bool)=true
 | []=>by simp[PyData.canLayAll0]
 |b::bs=>by
  have:=ZgG bs;simp[PyData.canLayAll0,PyData.canLay0] at this⊢;exact this
theorem ZcQ(bs:List Bool):(PyData.list (bs.map PyData.bool)).canLay0=true:=by
 have:=ZgG bs;simp[PyData.canLay0];simpa using this
theorem Zej:∀bs:List Bool,PyData.depthAll (bs.map PyData.bool)≤1
 | []=>by simp[PyData.depthAll]
 |b::bs=>by
  have:=Zej bs;simp[PyData.depthAll,PyData.depth] at this⊢;exact this
theorem ZhH(bs:List Bool):(PyData.list (bs.map PyData.bool)).depth≤60:=by
 have:=Zej bs;simp only[PyData.depth];omega
theorem Zmq{K:PySem.W.Frag}{H:Hp}{Q:VK}{p q:Addr}{bs:List Bool}(h1:H p=some (.lst (bs.map V.bl)))(h2:H q=some (.lst (bs.map V.bl)))(k:Q (.bl true) H):rOr rEq (Uw K false) (.ref p) (.ref q) H Q:=
 Rd.ZgO (.lst (.of h1) (ZdP bs)) (.lst (.of h2) (ZdP bs)) (ZcQ bs) (ZcQ bs) (ZhH bs) (by rw[SeqAt.eqv_refl _ (ZcQ bs)];exact k)
theorem ZfN:∀ns:List Str,(∀n∈ns,PyData.strOk n=true)→PyData.canLayAll0 (ns.map PyData.str)=true
 | [],_=>by simp[PyData.canLayAll0]
 |n::ns,h=>by
  have:=ZfN ns fun m hm=>h m (List.mem_cons_of_mem _ hm);have h0:=h n (by simp);simp[PyData.canLayAll0,PyData.canLay0] at this⊢;exact⟨h0,this⟩
theorem ZbZ(ns:List Str)(h:∀n∈ns,PyData.strOk n=true):(PyData.list (ns.map PyData.str)).canLay0=true:=by
 have:=ZfN ns h;simp[PyData.canLay0];simpa using this
theorem ZcZ:∀ns:List Str,PyData.depthAll (ns.map PyData.str)≤1
 | []=>by simp[PyData.depthAll]
 |n::ns=>by
  have:=ZcZ ns;simp[PyData.depthAll,PyData.depth] at this⊢;exact this
theorem Zf7(ns:List Str):(PyData.list (ns.map PyData.str)).depth≤60:=by
 have:=ZcZ ns;simp only[PyData.depth];omega
theorem ZcM{K:PySem.W.Frag}{H:Hp}:∀ns:List Str,DRels K H (ns.map V.str) (ns.map PyData.str)
 | []=> .nil
 |n::ns=> .cons (.str n) (ZcM ns)
section
variable {K:PySem.W.Frag}{H:Hp}{Q:VK}
theorem Zdo{p q:Addr}{ns:List Str}(ok:∀n∈ns,PyData.strOk n=true)(h1:SqL K H p (ns.map V.str))(h2:SqL K H q (ns.map V.str))(k:Q (.bl false) H):rOr rNe (Uw K true) (.ref p) (.ref q) H Q:=
 Rd.Zb3 (.lst h1 (ZcM ns)) (.lst h2 (ZcM ns)) (ZbZ ns ok) (ZbZ ns ok) (Zf7 ns) (by rw[SeqAt.eqv_refl _ (ZbZ ns ok)];exact k)
end
theorem ZhL(x:Str):Yt x=true↔1≤x.length∧x.length≤8∧∀c∈x.cps.toList,97≤c∧c≤122:=by
 unfold Yt;simp only[Bool.and_eq_true,decide_eq_true_eq,List.all_eq_true];exact⟨fun h=>⟨h.1.1,h.1.2,h.2⟩,fun h=>⟨⟨h.1,h.2.1⟩,h.2.2⟩⟩
theorem Zdx{x:Str}(h:Yt x=true):PyData.strOk x=true:=by
 obtain⟨_,_,h3⟩:=(ZhL x).mp h;unfold PyData.strOk;rw[Array.all_eq_true];intro i hi;have:=h3 x.cps[i] (by simp);exact decide_eq_true (by omega)
structure Zgt(m:Int)(b:B5):Prop where
 rg:0≤b.giver∧b.giver<m∧0≤b.taker∧b.taker<m
 sz:1≤b.give∧1≤b.take
 st:0≤b.start
noncomputable def nm17 (i:Nat):Str:=(⟨#[97+7*i % 26]⟩++⟨#[97+11*i % 26]⟩)++Txt.mul "x" ((i:Int) / 26)
theorem ZgA:∀i<30,Yt (nm17 i)=true:=by decide+kernel
theorem ZfK:∀i<30,nm17 i∉(List.range i).map nm17:=by decide+kernel
theorem Zh4:∀i<26,("abcdefghijklmnopqrstuvwxyz" :Str).cps.toList[i]? =some (97+i):=by decide+kernel
theorem Zkj:("abcdefghijklmnopqrstuvwxyz" :Str).length≤sizeLine:=by decide+kernel
theorem Znk{n:Int}(h:n=0∨n=1):MulOk "x" n∧(Txt.mul "x" n).length≤1:=by
 rcases h with rfl|rfl
 ·exact⟨⟨by decide,fun h=>absurd (by decide) h,fun h=>absurd (by decide) h⟩,by decide+kernel⟩
 ·exact⟨⟨by decide,fun _ h=>absurd h (by decide),fun _ h=>absurd h (by decide)⟩,by decide+kernel⟩
theorem ZlE{xs:List V}{b:Int}(h:0≤b):Y3 xs none (some b)=xs.take b.toNat:=by
 obtain⟨m,rfl⟩:=Int.eq_ofNat_of_zero_le h;have e1:HT.sIx xs.length 0 none=0:=by simp[HT.sIx]
 have e2:HT.sIx xs.length xs.length (some (m:Int))=min m xs.length:=by
  simp only[HT.sIx];rw[if_neg (by omega)];simp
 unfold Y3;rw[e1,e2,List.drop_zero,Nat.sub_zero,Int.toNat_natCast];rcases Nat.lt_or_ge m xs.length with c|c
 ·rw[Nat.min_eq_left (Nat.le_of_lt c)]
 ·rw[Nat.min_eq_right c,List.take_of_length_le (Nat.le_refl _),List.take_of_length_le c]
theorem ZeQ{xs:List V}{k:Nat}(h:k≤xs.length):Y3 xs (some (k:Int)) none=xs.drop k:=by
 have e1:HT.sIx xs.length 0 (some (k:Int))=k:=by
  simp only[HT.sIx];rw[if_neg (by omega)];simp;omega
 have e2:HT.sIx xs.length xs.length none=xs.length:=by simp[HT.sIx]
 unfold Y3;rw[e1,e2,List.take_of_length_le (by rw[List.length_drop];exact Nat.le_refl _)]
theorem ZcI{α:Type}{xs:List α}{i:Nat}{d:α}(h:i<xs.length):xs.getD i d∈xs:=by rw[ZH h];exact List.getElem_mem h
structure Zb6(m:Int)(b:B5):Prop where
 d17:Zgt m b
 s1:b.give<2 ^ 110
 s2:b.take<2 ^ 110
theorem Zf3{m:Int}{ls:List B5}(h:∀l∈ls,Zb6 m l):YZ ls:=fun i hi=>by
 rw[ZH hi];have hd:=h _ (List.getElem_mem hi);have h1:=hd.d17.sz;have h2:=hd.s1;have h3:=hd.s2;exact⟨ls[i].give.toNat,ls[i].take.toNat,by omega,by omega,by omega,by omega,by omega,by omega⟩
theorem ZeD{m:Nat}{ls:List B5}(h:∀l∈ls,Zb6 m l):ZE ls m:=fun b hb=>(h b hb).d17.rg
noncomputable def dueI (E:List (Nat×Nat)) (n i:Nat):List (List Int):=((List.range i).filter fun f=>decide (Yh E n f=f)).map (VT E n)
theorem Zif{E:List (Nat×Nat)}{n i:Nat}:dueI E n (i+1)=dueI E n i++(if Yh E n i=i then[VT E n i] else[]):=by
 unfold dueI;rw[List.range_succ,List.filter_append,List.map_append]
 congr 1
 by_cases h:Yh E n i=i
 ·rw[if_pos h];simp[h]
 ·rw[if_neg h];simp[h]
theorem Zcb{E:List (Nat×Nat)}{n f:Nat}{w:Int}:w∈VT E n f↔∃v:Nat,v<n∧Yh E n v=f∧w=(v:Int):=by
 unfold VT;simp only[List.mem_map,List.mem_filter,List.mem_range,decide_eq_true_eq]
 constructor
 ·rintro⟨v,⟨a,b⟩,rfl⟩;exact⟨v,a,b,rfl⟩
 ·rintro⟨v,a,b,rfl⟩;exact⟨v,⟨a,b⟩,rfl⟩
theorem Zie{E:List (Nat×Nat)}{n i:Nat}(hE:∀e∈E,e.1<n∧e.2<n)(hi:i<n):(∀xs∈dueI E n i,(i:Int)∉xs)↔Yh E n i=i:=by
 have hle:Yh E n i≤i:=(Pc.Wj hE hi).2 _ (.refl _)
 constructor
 ·intro h;rcases Nat.lt_or_ge (Yh E n i) i with z|z
  ·exfalso;refine h (VT E n (Yh E n i)) (List.mem_map.mpr ⟨_,List.mem_filter.mpr ⟨List.mem_range.mpr z,decide_eq_true (ZgF hE hi)⟩,rfl⟩) (Zcb.mpr ⟨i,hi,rfl,rfl⟩)
  ·omega
 ·intro h xs hx hm;obtain⟨f,hf,rfl⟩:=List.mem_map.mp hx;obtain⟨v,_,b,e⟩:=Zcb.mp hm;have:=List.mem_range.mp (List.mem_filter.mp hf).1;have ev:v=i:=by omega
  subst ev;omega
theorem Zis{ls:List B5}{n i:Nat}{ys zs:List Int}(hb:ZE ls n)(hi:i<n)(hlab:Yh (ZN ls) n i=i)(hnd:ys.Nodup)(hf:(i:Int)∈ys)(hrg:∀w∈ys,0≤w∧w<(n:Int))(hcl:Zcj ls ys)(hsp:UT ls i ys)(hp:zs.Perm ys)(hs:zs.Pairwise (· ≤·)):zs=VT (ZN ls) n i:=by
 have hE:=U2 hb;refine ZdZ hs (Zea (WO _ _)) (hp.trans ((List.perm_ext_iff_of_nodup hnd (List.Pairwise.map _ (fun a b h=>by omega) (WO _ _))).mpr fun w=>?_))
 constructor
 ·intro hw;have hr:=hrg w hw;refine Zcb.mpr ⟨w.toNat,by omega,?_,by omega⟩;refine hsp (fun w=>Yh (ZN ls) n w.toNat=i) (by show Yh (ZN ls) n (i:Int).toNat=i;rw[Int.toNat_natCast];exact hlab) (fun j hj=>?_) w hw;have hbj:=hb.at hj;have he:Pc.Z5 (ZN ls) (ls.getD j dB).giver.toNat (ls.getD j dB).taker.toNat:=ZbO hb hbj.1 (.step .refl (Vr hj (Ye.mpr (.inl ⟨rfl,rfl⟩))));show Yh (ZN ls) n (ls.getD j dB).giver.toNat=i↔Yh (ZN ls) n (ls.getD j dB).taker.toNat=i;rw[ZcX hE (by omega) (by omega) he]
 ·intro hw;obtain⟨v,hv,e,rfl⟩:=Zcb.mp hw;have hc:=(Pc.Wj hE hv).1;have hc2:Pc.Z5 (ZN ls) v i:=by
   have:Yh (ZN ls) n v=i:=e;unfold Yh at this;rw[this] at hc;exact hc
  exact ZgK hcl (ZbV hb hc2.symm) hf
theorem Zix{H:Hp}{ys:List V}{xss:List (List Int)}{i:Nat}(h:Yw H ys xss)(hi:i<xss.length):∃t,ys.getD i .non= .ref t∧H t=some (.lst ((xss.getD i []).map V.int)):=by
 obtain⟨t,a,b⟩:=h.at (List.getElem?_eq_getElem hi);exact⟨t,by simp[List.getD,a],by rw[ZH hi];exact b⟩
theorem Zf0{ls:List B5}{w:Int}:YI ls (startsL ls) w=true↔∀(j:Nat)(hj:j<ls.length),ls[j].taker=w→ls[j].take≤ls[j].start:=by
 unfold YI startsL;simp only[List.all_eq_true,Bool.or_eq_true,Bool.not_eq_true',decide_eq_false_iff_not,decide_eq_true_eq]
 constructor
 ·intro h j hj e;have hm:(ls[j],ls[j].start)∈ls.zip (ls.map B5.start):=by
   refine List.mem_iff_getElem.mpr ⟨j,by simp;exact hj,by simp⟩
  rcases h _ hm with z|z
  ·exact absurd e z
  ·exact z
 ·rintro h ⟨b,s⟩ hm;obtain⟨j,hj,e⟩:=List.mem_iff_getElem.mp hm;have hj':j<ls.length:=by simp at hj;exact hj
  simp at e;obtain⟨rfl,rfl⟩:=e
  by_cases c:ls[j].taker=w
  ·exact .inr (h j hj' c)
  ·exact .inl c
theorem Ze8(xs:List Nat):(xs.map fun i:Nat=>V.int i)=(xs.map fun i:Nat=>(i:Int)).map V.int:=by rw[List.map_map];rfl
theorem Zkb{m:Nat}(h:m≤30):ZaP ((List.range m).map nm17):=by
 refine⟨?_,fun x hx=>?_,by simpa using h⟩
 ·rw[List.nodup_iff_pairwise_ne,List.pairwise_map];refine List.Pairwise.imp_of_mem ?_ (List.pairwise_lt_range);intro a b _ hb hab e;have hb':b<m:=by simpa using hb
  exact ZfK b (by omega) (List.mem_map.mpr ⟨a,by simpa using hab,e⟩)
 ·obtain⟨i,hi,rfl⟩:=List.mem_map.mp hx;have hi':i<m:=by simpa using hi
  exact ZgA i (by omega)
theorem ZkK:∀i<30,nm17 i≠"latework" ∧nm17 i≠"workless" :=by decide+kernel
theorem Zck:Yt "latework" =true∧Yt "workless" =true:=by decide+kernel
theorem Zjf{m:Nat}(h:m≤30):("latework" :Str)∉(List.range m).map nm17∧("workless" :Str)∉(List.range m).map nm17:=by
 constructor
 all_goals
  intro z;obtain⟨i,hi,e⟩:=List.mem_map.mp z;have hi':i<m:=by simpa using hi
  have:=ZkK i (by omega)
  first
  |exact this.1 e
  |exact this.2 e
theorem Zhp{xs ys:List Int}{i:Nat}(h:i<xs.length):(xs++ys).getD i 0=xs.getD i 0:=by
 rw[ZH (by rw[List.length_append];omega),ZH h,List.getElem_append_left h]
noncomputable def Ww (f:B5→B5) (ls:List B5) (i:Nat):List B5:=(ls.take i).map f++ls.drop i
theorem Ze7{f:B5→B5}{ls:List B5}{i:Nat}:(Ww f ls i).length=ls.length:=by unfold Ww;simp;omega
theorem ZgB{f:B5→B5}{ls:List B5}{i:Nat}(h:i<ls.length):(Ww f ls i)[i]? =some ls[i]:=by
 unfold Ww;have e:((ls.take i).map f).length=i:=by simp;omega
 rw[List.getElem?_append_right (by omega),e,Nat.sub_self,List.getElem?_drop,Nat.add_zero,List.getElem?_eq_getElem h]
theorem ZfS{f:B5→B5}{ls:List B5}{i:Nat}(h:i<ls.length):(Ww f ls i).set i (f ls[i])=Ww f ls (i+1):=by
 unfold Ww;have e:((ls.take i).map f).length=i:=by simp;omega
 rw[List.set_append_right _ _ (by omega),e,Nat.sub_self,List.drop_eq_getElem_cons h,List.set_cons_zero,List.take_succ_eq_append_getElem h,List.map_append,List.append_assoc]
 rfl
theorem Zeq{f:B5→B5}{ls:List B5}:Ww f ls 0=ls:=by simp[Ww]
theorem ZeW{f:B5→B5}{ls:List B5}:Ww f ls ls.length=ls.map f:=by simp[Ww]
noncomputable def halfB (b:B5):B5:=⟨b.giver,b.taker,b.give,b.take,b.start / 2+1⟩
noncomputable def Wh (b:B5):B5:=⟨b.giver,b.taker,b.give,b.take,b.start / 3+2⟩
section
variable {f:B5→B5}{ls:List B5}(h:∀b,(f b).giver=b.giver∧(f b).taker=b.taker∧(f b).give=b.give∧(f b).take=b.take)
include h
theorem Zgz(j:Nat):((ls.map f).getD j dB).giver=(ls.getD j dB).giver∧((ls.map f).getD j dB).taker=(ls.getD j dB).taker∧((ls.map f).getD j dB).give=(ls.getD j dB).give∧((ls.map f).getD j dB).take=(ls.getD j dB).take:=by
 rcases Nat.lt_or_ge j ls.length with c|c
 ·rw[ZH (by rw[List.length_map];exact c),ZH c,List.getElem_map];exact h _
 ·have e1:(ls.map f).getD j dB=dB:=by simp[List.getD,c]
  have e2:ls.getD j dB=dB:=by simp[List.getD,c]
  rw[e1,e2];exact⟨rfl,rfl,rfl,rfl⟩
theorem Zcx{n:Nat}(hb:ZE ls n):ZE (ls.map f) n:=fun b hm=>by
 obtain⟨c,hc,rfl⟩:=List.mem_map.mp hm;have:=hb c hc;obtain⟨a,b,_,_⟩:=h c;rw[a,b];exact this
theorem ZhX(hs:YZ ls):YZ (ls.map f):=fun i hi=>by
 obtain⟨_,_,a,b⟩:=Zgz (ls:=ls) h i;rw[a,b];exact hs i (by rw[List.length_map] at hi;exact hi)
theorem Zdy{rs:List Int}:U4 (ls.map f) rs↔U4 ls rs:=by
 constructor
 ·intro hb b hm;have:=hb (f b) (List.mem_map.mpr ⟨b,hm,rfl⟩);obtain⟨x,y,z,w⟩:=h b;rw[x,y,z,w] at this;exact this
 ·intro hb b hm;obtain⟨c,hc,rfl⟩:=List.mem_map.mp hm;have:=hb c hc;obtain⟨x,y,z,w⟩:=h c;rw[x,y,z,w];exact this
theorem Zd6:ZN (ls.map f)=ZN ls:=by
 unfold ZN;rw[List.map_map];refine List.map_congr_left fun b _=>?_;obtain⟨x,y,_,_⟩:=h b;show((f b).giver.toNat,(f b).taker.toNat)=_;rw[x,y]
end
theorem Zkm{ls:List B5}{rs:List Int}(h:∀j<ls.length,Wy rs (ls.getD j dB)=0):U4 ls rs:=fun b hb=>by
 obtain⟨j,hj,rfl⟩:=List.getElem_of_mem hb;have:=h j hj;rw[ZH hj] at this;unfold Wy at this;rw[Int.mul_comm ls[j].give,Int.mul_comm ls[j].take];omega
theorem Zju{ls:List B5}{n:Nat}{rs:List Int}{F:List (Int×Fo.ZF)}(hbt:ZE ls n)(hn:n≤60)(hrl:rs.length=n)(hwd:Fo.Wn (ZT ls) n F n)(hset:∀x∈F,Za2 ls x rs)(hch:∀j<ls.length,Wy rs (ls.getD j dB)=0):(∀r∈rs,1≤r)∧U4 ls rs∧UU ls n rs:=by
 have hrt:=Ze5 hbt hn hwd hrl hset;exact⟨fun c hc=>(by obtain⟨k,a,b,_⟩:=hrt.pos c hc;omega),Zkm hch,ZiR hwd hset⟩
theorem V6(b:B5):(halfB b).giver=b.giver∧(halfB b).taker=b.taker∧(halfB b).give=b.give∧(halfB b).take=b.take:=⟨rfl,rfl,rfl,rfl⟩
theorem ZfC(b:B5):(Wh b).giver=b.giver∧(Wh b).taker=b.taker∧(Wh b).give=b.give∧(Wh b).take=b.take:=⟨rfl,rfl,rfl,rfl⟩
theorem ZkQ{ls:List B5}{n:Nat}{rs rs' rm:List Int}(hbt:ZE ls n)(hsz:YZ ls)(hl:rs.length=n)(h:(∀r∈rs,1≤r)∧U4 (ls++ZK ls rm) rs∧UU (ls++ZK ls rm) n rs)(hl':rs'.length=n)(h':(∀r∈rs',1≤r)∧U4 (ls.map halfB) rs'∧UU (ls.map halfB) n rs'):rs'=rs:=by
 refine ZhM hbt hsz hl hl' h.1 h'.1 (fun b hb=>h.2.1 b (List.mem_append_left _ hb)) ((Zdy V6).mp h'.2.1) (fun f ys f0 f1 hf cl=>h.2.2 f ys f0 f1 hf fun j hj=>?_) (fun f ys f0 f1 hf cl=>h'.2.2 f ys f0 f1 hf fun j hj=>?_)
 ·rw[ZH hj];rcases Nat.lt_or_ge j ls.length with y|y
  ·rw[List.getElem_append_left y];have:=cl j y;rw[ZH y] at this;exact this
  ·have hj':j-ls.length<ls.length:=by rw[List.length_append,We] at hj;omega
   rw[List.getElem_append_right y,ZbW hj'];have:=cl _ hj';rw[ZH hj'] at this;exact this.symm
 ·obtain⟨a,b,_,_⟩:=Zgz (ls:=ls) V6 j;rw[a,b];exact cl j (by rw[List.length_map] at hj;exact hj)
theorem VS{ls:List B5}{n k:Nat}(h:ZE ls n)(hk:n≤k):ZE ls k:=fun x hx=>by have:=h x hx;omega
structure W6{K:PySem.W.Frag}{mg:Str→Option Value}(T:Tp K mg)(H:Hp)(hp:Addr)(fp:List Addr)(nms:List Str)(ks:List B5)(p2:Addr)(fp2:List Addr)(nm2:List Str)(k2:List B5)(qa:Addr)(bs:List V)(ls:List B5)(du:Addr)(ds:List V)(L:List B5)(na:Addr)(nm0:List Str):Prop where
 h1:Zv T H hp ⟨nms,ks⟩ fp
 h2:Zv T H p2 ⟨nm2,k2⟩ fp2
 dj:∀x∈fp,x∉fp2
 q1:H qa=some (.lst bs)
 qt:ZS H bs ls
 q2:qa∉fp
 q3:qa∉fp2
 d1:H du=some (.lst ds)
 dt:ZS H ds L
 d2:du∉fp
 d3:du∉fp2
 n1:H na=some (.lst (nm0.map V.str))
 n2:na∉fp
 n3:na∉fp2
section
variable {K:PySem.W.Frag}{mg:Str→Option Value}{T:Tp K mg}{H H':Hp}{hp:Addr}{fp fp':List Addr}{nms nms':List Str}{ks ks':List B5}{p2:Addr}{fp2:List Addr}{nm2:List Str}{k2:List B5}{qa:Addr}{bs:List V}{ls:List B5}{du:Addr}{ds:List V}{L:List B5}{na:Addr}{nm0:List Str}
theorem W6.same(o:W6 T H hp fp nms ks p2 fp2 nm2 k2 qa bs ls du ds L na nm0)(s:Zd H H'):W6 T H' hp fp nms ks p2 fp2 nm2 k2 qa bs ls du ds L na nm0:=
 ⟨o.h1.same s,o.h2.same s,o.dj,s _ _ o.q1,o.qt.keep fun b xs e=>s _ _ e,o.q2,o.q3,s _ _ o.d1,o.dt.keep fun b xs e=>s _ _ e,o.d2,o.d3,s _ _ o.n1,o.n2,o.n3⟩
theorem W6.one(o:W6 T H hp fp nms ks p2 fp2 nm2 k2 qa bs ls du ds L na nm0)(f:ZW fp H H')(g:Wz fp fp' H)(hh:Zv T H' hp ⟨nms',ks'⟩ fp'):W6 T H' hp fp' nms' ks' p2 fp2 nm2 k2 qa bs ls du ds L na nm0:=
 ⟨hh,o.h2.off f (fun x hx z=>o.dj x z hx),fun x hx z=>by
  rcases g x hx with y|y
  ·exact o.dj x y z
  ·exact o.h2.dom x z y,f.keep _ _ o.q1 o.q2,o.qt.keep f.tups,g.off o.q2 (by rw[o.q1];simp),o.q3,f.keep _ _ o.d1 o.d2,o.dt.keep f.tups,g.off o.d2 (by rw[o.d1];simp),o.d3,f.keep _ _ o.n1 o.n2,g.off o.n2 (by rw[o.n1];simp),o.n3⟩
theorem W6.turn(o:W6 T H hp fp nms ks p2 fp2 nm2 k2 qa bs ls du ds L na nm0):W6 T H p2 fp2 nm2 k2 hp fp nms ks qa bs ls du ds L na nm0:=
 ⟨o.h2,o.h1,fun x hx z=>o.dj x z hx,o.q1,o.qt,o.q3,o.q2,o.d1,o.dt,o.d3,o.d2,o.n1,o.n3,o.n2⟩
end
local macro_rules| `(tactic|walk_at "rd")=>`(tactic|first|with_reducible (first|(show ∃a dx fs,L2.V.ref _=L2.V.ref a∧_∧List.lookup _ fs=none∧_;refine Nm.ZiA (by with_reducible assumption) (by k_dflt (decide+kernel)) (by k_dflt (decide+kernel)) ?_)|(show ∃a dx fs,L2.V.ref _=L2.V.ref a∧_∧List.lookup _ fs=none∧_;refine Nm.Zhb (by with_reducible assumption) (by k_dflt (decide+kernel)) (by k_dflt (decide+kernel)) (by k_dflt (decide+kernel)) ?_)|refine L2.Rd.ZmF (by with_reducible assumption) (by with_reducible assumption) (by with_reducible assumption) ?_|refine L2.Rd.Znf (by with_reducible assumption) (by with_reducible assumption) (by with_reducible assumption) ?_)|fail "none here")
def Vx{K:PySem.W.Frag}{mg:Str→Option Value}(T:Tp K mg):Sp:=fun vs H Q _=>∃(p:Addr)(ns:List Int)(k:Int),vs=[.ref p,.int k]∧SqL K H p (ns.map V.int)∧0≤k∧∀c:Int,Q (.int c) H
theorem Zij{K:PySem.W.Frag}{mg:Str→Option Value}{T:Tp K mg}{H:Hp}{Q:VK}{E:XK}{p:Addr}{ns:List Int}{k:Int}(hS:SqL K H p (ns.map V.int))(hk:0≤k)(q:∀c:Int,Q (.int c) H):Vx T ([.ref p,.int k]++ []) H Q E:=⟨p,ns,k,rfl,hS,hk,q⟩
local macro_rules| `(tactic|walk_at "rd")=>`(tactic|first|((with_reducible show Nm.Vx _ _ _ _ _);with_reducible refine Nm.Zij (by walk_at "hp") (by walk_at "side") (fun _=>?_))|fail "none here")
section
variable {P:Program}{w:World}{K:PySem.W.Frag}{mg:Str→Option Value}{base:Heap}
theorem Zb2(T:Tp K mg):Zl P w K mg base (CXX P w) 1 T.f_l_cell T.d_l_cell ["_law_script","_law_k"] (Vx T):=by
 refine T.F_l_cell.okX Zh6 (fun vs H Q E h=>?_) (fun cdv A outer s H vs Q E hr h=>?_)
 ·obtain⟨p,ns,k,rfl,_⟩:=h
  rfl
 ·have hu:=hr.units;obtain⟨p,ns,k,rfl,hS,hk,q⟩:=h;refine⟨_,(Zf (ZX (Zz Zb5 (pv 1) (ZC (YC (K:=K) rfl) (by rfl) T.n_len PySem.boot_len (Za (pv 0) Zb)) (ZG _)) (Zg (Zt (Zp (Zu (K:=K) rfl) (pv 0) (pv 1) (fun _ _=>rfl)))) ZI)
     (Zg (Zt Zc))),?_⟩
  try dsimp only[L2.cxX,L2.ZJ,L2.Zm]
  walk_at "rds";refine Rd.ifD (fun c=>?_) (fun c=>?_)
  ·have c':k<ns.length:=by simpa using c
   have ha:=ZaM hk c';walk_at "rds";exact q _
  ·walk_at "rds";exact q _
end
def V4{K:PySem.W.Frag}{mg:Str→Option Value}(T:Tp K mg):Sp:=fun vs H Q _=>∃c w:Int,vs=[.int c,.int w]∧0≤w∧w≤1000∧∀r:Int,0≤r→r<1000003→Q (.int r) H
theorem Zjk{K:PySem.W.Frag}{mg:Str→Option Value}{T:Tp K mg}{H:Hp}{Q:VK}{E:XK}{c w:Int}(h0:0≤w)(h1:w≤1000)(q:∀r:Int,0≤r→r<1000003→Q (.int r) H):V4 T ([.int c,.int w]++ []) H Q E:=⟨c,w,rfl,h0,h1,q⟩
local macro_rules| `(tactic|walk_at "rd")=>`(tactic|first|((with_reducible show Nm.V4 _ _ _ _ _);with_reducible refine Nm.Zjk (by walk_at "side") (by walk_at "side") (fun _ _ _=>?_))|fail "none here")
section
variable {P:Program}{w:World}{K:PySem.W.Frag}{mg:Str→Option Value}{base:Heap}
theorem ZcH(T:Tp K mg):Zl P w K mg base (CXX P w) 1 T.f_l_mix T.d_l_mix ["_law_cell_here","_law_way"] (V4 T):=by
 refine T.F_l_mix.okX ZfH (fun vs H Q E h=>?_) (fun cdv A outer s H vs Q E hr h=>?_)
 ·obtain⟨c,w,rfl,_⟩:=h
  rfl
 ·have hu:=hr.units;obtain⟨c,w,rfl,w0,w1,q⟩:=h;refine⟨_,(Zf (Zx (i:=2) ZfH.nd rfl (Or.inl rfl) (Zo Z1 (Zo (ZM (K:=K) rfl) (Zo Y7 (pv 0) Zc) (Zo Y7 (pv 1) Zc)) Zc))
     (Zg (Zt (Zo Z1 (Zo Y7 (pv 2) (Zo (ZM (K:=K) rfl) Zc (Zo Y7 Zc (pv 1)))) Zc)))),?_⟩
  try dsimp only[L2.cxX,L2.ZJ,L2.Zm]
  walk_at "rds";exact q _ (Int.emod_nonneg _ (by decide)) (Int.emod_lt_of_pos _ (by decide))
end
def Zc9{K:PySem.W.Frag}{mg:Str→Option Value}(T:Tp K mg):Sp:=fun vs H Q _=>∃(p:Addr)(ns:List Int)(M:Int),vs=[.ref p,.int M]∧SqL K H p (ns.map V.int)∧1≤M∧M≤30∧
 ∀(r:Addr)(H':Hp)(bs:List V)(ls:List B5),H r=none→Zd H H'→H' r=some (.lst bs)→ZS H' bs ls→ls.length≤60→(∀l∈ls,Zb6 M l)→Q (.ref r) H'
section
variable {P:Program}{w:World}{K:PySem.W.Frag}{mg:Str→Option Value}{base:Heap}
theorem Zhq(T:Tp K mg):Zl P w K mg base (CXX P w) 2 T.f_l_lines T.d_l_lines ["_law_script","_law_many"] (Zc9 T):=by
 have G_l_cell:Zl P w K mg base (CXX P w) 1 T.f_l_cell T.d_l_cell ["_law_script","_law_k"] (Vx T):=(Zb2 T).mono (by decide);have G_l_mix:Zl P w K mg base (CXX P w) 1 T.f_l_mix T.d_l_mix ["_law_cell_here","_law_way"] (V4 T):=(ZcH T).mono (by decide);refine T.F_l_lines.okX YS (fun vs H Q E h=>?_) (fun cdv A outer s H vs Q E hr h=>?_)
 ·obtain⟨p,ns,M,rfl,_⟩:=h
  rfl
 ·have hu:=hr.units;obtain⟨p,ns,M,rfl,hS,m1,m2,q⟩:=h;have mp:0<M:=by omega
  refine⟨_,(Zf (Zx (i:=2) YS.nd rfl (Or.inl rfl) (YH Zb))
     (Zf (Zx (i:=3) YS.nd rfl (Or.inl rfl) (Zo Z1 (Zo Z4 (Zn G_l_cell hr rfl T.m_l_cell T.F_l_cell.kp T.b_l_cell .nil Zi (Za (pv 0) (Za Zc Zb))) Zc) Zc))
     (Zf (Zaz (ZX (Zz (Wd (K:=K) rfl hu) (Zo Z1 (Zn G_l_mix hr rfl T.m_l_mix T.F_l_mix.kp T.b_l_mix .nil Zi (Za (Zn G_l_cell hr rfl T.m_l_cell T.F_l_cell.kp T.b_l_cell .nil Zi (Za (pv 0) (Za Zc Zb))) (Za Zc Zb))) Zc) Zc (ZG _)) (Zg (Zx (i:=3) YS.nd rfl (Or.inl rfl) (Zo (ZM (K:=K) rfl) Zc (Zo Z1 (Zo Z4 (Zn G_l_mix hr rfl T.m_l_mix T.F_l_mix.kp T.b_l_mix .nil Zi (Za (Zn G_l_cell hr rfl T.m_l_cell T.F_l_cell.kp T.b_l_cell .nil Zi (Za (pv 0) (Za Zc Zb))) (Za Zc Zb))) Zc) Zc)))) ZI))
     (Zf (Yf PassesOwn.leaving rfl (Yb rfl T.n_range (Za (pv 3) Zb)) (Zr (i:=4) YS.nd rfl (Or.inl rfl)) (Zf (Zx (i:=5) YS.nd rfl (Or.inl rfl) (Zn G_l_cell hr rfl T.m_l_cell T.F_l_cell.kp T.b_l_cell .nil Zi (Za (pv 0) (Za (Zo (ZM (K:=K) rfl) Zc (pv 4)) Zb))))
     (Zf (Zx (i:=6) YS.nd rfl (Or.inl rfl) (Zn G_l_mix hr rfl T.m_l_mix T.F_l_mix.kp T.b_l_mix .nil Zi (Za (pv 5) (Za (pv 4) Zb))))
     (Zf (Zx (i:=7) YS.nd rfl (Or.inl rfl) (YH (Za (Zo Z1 (pv 6) (pv 1)) (Za (Zo Z1 (Zo Z4 (pv 6) Zc) (pv 1)) (Za (Zo (ZM (K:=K) rfl) Zc (Zo Z1 (pv 5) (Zo Zad (Zo Zfg Zc Zc) Zc))) (Za (Zo (ZM (K:=K) rfl) Zc (Zo Z1 (Zo Z4 (pv 6) Zc) Zc)) (Za (Zo Z1 (Zo Z4 (pv 6) Zc) Zc) Zb)))))))
     (Zf (Zaz (ZX (Zz (Wd (K:=K) rfl hu) (Zo Z1 (Zo Z4 (pv 6) Zc) Zc) Zc (ZG _)) (Zg (Zx (i:=7) YS.nd rfl (Or.inl rfl) (Zo (ZM (K:=K) rfl) (WS (ZbQ (K:=K) rfl) (pv 7) Vu (Vz Zc)) (YH (Za (Zp (Zu (K:=K) rfl) (pv 7) Zc (fun _ _=>rfl)) (Za (Zp (Zu (K:=K) rfl) (pv 7) Zc (fun _ _=>rfl)) (Za (Zo Z1 (Zo Z4 (pv 5) Zc) (Zo Zfg Zc Zc)) Zb))))))) ZI))
     (Zg (ZL (WK (K:=K) rfl PySem.F.plainAttrs_list PySem.F.slot_list_append PySem.F.type_list_append Ym (pv 2) (Za (Uq (Zj2 (K:=K) rfl) (by rfl) T.n_tuple PyProof.Rows.boot_tuple (Za (pv 7) Zb)) Zb)))))))))
     (Zg (Zt (pv 2))))))),?_⟩
  try dsimp only[L2.cxX,L2.ZJ,L2.Zm]
  walk_at "rds";refine⟨Nat.zero_le _,fun r hr=>?_⟩;have s1:Zd H (upd H r (.lst [])):=Zk hr;have hr1:(upd H r (.lst [])) r=some (.lst []):=Ze;generalize upd H r (.lst [])=H1 at*;have hS1:=s1.seq hS;walk_at "rds";rename_i c0;refine Rd.cut (fun σ' H'=>H1=H'∧∃z:Nat,σ'=[some (.ref p),some (.int M),some (.ref r),some (.int z),none,none,none,none]∧z≤60) ?k1 ?i1
  case i1=>
   walk_at "rds";refine Rd.ifD (fun d1=>?_) (fun d1=>?_)
   ·walk_at "rds";rename_i c2 m9 m90 m91;obtain⟨z,ez⟩:∃z:Nat,31+m9 / 8 % 30=(z:Int):=⟨(31+m9 / 8 % 30).toNat,by omega⟩;rw[ez];exact⟨rfl,z,rfl,by omega⟩
   ·obtain⟨z,ez⟩:∃z:Nat,c0 / 6 % 9=(z:Int):=⟨(c0 / 6 % 9).toNat,by omega⟩;rw[ez];walk_at "rds";exact⟨rfl,z,rfl,by omega⟩
  case k1=>
  rintro σ' H' ⟨rfl,z,rfl,hz⟩;walk_at "rds";refine Wg (n:=z) (fun i σ H'=>∃(bs:List V)(ls:List B5)(c1 c2 c3 c4:Option V),σ=[some (.ref p),some (.int M),some (.ref r),some (.int z),c1,c2,c3,c4]∧Zd H H'∧H' r=some (.lst bs)∧ZS H' bs ls∧ls.length=i∧∀l∈ls,Zb6 M l) ⟨[],[],_,_,_,_,rfl,s1,hr1,.nil,rfl,by simp⟩ ?_ ?_
  ·rintro i σ H2 hi ⟨bs,ls,c1,c2,c3,c4,rfl,s2,hr2,hT2,hl2,hd2⟩;have hS2:=s2.seq hS;have hbl:=hT2.length;have hbz:bs.length<sizeLine:=Zq (by omega);have hi60:(i:Int)<60:=by omega
   have np:(0:Int)<10 ^ Int.toNat 30-1:=by decide
   rw[Int.zero_add];walk_at "rds";rename_i c mx mx0 mx1;have r1:=Int.emod_nonneg mx (show M≠0 by omega);have r2:=Int.emod_lt_of_pos mx mp;have u1:=Int.emod_nonneg (mx / 6) (show M≠0 by omega);have u2:=Int.emod_lt_of_pos (mx / 6) mp;have w1:0≤c % (10 ^ Int.toNat 30-1):=Int.emod_nonneg _ (by decide);have w2:c % (10 ^ Int.toNat 30-1)<10 ^ 30-1:=Int.emod_lt_of_pos _ (by decide);generalize mx % M=g at*;generalize mx / 6 % M=t at*;generalize c % (10 ^ Int.toNat 30-1)=cm at*;refine⟨by show 5≤sizeLine;decide,fun l0 hl0=>?_⟩;have s3:Zd H2 (upd H2 l0 (.lst [.int g,.int t,.int (1+cm),.int (1+mx / 36 % 9),.int (mx / 324 % 12)])):=Zk hl0;have hl3:(upd H2 l0 (.lst [.int g,.int t,.int (1+cm),.int (1+mx / 36 % 9),.int (mx / 324 % 12)])) l0=some (.lst (([g,t,1+cm,1+mx / 36 % 9,mx / 324 % 12]:List Int).map V.int)):=Ze;generalize upd H2 l0 (.lst [.int g,.int t,.int (1+cm),.int (1+mx / 36 % 9),.int (mx / 324 % 12)])=H3 at*;have hL3:=SqL.of (K:=K) hl3;have hr3:=s3 _ _ hr2;have hp110:(10:Int) ^ 30<2 ^ 110:=by decide
   walk_at "rds";refine Rd.cut (fun σ' H'=>Zd H3 H'∧∃(l1:Addr)(a b s:Int),σ'=[some (.ref p),some (.int M),some (.ref r),some (.int z),some (.int (i:Int)),some (.int c),some (.int mx),some (.ref l1)]∧H' l1=some (.lst [.int g,.int t,.int a,.int b,.int s])∧1≤a∧1≤b∧0≤s∧a<2 ^ 110∧b<2 ^ 110) ?k2 ?i2
   case i2=>
    have at3:atI ((([g,t,1+cm,1+mx / 36 % 9,mx / 324 % 12]:List Int)).map V.int) 3=some (.int (1+mx / 36 % 9)):=rfl;have at2:atI ((([g,t,1+cm,1+mx / 36 % 9,mx / 324 % 12]:List Int)).map V.int) 2=some (.int (1+cm)):=rfl;walk_at "rds";refine Rd.ifD (fun d1=>?_) (fun d1=>?_)
    ·walk_at "rds";refine Rd.slL hL3 (fun x1 hx1=>?_);have s4:Zd H3 (upd H3 x1 (.lst (Y3 (([g,t,1+cm,1+mx / 36 % 9,mx / 324 % 12]:List Int).map V.int) none (some 2)))):=Zk hx1;have hx4:(upd H3 x1 (.lst (Y3 (([g,t,1+cm,1+mx / 36 % 9,mx / 324 % 12]:List Int).map V.int) none (some 2)))) x1=some (.lst [.int g,.int t]):=Ze;generalize upd H3 x1 (.lst (Y3 (([g,t,1+cm,1+mx / 36 % 9,mx / 324 % 12]:List Int).map V.int) none (some 2)))=H4 at*;have hL4:=s4.seq hL3;walk_at "rds";have y1:0≤c / 5 % 10 ^ Int.toNat 29:=Int.emod_nonneg _ (by decide);generalize c / 5 % 10 ^ Int.toNat 29=cs at*;refine⟨by show 3≤sizeLine;decide,fun x2 hx2=>?_⟩;have s5:Zd H4 (upd H4 x2 (.lst [.int (1+mx / 36 % 9),.int (1+cm),.int cs])):=Zk hx2;have hx5:(upd H4 x2 (.lst [.int (1+mx / 36 % 9),.int (1+cm),.int cs])) x2=some (.lst [.int (1+mx / 36 % 9),.int (1+cm),.int cs]):=Ze;generalize upd H4 x2 (.lst [.int (1+mx / 36 % 9),.int (1+cm),.int cs])=H5 at*;refine Rd.Ux (s5 _ _ hx4) hx5 (by show 5≤sizeLine;decide) (fun x3 hx3=>?_);walk_at "rds";exact⟨(s4.trans s5).trans (Zk hx3),x3,1+mx / 36 % 9,1+cm,cs,rfl,Ze,by omega,by omega,y1,by omega,by omega⟩
    ·walk_at "rds";exact⟨Zd.refl _,l0,1+cm,1+mx / 36 % 9,mx / 324 % 12,rfl,hl3,by omega,by omega,by omega,by omega,by omega⟩
   case k2=>
   rintro σ' H4 ⟨s4,l1,a,b,s,rfl,hl4,a1,b1,s0,a2,b2⟩;have hr4:=s4 _ _ hr3;walk_at "rds";refine⟨l1,_,rfl,.inl ⟨SqL.of hl4,fun u hu=>?_⟩⟩;have s5:Zd H4 (upd H4 u (.tup [.int g,.int t,.int a,.int b,.int s])):=Zk hu;have hu5:(upd H4 u (.tup [.int g,.int t,.int a,.int b,.int s])) u=some (.tup (B5.mk g t a b s).v):=Ze;generalize upd H4 u (.tup [.int g,.int t,.int a,.int b,.int s])=H5 at*;have hr5:=s5 _ _ hr4;have s35:=s3.trans (s4.trans s5);walk_at "rds";have fr8:ZW [r] H5 (upd H5 r (.lst (bs++ [.ref u]))):=Wb (by simp) hr5 (by intro _ z;cases z);refine⟨bs++ [.ref u],ls++ [⟨g,t,a,b,s⟩],_,_,_,_,rfl,(s2.trans s35).new hr,Ze,((hT2.keep fun b xs e=>s35 _ _ e).keep fr8.tups).snoc (fr8.tups _ _ hu5),by simp[hl2],fun l hl=>?_⟩;rcases List.mem_append.mp hl with y|y
   ·exact hd2 l y
   ·rw[List.mem_singleton.mp y];exact⟨⟨⟨r1,r2,u1,u2⟩,⟨a1,b1⟩,s0⟩,a2,b2⟩
  ·rintro σ H2 ⟨bs,ls,c1,c2,c3,c4,rfl,s2,hr2,hT2,hl2,hd2⟩;walk_at "rds";exact q r H2 bs ls hr s2 hr2 hT2 (by omega) hd2
end
def Zc0{K:PySem.W.Frag}{mg:Str→Option Value}(T:Tp K mg):Sp:=fun vs H Q _=>∃x:Str,vs=[.str x]∧x.length≤sizeLine∧∀H',Zd H H'→Q (.bl (Yt x)) H'
noncomputable def letter (c:Nat):Bool:=decide (97≤c)&&decide (c≤122)
theorem Zem(c d:Nat):decide ((⟨#[c]⟩:Str).cps.toList<(⟨#[d]⟩:Str).cps.toList)=decide (c<d):=by
 show decide ([c]< [d])=decide (c<d);have e:([c]< [d])↔c<d:=by
  constructor
  ·intro h;cases h with
   |rel h=>exact h
   |cons h=>cases h
  ·exact fun h=> .rel h
 by_cases h:c<d
 ·rw[decide_eq_true h,decide_eq_true (e.mpr h)]
 ·rw[decide_eq_false h,decide_eq_false (fun z=>h (e.mp z))]
theorem Zmb:("a" :Str)=⟨#[97]⟩:=by decide+kernel
theorem Zmc:("z" :Str)=⟨#[122]⟩:=by decide+kernel
theorem Zhn(x:Str):(((List.range x.cps.size).map fun i=>letter (x.cps.getD i 0)).all id)=x.cps.toList.all letter:=by
 rw[List.all_map,Bool.eq_iff_iff,List.all_eq_true,List.all_eq_true]
 constructor
 ·intro h c hc;obtain⟨i,hi,rfl⟩:=List.getElem_of_mem hc;have hi':i<x.cps.size:=by simpa using hi
  have:=h i (List.mem_range.mpr hi');simpa[Array.getD,hi'] using this
 ·intro h i hi;have hi':=List.mem_range.mp hi;have:=h x.cps[i] (by simp);simpa[Array.getD,hi'] using this
theorem ZbH(x:Str):Yt x=(decide (1≤x.length)&&decide (x.length≤8)&&x.cps.toList.all letter):=rfl
section
variable {P:Program}{w:World}{K:PySem.W.Frag}{mg:Str→Option Value}{base:Heap}
theorem Zhg(T:Tp K mg):Zl P w K mg base (CXX P w) 1 T.f_is_name T.d_is_name ["thing"] (Zc0 T):=by
 refine T.F_is_name.okX Zht (fun vs H Q E h=>?_) (fun cdv A outer s H vs Q E hr h=>?_)
 ·obtain⟨x,rfl,_⟩:=h
  rfl
 ·have hu:=hr.units;obtain⟨x,rfl,hx,q⟩:=h;refine⟨_,(Zf (ZX (WG (YM (K:=K) rfl (ZC (Zhe (K:=K) rfl) (by rfl) T.n_isinstance PyProof.Rows.boot_isinstance (Za (pv 0) (Za (UW (v:= .ty "str") (by rfl) T.n_str PyProof.Rows.boot_str rfl) Zb))) (fun _=>rfl))) (Zg (Zt WB)) ZI)
     (Zf (ZX (PW.pt (Vp (Zz Zb5 (ZC (YC (K:=K) rfl) (by rfl) T.n_len PySem.boot_len (Za (pv 0) Zb)) Zc (ZG _)) (VL (Zz ZeK (ZC (YC (K:=K) rfl) (by rfl) T.n_len PySem.boot_len (Za (pv 0) Zb)) (V1 (v:= .int 8) rfl T.c_MOST_LETTERS ⟨_,rfl⟩) (ZG _))))) (Zg (Zt WB)) ZI)
     (Zg (Zt (ZC (Zc5 (K:=K) rfl rfl) (by rfl) T.n_all PyProof.Rows.boot_all (Za (Wa rfl (Z2 (x:="sign") (zs:=[]) (ix:=[]) (Zj Ul) ["thing"] rfl rfl (by decide+kernel)) (Zls (pv 0)) (fun cl C s H fp=>⟨(Zr (i:=0) (show(["sign"]:List Str).Nodup by decide+kernel) rfl (Or.inl rfl)),Z8,(Zi4 Zes Zes Ys (pv 0) Ys)⟩)) Zb)))))),?_⟩
  try dsimp only[L2.cxX,L2.ZJ,L2.Zm]
  walk_at "rds";refine Zbs (fun c=>?_) (fun c=>?_)
  ·have c':¬1≤x.length:=by simp at c;omega
   walk_at "rds";have e:Yt x=false:=by rw[ZbH,decide_eq_false c'];rfl
   rw[←e];exact q H (Zd.refl H)
  ·have c':1≤x.length:=by simp at c;omega
   walk_at "rds";refine Zbs (fun d=>?_) (fun d=>?_)
   ·have d':¬x.length≤8:=by simp at d;omega
    walk_at "rds";have e:Yt x=false:=by rw[ZbH,decide_eq_false d',Bool.and_false];rfl
    rw[←e];exact q H (Zd.refl H)
   ·have d':x.length≤8:=by simp at d;omega
    have hn:x.cps.size<sizeLine:=Zq (by have:x.cps.size=x.length:=rfl;omega);walk_at "rds";refine Yn Zh2 hn (fun _=>true) (fun i=> .bl (letter (x.cps.getD i 0))) (fun i H' Kc hi sm k=>?_) (fun i H' Kc hi _ sm k=>?_) (fun p H' hp sm hl=>?_)
    ·walk_at "rds";exact k H' (Zd.refl H')
    ·walk_at "rds";rw[Zmb,Zmc,Zem];generalize x.cps.getD i 0=cc at k⊢;refine Zbs (fun z=>?_) (fun z=>?_)
     ·walk_at "rds";have e:(!decide (122<cc))=letter cc:=by
       have z':97≤cc:=by simpa using z
       unfold letter;rw[decide_eq_true z',Bool.true_and]
       by_cases y:cc≤122
       ·rw[decide_eq_true y,decide_eq_false (by omega)];rfl
       ·rw[decide_eq_false y,decide_eq_true (by omega)];rfl
      rw[Zem,e];exact k H' (Zd.refl H')
     ·have e:false=letter cc:=by
       have z':¬97≤cc:=by simpa using z
       unfold letter;rw[decide_eq_false z'];rfl
      rw[e];exact k H' (Zd.refl H')
    ·have hl':H' p=some (.lst (((List.range x.cps.size).map fun i=>letter (x.cps.getD i 0)).map V.bl)):=by
      rw[hl,List.filter_eq_self.mpr (by simp),List.map_map];rfl
     walk_at "rds";rw[Zhn];have e:x.cps.toList.all letter=Yt x:=by rw[ZbH,decide_eq_true c',decide_eq_true d'];rfl
     rw[e];exact q H' sm
end
def WZ{K:PySem.W.Frag}{mg:Str→Option Value}(T:Tp K mg):Sp:=fun vs H Q E=>∃(p:Addr)(x:Str)(hl:HM)(fp:List Addr),vs=[.ref p,.str x]∧Zv T H p hl fp∧x.length≤sizeLine∧hl.names.length≤1000∧
 (Yt x=false→∀H',Zd H H'→E (.ref T.X_NoName) none H')∧(Yt x=true→x∈hl.names→∀H',Zd H H'→E (.ref T.X_Twice) none H')∧
 (Yt x=true→x∉hl.names→30≤hl.names.length→∀H',Zd H H'→E (.ref T.X_TooMuch) none H')∧
 (Yt x=true→x∉hl.names→hl.names.length<30→∀(H':Hp)(fp':List Addr),Zv T H' p ⟨hl.names++ [x],hl.belts⟩ fp'→ZW fp H H'→Wz fp fp' H→Q (.int hl.names.length) H')
theorem VY{K:PySem.W.Frag}{mg:Str→Option Value}{T:Tp K mg}{H:Hp}{Q:VK}{E:XK}{p:Addr}{x:Str}{hl:HM}{fp:List Addr}(h:Zv T H p hl fp)(hn:Yt x=true)(hx:x∉hl.names)(hlen:hl.names.length<30)
  (q:∀(H':Hp)(fp':List Addr),Zv T H' p ⟨hl.names++ [x],hl.belts⟩ fp'→ZW fp H H'→Wz fp fp' H→Q (.int hl.names.length) H'):WZ T (.ref p::([.str x]++ [])) H Q E:=by
 have l8:x.length≤sizeLine:=by
  have:x.length≤8:=by
   have e:=hn;unfold Yt at e;simp only[Bool.and_eq_true,decide_eq_true_eq] at e;exact e.1.2
  exact Nat.le_of_lt (Zq (by omega))
 exact⟨p,x,hl,fp,rfl,h,l8,by omega,fun z=>(by rw[hn] at z;cases z),fun _ z=>absurd z hx,fun _ _ z=>absurd z (by omega),fun _ _ _=>q⟩
section
variable {P:Program}{w:World}{K:PySem.W.Frag}{mg:Str→Option Value}{base:Heap}
theorem UX(T:Tp K mg):Zl P w K mg base (CXX P w) 2 T.f_Hall_work T.d_Hall_work ["self","name"] (WZ T):=by
 have G_is_name:Zl P w K mg base (CXX P w) 1 T.f_is_name T.d_is_name ["thing"] (Zc0 T):=(Zhg T).mono (by decide);have cl_Hall:=T.cl_Hall;have na_Hall:=T.na_Hall;refine T.F_Hall_work.okX Zb1 (fun vs H Q E h=>?_) (fun cdv A outer s H vs Q E hr h=>?_)
 ·obtain⟨p,x,hl,fp,rfl,_⟩:=h
  rfl
 ·have hu:=hr.units;obtain⟨p,x,hl,fp,rfl,hh,hx,hz,e1,e2,e3,q⟩:=h;obtain⟨dx,a,b,bs,rfl,h1,h2,h3,h4,nab,h6⟩:=id hh;have npa:p≠a:=Yd h1 h3 (by intro z;cases z);have nda:dx≠a:=Yd h2 h3 (by intro z;cases z);refine⟨_,(Zf (ZX (WG (YM (K:=K) rfl (Zn G_is_name hr rfl T.m_is_name T.F_is_name.kp T.b_is_name .nil Zi (Za (pv 1) Zb)) (fun _=>rfl))) (Zg (YK T.gx_NoName T.ex_NoName PySem.F.excBase_ValueError rfl (Za Ys Zb))) ZI)
     (Zf (ZX (Zz (Zit hu) (pv 1) (Ya (K:=K) rfl (pv 0) rfl) (by with_unfolding_all rfl)) (Zg (YK T.gx_Twice T.ex_Twice PySem.F.excBase_ValueError rfl (Za Ys Zb))) ZI)
     (Zf (ZX (Zz Zdn (ZC Zg8 (by rfl) T.n_len PySem.boot_len (Za (Ya (K:=K) rfl (pv 0) rfl) Zb)) (V1 (v:= .int 30) rfl T.c_MOST_WORKS ⟨_,rfl⟩) (ZG _)) (Zg (YK T.gx_TooMuch T.ex_TooMuch PySem.F.excBase_ValueError rfl (Za Ys Zb))) ZI)
     (Zf (Zx (i:=2) Zb1.nd rfl (Or.inl rfl) (ZC Zg8 (by rfl) T.n_len PySem.boot_len (Za (Ya (K:=K) rfl (pv 0) rfl) Zb)))
     (Zf (ZaR (pv 2) (ZaG (Ya (K:=K) rfl (pv 0) rfl) (pv 1) (Za1 hu)))
     (Zg (Zt (pv 2)))))))),?_⟩
  try dsimp only[L2.cxX,L2.ZJ,L2.Zm]
  walk_at "rds";refine⟨x,rfl,hx,fun H1 sm1=>?_⟩;have g1:=sm1 _ _ h1;have g3:=sm1 _ _ h3;have hz':(Y2 hl.names).length<sizeLine:=Zq (by rw[UK];exact hz);walk_at "rds";cases hn:Yt x with
  |false=>
   walk_at "rds";exact e1 hn H1 sm1
  |true=>
   walk_at "rds";rw[Zd8];refine Zbs (fun c=>?_) (fun c=>?_)
   ·walk_at "rds";exact e2 hn (of_decide_eq_true c) H1 sm1
   ·have c':x∉hl.names:=fun z=>c (decide_eq_true z);walk_at "rds";rw[UK];refine Zbs (fun d=>?_) (fun d=>?_)
    ·have d':30≤hl.names.length:=by simp at d;omega
     walk_at "rds";exact e3 hn c' d' H1 sm1
    ·have d':hl.names.length<30:=by simp at d;omega
     walk_at "rds";rw[UK,ZgQ c'];have fr:ZW [p,dx,a,b] H (upd H1 a (.dK (Y2 (hl.names++ [x])))):=sm1.frame.trans (Wb (by simp) g3 (by intro _ z;cases z));refine q hn c' d' _ [p,dx,a,b] ⟨dx,a,b,bs,rfl,?_,?_,Ze,?_,nab,h6.keep fr.tups⟩ fr Wz.refl
     ·rw[Zh npa];exact g1
     ·rw[Zh nda];exact sm1 _ _ h2
     ·rw[Zh nab.symm];exact sm1 _ _ h4
end
def Ui{K:PySem.W.Frag}{mg:Str→Option Value}(T:Tp K mg):Sp:=fun vs H Q _=>∃i:Int,vs=[.int i]∧Q (.bl true) H
theorem Zgc{K:PySem.W.Frag}{mg:Str→Option Value}{T:Tp K mg}{H:Hp}{Q:VK}{E:XK}{i:Int}(q:Q (.bl true) H):Ui T ([.int i]++ []) H Q E:=⟨i,rfl,q⟩
local macro_rules| `(tactic|walk_at "rd")=>`(tactic|first|((with_reducible show Nm.Ui _ _ _ _ _);with_reducible refine Nm.Zgc ?_)|fail "none here")
section
variable {P:Program}{w:World}{K:PySem.W.Frag}{mg:Str→Option Value}{base:Heap}
theorem Zf2(T:Tp K mg):Zl P w K mg base (CXX P w) 1 T.f_is_whole T.d_is_whole ["thing"] (Ui T):=by
 refine T.F_is_whole.okX Zgm (fun vs H Q E h=>?_) (fun cdv A outer s H vs Q E hr h=>?_)
 ·obtain⟨i,rfl,_⟩:=h
  rfl
 ·have hu:=hr.units;obtain⟨i,rfl,q⟩:=h;refine⟨_,(Zg (Zt (ZaE (ZC (Zhe (K:=K) rfl) (by rfl) T.n_isinstance PyProof.Rows.boot_isinstance (Za (pv 0) (Za (UW (v:= .ty "int") (by rfl) T.n_int PyProof.Rows.boot_int rfl) Zb))) (Zbl (ZfA (ZC (Zhe (K:=K) rfl) (by rfl) T.n_isinstance PyProof.Rows.boot_isinstance (Za (pv 0) (Za (UW (v:= .ty "bool") (by rfl) T.n_bool PyProof.Rows.boot_bool rfl) Zb)))))))),?_⟩
  try dsimp only[L2.cxX,L2.ZJ,L2.Zm]
  walk_at "rds";exact q
end
def WD{K:PySem.W.Frag}{mg:Str→Option Value}(T:Tp K mg):Sp:=fun vs H Q _=>∃i l:Int,vs=[.int i,.int l]∧Q (.bl (decide (l≤i))) H
theorem Zha{K:PySem.W.Frag}{mg:Str→Option Value}{T:Tp K mg}{H:Hp}{Q:VK}{E:XK}{i l:Int}(q:Q (.bl (decide (l≤i))) H):WD T ([.int i,.int l]++ []) H Q E:=⟨i,l,rfl,q⟩
local macro_rules| `(tactic|walk_at "rd")=>`(tactic|first|((with_reducible show Nm.WD _ _ _ _ _);with_reducible refine Nm.Zha ?_)|fail "none here")
section
variable {P:Program}{w:World}{K:PySem.W.Frag}{mg:Str→Option Value}{base:Heap}
theorem UP(T:Tp K mg):Zl P w K mg base (CXX P w) 2 T.f_is_from T.d_is_from ["thing","least"] (WD T):=by
 have G_is_whole:Zl P w K mg base (CXX P w) 1 T.f_is_whole T.d_is_whole ["thing"] (Ui T):=(Zf2 T).mono (by decide);refine T.F_is_from.okX ZhB (fun vs H Q E h=>?_) (fun cdv A outer s H vs Q E hr h=>?_)
 ·obtain⟨i,l,rfl,_⟩:=h
  rfl
 ·have hu:=hr.units;obtain⟨i,l,rfl,q⟩:=h;refine⟨_,(Zg (Zt (ZaE (Zn G_is_whole hr rfl T.m_is_whole T.F_is_whole.kp T.b_is_whole .nil Zi (Za (pv 0) Zb)) (Zbl (W7 Zdn (pv 0) (pv 1) (ZG _)))))),?_⟩
  try dsimp only[L2.cxX,L2.ZJ,L2.Zm]
  walk_at "rds";exact q
end
def UA{K:PySem.W.Frag}{mg:Str→Option Value}(T:Tp K mg):Sp:=fun vs H Q E=>∃i:Int,vs=[.int i]∧(¬0≤i→E (.ref T.X_NoRate) none H)∧(0≤i→Q .non H)
section
variable {P:Program}{w:World}{K:PySem.W.Frag}{mg:Str→Option Value}{base:Heap}
theorem Zbh(T:Tp K mg):Zl P w K mg base (CXX P w) 3 T.f_need_start T.d_need_start ["start"] (UA T):=by
 have G_is_from:Zl P w K mg base (CXX P w) 2 T.f_is_from T.d_is_from ["thing","least"] (WD T):=(UP T).mono (by decide);refine T.F_need_start.okX ZeB (fun vs H Q E h=>?_) (fun cdv A outer s H vs Q E hr h=>?_)
 ·obtain⟨i,rfl,_⟩:=h
  rfl
 ·have hu:=hr.units;obtain⟨i,rfl,e1,q⟩:=h;refine⟨_,(Zg (ZX (WG (YM (K:=K) rfl (Zn G_is_from hr rfl T.m_is_from T.F_is_from.kp T.b_is_from .nil Zi (Za (pv 0) (Za Zc Zb))) (fun _=>rfl))) (Zg (YK T.gx_NoRate T.ex_NoRate PySem.F.excBase_ValueError rfl (Za Ys Zb))) ZI)),?_⟩
  try dsimp only[L2.cxX,L2.ZJ,L2.Zm]
  walk_at "rds"
  by_cases c:0≤i
  ·rw[decide_eq_true c];walk_at "rds";exact q c
  ·rw[decide_eq_false c];walk_at "rds";exact e1 c
end
def Yl{K:PySem.W.Frag}{mg:Str→Option Value}(T:Tp K mg):Sp:=fun vs H Q _=>∃i b:Int,vs=[.int i,.int b]∧Q (.bl (decide (0≤i∧i<b))) H
theorem Zbo{K:PySem.W.Frag}{mg:Str→Option Value}{T:Tp K mg}{H:Hp}{Q:VK}{E:XK}{i b:Int}(q:Q (.bl (decide (0≤i∧i<b))) H):Yl T ([.int i,.int b]++ []) H Q E:=⟨i,b,rfl,q⟩
local macro_rules| `(tactic|walk_at "rd")=>`(tactic|first|((with_reducible show Nm.Yl _ _ _ _ _);with_reducible refine Nm.Zbo ?_)|fail "none here")
section
variable {P:Program}{w:World}{K:PySem.W.Frag}{mg:Str→Option Value}{base:Heap}
theorem W2(T:Tp K mg):Zl P w K mg base (CXX P w) 3 T.f_is_number_below T.d_is_number_below ["thing","bound"] (Yl T):=by
 have G_is_from:Zl P w K mg base (CXX P w) 2 T.f_is_from T.d_is_from ["thing","least"] (WD T):=(UP T).mono (by decide);refine T.F_is_number_below.okX ZbY (fun vs H Q E h=>?_) (fun cdv A outer s H vs Q E hr h=>?_)
 ·obtain⟨i,b,rfl,_⟩:=h
  rfl
 ·have hu:=hr.units;obtain⟨i,b,rfl,q⟩:=h;refine⟨_,(Zg (Zt (ZaE (Zn G_is_from hr rfl T.m_is_from T.F_is_from.kp T.b_is_from .nil Zi (Za (pv 0) (Za Zc Zb))) (Zbl (W7 Zb5 (pv 0) (pv 1) (ZG _)))))),?_⟩
  try dsimp only[L2.cxX,L2.ZJ,L2.Zm]
  walk_at "rds";refine Zbs (fun c=>?_) (fun c=>?_)
  ·have c':0≤i:=of_decide_eq_true c;walk_at "rds";have e:decide (i<b)=decide (0≤i∧i<b):=by rw[decide_eq_decide];exact⟨fun z=>⟨c',z⟩,fun z=>z.2⟩
   rw[e];exact q
  ·have c':¬0≤i:=fun z=>c (decide_eq_true z);walk_at "rds";have e:false=decide (0≤i∧i<b):=(decide_eq_false (fun z=>c' z.1)).symm;rw[e];exact q
end
def Wq{K:PySem.W.Frag}{mg:Str→Option Value}(T:Tp K mg):Sp:=fun vs H Q E=>∃(p:Addr)(i:Int)(hl:HM)(fp:List Addr),vs=[.ref p,.int i]∧Zv T H p hl fp∧
 (¬(0≤i∧i<hl.names.length)→E (.ref T.X_NoWork) none H)∧(0≤i→i<hl.names.length→Q .non H)
section
variable {P:Program}{w:World}{K:PySem.W.Frag}{mg:Str→Option Value}{base:Heap}
theorem Vd(T:Tp K mg):Zl P w K mg base (CXX P w) 4 T.f_Hall_need_work T.d_Hall_need_work ["self","work"] (Wq T):=by
 have G_is_number_below:Zl P w K mg base (CXX P w) 3 T.f_is_number_below T.d_is_number_below ["thing","bound"] (Yl T):=(W2 T).mono (by decide);have cl_Hall:=T.cl_Hall;have na_Hall:=T.na_Hall;refine T.F_Hall_need_work.okX Zcn (fun vs H Q E h=>?_) (fun cdv A outer s H vs Q E hr h=>?_)
 ·obtain⟨p,i,hl,fp,rfl,_⟩:=h
  rfl
 ·have hu:=hr.units;obtain⟨p,i,hl,fp,rfl,hh,e1,q⟩:=h;obtain⟨dx,a,b,bs,rfl,h1,h2,h3,h4,nab,h6⟩:=id hh;refine⟨_,(Zg (ZX (WG (YM (K:=K) rfl (Zn G_is_number_below hr rfl T.m_is_number_below T.F_is_number_below.kp T.b_is_number_below .nil Zi (Za (pv 1) (Za (ZC Zg8 (by rfl) T.n_len PySem.boot_len (Za (Ya (K:=K) rfl (pv 0) rfl) Zb)) Zb))) (fun _=>rfl))) (Zg (YK T.gx_NoWork T.ex_NoWork PySem.F.excBase_ValueError rfl (Za Ys Zb))) ZI)),?_⟩
  try dsimp only[L2.cxX,L2.ZJ,L2.Zm]
  walk_at "rds";rw[UK]
  by_cases c:0≤i∧i<hl.names.length
  ·rw[decide_eq_true c];walk_at "rds";exact q c.1 c.2
  ·rw[decide_eq_false c];walk_at "rds";exact e1 c
end
def Zat{K:PySem.W.Frag}{mg:Str→Option Value}(T:Tp K mg):Sp:=fun vs H Q E=>∃(p u:Addr)(b:B5)(hl:HM)(fp:List Addr),vs=[.ref p,.ref u]∧Zv T H p hl fp∧H u=some (.tup b.v)∧hl.belts.length≤1000∧
 ∀(H':Hp)(fp':List Addr),Zv T H' p ⟨hl.names,hl.belts++ [b]⟩ fp'→ZW fp H H'→Wz fp fp' H→Q (.int hl.belts.length) H'
section
variable {P:Program}{w:World}{K:PySem.W.Frag}{mg:Str→Option Value}{base:Heap}
theorem Zcz(T:Tp K mg):Zl P w K mg base (CXX P w) 1 T.f_Hall_lay T.d_Hall_lay ["self","row"] (Zat T):=by
 have cl_Hall:=T.cl_Hall;have na_Hall:=T.na_Hall;refine T.F_Hall_lay.okX Zf9 (fun vs H Q E h=>?_) (fun cdv A outer s H vs Q E hr h=>?_)
 ·obtain⟨p,u,b,hl,fp,rfl,_⟩:=h
  rfl
 ·have hu:=hr.units;obtain⟨p,u,b,hl,fp,rfl,hh,hu',hz,q⟩:=h;obtain⟨dx,a,bb,bs,rfl,h1,h2,h3,h4,nab,h6⟩:=id hh;have npb:p≠bb:=Yd h1 h4 (by intro z;cases z);have ndb:dx≠bb:=Yd h2 h4 (by intro z;cases z);have nub:u≠bb:=Yd hu' h4 (by intro z;cases z);have hz':bs.length<sizeLine:=Zq (by rw[h6.length];exact hz);have hlb:=h6.length;refine⟨_,(Zf (ZL (WK (K:=K) rfl PySem.F.plainAttrs_list PySem.F.slot_list_append PySem.F.type_list_append Ym (Ya (K:=K) rfl (pv 0) rfl) (Za (pv 1) Zb)))
     (Zg (Zt (Zo Zad (ZC (YC (K:=K) rfl) (by rfl) T.n_len PySem.boot_len (Za (Ya (K:=K) rfl (pv 0) rfl) Zb)) Zc)))),?_⟩
  try dsimp only[L2.cxX,L2.ZJ,L2.Zm]
  walk_at "rds";have k1:(upd H bb (.lst (bs++ [.ref u]))) p=some (.ins T.C_Hall dx [("numbers",.ref a),("rows",.ref bb)]):=by rw[Zh npb];exact h1
  have k4:(upd H bb (.lst (bs++ [.ref u]))) bb=some (.lst (bs++ [.ref u])):=Ze;walk_at "rds";have el:((bs++ [V.ref u]).length:Int)-1=hl.belts.length:=by simp[hlb]
  rw[el];have fr:ZW [p,dx,a,bb] H (upd H bb (.lst (bs++ [.ref u]))):=Wb (by simp) h4 (by intro _ z;cases z);refine q _ [p,dx,a,bb] ⟨dx,a,bb,_,rfl,k1,?_,?_,k4,nab,(h6.keep fr.tups).snoc (fr.tups _ _ hu')⟩ fr Wz.refl
  ·rw[Zh ndb];exact h2
  ·rw[Zh nab];exact h3
end
def U7{K:PySem.W.Frag}{mg:Str→Option Value}(T:Tp K mg):Sp:=fun vs H Q E=>∃(p:Addr)(b:B5)(hl:HM)(fp:List Addr),vs= .ref p::b.v∧Zv T H p hl fp∧hl.belts.length≤1000∧
 (¬(0≤b.giver∧b.giver<hl.names.length∧0≤b.taker∧b.taker<hl.names.length)→∀H',Zd H H'→E (.ref T.X_NoWork) none H')∧
 ((0≤b.giver∧b.giver<hl.names.length∧0≤b.taker∧b.taker<hl.names.length)→¬(1≤b.give∧1≤b.take∧0≤b.start)→∀H',Zd H H'→E (.ref T.X_NoRate) none H')∧
 ((0≤b.giver∧b.giver<hl.names.length∧0≤b.taker∧b.taker<hl.names.length)→(1≤b.give∧1≤b.take∧0≤b.start)→60≤hl.belts.length→∀H',Zd H H'→E (.ref T.X_TooMuch) none H')∧
 ((0≤b.giver∧b.giver<hl.names.length∧0≤b.taker∧b.taker<hl.names.length)→(1≤b.give∧1≤b.take∧0≤b.start)→hl.belts.length<60→∀(H':Hp)(fp':List Addr),Zv T H' p ⟨hl.names,hl.belts++ [b]⟩ fp'→ZW fp H H'→Wz fp fp' H→Q (.int hl.belts.length) H')
theorem Zfl{K:PySem.W.Frag}{mg:Str→Option Value}{T:Tp K mg}{H:Hp}{Q:VK}{E:XK}{p:Addr}{g t gv tk st:Int}{hl:HM}{fp:List Addr}(h:Zv T H p hl fp)
  (h1:0≤g) (h2:g<hl.names.length) (h3:0≤t) (h4:t<hl.names.length) (h5:1≤gv) (h6:1≤tk) (h7:0≤st) (hlen:hl.belts.length<60)
  (q:∀(H':Hp)(fp':List Addr),Zv T H' p ⟨hl.names,hl.belts++ [⟨g,t,gv,tk,st⟩]⟩ fp'→ZW fp H H'→Wz fp fp' H→Q (.int hl.belts.length) H'):U7 T [.ref p,.int g,.int t,.int gv,.int tk,.int st] H Q E:=
 ⟨p,⟨g,t,gv,tk,st⟩,hl,fp,rfl,h,by omega,fun z=>absurd ⟨h1,h2,h3,h4⟩ z,fun _ z=>absurd ⟨h5,h6,h7⟩ z,fun _ _ z=>absurd z (by omega),fun _ _ _=>q⟩
section
variable {P:Program}{w:World}{K:PySem.W.Frag}{mg:Str→Option Value}{base:Heap}
theorem ZfJ(T:Tp K mg):Zl P w K mg base (CXX P w) 5 T.f_Hall_belt T.d_Hall_belt ["self","giver","taker","give","take","start"] (U7 T):=by
 have G_need_start:Zl P w K mg base (CXX P w) 4 T.f_need_start T.d_need_start ["start"] (UA T):=(Zbh T).mono (by decide);have G_is_from:Zl P w K mg base (CXX P w) 4 T.f_is_from T.d_is_from ["thing","least"] (WD T):=(UP T).mono (by decide);have G_Hall_need_work:Zl P w K mg base (CXX P w) 4 T.f_Hall_need_work T.d_Hall_need_work ["self","work"] (Wq T):=(Vd T).mono (by decide);have G_Hall_lay:Zl P w K mg base (CXX P w) 4 T.f_Hall_lay T.d_Hall_lay ["self","row"] (Zat T):=(Zcz T).mono (by decide);have cl_Hall:=T.cl_Hall;have na_Hall:=T.na_Hall;refine T.F_Hall_belt.okX Zfw (fun vs H Q E h=>?_) (fun cdv A outer s H vs Q E hr h=>?_)
 ·obtain⟨p,b,hl,fp,rfl,_⟩:=h
  rfl
 ·have hu:=hr.units;obtain⟨p,b,hl,fp,rfl,hh,hz,e1,e2,e3,q⟩:=h;obtain⟨dx,a,bb,bs,rfl,h1,h2,h3,h4,nab,h6⟩:=id hh;obtain⟨g,t,gv,tk,st⟩:=b;have hlb:=h6.length;refine⟨_,(Zf (ZL (ZV (pv 0) T.cl_Hall T.M_Hall_need_work G_Hall_need_work hr T.b_Hall_need_work .nil Zi (Za (pv 1) Zb)))
     (Zf (ZL (ZV (pv 0) T.cl_Hall T.M_Hall_need_work G_Hall_need_work hr T.b_Hall_need_work .nil Zi (Za (pv 2) Zb)))
     (Zf (ZX (PW.pt (Vp (WG (YM (K:=K) rfl (Zn G_is_from hr rfl T.m_is_from T.F_is_from.kp T.b_is_from .nil Zi (Za (pv 3) (Za Zc Zb))) (fun _=>rfl))) (VL (WG (YM (K:=K) rfl (Zn G_is_from hr rfl T.m_is_from T.F_is_from.kp T.b_is_from .nil Zi (Za (pv 4) (Za Zc Zb))) (fun _=>rfl)))))) (Zg (YK T.gx_NoRate T.ex_NoRate PySem.F.excBase_ValueError rfl (Za Ys Zb))) ZI)
     (Zf (ZL (Zn G_need_start hr rfl T.m_need_start T.F_need_start.kp T.b_need_start .nil Zi (Za (pv 5) Zb)))
     (Zf (ZX (Zz Zdn (ZC (YC (K:=K) rfl) (by rfl) T.n_len PySem.boot_len (Za (Ya (K:=K) rfl (pv 0) rfl) Zb)) (V1 (v:= .int 60) rfl T.c_MOST_BELTS ⟨_,rfl⟩) (ZG _)) (Zg (YK T.gx_TooMuch T.ex_TooMuch PySem.F.excBase_ValueError rfl (Za Ys Zb))) ZI)
     (Zg (Zt (ZV (pv 0) T.cl_Hall T.M_Hall_lay G_Hall_lay hr T.b_Hall_lay .nil Zi (Za (Yu (Za (pv 1) (Za (pv 2) (Za (pv 3) (Za (pv 4) (Za (pv 5) Zb)))))) Zb))))))))),?_⟩
  try dsimp only[L2.cxX,L2.ZJ,L2.Zm]
  dsimp only[B5.v] at*;walk_at "rds";refine⟨p,g,hl,_,rfl,hh,fun z=>e1 (by omega) H (Zd.refl H),fun g0 g1=>?_⟩;walk_at "rds";refine⟨p,t,hl,_,rfl,hh,fun z=>e1 (by omega) H (Zd.refl H),fun t0 t1=>?_⟩;have ws:0≤g∧g<hl.names.length∧0≤t∧t<hl.names.length:=⟨g0,g1,t0,t1⟩;walk_at "rds"
  by_cases c:1≤gv
  ·rw[decide_eq_true c];walk_at "rds"
   by_cases d:1≤tk
   ·rw[decide_eq_true d];walk_at "rds";refine⟨st,rfl,fun z=>e2 ws (by omega) H (Zd.refl H),fun f=>?_⟩;walk_at "rds";refine Rd.ifD (fun l=>?_) (fun l=>?_)
    ·walk_at "rds";exact e3 ws (by omega) (by omega) H (Zd.refl H)
    walk_at "rds";refine⟨by show 5≤sizeLine;decide,fun u hu'=>?_⟩;have sn:Zd H (upd H u (.tup [.int g,.int t,.int gv,.int tk,.int st])):=Zk hu';have hh':=hh.same sn;walk_at "rds";refine⟨p,u,⟨g,t,gv,tk,st⟩,hl,_,rfl,hh',Ze,hz,fun H' fp' hh2 fr gr=>?_⟩;refine q ws (by omega) (by omega) H' fp' hh2 (sn.frame.trans fr) (fun x hx=>?_);rcases gr x hx with z|z
    ·exact .inl z
    ·refine .inr ?_;cases e:H x with
     |none=>rfl
     |some o=>rw[sn _ _ e] at z;cases z
   ·rw[decide_eq_false d];walk_at "rds";exact e2 ws (by omega) H (Zd.refl H)
  ·rw[decide_eq_false c];walk_at "rds";exact e2 ws (by omega) H (Zd.refl H)
end
def WU{K:PySem.W.Frag}{mg:Str→Option Value}(T:Tp K mg):Sp:=fun vs H Q _=>∃p dx:Addr,vs=[.ref p]∧H p=some (.ins T.C_Hall dx [])∧H dx=some (.own p)∧
 ∀(H':Hp)(fp:List Addr),Zv T H' p ⟨[],[]⟩ fp→(∀x∈fp,x=p∨x=dx∨H x=none)→(∀b o,H b=some o→b≠p→H' b=some o)→Q .non H'
theorem ZfR{K:PySem.W.Frag}{mg:Str→Option Value}{T:Tp K mg}{H:Hp}{Q:Addr→Hp→Prop}{E:XK}
  (q:∀(p:Addr)(fp:List Addr)(H':Hp),Zv T H' p ⟨[],[]⟩ fp→(∀x∈fp,H x=none)→Zd H H'→Q p H'):
  ∀x dx,H x=none→H dx=none→dx≠x→WU T (.ref x::([]++ [])) (upd (upd H dx (.own x)) x (.ins T.C_Hall dx [])) (fun v H2=>v= .non∧Q x H2) E:=by
 intro x dx hx hdx ne;refine⟨x,dx,rfl,Ze,by rw[Zh ne,Ze],fun H' fp hh hf hk=>⟨rfl,q x fp H' hh (fun y hy=>?_) (fun b o e=>hk b o ?_ (Zy e hx))⟩⟩
 ·rcases hf y hy with rfl|rfl|h
  ·exact hx
  ·exact hdx
  ·by_cases h1:y=x
   ·rw[h1];exact hx
   ·by_cases h2:y=dx
    ·rw[h2];exact hdx
    ·rw[Zh h1,Zh h2] at h;exact h
 ·rw[Zh (Zy e hx),Zh (Zy e hdx)];exact e
local macro_rules| `(tactic|walk_at "rd")=>`(tactic|first|with_reducible refine Nm.ZfR ?_|fail "none here")
section
variable {P:Program}{w:World}{K:PySem.W.Frag}{mg:Str→Option Value}{base:Heap}
theorem U5(T:Tp K mg):Zl P w K mg base (CXX P w) 1 T.f_Hall_init T.d_Hall_init ["self"] (WU T):=by
 have cl_Hall:=T.cl_Hall;have na_Hall:=T.na_Hall;refine T.F_Hall_init.okX Zfu (fun vs H Q E h=>?_) (fun cdv A outer s H vs Q E hr h=>?_)
 ·obtain⟨p,dx,rfl,_⟩:=h
  rfl
 ·have hu:=hr.units;obtain⟨p,dx,rfl,hp,hdx,q⟩:=h;refine⟨_,(Zf (ZaL (K:=K) rfl (pv 0) ZcR rfl)
     (Zg (ZaL (K:=K) rfl (pv 0) (YH Zb) rfl))),?_⟩
  try dsimp only[L2.cxX,L2.ZJ,L2.Zm]
  walk_at "rds";intro a ha;have npa:p≠a:=Zy hp ha;have nda:dx≠a:=Zy hdx ha;have npd:p≠dx:=Yd hp hdx (by intro z;cases z);have hp1:(upd H a (.dK [])) p=some (.ins T.C_Hall dx []):=by rw[Zh npa];exact hp
  walk_at "rds";refine⟨Nat.zero_le _,fun b hb=>?_⟩;have hb0:H b=none:=by
   by_cases h1:b=p
   ·rw[h1,Ze] at hb;cases hb
   ·by_cases h2:b=a
    ·rw[h2];exact ha
    ·rw[Zh h1,Zh h2] at hb;exact hb
  have npb:p≠b:=Zy hp hb0;have ndb:dx≠b:=Zy hdx hb0;have nab:a≠b:=by
   intro z;rw[←z,Zh npa.symm,Ze] at hb;cases hb
  have hp2:(upd (upd (upd H a (.dK [])) p (.ins T.C_Hall dx [("numbers",.ref a)])) b (.lst [])) p=some (.ins T.C_Hall dx [("numbers",.ref a)]):=by rw[Zh npb,Ze]
  walk_at "rds";refine q _ [p,dx,a,b] ⟨dx,a,b,[],rfl,Ze,?_,?_,?_,nab,.nil⟩ (fun x hx=>?_) (fun c o e hc=>?_)
  ·rw[Zh npd.symm,Zh ndb,Zh npd.symm,Zh nda];exact hdx
  ·rw[Zh npa.symm,Zh nab,Zh npa.symm,Ze];rfl
  ·rw[Zh npb.symm,Ze]
  ·simp only[List.mem_cons,List.not_mem_nil,or_false] at hx;rcases hx with rfl|rfl|rfl|rfl
   ·exact .inl rfl
   ·exact .inr (.inl rfl)
   ·exact .inr (.inr ha)
   ·exact .inr (.inr hb0)
  ·rw[Zh hc,Zh (Zy e hb0),Zh hc,Zh (Zy e ha)];exact e
end
def Zec{K:PySem.W.Frag}{mg:Str→Option Value}(T:Tp K mg):Sp:=fun vs H Q _=>∃(m:Int)(q:Addr)(bs:List V)(ls:List B5),vs=[.int m,.ref q]∧1≤m∧m≤30∧H q=some (.lst bs)∧ZS H bs ls∧ls.length≤60∧(∀l∈ls,Zgt m l)∧
 ∀(hp:Addr)(fp:List Addr)(H':Hp),Zv T H' hp ⟨(List.range m.toNat).map nm17,ls⟩ fp→(∀x∈fp,H x=none)→Zd H H'→Q (.ref hp) H'
theorem ZfT{H H1 H2:Hp}{fp fp2:List Addr}(s:Zd H H1)(n:∀x∈fp,H x=none)(fr:ZW fp H1 H2)(gr:Wz fp fp2 H1):Zd H H2∧∀x∈fp2,H x=none:=by
 refine⟨fun b o e=>fr.keep _ _ (s _ _ e) (fun z=>by have:=n b z;rw[e] at this;cases this),fun x hx=>?_⟩;rcases gr x hx with z|z
 ·exact n x z
 ·exact ZY s z
section
variable {P:Program}{w:World}{K:PySem.W.Frag}{mg:Str→Option Value}{base:Heap}
theorem ZhT(T:Tp K mg):Zl P w K mg base (CXX P w) 6 T.f_l_made T.d_l_made ["_law_many","_law_lines_here"] (Zec T):=by
 have G_Hall_work:Zl P w K mg base (CXX P w) 5 T.f_Hall_work T.d_Hall_work ["self","name"] (WZ T):=(UX T).mono (by decide);have G_Hall_belt:Zl P w K mg base (CXX P w) 5 T.f_Hall_belt T.d_Hall_belt ["self","giver","taker","give","take","start"] (U7 T):=(ZfJ T).mono (by decide);have G_Hall_init:Zl P w K mg base (CXX P w) 4 T.f_Hall_init T.d_Hall_init ["self"] (WU T):=(U5 T).mono (by decide);have cl_Hall:=T.cl_Hall;have na_Hall:=T.na_Hall;refine T.F_l_made.okX Ur (fun vs H Q E h=>?_) (fun cdv A outer s H vs Q E hr h=>?_)
 ·obtain⟨m,q,bs,ls,rfl,_⟩:=h
  rfl
 ·have hu:=hr.units;obtain⟨m,qa,bs,ls,rfl,m1,m2,hq,hT,hz,hd,q⟩:=h;have al:=Zkj;have hbl:=hT.length;refine⟨_,(Zf (Zx (i:=2) Ur.nd rfl (Or.inl rfl) Ys)
     (Zf (Zx (i:=3) Ur.nd rfl (Or.inl rfl) (ZeO T.mk_Hall G_Hall_init hr rfl T.g_Hall T.b_Hall_init .nil Zi))
     (Zf (Yf PassesOwn.leaving rfl (Yb rfl T.n_range (Za (pv 0) Zb)) (Zr (i:=4) Ur.nd rfl (Or.inl rfl)) (Zg (ZL (ZV (pv 3) T.cl_Hall T.M_Hall_work G_Hall_work hr T.b_Hall_work .nil Zi (Za (Zo (ZM (K:=K) rfl) (Zo (ZM (K:=K) rfl) (Zp (Zu (K:=K) rfl) (pv 2) (Zo Z1 (Zo Y7 Zc (pv 4)) Zc) (fun _ _=>rfl)) (Zp (Zu (K:=K) rfl) (pv 2) (Zo Z1 (Zo Y7 Zc (pv 4)) Zc) (fun _ _=>rfl))) (Zo Zka Ys (Zo Z4 (pv 4) Zc))) Zb)))))
     (Zf (Yf PassesOwn.leaving rfl (Z0 (K:=K) rfl (pv 1)) (Zr (i:=5) Ur.nd rfl (Or.inl rfl)) (Zg (ZL (ZV (pv 3) T.cl_Hall T.M_Hall_belt G_Hall_belt hr T.b_Hall_belt .nil Zi (Za (Zp (Zu (K:=K) rfl) (pv 5) Zc (fun _ _=>rfl)) (Za (Zp (Zu (K:=K) rfl) (pv 5) Zc (fun _ _=>rfl)) (Za (Zp (Zu (K:=K) rfl) (pv 5) Zc (fun _ _=>rfl)) (Za (Zp (Zu (K:=K) rfl) (pv 5) Zc (fun _ _=>rfl)) (Za (Zp (Zu (K:=K) rfl) (pv 5) Zc (fun _ _=>rfl)) Zb)))))))))
     (Zg (Zt (pv 3))))))),?_⟩
  try dsimp only[L2.cxX,L2.ZJ,L2.Zm]
  walk_at "rds";intro hp fp H1 hh hf sm;walk_at "rds";refine Wg (n:=m.toNat) (fun i σ H'=>∃fp' k0,σ=[some (.int m),some (.ref qa),some (.str "abcdefghijklmnopqrstuvwxyz"),some (.ref hp),k0,none]∧Zv T H' hp ⟨(List.range i).map nm17,[]⟩ fp'∧Zd H H'∧∀x∈fp',H x=none) ⟨fp,none,rfl,hh,sm,hf⟩ ?_ ?_
  ·rintro i σ H' hi ⟨fp',k0,rfl,hh',s',n'⟩;walk_at "rds";have e1:(7*(0+(i:Int))) % 26=((7*i % 26:Nat):Int):=by omega
   have e2:(11*(0+(i:Int))) % 26=((11*i % 26:Nat):Int):=by omega
   have e3:(0+(i:Int)) / 26=(i:Int) / 26:=by rw[Int.zero_add]
   rw[e1];refine Rd.Zlm al (Yo (Zh4 (7*i % 26) (Nat.mod_lt _ (by decide)))) ?_;walk_at "rds";rw[e2];refine Rd.Zlm al (Yo (Zh4 (11*i % 26) (Nat.mod_lt _ (by decide)))) ?_;refine Rd.ZiU (by show 1+1≤sizeLine;decide) ?_;walk_at "rds";rw[e3];obtain⟨mo,ml⟩:=Znk (n:=(i:Int) / 26) (by omega);refine Rd.Znl mo ?_;have z3:(3:Nat)≤sizeLine:=by decide
   refine Rd.ZiU (by show 2+(Txt.mul "x" ((i:Int) / 26)).length≤sizeLine;omega) ?_;walk_at "rds";refine VY hh' (ZgA i (by omega)) (ZfK i (by omega)) (by simp;omega) (fun H2 fp2 hh2 fr gr=>?_);obtain⟨s2,n2⟩:=ZfT s' n' fr gr;refine⟨fp2,_,rfl,?_,s2,n2⟩;rw[List.range_succ,List.map_append];exact hh2
  ·rintro σ H' ⟨fp',k0,rfl,hh',s',n'⟩;have hq':=s' _ _ hq;walk_at "rds";refine VZ (ZU (SqL.of hq)) (fun i σ H'=>∃(fp':List Addr)(a1:Option V),σ=[some (.int m),some (.ref qa),some (.str "abcdefghijklmnopqrstuvwxyz"),some (.ref hp),k0,a1]∧Zv T H' hp ⟨(List.range m.toNat).map nm17,ls.take i⟩ fp'∧Zd H H'∧∀x∈fp',H x=none)
    ⟨fp',_,rfl,hh',s',n'⟩ (fun i σ H' ⟨_,_,_,_,s,_⟩=>s) ?_ ?_
   ·rintro i σ H4 hi ⟨fp4,a1,rfl,hh4,s4,n4⟩;have hil:i<ls.length:=by omega
    obtain⟨t,ht1,ht2⟩:=hT.at (List.getElem?_eq_getElem hil);have eb:bs.getD i .non= .ref t:=by simp[List.getD,ht1]
    rw[eb];have hm:=hd _ (List.getElem_mem hil);have et:=List.take_succ_eq_append_getElem hil;have ht4:=s4 _ _ ht2;generalize ls[i]=l at*;obtain⟨r1,r2,r3,r4⟩:=hm.rg;obtain⟨z1,z3⟩:=hm.sz;dsimp only[B5.v] at ht4;walk_at "rds";refine Zfl hh4 r1 (by simp;omega) r3 (by simp;omega) z1 z3 hm.st (by simp;omega) (fun H5 fp5 hh5 fr5 gr5=>?_);obtain⟨s5,n5⟩:=ZfT s4 n4 fr5 gr5;refine⟨fp5,_,rfl,?_,s5,n5⟩;rw[et];exact hh5
   ·rintro σ H4 ⟨fp4,a1,rfl,hh4,s4,n4⟩;rw[hbl,List.take_length] at hh4;walk_at "rds";exact q hp fp4 H4 hh4 n4 s4
end
def Yi{K:PySem.W.Frag}{mg:Str→Option Value}(T:Tp K mg):Sp:=fun vs H Q _=>∃(p:Addr)(hl:HM)(fp:List Addr),vs=[.ref p]∧Zv T H p hl fp∧
 ∀(q:Addr)(H':Hp)(bs:List V),H q=none→Zd H H'→H' q=some (.lst bs)→ZS H' bs hl.belts→Q (.ref q) H'
theorem Zeu{K:PySem.W.Frag}{mg:Str→Option Value}{T:Tp K mg}{H:Hp}{Q:VK}{E:XK}{p:Addr}{hl:HM}{fp:List Addr}(h:Zv T H p hl fp)
  (q:∀(q:Addr)(H':Hp)(bs:List V),H q=none→Zd H H'→H' q=some (.lst bs)→ZS H' bs hl.belts→Q (.ref q) H'):Yi T (.ref p::([]++ [])) H Q E:=⟨p,hl,fp,rfl,h,q⟩
local macro_rules| `(tactic|walk_at "rd")=>`(tactic|first|((with_reducible show Nm.Yi _ _ _ _ _);with_reducible refine Nm.Zeu (by with_reducible assumption) ?_)|fail "none here")
section
variable {P:Program}{w:World}{K:PySem.W.Frag}{mg:Str→Option Value}{base:Heap}
theorem Y5(T:Tp K mg):Zl P w K mg base (CXX P w) 1 T.f_Hall_belts T.d_Hall_belts ["self"] (Yi T):=by
 have cl_Hall:=T.cl_Hall;have na_Hall:=T.na_Hall;refine T.F_Hall_belts.okX ZeG (fun vs H Q E h=>?_) (fun cdv A outer s H vs Q E hr h=>?_)
 ·obtain⟨p,hl,fp,rfl,_⟩:=h
  rfl
 ·have hu:=hr.units;obtain⟨p,hl,fp,rfl,hh,q⟩:=h;obtain⟨dx,a,b,bs,rfl,h1,h2,h3,h4,nab,h6⟩:=id hh;refine⟨_,(Zg (Zt (Uq (ZcT (K:=K) rfl) (by rfl) T.n_list PyProof.Rows.boot_list (Za (Ya (K:=K) rfl (pv 0) rfl) Zb)))),?_⟩
  try dsimp only[L2.cxX,L2.ZJ,L2.Zm]
  walk_at "rds";refine Rd.ZdD (.of h4) (fun l hl'=>?_);exact q l _ bs hl' (Zk hl') Ze (h6.keep ((Zk hl').frame (A:=[])).tups)
end
def Zbk{K:PySem.W.Frag}{mg:Str→Option Value}(T:Tp K mg):Sp:=fun vs H Q _=>∃(p:Addr)(hl:HM)(fp:List Addr),vs=[.ref p]∧Zv T H p hl fp∧hl.belts.length≤1000∧
 ∀(r:Addr)(H':Hp),H r=none→Zd H H'→H' r=some (.lst ((startsL hl.belts).map V.int))→Q (.ref r) H'
section
variable {P:Program}{w:World}{K:PySem.W.Frag}{mg:Str→Option Value}{base:Heap}
theorem Ze9(T:Tp K mg):Zl P w K mg base (CXX P w) 2 T.f_starts_of T.d_starts_of ["hall"] (Zbk T):=by
 have G_Hall_belts:Zl P w K mg base (CXX P w) 1 T.f_Hall_belts T.d_Hall_belts ["self"] (Yi T):=(Y5 T).mono (by decide);have cl_Hall:=T.cl_Hall;have na_Hall:=T.na_Hall;refine T.F_starts_of.okX Zfc (fun vs H Q E h=>?_) (fun cdv A outer s H vs Q E hr h=>?_)
 ·obtain⟨p,hl,fp,rfl,_⟩:=h
  rfl
 ·have hu:=hr.units;obtain⟨p,hl,fp,rfl,hh,hz,q⟩:=h;refine⟨_,(Zg (Zt (Wa rfl (Z2 (x:="row") (zs:=[]) (ix:=[]) (Zj Vj) ["hall"] rfl rfl (by decide+kernel)) (Z0 (K:=K) rfl (Z3 (pv 0) T.cl_Hall T.M_Hall_belts G_Hall_belts hr T.b_Hall_belts .nil Zi)) (fun cl C s H fp=>⟨(Zr (i:=0) (show(["row"]:List Str).Nodup by decide+kernel) rfl (Or.inl rfl)),Z8,(Zp (Zu (K:=K) rfl) (pv 0) Zc (fun _ _=>rfl))⟩)))),?_⟩
  try dsimp only[L2.cxX,L2.ZJ,L2.Zm]
  walk_at "rds";intro u H1 bs hu0 sm1 hu1 hT;have hl1:=hT.length;have hb:bs.length<sizeLine:=Zq (by rw[hl1];exact hz);walk_at "rds";refine Yn (ZU (SqL.of hu1)) hb (fun _=>true) (fun i=> .int (hl.belts.getD i dB).start) (fun i H' Kc hi sm k=>?_) (fun i H' Kc hi _ sm k=>?_) (fun r H' hr sm hr'=>?_)
  ·walk_at "rds";exact k H' (Zd.refl H')
  ·have hil:i<hl.belts.length:=by omega
   obtain⟨t,ht1,ht2⟩:=hT.getD (i:=i) hil;rw[ht1];have ht3:=sm _ _ ht2;generalize hl.belts.getD i dB=bb at*;dsimp only[B5.v] at ht3;walk_at "rds";exact k H' (Zd.refl H')
  ·refine q r H' (ZY sm1 hr) (sm1.trans sm) ?_;rw[hr',List.filter_eq_self.mpr (by simp),hl1];unfold startsL;refine congrArg (fun z=>some (HO.lst z)) ?_;refine List.ext_getElem (by simp) fun i h1 h2=>?_;have:i<hl.belts.length:=by simpa using h1
   simp[List.getD,this]
end
def Zbd{K:PySem.W.Frag}{mg:Str→Option Value}(T:Tp K mg):Sp:=fun vs H Q E=>∃(p c:Addr)(hl:HM)(fp:List Addr)(rs:List Int),vs=[.ref p,.ref c]∧Zv T H p hl fp∧hl.belts.length≤1000∧SqL K H c (rs.map V.int)∧rs.length≤1000∧
 (¬Vw rs (startsL hl.belts)→∀H',Zd H H'→E (.ref T.X_NoRoom) none H')∧(Vw rs (startsL hl.belts)→∀H',Zd H H'→Q .non H')
section
variable {P:Program}{w:World}{K:PySem.W.Frag}{mg:Str→Option Value}{base:Heap}
theorem ZeF(T:Tp K mg):Zl P w K mg base (CXX P w) 3 T.f_need_rooms T.d_need_rooms ["hall","rooms"] (Zbd T):=by
 have G_starts_of:Zl P w K mg base (CXX P w) 2 T.f_starts_of T.d_starts_of ["hall"] (Zbk T):=(Ze9 T).mono (by decide);have G_is_from:Zl P w K mg base (CXX P w) 2 T.f_is_from T.d_is_from ["thing","least"] (WD T):=(UP T).mono (by decide);refine T.F_need_rooms.okX Zbc (fun vs H Q E h=>?_) (fun cdv A outer s H vs Q E hr h=>?_)
 ·obtain⟨p,c,hl,fp,rs,rfl,_⟩:=h
  rfl
 ·have hu:=hr.units;obtain⟨p,c,hl,fp,rs,rfl,hh,hz,hc,hrz,e1,q⟩:=h;refine⟨_,(Zf (Zx (i:=2) Zbc.nd rfl (Or.inl rfl) (Zn G_starts_of hr rfl T.m_starts_of T.F_starts_of.kp T.b_starts_of .nil Zi (Za (pv 0) Zb)))
     (Zf (ZX (PW.pt (Vp (WG (YM (K:=K) rfl (ZC (ZkP (K:=K) rfl) (by rfl) T.n_isinstance PyProof.Rows.boot_isinstance (Za (pv 1) (Za (Yu (Za (UW (v:= .ty "list") (by rfl) T.n_list PyProof.Rows.boot_list rfl) (Za (UW (v:= .ty "tuple") (by rfl) T.n_tuple PyProof.Rows.boot_tuple rfl) Zb))) Zb))) (fun _=>rfl))) (VL (Zz (Yr (K:=K) rfl hu) (ZC (YC (K:=K) rfl) (by rfl) T.n_len PySem.boot_len (Za (pv 1) Zb)) (ZC (YC (K:=K) rfl) (by rfl) T.n_len PySem.boot_len (Za (pv 2) Zb)) (ZG _))))) (Zg (YK T.gx_NoRoom T.ex_NoRoom PySem.F.excBase_ValueError rfl (Za Ys Zb))) ZI)
     (Zg (ZX (WG (YM (K:=K) rfl (ZC (Zc5 (K:=K) rfl rfl) (by rfl) T.n_all PyProof.Rows.boot_all (Za (YY (xs:=["room","start"]) rfl (Z2 (x:="room") (zs:=[]) (ix:=[]) (Zj WV) ["hall","rooms","starts"] rfl rfl (by decide+kernel)) (ZeX (K:=K) rfl rfl T.n_zip (Za (pv 1) (Za (pv 2) Zb))) (fun cl C s H fp=>⟨(Y6 (K:=K) (n:=2) rfl rfl (ZP (Zr (i:=0) (show(["room","start"]:List Str).Nodup by decide+kernel) rfl (Or.inl rfl)) (ZP (Zr (i:=1) (show(["room","start"]:List Str).Nodup by decide+kernel) rfl (Or.inl rfl)) Y8))),Z8,(Zn G_is_from hr rfl T.m_is_from T.F_is_from.kp T.b_is_from .nil Uk (Za (pv 0) (Za (pv 1) Zb)))⟩)) Zb)) (fun _=>rfl))) (Zg (YK T.gx_NoRoom T.ex_NoRoom PySem.F.excBase_ValueError rfl (Za Ys Zb))) ZI)))),?_⟩
  try dsimp only[L2.cxX,L2.ZJ,L2.Zm]
  walk_at "rds";refine⟨p,hl,fp,rfl,hh,hz,fun r H1 hr s1 hr1=>?_⟩;have hc1:=s1.seq hc;have hs1:=SqL.of (K:=K) hr1;have hsl:(startsL hl.belts).length=hl.belts.length:=by simp[startsL]
  generalize startsL hl.belts=ss at*;walk_at "rds";refine⟨by show 2≤sizeLine;decide,fun u hu1=>?_⟩;have s2:Zd H1 (upd H1 u (.tup [V.ty "list",V.ty "tuple"])):=Zk hu1;have v2:(upd H1 u (.tup [V.ty "list",V.ty "tuple"])) u=some (.tup [V.ty "list",V.ty "tuple"]):=Ze;generalize upd H1 u (.tup [V.ty "list",V.ty "tuple"])=H2 at*;have hc2:=s2.seq hc1;have hs2:=s2.seq hs1;have s02:=s1.trans s2;walk_at "rds";refine Rd.ZmO hc2 v2 ?_;walk_at "rds";have el:(((rs.map V.int).length:Int)=((ss.map V.int).length:Int))↔rs.length=ss.length:=by simp only[List.length_map];omega
  by_cases hlen:rs.length=ss.length
  ·rw[if_neg (by simp[hlen])];walk_at "rds";refine⟨c,r,rfl,⟨_,hc2⟩,⟨_,hs2⟩,?_⟩;refine Yc (own:=2) (ZbR hc2 hs2 (by simp[hlen])) (Zq (by rw[List.length_map];exact hrz)) (fun i=>[some (.int (rs.getD i 0)),some (.int (ss.getD i 0))]) (fun _=>rfl) (fun _=>true) (fun i v _=>v= .bl (decide (ss.getD i 0≤rs.getD i 0))) (fun _ _ _ _ _ z=>z) (fun i a' H' v H3 Kg hi sm y ha' k=>?_) (fun i H' Kc hi sm k=>?_) (fun pp i H' Kc hi hci hp0 hp1 sm k=>?_) (fun d H3 ys hd sm hl' hR=>?_)
   ·obtain⟨t,ht,rfl,rfl⟩:=y;obtain⟨x1,x2,rfl⟩:∃x1 x2,a'=[x1,x2]:=by
     match a',ha' with
     | [x1,x2],_=>exact⟨x1,x2,rfl⟩
    have hi1:i<rs.length:=by rw[List.length_map] at hi;exact hi
    have hi2:i<ss.length:=by omega
    have ev1:(rs.map V.int).getD i .non= .int (rs.getD i 0):=by rw[ZH hi1];simp[List.getD,hi1]
    have ev2:(ss.map V.int).getD i .non= .int (ss.getD i 0):=by rw[ZH hi2];simp[List.getD,hi2]
    rw[ev1,ev2];refine Rd.Uz (.of Ze) rfl ?_;walk_at "rds";exact k _ (Zk ht)
   ·walk_at "rds";exact k H' (Zd.refl H')
   ·walk_at "rds";exact k _ H' (Zd.refl H') rfl
   ·rw[List.filter_eq_self.mpr (by simp),List.length_map] at hR;have ey:=Zbn hR;have hds:=SqL.of (K:=K) (ey▸hl');have s03:=s02.trans sm;walk_at "rds"
    by_cases hall:Vw rs ss
    ·rw[Zd7.mpr hall.2];walk_at "rds";exact q hall _ s03
    ·have hf:(((List.range rs.length).map fun i=>decide (ss.getD i 0≤rs.getD i 0)).all id)=false:=by
      cases e:(((List.range rs.length).map fun i=>decide (ss.getD i 0≤rs.getD i 0)).all id) with
      |false=>rfl
      |true=>exact absurd ⟨hlen,Zd7.mp e⟩ hall
     rw[hf];walk_at "rds";exact e1 hall _ s03
  ·rw[if_pos (by simp;omega)];walk_at "rds";exact e1 (fun z=>hlen z.1) _ s02
end
def Zdc{K:PySem.W.Frag}{mg:Str→Option Value}(T:Tp K mg):Sp:=fun vs H Q E=>∃(na ba:Addr)(nms:List Str)(bs:List V)(ls:List B5),vs=[.ref na,.ref ba]∧H na=some (.lst (nms.map V.str))∧H ba=some (.lst bs)∧ZS H bs ls∧ZaP nms∧ls.length≤1000∧
 ∀(p:Addr)(fp:List Addr)(H':Hp),Zv T H' p ⟨nms,ls⟩ fp→(∀x∈fp,H x=none)→Zd H H'→Q (.ref p) H'
section
variable {P:Program}{w:World}{K:PySem.W.Frag}{mg:Str→Option Value}{base:Heap}
theorem ZgW(T:Tp K mg):Zl P w K mg base (CXX P w) 3 T.f_hall_of T.d_hall_of ["names","rows"] (Zdc T):=by
 have G_Hall_work:Zl P w K mg base (CXX P w) 2 T.f_Hall_work T.d_Hall_work ["self","name"] (WZ T):=(UX T).mono (by decide);have G_Hall_lay:Zl P w K mg base (CXX P w) 2 T.f_Hall_lay T.d_Hall_lay ["self","row"] (Zat T):=(Zcz T).mono (by decide);have G_Hall_init:Zl P w K mg base (CXX P w) 1 T.f_Hall_init T.d_Hall_init ["self"] (WU T):=(U5 T).mono (by decide);have cl_Hall:=T.cl_Hall;have na_Hall:=T.na_Hall;refine T.F_hall_of.okX UR (fun vs H Q E h=>?_) (fun cdv A outer s H vs Q E hr h=>?_)
 ·obtain⟨na,ba,nms,bs,ls,rfl,_⟩:=h
  rfl
 ·have hu:=hr.units;obtain⟨na,ba,nms,bs,ls,rfl,hna,hba,hT,⟨hnd,hnm,hn30⟩,hz,q⟩:=h;have hbl:=hT.length;refine⟨_,(Zf (Zx (i:=2) UR.nd rfl (Or.inl rfl) (ZeO T.mk_Hall G_Hall_init hr rfl T.g_Hall T.b_Hall_init .nil Zi))
     (Zf (Yf PassesOwn.leaving rfl (Z0 (K:=K) rfl (pv 0)) (Zr (i:=3) UR.nd rfl (Or.inl rfl)) (Zg (ZL (ZV (pv 2) T.cl_Hall T.M_Hall_work G_Hall_work hr T.b_Hall_work .nil Zi (Za (pv 3) Zb)))))
     (Zf (Yf PassesOwn.leaving rfl (Z0 (K:=K) rfl (pv 1)) (Zr (i:=4) UR.nd rfl (Or.inl rfl)) (Zg (ZL (ZV (pv 2) T.cl_Hall T.M_Hall_lay G_Hall_lay hr T.b_Hall_lay .nil Zi (Za (pv 4) Zb)))))
     (Zg (Zt (pv 2)))))),?_⟩
  try dsimp only[L2.cxX,L2.ZJ,L2.Zm]
  walk_at "rds";intro hp fp H1 hh hf sm;have nna:na∉fp:=fun z=>by rw[hf na z] at hna;cases hna
  have nba:ba∉fp:=fun z=>by rw[hf ba z] at hba;cases hba
  have hna1:=sm _ _ hna;walk_at "rds";refine VZ (ZU (SqL.of (Um (q:=na) (o:= .lst (nms.map V.str))))) (fun i σ H'=>∃(fp':List Addr)(a1:Option V),σ=[some (.ref na),some (.ref ba),some (.ref hp),a1,none]∧Zv T H' hp ⟨nms.take i,[]⟩ fp'∧Zd H H'∧(∀x∈fp',H x=none)) ⟨fp,_,rfl,by simpa using hh,sm,hf⟩ ?_ ?_ ?_
  ·rintro i σ H' ⟨_,_,_,_,h,_⟩;exact Ut (h _ _ hna)
  ·rintro i σ H2 hi ⟨fp2,a1,rfl,hh2,s2,hf2⟩;have hi':i<nms.length:=by simpa using hi
   have ev:(nms.map V.str).getD i .non= .str nms[i]:=by simp[List.getD,hi']
   rw[ev];have hok:=hnm _ (List.getElem_mem hi');have hnew:nms[i]∉nms.take i:=fun z=>by
    obtain⟨j,hj,e⟩:=List.getElem_of_mem z;rw[List.getElem_take] at e;have hj':j<i:=by rw[List.length_take] at hj;omega
    have:=(List.getElem_inj (xs:=nms) (h₀:=by omega) (h₁:=hi') hnd).mp e;omega
   have etk:=List.take_succ_eq_append_getElem hi';generalize nms[i]=x at*;walk_at "rds";refine VY hh2 hok hnew (by simp;omega) (fun H3 fp3 hh3 fr3 gr3=>?_);refine⟨fp3,_,rfl,by rw[etk];exact hh3,fun b o e=>fr3.keep _ _ (s2 _ _ e) (fun z=>by rw[hf2 b z] at e;cases e),fun x hx=>?_⟩;rcases gr3 x hx with z|z
   ·exact hf2 x z
   ·exact ZY s2 z
  rintro σ H2 ⟨fp2,a1,rfl,hh2,s2,hf2⟩;rw[List.length_map,List.take_length] at hh2;have hba2:=s2 _ _ hba;walk_at "rds";refine VZ (ZU (SqL.of (Um (q:=ba) (o:= .lst bs)))) (fun i σ H'=>∃(fp':List Addr)(a2:Option V),σ=[some (.ref na),some (.ref ba),some (.ref hp),a1,a2]∧Zv T H' hp ⟨nms,ls.take i⟩ fp'∧Zd H H'∧(∀x∈fp',H x=none)) ⟨fp2,_,rfl,by simpa using hh2,s2,hf2⟩ ?_ ?_ ?_
  ·rintro i σ H' ⟨_,_,_,_,h,_⟩;exact Ut (h _ _ hba)
  ·rintro i σ H3 hi ⟨fp3,a2,rfl,hh3,s3,hf3⟩;have hil:i<ls.length:=by omega
   obtain⟨t,ht1,ht2⟩:=hT.at (List.getElem?_eq_getElem hil);have eb:bs.getD i .non= .ref t:=by simp[List.getD,ht1]
   rw[eb];have et:=List.take_succ_eq_append_getElem hil;generalize ls[i]=l at*;walk_at "rds";refine⟨hp,t,l,⟨nms,ls.take i⟩,fp3,rfl,hh3,s3 _ _ ht2,by simp;omega,fun H4 fp4 hh4 fr4 gr4=>?_⟩;refine⟨fp4,_,rfl,by rw[et];exact hh4,fun b o e=>fr4.keep _ _ (s3 _ _ e) (fun z=>by rw[hf3 b z] at e;cases e),fun x hx=>?_⟩;rcases gr4 x hx with z|z
   ·exact hf3 x z
   ·exact ZY s3 z
  rintro σ H3 ⟨fp3,a2,rfl,hh3,s3,hf3⟩;rw[hbl,List.take_length] at hh3;walk_at "rds";exact q hp fp3 H3 hh3 hf3 s3
end
def Zde{K:PySem.W.Frag}{mg:Str→Option Value}(T:Tp K mg):Sp:=fun vs H Q _=>∃(t:Addr)(b:B5)(r:Int),vs=[.ref t,.int r]∧H t=some (.tup b.v)∧∀u H',H u=none→Zd H H'→H' u=some (.tup (Zca b r).v)→Q (.ref u) H'
section
variable {P:Program}{w:World}{K:PySem.W.Frag}{mg:Str→Option Value}{base:Heap}
theorem Zhd(T:Tp K mg):Zl P w K mg base (CXX P w) 1 T.f_back_of T.d_back_of ["row","room"] (Zde T):=by
 refine T.F_back_of.okX ZhP (fun vs H Q E h=>?_) (fun cdv A outer s H vs Q E hr h=>?_)
 ·obtain⟨t,b,r,rfl,_⟩:=h
  rfl
 ·have hu:=hr.units;obtain⟨t,b,r,rfl,ht,q⟩:=h;dsimp only[B5.v] at ht;refine⟨_,(Zg (Zt (Yu (Za (Zp (Zu (K:=K) rfl) (pv 0) Zc (fun _ _=>rfl)) (Za (Zp (Zu (K:=K) rfl) (pv 0) Zc (fun _ _=>rfl)) (Za (Zp (Zu (K:=K) rfl) (pv 0) Zc (fun _ _=>rfl)) (Za (Zp (Zu (K:=K) rfl) (pv 0) Zc (fun _ _=>rfl)) (Za (Zo Zad (pv 1) (Zp (Zu (K:=K) rfl) (pv 0) Zc (fun _ _=>rfl))) Zb)))))))),?_⟩
  try dsimp only[L2.cxX,L2.ZJ,L2.Zm]
  walk_at "rds";refine⟨by show 5≤sizeLine;decide,fun u hu'=>?_⟩;exact q u _ hu' (Zk hu') Ze
end
def Y9{K:PySem.W.Frag}{mg:Str→Option Value}(T:Tp K mg):Sp:=fun vs H Q E=>∃(p:Addr)(hl:HM)(fp:List Addr),vs=[.ref p]∧Zv T H p hl fp∧
 ∀r H',H r=none→Zd H H'→H' r=some (.lst (hl.names.map V.str))→Q (.ref r) H'
section
variable {P:Program}{w:World}{K:PySem.W.Frag}{mg:Str→Option Value}{base:Heap}
theorem WI(T:Tp K mg):Zl P w K mg base (CXX P w) 1 T.f_Hall_names T.d_Hall_names ["self"] (Y9 T):=by
 have cl_Hall:=T.cl_Hall;have na_Hall:=T.na_Hall;refine T.F_Hall_names.okX Zez (fun vs H Q E h=>?_) (fun cdv A outer s H vs Q E hr h=>?_)
 ·obtain⟨p,hl,fp,rfl,_⟩:=h
  rfl
 ·have hu:=hr.units;obtain⟨p,hl,fp,rfl,hh,q⟩:=h;obtain⟨dx,a,b,bs,rfl,h1,h2,h3,h4,nab,h6⟩:=id hh;refine⟨_,(Zg (Zt (Uq (ZgX rfl) (by rfl) T.n_list PyProof.Rows.boot_list (Za (Ya (K:=K) rfl (pv 0) rfl) Zb)))),?_⟩
  try dsimp only[L2.cxX,L2.ZJ,L2.Zm]
  walk_at "rds";intro l hl';rw[Zct];exact q l _ hl' (Zk hl') Ze
end
def Zbx{K:PySem.W.Frag}{mg:Str→Option Value}(T:Tp K mg):Sp:=fun vs H Q E=>∃(p c:Addr)(hl:HM)(fp:List Addr)(rs:List Int),vs=[.ref p,.ref c]∧Zv T H p hl fp∧hl.belts.length≤400∧ZaP hl.names∧SqL K H c (rs.map V.int)∧rs.length≤1000∧
 (¬Vw rs (startsL hl.belts)→∀H',Zd H H'→E (.ref T.X_NoRoom) none H')∧
 (Vw rs (startsL hl.belts)→∀(p2:Addr)(fp2:List Addr)(H':Hp),Zv T H' p2 ⟨hl.names,hl.belts++ZK hl.belts rs⟩ fp2→(∀x∈fp2,H x=none)→Zd H H'→Q (.ref p2) H')
section
variable {P:Program}{w:World}{K:PySem.W.Frag}{mg:Str→Option Value}{base:Heap}
theorem Zed(T:Tp K mg):Zl P w K mg base (CXX P w) 4 T.f_backed T.d_backed ["hall","rooms"] (Zbx T):=by
 have G_need_rooms:Zl P w K mg base (CXX P w) 3 T.f_need_rooms T.d_need_rooms ["hall","rooms"] (Zbd T):=(ZeF T).mono (by decide);have G_hall_of:Zl P w K mg base (CXX P w) 3 T.f_hall_of T.d_hall_of ["names","rows"] (Zdc T):=(ZgW T).mono (by decide);have G_back_of:Zl P w K mg base (CXX P w) 3 T.f_back_of T.d_back_of ["row","room"] (Zde T):=(Zhd T).mono (by decide);have G_Hall_belts:Zl P w K mg base (CXX P w) 3 T.f_Hall_belts T.d_Hall_belts ["self"] (Yi T):=(Y5 T).mono (by decide);have G_Hall_names:Zl P w K mg base (CXX P w) 3 T.f_Hall_names T.d_Hall_names ["self"] (Y9 T):=(WI T).mono (by decide);have cl_Hall:=T.cl_Hall;have na_Hall:=T.na_Hall;refine T.F_backed.okX Zel (fun vs H Q E h=>?_) (fun cdv A outer s H vs Q E hr h=>?_)
 ·obtain⟨p,c,hl,fp,rs,rfl,_⟩:=h
  rfl
 ·have hu:=hr.units;obtain⟨p,c,hl,fp,rs,rfl,hh,hz,hnm,hc,hrz,e1,q⟩:=h;refine⟨_,(Zf (ZL (Zn G_need_rooms hr rfl T.m_need_rooms T.F_need_rooms.kp T.b_need_rooms .nil Zi (Za (pv 0) (Za (pv 1) Zb))))
     (Zf (Zx (i:=2) Zel.nd rfl (Or.inl rfl) (Z3 (pv 0) T.cl_Hall T.M_Hall_belts G_Hall_belts hr T.b_Hall_belts .nil Zi))
     (Zg (Zt (Zn G_hall_of hr rfl T.m_hall_of T.F_hall_of.kp T.b_hall_of .nil Zi (Za (Z3 (pv 0) T.cl_Hall T.M_Hall_names G_Hall_names hr T.b_Hall_names .nil Zi) (Za (Zo (ZM (K:=K) rfl) (pv 2) (YY (xs:=["row","room"]) rfl (Z2 (x:="row") (zs:=[]) (ix:=[]) (Zj U0) ["hall","rooms","belts"] rfl rfl (by decide+kernel)) (ZeX (K:=K) rfl rfl T.n_zip (Za (pv 2) (Za (pv 1) Zb))) (fun cl C s H fp=>⟨(Y6 (K:=K) (n:=2) rfl rfl (ZP (Zr (i:=0) (show(["row","room"]:List Str).Nodup by decide+kernel) rfl (Or.inl rfl)) (ZP (Zr (i:=1) (show(["row","room"]:List Str).Nodup by decide+kernel) rfl (Or.inl rfl)) Y8))),Z8,(Zn G_back_of hr rfl T.m_back_of T.F_back_of.kp T.b_back_of .nil Uk (Za (pv 0) (Za (pv 1) Zb)))⟩))) Zb))))))),?_⟩
  try dsimp only[L2.cxX,L2.ZJ,L2.Zm]
  walk_at "rds";refine⟨p,c,hl,fp,rs,rfl,hh,by omega,hc,hrz,e1,fun hrok H1 s1=>?_⟩;have hh1:=hh.same s1;have hlen:rs.length=hl.belts.length:=by have:=hrok.1;simpa[startsL] using this
  walk_at "rds";intro b H2 bs hb s2 hb2 hT2;have hh2:=hh1.same s2;walk_at "rds";refine⟨p,hl,fp,rfl,hh2,fun n H3 hn s3 hn3=>?_⟩;have hb3:=s3 _ _ hb2;have hB3:=SqL.of (K:=K) hb3;have hT3:=hT2.keep (fun b xs e=>s3 _ _ e);have hbl:=hT3.length;have s13:=s1.trans (s2.trans s3);have hc3:=s13.seq hc;walk_at "rds";refine⟨b,c,rfl,⟨_,hB3⟩,⟨_,hc3⟩,?_⟩;refine Yc (own:=2) (ZbR hB3 hc3 (by rw[List.length_map];omega)) (Zq (by omega)) (fun i=>[some (bs.getD i .non),some (.int (rs.getD i 0))]) (fun _=>rfl) (fun _=>true) (fun i v H'=>∃u,v= .ref u∧H' u=some (.tup (Zca (hl.belts.getD i dB) (rs.getD i 0)).v)) (fun _ _ _ _ s ⟨u,x,y⟩=>⟨u,x,s _ _ y⟩) (fun i a' H' v H4 Kg hi sm y ha' k=>?_) (fun i H' Kc hi sm k=>?_) (fun pp i H' Kc hi hci hp0 hp1 sm k=>?_) (fun d H4 ys hd sm hd4 hR=>?_)
  ·obtain⟨t,ht,rfl,rfl⟩:=y;obtain⟨x1,x2,rfl⟩:∃x1 x2,a'=[x1,x2]:=by
    match a',ha' with
    | [x1,x2],_=>exact⟨x1,x2,rfl⟩
   have hi2:i<rs.length:=by omega
   have ev2:(rs.map V.int).getD i .non= .int (rs.getD i 0):=by rw[ZH hi2];simp[List.getD,hi2]
   rw[ev2];refine Rd.Uz (.of Ze) rfl ?_;walk_at "rds";exact k _ (Zk ht)
  ·walk_at "rds";exact k H' (Zd.refl H')
  ·obtain⟨t,ht1,ht2⟩:=hT3.getD (i:=i) (by omega);rw[ht1];walk_at "rds";refine⟨t,_,_,rfl,sm _ _ ht2,fun u H5 hu s5 hu5=>?_⟩;exact k _ H5 s5 ⟨u,rfl,by rw[WJ (fun z=>by rw[z] at hu;obtain⟨ys,e⟩:=hp1;rw[e] at hu;cases hu)];exact hu5⟩
  rw[List.filter_eq_self.mpr (by simp),hbl] at hR;have hTd:ZS H4 ys (ZK hl.belts rs):=(Zb7 hR).keep fun b xs e=>Yk _ _ e;have hdl:=hTd.length;rw[We] at hdl;have hb4:=sm _ _ hb3;have hn4:=sm _ _ hn3;walk_at "rds";refine Rd.Ux hb4 hd4 (Nat.le_of_lt (Zq (by omega))) (fun e he=>?_);have s5:Zd H4 (upd H4 e (.lst (bs++ys))):=Zk he;have he5:(upd H4 e (.lst (bs++ys))) e=some (.lst (bs++ys)):=Ze;generalize upd H4 e (.lst (bs++ys))=H5 at*;have s05:=(s13.trans sm).trans s5;walk_at "rds";refine⟨n,e,hl.names,bs++ys,hl.belts++ZK hl.belts rs,rfl,s5 _ _ hn4,he5,((hT3.keep fun b xs e=>sm _ _ e).app hTd).keep (fun b xs e=>s5 _ _ e),hnm,by rw[List.length_append,We];omega,fun p2 fp2 H6 hh6 hf6 s6=>?_⟩;exact q hrok p2 fp2 H6 hh6 (fun x hx=>ZY s05 (hf6 x hx)) (s05.trans s6)
end
def ZaQ{K:PySem.W.Frag}{mg:Str→Option Value}(T:Tp K mg):Sp:=fun vs H Q _=>∃(a c:Addr)(bs:List V)(ls:List B5)(rm:List Int),vs=[.ref a,.ref c]∧H a=some (.lst bs)∧ZS H bs ls∧SqL K H c (rm.map V.int)∧rm.length=ls.length∧ls.length≤400∧
 ∀(r:Addr)(H':Hp)(bs':List V),H r=none→Zd H H'→H' r=some (.lst bs')→ZS H' bs' (ls++ZK ls rm)→Q (.ref r) H'
section
variable {P:Program}{w:World}{K:PySem.W.Frag}{mg:Str→Option Value}{base:Heap}
theorem ZdK(T:Tp K mg):Zl P w K mg base (CXX P w) 1 T.f_l_with_back T.d_l_with_back ["_law_lines_here","_law_rooms"] (ZaQ T):=by
 refine T.F_l_with_back.okX ZaC (fun vs H Q E h=>?_) (fun cdv A outer s H vs Q E hr h=>?_)
 ·obtain⟨a,c,bs,ls,rm,rfl,_⟩:=h
  rfl
 ·have hu:=hr.units;obtain⟨a,c,bs,ls,rm,rfl,ha,hT,hc,hlen,hz,q⟩:=h;have hbl:=hT.length;have hA:=SqL.of (K:=K) ha;refine⟨_,(Zf (ZcP (j:=2) (xs:=["_law_line","_law_room"]) rfl (Z2 (x:="_law_line") (zs:=[]) (ix:=[]) (Zj WH) ["_law_lines_here","_law_rooms","_law_back"] rfl rfl (by decide+kernel)) (ZeX (K:=K) rfl rfl T.n_zip (Za (pv 0) (Za (pv 1) Zb))) (fun cl C s H fp=>⟨(Y6 (K:=K) (n:=2) rfl rfl (ZP (Zr (i:=0) (show(["_law_line","_law_room"]:List Str).Nodup by decide+kernel) rfl (Or.inl rfl)) (ZP (Zr (i:=1) (show(["_law_line","_law_room"]:List Str).Nodup by decide+kernel) rfl (Or.inl rfl)) Y8))),Z8,(Yu (Za (Zp (Zu (K:=K) rfl) (pv 0) Zc (fun _ _=>rfl)) (Za (Zp (Zu (K:=K) rfl) (pv 0) Zc (fun _ _=>rfl)) (Za (Zp (Zu (K:=K) rfl) (pv 0) Zc (fun _ _=>rfl)) (Za (Zp (Zu (K:=K) rfl) (pv 0) Zc (fun _ _=>rfl)) (Za (Zo Zad (pv 1) (Zp (Zu (K:=K) rfl) (pv 0) Zc (fun _ _=>rfl))) Zb))))))⟩) ZaC.nd rfl (Or.inl rfl))
     (Zg (Zt (Zo (ZM (K:=K) rfl) (pv 0) (pv 2))))),?_⟩
  try dsimp only[L2.cxX,L2.ZJ,L2.Zm]
  walk_at "rds";refine⟨a,c,rfl,⟨_,hA⟩,⟨_,hc⟩,?_⟩;refine Yc (own:=2) (ZbR hA hc (by rw[List.length_map];omega)) (Zq (by omega)) (fun i=>[some (bs.getD i .non),some (.int (rm.getD i 0))]) (fun _=>rfl) (fun _=>true) (fun i v H'=>∃u,v= .ref u∧H' u=some (.tup (Zca (ls.getD i dB) (rm.getD i 0)).v)) (fun _ _ _ _ s ⟨u,x,y⟩=>⟨u,x,s _ _ y⟩) (fun i a' H' v H4 Kg hi sm y ha' k=>?_) (fun i H' Kc hi sm k=>?_) (fun pp i H' Kc hi hci hp0 hp1 sm k=>?_) (fun d H4 ys hd sm hd4 hR=>?_)
  ·obtain⟨t,ht,rfl,rfl⟩:=y;obtain⟨x1,x2,rfl⟩:∃x1 x2,a'=[x1,x2]:=by
    match a',ha' with
    | [x1,x2],_=>exact⟨x1,x2,rfl⟩
   have hi2:i<rm.length:=by omega
   have ev2:(rm.map V.int).getD i .non= .int (rm.getD i 0):=by rw[ZH hi2];simp[List.getD,hi2]
   rw[ev2];refine Rd.Uz (.of Ze) rfl ?_;walk_at "rds";exact k _ (Zk ht)
  ·walk_at "rds";exact k H' (Zd.refl H')
  ·obtain⟨t,ht1,ht2⟩:=hT.getD (i:=i) (by omega);rw[ht1];have ht3:=sm _ _ ht2;generalize ls.getD i dB=bb at*;dsimp only[B5.v] at ht3;walk_at "rds";refine⟨by show 5≤sizeLine;decide,fun u hu'=>?_⟩;exact k _ _ (Zk hu') ⟨u,rfl,by rw[WJ (fun z=>by rw[z] at hu';obtain⟨ys,e⟩:=hp1;rw[e] at hu';cases hu')];exact Ze⟩
  rw[List.filter_eq_self.mpr (by simp),hbl] at hR;have hTd:ZS H4 ys (ZK ls rm):=(Zb7 hR).keep fun b xs e=>Yk _ _ e;have hdl:=hTd.length;rw[We] at hdl;have ha4:=sm _ _ ha;walk_at "rds";refine Rd.Ux ha4 hd4 (Nat.le_of_lt (Zq (by omega))) (fun e he=>?_);have s5:Zd H4 (upd H4 e (.lst (bs++ys))):=Zk he;exact q e _ _ (ZY sm he) (sm.trans s5) Ze (((hT.keep fun b xs e=>sm _ _ e).app hTd).keep fun b xs e=>s5 _ _ e)
end
def ZbG{K:PySem.W.Frag}{mg:Str→Option Value}(T:Tp K mg):Sp:=fun vs H Q E=>∃(p c:Addr)(hl:HM)(fp:List Addr)(rm:List Int),vs=[.ref p,.ref c]∧Zv T H p hl fp∧hl.belts.length≤400∧ZaP hl.names∧SqL K H c (rm.map V.int)∧rm.length≤1000∧¬Vw rm (startsL hl.belts)∧∀H',Zd H H'→Q (.bl true) H'
section
variable {P:Program}{w:World}{K:PySem.W.Frag}{mg:Str→Option Value}{base:Heap}
theorem ZfB(T:Tp K mg):Zl P w K mg base (CXX P w) 5 T.f_l_refused T.d_l_refused ["_law_hall","_law_rooms"] (ZbG T):=by
 have G_backed:Zl P w K mg base (CXX P w) 4 T.f_backed T.d_backed ["hall","rooms"] (Zbx T):=(Zed T).mono (by decide);refine T.F_l_refused.okX VM (fun vs H Q E h=>?_) (fun cdv A outer s H vs Q E hr h=>?_)
 ·obtain⟨p,c,hl,fp,rm,rfl,_⟩:=h
  rfl
 ·have hu:=hr.units;obtain⟨p,c,hl,fp,rm,rfl,hh,hz,hnm,hc,hrz,hno,q⟩:=h;have x2:=T.xc_NoRoom;have k2NoRoom:=T.ki_NoRoom_NoRoom;have k2ValueError:=T.ki_NoRoom_ValueError;have k2NoRate:=T.ki_NoRoom_NoRate;have k2TooMuch:=T.ki_NoRoom_TooMuch;refine⟨_,(Zf (Zx (i:=2) VM.nd rfl (Or.inl rfl) WB)
     (Zf (Zjr (j:=3) rfl rfl rfl T.mx_RateError (fun J E1 pn xe1 ownT pasT=>(Zg (ZL (ZiZ G_backed hr rfl T.m_backed T.F_backed.kp T.b_backed .nil pasT (Za (pv 0) (Za (pv 1) Zb)))))) (fun A'=>(Zg (Zx (i:=2) VM.nd rfl (Or.inl rfl) (ZaE (ZC (ZjG (K:=K) rfl) (by rfl) T.n_isinstance PyProof.Rows.boot_isinstance (Za (pv 3) (Za (V1 (v:= .ref T.X_NoRoom) rfl T.mx_NoRoom rfl) Zb))) (ZaE (ZC (ZjG (K:=K) rfl) (by rfl) T.n_isinstance PyProof.Rows.boot_isinstance (Za (pv 3) (Za (UW (v:= .ty "ValueError") (by rfl) T.n_ValueError (by first|rfl|decide+kernel) rfl) Zb))) (Zbl (ZfA (ZC (Zle (K:=K) rfl) (by rfl) T.n_isinstance PyProof.Rows.boot_isinstance (Za (pv 3) (Za (Yu (Za (V1 (v:= .ref T.X_NoRate) rfl T.mx_NoRate rfl) (Za (V1 (v:= .ref T.X_TooMuch) rfl T.mx_TooMuch rfl) Zb))) Zb)))))))))) VM.nd rfl rfl)
     (Zg (Zt (pv 2))))),?_⟩
  try dsimp only[L2.cxX,L2.ZJ,L2.Zm]
  walk_at "rds";refine L2.Rd.ZlY (fun cls _ H'=>Zd H H'∧cls= .ref T.X_NoRoom) ?_ ?_
  ·walk_at "rds";exact⟨p,c,hl,fp,rm,rfl,hh,hz,hnm,hc,hrz,fun _ H' s=>⟨s,rfl⟩,fun z=>absurd z hno⟩
  ·rintro cls H1 ⟨s1,rfl⟩;refine⟨T.em_NoRoom_RateError,_,rfl,fun ea hea=>?_⟩;have hex:(upd H1 ea (VX ea T.X_NoRoom)) ea=some (VX ea T.X_NoRoom):=Ze;have s2:Zd H (upd H1 ea (VX ea T.X_NoRoom)):=s1.trans (Zk hea);generalize upd H1 ea (VX ea T.X_NoRoom)=H2 at*;walk_at "rds";refine⟨by show 2≤sizeLine;decide,fun t ht=>?_⟩;have s3:Zd H2 (upd H2 t (.tup [.ref T.X_NoRate,.ref T.X_TooMuch])):=Zk ht;have v3:(upd H2 t (.tup [.ref T.X_NoRate,.ref T.X_TooMuch])) t=some (.tup [.ref T.X_NoRate,.ref T.X_TooMuch]):=Ze;generalize upd H2 t (.tup [.ref T.X_NoRate,.ref T.X_TooMuch])=H3 at*;have hex3:=s3 _ _ hex;walk_at "rds";refine Rd.ZmX hex3 x2 v3 k2NoRate k2TooMuch ?_;walk_at "rds";exact q H3 (s2.trans s3)
end
def Zdd{K:PySem.W.Frag}{mg:Str→Option Value}(T:Tp K mg):Sp:=fun vs H Q _=>∃(p:Addr)(hl:HM)(fp:List Addr),vs=[.ref p]∧Zv T H p hl fp∧hl.names.length≤1000∧hl.belts.length≤1000∧ZE hl.belts hl.names.length∧
 ∀(r:Addr)(ia:List Addr)(H':Hp),H r=none→Zd H H'→ZbI H' r ia hl.names.length (ZT hl.belts)→Q (.ref r) H'
section
variable {P:Program}{w:World}{K:PySem.W.Frag}{mg:Str→Option Value}{base:Heap}
theorem Zhy(T:Tp K mg):Zl P w K mg base (CXX P w) 2 T.f_ways_of T.d_ways_of ["hall"] (Zdd T):=by
 have G_Hall_belts:Zl P w K mg base (CXX P w) 1 T.f_Hall_belts T.d_Hall_belts ["self"] (Yi T):=(Y5 T).mono (by decide);have G_Hall_names:Zl P w K mg base (CXX P w) 1 T.f_Hall_names T.d_Hall_names ["self"] (Y9 T):=(WI T).mono (by decide);have cl_Hall:=T.cl_Hall;have na_Hall:=T.na_Hall;refine T.F_ways_of.okX UQ (fun vs H Q E h=>?_) (fun cdv A outer s H vs Q E hr h=>?_)
 ·obtain⟨p,hl,fp,rfl,_⟩:=h
  rfl
 ·have hu:=hr.units;obtain⟨p,hl,fp,rfl,hh,hn,hz,hbt,q⟩:=h;refine⟨_,(Zf (ZcP (j:=1) (xs:=["name"]) rfl (Z2 (x:="name") (zs:=[]) (ix:=[]) (Zj Up) ["hall","ways","belt","row"] rfl rfl (by decide+kernel)) (Z0 (K:=K) rfl (Z3 (pv 0) T.cl_Hall T.M_Hall_names G_Hall_names hr T.b_Hall_names .nil Zi)) (fun cl C s H fp=>⟨(Zr (i:=0) (show(["name"]:List Str).Nodup by decide+kernel) rfl (Or.inl rfl)),Z8,(YH Zb)⟩) UQ.nd rfl (Or.inl rfl))
     (Zf (Yf PassesOwn.leaving rfl (ZaA (K:=K) rfl rfl T.n_enumerate (Za (Z3 (pv 0) T.cl_Hall T.M_Hall_belts G_Hall_belts hr T.b_Hall_belts .nil Zi) Zb)) (Y6 (K:=K) (n:=2) rfl rfl (ZP (Zr (i:=2) UQ.nd rfl (Or.inl rfl)) (ZP (Zr (i:=3) UQ.nd rfl (Or.inl rfl)) Y8))) (Zf (ZL (WK (K:=K) rfl PySem.F.plainAttrs_list PySem.F.slot_list_append PySem.F.type_list_append Ym (Zp (Zu (K:=K) rfl) (pv 1) (Zp (Zu (K:=K) rfl) (pv 3) Zc (fun _ _=>rfl)) (fun _ _=>rfl)) (Za (Yu (Za (Zp (Zu (K:=K) rfl) (pv 3) Zc (fun _ _=>rfl)) (Za (pv 2) (Za WB Zb)))) Zb)))
     (Zg (ZL (WK (K:=K) rfl PySem.F.plainAttrs_list PySem.F.slot_list_append PySem.F.type_list_append Ym (Zp (Zu (K:=K) rfl) (pv 1) (Zp (Zu (K:=K) rfl) (pv 3) Zc (fun _ _=>rfl)) (fun _ _=>rfl)) (Za (Yu (Za (Zp (Zu (K:=K) rfl) (pv 3) Zc (fun _ _=>rfl)) (Za (pv 2) (Za WB Zb)))) Zb))))))
     (Zg (Zt (pv 1))))),?_⟩
  try dsimp only[L2.cxX,L2.ZJ,L2.Zm]
  walk_at "rds";refine⟨p,hl,fp,rfl,hh,fun nm H1 hnm s1 hnm1=>?_⟩;walk_at "rds";refine ZgR (own:=1) (ZU (SqL.of hnm1)).y (Zq (by rw[List.length_map];exact hn)) (fun i=>[some ((hl.names.map V.str).getD i .non)]) (fun _=>rfl) (fun i a' H' v H2 Kg hi sm y hal k=>?_) (fun i H' Kc hi sm k=>?_) (fun r H2 ia hr s2 hr2 hil hnd hia=>?_)
  ·obtain⟨rfl,rfl⟩:=y;obtain⟨x1,rfl⟩:∃x1,a'=[x1]:=by
    match a',hal with
    | [x1],_=>exact⟨x1,rfl⟩
   walk_at "rds";exact k _ (Zd.refl _)
  ·exact k
  rw[List.length_map] at hil;have s12:=s1.trans s2;have hh2:=hh.same s12;have hr0:H r=none:=ZY s1 hr;have hia0:∀x∈ia,H x=none:=fun x hx=>ZY s1 (hia x hx).1;have nri:∀x∈ia,r≠x:=fun x hx z=>(hia x hx).2.1 z.symm;walk_at "rds";intro u H3 bs hu0 s3 hu3 hT;have hbl:=hT.length;have nui:∀x∈ia,u≠x:=fun x hx z=>by
   have:=(hia x hx).2.2;rw[←z,hu0] at this;cases this
  walk_at "rds";refine Vy (VF (SqL.of (Um (q:=u) (o:= .lst bs)))) (fun k σ H'=>∃(a1 a2:Option V),σ=[some (.ref p),some (.ref r),a1,a2]∧Zd H H'∧H' u=some (.lst bs)∧H' r=some (.lst (ia.map V.ref))∧ZS H' bs hl.belts∧WA H' ia (W0 hl.belts k)∧∀(j:Nat)(h:j<ia.length) vs,H' ia[j]=some (.lst vs)→vs.length≤2*k)
   ⟨_,_,rfl,s12.trans s3,hu3,s3 _ _ hr2,hT,fun j hj=>⟨[],s3 _ _ (hia _ (List.getElem_mem hj)).2.2,.nil⟩,fun j hj vs e=>?_⟩ ?_ ?_ ?_
  ·rw[s3 _ _ (hia _ (List.getElem_mem hj)).2.2] at e;cases e;exact Nat.zero_le _
  ·rintro k σ H' ⟨_,_,_,_,h,_⟩;exact Ut h
  ·rintro k σ H4 v H5 hk ⟨a1,a2,rfl,s4,hu4,hr4,hT4,hWA,hsz⟩ ⟨t,ht,rfl,rfl⟩;have hkl:k<hl.belts.length:=by omega
   obtain⟨g0,g1,t0,t1⟩:=hbt.at hkl;obtain⟨tb,hb1,hb2⟩:=hT4.getD hkl;rw[hb1];refine Rd.Uz (.of Ze) rfl ?_;have s5:Zd H4 (upd H4 t (.tup [.int k,.ref tb])):=Zk ht;generalize upd H4 t (.tup [.int k,.ref tb])=H5 at*;have hW1:∀j:Int,W0 hl.belts (k+1) j=(W0 hl.belts k j++(if(hl.belts.getD k dB).giver=j then[((hl.belts.getD k dB).taker,(k:Int),true)] else[]))++(if(hl.belts.getD k dB).taker=j then[((hl.belts.getD k dB).giver,(k:Int),false)] else[]):=fun j=>by
    rw[Zgb,ZaW,List.append_assoc]
   generalize hl.belts.getD k dB=b at*;have hbt5:=s5 _ _ hb2;dsimp only[B5.v] at hbt5;have hr5:=s5 _ _ hr4;have hWA5:=hWA.same s5;have gl:b.giver.toNat<ia.length:=by omega
   have tl:b.taker.toNat<ia.length:=by omega
   have atg:=ZdL g0 gl;have att:=ZdL t0 tl;have eg:((b.giver.toNat:Nat):Int)=b.giver:=Int.toNat_of_nonneg g0;have et:((b.taker.toNat:Nat):Int)=b.taker:=Int.toNat_of_nonneg t0;obtain⟨vs,hv1,hv2⟩:=hWA5 b.giver.toNat gl;have hsz5:∀(j:Nat)(h:j<ia.length) vs,H5 ia[j]=some (.lst vs)→vs.length≤2*k:=fun j hj us e=>by
    obtain⟨us',h1,_⟩:=hWA j hj;have:=s5 _ _ h1;rw[e] at this;cases this;exact hsz j hj _ h1
   have vz:vs.length<sizeLine:=Za5 (by have:=hsz5 _ gl _ hv1;omega);walk_at "rds";refine⟨by show 3≤sizeLine;decide,fun t2 ht2=>?_⟩;have s6:Zd H5 (upd H5 t2 (.tup [.int b.taker,.int k,.bl true])):=Zk ht2;have ht6:(upd H5 t2 (.tup [.int b.taker,.int k,.bl true])) t2=some (.tup [.int b.taker,.int k,.bl true]):=Ze;generalize upd H5 t2 (.tup [.int b.taker,.int k,.bl true])=H6 at*;have hv6:=s6 _ _ hv1;walk_at "rds";have hWA7:=(hWA5.same s6).add hnd gl hv6 (hv2.keep fun _ _ e=>s6 _ _ e) (x:=(b.taker,(k:Int),true)) ht6;have ng:r≠ia[b.giver.toNat]:=nri _ (List.getElem_mem gl);have nug:u≠ia[b.giver.toNat]:=nui _ (List.getElem_mem gl);have hr7:(upd H6 ia[b.giver.toNat] (.lst (vs++ [.ref t2]))) r=some (.lst (ia.map V.ref)):=by rw[Zh ng];exact s6 _ _ hr5
   have hu7:(upd H6 ia[b.giver.toNat] (.lst (vs++ [.ref t2]))) u=some (.lst bs):=by rw[Zh nug];exact s6 _ _ (s5 _ _ hu4)
   have tk7:∀c xs,H6 c=some (.tup xs)→(upd H6 ia[b.giver.toNat] (.lst (vs++ [.ref t2]))) c=some (.tup xs):=fun c xs e=>by rw[Zh (Yd e hv6 (by intro z;cases z))];exact e
   have hb7:=tk7 _ _ (s6 _ _ hbt5);have hT7:ZS (upd H6 ia[b.giver.toNat] (.lst (vs++ [.ref t2]))) bs hl.belts:=((hT4.keep fun _ _ e=>s5 _ _ e).keep fun _ _ e=>s6 _ _ e).keep tk7;have sm7:Zd H (upd H6 ia[b.giver.toNat] (.lst (vs++ [.ref t2]))):=((s4.trans s5).trans s6).new (hia0 _ (List.getElem_mem gl));have hsz7:∀(j:Nat)(h:j<ia.length) us,(upd H6 ia[b.giver.toNat] (.lst (vs++ [.ref t2]))) ia[j]=some (.lst us)→us.length≤2*k+1:=fun j hj us e=>by
    by_cases z:j=b.giver.toNat
    ·subst z;rw[Ze] at e;cases e;have:=hsz5 _ gl _ hv1;simp;omega
    ·have ne:ia[j]≠ia[b.giver.toNat]:=fun y=>z (Zby hnd hj gl y);rw[Zh ne] at e;obtain⟨us',h1,_⟩:=hWA5 j hj;have:=s6 _ _ h1;rw[e] at this;cases this;have:=hsz5 j hj _ h1;omega
   generalize upd H6 ia[b.giver.toNat] (.lst (vs++ [.ref t2]))=H7 at*;obtain⟨us,hq1,hq2⟩:=hWA7 b.taker.toNat tl;have uz:us.length<sizeLine:=Za5 (by have:=hsz7 _ tl _ hq1;omega);walk_at "rds";refine⟨by show 3≤sizeLine;decide,fun t3 ht3=>?_⟩;have s8:Zd H7 (upd H7 t3 (.tup [.int b.giver,.int k,.bl false])):=Zk ht3;have ht8:(upd H7 t3 (.tup [.int b.giver,.int k,.bl false])) t3=some (.tup [.int b.giver,.int k,.bl false]):=Ze;generalize upd H7 t3 (.tup [.int b.giver,.int k,.bl false])=H8 at*;have hq8:=s8 _ _ hq1;walk_at "rds";have hWA9:=(hWA7.same s8).add hnd tl hq8 (hq2.keep fun _ _ e=>s8 _ _ e) (x:=(b.giver,(k:Int),false)) ht8;have ng2:r≠ia[b.taker.toNat]:=nri _ (List.getElem_mem tl);have nug2:u≠ia[b.taker.toNat]:=nui _ (List.getElem_mem tl);have tk9:∀c xs,H8 c=some (.tup xs)→(upd H8 ia[b.taker.toNat] (.lst (us++ [.ref t3]))) c=some (.tup xs):=fun c xs e=>by rw[Zh (Yd e hq8 (by intro z;cases z))];exact e
   refine⟨_,_,rfl,(sm7.trans s8).new (hia0 _ (List.getElem_mem tl)),by rw[Zh nug2];exact s8 _ _ hu7,by rw[Zh ng2];exact s8 _ _ hr7,(hT7.keep fun _ _ e=>s8 _ _ e).keep tk9,?_,fun j hj ws e=>?_⟩
   ·have eW:(fun j=>(fun j=>W0 hl.belts k j++(if((b.giver.toNat:Nat):Int)=j then[(b.taker,(k:Int),true)] else[])) j++(if((b.taker.toNat:Nat):Int)=j then[(b.giver,(k:Int),false)] else[]))=W0 hl.belts (k+1):=by
     funext j
     rw[hW1 j,eg,et]
    rw[eW] at hWA9;exact hWA9
   ·by_cases z:j=b.taker.toNat
    ·subst z;rw[Ze] at e;cases e;have:=hsz7 _ tl _ hq1;simp;omega
    ·have ne:ia[j]≠ia[b.taker.toNat]:=fun y=>z (Zby hnd hj tl y);rw[Zh ne] at e;obtain⟨us',h1,_⟩:=hWA7 j hj;have:=s8 _ _ h1;rw[e] at this;cases this;have:=hsz7 j hj _ h1;omega
  ·rintro σ H4 ⟨a1,a2,rfl,s4,hu4,hr4,hT4,hWA,hsz⟩;rw[hbl] at hWA;walk_at "rds";exact q r ia H4 hr0 s4 ⟨hr4,hil,hnd,hWA⟩
end
def ZbX{K:PySem.W.Frag}{mg:Str→Option Value}(T:Tp K mg):Sp:=fun vs H Q _=>∃(r:Addr)(ia:List Addr)(n:Nat)(W:Int→List Fo.Trip)(first:Int),vs=[.ref r,.int first]∧ZbI H r ia n W∧n≤1000∧(∀a,∀t∈W a,0≤t.1∧t.1<(n:Int))∧0≤first∧first<(n:Int)∧
 ∀(d:Addr)(H':Hp)(tr:Fo.ZF),H d=none→Zd H H'→Vk H' d tr→Fo.Z6 W first tr→Fo.Uy W tr tr.length→Q (.ref d) H'
section
variable {P:Program}{w:World}{K:PySem.W.Frag}{mg:Str→Option Value}{base:Heap}
theorem ZfO(T:Tp K mg):Zl P w K mg base (CXX P w) 1 T.f_tree_from T.d_tree_from ["ways","first"] (ZbX T):=by
 refine T.F_tree_from.okX Yv (fun vs H Q E h=>?_) (fun cdv A outer s H vs Q E hr h=>?_)
 ·obtain⟨r,ia,n,W,first,rfl,_⟩:=h
  rfl
 ·have hu:=hr.units;obtain⟨r,ia,n,W,first,rfl,hw,hn,hrg,f0,f1,q⟩:=h;have hil:=hw.len;refine⟨_,(Zf (Zx (i:=2) Yv.nd rfl (Or.inl rfl) (Zj9 (ZjB (pv 1) Zbi ZkA) rfl rfl (by simp) (by decide)))
     (Zf (Zx (i:=3) Yv.nd rfl (Or.inl rfl) (YH (Za (pv 1) Zb)))
     (Zf (Zx (i:=4) Yv.nd rfl (Or.inl rfl) Zc)
     (Zf (Za3 PassesOwn.leaving (Zz Zb5 (pv 4) (ZC (YC (K:=K) rfl) (by rfl) T.n_len PySem.boot_len (Za (pv 3) Zb)) (ZG _)) (Zf (Zx (i:=5) Yv.nd rfl (Or.inl rfl) (Zp (Zu (K:=K) rfl) (pv 3) (pv 4) (fun _ _=>rfl)))
     (Zf (Zh0 (i:=4) Yv.nd rfl (Or.inl rfl) Zc ZhQ)
     (Zg (Yf PassesOwn.leaving rfl (Z0 (K:=K) rfl (Zp (Zu (K:=K) rfl) (pv 0) (pv 5) (fun _ _=>rfl))) (Y6 (K:=K) (n:=3) rfl rfl (ZP (Zr (i:=6) Yv.nd rfl (Or.inl rfl)) (ZP (Zr (i:=7) Yv.nd rfl (Or.inl rfl)) (ZP (Zr (i:=8) Yv.nd rfl (Or.inl rfl)) Y8)))) (Zg (ZX (Zz (Zeg hu) (pv 6) (pv 2) (by with_unfolding_all rfl)) (Zf (ZaR (Yu (Za (pv 5) (Za (pv 7) (Za (pv 8) Zb)))) (ZaG (pv 2) (pv 6) (Za1 hu)))
     (Zg (ZL (WK (K:=K) rfl PySem.F.plainAttrs_list PySem.F.slot_list_append PySem.F.type_list_append Ym (pv 3) (Za (pv 6) Zb))))) ZI)))))))
     (Zg (Zt (pv 2))))))),?_⟩
  try dsimp only[L2.cxX,L2.ZJ,L2.Zm]
  walk_at "rds";intro d hd;dsimp only[Zc4];walk_at "rds";refine⟨Ze,[(Sum.inl first,.non)],rfl,by simp,?_⟩;have hd1:(upd (upd H d (.dK [])) d (.dK (Yg [] [(Sum.inl first,.non)]))) d=some (.dK [(Sum.inl first,.non)]):=Ze;have s1:Zd H (upd (upd H d (.dK [])) d (.dK (Yg [] [(Sum.inl first,.non)]))):=(Zk hd).new hd;generalize upd (upd H d (.dK [])) d (.dK (Yg [] [(Sum.inl first,.non)]))=H1 at*;walk_at "rds";refine(fun c hc=>?_);have s2:Zd H1 (upd H1 c (.lst [V.int first])):=Zk hc;have hc2:(upd H1 c (.lst [V.int first])) c=some (.lst ((Fo.keys [(first,none)]).map V.int)):=Ze;have hd2:=s2 _ _ hd1;have hc0:H c=none:=ZY s1 hc;have ncd:c≠d:=fun z=>by rw[z,hd1] at hc;cases hc
  generalize upd H1 c (.lst [V.int first])=H2 at*;have s02:=s1.trans s2;have ht2:Vk H2 d [(first,none)]:=⟨_,hd2,.cons ⟨rfl,rfl⟩ .nil⟩;clear hd1 hd2 s1 s2 hc;walk_at "rds";refine Zc6 (fun m σ H'=>∃(tr:Fo.ZF)(dn:Nat)(a1 a2 a3 a4:Option V),σ=[some (.ref r),some (.int first),some (.ref d),some (.ref c),some (.int dn),a1,a2,a3,a4]∧Zd H H'∧Vk H' d tr∧H' c=some (.lst ((Fo.keys tr).map V.int))∧dn≤tr.length∧Fo.Z6 W first tr∧Fo.Uy W tr dn∧m=n+1-dn) (n+1)
   ⟨[(first,none)],0,_,_,_,_,rfl,s02,ht2,hc2,Nat.zero_le _,Fo.ZiM,fun j w s hj=>absurd hj (Nat.not_lt_zero _),rfl⟩ ?_
  rintro m σ H3 ⟨tr,dn,a1,a2,a3,a4,rfl,s3,ht3,hc3,hdn,hg,hgo,rfl⟩;have hkl:((Fo.keys tr).map V.int).length=tr.length:=by simp[Fo.keys]
  have htn:tr.length≤n:=by
   have:=Fo.WT (n:=n) hg.nodup (hg.rg ⟨f0,f1⟩ hrg);simpa[Fo.keys] using this
  walk_at "rds";rw[hkl];refine Rd.ifD (fun z=>?_) (fun z=>?_)
  ·have hdl:dn<tr.length:=by omega
   obtain⟨⟨w,st⟩,ew⟩:∃x,tr[dn]? =some x:=⟨tr[dn],List.getElem?_eq_getElem hdl⟩;have hwk:=Fo.WF ew;obtain⟨w0,w1⟩:=hg.rg ⟨f0,f1⟩ hrg w hwk;have at1:atI ((Fo.keys tr).map V.int) (dn:Int)=some (.int w):=Yo (by rw[List.getElem?_map];unfold Fo.keys;rw[List.getElem?_map,ew];rfl);have hwl:w.toNat<ia.length:=by omega
   have atw:=ZdL w0 hwl;have hw3:=hw.same s3;have hwr:=hw3.at_;obtain⟨vs,hv0,hv1⟩:=hw.wa w.toNat hwl;rw[Int.toNat_of_nonneg w0] at hv1;have hv3:=s3 _ _ hv0;have hvl:=hv1.length;refine ZeH ?_;walk_at "rds";refine⟨_,rfl,?_⟩;walk_at "rds";refine VZ (ZU (SqL.of hv0)) (fun j σ H'=>∃(tr:Fo.ZF)(a2 a3 a4:Option V),σ=[some (.ref r),some (.int first),some (.ref d),some (.ref c),some (.int (dn+1)),some (.int w),a2,a3,a4]∧Zd H H'∧Vk H' d tr∧H' c=some (.lst ((Fo.keys tr).map V.int))∧Fo.Z6 W first tr∧Fo.Uy W tr dn∧tr[dn]? =some (w,st)∧∀t∈(W w).take j,t.1∈Fo.keys tr)
    ⟨tr,_,_,_,rfl,s3,ht3,hc3,hg,hgo,ew,by simp⟩ (fun j σ H' ⟨_,_,_,_,_,s,_⟩=>s) ?_ ?_
   ·rintro j σ H4 hj ⟨tr,a2,a3,a4,rfl,s4,⟨kvs,hd4,hen⟩,hc4,hg,hgo,ew,hall⟩;have hjl:j<(W w).length:=by omega
    obtain⟨t,ht1,ht4⟩:=hv1.at (List.getElem?_eq_getElem hjl);have eb:vs.getD j .non= .ref t:=by simp[List.getD,ht1]
    rw[eb];have hmem:(W w)[j]∈W w:=List.getElem_mem hjl;have htk:(W w).take (j+1)=(W w).take j++ [(W w)[j]]:=List.take_succ_eq_append_getElem hjl;have ht5:=s4 _ _ ht4;have hrr:=hrg w _ hmem;generalize (W w)[j]=x at*;obtain⟨o,b,al⟩:=x;refine Rd.Uz (.of ht5) rfl ?_;dsimp only at*;have htn:tr.length≤n:=by
     have:=Fo.WT (n:=n) hg.nodup (hg.rg ⟨f0,f1⟩ hrg);simpa[Fo.keys] using this
    have hkz:kvs.length<sizeLine:=Zq (by rw[hen.length];omega);have hcz:((Fo.keys tr).map V.int).length<sizeLine:=Zq (by simp[Fo.keys];omega);walk_at "rds";have hs:=hen.some (w:=o)
    by_cases ho:o∈Fo.keys tr
    ·rw[hs.mpr ho];walk_at "rds";refine⟨tr,_,_,_,rfl,s4,⟨kvs,hd4,hen⟩,hc4,hg,hgo,ew,?_⟩;rw[htk];intro t' ht';rcases List.mem_append.mp ht' with y|y
     ·exact hall t' y
     ·rw[List.mem_singleton.mp y];exact ho
    ·have hno:valV kvs (Sum.inl o)=none:=by
      cases e:valV kvs (Sum.inl o) with
      |none=>rfl
      |some v=>exact absurd (hs.mp (by rw[e];rfl)) ho
     rw[hno,Option.isSome_none];walk_at "rds";refine⟨by show 3≤sizeLine;decide,fun t2 ht2=>?_⟩;have s5:Zd H4 (upd H4 t2 (.tup [.int w,.int b,.bl al])):=Zk ht2;have hn5:(upd H4 t2 (.tup [.int w,.int b,.bl al])) t2=some (.tup [.int w,.int b,.bl al]):=Ze;have hd5:=s5 _ _ hd4;have hc5:=s5 _ _ hc4;have hen5:Ent (upd H4 t2 (.tup [.int w,.int b,.bl al])) kvs tr:=hen.keep fun _ _ e=>s5 _ _ e;generalize upd H4 t2 (.tup [.int w,.int b,.bl al])=H5 at*;walk_at "rds";rw[Za6 _ hno];have tk6:∀a xs,H5 a=some (.tup xs)→(upd H5 d (.dK (kvs++ [(Sum.inl o,.ref t2)]))) a=some (.tup xs):=fun a xs e=>by rw[Zh (Yd e hd5 (by intro z;cases z))];exact e
     have hc6:(upd H5 d (.dK (kvs++ [(Sum.inl o,.ref t2)]))) c=some (.lst ((Fo.keys tr).map V.int)):=by rw[Zh ncd];exact hc5
     have hd6:(upd H5 d (.dK (kvs++ [(Sum.inl o,.ref t2)]))) d=some (.dK (kvs++ [(Sum.inl o,.ref t2)])):=Ze;have hen6:=(hen5.keep tk6).snoc (w:=o) (v:= .ref t2) (s:=some (w,b,al)) ⟨t2,rfl,tk6 _ _ hn5⟩;have s6:Zd H (upd H5 d (.dK (kvs++ [(Sum.inl o,.ref t2)]))):=(s4.trans s5).new hd;generalize upd H5 d (.dK (kvs++ [(Sum.inl o,.ref t2)]))=H6 at*;walk_at "rds";have hdl2:=(List.getElem?_eq_some_iff.mp ew).1;refine⟨tr++ [(o,some (w,b,al))],_,_,_,rfl,s6.new hc0,⟨_,by rw[Zh ncd.symm];exact hd6,hen6.keep fun a xs e=>by rw[Zh (Yd e hc6 (by intro z;cases z))];exact e⟩,?_,hg.snoc ew hmem ho,hgo.snoc (by omega) _ _,Fo.Zci ew,?_⟩
     ·rw[Ze,Fo.Zag,List.map_append];rfl
     ·rw[htk,Fo.Zag];intro t' ht';rcases List.mem_append.mp ht' with y|y
      ·exact List.mem_append_left _ (hall t' y)
      ·rw[List.mem_singleton.mp y];exact List.mem_append_right _ (List.mem_singleton.mpr rfl)
   ·rintro σ H4 ⟨tr,a2,a3,a4,rfl,s4,ht4,hc4,hg,hgo,ew,hall⟩;rw[←hvl,List.take_length] at hall;have hdl2:=(List.getElem?_eq_some_iff.mp ew).1;walk_at "rds";exact⟨n+1-(dn+1),by omega,tr,dn+1,_,_,_,_,rfl,s4,ht4,hc4,hdl2,hg,hgo.next ew hall,rfl⟩
  ·have e:dn=tr.length:=by omega
   subst e;walk_at "rds";exact q d H3 tr hd s3 ht3 hg hgo
end
def U3{K:PySem.W.Frag}{mg:Str→Option Value}(T:Tp K mg):Sp:=fun vs H Q _=>∃(p:Addr)(hl:HM)(fp:List Addr),vs=[.ref p]∧Zv T H p hl fp∧hl.names.length≤60∧hl.belts.length≤1000∧ZE hl.belts hl.names.length∧
 ∀(f:Addr)(ds:List Addr)(H':Hp)(F:List (Int×Fo.ZF)),H f=none→Zd H H'→Zi6 H' f ds F→(∀d∈ds,H d=none)→Fo.Wn (ZT hl.belts) hl.names.length F hl.names.length→F.length≤hl.names.length→Q (.ref f) H'
section
variable {P:Program}{w:World}{K:PySem.W.Frag}{mg:Str→Option Value}{base:Heap}
theorem Zbq(T:Tp K mg):Zl P w K mg base (CXX P w) 3 T.f_forest_of T.d_forest_of ["hall"] (U3 T):=by
 have G_ways_of:Zl P w K mg base (CXX P w) 2 T.f_ways_of T.d_ways_of ["hall"] (Zdd T):=(Zhy T).mono (by decide);have G_tree_from:Zl P w K mg base (CXX P w) 2 T.f_tree_from T.d_tree_from ["ways","first"] (ZbX T):=(ZfO T).mono (by decide);refine T.F_forest_of.okX Wt (fun vs H Q E h=>?_) (fun cdv A outer s H vs Q E hr h=>?_)
 ·obtain⟨p,hl,fp,rfl,_⟩:=h
  rfl
 ·have hu:=hr.units;obtain⟨p,hl,fp,rfl,hh,hn,hz,hbt,q⟩:=h;refine⟨_,(Zf (Zx (i:=1) Wt.nd rfl (Or.inl rfl) (Zn G_ways_of hr rfl T.m_ways_of T.F_ways_of.kp T.b_ways_of .nil Zi (Za (pv 0) Zb)))
     (Zf (Zx (i:=2) Wt.nd rfl (Or.inl rfl) ZcR)
     (Zf (Zx (i:=3) Wt.nd rfl (Or.inl rfl) (YH Zb))
     (Zf (Yf PassesOwn.leaving rfl (Yb rfl T.n_range (Za (ZC (YC (K:=K) rfl) (by rfl) T.n_len PySem.boot_len (Za (pv 1) Zb)) Zb)) (Zr (i:=4) Wt.nd rfl (Or.inl rfl)) (Zg (ZX (Zz (Zeg hu) (pv 4) (pv 2) (by with_unfolding_all rfl)) (Zf (Zx (i:=5) Wt.nd rfl (Or.inl rfl) (Zn G_tree_from hr rfl T.m_tree_from T.F_tree_from.kp T.b_tree_from .nil Zi (Za (pv 1) (Za (pv 4) Zb))))
     (Zf (ZL (WK (K:=K) rfl PySem.F.plainAttrs_dict PySem.F.slot_dict_update PySem.F.type_dict_update Zkg (pv 2) (Za (pv 5) Zb)))
     (Zg (ZL (WK (K:=K) rfl PySem.F.plainAttrs_list PySem.F.slot_list_append PySem.F.type_list_append Ym (pv 3) (Za (pv 5) Zb)))))) ZI)))
     (Zg (Zt (pv 3))))))),?_⟩
  try dsimp only[L2.cxX,L2.ZJ,L2.Zm]
  walk_at "rds";refine⟨p,hl,fp,rfl,hh,by omega,hz,hbt,fun r ia H1 hr s1 hw1=>?_⟩;walk_at "rds";intro se hse;have s2:Zd H1 (upd H1 se (.dK [])):=Zk hse;have hs2:(upd H1 se (.dK [])) se=some (.dK []):=Ze;have hse0:H se=none:=ZY s1 hse;generalize upd H1 se (.dK [])=H2 at*;walk_at "rds";refine⟨Nat.zero_le _,fun f hf=>?_⟩;have s3:Zd H2 (upd H2 f (.lst [])):=Zk hf;have hf3:(upd H2 f (.lst [])) f=some (.lst (([]:List Addr).map V.ref)):=Ze;have hs3:=s3 _ _ hs2;have hf1:H1 f=none:=ZY s2 hf;have hf0:H f=none:=ZY s1 hf1;generalize upd H2 f (.lst [])=H3 at*;have s13:=s2.trans s3;have hw3:=hw1.same s13;have hwr:=hw3.at_;have hwl:((ia.map V.ref).length:Int)=(hl.names.length:Int):=by rw[List.length_map,hw1.len]
  walk_at "rds";rw[hwl];refine Wg (n:=hl.names.length) (fun i σ H'=>∃(kvs:List (Key×V))(ds:List Addr)(F:List (Int×Fo.ZF))(a1 a2:Option V),σ=[some (.ref p),some (.ref r),some (.ref se),some (.ref f),a1,a2]∧Zd H1 H'∧H' se=some (.dK kvs)∧H' f=some (.lst (ds.map V.ref))∧Y4 H' ds F∧
   (∀d∈ds,d≠se∧H d=none)∧kvs.length≤60*i∧(∀w:Int,(valV kvs (Sum.inl w)).isSome=true↔∃x∈F,w∈Fo.keys x.2)∧Fo.Wn (ZT hl.belts) hl.names.length F i∧F.length≤i)
   ⟨[],[],[],_,_,rfl,s13,hs3,hf3,.nil,by simp,Nat.zero_le _,fun w=>⟨fun z=>(by cases z),fun⟨x,hx,_⟩=>(by cases hx)⟩,Fo.Zi5,Nat.le_refl _⟩ ?_ ?_
  ·rintro i σ H4 hi ⟨kvs,ds,F,a1,a2,rfl,s4,hs4,hf4,hT4,hds,hkl,hin,hwd,hFl⟩;rw[Int.zero_add];walk_at "rds";have hs:=hin (i:Int)
   by_cases hx:∃x∈F,(i:Int)∈Fo.keys x.2
   ·rw[hs.mpr hx];walk_at "rds";exact⟨kvs,ds,F,_,_,rfl,s4,hs4,hf4,hT4,hds,by omega,hin,hwd.skip hx,by omega⟩
   ·have hno:(valV kvs (Sum.inl (i:Int))).isSome=false:=by
     cases e:(valV kvs (Sum.inl (i:Int))).isSome with
     |false=>rfl
     |true=>exact absurd (hs.mp e) hx
    rw[hno];walk_at "rds";refine⟨r,ia,hl.names.length,ZT hl.belts,(i:Int),rfl,hw1.same s4,by omega,W5 hbt,by omega,by omega,fun d H5 tr hd0 s5 ht5 hg hgo=>?_⟩;obtain⟨more,hd5,hen⟩:=id ht5;have nds:se≠d:=Zy hs4 hd0;have hs5:=s5 _ _ hs4;have hf5:=s5 _ _ hf4;have hT5:=hT4.same s5;have hrg5:=hg.rg (n:=(hl.names.length:Int)) ⟨by omega,by omega⟩ (W5 hbt);have htl:tr.length≤hl.names.length:=by
     have:=Fo.WT (n:=hl.names.length) hg.nodup hrg5;simpa[Fo.keys] using this
    have hml:more.length≤60:=by rw[hen.length];omega
    walk_at "rds";refine⟨.inr (.inr (.inl ⟨rfl,.inl ⟨_,hs5⟩⟩)),?_⟩;walk_at "rds";refine Rd.Zm5 nds hs5 hd5 (Nat.le_of_lt (Za5 (by omega))) ?_;have hme:=Zdk more kvs;have hmk:=Vn more kvs;have tk6:∀a xs,H5 a=some (.tup xs)→(upd H5 se (.dK (Yg kvs more))) a=some (.tup xs):=fun a xs e=>by rw[Zh (Yd e hs5 (by intro z;cases z))];exact e
    have hs6:(upd H5 se (.dK (Yg kvs more))) se=some (.dK (Yg kvs more)):=Ze;have hf6:(upd H5 se (.dK (Yg kvs more))) f=some (.lst (ds.map V.ref)):=by rw[Zh (Yd hf5 hs5 (by intro z;cases z))];exact hf5
    have hd6:Vk (upd H5 se (.dK (Yg kvs more))) d tr:=⟨more,by rw[Zh nds.symm];exact hd5,hen.keep tk6⟩;have hT6:Y4 (upd H5 se (.dK (Yg kvs more))) ds F:=hT5.keep tk6 (fun d' hd' ks e=>by rw[Zh (hds d' hd').1];exact e);have s6:Zd H1 (upd H5 se (.dK (Yg kvs more))):=(s4.trans s5).new hse;generalize upd H5 se (.dK (Yg kvs more))=H6 at*;have hdz:(ds.map V.ref).length<sizeLine:=Zq (by rw[List.length_map,hT4.length];omega);walk_at "rds";have tk7:∀a xs,H6 a=some (.tup xs)→(upd H6 f (.lst (ds.map V.ref++ [.ref d]))) a=some (.tup xs):=fun a xs e=>by rw[Zh (Yd e hf6 (by intro z;cases z))];exact e
    have dk7:∀a ks,H6 a=some (.dK ks)→(upd H6 f (.lst (ds.map V.ref++ [.ref d]))) a=some (.dK ks):=fun a ks e=>by rw[Zh (Yd e hf6 (by intro z;cases z))];exact e
    obtain⟨more',hd6',hen6⟩:=hd6;refine⟨Yg kvs more,ds++ [d],F++ [((i:Int),tr)],_,_,rfl,s6.new hf1,dk7 _ _ hs6,by rw[Ze,List.map_append];rfl,(hT6.keep tk7 fun d' _ ks e=>dk7 _ _ e).snoc ⟨more',dk7 _ _ hd6',hen6.keep tk7⟩,fun d' hd'=>?_,by omega,fun w=>?_,hwd.grow (Zal _) (W5 hbt) hi (fun x hx' hk=>hx ⟨x,hx',hk⟩) hg hgo,by simp;omega⟩
    ·rcases List.mem_append.mp hd' with z|z
     ·exact hds d' z
     ·rw[List.mem_singleton.mp z];exact⟨nds.symm,ZY (s1.trans s4) hd0⟩
    ·rw[hme,Bool.or_eq_true,hin w,hen.some]
     constructor
     ·rintro(⟨x,hx1,hx2⟩|z)
      ·exact⟨x,List.mem_append_left _ hx1,hx2⟩
      ·exact⟨_,List.mem_append_right _ (List.mem_singleton.mpr rfl),z⟩
     ·rintro⟨x,hx1,hx2⟩;rcases List.mem_append.mp hx1 with z|z
      ·exact .inl ⟨x,z,hx2⟩
      ·rw[List.mem_singleton.mp z] at hx2;exact .inr hx2
  ·rintro σ H4 ⟨kvs,ds,F,a1,a2,rfl,s4,hs4,hf4,hT4,hds,hkl,hin,hwd,hFl⟩;walk_at "rds";exact q f ds H4 F hf0 (s1.trans s4) ⟨hf4,hT4⟩ (fun d hd=>(hds d hd).2) hwd hFl
end
def UZ{K:PySem.W.Frag}{mg:Str→Option Value}(T:Tp K mg):Sp:=fun vs H Q _=>∃(p:Addr)(hl:HM)(fp:List Addr),vs=[.ref p]∧Zv T H p hl fp∧hl.names.length≤60∧hl.belts.length≤1000∧ZE hl.belts hl.names.length∧
 ∀(r:Addr)(ys:List V)(xss:List (List Int))(H':Hp)(F:List (Int×Fo.ZF)),H r=none→Zd H H'→H' r=some (.lst ys)→Yw (hid H' r) ys xss→(∀v∈ys,∃t,v= .ref t∧H t=none)→ZeJ xss F→Fo.Wn (ZT hl.belts) hl.names.length F hl.names.length→F.length≤hl.names.length→Q (.ref r) H'
theorem Zfp{H0 H:Hp}{F:List (Int×Fo.ZF)}:∀{zs:List Nat}{ys:List V},(∀z∈zs,z<F.length)→Paired (fun i v=>∃t xs,v=V.ref t∧H0 t=none∧H t=some (.lst ((xs:List Int).map V.int))∧xs.Perm (Fo.keys (F.getD i (0,[])).2)∧xs.Pairwise (· ≤·)) zs ys→∃xss,Yw H ys xss∧ZeJ xss (zs.map fun i=>F.getD i (0,[]))∧∀v∈ys,∃t,v=V.ref t∧H0 t=none
 |_,_,_,.nil=>⟨[],.nil,.nil,by simp⟩
 |_,_,hz,.cons ⟨t,xs,e,h0,h1,h2,h3⟩ r=>by
  obtain⟨xss,h4,h5,h6⟩:=Zfp (fun z hz'=>hz z (List.mem_cons_of_mem _ hz')) r;refine⟨xs::xss,.cons ⟨t,e,h1⟩ h4,.cons ⟨h2,h3⟩ h5,fun v hv=>?_⟩;rcases List.mem_cons.mp hv with rfl|hv
  ·exact⟨t,e,h0⟩
  ·exact h6 v hv
section
variable {P:Program}{w:World}{K:PySem.W.Frag}{mg:Str→Option Value}{base:Heap}
theorem Zbu(T:Tp K mg):Zl P w K mg base (CXX P w) 4 T.f_pieces_of T.d_pieces_of ["hall"] (UZ T):=by
 have G_forest_of:Zl P w K mg base (CXX P w) 3 T.f_forest_of T.d_forest_of ["hall"] (U3 T):=(Zbq T).mono (by decide);refine T.F_pieces_of.okX ZfG (fun vs H Q E h=>?_) (fun cdv A outer s H vs Q E hr h=>?_)
 ·obtain⟨p,hl,fp,rfl,_⟩:=h
  rfl
 ·have hu:=hr.units;obtain⟨p,hl,fp,rfl,hh,hn,hz,hbt,q⟩:=h;refine⟨_,(Zg (Zt (YY (xs:=["tree"]) rfl (Z2 (x:="tree") (zs:=[]) (ix:=[]) (Zj Vi) ["hall"] rfl rfl (by decide+kernel)) (Z0 (K:=K) rfl (Zn G_forest_of hr rfl T.m_forest_of T.F_forest_of.kp T.b_forest_of .nil Zi (Za (pv 0) Zb))) (fun cl C s H fp=>⟨(Zr (i:=0) (show(["tree"]:List Str).Nodup by decide+kernel) rfl (Or.inl rfl)),Z8,(ZC (Zfo rfl) (by rfl) T.n_sorted PyProof.Rows.boot_sorted (Za (pv 0) Zb))⟩)))),?_⟩
  try dsimp only[L2.cxX,L2.ZJ,L2.Zm]
  walk_at "rds";refine⟨p,hl,fp,rfl,hh,hn,hz,hbt,fun f ds H1 F hf0 s1 hF hnew hwd hFl=>?_⟩;have hdl:=hF.trees.length;have hfa:=hF.at_;walk_at "rds";refine Yc (own:=1) (ZU (SqL.of hfa)).y (Zq (by rw[List.length_map,hdl];omega)) (fun i=>[some ((ds.map V.ref).getD i .non)]) (fun _=>rfl) (fun _=>true) (fun i v H'=>∃t xs,v= .ref t∧H t=none∧H' t=some (.lst ((xs:List Int).map V.int))∧xs.Perm (Fo.keys (F.getD i (0,[])).2)∧xs.Pairwise (· ≤·)) (fun i v G1 G2 e z=>?_) (fun i a' H' v H3 Kg hi sm y hal k=>?_) (fun i H' Kc hi sm k=>?_) (fun pp i H' Kc hi hci hp0 hp1 sm k=>?_) (fun r H3 ys hr sm hl' hR=>?_)
  ·obtain⟨t,xs,e1,e0,e2,e3⟩:=z;exact⟨t,xs,e1,e0,e _ _ e2,e3⟩
  ·obtain⟨rfl,rfl⟩:=y;obtain⟨x1,rfl⟩:∃x1,a'=[x1]:=by
    match a',hal with
    | [x1],_=>exact⟨x1,rfl⟩
   walk_at "rds";exact k _ (Zd.refl _)
  ·walk_at "rds";exact k H' (Zd.refl H')
  ·have hi':i<ds.length:=by simpa using hi
   have hiF:i<F.length:=by omega
   have ei:(ds.map V.ref).getD i .non= .ref ds[i]:=by simp[List.getD,hi']
   rw[ei];obtain⟨x,hx,ht⟩:=Paired.get' hF.trees (List.getElem?_eq_getElem hi');have ex:F.getD i (0,[])=x:=by simp[List.getD,hx]
   rw[ex] at k;obtain⟨kvs,hd,hen⟩:=ht.same sm;obtain⟨g,gg,g0,g1⟩:=hwd.tree x (List.mem_of_getElem? hx);have htl:(Fo.keys x.2).length≤hl.names.length:=Fo.WT (n:=hl.names.length) g.nodup (g.rg ⟨g0,g1⟩ (W5 hbt));have hkl:kvs.length<64:=by
    rw[hen.length];have:(Fo.keys x.2).length=x.2.length:=by simp[Fo.keys]
    omega
   walk_at "rds";refine Rd.ZlX hd hen.keys hkl (fun l ns hl0 hp hs=>?_);exact k _ _ (Zk hl0) ⟨l,ns,rfl,ZY (s1.trans sm) hl0,Zb9 hp1 hl0,hp,hs⟩
  ·rw[List.filter_eq_self.mpr (by simp),List.length_map,hdl] at hR;obtain⟨xss,h1,h2,h3⟩:=Zfp (fun z hz=>List.mem_range.mp hz) hR;have e3:(List.range F.length).map (fun i=>F.getD i (0,[]))=F:=by
    refine List.ext_getElem (by simp) fun j h1 h2=>?_;simp[List.getD,h2]
   rw[e3] at h2;exact q r ys xss H3 F (ZY s1 hr) (s1.trans sm) hl' h1 h3 h2 hwd hFl
end
def Zav{K:PySem.W.Frag}{mg:Str→Option Value}(T:Tp K mg):Sp:=fun vs H Q _=>∃(n:Nat)(lp:Addr)(bs:List V)(ls:List B5),vs=[.int n,.ref lp]∧H lp=some (.lst bs)∧ZS H bs ls∧ZE ls n∧n≤60∧
 ∀(r:Addr)(H':Hp)(ys:List V),H r=none→Zd H H'→H' r=some (.lst ys)→Yw (hid H' r) ys (ZeZ (ZN ls) n)→Q (.ref r) H'
section
variable {P:Program}{w:World}{K:PySem.W.Frag}{mg:Str→Option Value}{base:Heap}
theorem ZcD(T:Tp K mg):Zl P w K mg base (CXX P w) 1 T.f_l_pieces T.d_l_pieces ["_law_many","_law_lines_here"] (Zav T):=by
 refine T.F_l_pieces.okX WP (fun vs H Q E h=>?_) (fun cdv A outer s H vs Q E hr h=>?_)
 ·obtain⟨n,lp,bs,ls,rfl,_⟩:=h
  rfl
 ·have hu:=hr.units;obtain⟨n,lp,bs,ls,rfl,hlp,hT,hbt,hn,q⟩:=h;have hbl:=hT.length;have hE:=U2 hbt;refine⟨_,(Zf (Zx (i:=2) WP.nd rfl (Or.inl rfl) (YH Zb))
     (Zf (Yf PassesOwn.leaving rfl (Yb rfl T.n_range (Za (pv 0) Zb)) (Zr (i:=3) WP.nd rfl (Or.inr rfl)) (Zg (ZX (YM (K:=K) rfl (ZC (Zc5 (K:=K) rfl rfl) (by rfl) T.n_all PyProof.Rows.boot_all (Za (Wa rfl (Z2 (x:="_law_part") (zs:=["_law_work"]) (ix:=[3]) (Zj VE) ["_law_many","_law_lines_here","_law_found","_law_work","_law_part","_law_step","_law_line"] rfl rfl (by decide+kernel)) (Z0 (K:=K) rfl (pv 2)) (fun cl C s H fp=>⟨(Zr (i:=0) (show(["_law_part","_law_work"]:List Str).Nodup by decide+kernel) rfl (Or.inl rfl)),Z8,(W7 (ZdV (K:=K) rfl) (pv 1) (pv 0) (by with_unfolding_all rfl))⟩)) Zb)) (fun _=>rfl)) (Zf (Zx (i:=4) WP.nd rfl (Or.inl rfl) (YH (Za (pv 3) Zb)))
     (Zf (Yf PassesOwn.leaving rfl (Yb rfl T.n_range (Za (pv 0) Zb)) (Zr (i:=5) WP.nd rfl (Or.inl rfl)) (Zg (Yf PassesOwn.leaving rfl (Z0 (K:=K) rfl (pv 1)) (Zr (i:=6) WP.nd rfl (Or.inl rfl)) (Zf (Zaz (ZX (PW.pt (ZbK (Zz (Zk0 (K:=K) rfl) (Zp (Zu (K:=K) rfl) (pv 6) Zc (fun _ _=>rfl)) (pv 4) (by with_unfolding_all rfl)) (ZaJ (Zz (ZdV (K:=K) rfl) (Zp (Zu (K:=K) rfl) (pv 6) Zc (fun _ _=>rfl)) (pv 4) (by with_unfolding_all rfl))))) (Zg (ZL (WK (K:=K) rfl PySem.F.plainAttrs_list PySem.F.slot_list_append PySem.F.type_list_append Ym (pv 4) (Za (Zp (Zu (K:=K) rfl) (pv 6) Zc (fun _ _=>rfl)) Zb)))) ZI))
     (Zg (Zaz (ZX (PW.pt (ZbK (Zz (Zk0 (K:=K) rfl) (Zp (Zu (K:=K) rfl) (pv 6) Zc (fun _ _=>rfl)) (pv 4) (by with_unfolding_all rfl)) (ZaJ (Zz (ZdV (K:=K) rfl) (Zp (Zu (K:=K) rfl) (pv 6) Zc (fun _ _=>rfl)) (pv 4) (by with_unfolding_all rfl))))) (Zg (ZL (WK (K:=K) rfl PySem.F.plainAttrs_list PySem.F.slot_list_append PySem.F.type_list_append Ym (pv 4) (Za (Zp (Zu (K:=K) rfl) (pv 6) Zc (fun _ _=>rfl)) Zb)))) ZI)))))))
     (Zg (ZL (WK (K:=K) rfl PySem.F.plainAttrs_list PySem.F.slot_list_append PySem.F.type_list_append Ym (pv 2) (Za (ZC (Ze1 (K:=K) rfl) (by rfl) T.n_sorted PyProof.Rows.boot_sorted (Za (pv 4) Zb)) Zb)))))) ZI)))
     (Zg (Zt (pv 2))))),?_⟩
  try dsimp only[L2.cxX,L2.ZJ,L2.Zm]
  walk_at "rds";refine⟨Nat.zero_le _,fun r hr=>?_⟩;have s1:Zd H (upd H r (.lst [])):=Zk hr;have hr1:(upd H r (.lst [])) r=some (.lst []):=Ze;generalize upd H r (.lst [])=H1 at*;walk_at "rds";refine Wg (n:=n) (fun i σ H'=>∃(ys:List V)(a1 a2 a3 a4:Option V),σ=[some (.int n),some (.ref lp),some (.ref r),a1,a2,a3,a4]∧Zd H H'∧H' r=some (.lst ys)∧ys.length≤i∧Yw (hid H' r) ys (dueI (ZN ls) n i)) ⟨[],_,_,_,_,rfl,s1,hr1,Nat.le_refl _,.nil⟩ ?_ ?_
  ·rintro i σ H2 hi ⟨ys,a1,a2,a3,a4,rfl,s2,hr2,hyl,hR2⟩;have hxl:=hR2.length;have hR2s:=SqL.of (K:=K) hr2;rw[Zif];have hnp:=Zie (i:=i) hE hi;have hdn:∀j<(dueI (ZN ls) n i).length,((dueI (ZN ls) n i).getD j []).length≤60:=fun j hj=>by
    obtain⟨f,_,e⟩:=List.mem_map.mp (ZcI (d:=[]) hj);have e':(dueI (ZN ls) n i).getD j []=VT (ZN ls) n f:=e.symm;rw[e'];unfold VT;rw[List.length_map];exact Nat.le_trans (List.length_filter_le _ _) (by rw[List.length_range];exact hn)
   generalize dueI (ZN ls) n i=xss at*;walk_at "rds";refine Yn (ZU hR2s) (Zq (by omega)) (fun _=>true) (fun j=> .bl (!decide ((i:Int)∈xss.getD j []))) (fun j H' Kc hj sm k=>?_) (fun j H' Kc hj _ sm k=>?_) (fun ba H3 hba s3 hba3=>?_)
   ·walk_at "rds";exact k H' (Zd.refl H')
   ·obtain⟨t,ht1,ht2⟩:=Zix hR2 (i:=j) (by omega);have ht3:=sm _ _ (Yk _ _ ht2);have ht4:=SqL.of (K:=K) ht3;have htl:=hdn j (by omega);rw[ht1,Int.zero_add];generalize xss.getD j []=xs at*;walk_at "rds";exact k H' (Zd.refl H')
   have hbv:H3 ba=some (.lst (((List.range xss.length).map fun j=>!decide ((i:Int)∈xss.getD j [])).map V.bl)):=by
    rw[hba3,List.filter_eq_self.mpr (by simp),hxl,List.map_map]
    rfl
   clear hba3;have hB3:=SqL.of (K:=K) hbv;have hall:((List.range xss.length).map fun j=>!decide ((i:Int)∈xss.getD j [])).all id=decide (Yh (ZN ls) n i=i):=by
    rw[Bool.eq_iff_iff,decide_eq_true_iff,←hnp];simp only[List.all_map,List.all_eq_true,List.mem_range,Function.comp_def,id_eq,Bool.not_eq_true',decide_eq_false_iff_not]
    constructor
    ·intro h xs hx;obtain⟨j,hj,rfl⟩:=List.getElem_of_mem hx;have:=h j hj;rw[ZH hj] at this;exact this
    ·intro h j hj;exact h _ (ZcI hj)
   have s03:=s2.trans s3;have hr3:=s3 _ _ hr2;have hR3:=hR2.same (Zas (p:=r) s3);have hlp3:=s03 _ _ hlp;walk_at "rds";rw[hall];walk_at "rds";refine Rd.ifD (fun c=>?_) (fun c=>?_)
   ·rw[if_pos c];walk_at "rds";intro pa hpa;rw[Int.zero_add];have s4:Zd H3 (upd H3 pa (.lst [V.int (i:Int)])):=Zk hpa;have hp4:(upd H3 pa (.lst [V.int (i:Int)])) pa=some (.lst (([(i:Int)]:List Int).map V.int)):=Ze;have nrp:r≠pa:=Zy hr3 hpa;generalize upd H3 pa (.lst [V.int (i:Int)])=H4 at*;have hr4:=s4 _ _ hr3;have hR4:=hR3.same (Zas (p:=r) s4);walk_at "rds";refine Wg (n:=n) (fun m σ H'=>∃(xs:List Int)(a3 a4:Option V),σ=[some (.int n),some (.ref lp),some (.ref r),some (.int (i:Int)),some (.ref pa),a3,a4]∧Zd H3 H'∧H' pa=some (.lst (xs.map V.int))∧(i:Int)∈xs∧xs.Nodup∧(∀w∈xs,0≤w∧w<(n:Int))∧UT ls i xs∧(Zcj ls xs∨m<xs.length)) ⟨[(i:Int)],_,_,rfl,s4,hp4,by simp,by simp,by simp;omega,fun P pf _ w hw=>by rw[List.mem_singleton.mp hw];exact pf,.inr (by simp)⟩ ?_ ?_
    ·rintro i0 σ H5 hi0 ⟨xs,a3,a4,rfl,s5,hp5,hf,hnd,hrg,hsp,hlen⟩;have hlp5:=s5 _ _ hlp3;have hsr5:=SqL.of (K:=K) hp5;walk_at "rds";refine VZ (ZU (SqL.of hlp3)) (fun m σ H'=>Zd H3 H'∧∃(a4:Option V)(zs:List Int),σ=[some (.int n),some (.ref lp),some (.ref r),some (.int (i:Int)),some (.ref pa),some (.int (0+(i0:Int))),a4]∧H' pa=some (.lst (zs.map V.int))∧ZbL ls n m xs zs∧UT ls i zs) ⟨s5,_,xs,rfl,hp5,⟨⟨[],(List.append_nil xs).symm⟩,hnd,hrg,fun _ j hj=>absurd hj (Nat.not_lt_zero _)⟩,hsp⟩ (fun i σ H' h=>h.1) ?_ ?_
     ·rintro m σ H6 hm6 ⟨s6,a4,zs,rfl,hp6,hm,hsy⟩;have hil:m<ls.length:=by omega
      obtain⟨t,et,ht⟩:=hT.getD hil;rw[et];have ht6:=s6 _ _ (s03 _ _ ht);have hms:=hm.step hbt hil;have hyl:=Fo.WT hm.nd hm.rg;have hlb:=hbt.at hil;have hs1:=hsy.add (a:=(ls.getD m dB).giver) (b:=(ls.getD m dB).taker) (fun P pj=>(pj m hil).mp);have hs2:=hs1.add (a:=(ls.getD m dB).taker) (b:=(ls.getD m dB).giver) (fun P pj=>(pj m hil).mpr);have htt:=s03 _ _ ht;generalize ls.getD m dB=l at*;have hsr:=SqL.of (K:=K) hp6;dsimp only[B5.v] at htt ht6;walk_at "rds";refine Rd.cut (fun σ' H'=>Zd H3 H'∧σ'=[some (.int n),some (.ref lp),some (.ref r),some (.int (i:Int)),some (.ref pa),some (.int (0+(i0:Int))),some (.ref t)]∧H' pa=some (.lst ((addW l.giver l.taker zs).map V.int))) ?k1 ?i1
      case i1=>
       walk_at "rds";refine Rd.ifD (fun c=>?_) (fun c=>?_)
       ·walk_at "rds"
        by_cases c2:l.taker∈zs
        ·rw[if_neg (by simp[c2])];walk_at "rds";exact⟨s6,rfl,by rw[hp6];unfold addW;rw[if_neg (fun z=>z.2 c2)]⟩
        ·rw[if_pos (by simp[c2])];have hz:(zs.map V.int).length<sizeLine:=Zq (by rw[List.length_map];omega);walk_at "rds";exact⟨s6.new hpa,rfl,by rw[Ze];unfold addW;rw[if_pos ⟨c,c2⟩,List.map_append];rfl⟩
       ·walk_at "rds";exact⟨s6,rfl,by rw[hp6];unfold addW;rw[if_neg (fun z=>c z.1)]⟩
      case k1=>
       rintro σ' H7 ⟨s7,rfl,hp7⟩;have ht7:=s7 _ _ htt;obtain⟨b1,b2,b3,b4⟩:=hlb;obtain⟨p1,p2,p3,p4,p5⟩:=ZbU (a:=l.giver) ⟨b3,b4⟩ hm.ext hm.nd hm.rg;have hzl:=Fo.WT p2 p3;generalize addW l.giver l.taker zs=us at*;have hsr7:=SqL.of (K:=K) hp7;walk_at "rds";refine Rd.cut (fun σ' H'=>Zd H3 H'∧σ'=[some (.int n),some (.ref lp),some (.ref r),some (.int (i:Int)),some (.ref pa),some (.int (0+(i0:Int))),some (.ref t)]∧H' pa=some (.lst ((addW l.taker l.giver us).map V.int))) ?k2 ?i2
       case i2=>
        walk_at "rds";refine Rd.ifD (fun c=>?_) (fun c=>?_)
        ·walk_at "rds"
         by_cases c2:l.giver∈us
         ·rw[if_neg (by simp[c2])];walk_at "rds";exact⟨s7,rfl,by rw[hp7];unfold addW;rw[if_neg (fun z=>z.2 c2)]⟩
         ·rw[if_pos (by simp[c2])];have hz:(us.map V.int).length<sizeLine:=Zq (by rw[List.length_map];omega);walk_at "rds";exact⟨s7.new hpa,rfl,by rw[Ze];unfold addW;rw[if_pos ⟨c,c2⟩,List.map_append];rfl⟩
        ·walk_at "rds";exact⟨s7,rfl,by rw[hp7];unfold addW;rw[if_neg (fun z=>c z.1)]⟩
       case k2=>
        rintro σ' H8 ⟨s8,rfl,hp8⟩;walk_at "rds";exact⟨s8,_,_,rfl,hp8,hms,hs2⟩
     ·rintro σ H6 ⟨s6,a4,zs,rfl,hp6,hm,hsy⟩;rw[hbl] at hm;walk_at "rds";have hfy:(i:Int)∈zs:=by obtain⟨ws,ew⟩:=hm.ext;rw[ew];exact List.mem_append.mpr (.inl hf)
      refine⟨zs,_,_,rfl,s6,hp6,hfy,hm.nd,hm.rg,hsy,?_⟩;rcases hlen with hcl|hlen
      ·have ey:=hm.shut fun w hw=>hsy (fun w=>w∈xs) hf hcl w hw;exact .inl (by rw[ey];exact hcl)
      ·rcases hm.lap with⟨hcl,ey⟩|z
       ·exact .inl (by rw[ey];exact hcl)
       ·exact .inr (by omega)
    ·rintro σ H5 ⟨xs,a3,a4,rfl,s5,hp5,hf,hnd,hrg,hsp,hlen⟩;have hxl5:=Fo.WT hnd hrg;have hcl:Zcj ls xs:=by
      rcases hlen with z|z
      ·exact z
      ·omega
     have hr5:=s5 _ _ hr3;have hR5:=hR3.same (Zas (p:=r) s5);have yz:ys.length<sizeLine:=Zq (by omega);walk_at "rds";refine Rd.Zl5 (.of hp5) (by omega) (fun so zs hso hpm hpw=>?_);have ez:=Zis hbt hi c hnd hf hrg hcl hsp hpm hpw;have s6:Zd H5 (upd H5 so (.lst (zs.map V.int))):=Zk hso;have hso6:(upd H5 so (.lst (zs.map V.int))) so=some (.lst (zs.map V.int)):=Ze;have nso:so≠r:=(Zy hr5 hso).symm;generalize upd H5 so (.lst (zs.map V.int))=H6 at*;have hr6:=s6 _ _ hr5;have hR6:=hR5.same (Zas (p:=r) s6);walk_at "rds";refine⟨ys++ [.ref so],_,_,_,_,rfl,(s03.trans (s5.trans s6)).new hr,Ze,by simp;omega,Yw.snoc (hR6.same ZkC) ?_⟩;rw[WJ nso,Zh nso,←ez];exact hso6
   ·rw[if_neg c,List.append_nil];walk_at "rds";exact⟨ys,_,_,_,_,rfl,s03,hr3,by omega,hR3⟩
  ·rintro σ H2 ⟨ys,a1,a2,a3,a4,rfl,s2,hr2,hyl,hR2⟩;have e:dueI (ZN ls) n n=ZeZ (ZN ls) n:=(ZgJ hE).symm;rw[e] at hR2;walk_at "rds";exact q r H2 ys hr s2 hr2 hR2
end
def Zbg{K:PySem.W.Frag}{mg:Str→Option Value}(T:Tp K mg):Sp:=fun vs H Q _=>∃(a:Addr)(w:Int)(bs:List V)(ls:List B5),vs=[.ref a,.int w]∧SqL K H a bs∧ZS H bs ls∧ls.length≤1000∧∀H',Zd H H'→Q (.bl (YI ls (startsL ls) w)) H'
section
variable {P:Program}{w:World}{K:PySem.W.Frag}{mg:Str→Option Value}{base:Heap}
theorem Zex(T:Tp K mg):Zl P w K mg base (CXX P w) 1 T.f_l_is_ready T.d_l_is_ready ["_law_due","_law_work"] (Zbg T):=by
 refine T.F_l_is_ready.okX Zet (fun vs H Q E h=>?_) (fun cdv A outer s H vs Q E hr h=>?_)
 ·obtain⟨a,w,bs,ls,rfl,_⟩:=h
  rfl
 ·have hu:=hr.units;obtain⟨a,w,bs,ls,rfl,ha,hT,hz,q⟩:=h;have hbl:=hT.length;refine⟨_,(Zg (Zt (ZC (Zc5 (K:=K) rfl rfl) (by rfl) T.n_all PyProof.Rows.boot_all (Za (Wa rfl (Z2 (x:="_law_line") (zs:=["_law_work"]) (ix:=[1]) (Zj WX) ["_law_due","_law_work"] rfl rfl (by decide+kernel)) (Z0 (K:=K) rfl (pv 0)) (fun cl C s H fp=>⟨(Zr (i:=0) (show(["_law_line","_law_work"]:List Str).Nodup by decide+kernel) rfl (Or.inl rfl)),(UV (Zz (Wd (K:=K) rfl hu) (Zp (Zu (K:=K) rfl) (pv 0) Zc (fun _ _=>rfl)) (pv 1) (ZG _))),(W7 Zdn (Zp (Zu (K:=K) rfl) (pv 0) Zc (fun _ _=>rfl)) (Zp (Zu (K:=K) rfl) (pv 0) Zc (fun _ _=>rfl)) (ZG _))⟩)) Zb)))),?_⟩
  try dsimp only[L2.cxX,L2.ZJ,L2.Zm]
  walk_at "rds";refine Yn (ZU ha) (Zq (by omega)) (fun i=>decide ((ls.getD i dB).taker=w)) (fun i=> .bl (decide ((ls.getD i dB).take≤(ls.getD i dB).start))) (fun i H' Kc hi sm k=>?_) (fun i H' Kc hi _ sm k=>?_) (fun d H1 hd s1 hd1=>?_)
  ·obtain⟨t,ht1,ht2⟩:=hT.getD (i:=i) (by omega);rw[ht1];have ht3:=sm _ _ ht2;generalize ls.getD i dB=bb at*;dsimp only[B5.v] at ht3;walk_at "rds";exact k H' (Zd.refl H')
  ·obtain⟨t,ht1,ht2⟩:=hT.getD (i:=i) (by omega);rw[ht1];have ht3:=sm _ _ ht2;generalize ls.getD i dB=bb at*;dsimp only[B5.v] at ht3;walk_at "rds";exact k H' (Zd.refl H')
  have hdv:H1 d=some (.lst ((((List.range ls.length).filter fun i=>decide ((ls.getD i dB).taker=w)).map fun i=>decide ((ls.getD i dB).take≤(ls.getD i dB).start)).map V.bl)):=by
   rw[hd1,hbl,List.map_map]
   rfl
  have hD1:=SqL.of (K:=K) hdv;have hall:(((List.range ls.length).filter fun i=>decide ((ls.getD i dB).taker=w)).map fun i=>decide ((ls.getD i dB).take≤(ls.getD i dB).start)).all id=YI ls (startsL ls) w:=by
   rw[Bool.eq_iff_iff,Zf0];simp only[List.all_map,List.all_eq_true,List.mem_filter,List.mem_range,Function.comp_def,id_eq,decide_eq_true_eq]
   constructor
   ·intro h j hj e;have:=h j ⟨hj,by rw[ZH hj];exact e⟩;rw[ZH hj] at this;exact this
   ·intro h j hj;have:=h j hj.1 (by have:=hj.2;rw[ZH hj.1] at this;exact this);rw[ZH hj.1];exact this
  walk_at "rds";rw[hall];exact q H1 s1
end
def Vt{K:PySem.W.Frag}{mg:Str→Option Value}(T:Tp K mg):Sp:=fun vs H Q E=>∃(p:Addr)(w:Int)(hl:HM)(fp:List Addr),vs=[.ref p,.int w]∧Zv T H p hl fp∧hl.belts.length≤1000∧
 (¬(0≤w∧w<hl.names.length)→E (.ref T.X_NoWork) none H)∧(0≤w→w<hl.names.length→∀r H',H r=none→Zd H H'→H' r=some (.lst ((Yp hl.belts w).map fun i:Nat=>V.int i))→Q (.ref r) H')
section
variable {P:Program}{w:World}{K:PySem.W.Frag}{mg:Str→Option Value}{base:Heap}
theorem UY(T:Tp K mg):Zl P w K mg base (CXX P w) 5 T.f_Hall_entering T.d_Hall_entering ["self","work"] (Vt T):=by
 have G_Hall_need_work:Zl P w K mg base (CXX P w) 4 T.f_Hall_need_work T.d_Hall_need_work ["self","work"] (Wq T):=(Vd T).mono (by decide);have cl_Hall:=T.cl_Hall;have na_Hall:=T.na_Hall;refine T.F_Hall_entering.okX ZcS (fun vs H Q E h=>?_) (fun cdv A outer s H vs Q E hr h=>?_)
 ·obtain⟨p,w,hl,fp,rfl,_⟩:=h
  rfl
 ·have hu:=hr.units;obtain⟨p,w,hl,fp,rfl,hh,hz,e1,q⟩:=h;obtain⟨dx,a,b,bs,rfl,h1,h2,h3,h4,nab,h6⟩:=id hh;have hb:=h6.length;refine⟨_,(Zf (ZL (ZV (pv 0) T.cl_Hall T.M_Hall_need_work G_Hall_need_work hr T.b_Hall_need_work .nil Zi (Za (pv 1) Zb)))
     (Zg (Zt (YY (xs:=["belt","row"]) rfl (Z2 (x:="belt") (zs:=["work"]) (ix:=[1]) (Zj Wc) ["self","work"] rfl rfl (by decide+kernel)) (ZaA (K:=K) rfl rfl T.n_enumerate (Za (Ya (K:=K) rfl (pv 0) rfl) Zb)) (fun cl C s H fp=>⟨(Y6 (K:=K) (n:=2) rfl rfl (ZP (Zr (i:=0) (show(["belt","row","work"]:List Str).Nodup by decide+kernel) rfl (Or.inl rfl)) (ZP (Zr (i:=1) (show(["belt","row","work"]:List Str).Nodup by decide+kernel) rfl (Or.inl rfl)) Y8))),(UV (Zz (Wd (K:=K) rfl hu) (Zp (Zu (K:=K) rfl) (pv 1) Zc (fun _ _=>rfl)) (pv 2) (ZG _))),(pv 0)⟩))))),?_⟩
  try dsimp only[L2.cxX,L2.ZJ,L2.Zm]
  walk_at "rds";refine⟨p,w,hl,_,rfl,hh,e1,fun w0 w1=>?_⟩;walk_at "rds";refine Yc (own:=2) (VF (SqL.of h4)) (Zq (by omega)) (fun i=>[some (.int i),some (bs.getD i .non)]) (fun _=>rfl) (fun i=>decide ((hl.belts.getD i dB).taker=w)) (fun i v _=>v= .int i) (fun _ _ _ _ _ z=>z) (fun i a' H' v H2 Kg hi sm y ha k=>?_) (fun i H' Kc hi sm k=>?_) (fun pp i H' Kc hi hc hp0 hp1 sm k=>?_) (fun r H' ys hr sm hl' hR=>?_)
  ·obtain⟨t,ht,rfl,rfl⟩:=y;obtain⟨x1,x2,rfl⟩:∃x1 x2,a'=[x1,x2]:=by
    match a',ha with
    | [x1,x2],_=>exact⟨x1,x2,rfl⟩
   refine Rd.Uz (.of Ze) rfl ?_;walk_at "rds";exact k _ (Zk ht)
  ·obtain⟨t,ht1,ht2⟩:=h6.getD (i:=i) (by omega);rw[ht1];have ht3:=sm _ _ ht2;generalize hl.belts.getD i dB=bb at*;dsimp only[B5.v] at ht3;walk_at "rds";exact k H' (Zd.refl H')
  ·walk_at "rds";exact k _ H' (Zd.refl H') rfl
  ·refine q w0 w1 r H' hr sm ?_;rw[hl',UL (R:=fun i v _=>v=V.int (i:Nat)) (H:=H') (r:=fun i:Nat=>V.int i) (fun _ _ z=>z) hR,hb]
   rfl
end
def VH{K:PySem.W.Frag}{mg:Str→Option Value}(T:Tp K mg):Sp:=fun vs H Q E=>∃(p:Addr)(w:Int)(hl:HM)(fp:List Addr),vs=[.ref p,.int w]∧Zv T H p hl fp∧hl.belts.length≤1000∧
 (¬(0≤w∧w<hl.names.length)→E (.ref T.X_NoWork) none H)∧(0≤w→w<hl.names.length→∀r H',H r=none→Zd H H'→H' r=some (.lst ((YF hl.belts w).map fun i:Nat=>V.int i))→Q (.ref r) H')
section
variable {P:Program}{w:World}{K:PySem.W.Frag}{mg:Str→Option Value}{base:Heap}
theorem Zak(T:Tp K mg):Zl P w K mg base (CXX P w) 5 T.f_Hall_leaving T.d_Hall_leaving ["self","work"] (VH T):=by
 have G_Hall_need_work:Zl P w K mg base (CXX P w) 4 T.f_Hall_need_work T.d_Hall_need_work ["self","work"] (Wq T):=(Vd T).mono (by decide);have cl_Hall:=T.cl_Hall;have na_Hall:=T.na_Hall;refine T.F_Hall_leaving.okX Zdh (fun vs H Q E h=>?_) (fun cdv A outer s H vs Q E hr h=>?_)
 ·obtain⟨p,w,hl,fp,rfl,_⟩:=h
  rfl
 ·have hu:=hr.units;obtain⟨p,w,hl,fp,rfl,hh,hz,e1,q⟩:=h;obtain⟨dx,a,b,bs,rfl,h1,h2,h3,h4,nab,h6⟩:=id hh;have hb:=h6.length;refine⟨_,(Zf (ZL (ZV (pv 0) T.cl_Hall T.M_Hall_need_work G_Hall_need_work hr T.b_Hall_need_work .nil Zi (Za (pv 1) Zb)))
     (Zg (Zt (YY (xs:=["belt","row"]) rfl (Z2 (x:="belt") (zs:=["work"]) (ix:=[1]) (Zj Wu) ["self","work"] rfl rfl (by decide+kernel)) (ZaA (K:=K) rfl rfl T.n_enumerate (Za (Ya (K:=K) rfl (pv 0) rfl) Zb)) (fun cl C s H fp=>⟨(Y6 (K:=K) (n:=2) rfl rfl (ZP (Zr (i:=0) (show(["belt","row","work"]:List Str).Nodup by decide+kernel) rfl (Or.inl rfl)) (ZP (Zr (i:=1) (show(["belt","row","work"]:List Str).Nodup by decide+kernel) rfl (Or.inl rfl)) Y8))),(UV (Zz (Wd (K:=K) rfl hu) (Zp (Zu (K:=K) rfl) (pv 1) Zc (fun _ _=>rfl)) (pv 2) (ZG _))),(pv 0)⟩))))),?_⟩
  try dsimp only[L2.cxX,L2.ZJ,L2.Zm]
  walk_at "rds";refine⟨p,w,hl,_,rfl,hh,e1,fun w0 w1=>?_⟩;walk_at "rds";refine Yc (own:=2) (VF (SqL.of h4)) (Zq (by omega)) (fun i=>[some (.int i),some (bs.getD i .non)]) (fun _=>rfl) (fun i=>decide ((hl.belts.getD i dB).giver=w)) (fun i v _=>v= .int i) (fun _ _ _ _ _ z=>z) (fun i a' H' v H2 Kg hi sm y ha k=>?_) (fun i H' Kc hi sm k=>?_) (fun pp i H' Kc hi hc hp0 hp1 sm k=>?_) (fun r H' ys hr sm hl' hR=>?_)
  ·obtain⟨t,ht,rfl,rfl⟩:=y;obtain⟨x1,x2,rfl⟩:∃x1 x2,a'=[x1,x2]:=by
    match a',ha with
    | [x1,x2],_=>exact⟨x1,x2,rfl⟩
   refine Rd.Uz (.of Ze) rfl ?_;walk_at "rds";exact k _ (Zk ht)
  ·obtain⟨t,ht1,ht2⟩:=h6.getD (i:=i) (by omega);rw[ht1];have ht3:=sm _ _ ht2;generalize hl.belts.getD i dB=bb at*;dsimp only[B5.v] at ht3;walk_at "rds";exact k H' (Zd.refl H')
  ·walk_at "rds";exact k _ H' (Zd.refl H') rfl
  ·refine q w0 w1 r H' hr sm ?_;rw[hl',UL (R:=fun i v _=>v=V.int (i:Nat)) (H:=H') (r:=fun i:Nat=>V.int i) (fun _ _ z=>z) hR,hb]
   rfl
end
def Vc{K:PySem.W.Frag}{mg:Str→Option Value}(T:Tp K mg):Sp:=fun vs H Q E=>∃(p:Addr)(i:Int)(hl:HM)(fp:List Addr),vs=[.ref p,.int i]∧Zv T H p hl fp∧
 (¬(0≤i∧i<hl.belts.length)→E (.ref T.X_NoBelt) none H)∧(0≤i→i<hl.belts.length→Q .non H)
section
variable {P:Program}{w:World}{K:PySem.W.Frag}{mg:Str→Option Value}{base:Heap}
theorem UB(T:Tp K mg):Zl P w K mg base (CXX P w) 4 T.f_Hall_need_belt T.d_Hall_need_belt ["self","belt"] (Vc T):=by
 have G_is_number_below:Zl P w K mg base (CXX P w) 3 T.f_is_number_below T.d_is_number_below ["thing","bound"] (Yl T):=(W2 T).mono (by decide);have cl_Hall:=T.cl_Hall;have na_Hall:=T.na_Hall;refine T.F_Hall_need_belt.okX Zco (fun vs H Q E h=>?_) (fun cdv A outer s H vs Q E hr h=>?_)
 ·obtain⟨p,i,hl,fp,rfl,_⟩:=h
  rfl
 ·have hu:=hr.units;obtain⟨p,i,hl,fp,rfl,hh,e1,q⟩:=h;obtain⟨dx,a,b,bs,rfl,h1,h2,h3,h4,nab,h6⟩:=id hh;refine⟨_,(Zg (ZX (WG (YM (K:=K) rfl (Zn G_is_number_below hr rfl T.m_is_number_below T.F_is_number_below.kp T.b_is_number_below .nil Zi (Za (pv 1) (Za (ZC (YC (K:=K) rfl) (by rfl) T.n_len PySem.boot_len (Za (Ya (K:=K) rfl (pv 0) rfl) Zb)) Zb))) (fun _=>rfl))) (Zg (YK T.gx_NoBelt T.ex_NoBelt PySem.F.excBase_ValueError rfl (Za Ys Zb))) ZI)),?_⟩
  try dsimp only[L2.cxX,L2.ZJ,L2.Zm]
  walk_at "rds";rw[h6.length]
  by_cases c:0≤i∧i<hl.belts.length
  ·rw[decide_eq_true c];walk_at "rds";exact q c.1 c.2
  ·rw[decide_eq_false c];walk_at "rds";exact e1 c
end
def YN{K:PySem.W.Frag}{mg:Str→Option Value}(T:Tp K mg):Sp:=fun vs H Q E=>∃(p:Addr)(i:Int)(hl:HM)(fp:List Addr),vs=[.ref p,.int i]∧Zv T H p hl fp∧
 (¬(0≤i∧i<hl.belts.length)→E (.ref T.X_NoBelt) none H)∧(0≤i→i<hl.belts.length→∀(t:Addr)(b:B5),hl.belts[i.toNat]? =some b→H t=some (.tup b.v)→Q (.ref t) H)
section
variable {P:Program}{w:World}{K:PySem.W.Frag}{mg:Str→Option Value}{base:Heap}
theorem Wm(T:Tp K mg):Zl P w K mg base (CXX P w) 5 T.f_Hall_belt_at T.d_Hall_belt_at ["self","belt"] (YN T):=by
 have G_Hall_need_belt:Zl P w K mg base (CXX P w) 4 T.f_Hall_need_belt T.d_Hall_need_belt ["self","belt"] (Vc T):=(UB T).mono (by decide);have cl_Hall:=T.cl_Hall;have na_Hall:=T.na_Hall;refine T.F_Hall_belt_at.okX Zdf (fun vs H Q E h=>?_) (fun cdv A outer s H vs Q E hr h=>?_)
 ·obtain⟨p,i,hl,fp,rfl,_⟩:=h
  rfl
 ·have hu:=hr.units;obtain⟨p,i,hl,fp,rfl,hh,e1,q⟩:=h;obtain⟨dx,a,b,bs,rfl,h1,h2,h3,h4,nab,h6⟩:=id hh;refine⟨_,(Zf (ZL (ZV (pv 0) T.cl_Hall T.M_Hall_need_belt G_Hall_need_belt hr T.b_Hall_need_belt .nil Zi (Za (pv 1) Zb)))
     (Zg (Zt (Zp (Zu (K:=K) rfl) (Ya (K:=K) rfl (pv 0) rfl) (pv 1) (fun _ _=>rfl))))),?_⟩
  try dsimp only[L2.cxX,L2.ZJ,L2.Zm]
  walk_at "rds";refine⟨p,i,hl,_,rfl,hh,e1,fun i0 i1=>?_⟩;have hi:i.toNat<hl.belts.length:=by omega
  have ei:=List.getElem?_eq_getElem hi;obtain⟨t,ht1,ht2⟩:=h6.at ei;have at1:atI bs i=some (.ref t):=by
   have:=Yo ht1
   rwa [Int.toNat_of_nonneg i0] at this
  walk_at "rds";exact q i0 i1 t _ ei ht2
end
def Zay{K:PySem.W.Frag}{mg:Str→Option Value}(T:Tp K mg):Sp:=fun vs H Q E=>∃(p:Addr)(fl:FM)(fp:List Addr),vs=[.ref p]∧YO T H p fl fp∧
 ∀r H',H r=none→Zd H H'→H' r=some (.lst (fl.heaps.map V.int))→Q (.ref r) H'
section
variable {P:Program}{w:World}{K:PySem.W.Frag}{mg:Str→Option Value}{base:Heap}
theorem ZdI(T:Tp K mg):Zl P w K mg base (CXX P w) 1 T.f_Floor_lying T.d_Floor_lying ["self"] (Zay T):=by
 have cl_Floor:=T.cl_Floor;have na_Floor:=T.na_Floor;refine T.F_Floor_lying.okX ZdN (fun vs H Q E h=>?_) (fun cdv A outer s H vs Q E hr h=>?_)
 ·obtain⟨p,fl,fp,rfl,_⟩:=h
  rfl
 ·have hu:=hr.units;obtain⟨p,fl,fp,rfl,hf,q⟩:=h;obtain⟨dx,a,b,c,ia,ib,rfl,h1,h2,h3,h4,h5,h6,h7,h8,h9⟩:=id hf;refine⟨_,(Zg (Zt (Uq (ZcT (K:=K) rfl) (by rfl) T.n_list PyProof.Rows.boot_list (Za (Ya (K:=K) rfl (pv 0) rfl) Zb)))),?_⟩
  try dsimp only[L2.cxX,L2.ZJ,L2.Zm]
  walk_at "rds";refine Rd.ZdD (.of h5) (fun r hr=>?_);exact q r _ hr (Zk hr) Ze
end
def Zen{K:PySem.W.Frag}{mg:Str→Option Value}(T:Tp K mg):Sp:=fun vs H Q _=>∃(a b:Addr)(hs:List Int)(l:List (Int×Int))(xs:List V),vs=[.ref a,.ref b]∧SqL K H a (hs.map V.int)∧SqL K H b xs∧Vm H l xs∧(∀x∈l,0≤x.1∧x.1<hs.length)∧l.length≤1000∧∀H',Zd H H'→Q (.bl (ZaS hs l)) H'
section
variable {P:Program}{w:World}{K:PySem.W.Frag}{mg:Str→Option Value}{base:Heap}
theorem ZiI(T:Tp K mg):Zl P w K mg base (CXX P w) 1 T.f_enough T.d_enough ["heaps","takes"] (Zen T):=by
 refine T.F_enough.okX ZiJ (fun vs H Q E h=>?_) (fun cdv A outer s H vs Q E hr h=>?_)
 ·obtain⟨a,b,hs,l,xs,rfl,_⟩:=h
  rfl
 ·have hu:=hr.units;obtain⟨a,b,hs,l,xs,rfl,ha,hb,hp,hr,hz,q⟩:=h;have hxl:l.length=xs.length:=Paired.length hp;refine⟨_,(Zg (Zt (ZC (Zc5 (K:=K) rfl rfl) (by rfl) T.n_all PyProof.Rows.boot_all (Za (YY (xs:=["belt","take"]) rfl (Z2 (x:="belt") (zs:=["heaps"]) (ix:=[0]) (Zj U6) ["heaps","takes"] rfl rfl (by decide+kernel)) (Z0 (K:=K) rfl (pv 1)) (fun cl C s H fp=>⟨(Y6 (K:=K) (n:=2) rfl rfl (ZP (Zr (i:=0) (show(["belt","take","heaps"]:List Str).Nodup by decide+kernel) rfl (Or.inl rfl)) (ZP (Zr (i:=1) (show(["belt","take","heaps"]:List Str).Nodup by decide+kernel) rfl (Or.inl rfl)) Y8))),Z8,(W7 Zdn (Zp (Zu (K:=K) rfl) (pv 2) (pv 0) (fun _ _=>rfl)) (pv 1) (ZG _))⟩)) Zb)))),?_⟩
  try dsimp only[L2.cxX,L2.ZJ,L2.Zm]
  walk_at "rds";refine Yc (own:=2) (ZU hb).y (Zq (by omega)) (fun i=>[some (.int (l.getD i (0,0)).1),some (.int (l.getD i (0,0)).2)]) (fun _=>rfl) (fun _=>true) (fun i v _=>v= .bl (decide ((l.getD i (0,0)).2≤hs.getD (l.getD i (0,0)).1.toNat 0))) (fun _ _ _ _ _ z=>z) (fun i a' H' v H2 Kg hi sm y ha' k=>?_) (fun i H' Kc hi sm k=>?_) (fun pp i H' Kc hi hc hp0 hp1 sm k=>?_) (fun r H' ys hr' sm hl' hR=>?_)
  ·obtain⟨rfl,rfl⟩:=y;obtain⟨x1,x2,rfl⟩:∃x1 x2,a'=[x1,x2]:=by
    match a',ha' with
    | [x1,x2],_=>exact⟨x1,x2,rfl⟩
   obtain⟨v,hv,t,rfl,ht⟩:=Paired.get hp (List.getElem?_eq_getElem (show i<l.length by omega));have eb:xs.getD i .non= .ref t:=by simp[List.getD,hv]
   have el:l.getD i (0,0)=l[i]:=by simp[List.getD,show i<l.length by omega]
   rw[eb];rw[el] at k;refine Rd.Uz (.of (sm _ _ ht)) rfl ?_;walk_at "rds";exact k _ (Zd.refl _)
  ·walk_at "rds";exact k H' (Zd.refl H')
  ·have el:l.getD i (0,0)=l[i]:=by simp[List.getD,show i<l.length by omega]
   obtain⟨r0,r1⟩:=hr _ (List.getElem_mem (show i<l.length by omega));rw[el] at k⊢;generalize l[i]=x at*;have hs':=sm.seq ha;have at1:=ZaM r0 r1;walk_at "rds";exact k _ H' (Zd.refl H') rfl
  ·have e:ys=(l.map fun x=>decide (x.2≤hs.getD x.1.toNat 0)).map V.bl:=by
    rw[UL (R:=fun i v _=>v=V.bl (decide ((l.getD i (0,0)).2≤hs.getD (l.getD i (0,0)).1.toNat 0))) (H:=H') (r:=fun i=>V.bl (decide ((l.getD i (0,0)).2≤hs.getD (l.getD i (0,0)).1.toNat 0))) (fun _ _ z=>z) hR,List.filter_eq_self.mpr (by simp),←hxl];refine List.ext_getElem (by simp) fun i h1 h2=>?_;have hi:i<l.length:=by simpa using h1
    have el:l.getD i (0,0)=l[i]:=by simp[List.getD,hi]
    rw[List.getElem_map,List.getElem_map,List.getElem_map,List.getElem_range,el]
   rw[e] at hl';walk_at "rds";have e2:(l.map fun x=>decide (x.2≤hs.getD x.1.toNat 0)).all id=ZaS hs l:=by rw[List.all_map];rfl
   rw[e2];exact q H' sm
end
def Uj{K:PySem.W.Frag}{mg:Str→Option Value}(T:Tp K mg):Sp:=fun vs H Q E=>∃(p:Addr)(w:Int)(fl:FM)(fp:List Addr),vs=[.ref p,.int w]∧YO T H p fl fp∧
 (¬(0≤w∧w<fl.many)→E (.ref T.X_NoWork) none H)∧(0≤w→w<fl.many→Q .non H)
section
variable {P:Program}{w:World}{K:PySem.W.Frag}{mg:Str→Option Value}{base:Heap}
theorem ZbE(T:Tp K mg):Zl P w K mg base (CXX P w) 4 T.f_Floor_need_work T.d_Floor_need_work ["self","work"] (Uj T):=by
 have G_is_number_below:Zl P w K mg base (CXX P w) 3 T.f_is_number_below T.d_is_number_below ["thing","bound"] (Yl T):=(W2 T).mono (by decide);have cl_Floor:=T.cl_Floor;have na_Floor:=T.na_Floor;refine T.F_Floor_need_work.okX Zbt (fun vs H Q E h=>?_) (fun cdv A outer s H vs Q E hr h=>?_)
 ·obtain⟨p,w,fl,fp,rfl,_⟩:=h
  rfl
 ·have hu:=hr.units;obtain⟨p,w,fl,fp,rfl,hf,e1,q⟩:=h;obtain⟨dx,a,b,c,ia,ib,rfl,h1,h2,h3,h4,h5,h6,h7,h8,h9⟩:=id hf;refine⟨_,(Zg (ZX (WG (YM (K:=K) rfl (Zn G_is_number_below hr rfl T.m_is_number_below T.F_is_number_below.kp T.b_is_number_below .nil Zi (Za (pv 1) (Za (ZC (YC (K:=K) rfl) (by rfl) T.n_len PySem.boot_len (Za (Ya (K:=K) rfl (pv 0) rfl) Zb)) Zb))) (fun _=>rfl))) (Zg (YK T.gx_NoWork T.ex_NoWork PySem.F.excBase_ValueError rfl (Za Ys Zb))) ZI)),?_⟩
  try dsimp only[L2.cxX,L2.ZJ,L2.Zm]
  walk_at "rds";have el:((ia.map V.ref).length:Int)=fl.many:=by
   rw[List.length_map,h6.len];unfold Zdi;simp only[List.length_map,List.length_range];omega
  rw[el]
  by_cases c:0≤w∧w<fl.many
  ·rw[decide_eq_true c];walk_at "rds";exact q c.1 c.2
  ·rw[decide_eq_false c];walk_at "rds";exact e1 c
end
def ZaF{K:PySem.W.Frag}{mg:Str→Option Value}(T:Tp K mg):Sp:=fun vs H Q E=>∃(p:Addr)(w:Int)(fl:FM)(fp:List Addr),vs=[.ref p,.int w]∧YO T H p fl fp∧fl.rows.length≤1000∧
 (¬(0≤w∧w<fl.many)→∀H',Zd H H'→E (.ref T.X_NoWork) none H')∧((0≤w∧w<fl.many)→∀H',Zd H H'→Q (.bl (Zla fl w)) H')
section
variable {P:Program}{w:World}{K:PySem.W.Frag}{mg:Str→Option Value}{base:Heap}
theorem ZdR(T:Tp K mg):Zl P w K mg base (CXX P w) 5 T.f_Floor_ready T.d_Floor_ready ["self","work"] (ZaF T):=by
 have G_enough:Zl P w K mg base (CXX P w) 4 T.f_enough T.d_enough ["heaps","takes"] (Zen T):=(ZiI T).mono (by decide);have G_Floor_need_work:Zl P w K mg base (CXX P w) 4 T.f_Floor_need_work T.d_Floor_need_work ["self","work"] (Uj T):=(ZbE T).mono (by decide);have cl_Floor:=T.cl_Floor;have na_Floor:=T.na_Floor;refine T.F_Floor_ready.okX ZdO (fun vs H Q E h=>?_) (fun cdv A outer s H vs Q E hr h=>?_)
 ·obtain⟨p,w,fl,fp,rfl,_⟩:=h
  rfl
 ·have hu:=hr.units;obtain⟨p,w,fl,fp,rfl,hf,hz,e1,q⟩:=h;obtain⟨dx,a,b,c,ia,ib,rfl,h1,h2,h3,h4,h5,h6,h7,h8,h9⟩:=id hf;refine⟨_,(Zf (ZL (ZV (pv 0) T.cl_Floor T.M_Floor_need_work G_Floor_need_work hr T.b_Floor_need_work .nil Zi (Za (pv 1) Zb)))
     (Zg (Zt (Zn G_enough hr rfl T.m_enough T.F_enough.kp T.b_enough .nil Zi (Za (Ya (K:=K) rfl (pv 0) rfl) (Za (Zp (Zu (K:=K) rfl) (Ya (K:=K) rfl (pv 0) rfl) (pv 1) (fun _ _=>rfl)) Zb)))))),?_⟩
  try dsimp only[L2.cxX,L2.ZJ,L2.Zm]
  walk_at "rds";refine⟨p,w,fl,_,rfl,hf,fun z=>e1 z H (Zd.refl H),fun w0 w1=>?_⟩;obtain⟨x,vs,at1,hx,hpx⟩:=h6.at w0 (Zig w0 w1);walk_at "rds";have tl:=Zgr (ls:=fl.rows) (w:=w);refine⟨c,x,fl.heaps,YL fl.rows w,vs,rfl,.of h5,.of hx,hpx,Zg7 h8,by omega,fun H' sm=>?_⟩;rw[Zg1 h8];exact q ⟨w0,w1⟩ H' sm
end
def ZcA{K:PySem.W.Frag}{mg:Str→Option Value}(T:Tp K mg):Sp:=fun vs H Q E=>∃(p:Addr)(w:Int)(hl:HM)(fp:List Addr),vs=[.ref p,.int w]∧Zv T H p hl fp∧hl.belts.length≤1000∧0≤w∧w<hl.names.length∧
 ∀r H' ys,H r=none→Zd H H'→H' r=some (.lst ys)→Vm H' (YL hl.belts w) ys→Q (.ref r) H'
section
variable {P:Program}{w:World}{K:PySem.W.Frag}{mg:Str→Option Value}{base:Heap}
theorem ZfX(T:Tp K mg):Zl P w K mg base (CXX P w) 6 T.f_takes_of T.d_takes_of ["hall","work"] (ZcA T):=by
 have G_Hall_entering:Zl P w K mg base (CXX P w) 5 T.f_Hall_entering T.d_Hall_entering ["self","work"] (Vt T):=(UY T).mono (by decide);have G_Hall_belt_at:Zl P w K mg base (CXX P w) 5 T.f_Hall_belt_at T.d_Hall_belt_at ["self","belt"] (YN T):=(Wm T).mono (by decide);have cl_Hall:=T.cl_Hall;have na_Hall:=T.na_Hall;refine T.F_takes_of.okX Zgq (fun vs H Q E h=>?_) (fun cdv A outer s H vs Q E hr h=>?_)
 ·obtain⟨p,w,hl,fp,rfl,_⟩:=h
  rfl
 ·have hu:=hr.units;obtain⟨p,w,hl,fp,rfl,hh,hz,w0,w1,q⟩:=h;refine⟨_,(Zg (Zt (YY (xs:=["belt"]) rfl (Z2 (x:="belt") (zs:=["hall"]) (ix:=[0]) (Zj VI) ["hall","work"] rfl rfl (by decide+kernel)) (Z0 (K:=K) rfl (ZV (pv 0) T.cl_Hall T.M_Hall_entering G_Hall_entering hr T.b_Hall_entering .nil Zi (Za (pv 1) Zb))) (fun cl C s H fp=>⟨(Zr (i:=0) (show(["belt","hall"]:List Str).Nodup by decide+kernel) rfl (Or.inl rfl)),Z8,(Yu (Za (pv 0) (Za (Zp (Zu (K:=K) rfl) (ZV (pv 1) T.cl_Hall T.M_Hall_belt_at G_Hall_belt_at hr T.b_Hall_belt_at .nil Uk (Za (pv 0) Zb)) Zc (fun _ _=>rfl)) Zb)))⟩)))),?_⟩
  try dsimp only[L2.cxX,L2.ZJ,L2.Zm]
  walk_at "rds";refine⟨p,w,hl,fp,rfl,hh,hz,fun z=>absurd ⟨w0,w1⟩ z,fun _ _ e H1 he s1 he1=>?_⟩;have hh1:=hh.same s1;have el:=Zdt (ls:=hl.belts) (w:=w);walk_at "rds";refine Yc (own:=1) (ZU (SqL.of he1)).y (Zq (by rw[List.length_map];omega)) (fun i=>[some (.int ((Yp hl.belts w).getD i 0:Nat))]) (fun _=>rfl) (fun _=>true) (fun i v H=>∃t,v=V.ref t∧H t=some (.tup [.int ((Yp hl.belts w).getD i 0:Nat),.int (hl.belts.getD ((Yp hl.belts w).getD i 0) dB).take])) (fun _ _ _ _ e ⟨t,z1,z2⟩=>⟨t,z1,e _ _ z2⟩) (fun i a' H' v H2 Kg hi sm y ha' k=>?_) (fun i H' Kc hi sm k=>?_) (fun pp i H' Kc hi hc hp0 hp1 sm k=>?_) (fun r H' ys hr' sm hl' hR=>?_)
  ·obtain⟨rfl,rfl⟩:=y;obtain⟨x1,rfl⟩:∃x1,a'=[x1]:=by
    match a',ha' with
    | [x1],_=>exact⟨x1,rfl⟩
   have hi':i<(Yp hl.belts w).length:=by simpa using hi
   have ev:((Yp hl.belts w).map fun i:Nat=>V.int i).getD i .non= .int ((Yp hl.belts w).getD i 0:Nat):=by simp[List.getD,hi']
   rw[ev];walk_at "rds";exact k _ (Zd.refl _)
  ·walk_at "rds";exact k H' (Zd.refl H')
  ·have hi':i<(Yp hl.belts w).length:=by simpa using hi
   have hm:(Yp hl.belts w).getD i 0∈Yp hl.belts w:=by
    have:(Yp hl.belts w).getD i 0=(Yp hl.belts w)[i]:=by simp[List.getD,hi']
    rw[this];exact List.getElem_mem hi'
   have hlt:=Zek hm;generalize (Yp hl.belts w).getD i 0=j at*;have hh2:=hh1.same sm;walk_at "rds";refine⟨p,(j:Int),hl,fp,rfl,hh2,fun z=>absurd ⟨Int.natCast_nonneg j,by omega⟩ z,fun _ _ t b hb ht=>?_⟩;have hb':hl.belts[j]? =some b:=hb;have eb:hl.belts.getD j dB=b:=by simp[List.getD,hb']
   rw[eb] at k;dsimp only[B5.v] at ht;walk_at "rds";refine⟨by show 2≤sizeLine;decide,fun u hu'=>?_⟩;exact k _ _ (Zk hu') ⟨u,rfl,Zb9 hp1 hu'⟩
  ·refine q r H' ys ?_ (s1.trans sm) hl' ?_
   ·cases e:H r with
    |none=>rfl
    |some o=>rw[s1 _ _ e] at hr';cases hr'
   ·exact(Zd5 hR).keep fun b xs z=>Yk _ _ z
end
def Zcq{K:PySem.W.Frag}{mg:Str→Option Value}(T:Tp K mg):Sp:=fun vs H Q E=>∃(p:Addr)(w:Int)(hl:HM)(fp:List Addr),vs=[.ref p,.int w]∧Zv T H p hl fp∧hl.belts.length≤1000∧0≤w∧w<hl.names.length∧
 ∀r H' ys,H r=none→Zd H H'→H' r=some (.lst ys)→Vm H' (ZdH hl.belts w) ys→Q (.ref r) H'
section
variable {P:Program}{w:World}{K:PySem.W.Frag}{mg:Str→Option Value}{base:Heap}
theorem Zgg(T:Tp K mg):Zl P w K mg base (CXX P w) 6 T.f_gives_of T.d_gives_of ["hall","work"] (Zcq T):=by
 have G_Hall_leaving:Zl P w K mg base (CXX P w) 5 T.f_Hall_leaving T.d_Hall_leaving ["self","work"] (VH T):=(Zak T).mono (by decide);have G_Hall_belt_at:Zl P w K mg base (CXX P w) 5 T.f_Hall_belt_at T.d_Hall_belt_at ["self","belt"] (YN T):=(Wm T).mono (by decide);have cl_Hall:=T.cl_Hall;have na_Hall:=T.na_Hall;refine T.F_gives_of.okX ZfY (fun vs H Q E h=>?_) (fun cdv A outer s H vs Q E hr h=>?_)
 ·obtain⟨p,w,hl,fp,rfl,_⟩:=h
  rfl
 ·have hu:=hr.units;obtain⟨p,w,hl,fp,rfl,hh,hz,w0,w1,q⟩:=h;refine⟨_,(Zg (Zt (YY (xs:=["belt"]) rfl (Z2 (x:="belt") (zs:=["hall"]) (ix:=[0]) (Zj VU) ["hall","work"] rfl rfl (by decide+kernel)) (Z0 (K:=K) rfl (ZV (pv 0) T.cl_Hall T.M_Hall_leaving G_Hall_leaving hr T.b_Hall_leaving .nil Zi (Za (pv 1) Zb))) (fun cl C s H fp=>⟨(Zr (i:=0) (show(["belt","hall"]:List Str).Nodup by decide+kernel) rfl (Or.inl rfl)),Z8,(Yu (Za (pv 0) (Za (Zp (Zu (K:=K) rfl) (ZV (pv 1) T.cl_Hall T.M_Hall_belt_at G_Hall_belt_at hr T.b_Hall_belt_at .nil Uk (Za (pv 0) Zb)) Zc (fun _ _=>rfl)) Zb)))⟩)))),?_⟩
  try dsimp only[L2.cxX,L2.ZJ,L2.Zm]
  walk_at "rds";refine⟨p,w,hl,fp,rfl,hh,hz,fun z=>absurd ⟨w0,w1⟩ z,fun _ _ e H1 he s1 he1=>?_⟩;have hh1:=hh.same s1;have el:=ZgV (ls:=hl.belts) (w:=w);walk_at "rds";refine Yc (own:=1) (ZU (SqL.of he1)).y (Zq (by rw[List.length_map];omega)) (fun i=>[some (.int ((YF hl.belts w).getD i 0:Nat))]) (fun _=>rfl) (fun _=>true) (fun i v H=>∃t,v=V.ref t∧H t=some (.tup [.int ((YF hl.belts w).getD i 0:Nat),.int (hl.belts.getD ((YF hl.belts w).getD i 0) dB).give])) (fun _ _ _ _ e ⟨t,z1,z2⟩=>⟨t,z1,e _ _ z2⟩) (fun i a' H' v H2 Kg hi sm y ha' k=>?_) (fun i H' Kc hi sm k=>?_) (fun pp i H' Kc hi hc hp0 hp1 sm k=>?_) (fun r H' ys hr' sm hl' hR=>?_)
  ·obtain⟨rfl,rfl⟩:=y;obtain⟨x1,rfl⟩:∃x1,a'=[x1]:=by
    match a',ha' with
    | [x1],_=>exact⟨x1,rfl⟩
   have hi':i<(YF hl.belts w).length:=by simpa using hi
   have ev:((YF hl.belts w).map fun i:Nat=>V.int i).getD i .non= .int ((YF hl.belts w).getD i 0:Nat):=by simp[List.getD,hi']
   rw[ev];walk_at "rds";exact k _ (Zd.refl _)
  ·walk_at "rds";exact k H' (Zd.refl H')
  ·have hi':i<(YF hl.belts w).length:=by simpa using hi
   have hm:(YF hl.belts w).getD i 0∈YF hl.belts w:=by
    have:(YF hl.belts w).getD i 0=(YF hl.belts w)[i]:=by simp[List.getD,hi']
    rw[this];exact List.getElem_mem hi'
   have hlt:=Zh8 hm;generalize (YF hl.belts w).getD i 0=j at*;have hh2:=hh1.same sm;walk_at "rds";refine⟨p,(j:Int),hl,fp,rfl,hh2,fun z=>absurd ⟨Int.natCast_nonneg j,by omega⟩ z,fun _ _ t b hb ht=>?_⟩;have hb':hl.belts[j]? =some b:=hb;have eb:hl.belts.getD j dB=b:=by simp[List.getD,hb']
   rw[eb] at k;dsimp only[B5.v] at ht;walk_at "rds";refine⟨by show 2≤sizeLine;decide,fun u hu'=>?_⟩;exact k _ _ (Zk hu') ⟨u,rfl,Zb9 hp1 hu'⟩
  ·refine q r H' ys ?_ (s1.trans sm) hl' ?_
   ·cases e:H r with
    |none=>rfl
    |some o=>rw[s1 _ _ e] at hr';cases hr'
   ·exact(Zd5 hR).keep fun b xs z=>Yk _ _ z
end
def Uv{K:PySem.W.Frag}{mg:Str→Option Value}(T:Tp K mg):Sp:=fun vs H Q E=>∃(p dx h:Addr)(hl:HM)(fp:List Addr),vs=[.ref p,.ref h]∧H p=some (.ins T.C_Floor dx [])∧H dx=some (.own p)∧Zv T H h hl fp∧hl.names.length≤1000∧hl.belts.length≤1000∧
 ∀(H':Hp)(fp':List Addr),YO T H' p ⟨hl.names.length,hl.belts,hl.belts.map B5.start⟩ fp'→(∀x∈fp',x=p∨x=dx∨H x=none)→(∀b o,H b=some o→b≠p→H' b=some o)→Q .non H'
theorem ZeC{K:PySem.W.Frag}{mg:Str→Option Value}{T:Tp K mg}{H:Hp}{h:Addr}{hl:HM}{fp:List Addr}{Q:Addr→Hp→Prop}{E:XK}(hh:Zv T H h hl fp)(hn:hl.names.length≤1000)(hb:hl.belts.length≤1000)
  (q:∀(p:Addr)(fp':List Addr)(H':Hp),YO T H' p ⟨hl.names.length,hl.belts,hl.belts.map B5.start⟩ fp'→(∀x∈fp',H x=none)→Zd H H'→Q p H'):
  ∀x dx,H x=none→H dx=none→dx≠x→Uv T (.ref x::([.ref h]++ [])) (upd (upd H dx (.own x)) x (.ins T.C_Floor dx [])) (fun v H2=>v= .non∧Q x H2) E:=by
 intro x dx hx hdx ne;have sm:Zd H (upd (upd H dx (.own x)) x (.ins T.C_Floor dx [])):=fun b o e=>by rw[Zh (Zy e hx),Zh (Zy e hdx)];exact e
 refine⟨x,dx,h,hl,fp,rfl,Ze,by rw[Zh ne,Ze],hh.same sm,hn,hb,fun H' fp' hh hf hk=>⟨rfl,q x fp' H' hh (fun y hy=>?_) (fun b o e=>hk b o (sm b o e) (Zy e hx))⟩⟩;rcases hf y hy with rfl|rfl|h
 ·exact hx
 ·exact hdx
 ·by_cases h1:y=x
  ·rw[h1];exact hx
  ·by_cases h2:y=dx
   ·rw[h2];exact hdx
   ·rw[Zh h1,Zh h2] at h;exact h
theorem ZjL{H0 H:Hp}{n:Nat}{r:Addr}{f:Int→List (Int×Int)}{ys:List V}(h:Paired (fun(i:Nat) v=>∃x vs,v=V.ref x∧H0 x=none∧(hid H r) x=some (.lst vs)∧Vm (hid H r) (f (0+(i:Int))) vs) ((List.range n).filter fun _=>true) ys):
  ∃ia:List Addr,ys=ia.map V.ref∧(∀x∈ia,H0 x=none∧x≠r)∧LL H ((List.range n).map fun w:Nat=>f w) ia:=by
 rw[List.filter_eq_self.mpr (by simp)] at h;generalize List.range n=is at h
 induction h with
 |nil=>exact⟨[],rfl,by simp,.nil⟩
 | @cons i v is ys hh t ih=>
  obtain⟨ia,e,d,l⟩:=ih;obtain⟨x,vs,rfl,h0,h1,h2⟩:=hh;rw[Int.zero_add] at h2;have nx:x≠r:=fun z=>by rw[z,V2] at h1;cases h1
  refine⟨x::ia,by rw[e];rfl,fun y hy=>?_,.cons ⟨vs,Yk _ _ h1,h2.keep fun b xs z=>Yk _ _ z⟩ l⟩;rcases List.mem_cons.mp hy with rfl|hy
  ·exact⟨h0,nx⟩
  ·exact d y hy
section
variable {P:Program}{w:World}{K:PySem.W.Frag}{mg:Str→Option Value}{base:Heap}
theorem ZeE(T:Tp K mg):Zl P w K mg base (CXX P w) 7 T.f_Floor_init T.d_Floor_init ["self","hall"] (Uv T):=by
 have G_takes_of:Zl P w K mg base (CXX P w) 6 T.f_takes_of T.d_takes_of ["hall","work"] (ZcA T):=(ZfX T).mono (by decide);have G_gives_of:Zl P w K mg base (CXX P w) 6 T.f_gives_of T.d_gives_of ["hall","work"] (Zcq T):=(Zgg T).mono (by decide);have G_Hall_names:Zl P w K mg base (CXX P w) 6 T.f_Hall_names T.d_Hall_names ["self"] (Y9 T):=(WI T).mono (by decide);have G_Hall_belts:Zl P w K mg base (CXX P w) 6 T.f_Hall_belts T.d_Hall_belts ["self"] (Yi T):=(Y5 T).mono (by decide);have cl_Floor:=T.cl_Floor;have na_Floor:=T.na_Floor;have cl_Hall:=T.cl_Hall;have na_Hall:=T.na_Hall;refine T.F_Floor_init.okX Zbe (fun vs H Q E h=>?_) (fun cdv A outer s H vs Q E hr h=>?_)
 ·obtain⟨p,dx,h,hl,fp,rfl,_⟩:=h
  rfl
 ·have hu:=hr.units;obtain⟨p,dx,ha,hl,fp,rfl,hp,hdx,hh,hn,hbz,q⟩:=h;have nph:p∉fp:=by
   intro z;obtain⟨dx',a,b,bs,rfl,h1,h2,h3,h4,nab,h6⟩:=hh;simp only[List.mem_cons,List.not_mem_nil,or_false] at z;rcases z with rfl|rfl|rfl|rfl
   ·rw[h1] at hp
    injection hp with e
    injection e with e1 e2 e3
    cases e3
   ·rw[h2] at hp;cases hp
   ·rw[h3] at hp;cases hp
   ·rw[h4] at hp;cases hp
  refine⟨_,(Zf (Zx (i:=2) Zbe.nd rfl (Or.inl rfl) (ZC (YC (K:=K) rfl) (by rfl) T.n_len PySem.boot_len (Za (Z3 (pv 1) T.cl_Hall T.M_Hall_names G_Hall_names hr T.b_Hall_names .nil Zi) Zb)))
     (Zf (ZaL (K:=K) rfl (pv 0) (YY (xs:=["work"]) rfl (Z2 (x:="work") (zs:=["hall"]) (ix:=[1]) (Zj Y1) ["self","hall","works"] rfl rfl (by decide+kernel)) (Yb rfl T.n_range (Za (pv 2) Zb)) (fun cl C s H fp=>⟨(Zr (i:=0) (show(["work","hall"]:List Str).Nodup by decide+kernel) rfl (Or.inl rfl)),Z8,(Zn G_takes_of hr rfl T.m_takes_of T.F_takes_of.kp T.b_takes_of .nil Uk (Za (pv 1) (Za (pv 0) Zb)))⟩)) rfl)
     (Zf (ZaL (K:=K) rfl (pv 0) (YY (xs:=["work"]) rfl (Z2 (x:="work") (zs:=["hall"]) (ix:=[1]) (Zj Y1) ["self","hall","works"] rfl rfl (by decide+kernel)) (Yb rfl T.n_range (Za (pv 2) Zb)) (fun cl C s H fp=>⟨(Zr (i:=0) (show(["work","hall"]:List Str).Nodup by decide+kernel) rfl (Or.inl rfl)),Z8,(Zn G_gives_of hr rfl T.m_gives_of T.F_gives_of.kp T.b_gives_of .nil Uk (Za (pv 1) (Za (pv 0) Zb)))⟩)) rfl)
     (Zg (ZaL (K:=K) rfl (pv 0) (Wa rfl (Z2 (x:="row") (zs:=[]) (ix:=[]) (Zj Y1) ["self","hall","works"] rfl rfl (by decide+kernel)) (Z0 (K:=K) rfl (Z3 (pv 1) T.cl_Hall T.M_Hall_belts G_Hall_belts hr T.b_Hall_belts .nil Zi)) (fun cl C s H fp=>⟨(Zr (i:=0) (show(["row"]:List Str).Nodup by decide+kernel) rfl (Or.inl rfl)),Z8,(Zp (Zu (K:=K) rfl) (pv 0) Zc (fun _ _=>rfl))⟩)) rfl))))),?_⟩
  try dsimp only[L2.cxX,L2.ZJ,L2.Zm]
  walk_at "rds";refine⟨ha,hl,fp,rfl,hh,fun nm H1 hnm s1 hnm1=>?_⟩;have hh1:=hh.same s1;have hp1:=s1 _ _ hp;have hd1:=s1 _ _ hdx;have nml:(hl.names.map V.str).length=hl.names.length:=by simp
  walk_at "rds";refine Yc (own:=1) VA.y (Zq (by rw[nml];exact hn)) (fun i=>[some (.int (0+(i:Int)))]) (fun _=>rfl) (fun _=>true) (fun(i:Nat) v H2=>∃x vs,v=V.ref x∧H1 x=none∧H2 x=some (.lst vs)∧Vm H2 (YL hl.belts (0+(i:Int))) vs) (fun _ _ _ _ e ⟨x,vs,z1,z2,z3,z4⟩=>⟨x,vs,z1,z2,e _ _ z3,z4.keep fun _ _ z=>e _ _ z⟩) (fun i a' H' v H2 Kg hi sm y ha' k=>?_) (fun i H' Kc hi sm k=>?_) (fun pp i H' Kc hi hc hp0 hp1' sm k=>?_) (fun ra H2 ys hra s2 hra2 hR=>?_)
  ·obtain⟨rfl,rfl⟩:=y;obtain⟨x1,rfl⟩:∃x1,a'=[x1]:=by
    match a',ha' with
    | [x1],_=>exact⟨x1,rfl⟩
   walk_at "rds";exact k _ (Zd.refl _)
  ·walk_at "rds";exact k H' (Zd.refl H')
  ·walk_at "rds";refine⟨ha,0+(i:Int),hl,fp,rfl,hh1.same sm,hbz,by omega,by omega,fun x H3 vs hx s3 hx3 hP=>?_⟩;refine k _ H3 s3 ⟨x,vs,rfl,?_,ZiG hp1' hx hx3,hP.keep fun b xs z=>ZfL hp1' s3 z⟩;cases e:H1 x with
   |none=>rfl
   |some o=>rw[sm _ _ e] at hx;cases hx
  obtain⟨ia,rfl,hia,hLa⟩:=ZjL hR;rw[nml,Int.toNat_natCast] at hLa;have hp2:=s2 _ _ hp1;have hd2:=s2 _ _ hd1;have hh2:=hh1.same s2;have npd:p≠dx:=Yd hp hdx (by intro z;cases z);have npra:p≠ra:=Yd hp2 hra2 (by intro z;cases z);have fr0:∀{x:Addr},H1 x=none→H x=none:=fun{x} hx=>by
   cases e:H x with
   |none=>rfl
   |some o=>rw[s1 _ _ e] at hx;cases hx
  walk_at "rds";have f3:ZW [p] H2 (upd H2 p (.ins T.C_Floor dx [("takes",.ref ra)])):=Wb (by simp) hp2 (by intro _ z;cases z);have hp3:(upd H2 p (.ins T.C_Floor dx [("takes",.ref ra)])) p=some (.ins T.C_Floor dx [("takes",.ref ra)]):=Ze;have hd3:=f3.keep _ _ hd2 (by simpa using npd.symm);have hra3:=f3.keep _ _ hra2 (by simpa using npra.symm);have hh3:=hh2.off f3 (fun x hx z=>nph (by rw[←List.mem_singleton.mp z];exact hx));have nia:∀x∈ia,x≠p:=fun x hx z=>by
   have:=(hia x hx).1;rw[z,hp1] at this;cases this
  have hLa3:LL (upd H2 p (.ins T.C_Floor dx [("takes",.ref ra)])) _ ia:=hLa.keep f3.tups (fun x hx=>Zh (nia x hx));have k3:∀b o,H b=some o→b≠p→(upd H2 p (.ins T.C_Floor dx [("takes",.ref ra)])) b=some o:=fun b o e n=>f3.keep _ _ (s2 _ _ (s1 _ _ e)) (by simpa using n);generalize upd H2 p (.ins T.C_Floor dx [("takes",.ref ra)])=H3 at*;clear f3;walk_at "rds";refine Yc (own:=1) VA.y (Zq (by rw[nml];exact hn)) (fun i=>[some (.int (0+(i:Int)))]) (fun _=>rfl) (fun _=>true) (fun(i:Nat) v H2=>∃x vs,v=V.ref x∧H3 x=none∧H2 x=some (.lst vs)∧Vm H2 (ZdH hl.belts (0+(i:Int))) vs) (fun _ _ _ _ e ⟨x,vs,z1,z2,z3,z4⟩=>⟨x,vs,z1,z2,e _ _ z3,z4.keep fun _ _ z=>e _ _ z⟩) (fun i a' H' v H2 Kg hi sm y ha' k=>?_) (fun i H' Kc hi sm k=>?_) (fun pp i H' Kc hi hc hp0 hp1' sm k=>?_) (fun rb H4 ys hrb s4 hrb4 hR4=>?_)
  ·obtain⟨rfl,rfl⟩:=y;obtain⟨x1,rfl⟩:∃x1,a'=[x1]:=by
    match a',ha' with
    | [x1],_=>exact⟨x1,rfl⟩
   walk_at "rds";exact k _ (Zd.refl _)
  ·walk_at "rds";exact k H' (Zd.refl H')
  ·walk_at "rds";refine⟨ha,0+(i:Int),hl,fp,rfl,hh3.same sm,hbz,by omega,by omega,fun x H5 vs hx s5 hx5 hP=>?_⟩;refine k _ H5 s5 ⟨x,vs,rfl,?_,ZiG hp1' hx hx5,hP.keep fun b xs z=>ZfL hp1' s5 z⟩;cases e:H3 x with
   |none=>rfl
   |some o=>rw[sm _ _ e] at hx;cases hx
  obtain⟨ib,rfl,hib,hLb⟩:=ZjL hR4;rw[nml,Int.toNat_natCast] at hLb;have hp4:=s4 _ _ hp3;have hd4:=s4 _ _ hd3;have hra4:=s4 _ _ hra3;have hh4:=hh3.same s4;have hLa4:LL H4 _ ia:=hLa3.keep (fun b xs z=>s4 _ _ z) (fun x hx=>by
   cases e:H3 x with
   |none=>exact absurd e (hLa3.dom x hx)
   |some o=>exact s4 _ _ e)
  have npra4:p≠rb:=Yd hp4 hrb4 (by intro z;cases z);have fr3:∀{x:Addr},H3 x=none→H x=none:=fun{x} hx=>by
   cases e:H x with
   |none=>rfl
   |some o=>
    by_cases n:x=p
    ·rw[n,hp3] at hx;cases hx
    ·rw[k3 _ _ e n] at hx;cases hx
  walk_at "rds";have f5:ZW [p] H4 (upd H4 p (.ins T.C_Floor dx [("takes",.ref ra),("gives",.ref rb)])):=Wb (by simp) hp4 (by intro _ z;cases z);have hp5:(upd H4 p (.ins T.C_Floor dx [("takes",.ref ra),("gives",.ref rb)])) p=some (.ins T.C_Floor dx [("takes",.ref ra),("gives",.ref rb)]):=Ze;have hd5:=f5.keep _ _ hd4 (by simpa using npd.symm);have hra5:=f5.keep _ _ hra4 (by simpa using npra.symm);have hrb5:=f5.keep _ _ hrb4 (by simpa using npra4.symm);have hh5:=hh4.off f5 (fun x hx z=>nph (by rw[←List.mem_singleton.mp z];exact hx));have nib:∀x∈ib,x≠p:=fun x hx z=>by
   have:=(hib x hx).1;rw[z,hp3] at this;cases this
  have hLa5:LL (upd H4 p (.ins T.C_Floor dx [("takes",.ref ra),("gives",.ref rb)])) _ ia:=hLa4.keep f5.tups (fun x hx=>Zh (nia x hx));have hLb5:LL (upd H4 p (.ins T.C_Floor dx [("takes",.ref ra),("gives",.ref rb)])) _ ib:=hLb.keep f5.tups (fun x hx=>Zh (nib x hx));have k5:∀b o,H b=some o→b≠p→(upd H4 p (.ins T.C_Floor dx [("takes",.ref ra),("gives",.ref rb)])) b=some o:=fun b o e n=>f5.keep _ _ (s4 _ _ (k3 _ _ e n)) (by simpa using n);generalize upd H4 p (.ins T.C_Floor dx [("takes",.ref ra),("gives",.ref rb)])=H5 at*;clear f5;walk_at "rds";intro u H6 bs hu0 s6 hu6 hT;have hl6:=hT.length;have hb6:bs.length<sizeLine:=Zq (by rw[hl6];exact hbz);walk_at "rds";refine Yn (ZU (SqL.of hu6)) hb6 (fun _=>true) (fun i=> .int ((hl.belts.map B5.start).getD i 0)) (fun i H' Kc hi sm k=>?_) (fun i H' Kc hi _ sm k=>?_) (fun rc H7 hrc s7 hrc7=>?_)
  ·walk_at "rds";exact k H' (Zd.refl H')
  ·have hil:i<hl.belts.length:=by omega
   obtain⟨t,ht1,ht2⟩:=hT.at (List.getElem?_eq_getElem hil);have eb:bs.getD i .non= .ref t:=by simp[List.getD,ht1]
   have ed:(hl.belts.map B5.start).getD i 0=hl.belts[i].start:=by simp[List.getD,hil]
   rw[eb];rw[ed] at k;have ht3:=sm _ _ ht2;generalize hl.belts[i]=bb at*;dsimp only[B5.v] at ht3;walk_at "rds";exact k H' (Zd.refl H')
  have hrc8:H7 rc=some (.lst ((hl.belts.map B5.start).map V.int)):=by
   rw[hrc7,List.filter_eq_self.mpr (by simp),hl6]
   congr 2
   refine List.ext_getElem (by simp) fun i h1 h2=>?_;have:i<hl.belts.length:=by simpa using h1
   simp[List.getD,this]
  have s57:=s6.trans s7;have hp7:=s57 _ _ hp5;have nprc:p≠rc:=Yd hp7 hrc8 (by intro z;cases z);walk_at "rds";have f8:ZW [p] H7 (upd H7 p (.ins T.C_Floor dx [("takes",.ref ra),("gives",.ref rb),("heaps",.ref rc)])):=Wb (by simp) hp7 (by intro _ z;cases z);have kk:∀x,x≠p→H5 x≠none→(upd H7 p (.ins T.C_Floor dx [("takes",.ref ra),("gives",.ref rb),("heaps",.ref rc)])) x=H5 x:=fun x n d=>by
   rw[Zh n];cases e:H5 x with
   |none=>exact absurd e d
   |some o=>exact s57 _ _ e
  have tt:∀b xs,H5 b=some (.tup xs)→(upd H7 p (.ins T.C_Floor dx [("takes",.ref ra),("gives",.ref rb),("heaps",.ref rc)])) b=some (.tup xs):=fun b xs z=>f8.tups _ _ (s57 _ _ z);have k8:∀b o,H b=some o→b≠p→(upd H7 p (.ins T.C_Floor dx [("takes",.ref ra),("gives",.ref rb),("heaps",.ref rc)])) b=some o:=fun b o e n=>f8.keep _ _ (s57 _ _ (k5 _ _ e n)) (by simpa using n);have fr5:∀{x:Addr},H5 x=none→H x=none:=fun{x} hx=>by
   cases e:H x with
   |none=>rfl
   |some o=>
    by_cases n:x=p
    ·rw[n,hp5] at hx;cases hx
    ·rw[k5 _ _ e n] at hx;cases hx
  have fr6:H6 rc=none→H rc=none:=fun hx=>fr5 (by
   cases e:H5 rc with
   |none=>rfl
   |some o=>rw[s6 _ _ e] at hx;cases hx)
  refine q _ (p::dx::ra::rb::rc::(ia++ib)) ⟨dx,ra,rb,rc,ia,ib,rfl,Ze,?_,?_,?_,?_,hLa5.keep tt (fun x hx=>kk x (nia x hx) (hLa5.dom x hx)),hLb5.keep tt (fun x hx=>kk x (nib x hx) (hLb5.dom x hx)),by simp,Int.natCast_nonneg _⟩ (fun x hx=>?_) k8
  ·exact(kk _ npd.symm (by rw[hd5];simp)).trans hd5
  ·exact(kk _ npra.symm (by rw[hra5];simp)).trans hra5
  ·exact(kk _ npra4.symm (by rw[hrb5];simp)).trans hrb5
  ·rw[Zh nprc.symm];exact hrc8
  ·simp only[List.mem_cons,List.mem_append] at hx;rcases hx with rfl|rfl|rfl|rfl|rfl|hx|hx
   ·exact .inl rfl
   ·exact .inr (.inl rfl)
   ·exact .inr (.inr (fr0 hra))
   ·exact .inr (.inr (fr3 hrb))
   ·exact .inr (.inr (fr6 hrc))
   ·exact .inr (.inr (fr0 (hia x hx).1))
   ·exact .inr (.inr (fr3 (hib x hx).1))
end
def ZaN{K:PySem.W.Frag}{mg:Str→Option Value}(T:Tp K mg):Sp:=fun vs H Q _=>∃(p a:Addr)(n:Nat)(hl:HM)(fp:List Addr)(bs:List V),vs=[.ref p,.ref a,.int n]∧Zv T H p hl fp∧H a=some (.lst bs)∧ZS H bs hl.belts∧hl.names.length=n∧n≤60∧hl.belts.length≤1000∧ZE hl.belts n∧∀H',Zd H H'→Q (.bl true) H'
section
variable {P:Program}{w:World}{K:PySem.W.Frag}{mg:Str→Option Value}{base:Heap}
theorem ZdE(T:Tp K mg):Zl P w K mg base (CXX P w) 9 T.f_l_hall_like T.d_l_hall_like ["_law_made_here","_law_due","_law_many"] (ZaN T):=by
 have G_pieces_of:Zl P w K mg base (CXX P w) 8 T.f_pieces_of T.d_pieces_of ["hall"] (UZ T):=(Zbu T).mono (by decide);have G_l_pieces:Zl P w K mg base (CXX P w) 8 T.f_l_pieces T.d_l_pieces ["_law_many","_law_lines_here"] (Zav T):=(ZcD T).mono (by decide);have G_l_is_ready:Zl P w K mg base (CXX P w) 8 T.f_l_is_ready T.d_l_is_ready ["_law_due","_law_work"] (Zbg T):=(Zex T).mono (by decide);have G_Hall_entering:Zl P w K mg base (CXX P w) 8 T.f_Hall_entering T.d_Hall_entering ["self","work"] (Vt T):=(UY T).mono (by decide);have G_Hall_leaving:Zl P w K mg base (CXX P w) 8 T.f_Hall_leaving T.d_Hall_leaving ["self","work"] (VH T):=(Zak T).mono (by decide);have G_Hall_belt_at:Zl P w K mg base (CXX P w) 8 T.f_Hall_belt_at T.d_Hall_belt_at ["self","belt"] (YN T):=(Wm T).mono (by decide);have G_Floor_lying:Zl P w K mg base (CXX P w) 8 T.f_Floor_lying T.d_Floor_lying ["self"] (Zay T):=(ZdI T).mono (by decide);have G_Floor_ready:Zl P w K mg base (CXX P w) 8 T.f_Floor_ready T.d_Floor_ready ["self","work"] (ZaF T):=(ZdR T).mono (by decide);have G_Floor_init:Zl P w K mg base (CXX P w) 7 T.f_Floor_init T.d_Floor_init ["self","hall"] (Uv T):=(ZeE T).mono (by decide);have cl_Floor:=T.cl_Floor;have na_Floor:=T.na_Floor;have cl_Hall:=T.cl_Hall;have na_Hall:=T.na_Hall;refine T.F_l_hall_like.okX Vb (fun vs H Q E h=>?_) (fun cdv A outer s H vs Q E hr h=>?_)
 ·obtain⟨p,a,n,hl,fp,bs,rfl,_⟩:=h
  rfl
 ·have hu:=hr.units;obtain⟨p,a,n,hl,fp,bs,rfl,hh,ha,hT,hnl,hn,hz,hbt,q⟩:=h;have hbl:=hT.length;have hA:=SqL.of (K:=K) ha;have ebl:((bs.length:Nat):Int)=(hl.belts.length:Int):=by omega
  refine⟨_,(Zf (Yf PassesOwn.leaving rfl (Yb rfl T.n_range (Za (pv 2) Zb)) (Zr (i:=3) Vb.nd rfl (Or.inr rfl)) (Zf (ZX (Zz (Yr (K:=K) rfl hu) (ZV (pv 0) T.cl_Hall T.M_Hall_entering G_Hall_entering hr T.b_Hall_entering .nil Zi (Za (pv 3) Zb)) (Wa rfl (Z2 (x:="_law_k") (zs:=["_law_due","_law_work"]) (ix:=[1,3]) (Zj Yj) ["_law_made_here","_law_due","_law_many","_law_work","_law_k","_law_floor"] rfl rfl (by decide+kernel)) (Yb rfl T.n_range (Za (ZC (YC (K:=K) rfl) (by rfl) T.n_len PySem.boot_len (Za (pv 1) Zb)) Zb)) (fun cl C s H fp=>⟨(Zr (i:=0) (show(["_law_k","_law_due","_law_work"]:List Str).Nodup by decide+kernel) rfl (Or.inl rfl)),(UV (Zz (Wd (K:=K) rfl hu) (Zp (Zu (K:=K) rfl) (Zp (Zu (K:=K) rfl) (pv 1) (pv 0) (fun _ _=>rfl)) Zc (fun _ _=>rfl)) (pv 2) (ZG _))),(pv 0)⟩)) (ZG _)) (Zg (Zt WB)) ZI)
     (Zg (ZX (Zz (Yr (K:=K) rfl hu) (ZV (pv 0) T.cl_Hall T.M_Hall_leaving G_Hall_leaving hr T.b_Hall_leaving .nil Zi (Za (pv 3) Zb)) (Wa rfl (Z2 (x:="_law_k") (zs:=["_law_due","_law_work"]) (ix:=[1,3]) (Zj Yj) ["_law_made_here","_law_due","_law_many","_law_work","_law_k","_law_floor"] rfl rfl (by decide+kernel)) (Yb rfl T.n_range (Za (ZC (YC (K:=K) rfl) (by rfl) T.n_len PySem.boot_len (Za (pv 1) Zb)) Zb)) (fun cl C s H fp=>⟨(Zr (i:=0) (show(["_law_k","_law_due","_law_work"]:List Str).Nodup by decide+kernel) rfl (Or.inl rfl)),(UV (Zz (Wd (K:=K) rfl hu) (Zp (Zu (K:=K) rfl) (Zp (Zu (K:=K) rfl) (pv 1) (pv 0) (fun _ _=>rfl)) Zc (fun _ _=>rfl)) (pv 2) (ZG _))),(pv 0)⟩)) (ZG _)) (Zg (Zt WB)) ZI))))
     (Zf (Yf PassesOwn.leaving rfl (Yb rfl T.n_range (Za (ZC (YC (K:=K) rfl) (by rfl) T.n_len PySem.boot_len (Za (pv 1) Zb)) Zb)) (Zr (i:=4) Vb.nd rfl (Or.inl rfl)) (Zg (ZX (Zz (Yr (K:=K) rfl hu) (ZV (pv 0) T.cl_Hall T.M_Hall_belt_at G_Hall_belt_at hr T.b_Hall_belt_at .nil Zi (Za (pv 4) Zb)) (Zp (Zu (K:=K) rfl) (pv 1) (pv 4) (fun _ _=>rfl)) (ZG _)) (Zg (Zt WB)) ZI)))
     (Zf (Zx (i:=5) Vb.nd rfl (Or.inr rfl) (Zks T.mk_Floor G_Floor_init hr rfl T.g_Floor T.b_Floor_init .nil Zi (Za (pv 0) Zb)))
     (Zf (ZX (PW.pt (Vp (Zz (Yr (K:=K) rfl hu) (Z3 (pv 5) T.cl_Floor T.M_Floor_lying G_Floor_lying hr T.b_Floor_lying .nil Zi) (Wa rfl (Z2 (x:="_law_line") (zs:=[]) (ix:=[]) (Zj Yj) ["_law_made_here","_law_due","_law_many","_law_work","_law_k","_law_floor"] rfl rfl (by decide+kernel)) (Z0 (K:=K) rfl (pv 1)) (fun cl C s H fp=>⟨(Zr (i:=0) (show(["_law_line"]:List Str).Nodup by decide+kernel) rfl (Or.inl rfl)),Z8,(Zp (Zu (K:=K) rfl) (pv 0) Zc (fun _ _=>rfl))⟩)) (ZG _)) (VL (Zz (Yr (K:=K) rfl hu) (Zn G_pieces_of hr rfl T.m_pieces_of T.F_pieces_of.kp T.b_pieces_of .nil Zi (Za (pv 0) Zb)) (Zn G_l_pieces hr rfl T.m_l_pieces T.F_l_pieces.kp T.b_l_pieces .nil Zi (Za (pv 2) (Za (pv 1) Zb))) (ZG _))))) (Zg (Zt WB)) ZI)
     (Zg (Zt (W7 (Wd (K:=K) rfl hu) (Wa rfl (Z2 (x:="_law_work") (zs:=["_law_floor"]) (ix:=[5]) (Zj Yj) ["_law_made_here","_law_due","_law_many","_law_work","_law_k","_law_floor"] rfl rfl (by decide+kernel)) (Yb rfl T.n_range (Za (pv 2) Zb)) (fun cl C s H fp=>⟨(Zr (i:=0) (show(["_law_work","_law_floor"]:List Str).Nodup by decide+kernel) rfl (Or.inl rfl)),Z8,(ZV (pv 1) T.cl_Floor T.M_Floor_ready G_Floor_ready hr T.b_Floor_ready .nil Uk (Za (pv 0) Zb))⟩)) (Wa rfl (Z2 (x:="_law_work") (zs:=["_law_due"]) (ix:=[1]) (Zj Yj) ["_law_made_here","_law_due","_law_many","_law_work","_law_k","_law_floor"] rfl rfl (by decide+kernel)) (Yb rfl T.n_range (Za (pv 2) Zb)) (fun cl C s H fp=>⟨(Zr (i:=0) (show(["_law_work","_law_due"]:List Str).Nodup by decide+kernel) rfl (Or.inl rfl)),Z8,(Zn G_l_is_ready hr rfl T.m_l_is_ready T.F_l_is_ready.kp T.b_l_is_ready .nil Uk (Za (pv 1) (Za (pv 0) Zb)))⟩)) (ZG _)))))))),?_⟩
  try dsimp only[L2.cxX,L2.ZJ,L2.Zm]
  walk_at "rds";refine Wg (n:=n) (fun i σ H'=>Zd H H'∧∃a1:Option V,σ=[some (.ref p),some (.ref a),some (.int n),a1,none,none]) ⟨Zd.refl _,_,rfl⟩ ?_ ?_
  ·rintro i σ H1 hi ⟨s1,a1,rfl⟩;have hh1:=hh.same s1;rw[Int.zero_add];walk_at "rds";refine⟨p,_,hl,fp,rfl,hh1,hz,fun z=>absurd ⟨by omega,by omega⟩ z,fun _ _ r1 H2 hr1 s2 hr2=>?_⟩;rw[Ze8] at hr2;have s12:=s1.trans s2;have hA2:=s12.seq hA;walk_at "rds";refine Yn VA (Zq (by rw[ebl];omega)) (fun j=>decide ((hl.belts.getD j dB).taker=(i:Int))) (fun j=> .int (j:Int)) (fun j H' Kc hj sm k=>?_) (fun j H' Kc hj _ sm k=>?_) (fun c1 H3 hc1 s3 hc3=>?_)
   ·have hj':j<hl.belts.length:=by rw[ebl] at hj;omega
    obtain⟨t,ht1,ht2⟩:=hT.at (List.getElem?_eq_getElem hj');have ht3:=sm _ _ (s12 _ _ ht2);have at1:atI bs (j:Int)=some (.ref t):=Yo ht1;have hA':=sm.seq hA2;rw[Int.zero_add];rw[ZH hj'] at k;generalize hl.belts[j]=bb at*;dsimp only[B5.v] at ht3;walk_at "rds";exact k H' (Zd.refl H')
   ·rw[Int.zero_add];walk_at "rds";exact k H' (Zd.refl H')
   have ec3:H3 c1=some (.lst (((Yp hl.belts i).map fun i:Nat=>(i:Int)).map V.int)):=by
    rw[hc3,ebl,Int.toNat_natCast,List.map_map]
    rfl
   clear hc3;have s13:=s12.trans s3;have hh3:=hh.same s13;walk_at "rds";refine Rd.ZbF (.of (s3 _ _ hr2)) (.of ec3) ?_;walk_at "rds";refine⟨p,_,hl,fp,rfl,hh3,hz,fun z=>absurd ⟨by omega,by omega⟩ z,fun _ _ r3 H4 hr3 s4 hr4=>?_⟩;rw[Ze8] at hr4;have s14:=s13.trans s4;have hA4:=s14.seq hA;walk_at "rds";refine Yn VA (Zq (by rw[ebl];omega)) (fun j=>decide ((hl.belts.getD j dB).giver=(i:Int))) (fun j=> .int (j:Int)) (fun j H' Kc hj sm k=>?_) (fun j H' Kc hj _ sm k=>?_) (fun c2 H5 hc2 s5 hc5=>?_)
   ·have hj':j<hl.belts.length:=by rw[ebl] at hj;omega
    obtain⟨t,ht1,ht2⟩:=hT.at (List.getElem?_eq_getElem hj');have ht3:=sm _ _ (s14 _ _ ht2);have at1:atI bs (j:Int)=some (.ref t):=Yo ht1;have hA':=sm.seq hA4;rw[Int.zero_add];rw[ZH hj'] at k;generalize hl.belts[j]=bb at*;dsimp only[B5.v] at ht3;walk_at "rds";exact k H' (Zd.refl H')
   ·rw[Int.zero_add];walk_at "rds";exact k H' (Zd.refl H')
   have ec5:H5 c2=some (.lst (((YF hl.belts i).map fun i:Nat=>(i:Int)).map V.int)):=by
    rw[hc5,ebl,Int.toNat_natCast,List.map_map]
    rfl
   clear hc5;walk_at "rds";refine Rd.ZbF (.of (s5 _ _ hr4)) (.of ec5) ?_;walk_at "rds";exact⟨s14.trans s5,_,rfl⟩
  rintro σ H1 ⟨s1,a1,rfl⟩;have hA1:=s1.seq hA;walk_at "rds";refine Wg (n:=bs.length) (fun i σ H'=>Zd H1 H'∧∃a2:Option V,σ=[some (.ref p),some (.ref a),some (.int n),a1,a2,none]) ⟨Zd.refl _,_,rfl⟩ ?_ ?_
  ·rintro i σ H2 hi ⟨s2,a2,rfl⟩;have s12:=s1.trans s2;have hh2:=hh.same s12;have hi':i<hl.belts.length:=by omega
   rw[Int.zero_add];walk_at "rds";refine⟨p,_,hl,fp,rfl,hh2,fun z=>absurd ⟨by omega,by omega⟩ z,fun _ _ t b hb ht=>?_⟩;rw[Int.toNat_natCast,List.getElem?_eq_getElem hi'] at hb;have hb':=Option.some.inj hb;obtain⟨u,hu1,hu2⟩:=hT.at (List.getElem?_eq_getElem hi');have hu3:=s12 _ _ hu2;rw[hb'] at hu3;have at1:atI bs (i:Int)=some (.ref u):=Yo hu1;have hA2:=s12.seq hA;walk_at "rds";refine Rd.Zb3 (ZeU ht) (ZeU hu3) (Zdb b) (Zdb b) (Nat.le_trans (Zfh b) (by decide)) ?_;rw[SeqAt.eqv_refl _ (Zdb b)];walk_at "rds";exact⟨s2,_,rfl⟩
  rintro σ H2 ⟨s2,a2,rfl⟩;have s12:=s1.trans s2;have hh2:=hh.same s12;walk_at "rds";refine ZeC hh2 (by omega) hz (fun f fpf H3 hf frf s3=>?_);have s13:=s12.trans s3;have hA3:=s13.seq hA;walk_at "rds";refine⟨f,_,fpf,rfl,hf,fun r4 H4 hr4 s4 hr4'=>?_⟩;have s14:=s13.trans s4;have hA4:=s14.seq hA;have hf4:=hf.same s4;walk_at "rds";refine Yn (ZU hA4) (Zq (by omega)) (fun _=>true) (fun i=> .int (hl.belts.getD i dB).start) (fun i H' Kc hi sm k=>?_) (fun i H' Kc hi _ sm k=>?_) (fun c3 H5 hc3 s5 hc5=>?_)
  ·walk_at "rds";exact k H' (Zd.refl H')
  ·obtain⟨t,ht1,ht2⟩:=hT.getD (i:=i) (by omega);rw[ht1];have ht3:=sm _ _ (s14 _ _ ht2);generalize hl.belts.getD i dB=bb at*;dsimp only[B5.v] at ht3;walk_at "rds";exact k H' (Zd.refl H')
  have ec5:H5 c3=some (.lst ((hl.belts.map B5.start).map V.int)):=by
   rw[hc5,List.filter_eq_self.mpr (by simp),hbl];refine congrArg (fun z=>some (HO.lst z)) ?_;refine List.ext_getElem (by simp) fun i h1 h2=>?_;have:i<hl.belts.length:=by simpa using h1
   simp[List.getD,this]
  clear hc5;have s15:=s14.trans s5;have hh5:=hh.same s15;have hf5:=hf4.same s5;walk_at "rds";refine Rd.ZbF (.of (s5 _ _ hr4')) (.of ec5) ?_;walk_at "rds";refine⟨p,hl,fp,rfl,hh5,by omega,hz,by rw[hnl];exact hbt,fun r6 ys xss H6 F hr60 s6 hr6 hR6 hnew hS hwd hFl=>?_⟩;rw[hnl] at hwd;have exs:=ZaT hbt hwd hS;have s16:=s15.trans s6;walk_at "rds";refine⟨n,a,bs,hl.belts,rfl,s16 _ _ ha,hT.keep (fun b xs e=>s16 _ _ e),hbt,hn,fun r7 H7 ys7 hr70 s7 hr7 hR7=>?_⟩;rw[←exs] at hR7;walk_at "rds";refine Rd.Zb3 (.lst (.of (s7 _ _ hr6)) (Vs ((hR6.same Yk).same s7))) (.lst (.of hr7) (Vs (hR7.same Yk))) (Wi xss) (Wi xss) (Zaw xss) ?_;rw[SeqAt.eqv_refl _ (Wi xss)];have s17:=s16.trans s7;have hf7:=hf5.same (s6.trans s7);walk_at "rds";refine Yn VA (Zq (by omega)) (fun _=>true) (fun i=> .bl (YI hl.belts (startsL hl.belts) (i:Int))) (fun i H' Kc hi sm k=>?_) (fun i H' Kc hi _ sm k=>?_) (fun c4 H8 hc4 s8 hc8=>?_)
  ·walk_at "rds";exact k H' (Zd.refl H')
  ·have hi':i<n:=by omega
   have hf8:=hf7.same sm;rw[Int.zero_add];walk_at "rds";refine⟨f,_,_,fpf,rfl,hf8,hz,fun z=>absurd ⟨by omega,by show(i:Int)<(hl.names.length:Int);omega⟩ z,fun _ H'' s''=>?_⟩;exact k H'' s''
  have s18:=s17.trans s8;walk_at "rds";refine Yn VA (Zq (by omega)) (fun _=>true) (fun i=> .bl (YI hl.belts (startsL hl.belts) (i:Int))) (fun i H' Kc hi sm k=>?_) (fun i H' Kc hi _ sm k=>?_) (fun c5 H9 hc50 s9 hc9=>?_)
  ·walk_at "rds";exact k H' (Zd.refl H')
  ·rw[Int.zero_add];have s18':=s18.trans sm;walk_at "rds";refine⟨a,_,bs,hl.belts,rfl,s18'.seq hA,hT.keep (fun b xs e=>s18' _ _ e),hz,fun H'' s''=>?_⟩;exact k H'' s''
  have e8:H8 c4=some (.lst (((List.range n).map fun i:Nat=>YI hl.belts (startsL hl.belts) (i:Int)).map V.bl)):=by
   rw[hc8,List.filter_eq_self.mpr (by simp),Int.toNat_natCast,List.map_map]
   rfl
  have e9:H9 c5=some (.lst (((List.range n).map fun i:Nat=>YI hl.belts (startsL hl.belts) (i:Int)).map V.bl)):=by
   rw[hc9,List.filter_eq_self.mpr (by simp),Int.toNat_natCast,List.map_map]
   rfl
  walk_at "rds";refine Zmq (s9 _ _ e8) e9 ?_;exact q H9 (s18.trans s9)
end
def Zcv{K:PySem.W.Frag}{mg:Str→Option Value}(T:Tp K mg):Sp:=fun vs H Q _=>∃(p q c:Addr)(ns:List Int)(bs:List V)(ls:List B5)(rm:List Int),vs=[.ref p,.ref q,.ref c]∧SqL K H p (ns.map V.int)∧SqL K H q bs∧ZS H bs ls∧H c=some (.lst (rm.map V.int))∧rm.length=ls.length∧ls.length≤60∧
 ∀(r:Addr)(H':Hp)(rm':List Int),Zd H H'→H' r=some (.lst (rm'.map V.int))→rm'.length≤1000→¬Vw rm' (startsL ls)→Q (.ref r) H'
section
variable {P:Program}{w:World}{K:PySem.W.Frag}{mg:Str→Option Value}{base:Heap}
theorem ZfZ(T:Tp K mg):Zl P w K mg base (CXX P w) 2 T.f_l_spoilt T.d_l_spoilt ["_law_script","_law_lines_here","_law_rooms"] (Zcv T):=by
 have G_l_mix:Zl P w K mg base (CXX P w) 1 T.f_l_mix T.d_l_mix ["_law_cell_here","_law_way"] (V4 T):=(ZcH T).mono (by decide);have G_l_cell:Zl P w K mg base (CXX P w) 1 T.f_l_cell T.d_l_cell ["_law_script","_law_k"] (Vx T):=(Zb2 T).mono (by decide);refine T.F_l_spoilt.okX Zau (fun vs H Q E h=>?_) (fun cdv A outer s H vs Q E hr h=>?_)
 ·obtain⟨p,q,c,ns,bs,ls,rm,rfl,_⟩:=h
  rfl
 ·have hu:=hr.units;obtain⟨p,q,c,ns,bs,ls,rm,rfl,hS,hq,hT,hc,hrl,hl,k⟩:=h;have hbl:=hT.length;have hC:=SqL.of (K:=K) hc;have hsl:(startsL ls).length=ls.length:=by simp[startsL]
  refine⟨_,(Zf (Zx (i:=3) Zau.nd rfl (Or.inl rfl) (Zn G_l_mix hr rfl T.m_l_mix T.F_l_mix.kp T.b_l_mix .nil Zi (Za (Zn G_l_cell hr rfl T.m_l_cell T.F_l_cell.kp T.b_l_cell .nil Zi (Za (pv 0) (Za Zc Zb))) (Za Zc Zb))))
     (Zf (ZX (PW.pt (ZbK (Zz (Wd (K:=K) rfl hu) (Zo Z1 (pv 3) Zc) Zc (ZG _)) (ZaJ (Zz ZeK (ZC (YC (K:=K) rfl) (by rfl) T.n_len PySem.boot_len (Za (pv 1) Zb)) Zc (ZG _))))) (Zf (Zx (i:=4) Zau.nd rfl (Or.inl rfl) (Zo Z1 (Zo Z4 (pv 3) Zc) (ZC (YC (K:=K) rfl) (by rfl) T.n_len PySem.boot_len (Za (pv 1) Zb))))
     (Zg (Zt (Zo (ZM (K:=K) rfl) (Zo (ZM (K:=K) rfl) (WS (ZbQ (K:=K) rfl) (pv 2) Vu (Vz (pv 4))) (YH (Za (Zo Zad (Zo Zad (Zp (Zu (K:=K) rfl) (Zp (Zu (K:=K) rfl) (pv 1) (pv 4) (fun _ _=>rfl)) Zc (fun _ _=>rfl)) Zc) (Zo Z1 (Zo Z4 (pv 3) Zc) Zc)) Zb))) (WS (ZbQ (K:=K) rfl) (pv 2) (Vz (Zo (ZM (K:=K) rfl) (pv 4) Zc)) Vu))))) ZI)
     (Zf (ZX (PW.pt (ZbK (Zz (Wd (K:=K) rfl hu) (Zo Z1 (pv 3) Zc) Zc (ZG _)) (ZaJ (Zz ZeK (ZC (YC (K:=K) rfl) (by rfl) T.n_len PySem.boot_len (Za (pv 1) Zb)) Zc (ZG _))))) (Zg (Zt (WS (ZbQ (K:=K) rfl) (pv 2) (Vz Zc) Vu))) ZI)
     (Zg (Zt (Zo (ZM (K:=K) rfl) (pv 2) (YH (Za (Zo Z1 (Zo Z4 (pv 3) Zc) Zc) Zb)))))))),?_⟩
  try dsimp only[L2.cxX,L2.ZJ,L2.Zm]
  walk_at "rds";rename_i c0 dr d0 d1;refine Rd.ifD (fun e1=>?_) (fun e1=>?_)
  ·walk_at "rds";refine Rd.ifD (fun e2=>?_) (fun e2=>?_)
   ·have lp:0<(bs.length:Int):=by omega
    have z1:=Int.emod_nonneg (dr / 9) (show(bs.length:Int)≠0 by omega);have z2:=Int.emod_lt_of_pos (dr / 9) lp;walk_at "rds";obtain⟨a,ea⟩:∃a:Nat,dr / 9 % (bs.length:Int)=(a:Int):=⟨(dr / 9 % (bs.length:Int)).toNat,by omega⟩;rw[ea] at z2;rw[ea];have hal:a<ls.length:=by omega
    have har:a<rm.length:=by omega
    refine Rd.slL hC (fun x1 hx1=>?_);rw[ZlE (by omega),Int.toNat_natCast];have s1:Zd H (upd H x1 (.lst ((rm.map V.int).take a))):=Zk hx1;have v1:(upd H x1 (.lst ((rm.map V.int).take a))) x1=some (.lst ((rm.map V.int).take a)):=Ze;generalize upd H x1 (.lst ((rm.map V.int).take a))=H1 at*;have hq1:=s1.seq hq;obtain⟨u,hu1,hu2⟩:=hT.at (List.getElem?_eq_getElem hal);have hu3:=s1 _ _ hu2;have at1:atI bs (a:Int)=some (.ref u):=Yo hu1;have est:(startsL ls).getD a 0=ls[a].start:=by simp[startsL,List.getD,hal]
    generalize ls[a]=bb at*;dsimp only[B5.v] at hu3;have hC1:=s1.seq hC;walk_at "rds";intro x2 hx2;have s2:Zd H1 (upd H1 x2 (.lst [.int (bb.start-1-dr / 90 % 3)])):=Zk hx2;have v2:(upd H1 x2 (.lst [.int (bb.start-1-dr / 90 % 3)])) x2=some (.lst [.int (bb.start-1-dr / 90 % 3)]):=Ze;generalize upd H1 x2 (.lst [.int (bb.start-1-dr / 90 % 3)])=H2 at*;have hC2:=s2.seq hC1;refine Rd.Ux (s2 _ _ v1) v2 (Nat.le_of_lt (Zq (by simp;omega))) (fun x3 hx3=>?_);have s3:Zd H2 (upd H2 x3 (.lst ((rm.map V.int).take a++ [.int (bb.start-1-dr / 90 % 3)]))):=Zk hx3;have v3:(upd H2 x3 (.lst ((rm.map V.int).take a++ [.int (bb.start-1-dr / 90 % 3)]))) x3=some (.lst ((rm.map V.int).take a++ [.int (bb.start-1-dr / 90 % 3)])):=Ze;generalize upd H2 x3 (.lst ((rm.map V.int).take a++ [.int (bb.start-1-dr / 90 % 3)]))=H3 at*;have hC3:=s3.seq hC2;walk_at "rds";refine Rd.slL hC3 (fun x4 hx4=>?_);have ea1:(a:Int)+1=((a+1:Nat):Int):=by omega
    rw[ea1,ZeQ (by rw[List.length_map];omega)];have s4:Zd H3 (upd H3 x4 (.lst ((rm.map V.int).drop (a+1)))):=Zk hx4;have v4:(upd H3 x4 (.lst ((rm.map V.int).drop (a+1)))) x4=some (.lst ((rm.map V.int).drop (a+1))):=Ze;generalize upd H3 x4 (.lst ((rm.map V.int).drop (a+1)))=H4 at*;refine Rd.Ux (s4 _ _ v3) v4 (Nat.le_of_lt (Zq (by simp;omega))) (fun x5 hx5=>?_);refine k x5 _ (rm.take a++ [bb.start-1-dr / 90 % 3]++rm.drop (a+1)) ((s1.trans (s2.trans (s3.trans s4))).trans (Zk hx5)) (by rw[Ze];simp) (by simp;omega) (fun z=>?_);have h1:=z.2 a (by simp;omega);rw[est] at h1;have h2:(rm.take a++ [bb.start-1-dr / 90 % 3]++rm.drop (a+1)).getD a 0=bb.start-1-dr / 90 % 3:=by
     have:(rm.take a).length=a:=by simp;omega
     simp[List.getD,List.getElem?_append,this]
    rw[h2] at h1;omega
   ·walk_at "rds";intro x1 hx1;have s1:Zd H (upd H x1 (.lst [.int (dr / 9 % 50)])):=Zk hx1;refine Rd.Ux (s1 _ _ hc) Ze (Nat.le_of_lt (Zq (by simp;omega))) (fun x2 hx2=>?_);refine k x2 _ (rm++ [dr / 9 % 50]) (s1.trans (Zk hx2)) (by rw[Ze];simp) (by simp;omega) (fun z=>?_);have:=z.1;rw[hsl,List.length_append] at this;simp at this;omega
  ·walk_at "rds";refine Rd.ifD (fun e2=>?_) (fun e2=>?_)
   ·walk_at "rds";refine Rd.ifD (fun e3=>?_) (fun e3=>?_)
    ·walk_at "rds";refine Rd.slL hC (fun x1 hx1=>?_);have e1n:(1:Int)=((1:Nat):Int):=rfl;rw[e1n,ZeQ (by rw[List.length_map];omega)];refine k x1 _ (rm.drop 1) (Zk hx1) (by rw[Ze,List.map_drop]) (by simp;omega) (fun z=>?_);have:=z.1;rw[hsl,List.length_drop] at this;omega
    ·walk_at "rds";intro x1 hx1;have s1:Zd H (upd H x1 (.lst [.int (dr / 9 % 50)])):=Zk hx1;refine Rd.Ux (s1 _ _ hc) Ze (Nat.le_of_lt (Zq (by simp;omega))) (fun x2 hx2=>?_);refine k x2 _ (rm++ [dr / 9 % 50]) (s1.trans (Zk hx2)) (by rw[Ze];simp) (by simp;omega) (fun z=>?_);have:=z.1;rw[hsl,List.length_append] at this;simp at this;omega
   ·walk_at "rds";intro x1 hx1;have s1:Zd H (upd H x1 (.lst [.int (dr / 9 % 50)])):=Zk hx1;refine Rd.Ux (s1 _ _ hc) Ze (Nat.le_of_lt (Zq (by simp;omega))) (fun x2 hx2=>?_);refine k x2 _ (rm++ [dr / 9 % 50]) (s1.trans (Zk hx2)) (by rw[Ze];simp) (by simp;omega) (fun z=>?_);have:=z.1;rw[hsl,List.length_append] at this;simp at this;omega
end
def VD{K:PySem.W.Frag}{mg:Str→Option Value}(T:Tp K mg):Sp:=fun vs H Q _=>∃a b:Nat,vs=[.int a,.int b]∧Q (.int (Nat.gcd a b:Nat)) H
theorem ZhF{K:PySem.W.Frag}{mg:Str→Option Value}{T:Tp K mg}{H:Hp}{Q:VK}{E:XK}{a b:Nat}(q:Q (.int (Nat.gcd a b:Nat)) H):VD T ([.int a,.int b]++ []) H Q E:=⟨a,b,rfl,q⟩
local macro_rules| `(tactic|walk_at "rd")=>`(tactic|first|((with_reducible show Nm.VD _ _ _ _ _);with_reducible refine Nm.ZhF ?_)|fail "none here")
section
variable {P:Program}{w:World}{K:PySem.W.Frag}{mg:Str→Option Value}{base:Heap}
theorem Zc1(T:Tp K mg):Zl P w K mg base (CXX P w) 1 T.f_divisor T.d_divisor ["one","other"] (VD T):=by
 refine T.F_divisor.okX UG (fun vs H Q E h=>?_) (fun cdv A outer s H vs Q E hr h=>?_)
 ·obtain⟨a,b,rfl,_⟩:=h
  rfl
 ·have hu:=hr.units;obtain⟨a0,b0,rfl,q⟩:=h;rw[←My.ZeI] at q;refine⟨_,(Zf (Za3 PassesOwn.leaving (Zz ZeK (pv 1) Zc (ZG _)) (Zf (Zx (i:=2) UG.nd rfl (Or.inl rfl) (Zo Z1 (pv 0) (pv 1)))
     (Zf (Zx (i:=0) UG.nd rfl (Or.inl rfl) (pv 1))
     (Zg (Zx (i:=1) UG.nd rfl (Or.inl rfl) (pv 2))))))
     (Zg (Zt (pv 0)))),?_⟩
  try dsimp only[L2.cxX,L2.ZJ,L2.Zm]
  walk_at "rd";refine Zc6 (fun m σ H'=>H'=H∧∃(x y:Int)(r:Option V),m=y.toNat∧σ=[some (.int x),some (.int y),r]∧0≤x∧0≤y∧My.G x y=My.G a0 b0) _ ⟨rfl,a0,b0,none,rfl,rfl,by omega,by omega,rfl⟩ ?_;rintro m σ H' ⟨rfl,x,y,r,rfl,rfl,hx,hy,hG⟩;walk_at "rds";refine Zbs (fun c=>ZeH ?_) (fun c=>?_)
  ·have hy0:0<y:=of_decide_eq_true c;walk_at "rds";exact⟨_,(by have:=Int.emod_nonneg x (show y≠0 by omega);have:=Int.emod_lt_of_pos x hy0;omega),rfl,y,x % y,some (.int (x % y)),rfl,rfl,hy,Int.emod_nonneg x (by omega),(Zj7 hx hy0).trans hG⟩
  ·have hy0:¬0<y:=fun z=>c (decide_eq_true z);have e:x=My.G a0 b0:=by rw[←hG,My.ZlM hx (show y=0 by omega)]
   walk_at "rds";rw[e];exact q
end
def ZcL{K:PySem.W.Frag}{mg:Str→Option Value}(T:Tp K mg):Sp:=fun vs H Q _=>∃a b:Nat,vs=[.int a,.int b]∧0<b∧b<2 ^ 8000∧∀(p:Addr)(H':Hp),H p=none→Zd H H'→H' p=some (.tup [.int (a / Nat.gcd a b:Nat),.int (b / Nat.gcd a b:Nat)])→Q (.ref p) H'
section
variable {P:Program}{w:World}{K:PySem.W.Frag}{mg:Str→Option Value}{base:Heap}
theorem Zfk(T:Tp K mg):Zl P w K mg base (CXX P w) 2 T.f_ratio T.d_ratio ["top","bottom"] (ZcL T):=by
 have G_divisor:Zl P w K mg base (CXX P w) 1 T.f_divisor T.d_divisor ["one","other"] (VD T):=(Zc1 T).mono (by decide);refine T.F_ratio.okX Zfv (fun vs H Q E h=>?_) (fun cdv A outer s H vs Q E hr h=>?_)
 ·obtain⟨a,b,rfl,_⟩:=h
  rfl
 ·have hu:=hr.units;obtain⟨a,b,rfl,b0,b1,q⟩:=h;have gp:0<Nat.gcd a b:=Nat.gcd_pos_of_pos_right _ b0;have gl:Nat.gcd a b<2 ^ 8000:=Nat.lt_of_le_of_lt (Nat.le_of_dvd b0 (Nat.gcd_dvd_right a b)) b1;have dg:=Zjq (a:=a) gp gl;refine⟨_,(Zf (Zx (i:=2) Zfv.nd rfl (Or.inl rfl) (Zn G_divisor hr rfl T.m_divisor T.F_divisor.kp T.b_divisor .nil Zi (Za (pv 0) (Za (pv 1) Zb))))
     (Zg (Zt (Yu (Za (Zo Z4 (pv 0) (pv 2)) (Za (Zo Z4 (pv 1) (pv 2)) Zb)))))),?_⟩
  try dsimp only[L2.cxX,L2.ZJ,L2.Zm]
  walk_at "rds";refine⟨by show 2≤sizeLine;decide,fun p hp=>?_⟩;exact q p _ hp (Zk hp) Ze
end
def ZfD{K:PySem.W.Frag}{mg:Str→Option Value}(T:Tp K mg):Sp:=fun vs H Q _=>∃(p q:Addr)(x y u v n m:Nat),vs=[.ref p,.ref q]∧H p=some (.tup [.int x,.int y])∧H q=some (.tup [.int u,.int v])∧0<y∧0<v∧x<2 ^ n∧y<2 ^ n∧u<2 ^ m∧v<2 ^ m∧n+m≤8000∧
 ∀(r:Addr)(H':Hp),H r=none→Zd H H'→H' r=some (.tup [.int (x*u / Nat.gcd (x*u) (y*v):Nat),.int (y*v / Nat.gcd (x*u) (y*v):Nat)])→Q (.ref r) H'
section
variable {P:Program}{w:World}{K:PySem.W.Frag}{mg:Str→Option Value}{base:Heap}
theorem Zi7(T:Tp K mg):Zl P w K mg base (CXX P w) 3 T.f_times T.d_times ["one","other"] (ZfD T):=by
 have G_ratio:Zl P w K mg base (CXX P w) 2 T.f_ratio T.d_ratio ["top","bottom"] (ZcL T):=(Zfk T).mono (by decide);refine T.F_times.okX Zjo (fun vs H Q E h=>?_) (fun cdv A outer s H vs Q E hr h=>?_)
 ·obtain⟨p,q,x,y,u,v,n,m,rfl,_⟩:=h
  rfl
 ·have hu:=hr.units;obtain⟨p,q,x,y,u,v,n,m,rfl,h1,h2,y0,v0,xs,ys,us,vs',nm,k⟩:=h;have m1:=ZdS xs us (by omega);have m2:=ZdS ys vs' (by omega);refine⟨_,(Zg (Zt (Zn G_ratio hr rfl T.m_ratio T.F_ratio.kp T.b_ratio .nil Zi (Za (Zo Y7 (Zp (Zu (K:=K) rfl) (pv 0) Zc (fun _ _=>rfl)) (Zp (Zu (K:=K) rfl) (pv 1) Zc (fun _ _=>rfl))) (Za (Zo Y7 (Zp (Zu (K:=K) rfl) (pv 0) Zc (fun _ _=>rfl)) (Zp (Zu (K:=K) rfl) (pv 1) Zc (fun _ _=>rfl))) Zb))))),?_⟩
  try dsimp only[L2.cxX,L2.ZJ,L2.Zm]
  walk_at "rds";exact⟨x*u,y*v,rfl,Nat.mul_pos y0 v0,Nat.lt_of_lt_of_le (VN ys vs') (Nat.pow_le_pow_right (by decide) nm),k⟩
end
structure Zmr(b:B5)(gv tk:Nat):Prop where
 g:b.give=(gv:Int)
 t:b.take=(tk:Int)
 g0:0<gv
 t0:0<tk
 gl:gv<2 ^ 110
 tl:tk<2 ^ 110
def ZgH{K:PySem.W.Frag}{mg:Str→Option Value}(T:Tp K mg):Sp:=fun vs H Q _=>∃(t:Addr)(b:B5)(al:Bool)(gv tk:Nat),vs=[.ref t,.bl al]∧H t=some (.tup b.v)∧Zmr b gv tk∧
 ∀(p:Addr)(H':Hp)(x y:Nat),H p=none→Zd H H'→H' p=some (.tup [.int x,.int y])→(if al=true then x=gv / Nat.gcd gv tk∧y=tk / Nat.gcd gv tk else x=tk / Nat.gcd tk gv∧y=gv / Nat.gcd tk gv)→Q (.ref p) H'
section
variable {P:Program}{w:World}{K:PySem.W.Frag}{mg:Str→Option Value}{base:Heap}
theorem Zj8(T:Tp K mg):Zl P w K mg base (CXX P w) 3 T.f_gain T.d_gain ["row","along"] (ZgH T):=by
 have G_ratio:Zl P w K mg base (CXX P w) 2 T.f_ratio T.d_ratio ["top","bottom"] (ZcL T):=(Zfk T).mono (by decide);refine T.F_gain.okX Zkv (fun vs H Q E h=>?_) (fun cdv A outer s H vs Q E hr h=>?_)
 ·obtain⟨t,b,al,gv,tk,rfl,_⟩:=h
  rfl
 ·have hu:=hr.units;obtain⟨t,b,al,gv,tk,rfl,ht,sz,q⟩:=h;obtain⟨g,tt,g0,t0,gl,tl⟩:=sz;dsimp only[B5.v] at ht;rw[g,tt] at ht;have big:(2:Nat) ^ 110≤2 ^ 8000:=Nat.pow_le_pow_right (by decide) (by decide);refine⟨_,(Zg (Zt (Zjy (YM (K:=K) rfl (pv 1) (fun _=>rfl)) (Zn G_ratio hr rfl T.m_ratio T.F_ratio.kp T.b_ratio .nil Zi (Za (Zp (Zu (K:=K) rfl) (pv 0) Zc (fun _ _=>rfl)) (Za (Zp (Zu (K:=K) rfl) (pv 0) Zc (fun _ _=>rfl)) Zb))) (Zn G_ratio hr rfl T.m_ratio T.F_ratio.kp T.b_ratio .nil Zi (Za (Zp (Zu (K:=K) rfl) (pv 0) Zc (fun _ _=>rfl)) (Za (Zp (Zu (K:=K) rfl) (pv 0) Zc (fun _ _=>rfl)) Zb)))))),?_⟩
  try dsimp only[L2.cxX,L2.ZJ,L2.Zm]
  walk_at "rds";unfold tIf;walk_at "rds";cases al with
  |true=>
   walk_at "rds";exact⟨gv,tk,rfl,t0,Nat.lt_of_lt_of_le tl big,fun p H' hp s h=>q p H' _ _ hp s h ⟨rfl,rfl⟩⟩
  |false=>
   walk_at "rds";exact⟨tk,gv,rfl,g0,Nat.lt_of_lt_of_le gl big,fun p H' hp s h=>q p H' _ _ hp s h ⟨rfl,rfl⟩⟩
end
def ZbC{K:PySem.W.Frag}{mg:Str→Option Value}(T:Tp K mg):Sp:=fun vs H Q _=>∃(p d:Addr)(hl:HM)(fp:List Addr)(kvs:List (Key×V))(tr:Fo.ZF)(first:Int),vs=[.ref p,.ref d]∧Zv T H p hl fp∧d∉fp∧L2.Rd H d (.dK kvs)∧Ent H kvs tr∧Fo.Z6 (ZT hl.belts) first tr∧tr.length≤60∧YZ hl.belts∧
 ∀(e:Addr)(o:Obj)(H':Hp)(kv2:List (Key×V))(zs:List (Int×(Nat×Nat))),H e=none→Zd (upd H d (.frz o (.dK kvs))) H'→H' e=some (.dK kv2)→ShE H' kv2 zs→Wf hl.belts tr zs tr.length→Q (.ref e) H'
section
variable {P:Program}{w:World}{K:PySem.W.Frag}{mg:Str→Option Value}{base:Heap}
theorem ZfV(T:Tp K mg):Zl P w K mg base (CXX P w) 6 T.f_shares_of T.d_shares_of ["hall","tree"] (ZbC T):=by
 have G_times:Zl P w K mg base (CXX P w) 5 T.f_times T.d_times ["one","other"] (ZfD T):=(Zi7 T).mono (by decide);have G_gain:Zl P w K mg base (CXX P w) 5 T.f_gain T.d_gain ["row","along"] (ZgH T):=(Zj8 T).mono (by decide);have G_Hall_belt_at:Zl P w K mg base (CXX P w) 5 T.f_Hall_belt_at T.d_Hall_belt_at ["self","belt"] (YN T):=(Wm T).mono (by decide);have cl_Hall:=T.cl_Hall;have na_Hall:=T.na_Hall;refine T.F_shares_of.okX VW (fun vs H Q E h=>?_) (fun cdv A outer s H vs Q E hr h=>?_)
 ·obtain⟨p,d,hl,fp,kvs,tr,first,rfl,_⟩:=h
  rfl
 ·have hu:=hr.units;obtain⟨p,d,hl,fp,kvs,tr,first,rfl,hh,ndf,hd,hen,hg,htl,hsz,q⟩:=h;have hkl:=hen.length;refine⟨_,(Zf (Zx (i:=2) VW.nd rfl (Or.inl rfl) ZcR)
     (Zf (Yf PassesOwn.leaving rfl (ZeP (pv 1)) (Y6 (K:=K) (n:=2) rfl rfl (ZP (Zr (i:=3) VW.nd rfl (Or.inl rfl)) (ZP (Zr (i:=4) VW.nd rfl (Or.inl rfl)) Y8))) (Zg (ZX (Zz Zlw (pv 4) Zbi (ZG _)) (Zg (ZaR (Yu (Za Zc (Za Zc Zb))) (ZaG (pv 2) (pv 3) (Za1 hu)))) (Zg (ZaR (Zn G_times hr rfl T.m_times T.F_times.kp T.b_times .nil Zi (Za (Zp (ZdQ hu) (pv 2) (Zp (Zu (K:=K) rfl) (pv 4) Zc (fun _ _=>rfl)) (fun _ _=>rfl)) (Za (Zn G_gain hr rfl T.m_gain T.F_gain.kp T.b_gain .nil Zi (Za (ZV (pv 0) T.cl_Hall T.M_Hall_belt_at G_Hall_belt_at hr T.b_Hall_belt_at .nil Zi (Za (Zp (Zu (K:=K) rfl) (pv 4) Zc (fun _ _=>rfl)) Zb)) (Za (Zp (Zu (K:=K) rfl) (pv 4) Zc (fun _ _=>rfl)) Zb))) Zb))) (ZaG (pv 2) (pv 3) (Za1 hu)))))))
     (Zg (Zt (pv 2))))),?_⟩
  try dsimp only[L2.cxX,L2.ZJ,L2.Zm]
  walk_at "rds";intro e he;have nde:d≠e:=fun z=>ZdU hd (by rw[z];exact he);have s1:Zd H (upd H e (.dK [])):=Zk he;have he1:(upd H e (.dK [])) e=some (.dK []):=Ze;have hd1:L2.Rd (upd H e (.dK [])) d (.dK kvs):=by
   rcases hd with h|⟨o,h⟩
   ·exact .inl (s1 _ _ h)
   ·exact .inr ⟨o,s1 _ _ h⟩
  generalize upd H e (.dK [])=H1 at*;walk_at "rds";refine Rd.Zh5 ?_;walk_at "rds";refine⟨d,kvs,rfl,hd1,fun o=>?_⟩;have fr1:=U9 (o:=o) hd;have hh3:Zv T (upd H d (.frz o (.dK kvs))) p hl fp:=hh.off fr1 (fun x hx z=>ndf (by rw[←List.mem_singleton.mp z];exact hx));have hen3:Ent (upd H d (.frz o (.dK kvs))) kvs tr:=hen.keep fr1.tups;have he3:(upd H d (.frz o (.dK kvs))) e=none:=by rw[Zh nde.symm];exact he
  have s3:Zd (upd H d (.frz o (.dK kvs))) (upd H1 d (.frz o (.dK kvs))):=fun b x eb=>by
   by_cases z:b=d
   ·rw[z,Ze] at eb⊢;exact eb
   ·rw[Zh z] at eb⊢;exact s1 _ _ eb
  have hd3:(upd H d (.frz o (.dK kvs))) d=some (.frz o (.dK kvs)):=Ze;have he4:(upd H1 d (.frz o (.dK kvs))) e=some (.dK []):=by rw[Zh nde.symm];exact he1
  have qq:=fun H' kv2 zs=>q e o H' kv2 zs he;generalize upd H1 d (.frz o (.dK kvs))=H4 at*;generalize upd H d (.frz o (.dK kvs))=H3 at*;clear q hd1 he1 s1 fr1;refine Vy (Zcu hd3) (fun i σ H'=>∃(kv2:List (Key×V))(zs:List (Int×(Nat×Nat)))(a1 a2:Option V),σ=[some (.ref p),some (.ref d),some (.ref e),a1,a2]∧Zd H3 H'∧H' e=some (.dK kv2)∧ShE H' kv2 zs∧Wf hl.belts tr zs i∧kv2.length≤i)
   ⟨[],[],_,_,rfl,s3,he4,.nil,Zjb,Nat.le_refl _⟩ (fun i σ H' ⟨_,_,_,_,_,s,_⟩=>s) ?_ ?_
  ·rintro i σ H5 v H6 hi ⟨kv2,zs,a1,a2,rfl,s5,he5,hsh,hgs,hk2⟩ ⟨t,kv,hkv,ht,rfl,rfl⟩;obtain⟨w,st,htr,ek,hst⟩:=ZkL hen3 hkv;have hil:i<tr.length:=(List.getElem?_eq_some_iff.mp htr).1;have hzl:=hgs.len (Nat.le_of_lt hil);have hknd:w∉zs.map (·.1):=by
    rw[hgs.keys];intro hm;obtain⟨j,hj,e2⟩:=List.getElem_of_mem hm;rw[List.getElem_take] at e2;have hjl:j<i:=by rw[List.length_take] at hj;omega
    have hjk:j<(Fo.keys tr).length:=by rw[List.length_take] at hj;omega
    have hik:i<(Fo.keys tr).length:=by simp[Fo.keys];exact hil
    have ei:(Fo.keys tr)[i]=w:=by
     have:(Fo.keys tr)[i]? =some w:=by unfold Fo.keys;rw[List.getElem?_map,htr];rfl
     rw[List.getElem?_eq_getElem hik] at this;exact Option.some.inj this
    have:=Zby hg.nodup hjk hik (e2.trans ei.symm);omega
   obtain⟨k,val⟩:=kv;dsimp only at ek hst;subst ek;refine Rd.Uz (.of Ze) rfl ?_;have su:Zd H5 (upd H5 t (.tup [kV (Sum.inl w),val])):=Zk ht;have s6:=s5.trans su;have he6:=su _ _ he5;have hsh6:ShE (upd H5 t (.tup [kV (Sum.inl w),val])) kv2 zs:=hsh.keep fun _ _ e=>su _ _ e;generalize upd H5 t (.tup [kV (Sum.inl w),val])=H6 at*;have ekw:kV (Sum.inl w)= .int w:=rfl;rw[ekw];have hkz:kv2.length<sizeLine:=Zq (by omega);have hno:=hsh6.none hknd;walk_at "rds";refine⟨rfl,?_⟩;cases st with
   |none=>
    have ev:val= .non:=hst;subst ev;walk_at "rds";refine⟨by show 2≤sizeLine;decide,fun t2 ht2=>?_⟩;have s7:Zd H6 (upd H6 t2 (.tup [.int 1,.int 1])):=Zk ht2;have h7:(upd H6 t2 (.tup [.int 1,.int 1])) t2=some (.tup [.int 1,.int 1]):=Ze;have he7:=s7 _ _ he6;have hsh7:ShE (upd H6 t2 (.tup [.int 1,.int 1])) kv2 zs:=hsh6.keep fun _ _ e=>s7 _ _ e;generalize upd H6 t2 (.tup [.int 1,.int 1])=H7 at*;walk_at "rds";rw[Za6 _ hno];have tk8:∀a xs,H7 a=some (.tup xs)→(upd H7 e (.dK (kv2++ [(Sum.inl w,.ref t2)]))) a=some (.tup xs):=fun a xs ea=>by rw[Zh (Yd ea he7 (by intro z;cases z))];exact ea
    refine⟨_,zs++ [(w,(1,1))],_,_,rfl,(s6.trans s7).new he3,Ze,(hsh7.keep tk8).snoc (x:=(1,1)) (tk8 _ _ h7),hgs.more hil htr ⟨by decide,by decide,by decide⟩ ⟨?_,?_⟩ (fun _=>rfl) (fun p b al z=>by cases z),by simp;omega⟩
    ·exact Nat.lt_of_lt_of_le (by decide:(1:Nat)<2 ^ 1) (Nat.pow_le_pow_right (by decide) (by omega))
    ·exact Nat.lt_of_lt_of_le (by decide:(1:Nat)<2 ^ 1) (Nat.pow_le_pow_right (by decide) (by omega))
   |some x=>
    obtain⟨pw,b,al⟩:=x;obtain⟨t2,ev,ht2⟩:=hst;subst ev;have ht6:=s6 _ _ ht2;obtain⟨hway,j,sj,hj,htj⟩:=hg.steps i w pw b al htr;have hpm:pw∈zs.map (·.1):=by
     rw[hgs.keys];have hk:(Fo.keys tr)[j]? =some pw:=by unfold Fo.keys;rw[List.getElem?_map,htj];rfl
     have:((Fo.keys tr).take i)[j]? =some pw:=by rw[List.getElem?_take,if_pos hj];exact hk
     exact List.mem_of_getElem? this
    obtain⟨y,ty,hym,hval,hty⟩:=hsh6.get hpm;obtain⟨jy,hjy⟩:=List.getElem?_of_mem hym;have hjl:=(List.getElem?_eq_some_iff.mp hjy).1;obtain⟨y0,y1,yg⟩:=hgs.pos _ hym;obtain⟨ys1,ys2⟩:=hgs.size jy _ hjy;obtain⟨bi,hbi,hbm⟩:=W3 hway;have eb:b=(bi:Int):=by
     rw[Ye] at hbm;rcases hbm with⟨_,z⟩|⟨_,z⟩<;>(injection z with _ z2;injection z2)
    obtain⟨gv,tk,g0,t0,gl,tl,eg,et⟩:=hsz bi hbi;have hh6:=hh3.same s6;have dec:decide (V.ref t2=V.non)=false:=decide_eq_false (by intro z;cases z);rw[dec];walk_at "rds";refine⟨p,b,hl,fp,rfl,hh6,fun z=>absurd ⟨by omega,by omega⟩ z,fun _ _ tb B hB htB=>?_⟩;have eB:hl.belts.getD bi dB=B:=by
     rw[eb,Int.toNat_natCast] at hB;simp[List.getD,hB]
    rw[eB] at eg et;walk_at "rds";refine⟨tb,B,al,gv,tk,rfl,htB,⟨eg,et,g0,t0,gl,tl⟩,fun t3 H7 u v ht3 s7 h7 huv=>?_⟩;have hn:110*jy+1+110≤110*i+1:=by omega
    have huv2:∃G1 G2 M,G1=Nat.gcd M G2∧True:=⟨_,0,0,rfl,trivial⟩;have key:∃gA tA:Nat,0<gA∧0<tA∧gA<2 ^ 110∧tA<2 ^ 110∧u=gA / Nat.gcd gA tA∧v=tA / Nat.gcd gA tA∧(∀x:Nat×Nat,x.1*y.2*tA=y.1*x.2*gA→Bal B al x y):=by
     cases al with
     |true=>
      rw[if_pos rfl] at huv;refine⟨gv,tk,g0,t0,gl,tl,huv.1,huv.2,fun x hx=>?_⟩;unfold Bal;rw[if_pos rfl,eg,et,Int.toNat_natCast,Int.toNat_natCast];exact hx
     |false=>
      rw[if_neg (by decide)] at huv;refine⟨tk,gv,t0,g0,tl,gl,huv.1,huv.2,fun x hx=>?_⟩;unfold Bal;rw[if_neg (by decide),eg,et,Int.toNat_natCast,Int.toNat_natCast];exact hx
    clear huv huv2;obtain⟨gA,tA,gA0,tA0,gAl,tAl,eu,ev,hbal⟩:=key;have ul:u<2 ^ 110:=by rw[eu];exact Nat.lt_of_le_of_lt (Nat.div_le_self _ _) gAl
    have vl:v<2 ^ 110:=by rw[ev];exact Nat.lt_of_le_of_lt (Nat.div_le_self _ _) tAl
    have v0:0<v:=by
     rw[ev];exact Nat.div_pos (Nat.le_of_dvd tA0 (Nat.gcd_dvd_right _ _)) (Nat.gcd_pos_of_pos_left _ gA0)
    walk_at "rds";refine⟨ty,t3,y.1,y.2,u,v,110*jy+1,110,rfl,s7 _ _ hty,h7,y1,v0,ys1,ys2,ul,vl,by omega,fun t4 H8 ht4 s8 h8=>?_⟩;obtain⟨hp,hb1,hle1,hle2⟩:=Zhm (y:=y) (u:=(u,v)) (x:=(y.1*u / Nat.gcd (y.1*u) (y.2*v),y.2*v / Nat.gcd (y.1*u) (y.2*v))) (n:=0) y0 y1 gA0 tA0 eu ev rfl rfl rfl;have s68:=s7.trans s8;have he8:=s68 _ _ he6;have hsh8:ShE H8 kv2 zs:=hsh6.keep fun _ _ e=>s68 _ _ e;walk_at "rds";rw[Za6 _ hno];have tk8:∀a xs,H8 a=some (.tup xs)→(upd H8 e (.dK (kv2++ [(Sum.inl w,.ref t4)]))) a=some (.tup xs):=fun a xs ea=>by rw[Zh (Yd ea he8 (by intro z;cases z))];exact ea
    have sz1:y.1*gA<2 ^ (110*i+1):=Nat.lt_of_lt_of_le (VN ys1 gAl) (Nat.pow_le_pow_right (by decide) hn);have sz2:y.2*tA<2 ^ (110*i+1):=Nat.lt_of_lt_of_le (VN ys2 tAl) (Nat.pow_le_pow_right (by decide) hn);refine⟨_,zs++ [(w,(y.1*u / Nat.gcd (y.1*u) (y.2*v),y.2*v / Nat.gcd (y.1*u) (y.2*v)))],_,_,rfl,(s6.trans s68).new he3,Ze,(hsh8.keep tk8).snoc (tk8 _ _ h8),hgs.more hil htr hp ⟨Nat.lt_of_le_of_lt hle1 sz1,Nat.lt_of_le_of_lt hle2 sz2⟩ (fun z=>by cases z) (fun p' b' al' z=>?_),by simp;omega⟩;cases z;refine⟨jy,y,hjy,?_⟩;rw[eb,Int.toNat_natCast,eB];exact hbal _ hb1
  ·rintro σ H5 ⟨kv2,zs,a1,a2,rfl,s5,he5,hsh,hgs,hk2⟩;rw[hkl] at hgs;walk_at "rds";exact qq H5 kv2 zs s5 he5 hsh hgs
end
def Zcs{K:PySem.W.Frag}{mg:Str→Option Value}(T:Tp K mg):Sp:=fun vs H Q _=>∃a b n:Nat,vs=[.int a,.int b]∧0<b∧b<2 ^ 8000∧a<2 ^ n∧n≤1000000∧Q (.int (a / Nat.gcd a b*b:Nat)) H
section
variable {P:Program}{w:World}{K:PySem.W.Frag}{mg:Str→Option Value}{base:Heap}
theorem Zgn(T:Tp K mg):Zl P w K mg base (CXX P w) 2 T.f_multiple T.d_multiple ["one","other"] (Zcs T):=by
 have G_divisor:Zl P w K mg base (CXX P w) 1 T.f_divisor T.d_divisor ["one","other"] (VD T):=(Zc1 T).mono (by decide);refine T.F_multiple.okX Zgj (fun vs H Q E h=>?_) (fun cdv A outer s H vs Q E hr h=>?_)
 ·obtain⟨a,b,n,rfl,_⟩:=h
  rfl
 ·have hu:=hr.units;obtain⟨a,b,n,rfl,b0,b1,hn,hn2,q⟩:=h;have gp:0<Nat.gcd a b:=Nat.gcd_pos_of_pos_right _ b0;have gl:Nat.gcd a b<2 ^ 8000:=Nat.lt_of_le_of_lt (Nat.le_of_dvd b0 (Nat.gcd_dvd_right a b)) b1;have dg:=Zjq (a:=a) gp gl;have da:a / Nat.gcd a b<2 ^ n:=Nat.lt_of_le_of_lt (Nat.div_le_self _ _) hn;have mo:IntMulOk ((a:Int) / (Nat.gcd a b:Nat)) (b:Int):=ZdS (a:=a / Nat.gcd a b) da b1 (by omega);refine⟨_,(Zg (Zt (Zo Y7 (Zo Z4 (pv 0) (Zn G_divisor hr rfl T.m_divisor T.F_divisor.kp T.b_divisor .nil Zi (Za (pv 0) (Za (pv 1) Zb)))) (pv 1)))),?_⟩
  try dsimp only[L2.cxX,L2.ZJ,L2.Zm]
  walk_at "rds";exact q
end
def ZcE{K:PySem.W.Frag}{mg:Str→Option Value}(T:Tp K mg):Sp:=fun vs H Q _=>∃(p f:Addr)(hl:HM)(fp ds:List Addr)(F:List (Int×Fo.ZF)),vs=[.ref p,.ref f]∧Zv T H p hl fp∧H f=some (.lst (ds.map V.ref))∧YQ H ds F∧(∀d∈ds,d∉fp)∧(∀d∈ds,d≠f)∧Fo.Wn (ZT hl.belts) hl.names.length F hl.names.length∧ZE hl.belts hl.names.length∧hl.names.length≤60∧YZ hl.belts∧
 ∀(r:Addr)(H':Hp)(rs:List Int),H r=none→ZW ds H H'→YQ H' ds F→H' r=some (.lst (rs.map V.int))→rs.length=hl.names.length→(∀x∈F,Za2 hl.belts x rs)→Q (.ref r) H'
section
variable {P:Program}{w:World}{K:PySem.W.Frag}{mg:Str→Option Value}{base:Heap}
theorem Zf1(T:Tp K mg):Zl P w K mg base (CXX P w) 7 T.f_rates_by T.d_rates_by ["hall","forest"] (ZcE T):=by
 have G_shares_of:Zl P w K mg base (CXX P w) 6 T.f_shares_of T.d_shares_of ["hall","tree"] (ZbC T):=(ZfV T).mono (by decide);have G_multiple:Zl P w K mg base (CXX P w) 6 T.f_multiple T.d_multiple ["one","other"] (Zcs T):=(Zgn T).mono (by decide);have G_Hall_names:Zl P w K mg base (CXX P w) 6 T.f_Hall_names T.d_Hall_names ["self"] (Y9 T):=(WI T).mono (by decide);have cl_Hall:=T.cl_Hall;have na_Hall:=T.na_Hall;refine T.F_rates_by.okX YD (fun vs H Q E h=>?_) (fun cdv A outer s H vs Q E hr h=>?_)
 ·obtain⟨p,f,hl,fp,ds,F,rfl,_⟩:=h
  rfl
 ·have hu:=hr.units;obtain⟨p,f,hl,fp,ds,F,rfl,hh,hf,hT,hdf,hdn,hwd,hbt,hn,hsz,q⟩:=h;have hdl:=hT.length;refine⟨_,(Zf (Zj4 (j:=2) rfl (Z2 (x:="name") (zs:=[]) (ix:=[]) (Zj VP) ["hall","forest","rates","tree","shares","common","share","work"] rfl rfl (by decide+kernel)) (Z0 (K:=K) rfl (Z3 (pv 0) T.cl_Hall T.M_Hall_names G_Hall_names hr T.b_Hall_names .nil Zi)) (fun cl C s H fp=>⟨(Zr (i:=0) (show(["name"]:List Str).Nodup by decide+kernel) rfl (Or.inl rfl)),Z8,Zc⟩) YD.nd rfl (Or.inl rfl))
     (Zf (Yf PassesOwn.leaving rfl (Z0 (K:=K) rfl (pv 1)) (Zr (i:=3) YD.nd rfl (Or.inl rfl)) (Zf (Zx (i:=4) YD.nd rfl (Or.inl rfl) (Zn G_shares_of hr rfl T.m_shares_of T.F_shares_of.kp T.b_shares_of .nil Zi (Za (pv 0) (Za (pv 3) Zb))))
     (Zf (Zx (i:=5) YD.nd rfl (Or.inl rfl) Zc)
     (Zf (Yf PassesOwn.leaving rfl (Zkr (pv 4)) (Zr (i:=6) YD.nd rfl (Or.inl rfl)) (Zg (Zx (i:=5) YD.nd rfl (Or.inl rfl) (Zn G_multiple hr rfl T.m_multiple T.F_multiple.kp T.b_multiple .nil Zi (Za (pv 5) (Za (Zp (Zu (K:=K) rfl) (pv 6) Zc (fun _ _=>rfl)) Zb))))))
     (Zg (Yf PassesOwn.leaving rfl (ZeP (pv 4)) (Y6 (K:=K) (n:=2) rfl rfl (ZP (Zr (i:=7) YD.nd rfl (Or.inl rfl)) (ZP (Zr (i:=6) YD.nd rfl (Or.inl rfl)) Y8))) (Zg (ZaR (Zo Y7 (Zo Z4 (pv 5) (Zp (Zu (K:=K) rfl) (pv 6) Zc (fun _ _=>rfl))) (Zp (Zu (K:=K) rfl) (pv 6) Zc (fun _ _=>rfl))) (ZaG (pv 2) (pv 7) Zfz)))))))))
     (Zg (Zt (pv 2))))),?_⟩
  try dsimp only[L2.cxX,L2.ZJ,L2.Zm]
  walk_at "rds";refine⟨p,hl,fp,rfl,hh,fun nm H1 hnm s1 hnm1=>?_⟩;walk_at "rds";refine Yn (ZU (SqL.of hnm1)) (Zq (by rw[List.length_map];omega)) (fun _=>true) (fun _=> .int 1) (fun i H' Kc hi sm k=>?_) (fun i H' Kc hi _ sm k=>?_) (fun r H2 hr s2 hr2=>?_)
  ·walk_at "rds";exact k H' (Zd.refl H')
  ·walk_at "rds";exact k H' (Zd.refl H')
  have hr3:H2 r=some (.lst ((List.replicate hl.names.length (1:Int)).map V.int)):=by
   rw[hr2,List.filter_eq_self.mpr (by simp),List.length_map];refine congrArg (fun z=>some (HO.lst z)) ?_;refine List.ext_getElem (by simp) fun i h1 h2=>?_;simp
  clear hr2;have s12:=s1.trans s2;have hr0:H r=none:=ZY s1 hr;have hf2:=s12 _ _ hf;have hrd:∀d∈ds,r≠d:=fun d hd z=>by
   obtain⟨i,hi,rfl⟩:=List.getElem_of_mem hd;obtain⟨x,_,kvs,a,_⟩:=Paired.get' hT (List.getElem?_eq_getElem hi);exact ZdU a (by rw[←z];exact hr0)
  have nfr:f≠r:=Zy hf hr0;walk_at "rds";refine VZ (ZU (SqL.of (Um (q:=f) (o:= .lst (ds.map V.ref))))) (fun i σ H'=>∃(rs:List Int)(a1 a2 a3 a4 a5:Option V),σ=[some (.ref p),some (.ref f),some (.ref r),a1,a2,a3,a4,a5]∧ZW ds H H'∧YQ H' ds F∧H' f=some (.lst (ds.map V.ref))∧H' r=some (.lst (rs.map V.int))∧rs.length=hl.names.length∧∀(k:Nat) x,k<i→F[k]? =some x→Za2 hl.belts x rs)
   ⟨_,_,_,_,_,_,rfl,s12.frame,hT.same s12,hf2,hr3,by simp,fun k x hk=>absurd hk (Nat.not_lt_zero _)⟩ ?_ ?_ ?_
  ·rintro i σ H' ⟨_,_,_,_,_,_,_,_,_,h,_⟩;exact Ut h
  ·rintro i σ H3 hi ⟨rs,a1,a2,a3,a4,a5,rfl,fr3,hT3,hf3,hr3,hrl,hset⟩;have hi':i<ds.length:=by simpa using hi
   have ei:(ds.map V.ref).getD i .non= .ref ds[i]:=by simp[List.getD,hi']
   rw[ei];obtain⟨x,hx,kvs,hd,hen⟩:=Paired.get' hT3 (List.getElem?_eq_getElem hi');have hdm:=List.getElem_mem hi';generalize ds[i]=d at*;obtain⟨g,gg,g0,g1⟩:=hwd.tree x (List.mem_of_getElem? hx);have hkrg:=g.rg ⟨g0,g1⟩ (W5 hbt);have htl:x.2.length≤60:=by
    have:=Fo.WT (n:=hl.names.length) g.nodup hkrg;simp[Fo.keys] at this;omega
   have hh3:=hh.off fr3 (fun y hy z=>hdf y z hy);walk_at "rds";refine⟨p,d,hl,fp,kvs,x.2,x.1,rfl,hh3,hdf d hdm,hd,hen,g,htl,hsz,fun e o H4 kv2 zs he s4 he4 hsh hgs=>?_⟩;have fr4:ZW ds H H4:=fr3.trans (((U9 (o:=o) hd).mono (by intro y hy;rw[List.mem_singleton.mp hy];exact hdm)).trans s4.frame);have hT4:=(hT3.frz (o:=o) hd).same s4;have hf4:H4 f=some (.lst (ds.map V.ref)):=fr4.keep _ _ hf (fun z=>hdn f z rfl);have nrd:=hrd d hdm;have hr4:H4 r=some (.lst (rs.map V.int)):=s4 _ _ (by rw[Zh nrd];exact hr3);have ned:∀d'∈ds,e≠d':=fun d' hd' z=>by
    obtain⟨j,hj,rfl⟩:=List.getElem_of_mem hd';obtain⟨x',_,k',a,_⟩:=Paired.get' hT3 (List.getElem?_eq_getElem hj);exact ZdU a (by rw[←z];exact he)
   have ner:r≠e:=fun z=>by rw[z,he] at hr3;cases hr3
   have nef:f≠e:=fun z=>by rw[z,he] at hf3;cases hf3
   have he0:H e=none:=by
    cases ee:H e with
    |none=>rfl
    |some o'=>
     by_cases z:e∈ds
     ·exact absurd rfl (ned e z)
     ·rw[fr3.keep _ _ ee z] at he;cases he
   have hzl:=hgs.len (Nat.le_refl _);have hkl:=hsh.length;walk_at "rds";refine Rd.Zme ?_;walk_at "rds";refine⟨e,kv2,rfl,.inl he4,fun o2=>?_⟩;have he5:(upd H4 e (.frz o2 (.dK kv2))) e=some (.frz o2 (.dK kv2)):=Ze;have tk5:∀a xs,H4 a=some (.tup xs)→(upd H4 e (.frz o2 (.dK kv2))) a=some (.tup xs):=(U9 (o:=o2) (.inl he4)).tups;have hsh5:=hsh.keep tk5;have hr5:(upd H4 e (.frz o2 (.dK kv2))) r=some (.lst (rs.map V.int)):=by rw[Zh ner];exact hr4
   have hf5:(upd H4 e (.frz o2 (.dK kv2))) f=some (.lst (ds.map V.ref)):=by rw[Zh nef];exact hf4
   have fr5:ZW ds H (upd H4 e (.frz o2 (.dK kv2))):=⟨fun b y eb n=>by rw[Zh (fun z=>by rw[z,he0] at eb;cases eb)];exact fr4.keep _ _ eb n,fun b xs eb=>tk5 _ _ (fr4.tups _ _ eb)⟩;have hT5:YQ (upd H4 e (.frz o2 (.dK kv2))) ds F:=by
    refine UC hT4 fun d' x' hd' ⟨k,a,b⟩=>⟨k,?_,b.keep tk5⟩;have:=(ned d' hd').symm;rcases a with a|⟨o',a⟩
    ·exact .inl (by rw[Zh this];exact a)
    ·exact .inr ⟨o',by rw[Zh this];exact a⟩
   generalize upd H4 e (.frz o2 (.dK kv2))=H5 at*;refine Vy (ZhI he5) (fun k σ H'=>H'=H5∧∃(C:Nat)(a4:Option V),σ=[some (.ref p),some (.ref f),some (.ref r),some (.ref d),some (.ref e),some (.int C),a4,a5]∧C=lcmL (zs.take k)∧C<2 ^ (6700*k+1)) ⟨rfl,1,_,rfl,rfl,by decide⟩ (fun i σ H' h=>h.1▸Zd.refl H5) ?_ ?_
   ·rintro k σ H6 v H7 hk ⟨rfl,C,a4,rfl,hC,hCs⟩ ⟨rfl,kv,hkv,rfl⟩;obtain⟨y,hy,_,t,et,ht⟩:=Paired.get' hsh5 hkv;rw[et];have hkz:k<zs.length:=(List.getElem?_eq_some_iff.mp hy).1;obtain⟨y0,y1,_⟩:=hgs.pos y (List.mem_of_getElem? hy);have ysz:=(hgs.size k y hy).2;have ys2:y.2.2<2 ^ 6700:=Nat.lt_of_lt_of_le ysz (Nat.pow_le_pow_right (by decide) (by omega));have et2:zs.take (k+1)=zs.take k++ [y]:=by rw[List.take_succ,hy];rfl
    walk_at "rds";refine⟨C,y.2.2,6700*k+1,rfl,y1,Nat.lt_of_lt_of_le ys2 (Nat.pow_le_pow_right (by decide) (by decide)),hCs,by omega,?_⟩;rw[Zje];refine⟨rfl,_,_,rfl,by rw[et2,ZiE,hC],?_⟩;have:=ZhU hCs ys2;have e3:6700*(k+1)+1=6700*k+1+6700:=by omega
    rw[e3];exact this
   ·rintro σ H6 ⟨rfl,C,a4,rfl,hC,hCs⟩;rw[hkl,List.take_length] at hC;walk_at "rds";refine Rd.Zh5 ?_;walk_at "rds";refine⟨e,kv2,rfl,.inr ⟨o2,he5⟩,fun o3=>?_⟩;have he7:(upd H6 e (.frz o3 (.dK kv2))) e=some (.frz o3 (.dK kv2)):=Ze;have tk7:∀a xs,H6 a=some (.tup xs)→(upd H6 e (.frz o3 (.dK kv2))) a=some (.tup xs):=(U9 (o:=o3) (.inr ⟨o2,he5⟩)).tups;have hsh7:=hsh5.keep tk7;have hr7:(upd H6 e (.frz o3 (.dK kv2))) r=some (.lst (rs.map V.int)):=by rw[Zh ner];exact hr5
    have hf7:(upd H6 e (.frz o3 (.dK kv2))) f=some (.lst (ds.map V.ref)):=by rw[Zh nef];exact hf5
    have fr7:ZW ds H (upd H6 e (.frz o3 (.dK kv2))):=⟨fun b y eb n=>by rw[Zh (fun z=>by rw[z,he0] at eb;cases eb)];exact fr5.keep _ _ eb n,fun b xs eb=>tk7 _ _ (fr5.tups _ _ eb)⟩;have hT7:YQ (upd H6 e (.frz o3 (.dK kv2))) ds F:=by
     refine UC hT5 fun d' x' hd' ⟨k,a,b⟩=>⟨k,?_,b.keep tk7⟩;have:=(ned d' hd').symm;rcases a with a|⟨o',a⟩
     ·exact .inl (by rw[Zh this];exact a)
     ·exact .inr ⟨o',by rw[Zh this];exact a⟩
    generalize upd H6 e (.frz o3 (.dK kv2))=H7 at*;have hkz:zs.map (·.1)=Fo.keys x.2:=by
     have h1:=hgs.keys;have h2:(Fo.keys x.2).take x.2.length=Fo.keys x.2:=List.take_of_length_le (by simp[Fo.keys]);rw[h1,h2]
    have hzk:∀(j:Nat) y,zs[j]? =some y→y.1∈Fo.keys x.2:=fun j y hy=>by rw[←hkz];exact List.mem_map.mpr ⟨y,List.mem_of_getElem? hy,rfl⟩
    have hzn:∀(j k:Nat) y z,zs[j]? =some y→zs[k]? =some z→j≠k→y.1≠z.1:=fun j k y z hy hz ne ee=>by
     have nd:(zs.map (·.1)).Nodup:=by rw[hkz];exact g.nodup
     obtain⟨hj,ej⟩:=List.getElem?_eq_some_iff.mp hy;obtain⟨hk,ek⟩:=List.getElem?_eq_some_iff.mp hz;refine ne (Zby nd (by simpa using hj) (by simpa using hk) ?_);rw[List.getElem_map,List.getElem_map,ej,ek];exact ee
    refine Vy (Zcu (Um (q:=e) (o:= .frz o3 (.dK kv2)))) (fun k σ H'=>∃(rs':List Int)(a6 a7:Option V),σ=[some (.ref p),some (.ref f),some (.ref r),some (.ref d),some (.ref e),some (.int C),a6,a7]∧ZW ds H H'∧YQ H' ds F∧H' e=some (.frz o3 (.dK kv2))∧H' f=some (.lst (ds.map V.ref))∧H' r=some (.lst (rs'.map V.int))∧rs'.length=hl.names.length∧ShE H' kv2 zs∧
     (∀(j:Nat) y,j<k→zs[j]? =some y→rs'[y.1.toNat]? =some ((C / y.2.2*y.2.1:Nat):Int))∧∀v:Int,0≤v→v∉Fo.keys x.2→rs'[v.toNat]? =rs[v.toNat]?)
     ⟨rs,_,_,rfl,fr7,hT7,he7,hf7,hr7,hrl,hsh7,fun j y hj=>absurd hj (Nat.not_lt_zero _),fun _ _ _=>rfl⟩ ?_ ?_ ?_
    ·rintro k σ H' ⟨_,_,_,_,_,_,h,_⟩;exact Ut h
    ·rintro k σ H8 v H9 hk ⟨rs',a6,a7,rfl,fr8,hT8,he8,hf8,hr8,hrl8,hsh8,hin8,hout8⟩ ⟨t,kv,hkv,ht,rfl,rfl⟩;obtain⟨y,hy,ek,ty,et,hty⟩:=Paired.get' hsh8 hkv;obtain⟨kk,vv⟩:=kv;dsimp only at ek et;subst ek et;refine Rd.Uz (.of Ze) rfl ?_;have su:Zd H8 (upd H8 t (.tup [kV (Sum.inl y.1),.ref ty])):=Zk ht;have hr9:=su _ _ hr8;have hty9:=su _ _ hty;have fr9:ZW ds H (upd H8 t (.tup [kV (Sum.inl y.1),.ref ty])):=fr8.trans su.frame;have hT9:=hT8.same su;have he9:=su _ _ he8;have hf9:=su _ _ hf8;have hsh9:ShE (upd H8 t (.tup [kV (Sum.inl y.1),.ref ty])) kv2 zs:=hsh8.keep fun _ _ e=>su _ _ e;generalize upd H8 t (.tup [kV (Sum.inl y.1),.ref ty])=H9 at*;have ekw:kV (Sum.inl y.1)= .int y.1:=rfl;rw[ekw];obtain⟨y0,y1,_⟩:=hgs.pos y (List.mem_of_getElem? hy);obtain⟨ysz1,ysz2⟩:=hgs.size k y hy;have hkk:k<zs.length:=(List.getElem?_eq_some_iff.mp hy).1;have ys1:y.2.1<2 ^ 6700:=Nat.lt_of_lt_of_le ysz1 (Nat.pow_le_pow_right (by decide) (by omega));have ys2:y.2.2<2 ^ 6700:=Nat.lt_of_lt_of_le ysz2 (Nat.pow_le_pow_right (by decide) (by omega));have dv:=Zjq (a:=0) y1 (Nat.lt_of_lt_of_le ys2 (Nat.pow_le_pow_right (by decide) (by decide)));have mo:IntMulOk ((C:Int) / (y.2.2:Nat)) ((y.2.1:Nat):Int):=ZdS (a:=C / y.2.2) (Nat.lt_of_le_of_lt (Nat.div_le_self _ _) hCs) ys1 (by omega);obtain⟨w0,w1⟩:=hkrg y.1 (hzk k y hy);walk_at "rds";have ev:(C:Int) / ((y.2.2:Nat):Int)*((y.2.1:Nat):Int)=((C / y.2.2*y.2.1:Nat):Int):=rfl;rw[ev];have tkA:∀a xs,H9 a=some (.tup xs)→(upd H9 r (.lst ((rs'.map V.int).set y.1.toNat (.int ((C / y.2.2*y.2.1:Nat):Int))))) a=some (.tup xs):=fun a xs ea=>by rw[Zh (Yd ea hr9 (by intro z;cases z))];exact ea
     have hwl:y.1.toNat<rs'.length:=by omega
     walk_at "rds";refine⟨rs'.set y.1.toNat ((C / y.2.2*y.2.1:Nat):Int),_,_,rfl,⟨fun b z eb n=>by rw[Zh (fun c=>by rw[c,hr0] at eb;cases eb)];exact fr9.keep _ _ eb n,fun b xs eb=>tkA _ _ (fr9.tups _ _ eb)⟩,?_,by rw[Zh ner.symm];exact he9,by rw[Zh nfr];exact hf9,by rw[Ze,List.map_set],by rw[List.length_set];exact hrl8,hsh9.keep tkA,fun j z hj hz=>?_,fun v v0 hv=>?_⟩
     ·refine UC hT9 fun d' x' hd' ⟨k',a,b⟩=>⟨k',?_,b.keep tkA⟩;have:=(hrd d' hd').symm;rcases a with a|⟨o',a⟩
      ·exact .inl (by rw[Zh this];exact a)
      ·exact .inr ⟨o',by rw[Zh this];exact a⟩
     ·rcases Nat.lt_succ_iff_lt_or_eq.mp hj with c|c
      ·have ne:=hzn j k z y hz hy (by omega);obtain⟨z0,_⟩:=hkrg z.1 (hzk j z hz);rw[List.getElem?_set_ne (by omega)];exact hin8 j z c hz
      ·subst c;rw[hy] at hz;cases hz;rw[List.getElem?_set_self hwl]
     ·have ne:v≠y.1:=fun c=>hv (by rw[c];exact hzk k y hy);rw[List.getElem?_set_ne (by omega)];exact hout8 v v0 hv
    ·rintro σ H8 ⟨rs',a6,a7,rfl,fr8,hT8,he8,hf8,hr8,hrl8,hsh8,hin8,hout8⟩;refine⟨rs',_,_,_,_,_,rfl,fr8,hT8,hf8,hr8,hrl8,fun k x' hk hx'=>?_⟩;rcases Nat.lt_succ_iff_lt_or_eq.mp hk with c|c
     ·obtain⟨zs',hg',hz'⟩:=hset k x' c hx';refine⟨zs',hg',fun y hy=>?_⟩;obtain⟨g',gg',g0',g1'⟩:=hwd.tree x' (List.mem_of_getElem? hx');have hyk:y.1∈Fo.keys x'.2:=by
       have h1:=hg'.keys;have h2:(Fo.keys x'.2).take x'.2.length=Fo.keys x'.2:=List.take_of_length_le (by simp[Fo.keys]);rw[h2] at h1;rw[←h1];exact List.mem_map.mpr ⟨y,hy,rfl⟩
      rw[hout8 y.1 (g'.rg ⟨g0',g1'⟩ (W5 hbt) _ hyk).1 (ZiC hbt hwd hx' hx (by omega) _ hyk)];exact hz' y hy
     ·subst c;rw[hx] at hx';cases hx';refine⟨zs,hgs,fun y hy=>?_⟩;obtain⟨j,hj⟩:=List.getElem?_of_mem hy;rw[←hC];exact hin8 j y (by rw[hkl];exact(List.getElem?_eq_some_iff.mp hj).1) hj
  ·rintro σ H3 ⟨rs,a1,a2,a3,a4,a5,rfl,fr3,hT3,hf3,hr3,hrl,hset⟩;walk_at "rds";refine q r H3 rs hr0 fr3 hT3 hr3 hrl (fun x hx=>?_);obtain⟨k,hk⟩:=List.getElem?_of_mem hx;have:=(List.getElem?_eq_some_iff.mp hk).1;exact hset k x (by rw[List.length_map,hdl];exact this) hk
end
def Zbv{K:PySem.W.Frag}{mg:Str→Option Value}(T:Tp K mg):Sp:=fun vs H Q _=>∃(p c:Addr)(hl:HM)(fp:List Addr)(cs:List Int),vs=[.ref p,.ref c]∧Zv T H p hl fp∧hl.belts.length≤1000∧SqL K H c (cs.map V.int)∧ZE hl.belts cs.length∧YZ hl.belts∧(∀c∈cs,∃k:Nat,c=(k:Int)∧k<2 ^ 420000)∧
 ∀(r:Addr)(H':Hp),H r=none→Zd H H'→H' r=some (.lst ((hl.belts.map (Wy cs)).map V.int))→Q (.ref r) H'
section
variable {P:Program}{w:World}{K:PySem.W.Frag}{mg:Str→Option Value}{base:Heap}
theorem ZeS(T:Tp K mg):Zl P w K mg base (CXX P w) 2 T.f_change_of T.d_change_of ["hall","counts"] (Zbv T):=by
 have G_Hall_belts:Zl P w K mg base (CXX P w) 1 T.f_Hall_belts T.d_Hall_belts ["self"] (Yi T):=(Y5 T).mono (by decide);have cl_Hall:=T.cl_Hall;have na_Hall:=T.na_Hall;refine T.F_change_of.okX Ze6 (fun vs H Q E h=>?_) (fun cdv A outer s H vs Q E hr h=>?_)
 ·obtain⟨p,c,hl,fp,cs,rfl,_⟩:=h
  rfl
 ·have hu:=hr.units;obtain⟨p,qa,hl,fp,cs,rfl,hh,hz,hc,hbt,hsz,hcs,q⟩:=h;refine⟨_,(Zg (Zt (Wa rfl (Z2 (x:="row") (zs:=["counts"]) (ix:=[1]) (Zj Vg) ["hall","counts"] rfl rfl (by decide+kernel)) (Z0 (K:=K) rfl (Z3 (pv 0) T.cl_Hall T.M_Hall_belts G_Hall_belts hr T.b_Hall_belts .nil Zi)) (fun cl C s H fp=>⟨(Zr (i:=0) (show(["row","counts"]:List Str).Nodup by decide+kernel) rfl (Or.inl rfl)),Z8,(Zo Zad (Zo Y7 (Zp (Zu (K:=K) rfl) (pv 1) (Zp (Zu (K:=K) rfl) (pv 0) Zc (fun _ _=>rfl)) (fun _ _=>rfl)) (Zp (Zu (K:=K) rfl) (pv 0) Zc (fun _ _=>rfl))) (Zo Y7 (Zp (Zu (K:=K) rfl) (pv 1) (Zp (Zu (K:=K) rfl) (pv 0) Zc (fun _ _=>rfl)) (fun _ _=>rfl)) (Zp (Zu (K:=K) rfl) (pv 0) Zc (fun _ _=>rfl))))⟩)))),?_⟩
  try dsimp only[L2.cxX,L2.ZJ,L2.Zm]
  walk_at "rds";intro u H1 bs hu0 sm1 hu1 hT;have hl1:=hT.length;have hb:bs.length<sizeLine:=Zq (by rw[hl1];exact hz);walk_at "rds";refine Yn (ZU (SqL.of hu1)) hb (fun _=>true) (fun i=> .int (Wy cs (hl.belts.getD i dB))) (fun i H' Kc hi sm k=>?_) (fun i H' Kc hi _ sm k=>?_) (fun r H' hr sm hr'=>?_)
  ·walk_at "rds";exact k H' (Zd.refl H')
  ·have hil:i<hl.belts.length:=by omega
   obtain⟨t,ht1,ht2⟩:=hT.getD (i:=i) hil;rw[ht1];obtain⟨r1,r2,r3,r4⟩:=hbt.at hil;obtain⟨gv,tk,g0,t0,gl,tl,eg,et⟩:=hsz i hil;have ht3:=sm _ _ ht2;unfold Wy at k;generalize hl.belts.getD i dB=bb at*;have gm:∀{v:Int},0≤v→v<cs.length→cs.getD v.toNat 0∈cs:=fun{v} v0 v1=>by rw[ZH (by omega)];exact List.getElem_mem _
   obtain⟨k1,e1,l1⟩:=hcs _ (gm r1 r2);obtain⟨k2,e2,l2⟩:=hcs _ (gm r3 r4);have m1:IntMulOk (cs.getD bb.giver.toNat 0) bb.give:=by rw[e1,eg];exact ZdS l1 gl (by decide)
   have m2:IntMulOk (cs.getD bb.taker.toNat 0) bb.take:=by rw[e2,et];exact ZdS l2 tl (by decide)
   have hc':SqL K H' qa (cs.map V.int):=(sm1.trans sm).seq hc;have a1:=ZaM r1 r2;have a2:=ZaM r3 r4;dsimp only[B5.v] at ht3;walk_at "rds";exact k H' (Zd.refl H')
  ·refine q r H' (ZY sm1 hr) (sm1.trans sm) ?_;rw[hr',List.filter_eq_self.mpr (by simp),hl1];refine congrArg (fun z=>some (HO.lst z)) ?_;refine List.ext_getElem (by simp) fun i h1 h2=>?_;have:i<hl.belts.length:=by simpa using h1
   simp[List.getD,this]
end
def Zeb{K:PySem.W.Frag}{mg:Str→Option Value}(T:Tp K mg):Sp:=fun vs H Q _=>∃(d:Addr)(kvs:List (Key×V))(tr:Fo.ZF)(W:Int→List Fo.Trip)(first w:Int),vs=[.ref d,.int w]∧L2.Rd H d (.dK kvs)∧Ent H kvs tr∧Fo.Z6 W first tr∧tr.length≤60∧w∈Fo.keys tr∧
 ∀(r:Addr)(H':Hp)(vs':List V)(ps:List (Int×Bool)),H r=none→Zd H H'→H' r=some (.lst vs')→ZZ H' vs' ps→Z9 tr w ps→ps.length≤tr.length→Q (.ref r) H'
section
variable {P:Program}{w:World}{K:PySem.W.Frag}{mg:Str→Option Value}{base:Heap}
theorem Ziy(T:Tp K mg):Zl P w K mg base (CXX P w) 1 T.f_way_to T.d_way_to ["tree","work"] (Zeb T):=by
 refine T.F_way_to.okX Zai (fun vs H Q E h=>?_) (fun cdv A outer s H vs Q E hr h=>?_)
 ·obtain⟨d,kvs,tr,W,first,w,rfl,_⟩:=h
  rfl
 ·have hu:=hr.units;obtain⟨d,kvs,tr,W,first,w,rfl,hd,hen,hg,htl,hw,q⟩:=h;refine⟨_,(Zf (Zx (i:=2) Zai.nd rfl (Or.inl rfl) (YH Zb))
     (Zf (Zx (i:=3) Zai.nd rfl (Or.inl rfl) (Zp (ZdQ hu) (pv 0) (pv 1) (fun _ _=>rfl)))
     (Zf (Za3 PassesOwn.leaving (Zz Zkz (pv 3) Zbi (ZG _)) (Zf (ZL (WK (K:=K) rfl PySem.F.plainAttrs_list PySem.F.slot_list_append PySem.F.type_list_append Ym (pv 2) (Za (Yu (Za (Zp (Zu (K:=K) rfl) (pv 3) Zc (fun _ _=>rfl)) (Za (Zp (Zu (K:=K) rfl) (pv 3) Zc (fun _ _=>rfl)) Zb))) Zb)))
     (Zg (Zx (i:=3) Zai.nd rfl (Or.inl rfl) (Zp (ZdQ hu) (pv 0) (Zp (Zu (K:=K) rfl) (pv 3) Zc (fun _ _=>rfl)) (fun _ _=>rfl))))))
     (Zf (ZL (Zkt (K:=K) rfl PySem.F.plainAttrs_list PySem.F.slot_list_reverse PySem.F.type_list_reverse ZgP (pv 2)))
     (Zg (Zt (pv 2))))))),?_⟩
  try dsimp only[L2.cxX,L2.ZJ,L2.Zm]
  walk_at "rds";refine⟨Nat.zero_le _,fun r hr0=>?_⟩;have s1:Zd H (upd H r (.lst [])):=Zk hr0;have hr1:(upd H r (.lst [])) r=some (.lst []):=Ze;generalize upd H r (.lst [])=H1 at*;obtain⟨i0,st0,hi0⟩:=Fo.V8 hw;obtain⟨v0,hv0,hs0⟩:=ZdC hen hg.nodup hi0;walk_at "rds";refine Rd.ZjD (ZaK hd s1) hv0 ?_;walk_at "rds";refine Zc6 (fun m σ H'=>Zd H H'∧∃(u:Int)(st:Option Fo.Trip)(v:V)(vs:List V)(acc:List (Int×Bool)),σ=[some (.ref d),some (.int w),some (.ref r),some v]∧Uo H v st∧tr[m]? =some (u,st)∧H' r=some (.lst vs)∧ZZ H' vs acc∧(∀ps,Z9 tr u ps→Z9 tr w (ps++acc.reverse))∧m+acc.length<tr.length) i0 ⟨s1,w,st0,v0,[],[],rfl,hs0,hi0,hr1,.nil,fun ps h=>by simpa using h,by have:=(List.getElem?_eq_some_iff.mp hi0).1;simpa using this⟩ ?_;rintro m σ H2 ⟨s2,u,st,v,vs,acc,rfl,hst,hm,hr2,hP,hpath,hml⟩;have hpl:=hP.length;cases st with
  |none=>
   obtain rfl:v= .non:=hst;walk_at "rds";refine⟨rfl,false,rfl,?_⟩;refine ZfQ ?_;walk_at "rds";refine⟨r,vs,rfl,rfl,hr2,?_⟩;have fr2:ZW [r] H2 (upd H2 r (.lst vs.reverse)):=Wb (by simp) hr2 (by intro _ z;cases z);have s3:Zd H (upd H2 r (.lst vs.reverse)):=s2.new hr0;have hr3:(upd H2 r (.lst vs.reverse)) r=some (.lst vs.reverse):=Ze;have hP3:=(hP.keep fr2.tups).rev;generalize upd H2 r (.lst vs.reverse)=H3 at*;walk_at "rds";exact q r H3 vs.reverse acc.reverse hr0 s3 hr3 hP3 (by have:=hpath [] (.root hm);simpa using this) (by rw[List.length_reverse];omega)
  |some t3=>
   obtain⟨p,b,al⟩:=t3;obtain⟨t,rfl,ht⟩:=hst;have ht2:=s2 _ _ ht;have hvz:vs.length<sizeLine:=Zq (by omega);obtain⟨_,j,sj,hj,hjt⟩:=hg.steps m u p b al hm;obtain⟨vj,hvj,hsj⟩:=ZdC hen hg.nodup hjt;walk_at "rds";refine⟨rfl,true,rfl,?_⟩;refine ZeV (ZeH ?_);walk_at "rds";refine⟨by show 2≤sizeLine;decide,fun u1 hu1=>?_⟩;have s3:Zd H2 (upd H2 u1 (.tup [V.int b,V.bl al])):=Zk hu1;have v1:(upd H2 u1 (.tup [V.int b,V.bl al])) u1=some (.tup [V.int b,V.bl al]):=Ze;generalize upd H2 u1 (.tup [V.int b,V.bl al])=H3 at*;have hr3:=s3 _ _ hr2;have ht3:=s3 _ _ ht2;walk_at "rds";have fr4:ZW [r] H3 (upd H3 r (.lst (vs++ [V.ref u1]))):=Wb (by simp) hr3 (by intro _ z;cases z);have s4:Zd H (upd H3 r (.lst (vs++ [V.ref u1]))):=(s2.trans s3).new hr0;have hr4:(upd H3 r (.lst (vs++ [V.ref u1]))) r=some (.lst (vs++ [V.ref u1])):=Ze;have hP4:=((hP.keep fun b xs e=>s3 _ _ e).keep fr4.tups).snoc (x:=(b,al)) (fr4.tups _ _ v1);have ht4:=fr4.tups _ _ ht3;generalize upd H3 r (.lst (vs++ [V.ref u1]))=H4 at*;walk_at "rds";refine Rd.ZjD (ZaK hd s4) hvj ?_;walk_at "rds";refine⟨j,hj,s4,p,sj,vj,vs++ [.ref u1],acc++ [(b,al)],rfl,hsj,hjt,hr4,hP4,fun ps h=>?_,by rw[List.length_append];show j+(acc.length+1)<tr.length;omega⟩;have:=hpath _ (.step hm h);rw[List.reverse_append];simpa using this
end
def Zaq{K:PySem.W.Frag}{mg:Str→Option Value}(T:Tp K mg):Sp:=fun vs H Q _=>∃(a b:Addr)(xs ys:List V)(ps qs:List (Int×Bool)),vs=[.ref a,.ref b]∧H a=some (.lst xs)∧H b=some (.lst ys)∧ZZ H xs ps∧ZZ H ys qs∧
 ∀k:Nat,k≤ps.length→k≤qs.length→ps.take k=qs.take k→(k=ps.length∨k=qs.length∨ps[k]? ≠qs[k]?)→Q (.int k) H
section
variable {P:Program}{w:World}{K:PySem.W.Frag}{mg:Str→Option Value}{base:Heap}
theorem Zc8(T:Tp K mg):Zl P w K mg base (CXX P w) 1 T.f_shared_steps T.d_shared_steps ["one","other"] (Zaq T):=by
 refine T.F_shared_steps.okX VG (fun vs H Q E h=>?_) (fun cdv A outer s H vs Q E hr h=>?_)
 ·obtain⟨a,b,xs,ys,ps,qs,rfl,_⟩:=h
  rfl
 ·have hu:=hr.units;obtain⟨a,b,xs,ys,ps,qs,rfl,ha,hb,hp1,hp2,q⟩:=h;have l1:=hp1.length;have l2:=hp2.length;have hA:=SqL.of (K:=K) ha;have hB:=SqL.of (K:=K) hb;refine⟨_,(Zf (Zx (i:=2) VG.nd rfl (Or.inl rfl) Zc)
     (Zf (Za3 PassesOwn.leaving (PW.pt (ZbK (Zz Zb5 (pv 2) (ZC (Zia rfl) (by rfl) T.n_min PyProof.Rows.boot_min (Za (ZC (YC (K:=K) rfl) (by rfl) T.n_len PySem.boot_len (Za (pv 0) Zb)) (Za (ZC (YC (K:=K) rfl) (by rfl) T.n_len PySem.boot_len (Za (pv 1) Zb)) Zb))) (ZG _)) (ZaJ (Zz (Wd (K:=K) rfl hu) (Zp (Zu (K:=K) rfl) (pv 0) (pv 2) (fun _ _=>rfl)) (Zp (Zu (K:=K) rfl) (pv 1) (pv 2) (fun _ _=>rfl)) (ZG _))))) (Zg (Zh0 (i:=2) VG.nd rfl (Or.inl rfl) Zc ZhQ)))
     (Zg (Zt (pv 2))))),?_⟩
  try dsimp only[L2.cxX,L2.ZJ,L2.Zm]
  walk_at "rds";refine Zc6 (fun m σ H'=>H'=H∧∃k:Nat,σ=[some (.ref a),some (.ref b),some (.int k)]∧m=ps.length-k∧k≤ps.length∧k≤qs.length∧ps.take k=qs.take k) ps.length ⟨rfl,0,rfl,rfl,Nat.zero_le _,Nat.zero_le _,rfl⟩ ?_;rintro m σ H' ⟨rfl,k,rfl,rfl,k1,k2,hk⟩;walk_at "rds";refine Rd.ifD (fun c=>?_) (fun c=>?_)
  ·have c1:k<ps.length∧k<qs.length:=by split at c<;>omega
   obtain⟨t1,e1,h1⟩:=Zcf hp1 (List.getElem?_eq_getElem c1.1);obtain⟨t2,e2,h2⟩:=Zcf hp2 (List.getElem?_eq_getElem c1.2);have at1:atI xs (k:Int)=some (.ref t1):=Yo e1;have at2:atI ys (k:Int)=some (.ref t2):=Yo e2;walk_at "rds";refine Rd.ZgO (Zfd h1) (Zfd h2) (Ze2 _ _) (Ze2 _ _) (ZhK _ _) ?_;rw[ZiP];walk_at "rds";refine Rd.ifD (fun c2=>ZeH ?_) (fun c2=>?_)
   ·refine⟨.int k,rfl,?_⟩;walk_at "rds";refine⟨ps.length-(k+1),by omega,rfl,k+1,rfl,rfl,by omega,by omega,?_⟩;rw[List.take_succ_eq_append_getElem c1.1,List.take_succ_eq_append_getElem c1.2,hk]
    congr 2
    exact Prod.ext c2.1 c2.2
   ·walk_at "rds";refine q k k1 k2 hk (.inr (.inr fun z=>c2 ?_));rw[List.getElem?_eq_getElem c1.1,List.getElem?_eq_getElem c1.2] at z;have z':=Option.some.inj z;exact⟨congrArg Prod.fst z',congrArg Prod.snd z'⟩
  ·walk_at "rds";exact q k k1 k2 hk (by split at c<;>omega)
end
theorem ZZ.drop{H:Hp}:∀{vs:List V}{l:List (Int×Bool)}(k:Nat),ZZ H vs l→ZZ H (vs.drop k) (l.drop k)
 |_,_,0,h=>h
 |_,_,_+1,.nil=> .nil
 |_,_,k+1,.cons _ r=>ZZ.drop k r
theorem ZZ.app{H:Hp}:∀{vs vs':List V}{l l':List (Int×Bool)},ZZ H vs l→ZZ H vs' l'→ZZ H (vs++vs') (l++l')
 |_,_,_,_,.nil,h=>h
 |_,_,_,_,.cons a r,h=> .cons a (ZZ.app r h)
theorem ZfU{H:Hp}{ws:List (Int×Bool)}:∀{is:List Nat}{ys:List V},Paired (fun i v=>∃t,v=V.ref t∧H t=some (.tup [.int (ws.getD i (0,false)).1,.bl (!(ws.getD i (0,false)).2)])) is ys→ZZ H ys (is.map fun i=>((ws.getD i (0,false)).1,!(ws.getD i (0,false)).2))
 |_,_,.nil=> .nil
 |_,_,.cons a r=> .cons a (ZfU r)
theorem ZdT(ws:List (Int×Bool)):((List.range ws.length).map fun i=>((ws.getD i (0,false)).1,!(ws.getD i (0,false)).2))=ws.map fun x=>(x.1,!x.2):=by
 refine List.ext_getElem (by simp) fun i h1 h2=>?_;have hi:i<ws.length:=by simpa using h2
 simp[List.getD,hi]
theorem ZfI{xs:List V}{k:Nat}(h:k≤xs.length):Y3 xs (some (k:Int)) none=xs.drop k:=by
 have e1:HT.sIx xs.length 0 (some (k:Int))=k:=by
  simp only[HT.sIx];rw[if_neg (by omega)];simp;omega
 have e2:HT.sIx xs.length xs.length none=xs.length:=by simp[HT.sIx]
 unfold Y3;rw[e1,e2,List.take_of_length_le (by rw[List.length_drop];exact Nat.le_refl _)]
theorem Paired.flip{α β:Type}{P:α→β→Prop}:∀{xs:List α}{ys:List β},Paired P xs ys→Paired (fun y x=>P x y) ys xs
 |_,_,.nil=> .nil
 |_,_,.cons a r=> .cons a (Paired.flip r)
def Zap{K:PySem.W.Frag}{mg:Str→Option Value}(T:Tp K mg):Sp:=fun vs H Q _=>∃(p f:Addr)(hl:HM)(fp ds:List Addr)(F:List (Int×Fo.ZF))(bi:Nat),vs=[.ref p,.ref f,.int bi]∧Zv T H p hl fp∧H f=some (.lst (ds.map V.ref))∧YQ H ds F∧Fo.Wn (ZT hl.belts) hl.names.length F hl.names.length∧hl.names.length≤60∧hl.belts.length≤1000∧ZE hl.belts hl.names.length∧bi<hl.belts.length∧
 ∀(r:Addr)(H':Hp)(vs':List V)(x:Int×Fo.ZF)(pg pt:List (Int×Bool))(k:Nat),Zd H H'→H' r=some (.lst vs')→x∈F→Z9 x.2 (hl.belts.getD bi dB).giver pg→Z9 x.2 (hl.belts.getD bi dB).taker pt→k≤pg.length→k≤pt.length→pg.take k=pt.take k→(k=pg.length∨k=pt.length∨pg[k]? ≠pt[k]?)→ZZ H' vs' (W1 bi pg pt k)→Q (.ref r) H'
section
variable {P:Program}{w:World}{K:PySem.W.Frag}{mg:Str→Option Value}{base:Heap}
theorem Zdm(T:Tp K mg):Zl P w K mg base (CXX P w) 6 T.f_ring_through T.d_ring_through ["hall","forest","belt"] (Zap T):=by
 have G_way_to:Zl P w K mg base (CXX P w) 5 T.f_way_to T.d_way_to ["tree","work"] (Zeb T):=(Ziy T).mono (by decide);have G_shared_steps:Zl P w K mg base (CXX P w) 5 T.f_shared_steps T.d_shared_steps ["one","other"] (Zaq T):=(Zc8 T).mono (by decide);have G_Hall_belt_at:Zl P w K mg base (CXX P w) 5 T.f_Hall_belt_at T.d_Hall_belt_at ["self","belt"] (YN T):=(Wm T).mono (by decide);have cl_Hall:=T.cl_Hall;have na_Hall:=T.na_Hall;refine T.F_ring_through.okX Yq (fun vs H Q E h=>?_) (fun cdv A outer s H vs Q E hr h=>?_)
 ·obtain⟨p,f,hl,fp,ds,F,bi,rfl,_⟩:=h
  rfl
 ·have hu:=hr.units;obtain⟨p,f,hl,fp,ds,F,bi,rfl,hh,hf,hTr,hwd,hn,hz,hbt,hbi,q⟩:=h;refine⟨_,(Zf (Zx (i:=3) Yq.nd rfl (Or.inr rfl) (ZV (pv 0) T.cl_Hall T.M_Hall_belt_at G_Hall_belt_at hr T.b_Hall_belt_at .nil Zi (Za (pv 2) Zb)))
     (Zf (Zx (i:=4) Yq.nd rfl (Or.inl rfl) (Zp (Zu (K:=K) rfl) (Wa rfl (Z2 (x:="grown") (zs:=["row"]) (ix:=[3]) (Zj YV) ["hall","forest","belt","row","tree","to_giver","to_taker","shared","back"] rfl rfl (by decide+kernel)) (Z0 (K:=K) rfl (pv 1)) (fun cl C s H fp=>⟨(Zr (i:=0) (show(["grown","row"]:List Str).Nodup by decide+kernel) rfl (Or.inl rfl)),(UV (Zz (Zit hu) (Zp (Zu (K:=K) rfl) (pv 1) Zc (fun _ _=>rfl)) (pv 0) (by with_unfolding_all rfl))),(pv 0)⟩)) Zc (fun _ _=>rfl)))
     (Zf (Zx (i:=5) Yq.nd rfl (Or.inl rfl) (Zn G_way_to hr rfl T.m_way_to T.F_way_to.kp T.b_way_to .nil Zi (Za (pv 4) (Za (Zp (Zu (K:=K) rfl) (pv 3) Zc (fun _ _=>rfl)) Zb))))
     (Zf (Zx (i:=6) Yq.nd rfl (Or.inl rfl) (Zn G_way_to hr rfl T.m_way_to T.F_way_to.kp T.b_way_to .nil Zi (Za (pv 4) (Za (Zp (Zu (K:=K) rfl) (pv 3) Zc (fun _ _=>rfl)) Zb))))
     (Zf (Zx (i:=7) Yq.nd rfl (Or.inl rfl) (Zn G_shared_steps hr rfl T.m_shared_steps T.F_shared_steps.kp T.b_shared_steps .nil Zi (Za (pv 5) (Za (pv 6) Zb))))
     (Zf (ZcP (j:=8) (xs:=["step"]) rfl (Z2 (x:="step") (zs:=[]) (ix:=[]) (Zj YV) ["hall","forest","belt","row","tree","to_giver","to_taker","shared","back"] rfl rfl (by decide+kernel)) (Zlh (K:=K) rfl rfl T.n_reversed (Za (WS (ZbQ (K:=K) rfl) (pv 6) (Vz (pv 7)) Vu) Zb)) (fun cl C s H fp=>⟨(Zr (i:=0) (show(["step"]:List Str).Nodup by decide+kernel) rfl (Or.inl rfl)),Z8,(Yu (Za (Zp (Zu (K:=K) rfl) (pv 0) Zc (fun _ _=>rfl)) (Za (ZfA (Zp (Zu (K:=K) rfl) (pv 0) Zc (fun _ _=>rfl))) Zb)))⟩) Yq.nd rfl (Or.inl rfl))
     (Zg (Zt (Zo (ZM (K:=K) rfl) (Zo (ZM (K:=K) rfl) (YH (Za (Yu (Za (pv 2) (Za WB Zb))) Zb)) (pv 8)) (WS (ZbQ (K:=K) rfl) (pv 5) (Vz (pv 7)) Vu)))))))))),?_⟩
  try dsimp only[L2.cxX,L2.ZJ,L2.Zm]
  have hdl:=hTr.length;have hFl:F.length≤hl.names.length:=by
   have h1:(F.map (·.1)).Nodup:=by
    rw[List.nodup_iff_pairwise_ne,List.pairwise_map];exact hwd.rise.imp fun h=>Int.ne_of_lt h
   have h2:∀w∈F.map (·.1),0≤w∧w<(hl.names.length:Int):=fun w hw=>by
    obtain⟨x,hx,rfl⟩:=List.mem_map.mp hw;exact(hwd.tree x hx).2.2
   have:=Fo.WT h1 h2;simpa using this
  walk_at "rds";refine⟨p,bi,hl,fp,rfl,hh,fun z=>absurd ⟨by omega,by omega⟩ z,fun _ _ t b hb ht=>?_⟩;have eb:hl.belts.getD bi dB=b:=by
   rw[Int.toNat_natCast] at hb;rw[List.getD,hb]
   rfl
  obtain⟨b1,b2,b3,b4⟩:=hbt.at hbi;rw[eb] at b1 b2 b3 b4 q;have ht':H t=some (.tup [.int b.giver,.int b.taker,.int b.give,.int b.take,.int b.start]):=ht;walk_at "rds";refine Yn (ZU (SqL.of hf)) (Zq (by rw[List.length_map];omega)) (fun i=>decide (b.giver∈Fo.keys (F.getD i (0,[])).2)) (fun i=>(ds.map V.ref).getD i .non) (fun i H' Kc hi sm k=>?_) (fun i H' Kc hi _ sm k=>?_) (fun g H4 hg s4 hg4=>?_)
  ·have hil:i<ds.length:=by simpa using hi
   obtain⟨x,hx,kvs,hrd,hen⟩:=Paired.get' hTr (List.getElem?_eq_getElem hil);have e1:(ds.map V.ref).getD i .non= .ref ds[i]:=by simp[List.getD,hil]
   rw[e1];have e2:F.getD i (0,[])=x:=by rw[List.getD,hx];rfl
   rw[e2] at k;have ht2:=sm _ _ ht';have e3:(valV kvs (Sum.inl b.giver)).isSome=decide (b.giver∈Fo.keys x.2):=by
    rw[Bool.eq_iff_iff,hen.some,decide_eq_true_iff]
   walk_at "rds";refine Rd.ZmJ (ZaK hrd sm) ?_;rw[e3];walk_at "rds";exact k _ (Zd.refl _)
  ·walk_at "rds";exact k _ (Zd.refl _)
  ·obtain⟨x0,hx0,hk0⟩:=hwd.all b.giver b1 b2;obtain⟨j0,hj0⟩:=List.getElem?_of_mem hx0;obtain⟨j,x,hj,hjk,hat⟩:∃(j:Nat)(x:Int×Fo.ZF),F[j]? =some x∧b.giver∈Fo.keys x.2∧atI (((List.range (ds.map V.ref).length).filter fun i=>decide (b.giver∈Fo.keys (F.getD i (0,[])).2)).map fun i=>(ds.map V.ref).getD i .non) 0=some ((ds.map V.ref).getD j .non):=by
    have hj0l:=(List.getElem?_eq_some_iff.mp hj0).1;have hm:j0∈(List.range (ds.map V.ref).length).filter fun i=>decide (b.giver∈Fo.keys (F.getD i (0,[])).2):=by
     rw[List.mem_filter,List.mem_range,List.length_map];exact⟨by omega,by rw[List.getD,hj0];simpa using hk0⟩
    cases hL:(List.range (ds.map V.ref).length).filter fun i=>decide (b.giver∈Fo.keys (F.getD i (0,[])).2) with
    |nil=>rw[hL] at hm;cases hm
    |cons j rest=>
     have hjm:j∈(List.range (ds.map V.ref).length).filter fun i=>decide (b.giver∈Fo.keys (F.getD i (0,[])).2):=by rw[hL];exact List.mem_cons_self
     rw[List.mem_filter,List.mem_range,List.length_map] at hjm;have hjl:j<F.length:=by omega
     have hk:=of_decide_eq_true hjm.2;rw[ZH hjl] at hk;exact⟨j,F[j],List.getElem?_eq_getElem hjl,hk,Yo (j:=0) rfl⟩
   have hjl:j<ds.length:=by have:=(List.getElem?_eq_some_iff.mp hj).1;omega
   have hxF:=List.mem_of_getElem? hj;obtain⟨d,hd,kvs,hrd,hen⟩:=Paired.get' (P:=fun(x:Int×Fo.ZF) d=>∃kvs,L2.Rd H d (.dK kvs)∧Ent H kvs x.2) (Paired.flip hTr) hj;have ed:(ds.map V.ref).getD j .non= .ref d:=by simp[List.getD,hd]
   rw[ed] at hat;refine Rd.ZlS (SqL.of hg4) hat ?_;have ht4:=s4 _ _ ht';obtain⟨hgr,hgo,x0,x1⟩:=hwd.tree x hxF;have hxl:x.2.length≤60:=by
    have:=Fo.WT hgr.nodup (hgr.rg ⟨x0,x1⟩ (W5 hbt));simp[Fo.keys] at this;omega
   have htk:b.taker∈Fo.keys x.2:=by
    obtain⟨i,st,hi⟩:=Fo.V8 hjk;have hil:=(List.getElem?_eq_some_iff.mp hi).1;have hw:(b.taker,(bi:Int),true)∈ZT hl.belts b.giver:=Vr hbi (Ye.mpr (.inl ⟨by rw[eb],by rw[eb]⟩));exact hgo i _ st hil hi _ hw
   walk_at "rds";refine⟨d,kvs,x.2,ZT hl.belts,x.1,b.giver,rfl,ZaK hrd s4,hen.keep fun c xs e=>s4 _ _ e,hgr,hxl,hjk,?_⟩;intro ra H5 va pg hra s5 hra5 hPa hpath hpal;have s45:=s4.trans s5;have ht5:=s45 _ _ ht';walk_at "rds";refine⟨d,kvs,x.2,ZT hl.belts,x.1,b.taker,rfl,ZaK hrd s45,hen.keep fun c xs e=>s45 _ _ e,hgr,hxl,htk,?_⟩;intro rb H6 vb pt hrb s6 hrb6 hPb hpatb hpbl;have s46:=s45.trans s6;have hra6:=s6 _ _ hra5;have hPa6:=hPa.keep fun c xs e=>s6 _ _ e;walk_at "rds";refine⟨ra,rb,va,vb,pg,pt,rfl,hra6,hrb6,hPa6,hPb,?_⟩;intro k k1 k2 hk hk3;have hqa:=SqL.of (K:=K) hra6;have hqb:=SqL.of (K:=K) hrb6;have lb:=hPb.length;have la:=hPa.length;walk_at "rds";refine Rd.Znh ?_;walk_at "rds";refine Rd.slL hqb ?_;intro rc hrc;rw[ZfI (by omega)];have s7:Zd H6 (upd H6 rc (.lst (vb.drop k))):=Zk hrc;have v7:(upd H6 rc (.lst (vb.drop k))) rc=some (.lst (vb.drop k)):=Ze;generalize upd H6 rc (.lst (vb.drop k))=H7 at*;have hPr:=((hPb.keep fun c xs e=>s7 _ _ e).drop k).rev;have hrl:(vb.drop k).length=((pt.drop k).reverse).length:=by simp[lb]
   have s47:=s46.trans s7;walk_at "rds";refine⟨rc,vb.drop k,rfl,SqL.of v7,?_⟩;refine Yc (own:=1) (ZiK (SqL.of v7)).y (Zq (by rw[List.length_drop];omega)) (fun i=>[some ((vb.drop k).reverse.getD i .non)]) (fun _=>rfl) (fun _=>true) (fun i v H=>∃t,v=V.ref t∧H t=some (.tup [.int ((pt.drop k).reverse.getD i (0,false)).1,.bl (!((pt.drop k).reverse.getD i (0,false)).2)])) (fun _ _ _ _ e ⟨t,z1,z2⟩=>⟨t,z1,e _ _ z2⟩) (fun i a' H' v H2 Kg hi sm y ha' k=>?_) (fun i H' Kc hi sm k=>?_) (fun pp i H' Kc hi hc hp0 hp1 sm kk=>?_) (fun re H8 ys hr' sm hl' hR=>?_)
   ·obtain⟨rfl,rfl⟩:=y;obtain⟨x1,rfl⟩:∃x1,a'=[x1]:=by
     match a',ha' with
     | [x1],_=>exact⟨x1,rfl⟩
    walk_at "rds";exact k _ (Zd.refl _)
   ·walk_at "rds";exact k H' (Zd.refl H')
   ·have hi':i<((pt.drop k).reverse).length:=by omega
    obtain⟨u,hu1,hu2⟩:=Zcf hPr (List.getElem?_eq_getElem hi');have e1:(vb.drop k).reverse.getD i .non= .ref u:=by rw[List.getD,hu1];rfl
    rw[e1];rw[ZH hi'] at kk;have hu3:=sm _ _ hu2;generalize ((pt.drop k).reverse)[i]=y at*;walk_at "rds";refine⟨by show 2≤sizeLine;decide,fun u' hu'=>?_⟩;exact kk _ _ (Zk hu') ⟨u',rfl,Zb9 hp1 hu'⟩
   ·have hR':=ZfU hR;rw[List.filter_eq_self.mpr (by simp),hrl,ZdT] at hR';have hP8:=hR'.keep (H':=H8) fun c xs e=>Yk _ _ e;have yl:=hP8.length;have s68:=s7.trans sm;have hqa8:=s68.seq hqa;have hPa8:=hPa6.keep fun c xs e=>s68 _ _ e;have s48:=s46.trans s68;walk_at "rds";refine⟨by show 2≤sizeLine;decide,fun u1 hu1=>?_⟩;have s9:Zd H8 (upd H8 u1 (.tup [V.int bi,V.bl true])):=Zk hu1;have v9:(upd H8 u1 (.tup [V.int bi,V.bl true])) u1=some (.tup [V.int bi,V.bl true]):=Ze;generalize upd H8 u1 (.tup [V.int bi,V.bl true])=H9 at*;walk_at "rds";intro u2 hu2;have s10:Zd H9 (upd H9 u2 (.lst [V.ref u1])):=Zk hu2;have v10:(upd H9 u2 (.lst [V.ref u1])) u2=some (.lst [V.ref u1]):=Ze;generalize upd H9 u2 (.lst [V.ref u1])=H10 at*;have hl10:=s10 _ _ (s9 _ _ hl');have yl2:ys.length≤60:=by rw[yl,List.length_map,List.length_reverse,List.length_drop];omega
    walk_at "rds";refine Rd.Ux v10 hl10 (Nat.le_of_lt (Zq (by simp;omega))) ?_;intro u3 hu3;have s11:Zd H10 (upd H10 u3 (.lst ([V.ref u1]++ys))):=Zk hu3;have v11:(upd H10 u3 (.lst ([V.ref u1]++ys))) u3=some (.lst ([V.ref u1]++ys)):=Ze;generalize upd H10 u3 (.lst ([V.ref u1]++ys))=H11 at*;have s811:=(s9.trans s10).trans s11;have hqa11:=s811.seq hqa8;walk_at "rds";refine Rd.slL hqa11 ?_;intro u4 hu4;rw[ZfI (by omega)];have s12:Zd H11 (upd H11 u4 (.lst (va.drop k))):=Zk hu4;have v12:(upd H11 u4 (.lst (va.drop k))) u4=some (.lst (va.drop k)):=Ze;generalize upd H11 u4 (.lst (va.drop k))=H12 at*;have v11':=s12 _ _ v11;walk_at "rds";refine Rd.Ux v11' v12 (Nat.le_of_lt (Zq (by simp;omega))) ?_;intro u5 hu5;have s13:Zd H12 (upd H12 u5 (.lst ([V.ref u1]++ys++va.drop k))):=Zk hu5;have v13:(upd H12 u5 (.lst ([V.ref u1]++ys++va.drop k))) u5=some (.lst ([V.ref u1]++ys++va.drop k)):=Ze;generalize upd H12 u5 (.lst ([V.ref u1]++ys++va.drop k))=H13 at*;have s813:=(s811.trans s12).trans s13;have s913:=((s10.trans s11).trans s12).trans s13;walk_at "rds";refine q u5 H13 _ x pg pt k (s48.trans s813) v13 hxF hpath hpatb k1 k2 hk hk3 ?_;exact ZZ.app (ZZ.app (.cons ⟨u1,rfl,s913 _ _ v9⟩ .nil) (hP8.keep fun c xs e=>s813 _ _ e)) ((hPa8.keep fun c xs e=>s813 _ _ e).drop k)
end
def Zcr{K:PySem.W.Frag}{mg:Str→Option Value}(T:Tp K mg):Sp:=fun vs H Q _=>∃(p:Addr)(hl:HM)(fp:List Addr),vs=[.ref p]∧Zv T H p hl fp∧hl.names.length≤60∧hl.belts.length≤1000∧ZE hl.belts hl.names.length∧YZ hl.belts∧
 (∀(t r:Addr)(H':Hp)(rs:List Int)(F:List (Int×Fo.ZF)),Zd H H'→H r=none→H' t=some (.tup [.ref r,.non])→H' r=some (.lst (rs.map V.int))→rs.length=hl.names.length→Fo.Wn (ZT hl.belts) hl.names.length F hl.names.length→(∀x∈F,Za2 hl.belts x rs)→(∀j<hl.belts.length,Wy rs (hl.belts.getD j dB)=0)→Q (.ref t) H')∧
 (∀(t r:Addr)(H':Hp)(vs':List V)(ring:List (Int×Bool)),Zd H H'→H' t=some (.tup [.non,.ref r])→H' r=some (.lst vs')→ZZ H' vs' ring→Zdq hl.belts ring→Q (.ref t) H')
section
variable {P:Program}{w:World}{K:PySem.W.Frag}{mg:Str→Option Value}{base:Heap}
theorem Zgl(T:Tp K mg):Zl P w K mg base (CXX P w) 8 T.f_rates_of T.d_rates_of ["hall"] (Zcr T):=by
 have G_forest_of:Zl P w K mg base (CXX P w) 7 T.f_forest_of T.d_forest_of ["hall"] (U3 T):=(Zbq T).mono (by decide);have G_rates_by:Zl P w K mg base (CXX P w) 7 T.f_rates_by T.d_rates_by ["hall","forest"] (ZcE T):=(Zf1 T).mono (by decide);have G_change_of:Zl P w K mg base (CXX P w) 7 T.f_change_of T.d_change_of ["hall","counts"] (Zbv T):=(ZeS T).mono (by decide);have G_ring_through:Zl P w K mg base (CXX P w) 7 T.f_ring_through T.d_ring_through ["hall","forest","belt"] (Zap T):=(Zdm T).mono (by decide);refine T.F_rates_of.okX Vh (fun vs H Q E h=>?_) (fun cdv A outer s H vs Q E hr h=>?_)
 ·obtain⟨p,hl,fp,rfl,_⟩:=h
  rfl
 ·have hu:=hr.units;obtain⟨p,hl,fp,rfl,hh,hn,hz,hbt,hsz,q,q2⟩:=h;refine⟨_,(Zf (Zx (i:=1) Vh.nd rfl (Or.inl rfl) (Zn G_forest_of hr rfl T.m_forest_of T.F_forest_of.kp T.b_forest_of .nil Zi (Za (pv 0) Zb)))
     (Zf (Zx (i:=2) Vh.nd rfl (Or.inl rfl) (Zn G_rates_by hr rfl T.m_rates_by T.F_rates_by.kp T.b_rates_by .nil Zi (Za (pv 0) (Za (pv 1) Zb))))
     (Zf (Yf PassesOwn.leaving rfl (ZaA (K:=K) rfl rfl T.n_enumerate (Za (Zn G_change_of hr rfl T.m_change_of T.F_change_of.kp T.b_change_of .nil Zi (Za (pv 0) (Za (pv 2) Zb))) Zb)) (Y6 (K:=K) (n:=2) rfl rfl (ZP (Zr (i:=3) Vh.nd rfl (Or.inl rfl)) (ZP (Zr (i:=4) Vh.nd rfl (Or.inl rfl)) Y8))) (Zg (ZX (Zz (Yr (K:=K) rfl hu) (pv 4) Zc (ZG _)) (Zg (Zt (Yu (Za Zbi (Za (Zn G_ring_through hr rfl T.m_ring_through T.F_ring_through.kp T.b_ring_through .nil Zi (Za (pv 0) (Za (pv 1) (Za (pv 3) Zb)))) Zb))))) ZI)))
     (Zg (Zt (Yu (Za (pv 2) (Za Zbi Zb)))))))),?_⟩
  try dsimp only[L2.cxX,L2.ZJ,L2.Zm]
  walk_at "rds";refine⟨p,hl,fp,rfl,hh,hn,hz,hbt,fun f ds H1 F hf0 s1 hF hnew hwd hFl=>?_⟩;have hh1:=hh.same s1;have hdf:∀d∈ds,d∉fp:=fun d hd y=>hh.dom d y (hnew d hd);have hdn:∀d∈ds,d≠f:=fun d hd y=>by
   obtain⟨i,hi,e⟩:=List.getElem_of_mem hd;obtain⟨x,_,kvs,a,_⟩:=Paired.get' hF.trees (List.getElem?_eq_getElem hi);rw[e,y,hF.at_] at a;cases a
  walk_at "rds";refine⟨p,f,hl,fp,ds,F,rfl,hh1,hF.at_,hF.trees.r,hdf,hdn,hwd,hbt,hn,hsz,fun r H2 rs hr0 fr2 hT2 hr2 hrl hset=>?_⟩;have s2:Zd H H2:=fun b o e=>fr2.keep _ _ (s1 _ _ e) (fun y=>by have:=hnew b y;rw[e] at this;cases this);have hf2:=fr2.keep _ _ hF.at_ (fun y=>hdn f y rfl);have hh2:=hh.same s2;have hr00:H r=none:=ZY s1 hr0;have hrt:=Ze5 hbt hn hwd hrl hset;walk_at "rds";refine⟨p,r,hl,fp,rs,rfl,hh2,hz,.of hr2,by rw[hrl];exact hbt,hsz,fun c hc=>(by obtain⟨k,a,_,b⟩:=hrt.pos c hc;exact⟨k,a,b⟩),fun c H3 hc0 s3 hc3=>?_⟩;have hr3:=s3 _ _ hr2;have hf3:=s3 _ _ hf2;have hT3:=hT2.same s3;have s23:=s2.trans s3;walk_at "rds";refine Vy (VF (SqL.of hc3)) (fun i σ H'=>Zd H3 H'∧(∀j<i,Wy rs (hl.belts.getD j dB)=0)∧∃a1 a2,σ=[some (.ref p),some (.ref f),some (.ref r),a1,a2]) ⟨Zd.refl H3,fun j hj=>absurd hj (Nat.not_lt_zero _),_,_,rfl⟩ (fun i σ H' h=>h.1) ?_ ?_
  ·rintro i σ H4 v H5 hi ⟨s4,hch,a1,a2,rfl⟩ ⟨t,ht,rfl,rfl⟩;have hil:i<hl.belts.length:=by simpa using hi
   have ei:((hl.belts.map (Wy rs)).map V.int).getD i .non= .int (Wy rs (hl.belts.getD i dB)):=by
    rw[ZH hil];simp[List.getD,hil]
   rw[ei];refine Rd.Uz (.of Ze) rfl ?_;have s5:Zd H4 (upd H4 t (.tup [V.int i,V.int (Wy rs (hl.belts.getD i dB))])):=Zk ht;generalize upd H4 t (.tup [V.int i,V.int (Wy rs (hl.belts.getD i dB))])=H5 at*;walk_at "rds";refine Zbs (fun c=>?_) (fun c=>?_)
   ·have s35:=s4.trans s5;walk_at "rds";refine⟨p,f,hl,fp,ds,F,i,rfl,hh.same (s23.trans s35),s35 _ _ hf3,hT3.same s35,hwd,hn,hz,hbt,hil,?_⟩;intro r' H6 vs' x pg pt k s6 hr6 hx hp hq k1 k2 hk hk3 hP;walk_at "rds";refine⟨by show 2≤sizeLine;decide,fun t' ht'=>?_⟩;exact q2 t' r' _ vs' _ (((s23.trans s35).trans s6).trans (Zk ht')) Ze (Zk ht' _ _ hr6) (hP.keep fun b xs e=>Zk ht' _ _ e) (Zj0 hbt hsz hwd hset hil (by simpa using c) hx hp hq hk hk3)
   ·walk_at "rds";refine⟨s4.trans s5,fun j hj=>?_,_,_,rfl⟩;rcases Nat.lt_succ_iff_lt_or_eq.mp hj with z|z
    ·exact hch j z
    ·rw[z];simpa using c
  ·rintro σ H4 ⟨s4,hch,a1,a2,rfl⟩;have hr4:=s4 _ _ hr3;walk_at "rds";refine⟨by show 2≤sizeLine;decide,fun t ht=>?_⟩;exact q t r _ rs F ((s23.trans s4).trans (Zk ht)) hr00 Ze (Zk ht _ _ hr4) hrl hwd hset (fun j hj=>hch j (by simpa using hj))
end
noncomputable def Zbb (b:B5) (s:Int):B5:=⟨b.giver,b.taker,b.give,b.take,s⟩
theorem ZS.set{H:Hp}:∀{bs:List V}{ls:List B5}{t:Addr}{b:B5}(i:Nat),ZS H bs ls→H t=some (.tup b.v)→ZS H (bs.set i (.ref t)) (ls.set i b)
 |_,_,_,_,_,.nil,_=> .nil
 |_,_,_,_,0,.cons _ r,h=> .cons ⟨_,rfl,h⟩ r
 |_,_,_,_,i+1,.cons x r,h=> .cons x (ZS.set i r h)
def ZbP{K:PySem.W.Frag}{mg:Str→Option Value}(T:Tp K mg):Sp:=fun vs H Q E=>∃(p:Addr)(i s:Int)(hl:HM)(fp:List Addr),vs=[.ref p,.int i,.int s]∧Zv T H p hl fp∧
 (¬(0≤i∧i<hl.belts.length)→E (.ref T.X_NoBelt) none H)∧((0≤i∧i<hl.belts.length)→¬0≤s→E (.ref T.X_NoRate) none H)∧
 ((0≤i∧i<hl.belts.length)→0≤s→∀(b:B5)(H':Hp)(fp':List Addr),hl.belts[i.toNat]? =some b→Zv T H' p ⟨hl.names,hl.belts.set i.toNat (Zbb b s)⟩ fp'→ZW fp H H'→Wz fp fp' H→Q (.bl (!decide (b.start=s))) H')
section
variable {P:Program}{w:World}{K:PySem.W.Frag}{mg:Str→Option Value}{base:Heap}
theorem Zfa(T:Tp K mg):Zl P w K mg base (CXX P w) 5 T.f_Hall_fill T.d_Hall_fill ["self","belt","start"] (ZbP T):=by
 have G_need_start:Zl P w K mg base (CXX P w) 4 T.f_need_start T.d_need_start ["start"] (UA T):=(Zbh T).mono (by decide);have G_Hall_need_belt:Zl P w K mg base (CXX P w) 4 T.f_Hall_need_belt T.d_Hall_need_belt ["self","belt"] (Vc T):=(UB T).mono (by decide);have cl_Hall:=T.cl_Hall;have na_Hall:=T.na_Hall;refine T.F_Hall_fill.okX Zbz (fun vs H Q E h=>?_) (fun cdv A outer s H vs Q E hr h=>?_)
 ·obtain⟨p,i,s,hl,fp,rfl,_⟩:=h
  rfl
 ·have hu:=hr.units;obtain⟨p,i,st,hl,fp,rfl,hh,e1,e2,q⟩:=h;obtain⟨dx,a,bb,bs,rfl,h1,h2,h3,h4,nab,h6⟩:=id hh;have npb:p≠bb:=Yd h1 h4 (by intro z;cases z);have ndb:dx≠bb:=Yd h2 h4 (by intro z;cases z);have hlb:=h6.length;refine⟨_,(Zf (ZL (ZV (pv 0) T.cl_Hall T.M_Hall_need_belt G_Hall_need_belt hr T.b_Hall_need_belt .nil Zi (Za (pv 1) Zb)))
     (Zf (ZL (Zn G_need_start hr rfl T.m_need_start T.F_need_start.kp T.b_need_start .nil Zi (Za (pv 2) Zb)))
     (Zf (Zx (i:=3) Zbz.nd rfl (Or.inl rfl) (Zp (Zu (K:=K) rfl) (Ya (K:=K) rfl (pv 0) rfl) (pv 1) (fun _ _=>rfl)))
     (Zf (ZaR (Zo (ZM (K:=K) rfl) (WS (ZbQ (K:=K) rfl) (pv 3) Vu (Vz Zc)) (Yu (Za (pv 2) Zb))) (ZaG (Ya (K:=K) rfl (pv 0) rfl) (pv 1) Zfz))
     (Zg (Zt (W7 (Yr (K:=K) rfl hu) (Zp (Zu (K:=K) rfl) (pv 3) Zc (fun _ _=>rfl)) (pv 2) (ZG _)))))))),?_⟩
  try dsimp only[L2.cxX,L2.ZJ,L2.Zm]
  walk_at "rds";refine⟨p,i,hl,_,rfl,hh,e1,fun i0 i1=>?_⟩;walk_at "rds";refine⟨st,rfl,fun z=>e2 ⟨i0,i1⟩ z,fun s0=>?_⟩;have hi:i.toNat<hl.belts.length:=by omega
  have ei:=List.getElem?_eq_getElem hi;obtain⟨t,ht1,ht2⟩:=h6.at ei;have at1:atI bs i=some (.ref t):=by
   have:=Yo ht1
   rwa [Int.toNat_of_nonneg i0] at this
  generalize hl.belts[i.toNat]=b at*;dsimp only[B5.v] at ht2;walk_at "rds";refine Rd.slT (.of ht2) (by show ¬(HT.sIx 5 0 none=0∧HT.sIx 5 5 (some 4)=5);decide) (fun u hu'=>?_);have su:Zd H (upd H u (.tup (Y3 [V.int b.giver,V.int b.taker,V.int b.give,V.int b.take,V.int b.start] none (some 4)))):=Zk hu';have hu1:(upd H u (.tup (Y3 [V.int b.giver,V.int b.taker,V.int b.give,V.int b.take,V.int b.start] none (some 4)))) u=some (.tup [V.int b.giver,V.int b.taker,V.int b.give,V.int b.take]):=Ze;generalize upd H u (.tup (Y3 [V.int b.giver,V.int b.taker,V.int b.give,V.int b.take,V.int b.start] none (some 4)))=H1 at*;walk_at "rds";refine(fun u2 hu2=>?_);have su2:Zd H1 (upd H1 u2 (.tup [V.int st])):=Zk hu2;have hv2:(upd H1 u2 (.tup [V.int st])) u2=some (.tup [V.int st]):=Ze;generalize upd H1 u2 (.tup [V.int st])=H2 at*;refine Rd.ZkX (.of (su2 _ _ hu1)) (.of hv2) (by simp) (by simp) (by show 5≤sizeLine;decide) (fun u3 hu3=>?_);have su3:Zd H2 (upd H2 u3 (.tup ([V.int b.giver,V.int b.taker,V.int b.give,V.int b.take]++ [V.int st]))):=Zk hu3;have hv3:(upd H2 u3 (.tup ([V.int b.giver,V.int b.taker,V.int b.give,V.int b.take]++ [V.int st]))) u3=some (.tup (Zbb b st).v):=Ze;generalize upd H2 u3 (.tup ([V.int b.giver,V.int b.taker,V.int b.give,V.int b.take]++ [V.int st]))=H3 at*;have s3:Zd H H3:=(su.trans su2).trans su3;have g1:=s3 _ _ h1;have g4:=s3 _ _ h4;have il:i<(bs.length:Int):=by omega
  walk_at "rds";have nt:t≠bb:=Yd ht2 h4 (by intro z;cases z);have ht4:(upd H3 bb (.lst (bs.set i.toNat (.ref u3)))) t=some (.tup [V.int b.giver,V.int b.taker,V.int b.give,V.int b.take,V.int b.start]):=by rw[Zh nt];exact s3 _ _ ht2
  walk_at "rds";have fr:ZW [p,dx,a,bb] H (upd H3 bb (.lst (bs.set i.toNat (.ref u3)))):=s3.frame.trans (Wb (by simp) g4 (by intro _ z;cases z));refine q ⟨i0,i1⟩ s0 b _ [p,dx,a,bb] ei ⟨dx,a,bb,_,rfl,?_,?_,?_,Ze,nab,(h6.keep fr.tups).set i.toNat ?_⟩ fr Wz.refl
  ·rw[Zh npb];exact g1
  ·rw[Zh ndb];exact s3 _ _ h2
  ·rw[Zh nab];exact s3 _ _ h3
  ·have nu:u3≠bb:=Yd hv3 g4 (by intro z;cases z);rw[Zh nu];exact hv3
end
section
variable {P:Program}{w:World}{K:PySem.W.Frag}{mg:Str→Option Value}{base:Heap}
theorem ZlN(T:Tp K mg):Zl P w K mg base (CXX P w) 10 T.f_law T.d_law ["_law_script"] (ZkJ T):=by
 have G_l_lines:Zl P w K mg base (CXX P w) 9 T.f_l_lines T.d_l_lines ["_law_script","_law_many"] (Zc9 T):=(Zhq T).mono (by decide);have G_l_made:Zl P w K mg base (CXX P w) 9 T.f_l_made T.d_l_made ["_law_many","_law_lines_here"] (Zec T):=(ZhT T).mono (by decide);have G_backed:Zl P w K mg base (CXX P w) 9 T.f_backed T.d_backed ["hall","rooms"] (Zbx T):=(Zed T).mono (by decide);have G_l_with_back:Zl P w K mg base (CXX P w) 9 T.f_l_with_back T.d_l_with_back ["_law_lines_here","_law_rooms"] (ZaQ T):=(ZdK T).mono (by decide);have G_l_mix:Zl P w K mg base (CXX P w) 9 T.f_l_mix T.d_l_mix ["_law_cell_here","_law_way"] (V4 T):=(ZcH T).mono (by decide);have G_l_cell:Zl P w K mg base (CXX P w) 9 T.f_l_cell T.d_l_cell ["_law_script","_law_k"] (Vx T):=(Zb2 T).mono (by decide);have G_l_refused:Zl P w K mg base (CXX P w) 9 T.f_l_refused T.d_l_refused ["_law_hall","_law_rooms"] (ZbG T):=(ZfB T).mono (by decide);have G_l_hall_like:Zl P w K mg base (CXX P w) 9 T.f_l_hall_like T.d_l_hall_like ["_law_made_here","_law_due","_law_many"] (ZaN T):=(ZdE T).mono (by decide);have G_pieces_of:Zl P w K mg base (CXX P w) 9 T.f_pieces_of T.d_pieces_of ["hall"] (UZ T):=(Zbu T).mono (by decide);have G_l_pieces:Zl P w K mg base (CXX P w) 9 T.f_l_pieces T.d_l_pieces ["_law_many","_law_lines_here"] (Zav T):=(ZcD T).mono (by decide);have G_l_spoilt:Zl P w K mg base (CXX P w) 9 T.f_l_spoilt T.d_l_spoilt ["_law_script","_law_lines_here","_law_rooms"] (Zcv T):=(ZfZ T).mono (by decide);have G_rates_of:Zl P w K mg base (CXX P w) 9 T.f_rates_of T.d_rates_of ["hall"] (Zcr T):=(Zgl T).mono (by decide);have G_Hall_names:Zl P w K mg base (CXX P w) 9 T.f_Hall_names T.d_Hall_names ["self"] (Y9 T):=(WI T).mono (by decide);have G_Hall_work:Zl P w K mg base (CXX P w) 9 T.f_Hall_work T.d_Hall_work ["self","name"] (WZ T):=(UX T).mono (by decide);have G_Hall_fill:Zl P w K mg base (CXX P w) 9 T.f_Hall_fill T.d_Hall_fill ["self","belt","start"] (ZbP T):=(Zfa T).mono (by decide);have G_Hall_belts:Zl P w K mg base (CXX P w) 9 T.f_Hall_belts T.d_Hall_belts ["self"] (Yi T):=(Y5 T).mono (by decide);have G_Hall_init:Zl P w K mg base (CXX P w) 8 T.f_Hall_init T.d_Hall_init ["self"] (WU T):=(U5 T).mono (by decide);have cl_Hall:=T.cl_Hall;have na_Hall:=T.na_Hall;refine T.F_law.okX YW (fun vs H Q E h=>?_) (fun cdv A outer s H vs Q E hr h=>?_)
 ·obtain⟨a,ns,rfl,_⟩:=h
  rfl
 ·have hu:=hr.units;obtain⟨p,ns,rfl,hS,hlen,k⟩:=h;refine⟨_,(Zf (Zx (i:=1) YW.nd rfl (Or.inl rfl) (Zo (ZM (K:=K) rfl) Zc (Zo Z1 (Zn G_l_cell hr rfl T.m_l_cell T.F_l_cell.kp T.b_l_cell .nil Zi (Za (pv 0) (Za Zc Zb))) Zc)))
     (Zf (Zaz (ZX (Zz (Wd (K:=K) rfl hu) (Zo Z1 (Zn G_l_mix hr rfl T.m_l_mix T.F_l_mix.kp T.b_l_mix .nil Zi (Za (Zn G_l_cell hr rfl T.m_l_cell T.F_l_cell.kp T.b_l_cell .nil Zi (Za (pv 0) (Za Zc Zb))) (Za Zc Zb))) Zc) Zc (ZG _)) (Zg (Zx (i:=1) YW.nd rfl (Or.inl rfl) (Zo (ZM (K:=K) rfl) Zc (Zo Z1 (Zo Z4 (Zn G_l_mix hr rfl T.m_l_mix T.F_l_mix.kp T.b_l_mix .nil Zi (Za (Zn G_l_cell hr rfl T.m_l_cell T.F_l_cell.kp T.b_l_cell .nil Zi (Za (pv 0) (Za Zc Zb))) (Za Zc Zb))) Zc) Zc)))) ZI))
     (Zf (Zx (i:=2) YW.nd rfl (Or.inl rfl) (Zn G_l_lines hr rfl T.m_l_lines T.F_l_lines.kp T.b_l_lines .nil Zi (Za (pv 0) (Za (pv 1) Zb))))
     (Zf (Zx (i:=3) YW.nd rfl (Or.inl rfl) (Zn G_l_made hr rfl T.m_l_made T.F_l_made.kp T.b_l_made .nil Zi (Za (pv 1) (Za (pv 2) Zb))))
     (Zf (Zx (i:=4) YW.nd rfl (Or.inl rfl) (Z3 (pv 3) T.cl_Hall T.M_Hall_names G_Hall_names hr T.b_Hall_names .nil Zi))
     (Zf (Zx (i:=5) YW.nd rfl (Or.inl rfl) (YH Zb))
     (Zf (Yf PassesOwn.leaving rfl (ZaA (K:=K) rfl rfl T.n_enumerate (Za (pv 2) Zb)) (Y6 (K:=K) (n:=2) rfl rfl (ZP (Zr (i:=6) YW.nd rfl (Or.inl rfl)) (ZP (Zr (i:=7) YW.nd rfl (Or.inl rfl)) Y8))) (Zf (Zx (i:=8) YW.nd rfl (Or.inl rfl) (Zn G_l_mix hr rfl T.m_l_mix T.F_l_mix.kp T.b_l_mix .nil Zi (Za (Zn G_l_cell hr rfl T.m_l_cell T.F_l_cell.kp T.b_l_cell .nil Zi (Za (pv 0) (Za (Zo (ZM (K:=K) rfl) Zc (pv 6)) Zb))) (Za Zc Zb))))
     (Zg (ZL (WK (K:=K) rfl PySem.F.plainAttrs_list PySem.F.slot_list_append PySem.F.type_list_append Ym (pv 5) (Za (Zo (ZM (K:=K) rfl) (Zp (Zu (K:=K) rfl) (pv 7) Zc (fun _ _=>rfl)) (Zp (Zu (K:=K) rfl) (YH (Za Zc (Za (Zo Z1 (pv 8) Zc) (Za (Zo Z1 (Zn G_l_cell hr rfl T.m_l_cell T.F_l_cell.kp T.b_l_cell .nil Zi (Za (pv 0) (Za (Zo (ZM (K:=K) rfl) Zc (pv 6)) Zb))) (Zo Zfg Zc Zc)) Zb)))) (Zo Z1 (Zo Z4 (pv 8) Zc) Zc) (fun _ _=>rfl))) Zb))))))
     (Zf (ZX (Zz Zb5 (Zo Z1 (Zn G_l_mix hr rfl T.m_l_mix T.F_l_mix.kp T.b_l_mix .nil Zi (Za (Zn G_l_cell hr rfl T.m_l_cell T.F_l_cell.kp T.b_l_cell .nil Zi (Za (pv 0) (Za Zc Zb))) (Za Zc Zb))) Zc) Zc (ZG _)) (Zg (Zt (ZaE (Zn G_l_refused hr rfl T.m_l_refused T.F_l_refused.kp T.b_l_refused .nil Zi (Za (pv 3) (Za (Zn G_l_spoilt hr rfl T.m_l_spoilt T.F_l_spoilt.kp T.b_l_spoilt .nil Zi (Za (pv 0) (Za (pv 2) (Za (pv 5) Zb)))) Zb))) (Zbl (W7 (Wd (K:=K) rfl hu) (Z3 (pv 3) T.cl_Hall T.M_Hall_belts G_Hall_belts hr T.b_Hall_belts .nil Zi) (pv 2) (ZG _)))))) ZI)
     (Zf (Zx (i:=9) YW.nd rfl (Or.inl rfl) (Uq (ZcT (K:=K) rfl) (by rfl) T.n_list PyProof.Rows.boot_list (Za (pv 5) Zb)))
     (Zf (Zx (i:=10) YW.nd rfl (Or.inl rfl) (Zn G_backed hr rfl T.m_backed T.F_backed.kp T.b_backed .nil Zi (Za (pv 3) (Za (pv 9) Zb))))
     (Zf (Zx (i:=11) YW.nd rfl (Or.inl rfl) (Zn G_l_with_back hr rfl T.m_l_with_back T.F_l_with_back.kp T.b_l_with_back .nil Zi (Za (pv 2) (Za (pv 5) Zb))))
     (Zf (ZX (PW.pt (Vp (WG (YM (K:=K) rfl (ZC Zmk (by rfl) T.n_isinstance PyProof.Rows.boot_isinstance (Za (pv 10) (Za (V1 (v:= .ref T.C_Hall) rfl T.g_Hall rfl) Zb))) (fun _=>rfl))) (Vp (Zz (Yr (K:=K) rfl hu) (Z3 (pv 10) T.cl_Hall T.M_Hall_names G_Hall_names hr T.b_Hall_names .nil Zi) (pv 4) (ZG _)) (VL (Zz (Yr (K:=K) rfl hu) (Z3 (pv 10) T.cl_Hall T.M_Hall_belts G_Hall_belts hr T.b_Hall_belts .nil Zi) (pv 11) (ZG _)))))) (Zg (Zt WB)) ZI)
     (Zf (ZX (PW.pt (Vp (Zz (Yr (K:=K) rfl hu) (pv 9) (pv 5) (ZG _)) (Vp (Zz (Yr (K:=K) rfl hu) (Z3 (pv 3) T.cl_Hall T.M_Hall_belts G_Hall_belts hr T.b_Hall_belts .nil Zi) (pv 2) (ZG _)) (Vp (Zz (Yr (K:=K) rfl hu) (Z3 (pv 3) T.cl_Hall T.M_Hall_names G_Hall_names hr T.b_Hall_names .nil Zi) (pv 4) (ZG _)) (VL (WG (YM (K:=K) rfl (Zn G_l_hall_like hr rfl T.m_l_hall_like T.F_l_hall_like.kp T.b_l_hall_like .nil Zi (Za (pv 10) (Za (pv 11) (Za (pv 1) Zb)))) (fun _=>rfl)))))))) (Zg (Zt WB)) ZI)
     (Zf (Yf PassesOwn.leaving rfl (Yb rfl T.n_range (Za (ZC (YC (K:=K) rfl) (by rfl) T.n_len PySem.boot_len (Za (pv 2) Zb)) Zb)) (Zr (i:=6) YW.nd rfl (Or.inl rfl)) (Zg (ZL (ZV (pv 3) T.cl_Hall T.M_Hall_fill G_Hall_fill hr T.b_Hall_fill .nil Zi (Za (pv 6) (Za (Zo (ZM (K:=K) rfl) (Zo Z4 (Zp (Zu (K:=K) rfl) (Zp (Zu (K:=K) rfl) (pv 2) (pv 6) (fun _ _=>rfl)) Zc (fun _ _=>rfl)) Zc) Zc) Zb))))))
     (Zf (Zaz (ZX (PW.pt (Vp (Zz (Yr (K:=K) rfl hu) (Z3 (pv 10) T.cl_Hall T.M_Hall_belts G_Hall_belts hr T.b_Hall_belts .nil Zi) (pv 11) (ZG _)) (VL (Zz (Yr (K:=K) rfl hu) (Zp (Zu (K:=K) rfl) (Zn G_rates_of hr rfl T.m_rates_of T.F_rates_of.kp T.b_rates_of .nil Zi (Za (pv 10) Zb)) Zc (fun _ _=>rfl)) (Zp (Zu (K:=K) rfl) (Zn G_rates_of hr rfl T.m_rates_of T.F_rates_of.kp T.b_rates_of .nil Zi (Za (pv 3) Zb)) Zc (fun _ _=>rfl)) (ZG _))))) (Zg (Zt WB)) ZI))
     (Zf (Yf PassesOwn.leaving rfl (Yb rfl T.n_range (Za (ZC (YC (K:=K) rfl) (by rfl) T.n_len PySem.boot_len (Za (pv 11) Zb)) Zb)) (Zr (i:=6) YW.nd rfl (Or.inl rfl)) (Zg (ZL (ZV (pv 10) T.cl_Hall T.M_Hall_fill G_Hall_fill hr T.b_Hall_fill .nil Zi (Za (pv 6) (Za (Zo (ZM (K:=K) rfl) (Zo Z4 (Zp (Zu (K:=K) rfl) (Zp (Zu (K:=K) rfl) (pv 11) (pv 6) (fun _ _=>rfl)) Zc (fun _ _=>rfl)) Zc) Zc) Zb))))))
     (Zf (ZL (ZV (pv 10) T.cl_Hall T.M_Hall_work G_Hall_work hr T.b_Hall_work .nil Zi (Za Ys Zb)))
     (Zf (ZL (ZV (pv 3) T.cl_Hall T.M_Hall_work G_Hall_work hr T.b_Hall_work .nil Zi (Za Ys Zb)))
     (Zf (ZX (PW.pt (Vp (Zz (Yr (K:=K) rfl hu) (Z3 (pv 10) T.cl_Hall T.M_Hall_names G_Hall_names hr T.b_Hall_names .nil Zi) (Zo (ZM (K:=K) rfl) (pv 4) (YH (Za Ys Zb))) (ZG _)) (VL (Zz (Yr (K:=K) rfl hu) (Z3 (pv 3) T.cl_Hall T.M_Hall_names G_Hall_names hr T.b_Hall_names .nil Zi) (Zo (ZM (K:=K) rfl) (pv 4) (YH (Za Ys Zb))) (ZG _))))) (Zg (Zt WB)) ZI)
     (Zf (ZX (PW.pt (Vp (Zz (Yr (K:=K) rfl hu) (Zn G_pieces_of hr rfl T.m_pieces_of T.F_pieces_of.kp T.b_pieces_of .nil Zi (Za (pv 10) Zb)) (Zn G_l_pieces hr rfl T.m_l_pieces T.F_l_pieces.kp T.b_l_pieces .nil Zi (Za (Zo (ZM (K:=K) rfl) (pv 1) Zc) (Za (pv 11) Zb))) (ZG _)) (VL (Zz (Yr (K:=K) rfl hu) (Zn G_pieces_of hr rfl T.m_pieces_of T.F_pieces_of.kp T.b_pieces_of .nil Zi (Za (pv 3) Zb)) (Zn G_l_pieces hr rfl T.m_l_pieces T.F_l_pieces.kp T.b_l_pieces .nil Zi (Za (Zo (ZM (K:=K) rfl) (pv 1) Zc) (Za (pv 2) Zb))) (ZG _))))) (Zg (Zt WB)) ZI)
     (Zg (Zt (W7 (Wd (K:=K) rfl hu) (Z3 (pv 3) T.cl_Hall T.M_Hall_belts G_Hall_belts hr T.b_Hall_belts .nil Zi) (YY (xs:=["_law_line"]) rfl (Z2 (x:="_law_line") (zs:=[]) (ix:=[]) (Zj Zdj) ["_law_script","_law_many","_law_lines_here","_law_hall","_law_names","_law_rooms","_law_k","_law_line","_law_draw","_law_handed","_law_made_here","_law_due"] rfl rfl (by decide+kernel)) (Z0 (K:=K) rfl (pv 2)) (fun cl C s H fp=>⟨(Zr (i:=0) (show(["_law_line"]:List Str).Nodup by decide+kernel) rfl (Or.inl rfl)),Z8,(Zo (ZM (K:=K) rfl) (WS (ZbQ (K:=K) rfl) (pv 0) Vu (Vz Zc)) (Yu (Za (Zo (ZM (K:=K) rfl) (Zo Z4 (Zp (Zu (K:=K) rfl) (pv 0) Zc (fun _ _=>rfl)) Zc) Zc) Zb)))⟩)) (ZG _)))))))))))))))))))))))),?_⟩
  try dsimp only[L2.cxX,L2.ZJ,L2.Zm]
  walk_at "rds";rename_i c0;obtain⟨M0,eM0⟩:∃M0:Nat,1+c0 % 6=(M0:Int):=⟨(1+c0 % 6).toNat,by omega⟩;rw[eM0];refine Rd.cut (fun σ' H'=>H'=H∧∃M:Nat,σ'=[some (.ref p),some (.int M),none,none,none,none,none,none,none,none,none,none]∧1≤M∧M≤29) ?k1 ?i1
  case i1=>
   walk_at "rds";refine Rd.ifD (fun c=>?_) (fun c=>?_)
   ·walk_at "rds";rename_i c2 m2 z1 z2;obtain⟨M,eM⟩:∃M:Nat,7+m2 / 8 % 23=(M:Int):=⟨(7+m2 / 8 % 23).toNat,by omega⟩;rw[eM];exact⟨rfl,M,rfl,by omega,by omega⟩
   ·walk_at "rds";exact⟨rfl,M0,rfl,by omega,by omega⟩
  case k1=>
  clear eM0;rintro σ' H0 ⟨rfl,M,rfl,m1,m2⟩;walk_at "rds";refine⟨p,ns,M,rfl,hS,by omega,by omega,fun qa H1 bs ls hqa s1 hq1 hT1 hl1 hd1=>?_⟩;have hbl:=hT1.length;have hS1:=s1.seq hS;walk_at "rds";refine⟨M,qa,bs,ls,rfl,by omega,by omega,hq1,hT1,by omega,fun l hl=>(hd1 l hl).d17,fun hp fp H2 hh2 hf2 s2=>?_⟩;rw[Int.toNat_natCast] at hh2;have hnl:((List.range M).map nm17).length=M:=by simp
  have hNm:ZaP ((List.range M).map nm17):=Zkb (by omega);have hlate:=Zjf (m:=M) (by omega);generalize (List.range M).map nm17=nms at*;have hok:∀n∈nms,PyData.strOk n=true:=fun n hn=>Zdx (hNm.2.1 n hn);have hbt:ZE ls M:=ZeD hd1;have hsz:=Zf3 hd1;have hs0:∀b∈ls,0≤b.start:=fun b hb=>(hd1 b hb).d17.st;have nqf:qa∉fp:=fun z=>by rw[hf2 qa z] at hq1;cases hq1
  walk_at "rds";refine⟨hp,_,fp,rfl,hh2,fun na H3 hna s3 hna3=>?_⟩;have nnf:na∉fp:=fun z=>hh2.dom na z hna;have s13:=s2.trans s3;have hq3:=s13 _ _ hq1;have hT3:=hT1.keep (fun b xs e=>s13 _ _ e);have hQ3:=SqL.of (K:=K) hq3;have hS3:=s13.seq hS1;have hh3:=hh2.same s3;walk_at "rds";refine⟨Nat.zero_le _,fun r hr=>?_⟩;have s4:Zd H3 (upd H3 r (.lst [])):=Zk hr;have hr4:(upd H3 r (.lst [])) r=some (.lst (([]:List Int).map V.int)):=Ze;generalize upd H3 r (.lst [])=H4 at*;walk_at "rds";refine Vy (VF hQ3) (fun i σ H'=>Zd H3 H'∧(∃(a3 a4 a5:Option V),σ=[some (.ref p),some (.int M),some (.ref qa),some (.ref hp),some (.ref na),some (.ref r),a3,a4,a5,none,none,none])∧∃rm:List Int,H' r=some (.lst (rm.map V.int))∧rm.length=i∧∀j<i,(startsL ls).getD j 0≤rm.getD j 0) ⟨s4,⟨_,_,_,rfl⟩,[],hr4,rfl,fun j hj=>absurd hj (Nat.not_lt_zero _)⟩ (fun i σ H' h=>h.1) ?_ ?_
  ·rintro i σ H5 v H6 hi ⟨s5,⟨b3,b4,b5,rfl⟩,rm,hr5,hrml,hrm⟩ ⟨t,ht,rfl,rfl⟩;have hil:i<ls.length:=by omega
   obtain⟨u,hu1,hu2⟩:=hT3.getD hil;rw[hu1];refine Rd.Uz (.of Ze) rfl ?_;have s6:Zd H5 (upd H5 t (.tup [V.int i,V.ref u])):=Zk ht;generalize upd H5 t (.tup [V.int i,V.ref u])=H6 at*;have s36:=s5.trans s6;have hu3:=s36 _ _ hu2;have hS6:=s36.seq hS3;have hr6:=s6 _ _ hr5;have est:(startsL ls).getD i 0=(ls.getD i dB).start:=by simp[startsL,List.getD,hil]
   generalize ls.getD i dB=bb at*;dsimp only[B5.v] at hu3;have hi60:(i:Int)<60:=by omega
   have rml:(rm.map V.int).length<sizeLine:=Zq (by rw[List.length_map];omega);walk_at "rds";rename_i c1 dr d0 d1 c3;have z2:0≤c3 % 10 ^ Int.toNat 29:=Int.emod_nonneg _ (by decide);generalize c3 % 10 ^ Int.toNat 29=y2 at*;refine⟨by show 3≤sizeLine;decide,fun l0 hl0=>?_⟩;have s7:Zd H6 (upd H6 l0 (.lst [.int 0,.int (dr % 40),.int y2])):=Zk hl0;have hl7:(upd H6 l0 (.lst [.int 0,.int (dr % 40),.int y2])) l0=some (.lst (([0,dr % 40,y2]:List Int).map V.int)):=Ze;generalize upd H6 l0 (.lst [.int 0,.int (dr % 40),.int y2])=H7 at*;have h5l:([0,dr % 40,y2]:List Int).length=3:=rfl;have h50:∀s∈([0,dr % 40,y2]:List Int),0≤s:=fun s hs=>by
    simp only[List.mem_cons,List.not_mem_nil,or_false] at hs;rcases hs with e|e|e<;>omega
   generalize ([0,dr % 40,y2]:List Int)=fv at*;have hF7:=SqL.of (K:=K) hl7;have hr7:=s7 _ _ hr6;have at5:=ZaM (ns:=fv) (k:=dr / 40 % 3) (by omega) (by omega);have hst:=h50 _ (ZcI (d:=0) (show(dr / 40 % 3).toNat<fv.length by omega));generalize fv.getD (dr / 40 % 3).toNat 0=sx at*;walk_at "rds";refine⟨(s36.trans s7).new hr,⟨_,_,_,rfl⟩,rm++ [bb.start+sx],by rw[Ze,List.map_append];rfl,by simp[hrml],fun j hj=>?_⟩;rcases Nat.lt_or_ge j i with z|z
   ·rw[Zhp (by omega)];exact hrm j z
   ·obtain rfl:j=i:=by omega
    have e:(rm++ [bb.start+sx]).getD j 0=bb.start+sx:=by subst hrml;simp[List.getD]
    rw[e,est];omega
  rintro σ H5 ⟨s5,⟨b3,b4,b5,rfl⟩,rm,hr5,hrml,hrm⟩;rw[hbl] at hrml hrm;have hq5:=s5 _ _ hq3;have hQ5:=s5.seq hQ3;have hT5:=hT3.keep (fun b xs e=>s5 _ _ e);have hS5:=s5.seq hS3;have hh5:=hh3.same s5;have hR5:=SqL.of (K:=K) hr5;have hna5:=s5 _ _ hna3;have hrok:Vw rm (startsL ls):=⟨by simp[startsL,hrml],fun i hi=>hrm i (by omega)⟩;have nrf:r∉fp:=fun z=>hh3.dom r z hr;walk_at "rds";refine Rd.ifD (fun c=>?_) (fun c=>?_)
  ·walk_at "rds";refine⟨p,qa,r,ns,bs,ls,rm,rfl,hS5,hQ5,hT5,hr5,hrml,by omega,fun sp H6 rm' s6 hsp6 hl6 hno=>?_⟩;have hh6:=hh5.same s6;walk_at "rds";refine⟨hp,sp,⟨nms,ls⟩,fp,rm',rfl,hh6,by show ls.length≤400;omega,hNm,.of hsp6,hl6,hno,fun H7 s7=>?_⟩;have hh7:=hh6.same s7;walk_at "rds";intro qb H8 bs8 hqb s8 hqb8 hT8;have s58:=s6.trans (s7.trans s8);have hq8:=s58 _ _ hq5;have hTq8:=hT5.keep (fun b xs e=>s58 _ _ e);walk_at "rds";refine Rd.ZgO (.lst (.of hqb8) (V3 hT8)) (.lst (.of hq8) (V3 hTq8)) (WE ls) (WE ls) (ZaY ls) ?_;rw[SeqAt.eqv_refl _ (WE ls)];walk_at "rds";exact k _
  walk_at "rds";refine Rd.ZdD hR5 (fun hd hd0=>?_);have s6:Zd H5 (upd H5 hd (.lst (rm.map V.int))):=Zk hd0;have hd6:(upd H5 hd (.lst (rm.map V.int))) hd=some (.lst (rm.map V.int)):=Ze;generalize upd H5 hd (.lst (rm.map V.int))=H6 at*;have hh6:=hh5.same s6;walk_at "rds";refine⟨hp,hd,⟨nms,ls⟩,fp,rm,rfl,hh6,by show ls.length≤400;omega,hNm,.of hd6,by omega,fun z=>absurd hrok z,fun _ p2 fp2 H7 hh7 hf7 s7=>?_⟩;have s57:=s6.trans s7;have hq7:=s57 _ _ hq5;have hT7:=hT5.keep (fun b xs e=>s57 _ _ e);have hr7:=s57 _ _ hr5;walk_at "rds";refine⟨qa,r,bs,ls,rm,rfl,hq7,hT7,.of hr7,hrml,by omega,fun du H8 ds hdu s8 hdu8 hTd8=>?_⟩;have hbL:=ZeA (rm:=rm) hbt;have hsL:=Zga (rm:=rm) hsz;have hLl:(ls++ZK ls rm).length=ls.length+ls.length:=by rw[List.length_append,We]
  have hL0:∀b∈ls++ZK ls rm,0≤b.start:=fun b hb=>by
   rcases List.mem_append.mp hb with y|y
   ·exact hs0 b y
   ·obtain⟨j,hj,rfl⟩:=Zbr y;have h2:=hrok.2 j (by omega);have e:(startsL ls).getD j 0=ls[j].start:=by simp[startsL,List.getD,hj]
    rw[e] at h2;show 0≤rm.getD j 0-ls[j].start;omega
  have hdl:=hTd8.length;rw[hLl] at hdl;have hna7:=s57 _ _ hna5;have O8:W6 T H8 hp fp nms ls p2 fp2 nms (ls++ZK ls rm) qa bs ls du ds (ls++ZK ls rm) na nms:=
   ⟨(hh6.same s7).same s8,hh7.same s8,fun x hx z=>hh6.dom x hx (hf7 x z),s8 _ _ hq7,hT7.keep (fun b xs e=>s8 _ _ e),nqf,(fun z=>by have:=s6 _ _ hq5;rw[hf7 qa z] at this;cases this),hdu8,hTd8,fun z=>(hh6.same s7).dom du z hdu,fun z=>hh7.dom du z hdu,s8 _ _ hna7,nnf,(fun z=>by have:=s6 _ _ hna5;rw[hf7 na z] at this;cases this)⟩
  have hd8:=s8 _ _ (s7 _ _ hd6);have hr8:=s8 _ _ hr7;clear hq7 hT7 hr7 hna7 hdu8 hTd8 hh7 hh6 hh5 hh3 hh2 hq5 hT5 hQ5 hQ3 hT3 hq3 hq1 hT1;obtain⟨dx2,ax2,bx2,bb2,_,hins,_⟩:=id O8.h2;have hh8:=O8.h2;walk_at "rds";refine Rd.isI hins ?_;walk_at "rds";refine⟨p2,_,fp2,rfl,O8.h2,fun n2 H9 hn2 s9 hn9=>?_⟩;have O9:=O8.same s9;have hna9:=O9.n1;walk_at "rds";refine Zdo hok (.of hn9) (.of hna9) ?_;have hh9:=O9.h2;walk_at "rds";intro qb Ha bsa hqb sa hqba hTa;have Oa:=O9.same sa;walk_at "rds";refine Zhv (.of hqba) hTa (.of Oa.d1) Oa.dt ?_;walk_at "rds";refine Rd.ZbF (.of (sa _ _ (s9 _ _ hd8))) (.of (sa _ _ (s9 _ _ hr8))) ?_;have hha:=Oa.h1;walk_at "rds";intro qc Hb bsb hqc sb hqcb hTb;have Ob:=Oa.same sb;have hhb:=Ob.h1;walk_at "rds";refine Zhv (.of hqcb) hTb (.of Ob.q1) Ob.qt ?_;walk_at "rds";refine⟨hp,_,fp,rfl,Ob.h1,fun n3 Hc hn3 sc hnc=>?_⟩;have Oc:=Ob.same sc;walk_at "rds";refine Zdo hok (.of hnc) (.of Oc.n1) ?_;walk_at "rds";refine⟨p2,du,M,⟨nms,ls++ZK ls rm⟩,fp2,ds,rfl,Oc.h2,Oc.d1,Oc.dt,hnl,by omega,by show(ls++ZK ls rm).length≤1000;omega,hbL,fun Hd sd=>?_⟩;have Od:=Oc.same sd;have hQd:=SqL.of (K:=K) Od.q1;clear O8 O9 Oa Ob Oc hqba hTa hqcb hTb hnc hn9 hd8 hr8 hna9 hins;walk_at "rds";refine Wg (n:=bs.length) (fun i σ H'=>∃(fp':List Addr)(a3:Option V),σ=[some (.ref p),some (.int M),some (.ref qa),some (.ref hp),some (.ref na),some (.ref r),a3,b4,b5,some (.ref hd),some (.ref p2),some (.ref du)]∧W6 T H' hp fp' nms (Ww halfB ls i) p2 fp2 nms (ls++ZK ls rm) qa bs ls du ds (ls++ZK ls rm) na nms) ⟨fp,_,rfl,by rw[Zeq];exact Od⟩ ?_ ?_
  ·rintro i σ He hi ⟨fpe,a3,rfl,Oe⟩;have hil:i<ls.length:=by omega
   obtain⟨t,ht1,ht2⟩:=Oe.qt.at (List.getElem?_eq_getElem hil);have at1:atI bs (i:Int)=some (.ref t):=Yo ht1;have hQe:=SqL.of (K:=K) Oe.q1;have hb0:=hs0 _ (List.getElem_mem hil);have hset:=ZfS (f:=halfB) hil;have hat:=ZgB (f:=halfB) hil;have hle:=Ze7 (f:=halfB) (ls:=ls) (i:=i);have hhe:=Oe.h1;generalize ls[i]=bb at*;dsimp only[B5.v] at ht2;rw[Int.zero_add];walk_at "rds";refine⟨hp,_,_,_,fpe,rfl,hhe,fun z=>absurd ⟨by omega,by show(i:Int)<((Ww halfB ls i).length:Int);omega⟩ z,fun _ z=>absurd (by omega) z,fun _ _ b Hf fpf hb hhf frf grf=>?_⟩;dsimp only at hb hhf;rw[Int.toNat_natCast] at hb hhf;rw[hat] at hb;cases hb;have e:(Ww halfB ls i).set i (Zbb bb (bb.start / 2+1))=Ww halfB ls (i+1):=hset;rw[e] at hhf;walk_at "rds";exact⟨fpf,_,rfl,Oe.one frf grf hhf⟩
  clear Od hQd;rintro σ He ⟨fpe,a3,rfl,Oe⟩;rw[hbl,ZeW] at Oe;have hbh:=Zcx V6 hbt;have hsh:=ZhX V6 hsz;refine Rd.cut (fun σ' H'=>σ'=[some (.ref p),some (.int M),some (.ref qa),some (.ref hp),some (.ref na),some (.ref r),a3,b4,b5,some (.ref hd),some (.ref p2),some (.ref du)]∧W6 T H' hp fpe nms (ls.map halfB) p2 fp2 nms (ls++ZK ls rm) qa bs ls du ds (ls++ZK ls rm) na nms) ?k2 ?i2
  case i2=>
   have hhe2:=Oe.h2;walk_at "rds";intro qd Hf bsf hqd sf hqdf hTf;have Of:=Oe.same sf;walk_at "rds";refine Zhv (.of hqdf) hTf (.of Of.d1) Of.dt ?_;walk_at "rds";refine⟨p2,⟨nms,ls++ZK ls rm⟩,fp2,rfl,Of.h2,by show nms.length≤60;omega,by show(ls++ZK ls rm).length≤1000;omega,by show ZE _ nms.length;rw[hnl];exact hbL,hsL,fun t1 r1 Hg rs F sg hr1 ht1 hr1' hrl hwd hset hch=>?_,fun t1 r1 Hg vs1 ring sg ht1 hr1 hpc hrok1=>?_⟩
   ·have Og:=Of.same sg;dsimp only at hrl hwd hset hch;rw[hnl] at hrl hwd;have f1:=Zju hbL (by omega) hrl hwd hset hch;walk_at "rds";refine⟨hp,⟨nms,ls.map halfB⟩,fpe,rfl,Og.h1,by show nms.length≤60;omega,by show(ls.map halfB).length≤1000;rw[List.length_map];omega,by show ZE _ nms.length;rw[hnl];exact hbh,hsh,fun t2 r2 Hh rs2 F2 sh hr2 ht2 hr2' hrl2 hwd2 hset2 hch2=>?_,fun t2 r2 Hh vs2 ring sh ht2 hr2 hpc hrok2=>?_⟩
    ·have Oh:=Og.same sh;dsimp only at hrl2 hwd2 hset2 hch2;rw[hnl] at hrl2 hwd2;have f2:=Zju hbh (by omega) hrl2 hwd2 hset2 hch2;have er:=ZkQ hbt hsz hrl f1 hrl2 f2;subst er;walk_at "rds";refine Rd.ZbF (.of (sh _ _ hr1')) (.of hr2') ?_;walk_at "rds";exact⟨rfl,Oh⟩
    ·refine(ZbS hrok2 hbh hsh (ZbM (rs:=rs) (by rw[hrl];exact hbh) hsh f1.1 ((Zdy V6).mpr fun b hb=>f1.2.1 b (List.mem_append_left _ hb)))).elim
   ·have Og:=Of.same sg;walk_at "rds";refine⟨hp,⟨nms,ls.map halfB⟩,fpe,rfl,Og.h1,by show nms.length≤60;omega,by show(ls.map halfB).length≤1000;rw[List.length_map];omega,by show ZE _ nms.length;rw[hnl];exact hbh,hsh,fun t2 r2 Hh rs2 F2 sh hr2 ht2 hr2' hrl2 hwd2 hset2 hch2=>?_,fun t2 r2 Hh vs2 ring2 sh ht2 hr2 hpc2 hrok2=>?_⟩
    ·dsimp only at hrl2 hwd2 hset2 hch2;rw[hnl] at hrl2 hwd2;have f2:=Zju hbh (by omega) hrl2 hwd2 hset2 hch2;exact(ZbS hrok1 hbL hsL (ZbM (rs:=rs2) (by rw[hrl2];exact hbL) hsL f2.1 (ZiB ((Zdy V6).mp f2.2.1)))).elim
    ·have Oh:=Og.same sh;have ht1':=sh _ _ ht1;walk_at "rds";refine Rd.Zb3 .non .non (by simp[PyData.canLay0]) (by simp[PyData.canLay0]) (by simp[PyData.depth]) ?_;rw[SeqAt.eqv_refl _ (by simp[PyData.canLay0])];walk_at "rds";exact⟨rfl,Oh⟩
  case k2=>
  clear Oe;rintro σ' Hf ⟨rfl,Of⟩;have hQf:=SqL.of (K:=K) Of.d1;walk_at "rds";refine Wg (n:=ds.length) (fun i σ H'=>∃(fp':List Addr)(a3:Option V),σ=[some (.ref p),some (.int M),some (.ref qa),some (.ref hp),some (.ref na),some (.ref r),a3,b4,b5,some (.ref hd),some (.ref p2),some (.ref du)]∧W6 T H' hp fpe nms (ls.map halfB) p2 fp' nms (Ww Wh (ls++ZK ls rm) i) qa bs ls du ds (ls++ZK ls rm) na nms) ⟨fp2,_,rfl,by rw[Zeq];exact Of⟩ ?_ ?_
  ·rintro i σ Hg hi ⟨fpg,a4,rfl,Og⟩;have hil:i<(ls++ZK ls rm).length:=by omega
   obtain⟨t,ht1,ht2⟩:=Og.dt.at (List.getElem?_eq_getElem hil);have at1:atI ds (i:Int)=some (.ref t):=Yo ht1;have hQg:=SqL.of (K:=K) Og.d1;have hb0:=hL0 _ (List.getElem_mem hil);have hset:=ZfS (f:=Wh) hil;have hat:=ZgB (f:=Wh) hil;have hle:=Ze7 (f:=Wh) (ls:=ls++ZK ls rm) (i:=i);have hhg:=Og.h2;generalize (ls++ZK ls rm)[i]=bb at*;dsimp only[B5.v] at ht2;rw[Int.zero_add];walk_at "rds";refine⟨p2,_,_,_,fpg,rfl,hhg,fun z=>absurd ⟨by omega,by show(i:Int)<((Ww Wh (ls++ZK ls rm) i).length:Int);omega⟩ z,fun _ z=>absurd (by omega) z,fun _ _ b Hh fph hb hhh frh grh=>?_⟩;dsimp only at hb hhh;rw[Int.toNat_natCast] at hb hhh;rw[hat] at hb;cases hb;have e:(Ww Wh (ls++ZK ls rm) i).set i (Zbb bb (bb.start / 3+2))=Ww Wh (ls++ZK ls rm) (i+1):=hset;rw[e] at hhh;walk_at "rds";exact⟨fph,_,rfl,(Og.turn.one frh grh hhh).turn⟩
  clear Of hQf;rintro σ Hg ⟨fpg,a4,rfl,Og⟩;rw[hdl,←hLl,ZeW] at Og;have hhg2:=Og.h2;walk_at "rds";refine VY Og.h2 Zck.1 hlate.1 (by show nms.length<30;omega) (fun Hh fph hhh frh grh=>?_);have Oh:=(Og.turn.one frh grh hhh).turn;clear Og hhg2;have hhh1:=Oh.h1;walk_at "rds";refine VY Oh.h1 Zck.2 hlate.2 (by show nms.length<30;omega) (fun Hi fpi hhi fri gri=>?_);have Oi:=Oh.one fri gri hhi;clear Oh hhi hhh hhh1;have hhi2:=Oi.h2;walk_at "rds";refine⟨p2,_,fph,rfl,Oi.h2,fun n4 Hj hn4 sj hnj=>?_⟩;have Oj:=Oi.same sj;have hnaj:=Oj.n1;walk_at "rds";intro l1 hl1;have sk:Zd Hj (upd Hj l1 (.lst [V.str "latework"])):=Zk hl1;have vk:(upd Hj l1 (.lst [V.str "latework"])) l1=some (.lst [V.str "latework"]):=Ze;generalize upd Hj l1 (.lst [V.str "latework"])=Hk at*;refine Rd.Ux (sk _ _ hnaj) vk (Nat.le_of_lt (Zq (by simp;omega))) (fun l2 hl2=>?_);have sl:Zd Hk (upd Hk l2 (.lst (nms.map V.str++ [V.str "latework"]))):=Zk hl2;have vl:(upd Hk l2 (.lst (nms.map V.str++ [V.str "latework"]))) l2=some (.lst ((nms++ [("latework" :Str)]).map V.str)):=by rw[Ze,List.map_append];rfl
  generalize upd Hk l2 (.lst (nms.map V.str++ [V.str "latework"]))=Hl at*;have Ol:=Oj.same (sk.trans sl);have hhl:=Ol.h1;refine Zdo (ns:=nms++ [("latework" :Str)]) (fun n hn=>?_) (.of (sl _ _ (sk _ _ hnj))) (.of vl) ?_
  ·rcases List.mem_append.mp hn with z|z
   ·exact hok n z
   ·rw[List.mem_singleton.mp z];exact Zdx Zck.1
  walk_at "rds";refine⟨hp,_,fpi,rfl,Ol.h1,fun n5 Hm hn5 sm hnm5=>?_⟩;have Om:=Ol.same sm;have hnam:=Om.n1;walk_at "rds";intro l3 hl3;have sn:Zd Hm (upd Hm l3 (.lst [V.str "workless"])):=Zk hl3;have vn:(upd Hm l3 (.lst [V.str "workless"])) l3=some (.lst [V.str "workless"]):=Ze;generalize upd Hm l3 (.lst [V.str "workless"])=Hn at*;refine Rd.Ux (sn _ _ hnam) vn (Nat.le_of_lt (Zq (by simp;omega))) (fun l4 hl4=>?_);have so:Zd Hn (upd Hn l4 (.lst (nms.map V.str++ [V.str "workless"]))):=Zk hl4;have vo:(upd Hn l4 (.lst (nms.map V.str++ [V.str "workless"]))) l4=some (.lst ((nms++ [("workless" :Str)]).map V.str)):=by rw[Ze,List.map_append];rfl
  generalize upd Hn l4 (.lst (nms.map V.str++ [V.str "workless"]))=Ho at*;have Oo:=Om.same (sn.trans so);refine Zdo (ns:=nms++ [("workless" :Str)]) (fun n hn=>?_) (.of (so _ _ (sn _ _ hnm5))) (.of vo) ?_
  ·rcases List.mem_append.mp hn with z|z
   ·exact hok n z
   ·rw[List.mem_singleton.mp z];exact Zdx Zck.2
  clear Oi Oj Ol Om hhi2 hhl vl vk vn vo;have hnl1:(nms++ [("latework" :Str)]).length=M+1:=by simp[hnl]
  have hnl2:(nms++ [("workless" :Str)]).length=M+1:=by simp[hnl]
  have hb3:ZE ((ls++ZK ls rm).map Wh) (M+1):=VS (Zcx ZfC hbL) (by omega);have hb2:ZE (ls.map halfB) (M+1):=VS hbh (by omega);have eM1:(M:Int)+1=((M+1:Nat):Int):=rfl;walk_at "rds";refine⟨p2,⟨nms++ [("latework" :Str)],(ls++ZK ls rm).map Wh⟩,fph,rfl,Oo.h2,by show(nms++ [("latework" :Str)]).length≤60;omega,by show((ls++ZK ls rm).map Wh).length≤1000;rw[List.length_map];omega,by show ZE _ (nms++ [("latework" :Str)]).length;rw[hnl1];exact hb3,fun r6 ys6 xs6 Hr F6 hr60 sr hr6 hR6 hnew6 hSo6 hwd6 hFl6=>?_⟩;dsimp only at hwd6;rw[hnl1] at hwd6;have ex6:=ZaT hb3 hwd6 hSo6;rw[Zd6 ZfC] at ex6;have Or:=Oo.same sr;walk_at "rds";rw[eM1];refine⟨M+1,du,ds,ls++ZK ls rm,rfl,Or.d1,Or.dt,VS hbL (by omega),by omega,fun r7 Hs ys7 hr70 ss hr7 hR7=>?_⟩;rw[←ex6] at hR7;walk_at "rds";refine Rd.Zb3 (.lst (.of (ss _ _ hr6)) (Vs ((hR6.same Yk).same ss))) (.lst (.of hr7) (Vs (hR7.same Yk))) (Wi xs6) (Wi xs6) (Zaw xs6) ?_;rw[SeqAt.eqv_refl _ (Wi xs6)];have Os:=Or.same ss;clear Oo Or;walk_at "rds";refine⟨hp,⟨nms++ [("workless" :Str)],ls.map halfB⟩,fpi,rfl,Os.h1,by show(nms++ [("workless" :Str)]).length≤60;omega,by show(ls.map halfB).length≤1000;rw[List.length_map];omega,by show ZE _ (nms++ [("workless" :Str)]).length;rw[hnl2];exact hb2,fun r8 ys8 xs8 Ht F8 hr80 st hr8 hR8 hnew8 hSo8 hwd8 hFl8=>?_⟩;dsimp only at hwd8;rw[hnl2] at hwd8;have ex8:=ZaT hb2 hwd8 hSo8;rw[Zd6 V6] at ex8;have Ot:=Os.same st;walk_at "rds";rw[eM1];refine⟨M+1,qa,bs,ls,rfl,Ot.q1,Ot.qt,VS hbt (by omega),by omega,fun r9 Hu ys9 hr90 su9 hr9 hR9=>?_⟩;rw[←ex8] at hR9;walk_at "rds";refine Rd.Zb3 (.lst (.of (su9 _ _ hr8)) (Vs ((hR8.same Yk).same su9))) (.lst (.of hr9) (Vs (hR9.same Yk))) (Wi xs8) (Wi xs8) (Zaw xs8) ?_;rw[SeqAt.eqv_refl _ (Wi xs8)];have Ou:=Ot.same su9;clear Os Ot;have hhu:=Ou.h1;walk_at "rds";intro qe Hv bsv hqe sv hqev hTv;have Ov:=Ou.same sv;have hQv:=SqL.of (K:=K) Ov.q1;walk_at "rds";refine Yc (own:=1) (ZU hQv).y (Zq (by omega)) (fun i=>[some (bs.getD i .non)]) (fun _=>rfl) (fun _=>true) (fun i v H'=>∃u,v= .ref u∧H' u=some (.tup (halfB (ls.getD i dB)).v)) (fun _ _ _ _ s ⟨u,x,y⟩=>⟨u,x,s _ _ y⟩) (fun i a' H' v H3 Kg hi sm y ha' k=>?_) (fun i H' Kc hi sm k=>?_) (fun pp i H' Kc hi hci hp0 hp1 sm k=>?_) (fun e Hw yw he0 sw hew hRw=>?_)
  ·obtain⟨rfl,rfl⟩:=y;obtain⟨x1,rfl⟩:∃x1,a'=[x1]:=by
    match a',ha' with
    | [x1],_=>exact⟨x1,rfl⟩
   walk_at "rds";exact k _ (Zd.refl _)
  ·walk_at "rds";exact k H' (Zd.refl H')
  ·obtain⟨t,ht1,ht2⟩:=Ov.qt.getD (i:=i) (by omega);rw[ht1];have ht3:=sm _ _ ht2;generalize ls.getD i dB=bb at*;dsimp only[B5.v] at ht3;walk_at "rds";refine Rd.slT (.of ht3) (by show ¬(HT.sIx 5 0 none=0∧HT.sIx 5 5 (some 4)=5);decide) (fun u hu'=>?_);have su:Zd H' (upd H' u (.tup (Y3 [V.int bb.giver,V.int bb.taker,V.int bb.give,V.int bb.take,V.int bb.start] none (some 4)))):=Zk hu';have hu1:(upd H' u (.tup (Y3 [V.int bb.giver,V.int bb.taker,V.int bb.give,V.int bb.take,V.int bb.start] none (some 4)))) u=some (.tup [V.int bb.giver,V.int bb.taker,V.int bb.give,V.int bb.take]):=Ze;generalize upd H' u (.tup (Y3 [V.int bb.giver,V.int bb.taker,V.int bb.give,V.int bb.take,V.int bb.start] none (some 4)))=H4 at*;have ht4:=su _ _ ht3;walk_at "rds";intro u2 hu2;have su2:Zd H4 (upd H4 u2 (.tup [V.int (bb.start / 2+1)])):=Zk hu2;have hv2:(upd H4 u2 (.tup [V.int (bb.start / 2+1)])) u2=some (.tup [V.int (bb.start / 2+1)]):=Ze;generalize upd H4 u2 (.tup [V.int (bb.start / 2+1)])=H5 at*;refine Rd.ZkX (.of (su2 _ _ hu1)) (.of hv2) (by simp) (by simp) (by show 5≤sizeLine;decide) (fun u3 hu3=>?_);have s3:Zd H5 (upd H5 u3 (.tup ([V.int bb.giver,V.int bb.taker,V.int bb.give,V.int bb.take]++ [V.int (bb.start / 2+1)]))):=Zk hu3;have hpp:u3≠pp:=fun z=>by
    obtain⟨ys,e⟩:=hp1;rw[z,su2 _ _ (su _ _ e)] at hu3;cases hu3
   exact k _ _ (su.trans (su2.trans s3)) ⟨u3,rfl,by rw[WJ hpp];exact Ze⟩
  rw[List.filter_eq_self.mpr (by simp),hbl] at hRw;have hTe:ZS Hw yw ((List.range ls.length).map fun i=>halfB (ls.getD i dB)):=(Zb7 hRw).keep fun b xs e=>Yk _ _ e;have eh:((List.range ls.length).map fun i=>halfB (ls.getD i dB))=ls.map halfB:=by
   refine List.ext_getElem (by simp) fun i x1 x2=>?_;have:i<ls.length:=by simpa using x2
   simp[List.getD,this]
  rw[eh] at hTe;walk_at "rds";refine Rd.ZgO (.lst (.of (sw _ _ hqev)) (V3 (hTv.keep fun b xs e=>sw _ _ e))) (.lst (.of hew) (V3 hTe)) (WE _) (WE _) (ZaY _) ?_;rw[SeqAt.eqv_refl _ (WE _)];exact k _
end
abbrev nG(K:PySem.W.Frag)(x:Str)(f:Addr):Prop:=PySem.W.nsIn K mainGlobals x=some (some (.ref f))
abbrev mG(K:PySem.W.Frag)(C:Addr)(x:Str)(f:Addr):Prop:=PySem.W.findIn K (.ref C) x=some (some (.ref f))
abbrev iF(K:PySem.W.Frag)(f:Addr):Prop:=PySem.W.isFn K (.ref f)=true
abbrev lK(K:PySem.W.Frag)(f:Addr)(oc:Value)(od:Option Addr)(nm q:Str)(s:Stmt)(dv kV dc pm:Value)(an:Option Addr)(cd ct:Value)(sl:Array (Option Value)):Prop:=K.lookup f=some ⟨oc,od,.func (PySem.W.fnOf nm q (VB s) (WL s) (Zj s) dv kV dc pm an cd ct),sl⟩
abbrev cI(K:PySem.W.Frag)(cd:Value)(q:Str):Prop:=PySem.W.codeIn K cd q=true
abbrev kI(K:PySem.W.Frag)(f:Addr):Prop:=PySem.W.keepIn K (.ref f)=true
theorem V5{α:Type _}{P:List α→Prop}(h:∀a0,P [a0])(us:List α)(e:us.length=1):P us:=match us,e with| [a0],_=>h a0
theorem Z7{α:Type _}{P:List α→Prop}(h:∀a0 a1,P [a0,a1])(us:List α)(e:us.length=2):P us:=match us,e with| [a0,a1],_=>h a0 a1
theorem ZgM{α:Type _}{P:List α→Prop}(h:∀a0 a1 a2,P [a0,a1,a2])(us:List α)(e:us.length=3):P us:=match us,e with| [a0,a1,a2],_=>h a0 a1 a2
theorem Znp{α:Type _}{P:List α→Prop}(h:∀a0 a1 a2 a3 a4 a5,P [a0,a1,a2,a3,a4,a5])(us:List α)(e:us.length=6):P us:=match us,e with| [a0,a1,a2,a3,a4,a5],_=>h a0 a1 a2 a3 a4 a5
theorem tp_mk{K:PySem.W.Frag}{h:Heap}{mg:Str→Option Value}(X:K.In h)(G:h.Ns mainGlobals mg)
  {C_Floor:Addr}
  {C_Hall:Addr}
  {X_RateError:Addr}
  {X_NoName:Addr}
  {X_Twice:Addr}
  {X_TooMuch:Addr}
  {X_NoWork:Addr}
  {X_NoBelt:Addr}
  {X_NoRate:Addr}
  {X_NoRoom:Addr}
  {tk_MOST_LETTERS:Tok}
  {tk_MOST_WORKS:Tok}
  {tk_MOST_BELTS:Tok}
  {dT_Hall_belt:Addr} {od2_Hall_belt:Option Addr} {sl2_Hall_belt:Array (Option Value)} {n2_Hall_belt:Nat} {oc2_Hall_belt:Value} {dk0_Hall_belt:Tok}
  {f_0:Addr} {od_0 an_0:Option Addr} {sl_0:Array (Option Value)} {oc_0 kV_0 dc_0 pm_0 cd_0 ct_0:Value}
  {f_1:Addr} {od_1 an_1:Option Addr} {sl_1:Array (Option Value)} {oc_1 kV_1 dc_1 pm_1 cd_1 ct_1:Value}
  {f_2:Addr} {od_2 an_2:Option Addr} {sl_2:Array (Option Value)} {oc_2 kV_2 dc_2 pm_2 cd_2 ct_2:Value}
  {f_3:Addr} {od_3 an_3:Option Addr} {sl_3:Array (Option Value)} {oc_3 kV_3 dc_3 pm_3 cd_3 ct_3:Value}
  {f_4:Addr} {od_4 an_4:Option Addr} {sl_4:Array (Option Value)} {oc_4 kV_4 dc_4 pm_4 cd_4 ct_4:Value}
  {f_5:Addr} {od_5 an_5:Option Addr} {sl_5:Array (Option Value)} {oc_5 kV_5 dc_5 pm_5 cd_5 ct_5:Value}
  {f_6:Addr} {od_6 an_6:Option Addr} {sl_6:Array (Option Value)} {oc_6 kV_6 dc_6 pm_6 cd_6 ct_6:Value}
  {f_7:Addr} {od_7 an_7:Option Addr} {sl_7:Array (Option Value)} {oc_7 kV_7 dc_7 pm_7 cd_7 ct_7:Value}
  {f_8:Addr} {od_8 an_8:Option Addr} {sl_8:Array (Option Value)} {oc_8 kV_8 dc_8 pm_8 cd_8 ct_8:Value}
  {f_9:Addr} {od_9 an_9:Option Addr} {sl_9:Array (Option Value)} {oc_9 kV_9 dc_9 pm_9 cd_9 ct_9:Value}
  {f_10:Addr} {od_10 an_10:Option Addr} {sl_10:Array (Option Value)} {oc_10 kV_10 dc_10 pm_10 cd_10 ct_10:Value}
  {f_11:Addr} {od_11 an_11:Option Addr} {sl_11:Array (Option Value)} {oc_11 kV_11 dc_11 pm_11 cd_11 ct_11:Value}
  {f_12:Addr} {od_12 an_12:Option Addr} {sl_12:Array (Option Value)} {oc_12 kV_12 dc_12 pm_12 cd_12 ct_12:Value}
  {f_13:Addr} {od_13 an_13:Option Addr} {sl_13:Array (Option Value)} {oc_13 kV_13 dc_13 pm_13 cd_13 ct_13:Value}
  {f_14:Addr} {od_14 an_14:Option Addr} {sl_14:Array (Option Value)} {oc_14 kV_14 dc_14 pm_14 cd_14 ct_14:Value}
  {f_15:Addr} {od_15 an_15:Option Addr} {sl_15:Array (Option Value)} {oc_15 kV_15 dc_15 pm_15 cd_15 ct_15:Value}
  {f_16:Addr} {od_16 an_16:Option Addr} {sl_16:Array (Option Value)} {oc_16 kV_16 dc_16 pm_16 cd_16 ct_16:Value}
  {f_17:Addr} {od_17 an_17:Option Addr} {sl_17:Array (Option Value)} {oc_17 kV_17 dc_17 pm_17 cd_17 ct_17:Value}
  {f_18:Addr} {od_18 an_18:Option Addr} {sl_18:Array (Option Value)} {oc_18 kV_18 dc_18 pm_18 cd_18 ct_18:Value}
  {f_19:Addr} {od_19 an_19:Option Addr} {sl_19:Array (Option Value)} {oc_19 kV_19 dc_19 pm_19 cd_19 ct_19:Value}
  {f_20:Addr} {od_20 an_20:Option Addr} {sl_20:Array (Option Value)} {oc_20 kV_20 dc_20 pm_20 cd_20 ct_20:Value}
  {f_21:Addr} {od_21 an_21:Option Addr} {sl_21:Array (Option Value)} {oc_21 kV_21 dc_21 pm_21 cd_21 ct_21:Value}
  {f_22:Addr} {od_22 an_22:Option Addr} {sl_22:Array (Option Value)} {oc_22 kV_22 dc_22 pm_22 cd_22 ct_22:Value}
  {f_23:Addr} {od_23 an_23:Option Addr} {sl_23:Array (Option Value)} {oc_23 kV_23 dc_23 pm_23 cd_23 ct_23:Value}
  {f_24:Addr} {od_24 an_24:Option Addr} {sl_24:Array (Option Value)} {oc_24 kV_24 dc_24 pm_24 cd_24 ct_24:Value}
  {f_25:Addr} {od_25 an_25:Option Addr} {sl_25:Array (Option Value)} {oc_25 kV_25 dc_25 pm_25 cd_25 ct_25:Value}
  {f_26:Addr} {od_26 an_26:Option Addr} {sl_26:Array (Option Value)} {oc_26 kV_26 dc_26 pm_26 cd_26 ct_26:Value}
  {f_27:Addr} {od_27 an_27:Option Addr} {sl_27:Array (Option Value)} {oc_27 kV_27 dc_27 pm_27 cd_27 ct_27:Value}
  {f_28:Addr} {od_28 an_28:Option Addr} {sl_28:Array (Option Value)} {oc_28 kV_28 dc_28 pm_28 cd_28 ct_28:Value}
  {f_29:Addr} {od_29 an_29:Option Addr} {sl_29:Array (Option Value)} {oc_29 kV_29 dc_29 pm_29 cd_29 ct_29:Value}
  {f_30:Addr} {od_30 an_30:Option Addr} {sl_30:Array (Option Value)} {oc_30 kV_30 dc_30 pm_30 cd_30 ct_30:Value}
  {f_31:Addr} {od_31 an_31:Option Addr} {sl_31:Array (Option Value)} {oc_31 kV_31 dc_31 pm_31 cd_31 ct_31:Value}
  {f_32:Addr} {od_32 an_32:Option Addr} {sl_32:Array (Option Value)} {oc_32 kV_32 dc_32 pm_32 cd_32 ct_32:Value}
  {f_33:Addr} {od_33 an_33:Option Addr} {sl_33:Array (Option Value)} {oc_33 kV_33 dc_33 pm_33 cd_33 ct_33:Value}
  {f_34:Addr} {od_34 an_34:Option Addr} {sl_34:Array (Option Value)} {oc_34 kV_34 dc_34 pm_34 cd_34 ct_34:Value}
  {f_35:Addr} {od_35 an_35:Option Addr} {sl_35:Array (Option Value)} {oc_35 kV_35 dc_35 pm_35 cd_35 ct_35:Value}
  {f_36:Addr} {od_36 an_36:Option Addr} {sl_36:Array (Option Value)} {oc_36 kV_36 dc_36 pm_36 cd_36 ct_36:Value}
  {f_37:Addr} {od_37 an_37:Option Addr} {sl_37:Array (Option Value)} {oc_37 kV_37 dc_37 pm_37 cd_37 ct_37:Value}
  {f_38:Addr} {od_38 an_38:Option Addr} {sl_38:Array (Option Value)} {oc_38 kV_38 dc_38 pm_38 cd_38 ct_38:Value}
  {f_39:Addr} {od_39 an_39:Option Addr} {sl_39:Array (Option Value)} {oc_39 kV_39 dc_39 pm_39 cd_39 ct_39:Value}
  {f_40:Addr} {od_40 an_40:Option Addr} {sl_40:Array (Option Value)} {oc_40 kV_40 dc_40 pm_40 cd_40 ct_40:Value}
  {f_41:Addr} {od_41 an_41:Option Addr} {sl_41:Array (Option Value)} {oc_41 kV_41 dc_41 pm_41 cd_41 ct_41:Value}
  {f_42:Addr} {od_42 an_42:Option Addr} {sl_42:Array (Option Value)} {oc_42 kV_42 dc_42 pm_42 cd_42 ct_42:Value}
  {f_43:Addr} {od_43 an_43:Option Addr} {sl_43:Array (Option Value)} {oc_43 kV_43 dc_43 pm_43 cd_43 ct_43:Value}
  {f_44:Addr} {od_44 an_44:Option Addr} {sl_44:Array (Option Value)} {oc_44 kV_44 dc_44 pm_44 cd_44 ct_44:Value}
  {f_45:Addr} {od_45 an_45:Option Addr} {sl_45:Array (Option Value)} {oc_45 kV_45 dc_45 pm_45 cd_45 ct_45:Value}
  {f_46:Addr} {od_46 an_46:Option Addr} {sl_46:Array (Option Value)} {oc_46 kV_46 dc_46 pm_46 cd_46 ct_46:Value}
  {f_47:Addr} {od_47 an_47:Option Addr} {sl_47:Array (Option Value)} {oc_47 kV_47 dc_47 pm_47 cd_47 ct_47:Value}
  {f_48:Addr} {od_48 an_48:Option Addr} {sl_48:Array (Option Value)} {oc_48 kV_48 dc_48 pm_48 cd_48 ct_48:Value}
  {f_49:Addr} {od_49 an_49:Option Addr} {sl_49:Array (Option Value)} {oc_49 kV_49 dc_49 pm_49 cd_49 ct_49:Value}
  {f_50:Addr} {od_50 an_50:Option Addr} {sl_50:Array (Option Value)} {oc_50 kV_50 dc_50 pm_50 cd_50 ct_50:Value}
  {f_51:Addr} {od_51 an_51:Option Addr} {sl_51:Array (Option Value)} {oc_51 kV_51 dc_51 pm_51 cd_51 ct_51:Value}
  {f_52:Addr} {od_52 an_52:Option Addr} {sl_52:Array (Option Value)} {oc_52 kV_52 dc_52 pm_52 cd_52 ct_52:Value}
  {f_53:Addr} {od_53 an_53:Option Addr} {sl_53:Array (Option Value)} {oc_53 kV_53 dc_53 pm_53 cd_53 ct_53:Value}
  {f_54:Addr} {od_54 an_54:Option Addr} {sl_54:Array (Option Value)} {oc_54 kV_54 dc_54 pm_54 cd_54 ct_54:Value}
  {f_55:Addr} {od_55 an_55:Option Addr} {sl_55:Array (Option Value)} {oc_55 kV_55 dc_55 pm_55 cd_55 ct_55:Value}
  (a_Floor:PySem.W.nsIn K mainGlobals "Floor" =some (some (.ref C_Floor)))
  (a_Hall:PySem.W.nsIn K mainGlobals "Hall" =some (some (.ref C_Hall)))
  (a_0:nG K "_law_cell" f_0)
  (l_0:lK K f_0 oc_0 od_0 "_law_cell" "_law_cell" Za4 .none kV_0 dc_0 pm_0 an_0 cd_0 ct_0 sl_0)
  (c_0:cI K cd_0 "_law_cell")
  (k_0:kI K f_0)
  (a_1:nG K "_law_mix" f_1)
  (l_1:lK K f_1 oc_1 od_1 "_law_mix" "_law_mix" Zcd .none kV_1 dc_1 pm_1 an_1 cd_1 ct_1 sl_1)
  (c_1:cI K cd_1 "_law_mix")
  (k_1:kI K f_1)
  (a_2:nG K "_law_lines" f_2)
  (l_2:lK K f_2 oc_2 od_2 "_law_lines" "_law_lines" Zaj .none kV_2 dc_2 pm_2 an_2 cd_2 ct_2 sl_2)
  (c_2:cI K cd_2 "_law_lines")
  (k_2:kI K f_2)
  (a_3:nG K "is_name" f_3)
  (l_3:lK K f_3 oc_3 od_3 "is_name" "is_name" Ul .none kV_3 dc_3 pm_3 an_3 cd_3 ct_3 sl_3)
  (c_3:cI K cd_3 "is_name")
  (k_3:kI K f_3)
  (a_4:mG K C_Hall "work" f_4)
  (i_4:iF K f_4)
  (l_4:lK K f_4 oc_4 od_4 "work" "Hall.work" Uh .none kV_4 dc_4 pm_4 an_4 cd_4 ct_4 sl_4)
  (c_4:cI K cd_4 "Hall.work")
  (k_4:kI K f_4)
  (a_5:nG K "is_whole" f_5)
  (l_5:lK K f_5 oc_5 od_5 "is_whole" "is_whole" US .none kV_5 dc_5 pm_5 an_5 cd_5 ct_5 sl_5)
  (c_5:cI K cd_5 "is_whole")
  (k_5:kI K f_5)
  (a_6:nG K "is_from" f_6)
  (l_6:lK K f_6 oc_6 od_6 "is_from" "is_from" Zaf .none kV_6 dc_6 pm_6 an_6 cd_6 ct_6 sl_6)
  (c_6:cI K cd_6 "is_from")
  (k_6:kI K f_6)
  (a_7:nG K "need_start" f_7)
  (l_7:lK K f_7 oc_7 od_7 "need_start" "need_start" VO .none kV_7 dc_7 pm_7 an_7 cd_7 ct_7 sl_7)
  (c_7:cI K cd_7 "need_start")
  (k_7:kI K f_7)
  (a_8:nG K "is_number_below" f_8)
  (l_8:lK K f_8 oc_8 od_8 "is_number_below" "is_number_below" Wr .none kV_8 dc_8 pm_8 an_8 cd_8 ct_8 sl_8)
  (c_8:cI K cd_8 "is_number_below")
  (k_8:kI K f_8)
  (a_9:mG K C_Hall "need_work" f_9)
  (i_9:iF K f_9)
  (l_9:lK K f_9 oc_9 od_9 "need_work" "Hall.need_work" Wv .none kV_9 dc_9 pm_9 an_9 cd_9 ct_9 sl_9)
  (c_9:cI K cd_9 "Hall.need_work")
  (k_9:kI K f_9)
  (a_10:mG K C_Hall "lay" f_10)
  (i_10:iF K f_10)
  (l_10:lK K f_10 oc_10 od_10 "lay" "Hall.lay" UD .none kV_10 dc_10 pm_10 an_10 cd_10 ct_10 sl_10)
  (c_10:cI K cd_10 "Hall.lay")
  (k_10:kI K f_10)
  (a_11:mG K C_Hall "belt" f_11)
  (i_11:iF K f_11)
  (l_11:lK K f_11 oc_11 od_11 "belt" "Hall.belt" Ub (.ref dT_Hall_belt) kV_11 dc_11 pm_11 an_11 cd_11 ct_11 sl_11)
  (t_Hall_belt:K.lookup dT_Hall_belt=some ⟨oc2_Hall_belt,od2_Hall_belt,.seq #[.int 0 dk0_Hall_belt] n2_Hall_belt,sl2_Hall_belt⟩)
  (c_11:cI K cd_11 "Hall.belt")
  (k_11:kI K f_11)
  (a_12:mG K C_Hall "__init__" f_12)
  (i_12:iF K f_12)
  (l_12:lK K f_12 oc_12 od_12 "__init__" "Hall.__init__" V9 .none kV_12 dc_12 pm_12 an_12 cd_12 ct_12 sl_12)
  (c_12:cI K cd_12 "Hall.__init__")
  (k_12:kI K f_12)
  (a_13:nG K "_law_made" f_13)
  (l_13:lK K f_13 oc_13 od_13 "_law_made" "_law_made" ZaU .none kV_13 dc_13 pm_13 an_13 cd_13 ct_13 sl_13)
  (c_13:cI K cd_13 "_law_made")
  (k_13:kI K f_13)
  (a_14:mG K C_Hall "belts" f_14)
  (i_14:iF K f_14)
  (l_14:lK K f_14 oc_14 od_14 "belts" "Hall.belts" VC .none kV_14 dc_14 pm_14 an_14 cd_14 ct_14 sl_14)
  (c_14:cI K cd_14 "Hall.belts")
  (k_14:kI K f_14)
  (a_15:nG K "starts_of" f_15)
  (l_15:lK K f_15 oc_15 od_15 "starts_of" "starts_of" Vj .none kV_15 dc_15 pm_15 an_15 cd_15 ct_15 sl_15)
  (c_15:cI K cd_15 "starts_of")
  (k_15:kI K f_15)
  (a_16:nG K "need_rooms" f_16)
  (l_16:lK K f_16 oc_16 od_16 "need_rooms" "need_rooms" WV .none kV_16 dc_16 pm_16 an_16 cd_16 ct_16 sl_16)
  (c_16:cI K cd_16 "need_rooms")
  (k_16:kI K f_16)
  (a_17:nG K "hall_of" f_17)
  (l_17:lK K f_17 oc_17 od_17 "hall_of" "hall_of" Zao .none kV_17 dc_17 pm_17 an_17 cd_17 ct_17 sl_17)
  (c_17:cI K cd_17 "hall_of")
  (k_17:kI K f_17)
  (a_18:nG K "back_of" f_18)
  (l_18:lK K f_18 oc_18 od_18 "back_of" "back_of" Zar .none kV_18 dc_18 pm_18 an_18 cd_18 ct_18 sl_18)
  (c_18:cI K cd_18 "back_of")
  (k_18:kI K f_18)
  (a_19:mG K C_Hall "names" f_19)
  (i_19:iF K f_19)
  (l_19:lK K f_19 oc_19 od_19 "names" "Hall.names" VQ .none kV_19 dc_19 pm_19 an_19 cd_19 ct_19 sl_19)
  (c_19:cI K cd_19 "Hall.names")
  (k_19:kI K f_19)
  (a_20:nG K "backed" f_20)
  (l_20:lK K f_20 oc_20 od_20 "backed" "backed" U0 .none kV_20 dc_20 pm_20 an_20 cd_20 ct_20 sl_20)
  (c_20:cI K cd_20 "backed")
  (k_20:kI K f_20)
  (a_21:nG K "_law_with_back" f_21)
  (l_21:lK K f_21 oc_21 od_21 "_law_with_back" "_law_with_back" WH .none kV_21 dc_21 pm_21 an_21 cd_21 ct_21 sl_21)
  (c_21:cI K cd_21 "_law_with_back")
  (k_21:kI K f_21)
  (a_22:nG K "_law_refused" f_22)
  (l_22:lK K f_22 oc_22 od_22 "_law_refused" "_law_refused" Uf .none kV_22 dc_22 pm_22 an_22 cd_22 ct_22 sl_22)
  (c_22:cI K cd_22 "_law_refused")
  (k_22:kI K f_22)
  (a_23:nG K "ways_of" f_23)
  (l_23:lK K f_23 oc_23 od_23 "ways_of" "ways_of" Up .none kV_23 dc_23 pm_23 an_23 cd_23 ct_23 sl_23)
  (c_23:cI K cd_23 "ways_of")
  (k_23:kI K f_23)
  (a_24:nG K "tree_from" f_24)
  (l_24:lK K f_24 oc_24 od_24 "tree_from" "tree_from" Uc .none kV_24 dc_24 pm_24 an_24 cd_24 ct_24 sl_24)
  (c_24:cI K cd_24 "tree_from")
  (k_24:kI K f_24)
  (a_25:nG K "forest_of" f_25)
  (l_25:lK K f_25 oc_25 od_25 "forest_of" "forest_of" Ug .none kV_25 dc_25 pm_25 an_25 cd_25 ct_25 sl_25)
  (c_25:cI K cd_25 "forest_of")
  (k_25:kI K f_25)
  (a_26:nG K "pieces_of" f_26)
  (l_26:lK K f_26 oc_26 od_26 "pieces_of" "pieces_of" Vi .none kV_26 dc_26 pm_26 an_26 cd_26 ct_26 sl_26)
  (c_26:cI K cd_26 "pieces_of")
  (k_26:kI K f_26)
  (a_27:nG K "_law_pieces" f_27)
  (l_27:lK K f_27 oc_27 od_27 "_law_pieces" "_law_pieces" VE .none kV_27 dc_27 pm_27 an_27 cd_27 ct_27 sl_27)
  (c_27:cI K cd_27 "_law_pieces")
  (k_27:kI K f_27)
  (a_28:nG K "_law_is_ready" f_28)
  (l_28:lK K f_28 oc_28 od_28 "_law_is_ready" "_law_is_ready" WX .none kV_28 dc_28 pm_28 an_28 cd_28 ct_28 sl_28)
  (c_28:cI K cd_28 "_law_is_ready")
  (k_28:kI K f_28)
  (a_29:mG K C_Hall "entering" f_29)
  (i_29:iF K f_29)
  (l_29:lK K f_29 oc_29 od_29 "entering" "Hall.entering" Wc .none kV_29 dc_29 pm_29 an_29 cd_29 ct_29 sl_29)
  (c_29:cI K cd_29 "Hall.entering")
  (k_29:kI K f_29)
  (a_30:mG K C_Hall "leaving" f_30)
  (i_30:iF K f_30)
  (l_30:lK K f_30 oc_30 od_30 "leaving" "Hall.leaving" Wu .none kV_30 dc_30 pm_30 an_30 cd_30 ct_30 sl_30)
  (c_30:cI K cd_30 "Hall.leaving")
  (k_30:kI K f_30)
  (a_31:mG K C_Hall "need_belt" f_31)
  (i_31:iF K f_31)
  (l_31:lK K f_31 oc_31 od_31 "need_belt" "Hall.need_belt" Wx .none kV_31 dc_31 pm_31 an_31 cd_31 ct_31 sl_31)
  (c_31:cI K cd_31 "Hall.need_belt")
  (k_31:kI K f_31)
  (a_32:mG K C_Hall "belt_at" f_32)
  (i_32:iF K f_32)
  (l_32:lK K f_32 oc_32 od_32 "belt_at" "Hall.belt_at" Va .none kV_32 dc_32 pm_32 an_32 cd_32 ct_32 sl_32)
  (c_32:cI K cd_32 "Hall.belt_at")
  (k_32:kI K f_32)
  (a_33:mG K C_Floor "lying" f_33)
  (i_33:iF K f_33)
  (l_33:lK K f_33 oc_33 od_33 "lying" "Floor.lying" Vo .none kV_33 dc_33 pm_33 an_33 cd_33 ct_33 sl_33)
  (c_33:cI K cd_33 "Floor.lying")
  (k_33:kI K f_33)
  (a_34:nG K "enough" f_34)
  (l_34:lK K f_34 oc_34 od_34 "enough" "enough" U6 .none kV_34 dc_34 pm_34 an_34 cd_34 ct_34 sl_34)
  (c_34:cI K cd_34 "enough")
  (k_34:kI K f_34)
  (a_35:mG K C_Floor "need_work" f_35)
  (i_35:iF K f_35)
  (l_35:lK K f_35 oc_35 od_35 "need_work" "Floor.need_work" Wp .none kV_35 dc_35 pm_35 an_35 cd_35 ct_35 sl_35)
  (c_35:cI K cd_35 "Floor.need_work")
  (k_35:kI K f_35)
  (a_36:mG K C_Floor "ready" f_36)
  (i_36:iF K f_36)
  (l_36:lK K f_36 oc_36 od_36 "ready" "Floor.ready" Vq .none kV_36 dc_36 pm_36 an_36 cd_36 ct_36 sl_36)
  (c_36:cI K cd_36 "Floor.ready")
  (k_36:kI K f_36)
  (a_37:nG K "takes_of" f_37)
  (l_37:lK K f_37 oc_37 od_37 "takes_of" "takes_of" VI .none kV_37 dc_37 pm_37 an_37 cd_37 ct_37 sl_37)
  (c_37:cI K cd_37 "takes_of")
  (k_37:kI K f_37)
  (a_38:nG K "gives_of" f_38)
  (l_38:lK K f_38 oc_38 od_38 "gives_of" "gives_of" VU .none kV_38 dc_38 pm_38 an_38 cd_38 ct_38 sl_38)
  (c_38:cI K cd_38 "gives_of")
  (k_38:kI K f_38)
  (a_39:mG K C_Floor "__init__" f_39)
  (i_39:iF K f_39)
  (l_39:lK K f_39 oc_39 od_39 "__init__" "Floor.__init__" Y1 .none kV_39 dc_39 pm_39 an_39 cd_39 ct_39 sl_39)
  (c_39:cI K cd_39 "Floor.__init__")
  (k_39:kI K f_39)
  (a_40:nG K "_law_hall_like" f_40)
  (l_40:lK K f_40 oc_40 od_40 "_law_hall_like" "_law_hall_like" Yj .none kV_40 dc_40 pm_40 an_40 cd_40 ct_40 sl_40)
  (c_40:cI K cd_40 "_law_hall_like")
  (k_40:kI K f_40)
  (a_41:nG K "_law_spoilt" f_41)
  (l_41:lK K f_41 oc_41 od_41 "_law_spoilt" "_law_spoilt" UO .none kV_41 dc_41 pm_41 an_41 cd_41 ct_41 sl_41)
  (c_41:cI K cd_41 "_law_spoilt")
  (k_41:kI K f_41)
  (a_42:nG K "divisor" f_42)
  (l_42:lK K f_42 oc_42 od_42 "divisor" "divisor" Zan .none kV_42 dc_42 pm_42 an_42 cd_42 ct_42 sl_42)
  (c_42:cI K cd_42 "divisor")
  (k_42:kI K f_42)
  (a_43:nG K "ratio" f_43)
  (l_43:lK K f_43 oc_43 od_43 "ratio" "ratio" Zcc .none kV_43 dc_43 pm_43 an_43 cd_43 ct_43 sl_43)
  (c_43:cI K cd_43 "ratio")
  (k_43:kI K f_43)
  (a_44:nG K "times" f_44)
  (l_44:lK K f_44 oc_44 od_44 "times" "times" Zcl .none kV_44 dc_44 pm_44 an_44 cd_44 ct_44 sl_44)
  (c_44:cI K cd_44 "times")
  (k_44:kI K f_44)
  (a_45:nG K "gain" f_45)
  (l_45:lK K f_45 oc_45 od_45 "gain" "gain" Zds .none kV_45 dc_45 pm_45 an_45 cd_45 ct_45 sl_45)
  (c_45:cI K cd_45 "gain")
  (k_45:kI K f_45)
  (a_46:nG K "shares_of" f_46)
  (l_46:lK K f_46 oc_46 od_46 "shares_of" "shares_of" Ue .none kV_46 dc_46 pm_46 an_46 cd_46 ct_46 sl_46)
  (c_46:cI K cd_46 "shares_of")
  (k_46:kI K f_46)
  (a_47:nG K "multiple" f_47)
  (l_47:lK K f_47 oc_47 od_47 "multiple" "multiple" UN .none kV_47 dc_47 pm_47 an_47 cd_47 ct_47 sl_47)
  (c_47:cI K cd_47 "multiple")
  (k_47:kI K f_47)
  (a_48:nG K "rates_by" f_48)
  (l_48:lK K f_48 oc_48 od_48 "rates_by" "rates_by" VP .none kV_48 dc_48 pm_48 an_48 cd_48 ct_48 sl_48)
  (c_48:cI K cd_48 "rates_by")
  (k_48:kI K f_48)
  (a_49:nG K "change_of" f_49)
  (l_49:lK K f_49 oc_49 od_49 "change_of" "change_of" Vg .none kV_49 dc_49 pm_49 an_49 cd_49 ct_49 sl_49)
  (c_49:cI K cd_49 "change_of")
  (k_49:kI K f_49)
  (a_50:nG K "way_to" f_50)
  (l_50:lK K f_50 oc_50 od_50 "way_to" "way_to" ZaZ .none kV_50 dc_50 pm_50 an_50 cd_50 ct_50 sl_50)
  (c_50:cI K cd_50 "way_to")
  (k_50:kI K f_50)
  (a_51:nG K "shared_steps" f_51)
  (l_51:lK K f_51 oc_51 od_51 "shared_steps" "shared_steps" W9 .none kV_51 dc_51 pm_51 an_51 cd_51 ct_51 sl_51)
  (c_51:cI K cd_51 "shared_steps")
  (k_51:kI K f_51)
  (a_52:nG K "ring_through" f_52)
  (l_52:lK K f_52 oc_52 od_52 "ring_through" "ring_through" YV .none kV_52 dc_52 pm_52 an_52 cd_52 ct_52 sl_52)
  (c_52:cI K cd_52 "ring_through")
  (k_52:kI K f_52)
  (a_53:nG K "rates_of" f_53)
  (l_53:lK K f_53 oc_53 od_53 "rates_of" "rates_of" UH .none kV_53 dc_53 pm_53 an_53 cd_53 ct_53 sl_53)
  (c_53:cI K cd_53 "rates_of")
  (k_53:kI K f_53)
  (a_54:mG K C_Hall "fill" f_54)
  (i_54:iF K f_54)
  (l_54:lK K f_54 oc_54 od_54 "fill" "Hall.fill" Ua .none kV_54 dc_54 pm_54 an_54 cd_54 ct_54 sl_54)
  (c_54:cI K cd_54 "Hall.fill")
  (k_54:kI K f_54)
  (a_55:nG K "law" f_55)
  (l_55:lK K f_55 oc_55 od_55 "law" "law" Zdj .none kV_55 dc_55 pm_55 an_55 cd_55 ct_55 sl_55)
  (c_55:cI K cd_55 "law")
  (k_55:kI K f_55)
  (pg_Floor:PySem.W.plainGet K C_Floor Str.empty=true)
  (hd_Floor:PySem.W.hasDictIn K C_Floor=true)
  (po_Floor:PySem.W.plainOver K C_Floor=true)
  (sa_Floor:PySem.W.findIn K (.ref C_Floor) "__setattr__" =some (some (.builtin "object.__setattr__")))
  (mk_Floor:PySem.W.makesIn K C_Floor=true)
  (kc_Floor:PySem.W.keepIn K (.ref C_Floor)=true)
  (na_Floor_takes:PySem.W.findIn K (.ref C_Floor) "takes" =some none)
  (na_Floor_gives:PySem.W.findIn K (.ref C_Floor) "gives" =some none)
  (na_Floor_heaps:PySem.W.findIn K (.ref C_Floor) "heaps" =some none)
  (pg_Hall:PySem.W.plainGet K C_Hall Str.empty=true)
  (hd_Hall:PySem.W.hasDictIn K C_Hall=true)
  (po_Hall:PySem.W.plainOver K C_Hall=true)
  (sa_Hall:PySem.W.findIn K (.ref C_Hall) "__setattr__" =some (some (.builtin "object.__setattr__")))
  (mk_Hall:PySem.W.makesIn K C_Hall=true)
  (kc_Hall:PySem.W.keepIn K (.ref C_Hall)=true)
  (na_Hall_numbers:PySem.W.findIn K (.ref C_Hall) "numbers" =some none)
  (na_Hall_rows:PySem.W.findIn K (.ref C_Hall) "rows" =some none)
  (gx_RateError:PySem.W.nsIn K mainGlobals "RateError" =some (some (.ref X_RateError)))
  (ex_RateError:PySem.W.excIn K X_RateError [.type "ValueError",.type "Exception",.type "BaseException",.type "object"] "ValueError.__new__" =true)
  (gx_NoName:PySem.W.nsIn K mainGlobals "NoName" =some (some (.ref X_NoName)))
  (ex_NoName:PySem.W.excIn K X_NoName [.type "ValueError",.type "Exception",.type "BaseException",.type "object"] "ValueError.__new__" =true)
  (gx_Twice:PySem.W.nsIn K mainGlobals "Twice" =some (some (.ref X_Twice)))
  (ex_Twice:PySem.W.excIn K X_Twice [.type "ValueError",.type "Exception",.type "BaseException",.type "object"] "ValueError.__new__" =true)
  (gx_TooMuch:PySem.W.nsIn K mainGlobals "TooMuch" =some (some (.ref X_TooMuch)))
  (ex_TooMuch:PySem.W.excIn K X_TooMuch [.type "ValueError",.type "Exception",.type "BaseException",.type "object"] "ValueError.__new__" =true)
  (gx_NoWork:PySem.W.nsIn K mainGlobals "NoWork" =some (some (.ref X_NoWork)))
  (ex_NoWork:PySem.W.excIn K X_NoWork [.type "ValueError",.type "Exception",.type "BaseException",.type "object"] "ValueError.__new__" =true)
  (gx_NoBelt:PySem.W.nsIn K mainGlobals "NoBelt" =some (some (.ref X_NoBelt)))
  (ex_NoBelt:PySem.W.excIn K X_NoBelt [.type "ValueError",.type "Exception",.type "BaseException",.type "object"] "ValueError.__new__" =true)
  (gx_NoRate:PySem.W.nsIn K mainGlobals "NoRate" =some (some (.ref X_NoRate)))
  (ex_NoRate:PySem.W.excIn K X_NoRate [.type "ValueError",.type "Exception",.type "BaseException",.type "object"] "ValueError.__new__" =true)
  (gx_NoRoom:PySem.W.nsIn K mainGlobals "NoRoom" =some (some (.ref X_NoRoom)))
  (ex_NoRoom:PySem.W.excIn K X_NoRoom [.type "ValueError",.type "Exception",.type "BaseException",.type "object"] "ValueError.__new__" =true)
  (em_RateError_RateError:PySem.W.exmOne K (.ref X_RateError) (.ref X_RateError)=some true)
  (em_NoName_RateError:PySem.W.exmOne K (.ref X_NoName) (.ref X_RateError)=some true)
  (em_Twice_RateError:PySem.W.exmOne K (.ref X_Twice) (.ref X_RateError)=some true)
  (em_TooMuch_RateError:PySem.W.exmOne K (.ref X_TooMuch) (.ref X_RateError)=some true)
  (em_NoWork_RateError:PySem.W.exmOne K (.ref X_NoWork) (.ref X_RateError)=some true)
  (em_NoBelt_RateError:PySem.W.exmOne K (.ref X_NoBelt) (.ref X_RateError)=some true)
  (em_NoRate_RateError:PySem.W.exmOne K (.ref X_NoRate) (.ref X_RateError)=some true)
  (em_NoRoom_RateError:PySem.W.exmOne K (.ref X_NoRoom) (.ref X_RateError)=some true)
  (xg:PySem.W.specialIn K (.builtin "object.__class__") "__get__" =some (some (.builtin "getset_descriptor.__get__")))
  (xt:PySem.W.takesIn K (.builtin "object.__class__")=some true)
  (x1_NoName:PySem.W.findIn K (.ref X_NoName) "__getattribute__" =some (some (.builtin "BaseException.__getattribute__")))
  (x2_NoName:PySem.W.findIn K (.ref X_NoName) "__getattr__" =some none)
  (x3_NoName:PySem.W.findIn K (.ref X_NoName) "__class__" =some (some (.builtin "object.__class__")))
  (x4_NoName:PySem.W.subIn K (.ref X_NoName) (.type "BaseException")=some true)
  (x5_NoName:PySem.W.mroIn K X_NoName (.type "object")=some true)
  (x1_Twice:PySem.W.findIn K (.ref X_Twice) "__getattribute__" =some (some (.builtin "BaseException.__getattribute__")))
  (x2_Twice:PySem.W.findIn K (.ref X_Twice) "__getattr__" =some none)
  (x3_Twice:PySem.W.findIn K (.ref X_Twice) "__class__" =some (some (.builtin "object.__class__")))
  (x4_Twice:PySem.W.subIn K (.ref X_Twice) (.type "BaseException")=some true)
  (x5_Twice:PySem.W.mroIn K X_Twice (.type "object")=some true)
  (x1_TooMuch:PySem.W.findIn K (.ref X_TooMuch) "__getattribute__" =some (some (.builtin "BaseException.__getattribute__")))
  (x2_TooMuch:PySem.W.findIn K (.ref X_TooMuch) "__getattr__" =some none)
  (x3_TooMuch:PySem.W.findIn K (.ref X_TooMuch) "__class__" =some (some (.builtin "object.__class__")))
  (x4_TooMuch:PySem.W.subIn K (.ref X_TooMuch) (.type "BaseException")=some true)
  (x5_TooMuch:PySem.W.mroIn K X_TooMuch (.type "object")=some true)
  (x1_NoWork:PySem.W.findIn K (.ref X_NoWork) "__getattribute__" =some (some (.builtin "BaseException.__getattribute__")))
  (x2_NoWork:PySem.W.findIn K (.ref X_NoWork) "__getattr__" =some none)
  (x3_NoWork:PySem.W.findIn K (.ref X_NoWork) "__class__" =some (some (.builtin "object.__class__")))
  (x4_NoWork:PySem.W.subIn K (.ref X_NoWork) (.type "BaseException")=some true)
  (x5_NoWork:PySem.W.mroIn K X_NoWork (.type "object")=some true)
  (x1_NoBelt:PySem.W.findIn K (.ref X_NoBelt) "__getattribute__" =some (some (.builtin "BaseException.__getattribute__")))
  (x2_NoBelt:PySem.W.findIn K (.ref X_NoBelt) "__getattr__" =some none)
  (x3_NoBelt:PySem.W.findIn K (.ref X_NoBelt) "__class__" =some (some (.builtin "object.__class__")))
  (x4_NoBelt:PySem.W.subIn K (.ref X_NoBelt) (.type "BaseException")=some true)
  (x5_NoBelt:PySem.W.mroIn K X_NoBelt (.type "object")=some true)
  (x1_NoRate:PySem.W.findIn K (.ref X_NoRate) "__getattribute__" =some (some (.builtin "BaseException.__getattribute__")))
  (x2_NoRate:PySem.W.findIn K (.ref X_NoRate) "__getattr__" =some none)
  (x3_NoRate:PySem.W.findIn K (.ref X_NoRate) "__class__" =some (some (.builtin "object.__class__")))
  (x4_NoRate:PySem.W.subIn K (.ref X_NoRate) (.type "BaseException")=some true)
  (x5_NoRate:PySem.W.mroIn K X_NoRate (.type "object")=some true)
  (x1_NoRoom:PySem.W.findIn K (.ref X_NoRoom) "__getattribute__" =some (some (.builtin "BaseException.__getattribute__")))
  (x2_NoRoom:PySem.W.findIn K (.ref X_NoRoom) "__getattr__" =some none)
  (x3_NoRoom:PySem.W.findIn K (.ref X_NoRoom) "__class__" =some (some (.builtin "object.__class__")))
  (x4_NoRoom:PySem.W.subIn K (.ref X_NoRoom) (.type "BaseException")=some true)
  (x5_NoRoom:PySem.W.mroIn K X_NoRoom (.type "object")=some true)
  (ki_NoName_NoRoom:PySem.W.kitOne K (.ref X_NoName) (.ref X_NoRoom)=some false)
  (ki_NoName_ValueError:PySem.W.kitOne K (.ref X_NoName) (.type "ValueError")=some true)
  (ki_NoName_NoRate:PySem.W.kitOne K (.ref X_NoName) (.ref X_NoRate)=some false)
  (ki_NoName_TooMuch:PySem.W.kitOne K (.ref X_NoName) (.ref X_TooMuch)=some false)
  (ki_Twice_NoRoom:PySem.W.kitOne K (.ref X_Twice) (.ref X_NoRoom)=some false)
  (ki_Twice_ValueError:PySem.W.kitOne K (.ref X_Twice) (.type "ValueError")=some true)
  (ki_Twice_NoRate:PySem.W.kitOne K (.ref X_Twice) (.ref X_NoRate)=some false)
  (ki_Twice_TooMuch:PySem.W.kitOne K (.ref X_Twice) (.ref X_TooMuch)=some false)
  (ki_TooMuch_NoRoom:PySem.W.kitOne K (.ref X_TooMuch) (.ref X_NoRoom)=some false)
  (ki_TooMuch_ValueError:PySem.W.kitOne K (.ref X_TooMuch) (.type "ValueError")=some true)
  (ki_TooMuch_NoRate:PySem.W.kitOne K (.ref X_TooMuch) (.ref X_NoRate)=some false)
  (ki_TooMuch_TooMuch:PySem.W.kitOne K (.ref X_TooMuch) (.ref X_TooMuch)=some true)
  (ki_NoWork_NoRoom:PySem.W.kitOne K (.ref X_NoWork) (.ref X_NoRoom)=some false)
  (ki_NoWork_ValueError:PySem.W.kitOne K (.ref X_NoWork) (.type "ValueError")=some true)
  (ki_NoWork_NoRate:PySem.W.kitOne K (.ref X_NoWork) (.ref X_NoRate)=some false)
  (ki_NoWork_TooMuch:PySem.W.kitOne K (.ref X_NoWork) (.ref X_TooMuch)=some false)
  (ki_NoBelt_NoRoom:PySem.W.kitOne K (.ref X_NoBelt) (.ref X_NoRoom)=some false)
  (ki_NoBelt_ValueError:PySem.W.kitOne K (.ref X_NoBelt) (.type "ValueError")=some true)
  (ki_NoBelt_NoRate:PySem.W.kitOne K (.ref X_NoBelt) (.ref X_NoRate)=some false)
  (ki_NoBelt_TooMuch:PySem.W.kitOne K (.ref X_NoBelt) (.ref X_TooMuch)=some false)
  (ki_NoRate_NoRoom:PySem.W.kitOne K (.ref X_NoRate) (.ref X_NoRoom)=some false)
  (ki_NoRate_ValueError:PySem.W.kitOne K (.ref X_NoRate) (.type "ValueError")=some true)
  (ki_NoRate_NoRate:PySem.W.kitOne K (.ref X_NoRate) (.ref X_NoRate)=some true)
  (ki_NoRate_TooMuch:PySem.W.kitOne K (.ref X_NoRate) (.ref X_TooMuch)=some false)
  (ki_NoRoom_NoRoom:PySem.W.kitOne K (.ref X_NoRoom) (.ref X_NoRoom)=some true)
  (ki_NoRoom_ValueError:PySem.W.kitOne K (.ref X_NoRoom) (.type "ValueError")=some true)
  (ki_NoRoom_NoRate:PySem.W.kitOne K (.ref X_NoRoom) (.ref X_NoRate)=some false)
  (ki_NoRoom_TooMuch:PySem.W.kitOne K (.ref X_NoRoom) (.ref X_TooMuch)=some false)
  (c_MOST_LETTERS:PySem.W.nsIn K mainGlobals "MOST_LETTERS" =some (some (.int 8 tk_MOST_LETTERS)))
  (c_MOST_WORKS:PySem.W.nsIn K mainGlobals "MOST_WORKS" =some (some (.int 30 tk_MOST_WORKS)))
  (c_MOST_BELTS:PySem.W.nsIn K mainGlobals "MOST_BELTS" =some (some (.int 60 tk_MOST_BELTS)))
  (z_ValueError:PySem.W.nsIn K mainGlobals "ValueError" =some none)
  (z_all:PySem.W.nsIn K mainGlobals "all" =some none)
  (z_bool:PySem.W.nsIn K mainGlobals "bool" =some none)
  (z_enumerate:PySem.W.nsIn K mainGlobals "enumerate" =some none)
  (z_int:PySem.W.nsIn K mainGlobals "int" =some none)
  (z_isinstance:PySem.W.nsIn K mainGlobals "isinstance" =some none)
  (z_len:PySem.W.nsIn K mainGlobals "len" =some none)
  (z_list:PySem.W.nsIn K mainGlobals "list" =some none)
  (z_min:PySem.W.nsIn K mainGlobals "min" =some none)
  (z_range:PySem.W.nsIn K mainGlobals "range" =some none)
  (z_reversed:PySem.W.nsIn K mainGlobals "reversed" =some none)
  (z_sorted:PySem.W.nsIn K mainGlobals "sorted" =some none)
  (z_str:PySem.W.nsIn K mainGlobals "str" =some none)
  (z_tuple:PySem.W.nsIn K mainGlobals "tuple" =some none)
  (z_zip:PySem.W.nsIn K mainGlobals "zip" =some none)
  :∃T:Tp K mg,True:=by
 have F_0:=ZB (st:=Za4) l_0 c_0 k_0;have F_1:=ZB (st:=Zcd) l_1 c_1 k_1;have F_2:=ZB (st:=Zaj) l_2 c_2 k_2;have F_3:=ZB (st:=Ul) l_3 c_3 k_3;have F_4:=ZB (st:=Uh) l_4 c_4 k_4;have F_5:=ZB (st:=US) l_5 c_5 k_5;have F_6:=ZB (st:=Zaf) l_6 c_6 k_6;have F_7:=ZB (st:=VO) l_7 c_7 k_7;have F_8:=ZB (st:=Wr) l_8 c_8 k_8;have F_9:=ZB (st:=Wv) l_9 c_9 k_9;have F_10:=ZB (st:=UD) l_10 c_10 k_10;have F_11:=Zkq (st:=Ub) l_11 c_11 k_11;have F_12:=ZB (st:=V9) l_12 c_12 k_12;have F_13:=ZB (st:=ZaU) l_13 c_13 k_13;have F_14:=ZB (st:=VC) l_14 c_14 k_14;have F_15:=ZB (st:=Vj) l_15 c_15 k_15;have F_16:=ZB (st:=WV) l_16 c_16 k_16;have F_17:=ZB (st:=Zao) l_17 c_17 k_17;have F_18:=ZB (st:=Zar) l_18 c_18 k_18;have F_19:=ZB (st:=VQ) l_19 c_19 k_19;have F_20:=ZB (st:=U0) l_20 c_20 k_20;have F_21:=ZB (st:=WH) l_21 c_21 k_21;have F_22:=ZB (st:=Uf) l_22 c_22 k_22;have F_23:=ZB (st:=Up) l_23 c_23 k_23;have F_24:=ZB (st:=Uc) l_24 c_24 k_24;have F_25:=ZB (st:=Ug) l_25 c_25 k_25;have F_26:=ZB (st:=Vi) l_26 c_26 k_26;have F_27:=ZB (st:=VE) l_27 c_27 k_27;have F_28:=ZB (st:=WX) l_28 c_28 k_28;have F_29:=ZB (st:=Wc) l_29 c_29 k_29;have F_30:=ZB (st:=Wu) l_30 c_30 k_30;have F_31:=ZB (st:=Wx) l_31 c_31 k_31;have F_32:=ZB (st:=Va) l_32 c_32 k_32;have F_33:=ZB (st:=Vo) l_33 c_33 k_33;have F_34:=ZB (st:=U6) l_34 c_34 k_34;have F_35:=ZB (st:=Wp) l_35 c_35 k_35;have F_36:=ZB (st:=Vq) l_36 c_36 k_36;have F_37:=ZB (st:=VI) l_37 c_37 k_37;have F_38:=ZB (st:=VU) l_38 c_38 k_38;have F_39:=ZB (st:=Y1) l_39 c_39 k_39;have F_40:=ZB (st:=Yj) l_40 c_40 k_40;have F_41:=ZB (st:=UO) l_41 c_41 k_41;have F_42:=ZB (st:=Zan) l_42 c_42 k_42;have F_43:=ZB (st:=Zcc) l_43 c_43 k_43;have F_44:=ZB (st:=Zcl) l_44 c_44 k_44;have F_45:=ZB (st:=Zds) l_45 c_45 k_45;have F_46:=ZB (st:=Ue) l_46 c_46 k_46;have F_47:=ZB (st:=UN) l_47 c_47 k_47;have F_48:=ZB (st:=VP) l_48 c_48 k_48;have F_49:=ZB (st:=Vg) l_49 c_49 k_49;have F_50:=ZB (st:=ZaZ) l_50 c_50 k_50;have F_51:=ZB (st:=W9) l_51 c_51 k_51;have F_52:=ZB (st:=YV) l_52 c_52 k_52;have F_53:=ZB (st:=UH) l_53 c_53 k_53;have F_54:=ZB (st:=Ua) l_54 c_54 k_54;have F_55:=ZB (st:=Zdj) l_55 c_55 k_55;exact⟨{
  f_l_cell:=f_0,d_l_cell:=_,F_l_cell:=F_0,
  b_l_cell:=F_0.binds fun _ _ _ _ _ _ us hl=>by revert hl;revert us;exact Z7 (fun _ _=>rfl),
  m_l_cell:=PySem.W.mg_of X G a_0,
  f_l_mix:=f_1,d_l_mix:=_,F_l_mix:=F_1,
  b_l_mix:=F_1.binds fun _ _ _ _ _ _ us hl=>by revert hl;revert us;exact Z7 (fun _ _=>rfl),
  m_l_mix:=PySem.W.mg_of X G a_1,
  f_l_lines:=f_2,d_l_lines:=_,F_l_lines:=F_2,
  b_l_lines:=F_2.binds fun _ _ _ _ _ _ us hl=>by revert hl;revert us;exact Z7 (fun _ _=>rfl),
  m_l_lines:=PySem.W.mg_of X G a_2,
  f_is_name:=f_3,d_is_name:=_,F_is_name:=F_3,
  b_is_name:=F_3.binds fun _ _ _ _ _ _ us hl=>by revert hl;revert us;exact V5 (fun _=>rfl),
  m_is_name:=PySem.W.mg_of X G a_3,
  f_Hall_work:=f_4,d_Hall_work:=_,F_Hall_work:=F_4,
  b_Hall_work:=F_4.binds fun _ _ _ _ _ _ us hl=>by revert hl;revert us;exact Z7 (fun _ _=>rfl),
  f_is_whole:=f_5,d_is_whole:=_,F_is_whole:=F_5,
  b_is_whole:=F_5.binds fun _ _ _ _ _ _ us hl=>by revert hl;revert us;exact V5 (fun _=>rfl),
  m_is_whole:=PySem.W.mg_of X G a_5,
  f_is_from:=f_6,d_is_from:=_,F_is_from:=F_6,
  b_is_from:=F_6.binds fun _ _ _ _ _ _ us hl=>by revert hl;revert us;exact Z7 (fun _ _=>rfl),
  m_is_from:=PySem.W.mg_of X G a_6,
  f_need_start:=f_7,d_need_start:=_,F_need_start:=F_7,
  b_need_start:=F_7.binds fun _ _ _ _ _ _ us hl=>by revert hl;revert us;exact V5 (fun _=>rfl),
  m_need_start:=PySem.W.mg_of X G a_7,
  f_is_number_below:=f_8,d_is_number_below:=_,F_is_number_below:=F_8,
  b_is_number_below:=F_8.binds fun _ _ _ _ _ _ us hl=>by revert hl;revert us;exact Z7 (fun _ _=>rfl),
  m_is_number_below:=PySem.W.mg_of X G a_8,
  f_Hall_need_work:=f_9,d_Hall_need_work:=_,F_Hall_need_work:=F_9,
  b_Hall_need_work:=F_9.binds fun _ _ _ _ _ _ us hl=>by revert hl;revert us;exact Z7 (fun _ _=>rfl),
  f_Hall_lay:=f_10,d_Hall_lay:=_,F_Hall_lay:=F_10,
  b_Hall_lay:=F_10.binds fun _ _ _ _ _ _ us hl=>by revert hl;revert us;exact Z7 (fun _ _=>rfl),
  f_Hall_belt:=f_11,d_Hall_belt:=_,F_Hall_belt:=F_11,
  dT_Hall_belt:=dT_Hall_belt,
  dk0_Hall_belt:=dk0_Hall_belt,
  b_Hall_belt:=fun s us X hl=>(match us,(show us.length=6 by simpa using hl) with| [_,_,_,_,_,_],_=>PySem.W.binds_K X rfl t_Hall_belt rfl rfl rfl),
  b1_Hall_belt:=fun s us X hl=>(match us,(show us.length=5 by simpa using hl) with| [_,_,_,_,_],_=>PySem.W.binds_K X rfl t_Hall_belt rfl rfl rfl),
  v1_Hall_belt:=(.cons ⟨_,rfl⟩ .nil),
  f_Hall_init:=f_12,d_Hall_init:=_,F_Hall_init:=F_12,
  b_Hall_init:=F_12.binds fun _ _ _ _ _ _ us hl=>by revert hl;revert us;exact V5 (fun _=>rfl),
  f_l_made:=f_13,d_l_made:=_,F_l_made:=F_13,
  b_l_made:=F_13.binds fun _ _ _ _ _ _ us hl=>by revert hl;revert us;exact Z7 (fun _ _=>rfl),
  m_l_made:=PySem.W.mg_of X G a_13,
  f_Hall_belts:=f_14,d_Hall_belts:=_,F_Hall_belts:=F_14,
  b_Hall_belts:=F_14.binds fun _ _ _ _ _ _ us hl=>by revert hl;revert us;exact V5 (fun _=>rfl),
  f_starts_of:=f_15,d_starts_of:=_,F_starts_of:=F_15,
  b_starts_of:=F_15.binds fun _ _ _ _ _ _ us hl=>by revert hl;revert us;exact V5 (fun _=>rfl),
  m_starts_of:=PySem.W.mg_of X G a_15,
  f_need_rooms:=f_16,d_need_rooms:=_,F_need_rooms:=F_16,
  b_need_rooms:=F_16.binds fun _ _ _ _ _ _ us hl=>by revert hl;revert us;exact Z7 (fun _ _=>rfl),
  m_need_rooms:=PySem.W.mg_of X G a_16,
  f_hall_of:=f_17,d_hall_of:=_,F_hall_of:=F_17,
  b_hall_of:=F_17.binds fun _ _ _ _ _ _ us hl=>by revert hl;revert us;exact Z7 (fun _ _=>rfl),
  m_hall_of:=PySem.W.mg_of X G a_17,
  f_back_of:=f_18,d_back_of:=_,F_back_of:=F_18,
  b_back_of:=F_18.binds fun _ _ _ _ _ _ us hl=>by revert hl;revert us;exact Z7 (fun _ _=>rfl),
  m_back_of:=PySem.W.mg_of X G a_18,
  f_Hall_names:=f_19,d_Hall_names:=_,F_Hall_names:=F_19,
  b_Hall_names:=F_19.binds fun _ _ _ _ _ _ us hl=>by revert hl;revert us;exact V5 (fun _=>rfl),
  f_backed:=f_20,d_backed:=_,F_backed:=F_20,
  b_backed:=F_20.binds fun _ _ _ _ _ _ us hl=>by revert hl;revert us;exact Z7 (fun _ _=>rfl),
  m_backed:=PySem.W.mg_of X G a_20,
  f_l_with_back:=f_21,d_l_with_back:=_,F_l_with_back:=F_21,
  b_l_with_back:=F_21.binds fun _ _ _ _ _ _ us hl=>by revert hl;revert us;exact Z7 (fun _ _=>rfl),
  m_l_with_back:=PySem.W.mg_of X G a_21,
  f_l_refused:=f_22,d_l_refused:=_,F_l_refused:=F_22,
  b_l_refused:=F_22.binds fun _ _ _ _ _ _ us hl=>by revert hl;revert us;exact Z7 (fun _ _=>rfl),
  m_l_refused:=PySem.W.mg_of X G a_22,
  f_ways_of:=f_23,d_ways_of:=_,F_ways_of:=F_23,
  b_ways_of:=F_23.binds fun _ _ _ _ _ _ us hl=>by revert hl;revert us;exact V5 (fun _=>rfl),
  m_ways_of:=PySem.W.mg_of X G a_23,
  f_tree_from:=f_24,d_tree_from:=_,F_tree_from:=F_24,
  b_tree_from:=F_24.binds fun _ _ _ _ _ _ us hl=>by revert hl;revert us;exact Z7 (fun _ _=>rfl),
  m_tree_from:=PySem.W.mg_of X G a_24,
  f_forest_of:=f_25,d_forest_of:=_,F_forest_of:=F_25,
  b_forest_of:=F_25.binds fun _ _ _ _ _ _ us hl=>by revert hl;revert us;exact V5 (fun _=>rfl),
  m_forest_of:=PySem.W.mg_of X G a_25,
  f_pieces_of:=f_26,d_pieces_of:=_,F_pieces_of:=F_26,
  b_pieces_of:=F_26.binds fun _ _ _ _ _ _ us hl=>by revert hl;revert us;exact V5 (fun _=>rfl),
  m_pieces_of:=PySem.W.mg_of X G a_26,
  f_l_pieces:=f_27,d_l_pieces:=_,F_l_pieces:=F_27,
  b_l_pieces:=F_27.binds fun _ _ _ _ _ _ us hl=>by revert hl;revert us;exact Z7 (fun _ _=>rfl),
  m_l_pieces:=PySem.W.mg_of X G a_27,
  f_l_is_ready:=f_28,d_l_is_ready:=_,F_l_is_ready:=F_28,
  b_l_is_ready:=F_28.binds fun _ _ _ _ _ _ us hl=>by revert hl;revert us;exact Z7 (fun _ _=>rfl),
  m_l_is_ready:=PySem.W.mg_of X G a_28,
  f_Hall_entering:=f_29,d_Hall_entering:=_,F_Hall_entering:=F_29,
  b_Hall_entering:=F_29.binds fun _ _ _ _ _ _ us hl=>by revert hl;revert us;exact Z7 (fun _ _=>rfl),
  f_Hall_leaving:=f_30,d_Hall_leaving:=_,F_Hall_leaving:=F_30,
  b_Hall_leaving:=F_30.binds fun _ _ _ _ _ _ us hl=>by revert hl;revert us;exact Z7 (fun _ _=>rfl),
  f_Hall_need_belt:=f_31,d_Hall_need_belt:=_,F_Hall_need_belt:=F_31,
  b_Hall_need_belt:=F_31.binds fun _ _ _ _ _ _ us hl=>by revert hl;revert us;exact Z7 (fun _ _=>rfl),
  f_Hall_belt_at:=f_32,d_Hall_belt_at:=_,F_Hall_belt_at:=F_32,
  b_Hall_belt_at:=F_32.binds fun _ _ _ _ _ _ us hl=>by revert hl;revert us;exact Z7 (fun _ _=>rfl),
  f_Floor_lying:=f_33,d_Floor_lying:=_,F_Floor_lying:=F_33,
  b_Floor_lying:=F_33.binds fun _ _ _ _ _ _ us hl=>by revert hl;revert us;exact V5 (fun _=>rfl),
  f_enough:=f_34,d_enough:=_,F_enough:=F_34,
  b_enough:=F_34.binds fun _ _ _ _ _ _ us hl=>by revert hl;revert us;exact Z7 (fun _ _=>rfl),
  m_enough:=PySem.W.mg_of X G a_34,
  f_Floor_need_work:=f_35,d_Floor_need_work:=_,F_Floor_need_work:=F_35,
  b_Floor_need_work:=F_35.binds fun _ _ _ _ _ _ us hl=>by revert hl;revert us;exact Z7 (fun _ _=>rfl),
  f_Floor_ready:=f_36,d_Floor_ready:=_,F_Floor_ready:=F_36,
  b_Floor_ready:=F_36.binds fun _ _ _ _ _ _ us hl=>by revert hl;revert us;exact Z7 (fun _ _=>rfl),
  f_takes_of:=f_37,d_takes_of:=_,F_takes_of:=F_37,
  b_takes_of:=F_37.binds fun _ _ _ _ _ _ us hl=>by revert hl;revert us;exact Z7 (fun _ _=>rfl),
  m_takes_of:=PySem.W.mg_of X G a_37,
  f_gives_of:=f_38,d_gives_of:=_,F_gives_of:=F_38,
  b_gives_of:=F_38.binds fun _ _ _ _ _ _ us hl=>by revert hl;revert us;exact Z7 (fun _ _=>rfl),
  m_gives_of:=PySem.W.mg_of X G a_38,
  f_Floor_init:=f_39,d_Floor_init:=_,F_Floor_init:=F_39,
  b_Floor_init:=F_39.binds fun _ _ _ _ _ _ us hl=>by revert hl;revert us;exact Z7 (fun _ _=>rfl),
  f_l_hall_like:=f_40,d_l_hall_like:=_,F_l_hall_like:=F_40,
  b_l_hall_like:=F_40.binds fun _ _ _ _ _ _ us hl=>by revert hl;revert us;exact ZgM (fun _ _ _=>rfl),
  m_l_hall_like:=PySem.W.mg_of X G a_40,
  f_l_spoilt:=f_41,d_l_spoilt:=_,F_l_spoilt:=F_41,
  b_l_spoilt:=F_41.binds fun _ _ _ _ _ _ us hl=>by revert hl;revert us;exact ZgM (fun _ _ _=>rfl),
  m_l_spoilt:=PySem.W.mg_of X G a_41,
  f_divisor:=f_42,d_divisor:=_,F_divisor:=F_42,
  b_divisor:=F_42.binds fun _ _ _ _ _ _ us hl=>by revert hl;revert us;exact Z7 (fun _ _=>rfl),
  m_divisor:=PySem.W.mg_of X G a_42,
  f_ratio:=f_43,d_ratio:=_,F_ratio:=F_43,
  b_ratio:=F_43.binds fun _ _ _ _ _ _ us hl=>by revert hl;revert us;exact Z7 (fun _ _=>rfl),
  m_ratio:=PySem.W.mg_of X G a_43,
  f_times:=f_44,d_times:=_,F_times:=F_44,
  b_times:=F_44.binds fun _ _ _ _ _ _ us hl=>by revert hl;revert us;exact Z7 (fun _ _=>rfl),
  m_times:=PySem.W.mg_of X G a_44,
  f_gain:=f_45,d_gain:=_,F_gain:=F_45,
  b_gain:=F_45.binds fun _ _ _ _ _ _ us hl=>by revert hl;revert us;exact Z7 (fun _ _=>rfl),
  m_gain:=PySem.W.mg_of X G a_45,
  f_shares_of:=f_46,d_shares_of:=_,F_shares_of:=F_46,
  b_shares_of:=F_46.binds fun _ _ _ _ _ _ us hl=>by revert hl;revert us;exact Z7 (fun _ _=>rfl),
  m_shares_of:=PySem.W.mg_of X G a_46,
  f_multiple:=f_47,d_multiple:=_,F_multiple:=F_47,
  b_multiple:=F_47.binds fun _ _ _ _ _ _ us hl=>by revert hl;revert us;exact Z7 (fun _ _=>rfl),
  m_multiple:=PySem.W.mg_of X G a_47,
  f_rates_by:=f_48,d_rates_by:=_,F_rates_by:=F_48,
  b_rates_by:=F_48.binds fun _ _ _ _ _ _ us hl=>by revert hl;revert us;exact Z7 (fun _ _=>rfl),
  m_rates_by:=PySem.W.mg_of X G a_48,
  f_change_of:=f_49,d_change_of:=_,F_change_of:=F_49,
  b_change_of:=F_49.binds fun _ _ _ _ _ _ us hl=>by revert hl;revert us;exact Z7 (fun _ _=>rfl),
  m_change_of:=PySem.W.mg_of X G a_49,
  f_way_to:=f_50,d_way_to:=_,F_way_to:=F_50,
  b_way_to:=F_50.binds fun _ _ _ _ _ _ us hl=>by revert hl;revert us;exact Z7 (fun _ _=>rfl),
  m_way_to:=PySem.W.mg_of X G a_50,
  f_shared_steps:=f_51,d_shared_steps:=_,F_shared_steps:=F_51,
  b_shared_steps:=F_51.binds fun _ _ _ _ _ _ us hl=>by revert hl;revert us;exact Z7 (fun _ _=>rfl),
  m_shared_steps:=PySem.W.mg_of X G a_51,
  f_ring_through:=f_52,d_ring_through:=_,F_ring_through:=F_52,
  b_ring_through:=F_52.binds fun _ _ _ _ _ _ us hl=>by revert hl;revert us;exact ZgM (fun _ _ _=>rfl),
  m_ring_through:=PySem.W.mg_of X G a_52,
  f_rates_of:=f_53,d_rates_of:=_,F_rates_of:=F_53,
  b_rates_of:=F_53.binds fun _ _ _ _ _ _ us hl=>by revert hl;revert us;exact V5 (fun _=>rfl),
  m_rates_of:=PySem.W.mg_of X G a_53,
  f_Hall_fill:=f_54,d_Hall_fill:=_,F_Hall_fill:=F_54,
  b_Hall_fill:=F_54.binds fun _ _ _ _ _ _ us hl=>by revert hl;revert us;exact ZgM (fun _ _ _=>rfl),
  f_law:=f_55,d_law:=_,F_law:=F_55,
  b_law:=F_55.binds fun _ _ _ _ _ _ us hl=>by revert hl;revert us;exact V5 (fun _=>rfl),
  m_law:=PySem.W.mg_of X G a_55,
  C_Floor:=C_Floor,cl_Floor:=⟨pg_Floor,hd_Floor,po_Floor,sa_Floor⟩,g_Floor:=PySem.W.mg_of X G a_Floor,
  na_Floor:=⟨fun f hf=>(by
   simp only[List.mem_cons,List.not_mem_nil,or_false] at hf;rcases hf with rfl|rfl|rfl
   ·exact na_Floor_takes
   ·exact na_Floor_gives
   ·exact na_Floor_heaps)⟩,
  M_Floor_lying:=⟨a_33,i_33,k_33⟩,
  M_Floor_need_work:=⟨a_35,i_35,k_35⟩,
  M_Floor_ready:=⟨a_36,i_36,k_36⟩,
  mk_Floor:=⟨mk_Floor,a_39,i_39,kc_Floor⟩,
  C_Hall:=C_Hall,cl_Hall:=⟨pg_Hall,hd_Hall,po_Hall,sa_Hall⟩,g_Hall:=PySem.W.mg_of X G a_Hall,
  na_Hall:=⟨fun f hf=>(by
   simp only[List.mem_cons,List.not_mem_nil,or_false] at hf;rcases hf with rfl|rfl
   ·exact na_Hall_numbers
   ·exact na_Hall_rows)⟩,
  M_Hall_work:=⟨a_4,i_4,k_4⟩,
  M_Hall_need_work:=⟨a_9,i_9,k_9⟩,
  M_Hall_lay:=⟨a_10,i_10,k_10⟩,
  M_Hall_belt:=⟨a_11,i_11,k_11⟩,
  mk_Hall:=⟨mk_Hall,a_12,i_12,kc_Hall⟩,
  M_Hall_belts:=⟨a_14,i_14,k_14⟩,
  M_Hall_names:=⟨a_19,i_19,k_19⟩,
  M_Hall_entering:=⟨a_29,i_29,k_29⟩,
  M_Hall_leaving:=⟨a_30,i_30,k_30⟩,
  M_Hall_need_belt:=⟨a_31,i_31,k_31⟩,
  M_Hall_belt_at:=⟨a_32,i_32,k_32⟩,
  M_Hall_fill:=⟨a_54,i_54,k_54⟩,
  n_ValueError:=PySem.W.mg_none_of X G z_ValueError,
  n_all:=PySem.W.mg_none_of X G z_all,
  n_bool:=PySem.W.mg_none_of X G z_bool,
  n_enumerate:=PySem.W.mg_none_of X G z_enumerate,
  n_int:=PySem.W.mg_none_of X G z_int,
  n_isinstance:=PySem.W.mg_none_of X G z_isinstance,
  n_len:=PySem.W.mg_none_of X G z_len,
  n_list:=PySem.W.mg_none_of X G z_list,
  n_min:=PySem.W.mg_none_of X G z_min,
  n_range:=PySem.W.mg_none_of X G z_range,
  n_reversed:=PySem.W.mg_none_of X G z_reversed,
  n_sorted:=PySem.W.mg_none_of X G z_sorted,
  n_str:=PySem.W.mg_none_of X G z_str,
  n_tuple:=PySem.W.mg_none_of X G z_tuple,
  n_zip:=PySem.W.mg_none_of X G z_zip,
  X_RateError:=X_RateError,gx_RateError:=gx_RateError,mx_RateError:=PySem.W.mg_of X G gx_RateError,ex_RateError:=ex_RateError,
  X_NoName:=X_NoName,gx_NoName:=gx_NoName,mx_NoName:=PySem.W.mg_of X G gx_NoName,ex_NoName:=ex_NoName,
  X_Twice:=X_Twice,gx_Twice:=gx_Twice,mx_Twice:=PySem.W.mg_of X G gx_Twice,ex_Twice:=ex_Twice,
  X_TooMuch:=X_TooMuch,gx_TooMuch:=gx_TooMuch,mx_TooMuch:=PySem.W.mg_of X G gx_TooMuch,ex_TooMuch:=ex_TooMuch,
  X_NoWork:=X_NoWork,gx_NoWork:=gx_NoWork,mx_NoWork:=PySem.W.mg_of X G gx_NoWork,ex_NoWork:=ex_NoWork,
  X_NoBelt:=X_NoBelt,gx_NoBelt:=gx_NoBelt,mx_NoBelt:=PySem.W.mg_of X G gx_NoBelt,ex_NoBelt:=ex_NoBelt,
  X_NoRate:=X_NoRate,gx_NoRate:=gx_NoRate,mx_NoRate:=PySem.W.mg_of X G gx_NoRate,ex_NoRate:=ex_NoRate,
  X_NoRoom:=X_NoRoom,gx_NoRoom:=gx_NoRoom,mx_NoRoom:=PySem.W.mg_of X G gx_NoRoom,ex_NoRoom:=ex_NoRoom,
  em_RateError_RateError:=em_RateError_RateError,
  em_NoName_RateError:=em_NoName_RateError,
  em_Twice_RateError:=em_Twice_RateError,
  em_TooMuch_RateError:=em_TooMuch_RateError,
  em_NoWork_RateError:=em_NoWork_RateError,
  em_NoBelt_RateError:=em_NoBelt_RateError,
  em_NoRate_RateError:=em_NoRate_RateError,
  em_NoRoom_RateError:=em_NoRoom_RateError,
  xc_NoName:=⟨WW ex_NoName,x1_NoName,x2_NoName,x3_NoName,xg,xt,x4_NoName,x5_NoName⟩,
  xc_Twice:=⟨WW ex_Twice,x1_Twice,x2_Twice,x3_Twice,xg,xt,x4_Twice,x5_Twice⟩,
  xc_TooMuch:=⟨WW ex_TooMuch,x1_TooMuch,x2_TooMuch,x3_TooMuch,xg,xt,x4_TooMuch,x5_TooMuch⟩,
  xc_NoWork:=⟨WW ex_NoWork,x1_NoWork,x2_NoWork,x3_NoWork,xg,xt,x4_NoWork,x5_NoWork⟩,
  xc_NoBelt:=⟨WW ex_NoBelt,x1_NoBelt,x2_NoBelt,x3_NoBelt,xg,xt,x4_NoBelt,x5_NoBelt⟩,
  xc_NoRate:=⟨WW ex_NoRate,x1_NoRate,x2_NoRate,x3_NoRate,xg,xt,x4_NoRate,x5_NoRate⟩,
  xc_NoRoom:=⟨WW ex_NoRoom,x1_NoRoom,x2_NoRoom,x3_NoRoom,xg,xt,x4_NoRoom,x5_NoRoom⟩,
  ki_NoName_NoRoom:=ki_NoName_NoRoom,
  ki_NoName_ValueError:=ki_NoName_ValueError,
  ki_NoName_NoRate:=ki_NoName_NoRate,
  ki_NoName_TooMuch:=ki_NoName_TooMuch,
  ki_Twice_NoRoom:=ki_Twice_NoRoom,
  ki_Twice_ValueError:=ki_Twice_ValueError,
  ki_Twice_NoRate:=ki_Twice_NoRate,
  ki_Twice_TooMuch:=ki_Twice_TooMuch,
  ki_TooMuch_NoRoom:=ki_TooMuch_NoRoom,
  ki_TooMuch_ValueError:=ki_TooMuch_ValueError,
  ki_TooMuch_NoRate:=ki_TooMuch_NoRate,
  ki_TooMuch_TooMuch:=ki_TooMuch_TooMuch,
  ki_NoWork_NoRoom:=ki_NoWork_NoRoom,
  ki_NoWork_ValueError:=ki_NoWork_ValueError,
  ki_NoWork_NoRate:=ki_NoWork_NoRate,
  ki_NoWork_TooMuch:=ki_NoWork_TooMuch,
  ki_NoBelt_NoRoom:=ki_NoBelt_NoRoom,
  ki_NoBelt_ValueError:=ki_NoBelt_ValueError,
  ki_NoBelt_NoRate:=ki_NoBelt_NoRate,
  ki_NoBelt_TooMuch:=ki_NoBelt_TooMuch,
  ki_NoRate_NoRoom:=ki_NoRate_NoRoom,
  ki_NoRate_ValueError:=ki_NoRate_ValueError,
  ki_NoRate_NoRate:=ki_NoRate_NoRate,
  ki_NoRate_TooMuch:=ki_NoRate_TooMuch,
  ki_NoRoom_NoRoom:=ki_NoRoom_NoRoom,
  ki_NoRoom_ValueError:=ki_NoRoom_ValueError,
  ki_NoRoom_NoRate:=ki_NoRoom_NoRate,
  ki_NoRoom_TooMuch:=ki_NoRoom_TooMuch,
  tk_MOST_LETTERS:=tk_MOST_LETTERS,c_MOST_LETTERS:=PySem.W.mg_of X G c_MOST_LETTERS,
  tk_MOST_WORKS:=tk_MOST_WORKS,c_MOST_WORKS:=PySem.W.mg_of X G c_MOST_WORKS,
  tk_MOST_BELTS:=tk_MOST_BELTS,c_MOST_BELTS:=PySem.W.mg_of X G c_MOST_BELTS,
  bl_law:=fun s v=> .of_eq rfl},trivial⟩
theorem walk{l:PySem.W.OpenLaw}{q:Program}{loose:List Str}{XP:(Str→Option Value)→Heap→Prop}{YP:World→Heap→Prop}{d:DefRec}{K:Params→PySem.W.Frag}(hn:l.most=some 63)(hdf:d.params.defaults=[])(hdn:d.name="law")
  (hY:∀(w:World)(h:Heap),YP w h→(K w.params).In h)
  (F:∀(w:World)(mg:Str→Option Value)(h:Heap),(K w.params).In h→h.Ns mainGlobals mg→∃T:Tp (K w.params) mg,True):
  PySem.W.WalkO q loose XP YP l.row.toRowW d [] (fun f vs=>PySem.call f vs):=by
 refine L2.Zkd (n:=63) (k:=10) (x:="_law_script") (CX:=fun w=>CXX l.prog w) (sp:=fun w=>ZjN (K w.params)) hn (by decide) hdf ⟨rfl,by decide,by decide⟩ hY (fun w mg fa h KX G hmg=>?_) (fun _ _ a ns hl _ hS=>⟨a,ns,rfl,hS,hl,fun _=>rfl⟩) ?_
 ·obtain⟨T,_⟩:=F w mg h KX G;rw[hdn,T.m_law] at hmg;cases hmg;exact⟨T.d_law,T.bl_law,fun base _ _=>ZlN T⟩
 ·intro w H s e s' z;obtain⟨_,_,_,_,_,_,_,_,_,_,_,_,z⟩:=z;exact z
end Nm
namespace PySem.W.Fast
def tw9537923292310580438:=True
def tw7654760792439512645:=True
def tw9204880393312874525:=True
def tw16203808104029731402:=True
def tw8314812242548846893:=True
def tw17120554674885069248:=True
def tw18288166669521058193:=True
def tw6615968453726521473:=True
def tw7358747686249050364:=True
def tw829281142643237057:=True
def tw10547473296852924938:=True
def tw2989275856434886852:=True
def tw1486942980469333639:=True
def tw15914715891174879098:=True
def tw12528372962268634005:=True
def tw17237474873871509764:=True
def tw3479879113782246704:=True
def tw15318871669887838918:=True
def tw6355291274804412427:=True
def tw9837646938252553527:=True
def tw10431062353534407520:=True
def tw13422831334214126004:=True
def tw10316789924318933360:=True
def tw13470443624953313843:=True
def tw5632153651540410937:=True
def tw10665495993578460341:=True
def tw3460699068474041372:=True
def tw2310554905766044350:=True
def tw16794403061798793252:=True
def tw9474571284339157113:=True
def tw13084566570121583151:=True
def tw3516022464440449180:=True
def tw855265413371363029:=True
def tw9966649582997207903:=True
def tw12976027943966416065:=True
def tw9317828787787750655:=True
def tw125238082340931273:=True
def tw5563846819014937402:=True
def tw7960533465644513573:=True
def tw7031068827965728626:=True
def tw2740109045143082865:=True
def tw1897571236165732338:=True
def tw13874207029272242743:=True
def tw16205713779605512734:=True
def tw17025828205959630014:=True
def tw12037464283653258948:=True
def tw10451447894301370591:=True
def tw14627021812491700586:=True
def tw6206932686209768443:=True
def tw11538011111780799394:=True
def tw1188493670830410768:=True
def tw5325126169992022999:=True
def tw1516700034582034804:=True
def tw12097398641169679474:=True
def tw675639723315170819:=True
def tw2408885082728656850:=True
def tw13381620898464451207:=True
def tw3619420112319711774:=True
def tw752073729907420631:=True
def tw14720301981960500859:=True
def tw630858535033539680:=True
def tw9517304271994923640:=True
def tw15662169132944547319:=True
def tw5147143773430956237:=True
def tw15835372613926021098:=True
def tw5602127609437938450:=True
def tw17215721458242825384:=True
def tw2752927209248671007:=True
def tw7480314150801455022:=True
def tw12380207726773701676:=True
def tw373690361613028922:=True
def tw2440918196246036609:=True
def tw3890550217927034521:=True
def tw235077814994185725:=True
def tw16986746920863502020:=True
def tw11616744866340761189:=True
def tw3382792133343884369:=True
def tw8722578911683766354:=True
def tw16694917298096043470:=True
def tw11642561147609869389:=True
def tw9247224652801665745:=True
def tw1553334143453245061:=True
def tw4132163373067048030:=True
def tw2940196260530604453:=True
def tw993532944212953506:=True
def tw15983766135603969946:=True
def tw5523587136572975864:=True
def tw7326033212603282398:=True
def tw9802674731034224375:=True
def tw14031191115520478656:=True
def tw13457405262144217554:=True
def tw16741740851884872270:=True
def tw908895867956517163:=True
def tw4724671854024245316:=True
def tw10716009287370088487:=True
def tw9953019071172432645:=True
def tw9910234259311968250:=True
def tw5750649975318780813:=True
def tw2973247026702610358:=True
def tw16655164591214133232:=True
def tw3574696347342475993:=True
def tw1802418468368870384:=True
def tw7034322936931879507:=True
def tw954258331864883184:=True
def tw7873228256725664155:=True
def tw5564730466813245732:=True
def tw283497951149229006:=True
def tw17624036398767830086:=True
def tw3183417098359221968:=True
def tw9245907555600287379:=True
def tw8663688153834834864:=True
def tw2053112158973425072:=True
def tw3805346556417170251:=True
def tw3838377044855833929:=True
def tw17481739149869889904:=True
def tw11674097084981782473:=True
def tw13471465598721826969:=True
def tw15947417185275372133:=True
def tw14495393164229589256:=True
def tw3603488819042100998:=True
def tw4745110183395614614:=True
def tw15066766133815850779:=True
def tw940179379807191702:=True
def tw12140052861806122566:=True
def tw3047542453750291665:=True
def tw9631663301639039381:=True
def tw847638102343682161:=True
def tw8054592777518107707:=True
def tw3568252229307398908:=True
def tw17703637421568114937:=True
def tw9480457026833106287:=True
def tw16713200954077699553:=True
def tw15382174450380595495:=True
def tw12861692032818158220:=True
def tw18280690073925122817:=True
def tw2917827481886452867:=True
def tw777508195801029349:=True
def tw12340661576770963365:=True
def tw2577081993391962867:=True
def tw6683784383965931132:=True
def tw15829724340485883983:=True
def tw14266364862183095590:=True
def tw3659968790298978215:=True
def tw17532295307164551308:=True
def tw15386953387465924898:=True
def tw9747325916476047901:=True
def tw16574408927831152104:=True
def tw4269466290078659672:=True
def tw2381278214969835168:=True
def tw10135569680274229248:=True
def tw4419000748180906005:=True
def tw16328839367598670545:=True
def tw5002244337032862060:=True
def tw3755258751566805705:=True
def tw11181129724337406135:=True
def tw8685743674520432011:=True
def tw5436429006452149378:=True
def tw7491167487017885263:=True
def tw5745621145942301797:=True
def tw1829151576361021726:=True
def tw6503465413962756913:=True
def tw3681787577843678751:=True
def tw3691606318092333252:=True
def tw11316677824463804268:=True
def tw5612547193167411678:=True
def tw7811940555278514358:=True
def tw16487172442877783039:=True
def tw12865272000443458193:=True
def tw14691905265585301184:=True
def tw10829532814699014477:=True
def tw8143370730655413952:=True
def tw2191734048771530289:=True
def tw74516977362680938:=True
def tw6091406242881257391:=True
def tw15727161917774170405:=True
def tw4527115862813973723:=True
def tw5690447499503998160:=True
def tw662810443106399498:=True
def tw18431123762717379525:=True
def tw18298245149906075081:=True
def tw13757648471420788388:=True
def tw12187564723623445330:=True
def tw13015043459998358020:=True
def tw6564283608059513696:=True
def tw144507089648028336:=True
def tw6061037242853581625:=True
def tw11915958504846707182:=True
def tw5156625030870419061:=True
def tw18016410947242699792:=True
def tw15244150397773394293:=True
def tw15269308523290489088:=True
def tw1389654819881372112:=True
def tw7825534446938128939:=True
def tw6614065050041880000:=True
def tw16533190733993866113:=True
def tw9002096827424300712:=True
def tw7612790836703900637:=True
def tw12328961630827188916:=True
def tw9174694579580919414:=True
def tw432170803423310381:=True
def tw11262479855263377491:=True
def tw1418026667344331108:=True
def tw3571809712919461869:=True
def tw9881350502558969647:=True
def tw2095087653323434776:=True
def tw22172721690213576:=True
def tw12160294788610984078:=True
def tw265140272340447940:=True
def tw9595079247959091222:=True
def tw15138418060944622443:=True
def tw16361939557572143788:=True
def tw8445133184567312998:=True
def tw1088305777442311091:=True
def tw1355125791802197363:=True
def tw16573828403800130033:=True
def tw4441224627029998955:=True
def tw1452702200892861101:=True
def tw12315751191595039622:=True
def tw12762778673428010096:=True
def tw7032506549486095319:=True
def tw12506988315092583065:=True
def tw8892106079400662058:=True
def tw18349113457041361139:=True
def tw1161114342211296569:=True
def tw10586260298119700755:=True
def tw8591208302752783671:=True
def tw7739629238675250617:=True
def tw11153548087672141190:=True
def tw17220613108007304353:=True
def tw16457869378731269246:=True
def tw85120995258665471:=True
def tw15029395393571928585:=True
def tw3036962036100582510:=True
def tw16160243021314592840:=True
def tw6988889690740621285:=True
def tw17618019652717159624:=True
def tw17068410150185517644:=True
def tw5393212018160327634:=True
def tw534023474562407126:=True
def tw12451154331228125094:=True
def tw11093195034902172740:=True
def tw10366593071701954678:=True
def tw8509980817212407696:=True
def tw10297459785979250557:=True
def tw8624005935510184309:=True
def tw8921614788010816763:=True
def tw17411939913749218243:=True
def tw5759291337754587572:=True
def tw787130354992023121:=True
def tw17077947675776501949:=True
def tw12505387738274105139:=True
def tw6829237825333983135:=True
def tw12881183848506990013:=True
def tw15030875752315506790:=True
def tw826142304008221261:=True
def tw9466241598783791541:=True
def tw2970690324850156214:=True
def tw2079724493083675219:=True
def tw17107255121275570977:=True
def tw3241122994741018631:=True
def tw17353982107732536261:=True
def tw6877338251279905673:=True
def tw9639027783168083219:=True
def tw5123555744008434983:=True
def tw13521626006658059577:=True
def tw9405385103813200587:=True
def tw17153926387943036864:=True
def tw8867212269698443169:=True
def tw15762548796815730203:=True
def tw5996359084142532010:=True
def tw8030639291501235622:=True
def tw2735317524090799253:=True
def tw11551671431605257575:=True
def tw315481840732027012:=True
def tw5424532669208598480:=True
def tw6428007178774864953:=True
def tw1718139929587053708:=True
def tw17316545702753686964:=True
def tw18397254252152620924:=True
def tw13586203772950894345:=True
def tw2492721075956221934:=True
def tw12477848739264441802:=True
def tw3170609592831162868:=True
def tw13766589604205349262:=True
def tw17238933182816091234:=True
def tw16351693648502503986:=True
def tw7587526550704040216:=True
def tw3113297758808970347:=True
def tw10498115619990603805:=True
def tw4756702715815763118:=True
def tw4840775061180273685:=True
def tw7670963052542288985:=True
def tw3817147487038464569:=True
def tw1993387117633328580:=True
def tw3765088322001782456:=True
def tw8305087304198138364:=True
def tw5814893815602389078:=True
def tw10771068024816008773:=True
def tw17096385504708046029:=True
def tw2092363866402607223:=True
def tw17058500717191028474:=True
def tw7251821064748599558:=True
def tw3490176721541106211:=True
def tw6881747045350005974:=True
def tw15662696537333194104:=True
def tw17429261040990179330:=True
def tw12571328202721532684:=True
def tw7211773678129921554:=True
def tw3249796340455353951:=True
def tw8667914526615671314:=True
def tw11269999878657252425:=True
def tw356807421039908768:=True
def tw17051183024876634376:=True
def tw14278521559725710201:=True
def tw6747809691745819698:=True
def tw16750846422479702653:=True
def tw8032725701992867383:=True
def tw12575767615408662999:=True
def tw12753265175007035806:=True
def tw3250745465154802308:=True
def tw1546589376132888024:=True
def tw6993751720018322879:=True
def tw3894452833406912940:=True
def tw6106066063421398823:=True
def tw13893011728520865458:=True
def tw13366204097375336645:=True
def tw4949939961969602369:=True
def tw17484388206624129313:=True
def tw9086309040425171117:=True
def tw9135349347079547282:=True
def tw14030819614523815429:=True
def tw13309134742000146198:=True
def tw15521804825733003932:=True
def tw17805013625549948323:=True
def tw6534840937429748630:=True
def tw14277766185560380520:=True
def tw17078534725724498525:=True
def tw7477240003384982505:=True
def tw17341052024052997621:=True
def tw5871686309498052688:=True
def tw13499868081308131814:=True
def tw18147385043260116572:=True
def tw12077812779705027281:=True
def tw18156690996745074311:=True
def tw15463859425779489488:=True
def tw12813896190173807917:=True
def tw17329302861354355336:=True
def tw12004771622544385972:=True
def tw4207951322665844693:=True
def tw7560467061703235566:=True
def tw186230525723337264:=True
def tw16153768598169527170:=True
def tw5680207502440728240:=True
def tw7912445752472613112:=True
def tw3473032017457195038:=True
def tw10119096247024189309:=True
def tw16334097314685761361:=True
def tw10645663442617517278:=True
def tw1109192455865421863:=True
def tw17415704855360730753:=True
def tw170954791187981233:=True
def tw4997533871252172867:=True
def tw12496026338118901850:=True
def tw15347155583254965296:=True
def tw11473053874057829867:=True
def tw17293404525827721008:=True
def tw15326325187590851451:=True
def tw348867147058423399:=True
def tw838557572956190233:=True
def tw5233201920029276522:=True
def tw18100199634999057829:=True
def tw11812200547154713678:=True
def tw10631033192398680805:=True
def tw16728066169523843374:=True
def tw4960645434569203178:=True
def tw7091020801497471908:=True
def tw14886412543647469021:=True
def tw10296818797534329704:=True
def tw10786816918849900215:=True
def tw569149003339168837:=True
def tw1382704196879977231:=True
def tw1532422365890501631:=True
def tw4849562866189672600:=True
def tw3680854390913721077:=True
def tw17834655390154253015:=True
def tw13526511276266431998:=True
def tw18432751474682168736:=True
def tw262209137703036612:=True
def tw3419050193003116186:=True
def tw14848006636617526591:=True
def tw8314451599679107865:=True
def tw3457146500386364056:=True
def tw3345358278846462651:=True
def tw14298421195961036161:=True
def tw1909636736656160414:=True
def tw15677045862922380126:=True
def tw2447075980085023615:=True
def tw12041799084814495847:=True
def tw18166684761012862897:=True
def tw3229936998122257961:=True
def tw6075659883585916245:=True
def tw8246185696444973776:=True
def tw471978491094138049:=True
def tw8759513793490216651:=True
def tw9670864821846151038:=True
def tw10394313873553737296:=True
def tw1456686581102969813:=True
def tw13369506992061600725:=True
def tw15562967467782697933:=True
def tw5247924632330515559:=True
def tw10493612260030429297:=True
def tw4178775458639319736:=True
def tw10441177152900317146:=True
def tw4482715454138788:=True
def tw6208876882646630324:=True
def tw10581371689738418885:=True
def tw9942172679039537897:=True
def tw2304588988483114547:=True
def tw17320908091813717598:=True
def tw18011032035978916647:=True
def tw5280278419800747448:=True
def tw13024904853743385821:=True
def tw3274364607185868268:=True
def tw13041924005368316712:=True
def tw9969082457667654104:=True
def tw4830309579283248996:=True
def tw12758240063690312923:=True
def tw10379131801053638502:=True
def tw10387028191040520195:=True
def tw12383766354745529512:=True
def tw2900498028506377773:=True
def tw17144898056861996302:=True
def tw9867608916024991765:=True
def tw17797729634497439401:=True
def tw1352274781944178002:=True
def tw11236044283650267656:=True
def tw2733724241745493450:=True
def tw12660082941921007431:=True
def tw1345584145947790511:=True
def tw11432482894877008094:=True
def tw5155782885959083408:=True
def tw9115857956320917614:=True
def tw10438597620403589279:=True
def tw11338575725767509382:=True
def tw11547095699923190395:=True
def tw12010569050567397241:=True
def tw8354084485403377605:=True
def tw4221762513524298831:=True
def tw16747112181433834725:=True
def tw17815925936485460872:=True
def tw16189542815881657704:=True
def tw2118120112665358683:=True
def tw15786302711370009315:=True
def tw8609211083201705677:=True
def tw493476218755443763:=True
def tw3990733970627846304:=True
def tw1390321490025596090:=True
def tw1649730129697885631:=True
def tw7683620594699390512:=True
def tw13242021015045364198:=True
def tw15380432699214918828:=True
def tw8002134354345964933:=True
def tw17319279012845361972:=True
def tw1914306489025260558:=True
def tw9835371085440130079:=True
def tw13648152058181972094:=True
def tw6092336491701233734:=True
def tw8698014318045981027:=True
def tw7860850976918876422:=True
def tw12299346318513525036:=True
def tw9871756798346173321:=True
def tw17982565597953119400:=True
def tw962857843241823606:=True
def tw4887189631832490575:=True
def tw3004502859346307237:=True
def tw8211937603237206814:=True
def tw8721986731296428548:=True
def tw8971484835501916334:=True
def tw899096295507972371:=True
def tw16782998424417453831:=True
def tw13972038214255240504:=True
def tw1396489452987471491:=True
def tw18059333444560975543:=True
def tw7310080568357294494:=True
def tw5895799130313537043:=True
def tw11200565846405087465:=True
def tw17327735108170139585:=True
def tw12158898368272912973:=True
def tw17799888270908121523:=True
def tw15155527808310358914:=True
def tw8517344771408850287:=True
def tw17500449741840672642:=True
def tw7051271471546272825:=True
def tw13295522292679298149:=True
def tw15101550270667107336:=True
def tw11801187389288729791:=True
def tw13753107849357589667:=True
def tw8206596746517026183:=True
def tw5334573157117264753:=True
def tw12535283847423027643:=True
end PySem.W.Fast
open PySem PySem.W PyProof.Rows
set_option maxRecDepth 100000 in
set_option maxHeartbeats 0 in
theorem PySem.Challenge.cw_ratehall_k16_backed_halls_holds : PySem.Challenge.rw_ratehall_k16_backed_halls.Holds := by
 w_on;o_law;k_head;(case hw=>w_witness2)
 k_fill
 refine Nm.walk (l:=PySem.Challenge.rw_ratehall_k16_backed_halls) rfl rfl rfl (fun w h Y=>PySem.W.kIn_of Y) ?F
 case F=>
  intro w mg h KX G
  refine' Nm.tp_mk KX G ?a_Floor ?a_Hall ?a_0 ?l_0 ?c_0 ?k_0 ?a_1 ?l_1 ?c_1 ?k_1 ?a_2 ?l_2 ?c_2 ?k_2 ?a_3 ?l_3 ?c_3 ?k_3 ?a_4 ?i_4 ?l_4 ?c_4 ?k_4 ?a_5 ?l_5 ?c_5 ?k_5 ?a_6 ?l_6 ?c_6 ?k_6 ?a_7 ?l_7 ?c_7 ?k_7 ?a_8 ?l_8 ?c_8 ?k_8 ?a_9 ?i_9 ?l_9 ?c_9 ?k_9 ?a_10 ?i_10 ?l_10 ?c_10 ?k_10 ?a_11 ?i_11 ?l_11 ?t_Hall_belt ?c_11 ?k_11 ?a_12 ?i_12 ?l_12 ?c_12 ?k_12 ?a_13 ?l_13 ?c_13 ?k_13 ?a_14 ?i_14 ?l_14 ?c_14 ?k_14 ?a_15 ?l_15 ?c_15 ?k_15 ?a_16 ?l_16 ?c_16 ?k_16 ?a_17 ?l_17 ?c_17 ?k_17 ?a_18 ?l_18 ?c_18 ?k_18 ?a_19 ?i_19 ?l_19 ?c_19 ?k_19 ?a_20 ?l_20 ?c_20 ?k_20 ?a_21 ?l_21 ?c_21 ?k_21 ?a_22 ?l_22 ?c_22 ?k_22 ?a_23 ?l_23 ?c_23 ?k_23 ?a_24 ?l_24 ?c_24 ?k_24 ?a_25 ?l_25 ?c_25 ?k_25 ?a_26 ?l_26 ?c_26 ?k_26 ?a_27 ?l_27 ?c_27 ?k_27 ?a_28 ?l_28 ?c_28 ?k_28 ?a_29 ?i_29 ?l_29 ?c_29 ?k_29 ?a_30 ?i_30 ?l_30 ?c_30 ?k_30 ?a_31 ?i_31 ?l_31 ?c_31 ?k_31 ?a_32 ?i_32 ?l_32 ?c_32 ?k_32 ?a_33 ?i_33 ?l_33 ?c_33 ?k_33 ?a_34 ?l_34 ?c_34 ?k_34 ?a_35 ?i_35 ?l_35 ?c_35 ?k_35 ?a_36 ?i_36 ?l_36 ?c_36 ?k_36 ?a_37 ?l_37 ?c_37 ?k_37 ?a_38 ?l_38 ?c_38 ?k_38 ?a_39 ?i_39 ?l_39 ?c_39 ?k_39 ?a_40 ?l_40 ?c_40 ?k_40 ?a_41 ?l_41 ?c_41 ?k_41 ?a_42 ?l_42 ?c_42 ?k_42 ?a_43 ?l_43 ?c_43 ?k_43 ?a_44 ?l_44 ?c_44 ?k_44 ?a_45 ?l_45 ?c_45 ?k_45 ?a_46 ?l_46 ?c_46 ?k_46 ?a_47 ?l_47 ?c_47 ?k_47 ?a_48 ?l_48 ?c_48 ?k_48 ?a_49 ?l_49 ?c_49 ?k_49 ?a_50 ?l_50 ?c_50 ?k_50 ?a_51 ?l_51 ?c_51 ?k_51 ?a_52 ?l_52 ?c_52 ?k_52 ?a_53 ?l_53 ?c_53 ?k_53 ?a_54 ?i_54 ?l_54 ?c_54 ?k_54 ?a_55 ?l_55 ?c_55 ?k_55 ?pg_Floor ?hd_Floor ?po_Floor ?sa_Floor ?mk_Floor ?kc_Floor ?na_Floor_takes ?na_Floor_gives ?na_Floor_heaps ?pg_Hall ?hd_Hall ?po_Hall ?sa_Hall ?mk_Hall ?kc_Hall ?na_Hall_numbers ?na_Hall_rows ?gx_RateError ?ex_RateError ?gx_NoName ?ex_NoName ?gx_Twice ?ex_Twice ?gx_TooMuch ?ex_TooMuch ?gx_NoWork ?ex_NoWork ?gx_NoBelt ?ex_NoBelt ?gx_NoRate ?ex_NoRate ?gx_NoRoom ?ex_NoRoom ?em_RateError_RateError ?em_NoName_RateError ?em_Twice_RateError ?em_TooMuch_RateError ?em_NoWork_RateError ?em_NoBelt_RateError ?em_NoRate_RateError ?em_NoRoom_RateError ?xg ?xt ?x1_NoName ?x2_NoName ?x3_NoName ?x4_NoName ?x5_NoName ?x1_Twice ?x2_Twice ?x3_Twice ?x4_Twice ?x5_Twice ?x1_TooMuch ?x2_TooMuch ?x3_TooMuch ?x4_TooMuch ?x5_TooMuch ?x1_NoWork ?x2_NoWork ?x3_NoWork ?x4_NoWork ?x5_NoWork ?x1_NoBelt ?x2_NoBelt ?x3_NoBelt ?x4_NoBelt ?x5_NoBelt ?x1_NoRate ?x2_NoRate ?x3_NoRate ?x4_NoRate ?x5_NoRate ?x1_NoRoom ?x2_NoRoom ?x3_NoRoom ?x4_NoRoom ?x5_NoRoom ?ki_NoName_NoRoom ?ki_NoName_ValueError ?ki_NoName_NoRate ?ki_NoName_TooMuch ?ki_Twice_NoRoom ?ki_Twice_ValueError ?ki_Twice_NoRate ?ki_Twice_TooMuch ?ki_TooMuch_NoRoom ?ki_TooMuch_ValueError ?ki_TooMuch_NoRate ?ki_TooMuch_TooMuch ?ki_NoWork_NoRoom ?ki_NoWork_ValueError ?ki_NoWork_NoRate ?ki_NoWork_TooMuch ?ki_NoBelt_NoRoom ?ki_NoBelt_ValueError ?ki_NoBelt_NoRate ?ki_NoBelt_TooMuch ?ki_NoRate_NoRoom ?ki_NoRate_ValueError ?ki_NoRate_NoRate ?ki_NoRate_TooMuch ?ki_NoRoom_NoRoom ?ki_NoRoom_ValueError ?ki_NoRoom_NoRate ?ki_NoRoom_TooMuch ?c_MOST_LETTERS ?c_MOST_WORKS ?c_MOST_BELTS ?z_ValueError ?z_all ?z_bool ?z_enumerate ?z_int ?z_isinstance ?z_len ?z_list ?z_min ?z_range ?z_reversed ?z_sorted ?z_str ?z_tuple ?z_zip
  (case a_Floor=>k_is)
  (case a_Hall=>k_is)
  (case a_0=>show _=_;k_is)
  (case l_0=>show _=_;k_is)
  (case c_0=>show _=_;k_is)
  (case k_0=>show _=_;k_is)
  (case a_1=>show _=_;k_is)
  (case l_1=>show _=_;k_is)
  (case c_1=>show _=_;k_is)
  (case k_1=>show _=_;k_is)
  (case a_2=>show _=_;k_is)
  (case l_2=>show _=_;k_is)
  (case c_2=>show _=_;k_is)
  (case k_2=>show _=_;k_is)
  (case a_3=>show _=_;k_is)
  (case l_3=>show _=_;k_is)
  (case c_3=>show _=_;k_is)
  (case k_3=>show _=_;k_is)
  (case a_4=>show _=_;k_is)
  (case i_4=>show _=_;k_is)
  (case l_4=>show _=_;k_is)
  (case c_4=>show _=_;k_is)
  (case k_4=>show _=_;k_is)
  (case a_5=>show _=_;k_is)
  (case l_5=>show _=_;k_is)
  (case c_5=>show _=_;k_is)
  (case k_5=>show _=_;k_is)
  (case a_6=>show _=_;k_is)
  (case l_6=>show _=_;k_is)
  (case c_6=>show _=_;k_is)
  (case k_6=>show _=_;k_is)
  (case a_7=>show _=_;k_is)
  (case l_7=>show _=_;k_is)
  (case c_7=>show _=_;k_is)
  (case k_7=>show _=_;k_is)
  (case a_8=>show _=_;k_is)
  (case l_8=>show _=_;k_is)
  (case c_8=>show _=_;k_is)
  (case k_8=>show _=_;k_is)
  (case a_9=>show _=_;k_is)
  (case i_9=>show _=_;k_is)
  (case l_9=>show _=_;k_is)
  (case c_9=>show _=_;k_is)
  (case k_9=>show _=_;k_is)
  (case a_10=>show _=_;k_is)
  (case i_10=>show _=_;k_is)
  (case l_10=>show _=_;k_is)
  (case c_10=>show _=_;k_is)
  (case k_10=>show _=_;k_is)
  (case a_11=>show _=_;k_is)
  (case i_11=>show _=_;k_is)
  (case l_11=>show _=_;k_is)
  (case t_Hall_belt=>k_is)
  (case c_11=>show _=_;k_is)
  (case k_11=>show _=_;k_is)
  (case a_12=>show _=_;k_is)
  (case i_12=>show _=_;k_is)
  (case l_12=>show _=_;k_is)
  (case c_12=>show _=_;k_is)
  (case k_12=>show _=_;k_is)
  (case a_13=>show _=_;k_is)
  (case l_13=>show _=_;k_is)
  (case c_13=>show _=_;k_is)
  (case k_13=>show _=_;k_is)
  (case a_14=>show _=_;k_is)
  (case i_14=>show _=_;k_is)
  (case l_14=>show _=_;k_is)
  (case c_14=>show _=_;k_is)
  (case k_14=>show _=_;k_is)
  (case a_15=>show _=_;k_is)
  (case l_15=>show _=_;k_is)
  (case c_15=>show _=_;k_is)
  (case k_15=>show _=_;k_is)
  (case a_16=>show _=_;k_is)
  (case l_16=>show _=_;k_is)
  (case c_16=>show _=_;k_is)
  (case k_16=>show _=_;k_is)
  (case a_17=>show _=_;k_is)
  (case l_17=>show _=_;k_is)
  (case c_17=>show _=_;k_is)
  (case k_17=>show _=_;k_is)
  (case a_18=>show _=_;k_is)
  (case l_18=>show _=_;k_is)
  (case c_18=>show _=_;k_is)
  (case k_18=>show _=_;k_is)
  (case a_19=>show _=_;k_is)
  (case i_19=>show _=_;k_is)
  (case l_19=>show _=_;k_is)
  (case c_19=>show _=_;k_is)
  (case k_19=>show _=_;k_is)
  (case a_20=>show _=_;k_is)
  (case l_20=>show _=_;k_is)
  (case c_20=>show _=_;k_is)
  (case k_20=>show _=_;k_is)
  (case a_21=>show _=_;k_is)
  (case l_21=>show _=_;k_is)
  (case c_21=>show _=_;k_is)
  (case k_21=>show _=_;k_is)
  (case a_22=>show _=_;k_is)
  (case l_22=>show _=_;k_is)
  (case c_22=>show _=_;k_is)
  (case k_22=>show _=_;k_is)
  (case a_23=>show _=_;k_is)
  (case l_23=>show _=_;k_is)
  (case c_23=>show _=_;k_is)
  (case k_23=>show _=_;k_is)
  (case a_24=>show _=_;k_is)
  (case l_24=>show _=_;k_is)
  (case c_24=>show _=_;k_is)
  (case k_24=>show _=_;k_is)
  (case a_25=>show _=_;k_is)
  (case l_25=>show _=_;k_is)
  (case c_25=>show _=_;k_is)
  (case k_25=>show _=_;k_is)
  (case a_26=>show _=_;k_is)
  (case l_26=>show _=_;k_is)
  (case c_26=>show _=_;k_is)
  (case k_26=>show _=_;k_is)
  (case a_27=>show _=_;k_is)
  (case l_27=>show _=_;k_is)
  (case c_27=>show _=_;k_is)
  (case k_27=>show _=_;k_is)
  (case a_28=>show _=_;k_is)
  (case l_28=>show _=_;k_is)
  (case c_28=>show _=_;k_is)
  (case k_28=>show _=_;k_is)
  (case a_29=>show _=_;k_is)
  (case i_29=>show _=_;k_is)
  (case l_29=>show _=_;k_is)
  (case c_29=>show _=_;k_is)
  (case k_29=>show _=_;k_is)
  (case a_30=>show _=_;k_is)
  (case i_30=>show _=_;k_is)
  (case l_30=>show _=_;k_is)
  (case c_30=>show _=_;k_is)
  (case k_30=>show _=_;k_is)
  (case a_31=>show _=_;k_is)
  (case i_31=>show _=_;k_is)
  (case l_31=>show _=_;k_is)
  (case c_31=>show _=_;k_is)
  (case k_31=>show _=_;k_is)
  (case a_32=>show _=_;k_is)
  (case i_32=>show _=_;k_is)
  (case l_32=>show _=_;k_is)
  (case c_32=>show _=_;k_is)
  (case k_32=>show _=_;k_is)
  (case a_33=>show _=_;k_is)
  (case i_33=>show _=_;k_is)
  (case l_33=>show _=_;k_is)
  (case c_33=>show _=_;k_is)
  (case k_33=>show _=_;k_is)
  (case a_34=>show _=_;k_is)
  (case l_34=>show _=_;k_is)
  (case c_34=>show _=_;k_is)
  (case k_34=>show _=_;k_is)
  (case a_35=>show _=_;k_is)
  (case i_35=>show _=_;k_is)
  (case l_35=>show _=_;k_is)
  (case c_35=>show _=_;k_is)
  (case k_35=>show _=_;k_is)
  (case a_36=>show _=_;k_is)
  (case i_36=>show _=_;k_is)
  (case l_36=>show _=_;k_is)
  (case c_36=>show _=_;k_is)
  (case k_36=>show _=_;k_is)
  (case a_37=>show _=_;k_is)
  (case l_37=>show _=_;k_is)
  (case c_37=>show _=_;k_is)
  (case k_37=>show _=_;k_is)
  (case a_38=>show _=_;k_is)
  (case l_38=>show _=_;k_is)
  (case c_38=>show _=_;k_is)
  (case k_38=>show _=_;k_is)
  (case a_39=>show _=_;k_is)
  (case i_39=>show _=_;k_is)
  (case l_39=>show _=_;k_is)
  (case c_39=>show _=_;k_is)
  (case k_39=>show _=_;k_is)
  (case a_40=>show _=_;k_is)
  (case l_40=>show _=_;k_is)
  (case c_40=>show _=_;k_is)
  (case k_40=>show _=_;k_is)
  (case a_41=>show _=_;k_is)
  (case l_41=>show _=_;k_is)
  (case c_41=>show _=_;k_is)
  (case k_41=>show _=_;k_is)
  (case a_42=>show _=_;k_is)
  (case l_42=>show _=_;k_is)
  (case c_42=>show _=_;k_is)
  (case k_42=>show _=_;k_is)
  (case a_43=>show _=_;k_is)
  (case l_43=>show _=_;k_is)
  (case c_43=>show _=_;k_is)
  (case k_43=>show _=_;k_is)
  (case a_44=>show _=_;k_is)
  (case l_44=>show _=_;k_is)
  (case c_44=>show _=_;k_is)
  (case k_44=>show _=_;k_is)
  (case a_45=>show _=_;k_is)
  (case l_45=>show _=_;k_is)
  (case c_45=>show _=_;k_is)
  (case k_45=>show _=_;k_is)
  (case a_46=>show _=_;k_is)
  (case l_46=>show _=_;k_is)
  (case c_46=>show _=_;k_is)
  (case k_46=>show _=_;k_is)
  (case a_47=>show _=_;k_is)
  (case l_47=>show _=_;k_is)
  (case c_47=>show _=_;k_is)
  (case k_47=>show _=_;k_is)
  (case a_48=>show _=_;k_is)
  (case l_48=>show _=_;k_is)
  (case c_48=>show _=_;k_is)
  (case k_48=>show _=_;k_is)
  (case a_49=>show _=_;k_is)
  (case l_49=>show _=_;k_is)
  (case c_49=>show _=_;k_is)
  (case k_49=>show _=_;k_is)
  (case a_50=>show _=_;k_is)
  (case l_50=>show _=_;k_is)
  (case c_50=>show _=_;k_is)
  (case k_50=>show _=_;k_is)
  (case a_51=>show _=_;k_is)
  (case l_51=>show _=_;k_is)
  (case c_51=>show _=_;k_is)
  (case k_51=>show _=_;k_is)
  (case a_52=>show _=_;k_is)
  (case l_52=>show _=_;k_is)
  (case c_52=>show _=_;k_is)
  (case k_52=>show _=_;k_is)
  (case a_53=>show _=_;k_is)
  (case l_53=>show _=_;k_is)
  (case c_53=>show _=_;k_is)
  (case k_53=>show _=_;k_is)
  (case a_54=>show _=_;k_is)
  (case i_54=>show _=_;k_is)
  (case l_54=>show _=_;k_is)
  (case c_54=>show _=_;k_is)
  (case k_54=>show _=_;k_is)
  (case a_55=>show _=_;k_is)
  (case l_55=>show _=_;k_is)
  (case c_55=>show _=_;k_is)
  (case k_55=>show _=_;k_is)
  (case pg_Floor=>k_is)
  (case hd_Floor=>k_is)
  (case po_Floor=>k_is)
  (case sa_Floor=>k_is)
  (case mk_Floor=>k_is)
  (case kc_Floor=>k_is)
  (case na_Floor_takes=>k_is)
  (case na_Floor_gives=>k_is)
  (case na_Floor_heaps=>k_is)
  (case pg_Hall=>k_is)
  (case hd_Hall=>k_is)
  (case po_Hall=>k_is)
  (case sa_Hall=>k_is)
  (case mk_Hall=>k_is)
  (case kc_Hall=>k_is)
  (case na_Hall_numbers=>k_is)
  (case na_Hall_rows=>k_is)
  (case gx_RateError=>k_is)
  (case ex_RateError=>k_exc)
  (case gx_NoName=>k_is)
  (case ex_NoName=>k_exc)
  (case gx_Twice=>k_is)
  (case ex_Twice=>k_exc)
  (case gx_TooMuch=>k_is)
  (case ex_TooMuch=>k_exc)
  (case gx_NoWork=>k_is)
  (case ex_NoWork=>k_exc)
  (case gx_NoBelt=>k_is)
  (case ex_NoBelt=>k_exc)
  (case gx_NoRate=>k_is)
  (case ex_NoRate=>k_exc)
  (case gx_NoRoom=>k_is)
  (case ex_NoRoom=>k_exc)
  (case em_RateError_RateError=>kts_exm)
  (case em_NoName_RateError=>kts_exm)
  (case em_Twice_RateError=>kts_exm)
  (case em_TooMuch_RateError=>kts_exm)
  (case em_NoWork_RateError=>kts_exm)
  (case em_NoBelt_RateError=>kts_exm)
  (case em_NoRate_RateError=>kts_exm)
  (case em_NoRoom_RateError=>kts_exm)
  (case xg=>k_is)
  (case xt=>k_is)
  (case x1_NoName=>k_is)
  (case x2_NoName=>k_is)
  (case x3_NoName=>k_is)
  (case x4_NoName=>k_is)
  (case x5_NoName=>k_is)
  (case x1_Twice=>k_is)
  (case x2_Twice=>k_is)
  (case x3_Twice=>k_is)
  (case x4_Twice=>k_is)
  (case x5_Twice=>k_is)
  (case x1_TooMuch=>k_is)
  (case x2_TooMuch=>k_is)
  (case x3_TooMuch=>k_is)
  (case x4_TooMuch=>k_is)
  (case x5_TooMuch=>k_is)
  (case x1_NoWork=>k_is)
  (case x2_NoWork=>k_is)
  (case x3_NoWork=>k_is)
  (case x4_NoWork=>k_is)
  (case x5_NoWork=>k_is)
  (case x1_NoBelt=>k_is)
  (case x2_NoBelt=>k_is)
  (case x3_NoBelt=>k_is)
  (case x4_NoBelt=>k_is)
  (case x5_NoBelt=>k_is)
  (case x1_NoRate=>k_is)
  (case x2_NoRate=>k_is)
  (case x3_NoRate=>k_is)
  (case x4_NoRate=>k_is)
  (case x5_NoRate=>k_is)
  (case x1_NoRoom=>k_is)
  (case x2_NoRoom=>k_is)
  (case x3_NoRoom=>k_is)
  (case x4_NoRoom=>k_is)
  (case x5_NoRoom=>k_is)
  (case ki_NoName_NoRoom=>kit_is)
  (case ki_NoName_ValueError=>kit_is)
  (case ki_NoName_NoRate=>kit_is)
  (case ki_NoName_TooMuch=>kit_is)
  (case ki_Twice_NoRoom=>kit_is)
  (case ki_Twice_ValueError=>kit_is)
  (case ki_Twice_NoRate=>kit_is)
  (case ki_Twice_TooMuch=>kit_is)
  (case ki_TooMuch_NoRoom=>kit_is)
  (case ki_TooMuch_ValueError=>kit_is)
  (case ki_TooMuch_NoRate=>kit_is)
  (case ki_TooMuch_TooMuch=>kit_is)
  (case ki_NoWork_NoRoom=>kit_is)
  (case ki_NoWork_ValueError=>kit_is)
  (case ki_NoWork_NoRate=>kit_is)
  (case ki_NoWork_TooMuch=>kit_is)
  (case ki_NoBelt_NoRoom=>kit_is)
  (case ki_NoBelt_ValueError=>kit_is)
  (case ki_NoBelt_NoRate=>kit_is)
  (case ki_NoBelt_TooMuch=>kit_is)
  (case ki_NoRate_NoRoom=>kit_is)
  (case ki_NoRate_ValueError=>kit_is)
  (case ki_NoRate_NoRate=>kit_is)
  (case ki_NoRate_TooMuch=>kit_is)
  (case ki_NoRoom_NoRoom=>kit_is)
  (case ki_NoRoom_ValueError=>kit_is)
  (case ki_NoRoom_NoRate=>kit_is)
  (case ki_NoRoom_TooMuch=>kit_is)
  (case c_MOST_LETTERS=>k_is)
  (case c_MOST_WORKS=>k_is)
  (case c_MOST_BELTS=>k_is)
  (case z_ValueError=>k_is)
  (case z_all=>k_is)
  (case z_bool=>k_is)
  (case z_enumerate=>k_is)
  (case z_int=>k_is)
  (case z_isinstance=>k_is)
  (case z_len=>k_is)
  (case z_list=>k_is)
  (case z_min=>k_is)
  (case z_range=>k_is)
  (case z_reversed=>k_is)
  (case z_sorted=>k_is)
  (case z_str=>k_is)
  (case z_tuple=>k_is)
  (case z_zip=>k_is)
#print axioms PySem.Challenge.cw_ratehall_k16_backed_halls_holds
