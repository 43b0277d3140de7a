import PyProof.Rows.All
import Wide.All
import OpenK.AllK
import Wide.FinOn
import Lean
import PyProof.EqAt
import PyProof.EqKinds
import PyProof.TupleCall
import PySem.Challenge.RW_ratehall_k26_mill_turns
set_option maxHeartbeats 4000000
set_option Elab.async false
set_option linter.all false
set_option maxRecDepth 100000
namespace L2
open PySem PySem.Spec PyProof.Rows
abbrev Key:=Sum Int Str
def Za1:Key→Value→Bool
 | .inl k,v=>Value.isInt k v
 | .inr x,v=>Value.isStrOf x v
def ZjS (w:World):Key→Int
 | .inl k=>hashInt k
 | .inr x=>hashStr w x
theorem Yz:∀{k:Key} {v:Value},Za1 k v=true→(∃i t,k=Sum.inl i∧v=Value.int i t)∨(∃x t,k=Sum.inr x∧v=Value.str x t)
 | .inl i,v,h=>by
  obtain⟨t,e⟩:=Value.isInt_shape (k:=i) (v:=v) h
  exact .inl ⟨i,t,rfl,e⟩
 | .inr x,v,h=>by
  obtain⟨t,e⟩:=Value.isStrOf_shape (x:=x) (v:=v) h
  exact .inr ⟨x,t,rfl,e⟩
theorem Zgb (i:Int) (t:Tok):Za1 (.inl i) (.int i t)=true:=by simp[Za1,Value.isInt]
theorem Zgh (x:Str) (t:Tok):Za1 (.inr x) (.str x t)=true:=by simp[Za1,Value.isStrOf]
theorem ZiX (a b:Int):decide ((Sum.inl a:Key)=Sum.inl b)=(a==b):=by
 by_cases e:a=b
 ·subst e;simp
 ·have h:¬(Sum.inl a:Key)=Sum.inl b:=fun q=>e (Sum.inl.inj q)
  rw[decide_eq_false h]
  exact(beq_eq_false_iff_ne.mpr e).symm
theorem Zig (a b:Str):decide ((Sum.inr a:Key)=Sum.inr b)=decide (a=b):=by
 by_cases e:a=b
 ·subst e;simp
 ·have h:¬(Sum.inr a:Key)=Sum.inr b:=fun q=>e (Sum.inr.inj q)
  rw[decide_eq_false h,decide_eq_false e]
theorem Zin (a:Int) (b:Str):decide ((Sum.inl a:Key)=Sum.inr b)=false:=decide_eq_false (fun q=>nomatch q)
theorem ZiV (a:Str) (b:Int):decide ((Sum.inr a:Key)=Sum.inl b)=false:=decide_eq_false (fun q=>nomatch q)
def Yu (prog:Program) (w:World):PySem.KeyKind prog w Key where
 is:=Za1
 hash:=ZjS w
 inj:=fun v a b ha hb=>by
  rcases Yz ha with⟨i,t,rfl,rfl⟩|⟨x,t,rfl,rfl⟩
  ·rcases Yz hb with⟨j,u,rfl,e⟩|⟨y,u,rfl,e⟩
   ·injection e with e1 _;rw[e1]
   ·exact nomatch e
  ·rcases Yz hb with⟨j,u,rfl,e⟩|⟨y,u,rfl,e⟩
   ·exact nomatch e
   ·injection e with e1 _;rw[e1]
 byValue:=fun k v h=>by
  rcases Yz h with⟨i,t,rfl,rfl⟩|⟨x,t,rfl,rfl⟩<;>rfl
 pyHash:=fun hv h=>by
  rcases Yz hv with⟨i,t,rfl,rfl⟩|⟨x,t,rfl,rfl⟩
  ·exact wpAny_pyHash_int h
  ·exact wpAny_pyHash_str h
 eqBool:=fun hu hv h=>by
  rcases Yz hu with⟨i,t,rfl,rfl⟩|⟨x,t,rfl,rfl⟩
  ·rcases Yz hv with⟨j,u,rfl,rfl⟩|⟨y,u,rfl,rfl⟩
   ·rw[ZiX] at h;exact wpAny_eqBool_int h
   ·rw[Zin] at h;exact SeqAt.EqAt.int_str i t y u _ _ _ _ h
  ·rcases Yz hv with⟨j,u,rfl,rfl⟩|⟨y,u,rfl,rfl⟩
   ·rw[ZiV] at h;exact SeqAt.EqAt.str_int x t j u _ _ _ _ h
   ·rw[Zig] at h;exact wpAny_eqBool_str h
 «strs»:=fun k x t v h=>by
  rcases Yz h with⟨i,u,rfl,e⟩|⟨y,u,rfl,e⟩
  ·exact nomatch e
  ·injection e with e1 _
   subst e1
   cases v<;>rfl
theorem Zd2 (prog:Program) (w:World) (i:Int) (t:Tok):(Yu prog w).is (.inl i) (.int i t)=true:=Zgb i t
theorem Zeh (prog:Program) (w:World) (x:Str) (t:Tok):(Yu prog w).is (.inr x) (.str x t)=true:=Zgh x t
end L2
namespace L2
open PySem PySem.Spec PyProof.Rows
inductive V where
 |non|bl (b:Bool)|int (i:Int)|str (x:Str)|byt (b:Array UInt8)|flt (b:UInt64)|ref (a:Addr)|ty (n:String)
 deriving DecidableEq
def ZB:V→Value→Prop
 | .non,u=>u=Value.none
 | .bl b,u=>u=Value.bool b
 | .int i,u=>∃t,u=Value.int i t
 | .str x,u=>∃t,u=Value.str x t
 | .byt b,u=>∃t,u=Value.bytes b t
 | .flt b,u=>∃t,u=Value.float b t
 | .ref a,u=>u=Value.ref a
 | .ty n,u=>u=Value.type n
abbrev Zw:List V→List Value→Prop:=Paired ZB
theorem Zw.length {xs:List V} {us:List Value} (r:Zw xs us):xs.length=us.length:=Paired.length r
theorem Zw.get:∀{xs:List V} {us:List Value} {i:Nat} {x:V},Zw xs us→xs[i]? =some x→∃u,us[i]? =some u∧ZB x u
 |_,_,_,_,.nil,e=>by simp at e
 |_,_,0,_,.cons r _,e=>by simp at e;subst e;exact⟨_,rfl,r⟩
 |_,_,i+1,x,.cons _ t,e=>by
  obtain⟨u,h1,h2⟩:=Zw.get (i:=i) (x:=x) t (by simpa using e)
  exact⟨u,by simpa using h1,h2⟩
theorem Zw.set {x:V} {u:Value} (r:ZB x u):∀{xs:List V} {us:List Value} (i:Nat),Zw xs us→Zw (xs.set i x) (us.set i u)
 |_,_,_,.nil=> .nil
 |_,_,0,.cons _ t=> .cons r t
 |_,_,i+1,.cons q t=> .cons q (Zw.set r i t)
theorem Zw.append:∀{xs ys:List V} {us ws:List Value},Zw xs us→Zw ys ws→Zw (xs++ys) (us++ws)
 |_,_,_,_,.nil,s=>s
 |_,_,_,_,.cons r t,s=> .cons r (Zw.append t s)
theorem Zw.take:∀{xs:List V} {us:List Value} (n:Nat),Zw xs us→Zw (xs.take n) (us.take n)
 |_,_,0,_=> .nil
 |_,_,_+1,.nil=> .nil
 |_,_,n+1,.cons r t=> .cons r (Zw.take n t)
theorem Zw.drop:∀{xs:List V} {us:List Value} (n:Nat),Zw xs us→Zw (xs.drop n) (us.drop n)
 |_,_,0,r=>r
 |_,_,_+1,.nil=> .nil
 |_,_,n+1,.cons _ t=>Zw.drop n t
def Vg:Option V→Option Value→Prop
 |some v,some u=>ZB v u
 |none,none=>True
 |_,_=>False
def KV {κ:Type}:List (κ×V)→List (κ×Value)→Prop:=Paired fun(p:κ×V) (q:κ×Value)=>p.1=q.1∧ZB p.2 q.2
def kV:Key→V
 | .inl i=> .int i
 | .inr x=> .str x
inductive HO where
 |lst (xs:List V)
 |tup (xs:List V)
 |dK (kvs:List (Key×V))|dT (kvs:List (List Key×V))
 |set (S:Int→Bool) (n:Nat)
 |ins (C dx:Addr) (fs:List (Str×V))
 |own (x:Addr)
 |xd (fs:List (Str×V))
 |met (f x:Addr)
 |rng (lo hi:Int)
 |frz (o:Obj) (u:HO)
 |tbl (ps:Array Value)
 |ext (φ:Heap→Prop)
abbrev Hp:=Addr→Option HO
def upd (H:Hp) (a:Addr) (o:HO):Hp:=fun b=>if b=a then some o else H b
theorem Zg {H:Hp} {a:Addr} {o:HO}:upd H a o a=some o:=by unfold upd;rw[if_pos rfl]
theorem Zi {H:Hp} {a b:Addr} {o:HO} (h:b≠a):upd H a o b=H b:=by unfold upd;rw[if_neg h]
theorem WH {H:Hp} {a b:Addr} {o u:HO} (h:H a=some o) (h':H b=some u) (d:o≠u):a≠b:=by
 intro e;subst e;rw[h] at h';exact d (Option.some.inj h')
theorem Zq {H:Hp} {a b:Addr} {o:HO} (h:H a=some o) (h':H b=none):a≠b:=by
 intro e;subst e;rw[h] at h';cases h'
section
variable (P:Program) (w:World)
def Z4 (H:Hp) (h:Heap) (a:Addr):HO→Prop
 | .lst xs=>xs.length≤sizeLine∧∃(its:List Value) (n:Nat),Zw xs its∧h.get? a=some {cls:= .type "list",data:= .seq its.toArray n}
 | .tup xs=>xs.length≤sizeLine∧∃its:List Value,Zw xs its∧IsTup h a its.toArray
 | .dK kvs=>kvs.length≤sizeLine∧(a==sysModules)=false∧∃vs,KV kvs vs∧h.DictOf (Yu P w) a vs
 | .dT kvs=>kvs.length≤sizeLine∧(a==sysModules)=false∧∃xs:List (List Key×Addr×Value),
   Paired (fun(p:List Key×V) (q:List Key×Addr×Value)=>p.1=q.1∧H q.2.1=some (.tup (p.1.map kV))∧ZB p.2 q.2.2) kvs xs∧
   ∃o es ep,h.get? a=some o∧o.ExactDict∧o.data= .dict es ep∧es.toList=xs.map (entryOfKey (tupleKind (Yu P w)))∧(xs.map (·.1)).Nodup
 | .set S n=>h.SetOf (intKind P w) a S n
 | .ins C dx fs=>H dx=some (.own a)∧fs.length≤1000∧dx≠a∧h.get? a=some (PySem.W.instObj C dx)∧
   ∃mA,h.Ns1 dx mA∧(∀f,Vg (fs.lookup f) (mA f))∧PySem.Within mA (fs.map (·.1))
 | .own _=>∃o,h.get? a=some o
 | .xd fs=>∃mA,h.Ns1 a mA∧∀f,Vg (fs.lookup f) (mA f)
 | .rng lo hi=>∃t u v,h.get? a=some {cls:= .type "range",data:= .fields #[.int lo t,.int hi u,.int 1 v]}
 | .frz o u=>h.get? a=some o∧Z4 H h a u
 | .tbl ps=>h.get? a=some {cls:= .none,data:= .fields ps}
 | .met f x=>h.get? a=some (PySem.W.methodObj (.ref f) (.ref x))
 | .ext φ=>φ h∧(∃o,h.get? a=some o)∧∀h1 h2:Heap,φ h1→(∀o,h1.get? a=some o→h2.get? a=some o)→φ h2
def HOk (H:Hp) (h:Heap):Prop:=∀a o,H a=some o→Z4 P w H h a o
end
section
variable {P:Program} {w:World} {H H':Hp} {h h':Heap} {a:Addr} {o:HO}
theorem Z4.lt (x:Z4 P w H h a o):a<h.objs.size:=by
 cases o with
 |lst xs=>obtain⟨_,_,_,_,e⟩:=x;exact Heap.lt_size e
 |tup xs=>obtain⟨_,_,_,p⟩:=x;exact p.lt
 |dK kvs=>obtain⟨_,_,_,_,o,_,_,e,_⟩:=x;exact Heap.lt_size e
 |dT kvs=>obtain⟨_,_,_,_,o,_,_,e,_⟩:=x;exact Heap.lt_size e
 |set S n=>obtain⟨o,_,_,_,e,_⟩:=x;exact Heap.lt_size e
 |ins C dx fs=>obtain⟨_,_,_,e,_⟩:=x;exact Heap.lt_size e
 |own y=>obtain⟨_,e⟩:=x;exact Heap.lt_size e
 |xd fs=>obtain⟨_,⟨_,_,_,e,_⟩,_⟩:=x;exact Heap.lt_size e
 |rng lo hi=>obtain⟨_,_,_,e⟩:=x;exact Heap.lt_size e
 |frz ob u=>obtain⟨e,_⟩:=x;exact Heap.lt_size e
 |tbl ps=>exact Heap.lt_size (show h.get? a=some _ from x)
 |met f y=>exact Heap.lt_size (show h.get? a=some _ from x)
 |ext φ=>obtain⟨_,⟨_,e⟩,_⟩:=x;exact Heap.lt_size e
theorem Paired.mapP {α β:Type} {F G:α→β→Prop}:∀{l₁:List α} {l₂:List β},Paired F l₁ l₂→(∀a b,F a b→G a b)→Paired G l₁ l₂
 |_,_,.nil,_=> .nil
 |_,_,.cons r t,f=> .cons (f _ _ r) (Paired.mapP t f)
theorem Z4.stay (x:Z4 P w H h a o) (k:∀b u,(b=a∨H b=some (.own a))→h.get? b=some u→h'.get? b=some u)
  (ho:∀b,H b=some (.own a)→H' b=some (.own a)) (ht:∀b xs,H b=some (.tup xs)→H' b=some (.tup xs)):Z4 P w H' h' a o:=by
 induction o with
 |lst xs=>obtain⟨z,its,n,r,e⟩:=x;exact⟨z,its,n,r,k _ _ (.inl rfl) e⟩
 |tup xs=>obtain⟨z,its,r,ob,e,c⟩:=x;exact⟨z,its,r,ob,k _ _ (.inl rfl) e,c⟩
 |dK kvs=>obtain⟨z,y,vs,r,ob,es,ep,e,c⟩:=x;exact⟨z,y,vs,r,ob,es,ep,k _ _ (.inl rfl) e,c⟩
 |dT kvs=>
  obtain⟨z,y,xs,r,ob,es,ep,e,c⟩:=x
  exact⟨z,y,xs,Paired.mapP r fun p q z=>⟨z.1,ht _ _ z.2.1,z.2.2⟩,ob,es,ep,k _ _ (.inl rfl) e,c⟩
 |set S n=>obtain⟨ob,es,ep,t,e,c⟩:=x;exact⟨ob,es,ep,t,k _ _ (.inl rfl) e,c⟩
 |ins C dx fs=>
  obtain⟨d,z,ne,e,mA,⟨od,es,ep,e2,c⟩,r⟩:=x
  exact⟨ho _ d,z,ne,k _ _ (.inl rfl) e,mA,⟨od,es,ep,k _ _ (.inr d) e2,c⟩,r⟩
 |own y=>obtain⟨ob,e⟩:=x;exact⟨ob,k _ _ (.inl rfl) e⟩
 |xd fs=>obtain⟨mA,⟨od,es,ep,e,c⟩,r⟩:=x;exact⟨mA,⟨od,es,ep,k _ _ (.inl rfl) e,c⟩,r⟩
 |rng lo hi=>obtain⟨t,u,v,e⟩:=x;exact⟨t,u,v,k _ _ (.inl rfl) e⟩
 |frz ob u ih=>obtain⟨e,q⟩:=x;exact⟨k _ _ (.inl rfl) e,ih q⟩
 |tbl ps=>
  have e:h.get? a=some {cls:= .none,data:= .fields ps}:=x
  show h'.get? a=some {cls:= .none,data:= .fields ps}
  exact k a _ (.inl rfl) e
 |met f y=>
  have e:h.get? a=some (PySem.W.methodObj (.ref f) (.ref y)):=x
  show h'.get? a=some (PySem.W.methodObj (.ref f) (.ref y))
  exact k a _ (.inl rfl) e
 |ext φ=>obtain⟨p,⟨o,e⟩,st⟩:=x;exact⟨st _ _ p fun o q=>k _ _ (.inl rfl) q,⟨o,k _ _ (.inl rfl) e⟩,st⟩
theorem HOk.lt (x:HOk P w H h) (e:H a=some o):a<h.objs.size:=(x a o e).lt
theorem HOk.fresh (x:HOk P w H h) (e:h.objs.size≤a):H a=none:=by
 cases q:H a with
 |none=>rfl
 |some u=>exact absurd (Nat.lt_of_lt_of_le (x.lt q) e) (Nat.lt_irrefl _)
theorem HOk.kept (x:HOk P w H h) (k:∀b u,h.get? b=some u→h'.get? b=some u):HOk P w H h':=fun a o e=>
 (x a o e).stay (fun b u _ q=>k b u q) (fun _ q=>q) fun _ _ q=>q
theorem HOk.laid (x:HOk P w H h) (k:∀b u,h.get? b=some u→h'.get? b=some u) (hp:h.objs.size≤a) (new:Z4 P w (upd H a o) h' a o):HOk P w (upd H a o) h':=fun b u e=>by
 have hn:=x.fresh hp
 by_cases hb:b=a
 ·subst hb;rw[Zg] at e;cases e;exact new
 ·rw[Zi hb] at e
  exact(x b u e).stay (fun c v _ q=>k c v q) (fun c q=>by rw[Zi (Zq q hn)];exact q) fun c xs q=>by rw[Zi (Zq q hn)];exact q
end
def Rd (H:Hp) (a:Addr) (u:HO):Prop:=H a=some u∨∃o,H a=some (.frz o u)
theorem Rd.ok {P:Program} {w:World} {H:Hp} {h:Heap} {a:Addr} {u:HO} (r:Rd H a u) (x:HOk P w H h):Z4 P w H h a u:=by
 rcases r with r|⟨o,r⟩
 ·exact x a u r
 ·obtain⟨_,q⟩:=x a _ r
  exact q
def Mut:Option HO→Prop
 |some (.lst _)=>True
 |some (.dK _)=>True
 |some (.dT _)=>True
 |some (.set _ _)=>True
 |some (.ins _ _ _)=>True
 |some (.ext _)=>True
 |_=>False
section
variable {P:Program} {w:World} {H:Hp} {h h':Heap} {x e:Addr} {o':HO}
theorem HOk.write (ok:HOk P w H h) (mu:Mut (H x)) (he:e=x∨H e=some (.own x)) (k:∀b u,b≠e→h.get? b=some u→h'.get? b=some u) (heo:∃u,h'.get? e=some u)
  (new:Z4 P w (upd H x o') h' x o'):HOk P w (upd H x o') h':=fun b u q=>by
 have nown:∀c y,H c=some (.own y)→c≠x:=fun c y r z=>by subst z;rw[r] at mu;exact mu
 have ntup:∀c xs,H c=some (.tup xs)→c≠x:=fun c xs r z=>by subst z;rw[r] at mu;exact mu
 by_cases hb:b=x
 ·subst hb;rw[Zg] at q;cases q;exact new
 ·rw[Zi hb] at q
  by_cases hbe:b=e
  ·have q':H b=some (.own x):=by
    rcases he with z|z
    ·exact absurd (hbe.trans z) hb
    ·rw[hbe];exact z
   rw[q] at q';cases q'
   obtain⟨v,hv⟩:=heo
   exact⟨v,by rw[hbe];exact hv⟩
  ·refine(ok b u q).stay (fun c v hc r=>k c v ?_ r) (fun c r=>by rw[Zi (nown c b r)];exact r) fun c xs r=>by rw[Zi (ntup c xs r)];exact r
   rcases hc with rfl|hc
   ·exact hbe
   ·rintro rfl
    rcases he with z|z
    ·exact nown c b hc z
    ·rw[hc] at z;cases z;exact hb rfl
end
structure Un (fs ex:List Addr) (H H':Hp) (h h':Heap):Prop where
 keep:∀b o,h.get? b=some o→H b=none→b∉fs→b∉ex→h'.get? b=some o
 slot:∀b o,h.get? b=some o→H b=none→b∈fs→b∉ex→∃sl,h'.get? b=some {o with slots:=sl}
 free:∀b o,h.get? b=some o→H b=none→b∉ex→H' b=none
 there:∀b o,h.get? b=some o→b∉ex→∃o',h'.get? b=some o'
 tups:∀b xs,H b=some (.tup xs)→H' b=some (.tup xs)
 frzs:∀b o u,H b=some (.frz o u)→H' b=some (.frz o u)
 tbls:∀b ps,H b=some (.tbl ps)→∃more,H' b=some (.tbl (ps++more))
section
variable {fs fs' ex ex':List Addr} {H H1 H2:Hp} {h h1 h2 h':Heap} {a x e:Addr} {o:HO}
theorem Un.any (u:Un fs ex H H1 h h1) {b:Addr} {ob:Obj} (q:h.get? b=some ob) (n:H b=none) (hx:b∉ex):∃sl,h1.get? b=some {ob with slots:=sl}:=by
 by_cases hb:b∈fs
 ·exact u.slot b ob q n hb hx
 ·exact⟨ob.slots,u.keep b ob q n hb hx⟩
theorem Un.kept (k:∀b u,h.get? b=some u→h'.get? b=some u):Un fs ex H H h h':=
 ⟨fun b ob q _ _ _=>k b ob q,fun b ob q _ _ _=>⟨ob.slots,k b ob q⟩,fun _ _ _ n _=>n,fun b ob q _=>⟨ob,k b ob q⟩,fun _ _ q=>q,fun _ _ _ q=>q,fun _ ps q=>⟨#[],by rw[q];simp⟩⟩
theorem Un.refl:Un fs ex H H h h:=Un.kept fun _ _ q=>q
theorem Un.laid (k:∀b u,h.get? b=some u→h'.get? b=some u) (hp:h.objs.size≤a) (hn:H a=none):Un fs ex H (upd H a o) h h' where
 keep:=fun b u q _ _ _=>k b u q
 slot:=fun b u q _ _ _=>⟨u.slots,k b u q⟩
 free:=fun b u q n _=>by rw[Zi (Nat.ne_of_lt (Nat.lt_of_lt_of_le (Heap.lt_size q) hp))];exact n
 there:=fun b u q _=>⟨u,k b u q⟩
 tups:=fun b xs q=>by rw[Zi (Zq q hn)];exact q
 frzs:=fun b u xs q=>by rw[Zi (Zq q hn)];exact q
 tbls:=fun b ps q=>⟨#[],by rw[Zi (Zq q hn),q];simp⟩
theorem Un.write (mu:Mut (H x)) (he:e=x∨H e=some (.own x)) (k:∀b u,b≠e→h.get? b=some u→h'.get? b=some u) (heo:∃u,h'.get? e=some u):Un fs ex H (upd H x o) h h':=by
 have hx:∀b,H b=none→b≠x:=fun b n z=>by subst z;rw[n] at mu;exact mu
 have hb:∀b,H b=none→b≠e:=fun b n z=>by
  subst z
  rcases he with r|r
  ·exact hx b n r
  ·rw[n] at r;cases r
 have hm:∀b u,H b=some u→¬Mut (some u)→b≠x:=fun b u q nm z=>by subst z;rw[q] at mu;exact nm mu
 refine⟨fun b u q n _ _=>k b u (hb b n) q,fun b u q n _ _=>⟨u.slots,k b u (hb b n) q⟩,fun b u q n _=>by rw[Zi (hx b n)];exact n,fun b u q _=>?_,
  fun b xs q=>by rw[Zi (hm b _ q fun z=>z)];exact q,fun b u xs q=>by rw[Zi (hm b _ q fun z=>z)];exact q,fun b ps q=>⟨#[],by rw[Zi (hm b _ q fun z=>z),q];simp⟩⟩
 by_cases hbe:b=e
 ·subst hbe;exact heo
 ·exact⟨u,k b u hbe q⟩
end
def trk (h:Heap) (H:Hp):List Addr:=(List.range h.objs.size).filter fun a=>(H a).isSome
def Zae (h:Heap) (H:Hp):Heap:=PySem.W.hideAll h (trk h H)
theorem ZfU (h:Heap) (H:Hp):(Zae h H).objs.size=h.objs.size:=PySem.W.hideAll_size _ _
theorem ZgU {h:Heap} {H:Hp} {b:Addr} {o:Obj} (e:h.get? b=some o) (n:H b=none):(Zae h H).get? b=some o:=
 PySem.W.hideAll_get _ e fun hm=>by
  have q:(H b).isSome=true:=(List.mem_filter.mp hm).2
  rw[n] at q;simp at q
theorem Zhk {h:Heap} {H:Hp} {b:Addr} {o:Obj} (e:(Zae h H).get? b=some o):h.get? b=some o∧H b=none:=by
 have e':h.get? b=some o:=PySem.W.of_hideAll (trk h H) e
 refine⟨e',?_⟩
 cases q:H b with
 |none=>rfl
 |some x=>
  have hm:b∈trk h H:=List.mem_filter.mpr ⟨List.mem_range.mpr (Heap.lt_size e'),by simp[q]⟩
  have z:(Zae h H).get? b=none:=PySem.W.hideAll_none (trk h H) hm
  rw[z] at e;cases e
end L2
namespace L2
open PySem PySem.Spec PyProof.Rows
structure Mod (K:PySem.W.Frag) (mg:Str→Option Value) (base:Heap):Prop where
 kin:K.In base
 glob:base.Ns mainGlobals mg
 blt:∃mb,base.Ns builtinsNs mb∧∀x:Str,x≠"__name__" →mb x=bootBuiltins x
 nolimit:base.NoLimit
structure Cx where
 prog:Program
 w:World
 K:PySem.W.Frag
 mg:Str→Option Value
 base:Heap
 A:Around
 N:List Str
 s₀:Shared
 H₀:Hp
 env:Env
 outer:List Env
 stack:List Env
 ex:List Addr
 fn:Str→Bool
 calm:Bool
 pn:List (Addr×Obj)
 xe:Value→Shared→Prop
def frs (l:List Env):List Addr:=l.filterMap (·.frame)
abbrev Cx.fs (X:Cx):List Addr:=frs X.outer
def Vis (sc:Scope) (x:Str):Prop:=sc.names.lookup x=some .local∨sc.names.lookup x=some .cell∨sc.names.lookup x=some .free
def Loc (sc:Scope) (x:Str):Prop:=sc.names.lookup x=some .local∨sc.names.lookup x=some .cell
def ZiY (env:Env) (h:Heap) (m:Str→Option Value) (x:Str) (u:Value):Prop:=
 (env.kindOf x=some .local∧m x=some u)∨((env.kindOf x=some .cell∨env.kindOf x=some .free)∧∃c,env.cells.lookup x=some c∧h.IsCell c (some u))
structure Cx.Ok (X:Cx):Prop where
 mod:Mod X.K X.mg X.base
 kind:X.env.scope.kind= .function
 glob:X.env.globals=mainGlobals
 blt:X.env.builtins=builtinsNs
 above:X.s₀.heap.objs.size≤X.env.locals
 inj:∀x y c,X.env.cells.lookup x=some c→X.env.cells.lookup y=some c→x=y
 has:∀x,(X.env.kindOf x=some .cell∨X.env.kindOf x=some .free)→∃c,X.env.cells.lookup x=some c
 cab:∀x c,X.fn x=true→X.env.cells.lookup x=some c→X.s₀.heap.objs.size≤c
 hd:X.calm=true→X.A.handled=none
 frames:X.A.frames=some X.stack
 stk:X.stack=X.outer∨(X.stack=X.env::X.outer∧X.env.frame=some X.env.locals)
 exf:∀b∈X.ex,b≠X.env.locals∧∀x c,X.env.cells.lookup x=some c→c≠b
 bs:∀b o,X.base.get? b=some o→X.s₀.heap.get? b=some o∧X.H₀ b=none
 bsz:X.base.objs.size≤X.s₀.heap.objs.size
 noex:∀b o,X.base.get? b=some o→b∉X.ex
 exfs:∀b∈X.ex,b∉X.fs
 funs:X.s₀.heap.FunFrames X.base X.outer
 frf:∀b∈X.fs,X.H₀ b=none
structure Inv (X:Cx) (pins:List (Addr×Obj)) (σ:List (Option V)) (H:Hp) (s:Shared):Prop where
 ok:X.Ok
 os:s.os=X.s₀.os
 bare:AllBare s.gens
 base:Un X.fs X.ex X.H₀ H X.s₀.heap s.heap
 loc:∃m,s.heap.Ns X.env.locals m∧∀(i:Nat) (x:Str) (v:V),X.N[i]? =some x→σ[i]? =some (some v)→Vis X.env.scope x→∃u,ZB v u∧ZiY X.env s.heap m x u
 cell:∀x c,X.env.cells.lookup x=some c→∃v,s.heap.IsCell c v
 free:H X.env.locals=none
 freeC:∀x c,X.env.cells.lookup x=some c→H c=none
 pin:∀p∈X.pn++pins,s.heap.get? p.1=some p.2∧H p.1=none∧p.1≠X.env.locals∧p.1∉X.fs∧∀v,p.2.data≠ .cell v
 hok:HOk X.prog X.w H s.heap
 len:σ.length=X.N.length
section
variable {X:Cx} {pins:List (Addr×Obj)} {σ:List (Option V)} {H H':Hp} {s:Shared} {h':Heap}
theorem Cx.Ok.nofr (ok:X.Ok) {b:Addr} {o:Obj} (e:X.base.get? b=some o):b∉X.fs:=fun hb=>by
 have:=(ok.funs.mem hb).1
 rw[e] at this;cases this
theorem Inv.bs (I:Inv X pins σ H s):∀b o,X.base.get? b=some o→s.heap.get? b=some o∧H b=none:=fun b o e=>
 ⟨I.base.keep b o (I.ok.bs b o e).1 (I.ok.bs b o e).2 (I.ok.nofr e) (I.ok.noex b o e),I.base.free b o (I.ok.bs b o e).1 (I.ok.bs b o e).2 (I.ok.noex b o e)⟩
theorem Inv.bk (I:Inv X pins σ H s):∀b o,X.base.get? b=some o→s.heap.get? b=some o:=fun b o e=>(I.bs b o e).1
theorem Inv.mod (I:Inv X pins σ H s):Mod X.K X.mg X.base:=I.ok.mod
theorem Inv.kIn (I:Inv X pins σ H s):X.K.In s.heap:=I.ok.mod.kin.keeps I.bk
theorem Inv.lt (I:Inv X pins σ H s):X.env.locals<s.heap.objs.size:=let⟨_,hn,_⟩:=I.loc;hn.lt
theorem Inv.sz (I:Inv X pins σ H s):X.s₀.heap.objs.size≤s.heap.objs.size:=Nat.le_trans I.ok.above (Nat.le_of_lt I.lt)
theorem Inv.nofs (I:Inv X pins σ H s) {a:Addr} (h:s.heap.objs.size≤a):a∉X.fs:=fun hb=>by
 obtain⟨_,o,ho,_⟩:=I.ok.funs.mem hb
 exact absurd (Nat.lt_of_lt_of_le (Heap.lt_size ho) (Nat.le_trans I.sz h)) (Nat.lt_irrefl _)
theorem Inv.cne (I:Inv X pins σ H s):∀x c,X.env.cells.lookup x=some c→c≠X.env.locals:=fun x c e z=>by
 obtain⟨v,o,ho,hd⟩:=I.cell x c e
 obtain⟨m,⟨o',es,ep,ho',hd',_⟩,_⟩:=I.loc
 rw[z,ho'] at ho;cases ho;rw[hd'] at hd;cases hd
theorem Inv.funs (I:Inv X pins σ H s):s.heap.FunFrames X.base X.outer:=by
 have all:∀(l:List Env),(∀b∈frs l,b∈X.fs)→X.s₀.heap.FunFrames X.base l→s.heap.FunFrames X.base l:=by
  intro l
  induction l with
  |nil=>intro _ _;trivial
  |cons env r ih=>
   intro hs hl
   obtain⟨hk,⟨L,o,hf,hn,ho,hd⟩,hr⟩:=hl
   have hL:L∈X.fs:=hs L (by unfold frs;rw[List.filterMap_cons,hf];exact List.mem_cons_self)
   obtain⟨sl,e⟩:=I.base.slot L o ho (I.ok.frf L hL) hL fun z=>I.ok.exfs L z hL
   exact⟨hk,⟨L,_,hf,hn,e,hd⟩,ih (fun b hb=>hs b (by unfold frs;rw[List.filterMap_cons,hf];exact List.mem_cons_of_mem _ hb)) hr⟩
 exact all X.outer (fun _ hb=>hb) I.ok.funs
theorem Inv.stack (I:Inv X pins σ H s):s.heap.FunFrames X.base X.stack:=by
 rcases I.ok.stk with e|⟨e,hf⟩
 ·rw[e];exact I.funs
 ·rw[e]
  obtain⟨m,hn,_⟩:=I.loc
  refine .cons (by rw[I.ok.kind];decide) hf hn ?_ I.funs
  exact Heap.get?_none_of_le (Nat.le_trans I.ok.bsz I.ok.above)
theorem Inv.stkSub (I:Inv X pins σ H s):∀b∈frs X.stack,b∈X.env.locals::X.fs:=fun b hb=>by
 rcases I.ok.stk with e|⟨e,hf⟩
 ·rw[e] at hb;exact List.mem_cons_of_mem _ hb
 ·rw[e] at hb
  unfold frs at hb
  rw[List.filterMap_cons,hf] at hb
  exact hb
theorem Inv.stkFree (I:Inv X pins σ H s):∀b∈frs X.stack,H b=none:=fun b hb=>by
 rcases List.mem_cons.mp (I.stkSub b hb) with e|hb
 ·rw[e];exact I.free
 ·obtain⟨_,o,ho,_⟩:=I.ok.funs.mem hb
  exact I.base.free b o ho (I.ok.frf b hb) fun z=>I.ok.exfs b z hb
theorem Inv.step {g':Array GenState} {t':Nat} {d':Drawn} {ch:List Addr} (I:Inv X pins σ H s)
  (hch:∀b∈ch,(b∈X.ex∨X.s₀.heap.objs.size≤b)∧b≠X.env.locals∧(∀x c,X.env.cells.lookup x=some c→c≠b)∧∀p∈X.pn++pins,p.1≠b)
  (keep:∀b o,b≠X.env.locals→b∉X.fs→b∉ch→s.heap.get? b=some o→H b=none→h'.get? b=some o)
  (slot:∀b o,b≠X.env.locals→b∈X.fs→b∉ch→s.heap.get? b=some o→H b=none→∃sl,h'.get? b=some {o with slots:=sl}) (free:∀b o,b∉ch→s.heap.get? b=some o→H b=none→H' b=none)
  (there:∀b o,b∉ch→s.heap.get? b=some o→∃o',h'.get? b=some o')
  (tups:∀b xs,H b=some (.tup xs)→H' b=some (.tup xs)) (frzs:∀b o u,H b=some (.frz o u)→H' b=some (.frz o u)) (tbls:∀b ps,H b=some (.tbl ps)→∃more,H' b=some (.tbl (ps++more)))
  (ns:∀m,s.heap.Ns X.env.locals m→h'.Ns X.env.locals m) (hok:HOk X.prog X.w H' h') (hg:AllBare g'):
  Inv X pins σ H' {s with heap:=h',gens:=g',drawn:=d',toks:=t'}:=by
 have neL:∀b o,X.s₀.heap.get? b=some o→b≠X.env.locals:=fun b o e=>Nat.ne_of_lt (Nat.lt_of_lt_of_le (Heap.lt_size e) I.ok.above)
 have neC:∀b o,X.s₀.heap.get? b=some o→b∉X.ex→b∉ch:=fun b o e hx hb=>by
  rcases(hch b hb).1 with z|z
  ·exact hx z
  ·exact absurd (Nat.lt_of_lt_of_le (Heap.lt_size e) z) (Nat.lt_irrefl _)
 have cellK:∀x c,X.env.cells.lookup x=some c→∀v,s.heap.IsCell c v→h'.IsCell c v:=fun x c e v ⟨o,ho,hd⟩=>by
  have nch:c∉ch:=fun z=>(hch c z).2.2.1 x c e rfl
  by_cases hc:c∈X.fs
  ·obtain⟨sl,q⟩:=slot c o (I.cne x c e) hc nch ho (I.freeC x c e)
   exact⟨_,q,hd⟩
  ·exact⟨o,keep c o (I.cne x c e) hc nch ho (I.freeC x c e),hd⟩
 refine⟨I.ok,I.os,hg,⟨fun b o e n hb hx=>?_,fun b o e n hb hx=>?_,fun b o e n hx=>?_,fun b o e hx=>?_,fun b xs e=>tups b xs (I.base.tups b xs e),fun b o xs e=>frzs b o xs (I.base.frzs b o xs e),fun b ps e=>?_⟩,?_,fun x c e=>?_,?_,fun x c e=>?_,fun p hp=>?_,hok,I.len⟩
 ·exact keep b o (neL b o e) hb (neC b o e hx) (I.base.keep b o e n hb hx) (I.base.free b o e n hx)
 ·obtain⟨sl,e1⟩:=I.base.slot b o e n hb hx
  obtain⟨sl',e2⟩:=slot b _ (neL b o e) hb (neC b o e hx) e1 (I.base.free b o e n hx)
  exact⟨sl',e2⟩
 ·obtain⟨o',e1⟩:=I.base.there b o e hx
  exact free b o' (neC b o e hx) e1 (I.base.free b o e n hx)
 ·obtain⟨o',e1⟩:=I.base.there b o e hx
  exact there b o' (neC b o e hx) e1
 ·obtain⟨m1,e1⟩:=I.base.tbls b ps e
  obtain⟨m2,e2⟩:=tbls b _ e1
  exact⟨m1++m2,by rw[e2,Array.append_assoc]⟩
 ·obtain⟨m,hn,hl⟩:=I.loc
  refine⟨m,ns m hn,fun i x v e1 e2 e3=>?_⟩
  obtain⟨u,r,l⟩:=hl i x v e1 e2 e3
  refine⟨u,r,?_⟩
  rcases l with l|⟨k,c,e,z⟩
  ·exact .inl l
  ·exact .inr ⟨k,c,e,cellK x c e _ z⟩
 ·obtain⟨v,z⟩:=I.cell x c e
  exact⟨v,cellK x c e v z⟩
 ·obtain⟨m,⟨o,_,_,ho,_⟩,_⟩:=I.loc
  exact free _ o (fun z=>(hch _ z).2.1 rfl) ho I.free
 ·obtain⟨v,o,ho,hd⟩:=I.cell x c e
  exact free c o (fun z=>(hch c z).2.2.1 x c e rfl) ho (I.freeC x c e)
 ·obtain⟨e,n,ne,nf,d⟩:=I.pin p hp
  have nch:p.1∉ch:=fun z=>(hch p.1 z).2.2.2 p hp rfl
  exact⟨keep p.1 p.2 ne nf nch e n,free p.1 p.2 nch e n,ne,nf,d⟩
theorem Inv.un {t':Nat} (I:Inv X pins σ H s) (u:Un X.fs [] H H' s.heap h') (hok:HOk X.prog X.w H' h'):Inv X pins σ H' {s with heap:=h',toks:=t'}:=by
 obtain⟨m,⟨o,es,ep,ho,r⟩,_⟩:=id I.loc
 obtain⟨sl,hL⟩:=u.any ho I.free (by simp)
 exact I.step (g':=s.gens) (d':=s.drawn) (ch:=[]) (fun _ z=>nomatch z) (fun b o _ hb _ e n=>u.keep b o e n hb (by simp)) (fun b o _ hb _ e n=>u.slot b o e n hb (by simp)) (fun b o _ e n=>u.free b o e n (by simp)) (fun b o _ e=>u.there b o e (by simp)) u.tups u.frzs u.tbls (fun m' hm=>by
  obtain⟨o',es',ep',ho',r'⟩:=hm
  rw[ho] at ho';cases ho'
  exact⟨_,es',ep',hL,r'⟩) hok I.bare
theorem Inv.call {g':Array GenState} {t':Nat} {d':Drawn} {ch:List Addr} (I:Inv X pins σ H s) (u:Un (frs X.stack) ch H H' s.heap h') (hok:HOk X.prog X.w H' h') (hg:AllBare g')
  (hch:∀b∈ch,(b∈X.ex∨X.s₀.heap.objs.size≤b)∧b≠X.env.locals∧(∀x c,X.env.cells.lookup x=some c→c≠b)∧∀p∈X.pn++pins,p.1≠b):
  Inv X pins σ H' {s with heap:=h',gens:=g',drawn:=d',toks:=t'}:=by
 obtain⟨m,⟨o,es,ep,ho,r⟩,_⟩:=id I.loc
 obtain⟨sl,hL⟩:=u.any ho I.free fun z=>(hch _ z).2.1 rfl
 exact I.step (ch:=ch) hch (fun b o hL hb hc e n=>u.keep b o e n (fun z=>(List.mem_cons.mp (I.stkSub b z)).elim hL hb) hc) (fun b o _ _ hc e n=>u.any e n hc) (fun b o hc e n=>u.free b o e n hc) (fun b o hc e=>u.there b o e hc) u.tups u.frzs u.tbls (fun m' hm=>by
  obtain⟨o',es',ep',ho',r'⟩:=hm
  rw[ho] at ho';cases ho'
  exact⟨_,es',ep',hL,r'⟩) hok hg
theorem Inv.turned {t':Nat} {it:Addr} (I:Inv X pins σ H s) (k:∀b o,b≠it→s.heap.get? b=some o→h'.get? b=some o) (hn:H it=none) (hL:it≠X.env.locals)
  (h1:it∈X.ex∨X.s₀.heap.objs.size≤it) (h2:∀x c,X.env.cells.lookup x=some c→c≠it) (h3:∀p∈X.pn++pins,p.1≠it):Inv X pins σ H {s with heap:=h',toks:=t'}:=by
 have nit:∀b u,H b=some u→b≠it:=fun b u e z=>by rw[z,hn] at e;cases e
 refine I.step (g':=s.gens) (d':=s.drawn) (ch:=[it]) (fun b hb=>?_) (fun b o _ _ hc e _=>k b o (fun z=>hc (by simp[z])) e) (fun b o _ _ hc e _=>⟨o.slots,k b o (fun z=>hc (by simp[z])) e⟩) (fun _ _ _ _ n=>n)
  (fun b o hc e=>⟨o,k b o (fun z=>hc (by simp[z])) e⟩) (fun _ _ e=>e) (fun _ _ _ e=>e) (fun b ps e=>⟨#[],by rw[e];simp⟩) (fun m hm=>?_) (fun b u e=>?_) I.bare
 ·have e:b=it:=by simpa using hb
  subst e
  exact⟨h1,hL,h2,h3⟩
 ·obtain⟨o,es,ep,ho,r⟩:=hm
  exact⟨o,es,ep,k _ o (Ne.symm hL) ho,r⟩
 ·refine(I.hok b u e).stay (fun c v hc q=>k c v ?_ q) (fun _ q=>q) fun _ _ q=>q
  rcases hc with z|z
  ·rw[z];exact nit b u e
  ·exact nit c _ z
theorem Inv.tok (I:Inv X pins σ H s) (t:Nat):Inv X pins σ H {s with toks:=t}:=I.un (h':=s.heap) (t':=t) Un.refl I.hok
theorem Inv.kept {t':Nat} (I:Inv X pins σ H s) (k:∀b u,s.heap.get? b=some u→h'.get? b=some u):Inv X pins σ H {s with heap:=h',toks:=t'}:=I.un (Un.kept k) (I.hok.kept k)
theorem Inv.laid {a:Addr} {o:HO} {t':Nat} (I:Inv X pins σ H s) (k:∀b u,s.heap.get? b=some u→h'.get? b=some u) (hp:s.heap.objs.size≤a) (new:Z4 X.prog X.w (upd H a o) h' a o):
  Inv X pins σ (upd H a o) {s with heap:=h',toks:=t'}:=I.un (Un.laid k hp (I.hok.fresh hp)) (I.hok.laid k hp new)
theorem Inv.write {x e:Addr} {o:HO} {t':Nat} (I:Inv X pins σ H s) (mu:Mut (H x)) (he:e=x∨H e=some (.own x)) (k:∀b u,b≠e→s.heap.get? b=some u→h'.get? b=some u) (heo:∃u,h'.get? e=some u)
  (new:Z4 X.prog X.w (upd H x o) h' x o):Inv X pins σ (upd H x o) {s with heap:=h',toks:=t'}:=I.un (Un.write mu he k heo) (I.hok.write mu he k heo new)
theorem Inv.pins_of {pins':List (Addr×Obj)} (I:Inv X pins σ H s) (h:∀p∈pins',s.heap.get? p.1=some p.2∧H p.1=none∧p.1≠X.env.locals∧p.1∉X.fs∧∀v,p.2.data≠ .cell v):Inv X pins' σ H s:=
 ⟨I.ok,I.os,I.bare,I.base,I.loc,I.cell,I.free,I.freeC,fun p hp=>(List.mem_append.mp hp).elim (fun z=>I.pin p (List.mem_append_left _ z)) (h p),I.hok,I.len⟩
theorem ZbA {N:List Str} (hN:N.Nodup) {i j:Nat} {x:Str} (a:N[i]? =some x) (b:N[j]? =some x):i=j:=by
 obtain⟨h1,e1⟩:=List.getElem?_eq_some_iff.mp a
 obtain⟨h2,e2⟩:=List.getElem?_eq_some_iff.mp b
 exact(List.getElem_inj hN).mp (e1.trans e2.symm)
theorem ZcB {M:Model} {A:Around} {E:Value→Shared→Prop} {i:Nat} {x:Str} {v:V} {u:Value} {Q:Unit→Shared→Prop} (I:Inv X pins σ H s) (hN:X.N.Nodup) (hi:X.N[i]? =some x) (hx:Loc X.env.scope x) (r:ZB v u)
  (h:∀s',Inv X pins (σ.set i (some v)) H s'→(∃a,Heap.SameBut a s.heap s'.heap∧(a=X.env.locals∨X.env.cells.lookup x=some a))→Q () s') (hf:X.fn x=true∨X.env.scope.names.lookup x=some .local:=by first|exact .inl rfl|exact .inr rfl|assumption):wpAny M A (storeName X.env x u) Q E s:=by
 obtain⟨m,hn,hl⟩:=id I.loc
 have hcls:(X.env.scope.kind== .class||(X.env.scope.kind== .module&&X.env.locals != X.env.globals))=false:=by rw[I.ok.kind];rfl
 have hiσ:i<σ.length:=by rw[I.len];exact(List.getElem?_eq_some_iff.mp hi).1
 have cne:=I.cne
 have tracked:∀{a:Addr} {h':Heap},(∃o,s.heap.get? a=some o∧H a=none)→Heap.SameBut a s.heap h'→HOk X.prog X.w H h':=fun{a h'} ha hs b ob e=>by
  obtain⟨_,_,hfree⟩:=ha
  refine(I.hok b ob e).stay (fun c w' hc q=>(hs.2 c ?_).trans q) (fun _ q=>q) fun _ _ q=>q
  rintro rfl
  rcases hc with rfl|hc
  ·rw[hfree] at e;cases e
  ·rw[hfree] at hc;cases hc
 rcases hx with hk|hk
 ·refine wpAny_storeName_local hk hn (fun h' hn' hs=>?_) hcls
  obtain⟨oL,_,_,hoL,_⟩:=id hn
  refine h _ ⟨I.ok,I.os,I.bare,⟨fun b o e n hb hx=>?_,fun b o e n hb hx=>?_,I.base.free,fun b o e hx=>?_,I.base.tups,I.base.frzs,I.base.tbls⟩,⟨_,hn',fun j y v' e1 e2 e3=>?_⟩,fun y c e=>?_,I.free,I.freeC,fun p hp=>?_,tracked ⟨oL,hoL,I.free⟩ hs,by simpa using I.len⟩ ⟨_,hs,.inl rfl⟩
  ·exact(hs.2 b (Nat.ne_of_lt (Nat.lt_of_lt_of_le (Heap.lt_size e) I.ok.above))).trans (I.base.keep b o e n hb hx)
  ·obtain⟨sl,e1⟩:=I.base.slot b o e n hb hx
   exact⟨sl,(hs.2 b (Nat.ne_of_lt (Nat.lt_of_lt_of_le (Heap.lt_size e) I.ok.above))).trans e1⟩
  ·obtain⟨o',e1⟩:=I.base.there b o e hx
   exact⟨o',(hs.2 b (Nat.ne_of_lt (Nat.lt_of_lt_of_le (Heap.lt_size e) I.ok.above))).trans e1⟩
  ·by_cases hj:j=i
   ·subst hj
    rw[hi] at e1;cases e1
    rw[List.getElem?_set_self hiσ] at e2
    cases e2
    exact⟨u,r,.inl ⟨hk,by simp⟩⟩
   ·rw[List.getElem?_set_ne (Ne.symm hj)] at e2
    obtain⟨u',r',q⟩:=hl j y v' e1 e2 e3
    refine⟨u',r',?_⟩
    rcases q with⟨k,e⟩|⟨k,c,e,z⟩
    ·refine .inl ⟨k,?_⟩
     have:y≠x:=fun e=>hj (ZbA hN e1 (e▸hi))
     simp[this,e]
    ·exact .inr ⟨k,c,e,z.sameBut hs (cne y c e)⟩
  ·obtain⟨w',z⟩:=I.cell y c e
   exact⟨w',z.sameBut hs (cne y c e)⟩
  ·obtain⟨e,n,ne,nf,d⟩:=I.pin p hp
   exact⟨(hs.2 p.1 ne).trans e,n,ne,nf,d⟩
 ·have hfn:X.fn x=true:=by
   rcases hf with z|z
   ·exact z
   ·rw[z] at hk;cases hk
  obtain⟨c,hc⟩:=I.ok.has x (.inl hk)
  obtain⟨w',z⟩:=I.cell x c hc
  refine wpAny_storeName_cell I.ok.kind hk hc z (fun h' hc' hs=>?_)
  obtain⟨oc,hoc,hocd⟩:=id z
  refine h {s with heap:=h'} ⟨I.ok,I.os,I.bare,⟨fun b o e n hb hx=>?_,fun b o e n hb hx=>?_,I.base.free,fun b o e hx=>?_,I.base.tups,I.base.frzs,I.base.tbls⟩,⟨m,hn.sameBut hs (Ne.symm (cne x c hc)),fun j y v' e1 e2 e3=>?_⟩,fun y c' e=>?_,I.free,I.freeC,fun p hp=>?_,tracked ⟨oc,hoc,I.freeC x c hc⟩ hs,by simpa using I.len⟩ ⟨c,hs,.inr hc⟩
  ·exact(hs.2 b (Nat.ne_of_lt (Nat.lt_of_lt_of_le (Heap.lt_size e) (I.ok.cab x c hfn hc)))).trans (I.base.keep b o e n hb hx)
  ·obtain⟨sl,e1⟩:=I.base.slot b o e n hb hx
   exact⟨sl,(hs.2 b (Nat.ne_of_lt (Nat.lt_of_lt_of_le (Heap.lt_size e) (I.ok.cab x c hfn hc)))).trans e1⟩
  ·obtain⟨o',e1⟩:=I.base.there b o e hx
   exact⟨o',(hs.2 b (Nat.ne_of_lt (Nat.lt_of_lt_of_le (Heap.lt_size e) (I.ok.cab x c hfn hc)))).trans e1⟩
  ·by_cases hj:j=i
   ·subst hj
    rw[hi] at e1;cases e1
    rw[List.getElem?_set_self hiσ] at e2
    cases e2
    exact⟨u,r,.inr ⟨.inl hk,c,hc,hc'⟩⟩
   ·rw[List.getElem?_set_ne (Ne.symm hj)] at e2
    obtain⟨u',r',q⟩:=hl j y v' e1 e2 e3
    refine⟨u',r',?_⟩
    rcases q with q|⟨k,c',e,z'⟩
    ·exact .inl q
    ·refine .inr ⟨k,c',e,z'.sameBut hs ?_⟩
     rintro rfl
     exact hj (ZbA hN e1 (I.ok.inj _ _ _ e hc▸hi))
  ·by_cases hcc:c'=c
   ·subst hcc;exact⟨_,hc'⟩
   ·obtain⟨w2,z2⟩:=I.cell y c' e
    exact⟨w2,z2.sameBut hs hcc⟩
  ·obtain⟨e,n,ne,nf,d⟩:=I.pin p hp
   refine⟨(hs.2 p.1 ?_).trans e,n,ne,nf,d⟩
   intro q
   rw[q,hoc] at e
   have q':oc=p.2:=Option.some.inj e
   exact d w' (by rw[←q'];exact hocd)
theorem UA {M:Model} {A:Around} {E:Value→Shared→Prop} {i:Nat} {x:Str} {v:V} {u:Value} {Q:Unit→Shared→Prop} (I:Inv X pins σ H s) (hN:X.N.Nodup) (hi:X.N[i]? =some x) (hx:Loc X.env.scope x) (r:ZB v u)
  (h:∀s',Inv X pins (σ.set i (some v)) H s'→Q () s') (hf:X.fn x=true∨X.env.scope.names.lookup x=some .local:=by first|exact .inl rfl|exact .inr rfl|assumption):wpAny M A (storeName X.env x u) Q E s:=
 ZcB I hN hi hx r (fun s' I' _=>h s' I') hf
theorem Inv.call' {s':Shared} {ch:List Addr} (I:Inv X pins σ H s) (ho:s'.os=s.os) (u:Un (frs X.stack) ch H H' s.heap s'.heap) (hok:HOk X.prog X.w H' s'.heap) (hg:AllBare s'.gens)
  (hch:∀b∈ch,(b∈X.ex∨X.s₀.heap.objs.size≤b)∧b≠X.env.locals∧(∀x c,X.env.cells.lookup x=some c→c≠b)∧∀p∈X.pn++pins,p.1≠b):Inv X pins σ H' s':=by
 obtain⟨h',g',d',t',o'⟩:=s'
 have e:o'=s.os:=ho
 subst e
 exact I.call (g':=g') (t':=t') (d':=d') u hok hg hch
end
abbrev XK:=Value→Option Addr→Hp→Prop
abbrev St:=List (Option V)
abbrev VK:=V→Hp→Prop
abbrev TE:=St→Hp→VK→Prop
abbrev TT:=St→Hp→(Bool→Hp→Prop)→Prop
abbrev TA:=St→Hp→(List V→Hp→Prop)→Prop
structure W6 where
 nx:St→Hp→Prop
 rt:VK
 bk:St→Hp→Prop:=fun _ _=>False
 ct:St→Hp→Prop:=fun _ _=>False
abbrev TS:=W6→St→Hp→Prop
def EP (X:Cx) (pins:List (Addr×Obj)) (σ:St) (Q:VK) (u:Value) (s':Shared):Prop:=∃v H',Inv X pins σ H' s'∧ZB v u∧Q v H'
def TP (X:Cx) (pins:List (Addr×Obj)) (σ:St) (Q:Bool→Hp→Prop) (b:Bool) (s':Shared):Prop:=∃H',Inv X pins σ H' s'∧Q b H'
def AP (X:Cx) (pins:List (Addr×Obj)) (σ:St) (Q:List V→Hp→Prop) (us:List Value) (s':Shared):Prop:=∃vs H',Inv X pins σ H' s'∧Zw vs us∧Q vs H'
def SP (X:Cx) (pins:List (Addr×Obj)) (D:W6) (f:Flow) (s':Shared):Prop:=
 match f with
 | .next=>∃σ' H',Inv X pins σ' H' s'∧D.nx σ' H'
 | .brk=>∃σ' H',Inv X pins σ' H' s'∧D.bk σ' H'
 | .cont=>∃σ' H',Inv X pins σ' H' s'∧D.ct σ' H'
 | .ret u=>∃v σ' H',Inv X pins σ' H' s'∧ZB v u∧D.rt v H'
def PE (X:Cx) (e:Expr) (t:TE):Prop:=
 ∀(pins:List (Addr×Obj)) (s:Shared) (σ:St) (H:Hp) (Q:VK),Inv X pins σ H s→t σ H Q→wpAny (model X.prog X.w) X.A (eval e X.env) (EP X pins σ Q) X.xe s
def PT (X:Cx) (e:Expr) (t:TT):Prop:=
 ∀(pins:List (Addr×Obj)) (s:Shared) (σ:St) (H:Hp) (Q:Bool→Hp→Prop),Inv X pins σ H s→t σ H Q→wpAny (model X.prog X.w) X.A (isTrue e X.env (eval e X.env)) (TP X pins σ Q) X.xe s
def PW (X:Cx) (e:Expr) (t:TT):Prop:=
 ∀(whole:Sem Value) (pins:List (Addr×Obj)) (s:Shared) (σ:St) (H:Hp) (Q:Bool→Hp→Prop),Inv X pins σ H s→t σ H Q→wpAny (model X.prog X.w) X.A (isTrue e X.env whole) (TP X pins σ Q) X.xe s
theorem PW.pt {X:Cx} {e:Expr} {t:TT} (h:PW X e t):PT X e t:=h _
def PA (X:Cx) (es:List Expr) (t:TA):Prop:=
 ∀(pos:Pos) (pins:List (Addr×Obj)) (s:Shared) (σ:St) (H:Hp) (Q:List V→Hp→Prop),Inv X pins σ H s→t σ H Q→wpAny (model X.prog X.w) X.A (spliced (backTo pos (starEach es X.env))) (AP X pins σ Q) X.xe s
def PS (X:Cx) (st:Stmt) (t:TS):Prop:=
 ∀(pins:List (Addr×Obj)) (s:Shared) (σ:St) (H:Hp) (D:W6),Inv X pins σ H s→t D σ H→wpAny (model X.prog X.w) X.A (exec st X.env) (SP X pins D) X.xe s
def PSs (X:Cx) (st:List Stmt) (t:TS):Prop:=
 ∀(pins:List (Addr×Obj)) (s:Shared) (σ:St) (H:Hp) (D:W6),Inv X pins σ H s→t D σ H→wpAny (model X.prog X.w) X.A (execs st X.env) (SP X pins D) X.xe s
theorem thn {α:Type} {t:Sem α} {Q Q':α→Shared→Prop} {M:Model} {A:Around} {E:Value→Shared→Prop} {s:Shared} (h:wpAny M A t Q E s) (hQ:∀a s,Q a s→Q' a s):wpAny M A t Q' E s:=wpAny_mono h hQ fun _ _ x=>x
end L2
namespace L2
open PySem PySem.Spec PyProof.Rows
section
variable {X:Cx}
theorem bin {a b:Expr} {ta tb:TE} (ha:PE X a ta) (hb:PE X b tb) {pins:List (Addr×Obj)} {s:Shared} {σ:St} {H:Hp} {R:V→V→Hp→Prop} (I:Inv X pins σ H s) (h:ta σ H fun x H1=>tb σ H1 fun y H2=>R x y H2)
  {α:Type} {Q:α→Shared→Prop} {f:Value→Value→Sem α}
  (hf:∀v u s2 x y H2,Inv X pins σ H2 s2→ZB x v→ZB y u→R x y H2→wpAny (model X.prog X.w) X.A (f v u) Q X.xe s2):
  wpAny (model X.prog X.w) X.A (eval a X.env) (fun v s₁=>wpAny (model X.prog X.w) X.A (eval b X.env) (fun u s₂=>wpAny (model X.prog X.w) X.A (f v u) Q X.xe s₂) X.xe s₁) X.xe s:=by
 refine thn (ha pins s σ H _ I h) fun v s1 ⟨x,H1,I1,r1,q1⟩=>?_
 refine thn (hb pins s1 σ H1 _ I1 q1) fun u s2 ⟨y,H2,I2,r2,q2⟩=>?_
 exact hf v u s2 x y H2 I2 r1 r2 q2
def ZeP (i:Nat):TE:=fun σ H Q=>∃v,σ[i]? =some (some v)∧Q v H
def tC (v:V):TE:=fun _ H Q=>Q v H
theorem ZiU {i:Nat} {x:Str} {pos:Pos} (hN:X.N[i]? =some x) (hv:Vis X.env.scope x) (hd:(x==("__debug__" :Str))=false:=by decide) (hcd:(x==("__classdict__" :Str))=false:=by decide):PE X (.Name x pos) (ZeP i):=by
 intro pins s σ H Q I h
 obtain⟨v,e,h⟩:=h
 obtain⟨m,hn,hl⟩:=I.loc
 obtain⟨u,r,l⟩:=hl i x v hN e hv
 have fin:EP X pins σ Q u s:=⟨v,H,I,r,h⟩
 rcases l with⟨hk,hm⟩|⟨hk,c,hc,hcell⟩
 ·exact wpAny_Name (wpAny_loadName_local I.ok.kind hk hn hm fin) hd
 ·rcases hk with hk|hk
  ·exact wpAny_Name (wpAny_loadName_cell I.ok.kind hk hc hcell fin) hd
  ·exact wpAny_Name (wpAny_loadName_free I.ok.kind hk hc hcell fin hcd) hd
theorem Zf {i j pos}:PE X (.Constant (.int i) j pos) (tC (.int i)):=fun _ _ _ H _ I h=>wpAny_Constant_int ⟨.int i,H,I.tok _,⟨_,rfl⟩,h⟩
theorem W5 {b j pos}:PE X (.Constant (.bool b) j pos) (tC (.bl b)):=fun _ _ _ H _ I h=>Constant_bool ⟨.bl b,H,I,rfl,h⟩
theorem Yn {x j pos}:PE X (.Constant (.str x) j pos) (tC (.str x)):=fun _ _ _ H _ I h=>Calls.Constant_str ⟨.str x,H,I.tok _,⟨_,rfl⟩,h⟩
def Gl (X:Cx) (x:Str):Prop:=X.env.kindOf x=some .globalImplicit
theorem VJ {E:Value→Shared→Prop} {pins:List (Addr×Obj)} {s:Shared} {σ:St} {H:Hp} {x:Str} {u:Value} {pos:Pos} {Q:Value→Shared→Prop} (I:Inv X pins σ H s) (hg:Gl X x) (hm:X.mg x=some u) (h:Q u s)
  (hd:(x==("__debug__" :Str))=false:=by decide):wpAny (model X.prog X.w) X.A (eval (.Name x pos) X.env) Q E s:=
 Calls.Name_function_global I.ok.kind hg (Calls.loadGlobal_global (by rw[I.ok.glob];exact I.mod.glob.keeps I.bk) hm h) hd
theorem U5 {E:Value→Shared→Prop} {pins:List (Addr×Obj)} {s:Shared} {σ:St} {H:Hp} {x:Str} {u:Value} {pos:Pos} {Q:Value→Shared→Prop} (I:Inv X pins σ H s) (hg:Gl X x) (hm:X.mg x=none) (hv:bootBuiltins x=some u) (h:Q u s)
  (hn:x≠"__name__" :=by decide) (hd:(x==("__debug__" :Str))=false:=by decide):wpAny (model X.prog X.w) X.A (eval (.Name x pos) X.env) Q E s:=by
 obtain⟨mb,h1,h2⟩:=I.mod.blt
 exact Calls.Name_function_global I.ok.kind hg (Calls.loadGlobal_builtin (by rw[I.ok.glob];exact I.mod.glob.keeps I.bk) hm (by rw[I.ok.blt];exact h1.keeps I.bk) ((h2 x hn).trans hv) h) hd
theorem U6 {x:Str} {v:V} {u:Value} {pos:Pos} (hg:Gl X x) (hm:X.mg x=some u) (r:ZB v u) (hd:(x==("__debug__" :Str))=false:=by decide):PE X (.Name x pos) (tC v):=
 fun _ _ _ H _ I h=>VJ I hg hm ⟨v,H,I,r,h⟩ hd
theorem WE {x:Str} {v:V} {u:Value} {pos:Pos} (hg:Gl X x) (hm:X.mg x=none) (hv:bootBuiltins x=some u) (r:ZB v u) (hn:x≠"__name__" :=by decide) (hd:(x==("__debug__" :Str))=false:=by decide):PE X (.Name x pos) (tC v):=
 fun _ _ _ H _ I h=>U5 I hg hm hv ⟨v,H,I,r,h⟩ hn hd
variable {a b:Expr} {ta tb:TE} {pos:Pos}
variable {tA tB':TT} {rest:List Expr}
def ZiP (t u:TT):TT:=fun σ H Q=>t σ H fun c H1=>if c=true then u σ H1 Q else Q false H1
def tOr (t u:TT):TT:=fun σ H Q=>t σ H fun c H1=>if c=true then Q true H1 else u σ H1 Q
def Zie (t:TT):TT:=fun σ H Q=>t σ H fun c H1=>Q (!c) H1
theorem Zen (ha:PT X a tA):PW X (.BoolOp .And [a] pos) tA:=by
 intro wh pins s σ H Q I h
 refine isTrue_and (thn (ha pins s σ H Q I h) fun c s1 e=>?_)
 cases c with
 |true=>exact isTrue_and_nil e
 |false=>exact e
theorem UU (ha:PT X a tA):PW X (.BoolOp .Or [a] pos) tA:=by
 intro wh pins s σ H Q I h
 refine isTrue_or (thn (ha pins s σ H Q I h) fun c s1 e=>?_)
 cases c with
 |false=>exact isTrue_or_nil e
 |true=>exact e
theorem ZfZ (ha:PT X a tA) (hb:PW X (.BoolOp .And (b::rest) pos) tB'):PW X (.BoolOp .And (a::b::rest) pos) (ZiP tA tB'):=by
 intro wh pins s σ H Q I h
 refine isTrue_and (thn (ha pins s σ H _ I h) fun c s1 ⟨H1,I1,q1⟩=>?_)
 cases c with
 |true=>exact hb wh pins s1 σ H1 Q I1 q1
 |false=>exact⟨H1,I1,q1⟩
theorem Zah (ha:PT X a tA) (hb:PW X (.BoolOp .Or (b::rest) pos) tB'):PW X (.BoolOp .Or (a::b::rest) pos) (tOr tA tB'):=by
 intro wh pins s σ H Q I h
 refine isTrue_or (thn (ha pins s σ H _ I h) fun c s1 ⟨H1,I1,q1⟩=>?_)
 cases c with
 |true=>exact⟨H1,I1,q1⟩
 |false=>exact hb wh pins s1 σ H1 Q I1 q1
theorem Yr (ha:PT X a tA):PT X (.UnaryOp .Not a pos) (Zie tA):=by
 intro pins s σ H Q I h
 exact isTrue_not (ha pins s σ H (fun c H1=>Q (!c) H1) I h)
def Zhg (ta tb:TE):TE:=fun σ H Q=>ta σ H fun x H1=>∃c,x= .bl c∧if c=true then tb σ H1 Q else Q (.bl false) H1
def ZhO (ta tb:TE):TE:=fun σ H Q=>ta σ H fun x H1=>∃c,x= .bl c∧if c=true then Q (.bl true) H1 else tb σ H1 Q
def Zhd (ta:TE):TE:=fun σ H Q=>ta σ H fun x H1=>∃c,x= .bl c∧Q (.bl (!c)) H1
theorem ZbN {op} {t:TE} (h:PE X a t):PE X (.BoolOp op [a] pos) t:=fun pins s σ H Q I hw=>BoolOp_one (h pins s σ H Q I hw)
theorem ZdQ (ha:PE X a ta) (hb:PE X (.BoolOp .And (b::rest) pos) tb):PE X (.BoolOp .And (a::b::rest) pos) (Zhg ta tb):=by
 intro pins s σ H Q I h
 refine BoolOp_and (thn (ha pins s σ H _ I h) fun v s1 ⟨x,H1,I1,r1,q1⟩=>?_)
 obtain⟨c,rfl,q1⟩:=q1
 cases r1
 refine wpAny_truthy_bool ?_
 cases c with
 |true=>exact hb pins s1 σ H1 Q I1 q1
 |false=>exact⟨.bl false,H1,I1,rfl,q1⟩
theorem Zi8 (ha:PE X a ta) (hb:PE X (.BoolOp .Or (b::rest) pos) tb):PE X (.BoolOp .Or (a::b::rest) pos) (ZhO ta tb):=by
 intro pins s σ H Q I h
 refine BoolOp_or (thn (ha pins s σ H _ I h) fun v s1 ⟨x,H1,I1,r1,q1⟩=>?_)
 obtain⟨c,rfl,q1⟩:=q1
 cases r1
 refine wpAny_truthy_bool ?_
 cases c with
 |false=>exact hb pins s1 σ H1 Q I1 q1
 |true=>exact⟨.bl true,H1,I1,rfl,q1⟩
theorem ZdV (ha:PE X a ta):PE X (.UnaryOp .Not a pos) (Zhd ta):=by
 intro pins s σ H Q I h
 refine UnaryOp_ (thn (ha pins s σ H _ I h) fun v s1 ⟨x,H1,I1,r1,q1⟩=>?_)
 obtain⟨c,rfl,q1⟩:=q1
 cases r1
 exact not_of (wpAny_truthy_bool ⟨.bl (!c),H1,I1,rfl,q1⟩)
end
end L2
namespace L2
open PySem PySem.Spec PyProof.Rows
def SqL (K:PySem.W.Frag) (H:Hp) (a:Addr) (xs:List V):Prop:=
 Rd H a (.lst xs)∨
  ∃(o:Obj) (its:Array Value) (n:Nat),K.lookup a=some o∧o.cls= .type "list" ∧o.dict=none∧o.data= .seq its n∧its.size≤sizeLine∧Zw xs its.toList
def SqT (K:PySem.W.Frag) (H:Hp) (a:Addr) (xs:List V):Prop:=
 Rd H a (.tup xs)∨
  ∃(o:Obj) (its:Array Value) (n:Nat),K.lookup a=some o∧o.cls= .type "tuple" ∧o.data= .seq its n∧its.size≤sizeLine∧Zw xs its.toList
def Zjy:Value→Option V
 | .none=>some .non
 | .bool b=>some (.bl b)
 | .int i _=>some (.int i)
 | .str x _=>some (.str x)
 | .bytes b _=>some (.byt b)
 | .float b _=>some (.flt b)
 | .ref a=>some (.ref a)
 | .type n=>some (.ty n)
 |_=>none
theorem ZB.abs {x:V} {u:Value} (r:ZB x u):Zjy u=some x:=by
 cases x with
 |non=>cases r;rfl
 |bl _=>cases r;rfl
 |int _=>obtain⟨t,rfl⟩:=r;rfl
 |str _=>obtain⟨t,rfl⟩:=r;rfl
 |byt _=>obtain⟨t,rfl⟩:=r;rfl
 |flt _=>obtain⟨t,rfl⟩:=r;rfl
 |ref _=>cases r;rfl
 |ty _=>cases r;rfl
theorem ZB.inj {x y:V} {u:Value} (r:ZB x u) (q:ZB y u):x=y:=Option.some.inj (r.abs.symm.trans q.abs)
theorem Zw.inj:∀{xs ys:List V} {us:List Value},Zw xs us→Zw ys us→xs=ys
 |_,_,_,.nil,.nil=>rfl
 |_,_,_,.cons r t,.cons r' t'=>by rw[r.inj r',Zw.inj t t']
section
variable {X:Cx} {pins:List (Addr×Obj)} {σ:St} {H:Hp} {s:Shared} {a:Addr} {xs ys:List V}
theorem SqL.of {K:PySem.W.Frag} (h:H a=some (.lst xs)):SqL K H a xs:= .inl (.inl h)
theorem SqT.of {K:PySem.W.Frag} (h:H a=some (.tup xs)):SqT K H a xs:= .inl (.inl h)
theorem Inv.list (I:Inv X pins σ H s) (h:SqL X.K H a xs):∃its:List Value,Zw xs its∧PlainL s.heap a its.toArray∧xs.length≤sizeLine:=by
 rcases h with h|⟨o,its,n,hk,hc,hd,hs,hz,r⟩
 ·obtain⟨z,its,n,r,e⟩:=h.ok I.hok
  exact⟨its,r,⟨_,n,e,rfl,rfl,rfl⟩,z⟩
 ·refine⟨its.toList,r,⟨o,n,I.kIn a o hk,hc,hd,by simpa using hs⟩,?_⟩
  have e:=r.length
  simp only[Array.length_toList] at e
  omega
theorem Inv.tuple (I:Inv X pins σ H s) (h:SqT X.K H a xs):∃its:List Value,Zw xs its∧IsTup s.heap a its.toArray∧xs.length≤sizeLine:=by
 rcases h with h|⟨o,its,n,hk,hc,hs,hz,r⟩
 ·obtain⟨z,its,r,p⟩:=h.ok I.hok
  exact⟨its,r,p,z⟩
 ·refine⟨its.toList,r,⟨o,I.kIn a o hk,hc,n,by simpa using hs⟩,?_⟩
  have e:=r.length
  simp only[Array.length_toList] at e
  omega
theorem Inv.list_inj (I:Inv X pins σ H s) (h:SqL X.K H a xs) (h':SqL X.K H a ys):xs=ys:=by
 obtain⟨its,r,⟨o,n,e,_,_,d⟩,_⟩:=I.list h
 obtain⟨its',r',⟨o',n',e',_,_,d'⟩,_⟩:=I.list h'
 rw[e] at e';cases e'
 rw[d] at d'
 injection d' with d1 _
 have:its=its':=by simpa using congrArg Array.toList d1
 subst this
 exact r.inj r'
theorem Inv.tuple_inj (I:Inv X pins σ H s) (h:SqT X.K H a xs) (h':SqT X.K H a ys):xs=ys:=by
 obtain⟨its,r,⟨o,e,_,n,d⟩,_⟩:=I.tuple h
 obtain⟨its',r',⟨o',e',_,n',d'⟩,_⟩:=I.tuple h'
 rw[e] at e';cases e'
 rw[d] at d'
 injection d' with d1 _
 have:its=its':=by simpa using congrArg Array.toList d1
 subst this
 exact r.inj r'
end
section
variable {X:Cx} {pins:List (Addr×Obj)} {σ:St} {H:Hp} {s:Shared} {E:Value→Shared→Prop}
end
section
variable {X:Cx} {st:Stmt} {rest:List Stmt} {t u:TS} {e:Expr} {te:TE} {pos:Pos}
def tNext:TS:=fun D σ H=>D.nx σ H
def ZgN (t u:TS):TS:=fun D σ H=>t {D with nx:=u D} σ H
theorem ZJ:PSs X [] tNext:=fun _ _ σ H _ I h=>wpAny_execs_nil ⟨σ,H,I,h⟩
theorem Zc (h1:PS X st t) (h2:PSs X rest u):PSs X (st::rest) (ZgN t u):=by
 intro pins s σ H D I h
 refine wpAny_execs_cons (thn (h1 pins s σ H {D with nx:=u D} I h) fun f s1 q=>?_)
 cases f with
 |next=>
  obtain⟨σ',H',I',q⟩:=q
  exact h2 pins s1 σ' H' D I' q
 |ret v=>exact q
 |brk=>exact q
 |cont=>exact q
theorem Ze (h1:PS X st t):PSs X [st] t:=by
 intro pins s σ H D I h
 refine wpAny_execs_cons (thn (h1 pins s σ H D I h) fun f s1 q=>?_)
 cases f with
 |next=>exact wpAny_execs_nil q
 |ret v=>exact q
 |brk=>exact q
 |cont=>exact q
theorem Inv.quiet {pins:List (Addr×Obj)} {σ:St} {H:Hp} {s:Shared} (I:Inv X pins σ H s):interactive X.env=false:=by simp[interactive,I.ok.kind]
def Zg7 (te:TE):TS:=fun D σ H=>te σ H fun _ H1=>D.nx σ H1
theorem ZK (he:PE X e te) (hs:swapsWith e none pos.line X.env=pure false:=by rfl):PS X (.Expr e pos) (Zg7 te):=by
 intro pins s σ H D I h
 exact wpAny_Expr_any (thn (he pins s σ H _ I h) fun v s1 ⟨x,H1,I1,r1,q1⟩=>⟨σ,H1,I1,q1⟩) I.quiet hs
def Ziz (te:TE):TS:=fun D σ H=>te σ H D.rt
theorem ZC (he:PE X e te):PS X (.Return (some e) pos) (Ziz te):=by
 intro pins s σ H D I h
 exact wpAny_Return_some (thn (he pins s σ H _ I h) fun v s1 ⟨x,H1,I1,r1,q1⟩=>⟨x,σ,H1,I1,r1,q1⟩)
def Zib (c:TT) (t u:TS):TS:=fun D σ H=>c σ H fun b H1=>if b=true then t D σ H1 else u D σ H1
theorem ZW {c:Expr} {a b:List Stmt} {tc:TT} (hc:PT X c tc) (ha:PSs X a t) (hb:PSs X b u):PS X (.If c a b pos) (Zib tc t u):=by
 intro pins s σ H D I h
 refine wpAny_If (thn (hc pins s σ H _ I h) fun d s1 ⟨H1,I1,q1⟩=>?_)
 cases d with
 |true=>exact ha pins s1 σ H1 D I1 q1
 |false=>exact hb pins s1 σ H1 D I1 q1
end
abbrev TG:=V→St→Hp→(St→Hp→Prop)→Prop
abbrev TGs:=List V→St→Hp→(St→Hp→Prop)→Prop
def PG (X:Cx) (target:Expr) (t:TG):Prop:=
 ∀(pins:List (Addr×Obj)) (s:Shared) (σ:St) (H:Hp) (v:V) (u:Value) (Q:St→Hp→Prop),Inv X pins σ H s→ZB v u→t v σ H Q→
  wpAny (model X.prog X.w) X.A (assign target X.env u) (fun _ s'=>∃σ' H',Inv X pins σ' H' s'∧Q σ' H') X.xe s
def PGs (X:Cx) (ts:List Expr) (t:TGs):Prop:=
 ∀(pins:List (Addr×Obj)) (s:Shared) (σ:St) (H:Hp) (vs:List V) (us:List Value) (Q:St→Hp→Prop),Inv X pins σ H s→Zw vs us→t vs σ H Q→
  wpAny (model X.prog X.w) X.A (assignInOrder ((assignEach ts X.env).map (·.2)) us) (fun _ s'=>∃σ' H',Inv X pins σ' H' s'∧Q σ' H') X.xe s
abbrev ZbC:=V→V→V→Hp→(Hp→Prop)→Prop
def Zfe (X:Cx) (t:ZbC):Prop:=
 ∀(pins:List (Addr×Obj)) (s:Shared) (σ:St) (H:Hp) (o i v:V) (ov iv u:Value) (Q:Hp→Prop),Inv X pins σ H s→ZB o ov→ZB i iv→ZB v u→t o i v H Q→
  wpAny (model X.prog X.w) X.A (setItem ov iv u) (fun _ s'=>∃H',Inv X pins σ H' s'∧Q H') X.xe s
abbrev TIp:=V→V→Hp→VK→Prop
def PIp (X:Cx) (op:Operator) (t:TIp):Prop:=
 ∀(pins:List (Addr×Obj)) (s:Shared) (σ:St) (H:Hp) (x y:V) (v u:Value) (Q:VK),Inv X pins σ H s→ZB x v→ZB y u→t x y H Q→
  wpAny (model X.prog X.w) X.A (inplaceOp op v u) (EP X pins σ Q) X.xe s
section
variable {X:Cx} {pos:Pos}
def Zad (i:Nat):TG:=fun v σ H Q=>Q (σ.set i (some v)) H
theorem Zk {i:Nat} {x:Str} (hN:X.N.Nodup) (hi:X.N[i]? =some x) (hx:Loc X.env.scope x) (hf:X.fn x=true∨X.env.scope.names.lookup x=some .local:=by first|exact .inl rfl|exact .inr rfl|assumption):PG X (.Name x pos) (Zad i):=by
 intro pins s σ H v u Q I r h
 exact wpAny_assign_Name (UA I hN hi hx r (fun s' I'=>⟨_,H,I',h⟩) hf)
def gNil:TGs:=fun vs σ H Q=>vs=[]∧Q σ H
def Zg8 (t:TG) (u:TGs):TGs:=fun vs σ H Q=>∃v r,vs=v::r∧t v σ H fun σ' H'=>u r σ' H' Q
theorem Yh:PGs X [] gNil:=by
 intro pins s σ H vs us Q I r h
 obtain⟨e,h⟩:=h
 subst e
 cases r
 exact assignInOrder_nil ⟨σ,H,I,h⟩
theorem Zx {e:Expr} {es:List Expr} {t:TG} {u:TGs} (h1:PG X e t) (h2:PGs X es u)
  (hs:(assignEach (e::es) X.env).map (·.2)=assign e X.env::(assignEach es X.env).map (·.2):=by rfl):PGs X (e::es) (Zg8 t u):=by
 intro pins s σ H vs us Q I r h
 obtain⟨v,vr,e1,h⟩:=h
 subst e1
 cases r with
 |cons r rr=>
  rw[hs]
  refine assignInOrder_cons (thn (h1 pins s σ H _ _ _ I r h) fun _ s1 ⟨σ1,H1,I1,q1⟩=>?_)
  exact h2 pins s1 σ1 H1 _ _ Q I1 rr q1
def ZgJ (K:PySem.W.Frag) (n:Nat) (t:TGs):TG:=fun v σ H Q=>∃a xs,v= .ref a∧SqT K H a xs∧xs.length=n∧t xs σ H Q
theorem Ziu {es:List Expr} {k:Nat} {t:TGs} {n:Nat} (hc:X.calm=true) (h:PGs X es t)
  (hn:(assignEach es X.env).length=n:=by rfl) (hst:(assignEach es X.env).findIdx? (·.1)=none:=by rfl):PG X (.Tuple es k pos) (ZgJ X.K n t):=by
 intro pins s σ H v u Q I r hw
 obtain⟨a,xs,e1,hq,hl,hw⟩:=hw
 subst e1
 cases r
 obtain⟨its,rv,ht,hz⟩:=I.tuple hq
 refine assign_Tuple_tuple (I.ok.hd hc) ht (by simp[hn,←hl,rv.length]) hst fun h' hx=>?_
 have I1:Inv X pins σ H {s with heap:=h'}:=I.kept (t':=s.toks) fun b o e=>hx b o (Nat.ne_of_lt (Heap.lt_size e)) e
 exact h pins _ σ H xs _ Q I1 (by simpa using rv) hw
def ZhW (to ti:TE) (t:ZbC):TG:=fun v σ H Q=>to σ H fun o H1=>ti σ H1 fun i H2=>t o i v H2 fun H3=>Q σ H3
theorem ZbY {o i:Expr} {to ti:TE} {t:ZbC} (ho:PE X o to) (hi:PE X i ti) (hs:Zfe X t)
  (ha:∀v,assign (.Subscript o i pos) X.env v=(do
   let ov←holding [v] (eval o X.env)
   let iv←holding [v,ov] (eval i X.env)
   standAt pos
   holding [v,ov,iv] (setItem ov iv v)
   release [v,ov,iv] []):=by intro _;rfl):PG X (.Subscript o i pos) (ZhW to ti t):=by
 intro pins s σ H v u Q I r h
 rw[ha]
 refine wpAny_bind (wpAny_holding (thn (ho pins s σ H _ I h) fun ov s1 ⟨x,H1,I1,r1,q1⟩=>?_))
 refine wpAny_bind (wpAny_holding (thn (hi pins s1 σ H1 _ I1 q1) fun iv s2 ⟨y,H2,I2,r2,q2⟩=>?_))
 refine wpAny_bind (wpAny_standAt (wpAny_bind (wpAny_holding (thn (hs pins s2 σ H2 x y v ov iv u _ I2 r1 r2 r q2) fun _ s3 ⟨H3,I3,q3⟩=>?_))))
 exact wpAny_release ⟨σ,H3,I3,q3⟩
def Zdr (te:TE) (g:TG):TS:=fun D σ H=>te σ H fun x H1=>g x σ H1 D.nx
theorem ZbK {tg e:Expr} {te:TE} {g:TG} (he:PE X e te) (hg:PG X tg g) (hs:swapsWithSole [tg] e pos.line X.env=pure false:=by rfl) (hw:swappedStores [tg] e X.env=pure none:=by rfl)
  (h1:(assignEach [tg] X.env).map (·.2)=[assign tg X.env]:=by rfl):PS X (.Assign [tg] e pos) (Zdr te g):=by
 intro pins s σ H D I h
 refine wpAny_Assign_stores (thn (he pins s σ H _ I h) fun v s1 ⟨x,H1,I1,r1,q1⟩=>?_) hs hw
 rw[h1]
 exact thn (hg pins s1 σ H1 x v _ I1 r1 q1) fun _ s2 q=>q
theorem Zs {i:Nat} {x:Str} {e:Expr} {te:TE} {pos':Pos} (hN:X.N.Nodup) (hi:X.N[i]? =some x) (hx:Loc X.env.scope x) (he:PE X e te) (hs:swapsWith e (some (.Name x pos')) pos.line X.env=pure false:=by rfl) (hf:X.fn x=true∨X.env.scope.names.lookup x=some .local:=by first|exact .inl rfl|exact .inr rfl|assumption):
  PS X (.Assign [.Name x pos'] e pos) (Zdr te (Zad i)):=by
 intro pins s σ H D I h
 refine wpAny_Assign_Name (thn (he pins s σ H _ I h) fun v s1 ⟨y,H1,I1,r1,q1⟩=>?_) hs
 exact UA I1 hN hi hx r1 (fun s2 I2=>⟨_,H1,I2,q1⟩) hf
def Zjw (i:Nat) (te:TE) (ti:TIp):TS:=fun D σ H=>∃x,σ[i]? =some (some x)∧te σ H fun y H1=>ti x y H1 fun z H2=>D.nx (σ.set i (some z)) H2
theorem Zic {i:Nat} {x:Str} {e:Expr} {te:TE} {op:Operator} {ti:TIp} {pos':Pos} (hN:X.N.Nodup) (hi:X.N[i]? =some x) (hx:Loc X.env.scope x) (he:PE X e te) (ho:PIp X op ti) (hf:X.fn x=true∨X.env.scope.names.lookup x=some .local:=by first|exact .inl rfl|exact .inr rfl|assumption):
  PS X (.AugAssign (.Name x pos') op e pos) (Zjw i te ti):=by
 intro pins s σ H D I h
 obtain⟨v,e1,h⟩:=h
 obtain⟨m,hn,hl⟩:=I.loc
 have vis:Vis X.env.scope x:=by rcases hx with k|k;exact .inl k;exact .inr (.inl k)
 obtain⟨u,r,l⟩:=hl i x v hi e1 vis
 refine wpAny_AugAssign_Name ?_
 have go:wpAny (model X.prog X.w) X.A (eval e X.env) (fun w s₂=>wpAny (model X.prog X.w) X.A (inplaceOp op u w) (fun r s₃=>wpAny (model X.prog X.w) X.A (storeName X.env x r) (fun _=>SP X pins D .next) X.xe s₃) X.xe s₂) X.xe s:=by
  refine thn (he pins s σ H _ I h) fun w s1 ⟨y,H1,I1,r1,q1⟩=>?_
  refine thn (ho pins s1 σ H1 v y u w _ I1 r r1 q1) fun z s2 ⟨zv,H2,I2,r2,q2⟩=>?_
  exact UA I2 hN hi hx r2 (fun s3 I3=>⟨_,H2,I3,q2⟩) hf
 rcases l with⟨hk,hm⟩|⟨hk,c,hc,hcell⟩
 ·exact wpAny_loadName_local I.ok.kind hk hn hm go
 ·rcases hk with hk|hk
  ·exact wpAny_loadName_cell I.ok.kind hk hc hcell go
  ·rcases hx with k|k
   ·have:X.env.scope.names.lookup x=some .free:=hk
    rw[k] at this;cases this
   ·have:X.env.scope.names.lookup x=some .free:=hk
    rw[k] at this;cases this
def ZgZ (to ti te:TE) (tget:V→V→Hp→VK→Prop) (tip:TIp) (tset:ZbC):TS:=fun D σ H=>to σ H fun o H1=>ti σ H1 fun i H2=>tget o i H2 fun x H3=>te σ H3 fun y H4=>tip x y H4 fun z H5=>tset o i z H5 fun H6=>D.nx σ H6
def ZgB (X:Cx) (t:V→V→Hp→VK→Prop):Prop:=
 ∀(pins:List (Addr×Obj)) (s:Shared) (σ:St) (H:Hp) (o i:V) (ov iv:Value) (Q:VK),Inv X pins σ H s→ZB o ov→ZB i iv→t o i H Q→
  wpAny (model X.prog X.w) X.A (getItem ov iv) (EP X pins σ Q) X.xe s
theorem Zet {o i e:Expr} {to ti te:TE} {tget:V→V→Hp→VK→Prop} {tip:TIp} {tset:ZbC} {op:Operator} {tpos:Pos} (ho:PE X o to) (hi:PE X i ti) (hg:ZgB X tget) (he:PE X e te) (hp:PIp X op tip) (hs:Zfe X tset)
  (ha:∀ov iv new,augStore i ov iv new=(do holding [new,ov,iv] (setItem ov iv new);release [new,ov,iv] [];pure .next):=by intros;rfl):PS X (.AugAssign (.Subscript o i tpos) op e pos) (ZgZ to ti te tget tip tset):=by
 intro pins s σ H D I h
 refine wpAny_AugAssign_SubscriptAny (thn (ho pins s σ H _ I h) fun ov s1 ⟨x1,H1,I1,r1,q1⟩=>?_) ha
 refine thn (hi pins s1 σ H1 _ I1 q1) fun iv s2 ⟨x2,H2,I2,r2,q2⟩=>?_
 refine thn (hg pins s2 σ H2 x1 x2 ov iv _ I2 r1 r2 q2) fun old s3 ⟨x3,H3,I3,r3,q3⟩=>?_
 refine thn (he pins s3 σ H3 _ I3 q3) fun v s4 ⟨x4,H4,I4,r4,q4⟩=>?_
 refine thn (hp pins s4 σ H4 x3 x4 old v _ I4 r3 r4 q4) fun new s5 ⟨x5,H5,I5,r5,q5⟩=>?_
 exact thn (hs pins s5 σ H5 x1 x2 x5 ov iv new _ I5 r1 r2 r5 q5) fun _ s6 ⟨H6,I6,q6⟩=>⟨σ,H6,I6,q6⟩
def ipI (f:Int→Int→Int):TIp:=fun x y H Q=>∃i j,x= .int i∧y= .int j∧Q (.int (f i j)) H
theorem Zgf:PIp X .Add (ipI fun i j=>i+j):=by
 intro pins s σ H x y v u Q I r1 r2 h
 obtain⟨i,j,e1,e2,q⟩:=h
 subst e1;subst e2
 obtain⟨t,rfl⟩:=r1
 obtain⟨t',rfl⟩:=r2
 exact iadd_int ⟨.int _,H,I.tok _,⟨_,rfl⟩,q⟩
theorem ZiI:PIp X .Sub (ipI fun i j=>i-j):=by
 intro pins s σ H x y v u Q I r1 r2 h
 obtain⟨i,j,e1,e2,q⟩:=h
 subst e1;subst e2
 obtain⟨t,rfl⟩:=r1
 obtain⟨t',rfl⟩:=r2
 exact isub_int ⟨.int _,H,I.tok _,⟨_,rfl⟩,q⟩
end
section
variable {X:Cx} {pos:Pos}
def ZfM (c:TT) (tb:TS):TS:=fun D σ H=>∃W:Nat→St→Hp→Prop,(∃m,W m σ H)∧∀m σ H,W m σ H→
 c σ H fun b H1=>if b=true then ∃N:St→Hp→Prop,(∀σ' H',N σ' H'→∃m',m'<m∧W m' σ' H')∧tb {D with nx:=N,ct:=N,bk:=D.nx} σ H1 else D.nx σ H1
theorem Zgy {c:Expr} {body:List Stmt} {tc:TT} {tb:TS} (hp:PassesOwn (model X.prog X.w) X.A X.env X.xe) (hc:PT X c tc) (hb:PSs X body tb):PS X (.While c body [] pos) (ZfM tc tb):=by
 intro pins s σ H D I h
 obtain⟨W,⟨m0,w0⟩,turn⟩:=h
 refine wpAny_While (codeAny_whileLoop (fun n s'=>∃σ' H',Inv X pins σ' H' s'∧W n σ' H') ?_ m0 ⟨σ,H,I,w0⟩)
 rintro n s1 ⟨σ1,H1,I1,w1⟩
 refine wpAny_passesOwn hp (thn (hc pins s1 σ1 H1 _ I1 (turn n σ1 H1 w1)) fun b s2 ⟨H2,I2,q2⟩=>?_)
 cases b with
 |true=>
  obtain⟨N,hN,q2⟩:=q2
  rw[if_pos rfl]
  refine wpAny_passesOwn hp (thn (hb pins s2 σ1 H2 _ I2 q2) fun f s3 q3=>?_)
  cases f with
  |next=>
   obtain⟨σ3,H3,I3,n3⟩:=q3
   obtain⟨m',hm,w3⟩:=hN σ3 H3 n3
   exact⟨m',hm,σ3,H3,I3,w3⟩
  |cont=>
   obtain⟨σ3,H3,I3,n3⟩:=q3
   obtain⟨m',hm,w3⟩:=hN σ3 H3 n3
   exact⟨m',hm,σ3,H3,I3,w3⟩
  |brk=>exact q3
  |ret v=>exact q3
 |false=>
  rw[if_neg Bool.false_ne_true]
  exact wpAny_execs_nil ⟨σ1,H2,I2,q2⟩
end
structure It where
 go:Nat→Hp→Prop
 yld:Nat→Hp→V→Hp→Prop
 stop:Nat→Hp→Prop
def WK (X:Cx) (pins:List (Addr×Obj)) (H:Hp) (b:Addr):Prop:=
 H b=none∧b≠X.env.locals∧b∉X.fs∧(b∈X.ex∨X.s₀.heap.objs.size≤b)∧(∀x c,X.env.cells.lookup x=some c→c≠b)∧∀p∈X.pn++pins,p.1≠b
theorem Inv.fpOk {X:Cx} {pins:List (Addr×Obj)} {σ:St} {H H':Hp} {s:Shared} {b:Addr} (I:Inv X pins σ H s) (hb:s.heap.objs.size≤b) (hn:H' b=none):WK X pins H' b:=by
 refine⟨hn,Nat.ne_of_gt (Nat.lt_of_lt_of_le I.lt hb),I.nofs hb,.inr (Nat.le_trans I.sz hb),fun x c e z=>?_,fun p hp z=>?_⟩
 ·obtain⟨v,q⟩:=I.cell x c e
  exact absurd (Nat.lt_of_lt_of_le q.lt (by rw[z];exact hb)) (Nat.lt_irrefl _)
 ·exact absurd (Nat.lt_of_lt_of_le (Heap.lt_size (I.pin p hp).1) (by rw[z];exact hb)) (Nat.lt_irrefl _)
structure Zag (P:Program) (w:World) (K:PySem.W.Frag) (tg:Expr) (J:It) (fp:List Addr) (it:Addr) (tn:Nat→Heap→Prop):Prop where
 mem:it∈fp
 obj:∀i h,tn i h→∀b∈fp,∃o,h.get? b=some o∧∀v,o.data≠ .cell v
 keep:∀i h h',tn i h→(∀b∈fp,∀o,h.get? b=some o→h'.get? b=some o)→tn i h'
 item:∀(X:Cx),X.prog=P→X.w=w→X.K=K→X.calm=true→∀(i:Nat) (pins:List (Addr×Obj)) (s:Shared) (σ:St) (H:Hp) (E:Value→Shared→Prop),Inv X pins σ H s→(∀b∈fp,WK X pins H b)→tn i s.heap→J.go i H→
  wpAny (model P w) X.A (pyNext (.ref it)) (fun r s1=>∃u,r=some u∧
   wpAny (model P w) X.A (letOwnedTupleGo tg (.ref it) u) (fun _ s2=>∃x H',Inv X pins σ H' s2∧ZB x u∧J.yld i H x H'∧tn (i+1) s2.heap∧∀b∈fp,H' b=none) E s1) E s
 done:∀(X:Cx),X.prog=P→X.w=w→X.K=K→X.calm=true→∀(i:Nat) (pins:List (Addr×Obj)) (s:Shared) (σ:St) (H:Hp) (E:Value→Shared→Prop),Inv X pins σ H s→(∀b∈fp,WK X pins H b)→tn i s.heap→J.stop i H→
  wpAny (model P w) X.A (pyNext (.ref it)) (fun r s1=>r=none∧Inv X pins σ H s1) E s
 self:∀(A:Around) (i:Nat) (s:Shared) (Q:Value→Shared→Prop) (E:Value→Shared→Prop),tn i s.heap→Q (.ref it) s→wpAny (model P w) A (pyIter (.ref it)) Q E s
abbrev TI:=St→Hp→(It→Hp→Prop)→Prop
def PIE (X:Cx) (pins:List (Addr×Obj)) (σ:St) (tg:Expr) (R:It→Hp→Prop) (itv:Value) (s2:Shared):Prop:=
 ∃(it:Addr) (fp:List Addr) (tn:Nat→Heap→Prop) (J:It) (H':Hp),itv= .ref it∧Inv X pins σ H' s2∧Zag X.prog X.w X.K tg J fp it tn∧tn 0 s2.heap∧(∀b∈fp,WK X pins H' b)∧R J H'
def PI (X:Cx) (tg iter:Expr) (wi:TI):Prop:=
 ∀(pins:List (Addr×Obj)) (s:Shared) (σ:St) (H:Hp) (R:It→Hp→Prop),Inv X pins σ H s→wi σ H R→
  wpAny (model X.prog X.w) X.A (eval iter X.env) (fun v s1=>wpAny (model X.prog X.w) X.A (pyIter v) (PIE X pins σ tg R) X.xe s1) X.xe s
theorem Zc5 {M:Model} {A:Around} {E:Value→Shared→Prop} {s:Shared} {tg:Expr} {it:Addr} {u:Value} {o:Obj} {n:String} {vs:Array Value} {Q:Unit→Shared→Prop} (ho:s.heap.get? it=some o) (hc:o.cls= .type n) (hd:o.data= .fields vs)
  (hn:["enumerate","zip","dict_itemiterator","dict_reverseitemiterator","odict_iterator","itertools.zip_longest","itertools.pairwise"].contains n=false) (hQ:Q () s):wpAny M A (letOwnedTupleGo tg (.ref it) u) Q E s:=by
 unfold letOwnedTupleGo
 cases tg<;>first
  |exact wpAny_pure hQ
  |(cases u<;>first
    |exact wpAny_pure hQ
    |(refine wpAny_bind (wpAny_load ho ?_)
      rw[hc,hd]
      show wpAny M A (if(["enumerate","zip","dict_itemiterator","dict_reverseitemiterator","odict_iterator","itertools.zip_longest","itertools.pairwise"].contains n&&vs[0]? ==some (rawInt _))=true then _ else _) Q E s
      rw[if_neg (by intro h;rw[hn,Bool.false_and] at h;cases h)]
      exact wpAny_pure hQ))
def Itl (K:PySem.W.Frag) (a:Addr):It:=
 ⟨fun i H=>∃xs x,SqL K H a xs∧xs[i]? =some x,fun i H x H'=>H'=H∧∀xs,SqL K H a xs→xs[i]? =some x,fun i H=>∃xs,SqL K H a xs∧xs.length≤i⟩
def Itt (K:PySem.W.Frag) (a:Addr):It:=
 ⟨fun i H=>∃xs x,SqT K H a xs∧xs[i]? =some x,fun i H x H'=>H'=H∧∀xs,SqT K H a xs→xs[i]? =some x,fun i H=>∃xs,SqT K H a xs∧xs.length≤i⟩
def Itr (lo:Int) (n:Nat):It:=⟨fun i _=>i<n,fun i H x H'=>H'=H∧x= .int (lo+i),fun i _=>n≤i⟩
theorem Zge {P:Program} {w:World} {K:PySem.W.Frag} {tg:Expr} (a it:Addr):Zag P w K tg (Itl K a) [it] it (fun i h=>h.IsListIter it a i) where
 mem:=by simp
 obj:=fun i h st b hb=>by
  have e:b=it:=by simpa using hb
  subst e
  obtain⟨o,e,c,d⟩:=st
  exact⟨o,e,fun v z=>by rw[d] at z;cases z⟩
 keep:=fun i h h' st k=>st.at fun o e=>k it (by simp) o e
 item:=by
  intro X hP hw hK hc i pins s σ H E I hf st hg
  subst hP hw hK
  obtain⟨xs,x,hq,hx⟩:=hg
  obtain⟨its,rv,p,hz⟩:=I.list hq
  obtain⟨u,hu,ru⟩:=rv.get hx
  obtain⟨f0,f1,f2,f3,f4,f5⟩:=hf it (by simp)
  refine wpAny_pyNext_list_item st p.isList (x:=u) (by simpa using hu) fun h' st' sb=>?_
  have I1:Inv X pins σ H {s with heap:=h'}:=I.turned (t':=s.toks) (fun b o hb e=>(sb.2 b hb).trans e) f0 f1 f3 f4 f5
  obtain⟨o,e,c,d⟩:=id st'
  exact⟨u,rfl,Zc5 (s:={s with heap:=h'}) e c d (by decide) ⟨x,H,I1,ru,⟨rfl,fun ys hy=>by rw[I.list_inj hy hq];exact hx⟩,st',fun b hb=>(hf b hb).1⟩⟩
 done:=by
  intro X hP hw hK hc i pins s σ H E I hf st hg
  subst hP hw hK
  obtain⟨xs,hq,hx⟩:=hg
  obtain⟨its,rv,p,hz⟩:=I.list hq
  obtain⟨f0,f1,f2,f3,f4,f5⟩:=hf it (by simp)
  have hl:=rv.length
  exact wpAny_pyNext_list_end (I.ok.hd hc) st p.isList (by simp;omega) fun h' eb=>⟨rfl,I.turned (t':=s.toks) (fun b o hb e=>eb b o hb e) f0 f1 f3 f4 f5⟩
 self:=fun _ _ _ _ _ st h=>wpAny_pyIter_listiter st h
theorem ZeG {P:Program} {w:World} {K:PySem.W.Frag} {tg:Expr} (a it:Addr):Zag P w K tg (Itt K a) [it] it (fun i h=>h.IsTupleIter it a i) where
 mem:=by simp
 obj:=fun i h st b hb=>by
  have e:b=it:=by simpa using hb
  subst e
  obtain⟨o,e,c,d⟩:=st
  exact⟨o,e,fun v z=>by rw[d] at z;cases z⟩
 keep:=fun i h h' st k=>st.at fun o e=>k it (by simp) o e
 item:=by
  intro X hP hw hK hc i pins s σ H E I hf st hg
  subst hP hw hK
  obtain⟨xs,x,hq,hx⟩:=hg
  obtain⟨its,rv,p,hz⟩:=I.tuple hq
  obtain⟨u,hu,ru⟩:=rv.get hx
  obtain⟨f0,f1,f2,f3,f4,f5⟩:=hf it (by simp)
  refine wpAny_pyNext_tuple_item st (show s.heap.IsTuple a its.toArray from p) (x:=u) (by simpa using hu) fun h' st' sb=>?_
  have I1:Inv X pins σ H {s with heap:=h'}:=I.turned (t':=s.toks) (fun b o hb e=>(sb.2 b hb).trans e) f0 f1 f3 f4 f5
  obtain⟨o,e,c,d⟩:=id st'
  exact⟨u,rfl,Zc5 (s:={s with heap:=h'}) e c d (by decide) ⟨x,H,I1,ru,⟨rfl,fun ys hy=>by rw[I.tuple_inj hy hq];exact hx⟩,st',fun b hb=>(hf b hb).1⟩⟩
 done:=by
  intro X hP hw hK hc i pins s σ H E I hf st hg
  subst hP hw hK
  obtain⟨xs,hq,hx⟩:=hg
  obtain⟨its,rv,p,hz⟩:=I.tuple hq
  obtain⟨f0,f1,f2,f3,f4,f5⟩:=hf it (by simp)
  have hl:=rv.length
  exact wpAny_pyNext_tuple_end (I.ok.hd hc) st (show s.heap.IsTuple a its.toArray from p) (by simp;omega) fun h' eb=>⟨rfl,I.turned (t':=s.toks) (fun b o hb e=>eb b o hb e) f0 f1 f3 f4 f5⟩
 self:=fun _ _ _ _ _ st h=>wpAny_pyIter_tupleiter st h
theorem Ze6 {P:Program} {w:World} {K:PySem.W.Frag} {tg:Expr} (it:Addr) (lo:Int) (n:Nat):Zag P w K tg (Itr lo n) [it] it (fun i h=>IsRangeIter h it (lo+(i:Nat)*1) ((n:Int)-(i:Nat)) 1) where
 mem:=by simp
 obj:=fun i h st b hb=>by
  have e:b=it:=by simpa using hb
  subst e
  exact⟨_,st,fun v z=>by
   have z':Data.fields _=Data.cell v:=z
   cases z'⟩
 keep:=fun i h h' st k=>k it (by simp) _ st
 item:=by
  intro X hP hw hK hc i pins s σ H E I hf st hg
  subst hP hw hK
  obtain⟨f0,f1,f2,f3,f4,f5⟩:=hf it (by simp)
  have W:=Walks.range (prog:=X.prog) (w:=X.w) (I.ok.hd hc) it lo 1 n
  refine W.item i s _ _ hg st fun v h' tk hv st' kk=>?_
  obtain⟨t,rfl⟩:=hv
  have I1:Inv X pins σ H {s with heap:=h',toks:=tk}:=I.turned (fun b o hb e=>kk b o (by simpa using hb) e) f0 f1 f3 f4 f5
  refine⟨_,rfl,Zc5 (s:={s with heap:=h',toks:=tk}) (n:="range_iterator") st' rfl rfl (by decide) ⟨.int (lo+i),H,I1,⟨t,?_⟩,⟨rfl,rfl⟩,st',fun b hb=>(hf b hb).1⟩⟩
  rw[Int.mul_one]
 done:=by
  intro X hP hw hK hc i pins s σ H E I hf st hg
  subst hP hw hK
  obtain⟨f0,f1,f2,f3,f4,f5⟩:=hf it (by simp)
  exact wpAny_pyNext_range_end (I.ok.hd hc) st (by have:n≤i:=hg;omega) fun h' eb=>⟨rfl,I.turned (t':=s.toks) (fun b o hb e=>eb b o hb e) f0 f1 f3 f4 f5⟩
 self:=fun _ _ _ _ _ st h=>wpAny_pyIter_rangeiter st h
end L2
namespace L2
open PySem PySem.Spec PyProof.Rows
section
variable {X:Cx} {tg:Expr}
def Zfh (K:PySem.W.Frag) (tl:TE):TI:=fun σ H R=>tl σ H fun x H1=>∃a,x= .ref a∧(∃xs,SqL K H1 a xs)∧R (Itl K a) H1
def Zan (K:PySem.W.Frag) (tl:TE):TI:=fun σ H R=>tl σ H fun x H1=>∃a,x= .ref a∧(∃xs,SqT K H1 a xs)∧R (Itt K a) H1
theorem Zho {l:Expr} {tl:TE} (hl:PE X l tl):PI X tg l (Zfh X.K tl):=by
 intro pins s σ H R I h
 refine thn (hl pins s σ H _ I h) fun v s1 ⟨x,H1,I1,r1,q1⟩=>?_
 obtain⟨a,e,⟨xs,hq⟩,q⟩:=q1
 subst e
 cases r1
 obtain⟨its,rv,p,hz⟩:=I1.list hq
 refine wpAny_pyIter_list p.isList ?_
 refine⟨s1.heap.objs.size,[s1.heap.objs.size],_,_,H1,rfl,I1.kept (t':=s1.toks) fun b o e=>Heap.get?_push_of_some _ e,Zge a _,⟨_,Heap.get?_push_size _ rfl,rfl,rfl⟩,fun b hb=>?_,q⟩
 have e:b=s1.heap.objs.size:=by simpa using hb
 subst e
 exact I1.fpOk (Nat.le_refl _) (I1.hok.fresh (Nat.le_refl _))
theorem Zii {l:Expr} {tl:TE} (hl:PE X l tl):PI X tg l (Zan X.K tl):=by
 intro pins s σ H R I h
 refine thn (hl pins s σ H _ I h) fun v s1 ⟨x,H1,I1,r1,q1⟩=>?_
 obtain⟨a,e,⟨xs,hq⟩,q⟩:=q1
 subst e
 cases r1
 obtain⟨its,rv,p,hz⟩:=I1.tuple hq
 refine wpAny_pyIter_tuple (show s1.heap.IsTuple a its.toArray from p) ?_
 refine⟨s1.heap.objs.size,[s1.heap.objs.size],_,_,H1,rfl,I1.kept (t':=s1.toks) fun b o e=>Heap.get?_push_of_some _ e,ZeG a _,⟨_,Heap.get?_push_size _ rfl,rfl,rfl⟩,fun b hb=>?_,q⟩
 have e:b=s1.heap.objs.size:=by simpa using hb
 subst e
 exact I1.fpOk (Nat.le_refl _) (I1.hok.fresh (Nat.le_refl _))
theorem Zgj {pins:List (Addr×Obj)} {σ:St} {H:Hp} {s:Shared} {R:It→Hp→Prop} {E:Value→Shared→Prop} {lo hi:Int} {t u v:Tok} {tk:Nat} (I:Inv X pins σ H s) (h1: -(2 ^ 62)≤lo) (h2:lo<2 ^ 62) (h3: -(2 ^ 62)≤hi) (h4:hi<2 ^ 62)
  (q:R (Itr lo (hi-lo).toNat) H):wpAny (model X.prog X.w) X.A (pyIter (.ref s.heap.objs.size)) (PIE X pins σ tg R) E {s with heap:=s.heap.push {cls:= .type "range",data:= .fields #[.int lo t,.int hi u,.int 1 v]},toks:=tk}:=by
 refine wpAny_pyIter_range (IsRange.new ..) (small_one h1 h2 h3 h4) ?_
 have I1:Inv X pins σ H {s with heap:=s.heap.push {cls:= .type "range",data:= .fields #[.int lo t,.int hi u,.int 1 v]},toks:=tk}:=I.kept fun b o e=>Heap.get?_push_of_some _ e
 refine⟨(s.heap.push {cls:= .type "range",data:= .fields #[.int lo t,.int hi u,.int 1 v]}).objs.size,[(s.heap.push {cls:= .type "range",data:= .fields #[.int lo t,.int hi u,.int 1 v]}).objs.size],_,_,H,rfl,
  I1.kept (t':=tk) fun b o e=>Heap.get?_push_of_some _ e,Ze6 _ lo (hi-lo).toNat,?_,fun b hb=>?_,q⟩
 ·have e1:lo+((0:Nat):Int)*1=lo:=by simp
  have e2:(((hi-lo).toNat:Nat):Int)-((0:Nat):Int)=Builtin.Range.rangeSize lo hi 1:=by rw[rangeSize_one];split<;>omega
  show IsRangeIter _ _ (lo+((0:Nat):Int)*1) ((((hi-lo).toNat:Nat):Int)-((0:Nat):Int)) 1
  rw[e1,e2]
  exact Heap.get?_push_size _ rfl
 ·have e:b=(s.heap.push {cls:= .type "range",data:= .fields #[.int lo t,.int hi u,.int 1 v]}).objs.size:=by simpa using hb
  subst e
  exact I1.fpOk (Nat.le_refl _) (I1.hok.fresh (Nat.le_refl _))
def Zg6 (ta:TA):TI:=fun σ H R=>ta σ H fun vs H1=>∃j:Int,vs=[.int j]∧ -(2 ^ 62)≤j∧j<2 ^ 62∧R (Itr 0 j.toNat) H1
theorem YF {a:Expr} {ta:TA} {p pos:Pos} (hg:Gl X "range") (hm:X.mg "range" =none) (ha:PA X [a] ta) (hs:starEach [a] X.env=[(false,eval a X.env)]:=by rfl):PI X tg (.Call (.Name "range" p) [a] [] pos) (Zg6 ta):=by
 intro pins s σ H R I h
 refine Call_ (U5 I hg hm boot_range (PyProof.Rows.callWith_type1 (thn (ha pos pins s σ H _ I h) fun us s1 ⟨vs,H1,I1,r1,q1⟩=>?_) hs rfl))
 obtain⟨j,e,q1,q2,q⟩:=q1
 subst e
 cases r1 with
 |cons r rr=>
  cases rr
  obtain⟨t,rfl⟩:=r
  exact call_range_1 (Zgj I1 (by omega) (by omega) q1 q2 (by simpa using q))
def Ziq (wi:TI) (g:TG) (tb:TS):TS:=fun D σ H=>wi σ H fun J H1=>∃W:Nat→Nat→St→Hp→Prop,(∃m,W 0 m σ H1)∧∀i m σ H,W i m σ H→
 (J.stop i H∧D.nx σ H)∨(J.go i H∧∃N:St→Hp→Prop,(∀σ' H',N σ' H'→∃m',m'<m∧W (i+1) m' σ' H')∧∀x H',J.yld i H x H'→g x σ H' fun σ2 H2=>tb {D with nx:=N,ct:=N,bk:=D.nx} σ2 H2)
def U0 (fp:List Addr) (h:Heap):List (Addr×Obj):=fp.filterMap fun b=>(h.get? b).map fun o=>(b,o)
theorem WT {fp:List Addr} {h:Heap} {b:Addr} {o:Obj} (hb:b∈fp) (e:h.get? b=some o):(b,o)∈U0 fp h:=List.mem_filterMap.mpr ⟨b,hb,by rw[e];rfl⟩
theorem Zf8 {fp:List Addr} {h:Heap} {p:Addr×Obj} (hp:p∈U0 fp h):p.1∈fp∧h.get? p.1=some p.2:=by
 obtain⟨b,hb,e⟩:=List.mem_filterMap.mp hp
 cases q:h.get? b with
 |none=>rw[q] at e;cases e
 |some o=>
  rw[q] at e
  have e':(b,o)=p:=Option.some.inj e
  subst e'
  exact⟨hb,q⟩
theorem Inv.pinned {pins:List (Addr×Obj)} {σ:St} {H:Hp} {s:Shared} {fp:List Addr} (I:Inv X pins σ H s) (hf:∀b∈fp,WK X pins H b) (ho:∀b∈fp,∃o,s.heap.get? b=some o∧∀v,o.data≠ .cell v):Inv X (pins++U0 fp s.heap) σ H s:=
 I.pins_of fun p hp=>(List.mem_append.mp hp).elim (fun z=>I.pin p (List.mem_append_right _ z)) fun z=>by
  obtain⟨hb,e⟩:=Zf8 z
  obtain⟨f0,f1,f2,_⟩:=hf p.1 hb
  obtain⟨o,e',d⟩:=ho p.1 hb
  rw[e] at e';cases e'
  exact⟨e,f0,f1,f2,d⟩
theorem Inv.unpinned {pins pl:List (Addr×Obj)} {σ:St} {H:Hp} {s:Shared} (I:Inv X (pins++pl) σ H s):Inv X pins σ H s:=I.pins_of fun p hp=>I.pin p (List.mem_append_right _ (List.mem_append_left _ hp))
theorem Z0 {iter:Expr} {body:List Stmt} {wi:TI} {g:TG} {tb:TS} {pos:Pos} (hp:PassesOwn (model X.prog X.w) X.A X.env X.xe) (hc:X.calm=true) (hi:PI X tg iter wi) (hg:PG X tg g) (hb:PSs X body tb)
  (hs:∀x,foldedSetIterable iter X.env x=pure x:=by intro _;rfl):PS X (.For tg iter body [] pos) (Ziq wi g tb):=by
 intro pins s σ H D I h
 refine wpAny_For (thn (hi pins s σ H _ I h) fun v s1 h1=>thn h1 fun itv s2 h2=>?_) hs
 obtain⟨it,fp,tn,J,H2,e,I2,T,st2,f2,W,⟨m0,w0⟩,turn⟩:=h2
 subst e
 have stat:∀{H':Hp},(∀b∈fp,H' b=none)→∀b∈fp,WK X pins H' b:=fun hn b hb=>⟨hn b hb,(f2 b hb).2⟩
 refine codeAny_forLoop_any (fun n s'=>∃i σ' H',Inv X pins σ' H' s'∧tn i s'.heap∧(∀b∈fp,H' b=none)∧W i n σ' H') ?_ m0 ⟨0,σ,H2,I2,st2,fun b hb=>(f2 b hb).1,w0⟩
 rintro n s3 ⟨i,σ3,H3,I3,st3,fr3,w3⟩
 rcases turn i n σ3 H3 w3 with⟨stop,qn⟩|⟨go,N,hN,step⟩
 ·refine wpAny_passesOwn hp (thn (T.done X rfl rfl rfl hc i pins s3 σ3 H3 X.xe I3 (stat fr3) st3 stop) fun r s4 ⟨hr,I4⟩=>?_)
  subst hr
  exact wpAny_execs_nil ⟨σ3,H3,I4,qn⟩
 ·refine wpAny_passesOwn hp (thn (T.item X rfl rfl rfl hc i pins s3 σ3 H3 X.xe I3 (stat fr3) st3 go) fun r s4 ⟨u,hr,h4⟩=>?_)
  subst hr
  refine wpAny_passesOwn hp (thn h4 fun _ s5 ⟨x,H5,I5,r5,y5,st5,fr5⟩=>?_)
  have I5':=I5.pinned (stat fr5) (T.obj _ _ st5)
  refine wpAny_passesOwn hp (thn (hg _ s5 σ3 H5 x u _ I5' r5 (step x H5 y5)) fun _ s6 ⟨σ6,H6,I6,q6⟩=>?_)
  refine wpAny_passesOwn hp (thn (hb _ s6 σ6 H6 _ I6 q6) fun f s7 q7=>?_)
  have again:∀{σ7:St} {H7:Hp},Inv X (pins++U0 fp s5.heap) σ7 H7 s7→N σ7 H7→∃m,m<n∧∃i σ' H',Inv X pins σ' H' s7∧tn i s7.heap∧(∀b∈fp,H' b=none)∧W i m σ' H':=fun{σ7 H7} I7 n7=>by
   obtain⟨m',hm,w7⟩:=hN σ7 H7 n7
   refine⟨m',hm,i+1,σ7,H7,I7.unpinned,T.keep _ _ _ st5 fun b hb o e=>(I7.pin (b,o) (List.mem_append_right _ (List.mem_append_right _ (WT hb e)))).1,fun b hb=>?_,w7⟩
   obtain⟨o,e,d⟩:=T.obj _ _ st5 b hb
   exact(I7.pin (b,o) (List.mem_append_right _ (List.mem_append_right _ (WT hb e)))).2.1
  cases f with
  |next=>obtain⟨σ7,H7,I7,n7⟩:=q7;exact again I7 n7
  |cont=>obtain⟨σ7,H7,I7,n7⟩:=q7;exact again I7 n7
  |brk=>obtain⟨σ7,H7,I7,q7⟩:=q7;exact⟨σ7,H7,I7.unpinned,q7⟩
  |ret v=>obtain⟨x7,σ7,H7,I7,r7,q7⟩:=q7;exact⟨x7,σ7,H7,I7.unpinned,r7,q7⟩
end
theorem WP {lo:Int} {n:Nat} {g:TG} {tb:TS} {D:W6} {σ:St} {H:Hp} (Pv:Nat→St→Hp→Prop) (h0:Pv 0 σ H)
  (hs:∀i σ H,i<n→Pv i σ H→g (.int (lo+i)) σ H fun σ2 H2=>tb {D with nx:=Pv (i+1),ct:=Pv (i+1),bk:=D.nx} σ2 H2) (hd:∀σ H,Pv n σ H→D.nx σ H):
  ∃W:Nat→Nat→St→Hp→Prop,(∃m,W 0 m σ H)∧∀i m σ H,W i m σ H→
   ((Itr lo n).stop i H∧D.nx σ H)∨((Itr lo n).go i H∧∃N:St→Hp→Prop,(∀σ' H',N σ' H'→∃m',m'<m∧W (i+1) m' σ' H')∧∀x H',(Itr lo n).yld i H x H'→g x σ H' fun σ2 H2=>tb {D with nx:=N,ct:=N,bk:=D.nx} σ2 H2):=by
 refine⟨fun i m σ H=>m=n-i∧i≤n∧Pv i σ H,⟨n,by simp,Nat.zero_le _,h0⟩,?_⟩
 rintro i m σ H ⟨rfl,hi,p⟩
 by_cases hlt:i<n
 ·refine .inr ⟨hlt,Pv (i+1),fun σ' H' p'=>⟨n-(i+1),by omega,rfl,hlt,p'⟩,fun x H' y=>?_⟩
  obtain⟨e,y⟩:=y
  subst e y
  exact hs i σ _ hlt p
 ·have e:i=n:=by omega
  subst e
  exact .inl ⟨Nat.le_refl _,hd σ H p⟩
end L2
namespace L2
open PySem PySem.Spec PyProof.Rows
abbrev R2:=V→V→Hp→VK→Prop
def OpR (X:Cx) (f:Value→Value→Sem Value) (r:R2):Prop:=
 ∀(pins:List (Addr×Obj)) (s:Shared) (σ:St) (H:Hp) (x y:V) (v u:Value) (Q:VK),Inv X pins σ H s→ZB x v→ZB y u→r x y H Q→
  wpAny (model X.prog X.w) X.A (f v u) (EP X pins σ Q) X.xe s
def UnR (X:Cx) (f:Value→Sem Value) (r:V→Hp→VK→Prop):Prop:=
 ∀(pins:List (Addr×Obj)) (s:Shared) (σ:St) (H:Hp) (x:V) (v:Value) (Q:VK),Inv X pins σ H s→ZB x v→r x H Q→
  wpAny (model X.prog X.w) X.A (f v) (EP X pins σ Q) X.xe s
def YI (X:Cx) (f:Value) (r:List V→Hp→VK→Prop):Prop:=
 ∀(pins:List (Addr×Obj)) (s:Shared) (σ:St) (H:Hp) (xs:List V) (us:List Value) (Q:VK),Inv X pins σ H s→Zw xs us→r xs H Q→
  wpAny (model X.prog X.w) X.A (call f us) (EP X pins σ Q) X.xe s
def ZjC (X:Cx) (r:V→Hp→(Bool→Hp→Prop)→Prop):Prop:=
 ∀(pins:List (Addr×Obj)) (s:Shared) (σ:St) (H:Hp) (x:V) (v:Value) (Q:Bool→Hp→Prop),Inv X pins σ H s→ZB x v→r x H Q→
  wpAny (model X.prog X.w) X.A (truthy v) (TP X pins σ Q) X.xe s
def tOp (r:R2) (ta tb:TE):TE:=fun σ H Q=>ta σ H fun x H1=>tb σ H1 fun y H2=>r x y H2 Q
def tUn (r:V→Hp→VK→Prop) (ta:TE):TE:=fun σ H Q=>ta σ H fun x H1=>r x H1 Q
def rI (C:Int→Int→Prop) (g:Int→Int→V):R2:=fun x y H Q=>∃i j,x= .int i∧y= .int j∧C i j∧Q (g i j) H
def rI0 (g:Int→Int→V):R2:=fun x y H Q=>∃i j,x= .int i∧y= .int j∧Q (g i j) H
def rU (g:Int→V):V→Hp→VK→Prop:=fun x H Q=>∃i,x= .int i∧Q (g i) H
section
variable {X:Cx} {a b c:Expr} {ta tb tc:TE} {pos:Pos}
theorem Zgo (ha:PE X a ta) (hb:PE X b tb) {pins:List (Addr×Obj)} {s:Shared} {σ:St} {H:Hp} {R:V→V→Hp→Prop} (I:Inv X pins σ H s)
  (h:ta σ H fun x H1=>tb σ H1 fun y H2=>R x y H2) {Q:Value→Shared→Prop} {f:Value→Value→Sem Value}
  (hf:∀v u s2 x y H2,Inv X pins σ H2 s2→ZB x v→ZB y u→R x y H2→wpAny (model X.prog X.w) X.A (f v u) Q X.xe s2):
  wpAny (model X.prog X.w) X.A (eval a X.env) (fun v s₁=>wpAny (model X.prog X.w) X.A (eval b X.env) (fun u s₂=>wpAny (model X.prog X.w) X.A (f v u) Q X.xe s₂) X.xe s₁) X.xe s:=by
 refine thn (ha pins s σ H _ I h) fun v s1 ⟨x,H1,I1,r1,q1⟩=>?_
 refine thn (hb pins s1 σ H1 _ I1 q1) fun u s2 ⟨y,H2,I2,r2,q2⟩=>?_
 exact hf v u s2 x y H2 I2 r1 r2 q2
theorem Zm {op:Operator} {r:R2} (ho:OpR X (binaryOp op) r) (ha:PE X a ta) (hb:PE X b tb):PE X (.BinOp a op b pos) (tOp r ta tb):=by
 intro pins s σ H Q I h
 exact wpAny_BinOp (Zgo ha hb I h fun v u s2 x y H2 I2 rx ry q=>ho pins s2 σ H2 x y v u Q I2 rx ry q)
theorem Zjg {op:UnaryOp} {r:V→Hp→VK→Prop} (ho:UnR X (unaryOp op) r) (ha:PE X a ta):PE X (.UnaryOp op a pos) (tUn r ta):=by
 intro pins s σ H Q I h
 exact UnaryOp_ (thn (ha pins s σ H _ I h) fun v s1 ⟨x,H1,I1,r1,q1⟩=>ho pins s1 σ H1 x v Q I1 r1 q1)
theorem opI {f:Value→Value→Sem Value} {C:Int→Int→Prop} {g:Int→Int→Int}
  (rule:∀(i j:Int) (t u:Tok) (s:Shared) (Q:Value→Shared→Prop) (E:Value→Shared→Prop),C i j→Q (.int (g i j) s.toks) {s with toks:=s.toks+1}→wpAny (model X.prog X.w) X.A (f (.int i t) (.int j u)) Q E s):
  OpR X f (rI C fun i j=> .int (g i j)):=by
 intro pins s σ H x y v u Q I rx ry h
 obtain⟨i,j,rfl,rfl,hc,q⟩:=h
 obtain⟨t,rfl⟩:=rx
 obtain⟨t',rfl⟩:=ry
 exact rule i j t t' s _ _ hc ⟨.int (g i j),H,I.tok _,⟨_,rfl⟩,q⟩
theorem ZiO {f:Value→Value→Sem Value} {g:Int→Int→Int}
  (rule:∀(i j:Int) (t u:Tok) (s:Shared) (Q:Value→Shared→Prop) (E:Value→Shared→Prop),Q (.int (g i j) s.toks) {s with toks:=s.toks+1}→wpAny (model X.prog X.w) X.A (f (.int i t) (.int j u)) Q E s):
  OpR X f (rI0 fun i j=> .int (g i j)):=by
 intro pins s σ H x y v u Q I rx ry h
 obtain⟨i,j,rfl,rfl,q⟩:=h
 obtain⟨t,rfl⟩:=rx
 obtain⟨t',rfl⟩:=ry
 exact rule i j t t' s _ _ ⟨.int (g i j),H,I.tok _,⟨_,rfl⟩,q⟩
theorem Zft {f:Value→Value→Sem Value} {g:Int→Int→Bool}
  (rule:∀(i j:Int) (t u:Tok) (s:Shared) (Q:Value→Shared→Prop) (E:Value→Shared→Prop),Q (.bool (g i j)) s→wpAny (model X.prog X.w) X.A (f (.int i t) (.int j u)) Q E s):
  OpR X f (rI0 fun i j=> .bl (g i j)):=by
 intro pins s σ H x y v u Q I rx ry h
 obtain⟨i,j,rfl,rfl,q⟩:=h
 obtain⟨t,rfl⟩:=rx
 obtain⟨t',rfl⟩:=ry
 exact rule i j t t' s _ _ ⟨.bl (g i j),H,I,rfl,q⟩
def Zh7 (i j:Int):Prop:=0≤j∧j≤1000000∧i.natAbs<2 ^ 64
def Zfv (i j:Int):Prop:=(-(2 ^ 64)<i∧i<2 ^ 64)∨(-(2 ^ 64)<j∧j<2 ^ 64)
theorem Zfv.ok {i j:Int} (h:Zfv i j):IntMulOk i j:=by
 rcases h with⟨h1,h2⟩|⟨h1,h2⟩
 ·exact .of_left (intBits_le_64 h1 h2)
 ·exact .of_right (intBits_le_64 h1 h2)
theorem Zih:OpR X (binaryOp .Add) (rI0 fun i j=> .int (i+j)):=ZiO fun _ _ _ _ _ _ _ q=>add_int q
theorem UX:OpR X (binaryOp .Sub) (rI0 fun i j=> .int (i-j)):=ZiO fun _ _ _ _ _ _ _ q=>sub_int q
theorem ZZ:OpR X (binaryOp .Mod) (rI (fun _ j=>0<j) fun i j=> .int (i % j)):=opI fun i j _ _ _ _ _ hc q=>by
 have h1:(0:Int)<j:=hc
 exact mod_int' (by omega) (by rw[Int.fmod_eq_emod_of_nonneg i (by omega)];exact q)
theorem U2:OpR X (binaryOp .Pow) (rI Zh7 fun i j=> .int (i ^ j.toNat)):=opI fun _ _ _ _ _ _ _ hc q=>pow_int_small hc.1 hc.2.1 hc.2.2 q
theorem unI {f:Value→Sem Value} {g:Int→Int}
  (rule:∀(i:Int) (t:Tok) (s:Shared) (Q:Value→Shared→Prop) (E:Value→Shared→Prop),Q (.int (g i) s.toks) {s with toks:=s.toks+1}→wpAny (model X.prog X.w) X.A (f (.int i t)) Q E s):
  UnR X f (rU fun i=> .int (g i)):=by
 intro pins s σ H x v Q I rx h
 obtain⟨i,rfl,q⟩:=h
 obtain⟨t,rfl⟩:=rx
 exact rule i t s _ _ ⟨.int (g i),H,I.tok _,⟨_,rfl⟩,q⟩
theorem Ziy:UnR X (unaryOp .USub) (rU fun i=> .int (-i)):=unI fun _ _ _ _ _ q=>neg_int q
end
def ZhP:V→V→Bool
 | .non,.non=>true| .non,.int _=>true| .int _,.non=>true| .non,.bl _=>true| .bl _,.non=>true| .non,.str _=>true| .str _,.non=>true
 | .int _,.int _=>true| .bl _,.bl _=>true| .str _,.str _=>true| .byt _,.byt _=>true
 | .int _,.str _=>true| .str _,.int _=>true| .bl _,.str _=>true| .str _,.bl _=>true
 |_,_=>false
def rEq:R2:=fun x y H Q=>ZhP x y=true∧Q (.bl (decide (x=y))) H
def rNe:R2:=fun x y H Q=>ZhP x y=true∧Q (.bl (!decide (x=y))) H
theorem Zey {i j:Int}:decide (V.int i=V.int j)=(i==j):=by
 rw[Bool.eq_iff_iff]
 simp
theorem ZfH {i j:Bool}:decide (V.bl i=V.bl j)=(i==j):=by
 rw[Bool.eq_iff_iff]
 simp
theorem Zeq {i j:Str}:decide (V.str i=V.str j)=(i==j):=by
 rw[Bool.eq_iff_iff]
 simp
theorem Zep {i j:Array UInt8}:decide (V.byt i=V.byt j)=(i.toList==j.toList):=by
 rw[Bool.eq_iff_iff]
 cases i
 cases j
 simp
section
variable {X:Cx} {a b c:Expr} {ta tb tc:TE} {pos:Pos}
theorem ZX {pins:List (Addr×Obj)} {σ:St} {H:Hp} {s:Shared} {Q:VK} {k k':Bool} (I:Inv X pins σ H s) (q:Q (.bl k) H) (e:k=k'):EP X pins σ Q (.bool k') s:=by
 subst e
 exact⟨.bl k,H,I,rfl,q⟩
theorem Zi3:OpR X (compareOp .Eq) rEq:=by
 intro pins s σ H x y v u Q I rx ry h
 obtain⟨hs,q⟩:=h
 cases x with
 |non=>
  cases rx
  cases y with
  |non=>cases ry;exact PySem.EqNone.eq_none_none (ZX I q (by simp))
  |bl j=>cases ry;exact PySem.EqNone.eq_none_bool (ZX I q (by simp))
  |int j=>obtain⟨t',rfl⟩:=ry;exact PySem.EqNone.eq_none_int (ZX I q (by simp))
  |str j=>obtain⟨t',rfl⟩:=ry;exact PySem.EqNone.eq_none_str (ZX I q (by simp))
  |_=>exact absurd (show false=true from hs) Bool.false_ne_true
 |bl i=>
  cases rx
  cases y with
  |non=>cases ry;exact PySem.EqNone.eq_bool_none (ZX I q (by simp))
  |bl j=>cases ry;exact eq_bool (ZX I q ZfH)
  |str j=>obtain⟨t',rfl⟩:=ry;exact PySem.EqMixed.eq_bool_str (ZX I q (by simp))
  |_=>exact absurd (show false=true from hs) Bool.false_ne_true
 |int i=>
  obtain⟨t,rfl⟩:=rx
  cases y with
  |non=>cases ry;exact PySem.EqNone.eq_int_none (ZX I q (by simp))
  |int j=>obtain⟨t',rfl⟩:=ry;exact eq_int (ZX I q Zey)
  |str j=>obtain⟨t',rfl⟩:=ry;exact PySem.EqMixed.eq_int_str (ZX I q (by simp))
  |_=>exact absurd (show false=true from hs) Bool.false_ne_true
 |str i=>
  obtain⟨t,rfl⟩:=rx
  cases y with
  |non=>cases ry;exact PySem.EqNone.eq_str_none (ZX I q (by simp))
  |bl j=>cases ry;exact PySem.EqMixed.eq_str_bool (ZX I q (by simp))
  |int j=>obtain⟨t',rfl⟩:=ry;exact PySem.EqMixed.eq_str_int (ZX I q (by simp))
  |str j=>obtain⟨t',rfl⟩:=ry;exact eq_str (ZX I q Zeq)
  |_=>exact absurd (show false=true from hs) Bool.false_ne_true
 |byt i=>
  obtain⟨t,rfl⟩:=rx
  cases y with
  |byt j=>obtain⟨t',rfl⟩:=ry;exact PySem.W.eq_bytes (ZX I q Zep)
  |_=>exact absurd (show false=true from hs) Bool.false_ne_true
 |_=>cases y<;>exact absurd (show false=true from hs) Bool.false_ne_true
theorem Zjj:OpR X (compareOp .NotEq) rNe:=by
 intro pins s σ H x y v u Q I rx ry h
 obtain⟨hs,q⟩:=h
 cases x with
 |non=>
  cases rx
  cases y with
  |non=>cases ry;exact PySem.EqNone.ne_none_none (ZX I q (by simp))
  |bl j=>cases ry;exact PySem.EqNone.ne_none_bool (ZX I q (by simp))
  |int j=>obtain⟨t',rfl⟩:=ry;exact PySem.EqNone.ne_none_int (ZX I q (by simp))
  |str j=>obtain⟨t',rfl⟩:=ry;exact PySem.EqNone.ne_none_str (ZX I q (by simp))
  |_=>exact absurd (show false=true from hs) Bool.false_ne_true
 |bl i=>
  cases rx
  cases y with
  |non=>cases ry;exact PySem.EqNone.ne_bool_none (ZX I q (by simp))
  |bl j=>cases ry;exact ne_bool (ZX I q (congrArg not ZfH))
  |str j=>obtain⟨t',rfl⟩:=ry;exact PySem.EqMixed.ne_bool_str (ZX I q (by simp))
  |_=>exact absurd (show false=true from hs) Bool.false_ne_true
 |int i=>
  obtain⟨t,rfl⟩:=rx
  cases y with
  |non=>cases ry;exact PySem.EqNone.ne_int_none (ZX I q (by simp))
  |int j=>obtain⟨t',rfl⟩:=ry;exact ne_int (ZX I q (congrArg not Zey))
  |str j=>obtain⟨t',rfl⟩:=ry;exact PySem.EqMixed.ne_int_str (ZX I q (by simp))
  |_=>exact absurd (show false=true from hs) Bool.false_ne_true
 |str i=>
  obtain⟨t,rfl⟩:=rx
  cases y with
  |non=>cases ry;exact PySem.EqNone.ne_str_none (ZX I q (by simp))
  |bl j=>cases ry;exact PySem.EqMixed.ne_str_bool (ZX I q (by simp))
  |int j=>obtain⟨t',rfl⟩:=ry;exact PySem.EqMixed.ne_str_int (ZX I q (by simp))
  |str j=>obtain⟨t',rfl⟩:=ry;exact ne_str (ZX I q (congrArg not Zeq))
  |_=>exact absurd (show false=true from hs) Bool.false_ne_true
 |byt i=>
  obtain⟨t,rfl⟩:=rx
  cases y with
  |byt j=>obtain⟨t',rfl⟩:=ry;exact PySem.W.ne_bytes (ZX I q (congrArg not Zep))
  |_=>exact absurd (show false=true from hs) Bool.false_ne_true
 |_=>cases y<;>exact absurd (show false=true from hs) Bool.false_ne_true
theorem Zc7:OpR X (compareOp .Lt) (rI0 fun i j=> .bl (decide (i<j))):=Zft fun _ _ _ _ _ _ _ q=>lt_int q
theorem Zjd:OpR X (compareOp .LtE) (rI0 fun i j=> .bl (decide (i≤j))):=Zft fun _ _ _ _ _ _ _ q=>le_int q
theorem Zfc:OpR X (compareOp .Gt) (rI0 fun i j=> .bl (decide (j<i))):=Zft fun _ _ _ _ _ _ _ q=>gt_int q
theorem Zb1:OpR X (compareOp .GtE) (rI0 fun i j=> .bl (decide (j≤i))):=Zft fun _ _ _ _ _ _ _ q=>ge_int q
theorem OpR.or {f:Value→Value→Sem Value} {r r':R2} (h:OpR X f r) (h':OpR X f r'):OpR X f (fun x y H Q=>r x y H Q∨r' x y H Q):=by
 intro pins s σ H x y v u Q I rx ry q
 rcases q with q|q
 ·exact h pins s σ H x y v u Q I rx ry q
 ·exact h' pins s σ H x y v u Q I rx ry q
theorem ZQ (b:Expr) {op:CmpOp} (h:op≠ .In:=by decide) (h2:op≠ .NotIn:=by decide):behindInMarks op b=false:=by
 have e1:(op==CmpOp.In)=false:=by cases op<;>first|rfl|exact absurd rfl h
 have e2:(op==CmpOp.NotIn)=false:=by cases op<;>first|rfl|exact absurd rfl h2
 cases b<;>simp[behindInMarks,e1,e2]
theorem VD {op:CmpOp} {r:R2} (ho:OpR X (compareOp op) r) (ha:PE X a ta) (hb:PE X b tb) (hm:behindInMarks op b=false):PE X (.Compare a [op] [b] pos) (tOp r ta tb):=by
 intro pins s σ H Q I h
 exact wpAny_Compare1 (Zgo ha hb I h fun v u s2 x y H2 I2 rx ry q=>ho pins s2 σ H2 x y v u Q I2 rx ry q) hm
def ZeY (t:TE):TT:=fun σ H Q=>t σ H fun x H'=>∃k,x= .bl k∧Q k H'
theorem ZP {op:CmpOp} {r:R2} (ho:OpR X (compareOp op) r) (ha:PE X a ta) (hb:PE X b tb) (hm:behindInMarks op b=false):PT X (.Compare a [op] [b] pos) (ZeY (tOp r ta tb)):=by
 intro pins s σ H Q I h
 refine wpAny_isTrue_Compare1 (thn (ha pins s σ H _ I h) fun v s1 ⟨x,H1,I1,r1,q1⟩=>thn (hb pins s1 σ H1 _ I1 q1) fun u s2 ⟨y,H2,I2,r2,q2⟩=>
  thn (ho pins s2 σ H2 x y v u _ I2 r1 r2 q2) fun c s3 ⟨z,H3,I3,r3,k,e,q3⟩=>?_) hm
 subst e
 cases r3
 exact wpAny_truthy_bool ⟨H3,I3,q3⟩
def ZdZ (r r':R2) (ta tb tc:TE):TE:=fun σ H Q=>ta σ H fun x H1=>tb σ H1 fun y H2=>r x y H2 fun z H3=>∃k,z= .bl k∧
 (if k=true then tc σ H3 fun w' H4=>r' y w' H4 Q else Q (.bl false) H3)
theorem Zgn {op op':CmpOp} {r r':R2} (ho:OpR X (compareOp op) r) (ho':OpR X (compareOp op') r') (ha:PE X a ta) (hb:PE X b tb) (hc:PE X c tc)
  (hm:lastMarks [op,op'] [b,c]=false:=by with_unfolding_all rfl):PE X (.Compare a [op,op'] [b,c] pos) (ZdZ r r' ta tb tc):=by
 intro pins s σ H Q I h
 refine Compare_chain (thn (ha pins s σ H _ I h) fun v s1 ⟨x,H1,I1,r1,q1⟩=>chain_link (thn (hb pins s1 σ H1 _ I1 q1) fun u s2 ⟨y,H2,I2,r2,q2⟩=>
  thn (ho pins s2 σ H2 x y v u _ I2 r1 r2 q2) fun d s3 ⟨z,H3,I3,r3,k,e,q3⟩=>?_)) hm
 subst e
 cases r3
 refine wpAny_truthy_bool ?_
 cases k with
 |false=>exact ite_ff ⟨.bl false,H3,I3,rfl,q3⟩
 |true=>exact ite_tt (chain_last (thn (hc pins s3 σ H3 _ I3 q3) fun w' s4 ⟨z',H4,I4,r4,q4⟩=>ho' pins s4 σ H4 y z' u w' Q I4 r2 r4 q4))
theorem Zgp {op op':CmpOp} {r r':R2} (ho:OpR X (compareOp op) r) (ho':OpR X (compareOp op') r') (ha:PE X a ta) (hb:PE X b tb) (hc:PE X c tc)
  (hm:lastMarks [op,op'] [b,c]=false:=by with_unfolding_all rfl):PT X (.Compare a [op,op'] [b,c] pos) (ZeY (ZdZ r r' ta tb tc)):=by
 intro pins s σ H Q I h
 refine isTrue_chain (thn (ha pins s σ H _ I h) fun v s1 ⟨x,H1,I1,r1,q1⟩=>test_link (thn (hb pins s1 σ H1 _ I1 q1) fun u s2 ⟨y,H2,I2,r2,q2⟩=>
  thn (ho pins s2 σ H2 x y v u _ I2 r1 r2 q2) fun d s3 ⟨z,H3,I3,r3,k,e,q3⟩=>?_)) hm
 subst e
 cases r3
 refine wpAny_truthy_bool ?_
 cases k with
 |false=>
  obtain⟨k',e',q'⟩:=q3
  cases e'
  exact ite_ff ⟨H3,I3,q'⟩
 |true=>
  refine ite_tt (test_last (thn (hc pins s3 σ H3 _ I3 q3) fun w' s4 ⟨z',H4,I4,r4,q4⟩=>thn (ho' pins s4 σ H4 y z' u w' _ I4 r2 r4 q4) fun d' s5 ⟨z2,H5,I5,r5,k2,e2,q5⟩=>?_))
  subst e2
  cases r5
  exact wpAny_truthy_bool ⟨H5,I5,q5⟩
def Zdy (K:PySem.W.Frag) (x:V) (H:Hp) (k:Bool):Prop:=
 match x with
 | .non=>k=false
 | .bl b=>k=b
 | .int i=>k=(i != 0)
 | .str y=>y.length≤sizeLine∧k=((y.length:Int) != 0)
 | .byt y=>y.size≤sizeLine∧k=((y.size:Int) != 0)
 | .ref p=>(∃xs,SqL K H p xs∧k= !xs.isEmpty)∨(∃xs,SqT K H p xs∧k= !xs.isEmpty)∨∃kvs,H p=some (.dK kvs)∧k= !kvs.isEmpty
 |_=>False
theorem ZeV {κ:Type} {kvs:List (κ×V)} {vs:List (κ×Value)} (r:KV kvs vs):(!vs.isEmpty)= !kvs.isEmpty:=by
 cases r<;>rfl
theorem ZbL {xs:List V} {its:List Value} (r:Zw xs its):(!its.toArray.isEmpty)= !xs.isEmpty:=by
 cases r<;>simp
theorem Uu:(sizeLine:Nat)<2 ^ 63:=by rw[sizeLine_eq];decide
theorem ZhM:ZjC X (fun x H Q=>∃k,Zdy X.K x H k∧Q k H):=by
 intro pins s σ H x v Q I rx h
 obtain⟨k,e,q⟩:=h
 have hl:=Uu
 have hs:sizeLine=16777216:=sizeLine_eq
 cases x with
 |non=>
  cases rx
  have e':k=false:=e
  subst e'
  exact truthy_none ⟨H,I,q⟩
 |bl b=>
  cases rx
  have e':k=b:=e
  subst e'
  exact wpAny_truthy_bool ⟨H,I,q⟩
 |int i=>
  obtain⟨t,rfl⟩:=rx
  have e':k=(i != 0):=e
  subst e'
  exact PySem.P.truthy_int ⟨H,I,q⟩
 |str y=>
  obtain⟨t,rfl⟩:=rx
  obtain⟨hy,e'⟩:y.length≤sizeLine∧k=((y.length:Int) != 0):=e
  subst e'
  exact PySem.P.truthy_str (by omega) ⟨H,I.tok _,q⟩
 |byt y=>
  obtain⟨t,rfl⟩:=rx
  obtain⟨hy,e'⟩:y.size≤sizeLine∧k=((y.size:Int) != 0):=e
  subst e'
  exact PySem.W.truthy_bytes (by omega) ⟨H,I.tok _,q⟩
 |ref p=>
  cases rx
  have e':(∃xs,SqL X.K H p xs∧k= !xs.isEmpty)∨(∃xs,SqT X.K H p xs∧k= !xs.isEmpty)∨∃kvs,H p=some (.dK kvs)∧k= !kvs.isEmpty:=e
  rcases e' with⟨xs,hx,e'⟩|⟨xs,hx,e'⟩|⟨kvs,hx,e'⟩
  ·subst e'
   obtain⟨its,r,pl,hz⟩:=I.list hx
   have hlen:=r.length
   exact wpAny_truthy_list pl.isList (by simp only[List.size_toArray];omega) ⟨H,I.tok _,by rw[ZbL r];exact q⟩
  ·subst e'
   obtain⟨its,r,pl,hz⟩:=I.tuple hx
   have hlen:=r.length
   exact truthy_tuple pl (by simp only[List.size_toArray];omega) ⟨H,I.tok _,by rw[ZbL r];exact q⟩
  ·subst e'
   obtain⟨hz,hS,vs,r,m⟩:kvs.length≤sizeLine∧(p==sysModules)=false∧∃vs,KV kvs vs∧s.heap.DictOf (Yu X.prog X.w) p vs:=I.hok p _ hx
   have hlen:kvs.length=vs.length:=Paired.length r
   exact wpAny_truthy_dict hS m (by omega) ⟨H,I.tok _,by rw[ZeV r];exact q⟩
 |_=>exact(show False from e).elim
theorem ZgF (ha:PE X a ta) (he:∀whole,isTrue a X.env whole=(do let v←whole;standAt a.pos;holding [v] (truthy v))):
  PT X a (fun σ H Q=>ta σ H fun x H'=>∃k,Zdy X.K x H' k∧Q k H'):=by
 intro pins s σ H Q I h
 exact isTrue_plain (thn (ha pins s σ H _ I h) fun v s1 ⟨x,H1,I1,r1,q1⟩=>ZhM pins s1 σ H1 x v Q I1 r1 q1) (he _)
theorem ZeF:OpR X (binaryOp .Add) (fun x y H Q=>∃i j,x= .str i∧y= .str j∧i.length+j.length≤sizeLine∧Q (.str (i++j)) H):=by
 intro pins s σ H x y v u Q I rx ry h
 obtain⟨i,j,rfl,rfl,hz,q⟩:=h
 obtain⟨t,rfl⟩:=rx
 obtain⟨t',rfl⟩:=ry
 exact add_str (fun t' tk=>⟨.str (i++j),H,I.tok _,⟨_,rfl⟩,q⟩) hz
theorem Vq {x:V} {us:List Value} (r:Zw [x] us):∃u,us=[u]∧ZB x u:=by
 cases r with
 |cons r1 r2=>cases r2;exact⟨_,rfl,r1⟩
theorem Zg4 {x y:V} {us:List Value} (r:Zw [x,y] us):∃u w',us=[u,w']∧ZB x u∧ZB y w':=by
 cases r with
 |cons r1 r2=>
  cases r2 with
  |cons r3 r4=>cases r4;exact⟨_,_,rfl,r1,r3⟩
theorem ZfB (hc:X.calm=true):YI X (.builtin "min") (fun xs H Q=>∃i j,xs=[.int i,.int j]∧Q (.int (if j<i then j else i)) H):=by
 intro pins s σ H xs us Q I r h
 obtain⟨i,j,rfl,q⟩:=h
 obtain⟨u,w',rfl,⟨t,rfl⟩,⟨t',rfl⟩⟩:=Zg4 r
 refine min_two_ints (I.ok.hd hc) fun h' tk k=>⟨_,H,I.kept k,?_,q⟩
 by_cases hj:j<i
 ·rw[if_pos hj,if_pos hj];exact⟨_,rfl⟩
 ·rw[if_neg hj,if_neg hj];exact⟨_,rfl⟩
theorem ZcH:YI X (.type "int") (fun xs H Q=>(∃i,xs=[.int i]∧Q (.int i) H)∨∃k,xs=[.bl k]∧Q (.int (if k then 1 else 0)) H):=by
 intro pins s σ H xs us Q I r h
 rcases h with⟨i,rfl,q⟩|⟨k,rfl,q⟩
 ·obtain⟨u,rfl,t,rfl⟩:=Vq r
  exact call_int_int ⟨.int i,H,I,⟨_,rfl⟩,q⟩
 ·obtain⟨u,rfl,r1⟩:=Vq r
  cases r1
  exact call_int_bool ⟨.int (if k then 1 else 0),H,I.tok _,⟨_,rfl⟩,q⟩
def Zaj (K:PySem.W.Frag) (x:V) (H:Hp) (n:Nat):Prop:=
 match x with
 | .str y=>y.length≤sizeLine∧n=y.length
 | .byt y=>y.size≤sizeLine∧n=y.size
 | .ref p=>(∃xs,SqL K H p xs∧n=xs.length)∨∃xs,SqT K H p xs∧n=xs.length
 |_=>False
theorem ZgH:YI X (.builtin "len") (fun xs H Q=>∃x n,xs=[x]∧Zaj X.K x H n∧Q (.int n) H):=by
 intro pins s σ H xs us Q I r h
 obtain⟨x,n,rfl,e,q⟩:=h
 obtain⟨u,rfl,rx⟩:=Vq r
 have hl:=Uu
 have hs:sizeLine=16777216:=sizeLine_eq
 cases x with
 |str y=>
  obtain⟨t,rfl⟩:=rx
  obtain⟨hy,e'⟩:y.length≤sizeLine∧n=y.length:=e
  subst e'
  exact len_str (by omega) ⟨.int _,H,I.tok _,⟨_,rfl⟩,q⟩
 |byt y=>
  obtain⟨t,rfl⟩:=rx
  obtain⟨hy,e'⟩:y.size≤sizeLine∧n=y.size:=e
  subst e'
  exact PySem.W.len_bytes (by omega) ⟨.int _,H,I.tok _,⟨_,rfl⟩,q⟩
 |ref p=>
  cases rx
  have e':(∃xs,SqL X.K H p xs∧n=xs.length)∨∃xs,SqT X.K H p xs∧n=xs.length:=e
  rcases e' with⟨xs,hx,e'⟩|⟨xs,hx,e'⟩
  ·subst e'
   obtain⟨its,r',pl,hz⟩:=I.list hx
   have hlen:=r'.length
   exact Calls.call_len_list pl.isList (by simp only[List.size_toArray];omega) ⟨.int xs.length,H,I.tok _,⟨_,by simp only[List.size_toArray];rw[hlen]⟩,q⟩
  ·subst e'
   obtain⟨its,r',pl,hz⟩:=I.tuple hx
   have hlen:=r'.length
   exact len_tuple pl (by simp only[List.size_toArray];omega) ⟨.int xs.length,H,I.tok _,⟨_,by simp only[List.size_toArray];rw[hlen]⟩,q⟩
 |_=>exact(show False from e).elim
end
end L2
namespace L2
open PySem PySem.Spec PyProof.Rows
structure Zbx (h:Heap) (x dx C:Addr) (mA:Str→Option Value):Prop where
 obj:h.get? x=some (PySem.W.instObj C dx)
 ns:h.Ns1 dx mA
 ne:dx≠x
theorem Zfz {h:Heap} {dx:Addr} {mA:Str→Option Value} (n:h.Ns1 dx mA):∃od,h.get? dx=some od∧∀name,PySem.W.lookIn name od=some (mA name):=by
 obtain⟨o,es,ep,ho,hd,hk,_,hm⟩:=n
 refine⟨o,ho,fun name=>?_⟩
 have e:=hm name
 unfold nsFind findBy at e
 rw[←Array.find?_toList] at e
 unfold PySem.W.lookIn
 rw[hd]
 dsimp only
 split
 ·rename_i y q
  rw[q] at e
  exact congrArg some e
 ·rename_i q
  rw[q] at e
  have a:es.toList.any (·.refKey)=false:=by
   rw[List.any_eq_false]
   intro y hy
   obtain⟨z,t,hkey⟩:=hk y (Array.mem_toList_iff.mp hy)
   simp[DictEntry.refKey,hkey]
  have a':¬es.toList.any (·.refKey)=true:=by rw[a];exact Bool.false_ne_true
  rw[if_neg a']
  exact congrArg some e
theorem Zbx.look {h:Heap} {x dx C:Addr} {mA:Str→Option Value} (I:Zbx h x dx C mA):∃od,PySem.W.InstAt h x (PySem.W.instObj C dx) C (some od)∧∀name,PySem.W.lookIn name od=some (mA name):=
 let⟨od,ho,hl⟩:=Zfz I.ns
 ⟨od,⟨I.obj,rfl,rfl,ho⟩,hl⟩
section
variable {prog:Program} {w:World} {A:Around} {E:Value→Shared→Prop} {s:Shared} {K:PySem.W.Frag} {x dx C f:Addr} {mA:Str→Option Value} {name:Str} {v:Value}
theorem Zhz {expr:Bool} {Q:Value→Shared→Prop} (X:K.In s.heap) (I:Zbx s.heap x dx C mA) (hg:PySem.W.plainGet K C name=true) (hh:PySem.W.hasDictIn K C=true)
  (ha:PySem.W.findIn K (.ref C) name=some none) (hv:mA name=some v) (hv':PySem.W.handedIn v=true) (h:Q v {s with toks:=s.toks+1}):
  wpAny (model prog w) A (getAttr (.ref x) name expr) Q E s:=by
 obtain⟨od,J,hl⟩:=I.look
 exact PySem.W.get_value X J (PySem.W.plainGet_of hg).1 (PySem.W.findObj_own hh ha rfl (by rw[hl,hv])) hv' h
theorem Zgq {pl:Sem Bool} {Q:Value×List Value→Shared→Prop} (X:K.In s.heap) (I:Zbx s.heap x dx C mA) (hg:PySem.W.plainGet K C name=true)
  (hf:PySem.W.findIn K (.ref C) name=some (some (.ref f))) (ht:PySem.W.isFn K (.ref f)=true) (hv:mA name=none) (h:Q (.ref f,[.ref x]) s):
  wpAny (model prog w) A (getMethod (.ref x) name pl) Q E s:=by
 obtain⟨od,J,hl⟩:=I.look
 exact PySem.W.method_fn X J (PySem.W.plainGet_of hg).1 (PySem.W.plainGet_of hg).2 hf (beq_iff_eq.mp ht) (by show(PySem.W.lookIn name od).map (·.isSome)=some false;rw[hl,hv];rfl) h
theorem ZhJ {ns:List Str} {Q:Unit→Shared→Prop} (X:K.In s.heap) (I:Zbx s.heap x dx C mA)
  (hs:PySem.W.findIn K (.ref C) "__setattr__" =some (some (.builtin "object.__setattr__"))) (hp:PySem.W.plainOver K C=true) (ht:PySem.W.takerIn K C name=some none) (hh:PySem.W.hasDictIn K C=true)
  (hw:PySem.Within mA ns) (hsz:ns.length≤sizeLine)
  (h:∀h',Zbx h' x dx C (fun y=>if y=name then some v else mA y)→Heap.SameBut dx s.heap h'→Q () {s with heap:=h',toks:=s.toks+2}):
  wpAny (model prog w) A (setAttr (.ref x) name v) Q E s:=by
 obtain⟨od,J,hl⟩:=I.look
 refine PySem.W.set_plain X J hs (PySem.W.osa_open (s:={s with toks:=s.toks+1}) (r:=none) X J hp ht fun b=>?_)
 obtain⟨cd,hc,hd'⟩:=PySem.W.any_some hh
 have hx:s.heap.get? x=some ⟨.ref C,some dx,.plain,#[]⟩:=I.obj
 refine wpAny_bind (wpAny_pure (wpAny_bind (wpAny_bind (wpAny_loadPart hx (wpAny_bind (PySem.W.Looks.here (s:={s with toks:=s.toks+1}) (PySem.W.looks_clsIn X hc) ?_))))))
 rw[hd']
 refine wpAny_pure (a:=some dx) (wpAny_bind (wpAny_pure (wpAny_bind ?_)))
 refine wpAny_nsSet1 (s:={s with toks:=s.toks+1}) I.ns fun h' hn2 hs2=>?_
 obtain⟨oD,esD,epD,hoD,hdD,hcD⟩:=hn2.count (PySem.Within.cons name v hw)
 refine wpAny_bind (wpAny_lookBehind hoD (by rw[hdD];exact pastItsLine_dict (Nat.le_trans hcD (by rw[List.length_cons];omega))) ?_)
 exact wpAny_pure (h _ ⟨(hs2.2 _ (Ne.symm I.ne)).trans I.obj,hn2,I.ne⟩ hs2)
theorem Zgk {R:Result→Shared→Prop} {vs:List Value} {kw:List (Str×Value)} (X:K.In s.heap) (hm:PySem.W.makesIn K C=true)
  (hi:PySem.W.findIn K (.ref C) "__init__" =some (some (.ref f))) (hf:PySem.W.typeIn K (.ref f)=some (.type "function"))
  (h:codeAny (model prog w) (A.under (.builtin "type.__call__" ⟨.ref C::vs,kw⟩)) (.call (.ref f) ⟨.ref (s.heap.objs.size+1)::vs,kw⟩) (PySem.W.InitBack (s.heap.objs.size+1) R)
   {s with heap:=(s.heap.push PySem.W.emptyDict).push (PySem.W.instObj C s.heap.objs.size)}):
  codeAny (model prog w) A (.call (.ref C) ⟨vs,kw⟩) R s:=by
 obtain⟨hh,g,d,t,os⟩:=s
 exact PySem.W.make_core (PySem.W.makes_of X hm) (PySem.W.looks_findIn X hi) (fun self=>PySem.W.bind_fn X self hf) (.inl rfl) h
end
def YC (f:Str) (v:V):List (Str×V)→List (Str×V)
 | []=>[(f,v)]
 |(g,x)::r=>if g=f then(g,v)::r else(g,x)::YC f v r
theorem Zbb (f g:Str) (v:V):∀fs:List (Str×V),(YC f v fs).lookup g=if g=f then some v else fs.lookup g
 | []=>by
  show List.lookup g [(f,v)]=_
  by_cases h:g=f
  ·have hb:(g==f)=true:=beq_iff_eq.mpr h
   simp only[List.lookup,hb,if_pos h]
  ·have hb:(g==f)=false:=beq_eq_false_iff_ne.mpr h
   simp only[List.lookup,hb,if_neg h]
 |(k,x)::r=>by
  have ih:=Zbb f g v r
  rw[show YC f v ((k,x)::r)=(if k=f then(k,v)::r else(k,x)::YC f v r) from rfl]
  by_cases hk:k=f
  ·rw[if_pos hk]
   by_cases h:g=k
   ·have hb:(g==k)=true:=beq_iff_eq.mpr h
    simp only[List.lookup,hb,if_pos (h.trans hk)]
   ·have hb:(g==k)=false:=beq_eq_false_iff_ne.mpr h
    simp only[List.lookup,hb,if_neg (fun e:g=f=>h (e.trans hk.symm))]
  ·rw[if_neg hk]
   by_cases h:g=k
   ·have hb:(g==k)=true:=beq_iff_eq.mpr h
    simp only[List.lookup,hb,if_neg (fun e:g=f=>hk (h.symm.trans e))]
   ·have hb:(g==k)=false:=beq_eq_false_iff_ne.mpr h
    simp only[List.lookup,hb]
    exact ih
theorem ZaJ (f:Str) (v:V):∀fs:List (Str×V),f∈(YC f v fs).map (·.1)∧∀g,g∈fs.map (·.1)→g∈(YC f v fs).map (·.1)
 | []=>⟨by simp[YC],fun g h=>by simp at h⟩
 |(k,x)::r=>by
  obtain⟨i1,i2⟩:=ZaJ f v r
  rw[show YC f v ((k,x)::r)=(if k=f then(k,v)::r else(k,x)::YC f v r) from rfl]
  by_cases hk:k=f
  ·rw[if_pos hk]
   subst hk
   exact⟨by simp,fun g h=>by simpa using h⟩
  ·rw[if_neg hk]
   refine⟨?_,fun g h=>?_⟩
   ·rw[List.map_cons]
    exact List.mem_cons_of_mem _ i1
   ·rw[List.map_cons] at h⊢
    rcases List.mem_cons.mp h with e|e
    ·exact List.mem_cons.mpr (.inl e)
    ·exact List.mem_cons_of_mem _ (i2 g e)
theorem Zbc (f:Str) (v:V):∀fs:List (Str×V),(YC f v fs).length≤fs.length+1
 | []=>by simp[YC]
 |(k,x)::r=>by
  have ih:=Zbc f v r
  rw[show YC f v ((k,x)::r)=(if k=f then(k,v)::r else(k,x)::YC f v r) from rfl]
  by_cases hk:k=f
  ·rw[if_pos hk,List.length_cons,List.length_cons];omega
  ·rw[if_neg hk,List.length_cons,List.length_cons];omega
theorem Vg.some_of {v:V} {o:Option Value} (r:Vg (some v) o):∃u,o=some u∧ZB v u:=by
 cases o with
 |none=>exact(show False from r).elim
 |some u=>exact⟨u,rfl,r⟩
theorem Vg.none_of {o:Option Value} (r:Vg none o):o=none:=by
 cases o with
 |none=>rfl
 |some u=>exact(show False from r).elim
theorem ZfE {v:V} {u:Value} (r:ZB v u):PySem.W.handedIn u=true:=by
 cases v with
 |non=>cases (show u=Value.none from r);rfl
 |bl b=>cases (show u=Value.bool b from r);rfl
 |int i=>obtain⟨t,e⟩:=(show ∃t,u=Value.int i t from r);cases e;rfl
 |str x=>obtain⟨t,e⟩:=(show ∃t,u=Value.str x t from r);cases e;rfl
 |byt b=>obtain⟨t,e⟩:=(show ∃t,u=Value.bytes b t from r);cases e;rfl
 |flt b=>obtain⟨t,e⟩:=(show ∃t,u=Value.float b t from r);cases e;rfl
 |ref a=>cases (show u=Value.ref a from r);rfl
 |ty n=>cases (show u=Value.type n from r);rfl
section
variable {P:Program} {w:World} {H H':Hp} {h h':Heap} {a C dx:Addr} {fs fs':List (Str×V)}
theorem Za0 (hok:HOk P w H h) (e:H a=some (.ins C dx fs)):∃mA,Zbx h a dx C mA∧(∀f,Vg (fs.lookup f) (mA f))∧PySem.Within mA (fs.map (·.1))∧fs.length≤1000∧H dx=some (.own a):=by
 obtain⟨d,z,ne,ob,mA,n,r,q⟩:=(show Z4 P w H h a (.ins C dx fs) from hok a _ e)
 exact⟨mA,⟨ob,n,ne⟩,r,q,z,d⟩
end
structure Cls (K:PySem.W.Frag) (C:Addr):Prop where
 pg:PySem.W.plainGet K C Str.empty=true
 hd:PySem.W.hasDictIn K C=true
 po:PySem.W.plainOver K C=true
 sa:PySem.W.findIn K (.ref C) "__setattr__" =some (some (.builtin "object.__setattr__"))
theorem Cls.get {K:PySem.W.Frag} {C:Addr} (c:Cls K C) (f:Str):PySem.W.plainGet K C f=true:=c.pg
def YU (K:PySem.W.Frag) (C:Addr) (f:Str):Prop:=PySem.W.findIn K (.ref C) f=some none
theorem YU.taker {K:PySem.W.Frag} {C:Addr} {f:Str} (n:YU K C f):PySem.W.takerIn K C f=some none:=by
 unfold PySem.W.takerIn
 rw[show PySem.W.findIn K (.ref C) f=some none from n]
 rfl
structure YE (K:PySem.W.Frag) (C:Addr) (m:Str) (f:Addr):Prop where
 at_:PySem.W.findIn K (.ref C) m=some (some (.ref f))
 fn:PySem.W.isFn K (.ref f)=true
 kp:PySem.W.keepIn K (.ref f)=true
section
variable {X:Cx} {pins:List (Addr×Obj)} {σ:St} {H:Hp} {s:Shared} {a C dx:Addr} {fs:List (Str×V)} {f:Str} {v:V} {A:Around} {E:Value→Shared→Prop}
theorem ZbG {b:Bool} {Q:Value→Shared→Prop} (I:Inv X pins σ H s) (e:H a=some (.ins C dx fs)) (c:Cls X.K C) (n:YU X.K C f) (l:fs.lookup f=some v)
  (h:∀u s',Inv X pins σ H s'→ZB v u→Q u s'):wpAny (model X.prog X.w) A (getAttr (.ref a) f b) Q E s:=by
 obtain⟨mA,O,r,_,_,_⟩:=Za0 I.hok e
 obtain⟨u,hu,ru⟩:=Vg.some_of (v:=v) (o:=mA f) (by rw[←l];exact r f)
 exact Zhz I.kIn O (c.get f) c.hd n hu (ZfE ru) (h u _ (I.tok _) ru)
theorem Ui {m:Str} {g:Addr} {pl:Sem Bool} {Q:Value×List Value→Shared→Prop} (I:Inv X pins σ H s) (e:H a=some (.ins C dx fs)) (c:Cls X.K C) (k:YE X.K C m g) (l:fs.lookup m=none)
  (h:Q (.ref g,[.ref a]) s):wpAny (model X.prog X.w) A (getMethod (.ref a) m pl) Q E s:=by
 obtain⟨mA,O,r,_,_,_⟩:=Za0 I.hok e
 have hn:mA m=none:=Vg.none_of (by rw[←l];exact r m)
 exact Zgq I.kIn O (c.get m) k.at_ k.fn hn h
theorem ZbR {y:V} {u:Value} {Q:Unit→Shared→Prop} (I:Inv X pins σ H s) (e:H a=some (.ins C dx fs)) (c:Cls X.K C) (n:YU X.K C f) (hl:fs.length<1000) (ry:ZB y u)
  (h:∀s',Inv X pins σ (upd H a (.ins C dx (YC f y fs))) s'→Q () s'):wpAny (model X.prog X.w) A (setAttr (.ref a) f u) Q E s:=by
 obtain⟨mA,O,r,wi,_,ho⟩:=Za0 I.hok e
 have hz:(fs.map (·.1)).length≤sizeLine:=by rw[List.length_map,sizeLine_eq];omega
 refine ZhJ I.kIn O c.sa c.po n.taker c.hd wi hz fun h' O' sb=>h _ ?_
 have hd:∃o,h'.get? dx=some o:=let⟨o,_,_,e',_⟩:=O'.ns;⟨o,e'⟩
 refine I.write (x:=a) (e:=dx) (by rw[e];exact True.intro) (.inr ho) (fun b q hb z=>(sb.2 b hb).trans z) hd ?_
 refine⟨by rw[Zi O.ne];exact ho,?_,O.ne,O'.obj,_,O'.ns,fun g=>?_,fun g hg=>?_⟩
 ·have:=Zbc f y fs;omega
 ·show Vg ((YC f y fs).lookup g) (if g=f then some u else mA g)
  rw[Zbb]
  by_cases q:g=f
  ·rw[if_pos q,if_pos q];exact ry
  ·rw[if_neg q,if_neg q];exact r g
 ·by_cases q:g=f
  ·rw[q];exact(ZaJ f y fs).1
  ·refine(ZaJ f y fs).2 g (wi g fun z=>hg ?_)
   show(if g=f then some u else mA g)=none
   rw[if_neg q];exact z
theorem Inv.made (I:Inv X pins σ H s):Inv X pins σ (upd (upd H s.heap.objs.size (.own (s.heap.objs.size+1))) (s.heap.objs.size+1) (.ins C s.heap.objs.size []))
  {s with heap:=(s.heap.push PySem.W.emptyDict).push (PySem.W.instObj C s.heap.objs.size)}:=by
 have e1:(s.heap.push PySem.W.emptyDict).get? s.heap.objs.size=some PySem.W.emptyDict:=Heap.get?_push_size s.heap rfl
 have e2:((s.heap.push PySem.W.emptyDict).push (PySem.W.instObj C s.heap.objs.size)).get? (s.heap.objs.size+1)=some (PySem.W.instObj C s.heap.objs.size):=by
  have:=Heap.get?_push_size (s.heap.push PySem.W.emptyDict) (o:=PySem.W.instObj C s.heap.objs.size) rfl
  rwa [Heap.size_push] at this
 have e3:(s.heap.push PySem.W.emptyDict).Ns s.heap.objs.size (fun _=>none):=⟨PySem.W.emptyDict,#[],_,e1,rfl,(fun e he=>absurd he (by simp)),fun _=>rfl⟩
 have I1:=I.laid (a:=s.heap.objs.size) (o:= .own (s.heap.objs.size+1)) (h':=s.heap.push PySem.W.emptyDict) (t':=s.toks) (fun b u q=>Heap.get?_push_of_some _ q) (Nat.le_refl _) ⟨_,e1⟩
 refine I1.laid (a:=s.heap.objs.size+1) (o:= .ins C s.heap.objs.size []) (t':=s.toks) (fun b u q=>Heap.get?_push_of_some _ q) (Nat.le_of_eq (Heap.size_push _ _)) ?_
 have ne:s.heap.objs.size≠s.heap.objs.size+1:=Nat.ne_of_lt (Nat.lt_succ_self _)
 refine⟨by rw[Zi ne,Zg],Nat.zero_le _,ne,e2,fun _=>none,(Heap.Ns1.of_empty e3).at fun o q=>Heap.get?_push_of_some _ q,fun _=>True.intro,fun y hy=>absurd rfl hy⟩
theorem Zhv {prog:Program} {w:World} {env:Env} {e:Expr} {f:Str} {pos:Pos} {s:Shared} {Q:Value→Shared→Prop} (hb:attributeBase e f env (eval e env)=eval e env)
  (h:wpAny (model prog w) A (eval e env) (fun o s₁=>wpAny (model prog w) A (getAttr o f true) Q E s₁) E s):wpAny (model prog w) A (eval (.Attribute e f pos) env) Q E s:=
 Attribute_any_ h (by rw[arm_eval_Attribute,hb])
end
def ZgL (K:PySem.W.Frag) (ta:TE) (f:Str):TE:=fun σ H Q=>ta σ H fun x H1=>∃a C dx fs v,x= .ref a∧H1 a=some (.ins C dx fs)∧Cls K C∧YU K C f∧fs.lookup f=some v∧Q v H1
def ZgQ (K:PySem.W.Frag) (ta tv:TE) (f:Str):TS:=fun D σ H=>tv σ H fun y H1=>ta σ H1 fun x H2=>∃a C dx fs,x= .ref a∧H2 a=some (.ins C dx fs)∧Cls K C∧YU K C f∧fs.length<1000∧
 D.nx σ (upd H2 a (.ins C dx (YC f y fs)))
def Zgr (X:Cx) (op:Operator) (rd:V→V→Hp→VK→Prop):Prop:=
 ∀(pins:List (Addr×Obj)) (s:Shared) (σ:St) (H:Hp) (x y:V) (u v:Value) (Q:VK),Inv X pins σ H s→ZB x u→ZB y v→rd x y H Q→wpAny (model X.prog X.w) X.A (inplaceOp op u v) (EP X pins σ Q) X.xe s
def Zb7 (K:PySem.W.Frag) (ta tv:TE) (rd:V→V→Hp→VK→Prop) (f:Str):TS:=fun D σ H=>ta σ H fun x H1=>∃a C dx fs v,x= .ref a∧H1 a=some (.ins C dx fs)∧Cls K C∧YU K C f∧fs.lookup f=some v∧
 tv σ H1 fun y H2=>rd v y H2 fun z H3=>∃dx' fs',H3 a=some (.ins C dx' fs')∧fs'.length<1000∧D.nx σ (upd H3 a (.ins C dx' (YC f z fs')))
section
variable {X:Cx} {o e value:Expr} {f:Str} {pos pos' tpos:Pos} {ta tv:TE}
theorem Zil (he:PE X e ta) (hb:attributeBase e f X.env (eval e X.env)=eval e X.env):PE X (.Attribute e f pos) (ZgL X.K ta f):=by
 intro pins s σ H Q I h
 refine Zhv hb (thn (he pins s σ H _ I h) fun u s1 ⟨x,H1,I1,rx,a,C,dx,fs,v,ex,ea,c,n,l,q⟩=>?_)
 subst ex
 obtain rfl:u=Value.ref a:=rx
 exact ZbG I1 ea c n l fun u' s2 I2 ru=>⟨v,H1,I2,ru,q⟩
theorem ZhX (ha:PE X o ta) (hv:PE X value tv) (hs:swapsWith value (some (.Attribute o f pos')) pos.line X.env=pure false):PS X (.Assign [.Attribute o f pos'] value pos) (ZgQ X.K ta tv f):=by
 intro pins s σ H D I h
 refine plainObj_wpAny_Assign_Attribute (thn (hv pins s σ H _ I h) fun u s1 ⟨y,H1,I1,ry,q⟩=>thn (ha pins s1 σ H1 _ I1 q) fun ov s2 ⟨x,H2,I2,rx,a,C,dx,fs,ex,ea,c,n,l,q2⟩=>?_) hs
 subst ex
 obtain rfl:ov=Value.ref a:=rx
 exact ZbR I2 ea c n l ry fun s3 I3=>⟨σ,_,I3,q2⟩
theorem ZfA {op:Operator} {rd:V→V→Hp→VK→Prop} (ha:PE X o ta) (hv:PE X value tv) (hop:Zgr X op rd):PS X (.AugAssign (.Attribute o f tpos) op value pos) (Zb7 X.K ta tv rd f):=by
 intro pins s σ H D I h
 refine wpAny_AugAssign_AttributeAny (thn (ha pins s σ H _ I h) fun ov s1 ⟨x,H1,I1,rx,a,C,dx,fs,v,ex,ea,c,n,l,q⟩=>?_)
 subst ex
 obtain rfl:ov=Value.ref a:=rx
 refine ZbG I1 ea c n l fun u s2 I2 ru=>thn (hv pins s2 σ H1 _ I2 q) fun w3 s3 ⟨y,H2,I3,ry,q3⟩=>thn (hop pins s3 σ H2 v y u w3 _ I3 ru ry q3) fun w4 s4 ⟨z,H3,I4,rz,dx',fs',ea',l',q4⟩=>?_
 exact ZbR I4 ea' c n l' rz fun s5 I5=>⟨σ,_,I5,q4⟩
def rAdd:V→V→Hp→VK→Prop:=fun x y H Q=>∃i j,x= .int i∧y= .int j∧Q (.int (i+j)) H
theorem ZhL:Zgr X .Add rAdd:=by
 rintro pins s σ H x y u v Q I rx ry ⟨i,j,rfl,rfl,q⟩
 obtain⟨t,rfl⟩:=(show ∃t,u=Value.int i t from rx)
 obtain⟨t',rfl⟩:=(show ∃t',v=Value.int j t' from ry)
 exact PyProof.Rows.iadd_int ⟨.int (i+j),H,I.tok _,⟨_,rfl⟩,q⟩
theorem ZiZ {pl:Sem Bool} {m:Str} {apos:Pos} {args:List Expr} {pins:List (Addr×Obj)} {s:Shared} {σ:St} {H:Hp} {Q:Value→Shared→Prop} {te:TE} (he:PE X e te) (I:Inv X pins σ H s)
  (h:te σ H fun x H1=>∃a C dx fs g,x= .ref a∧H1 a=some (.ins C dx fs)∧Cls X.K C∧YE X.K C m g∧fs.lookup m=none∧
   ∀s1,Inv X pins σ H1 s1→wpAny (model X.prog X.w) X.A (callWith pos (.ref g) [.ref a] (backTo pos (starEach args X.env)) (backToKw pos (keywordEach [] X.env))) Q X.xe s1)
  (ht:eval (.Call (.Attribute e m apos) args [] pos) X.env=(do
   let ov←eval e X.env
   standAt apos.atName
   let(f,first)←holding [ov] (getMethod ov m pl)
   callWith pos f first (backTo pos (starEach args X.env)) (backToKw pos (keywordEach [] X.env)))):
  wpAny (model X.prog X.w) X.A (eval (.Call (.Attribute e m apos) args [] pos) X.env) Q X.xe s:=by
 refine PySem.W.methodCall_KW (pl:=pl) (thn (he pins s σ H _ I h) fun u s1 ⟨x,H1,I1,rx,a,C,dx,fs,g,ex,ea,c,k,l,q⟩=>?_) ht
 subst ex
 obtain rfl:u=Value.ref a:=rx
 exact Ui I1 ea c k l (q s1 I1)
end
section
variable {X:Cx} {pins:List (Addr×Obj)} {σ:St} {H:Hp} {s:Shared} {A:Around} {E:Value→Shared→Prop} {Q:Value→Shared→Prop} {c:Value} {b:Bool}
inductive Wj (K:PySem.W.Frag) (H:Hp):V→Value→Prop where
 |non:Wj K H .non (.type "NoneType")
 |bl (x:Bool):Wj K H (.bl x) (.type "bool")
 |int (i:Int):Wj K H (.int i) (.type "int")
 |str (x:Str):Wj K H (.str x) (.type "str")
 |flt (x:UInt64):Wj K H (.flt x) (.type "float")
 |lst {a:Addr} {xs:List V} (e:H a=some (.lst xs)):Wj K H (.ref a) (.type "list")
 |frz {a:Addr} {o:Obj} {xs:List V} (e:H a=some (.frz o (.lst xs))):Wj K H (.ref a) (.type "list")
 |tup {a:Addr} {xs:List V} (e:H a=some (.tup xs)):Wj K H (.ref a) (.type "tuple")
 |dK {a:Addr} {kvs:List (Key×V)} (e:H a=some (.dK kvs)):Wj K H (.ref a) (.type "dict")
 |dT {a:Addr} {kvs:List (List Key×V)} (e:H a=some (.dT kvs)):Wj K H (.ref a) (.type "dict")
 |ins {a C dx:Addr} {fs:List (Str×V)} (e:H a=some (.ins C dx fs)) (cl:Cls K C) (ha:PySem.W.findIn K (.ref C) "__class__" =some (some (.builtin "object.__class__")))
   (hn:PySem.W.specialIn K (.builtin "object.__class__") "__get__" =some (some (.builtin "getset_descriptor.__get__"))) (htk:PySem.W.takesIn K (.builtin "object.__class__")=some true)
   (hm:PySem.W.mroIn K C (.type "object")=some true):Wj K H (.ref a) (.ref C)
theorem ZfY {x:V} {u t:Value} (I:Inv X pins σ H s) (rx:ZB x u) (ty:Wj X.K H x t) (e:PySem.W.kitOne X.K t c=some b) (h:∀tk,Q (.bool b) {s with toks:=tk}):
  wpAny (model X.prog X.w) A (call (.builtin "isinstance") [u,c]) Q E s:=by
 cases ty with
 |non=>cases (show u=Value.none from rx);exact PySem.W.kia_one PySem.W.kitx_none I.kIn True.intro e (fun z=>nomatch z) h
 |bl y=>cases (show u=Value.bool y from rx);exact PySem.W.kia_one PySem.W.kitx_bool I.kIn True.intro e (fun z=>nomatch z) h
 |int i=>obtain⟨t,q⟩:=(show ∃t,u=Value.int i t from rx);cases q;exact PySem.W.kia_one PySem.W.kitx_int I.kIn True.intro e (fun z=>nomatch z) h
 |str y=>obtain⟨t,q⟩:=(show ∃t,u=Value.str y t from rx);cases q;exact PySem.W.kia_one PySem.W.kitx_str I.kIn True.intro e (fun z=>nomatch z) h
 |flt y=>obtain⟨t,q⟩:=(show ∃t,u=Value.float y t from rx);cases q;exact PySem.W.kia_one PySem.W.kitx_float I.kIn True.intro e (fun z=>nomatch z) h
 | @lst a xs ea=>
  cases (show u=Value.ref a from rx)
  obtain⟨_,_,n,_,h1⟩:=(show Z4 X.prog X.w H s.heap a (.lst xs) from I.hok a _ ea)
  exact PySem.W.kia_one PySem.W.kitx_list I.kIn ⟨_,h1,rfl⟩ e (fun z=>nomatch z) h
 | @frz a ob xs ea=>
  cases (show u=Value.ref a from rx)
  obtain⟨_,_,_,n,_,h1⟩:=(show Z4 X.prog X.w H s.heap a (.frz ob (.lst xs)) from I.hok a _ ea)
  exact PySem.W.kia_one PySem.W.kitx_list I.kIn ⟨_,h1,rfl⟩ e (fun z=>nomatch z) h
 | @tup a xs ea=>
  cases (show u=Value.ref a from rx)
  obtain⟨_,_,_,p⟩:=(show Z4 X.prog X.w H s.heap a (.tup xs) from I.hok a _ ea)
  obtain⟨o,h1,h2,_⟩:=p
  exact PySem.W.kia_one PySem.W.kitx_tuple I.kIn ⟨o,h1,h2⟩ e (fun z=>nomatch z) h
 | @dK a kvs ea=>
  cases (show u=Value.ref a from rx)
  obtain⟨_,_,vs,_,p⟩:=(show Z4 X.prog X.w H s.heap a (.dK kvs) from I.hok a _ ea)
  obtain⟨o,es,ep,h1,h2,_⟩:=p
  exact PySem.W.kia_one PySem.W.kitx_dict I.kIn ⟨o,h1,h2.1⟩ e (fun z=>nomatch z) h
 | @dT a kvs ea=>
  cases (show u=Value.ref a from rx)
  obtain⟨_,_,xs,_,o,es,ep,h1,h2,_⟩:=(show Z4 X.prog X.w H s.heap a (.dT kvs) from I.hok a _ ea)
  exact PySem.W.kia_one PySem.W.kitx_dict I.kIn ⟨o,h1,h2.1⟩ e (fun z=>nomatch z) h
 | @ins a C dx fs ea cl ha hn htk hm=>
  cases (show u=Value.ref a from rx)
  obtain⟨mA,O,_⟩:=Za0 I.hok ea
  obtain⟨od,J,_⟩:=O.look
  exact PySem.W.kia_one (PySem.W.kitx_own (cl.get _) cl.hd ha hn htk hm) I.kIn J e (fun z=>nomatch z) h
end
end L2
namespace L2
open PySem PySem.Spec PyProof.Rows
structure Yw (k:Nat) (A:Around):Prop where
 hd:A.handled=none
 dp:A.depth+3*k+5<recursionLimit
 un:A.units+16*k+200<cLine
theorem Yw.mono {j k:Nat} {A:Around} (r:Yw k A) (h:j≤k):Yw j A:=⟨r.hd,by have:=r.dp;omega,by have:=r.un;omega⟩
theorem Yw.deeper {k:Nat} {A:Around} (r:Yw (k+1) A) (env:Env):Yw k (A.deeper env):=
 ⟨r.hd,by have:=r.dp;show A.depth+1+3*k+5<_;omega,by have:=r.un;show A.units+3+16*k+200<_;omega⟩
theorem Ze7 {A:Around} {C:Addr} {us:List Value} {kw:List (Str×Value)}:(A.under (.builtin "type.__call__" ⟨.ref C::us,kw⟩)).depth=A.depth+1:=by
 first|rfl|simp[Around.under,Code.weight,Code.isCreation,Code.isGuard,Code.isCaller,Code.frames,Code.isFrame,guardIds]
theorem ZeT {A:Around} {C:Addr} {us:List Value} {kw:List (Str×Value)}:(A.under (.builtin "type.__call__" ⟨.ref C::us,kw⟩)).units=A.units+1:=by
 first|rfl|simp[Around.under,Code.cUnits,Code.frames,Code.isFrame]
theorem Yw.make {k:Nat} {A:Around} (r:Yw (k+1) A) (C:Addr) (us:List Value) (kw:List (Str×Value)):Yw k (A.under (.builtin "type.__call__" ⟨.ref C::us,kw⟩)):=
 ⟨r.hd,by have:=r.dp;rw[Ze7];omega,by have:=r.un;rw[ZeT];omega⟩
theorem Yw.depth {k:Nat} {A:Around} (r:Yw k A):A.depth<recursionLimit:=by have:=r.dp;omega
theorem Yw.units {k:Nat} {A:Around} (r:Yw k A):A.units+64<cLine:=by have:=r.un;omega
def tNil:TA:=fun _ H Q=>Q [] H
def Zg5 (ta:TE) (tr:TA):TA:=fun σ H Q=>ta σ H fun x H1=>tr σ H1 fun xs H2=>Q (x::xs) H2
section
variable {X:Cx} {e:Expr} {es:List Expr} {te:TE} {t:TA} {pos:Pos}
theorem Zb:PA X [] tNil:=fun _ _ _ _ H Q I h=>Calls.spliced_nil ⟨[],H,I,.nil,h⟩
theorem Za (ha:PE X e te) (hr:PA X es t) (hs:starEach (e::es) X.env=(false,eval e X.env)::starEach es X.env:=by rfl):PA X (e::es) (Zg5 te t):=by
 intro pos pins s σ H Q I h
 rw[hs]
 show wpAny _ _ (spliced ((false,eval e X.env)::backTo pos (starEach es X.env))) _ _ s
 refine Calls.spliced_cons (thn (ha pins s σ H _ I h) fun u s1 ⟨x,H1,I1,r1,q1⟩=>?_)
 exact thn (hr pos pins s1 σ H1 _ I1 q1) fun us s2 ⟨xs,H2,I2,r2,q2⟩=>⟨x::xs,H2,I2,.cons r1 r2,q2⟩
def Zia (t:TA):TE:=fun σ H Q=>t σ H fun xs H1=>xs.length≤sizeLine∧∀p,H1 p=none→Q (.ref p) (upd H1 p (.tup xs))
def ZiS (t:TA):TE:=fun σ H Q=>t σ H fun xs H1=>xs.length≤sizeLine∧∀p,H1 p=none→Q (.ref p) (upd H1 p (.lst xs))
theorem VY {x1} (h:PA X es t):PE X (.Tuple es x1 pos) (Zia t):=by
 intro pins s σ H Q I hq
 refine wpAny_Tuple_spliced (thn (h pos pins s σ H _ I hq) fun us s1 ⟨xs,H1,I1,r,z,q⟩=>⟨by rw[←r.length];exact z,?_⟩)
 have hf:H1 s1.heap.objs.size=none:=I1.hok.fresh (Nat.le_refl _)
 refine⟨.ref s1.heap.objs.size,upd H1 s1.heap.objs.size (.tup xs),I1.laid (t':=s1.toks) (fun b u e=>Heap.get?_push_of_some _ e) (Nat.le_refl _) ?_,rfl,q _ hf⟩
 exact⟨z,us,r,⟨_,Heap.get?_push_size _ rfl,rfl,_,rfl⟩⟩
theorem YY (h:PA X es t):PE X (.List es pos) (ZiS t):=by
 intro pins s σ H Q I hq
 refine wpAny_List_spliced (thn (h pos pins s σ H _ I hq) fun us s1 ⟨xs,H1,I1,r,z,q⟩=>⟨by rw[←r.length];exact z,?_⟩)
 have hf:H1 s1.heap.objs.size=none:=I1.hok.fresh (Nat.le_refl _)
 refine⟨.ref s1.heap.objs.size,upd H1 s1.heap.objs.size (.lst xs),I1.laid (t':=s1.toks) (fun b u e=>Heap.get?_push_of_some _ e) (Nat.le_refl _) ?_,rfl,q _ hf⟩
 exact⟨z,us,0,r,Heap.get?_push_size _ rfl⟩
end
abbrev Sp:=List V→Hp→VK→XK→Prop
abbrev CXT:=List Env→Hp→Shared→XK→Value→Shared→Prop
structure Zbu (P:Program) (w:World) (K:PySem.W.Frag) (mg:Str→Option Value) (base:Heap) (A:Around) (outer:List Env) (s:Shared) (H:Hp):Prop where
 frames:A.frames=some outer
 mod:Mod K mg base
 bs:∀b o,base.get? b=some o→s.heap.get? b=some o∧H b=none
 bsz:base.objs.size≤s.heap.objs.size
 funs:s.heap.FunFrames base outer
 frf:∀b∈frs outer,H b=none
 hok:HOk P w H s.heap
 bare:AllBare s.gens
def CE (outer:List Env) (P:Program) (w:World) (H:Hp) (s:Shared) (Q:VK) (u:Value) (s':Shared):Prop:=
 ∃v H',s'.os=s.os∧AllBare s'.gens∧Un (frs outer) [] H H' s.heap s'.heap∧HOk P w H' s'.heap∧ZB v u∧Q v H'
def CR (CX:CXT) (outer:List Env) (P:Program) (w:World) (H:Hp) (s:Shared) (Q:VK) (E:XK) (r:Result) (s':Shared):Prop:=
 match r with
 | .ok (.ret u)=>CE outer P w H s Q u s'
 | .ok _=>False
 | .error e=>CX outer H s E e s'
structure Zj (P:Program) (w:World) (K:PySem.W.Frag) (mg:Str→Option Value) (base:Heap) (CX:CXT) (k:Nat) (f:Addr) (fd:FuncData) (ps:List Str) (sp:Sp):Prop where
 len:∀vs H Q E,sp vs H Q E→vs.length=ps.length
 run:∀(A:Around) (outer:List Env) (s:Shared) (H:Hp) (args:Args) (us:List Value) (vs:List V) (Q:VK) (E:XK),Yw k A→Zbu P w K mg base A outer s H→BindsTo s fd args (ps.zip us)→Zw vs us→sp vs H Q E→
  codeAny (model P w) A (.call (.ref f) args) (CR CX outer P w H s Q E) s
theorem Zj.mono {P:Program} {w:World} {K:PySem.W.Frag} {mg:Str→Option Value} {base:Heap} {CX:CXT} {j k:Nat} {f:Addr} {fd:FuncData} {ps:List Str} {sp:Sp} (F:Zj P w K mg base CX j f fd ps sp) (h:j≤k):
  Zj P w K mg base CX k f fd ps sp:=⟨F.len,fun A outer s H args us vs Q E hr=>F.run A outer s H args us vs Q E (hr.mono h)⟩
theorem Zbu.make {P:Program} {w:World} {K:PySem.W.Frag} {mg:Str→Option Value} {base:Heap} {A:Around} {outer:List Env} {s:Shared} {H:Hp} (e:Zbu P w K mg base A outer s H) (C:Addr) (us:List Value) (kw:List (Str×Value)):
  Zbu P w K mg base (A.under (.builtin "type.__call__" ⟨.ref C::us,kw⟩)) outer s H:=⟨by first|exact e.frames|(simpa[Around.under,Code.envs,Code.isFrame,pushEnvs] using e.frames),e.mod,e.bs,e.bsz,e.funs,e.frf,e.hok,e.bare⟩
section
variable {X:Cx} {pins:List (Addr×Obj)} {σ:St} {H:Hp} {s s':Shared}
theorem Inv.env0 (I:Inv X pins σ H s):Zbu X.prog X.w X.K X.mg X.base X.A X.stack s H:=
 ⟨I.ok.frames,I.ok.mod,I.bs,Nat.le_trans I.ok.bsz I.sz,I.stack,I.stkFree,I.hok,I.bare⟩
theorem Inv.after {Q:VK} {u:Value} (I:Inv X pins σ H s) (h:CE X.stack X.prog X.w H s Q u s'):EP X pins σ Q u s':=by
 obtain⟨v,H',os,bare,un,hok,r,q⟩:=h
 obtain⟨hh,g,d,t,os'⟩:=s'
 obtain rfl:os'=s.os:=os
 exact⟨v,H',I.call (h':=hh) (g':=g) (d':=d) (t':=t) (ch:=[]) un hok bare (fun b z=>absurd z (by simp)),r,q⟩
end
def Zhi (sp:Sp) (dvs:List V) (E:XK) (t:TA):TE:=fun σ H Q=>t σ H fun vs H1=>sp (vs++dvs) H1 Q E
def Zfs (C:Addr) (m:Str) (sp:Sp) (dvs:List V) (E:XK) (ta:TE) (t:TA):TE:=fun σ H Q=>ta σ H fun x H1=>∃a dx fs,x= .ref a∧H1 a=some (.ins C dx fs)∧fs.lookup m=none∧
 t σ H1 fun vs H2=>sp (x::(vs++dvs)) H2 Q E
def Ze0 (C:Addr) (sp:Sp) (dvs:List V) (E:XK) (t:TA):TE:=fun σ H Q=>t σ H fun vs H1=>∀x dx,H1 x=none→H1 dx=none→dx≠x→
 sp (.ref x::(vs++dvs)) (upd (upd H1 dx (.own x)) x (.ins C dx [])) (fun v H2=>v= .non∧Q (.ref x) H2) E
def Zv (K:PySem.W.Frag) (fd:FuncData) (ps:List Str) (ds:List Value):Prop:=
 ∀(s:Shared) (us:List Value),K.In s.heap→(us++ds).length=ps.length→BindsTo s fd ⟨us,[]⟩ (ps.zip (us++ds))
theorem Zv.all {K:PySem.W.Frag} {fd:FuncData} {ps:List Str} (h:∀us:List Value,us.length=ps.length→bindArgs fd ⟨us,[]⟩=pure (ps.zip us)):Zv K fd ps []:=fun s us _ hl=>by
 rw[List.append_nil] at hl⊢
 exact .of_eq (h us hl)
def Vm (CX:CXT) (X:Cx) (E:XK):Prop:=∀(pins:List (Addr×Obj)) (σ:St) (H:Hp) (s:Shared) (e:Value) (s':Shared),Inv X pins σ H s→CX X.stack H s E e s'→X.xe e s'
section
variable {X:Cx} {CX:CXT} {k:Nat} {f C:Addr} {fd:FuncData} {ps:List Str} {sp:Sp} {dvs:List V} {ds:List Value} {E:XK} {x m:Str} {p pos apos:Pos} {e o:Expr} {es:List Expr} {ta:TE} {t:TA}
theorem Zdh {pins:List (Addr×Obj)} {σ:St} {H:Hp} {s:Shared} {Q:VK} {us:List Value} {vs:List V} (F:Zj X.prog X.w X.K X.mg X.base CX k f fd ps sp) (hr:Yw k X.A) (hb:Zv X.K fd ps ds) (hd:Zw dvs ds) (hx:Vm CX X E)
  (I:Inv X pins σ H s) (r:Zw vs us) (h:sp (vs++dvs) H Q E):wpAny (model X.prog X.w) X.A (call (.ref f) us) (EP X pins σ Q) X.xe s:=by
 have r2:Zw (vs++dvs) (us++ds):=r.append hd
 have hl:(us++ds).length=ps.length:=by rw[←r2.length];exact F.len _ _ _ _ h
 refine wpAny_call (codeAny_mono (F.run X.A X.stack s H ⟨us,[]⟩ (us++ds) (vs++dvs) Q E hr I.env0 (hb s us I.kIn hl) r2 h) fun r s' hq=>?_)
 cases r with
 |error e=>exact hx pins σ H s e s' I hq
 |ok fl=>
  cases fl with
  |ret u=>exact I.after hq
  |next=>exact False.elim hq
  |brk=>exact False.elim hq
  |cont=>exact False.elim hq
theorem Zz (F:Zj X.prog X.w X.K X.mg X.base CX k f fd ps sp) (hr:Yw k X.A) (hg:Gl X x) (hm:X.mg x=some (.ref f)) (hk:PySem.W.keepIn X.K (.ref f)=true) (hb:Zv X.K fd ps ds) (hd:Zw dvs ds) (hx:Vm CX X E)
  (ha:PA X (e::es) t) (hdb:(x==("__debug__" :Str))=false:=by decide) (he:starEach (e::es) X.env=(false,eval e X.env)::starEach es X.env:=by rfl) (hpl:(backTo pos (starEach es X.env)).any (·.1)=false:=by rfl):
  PE X (.Call (.Name x p) (e::es) [] pos) (Zhi sp dvs E t):=by
 intro pins s σ H Q I h
 refine wpAny_Call_Name_kw (VJ I hg hm ?_ hdb)
 refine PySem.W.callWith_K (h₀:=X.base) I.ok.mod.kin hk (thn (ha pos pins s σ H _ I h) fun us s1 ⟨vs,H1,I1,r,q⟩=>⟨I1.kIn,?_⟩) he hpl
 exact Zdh F hr hb hd hx I1 r q
theorem Z8 {pl:Sem Bool} (he:PE X o ta) (c:Cls X.K C) (hm:YE X.K C m f) (F:Zj X.prog X.w X.K X.mg X.base CX k f fd ps sp) (hr:Yw k X.A) (hb:Zv X.K fd ps ds) (hd:Zw dvs ds) (hx:Vm CX X E) (ha:PA X (e::es) t)
  (hst:starEach (e::es) X.env=(false,eval e X.env)::starEach es X.env:=by rfl) (hpl:(backTo pos (starEach es X.env)).any (·.1)=false:=by rfl)
  (ht:eval (.Call (.Attribute o m apos) (e::es) [] pos) X.env=(do
   let ov←eval o X.env
   standAt apos.atName
   let(f,first)←holding [ov] (getMethod ov m pl)
   callWith pos f first (backTo pos (starEach (e::es) X.env)) (backToKw pos (keywordEach [] X.env))):=by rfl):
  PE X (.Call (.Attribute o m apos) (e::es) [] pos) (Zfs C m sp dvs E ta t):=by
 intro pins s σ H Q I h
 refine PySem.W.methodCall_KW (pl:=pl) (thn (he pins s σ H _ I h) fun u s1 ⟨x,H1,I1,rx,a,dx,fs,ex,ea,l,q⟩=>?_) ht
 subst ex
 obtain rfl:u=Value.ref a:=rx
 refine Ui I1 ea c hm l ?_
 refine PySem.W.callWith_K (first:=[.ref a]) (h₀:=X.base) I.ok.mod.kin hm.kp (thn (ha pos pins s1 σ H1 _ I1 q) fun us s2 ⟨vs,H2,I2,r,q2⟩=>⟨I2.kIn,?_⟩) hst hpl
 exact Zdh (us:= .ref a::us) (vs:= .ref a::vs) F hr hb hd hx I2 (.cons rfl r) q2
theorem Wa {pl:Sem Bool} (he:PE X o ta) (c:Cls X.K C) (hm:YE X.K C m f) (F:Zj X.prog X.w X.K X.mg X.base CX k f fd ps sp) (hr:Yw k X.A) (hb:Zv X.K fd ps ds) (hd:Zw dvs ds) (hx:Vm CX X E)
  (ht:eval (.Call (.Attribute o m apos) [] [] pos) X.env=(do
   let ov←eval o X.env
   standAt apos.atName
   let(f,first)←holding [ov] (getMethod ov m pl)
   callWith pos f first (backTo pos (starEach [] X.env)) (backToKw pos (keywordEach [] X.env))):=by rfl):
  PE X (.Call (.Attribute o m apos) [] [] pos) (Zfs C m sp dvs E ta tNil):=by
 intro pins s σ H Q I h
 refine PySem.W.methodCall_KW (pl:=pl) (thn (he pins s σ H _ I h) fun u s1 ⟨x,H1,I1,rx,a,dx,fs,ex,ea,l,q⟩=>?_) ht
 subst ex
 obtain rfl:u=Value.ref a:=rx
 refine Ui I1 ea c hm l ?_
 exact PySem.W.callWith_K0 (first:=[.ref a]) I1.kIn hm.kp (Zdh (us:=[.ref a]) (vs:=[.ref a]) F hr hb hd hx I1 (.cons rfl .nil) q)
structure Mk (K:PySem.W.Frag) (C f:Addr):Prop where
 makes:PySem.W.makesIn K C=true
 init:PySem.W.findIn K (.ref C) "__init__" =some (some (.ref f))
 fn:PySem.W.isFn K (.ref f)=true
 kp:PySem.W.keepIn K (.ref C)=true
theorem ZdM {pins:List (Addr×Obj)} {σ:St} {H:Hp} {s:Shared} {Q:VK} {us:List Value} {vs:List V} (M:Mk X.K C f) (F:Zj X.prog X.w X.K X.mg X.base CX k f fd ps sp) (hr:Yw (k+1) X.A) (hb:Zv X.K fd ps ds) (hd:Zw dvs ds)
  (hx:Vm CX X E) (I:Inv X pins σ H s) (r:Zw vs us)
  (h:∀x dx,H x=none→H dx=none→dx≠x→sp (.ref x::(vs++dvs)) (upd (upd H dx (.own x)) x (.ins C dx [])) (fun v H2=>v= .non∧Q (.ref x) H2) E):
  wpAny (model X.prog X.w) X.A (call (.ref C) us) (EP X pins σ Q) X.xe s:=by
 have hq:=h (s.heap.objs.size+1) s.heap.objs.size (I.hok.fresh (Nat.le_succ _)) (I.hok.fresh (Nat.le_refl _)) (Nat.ne_of_lt (Nat.lt_succ_self _))
 have I2:=Inv.made (C:=C) I
 have r2:Zw (V.ref (s.heap.objs.size+1)::(vs++dvs)) (Value.ref (s.heap.objs.size+1)::(us++ds)):= .cons rfl (r.append hd)
 have hl:(Value.ref (s.heap.objs.size+1)::us++ds).length=ps.length:=by
  have e:=r2.length
  rw[F.len _ _ _ _ hq] at e
  exact e.symm
 refine wpAny_call (Zgk (f:=f) I.kIn M.makes M.init (beq_iff_eq.mp M.fn) (codeAny_mono (F.run _ X.stack _ _ ⟨Value.ref (s.heap.objs.size+1)::us,[]⟩ (Value.ref (s.heap.objs.size+1)::(us++ds)) _ _ E (hr.make C us [])
  (I2.env0.make C us []) (hb _ (Value.ref (s.heap.objs.size+1)::us) I2.kIn hl) r2 hq) fun r s' hq'=>?_))
 cases r with
 |error e=>exact hx pins σ _ _ e s' I2 hq'
 |ok fl=>
  cases fl with
  |ret u=>
   obtain⟨v,H',I3,rv,ev,q3⟩:=I2.after hq'
   subst ev
   exact⟨rv,⟨V.ref (s.heap.objs.size+1),H',I3,rfl,q3⟩⟩
  |next=>exact False.elim hq'
  |brk=>exact False.elim hq'
  |cont=>exact False.elim hq'
theorem Zcb (M:Mk X.K C f) (F:Zj X.prog X.w X.K X.mg X.base CX k f fd ps sp) (hr:Yw (k+1) X.A) (hg:Gl X x) (hm:X.mg x=some (.ref C)) (hb:Zv X.K fd ps ds) (hd:Zw dvs ds) (hx:Vm CX X E)
  (ha:PA X (e::es) t) (hdb:(x==("__debug__" :Str))=false:=by decide) (he:starEach (e::es) X.env=(false,eval e X.env)::starEach es X.env:=by rfl) (hpl:(backTo pos (starEach es X.env)).any (·.1)=false:=by rfl):
  PE X (.Call (.Name x p) (e::es) [] pos) (Ze0 C sp dvs E t):=by
 intro pins s σ H Q I h
 refine wpAny_Call_Name_kw (VJ I hg hm ?_ hdb)
 refine PySem.W.callWith_K (h₀:=X.base) I.ok.mod.kin M.kp (thn (ha pos pins s σ H _ I h) fun us s1 ⟨vs,H1,I1,r,q⟩=>⟨I1.kIn,?_⟩) he hpl
 exact ZdM M F hr hb hd hx I1 r q
theorem Zgz (M:Mk X.K C f) (F:Zj X.prog X.w X.K X.mg X.base CX k f fd ps sp) (hr:Yw (k+1) X.A) (hg:Gl X x) (hm:X.mg x=some (.ref C)) (hb:Zv X.K fd ps ds) (hd:Zw dvs ds) (hx:Vm CX X E)
  (hdb:(x==("__debug__" :Str))=false:=by decide):PE X (.Call (.Name x p) [] [] pos) (Ze0 C sp dvs E tNil):=by
 intro pins s σ H Q I h
 refine wpAny_Call_Name_kw (VJ I hg hm ?_ hdb)
 exact PySem.W.callWith_K0 I.kIn M.kp (ZdM (us:=[]) M F hr hb hd hx I .nil h)
end
section
variable {X:Cx} {CX:CXT} {k:Nat} {f C:Addr} {fd:FuncData} {ps ks:List Str} {sp:Sp} {E:XK} {x m:Str} {p pos apos kpos:Pos} {e o:Expr} {es:List Expr} {kws:List Keyword} {te ta:TE} {t tk:TA} {nm:Option Str}
variable {g:List Value→List Value→List Value} {gV:List V→List V→List V}
end
structure Zr (N P:List Str) (sc:Scope):Prop where
 kind:sc.kind= .function
 co:sc.isCoroutine=false
 gen:sc.isGenerator=false
 nd:N.Nodup
 pre:N.take P.length=P
 par:∀x∈P,sc.names.lookup x=some .local∨sc.names.lookup x=some .cell
 nofree:∀y∈sc.names,y.2≠ .free
theorem ZcL {kindOf:Str→Option NameKind} {x:Str}:∀{binds:List (Str×Value)} {m:Str→Option Value},(∀v,(x,v)∉binds)→bindL kindOf binds m x=m x
 | [],_,_=>rfl
 |(n,v)::r,m,h=>by
  unfold bindL
  rw[ZcL fun w hw=>h w (List.mem_cons_of_mem _ hw)]
  split
  ·have:x≠n:=by rintro rfl;exact h v List.mem_cons_self
   simp[this]
  ·rfl
theorem ZcC {kindOf:Str→Option NameKind} {x:Str}:∀{binds:List (Str×Value)} {m:Str→Option Value},(∀v,(x,v)∉binds)→bindC kindOf binds m x=m x
 | [],_,_=>rfl
 |(n,v)::r,m,h=>by
  unfold bindC
  rw[ZcC fun w hw=>h w (List.mem_cons_of_mem _ hw)]
  split
  ·rfl
  ·have:x≠n:=by rintro rfl;exact h v List.mem_cons_self
   simp[this]
theorem ZcD {kindOf:Str→Option NameKind} {x:Str} {v:Value}:∀{P:List Str} {vs:List Value} {i:Nat} {m:Str→Option Value},P.Nodup→P[i]? =some x→vs[i]? =some v→kindOf x=some .local→
  bindL kindOf (P.zip vs) m x=some v
 | [],_,_,_,_,h,_,_=>by simp at h
 |_::_,[],_,_,_,_,h,_=>by simp at h
 |p::P,w::vs,0,m,nd,h1,h2,hk=>by
  simp at h1 h2;subst h1;subst h2
  show bindL kindOf ((p,w)::P.zip vs) m p=_
  unfold bindL
  rw[ZcL fun v hv=>(List.nodup_cons.mp nd).1 (List.of_mem_zip hv).1,if_pos hk]
  simp
 |p::P,w::vs,i+1,m,nd,h1,h2,hk=>by
  show bindL kindOf ((p,w)::P.zip vs) m x=_
  unfold bindL
  exact ZcD (i:=i) (List.nodup_cons.mp nd).2 (by simpa using h1) (by simpa using h2) hk
theorem ZcE {kindOf:Str→Option NameKind} {x:Str} {v:Value}:∀{P:List Str} {vs:List Value} {i:Nat} {m:Str→Option Value},P.Nodup→P[i]? =some x→vs[i]? =some v→kindOf x≠some .local→
  bindC kindOf (P.zip vs) m x=some v
 | [],_,_,_,_,h,_,_=>by simp at h
 |_::_,[],_,_,_,_,h,_=>by simp at h
 |p::P,w::vs,0,m,nd,h1,h2,hk=>by
  simp at h1 h2;subst h1;subst h2
  show bindC kindOf ((p,w)::P.zip vs) m p=_
  unfold bindC
  rw[ZcC fun v hv=>(List.nodup_cons.mp nd).1 (List.of_mem_zip hv).1,if_neg hk]
  simp
 |p::P,w::vs,i+1,m,nd,h1,h2,hk=>by
  show bindC kindOf ((p,w)::P.zip vs) m x=_
  unfold bindC
  exact ZcE (i:=i) (List.nodup_cons.mp nd).2 (by simpa using h1) (by simpa using h2) hk
def start (N:List Str) (vs:List V):St:=vs.map some++List.replicate (N.length-vs.length) none
def ZL (CX:CXT) (P:Program) (w:World) (K:PySem.W.Frag) (mg:Str→Option Value) (base:Heap) (N:List Str) (qual:Str) (scope:Scope) (f:Addr) (cd:Value) (A:Around) (outer:List Env) (s:Shared) (H:Hp) (E:XK):Cx where
 prog:=P
 w:=w
 K:=K
 mg:=mg
 base:=base
 A:=A.deeper (envOfC qual scope s.heap.objs.size f cd)
 N:=N
 s₀:=s
 H₀:=H
 env:=envOfC qual scope s.heap.objs.size f cd
 outer:=outer
 stack:=envOfC qual scope s.heap.objs.size f cd::outer
 ex:=[]
 calm:=true
 fn:=fun _=>true
 pn:=[]
 xe:=fun e s'=>wpAny (model P w) (A.deeper (envOfC qual scope s.heap.objs.size f cd)) (leaving (envOfC qual scope s.heap.objs.size f cd) e) (fun _ s''=>CX outer H s E e s'') (fun e' s''=>CX outer H s E e' s'') s'
theorem ZdC {sc:Scope} {n:Nat} {x:Str} (h:sc.names.lookup x=some .cell):∃c,(cellsFrom n sc.names []).lookup x=some c:=by
 have q:=PySem.W.cellsFrom_some sc.names n [] (.inl h)
 exact Option.isSome_iff_exists.mp q
theorem Zf2 {CX:CXT} {P:Program} {w:World} {K:PySem.W.Frag} {mg:Str→Option Value} {base:Heap} {N ps:List Str} {qual:Str} {scope:Scope} {f:Addr} {cd:Value} {A:Around} {outer:List Env} {s s1:Shared} {H:Hp} {E:XK} {us:List Value} {vs:List V}
  (S:Zr N ps scope) (hd:A.handled=none) (e0:Zbu P w K mg base A outer s H) (hl:vs.length=ps.length) (r:Zw vs us)
  (x:InCallC s s.heap.objs.size (bindL (envOfC qual scope s.heap.objs.size f cd).kindOf (ps.zip us) fun _=>none) (cellsFrom (s.heap.objs.size+1) scope.names []) (bindC (envOfC qual scope s.heap.objs.size f cd).kindOf (ps.zip us) fun _=>none) s1):
  Inv (ZL CX P w K mg base N qual scope f cd A outer s H E) [] (start N vs) H s1:=by
 have hpl:ps.length≤N.length:=by have:=congrArg List.length S.pre;rw[List.length_take] at this;omega
 obtain⟨h1,tk,rfl,hk⟩:=x.done
 have noA:∀b:Addr,b∉(ZL CX P w K mg base N qual scope f cd A outer s H E).ex:=fun b z=>absurd (show b∈([]:List Addr) from z) (by simp)
 refine⟨⟨e0.mod,S.kind,rfl,rfl,Nat.le_refl _,fun y z c h1 h2=>?_,fun y hy=>?_,fun y c _ h=>?_,fun _=>hd,Around.frames_deeper e0.frames,.inr ⟨rfl,rfl⟩,fun b z=>absurd z (noA b),e0.bs,e0.bsz,fun b _ _=>noA b,fun b z=>absurd z (noA b),e0.funs,e0.frf⟩,
  rfl,e0.bare,Un.kept hk,⟨_,x.toInCall.ns,fun i y v h1 h2 h3=>?_⟩,fun y c h=>⟨_,x.cell y c h⟩,e0.hok.fresh (Nat.le_refl _),fun y c h=>?_,fun p hp=>absurd (show p∈([]:List (Addr×Obj)) from hp) (by simp),e0.hok.kept hk,?_⟩
 ·exact name_of_addr x.apart (PySem.mem_of_lookup h1) (PySem.mem_of_lookup h2)
 ·have hy:scope.names.lookup y=some .cell∨scope.names.lookup y=some .free:=hy
  rcases hy with hy|hy
  ·exact ZdC hy
  ·exact absurd rfl (S.nofree _ (PySem.mem_of_lookup hy))
 ·exact Nat.le_of_lt (x.above y c (PySem.mem_of_lookup h))
 ·have hi:i<vs.length:=by
   unfold start at h2
   by_cases hi:i<vs.length
   ·exact hi
   ·rw[List.getElem?_append_right (by simpa using hi)] at h2
    rw[List.getElem?_replicate] at h2
    split at h2<;>cases h2
  have ha:vs[i]? =some v:=by
   unfold start at h2
   rw[List.getElem?_append_left (by simpa using hi),List.getElem?_map] at h2
   cases e:vs[i]? with
   |none=>rw[e] at h2;cases h2
   |some a=>rw[e] at h2;cases h2;rfl
  obtain⟨u,hu,rv⟩:=r.get ha
  have hp:ps[i]? =some y:=by
   rw[←S.pre,List.getElem?_take_of_lt (by omega)];exact h1
  have ndP:ps.Nodup:=by rw[←S.pre];exact S.nd.sublist (List.take_sublist _ _)
  refine⟨u,rv,?_⟩
  rcases S.par y (List.mem_of_getElem? hp) with k|k
  ·exact .inl ⟨k,ZcD ndP hp hu k⟩
  ·obtain⟨c,e⟩:=ZdC (n:=s.heap.objs.size+1) k
   refine .inr ⟨.inl k,c,e,?_⟩
   have q:=x.cell y c e
   rw[ZcE ndP hp hu (by show scope.names.lookup y≠_;rw[k];decide)] at q
   exact q
 ·exact e0.hok.fresh (Nat.le_of_lt (x.above y c (PySem.mem_of_lookup h)))
 ·unfold start
  show _=N.length
  rw[List.length_append,List.length_map,List.length_replicate]
  omega
theorem Zha {CX:CXT} {P:Program} {w:World} {K:PySem.W.Frag} {mg:Str→Option Value} {base:Heap} {k:Nat} {f:Addr} {name qual:Str} {params:Arguments} {body:List Stmt} {scope:Scope} {dV kV doc pm cdv ct oc:Value} {an od:Option Addr}
  {osl:Array (Option Value)} {N ps:List Str} {sp:Sp} (lk:K.lookup f=some ⟨oc,od,.func (PySem.W.fnOf name qual params body scope dV kV doc pm an cdv ct),osl⟩) (hcd:PySem.W.codeIn K cdv qual=true) (S:Zr N ps scope)
  (len:∀vs H Q E,sp vs H Q E→vs.length=ps.length)
  (hbody:∀(A:Around) (outer:List Env) (s:Shared) (H:Hp) (vs:List V) (Q:VK) (E:XK),Yw k (A.deeper (envOfC qual scope s.heap.objs.size f cdv))→sp vs H Q E→
   ∃t,PSs (ZL CX P w K mg base N qual scope f cdv A outer s H E) body t∧t {nx:=fun _ H'=>Q .non H',rt:=Q} (start N vs) H):
  Zj P w K mg base CX (k+1) f (PySem.W.fnOf name qual params body scope dV kV doc pm an cdv ct) ps sp:=by
 refine⟨len,fun A outer s H args us vs Q E hr e0 hb r hsp=>?_⟩
 have hl:=len _ _ _ _ hsp
 have KX:K.In s.heap:=e0.mod.kin.keeps fun b o e=>(e0.bs b o e).1
 have lim:s.heap.NoLimit:=e0.mod.nolimit.keeps fun b o e=>(e0.bs b o e).1
 have hkind:∀y∈ps.zip us,scope.names.lookup y.1=some .local∨(scope.names.lookup y.1=some .cell∧((cellsFrom (s.heap.objs.size+1) scope.names []).lookup y.1).isSome=true):=fun⟨n,v⟩ hy=>by
  rcases S.par n (List.of_mem_zip hy).1 with q|q
  ·exact .inl q
  ·exact .inr ⟨q,PySem.W.cellsFrom_some _ _ _ (.inl q)⟩
 refine codeAny_call_function hr.depth (KX _ _ lk) rfl S.co S.gen rfl (PySem.W.codeRec_of KX hcd) (hb _ _ _ _ ?_)
 refine wpAny_newFunctionEnv_cells S.kind hkind fun env he s1 x=>?_
 subst he
 refine⟨lim.keeps x.toInCall.keep,codeAny_func ?_⟩
 obtain⟨t,ht,hq⟩:=hbody A outer s H vs Q E (hr.deeper _) hsp
 have I:Inv (ZL CX P w K mg base N qual scope f cdv A outer s H E) [] (start N vs) H s1:=Zf2 S hr.hd e0 hl r x
 refine wpAny_mono (ht [] s1 (start N vs) H _ I hq) (fun fl s' hs=>?_) fun e s' hs=>hs
 have fin:∀{σ':St} {H':Hp} {v:V} {u:Value},Inv (ZL CX P w K mg base N qual scope f cdv A outer s H E) [] σ' H' s'→ZB v u→Q v H'→CE outer P w H s Q u s':=
  fun{σ' H' v u} J rv q=>⟨v,H',J.os,J.bare,J.base,J.hok,rv,q⟩
 cases fl with
 |ret u=>
  obtain⟨v,σ',H',J,rv,q⟩:=hs
  exact fin J rv q
 |next=>
  obtain⟨σ',H',J,q⟩:=hs
  exact fin (v:=V.non) (u:=Value.none) J rfl q
 |brk=>
  obtain⟨_,_,_,q⟩:=hs
  exact False.elim q
 |cont=>
  obtain⟨_,_,_,q⟩:=hs
  exact False.elim q
end L2
namespace L2
open PySem PySem.Spec PyProof.Rows
section
variable {X:Cx} {x:Str} {p pos:Pos} {e:Expr} {es:List Expr} {t:TA} {id T:String} {r:List V→Hp→VK→Prop}
def tCB (r:List V→Hp→VK→Prop) (t:TA):TE:=fun σ H Q=>t σ H fun vs H1=>r vs H1 Q
theorem Zt (hc:YI X (.builtin id) r) (hg:Gl X x) (hm:X.mg x=none) (hv:bootBuiltins x=some (.builtin id)) (ha:PA X (e::es) t) (hn:x≠"__name__" :=by decide) (hdb:(x==("__debug__" :Str))=false:=by decide)
  (he:starEach (e::es) X.env=(false,eval e X.env)::starEach es X.env:=by rfl) (hpl:(backTo pos (starEach es X.env)).any (·.1)=false:=by rfl):PE X (.Call (.Name x p) (e::es) [] pos) (tCB r t):=by
 intro pins s σ H Q I h
 refine wpAny_Call_Name_kw (U5 I hg hm hv ?_ hn hdb)
 exact PyProof.Rows.callWith_builtin1 (thn (ha pos pins s σ H _ I h) fun us s1 ⟨vs,H1,I1,r1,q1⟩=>hc pins s1 σ H1 vs us Q I1 r1 q1) he hpl
theorem Ya (hc:YI X (.type T) r) (hg:Gl X x) (hm:X.mg x=none) (hv:bootBuiltins x=some (.type T)) (ha:PA X (e::es) t) (hn:x≠"__name__" :=by decide) (hdb:(x==("__debug__" :Str))=false:=by decide)
  (he:starEach (e::es) X.env=(false,eval e X.env)::starEach es X.env:=by rfl) (hpl:(backTo pos (starEach es X.env)).any (·.1)=false:=by rfl):PE X (.Call (.Name x p) (e::es) [] pos) (tCB r t):=by
 intro pins s σ H Q I h
 refine wpAny_Call_Name_kw (U5 I hg hm hv ?_ hn hdb)
 exact PyProof.Rows.callWith_type1 (thn (ha pos pins s σ H _ I h) fun us s1 ⟨vs,H1,I1,r1,q1⟩=>hc pins s1 σ H1 vs us Q I1 r1 q1) he hpl
end
end L2
namespace HT
open PySem PyProof.Rows
section
open PySem.SeqAt
open PySem.AutoSeq1 (wpAny_loadPart')
open PySem.MeetsSeq PySem.MeetsSeq2 PySem.MeetsSeq3
end
section
variable {prog:Program} {w:World} {A:Around} {E:Value→Shared→Prop} {s:Shared}
theorem ZhG {t b:Addr} {vs ws:List Value} {Q:Value→Shared→Prop} (ht:IsTup s.heap t vs.toArray) (hb:IsTup s.heap b ws.toArray) (hv:vs≠[])
  (h1:ws=[]→Q (.ref t) s) (h2:ws≠[]→Q (.ref s.heap.objs.size) {s with heap:=s.heap.push {cls:= .type "tuple",data:= .seq (vs++ws).toArray}})
  (hsz:vs.length+ws.length≤sizeLine):wpAny (model prog w) A (binaryOp .Add (.ref t) (.ref b)) Q E s:=by
 obtain⟨⟨cls,dd,data,sl⟩,ho,hc,n,hd⟩:=id ht
 obtain⟨⟨cls2,dd2,data2,sl2⟩,ho2,hc2,n2,hd2⟩:=id hb
 simp only at hc hd hc2 hd2
 subst hc hd hc2 hd2
 have e:vs.toArray++ws.toArray=(vs++ws).toArray:=by simp
 by_cases hw:ws=[]
 ·exact concat_meets ⟨_,ho,rfl⟩ ⟨_,ho2,rfl⟩ noFill_tuple_add seq_tuple_add PySem.F.slot_tuple_add PySem.F.entry_tuple_add (PySem.F.args_tuple_add_2 _ _)
   (tuple_addW1 t b vs.toArray ws.toArray n n2 dd dd2 sl sl2 (by simpa using hv) (by simp[hw])) ⟨ho,ho2,h1 hw⟩
 ·refine concat_meets ⟨_,ho,rfl⟩ ⟨_,ho2,rfl⟩ noFill_tuple_add seq_tuple_add PySem.F.slot_tuple_add PySem.F.entry_tuple_add (PySem.F.args_tuple_add_2 _ _)
   (tuple_addW2 t b vs.toArray ws.toArray n n2 dd dd2 sl sl2 (by simpa using hv) (by simpa using hw) (by rw[List.size_toArray,List.size_toArray];exact hsz)) ⟨ho,ho2,?_⟩
  rw[e]
  exact h2 hw
def sIx (n d:Nat):Option Int→Nat
 |none=>d
 |some v=>if v<0 then(v+(n:Int)).toNat else min v.toNat n
theorem ZiF (n d:Nat) (hd:d≤n) (o:Option Int):sIx n d o≤n:=by
 cases o with
 |none=>exact hd
 |some v=>
  show(if v<0 then(v+(n:Int)).toNat else min v.toNat n)≤n
  by_cases hv:v<0
  ·rw[if_pos hv];omega
  ·rw[if_neg hv];exact Nat.min_le_right _ _
theorem Zex (v:Int) (n d:Nat):(if v<0 then max (v+(n:Int)) 0 else min v (n:Int))=((sIx n d (some v):Nat):Int):=by
 show(if v<0 then max (v+(n:Int)) 0 else min v (n:Int))=(((if v<0 then(v+(n:Int)).toNat else min v.toNat n):Nat):Int)
 by_cases hv:v<0
 ·simp only[if_pos hv];omega
 ·simp only[if_neg hv];omega
theorem ZeE (lo hi:Option Int) (n:Nat):Builtin.Slice.sliceAdjust lo hi 1 (n:Int)=(((sIx n 0 lo:Nat):Int),((sIx n n hi:Nat):Int)):=by
 have h1:¬((1:Int)<0):=by omega
 unfold Builtin.Slice.sliceAdjust
 simp only[h1,if_false]
 refine Prod.ext ?_ ?_
 ·cases lo with
  |none=>rfl
  |some v=>exact Zex v n 0
 ·cases hi with
  |none=>rfl
  |some v=>exact Zex v n n
theorem Zfg (i j:Nat):Builtin.Slice.slicePlaces (i:Int) (j:Int) 1=j-i:=by
 unfold Builtin.Slice.slicePlaces
 have h1:(1:Int) > 0:=by omega
 simp only[h1,if_true,Int.ediv_one]
 split<;>omega
theorem ZbF {v:Value} {o:Option Int} {Q:Option Int→Shared→Prop} (p:IsPart v o) (h:Q o s):wpAny (model prog w) A (Builtin.Slice.slicePartIndex v) Q E s:=by
 cases p with
 |none=>exact slicePart_none h
 |int i t=>exact slicePart_int h
theorem Uw {sl:Addr} {vl vu:Value} {lo hi:Option Int} {n:Nat} {Q:Int×Int×Nat→Shared→Prop} (hs:s.heap.IsSliceOf sl vl vu .none) (pl:IsPart vl lo) (pu:IsPart vu hi)
  (h:Q (((sIx n 0 lo:Nat):Int),1,sIx n n hi-sIx n 0 lo) s):wpAny (model prog w) A (Builtin.Slice.sliceApplied (.ref sl) (pure (n:Int))) Q E s:=by
 obtain⟨os,hos,hcs,hds⟩:=id hs
 unfold Builtin.Slice.sliceApplied Builtin.Slice.sliceFields
 refine wpAny_bind (wpAny_bind (wpAny_field hos hds (x:=vl) rfl (wpAny_bind (wpAny_field hos hds (x:=vu) rfl (wpAny_bind (wpAny_field hos hds (x:= .none) rfl (wpAny_pure ?_)))))))
 refine wpAny_bind (slicePart_none ?_)
 show wpAny _ _ (if((1:Int)==0)=true then _ else _) _ _ s
 rw[if_neg (by decide)]
 refine wpAny_bind (ZbF pl (wpAny_bind (ZbF pu (wpAny_bind (wpAny_pure ?_)))))
 show wpAny _ _ (match Builtin.Slice.sliceAdjust lo hi 1 (n:Int) with|(lo,hi)=>pure (lo,(1:Int),Builtin.Slice.slicePlaces lo hi 1)) _ _ s
 rw[ZeE lo hi n]
 show wpAny _ _ (pure (((sIx n 0 lo:Nat):Int),(1:Int),Builtin.Slice.slicePlaces ((sIx n 0 lo:Nat):Int) ((sIx n n hi:Nat):Int) 1)) _ _ s
 rw[Zfg]
 exact wpAny_pure h
theorem ZgT (xs:Array Value) (i k:Nat):((List.range k).filterMap fun(m:Nat)=>xs[((i:Int)+(m:Int)*1).toNat]?).toArray=((xs.toList.drop i).take k).toArray:=by
 have e:(fun(m:Nat)=>xs[((i:Int)+(m:Int)*1).toNat]?)=fun m=>xs[i+m]? :=by
  funext m
  have:((i:Int)+(m:Int)*1).toNat=i+m:=by omega
  rw[this]
 rw[e]
 have:=pick_run xs i k
 rw[List.filterMap_map] at this
 have e2:((fun x=>xs[x]?)∘fun x=>i+x)=fun m=>xs[i+m]? :=rfl
 rw[e2] at this
 rw[this]
theorem Za9 {t sl:Addr} {items:Array Value} {vl vu:Value} {lo hi:Option Int} {Q:Value→Shared→Prop} (ht:IsTup s.heap t items) (hs:s.heap.IsSliceOf sl vl vu .none) (pl:IsPart vl lo) (pu:IsPart vu hi)
  (hw:¬(sIx items.size 0 lo=0∧sIx items.size items.size hi=items.size))
  (h:Q (.ref s.heap.objs.size) {s with heap:=s.heap.push {cls:= .type "tuple",data:= .seq ((items.toList.drop (sIx items.size 0 lo)).take (sIx items.size items.size hi-sIx items.size 0 lo)).toArray}})
  (hsz:items.size≤sizeLine):wpAny (model prog w) A (getItem (.ref t) (.ref sl)) Q E s:=by
 have htake:sizeOk (.seq ((items.toList.drop (sIx items.size 0 lo)).take (sIx items.size items.size hi-sIx items.size 0 lo)).toArray):=by
  show((items.toList.drop (sIx items.size 0 lo)).take (sIx items.size items.size hi-sIx items.size 0 lo)).toArray.size≤sizeLine
  rw[List.size_toArray,List.length_take,List.length_drop,Array.length_toList]
  omega
 have hj:sIx items.size items.size hi≤items.size:=ZiF _ _ (Nat.le_refl _) hi
 obtain⟨os,hos,hcs,hds⟩:=id hs
 have hTs:s.TypeIs (.ref sl) "slice" :=⟨os,hos,hcs⟩
 unfold getItem
 try with_reducible refine wpAny_holding ?_
 first|refine wpAny_bind (wpAny_pure ?_)|skip
 refine wpAny_bind (wpAny_sequenceKey ht.typeIs (by decide) ?_)
 refine wpAny_bind (wpAny_callSpecial?_slot (name:=Str.ofString "__getitem__") ht.typeIs PyProof.Rows.slot_tuple_getitem
  (wpAny_call_entry PyProof.Rows.slot_tuple_getitem ht.typeIs entry_tuple_getitem ?_ (args_tuple_getitem _ _)))
 show wpAny _ _ (Builtin.Tuple.tupleItemsOf (.ref t) >>= _) _ _ s
 refine wpAny_bind (tupleItemsOf_ ht ?_)
 refine wpAny_bind (wpAny_typeOf hTs ?_)
 rw[if_pos (by decide)]
 refine wpAny_bind (Uw hs pl pu ?_)
 have hno:¬((((sIx items.size 0 lo:Nat):Int)==0&&(1:Int)==1&&(sIx items.size items.size hi-sIx items.size 0 lo)==items.size)=true):=by
  intro q
  rw[Bool.and_eq_true,Bool.and_eq_true] at q
  have q1:((sIx items.size 0 lo:Nat):Int)=0:=eq_of_beq q.1.1
  have q2:sIx items.size items.size hi-sIx items.size 0 lo=items.size:=eq_of_beq q.2
  exact hw ⟨by omega,by omega⟩
 show wpAny _ _ (if(((sIx items.size 0 lo:Nat):Int)==0&&(1:Int)==1&&(sIx items.size items.size hi-sIx items.size 0 lo)==items.size)=true then _ else _) _ _ s
 rw[if_neg hno,ZgT]
 first
  |exact wpAny_bind (m:=Builtin.Tuple.tupleExact _) (wpAny_newObj_type (wpAny_pure ⟨_,rfl,wpAny_pure h⟩) htake)
  |exact wpAny_bind (m:=Builtin.Tuple.tupleExact _) (wpAny_newObj_type (wpAny_bind (wpAny_pure (wpAny_pure ⟨_,rfl,wpAny_pure h⟩))) htake)
  |exact wpAny_bind (wpAny_bind (m:=Builtin.Tuple.tupleExact _) (wpAny_newObj_type (wpAny_pure (wpAny_pure ⟨_,rfl,wpAny_pure h⟩)) htake))
  |exact wpAny_bind (wpAny_bind (m:=Builtin.Tuple.tupleExact _) (wpAny_newObj_type (wpAny_pure ⟨_,rfl,wpAny_pure h⟩) htake))
end
end HT
namespace L2
open PySem PySem.Spec PyProof.Rows
abbrev TO:=St→Hp→(Option Int→Hp→Prop)→Prop
def PO (X:Cx) (e:Option Expr) (t:TO):Prop:=
 ∀(pins:List (Addr×Obj)) (s:Shared) (σ:St) (H:Hp) (Q:Option Int→Hp→Prop),Inv X pins σ H s→t σ H Q→
  wpAny (model X.prog X.w) X.A (evalPart e X.env) (fun u s'=>∃o H',Inv X pins σ H' s'∧IsPart u o∧Q o H') X.xe s
def tNoPart:TO:=fun _ H Q=>Q none H
def Zg2 (t:TE):TO:=fun σ H Q=>t σ H fun x H1=>∃i,x= .int i∧Q (some i) H1
theorem ZeN {ns:List Int}:∀{us:List Value},Zw (ns.map V.int) us→IntsAre us ns:=by
 induction ns with
 |nil=>intro us r;rw[List.map_nil] at r;cases r;exact .nil
 |cons n ns ih=>
  intro us r
  rw[List.map_cons] at r
  cases r with
  |cons r1 r2=>
   obtain⟨t,e⟩:=r1
   subst e
   exact .cons n t (ih r2)
section
variable {X:Cx} {e:Expr} {te:TE} {lo hi:Option Expr} {tl th:TO} {pos p2:Pos}
theorem Zcg:PO X none tNoPart:=by
 intro pins s σ H Q I h
 rw[evalPart_none]
 exact wpAny_pure ⟨none,H,I,.none,h⟩
theorem Wm (h:PE X e te):PO X (some e) (Zg2 te):=by
 intro pins s σ H Q I hw
 rw[evalPart_some]
 refine thn (h pins s σ H _ I hw) fun u s1 ⟨x,H1,I1,r1,q1⟩=>?_
 obtain⟨i,rfl,q⟩:=q1
 obtain⟨t,rfl⟩:=r1
 exact⟨some i,H1,I1,.int i t,q⟩
def SlR (X:Cx) (r:V→Option Int→Option Int→Hp→VK→Prop):Prop:=
 ∀(pins:List (Addr×Obj)) (s:Shared) (σ:St) (H:Hp) (x:V) (v vl vu:Value) (lo hi:Option Int) (sl:Addr) (Q:VK),Inv X pins σ H s→ZB x v→s.heap.IsSliceOf sl vl vu .none→IsPart vl lo→IsPart vu hi→r x lo hi H Q→
  ∃T id,typeLookup (.type T) "__getitem__" =pure (some (.builtin id))∧s.TypeIs v T∧wpAny (model X.prog X.w) X.A (getItem v (.ref sl)) (EP X pins σ Q) X.xe s
theorem SlR.or {r r':V→Option Int→Option Int→Hp→VK→Prop} (h:SlR X r) (h':SlR X r'):SlR X (fun x lo hi H Q=>r x lo hi H Q∨r' x lo hi H Q):=by
 intro pins s σ H x v vl vu lo hi sl Q I rx hs pl pu q
 rcases q with q|q
 ·exact h pins s σ H x v vl vu lo hi sl Q I rx hs pl pu q
 ·exact h' pins s σ H x v vl vu lo hi sl Q I rx hs pl pu q
def tSl (r:V→Option Int→Option Int→Hp→VK→Prop) (te:TE) (tl th:TO):TE:=fun σ H Q=>te σ H fun x H1=>tl σ H1 fun l H2=>th σ H2 fun u H3=>r x l u H3 Q
theorem W7 {r:V→Option Int→Option Int→Hp→VK→Prop} (hr:SlR X r) (he:PE X e te) (hl:PO X lo tl) (hu:PO X hi th):PE X (.Subscript e (.Slice lo hi none p2) pos) (tSl r te tl th):=by
 intro pins s σ H Q I h
 refine Subscript_ (thn (he pins s σ H _ I h) fun v s1 ⟨x,H1,I1,r1,q1⟩=>?_)
 refine wpAny_Slice (thn (hl pins s1 σ H1 _ I1 q1) fun vl s2 ⟨l,H2,I2,pl,q2⟩=>thn (hu pins s2 σ H2 _ I2 q2) fun vu s3 ⟨u,H3,I3,pu,q3⟩=>?_)
 rw[evalPart_none]
 refine wpAny_pure ?_
 have I4:Inv X pins σ H3 {s3 with heap:=s3.heap.push {cls:= .type "slice",data:= .fields #[vl,vu,.none]}}:=I3.kept (t':=s3.toks) fun b ob q=>Heap.get?_push_of_some _ q
 obtain⟨T,id,hT,ht,hg⟩:=hr pins {s3 with heap:=s3.heap.push {cls:= .type "slice",data:= .fields #[vl,vu,.none]}} σ H3 x v vl vu l u s3.heap.objs.size Q I4 r1 (Heap.IsSliceOf.new ..) pl pu q3
 show wpAny (model X.prog X.w) X.A (subscriptTail e (.Slice lo hi none p2) v (.ref s3.heap.objs.size)) (EP X pins σ Q) X.xe {s3 with heap:=s3.heap.push {cls:= .type "slice",data:= .fields #[vl,vu,.none]}}
 exact tail_any (ops:=[.ref s3.heap.objs.size,v]) ht hT hg (by with_unfolding_all rfl)
def Wx (xs:List V) (lo hi:Option Int):List V:=(xs.drop (HT.sIx xs.length 0 lo)).take (HT.sIx xs.length xs.length hi-HT.sIx xs.length 0 lo)
theorem Zbd (xs:List V) (lo hi:Option Int):(Wx xs lo hi).length≤xs.length:=by
 unfold Wx
 rw[List.length_take,List.length_drop]
 omega
def Zh1 (K:PySem.W.Frag):V→Option Int→Option Int→Hp→VK→Prop:=fun x lo hi H Q=>∃a xs,x= .ref a∧SqT K H a xs∧
 ¬(HT.sIx xs.length 0 lo=0∧HT.sIx xs.length xs.length hi=xs.length)∧∀p,H p=none→Q (.ref p) (upd H p (.tup (Wx xs lo hi)))
theorem Zf5:SlR X (Zh1 X.K):=by
 intro pins s σ H x v vl vu lo hi sl Q I rx hs pl pu h
 obtain⟨a,xs,rfl,hx,hw,q⟩:=h
 cases rx
 obtain⟨its,r,ht,hz⟩:=I.tuple hx
 have hlen:its.toArray.size=xs.length:=by rw[List.size_toArray];exact r.length.symm
 refine⟨"tuple",_,PyProof.Rows.slot_tuple_getitem.lookup,ht.typeIs,?_⟩
 refine HT.Za9 ht hs pl pu (by rw[hlen];exact hw) ?_ (by rw[hlen];exact hz)
 rw[hlen]
 refine⟨.ref s.heap.objs.size,_,I.laid (t':=s.toks) (o:= .tup (Wx xs lo hi)) (fun b ob q=>Heap.get?_push_of_some _ q) (Nat.le_refl _) ?_,rfl,q _ (I.hok.fresh (Nat.le_refl _))⟩
 exact⟨Nat.le_trans (Zbd xs lo hi) hz,_,(r.drop (HT.sIx xs.length 0 lo)).take (HT.sIx xs.length xs.length hi-HT.sIx xs.length 0 lo),IsTup.new _ _⟩
def Zfr (K:PySem.W.Frag):R2:=fun x y H Q=>∃a b xs ys,x= .ref a∧y= .ref b∧SqT K H a xs∧SqT K H b ys∧xs≠[]∧xs.length+ys.length≤sizeLine∧
 (ys=[]→Q (.ref a) H)∧(ys≠[]→∀p,H p=none→Q (.ref p) (upd H p (.tup (xs++ys))))
theorem Zw.nil_iff {xs:List V} {us:List Value} (r:Zw xs us):us=[]↔xs=[]:=by
 cases r with
 |nil=>simp
 |cons _ _=>simp
theorem Zht:OpR X (binaryOp .Add) (Zfr X.K):=by
 intro pins s σ H x y v u Q I rx ry h
 obtain⟨a,b,xs,ys,rfl,rfl,ha,hb,hx,hz,q1,q2⟩:=h
 cases rx
 cases ry
 obtain⟨its,r1,p1,_⟩:=I.tuple ha
 obtain⟨its2,r2,p2,_⟩:=I.tuple hb
 refine HT.ZhG p1 p2 (fun z=>hx (r1.nil_iff.mp z)) (fun z=>⟨.ref a,H,I,rfl,q1 (r2.nil_iff.mp z)⟩) (fun z=>?_) (by rw[←r1.length,←r2.length];exact hz)
 refine⟨.ref s.heap.objs.size,_,I.laid (t':=s.toks) (o:= .tup (xs++ys)) (fun b ob q=>Heap.get?_push_of_some _ q) (Nat.le_refl _) ?_,rfl,q2 (fun w=>z (r2.nil_iff.mpr w)) _ (I.hok.fresh (Nat.le_refl _))⟩
 exact⟨by rw[List.length_append];exact hz,_,r1.append r2,IsTup.new _ _⟩
end
end L2
namespace L2
open PySem PySem.Spec PyProof.Rows
def ixN (n:Nat) (i:Int):Option Nat:=if 0≤i then(if i<n then some i.toNat else none) else if -(n:Int)≤i then some (i+n).toNat else none
def atI {α:Type} (xs:List α) (i:Int):Option α:=(ixN xs.length i).bind fun j=>xs[j]?
theorem Zeo {n:Nat} {i:Int} {j:Nat} (h:ixN n i=some j):seqIndex? i n=some j∧j<n∧ -(n:Int)≤i∧i<n:=by
 unfold ixN at h
 by_cases h0:0≤i
 ·rw[if_pos h0] at h
  by_cases h1:i<n
  ·rw[if_pos h1] at h
   have e:i.toNat=j:=Option.some.inj h
   exact⟨by rw[seqIndex_of h0 h1,e],by omega,by omega,h1⟩
  ·rw[if_neg h1] at h;cases h
 ·rw[if_neg h0] at h
  by_cases h1: -(n:Int)≤i
  ·rw[if_pos h1] at h
   have e:(i+n).toNat=j:=Option.some.inj h
   exact⟨by rw[seqIndex_neg (by omega) h1,e],by omega,h1,by omega⟩
  ·rw[if_neg h1] at h;cases h
theorem Za2 {α:Type} {xs:List α} {i:Int} {v:α} (h:atI xs i=some v):∃j,seqIndex? i xs.length=some j∧xs[j]? =some v∧j<xs.length∧ -(xs.length:Int)≤i∧i<xs.length:=by
 unfold atI at h
 cases e:ixN xs.length i with
 |none=>rw[e] at h;cases h
 |some j=>
  rw[e] at h
  obtain⟨h1,h2,h3,h4⟩:=Zeo e
  exact⟨j,h1,h,h2,h3,h4⟩
theorem YQ {α:Type} {xs:List α} {j:Nat} {v:α} (h:xs[j]? =some v):atI xs (j:Int)=some v:=by
 have hj:j<xs.length:=(List.getElem?_eq_some_iff.mp h).1
 have e:ixN xs.length (j:Int)=some j:=by
  unfold ixN
  rw[if_pos (by omega),if_pos (by omega)];simp
 unfold atI;rw[e];exact h
def ZhC (b:Expr):Prop:=∀o i,subscripted b false o i=operate [o,i] (getItem o i)
def IxR (X:Cx) (r:R2):Prop:=
 ∀(value slice:Expr) (pins:List (Addr×Obj)) (s:Shared) (σ:St) (H:Hp) (x y:V) (v u:Value) (Q:VK),Inv X pins σ H s→ZB x v→ZB y u→r x y H Q→
  subscripted slice false v u=operate [v,u] (getItem v u)→wpAny (model X.prog X.w) X.A (subscriptTail value slice v u) (EP X pins σ Q) X.xe s
def MtR (X:Cx) (id:String) (r:V→List V→Hp→VK→Prop):Prop:=
 ∀(pins:List (Addr×Obj)) (s:Shared) (σ:St) (H:Hp) (x:V) (xs:List V) (v:Value) (us:List Value) (Q:VK),Inv X pins σ H s→ZB x v→Zw xs us→r x xs H Q→
  wpAny (model X.prog X.w) X.A (call (.builtin id) (v::us)) (EP X pins σ Q) X.xe s
section
variable {X:Cx} {a b:Expr} {ta tb:TE} {pos:Pos}
theorem IxR.or {r r':R2} (h:IxR X r) (h':IxR X r'):IxR X (fun x y H Q=>r x y H Q∨r' x y H Q):=by
 intro value slice pins s σ H x y v u Q I rx ry q hs
 rcases q with q|q
 ·exact h value slice pins s σ H x y v u Q I rx ry q hs
 ·exact h' value slice pins s σ H x y v u Q I rx ry q hs
theorem ZI {r:R2} (hr:IxR X r) (ha:PE X a ta) (hb:PE X b tb) (hs:ZhC b):PE X (.Subscript a b pos) (tOp r ta tb):=by
 intro pins s σ H Q I h
 exact Subscript_ (Zgo ha hb I h fun v u s2 x y H2 I2 rx ry q=>hr a b pins s2 σ H2 x y v u Q I2 rx ry q (hs _ _))
def Zcm (K:PySem.W.Frag):R2:=fun x y H Q=>∃p xs i v,x= .ref p∧y= .int i∧SqL K H p xs∧atI xs i=some v∧Q v H
def ZgS (K:PySem.W.Frag):R2:=fun x y H Q=>∃p xs i v,x= .ref p∧y= .int i∧SqT K H p xs∧atI xs i=some v∧Q v H
def rIxS:R2:=fun x y H Q=>∃z i c,x= .str z∧y= .int i∧z.length≤sizeLine∧atI z.cps.toList i=some c∧Q (.str ⟨#[c]⟩) H
theorem Zhr:IxR X (Zcm X.K):=by
 intro value slice pins s σ H x y v u Q I rx ry h hs
 obtain⟨p,xs,i,z,rfl,rfl,hq,he,q⟩:=h
 cases rx
 obtain⟨t,rfl⟩:=ry
 obtain⟨its,r,pl,hz⟩:=I.list hq
 obtain⟨j,h1,h2,h3,h4,h5⟩:=Za2 he
 obtain⟨w,ew,rw'⟩:=r.get h2
 have hl:=r.length
 have hn:=Uu
 have fin:EP X pins σ Q w s:=⟨z,H,I,rw',q⟩
 by_cases h0:0≤i
 ·have hj:i.toNat=j:=by
   rw[seqIndex_of h0 h5] at h1
   exact Option.some.inj h1
  exact item_listR pl.isList h0 (by omega) (by rw[hj];simpa using ew) fin hs
 ·have hj:(i+(its.toArray.size:Int)).toNat=j:=by
   rw[seqIndex_neg (by omega) h4] at h1
   rw[List.size_toArray,←hl]
   exact Option.some.inj h1
  exact subscriptTail_builtinR (x:=w) pl.isList.typeIs slot_list_getitem.lookup
   (wpAny_getItem_list_neg (Q:=fun r s'=>r=w∧EP X pins σ Q r s') pl.isList (by omega) (by rw[List.size_toArray]<;>omega) (by omega) (by rw[hj];simpa using ew) ⟨rfl,fin⟩) hs
theorem Zh5:IxR X (ZgS X.K):=by
 intro value slice pins s σ H x y v u Q I rx ry h hs
 obtain⟨p,xs,i,z,rfl,rfl,hq,he,q⟩:=h
 cases rx
 obtain⟨t,rfl⟩:=ry
 obtain⟨its,r,pl,hz⟩:=I.tuple hq
 obtain⟨j,h1,h2,h3,h4,h5⟩:=Za2 he
 obtain⟨w,ew,rw'⟩:=r.get h2
 have hl:=r.length
 have hn:=Uu
 have fin:EP X pins σ Q w s:=⟨z,H,I,rw',q⟩
 exact subscriptTail_builtinR (x:=w) pl.typeIs slot_tuple_getitem.lookup
  (getItem_tuple (j:=j) (Q:=fun r s'=>r=w∧EP X pins σ Q r s') pl (by omega) (by omega) (by rw[List.size_toArray,←hl];exact h1) (by simpa using ew) ⟨rfl,fin⟩) hs
theorem ZiR:IxR X rIxS:=by
 intro value slice pins s σ H x y v u Q I rx ry h hs
 obtain⟨z,i,c,rfl,rfl,hz,he,q⟩:=h
 obtain⟨t,rfl⟩:=rx
 obtain⟨t',rfl⟩:=ry
 obtain⟨j,h1,h2,h3,h4,h5⟩:=Za2 he
 have hl:z.cps.toList.length=z.length:=by simp[Str.length]
 rw[hl] at h1 h4 h5
 have hn:=Uu
 exact tail_any (typeIs_str s z t) slot_str_getitem.lookup (getItem_str (c:=c) (by
  have e1:decide (i< -(2 ^ 63:Int))=false:=decide_eq_false (by omega)
  have e2:decide (i≥2 ^ 63)=false:=decide_eq_false (by omega)
  rw[e1,e2,Bool.or_false]) (by rw[h1];simpa using h2) ⟨.str ⟨#[c]⟩,H,I.tok _,⟨_,rfl⟩,q⟩) hs
def rIx (K:PySem.W.Frag):R2:=fun x y H Q=>Zcm K x y H Q∨ZgS K x y H Q∨rIxS x y H Q
theorem ZhQ:IxR X (rIx X.K):=Zhr.or (Zh5.or ZiR)
theorem Zfl (its:List Value) (n j:Nat) (u:Value):Obj.mapSeq (·.setIfInBounds j u) {cls:= .type "list",data:= .seq its.toArray n}={cls:= .type "list",data:= .seq (its.set j u).toArray n}:=by
 simp[Obj.mapSeq]
theorem Inv.lst {pins:List (Addr×Obj)} {σ:St} {H:Hp} {s:Shared} {p:Addr} {xs:List V} (I:Inv X pins σ H s) (h:H p=some (.lst xs)):
  ∃(its:List Value) (n:Nat),Zw xs its∧s.heap.get? p=some {cls:= .type "list",data:= .seq its.toArray n}∧xs.length≤sizeLine:=by
 obtain⟨z,its,n,r,e⟩:=I.hok p _ h
 exact⟨its,n,r,e,z⟩
theorem Inv.lstUpd {pins:List (Addr×Obj)} {σ:St} {H:Hp} {s:Shared} {p:Addr} {xs ys:List V} {its its':List Value} {n n':Nat} {f:Obj→Obj} (I:Inv X pins σ H s) (h:H p=some (.lst xs))
  (ho:s.heap.get? p=some {cls:= .type "list",data:= .seq its.toArray n}) (hf:f {cls:= .type "list",data:= .seq its.toArray n}={cls:= .type "list",data:= .seq its'.toArray n'}) (r:Zw ys its') (hz:ys.length≤sizeLine) (t:Nat):
  Inv X pins σ (upd H p (.lst ys)) {s with heap:=s.heap.update p f,toks:=t}:=by
 have e:(s.heap.update p f).get? p=some {cls:= .type "list",data:= .seq its'.toArray n'}:=by
  rw[Heap.get?_update_self f ho (by rw[hf]<;>rfl),hf]
 refine I.write (x:=p) (e:=p) (by rw[h];trivial) (.inl rfl) (fun b u hb q=>(Heap.get?_update_other _ _ (Ne.symm hb)).trans q) ⟨_,e⟩ ?_
 exact⟨hz,its',n',r,e⟩
def rSetL:V→V→V→Hp→(Hp→Prop)→Prop:=fun o i v H Q=>∃p xs k j,o= .ref p∧i= .int k∧H p=some (.lst xs)∧ixN xs.length k=some j∧Q (upd H p (.lst (xs.set j v)))
theorem UB:Zfe X rSetL:=by
 intro pins s σ H o i v ov iv u Q I ro ri rv h
 obtain⟨p,xs,k,j,rfl,rfl,hp,hj,q⟩:=h
 cases ro
 obtain⟨t,rfl⟩:=ri
 obtain⟨its,n,r,ho,hz⟩:=I.lst hp
 obtain⟨h1,h2,h3,h4⟩:=Zeo hj
 have hl:=r.length
 have hn:=Uu
 have I':Inv X pins σ (upd H p (.lst (xs.set j v))) {s with heap:=s.heap.update p (Obj.mapSeq (·.setIfInBounds j u))}:=
  I.lstUpd hp ho (Zfl its n j u) (r.set rv j) (by rw[List.length_set];exact hz) s.toks
 by_cases h0:0≤k
 ·have hk:k.toNat=j:=by
   rw[seqIndex_of h0 h4] at h1
   exact Option.some.inj h1
  exact PySem.W.ki_setAt ho h0 (by omega) (by rw[List.size_toArray,←hl];exact h4) (by rw[hk];exact⟨_,I',q⟩)
 ·have hk:(k+(its.toArray.size:Int)).toNat=j:=by
   rw[seqIndex_neg (by omega) h3] at h1
   rw[List.size_toArray,←hl]
   exact Option.some.inj h1
  exact PySem.W.ki_setBack ho (by omega) (by rw[List.size_toArray,←hl];exact h3) (by omega) (by rw[hk];exact⟨_,I',q⟩)
theorem Zdz (lo hi:Option Int) (n:Nat):(sliceBounds lo hi none n).1=((HT.sIx n 0 lo:Nat):Int)∧(sliceBounds lo hi none n).2.1=((HT.sIx n n hi:Nat):Int)∧(sliceBounds lo hi none n).2.2=1:=by
 refine⟨?_,?_,rfl⟩
 ·cases lo with
  |none=>simp[sliceBounds,HT.sIx]
  |some i=>
   simp only[sliceBounds,HT.sIx,Option.getD_none,show(1:Int) > 0 by decide,if_true]
   by_cases h:i<0
   ·simp only[h,if_true]<;>omega
   ·simp only[h,if_false]<;>omega
 ·cases hi with
  |none=>simp[sliceBounds,HT.sIx]
  |some i=>
   simp only[sliceBounds,HT.sIx,Option.getD_none,show(1:Int) > 0 by decide,if_true]
   by_cases h:i<0
   ·simp only[h,if_true]<;>omega
   ·simp only[h,if_false]<;>omega
theorem ZcZ (its:List Value) (lo hi:Option Int):slicePick its.toArray lo hi none=((its.drop (HT.sIx its.length 0 lo)).take (HT.sIx its.length its.length hi-HT.sIx its.length 0 lo)).toArray:=by
 obtain⟨h1,h2,h3⟩:=Zdz lo hi its.toArray.size
 unfold slicePick
 rw[h1,h2,h3]
 simp only[sliceRange_one,pick_run,List.size_toArray]<;>rfl
def ZhT (K:PySem.W.Frag):V→Option Int→Option Int→Hp→VK→Prop:=fun x lo hi H Q=>∃a xs,x= .ref a∧SqL K H a xs∧∀p,H p=none→Q (.ref p) (upd H p (.lst (Wx xs lo hi)))
theorem Zhw:SlR X (ZhT X.K):=by
 intro pins s σ H x v vl vu lo hi sl Q I rx hs pl pu h
 obtain⟨a,xs,rfl,hx,q⟩:=h
 cases rx
 obtain⟨its,r,ht,hz⟩:=I.list hx
 have hlen:=r.length
 refine⟨"list",_,slot_list_getitem.lookup,ht.isList.typeIs,?_⟩
 refine wpAny_getItem_list_slice ht.isList hs pl pu .none (by simp) ?_ (by rw[List.size_toArray]<;>omega)
 rw[ZcZ,←hlen]
 refine⟨.ref s.heap.objs.size,_,I.laid (t':=s.toks) (o:= .lst (Wx xs lo hi)) (fun b ob q=>Heap.get?_push_of_some _ q) (Nat.le_refl _) ?_,rfl,q _ (I.hok.fresh (Nat.le_refl _))⟩
 exact⟨Nat.le_trans (Zbd xs lo hi) hz,_,0,(r.drop (HT.sIx xs.length 0 lo)).take (HT.sIx xs.length xs.length hi-HT.sIx xs.length 0 lo),Heap.get?_push_size _ rfl⟩
def Uh:V→Bool
 | .non=>true
 | .bl _=>true
 | .int _=>true
 | .str _=>true
 |_=>false
def eqV:V→V→Bool
 | .non,.non=>true
 | .bl a,.bl b=>a==b
 | .bl a,.int b=>(if a then 1 else 0)==b
 | .int a,.bl b=>a==(if b then 1 else 0)
 | .int a,.int b=>a==b
 | .str a,.str b=>a==b
 |_,_=>false
theorem Zh9 {A:Around} {s:Shared} {y x:V} {u v:Value} (ry:ZB y u) (rx:ZB x v) (fy:Uh y=true) (fx:Uh x=true):SeqAt.EqAt A s u v (eqV y x):=by
 cases y with
 |non=>
  cases ry
  cases x with
  |non=>cases rx;exact SeqAt.EqAt.same _
  |bl b=>cases rx;exact SeqAt.EqAt.none_bool b
  |int b=>obtain⟨t,rfl⟩:=rx;exact SeqAt.EqAt.none_int b t
  |str b=>obtain⟨t,rfl⟩:=rx;exact SeqAt.EqAt.none_str b t
  |_=>exact absurd (show false=true from fx) Bool.false_ne_true
 |bl a=>
  cases ry
  cases x with
  |non=>cases rx;exact SeqAt.EqAt.bool_none a
  |bl b=>cases rx;exact SeqAt.EqAt.bool_bool a b
  |int b=>obtain⟨t,rfl⟩:=rx;exact SeqAt.EqAt.bool_int a b t
  |str b=>obtain⟨t,rfl⟩:=rx;exact SeqAt.EqAt.bool_str a b t
  |_=>exact absurd (show false=true from fx) Bool.false_ne_true
 |int a=>
  obtain⟨t',rfl⟩:=ry
  cases x with
  |non=>cases rx;exact SeqAt.EqAt.int_none a t'
  |bl b=>cases rx;exact SeqAt.EqAt.int_bool a t' b
  |int b=>obtain⟨t,rfl⟩:=rx;exact SeqAt.EqAt.int_int a t' b t
  |str b=>obtain⟨t,rfl⟩:=rx;exact SeqAt.EqAt.int_str a t' b t
  |_=>exact absurd (show false=true from fx) Bool.false_ne_true
 |str a=>
  obtain⟨t',rfl⟩:=ry
  cases x with
  |non=>cases rx;exact SeqAt.EqAt.str_none a t'
  |bl b=>cases rx;exact SeqAt.EqAt.str_bool a t' b
  |int b=>obtain⟨t,rfl⟩:=rx;exact SeqAt.EqAt.str_int a t' b t
  |str b=>obtain⟨t,rfl⟩:=rx;exact SeqAt.EqAt.str_str a t' b t
  |_=>exact absurd (show false=true from fx) Bool.false_ne_true
 |_=>exact absurd (show false=true from fy) Bool.false_ne_true
def eqU (x:V) (u:Value):Bool:=match u with
 | .none=>eqV .non x
 | .bool b=>eqV (.bl b) x
 | .int i _=>eqV (.int i) x
 | .str z _=>eqV (.str z) x
 |_=>false
theorem ZfC {x y:V} {u:Value} (r:ZB y u) (f:Uh y=true):eqU x u=eqV y x:=by
 cases y with
 |non=>cases r;rfl
 |bl b=>cases r;rfl
 |int i=>obtain⟨t,rfl⟩:=r;rfl
 |str z=>obtain⟨t,rfl⟩:=r;rfl
 |_=>exact absurd (show false=true from f) Bool.false_ne_true
theorem Zb9 {x:V}:∀{xs:List V} {us:List Value},Zw xs us→xs.all Uh=true→us.any (eqU x)=xs.any fun y=>eqV y x
 |_,_,.nil,_=>rfl
 |y::xs,u::us,.cons r t,f=>by
  rw[List.all_cons,Bool.and_eq_true] at f
  rw[List.any_cons,List.any_cons,ZfC r f.1,Zb9 t f.2]
theorem Zbt {A:Around} {s:Shared} {x:V} {v:Value} (rx:ZB x v) (fx:Uh x=true):∀{xs:List V} {us:List Value},Zw xs us→xs.all Uh=true→∀u∈us,SeqAt.EqAt A s u v (eqU x u)
 |_,_,.nil,_=>fun u hu=>by cases hu
 |y::xs,u::us,.cons r t,f=>fun u' hu=>by
  rw[List.all_cons,Bool.and_eq_true] at f
  rcases List.mem_cons.mp hu with rfl|hu
  ·rw[ZfC r f.1];exact Zh9 r rx f.1 fx
  ·exact Zbt rx fx t f.2 u' hu
def inV (x:V) (xs:List V):Bool:=xs.any fun y=>eqV y x
def rIn (K:PySem.W.Frag) (neg:Bool):R2:=fun x y H Q=>∃p xs,y= .ref p∧(SqL K H p xs∨SqT K H p xs)∧Uh x=true∧xs.all Uh=true∧Q (.bl (if neg then !inV x xs else inV x xs)) H
theorem Zdt:OpR X (compareOp .NotIn) (rIn X.K true):=by
 intro pins s σ H x y v u Q I rx ry h
 obtain⟨p,xs,rfl,hq,fx,fs,q⟩:=h
 cases ry
 rcases hq with hq|hq
 ·obtain⟨its,r,pl,hz⟩:=I.list hq
  refine SeqAt.notIn_listAt (eqU x) pl.isList (fun w hw=>Zbt rx fx r fs w (by simpa using hw)) ⟨.bl _,H,I,rfl,?_⟩
  rw[show its.toArray.any (eqU x)=its.any (eqU x) by simp,Zb9 r fs]
  exact q
 ·obtain⟨its,r,pl,hz⟩:=I.tuple hq
  refine SeqAt.notIn_tupleAt (eqU x) pl (fun w hw=>Zbt rx fx r fs w (by simpa using hw)) ⟨.bl _,H,I,rfl,?_⟩
  rw[show its.toArray.any (eqU x)=its.any (eqU x) by simp,Zb9 r fs]
  exact q
theorem Zdg:YI X (.type "list") (fun xs H Q=>∃p ys,xs=[.ref p]∧(SqL X.K H p ys∨SqT X.K H p ys)∧∀l,H l=none→Q (.ref l) (upd H l (.lst ys))):=by
 intro pins s σ H xs us Q I r h
 obtain⟨p,ys,rfl,hq,q⟩:=h
 obtain⟨u,rfl,rx⟩:=Vq r
 cases rx
 have fin:∀(its:List Value),Zw ys its→ys.length≤sizeLine→∀(h':Heap) (c':Nat),(∀b o',s.heap.get? b=some o'→h'.get? b=some o')→
   h'.get? s.heap.objs.size=some {cls:= .type "list",dict:=none,data:= .seq its.toArray c',slots:=#[]}→EP X pins σ Q (.ref s.heap.objs.size) {s with heap:=h'}:=fun its r' hz h' c' kp e=>
  ⟨.ref s.heap.objs.size,_,I.laid (t':=s.toks) kp (Nat.le_refl _) (show Z4 X.prog X.w _ h' _ (.lst ys) from⟨hz,its,c',r',e⟩),rfl,q _ (I.hok.fresh (Nat.le_refl _))⟩
 rcases hq with hq|hq
 ·obtain⟨its,r',pl,hz⟩:=I.list hq
  have hlen:=r'.length
  obtain⟨o,ho,hc,n,hd⟩:=pl.isList
  exact call_list_seq p (.inl rfl) ho hc hd (fun h' c' kp e=>fin its r' hz h' c' kp e) (by simp only[List.size_toArray]<;>omega)
 ·obtain⟨its,r',pl,hz⟩:=I.tuple hq
  have hlen:=r'.length
  obtain⟨o,ho,hc,n,hd⟩:=pl
  exact call_list_seq p (.inr rfl) ho hc hd (fun h' c' kp e=>fin its r' hz h' c' kp e) (by simp only[List.size_toArray]<;>omega)
theorem ZcW:YI X (.type "tuple") (fun xs H Q=>∃p ys,xs=[.ref p]∧((SqL X.K H p ys∧∀l,H l=none→Q (.ref l) (upd H l (.tup ys)))∨(SqT X.K H p ys∧Q (.ref p) H))):=by
 intro pins s σ H xs us Q I r h
 obtain⟨p,ys,rfl,h⟩:=h
 obtain⟨u,rfl,rx⟩:=Vq r
 cases rx
 rcases h with⟨hq,q⟩|⟨hq,q⟩
 ·obtain⟨its,r',pl,hz⟩:=I.list hq
  have hlen:=r'.length
  refine call_tuple_list pl.isList (fun h' kp=>?_) (by simp only[List.size_toArray]<;>omega)
  have I1:Inv X pins σ H {s with heap:=h'}:=I.kept (t':=s.toks) kp
  have I2:Inv X pins σ (upd H h'.objs.size (.tup ys)) {s with heap:=h'.push {cls:= .type "tuple",data:= .seq its.toArray}}:=
   I1.laid (t':=s.toks) (fun b o e=>Heap.get?_push_of_some _ e) (Nat.le_refl _) (show Z4 X.prog X.w _ _ _ (.tup ys) from⟨hz,its,r',IsTup.new _ _⟩)
  exact⟨.ref h'.objs.size,_,I2,rfl,q _ (I1.hok.fresh (Nat.le_refl _))⟩
 ·obtain⟨its,r',pl,hz⟩:=I.tuple hq
  exact call_tuple_same pl ⟨.ref p,H,I,rfl,q⟩
def tyV (K:PySem.W.Frag) (T:String) (x:V) (H:Hp):Prop:=match x with
 | .str _=>T="str"
 | .int _=>T="int"
 | .ref p=>(T="list" ∧∃xs,SqL K H p xs)∨(T="tuple" ∧∃o,K.lookup p=some o∧o.cls= .type "tuple" ∧o.dict=none)∨
   (T="dict" ∧((∃kvs,H p=some (.dK kvs))∨∃kvs,H p=some (.dT kvs)))∨(T="set" ∧∃S n,H p=some (.set S n))
 |_=>False
theorem ZiE {pins:List (Addr×Obj)} {σ:St} {H:Hp} {s:Shared} {T:String} {x:V} {v:Value} (I:Inv X pins σ H s) (r:ZB x v) (ty:tyV X.K T x H):
  s.TypeIs v T∧∀a,v= .ref a→∃ob,s.heap.get? a=some ob∧ob.dict=none:=by
 cases x with
 |str z=>
  obtain⟨t,rfl⟩:=r
  cases (show T="str" from ty)
  exact⟨typeIs_str s z t,fun _ e=>nomatch e⟩
 |int i=>
  obtain⟨t,rfl⟩:=r
  cases (show T="int" from ty)
  exact⟨typeIs_int s i t,fun _ e=>nomatch e⟩
 |ref p=>
  cases r
  rcases ty with⟨rfl,xs,hq⟩|⟨rfl,o,hk,hc,hd⟩|⟨rfl,hk⟩|⟨rfl,S,n,hk⟩
  ·obtain⟨its,_,pl,_⟩:=I.list hq
   refine⟨pl.isList.typeIs,fun a e=>?_⟩
   cases e
   obtain⟨o,n,e,c,hd,_⟩:=pl
   exact⟨o,e,hd⟩
  ·refine⟨⟨o,I.kIn p o hk,hc⟩,fun a e=>?_⟩
   cases e
   exact⟨o,I.kIn _ o hk,hd⟩
  ·have z:∃o,s.heap.get? p=some o∧o.ExactDict:=by
    rcases hk with⟨kvs,hk⟩|⟨kvs,hk⟩
    ·obtain⟨_,_,_,_,o,_,_,e,ex,_⟩:=I.hok p _ hk
     exact⟨o,e,ex⟩
    ·obtain⟨_,_,_,_,o,_,_,e,ex,_⟩:=I.hok p _ hk
     exact⟨o,e,ex⟩
   obtain⟨o,e,ex⟩:=z
   refine⟨⟨o,e,ex.1⟩,fun a e2=>?_⟩
   cases e2
   exact⟨o,e,ex.2.1⟩
  ·obtain⟨o,_,_,_,e,ex,_⟩:=I.hok p _ hk
   refine⟨⟨o,e,ex.1⟩,fun a e2=>?_⟩
   cases e2
   exact⟨o,e,ex.2.1⟩
 |_=>exact False.elim ty
def tBM (K:PySem.W.Frag) (T:String) (r:V→List V→Hp→VK→Prop) (to:TE) (t:TA):TE:=fun σ H Q=>to σ H fun x H1=>tyV K T x H1∧t σ H1 fun xs H2=>r x xs H2 Q
variable {o e:Expr} {es:List Expr} {to:TE} {t:TA} {name:Str} {apos cpos:Pos} {T id:String} {r:V→List V→Hp→VK→Prop}
theorem Zi7 (pa:PlainAttrs T) (slot:Slot T name id) (hty:typeOf (.builtin id)=pure (.type "method_descriptor")) (hm:MtR X id r) (ho:PE X o to) (ha:PA X (e::es) t)
  (hbase:attributeBase o name X.env (eval o X.env)=eval o X.env:=by rfl)
  (hfew:((backTo cpos (starEach (e::es) X.env)).all (fun x=>!x.1)&&(backToKw cpos (keywordEach [] X.env)).all (fun x=>x.1.isSome)
   &&decide ((e::es).length+([]:List Keyword).length+(if([]:List Keyword).isEmpty then 0 else 1)<30))=true:=by rfl)
  (hline:(apos.endLine==cpos.line)=true:=by rfl) (hs:starEach (e::es) X.env=(false,eval e X.env)::starEach es X.env:=by rfl) (hplain:(backTo cpos (starEach es X.env)).any (·.1)=false:=by rfl):
  PE X (.Call (.Attribute o name apos) (e::es) [] cpos) (tBM X.K T r to t):=by
 intro pins s σ H Q I h
 refine wpAny_Call_method_late hbase hfew hline rfl (thn (ho pins s σ H _ I h) fun v s1 ⟨x,H1,I1,r1,ty,q1⟩=>?_)
 obtain⟨h1,h2⟩:=ZiE I1 r1 ty
 refine⟨T,id,pa,slot,hty,h1,h2,?_⟩
 have hA:=ha cpos pins s1 σ H1 _ I1 q1
 rw[hs] at hA⊢
 refine Calls.callWith_builtin (by show(false||(backTo cpos (starEach es X.env)).any (·.1))=false;rw[hplain]<;>rfl) (Calls.evalArgs_plain ?_)
 exact thn hA fun us s2 ⟨vs,H2,I2,r2,q2⟩=>hm pins s2 σ H2 x vs v us Q I2 r1 r2 q2
end
end L2
namespace L2
open PySem PySem.Spec PyProof.Rows
def MtM (X:Cx) (id:String) (r:V→List V→Hp→VK→Prop):Prop:=
 ∀(pins:List (Addr×Obj)) (s:Shared) (σ:St) (H:Hp) (x:V) (xs:List V) (v:Value) (us:List Value) (Q:VK),Inv X pins σ H s→ZB x v→Zw xs us→r x xs H Q→
  wpAny (model X.prog X.w) X.A (call (.builtin id) (v::us)) (EP X pins σ Q) X.xe s
theorem Zw.one:∀{x:V} {us:List Value},Zw [x] us→∃u,us=[u]∧ZB x u
 |_,_,.cons r .nil=>⟨_,rfl,r⟩
theorem Zw.two:∀{x y:V} {us:List Value},Zw [x,y] us→∃u v,us=[u,v]∧ZB x u∧ZB y v
 |_,_,_,.cons r (.cons q .nil)=>⟨_,_,rfl,r,q⟩
theorem Zw.rep {xs:List V} {us:List Value} (h:Zw xs us):∀k:Nat,Zw (List.replicate k xs).flatten (List.replicate k us).flatten
 |0=> .nil
 |k+1=>by
  rw[List.replicate_succ,List.replicate_succ,List.flatten_cons,List.flatten_cons]
  exact Zw.append h (Zw.rep h k)
theorem Zcw (its:List Value):∀(k:Nat) (acc:List Value),
  List.foldl (fun x1 x2=>x1++x2) acc.toArray (List.replicate k its.toArray)=(acc++(List.replicate k its).flatten).toArray
 |0,acc=>by simp
 |k+1,acc=>by
  have e:acc.toArray++its.toArray=(acc++its).toArray:=by simp
  have e2:(acc++its)++(List.replicate k its).flatten=acc++(List.replicate (k+1) its).flatten:=by
   rw[List.replicate_succ,List.flatten_cons,List.append_assoc]
  rw[←e2,←Zcw its k (acc++its),←e,List.replicate_succ,List.foldl_cons]
section
variable {X:Cx} {pins:List (Addr×Obj)} {σ:St} {H:Hp} {s:Shared} {l b:Addr} {xs ys zs:List V}
theorem Inv.lset {its its':List Value} {n:Nat} {f:Array Value→Array Value} {t':Nat} (I:Inv X pins σ H s) (hH:H l=some (.lst xs))
  (e:s.heap.get? l=some {cls:= .type "list",data:= .seq its.toArray n}) (hf:f its.toArray=its'.toArray) (hv:Zw ys its') (hz:ys.length≤sizeLine):
  Inv X pins σ (upd H l (.lst ys)) {s with heap:=s.heap.update l (Obj.mapSeq f),toks:=t'}:=by
 have q:=PySem.IsL.update e f
 rw[hf] at q
 refine I.write (x:=l) (e:=l) (by rw[hH];exact trivial) (.inl rfl) (fun b' u hb hu=>(Heap.get?_update_other s.heap (Obj.mapSeq f) (Ne.symm hb)).trans hu) ⟨_,q⟩ ?_
 exact⟨hz,its',_,hv,q⟩
theorem Inv.lnew {its:List Value} {t':Nat} (I:Inv X pins σ H s) (hv:Zw ys its) (hz:ys.length≤sizeLine):
  Inv X pins σ (upd H s.heap.objs.size (.lst ys)) {s with heap:=s.heap.push {cls:= .type "list",data:= .seq its.toArray},toks:=t'}:=
 I.laid (fun _ _ q=>Heap.get?_push_of_some _ q) (Nat.le_refl _) ⟨hz,its,0,hv,Heap.get?_push_size _ rfl⟩
theorem Inv.fresh (I:Inv X pins σ H s):H s.heap.objs.size=none:=I.hok.fresh (Nat.le_refl _)
theorem Inv.lstM (I:Inv X pins σ H s) (hH:H l=some (.lst xs)):xs.length≤sizeLine∧∃(its:List Value) (n:Nat),Zw xs its∧xs.length=its.length∧s.heap.get? l=some {cls:= .type "list",data:= .seq its.toArray n}:=by
 obtain⟨z,its,n,r,e⟩:=I.hok l _ hH
 exact⟨z,its,n,r,r.length,e⟩
theorem Zdf {n:Nat} (h:n≤sizeLine):Builtin.List.listTooLong n=false:=by
 unfold Builtin.List.listTooLong
 exact decide_eq_false (by omega)
end
section
variable {X:Cx}
def rAppend:V→List V→Hp→VK→Prop:=fun x vs H Q=>∃l xs y,x= .ref l∧vs=[y]∧H l=some (.lst xs)∧xs.length<sizeLine∧Q .non (upd H l (.lst (xs++ [y])))
theorem Yj:MtM X "list.append" rAppend:=by
 intro pins s σ H x vs v us Q I rx rv h
 obtain⟨l,xs,y,rfl,rfl,hH,hz,q⟩:=h
 cases rx
 obtain⟨u,rfl,ru⟩:=rv.one
 obtain⟨z,its,n,r,hl,e⟩:=I.lstM hH
 refine call_meets F.slot_list_append ⟨_,e,rfl⟩ F.entry_list_append (F.args_list_append_2 _ _) (PySem.list_append l its.toArray n u (by rw[List.size_toArray];omega)) ⟨e,?_⟩
 refine⟨.non,_,I.lset (its':=its++ [u]) hH e (by simp) (r.append (.cons ru .nil)) ?_,rfl,q⟩
 rw[List.length_append,List.length_singleton]
 omega
def rExtend:V→List V→Hp→VK→Prop:=fun x vs H Q=>∃l b xs zs,x= .ref l∧vs=[.ref b]∧H l=some (.lst xs)∧H b=some (.lst zs)∧xs.length+zs.length≤sizeLine∧Q .non (upd H l (.lst (xs++zs)))
theorem Zco:MtM X "list.extend" rExtend:=by
 intro pins s σ H x vs v us Q I rx rv h
 obtain⟨l,b,xs,zs,rfl,rfl,hH,hB,hz,q⟩:=h
 cases rx
 obtain⟨u,rfl,ru⟩:=rv.one
 cases ru
 obtain⟨z,its,n,r,hl,e⟩:=I.lstM hH
 obtain⟨z2,its2,n2,r2,hl2,e2⟩:=I.lstM hB
 have hsz:its.toArray.size+its2.toArray.size≤sizeLine:=by rw[List.size_toArray,List.size_toArray];omega
 have hlong:¬(!its.toArray.isEmpty&&Builtin.List.listTooLong (its.toArray.size+its2.toArray.size))=true:=by
  rw[Zdf hsz,Bool.and_false]
  exact Bool.false_ne_true
 refine call_meets F.slot_list_extend ⟨_,e,rfl⟩ F.entry_list_extend (F.args_list_extend_2 _ _)
  (AutoSeq1.list_extend_list_list_0 l its.toArray n b its2.toArray n2 hlong (by rw[List.size_toArray];omega) (by omega)) ⟨e,e2,?_⟩
 refine⟨.non,_,I.lset (its':=its++its2) hH e (by simp) (r.append r2) ?_,rfl,q⟩
 rw[List.length_append]
 omega
def rCat:R2:=fun x y H Q=>∃l b xs zs,x= .ref l∧y= .ref b∧H l=some (.lst xs)∧H b=some (.lst zs)∧xs.length+zs.length≤sizeLine∧∀p,H p=none→Q (.ref p) (upd H p (.lst (xs++zs)))
theorem Zio:OpR X (binaryOp .Add) rCat:=by
 intro pins s σ H x y v u Q I rx ry h
 obtain⟨l,b,xs,zs,rfl,rfl,hH,hB,hz,q⟩:=h
 cases rx
 cases ry
 obtain⟨z,its,n,r,hl,e⟩:=I.lstM hH
 obtain⟨z2,its2,n2,r2,hl2,e2⟩:=I.lstM hB
 refine PySem.P.add_list e e2 ?_ (by rw[List.size_toArray,List.size_toArray];omega)
 have ea:its.toArray++its2.toArray=(its++its2).toArray:=by simp
 rw[ea]
 exact⟨.ref _,_,I.lnew (t':=s.toks) (r.append r2) (by rw[List.length_append];omega),rfl,q _ I.fresh⟩
def rRep:R2:=fun x y H Q=>∃l k xs,x= .ref l∧y= .int k∧H l=some (.lst xs)∧ -(2 ^ 63)≤k∧k<2 ^ 63∧xs.length*k.toNat≤sizeLine∧
 ∀p,H p=none→Q (.ref p) (upd H p (.lst (List.replicate k.toNat xs).flatten))
theorem ZhF {α:Type} (xs:List α) (k:Nat):(List.replicate k xs).flatten.length=k*xs.length:=by
 induction k with
 |zero=>simp
 |succ k ih=>rw[List.replicate_succ,List.flatten_cons,List.length_append,ih,Nat.succ_mul,Nat.add_comm]
theorem ZhV:OpR X (binaryOp .Mult) rRep:=by
 intro pins s σ H x y v u Q I rx ry h
 obtain⟨l,k,xs,rfl,rfl,hH,h1,h2,hz,q⟩:=h
 cases rx
 obtain⟨t,rfl⟩:=ry
 obtain⟨z,its,n,r,hl,e⟩:=I.lstM hH
 have hlen:its.toArray.size*k.toNat≤sizeLine:=by rw[List.size_toArray,←hl];exact hz
 have hcap:¬its.toArray.size*k.toNat > (2 ^ 63-1) / 8:=by
  have:(sizeLine:Nat)≤(2 ^ 63-1) / 8:=by decide
  omega
 have hfit:¬(!Builtin.List.listFitsIndex k)=true:=by
  rw[fitsIndex_both h1 h2]
  exact Bool.false_ne_true
 have hlong:¬Builtin.List.listTooLong (its.toArray.size*k.toNat)=true:=by
  rw[Zdf hlen]
  exact Bool.false_ne_true
 have hnew:List.foldl (fun x1 x2=>x1++x2) #[] (List.replicate (if its.toArray.isEmpty=true then 0 else k.toNat) its.toArray)=(List.replicate k.toNat its).flatten.toArray:=by
  have f0:∀m:Nat,List.foldl (fun x1 x2=>x1++x2) #[] (List.replicate m its.toArray)=(List.replicate m its).flatten.toArray:=fun m=>by
   have:=Zcw its m []
   rw[List.nil_append] at this
   exact this
  rw[f0]
  cases its with
  |nil=>simp
  |cons a r'=>rw[if_neg (by simp)]
 refine wpAny_binaryOp_repeat_ref (T:="list") (U:="int") (by decide) ⟨_,e,rfl⟩ (fun s'=>typeIs_int s' k t) noFill_list_mul F.fills_int_mul F.slot_int_rmul repeat_list F.slot_int_index.lookup
  (call_meets F.slot_int_rmul (typeIs_int s k t) F.entry_int_rmul (F.args_int_rmul_2 _ _) (int___rmul___int_list k t l its.toArray n)
   ⟨e,rfl,⟨_,e,rfl⟩,call_meets F.slot_list_mul ⟨_,e,rfl⟩ F.entry_list_mul (F.args_list_mul_2 _ _) (AutoListH.list___mul___list_int_3 l its.toArray n k t hfit hcap hlong) ⟨e,?_⟩⟩)
 rw[hnew]
 exact⟨.ref _,_,I.lnew (t':=s.toks) (r.rep k.toNat) (by rw[ZhF,Nat.mul_comm];exact hz),rfl,q _ I.fresh⟩
end
section
variable {prog:Program} {w:World} {A:Around} {E:Value→Shared→Prop} {s:Shared}
end
section
variable {X:Cx}
end
end L2
namespace Att
open PySem PySem.W PySem.Calls PyProof.Rows
theorem ZbH {P:Params} {h:Heap}:∀(ns:List Int) (vs:List Value),WellAll P h vs (ns.map WData.int)→IntsAre vs ns:=by
 intro ns
 induction ns with
 |nil=>
  intro vs w
  rw[List.map_nil] at w
  cases w
  exact .nil
 |cons n ns ih=>
  intro vs w
  rw[List.map_cons] at w
  cases w with
  |cons a b=>
   cases a
   exact .cons _ _ (ih _ b)
theorem ZfL {l:OpenLaw} {n:Nat} (hn:l.most=some n) {P:Params} {h:Heap} {args:List WData} {vals:List Value}
  (hpre:l.row.toRowW.claim.pre args=true) (hwl:WellAll P h vals args):
  ∃a vs ns,vals=[Value.ref a]∧args=[WData.list (ns.map WData.int)]∧h.get? a=some {cls:= .type "list",data:= .seq vs.toArray}∧IntsAre vs ns∧ns.length≤n:=by
 have hsh:WShape.hasAll [] args [.list .int]=true:=(pre_splitW hpre).1
 have hc:l.pre.holds [] {args:=args}=true:=(pre_splitW hpre).2
 obtain⟨d,r,rfl,h1,h2⟩:=hasAllW_cons hsh
 obtain rfl:=hasAllW_nil h2
 obtain⟨xs,rfl,h3⟩:=hasW_list h1
 obtain⟨ns,rfl⟩:=items_int h3
 have hlen:ns.length≤n:=by
  unfold OpenLaw.pre at hc
  have h4:(WTm.not (.lt (.lit (.int (n:Int))) (.len (.arg 0)))).holds [] {args:=[.list (ns.map .int)]}=true:=by
   have h4:=(holds_andW hc).1
   rw[hn] at h4
   exact h4
  have h5:=condW_of h4 (w_not (w_lt w_lit (w_len_list (w_arg rfl))))
  rw[List.length_map] at h5
  refine Nat.le_of_not_lt fun q=>?_
  have q':(n:Int)<((ns.length:Nat):Int):=by omega
  first
   |(rw[decide_eq_true q'] at h5;exact absurd h5 (by decide))
   |(simp at h5;omega)
 cases hwl with
 |cons w1 w2=>
  cases w2
  cases w1 with
  |list ho hall=>exact⟨_,_,ns,rfl,rfl,ho,ZbH ns _ hall,hlen⟩
theorem ZfP (l:OpenLaw) (args:List WData):l.row.toRowW.claim.post args (.bool true) args=true:=
 postW_of (r:=l.row.toRowW) (X:=(true==true))
  (show WShape.has [] (.bool true) .bool=true by first|rfl|decide|simp[WShape.has,WShape.arms,WShape.armsAll])
  (show(WTm.eq .res (.lit (.bool true))).value [] {args:=args,res:=some (.bool true),after:=args}=some (.bool (true==true)) from w_eq_bool (w_res rfl) w_lit) rfl
theorem Zd0 {l:OpenLaw} {n:Nat} {q:Program} {loose:List Str} {XP:(Str→Option Value)→Heap→Prop} {YP:World→Heap→Prop} {d:DefRec}
  (hn:l.most=some n) (hdf:d.params.defaults=[])
  (call:∀(w:World) (s₀ s₁:Shared) (mg mb:Str→Option Value) (fa:Addr) (o:Obj) (pm cd doc:Value) (a:Addr) (vs:List Value) (ns:List Int),
   Ground q loose [] XP w s₀ mg mb s₁.heap→YP w s₁.heap→
   s₁.heap.get? fa=some o→o.data= .func (docDef d.name d.params d.body d.scope pm cd doc)→s₁.heap.CodeRec cd d.name→mg d.name=some (.ref fa)→
   s₁.heap.get? a=some {cls:= .type "list",data:= .seq vs.toArray}→IntsAre vs ns→ns.length≤n→s₁.gens=#[]→
   codeAny (model l.prog w) callerA (.call (.ref fa) ⟨[.ref a],[]⟩) (fun r s'=>r= .ok (.ret (.bool true))∧OldK s₁.heap s'.heap∧s'.os=s₁.os∧AllBare s'.gens) s₁):
  WalkO q loose XP YP l.row.toRowW d [] (fun f vs=>PySem.call f vs):=by
 intro w s₀ s₁ mg mb G Y fa o pm cd doc dV kV ho hd hcd hD hmg hg args vals as hpre hlay hrd hwl hlo
 obtain rfl:dV= .none:=Dflts.none hD hdf
 obtain rfl:kV= .none:=Dflts.noKw hD
 obtain⟨a,vs,ns,rfl,rfl,hobj,hints,hlen⟩:=ZfL hn hpre hwl
 refine enter_call (codeAny_mono (call w s₀ s₁ mg mb fa o pm cd doc a vs ns G Y ho (fd_plain hd) hcd hmg hobj hints hlen hg) fun r s' hq=>?_)
 obtain⟨rfl,h2,h3,h4⟩:=hq
 exact⟨.inl ⟨.bool true,.bool true,[],rfl,fun _=>rfl,.bool true,ZfP l _,fun _=>⟨List.Pairwise.nil,fun _ hm=>(nomatch hm)⟩⟩,h2,h3,h4⟩
section
variable {prog:Program} {w:World} {A:Around} {E:Value→Shared→Prop} {s:Shared} {K:Frag}
end
end Att
namespace L2
open PySem PySem.Spec PyProof.Rows
theorem ZcN:∀{vs:List Value} {ns:List Int},IntsAre vs ns→Zw (ns.map V.int) vs
 |_,_,.nil=> .nil
 |_,_,.cons n t h=> .cons ⟨t,rfl⟩ (ZcN h)
def ZgV (H:Hp):Prop:=∀b,H b=none∨∃o xs,H b=some (.frz o (.lst xs))
theorem Zgs {P:Program} {w:World} {K:PySem.W.Frag} {mg mb:Str→Option Value} {CX:CXT} {k:Nat} {fa a:Addr} {fd:FuncData} {x:Str} {sp:Sp} {s₁:Shared} {vs:List Value} {ns:List Int}
  (KX:K.In s₁.heap) (hns:s₁.heap.Ns mainGlobals mg) (hb:s₁.heap.Ns builtinsNs mb) (hbb:∀x:Str,x≠"__name__" →mb x=bootBuiltins x) (hlim:s₁.heap.NoLimit) (hg:s₁.gens=#[])
  (ha:s₁.heap.get? a=some {cls:= .type "list",data:= .seq vs.toArray}) (hi:IntsAre vs ns) (hl:ns.length≤sizeLine) (hr:Yw k callerA)
  (F:∀base:Heap,K.In base→base.Ns mainGlobals mg→Zj P w K mg base CX k fa fd [x] sp) (hbind:∀(s:Shared) (u:Value),BindsTo s fd ⟨[u],[]⟩ [(x,u)])
  (hsp:∀H:Hp,ZgV H→SqL K H a (ns.map V.int)→sp [.ref a] H (fun v _=>v= .bl true) fun _ _ _=>False)
  (hCX:∀H e s',CX [] H s₁ (fun _ _ _=>False) e s'→False):
  codeAny (model P w) callerA (.call (.ref fa) ⟨[.ref a],[]⟩) (fun r s'=>r= .ok (.ret (.bool true))∧OldK s₁.heap s'.heap∧s'.os=s₁.os∧AllBare s'.gens) s₁:=by
 have rv:=ZcN hi
 have lenV:=hi.length
 have core:∀H:Hp,ZgV H→SqL K H a (ns.map V.int)→HOk P w H s₁.heap→(∀b,H b≠none→b=a)→(H a≠none→K.lookup a=none)→
   codeAny (model P w) callerA (.call (.ref fa) ⟨[.ref a],[]⟩) (fun r s'=>r= .ok (.ret (.bool true))∧OldK s₁.heap s'.heap∧s'.os=s₁.os∧AllBare s'.gens) s₁:=by
  intro H hO hS hok hA hK
  have base_of:∀{b:Addr} {o:Obj},s₁.heap.get? b=some o→H b=none→(Zae s₁.heap H).get? b=some o:=fun e n=>ZgU e n
  have noA:∀{b:Addr} {o:Obj} {es:Array DictEntry} {ep:Nat},s₁.heap.get? b=some o→o.data= .dict es ep→H b=none:=fun{b o es ep} e d=>by
   cases q:H b with
   |none=>rfl
   |some u=>
    have e':b=a:=hA b (by rw[q];simp)
    subst e'
    rw[ha] at e;cases e
    have d':Data.seq vs.toArray _=Data.dict es ep:=d
    cases d'
  have nsK:∀{b:Addr} {m:Str→Option Value},s₁.heap.Ns b m→(Zae s₁.heap H).Ns b m:=fun{b m} ⟨o,es,ep,e,d,r⟩=>⟨o,es,ep,base_of e (noA e d),d,r⟩
  have hKb:K.In (Zae s₁.heap H):=fun b o e=>base_of (KX b o e) (by
   cases q:H b with
   |none=>rfl
   |some u=>
    have e':b=a:=hA b (by rw[q];simp)
    subst e'
    rw[hK (by rw[q];simp)] at e;cases e)
  have hM:Mod K mg (Zae s₁.heap H):=⟨hKb,nsK hns,⟨mb,nsK hb,hbb⟩,let⟨mc,h1,h2⟩:=hlim;⟨mc,nsK h1,h2⟩⟩
  have e0:Zbu P w K mg (Zae s₁.heap H) callerA [] s₁ H:=⟨rfl,hM,fun b o e=>Zhk e,Nat.le_of_eq (ZfU _ _),trivial,fun b hb=>absurd (show b∈([]:List Addr) from hb) (by simp),hok,.of_eq hg⟩
  refine codeAny_mono ((F _ hKb (nsK hns)).run callerA [] s₁ H ⟨[.ref a],[]⟩ [.ref a] [.ref a] _ _ hr e0 (hbind s₁ (.ref a)) (.cons rfl .nil) (hsp H hO hS)) fun r s' h=>?_
  cases r with
  |error e=>exact(hCX H e s' h).elim
  |ok fl=>
   cases fl with
   |next=>exact False.elim h
   |brk=>exact False.elim h
   |cont=>exact False.elim h
   |ret u=>
    obtain⟨v,H',os,bare,un,hok',r',q⟩:=h
    have q':v= .bl true:=q
    subst q'
    obtain rfl:u=Value.bool true:=r'
    refine⟨rfl,OldK.of_keep fun b o e=>?_,os,bare⟩
    cases q:H b with
    |none=>exact un.keep b o e q (by intro z;exact absurd (show b∈([]:List Addr) from z) (by simp)) (by simp)
    |some u=>
     rcases hO b with z|⟨ob,xs,z⟩
     ·rw[q] at z;cases z
     ·have z2:=un.frzs b ob _ z
      obtain⟨e1,_⟩:=hok b _ z
      obtain⟨e2,_⟩:=hok' b _ z2
      rw[e] at e1;cases e1
      exact e2
 cases hk:K.lookup a with
 |some o=>
  have e:=KX a o hk
  rw[ha] at e
  cases e
  refine core (fun _=>none) (fun _=> .inl rfl) (.inr ⟨_,vs.toArray,_,hk,rfl,rfl,rfl,by rw[List.size_toArray,lenV];exact hl,by simpa using rv⟩) (fun b u z=>by have z':(none:Option HO)=some u:=z;cases z') (fun b z=>absurd rfl z) fun z=>absurd rfl z
 |none=>
  refine core (fun b=>if b=a then some (.frz {cls:= .type "list",data:= .seq vs.toArray} (.lst (ns.map V.int))) else none) (fun b=>?_) (.inl (.inr ⟨{cls:= .type "list",data:= .seq vs.toArray},if_pos rfl⟩)) (fun b u z=>?_) (fun b z=>?_) fun _=>hk
  ·by_cases hb:b=a
   ·exact .inr ⟨_,_,if_pos hb⟩
   ·exact .inl (if_neg hb)
  ·by_cases hb:b=a
   ·have z':=(if_pos hb).symm.trans z
    cases z'
    subst hb
    exact⟨ha,by rw[List.length_map];exact hl,vs,_,rv,ha⟩
   ·have z':=(if_neg hb).symm.trans z
    cases z'
  ·by_cases hb:b=a
   ·exact hb
   ·exact absurd (if_neg hb) z
end L2
namespace L2
open PySem PySem.Spec PyProof.Rows
theorem Zhp {l:PySem.W.OpenLaw} {n k:Nat} {q:Program} {loose:List Str} {XP:(Str→Option Value)→Heap→Prop} {YP:World→Heap→Prop} {d:DefRec} {K:Params→PySem.W.Frag} {CX:World→CXT} {sp:World→Sp} {x:Str}
  (hn:l.most=some n) (hn2:n≤sizeLine) (hdf:d.params.defaults=[]) (hr:Yw k callerA)
  (hY:∀(w:World) (h:Heap),YP w h→(K w.params).In h)
  (F:∀(w:World) (mg:Str→Option Value) (fa:Addr) (h:Heap),(K w.params).In h→h.Ns mainGlobals mg→mg d.name=some (.ref fa)→
   ∃fd:FuncData,(∀(s:Shared) (u:Value),BindsTo s fd ⟨[u],[]⟩ [(x,u)])∧
    ∀base:Heap,(K w.params).In base→base.Ns mainGlobals mg→Zj l.prog w (K w.params) mg base (CX w) k fa fd [x] (sp w))
  (hsp:∀(w:World) (H:Hp) (a:Addr) (ns:List Int),ns.length≤n→ZgV H→SqL (K w.params) H a (ns.map V.int)→sp w [.ref a] H (fun v _=>v= .bl true) fun _ _ _=>False)
  (hCX:∀(w:World) (H:Hp) (s:Shared) (e:Value) (s':Shared),CX w [] H s (fun _ _ _=>False) e s'→False):
  PySem.W.WalkO q loose XP YP l.row.toRowW d [] (fun f vs=>PySem.call f vs):=by
 refine Att.Zd0 hn hdf fun w s₀ s₁ mg mb fa o pm cd doc a vs ns G Y ho hd hcd hmg hobj hints hlen hg=>?_
 have KX:=hY w _ Y
 obtain⟨fd,hb,hF⟩:=F w mg fa _ KX G.T.g hmg
 exact Zgs KX G.T.g G.T.b G.T.builtins G.T.nolimit hg hobj hints (Nat.le_trans hlen hn2) hr hF hb (fun H hO hS=>hsp w H a ns hlen hO hS) fun H e s'=>hCX w H s₁ e s'
end L2
namespace L2
open PySem PySem.Spec PyProof.Rows
def ZY (s:Stmt) (j:Nat):Stmt:=match s with
 | .ClassDef _ _ _ body _ _ _ _ _ _ _=>body.getD j (.Pass ⟨0,0,0,0⟩)
 |_=> .Pass ⟨0,0,0,0⟩
def Vf (s:Stmt):Arguments:=match s with
 | .FunctionDef _ a _ _ _ _ _ _ _ _=>a
 |_=>{posonlyargs:=[],args:=[],vararg:=none,kwonlyargs:=[],kw_defaults:=[],kwarg:=none,defaults:=[]}
def WF (s:Stmt):List Stmt:=match s with
 | .FunctionDef _ _ b _ _ _ _ _ _ _=>b
 |_=>[]
def Zh (s:Stmt):Scope:=match s with
 | .FunctionDef _ _ _ _ _ _ sc _ _ _=>sc
 |_=>{kind:= .function,names:=[],isGenerator:=false,isCoroutine:=false}
abbrev E0:XK:=fun _ _ _=>False
structure Fun (K:PySem.W.Frag) (x qual:Str) (st:Stmt) (f:Addr) (fd:FuncData):Prop where
 ex:∃(oc:Value) (od:Option Addr) (kV doc pm:Value) (an:Option Addr) (cdv ct:Value) (osl:Array (Option Value)),
  fd=PySem.W.fnOf x qual (Vf st) (WF st) (Zh st) .none kV doc pm an cdv ct∧K.lookup f=some ⟨oc,od,.func fd,osl⟩∧PySem.W.codeIn K cdv qual=true
 kp:PySem.W.keepIn K (.ref f)=true
section
variable {P:Program} {w:World} {K:PySem.W.Frag} {mg:Str→Option Value} {base:Heap}
theorem Fun.binds {x qual:Str} {st:Stmt} {f:Addr} {fd:FuncData} {ps:List Str} (F:Fun K x qual st f fd)
  (h:∀(kV doc pm:Value) (an:Option Addr) (cdv ct:Value) (us:List Value),us.length=ps.length→bindArgs (PySem.W.fnOf x qual (Vf st) (WF st) (Zh st) .none kV doc pm an cdv ct) ⟨us,[]⟩=pure (ps.zip us)):Zv K fd ps []:=by
 obtain⟨oc,od,kV,doc,pm,an,cdv,ct,osl,rfl,lk,hcd⟩:=F.ex
 exact .all (h kV doc pm an cdv ct)
theorem Zy {x qual:Str} {st:Stmt} {f:Addr} {oc:Value} {od an:Option Addr} {osl:Array (Option Value)} {kV doc pm cdv ct:Value} (l:K.lookup f=some ⟨oc,od,.func (PySem.W.fnOf x qual (Vf st) (WF st) (Zh st) .none kV doc pm an cdv ct),osl⟩)
  (c:PySem.W.codeIn K cdv qual=true) (k:PySem.W.keepIn K (.ref f)=true):Fun K x qual st f (PySem.W.fnOf x qual (Vf st) (WF st) (Zh st) .none kV doc pm an cdv ct):=⟨⟨oc,od,kV,doc,pm,an,cdv,ct,osl,rfl,l,c⟩,k⟩
end
theorem Zu {n:Nat} (h:n≤1000):n<sizeLine:=Nat.lt_of_le_of_lt h (by decide)
section
variable {X:Cx}
theorem pv (i:Nat) {x:Str} {pos:Pos} (hN:X.N[i]? =some x:=by rfl) (hv:Vis X.env.scope x:=by first|exact Or.inl rfl|exact Or.inr (Or.inl rfl)|exact Or.inr (Or.inr rfl)) (hd:(x==("__debug__" :Str))=false:=by decide)
  (hcd:(x==("__classdict__" :Str))=false:=by decide):PE X (.Name x pos) (ZeP i):=ZiU hN hv hd hcd
end
theorem Zdb {A B:Prop} (h:B):if false=true then A else B:=by
 rw[if_neg Bool.false_ne_true]
 exact h
theorem ZdR {A B:Prop} (h:A):if true=true then A else B:=by
 rw[if_pos rfl]
 exact h
theorem Zbz {c A B:Prop} [Decidable c] (h1:c→A) (h2:¬c→B):if c then A else B:=by
 by_cases h:c
 ·rw[if_pos h]
  exact h1 h
 ·rw[if_neg h]
  exact h2 h
def Zd (H H':Hp):Prop:=∀b o,H b=some o→H' b=some o
theorem Zd.refl (H:Hp):Zd H H:=fun _ _ h=>h
theorem Zd.trans {H H1 H2:Hp} (a:Zd H H1) (b:Zd H1 H2):Zd H H2:=fun c o h=>b c o (a c o h)
theorem Zd.seq {K:PySem.W.Frag} {H H':Hp} {a:Addr} {xs:List V} (e:Zd H H') (h:SqL K H a xs):SqL K H' a xs:=by
 rcases h with(h|⟨o,h⟩)|h
 ·exact .inl (.inl (e _ _ h))
 ·exact .inl (.inr ⟨o,e _ _ h⟩)
 ·exact .inr h
end L2
namespace L2
open PySem PySem.Spec PyProof.Rows
section
variable {κ:Type} [DecidableEq κ]
def WU (kvs:List (κ×V)) (k:κ):Option V:=(kvs.find? fun kv=>decide (kv.1=k)).map (·.2)
def W8 (kvs:List (κ×V)) (k:κ) (v:V):List (κ×V):=
 if(kvs.any fun kv=>decide (kv.1=k))=true then kvs.map (fun kv=>if kv.1=k then(kv.1,v) else kv) else kvs++ [(k,v)]
theorem Zby {p:κ×V} {r:List (κ×V)} {k:κ} (e:p.1=k):WU (p::r) k=some p.2:=by simp[WU,List.find?_cons,e]
theorem ZbB {p:κ×V} {r:List (κ×V)} {k:κ} (e:¬p.1=k):WU (p::r) k=WU r k:=by simp[WU,List.find?_cons,e]
theorem Zak (k:κ):∀kvs:List (κ×V),(kvs.any fun kv=>decide (kv.1=k))=(WU kvs k).isSome
 | []=>rfl
 |p::r=>by
  rw[List.any_cons]
  by_cases e:p.1=k
  ·simp only[Zby e,decide_eq_true e,Bool.true_or,Option.isSome_some]
  ·rw[ZbB e,decide_eq_false e,Bool.false_or];exact Zak k r
theorem Zbo (kvs:List (κ×V)) (k:κ) (v:V):(W8 kvs k v).length≤kvs.length+1:=by
 unfold W8
 split
 ·rw[List.length_map];omega
 ·rw[List.length_append,List.length_cons,List.length_nil];omega
theorem Zgl {kvs:List (κ×V)} {k:κ} (v:V) (h:WU kvs k=none):W8 kvs k v=kvs++ [(k,v)]:=by
 unfold W8
 rw[Zak,h]
 exact if_neg (by decide)
theorem Vg.isSome_eq {o:Option V} {u:Option Value} (r:Vg o u):o.isSome=u.isSome:=by
 cases o with
 |none=>cases u with
  |none=>rfl
  |some _=>exact(show False from r).elim
 |some _=>cases u with
  |none=>exact(show False from r).elim
  |some _=>rfl
theorem KV.val {kvs:List (κ×V)} {vs:List (κ×Value)} (r:KV kvs vs) (k:κ):Vg (WU kvs k) (valueAt vs k):=by
 unfold KV at r
 induction r with
 |nil=>exact True.intro
 | @cons p q ps qs h t ih=>
  obtain⟨h1,h2⟩:=h
  by_cases e:p.1=k
  ·have e':q.1=k:=h1.symm.trans e
   have b:valueAt (q::qs) k=some q.2:=by simp[valueAt,List.find?_cons,e']
   rw[Zby e,b];exact h2
  ·have e':¬q.1=k:=fun z=>e (h1.trans z)
   have b:valueAt (q::qs) k=valueAt qs k:=by simp[valueAt,List.find?_cons,e']
   rw[ZbB e,b];exact ih
theorem KV.any {kvs:List (κ×V)} {vs:List (κ×Value)} (r:KV kvs vs) (k:κ):(kvs.any fun kv=>decide (kv.1=k))=vs.any fun kv=>decide (kv.1=k):=by
 unfold KV at r
 induction r with
 |nil=>rfl
 |cons h t ih=>rw[List.any_cons,List.any_cons,ih,h.1]
theorem KV.repl {kvs:List (κ×V)} {vs:List (κ×Value)} (r:KV kvs vs) (k:κ) {y:V} {u:Value} (ry:ZB y u):
  KV (kvs.map fun kv=>if kv.1=k then(kv.1,y) else kv) (vs.map fun kv=>if kv.1=k then(kv.1,u) else kv):=by
 unfold KV at r⊢
 induction r with
 |nil=>exact .nil
 | @cons p q ps qs h t ih=>
  rw[List.map_cons,List.map_cons]
  refine .cons ?_ ih
  obtain⟨h1,h2⟩:=h
  by_cases e:p.1=k
  ·rw[if_pos e,if_pos (h1.symm.trans e)];exact⟨h1,ry⟩
  ·rw[if_neg e,if_neg (fun z=>e (h1.trans z))];exact⟨h1,h2⟩
theorem KV.put {kvs:List (κ×V)} {vs:List (κ×Value)} (r:KV kvs vs) (k:κ) {y:V} {u:Value} (ry:ZB y u):KV (W8 kvs k y) (stored vs k u):=by
 unfold W8 stored
 rw[r.any k]
 by_cases e:(vs.any fun kv=>decide (kv.1=k))=true
 ·rw[if_pos e,if_pos e];exact r.repl k ry
 ·rw[if_neg e,if_neg e];exact Paired.snoc r ⟨rfl,ry⟩
theorem KV.length {kvs:List (κ×V)} {vs:List (κ×Value)} (r:KV kvs vs):kvs.length=vs.length:=Paired.length r
end
theorem ZeL {P:Program} {w:World} {k:Key} {u:Value} (r:ZB (kV k) u):(Yu P w).is k u=true:=by
 cases k with
 |inl i=>obtain⟨t,e⟩:=(show ∃t,u=Value.int i t from r);subst e;exact Zd2 P w i t
 |inr x=>obtain⟨t,e⟩:=(show ∃t,u=Value.str x t from r);subst e;exact Zeh P w x t
theorem ZiL {a b:Key} (e:kV a=kV b):a=b:=by
 cases a with
 |inl i=>cases b with
  |inl j=>have e':V.int i=V.int j:=e;injection e' with e';rw[e']
  |inr y=>exact nomatch (show V.int i=V.str y from e)
 |inr x=>cases b with
  |inl j=>exact nomatch (show V.str x=V.int j from e)
  |inr y=>have e':V.str x=V.str y:=e;injection e' with e';rw[e']
theorem ZcF {P:Program} {w:World}:∀{ks:List Key} {us:List Value},Zw (ks.map kV) us→ItemsAre (Yu P w) ks us
 | [],_,r=>by rw[List.map_nil] at r;cases r;exact .nil
 |k::ks,_,r=>by
  rw[List.map_cons] at r
  cases r with
  |cons h t=>exact .cons (ZeL h) (ZcF t)
abbrev KT (H:Hp):List (List Key×V)→List (List Key×Addr×Value)→Prop:=Paired fun p q=>p.1=q.1∧H q.2.1=some (.tup (p.1.map kV))∧ZB p.2 q.2.2
theorem KT.val {H:Hp} {kvs:List (List Key×V)} {xs:List (List Key×Addr×Value)} (r:KT H kvs xs) (k:List Key):Vg (WU kvs k) ((atKey xs k).map (·.2)):=by
 induction r with
 |nil=>exact True.intro
 | @cons p q ps qs h t ih=>
  obtain⟨h1,_,h2⟩:=h
  by_cases e:p.1=k
  ·have e':q.1=k:=h1.symm.trans e
   have b:atKey (q::qs) k=some q.2:=by simp[atKey,List.find?_cons,e']
   rw[Zby e,b];exact h2
  ·have e':¬q.1=k:=fun z=>e (h1.trans z)
   have b:atKey (q::qs) k=atKey qs k:=by simp[atKey,List.find?_cons,e']
   rw[ZbB e,b];exact ih
theorem KT.repl {H:Hp} {kvs:List (List Key×V)} {xs:List (List Key×Addr×Value)} (r:KT H kvs xs) (k:List Key) {y:V} {u:Value} (ry:ZB y u):
  KT H (kvs.map fun kv=>if kv.1=k then(kv.1,y) else kv) (xs.map (putAt k u)):=by
 induction r with
 |nil=>exact .nil
 | @cons p q ps qs h t ih=>
  rw[List.map_cons,List.map_cons]
  refine .cons ?_ ih
  obtain⟨h1,h2,h3⟩:=h
  unfold putAt
  by_cases e:p.1=k
  ·rw[if_pos e,if_pos (h1.symm.trans e)];exact⟨h1,h2,ry⟩
  ·rw[if_neg e,if_neg (fun z=>e (h1.trans z))];exact⟨h1,h2,h3⟩
theorem KT.put {H:Hp} {kvs:List (List Key×V)} {xs:List (List Key×Addr×Value)} (r:KT H kvs xs) (k:List Key) {b:Addr} {y:V} {u:Value} (hb:H b=some (.tup (k.map kV))) (ry:ZB y u):
  KT H (W8 kvs k y) (storedH xs k b u):=by
 have e:(kvs.any fun kv=>decide (kv.1=k))=(atKey xs k).isSome:=by
  rw[Zak,(r.val k).isSome_eq,Option.isSome_map]
 unfold W8 storedH
 rw[e]
 by_cases q:(atKey xs k).isSome=true
 ·rw[if_pos q,if_pos q];exact r.repl k ry
 ·rw[if_neg q,if_neg q];exact Paired.snoc r ⟨rfl,hb,ry⟩
theorem KT.keeps {H H':Hp} {kvs:List (List Key×V)} {xs:List (List Key×Addr×Value)} (r:KT H kvs xs) (ht:∀b ys,H b=some (.tup ys)→H' b=some (.tup ys)):KT H' kvs xs:=
 Paired.mapP r fun _ _ z=>⟨z.1,ht _ _ z.2.1,z.2.2⟩
section
variable {P:Program} {w:World} {H:Hp} {h:Heap} {a:Addr}
theorem ZgX {u:HO} (ok:HOk P w H h) (e:Rd H a u):Z4 P w H h a u:=e.ok ok
theorem Zfx {kvs:List (Key×V)} (ok:HOk P w H h) (e:Rd H a (.dK kvs)):kvs.length≤sizeLine∧(a==sysModules)=false∧∃vs,KV kvs vs∧h.DictOf (Yu P w) a vs:=
 show Z4 P w H h a (.dK kvs) from ZgX ok e
theorem ZgY {kvs:List (Key×V)} (ok:HOk P w H h) (e:H a=some (.dK kvs)):kvs.length≤sizeLine∧(a==sysModules)=false∧∃vs,KV kvs vs∧h.DictOf (Yu P w) a vs:=Zfx ok (.inl e)
theorem Zdl {ks:List Key} (ok:HOk P w H h) (e:H a=some (.tup (ks.map kV))):(tupleKind (Yu P w)).is h ks a:=by
 obtain⟨_,its,r,o,h1,h2,n,h3⟩:=(show Z4 P w H h a (.tup (ks.map kV)) from ok a _ e)
 exact⟨o,its.toArray,n,h1,h2,h3,by simpa using ZcF r⟩
theorem Zhe {kvs:List (List Key×V)} (ok:HOk P w H h) (e:Rd H a (.dT kvs)):kvs.length≤sizeLine∧(a==sysModules)=false∧
  ∃xs,KT H kvs xs∧h.DictOfH (tupleKind (Yu P w)) a xs:=by
 obtain⟨z,y,xs,r,o,es,ep,h1,h2,h3,h4,h5⟩:=(show Z4 P w H h a (.dT kvs) from ZgX ok e)
 refine⟨z,y,xs,r,o,es,ep,h1,h2,h3,h4,fun x hx=>?_,h5⟩
 have all:∀{l:List (List Key×V)} {m:List (List Key×Addr×Value)},KT H l m→∀x∈m,(tupleKind (Yu P w)).is h x.1 x.2.1:=by
  intro l m q
  induction q with
  |nil=>intro x hx;exact nomatch hx
  | @cons p q ps qs hq t ih=>
   intro x hx
   rcases List.mem_cons.mp hx with e|hx
   ·subst e
    exact Zdl ok (by rw[←hq.1];exact hq.2.1)
   ·exact ih x hx
 exact all r x hx
theorem Zjc {kvs:List (List Key×V)} (ok:HOk P w H h) (e:H a=some (.dT kvs)):kvs.length≤sizeLine∧(a==sysModules)=false∧
  ∃xs,KT H kvs xs∧h.DictOfH (tupleKind (Yu P w)) a xs:=Zhe ok (.inl e)
end
def Zdx (H:Hp) (a:Addr) (y:V) (r:Option V):Prop:=
 (∃kvs k,Rd H a (.dK kvs)∧y=kV k∧r=WU kvs k)∨∃kvs k b,Rd H a (.dT kvs)∧y= .ref b∧H b=some (.tup (k.map kV))∧r=WU kvs k
def Zdc (H:Hp) (a:Addr) (y v:V) (H':Hp):Prop:=
 (∃kvs k,H a=some (.dK kvs)∧y=kV k∧kvs.length<sizeLine∧H'=upd H a (.dK (W8 kvs k v)))∨
 ∃kvs k b,H a=some (.dT kvs)∧y= .ref b∧H b=some (.tup (k.map kV))∧kvs.length<sizeLine∧H'=upd H a (.dT (W8 kvs k v))
theorem Zdx.k {H:Hp} {a:Addr} {kvs:List (Key×V)} {k:Key} (e:H a=some (.dK kvs)):Zdx H a (kV k) (WU kvs k):= .inl ⟨kvs,k,.inl e,rfl,rfl⟩
theorem Zdc.k {H:Hp} {a:Addr} {kvs:List (Key×V)} {k:Key} {v:V} (e:H a=some (.dK kvs)) (hl:kvs.length<sizeLine):Zdc H a (kV k) v (upd H a (.dK (W8 kvs k v))):= .inl ⟨kvs,k,e,rfl,hl,rfl⟩
section
variable {X:Cx} {pins:List (Addr×Obj)} {σ:St} {H:Hp} {s:Shared} {a:Addr} {y v:V} {u r:Value} {o:Option V} {A:Around} {E:Value→Shared→Prop}
theorem Inv.big (I:Inv X pins σ H s):sysModules<s.heap.objs.size:=by
 have h:mainGlobals<s.heap.objs.size:=(I.mod.glob.keeps I.bk).lt
 exact Nat.lt_trans (by decide) h
theorem ZjT {Q:Value→Shared→Prop} (hu:A.units+1<cLine) (I:Inv X pins σ H s) (g:Zdx H a y o) (ry:ZB y u) (h:∀s',Inv X pins σ H s'→Q (.bool o.isSome) s'):
  wpAny (model X.prog X.w) A (compareOp .In u (.ref a)) Q E s:=by
 rcases g with⟨kvs,k,e,ey,l⟩|⟨kvs,k,b,e,ey,eb,l⟩
 ·subst ey
  obtain⟨z,hd,vs,rel,dd⟩:=Zfx I.hok e
  refine wpAny_in_of (ZeL ry) hd dd.mapOf ?_
  rw[←(rel.val k).isSome_eq,←l]
  exact h _ (I.tok _)
 ·subst ey
  cases (show u=Value.ref b from ry)
  obtain⟨z,hd,xs,rel,dd⟩:=Zhe I.hok e
  refine wpAny_in_heap (tupleKind_room_in1 hu) (Zdl I.hok eb) hd dd ?_
  have q:=(rel.val k).isSome_eq
  rw[Option.isSome_map] at q
  rw[←q,←l]
  exact h _ (I.tok _)
theorem Zeu {h':Heap} {t':Nat} {ob:HO} (I:Inv X pins σ H s) (mu:Mut (H a)) (hs:Heap.SameBut a s.heap h') (he:∃q,h'.get? a=some q) (new:Z4 X.prog X.w (upd H a ob) h' a ob):
  Inv X pins σ (upd H a ob) {s with heap:=h',toks:=t'}:=
 I.write (x:=a) (e:=a) mu (.inl rfl) (fun b q hb z=>(hs.2 b hb).trans z) he new
theorem Zh6 {P:Program} {w:World} {H':Hp} {h':Heap} {kvs:List (Key×V)} {vs:List (Key×Value)} (z:kvs.length≤sizeLine) (hd:(a==sysModules)=false) (rel:KV kvs vs) (dd:h'.DictOf (Yu P w) a vs):
  Z4 P w H' h' a (.dK kvs):=⟨z,hd,vs,rel,dd⟩
theorem Zf6 {H':Hp} {Q:Unit→Shared→Prop} (hu:A.units+1<cLine) (I:Inv X pins σ H s) (g:Zdc H a y v H') (ry:ZB y u) (rv:ZB v r) (h:∀s',Inv X pins σ H' s'→Q () s'):
  wpAny (model X.prog X.w) A (setItem (.ref a) u r) Q E s:=by
 rcases g with⟨kvs,k,e,ey,l,eH⟩|⟨kvs,k,b,e,ey,eb,l,eH⟩
 ·subst ey eH
  obtain⟨z,hd,vs,rel,dd⟩:=ZgY I.hok e
  have hz:vs.length≤sizeLine:=by rw[←rel.length];exact z
  have hl:(W8 kvs k v).length≤sizeLine:=by have:=Zbo kvs k v;omega
  refine wpAny_setItem_pairs (hsz:=hz) (ZeL ry) dd fun h' dd' hs=>h _ ?_
  have he:∃q,h'.get? a=some q:=let⟨q,_,_,hq,_⟩:=dd';⟨q,hq⟩
  exact Zeu I (by rw[e];exact True.intro) hs he (Zh6 hl hd (rel.put k rv) dd')
 ·subst ey eH
  cases (show u=Value.ref b from ry)
  obtain⟨z,hd,xs,rel,dd⟩:=Zjc I.hok e
  have hz:xs.length≤sizeLine:=by rw[←Paired.length rel];exact z
  have hl:(W8 kvs k v).length≤sizeLine:=by have:=Zbo kvs k v;omega
  refine wpAny_setItem_heap (hsz:=hz) (tupleKind_room_in1 hu) (Zdl I.hok eb) dd fun h' dd' hs=>h _ ?_
  obtain⟨q,es,ep,hq,h2,h3,h4,_,h5⟩:=dd'
  refine Zeu I (by rw[e];exact True.intro) hs ⟨q,hq⟩ ⟨hl,hd,_,(rel.put k eb rv).keeps fun c ys ec=>?_,q,es,ep,hq,h2,h3,h4,h5⟩
  rw[Zi (WH ec e (fun z=>nomatch z))]
  exact ec
end
section
variable {X:Cx} {pins:List (Addr×Obj)} {σ:St} {H:Hp} {s:Shared} {a:Addr} {kvs:List (Key×V)} {k:Key} {u:Value} {A:Around} {E:Value→Shared→Prop}
theorem Zjh {Q:Value→Shared→Prop} (I:Inv X pins σ H s) (e:Rd H a (.dK kvs)) (h:∀t s',Inv X pins σ H s'→Q (.int kvs.length t) s'):wpAny (model X.prog X.w) A (call (.builtin "len") [.ref a]) Q E s:=by
 obtain⟨z,hd,vs,rel,dd⟩:=Zfx I.hok e
 refine call_len_dict hd dd (by rw[←rel.length];rw[sizeLine_eq] at z;omega) ?_
 rw[←rel.length]
 exact h _ _ (I.tok _)
end
section
variable {X:Cx} {o i e value:Expr} {pos pos' tpos:Pos} {td ty tv:TE}
end
theorem ZgO {P:Program} {w:World} {H:Hp} (h:Heap) (hb:sysModules<h.objs.size):Z4 P w H (h.push {cls:= .type "dict",data:= .dict #[]}) h.objs.size (.dK []):=
 ⟨Nat.zero_le _,beq_eq_false_iff_ne.mpr (Ne.symm (Nat.ne_of_lt hb)),[],.nil,Heap.DictOf.new h⟩
def tDNewK:TE:=fun _ H Q=>∀p,H p=none→Q (.ref p) (upd H p (.dK []))
section
variable {X:Cx} {pos:Pos}
theorem ZgC:PE X (.Dict [] [] pos) tDNewK:=fun pins s σ H Q I h=>
 wpAny_Dict_empty ⟨.ref s.heap.objs.size,_,I.laid (a:=s.heap.objs.size) (o:= .dK []) (t':=s.toks) (fun _ _ q=>Heap.get?_push_of_some _ q) (Nat.le_refl _) (ZgO s.heap I.big),rfl,h _ (I.hok.fresh (Nat.le_refl _))⟩
end
section
variable {X:Cx} {pins:List (Addr×Obj)} {σ:St} {H:Hp} {s:Shared} {a:Addr} {y d:V} {u r:Value} {o:Option V} {A:Around} {E:Value→Shared→Prop}
end
section
variable {X:Cx} {o e f:Expr} {apos cpos:Pos} {td ty tx:TE}
end
section
variable {X:Cx} {pins:List (Addr×Obj)} {σ:St} {H:Hp} {s:Shared} {a:Addr} {kvs:List (Key×V)} {A:Around} {E:Value→Shared→Prop}
end
section
variable {X:Cx} {pins:List (Addr×Obj)} {σ:St} {H:Hp} {s:Shared} {a:Addr} {y:V} {u:Value} {A:Around} {E:Value→Shared→Prop}
end
end L2
namespace L2
open PySem PySem.Spec PyProof.Rows
section
variable {X:Cx}
theorem ZfF:YI X (.builtin "len") (fun xs H Q=>∃a kvs,xs=[V.ref a]∧H a=some (.dK kvs)∧Q (.int kvs.length) H):=by
 intro pins s σ H xs us Q I r h
 obtain⟨a,kvs,rfl,ha,q⟩:=h
 obtain⟨u,rfl,ru⟩:=Vq r
 cases ru
 exact Zjh I (.inl ha) fun t s' I'=>⟨.int kvs.length,H,I',⟨t,rfl⟩,q⟩
end
section
variable {κ:Type} [DecidableEq κ]
end
end L2
namespace L2
open PySem PySem.Spec PyProof.Rows
namespace Rd
section
variable {σ:St} {H:Hp} {Q:VK} {D:W6} {t u:TS} {ta tb te:TE} {r:R2}
theorem var {i:Nat} {v:V} (h:σ[i]? =some (some v)) (q:Q v H):ZeP i σ H Q:=⟨v,h,q⟩
theorem con {v:V} (q:Q v H):tC v σ H Q:=q
theorem op (h:ta σ H fun x H1=>tb σ H1 fun y H2=>r x y H2 Q):tOp r ta tb σ H Q:=h
theorem un {r:V→Hp→VK→Prop} (h:ta σ H fun x H1=>r x H1 Q):tUn r ta σ H Q:=h
theorem i0 {g:Int→Int→V} {i j:Int} (q:Q (g i j) H):rI0 g (.int i) (.int j) H Q:=⟨i,j,rfl,rfl,q⟩
theorem iC {C:Int→Int→Prop} {g:Int→Int→V} {i j:Int} (c:C i j) (q:Q (g i j) H):rI C g (.int i) (.int j) H Q:=⟨i,j,rfl,rfl,c,q⟩
theorem eqI {i j:Int} (q:Q (.bl (decide (i=j))) H):rEq (.int i) (.int j) H Q:=⟨rfl,by
 have e:decide (V.int i=V.int j)=decide (i=j):=by
  by_cases h:i=j
  ·rw[h];simp
  ·rw[decide_eq_false h,decide_eq_false (fun z=>h (V.int.inj z))]
 rw[e];exact q⟩
theorem neI {i j:Int} (q:Q (.bl (!decide (i=j))) H):rNe (.int i) (.int j) H Q:=⟨rfl,by
 have e:decide (V.int i=V.int j)=decide (i=j):=by
  by_cases h:i=j
  ·rw[h];simp
  ·rw[decide_eq_false h,decide_eq_false (fun z=>h (V.int.inj z))]
 rw[e];exact q⟩
theorem ZjU {Q:Bool→Hp→Prop} (h:te σ H fun x H'=>∃k,x= .bl k∧Q k H'):ZeY te σ H Q:=h
theorem bl {k:Bool} {Q:Bool→Prop} (q:Q k):∃k',V.bl k= .bl k'∧Q k':=⟨k,rfl,q⟩
theorem seq (h:t {D with nx:=u D} σ H):ZgN t u D σ H:=h
theorem asg {g:TG} (h:te σ H fun x H1=>g x σ H1 D.nx):Zdr te g D σ H:=h
theorem ifs {c:TT} (h:c σ H fun b H1=>if b=true then t D σ H1 else u D σ H1):Zib c t u D σ H:=h
theorem ret (h:te σ H D.rt):Ziz te D σ H:=h
theorem next (h:D.nx σ H):tNext D σ H:=h
theorem drop (h:te σ H fun _ H1=>D.nx σ H1):Zg7 te D σ H:=h
theorem nil {Q:List V→Hp→Prop} (h:Q [] H):tNil σ H Q:=h
theorem cons {tr:TA} {Q:List V→Hp→Prop} (h:ta σ H fun x H1=>tr σ H1 fun xs H2=>Q (x::xs) H2):Zg5 ta tr σ H Q:=h
theorem call {sp:Sp} {dvs:List V} {E:XK} {ts:TA} (h:ts σ H fun vs H1=>sp (vs++dvs) H1 Q E):Zhi sp dvs E ts σ H Q:=h
theorem cb {r:List V→Hp→VK→Prop} {ts:TA} (h:ts σ H fun vs H1=>r vs H1 Q):tCB r ts σ H Q:=h
theorem tup {ts:TA} (h:ts σ H fun xs H1=>xs.length≤sizeLine∧∀p,H1 p=none→Q (.ref p) (upd H1 p (.tup xs))):Zia ts σ H Q:=h
theorem lst {ts:TA} (h:ts σ H fun xs H1=>xs.length≤sizeLine∧∀p,H1 p=none→Q (.ref p) (upd H1 p (.lst xs))):ZiS ts σ H Q:=h
theorem Zkd {t u:TT} {Q:Bool→Hp→Prop} (h:t σ H fun c H1=>if c=true then u σ H1 Q else Q false H1):ZiP t u σ H Q:=h
theorem or_ {t u:TT} {Q:Bool→Hp→Prop} (h:t σ H fun c H1=>if c=true then Q true H1 else u σ H1 Q):tOr t u σ H Q:=h
theorem ZjR {t:TT} {Q:Bool→Hp→Prop} (h:t σ H fun c H1=>Q (!c) H1):Zie t σ H Q:=h
theorem ZjM (h:ta σ H fun x H1=>∃c,x= .bl c∧if c=true then tb σ H1 Q else Q (.bl false) H1):Zhg ta tb σ H Q:=h
theorem orV (h:ta σ H fun x H1=>∃c,x= .bl c∧if c=true then Q (.bl true) H1 else tb σ H1 Q):ZhO ta tb σ H Q:=h
theorem Zkc (h:ta σ H fun x H1=>∃c,x= .bl c∧Q (.bl (!c)) H1):Zhd ta σ H Q:=h
end
end Rd
end L2
namespace L2
open PySem PySem.Spec PyProof.Rows
section
variable {X:Cx}
theorem Zhq:OpR X (binaryOp .Mult) (rI (fun i j=>IntMulOk i j) fun i j=> .int (i*j)):=opI fun _ _ _ _ _ _ _ hc q=>mul_int q hc
theorem Ye:OpR X (binaryOp .FloorDiv) (rI (fun _ j=>0<j∧j.natAbs.log2<9000) fun i j=> .int (i / j)):=opI fun i j _ _ _ _ _ hc q=>by
 rw[←Int.fdiv_eq_ediv_of_nonneg i (Int.le_of_lt hc.1)] at q
 exact floordiv_int (by have:=hc.1;omega) q (.inl (PyProof.noPylong_of_log2 hc.2))
theorem Zd3:YI X (.builtin "isinstance") (fun xs H Q=>∃x n t b,xs=[x,.ty n]∧Wj X.K H x t∧PySem.W.kitOne X.K t (.type n)=some b∧Q (.bl b) H):=by
 intro pins s σ H xs us Q I r h
 obtain⟨x,n,t,b,rfl,ty,e,q⟩:=h
 obtain⟨u,v,rfl,ru,rv⟩:=r.two
 obtain rfl:v=Value.type n:=rv
 exact ZfY I ru ty e fun tk=>⟨.bl b,H,I.tok tk,rfl,q⟩
theorem Zh0 {c:TT} {tb:TS} {D:W6} {σ:St} {H:Hp} (W:Nat→St→Hp→Prop) (m:Nat) (h0:W m σ H)
  (hs:∀m σ H,W m σ H→c σ H fun b H1=>if b=true then ∃N:St→Hp→Prop,(∀σ' H',N σ' H'→∃m',m'<m∧W m' σ' H')∧tb {D with nx:=N,ct:=N,bk:=D.nx} σ H1 else D.nx σ H1):ZfM c tb D σ H:=
 ⟨W,⟨m,h0⟩,hs⟩
theorem Zjo {W:Nat→St→Hp→Prop} {m:Nat} {tb:TS} {D:W6} {σ:St} {H1:Hp}
  (h:tb {D with nx:=fun σ' H'=>∃m',m'<m∧W m' σ' H',ct:=fun σ' H'=>∃m',m'<m∧W m' σ' H',bk:=D.nx} σ H1):
  ∃N:St→Hp→Prop,(∀σ' H',N σ' H'→∃m',m'<m∧W m' σ' H')∧tb {D with nx:=N,ct:=N,bk:=D.nx} σ H1:=⟨_,fun _ _ z=>z,h⟩
def ZiG (t:TS):TS:=fun D σ H=>∃J:St→Hp→Prop,(∀σ' H',J σ' H'→D.nx σ' H')∧t {D with nx:=J} σ H
theorem Vp {st:Stmt} {t:TS} (h:PS X st t):PS X st (ZiG t):=by
 intro pins s σ H D I hq
 obtain⟨J,hJ,q⟩:=hq
 refine thn (h pins s σ H _ I q) fun f s1 q1=>?_
 cases f with
 |next=>obtain⟨σ',H',I',j⟩:=q1;exact⟨σ',H',I',hJ _ _ j⟩
 |brk=>exact q1
 |cont=>exact q1
 |ret v=>exact q1
end
namespace Rd
theorem ZgW {A B:Prop} (h:B):if(!true)=true then A else B:=Zdb h
theorem Zhh {A B:Prop} (h:A):if(!false)=true then A else B:=ZdR h
section
variable {σ:St} {H:Hp} {Q:VK} {D:W6} {t u:TS} {ta tb te:TE}
theorem cut (J:St→Hp→Prop) (hJ:∀σ' H',J σ' H'→D.nx σ' H') (h:t {D with nx:=J} σ H):ZiG t D σ H:=⟨J,hJ,h⟩
theorem ZjN {wi:TI} {g:TG} {tb:TS} (h:wi σ H fun J H1=>∃W:Nat→Nat→St→Hp→Prop,(∃m,W 0 m σ H1)∧∀i m σ H,W i m σ H→
  (J.stop i H∧D.nx σ H)∨(J.go i H∧∃N:St→Hp→Prop,(∀σ' H',N σ' H'→∃m',m'<m∧W (i+1) m' σ' H')∧∀x H',J.yld i H x H'→g x σ H' fun σ2 H2=>tb {D with nx:=N,ct:=N,bk:=D.nx} σ2 H2)):Ziq wi g tb D σ H:=h
theorem Zj1 {ts:TA} {R:It→Hp→Prop} (h:ts σ H fun vs H1=>∃j:Int,vs=[.int j]∧ -(2 ^ 62)≤j∧j<2 ^ 62∧R (Itr 0 j.toNat) H1):Zg6 ts σ H R:=h
theorem Ww {K:PySem.W.Frag} {n:Nat} {ts:TGs} {a:Addr} {xs:List V} {Q:St→Hp→Prop} (hs:SqT K H a xs) (hn:xs.length=n) (h:ts xs σ H Q):ZgJ K n ts (.ref a) σ H Q:=⟨a,xs,rfl,hs,hn,h⟩
theorem ZjG {Q:St→Hp→Prop} (h:Q σ H):gNil [] σ H Q:=⟨rfl,h⟩
theorem Zjs {g:TG} {gs:TGs} {v:V} {r:List V} {Q:St→Hp→Prop} (h:g v σ H fun σ' H'=>gs r σ' H' Q):Zg8 g gs (v::r) σ H Q:=⟨v,r,rfl,h⟩
end
end Rd
end L2
namespace L2
open PySem PySem.Spec PyProof.Rows
theorem Zo {H:Hp} {p:Addr} {o:HO} (hp:H p=none):Zd H (upd H p o):=fun c u e=>by rw[Zi (Zq e hp)];exact e
theorem Zd.new {H H':Hp} {q:Addr} {o:HO} (sm:Zd H H') (hq:H q=none):Zd H (upd H' q o):=fun c u e=>by rw[Zi (Zq e hq)];exact sm c u e
theorem Zd.seqT {K:PySem.W.Frag} {H H':Hp} {a:Addr} {xs:List V} (e:Zd H H') (h:SqT K H a xs):SqT K H' a xs:=by
 rcases h with(h|⟨o,h⟩)|h
 ·exact .inl (.inl (e _ _ h))
 ·exact .inl (.inr ⟨o,e _ _ h⟩)
 ·exact .inr h
namespace Rd
section
variable {σ:St} {H:Hp} {Q:VK} {D:W6} {K:PySem.W.Frag}
theorem ixt {p:Addr} {xs:List V} {i:Int} {v:V} (h:SqT K H p xs) (e:atI xs i=some v) (q:Q v H):ZgS K (.ref p) (.int i) H Q:=⟨p,xs,i,v,rfl,rfl,h,e,q⟩
theorem ixl {p:Addr} {xs:List V} {i:Int} {v:V} (h:SqL K H p xs) (e:atI xs i=some v) (q:Q v H):Zcm K (.ref p) (.int i) H Q:=⟨p,xs,i,v,rfl,rfl,h,e,q⟩
theorem bm {T:String} {r:V→List V→Hp→VK→Prop} {to:TE} {t:TA} (h:to σ H fun x H1=>tyV K T x H1∧t σ H1 fun xs H2=>r x xs H2 Q):tBM K T r to t σ H Q:=h
theorem tyl {p:Addr} {xs:List V} {B:Prop} (h:H p=some (.lst xs)) (q:B):tyV K "list" (.ref p) H∧B:=⟨.inl ⟨rfl,xs,.of h⟩,q⟩
theorem app {p:Addr} {xs:List V} {y:V} (h:H p=some (.lst xs)) (hl:xs.length<sizeLine) (q:Q .non (upd H p (.lst (xs++ [y])))):rAppend (.ref p) [y] H Q:=⟨p,xs,y,rfl,rfl,h,hl,q⟩
end
end Rd
end L2
namespace L2
open PySem PySem.Spec PyProof.Rows
def emb (ix:List Nat) (σ:St):St:=none::ix.map fun j=>(σ[j]?).join
def Zl (X:Cx) (sc:Scope) (cl:List (Str×Addr)) (C:Addr) (N:List Str) (s:Shared) (H:Hp) (fp:List Addr):Cx where
 prog:=X.prog
 w:=X.w
 K:=X.K
 mg:=X.mg
 base:=X.base
 A:=X.A
 N:=N
 s₀:=s
 H₀:=H
 env:=compEnvC sc cl C X.env
 outer:=X.stack
 stack:=X.stack
 ex:=fp
 fn:=fun _=>false
 calm:=X.calm
 pn:=[]
 xe:=fun _ _=>False
structure Y7 (X:Cx) (sc:Scope) (x:Str) (zs:List Str) (ix:List Nat):Prop where
 kind:sc.kind= .function
 nocell:∀y∈sc.names,y.2≠ .cell
 names:∀y∈sc.names,y.2= .local→sc.names.lookup y.1=some .local
 free:∀y∈sc.names,y.2= .free→X.env.kindOf y.1=some .cell∨X.env.kindOf y.1=some .free
 zfree:∀z∈zs,sc.names.lookup z=some .free
 at_:ix.map (fun j=>X.N[j]?)=zs.map some
theorem Wi {env:Env} {x:Str}:∀{names:List (Str×NameKind)} {k:NameKind},
  (names.map fun(n,k)=>if(k==NameKind.free&&env.scope.kind== .function&&env.kindOf n==some .cell) then(n,NameKind.cell) else(n,k)).lookup x=some k→
  ∃k',names.lookup x=some k'∧(k=k'∨(k'= .free∧k= .cell))
 | [],_,h=>by simp at h
 |(n,j)::r,k,h=>by
  have h':List.lookup x ((if(j==NameKind.free&&env.scope.kind== .function&&env.kindOf n==some .cell)=true then(n,NameKind.cell) else(n,j))::(r.map fun(n,k)=>if(k==NameKind.free&&env.scope.kind== .function&&env.kindOf n==some .cell) then(n,NameKind.cell) else(n,k)))=some k:=h
  cases hx:x==n with
  |true=>
   refine⟨j,by simp[List.lookup_cons,hx],?_⟩
   by_cases hc:(j==NameKind.free&&env.scope.kind== .function&&env.kindOf n==some .cell)=true
   ·rw[if_pos hc] at h'
    simp only[List.lookup_cons,hx] at h'
    cases h'
    simp only[Bool.and_eq_true,beq_iff_eq] at hc
    exact .inr ⟨hc.1.1,rfl⟩
   ·rw[if_neg hc] at h'
    simp only[List.lookup_cons,hx] at h'
    cases h'
    exact .inl rfl
  |false=>
   have h2:List.lookup x (r.map fun(n,k)=>if(k==NameKind.free&&env.scope.kind== .function&&env.kindOf n==some .cell) then(n,NameKind.cell) else(n,k))=some k:=by
    by_cases hc:(j==NameKind.free&&env.scope.kind== .function&&env.kindOf n==some .cell)=true
    ·rw[if_pos hc] at h'
     simpa only[List.lookup_cons,hx] using h'
    ·rw[if_neg hc] at h'
     simpa only[List.lookup_cons,hx] using h'
   obtain⟨k',e,q⟩:=Wi h2
   exact⟨k',by simp only[List.lookup_cons,hx];exact e,q⟩
theorem Y1 {x:Str} {k:NameKind}:∀{names:List (Str×NameKind)},names.lookup x=some k→(x,k)∈names:=fun h=>PySem.mem_of_lookup h
theorem Zac (env:Env):∀(names:List (Str×NameKind)) (acc:List (Str×Addr)),
  (∀y∈names,y.2= .free→∃c,env.cells.lookup y.1=some c)→(∀y c,acc.lookup y=some c→env.cells.lookup y=some c)→
  ∃cl:List (Str×Addr),(forIn names acc (fun x (r:List (Str×Addr))=>if x.2==NameKind.free then(do let a←cellOf env x.1;pure (ForInStep.yield ((x.1,a)::r))) else pure (ForInStep.yield r)):Sem (List (Str×Addr)))=pure cl∧
   (∀y c,cl.lookup y=some c→env.cells.lookup y=some c)∧(∀y,(∃c,acc.lookup y=some c)∨(y,NameKind.free)∈names→∃c,cl.lookup y=some c)
 | [],acc,_,ha=>⟨acc,rfl,ha,fun y h=>h.elim id fun z=>absurd z (by simp)⟩
 |(n,k)::r,acc,hf,ha=>by
  have hr:∀y∈r,y.2= .free→∃c,env.cells.lookup y.1=some c:=fun y hy=>hf y (List.mem_cons_of_mem _ hy)
  by_cases hk:k= .free
  ·subst hk
   obtain⟨c,hc⟩:=hf (n,.free) List.mem_cons_self rfl
   have ha':∀y c',((n,c)::acc).lookup y=some c'→env.cells.lookup y=some c':=fun y c' h=>by
    cases hy:y==n with
    |true=>
     simp only[List.lookup_cons,hy] at h
     cases h
     rw[beq_iff_eq.mp hy]
     exact hc
    |false=>
     simp only[List.lookup_cons,hy] at h
     exact ha y c' h
   obtain⟨cl,e,h1,h2⟩:=Zac env r ((n,c)::acc) hr ha'
   refine⟨cl,?_,h1,fun y h=>h2 y ?_⟩
   ·rw[List.forIn_cons]
    have:cellOf env n=pure c:=by unfold cellOf;rw[hc]
    simp only[beq_self_eq_true,if_true,this]
    exact e
   ·rcases h with⟨c',h⟩|h
    ·cases hy:y==n with
     |true=>exact .inl ⟨c,by simp only[List.lookup_cons,hy]⟩
     |false=>exact .inl ⟨c',by simp only[List.lookup_cons,hy];exact h⟩
    ·rcases List.mem_cons.mp h with h|h
     ·cases h
      exact .inl ⟨c,by simp⟩
     ·exact .inr h
  ·obtain⟨cl,e,h1,h2⟩:=Zac env r acc hr ha
   refine⟨cl,?_,h1,fun y h=>h2 y ?_⟩
   ·rw[List.forIn_cons]
    have hb:(k==NameKind.free)=false:=by simpa using hk
    simp only[hb,Bool.false_eq_true,if_false]
    exact e
   ·rcases h with h|h
    ·exact .inl h
    ·rcases List.mem_cons.mp h with h|h
     ·cases h
      exact absurd rfl hk
     ·exact .inr h
def PIf (X:Cx) (ifs:List Expr) (t:TT):Prop:=
 ∀(pins:List (Addr×Obj)) (s:Shared) (σ:St) (H:Hp) (Q:Bool→Hp→Prop),Inv X pins σ H s→t σ H Q→
  wpAny (model X.prog X.w) X.A (forIn ifs true fun c r=>if r=true then do let ok←isTrue c X.env (eval c X.env);pure (ForInStep.yield ok) else pure (ForInStep.yield r)) (TP X pins σ Q) X.xe s
def tAll:TT:=fun _ H Q=>Q true H
section
variable {X:Cx}
theorem Z6:PIf X [] tAll:=fun _ _ _ H _ I h=>wpAny_pure ⟨H,I,h⟩
theorem Up {c:Expr} {t:TT} (hc:PT X c t):PIf X [c] t:=by
 intro pins s σ H Q I h
 rw[List.forIn_cons]
 simp only[if_true]
 refine wpAny_bind (wpAny_bind (thn (hc pins s σ H _ I h) fun b s1 q=>wpAny_pure ?_))
 exact wpAny_pure q
end
section
variable {prog:Program} {w:World} {A:Around} {R:Result→Shared→Prop} {s:Shared}
theorem ZaI {elt target iter:Expr} {ifs:List Expr} {scope:Scope} {pos:Pos} {it acc:Value} {env:Env} (I:Nat→Shared→Prop)
  (turn:∀n s,I n s→wpAny (model prog w) A (pyNext it) (fun r s₁=>match r with
   |none=>R (.ok .next) s₁
   |some v=>wpAny (model prog w) A (letOwnedTupleGo target it v) (fun _ s₀=>wpAny (model prog w) A (assign target env v) (fun _ s₂=>
     wpAny (model prog w) A (forIn ifs true fun c r=>if r=true then do let ok←isTrue c env (eval c env);pure (ForInStep.yield ok) else pure (ForInStep.yield r)) (fun ok s₃=>
      if ok=true then wpAny (model prog w) A (eval elt env) (fun x s₄=>
       wpAny (model prog w) A (call (.builtin "list.append") [acc,x]) (fun _ s₅=>∃m,m<n∧I m s₅) (fun _ _=>False) s₄) (fun _ _=>False) s₃
      else ∃m,m<n∧I m s₃) (fun _ _=>False) s₂) (fun _ _=>False) s₀) (fun _ _=>False) s₁) (fun _ _=>False) s)
  (n:Nat) (h:I n s):
  codeAny (model prog w) A (.compLoop (.ListComp elt [⟨target,iter,ifs,0⟩] scope pos) 0 it acc env) R s:=by
 refine codeAny_loop rfl I (fun n s hI=>?_) n h
 show wpAny _ A ((compTurn (.ListComp elt [⟨target,iter,ifs,0⟩] scope pos) 0 it acc env).onRaise (fun x=>do noteFrame x env;theTreesLotGoes x)) _ _ s
 refine wpAny_noted ?_
 rw[compTurn_list]
 refine wpAny_bind (wpAny_standAt (wpAny_bind (wpAny_mono (turn n s hI) (fun r s₁ h₁=>?_) fun _ _ z=>z.elim)))
 cases r with
 |none=>exact wpAny_pure h₁
 |some v=>
  refine wpAny_bind (wpAny_mono h₁ (fun _ s₀ h₀=>?_) fun _ _ z=>z.elim)
  refine wpAny_bind (wpAny_mono h₀ (fun _ s₂ h₂=>wpAny_bind (wpAny_mono h₂ (fun ok s₃ h₃=>?_) fun _ _ z=>z.elim)) fun _ _ z=>z.elim)
  cases ok with
  |false=>exact wpAny_pure ⟨rfl,h₃⟩
  |true=>
   exact wpAny_bind (wpAny_bind (wpAny_mono h₃ (fun x s₄ h₄=>wpAny_bind (wpAny_mono h₄ (fun _ s₅ h₅=>wpAny_pure (wpAny_pure ⟨rfl,h₅⟩)) fun _ _ z=>z.elim)) fun _ _ z=>z.elim))
end
def Zg0 (ix:List Nat) (wi:TI) (g:TG) (tc:TT) (te:TE):TE:=fun σ H Q=>wi σ H fun J H1=>∀p,H1 p=none→
 ∃W:Nat→Nat→List V→St→Hp→Prop,(∃m,W 0 m [] (emb ix σ) (upd H1 p (.lst [])))∧∀i m ys σ' H',W i m ys σ' H'→
  (J.stop i H'∧Q (.ref p) H')∨(J.go i H'∧∀x H2,J.yld i H' x H2→g x σ' H2 fun σ2 H3=>tc σ2 H3 fun b H4=>
   if b=true then te σ2 H4 fun v H5=>H5 p=some (.lst ys)∧ys.length<sizeLine∧∃m',m'<m∧W (i+1) m' (ys++ [v]) σ2 (upd H5 p (.lst (ys++ [v])))
   else ∃m',m'<m∧W (i+1) m' ys σ2 H4)
section
variable {X:Cx}
theorem Zfd {pins:List (Addr×Obj)} {σ:St} {H:Hp} {s:Shared} {sc:Scope} {x:Str} {zs:List Str} {ix:List Nat} {cl:List (Str×Addr)} {fp:List Addr} {h₁:Heap} {tk:Nat}
  (S:Y7 X sc x zs ix) (I:Inv X pins σ H s) (hcl:∀y c,cl.lookup y=some c→X.env.cells.lookup y=some c) (hhas:∀y,(y,NameKind.free)∈sc.names→∃c,cl.lookup y=some c)
  (hfp:∀b∈fp,WK X pins H b∧b<s.heap.objs.size) (hns:h₁.Ns s.heap.objs.size fun _=>none) (hk:∀b o,s.heap.get? b=some o→h₁.get? b=some o):
  Inv (Zl X sc cl s.heap.objs.size (x::zs) s H fp) [] (emb ix σ) H {s with heap:=h₁,toks:=tk}:=by
 have sub:∀b∈frs X.stack,b∈X.env.locals::X.fs:=I.stkSub
 have nfs:∀b∈fp,b∉frs X.stack:=fun b hb z=>by
  obtain⟨⟨_,f1,f2,_⟩,_⟩:=hfp b hb
  rcases List.mem_cons.mp (sub b z) with e|e
  ·exact f1 e
  ·exact f2 e
 have cut:∀y,(Zl X sc cl s.heap.objs.size (x::zs) s H fp).env.kindOf y=some .cell∨(Zl X sc cl s.heap.objs.size (x::zs) s H fp).env.kindOf y=some .free→∃c,cl.lookup y=some c:=fun y hy=>by
  have q:∃k,(relabel sc X.env).names.lookup y=some k∧(k= .cell∨k= .free):=by
   rcases hy with hy|hy
   ·exact⟨_,hy,.inl rfl⟩
   ·exact⟨_,hy,.inr rfl⟩
  obtain⟨k,e,hk⟩:=q
  obtain⟨k',e',q⟩:=Wi e
  have:k'= .free:=by
   rcases q with q|⟨q,_⟩
   ·rcases hk with z|z
    ·exact absurd (q.symm.trans z) (S.nocell _ (Y1 e'))
    ·exact q.symm.trans z
   ·exact q
  subst this
  exact hhas y (Y1 e')
 refine⟨⟨I.ok.mod,S.kind,I.ok.glob,I.ok.blt,Nat.le_refl _,fun y z c h1 h2=>I.ok.inj y z c (hcl _ _ h1) (hcl _ _ h2),cut,fun y c hf _=>?_,I.ok.hd,I.ok.frames,.inl rfl,fun b hb=>?_,I.bs,Nat.le_trans I.ok.bsz I.sz,fun b o e hb=>?_,nfs,I.stack,I.stkFree⟩,
  rfl,I.bare,Un.kept hk,⟨_,hns,fun i y v h1 h2 h3=>?_⟩,fun y c h=>?_,I.hok.fresh (Nat.le_refl _),fun y c h=>I.freeC y c (hcl y c h),fun p hp=>absurd (show p∈([]:List (Addr×Obj)) from hp) (by simp),I.hok.kept hk,?_⟩
 ·exact absurd (show false=true from hf) (by decide)
 ·obtain⟨⟨f0,f1,f2,f3,f4,f5⟩,hl⟩:=hfp b hb
  exact⟨Nat.ne_of_lt hl,fun y c h=>f4 y c (hcl y c h)⟩
 ·obtain⟨⟨f0,f1,f2,f3,f4,f5⟩,hl⟩:=hfp b hb
  rcases f3 with z|z
  ·exact I.ok.noex b o e z
  ·exact absurd (Nat.lt_of_lt_of_le (Heap.lt_size e) (Nat.le_trans I.ok.bsz z)) (Nat.lt_irrefl _)
 ·
  cases i with
  |zero=>
   have:(none:Option (Option V))=some (some v)∨(some none:Option (Option V))=some (some v):= .inr h2
   rcases this with z|z<;>cases z
  |succ i=>
   have h1':zs[i]? =some y:=h1
   have h2':(ix.map fun j=>(σ[j]?).join)[i]? =some (some v):=h2
   have ha:(ix.map fun j=>X.N[j]?)[i]? =some (some y):=by rw[S.at_,List.getElem?_map,h1'];rfl
   rw[List.getElem?_map] at h2' ha
   cases e:ix[i]? with
   |none=>rw[e] at h2';cases h2'
   |some j=>
    rw[e] at h2' ha
    have ha':X.N[j]? =some y:=Option.some.inj ha
    have hj:(σ[j]?).join=some v:=Option.some.inj h2'
    have hσ:σ[j]? =some (some v):=by
     cases q:σ[j]? with
     |none=>rw[q] at hj;cases hj
     |some o=>rw[q] at hj;exact congrArg some hj
    obtain⟨m,hn,hl⟩:=I.loc
    have hfr:=S.zfree y (List.mem_of_getElem? h1')
    have hkind:=S.free _ (Y1 hfr) rfl
    have hv:Vis X.env.scope y:=by
     rcases hkind with z|z
     ·exact .inr (.inl z)
     ·exact .inr (.inr z)
    obtain⟨u,r,q⟩:=hl j y v ha' hσ hv
    refine⟨u,r,?_⟩
    rcases q with⟨kl,_⟩|⟨_,c,hc,hcell⟩
    ·have kl':X.env.kindOf y=some .local:=kl
     rcases hkind with z|z<;>(rw[z] at kl';cases kl')
    ·obtain⟨c',hc'⟩:=hhas y (Y1 hfr)
     have ec:c'=c:=by have:=hcl y c' hc';rw[hc] at this;exact(Option.some.inj this).symm
     subst ec
     refine .inr ⟨?_,c',hc',?_⟩
     ·have hvis:Vis (relabel sc X.env) y:=h3
      rcases hvis with z|z|z
      ·obtain⟨k',e',q⟩:=Wi z
       rw[hfr] at e'
       cases e'
       rcases q with q|⟨_,q⟩<;>cases q
      ·exact .inl z
      ·exact .inr z
     ·obtain⟨o,ho,hd⟩:=hcell
      exact⟨o,hk _ _ ho,hd⟩
 ·obtain⟨v,o,ho,hd⟩:=I.cell y c (hcl y c h)
  exact⟨v,o,hk _ _ ho,hd⟩
 ·show(none::ix.map fun j=>(σ[j]?).join).length=(x::zs).length
  have:=congrArg List.length S.at_
  simp only[List.length_map] at this
  simp only[List.length_cons,List.length_map,this]
def Zew (X:Cx) (pins:List (Addr×Obj)) (σ:St) (Q:VK) (acc:Value) (C:Addr) (s':Shared):Prop:=
 ∃p H' m,acc=Value.ref p∧s'.heap.Ns C m∧Inv X pins σ H' s'∧WK X pins H' C∧Q (.ref p) H'
theorem Ze5 {pins:List (Addr×Obj)} {σ:St} {H:Hp} {s:Shared} {sc:Scope} {x:Str} {zs:List Str} {ix:List Nat} {cl:List (Str×Addr)} {fp:List Addr} {it:Addr} {tn:Nat→Heap→Prop} {J:It}
  {elt tg iter:Expr} {ifs:List Expr} {pos:Pos} {g:TG} {tc:TT} {te:TE} {Q:VK} {E:Value→Shared→Prop} {RR:Value→Addr→Result→Shared→Prop}
  (hc:X.calm=true) (S:Y7 X sc x zs ix) (I:Inv X pins σ H s) (hcl:∀y c,cl.lookup y=some c→X.env.cells.lookup y=some c) (hhas:∀y,(y,NameKind.free)∈sc.names→∃c,cl.lookup y=some c)
  (T:Zag X.prog X.w X.K tg J fp it tn) (st:tn 0 s.heap) (hfp:∀b∈fp,WK X pins H b)
  (hin:∀C s H,PG (Zl X sc cl C (x::zs) s H fp) tg g∧PIf (Zl X sc cl C (x::zs) s H fp) ifs tc∧PE (Zl X sc cl C (x::zs) s H fp) elt te)
  (hq:∀p,H p=none→∃W:Nat→Nat→List V→St→Hp→Prop,(∃m,W 0 m [] (emb ix σ) (upd H p (.lst [])))∧∀i m ys σ' H',W i m ys σ' H'→
   (J.stop i H'∧Q (.ref p) H')∨(J.go i H'∧∀x H2,J.yld i H' x H2→g x σ' H2 fun σ2 H3=>tc σ2 H3 fun b H4=>
    if b=true then te σ2 H4 fun v H5=>H5 p=some (.lst ys)∧ys.length<sizeLine∧∃m',m'<m∧W (i+1) m' (ys++ [v]) σ2 (upd H5 p (.lst (ys++ [v])))
    else ∃m',m'<m∧W (i+1) m' ys σ2 H4))
  (hR:∀acc C f s',Zew X pins σ Q acc C s'→RR acc C (.ok f) s'):
  wpAny (model X.prog X.w) X.A (newList []) (fun acc s₃=>wpAny (model X.prog X.w) X.A (newFunctionEnv sc X.env.globals cl [] X.env.qual none .none (some X.env)) (fun cenv s₄=>
   codeAny (model X.prog X.w) X.A (.compStart (.ListComp elt [⟨tg,iter,ifs,0⟩] sc pos) 0 (.ref it) acc {cenv with scope:=relabel sc X.env}) (RR acc cenv.locals) s₄) E s₃) E s:=by
 refine wpAny_newObj_type (wpAny_newFunctionEnv S.nocell (by intro y hy;simp at hy) (fun h₁ hns₁ hsb₁=>?_) S.kind)
 have I3:Inv X pins σ (upd H s.heap.objs.size (.lst [])) {s with heap:=s.heap.push {cls:= .type "list",dict:=none,data:= .seq ([]:List Value).toArray}}:=I.lnew (its:=[]) (ys:=[]) (t':=s.toks) .nil (Nat.zero_le _)
 dsimp only at hns₁ hsb₁⊢
 obtain⟨W,⟨m0,w0⟩,turn⟩:=hq s.heap.objs.size (I.hok.fresh (Nat.le_refl _))
 have lt:∀b∈fp,b<s.heap.objs.size:=fun b hb=>by
  obtain⟨o,e,_⟩:=T.obj 0 s.heap st b hb
  exact Heap.lt_size e
 have up:∀b∈fp,∀o,(upd H s.heap.objs.size o) b=H b:=fun b hb o=>Zi (Nat.ne_of_lt (lt b hb))
 have kp:∀b o,(s.heap.push {cls:= .type "list",dict:=none,data:= .seq ([]:List Value).toArray}).get? b=some o→h₁.get? b=some o:=fun b o e=>
  hsb₁.extBut b o (Nat.ne_of_lt (Heap.lt_size e)) (Heap.get?_push_of_some _ e)
 have f3:∀b∈fp,WK X pins (upd H s.heap.objs.size (.lst [])) b∧b<(s.heap.push {cls:= .type "list",dict:=none,data:= .seq ([]:List Value).toArray}).objs.size:=fun b hb=>by
  obtain⟨q0,q⟩:=hfp b hb
  refine⟨⟨(up b hb _).trans q0,q⟩,?_⟩
  rw[Heap.size_push]
  exact Nat.lt_succ_of_lt (lt b hb)
 generalize hS3:({s with heap:=s.heap.push {cls:= .type "list",dict:=none,data:= .seq ([]:List Value).toArray}}:Shared)=s3 at I3
 have hH3:s.heap.push {cls:= .type "list",dict:=none,data:= .seq ([]:List Value).toArray}=s3.heap:=by rw[←hS3]
 rw[hH3] at kp f3 hns₁⊢
 have st3:tn 0 h₁:=T.keep 0 _ _ st fun b _ o e=>kp b o (by rw[←hH3];exact Heap.get?_push_of_some _ e)
 have J0:Inv (Zl X sc cl s3.heap.objs.size (x::zs) s3 (upd H s.heap.objs.size (.lst [])) fp) [] (emb ix σ) (upd H s.heap.objs.size (.lst [])) {s3 with heap:=h₁,toks:=s3.toks}:=
  Zfd S I3 hcl hhas f3 hns₁ kp
 obtain⟨hg,hif,he⟩:=hin s3.heap.objs.size s3 (upd H s.heap.objs.size (.lst []))
 have fpo:∀{H':Hp},(∀b∈fp,H' b=none)→∀b∈fp,WK (Zl X sc cl s3.heap.objs.size (x::zs) s3 (upd H s.heap.objs.size (.lst [])) fp) [] H' b:=fun{H'} hn b hb=>
  ⟨hn b hb,(J0.ok.exf b hb).1,J0.ok.exfs b hb,.inl hb,(J0.ok.exf b hb).2,fun p hp=>absurd (show p∈([]:List (Addr×Obj)) from hp) (by simp)⟩
 have loop:∀s4:Shared,s4={s3 with heap:=h₁,toks:=s3.toks}→
   codeAny (model X.prog X.w) X.A (.compLoop (.ListComp elt [⟨tg,iter,ifs,0⟩] sc pos) 0 (.ref it) (.ref s.heap.objs.size) (compEnvC sc cl s3.heap.objs.size X.env)) (RR (.ref s.heap.objs.size) s3.heap.objs.size) s4:=by
  rintro s4 rfl
  refine ZaI (fun n s'=>∃i ys σ' H',Inv (Zl X sc cl s3.heap.objs.size (x::zs) s3 (upd H s.heap.objs.size (.lst [])) fp) [] σ' H' s'∧tn i s'.heap∧(∀b∈fp,H' b=none)∧W i n ys σ' H') ?_ m0
   ⟨0,[],emb ix σ,_,J0,st3,fun b hb=>(f3 b hb).1.1,w0⟩
  rintro n s5 ⟨i,ys,σ5,H5,I5,st5,fr5,w5⟩
  rcases turn i n ys σ5 H5 w5 with⟨stop,qn⟩|⟨go,step⟩
  ·refine thn (T.done (Zl X sc cl s3.heap.objs.size (x::zs) s3 (upd H s.heap.objs.size (.lst [])) fp) rfl rfl rfl hc i [] s5 σ5 H5 _ I5 (fpo fr5) st5 stop) fun r s6 ⟨hr,I6⟩=>?_
   subst hr
   obtain⟨m6,hm6,_⟩:=I6.loc
   refine hR _ _ _ _ ⟨s.heap.objs.size,H5,m6,rfl,hm6,?_,I3.fpOk (Nat.le_refl _) I6.free,qn⟩
   exact I3.call' I6.os I6.base I6.hok I6.bare fun b hb=>by
    obtain⟨⟨f0,f1,f2,f3,f4,f5⟩,_⟩:=f3 b hb
    exact⟨f3,f1,f4,f5⟩
  ·refine thn (T.item (Zl X sc cl s3.heap.objs.size (x::zs) s3 (upd H s.heap.objs.size (.lst [])) fp) rfl rfl rfl hc i [] s5 σ5 H5 _ I5 (fpo fr5) st5 go) fun r s6 ⟨u,hr,h6⟩=>?_
   subst hr
   refine thn h6 fun _ s7 ⟨x7,H7,I7,r7,y7,st7,fr7⟩=>?_
   have I7':=I7.pinned (fpo fr7) (T.obj _ _ st7)
   refine thn (hg _ s7 σ5 H7 x7 u _ I7' r7 (step x7 H7 y7)) fun _ s8 ⟨σ8,H8,I8,q8⟩=>?_
   refine thn (hif _ s8 σ8 H8 _ I8 q8) fun b s9 ⟨H9,I9,q9⟩=>?_
   have again:∀{ys':List V} {σ':St} {H':Hp} {m':Nat} {s':Shared},Inv (Zl X sc cl s3.heap.objs.size (x::zs) s3 (upd H s.heap.objs.size (.lst [])) fp) ([]++U0 fp s7.heap) σ' H' s'→W (i+1) m' ys' σ' H'→m'<n→
     ∃m,m<n∧∃i ys σ' H',Inv (Zl X sc cl s3.heap.objs.size (x::zs) s3 (upd H s.heap.objs.size (.lst [])) fp) [] σ' H' s'∧tn i s'.heap∧(∀b∈fp,H' b=none)∧W i m ys σ' H':=fun{ys' σ' H' m' s'} Iz wz hm=>by
    refine⟨m',hm,i+1,ys',σ',H',Iz.unpinned,T.keep _ _ _ st7 fun b hb o e=>(Iz.pin (b,o) (List.mem_append_right _ (List.mem_append_right _ (WT hb e)))).1,fun b hb=>?_,wz⟩
    obtain⟨o,e,d⟩:=T.obj _ _ st7 b hb
    exact(Iz.pin (b,o) (List.mem_append_right _ (List.mem_append_right _ (WT hb e)))).2.1
   cases b with
   |false=>
    rw[if_neg Bool.false_ne_true] at q9⊢
    obtain⟨m',hm,wz⟩:=q9
    exact again I9 wz hm
   |true=>
    rw[if_pos rfl] at q9⊢
    refine thn (he _ s9 σ8 H9 _ I9 q9) fun v s10 ⟨y,H10,I10,r10,hl,hz,m',hm,wz⟩=>?_
    refine thn (Yj _ s10 σ8 H10 (.ref s.heap.objs.size) [y] (.ref s.heap.objs.size) [v] (fun z H'=>z= .non∧H'=upd H10 s.heap.objs.size (.lst (ys++ [y]))) I10 rfl (.cons r10 .nil) ⟨_,ys,y,rfl,rfl,hl,hz,rfl,rfl⟩) fun _ s11 ⟨z,H11,I11,_,_,e11⟩=>?_
    subst e11
    exact again I11 wz hm
 exact codeAny_compStart_list (loop _ (by subst hS3;rfl)) (T.self _ 0 _ _ _ st3 (loop _ (by subst hS3;rfl)))
theorem UC {sc:Scope} {x:Str} {zs:List Str} {ix:List Nat} (ok:X.Ok) (S:Y7 X sc x zs ix):
  ∃cl,closureFor sc X.env=pure cl∧(∀y c,cl.lookup y=some c→X.env.cells.lookup y=some c)∧∀y,(y,NameKind.free)∈sc.names→∃c,cl.lookup y=some c:=by
 obtain⟨cl,e,h1,h2⟩:=Zac X.env sc.names [] (fun y hy hf=>ok.has y.1 (S.free y hy hf)) (fun y c h=>by simp at h)
 refine⟨cl,?_,h1,fun y hy=>h2 y (.inr hy)⟩
 unfold closureFor
 simp only
 rw[e]
 rfl
theorem Zci {elt tg iter:Expr} {ifs:List Expr} {sc:Scope} {pos:Pos} {x:Str} {zs:List Str} {ix:List Nat} {wi:TI} {g:TG} {tc:TT} {te:TE}
  (hc:X.calm=true) (S:Y7 X sc x zs ix) (hi:PI X tg iter wi)
  (hin:∀cl C s H fp,PG (Zl X sc cl C (x::zs) s H fp) tg g∧PIf (Zl X sc cl C (x::zs) s H fp) ifs tc∧PE (Zl X sc cl C (x::zs) s H fp) elt te)
  (hs:∀x,foldedSetIterable iter X.env x=pure x:=by intro _;rfl):
  PE X (.ListComp elt [⟨tg,iter,ifs,0⟩] sc pos) (Zg0 ix wi g tc te):=by
 intro pins s σ H Q I h
 obtain⟨cl,hclos,hcl,hhas⟩:=UC I.ok S
 rw[eval_ListComp]
 refine wpAny_comprehension_free (use:=none) rfl hs hclos S.kind S.names (thn (hi pins s σ H _ I h) fun v s1 h1=>thn h1 fun itv s2 h2=>?_)
 obtain⟨it,fp,tn,J,H2,e,I2,T,st2,f2,hq⟩:=h2
 subst e
 refine Ze5 (RR:=fun acc C=>compPost (model X.prog X.w) X.A X.xe none (EP X pins σ Q) acc C) hc S I2 hcl hhas T st2 f2 (fun C s H=>hin cl C s H fp) hq fun acc C f s' h=>?_
 obtain⟨p,H',m,rfl,hm,I',⟨g0,g1,g2,g3,g4,g5⟩,q⟩:=h
 exact⟨m,hm,fun h' hb=>⟨.ref p,H',I'.turned (t':=s'.toks) (fun b o hne e=>(hb.2 b hne).trans e) g0 g1 g3 g4 g5,rfl,q⟩⟩
end
end L2
namespace L2
open PySem PySem.Spec PyProof.Rows
def CXX (P:Program) (w:World):CXT:=fun outer H s E e s'=>
 ∃(ea:Addr) (cls a0:Value) (H':Hp) (B:Heap),e= .ref ea∧s'.os=s.os∧AllBare s'.gens∧Un (frs outer) [] H H' s.heap s'.heap∧HOk P w H' s'.heap∧
  Heap.FlyingW B outer ea cls a0 s'.heap∧(∀b o,s'.heap.get? b=some o→(H' b≠none∨((∃o',s.heap.get? b=some o')∧b∉frs outer))→B.get? b=some o)∧E cls none H'
theorem HOk.stays {P:Program} {w:World} {H:Hp} {h h' B:Heap} (ok:HOk P w H h) (hB:∀b o,h.get? b=some o→H b≠none→B.get? b=some o) (st:B.StaysIn h'):HOk P w H h':=fun a o e=>
 (ok a o e).stay (fun b u hb q=>st b u (hB b u q (by
  rcases hb with rfl|hb
  ·rw[e];exact fun z=>nomatch z
  ·rw[hb];exact fun z=>nomatch z))) (fun _ q=>q) fun _ _ q=>q
theorem Z4.got {P:Program} {w:World} {H:Hp} {h:Heap} {a:Addr} {o:HO} (x:Z4 P w H h a o):∃ob,h.get? a=some ob:=by
 cases o with
 |lst xs=>obtain⟨_,_,_,_,e⟩:=x;exact⟨_,e⟩
 |tup xs=>obtain⟨_,_,_,p⟩:=x;obtain⟨ob,e,_⟩:=p;exact⟨ob,e⟩
 |dK kvs=>obtain⟨_,_,_,_,o,_,_,e,_⟩:=x;exact⟨o,e⟩
 |dT kvs=>obtain⟨_,_,_,_,o,_,_,e,_⟩:=x;exact⟨o,e⟩
 |set S n=>obtain⟨o,_,_,_,e,_⟩:=x;exact⟨o,e⟩
 |ins C dx fs=>obtain⟨_,_,_,e,_⟩:=x;exact⟨_,e⟩
 |own y=>exact x
 |xd fs=>obtain⟨_,⟨o,_,_,e,_⟩,_⟩:=x;exact⟨o,e⟩
 |rng lo hi=>obtain⟨_,_,_,e⟩:=x;exact⟨_,e⟩
 |frz ob u=>obtain⟨e,_⟩:=x;exact⟨ob,e⟩
 |tbl ps=>exact⟨_,(show h.get? a=some _ from x)⟩
 |met f y=>exact⟨_,(show h.get? a=some _ from x)⟩
 |ext φ=>obtain⟨_,e,_⟩:=x;exact e
theorem Un.fly {fs:List Addr} {H H':Hp} {h h1 h2 B:Heap} (u:Un fs [] H H' h h1) (hB:∀b o,h1.get? b=some o→(H' b≠none∨((∃o',h.get? b=some o')∧b∉fs))→B.get? b=some o)
  (st:B.StaysIn h2) (sl:h1.UpToSlots h2) (hf:∀b∈fs,∀o,h.get? b=some o→∀vs,o.data≠ .fields vs) (hfn:∀b∈fs,H b=none):Un fs [] H H' h h2 where
 keep:=fun b o e n hb hx=>st b o (hB b o (u.keep b o e n hb hx) (.inr ⟨⟨_,e⟩,hb⟩))
 slot:=fun b o e n hb hx=>by
  obtain⟨s1,e1⟩:=u.slot b o e n hb hx
  obtain⟨s2,e2⟩:=sl b _ e1 (hf b hb o e)
  exact⟨s2,e2⟩
 free:=u.free
 there:=fun b o e hx=>by
  by_cases hb:b∈fs
  ·obtain⟨s1,e1⟩:=u.slot b o e (hfn b hb) hb hx
   obtain⟨s2,e2⟩:=sl b _ e1 (hf b hb o e)
   exact⟨_,e2⟩
  ·obtain⟨o',e1⟩:=u.there b o e hx
   exact⟨o',st b o' (hB b o' e1 (.inr ⟨⟨_,e⟩,hb⟩))⟩
 tups:=u.tups
 frzs:=u.frzs
 tbls:=u.tbls
section
variable {P:Program} {w:World} {K:PySem.W.Frag} {mg:Str→Option Value} {base:Heap} {N:List Str} {qual:Str} {scope:Scope} {f:Addr} {cd:Value} {A:Around} {outer:List Env} {s₀:Shared} {H₀:Hp} {E:XK}
abbrev cxX (P:Program) (w:World) (K:PySem.W.Frag) (mg:Str→Option Value) (base:Heap) (N:List Str) (qual:Str) (scope:Scope) (f:Addr) (cd:Value) (A:Around) (outer:List Env) (s₀:Shared) (H₀:Hp) (E:XK):Cx:=
 ZL (CXX P w) P w K mg base N qual scope f cd A outer s₀ H₀ E
theorem Zgv {pins:List (Addr×Obj)} {σ:St} {H H':Hp} {s s':Shared} {ea:Addr} {cls a0:Value} {B:Heap} (I:Inv (cxX P w K mg base N qual scope f cd A outer s₀ H₀ E) pins σ H s)
  (os:s'.os=s.os) (bare:AllBare s'.gens) (u:Un (frs (cxX P w K mg base N qual scope f cd A outer s₀ H₀ E).stack) [] H H' s.heap s'.heap) (ok:HOk P w H' s'.heap)
  (fl:Heap.FlyingW B (cxX P w K mg base N qual scope f cd A outer s₀ H₀ E).stack ea cls a0 s'.heap)
  (hB:∀b o,s'.heap.get? b=some o→(H' b≠none∨((∃o',s.heap.get? b=some o')∧b∉frs (cxX P w K mg base N qual scope f cd A outer s₀ H₀ E).stack))→B.get? b=some o) (q:E cls none H'):
  (cxX P w K mg base N qual scope f cd A outer s₀ H₀ E).xe (.ref ea) s':=by
 have hfr:(A.deeper (envOfC qual scope s₀.heap.objs.size f cd)).frames=some (envOfC qual scope s₀.heap.objs.size f cd::outer):=I.ok.frames
 refine wpAny_leaves_onW (L:=s₀.heap.objs.size) hfr rfl fl fun h2 fl2 sl=>?_
 have below:∀b o,s₀.heap.get? b=some o→b∉frs outer→(∃o',s.heap.get? b=some o')∧b∉frs (cxX P w K mg base N qual scope f cd A outer s₀ H₀ E).stack:=fun b o e hn=>
  ⟨I.base.there b o e (by intro z;exact absurd (show b∈([]:List Addr) from z) (by simp)),fun z=>by
   rcases List.mem_cons.mp (I.stkSub b z) with q|q
   ·have hb:=Heap.lt_size e
    have q':b=s₀.heap.objs.size:=q
    rw[q'] at hb
    exact Nat.lt_irrefl _ hb
   ·exact hn q⟩
 have u2:Un (frs outer) [] H₀ H' s₀.heap s'.heap:=by
  have b0:Un (frs outer) [] H₀ H s₀.heap s.heap:=I.base
  refine⟨fun b o e n hb hx=>?_,fun b o e n hb hx=>?_,fun b o e n hx=>?_,fun b o e hx=>?_,fun b xs e=>u.tups b xs (b0.tups b xs e),fun b o v e=>u.frzs b o v (b0.frzs b o v e),fun b ps e=>?_⟩
  ·exact u.keep b o (b0.keep b o e n hb hx) (b0.free b o e n hx) (below b o e hb).2 hx
  ·obtain⟨s1,e1⟩:=b0.slot b o e n hb hx
   obtain⟨s2,e2⟩:=u.any e1 (b0.free b o e n hx) hx
   exact⟨s2,e2⟩
  ·obtain⟨o',e1⟩:=b0.there b o e hx
   exact u.free b o' e1 (b0.free b o e n hx) hx
  ·obtain⟨o',e1⟩:=b0.there b o e hx
   exact u.there b o' e1 hx
  ·obtain⟨m1,e1⟩:=b0.tbls b ps e
   obtain⟨m2,e2⟩:=u.tbls b _ e1
   exact⟨m1++m2,by rw[e2,Array.append_assoc]⟩
 have hB2:∀b o,s'.heap.get? b=some o→(H' b≠none∨((∃o',s₀.heap.get? b=some o')∧b∉frs outer))→B.get? b=some o:=fun b o e h=>hB b o e (h.imp id fun⟨⟨o',z⟩,hn⟩=>below b o' z hn)
 have ok2:HOk P w H' h2:=ok.stays (fun b o e n=>hB b o e (.inl n)) fl2.1
 refine⟨ea,cls,a0,H',B,rfl,os.trans I.os,bare,u2.fly hB2 fl2.1 sl (fun b hb o e=>?_) (I.ok.frf),ok2,fl2,fun b o e h=>?_,q⟩
 ·obtain⟨_,o',e',d⟩:=I.ok.funs.mem hb
  have e'':s₀.heap.get? b=some o':=e'
  rw[e] at e''
  cases e''
  exact d
 ·have ex:∃o',s'.heap.get? b=some o':=by
   rcases h with h|⟨h,hn⟩
   ·cases q2:H' b with
    |none=>exact absurd q2 h
    |some v=>exact(ok b v q2).got
   ·obtain⟨o5,q5⟩:=h
    exact u2.there b o5 q5 (by simp)
  obtain⟨o',e'⟩:=ex
  have e2:=hB2 b o' e' h
  have e3:=fl2.1 b o' e2
  have e4:h2.get? b=some o:=e
  rw[e3] at e4
  cases e4
  exact e2
theorem Zn:Vm (CXX P w) (cxX P w K mg base N qual scope f cd A outer s₀ H₀ E) E:=by
 intro pins σ H s e s' I h
 obtain⟨ea,cls,a0,H',B,rfl,os,bare,u,ok,fl,hB,q⟩:=h
 exact Zgv I os bare u ok fl hB q
def Zdm (cls:Value) (E:XK) (t:TA):TS:=fun _ σ H=>t σ H fun vs H1=>vs.length≤sizeLine∧E cls none H1
theorem Zgc {pins:List (Addr×Obj)} {σ:St} {H:Hp} {s:Shared} {h':Heap} {ea:Addr} {cls:Value} {us:List Value} (I:Inv (cxX P w K mg base N qual scope f cd A outer s₀ H₀ E) pins σ H s)
  (hx:Heap.MadeExcOf s.heap h' ea cls us) (q:E cls none H):(cxX P w K mg base N qual scope f cd A outer s₀ H₀ E).xe (.ref ea) {s with heap:=h'}:=by
 have hfr:(A.deeper (envOfC qual scope s₀.heap.objs.size f cd)).frames=some (envOfC qual scope s₀.heap.objs.size f cd::outer):=I.ok.frames
 have hin:∀env∈(cxX P w K mg base N qual scope f cd A outer s₀ H₀ E).stack,∀b,env.frame=some b→b∈frs (cxX P w K mg base N qual scope f cd A outer s₀ H₀ E).stack:=fun env he b hb=>List.mem_filterMap.mpr ⟨env,he,hb⟩
 have inB:∀b o,s.heap.get? b=some o→(H b≠none∨((∃o',s₀.heap.get? b=some o')∧b∉frs outer))→(PySem.W.hideAll s.heap (frs (cxX P w K mg base N qual scope f cd A outer s₀ H₀ E).stack)).get? b=some o:=fun b o e h=>
  PySem.W.hideAll_get _ e fun z=>by
   rcases h with h|⟨⟨o',e'⟩,hn⟩
   ·exact h (I.stkFree b z)
   ·rcases List.mem_cons.mp (I.stkSub b z) with q|q
    ·have hb:=Heap.lt_size e'
     have q':b=s₀.heap.objs.size:=q
     rw[q'] at hb
     exact Nat.lt_irrefl _ hb
    ·exact hn q
 refine wpAny_leaves_madeW (base:=PySem.W.hideAll s.heap (frs (cxX P w K mg base N qual scope f cd A outer s₀ H₀ E).stack)) (h:=s.heap) (L:=s₀.heap.objs.size) hfr rfl (fun b o e=>PySem.W.of_hideAll _ e) (PySem.W.funFrames_hide I.stack hin) hx fun h3 t fl _ _ sl=>?_
 have sl':s.heap.UpToSlots h3:=(Heap.UpToSlots.of_keeps hx.keeps).trans sl
 have b0:Un (frs outer) [] H₀ H s₀.heap s.heap:=I.base
 have ok3:HOk P w H h3:=I.hok.stays (fun b o e n=>inB b o e (.inl n)) fl.1
 refine⟨ea,cls,_,H,_,rfl,I.os,I.bare,b0.fly inB fl.1 sl' (fun b hb o e=>?_) I.ok.frf,ok3,fl,fun b o e h=>?_,q⟩
 ·obtain⟨_,o',e',d⟩:=I.ok.funs.mem hb
  have e'':s₀.heap.get? b=some o':=e'
  rw[e] at e''
  cases e''
  exact d
 ·have ex:∃o',s.heap.get? b=some o':=by
   rcases h with h|⟨⟨o5,q5⟩,_⟩
   ·cases q2:H b with
    |none=>exact absurd q2 h
    |some v=>exact(I.hok b v q2).got
   ·exact b0.there b o5 q5 (by simp)
  obtain⟨o',e'⟩:=ex
  have e2:=inB b o' e' h
  have e3:=fl.1 b o' e2
  have e4:h3.get? b=some o:=e
  rw[e3] at e4
  cases e4
  exact e2
theorem ZgM {x:Str} {np cpos pos:Pos} {e₀:Expr} {rest:List Expr} {t:TA} {C:Addr} {B newId initId:String} {bm:List Value} (O:OwnCls x C bm newId mg base) (FB:ExcBaseFacts B newId initId bm)
  (hg:Gl (cxX P w K mg base N qual scope f cd A outer s₀ H₀ E) x) (ha:PA (cxX P w K mg base N qual scope f cd A outer s₀ H₀ E) (e₀::rest) t)
  (he:starEach (e₀::rest) (cxX P w K mg base N qual scope f cd A outer s₀ H₀ E).env=(false,eval e₀ (cxX P w K mg base N qual scope f cd A outer s₀ H₀ E).env)::starEach rest (cxX P w K mg base N qual scope f cd A outer s₀ H₀ E).env:=by rfl)
  (hplain:(backTo cpos (starEach rest (cxX P w K mg base N qual scope f cd A outer s₀ H₀ E).env)).any (·.1)=false:=by rfl) (hdb:(x==("__debug__" :Str))=false:=by decide):
  PS (cxX P w K mg base N qual scope f cd A outer s₀ H₀ E) (.Raise (some (.Call (.Name x np) (e₀::rest) [] cpos)) none pos) (Zdm (.ref C) E t):=by
 intro pins s σ H D I h
 obtain⟨tl,N',nm,q,bs,hdct,sn,sub,ab,col,dd,k0,k1,k2,k3,k5,mN,hC,hN,hni,T⟩:=O.obj
 refine wpAny_Raise_call_subT (C:=C) (nm:=nm) (q:=q) (N:=N') (bs:=bs) (bm:=tl) (hdct:=hdct) (sn:=sn) (sub:=sub) (ab:=ab) (col:=col) (dd:=dd) (k0:=k0) (k1:=k1) (k2:=k2) (k3:=k3) (k5:=k5)
  FB (mN:=mN) (T.hasType FB.hasBase) (I.ok.hd rfl) (by rw[he];show(false||(backTo cpos (starEach rest (cxX P w K mg base N qual scope f cd A outer s₀ H₀ E).env)).any (·.1))=false;rw[hplain];rfl) hni (VJ I hg O.bound ⟨rfl,?_⟩ hdb)
 have h':=ha cpos pins s σ H _ I h
 rw[he] at h'⊢
 refine Calls.evalArgs_plain (thn h' fun us s2 ⟨vs,H2,I2,r,hz,q2⟩=>⟨rfl,by rw[←r.length];exact hz,I2.bk _ _ hC,hN.keeps I2.bk,T.keeps I2.bk,fun h3 e hm=>Zgc I2 hm q2⟩)
end
end L2
namespace L2
open PySem PySem.Spec PyProof.Rows
mutual
inductive WO (K:PySem.W.Frag) (H:Hp):V→PyData→Prop
 |non:WO K H .non .none
 |bl (b:Bool):WO K H (.bl b) (.bool b)
 |int (i:Int):WO K H (.int i) (.int i)
 |str (x:Str):WO K H (.str x) (.str x)
 |lst {a:Addr} {xs:List V} {ds:List PyData} (h:SqL K H a xs) (r:Wp K H xs ds):WO K H (.ref a) (.list ds)
 |tup {a:Addr} {xs:List V} {ds:List PyData} (h:SqT K H a xs) (r:Wp K H xs ds):WO K H (.ref a) (.tuple ds)
inductive Wp (K:PySem.W.Frag) (H:Hp):List V→List PyData→Prop
 |nil:Wp K H [] []
 |cons {x:V} {d:PyData} {xs:List V} {ds:List PyData} (h:WO K H x d) (r:Wp K H xs ds):Wp K H (x::xs) (d::ds)
end
theorem Wp.ints {K:PySem.W.Frag} {H:Hp}:∀ns:List Int,Wp K H (ns.map V.int) (ns.map PyData.int)
 | []=> .nil
 |n::ns=> .cons (.int n) (Wp.ints ns)
section
variable {X:Cx} {pins:List (Addr×Obj)} {σ:St} {H:Hp} {s:Shared}
mutual
theorem WO.reads (I:Inv X pins σ H s):∀{x:V} {d:PyData} {v:Value},WO X.K H x d→ZB x v→∃as,Reads s.heap v d as
 |_,_,_,.non,r=>by cases (show _=Value.none from r);exact⟨_,.none⟩
 |_,_,_,.bl b,r=>by cases (show _=Value.bool b from r);exact⟨_,.bool b⟩
 |_,_,_,.int i,r=>by obtain⟨t,e⟩:=r;cases e;exact⟨_,.int i t⟩
 |_,_,_,.str x,r=>by obtain⟨t,e⟩:=r;cases e;exact⟨_,.str x t⟩
 |_,_,_,.lst (a:=a) h rs,r=>by
  cases (show _=Value.ref a from r)
  obtain⟨its,rv,p,hz⟩:=I.list h
  obtain⟨o,ho,hc,n,hd⟩:=p.isList
  obtain⟨as,q⟩:=Wp.reads I rs rv
  exact⟨_,.list ho hc hd (by simpa using q)⟩
 |_,_,_,.tup (a:=a) h rs,r=>by
  cases (show _=Value.ref a from r)
  obtain⟨its,rv,p,hz⟩:=I.tuple h
  obtain⟨o,ho,hc,n,hd⟩:=(show s.heap.IsTuple a its.toArray from p)
  obtain⟨as,q⟩:=Wp.reads I rs rv
  exact⟨_,.tuple ho hc hd (by simpa using q)⟩
theorem Wp.reads (I:Inv X pins σ H s):∀{xs:List V} {ds:List PyData} {vs:List Value},Wp X.K H xs ds→Zw xs vs→∃as,ReadsAll s.heap vs ds as
 |_,_,_,.nil,.nil=>⟨_,.nil⟩
 |_,_,_,.cons h r,.cons q t=>by
  obtain⟨as,e⟩:=WO.reads I h q
  obtain⟨bs,e'⟩:=Wp.reads I r t
  exact⟨_,.cons e e'⟩
end
end
def Zbq (K:PySem.W.Frag) (neg:Bool):R2:=fun x y H Q=>∃dx dy,WO K H x dx∧WO K H y dy∧dx.canLay0=true∧dy.canLay0=true∧dx.depth≤60∧Q (.bl (if neg then !PyData.eqv dx dy else PyData.eqv dx dy)) H
section
variable {X:Cx}
theorem Zid (hu:X.A.units+64<cLine):OpR X (compareOp .Eq) (Zbq X.K false):=by
 intro pins s σ H x y v u Q I rx ry h
 obtain⟨dx,dy,h1,h2,c1,c2,dp,q⟩:=h
 obtain⟨as,r1⟩:=h1.reads I rx
 obtain⟨bs,r2⟩:=h2.reads I ry
 exact SeqAt.compareEq_reads r1 r2 c1 c2 (by have:min dx.depth dy.depth≤dx.depth:=Nat.min_le_left _ _;omega) ⟨.bl _,H,I,rfl,q⟩
theorem Zif (hu:X.A.units+64<cLine):OpR X (compareOp .NotEq) (Zbq X.K true):=by
 intro pins s σ H x y v u Q I rx ry h
 obtain⟨dx,dy,h1,h2,c1,c2,dp,q⟩:=h
 obtain⟨as,r1⟩:=h1.reads I rx
 obtain⟨bs,r2⟩:=h2.reads I ry
 exact SeqAt.compareNe_reads r1 r2 c1 c2 (by have:min dx.depth dy.depth≤dx.depth:=Nat.min_le_left _ _;omega) ⟨.bl _,H,I,rfl,q⟩
end
end L2
namespace L2
open PySem PySem.Spec PyProof.Rows
section
variable {prog:Program} {w:World} {A:Around} {E:Value→Shared→Prop}
variable {s:Shared}
end
section
variable {X:Cx} {pos:Pos}
end
end L2
namespace L2
open PySem PySem.Spec PyProof.Rows
section
variable {P:Program} {w:World} {K:PySem.W.Frag} {mg:Str→Option Value} {base:Heap}
theorem Fun.okX {x qual:Str} {st:Stmt} {f:Addr} {fd:FuncData} {N ps:List Str} {k:Nat} {sp:Sp} (F:Fun K x qual st f fd) (S:Zr N ps (Zh st)) (len:∀vs H Q E,sp vs H Q E→vs.length=ps.length)
  (hbody:∀(cdv:Value) (A:Around) (outer:List Env) (s:Shared) (H:Hp) (vs:List V) (Q:VK) (E:XK),Yw k (A.deeper (envOfC qual (Zh st) s.heap.objs.size f cdv))→sp vs H Q E→
   ∃t,PSs (cxX P w K mg base N qual (Zh st) f cdv A outer s H E) (WF st) t∧t {nx:=fun _ H'=>Q .non H',rt:=Q} (start N vs) H):Zj P w K mg base (CXX P w) (k+1) f fd ps sp:=by
 obtain⟨oc,od,kV,doc,pm,an,cdv,ct,osl,rfl,lk,hcd⟩:=F.ex
 exact Zha lk hcd S len fun A outer s H vs Q E hr hsp=>hbody cdv A outer s H vs Q E hr hsp
theorem WD {X:Cx}:Vm (CXX X.prog X.w) X E0:=by
 intro pins σ H s e s' I h
 obtain⟨ea,cls,a0,H',B,_,_,_,_,_,_,_,z⟩:=h
 exact z.elim
end
section
variable {X:Cx}
def rOr (r r':R2):R2:=fun x y H Q=>r x y H Q∨r' x y H Q
def Zc8:R2:=fun x y H Q=>∃i j,x= .str i∧y= .str j∧i.length+j.length≤sizeLine∧Q (.str (i++j)) H
def ZeM:R2:=rI0 fun i j=> .int (i+j)
def Ze2:R2:=rI (fun i j=>IntMulOk i j) fun i j=> .int (i*j)
theorem Zhs:OpR X (binaryOp .Add) (rOr ZeM (rOr Zc8 (rOr rCat (Zfr X.K)))):=Zih.or (ZeF.or (Zio.or Zht))
theorem Yl:OpR X (binaryOp .Mult) (rOr Ze2 rRep):=Zhq.or ZhV
theorem ZiJ (hu:X.A.units+64<cLine):OpR X (compareOp .Eq) (rOr rEq (Zbq X.K false)):=Zi3.or (Zid hu)
theorem Zip (hu:X.A.units+64<cLine):OpR X (compareOp .NotEq) (rOr rNe (Zbq X.K true)):=Zjj.or (Zif hu)
end
namespace Rd
section
variable {σ:St} {H:Hp} {Q:VK} {D:W6} {K:PySem.W.Frag} {r':R2}
theorem ZjL {i j:Int} (q:Q (.int (i+j)) H):rOr ZeM r' (.int i) (.int j) H Q:= .inl ⟨i,j,rfl,rfl,q⟩
theorem ZiQ {r1:R2} {i j:Str} (hl:i.length+j.length≤sizeLine) (q:Q (.str (i++j)) H):rOr r1 (rOr Zc8 r') (.str i) (.str j) H Q:= .inr (.inl ⟨i,j,rfl,rfl,hl,q⟩)
theorem mulI {i j:Int} (c:IntMulOk i j) (q:Q (.int (i*j)) H):rOr Ze2 r' (.int i) (.int j) H Q:= .inl ⟨i,j,rfl,rfl,c,q⟩
theorem Zj9 {i j:Int} (q:Q (.bl (decide (i=j))) H):rOr rEq r' (.int i) (.int j) H Q:= .inl (eqI q)
theorem ZjA {i j:Int} (q:Q (.bl (!decide (i=j))) H):rOr rNe r' (.int i) (.int j) H Q:= .inl (neI q)
theorem ZjZ {x y:V} {dx dy:PyData} (hx:WO K H x dx) (hy:WO K H y dy) (cx:dx.canLay0=true) (cy:dy.canLay0=true) (dp:dx.depth≤60) (q:Q (.bl (PyData.eqv dx dy)) H):rOr rEq (Zbq K false) x y H Q:=
 .inr ⟨dx,dy,hx,hy,cx,cy,dp,q⟩
theorem ZhY {p:Addr} {xs:List V} {i:Int} {v:V} (h:SqL K H p xs) (e:atI xs i=some v) (q:Q v H):rIx K (.ref p) (.int i) H Q:= .inl (ixl h e q)
theorem Zj4 {p:Addr} {xs:List V} {i:Int} {v:V} (h:SqT K H p xs) (e:atI xs i=some v) (q:Q v H):rIx K (.ref p) (.int i) H Q:= .inr (.inl (ixt h e q))
theorem Zj0 {C:Nat→Prop} {p:Addr} {xs:List V} (h:SqL K H p xs) (q:C xs.length):∃x n,[V.ref p]=[x]∧Zaj K x H n∧C n:=⟨_,_,rfl,.inl ⟨xs,h,rfl⟩,q⟩
theorem Zjl {C:Nat→Prop} {p:Addr} {xs:List V} (h:SqT K H p xs) (q:C xs.length):∃x n,[V.ref p]=[x]∧Zaj K x H n∧C n:=⟨_,_,rfl,.inr ⟨xs,h,rfl⟩,q⟩
theorem ZjW {C:Nat→Prop} {y:Str} (h:y.length≤sizeLine) (q:C y.length):∃x n,[V.str y]=[x]∧Zaj K x H n∧C n:=⟨_,_,rfl,⟨h,rfl⟩,q⟩
theorem Zjt {i:Nat} {v:V} {σ':St} {Q:St→Hp→Prop} (e:σ.set i (some v)=σ') (h:Q σ' H):Zad i v σ H Q:=by
 subst e
 exact h
theorem ifP {c A B:Prop} [Decidable c] (h:c) (a:A):if decide c=true then A else B:=by rw[decide_eq_true h];exact ZdR a
theorem ifN {c A B:Prop} [Decidable c] (h:¬c) (b:B):if decide c=true then A else B:=by rw[decide_eq_false h];exact Zdb b
theorem Zju {c A B:Prop} [Decidable c] (h:c) (b:B):if(!decide c)=true then A else B:=by rw[decide_eq_true h];exact Zdb b
theorem ZjY {c A B:Prop} [Decidable c] (h:¬c) (a:A):if(!decide c)=true then A else B:=by rw[decide_eq_false h];exact ZdR a
theorem ZjV {b:Bool} {C:Bool→Prop} (q:C b):∃k,Zdy K (.bl b) H k∧C k:=⟨b,rfl,q⟩
end
end Rd
end L2
namespace L2
open PySem PySem.Spec PyProof.Rows
namespace Rd
section
variable {H:Hp} {C:Bool→Prop} {K:PySem.W.Frag}
theorem ZeJ {i:Int} (q:C true):∃x n' t b,[V.int i,.ty "int"]=[x,.ty n']∧Wj K H x t∧PySem.W.kitOne K t (.type n')=some b∧C b:=⟨_,_,_,true,rfl,.int i,rfl,q⟩
theorem Zei {i:Int} (q:C false):∃x n' t b,[V.int i,.ty "bool"]=[x,.ty n']∧Wj K H x t∧PySem.W.kitOne K t (.type n')=some b∧C b:=⟨_,_,_,false,rfl,.int i,rfl,q⟩
theorem Ze3 {i:Str} (q:C true):∃x n' t b,[V.str i,.ty "str"]=[x,.ty n']∧Wj K H x t∧PySem.W.kitOne K t (.type n')=some b∧C b:=⟨_,_,_,true,rfl,.str i,rfl,q⟩
theorem Zej {p:Addr} {xs:List V} (h:H p=some (.lst xs)) (q:C true):∃x n' t b,[V.ref p,.ty "list"]=[x,.ty n']∧Wj K H x t∧PySem.W.kitOne K t (.type n')=some b∧C b:=⟨_,_,_,true,rfl,.lst h,rfl,q⟩
end
end Rd
end L2
namespace L2
open PySem PySem.Spec PyProof.Rows
def ZeA (scX sc:Scope) (N zs:List Str) (ix:List Nat):Bool:=
 decide (sc.kind= .function)&&(sc.names.all fun y=>decide (y.2≠ .cell))&&(sc.names.all fun y=>decide (y.2= .local→sc.names.lookup y.1=some .local))&&
 (sc.names.all fun y=>decide (y.2= .free→scX.names.lookup y.1=some .cell∨scX.names.lookup y.1=some .free))&&(zs.all fun z=>decide (sc.names.lookup z=some .free))&&decide (ix.map (fun j=>N[j]?)=zs.map some)
theorem Z1 {X:Cx} {sc:Scope} {x:Str} {zs:List Str} {ix:List Nat} (scX:Scope) (N:List Str) (e1:X.env.scope=scX) (e2:X.N=N) (h:ZeA scX sc N zs ix=true):Y7 X sc x zs ix:=by
 unfold ZeA at h
 simp only[Bool.and_eq_true,List.all_eq_true,decide_eq_true_eq] at h
 obtain⟨⟨⟨⟨⟨h1,h2⟩,h3⟩,h4⟩,h5⟩,h6⟩:=h
 subst e1 e2
 exact⟨h1,h2,h3,h4,h5,h6⟩
end L2
namespace L2
open PySem PySem.Spec PyProof.Rows
def Zch (CX:CXT) (X:Cx) (J:St→Prop) (E:XK):Prop:=∀(pins:List (Addr×Obj)) (σ:St) (H:Hp) (s:Shared) (e:Value) (s':Shared),J σ→Inv X pins σ H s→CX X.stack H s E e s'→X.xe e s'
def Zdj (J:St→Prop) (C:Addr) (m:Str) (sp:Sp) (dvs:List V) (E:XK) (ta:TE) (t:TA):TE:=fun σ H Q=>J σ∧ta σ H fun x H1=>∃a dx fs,x= .ref a∧H1 a=some (.ins C dx fs)∧fs.lookup m=none∧
 t σ H1 fun vs H2=>sp (x::(vs++dvs)) H2 Q E
section
variable {X:Cx} {CX:CXT} {k:Nat} {f C:Addr} {fd:FuncData} {ps:List Str} {sp:Sp} {dvs:List V} {ds:List Value} {E:XK} {J:St→Prop} {x m:Str} {p pos apos:Pos} {e o:Expr} {es:List Expr} {ta:TE} {t:TA}
def Zij (CX:CXT) (X:Cx) (σ:St) (E:XK):Prop:=∀(pins:List (Addr×Obj)) (H:Hp) (s:Shared) (e:Value) (s':Shared),Inv X pins σ H s→CX X.stack H s E e s'→X.xe e s'
theorem Zka {pins:List (Addr×Obj)} {σ:St} {H:Hp} {s:Shared} {Q:VK} {us:List Value} {vs:List V} (F:Zj X.prog X.w X.K X.mg X.base CX k f fd ps sp) (hr:Yw k X.A) (hb:Zv X.K fd ps ds) (hd:Zw dvs ds) (hx:Zij CX X σ E)
  (I:Inv X pins σ H s) (r:Zw vs us) (h:sp (vs++dvs) H Q E):wpAny (model X.prog X.w) X.A (call (.ref f) us) (EP X pins σ Q) X.xe s:=by
 have r2:Zw (vs++dvs) (us++ds):=r.append hd
 have hl:(us++ds).length=ps.length:=by rw[←r2.length];exact F.len _ _ _ _ h
 refine wpAny_call (codeAny_mono (F.run X.A X.stack s H ⟨us,[]⟩ (us++ds) (vs++dvs) Q E hr I.env0 (hb s us I.kIn hl) r2 h) fun r s' hq=>?_)
 cases r with
 |error e=>exact hx pins H s e s' I hq
 |ok fl=>
  cases fl with
  |ret u=>exact I.after hq
  |next=>exact False.elim hq
  |brk=>exact False.elim hq
  |cont=>exact False.elim hq
theorem ZgE {pl:Sem Bool} (he:PE X o ta) (c:Cls X.K C) (hm:YE X.K C m f) (F:Zj X.prog X.w X.K X.mg X.base CX k f fd ps sp) (hr:Yw k X.A) (hb:Zv X.K fd ps ds) (hd:Zw dvs ds) (hx:Zch CX X J E) (ha:PA X (e::es) t)
  (hst:starEach (e::es) X.env=(false,eval e X.env)::starEach es X.env:=by rfl) (hpl:(backTo pos (starEach es X.env)).any (·.1)=false:=by rfl)
  (ht:eval (.Call (.Attribute o m apos) (e::es) [] pos) X.env=(do
   let ov←eval o X.env
   standAt apos.atName
   let(f,first)←holding [ov] (getMethod ov m pl)
   callWith pos f first (backTo pos (starEach (e::es) X.env)) (backToKw pos (keywordEach [] X.env))):=by rfl):
  PE X (.Call (.Attribute o m apos) (e::es) [] pos) (Zdj J C m sp dvs E ta t):=by
 intro pins s σ H Q I h
 obtain⟨hJ,h⟩:=h
 refine PySem.W.methodCall_KW (pl:=pl) (thn (he pins s σ H _ I h) fun u s1 ⟨x,H1,I1,rx,a,dx,fs,ex,ea,l,q⟩=>?_) ht
 subst ex
 obtain rfl:u=Value.ref a:=rx
 refine Ui I1 ea c hm l ?_
 refine PySem.W.callWith_K (first:=[.ref a]) (h₀:=X.base) I.ok.mod.kin hm.kp (thn (ha pos pins s1 σ H1 _ I1 q) fun us s2 ⟨vs,H2,I2,r,q2⟩=>⟨I2.kIn,?_⟩) hst hpl
 exact Zka (us:= .ref a::us) (vs:= .ref a::vs) F hr hb hd (fun pins H s e s'=>hx pins σ H s e s' hJ) I2 (.cons rfl r) q2
def ZjJ (X:Cx) (body:List Stmt) (tb:(St→Prop)→XK→TS):Prop:=∀(J:St→Prop) (E1:XK) (pn:List (Addr×Obj)) (xe1:Value→Shared→Prop),PassesOwn (model X.prog X.w) X.A X.env xe1→
 Zch (CXX X.prog X.w) {X with pn:=pn,xe:=xe1} J E1→PSs {X with pn:=pn,xe:=xe1} body (tb J E1)
def Zdp (X:Cx) (suite:List Stmt) (th:TS):Prop:=∀(A':Around),PSs {X with A:=A',calm:=false,xe:=fun _ _=>False} suite th
end
end L2
namespace L2
open PySem PySem.Spec PyProof.Rows
section
variable {K:PySem.W.Frag} {H:Hp}
theorem WO.ints {p:Addr} {ns:List Int} (h:SqL K H p (ns.map V.int)):WO K H (.ref p) (.list (ns.map PyData.int)):= .lst h (Wp.ints ns)
namespace Rd
variable {Q:VK}
end Rd
end
end L2
namespace L2
open PySem PySem.Spec PyProof.Rows
structure Walks (J:It) (n:Nat) (f:Nat→V) (H:Hp):Prop where
 go:∀H' i,Zd H H'→i<n→J.go i H'
 yld:∀H' i x H2,Zd H H'→i<n→J.yld i H' x H2→H2=H'∧x=f i
 stop:∀H',Zd H H'→J.stop n H'
theorem UN {lo:Int} {n:Nat} {H:Hp}:Walks (Itr lo n) n (fun i=> .int (lo+i)) H:=⟨fun _ _ _ h=>h,fun _ _ _ _ _ _ h=>h,fun _ _=>Nat.le_refl _⟩
theorem ZG {K:PySem.W.Frag} {a:Addr} {xs:List V} {H:Hp} (h:SqL K H a xs):Walks (Itl K a) xs.length (fun i=>xs.getD i .non) H:=
 ⟨fun H' i e hi=>⟨xs,xs[i],e.seq h,by simp[hi]⟩,fun H' i x H2 e hi y=>⟨y.1,by
  have:=y.2 xs (e.seq h)
  simp[List.getD,this]⟩,fun H' e=>⟨xs,e.seq h,Nat.le_refl _⟩⟩
theorem WQ {K:PySem.W.Frag} {a:Addr} {xs:List V} {H:Hp} (h:SqT K H a xs):Walks (Itt K a) xs.length (fun i=>xs.getD i .non) H:=
 ⟨fun H' i e hi=>⟨xs,xs[i],e.seqT h,by simp[hi]⟩,fun H' i x H2 e hi y=>⟨y.1,by
  have:=y.2 xs (e.seqT h)
  simp[List.getD,this]⟩,fun H' e=>⟨xs,e.seqT h,Nat.le_refl _⟩⟩
theorem Yf {J:It} {n:Nat} {f:Nat→V} {H0:Hp} (w:Walks J n f H0) {g:TG} {tb:TS} {D:W6} {σ:St} {H:Hp} (Pv:Nat→St→Hp→Prop) (h0:Pv 0 σ H) (hk:∀i σ H,Pv i σ H→Zd H0 H)
  (hs:∀i σ H,i<n→Pv i σ H→g (f i) σ H fun σ2 H2=>tb {D with nx:=Pv (i+1),ct:=Pv (i+1),bk:=D.nx} σ2 H2) (hd:∀σ H,Pv n σ H→D.nx σ H):
  ∃W:Nat→Nat→St→Hp→Prop,(∃m,W 0 m σ H)∧∀i m σ H,W i m σ H→
   (J.stop i H∧D.nx σ H)∨(J.go i H∧∃N:St→Hp→Prop,(∀σ' H',N σ' H'→∃m',m'<m∧W (i+1) m' σ' H')∧∀x H',J.yld i H x H'→g x σ H' fun σ2 H2=>tb {D with nx:=N,ct:=N,bk:=D.nx} σ2 H2):=by
 refine⟨fun i m σ H=>m=n-i∧i≤n∧Pv i σ H,⟨n,by simp,Nat.zero_le _,h0⟩,?_⟩
 rintro i m σ H ⟨rfl,hi,p⟩
 have sm:=hk i σ H p
 by_cases hlt:i<n
 ·refine .inr ⟨w.go H i sm hlt,Pv (i+1),fun σ' H' p'=>⟨n-(i+1),by omega,rfl,hlt,p'⟩,fun x H' y=>?_⟩
  obtain⟨rfl,rfl⟩:=w.yld H i x H' sm hlt y
  exact hs i σ _ hlt p
 ·have e:i=n:=by omega
  subst e
  exact .inl ⟨w.stop H sm,hd σ H p⟩
theorem ZaH {ix:List Nat} {tc:TT} {te:TE} {Q:Addr→Hp→Prop} {σ:St} {H:Hp} {J:It} {n:Nat} {f:Nat→V} (w:Walks J n f H) (hn:n<sizeLine) (c:Nat→Bool) (r:Nat→V)
  (hc:∀i H' (Kc:Bool→Hp→Prop),i<n→Zd H H'→(∀H4,Zd H' H4→Kc (c i) H4)→tc (some (f i)::ix.map fun j=>(σ[j]?).join) H' Kc)
  (he:∀i H' (Kc:VK),i<n→c i=true→Zd H H'→(∀H5,Zd H' H5→Kc (r i) H5)→te (some (f i)::ix.map fun j=>(σ[j]?).join) H' Kc)
  (q:∀p H',H p=none→Zd H H'→H' p=some (.lst (((List.range n).filter c).map r))→Q p H'):
  ∀p,H p=none→∃W:Nat→Nat→List V→St→Hp→Prop,(∃m,W 0 m [] (emb ix σ) (upd H p (.lst [])))∧∀i m ys σ' H',W i m ys σ' H'→
   (J.stop i H'∧Q p H')∨(J.go i H'∧∀x H2,J.yld i H' x H2→Zad 0 x σ' H2 fun σ2 H3=>tc σ2 H3 fun b H4=>
    if b=true then te σ2 H4 fun v H5=>H5 p=some (.lst ys)∧ys.length<sizeLine∧∃m',m'<m∧W (i+1) m' (ys++ [v]) σ2 (upd H5 p (.lst (ys++ [v])))
    else ∃m',m'<m∧W (i+1) m' ys σ2 H4):=by
 intro p hp
 refine⟨fun i m ys σ' H'=>m=n-i∧i≤n∧(∃a,σ'=a::ix.map fun j=>(σ[j]?).join)∧Zd H H'∧H' p=some (.lst ys)∧ys=((List.range i).filter c).map r,
  ⟨n,by simp,Nat.zero_le _,⟨none,rfl⟩,Zo hp,Zg,rfl⟩,?_⟩
 rintro i m ys σ' H' ⟨rfl,hi,⟨a,rfl⟩,sm,hy,hl⟩
 by_cases hlt:i<n
 ·refine .inr ⟨w.go H' i sm hlt,fun x H2 y=>?_⟩
  obtain⟨rfl,rfl⟩:=w.yld H' i x H2 sm hlt y
  show tc ((a::ix.map fun j=>(σ[j]?).join).set 0 (some (f i))) H2 _
  have hlen:ys.length≤i:=by
   rw[hl,List.length_map]
   exact Nat.le_trans (List.length_filter_le _ _) (by simp)
  refine hc i H2 _ hlt sm fun H4 s4=>?_
  have sm4:=sm.trans s4
  have hy4:=s4 _ _ hy
  have step:(List.range (i+1)).filter c=(List.range i).filter c++(if c i=true then[i] else[]):=by
   rw[List.range_succ,List.filter_append]
   congr 1
   by_cases h:c i=true<;>simp[h]
  by_cases hci:c i=true
  ·rw[hci,if_pos rfl]
   refine he i H4 _ hlt hci sm4 fun H5 s5=>⟨s5 _ _ hy4,by omega,n-(i+1),by omega,rfl,hlt,⟨_,rfl⟩,(sm4.trans s5).new hp,Zg,?_⟩
   rw[step,if_pos hci,List.map_append,hl]
   rfl
  ·have hcf:c i=false:=by simpa using hci
   rw[hcf,if_neg Bool.false_ne_true]
   refine⟨n-(i+1),by omega,rfl,hlt,⟨_,rfl⟩,sm4,hy4,?_⟩
   rw[step,if_neg hci,List.append_nil,hl]
 ·have e:i=n:=by omega
  subst e
  exact .inl ⟨w.stop H' sm,q p H' hp sm (by rw[←hl];exact hy)⟩
end L2
namespace L2
open PySem PySem.Spec PyProof.Rows
structure Zp (A:List Addr) (H H':Hp):Prop where
 keep:∀b o,H b=some o→b∉A→H' b=some o
 tups:∀b xs,H b=some (.tup xs)→H' b=some (.tup xs)
theorem Zd.frame {A:List Addr} {H H':Hp} (e:Zd H H'):Zp A H H':=⟨fun b o h _=>e b o h,fun b xs h=>e b _ h⟩
theorem Zp.refl {A:List Addr} {H:Hp}:Zp A H H:=(Zd.refl H).frame
theorem Zp.trans {A:List Addr} {H H1 H2:Hp} (a:Zp A H H1) (b:Zp A H1 H2):Zp A H H2:=⟨fun c o h n=>b.keep c o (a.keep c o h n) n,fun c xs h=>b.tups c xs (a.tups c xs h)⟩
theorem Zp.mono {A B:List Addr} {H H':Hp} (a:Zp A H H') (h:∀x∈A,x∈B):Zp B H H':=⟨fun c o e n=>a.keep c o e fun z=>n (h c z),a.tups⟩
theorem ZR {A:List Addr} {H:Hp} {p:Addr} {o o':HO} (hp:p∈A) (h:H p=some o) (ht:∀xs,o≠ .tup xs):Zp A H (upd H p o'):=by
 refine⟨fun b u e n=>?_,fun b xs e=>?_⟩
 ·have z:b≠p:=fun z=>n (by rw[z];exact hp)
  rw[Zi z]
  exact e
 ·have z:b≠p:=fun z=>ht xs (by rw[z,h] at e;exact Option.some.inj e)
  rw[Zi z]
  exact e
def ZO (A A':List Addr) (H:Hp):Prop:=∀a∈A',a∈A∨H a=none
theorem ZO.refl {A:List Addr} {H:Hp}:ZO A A H:=fun _ h=> .inl h
def ZaP (K:PySem.W.Frag) (H:Hp) (A:List Addr) (a:Addr) (xs:List V):Prop:=
 (Rd H a (.lst xs)∧a∉A)∨∃(o:Obj) (its:Array Value) (n:Nat),K.lookup a=some o∧o.cls= .type "list" ∧o.dict=none∧o.data= .seq its n∧its.size≤sizeLine∧Zw xs its.toList
theorem ZaP.sq {K:PySem.W.Frag} {H:Hp} {A:List Addr} {a:Addr} {xs:List V} (h:ZaP K H A a xs):SqL K H a xs:=h.imp And.left id
theorem ZaP.frame {K:PySem.W.Frag} {H H':Hp} {A:List Addr} {a:Addr} {xs:List V} (h:ZaP K H A a xs) (f:Zp A H H'):ZaP K H' A a xs:=by
 rcases h with⟨h|⟨o,h⟩,n⟩|h
 ·exact .inl ⟨.inl (f.keep _ _ h n),n⟩
 ·exact .inl ⟨.inr ⟨o,f.keep _ _ h n⟩,n⟩
 ·exact .inr h
theorem SqL.off {K:PySem.W.Frag} {H:Hp} {A:List Addr} {a:Addr} {xs:List V} (h:SqL K H a xs) (g:∀x∈A,H x=none):ZaP K H A a xs:=by
 rcases h with h|h
 ·refine .inl ⟨h,fun z=>?_⟩
  have:=g a z
  rcases h with h|⟨o,h⟩<;>(rw[h] at this;cases this)
 ·exact .inr h
section
variable {K:PySem.W.Frag} {H H':Hp} {A A':List Addr}
namespace Rd
variable {Q:VK}
end Rd
end
end L2
namespace L2
open PySem PySem.Spec PyProof.Rows
def Its (x:Str):It:=⟨fun i _=>i<x.cps.size,fun i H v H'=>H'=H∧∃c,x.cps[i]? =some c∧v= .str ⟨#[c]⟩,fun i _=>x.cps.size≤i⟩
theorem ZgK {P:Program} {w:World} {K:PySem.W.Frag} {tg:Expr} (it:Addr) (x:Str) (t:Tok) (ty:String) (hty:ty="str_ascii_iterator" ∨ty="str_iterator"):Zag P w K tg (Its x) [it] it (fun i h=>h.IsStrIter it ty x t i) where
 mem:=by simp
 obj:=fun i h st b hb=>by
  have e:b=it:=by simpa using hb
  subst e
  obtain⟨o,e,c,d⟩:=st
  exact⟨o,e,fun v z=>by rw[d] at z;cases z⟩
 keep:=fun i h h' st k=>let⟨o,ho,r⟩:=st;⟨o,k it (by simp) o ho,r⟩
 item:=by
  intro X hP hw hK hc i pins s σ H E I hf st hg
  subst hP hw hK
  obtain⟨f0,f1,f2,f3,f4,f5⟩:=hf it (by simp)
  have hi:i<x.cps.size:=hg
  have fin:∀h':Heap,h'.IsStrIter it ty x t (i+1)→Heap.SameBut it s.heap h'→∃u,some (Value.str ⟨#[x.cps[i]]⟩ s.toks)=some u∧
    wpAny (model X.prog X.w) X.A (letOwnedTupleGo tg (.ref it) u) (fun _ s2=>∃y H',Inv X pins σ H' s2∧ZB y u∧(Its x).yld i H y H'∧s2.heap.IsStrIter it ty x t (i+1)∧∀b∈[it],H' b=none) E {s with heap:=h',toks:=s.toks+1}:=fun h' st' sb=>by
   have I1:Inv X pins σ H {s with heap:=h',toks:=s.toks+1}:=I.turned (t':=s.toks+1) (fun b o hb e=>(sb.2 b hb).trans e) f0 f1 f3 f4 f5
   obtain⟨o,e,c,d⟩:=id st'
   refine⟨_,rfl,Zc5 (s:={s with heap:=h',toks:=s.toks+1}) e c d (by rcases hty with rfl|rfl<;>decide) ⟨.str ⟨#[x.cps[i]]⟩,H,I1,⟨_,rfl⟩,⟨rfl,x.cps[i],by simp[hi],rfl⟩,st',fun b hb=>(hf b hb).1⟩⟩
  rcases hty with rfl|rfl
  ·exact wpAny_pyNext_ascii_item st (c:=x.cps[i]) (by simp[hi]) fin
  ·exact wpAny_pyNext_wide_item st (c:=x.cps[i]) (by simp[hi]) fin
 done:=by
  intro X hP hw hK hc i pins s σ H E I hf st hg
  subst hP hw hK
  obtain⟨f0,f1,f2,f3,f4,f5⟩:=hf it (by simp)
  have hi:x.cps.size≤i:=hg
  rcases hty with rfl|rfl
  ·exact wpAny_pyNext_ascii_end (I.ok.hd hc) st (by simp[hi]) fun h' eb=>⟨rfl,I.turned (t':=s.toks) (fun b o hb e=>eb b o hb e) f0 f1 f3 f4 f5⟩
  ·exact wpAny_pyNext_wide_end (I.ok.hd hc) st (by simp[hi]) fun h' eb=>⟨rfl,I.turned (t':=s.toks) (fun b o hb e=>eb b o hb e) f0 f1 f3 f4 f5⟩
 self:=fun _ _ _ _ _ st h=>by
  rcases hty with rfl|rfl
  ·exact wpAny_pyIter_striter_ascii st h
  ·exact wpAny_pyIter_striter_wide st h
section
variable {X:Cx} {tg:Expr}
def Zim (tl:TE):TI:=fun σ H R=>tl σ H fun x H1=>∃y,x= .str y∧R (Its y) H1
theorem Ziv {l:Expr} {tl:TE} (hl:PE X l tl):PI X tg l (Zim tl):=by
 intro pins s σ H R I h
 refine thn (hl pins s σ H _ I h) fun v s1 ⟨x,H1,I1,r1,q1⟩=>?_
 obtain⟨y,e,q⟩:=q1
 subst e
 obtain⟨t,rfl⟩:=r1
 have fin:∀ty:String,(ty="str_ascii_iterator" ∨ty="str_iterator")→PIE X pins σ tg R (.ref s1.heap.objs.size) {s1 with heap:=s1.heap.push {cls:= .type ty,data:= .fields #[.str y t,.int 0 0]}}:=fun ty hty=>by
  refine⟨s1.heap.objs.size,[s1.heap.objs.size],_,_,H1,rfl,I1.kept (t':=s1.toks) fun b o e=>Heap.get?_push_of_some _ e,ZgK _ y t ty hty,⟨_,Heap.get?_push_size _ rfl,rfl,rfl⟩,fun b hb=>?_,q⟩
  have e:b=s1.heap.objs.size:=by simpa using hb
  subst e
  exact I1.fpOk (Nat.le_refl _) (I1.hok.fresh (Nat.le_refl _))
 cases ha:y.cps.all (· <128)
 ·exact wpAny_pyIter_wide ha (fin _ (.inr rfl))
 ·exact wpAny_pyIter_ascii ha (fin _ (.inl rfl))
theorem Zgd {x:Str} {H:Hp}:Walks (Its x) x.cps.size (fun i=> .str ⟨#[x.cps.getD i 0]⟩) H:=
 ⟨fun _ _ _ h=>h,fun H' i v H2 _ hi ⟨e,c,hc,hv⟩=>⟨e,by rw[hv];simp[Array.getD,hi] at hc⊢;exact hc.symm⟩,fun _ _=>Nat.le_refl _⟩
def rLeS:R2:=fun x y H Q=>∃i j,x= .str i∧y= .str j∧Q (.bl (!decide (j.cps.toList<i.cps.toList))) H
theorem ZcM:OpR X (compareOp .LtE) rLeS:=by
 intro pins s σ H x y v u Q I rx ry h
 obtain⟨i,j,rfl,rfl,q⟩:=h
 obtain⟨t,rfl⟩:=rx
 obtain⟨t',rfl⟩:=ry
 exact PySem.P.le_str ⟨.bl _,H,I,rfl,q⟩
theorem Zb0 {s:Shared}:∀{bs:List Bool} {us:List Value},Zw (bs.map V.bl) us→us=bs.map Value.bool
 | [],_,r=>by cases r;rfl
 |b::bs,_,r=>by
  cases r with
  |cons r1 r2=>
   have e:_=Value.bool b:=r1
   rw[e,Zb0 (s:=s) r2]
   rfl
theorem Zhn {s:Shared} {h':Heap} {o:Obj} (hk:∀b x,b∉[s.heap.objs.size]→(s.heap.push o).get? b=some x→h'.get? b=some x):∀b x,s.heap.get? b=some x→h'.get? b=some x:=
 fun b x e=>hk b x (fun hm=>by rw[List.mem_singleton.mp hm] at e;exact Nat.lt_irrefl _ (Heap.lt_size e)) (Heap.get?_push_of_some _ e)
theorem ZeI (bs:List Bool):((List.range bs.length).all fun i=>(bs[i]?).getD true)=bs.all id:=by
 rw[Bool.eq_iff_iff,List.all_eq_true,List.all_eq_true]
 constructor
 ·intro h b hb
  obtain⟨i,hi,rfl⟩:=List.getElem_of_mem hb
  have:=h i (List.mem_range.mpr hi)
  simpa[List.getElem?_eq_getElem hi] using this
 ·intro h i hi
  have hi':=List.mem_range.mp hi
  simp only[List.getElem?_eq_getElem hi',Option.getD_some]
  exact h _ (List.getElem_mem hi')
theorem ZfD (hc:X.calm=true):YI X (.builtin "all") (fun xs H Q=>∃(p:Addr) (bs:List Bool),xs=[.ref p]∧SqL X.K H p (bs.map V.bl)∧Q (.bl (bs.all id)) H):=by
 intro pins s σ H xs us Q I r h
 obtain⟨p,bs,rfl,hq,q⟩:=h
 obtain⟨u,rfl,rx⟩:=Vq r
 cases rx
 obtain⟨its,rv,pl,hz⟩:=I.list hq
 have ev:=Zb0 (s:=s) rv
 subst ev
 have hl:=pl.isList
 have hlt:p<s.heap.objs.size:=by obtain⟨_,e,_⟩:=hl;exact Heap.lt_size e
 refine call_all_walk (wpAny_pyIter_list hl ?_)
 refine⟨s.heap.objs.size,[s.heap.objs.size,p],[s.heap.objs.size],(bs.map Value.bool).toArray.size,_,_,fun i=>(bs[i]?).getD true,rfl,PySem.Walks.list (A:=X.A.in1) (I.ok.hd hc) _ p (Nat.ne_of_lt hlt) (bs.map Value.bool).toArray,
  ⟨⟨_,Heap.get?_push_size _ rfl,rfl,rfl⟩,hl.push _⟩,fun i v s' Q' E' hP hQ=>?_,fun h' tk hk=>?_⟩
 ·have hP':(bs.map Value.bool)[i]? =some v:=by simpa using hP
  rw[List.getElem?_map] at hP'
  cases e:bs[i]? with
  |none=>rw[e] at hP';cases hP'
  |some b=>
   rw[e] at hP'
   cases hP'
   have hQ':Q' ((bs[i]?).getD true) s':=hQ
   rw[e] at hQ'
   exact wpAny_truthy_bool hQ'
 ·have e:((List.range (bs.map Value.bool).toArray.size).all fun i=>(bs[i]?).getD true)=bs.all id:=by
   rw[List.size_toArray,List.length_map];exact ZeI bs
  rw[e]
  exact⟨.bl (bs.all id),H,I.kept (Zhn hk),rfl,q⟩
theorem ZfR (hc:X.calm=true):YI X (.builtin "sum") (fun xs H Q=>∃(p:Addr) (ns:List Int),xs=[.ref p]∧SqL X.K H p (ns.map V.int)∧Q (.int ns.sum) H):=by
 intro pins s σ H xs us Q I r h
 obtain⟨p,ns,rfl,hq,q⟩:=h
 obtain⟨u,rfl,rx⟩:=Vq r
 cases rx
 obtain⟨its,rv,pl,hz⟩:=I.list hq
 have hi:=ZeN rv
 obtain⟨xs,hx⟩:=hi.allInts.items
 have hl':s.heap.IsList p (intItems xs):=hx▸pl.isList
 refine sum_intListG (I.ok.hd hc) hl' fun h' tk t' hk=>?_
 have e1:ns=xs.toList.map (·.1):=by
  rw[←nums_intItems,←hx]
  exact(show numsOf its.toArray.toList=ns from hi.numsOf).symm
 have e2:preSum (numAt xs) xs.size=ns.sum:=by
  rw[preSum_eq,List.take_of_length_le (by simp),e1]
 rw[e2]
 exact⟨.int ns.sum,H,I.kept hk,⟨_,rfl⟩,q⟩
end
end L2
namespace L2
open PySem PySem.Spec PyProof.Rows
structure ZeQ (K:PySem.W.Frag) (x qual:Str) (st:Stmt) (dT:Addr) (f:Addr) (fd:FuncData):Prop where
 ex:∃(oc:Value) (od:Option Addr) (kV doc pm:Value) (an:Option Addr) (cdv ct:Value) (osl:Array (Option Value)),
  fd=PySem.W.fnOf x qual (Vf st) (WF st) (Zh st) (.ref dT) kV doc pm an cdv ct∧K.lookup f=some ⟨oc,od,.func fd,osl⟩∧PySem.W.codeIn K cdv qual=true
 kp:PySem.W.keepIn K (.ref f)=true
section
variable {P:Program} {w:World} {K:PySem.W.Frag} {mg:Str→Option Value} {base:Heap}
theorem ZeQ.okX {x qual:Str} {st:Stmt} {dT f:Addr} {fd:FuncData} {N ps:List Str} {k:Nat} {sp:Sp} (F:ZeQ K x qual st dT f fd) (S:Zr N ps (Zh st)) (len:∀vs H Q E,sp vs H Q E→vs.length=ps.length)
  (hbody:∀(cdv:Value) (A:Around) (outer:List Env) (s:Shared) (H:Hp) (vs:List V) (Q:VK) (E:XK),Yw k (A.deeper (envOfC qual (Zh st) s.heap.objs.size f cdv))→sp vs H Q E→
   ∃t,PSs (cxX P w K mg base N qual (Zh st) f cdv A outer s H E) (WF st) t∧t {nx:=fun _ H'=>Q .non H',rt:=Q} (start N vs) H):Zj P w K mg base (CXX P w) (k+1) f fd ps sp:=by
 obtain⟨oc,od,kV,doc,pm,an,cdv,ct,osl,rfl,lk,hcd⟩:=F.ex
 exact Zha lk hcd S len fun A outer s H vs Q E hr hsp=>hbody cdv A outer s H vs Q E hr hsp
theorem ZhB {x qual:Str} {st:Stmt} {dT f:Addr} {oc:Value} {od an:Option Addr} {osl:Array (Option Value)} {kV doc pm cdv ct:Value} (l:K.lookup f=some ⟨oc,od,.func (PySem.W.fnOf x qual (Vf st) (WF st) (Zh st) (.ref dT) kV doc pm an cdv ct),osl⟩)
  (c:PySem.W.codeIn K cdv qual=true) (k:PySem.W.keepIn K (.ref f)=true):ZeQ K x qual st dT f (PySem.W.fnOf x qual (Vf st) (WF st) (Zh st) (.ref dT) kV doc pm an cdv ct):=⟨⟨oc,od,kV,doc,pm,an,cdv,ct,osl,rfl,l,c⟩,k⟩
theorem ZiK {h₀:Heap} {x:Str} {C:Addr} {bmB:List Value} {newId:String} (X:K.In h₀) (g:h₀.Ns mainGlobals mg) (e:PySem.W.nsIn K mainGlobals x=some (some (.ref C))) (q:PySem.W.excIn K C bmB newId=true):OwnCls x C bmB newId mg h₀:=by
 refine⟨PySem.W.mg_of X g e,?_⟩
 unfold PySem.W.excIn at q
 split at q
 ·rename_i dd cd sl ho
  split at q
  ·rename_i C' bm k0 k1 k2 k3 n k5 hm hs
   simp only[Bool.and_eq_true,beq_iff_eq,Bool.not_eq_true'] at q
   obtain⟨⟨⟨⟨⟨rfl,rfl⟩,hdel⟩,ht⟩,hok⟩,hni⟩:=q
   obtain⟨nm,bs,mro,ns,qn,hd,sn,sub,ab,col,del⟩:=cd
   dsimp only at hm hdel hok hni
   subst hm hdel
   have hsl:sl=#[k0,k1,k2,k3,some (.builtin n),k5]:=by
    obtain⟨l⟩:=sl
    simp only at hs
    rw[hs]
   subst hsl
   exact⟨bm,ns,nm,qn,bs,hd,sn,sub,ab,col,dd,k0,k1,k2,k3,k5,_,X _ _ ho,.of_isNs (PySem.W.isNs_of_in X hok),PySem.W.nsMap_none_of_in X hok hni,PySem.W.tail_of_in X ht⟩
  ·cases q
 ·cases q
section
variable {N:List Str} {qual:Str} {scope:Scope} {f:Addr} {cd:Value} {A:Around} {outer:List Env} {s₀:Shared} {H₀:Hp} {E:XK}
theorem Yc {x:Str} {np cpos pos:Pos} {e₀:Expr} {rest:List Expr} {t:TA} {C:Addr} {B newId initId:String} {bm:List Value} (e:PySem.W.nsIn K mainGlobals x=some (some (.ref C))) (q:PySem.W.excIn K C bm newId=true) (FB:ExcBaseFacts B newId initId bm)
  (hg:Gl (cxX P w K mg base N qual scope f cd A outer s₀ H₀ E) x) (ha:PA (cxX P w K mg base N qual scope f cd A outer s₀ H₀ E) (e₀::rest) t)
  (he:starEach (e₀::rest) (cxX P w K mg base N qual scope f cd A outer s₀ H₀ E).env=(false,eval e₀ (cxX P w K mg base N qual scope f cd A outer s₀ H₀ E).env)::starEach rest (cxX P w K mg base N qual scope f cd A outer s₀ H₀ E).env:=by rfl)
  (hplain:(backTo cpos (starEach rest (cxX P w K mg base N qual scope f cd A outer s₀ H₀ E).env)).any (·.1)=false:=by rfl) (hdb:(x==("__debug__" :Str))=false:=by decide):
  PS (cxX P w K mg base N qual scope f cd A outer s₀ H₀ E) (.Raise (some (.Call (.Name x np) (e₀::rest) [] cpos)) none pos) (Zdm (.ref C) E t):=by
 intro pins s σ H D I h
 exact ZgM (ZiK I.ok.mod.kin I.ok.mod.glob e q) FB hg ha he hplain hdb pins s σ H D I h
end
end
section
variable {X:Cx}
def rSlS:V→Option Int→Option Int→Hp→VK→Prop:=fun x lo hi H Q=>∃z,x= .str z∧z.length≤sizeLine∧Q (.str (Txt.slice z lo hi)) H
theorem ZiN:SlR X rSlS:=by
 intro pins s σ H x v vl vu lo hi sl Q I rx hs pl pu h
 obtain⟨z,rfl,hz,q⟩:=h
 obtain⟨t,rfl⟩:=rx
 refine⟨"str",_,F.slot_str_getitem.lookup,typeIs_str _ _ _,?_⟩
 have fin:∀l u:Option (Int×Tok),l.map (·.1)=lo→u.map (·.1)=hi→partValue l=vl→partValue u=vu→wpAny (model X.prog X.w) X.A (getItem (.str z t) (.ref sl)) (EP X pins σ Q) X.xe s:=fun l u e1 e2 e3 e4=>by
  obtain⟨o,ho,hc,hd⟩:=hs
  subst e1 e2 e3 e4
  exact wpAny_getItem_str_slice (l:=l) (u:=u) (st:=none) ⟨o,ho,hc,hd⟩ rfl (post_val_or_str ⟨Nat.le_trans (Txt.slice_le z _ _) hz,fun t' k=>⟨.str _,H,I.tok k,⟨_,rfl⟩,q⟩⟩)
 cases pl with
 |none=>
  cases pu with
  |none=>exact fin none none rfl rfl rfl rfl
  |int j t'=>exact fin none (some (j,t')) rfl rfl rfl rfl
 |int i ti=>
  cases pu with
  |none=>exact fin (some (i,ti)) none rfl rfl rfl rfl
  |int j t'=>exact fin (some (i,ti)) (some (j,t')) rfl rfl rfl rfl
def Zfk (K:PySem.W.Frag):V→Option Int→Option Int→Hp→VK→Prop:=fun x lo hi H Q=>ZhT K x lo hi H Q∨(Zh1 K x lo hi H Q∨rSlS x lo hi H Q)
theorem Zkf:SlR X (Zfk X.K):=Zhw.or (Zf5.or ZiN)
end
structure Ve (K:PySem.W.Frag) (C:Addr) (fs:List Str):Prop where
 out:∀f∈fs,YU K C f
theorem Ve.get {K:PySem.W.Frag} {C:Addr} {fs:List Str} {f:Str} (h:Ve K C fs) (m:fs.contains f=true):YU K C f:=h.out f (by simpa using m)
namespace Rd
section
variable {σ:St} {H:Hp} {Q:VK} {D:W6} {K:PySem.W.Frag}
theorem slL {a:Addr} {xs:List V} {lo hi:Option Int} (h:SqL K H a xs) (q:∀p,H p=none→Q (.ref p) (upd H p (.lst (Wx xs lo hi)))):Zfk K (.ref a) lo hi H Q:= .inl ⟨a,xs,rfl,h,q⟩
theorem sl {r:V→Option Int→Option Int→Hp→VK→Prop} {te:TE} {tl th:TO} (h:te σ H fun x H1=>tl σ H1 fun l H2=>th σ H2 fun u H3=>r x l u H3 Q):tSl r te tl th σ H Q:=h
theorem ZiA {Q:Option Int→Hp→Prop} (h:Q none H):tNoPart σ H Q:=h
theorem ZjO {te:TE} {Q:Option Int→Hp→Prop} (h:te σ H fun x H1=>∃i,x= .int i∧Q (some i) H1):Zg2 te σ H Q:=h
theorem Zjq {i:Int} {C:Int→Prop} (h:C i):∃j,V.int i= .int j∧C j:=⟨i,rfl,h⟩
theorem ZjK {ta:TE} {f:Str} (h:ta σ H fun x H1=>∃a C dx fs v,x= .ref a∧H1 a=some (.ins C dx fs)∧Cls K C∧YU K C f∧fs.lookup f=some v∧Q v H1):ZgL K ta f σ H Q:=h
theorem fld {a C dx:Addr} {fs:List (Str×V)} {f:Str} {v:V} {G:V→Prop} (h:H a=some (.ins C dx fs)) (c:Cls K C) (n:YU K C f) (l:fs.lookup f=some v) (q:G v):
  ∃a' C dx fs v,V.ref a= .ref a'∧H a'=some (.ins C dx fs)∧Cls K C∧YU K C f∧fs.lookup f=some v∧G v:=⟨a,C,dx,fs,v,rfl,h,c,n,l,q⟩
theorem Zjb {C:Addr} {m:Str} {sp:Sp} {dvs:List V} {E:XK} {ta:TE} {t:TA} (h:ta σ H fun x H1=>∃a dx fs,x= .ref a∧H1 a=some (.ins C dx fs)∧fs.lookup m=none∧t σ H1 fun vs H2=>sp (x::(vs++dvs)) H2 Q E):Zfs C m sp dvs E ta t σ H Q:=h
theorem ZjE {a C dx:Addr} {fs:List (Str×V)} {m:Str} {G:Prop} (h:H a=some (.ins C dx fs)) (l:fs.lookup m=none) (q:G):∃a' dx fs,V.ref a= .ref a'∧H a'=some (.ins C dx fs)∧fs.lookup m=none∧G:=⟨a,dx,fs,rfl,h,l,q⟩
theorem Zje {C:Addr} {sp:Sp} {dvs:List V} {E:XK} {t:TA} (h:t σ H fun vs H1=>∀x dx,H1 x=none→H1 dx=none→dx≠x→
  sp (.ref x::(vs++dvs)) (upd (upd H1 dx (.own x)) x (.ins C dx [])) (fun v H2=>v= .non∧Q (.ref x) H2) E):Ze0 C sp dvs E t σ H Q:=h
theorem ZjX {ta tv:TE} {f:Str} (h:tv σ H fun y H1=>ta σ H1 fun x H2=>∃a C dx fs,x= .ref a∧H2 a=some (.ins C dx fs)∧Cls K C∧YU K C f∧fs.length<1000∧D.nx σ (upd H2 a (.ins C dx (YC f y fs)))):ZgQ K ta tv f D σ H:=h
theorem Zjf {a C dx:Addr} {fs fs':List (Str×V)} {f:Str} {y:V} (h:H a=some (.ins C dx fs)) (c:Cls K C) (n:YU K C f) (l:fs.length<1000) (e:YC f y fs=fs') (q:D.nx σ (upd H a (.ins C dx fs'))):
  ∃a' C dx fs,V.ref a= .ref a'∧H a'=some (.ins C dx fs)∧Cls K C∧YU K C f∧fs.length<1000∧D.nx σ (upd H a' (.ins C dx (YC f y fs))):=⟨a,C,dx,fs,rfl,h,c,n,l,by rw[e];exact q⟩
theorem Zi0 {cls:Value} {E:XK} {t:TA} (h:t σ H fun vs H1=>vs.length≤sizeLine∧E cls none H1):Zdm cls E t D σ H:=h
theorem ZiH {v:V} {G:Prop} (q:G):[v].length≤sizeLine∧G:=⟨by show 1≤sizeLine;decide,q⟩
theorem Zjm {te:TE} {R:It→Hp→Prop} (h:te σ H fun x H1=>∃a,x= .ref a∧(∃xs,SqL K H1 a xs)∧R (Itl K a) H1):Zfh K te σ H R:=h
theorem ZjQ {te:TE} {R:It→Hp→Prop} (h:te σ H fun x H1=>∃y,x= .str y∧R (Its y) H1):Zim te σ H R:=h
theorem Zjp {y:Str} {G:Str→Prop} (h:G y):∃z,V.str y= .str z∧G z:=⟨y,rfl,h⟩
theorem Zjr {ix:List Nat} {wi:TI} {g:TG} {tc:TT} {te:TE} (h:wi σ H fun J H1=>∀p,H1 p=none→
 ∃W:Nat→Nat→List V→St→Hp→Prop,(∃m,W 0 m [] (emb ix σ) (upd H1 p (.lst [])))∧∀i m ys σ' H',W i m ys σ' H'→
  (J.stop i H'∧Q (.ref p) H')∨(J.go i H'∧∀x H2,J.yld i H' x H2→g x σ' H2 fun σ2 H3=>tc σ2 H3 fun b H4=>
   if b=true then te σ2 H4 fun v H5=>H5 p=some (.lst ys)∧ys.length<sizeLine∧∃m',m'<m∧W (i+1) m' (ys++ [v]) σ2 (upd H5 p (.lst (ys++ [v])))
   else ∃m',m'<m∧W (i+1) m' ys σ2 H4)):Zg0 ix wi g tc te σ H Q:=h
theorem ZjD {Q:Bool→Hp→Prop} (h:Q true H):tAll σ H Q:=h
theorem lk0 {f:Str} {v:V} {r:List (Str×V)}:((f,v)::r).lookup f=some v:=by simp
theorem lk1 {f g:Str} {v:V} {o:Option V} {r:List (Str×V)} (n:(f==g)=false) (h:r.lookup f=o):((g,v)::r).lookup f=o:=by rw[List.lookup_cons,n];exact h
theorem lkN {f:Str}:([]:List (Str×V)).lookup f=none:=rfl
theorem pf0 {f:Str} {v x:V} {r:List (Str×V)}:YC f v ((f,x)::r)=(f,v)::r:=by simp[YC]
theorem pf1 {f g:Str} {v x:V} {r r':List (Str×V)} (n:(g==f)=false) (h:YC f v r=r'):YC f v ((g,x)::r)=(g,x)::r':=by
 have:¬g=f:=by simpa using n
 simp[YC,this,h]
theorem pfN {f:Str} {v:V}:YC f v []=[(f,v)]:=rfl
end
end Rd
end L2
namespace L2
open PySem PySem.Spec PyProof.Rows
theorem Zhx (x:Str) (ys:List Str):inV (.str x) (ys.map V.str)=decide (x∈ys):=by
 induction ys with
 |nil=>rfl
 |cons y ys ih=>
  have e:inV (.str x) ((y::ys).map V.str)=(eqV (.str y) (.str x)||inV (.str x) (ys.map V.str)):=rfl
  rw[e,ih]
  show((y==x)||decide (x∈ys))=decide (x∈y::ys)
  by_cases h:x=y
  ·subst h;simp
  ·have:(y==x)=false:=by simpa using fun z=>h z.symm
   rw[this]
   simp[h]
theorem Zgg (ys:List Str):(ys.map V.str).all Uh=true:=by
 rw[List.all_map,List.all_eq_true]
 intro _ _
 rfl
namespace Rd
section
variable {H:Hp} {Q:VK} {K:PySem.W.Frag}
theorem Zjz {p:Addr} {x:Str} {ys:List Str} (h:SqL K H p (ys.map V.str)) (q:Q (.bl (!decide (x∈ys))) H):rIn K true (.str x) (.ref p) H Q:=⟨p,_,rfl,.inl h,rfl,Zgg ys,by rw[Zhx];exact q⟩
theorem ifD {c A B:Prop} [Decidable c] (a:c→A) (b:¬c→B):if decide c=true then A else B:=by
 by_cases h:c
 ·exact ifP h (a h)
 ·exact ifN h (b h)
theorem Zj5 {p:Addr} {bs:List Bool} {G:List Bool→Prop} (h:SqL K H p (bs.map V.bl)) (q:G bs):∃(p':Addr) (bs':List Bool),[V.ref p]=[.ref p']∧SqL K H p' (bs'.map V.bl)∧G bs':=⟨p,bs,rfl,h,q⟩
theorem leS {x y:Str} (q:Q (.bl (!decide (y.cps.toList<x.cps.toList))) H):rLeS (.str x) (.str y) H Q:=⟨x,y,rfl,rfl,q⟩
theorem Zi5 {σ:St} {r r':R2} {ta tb tc:TE} (h:ta σ H fun x H1=>tb σ H1 fun y H2=>r x y H2 fun z H3=>∃k,z= .bl k∧(if k=true then tc σ H3 fun w' H4=>r' y w' H4 Q else Q (.bl false) H3)):ZdZ r r' ta tb tc σ H Q:=h
end
end Rd
end L2
namespace L2
open PySem PySem.Spec PyProof.Rows
theorem ZO.off {A A':List Addr} {H:Hp} {q:Addr} (g:ZO A A' H) (n:q∉A) (h:H q≠none):q∉A':=fun z=>(g q z).elim n h
namespace Rd
section
variable {H:Hp} {Q:VK} {K:PySem.W.Frag}
theorem un1 {g:Int→V} {i:Int} (q:Q (g i) H):rU g (.int i) H Q:=⟨i,rfl,q⟩
theorem ZjP {z:Str} {i:Int} {c:Nat} (h:z.length≤sizeLine) (e:atI z.cps.toList i=some c) (q:Q (.str ⟨#[c]⟩) H):rIx K (.str z) (.int i) H Q:= .inr (.inr ⟨z,i,c,rfl,rfl,h,e,q⟩)
theorem Zix {a:Addr} {xs:List V} {G:Addr→Prop} (h:SqL K H a xs) (q:G a):∃a',V.ref a= .ref a'∧(∃xs,SqL K H a' xs)∧G a':=⟨a,rfl,⟨xs,h⟩,q⟩
theorem Zi1 {j:Int} {G:Int→Prop} (h1: -(2 ^ 62)≤j) (h2:j<2 ^ 62) (q:G j):∃k,[V.int j]=[.int k]∧ -(2 ^ 62)≤k∧k<2 ^ 62∧G k:=⟨j,rfl,h1,h2,q⟩
theorem Zkg {i j:Int} {G:Int→Int→Prop} (q:G i j):∃i' j',[V.int i,.int j]=[.int i',.int j']∧G i' j':=⟨i,j,rfl,q⟩
end
end Rd
end L2
namespace L2
open PySem PySem.Spec PyProof.Rows
def hid (H:Hp) (r:Addr):Hp:=fun b=>if b=r then none else H b
theorem Ws {H:Hp} {r:Addr}:hid H r r=none:=by unfold hid;rw[if_pos rfl]
theorem WB {H:Hp} {r b:Addr} (h:b≠r):hid H r b=H b:=by unfold hid;rw[if_neg h]
theorem YT {H:Hp} {r:Addr}:Zd (hid H r) H:=fun b o e=>by
 by_cases h:b=r
 ·rw[h,Ws] at e;cases e
 ·rw[WB h] at e;exact e
end L2
namespace L2
open PySem PySem.Spec PyProof.Rows
theorem ZdL:∀ns:List Int,PyData.canLayAll0 (ns.map PyData.int)=true
 | []=>by simp[PyData.canLayAll0]
 |n::ns=>by
  have:=ZdL ns
  simp[PyData.canLayAll0,PyData.canLay0] at this⊢
  exact this
theorem Zf4 (ns:List Int):(PyData.list (ns.map PyData.int)).canLay0=true:=by
 have:=ZdL ns
 simp[PyData.canLay0]
 simpa using this
theorem ZbE:∀ns:List Int,PyData.depthAll (ns.map PyData.int)≤1
 | []=>by simp[PyData.depthAll]
 |n::ns=>by
  have:=ZbE ns
  simp[PyData.depthAll,PyData.depth] at this⊢
  exact this
end L2
namespace L2
open PySem PySem.Spec PyProof.Rows
namespace Rd
section
variable {H:Hp} {Q:VK} {K:PySem.W.Frag}
end
end Rd
end L2
namespace L2
open PySem PySem.Spec PyProof.Rows
namespace Rd
section
variable {σ:St} {H:Hp} {Q:VK} {K:PySem.W.Frag} {J:St→Prop} {E:XK} {sp:Sp} {dvs:List V} {t:TA} {ta:TE}
theorem Zi6 {C:Addr} {m:Str} (hj:J σ) (h:ta σ H fun x H1=>∃a dx fs,x= .ref a∧H1 a=some (.ins C dx fs)∧fs.lookup m=none∧t σ H1 fun vs H2=>sp (x::(vs++dvs)) H2 Q E):Zdj J C m sp dvs E ta t σ H Q:=⟨hj,h⟩
end
end Rd
end L2
namespace L2
open PySem PySem.Spec PyProof.Rows
namespace Rd
section
variable {σ:St} {H:Hp}
theorem ZjI {to ti:TE} {t:ZbC} {v:V} {Q:St→Hp→Prop} (h:to σ H fun o H1=>ti σ H1 fun i H2=>t o i v H2 fun H3=>Q σ H3):ZhW to ti t v σ H Q:=h
theorem Zj8 {p:Addr} {xs:List V} {k:Int} {v:V} {Q:Hp→Prop} (hp:H p=some (.lst xs)) (h0:0≤k) (h1:k<xs.length) (q:Q (upd H p (.lst (xs.set k.toNat v)))):rSetL (.ref p) (.int k) v H Q:=
 ⟨p,xs,k,k.toNat,rfl,rfl,hp,by unfold ixN;rw[if_pos h0,if_pos h1],q⟩
end
end Rd
section
variable {X hs:List Int} {i:Nat} {v u:Int}
end
end L2
namespace L2
open PySem PySem.Spec PyProof.Rows
end L2
namespace L2
open PySem PySem.Spec PyProof.Rows
section
variable {X:Cx} {K:PySem.W.Frag}
theorem ZU (e:X.K=K):OpR X (binaryOp .Add) (rOr ZeM (rOr Zc8 (rOr rCat (Zfr K)))):=e▸Zhs
theorem YD (e:X.K=K) (hu:X.A.units+64<cLine):OpR X (compareOp .Eq) (rOr rEq (Zbq K false)):=e▸ZiJ hu
theorem UD (e:X.K=K) (hu:X.A.units+64<cLine):OpR X (compareOp .NotEq) (rOr rNe (Zbq K true)):=e▸Zip hu
theorem ZS (e:X.K=K):IxR X (rIx K):=e▸ZhQ
theorem Zcf (e:X.K=K):SlR X (Zfk K):=e▸Zkf
def ZhS (K:PySem.W.Frag):List V→Hp→VK→Prop:=fun xs H Q=>∃x n,xs=[x]∧Zaj K x H n∧Q (.int n) H
theorem Yx (e:X.K=K):YI X (.builtin "len") (ZhS K):=e▸ZgH
theorem Zhy (e:X.K=K):OpR X (compareOp .NotIn) (rIn K true):=e▸Zdt
theorem ZH {e:Expr} {ta:TE} {f:Str} {pos:Pos} (ek:X.K=K) (he:PE X e ta) (hb:attributeBase e f X.env (eval e X.env)=eval e X.env):PE X (.Attribute e f pos) (ZgL K ta f):=ek▸Zil he hb
theorem YN {o value:Expr} {ta tv:TE} {f:Str} {pos pos':Pos} (ek:X.K=K) (ha:PE X o ta) (hv:PE X value tv) (hs:swapsWith value (some (.Attribute o f pos')) pos.line X.env=pure false):
  PS X (.Assign [.Attribute o f pos'] value pos) (ZgQ K ta tv f):=ek▸ZhX ha hv hs
theorem ZN {tg l:Expr} {tl:TE} (ek:X.K=K) (hl:PE X l tl):PI X tg l (Zfh K tl):=ek▸Zho hl
theorem VF {tg l:Expr} {tl:TE} (ek:X.K=K) (hl:PE X l tl):PI X tg l (Zan K tl):=ek▸Zii hl
def Zik (K:PySem.W.Frag) (ta:TE):TT:=fun σ H Q=>ta σ H fun x H'=>∃k,Zdy K x H' k∧Q k H'
theorem Z5 {a:Expr} {ta:TE} (ek:X.K=K) (ha:PE X a ta) (he:∀whole,isTrue a X.env whole=(do let v←whole;standAt a.pos;holding [v] (truthy v))):PT X a (Zik K ta):=ek▸ZgF ha he
def ZiB (K:PySem.W.Frag):List V→Hp→VK→Prop:=fun xs H Q=>∃x n t b,xs=[x,.ty n]∧Wj K H x t∧PySem.W.kitOne K t (.type n)=some b∧Q (.bl b) H
theorem Uc (e:X.K=K):YI X (.builtin "isinstance") (ZiB K):=e▸Zd3
def Zes (K:PySem.W.Frag):List V→Hp→VK→Prop:=fun xs H Q=>∃p ys,xs=[.ref p]∧(SqL K H p ys∨SqT K H p ys)∧∀l,H l=none→Q (.ref l) (upd H l (.lst ys))
theorem Y8 (e:X.K=K):YI X (.type "list") (Zes K):=e▸Zdg
def Zit (K:PySem.W.Frag):List V→Hp→VK→Prop:=fun xs H Q=>∃p ys,xs=[.ref p]∧((SqL K H p ys∧∀l,H l=none→Q (.ref l) (upd H l (.tup ys)))∨(SqT K H p ys∧Q (.ref p) H))
theorem Zev (e:X.K=K):YI X (.type "tuple") (Zit K):=e▸ZcW
def Zhb (K:PySem.W.Frag):List V→Hp→VK→Prop:=fun xs H Q=>∃(p:Addr) (bs:List Bool),xs=[.ref p]∧SqL K H p (bs.map V.bl)∧Q (.bl (bs.all id)) H
theorem Zc6 (e:X.K=K) (hc:X.calm=true):YI X (.builtin "all") (Zhb K):=e▸ZfD hc
def Zjn (K:PySem.W.Frag):List V→Hp→VK→Prop:=fun xs H Q=>∃(p:Addr) (ns:List Int),xs=[.ref p]∧SqL K H p (ns.map V.int)∧Q (.int ns.sum) H
theorem Za4 (e:X.K=K) (hc:X.calm=true):YI X (.builtin "sum") (Zjn K):=e▸ZfR hc
theorem YZ {o e:Expr} {es:List Expr} {to:TE} {t:TA} {name:Str} {apos cpos:Pos} {T id:String} {r:V→List V→Hp→VK→Prop} (ek:X.K=K) (pa:PlainAttrs T) (slot:Slot T name id) (hty:typeOf (.builtin id)=pure (.type "method_descriptor")) (hm:MtR X id r) (ho:PE X o to) (ha:PA X (e::es) t)
  (hbase:attributeBase o name X.env (eval o X.env)=eval o X.env:=by rfl)
  (hfew:((backTo cpos (starEach (e::es) X.env)).all (fun x=>!x.1)&&(backToKw cpos (keywordEach [] X.env)).all (fun x=>x.1.isSome)
   &&decide ((e::es).length+([]:List Keyword).length+(if([]:List Keyword).isEmpty then 0 else 1)<30))=true:=by rfl)
  (hline:(apos.endLine==cpos.line)=true:=by rfl) (hs:starEach (e::es) X.env=(false,eval e X.env)::starEach es X.env:=by rfl) (hplain:(backTo cpos (starEach es X.env)).any (·.1)=false:=by rfl):
  PE X (.Call (.Attribute o name apos) (e::es) [] cpos) (tBM K T r to t):=ek▸Zi7 pa slot hty hm ho ha hbase hfew hline hs hplain
theorem Yg {es:List Expr} {k:Nat} {t:TGs} {n:Nat} {pos:Pos} (ek:X.K=K) (hc:X.calm=true) (h:PGs X es t) (hn:(assignEach es X.env).length=n:=by rfl) (hst:(assignEach es X.env).findIdx? (·.1)=none:=by rfl):
  PG X (.Tuple es k pos) (ZgJ K n t):=ek▸Ziu hc h hn hst
end
namespace Rd
section
variable {σ:St} {H:Hp} {Q:VK} {K:PySem.W.Frag}
theorem tru {ta:TE} {Q:Bool→Hp→Prop} (h:ta σ H fun x H'=>∃k,Zdy K x H' k∧Q k H'):Zik K ta σ H Q:=h
theorem Zj3 {xs:List V} (h:∃x n,xs=[x]∧Zaj K x H n∧Q (.int n) H):ZhS K xs H Q:=h
theorem Zj7 {xs:List V} (h:∃x n t b,xs=[x,.ty n]∧Wj K H x t∧PySem.W.kitOne K t (.type n)=some b∧Q (.bl b) H):ZiB K xs H Q:=h
theorem Zkb {xs:List V} (h:∃(p:Addr) (bs:List Bool),xs=[.ref p]∧SqL K H p (bs.map V.bl)∧Q (.bl (bs.all id)) H):Zhb K xs H Q:=h
theorem Zcc {p:Addr} {xs:List V} (h:SqL K H p xs) (q:∀l,H l=none→Q (.ref l) (upd H l (.lst xs))):Zes K [.ref p] H Q:=⟨p,xs,rfl,.inl h,q⟩
end
end Rd
end L2
namespace L2
open PySem PySem.Spec PyProof.Rows
section
variable {X:Cx}
def rDIn:R2:=fun y x H Q=>∃a o,x= .ref a∧Zdx H a y o∧Q (.bl o.isSome) H
theorem ZiT (hu:X.A.units+64<cLine):OpR X (compareOp .In) rDIn:=by
 intro pins s σ H x y v u Q I rx ry h
 obtain⟨a,o,rfl,g,q⟩:=h
 cases ry
 exact ZjT (by omega) I g rx fun s' I'=>⟨.bl o.isSome,H,I',rfl,q⟩
def rSetD:V→V→V→Hp→(Hp→Prop)→Prop:=fun o i v H Q=>∃a H4,o= .ref a∧Zdc H a i v H4∧Q H4
theorem ZgR (hu:X.A.units+64<cLine):Zfe X rSetD:=by
 intro pins s σ H o i v ov iv u Q I ro ri rv h
 obtain⟨a,H4,rfl,g,q⟩:=h
 cases ro
 exact Zf6 (by omega) I g ri rv fun s' I'=>⟨H4,I',q⟩
theorem Zi4 {P:Program} {w:World} {k:Key} {u:Value} (h:(Yu P w).is k u=true):ZB (kV k) u:=by
 cases k with
 |inl i=>exact Value.isInt_shape h
 |inr x=>exact Value.isStrOf_shape h
theorem Zer:∀{xs:List V} {us:List Value},us.length=xs.length→(∀(j:Nat) (v:V) (u:Value),xs[j]? =some v→us[j]? =some u→ZB v u)→Zw xs us
 | [],[],_,_=> .nil
 |x::xs,u::us,hl,h=> .cons (h 0 x u rfl rfl) (Zer (by simpa using hl) fun j v w e1 e2=>h (j+1) v w (by simpa using e1) (by simpa using e2))
 | [],_::_,hl,_=>by simp at hl
 |_::_,[],hl,_=>by simp at hl
theorem KV.at {kvs:List (Key×V)} {vs:List (Key×Value)} (r:KV kvs vs):∀{j:Nat} {k:Key} {x:Value},vs[j]? =some (k,x)→∃v,kvs[j]? =some (k,v):=by
 unfold KV at r
 induction r with
 |nil=>intro j k x e;simp at e
 | @cons p q ps qs h t ih=>
  intro j k x e
  cases j with
  |zero=>
   simp at e
   subst e
   have h1:p.1=k:=h.1
   exact⟨p.2,by simp[←h1]⟩
  |succ j=>
   obtain⟨v,z⟩:=ih (j:=j) (k:=k) (x:=x) (by simpa using e)
   exact⟨v,by simpa using z⟩
def rListD:List V→Hp→VK→Prop:=fun xs H Q=>∃a kvs,xs=[V.ref a]∧H a=some (.dK kvs)∧∀l,H l=none→Q (.ref l) (upd H l (.lst (kvs.map fun kv=>kV kv.1)))
theorem ZeZ (hc:X.calm=true):YI X (.type "list") rListD:=by
 intro pins s σ H xs us Q I r h
 obtain⟨a,kvs,rfl,ha,q⟩:=h
 obtain⟨u,rfl,ru⟩:=Vq r
 cases ru
 obtain⟨z,hd,vs,rel,dd⟩:=ZgY I.hok ha
 obtain⟨ep,hat⟩:=dd.dictAt
 refine PySem.W.kdl_call (PySem.W.kdl_dict (knd:=Yu X.prog X.w) (kvs:=vs) (ep:=ep) hd) (I.ok.hd hc) hat (by rw[←rel.length];exact z) fun h' tk acc c hk hD hacc=>?_
 refine⟨.ref s.heap.objs.size,_,I.laid (a:=s.heap.objs.size) (o:= .lst (kvs.map fun kv=>kV kv.1)) (t':=tk) hk (Nat.le_refl _) ⟨by rw[List.length_map];exact z,acc.toList,c,?_,by simpa using hD⟩,rfl,q _ (I.hok.fresh (Nat.le_refl _))⟩
 refine Zer (by rw[Array.length_toList,hacc.1,List.length_map,rel.length]) fun j v u e1 e2=>?_
 obtain⟨k,x,hx,hk'⟩:=hacc.2 j u (by rw[←Array.getElem?_toList];exact e2)
 obtain⟨v',hv'⟩:=rel.at hx
 rw[List.getElem?_map,hv'] at e1
 cases e1
 exact Zi4 hk'
end
section
variable {X:Cx} {pins:List (Addr×Obj)} {σ:List (Option V)} {H H':Hp} {s:Shared} {h':Heap}
theorem Inv.turnedL {t':Nat} {fp:List Addr} (I:Inv X pins σ H s) (k:∀b o,b∉fp→s.heap.get? b=some o→h'.get? b=some o) (hf:∀b∈fp,WK X pins H b):Inv X pins σ H {s with heap:=h',toks:=t'}:=by
 have nit:∀b u,H b=some u→b∉fp:=fun b u e z=>by rw[(hf b z).1] at e;cases e
 refine I.step (g':=s.gens) (d':=s.drawn) (ch:=fp) (fun b hb=>?_) (fun b o _ _ hc e _=>k b o hc e) (fun b o _ _ hc e _=>⟨o.slots,k b o hc e⟩) (fun _ _ _ _ n=>n)
  (fun b o hc e=>⟨o,k b o hc e⟩) (fun _ _ e=>e) (fun _ _ _ e=>e) (fun b ps e=>⟨#[],by rw[e];simp⟩) (fun m hm=>?_) (fun b u e=>?_) I.bare
 ·obtain⟨f0,f1,f2,f3,f4,f5⟩:=hf b hb
  exact⟨f3,f1,f4,f5⟩
 ·obtain⟨o,es,ep,ho,r⟩:=hm
  exact⟨o,es,ep,k _ o (fun z=>(hf _ z).2.1 rfl) ho,r⟩
 ·refine(I.hok b u e).stay (fun c v hc q=>k c v ?_ q) (fun _ q=>q) fun _ _ q=>q
  rcases hc with z|z
  ·rw[z];exact nit b u e
  ·exact nit c _ z
theorem Inv.turnedNew {t':Nat} {fp:List Addr} {T:Addr} {o:HO} (I:Inv X pins σ H s) (k:∀b o,b∉fp→s.heap.get? b=some o→h'.get? b=some o) (hf:∀b∈fp,WK X pins H b) (hp:s.heap.objs.size≤T) (new:Z4 X.prog X.w (upd H T o) h' T o):
  Inv X pins σ (upd H T o) {s with heap:=h',toks:=t'}:=by
 have J:Inv X pins σ H {s with heap:=h',toks:=t'}:=I.turnedL k hf
 have hn:=I.hok.fresh hp
 obtain⟨f0,f1,f2,f3,f4,f5⟩:=I.fpOk hp hn
 refine Inv.step (s:={s with heap:=h',toks:=t'}) (h':=h') (g':=s.gens) (d':=s.drawn) (t':=t') (ch:=[T]) J (fun b hb=>?_) (fun b o _ _ hc e _=>e) (fun b o _ _ hc e _=>⟨o.slots,e⟩) (fun b o hc e n=>?_)
  (fun b o hc e=>⟨o,e⟩) (fun b xs e=>?_) (fun b o u e=>?_) (fun b ps e=>⟨#[],?_⟩) (fun m hm=>hm) (fun b u e=>?_) I.bare
 ·have e:b=T:=by simpa using hb
  subst e
  exact⟨f3,f1,f4,f5⟩
 ·rw[Zi (fun z=>hc (by simp[z]))];exact n
 ·rw[Zi (Zq e hn)];exact e
 ·rw[Zi (Zq e hn)];exact e
 ·rw[Zi (Zq e hn)];simpa using e
 ·by_cases hb:b=T
  ·subst hb;rw[Zg] at e;cases e;exact new
  ·rw[Zi hb] at e
   exact(J.hok b u e).stay (fun c v _ q=>q) (fun c q=>by rw[Zi (Zq q hn)];exact q) fun c xs q=>by rw[Zi (Zq q hn)];exact q
end
def Ite (K:PySem.W.Frag) (a:Addr):It:=
 ⟨fun i H=>∃xs x,SqL K H a xs∧xs[i]? =some x,fun i H v H'=>∃t x,H t=none∧v= .ref t∧H'=upd H t (.tup [.int i,x])∧∀xs,SqL K H a xs→xs[i]? =some x,fun i H=>∃xs,SqL K H a xs∧xs.length≤i⟩
theorem Zga {P:Program} {w:World} {K:PySem.W.Frag} {elts:List Expr} {k1:Nat} {pos:Pos} (a e it:Addr) (hei:e≠it):Zag P w K (.Tuple elts k1 pos) (Ite K a) [e,it] e (fun i h=>(∃old,IsEnum h e it i old)∧h.IsListIter it a i) where
 mem:=by simp
 obj:=fun i h st b hb=>by
  obtain⟨⟨old,he⟩,o,h1,h2,h3⟩:=st
  rcases List.mem_cons.mp hb with rfl|hb
  ·exact⟨_,he,fun v z=>by
    have z':Data.fields _=Data.cell v:=z
    cases z'⟩
  ·rw[List.mem_singleton.mp hb]
   exact⟨o,h1,fun v z=>by rw[h3] at z;cases z⟩
 keep:=fun i h h' st k=>⟨let⟨old,he⟩:=st.1;⟨old,k e (by simp) _ he⟩,st.2.at fun o q=>k it (by simp) o q⟩
 item:=by
  intro X hP hw hK hc i pins s σ H E I hf st hg
  subst hP hw hK
  obtain⟨xs,x,hq,hx⟩:=hg
  obtain⟨its,rv,p,hz⟩:=I.list hq
  obtain⟨u,hu,ru⟩:=rv.get hx
  obtain⟨⟨old,he⟩,hit⟩:=st
  refine wpAny_pyNext_enum_item he hit p.isList (x:=u) (by simpa using hu) hei fun h' ho hit' hT hsz hk=>?_
  have hfr:=I.hok.fresh (Nat.le_refl s.heap.objs.size)
  have helt:e<s.heap.objs.size:=Heap.lt_size he
  have hilt:it<s.heap.objs.size:=by obtain⟨_,y,_⟩:=hit;exact Heap.lt_size y
  refine⟨_,rfl,wpAny_letOwnedTupleGo_enum ho fun h2 he2 hs2=>?_⟩
  have hT2:h2.get? s.heap.objs.size=some {cls:= .type "tuple",data:= .seq #[.int i s.toks,u]}:=hs2.extBut _ _ (Nat.ne_of_gt helt) hT
  have I1:Inv X pins σ (upd H s.heap.objs.size (.tup [.int i,x])) {s with heap:=h2,toks:=s.toks+1}:=
   I.turnedNew (fp:=[e,it]) (fun b o hb q=>by
    have n1:b≠e:=fun z=>hb (by simp[z])
    have n2:b≠it:=fun z=>hb (by simp[z])
    exact hs2.extBut b o n1 (hk b o n1 n2 q)) hf (Nat.le_refl _) ⟨by show 2≤sizeLine;decide,[.int i s.toks,u],.cons ⟨_,rfl⟩ (.cons ru .nil),_,hT2,rfl,_,rfl⟩
  refine⟨.ref s.heap.objs.size,_,I1,rfl,⟨_,x,hfr,rfl,rfl,fun ys hy=>by rw[I.list_inj hy hq];exact hx⟩,⟨⟨_,he2⟩,hit'.at fun o q=>hs2.extBut _ _ hei.symm q⟩,fun b hb=>?_⟩
  have nb:b≠s.heap.objs.size:=by
   rcases List.mem_cons.mp hb with rfl|hb
   ·exact Nat.ne_of_lt helt
   ·rw[List.mem_singleton.mp hb];exact Nat.ne_of_lt hilt
  rw[Zi nb]
  exact(hf b hb).1
 done:=by
  intro X hP hw hK hc i pins s σ H E I hf st hg
  subst hP hw hK
  obtain⟨xs,hq,hx⟩:=hg
  obtain⟨its,rv,p,hz⟩:=I.list hq
  obtain⟨⟨old,he⟩,hit⟩:=st
  have hl:=rv.length
  exact wpAny_pyNext_enum_end (I.ok.hd hc) he hit p.isList (by simp;omega) fun h' eb=>⟨rfl,I.turnedL (t':=s.toks) (fp:=[e,it]) (fun b o hb q=>eb b o (fun z=>hb (by simp[z])) q) hf⟩
 self:=fun _ _ _ _ _ st h=>wpAny_pyIter_enum st.1.choose_spec h
section
variable {X:Cx}
def Zg9 (K:PySem.W.Frag) (ta:TA):TI:=fun σ H R=>ta σ H fun vs H1=>∃a,vs=[.ref a]∧(∃xs,SqL K H1 a xs)∧R (Ite K a) H1
theorem VG {K:PySem.W.Frag} {a:Expr} {ta:TA} {p pos tpos:Pos} {elts:List Expr} {k1:Nat} (ek:X.K=K) (hg:Gl X "enumerate") (hm:X.mg "enumerate" =none) (ha:PA X [a] ta) (hs:starEach [a] X.env=[(false,eval a X.env)]:=by rfl):
  PI X (.Tuple elts k1 tpos) (.Call (.Name "enumerate" p) [a] [] pos) (Zg9 K ta):=by
 subst ek
 intro pins s σ H R I h
 refine Call_ (U5 I hg hm boot_enumerate (PyProof.Rows.callWith_type1 (thn (ha pos pins s σ H _ I h) fun us s1 ⟨vs,H1,I1,r1,q1⟩=>?_) hs rfl))
 obtain⟨b,rfl,⟨xs,hq⟩,q⟩:=q1
 obtain⟨u,rfl,ru⟩:=Vq r1
 cases ru
 obtain⟨its,rv,pl,hz⟩:=I1.list hq
 refine call_enumerate_list pl.isList fun h' he hit hsz hk=>?_
 refine wpAny_pyIter_enum he ?_
 have I2:Inv X pins σ H1 {s1 with heap:=h'}:=I1.kept (t':=s1.toks) hk
 refine⟨s1.heap.objs.size+1,[s1.heap.objs.size+1,s1.heap.objs.size],_,_,H1,rfl,I2,Zga b _ _ (Nat.succ_ne_self _),⟨⟨_,he⟩,hit⟩,fun c hc=>?_,q⟩
 rcases List.mem_cons.mp hc with rfl|hc
 ·exact I1.fpOk (Nat.le_succ _) (I1.hok.fresh (Nat.le_succ _))
 ·rw[List.mem_singleton.mp hc]
  exact I1.fpOk (Nat.le_refl _) (I1.hok.fresh (Nat.le_refl _))
end
end L2
namespace L2
open PySem PySem.Spec PyProof.Rows
def rLenD:List V→Hp→VK→Prop:=fun xs H Q=>∃a kvs,xs=[V.ref a]∧H a=some (.dK kvs)∧Q (.int kvs.length) H
theorem Zfu {X:Cx}:YI X (.builtin "len") rLenD:=ZfF
def Zaz (n:Nat) (ix:List Nat) (σ:St):St:=List.replicate n none++ix.map fun j=>(σ[j]?).join
def ZdS (n:Nat) (ix:List Nat) (wi:TI) (g:TG) (tc:TT) (te:TE):TE:=fun σ H Q=>wi σ H fun J H1=>∀p,H1 p=none→
 ∃W:Nat→Nat→List V→St→Hp→Prop,(∃m,W 0 m [] (Zaz n ix σ) (upd H1 p (.lst [])))∧∀i m ys σ' H',W i m ys σ' H'→
  (J.stop i H'∧Q (.ref p) H')∨(J.go i H'∧∀x H2,J.yld i H' x H2→g x σ' H2 fun σ2 H3=>tc σ2 H3 fun b H4=>
   if b=true then te σ2 H4 fun v H5=>H5 p=some (.lst ys)∧ys.length<sizeLine∧∃m',m'<m∧W (i+1) m' (ys++ [v]) σ2 (upd H5 p (.lst (ys++ [v])))
   else ∃m',m'<m∧W (i+1) m' ys σ2 H4)
section
variable {X:Cx}
theorem Zeg {pins:List (Addr×Obj)} {σ:St} {H:Hp} {s:Shared} {sc:Scope} {x:Str} {xs:List Str} {zs:List Str} {ix:List Nat} {cl:List (Str×Addr)} {fp:List Addr} {h₁:Heap} {tk:Nat}
  (S:Y7 X sc x zs ix) (I:Inv X pins σ H s) (hcl:∀y c,cl.lookup y=some c→X.env.cells.lookup y=some c) (hhas:∀y,(y,NameKind.free)∈sc.names→∃c,cl.lookup y=some c)
  (hfp:∀b∈fp,WK X pins H b∧b<s.heap.objs.size) (hns:h₁.Ns s.heap.objs.size fun _=>none) (hk:∀b o,s.heap.get? b=some o→h₁.get? b=some o):
  Inv (Zl X sc cl s.heap.objs.size (xs++zs) s H fp) [] (Zaz xs.length ix σ) H {s with heap:=h₁,toks:=tk}:=by
 have sub:∀b∈frs X.stack,b∈X.env.locals::X.fs:=I.stkSub
 have nfs:∀b∈fp,b∉frs X.stack:=fun b hb z=>by
  obtain⟨⟨_,f1,f2,_⟩,_⟩:=hfp b hb
  rcases List.mem_cons.mp (sub b z) with e|e
  ·exact f1 e
  ·exact f2 e
 have cut:∀y,(Zl X sc cl s.heap.objs.size (xs++zs) s H fp).env.kindOf y=some .cell∨(Zl X sc cl s.heap.objs.size (xs++zs) s H fp).env.kindOf y=some .free→∃c,cl.lookup y=some c:=fun y hy=>by
  have q:∃k,(relabel sc X.env).names.lookup y=some k∧(k= .cell∨k= .free):=by
   rcases hy with hy|hy
   ·exact⟨_,hy,.inl rfl⟩
   ·exact⟨_,hy,.inr rfl⟩
  obtain⟨k,e,hk⟩:=q
  obtain⟨k',e',q⟩:=Wi e
  have:k'= .free:=by
   rcases q with q|⟨q,_⟩
   ·rcases hk with z|z
    ·exact absurd (q.symm.trans z) (S.nocell _ (Y1 e'))
    ·exact q.symm.trans z
   ·exact q
  subst this
  exact hhas y (Y1 e')
 refine⟨⟨I.ok.mod,S.kind,I.ok.glob,I.ok.blt,Nat.le_refl _,fun y z c h1 h2=>I.ok.inj y z c (hcl _ _ h1) (hcl _ _ h2),cut,fun y c hf _=>?_,I.ok.hd,I.ok.frames,.inl rfl,fun b hb=>?_,I.bs,Nat.le_trans I.ok.bsz I.sz,fun b o e hb=>?_,nfs,I.stack,I.stkFree⟩,
  rfl,I.bare,Un.kept hk,⟨_,hns,fun i y v h1 h2 h3=>?_⟩,fun y c h=>?_,I.hok.fresh (Nat.le_refl _),fun y c h=>I.freeC y c (hcl y c h),fun p hp=>absurd (show p∈([]:List (Addr×Obj)) from hp) (by simp),I.hok.kept hk,?_⟩
 ·exact absurd (show false=true from hf) (by decide)
 ·obtain⟨⟨f0,f1,f2,f3,f4,f5⟩,hl⟩:=hfp b hb
  exact⟨Nat.ne_of_lt hl,fun y c h=>f4 y c (hcl y c h)⟩
 ·obtain⟨⟨f0,f1,f2,f3,f4,f5⟩,hl⟩:=hfp b hb
  rcases f3 with z|z
  ·exact I.ok.noex b o e z
  ·exact absurd (Nat.lt_of_lt_of_le (Heap.lt_size e) (Nat.le_trans I.ok.bsz z)) (Nat.lt_irrefl _)
 ·
  have hlen:xs.length≤i:=by
   rcases Nat.lt_or_ge i xs.length with z|z
   ·have h2':(List.replicate xs.length none++ix.map fun j=>(σ[j]?).join)[i]? =some (some v):=h2
    rw[List.getElem?_append_left (by rw[List.length_replicate];exact z),List.getElem?_replicate,if_pos z] at h2'
    cases h2'
   ·exact z
  ·obtain⟨i,rfl⟩:∃i',i=xs.length+i':=⟨i-xs.length,by omega⟩
   have h1':zs[i]? =some y:=by
    have h1':(xs++zs)[xs.length+i]? =some y:=h1
    rw[List.getElem?_append_right (Nat.le_add_right _ _),Nat.add_sub_cancel_left] at h1'
    exact h1'
   have h2':(ix.map fun j=>(σ[j]?).join)[i]? =some (some v):=by
    have h2':(List.replicate xs.length none++ix.map fun j=>(σ[j]?).join)[xs.length+i]? =some (some v):=h2
    rw[List.getElem?_append_right (by rw[List.length_replicate];exact Nat.le_add_right _ _),List.length_replicate,Nat.add_sub_cancel_left] at h2'
    exact h2'
   have ha:(ix.map fun j=>X.N[j]?)[i]? =some (some y):=by rw[S.at_,List.getElem?_map,h1'];rfl
   rw[List.getElem?_map] at h2' ha
   cases e:ix[i]? with
   |none=>rw[e] at h2';cases h2'
   |some j=>
    rw[e] at h2' ha
    have ha':X.N[j]? =some y:=Option.some.inj ha
    have hj:(σ[j]?).join=some v:=Option.some.inj h2'
    have hσ:σ[j]? =some (some v):=by
     cases q:σ[j]? with
     |none=>rw[q] at hj;cases hj
     |some o=>rw[q] at hj;exact congrArg some hj
    obtain⟨m,hn,hl⟩:=I.loc
    have hfr:=S.zfree y (List.mem_of_getElem? h1')
    have hkind:=S.free _ (Y1 hfr) rfl
    have hv:Vis X.env.scope y:=by
     rcases hkind with z|z
     ·exact .inr (.inl z)
     ·exact .inr (.inr z)
    obtain⟨u,r,q⟩:=hl j y v ha' hσ hv
    refine⟨u,r,?_⟩
    rcases q with⟨kl,_⟩|⟨_,c,hc,hcell⟩
    ·have kl':X.env.kindOf y=some .local:=kl
     rcases hkind with z|z<;>(rw[z] at kl';cases kl')
    ·obtain⟨c',hc'⟩:=hhas y (Y1 hfr)
     have ec:c'=c:=by have:=hcl y c' hc';rw[hc] at this;exact(Option.some.inj this).symm
     subst ec
     refine .inr ⟨?_,c',hc',?_⟩
     ·have hvis:Vis (relabel sc X.env) y:=h3
      rcases hvis with z|z|z
      ·obtain⟨k',e',q⟩:=Wi z
       rw[hfr] at e'
       cases e'
       rcases q with q|⟨_,q⟩<;>cases q
      ·exact .inl z
      ·exact .inr z
     ·obtain⟨o,ho,hd⟩:=hcell
      exact⟨o,hk _ _ ho,hd⟩
 ·obtain⟨v,o,ho,hd⟩:=I.cell y c (hcl y c h)
  exact⟨v,o,hk _ _ ho,hd⟩
 ·show(List.replicate xs.length none++ix.map fun j=>(σ[j]?).join).length=(xs++zs).length
  have:=congrArg List.length S.at_
  simp only[List.length_map] at this
  simp only[List.length_append,List.length_replicate,List.length_map,this]
theorem Zbh {pins:List (Addr×Obj)} {σ:St} {H:Hp} {s:Shared} {sc:Scope} {x:Str} {xs:List Str} {zs:List Str} {ix:List Nat} {cl:List (Str×Addr)} {fp:List Addr} {it:Addr} {tn:Nat→Heap→Prop} {J:It}
  {elt tg iter:Expr} {ifs:List Expr} {pos:Pos} {g:TG} {tc:TT} {te:TE} {Q:VK} {E:Value→Shared→Prop} {RR:Value→Addr→Result→Shared→Prop}
  (hc:X.calm=true) (S:Y7 X sc x zs ix) (I:Inv X pins σ H s) (hcl:∀y c,cl.lookup y=some c→X.env.cells.lookup y=some c) (hhas:∀y,(y,NameKind.free)∈sc.names→∃c,cl.lookup y=some c)
  (T:Zag X.prog X.w X.K tg J fp it tn) (st:tn 0 s.heap) (hfp:∀b∈fp,WK X pins H b)
  (hin:∀C s H,PG (Zl X sc cl C (xs++zs) s H fp) tg g∧PIf (Zl X sc cl C (xs++zs) s H fp) ifs tc∧PE (Zl X sc cl C (xs++zs) s H fp) elt te)
  (hq:∀p,H p=none→∃W:Nat→Nat→List V→St→Hp→Prop,(∃m,W 0 m [] (Zaz xs.length ix σ) (upd H p (.lst [])))∧∀i m ys σ' H',W i m ys σ' H'→
   (J.stop i H'∧Q (.ref p) H')∨(J.go i H'∧∀x H2,J.yld i H' x H2→g x σ' H2 fun σ2 H3=>tc σ2 H3 fun b H4=>
    if b=true then te σ2 H4 fun v H5=>H5 p=some (.lst ys)∧ys.length<sizeLine∧∃m',m'<m∧W (i+1) m' (ys++ [v]) σ2 (upd H5 p (.lst (ys++ [v])))
    else ∃m',m'<m∧W (i+1) m' ys σ2 H4))
  (hR:∀acc C f s',Zew X pins σ Q acc C s'→RR acc C (.ok f) s'):
  wpAny (model X.prog X.w) X.A (newList []) (fun acc s₃=>wpAny (model X.prog X.w) X.A (newFunctionEnv sc X.env.globals cl [] X.env.qual none .none (some X.env)) (fun cenv s₄=>
   codeAny (model X.prog X.w) X.A (.compStart (.ListComp elt [⟨tg,iter,ifs,0⟩] sc pos) 0 (.ref it) acc {cenv with scope:=relabel sc X.env}) (RR acc cenv.locals) s₄) E s₃) E s:=by
 refine wpAny_newObj_type (wpAny_newFunctionEnv S.nocell (by intro y hy;simp at hy) (fun h₁ hns₁ hsb₁=>?_) S.kind)
 have I3:Inv X pins σ (upd H s.heap.objs.size (.lst [])) {s with heap:=s.heap.push {cls:= .type "list",dict:=none,data:= .seq ([]:List Value).toArray}}:=I.lnew (its:=[]) (ys:=[]) (t':=s.toks) .nil (Nat.zero_le _)
 dsimp only at hns₁ hsb₁⊢
 obtain⟨W,⟨m0,w0⟩,turn⟩:=hq s.heap.objs.size (I.hok.fresh (Nat.le_refl _))
 have lt:∀b∈fp,b<s.heap.objs.size:=fun b hb=>by
  obtain⟨o,e,_⟩:=T.obj 0 s.heap st b hb
  exact Heap.lt_size e
 have up:∀b∈fp,∀o,(upd H s.heap.objs.size o) b=H b:=fun b hb o=>Zi (Nat.ne_of_lt (lt b hb))
 have kp:∀b o,(s.heap.push {cls:= .type "list",dict:=none,data:= .seq ([]:List Value).toArray}).get? b=some o→h₁.get? b=some o:=fun b o e=>
  hsb₁.extBut b o (Nat.ne_of_lt (Heap.lt_size e)) (Heap.get?_push_of_some _ e)
 have f3:∀b∈fp,WK X pins (upd H s.heap.objs.size (.lst [])) b∧b<(s.heap.push {cls:= .type "list",dict:=none,data:= .seq ([]:List Value).toArray}).objs.size:=fun b hb=>by
  obtain⟨q0,q⟩:=hfp b hb
  refine⟨⟨(up b hb _).trans q0,q⟩,?_⟩
  rw[Heap.size_push]
  exact Nat.lt_succ_of_lt (lt b hb)
 generalize hS3:({s with heap:=s.heap.push {cls:= .type "list",dict:=none,data:= .seq ([]:List Value).toArray}}:Shared)=s3 at I3
 have hH3:s.heap.push {cls:= .type "list",dict:=none,data:= .seq ([]:List Value).toArray}=s3.heap:=by rw[←hS3]
 rw[hH3] at kp f3 hns₁⊢
 have st3:tn 0 h₁:=T.keep 0 _ _ st fun b _ o e=>kp b o (by rw[←hH3];exact Heap.get?_push_of_some _ e)
 have J0:Inv (Zl X sc cl s3.heap.objs.size (xs++zs) s3 (upd H s.heap.objs.size (.lst [])) fp) [] (Zaz xs.length ix σ) (upd H s.heap.objs.size (.lst [])) {s3 with heap:=h₁,toks:=s3.toks}:=
  Zeg S I3 hcl hhas f3 hns₁ kp
 obtain⟨hg,hif,he⟩:=hin s3.heap.objs.size s3 (upd H s.heap.objs.size (.lst []))
 have fpo:∀{H':Hp},(∀b∈fp,H' b=none)→∀b∈fp,WK (Zl X sc cl s3.heap.objs.size (xs++zs) s3 (upd H s.heap.objs.size (.lst [])) fp) [] H' b:=fun{H'} hn b hb=>
  ⟨hn b hb,(J0.ok.exf b hb).1,J0.ok.exfs b hb,.inl hb,(J0.ok.exf b hb).2,fun p hp=>absurd (show p∈([]:List (Addr×Obj)) from hp) (by simp)⟩
 have loop:∀s4:Shared,s4={s3 with heap:=h₁,toks:=s3.toks}→
   codeAny (model X.prog X.w) X.A (.compLoop (.ListComp elt [⟨tg,iter,ifs,0⟩] sc pos) 0 (.ref it) (.ref s.heap.objs.size) (compEnvC sc cl s3.heap.objs.size X.env)) (RR (.ref s.heap.objs.size) s3.heap.objs.size) s4:=by
  rintro s4 rfl
  refine ZaI (fun n s'=>∃i ys σ' H',Inv (Zl X sc cl s3.heap.objs.size (xs++zs) s3 (upd H s.heap.objs.size (.lst [])) fp) [] σ' H' s'∧tn i s'.heap∧(∀b∈fp,H' b=none)∧W i n ys σ' H') ?_ m0
   ⟨0,[],Zaz xs.length ix σ,_,J0,st3,fun b hb=>(f3 b hb).1.1,w0⟩
  rintro n s5 ⟨i,ys,σ5,H5,I5,st5,fr5,w5⟩
  rcases turn i n ys σ5 H5 w5 with⟨stop,qn⟩|⟨go,step⟩
  ·refine thn (T.done (Zl X sc cl s3.heap.objs.size (xs++zs) s3 (upd H s.heap.objs.size (.lst [])) fp) rfl rfl rfl hc i [] s5 σ5 H5 _ I5 (fpo fr5) st5 stop) fun r s6 ⟨hr,I6⟩=>?_
   subst hr
   obtain⟨m6,hm6,_⟩:=I6.loc
   refine hR _ _ _ _ ⟨s.heap.objs.size,H5,m6,rfl,hm6,?_,I3.fpOk (Nat.le_refl _) I6.free,qn⟩
   exact I3.call' I6.os I6.base I6.hok I6.bare fun b hb=>by
    obtain⟨⟨f0,f1,f2,f3,f4,f5⟩,_⟩:=f3 b hb
    exact⟨f3,f1,f4,f5⟩
  ·refine thn (T.item (Zl X sc cl s3.heap.objs.size (xs++zs) s3 (upd H s.heap.objs.size (.lst [])) fp) rfl rfl rfl hc i [] s5 σ5 H5 _ I5 (fpo fr5) st5 go) fun r s6 ⟨u,hr,h6⟩=>?_
   subst hr
   refine thn h6 fun _ s7 ⟨x7,H7,I7,r7,y7,st7,fr7⟩=>?_
   have I7':=I7.pinned (fpo fr7) (T.obj _ _ st7)
   refine thn (hg _ s7 σ5 H7 x7 u _ I7' r7 (step x7 H7 y7)) fun _ s8 ⟨σ8,H8,I8,q8⟩=>?_
   refine thn (hif _ s8 σ8 H8 _ I8 q8) fun b s9 ⟨H9,I9,q9⟩=>?_
   have again:∀{ys':List V} {σ':St} {H':Hp} {m':Nat} {s':Shared},Inv (Zl X sc cl s3.heap.objs.size (xs++zs) s3 (upd H s.heap.objs.size (.lst [])) fp) ([]++U0 fp s7.heap) σ' H' s'→W (i+1) m' ys' σ' H'→m'<n→
     ∃m,m<n∧∃i ys σ' H',Inv (Zl X sc cl s3.heap.objs.size (xs++zs) s3 (upd H s.heap.objs.size (.lst [])) fp) [] σ' H' s'∧tn i s'.heap∧(∀b∈fp,H' b=none)∧W i m ys σ' H':=fun{ys' σ' H' m' s'} Iz wz hm=>by
    refine⟨m',hm,i+1,ys',σ',H',Iz.unpinned,T.keep _ _ _ st7 fun b hb o e=>(Iz.pin (b,o) (List.mem_append_right _ (List.mem_append_right _ (WT hb e)))).1,fun b hb=>?_,wz⟩
    obtain⟨o,e,d⟩:=T.obj _ _ st7 b hb
    exact(Iz.pin (b,o) (List.mem_append_right _ (List.mem_append_right _ (WT hb e)))).2.1
   cases b with
   |false=>
    rw[if_neg Bool.false_ne_true] at q9⊢
    obtain⟨m',hm,wz⟩:=q9
    exact again I9 wz hm
   |true=>
    rw[if_pos rfl] at q9⊢
    refine thn (he _ s9 σ8 H9 _ I9 q9) fun v s10 ⟨y,H10,I10,r10,hl,hz,m',hm,wz⟩=>?_
    refine thn (Yj _ s10 σ8 H10 (.ref s.heap.objs.size) [y] (.ref s.heap.objs.size) [v] (fun z H'=>z= .non∧H'=upd H10 s.heap.objs.size (.lst (ys++ [y]))) I10 rfl (.cons r10 .nil) ⟨_,ys,y,rfl,rfl,hl,hz,rfl,rfl⟩) fun _ s11 ⟨z,H11,I11,_,_,e11⟩=>?_
    subst e11
    exact again I11 wz hm
 exact codeAny_compStart_list (loop _ (by subst hS3;rfl)) (T.self _ 0 _ _ _ st3 (loop _ (by subst hS3;rfl)))
theorem Z7 {elt tg iter:Expr} {ifs:List Expr} {sc:Scope} {pos:Pos} {x:Str} {xs:List Str} {zs:List Str} {ix:List Nat} {wi:TI} {g:TG} {tc:TT} {te:TE}
  (hc:X.calm=true) (S:Y7 X sc x zs ix) (hi:PI X tg iter wi)
  (hin:∀cl C s H fp,PG (Zl X sc cl C (xs++zs) s H fp) tg g∧PIf (Zl X sc cl C (xs++zs) s H fp) ifs tc∧PE (Zl X sc cl C (xs++zs) s H fp) elt te)
  (hs:∀x,foldedSetIterable iter X.env x=pure x:=by intro _;rfl):
  PE X (.ListComp elt [⟨tg,iter,ifs,0⟩] sc pos) (ZdS xs.length ix wi g tc te):=by
 intro pins s σ H Q I h
 obtain⟨cl,hclos,hcl,hhas⟩:=UC I.ok S
 rw[eval_ListComp]
 refine wpAny_comprehension_free (use:=none) rfl hs hclos S.kind S.names (thn (hi pins s σ H _ I h) fun v s1 h1=>thn h1 fun itv s2 h2=>?_)
 obtain⟨it,fp,tn,J,H2,e,I2,T,st2,f2,hq⟩:=h2
 subst e
 refine Zbh (RR:=fun acc C=>compPost (model X.prog X.w) X.A X.xe none (EP X pins σ Q) acc C) hc S I2 hcl hhas T st2 f2 (fun C s H=>hin cl C s H fp) hq fun acc C f s' h=>?_
 obtain⟨p,H',m,rfl,hm,I',⟨g0,g1,g2,g3,g4,g5⟩,q⟩:=h
 exact⟨m,hm,fun h' hb=>⟨.ref p,H',I'.turned (t':=s'.toks) (fun b o hne e=>(hb.2 b hne).trans e) g0 g1 g3 g4 g5,rfl,q⟩⟩
theorem VH {elt tg iter:Expr} {ifs:List Expr} {sc:Scope} {pos py spos:Pos} {x y:Str} {xs:List Str} {zs:List Str} {ix:List Nat} {wi:TI} {g:TG} {tc:TT} {te:TE} {j:Nat}
  (hc:X.calm=true) (S:Y7 X sc x zs ix) (hi:PI X tg iter wi)
  (hin:∀cl C s H fp,PG (Zl X sc cl C (xs++zs) s H fp) tg g∧PIf (Zl X sc cl C (xs++zs) s H fp) ifs tc∧PE (Zl X sc cl C (xs++zs) s H fp) elt te)
  (hN:X.N.Nodup) (hj:X.N[j]? =some y) (hy:Loc X.env.scope y)
  (hsw:swapsWith (.ListComp elt [⟨tg,iter,ifs,0⟩] sc pos) (some (.Name y py)) spos.line X.env=pure true:=by rfl)
  (hf:X.fn y=true∨X.env.scope.names.lookup y=some .local:=by first|exact .inl rfl|exact .inr rfl|assumption)
  (hs:∀x,foldedSetIterable iter X.env x=pure x:=by intro _;rfl):
  PS X (.Assign [.Name y py] (.ListComp elt [⟨tg,iter,ifs,0⟩] sc pos) spos) (Zdr (ZdS xs.length ix wi g tc te) (Zad j)):=by
 intro pins s σ H D I h
 obtain⟨cl,hclos,hcl,hhas⟩:=UC I.ok S
 rw[exec_Assign_Name_used _ _ _ _ hsw]
 refine wpAny_bind (wpAny_standAt (wpAny_bind ?_))
 show wpAny _ X.A (do let _←comprehension (.ListComp elt [⟨tg,iter,ifs,0⟩] sc pos) sc X.env _ (newList []) false (eval iter X.env) (some (assign (.Name y py) X.env))) _ _ s
 refine wpAny_bind (wpAny_mono (wpAny_comprehension_free (use:=some (assign (.Name y py) X.env)) (Q:=fun _ s'=>SP X pins D .next s') rfl hs hclos S.kind S.names
  (thn (hi pins s σ H _ I h) fun v s1 h1=>thn h1 fun itv s2 h2=>?_)) (fun _ s' hq=>wpAny_pure (wpAny_pure hq)) fun _ _ e=>e)
 obtain⟨it,fp,tn,J,H2,e,I2,T,st2,f2,hq⟩:=h2
 subst e
 refine Zbh (Q:=fun x H1=>Zad j x σ H1 D.nx) (RR:=fun acc C=>compPost (model X.prog X.w) X.A X.xe (some (assign (.Name y py) X.env)) (fun _ s'=>SP X pins D .next s') acc C) hc S I2 hcl hhas T st2 f2 (fun C s H=>hin cl C s H fp) hq fun acc C f s' h=>?_
 obtain⟨p,H',m,rfl,hm,I',⟨g0,g1,g2,g3,g4,g5⟩,q⟩:=h
 show wpAny _ X.A (assign (.Name y py) X.env (.ref p)) _ _ _
 refine wpAny_assign_Name (ZcB I' hN hj hy (show ZB (.ref p) (.ref p) from rfl) (fun s'' I'' ⟨c,hsb,hcc⟩=>?_) hf)
 have hne:C≠c:=by
  rcases hcc with z|z
  ·rw[z];exact g1
  ·exact Ne.symm (g4 _ _ z)
 exact⟨m,hm.sameBut hsb hne,fun h' hb=>⟨_,H',I''.turned (t':=s''.toks) (fun b o hne e=>(hb.2 b hne).trans e) g0 g1 g3 g4 g5,q⟩⟩
end
structure U4 (J:It) (n:Nat) (y:Nat→Hp→V→Hp→Prop) (H:Hp):Prop where
 go:∀H' i,Zd H H'→i<n→J.go i H'
 yld:∀H' i x H2,Zd H H'→i<n→J.yld i H' x H2→y i H' x H2
 stop:∀H',Zd H H'→J.stop n H'
theorem Walks.y {J:It} {n:Nat} {f:Nat→V} {H:Hp} (w:Walks J n f H):U4 J n (fun i H' v H2=>H2=H'∧v=f i) H:=⟨w.go,w.yld,w.stop⟩
theorem Wt {K:PySem.W.Frag} {a:Addr} {xs:List V} {H:Hp} (h:SqL K H a xs):U4 (Ite K a) xs.length (fun i H' v H2=>∃t,H' t=none∧v= .ref t∧H2=upd H' t (.tup [.int i,xs.getD i .non])) H:=
 ⟨fun H' i e hi=>⟨xs,xs[i],e.seq h,by simp[hi]⟩,fun H' i x H2 e hi ⟨t,z,ht,hv,h2,hz⟩=>⟨t,ht,hv,by
  have:=hz xs (e.seq h)
  rw[h2];simp[List.getD,this]⟩,fun H' e=>⟨xs,e.seq h,Nat.le_refl _⟩⟩
theorem ZM {own:Nat} {ix:List Nat} {g:TG} {tc:TT} {te:TE} {Q:Addr→Hp→Prop} {σ:St} {H:Hp} {J:It} {n:Nat} {y:Nat→Hp→V→Hp→Prop} (w:U4 J n y H) (hn:n<sizeLine) (s:Nat→List (Option V)) (hs:∀i,(s i).length=own) (c:Nat→Bool) (R:Nat→V→Hp→Prop)
  (mono:∀i v H1 H2,Zd H1 H2→R i v H1→R i v H2)
  (hg:∀i a H' v H2 (Kg:St→Hp→Prop),i<n→Zd H H'→y i H' v H2→a.length=own→(∀H3,Zd H' H3→Kg (s i++ix.map fun j=>(σ[j]?).join) H3)→g v (a++ix.map fun j=>(σ[j]?).join) H2 Kg)
  (hc:∀i H' (Kc:Bool→Hp→Prop),i<n→Zd H H'→(∀H4,Zd H' H4→Kc (c i) H4)→tc (s i++ix.map fun j=>(σ[j]?).join) H' Kc)
  (he:∀p i H' (Kc:VK),i<n→c i=true→H p=none→(∃ys,H' p=some (.lst ys))→Zd H H'→(∀v H5,Zd H' H5→R i v (hid H5 p)→Kc v H5)→te (s i++ix.map fun j=>(σ[j]?).join) H' Kc)
  (q:∀p H' ys,H p=none→Zd H H'→H' p=some (.lst ys)→Paired (fun i v=>R i v (hid H' p)) ((List.range n).filter c) ys→Q p H'):
  ∀p,H p=none→∃W:Nat→Nat→List V→St→Hp→Prop,(∃m,W 0 m [] (Zaz own ix σ) (upd H p (.lst [])))∧∀i m ys σ' H',W i m ys σ' H'→
   (J.stop i H'∧Q p H')∨(J.go i H'∧∀x H2,J.yld i H' x H2→g x σ' H2 fun σ2 H3=>tc σ2 H3 fun b H4=>
    if b=true then te σ2 H4 fun v H5=>H5 p=some (.lst ys)∧ys.length<sizeLine∧∃m',m'<m∧W (i+1) m' (ys++ [v]) σ2 (upd H5 p (.lst (ys++ [v])))
    else ∃m',m'<m∧W (i+1) m' ys σ2 H4):=by
 intro p hp
 have hidS:∀{H1 H2:Hp},Zd H1 H2→Zd (hid H1 p) (hid H2 p):=fun{H1 H2} e b o z=>by
  by_cases h:b=p
  ·rw[h,Ws] at z;cases z
  ·rw[WB h] at z⊢;exact e b o z
 have hidU:∀{H1:Hp} {o:HO},Zd (hid H1 p) (hid (upd H1 p o) p):=fun{H1 o} b u z=>by
  by_cases h:b=p
  ·rw[h,Ws] at z;cases z
  ·rw[WB h] at z⊢;rw[Zi h];exact z
 refine⟨fun i m ys σ' H'=>m=n-i∧i≤n∧(∃a,a.length=own∧σ'=a++ix.map fun j=>(σ[j]?).join)∧Zd H H'∧H' p=some (.lst ys)∧Paired (fun i v=>R i v (hid H' p)) ((List.range i).filter c) ys,
  ⟨n,by simp,Nat.zero_le _,⟨List.replicate own none,List.length_replicate,rfl⟩,Zo hp,Zg,.nil⟩,?_⟩
 rintro i m ys σ' H' ⟨rfl,hi,⟨a,ha,rfl⟩,sm,hy,hl⟩
 by_cases hlt:i<n
 ·refine .inr ⟨w.go H' i sm hlt,fun x H2 yl=>?_⟩
  have hlen:ys.length≤i:=by
   rw[←Paired.length hl]
   exact Nat.le_trans (List.length_filter_le _ _) (by simp)
  refine hg i a H' x H2 _ hlt sm (w.yld H' i x H2 sm hlt yl) ha fun H3 s3=>?_
  refine hc i H3 _ hlt (sm.trans s3) fun H4 s4=>?_
  have sm4:=(sm.trans s3).trans s4
  have hy4:=s4 _ _ (s3 _ _ hy)
  have step:(List.range (i+1)).filter c=(List.range i).filter c++(if c i=true then[i] else[]):=by
   rw[List.range_succ,List.filter_append]
   congr 1
   by_cases h:c i=true<;>simp[h]
  have hl4:Paired (fun i v=>R i v (hid H4 p)) ((List.range i).filter c) ys:=Paired.mapP hl fun _ _ z=>mono _ _ _ _ (hidS (s3.trans s4)) z
  by_cases hci:c i=true
  ·rw[hci,if_pos rfl]
   refine he p i H4 _ hlt hci hp ⟨ys,hy4⟩ sm4 fun v H5 s5 r5=>⟨s5 _ _ hy4,by omega,n-(i+1),by omega,rfl,hlt,⟨s i,hs i,rfl⟩,(sm4.trans s5).new hp,Zg,?_⟩
   rw[step,if_pos hci]
   exact Paired.snoc (Paired.mapP hl4 fun _ _ z=>mono _ _ _ _ ((hidS s5).trans hidU) z) (mono _ _ _ _ hidU r5)
  ·have hcf:c i=false:=by simpa using hci
   rw[hcf,if_neg Bool.false_ne_true]
   refine⟨n-(i+1),by omega,rfl,hlt,⟨s i,hs i,rfl⟩,sm4,hy4,?_⟩
   rw[step,if_neg hci,List.append_nil]
   exact hl4
 ·have e:i=n:=by omega
  subst e
  exact .inl ⟨w.stop H' sm,q p H' ys hp sm hy hl⟩
theorem Uq {H:Hp} {p u:Addr} {o:HO} (h:∃ys,H p=some (.lst ys)) (hu:H u=none):hid (upd H u o) p u=some o:=by
 have n:u≠p:=fun z=>by
  obtain⟨ys,e⟩:=h
  rw[←z,hu] at e
  cases e
 rw[WB n,Zg]
theorem ZfK {H H':Hp} {p u:Addr} {o:HO} (h:∃ys,H p=some (.lst ys)) (hu:H u=none) (hu':H' u=some o):hid H' p u=some o:=by
 have n:u≠p:=fun z=>by
  obtain⟨ys,e⟩:=h
  rw[←z,hu] at e
  cases e
 rw[WB n,hu']
theorem Zdv {H H':Hp} {p b:Addr} {xs:List V} (h:∃ys,H p=some (.lst ys)) (s:Zd H H') (e:H' b=some (.tup xs)):hid H' p b=some (.tup xs):=by
 have n:b≠p:=fun z=>by
  obtain⟨ys,e'⟩:=h
  rw[z,s _ _ e'] at e
  cases e
 rw[WB n,e]
theorem Vl {R:Nat→V→Hp→Prop} {H:Hp} {r:Nat→V} (h:∀i v,R i v H→v=r i):∀{is:List Nat} {ys:List V},Paired (fun i v=>R i v H) is ys→ys=is.map r
 |_,_,.nil=>rfl
 |_,_,.cons a t=>by rw[h _ _ a,Vl h t];rfl
theorem V0 {J:It} {n:Nat} {y:Nat→Hp→V→Hp→Prop} {H0:Hp} (w:U4 J n y H0) {g:TG} {tb:TS} {D:W6} {σ:St} {H:Hp} (Pv:Nat→St→Hp→Prop) (h0:Pv 0 σ H) (hk:∀i σ H,Pv i σ H→Zd H0 H)
  (hs:∀i σ H v H',i<n→Pv i σ H→y i H v H'→g v σ H' fun σ2 H2=>tb {D with nx:=Pv (i+1),ct:=Pv (i+1),bk:=D.nx} σ2 H2) (hd:∀σ H,Pv n σ H→D.nx σ H):
  ∃W:Nat→Nat→St→Hp→Prop,(∃m,W 0 m σ H)∧∀i m σ H,W i m σ H→
   (J.stop i H∧D.nx σ H)∨(J.go i H∧∃N:St→Hp→Prop,(∀σ' H',N σ' H'→∃m',m'<m∧W (i+1) m' σ' H')∧∀x H',J.yld i H x H'→g x σ H' fun σ2 H2=>tb {D with nx:=N,ct:=N,bk:=D.nx} σ2 H2):=by
 refine⟨fun i m σ H=>m=n-i∧i≤n∧Pv i σ H,⟨n,by simp,Nat.zero_le _,h0⟩,?_⟩
 rintro i m σ H ⟨rfl,hi,p⟩
 have sm:=hk i σ H p
 by_cases hlt:i<n
 ·exact .inr ⟨w.go H i sm hlt,Pv (i+1),fun σ' H' p'=>⟨n-(i+1),by omega,rfl,hlt,p'⟩,fun x H' yl=>hs i σ H x H' hlt p (w.yld H i x H' sm hlt yl)⟩
 ·have e:i=n:=by omega
  subst e
  exact .inl ⟨w.stop H sm,hd σ H p⟩
namespace Rd
section
variable {σ:St} {H:Hp} {Q:VK} {D:W6} {K:PySem.W.Frag}
theorem ZhN {n:Nat} {ix:List Nat} {wi:TI} {g:TG} {tc:TT} {te:TE} (h:wi σ H fun J H1=>∀p,H1 p=none→
 ∃W:Nat→Nat→List V→St→Hp→Prop,(∃m,W 0 m [] (Zaz n ix σ) (upd H1 p (.lst [])))∧∀i m ys σ' H',W i m ys σ' H'→
  (J.stop i H'∧Q (.ref p) H')∨(J.go i H'∧∀x H2,J.yld i H' x H2→g x σ' H2 fun σ2 H3=>tc σ2 H3 fun b H4=>
   if b=true then te σ2 H4 fun v H5=>H5 p=some (.lst ys)∧ys.length<sizeLine∧∃m',m'<m∧W (i+1) m' (ys++ [v]) σ2 (upd H5 p (.lst (ys++ [v])))
   else ∃m',m'<m∧W (i+1) m' ys σ2 H4)):ZdS n ix wi g tc te σ H Q:=h
theorem Zi2 {ts:TA} {R:It→Hp→Prop} (h:ts σ H fun vs H1=>∃a,vs=[.ref a]∧(∃xs,SqL K H1 a xs)∧R (Ite K a) H1):Zg9 K ts σ H R:=h
theorem Zis {a:Addr} {xs:List V} {G:Addr→Prop} (h:SqL K H a xs) (q:G a):∃a',[V.ref a]=[.ref a']∧(∃xs,SqL K H a' xs)∧G a':=⟨a,rfl,⟨xs,h⟩,q⟩
theorem ZjH (h:∀p,H p=none→Q (.ref p) (upd H p (.dK []))):tDNewK σ H Q:=h
theorem Zjv {a:Addr} {kvs:List (Key×V)} {x:Str} (h:H a=some (.dK kvs)) (q:Q (.bl (WU kvs (Sum.inr x)).isSome) H):rDIn (.str x) (.ref a) H Q:=⟨a,_,rfl,Zdx.k (k:=Sum.inr x) h,q⟩
theorem Zji {a:Addr} {kvs:List (Key×V)} {x:Str} {v:V} {Q:Hp→Prop} (h:H a=some (.dK kvs)) (hl:kvs.length<sizeLine) (q:Q (upd H a (.dK (W8 kvs (Sum.inr x) v)))):rSetD (.ref a) (.str x) v H Q:=⟨a,_,rfl,Zdc.k (k:=Sum.inr x) h hl,q⟩
theorem Zjx {a:Addr} {kvs:List (Key×V)} (h:H a=some (.dK kvs)) (q:Q (.int kvs.length) H):rLenD [.ref a] H Q:=⟨a,kvs,rfl,h,q⟩
theorem Zjk {a:Addr} {kvs:List (Key×V)} (h:H a=some (.dK kvs)) (q:∀l,H l=none→Q (.ref l) (upd H l (.lst (kvs.map fun kv=>kV kv.1)))):rListD [.ref a] H Q:=⟨a,kvs,rfl,h,q⟩
theorem ZjF {to ti te:TE} {tget:V→V→Hp→VK→Prop} {tip:TIp} {tset:ZbC} (h:to σ H fun o H1=>ti σ H1 fun i H2=>tget o i H2 fun x H3=>te σ H3 fun y H4=>tip x y H4 fun z H5=>tset o i z H5 fun H6=>D.nx σ H6):ZgZ to ti te tget tip tset D σ H:=h
theorem ipi {f:Int→Int→Int} {i j:Int} (q:Q (.int (f i j)) H):ipI f (.int i) (.int j) H Q:=⟨i,j,rfl,rfl,q⟩
end
end Rd
section
variable {X:Cx}
theorem Zgi:ZgB X (Zcm X.K):=by
 intro pins s σ H o i ov iv Q I ro ri h
 obtain⟨p,xs,k,z,rfl,rfl,hq,he,q⟩:=h
 cases ro
 obtain⟨t,rfl⟩:=ri
 obtain⟨its,r,pl,hz⟩:=I.list hq
 obtain⟨j,h1,h2,h3,h4,h5⟩:=Za2 he
 obtain⟨w,ew,rw'⟩:=r.get h2
 have hl:=r.length
 have hn:=Uu
 have fin:EP X pins σ Q w s:=⟨z,H,I,rw',q⟩
 by_cases h0:0≤k
 ·have hj:k.toNat=j:=by
   rw[seqIndex_of h0 h5] at h1
   exact Option.some.inj h1
  exact wpAny_getItem_list pl.isList h0 (by omega) (by rw[hj];simpa using ew) fin
 ·have hj:(k+(its.toArray.size:Int)).toNat=j:=by
   rw[seqIndex_neg (by omega) h4] at h1
   rw[List.size_toArray,←hl]
   exact Option.some.inj h1
  exact wpAny_getItem_list_neg pl.isList (by omega) (by rw[List.size_toArray]<;>omega) (by omega) (by rw[hj];simpa using ew) fin
theorem ZcG {K:PySem.W.Frag} (e:X.K=K):ZgB X (Zcm K):=e▸Zgi
end
end L2
namespace L2
open PySem PySem.Spec PyProof.Rows
section
variable {X:Cx}
end
namespace Rd
end Rd
end L2
namespace L2
open PySem PySem.Spec PySem.W PyProof.Rows Builtin Builtin.ObjectAttr Builtin.Getset_descriptor
def Zal (x C:Addr) (h:Heap):Prop:=∃o,h.get? x=some o∧o.cls= .ref C
theorem Zal.type {M:Model} {h:Heap} {x C:Addr} (I:Zal x C h):Looks M h (typeOf (.ref x)) (.ref C):=by
 obtain⟨o,h1,h2⟩:=I
 exact h2▸(Looks.ld h1).andThen .now
structure W1 (K:Frag) (C:Addr):Prop where
 cl:(clsIn K C).isSome=true
 ga:findIn K (.ref C) "__getattribute__" =some (some (.builtin "BaseException.__getattribute__"))
 gk:findIn K (.ref C) "__getattr__" =some none
 ca:findIn K (.ref C) "__class__" =some (some (.builtin "object.__class__"))
 cg:specialIn K (.builtin "object.__class__") "__get__" =some (some (.builtin "getset_descriptor.__get__"))
 ct:takesIn K (.builtin "object.__class__")=some true
 sub:subIn K (.ref C) (.type "BaseException")=some true
 mr:mroIn K C (.type "object")=some true
section
variable {prog:Program} {w:World} {A:Around} {E:Value→Shared→Prop} {s:Shared} {K:Frag} {x C:Addr}
theorem Zgw {M:Model} {h:Heap} (X:K.In h) (c:W1 K C):Looks M h (Builtin.ObjectAttr.find (.ref x) (.ref C) "__class__") (.bind (.builtin "getset_descriptor.__get__") (.builtin "object.__class__")):=by
 have L1:=looks_findIn (M:=M) X c.ca
 have L2:Looks M h (Builtin.ObjectAttr.getOf (some (.builtin "object.__class__"))) (some (.builtin "getset_descriptor.__get__")):=looks_specialIn X c.cg
 have L3:=looks_takesIn (M:=M) X c.ct
 exact L1.andThen (L2.andThen ((show Looks M h (Builtin.ObjectAttr.dataDescriptor? (some (.builtin "object.__class__")) (some (.builtin "getset_descriptor.__get__"))) (some (.builtin "getset_descriptor.__get__",.builtin "object.__class__")) from L3.andThen .now).andThen (Looks.tag .now)))
theorem ZhD {tp:Value} {R:Result→Shared→Prop} (X:K.In s.heap) (I:Zal x C s.heap) (c:W1 K C) (h:R (.ok (.ret (.ref C))) s):codeAny (model prog w) A (.call (.builtin "getset_descriptor.__get__") ⟨[.builtin "object.__class__",.ref x,tp],[]⟩) R s:=by
 obtain⟨hh,g,dr,t,os⟩:=s
 have L0:=I.type (M:=model prog w)
 have L1:=looks_mroIn (M:=model prog w) X c.mr
 refine codeAny_call_builtin KF.slot_gs.plain KF.entry_gs (KF.slot_gs.check _ _ _ _ _ _ _ _ KF.type_class (KF.args_gs _ _ _) ?_)
 unfold Builtin.«getset_descriptor.__get__» descrGet
 rw[dga_obj]
 refine wpAny_bind (wpAny_pure ?_)
 unfold descrGetter descrCheckInstance descrNameAndClass isInstance
 simp only[KF.owner_class]
 repeat lk
 refine⟨Code.quiet_builtin _ (by decide+kernel),codeAny_builtin KF.entry_class ?_⟩
 unfold Builtin.«object.__class__» shownTypeOf
 repeat lk
 exact h
theorem Zf9 {tk:Tok} {Q:Fin→Shared→Prop} (X:K.In s.heap) (I:Zal x C s.heap) (c:W1 K C)
  (h:Q (.done (.ret (.ref C))) s):wpAny (model prog w) A (Builtin.«object.__getattribute__» ⟨[.ref x,.str "__class__" tk],[]⟩) Q E s:=by
 obtain⟨hh,g,d,t,os⟩:=s
 have L0:=I.type (M:=model prog w)
 have L3:=Zgw (M:=model prog w) (x:=x) X c
 show wpAny _ _ (typeOf (.ref x) >>= _) _ _ _
 refine wpAny_bind (L0.at (wpAny_bind (L3.at ?_)))
 show wpAny _ _ (holding [Value.builtin "object.__class__"] (call (.builtin "getset_descriptor.__get__") [.builtin "object.__class__",.ref x,.ref C]) >>= ret) _ _ _
 exact wpAny_bind (wpAny_holding (wpAny_call (ZhD (s:=⟨hh,g,d,t,os⟩) X I c (wpAny_pure h))))
theorem ZfJ {Q:Option Value→Shared→Prop} (X:K.In s.heap) (I:Zal x C s.heap) (c:W1 K C) (h:Q (some (.ref C)) {s with toks:=s.toks+1}):wpAny (model prog w) A (getAttr? (.ref x) "__class__") Q E s:=by
 obtain⟨hh,g,d,t,os⟩:=s
 have L0:=I.type (M:=model prog w)
 have L1:=looks_findIn (M:=model prog w) X c.ga
 have L2:=looks_findIn (M:=model prog w) X c.gk
 have L4:Looks (model prog w) hh (isSubtype (.ref C) (.type "BaseException")) true:=looks_subIn X c.sub
 have LI:Looks (model prog w) hh (isInstance (.ref x) (.type "BaseException")) true:=L0.andThen L4
 unfold getAttr? getAttrBy? getAttrBy
 refine wpAny_bind (wpAny_mkText (wpAny_bind (wpAny_attempt (wpAny_holding (wpAny_bind (L0.at (wpAny_bind (L1.at ?_))))))))
 show wpAny _ _ (getAttrByItsOwn _ _ _ _ _ _) _ _ _
 unfold getAttrByItsOwn hookBefore
 refine wpAny_bind (L2.at (wpAny_bind (wpAny_attempt (wpAny_holding ?_))))
 show wpAny _ _ (bindSpecial _ _ >>= _) _ _ _
 rw[F.excAttr_ValueError.ga.bind (.ref x)]
 refine wpAny_bind (wpAny_pure (wpAny_call (codeAny_call_builtin F.excAttr_ValueError.ga.plain F.entry_bexc_ga ?_)))
 have hk:builtinKind "BaseException.__getattribute__" =some .slot:=by decide+kernel
 have hsp:splitId "BaseException.__getattribute__" =some ("BaseException","__getattribute__"):=by decide+kernel
 have ha:=F.args_bexc_ga (.ref x) (.str "__class__" t)
 have chk:∀(Q:Unit→Shared→Prop) (E:Value→Shared→Prop),Q () ⟨hh,g,d,t+1,os⟩→wpAny (model prog w) A.in1 (checkBuiltinCall "BaseException.__getattribute__" ⟨[.ref x,.str "__class__" t],[]⟩) Q E ⟨hh,g,d,t+1,os⟩:=fun Q E hQ=>by
  simp only[checkBuiltinCall,hk,hsp]
  refine wpAny_bind (LI.at ?_)
  simp only[Bool.not_true,Bool.false_eq_true,if_false]
  cases hsig:Manifest.signature? "BaseException.__getattribute__" with
  |none=>exact wpAny_pure hQ
  |some sig=>
   simp only[argsOk,hsig] at ha
   have h2:Bind.checkArgs "BaseException.__getattribute__" sig ⟨[.ref x,.str "__class__" t],[]⟩=pure ():=ha
   show wpAny _ _ (Bind.checkArgs "BaseException.__getattribute__" sig ⟨[.ref x,.str "__class__" t],[]⟩) Q E _
   rw[h2];exact wpAny_pure hQ
 refine chk _ _ ?_
 refine Zf9 (s:=⟨hh,g,d,t+1,os⟩) (A:=A.in1) X I c ?_
 exact handed_on rfl (wpAny_pure h)
theorem Zgu (c:W1 K C):KitX K (.ref x) (.ref C) (Zal x C) where
 ty:=fun _ _ _ I=>I.type
 it:=fun _ _ X _=>by
  obtain⟨cdD,hcD⟩:=Option.isSome_iff_exists.mp c.cl
  unfold clsIn at hcD
  split at hcD
  ·rename_i c' d' cd' sl' ho
   intro A' Q' E' s' k q
   unfold isType loadHead
   exact wpAny_bind (wpAny_loadPart (k _ _ (X _ _ ho)) (wpAny_pure q))
  ·cases hcD
 ne:=fun h tp dd its n sl X htp=>by
  obtain⟨cdD,hcD⟩:=Option.isSome_iff_exists.mp c.cl
  refine Bool.eq_false_iff.mpr fun q=>?_
  have e:C=tp:=Value.ref.inj (beq_iff_eq.mp q)
  subst e
  unfold clsIn at hcD
  split at hcD
  ·rename_i c' d' cd' sl' ho
   have z:=(X _ _ ho).symm.trans htp
   cases z
  ·cases hcD
 ca:=fun X I k=>ZfJ X I c k
end
def WW (x C:Addr):HO:= .ext (Zal x C)
section
variable {X:Cx}
def ZgG (K:Frag):List V→Hp→VK→Prop:=fun xs H Q=>∃(x C:Addr) (c:V) (u:Value) (b:Bool),xs=[.ref x,c]∧H x=some (WW x C)∧W1 K C∧(∀v,ZB c v→v=u)∧kitOne K (.ref C) u=some b∧Q (.bl b) H
theorem Zfm {K:Frag} (e:X.K=K):YI X (.builtin "isinstance") (ZgG K):=by
 subst e
 intro pins s σ H xs us Q I r h
 obtain⟨x,C,c,u,b,rfl,hx,ec,hu,hk,q⟩:=h
 cases r with
 |cons r1 rr=>
  obtain⟨v,rfl,rv⟩:=Vq rr
  cases (show _=Value.ref x from r1)
  have ev:=hu v rv
  subst ev
  obtain⟨hφ,_,_⟩:=(show Z4 X.prog X.w H s.heap x (WW x C) from I.hok x _ hx)
  exact kia_one (Zgu ec) I.kIn hφ hk (fun z=>nomatch z) fun tk=>⟨.bl b,H,I.tok tk,rfl,q⟩
end
end L2
namespace L2
open PySem PySem.Spec PyProof.Rows
section
variable {X:Cx} {pins:List (Addr×Obj)} {σ:List (Option V)} {H:Hp} {s:Shared}
theorem Inv.track {ea:Addr} {o:HO} (I:Inv X pins σ H s) (h0:∀ob,X.s₀.heap.get? ea=some ob→ea∈X.ex) (hL:ea≠X.env.locals) (hc:∀x c,X.env.cells.lookup x=some c→c≠ea) (hp:∀p∈X.pn++pins,p.1≠ea) (hn:H ea=none)
  (new:Z4 X.prog X.w (upd H ea o) s.heap ea o):Inv X pins σ (upd H ea o) s:=by
 refine⟨I.ok,I.os,I.bare,⟨I.base.keep,I.base.slot,fun b ob e n hx=>?_,I.base.there,fun b xs e=>?_,fun b ob u e=>?_,fun b ps e=>?_⟩,I.loc,I.cell,?_,fun x c e=>?_,fun p hp'=>?_,fun b u e=>?_,I.len⟩
 ·rw[Zi (fun z=>hx (by rw[z];exact h0 ob (by rw[←z];exact e)))]
  exact I.base.free b ob e n hx
 ·rw[Zi (Zq (I.base.tups b xs e) hn)];exact I.base.tups b xs e
 ·rw[Zi (Zq (I.base.frzs b ob u e) hn)];exact I.base.frzs b ob u e
 ·obtain⟨more,q⟩:=I.base.tbls b ps e
  exact⟨more,by rw[Zi (Zq q hn)];exact q⟩
 ·rw[Zi (Ne.symm hL)];exact I.free
 ·rw[Zi (hc x c e)];exact I.freeC x c e
 ·obtain⟨a,b,r⟩:=I.pin p hp'
  exact⟨a,by rw[Zi (hp p hp')];exact b,r⟩
 ·by_cases hb:b=ea
  ·subst hb;rw[Zg] at e;cases e;exact new
  ·rw[Zi hb] at e
   exact(I.hok b u e).stay (fun c v _ q=>q) (fun c q=>by rw[Zi (Zq q hn)];exact q) fun c xs q=>by rw[Zi (Zq q hn)];exact q
theorem Inv.dropName {h':Heap} {t':Nat} {j:Nat} {n:Str} {m:Str→Option Value} {v:Option Value} (I:Inv X pins σ H s) (hN:X.N.Nodup) (hj:X.N[j]? =some n) (hs:Heap.SameBut X.env.locals s.heap h')
  (hm:∀(i:Nat) x w,X.N[i]? =some x→σ[i]? =some (some w)→Vis X.env.scope x→∃u,ZB w u∧ZiY X.env s.heap m x u) (hn:h'.Ns X.env.locals (fun x=>if x=n then v else m x)):Inv X pins (σ.set j none) H {s with heap:=h',toks:=t'}:=by
 have neL:∀b o,X.s₀.heap.get? b=some o→b≠X.env.locals:=fun b o e=>Nat.ne_of_lt (Nat.lt_of_lt_of_le (Heap.lt_size e) I.ok.above)
 have k:∀b o,b≠X.env.locals→s.heap.get? b=some o→h'.get? b=some o:=fun b o hb e=>(hs.2 b hb).trans e
 refine⟨I.ok,I.os,I.bare,⟨fun b o e n' hb hx=>k b o (neL b o e) (I.base.keep b o e n' hb hx),fun b o e n' hb hx=>?_,I.base.free,fun b o e hx=>?_,I.base.tups,I.base.frzs,I.base.tbls⟩,⟨_,hn,fun i x w e1 e2 e3=>?_⟩,fun x c e=>?_,I.free,I.freeC,fun p hp=>?_,fun b u e=>?_,by rw[List.length_set];exact I.len⟩
 ·obtain⟨sl,q⟩:=I.base.slot b o e n' hb hx
  exact⟨sl,k b _ (neL b o e) q⟩
 ·obtain⟨o',q⟩:=I.base.there b o e hx
  exact⟨o',k b o' (neL b o e) q⟩
 ·by_cases ij:i=j
  ·subst ij
   have:(σ.set i none)[i]? =some none∨(σ.set i none)[i]? =none:=by
    rcases Nat.lt_or_ge i σ.length with z|z
    ·exact .inl (by rw[List.getElem?_set_self z])
    ·exact .inr (List.getElem?_eq_none (by rw[List.length_set];exact z))
   rcases this with z|z<;>(rw[z] at e2;cases e2)
  ·rw[List.getElem?_set_ne (fun z=>ij z.symm)] at e2
   obtain⟨u,r,l⟩:=hm i x w e1 e2 e3
   have nx:x≠n:=fun z=>ij (ZbA hN (by rw[e1,z]) hj)
   refine⟨u,r,?_⟩
   rcases l with⟨a,b⟩|⟨a,c,e,o,ho,hd⟩
   ·exact .inl ⟨a,by simp only[if_neg nx];exact b⟩
   ·exact .inr ⟨a,c,e,o,k c o (I.cne x c e) ho,hd⟩
 ·obtain⟨w,o,ho,hd⟩:=I.cell x c e
  exact⟨w,o,k c o (I.cne x c e) ho,hd⟩
 ·obtain⟨a,b,c,r⟩:=I.pin p hp
  exact⟨k _ _ c a,b,c,r⟩
 ·refine(I.hok b u e).stay (fun c v' hc q=>k c v' ?_ q) (fun _ q=>q) fun _ _ q=>q
  rcases hc with z|z
  ·rw[z];exact Zq e I.free
  ·exact Zq z I.free
end
section
variable {X:Cx}
end
end L2
namespace L2
open PySem PySem.Spec PyProof.Rows
namespace Rd
section
variable {σ:St} {H:Hp} {Q:VK} {K:PySem.W.Frag}
theorem Zke {x C B:Addr} {b:Bool} (h:H x=some (WW x C)) (ec:W1 K C) (k:PySem.W.kitOne K (.ref C) (.ref B)=some b) (q:Q (.bl b) H):ZgG K [.ref x,.ref B] H Q:=⟨x,C,.ref B,.ref B,b,rfl,h,ec,fun v r=>r,k,q⟩
theorem Zj2 {x C:Addr} {n:String} {b:Bool} (h:H x=some (WW x C)) (ec:W1 K C) (k:PySem.W.kitOne K (.ref C) (.type n)=some b) (q:Q (.bl b) H):ZgG K [.ref x,.ty n] H Q:=⟨x,C,.ty n,.type n,b,rfl,h,ec,fun v r=>r,k,q⟩
end
end Rd
theorem Zcp {K:PySem.W.Frag} {C:Addr} {bm:List Value} {n:String} (h:PySem.W.excIn K C bm n=true):(PySem.W.clsIn K C).isSome=true:=by
 unfold PySem.W.excIn at h
 split at h
 ·rename_i dd cd sl ho
  unfold PySem.W.clsIn
  rw[ho]
  rfl
 ·cases h
end L2
namespace L2
open PySem PySem.Spec PyProof.Rows
section
variable {X:Cx} {K:PySem.W.Frag}
end
namespace Rd
section
variable {σ:St} {H:Hp} {Q:VK} {K:PySem.W.Frag}
end
end Rd
def ZV (H:Hp):List V→List (List Int)→Prop:=Paired fun v xs=>∃t,v= .ref t∧H t=some (.lst (xs.map V.int))
theorem ZV.same {H H':Hp} {ys:List V} {xss:List (List Int)} (h:ZV H ys xss) (e:Zd H H'):ZV H' ys xss:=Paired.mapP h fun _ _ ⟨t,a,b⟩=>⟨t,a,e _ _ b⟩
theorem ZV.length {H:Hp} {ys:List V} {xss:List (List Int)} (h:ZV H ys xss):ys.length=xss.length:=Paired.length h
theorem ZV.at {H:Hp}:∀{ys:List V} {xss:List (List Int)} {i:Nat} {xs:List Int},ZV H ys xss→xss[i]? =some xs→∃t,ys[i]? =some (.ref t)∧H t=some (.lst (xs.map V.int))
 |_,_,_,_,.nil,e=>by simp at e
 |_,_,0,_,.cons ⟨t,e1,h⟩ _,e=>by simp at e;subst e;exact⟨t,by simp[e1],h⟩
 |_,_,i+1,b,.cons _ r,e=>by
  obtain⟨t,h1,h2⟩:=ZV.at (i:=i) (xs:=b) r (by simpa using e)
  exact⟨t,by simpa using h1,h2⟩
theorem ZV.snoc {H:Hp}:∀{ys:List V} {xss:List (List Int)} {t:Addr} {xs:List Int},ZV H ys xss→H t=some (.lst (xs.map V.int))→ZV H (ys++ [.ref t]) (xss++ [xs])
 |_,_,_,_,.nil,h=> .cons ⟨_,rfl,h⟩ .nil
 |_,_,_,_,.cons x r,h=> .cons x (ZV.snoc r h)
end L2
namespace L2
open PySem PySem.Spec PyProof.Rows
def Itz (K:PySem.W.Frag) (a b:Addr):It:=
 ⟨fun i H=>∃xs x ys y,SqL K H a xs∧xs[i]? =some x∧SqL K H b ys∧ys[i]? =some y,fun i H v H'=>∃t x y,H t=none∧v= .ref t∧H'=upd H t (.tup [x,y])∧(∀xs,SqL K H a xs→xs[i]? =some x)∧∀ys,SqL K H b ys→ys[i]? =some y,fun i H=>∃xs ys,SqL K H a xs∧SqL K H b ys∧(xs.length≤i∨ys.length≤i)⟩
theorem Va {h:Heap} {l b:Addr} {xs:Array Value} {o:Obj} (hl:h.IsList l xs) (ho:h.get? b=some o) (hc:o.cls≠ .type "list"):l≠b:=fun z=>by
 subst z
 obtain⟨o',h1,h2,_⟩:=hl
 rw[ho] at h1
 cases h1
 exact hc h2
structure ZeR (h:Heap) (z TI TO i1 i2 a b:Addr) (i:Nat):Prop where
 zip:IsZip h z TI TO .none
 ti:IsPair h TI (.ref i1) (.ref i2)
 to:∃x y,IsPair h TO x y
 l1:h.IsListIter i1 a i
 l2:h.IsListIter i2 b i
structure ZdW (z TI TO i1 i2:Addr):Prop where
 TIz:TI≠z
 TOz:TO≠z
 i1z:i1≠z
 i2z:i2≠z
 TITO:TI≠TO
 TIi1:TI≠i1
 TIi2:TI≠i2
 TOi1:TO≠i1
 TOi2:TO≠i2
 i12:i1≠i2
theorem ZhR (n:Nat):ZdW (n+4) (n+2) (n+3) n (n+1):=⟨show n+2≠n+4 by omega,show n+3≠n+4 by omega,show n≠n+4 by omega,show n+1≠n+4 by omega,show n+2≠n+3 by omega,show n+2≠n by omega,show n+2≠n+1 by omega,show n+3≠n by omega,show n+3≠n+1 by omega,show n≠n+1 by omega⟩
theorem ZeR.apart {h:Heap} {z TI TO i1 i2 a b:Addr} {i:Nat} {xs ys:Array Value} (D:ZdW z TI TO i1 i2) (st:ZeR h z TI TO i1 i2 a b i) (ha:h.IsList a xs) (hb:h.IsList b ys):ZipApart z TI TO i1 i2 a b:=by
 obtain⟨x,y,hto⟩:=st.to
 obtain⟨o1,p1,c1,_⟩:=st.l1
 obtain⟨o2,p2,c2,_⟩:=st.l2
 have n1:o1.cls≠ .type "list" :=by rw[c1];decide
 have n2:o2.cls≠ .type "list" :=by rw[c2];decide
 exact⟨D.TIz,D.TOz,D.i1z,D.i2z,D.TITO,D.TIi1,D.TIi2,D.TOi1,D.TOi2,D.i12,Va ha st.zip (show Value.type "zip" ≠Value.type "list" by decide),Va ha hto (show Value.type "tuple" ≠Value.type "list" by decide),Va ha p1 n1,Va ha p2 n2,Va hb st.zip (show Value.type "zip" ≠Value.type "list" by decide),Va hb hto (show Value.type "tuple" ≠Value.type "list" by decide),Va hb p1 n1,Va hb p2 n2⟩
theorem Zgm {P:Program} {w:World} {K:PySem.W.Frag} {elts:List Expr} {k1:Nat} {pos:Pos} (a b z TI TO i1 i2:Addr) (D:ZdW z TI TO i1 i2):Zag P w K (.Tuple elts k1 pos) (Itz K a b) [z,TI,TO,i1,i2] z (fun i h=>ZeR h z TI TO i1 i2 a b i) where
 mem:=by simp
 obj:=fun i h st c hc=>by
  obtain⟨x,y,hto⟩:=st.to
  obtain⟨o1,p1,_,d1⟩:=st.l1
  obtain⟨o2,p2,_,d2⟩:=st.l2
  simp only[List.mem_cons,List.not_mem_nil,or_false] at hc
  rcases hc with rfl|rfl|rfl|rfl|rfl
  ·exact⟨_,st.zip,fun v q=>by cases (show Data.fields _=Data.cell v from q)⟩
  ·exact⟨_,st.ti,fun v q=>by cases (show Data.seq _ _=Data.cell v from q)⟩
  ·exact⟨_,hto,fun v q=>by cases (show Data.seq _ _=Data.cell v from q)⟩
  ·exact⟨o1,p1,fun v q=>by rw[d1] at q;cases q⟩
  ·exact⟨o2,p2,fun v q=>by rw[d2] at q;cases q⟩
 keep:=fun i h h' st k=>by
  obtain⟨x,y,hto⟩:=st.to
  exact⟨k z (by simp) _ st.zip,k TI (by simp) _ st.ti,⟨x,y,k TO (by simp) _ hto⟩,st.l1.at fun o q=>k i1 (by simp) o q,st.l2.at fun o q=>k i2 (by simp) o q⟩
 item:=by
  intro X hP hw hK hc i pins s σ H E I hf st hg
  subst hP hw hK
  obtain⟨xs,x,ys,y,hq1,hx,hq2,hy⟩:=hg
  obtain⟨its1,rv1,p1,hz1⟩:=I.list hq1
  obtain⟨its2,rv2,p2,hz2⟩:=I.list hq2
  obtain⟨u1,hu1,ru1⟩:=rv1.get hx
  obtain⟨u2,hu2,ru2⟩:=rv2.get hy
  obtain⟨a0,b0,hto⟩:=st.to
  refine wpAny_pyNext_zip_item (st.apart D p1.isList p2.isList) st.zip st.ti hto st.l1 st.l2 p1.isList p2.isList (x:=u1) (y:=u2) (by simpa using hu1) (by simpa using hu2) fun h' hz' hTO' h1' h2' hT hsz hk=>?_
  have hfr:=I.hok.fresh (Nat.le_refl s.heap.objs.size)
  have lt:∀{c:Addr} {o:Obj},s.heap.get? c=some o→c<s.heap.objs.size:=fun e=>Heap.lt_size e
  have zlt:=lt st.zip
  have i1lt:i1<s.heap.objs.size:=by obtain⟨_,q,_⟩:=st.l1;exact lt q
  have i2lt:i2<s.heap.objs.size:=by obtain⟨_,q,_⟩:=st.l2;exact lt q
  refine⟨_,rfl,wpAny_letOwnedTupleGo_zip hz' fun h2 hz2' hs2=>?_⟩
  have hT2:IsPair h2 s.heap.objs.size u1 u2:=hs2.extBut _ _ (Nat.ne_of_gt zlt) hT
  have I1:Inv X pins σ (upd H s.heap.objs.size (.tup [x,y])) {s with heap:=h2}:=
   I.turnedNew (t':=s.toks) (fp:=[z,TI,TO,i1,i2]) (fun c o hc q=>by
    have n1:c≠z:=fun e=>hc (by simp[e])
    have n2:c≠TO:=fun e=>hc (by simp[e])
    have n3:c≠i1:=fun e=>hc (by simp[e])
    have n4:c≠i2:=fun e=>hc (by simp[e])
    exact hs2.extBut c o n1 (hk c o n1 n2 n3 n4 q)) hf (Nat.le_refl _) ⟨by show 2≤sizeLine;decide,[u1,u2],.cons ru1 (.cons ru2 .nil),_,hT2,rfl,_,rfl⟩
  refine⟨.ref s.heap.objs.size,_,I1,rfl,⟨_,x,y,hfr,rfl,rfl,fun zs hz=>by rw[I.list_inj hz hq1];exact hx,fun zs hz=>by rw[I.list_inj hz hq2];exact hy⟩,⟨hz2',hs2.extBut _ _ D.TIz (hk _ _ D.TIz D.TITO D.TIi1 D.TIi2 st.ti),⟨_,_,hs2.extBut _ _ D.TOz hTO'⟩,h1'.at fun o q=>hs2.extBut _ _ D.i1z q,h2'.at fun o q=>hs2.extBut _ _ D.i2z q⟩,fun c hc=>?_⟩
  have nb:c≠s.heap.objs.size:=by
   simp only[List.mem_cons,List.not_mem_nil,or_false] at hc
   rcases hc with rfl|rfl|rfl|rfl|rfl
   ·exact Nat.ne_of_lt zlt
   ·exact Nat.ne_of_lt (lt st.ti)
   ·exact Nat.ne_of_lt (lt hto)
   ·exact Nat.ne_of_lt i1lt
   ·exact Nat.ne_of_lt i2lt
  rw[Zi nb]
  exact(hf c hc).1
 done:=by
  intro X hP hw hK hc i pins s σ H E I hf st hg
  subst hP hw hK
  obtain⟨xs,ys,hq1,hq2,hx⟩:=hg
  obtain⟨its1,rv1,p1,hz1⟩:=I.list hq1
  obtain⟨its2,rv2,p2,hz2⟩:=I.list hq2
  obtain⟨a0,b0,hto⟩:=st.to
  have e1:=rv1.length
  have e2:=rv2.length
  exact wpAny_pyNext_zip_end (I.ok.hd hc) (st.apart D p1.isList p2.isList) st.zip st.ti hto st.l1 st.l2 p1.isList p2.isList (by rcases hx with q|q;exact .inl (by simp;omega);exact .inr (by simp;omega)) fun h' eb=>⟨rfl,I.turnedL (t':=s.toks) (fp:=[z,TI,TO,i1,i2]) (fun c o hc q=>eb c o (fun e=>hc (by simp[e])) (fun e=>hc (by simp[e])) (fun e=>hc (by simp[e])) (fun e=>hc (by simp[e])) q) hf⟩
 self:=fun _ _ _ _ _ st h=>wpAny_pyIter_zip st.zip h
section
variable {X:Cx}
def ZhU (K:PySem.W.Frag) (ta:TA):TI:=fun σ H R=>ta σ H fun vs H1=>∃a b,vs=[.ref a,.ref b]∧(∃xs,SqL K H1 a xs)∧(∃ys,SqL K H1 b ys)∧R (Itz K a b) H1
theorem ZhZ {K:PySem.W.Frag} {a b:Expr} {ta:TA} {p pos tpos:Pos} {elts:List Expr} {k1:Nat} (ek:X.K=K) (hg:Gl X "zip") (hm:X.mg "zip" =none) (ha:PA X [a,b] ta) (hs:starEach [a,b] X.env=(false,eval a X.env)::starEach [b] X.env:=by rfl) (hpl:(backTo pos (starEach [b] X.env)).any (·.1)=false:=by rfl):
  PI X (.Tuple elts k1 tpos) (.Call (.Name "zip" p) [a,b] [] pos) (ZhU K ta):=by
 subst ek
 intro pins s σ H R I h
 refine Call_ (U5 I hg hm boot_zip (PyProof.Rows.callWith_type1 (thn (ha pos pins s σ H _ I h) fun us s1 ⟨vs,H1,I1,r1,q1⟩=>?_) hs hpl))
 obtain⟨b1,b2,rfl,⟨xs,hq1⟩,⟨ys,hq2⟩,q⟩:=q1
 obtain⟨u1,u2,rfl,ru1,ru2⟩:=Zg4 r1
 cases ru1
 cases ru2
 obtain⟨its1,rv1,p1,hz1⟩:=I1.list hq1
 obtain⟨its2,rv2,p2,hz2⟩:=I1.list hq2
 refine call_zip_2 p1.isList p2.isList fun h' hz hTI hTO h1 h2 hsz hk=>?_
 refine wpAny_pyIter_zip hz ?_
 have I2:Inv X pins σ H1 {s1 with heap:=h'}:=I1.kept (t':=s1.toks) hk
 have fr:∀k:Nat,s1.heap.objs.size≤s1.heap.objs.size+k:=fun k=>Nat.le_add_right _ _
 refine⟨s1.heap.objs.size+4,[s1.heap.objs.size+4,s1.heap.objs.size+2,s1.heap.objs.size+3,s1.heap.objs.size,s1.heap.objs.size+1],_,_,H1,rfl,I2,Zgm b1 b2 _ _ _ _ _ (ZhR _),⟨hz,hTI,⟨_,_,hTO⟩,h1,h2⟩,fun c hc=>?_,q⟩
 simp only[List.mem_cons,List.not_mem_nil,or_false] at hc
 rcases hc with rfl|rfl|rfl|rfl|rfl
 ·exact I1.fpOk (fr 4) (I1.hok.fresh (fr 4))
 ·exact I1.fpOk (fr 2) (I1.hok.fresh (fr 2))
 ·exact I1.fpOk (fr 3) (I1.hok.fresh (fr 3))
 ·exact I1.fpOk (Nat.le_refl _) (I1.hok.fresh (Nat.le_refl _))
 ·exact I1.fpOk (fr 1) (I1.hok.fresh (fr 1))
end
theorem ZfI {K:PySem.W.Frag} {a b:Addr} {xs ys:List V} {H:Hp} (h1:SqL K H a xs) (h2:SqL K H b ys) (hl:xs.length=ys.length):U4 (Itz K a b) xs.length (fun i H' v H2=>∃t,H' t=none∧v= .ref t∧H2=upd H' t (.tup [xs.getD i .non,ys.getD i .non])) H:=
 ⟨fun H' i e hi=>⟨xs,xs[i],ys,ys[i],e.seq h1,by simp[hi],e.seq h2,by simp⟩,fun H' i x H2 e hi ⟨t,z,z',ht,hv,hu,hz,hz'⟩=>⟨t,ht,hv,by
  have e1:=hz xs (e.seq h1)
  have e2:=hz' ys (e.seq h2)
  rw[hu];simp[List.getD,e1,e2]⟩,fun H' e=>⟨xs,ys,e.seq h1,e.seq h2,.inl (Nat.le_refl _)⟩⟩
namespace Rd
section
variable {K:PySem.W.Frag} {σ:St} {H:Hp}
theorem Zj6 {ts:TA} {R:It→Hp→Prop} (h:ts σ H fun vs H1=>∃a b,vs=[.ref a,.ref b]∧(∃xs,SqL K H1 a xs)∧(∃ys,SqL K H1 b ys)∧R (Itz K a b) H1):ZhU K ts σ H R:=h
end
end Rd
end L2
namespace L2
open PySem PySem.Spec PyProof.Rows
section
variable {X:Cx} {K:PySem.W.Frag}
theorem Ze8 {o value:Expr} {ta tv:TE} {f:Str} {tpos pos:Pos} {op:Operator} {rd:V→V→Hp→VK→Prop} (ek:X.K=K) (ha:PE X o ta) (hv:PE X value tv) (hop:Zgr X op rd):PS X (.AugAssign (.Attribute o f tpos) op value pos) (Zb7 K ta tv rd f):=ek▸ZfA ha hv hop
end
namespace Rd
end Rd
end L2
namespace L2
open PySem PySem.Spec PyProof.Rows
section
variable {X:Cx} {K:PySem.W.Frag}
section
variable {prog:Program} {w:World} {A:Around} {E:Value→Shared→Prop} {s:Shared} {I l:Addr} {items:Array Value}
end
theorem Zfi {own:Nat} {ix:List Nat} {g:TG} {tc:TT} {te:TE} {Q:Addr→Hp→Prop} {σ:St} {H:Hp} {J:It} {n:Nat} {y:Nat→Hp→V→Hp→Prop} (w:U4 J n y H) (hn:n<sizeLine) (s:Nat→List (Option V)) (hs:∀i,(s i).length=own) (R:Nat→V→List Addr→Hp→Prop)
  (mono:∀i v fp H1 H2,Zd H1 H2→R i v fp H1→R i v fp H2) (dom:∀i v fp H1,R i v fp H1→∀x∈fp,H1 x≠none)
  (hg:∀i a H' v H2 (Kg:St→Hp→Prop),i<n→Zd H H'→y i H' v H2→a.length=own→(∀H3,Zd H' H3→Kg (s i++ix.map fun j=>(σ[j]?).join) H3)→g v (a++ix.map fun j=>(σ[j]?).join) H2 Kg)
  (hc:∀i H' (Kc:Bool→Hp→Prop),i<n→Zd H H'→(∀H4,Zd H' H4→Kc true H4)→tc (s i++ix.map fun j=>(σ[j]?).join) H' Kc)
  (he:∀p i H' (Kc:VK),i<n→H p=none→(∃ys,H' p=some (.lst ys))→Zd H H'→(∀v fp H5,Zd H' H5→R i v fp (hid H5 p)→(∀x∈fp,H' x=none)→Kc v H5)→te (s i++ix.map fun j=>(σ[j]?).join) H' Kc)
  (q:∀p H' (ys:List V) (fs:List (List Addr)),H p=none→Zd H H'→H' p=some (.lst ys)→ys.length=n→fs.length=n→(∀i<n,R i (ys.getD i .non) (fs.getD i []) (hid H' p))→(∀i j,i<j→j<n→∀x∈fs.getD i [],x∉fs.getD j [])→(∀i<n,∀x∈fs.getD i [],H x=none∧x≠p)→Q p H'):
  ∀p,H p=none→∃W:Nat→Nat→List V→St→Hp→Prop,(∃m,W 0 m [] (Zaz own ix σ) (upd H p (.lst [])))∧∀i m ys σ' H',W i m ys σ' H'→
   (J.stop i H'∧Q p H')∨(J.go i H'∧∀x H2,J.yld i H' x H2→g x σ' H2 fun σ2 H3=>tc σ2 H3 fun b H4=>
    if b=true then te σ2 H4 fun v H5=>H5 p=some (.lst ys)∧ys.length<sizeLine∧∃m',m'<m∧W (i+1) m' (ys++ [v]) σ2 (upd H5 p (.lst (ys++ [v])))
    else ∃m',m'<m∧W (i+1) m' ys σ2 H4):=by
 intro p hp
 have hidS:∀{H1 H2:Hp},Zd H1 H2→Zd (hid H1 p) (hid H2 p):=fun{H1 H2} e b o z=>by
  by_cases h:b=p
  ·rw[h,Ws] at z;cases z
  ·rw[WB h] at z⊢;exact e b o z
 have hidU:∀{H1:Hp} {o:HO},Zd (hid H1 p) (hid (upd H1 p o) p):=fun{H1 o} b u z=>by
  by_cases h:b=p
  ·rw[h,Ws] at z;cases z
  ·rw[WB h] at z⊢;rw[Zi h];exact z
 have gl:∀{α:Type} {l:List α} {x d:α} {i:Nat},i<l.length→(l++ [x]).getD i d=l.getD i d:=fun{α l x d i} h=>by simp[List.getD,List.getElem?_append_left h]
 have ge:∀{α:Type} {l:List α} {x d:α},(l++ [x]).getD l.length d=x:=fun{α l x d}=>by simp[List.getD]
 refine⟨fun i m ys σ' H'=>m=n-i∧i≤n∧(∃a,a.length=own∧σ'=a++ix.map fun j=>(σ[j]?).join)∧Zd H H'∧H' p=some (.lst ys)∧ys.length=i∧∃fs:List (List Addr),fs.length=i∧(∀j<i,R j (ys.getD j .non) (fs.getD j []) (hid H' p))∧(∀j k,j<k→k<i→∀x∈fs.getD j [],x∉fs.getD k [])∧(∀j<i,∀x∈fs.getD j [],H x=none∧x≠p),
  ⟨n,by simp,Nat.zero_le _,⟨List.replicate own none,List.length_replicate,rfl⟩,Zo hp,Zg,rfl,[],rfl,fun j hj=>absurd hj (Nat.not_lt_zero _),fun j k _ hk=>absurd hk (Nat.not_lt_zero _),fun j hj=>absurd hj (Nat.not_lt_zero _)⟩,?_⟩
 rintro i m ys σ' H' ⟨rfl,hi,⟨a,ha,rfl⟩,sm,hy,hyl,fs,hfl,hR,hD,hN⟩
 by_cases hlt:i<n
 ·refine .inr ⟨w.go H' i sm hlt,fun x H2 yl=>?_⟩
  refine hg i a H' x H2 _ hlt sm (w.yld H' i x H2 sm hlt yl) ha fun H3 s3=>?_
  refine hc i H3 _ hlt (sm.trans s3) fun H4 s4=>?_
  have sm4:=(sm.trans s3).trans s4
  have hy4:=s4 _ _ (s3 _ _ hy)
  rw[if_pos rfl]
  refine he p i H4 _ hlt hp ⟨ys,hy4⟩ sm4 fun v fp H5 s5 r5 nw=>⟨s5 _ _ hy4,by omega,n-(i+1),by omega,rfl,hlt,⟨s i,hs i,rfl⟩,(sm4.trans s5).new hp,Zg,by simp[hyl],fs++ [fp],by simp[hfl],fun j hj=>?_,fun j k hjk hk x hx=>?_,fun j hj x hx=>?_⟩
  ·by_cases e:j=i
   ·subst e
    have e1:(ys++ [v]).getD j .non=v:=by rw[←hyl];exact ge
    have e2:(fs++ [fp]).getD j []=fp:=by rw[←hfl];exact ge
    rw[e1,e2]
    exact mono _ _ _ _ _ hidU r5
   ·have hj':j<i:=by omega
    rw[gl (by omega),gl (by omega)]
    exact mono _ _ _ _ _ ((hidS ((s3.trans s4).trans s5)).trans hidU) (hR j hj')
  ·have hj':j<i:=by omega
   rw[gl (by omega)] at hx
   by_cases e:k=i
   ·subst e
    have e2:(fs++ [fp]).getD k []=fp:=by rw[←hfl];exact ge
    rw[e2]
    intro z
    have h1:=dom _ _ _ _ (hR j hj') x hx
    have np:=(hN j hj' x hx).2
    rw[WB np] at h1
    cases q1:H' x with
    |none=>exact h1 q1
    |some o=>have:=nw x z;rw[s4 _ _ (s3 _ _ q1)] at this;cases this
   ·rw[gl (by omega)]
    exact hD j k hjk (by omega) x hx
  ·by_cases e:j=i
   ·subst e
    have e2:(fs++ [fp]).getD j []=fp:=by rw[←hfl];exact ge
    rw[e2] at hx
    have h4:=nw x hx
    refine⟨?_,fun z=>by rw[z,hy4] at h4;cases h4⟩
    cases q1:H x with
    |none=>rfl
    |some o=>rw[sm4 _ _ q1] at h4;cases h4
   ·rw[gl (by omega)] at hx
    exact hN j (by omega) x hx
 ·have e:i=n:=by omega
  subst e
  exact .inl ⟨w.stop H' sm,q p H' ys fs hp sm hy hyl hfl hR hD hN⟩
end
namespace Rd
end Rd
end L2
namespace L2
open PySem PySem.Spec PyProof.Rows
section
variable {X:Cx}
def Zhu (K:PySem.W.Frag) (c d:Value) (j:Nat) (tb:(St→Prop)→XK→TS) (th th2:TS):TS:=fun D σ H=>∃(J:St→Prop) (E1:XK),tb J E1 D σ H∧∀σ' cls H',J σ'→E1 cls none H'→∃C,cls= .ref C∧((PySem.W.exmOne K cls c=some true∧∀ea,H' ea=none→
 th {D with nx:=fun σ2 H2=>D.nx (σ2.set j none) H2,bk:=fun σ2 H2=>D.bk (σ2.set j none) H2,ct:=fun σ2 H2=>D.ct (σ2.set j none) H2} (σ'.set j (some (.ref ea))) (upd H' ea (WW ea C)))∨
 (PySem.W.exmOne K cls c=some false∧PySem.W.exmOne K cls d=some true∧∀ea,H' ea=none→
 th2 {D with nx:=fun σ2 H2=>D.nx (σ2.set j none) H2,bk:=fun σ2 H2=>D.bk (σ2.set j none) H2,ct:=fun σ2 H2=>D.ct (σ2.set j none) H2} (σ'.set j (some (.ref ea))) (upd H' ea (WW ea C))))
theorem Zf0 {n:Str} {j:Nat} {body:List Stmt} {b₀ c₀:Stmt} {suite suite2:List Stmt} {x x2:Str} {np hpos np2 hpos2 pos:Pos} {tb:(St→Prop)→XK→TS} {th th2:TS} {C C2:Addr}
  (hst:X.stack=X.env::X.outer) (hfr:X.env.frame=some X.env.locals) (hg:Gl X x) (hm:X.mg x=some (.ref C)) (hg2:Gl X x2) (hm2:X.mg x2=some (.ref C2)) (hb:ZjJ X body tb) (hs:Zdp X (b₀::suite) th) (hs2:Zdp X (c₀::suite2) th2) (hN:X.N.Nodup) (hj:X.N[j]? =some n) (hloc:X.env.scope.names.lookup n=some .local) (hdb:(x==("__debug__" :Str))=false:=by decide) (hdb2:(x2==("__debug__" :Str))=false:=by decide):
  PS X (.Try body [.ExceptHandler (some (.Name x np)) (some n) (b₀::suite) hpos,.ExceptHandler (some (.Name x2 np2)) (some n) (c₀::suite2) hpos2] [] [] pos) (Zhu X.K (.ref C) (.ref C2) j tb th th2):=by
 intro pins s σ H D I h
 obtain⟨J,E1,hb1,hh⟩:=h
 have hfra:X.A.frames=some (X.env::X.outer):=by rw[I.ok.frames,hst]
 refine wpAny_Try_except ?_
 let xe1:Value→Shared→Prop:=fun e s₁=>wpAny (model X.prog X.w) X.A (noteFrame e X.env) (fun _ s₂=>wpAny (model X.prog X.w) X.A (setFlight e none) (fun _ s₃=>wpAny (model X.prog X.w) X.A (handleBy e X.env [.ExceptHandler (some (.Name x np)) (some n) (b₀::suite) hpos,.ExceptHandler (some (.Name x2 np2)) (some n) (c₀::suite2) hpos2]) (SP X pins D) X.xe s₃) X.xe s₂) X.xe s₁
 have own:PassesOwn (model X.prog X.w) X.A X.env xe1:=PassesOwn.looking
 have back:∀{xe:Value→Shared→Prop} {pins':List (Addr×Obj)} {σ':St} {H':Hp} {s':Shared},Inv {X with pn:=X.pn++pins,xe:=xe} pins' σ' H' s'→Inv X pins σ' H' s':=fun{xe pins' σ' H' s'} J=>by
  have o:=J.ok
  exact⟨⟨o.mod,o.kind,o.glob,o.blt,o.above,o.inj,o.has,o.cab,o.hd,o.frames,o.stk,o.exf,o.bs,o.bsz,o.noex,o.exfs,o.funs,o.frf⟩,J.os,J.bare,J.base,J.loc,J.cell,J.free,J.freeC,fun p hp=>J.pin p (List.mem_append_left _ hp),J.hok,J.len⟩
 have forth:Inv {X with pn:=X.pn++pins,xe:=xe1} [] σ H s:=by
  have o:=I.ok
  exact⟨⟨o.mod,o.kind,o.glob,o.blt,o.above,o.inj,o.has,o.cab,o.hd,o.frames,o.stk,o.exf,o.bs,o.bsz,o.noex,o.exfs,o.funs,o.frf⟩,I.os,I.bare,I.base,I.loc,I.cell,I.free,I.freeC,fun p hp=>I.pin p (by simpa using hp),I.hok,I.len⟩
 have pas:Zch (CXX X.prog X.w) {X with pn:=X.pn++pins,xe:=xe1} J E1:=by
  intro pins' σ' H1 s1 e s' hJ I1 hcx
  obtain⟨ea,cls,a0,H',B,rfl,os,bare,un,ok,fl,hB,q⟩:=hcx
  have I':=back I1
  obtain⟨Ce,rfl,hcase⟩:=hh σ' cls H' hJ q
  have fl0:Heap.FlyingW B (X.env::X.outer) ea (.ref Ce) a0 s'.heap:=by rw[←hst];exact fl
  show wpAny _ _ _ _ _ _
  refine wpAny_looks_onW hfra hfr fl0 fun h₄ held₄ sl₄=>?_
  refine wpAny_landsW held₄ fun h₅ fl₅ sl₅=>?_
  have there:∀{h6:Heap},Heap.FlyingW B (X.env::X.outer) ea (.ref Ce) a0 h6→s'.heap.UpToSlots h6→Inv X pins σ' H' {s' with heap:=h6}:=fun{h6} f6 sl=>by
   have u6:Un (frs X.stack) [] H1 H' s1.heap h6:=un.fly hB f6.1 sl (fun b hb o e=>by
    obtain⟨_,o',e',d⟩:=I'.stack.mem hb
    rw[e] at e'
    cases e'
    exact d) I'.stkFree
   exact I'.call' (s':={s' with heap:=h6}) os u6 (ok.stays (fun b o e n=>hB b o e (.inl n)) f6.1) bare (fun b z=>absurd z (by simp))
  have held:∀{s6:Shared},Inv X pins σ' H' s6→Inv {X with A:=X.A.mark (some (.ref ea)),calm:=false,xe:=fun _ _=>False} pins σ' H' s6:=fun{s6} J=>by
   have o:=J.ok
   exact⟨⟨o.mod,o.kind,o.glob,o.blt,o.above,o.inj,o.has,o.cab,fun z=>absurd (show false=true from z) Bool.false_ne_true,o.frames,o.stk,o.exf,o.bs,o.bsz,o.noex,o.exfs,o.funs,o.frf⟩,J.os,J.bare,J.base,J.loc,J.cell,J.free,J.freeC,J.pin,J.hok,J.len⟩
  have I5:=held (there fl₅ (sl₄.trans sl₅))
  have main:∀{y:Str} {Cy:Addr} {d₀:Stmt} {sy:List Stmt} {ty:TS} {ny py:Pos} {rest:List ExceptHandler},Gl X y→X.mg y=some (.ref Cy)→Zdp X (d₀::sy) ty→(y==("__debug__" :Str))=false→PySem.W.exmOne X.K (.ref Ce) (.ref Cy)=some true→(∀ea,H' ea=none→
    ty {D with nx:=fun σ2 H2=>D.nx (σ2.set j none) H2,bk:=fun σ2 H2=>D.bk (σ2.set j none) H2,ct:=fun σ2 H2=>D.ct (σ2.set j none) H2} (σ'.set j (some (.ref ea))) (upd H' ea (WW ea Ce)))→
    wpAny (model X.prog X.w) X.A (handleBy (.ref ea) X.env (.ExceptHandler (some (.Name y ny)) (some n) (d₀::sy) py::rest)) (SP X pins D) X.xe {s' with heap:=h₅}:=by
   intro y Cy d₀ sy ty ny py rest hg hm hs hdb hmt hth
   refine wpAny_handleBy_cons (codeAny_handlers_test ?_) (by intro q;cases q)
   refine VJ I5 hg hm ?_ hdb
   obtain⟨ob,hob,hobc⟩:=fl₅.there
   have LT:PySem.W.Looks (model X.prog X.w) h₅ (typeOf (.ref ea)) (.ref Ce):=by
    exact hobc▸(PySem.W.Looks.ld hob).andThen .now
   refine(PySem.W.exm_one I5.kIn LT hmt).here ?_
   refine codeAny_handlers_suite_as ?_
   refine lands_againW fl₅ fun h₆ fl₆ sl₆=>?_
   have I6:=held (there fl₆ ((sl₄.trans sl₅).trans sl₆))
   obtain⟨oe,heo,hec⟩:=fl.there
   have old:∀b o,s1.heap.get? b=some o→b≠ea:=fun b o e z=>by
    subst z
    by_cases hf:b∈frs X.stack
    ·obtain⟨_,o',e',d⟩:=I'.stack.mem hf
     obtain⟨sl,q'⟩:=un.any e' (I'.stkFree b hf) (by simp)
     obtain⟨ox,vs,hx1,_,hx3,_⟩:=fl.first
     rw[q'] at hx1
     cases hx1
     exact d vs hx3
    ·have:=hB b oe heo (.inr ⟨⟨o,e⟩,hf⟩)
     rw[fl.2.1] at this
     cases this
   have hne:H' ea=none:=by
    cases e:H' ea with
    |none=>rfl
    |some o=>
     have:=hB ea oe heo (.inl (by rw[e];simp))
     rw[fl.2.1] at this
     cases this
   have h0:∀ob,X.s₀.heap.get? ea=some ob→ea∈X.ex:=fun ob e=>by
    by_cases hx:ea∈X.ex
    ·exact hx
    ·obtain⟨o',q'⟩:=I'.base.there ea ob e hx
     exact absurd rfl (old ea o' q')
   obtain⟨om,heo6,hec6⟩:=fl₆.there
   have I7:=Inv.track (o:=WW ea Ce) I6 h0 (fun z=>by
    obtain⟨m,⟨o,es,ep,ho,_⟩,_⟩:=I'.loc
    exact old _ o ho z.symm) (fun y c e=>by
    obtain⟨v,o,ho,_⟩:=I'.cell y c e
    exact old c o ho) (fun p' hp'=>old _ _ (I'.pin p' hp').1) hne ⟨⟨om,heo6,hec6⟩,⟨om,heo6⟩,fun h1 h2 ⟨o,a1,a2⟩ k=>⟨o,k o a1,a2⟩⟩
   refine UA (X:={X with A:=X.A.mark (some (.ref ea)),calm:=false,xe:=fun _ _=>False}) I7 hN hj (.inl hloc) (show ZB (.ref ea) (.ref ea) from rfl) (fun s7 I8=>?_) (.inr hloc)
   refine wpAny_mono (hs (X.A.mark (some (.ref ea))) pins s7 _ _ _ I8 (hth ea hne)) (fun f s2 h2=>?_) fun _ _ z=>False.elim z
   have un2:∀{σ2:St} {H2:Hp} {s2:Shared},Inv {X with A:=X.A.mark (some (.ref ea)),calm:=false,xe:=fun _ _=>False} pins σ2 H2 s2→Inv X pins σ2 H2 s2:=fun{σ2 H2 s2} J=>by
    have o:=J.ok
    exact⟨⟨o.mod,o.kind,o.glob,o.blt,o.above,o.inj,o.has,o.cab,I.ok.hd,I.ok.frames,o.stk,o.exf,o.bs,o.bsz,o.noex,o.exfs,o.funs,o.frf⟩,J.os,J.bare,J.base,J.loc,J.cell,J.free,J.freeC,J.pin,J.hok,J.len⟩
   have goes:∀{σ2:St} {H2:Hp} {s2:Shared} {Q:Unit→Shared→Prop},Inv X pins σ2 H2 s2→(∀s3,Inv X pins (σ2.set j none) H2 s3→Q () s3)→wpAny (model X.prog X.w) X.A (do bindName X.env n .none;unbindBehindTheSuite X.env n py) Q X.xe s2:=fun{σ2 H2 s2 Q} J hq=>by
    refine wpAny_bind (wpAny_bindName (UA (u:= .none) J hN hj (.inl hloc) (show ZB .non .none from rfl) (fun s3 J3=>?_) (.inr hloc)))
    obtain⟨m,hn,hl⟩:=J3.loc
    have hcls:(X.env.scope.kind== .class||(X.env.scope.kind== .module&&X.env.locals != X.env.globals))=false:=by rw[J3.ok.kind];rfl
    have hkn:X.env.kindOf n=some .local:=hloc
    unfold unbindBehindTheSuite
    refine wpAny_onRaise ?_
    unfold unbindName
    refine wpAny_bind (wpAny_point (wpAny_bind ?_))
    unfold deleteName
    simp only[hkn,hcls]
    rw[if_neg (by decide)]
    refine wpAny_bind (wpAny_nsDel_keeps hn fun h₂ v hn₂ hs₂=>?_)
    have J4:Inv X pins ((σ2.set j (some .non)).set j none) H2 {s3 with heap:=h₂,toks:=s3.toks}:=J3.dropName hN hj hs₂ hl hn₂
    rw[List.set_set] at J4
    have hjl:j<σ2.length:=by rw[J.len];exact(List.getElem?_eq_some_iff.mp hj).1
    have hmn:(m n).isSome=true:=by
     obtain⟨u,r,l⟩:=hl j n .non hj (by rw[List.getElem?_set_self hjl]) (.inl hloc)
     rcases l with⟨_,b⟩|⟨a,_⟩
     ·rw[b];rfl
     ·rcases a with a|a<;>(rw[hkn] at a;cases a)
    rw[hmn]
    simp only[if_true,Bool.not_true,Bool.false_eq_true,if_false]
    exact wpAny_pure (wpAny_point (hq _ J4))
   show wpAny (model X.prog X.w) X.A (do bindName X.env n .none;unbindBehindTheSuite X.env n py) (fun _ s₃=>SP X pins D f s₃) X.xe s2
   cases f with
   |next=>obtain⟨σ2,H2,J2,q2⟩:=h2;exact goes (un2 J2) fun s3 J3=>⟨_,H2,J3,q2⟩
   |brk=>obtain⟨σ2,H2,J2,q2⟩:=h2;exact goes (un2 J2) fun s3 J3=>⟨_,H2,J3,q2⟩
   |cont=>obtain⟨σ2,H2,J2,q2⟩:=h2;exact goes (un2 J2) fun s3 J3=>⟨_,H2,J3,q2⟩
   |ret u=>obtain⟨v,σ2,H2,J2,r2,q2⟩:=h2;exact goes (un2 J2) fun s3 J3=>⟨v,_,H2,J3,r2,q2⟩
  rcases hcase with⟨hmt,hth⟩|⟨hmf,hmt,hth⟩
  ·exact main hg hm hs hdb hmt hth
  ·refine wpAny_handleBy_cons (codeAny_handlers_test ?_) (by intro q;cases q)
   refine VJ I5 hg hm ?_ hdb
   obtain⟨ob,hob,hobc⟩:=fl₅.there
   have LT:PySem.W.Looks (model X.prog X.w) h₅ (typeOf (.ref ea)) (.ref Ce):=by
    exact hobc▸(PySem.W.Looks.ld hob).andThen .now
   refine(PySem.W.exm_one I5.kIn LT hmf).here ?_
   exact main hg2 hm2 hs2 hdb2 hmt hth
 refine wpAny_mono (hb J E1 (X.pn++pins) xe1 own pas [] s σ H D forth hb1) (fun f s1 h1=>?_) fun e s1 h1=>h1
 cases f with
 |next=>
  obtain⟨σ2,H2,J2,q2⟩:=h1
  show wpAny _ _ (execs [] X.env) _ _ _
  exact wpAny_pure ⟨σ2,H2,back J2,q2⟩
 |brk=>obtain⟨σ2,H2,J2,q2⟩:=h1;exact⟨σ2,H2,back J2,q2⟩
 |cont=>obtain⟨σ2,H2,J2,q2⟩:=h1;exact⟨σ2,H2,back J2,q2⟩
 |ret u=>obtain⟨v,σ2,H2,J2,r2,q2⟩:=h1;exact⟨v,σ2,H2,back J2,r2,q2⟩
end
end L2
namespace HT
open PySem PyProof.Rows
section
open PySem.SeqAt
open PySem.MeetsSeq PySem.MeetsSeq2 PySem.MeetsSeq3
variable {prog:Program} {w:World} {A:Around} {E:Value→Shared→Prop} {s:Shared}
theorem Za6 {t sl:Addr} {items:Array Value} {vl vu:Value} {lo hi:Option Int} {Q:Value→Shared→Prop} (ht:IsTup s.heap t items) (hs:s.heap.IsSliceOf sl vl vu .none) (pl:IsPart vl lo) (pu:IsPart vu hi)
  (hw:sIx items.size 0 lo=0∧sIx items.size items.size hi=items.size) (h:Q (.ref t) s):wpAny (model prog w) A (getItem (.ref t) (.ref sl)) Q E s:=by
 obtain⟨os,hos,hcs,hds⟩:=id hs
 have hTs:s.TypeIs (.ref sl) "slice" :=⟨os,hos,hcs⟩
 unfold getItem
 try with_reducible refine wpAny_holding ?_
 first|refine wpAny_bind (wpAny_pure ?_)|skip
 refine wpAny_bind (wpAny_sequenceKey ht.typeIs (by decide) ?_)
 refine wpAny_bind (wpAny_callSpecial?_slot (name:=Str.ofString "__getitem__") ht.typeIs PyProof.Rows.slot_tuple_getitem
  (wpAny_call_entry PyProof.Rows.slot_tuple_getitem ht.typeIs entry_tuple_getitem ?_ (args_tuple_getitem _ _)))
 show wpAny _ _ (Builtin.Tuple.tupleItemsOf (.ref t) >>= _) _ _ s
 refine wpAny_bind (tupleItemsOf_ ht ?_)
 refine wpAny_bind (wpAny_typeOf hTs ?_)
 rw[if_pos (by decide)]
 refine wpAny_bind (Uw hs pl pu ?_)
 have hyes:((((sIx items.size 0 lo:Nat):Int)==0&&(1:Int)==1&&(sIx items.size items.size hi-sIx items.size 0 lo)==items.size)=true):=by
  rw[hw.1,hw.2]
  simp
 show wpAny _ _ (if(((sIx items.size 0 lo:Nat):Int)==0&&(1:Int)==1&&(sIx items.size items.size hi-sIx items.size 0 lo)==items.size)=true then _ else _) _ _ s
 rw[if_pos hyes]
 unfold Builtin.Tuple.tupleIsExact
 refine wpAny_bind (wpAny_bind (wpAny_typeOf ht.typeIs (wpAny_pure ?_)))
 rw[if_pos (by decide)]
 refine wpAny_bind (wpAny_rule ?_)
 first
  |exact wpAny_pure ⟨_,rfl,wpAny_pure h⟩
  |exact wpAny_bind (wpAny_pure (wpAny_pure ⟨_,rfl,wpAny_pure h⟩))
end
end HT
namespace L2
section
variable {X:Cx} {K:PySem.W.Frag}
open PySem PySem.Spec PyProof.Rows
def Zhf (K:PySem.W.Frag):V→Option Int→Option Int→Hp→VK→Prop:=fun x lo hi H Q=>∃a xs,x= .ref a∧SqT K H a xs∧((Wx xs lo hi=xs→Q (.ref a) H)∧∀p,H p=none→Q (.ref p) (upd H p (.tup (Wx xs lo hi))))
theorem ZhE (e:X.K=K):SlR X (Zhf K):=by
 subst e
 intro pins s σ H x v vl vu lo hi sl Q I rx hs pl pu h
 obtain⟨a,xs,rfl,hx,q1,q2⟩:=h
 by_cases hw:HT.sIx xs.length 0 lo=0∧HT.sIx xs.length xs.length hi=xs.length
 ·cases rx
  obtain⟨its,r,ht,hz⟩:=I.tuple hx
  have hlen:its.toArray.size=xs.length:=by rw[List.size_toArray];exact r.length.symm
  refine⟨"tuple",_,PyProof.Rows.slot_tuple_getitem.lookup,ht.typeIs,?_⟩
  refine HT.Za6 ht hs pl pu (by rw[hlen];exact hw) ⟨.ref a,H,I,rfl,q1 ?_⟩
  unfold Wx
  rw[hw.1,hw.2]
  simp
 ·exact Zf5 pins s σ H _ v vl vu lo hi sl Q I rx hs pl pu ⟨a,xs,rfl,hx,hw,q2⟩
end
namespace Rd
open PySem PySem.Spec PyProof.Rows
theorem ZjB {K:PySem.W.Frag} {H:Hp} {Q:VK} {a:Addr} {xs ys:List V} {lo hi:Option Int} (h:H a=some (.tup xs)) (e:Wx xs lo hi=ys) (main:∀ta H5,Zd H H5→H5 ta=some (.tup ys)→Q (.ref ta) H5):Zhf K (.ref a) lo hi H Q:=
 ⟨a,xs,rfl,.of h,fun z=>main a H (Zd.refl _) (by rw[←e,z];exact h),fun p hp=>main p _ (Zo hp) (by rw[←e];exact Zg)⟩
end Rd
end L2
namespace My
@[irreducible] def G (a b:Int):Int:=((Int.gcd a b:Nat):Int)
theorem Zc9 (n m:Nat):G (n:Int) (m:Int)=((Nat.gcd n m:Nat):Int):=by
 unfold G
 rfl
theorem ZiC {a b:Int} (ha:0≤a) (hb:b=0):G a b=a:=by
 subst hb
 obtain⟨n,rfl⟩:=Int.eq_ofNat_of_zero_le ha
 have:=Zc9 n 0
 rw[Nat.gcd_zero_right] at this
 exact this
theorem Zh3 {a b:Int} (ha:0≤a) (hb:0<b):G b (Int.fmod a b)=G a b:=by
 obtain⟨n,rfl⟩:=Int.eq_ofNat_of_zero_le ha
 obtain⟨m,rfl⟩:=Int.eq_ofNat_of_zero_le (Int.le_of_lt hb)
 rw[Int.fmod_eq_emod_of_nonneg _ (Int.natCast_nonneg m),←Int.natCast_emod,Zc9,Zc9,Nat.gcd_comm n m,Nat.gcd_rec m n,Nat.gcd_comm]
structure S (k:Nat) (x:Int):Prop where
 lo:0≤x
 hi:x.toNat<2 ^ (2048*2 ^ k)
theorem Zh2 {j k:Nat} (h:j≤k):2 ^ (2048*2 ^ j)≤2 ^ (2048*2 ^ k):=
 Nat.pow_le_pow_right (by decide) (Nat.mul_le_mul_left _ (Nat.pow_le_pow_right (by decide) h))
theorem S.mono {j k:Nat} {x:Int} (h:S j x) (hj:j≤k):S k x:=⟨h.lo,Nat.lt_of_lt_of_le h.hi (Zh2 hj)⟩
end My
namespace MM
structure Sys where
 n:Nat
 taker:Nat→Int
 giver:Nat→Int
 take:Nat→Nat
 out:Nat→List Int→List Int
def slots (S:Sys) (st:Nat→List Int) (w:Int):List Int:=((List.range S.n).filter fun i=>decide (S.taker i=w)).flatMap fun i=>(st i).take (S.take i)
def step (S:Sys) (st:Nat→List Int) (w:Int):Nat→List Int:=fun i=>
 if i<S.n then(if S.taker i=w then(st i).drop (S.take i) else st i)++(if S.giver i=w then S.out i (slots S st w) else[]) else st i
def ok (S:Sys) (st:Nat→List Int) (w:Int):Prop:=∀i<S.n,S.taker i=w→S.take i≤(st i).length
def run (S:Sys) (st:Nat→List Int):List Int→Nat→List Int
 | []=>st
 |w::ws=>run S (step S st w) ws
def Ok (S:Sys) (st:Nat→List Int):List Int→Prop
 | []=>True
 |w::ws=>ok S st w∧Ok S (step S st w) ws
variable {S:Sys} {st:Nat→List Int}
theorem ZdN:∀{ws:List Int} {st:Nat→List Int} {w:Int},run S st (ws++ [w])=step S (run S st ws) w
 | [],_,_=>rfl
 |_::ws,_,_=>ZdN (ws:=ws)
theorem ZeC:∀{ws:List Int} {st:Nat→List Int} {i:Nat} {w:Int},Ok S st ws→ws[i]? =some w→ok S (run S st (ws.take i)) w
 | [],_,_,_,_,e=>by simp at e
 |x::ws,st,0,w,⟨h,_⟩,e=>by simp at e;subst e;exact h
 |x::ws,st,i+1,w,⟨_,h⟩,e=>ZeC (ws:=ws) (i:=i) h (by simpa using e)
end MM
set_option Elab.async false
set_option linter.all false
set_option maxRecDepth 100000
set_option maxHeartbeats 4000000
local macro_rules| `(tactic|walk_at "mul")=>`(tactic|k_dflt (first|with_reducible assumption|exact L2.Zfv.ok (Or.inr ⟨by omega,by omega⟩)|exact L2.Zfv.ok (Or.inl ⟨by omega,by omega⟩)))
local macro_rules| `(tactic|walk_at "lk")=>`(tactic|first|exact L2.Rd.lk0|exact L2.Rd.lkN|(refine L2.Rd.lk1 (by decide+kernel) ?_;walk_at "lk"))
local macro_rules| `(tactic|walk_at "pf")=>`(tactic|first|exact L2.Rd.pf0|exact L2.Rd.pfN|(apply L2.Rd.pf1;(decide+kernel);walk_at "pf"))
local macro_rules| `(tactic|walk_at "na")=>`(tactic|exact L2.Ve.get (by with_reducible assumption) (by decide+kernel))
local macro_rules| `(tactic|walk_at "cond")=>`(tactic|k_dflt (first|with_reducible assumption|decide|omega|(simp;done)|(simp only[List.length_cons,List.length_nil,List.length_map,List.length_append];omega)))
local macro_rules| `(tactic|walk_at "rdis")=>`(tactic|((with_reducible show ∃x n t b,_=_∧L2.Wj _ _ x t∧_);first|with_reducible apply L2.Rd.ZeJ|with_reducible apply L2.Rd.Zei|with_reducible apply L2.Rd.is_int_str|with_reducible apply L2.Rd.is_int_list|with_reducible apply L2.Rd.is_int_tuple|with_reducible apply L2.Rd.is_int_dict|with_reducible apply L2.Rd.is_bl_int|with_reducible apply L2.Rd.is_bl_bool|with_reducible apply L2.Rd.is_bl_str|with_reducible apply L2.Rd.is_bl_list|with_reducible apply L2.Rd.is_bl_tuple|with_reducible apply L2.Rd.is_bl_dict|with_reducible apply L2.Rd.is_str_int|with_reducible apply L2.Rd.is_str_bool|with_reducible apply L2.Rd.Ze3|with_reducible apply L2.Rd.is_str_list|with_reducible apply L2.Rd.is_str_tuple|with_reducible apply L2.Rd.is_str_dict|with_reducible apply L2.Rd.is_non_int|with_reducible apply L2.Rd.is_non_bool|with_reducible apply L2.Rd.is_non_str|with_reducible apply L2.Rd.is_non_list|with_reducible apply L2.Rd.is_non_tuple|with_reducible apply L2.Rd.is_non_dict|with_reducible refine L2.Rd.is_lst_int (by with_reducible assumption) ?_|with_reducible refine L2.Rd.is_lst_bool (by with_reducible assumption) ?_|with_reducible refine L2.Rd.is_lst_str (by with_reducible assumption) ?_|with_reducible refine L2.Rd.Zej (by with_reducible assumption) ?_|with_reducible refine L2.Rd.is_lst_tuple (by with_reducible assumption) ?_|with_reducible refine L2.Rd.is_lst_dict (by with_reducible assumption) ?_|with_reducible refine L2.Rd.is_tup_int (by with_reducible assumption) ?_|with_reducible refine L2.Rd.is_tup_bool (by with_reducible assumption) ?_|with_reducible refine L2.Rd.is_tup_str (by with_reducible assumption) ?_|with_reducible refine L2.Rd.is_tup_list (by with_reducible assumption) ?_|with_reducible refine L2.Rd.is_tup_tuple (by with_reducible assumption) ?_|with_reducible refine L2.Rd.is_tup_dict (by with_reducible assumption) ?_|with_reducible refine L2.Rd.is_dK_int (by with_reducible assumption) ?_|with_reducible refine L2.Rd.is_dK_bool (by with_reducible assumption) ?_|with_reducible refine L2.Rd.is_dK_str (by with_reducible assumption) ?_|with_reducible refine L2.Rd.is_dK_list (by with_reducible assumption) ?_|with_reducible refine L2.Rd.is_dK_tuple (by with_reducible assumption) ?_|with_reducible refine L2.Rd.is_dK_dict (by with_reducible assumption) ?_))
local macro_rules| `(tactic|walk_at "side")=>`(tactic|k_dflt (first|with_reducible assumption|decide|(dsimp only;decide)|(dsimp only[L2.Zh7];decide)|omega|(dsimp only;omega)))
local macro_rules| `(tactic|walk_at "hp")=>`(tactic|with_reducible (first|assumption|((show L2.SqL _ _ _ _);(first|exact L2.SqL.of (by assumption)|exact L2.ZaP.sq (by assumption)|exact L2.Zd.seq (by assumption) (by assumption)))|((show L2.SqT _ _ _ _);(first|exact L2.SqT.of (by assumption)|exact L2.OffT.sq (by assumption)|exact L2.Zd.seqT (by assumption) (by assumption)))))
local macro_rules| `(tactic|walk_at "rd")=>`(tactic|first
 |with_reducible apply L2.Rd.seq|with_reducible apply L2.Rd.asg|with_reducible apply L2.Rd.ret|with_reducible apply L2.Rd.ifs|with_reducible apply L2.Rd.next|with_reducible apply L2.Rd.drop
 |with_reducible apply L2.Rd.op|with_reducible apply L2.Rd.un|with_reducible apply L2.Rd.ZjU|with_reducible apply L2.Rd.con|((with_reducible show L2.ZeP _ _ _ _);with_reducible refine L2.Rd.var (by k_dflt rfl) ?_)|((with_reducible show L2.Zad _ _ _ _ _);with_reducible refine L2.Rd.Zjt (by k_dflt (dsimp only[L2.start,List.map_cons,List.map_nil,List.cons_append,List.nil_append,List.length_cons,List.length_nil,Nat.reduceAdd,Nat.reduceSub,List.replicate,List.set];(try rfl))) ?_)|with_reducible apply L2.Rd.name
 |with_reducible apply L2.Rd.call|with_reducible apply L2.Rd.cons|with_reducible apply L2.Rd.nil|with_reducible apply L2.Rd.cb|with_reducible apply L2.Rd.tup|with_reducible apply L2.Rd.lst
 |with_reducible apply L2.Rd.Zkd|with_reducible apply L2.Rd.or_|with_reducible apply L2.Rd.ZjR|with_reducible apply L2.Rd.ZjM|with_reducible apply L2.Rd.orV|with_reducible apply L2.Rd.Zkc
 |with_reducible apply L2.Rd.par|with_reducible apply L2.Rd.i0|((with_reducible show L2.rI _ _ _ _ _ _);with_reducible refine L2.Rd.iC (by walk_at "side") ?_)|with_reducible apply L2.Rd.bl|with_reducible apply L2.Rd.two
 |with_reducible apply L2.Rd.ZjL|((with_reducible show L2.rOr L2.Ze2 _ _ _ _ _);with_reducible refine L2.Rd.mulI (by walk_at "mul") ?_)|with_reducible apply L2.Rd.Zj9|with_reducible apply L2.Rd.ZjA|with_reducible apply L2.Rd.eqUS|with_reducible apply L2.Rd.neUS|with_reducible apply L2.Rd.eqUB|with_reducible apply L2.Rd.neUB
 |((with_reducible show L2.rOr _ (L2.rOr L2.Zc8 _) (L2.V.str _) (L2.V.str _) _ _);with_reducible refine L2.Rd.ZiQ (by walk_at "side") ?_)
 |((with_reducible show L2.rIx _ _ _ _ _);with_reducible refine L2.Rd.Zj4 (by walk_at "hp") (by k_dflt rfl) ?_)|((with_reducible show L2.rIx _ _ _ _ _);with_reducible refine L2.Rd.ZhY (by walk_at "hp") (by k_dflt (first|rfl|with_reducible assumption)) ?_)
 |with_reducible apply L2.Rd.un1|((with_reducible show ∃a,L2.V.ref _=L2.V.ref a∧(∃xs,L2.SqL _ _ a xs)∧_);with_reducible refine L2.Rd.Zix (by walk_at "hp") ?_)|((with_reducible show ∃k,[L2.V.int _]=[L2.V.int k]∧_);with_reducible refine L2.Rd.Zi1 (by k_dflt omega) (by k_dflt omega) ?_)|((with_reducible show ∃i j,[L2.V.int _,L2.V.int _]=[L2.V.int i,L2.V.int j]∧_);with_reducible refine L2.Rd.rng2' (by k_dflt omega) ?_)|with_reducible apply L2.Rd.Zkg
 |((with_reducible show ∃x n,_=_∧L2.Zaj _ x _ n∧_);with_reducible refine L2.Rd.Zjl (by walk_at "hp") ?_)|((with_reducible show ∃x n,_=_∧L2.Zaj _ x _ n∧_);with_reducible refine L2.Rd.Zj0 (by walk_at "hp") ?_)|((with_reducible show ∃x n,_=_∧L2.Zaj _ x _ n∧_);with_reducible refine L2.Rd.ZjW (by walk_at "side") ?_)
 |walk_at "rdis"
 |with_reducible apply L2.Rd.ZjV|with_reducible apply L2.Rd.tru|with_reducible apply L2.Rd.Zj3|with_reducible apply L2.Rd.Zj7|with_reducible apply L2.Rd.Zkb
 |with_reducible apply L2.Rd.bm|with_reducible apply L2.Rd.bm0|((with_reducible show L2.tyV _ _ _ _∧_);with_reducible refine L2.Rd.tyl (by with_reducible assumption) ?_)|((with_reducible show L2.rAppend _ _ _ _);with_reducible refine L2.Rd.app (by with_reducible assumption) (by walk_at "side") ?_)
 |with_reducible apply L2.ZdR|with_reducible apply L2.Zdb|with_reducible apply L2.Rd.ZgW|with_reducible apply L2.Rd.Zhh
 |((with_reducible show if decide _=true then _ else _);with_reducible refine L2.Rd.ifP (by walk_at "cond") ?_)|((with_reducible show if decide _=true then _ else _);with_reducible refine L2.Rd.ifN (by walk_at "cond") ?_)|((with_reducible show if(!decide _)=true then _ else _);with_reducible refine L2.Rd.Zju (by walk_at "cond") ?_)|((with_reducible show if(!decide _)=true then _ else _);with_reducible refine L2.Rd.ZjY (by walk_at "cond") ?_)
 |with_reducible apply L2.Rd.sl|with_reducible apply L2.Rd.ZiA|with_reducible apply L2.Rd.ZjO|with_reducible apply L2.Rd.Zjq|((with_reducible show L2.Zfk _ _ _ _ _ _);with_reducible refine L2.Rd.slS (by walk_at "side") ?_)
 |with_reducible apply L2.Rd.ZjK|((with_reducible show ∃a C dx fs v,L2.V.ref _=L2.V.ref a∧_=some (L2.HO.ins C dx fs)∧L2.Cls _ C∧_);with_reducible refine L2.Rd.fld (by with_reducible assumption) (by with_reducible assumption) (by k_dflt (walk_at "na")) (by k_dflt (walk_at "lk")) ?_)
 |((with_reducible show L2.Zdj _ _ _ _ _ _ _ _ _ _ _);with_reducible refine L2.Rd.Zi6 (by k_dflt rfl) ?_)|((with_reducible show L2.tCallJ _ _ _ _ _ _ _ _);with_reducible refine L2.Rd.callJ (by k_dflt rfl) ?_)|((with_reducible show L2.tMakeJ _ _ _ _ _ _ _ _ _);with_reducible refine L2.Rd.makeJ (by k_dflt rfl) ?_)
 |with_reducible apply L2.Rd.ZjI|((with_reducible show L2.rSetL _ _ _ _ _);with_reducible refine L2.Rd.Zj8 (by with_reducible assumption) (by k_dflt omega) (by walk_at "cond") ?_)
 |with_reducible apply L2.Rd.Zjb|((with_reducible show ∃a dx fs,L2.V.ref _=L2.V.ref a∧_∧List.lookup _ fs=none∧_);with_reducible refine L2.Rd.ZjE (by with_reducible assumption) (by k_dflt (walk_at "lk")) ?_)|with_reducible apply L2.Rd.Zje
 |with_reducible apply L2.Rd.ZjX|((with_reducible show ∃a C dx fs,L2.V.ref _=L2.V.ref a∧_=some (L2.HO.ins C dx fs)∧L2.Cls _ C∧_);with_reducible refine L2.Rd.Zjf (by with_reducible (first|assumption|exact L2.Zg)) (by with_reducible assumption) (by k_dflt (walk_at "na")) (by k_dflt (simp only[List.length_cons,List.length_nil];decide)) (by k_dflt (walk_at "pf")) ?_)
 |with_reducible apply L2.Rd.Zi0|with_reducible apply L2.Rd.ZiH|with_reducible apply L2.Rd.Zjm|with_reducible apply L2.Rd.ZjQ|with_reducible apply L2.Rd.Zjp|with_reducible apply L2.Rd.ZjD
 |with_reducible apply L2.Rd.Zjr|((with_reducible show L2.rIn _ _ _ _ _ _);with_reducible refine L2.Rd.inS (by walk_at "hp") ?_)|((with_reducible show L2.rIn _ _ _ _ _ _);with_reducible refine L2.Rd.Zjz (by walk_at "hp") ?_)|((with_reducible show L2.rIn _ _ _ _ _ _);with_reducible refine L2.Rd.inI (by walk_at "hp") ?_)|((with_reducible show L2.rIn _ _ _ _ _ _);with_reducible refine L2.Rd.ninI (by walk_at "hp") ?_)
 |((with_reducible show ∃p bs,[L2.V.ref _]=[L2.V.ref p]∧L2.SqL _ _ p (List.map L2.V.bl bs)∧_);with_reducible refine L2.Rd.Zj5 (by walk_at "hp") ?_)|with_reducible apply L2.Rd.leS|with_reducible apply L2.Rd.Zi5
 |((with_reducible show if(!(_==_))=true then _ else _);first|refine L2.Rd.ZgW ?_|refine L2.Rd.Zhh ?_)|((with_reducible show if(_==_)=true then _ else _);first|refine L2.ZdR ?_|refine L2.Zdb ?_)
 |with_reducible apply L2.Rd.ZhN|with_reducible apply L2.Rd.Zi2|((with_reducible show ∃a,_=_∧(∃xs,L2.SqL _ _ a xs)∧_);with_reducible refine L2.Rd.Zis (by walk_at "hp") ?_)|with_reducible apply L2.Rd.Zj6|with_reducible apply L2.Rd.lset|with_reducible apply L2.Rd.ZjH
 |((with_reducible show L2.rDIn _ _ _ _);first|with_reducible refine L2.Rd.Zjv (by with_reducible assumption) ?_|with_reducible refine L2.Rd.dinI (by with_reducible assumption) ?_)|((with_reducible show L2.rDNotIn _ _ _ _);first|with_reducible refine L2.Rd.dninS (by with_reducible assumption) ?_|with_reducible refine L2.Rd.dninI (by with_reducible assumption) ?_)
 |((with_reducible show L2.rIxD _ _ _ _);first|with_reducible refine L2.Rd.dgetS (by with_reducible assumption) (by with_reducible assumption) ?_|with_reducible refine L2.Rd.dgetI (by with_reducible assumption) (by with_reducible assumption) ?_)
 |((with_reducible show L2.rSetD _ _ _ _ _);first|with_reducible refine L2.Rd.Zji (by with_reducible assumption) (by walk_at "side") ?_|with_reducible refine L2.Rd.dsetI (by with_reducible assumption) (by walk_at "side") ?_)
 |((with_reducible show L2.rLenD _ _ _);with_reducible refine L2.Rd.Zjx (by with_reducible assumption) ?_)|((with_reducible show L2.rListD _ _ _);with_reducible refine L2.Rd.Zjk (by with_reducible assumption) ?_)
 |with_reducible apply L2.Rd.ZjF|with_reducible apply L2.Rd.ipi|((with_reducible show L2.Zcm _ _ _ _ _);with_reducible refine L2.Rd.ixl (by walk_at "hp") (by k_dflt (first|rfl|with_reducible assumption)) ?_)
 |with_reducible apply L2.Rd.tb_|with_reducible apply L2.Rd.ZjN|with_reducible apply L2.Rd.Zj1|with_reducible apply L2.Rd.rng2|with_reducible apply L2.Rd.ZjG|with_reducible apply L2.Rd.Zjs)
local macro_rules| `(tactic|walk_at "rds")=>`(tactic|repeat' (walk_at "rd"))
namespace Nm
open PySem L2
def top (i:Nat):Stmt:=PySem.Challenge.pw_ratehall_k26_mill_turns.main.body.getD i (.Pass ⟨0,0,0,0⟩)
abbrev VS:Stmt:=top 40
abbrev VQ:Stmt:=top 46
abbrev Wg:Stmt:=top 47
abbrev W2:Stmt:=top 48
abbrev VX:Stmt:=top 33
abbrev VL:Stmt:=ZY (top 37) 1
abbrev Ul:Stmt:=top 13
abbrev UJ:Stmt:=top 14
abbrev Vk:Stmt:=top 38
abbrev Wb:Stmt:=top 15
abbrev Wu:Stmt:=ZY (top 37) 11
abbrev Ue:Stmt:=ZY (top 37) 3
abbrev VP:Stmt:=ZY (top 37) 2
abbrev VO:Stmt:=ZY (top 37) 0
abbrev Zaa:Stmt:=top 45
abbrev Vx:Stmt:=ZY (top 37) 5
abbrev VV:Stmt:=top 56
abbrev WJ:Stmt:=top 24
abbrev UO:Stmt:=top 49
abbrev YM:Stmt:=top 54
abbrev UL:Stmt:=top 41
abbrev W3:Stmt:=ZY (top 17) 4
abbrev Vv:Stmt:=ZY (top 30) 3
abbrev WM:Stmt:=ZY (top 29) 3
abbrev Zab:Stmt:=top 55
abbrev Um:Stmt:=top 42
abbrev VT:Stmt:=top 43
abbrev Us:Stmt:=top 20
abbrev Wf:Stmt:=ZY (top 17) 5
abbrev Uk:Stmt:=ZY (top 17) 3
abbrev VB:Stmt:=ZY (top 17) 2
abbrev We:Stmt:=ZY (top 30) 2
abbrev Wv:Stmt:=ZY (top 30) 1
abbrev Wl:Stmt:=ZY (top 29) 4
abbrev UI:Stmt:=ZY (top 29) 2
abbrev VN:Stmt:=ZY (top 29) 1
abbrev Uj:Stmt:=top 53
abbrev Vy:Stmt:=top 50
abbrev UF:Stmt:=top 52
abbrev Za3:Stmt:=top 51
abbrev Wh:Stmt:=ZY (top 37) 10
abbrev Wr:Stmt:=ZY (top 37) 12
abbrev WR:Stmt:=ZY (top 37) 8
abbrev Vn:Stmt:=top 19
abbrev Vo:Stmt:=top 27
abbrev Y5:Stmt:=ZY (top 37) 9
abbrev Vw:Stmt:=top 18
abbrev Yt:Stmt:=top 26
abbrev Vz:Stmt:=top 25
abbrev Vj:Stmt:=ZY (top 37) 7
abbrev W0:Stmt:=top 22
abbrev Wy:Stmt:=top 28
abbrev YV:Stmt:=ZY (top 17) 0
abbrev VU:Stmt:=ZY (top 30) 0
abbrev WX:Stmt:=ZY (top 29) 0
abbrev UK:Stmt:=top 57
theorem Uz:Zr ["_law_script","_law_k","_law_lap","_law_cell"] ["_law_script","_law_k"] (Zh VS):=⟨rfl,rfl,rfl,by decide+kernel,rfl,by decide+kernel,by decide+kernel⟩
theorem Wk:Zr ["_law_cell","_law_slots","_law_great","_law_mix","_law_constant","_law_terms","_law_k"] ["_law_cell","_law_slots","_law_great"] (Zh VQ):=⟨rfl,rfl,rfl,by decide+kernel,rfl,by decide+kernel,by decide+kernel⟩
theorem Yv:Zr ["_law_script","_law_at","_law_belts","_law_many","_law_great","_law_forms","_law_work","_law_slots","_law_given","_law_some","_law_k"] ["_law_script","_law_at","_law_belts","_law_many","_law_great"] (Zh Wg):=⟨rfl,rfl,rfl,by decide+kernel,rfl,by decide+kernel,by decide+kernel⟩
theorem YO:Zr ["_law_script","_law_at","_law_belts","_law_pieces","_law_belt","_law_some","_law_k"] ["_law_script","_law_at","_law_belts"] (Zh W2):=⟨rfl,rfl,rfl,by decide+kernel,rfl,by decide+kernel,by decide+kernel⟩
theorem Zfj:Zr ["thing"] ["thing"] (Zh VX):=⟨rfl,rfl,rfl,by decide+kernel,rfl,by decide+kernel,by decide+kernel⟩
theorem ZaT:Zr ["self","name","number"] ["self","name"] (Zh VL):=⟨rfl,rfl,rfl,by decide+kernel,rfl,by decide+kernel,by decide+kernel⟩
theorem Zea:Zr ["thing"] ["thing"] (Zh Ul):=⟨rfl,rfl,rfl,by decide+kernel,rfl,by decide+kernel,by decide+kernel⟩
theorem ZeW:Zr ["thing","least"] ["thing","least"] (Zh UJ):=⟨rfl,rfl,rfl,by decide+kernel,rfl,by decide+kernel,by decide+kernel⟩
theorem ZcU:Zr ["start"] ["start"] (Zh Vk):=⟨rfl,rfl,rfl,by decide+kernel,rfl,by decide+kernel,by decide+kernel⟩
theorem ZaO:Zr ["thing","bound"] ["thing","bound"] (Zh Wb):=⟨rfl,rfl,rfl,by decide+kernel,rfl,by decide+kernel,by decide+kernel⟩
theorem Za8:Zr ["self","work"] ["self","work"] (Zh Wu):=⟨rfl,rfl,rfl,by decide+kernel,rfl,by decide+kernel,by decide+kernel⟩
theorem Zee:Zr ["self","row"] ["self","row"] (Zh Ue):=⟨rfl,rfl,rfl,by decide+kernel,rfl,by decide+kernel,by decide+kernel⟩
theorem ZdO:Zr ["self","giver","taker","give","take","start"] ["self","giver","taker","give","take","start"] (Zh VP):=⟨rfl,rfl,rfl,by decide+kernel,rfl,by decide+kernel,by decide+kernel⟩
theorem ZdJ:Zr ["self"] ["self"] (Zh VO):=⟨rfl,rfl,rfl,by decide+kernel,rfl,by decide+kernel,by decide+kernel⟩
theorem Wo:Zr ["_law_names_here","_law_belts","_law_hall","_law_name","_law_giver","_law_taker","_law_give","_law_take","_law_start"] ["_law_names_here","_law_belts"] (Zh Zaa):=⟨rfl,rfl,rfl,by decide+kernel,rfl,by decide+kernel,by decide+kernel⟩
theorem ZcQ:Zr ["self"] ["self"] (Zh Vx):=⟨rfl,rfl,rfl,by decide+kernel,rfl,by decide+kernel,by decide+kernel⟩
theorem Zff:Zr ["_law_hall"] ["_law_hall"] (Zh VV):=⟨rfl,rfl,rfl,by decide+kernel,rfl,by decide+kernel,by decide+kernel⟩
theorem ZcS:Zr ["form","pieces"] ["form","pieces"] (Zh WJ):=⟨rfl,rfl,rfl,by decide+kernel,rfl,by decide+kernel,by decide+kernel⟩
theorem Vt:Zr ["_law_form","_law_slots","_law_come","_law_slot","_law_factor"] ["_law_form","_law_slots"] (Zh UO):=⟨rfl,rfl,rfl,by decide+kernel,rfl,by decide+kernel,by decide+kernel⟩
theorem Yp:Zr ["_law_script","_law_belts","_law_forms","_law_work","_law_some","_law_many","_law_slots","_law_form","_law_found"] ["_law_script","_law_belts","_law_forms"] (Zh YM):=⟨rfl,rfl,rfl,by decide+kernel,rfl,by decide+kernel,by decide+kernel⟩
theorem Yq:Zr ["_law_cell","_law_many","_law_letters","_law_long","_law_at","_law_some","_law_k","_law_word","_law_place","_law_turn"] ["_law_cell","_law_many"] (Zh UL):=⟨rfl,rfl,rfl,by decide+kernel,rfl,by decide+kernel,by decide+kernel⟩
theorem Zcd:Zr ["self"] ["self"] (Zh W3):=⟨rfl,rfl,rfl,by decide+kernel,rfl,by decide+kernel,by decide+kernel⟩
theorem ZcV:Zr ["self"] ["self"] (Zh Vv):=⟨rfl,rfl,rfl,by decide+kernel,rfl,by decide+kernel,by decide+kernel⟩
theorem ZcP:Zr ["self"] ["self"] (Zh WM):=⟨rfl,rfl,rfl,by decide+kernel,rfl,by decide+kernel,by decide+kernel⟩
theorem ZaG:Zr ["_law_mill","_law_spoilt","_law_row"] ["_law_mill"] (Zh Zab):=⟨rfl,rfl,rfl,by decide+kernel,rfl,by decide+kernel,by decide+kernel⟩
theorem VR:Zr ["_law_one","_law_other","_law_rest"] ["_law_one","_law_other"] (Zh Um):=⟨rfl,rfl,rfl,by decide+kernel,rfl,by decide+kernel,by decide+kernel⟩
theorem Ym:Zr ["_law_cell","_law_rates","_law_top","_law_ample","_law_mix","_law_giver","_law_taker","_law_both","_law_times_by","_law_give","_law_take","_law_start"] ["_law_cell","_law_rates","_law_top","_law_ample"] (Zh VT):=⟨rfl,rfl,rfl,by decide+kernel,rfl,by decide+kernel,by decide+kernel⟩
theorem ZfO:Zr ["heaps","takes"] ["heaps","takes"] (Zh Us):=⟨rfl,rfl,rfl,by decide+kernel,rfl,by decide+kernel,by decide+kernel⟩
theorem ZaK:Zr ["self","work"] ["self","work"] (Zh Wf):=⟨rfl,rfl,rfl,by decide+kernel,rfl,by decide+kernel,by decide+kernel⟩
theorem Y9:Zr ["self","row","heaps","work","belt","take","give"] ["self","row"] (Zh Uk):=⟨rfl,rfl,rfl,by decide+kernel,rfl,by decide+kernel,by decide+kernel⟩
theorem Zc2:Zr ["self","work"] ["self","work"] (Zh VB):=⟨rfl,rfl,rfl,by decide+kernel,rfl,by decide+kernel,by decide+kernel⟩
theorem ZaC:Zr ["self","pieces"] ["self","pieces"] (Zh We):=⟨rfl,rfl,rfl,by decide+kernel,rfl,by decide+kernel,by decide+kernel⟩
theorem Ua:Zr ["self","many","taken"] ["self","many"] (Zh Wv):=⟨rfl,rfl,rfl,by decide+kernel,rfl,by decide+kernel,by decide+kernel⟩
theorem Z9:Zr ["self","work","slots","belt","take","given","done","give"] ["self","work"] (Zh Wl):=⟨rfl,rfl,rfl,by decide+kernel,rfl,by decide+kernel,by decide+kernel⟩
theorem ZbI:Zr ["self","row","work"] ["self","row"] (Zh UI):=⟨rfl,rfl,rfl,by decide+kernel,rfl,by decide+kernel,by decide+kernel⟩
theorem ZdP:Zr ["self","work"] ["self","work"] (Zh VN):=⟨rfl,rfl,rfl,by decide+kernel,rfl,by decide+kernel,by decide+kernel⟩
theorem WZ:Zr ["_law_mill","_law_work","_law_kind","e"] ["_law_mill","_law_work"] (Zh Uj):=⟨rfl,rfl,rfl,by decide+kernel,rfl,by decide+kernel,by decide+kernel⟩
theorem YA:Zr ["_law_belts","_law_forms","_law_loads_here","_law_work","_law_slots","_law_k","_law_belt","_law_at"] ["_law_belts","_law_forms","_law_loads_here","_law_work"] (Zh Vy):=⟨rfl,rfl,rfl,by decide+kernel,rfl,by decide+kernel,by decide+kernel⟩
theorem Zai:Zr ["_law_found","_law_due","_law_row","_law_piece"] ["_law_found","_law_due"] (Zh UF):=⟨rfl,rfl,rfl,by decide+kernel,rfl,by decide+kernel,by decide+kernel⟩
theorem Zbw:Zr ["_law_belts","_law_loads_here","_law_work","_law_k","_law_belt"] ["_law_belts","_law_loads_here","_law_work"] (Zh Za3):=⟨rfl,rfl,rfl,by decide+kernel,rfl,by decide+kernel,by decide+kernel⟩
theorem ZbM:Zr ["self","work"] ["self","work"] (Zh Wh):=⟨rfl,rfl,rfl,by decide+kernel,rfl,by decide+kernel,by decide+kernel⟩
theorem Za5:Zr ["self","belt"] ["self","belt"] (Zh Wr):=⟨rfl,rfl,rfl,by decide+kernel,rfl,by decide+kernel,by decide+kernel⟩
theorem ZbS:Zr ["self","belt"] ["self","belt"] (Zh WR):=⟨rfl,rfl,rfl,by decide+kernel,rfl,by decide+kernel,by decide+kernel⟩
theorem Zec:Zr ["hall","work"] ["hall","work"] (Zh Vn):=⟨rfl,rfl,rfl,by decide+kernel,rfl,by decide+kernel,by decide+kernel⟩
theorem Zel:Zr ["hall","work"] ["hall","work"] (Zh Vo):=⟨rfl,rfl,rfl,by decide+kernel,rfl,by decide+kernel,by decide+kernel⟩
theorem Zbr:Zr ["self","work"] ["self","work"] (Zh Y5):=⟨rfl,rfl,rfl,by decide+kernel,rfl,by decide+kernel,by decide+kernel⟩
theorem Zd7:Zr ["hall","work"] ["hall","work"] (Zh Vw):=⟨rfl,rfl,rfl,by decide+kernel,rfl,by decide+kernel,by decide+kernel⟩
theorem WI:Zr ["hall","work","forms","slots","form"] ["hall","work","forms"] (Zh Yt):=⟨rfl,rfl,rfl,by decide+kernel,rfl,by decide+kernel,by decide+kernel⟩
theorem V4:Zr ["hall","forms","work","work_forms"] ["hall","forms"] (Zh Vz):=⟨rfl,rfl,rfl,by decide+kernel,rfl,by decide+kernel,by decide+kernel⟩
theorem ZcX:Zr ["self"] ["self"] (Zh Vj):=⟨rfl,rfl,rfl,by decide+kernel,rfl,by decide+kernel,by decide+kernel⟩
theorem ZdA:Zr ["hall"] ["hall"] (Zh W0):=⟨rfl,rfl,rfl,by decide+kernel,rfl,by decide+kernel,by decide+kernel⟩
theorem UV:Zr ["hall","pieces","starts"] ["hall","pieces"] (Zh Wy):=⟨rfl,rfl,rfl,by decide+kernel,rfl,by decide+kernel,by decide+kernel⟩
theorem Zar:Zr ["self","hall","works"] ["self","hall"] (Zh YV):=⟨rfl,rfl,rfl,by decide+kernel,rfl,by decide+kernel,by decide+kernel⟩
theorem ZdK:Zr ["self","pieces"] ["self","pieces"] (Zh VU):=⟨rfl,rfl,rfl,by decide+kernel,rfl,by decide+kernel,by decide+kernel⟩
theorem ZdD:Zr ["self","hall","forms","pieces"] ["self","hall","forms","pieces"] (Zh WX):=⟨rfl,rfl,rfl,by decide+kernel,rfl,by decide+kernel,by decide+kernel⟩
theorem Yd:Zr ["_law_script","_law_first","_law_many","_law_rates","_law_belts","_law_k","_law_forms","_law_loads_here","_law_hall","_law_handed","_law_given","_law_mill","_law_row","_law_told_here","_law_before","_law_cell","_law_work","_law_due"] ["_law_script"] (Zh UK):=⟨rfl,rfl,rfl,by decide+kernel,rfl,by decide+kernel,by decide+kernel⟩
set_option genInjectivity false in
set_option genSizeOf false in
structure Tp (K:PySem.W.Frag) (mg:Str→Option Value) where
 f_l_cell_at:Addr
 d_l_cell_at:FuncData
 F_l_cell_at:Fun K "_law_cell_at" "_law_cell_at" VS f_l_cell_at d_l_cell_at
 b_l_cell_at:Zv K d_l_cell_at ["_law_script","_law_k"] []
 m_l_cell_at:mg "_law_cell_at" =some (.ref f_l_cell_at)
 f_l_form_by:Addr
 d_l_form_by:FuncData
 F_l_form_by:Fun K "_law_form_by" "_law_form_by" VQ f_l_form_by d_l_form_by
 b_l_form_by:Zv K d_l_form_by ["_law_cell","_law_slots","_law_great"] []
 m_l_form_by:mg "_law_form_by" =some (.ref f_l_form_by)
 f_l_forms_by:Addr
 d_l_forms_by:FuncData
 F_l_forms_by:Fun K "_law_forms_by" "_law_forms_by" Wg f_l_forms_by d_l_forms_by
 b_l_forms_by:Zv K d_l_forms_by ["_law_script","_law_at","_law_belts","_law_many","_law_great"] []
 m_l_forms_by:mg "_law_forms_by" =some (.ref f_l_forms_by)
 f_l_pieces_by:Addr
 d_l_pieces_by:FuncData
 F_l_pieces_by:Fun K "_law_pieces_by" "_law_pieces_by" W2 f_l_pieces_by d_l_pieces_by
 b_l_pieces_by:Zv K d_l_pieces_by ["_law_script","_law_at","_law_belts"] []
 m_l_pieces_by:mg "_law_pieces_by" =some (.ref f_l_pieces_by)
 f_is_name:Addr
 d_is_name:FuncData
 F_is_name:Fun K "is_name" "is_name" VX f_is_name d_is_name
 b_is_name:Zv K d_is_name ["thing"] []
 m_is_name:mg "is_name" =some (.ref f_is_name)
 f_Hall_work:Addr
 d_Hall_work:FuncData
 F_Hall_work:Fun K "work" "Hall.work" VL f_Hall_work d_Hall_work
 b_Hall_work:Zv K d_Hall_work ["self","name"] []
 f_is_whole:Addr
 d_is_whole:FuncData
 F_is_whole:Fun K "is_whole" "is_whole" Ul f_is_whole d_is_whole
 b_is_whole:Zv K d_is_whole ["thing"] []
 m_is_whole:mg "is_whole" =some (.ref f_is_whole)
 f_is_from:Addr
 d_is_from:FuncData
 F_is_from:Fun K "is_from" "is_from" UJ f_is_from d_is_from
 b_is_from:Zv K d_is_from ["thing","least"] []
 m_is_from:mg "is_from" =some (.ref f_is_from)
 f_need_start:Addr
 d_need_start:FuncData
 F_need_start:Fun K "need_start" "need_start" Vk f_need_start d_need_start
 b_need_start:Zv K d_need_start ["start"] []
 m_need_start:mg "need_start" =some (.ref f_need_start)
 f_is_number_below:Addr
 d_is_number_below:FuncData
 F_is_number_below:Fun K "is_number_below" "is_number_below" Wb f_is_number_below d_is_number_below
 b_is_number_below:Zv K d_is_number_below ["thing","bound"] []
 m_is_number_below:mg "is_number_below" =some (.ref f_is_number_below)
 f_Hall_need_work:Addr
 d_Hall_need_work:FuncData
 F_Hall_need_work:Fun K "need_work" "Hall.need_work" Wu f_Hall_need_work d_Hall_need_work
 b_Hall_need_work:Zv K d_Hall_need_work ["self","work"] []
 f_Hall_lay:Addr
 d_Hall_lay:FuncData
 F_Hall_lay:Fun K "lay" "Hall.lay" Ue f_Hall_lay d_Hall_lay
 b_Hall_lay:Zv K d_Hall_lay ["self","row"] []
 f_Hall_belt:Addr
 d_Hall_belt:FuncData
 dT_Hall_belt:Addr
 dk0_Hall_belt:Tok
 F_Hall_belt:ZeQ K "belt" "Hall.belt" VP dT_Hall_belt f_Hall_belt d_Hall_belt
 b_Hall_belt:Zv K d_Hall_belt ["self","giver","taker","give","take","start"] []
 b1_Hall_belt:Zv K d_Hall_belt ["self","giver","taker","give","take","start"] [.int 0 dk0_Hall_belt]
 v1_Hall_belt:Zw [.int 0] [.int 0 dk0_Hall_belt]
 f_Hall_init:Addr
 d_Hall_init:FuncData
 F_Hall_init:Fun K "__init__" "Hall.__init__" VO f_Hall_init d_Hall_init
 b_Hall_init:Zv K d_Hall_init ["self"] []
 f_l_made:Addr
 d_l_made:FuncData
 F_l_made:Fun K "_law_made" "_law_made" Zaa f_l_made d_l_made
 b_l_made:Zv K d_l_made ["_law_names_here","_law_belts"] []
 m_l_made:mg "_law_made" =some (.ref f_l_made)
 f_Hall_names:Addr
 d_Hall_names:FuncData
 F_Hall_names:Fun K "names" "Hall.names" Vx f_Hall_names d_Hall_names
 b_Hall_names:Zv K d_Hall_names ["self"] []
 f_l_grown:Addr
 d_l_grown:FuncData
 F_l_grown:Fun K "_law_grown" "_law_grown" VV f_l_grown d_l_grown
 b_l_grown:Zv K d_l_grown ["_law_hall"] []
 m_l_grown:mg "_law_grown" =some (.ref f_l_grown)
 f_form_value:Addr
 d_form_value:FuncData
 F_form_value:Fun K "form_value" "form_value" WJ f_form_value d_form_value
 b_form_value:Zv K d_form_value ["form","pieces"] []
 m_form_value:mg "form_value" =some (.ref f_form_value)
 f_l_worth:Addr
 d_l_worth:FuncData
 F_l_worth:Fun K "_law_worth" "_law_worth" UO f_l_worth d_l_worth
 b_l_worth:Zv K d_l_worth ["_law_form","_law_slots"] []
 m_l_worth:mg "_law_worth" =some (.ref f_l_worth)
 f_l_forms_good:Addr
 d_l_forms_good:FuncData
 F_l_forms_good:Fun K "_law_forms_good" "_law_forms_good" YM f_l_forms_good d_l_forms_good
 b_l_forms_good:Zv K d_l_forms_good ["_law_script","_law_belts","_law_forms"] []
 m_l_forms_good:mg "_law_forms_good" =some (.ref f_l_forms_good)
 f_l_names:Addr
 d_l_names:FuncData
 F_l_names:Fun K "_law_names" "_law_names" UL f_l_names d_l_names
 b_l_names:Zv K d_l_names ["_law_cell","_law_many"] []
 m_l_names:mg "_law_names" =some (.ref f_l_names)
 f_Floor_lying:Addr
 d_Floor_lying:FuncData
 F_Floor_lying:Fun K "lying" "Floor.lying" W3 f_Floor_lying d_Floor_lying
 b_Floor_lying:Zv K d_Floor_lying ["self"] []
 f_Lane_lying:Addr
 d_Lane_lying:FuncData
 F_Lane_lying:Fun K "lying" "Lane.lying" Vv f_Lane_lying d_Lane_lying
 b_Lane_lying:Zv K d_Lane_lying ["self"] []
 f_Mill_lying:Addr
 d_Mill_lying:FuncData
 F_Mill_lying:Fun K "lying" "Mill.lying" WM f_Mill_lying d_Mill_lying
 b_Mill_lying:Zv K d_Mill_lying ["self"] []
 f_l_told:Addr
 d_l_told:FuncData
 F_l_told:Fun K "_law_told" "_law_told" Zab f_l_told d_l_told
 b_l_told:Zv K d_l_told ["_law_mill"] []
 m_l_told:mg "_law_told" =some (.ref f_l_told)
 f_l_common:Addr
 d_l_common:FuncData
 F_l_common:Fun K "_law_common" "_law_common" Um f_l_common d_l_common
 b_l_common:Zv K d_l_common ["_law_one","_law_other"] []
 m_l_common:mg "_law_common" =some (.ref f_l_common)
 f_l_belt_by:Addr
 d_l_belt_by:FuncData
 F_l_belt_by:Fun K "_law_belt_by" "_law_belt_by" VT f_l_belt_by d_l_belt_by
 b_l_belt_by:Zv K d_l_belt_by ["_law_cell","_law_rates","_law_top","_law_ample"] []
 m_l_belt_by:mg "_law_belt_by" =some (.ref f_l_belt_by)
 f_enough:Addr
 d_enough:FuncData
 F_enough:Fun K "enough" "enough" Us f_enough d_enough
 b_enough:Zv K d_enough ["heaps","takes"] []
 m_enough:mg "enough" =some (.ref f_enough)
 f_Floor_need_work:Addr
 d_Floor_need_work:FuncData
 F_Floor_need_work:Fun K "need_work" "Floor.need_work" Wf f_Floor_need_work d_Floor_need_work
 b_Floor_need_work:Zv K d_Floor_need_work ["self","work"] []
 f_Floor_go:Addr
 d_Floor_go:FuncData
 F_Floor_go:Fun K "go" "Floor.go" Uk f_Floor_go d_Floor_go
 b_Floor_go:Zv K d_Floor_go ["self","row"] []
 f_Floor_turn:Addr
 d_Floor_turn:FuncData
 F_Floor_turn:Fun K "turn" "Floor.turn" VB f_Floor_turn d_Floor_turn
 b_Floor_turn:Zv K d_Floor_turn ["self","work"] []
 f_Lane_lay_behind:Addr
 d_Lane_lay_behind:FuncData
 F_Lane_lay_behind:Fun K "lay_behind" "Lane.lay_behind" We f_Lane_lay_behind d_Lane_lay_behind
 b_Lane_lay_behind:Zv K d_Lane_lay_behind ["self","pieces"] []
 f_Lane_drawn_off:Addr
 d_Lane_drawn_off:FuncData
 F_Lane_drawn_off:Fun K "drawn_off" "Lane.drawn_off" Wv f_Lane_drawn_off d_Lane_drawn_off
 b_Lane_drawn_off:Zv K d_Lane_drawn_off ["self","many"] []
 f_Mill_pass_on:Addr
 d_Mill_pass_on:FuncData
 F_Mill_pass_on:Fun K "pass_on" "Mill.pass_on" Wl f_Mill_pass_on d_Mill_pass_on
 b_Mill_pass_on:Zv K d_Mill_pass_on ["self","work"] []
 f_Mill_go:Addr
 d_Mill_go:FuncData
 F_Mill_go:Fun K "go" "Mill.go" UI f_Mill_go d_Mill_go
 b_Mill_go:Zv K d_Mill_go ["self","row"] []
 f_Mill_turn:Addr
 d_Mill_turn:FuncData
 F_Mill_turn:Fun K "turn" "Mill.turn" VN f_Mill_turn d_Mill_turn
 b_Mill_turn:Zv K d_Mill_turn ["self","work"] []
 f_l_turned:Addr
 d_l_turned:FuncData
 F_l_turned:Fun K "_law_turned" "_law_turned" Uj f_l_turned d_l_turned
 b_l_turned:Zv K d_l_turned ["_law_mill","_law_work"] []
 m_l_turned:mg "_law_turned" =some (.ref f_l_turned)
 f_l_milled:Addr
 d_l_milled:FuncData
 F_l_milled:Fun K "_law_milled" "_law_milled" Vy f_l_milled d_l_milled
 b_l_milled:Zv K d_l_milled ["_law_belts","_law_forms","_law_loads_here","_law_work"] []
 m_l_milled:mg "_law_milled" =some (.ref f_l_milled)
 f_l_loads:Addr
 d_l_loads:FuncData
 F_l_loads:Fun K "_law_loads" "_law_loads" UF f_l_loads d_l_loads
 b_l_loads:Zv K d_l_loads ["_law_found","_law_due"] []
 m_l_loads:mg "_law_loads" =some (.ref f_l_loads)
 f_l_can:Addr
 d_l_can:FuncData
 F_l_can:Fun K "_law_can" "_law_can" Za3 f_l_can d_l_can
 b_l_can:Zv K d_l_can ["_law_belts","_law_loads_here","_law_work"] []
 m_l_can:mg "_law_can" =some (.ref f_l_can)
 f_Hall_leaving:Addr
 d_Hall_leaving:FuncData
 F_Hall_leaving:Fun K "leaving" "Hall.leaving" Wh f_Hall_leaving d_Hall_leaving
 b_Hall_leaving:Zv K d_Hall_leaving ["self","work"] []
 f_Hall_need_belt:Addr
 d_Hall_need_belt:FuncData
 F_Hall_need_belt:Fun K "need_belt" "Hall.need_belt" Wr f_Hall_need_belt d_Hall_need_belt
 b_Hall_need_belt:Zv K d_Hall_need_belt ["self","belt"] []
 f_Hall_belt_at:Addr
 d_Hall_belt_at:FuncData
 F_Hall_belt_at:Fun K "belt_at" "Hall.belt_at" WR f_Hall_belt_at d_Hall_belt_at
 b_Hall_belt_at:Zv K d_Hall_belt_at ["self","belt"] []
 f_gives_of:Addr
 d_gives_of:FuncData
 F_gives_of:Fun K "gives_of" "gives_of" Vn f_gives_of d_gives_of
 b_gives_of:Zv K d_gives_of ["hall","work"] []
 m_gives_of:mg "gives_of" =some (.ref f_gives_of)
 f_given_by:Addr
 d_given_by:FuncData
 F_given_by:Fun K "given_by" "given_by" Vo f_given_by d_given_by
 b_given_by:Zv K d_given_by ["hall","work"] []
 m_given_by:mg "given_by" =some (.ref f_given_by)
 f_Hall_entering:Addr
 d_Hall_entering:FuncData
 F_Hall_entering:Fun K "entering" "Hall.entering" Y5 f_Hall_entering d_Hall_entering
 b_Hall_entering:Zv K d_Hall_entering ["self","work"] []
 f_takes_of:Addr
 d_takes_of:FuncData
 F_takes_of:Fun K "takes_of" "takes_of" Vw f_takes_of d_takes_of
 b_takes_of:Zv K d_takes_of ["hall","work"] []
 m_takes_of:mg "takes_of" =some (.ref f_takes_of)
 f_need_work_forms:Addr
 d_need_work_forms:FuncData
 F_need_work_forms:Fun K "need_work_forms" "need_work_forms" Yt f_need_work_forms d_need_work_forms
 b_need_work_forms:Zv K d_need_work_forms ["hall","work","forms"] []
 m_need_work_forms:mg "need_work_forms" =some (.ref f_need_work_forms)
 f_need_forms:Addr
 d_need_forms:FuncData
 F_need_forms:Fun K "need_forms" "need_forms" Vz f_need_forms d_need_forms
 b_need_forms:Zv K d_need_forms ["hall","forms"] []
 m_need_forms:mg "need_forms" =some (.ref f_need_forms)
 f_Hall_belts:Addr
 d_Hall_belts:FuncData
 F_Hall_belts:Fun K "belts" "Hall.belts" Vj f_Hall_belts d_Hall_belts
 b_Hall_belts:Zv K d_Hall_belts ["self"] []
 f_starts_of:Addr
 d_starts_of:FuncData
 F_starts_of:Fun K "starts_of" "starts_of" W0 f_starts_of d_starts_of
 b_starts_of:Zv K d_starts_of ["hall"] []
 m_starts_of:mg "starts_of" =some (.ref f_starts_of)
 f_need_pieces:Addr
 d_need_pieces:FuncData
 F_need_pieces:Fun K "need_pieces" "need_pieces" Wy f_need_pieces d_need_pieces
 b_need_pieces:Zv K d_need_pieces ["hall","pieces"] []
 m_need_pieces:mg "need_pieces" =some (.ref f_need_pieces)
 f_Floor_init:Addr
 d_Floor_init:FuncData
 F_Floor_init:Fun K "__init__" "Floor.__init__" YV f_Floor_init d_Floor_init
 b_Floor_init:Zv K d_Floor_init ["self","hall"] []
 f_Lane_init:Addr
 d_Lane_init:FuncData
 F_Lane_init:Fun K "__init__" "Lane.__init__" VU f_Lane_init d_Lane_init
 b_Lane_init:Zv K d_Lane_init ["self","pieces"] []
 f_Mill_init:Addr
 d_Mill_init:FuncData
 F_Mill_init:Fun K "__init__" "Mill.__init__" WX f_Mill_init d_Mill_init
 b_Mill_init:Zv K d_Mill_init ["self","hall","forms","pieces"] []
 f_law:Addr
 d_law:FuncData
 F_law:Fun K "law" "law" UK f_law d_law
 b_law:Zv K d_law ["_law_script"] []
 m_law:mg "law" =some (.ref f_law)
 C_Floor:Addr
 cl_Floor:Cls K C_Floor
 g_Floor:mg "Floor" =some (.ref C_Floor)
 na_Floor:Ve K C_Floor ["takes","gives","heaps"]
 M_Floor_lying:YE K C_Floor "lying" f_Floor_lying
 M_Floor_need_work:YE K C_Floor "need_work" f_Floor_need_work
 M_Floor_go:YE K C_Floor "go" f_Floor_go
 M_Floor_turn:YE K C_Floor "turn" f_Floor_turn
 mk_Floor:Mk K C_Floor f_Floor_init
 C_Mill:Addr
 cl_Mill:Cls K C_Mill
 g_Mill:mg "Mill" =some (.ref C_Mill)
 na_Mill:Ve K C_Mill ["floor","forms","lanes"]
 M_Mill_lying:YE K C_Mill "lying" f_Mill_lying
 M_Mill_pass_on:YE K C_Mill "pass_on" f_Mill_pass_on
 M_Mill_go:YE K C_Mill "go" f_Mill_go
 M_Mill_turn:YE K C_Mill "turn" f_Mill_turn
 mk_Mill:Mk K C_Mill f_Mill_init
 C_Lane:Addr
 cl_Lane:Cls K C_Lane
 g_Lane:mg "Lane" =some (.ref C_Lane)
 na_Lane:Ve K C_Lane ["laid","gone"]
 M_Lane_lying:YE K C_Lane "lying" f_Lane_lying
 M_Lane_lay_behind:YE K C_Lane "lay_behind" f_Lane_lay_behind
 M_Lane_drawn_off:YE K C_Lane "drawn_off" f_Lane_drawn_off
 mk_Lane:Mk K C_Lane f_Lane_init
 C_Hall:Addr
 cl_Hall:Cls K C_Hall
 g_Hall:mg "Hall" =some (.ref C_Hall)
 na_Hall:Ve K C_Hall ["numbers","rows"]
 M_Hall_work:YE K C_Hall "work" f_Hall_work
 M_Hall_need_work:YE K C_Hall "need_work" f_Hall_need_work
 M_Hall_lay:YE K C_Hall "lay" f_Hall_lay
 M_Hall_belt:YE K C_Hall "belt" f_Hall_belt
 mk_Hall:Mk K C_Hall f_Hall_init
 M_Hall_names:YE K C_Hall "names" f_Hall_names
 M_Hall_leaving:YE K C_Hall "leaving" f_Hall_leaving
 M_Hall_need_belt:YE K C_Hall "need_belt" f_Hall_need_belt
 M_Hall_belt_at:YE K C_Hall "belt_at" f_Hall_belt_at
 M_Hall_entering:YE K C_Hall "entering" f_Hall_entering
 M_Hall_belts:YE K C_Hall "belts" f_Hall_belts
 n_ValueError:mg "ValueError" =none
 n_all:mg "all" =none
 n_bool:mg "bool" =none
 n_enumerate:mg "enumerate" =none
 n_int:mg "int" =none
 n_isinstance:mg "isinstance" =none
 n_len:mg "len" =none
 n_list:mg "list" =none
 n_min:mg "min" =none
 n_range:mg "range" =none
 n_str:mg "str" =none
 n_sum:mg "sum" =none
 n_tuple:mg "tuple" =none
 n_zip:mg "zip" =none
 X_RateError:Addr
 gx_RateError:PySem.W.nsIn K mainGlobals "RateError" =some (some (.ref X_RateError))
 mx_RateError:mg "RateError" =some (.ref X_RateError)
 ex_RateError:PySem.W.excIn K X_RateError [.type "ValueError",.type "Exception",.type "BaseException",.type "object"] "ValueError.__new__" =true
 X_NoName:Addr
 gx_NoName:PySem.W.nsIn K mainGlobals "NoName" =some (some (.ref X_NoName))
 mx_NoName:mg "NoName" =some (.ref X_NoName)
 ex_NoName:PySem.W.excIn K X_NoName [.type "ValueError",.type "Exception",.type "BaseException",.type "object"] "ValueError.__new__" =true
 X_Twice:Addr
 gx_Twice:PySem.W.nsIn K mainGlobals "Twice" =some (some (.ref X_Twice))
 mx_Twice:mg "Twice" =some (.ref X_Twice)
 ex_Twice:PySem.W.excIn K X_Twice [.type "ValueError",.type "Exception",.type "BaseException",.type "object"] "ValueError.__new__" =true
 X_TooMuch:Addr
 gx_TooMuch:PySem.W.nsIn K mainGlobals "TooMuch" =some (some (.ref X_TooMuch))
 mx_TooMuch:mg "TooMuch" =some (.ref X_TooMuch)
 ex_TooMuch:PySem.W.excIn K X_TooMuch [.type "ValueError",.type "Exception",.type "BaseException",.type "object"] "ValueError.__new__" =true
 X_NoWork:Addr
 gx_NoWork:PySem.W.nsIn K mainGlobals "NoWork" =some (some (.ref X_NoWork))
 mx_NoWork:mg "NoWork" =some (.ref X_NoWork)
 ex_NoWork:PySem.W.excIn K X_NoWork [.type "ValueError",.type "Exception",.type "BaseException",.type "object"] "ValueError.__new__" =true
 X_NoBelt:Addr
 gx_NoBelt:PySem.W.nsIn K mainGlobals "NoBelt" =some (some (.ref X_NoBelt))
 mx_NoBelt:mg "NoBelt" =some (.ref X_NoBelt)
 ex_NoBelt:PySem.W.excIn K X_NoBelt [.type "ValueError",.type "Exception",.type "BaseException",.type "object"] "ValueError.__new__" =true
 X_NoRate:Addr
 gx_NoRate:PySem.W.nsIn K mainGlobals "NoRate" =some (some (.ref X_NoRate))
 mx_NoRate:mg "NoRate" =some (.ref X_NoRate)
 ex_NoRate:PySem.W.excIn K X_NoRate [.type "ValueError",.type "Exception",.type "BaseException",.type "object"] "ValueError.__new__" =true
 X_Empty:Addr
 gx_Empty:PySem.W.nsIn K mainGlobals "Empty" =some (some (.ref X_Empty))
 mx_Empty:mg "Empty" =some (.ref X_Empty)
 ex_Empty:PySem.W.excIn K X_Empty [.type "ValueError",.type "Exception",.type "BaseException",.type "object"] "ValueError.__new__" =true
 X_NoForm:Addr
 gx_NoForm:PySem.W.nsIn K mainGlobals "NoForm" =some (some (.ref X_NoForm))
 mx_NoForm:mg "NoForm" =some (.ref X_NoForm)
 ex_NoForm:PySem.W.excIn K X_NoForm [.type "ValueError",.type "Exception",.type "BaseException",.type "object"] "ValueError.__new__" =true
 X_NoPieces:Addr
 gx_NoPieces:PySem.W.nsIn K mainGlobals "NoPieces" =some (some (.ref X_NoPieces))
 mx_NoPieces:mg "NoPieces" =some (.ref X_NoPieces)
 ex_NoPieces:PySem.W.excIn K X_NoPieces [.type "ValueError",.type "Exception",.type "BaseException",.type "object"] "ValueError.__new__" =true
 em_NoWork_NoWork:PySem.W.exmOne K (.ref X_NoWork) (.ref X_NoWork)=some true
 em_Empty_Empty:PySem.W.exmOne K (.ref X_Empty) (.ref X_Empty)=some true
 em_Empty_NoWork:PySem.W.exmOne K (.ref X_Empty) (.ref X_NoWork)=some false
 xc_NoWork:W1 K X_NoWork
 xc_Empty:W1 K X_Empty
 ki_NoWork_Empty:PySem.W.kitOne K (.ref X_NoWork) (.ref X_Empty)=some false
 ki_NoWork_ValueError:PySem.W.kitOne K (.ref X_NoWork) (.type "ValueError")=some true
 ki_NoWork_RateError:PySem.W.kitOne K (.ref X_NoWork) (.ref X_RateError)=some true
 ki_Empty_Empty:PySem.W.kitOne K (.ref X_Empty) (.ref X_Empty)=some true
 ki_Empty_ValueError:PySem.W.kitOne K (.ref X_Empty) (.type "ValueError")=some true
 ki_Empty_RateError:PySem.W.kitOne K (.ref X_Empty) (.ref X_RateError)=some true
 tk_MOST_LETTERS:Tok
 c_MOST_LETTERS:mg "MOST_LETTERS" =some (.int 8 tk_MOST_LETTERS)
 tk_MOST_WORKS:Tok
 c_MOST_WORKS:mg "MOST_WORKS" =some (.int 30 tk_MOST_WORKS)
 tk_MOST_BELTS:Tok
 c_MOST_BELTS:mg "MOST_BELTS" =some (.int 60 tk_MOST_BELTS)
 bl_law:∀(s:Shared) (v:Value),BindsTo s d_law ⟨[v],[]⟩ [("_law_script",v)]
theorem ZhI {a b:Int} (ha:0≤a) (hb:0<b):My.G b (a % b)=My.G a b:=by
 rw[←Int.fmod_eq_emod_of_nonneg _ (Int.le_of_lt hb)]
 exact My.Zh3 ha hb
theorem Zkh {k:Nat} {x:Int} (h:My.S k x) (hk:k≤2):x.natAbs.log2<9000:=by
 by_cases h0:x.natAbs=0
 ·rw[h0];decide+kernel
 ·have e:x.natAbs=x.toNat:=by have:=h.lo;omega
  have l:=(Nat.log2_lt h0).mpr (by rw[e];exact(h.mono hk).hi)
  omega
def Zg3 (K:PySem.W.Frag):Sp:=fun vs H Q _=>∃(a:Addr) (ns:List Int),vs=[.ref a]∧SqL K H a (ns.map V.int)∧ns.length≤63∧∀H',Q (.bl true) H'
def ZiM {K:PySem.W.Frag} {mg:Str→Option Value} (T:Tp K mg):Sp:=Zg3 K
def Ys (x:Str):Bool:=decide (1≤x.length)&&decide (x.length≤8)&&x.cps.toList.all fun c=>decide (97≤c)&&decide (c≤122)
structure B5 where
 giver:Int
 taker:Int
 give:Int
 take:Int
 start:Int
def B5.v (b:B5):List V:=[.int b.giver,.int b.taker,.int b.give,.int b.take,.int b.start]
structure HM where
 names:List Str
 belts:List B5
def YJ (H:Hp):List V→List B5→Prop:=Paired fun v b=>∃t,v= .ref t∧H t=some (.tup b.v)
def numsOf (ns:List Str):List (Key×V):=ns.zipIdx.map fun p=>(Sum.inr p.1,V.int p.2)
theorem Uf (ns:List Str):(numsOf ns).length=ns.length:=by unfold numsOf;simp
theorem Zd4 (ns:List Str) (x:Str):numsOf (ns++ [x])=numsOf ns++ [(Sum.inr x,.int ns.length)]:=by
 unfold numsOf
 rw[List.zipIdx_append]
 simp
theorem Zbg (ns:List Str):((numsOf ns).map fun kv=>kV kv.1)=ns.map V.str:=by
 unfold numsOf
 rw[List.map_map]
 have:((fun kv:Key×V=>kV kv.1)∘fun p:Str×Nat=>((Sum.inr p.1:Key),V.int p.2))=(V.str∘fun p:Str×Nat=>p.1):=rfl
 rw[this,←List.map_map,List.zipIdx_map_fst]
theorem ZcA (ns:List Str) (x:Str):(WU (numsOf ns) (Sum.inr x)).isSome=decide (x∈ns):=by
 rw[←Zak]
 rw[Bool.eq_iff_iff,List.any_eq_true,decide_eq_true_eq]
 have e:x∈ns↔V.str x∈ns.map V.str:=by
  constructor
  ·exact List.mem_map_of_mem
  ·intro h
   obtain⟨y,hy,e⟩:=List.mem_map.mp h
   cases e
   exact hy
 rw[e,←Zbg,List.mem_map]
 constructor
 ·rintro⟨p,hp,h⟩
  exact⟨p,hp,by rw[of_decide_eq_true h];rfl⟩
 ·rintro⟨p,hp,h⟩
  exact⟨p,hp,decide_eq_true (ZiL h)⟩
theorem Zek {ns:List Str} {x:Str} (h:x∉ns):WU (numsOf ns) (Sum.inr x)=none:=by
 have:=ZcA ns x
 rw[decide_eq_false h] at this
 cases e:WU (numsOf ns) (Sum.inr x) with
 |none=>rfl
 |some v=>rw[e] at this;cases this
theorem ZeX {ns:List Str} {x:Str} (h:x∉ns):W8 (numsOf ns) (Sum.inr x) (.int ns.length)=numsOf (ns++ [x]):=by
 rw[Zgl _ (Zek h),Zd4]
def ZD {K:PySem.W.Frag} {mg:Str→Option Value} (T:Tp K mg) (H:Hp) (p:Addr) (hl:HM) (fp:List Addr):Prop:=
 ∃(dx a b:Addr) (bs:List V),fp=[p,dx,a,b]∧H p=some (.ins T.C_Hall dx [("numbers",.ref a),("rows",.ref b)])∧H dx=some (.own p)∧H a=some (.dK (numsOf hl.names))∧H b=some (.lst bs)∧a≠b∧YJ H bs hl.belts
theorem YJ.keep {H H':Hp} (t:∀b xs,H b=some (.tup xs)→H' b=some (.tup xs)):∀{bs:List V} {ls:List B5},YJ H bs ls→YJ H' bs ls
 |_,_,.nil=> .nil
 |_,_,.cons ⟨a,e,h⟩ r=> .cons ⟨a,e,t _ _ h⟩ (YJ.keep t r)
theorem YJ.length {H:Hp} {bs:List V} {ls:List B5} (h:YJ H bs ls):bs.length=ls.length:=Paired.length h
theorem YJ.snoc {H:Hp}:∀{bs:List V} {ls:List B5} {t:Addr} {b:B5},YJ H bs ls→H t=some (.tup b.v)→YJ H (bs++ [.ref t]) (ls++ [b])
 |_,_,_,_,.nil,h=> .cons ⟨_,rfl,h⟩ .nil
 |_,_,_,_,.cons x r,h=> .cons x (YJ.snoc r h)
theorem YJ.at {H:Hp}:∀{bs:List V} {ls:List B5} {i:Nat} {b:B5},YJ H bs ls→ls[i]? =some b→∃t,bs[i]? =some (.ref t)∧H t=some (.tup b.v)
 |_,_,_,_,.nil,e=>by simp at e
 |_,_,0,_,.cons ⟨t,e1,h⟩ _,e=>by simp at e;subst e;exact⟨t,by simp[e1],h⟩
 |_,_,i+1,b,.cons _ r,e=>by
  obtain⟨t,h1,h2⟩:=YJ.at (i:=i) (b:=b) r (by simpa using e)
  exact⟨t,by simpa using h1,h2⟩
section
variable {K:PySem.W.Frag} {mg:Str→Option Value} {T:Tp K mg} {H H':Hp} {p:Addr} {hl:HM} {fp:List Addr}
theorem ZD.dom (h:ZD T H p hl fp):∀x∈fp,H x≠none:=by
 obtain⟨dx,a,b,bs,rfl,h1,h2,h3,h4,_⟩:=h
 intro x hx
 simp only[List.mem_cons,List.not_mem_nil,or_false] at hx
 rcases hx with rfl|rfl|rfl|rfl
 ·rw[h1];simp
 ·rw[h2];simp
 ·rw[h3];simp
 ·rw[h4];simp
theorem ZD.keep (h:ZD T H p hl fp) (k:∀x∈fp,H' x=H x) (t:∀b xs,H b=some (.tup xs)→H' b=some (.tup xs)):ZD T H' p hl fp:=by
 obtain⟨dx,a,b,bs,rfl,h1,h2,h3,h4,h5,h6⟩:=h
 exact⟨dx,a,b,bs,rfl,(k p (by simp)).trans h1,(k dx (by simp)).trans h2,(k a (by simp)).trans h3,(k b (by simp)).trans h4,h5,h6.keep t⟩
theorem ZD.off {A:List Addr} (h:ZD T H p hl fp) (f:Zp A H H') (d:∀x∈fp,x∉A):ZD T H' p hl fp:=by
 refine h.keep (fun x hx=>?_) f.tups
 cases q:H x with
 |none=>exact absurd q (h.dom x hx)
 |some o=>exact f.keep x o q (d x hx)
theorem Zf7 {m:Str} {G:Prop} (h:ZD T H p hl fp) (m1:(m== "numbers")=false) (m2:(m== "rows")=false) (q:G):∃a dx fs,V.ref p= .ref a∧H a=some (.ins T.C_Hall dx fs)∧fs.lookup m=none∧G:=by
 obtain⟨dx,a,b,bs,rfl,h1,_⟩:=h
 exact⟨p,dx,_,rfl,h1,Rd.lk1 m1 (Rd.lk1 m2 Rd.lkN),q⟩
theorem ZD.same (h:ZD T H p hl fp) (e:Zd H H'):ZD T H' p hl fp:=h.off (A:=[]) e.frame (by simp)
end
def dB:B5:=⟨0,0,0,0,0⟩
def ZE (ls:List B5) (w:Int):List Nat:=(List.range ls.length).filter fun i=>decide ((ls.getD i dB).taker=w)
def leaveL (ls:List B5) (w:Int):List Nat:=(List.range ls.length).filter fun i=>decide ((ls.getD i dB).giver=w)
theorem YJ.getD {H:Hp} {bs:List V} {ls:List B5} {i:Nat} (h:YJ H bs ls) (hi:i<ls.length):∃t,bs.getD i .non= .ref t∧H t=some (.tup (ls.getD i dB).v):=by
 obtain⟨t,h1,h2⟩:=h.at (List.getElem?_eq_getElem hi)
 exact⟨t,by simp[List.getD,h1],by simpa[List.getD,hi] using h2⟩
theorem Z2 {H H':Hp} {x:Addr} (s:Zd H H') (h:H' x=none):H x=none:=by
 cases e:H x with
 |none=>rfl
 |some o=>rw[s _ _ e] at h;cases h
theorem ZF {α:Type} {xs:List α} {i:Nat} {d:α} (h:i<xs.length):xs.getD i d=xs[i]:=by simp[List.getD,h]
theorem W9 {ns:List Int} {k:Int} (h0:0≤k) (h1:k<ns.length):atI (ns.map V.int) k=some (.int (ns.getD k.toNat 0)):=by
 obtain⟨n,rfl⟩:=Int.eq_ofNat_of_zero_le h0
 have hn:n<ns.length:=by omega
 refine YQ ?_
 simp[List.getD,hn]
theorem Paired.get {α β:Type} {P:α→β→Prop}:∀{xs:List α} {ys:List β} {i:Nat} {x:α},Paired P xs ys→xs[i]? =some x→∃y,ys[i]? =some y∧P x y
 |_,_,_,_,.nil,e=>by simp at e
 |_,_,0,_,.cons h _,e=>by simp at e;subst e;exact⟨_,rfl,h⟩
 |_,_,i+1,x,.cons _ r,e=>by
  obtain⟨y,h1,h2⟩:=Paired.get (i:=i) (x:=x) r (by simpa using e)
  exact⟨y,by simpa using h1,h2⟩
theorem UH {α β:Type} {P:α→β→Prop}:∀{xs:List α} {ys:List β},xs.length=ys.length→(∀(i:Nat) x y,xs[i]? =some x→ys[i]? =some y→P x y)→Paired P xs ys
 | [],[],_,_=> .nil
 |x::xs,y::ys,hl,h=> .cons (h 0 x y rfl rfl) (UH (by simpa using hl) fun i a b e1 e2=>h (i+1) a b (by simpa using e1) (by simpa using e2))
 | [],_::_,hl,_=>by simp at hl
 |_::_,[],hl,_=>by simp at hl
theorem Zdq {β γ:Type} {S:γ→β→Prop} {L:List γ} {d:γ} {ys:List β} (h:Paired (fun i v=>S (L.getD i d) v) ((List.range L.length).filter fun _=>true) ys):Paired S L ys:=by
 rw[List.filter_eq_self.mpr (by simp)] at h
 refine UH (by rw[←Paired.length h,List.length_range]) fun i x y e1 e2=>?_
 have hi:i<L.length:=(List.getElem?_eq_some_iff.mp e1).1
 obtain⟨y',h1,h2⟩:=Paired.get (i:=i) (x:=i) h (by simp[hi])
 rw[e2] at h1
 cases h1
 simpa[List.getD,e1] using h2
def Y3 (H:Hp):List (Int×Int)→List V→Prop:=Paired fun x v=>∃t,v= .ref t∧H t=some (.tup [.int x.1,.int x.2])
theorem Y3.keep {H H':Hp} (t:∀b xs,H b=some (.tup xs)→H' b=some (.tup xs)) {vs:List V} {l:List (Int×Int)} (h:Y3 H l vs):Y3 H' l vs:=Paired.mapP h fun _ _ ⟨a,e,z⟩=>⟨a,e,t _ _ z⟩
def LL (H:Hp):List (List (Int×Int))→List Addr→Prop:=Paired fun l a=>∃vs,H a=some (.lst vs)∧Y3 H l vs
theorem LL.dom {H:Hp}:∀{ls:List (List (Int×Int))} {as:List Addr},LL H ls as→∀x∈as,H x≠none
 |_,_,.nil,_,hx=>by simp at hx
 |_,_,.cons ⟨vs,h,_⟩ r,x,hx=>by
  rcases List.mem_cons.mp hx with rfl|hx
  ·rw[h];simp
  ·exact LL.dom r x hx
theorem LL.keep {H H':Hp} (t:∀b xs,H b=some (.tup xs)→H' b=some (.tup xs)):∀{ls:List (List (Int×Int))} {as:List Addr},LL H ls as→(∀x∈as,H' x=H x)→LL H' ls as
 |_,_,.nil,_=> .nil
 |_,_,.cons ⟨vs,h,p⟩ r,k=> .cons ⟨vs,(k _ (by simp)).trans h,p.keep t⟩ (LL.keep t r fun x hx=>k x (List.mem_cons_of_mem _ hx))
def takeRow (ls:List B5) (w:Int):List (Int×Int):=(ZE ls w).map fun i:Nat=>((i:Int),(ls.getD i dB).take)
def giveRow (ls:List B5) (w:Int):List (Int×Int):=(leaveL ls w).map fun i:Nat=>((i:Int),(ls.getD i dB).give)
structure FM where
 many:Int
 rows:List B5
 heaps:List Int
def ZbQ (fl:FM):List (List (Int×Int)):=(List.range fl.many.toNat).map fun w:Nat=>takeRow fl.rows w
def ZdB (fl:FM):List (List (Int×Int)):=(List.range fl.many.toNat).map fun w:Nat=>giveRow fl.rows w
def Yk {K:PySem.W.Frag} {mg:Str→Option Value} (T:Tp K mg) (H:Hp) (p:Addr) (fl:FM) (fp:List Addr):Prop:=
 ∃(dx a b c:Addr) (ia ib:List Addr),fp=p::dx::a::b::c::(ia++ib)∧H p=some (.ins T.C_Floor dx [("takes",.ref a),("gives",.ref b),("heaps",.ref c)])∧H dx=some (.own p)∧H a=some (.lst (ia.map V.ref))∧H b=some (.lst (ib.map V.ref))∧
  H c=some (.lst (fl.heaps.map V.int))∧LL H (ZbQ fl) ia∧LL H (ZdB fl) ib∧fl.heaps.length=fl.rows.length∧0≤fl.many
section
variable {K:PySem.W.Frag} {mg:Str→Option Value} {T:Tp K mg} {H H':Hp} {p:Addr} {fl:FM} {fp:List Addr}
theorem Yk.dom (h:Yk T H p fl fp):∀x∈fp,H x≠none:=by
 obtain⟨dx,a,b,c,ia,ib,rfl,h1,h2,h3,h4,h5,h6,h7,h8,h9⟩:=h
 intro x hx
 simp only[List.mem_cons,List.mem_append] at hx
 rcases hx with rfl|rfl|rfl|rfl|rfl|hx|hx
 ·rw[h1];simp
 ·rw[h2];simp
 ·rw[h3];simp
 ·rw[h4];simp
 ·rw[h5];simp
 ·exact h6.dom x hx
 ·exact h7.dom x hx
theorem Yk.off {A:List Addr} (h:Yk T H p fl fp) (f:Zp A H H') (d:∀x∈fp,x∉A):Yk T H' p fl fp:=by
 have k:∀x∈fp,H' x=H x:=fun x hx=>by
  cases q:H x with
  |none=>exact absurd q (h.dom x hx)
  |some o=>exact f.keep x o q (d x hx)
 obtain⟨dx,a,b,c,ia,ib,rfl,h1,h2,h3,h4,h5,h6,h7,h8,h9⟩:=h
 exact⟨dx,a,b,c,ia,ib,rfl,(k p (by simp)).trans h1,(k dx (by simp)).trans h2,(k a (by simp)).trans h3,(k b (by simp)).trans h4,(k c (by simp)).trans h5,
  h6.keep f.tups (fun x hx=>k x (by simp[hx])),h7.keep f.tups (fun x hx=>k x (by simp[hx])),h8,h9⟩
theorem Yk.same (h:Yk T H p fl fp) (e:Zd H H'):Yk T H' p fl fp:=h.off (A:=[]) e.frame (by simp)
theorem ZeK {m:Str} {G:Prop} (h:Yk T H p fl fp) (m1:(m== "takes")=false) (m2:(m== "gives")=false) (m3:(m== "heaps")=false) (q:G):∃a dx fs,V.ref p= .ref a∧H a=some (.ins T.C_Floor dx fs)∧fs.lookup m=none∧G:=by
 obtain⟨dx,a,b,c,ia,ib,rfl,h1,_⟩:=h
 exact⟨p,dx,_,rfl,h1,Rd.lk1 m1 (Rd.lk1 m2 (Rd.lk1 m3 Rd.lkN)),q⟩
end
def Y0 (rows:List B5) (hs:List Int) (w:Int):Bool:=(rows.zip hs).all fun x=>!(decide (x.1.taker=w))||decide (x.1.take≤x.2)
theorem UQ {w:Int}:∀{rows:List B5} {hs:List Int},(∀(i:Nat) (r:B5) (h:Int),rows[i]? =some r→hs[i]? =some h→r.taker=w→r.take≤h)→Y0 rows hs w=true
 | [],_,_=>by simp[Y0]
 |_::_,[],_=>by simp[Y0]
 |r::rs,h::hs,q=>by
  have e:=UQ (rows:=rs) (hs:=hs) (w:=w) fun i r' h' a b=>q (i+1) r' h' (by simpa using a) (by simpa using b)
  unfold Y0 at e⊢
  rw[List.zip_cons_cons,List.all_cons,e,Bool.and_true]
  by_cases c:r.taker=w
  ·rw[decide_eq_true (q 0 r h rfl rfl c),Bool.or_true]
  ·rw[decide_eq_false c];rfl
theorem Vr {w:Int}:∀{rows:List B5} {hs:List Int} (i:Nat) {r:B5} {h:Int},rows[i]? =some r→hs[i]? =some h→r.taker=w→h<r.take→Y0 rows hs w=false
 | [],_,_,_,_,a,_,_,_=>by simp at a
 |_::_,[],_,_,_,_,a,_,_=>by simp at a
 |r::rs,h::hs,0,r',h',a,b,c,d=>by
  simp only[List.getElem?_cons_zero,Option.some.injEq] at a b
  subst a b
  unfold Y0
  rw[List.zip_cons_cons,List.all_cons,decide_eq_true c,decide_eq_false (show ¬r.take≤h by omega)]
  rfl
 |r::rs,h::hs,i+1,r',h',a,b,c,d=>by
  have e:=Vr (rows:=rs) (hs:=hs) (w:=w) i (r:=r') (h:=h') (by simpa using a) (by simpa using b) c d
  unfold Y0 at e⊢
  rw[List.zip_cons_cons,List.all_cons,e,Bool.and_false]
def Zdo (fl:FM) (w:Int):Bool:=Y0 fl.rows fl.heaps w
def WC (rows:List B5) (hs:List Int) (w:Int):List Int:=(rows.zip hs).map fun x=>x.2-(if x.1.taker=w then x.1.take else 0)+(if x.1.giver=w then x.1.give else 0)
theorem Uo {rows:List B5} {hs:List Int} {w:Int} (h:hs.length=rows.length):(WC rows hs w).length=hs.length:=by unfold WC;simp;omega
theorem Zct {rows:List B5} {hs:List Int} {w:Int} {i:Nat} (h1:i<rows.length) (h2:i<hs.length) (h3:i<(WC rows hs w).length):(WC rows hs w)[i]=hs[i]-(if rows[i].taker=w then rows[i].take else 0)+(if rows[i].giver=w then rows[i].give else 0):=by
 have e:(WC rows hs w)[i]? =some (hs[i]-(if rows[i].taker=w then rows[i].take else 0)+(if rows[i].giver=w then rows[i].give else 0)):=by
  unfold WC
  rw[List.getElem?_map,List.getElem?_eq_getElem (by rw[List.length_zip];omega)]
  simp
 rw[List.getElem?_eq_getElem h3] at e
 exact Option.some.inj e
def turnedL (fl:FM) (w:Int):List Int:=WC fl.rows fl.heaps w
def UW (hs:List Int) (l:List (Int×Int)):Bool:=l.all fun x=>decide (x.2≤hs.getD x.1.toNat 0)
theorem Zfw {rows:List B5} {hs:List Int} {w:Int} (h:hs.length=rows.length):UW hs (takeRow rows w)=Y0 rows hs w:=by
 cases e:UW hs (takeRow rows w) with
 |true=>
  refine(UQ fun i r x a b c=>?_).symm
  have hi:i<rows.length:=(List.getElem?_eq_some_iff.mp a).1
  have er:rows.getD i dB=r:=by simp[List.getD,a]
  have m:((i:Int),r.take)∈takeRow rows w:=by
   unfold takeRow ZE
   refine List.mem_map.mpr ⟨i,List.mem_filter.mpr ⟨List.mem_range.mpr hi,decide_eq_true (by rw[er];exact c)⟩,by rw[er]⟩
  have:=of_decide_eq_true (List.all_eq_true.mp e _ m)
  simpa[List.getD,b] using this
 |false=>
  unfold UW at e
  rw[List.all_eq_false] at e
  obtain⟨x,hx,d⟩:=e
  unfold takeRow ZE at hx
  obtain⟨i,hi,rfl⟩:=List.mem_map.mp hx
  obtain⟨h1,h2⟩:=List.mem_filter.mp hi
  have hr:=List.mem_range.mp h1
  have ei:=List.getElem?_eq_getElem hr
  have eh:=List.getElem?_eq_getElem (show i<hs.length by omega)
  have er:rows.getD i dB=rows[i]:=by simp[List.getD,ei]
  rw[er] at h2 d
  refine(Vr i ei eh (of_decide_eq_true h2) ?_).symm
  have d':¬rows[i].take≤hs.getD (i:Int).toNat 0:=fun z=>d (decide_eq_true z)
  have eg:hs.getD (i:Int).toNat 0=hs[i]:=by simp[List.getD,eh]
  rw[eg] at d'
  omega
theorem Y4 {ls:List B5} {w:Int} {i:Nat} (h:i∈ZE ls w):i<ls.length:=List.mem_range.mp (List.mem_filter.mp h).1
theorem WN {ls:List B5} {w:Int} {i:Nat} (h:i∈leaveL ls w):i<ls.length:=List.mem_range.mp (List.mem_filter.mp h).1
theorem Vh {ls:List B5} {w:Int}:(ZE ls w).length≤ls.length:=Nat.le_trans (List.length_filter_le _ _) (by simp)
theorem Ug {ls:List B5} {w:Int}:(leaveL ls w).length≤ls.length:=Nat.le_trans (List.length_filter_le _ _) (by simp)
def bump (f:Nat→Int) (hs:List Int) (is:List Nat):List Int:=is.foldl (fun hs i=>hs.set i (hs.getD i 0+f i)) hs
theorem WL (f:Nat→Int):∀(is:List Nat) (hs:List Int),(bump f hs is).length=hs.length
 | [],_=>rfl
 |i::is,hs=>by
  show(bump f (hs.set i _) is).length=_
  rw[WL f is,List.length_set]
theorem Zck (f:Nat→Int):∀(is:List Nat) (hs:List Int) (j:Nat),is.Nodup→j<hs.length→(bump f hs is).getD j 0=hs.getD j 0+if j∈is then f j else 0
 | [],hs,j,_,_=>by simp[bump]
 |i::is,hs,j,nd,hj=>by
  obtain⟨n1,n2⟩:=List.nodup_cons.mp nd
  show(bump f (hs.set i (hs.getD i 0+f i)) is).getD j 0=_
  rw[Zck f is _ j n2 (by rw[List.length_set];exact hj)]
  by_cases e:i=j
  ·subst e
   have e1:(hs.set i (hs.getD i 0+f i)).getD i 0=hs.getD i 0+f i:=by rw[List.getD_eq_getElem?_getD,List.getElem?_set_self hj];rfl
   rw[e1,if_neg n1,if_pos List.mem_cons_self,Int.add_zero]
  ·have e1:(hs.set i (hs.getD i 0+f i)).getD j 0=hs.getD j 0:=by rw[List.getD_eq_getElem?_getD,List.getElem?_set_ne e,List.getD_eq_getElem?_getD]
   rw[e1]
   have:(j∈i::is)↔j∈is:=by simp[Ne.symm e]
   simp only[this]
theorem Y6 (n:Nat) (c:Nat→Bool):((List.range n).filter c).Nodup:=List.nodup_range.filter c
theorem Ze4 {rows:List B5} {hs:List Int} {w:Int} (h:hs.length=rows.length):
  bump (fun i=>(rows.getD i dB).give) (bump (fun i=>-(rows.getD i dB).take) hs (ZE rows w)) (leaveL rows w)=WC rows hs w:=by
 have l1:=WL (fun i=>-(rows.getD i dB).take) (ZE rows w) hs
 refine List.ext_getElem (by rw[WL,l1,Uo h]) fun i h1 h2=>?_
 rw[WL,l1] at h1
 have hr:i<rows.length:=by omega
 rw[Zct hr h1 h2]
 have e0:∀(xs:List Int) (hx:i<xs.length),xs[i]=xs.getD i 0:=fun xs hx=>by simp[List.getD,hx]
 rw[e0 _ (by rw[WL,l1];exact h1),Zck _ (leaveL rows w) _ _ (Y6 _ _) (by rw[l1];exact h1),Zck _ (ZE rows w) _ _ (Y6 _ _) h1,←e0 hs h1]
 have er:rows.getD i dB=rows[i]:=by simp[List.getD,hr]
 have m1:i∈ZE rows w↔rows[i].taker=w:=by
  unfold ZE
  rw[List.mem_filter,List.mem_range,er,decide_eq_true_eq]
  exact⟨fun z=>z.2,fun z=>⟨hr,z⟩⟩
 have m2:i∈leaveL rows w↔rows[i].giver=w:=by
  unfold leaveL
  rw[List.mem_filter,List.mem_range,er,decide_eq_true_eq]
  exact⟨fun z=>z.2,fun z=>⟨hr,z⟩⟩
 simp only[m1,m2,er]
 split<;>split<;>omega
def turnR (many:Int) (rows:List B5) (hs:List Int) (w:Int):Except Bool (List Int):=if 0≤w∧w<many then(if Y0 rows hs w=true then .ok (WC rows hs w) else .error false) else .error true
def goR (many:Int) (rows:List B5):List Int→List Int→Except Bool (List Int)
 |hs,[]=> .ok hs
 |hs,w::ws=>match turnR many rows hs w with
  | .ok hs'=>goR many rows hs' ws
  | .error e=> .error e
theorem Zb5 {many:Int} {rows:List B5}:∀{xs:List Int} {hs hs':List Int} {ys:List Int},goR many rows hs xs= .ok hs'→goR many rows hs (xs++ys)=goR many rows hs' ys
 | [],hs,hs',ys,h=>by
  have:hs=hs':=by simpa[goR] using h
  rw[this];rfl
 |x::xs,hs,hs',ys,h=>by
  show(match turnR many rows hs x with| .ok hs'=>goR many rows hs' (xs++ys)| .error e=> .error e)=_
  have h':(match turnR many rows hs x with| .ok hs'=>goR many rows hs' xs| .error e=> .error e)= .ok hs':=h
  cases e:turnR many rows hs x with
  |ok h1=>
   rw[e] at h'
   exact Zb5 (xs:=xs) h'
  |error b=>rw[e] at h';cases h'
theorem ZeB {many:Int} {rows:List B5}:∀{xs:List Int} {hs:List Int} {b:Bool} {ys:List Int},goR many rows hs xs= .error b→goR many rows hs (xs++ys)= .error b
 | [],hs,b,ys,h=>by cases h
 |x::xs,hs,b,ys,h=>by
  show(match turnR many rows hs x with| .ok hs'=>goR many rows hs' (xs++ys)| .error e=> .error e)=_
  have h':(match turnR many rows hs x with| .ok hs'=>goR many rows hs' xs| .error e=> .error e)= .error b:=h
  cases e:turnR many rows hs x with
  |ok h1=>
   rw[e] at h'
   exact ZeB (xs:=xs) h'
  |error c=>rw[e] at h';exact h'
theorem ZdE {many:Int} {rows:List B5} {hs0 hs:List Int} {ws:List Int} {i:Nat} {w:Int} (h:goR many rows hs0 (ws.take i)= .ok hs) (e:ws[i]? =some w):goR many rows hs0 (ws.take (i+1))=turnR many rows hs w:=by
 have hi:=(List.getElem?_eq_some_iff.mp e)
 rw[List.take_succ,e]
 show goR many rows hs0 (ws.take i++ [w])=_
 rw[Zb5 h]
 show(match turnR many rows hs w with| .ok hs'=>goR many rows hs' []| .error e=> .error e)=_
 cases turnR many rows hs w<;>rfl
theorem ZgA {many:Int} {rows:List B5} {hs0 hs:List Int} {ws:List Int} {i:Nat} {w:Int} {b:Bool} (h:goR many rows hs0 (ws.take i)= .ok hs) (e:ws[i]? =some w) (t:turnR many rows hs w= .error b):goR many rows hs0 ws= .error b:=by
 have:=ZeB (ys:=ws.drop (i+1)) ((ZdE h e).trans t)
 rwa [List.take_append_drop] at this
theorem ZfW {many:Int} {rows:List B5} {hs hs':List Int} {w:Int} (h:hs.length=rows.length) (e:turnR many rows hs w= .ok hs'):hs'.length=rows.length:=by
 unfold turnR at e
 split at e
 ·split at e
  ·cases e
   rw[Uo h,h]
  ·cases e
 ·cases e
theorem Zce {many:Int} {rows:List B5}:∀{ws:List Int} {hs hs':List Int},hs.length=rows.length→goR many rows hs ws= .ok hs'→hs'.length=rows.length
 | [],hs,hs',h,e=>by
  have:hs=hs':=by simpa[goR] using e
  rw[←this];exact h
 |w::ws,hs,hs',h,e=>by
  have e':(match turnR many rows hs w with| .ok hs'=>goR many rows hs' ws| .error e=> .error e)= .ok hs':=e
  cases q:turnR many rows hs w with
  |ok h1=>
   rw[q] at e'
   exact Zce (ZfW h q) e'
  |error b=>rw[q] at e';cases e'
theorem Zcq {fl:FM} {w:Int} (h0:0≤w) (h1:w<fl.many):(ZbQ fl)[w.toNat]? =some (takeRow fl.rows w):=by
 unfold ZbQ
 have:w.toNat<fl.many.toNat:=by omega
 rw[List.getElem?_map,List.getElem?_range this]
 show some (takeRow fl.rows (w.toNat:Int))=_
 rw[Int.toNat_of_nonneg h0]
theorem Zcu {fl:FM} {w:Int} (h0:0≤w) (h1:w<fl.many):(ZdB fl)[w.toNat]? =some (giveRow fl.rows w):=by
 unfold ZdB
 have:w.toNat<fl.many.toNat:=by omega
 rw[List.getElem?_map,List.getElem?_range this]
 show some (giveRow fl.rows (w.toNat:Int))=_
 rw[Int.toNat_of_nonneg h0]
theorem LL.at {H:Hp} {ls:List (List (Int×Int))} {ia:List Addr} {w:Int} {l:List (Int×Int)} (h:LL H ls ia) (h0:0≤w) (e:ls[w.toNat]? =some l):∃x vs,atI (ia.map V.ref) w=some (.ref x)∧H x=some (.lst vs)∧Y3 H l vs:=by
 obtain⟨x,h1,vs,h2,h3⟩:=Paired.get h e
 refine⟨x,vs,?_,h2,h3⟩
 have:=YQ (xs:=ia.map V.ref) (j:=w.toNat) (v:= .ref x) (by rw[List.getElem?_map,h1];rfl)
 rwa [Int.toNat_of_nonneg h0] at this
theorem LL.len {H:Hp} {ls:List (List (Int×Int))} {ia:List Addr} (h:LL H ls ia):ia.length=ls.length:=(Paired.length h).symm
theorem Zcz {H:Hp} {js:List Nat} {f:Nat→Int} {ys:List V} (h:Paired (fun i v=>∃t,v=V.ref t∧H t=some (.tup [.int (js.getD i 0:Nat),.int (f (js.getD i 0))])) ((List.range (js.map fun i:Nat=>V.int i).length).filter fun _=>true) ys):Y3 H (js.map fun i:Nat=>((i:Int),f i)) ys:=by
 rw[List.length_map] at h
 have h1:Paired (fun(j:Nat) v=>∃t,v=V.ref t∧H t=some (.tup [.int (j:Nat),.int (f j)])) js ys:=Zdq (L:=js) (d:=0) h
 refine UH (by rw[List.length_map];exact Paired.length h1) fun i x y e1 e2=>?_
 rw[List.getElem?_map] at e1
 cases e:js[i]? with
 |none=>rw[e] at e1;cases e1
 |some j=>
  rw[e] at e1
  cases e1
  obtain⟨y',e3,h3⟩:=Paired.get h1 e
  rw[e2] at e3
  cases e3
  exact h3
theorem ZeD {ls:List B5} {w:Int} {n:Nat} (h:n=ls.length):∀x∈takeRow ls w,0≤x.1∧x.1<n:=by
 intro x hx
 obtain⟨i,hi,rfl⟩:=List.mem_map.mp hx
 have:=Y4 hi
 show 0≤(i:Int)∧(i:Int)<n
 omega
theorem Zbk {ls:List B5} {w:Int}:(takeRow ls w).length≤ls.length:=by unfold takeRow;rw[List.length_map];exact Vh
def startsL (ls:List B5):List Int:=ls.map (·.start)
theorem Ut {f:Nat→Bool}:∀{is:List Nat} {ys:List V},Paired (fun i v=>v=V.bl (f i)) is ys→ys=(is.map f).map V.bl
 |_,_,.nil=>rfl
 |_,_,.cons a r=>by rw[a,Ut r];rfl
theorem ZaA {n:Nat} {P:Nat→Prop} [∀i,Decidable (P i)]:(((List.range n).map fun i=>decide (P i)).all id)=true↔∀i<n,P i:=by
 simp
def VI (xss:List (List Int)) (ss:List Int):Prop:=xss.length=ss.length∧∀i<xss.length,((xss.getD i []).length:Int)=ss.getD i 0
theorem YG {H:Hp} {ys:List V} {xss:List (List Int)} {i:Nat} (h:ZV H ys xss) (hi:i<xss.length):∃t,ys.getD i .non= .ref t∧H t=some (.lst ((xss.getD i []).map V.int)):=by
 obtain⟨t,h1,h2⟩:=h.at (List.getElem?_eq_getElem hi)
 exact⟨t,by simp[List.getD,h1],by rw[ZF hi];exact h2⟩
theorem Wq {n:Nat} (h:n≤1000000):n<sizeLine:=Nat.lt_of_le_of_lt h (by decide)
theorem ZaZ {xs:List V} {a b:Int} (h0:0≤a) (h1:0≤b):Wx xs (some a) (some (a+b))=(xs.drop a.toNat).take b.toNat:=by
 obtain⟨m,rfl⟩:=Int.eq_ofNat_of_zero_le h0
 obtain⟨k,rfl⟩:=Int.eq_ofNat_of_zero_le h1
 have e1:HT.sIx xs.length 0 (some (m:Int))=min m xs.length:=by
  simp only[HT.sIx]
  rw[if_neg (by omega)]
  simp
 have e2:HT.sIx xs.length xs.length (some ((m:Int)+(k:Int)))=min (m+k) xs.length:=by
  simp only[HT.sIx]
  rw[if_neg (by omega)]
  have:((m:Int)+(k:Int)).toNat=m+k:=by omega
  rw[this]
 unfold Wx
 rw[e1,e2,Int.toNat_natCast,Int.toNat_natCast]
 rcases Nat.lt_or_ge m xs.length with c|c
 ·rw[Nat.min_eq_left (Nat.le_of_lt c)]
  rcases Nat.lt_or_ge (m+k) xs.length with c2|c2
  ·rw[Nat.min_eq_left (Nat.le_of_lt c2)]
   congr 1
   omega
  ·rw[Nat.min_eq_right c2,List.take_of_length_le (by rw[List.length_drop];omega),List.take_of_length_le (by rw[List.length_drop];omega)]
 ·rw[Nat.min_eq_right c,List.drop_eq_nil_of_le (Nat.le_refl _),List.drop_eq_nil_of_le c]
  simp
theorem Vd {H0 H:Hp} {f:Nat→List Int}:∀{is:List Nat} {ys:List V},Paired (fun i v=>∃t,v=V.ref t∧H0 t=none∧H t=some (.lst ((f i).map V.int))) is ys→ZV H ys (is.map f)∧∀v∈ys,∃t,v=V.ref t∧H0 t=none
 |_,_,.nil=>⟨.nil,by simp⟩
 |_,_,.cons ⟨t,e,h0,h⟩ r=>by
  obtain⟨h1,h2⟩:=Vd r
  refine⟨.cons ⟨t,e,h⟩ h1,fun v hv=>?_⟩
  rcases List.mem_cons.mp hv with rfl|hv
  ·exact⟨t,e,h0⟩
  ·exact h2 v hv
theorem ZaY {n:Nat} {a:Int} (h:a.natAbs<2 ^ n):Builtin.Int.intBits a≤n:=by
 unfold Builtin.Int.intBits
 split
 ·exact Nat.zero_le _
 ·rename_i hz
  have h0:a.natAbs≠0:=by
   intro e
   apply hz
   have:a=0:=by omega
   rw[this]
   rfl
  have:=(Nat.log2_lt h0).mpr h
  omega
theorem mulI {n m:Nat} {a b:Int} (ha:a.natAbs<2 ^ n) (hb:b.natAbs<2 ^ m) (h:n+m≤10000000):IntMulOk a b:=by
 have b1:=ZaY ha
 have b2:=ZaY hb
 have k:Builtin.Int.intTooBig ((Builtin.Int.intBits a:Int)+(Builtin.Int.intBits b:Int))=false:=by
  unfold Builtin.Int.intTooBig
  rw[PySem.bitsLine_eq]
  exact decide_eq_false (by omega)
 unfold IntMulOk
 rw[k]
 simp
def Wc (H:Hp):List V→List (Int×Int)→Prop:=Paired fun v t=>∃a,v= .ref a∧H a=some (.tup [.int t.1,.int t.2])
theorem Wc.keep {H H':Hp} (k:∀b xs,H b=some (.tup xs)→H' b=some (.tup xs)) {vs:List V} {l:List (Int×Int)} (h:Wc H vs l):Wc H' vs l:=Paired.mapP h fun _ _ ⟨a,e,z⟩=>⟨a,e,k _ _ z⟩
theorem Wc.length {H:Hp} {vs:List V} {l:List (Int×Int)} (h:Wc H vs l):vs.length=l.length:=Paired.length h
theorem Wc.snoc {H:Hp}:∀{vs:List V} {l:List (Int×Int)} {x:Int×Int} {t:Addr},Wc H vs l→H t=some (.tup [.int x.1,.int x.2])→Wc H (vs++ [.ref t]) (l++ [x])
 |_,_,_,_,.nil,h=> .cons ⟨_,rfl,h⟩ .nil
 |_,_,_,_,.cons y r,h=> .cons y (Wc.snoc r h)
theorem Wc.getD {H:Hp}:∀{vs:List V} {l:List (Int×Int)} {i:Nat},Wc H vs l→i<l.length→∃t,vs.getD i .non= .ref t∧H t=some (.tup [.int (l.getD i (0,0)).1,.int (l.getD i (0,0)).2])
 |_,_,_,.nil,e=>by simp at e
 |_,_,0,.cons ⟨t,e1,h⟩ _,_=>⟨t,by simp[e1],h⟩
 |_,_,i+1,.cons _ r,e=>by
  obtain⟨t,h1,h2⟩:=Wc.getD (i:=i) r (by simpa using e)
  exact⟨t,by simpa using h1,by simpa using h2⟩
def formV (k:Int) (ts:List (Int×Int)) (xs:List Int):Int:=k+(ts.map fun t=>t.2*xs.getD t.1.toNat 0).sum
theorem Yo {f:Nat→Int}:∀{is:List Nat} {ys:List V},Paired (fun i v=>v=V.int (f i)) is ys→ys=(is.map f).map V.int
 |_,_,.nil=>rfl
 |_,_,.cons a r=>by rw[a,Yo r];rfl
theorem YW {α β:Type} (f:α→β) (l:List α) (d:α):((List.range l.length).map fun i=>f (l.getD i d))=l.map f:=by
 refine List.ext_getElem (by simp) fun i h1 h2=>?_
 have hi:i<l.length:=by simpa using h2
 simp[List.getD,hi]
theorem ZhK:∀i<26,("abcdefghijklmnopqrstuvwxyz" :Str).cps.toList[i]? =some (97+i):=by decide+kernel
theorem Zhl:("abcdefghijklmnopqrstuvwxyz" :Str).length≤sizeLine:=by decide+kernel
theorem Zh8 {i:Int} (h0:0≤i) (h1:i<26):atI ("abcdefghijklmnopqrstuvwxyz" :Str).cps.toList i=some (97+i.toNat):=by
 have:=YQ (ZhK i.toNat (by omega))
 rwa [Int.toNat_of_nonneg h0] at this
theorem ZeS (x:Str):Ys x=true↔1≤x.length∧x.length≤8∧∀c∈x.cps.toList,97≤c∧c≤122:=by
 unfold Ys
 simp only[Bool.and_eq_true,decide_eq_true_eq,List.all_eq_true]
 exact⟨fun h=>⟨h.1.1,h.1.2,h.2⟩,fun h=>⟨⟨h.1,h.2.1⟩,h.2.2⟩⟩
theorem Zfb (x y:Str):(x++y).cps.toList=x.cps.toList++y.cps.toList:=by
 show(x.cps++y.cps).toList=_
 simp
theorem Zcj (x:Str):x.length=x.cps.toList.length:=by simp[Str.length]
def cellX (ns:List Int) (k:Int):Int:=if(ns.length:Int)=0 then 0 else if k / ns.length=0 then ns.getD (k % ns.length).toNat 0 else ns.getD (k % ns.length).toNat 0*(2*(k / ns.length)+1) % 1000003+31*(k / ns.length)
theorem ZeO {n:Nat} (h:n≤100000000):(n:Int).natAbs.log2<9000:=by
 rw[Int.natAbs_natCast]
 by_cases h0:n=0
 ·rw[h0];decide+kernel
 ·have:=(Nat.log2_lt h0).mpr (show n<2 ^ 30 by omega)
  omega
theorem ZeU {x:Int} (h0:0≤x) (h1:x≤100000000):x.natAbs.log2<9000:=by
 obtain⟨n,rfl⟩:=Int.eq_ofNat_of_zero_le h0
 exact ZeO (by omega)
structure Bel (n:Nat) (b:B5):Prop where
 rg:0≤b.giver∧b.giver<(n:Int)∧0≤b.taker∧b.taker<(n:Int)
 sz:1≤b.give∧1≤b.take
 st:0≤b.start∧b.start≤1000
 few:b.give≤40∧b.take≤40
def Zir (rs:List Int):Prop:=∀r∈rs,1≤r∧r≤4
theorem Zb6 {H H1 H2:Hp} {fp fp2:List Addr} (s:Zd H H1) (n:∀x∈fp,H x=none) (fr:Zp fp H1 H2) (gr:ZO fp fp2 H1):Zd H H2∧∀x∈fp2,H x=none:=by
 refine⟨fun b o e=>fr.keep _ _ (s _ _ e) (fun z=>by have:=n b z;rw[e] at this;cases this),fun x hx=>?_⟩
 rcases gr x hx with z|z
 ·exact n x z
 ·exact Z2 s z
def ZgD (xs:List Int):Prop:=∀x∈xs,x.natAbs≤10 ^ 31
theorem Zfy {H:Hp} {ys:List V} {xss:List (List Int)} {t:Addr} {xs:List Int} (h:ZV H ys xss) (ht:H t=some (.lst (xs.map V.int))):ZV H (ys++ [.ref t]) (xss++ [xs]):=ZV.snoc h ht
def chN (c at_:Int) (k p:Nat):Nat:=97+((if(p:Int)=at_ then c / 64+3*(k:Int) else c / (64+(p:Int))) % 26).toNat
theorem ZiD (c at_:Int) (k p:Nat):97≤chN c at_ k p∧chN c at_ k p≤122:=by unfold chN;omega
theorem Zh4 {c at_:Int} {k k' p:Nat} (hp:(p:Int)=at_) (h:k<8) (h':k'<8) (n:k≠k'):chN c at_ k p≠chN c at_ k' p:=by
 unfold chN
 rw[if_pos hp,if_pos hp]
 omega
structure UZ (c at_:Int) (lg:Nat) (nms:List Str):Prop where
 cps:∀k x,nms[k]? =some x→x.cps.toList=(List.range lg).map (chN c at_ k)
theorem UZ.name {c at_:Int} {lg:Nat} {nms:List Str} (h:UZ c at_ lg nms) (h1:1≤lg) (h2:lg≤8):∀n∈nms,Ys n=true:=fun n hn=>by
 obtain⟨k,hk⟩:=List.getElem?_of_mem hn
 have e:=h.cps k n hk
 rw[ZeS,Zcj,e]
 refine⟨by simpa using h1,by simpa using h2,fun x hx=>?_⟩
 obtain⟨i,_,rfl⟩:=List.mem_map.mp hx
 exact ZiD c at_ k i
theorem UZ.nodup {c at_:Int} {lg:Nat} {nms:List Str} (h:UZ c at_ lg nms) (hl:nms.length≤8) (h0:0≤at_) (h1:at_<(lg:Int)):nms.Nodup:=by
 rw[List.nodup_iff_pairwise_ne,List.pairwise_iff_getElem]
 intro i j hi hj hij e
 have e1:=h.cps i _ (List.getElem?_eq_getElem hi)
 have e2:=h.cps j _ (List.getElem?_eq_getElem hj)
 rw[e,e2] at e1
 have hp:at_.toNat<lg:=by omega
 have e3:=congrArg (fun l=>l[at_.toNat]?) e1
 simp[hp] at e3
 exact Zh4 (c:=c) (at_:=at_) (k:=j) (k':=i) (p:=at_.toNat) (by omega) (by omega) (by omega) (by omega) e3
theorem Zb8 {ns:List Int} {k:Int} (h0:0≤k) (h1:k<ns.length):atI (ns.map V.int) k=some (.int (ns.getD k.toNat 0)):=W9 h0 h1
theorem Zgx {xs:List V} {k:Nat} (h:k≤xs.length):Wx xs (some (k:Int)) none=xs.drop k:=by
 have e1:HT.sIx xs.length 0 (some (k:Int))=k:=by
  simp only[HT.sIx]
  rw[if_neg (by omega)]
  simp
  omega
 have e2:HT.sIx xs.length xs.length none=xs.length:=by simp[HT.sIx]
 unfold Wx
 rw[e1,e2,List.take_of_length_le (by rw[List.length_drop];exact Nat.le_refl _)]
def Yi {K:PySem.W.Frag} {mg:Str→Option Value} (T:Tp K mg) (H:Hp) (a:Addr) (xs:List Int) (fp:List Addr):Prop:=
 ∃(dx l:Addr) (laid:List Int) (g:Nat),fp=[a,dx,l]∧H a=some (.ins T.C_Lane dx [("laid",.ref l),("gone",.int g)])∧H dx=some (.own a)∧H l=some (.lst (laid.map V.int))∧g≤laid.length∧laid.drop g=xs∧laid.length≤2*xs.length
section
variable {K:PySem.W.Frag} {mg:Str→Option Value} {T:Tp K mg} {H H':Hp} {p:Addr} {xs:List Int} {fp:List Addr}
theorem Yi.dom (h:Yi T H p xs fp):∀x∈fp,H x≠none:=by
 obtain⟨dx,l,laid,g,rfl,h1,h2,h3,_⟩:=h
 intro x hx
 simp only[List.mem_cons,List.not_mem_nil,or_false] at hx
 rcases hx with rfl|rfl|rfl
 ·rw[h1];simp
 ·rw[h2];simp
 ·rw[h3];simp
theorem Yi.off {A:List Addr} (h:Yi T H p xs fp) (f:Zp A H H') (d:∀x∈fp,x∉A):Yi T H' p xs fp:=by
 obtain⟨dx,l,laid,g,rfl,h1,h2,h3,h4,h5,h6⟩:=h
 exact⟨dx,l,laid,g,rfl,f.keep _ _ h1 (d p (by simp)),f.keep _ _ h2 (d dx (by simp)),f.keep _ _ h3 (d l (by simp)),h4,h5,h6⟩
theorem Yi.same (h:Yi T H p xs fp) (e:Zd H H'):Yi T H' p xs fp:=h.off (A:=[]) e.frame (by simp)
theorem ZfX {m:Str} {G:Prop} (h:Yi T H p xs fp) (m1:(m== "laid")=false) (m2:(m== "gone")=false) (q:G):∃a dx fs,V.ref p= .ref a∧H a=some (.ins T.C_Lane dx fs)∧fs.lookup m=none∧G:=by
 obtain⟨dx,l,laid,g,rfl,h1,_⟩:=h
 exact⟨p,dx,_,rfl,h1,Rd.lk1 m1 (Rd.lk1 m2 Rd.lkN),q⟩
end
theorem Zam {H:Hp}:∀{l:List (Int×Int)} {vs:List V} {i:Nat},Y3 H l vs→i<l.length→∃t,vs.getD i .non= .ref t∧H t=some (.tup [.int (l.getD i (0,0)).1,.int (l.getD i (0,0)).2])
 |_,_,_,.nil,e=>by simp at e
 |_,_,0,.cons ⟨t,e1,h⟩ _,_=>⟨t,by simp[e1],h⟩
 |_,_,i+1,.cons _ r,e=>by
  obtain⟨t,h1,h2⟩:=Zam (i:=i) r (by simpa using e)
  exact⟨t,by simpa using h1,by simpa using h2⟩
abbrev ZT:=Int×List (Int×Int)
def WY (H:Hp) (v:V) (f:ZT):Prop:=∃a tm tvs,v= .ref a∧H a=some (.tup [.int f.1,.ref tm])∧H tm=some (.tup tvs)∧Wc H tvs f.2
theorem WY.keep {H H':Hp} (k:∀b xs,H b=some (.tup xs)→H' b=some (.tup xs)) {v:V} {f:ZT} (h:WY H v f):WY H' v f:=by
 obtain⟨a,tm,tvs,e,h1,h2,h3⟩:=h
 exact⟨a,tm,tvs,e,k _ _ h1,k _ _ h2,h3.keep k⟩
def U3 (H:Hp) (v:V) (fs:List ZT):Prop:=∃a vs,v= .ref a∧H a=some (.tup vs)∧Paired (WY H) vs fs
theorem U3.keep {H H':Hp} (k:∀b xs,H b=some (.tup xs)→H' b=some (.tup xs)) {v:V} {f:List ZT} (h:U3 H v f):U3 H' v f:=by
 obtain⟨a,vs,e,h1,h2⟩:=h
 exact⟨a,vs,e,k _ _ h1,Paired.mapP h2 fun _ _ z=>z.keep k⟩
def YR (H:Hp) (vs:List V) (fss:List (List ZT)):Prop:=Paired (U3 H) vs fss
theorem YR.keep {H H':Hp} (k:∀b xs,H b=some (.tup xs)→H' b=some (.tup xs)) {vs:List V} {f:List (List ZT)} (h:YR H vs f):YR H' vs f:=Paired.mapP h fun _ _ z=>z.keep k
theorem YB {α β:Type} {P:α→β→Prop} {d:α} {e:β}:∀{xs:List α} {ys:List β} {i:Nat},Paired P xs ys→i<ys.length→P (xs.getD i d) (ys.getD i e)
 |_,_,_,.nil,h=>by simp at h
 |_,_,0,.cons h _,_=>by simpa using h
 |_,_,i+1,.cons _ r,h=>by simpa using YB (i:=i) r (by simpa using h)
def slotN (rows:List B5) (w:Int):Int:=((takeRow rows w).map (·.2)).sum
def WG (rows:List B5) (w:Int):Int:=((giveRow rows w).map (·.2)).sum
structure ZbO (n:Int) (f:ZT):Prop where
 few:f.2.length≤1000
 ter:∀t∈f.2,0≤t.1∧t.1<n∧t.2.natAbs≤4
structure U1 (rows:List B5) (w:Int) (fs:List ZT):Prop where
 len:(fs.length:Int)=WG rows w
 few:fs.length≤100000
 ok:∀f∈fs,ZbO (slotN rows w) f
theorem Zas:∀{l:List Nat} {k:Nat},l.Pairwise (· < ·)→(hk:k<l.length)→l.filter (fun x=>decide (x<l[k]))=l.take k
 | [],_,_,hk=>by simp at hk
 |a::l,0,h,_=>by
  obtain⟨h1,h2⟩:=List.pairwise_cons.mp h
  show(a::l).filter (fun x=>decide (x<a))=[]
  refine List.filter_eq_nil_iff.mpr fun x hx=>?_
  rcases List.mem_cons.mp hx with rfl|hx
  ·simp
  ·have:=h1 x hx
   simp;omega
 |a::l,k+1,h,hk=>by
  obtain⟨h1,h2⟩:=List.pairwise_cons.mp h
  have hk':k<l.length:=by simpa using hk
  have e:=Zas h2 hk'
  have ha:=h1 _ (List.getElem_mem hk')
  show(a::l).filter (fun x=>decide (x<l[k]))=a::l.take k
  rw[List.filter_cons,if_pos (decide_eq_true ha),e]
def YL (rows:List B5) (w:Int) (i:Nat):Int:=(((leaveL rows w).filter fun j=>decide (j<i)).map fun j=>(rows.getD j dB).give).sum
theorem Zez {rows:List B5} {w:Int} {k:Nat} (hk:k<(leaveL rows w).length):YL rows w (leaveL rows w)[k]=(((leaveL rows w).take k).map fun j=>(rows.getD j dB).give).sum:=by
 have hs:(leaveL rows w).Pairwise (· < ·):=List.pairwise_lt_range.filter _
 unfold YL
 rw[Zas hs hk]
def ZA (rows:List B5) (fss:List (List ZT)):MM.Sys:=⟨rows.length,fun i=>(rows.getD i dB).taker,fun i=>(rows.getD i dB).giver,fun i=>(rows.getD i dB).take.toNat,fun i xs=>(((fss.getD (rows.getD i dB).giver.toNat []).map fun f=>formV f.1 f.2 xs).drop (YL rows (rows.getD i dB).giver i).toNat).take (rows.getD i dB).give.toNat⟩
def V6 (H:Hp) (a:Addr):Hp:=fun b=>if b=a then H a else none
theorem Vb {H:Hp} {a:Addr}:V6 H a a=H a:=by unfold V6;rw[if_pos rfl]
theorem Wn {H H':Hp} {a:Addr} (h:H' a=H a):Zd (V6 H a) H':=fun b o e=>by
 unfold V6 at e
 split at e
 ·next z=>rw[z,h,e]
 ·cases e
theorem Zp.grow {A B:List Addr} {H H1 H2:Hp} (f:Zp A H H1) (g:ZO A B H) (f2:Zp B H1 H2):Zp A H H2:=
 ⟨fun c o h n=>f2.keep c o (f.keep c o h n) fun z=>(g c z).elim n fun e=>(by rw[h] at e;cases e),fun c xs h=>f2.tups c xs (f.tups c xs h)⟩
theorem ZO.grow {A B C:List Addr} {H H1:Hp} (g:ZO A B H) (f:Zp A H H1) (g2:ZO B C H1):ZO A C H:=fun x hx=>by
 rcases g2 x hx with h|h
 ·exact g x h
 ·cases e:H x with
  |none=>exact .inr rfl
  |some o=>
   by_cases z:x∈A
   ·exact .inl z
   ·rw[f.keep x o e z] at h;cases h
def Yy {K:PySem.W.Frag} {mg:Str→Option Value} (T:Tp K mg) (H:Hp) (as:List Addr) (st:Nat→List Int) (fps:Nat→List Addr):Prop:=
 (∀i<as.length,Yi T H (as.getD i 0) (st i) (fps i))∧∀i j,i<as.length→j<as.length→i≠j→∀x∈fps i,x∉fps j
def Y2 (n:Nat) (fps:Nat→List Addr):List Addr:=(List.range n).flatMap fps
theorem Vc {n:Nat} {fps:Nat→List Addr} {x:Addr}:x∈Y2 n fps↔∃i<n,x∈fps i:=by
 unfold Y2
 rw[List.mem_flatMap]
 exact⟨fun⟨i,h1,h2⟩=>⟨i,List.mem_range.mp h1,h2⟩,fun⟨i,h1,h2⟩=>⟨i,List.mem_range.mpr h1,h2⟩⟩
section
variable {K:PySem.W.Frag} {mg:Str→Option Value} {T:Tp K mg} {H H':Hp} {as:List Addr} {st:Nat→List Int} {fps:Nat→List Addr}
theorem Yy.put {k:Nat} {xs:List Int} {fp':List Addr} (h:Yy T H as st fps) (hk:k<as.length) (hl:Yi T H' (as.getD k 0) xs fp') (f:Zp (fps k) H H') (g:ZO (fps k) fp' H):
  Yy T H' as (fun i=>if i=k then xs else st i) (fun i=>if i=k then fp' else fps i):=by
 have off:∀i<as.length,i≠k→∀x∈fps i,x∉fp':=fun i hi n x hx z=>by
  rcases g x z with q|q
  ·exact h.2 i k hi hk n x hx q
  ·exact(h.1 i hi).dom x hx q
 refine⟨fun i hi=>?_,fun i j hi hj n x hx=>?_⟩
 ·by_cases e:i=k
  ·subst e;simpa using hl
  ·simp only[if_neg e]
   exact(h.1 i hi).off f (h.2 i k hi hk e)
 ·by_cases e1:i=k
  ·by_cases e2:j=k
   ·exact absurd (e1.trans e2.symm) n
   ·simp only[if_pos e1,if_neg e2] at hx⊢
    exact fun z=>off j hj e2 x z hx
  ·by_cases e2:j=k
   ·simp only[if_neg e1,if_pos e2] at hx⊢
    exact off i hi e1 x hx
   ·simp only[if_neg e1,if_neg e2] at hx⊢
    exact h.2 i j hi hj n x hx
theorem Yy.off {A:List Addr} (h:Yy T H as st fps) (f:Zp A H H') (d:∀i<as.length,∀x∈fps i,x∉A):Yy T H' as st fps:=⟨fun i hi=>(h.1 i hi).off f (d i hi),h.2⟩
theorem Yy.congr {st':Nat→List Int} (h:Yy T H as st fps) (e:∀i<as.length,st i=st' i):Yy T H as st' fps:=⟨fun i hi=>e i hi▸h.1 i hi,h.2⟩
theorem Yy.ix (i:Nat) (hi:i<as.length):atI (as.map V.ref) (i:Int)=some (.ref (as.getD i 0)):=YQ (by rw[List.getElem?_map];simp[List.getD,hi])
end
def Z3 {K:PySem.W.Frag} {mg:Str→Option Value} (T:Tp K mg) (H:Hp) (p:Addr) (fl:FM) (fss:List (List ZT)) (st:Nat→List Int) (fp:List Addr):Prop:=
 ∃(dx f c la:Addr) (ffp:List Addr) (fvs:List V) (as:List Addr) (fps:Nat→List Addr),fp=(p::dx::c::la::ffp)++Y2 as.length fps∧
  H p=some (.ins T.C_Mill dx [("floor",.ref f),("forms",.ref c),("lanes",.ref la)])∧H dx=some (.own p)∧Yk T H f fl ffp∧H c=some (.lst fvs)∧YR H fvs fss∧H la=some (.lst (as.map V.ref))∧as.length=fl.rows.length∧
  Yy T H as st fps∧(∀i<as.length,∀x∈fps i,x∉p::dx::c::la::ffp)∧∀x∈ffp,x∉[p,dx,c,la]
section
variable {K:PySem.W.Frag} {mg:Str→Option Value} {T:Tp K mg} {H H':Hp} {p:Addr} {fl:FM} {fss:List (List ZT)} {st:Nat→List Int} {fp:List Addr}
theorem Z3.dom (h:Z3 T H p fl fss st fp):∀x∈fp,H x≠none:=by
 obtain⟨dx,f,c,la,ffp,fvs,as,fps,rfl,h1,h2,h3,h4,h5,h6,h7,h8,h9,h10⟩:=h
 intro x hx
 rcases List.mem_append.mp hx with hx|hx
 ·simp only[List.mem_cons] at hx
  rcases hx with rfl|rfl|rfl|rfl|hx
  ·rw[h1];simp
  ·rw[h2];simp
  ·rw[h4];simp
  ·rw[h6];simp
  ·exact h3.dom x hx
 ·obtain⟨i,hi,hx⟩:=Vc.mp hx
  exact(h8.1 i hi).dom x hx
theorem Z3.off {A:List Addr} (h:Z3 T H p fl fss st fp) (fr:Zp A H H') (d:∀x∈fp,x∉A):Z3 T H' p fl fss st fp:=by
 obtain⟨dx,f,c,la,ffp,fvs,as,fps,rfl,h1,h2,h3,h4,h5,h6,h7,h8,h9,h10⟩:=h
 exact⟨dx,f,c,la,ffp,fvs,as,fps,rfl,fr.keep _ _ h1 (d p (by simp)),fr.keep _ _ h2 (d dx (by simp)),h3.off fr (fun x hx=>d x (by simp[hx])),fr.keep _ _ h4 (d c (by simp)),h5.keep fr.tups,fr.keep _ _ h6 (d la (by simp)),h7,
  h8.off fr (fun i hi x hx=>d x (List.mem_append_right _ (Vc.mpr ⟨i,hi,hx⟩))),h9,h10⟩
theorem Z3.same (h:Z3 T H p fl fss st fp) (e:Zd H H'):Z3 T H' p fl fss st fp:=h.off (A:=[]) e.frame (by simp)
theorem ZfG {m:Str} {G:Prop} (h:Z3 T H p fl fss st fp) (m1:(m== "floor")=false) (m2:(m== "forms")=false) (m3:(m== "lanes")=false) (q:G):∃a dx fs,V.ref p= .ref a∧H a=some (.ins T.C_Mill dx fs)∧fs.lookup m=none∧G:=by
 obtain⟨dx,f,c,la,ffp,fvs,as,fps,rfl,h1,_⟩:=h
 exact⟨p,dx,_,rfl,h1,Rd.lk1 m1 (Rd.lk1 m2 (Rd.lk1 m3 Rd.lkN)),q⟩
end
structure YH (rows:List B5):Prop where
 few:rows.length≤100
 rg:∀r∈rows,0≤r.take∧r.take≤1000∧0≤r.give∧r.give≤1000
theorem YH.at {rows:List B5} (h:YH rows) {i:Nat} (hi:i<rows.length):0≤(rows.getD i dB).take∧(rows.getD i dB).take≤1000∧0≤(rows.getD i dB).give∧(rows.getD i dB).give≤1000:=h.rg _ (by rw[ZF hi];exact List.getElem_mem _)
theorem Zg1 {js:List Nat} {f:Nat→Int} {H:Hp} {vs:List V} {i:Nat} (h:Y3 H (js.map fun i:Nat=>((i:Int),f i)) vs) (hi:i<js.length):∃t,vs.getD i .non= .ref t∧H t=some (.tup [.int (js[i]:Nat),.int (f js[i])]):=by
 obtain⟨v,hv,t,rfl,ht⟩:=Paired.get h (i:=i) (x:=((js[i]:Int),f js[i])) (by rw[List.getElem?_map,List.getElem?_eq_getElem hi];rfl)
 exact⟨t,by simp[List.getD,hv],ht⟩
theorem ZaV {A:List Addr} {H H':Hp} {r:Addr} {o:HO} (f:Zp A H H') (hr:H r=none):Zp A H (upd H' r o):=
 ⟨fun b z e n=>by rw[Zi (Zq e hr)];exact f.keep b z e n,fun b xs e=>by rw[Zi (Zq e hr)];exact f.tups b xs e⟩
theorem ZdY {is:List Nat} (nd:is.Nodup) {k:Nat} (hk:k<is.length):is[k]∉is.take k:=fun z=>by
 obtain⟨j,hj,e⟩:=List.getElem_of_mem z
 rw[List.length_take] at hj
 rw[List.getElem_take] at e
 have:=(List.getElem_inj (h₀:=by omega) (h₁:=hk) nd).mp e
 omega
theorem Zaq {is:List Nat} {k:Nat} (hk:k<is.length) {j:Nat}:j∈is.take (k+1)↔j∈is.take k∨j=is[k]:=by
 rw[List.take_succ_eq_append_getElem hk,List.mem_append,List.mem_singleton]
theorem ZfQ {S:MM.Sys} {st:Nat→List Int} {w:Int} (h:MM.ok S st w):(MM.slots S st w).length=(((List.range S.n).filter fun i=>decide (S.taker i=w)).map S.take).sum:=by
 unfold MM.slots
 rw[List.length_flatMap]
 congr 1
 refine List.map_congr_left fun i hi=>?_
 obtain⟨h1,h2⟩:=List.mem_filter.mp hi
 rw[List.length_take]
 exact Nat.min_eq_left (h i (List.mem_range.mp h1) (of_decide_eq_true h2))
theorem VE:∀{is:List Nat} {f:Nat→Int},(∀i∈is,0≤f i)→(is.map f).sum=(((is.map fun i=>(f i).toNat).sum:Nat):Int)
 | [],_,_=>rfl
 |i::is,f,h=>by
  have:=VE (is:=is) (f:=f) fun j hj=>h j (List.mem_cons_of_mem _ hj)
  have:=h i List.mem_cons_self
  simp only[List.map_cons,List.sum_cons]
  omega
theorem Zem {rows:List B5} {fss:List (List ZT)} {st:Nat→List Int} {w:Int} (hb:YH rows) (h:MM.ok (ZA rows fss) st w):((MM.slots (ZA rows fss) st w).length:Int)=slotN rows w:=by
 rw[ZfQ h]
 unfold slotN takeRow
 rw[List.map_map]
 exact(VE (is:=ZE rows w) (f:=fun i=>(rows.getD i dB).take) fun i hi=>(hb.at (Y4 hi)).1).symm
structure YK (many:Int) (rows:List B5) (fss:List (List ZT)):Prop where
 len:fss.length=many.toNat
 ok:∀w,0≤w→w<many→U1 rows w (fss.getD w.toNat [])
def VC (rows:List B5) (hs:List Int) (st:Nat→List Int):Prop:=hs.length=rows.length∧∀i<rows.length,((st i).length:Int)=hs.getD i 0
theorem Zhj {many:Int} {rows:List B5} {fss:List (List ZT)} {w:Int} {xs:List Int} {i:Nat} (hb:YH rows) (ha:YK many rows fss) (w0:0≤w) (w1:w<many) (hi:i<rows.length) (hg:(rows.getD i dB).giver=w):((ZA rows fss).out i xs).length=(rows.getD i dB).give.toNat:=by
 show((((fss.getD (rows.getD i dB).giver.toNat []).map fun f=>formV f.1 f.2 xs).drop (YL rows (rows.getD i dB).giver i).toNat).take (rows.getD i dB).give.toNat).length=_
 rw[hg,List.length_take,List.length_drop,List.length_map]
 have hl:=(ha.ok w w0 w1).len
 have hgs:WG rows w=((leaveL rows w).map fun i=>(rows.getD i dB).give).sum:=by
  unfold WG giveRow
  rw[List.map_map];rfl
 have hm:i∈leaveL rows w:=List.mem_filter.mpr ⟨List.mem_range.mpr hi,decide_eq_true hg⟩
 obtain⟨k,hk,rfl⟩:=List.getElem_of_mem hm
 rw[Zez hk]
 have lvl:∀j∈leaveL rows w,0≤(rows.getD j dB).give:=fun j hj=>(hb.at (WN hj)).2.2.1
 generalize leaveL rows w=lv at*
 have e1:(lv.map fun i=>(rows.getD i dB).give).sum=((lv.take k).map fun i=>(rows.getD i dB).give).sum+(rows.getD lv[k] dB).give+((lv.drop (k+1)).map fun i=>(rows.getD i dB).give).sum:=by
  conv=>lhs;rw[←List.take_append_drop (k+1) lv,List.take_succ_eq_append_getElem hk]
  rw[List.map_append,List.map_append,List.sum_append,List.sum_append]
  simp
 have e2:0≤((lv.drop (k+1)).map fun i=>(rows.getD i dB).give).sum:=by
  rw[VE fun j hj=>lvl j (List.mem_of_mem_drop hj)];omega
 have e3:0≤((lv.take k).map fun i=>(rows.getD i dB).give).sum:=by
  rw[VE fun j hj=>lvl j (List.mem_of_mem_take hj)];omega
 have e4:=lvl _ (List.getElem_mem hk)
 omega
theorem ZcJ {many:Int} {rows:List B5} {fss:List (List ZT)} {hs hs':List Int} {st:Nat→List Int} {w:Int} (hb:YH rows) (ha:YK many rows fss) (hL:VC rows hs st) (ht:turnR many rows hs w= .ok hs'):(0≤w∧w<many)∧MM.ok (ZA rows fss) st w∧VC rows hs' (MM.step (ZA rows fss) st w):=by
 unfold turnR at ht
 split at ht
 ·next hw=>
  split at ht
  ·next hr=>
   cases ht
   have hok:MM.ok (ZA rows fss) st w:=fun i hi hk=>by
    have hi':i<rows.length:=hi
    have hlt:i<hs.length:=by rw[hL.1];exact hi'
    show(rows.getD i dB).take.toNat≤(st i).length
    have hk':(rows.getD i dB).taker=w:=hk
    have e:=hL.2 i hi'
    by_cases c:hs.getD i 0<(rows.getD i dB).take
    ·rw[Vr (w:=w) i (r:=rows[i]) (h:=hs[i]) (List.getElem?_eq_getElem hi') (List.getElem?_eq_getElem hlt) (by rw[←ZF (d:=dB) hi'];exact hk') (by rw[←ZF (d:=dB) hi',←ZF (d:=0) hlt];exact c)] at hr
     cases hr
    ·omega
   refine⟨hw,hok,by rw[Uo hL.1,hL.1],fun i hi=>?_⟩
   have hlt:i<hs.length:=by rw[hL.1];exact hi
   have h3:i<(WC rows hs w).length:=by rw[Uo hL.1];exact hlt
   rw[ZF h3,Zct hi hlt h3,←ZF (d:=dB) hi,←ZF (d:=0) hlt,←hL.2 i hi]
   show((if i<rows.length then(if(rows.getD i dB).taker=w then(st i).drop (rows.getD i dB).take.toNat else st i)++(if(rows.getD i dB).giver=w then(ZA rows fss).out i (MM.slots (ZA rows fss) st w) else[]) else st i).length:Int)=_
   rw[if_pos hi,List.length_append]
   have hb4:=hb.at hi
   have l1:(((if(rows.getD i dB).taker=w then(st i).drop (rows.getD i dB).take.toNat else st i).length:Nat):Int)=((st i).length:Int)-(if(rows.getD i dB).taker=w then(rows.getD i dB).take else 0):=by
    split
    ·next e=>
     have:=hok i hi e
     have this':(rows.getD i dB).take.toNat≤(st i).length:=this
     rw[List.length_drop];omega
    ·omega
   have l2:(((if(rows.getD i dB).giver=w then(ZA rows fss).out i (MM.slots (ZA rows fss) st w) else[]).length:Nat):Int)=(if(rows.getD i dB).giver=w then(rows.getD i dB).give else 0):=by
    split
    ·next e=>rw[Zhj hb ha hw.1 hw.2 hi e];omega
    ·rfl
   rw[←l1] at*
   push_cast
   rw[l1,l2]
  ·cases ht
 ·cases ht
theorem ZfS {many:Int} {rows:List B5} {fss:List (List ZT)} (hb:YH rows) (ha:YK many rows fss):∀{ws:List Int} {hs hs':List Int} {st:Nat→List Int},VC rows hs st→goR many rows hs ws= .ok hs'→(∀w∈ws,0≤w∧w<many)∧MM.Ok (ZA rows fss) st ws∧VC rows hs' (MM.run (ZA rows fss) st ws)
 | [],hs,hs',st,hL,e=>by
  have:hs=hs':=by simpa[goR] using e
  subst this
  exact⟨by simp,trivial,hL⟩
 |w::ws,hs,hs',st,hL,e=>by
  have e':(match turnR many rows hs w with| .ok hs'=>goR many rows hs' ws| .error e=> .error e)= .ok hs':=e
  cases q:turnR many rows hs w with
  |ok h1=>
   rw[q] at e'
   obtain⟨a1,a2,a3⟩:=ZcJ hb ha hL q
   obtain⟨b1,b2,b3⟩:=ZfS hb ha (ws:=ws) a3 e'
   refine⟨fun x hx=>?_,⟨a2,b2⟩,b3⟩
   rcases List.mem_cons.mp hx with rfl|hx
   ·exact a1
   ·exact b1 x hx
  |error b=>rw[q] at e';cases e'
theorem Zcs {rows:List B5} {fss:List (List ZT)} (hb:YH rows) {st:Nat→List Int} {w:Int} {i:Nat} (hi:i<rows.length):(MM.step (ZA rows fss) st w i).length≤(st i).length+1000:=by
 show(if i<rows.length then(if(rows.getD i dB).taker=w then(st i).drop (rows.getD i dB).take.toNat else st i)++(if(rows.getD i dB).giver=w then(ZA rows fss).out i (MM.slots (ZA rows fss) st w) else[]) else st i).length≤_
 have hb4:=hb.at hi
 have l2:(if(rows.getD i dB).giver=w then(ZA rows fss).out i (MM.slots (ZA rows fss) st w) else[]).length≤1000:=by
  split
  ·show((((fss.getD (rows.getD i dB).giver.toNat []).map fun f=>formV f.1 f.2 (MM.slots (ZA rows fss) st w)).drop (YL rows (rows.getD i dB).giver i).toNat).take (rows.getD i dB).give.toNat).length≤_
   rw[List.length_take];omega
  ·simp
 have l1:(if(rows.getD i dB).taker=w then(st i).drop (rows.getD i dB).take.toNat else st i).length≤(st i).length:=by
  split
  ·rw[List.length_drop];omega
  ·omega
 rw[if_pos hi,List.length_append]
 omega
theorem ZdF {rows:List B5} {fss:List (List ZT)} (hb:YH rows) {i:Nat} (hi:i<rows.length):∀{ws:List Int} {st:Nat→List Int},(MM.run (ZA rows fss) st ws i).length≤(st i).length+1000*ws.length
 | [],st=>by show(st i).length≤_;omega
 |w::ws,st=>by
  have h1:=ZdF hb hi (ws:=ws) (st:=MM.step (ZA rows fss) st w) (fss:=fss)
  have h2:=Zcs hb hi (st:=st) (w:=w) (fss:=fss)
  show(MM.run (ZA rows fss) (MM.step (ZA rows fss) st w) ws i).length≤_
  rw[List.length_cons]
  omega
theorem Yi.hid' {K:PySem.W.Frag} {mg:Str→Option Value} {T:Tp K mg} {H:Hp} {p r:Addr} {xs:List Int} {fp:List Addr} (h:Yi T H p xs fp) (n:r∉fp):Yi T (hid H r) p xs fp:=by
 obtain⟨dx,l,laid,g,rfl,h1,h2,h3,h4⟩:=h
 simp only[List.mem_cons,List.not_mem_nil,or_false,not_or] at n
 obtain⟨n1,n2,n3⟩:=n
 exact⟨dx,l,laid,g,rfl,by rw[WB (Ne.symm n1)];exact h1,by rw[WB (Ne.symm n2)];exact h2,by rw[WB (Ne.symm n3)];exact h3,h4⟩
theorem ZhA {ys:List V} {n:Nat} (hl:ys.length=n) (h:∀i<n,∃a,ys.getD i .non= .ref a):∃as:List Addr,ys=as.map V.ref∧as.length=n:=by
 induction ys generalizing n with
 |nil=>exact⟨[],rfl,by simpa using hl⟩
 |cons y ys ih=>
  cases n with
  |zero=>simp at hl
  |succ n=>
   obtain⟨as,e,l⟩:=ih (n:=n) (by simpa using hl) fun i hi=>by
    obtain⟨a,e⟩:=h (i+1) (by omega)
    exact⟨a,by simpa using e⟩
   obtain⟨a,ea⟩:=h 0 (by omega)
   have ea':y= .ref a:=by simpa using ea
   exact⟨a::as,by rw[ea',e];rfl,by simp[l]⟩
def Ud (xss:List (List Int)):List PyData:=xss.map fun xs=> .list (xs.map PyData.int)
theorem ZdT:∀xss:List (List Int),PyData.canLayAll0 (Ud xss)=true
 | []=>by simp[Ud,PyData.canLayAll0]
 |xs::xss=>by
  have h1:=ZdT xss
  have h2:=Zf4 xs
  unfold Ud at h1⊢
  rw[List.map_cons,PyData.canLayAll0,h2,h1]
  rfl
theorem ZaX (xss:List (List Int)):(PyData.list (Ud xss)).canLay0=true:=by
 rw[PyData.canLay0]
 exact ZdT xss
theorem ZbW:∀xss:List (List Int),PyData.depthAll (Ud xss)≤3
 | []=>by simp[Ud,PyData.depthAll]
 |xs::xss=>by
  have h1:=ZbW xss
  have h2:=ZbE xs
  unfold Ud at h1⊢
  simp only[List.map_cons,PyData.depthAll,PyData.depth] at h1⊢
  omega
theorem Zd8 (xss:List (List Int)):(PyData.list (Ud xss)).depth≤60:=by
 have:=ZbW xss
 simp only[PyData.depth]
 omega
theorem Zbv {K:PySem.W.Frag} {H:Hp}:∀{ys:List V} {xss:List (List Int)},ZV H ys xss→Wp K H ys (Ud xss)
 |_,_,.nil=> .nil
 |_,_,.cons ⟨t,e,h⟩ r=>by rw[e];exact .cons (WO.ints (.of h)) (Zbv r)
theorem Zhm {xs:List V} {k:Nat}:Wx xs (some (k:Int)) none=xs.drop (min k xs.length):=by
 have e1:HT.sIx xs.length 0 (some (k:Int))=min k xs.length:=by
  simp only[HT.sIx]
  rw[if_neg (by omega)]
  simp
 have e2:HT.sIx xs.length xs.length none=xs.length:=by simp[HT.sIx]
 unfold Wx
 rw[e1,e2,List.take_of_length_le (by rw[List.length_drop];exact Nat.le_refl _)]
theorem Ziw {xs:List V} {b:Int} (h:0≤b):Wx xs none (some b)=xs.take b.toNat:=by
 obtain⟨m,rfl⟩:=Int.eq_ofNat_of_zero_le h
 have e1:HT.sIx xs.length 0 none=0:=by simp[HT.sIx]
 have e2:HT.sIx xs.length xs.length (some (m:Int))=min m xs.length:=by
  simp only[HT.sIx]
  rw[if_neg (by omega)]
  simp
 unfold Wx
 rw[e1,e2,List.drop_zero,Nat.sub_zero,Int.toNat_natCast]
 rcases Nat.lt_or_ge m xs.length with c|c
 ·rw[Nat.min_eq_left (Nat.le_of_lt c)]
 ·rw[Nat.min_eq_right c,List.take_of_length_le (Nat.le_refl _),List.take_of_length_le c]
def ZbD (H H':Hp) (lo:Addr) (ys ys':List V) (st:Nat→List Int) (i:Nat):Prop:=∃t,ys'.getD i .non= .ref t∧t≠lo∧H' t=some (.lst ((st i).map V.int))∧(V.ref t∈ys∨H t=none)
local macro_rules| `(tactic|walk_at "rd")=>`(tactic|first|((with_reducible show ∃a dx fs,L2.V.ref _=L2.V.ref a∧_∧List.lookup _ fs=none∧_);with_reducible refine Nm.Zf7 (by with_reducible assumption) (by k_dflt (decide+kernel)) (by k_dflt (decide+kernel)) ?_)|with_reducible refine L2.Rd.Zke (by with_reducible assumption) (by with_reducible assumption) (by with_reducible assumption) ?_|with_reducible refine L2.Rd.Zj2 (by with_reducible assumption) (by with_reducible assumption) (by with_reducible assumption) ?_|((with_reducible show ∃a dx fs,L2.V.ref _=L2.V.ref a∧_∧List.lookup _ fs=none∧_);with_reducible refine Nm.ZeK (by with_reducible assumption) (by k_dflt (decide+kernel)) (by k_dflt (decide+kernel)) (by k_dflt (decide+kernel)) ?_)|((with_reducible show ∃a dx fs,L2.V.ref _=L2.V.ref a∧_∧List.lookup _ fs=none∧_);with_reducible refine Nm.ZfX (by with_reducible assumption) (by k_dflt (decide+kernel)) (by k_dflt (decide+kernel)) ?_)|((with_reducible show ∃a dx fs,L2.V.ref _=L2.V.ref a∧_∧List.lookup _ fs=none∧_);with_reducible refine Nm.ZfG (by with_reducible assumption) (by k_dflt (decide+kernel)) (by k_dflt (decide+kernel)) (by k_dflt (decide+kernel)) ?_)|fail "none here")
def YS {K:PySem.W.Frag} {mg:Str→Option Value} (T:Tp K mg):Sp:=fun vs H Q _=>∃(p:Addr) (ns:List Int) (k:Int),vs=[.ref p,.int k]∧SqL K H p (ns.map V.int)∧ns.length≤63∧0≤k∧k≤100000∧Q (.int (cellX ns k)) H
theorem ZdI {K:PySem.W.Frag} {mg:Str→Option Value} {T:Tp K mg} {H:Hp} {Q:VK} {E:XK} {p:Addr} {ns:List Int} {k:Int} (hS:SqL K H p (ns.map V.int)) (hl:ns.length≤63) (hk:0≤k∧k≤100000) (q:Q (.int (cellX ns k)) H):YS T ([.ref p,.int k]++ []) H Q E:=⟨p,ns,k,rfl,hS,hl,hk.1,hk.2,q⟩
local macro_rules| `(tactic|walk_at "rd")=>`(tactic|first|((with_reducible show Nm.YS _ _ _ _ _);with_reducible refine Nm.ZdI (by walk_at "hp") (by assumption) (by omega) ?_)|fail "none here")
section
variable {P:Program} {w:World} {K:PySem.W.Frag} {mg:Str→Option Value} {base:Heap}
theorem Vu (T:Tp K mg):Zj P w K mg base (CXX P w) 1 T.f_l_cell_at T.d_l_cell_at ["_law_script","_law_k"] (YS T):=by
 refine T.F_l_cell_at.okX Uz (fun vs H Q E h=>?_) (fun cdv A outer s H vs Q E hr h=>?_)
 ·obtain⟨p,ns,k,rfl,_⟩:=h
  rfl
 ·have hu:=hr.units
  obtain⟨p,ns,k,rfl,hS,hlen,k0,k1,q⟩:=h
  unfold cellX at q
  refine⟨_,(Zc (ZW (ZP (YD (K:=K) rfl hu) (Zt (Yx (K:=K) rfl) (by rfl) T.n_len PySem.boot_len (Za (pv 0) Zb)) Zf (ZQ _)) (Ze (ZC Zf)) ZJ)
     (Zc (Zs (i:=2) Uz.nd rfl (Or.inl rfl) (Zm Ye (pv 1) (Zt (Yx (K:=K) rfl) (by rfl) T.n_len PySem.boot_len (Za (pv 0) Zb))))
     (Zc (Zs (i:=3) Uz.nd rfl (Or.inl rfl) (ZI (ZS (K:=K) rfl) (pv 0) (Zm ZZ (pv 1) (Zt (Yx (K:=K) rfl) (by rfl) T.n_len PySem.boot_len (Za (pv 0) Zb))) (fun _ _=>rfl)))
     (Zc (ZW (ZP (YD (K:=K) rfl hu) (pv 2) Zf (ZQ _)) (Ze (ZC (pv 3))) ZJ)
     (Ze (ZC (Zm (ZU (K:=K) rfl) (Zm ZZ (Zm Yl (pv 3) (Zm (ZU (K:=K) rfl) (Zm Yl Zf (pv 2)) Zf)) Zf) (Zm Yl Zf (pv 2))))))))),?_⟩
  try dsimp only[L2.cxX,L2.ZL,L2.Zl]
  walk_at "rds"
  refine Rd.ifD (fun d=>?_) (fun d=>?_)
  ·have d':(ns.length:Int)=0:=by simpa using d
   rw[if_pos d'] at q
   walk_at "rds"
   exact q
  ·have d':¬(ns.length:Int)=0:=by simpa using d
   rw[if_neg d'] at q
   have e:((ns.map V.int).length:Int)=ns.length:=by simp
   have l0:0<((ns.map V.int).length:Int):=by omega
   have hl9:((ns.map V.int).length:Int).natAbs.log2<9000:=ZeO (by rw[List.length_map];omega)
   have ha:=W9 (ns:=ns) (k:=k % (ns.map V.int).length) (Int.emod_nonneg _ (by omega)) (by rw[e];exact Int.emod_lt_of_pos _ (by omega))
   have hq1:0≤k / ((ns.map V.int).length:Int):=Int.ediv_nonneg k0 (by omega)
   have hq2:k / ((ns.map V.int).length:Int)≤k:=Int.ediv_le_self _ k0
   have mo:IntMulOk (ns.getD (k % ((ns.map V.int).length:Int)).toNat 0) (2*(k / ((ns.map V.int).length:Int))+1):=IntMulOk.of_right (Nat.le_trans (ZaY (n:=30) (by omega)) (by decide))
   rw[←e] at q
   walk_at "rds"
   refine Rd.ifD (fun d2=>?_) (fun d2=>?_)
   ·rw[if_pos d2] at q
    walk_at "rds"
    exact q
   ·rw[if_neg d2] at q
    walk_at "rds"
    exact q
end
def ZaR {K:PySem.W.Frag} {mg:Str→Option Value} (T:Tp K mg):Sp:=fun vs H Q _=>∃(c sl:Int) (gr:Bool),vs=[.int c,.int sl,.bl gr]∧0≤sl∧sl≤100000∧
 ∀(r:Addr) (H':Hp) (f:ZT),Zd H H'→WY H' (.ref r) f→ZbO sl f→Q (.ref r) H'
section
variable {P:Program} {w:World} {K:PySem.W.Frag} {mg:Str→Option Value} {base:Heap}
theorem Zdd (T:Tp K mg):Zj P w K mg base (CXX P w) 1 T.f_l_form_by T.d_l_form_by ["_law_cell","_law_slots","_law_great"] (ZaR T):=by
 refine T.F_l_form_by.okX Wk (fun vs H Q E h=>?_) (fun cdv A outer s H vs Q E hr h=>?_)
 ·obtain⟨c,sl,gr,rfl,_⟩:=h
  rfl
 ·have hu:=hr.units
  obtain⟨c,sl,gr,rfl,sl0,sl1,q⟩:=h
  have e29:(10:Int) ^ Int.toNat 29=100000000000000000000000000000:=rfl
  refine⟨_,(Zc (Zs (i:=3) Wk.nd rfl (Or.inl rfl) (Zm ZZ (Zm Yl (pv 0) Zf) Zf))
     (Zc (Zs (i:=4) Wk.nd rfl (Or.inl rfl) (Zm UX (Zm ZZ (pv 3) Zf) Zf))
     (Zc (Vp (ZW (Z5 (K:=K) rfl (pv 2) (fun _=>rfl)) (Ze (Zs (i:=4) Wk.nd rfl (Or.inl rfl) (Zm UX (Zm ZZ (pv 0) (Zm Yl Zf (Zm U2 Zf Zf))) (Zm U2 Zf Zf)))) ZJ))
     (Zc (Zs (i:=5) Wk.nd rfl (Or.inl rfl) (YY Zb))
     (Zc (Z0 PassesOwn.leaving rfl (YF rfl T.n_range (Za (Zm Yl (Zm ZZ (Zm Ye (pv 3) Zf) Zf) (Zt (ZfB rfl) (by rfl) T.n_min PyProof.Rows.boot_min (Za (pv 1) (Za Zf Zb)))) Zb)) (Zk (i:=6) Wk.nd rfl (Or.inl rfl)) (Ze (ZK (YZ (K:=K) rfl PySem.F.plainAttrs_list PySem.F.slot_list_append PySem.F.type_list_append Yj (pv 5) (Za (VY (Za (Zm ZZ (Zm Ye (pv 3) (Zm (ZU (K:=K) rfl) Zf (Zm Yl Zf (pv 6)))) (pv 1)) (Za (Zm UX (Zm ZZ (Zm Ye (pv 3) (Zm (ZU (K:=K) rfl) Zf (Zm Yl Zf (pv 6)))) Zf) Zf) Zb))) Zb)))))
     (Ze (ZC (VY (Za (pv 4) (Za (Ya (Zev (K:=K) rfl) (by rfl) T.n_tuple PyProof.Rows.boot_tuple (Za (pv 5) Zb)) Zb)))))))))),?_⟩
  try dsimp only[L2.cxX,L2.ZL,L2.Zl]
  walk_at "rds"
  have m0:0≤c*48271 % 2147483647:=by omega
  have m1:c*48271 % 2147483647<2147483647:=by omega
  generalize c*48271 % 2147483647=mx at*
  refine Rd.cut (fun σ' H'=>H'=H∧∃kc:Int,σ'=[some (.int c),some (.int sl),some (.bl gr),some (.int mx),some (.int kc),none,none]) ?k1 ?i1
  case i1=>
   cases gr with
   |true=>
    walk_at "rds"
    exact⟨rfl,_,rfl⟩
   |false=>
    walk_at "rds"
    exact⟨rfl,_,rfl⟩
  case k1=>
   rintro σ' H' ⟨rfl,kc,rfl⟩
   walk_at "rds"
   refine⟨Nat.zero_le _,fun t ht=>?_⟩
   have s3:Zd H' (upd H' t (.lst [])):=Zo ht
   have v3:(upd H' t (.lst [])) t=some (.lst []):=Zg
   generalize upd H' t (.lst [])=H3 at*
   have mn:(0≤(if 1<sl then 1 else sl)∧(if 1<sl then 1 else sl)≤1):=by split<;>omega
   have mo:IntMulOk (mx / 41 % 4) ((if 1<sl then 1 else sl)):=mulI (n:=10) (m:=10) (by omega) (by have:=mn.1;have:=mn.2;generalize (if 1<sl then 1 else sl)=z at *;omega) (by decide)
   have mz:0<(if 1<sl then 1 else sl)→0<sl:=by split<;>omega
   have r0:0≤mx / 41 % 4*(if 1<sl then 1 else sl):=Int.mul_nonneg (by omega) (by omega)
   have r1:mx / 41 % 4*(if 1<sl then 1 else sl)≤3*1:=Int.mul_le_mul (by omega) (by omega) (by omega) (by omega)
   have r2:0<mx / 41 % 4*(if 1<sl then 1 else sl)→0<(if 1<sl then 1 else sl):=fun z=>by
    rcases(Int.le_iff_lt_or_eq.mp mn.1).symm.imp Eq.symm id with e|e
    ·rw[e,Int.mul_zero] at z;omega
    ·exact e
   walk_at "rds"
   generalize (if 1<sl then 1 else sl)=mm at*
   generalize mx / 41 % 4*mm=nn at*
   refine WP (n:=nn.toNat) (fun j σ H4=>∃(tvs:List V) (ts:List (Int×Int)) (a6:Option V),σ=[some (.int c),some (.int sl),some (.bl gr),some (.int mx),some (.int kc),some (.ref t),a6]∧Zd H' H4∧H4 t=some (.lst tvs)∧Wc H4 tvs ts∧ts.length=j∧∀x∈ts,0≤x.1∧x.1<sl∧x.2.natAbs≤4) ⟨[],[],_,rfl,s3,v3,.nil,rfl,by simp⟩ ?_ ?_
   ·rintro j σ H4 hj ⟨tvs,ts,b6,rfl,s4,ht4,hT4,hl4,hx4⟩
    have hj4:j<4:=by omega
    have np:0<sl:=mz (r2 (by omega))
    have d1:0<164+5*(0+(j:Int))∧(164+5*(0+(j:Int))).natAbs.log2<9000:=⟨by omega,ZeU (by omega) (by omega)⟩
    have d2:0<7+2*(0+(j:Int))∧(7+2*(0+(j:Int))).natAbs.log2<9000:=⟨by omega,ZeU (by omega) (by omega)⟩
    have d3:0<sl∧sl.natAbs.log2<9000:=⟨by omega,ZeU (by omega) (by omega)⟩
    have htz:tvs.length<sizeLine:=Zu (by have:=hT4.length;omega)
    walk_at "rds"
    have w1:=Int.emod_nonneg (mx / (164+5*(0+(j:Int)))) (show sl≠0 by omega)
    have w2:=Int.emod_lt_of_pos (mx / (164+5*(0+(j:Int)))) np
    have w3:(mx / (7+2*(0+(j:Int))) % 9-4).natAbs≤4:=by omega
    generalize mx / (164+5*(0+(j:Int))) % sl=x1 at*
    generalize mx / (7+2*(0+(j:Int))) % 9-4=x2 at*
    refine⟨by show 2≤sizeLine;decide,fun u hu1=>?_⟩
    have s5:Zd H4 (upd H4 u (.tup [V.int x1,V.int x2])):=Zo hu1
    have v5:(upd H4 u (.tup [V.int x1,V.int x2])) u=some (.tup [V.int x1,V.int x2]):=Zg
    generalize upd H4 u (.tup [V.int x1,V.int x2])=H5 at*
    have ht5:=s5 _ _ ht4
    walk_at "rds"
    have fr6:Zp [t] H5 (upd H5 t (.lst (tvs++ [.ref u]))):=ZR (by simp) ht5 (by intro _ z;cases z)
    refine⟨tvs++ [.ref u],ts++ [(x1,x2)],_,rfl,(s4.trans s5).new ht,Zg,((hT4.keep fun b xs e=>s5 _ _ e).keep fr6.tups).snoc (x:=(x1,x2)) (fr6.tups _ _ v5),by simp[hl4],fun x hx=>?_⟩
    rcases List.mem_append.mp hx with z|z
    ·exact hx4 x z
    ·rw[List.mem_singleton.mp z];exact⟨w1,w2,w3⟩
   ·rintro σ H4 ⟨tvs,ts,b6,rfl,s4,ht4,hT4,hl4,hx4⟩
    have htq:=SqL.of (K:=K) ht4
    walk_at "rds"
    refine⟨t,tvs,rfl,.inl ⟨htq,fun w hw=>?_⟩⟩
    have s5:Zd H4 (upd H4 w (.tup tvs)):=Zo hw
    have v5:(upd H4 w (.tup tvs)) w=some (.tup tvs):=Zg
    generalize upd H4 w (.tup tvs)=H5 at*
    walk_at "rds"
    refine⟨by show 2≤sizeLine;decide,fun u hu1=>?_⟩
    have s6:Zd H5 (upd H5 u (.tup [V.int kc,V.ref w])):=Zo hu1
    have v6:(upd H5 u (.tup [V.int kc,V.ref w])) u=some (.tup [V.int kc,V.ref w]):=Zg
    generalize upd H5 u (.tup [V.int kc,V.ref w])=H6 at*
    have s46:=s5.trans s6
    exact q u H6 (kc,ts) (s4.trans s46) ⟨u,w,tvs,rfl,v6,s6 _ _ v5,hT4.keep fun b xs e=>s46 _ _ e⟩ ⟨by show ts.length≤1000;omega,hx4⟩
end
def Zat {K:PySem.W.Frag} {mg:Str→Option Value} (T:Tp K mg):Sp:=fun vs H Q _=>∃(p lp:Addr) (ns:List Int) (bs:List V) (ls:List B5) (a0:Int) (m:Nat) (gr:Bool),vs=[.ref p,.int a0,.ref lp,.int m,.bl gr]∧SqL K H p (ns.map V.int)∧ns.length≤63∧H lp=some (.lst bs)∧YJ H bs ls∧ls.length≤20∧(∀l∈ls,Bel m l)∧0≤a0∧a0≤1000∧m≤10∧
 ∀(r:Addr) (H':Hp) (ys:List V) (fss:List (List ZT)),H r=none→Zd H H'→H' r=some (.lst ys)→YR H' ys fss→YK m ls fss→Q (.ref r) H'
theorem ZbP {H:Hp}:∀{ys:List V} {fss:List (List ZT)} {v:V} {fs:List ZT},YR H ys fss→U3 H v fs→YR H (ys++ [v]) (fss++ [fs])
 |_,_,_,_,.nil,h=> .cons h .nil
 |_,_,_,_,.cons x r,h=> .cons x (ZbP r h)
theorem Zcr {H:Hp}:∀{ys:List V} {fs:List ZT} {v:V} {f:ZT},Paired (WY H) ys fs→WY H v f→Paired (WY H) (ys++ [v]) (fs++ [f])
 |_,_,_,_,.nil,h=> .cons h .nil
 |_,_,_,_,.cons x r,h=> .cons x (Zcr r h)
theorem Zdu {is:List Nat} {f:Nat→Int} (h:∀i∈is,0≤f i∧f i≤40):0≤(is.map f).sum∧(is.map f).sum≤40*is.length:=by
 induction is with
 |nil=>simp
 |cons i is ih=>
  have a1:=ih fun j hj=>h j (List.mem_cons_of_mem _ hj)
  have a2:=h i List.mem_cons_self
  simp only[List.map_cons,List.sum_cons,List.length_cons]
  omega
section
variable {P:Program} {w:World} {K:PySem.W.Frag} {mg:Str→Option Value} {base:Heap}
theorem ZcR (T:Tp K mg):Zj P w K mg base (CXX P w) 2 T.f_l_forms_by T.d_l_forms_by ["_law_script","_law_at","_law_belts","_law_many","_law_great"] (Zat T):=by
 have G_l_form_by:Zj P w K mg base (CXX P w) 1 T.f_l_form_by T.d_l_form_by ["_law_cell","_law_slots","_law_great"] (ZaR T):=(Zdd T).mono (by decide)
 have G_l_cell_at:Zj P w K mg base (CXX P w) 1 T.f_l_cell_at T.d_l_cell_at ["_law_script","_law_k"] (YS T):=(Vu T).mono (by decide)
 refine T.F_l_forms_by.okX Yv (fun vs H Q E h=>?_) (fun cdv A outer s H vs Q E hr h=>?_)
 ·obtain⟨p,lp,ns,bs,ls,a0,m,gr,rfl,_⟩:=h
  rfl
 ·have hu:=hr.units
  obtain⟨p,lp,ns,bs,ls,a0,m,gr,rfl,hS,hlen,hlp,hT,hll,hst,z0,z1,hm,q⟩:=h
  have hbl:=hT.length
  have hat:∀i<ls.length,Bel m (ls.getD i dB):=fun i hi=>hst _ (by rw[ZF hi];exact List.getElem_mem _)
  refine⟨_,(Zc (Zs (i:=5) Yv.nd rfl (Or.inl rfl) (YY Zb))
     (Zc (Z0 PassesOwn.leaving rfl (YF rfl T.n_range (Za (pv 3) Zb)) (Zk (i:=6) Yv.nd rfl (Or.inr rfl)) (Zc (Zs (i:=7) Yv.nd rfl (Or.inl rfl) (Zt (Za4 (K:=K) rfl rfl) (by rfl) T.n_sum PyProof.Rows.boot_sum (Za (Z7 (xs:=["_law_belt"]) rfl (Z1 (x:="_law_belt") (zs:=["_law_work"]) (ix:=[6]) (Zh Wg) ["_law_script","_law_at","_law_belts","_law_many","_law_great","_law_forms","_law_work","_law_slots","_law_given","_law_some","_law_k"] rfl rfl (by decide+kernel)) (ZN (K:=K) rfl (pv 2)) (fun cl C s H fp=>⟨(Zk (i:=0) (show(["_law_belt","_law_work"]:List Str).Nodup by decide+kernel) rfl (Or.inl rfl)),(Up (ZP (YD (K:=K) rfl hu) (ZI (ZS (K:=K) rfl) (pv 0) Zf (fun _ _=>rfl)) (pv 1) (ZQ _))),(ZI (ZS (K:=K) rfl) (pv 0) Zf (fun _ _=>rfl))⟩)) Zb)))
     (Zc (Zs (i:=8) Yv.nd rfl (Or.inl rfl) (Zt (Za4 (K:=K) rfl rfl) (by rfl) T.n_sum PyProof.Rows.boot_sum (Za (Z7 (xs:=["_law_belt"]) rfl (Z1 (x:="_law_belt") (zs:=["_law_work"]) (ix:=[6]) (Zh Wg) ["_law_script","_law_at","_law_belts","_law_many","_law_great","_law_forms","_law_work","_law_slots","_law_given","_law_some","_law_k"] rfl rfl (by decide+kernel)) (ZN (K:=K) rfl (pv 2)) (fun cl C s H fp=>⟨(Zk (i:=0) (show(["_law_belt","_law_work"]:List Str).Nodup by decide+kernel) rfl (Or.inl rfl)),(Up (ZP (YD (K:=K) rfl hu) (ZI (ZS (K:=K) rfl) (pv 0) Zf (fun _ _=>rfl)) (pv 1) (ZQ _))),(ZI (ZS (K:=K) rfl) (pv 0) Zf (fun _ _=>rfl))⟩)) Zb)))
     (Zc (Zs (i:=9) Yv.nd rfl (Or.inl rfl) (YY Zb))
     (Zc (Z0 PassesOwn.leaving rfl (YF rfl T.n_range (Za (pv 8) Zb)) (Zk (i:=10) Yv.nd rfl (Or.inl rfl)) (Zc (ZK (YZ (K:=K) rfl PySem.F.plainAttrs_list PySem.F.slot_list_append PySem.F.type_list_append Yj (pv 9) (Za (Zz G_l_form_by hr rfl T.m_l_form_by T.F_l_form_by.kp T.b_l_form_by .nil Zn (Za (Zz G_l_cell_at hr rfl T.m_l_cell_at T.F_l_cell_at.kp T.b_l_cell_at .nil Zn (Za (pv 0) (Za (pv 1) Zb))) (Za (pv 7) (Za (pv 4) Zb)))) Zb)))
     (Ze (Zs (i:=1) Yv.nd rfl (Or.inl rfl) (Zm (ZU (K:=K) rfl) (pv 1) Zf)))))
     (Ze (ZK (YZ (K:=K) rfl PySem.F.plainAttrs_list PySem.F.slot_list_append PySem.F.type_list_append Yj (pv 5) (Za (Ya (Zev (K:=K) rfl) (by rfl) T.n_tuple PyProof.Rows.boot_tuple (Za (pv 9) Zb)) Zb)))))))))
     (Ze (ZC (pv 5))))),?_⟩
  try dsimp only[L2.cxX,L2.ZL,L2.Zl]
  walk_at "rds"
  refine⟨Nat.zero_le _,fun r hr=>?_⟩
  have s1:Zd H (upd H r (.lst [])):=Zo hr
  have v1:(upd H r (.lst [])) r=some (.lst []):=Zg
  generalize upd H r (.lst [])=H1 at*
  walk_at "rds"
  refine WP (n:=m) (fun i σ H'=>∃(ys:List V) (fss:List (List ZT)) (a6 a7 a8 a9 a10:Option V) (at_:Int),σ=[some (.ref p),some (.int at_),some (.ref lp),some (.int m),some (.bl gr),some (.ref r),a6,a7,a8,a9,a10]∧Zd H H'∧H' r=some (.lst ys)∧YR H' ys fss∧fss.length=i∧(∀j<i,U1 ls j (fss.getD j []))∧a0≤at_∧at_≤a0+1000*i) ⟨[],[],_,_,_,_,_,a0,rfl,s1,v1,.nil,rfl,fun j hj=>absurd hj (Nat.not_lt_zero _),by omega,by omega⟩ ?_ ?_
  ·rintro i σ H2 hi ⟨ys,fss,a6,a7,a8,a9,a10,at_,rfl,s2,hr2,hF2,hl2,hok2,b0,b1⟩
   have hlp2:=s2 _ _ hlp
   have hlp2q:=SqL.of (K:=K) hlp2
   have ei:(0:Int)+(i:Int)=(i:Int):=by omega
   walk_at "rds"
   refine ZM (own:=1) (ZG hlp2q).y (Zu (by omega)) (fun j=>[some (bs.getD j .non)]) (fun _=>rfl) (fun j=>decide ((ls.getD j dB).taker=0+(i:Int))) (fun j v _=>v= .int (ls.getD j dB).take) (fun _ _ _ _ _ z=>z) (fun j a' H' v H3 Kg hi sm y ha' k=>?_) (fun j H' Kc hi sm k=>?_) (fun pp j H' Kc hi hci hp0 hp1 sm k=>?_) (fun d H3 zs hd sm hl' hR=>?_)
   ·obtain⟨rfl,rfl⟩:=y
    obtain⟨x1,rfl⟩:∃x1,a'=[x1]:=by
     match a',ha' with
     | [x1],_=>exact⟨x1,rfl⟩
    walk_at "rds"
    exact k _ (Zd.refl _)
   ·obtain⟨t,et,ht⟩:=hT.getD (show j<ls.length by omega)
    rw[et]
    have ht':=sm _ _ (s2 _ _ ht)
    dsimp only[B5.v] at ht'
    walk_at "rds"
    exact k H' (Zd.refl H')
   ·obtain⟨t,et,ht⟩:=hT.getD (show j<ls.length by omega)
    rw[et]
    have ht':=sm _ _ (s2 _ _ ht)
    dsimp only[B5.v] at ht'
    walk_at "rds"
    exact k _ H' (Zd.refl H') rfl
   ·rw[hbl] at hR
    have ey:=Yo hR
    have esl:(((List.range ls.length).filter fun j=>decide ((ls.getD j dB).taker=0+(i:Int))).map fun j=>(ls.getD j dB).take).sum=slotN ls i:=by
     unfold slotN takeRow ZE
     rw[List.map_map,ei];rfl
    have bsl:0≤slotN ls i∧slotN ls i≤800:=by
     have h1:=Zdu (is:=ZE ls i) (f:=fun j=>(ls.getD j dB).take) fun j hj=>by
      have:=(hat j (Y4 hj)).few
      have:=(hat j (Y4 hj)).sz
      omega
     have h2:=Vh (ls:=ls) (w:=(i:Int))
     have h3:slotN ls i=((ZE ls i).map fun j=>(ls.getD j dB).take).sum:=by unfold slotN takeRow;rw[List.map_map];rfl
     rw[h3]
     omega
    have hds:=SqL.of (K:=K) (ey▸hl')
    have s03:=s2.trans sm
    have hlp3:=s03 _ _ hlp
    have hlp3q:=SqL.of (K:=K) hlp3
    walk_at "rds"
    refine⟨d,_,rfl,hds,?_⟩
    rw[esl]
    generalize hSN:slotN ls (i:Int)=sn at*
    walk_at "rds"
    refine ZM (own:=1) (ZG hlp3q).y (Zu (by omega)) (fun j=>[some (bs.getD j .non)]) (fun _=>rfl) (fun j=>decide ((ls.getD j dB).giver=0+(i:Int))) (fun j v _=>v= .int (ls.getD j dB).give) (fun _ _ _ _ _ z=>z) (fun j a' H' v H3 Kg hi sm y ha' k=>?_) (fun j H' Kc hi sm k=>?_) (fun pp j H' Kc hi hci hp0 hp1 sm k=>?_) (fun d2 H4 zs2 hd2 sm2 hl2' hR2=>?_)
    ·obtain⟨rfl,rfl⟩:=y
     obtain⟨x1,rfl⟩:∃x1,a'=[x1]:=by
      match a',ha' with
      | [x1],_=>exact⟨x1,rfl⟩
     walk_at "rds"
     exact k _ (Zd.refl _)
    ·obtain⟨t,et,ht⟩:=hT.getD (show j<ls.length by omega)
     rw[et]
     have ht':=sm _ _ (s03 _ _ ht)
     dsimp only[B5.v] at ht'
     walk_at "rds"
     exact k H' (Zd.refl H')
    ·obtain⟨t,et,ht⟩:=hT.getD (show j<ls.length by omega)
     rw[et]
     have ht':=sm _ _ (s03 _ _ ht)
     dsimp only[B5.v] at ht'
     walk_at "rds"
     exact k _ H' (Zd.refl H') rfl
    ·rw[hbl] at hR2
     have ey2:=Yo hR2
     have egl:(((List.range ls.length).filter fun j=>decide ((ls.getD j dB).giver=0+(i:Int))).map fun j=>(ls.getD j dB).give).sum=WG ls i:=by
      unfold WG giveRow leaveL
      rw[List.map_map,ei];rfl
     have bgl:0≤WG ls i∧WG ls i≤800:=by
      have h1:=Zdu (is:=leaveL ls i) (f:=fun j=>(ls.getD j dB).give) fun j hj=>by
       have:=(hat j (WN hj)).few
       have:=(hat j (WN hj)).sz
       omega
      have h2:=Ug (ls:=ls) (w:=(i:Int))
      have h3:WG ls i=((leaveL ls i).map fun j=>(ls.getD j dB).give).sum:=by unfold WG giveRow;rw[List.map_map];rfl
      rw[h3]
      omega
     have hds2:=SqL.of (K:=K) (ey2▸hl2')
     have s04:=s03.trans sm2
     walk_at "rds"
     refine⟨d2,_,rfl,hds2,?_⟩
     rw[egl]
     have hgn:WG ls (i:Int)=WG ls (i:Int):=rfl
     generalize hG:WG ls (i:Int)=gn at*
     walk_at "rds"
     refine⟨Nat.zero_le _,fun o ho=>?_⟩
     have s5:Zd H4 (upd H4 o (.lst [])):=Zo ho
     have v5:(upd H4 o (.lst [])) o=some (.lst []):=Zg
     have ho0:H o=none:=Z2 s04 ho
     generalize upd H4 o (.lst [])=H5 at*
     have s25:Zd H2 H5:=(sm.trans sm2).trans s5
     walk_at "rds"
     refine WP (n:=gn.toNat) (fun j σ H'=>∃(vs:List V) (fs:List ZT) (a10:Option V),σ=[some (.ref p),some (.int (at_+j)),some (.ref lp),some (.int m),some (.bl gr),some (.ref r),some (.int (0+(i:Int))),some (.int sn),some (.int gn),some (.ref o),a10]∧Zd H4 H'∧H' o=some (.lst vs)∧Paired (WY H') vs fs∧fs.length=j∧∀f∈fs,ZbO sn f) ⟨[],[],a10,by simp,s5,v5,.nil,rfl,by simp⟩ ?_ ?_
     ·rintro j σ H6 hj ⟨vs,fs,b10,rfl,s6,ho6,hP6,hl6,hok6⟩
      have s06:=s04.trans s6
      have hS6:=s06.seq hS
      have hvl:=Paired.length hP6
      have hvz:vs.length<sizeLine:=Zu (by omega)
      walk_at "rds"
      refine⟨_,sn,gr,rfl,by omega,by omega,fun u H7 f s7 hf hfo=>?_⟩
      have ho7:=s7 _ _ ho6
      walk_at "rds"
      have fr8:Zp [o] H7 (upd H7 o (.lst (vs++ [.ref u]))):=ZR (by simp) ho7 (by intro _ z;cases z)
      have ej:at_+(j:Int)+1=at_+((j+1:Nat):Int):=by omega
      refine⟨vs++ [.ref u],fs++ [f],_,by rw[ej],(s6.trans s7).new ho,Zg,Zcr (Paired.mapP hP6 fun _ _ z=>(z.keep fun b xs e=>s7 _ _ e).keep fr8.tups) (hf.keep fr8.tups),by simp[hl6],fun x hx=>?_⟩
      rcases List.mem_append.mp hx with z|z
      ·exact hok6 x z
      ·rw[List.mem_singleton.mp z];exact hfo
     ·rintro σ H6 ⟨vs,fs,b10,rfl,s6,ho6,hP6,hl6,hok6⟩
      have hoq:=SqL.of (K:=K) ho6
      have s26:Zd H2 H6:=(sm.trans sm2).trans s6
      have hr6:=s26 _ _ hr2
      have hyl:=Paired.length hF2
      have hyz:ys.length<sizeLine:=Zu (by omega)
      walk_at "rds"
      refine⟨o,vs,rfl,.inl ⟨hoq,fun wv hw=>?_⟩⟩
      have s7:Zd H6 (upd H6 wv (.tup vs)):=Zo hw
      have v7:(upd H6 wv (.tup vs)) wv=some (.tup vs):=Zg
      generalize upd H6 wv (.tup vs)=H7 at*
      have hr7:=s7 _ _ hr6
      walk_at "rds"
      have fr8:Zp [r] H7 (upd H7 r (.lst (ys++ [.ref wv]))):=ZR (by simp) hr7 (by intro _ z;cases z)
      refine⟨ys++ [.ref wv],fss++ [fs],_,_,_,_,_,_,rfl,(s2.trans (s26.trans s7)).new hr,Zg,ZbP ((hF2.keep fun b xs e=>s7 _ _ (s26 _ _ e)).keep fr8.tups) ⟨wv,vs,rfl,fr8.tups _ _ v7,Paired.mapP hP6 fun _ _ z=>(z.keep fun b xs e=>s7 _ _ e).keep fr8.tups⟩,by simp[hl2],fun j hj=>?_,by omega,by omega⟩
      rcases Nat.lt_succ_iff_lt_or_eq.mp hj with z|z
      ·have:=hok2 j z
       rw[ZF (by rw[List.length_append];omega),List.getElem_append_left (by omega)]
       rw[ZF (by omega)] at this
       exact this
      ·subst z
       rw[ZF (by rw[List.length_append];simp;omega),List.getElem_append_right (by omega)]
       simp only[hl2,Nat.sub_self,List.getElem_cons_zero]
       refine⟨by rw[hG];omega,by omega,?_⟩
       rw[hSN]
       exact hok6
  ·rintro σ H2 ⟨ys,fss,a6,a7,a8,a9,a10,at_,rfl,s2,hr2,hF2,hl2,hok2,b0,b1⟩
   walk_at "rds"
   refine q r H2 ys fss hr s2 hr2 hF2 ⟨by omega,fun w w0 w1=>?_⟩
   have:=hok2 w.toNat (by omega)
   rwa [Int.toNat_of_nonneg w0] at this
end
def U7 {K:PySem.W.Frag} {mg:Str→Option Value} (T:Tp K mg):Sp:=fun vs H Q _=>∃(p lp:Addr) (ns:List Int) (bs:List V) (ls:List B5) (a0:Int),vs=[.ref p,.int a0,.ref lp]∧SqL K H p (ns.map V.int)∧ns.length≤63∧H lp=some (.lst bs)∧YJ H bs ls∧ls.length≤20∧(∀l∈ls,0≤l.start∧l.start≤1000)∧0≤a0∧a0≤1000∧
 ∀(r:Addr) (H':Hp) (ys:List V) (xss:List (List Int)),H r=none→Zd H H'→H' r=some (.lst ys)→ZV (hid H' r) ys xss→(∀v∈ys,∃t,v= .ref t∧H t=none)→xss.length=ls.length→(∀i<ls.length,((xss.getD i []).length:Int)=(ls.getD i dB).start)→(∀xs∈xss,ZgD xs)→Q (.ref r) H'
section
variable {P:Program} {w:World} {K:PySem.W.Frag} {mg:Str→Option Value} {base:Heap}
theorem Zcl (T:Tp K mg):Zj P w K mg base (CXX P w) 2 T.f_l_pieces_by T.d_l_pieces_by ["_law_script","_law_at","_law_belts"] (U7 T):=by
 have G_l_cell_at:Zj P w K mg base (CXX P w) 1 T.f_l_cell_at T.d_l_cell_at ["_law_script","_law_k"] (YS T):=(Vu T).mono (by decide)
 refine T.F_l_pieces_by.okX YO (fun vs H Q E h=>?_) (fun cdv A outer s H vs Q E hr h=>?_)
 ·obtain⟨p,lp,ns,bs,ls,a0,rfl,_⟩:=h
  rfl
 ·have hu:=hr.units
  obtain⟨p,lp,ns,bs,ls,a0,rfl,hS,hlen,hlp,hT,hll,hst,z0,z1,q⟩:=h
  have e29:(10:Int) ^ Int.toNat 29=100000000000000000000000000000:=rfl
  have hbl:=hT.length
  refine⟨_,(Zc (Zs (i:=3) YO.nd rfl (Or.inl rfl) (YY Zb))
     (Zc (Z0 PassesOwn.leaving rfl (ZN (K:=K) rfl (pv 2)) (Zk (i:=4) YO.nd rfl (Or.inl rfl)) (Zc (Zs (i:=5) YO.nd rfl (Or.inl rfl) (YY Zb))
     (Zc (Z0 PassesOwn.leaving rfl (YF rfl T.n_range (Za (ZI (ZS (K:=K) rfl) (pv 4) Zf (fun _ _=>rfl)) Zb)) (Zk (i:=6) YO.nd rfl (Or.inl rfl)) (Zc (ZK (YZ (K:=K) rfl PySem.F.plainAttrs_list PySem.F.slot_list_append PySem.F.type_list_append Yj (pv 5) (Za (Zm UX (Zm ZZ (Zz G_l_cell_at hr rfl T.m_l_cell_at T.F_l_cell_at.kp T.b_l_cell_at .nil Zn (Za (pv 0) (Za (pv 1) Zb))) (Zm Yl Zf (Zm U2 Zf Zf))) (Zm Yl (Zm U2 Zf Zf) (Zm ZZ (pv 6) Zf))) Zb)))
     (Ze (Zs (i:=1) YO.nd rfl (Or.inl rfl) (Zm (ZU (K:=K) rfl) (pv 1) Zf)))))
     (Ze (ZK (YZ (K:=K) rfl PySem.F.plainAttrs_list PySem.F.slot_list_append PySem.F.type_list_append Yj (pv 3) (Za (pv 5) Zb)))))))
     (Ze (ZC (pv 3))))),?_⟩
  try dsimp only[L2.cxX,L2.ZL,L2.Zl]
  walk_at "rds"
  refine⟨Nat.zero_le _,fun r hr=>?_⟩
  have s1:Zd H (upd H r (.lst [])):=Zo hr
  have v1:(upd H r (.lst [])) r=some (.lst []):=Zg
  generalize upd H r (.lst [])=H1 at*
  have hlp1:=s1 _ _ hlp
  walk_at "rds"
  refine Yf (ZG (SqL.of hlp)) (fun i σ H'=>∃(ys:List V) (xss:List (List Int)) (a4 a5 a6:Option V) (at_:Int),σ=[some (.ref p),some (.int at_),some (.ref lp),some (.ref r),a4,a5,a6]∧Zd H H'∧H' r=some (.lst ys)∧ZV (hid H' r) ys xss∧(∀v∈ys,∃t,v=V.ref t∧H t=none)∧xss.length=i∧(∀j<i,((xss.getD j []).length:Int)=(ls.getD j dB).start)∧(∀xs∈xss,ZgD xs)∧a0≤at_∧at_≤a0+1000*i) ⟨[],[],_,_,_,a0,rfl,s1,v1,.nil,by simp,rfl,fun j hj=>absurd hj (Nat.not_lt_zero _),by simp,by omega,by omega⟩ (fun i σ H' ⟨_,_,_,_,_,_,_,s,_⟩=>s) ?_ ?_
  ·rintro i σ H2 hi ⟨ys,xss,a4,a5,a6,at_,rfl,s2,hr2,hR2,hn2,hl2,hs2,hx2,b0,b1⟩
   have hil:i<ls.length:=by omega
   obtain⟨t,et,ht⟩:=hT.getD hil
   rw[et]
   have hm:ls.getD i dB∈ls:=by rw[ZF hil];exact List.getElem_mem _
   obtain⟨t0,t1⟩:=hst _ hm
   have ht2:=s2 _ _ ht
   dsimp only[B5.v] at ht2
   walk_at "rds"
   refine⟨Nat.zero_le _,fun o ho=>?_⟩
   have s3:Zd H2 (upd H2 o (.lst [])):=Zo ho
   have v3:(upd H2 o (.lst [])) o=some (.lst (([]:List Int).map V.int)):=Zg
   have ho0:H o=none:=Z2 s2 ho
   generalize upd H2 o (.lst [])=H3 at*
   have ht3:=s3 _ _ ht2
   walk_at "rds"
   generalize hstt:(ls.getD i dB).start=st at*
   refine WP (n:=st.toNat) (fun j σ H'=>∃(xs:List Int) (a6:Option V),σ=[some (.ref p),some (.int (at_+j)),some (.ref lp),some (.ref r),some (.ref t),some (.ref o),a6]∧Zd H2 H'∧H' o=some (.lst (xs.map V.int))∧xs.length=j∧ZgD xs) ⟨[],a6,by simp,s3,v3,rfl,by intro x hx;cases hx⟩ ?_ ?_
   ·rintro j σ H4 hj ⟨xs,b6,rfl,s4,ho4,hl4,hx4⟩
    have hS4:=(s2.trans s4).seq hS
    have hz:(xs.map V.int).length<sizeLine:=Zu (by rw[List.length_map];omega)
    walk_at "rds"
    rw[e29]
    have ej:at_+(j:Int)+1=at_+((j+1:Nat):Int):=by omega
    rw[ej]
    generalize cellX ns (at_+(j:Int))=cx at*
    have hv:(cx % (2*100000000000000000000000000000)-100000000000000000000000000000*((0+(j:Int)) % 2)).natAbs≤10 ^ 31:=by
     rcases(by omega:(0+(j:Int)) % 2=0∨(0+(j:Int)) % 2=1) with z|z
     ·rw[z];omega
     ·rw[z];omega
    generalize cx % (2*100000000000000000000000000000)-100000000000000000000000000000*((0+(j:Int)) % 2)=vv at*
    refine⟨xs++ [vv],_,rfl,s4.new ho,by rw[Zg,List.map_append];rfl,by simp[hl4],fun x hx=>?_⟩
    rcases List.mem_append.mp hx with z|z
    ·exact hx4 x z
    ·rw[List.mem_singleton.mp z];exact hv
   ·rintro σ H4 ⟨xs,b6,rfl,s4,ho4,hl4,hx4⟩
    have hr4:=s4 _ _ hr2
    have hyl:=hR2.length
    have hyz:ys.length<sizeLine:=Zu (by omega)
    walk_at "rds"
    have nor:o≠r:=fun z=>by rw[z,hr2] at ho;cases ho
    have hsame:Zd (hid H2 r) (hid (upd H4 r (.lst (ys++ [.ref o]))) r):=fun b w e=>by
     unfold hid at e⊢
     split at e
     ·cases e
     ·rename_i hb
      rw[if_neg hb,Zi hb]
      exact s4 _ _ e
    have hoo:hid (upd H4 r (.lst (ys++ [.ref o]))) r o=some (.lst (xs.map V.int)):=by
     unfold hid
     rw[if_neg nor,Zi nor]
     exact ho4
    refine⟨ys++ [.ref o],xss++ [xs],_,_,_,_,rfl,(s2.trans s4).new hr,Zg,Zfy (hR2.same hsame) hoo,fun v hv=>?_,by simp[hl2],fun j hj=>?_,fun x hx=>?_,by omega,by omega⟩
    ·rcases List.mem_append.mp hv with z|z
     ·exact hn2 v z
     ·exact⟨o,List.mem_singleton.mp z,ho0⟩
    ·rcases Nat.lt_succ_iff_lt_or_eq.mp hj with z|z
     ·have:=hs2 j z
      rw[ZF (by rw[List.length_append];omega),List.getElem_append_left (by omega)]
      rw[ZF (by omega)] at this
      exact this
     ·subst z
      rw[hstt,ZF (by rw[List.length_append];simp;omega),List.getElem_append_right (by omega)]
      simp only[hl2,Nat.sub_self,List.getElem_cons_zero]
      omega
    ·rcases List.mem_append.mp hx with z|z
     ·exact hx2 x z
     ·rw[List.mem_singleton.mp z];exact hx4
  ·rintro σ H2 ⟨ys,xss,a4,a5,a6,at_,rfl,s2,hr2,hR2,hn2,hl2,hs2,hx2,b0,b1⟩
   walk_at "rds"
   exact q r H2 ys xss hr s2 hr2 hR2 hn2 (by omega) (fun j hj=>hs2 j (by omega)) hx2
end
def ZbU {K:PySem.W.Frag} {mg:Str→Option Value} (T:Tp K mg):Sp:=fun vs H Q _=>∃x:Str,vs=[.str x]∧x.length≤sizeLine∧∀H',Zd H H'→Q (.bl (Ys x)) H'
def letter (c:Nat):Bool:=decide (97≤c)&&decide (c≤122)
theorem Zcy (c d:Nat):decide ((⟨#[c]⟩:Str).cps.toList<(⟨#[d]⟩:Str).cps.toList)=decide (c<d):=by
 show decide ([c]< [d])=decide (c<d)
 have e:([c]< [d])↔c<d:=by
  constructor
  ·intro h
   cases h with
   |rel h=>exact h
   |cons h=>cases h
  ·exact fun h=> .rel h
 by_cases h:c<d
 ·rw[decide_eq_true h,decide_eq_true (e.mpr h)]
 ·rw[decide_eq_false h,decide_eq_false (fun z=>h (e.mp z))]
theorem Zja:("a" :Str)=⟨#[97]⟩:=by decide+kernel
theorem Zi9:("z" :Str)=⟨#[122]⟩:=by decide+kernel
theorem Zfn (x:Str):(((List.range x.cps.size).map fun i=>letter (x.cps.getD i 0)).all id)=x.cps.toList.all letter:=by
 rw[List.all_map,Bool.eq_iff_iff,List.all_eq_true,List.all_eq_true]
 constructor
 ·intro h c hc
  obtain⟨i,hi,rfl⟩:=List.getElem_of_mem hc
  have hi':i<x.cps.size:=by simpa using hi
  have:=h i (List.mem_range.mpr hi')
  simpa[Array.getD,hi'] using this
 ·intro h i hi
  have hi':=List.mem_range.mp hi
  have:=h x.cps[i] (by simp)
  simpa[Array.getD,hi'] using this
theorem ZaL (x:Str):Ys x=(decide (1≤x.length)&&decide (x.length≤8)&&x.cps.toList.all letter):=rfl
section
variable {P:Program} {w:World} {K:PySem.W.Frag} {mg:Str→Option Value} {base:Heap}
theorem Zfa (T:Tp K mg):Zj P w K mg base (CXX P w) 1 T.f_is_name T.d_is_name ["thing"] (ZbU T):=by
 refine T.F_is_name.okX Zfj (fun vs H Q E h=>?_) (fun cdv A outer s H vs Q E hr h=>?_)
 ·obtain⟨x,rfl,_⟩:=h
  rfl
 ·have hu:=hr.units
  obtain⟨x,rfl,hx,q⟩:=h
  refine⟨_,(Zc (ZW (Yr (Z5 (K:=K) rfl (Zt (Uc (K:=K) rfl) (by rfl) T.n_isinstance PyProof.Rows.boot_isinstance (Za (pv 0) (Za (WE (v:= .ty "str") (by rfl) T.n_str PyProof.Rows.boot_str rfl) Zb))) (fun _=>rfl))) (Ze (ZC W5)) ZJ)
     (Zc (ZW (PW.pt (Zah (ZP Zc7 (Zt (Yx (K:=K) rfl) (by rfl) T.n_len PySem.boot_len (Za (pv 0) Zb)) Zf (ZQ _)) (UU (ZP Zfc (Zt (Yx (K:=K) rfl) (by rfl) T.n_len PySem.boot_len (Za (pv 0) Zb)) (U6 (v:= .int 8) rfl T.c_MOST_LETTERS ⟨_,rfl⟩) (ZQ _))))) (Ze (ZC W5)) ZJ)
     (Ze (ZC (Zt (Zc6 (K:=K) rfl rfl) (by rfl) T.n_all PyProof.Rows.boot_all (Za (Zci rfl (Z1 (x:="sign") (zs:=[]) (ix:=[]) (Zh VX) ["thing"] rfl rfl (by decide+kernel)) (Ziv (pv 0)) (fun cl C s H fp=>⟨(Zk (i:=0) (show(["sign"]:List Str).Nodup by decide+kernel) rfl (Or.inl rfl)),Z6,(Zgn ZcM ZcM Yn (pv 0) Yn)⟩)) Zb)))))),?_⟩
  try dsimp only[L2.cxX,L2.ZL,L2.Zl]
  walk_at "rds"
  refine Zbz (fun c=>?_) (fun c=>?_)
  ·have c':¬1≤x.length:=by simp at c;omega
   walk_at "rds"
   have e:Ys x=false:=by rw[ZaL,decide_eq_false c'];rfl
   rw[←e]
   exact q H (Zd.refl H)
  ·have c':1≤x.length:=by simp at c;omega
   walk_at "rds"
   refine Zbz (fun d=>?_) (fun d=>?_)
   ·have d':¬x.length≤8:=by simp at d;omega
    walk_at "rds"
    have e:Ys x=false:=by rw[ZaL,decide_eq_false d',Bool.and_false];rfl
    rw[←e]
    exact q H (Zd.refl H)
   ·have d':x.length≤8:=by simp at d;omega
    have hn:x.cps.size<sizeLine:=Zu (by have:x.cps.size=x.length:=rfl;omega)
    walk_at "rds"
    refine ZaH Zgd hn (fun _=>true) (fun i=> .bl (letter (x.cps.getD i 0))) (fun i H' Kc hi sm k=>?_) (fun i H' Kc hi _ sm k=>?_) (fun p H' hp sm hl=>?_)
    ·walk_at "rds"
     exact k H' (Zd.refl H')
    ·walk_at "rds"
     rw[Zja,Zi9,Zcy]
     generalize x.cps.getD i 0=cc at k⊢
     refine Zbz (fun z=>?_) (fun z=>?_)
     ·walk_at "rds"
      have e:(!decide (122<cc))=letter cc:=by
       have z':97≤cc:=by simpa using z
       unfold letter
       rw[decide_eq_true z',Bool.true_and]
       by_cases y:cc≤122
       ·rw[decide_eq_true y,decide_eq_false (by omega)];rfl
       ·rw[decide_eq_false y,decide_eq_true (by omega)];rfl
      rw[Zcy,e]
      exact k H' (Zd.refl H')
     ·have e:false=letter cc:=by
       have z':¬97≤cc:=by simpa using z
       unfold letter
       rw[decide_eq_false z'];rfl
      rw[e]
      exact k H' (Zd.refl H')
    ·have hl':H' p=some (.lst (((List.range x.cps.size).map fun i=>letter (x.cps.getD i 0)).map V.bl)):=by
      rw[hl,List.filter_eq_self.mpr (by simp),List.map_map];rfl
     walk_at "rds"
     rw[Zfn]
     have e:x.cps.toList.all letter=Ys x:=by rw[ZaL,decide_eq_true c',decide_eq_true d'];rfl
     rw[e]
     exact q H' sm
end
def VA {K:PySem.W.Frag} {mg:Str→Option Value} (T:Tp K mg):Sp:=fun vs H Q E=>∃(p:Addr) (x:Str) (hl:HM) (fp:List Addr),vs=[.ref p,.str x]∧ZD T H p hl fp∧x.length≤sizeLine∧hl.names.length≤1000∧
 (Ys x=false→∀H',Zd H H'→E (.ref T.X_NoName) none H')∧(Ys x=true→x∈hl.names→∀H',Zd H H'→E (.ref T.X_Twice) none H')∧
 (Ys x=true→x∉hl.names→30≤hl.names.length→∀H',Zd H H'→E (.ref T.X_TooMuch) none H')∧
 (Ys x=true→x∉hl.names→hl.names.length<30→∀(H':Hp) (fp':List Addr),ZD T H' p ⟨hl.names++ [x],hl.belts⟩ fp'→Zp fp H H'→ZO fp fp' H→Q (.int hl.names.length) H')
theorem ZaF {K:PySem.W.Frag} {mg:Str→Option Value} {T:Tp K mg} {H:Hp} {Q:VK} {E:XK} {p:Addr} {x:Str} {hl:HM} {fp:List Addr} (h:ZD T H p hl fp) (hn:Ys x=true) (hx:x∉hl.names) (hlen:hl.names.length<30)
  (q:∀(H':Hp) (fp':List Addr),ZD T H' p ⟨hl.names++ [x],hl.belts⟩ fp'→Zp fp H H'→ZO fp fp' H→Q (.int hl.names.length) H'):VA T (.ref p::([.str x]++ [])) H Q E:=by
 have l8:x.length≤sizeLine:=by
  have:x.length≤8:=by
   have e:=hn
   unfold Ys at e
   simp only[Bool.and_eq_true,decide_eq_true_eq] at e
   exact e.1.2
  exact Nat.le_of_lt (Zu (by omega))
 exact⟨p,x,hl,fp,rfl,h,l8,by omega,fun z=>(by rw[hn] at z;cases z),fun _ z=>absurd z hx,fun _ _ z=>absurd z (by omega),fun _ _ _=>q⟩
section
variable {P:Program} {w:World} {K:PySem.W.Frag} {mg:Str→Option Value} {base:Heap}
theorem ZaQ (T:Tp K mg):Zj P w K mg base (CXX P w) 2 T.f_Hall_work T.d_Hall_work ["self","name"] (VA T):=by
 have G_is_name:Zj P w K mg base (CXX P w) 1 T.f_is_name T.d_is_name ["thing"] (ZbU T):=(Zfa T).mono (by decide)
 have cl_Hall:=T.cl_Hall
 have na_Hall:=T.na_Hall
 refine T.F_Hall_work.okX ZaT (fun vs H Q E h=>?_) (fun cdv A outer s H vs Q E hr h=>?_)
 ·obtain⟨p,x,hl,fp,rfl,_⟩:=h
  rfl
 ·have hu:=hr.units
  obtain⟨p,x,hl,fp,rfl,hh,hx,hz,e1,e2,e3,q⟩:=h
  obtain⟨dx,a,b,bs,rfl,h1,h2,h3,h4,nab,h6⟩:=id hh
  have npa:p≠a:=WH h1 h3 (by intro z;cases z)
  have nda:dx≠a:=WH h2 h3 (by intro z;cases z)
  refine⟨_,(Zc (ZW (Yr (Z5 (K:=K) rfl (Zz G_is_name hr rfl T.m_is_name T.F_is_name.kp T.b_is_name .nil Zn (Za (pv 1) Zb)) (fun _=>rfl))) (Ze (Yc T.gx_NoName T.ex_NoName PySem.F.excBase_ValueError rfl (Za Yn Zb))) ZJ)
     (Zc (ZW (ZP (ZiT hu) (pv 1) (ZH (K:=K) rfl (pv 0) rfl) (by with_unfolding_all rfl)) (Ze (Yc T.gx_Twice T.ex_Twice PySem.F.excBase_ValueError rfl (Za Yn Zb))) ZJ)
     (Zc (ZW (ZP Zb1 (Zt Zfu (by rfl) T.n_len PySem.boot_len (Za (ZH (K:=K) rfl (pv 0) rfl) Zb)) (U6 (v:= .int 30) rfl T.c_MOST_WORKS ⟨_,rfl⟩) (ZQ _)) (Ze (Yc T.gx_TooMuch T.ex_TooMuch PySem.F.excBase_ValueError rfl (Za Yn Zb))) ZJ)
     (Zc (Zs (i:=2) ZaT.nd rfl (Or.inl rfl) (Zt Zfu (by rfl) T.n_len PySem.boot_len (Za (ZH (K:=K) rfl (pv 0) rfl) Zb)))
     (Zc (ZbK (pv 2) (ZbY (ZH (K:=K) rfl (pv 0) rfl) (pv 1) (ZgR hu)))
     (Ze (ZC (pv 2)))))))),?_⟩
  try dsimp only[L2.cxX,L2.ZL,L2.Zl]
  walk_at "rds"
  refine⟨x,rfl,hx,fun H1 sm1=>?_⟩
  have g1:=sm1 _ _ h1
  have g3:=sm1 _ _ h3
  have hz':(numsOf hl.names).length<sizeLine:=Zu (by rw[Uf];exact hz)
  walk_at "rds"
  cases hn:Ys x with
  |false=>
   walk_at "rds"
   exact e1 hn H1 sm1
  |true=>
   walk_at "rds"
   rw[ZcA]
   refine Zbz (fun c=>?_) (fun c=>?_)
   ·walk_at "rds"
    exact e2 hn (of_decide_eq_true c) H1 sm1
   ·have c':x∉hl.names:=fun z=>c (decide_eq_true z)
    walk_at "rds"
    rw[Uf]
    refine Zbz (fun d=>?_) (fun d=>?_)
    ·have d':30≤hl.names.length:=by simp at d;omega
     walk_at "rds"
     exact e3 hn c' d' H1 sm1
    ·have d':hl.names.length<30:=by simp at d;omega
     walk_at "rds"
     rw[Uf,ZeX c']
     have fr:Zp [p,dx,a,b] H (upd H1 a (.dK (numsOf (hl.names++ [x])))):=sm1.frame.trans (ZR (by simp) g3 (by intro _ z;cases z))
     refine q hn c' d' _ [p,dx,a,b] ⟨dx,a,b,bs,rfl,?_,?_,Zg,?_,nab,h6.keep fr.tups⟩ fr ZO.refl
     ·rw[Zi npa];exact g1
     ·rw[Zi nda];exact sm1 _ _ h2
     ·rw[Zi nab.symm];exact sm1 _ _ h4
end
def VM {K:PySem.W.Frag} {mg:Str→Option Value} (T:Tp K mg):Sp:=fun vs H Q _=>∃i:Int,vs=[.int i]∧Q (.bl true) H
theorem Zd1 {K:PySem.W.Frag} {mg:Str→Option Value} {T:Tp K mg} {H:Hp} {Q:VK} {E:XK} {i:Int} (q:Q (.bl true) H):VM T ([.int i]++ []) H Q E:=⟨i,rfl,q⟩
local macro_rules| `(tactic|walk_at "rd")=>`(tactic|first|((with_reducible show Nm.VM _ _ _ _ _);with_reducible refine Nm.Zd1 ?_)|fail "none here")
section
variable {P:Program} {w:World} {K:PySem.W.Frag} {mg:Str→Option Value} {base:Heap}
theorem Zeb (T:Tp K mg):Zj P w K mg base (CXX P w) 1 T.f_is_whole T.d_is_whole ["thing"] (VM T):=by
 refine T.F_is_whole.okX Zea (fun vs H Q E h=>?_) (fun cdv A outer s H vs Q E hr h=>?_)
 ·obtain⟨i,rfl,_⟩:=h
  rfl
 ·have hu:=hr.units
  obtain⟨i,rfl,q⟩:=h
  refine⟨_,(Ze (ZC (ZdQ (Zt (Uc (K:=K) rfl) (by rfl) T.n_isinstance PyProof.Rows.boot_isinstance (Za (pv 0) (Za (WE (v:= .ty "int") (by rfl) T.n_int PyProof.Rows.boot_int rfl) Zb))) (ZbN (ZdV (Zt (Uc (K:=K) rfl) (by rfl) T.n_isinstance PyProof.Rows.boot_isinstance (Za (pv 0) (Za (WE (v:= .ty "bool") (by rfl) T.n_bool PyProof.Rows.boot_bool rfl) Zb)))))))),?_⟩
  try dsimp only[L2.cxX,L2.ZL,L2.Zl]
  walk_at "rds"
  exact q
end
def WS {K:PySem.W.Frag} {mg:Str→Option Value} (T:Tp K mg):Sp:=fun vs H Q _=>∃i l:Int,vs=[.int i,.int l]∧Q (.bl (decide (l≤i))) H
theorem Zfo {K:PySem.W.Frag} {mg:Str→Option Value} {T:Tp K mg} {H:Hp} {Q:VK} {E:XK} {i l:Int} (q:Q (.bl (decide (l≤i))) H):WS T ([.int i,.int l]++ []) H Q E:=⟨i,l,rfl,q⟩
local macro_rules| `(tactic|walk_at "rd")=>`(tactic|first|((with_reducible show Nm.WS _ _ _ _ _);with_reducible refine Nm.Zfo ?_)|fail "none here")
section
variable {P:Program} {w:World} {K:PySem.W.Frag} {mg:Str→Option Value} {base:Heap}
theorem U9 (T:Tp K mg):Zj P w K mg base (CXX P w) 2 T.f_is_from T.d_is_from ["thing","least"] (WS T):=by
 have G_is_whole:Zj P w K mg base (CXX P w) 1 T.f_is_whole T.d_is_whole ["thing"] (VM T):=(Zeb T).mono (by decide)
 refine T.F_is_from.okX ZeW (fun vs H Q E h=>?_) (fun cdv A outer s H vs Q E hr h=>?_)
 ·obtain⟨i,l,rfl,_⟩:=h
  rfl
 ·have hu:=hr.units
  obtain⟨i,l,rfl,q⟩:=h
  refine⟨_,(Ze (ZC (ZdQ (Zz G_is_whole hr rfl T.m_is_whole T.F_is_whole.kp T.b_is_whole .nil Zn (Za (pv 0) Zb)) (ZbN (VD Zb1 (pv 0) (pv 1) (ZQ _)))))),?_⟩
  try dsimp only[L2.cxX,L2.ZL,L2.Zl]
  walk_at "rds"
  exact q
end
def Zax {K:PySem.W.Frag} {mg:Str→Option Value} (T:Tp K mg):Sp:=fun vs H Q E=>∃i:Int,vs=[.int i]∧(¬0≤i→E (.ref T.X_NoRate) none H)∧(0≤i→Q .non H)
section
variable {P:Program} {w:World} {K:PySem.W.Frag} {mg:Str→Option Value} {base:Heap}
theorem Zc1 (T:Tp K mg):Zj P w K mg base (CXX P w) 3 T.f_need_start T.d_need_start ["start"] (Zax T):=by
 have G_is_from:Zj P w K mg base (CXX P w) 2 T.f_is_from T.d_is_from ["thing","least"] (WS T):=(U9 T).mono (by decide)
 refine T.F_need_start.okX ZcU (fun vs H Q E h=>?_) (fun cdv A outer s H vs Q E hr h=>?_)
 ·obtain⟨i,rfl,_⟩:=h
  rfl
 ·have hu:=hr.units
  obtain⟨i,rfl,e1,q⟩:=h
  refine⟨_,(Ze (ZW (Yr (Z5 (K:=K) rfl (Zz G_is_from hr rfl T.m_is_from T.F_is_from.kp T.b_is_from .nil Zn (Za (pv 0) (Za Zf Zb))) (fun _=>rfl))) (Ze (Yc T.gx_NoRate T.ex_NoRate PySem.F.excBase_ValueError rfl (Za Yn Zb))) ZJ)),?_⟩
  try dsimp only[L2.cxX,L2.ZL,L2.Zl]
  walk_at "rds"
  by_cases c:0≤i
  ·rw[decide_eq_true c]
   walk_at "rds"
   exact q c
  ·rw[decide_eq_false c]
   walk_at "rds"
   exact e1 c
end
def Yb {K:PySem.W.Frag} {mg:Str→Option Value} (T:Tp K mg):Sp:=fun vs H Q _=>∃i b:Int,vs=[.int i,.int b]∧Q (.bl (decide (0≤i∧i<b))) H
theorem ZaM {K:PySem.W.Frag} {mg:Str→Option Value} {T:Tp K mg} {H:Hp} {Q:VK} {E:XK} {i b:Int} (q:Q (.bl (decide (0≤i∧i<b))) H):Yb T ([.int i,.int b]++ []) H Q E:=⟨i,b,rfl,q⟩
local macro_rules| `(tactic|walk_at "rd")=>`(tactic|first|((with_reducible show Nm.Yb _ _ _ _ _);with_reducible refine Nm.ZaM ?_)|fail "none here")
section
variable {P:Program} {w:World} {K:PySem.W.Frag} {mg:Str→Option Value} {base:Heap}
theorem YX (T:Tp K mg):Zj P w K mg base (CXX P w) 3 T.f_is_number_below T.d_is_number_below ["thing","bound"] (Yb T):=by
 have G_is_from:Zj P w K mg base (CXX P w) 2 T.f_is_from T.d_is_from ["thing","least"] (WS T):=(U9 T).mono (by decide)
 refine T.F_is_number_below.okX ZaO (fun vs H Q E h=>?_) (fun cdv A outer s H vs Q E hr h=>?_)
 ·obtain⟨i,b,rfl,_⟩:=h
  rfl
 ·have hu:=hr.units
  obtain⟨i,b,rfl,q⟩:=h
  refine⟨_,(Ze (ZC (ZdQ (Zz G_is_from hr rfl T.m_is_from T.F_is_from.kp T.b_is_from .nil Zn (Za (pv 0) (Za Zf Zb))) (ZbN (VD Zc7 (pv 0) (pv 1) (ZQ _)))))),?_⟩
  try dsimp only[L2.cxX,L2.ZL,L2.Zl]
  walk_at "rds"
  refine Zbz (fun c=>?_) (fun c=>?_)
  ·have c':0≤i:=of_decide_eq_true c
   walk_at "rds"
   have e:decide (i<b)=decide (0≤i∧i<b):=by rw[decide_eq_decide];exact⟨fun z=>⟨c',z⟩,fun z=>z.2⟩
   rw[e]
   exact q
  ·have c':¬0≤i:=fun z=>c (decide_eq_true z)
   walk_at "rds"
   have e:false=decide (0≤i∧i<b):=(decide_eq_false (fun z=>c' z.1)).symm
   rw[e]
   exact q
end
def Wd {K:PySem.W.Frag} {mg:Str→Option Value} (T:Tp K mg):Sp:=fun vs H Q E=>∃(p:Addr) (i:Int) (hl:HM) (fp:List Addr),vs=[.ref p,.int i]∧ZD T H p hl fp∧
 (¬(0≤i∧i<hl.names.length)→E (.ref T.X_NoWork) none H)∧(0≤i→i<hl.names.length→Q .non H)
section
variable {P:Program} {w:World} {K:PySem.W.Frag} {mg:Str→Option Value} {base:Heap}
theorem WV (T:Tp K mg):Zj P w K mg base (CXX P w) 4 T.f_Hall_need_work T.d_Hall_need_work ["self","work"] (Wd T):=by
 have G_is_number_below:Zj P w K mg base (CXX P w) 3 T.f_is_number_below T.d_is_number_below ["thing","bound"] (Yb T):=(YX T).mono (by decide)
 have cl_Hall:=T.cl_Hall
 have na_Hall:=T.na_Hall
 refine T.F_Hall_need_work.okX Za8 (fun vs H Q E h=>?_) (fun cdv A outer s H vs Q E hr h=>?_)
 ·obtain⟨p,i,hl,fp,rfl,_⟩:=h
  rfl
 ·have hu:=hr.units
  obtain⟨p,i,hl,fp,rfl,hh,e1,q⟩:=h
  obtain⟨dx,a,b,bs,rfl,h1,h2,h3,h4,nab,h6⟩:=id hh
  refine⟨_,(Ze (ZW (Yr (Z5 (K:=K) rfl (Zz G_is_number_below hr rfl T.m_is_number_below T.F_is_number_below.kp T.b_is_number_below .nil Zn (Za (pv 1) (Za (Zt Zfu (by rfl) T.n_len PySem.boot_len (Za (ZH (K:=K) rfl (pv 0) rfl) Zb)) Zb))) (fun _=>rfl))) (Ze (Yc T.gx_NoWork T.ex_NoWork PySem.F.excBase_ValueError rfl (Za Yn Zb))) ZJ)),?_⟩
  try dsimp only[L2.cxX,L2.ZL,L2.Zl]
  walk_at "rds"
  rw[Uf]
  by_cases c:0≤i∧i<hl.names.length
  ·rw[decide_eq_true c]
   walk_at "rds"
   exact q c.1 c.2
  ·rw[decide_eq_false c]
   walk_at "rds"
   exact e1 c
end
def Zbm {K:PySem.W.Frag} {mg:Str→Option Value} (T:Tp K mg):Sp:=fun vs H Q E=>∃(p u:Addr) (b:B5) (hl:HM) (fp:List Addr),vs=[.ref p,.ref u]∧ZD T H p hl fp∧H u=some (.tup b.v)∧hl.belts.length≤1000∧
 ∀(H':Hp) (fp':List Addr),ZD T H' p ⟨hl.names,hl.belts++ [b]⟩ fp'→Zp fp H H'→ZO fp fp' H→Q (.int hl.belts.length) H'
section
variable {P:Program} {w:World} {K:PySem.W.Frag} {mg:Str→Option Value} {base:Heap}
theorem Zef (T:Tp K mg):Zj P w K mg base (CXX P w) 1 T.f_Hall_lay T.d_Hall_lay ["self","row"] (Zbm T):=by
 have cl_Hall:=T.cl_Hall
 have na_Hall:=T.na_Hall
 refine T.F_Hall_lay.okX Zee (fun vs H Q E h=>?_) (fun cdv A outer s H vs Q E hr h=>?_)
 ·obtain⟨p,u,b,hl,fp,rfl,_⟩:=h
  rfl
 ·have hu:=hr.units
  obtain⟨p,u,b,hl,fp,rfl,hh,hu',hz,q⟩:=h
  obtain⟨dx,a,bb,bs,rfl,h1,h2,h3,h4,nab,h6⟩:=id hh
  have npb:p≠bb:=WH h1 h4 (by intro z;cases z)
  have ndb:dx≠bb:=WH h2 h4 (by intro z;cases z)
  have nub:u≠bb:=WH hu' h4 (by intro z;cases z)
  have hz':bs.length<sizeLine:=Zu (by rw[h6.length];exact hz)
  have hlb:=h6.length
  refine⟨_,(Zc (ZK (YZ (K:=K) rfl PySem.F.plainAttrs_list PySem.F.slot_list_append PySem.F.type_list_append Yj (ZH (K:=K) rfl (pv 0) rfl) (Za (pv 1) Zb)))
     (Ze (ZC (Zm UX (Zt (Yx (K:=K) rfl) (by rfl) T.n_len PySem.boot_len (Za (ZH (K:=K) rfl (pv 0) rfl) Zb)) Zf)))),?_⟩
  try dsimp only[L2.cxX,L2.ZL,L2.Zl]
  walk_at "rds"
  have k1:(upd H bb (.lst (bs++ [.ref u]))) p=some (.ins T.C_Hall dx [("numbers",.ref a),("rows",.ref bb)]):=by rw[Zi npb];exact h1
  have k4:(upd H bb (.lst (bs++ [.ref u]))) bb=some (.lst (bs++ [.ref u])):=Zg
  walk_at "rds"
  have el:((bs++ [V.ref u]).length:Int)-1=hl.belts.length:=by simp[hlb]
  rw[el]
  have fr:Zp [p,dx,a,bb] H (upd H bb (.lst (bs++ [.ref u]))):=ZR (by simp) h4 (by intro _ z;cases z)
  refine q _ [p,dx,a,bb] ⟨dx,a,bb,_,rfl,k1,?_,?_,k4,nab,(h6.keep fr.tups).snoc (fr.tups _ _ hu')⟩ fr ZO.refl
  ·rw[Zi ndb];exact h2
  ·rw[Zi nab];exact h3
end
def Vs {K:PySem.W.Frag} {mg:Str→Option Value} (T:Tp K mg):Sp:=fun vs H Q E=>∃(p:Addr) (b:B5) (hl:HM) (fp:List Addr),vs= .ref p::b.v∧ZD T H p hl fp∧hl.belts.length≤1000∧
 (¬(0≤b.giver∧b.giver<hl.names.length∧0≤b.taker∧b.taker<hl.names.length)→∀H',Zd H H'→E (.ref T.X_NoWork) none H')∧
 ((0≤b.giver∧b.giver<hl.names.length∧0≤b.taker∧b.taker<hl.names.length)→¬(1≤b.give∧1≤b.take∧0≤b.start)→∀H',Zd H H'→E (.ref T.X_NoRate) none H')∧
 ((0≤b.giver∧b.giver<hl.names.length∧0≤b.taker∧b.taker<hl.names.length)→(1≤b.give∧1≤b.take∧0≤b.start)→60≤hl.belts.length→∀H',Zd H H'→E (.ref T.X_TooMuch) none H')∧
 ((0≤b.giver∧b.giver<hl.names.length∧0≤b.taker∧b.taker<hl.names.length)→(1≤b.give∧1≤b.take∧0≤b.start)→hl.belts.length<60→∀(H':Hp) (fp':List Addr),ZD T H' p ⟨hl.names,hl.belts++ [b]⟩ fp'→Zp fp H H'→ZO fp fp' H→Q (.int hl.belts.length) H')
theorem Zay {K:PySem.W.Frag} {mg:Str→Option Value} {T:Tp K mg} {H:Hp} {Q:VK} {E:XK} {p:Addr} {g t gv tk st:Int} {hl:HM} {fp:List Addr} (h:ZD T H p hl fp)
  (h1:0≤g) (h2:g<hl.names.length) (h3:0≤t) (h4:t<hl.names.length) (h5:1≤gv) (h6:1≤tk) (h7:0≤st) (hlen:hl.belts.length<60)
  (q:∀(H':Hp) (fp':List Addr),ZD T H' p ⟨hl.names,hl.belts++ [⟨g,t,gv,tk,st⟩]⟩ fp'→Zp fp H H'→ZO fp fp' H→Q (.int hl.belts.length) H'):Vs T [.ref p,.int g,.int t,.int gv,.int tk,.int st] H Q E:=
 ⟨p,⟨g,t,gv,tk,st⟩,hl,fp,rfl,h,by omega,fun z=>absurd ⟨h1,h2,h3,h4⟩ z,fun _ z=>absurd ⟨h5,h6,h7⟩ z,fun _ _ z=>absurd z (by omega),fun _ _ _=>q⟩
section
variable {P:Program} {w:World} {K:PySem.W.Frag} {mg:Str→Option Value} {base:Heap}
theorem ZaW (T:Tp K mg):Zj P w K mg base (CXX P w) 5 T.f_Hall_belt T.d_Hall_belt ["self","giver","taker","give","take","start"] (Vs T):=by
 have G_need_start:Zj P w K mg base (CXX P w) 4 T.f_need_start T.d_need_start ["start"] (Zax T):=(Zc1 T).mono (by decide)
 have G_is_from:Zj P w K mg base (CXX P w) 4 T.f_is_from T.d_is_from ["thing","least"] (WS T):=(U9 T).mono (by decide)
 have G_Hall_need_work:Zj P w K mg base (CXX P w) 4 T.f_Hall_need_work T.d_Hall_need_work ["self","work"] (Wd T):=(WV T).mono (by decide)
 have G_Hall_lay:Zj P w K mg base (CXX P w) 4 T.f_Hall_lay T.d_Hall_lay ["self","row"] (Zbm T):=(Zef T).mono (by decide)
 have cl_Hall:=T.cl_Hall
 have na_Hall:=T.na_Hall
 refine T.F_Hall_belt.okX ZdO (fun vs H Q E h=>?_) (fun cdv A outer s H vs Q E hr h=>?_)
 ·obtain⟨p,b,hl,fp,rfl,_⟩:=h
  rfl
 ·have hu:=hr.units
  obtain⟨p,b,hl,fp,rfl,hh,hz,e1,e2,e3,q⟩:=h
  obtain⟨dx,a,bb,bs,rfl,h1,h2,h3,h4,nab,h6⟩:=id hh
  obtain⟨g,t,gv,tk,st⟩:=b
  have hlb:=h6.length
  refine⟨_,(Zc (ZK (Z8 (pv 0) T.cl_Hall T.M_Hall_need_work G_Hall_need_work hr T.b_Hall_need_work .nil Zn (Za (pv 1) Zb)))
     (Zc (ZK (Z8 (pv 0) T.cl_Hall T.M_Hall_need_work G_Hall_need_work hr T.b_Hall_need_work .nil Zn (Za (pv 2) Zb)))
     (Zc (ZW (PW.pt (Zah (Yr (Z5 (K:=K) rfl (Zz G_is_from hr rfl T.m_is_from T.F_is_from.kp T.b_is_from .nil Zn (Za (pv 3) (Za Zf Zb))) (fun _=>rfl))) (UU (Yr (Z5 (K:=K) rfl (Zz G_is_from hr rfl T.m_is_from T.F_is_from.kp T.b_is_from .nil Zn (Za (pv 4) (Za Zf Zb))) (fun _=>rfl)))))) (Ze (Yc T.gx_NoRate T.ex_NoRate PySem.F.excBase_ValueError rfl (Za Yn Zb))) ZJ)
     (Zc (ZK (Zz G_need_start hr rfl T.m_need_start T.F_need_start.kp T.b_need_start .nil Zn (Za (pv 5) Zb)))
     (Zc (ZW (ZP Zb1 (Zt (Yx (K:=K) rfl) (by rfl) T.n_len PySem.boot_len (Za (ZH (K:=K) rfl (pv 0) rfl) Zb)) (U6 (v:= .int 60) rfl T.c_MOST_BELTS ⟨_,rfl⟩) (ZQ _)) (Ze (Yc T.gx_TooMuch T.ex_TooMuch PySem.F.excBase_ValueError rfl (Za Yn Zb))) ZJ)
     (Ze (ZC (Z8 (pv 0) T.cl_Hall T.M_Hall_lay G_Hall_lay hr T.b_Hall_lay .nil Zn (Za (VY (Za (pv 1) (Za (pv 2) (Za (pv 3) (Za (pv 4) (Za (pv 5) Zb)))))) Zb))))))))),?_⟩
  try dsimp only[L2.cxX,L2.ZL,L2.Zl]
  dsimp only[B5.v] at*
  walk_at "rds"
  refine⟨p,g,hl,_,rfl,hh,fun z=>e1 (by omega) H (Zd.refl H),fun g0 g1=>?_⟩
  walk_at "rds"
  refine⟨p,t,hl,_,rfl,hh,fun z=>e1 (by omega) H (Zd.refl H),fun t0 t1=>?_⟩
  have ws:0≤g∧g<hl.names.length∧0≤t∧t<hl.names.length:=⟨g0,g1,t0,t1⟩
  walk_at "rds"
  by_cases c:1≤gv
  ·rw[decide_eq_true c]
   walk_at "rds"
   by_cases d:1≤tk
   ·rw[decide_eq_true d]
    walk_at "rds"
    refine⟨st,rfl,fun z=>e2 ws (by omega) H (Zd.refl H),fun f=>?_⟩
    walk_at "rds"
    refine Rd.ifD (fun l=>?_) (fun l=>?_)
    ·walk_at "rds"
     exact e3 ws (by omega) (by omega) H (Zd.refl H)
    walk_at "rds"
    refine⟨by show 5≤sizeLine;decide,fun u hu'=>?_⟩
    have sn:Zd H (upd H u (.tup [.int g,.int t,.int gv,.int tk,.int st])):=Zo hu'
    have hh':=hh.same sn
    walk_at "rds"
    refine⟨p,u,⟨g,t,gv,tk,st⟩,hl,_,rfl,hh',Zg,hz,fun H' fp' hh2 fr gr=>?_⟩
    refine q ws (by omega) (by omega) H' fp' hh2 (sn.frame.trans fr) (fun x hx=>?_)
    rcases gr x hx with z|z
    ·exact .inl z
    ·refine .inr ?_
     cases e:H x with
     |none=>rfl
     |some o=>rw[sn _ _ e] at z;cases z
   ·rw[decide_eq_false d]
    walk_at "rds"
    exact e2 ws (by omega) H (Zd.refl H)
  ·rw[decide_eq_false c]
   walk_at "rds"
   exact e2 ws (by omega) H (Zd.refl H)
end
def Ux {K:PySem.W.Frag} {mg:Str→Option Value} (T:Tp K mg):Sp:=fun vs H Q _=>∃p dx:Addr,vs=[.ref p]∧H p=some (.ins T.C_Hall dx [])∧H dx=some (.own p)∧
 ∀(H':Hp) (fp:List Addr),ZD T H' p ⟨[],[]⟩ fp→(∀x∈fp,x=p∨x=dx∨H x=none)→(∀b o,H b=some o→b≠p→H' b=some o)→Q .non H'
theorem Zdw {K:PySem.W.Frag} {mg:Str→Option Value} {T:Tp K mg} {H:Hp} {Q:Addr→Hp→Prop} {E:XK}
  (q:∀(p:Addr) (fp:List Addr) (H':Hp),ZD T H' p ⟨[],[]⟩ fp→(∀x∈fp,H x=none)→Zd H H'→Q p H'):
  ∀x dx,H x=none→H dx=none→dx≠x→Ux T (.ref x::([]++ [])) (upd (upd H dx (.own x)) x (.ins T.C_Hall dx [])) (fun v H2=>v= .non∧Q x H2) E:=by
 intro x dx hx hdx ne
 refine⟨x,dx,rfl,Zg,by rw[Zi ne,Zg],fun H' fp hh hf hk=>⟨rfl,q x fp H' hh (fun y hy=>?_) (fun b o e=>hk b o ?_ (Zq e hx))⟩⟩
 ·rcases hf y hy with rfl|rfl|h
  ·exact hx
  ·exact hdx
  ·by_cases h1:y=x
   ·rw[h1];exact hx
   ·by_cases h2:y=dx
    ·rw[h2];exact hdx
    ·rw[Zi h1,Zi h2] at h
     exact h
 ·rw[Zi (Zq e hx),Zi (Zq e hdx)]
  exact e
local macro_rules| `(tactic|walk_at "rd")=>`(tactic|first|with_reducible refine Nm.Zdw ?_|fail "none here")
section
variable {P:Program} {w:World} {K:PySem.W.Frag} {mg:Str→Option Value} {base:Heap}
theorem Zda (T:Tp K mg):Zj P w K mg base (CXX P w) 1 T.f_Hall_init T.d_Hall_init ["self"] (Ux T):=by
 have cl_Hall:=T.cl_Hall
 have na_Hall:=T.na_Hall
 refine T.F_Hall_init.okX ZdJ (fun vs H Q E h=>?_) (fun cdv A outer s H vs Q E hr h=>?_)
 ·obtain⟨p,dx,rfl,_⟩:=h
  rfl
 ·have hu:=hr.units
  obtain⟨p,dx,rfl,hp,hdx,q⟩:=h
  refine⟨_,(Zc (YN (K:=K) rfl (pv 0) ZgC rfl)
     (Ze (YN (K:=K) rfl (pv 0) (YY Zb) rfl))),?_⟩
  try dsimp only[L2.cxX,L2.ZL,L2.Zl]
  walk_at "rds"
  intro a ha
  have npa:p≠a:=Zq hp ha
  have nda:dx≠a:=Zq hdx ha
  have npd:p≠dx:=WH hp hdx (by intro z;cases z)
  have hp1:(upd H a (.dK [])) p=some (.ins T.C_Hall dx []):=by rw[Zi npa];exact hp
  walk_at "rds"
  refine⟨Nat.zero_le _,fun b hb=>?_⟩
  have hb0:H b=none:=by
   by_cases h1:b=p
   ·rw[h1,Zg] at hb;cases hb
   ·by_cases h2:b=a
    ·rw[h2];exact ha
    ·rw[Zi h1,Zi h2] at hb;exact hb
  have npb:p≠b:=Zq hp hb0
  have ndb:dx≠b:=Zq hdx hb0
  have nab:a≠b:=by
   intro z
   rw[←z,Zi npa.symm,Zg] at hb
   cases hb
  have hp2:(upd (upd (upd H a (.dK [])) p (.ins T.C_Hall dx [("numbers",.ref a)])) b (.lst [])) p=some (.ins T.C_Hall dx [("numbers",.ref a)]):=by rw[Zi npb,Zg]
  walk_at "rds"
  refine q _ [p,dx,a,b] ⟨dx,a,b,[],rfl,Zg,?_,?_,?_,nab,.nil⟩ (fun x hx=>?_) (fun c o e hc=>?_)
  ·rw[Zi npd.symm,Zi ndb,Zi npd.symm,Zi nda];exact hdx
  ·rw[Zi npa.symm,Zi nab,Zi npa.symm,Zg];rfl
  ·rw[Zi npb.symm,Zg]
  ·simp only[List.mem_cons,List.not_mem_nil,or_false] at hx
   rcases hx with rfl|rfl|rfl|rfl
   ·exact .inl rfl
   ·exact .inr (.inl rfl)
   ·exact .inr (.inr ha)
   ·exact .inr (.inr hb0)
  ·rw[Zi hc,Zi (Zq e hb0),Zi hc,Zi (Zq e ha)];exact e
end
def ZcI {K:PySem.W.Frag} {mg:Str→Option Value} (T:Tp K mg):Sp:=fun vs H Q _=>∃(np lp:Addr) (nms:List Str) (bs:List V) (ls:List B5),vs=[.ref np,.ref lp]∧SqL K H np (nms.map V.str)∧(∀n∈nms,Ys n=true)∧nms.Nodup∧0<nms.length∧nms.length≤30∧H lp=some (.lst bs)∧YJ H bs ls∧(∀l∈ls,Bel nms.length l)∧ls.length≤60∧
 ∀(p:Addr) (fp:List Addr) (H':Hp),ZD T H' p ⟨nms,ls⟩ fp→(∀x∈fp,H x=none)→Zd H H'→Q (.ref p) H'
section
variable {P:Program} {w:World} {K:PySem.W.Frag} {mg:Str→Option Value} {base:Heap}
theorem ZfN (T:Tp K mg):Zj P w K mg base (CXX P w) 6 T.f_l_made T.d_l_made ["_law_names_here","_law_belts"] (ZcI T):=by
 have G_Hall_work:Zj P w K mg base (CXX P w) 5 T.f_Hall_work T.d_Hall_work ["self","name"] (VA T):=(ZaQ T).mono (by decide)
 have G_Hall_belt:Zj P w K mg base (CXX P w) 5 T.f_Hall_belt T.d_Hall_belt ["self","giver","taker","give","take","start"] (Vs T):=(ZaW T).mono (by decide)
 have G_Hall_init:Zj P w K mg base (CXX P w) 4 T.f_Hall_init T.d_Hall_init ["self"] (Ux T):=(Zda T).mono (by decide)
 have cl_Hall:=T.cl_Hall
 have na_Hall:=T.na_Hall
 refine T.F_l_made.okX Wo (fun vs H Q E h=>?_) (fun cdv A outer s H vs Q E hr h=>?_)
 ·obtain⟨np,lp,nms,bs,ls,rfl,_⟩:=h
  rfl
 ·have hu:=hr.units
  obtain⟨np,lp,nms,bs,ls,rfl,hnp,hnm,hnd,n0,n1,hlp,hT,hld,hll,q⟩:=h
  have hbl:=hT.length
  refine⟨_,(Zc (Zs (i:=2) Wo.nd rfl (Or.inl rfl) (Zgz T.mk_Hall G_Hall_init hr rfl T.g_Hall T.b_Hall_init .nil Zn))
     (Zc (Z0 PassesOwn.leaving rfl (ZN (K:=K) rfl (pv 0)) (Zk (i:=3) Wo.nd rfl (Or.inl rfl)) (Ze (ZK (Z8 (pv 2) T.cl_Hall T.M_Hall_work G_Hall_work hr T.b_Hall_work .nil Zn (Za (pv 3) Zb)))))
     (Zc (Z0 PassesOwn.leaving rfl (ZN (K:=K) rfl (pv 1)) (Yg (K:=K) (n:=5) rfl rfl (Zx (Zk (i:=4) Wo.nd rfl (Or.inl rfl)) (Zx (Zk (i:=5) Wo.nd rfl (Or.inl rfl)) (Zx (Zk (i:=6) Wo.nd rfl (Or.inl rfl)) (Zx (Zk (i:=7) Wo.nd rfl (Or.inl rfl)) (Zx (Zk (i:=8) Wo.nd rfl (Or.inl rfl)) Yh)))))) (Ze (ZK (Z8 (pv 2) T.cl_Hall T.M_Hall_belt G_Hall_belt hr T.b_Hall_belt .nil Zn (Za (pv 4) (Za (pv 5) (Za (pv 6) (Za (pv 7) (Za (pv 8) Zb)))))))))
     (Ze (ZC (pv 2)))))),?_⟩
  try dsimp only[L2.cxX,L2.ZL,L2.Zl]
  walk_at "rds"
  intro hp fp H4 hh hf sm
  have hn1:=sm.seq hnp
  walk_at "rds"
  refine Yf (ZG hnp) (fun i σ H'=>∃fp' k0,σ=[some (.ref np),some (.ref lp),some (.ref hp),k0,none,none,none,none,none]∧ZD T H' hp ⟨nms.take i,[]⟩ fp'∧Zd H H'∧∀x∈fp',H x=none) ⟨fp,_,rfl,hh,sm,hf⟩ (fun i σ H' ⟨_,_,_,_,s,_⟩=>s) ?_ ?_
  ·rintro i σ H' hi ⟨fp',k0,rfl,hh',s',n'⟩
   have hil:i<nms.length:=by rw[List.length_map] at hi;exact hi
   have ev:(nms.map V.str).getD i .non= .str nms[i]:=by simp[List.getD,hil]
   rw[ev]
   walk_at "rds"
   have hnew:nms[i]∉nms.take i:=by
    have h2:=hnd
    rw[←List.take_append_drop (i+1) nms,List.take_succ_eq_append_getElem hil] at h2
    exact fun z=>(List.nodup_append.mp (List.nodup_append.mp h2).1).2.2 _ z _ (by simp) rfl
   refine ZaF hh' (hnm _ (List.getElem_mem hil)) hnew (by simp;omega) (fun H2 fp2 hh2 fr gr=>?_)
   obtain⟨s2,n2⟩:=Zb6 s' n' fr gr
   refine⟨fp2,_,rfl,?_,s2,n2⟩
   rw[List.take_succ_eq_append_getElem hil]
   exact hh2
  ·rintro σ H' ⟨fp',k0,rfl,hh',s',n'⟩
   rw[List.length_map,List.take_length] at hh'
   have hq':=s' _ _ hlp
   walk_at "rds"
   refine Yf (ZG (SqL.of hlp)) (fun i σ H'=>∃(fp':List Addr) (a1 a2 a3 a4 a5:Option V),σ=[some (.ref np),some (.ref lp),some (.ref hp),k0,a1,a2,a3,a4,a5]∧ZD T H' hp ⟨nms,ls.take i⟩ fp'∧Zd H H'∧∀x∈fp',H x=none)
    ⟨fp',_,_,_,_,_,rfl,hh',s',n'⟩ (fun i σ H' ⟨_,_,_,_,_,_,_,_,s,_⟩=>s) ?_ ?_
   ·rintro i σ H4 hi ⟨fp4,a1,a2,a3,a4,a5,rfl,hh4,s4,n4⟩
    have hil:i<ls.length:=by omega
    obtain⟨t,ht1,ht2⟩:=hT.at (List.getElem?_eq_getElem hil)
    have eb:bs.getD i .non= .ref t:=by simp[List.getD,ht1]
    rw[eb]
    have hm:=hld _ (List.getElem_mem hil)
    have et:=List.take_succ_eq_append_getElem hil
    have ht4:=s4 _ _ ht2
    generalize ls[i]=l at*
    obtain⟨r1,r2,r3,r4⟩:=hm.rg
    obtain⟨z1,z3⟩:=hm.sz
    dsimp only[B5.v] at ht4
    refine Rd.Ww (.of ht4) rfl ?_
    walk_at "rds"
    refine Zay hh4 r1 (by simp;omega) r3 (by simp;omega) z1 z3 hm.st.1 (by simp;omega) (fun H5 fp5 hh5 fr5 gr5=>?_)
    obtain⟨s5,n5⟩:=Zb6 s4 n4 fr5 gr5
    refine⟨fp5,_,_,_,_,_,rfl,?_,s5,n5⟩
    rw[et]
    exact hh5
   ·rintro σ H4 ⟨fp4,a1,a2,a3,a4,a5,rfl,hh4,s4,n4⟩
    rw[hbl,List.take_length] at hh4
    walk_at "rds"
    exact q hp fp4 H4 hh4 n4 s4
end
def W4 {K:PySem.W.Frag} {mg:Str→Option Value} (T:Tp K mg):Sp:=fun vs H Q E=>∃(p:Addr) (hl:HM) (fp:List Addr),vs=[.ref p]∧ZD T H p hl fp∧
 ∀r H',H r=none→Zd H H'→H' r=some (.lst (hl.names.map V.str))→Q (.ref r) H'
section
variable {P:Program} {w:World} {K:PySem.W.Frag} {mg:Str→Option Value} {base:Heap}
theorem V8 (T:Tp K mg):Zj P w K mg base (CXX P w) 1 T.f_Hall_names T.d_Hall_names ["self"] (W4 T):=by
 have cl_Hall:=T.cl_Hall
 have na_Hall:=T.na_Hall
 refine T.F_Hall_names.okX ZcQ (fun vs H Q E h=>?_) (fun cdv A outer s H vs Q E hr h=>?_)
 ·obtain⟨p,hl,fp,rfl,_⟩:=h
  rfl
 ·have hu:=hr.units
  obtain⟨p,hl,fp,rfl,hh,q⟩:=h
  obtain⟨dx,a,b,bs,rfl,h1,h2,h3,h4,nab,h6⟩:=id hh
  refine⟨_,(Ze (ZC (Ya (ZeZ rfl) (by rfl) T.n_list PyProof.Rows.boot_list (Za (ZH (K:=K) rfl (pv 0) rfl) Zb)))),?_⟩
  try dsimp only[L2.cxX,L2.ZL,L2.Zl]
  walk_at "rds"
  intro l hl'
  rw[Zbg]
  exact q l _ hl' (Zo hl') Zg
end
def ZbJ {K:PySem.W.Frag} {mg:Str→Option Value} (T:Tp K mg):Sp:=fun vs H Q E=>∃(p:Addr) (hl:HM) (fp:List Addr),vs=[.ref p]∧ZD T H p hl fp∧0<hl.names.length∧hl.names.length≤10∧hl.belts.length≤20∧(∃lg:Nat,∀n∈hl.names,n.length=lg)∧
 ∀H' fp',Zp fp H H'→ZO fp fp' H→Q .non H'
theorem ZhH:∀i<2,Ys (([("late" :Str),"later"]:List Str).getD i "")=true:=by decide+kernel
theorem Zdk:("late" :Str).length=4∧("later" :Str).length=5:=by decide+kernel
section
variable {P:Program} {w:World} {K:PySem.W.Frag} {mg:Str→Option Value} {base:Heap}
theorem Ze1 (T:Tp K mg):Zj P w K mg base (CXX P w) 6 T.f_l_grown T.d_l_grown ["_law_hall"] (ZbJ T):=by
 have G_Hall_belt:Zj P w K mg base (CXX P w) 5 T.f_Hall_belt T.d_Hall_belt ["self","giver","taker","give","take","start"] (Vs T):=(ZaW T).mono (by decide)
 have G_Hall_work:Zj P w K mg base (CXX P w) 5 T.f_Hall_work T.d_Hall_work ["self","name"] (VA T):=(ZaQ T).mono (by decide)
 have G_Hall_names:Zj P w K mg base (CXX P w) 5 T.f_Hall_names T.d_Hall_names ["self"] (W4 T):=(V8 T).mono (by decide)
 have cl_Hall:=T.cl_Hall
 have na_Hall:=T.na_Hall
 refine T.F_l_grown.okX Zff (fun vs H Q E h=>?_) (fun cdv A outer s H vs Q E hr h=>?_)
 ·obtain⟨p,hl,fp,rfl,_⟩:=h
  rfl
 ·have hu:=hr.units
  obtain⟨p,hl,fp,rfl,hh,hn0,hn1,hbz,⟨lg,hlg⟩,q⟩:=h
  refine⟨_,(Zc (ZK (Z8 (pv 0) T.cl_Hall T.M_Hall_belt G_Hall_belt hr T.b_Hall_belt .nil Zn (Za Zf (Za Zf (Za Zf (Za Zf (Za Zf Zb)))))))
     (Ze (ZK (Z8 (pv 0) T.cl_Hall T.M_Hall_work G_Hall_work hr T.b_Hall_work .nil Zn (Za (ZI (ZS (K:=K) rfl) (Z7 (xs:=["_law_name"]) rfl (Z1 (x:="_law_name") (zs:=["_law_hall"]) (ix:=[0]) (Zh VV) ["_law_hall"] rfl rfl (by decide+kernel)) (ZN (K:=K) rfl (YY (Za Yn (Za Yn Zb)))) (fun cl C s H fp=>⟨(Zk (i:=0) (show(["_law_name","_law_hall"]:List Str).Nodup by decide+kernel) rfl (Or.inl rfl)),(Up (ZP (Zhy (K:=K) rfl) (pv 0) (Wa (pv 1) T.cl_Hall T.M_Hall_names G_Hall_names hr T.b_Hall_names .nil WD) (by with_unfolding_all rfl))),(pv 0)⟩)) Zf (fun _ _=>rfl)) Zb))))),?_⟩
  try dsimp only[L2.cxX,L2.ZL,L2.Zl]
  walk_at "rds"
  refine Zay hh (by omega) (by omega) (by omega) (by omega) (by decide) (by decide) (by decide) (by omega) (fun H1 fp1 hh1 f1 g1=>?_)
  walk_at "rds"
  refine⟨by show 2≤sizeLine;decide,fun u hu=>?_⟩
  have s2:Zd H1 (upd H1 u (.lst [.str "late",.str "later"])):=Zo hu
  have v2:(upd H1 u (.lst [.str "late",.str "later"])) u=some (.lst (([("late" :Str),"later"]:List Str).map V.str)):=Zg
  change ∃a,V.ref u=V.ref a∧(∃xs,SqL K (upd H1 u (.lst [.str "late",.str "later"])) a xs)∧_
  generalize upd H1 u (.lst [.str "late",.str "later"])=H2 at*
  have hLl:([("late" :Str),"later"]:List Str).length=2:=rfl
  have hLok:=ZhH
  have hone:∃j<2,([("late" :Str),"later"]:List Str).getD j "" ∉hl.names:=by
   by_cases c:("late" :Str)∈hl.names
   ·refine⟨1,by omega,fun z=>?_⟩
    have h1:=hlg _ c
    have h2:=hlg _ z
    have e2:([("late" :Str),"later"]:List Str).getD 1 "" ="later" :=rfl
    rw[e2,Zdk.2] at h2
    rw[Zdk.1] at h1
    omega
   ·exact⟨0,by omega,c⟩
  generalize ([("late" :Str),"later"]:List Str)=L at*
  have hu2q:=SqL.of (K:=K) v2
  have hh2:=hh1.same s2
  refine⟨u,rfl,⟨_,hu2q⟩,?_⟩
  refine ZM (own:=1) (ZG hu2q).y (Zu (by rw[List.length_map];omega)) (fun j=>[some (.str (L.getD j ""))]) (fun _=>rfl) (fun j=>!decide (L.getD j "" ∈hl.names)) (fun j v _=>v= .str (L.getD j "")) (fun _ _ _ _ _ z=>z) (fun j a' H' v H3 Kg hi sm y ha' k=>?_) (fun j H' Kc hi sm k=>?_) (fun pp j H' Kc hi hci hp0 hp1 sm k=>?_) (fun d H3 zs hd s3 hd3 hR=>?_)
  ·obtain⟨rfl,rfl⟩:=y
   obtain⟨x1,rfl⟩:∃x1,a'=[x1]:=by
    match a',ha' with
    | [x1],_=>exact⟨x1,rfl⟩
   have hj:j<L.length:=by simpa using hi
   have ev:(L.map V.str).getD j .non= .str (L.getD j ""):=by rw[ZF hj];simp[List.getD,hj]
   rw[ev]
   walk_at "rds"
   exact k _ (Zd.refl _)
  ·have hh':=hh2.same sm
   walk_at "rds"
   refine⟨p,_,fp1,rfl,hh',fun r H3 hr s3 hr3=>?_⟩
   have hr3q:=SqL.of (K:=K) hr3
   walk_at "rds"
   exact k H3 s3
  ·walk_at "rds"
   exact k _ H' (Zd.refl H') rfl
  ·rw[List.length_map,hLl] at hR
   have ey:=Vl (R:=fun j v _=>v=V.str (L.getD j "")) (H:=H3) (r:=fun j=>V.str (L.getD j "")) (fun _ _ z=>z) hR
   have hmem:∀j∈(List.range 2).filter (fun j=>!decide (L.getD j "" ∈hl.names)),Ys (L.getD j "")=true∧L.getD j "" ∉hl.names:=fun j hj=>by
    obtain⟨z1,z2⟩:=List.mem_filter.mp hj
    exact⟨hLok j (List.mem_range.mp z1),by simpa using z2⟩
   have hne:(List.range 2).filter (fun j=>!decide (L.getD j "" ∈hl.names))≠[]:=fun e=>by
    obtain⟨j,hj,hn⟩:=hone
    have:=List.filter_eq_nil_iff.mp e j (List.mem_range.mpr hj)
    simp at this
    exact hn this
   generalize (List.range 2).filter (fun j=>!decide (L.getD j "" ∈hl.names))=is at*
   subst ey
   match is,hne,hmem,hd3 with
   |j::js,_,hmem,hd3=>
    obtain⟨hn,hx⟩:=hmem j List.mem_cons_self
    have hd3q:=SqL.of (K:=K) hd3
    have at0:atI ((j::js).map fun j=>V.str (L.getD j "")) 0=some (.str (L.getD j "")):=YQ (j:=0) rfl
    have hh3:=hh2.same s3
    generalize L.getD j "" =nm at*
    walk_at "rds"
    refine ZaF hh3 hn hx (by dsimp only;omega) (fun H4 fp4 hh4 f4 g4=>?_)
    walk_at "rds"
    exact q H4 fp4 (Nm.Zp.grow f1 g1 ((s2.trans s3).frame.trans f4)) (Nm.ZO.grow g1 f1 (fun x hx=>(g4 x hx).imp id fun z=>Z2 (s2.trans s3) z))
end
def V7 {K:PySem.W.Frag} {mg:Str→Option Value} (T:Tp K mg):Sp:=fun vs H Q _=>∃(f tm c:Addr) (k:Int) (tvs:List V) (ts:List (Int×Int)) (xs:List Int),vs=[.ref f,.ref c]∧H f=some (.tup [.int k,.ref tm])∧H tm=some (.tup tvs)∧Wc H tvs ts∧SqL K H c (xs.map V.int)∧ts.length≤1000∧(∀t∈ts,0≤t.1∧t.1<(xs.length:Int)∧IntMulOk t.2 (xs.getD t.1.toNat 0))∧
 ∀H':Hp,Zd H H'→Q (.int (formV k ts xs)) H'
section
variable {P:Program} {w:World} {K:PySem.W.Frag} {mg:Str→Option Value} {base:Heap}
theorem Zaw (T:Tp K mg):Zj P w K mg base (CXX P w) 1 T.f_form_value T.d_form_value ["form","pieces"] (V7 T):=by
 refine T.F_form_value.okX ZcS (fun vs H Q E h=>?_) (fun cdv A outer s H vs Q E hr h=>?_)
 ·obtain⟨f,tm,c,k,tvs,ts,xs,rfl,_⟩:=h
  rfl
 ·have hu:=hr.units
  obtain⟨f,tm,c,k,tvs,ts,xs,rfl,hf,htm,hT,hc,htz,hts,q⟩:=h
  have htl:=hT.length
  have hst:SqT K H tm tvs:= .of htm
  refine⟨_,(Ze (ZC (Zm (ZU (K:=K) rfl) (ZI (ZS (K:=K) rfl) (pv 0) Zf (fun _ _=>rfl)) (Zt (Za4 (K:=K) rfl rfl) (by rfl) T.n_sum PyProof.Rows.boot_sum (Za (Z7 (xs:=["slot","factor"]) rfl (Z1 (x:="slot") (zs:=["pieces"]) (ix:=[1]) (Zh WJ) ["form","pieces"] rfl rfl (by decide+kernel)) (VF (K:=K) rfl (ZI (ZS (K:=K) rfl) (pv 0) Zf (fun _ _=>rfl))) (fun cl C s H fp=>⟨(Yg (K:=K) (n:=2) rfl rfl (Zx (Zk (i:=0) (show(["slot","factor","pieces"]:List Str).Nodup by decide+kernel) rfl (Or.inl rfl)) (Zx (Zk (i:=1) (show(["slot","factor","pieces"]:List Str).Nodup by decide+kernel) rfl (Or.inl rfl)) Yh))),Z6,(Zm Yl (pv 1) (ZI (ZS (K:=K) rfl) (pv 2) (pv 0) (fun _ _=>rfl)))⟩)) Zb))))),?_⟩
  try dsimp only[L2.cxX,L2.ZL,L2.Zl]
  walk_at "rds"
  unfold Zan
  walk_at "rds"
  refine⟨tm,rfl,⟨_,hst⟩,?_⟩
  refine ZM (own:=2) (WQ hst).y (Zu (by omega)) (fun i=>[some (.int (ts.getD i (0,0)).1),some (.int (ts.getD i (0,0)).2)]) (fun _=>rfl) (fun _=>true) (fun i v _=>v= .int ((ts.getD i (0,0)).2*xs.getD (ts.getD i (0,0)).1.toNat 0)) (fun _ _ _ _ _ z=>z) (fun i a' H' v H3 Kg hi sm y ha' k=>?_) (fun i H' Kc hi sm k=>?_) (fun pp i H' Kc hi hci hp0 hp1 sm k=>?_) (fun d H3 zs hd sm hl' hR=>?_)
  ·obtain⟨rfl,rfl⟩:=y
   obtain⟨x1,x2,rfl⟩:∃x1 x2,a'=[x1,x2]:=by
    match a',ha' with
    | [x1,x2],_=>exact⟨x1,x2,rfl⟩
   obtain⟨t,et,ht⟩:=hT.getD (i:=i) (by omega)
   rw[et]
   refine Rd.Ww (.of (sm _ _ ht)) rfl ?_
   walk_at "rds"
   exact k _ (Zd.refl _)
  ·walk_at "rds"
   exact k H' (Zd.refl H')
  ·have hil:i<ts.length:=by omega
   have hm:ts.getD i (0,0)∈ts:=by rw[ZF hil];exact List.getElem_mem _
   obtain⟨t0,t1,mo⟩:=hts _ hm
   generalize ts.getD i (0,0)=tt at*
   have hc':=sm.seq hc
   have at1:=W9 t0 t1
   walk_at "rds"
   exact k _ H' (Zd.refl H') rfl
  ·rw[List.filter_eq_self.mpr (by simp),htl] at hR
   have ey:=Yo hR
   rw[YW (fun t:Int×Int=>t.2*xs.getD t.1.toNat 0)] at ey
   have hds:=SqL.of (K:=K) (ey▸hl')
   walk_at "rds"
   refine⟨d,_,rfl,hds,?_⟩
   walk_at "rds"
   exact q H3 sm
end
def Zaf {K:PySem.W.Frag} {mg:Str→Option Value} (T:Tp K mg):Sp:=fun vs H Q _=>∃(f tm c:Addr) (k:Int) (tvs:List V) (ts:List (Int×Int)) (xs:List Int),vs=[.ref f,.ref c]∧H f=some (.tup [.int k,.ref tm])∧H tm=some (.tup tvs)∧Wc H tvs ts∧SqL K H c (xs.map V.int)∧ts.length≤1000∧(∀t∈ts,0≤t.1∧t.1<(xs.length:Int)∧IntMulOk t.2 (xs.getD t.1.toNat 0))∧
 Q (.int (formV k ts xs)) H
section
variable {P:Program} {w:World} {K:PySem.W.Frag} {mg:Str→Option Value} {base:Heap}
theorem ZbX (T:Tp K mg):Zj P w K mg base (CXX P w) 1 T.f_l_worth T.d_l_worth ["_law_form","_law_slots"] (Zaf T):=by
 refine T.F_l_worth.okX Vt (fun vs H Q E h=>?_) (fun cdv A outer s H vs Q E hr h=>?_)
 ·obtain⟨f,tm,c,k,tvs,ts,xs,rfl,_⟩:=h
  rfl
 ·have hu:=hr.units
  obtain⟨f,tm,c,k,tvs,ts,xs,rfl,hf,htm,hT,hc,htz,hts,q⟩:=h
  have htl:=hT.length
  have hst:SqT K H tm tvs:= .of htm
  refine⟨_,(Zc (Zs (i:=2) Vt.nd rfl (Or.inl rfl) (ZI (ZS (K:=K) rfl) (pv 0) Zf (fun _ _=>rfl)))
     (Zc (Z0 PassesOwn.leaving rfl (VF (K:=K) rfl (ZI (ZS (K:=K) rfl) (pv 0) Zf (fun _ _=>rfl))) (Yg (K:=K) (n:=2) rfl rfl (Zx (Zk (i:=3) Vt.nd rfl (Or.inl rfl)) (Zx (Zk (i:=4) Vt.nd rfl (Or.inl rfl)) Yh))) (Ze (Zs (i:=2) Vt.nd rfl (Or.inl rfl) (Zm (ZU (K:=K) rfl) (pv 2) (Zm Yl (pv 4) (ZI (ZS (K:=K) rfl) (pv 1) (pv 3) (fun _ _=>rfl)))))))
     (Ze (ZC (pv 2))))),?_⟩
  try dsimp only[L2.cxX,L2.ZL,L2.Zl]
  walk_at "rds"
  try unfold Zan
  try walk_at "rds"
  refine⟨tm,rfl,⟨_,hst⟩,?_⟩
  refine Yf (WQ hst) (fun i σ H'=>H'=H∧∃a3 a4,σ=[some (.ref f),some (.ref c),some (.int (formV k (ts.take i) xs)),a3,a4]) ⟨rfl,_,_,by rw[show formV k (ts.take 0) xs=k by simp[formV]];rfl⟩ (fun i σ H' h=>h.1▸Zd.refl _) ?_ ?_
  ·rintro i σ H' hi ⟨rfl,a3,a4,rfl⟩
   have hil:i<ts.length:=by omega
   obtain⟨t,et,ht⟩:=hT.getD (i:=i) hil
   rw[et]
   have hm:ts.getD i (0,0)∈ts:=by rw[ZF hil];exact List.getElem_mem _
   obtain⟨t0,t1,mo⟩:=hts _ hm
   have efv:formV k (ts.take (i+1)) xs=formV k (ts.take i) xs+(ts.getD i (0,0)).2*xs.getD (ts.getD i (0,0)).1.toNat 0:=by
    unfold formV
    rw[List.take_succ_eq_append_getElem hil,List.map_append,List.sum_append,ZF hil]
    simp
    omega
   rw[efv]
   generalize formV k (ts.take i) xs=cur at*
   generalize ts.getD i (0,0)=tt at*
   have at1:=W9 t0 t1
   refine Rd.Ww (.of ht) rfl ?_
   walk_at "rds"
   exact⟨rfl,_,_,rfl⟩
  ·rintro σ H' ⟨rfl,a3,a4,rfl⟩
   rw[htl,List.take_length]
   walk_at "rds"
   exact q
end
def UM {K:PySem.W.Frag} {mg:Str→Option Value} (T:Tp K mg):Sp:=fun vs H Q _=>∃(p lp fo:Addr) (ns:List Int) (bs fvs:List V) (ls:List B5) (fss:List (List ZT)) (m:Nat),vs=[.ref p,.ref lp,.ref fo]∧SqL K H p (ns.map V.int)∧ns.length≤63∧H lp=some (.lst bs)∧YJ H bs ls∧H fo=some (.lst fvs)∧YR H fvs fss∧ls.length≤20∧(∀l∈ls,Bel m l)∧YK m ls fss∧m≤10∧
 ∀H',Zd H H'→Q (.bl true) H'
theorem ZfV {is:List Nat} {f:Nat→Int} (h:∀i∈is,0≤f i∧f i≤40):0≤(is.map f).sum∧(is.map f).sum≤40*is.length:=by
 induction is with
 |nil=>simp
 |cons i is ih=>
  have a1:=ih fun j hj=>h j (List.mem_cons_of_mem _ hj)
  have a2:=h i List.mem_cons_self
  simp only[List.map_cons,List.sum_cons,List.length_cons]
  omega
section
variable {P:Program} {w:World} {K:PySem.W.Frag} {mg:Str→Option Value} {base:Heap}
theorem ZbV (T:Tp K mg):Zj P w K mg base (CXX P w) 2 T.f_l_forms_good T.d_l_forms_good ["_law_script","_law_belts","_law_forms"] (UM T):=by
 have G_form_value:Zj P w K mg base (CXX P w) 1 T.f_form_value T.d_form_value ["form","pieces"] (V7 T):=(Zaw T).mono (by decide)
 have G_l_cell_at:Zj P w K mg base (CXX P w) 1 T.f_l_cell_at T.d_l_cell_at ["_law_script","_law_k"] (YS T):=(Vu T).mono (by decide)
 have G_l_worth:Zj P w K mg base (CXX P w) 1 T.f_l_worth T.d_l_worth ["_law_form","_law_slots"] (Zaf T):=(ZbX T).mono (by decide)
 refine T.F_l_forms_good.okX Yp (fun vs H Q E h=>?_) (fun cdv A outer s H vs Q E hr h=>?_)
 ·obtain⟨p,lp,fo,ns,bs,fvs,ls,fss,m,rfl,_⟩:=h
  rfl
 ·have hu:=hr.units
  obtain⟨p,lp,fo,ns,bs,fvs,ls,fss,m,rfl,hS,hlen,hlp,hT,hfo,hF,hll,hst,hA,hm,q⟩:=h
  have hbl:=hT.length
  have hfl:=Paired.length hF
  have hal:=hA.len
  have hat:∀i<ls.length,Bel m (ls.getD i dB):=fun i hi=>hst _ (by rw[ZF hi];exact List.getElem_mem _)
  have hfoq:=SqL.of (K:=K) hfo
  refine⟨_,(Zc (Z0 PassesOwn.leaving rfl (VG (K:=K) rfl rfl T.n_enumerate (Za (pv 2) Zb)) (Yg (K:=K) (n:=2) rfl rfl (Zx (Zk (i:=3) Yp.nd rfl (Or.inr rfl)) (Zx (Zk (i:=4) Yp.nd rfl (Or.inl rfl)) Yh))) (Zc (Zs (i:=5) Yp.nd rfl (Or.inl rfl) (Zt (Za4 (K:=K) rfl rfl) (by rfl) T.n_sum PyProof.Rows.boot_sum (Za (Z7 (xs:=["_law_belt"]) rfl (Z1 (x:="_law_belt") (zs:=["_law_work"]) (ix:=[3]) (Zh YM) ["_law_script","_law_belts","_law_forms","_law_work","_law_some","_law_many","_law_slots","_law_form","_law_found"] rfl rfl (by decide+kernel)) (ZN (K:=K) rfl (pv 1)) (fun cl C s H fp=>⟨(Zk (i:=0) (show(["_law_belt","_law_work"]:List Str).Nodup by decide+kernel) rfl (Or.inl rfl)),(Up (ZP (YD (K:=K) rfl hu) (ZI (ZS (K:=K) rfl) (pv 0) Zf (fun _ _=>rfl)) (pv 1) (ZQ _))),(ZI (ZS (K:=K) rfl) (pv 0) Zf (fun _ _=>rfl))⟩)) Zb)))
     (Zc (VH (j:=6) (xs:=["_law_k"]) rfl (Z1 (x:="_law_k") (zs:=["_law_script"]) (ix:=[0]) (Zh YM) ["_law_script","_law_belts","_law_forms","_law_work","_law_some","_law_many","_law_slots","_law_form","_law_found"] rfl rfl (by decide+kernel)) (YF rfl T.n_range (Za (pv 5) Zb)) (fun cl C s H fp=>⟨(Zk (i:=0) (show(["_law_k","_law_script"]:List Str).Nodup by decide+kernel) rfl (Or.inl rfl)),Z6,(Zm ZZ (Zz G_l_cell_at hr rfl T.m_l_cell_at T.F_l_cell_at.kp T.b_l_cell_at .nil WD (Za (pv 1) (Za (pv 0) Zb))) (Zm U2 Zf Zf))⟩) Yp.nd rfl (Or.inl rfl))
     (Ze (Z0 PassesOwn.leaving rfl (VF (K:=K) rfl (pv 4)) (Zk (i:=7) Yp.nd rfl (Or.inl rfl)) (Zc (Zs (i:=8) Yp.nd rfl (Or.inl rfl) (Zz G_form_value hr rfl T.m_form_value T.F_form_value.kp T.b_form_value .nil Zn (Za (pv 7) (Za (Ya (Y8 (K:=K) rfl) (by rfl) T.n_list PyProof.Rows.boot_list (Za (pv 6) Zb)) Zb))))
     (Ze (ZW (PW.pt (Zah (Z5 (K:=K) rfl (Zt (Uc (K:=K) rfl) (by rfl) T.n_isinstance PyProof.Rows.boot_isinstance (Za (pv 8) (Za (WE (v:= .ty "bool") (by rfl) T.n_bool PyProof.Rows.boot_bool rfl) Zb))) (fun _=>rfl)) (Zah (Yr (Z5 (K:=K) rfl (Zt (Uc (K:=K) rfl) (by rfl) T.n_isinstance PyProof.Rows.boot_isinstance (Za (pv 8) (Za (WE (v:= .ty "int") (by rfl) T.n_int PyProof.Rows.boot_int rfl) Zb))) (fun _=>rfl))) (UU (ZP (UD (K:=K) rfl hu) (pv 8) (Zz G_l_worth hr rfl T.m_l_worth T.F_l_worth.kp T.b_l_worth .nil Zn (Za (pv 7) (Za (pv 6) Zb))) (ZQ _)))))) (Ze (ZC W5)) ZJ))))))))
     (Ze (ZC W5))),?_⟩
  try dsimp only[L2.cxX,L2.ZL,L2.Zl]
  walk_at "rds"
  refine V0 (Wt hfoq) (fun i σ H'=>Zd H H'∧∃a3 a4 a5 a6 a7 a8,σ=[some (.ref p),some (.ref lp),some (.ref fo),a3,a4,a5,a6,a7,a8]) ⟨Zd.refl _,_,_,_,_,_,_,rfl⟩ (fun i σ H' h=>h.1) ?_ ?_
  ·rintro i σ H1 v H2 hi ⟨s1,a3,a4,a5,a6,a7,a8,rfl⟩ ⟨t,ht,rfl,rfl⟩
   have s2:Zd H (upd H1 t (.tup [.int i,fvs.getD i .non])):=s1.trans (Zo ht)
   have v2:(upd H1 t (.tup [.int i,fvs.getD i .non])) t=some (.tup [.int i,fvs.getD i .non]):=Zg
   generalize upd H1 t (.tup [.int i,fvs.getD i .non])=H2 at*
   have him:i<m:=by omega
   obtain⟨wa,wvs,hwv,hwa,hwF⟩:=YB (d:=V.non) (e:=([]:List ZT)) hF (i:=i) (by omega)
   rw[hwv] at v2
   have hfk:=hA.ok i (by omega) (by omega)
   rw[show((i:Int)).toNat=i from rfl] at hfk
   generalize fss.getD i []=fs at*
   refine Rd.Ww (.of v2) rfl ?_
   have hlp2:=s2 _ _ hlp
   have hlp2q:=SqL.of (K:=K) hlp2
   walk_at "rds"
   refine ZM (own:=1) (ZG hlp2q).y (Zu (by omega)) (fun j=>[some (bs.getD j .non)]) (fun _=>rfl) (fun j=>decide ((ls.getD j dB).taker=(i:Int))) (fun j v _=>v= .int (ls.getD j dB).take) (fun _ _ _ _ _ z=>z) (fun j a' H' v H3 Kg hi sm y ha' k=>?_) (fun j H' Kc hi sm k=>?_) (fun pp j H' Kc hi hci hp0 hp1 sm k=>?_) (fun d H3 zs hd sm hl' hR=>?_)
   ·obtain⟨rfl,rfl⟩:=y
    obtain⟨x1,rfl⟩:∃x1,a'=[x1]:=by
     match a',ha' with
     | [x1],_=>exact⟨x1,rfl⟩
    walk_at "rds"
    exact k _ (Zd.refl _)
   ·obtain⟨t,et,ht⟩:=hT.getD (show j<ls.length by omega)
    rw[et]
    have ht':=sm _ _ (s2 _ _ ht)
    dsimp only[B5.v] at ht'
    walk_at "rds"
    exact k H' (Zd.refl H')
   ·obtain⟨t,et,ht⟩:=hT.getD (show j<ls.length by omega)
    rw[et]
    have ht':=sm _ _ (s2 _ _ ht)
    dsimp only[B5.v] at ht'
    walk_at "rds"
    exact k _ H' (Zd.refl H') rfl
   ·rw[hbl] at hR
    have ey:=Yo hR
    have esl:(((List.range ls.length).filter fun j=>decide ((ls.getD j dB).taker=(i:Int))).map fun j=>(ls.getD j dB).take).sum=slotN ls i:=by
     unfold slotN takeRow ZE
     rw[List.map_map];rfl
    have bsl:0≤slotN ls i∧slotN ls i≤800:=by
     have h1:=ZfV (is:=ZE ls i) (f:=fun j=>(ls.getD j dB).take) fun j hj=>by
      have:=(hat j (Y4 hj)).few
      have:=(hat j (Y4 hj)).sz
      omega
     have h2:=Vh (ls:=ls) (w:=(i:Int))
     have h3:slotN ls i=((ZE ls i).map fun j=>(ls.getD j dB).take).sum:=by unfold slotN takeRow;rw[List.map_map];rfl
     rw[h3]
     omega
    have hds:=SqL.of (K:=K) (ey▸hl')
    have s03:=s2.trans sm
    have hS3:=s03.seq hS
    walk_at "rds"
    refine⟨d,_,rfl,hds,?_⟩
    rw[esl]
    have hfoks:=hfk.ok
    have hfew:=hfk.few
    generalize slotN ls (i:Int)=sn at*
    walk_at "rds"
    refine ZM (own:=1) UN.y (Zu (by omega)) (fun j=>[some (.int (0+(j:Int)))]) (fun _=>rfl) (fun _=>true) (fun j v _=>v= .int (cellX ns (0+(j:Int)) % (10:Int) ^ Int.toNat 30)) (fun _ _ _ _ _ z=>z) (fun j a' H' v H3 Kg hi sm y ha' k=>?_) (fun j H' Kc hi sm k=>?_) (fun pp j H' Kc hi hci hp0 hp1 sm k=>?_) (fun sl H4 zs4 hsl s4 hsl4 hR4=>?_)
    ·obtain⟨rfl,rfl⟩:=y
     obtain⟨x1,rfl⟩:∃x1,a'=[x1]:=by
      match a',ha' with
      | [x1],_=>exact⟨x1,rfl⟩
     walk_at "rds"
     exact k _ (Zd.refl _)
    ·walk_at "rds"
     exact k H' (Zd.refl H')
    ·have hS':=sm.seq hS3
     walk_at "rds"
     exact k _ H' (Zd.refl H') rfl
    ·rw[List.filter_eq_self.mpr (by simp)] at hR4
     have ey4:=Yo hR4
     have hsll:((List.range sn.toNat).map (fun j:Nat=>cellX ns (0+(j:Int)) % (10:Int) ^ Int.toNat 30)).length=sn.toNat:=by simp
     generalize (List.range sn.toNat).map (fun j:Nat=>cellX ns (0+(j:Int)) % (10:Int) ^ Int.toNat 30)=xs at*
     subst ey4
     have s04:=s03.trans s4
     have hwa4:=s04 _ _ hwa
     have hwa4q:=SqT.of (K:=K) hwa4
     have hwl:=Paired.length hwF
     walk_at "rds"
     try unfold Zan
     try walk_at "rds"
     refine⟨wa,rfl,⟨_,hwa4q⟩,?_⟩
     refine Yf (WQ hwa4q) (fun j σ H'=>Zd H4 H'∧∃a7 a8,σ=[some (.ref p),some (.ref lp),some (.ref fo),some (.int i),some (.ref wa),some (.int sn),some (.ref sl),a7,a8]) ⟨Zd.refl _,_,_,rfl⟩ (fun i σ H' h=>h.1) ?_ ?_
     ·rintro j σ H5 hj ⟨s5,b7,b8,rfl⟩
      have hjl:j<fs.length:=by omega
      obtain⟨fad,tm,tvs',ea,hfa,htm,hT5⟩:=YB (d:=V.non) (e:=((0,[]):ZT)) hwF hjl
      rw[ea]
      have hf:=hfoks (fs.getD j (0,[])) (by rw[ZF hjl];exact List.getElem_mem _)
      generalize fs.getD j (0,[])=ff at*
      have s05:=s04.trans s5
      have hsl5:=s5 _ _ hsl4
      have hsl5q:=SqL.of (K:=K) hsl5
      have htok:∀t∈ff.2,0≤t.1∧t.1<(xs.length:Int)∧IntMulOk t.2 (xs.getD t.1.toNat 0):=fun t ht=>by
       obtain⟨t0,t1,t2⟩:=hf.ter t ht
       exact⟨t0,by omega,IntMulOk.of_left (Nat.le_trans (ZaY (n:=3) (by omega)) (by decide))⟩
      walk_at "rds"
      refine⟨sl,_,rfl,.inl hsl5q,fun l hl=>?_⟩
      have s6:Zd H5 (upd H5 l (.lst (xs.map V.int))):=Zo hl
      have v6:(upd H5 l (.lst (xs.map V.int))) l=some (.lst (xs.map V.int)):=Zg
      generalize upd H5 l (.lst (xs.map V.int))=H6 at*
      have s06:=s05.trans s6
      walk_at "rds"
      refine⟨fad,tm,l,ff.1,tvs',ff.2,xs,rfl,s06 _ _ hfa,s06 _ _ htm,hT5.keep (fun b xs e=>s06 _ _ e),SqL.of v6,hf.few,htok,fun H7 s7=>?_⟩
      have s07:=s06.trans s7
      walk_at "rds"
      refine⟨fad,tm,sl,ff.1,tvs',ff.2,xs,rfl,s07 _ _ hfa,s07 _ _ htm,hT5.keep (fun b xs e=>s07 _ _ e),SqL.of (s7 _ _ (s6 _ _ hsl5)),hf.few,htok,?_⟩
      walk_at "rds"
      exact⟨(s5.trans s6).trans s7,_,_,rfl⟩
     ·rintro σ H5 ⟨s5,b7,b8,rfl⟩
      exact⟨s04.trans s5,_,_,_,_,_,_,rfl⟩
  ·rintro σ H1 ⟨s1,a3,a4,a5,a6,a7,a8,rfl⟩
   walk_at "rds"
   exact q H1 s1
end
def Zb3 {K:PySem.W.Frag} {mg:Str→Option Value} (T:Tp K mg):Sp:=fun vs H Q _=>∃(c:Int) (m:Nat),vs=[.int c,.int m]∧m≤8∧
 ∀(r:Addr) (H':Hp) (nms:List Str),H r=none→Zd H H'→H' r=some (.lst (nms.map V.str))→(∀n∈nms,Ys n=true)→nms.Nodup→nms.length=m→(∃lg:Nat,∀n∈nms,n.length=lg)→Q (.ref r) H'
section
variable {P:Program} {w:World} {K:PySem.W.Frag} {mg:Str→Option Value} {base:Heap}
theorem ZeH (T:Tp K mg):Zj P w K mg base (CXX P w) 1 T.f_l_names T.d_l_names ["_law_cell","_law_many"] (Zb3 T):=by
 refine T.F_l_names.okX Yq (fun vs H Q E h=>?_) (fun cdv A outer s H vs Q E hr h=>?_)
 ·obtain⟨c,m,rfl,_⟩:=h
  rfl
 ·have hu:=hr.units
  obtain⟨c,m,rfl,hm,q⟩:=h
  have al:=Zhl
  refine⟨_,(Zc (Zs (i:=2) Yq.nd rfl (Or.inl rfl) Yn)
     (Zc (Zs (i:=3) Yq.nd rfl (Or.inl rfl) (Zm (ZU (K:=K) rfl) Zf (Zm ZZ (pv 0) Zf)))
     (Zc (Zs (i:=4) Yq.nd rfl (Or.inl rfl) (Zm ZZ (Zm Ye (pv 0) Zf) (pv 3)))
     (Zc (Zs (i:=5) Yq.nd rfl (Or.inl rfl) (YY Zb))
     (Zc (Z0 PassesOwn.leaving rfl (YF rfl T.n_range (Za (pv 1) Zb)) (Zk (i:=6) Yq.nd rfl (Or.inl rfl)) (Zc (Zs (i:=7) Yq.nd rfl (Or.inl rfl) Yn)
     (Zc (Z0 PassesOwn.leaving rfl (YF rfl T.n_range (Za (pv 3) Zb)) (Zk (i:=8) Yq.nd rfl (Or.inl rfl)) (Zc (Zs (i:=9) Yq.nd rfl (Or.inl rfl) (Zm Ye (pv 0) (Zm (ZU (K:=K) rfl) Zf (pv 8))))
     (Zc (Vp (ZW (ZP (YD (K:=K) rfl hu) (pv 8) (pv 4) (ZQ _)) (Ze (Zs (i:=9) Yq.nd rfl (Or.inl rfl) (Zm (ZU (K:=K) rfl) (Zm Ye (pv 0) Zf) (Zm Yl Zf (pv 6))))) ZJ))
     (Ze (Zs (i:=7) Yq.nd rfl (Or.inl rfl) (Zm (ZU (K:=K) rfl) (pv 7) (ZI (ZS (K:=K) rfl) (pv 2) (Zm ZZ (pv 9) Zf) (fun _ _=>rfl))))))))
     (Ze (ZK (YZ (K:=K) rfl PySem.F.plainAttrs_list PySem.F.slot_list_append PySem.F.type_list_append Yj (pv 5) (Za (pv 7) Zb)))))))
     (Ze (ZC (pv 5)))))))),?_⟩
  try dsimp only[L2.cxX,L2.ZL,L2.Zl]
  have lp:0<1+c % 8:=by omega
  walk_at "rds"
  have a0:=Int.emod_nonneg (c / 8) (show 1+c % 8≠0 by omega)
  have a1:=Int.emod_lt_of_pos (c / 8) lp
  generalize c / 8 % (1+c % 8)=at_ at*
  obtain⟨lg,elg⟩:∃l:Nat,1+c % 8=(l:Int):=⟨(1+c % 8).toNat,by omega⟩
  rw[elg] at a1⊢
  have lg1:1≤lg:=by omega
  have lg2:lg≤8:=by omega
  refine⟨Nat.zero_le _,fun r hr=>?_⟩
  have s1:Zd H (upd H r (.lst [])):=Zo hr
  have v1:(upd H r (.lst [])) r=some (.lst (([]:List Str).map V.str)):=Zg
  generalize upd H r (.lst [])=H1 at*
  walk_at "rds"
  refine WP (n:=m) (fun i σ H'=>∃(nms:List Str) (a6 a7 a8 a9:Option V),σ=[some (.int c),some (.int m),some (.str "abcdefghijklmnopqrstuvwxyz"),some (.int lg),some (.int at_),some (.ref r),a6,a7,a8,a9]∧Zd H H'∧H' r=some (.lst (nms.map V.str))∧nms.length=i∧UZ c at_ lg nms) ⟨[],_,_,_,_,rfl,s1,v1,rfl,⟨fun k x e=>by simp at e⟩⟩ ?_ ?_
  ·rintro i σ H2 hi ⟨nms,a6,a7,a8,a9,rfl,s2,hr2,hl2,hn2⟩
   have hz:(nms.map V.str).length<sizeLine:=Zu (by rw[List.length_map];omega)
   walk_at "rds"
   refine WP (n:=lg) (fun j σ H'=>H'=H2∧∃(w:Str) (a8 a9:Option V),σ=[some (.int c),some (.int m),some (.str "abcdefghijklmnopqrstuvwxyz"),some (.int lg),some (.int at_),some (.ref r),some (.int (0+(i:Int))),some (.str w),a8,a9]∧w.cps.toList=(List.range j).map (chN c at_ i)) ⟨rfl,"",_,_,rfl,rfl⟩ ?_ ?_
   ·rintro j σ H' hj ⟨rfl,w,b8,b9,rfl,hw⟩
    have d1:0<64+(0+(j:Int))∧(64+(0+(j:Int))).natAbs.log2<9000:=⟨by omega,ZeU (by omega) (by omega)⟩
    walk_at "rds"
    refine Rd.cut (fun σ' H2=>H2=H'∧∃t:Int,σ'=[some (.int c),some (.int m),some (.str "abcdefghijklmnopqrstuvwxyz"),some (.int lg),some (.int at_),some (.ref r),some (.int (0+(i:Int))),some (.str w),some (.int (0+(j:Int))),some (.int t)]∧chN c at_ i j=97+(t % 26).toNat) ?k1 ?i1
    case i1=>
     walk_at "rds"
     refine Rd.ifD (fun z=>?_) (fun z=>?_)
     ·walk_at "rds"
      refine⟨rfl,_,rfl,?_⟩
      unfold chN
      rw[if_pos (by omega),Int.zero_add]
     ·walk_at "rds"
      refine⟨rfl,_,rfl,?_⟩
      unfold chN
      rw[if_neg (by omega),Int.zero_add]
    case k1=>
     rintro σ' H3 ⟨rfl,t,rfl,ht⟩
     walk_at "rds"
     have t0:0≤t % 26:=by omega
     have t1:t % 26<26:=by omega
     refine Rd.ZjP al (Zh8 t0 t1) ?_
     rw[←ht]
     have wl:w.length=j:=by rw[Zcj,hw];simp
     refine Rd.ZiQ (Nat.le_of_lt (Zu (by rw[wl];show j+1≤1000;omega))) ?_
     walk_at "rds"
     refine⟨rfl,_,_,_,rfl,?_⟩
     rw[Zfb,hw,List.range_succ,List.map_append]
     rfl
   ·rintro σ H' ⟨rfl,w,b8,b9,rfl,hw⟩
    walk_at "rds"
    refine⟨nms++ [w],_,_,_,_,rfl,s2.new hr,by rw[Zg,List.map_append];rfl,by simp[hl2],⟨fun k x e=>?_⟩⟩
    rcases Nat.lt_or_ge k nms.length with z|z
    ·rw[List.getElem?_append_left z] at e
     exact hn2.cps k x e
    ·rw[List.getElem?_append_right z] at e
     have hk:k-nms.length=0:=by
      rcases Nat.eq_zero_or_pos (k-nms.length) with y|y
      ·exact y
      ·rw[List.getElem?_eq_none (by simp;omega)] at e;cases e
     rw[hk] at e
     obtain rfl:w=x:=by simpa using e
     have:k=i:=by omega
     rw[this]
     exact hw
  ·rintro σ H2 ⟨nms,a6,a7,a8,a9,rfl,s2,hr2,hl2,hn2⟩
   walk_at "rds"
   exact q r H2 nms hr s2 hr2 (hn2.name lg1 lg2) (hn2.nodup (by omega) a0 a1) hl2 ⟨_,fun n hn=>by
    obtain⟨k,hk⟩:=List.getElem?_of_mem hn
    rw[Zcj,hn2.cps k n hk,List.length_map,List.length_range]⟩
end
def UY {K:PySem.W.Frag} {mg:Str→Option Value} (T:Tp K mg):Sp:=fun vs H Q E=>∃(p:Addr) (fl:FM) (fp:List Addr),vs=[.ref p]∧Yk T H p fl fp∧
 ∀r H',H r=none→Zd H H'→H' r=some (.lst (fl.heaps.map V.int))→Q (.ref r) H'
section
variable {P:Program} {w:World} {K:PySem.W.Frag} {mg:Str→Option Value} {base:Heap}
theorem Zca (T:Tp K mg):Zj P w K mg base (CXX P w) 1 T.f_Floor_lying T.d_Floor_lying ["self"] (UY T):=by
 have cl_Floor:=T.cl_Floor
 have na_Floor:=T.na_Floor
 refine T.F_Floor_lying.okX Zcd (fun vs H Q E h=>?_) (fun cdv A outer s H vs Q E hr h=>?_)
 ·obtain⟨p,fl,fp,rfl,_⟩:=h
  rfl
 ·have hu:=hr.units
  obtain⟨p,fl,fp,rfl,hf,q⟩:=h
  obtain⟨dx,a,b,c,ia,ib,rfl,h1,h2,h3,h4,h5,h6,h7,h8,h9⟩:=id hf
  refine⟨_,(Ze (ZC (Ya (Y8 (K:=K) rfl) (by rfl) T.n_list PyProof.Rows.boot_list (Za (ZH (K:=K) rfl (pv 0) rfl) Zb)))),?_⟩
  try dsimp only[L2.cxX,L2.ZL,L2.Zl]
  walk_at "rds"
  refine Rd.Zcc (.of h5) (fun r hr=>?_)
  exact q r _ hr (Zo hr) Zg
end
def WA {K:PySem.W.Frag} {mg:Str→Option Value} (T:Tp K mg):Sp:=fun vs H Q E=>∃(p dx l:Addr) (laid:List Int) (g:Nat),vs=[.ref p]∧H p=some (.ins T.C_Lane dx [("laid",.ref l),("gone",.int g)])∧H dx=some (.own p)∧H l=some (.lst (laid.map V.int))∧g≤laid.length∧∀r,H r=none→Q (.ref r) (upd H r (.lst ((laid.drop g).map V.int)))
theorem Zc3 {K:PySem.W.Frag} {mg:Str→Option Value} {T:Tp K mg} {H:Hp} {p:Addr} {xs:List Int} {fp:List Addr} {Q:VK} {E:XK} (h:Yi T H p xs fp) (q:∀r,H r=none→Q (.ref r) (upd H r (.lst (xs.map V.int)))):WA T ([.ref p]++ []) H Q E:=by
 obtain⟨dx,l,laid,g,rfl,h1,h2,h3,h4,h5,h6⟩:=h
 exact⟨p,dx,l,laid,g,rfl,h1,h2,h3,h4,h5▸q⟩
section
variable {P:Program} {w:World} {K:PySem.W.Frag} {mg:Str→Option Value} {base:Heap}
theorem V5 (T:Tp K mg):Zj P w K mg base (CXX P w) 1 T.f_Lane_lying T.d_Lane_lying ["self"] (WA T):=by
 have cl_Lane:=T.cl_Lane
 have na_Lane:=T.na_Lane
 refine T.F_Lane_lying.okX ZcV (fun vs H Q E h=>?_) (fun cdv A outer s H vs Q E hr h=>?_)
 ·obtain⟨p,dx,l,laid,g,rfl,_⟩:=h
  rfl
 ·have hu:=hr.units
  obtain⟨p,dx,l,laid,g,rfl,h1,h2,h3,h4,q⟩:=h
  have h3q:=SqL.of (K:=K) h3
  refine⟨_,(Ze (ZC (W7 (Zcf (K:=K) rfl) (ZH (K:=K) rfl (pv 0) rfl) (Wm (ZH (K:=K) rfl (pv 0) rfl)) Zcg))),?_⟩
  try dsimp only[L2.cxX,L2.ZL,L2.Zl]
  walk_at "rds"
  refine Rd.slL h3q ?_
  intro r hr
  rw[Zgx (by rw[List.length_map];exact h4),←List.map_drop]
  exact q r hr
end
def V3 {K:PySem.W.Frag} {mg:Str→Option Value} (T:Tp K mg):Sp:=fun vs H Q E=>∃(p:Addr) (fl:FM) (fss:List (List ZT)) (st:Nat→List Int) (fp:List Addr),vs=[.ref p]∧Z3 T H p fl fss st fp∧fl.rows.length≤1000∧
 ∀r H' ys,H r=none→Zd H H'→H' r=some (.lst ys)→ZV (hid H' r) ys ((List.range fl.rows.length).map st)→(∀v∈ys,∃t,v= .ref t∧H t=none)→Q (.ref r) H'
section
variable {P:Program} {w:World} {K:PySem.W.Frag} {mg:Str→Option Value} {base:Heap}
theorem Zau (T:Tp K mg):Zj P w K mg base (CXX P w) 2 T.f_Mill_lying T.d_Mill_lying ["self"] (V3 T):=by
 have G_Lane_lying:Zj P w K mg base (CXX P w) 1 T.f_Lane_lying T.d_Lane_lying ["self"] (WA T):=(V5 T).mono (by decide)
 have cl_Lane:=T.cl_Lane
 have na_Lane:=T.na_Lane
 have cl_Mill:=T.cl_Mill
 have na_Mill:=T.na_Mill
 refine T.F_Mill_lying.okX ZcP (fun vs H Q E h=>?_) (fun cdv A outer s H vs Q E hr h=>?_)
 ·obtain⟨p,fl,fss,st,fp,rfl,_⟩:=h
  rfl
 ·have hu:=hr.units
  obtain⟨p,fl,fss,st,fp,rfl,hm,hz,q⟩:=h
  obtain⟨dx,f,c,la,ffp,fvs,as,fps,rfl,h1,h2,h3,h4,h5,h6,h7,h8,h9,h10⟩:=id hm
  have h6q:=SqL.of (K:=K) h6
  refine⟨_,(Ze (ZC (Z7 (xs:=["lane"]) rfl (Z1 (x:="lane") (zs:=[]) (ix:=[]) (Zh WM) ["self"] rfl rfl (by decide+kernel)) (ZN (K:=K) rfl (ZH (K:=K) rfl (pv 0) rfl)) (fun cl C s H fp=>⟨(Zk (i:=0) (show(["lane"]:List Str).Nodup by decide+kernel) rfl (Or.inl rfl)),Z6,(Wa (pv 0) T.cl_Lane T.M_Lane_lying G_Lane_lying hr T.b_Lane_lying .nil WD)⟩)))),?_⟩
  try dsimp only[L2.cxX,L2.ZL,L2.Zl]
  walk_at "rds"
  refine ZM (own:=1) (ZG h6q).y (Zu (by simp;omega)) (fun i=>[some (.ref (as.getD i 0))]) (fun _=>rfl) (fun _=>true) (fun i v H1=>∃t,v=V.ref t∧H t=none∧H1 t=some (.lst ((st i).map V.int))) (fun _ _ _ _ e ⟨t,z1,z0,z2⟩=>⟨t,z1,z0,e _ _ z2⟩) (fun i a' H' v H4 Kg hi sm y ha' k=>?_) (fun i H' Kc hi sm k=>?_) (fun pp i H' Kc hi hci hp0 hp1 sm k=>?_) (fun r H4 zs hr sm hl' hR=>?_)
  ·obtain⟨rfl,rfl⟩:=y
   obtain⟨x1,rfl⟩:∃x1,a'=[x1]:=by
    match a',ha' with
    | [x1],_=>exact⟨x1,rfl⟩
   have hi1:i<as.length:=by simpa using hi
   have ev1:(as.map V.ref).getD i .non= .ref (as.getD i 0):=by simp[List.getD,hi1]
   rw[ev1]
   walk_at "rds"
   exact k _ (Zd.refl _)
  ·walk_at "rds"
   exact k H' (Zd.refl H')
  ·have hi1:i<as.length:=by simpa using hi
   have hla:=(h8.1 i hi1).same sm
   walk_at "rds"
   refine Zc3 hla fun u hu=>?_
   exact k _ _ (Zo hu) ⟨u,rfl,Z2 sm hu,Uq hp1 hu⟩
  ·rw[List.filter_eq_self.mpr (by simp),List.length_map,h7] at hR
   obtain⟨z1,z2⟩:=Vd hR
   exact q r H4 zs hr sm hl' z1 z2
end
def Zcx {K:PySem.W.Frag} {mg:Str→Option Value} (T:Tp K mg):Sp:=fun vs H Q E=>∃(p:Addr) (fl:FM) (fss:List (List ZT)) (st:Nat→List Int) (fp:List Addr),vs=[.ref p]∧Z3 T H p fl fss st fp∧fl.rows.length≤100∧(∀i<fl.rows.length,(st i).length≤50000)∧
 ∀r H' ys,H r=none→Zd H H'→H' r=some (.lst ys)→ZV (hid H' r) ys ((List.range fl.rows.length).map st)→(∀v∈ys,∃t,v= .ref t∧H t=none)→Q (.ref r) H'
section
variable {P:Program} {w:World} {K:PySem.W.Frag} {mg:Str→Option Value} {base:Heap}
theorem Zf1 (T:Tp K mg):Zj P w K mg base (CXX P w) 3 T.f_l_told T.d_l_told ["_law_mill"] (Zcx T):=by
 have G_Floor_lying:Zj P w K mg base (CXX P w) 2 T.f_Floor_lying T.d_Floor_lying ["self"] (UY T):=(Zca T).mono (by decide)
 have G_Mill_lying:Zj P w K mg base (CXX P w) 2 T.f_Mill_lying T.d_Mill_lying ["self"] (V3 T):=(Zau T).mono (by decide)
 have G_Lane_lying:Zj P w K mg base (CXX P w) 2 T.f_Lane_lying T.d_Lane_lying ["self"] (WA T):=(V5 T).mono (by decide)
 have cl_Floor:=T.cl_Floor
 have na_Floor:=T.na_Floor
 have cl_Lane:=T.cl_Lane
 have na_Lane:=T.na_Lane
 have cl_Mill:=T.cl_Mill
 have na_Mill:=T.na_Mill
 refine T.F_l_told.okX ZaG (fun vs H Q E h=>?_) (fun cdv A outer s H vs Q E hr h=>?_)
 ·obtain⟨p,fl,fss,st,fp,rfl,_⟩:=h
  rfl
 ·have hu:=hr.units
  obtain⟨p,fl,fss,st,fp,rfl,hm,hz,hst,q⟩:=h
  refine⟨_,(Zc (Zs (i:=1) ZaG.nd rfl (Or.inl rfl) (Wa (pv 0) T.cl_Mill T.M_Mill_lying G_Mill_lying hr T.b_Mill_lying .nil Zn))
     (Zc (Z0 PassesOwn.leaving rfl (ZN (K:=K) rfl (pv 1)) (Zk (i:=2) ZaG.nd rfl (Or.inl rfl)) (Ze (ZK (YZ (K:=K) rfl PySem.F.plainAttrs_list PySem.F.slot_list_append PySem.F.type_list_append Yj (pv 2) (Za Zf Zb)))))
     (Zc (ZK (YZ (K:=K) rfl PySem.F.plainAttrs_list PySem.F.slot_list_append PySem.F.type_list_append Yj (pv 1) (Za (YY (Za Zf Zb)) Zb)))
     (Ze (ZC (Wa (pv 0) T.cl_Mill T.M_Mill_lying G_Mill_lying hr T.b_Mill_lying .nil Zn)))))),?_⟩
  try dsimp only[L2.cxX,L2.ZL,L2.Zl]
  walk_at "rds"
  refine⟨p,fl,fss,st,fp,rfl,hm,by omega,fun r H1 ys hr s1 hr1 hR hnw=>?_⟩
  have hyl:=hR.length
  rw[List.length_map,List.length_range] at hyl
  have hr1q:=SqL.of (K:=K) hr1
  walk_at "rds"
  refine Yf (H0:=V6 H1 r) (ZG (xs:=ys) (SqL.of (by rw[Vb];exact hr1))) (fun i σ H'=>Zd H H'∧H' r=some (.lst ys)∧(∀j<ys.length,∃t zs,ys.getD j .non= .ref t∧H t=none∧t≠r∧H' t=some (.lst zs)∧zs.length≤50000+i)∧∃a2,σ=[some (.ref p),some (.ref r),a2]) ⟨s1,hr1,fun j hj=>?_,_,rfl⟩ (fun i σ H' h=>Wn (h.2.1.trans hr1.symm)) ?_ ?_
  ·obtain⟨t,et,ht⟩:=YG hR (i:=j) (by simp;omega)
   obtain⟨t',et',ht'⟩:=hnw (ys.getD j .non) (by rw[ZF hj];exact List.getElem_mem _)
   rw[et] at et'
   cases et'
   have ntr:t≠r:=fun z=>by rw[z,Ws] at ht;cases ht
   refine⟨t,_,et,ht',ntr,YT _ _ ht,?_⟩
   have hj':j<fl.rows.length:=by omega
   rw[List.length_map]
   have:=hst j hj'
   simp[List.getD,hj']
   omega
  ·rintro i σ H2 hi ⟨s2,hr2,hA2,a2,rfl⟩
   obtain⟨t,zs,et,ht0,ntr,ht2,hzl⟩:=hA2 i hi
   rw[et]
   have hzz:zs.length<sizeLine:=Wq (by omega)
   walk_at "rds"
   refine⟨s2.new ht0,by rw[Zi (Ne.symm ntr)];exact hr2,fun j hj=>?_,_,rfl⟩
   obtain⟨t',zs',et',ht0',ntr',ht2',hzl'⟩:=hA2 j hj
   by_cases e:t'=t
   ·subst e
    exact⟨t',_,et',ht0',ntr',Zg,by rw[List.length_append];simp;omega⟩
   ·exact⟨t',zs',et',ht0',ntr',by rw[Zi e];exact ht2',by omega⟩
  ·rintro σ H2 ⟨s2,hr2,hA2,a2,rfl⟩
   have hyz:ys.length<sizeLine:=Zu (by omega)
   walk_at "rds"
   intro u hu
   have nur:r≠u:=Zq hr2 hu
   have hr3:(upd H2 u (.lst [.int 1])) r=some (.lst ys):=by rw[Zi nur];exact hr2
   have s3:Zd H (upd H2 u (.lst [.int 1])):=s2.trans (Zo hu)
   generalize upd H2 u (.lst [.int 1])=H3 at*
   walk_at "rds"
   have s4:Zd H (upd H3 r (.lst (ys++ [.ref u]))):=s3.new hr
   generalize upd H3 r (.lst (ys++ [.ref u]))=H4 at*
   have hm4:=hm.same s4
   walk_at "rds"
   refine⟨p,fl,fss,st,fp,rfl,hm4,by omega,fun r5 H5 ys5 hr5 s5 hr55 hR5 hnw5=>?_⟩
   exact q r5 H5 ys5 (Z2 s4 hr5) (s4.trans s5) hr55 hR5 fun v hv=>(by
    obtain⟨t,e,z⟩:=hnw5 v hv
    exact⟨t,e,Z2 s4 z⟩)
end
def Zbe {K:PySem.W.Frag} {mg:Str→Option Value} (T:Tp K mg):Sp:=fun vs H Q _=>∃a b:Nat,vs=[.int a,.int b]∧Q (.int (Nat.gcd a b:Nat)) H
section
variable {P:Program} {w:World} {K:PySem.W.Frag} {mg:Str→Option Value} {base:Heap}
theorem Zd9 (T:Tp K mg):Zj P w K mg base (CXX P w) 1 T.f_l_common T.d_l_common ["_law_one","_law_other"] (Zbe T):=by
 refine T.F_l_common.okX VR (fun vs H Q E h=>?_) (fun cdv A outer s H vs Q E hr h=>?_)
 ·obtain⟨a,b,rfl,_⟩:=h
  rfl
 ·have hu:=hr.units
  obtain⟨a0,b0,rfl,q⟩:=h
  rw[←My.Zc9] at q
  refine⟨_,(Zc (Zgy PassesOwn.leaving (ZP (UD (K:=K) rfl hu) (pv 1) Zf (ZQ _)) (Zc (Zs (i:=2) VR.nd rfl (Or.inl rfl) (Zm ZZ (pv 0) (pv 1)))
     (Zc (Zs (i:=0) VR.nd rfl (Or.inl rfl) (pv 1))
     (Ze (Zs (i:=1) VR.nd rfl (Or.inl rfl) (pv 2))))))
     (Ze (ZC (pv 0)))),?_⟩
  try dsimp only[L2.cxX,L2.ZL,L2.Zl]
  walk_at "rd"
  refine Zh0 (fun m σ H'=>H'=H∧∃(x y:Int) (r:Option V),m=y.toNat∧σ=[some (.int x),some (.int y),r]∧0≤x∧0≤y∧My.G x y=My.G a0 b0) _ ⟨rfl,a0,b0,none,rfl,rfl,by omega,by omega,rfl⟩ ?_
  rintro m σ H' ⟨rfl,x,y,r,rfl,rfl,hx,hy,hG⟩
  walk_at "rds"
  refine Zbz (fun c=>Zjo ?_) (fun c=>?_)
  ·have hy0:0<y:=by
    have:¬y=0:=by simpa using c
    omega
   walk_at "rds"
   exact⟨_,(by have:=Int.emod_nonneg x (show y≠0 by omega);have:=Int.emod_lt_of_pos x hy0;omega),rfl,y,x % y,some (.int (x % y)),rfl,rfl,hy,Int.emod_nonneg x (by omega),(ZhI hx hy0).trans hG⟩
  ·have hy0:y=0:=by simpa using c
   have e:x=My.G a0 b0:=by rw[←hG,My.ZiC hx hy0]
   walk_at "rds"
   rw[e]
   exact q
end
def ZaD {K:PySem.W.Frag} {mg:Str→Option Value} (T:Tp K mg):Sp:=fun vs H Q _=>∃(c:Int) (a:Addr) (rs:List Int) (tp:Nat) (am:Bool),vs=[.int c,.ref a,.int tp,.bl am]∧SqL K H a (rs.map V.int)∧0<rs.length∧rs.length≤30∧Zir rs∧0<tp∧tp≤10∧
 ∀(u:Addr) (H':Hp) (b:B5),H u=none→Zd H H'→H' u=some (.tup b.v)→Bel rs.length b→Q (.ref u) H'
section
variable {P:Program} {w:World} {K:PySem.W.Frag} {mg:Str→Option Value} {base:Heap}
theorem Zde (T:Tp K mg):Zj P w K mg base (CXX P w) 2 T.f_l_belt_by T.d_l_belt_by ["_law_cell","_law_rates","_law_top","_law_ample"] (ZaD T):=by
 have G_l_common:Zj P w K mg base (CXX P w) 1 T.f_l_common T.d_l_common ["_law_one","_law_other"] (Zbe T):=(Zd9 T).mono (by decide)
 refine T.F_l_belt_by.okX Ym (fun vs H Q E h=>?_) (fun cdv A outer s H vs Q E hr h=>?_)
 ·obtain⟨c,a,rs,tp,am,rfl,_⟩:=h
  rfl
 ·have hu:=hr.units
  obtain⟨c,a,rs,tp,am,rfl,hA,n0,n1,h4,tp0,tp1,q⟩:=h
  have tpp:0<(tp:Int):=by omega
  have hsl:((rs.map V.int).length:Int)=(rs.length:Int):=by simp
  have np:0<((rs.map V.int).length:Int):=by omega
  refine⟨_,(Zc (Zs (i:=4) Ym.nd rfl (Or.inl rfl) (Zm ZZ (Zm Yl (pv 0) Zf) Zf))
     (Zc (Zs (i:=5) Ym.nd rfl (Or.inl rfl) (Zm ZZ (pv 4) (Zt (Yx (K:=K) rfl) (by rfl) T.n_len PySem.boot_len (Za (pv 1) Zb))))
     (Zc (Zs (i:=6) Ym.nd rfl (Or.inl rfl) (Zm ZZ (Zm Ye (pv 4) Zf) (Zt (Yx (K:=K) rfl) (by rfl) T.n_len PySem.boot_len (Za (pv 1) Zb))))
     (Zc (Zs (i:=7) Ym.nd rfl (Or.inl rfl) (Zz G_l_common hr rfl T.m_l_common T.F_l_common.kp T.b_l_common .nil Zn (Za (ZI (ZS (K:=K) rfl) (pv 1) (pv 5) (fun _ _=>rfl)) (Za (ZI (ZS (K:=K) rfl) (pv 1) (pv 6) (fun _ _=>rfl)) Zb))))
     (Zc (Zs (i:=8) Ym.nd rfl (Or.inl rfl) (Zm (ZU (K:=K) rfl) Zf (Zm ZZ (Zm Ye (pv 4) Zf) (pv 2))))
     (Zc (Zs (i:=9) Ym.nd rfl (Or.inl rfl) (Zm Ye (Zm Yl (pv 8) (ZI (ZS (K:=K) rfl) (pv 1) (pv 6) (fun _ _=>rfl))) (pv 7)))
     (Zc (Zs (i:=10) Ym.nd rfl (Or.inl rfl) (Zm Ye (Zm Yl (pv 8) (ZI (ZS (K:=K) rfl) (pv 1) (pv 5) (fun _ _=>rfl))) (pv 7)))
     (Zc (Zs (i:=11) Ym.nd rfl (Or.inl rfl) (Zm ZZ (Zm Ye (pv 4) Zf) Zf))
     (Zc (Vp (ZW (PW.pt (Zah (Z5 (K:=K) rfl (pv 3) (fun _=>rfl)) (UU (PW.pt (ZfZ (ZP Zb1 (pv 5) (pv 6) (ZQ _)) (Zen (ZP Zfc (Zm ZZ (Zm Ye (pv 4) Zf) Zf) Zf (ZQ _)))))))) (Ze (Zs (i:=11) Ym.nd rfl (Or.inl rfl) (Zm (ZU (K:=K) rfl) (pv 11) (Zm Yl (pv 10) (ZI (ZS (K:=K) rfl) (pv 1) (pv 6) (fun _ _=>rfl)))))) ZJ))
     (Ze (ZC (VY (Za (pv 5) (Za (pv 6) (Za (pv 9) (Za (pv 10) (Za (pv 11) Zb))))))))))))))))),?_⟩
  try dsimp only[L2.cxX,L2.ZL,L2.Zl]
  walk_at "rds"
  have m0:0≤c*48271 % 2147483647:=by omega
  have m1:c*48271 % 2147483647<2147483647:=by omega
  generalize c*48271 % 2147483647=mx at*
  have r1:=Int.emod_nonneg mx (show((rs.map V.int).length:Int)≠0 by omega)
  have r2:=Int.emod_lt_of_pos mx np
  have r3:=Int.emod_nonneg (mx / 7) (show((rs.map V.int).length:Int)≠0 by omega)
  have r4:=Int.emod_lt_of_pos (mx / 7) np
  generalize mx % ((rs.map V.int).length:Int)=g at*
  generalize mx / 7 % ((rs.map V.int).length:Int)=t at*
  rw[hsl] at r2 r4
  have rat:∀{w:Int},0≤w→w<(rs.length:Int)→∃x:Nat,rs.getD w.toNat 0=(x:Int)∧1≤x∧x≤4:=fun{w} w0 w1=>by
   have hm:rs.getD w.toNat 0∈rs:=by rw[ZF (by omega)];exact List.getElem_mem _
   obtain⟨p1,p2⟩:=h4 _ hm
   exact⟨(rs.getD w.toNat 0).toNat,by omega,by omega,by omega⟩
  obtain⟨x,ex,x0,x1⟩:=rat r1 r2
  obtain⟨y,ey,y0,y1⟩:=rat r3 r4
  have at1:=W9 r1 r2
  have at2:=W9 r3 r4
  rw[ex] at at1
  rw[ey] at at2
  have tr1:=Int.emod_nonneg (mx / 49) (show(tp:Int)≠0 by omega)
  have tr2:=Int.emod_lt_of_pos (mx / 49) tpp
  obtain⟨f,ef⟩:∃f:Nat,1+mx / 49 % (tp:Int)=(f:Int):=⟨(1+mx / 49 % (tp:Int)).toNat,by omega⟩
  have f0:1≤f:=by omega
  have f1:f≤10:=by omega
  have g0:0<Nat.gcd x y:=Nat.gcd_pos_of_pos_left _ (by omega)
  have gx:Nat.gcd x y≤x:=Nat.le_of_dvd (by omega) (Nat.gcd_dvd_left _ _)
  have gy:Nat.gcd x y≤y:=Nat.le_of_dvd (by omega) (Nat.gcd_dvd_right _ _)
  have fx:x≤f*x:=Nat.le_mul_of_pos_left x (by omega)
  have fy:y≤f*y:=Nat.le_mul_of_pos_left y (by omega)
  have fx8:f*x≤10*4:=Nat.mul_le_mul f1 x1
  have fy8:f*y≤10*4:=Nat.mul_le_mul f1 y1
  have p1:1≤f*y / Nat.gcd x y:=Nat.div_pos (by omega) g0
  have p2:1≤f*x / Nat.gcd x y:=Nat.div_pos (by omega) g0
  have p3:f*x / Nat.gcd x y≤40:=Nat.le_trans (Nat.div_le_self _ _) (by omega)
  have p4:f*y / Nat.gcd x y≤40:=Nat.le_trans (Nat.div_le_self _ _) (by omega)
  have mo1:IntMulOk (1+mx / 49 % (tp:Int)) (x:Int):=mulI (n:=10) (m:=10) (by omega) (by omega) (by decide)
  have mo2:IntMulOk (1+mx / 49 % (tp:Int)) (y:Int):=mulI (n:=10) (m:=10) (by omega) (by omega) (by decide)
  have gd:0<((Nat.gcd x y:Nat):Int)∧((Nat.gcd x y:Nat):Int).natAbs.log2<9000:=⟨by omega,ZeO (by omega)⟩
  refine Rd.ZhY hA at1 ?_
  walk_at "rds"
  refine⟨x,y,rfl,?_⟩
  walk_at "rds"
  rw[ef]
  have eg:(f:Int)*(y:Int) / ((Nat.gcd x y:Nat):Int)=((f*y / Nat.gcd x y:Nat):Int):=rfl
  have et:(f:Int)*(x:Int) / ((Nat.gcd x y:Nat):Int)=((f*x / Nat.gcd x y:Nat):Int):=rfl
  rw[eg,et]
  generalize f*y / Nat.gcd x y=gv at*
  generalize f*x / Nat.gcd x y=tk at*
  have mo3:IntMulOk (tk:Int) (y:Int):=mulI (n:=10) (m:=10) (by omega) (by omega) (by decide)
  have s0:0≤mx / 98 % 3∧mx / 98 % 3≤2:=by omega
  have ty:(tk:Int)*(y:Int)≤40*4:=Int.mul_le_mul (by omega) (by omega) (by omega) (by omega)
  have ty0:0≤(tk:Int)*(y:Int):=Int.mul_nonneg (by omega) (by omega)
  refine Rd.cut (fun σ' H'=>H'=H∧∃st:Int,σ'=[some (.int c),some (.ref a),some (.int tp),some (.bl am),some (.int mx),some (.int g),some (.int t),some (.int (Nat.gcd x y:Nat)),some (.int f),some (.int gv),some (.int tk),some (.int st)]∧0≤st∧st≤1000) ?k1 ?i1
  case i1=>
   cases am with
   |true=>
    walk_at "rds"
    exact⟨rfl,_,rfl,by omega,by omega⟩
   |false=>
    walk_at "rds"
    refine Rd.ifD (fun d1=>?_) (fun d1=>?_)
    ·walk_at "rds"
     refine Rd.ifD (fun d2=>?_) (fun d2=>?_)
     ·walk_at "rds"
      exact⟨rfl,_,rfl,by omega,by omega⟩
     ·walk_at "rds"
      exact⟨rfl,_,rfl,by omega,by omega⟩
    ·walk_at "rds"
     exact⟨rfl,_,rfl,by omega,by omega⟩
  case k1=>
   rintro σ' H' ⟨rfl,st,rfl,st0,st1⟩
   walk_at "rds"
   refine⟨by show 5≤sizeLine;decide,fun u hu1=>?_⟩
   exact q u _ ⟨g,t,gv,tk,st⟩ hu1 (Zo hu1) Zg ⟨⟨r1,r2,r3,r4⟩,⟨by dsimp only;omega,by dsimp only;omega⟩,⟨st0,st1⟩,⟨by dsimp only;omega,by dsimp only;omega⟩⟩
end
def ZcK {K:PySem.W.Frag} {mg:Str→Option Value} (T:Tp K mg):Sp:=fun vs H Q _=>∃(a b:Addr) (hs:List Int) (l:List (Int×Int)) (xs:List V),vs=[.ref a,.ref b]∧SqL K H a (hs.map V.int)∧SqL K H b xs∧Y3 H l xs∧(∀x∈l,0≤x.1∧x.1<hs.length)∧l.length≤1000∧∀H',Zd H H'→Q (.bl (UW hs l)) H'
section
variable {P:Program} {w:World} {K:PySem.W.Frag} {mg:Str→Option Value} {base:Heap}
theorem ZfT (T:Tp K mg):Zj P w K mg base (CXX P w) 1 T.f_enough T.d_enough ["heaps","takes"] (ZcK T):=by
 refine T.F_enough.okX ZfO (fun vs H Q E h=>?_) (fun cdv A outer s H vs Q E hr h=>?_)
 ·obtain⟨a,b,hs,l,xs,rfl,_⟩:=h
  rfl
 ·have hu:=hr.units
  obtain⟨a,b,hs,l,xs,rfl,ha,hb,hp,hr,hz,q⟩:=h
  have hxl:l.length=xs.length:=Paired.length hp
  refine⟨_,(Ze (ZC (Zt (Zc6 (K:=K) rfl rfl) (by rfl) T.n_all PyProof.Rows.boot_all (Za (Z7 (xs:=["belt","take"]) rfl (Z1 (x:="belt") (zs:=["heaps"]) (ix:=[0]) (Zh Us) ["heaps","takes"] rfl rfl (by decide+kernel)) (ZN (K:=K) rfl (pv 1)) (fun cl C s H fp=>⟨(Yg (K:=K) (n:=2) rfl rfl (Zx (Zk (i:=0) (show(["belt","take","heaps"]:List Str).Nodup by decide+kernel) rfl (Or.inl rfl)) (Zx (Zk (i:=1) (show(["belt","take","heaps"]:List Str).Nodup by decide+kernel) rfl (Or.inl rfl)) Yh))),Z6,(VD Zb1 (ZI (ZS (K:=K) rfl) (pv 2) (pv 0) (fun _ _=>rfl)) (pv 1) (ZQ _))⟩)) Zb)))),?_⟩
  try dsimp only[L2.cxX,L2.ZL,L2.Zl]
  walk_at "rds"
  refine ZM (own:=2) (ZG hb).y (Zu (by omega)) (fun i=>[some (.int (l.getD i (0,0)).1),some (.int (l.getD i (0,0)).2)]) (fun _=>rfl) (fun _=>true) (fun i v _=>v= .bl (decide ((l.getD i (0,0)).2≤hs.getD (l.getD i (0,0)).1.toNat 0))) (fun _ _ _ _ _ z=>z) (fun i a' H' v H2 Kg hi sm y ha' k=>?_) (fun i H' Kc hi sm k=>?_) (fun pp i H' Kc hi hc hp0 hp1 sm k=>?_) (fun r H' ys hr' sm hl' hR=>?_)
  ·obtain⟨rfl,rfl⟩:=y
   obtain⟨x1,x2,rfl⟩:∃x1 x2,a'=[x1,x2]:=by
    match a',ha' with
    | [x1,x2],_=>exact⟨x1,x2,rfl⟩
   obtain⟨v,hv,t,rfl,ht⟩:=Paired.get hp (List.getElem?_eq_getElem (show i<l.length by omega))
   have eb:xs.getD i .non= .ref t:=by simp[List.getD,hv]
   have el:l.getD i (0,0)=l[i]:=by simp[List.getD,show i<l.length by omega]
   rw[eb]
   rw[el] at k
   refine Rd.Ww (.of (sm _ _ ht)) rfl ?_
   walk_at "rds"
   exact k _ (Zd.refl _)
  ·walk_at "rds"
   exact k H' (Zd.refl H')
  ·have el:l.getD i (0,0)=l[i]:=by simp[List.getD,show i<l.length by omega]
   obtain⟨r0,r1⟩:=hr _ (List.getElem_mem (show i<l.length by omega))
   rw[el] at k⊢
   generalize l[i]=x at*
   have hs':=sm.seq ha
   have at1:=Zb8 r0 r1
   walk_at "rds"
   exact k _ H' (Zd.refl H') rfl
  ·have e:ys=(l.map fun x=>decide (x.2≤hs.getD x.1.toNat 0)).map V.bl:=by
    rw[Vl (R:=fun i v _=>v=V.bl (decide ((l.getD i (0,0)).2≤hs.getD (l.getD i (0,0)).1.toNat 0))) (H:=H') (r:=fun i=>V.bl (decide ((l.getD i (0,0)).2≤hs.getD (l.getD i (0,0)).1.toNat 0))) (fun _ _ z=>z) hR,List.filter_eq_self.mpr (by simp),←hxl]
    refine List.ext_getElem (by simp) fun i h1 h2=>?_
    have hi:i<l.length:=by simpa using h1
    have el:l.getD i (0,0)=l[i]:=by simp[List.getD,hi]
    rw[List.getElem_map,List.getElem_map,List.getElem_map,List.getElem_range,el]
   rw[e] at hl'
   walk_at "rds"
   have e2:(l.map fun x=>decide (x.2≤hs.getD x.1.toNat 0)).all id=UW hs l:=by rw[List.all_map];rfl
   rw[e2]
   exact q H' sm
end
def VZ {K:PySem.W.Frag} {mg:Str→Option Value} (T:Tp K mg):Sp:=fun vs H Q E=>∃(p:Addr) (w:Int) (fl:FM) (fp:List Addr),vs=[.ref p,.int w]∧Yk T H p fl fp∧
 (¬(0≤w∧w<fl.many)→E (.ref T.X_NoWork) none H)∧(0≤w→w<fl.many→Q .non H)
section
variable {P:Program} {w:World} {K:PySem.W.Frag} {mg:Str→Option Value} {base:Heap}
theorem ZaS (T:Tp K mg):Zj P w K mg base (CXX P w) 4 T.f_Floor_need_work T.d_Floor_need_work ["self","work"] (VZ T):=by
 have G_is_number_below:Zj P w K mg base (CXX P w) 3 T.f_is_number_below T.d_is_number_below ["thing","bound"] (Yb T):=(YX T).mono (by decide)
 have cl_Floor:=T.cl_Floor
 have na_Floor:=T.na_Floor
 refine T.F_Floor_need_work.okX ZaK (fun vs H Q E h=>?_) (fun cdv A outer s H vs Q E hr h=>?_)
 ·obtain⟨p,w,fl,fp,rfl,_⟩:=h
  rfl
 ·have hu:=hr.units
  obtain⟨p,w,fl,fp,rfl,hf,e1,q⟩:=h
  obtain⟨dx,a,b,c,ia,ib,rfl,h1,h2,h3,h4,h5,h6,h7,h8,h9⟩:=id hf
  refine⟨_,(Ze (ZW (Yr (Z5 (K:=K) rfl (Zz G_is_number_below hr rfl T.m_is_number_below T.F_is_number_below.kp T.b_is_number_below .nil Zn (Za (pv 1) (Za (Zt (Yx (K:=K) rfl) (by rfl) T.n_len PySem.boot_len (Za (ZH (K:=K) rfl (pv 0) rfl) Zb)) Zb))) (fun _=>rfl))) (Ze (Yc T.gx_NoWork T.ex_NoWork PySem.F.excBase_ValueError rfl (Za Yn Zb))) ZJ)),?_⟩
  try dsimp only[L2.cxX,L2.ZL,L2.Zl]
  walk_at "rds"
  have el:((ia.map V.ref).length:Int)=fl.many:=by
   rw[List.length_map,h6.len]
   unfold ZbQ
   simp only[List.length_map,List.length_range]
   omega
  rw[el]
  by_cases c:0≤w∧w<fl.many
  ·rw[decide_eq_true c]
   walk_at "rds"
   exact q c.1 c.2
  ·rw[decide_eq_false c]
   walk_at "rds"
   exact e1 c
end
def UT {K:PySem.W.Frag} {mg:Str→Option Value} (T:Tp K mg):Sp:=fun vs H Q E=>∃(p q:Addr) (ws:List Int) (fl:FM) (fp:List Addr),vs=[.ref p,.ref q]∧Yk T H p fl fp∧SqL K H q (ws.map V.int)∧fl.rows.length≤1000∧
 (goR fl.many fl.rows fl.heaps ws= .error true→∀H',Zd H H'→E (.ref T.X_NoWork) none H')∧(goR fl.many fl.rows fl.heaps ws= .error false→∀H',Zd H H'→E (.ref T.X_Empty) none H')∧
 (∀hs,goR fl.many fl.rows fl.heaps ws= .ok hs→∀(H':Hp) (fp':List Addr),Yk T H' p ⟨fl.many,fl.rows,hs⟩ fp'→Zp fp H H'→ZO fp fp' H→Q .non H')
theorem Zcv {f:Nat→Int} {hs:List Int} {is:List Nat} {i:Nat} (h:i<is.length):bump f hs (is.take (i+1))=(bump f hs (is.take i)).set is[i] ((bump f hs (is.take i)).getD is[i] 0+f is[i]):=by
 unfold bump
 rw[List.take_succ_eq_append_getElem h,List.foldl_append]
 rfl
theorem Zf3 {js:List Nat} {f:Nat→Int} {H:Hp} {vs:List V} {i:Nat} (h:Y3 H (js.map fun i:Nat=>((i:Int),f i)) vs) (hi:i<js.length):∃t,vs.getD i .non= .ref t∧H t=some (.tup [.int (js[i]:Nat),.int (f js[i])]):=by
 obtain⟨v,hv,t,rfl,ht⟩:=Paired.get h (i:=i) (x:=((js[i]:Int),f js[i])) (by rw[List.getElem?_map,List.getElem?_eq_getElem hi];rfl)
 exact⟨t,by simp[List.getD,hv],ht⟩
section
variable {P:Program} {w:World} {K:PySem.W.Frag} {mg:Str→Option Value} {base:Heap}
theorem Zbi (T:Tp K mg):Zj P w K mg base (CXX P w) 5 T.f_Floor_go T.d_Floor_go ["self","row"] (UT T):=by
 have G_enough:Zj P w K mg base (CXX P w) 4 T.f_enough T.d_enough ["heaps","takes"] (ZcK T):=(ZfT T).mono (by decide)
 have G_Floor_need_work:Zj P w K mg base (CXX P w) 4 T.f_Floor_need_work T.d_Floor_need_work ["self","work"] (VZ T):=(ZaS T).mono (by decide)
 have cl_Floor:=T.cl_Floor
 have na_Floor:=T.na_Floor
 refine T.F_Floor_go.okX Y9 (fun vs H Q E h=>?_) (fun cdv A outer s H vs Q E hr h=>?_)
 ·obtain⟨p,q,ws,fl,fp,rfl,_⟩:=h
  rfl
 ·have hu:=hr.units
  obtain⟨p,qa,ws,fl,fp,rfl,hf,hq,hz,e1,e2,q⟩:=h
  obtain⟨dx,a,b,c,ia,ib,rfl,h1,h2,h3,h4,h5,h6,h7,h8,h9⟩:=id hf
  refine⟨_,(Zc (Zs (i:=2) Y9.nd rfl (Or.inl rfl) (Ya (Y8 (K:=K) rfl) (by rfl) T.n_list PyProof.Rows.boot_list (Za (ZH (K:=K) rfl (pv 0) rfl) Zb)))
     (Zc (Z0 PassesOwn.leaving rfl (ZN (K:=K) rfl (pv 1)) (Zk (i:=3) Y9.nd rfl (Or.inl rfl)) (Zc (ZK (Z8 (pv 0) T.cl_Floor T.M_Floor_need_work G_Floor_need_work hr T.b_Floor_need_work .nil Zn (Za (pv 3) Zb)))
     (Zc (ZW (Yr (Z5 (K:=K) rfl (Zz G_enough hr rfl T.m_enough T.F_enough.kp T.b_enough .nil Zn (Za (pv 2) (Za (ZI (ZS (K:=K) rfl) (ZH (K:=K) rfl (pv 0) rfl) (pv 3) (fun _ _=>rfl)) Zb))) (fun _=>rfl))) (Ze (Yc T.gx_Empty T.ex_Empty PySem.F.excBase_ValueError rfl (Za Yn Zb))) ZJ)
     (Zc (Z0 PassesOwn.leaving rfl (ZN (K:=K) rfl (ZI (ZS (K:=K) rfl) (ZH (K:=K) rfl (pv 0) rfl) (pv 3) (fun _ _=>rfl))) (Yg (K:=K) (n:=2) rfl rfl (Zx (Zk (i:=4) Y9.nd rfl (Or.inl rfl)) (Zx (Zk (i:=5) Y9.nd rfl (Or.inl rfl)) Yh))) (Ze (Zet (pv 2) (pv 4) (ZcG (K:=K) rfl) (pv 5) ZiI UB)))
     (Ze (Z0 PassesOwn.leaving rfl (ZN (K:=K) rfl (ZI (ZS (K:=K) rfl) (ZH (K:=K) rfl (pv 0) rfl) (pv 3) (fun _ _=>rfl))) (Yg (K:=K) (n:=2) rfl rfl (Zx (Zk (i:=4) Y9.nd rfl (Or.inl rfl)) (Zx (Zk (i:=6) Y9.nd rfl (Or.inl rfl)) Yh))) (Ze (Zet (pv 2) (pv 4) (ZcG (K:=K) rfl) (pv 6) Zgf UB))))))))
     (Ze (YN (K:=K) rfl (pv 0) (pv 2) rfl)))),?_⟩
  try dsimp only[L2.cxX,L2.ZL,L2.Zl]
  walk_at "rds"
  refine Rd.Zcc (.of h5) (fun r hr=>?_)
  have s1:Zd H (upd H r (.lst (fl.heaps.map V.int))):=Zo hr
  have hr1:(upd H r (.lst (fl.heaps.map V.int))) r=some (.lst (fl.heaps.map V.int)):=Zg
  generalize upd H r (.lst (fl.heaps.map V.int))=H1 at*
  have hq1:=s1.seq hq
  walk_at "rds"
  refine Yf (ZG hq) (fun i σ H'=>Zd H H'∧(∃a1 a2 a3 a4,σ=[some (.ref p),some (.ref qa),some (.ref r),a1,a2,a3,a4])∧∃hs,goR fl.many fl.rows fl.heaps (ws.take i)= .ok hs∧H' r=some (.lst (hs.map V.int))) ⟨s1,⟨_,_,_,_,rfl⟩,fl.heaps,rfl,hr1⟩ (fun i σ H' h=>h.1) ?_ ?_
  ·rintro i σ H2 hi ⟨s2,⟨a1,a2,a3,a4,rfl⟩,hs,hg,hr2⟩
   have hiw:i<ws.length:=by simpa using hi
   have ew:=List.getElem?_eq_getElem hiw
   have ev:(ws.map V.int).getD i .non= .int ws[i]:=by simp[List.getD,hiw]
   rw[ev]
   have hgs:=ZdE hg ew
   have hst:=fun b=>ZgA (b:=b) hg ew
   generalize ws[i]=w at*
   have hf2:=hf.same s2
   have hlen:hs.length=fl.rows.length:=Zce h8 hg
   walk_at "rds"
   refine⟨p,w,fl,_,rfl,hf2,fun z=>e1 (hst true (by unfold turnR;rw[if_neg z])) H2 s2,fun w0 w1=>?_⟩
   have g1:=s2 _ _ h1
   have g3:=s2 _ _ h3
   have g4:=s2 _ _ h4
   obtain⟨x,vs,at1,hx,hpx⟩:=h6.at w0 (Zcq w0 w1)
   obtain⟨y,vs',at2,hy,hpy⟩:=h7.at w0 (Zcu w0 w1)
   have gx:=s2 _ _ hx
   have gy:=s2 _ _ hy
   have tl:=Zbk (ls:=fl.rows) (w:=w)
   walk_at "rds"
   refine⟨r,x,hs,takeRow fl.rows w,vs,rfl,.of hr2,.of gx,hpx.keep fun _ _ z=>s2 _ _ z,ZeD hlen,by omega,fun H3 s3=>?_⟩
   rw[Zfw hlen]
   cases hrd:Y0 fl.rows hs w with
   |false=>
    walk_at "rds"
    exact e2 (hst false (by unfold turnR;rw[if_pos ⟨w0,w1⟩,hrd];rfl)) H3 (s2.trans s3)
   |true=>
    have hok:goR fl.many fl.rows fl.heaps (ws.take (i+1))= .ok (WC fl.rows hs w):=by
     rw[hgs];unfold turnR;rw[if_pos ⟨w0,w1⟩,hrd,if_pos rfl]
    have s13:=s2.trans s3
    have k1:=s13 _ _ h1
    have k3:=s13 _ _ h3
    have kx:=s13 _ _ hx
    have hr3:=s3 _ _ hr2
    have nxr:x≠r:=Zq hx hr
    have nyr:y≠r:=Zq hy hr
    have vl:vs.length=(ZE fl.rows w).length:=by rw[←Paired.length hpx];unfold takeRow;simp
    have vl':vs'.length=(leaveL fl.rows w).length:=by rw[←Paired.length hpy];unfold giveRow;simp
    walk_at "rds"
    refine Yf (ZG (SqL.of hx)) (fun j σ H'=>Zd H H'∧(∃a2 a3 a4,σ=[some (.ref p),some (.ref qa),some (.ref r),some (.int w),a2,a3,a4])∧H' r=some (.lst ((bump (fun i=>-(fl.rows.getD i dB).take) hs ((ZE fl.rows w).take j)).map V.int))) ⟨s13,⟨_,_,_,rfl⟩,hr3⟩ (fun i σ H' h=>h.1) ?_ ?_
    ·rintro j σ H4 hj ⟨s4,⟨a2,a3,a4,rfl⟩,hr4⟩
     have hj':j<(ZE fl.rows w).length:=by omega
     obtain⟨t,ht1,ht2⟩:=Zf3 hpx hj'
     have hlt:=Y4 (List.getElem_mem hj')
     have bs':=Zcv (f:=fun i=>-(fl.rows.getD i dB).take) (hs:=hs) hj'
     rw[ht1]
     refine Rd.Ww (.of (s4 _ _ ht2)) rfl ?_
     generalize (ZE fl.rows w)[j]=m at*
     have bl:=WL (fun i=>-(fl.rows.getD i dB).take) ((ZE fl.rows w).take j) hs
     generalize bump (fun i=>-(fl.rows.getD i dB).take) hs ((ZE fl.rows w).take j)=us at*
     have at3:=Zb8 (ns:=us) (k:=(m:Int)) (Int.natCast_nonneg m) (by omega)
     have ml:(m:Int)<((us.map V.int).length:Int):=by simp;omega
     walk_at "rds"
     refine⟨s4.new hr,⟨_,_,_,rfl⟩,?_⟩
     rw[Zg,bs',List.map_set]
     rfl
    ·rintro σ H4 ⟨s4,⟨a2,a3,a4,rfl⟩,hr4⟩
     have m1:=s4 _ _ h1
     have m4:=s4 _ _ h4
     have my:=s4 _ _ hy
     rw[vl,List.take_length] at hr4
     walk_at "rds"
     have bl:=WL (fun i=>-(fl.rows.getD i dB).take) (ZE fl.rows w) hs
     refine Yf (ZG (SqL.of hy)) (fun j σ H'=>Zd H H'∧(∃a2 a3 a4,σ=[some (.ref p),some (.ref qa),some (.ref r),some (.int w),a2,a3,a4])∧H' r=some (.lst ((bump (fun i=>(fl.rows.getD i dB).give) (bump (fun i=>-(fl.rows.getD i dB).take) hs (ZE fl.rows w)) ((leaveL fl.rows w).take j)).map V.int))) ⟨s4,⟨_,_,_,rfl⟩,hr4⟩ (fun i σ H' h=>h.1) ?_ ?_
     ·rintro j σ H5 hj ⟨s5,⟨a2,a3,a4,rfl⟩,hr5⟩
      have hj':j<(leaveL fl.rows w).length:=by omega
      obtain⟨t,ht1,ht2⟩:=Zf3 hpy hj'
      have hlt:=WN (List.getElem_mem hj')
      have bs':=Zcv (f:=fun i=>(fl.rows.getD i dB).give) (hs:=bump (fun i=>-(fl.rows.getD i dB).take) hs (ZE fl.rows w)) hj'
      rw[ht1]
      refine Rd.Ww (.of (s5 _ _ ht2)) rfl ?_
      generalize (leaveL fl.rows w)[j]=m at*
      have bl2:=WL (fun i=>(fl.rows.getD i dB).give) ((leaveL fl.rows w).take j) (bump (fun i=>-(fl.rows.getD i dB).take) hs (ZE fl.rows w))
      generalize bump (fun i=>(fl.rows.getD i dB).give) (bump (fun i=>-(fl.rows.getD i dB).take) hs (ZE fl.rows w)) ((leaveL fl.rows w).take j)=us at*
      have at3:=Zb8 (ns:=us) (k:=(m:Int)) (Int.natCast_nonneg m) (by omega)
      have ml:(m:Int)<((us.map V.int).length:Int):=by simp;omega
      walk_at "rds"
      refine⟨s5.new hr,⟨_,_,_,rfl⟩,?_⟩
      rw[Zg,bs',List.map_set]
      rfl
     ·rintro σ H5 ⟨s5,⟨a2,a3,a4,rfl⟩,hr5⟩
      rw[vl',List.take_length,Ze4 hlen] at hr5
      walk_at "rds"
      exact⟨s5,⟨_,_,_,_,rfl⟩,_,hok,hr5⟩
  ·rintro σ H2 ⟨s2,⟨a1,a2,a3,a4,rfl⟩,hs,hg,hr2⟩
   rw[List.length_map,List.take_length] at hg
   have g1:=s2 _ _ h1
   have npr:p≠r:=Zq h1 hr
   walk_at "rds"
   have f3:Zp [p] H2 (upd H2 p (.ins T.C_Floor dx [("takes",.ref a),("gives",.ref b),("heaps",.ref r)])):=ZR (by simp) g1 (by intro _ z;cases z)
   have kk:∀x,x≠p→H x≠none→(upd H2 p (.ins T.C_Floor dx [("takes",.ref a),("gives",.ref b),("heaps",.ref r)])) x=H x:=fun x n d=>by
    rw[Zi n]
    cases e:H x with
    |none=>exact absurd e d
    |some o=>exact s2 _ _ e
   have tt:∀b' xs,H b'=some (.tup xs)→(upd H2 p (.ins T.C_Floor dx [("takes",.ref a),("gives",.ref b),("heaps",.ref r)])) b'=some (.tup xs):=fun b' xs z=>f3.tups _ _ (s2 _ _ z)
   have nl:∀{ls:List (List (Int×Int))} {is:List Addr},LL H ls is→∀x∈is,x≠p:=fun{ls is} l x hx z=>by
    obtain⟨i,hi,rfl⟩:=List.getElem_of_mem hx
    have hi2:i<ls.length:=by rw[←l.len];exact hi
    obtain⟨y,e3,vs,e4,_⟩:=Paired.get l (List.getElem?_eq_getElem hi2)
    rw[List.getElem?_eq_getElem hi] at e3
    cases e3
    rw[z,h1] at e4
    cases e4
   have fp1:Zp (p::dx::a::b::c::(ia++ib)) H (upd H2 p (.ins T.C_Floor dx [("takes",.ref a),("gives",.ref b),("heaps",.ref r)])):=s2.frame.trans (f3.mono (by simp))
   refine q hs hg _ (p::dx::a::b::r::(ia++ib)) ⟨dx,a,b,r,ia,ib,rfl,Zg,?_,?_,?_,?_,h6.keep tt (fun x hx=>kk x (nl h6 x hx) (h6.dom x hx)),h7.keep tt (fun x hx=>kk x (nl h7 x hx) (h7.dom x hx)),Zce h8 hg,h9⟩ fp1 (fun x hx=>?_)
   ·exact(kk _ (WH h2 h1 (by intro z;cases z)) (by rw[h2];simp)).trans h2
   ·exact(kk _ (WH h3 h1 (by intro z;cases z)) (by rw[h3];simp)).trans h3
   ·exact(kk _ (WH h4 h1 (by intro z;cases z)) (by rw[h4];simp)).trans h4
   ·rw[Zi npr.symm];exact hr2
   ·simp only[List.mem_cons,List.mem_append] at hx⊢
    rcases hx with rfl|rfl|rfl|rfl|rfl|hx|hx
    ·exact .inl (.inl rfl)
    ·exact .inl (.inr (.inl rfl))
    ·exact .inl (.inr (.inr (.inl rfl)))
    ·exact .inl (.inr (.inr (.inr (.inl rfl))))
    ·exact .inr hr
    ·exact .inl (.inr (.inr (.inr (.inr (.inr (.inl hx))))))
    ·exact .inl (.inr (.inr (.inr (.inr (.inr (.inr hx))))))
end
def Zao {K:PySem.W.Frag} {mg:Str→Option Value} (T:Tp K mg):Sp:=fun vs H Q E=>∃(p:Addr) (w:Int) (fl:FM) (fp:List Addr),vs=[.ref p,.int w]∧Yk T H p fl fp∧fl.rows.length≤1000∧
 (¬(0≤w∧w<fl.many)→∀H',Zd H H'→E (.ref T.X_NoWork) none H')∧
 ((0≤w∧w<fl.many)→Zdo fl w=false→∀H',Zd H H'→E (.ref T.X_Empty) none H')∧
 ((0≤w∧w<fl.many)→Zdo fl w=true→∀(H':Hp) (fp':List Addr),Yk T H' p ⟨fl.many,fl.rows,turnedL fl w⟩ fp'→Zp fp H H'→ZO fp fp' H→Q .non H')
section
variable {P:Program} {w:World} {K:PySem.W.Frag} {mg:Str→Option Value} {base:Heap}
theorem ZcO (T:Tp K mg):Zj P w K mg base (CXX P w) 6 T.f_Floor_turn T.d_Floor_turn ["self","work"] (Zao T):=by
 have G_Floor_go:Zj P w K mg base (CXX P w) 5 T.f_Floor_go T.d_Floor_go ["self","row"] (UT T):=(Zbi T).mono (by decide)
 have cl_Floor:=T.cl_Floor
 have na_Floor:=T.na_Floor
 refine T.F_Floor_turn.okX Zc2 (fun vs H Q E h=>?_) (fun cdv A outer s H vs Q E hr h=>?_)
 ·obtain⟨p,w,fl,fp,rfl,_⟩:=h
  rfl
 ·have hu:=hr.units
  obtain⟨p,w,fl,fp,rfl,hf,hz,e1,e2,q⟩:=h
  refine⟨_,(Ze (ZK (Z8 (pv 0) T.cl_Floor T.M_Floor_go G_Floor_go hr T.b_Floor_go .nil Zn (Za (YY (Za (pv 1) Zb)) Zb)))),?_⟩
  try dsimp only[L2.cxX,L2.ZL,L2.Zl]
  walk_at "rds"
  refine(fun r hr=>?_)
  have s1:Zd H (upd H r (.lst [V.int w])):=Zo hr
  have hr1:(upd H r (.lst [V.int w])) r=some (.lst ([w].map V.int)):=Zg
  generalize upd H r (.lst [V.int w])=H1 at*
  have hf1:=hf.same s1
  walk_at "rds"
  have eg:goR fl.many fl.rows fl.heaps [w]=turnR fl.many fl.rows fl.heaps w:=by
   show(match turnR fl.many fl.rows fl.heaps w with| .ok hs'=>goR fl.many fl.rows hs' []| .error e=> .error e)=_
   cases turnR fl.many fl.rows fl.heaps w<;>rfl
  refine⟨p,r,[w],fl,fp,rfl,hf1,.of hr1,hz,fun z H' s=>?_,fun z H' s=>?_,fun hs z H' fp' hf' fr gr=>?_⟩
  ·rw[eg] at z
   unfold turnR at z
   split at z
   ·split at z<;>cases z
   ·rename_i c
    exact e1 c H' (s1.trans s)
  ·rw[eg] at z
   unfold turnR at z
   split at z
   ·rename_i c
    split at z
    ·cases z
    ·rename_i d
     exact e2 c (by unfold Zdo;simpa using d) H' (s1.trans s)
   ·cases z
  ·rw[eg] at z
   unfold turnR at z
   split at z
   ·rename_i c
    split at z
    ·rename_i d
     cases z
     walk_at "rds"
     refine q c d H' fp' hf' (s1.frame.trans fr) (fun x hx=>?_)
     rcases gr x hx with y|y
     ·exact .inl y
     ·refine .inr ?_
      cases e:H x with
      |none=>rfl
      |some o=>rw[s1 _ _ e] at y;cases y
    ·cases z
   ·cases z
end
def VW {K:PySem.W.Frag} {mg:Str→Option Value} (T:Tp K mg):Sp:=fun vs H Q E=>∃(p c:Addr) (xs ps:List Int) (fp:List Addr),vs=[.ref p,.ref c]∧Yi T H p xs fp∧H c=some (.lst (ps.map V.int))∧c∉fp∧ps.length≤1000∧xs.length≤100000∧∀H' fp',Yi T H' p (xs++ps) fp'→Zp fp H H'→ZO fp fp' H→Q .non H'
section
variable {P:Program} {w:World} {K:PySem.W.Frag} {mg:Str→Option Value} {base:Heap}
theorem ZaE (T:Tp K mg):Zj P w K mg base (CXX P w) 1 T.f_Lane_lay_behind T.d_Lane_lay_behind ["self","pieces"] (VW T):=by
 have cl_Lane:=T.cl_Lane
 have na_Lane:=T.na_Lane
 refine T.F_Lane_lay_behind.okX ZaC (fun vs H Q E h=>?_) (fun cdv A outer s H vs Q E hr h=>?_)
 ·obtain⟨p,c,xs,ps,fp,rfl,_⟩:=h
  rfl
 ·have hu:=hr.units
  obtain⟨p,c,xs,ps,fp,rfl,hl,hc,ncf,hpz,hxz,q⟩:=h
  obtain⟨dx,l,laid,g,rfl,h1,h2,h3,h4,h5,h6⟩:=id hl
  have n1:p≠l:=fun z=>by rw[z,h3] at h1;cases h1
  have n2:dx≠l:=fun z=>by rw[z,h3] at h2;cases h2
  refine⟨_,(Ze (ZK (YZ (K:=K) rfl PySem.F.plainAttrs_list PySem.F.slot_list_extend PySem.F.type_list_extend Zco (ZH (K:=K) rfl (pv 0) rfl) (Za (pv 1) Zb)))),?_⟩
  try dsimp only[L2.cxX,L2.ZL,L2.Zl]
  walk_at "rds"
  refine⟨l,c,_,_,rfl,rfl,h3,hc,Nat.le_of_lt (Wq (by simp only[List.length_map];omega)),?_⟩
  refine q _ [p,dx,l] ⟨dx,l,laid++ps,g,rfl,by rw[Zi n1];exact h1,by rw[Zi n2];exact h2,by rw[Zg,List.map_append],by rw[List.length_append];omega,by rw[List.drop_append_of_le_length h4,h5],by rw[List.length_append,List.length_append];omega⟩ (ZR (by simp) h3 (by intro _ z;cases z)) ZO.refl
end
def V9 {K:PySem.W.Frag} {mg:Str→Option Value} (T:Tp K mg):Sp:=fun vs H Q E=>∃(p:Addr) (m:Nat) (xs:List Int) (fp:List Addr),vs=[.ref p,.int m]∧Yi T H p xs fp∧m≤xs.length∧xs.length≤100000∧
 ∀r H' fp',H r=none→Yi T H' p (xs.drop m) fp'→H' r=some (.lst ((xs.take m).map V.int))→r∉fp'→Zp fp H H'→ZO fp fp' H→Q (.ref r) H'
section
variable {P:Program} {w:World} {K:PySem.W.Frag} {mg:Str→Option Value} {base:Heap}
theorem Zba (T:Tp K mg):Zj P w K mg base (CXX P w) 2 T.f_Lane_drawn_off T.d_Lane_drawn_off ["self","many"] (V9 T):=by
 have G_Lane_lying:Zj P w K mg base (CXX P w) 1 T.f_Lane_lying T.d_Lane_lying ["self"] (WA T):=(V5 T).mono (by decide)
 have cl_Lane:=T.cl_Lane
 have na_Lane:=T.na_Lane
 refine T.F_Lane_drawn_off.okX Ua (fun vs H Q E h=>?_) (fun cdv A outer s H vs Q E hr h=>?_)
 ·obtain⟨p,m,xs,fp,rfl,_⟩:=h
  rfl
 ·have hu:=hr.units
  obtain⟨p,m,xs,fp,rfl,hl,hm,hz,q⟩:=h
  obtain⟨dx,l,laid,g,rfl,h1,h2,h3,h4,h5,h6⟩:=id hl
  have h3q:=SqL.of (K:=K) h3
  refine⟨_,(Zc (Zs (i:=2) Ua.nd rfl (Or.inl rfl) (W7 (Zcf (K:=K) rfl) (ZH (K:=K) rfl (pv 0) rfl) (Wm (ZH (K:=K) rfl (pv 0) rfl)) (Wm (Zm (ZU (K:=K) rfl) (ZH (K:=K) rfl (pv 0) rfl) (pv 1)))))
     (Zc (Ze8 (K:=K) rfl (pv 0) (pv 1) ZhL)
     (Zc (ZW (ZP Zfc (Zm Yl (ZH (K:=K) rfl (pv 0) rfl) Zf) (Zt (Yx (K:=K) rfl) (by rfl) T.n_len PySem.boot_len (Za (ZH (K:=K) rfl (pv 0) rfl) Zb)) (ZQ _)) (Zc (YN (K:=K) rfl (pv 0) (Wa (pv 0) T.cl_Lane T.M_Lane_lying G_Lane_lying hr T.b_Lane_lying .nil Zn) rfl)
     (Ze (YN (K:=K) rfl (pv 0) Zf rfl))) ZJ)
     (Ze (ZC (pv 2)))))),?_⟩
  try dsimp only[L2.cxX,L2.ZL,L2.Zl]
  walk_at "rds"
  refine Rd.slL h3q ?_
  intro r hr
  rw[ZaZ (by omega) (by omega),←List.map_drop,←List.map_take,show((g:Int)).toNat=g from rfl,show((m:Int)).toNat=m from rfl,h5]
  have s1:Zd H (upd H r (.lst ((xs.take m).map V.int))):=Zo hr
  have hr1:(upd H r (.lst ((xs.take m).map V.int))) r=some (.lst ((xs.take m).map V.int)):=Zg
  have hl1:=hl.same s1
  generalize upd H r (.lst ((xs.take m).map V.int))=H1 at*
  have h11:=s1 _ _ h1
  have h21:=s1 _ _ h2
  have h31:=s1 _ _ h3
  walk_at "rds"
  unfold Zb7
  walk_at "rds"
  refine⟨p,_,dx,_,_,rfl,h11,cl_Lane,Ve.get na_Lane (by decide+kernel),Rd.lk1 (by decide+kernel) Rd.lk0,?_⟩
  walk_at "rds"
  refine⟨g,m,rfl,rfl,?_⟩
  refine⟨dx,_,h11,by simp only[List.length_cons,List.length_nil];decide,?_⟩
  have np:l≠p:=fun z=>by rw[z,h11] at h31;cases h31
  have nd:dx≠p:=fun z=>by rw[z,h11] at h21;cases h21
  have nr:r≠p:=fun z=>by rw[z,h1] at hr;cases hr
  have nrl:r≠l:=fun z=>by rw[z,h3] at hr;cases hr
  have nrd:r≠dx:=fun z=>by rw[z,h2] at hr;cases hr
  have v1:(upd H1 p (.ins T.C_Lane dx [("laid",.ref l),("gone",.int ((g:Int)+m))])) p=some (.ins T.C_Lane dx [("laid",.ref l),("gone",.int ((g:Int)+m))]):=Zg
  have v2:(upd H1 p (.ins T.C_Lane dx [("laid",.ref l),("gone",.int ((g:Int)+m))])) dx=some (.own p):=by rw[Zi nd];exact h21
  have v3:(upd H1 p (.ins T.C_Lane dx [("laid",.ref l),("gone",.int ((g:Int)+m))])) l=some (.lst (laid.map V.int)):=by rw[Zi np];exact h31
  have v4:(upd H1 p (.ins T.C_Lane dx [("laid",.ref l),("gone",.int ((g:Int)+m))])) r=some (.lst ((xs.take m).map V.int)):=by rw[Zi nr];exact hr1
  have f1:Zp [p,dx,l] H (upd H1 p (.ins T.C_Lane dx [("laid",.ref l),("gone",.int ((g:Int)+m))])):=s1.frame.trans (ZR (by simp) h11 (by intro _ z;cases z))
  show ZgN _ _ _ _ (upd H1 p (.ins T.C_Lane dx [("laid",.ref l),("gone",.int ((g:Int)+m))]))
  generalize upd H1 p (.ins T.C_Lane dx [("laid",.ref l),("gone",.int ((g:Int)+m))])=H2 at*
  have v3q:=SqL.of (K:=K) v3
  have egm:((g:Int)+m)=((g+m:Nat):Int):=by omega
  have hlen:xs.length=laid.length-g:=by rw[←h5,List.length_drop]
  have hdd:laid.drop (g+m)=xs.drop m:=by rw[←h5,List.drop_drop]
  rw[egm] at v1
  by_cases c:(laid.length:Int)<((g:Int)+m)*2
  ·walk_at "rds"
   refine⟨p,dx,l,laid,g+m,rfl,v1,v2,v3,by omega,fun u hu=>?_⟩
   have nup:u≠p:=fun z=>by rw[z,v1] at hu;cases hu
   have nud:u≠dx:=fun z=>by rw[z,v2] at hu;cases hu
   have nul:u≠l:=fun z=>by rw[z,v3] at hu;cases hu
   have nur:r≠u:=fun z=>by rw[←z,v4] at hu;cases hu
   have hu0:H u=none:=by
    cases e:H u with
    |none=>rfl
    |some o=>rw[f1.keep u o e (by simp[nup,nud,nul])] at hu;cases hu
   have s3:Zd H2 (upd H2 u (.lst ((laid.drop (g+m)).map V.int))):=Zo hu
   have w5:(upd H2 u (.lst ((laid.drop (g+m)).map V.int))) u=some (.lst ((laid.drop (g+m)).map V.int)):=Zg
   generalize upd H2 u (.lst ((laid.drop (g+m)).map V.int))=H3 at*
   have w1:=s3 _ _ v1
   have w2:=s3 _ _ v2
   have w4:=s3 _ _ v4
   walk_at "rds"
   refine q r _ [p,dx,u] hr ⟨dx,u,laid.drop (g+m),0,rfl,Zg,by rw[Zi nd,Zi nd];exact w2,by rw[Zi nup,Zi nup];exact w5,Nat.zero_le _,hdd,by rw[hdd];omega⟩ (by rw[Zi nr,Zi nr];exact w4) (by simp[nr,nrd,nur]) ((f1.trans s3.frame).trans ((ZR (by simp) w1 (by intro _ z;cases z)).trans (ZR (by simp) Zg (by intro _ z;cases z)))) (fun x hx=>?_)
   simp only[List.mem_cons,List.not_mem_nil,or_false] at hx
   rcases hx with rfl|rfl|rfl
   ·exact .inl (by simp)
   ·exact .inl (by simp)
   ·exact .inr hu0
  ·walk_at "rds"
   exact q r _ [p,dx,l] hr ⟨dx,l,laid,g+m,rfl,v1,v2,v3,by omega,hdd,by rw[List.length_drop];omega⟩ v4 (by simp[nr,nrd,nrl]) f1 ZO.refl
end
def UP {K:PySem.W.Frag} {mg:Str→Option Value} (T:Tp K mg):Sp:=fun vs H Q E=>∃(p:Addr) (w:Int) (fl:FM) (fss:List (List ZT)) (st:Nat→List Int) (fp:List Addr),vs=[.ref p,.int w]∧Z3 T H p fl fss st fp∧0≤w∧w<fl.many∧fss.length=fl.many.toNat∧U1 fl.rows w (fss.getD w.toNat [])∧YH fl.rows∧MM.ok (ZA fl.rows fss) st w∧(∀i<fl.rows.length,(st i).length≤50000)∧
 ∀H' fp',Z3 T H' p fl fss (MM.step (ZA fl.rows fss) st w) fp'→Zp fp H H'→ZO fp fp' H→Q .non H'
section
variable {P:Program} {w:World} {K:PySem.W.Frag} {mg:Str→Option Value} {base:Heap}
theorem ZbZ (T:Tp K mg):Zj P w K mg base (CXX P w) 3 T.f_Mill_pass_on T.d_Mill_pass_on ["self","work"] (UP T):=by
 have G_form_value:Zj P w K mg base (CXX P w) 2 T.f_form_value T.d_form_value ["form","pieces"] (V7 T):=(Zaw T).mono (by decide)
 have G_Lane_lay_behind:Zj P w K mg base (CXX P w) 2 T.f_Lane_lay_behind T.d_Lane_lay_behind ["self","pieces"] (VW T):=(ZaE T).mono (by decide)
 have G_Lane_drawn_off:Zj P w K mg base (CXX P w) 2 T.f_Lane_drawn_off T.d_Lane_drawn_off ["self","many"] (V9 T):=(Zba T).mono (by decide)
 have cl_Lane:=T.cl_Lane
 have na_Lane:=T.na_Lane
 have cl_Mill:=T.cl_Mill
 have na_Mill:=T.na_Mill
 refine T.F_Mill_pass_on.okX Z9 (fun vs H Q E h=>?_) (fun cdv A outer s H vs Q E hr h=>?_)
 ·obtain⟨p,w,fl,fss,st,fp,rfl,_⟩:=h
  rfl
 ·have hu:=hr.units
  obtain⟨p,w,fl,fss,st,fp,rfl,hm,w0,w1,hfl,hfo,hb,hok,hst,q⟩:=h
  obtain⟨dx,f,c,la,ffp,fvs,as,fps,rfl,h1,h2,h3,h4,h5,h6,h7,h8,h9,h10⟩:=id hm
  obtain⟨fdx,fa,fb,fc,ia,ib,hffp,g1,g2,g3,g4,g5,g6,g7,g8,g9⟩:=id h3
  obtain⟨ta,hta,tvs,hta1,hta2⟩:=Paired.get g6 (Zcq w0 w1)
  obtain⟨ga,hga,gvs,hga1,hga2⟩:=Paired.get g7 (Zcu w0 w1)
  have hatT:atI (ia.map V.ref) w=some (.ref ta):=by
   have:=YQ (xs:=ia.map V.ref) (j:=w.toNat) (v:= .ref ta) (by rw[List.getElem?_map,hta];rfl)
   rwa [Int.toNat_of_nonneg w0] at this
  have hatG:atI (ib.map V.ref) w=some (.ref ga):=by
   have:=YQ (xs:=ib.map V.ref) (j:=w.toNat) (v:= .ref ga) (by rw[List.getElem?_map,hga];rfl)
   rwa [Int.toNat_of_nonneg w0] at this
  have mta:ta∈ffp:=by rw[hffp];simp[List.mem_of_getElem? hta]
  have mga:ga∈ffp:=by rw[hffp];simp[List.mem_of_getElem? hga]
  have mf:f∈ffp:=by rw[hffp];simp
  have mfa:fa∈ffp:=by rw[hffp];simp
  have mfb:fb∈ffp:=by rw[hffp];simp
  have offL:∀x∈p::dx::c::la::ffp,x∉Y2 as.length fps:=fun x hx z=>by
   obtain⟨i,hi,z⟩:=Vc.mp z
   exact h9 i hi x z hx
  have hwf:w.toNat<fss.length:=by omega
  obtain⟨wa,wvs,hwv,hwa,hwF⟩:=YB (d:=V.non) (e:=([]:List ZT)) h5 hwf
  have hatF:atI fvs w=some (.ref wa):=by
   have hv:w.toNat<fvs.length:=by rw[Paired.length h5];exact hwf
   have:=YQ (xs:=fvs) (j:=w.toNat) (v:= .ref wa) (by rw[List.getElem?_eq_getElem hv];rw[←hwv,List.getD_eq_getElem?_getD,List.getElem?_eq_getElem hv];rfl)
   rwa [Int.toNat_of_nonneg w0] at this
  have hfew:=hb.few
  refine⟨_,(Zc (Zs (i:=2) Z9.nd rfl (Or.inr rfl) (YY Zb))
     (Zc (Z0 PassesOwn.leaving rfl (ZN (K:=K) rfl (ZI (ZS (K:=K) rfl) (ZH (K:=K) rfl (ZH (K:=K) rfl (pv 0) rfl) rfl) (pv 1) (fun _ _=>rfl))) (Yg (K:=K) (n:=2) rfl rfl (Zx (Zk (i:=3) Z9.nd rfl (Or.inl rfl)) (Zx (Zk (i:=4) Z9.nd rfl (Or.inl rfl)) Yh))) (Ze (ZK (YZ (K:=K) rfl PySem.F.plainAttrs_list PySem.F.slot_list_extend PySem.F.type_list_extend Zco (pv 2) (Za (Z8 (ZI (ZS (K:=K) rfl) (ZH (K:=K) rfl (pv 0) rfl) (pv 3) (fun _ _=>rfl)) T.cl_Lane T.M_Lane_drawn_off G_Lane_drawn_off hr T.b_Lane_drawn_off .nil Zn (Za (pv 4) Zb)) Zb)))))
     (Zc (VH (j:=5) (xs:=["form"]) rfl (Z1 (x:="form") (zs:=["slots"]) (ix:=[2]) (Zh Wl) ["self","work","slots","belt","take","given","done","give"] rfl rfl (by decide+kernel)) (VF (K:=K) rfl (ZI (ZS (K:=K) rfl) (ZH (K:=K) rfl (pv 0) rfl) (pv 1) (fun _ _=>rfl))) (fun cl C s H fp=>⟨(Zk (i:=0) (show(["form","slots"]:List Str).Nodup by decide+kernel) rfl (Or.inl rfl)),Z6,(Zz G_form_value hr rfl T.m_form_value T.F_form_value.kp T.b_form_value .nil WD (Za (pv 0) (Za (pv 1) Zb)))⟩) Z9.nd rfl (Or.inl rfl))
     (Zc (Zs (i:=6) Z9.nd rfl (Or.inl rfl) Zf)
     (Ze (Z0 PassesOwn.leaving rfl (ZN (K:=K) rfl (ZI (ZS (K:=K) rfl) (ZH (K:=K) rfl (ZH (K:=K) rfl (pv 0) rfl) rfl) (pv 1) (fun _ _=>rfl))) (Yg (K:=K) (n:=2) rfl rfl (Zx (Zk (i:=3) Z9.nd rfl (Or.inl rfl)) (Zx (Zk (i:=7) Z9.nd rfl (Or.inl rfl)) Yh))) (Zc (ZK (Z8 (ZI (ZS (K:=K) rfl) (ZH (K:=K) rfl (pv 0) rfl) (pv 3) (fun _ _=>rfl)) T.cl_Lane T.M_Lane_lay_behind G_Lane_lay_behind hr T.b_Lane_lay_behind .nil Zn (Za (W7 (Zcf (K:=K) rfl) (pv 5) (Wm (pv 6)) (Wm (Zm (ZU (K:=K) rfl) (pv 6) (pv 7)))) Zb)))
     (Ze (Zic (i:=6) Z9.nd rfl (Or.inl rfl) (pv 7) Zgf))))))))),?_⟩
  try dsimp only[L2.cxX,L2.ZL,L2.Zl]
  walk_at "rds"
  refine⟨by show 0≤sizeLine;decide,fun r hr=>?_⟩
  have f1:Zp (Y2 as.length fps) H (upd H r (.lst [])):=ZaV Zp.refl hr
  have v1:(upd H r (.lst [])) r=some (.lst []):=Zg
  have s1:Zd H (upd H r (.lst [])):=Zo hr
  generalize upd H r (.lst [])=H1 at*
  have p1:=f1.keep _ _ h1 (offL _ (by simp))
  have pf1:=f1.keep _ _ g1 (offL _ (by simp[mf]))
  have pa1:=f1.keep _ _ g3 (offL _ (by simp[mfa]))
  have pt1:=f1.keep _ _ hta1 (offL _ (by simp[mta]))
  have pa1q:=SqL.of (K:=K) pa1
  have pt1q:=SqL.of (K:=K) pt1
  have cl_Floor:=T.cl_Floor
  have na_Floor:=T.na_Floor
  walk_at "rds"
  have ent:=Y6 fl.rows.length (fun i=>decide ((fl.rows.getD i dB).taker=w))
  change (ZE fl.rows w).Nodup at ent
  have enl:∀i∈ZE fl.rows w,i<fl.rows.length∧(fl.rows.getD i dB).taker=w:=fun i hi=>⟨Y4 hi,of_decide_eq_true (List.mem_filter.mp hi).2⟩
  have hen:tvs.length=(ZE fl.rows w).length:=by rw[←Paired.length hta2];unfold takeRow;rw[List.length_map]
  have enz:=Vh (ls:=fl.rows) (w:=w)
  have hta3:Y3 H ((ZE fl.rows w).map fun i:Nat=>((i:Int),(fl.rows.getD i dB).take)) tvs:=hta2
  have eS:MM.slots (ZA fl.rows fss) st w=(ZE fl.rows w).flatMap fun i=>(st i).take (fl.rows.getD i dB).take.toNat:=rfl
  generalize hEn:ZE fl.rows w=en at*
  have hsl:∀k,((en.take k).flatMap fun i=>(st i).take (fl.rows.getD i dB).take.toNat).length≤1000*en.length:=fun k=>by
   rw[List.length_flatMap]
   have h0:∀is:List Nat,(∀i∈is,i∈en)→(is.map fun i=>((st i).take (fl.rows.getD i dB).take.toNat).length).sum≤1000*is.length:=by
    intro is
    induction is with
    |nil=>intro _;simp
    |cons i is ih=>
     intro hs
     have a1:=ih fun j hj=>hs j (List.mem_cons_of_mem _ hj)
     have a2:=(hb.at (enl i (hs i List.mem_cons_self)).1).2.1
     simp only[List.map_cons,List.sum_cons,List.length_cons,List.length_take] at a1⊢
     omega
   have:=h0 (en.take k) fun i hi=>List.mem_of_mem_take hi
   have:(en.take k).length≤en.length:=by rw[List.length_take];omega
   omega
  refine Yf (H0:=V6 H1 ta) (ZG (xs:=tvs) (SqL.of (by rw[Vb];exact pt1))) (fun k σ H'=>Zp (Y2 as.length fps) H H'∧(∃fps':Nat→List Addr,Yy T H' as (fun i=>if i∈en.take k then(st i).drop (fl.rows.getD i dB).take.toNat else st i) fps'∧(∀i<as.length,ZO (Y2 as.length fps) (fps' i) H)∧∀i<as.length,r∉fps' i)∧∃a1 a2 a3 a4 a5,σ=[some (.ref p),some (.int w),some (.ref r),a1,a2,a3,a4,a5]∧H' r=some (.lst (((en.take k).flatMap fun i=>(st i).take (fl.rows.getD i dB).take.toNat).map V.int))) ⟨f1,⟨fps,(h8.off (A:=[]) s1.frame (by simp)).congr (fun i hi=>by simp),fun i hi x hx=> .inl (Vc.mpr ⟨i,hi,hx⟩),fun i hi z=>(h8.1 i hi).dom r z hr⟩,_,_,_,_,_,rfl,v1⟩ (fun i σ H' h=>Wn ((h.1.keep _ _ hta1 (offL _ (by simp[mta]))).trans pt1.symm)) ?_ ?_
  ·rintro k σ H2 hk ⟨f2,⟨fps2,hL,hG,hrn⟩,a1,a2,a3,a4,a5,rfl,hr2⟩
   have hk':k<en.length:=by omega
   obtain⟨t,et,ht⟩:=Zg1 hta3 hk'
   have mi:en[k]∈en:=List.getElem_mem hk'
   obtain⟨il,it⟩:=enl _ mi
   have hia:en[k]<as.length:=by omega
   have hb4:=hb.at il
   have hok':(fl.rows.getD en[k] dB).take.toNat≤(st en[k]).length:=hok en[k] il it
   have hnt:=ZdY ent hk'
   have htk:∀j,j∈en.take (k+1)↔j∈en.take k∨j=en[k]:=fun j=>Zaq hk'
   have etk:(en.take (k+1)).flatMap (fun i=>(st i).take (fl.rows.getD i dB).take.toNat)=(en.take k).flatMap (fun i=>(st i).take (fl.rows.getD i dB).take.toNat)++(st en[k]).take (fl.rows.getD en[k] dB).take.toNat:=by
    rw[List.take_succ_eq_append_getElem hk',List.flatMap_append]
    simp
   have hsz:=hsl k
   have hs1:=hst en[k] il
   rw[et]
   rw[etk]
   generalize (en.take k).flatMap (fun i=>(st i).take (fl.rows.getD i dB).take.toNat)=sl at*
   generalize en[k]=i at*
   have ect:(fl.rows.getD i dB).take=(((fl.rows.getD i dB).take.toNat:Nat):Int):=by omega
   rw[ect] at ht
   have htz:(fl.rows.getD i dB).take.toNat≤1000:=by omega
   have hLi:=hL.1 i hia
   simp only[if_neg hnt] at hLi
   have p2:=f2.keep _ _ h1 (offL _ (by simp))
   have pl2:=f2.keep _ _ h6 (offL _ (by simp))
   have pl2q:=SqL.of (K:=K) pl2
   have hix:=Yy.ix i hia
   refine Rd.Ww (.of (f2.tups _ _ ht)) rfl ?_
   walk_at "rds"
   refine⟨as.getD i 0,_,st i,fps2 i,rfl,hLi,hok',by omega,fun d H3 fp3 hd hl3 hd3 ndf fr3 gr3=>?_⟩
   have nri:r∉fps2 i:=hrn i hia
   have hr3:=fr3.keep _ _ hr2 nri
   walk_at "rds"
   refine⟨r,d,_,_,rfl,rfl,hr3,hd3,Nat.le_of_lt (Wq (by simp only[List.length_map,List.length_take];omega)),?_⟩
   have f3:=Nm.Zp.grow f2 (hG i hia) fr3
   have hL3:=hL.put hia hl3 fr3 gr3
   have nr3:r∉fp3:=gr3.off nri (by rw[hr2];simp)
   have nrA:∀j<as.length,r∉(if j=i then fp3 else fps2 j):=fun j hj=>by
    by_cases e:j=i
    ·rw[if_pos e];exact nr3
    ·rw[if_neg e];exact hrn j hj
   refine⟨ZaV f3 hr,⟨_,(hL3.off (ZR (A:=[r]) (by simp) hr3 (by intro _ z;cases z)) (fun j hj x hx=>by
    rw[List.mem_singleton]
    intro z
    rw[z] at hx
    exact nrA j hj hx)).congr (fun j hj=>?_),fun j hj=>?_,nrA⟩,_,_,_,_,_,rfl,by rw[Zg,List.map_append]⟩
   ·by_cases e:j=i
    ·subst e
     rw[if_pos rfl,if_pos ((htk j).mpr (.inr rfl))]
    ·rw[if_neg e]
     by_cases e2:j∈en.take k
     ·rw[if_pos e2,if_pos ((htk j).mpr (.inl e2))]
     ·rw[if_neg e2,if_neg (fun z=>((htk j).mp z).elim e2 e)]
   ·by_cases e:j=i
    ·simp only[if_pos e]
     exact Nm.ZO.grow (hG i hia) f2 gr3
    ·simp only[if_neg e]
     exact hG j hj
  ·rintro σ H2 ⟨f2,⟨fps2,hL,hG,hrn⟩,a1,a2,a3,a4,a5,rfl,hr2⟩
   rw[hen,List.take_length] at hL hr2
   have p2:=f2.keep _ _ h1 (offL _ (by simp))
   have pc2:=f2.keep _ _ h4 (offL _ (by simp))
   have pc2q:=SqL.of (K:=K) pc2
   have hwa2:=f2.tups _ _ hwa
   have hst2:=SqT.of (K:=K) hwa2
   have hr2q:=SqL.of (K:=K) hr2
   have hslN:=Zem hb hok
   rw[←eS] at hr2 hr2q
   have hwl:=Paired.length hwF
   have hwz:=hfo.few
   walk_at "rds"
   unfold Zan
   walk_at "rds"
   refine⟨wa,rfl,⟨_,hst2⟩,?_⟩
   have hfoks:=hfo.ok
   have hfolen:=hfo.len
   have hgsum:WG fl.rows w=((leaveL fl.rows w).map fun i=>(fl.rows.getD i dB).give).sum:=by
    unfold WG giveRow
    rw[List.map_map];rfl
   generalize hfs:fss.getD w.toNat []=fs at*
   generalize hSL:MM.slots (ZA fl.rows fss) st w=sl at*
   refine ZM (own:=1) (WQ hst2).y (Wq (by omega)) (fun i=>[some (wvs.getD i .non)]) (fun _=>rfl) (fun _=>true) (fun i v _=>v= .int (formV (fs.getD i (0,[])).1 (fs.getD i (0,[])).2 sl)) (fun _ _ _ _ _ z=>z) (fun i a' H' v H3 Kg hi sm y ha' k=>?_) (fun i H' Kc hi sm k=>?_) (fun pp i H' Kc hi hci hp0 hp1 sm k=>?_) (fun gv H3 zs hgv sm hgv3 hR=>?_)
   ·obtain⟨rfl,rfl⟩:=y
    obtain⟨x1,rfl⟩:∃x1,a'=[x1]:=by
     match a',ha' with
     | [x1],_=>exact⟨x1,rfl⟩
    walk_at "rds"
    exact k _ (Zd.refl _)
   ·walk_at "rds"
    exact k H' (Zd.refl H')
   ·have hil:i<fs.length:=by omega
    obtain⟨fad,tm,tvs',ea,hfa,htm,hT⟩:=YB (d:=V.non) (e:=((0,[]):ZT)) hwF hil
    rw[ea]
    have hf:=hfoks (fs.getD i (0,[])) (by rw[ZF hil];exact List.getElem_mem _)
    generalize fs.getD i (0,[])=ff at*
    have hrr:=sm.seq hr2q
    walk_at "rds"
    refine⟨fad,tm,r,ff.1,tvs',ff.2,sl,rfl,sm _ _ (f2.tups _ _ hfa),sm _ _ (f2.tups _ _ htm),(hT.keep f2.tups).keep (fun b xs e=>sm _ _ e),hrr,hf.few,fun t ht=>?_,fun H5 s5=>k _ H5 s5 rfl⟩
    obtain⟨t0,t1,t2⟩:=hf.ter t ht
    exact⟨t0,by omega,IntMulOk.of_left (Nat.le_trans (ZaY (n:=3) (by omega)) (by decide))⟩
   ·rw[List.filter_eq_self.mpr (by simp),hwl] at hR
    have ey:=Yo hR
    rw[YW (fun f:ZT=>formV f.1 f.2 sl)] at ey
    subst ey
    have hgvq:=SqL.of (K:=K) hgv3
    have p3:=sm _ _ p2
    have pf3:=sm _ _ (f2.keep _ _ g1 (offL _ (by simp[mf])))
    have pb3:=sm _ _ (f2.keep _ _ g4 (offL _ (by simp[mfb])))
    have pg3:=sm _ _ (f2.keep _ _ hga1 (offL _ (by simp[mga])))
    have pb3q:=SqL.of (K:=K) pb3
    have pg3q:=SqL.of (K:=K) pg3
    walk_at "rds"
    have lvt:=Y6 fl.rows.length (fun i=>decide ((fl.rows.getD i dB).giver=w))
    change (leaveL fl.rows w).Nodup at lvt
    have lvl:∀i∈leaveL fl.rows w,i<fl.rows.length∧(fl.rows.getD i dB).giver=w:=fun i hi=>⟨WN hi,of_decide_eq_true (List.mem_filter.mp hi).2⟩
    have lvm:∀i<fl.rows.length,(fl.rows.getD i dB).giver=w→i∈leaveL fl.rows w:=fun i hi e=>List.mem_filter.mpr ⟨List.mem_range.mpr hi,decide_eq_true e⟩
    have enm:∀i<fl.rows.length,(fl.rows.getD i dB).taker=w→i∈en:=fun i hi e=>by rw[←hEn];exact List.mem_filter.mpr ⟨List.mem_range.mpr hi,decide_eq_true e⟩
    have hlv:gvs.length=(leaveL fl.rows w).length:=by rw[←Paired.length hga2];unfold giveRow;rw[List.length_map]
    have hga3:Y3 H ((leaveL fl.rows w).map fun i:Nat=>((i:Int),(fl.rows.getD i dB).give)) gvs:=hga2
    have hoff:=fun k hk=>Zez (rows:=fl.rows) (w:=w) (k:=k) hk
    have lvz:=Ug (ls:=fl.rows) (w:=w)
    have hout:∀i∈leaveL fl.rows w,(ZA fl.rows fss).out i sl=((fs.map fun f=>formV f.1 f.2 sl).drop (YL fl.rows w i).toNat).take (fl.rows.getD i dB).give.toNat:=fun i hi=>by
     show(((fss.getD (fl.rows.getD i dB).giver.toNat []).map fun f=>formV f.1 f.2 sl).drop (YL fl.rows (fl.rows.getD i dB).giver i).toNat).take (fl.rows.getD i dB).give.toNat=_
     rw[(lvl i hi).2,hfs]
    generalize hLv:leaveL fl.rows w=lv at*
    have hdn:∀k,0≤((lv.take k).map fun j=>(fl.rows.getD j dB).give).sum:=fun k=>by
     rw[VE fun j hj=>(hb.at (lvl j (List.mem_of_mem_take hj)).1).2.2.1]
     omega
    have f3:=f2.trans sm.frame
    have hr3:=sm _ _ hr2
    have hrv:r≠gv:=fun z=>by rw[←z,hr2] at hgv;cases hgv
    refine Yf (H0:=V6 H3 ga) (ZG (xs:=gvs) (SqL.of (by rw[Vb];exact pg3))) (fun k σ H'=>Zp (Y2 as.length fps) H H'∧(∃fps':Nat→List Addr,Yy T H' as (fun i=>(if i∈en then(st i).drop (fl.rows.getD i dB).take.toNat else st i)++if i∈lv.take k then(ZA fl.rows fss).out i sl else[]) fps'∧(∀i<as.length,ZO (Y2 as.length fps) (fps' i) H)∧∀i<as.length,gv∉fps' i)∧∃a1 a2 a5,σ=[some (.ref p),some (.int w),some (.ref r),a1,a2,some (.ref gv),some (.int ((lv.take k).map fun j=>(fl.rows.getD j dB).give).sum),a5]∧H' gv=some (.lst ((fs.map fun f=>formV f.1 f.2 sl).map V.int))) ⟨f3,⟨fps2,(hL.off (A:=[]) sm.frame (by simp)).congr (fun i hi=>by simp),hG,fun i hi z=>(hL.1 i hi).dom gv z hgv⟩,_,_,_,rfl,hgv3⟩ (fun i σ H' h=>Wn ((h.1.keep _ _ hga1 (offL _ (by simp[mga]))).trans pg3.symm)) ?_ ?_
    ·rintro k σ H4 hk ⟨f4,⟨fps4,hL4,hG4,hgn⟩,a1,a2,a5,rfl,hgv4⟩
     have hk':k<lv.length:=by omega
     obtain⟨t,et,ht⟩:=Zg1 hga3 hk'
     have mi:lv[k]∈lv:=List.getElem_mem hk'
     obtain⟨il,it⟩:=lvl _ mi
     have hia:lv[k]<as.length:=by omega
     have hb4:=hb.at il
     have hnt:=ZdY lvt hk'
     have htk:∀j,j∈lv.take (k+1)↔j∈lv.take k∨j=lv[k]:=fun j=>Zaq hk'
     have ho:=hout _ mi
     rw[hoff k hk'] at ho
     have etk:((lv.take (k+1)).map fun j=>(fl.rows.getD j dB).give).sum=((lv.take k).map fun j=>(fl.rows.getD j dB).give).sum+(fl.rows.getD lv[k] dB).give:=by
      rw[List.take_succ_eq_append_getElem hk',List.map_append,List.sum_append]
      simp
     have hd0:=hdn k
     have hs1:=hst lv[k] il
     rw[et]
     rw[etk]
     generalize ((lv.take k).map fun j=>(fl.rows.getD j dB).give).sum=dn at*
     generalize lv[k]=i at*
     have hLi:=hL4.1 i hia
     simp only[if_neg hnt,List.append_nil] at hLi
     have hlz:(if i∈en then(st i).drop (fl.rows.getD i dB).take.toNat else st i).length≤100000:=by
      split
      ·rw[List.length_drop];omega
      ·omega
     have p4:=f4.keep _ _ h1 (offL _ (by simp))
     have pl4:=f4.keep _ _ h6 (offL _ (by simp))
     have pl4q:=SqL.of (K:=K) pl4
     have hgv4q:=SqL.of (K:=K) hgv4
     have hix:=Yy.ix i hia
     refine Rd.Ww (.of (f4.tups _ _ ht)) rfl ?_
     walk_at "rds"
     refine Rd.slL hgv4q ?_
     intro u hu
     rw[ZaZ hd0 hb4.2.2.1,←List.map_drop,←List.map_take,←ho]
     have s5:Zd H4 (upd H4 u (.lst (((ZA fl.rows fss).out i sl).map V.int))):=Zo hu
     have v5:(upd H4 u (.lst (((ZA fl.rows fss).out i sl).map V.int))) u=some (.lst (((ZA fl.rows fss).out i sl).map V.int)):=Zg
     generalize upd H4 u (.lst (((ZA fl.rows fss).out i sl).map V.int))=H5 at*
     have hoz:((ZA fl.rows fss).out i sl).length≤1000:=by rw[ho,List.length_take];omega
     walk_at "rds"
     refine⟨as.getD i 0,u,_,(ZA fl.rows fss).out i sl,fps4 i,rfl,hLi.same s5,v5,fun z=>(hL4.1 i hia).dom u z hu,hoz,hlz,fun H6 fp6 hl6 fr6 gr6=>?_⟩
     have gr6':ZO (fps4 i) fp6 H4:=fun x hx=>(gr6 x hx).imp id fun e=>Z2 s5 e
     have fr6':Zp (fps4 i) H4 H6:=s5.frame.trans fr6
     have f6:=Nm.Zp.grow f4 (hG4 i hia) fr6'
     have hL6:=hL4.put hia hl6 fr6' gr6'
     have hgi:=hgn i hia
     have hgv6:=fr6'.keep _ _ hgv4 hgi
     have ng6:gv∉fp6:=gr6'.off hgi (by rw[hgv4];simp)
     walk_at "rds"
     refine⟨.int dn,rfl,?_⟩
     walk_at "rds"
     try refine⟨_,_,rfl,rfl,?_⟩
     refine⟨f6,⟨_,hL6.congr (fun j hj=>?_),fun j hj=>?_,fun j hj=>?_⟩,_,_,_,rfl,hgv6⟩
     ·by_cases e:j=i
      ·subst e
       simp only[if_pos ((htk j).mpr (.inr rfl)),if_true]
      ·simp only[if_neg e]
       by_cases e2:j∈lv.take k
       ·rw[if_pos e2,if_pos ((htk j).mpr (.inl e2))]
       ·rw[if_neg e2,if_neg (fun z=>((htk j).mp z).elim e2 e)]
     ·by_cases e:j=i
      ·simp only[if_pos e]
       exact Nm.ZO.grow (hG4 i hia) f4 gr6'
      ·simp only[if_neg e]
       exact hG4 j hj
     ·by_cases e:j=i
      ·simp only[if_pos e];exact ng6
      ·simp only[if_neg e];exact hgn j hj
    ·rintro σ H4 ⟨f4,⟨fps4,hL4,hG4,hgn⟩,a1,a2,a5,rfl,hgv4⟩
     rw[hlv,List.take_length] at hL4
     walk_at "rds"
     have h9':∀i<as.length,∀x∈fps4 i,x∉p::dx::c::la::ffp:=fun i hi x hx z=>by
      rcases hG4 i hi x hx with e|e
      ·exact offL x z e
      ·exact hm.dom x (List.mem_append_left _ z) e
     refine q H4 ((p::dx::c::la::ffp)++Y2 as.length fps4) ⟨dx,f,c,la,ffp,fvs,as,fps4,rfl,f4.keep _ _ h1 (offL _ (by simp)),f4.keep _ _ h2 (offL _ (by simp)),h3.off f4 (fun x hx=>offL x (by simp[hx])),f4.keep _ _ h4 (offL _ (by simp)),h5.keep f4.tups,f4.keep _ _ h6 (offL _ (by simp)),h7,hL4.congr (fun i hi=>?_),h9',h10⟩ (f4.mono fun x hx=>List.mem_append_right _ hx) (fun x hx=>?_)
     ·have hi':i<fl.rows.length:=by omega
      show _=(if i<fl.rows.length then(if(fl.rows.getD i dB).taker=w then(st i).drop (fl.rows.getD i dB).take.toNat else st i)++(if(fl.rows.getD i dB).giver=w then(ZA fl.rows fss).out i (MM.slots (ZA fl.rows fss) st w) else[]) else st i)
      rw[if_pos hi',hSL]
      congr 1
      ·by_cases e:(fl.rows.getD i dB).taker=w
       ·rw[if_pos e,if_pos (enm i hi' e)]
       ·rw[if_neg e,if_neg (fun z=>e (enl i z).2)]
      ·by_cases e:(fl.rows.getD i dB).giver=w
       ·rw[if_pos e,if_pos (lvm i hi' e)]
       ·rw[if_neg e,if_neg (fun z=>e (lvl i z).2)]
     ·rcases List.mem_append.mp hx with hx|hx
      ·exact .inl (List.mem_append_left _ hx)
      ·obtain⟨i,hi,hx⟩:=Vc.mp hx
       exact(hG4 i hi x hx).imp (fun z=>List.mem_append_right _ z) id
end
def ZbT {K:PySem.W.Frag} {mg:Str→Option Value} (T:Tp K mg):Sp:=fun vs H Q E=>∃(p q:Addr) (ws:List Int) (fl:FM) (fss:List (List ZT)) (st:Nat→List Int) (fp:List Addr),vs=[.ref p,.ref q]∧Z3 T H p fl fss st fp∧H q=some (.lst (ws.map V.int))∧q∉fp∧YK fl.many fl.rows fss∧YH fl.rows∧VC fl.rows fl.heaps st∧(∀i<fl.rows.length,(st i).length+1000*ws.length≤50000)∧
 (goR fl.many fl.rows fl.heaps ws= .error true→∀H',Zd H H'→E (.ref T.X_NoWork) none H')∧(goR fl.many fl.rows fl.heaps ws= .error false→∀H',Zd H H'→E (.ref T.X_Empty) none H')∧
 (∀hs,goR fl.many fl.rows fl.heaps ws= .ok hs→∀H' fp',Z3 T H' p ⟨fl.many,fl.rows,hs⟩ fss (MM.run (ZA fl.rows fss) st ws) fp'→VC fl.rows hs (MM.run (ZA fl.rows fss) st ws)→Zp fp H H'→ZO fp fp' H→Q .non H')
section
variable {P:Program} {w:World} {K:PySem.W.Frag} {mg:Str→Option Value} {base:Heap}
theorem Ze9 (T:Tp K mg):Zj P w K mg base (CXX P w) 6 T.f_Mill_go T.d_Mill_go ["self","row"] (ZbT T):=by
 have G_Floor_go:Zj P w K mg base (CXX P w) 5 T.f_Floor_go T.d_Floor_go ["self","row"] (UT T):=(Zbi T).mono (by decide)
 have G_Mill_pass_on:Zj P w K mg base (CXX P w) 5 T.f_Mill_pass_on T.d_Mill_pass_on ["self","work"] (UP T):=(ZbZ T).mono (by decide)
 have cl_Floor:=T.cl_Floor
 have na_Floor:=T.na_Floor
 have cl_Mill:=T.cl_Mill
 have na_Mill:=T.na_Mill
 refine T.F_Mill_go.okX ZbI (fun vs H Q E h=>?_) (fun cdv A outer s H vs Q E hr h=>?_)
 ·obtain⟨p,q,ws,fl,fss,st,fp,rfl,_⟩:=h
  rfl
 ·have hu:=hr.units
  obtain⟨p,qa,ws,fl,fss,st,fp,rfl,hm,hq,nq,hA,hb,hLn,hz,e1,e2,q⟩:=h
  obtain⟨dx,f,c,la,ffp,fvs,as,fps,rfl,h1,h2,h3,h4,h5,h6,h7,h8,h9,h10⟩:=id hm
  have hqq:=SqL.of (K:=K) hq
  have hfew:=hb.few
  refine⟨_,(Zc (ZK (Z8 (ZH (K:=K) rfl (pv 0) rfl) T.cl_Floor T.M_Floor_go G_Floor_go hr T.b_Floor_go .nil Zn (Za (pv 1) Zb)))
     (Ze (Z0 PassesOwn.leaving rfl (ZN (K:=K) rfl (pv 1)) (Zk (i:=2) ZbI.nd rfl (Or.inl rfl)) (Ze (ZK (Z8 (pv 0) T.cl_Mill T.M_Mill_pass_on G_Mill_pass_on hr T.b_Mill_pass_on .nil Zn (Za (pv 2) Zb))))))),?_⟩
  try dsimp only[L2.cxX,L2.ZL,L2.Zl]
  walk_at "rds"
  refine⟨f,qa,ws,fl,ffp,rfl,h3,hqq,by omega,e1,e2,fun hs hg H1 ffp1 hF1 f1 gr1=>?_⟩
  have offF:∀x∈[p,dx,c,la],x∉ffp:=fun x hx z=>h10 x z hx
  have offF':∀x∈[p,dx,c,la],x∉ffp1:=fun x hx=>gr1.off (offF x hx) (hm.dom x (List.mem_append_left _ (by
   simp only[List.mem_cons,List.not_mem_nil,or_false] at hx
   rcases hx with rfl|rfl|rfl|rfl<;>simp)))
  have nqf:qa∉ffp:=fun z=>nq (List.mem_append_left _ (by simp[z]))
  have hm1:Z3 T H1 p ⟨fl.many,fl.rows,hs⟩ fss st ((p::dx::c::la::ffp1)++Y2 as.length fps):=⟨dx,f,c,la,ffp1,fvs,as,fps,rfl,f1.keep _ _ h1 (offF _ (by simp)),f1.keep _ _ h2 (offF _ (by simp)),hF1,f1.keep _ _ h4 (offF _ (by simp)),h5.keep f1.tups,f1.keep _ _ h6 (offF _ (by simp)),h7,
   h8.off f1 (fun i hi x hx z=>h9 i hi x hx (by simp[z])),fun i hi x hx z=>(by
    simp only[List.mem_cons] at z
    rcases z with z|z|z|z|z
    ·exact h9 i hi x hx (by simp[z])
    ·exact h9 i hi x hx (by simp[z])
    ·exact h9 i hi x hx (by simp[z])
    ·exact h9 i hi x hx (by simp[z])
    ·rcases gr1 x z with z|z
     ·exact h9 i hi x hx (by simp[z])
     ·exact(h8.1 i hi).dom x hx z),fun x hx z=>offF' x z hx⟩
  have fA:Zp ((p::dx::c::la::ffp)++Y2 as.length fps) H H1:=f1.mono fun x hx=>List.mem_append_left _ (by simp[hx])
  have gA:ZO ((p::dx::c::la::ffp)++Y2 as.length fps) ((p::dx::c::la::ffp1)++Y2 as.length fps) H:=fun x hx=>by
   rcases List.mem_append.mp hx with hx|hx
   ·simp only[List.mem_cons] at hx
    rcases hx with z|z|z|z|z
    ·exact .inl (by simp[z])
    ·exact .inl (by simp[z])
    ·exact .inl (by simp[z])
    ·exact .inl (by simp[z])
    ·exact(gr1 x z).imp (fun z=>by simp[z]) id
   ·exact .inl (List.mem_append_right _ hx)
  obtain⟨hwr,hOk,hLe⟩:=ZfS hb hA hLn hg
  have hq1:=f1.keep _ _ hq nqf
  have hq1q:=SqL.of (K:=K) hq1
  generalize (p::dx::c::la::ffp)++Y2 as.length fps=fp0 at*
  generalize (p::dx::c::la::ffp1)++Y2 as.length fps=fp1 at*
  walk_at "rds"
  refine Yf (H0:=V6 H1 qa) (ZG (xs:=ws.map V.int) (SqL.of (by rw[Vb];exact hq1))) (fun k σ H'=>Zp fp0 H H'∧(∃fp',Z3 T H' p ⟨fl.many,fl.rows,hs⟩ fss (MM.run (ZA fl.rows fss) st (ws.take k)) fp'∧ZO fp0 fp' H)∧∃a1,σ=[some (.ref p),some (.ref qa),a1]) ⟨fA,⟨fp1,hm1,gA⟩,_,rfl⟩ (fun i σ H' h=>Wn ((h.1.keep _ _ hq nq).trans hq1.symm)) ?_ ?_
  ·rintro k σ H2 hk ⟨f2,⟨fp2,hm2,g2⟩,a1,rfl⟩
   have hk':k<ws.length:=by simpa using hk
   have ev:(ws.map V.int).getD k .non= .int ws[k]:=by simp[List.getD,hk']
   rw[ev]
   have hw:=hwr ws[k] (List.getElem_mem hk')
   have hok:=MM.ZeC hOk (List.getElem?_eq_getElem hk')
   have ers:MM.run (ZA fl.rows fss) st (ws.take (k+1))=MM.step (ZA fl.rows fss) (MM.run (ZA fl.rows fss) st (ws.take k)) ws[k]:=by
    rw[List.take_succ_eq_append_getElem hk',MM.ZdN]
   rw[ers]
   have hlen:∀i<fl.rows.length,(MM.run (ZA fl.rows fss) st (ws.take k) i).length≤50000:=fun i hi=>by
    have:=ZdF hb hi (ws:=ws.take k) (st:=st) (fss:=fss)
    have:=hz i hi
    rw[List.length_take] at*
    omega
   generalize MM.run (ZA fl.rows fss) st (ws.take k)=stk at*
   generalize ws[k]=w at*
   walk_at "rds"
   refine⟨p,w,_,fss,stk,fp2,rfl,hm2,hw.1,hw.2,hA.len,hA.ok w hw.1 hw.2,hb,hok,hlen,fun H3 fp3 hm3 fr3 gr3=>?_⟩
   walk_at "rds"
   exact⟨Nm.Zp.grow f2 g2 fr3,⟨fp3,hm3,Nm.ZO.grow g2 f2 gr3⟩,_,rfl⟩
  ·rintro σ H2 ⟨f2,⟨fp2,hm2,g2⟩,a1,rfl⟩
   rw[List.length_map,List.take_length] at hm2
   walk_at "rds"
   exact q hs hg H2 fp2 hm2 hLe f2 g2
end
def ZaB {K:PySem.W.Frag} {mg:Str→Option Value} (T:Tp K mg):Sp:=fun vs H Q E=>∃(p:Addr) (w:Int) (fl:FM) (fss:List (List ZT)) (st:Nat→List Int) (fp:List Addr),vs=[.ref p,.int w]∧Z3 T H p fl fss st fp∧YK fl.many fl.rows fss∧YH fl.rows∧VC fl.rows fl.heaps st∧(∀i<fl.rows.length,(st i).length≤49000)∧
 (turnR fl.many fl.rows fl.heaps w= .error true→∀H',Zd H H'→E (.ref T.X_NoWork) none H')∧(turnR fl.many fl.rows fl.heaps w= .error false→∀H',Zd H H'→E (.ref T.X_Empty) none H')∧
 (∀hs,turnR fl.many fl.rows fl.heaps w= .ok hs→∀H' fp',Z3 T H' p ⟨fl.many,fl.rows,hs⟩ fss (MM.step (ZA fl.rows fss) st w) fp'→VC fl.rows hs (MM.step (ZA fl.rows fss) st w)→Zp fp H H'→ZO fp fp' H→Q .non H')
section
variable {P:Program} {w:World} {K:PySem.W.Frag} {mg:Str→Option Value} {base:Heap}
theorem Zdn (T:Tp K mg):Zj P w K mg base (CXX P w) 7 T.f_Mill_turn T.d_Mill_turn ["self","work"] (ZaB T):=by
 have G_Mill_go:Zj P w K mg base (CXX P w) 6 T.f_Mill_go T.d_Mill_go ["self","row"] (ZbT T):=(Ze9 T).mono (by decide)
 have cl_Mill:=T.cl_Mill
 have na_Mill:=T.na_Mill
 refine T.F_Mill_turn.okX ZdP (fun vs H Q E h=>?_) (fun cdv A outer s H vs Q E hr h=>?_)
 ·obtain⟨p,w,fl,fss,st,fp,rfl,_⟩:=h
  rfl
 ·have hu:=hr.units
  obtain⟨p,w,fl,fss,st,fp,rfl,hm,hA,hb,hLn,hz,e1,e2,q⟩:=h
  refine⟨_,(Ze (ZK (Z8 (pv 0) T.cl_Mill T.M_Mill_go G_Mill_go hr T.b_Mill_go .nil Zn (Za (YY (Za (pv 1) Zb)) Zb)))),?_⟩
  try dsimp only[L2.cxX,L2.ZL,L2.Zl]
  walk_at "rds"
  intro u hu
  have s1:Zd H (upd H u (.lst [V.int w])):=Zo hu
  have v1:(upd H u (.lst [V.int w])) u=some (.lst ([w].map V.int)):=Zg
  generalize upd H u (.lst [V.int w])=H1 at*
  have eg:goR fl.many fl.rows fl.heaps [w]=turnR fl.many fl.rows fl.heaps w:=by
   show(match turnR fl.many fl.rows fl.heaps w with| .ok hs'=>goR fl.many fl.rows hs' []| .error e=> .error e)=_
   cases turnR fl.many fl.rows fl.heaps w<;>rfl
  have hm1:=hm.same s1
  walk_at "rds"
  refine⟨p,u,[w],fl,fss,st,fp,rfl,hm1,v1,fun z=>hm.dom u z hu,hA,hb,hLn,fun i hi=>(by have:=hz i hi;simp only[List.length_cons,List.length_nil];omega),fun e H2 s2=>e1 (eg▸e) H2 (s1.trans s2),fun e H2 s2=>e2 (eg▸e) H2 (s1.trans s2),fun hs e H2 fp2 hm2 hL2 f2 g2=>?_⟩
  walk_at "rds"
  exact q hs (eg▸e) H2 fp2 hm2 hL2 (s1.frame.trans f2) (fun x hx=>(g2 x hx).imp id fun z=>Z2 s1 z)
end
def Zbn {K:PySem.W.Frag} {mg:Str→Option Value} (T:Tp K mg):Sp:=fun vs H Q E=>∃(p:Addr) (w:Int) (fl:FM) (fss:List (List ZT)) (st:Nat→List Int) (fp:List Addr),vs=[.ref p,.int w]∧Z3 T H p fl fss st fp∧YK fl.many fl.rows fss∧YH fl.rows∧VC fl.rows fl.heaps st∧(∀i<fl.rows.length,(st i).length≤49000)∧
 (turnR fl.many fl.rows fl.heaps w= .error true→∀H',Zd H H'→Q (.int 1) H')∧(turnR fl.many fl.rows fl.heaps w= .error false→∀H',Zd H H'→Q (.int 3) H')∧
 (∀hs,turnR fl.many fl.rows fl.heaps w= .ok hs→∀H' fp',Z3 T H' p ⟨fl.many,fl.rows,hs⟩ fss (MM.step (ZA fl.rows fss) st w) fp'→VC fl.rows hs (MM.step (ZA fl.rows fss) st w)→Zp fp H H'→ZO fp fp' H→Q (.int 0) H')
section
variable {P:Program} {w:World} {K:PySem.W.Frag} {mg:Str→Option Value} {base:Heap}
theorem Zd5 (T:Tp K mg):Zj P w K mg base (CXX P w) 8 T.f_l_turned T.d_l_turned ["_law_mill","_law_work"] (Zbn T):=by
 have G_Floor_turn:Zj P w K mg base (CXX P w) 7 T.f_Floor_turn T.d_Floor_turn ["self","work"] (Zao T):=(ZcO T).mono (by decide)
 have G_Mill_turn:Zj P w K mg base (CXX P w) 7 T.f_Mill_turn T.d_Mill_turn ["self","work"] (ZaB T):=(Zdn T).mono (by decide)
 have cl_Floor:=T.cl_Floor
 have na_Floor:=T.na_Floor
 have cl_Mill:=T.cl_Mill
 have na_Mill:=T.na_Mill
 refine T.F_l_turned.okX WZ (fun vs H Q E h=>?_) (fun cdv A outer s H vs Q E hr h=>?_)
 ·obtain⟨p,w,fl,fss,st,fp,rfl,_⟩:=h
  rfl
 ·have hu:=hr.units
  obtain⟨p,w,fl,fss,st,fp,rfl,hm,hA,hb,hLn,hz,e1,e2,q⟩:=h
  have xn:=T.xc_NoWork
  have xe:=T.xc_Empty
  have k1:=T.ki_NoWork_Empty
  have k2:=T.ki_NoWork_ValueError
  have k3:=T.ki_Empty_RateError
  refine⟨_,(Zc (Zs (i:=2) WZ.nd rfl (Or.inl rfl) Zf)
     (Zc (Zf0 (j:=3) rfl rfl rfl T.mx_NoWork rfl T.mx_Empty (fun J E1 pn xe1 ownT pasT=>(Ze (ZK (ZgE (pv 0) T.cl_Mill T.M_Mill_turn G_Mill_turn hr T.b_Mill_turn .nil pasT (Za (pv 1) Zb))))) (fun A'=>(Ze (Zs (i:=2) WZ.nd rfl (Or.inl rfl) (Zm (ZU (K:=K) rfl) Zf (Ya ZcH (by rfl) T.n_int PyProof.Rows.boot_int (Za (Zi8 (Zt (Zfm (K:=K) rfl) (by rfl) T.n_isinstance PyProof.Rows.boot_isinstance (Za (pv 3) (Za (U6 (v:= .ref T.X_Empty) rfl T.mx_Empty rfl) Zb))) (ZbN (ZdV (Zt (Zfm (K:=K) rfl) (by rfl) T.n_isinstance PyProof.Rows.boot_isinstance (Za (pv 3) (Za (WE (v:= .ty "ValueError") (by rfl) T.n_ValueError (by first|rfl|decide+kernel) rfl) Zb)))))) Zb)))))) (fun A'=>(Ze (Zs (i:=2) WZ.nd rfl (Or.inl rfl) (Zm (ZU (K:=K) rfl) Zf (Ya ZcH (by rfl) T.n_int PyProof.Rows.boot_int (Za (ZdV (Zt (Zfm (K:=K) rfl) (by rfl) T.n_isinstance PyProof.Rows.boot_isinstance (Za (pv 3) (Za (U6 (v:= .ref T.X_RateError) rfl T.mx_RateError rfl) Zb)))) Zb)))))) WZ.nd rfl rfl)
     (Ze (ZC (pv 2))))),?_⟩
  try dsimp only[L2.cxX,L2.ZL,L2.Zl]
  walk_at "rds"
  refine⟨fun s=>s=[some (.ref p),some (.int w),some (.int 0),none],fun cls _ H'=>Zd H H'∧((cls= .ref T.X_NoWork∧turnR fl.many fl.rows fl.heaps w= .error true)∨(cls= .ref T.X_Empty∧turnR fl.many fl.rows fl.heaps w= .error false)),?_,?_⟩
  ·walk_at "rds"
   refine⟨p,w,fl,fss,st,fp,rfl,hm,hA,hb,hLn,hz,fun e H' s=>⟨s,.inl ⟨rfl,e⟩⟩,fun e H' s=>⟨s,.inr ⟨rfl,e⟩⟩,fun hs e H1 fp' hm' hL' fr gr=>?_⟩
   walk_at "rds"
   exact q hs e H1 fp' hm' hL' fr gr
  ·rintro σ' cls H1 rfl ⟨s1,⟨rfl,e⟩|⟨rfl,e⟩⟩
   ·refine⟨_,rfl,.inl ⟨T.em_NoWork_NoWork,fun ea hea=>?_⟩⟩
    have hex:(upd H1 ea (WW ea T.X_NoWork)) ea=some (WW ea T.X_NoWork):=Zg
    have s2:Zd H (upd H1 ea (WW ea T.X_NoWork)):=s1.trans (Zo hea)
    generalize upd H1 ea (WW ea T.X_NoWork)=H2 at*
    walk_at "rds"
    refine .inr ⟨false,rfl,?_⟩
    walk_at "rds"
    exact e1 e _ s2
   ·refine⟨_,rfl,.inr ⟨T.em_Empty_NoWork,T.em_Empty_Empty,fun ea hea=>?_⟩⟩
    have hex:(upd H1 ea (WW ea T.X_Empty)) ea=some (WW ea T.X_Empty):=Zg
    have s2:Zd H (upd H1 ea (WW ea T.X_Empty)):=s1.trans (Zo hea)
    generalize upd H1 ea (WW ea T.X_Empty)=H2 at*
    walk_at "rds"
    refine .inr ⟨false,rfl,?_⟩
    walk_at "rds"
    exact e2 e _ s2
end
def Zbj {K:PySem.W.Frag} {mg:Str→Option Value} (T:Tp K mg):Sp:=fun vs H Q E=>∃(lp fo lo:Addr) (w:Int) (bs fvs ys:List V) (ls:List B5) (fss:List (List ZT)) (st:Nat→List Int) (m:Int),vs=[.ref lp,.ref fo,.ref lo,.int w]∧H lp=some (.lst bs)∧YJ H bs ls∧H fo=some (.lst fvs)∧YR H fvs fss∧H lo=some (.lst ys)∧lo≠lp∧lo≠fo∧ys.length=ls.length∧(∀i<ls.length,ZbD H H lo ys ys st i)∧YH ls∧YK m ls fss∧0≤w∧w<m∧MM.ok (ZA ls fss) st w∧(∀i<ls.length,(st i).length≤50000)∧
 ∀H' ys',Zp [lo] H H'→H' lo=some (.lst ys')→ys'.length=ls.length→(∀i<ls.length,ZbD H H' lo ys ys' (MM.step (ZA ls fss) st w) i)→Q .non H'
theorem Paired.drop {α β:Type} {P:α→β→Prop}:∀{xs:List α} {ys:List β} (a:Nat),Paired P xs ys→Paired P (xs.drop a) (ys.drop a)
 |_,_,0,h=>h
 |_,_,_+1,.nil=> .nil
 |_,_,a+1,.cons _ r=>Paired.drop a r
theorem Paired.take {α β:Type} {P:α→β→Prop}:∀{xs:List α} {ys:List β} (a:Nat),Paired P xs ys→Paired P (xs.take a) (ys.take a)
 |_,_,0,_=> .nil
 |_,_,_+1,.nil=> .nil
 |_,_,a+1,.cons h r=> .cons h (Paired.take a r)
theorem Zfp {ls:List B5} {w:Int} {k:Nat} (hk:k≤ls.length):(leaveL ls w).filter (fun j=>decide (j<k))=(List.range k).filter fun j=>decide ((ls.getD j dB).giver=w):=by
 unfold leaveL
 obtain⟨d,hd⟩:∃d,ls.length=k+d:=⟨ls.length-k,by omega⟩
 rw[hd,List.range_add,List.filter_append,List.filter_append]
 have e1:((List.range k).filter fun i=>decide ((ls.getD i dB).giver=w)).filter (fun j=>decide (j<k))=(List.range k).filter fun i=>decide ((ls.getD i dB).giver=w):=List.filter_eq_self.mpr fun j hj=>decide_eq_true (List.mem_range.mp (List.mem_filter.mp hj).1)
 have e2:(((List.range d).map (k+ ·)).filter fun i=>decide ((ls.getD i dB).giver=w)).filter (fun j=>decide (j<k))=[]:=List.filter_eq_nil_iff.mpr fun j hj=>by
  obtain⟨x,_,rfl⟩:=List.mem_map.mp (List.mem_filter.mp hj).1
  simp
 rw[e1,e2,List.append_nil]
theorem ZgI {ls:List B5} {w:Int}:YL ls w 0=0:=by
 unfold YL
 rw[Zfp (Nat.zero_le _)]
 rfl
theorem ZgP {ls:List B5} {w:Int} {k:Nat} (hk:k<ls.length):YL ls w (k+1)=YL ls w k+(if(ls.getD k dB).giver=w then(ls.getD k dB).give else 0):=by
 unfold YL
 rw[Zfp (Nat.succ_le_of_lt hk),Zfp (Nat.le_of_lt hk),List.range_succ,List.filter_append,List.map_append,List.sum_append]
 congr 1
 by_cases c:(ls.getD k dB).giver=w
 ·rw[if_pos c,List.filter_cons,if_pos (decide_eq_true c)]
  simp
 ·rw[if_neg c,List.filter_cons,if_neg (by rw[decide_eq_false c];decide)]
  rfl
section
variable {P:Program} {w:World} {K:PySem.W.Frag} {mg:Str→Option Value} {base:Heap}
theorem Zed (T:Tp K mg):Zj P w K mg base (CXX P w) 2 T.f_l_milled T.d_l_milled ["_law_belts","_law_forms","_law_loads_here","_law_work"] (Zbj T):=by
 have G_l_worth:Zj P w K mg base (CXX P w) 1 T.f_l_worth T.d_l_worth ["_law_form","_law_slots"] (Zaf T):=(ZbX T).mono (by decide)
 refine T.F_l_milled.okX YA (fun vs H Q E h=>?_) (fun cdv A outer s H vs Q E hr h=>?_)
 ·obtain⟨lp,fo,lo,w,bs,fvs,ys,ls,fss,st,m,rfl,_⟩:=h
  rfl
 ·have hu:=hr.units
  obtain⟨lp,fo,lo,w,bs,fvs,ys,ls,fss,st,m,rfl,hlp,hT,hfo,hF,hlo,nlp,nlf,hyl,hR,hb,hA,w0,w1,hok,hst,q⟩:=h
  have hbl:=hT.length
  have hfew:=hb.few
  refine⟨_,(Zc (Zs (i:=4) YA.nd rfl (Or.inr rfl) (YY Zb))
     (Zc (Z0 PassesOwn.leaving rfl (VG (K:=K) rfl rfl T.n_enumerate (Za (pv 0) Zb)) (Yg (K:=K) (n:=2) rfl rfl (Zx (Zk (i:=5) YA.nd rfl (Or.inl rfl)) (Zx (Zk (i:=6) YA.nd rfl (Or.inl rfl)) Yh))) (Ze (ZW (ZP (YD (K:=K) rfl hu) (ZI (ZS (K:=K) rfl) (pv 6) Zf (fun _ _=>rfl)) (pv 3) (ZQ _)) (Zc (Zs (i:=4) YA.nd rfl (Or.inr rfl) (Zm (ZU (K:=K) rfl) (pv 4) (W7 (Zcf (K:=K) rfl) (ZI (ZS (K:=K) rfl) (pv 2) (pv 5) (fun _ _=>rfl)) Zcg (Wm (ZI (ZS (K:=K) rfl) (pv 6) Zf (fun _ _=>rfl))))))
     (Ze (ZbK (W7 (Zcf (K:=K) rfl) (ZI (ZS (K:=K) rfl) (pv 2) (pv 5) (fun _ _=>rfl)) (Wm (ZI (ZS (K:=K) rfl) (pv 6) Zf (fun _ _=>rfl))) Zcg) (ZbY (pv 2) (pv 5) UB)))) ZJ)))
     (Zc (Zs (i:=7) YA.nd rfl (Or.inl rfl) Zf)
     (Ze (Z0 PassesOwn.leaving rfl (VG (K:=K) rfl rfl T.n_enumerate (Za (pv 0) Zb)) (Yg (K:=K) (n:=2) rfl rfl (Zx (Zk (i:=5) YA.nd rfl (Or.inl rfl)) (Zx (Zk (i:=6) YA.nd rfl (Or.inl rfl)) Yh))) (Ze (ZW (ZP (YD (K:=K) rfl hu) (ZI (ZS (K:=K) rfl) (pv 6) Zf (fun _ _=>rfl)) (pv 3) (ZQ _)) (Zc (ZbK (Zm (ZU (K:=K) rfl) (ZI (ZS (K:=K) rfl) (pv 2) (pv 5) (fun _ _=>rfl)) (Z7 (xs:=["_law_form"]) rfl (Z1 (x:="_law_form") (zs:=["_law_slots"]) (ix:=[4]) (Zh Vy) ["_law_belts","_law_forms","_law_loads_here","_law_work","_law_slots","_law_k","_law_belt","_law_at"] rfl rfl (by decide+kernel)) (VF (K:=K) rfl (W7 (ZhE (K:=K) rfl) (ZI (ZS (K:=K) rfl) (pv 1) (pv 3) (fun _ _=>rfl)) (Wm (pv 7)) (Wm (Zm (ZU (K:=K) rfl) (pv 7) (ZI (ZS (K:=K) rfl) (pv 6) Zf (fun _ _=>rfl)))))) (fun cl C s H fp=>⟨(Zk (i:=0) (show(["_law_form","_law_slots"]:List Str).Nodup by decide+kernel) rfl (Or.inl rfl)),Z6,(Zz G_l_worth hr rfl T.m_l_worth T.F_l_worth.kp T.b_l_worth .nil WD (Za (pv 0) (Za (pv 1) Zb)))⟩))) (ZbY (pv 2) (pv 5) UB))
     (Ze (Zs (i:=7) YA.nd rfl (Or.inl rfl) (Zm (ZU (K:=K) rfl) (pv 7) (ZI (ZS (K:=K) rfl) (pv 6) Zf (fun _ _=>rfl)))))) ZJ))))))),?_⟩
  try dsimp only[L2.cxX,L2.ZL,L2.Zl]
  walk_at "rds"
  refine⟨Nat.zero_le _,fun s0 hs0=>?_⟩
  have f1:Zp [lo] H (upd H s0 (.lst [])):=ZaV Zp.refl hs0
  have v1:(upd H s0 (.lst [])) s0=some (.lst (([]:List Int).map V.int)):=Zg
  have s1:Zd H (upd H s0 (.lst [])):=Zo hs0
  generalize upd H s0 (.lst [])=H1 at*
  have hlp1:=s1 _ _ hlp
  have hlp1q:=SqL.of (K:=K) hlp1
  have nlp':lp∉[lo]:=by simpa using Ne.symm nlp
  have nfo':fo∉[lo]:=by simpa using Ne.symm nlf
  walk_at "rds"
  refine V0 (H0:=V6 H1 lp) (Wt (xs:=bs) (SqL.of (by rw[Vb];exact hlp1))) (fun k σ H'=>Zp [lo] H H'∧(∃ys',H' lo=some (.lst ys')∧ys'.length=ls.length∧∀i<ls.length,ZbD H H' lo ys ys' (fun i=>if i<k∧(ls.getD i dB).taker=w then(st i).drop (ls.getD i dB).take.toNat else st i) i)∧∃sl a5 a6 a7,σ=[some (.ref lp),some (.ref fo),some (.ref lo),some (.int w),some (.ref sl),a5,a6,a7]∧H sl=none∧H' sl=some (.lst ((((List.range k).filter fun i=>decide ((ls.getD i dB).taker=w)).flatMap fun i=>(st i).take (ls.getD i dB).take.toNat).map V.int))) ⟨f1,⟨ys,s1 _ _ hlo,hyl,fun i hi=>by obtain⟨t,e,n,h,m⟩:=hR i hi;exact⟨t,e,n,by simpa using s1 _ _ h,m⟩⟩,s0,_,_,_,rfl,hs0,v1⟩ (fun i σ H' h=>Wn ((h.1.keep _ _ hlp nlp').trans hlp1.symm)) ?_ ?_
  ·rintro k σ H2 v H3 hk ⟨f2,⟨ys2,hlo2,hyl2,hR2⟩,sl,a5,a6,a7,rfl,hsl0,hsl2⟩ ⟨t,ht,rfl,rfl⟩
   have hk':k<ls.length:=by omega
   obtain⟨u,eu,hu⟩:=hT.getD hk'
   rw[eu]
   refine Rd.Ww (.of Zg) rfl ?_
   have s3:Zd H2 (upd H2 t (.tup [.int k,.ref u])):=Zo ht
   generalize upd H2 t (.tup [.int k,.ref u])=H3 at*
   have f3:Zp [lo] H H3:=f2.trans s3.frame
   have hu3:=f3.tups _ _ hu
   dsimp only[B5.v] at hu3
   have hlo3:=s3 _ _ hlo2
   have hlo3q:=SqL.of (K:=K) hlo3
   have hsl3:=s3 _ _ hsl2
   have hsl3q:=SqL.of (K:=K) hsl3
   have hb4:=hb.at hk'
   obtain⟨tr,etr,ntr,htr,mtr⟩:=hR2 k hk'
   simp only[Nat.lt_irrefl,false_and,if_false] at htr
   have ect:(ls.getD k dB).take=(((ls.getD k dB).take.toNat:Nat):Int):=by omega
   have htr3:=s3 _ _ htr
   have htr3q:=SqL.of (K:=K) htr3
   have at2:atI ys2 (k:Int)=some (.ref tr):=YQ (by
    have hiy:k<ys2.length:=by omega
    rw[List.getElem?_eq_getElem hiy,←ZF (d:= .non) hiy,etr])
   walk_at "rds"
   refine Rd.ifD (fun c=>?_) (fun c=>?_)
   ·have hok':(ls.getD k dB).take.toNat≤(st k).length:=hok k hk' c
    have hstk:=hst k hk'
    have hslz:(((List.range k).filter fun i=>decide ((ls.getD i dB).taker=w)).flatMap fun i=>(st i).take (ls.getD i dB).take.toNat).length≤1000*k:=by
     rw[List.length_flatMap]
     have h0:∀is:List Nat,(∀i∈is,i<ls.length)→(is.map fun i=>((st i).take (ls.getD i dB).take.toNat).length).sum≤1000*is.length:=by
      intro is
      induction is with
      |nil=>intro _;simp
      |cons i is ih=>
       intro hs
       have a1:=ih fun j hj=>hs j (List.mem_cons_of_mem _ hj)
       have a2:=(hb.at (hs i List.mem_cons_self)).2.1
       simp only[List.map_cons,List.sum_cons,List.length_cons,List.length_take] at a1⊢
       omega
     have h1:=h0 ((List.range k).filter fun i=>decide ((ls.getD i dB).taker=w)) fun i hi=>by
      have:=List.mem_range.mp (List.mem_filter.mp hi).1
      omega
     have h2:((List.range k).filter fun i=>decide ((ls.getD i dB).taker=w)).length≤k:=Nat.le_trans (List.length_filter_le _ _) (by simp)
     omega
    have eflt:((List.range (k+1)).filter fun i=>decide ((ls.getD i dB).taker=w)).flatMap (fun i=>(st i).take (ls.getD i dB).take.toNat)=(((List.range k).filter fun i=>decide ((ls.getD i dB).taker=w)).flatMap fun i=>(st i).take (ls.getD i dB).take.toNat)++(st k).take (ls.getD k dB).take.toNat:=by
     have ef:[k].filter (fun i=>decide ((ls.getD i dB).taker=w))=[k]:=by
      rw[List.filter_cons,if_pos (decide_eq_true c)];rfl
     rw[List.range_succ,List.filter_append,List.flatMap_append,ef]
     simp
    rw[eflt]
    generalize ((List.range k).filter fun i=>decide ((ls.getD i dB).taker=w)).flatMap (fun i=>(st i).take (ls.getD i dB).take.toNat)=slk at*
    walk_at "rds"
    refine Rd.slL htr3q ?_
    intro u1 hu1
    rw[Ziw hb4.1,←List.map_take]
    have s4:Zd H3 (upd H3 u1 (.lst (((st k).take (ls.getD k dB).take.toNat).map V.int))):=Zo hu1
    have v4:(upd H3 u1 (.lst (((st k).take (ls.getD k dB).take.toNat).map V.int))) u1=some (.lst (((st k).take (ls.getD k dB).take.toNat).map V.int)):=Zg
    generalize upd H3 u1 (.lst (((st k).take (ls.getD k dB).take.toNat).map V.int))=H4 at*
    refine .inr (.inr (.inl ⟨sl,u1,_,_,rfl,rfl,s4 _ _ hsl3,v4,Nat.le_of_lt (Wq (by simp only[List.length_map,List.length_take];omega)),fun u2 hu2=>?_⟩))
    rw[←List.map_append]
    have s5:Zd H4 (upd H4 u2 (.lst ((slk++(st k).take (ls.getD k dB).take.toNat).map V.int))):=Zo hu2
    have v5:(upd H4 u2 (.lst ((slk++(st k).take (ls.getD k dB).take.toNat).map V.int))) u2=some (.lst ((slk++(st k).take (ls.getD k dB).take.toNat).map V.int)):=Zg
    generalize upd H4 u2 (.lst ((slk++(st k).take (ls.getD k dB).take.toNat).map V.int))=H5 at*
    have s35:=s4.trans s5
    have htr5:=s35 _ _ htr3
    have htr5q:=SqL.of (K:=K) htr5
    have hu5:=s35 _ _ hu3
    have hlo5:=s35 _ _ hlo3
    have hlo5q:=SqL.of (K:=K) hlo5
    walk_at "rds"
    refine Rd.slL htr5q ?_
    intro u3 hu3'
    rw[ect,Zhm,←List.map_drop]
    have emn:(st k).drop (min (ls.getD k dB).take.toNat ((st k).map V.int).length)=(st k).drop (ls.getD k dB).take.toNat:=by rw[List.length_map,Nat.min_eq_left hok']
    rw[emn]
    have s6:Zd H5 (upd H5 u3 (.lst (((st k).drop (ls.getD k dB).take.toNat).map V.int))):=Zo hu3'
    have v6:(upd H5 u3 (.lst (((st k).drop (ls.getD k dB).take.toNat).map V.int))) u3=some (.lst (((st k).drop (ls.getD k dB).take.toNat).map V.int)):=Zg
    generalize upd H5 u3 (.lst (((st k).drop (ls.getD k dB).take.toNat).map V.int))=H6 at*
    have hlo6:=s6 _ _ hlo5
    have hkz:(k:Int)<(ys2.length:Int):=by omega
    walk_at "rds"
    have f6:Zp [lo] H H6:=(f3.trans s35.frame).trans s6.frame
    have f7:Zp [lo] H6 (upd H6 lo (.lst (ys2.set ((k:Int)).toNat (.ref u3)))):=ZR (by simp) hlo6 (by intro _ z;cases z)
    have nu3:u3≠lo:=fun z=>by rw[z,hlo5] at hu3';cases hu3'
    have nu2:u2≠lo:=fun z=>by rw[z,s4 _ _ hlo3] at hu2;cases hu2
    have z3:∀x,x≠lo→H5 x=none→H x=none:=fun x nx e=>by
     cases q1:H x with
     |none=>rfl
     |some o=>rw[(f3.trans s35.frame).keep _ _ q1 (by simpa using nx)] at e;cases e
    have z2:H u2=none:=by
     cases q1:H u2 with
     |none=>rfl
     |some o=>rw[(f3.trans s4.frame).keep _ _ q1 (by simpa using nu2)] at hu2;cases hu2
    refine⟨f6.trans f7,⟨_,Zg,by rw[List.length_set];exact hyl2,fun i hi=>?_⟩,u2,_,_,_,rfl,z2,by rw[Zi nu2];exact s6 _ _ v5⟩
    by_cases z:i=k
    ·subst z
     refine⟨u3,?_,nu3,?_,.inr (z3 u3 nu3 hu3')⟩
     ·rw[Int.toNat_natCast,List.getD_eq_getElem?_getD,List.getElem?_set_self (by omega)];rfl
     ·rw[Zi nu3,v6]
      dsimp only
      rw[if_pos ⟨Nat.lt_succ_self _,c⟩]
    ·obtain⟨t',e',n',h',m'⟩:=hR2 i hi
     refine⟨t',?_,n',?_,m'⟩
     ·rw[Int.toNat_natCast,List.getD_eq_getElem?_getD,List.getElem?_set_ne (Ne.symm z),←List.getD_eq_getElem?_getD];exact e'
     ·rw[Zi n',s6 _ _ (s35 _ _ (s3 _ _ h'))]
      have:(i<k+1∧(ls.getD i dB).taker=w)↔(i<k∧(ls.getD i dB).taker=w):=by omega
      simp only[this]
   ·walk_at "rds"
    refine⟨f3,⟨ys2,hlo3,hyl2,fun i hi=>?_⟩,sl,_,_,_,rfl,hsl0,?_⟩
    ·obtain⟨t',e',n',h',m'⟩:=hR2 i hi
     refine⟨t',e',n',?_,m'⟩
     rw[s3 _ _ h']
     by_cases z:i=k
     ·subst z
      dsimp only
      rw[if_neg (fun z=>absurd z.1 (Nat.lt_irrefl _)),if_neg (fun z=>c z.2)]
     ·have:(i<k+1∧(ls.getD i dB).taker=w)↔(i<k∧(ls.getD i dB).taker=w):=by omega
      simp only[this]
    ·have ef:[k].filter (fun i=>decide ((ls.getD i dB).taker=w))=[]:=by
      rw[List.filter_cons,if_neg (by rw[decide_eq_false c];decide)];rfl
     rw[hsl3,List.range_succ,List.filter_append,List.flatMap_append,ef]
     simp
  ·rintro σ H2 ⟨f2,⟨ys2,hlo2,hyl2,hR2⟩,sl,a5,a6,a7,rfl,hsl0,hsl2⟩
   rw[hbl] at hR2 hsl2
   have eS:MM.slots (ZA ls fss) st w=((List.range ls.length).filter fun i=>decide ((ls.getD i dB).taker=w)).flatMap fun i=>(st i).take (ls.getD i dB).take.toNat:=rfl
   rw[←eS] at hsl2
   have hslN:=Zem hb hok
   have hwf:w.toNat<fss.length:=by rw[hA.len];omega
   have hfok:=hA.ok w w0 w1
   obtain⟨wa,wvs,hwv,hwa,hwF⟩:=YB (d:=V.non) (e:=([]:List ZT)) hF hwf
   have hatF:atI fvs w=some (.ref wa):=by
    have hv:w.toNat<fvs.length:=by rw[Paired.length hF];exact hwf
    have:=YQ (xs:=fvs) (j:=w.toNat) (v:= .ref wa) (by rw[List.getElem?_eq_getElem hv];rw[←hwv,List.getD_eq_getElem?_getD,List.getElem?_eq_getElem hv];rfl)
    rwa [Int.toNat_of_nonneg w0] at this
   have hout:∀i<ls.length,(ls.getD i dB).giver=w→(ZA ls fss).out i (MM.slots (ZA ls fss) st w)=(((fss.getD w.toNat []).map fun f=>formV f.1 f.2 (MM.slots (ZA ls fss) st w)).drop (YL ls w i).toNat).take (ls.getD i dB).give.toNat:=fun i hi e=>by
    show(((fss.getD (ls.getD i dB).giver.toNat []).map fun f=>formV f.1 f.2 (MM.slots (ZA ls fss) st w)).drop (YL ls (ls.getD i dB).giver i).toNat).take (ls.getD i dB).give.toNat=_
    rw[e]
   have hoff0:∀k,0≤YL ls w k:=fun k=>by
    unfold YL
    rw[VE fun j hj=>(hb.at (WN (List.mem_filter.mp hj).1)).2.2.1]
    omega
   have hstep:∀i<ls.length,MM.step (ZA ls fss) st w i=(if i<ls.length∧(ls.getD i dB).taker=w then(st i).drop (ls.getD i dB).take.toNat else st i)++(if i<ls.length∧(ls.getD i dB).giver=w then(ZA ls fss).out i (MM.slots (ZA ls fss) st w) else[]):=fun i hi=>by
    show(if i<ls.length then(if(ls.getD i dB).taker=w then(st i).drop (ls.getD i dB).take.toNat else st i)++(if(ls.getD i dB).giver=w then(ZA ls fss).out i (MM.slots (ZA ls fss) st w) else[]) else st i)=_
    rw[if_pos hi]
    simp only[hi,true_and]
   generalize hSL:MM.slots (ZA ls fss) st w=sv at*
   generalize hfs:fss.getD w.toNat []=fs at*
   have hwl:=Paired.length hwF
   have nsl:sl≠lo:=fun z=>by rw[z,hlo] at hsl0;cases hsl0
   have hlp2:=f2.keep _ _ hlp nlp'
   have hlp2q:=SqL.of (K:=K) hlp2
   have hst1:∀i<ls.length,(if i<ls.length∧(ls.getD i dB).taker=w then(st i).drop (ls.getD i dB).take.toNat else st i).length≤50000:=fun i hi=>by
    have:=hst i hi
    split
    ·rw[List.length_drop];omega
    ·omega
   generalize hst1f:(fun i=>if i<ls.length∧(ls.getD i dB).taker=w then(st i).drop (ls.getD i dB).take.toNat else st i)=st1 at*
   have hst1e:∀i,(if i<ls.length∧(ls.getD i dB).taker=w then(st i).drop (ls.getD i dB).take.toNat else st i)=st1 i:=fun i=>by rw[←hst1f]
   simp only[hst1e] at hst1 hstep
   walk_at "rds"
   refine V0 (H0:=V6 H2 lp) (Wt (xs:=bs) (SqL.of (by rw[Vb];exact hlp2))) (fun k σ H'=>Zp [lo] H H'∧(∃ys',H' lo=some (.lst ys')∧ys'.length=ls.length∧∀i<ls.length,ZbD H H' lo ys ys' (fun i=>st1 i++(if i<k∧(ls.getD i dB).giver=w then(ZA ls fss).out i sv else[])) i)∧(∃a5 a6,σ=[some (.ref lp),some (.ref fo),some (.ref lo),some (.int w),some (.ref sl),a5,a6,some (.int (YL ls w k))])∧H' sl=some (.lst (sv.map V.int))) ⟨f2,⟨ys2,hlo2,hyl2,fun i hi=>by obtain⟨t,e,n,h,m⟩:=hR2 i hi;exact⟨t,e,n,by rw[h];simp,m⟩⟩,⟨_,_,by rw[ZgI]⟩,hsl2⟩ (fun i σ H' h=>Wn ((h.1.keep _ _ hlp nlp').trans hlp2.symm)) ?_ ?_
   ·rintro k σ H3 v H4 hk ⟨f3,⟨ys3,hlo3,hyl3,hR3⟩,⟨a5,a6,rfl⟩,hsl3⟩ ⟨t,ht,rfl,rfl⟩
    have hk':k<ls.length:=by omega
    obtain⟨u,eu,hu⟩:=hT.getD hk'
    rw[eu]
    refine Rd.Ww (.of Zg) rfl ?_
    have s4:Zd H3 (upd H3 t (.tup [.int k,.ref u])):=Zo ht
    generalize upd H3 t (.tup [.int k,.ref u])=H4 at*
    have f4:Zp [lo] H H4:=f3.trans s4.frame
    have hu4:=f4.tups _ _ hu
    dsimp only[B5.v] at hu4
    have hlo4:=s4 _ _ hlo3
    have hlo4q:=SqL.of (K:=K) hlo4
    have hsl4:=s4 _ _ hsl3
    have hsl4q:=SqL.of (K:=K) hsl4
    have hfo4:=f4.keep _ _ hfo nfo'
    have hfo4q:=SqL.of (K:=K) hfo4
    have hwa4:=f4.tups _ _ hwa
    have hwa4q:=SqT.of (K:=K) hwa4
    have hb4:=hb.at hk'
    obtain⟨tr,etr,ntr,htr,mtr⟩:=hR3 k hk'
    simp only[Nat.lt_irrefl,false_and,if_false,List.append_nil] at htr
    have htr4:=s4 _ _ htr
    have htr4q:=SqL.of (K:=K) htr4
    have at2:atI ys3 (k:Int)=some (.ref tr):=YQ (by
     have hiy:k<ys3.length:=by omega
     rw[List.getElem?_eq_getElem hiy,←ZF (d:= .non) hiy,etr])
    have hofs:=ZgP (w:=w) hk'
    have ho0:=hoff0 k
    walk_at "rds"
    refine Rd.ifD (fun c=>?_) (fun c=>?_)
    ·rw[if_pos c] at hofs
     rw[hofs]
     have hoo:=hout k hk' c
     have hstk:=hst1 k hk'
     walk_at "rds"
     try unfold Zan
     try walk_at "rds"
     refine Rd.ZjB hwa4 (ZaZ ho0 hb4.2.2.1) fun ta H5 s5 hta=>?_
     have hP5:Paired (WY H5) ((wvs.drop (YL ls w k).toNat).take (ls.getD k dB).give.toNat) ((fs.drop (YL ls w k).toNat).take (ls.getD k dB).give.toNat):=Paired.take _ (Paired.drop _ (Paired.mapP hwF fun _ _ z=>(z.keep f4.tups).keep fun b xs e=>s5 _ _ e))
     have hoo':(ZA ls fss).out k sv=((fs.drop (YL ls w k).toNat).take (ls.getD k dB).give.toNat).map fun f=>formV f.1 f.2 sv:=by rw[hoo,List.map_take,List.map_drop]
     have hfo5:∀f∈(fs.drop (YL ls w k).toNat).take (ls.getD k dB).give.toNat,ZbO (slotN ls w) f:=fun f hf=>hfok.ok f (List.mem_of_mem_drop (List.mem_of_mem_take hf))
     have hgz:((fs.drop (YL ls w k).toNat).take (ls.getD k dB).give.toNat).length≤1000:=by rw[List.length_take];omega
     generalize (wvs.drop (YL ls w k).toNat).take (ls.getD k dB).give.toNat=wv5 at*
     generalize (fs.drop (YL ls w k).toNat).take (ls.getD k dB).give.toNat=fs5 at*
     have hl5:=Paired.length hP5
     have htaq:=SqT.of (K:=K) hta
     have hsl5q:=SqL.of (K:=K) (s5 _ _ hsl4)
     try walk_at "rds"
     refine⟨ta,rfl,⟨_,htaq⟩,?_⟩
     refine ZM (own:=1) (WQ htaq).y (Zu (by omega)) (fun i=>[some (wv5.getD i .non)]) (fun _=>rfl) (fun _=>true) (fun i v _=>v= .int (formV (fs5.getD i (0,[])).1 (fs5.getD i (0,[])).2 sv)) (fun _ _ _ _ _ z=>z) (fun i a' H' v H3 Kg hi sm y ha' k=>?_) (fun i H' Kc hi sm k=>?_) (fun pp i H' Kc hi hci hp0 hp1 sm k=>?_) (fun gv H6 zs hgv s6 hgv6 hR6=>?_)
     ·obtain⟨rfl,rfl⟩:=y
      obtain⟨x1,rfl⟩:∃x1,a'=[x1]:=by
       match a',ha' with
       | [x1],_=>exact⟨x1,rfl⟩
      walk_at "rds"
      exact k _ (Zd.refl _)
     ·walk_at "rds"
      exact k H' (Zd.refl H')
     ·have hil:i<fs5.length:=by omega
      obtain⟨fad,tm,tvs',ea,hfa,htm,hT5⟩:=YB (d:=V.non) (e:=((0,[]):ZT)) hP5 hil
      rw[ea]
      have hf:=hfo5 (fs5.getD i (0,[])) (by rw[ZF hil];exact List.getElem_mem _)
      generalize fs5.getD i (0,[])=ff at*
      walk_at "rds"
      refine⟨fad,tm,sl,ff.1,tvs',ff.2,sv,rfl,sm _ _ hfa,sm _ _ htm,hT5.keep (fun b xs e=>sm _ _ e),sm.seq hsl5q,hf.few,fun t ht=>?_,k _ H' (Zd.refl _) rfl⟩
      obtain⟨t0,t1,t2⟩:=hf.ter t ht
      exact⟨t0,by omega,IntMulOk.of_left (Nat.le_trans (ZaY (n:=3) (by omega)) (by decide))⟩
     ·rw[List.filter_eq_self.mpr (by simp),hl5] at hR6
      have ey:=Yo hR6
      rw[YW (fun f:ZT=>formV f.1 f.2 sv)] at ey
      subst ey
      have s46:=s5.trans s6
      have hov:(fs5.map fun f=>formV f.1 f.2 sv).length≤1000:=by rw[List.length_map];exact hgz
      generalize (fs5.map fun f=>formV f.1 f.2 sv)=ov at*
      refine .inr (.inr (.inl ⟨tr,gv,_,_,rfl,rfl,s46 _ _ htr4,hgv6,Nat.le_of_lt (Wq (by simp only[List.length_map];omega)),fun u2 hu2=>?_⟩))
      rw[←List.map_append]
      have s7:Zd H6 (upd H6 u2 (.lst ((st1 k++ov).map V.int))):=Zo hu2
      have v7:(upd H6 u2 (.lst ((st1 k++ov).map V.int))) u2=some (.lst ((st1 k++ov).map V.int)):=Zg
      generalize upd H6 u2 (.lst ((st1 k++ov).map V.int))=H7 at*
      have s47:=s46.trans s7
      have hlo7:=s47 _ _ hlo4
      have hu7:=s47 _ _ hu4
      have hkz:(k:Int)<(ys3.length:Int):=by omega
      walk_at "rds"
      have nu2:u2≠lo:=fun z=>by rw[z,s46 _ _ hlo4] at hu2;cases hu2
      have f7:Zp [lo] H H7:=f4.trans s47.frame
      have f8:Zp [lo] H7 (upd H7 lo (.lst (ys3.set ((k:Int)).toNat (.ref u2)))):=ZR (by simp) hlo7 (by intro _ z;cases z)
      have hu8:(upd H7 lo (.lst (ys3.set ((k:Int)).toNat (.ref u2)))) u=some (.tup [.int (ls.getD k dB).giver,.int (ls.getD k dB).taker,.int (ls.getD k dB).give,.int (ls.getD k dB).take,.int (ls.getD k dB).start]):=f8.tups _ _ hu7
      have z2:H u2=none:=by
       cases q1:H u2 with
       |none=>rfl
       |some o=>rw[(f4.trans s46.frame).keep _ _ q1 (by simpa using nu2)] at hu2;cases hu2
      have hfin:(∃ys',(upd H7 lo (.lst (ys3.set ((k:Int)).toNat (.ref u2)))) lo=some (.lst ys')∧ys'.length=ls.length∧∀i<ls.length,ZbD H (upd H7 lo (.lst (ys3.set ((k:Int)).toNat (.ref u2)))) lo ys ys' (fun i=>st1 i++(if i<k+1∧(ls.getD i dB).giver=w then(ZA ls fss).out i sv else[])) i):=by
       refine⟨_,Zg,by rw[List.length_set];exact hyl3,fun i hi=>?_⟩
       by_cases z:i=k
       ·subst z
        refine⟨u2,?_,nu2,?_,.inr z2⟩
        ·rw[Int.toNat_natCast,List.getD_eq_getElem?_getD,List.getElem?_set_self (by omega)];rfl
        ·rw[Zi nu2,v7]
         dsimp only
         rw[if_pos ⟨Nat.lt_succ_self _,c⟩,hoo']
       ·obtain⟨t',e',n',h',m'⟩:=hR3 i hi
        refine⟨t',?_,n',?_,m'⟩
        ·rw[Int.toNat_natCast,List.getD_eq_getElem?_getD,List.getElem?_set_ne (Ne.symm z),←List.getD_eq_getElem?_getD];exact e'
        ·rw[Zi n',s47 _ _ (s4 _ _ h')]
         have:(i<k+1∧(ls.getD i dB).giver=w)↔(i<k∧(ls.getD i dB).giver=w):=by omega
         simp only[this]
      have hsl8:(upd H7 lo (.lst (ys3.set ((k:Int)).toNat (.ref u2)))) sl=some (.lst (sv.map V.int)):=by rw[Zi nsl];exact s47 _ _ hsl4
      have f9:=f7.trans f8
      try change Zdr _ _ _ _ (upd H7 lo (.lst (ys3.set ((k:Int)).toNat (.ref u2))))
      generalize upd H7 lo (.lst (ys3.set ((k:Int)).toNat (.ref u2)))=H8 at*
      walk_at "rds"
      exact⟨f9,hfin,⟨_,_,rfl⟩,hsl8⟩
    ·rw[if_neg c,Int.add_zero] at hofs
     rw[hofs]
     walk_at "rds"
     refine⟨f4,⟨ys3,hlo4,hyl3,fun i hi=>?_⟩,⟨_,_,rfl⟩,hsl4⟩
     obtain⟨t',e',n',h',m'⟩:=hR3 i hi
     refine⟨t',e',n',?_,m'⟩
     rw[s4 _ _ h']
     by_cases z:i=k
     ·subst z
      dsimp only
      rw[if_neg (fun z=>absurd z.1 (Nat.lt_irrefl _)),if_neg (fun z=>c z.2)]
     ·have:(i<k+1∧(ls.getD i dB).giver=w)↔(i<k∧(ls.getD i dB).giver=w):=by omega
      simp only[this]
   ·rintro σ H3 ⟨f3,⟨ys3,hlo3,hyl3,hR3⟩,⟨a5,a6,rfl⟩,hsl3⟩
    walk_at "rds"
    refine q H3 ys3 f3 hlo3 hyl3 fun i hi=>?_
    obtain⟨t',e',n',h',m'⟩:=hR3 i hi
    exact⟨t',e',n',by rw[h',hstep i hi,hbl],m'⟩
end
def Zb4 {K:PySem.W.Frag} {mg:Str→Option Value} (T:Tp K mg):Sp:=fun vs H Q E=>∃(a b:Addr) (ys zs:List V) (xss:List (List Int)),vs=[.ref a,.ref b]∧H a=some (.lst ys)∧ZV H ys xss∧H b=some (.lst zs)∧ZV H zs xss∧xss.length≤1000∧Q (.bl true) H
section
variable {P:Program} {w:World} {K:PySem.W.Frag} {mg:Str→Option Value} {base:Heap}
theorem Zfq (T:Tp K mg):Zj P w K mg base (CXX P w) 1 T.f_l_loads T.d_l_loads ["_law_found","_law_due"] (Zb4 T):=by
 refine T.F_l_loads.okX Zai (fun vs H Q E h=>?_) (fun cdv A outer s H vs Q E hr h=>?_)
 ·obtain⟨a,b,ys,zs,xss,rfl,_⟩:=h
  rfl
 ·have hu:=hr.units
  obtain⟨a,b,ys,zs,xss,rfl,ha,hR,hb,hS,hz,q⟩:=h
  have hyl:=hR.length
  have hzl:=hS.length
  have haq:=SqL.of (K:=K) ha
  have hbq:=SqL.of (K:=K) hb
  refine⟨_,(Zc (ZW (PW.pt (Zah (Yr (Z5 (K:=K) rfl (Zt (Uc (K:=K) rfl) (by rfl) T.n_isinstance PyProof.Rows.boot_isinstance (Za (pv 0) (Za (WE (v:= .ty "list") (by rfl) T.n_list PyProof.Rows.boot_list rfl) Zb))) (fun _=>rfl))) (UU (ZP (UD (K:=K) rfl hu) (Zt (Yx (K:=K) rfl) (by rfl) T.n_len PySem.boot_len (Za (pv 0) Zb)) (Zt (Yx (K:=K) rfl) (by rfl) T.n_len PySem.boot_len (Za (pv 1) Zb)) (ZQ _))))) (Ze (ZC W5)) ZJ)
     (Zc (Z0 PassesOwn.leaving rfl (ZN (K:=K) rfl (pv 0)) (Zk (i:=2) Zai.nd rfl (Or.inl rfl)) (Zc (ZW (Yr (Z5 (K:=K) rfl (Zt (Uc (K:=K) rfl) (by rfl) T.n_isinstance PyProof.Rows.boot_isinstance (Za (pv 2) (Za (WE (v:= .ty "list") (by rfl) T.n_list PyProof.Rows.boot_list rfl) Zb))) (fun _=>rfl))) (Ze (ZC W5)) ZJ)
     (Ze (Z0 PassesOwn.leaving rfl (ZN (K:=K) rfl (pv 2)) (Zk (i:=3) Zai.nd rfl (Or.inl rfl)) (Ze (ZW (PW.pt (Zah (Yr (Z5 (K:=K) rfl (Zt (Uc (K:=K) rfl) (by rfl) T.n_isinstance PyProof.Rows.boot_isinstance (Za (pv 3) (Za (WE (v:= .ty "int") (by rfl) T.n_int PyProof.Rows.boot_int rfl) Zb))) (fun _=>rfl))) (UU (Z5 (K:=K) rfl (Zt (Uc (K:=K) rfl) (by rfl) T.n_isinstance PyProof.Rows.boot_isinstance (Za (pv 3) (Za (WE (v:= .ty "bool") (by rfl) T.n_bool PyProof.Rows.boot_bool rfl) Zb))) (fun _=>rfl))))) (Ze (ZC W5)) ZJ))))))
     (Ze (ZC (VD (YD (K:=K) rfl hu) (pv 0) (pv 1) (ZQ _)))))),?_⟩
  try dsimp only[L2.cxX,L2.ZL,L2.Zl]
  walk_at "rds"
  refine Yf (ZG haq) (fun i σ H'=>H'=H∧∃a2 a3,σ=[some (.ref a),some (.ref b),a2,a3]) ⟨rfl,_,_,rfl⟩ (fun i σ H' h=>h.1▸Zd.refl _) ?_ ?_
  ·rintro i σ H' hi ⟨rfl,a2,a3,rfl⟩
   obtain⟨t,et,ht⟩:=YG hR (i:=i) (by omega)
   rw[et]
   have htq:=SqL.of (K:=K) ht
   walk_at "rds"
   refine Yf (ZG htq) (fun j σ H2=>H2=H'∧∃a3,σ=[some (.ref a),some (.ref b),some (.ref t),a3]) ⟨rfl,_,rfl⟩ (fun i σ H' h=>h.1▸Zd.refl _) ?_ ?_
   ·rintro j σ H2 hj ⟨rfl,a3,rfl⟩
    have hj':j<(xss.getD i []).length:=by simpa using hj
    have ev:∀l:List Int,j<l.length→(l.map V.int).getD j .non= .int (l.getD j 0):=fun l hl=>by rw[ZF hl];simp[List.getD,hl]
    rw[ev _ hj']
    walk_at "rds"
    exact⟨rfl,_,rfl⟩
   ·rintro σ H2 ⟨rfl,a3,rfl⟩
    exact⟨rfl,_,_,rfl⟩
  ·rintro σ H' ⟨rfl,a2,a3,rfl⟩
   walk_at "rds"
   refine Rd.ZjZ (.lst haq (Zbv hR)) (.lst hbq (Zbv hS)) (ZaX _) (ZaX _) (Zd8 _) ?_
   rw[SeqAt.eqv_refl _ (ZaX _)]
   exact q
end
def Zdi {K:PySem.W.Frag} {mg:Str→Option Value} (T:Tp K mg):Sp:=fun vs H Q _=>∃(a b:Addr) (w:Int) (bs ys:List V) (rows:List B5) (xss:List (List Int)),vs=[.ref a,.ref b,.int w]∧SqL K H a bs∧YJ H bs rows∧SqL K H b ys∧ZV H ys xss∧xss.length=rows.length∧rows.length≤1000∧
 ∀H',Zd H H'→Q (.bl (Y0 rows (xss.map fun xs=>(xs.length:Int)) w)) H'
section
variable {P:Program} {w:World} {K:PySem.W.Frag} {mg:Str→Option Value} {base:Heap}
theorem Zgt (T:Tp K mg):Zj P w K mg base (CXX P w) 1 T.f_l_can T.d_l_can ["_law_belts","_law_loads_here","_law_work"] (Zdi T):=by
 refine T.F_l_can.okX Zbw (fun vs H Q E h=>?_) (fun cdv A outer s H vs Q E hr h=>?_)
 ·obtain⟨a,b,w,bs,ys,rows,xss,rfl,_⟩:=h
  rfl
 ·have hu:=hr.units
  obtain⟨a,b,w,bs,ys,rows,xss,rfl,ha,hT,hb,hR,hl,hz,q⟩:=h
  have hbl:=hT.length
  have hyl:=hR.length
  refine⟨_,(Zc (Z0 PassesOwn.leaving rfl (VG (K:=K) rfl rfl T.n_enumerate (Za (pv 0) Zb)) (Yg (K:=K) (n:=2) rfl rfl (Zx (Zk (i:=3) Zbw.nd rfl (Or.inl rfl)) (Zx (Zk (i:=4) Zbw.nd rfl (Or.inl rfl)) Yh))) (Ze (ZW (PW.pt (ZfZ (ZP (YD (K:=K) rfl hu) (ZI (ZS (K:=K) rfl) (pv 4) Zf (fun _ _=>rfl)) (pv 2) (ZQ _)) (Zen (ZP Zc7 (Zt (Yx (K:=K) rfl) (by rfl) T.n_len PySem.boot_len (Za (ZI (ZS (K:=K) rfl) (pv 1) (pv 3) (fun _ _=>rfl)) Zb)) (ZI (ZS (K:=K) rfl) (pv 4) Zf (fun _ _=>rfl)) (ZQ _))))) (Ze (ZC W5)) ZJ)))
     (Ze (ZC W5))),?_⟩
  try dsimp only[L2.cxX,L2.ZL,L2.Zl]
  walk_at "rds"
  refine V0 (Wt ha) (fun i σ H'=>Zd H H'∧(∃a1 a2,σ=[some (.ref a),some (.ref b),some (.int w),a1,a2])∧∀j r h,j<i→rows[j]? =some r→(xss.map fun xs=>(xs.length:Int))[j]? =some h→r.taker=w→r.take≤h) ⟨Zd.refl H,⟨_,_,rfl⟩,by intro j r h z;omega⟩ (fun i σ H' h=>h.1) ?_ ?_
  ·rintro i σ H1 v H2 hi ⟨s1,⟨a1,a2,rfl⟩,hp⟩ ⟨t,ht,rfl,rfl⟩
   have hil:i<rows.length:=by omega
   have hih:i<xss.length:=by omega
   have er:rows[i]? =some rows[i]:=List.getElem?_eq_getElem hil
   have eh:(xss.map fun xs=>(xs.length:Int))[i]? =some ((xss.getD i []).length:Int):=by rw[List.getElem?_map,ZF hih];simp[hih]
   obtain⟨u,hu1,hu2⟩:=hT.at er
   have eb:bs.getD i .non= .ref u:=by simp[List.getD,hu1]
   obtain⟨tr,etr,htr⟩:=YG hR hih
   have at2:atI ys (i:Int)=some (.ref tr):=YQ (by
    have hiy:i<ys.length:=by omega
    rw[List.getElem?_eq_getElem hiy,←ZF (d:= .non) hiy,etr])
   rw[eb]
   refine Rd.Ww (.of Zg) rfl ?_
   have s2:Zd H (upd H1 t (.tup [.int i,.ref u])):=s1.trans (Zo ht)
   generalize upd H1 t (.tup [.int i,.ref u])=H2 at*
   have hb2:=s2.seq hb
   have htr2:=SqL.of (K:=K) (s2 _ _ htr)
   have hu3:=s2 _ _ hu2
   have hlz:(((xss.getD i []).map V.int).length:Int)=((xss.getD i []).length:Int):=by simp
   generalize rows[i]=r at*
   dsimp only[B5.v] at hu3
   have step:(r.taker=w→r.take≤((xss.getD i []).length:Int))→∀(j:Nat) (r:B5) (h:Int),j<i+1→rows[j]? =some r→(xss.map fun xs=>(xs.length:Int))[j]? =some h→r.taker=w→r.take≤h:=fun g j r' h' hj a b=>by
    rcases Nat.lt_succ_iff_lt_or_eq.mp hj with z|rfl
    ·exact hp j r' h' z a b
    ·rw[er] at a;rw[eh] at b
     cases a;cases b
     exact g
   walk_at "rds"
   refine Rd.ifD (fun c=>?_) (fun c=>?_)
   ·walk_at "rds"
    refine Rd.ifD (fun d=>?_) (fun d=>?_)
    ·walk_at "rds"
     rw[←Vr i er eh c (by omega)]
     exact q _ s2
    ·walk_at "rds"
     exact⟨s2,⟨_,_,rfl⟩,step (fun _=>by omega)⟩
   ·walk_at "rds"
    exact⟨s2,⟨_,_,rfl⟩,step (fun z=>absurd z c)⟩
  ·rintro σ H' ⟨s1,⟨a1,a2,rfl⟩,hp⟩
   walk_at "rds"
   rw[←UQ (rows:=rows) (hs:=xss.map fun xs=>(xs.length:Int)) (w:=w) fun j r h a b=>hp j r h (by have:=(List.getElem?_eq_some_iff.mp a).1;omega) a b]
   exact q _ s1
end
def UE {K:PySem.W.Frag} {mg:Str→Option Value} (T:Tp K mg):Sp:=fun vs H Q E=>∃(p:Addr) (w:Int) (hl:HM) (fp:List Addr),vs=[.ref p,.int w]∧ZD T H p hl fp∧hl.belts.length≤1000∧
 (¬(0≤w∧w<hl.names.length)→E (.ref T.X_NoWork) none H)∧(0≤w→w<hl.names.length→∀r H',H r=none→Zd H H'→H' r=some (.lst ((leaveL hl.belts w).map fun i:Nat=>V.int i))→Q (.ref r) H')
section
variable {P:Program} {w:World} {K:PySem.W.Frag} {mg:Str→Option Value} {base:Heap}
theorem Zb2 (T:Tp K mg):Zj P w K mg base (CXX P w) 5 T.f_Hall_leaving T.d_Hall_leaving ["self","work"] (UE T):=by
 have G_Hall_need_work:Zj P w K mg base (CXX P w) 4 T.f_Hall_need_work T.d_Hall_need_work ["self","work"] (Wd T):=(WV T).mono (by decide)
 have cl_Hall:=T.cl_Hall
 have na_Hall:=T.na_Hall
 refine T.F_Hall_leaving.okX ZbM (fun vs H Q E h=>?_) (fun cdv A outer s H vs Q E hr h=>?_)
 ·obtain⟨p,w,hl,fp,rfl,_⟩:=h
  rfl
 ·have hu:=hr.units
  obtain⟨p,w,hl,fp,rfl,hh,hz,e1,q⟩:=h
  obtain⟨dx,a,b,bs,rfl,h1,h2,h3,h4,nab,h6⟩:=id hh
  have hb:=h6.length
  refine⟨_,(Zc (ZK (Z8 (pv 0) T.cl_Hall T.M_Hall_need_work G_Hall_need_work hr T.b_Hall_need_work .nil Zn (Za (pv 1) Zb)))
     (Ze (ZC (Z7 (xs:=["belt","row"]) rfl (Z1 (x:="belt") (zs:=["work"]) (ix:=[1]) (Zh Wh) ["self","work"] rfl rfl (by decide+kernel)) (VG (K:=K) rfl rfl T.n_enumerate (Za (ZH (K:=K) rfl (pv 0) rfl) Zb)) (fun cl C s H fp=>⟨(Yg (K:=K) (n:=2) rfl rfl (Zx (Zk (i:=0) (show(["belt","row","work"]:List Str).Nodup by decide+kernel) rfl (Or.inl rfl)) (Zx (Zk (i:=1) (show(["belt","row","work"]:List Str).Nodup by decide+kernel) rfl (Or.inl rfl)) Yh))),(Up (ZP (YD (K:=K) rfl hu) (ZI (ZS (K:=K) rfl) (pv 1) Zf (fun _ _=>rfl)) (pv 2) (ZQ _))),(pv 0)⟩))))),?_⟩
  try dsimp only[L2.cxX,L2.ZL,L2.Zl]
  walk_at "rds"
  refine⟨p,w,hl,_,rfl,hh,e1,fun w0 w1=>?_⟩
  walk_at "rds"
  refine ZM (own:=2) (Wt (SqL.of h4)) (Zu (by omega)) (fun i=>[some (.int i),some (bs.getD i .non)]) (fun _=>rfl) (fun i=>decide ((hl.belts.getD i dB).giver=w)) (fun i v _=>v= .int i) (fun _ _ _ _ _ z=>z) (fun i a' H' v H2 Kg hi sm y ha k=>?_) (fun i H' Kc hi sm k=>?_) (fun pp i H' Kc hi hc hp0 hp1 sm k=>?_) (fun r H' ys hr sm hl' hR=>?_)
  ·obtain⟨t,ht,rfl,rfl⟩:=y
   obtain⟨x1,x2,rfl⟩:∃x1 x2,a'=[x1,x2]:=by
    match a',ha with
    | [x1,x2],_=>exact⟨x1,x2,rfl⟩
   refine Rd.Ww (.of Zg) rfl ?_
   walk_at "rds"
   exact k _ (Zo ht)
  ·obtain⟨t,ht1,ht2⟩:=h6.getD (i:=i) (by omega)
   rw[ht1]
   have ht3:=sm _ _ ht2
   generalize hl.belts.getD i dB=bb at*
   dsimp only[B5.v] at ht3
   walk_at "rds"
   exact k H' (Zd.refl H')
  ·walk_at "rds"
   exact k _ H' (Zd.refl H') rfl
  ·refine q w0 w1 r H' hr sm ?_
   rw[hl',Vl (R:=fun i v _=>v=V.int (i:Nat)) (H:=H') (r:=fun i:Nat=>V.int i) (fun _ _ z=>z) hR,hb]
   rfl
end
def Ub {K:PySem.W.Frag} {mg:Str→Option Value} (T:Tp K mg):Sp:=fun vs H Q E=>∃(p:Addr) (i:Int) (hl:HM) (fp:List Addr),vs=[.ref p,.int i]∧ZD T H p hl fp∧
 (¬(0≤i∧i<hl.belts.length)→E (.ref T.X_NoBelt) none H)∧(0≤i→i<hl.belts.length→Q .non H)
section
variable {P:Program} {w:World} {K:PySem.W.Frag} {mg:Str→Option Value} {base:Heap}
theorem Za7 (T:Tp K mg):Zj P w K mg base (CXX P w) 4 T.f_Hall_need_belt T.d_Hall_need_belt ["self","belt"] (Ub T):=by
 have G_is_number_below:Zj P w K mg base (CXX P w) 3 T.f_is_number_below T.d_is_number_below ["thing","bound"] (Yb T):=(YX T).mono (by decide)
 have cl_Hall:=T.cl_Hall
 have na_Hall:=T.na_Hall
 refine T.F_Hall_need_belt.okX Za5 (fun vs H Q E h=>?_) (fun cdv A outer s H vs Q E hr h=>?_)
 ·obtain⟨p,i,hl,fp,rfl,_⟩:=h
  rfl
 ·have hu:=hr.units
  obtain⟨p,i,hl,fp,rfl,hh,e1,q⟩:=h
  obtain⟨dx,a,b,bs,rfl,h1,h2,h3,h4,nab,h6⟩:=id hh
  refine⟨_,(Ze (ZW (Yr (Z5 (K:=K) rfl (Zz G_is_number_below hr rfl T.m_is_number_below T.F_is_number_below.kp T.b_is_number_below .nil Zn (Za (pv 1) (Za (Zt (Yx (K:=K) rfl) (by rfl) T.n_len PySem.boot_len (Za (ZH (K:=K) rfl (pv 0) rfl) Zb)) Zb))) (fun _=>rfl))) (Ze (Yc T.gx_NoBelt T.ex_NoBelt PySem.F.excBase_ValueError rfl (Za Yn Zb))) ZJ)),?_⟩
  try dsimp only[L2.cxX,L2.ZL,L2.Zl]
  walk_at "rds"
  rw[h6.length]
  by_cases c:0≤i∧i<hl.belts.length
  ·rw[decide_eq_true c]
   walk_at "rds"
   exact q c.1 c.2
  ·rw[decide_eq_false c]
   walk_at "rds"
   exact e1 c
end
def Vi {K:PySem.W.Frag} {mg:Str→Option Value} (T:Tp K mg):Sp:=fun vs H Q E=>∃(p:Addr) (i:Int) (hl:HM) (fp:List Addr),vs=[.ref p,.int i]∧ZD T H p hl fp∧
 (¬(0≤i∧i<hl.belts.length)→E (.ref T.X_NoBelt) none H)∧(0≤i→i<hl.belts.length→∀(t:Addr) (b:B5),hl.belts[i.toNat]? =some b→H t=some (.tup b.v)→Q (.ref t) H)
section
variable {P:Program} {w:World} {K:PySem.W.Frag} {mg:Str→Option Value} {base:Heap}
theorem UG (T:Tp K mg):Zj P w K mg base (CXX P w) 5 T.f_Hall_belt_at T.d_Hall_belt_at ["self","belt"] (Vi T):=by
 have G_Hall_need_belt:Zj P w K mg base (CXX P w) 4 T.f_Hall_need_belt T.d_Hall_need_belt ["self","belt"] (Ub T):=(Za7 T).mono (by decide)
 have cl_Hall:=T.cl_Hall
 have na_Hall:=T.na_Hall
 refine T.F_Hall_belt_at.okX ZbS (fun vs H Q E h=>?_) (fun cdv A outer s H vs Q E hr h=>?_)
 ·obtain⟨p,i,hl,fp,rfl,_⟩:=h
  rfl
 ·have hu:=hr.units
  obtain⟨p,i,hl,fp,rfl,hh,e1,q⟩:=h
  obtain⟨dx,a,b,bs,rfl,h1,h2,h3,h4,nab,h6⟩:=id hh
  refine⟨_,(Zc (ZK (Z8 (pv 0) T.cl_Hall T.M_Hall_need_belt G_Hall_need_belt hr T.b_Hall_need_belt .nil Zn (Za (pv 1) Zb)))
     (Ze (ZC (ZI (ZS (K:=K) rfl) (ZH (K:=K) rfl (pv 0) rfl) (pv 1) (fun _ _=>rfl))))),?_⟩
  try dsimp only[L2.cxX,L2.ZL,L2.Zl]
  walk_at "rds"
  refine⟨p,i,hl,_,rfl,hh,e1,fun i0 i1=>?_⟩
  have hi:i.toNat<hl.belts.length:=by omega
  have ei:=List.getElem?_eq_getElem hi
  obtain⟨t,ht1,ht2⟩:=h6.at ei
  have at1:atI bs i=some (.ref t):=by
   have:=YQ ht1
   rwa [Int.toNat_of_nonneg i0] at this
  walk_at "rds"
  exact q i0 i1 t _ ei ht2
end
def UR {K:PySem.W.Frag} {mg:Str→Option Value} (T:Tp K mg):Sp:=fun vs H Q E=>∃(p:Addr) (w:Int) (hl:HM) (fp:List Addr),vs=[.ref p,.int w]∧ZD T H p hl fp∧hl.belts.length≤1000∧0≤w∧w<hl.names.length∧
 ∀r H' ys,H r=none→Zd H H'→H' r=some (.lst ys)→Y3 H' (giveRow hl.belts w) ys→Q (.ref r) H'
section
variable {P:Program} {w:World} {K:PySem.W.Frag} {mg:Str→Option Value} {base:Heap}
theorem Zbp (T:Tp K mg):Zj P w K mg base (CXX P w) 6 T.f_gives_of T.d_gives_of ["hall","work"] (UR T):=by
 have G_Hall_leaving:Zj P w K mg base (CXX P w) 5 T.f_Hall_leaving T.d_Hall_leaving ["self","work"] (UE T):=(Zb2 T).mono (by decide)
 have G_Hall_belt_at:Zj P w K mg base (CXX P w) 5 T.f_Hall_belt_at T.d_Hall_belt_at ["self","belt"] (Vi T):=(UG T).mono (by decide)
 have cl_Hall:=T.cl_Hall
 have na_Hall:=T.na_Hall
 refine T.F_gives_of.okX Zec (fun vs H Q E h=>?_) (fun cdv A outer s H vs Q E hr h=>?_)
 ·obtain⟨p,w,hl,fp,rfl,_⟩:=h
  rfl
 ·have hu:=hr.units
  obtain⟨p,w,hl,fp,rfl,hh,hz,w0,w1,q⟩:=h
  refine⟨_,(Ze (ZC (Z7 (xs:=["belt"]) rfl (Z1 (x:="belt") (zs:=["hall"]) (ix:=[0]) (Zh Vn) ["hall","work"] rfl rfl (by decide+kernel)) (ZN (K:=K) rfl (Z8 (pv 0) T.cl_Hall T.M_Hall_leaving G_Hall_leaving hr T.b_Hall_leaving .nil Zn (Za (pv 1) Zb))) (fun cl C s H fp=>⟨(Zk (i:=0) (show(["belt","hall"]:List Str).Nodup by decide+kernel) rfl (Or.inl rfl)),Z6,(VY (Za (pv 0) (Za (ZI (ZS (K:=K) rfl) (Z8 (pv 1) T.cl_Hall T.M_Hall_belt_at G_Hall_belt_at hr T.b_Hall_belt_at .nil WD (Za (pv 0) Zb)) Zf (fun _ _=>rfl)) Zb)))⟩)))),?_⟩
  try dsimp only[L2.cxX,L2.ZL,L2.Zl]
  walk_at "rds"
  refine⟨p,w,hl,fp,rfl,hh,hz,fun z=>absurd ⟨w0,w1⟩ z,fun _ _ e H1 he s1 he1=>?_⟩
  have hh1:=hh.same s1
  have el:=Ug (ls:=hl.belts) (w:=w)
  walk_at "rds"
  refine ZM (own:=1) (ZG (SqL.of he1)).y (Zu (by rw[List.length_map];omega)) (fun i=>[some (.int ((leaveL hl.belts w).getD i 0:Nat))]) (fun _=>rfl) (fun _=>true) (fun i v H=>∃t,v=V.ref t∧H t=some (.tup [.int ((leaveL hl.belts w).getD i 0:Nat),.int (hl.belts.getD ((leaveL hl.belts w).getD i 0) dB).give])) (fun _ _ _ _ e ⟨t,z1,z2⟩=>⟨t,z1,e _ _ z2⟩) (fun i a' H' v H2 Kg hi sm y ha' k=>?_) (fun i H' Kc hi sm k=>?_) (fun pp i H' Kc hi hc hp0 hp1 sm k=>?_) (fun r H' ys hr' sm hl' hR=>?_)
  ·obtain⟨rfl,rfl⟩:=y
   obtain⟨x1,rfl⟩:∃x1,a'=[x1]:=by
    match a',ha' with
    | [x1],_=>exact⟨x1,rfl⟩
   have hi':i<(leaveL hl.belts w).length:=by simpa using hi
   have ev:((leaveL hl.belts w).map fun i:Nat=>V.int i).getD i .non= .int ((leaveL hl.belts w).getD i 0:Nat):=by simp[List.getD,hi']
   rw[ev]
   walk_at "rds"
   exact k _ (Zd.refl _)
  ·walk_at "rds"
   exact k H' (Zd.refl H')
  ·have hi':i<(leaveL hl.belts w).length:=by simpa using hi
   have hm:(leaveL hl.belts w).getD i 0∈leaveL hl.belts w:=by
    have:(leaveL hl.belts w).getD i 0=(leaveL hl.belts w)[i]:=by simp[List.getD,hi']
    rw[this];exact List.getElem_mem hi'
   have hlt:=WN hm
   generalize (leaveL hl.belts w).getD i 0=j at*
   have hh2:=hh1.same sm
   walk_at "rds"
   refine⟨p,(j:Int),hl,fp,rfl,hh2,fun z=>absurd ⟨Int.natCast_nonneg j,by omega⟩ z,fun _ _ t b hb ht=>?_⟩
   have hb':hl.belts[j]? =some b:=hb
   have eb:hl.belts.getD j dB=b:=by simp[List.getD,hb']
   rw[eb] at k
   dsimp only[B5.v] at ht
   walk_at "rds"
   refine⟨by show 2≤sizeLine;decide,fun u hu'=>?_⟩
   exact k _ _ (Zo hu') ⟨u,rfl,Uq hp1 hu'⟩
  ·refine q r H' ys ?_ (s1.trans sm) hl' ?_
   ·cases e:H r with
    |none=>rfl
    |some o=>rw[s1 _ _ e] at hr';cases hr'
   ·exact(Zcz hR).keep fun b xs z=>YT _ _ z
end
def Zbl {K:PySem.W.Frag} {mg:Str→Option Value} (T:Tp K mg):Sp:=fun vs H Q _=>∃(p:Addr) (w:Int) (hl:HM) (fp:List Addr),vs=[.ref p,.int w]∧ZD T H p hl fp∧hl.belts.length≤1000∧0≤w∧w<hl.names.length∧∀H',Zd H H'→Q (.int ((giveRow hl.belts w).map (·.2)).sum) H'
section
variable {P:Program} {w:World} {K:PySem.W.Frag} {mg:Str→Option Value} {base:Heap}
theorem Zd6 (T:Tp K mg):Zj P w K mg base (CXX P w) 7 T.f_given_by T.d_given_by ["hall","work"] (Zbl T):=by
 have G_gives_of:Zj P w K mg base (CXX P w) 6 T.f_gives_of T.d_gives_of ["hall","work"] (UR T):=(Zbp T).mono (by decide)
 refine T.F_given_by.okX Zel (fun vs H Q E h=>?_) (fun cdv A outer s H vs Q E hr h=>?_)
 ·obtain⟨p,w,hl,fp,rfl,_⟩:=h
  rfl
 ·have hu:=hr.units
  obtain⟨p,w,hl,fp,rfl,hh,hz,w0,w1,q⟩:=h
  refine⟨_,(Ze (ZC (Zt (Za4 (K:=K) rfl rfl) (by rfl) T.n_sum PyProof.Rows.boot_sum (Za (Z7 (xs:=["belt","give"]) rfl (Z1 (x:="belt") (zs:=[]) (ix:=[]) (Zh Vo) ["hall","work"] rfl rfl (by decide+kernel)) (ZN (K:=K) rfl (Zz G_gives_of hr rfl T.m_gives_of T.F_gives_of.kp T.b_gives_of .nil Zn (Za (pv 0) (Za (pv 1) Zb)))) (fun cl C s H fp=>⟨(Yg (K:=K) (n:=2) rfl rfl (Zx (Zk (i:=0) (show(["belt","give"]:List Str).Nodup by decide+kernel) rfl (Or.inl rfl)) (Zx (Zk (i:=1) (show(["belt","give"]:List Str).Nodup by decide+kernel) rfl (Or.inl rfl)) Yh))),Z6,(pv 1)⟩)) Zb)))),?_⟩
  try dsimp only[L2.cxX,L2.ZL,L2.Zl]
  walk_at "rds"
  refine⟨p,w,hl,fp,rfl,hh,hz,w0,w1,fun r H1 ys hr s1 hr1 hP=>?_⟩
  have hyl:ys.length=(giveRow hl.belts w).length:=(Paired.length hP).symm
  have hgl:(giveRow hl.belts w).length≤1000:=by unfold giveRow;rw[List.length_map];exact Nat.le_trans Ug hz
  generalize giveRow hl.belts w=gr at*
  have hrq:=SqL.of (K:=K) hr1
  walk_at "rds"
  refine ZM (own:=2) (ZG hrq).y (Zu (by omega)) (fun i=>[some (.int (gr.getD i (0,0)).1),some (.int (gr.getD i (0,0)).2)]) (fun _=>rfl) (fun _=>true) (fun i v _=>v= .int (gr.getD i (0,0)).2) (fun _ _ _ _ _ z=>z) (fun i a' H' v H3 Kg hi sm y ha' k=>?_) (fun i H' Kc hi sm k=>?_) (fun pp i H' Kc hi hci hp0 hp1 sm k=>?_) (fun d H3 zs hd sm hl' hR=>?_)
  ·obtain⟨rfl,rfl⟩:=y
   obtain⟨x1,x2,rfl⟩:∃x1 x2,a'=[x1,x2]:=by
    match a',ha' with
    | [x1,x2],_=>exact⟨x1,x2,rfl⟩
   obtain⟨t,et,ht⟩:=Zam hP (i:=i) (by omega)
   rw[et]
   refine Rd.Ww (.of (sm _ _ ht)) rfl ?_
   walk_at "rds"
   exact k _ (Zd.refl _)
  ·walk_at "rds"
   exact k H' (Zd.refl H')
  ·walk_at "rds"
   exact k _ H' (Zd.refl H') rfl
  ·rw[List.filter_eq_self.mpr (by simp),hyl] at hR
   have ey:=Yo hR
   rw[YW (fun t:Int×Int=>t.2)] at ey
   have hds:=SqL.of (K:=K) (ey▸hl')
   walk_at "rds"
   refine⟨d,_,rfl,hds,?_⟩
   exact q H3 (s1.trans sm)
end
def Uy {K:PySem.W.Frag} {mg:Str→Option Value} (T:Tp K mg):Sp:=fun vs H Q E=>∃(p:Addr) (w:Int) (hl:HM) (fp:List Addr),vs=[.ref p,.int w]∧ZD T H p hl fp∧hl.belts.length≤1000∧
 (¬(0≤w∧w<hl.names.length)→E (.ref T.X_NoWork) none H)∧(0≤w→w<hl.names.length→∀r H',H r=none→Zd H H'→H' r=some (.lst ((ZE hl.belts w).map fun i:Nat=>V.int i))→Q (.ref r) H')
section
variable {P:Program} {w:World} {K:PySem.W.Frag} {mg:Str→Option Value} {base:Heap}
theorem Zbs (T:Tp K mg):Zj P w K mg base (CXX P w) 5 T.f_Hall_entering T.d_Hall_entering ["self","work"] (Uy T):=by
 have G_Hall_need_work:Zj P w K mg base (CXX P w) 4 T.f_Hall_need_work T.d_Hall_need_work ["self","work"] (Wd T):=(WV T).mono (by decide)
 have cl_Hall:=T.cl_Hall
 have na_Hall:=T.na_Hall
 refine T.F_Hall_entering.okX Zbr (fun vs H Q E h=>?_) (fun cdv A outer s H vs Q E hr h=>?_)
 ·obtain⟨p,w,hl,fp,rfl,_⟩:=h
  rfl
 ·have hu:=hr.units
  obtain⟨p,w,hl,fp,rfl,hh,hz,e1,q⟩:=h
  obtain⟨dx,a,b,bs,rfl,h1,h2,h3,h4,nab,h6⟩:=id hh
  have hb:=h6.length
  refine⟨_,(Zc (ZK (Z8 (pv 0) T.cl_Hall T.M_Hall_need_work G_Hall_need_work hr T.b_Hall_need_work .nil Zn (Za (pv 1) Zb)))
     (Ze (ZC (Z7 (xs:=["belt","row"]) rfl (Z1 (x:="belt") (zs:=["work"]) (ix:=[1]) (Zh Y5) ["self","work"] rfl rfl (by decide+kernel)) (VG (K:=K) rfl rfl T.n_enumerate (Za (ZH (K:=K) rfl (pv 0) rfl) Zb)) (fun cl C s H fp=>⟨(Yg (K:=K) (n:=2) rfl rfl (Zx (Zk (i:=0) (show(["belt","row","work"]:List Str).Nodup by decide+kernel) rfl (Or.inl rfl)) (Zx (Zk (i:=1) (show(["belt","row","work"]:List Str).Nodup by decide+kernel) rfl (Or.inl rfl)) Yh))),(Up (ZP (YD (K:=K) rfl hu) (ZI (ZS (K:=K) rfl) (pv 1) Zf (fun _ _=>rfl)) (pv 2) (ZQ _))),(pv 0)⟩))))),?_⟩
  try dsimp only[L2.cxX,L2.ZL,L2.Zl]
  walk_at "rds"
  refine⟨p,w,hl,_,rfl,hh,e1,fun w0 w1=>?_⟩
  walk_at "rds"
  refine ZM (own:=2) (Wt (SqL.of h4)) (Zu (by omega)) (fun i=>[some (.int i),some (bs.getD i .non)]) (fun _=>rfl) (fun i=>decide ((hl.belts.getD i dB).taker=w)) (fun i v _=>v= .int i) (fun _ _ _ _ _ z=>z) (fun i a' H' v H2 Kg hi sm y ha k=>?_) (fun i H' Kc hi sm k=>?_) (fun pp i H' Kc hi hc hp0 hp1 sm k=>?_) (fun r H' ys hr sm hl' hR=>?_)
  ·obtain⟨t,ht,rfl,rfl⟩:=y
   obtain⟨x1,x2,rfl⟩:∃x1 x2,a'=[x1,x2]:=by
    match a',ha with
    | [x1,x2],_=>exact⟨x1,x2,rfl⟩
   refine Rd.Ww (.of Zg) rfl ?_
   walk_at "rds"
   exact k _ (Zo ht)
  ·obtain⟨t,ht1,ht2⟩:=h6.getD (i:=i) (by omega)
   rw[ht1]
   have ht3:=sm _ _ ht2
   generalize hl.belts.getD i dB=bb at*
   dsimp only[B5.v] at ht3
   walk_at "rds"
   exact k H' (Zd.refl H')
  ·walk_at "rds"
   exact k _ H' (Zd.refl H') rfl
  ·refine q w0 w1 r H' hr sm ?_
   rw[hl',Vl (R:=fun i v _=>v=V.int (i:Nat)) (H:=H') (r:=fun i:Nat=>V.int i) (fun _ _ z=>z) hR,hb]
   rfl
end
def US {K:PySem.W.Frag} {mg:Str→Option Value} (T:Tp K mg):Sp:=fun vs H Q E=>∃(p:Addr) (w:Int) (hl:HM) (fp:List Addr),vs=[.ref p,.int w]∧ZD T H p hl fp∧hl.belts.length≤1000∧0≤w∧w<hl.names.length∧
 ∀r H' ys,H r=none→Zd H H'→H' r=some (.lst ys)→Y3 H' (takeRow hl.belts w) ys→Q (.ref r) H'
section
variable {P:Program} {w:World} {K:PySem.W.Frag} {mg:Str→Option Value} {base:Heap}
theorem Zbf (T:Tp K mg):Zj P w K mg base (CXX P w) 6 T.f_takes_of T.d_takes_of ["hall","work"] (US T):=by
 have G_Hall_entering:Zj P w K mg base (CXX P w) 5 T.f_Hall_entering T.d_Hall_entering ["self","work"] (Uy T):=(Zbs T).mono (by decide)
 have G_Hall_belt_at:Zj P w K mg base (CXX P w) 5 T.f_Hall_belt_at T.d_Hall_belt_at ["self","belt"] (Vi T):=(UG T).mono (by decide)
 have cl_Hall:=T.cl_Hall
 have na_Hall:=T.na_Hall
 refine T.F_takes_of.okX Zd7 (fun vs H Q E h=>?_) (fun cdv A outer s H vs Q E hr h=>?_)
 ·obtain⟨p,w,hl,fp,rfl,_⟩:=h
  rfl
 ·have hu:=hr.units
  obtain⟨p,w,hl,fp,rfl,hh,hz,w0,w1,q⟩:=h
  refine⟨_,(Ze (ZC (Z7 (xs:=["belt"]) rfl (Z1 (x:="belt") (zs:=["hall"]) (ix:=[0]) (Zh Vw) ["hall","work"] rfl rfl (by decide+kernel)) (ZN (K:=K) rfl (Z8 (pv 0) T.cl_Hall T.M_Hall_entering G_Hall_entering hr T.b_Hall_entering .nil Zn (Za (pv 1) Zb))) (fun cl C s H fp=>⟨(Zk (i:=0) (show(["belt","hall"]:List Str).Nodup by decide+kernel) rfl (Or.inl rfl)),Z6,(VY (Za (pv 0) (Za (ZI (ZS (K:=K) rfl) (Z8 (pv 1) T.cl_Hall T.M_Hall_belt_at G_Hall_belt_at hr T.b_Hall_belt_at .nil WD (Za (pv 0) Zb)) Zf (fun _ _=>rfl)) Zb)))⟩)))),?_⟩
  try dsimp only[L2.cxX,L2.ZL,L2.Zl]
  walk_at "rds"
  refine⟨p,w,hl,fp,rfl,hh,hz,fun z=>absurd ⟨w0,w1⟩ z,fun _ _ e H1 he s1 he1=>?_⟩
  have hh1:=hh.same s1
  have el:=Vh (ls:=hl.belts) (w:=w)
  walk_at "rds"
  refine ZM (own:=1) (ZG (SqL.of he1)).y (Zu (by rw[List.length_map];omega)) (fun i=>[some (.int ((ZE hl.belts w).getD i 0:Nat))]) (fun _=>rfl) (fun _=>true) (fun i v H=>∃t,v=V.ref t∧H t=some (.tup [.int ((ZE hl.belts w).getD i 0:Nat),.int (hl.belts.getD ((ZE hl.belts w).getD i 0) dB).take])) (fun _ _ _ _ e ⟨t,z1,z2⟩=>⟨t,z1,e _ _ z2⟩) (fun i a' H' v H2 Kg hi sm y ha' k=>?_) (fun i H' Kc hi sm k=>?_) (fun pp i H' Kc hi hc hp0 hp1 sm k=>?_) (fun r H' ys hr' sm hl' hR=>?_)
  ·obtain⟨rfl,rfl⟩:=y
   obtain⟨x1,rfl⟩:∃x1,a'=[x1]:=by
    match a',ha' with
    | [x1],_=>exact⟨x1,rfl⟩
   have hi':i<(ZE hl.belts w).length:=by simpa using hi
   have ev:((ZE hl.belts w).map fun i:Nat=>V.int i).getD i .non= .int ((ZE hl.belts w).getD i 0:Nat):=by simp[List.getD,hi']
   rw[ev]
   walk_at "rds"
   exact k _ (Zd.refl _)
  ·walk_at "rds"
   exact k H' (Zd.refl H')
  ·have hi':i<(ZE hl.belts w).length:=by simpa using hi
   have hm:(ZE hl.belts w).getD i 0∈ZE hl.belts w:=by
    have:(ZE hl.belts w).getD i 0=(ZE hl.belts w)[i]:=by simp[List.getD,hi']
    rw[this];exact List.getElem_mem hi'
   have hlt:=Y4 hm
   generalize (ZE hl.belts w).getD i 0=j at*
   have hh2:=hh1.same sm
   walk_at "rds"
   refine⟨p,(j:Int),hl,fp,rfl,hh2,fun z=>absurd ⟨Int.natCast_nonneg j,by omega⟩ z,fun _ _ t b hb ht=>?_⟩
   have hb':hl.belts[j]? =some b:=hb
   have eb:hl.belts.getD j dB=b:=by simp[List.getD,hb']
   rw[eb] at k
   dsimp only[B5.v] at ht
   walk_at "rds"
   refine⟨by show 2≤sizeLine;decide,fun u hu'=>?_⟩
   exact k _ _ (Zo hu') ⟨u,rfl,Uq hp1 hu'⟩
  ·refine q r H' ys ?_ (s1.trans sm) hl' ?_
   ·cases e:H r with
    |none=>rfl
    |some o=>rw[s1 _ _ e] at hr';cases hr'
   ·exact(Zcz hR).keep fun b xs z=>YT _ _ z
end
def V1 {K:PySem.W.Frag} {mg:Str→Option Value} (T:Tp K mg):Sp:=fun vs H Q E=>∃(p:Addr) (w:Int) (v:V) (hl:HM) (fp:List Addr) (fs:List ZT),vs=[.ref p,.int w,v]∧ZD T H p hl fp∧hl.belts.length≤1000∧0≤w∧w<hl.names.length∧U3 H v fs∧U1 hl.belts w fs∧
 ∀H',Zd H H'→Q .non H'
section
variable {P:Program} {w:World} {K:PySem.W.Frag} {mg:Str→Option Value} {base:Heap}
theorem ZaN (T:Tp K mg):Zj P w K mg base (CXX P w) 8 T.f_need_work_forms T.d_need_work_forms ["hall","work","forms"] (V1 T):=by
 have G_given_by:Zj P w K mg base (CXX P w) 7 T.f_given_by T.d_given_by ["hall","work"] (Zbl T):=(Zd6 T).mono (by decide)
 have G_takes_of:Zj P w K mg base (CXX P w) 7 T.f_takes_of T.d_takes_of ["hall","work"] (US T):=(Zbf T).mono (by decide)
 have G_is_number_below:Zj P w K mg base (CXX P w) 7 T.f_is_number_below T.d_is_number_below ["thing","bound"] (Yb T):=(YX T).mono (by decide)
 refine T.F_need_work_forms.okX WI (fun vs H Q E h=>?_) (fun cdv A outer s H vs Q E hr h=>?_)
 ·obtain⟨p,w,v,hl,fp,fs,rfl,_⟩:=h
  rfl
 ·have hu:=hr.units
  obtain⟨p,w,v,hl,fp,fs,rfl,hh,hz,w0,w1,hW,hok,q⟩:=h
  obtain⟨a,vs,rfl,ha,hF⟩:=hW
  have hvl:=Paired.length hF
  have hlen:=hok.len
  have hsT:=SqT.of (K:=K) ha
  refine⟨_,(Zc (ZW (ZP (UD (K:=K) rfl hu) (Zt (Yx (K:=K) rfl) (by rfl) T.n_len PySem.boot_len (Za (pv 2) Zb)) (Zz G_given_by hr rfl T.m_given_by T.F_given_by.kp T.b_given_by .nil Zn (Za (pv 0) (Za (pv 1) Zb))) (ZQ _)) (Ze (Yc T.gx_NoForm T.ex_NoForm PySem.F.excBase_ValueError rfl (Za Yn Zb))) ZJ)
     (Zc (Zs (i:=3) WI.nd rfl (Or.inr rfl) (Zt (Za4 (K:=K) rfl rfl) (by rfl) T.n_sum PyProof.Rows.boot_sum (Za (Z7 (xs:=["belt","take"]) rfl (Z1 (x:="belt") (zs:=[]) (ix:=[]) (Zh Yt) ["hall","work","forms","slots","form"] rfl rfl (by decide+kernel)) (ZN (K:=K) rfl (Zz G_takes_of hr rfl T.m_takes_of T.F_takes_of.kp T.b_takes_of .nil Zn (Za (pv 0) (Za (pv 1) Zb)))) (fun cl C s H fp=>⟨(Yg (K:=K) (n:=2) rfl rfl (Zx (Zk (i:=0) (show(["belt","take"]:List Str).Nodup by decide+kernel) rfl (Or.inl rfl)) (Zx (Zk (i:=1) (show(["belt","take"]:List Str).Nodup by decide+kernel) rfl (Or.inl rfl)) Yh))),Z6,(pv 1)⟩)) Zb)))
     (Ze (Z0 PassesOwn.leaving rfl (VF (K:=K) rfl (pv 2)) (Zk (i:=4) WI.nd rfl (Or.inl rfl)) (Ze (ZW (Yr (Z5 (K:=K) rfl (Zt (Zc6 (K:=K) rfl rfl) (by rfl) T.n_all PyProof.Rows.boot_all (Za (Z7 (xs:=["slot","factor"]) rfl (Z1 (x:="slot") (zs:=["slots"]) (ix:=[3]) (Zh Yt) ["hall","work","forms","slots","form"] rfl rfl (by decide+kernel)) (VF (K:=K) rfl (ZI (ZS (K:=K) rfl) (pv 4) Zf (fun _ _=>rfl))) (fun cl C s H fp=>⟨(Yg (K:=K) (n:=2) rfl rfl (Zx (Zk (i:=0) (show(["slot","factor","slots"]:List Str).Nodup by decide+kernel) rfl (Or.inl rfl)) (Zx (Zk (i:=1) (show(["slot","factor","slots"]:List Str).Nodup by decide+kernel) rfl (Or.inl rfl)) Yh))),Z6,(Zz G_is_number_below hr rfl T.m_is_number_below T.F_is_number_below.kp T.b_is_number_below .nil WD (Za (pv 0) (Za (pv 2) Zb)))⟩)) Zb)) (fun _=>rfl))) (Ze (Yc T.gx_NoForm T.ex_NoForm PySem.F.excBase_ValueError rfl (Za Yn Zb))) ZJ)))))),?_⟩
  try dsimp only[L2.cxX,L2.ZL,L2.Zl]
  walk_at "rds"
  refine⟨p,w,hl,fp,rfl,hh,hz,w0,w1,fun H1 s1=>?_⟩
  have hlen':((vs.length:Nat):Int)=((giveRow hl.belts w).map (·.2)).sum:=by rw[hvl];exact hok.len
  generalize ((giveRow hl.belts w).map (·.2)).sum=gn at*
  have hh1:=hh.same s1
  walk_at "rds"
  refine⟨p,w,hl,fp,rfl,hh1,hz,w0,w1,fun r H2 ys hr s2 hr1 hP=>?_⟩
  have hyl:ys.length=(takeRow hl.belts w).length:=(Paired.length hP).symm
  have hgl:(takeRow hl.belts w).length≤1000:=Nat.le_trans Zbk hz
  have hsn:slotN hl.belts w=((takeRow hl.belts w).map (·.2)).sum:=rfl
  generalize takeRow hl.belts w=gr at*
  have hrq:=SqL.of (K:=K) hr1
  walk_at "rds"
  refine ZM (own:=2) (ZG hrq).y (Zu (by omega)) (fun i=>[some (.int (gr.getD i (0,0)).1),some (.int (gr.getD i (0,0)).2)]) (fun _=>rfl) (fun _=>true) (fun i v _=>v= .int (gr.getD i (0,0)).2) (fun _ _ _ _ _ z=>z) (fun i a' H' v H3 Kg hi sm y ha' k=>?_) (fun i H' Kc hi sm k=>?_) (fun pp i H' Kc hi hci hp0 hp1 sm k=>?_) (fun d H3 zs hd sm hl' hR=>?_)
  ·obtain⟨rfl,rfl⟩:=y
   obtain⟨x1,x2,rfl⟩:∃x1 x2,a'=[x1,x2]:=by
    match a',ha' with
    | [x1,x2],_=>exact⟨x1,x2,rfl⟩
   obtain⟨t,et,ht⟩:=Zam hP (i:=i) (by omega)
   rw[et]
   refine Rd.Ww (.of (sm _ _ ht)) rfl ?_
   walk_at "rds"
   exact k _ (Zd.refl _)
  ·walk_at "rds"
   exact k H' (Zd.refl H')
  ·walk_at "rds"
   exact k _ H' (Zd.refl H') rfl
  ·rw[List.filter_eq_self.mpr (by simp),hyl] at hR
   have ey:=Yo hR
   rw[YW (fun t:Int×Int=>t.2)] at ey
   have hds:=SqL.of (K:=K) (ey▸hl')
   walk_at "rds"
   refine⟨d,_,rfl,hds,?_⟩
   rw[←hsn]
   have hfo:=hok.ok
   generalize slotN hl.belts w=sn at*
   have s13:=s1.trans (s2.trans sm)
   have ha3:=s13 _ _ ha
   have hsT3:=SqT.of (K:=K) ha3
   walk_at "rds"
   unfold Zan
   walk_at "rds"
   refine⟨a,rfl,⟨_,hsT3⟩,?_⟩
   refine Yf (WQ hsT3) (fun i σ H'=>Zd H3 H'∧∃a1,σ=[some (.ref p),some (.int w),some (.ref a),some (.int sn),a1]) ⟨Zd.refl _,_,rfl⟩ (fun i σ H' h=>h.1) ?_ ?_
   ·rintro i σ H4 hi ⟨s4,a1,rfl⟩
    have hil:i<fs.length:=by omega
    obtain⟨fa,tm,tvs,ea,hfa,htm,hT⟩:=YB (d:=V.non) (e:=((0,[]):ZT)) hF hil
    rw[ea]
    have hf:=hfo (fs.getD i (0,[])) (by rw[ZF hil];exact List.getElem_mem _)
    generalize fs.getD i (0,[])=f at*
    have s04:=s13.trans s4
    have hfa4:=s04 _ _ hfa
    have htm4:=s04 _ _ htm
    have hst4:=SqT.of (K:=K) htm4
    have htl:=hT.length
    have hfew:=hf.few
    walk_at "rds"
    try unfold Zan
    try walk_at "rds"
    refine⟨tm,rfl,⟨_,hst4⟩,?_⟩
    refine ZM (own:=2) (WQ hst4).y (Zu (by omega)) (fun i=>[some (.int (f.2.getD i (0,0)).1),some (.int (f.2.getD i (0,0)).2)]) (fun _=>rfl) (fun _=>true) (fun i v _=>v= .bl (decide (0≤(f.2.getD i (0,0)).1∧(f.2.getD i (0,0)).1<sn))) (fun _ _ _ _ _ z=>z) (fun i a' H' v H3 Kg hi sm y ha' k=>?_) (fun i H' Kc hi sm k=>?_) (fun pp i H' Kc hi hci hp0 hp1 sm k=>?_) (fun d H5 zs hd sm5 hl5 hR5=>?_)
    ·obtain⟨rfl,rfl⟩:=y
     obtain⟨x1,x2,rfl⟩:∃x1 x2,a'=[x1,x2]:=by
      match a',ha' with
      | [x1,x2],_=>exact⟨x1,x2,rfl⟩
     obtain⟨t,et,ht⟩:=hT.getD (i:=i) (by omega)
     rw[et]
     refine Rd.Ww (.of (sm _ _ (s04 _ _ ht))) rfl ?_
     walk_at "rds"
     exact k _ (Zd.refl _)
    ·walk_at "rds"
     exact k H' (Zd.refl H')
    ·walk_at "rds"
     exact k _ H' (Zd.refl H') rfl
    ·rw[List.filter_eq_self.mpr (by simp),htl] at hR5
     have ey5:=Ut hR5
     have hds5:=SqL.of (K:=K) (ey5▸hl5)
     have hall:(((List.range f.2.length).map fun i=>decide (0≤(f.2.getD i (0,0)).1∧(f.2.getD i (0,0)).1<sn)).all id)=true:=ZaA.mpr fun i hi=>by
      have:=hf.ter (f.2.getD i (0,0)) (by rw[ZF hi];exact List.getElem_mem _)
      exact⟨this.1,this.2.1⟩
     generalize (List.range f.2.length).map (fun i=>decide (0≤(f.2.getD i (0,0)).1∧(f.2.getD i (0,0)).1<sn))=bs at*
     walk_at "rds"
     rw[hall]
     walk_at "rds"
     exact⟨s4.trans sm5,_,rfl⟩
   ·rintro σ H4 ⟨s4,a1,rfl⟩
    walk_at "rds"
    exact q H4 (s13.trans s4)
end
def Zav {K:PySem.W.Frag} {mg:Str→Option Value} (T:Tp K mg):Sp:=fun vs H Q E=>∃(p c:Addr) (hl:HM) (fp:List Addr) (vs':List V) (fss:List (List ZT)),vs=[.ref p,.ref c]∧ZD T H p hl fp∧hl.belts.length≤1000∧hl.names.length≤1000∧SqL K H c vs'∧YR H vs' fss∧fss.length=hl.names.length∧(∀i<fss.length,U1 hl.belts i (fss.getD i []))∧
 ∀H',Zd H H'→Q .non H'
section
variable {P:Program} {w:World} {K:PySem.W.Frag} {mg:Str→Option Value} {base:Heap}
theorem Zc0 (T:Tp K mg):Zj P w K mg base (CXX P w) 9 T.f_need_forms T.d_need_forms ["hall","forms"] (Zav T):=by
 have G_need_work_forms:Zj P w K mg base (CXX P w) 8 T.f_need_work_forms T.d_need_work_forms ["hall","work","forms"] (V1 T):=(ZaN T).mono (by decide)
 have G_Hall_names:Zj P w K mg base (CXX P w) 8 T.f_Hall_names T.d_Hall_names ["self"] (W4 T):=(V8 T).mono (by decide)
 have cl_Hall:=T.cl_Hall
 have na_Hall:=T.na_Hall
 refine T.F_need_forms.okX V4 (fun vs H Q E h=>?_) (fun cdv A outer s H vs Q E hr h=>?_)
 ·obtain⟨p,c,hl,fp,vs',fss,rfl,_⟩:=h
  rfl
 ·have hu:=hr.units
  obtain⟨p,c,hl,fp,vs',fss,rfl,hh,hz,hnz,hc,hF,hlen,hok,q⟩:=h
  have hvl:=Paired.length hF
  refine⟨_,(Zc (ZW (ZP (UD (K:=K) rfl hu) (Zt (Yx (K:=K) rfl) (by rfl) T.n_len PySem.boot_len (Za (pv 1) Zb)) (Zt (Yx (K:=K) rfl) (by rfl) T.n_len PySem.boot_len (Za (Wa (pv 0) T.cl_Hall T.M_Hall_names G_Hall_names hr T.b_Hall_names .nil Zn) Zb)) (ZQ _)) (Ze (Yc T.gx_NoForm T.ex_NoForm PySem.F.excBase_ValueError rfl (Za Yn Zb))) ZJ)
     (Ze (Z0 PassesOwn.leaving rfl (VG (K:=K) rfl rfl T.n_enumerate (Za (pv 1) Zb)) (Yg (K:=K) (n:=2) rfl rfl (Zx (Zk (i:=2) V4.nd rfl (Or.inl rfl)) (Zx (Zk (i:=3) V4.nd rfl (Or.inl rfl)) Yh))) (Ze (ZK (Zz G_need_work_forms hr rfl T.m_need_work_forms T.F_need_work_forms.kp T.b_need_work_forms .nil Zn (Za (pv 0) (Za (pv 2) (Za (pv 3) Zb))))))))),?_⟩
  try dsimp only[L2.cxX,L2.ZL,L2.Zl]
  walk_at "rds"
  refine⟨p,hl,fp,rfl,hh,fun r H1 hr s1 hr1=>?_⟩
  have hr1q:=SqL.of (K:=K) hr1
  have hc1:=s1.seq hc
  have hnl:(vs'.length:Int)=((hl.names.map V.str).length:Int):=by rw[List.length_map];omega
  walk_at "rds"
  refine V0 (Wt hc1) (fun i σ H'=>Zd H1 H'∧∃a1 a2,σ=[some (.ref p),some (.ref c),a1,a2]) ⟨Zd.refl _,_,_,rfl⟩ (fun i σ H' h=>h.1) ?_ ?_
  ·rintro i σ H2 v H3 hi ⟨s2,a1,a2,rfl⟩ ⟨t,ht,rfl,rfl⟩
   have s3:Zd H2 (upd H2 t (.tup [.int i,vs'.getD i .non])):=Zo ht
   have v3:(upd H2 t (.tup [.int i,vs'.getD i .non])) t=some (.tup [.int i,vs'.getD i .non]):=Zg
   generalize upd H2 t (.tup [.int i,vs'.getD i .non])=H3 at*
   have s03:=s1.trans (s2.trans s3)
   refine Rd.Ww (.of v3) rfl ?_
   have hw:=(YB (d:=V.non) (e:=([]:List ZT)) hF (i:=i) (by omega)).keep (fun b xs e=>s03 _ _ e)
   generalize vs'.getD i .non=u at*
   walk_at "rds"
   refine⟨p,i,u,hl,fp,_,rfl,hh.same s03,hz,by omega,by omega,hw,hok i (by omega),fun H4 s4=>?_⟩
   walk_at "rds"
   exact⟨s2.trans (s3.trans s4),_,_,rfl⟩
  ·rintro σ H2 ⟨s2,a1,a2,rfl⟩
   walk_at "rds"
   exact q H2 (s1.trans s2)
end
def Wz {K:PySem.W.Frag} {mg:Str→Option Value} (T:Tp K mg):Sp:=fun vs H Q _=>∃(p:Addr) (hl:HM) (fp:List Addr),vs=[.ref p]∧ZD T H p hl fp∧
 ∀(q:Addr) (H':Hp) (bs:List V),H q=none→Zd H H'→H' q=some (.lst bs)→YJ H' bs hl.belts→Q (.ref q) H'
theorem Zc4 {K:PySem.W.Frag} {mg:Str→Option Value} {T:Tp K mg} {H:Hp} {Q:VK} {E:XK} {p:Addr} {hl:HM} {fp:List Addr} (h:ZD T H p hl fp)
  (q:∀(q:Addr) (H':Hp) (bs:List V),H q=none→Zd H H'→H' q=some (.lst bs)→YJ H' bs hl.belts→Q (.ref q) H'):Wz T (.ref p::([]++ [])) H Q E:=⟨p,hl,fp,rfl,h,q⟩
local macro_rules| `(tactic|walk_at "rd")=>`(tactic|first|((with_reducible show Nm.Wz _ _ _ _ _);with_reducible refine Nm.Zc4 (by with_reducible assumption) ?_)|fail "none here")
section
variable {P:Program} {w:World} {K:PySem.W.Frag} {mg:Str→Option Value} {base:Heap}
theorem Zap (T:Tp K mg):Zj P w K mg base (CXX P w) 1 T.f_Hall_belts T.d_Hall_belts ["self"] (Wz T):=by
 have cl_Hall:=T.cl_Hall
 have na_Hall:=T.na_Hall
 refine T.F_Hall_belts.okX ZcX (fun vs H Q E h=>?_) (fun cdv A outer s H vs Q E hr h=>?_)
 ·obtain⟨p,hl,fp,rfl,_⟩:=h
  rfl
 ·have hu:=hr.units
  obtain⟨p,hl,fp,rfl,hh,q⟩:=h
  obtain⟨dx,a,b,bs,rfl,h1,h2,h3,h4,nab,h6⟩:=id hh
  refine⟨_,(Ze (ZC (Ya (Y8 (K:=K) rfl) (by rfl) T.n_list PyProof.Rows.boot_list (Za (ZH (K:=K) rfl (pv 0) rfl) Zb)))),?_⟩
  try dsimp only[L2.cxX,L2.ZL,L2.Zl]
  walk_at "rds"
  refine Rd.Zcc (.of h4) (fun l hl'=>?_)
  exact q l _ bs hl' (Zo hl') Zg (h6.keep ((Zo hl').frame (A:=[])).tups)
end
def ZaU {K:PySem.W.Frag} {mg:Str→Option Value} (T:Tp K mg):Sp:=fun vs H Q _=>∃(p:Addr) (hl:HM) (fp:List Addr),vs=[.ref p]∧ZD T H p hl fp∧hl.belts.length≤1000∧
 ∀(r:Addr) (H':Hp),H r=none→Zd H H'→H' r=some (.lst ((startsL hl.belts).map V.int))→Q (.ref r) H'
section
variable {P:Program} {w:World} {K:PySem.W.Frag} {mg:Str→Option Value} {base:Heap}
theorem ZdX (T:Tp K mg):Zj P w K mg base (CXX P w) 2 T.f_starts_of T.d_starts_of ["hall"] (ZaU T):=by
 have G_Hall_belts:Zj P w K mg base (CXX P w) 1 T.f_Hall_belts T.d_Hall_belts ["self"] (Wz T):=(Zap T).mono (by decide)
 have cl_Hall:=T.cl_Hall
 have na_Hall:=T.na_Hall
 refine T.F_starts_of.okX ZdA (fun vs H Q E h=>?_) (fun cdv A outer s H vs Q E hr h=>?_)
 ·obtain⟨p,hl,fp,rfl,_⟩:=h
  rfl
 ·have hu:=hr.units
  obtain⟨p,hl,fp,rfl,hh,hz,q⟩:=h
  refine⟨_,(Ze (ZC (Zci rfl (Z1 (x:="row") (zs:=[]) (ix:=[]) (Zh W0) ["hall"] rfl rfl (by decide+kernel)) (ZN (K:=K) rfl (Wa (pv 0) T.cl_Hall T.M_Hall_belts G_Hall_belts hr T.b_Hall_belts .nil Zn)) (fun cl C s H fp=>⟨(Zk (i:=0) (show(["row"]:List Str).Nodup by decide+kernel) rfl (Or.inl rfl)),Z6,(ZI (ZS (K:=K) rfl) (pv 0) Zf (fun _ _=>rfl))⟩)))),?_⟩
  try dsimp only[L2.cxX,L2.ZL,L2.Zl]
  walk_at "rds"
  intro u H1 bs hu0 sm1 hu1 hT
  have hl1:=hT.length
  have hb:bs.length<sizeLine:=Zu (by rw[hl1];exact hz)
  walk_at "rds"
  refine ZaH (ZG (SqL.of hu1)) hb (fun _=>true) (fun i=> .int (hl.belts.getD i dB).start) (fun i H' Kc hi sm k=>?_) (fun i H' Kc hi _ sm k=>?_) (fun r H' hr sm hr'=>?_)
  ·walk_at "rds"
   exact k H' (Zd.refl H')
  ·have hil:i<hl.belts.length:=by omega
   obtain⟨t,ht1,ht2⟩:=hT.getD (i:=i) hil
   rw[ht1]
   have ht3:=sm _ _ ht2
   generalize hl.belts.getD i dB=bb at*
   dsimp only[B5.v] at ht3
   walk_at "rds"
   exact k H' (Zd.refl H')
  ·refine q r H' (Z2 sm1 hr) (sm1.trans sm) ?_
   rw[hr',List.filter_eq_self.mpr (by simp),hl1]
   unfold startsL
   refine congrArg (fun z=>some (HO.lst z)) ?_
   refine List.ext_getElem (by simp) fun i h1 h2=>?_
   have:i<hl.belts.length:=by simpa using h1
   simp[List.getD,this]
end
def U8 {K:PySem.W.Frag} {mg:Str→Option Value} (T:Tp K mg):Sp:=fun vs H Q E=>∃(p c:Addr) (hl:HM) (fp:List Addr) (ys:List V) (xss:List (List Int)),vs=[.ref p,.ref c]∧ZD T H p hl fp∧hl.belts.length≤1000∧H c=some (.lst ys)∧ZV H ys xss∧xss.length≤1000∧
 (¬VI xss (startsL hl.belts)→∀H',Zd H H'→E (.ref T.X_NoPieces) none H')∧(VI xss (startsL hl.belts)→∀H',Zd H H'→Q .non H')
section
variable {P:Program} {w:World} {K:PySem.W.Frag} {mg:Str→Option Value} {base:Heap}
theorem Zcn (T:Tp K mg):Zj P w K mg base (CXX P w) 3 T.f_need_pieces T.d_need_pieces ["hall","pieces"] (U8 T):=by
 have G_starts_of:Zj P w K mg base (CXX P w) 2 T.f_starts_of T.d_starts_of ["hall"] (ZaU T):=(ZdX T).mono (by decide)
 refine T.F_need_pieces.okX UV (fun vs H Q E h=>?_) (fun cdv A outer s H vs Q E hr h=>?_)
 ·obtain⟨p,c,hl,fp,ys,xss,rfl,_⟩:=h
  rfl
 ·have hu:=hr.units
  obtain⟨p,c,hl,fp,ys,xss,rfl,hh,hz,hc,hR,hxz,e1,q⟩:=h
  have hyl:=hR.length
  refine⟨_,(Zc (Zs (i:=2) UV.nd rfl (Or.inl rfl) (Zz G_starts_of hr rfl T.m_starts_of T.F_starts_of.kp T.b_starts_of .nil Zn (Za (pv 0) Zb)))
     (Zc (ZW (ZP (UD (K:=K) rfl hu) (Zt (Yx (K:=K) rfl) (by rfl) T.n_len PySem.boot_len (Za (pv 1) Zb)) (Zt (Yx (K:=K) rfl) (by rfl) T.n_len PySem.boot_len (Za (pv 2) Zb)) (ZQ _)) (Ze (Yc T.gx_NoPieces T.ex_NoPieces PySem.F.excBase_ValueError rfl (Za Yn Zb))) ZJ)
     (Ze (ZW (Yr (Z5 (K:=K) rfl (Zt (Zc6 (K:=K) rfl rfl) (by rfl) T.n_all PyProof.Rows.boot_all (Za (Z7 (xs:=["lying","start"]) rfl (Z1 (x:="lying") (zs:=[]) (ix:=[]) (Zh Wy) ["hall","pieces","starts"] rfl rfl (by decide+kernel)) (ZhZ (K:=K) rfl rfl T.n_zip (Za (pv 1) (Za (pv 2) Zb))) (fun cl C s H fp=>⟨(Yg (K:=K) (n:=2) rfl rfl (Zx (Zk (i:=0) (show(["lying","start"]:List Str).Nodup by decide+kernel) rfl (Or.inl rfl)) (Zx (Zk (i:=1) (show(["lying","start"]:List Str).Nodup by decide+kernel) rfl (Or.inl rfl)) Yh))),Z6,(VD (YD (K:=K) rfl hu) (Zt (Yx (K:=K) rfl) (by rfl) T.n_len PySem.boot_len (Za (pv 0) Zb)) (pv 1) (ZQ _))⟩)) Zb)) (fun _=>rfl))) (Ze (Yc T.gx_NoPieces T.ex_NoPieces PySem.F.excBase_ValueError rfl (Za Yn Zb))) ZJ)))),?_⟩
  try dsimp only[L2.cxX,L2.ZL,L2.Zl]
  walk_at "rds"
  refine⟨p,hl,fp,rfl,hh,hz,fun r H1 hr s1 hr1=>?_⟩
  have hc1:=SqL.of (K:=K) (s1 _ _ hc)
  have hs1:=SqL.of (K:=K) hr1
  have hR1:=hR.same s1
  generalize startsL hl.belts=ss at*
  walk_at "rds"
  by_cases hlen:xss.length=ss.length
  ·rw[if_neg (by simp;omega)]
   walk_at "rds"
   refine⟨c,r,rfl,⟨_,hc1⟩,⟨_,hs1⟩,?_⟩
   refine ZM (own:=2) (ZfI hc1 hs1 (by simp;omega)) (Zu (by omega)) (fun i=>[some (ys.getD i .non),some (.int (ss.getD i 0))]) (fun _=>rfl) (fun _=>true) (fun i v _=>v= .bl (decide (((xss.getD i []).length:Int)=ss.getD i 0))) (fun _ _ _ _ _ z=>z) (fun i a' H' v H3 Kg hi sm y ha' k=>?_) (fun i H' Kc hi sm k=>?_) (fun pp i H' Kc hi hci hp0 hp1 sm k=>?_) (fun d H3 zs hd sm hl' hR3=>?_)
   ·obtain⟨t,ht,rfl,rfl⟩:=y
    obtain⟨x1,x2,rfl⟩:∃x1 x2,a'=[x1,x2]:=by
     match a',ha' with
     | [x1,x2],_=>exact⟨x1,x2,rfl⟩
    have hi2:i<ss.length:=by omega
    have ev2:(ss.map V.int).getD i .non= .int (ss.getD i 0):=by rw[ZF hi2];simp[List.getD,hi2]
    rw[ev2]
    refine Rd.Ww (.of Zg) rfl ?_
    walk_at "rds"
    exact k _ (Zo ht)
   ·walk_at "rds"
    exact k H' (Zd.refl H')
   ·obtain⟨t,et,ht⟩:=YG hR1 (i:=i) (by omega)
    rw[et]
    have hts:=SqL.of (K:=K) (sm _ _ ht)
    walk_at "rds"
    refine k _ H' (Zd.refl H') ?_
    rw[List.length_map]
   ·rw[List.filter_eq_self.mpr (by simp),hyl] at hR3
    have ey:=Ut hR3
    have hds:=SqL.of (K:=K) (ey▸hl')
    have s03:=s1.trans sm
    walk_at "rds"
    by_cases hall:VI xss ss
    ·rw[ZaA.mpr hall.2]
     walk_at "rds"
     exact q hall _ s03
    ·have hf:(((List.range xss.length).map fun i=>decide (((xss.getD i []).length:Int)=ss.getD i 0)).all id)=false:=by
      cases e:(((List.range xss.length).map fun i=>decide (((xss.getD i []).length:Int)=ss.getD i 0)).all id) with
      |false=>rfl
      |true=>exact absurd ⟨hlen,ZaA.mp e⟩ hall
     rw[hf]
     walk_at "rds"
     exact e1 hall _ s03
  ·rw[if_pos (by simp;omega)]
   walk_at "rds"
   exact e1 (fun z=>hlen z.1) _ s1
end
def V2 {K:PySem.W.Frag} {mg:Str→Option Value} (T:Tp K mg):Sp:=fun vs H Q E=>∃(p dx h:Addr) (hl:HM) (fp:List Addr),vs=[.ref p,.ref h]∧H p=some (.ins T.C_Floor dx [])∧H dx=some (.own p)∧ZD T H h hl fp∧hl.names.length≤1000∧hl.belts.length≤1000∧
 ∀(H':Hp) (fp':List Addr),Yk T H' p ⟨hl.names.length,hl.belts,hl.belts.map B5.start⟩ fp'→(∀x∈fp',x=p∨x=dx∨H x=none)→(∀b o,H b=some o→b≠p→H' b=some o)→Q .non H'
theorem ZcT {K:PySem.W.Frag} {mg:Str→Option Value} {T:Tp K mg} {H:Hp} {h:Addr} {hl:HM} {fp:List Addr} {Q:Addr→Hp→Prop} {E:XK} (hh:ZD T H h hl fp) (hn:hl.names.length≤1000) (hb:hl.belts.length≤1000)
  (q:∀(p:Addr) (fp':List Addr) (H':Hp),Yk T H' p ⟨hl.names.length,hl.belts,hl.belts.map B5.start⟩ fp'→(∀x∈fp',H x=none)→Zd H H'→Q p H'):
  ∀x dx,H x=none→H dx=none→dx≠x→V2 T (.ref x::([.ref h]++ [])) (upd (upd H dx (.own x)) x (.ins T.C_Floor dx [])) (fun v H2=>v= .non∧Q x H2) E:=by
 intro x dx hx hdx ne
 have sm:Zd H (upd (upd H dx (.own x)) x (.ins T.C_Floor dx [])):=fun b o e=>by rw[Zi (Zq e hx),Zi (Zq e hdx)];exact e
 refine⟨x,dx,h,hl,fp,rfl,Zg,by rw[Zi ne,Zg],hh.same sm,hn,hb,fun H' fp' hh hf hk=>⟨rfl,q x fp' H' hh (fun y hy=>?_) (fun b o e=>hk b o (sm b o e) (Zq e hx))⟩⟩
 rcases hf y hy with rfl|rfl|h
 ·exact hx
 ·exact hdx
 ·by_cases h1:y=x
  ·rw[h1];exact hx
  ·by_cases h2:y=dx
   ·rw[h2];exact hdx
   ·rw[Zi h1,Zi h2] at h
    exact h
theorem Zhc {H0 H:Hp} {n:Nat} {r:Addr} {f:Int→List (Int×Int)} {ys:List V} (h:Paired (fun(i:Nat) v=>∃x vs,v=V.ref x∧H0 x=none∧(hid H r) x=some (.lst vs)∧Y3 (hid H r) (f (0+(i:Int))) vs) ((List.range n).filter fun _=>true) ys):
  ∃ia:List Addr,ys=ia.map V.ref∧(∀x∈ia,H0 x=none∧x≠r)∧LL H ((List.range n).map fun w:Nat=>f w) ia:=by
 rw[List.filter_eq_self.mpr (by simp)] at h
 generalize List.range n=is at h
 induction h with
 |nil=>exact⟨[],rfl,by simp,.nil⟩
 | @cons i v is ys hh t ih=>
  obtain⟨ia,e,d,l⟩:=ih
  obtain⟨x,vs,rfl,h0,h1,h2⟩:=hh
  rw[Int.zero_add] at h2
  have nx:x≠r:=fun z=>by rw[z,Ws] at h1;cases h1
  refine⟨x::ia,by rw[e];rfl,fun y hy=>?_,.cons ⟨vs,YT _ _ h1,h2.keep fun b xs z=>YT _ _ z⟩ l⟩
  rcases List.mem_cons.mp hy with rfl|hy
  ·exact⟨h0,nx⟩
  ·exact d y hy
section
variable {P:Program} {w:World} {K:PySem.W.Frag} {mg:Str→Option Value} {base:Heap}
theorem ZcY (T:Tp K mg):Zj P w K mg base (CXX P w) 7 T.f_Floor_init T.d_Floor_init ["self","hall"] (V2 T):=by
 have G_takes_of:Zj P w K mg base (CXX P w) 6 T.f_takes_of T.d_takes_of ["hall","work"] (US T):=(Zbf T).mono (by decide)
 have G_gives_of:Zj P w K mg base (CXX P w) 6 T.f_gives_of T.d_gives_of ["hall","work"] (UR T):=(Zbp T).mono (by decide)
 have G_Hall_names:Zj P w K mg base (CXX P w) 6 T.f_Hall_names T.d_Hall_names ["self"] (W4 T):=(V8 T).mono (by decide)
 have G_Hall_belts:Zj P w K mg base (CXX P w) 6 T.f_Hall_belts T.d_Hall_belts ["self"] (Wz T):=(Zap T).mono (by decide)
 have cl_Floor:=T.cl_Floor
 have na_Floor:=T.na_Floor
 have cl_Hall:=T.cl_Hall
 have na_Hall:=T.na_Hall
 refine T.F_Floor_init.okX Zar (fun vs H Q E h=>?_) (fun cdv A outer s H vs Q E hr h=>?_)
 ·obtain⟨p,dx,h,hl,fp,rfl,_⟩:=h
  rfl
 ·have hu:=hr.units
  obtain⟨p,dx,ha,hl,fp,rfl,hp,hdx,hh,hn,hbz,q⟩:=h
  have nph:p∉fp:=by
   intro z
   obtain⟨dx',a,b,bs,rfl,h1,h2,h3,h4,nab,h6⟩:=hh
   simp only[List.mem_cons,List.not_mem_nil,or_false] at z
   rcases z with rfl|rfl|rfl|rfl
   ·rw[h1] at hp
    injection hp with e
    injection e with e1 e2 e3
    cases e3
   ·rw[h2] at hp;cases hp
   ·rw[h3] at hp;cases hp
   ·rw[h4] at hp;cases hp
  refine⟨_,(Zc (Zs (i:=2) Zar.nd rfl (Or.inl rfl) (Zt (Yx (K:=K) rfl) (by rfl) T.n_len PySem.boot_len (Za (Wa (pv 1) T.cl_Hall T.M_Hall_names G_Hall_names hr T.b_Hall_names .nil Zn) Zb)))
     (Zc (YN (K:=K) rfl (pv 0) (Z7 (xs:=["work"]) rfl (Z1 (x:="work") (zs:=["hall"]) (ix:=[1]) (Zh YV) ["self","hall","works"] rfl rfl (by decide+kernel)) (YF rfl T.n_range (Za (pv 2) Zb)) (fun cl C s H fp=>⟨(Zk (i:=0) (show(["work","hall"]:List Str).Nodup by decide+kernel) rfl (Or.inl rfl)),Z6,(Zz G_takes_of hr rfl T.m_takes_of T.F_takes_of.kp T.b_takes_of .nil WD (Za (pv 1) (Za (pv 0) Zb)))⟩)) rfl)
     (Zc (YN (K:=K) rfl (pv 0) (Z7 (xs:=["work"]) rfl (Z1 (x:="work") (zs:=["hall"]) (ix:=[1]) (Zh YV) ["self","hall","works"] rfl rfl (by decide+kernel)) (YF rfl T.n_range (Za (pv 2) Zb)) (fun cl C s H fp=>⟨(Zk (i:=0) (show(["work","hall"]:List Str).Nodup by decide+kernel) rfl (Or.inl rfl)),Z6,(Zz G_gives_of hr rfl T.m_gives_of T.F_gives_of.kp T.b_gives_of .nil WD (Za (pv 1) (Za (pv 0) Zb)))⟩)) rfl)
     (Ze (YN (K:=K) rfl (pv 0) (Zci rfl (Z1 (x:="row") (zs:=[]) (ix:=[]) (Zh YV) ["self","hall","works"] rfl rfl (by decide+kernel)) (ZN (K:=K) rfl (Wa (pv 1) T.cl_Hall T.M_Hall_belts G_Hall_belts hr T.b_Hall_belts .nil Zn)) (fun cl C s H fp=>⟨(Zk (i:=0) (show(["row"]:List Str).Nodup by decide+kernel) rfl (Or.inl rfl)),Z6,(ZI (ZS (K:=K) rfl) (pv 0) Zf (fun _ _=>rfl))⟩)) rfl))))),?_⟩
  try dsimp only[L2.cxX,L2.ZL,L2.Zl]
  walk_at "rds"
  refine⟨ha,hl,fp,rfl,hh,fun nm H1 hnm s1 hnm1=>?_⟩
  have hh1:=hh.same s1
  have hp1:=s1 _ _ hp
  have hd1:=s1 _ _ hdx
  have nml:(hl.names.map V.str).length=hl.names.length:=by simp
  walk_at "rds"
  refine ZM (own:=1) UN.y (Zu (by rw[nml];exact hn)) (fun i=>[some (.int (0+(i:Int)))]) (fun _=>rfl) (fun _=>true) (fun(i:Nat) v H2=>∃x vs,v=V.ref x∧H1 x=none∧H2 x=some (.lst vs)∧Y3 H2 (takeRow hl.belts (0+(i:Int))) vs) (fun _ _ _ _ e ⟨x,vs,z1,z2,z3,z4⟩=>⟨x,vs,z1,z2,e _ _ z3,z4.keep fun _ _ z=>e _ _ z⟩) (fun i a' H' v H2 Kg hi sm y ha' k=>?_) (fun i H' Kc hi sm k=>?_) (fun pp i H' Kc hi hc hp0 hp1' sm k=>?_) (fun ra H2 ys hra s2 hra2 hR=>?_)
  ·obtain⟨rfl,rfl⟩:=y
   obtain⟨x1,rfl⟩:∃x1,a'=[x1]:=by
    match a',ha' with
    | [x1],_=>exact⟨x1,rfl⟩
   walk_at "rds"
   exact k _ (Zd.refl _)
  ·walk_at "rds"
   exact k H' (Zd.refl H')
  ·walk_at "rds"
   refine⟨ha,0+(i:Int),hl,fp,rfl,hh1.same sm,hbz,by omega,by omega,fun x H3 vs hx s3 hx3 hP=>?_⟩
   refine k _ H3 s3 ⟨x,vs,rfl,?_,ZfK hp1' hx hx3,hP.keep fun b xs z=>Zdv hp1' s3 z⟩
   cases e:H1 x with
   |none=>rfl
   |some o=>rw[sm _ _ e] at hx;cases hx
  obtain⟨ia,rfl,hia,hLa⟩:=Zhc hR
  rw[nml,Int.toNat_natCast] at hLa
  have hp2:=s2 _ _ hp1
  have hd2:=s2 _ _ hd1
  have hh2:=hh1.same s2
  have npd:p≠dx:=WH hp hdx (by intro z;cases z)
  have npra:p≠ra:=WH hp2 hra2 (by intro z;cases z)
  have fr0:∀{x:Addr},H1 x=none→H x=none:=fun{x} hx=>by
   cases e:H x with
   |none=>rfl
   |some o=>rw[s1 _ _ e] at hx;cases hx
  walk_at "rds"
  have f3:Zp [p] H2 (upd H2 p (.ins T.C_Floor dx [("takes",.ref ra)])):=ZR (by simp) hp2 (by intro _ z;cases z)
  have hp3:(upd H2 p (.ins T.C_Floor dx [("takes",.ref ra)])) p=some (.ins T.C_Floor dx [("takes",.ref ra)]):=Zg
  have hd3:=f3.keep _ _ hd2 (by simpa using npd.symm)
  have hra3:=f3.keep _ _ hra2 (by simpa using npra.symm)
  have hh3:=hh2.off f3 (fun x hx z=>nph (by rw[←List.mem_singleton.mp z];exact hx))
  have nia:∀x∈ia,x≠p:=fun x hx z=>by
   have:=(hia x hx).1
   rw[z,hp1] at this
   cases this
  have hLa3:LL (upd H2 p (.ins T.C_Floor dx [("takes",.ref ra)])) _ ia:=hLa.keep f3.tups (fun x hx=>Zi (nia x hx))
  have k3:∀b o,H b=some o→b≠p→(upd H2 p (.ins T.C_Floor dx [("takes",.ref ra)])) b=some o:=fun b o e n=>f3.keep _ _ (s2 _ _ (s1 _ _ e)) (by simpa using n)
  generalize upd H2 p (.ins T.C_Floor dx [("takes",.ref ra)])=H3 at*
  clear f3
  walk_at "rds"
  refine ZM (own:=1) UN.y (Zu (by rw[nml];exact hn)) (fun i=>[some (.int (0+(i:Int)))]) (fun _=>rfl) (fun _=>true) (fun(i:Nat) v H2=>∃x vs,v=V.ref x∧H3 x=none∧H2 x=some (.lst vs)∧Y3 H2 (giveRow hl.belts (0+(i:Int))) vs) (fun _ _ _ _ e ⟨x,vs,z1,z2,z3,z4⟩=>⟨x,vs,z1,z2,e _ _ z3,z4.keep fun _ _ z=>e _ _ z⟩) (fun i a' H' v H2 Kg hi sm y ha' k=>?_) (fun i H' Kc hi sm k=>?_) (fun pp i H' Kc hi hc hp0 hp1' sm k=>?_) (fun rb H4 ys hrb s4 hrb4 hR4=>?_)
  ·obtain⟨rfl,rfl⟩:=y
   obtain⟨x1,rfl⟩:∃x1,a'=[x1]:=by
    match a',ha' with
    | [x1],_=>exact⟨x1,rfl⟩
   walk_at "rds"
   exact k _ (Zd.refl _)
  ·walk_at "rds"
   exact k H' (Zd.refl H')
  ·walk_at "rds"
   refine⟨ha,0+(i:Int),hl,fp,rfl,hh3.same sm,hbz,by omega,by omega,fun x H5 vs hx s5 hx5 hP=>?_⟩
   refine k _ H5 s5 ⟨x,vs,rfl,?_,ZfK hp1' hx hx5,hP.keep fun b xs z=>Zdv hp1' s5 z⟩
   cases e:H3 x with
   |none=>rfl
   |some o=>rw[sm _ _ e] at hx;cases hx
  obtain⟨ib,rfl,hib,hLb⟩:=Zhc hR4
  rw[nml,Int.toNat_natCast] at hLb
  have hp4:=s4 _ _ hp3
  have hd4:=s4 _ _ hd3
  have hra4:=s4 _ _ hra3
  have hh4:=hh3.same s4
  have hLa4:LL H4 _ ia:=hLa3.keep (fun b xs z=>s4 _ _ z) (fun x hx=>by
   cases e:H3 x with
   |none=>exact absurd e (hLa3.dom x hx)
   |some o=>exact s4 _ _ e)
  have npra4:p≠rb:=WH hp4 hrb4 (by intro z;cases z)
  have fr3:∀{x:Addr},H3 x=none→H x=none:=fun{x} hx=>by
   cases e:H x with
   |none=>rfl
   |some o=>
    by_cases n:x=p
    ·rw[n,hp3] at hx;cases hx
    ·rw[k3 _ _ e n] at hx;cases hx
  walk_at "rds"
  have f5:Zp [p] H4 (upd H4 p (.ins T.C_Floor dx [("takes",.ref ra),("gives",.ref rb)])):=ZR (by simp) hp4 (by intro _ z;cases z)
  have hp5:(upd H4 p (.ins T.C_Floor dx [("takes",.ref ra),("gives",.ref rb)])) p=some (.ins T.C_Floor dx [("takes",.ref ra),("gives",.ref rb)]):=Zg
  have hd5:=f5.keep _ _ hd4 (by simpa using npd.symm)
  have hra5:=f5.keep _ _ hra4 (by simpa using npra.symm)
  have hrb5:=f5.keep _ _ hrb4 (by simpa using npra4.symm)
  have hh5:=hh4.off f5 (fun x hx z=>nph (by rw[←List.mem_singleton.mp z];exact hx))
  have nib:∀x∈ib,x≠p:=fun x hx z=>by
   have:=(hib x hx).1
   rw[z,hp3] at this
   cases this
  have hLa5:LL (upd H4 p (.ins T.C_Floor dx [("takes",.ref ra),("gives",.ref rb)])) _ ia:=hLa4.keep f5.tups (fun x hx=>Zi (nia x hx))
  have hLb5:LL (upd H4 p (.ins T.C_Floor dx [("takes",.ref ra),("gives",.ref rb)])) _ ib:=hLb.keep f5.tups (fun x hx=>Zi (nib x hx))
  have k5:∀b o,H b=some o→b≠p→(upd H4 p (.ins T.C_Floor dx [("takes",.ref ra),("gives",.ref rb)])) b=some o:=fun b o e n=>f5.keep _ _ (s4 _ _ (k3 _ _ e n)) (by simpa using n)
  generalize upd H4 p (.ins T.C_Floor dx [("takes",.ref ra),("gives",.ref rb)])=H5 at*
  clear f5
  walk_at "rds"
  intro u H6 bs hu0 s6 hu6 hT
  have hl6:=hT.length
  have hb6:bs.length<sizeLine:=Zu (by rw[hl6];exact hbz)
  walk_at "rds"
  refine ZaH (ZG (SqL.of hu6)) hb6 (fun _=>true) (fun i=> .int ((hl.belts.map B5.start).getD i 0)) (fun i H' Kc hi sm k=>?_) (fun i H' Kc hi _ sm k=>?_) (fun rc H7 hrc s7 hrc7=>?_)
  ·walk_at "rds"
   exact k H' (Zd.refl H')
  ·have hil:i<hl.belts.length:=by omega
   obtain⟨t,ht1,ht2⟩:=hT.at (List.getElem?_eq_getElem hil)
   have eb:bs.getD i .non= .ref t:=by simp[List.getD,ht1]
   have ed:(hl.belts.map B5.start).getD i 0=hl.belts[i].start:=by simp[List.getD,hil]
   rw[eb]
   rw[ed] at k
   have ht3:=sm _ _ ht2
   generalize hl.belts[i]=bb at*
   dsimp only[B5.v] at ht3
   walk_at "rds"
   exact k H' (Zd.refl H')
  have hrc8:H7 rc=some (.lst ((hl.belts.map B5.start).map V.int)):=by
   rw[hrc7,List.filter_eq_self.mpr (by simp),hl6]
   congr 2
   refine List.ext_getElem (by simp) fun i h1 h2=>?_
   have:i<hl.belts.length:=by simpa using h1
   simp[List.getD,this]
  have s57:=s6.trans s7
  have hp7:=s57 _ _ hp5
  have nprc:p≠rc:=WH hp7 hrc8 (by intro z;cases z)
  walk_at "rds"
  have f8:Zp [p] H7 (upd H7 p (.ins T.C_Floor dx [("takes",.ref ra),("gives",.ref rb),("heaps",.ref rc)])):=ZR (by simp) hp7 (by intro _ z;cases z)
  have kk:∀x,x≠p→H5 x≠none→(upd H7 p (.ins T.C_Floor dx [("takes",.ref ra),("gives",.ref rb),("heaps",.ref rc)])) x=H5 x:=fun x n d=>by
   rw[Zi n]
   cases e:H5 x with
   |none=>exact absurd e d
   |some o=>exact s57 _ _ e
  have tt:∀b xs,H5 b=some (.tup xs)→(upd H7 p (.ins T.C_Floor dx [("takes",.ref ra),("gives",.ref rb),("heaps",.ref rc)])) b=some (.tup xs):=fun b xs z=>f8.tups _ _ (s57 _ _ z)
  have k8:∀b o,H b=some o→b≠p→(upd H7 p (.ins T.C_Floor dx [("takes",.ref ra),("gives",.ref rb),("heaps",.ref rc)])) b=some o:=fun b o e n=>f8.keep _ _ (s57 _ _ (k5 _ _ e n)) (by simpa using n)
  have fr5:∀{x:Addr},H5 x=none→H x=none:=fun{x} hx=>by
   cases e:H x with
   |none=>rfl
   |some o=>
    by_cases n:x=p
    ·rw[n,hp5] at hx;cases hx
    ·rw[k5 _ _ e n] at hx;cases hx
  have fr6:H6 rc=none→H rc=none:=fun hx=>fr5 (by
   cases e:H5 rc with
   |none=>rfl
   |some o=>rw[s6 _ _ e] at hx;cases hx)
  refine q _ (p::dx::ra::rb::rc::(ia++ib)) ⟨dx,ra,rb,rc,ia,ib,rfl,Zg,?_,?_,?_,?_,hLa5.keep tt (fun x hx=>kk x (nia x hx) (hLa5.dom x hx)),hLb5.keep tt (fun x hx=>kk x (nib x hx) (hLb5.dom x hx)),by simp,Int.natCast_nonneg _⟩ (fun x hx=>?_) k8
  ·exact(kk _ npd.symm (by rw[hd5];simp)).trans hd5
  ·exact(kk _ npra.symm (by rw[hra5];simp)).trans hra5
  ·exact(kk _ npra4.symm (by rw[hrb5];simp)).trans hrb5
  ·rw[Zi nprc.symm];exact hrc8
  ·simp only[List.mem_cons,List.mem_append] at hx
   rcases hx with rfl|rfl|rfl|rfl|rfl|hx|hx
   ·exact .inl rfl
   ·exact .inr (.inl rfl)
   ·exact .inr (.inr (fr0 hra))
   ·exact .inr (.inr (fr3 hrb))
   ·exact .inr (.inr (fr6 hrc))
   ·exact .inr (.inr (fr0 (hia x hx).1))
   ·exact .inr (.inr (fr3 (hib x hx).1))
end
def Ur {K:PySem.W.Frag} {mg:Str→Option Value} (T:Tp K mg):Sp:=fun vs H Q E=>∃(p dx c:Addr) (xs:List Int),vs=[.ref p,.ref c]∧H p=some (.ins T.C_Lane dx [])∧H dx=some (.own p)∧SqL K H c (xs.map V.int)∧xs.length≤1000000∧
 ∀(H':Hp) (fp':List Addr),Yi T H' p xs fp'→(∀x∈fp',x=p∨x=dx∨H x=none)→(∀b o,H b=some o→b≠p→H' b=some o)→Q .non H'
section
variable {P:Program} {w:World} {K:PySem.W.Frag} {mg:Str→Option Value} {base:Heap}
theorem ZdU (T:Tp K mg):Zj P w K mg base (CXX P w) 1 T.f_Lane_init T.d_Lane_init ["self","pieces"] (Ur T):=by
 have cl_Lane:=T.cl_Lane
 have na_Lane:=T.na_Lane
 refine T.F_Lane_init.okX ZdK (fun vs H Q E h=>?_) (fun cdv A outer s H vs Q E hr h=>?_)
 ·obtain⟨p,dx,c,xs,rfl,_⟩:=h
  rfl
 ·have hu:=hr.units
  obtain⟨p,dx,c,xs,rfl,hp,hdx,hc,hxz,q⟩:=h
  refine⟨_,(Zc (YN (K:=K) rfl (pv 0) (Ya (Y8 (K:=K) rfl) (by rfl) T.n_list PyProof.Rows.boot_list (Za (pv 1) Zb)) rfl)
     (Ze (YN (K:=K) rfl (pv 0) Zf rfl))),?_⟩
  try dsimp only[L2.cxX,L2.ZL,L2.Zl]
  walk_at "rds"
  refine⟨c,_,rfl,.inl hc,fun l hl=>?_⟩
  have s1:Zd H (upd H l (.lst (xs.map V.int))):=Zo hl
  have v1:(upd H l (.lst (xs.map V.int))) l=some (.lst (xs.map V.int)):=Zg
  generalize upd H l (.lst (xs.map V.int))=H1 at*
  have hp1:=s1 _ _ hp
  have hdx1:=s1 _ _ hdx
  have n1:dx≠p:=fun z=>by rw[z,hp] at hdx;cases hdx
  have n2:l≠p:=fun z=>by rw[z,hp] at hl;cases hl
  walk_at "rds"
  refine q _ [p,dx,l] ⟨dx,l,xs,0,rfl,Zg,by rw[Zi n1,Zi n1];exact hdx1,by rw[Zi n2,Zi n2];exact v1,Nat.zero_le _,rfl,by omega⟩ (fun x hx=>?_) (fun b o e nb=>by rw[Zi nb,Zi nb];exact s1 _ _ e)
  simp only[List.mem_cons,List.not_mem_nil,or_false] at hx
  rcases hx with rfl|rfl|rfl
  ·exact .inl rfl
  ·exact .inr (.inl rfl)
  ·exact .inr (.inr hl)
end
theorem Zds {K:PySem.W.Frag} {mg:Str→Option Value} {T:Tp K mg} {H:Hp} {c:Addr} {xs:List Int} {Q:Addr→Hp→Prop} {E:XK} (hc:SqL K H c (xs.map V.int)) (hz:xs.length≤1000000)
  (q:∀(p:Addr) (fp':List Addr) (H':Hp),Yi T H' p xs fp'→(∀x∈fp',H x=none)→Zd H H'→Q p H'):
  ∀x dx,H x=none→H dx=none→dx≠x→Ur T (.ref x::([.ref c]++ [])) (upd (upd H dx (.own x)) x (.ins T.C_Lane dx [])) (fun v H2=>v= .non∧Q x H2) E:=by
 intro x dx hx hdx ne
 have sm:Zd H (upd (upd H dx (.own x)) x (.ins T.C_Lane dx [])):=fun b o e=>by rw[Zi (Zq e hx),Zi (Zq e hdx)];exact e
 refine⟨x,dx,c,xs,rfl,Zg,by rw[Zi ne,Zg],sm.seq hc,hz,fun H' fp' hh hf hk=>⟨rfl,q x fp' H' hh (fun y hy=>?_) (fun b o e=>hk b o (sm b o e) (Zq e hx))⟩⟩
 rcases hf y hy with rfl|rfl|h
 ·exact hx
 ·exact hdx
 ·by_cases h1:y=x
  ·rw[h1];exact hx
  ·by_cases h2:y=dx
   ·rw[h2];exact hdx
   ·rw[Zi h1,Zi h2] at h
    exact h
def Uv {K:PySem.W.Frag} {mg:Str→Option Value} (T:Tp K mg):Sp:=fun vs H Q E=>∃(p dx h c d:Addr) (hl:HM) (fp:List Addr) (vs':List V) (fss:List (List ZT)) (ys:List V) (xss:List (List Int)),vs=[.ref p,.ref h,.ref c,.ref d]∧H p=some (.ins T.C_Mill dx [])∧H dx=some (.own p)∧ZD T H h hl fp∧hl.belts.length≤1000∧hl.names.length≤1000∧H c=some (.lst vs')∧YR H vs' fss∧YK hl.names.length hl.belts fss∧H d=some (.lst ys)∧ZV H ys xss∧VI xss (startsL hl.belts)∧(∀i<xss.length,(xss.getD i []).length≤100000)∧
 ∀(H':Hp) (fp':List Addr),Z3 T H' p ⟨hl.names.length,hl.belts,hl.belts.map B5.start⟩ fss (fun i=>xss.getD i []) fp'→(∀x∈fp',x=p∨x=dx∨H x=none)→(∀b o,H b=some o→b≠p→H' b=some o)→Q .non H'
theorem ZdH {K:PySem.W.Frag} {mg:Str→Option Value} {T:Tp K mg} {H:Hp} {h c d:Addr} {hl:HM} {fp:List Addr} {vs':List V} {fss:List (List ZT)} {ys:List V} {xss:List (List Int)} {Q:Addr→Hp→Prop} {E:XK} (hh:ZD T H h hl fp) (hb:hl.belts.length≤1000) (hn:hl.names.length≤1000) (hc:H c=some (.lst vs')) (hF:YR H vs' fss) (hA:YK hl.names.length hl.belts fss) (hd:H d=some (.lst ys)) (hR:ZV H ys xss) (hP:VI xss (startsL hl.belts)) (hz:∀i<xss.length,(xss.getD i []).length≤100000)
  (q:∀(p:Addr) (fp':List Addr) (H':Hp),Z3 T H' p ⟨hl.names.length,hl.belts,hl.belts.map B5.start⟩ fss (fun i=>xss.getD i []) fp'→(∀x∈fp',H x=none)→Zd H H'→Q p H'):
  ∀x dx,H x=none→H dx=none→dx≠x→Uv T (.ref x::([.ref h,.ref c,.ref d]++ [])) (upd (upd H dx (.own x)) x (.ins T.C_Mill dx [])) (fun v H2=>v= .non∧Q x H2) E:=by
 intro x dx hx hdx ne
 have sm:Zd H (upd (upd H dx (.own x)) x (.ins T.C_Mill dx [])):=fun b o e=>by rw[Zi (Zq e hx),Zi (Zq e hdx)];exact e
 refine⟨x,dx,h,c,d,hl,fp,vs',fss,ys,xss,rfl,Zg,by rw[Zi ne,Zg],hh.same sm,hb,hn,sm _ _ hc,hF.keep (fun b xs e=>sm _ _ e),hA,sm _ _ hd,hR.same sm,hP,hz,fun H' fp' hh hf hk=>⟨rfl,q x fp' H' hh (fun y hy=>?_) (fun b o e=>hk b o (sm b o e) (Zq e hx))⟩⟩
 rcases hf y hy with rfl|rfl|h
 ·exact hx
 ·exact hdx
 ·by_cases h1:y=x
  ·rw[h1];exact hx
  ·by_cases h2:y=dx
   ·rw[h2];exact hdx
   ·rw[Zi h1,Zi h2] at h
    exact h
section
variable {P:Program} {w:World} {K:PySem.W.Frag} {mg:Str→Option Value} {base:Heap}
theorem ZdG (T:Tp K mg):Zj P w K mg base (CXX P w) 10 T.f_Mill_init T.d_Mill_init ["self","hall","forms","pieces"] (Uv T):=by
 have G_need_forms:Zj P w K mg base (CXX P w) 9 T.f_need_forms T.d_need_forms ["hall","forms"] (Zav T):=(Zc0 T).mono (by decide)
 have G_need_pieces:Zj P w K mg base (CXX P w) 9 T.f_need_pieces T.d_need_pieces ["hall","pieces"] (U8 T):=(Zcn T).mono (by decide)
 have G_Floor_init:Zj P w K mg base (CXX P w) 8 T.f_Floor_init T.d_Floor_init ["self","hall"] (V2 T):=(ZcY T).mono (by decide)
 have G_Lane_init:Zj P w K mg base (CXX P w) 8 T.f_Lane_init T.d_Lane_init ["self","pieces"] (Ur T):=(ZdU T).mono (by decide)
 have cl_Floor:=T.cl_Floor
 have na_Floor:=T.na_Floor
 have cl_Lane:=T.cl_Lane
 have na_Lane:=T.na_Lane
 have cl_Mill:=T.cl_Mill
 have na_Mill:=T.na_Mill
 refine T.F_Mill_init.okX ZdD (fun vs H Q E h=>?_) (fun cdv A outer s H vs Q E hr h=>?_)
 ·obtain⟨p,dx,h,c,d,hl,fp,vs',fss,ys,xss,rfl,_⟩:=h
  rfl
 ·have hu:=hr.units
  obtain⟨p,dx,h,c,d,hl,fp,vs',fss,ys,xss,rfl,hp,hdx,hh,hbz,hnz,hc,hF,hA,hd,hR,hP,hxz,q⟩:=h
  have hal:=hA.len
  have hxl:xss.length=hl.belts.length:=by rw[hP.1];simp[startsL]
  refine⟨_,(Zc (ZK (Zz G_need_forms hr rfl T.m_need_forms T.F_need_forms.kp T.b_need_forms .nil Zn (Za (pv 1) (Za (pv 2) Zb))))
     (Zc (ZK (Zz G_need_pieces hr rfl T.m_need_pieces T.F_need_pieces.kp T.b_need_pieces .nil Zn (Za (pv 1) (Za (pv 3) Zb))))
     (Zc (YN (K:=K) rfl (pv 0) (Zcb T.mk_Floor G_Floor_init hr rfl T.g_Floor T.b_Floor_init .nil Zn (Za (pv 1) Zb)) rfl)
     (Zc (YN (K:=K) rfl (pv 0) (Ya (Y8 (K:=K) rfl) (by rfl) T.n_list PyProof.Rows.boot_list (Za (pv 2) Zb)) rfl)
     (Ze (YN (K:=K) rfl (pv 0) (Z7 (xs:=["lying"]) rfl (Z1 (x:="lying") (zs:=[]) (ix:=[]) (Zh WX) ["self","hall","forms","pieces"] rfl rfl (by decide+kernel)) (ZN (K:=K) rfl (pv 3)) (fun cl C s H fp=>⟨(Zk (i:=0) (show(["lying"]:List Str).Nodup by decide+kernel) rfl (Or.inl rfl)),Z6,(Zcb T.mk_Lane G_Lane_init hr rfl T.g_Lane T.b_Lane_init .nil WD (Za (pv 0) Zb))⟩)) rfl)))))),?_⟩
  try dsimp only[L2.cxX,L2.ZL,L2.Zl]
  walk_at "rds"
  refine⟨h,c,hl,fp,vs',fss,rfl,hh,hbz,hnz,SqL.of hc,hF,by omega,fun i hi=>(by simpa using hA.ok i (by omega) (by omega)),fun H1 s1=>?_⟩
  walk_at "rds"
  refine⟨h,d,hl,fp,ys,xss,rfl,hh.same s1,hbz,s1 _ _ hd,hR.same s1,by omega,fun z=>absurd hP z,fun _ H2 s2=>?_⟩
  have s02:=s1.trans s2
  have hh2:=hh.same s02
  have hp2:=s02 _ _ hp
  have hdx2:=s02 _ _ hdx
  walk_at "rds"
  refine ZcT hh2 hnz hbz fun fa ffp H3 hF3 hnf s3=>?_
  have s03:=s02.trans s3
  have hp3:=s3 _ _ hp2
  have hdx3:=s3 _ _ hdx2
  have hc3:=s03 _ _ hc
  have hd3:=s03 _ _ hd
  walk_at "rds"
  have ncp:c≠p:=fun z=>by rw[z,hp] at hc;cases hc
  have ndp:d≠p:=fun z=>by rw[z,hp] at hd;cases hd
  have nxp:dx≠p:=fun z=>by rw[z,hp] at hdx;cases hdx
  have npf:p∉ffp:=fun z=>by have:=hnf p z;rw[hp2] at this;cases this
  have ndf:dx∉ffp:=fun z=>by have:=hnf dx z;rw[hdx2] at this;cases this
  have k4:∀b o,H3 b=some o→b≠p→(upd H3 p (.ins T.C_Mill dx [("floor",.ref fa)])) b=some o:=fun b o e n=>by rw[Zi n];exact e
  have p4:(upd H3 p (.ins T.C_Mill dx [("floor",.ref fa)])) p=some (.ins T.C_Mill dx [("floor",.ref fa)]):=Zg
  have f4:Zp [p] H3 (upd H3 p (.ins T.C_Mill dx [("floor",.ref fa)])):=ZR (by simp) hp3 (by intro _ z;cases z)
  generalize upd H3 p (.ins T.C_Mill dx [("floor",.ref fa)])=H4 at*
  have hc4:=k4 _ _ hc3 ncp
  refine⟨c,_,rfl,.inl (SqL.of hc4),fun l hl'=>?_⟩
  have s5:Zd H4 (upd H4 l (.lst vs')):=Zo hl'
  have v5:(upd H4 l (.lst vs')) l=some (.lst vs'):=Zg
  generalize upd H4 l (.lst vs')=H5 at*
  have p5:=s5 _ _ p4
  have nlp:l≠p:=fun z=>by rw[z,p4] at hl';cases hl'
  walk_at "rds"
  have p6:(upd H5 p (.ins T.C_Mill dx [("floor",.ref fa),("forms",.ref l)])) p=some (.ins T.C_Mill dx [("floor",.ref fa),("forms",.ref l)]):=Zg
  have f6:Zp [p] H5 (upd H5 p (.ins T.C_Mill dx [("floor",.ref fa),("forms",.ref l)])):=ZR (by simp) p5 (by intro _ z;cases z)
  generalize upd H5 p (.ins T.C_Mill dx [("floor",.ref fa),("forms",.ref l)])=H6 at*
  have f36:Zp [p] H3 H6:=(f4.trans s5.frame).trans f6
  have hd6:=f36.keep _ _ hd3 (by simpa using ndp)
  have hd6q:=SqL.of (K:=K) hd6
  have hyl:=hR.length
  have hR6:∀i<xss.length,∃t,ys.getD i .non= .ref t∧H6 t=some (.lst ((xss.getD i []).map V.int)):=fun i hi=>by
   obtain⟨t,e,ht⟩:=YG hR hi
   exact⟨t,e,f36.keep _ _ (s03 _ _ ht) (by
    rw[List.mem_singleton]
    intro z
    rw[z,hp] at ht;cases ht)⟩
  have l6:=f6.keep _ _ v5 (by simpa using nlp)
  have dx6:=f36.keep _ _ hdx3 (by simpa using nxp)
  have hF6:=hF3.off f36 (fun x hx=>by
   rw[List.mem_singleton]
   intro z
   rw[z] at hx
   exact npf hx)
  have nlf:l∉ffp:=fun z=>(hF3.off f4 (fun x hx=>by
   rw[List.mem_singleton]
   intro z
   rw[z] at hx
   exact npf hx)).dom l z hl'
  have l3:H3 l=none:=by
   cases e:H3 l with
   |none=>rfl
   |some o=>rw[k4 l o e nlp] at hl';cases hl'
  refine⟨d,rfl,⟨_,hd6q⟩,?_⟩
  refine Zfi (own:=1) (ZG hd6q).y (Zu (by omega)) (fun i=>[some (ys.getD i .non)]) (fun _=>rfl) (fun i v fp' H'=>∃a,v=V.ref a∧Yi T H' a (xss.getD i []) fp') (fun i v fp' G1 G2 e ⟨a,z1,z2⟩=>⟨a,z1,z2.same e⟩) (fun i v fp' G1 ⟨a,z1,z2⟩=>z2.dom) (fun i a' H' v H3 Kg hi sm y ha' k=>?_) (fun i H' Kc hi sm k=>?_) (fun pp i H' Kc hi hp0 hp1 sm k=>?_) (fun la H7 zs fs hla s7 hla7 hzl hfl hLs hDs hNs=>?_)
  ·obtain⟨rfl,rfl⟩:=y
   obtain⟨x1,rfl⟩:∃x1,a'=[x1]:=by
    match a',ha' with
    | [x1],_=>exact⟨x1,rfl⟩
   walk_at "rds"
   exact k _ (Zd.refl _)
  ·walk_at "rds"
   exact k H' (Zd.refl H')
  ·have hix:i<xss.length:=by omega
   obtain⟨t,et,ht⟩:=hR6 i hix
   rw[et]
   walk_at "rds"
   refine Zds (SqL.of (sm _ _ ht)) (by have:=hxz i hix;omega) fun a fpa H8 hla8 hna s8=>?_
   exact k _ fpa H8 s8 ⟨a,rfl,hla8.hid' (fun z=>by
    obtain⟨zs,e⟩:=hp1
    have:=hna pp z
    rw[e] at this;cases this)⟩ hna
  ·obtain⟨as,rfl,has⟩:=ZhA hzl fun i hi=>(by obtain⟨a,e,_⟩:=hLs i hi;exact⟨a,e⟩)
   have p7:=s7 _ _ p6
   have hlp:la≠p:=fun z=>by rw[z,p6] at hla;cases hla
   have hldx:la≠dx:=fun z=>by rw[z,dx6] at hla;cases hla
   have hll:la≠l:=fun z=>by rw[z,l6] at hla;cases hla
   have hlf:la∉ffp:=fun z=>hF6.dom la z hla
   have hnl:as.length=hl.belts.length:=by omega
   walk_at "rds"
   have f8:Zp [p] H7 (upd H7 p (.ins T.C_Mill dx [("floor",.ref fa),("forms",.ref l),("lanes",.ref la)])):=ZR (by simp) p7 (by intro _ z;cases z)
   have np:∀i<as.length,∀x∈fs.getD i [],x∉p::dx::l::la::ffp:=fun i hi x hx z=>by
    obtain⟨e1,e2⟩:=hNs i (by omega) x hx
    simp only[List.mem_cons] at z
    rcases z with z|z|z|z|z
    ·rw[z,p6] at e1;cases e1
    ·rw[z,dx6] at e1;cases e1
    ·rw[z,l6] at e1;cases e1
    ·exact e2 z
    ·exact hF6.dom x z e1
   have hd:∀x∈ffp,x∉[p,dx,l,la]:=fun x hx z=>by
    simp only[List.mem_cons,List.not_mem_nil,or_false] at z
    rcases z with rfl|rfl|rfl|rfl
    ·exact npf hx
    ·exact ndf hx
    ·exact nlf hx
    ·exact hlf hx
   have nn:∀x:Addr,x≠p→x∉[p]:=fun x z=>by simpa using z
   have h3n:∀x,H3 x=none→H x=none:=fun x e=>Z2 s03 e
   have h6n:∀x,H6 x=none→H x=none:=fun x e=>by
    cases e2:H x with
    |none=>rfl
    |some o=>
     by_cases z:x=p
     ·rw[z,p6] at e;cases e
     ·rw[f36.keep _ _ (s03 _ _ e2) (nn x z)] at e;cases e
   refine q _ ((p::dx::l::la::ffp)++Y2 as.length fun i=>fs.getD i []) ⟨dx,fa,l,la,ffp,vs',as,fun i=>fs.getD i [],rfl,Zg,f8.keep _ _ (s7 _ _ dx6) (nn _ nxp),(hF6.same s7).off f8 (fun x hx=>nn x (fun z=>npf (z▸hx))),f8.keep _ _ (s7 _ _ l6) (nn _ nlp),((hF.keep (fun b xs e=>s03 _ _ e)).keep f36.tups).keep (fun b xs e=>f8.tups _ _ (s7 _ _ e)),f8.keep _ _ hla7 (nn _ hlp),hnl,⟨fun i hi=>?_,fun i j hi hj nij x hx=>?_⟩,np,hd⟩ (fun x hx=>?_) (fun b o e nb=>?_)
   ·obtain⟨a,ea,hla⟩:=hLs i (by omega)
    have ea':(as.map V.ref).getD i .non= .ref (as.getD i 0):=by simp[List.getD,hi]
    rw[ea'] at ea
    cases ea
    exact(hla.same YT).off f8 (fun x hx=>nn x (fun z=>np i hi x hx (by simp[z])))
   ·rcases Nat.lt_or_gt_of_ne nij with z|z
    ·exact hDs i j z (by omega) x hx
    ·exact fun y=>hDs j i z (by omega) x y hx
   ·rcases List.mem_append.mp hx with hx|hx
    ·simp only[List.mem_cons] at hx
     rcases hx with rfl|rfl|rfl|rfl|hx
     ·exact .inl rfl
     ·exact .inr (.inl rfl)
     ·exact .inr (.inr (h3n _ l3))
     ·exact .inr (.inr (h6n _ hla))
     ·exact .inr (.inr (Z2 s02 (hnf x hx)))
    ·obtain⟨i,hi,hx⟩:=Vc.mp hx
     exact .inr (.inr (h6n _ (hNs i (by omega) x hx).1))
   ·exact f8.keep _ _ (s7 _ _ (f36.keep _ _ (s03 _ _ e) (nn b nb))) (nn b nb)
end
def RO (H:Hp) (ys:List V) (f:Nat→List Int) (n:Nat) (lo:Addr) (fp:List Addr):Prop:=ys.length=n∧∀j<n,∃t,ys.getD j .non= .ref t∧t≠lo∧t∉fp∧H t=some (.lst ((f j).map V.int))
theorem RO.rows {H:Hp} {ys:List V} {f:Nat→List Int} {n:Nat} {lo:Addr} {fp:List Addr} (h:RO H ys f n lo fp):ZV H ys ((List.range n).map f):=by
 refine UH (by rw[h.1];simp) fun i x y e1 e2=>?_
 have hi:i<ys.length:=(List.getElem?_eq_some_iff.mp e1).1
 obtain⟨t,et,_,_,ht⟩:=h.2 i (by rw[←h.1];exact hi)
 have ex:ys.getD i .non=x:=by simp[List.getD,e1]
 have ey:f i=y:=by
  rw[List.getElem?_map,List.getElem?_range (by rw[←h.1];exact hi)] at e2
  exact Option.some.inj e2
 exact⟨t,by rw[←ex,et],by rw[←ey];exact ht⟩
theorem RO.turn {H H':Hp} {ys:List V} {f:Nat→List Int} {n:Nat} {lo:Addr} {fp fp':List Addr} (h:RO H ys f n lo fp) (fr:Zp fp H H') (gr:ZO fp fp' H):RO H' ys f n lo fp':=
 ⟨h.1,fun j hj=>by
  obtain⟨t,e,n1,n2,ht⟩:=h.2 j hj
  exact⟨t,e,n1,gr.off n2 (by rw[ht];simp),fr.keep _ _ ht n2⟩⟩
theorem RO.mill {H H':Hp} {ys:List V} {f:Nat→List Int} {n:Nat} {lo:Addr} {fp:List Addr} (h:RO H ys f n lo fp) (fr:Zp [lo] H H'):RO H' ys f n lo fp:=
 ⟨h.1,fun j hj=>by
  obtain⟨t,e,n1,n2,ht⟩:=h.2 j hj
  exact⟨t,e,n1,n2,fr.keep _ _ ht (by simpa using n1)⟩⟩
theorem RO.same {H H':Hp} {ys:List V} {f:Nat→List Int} {n:Nat} {lo:Addr} {fp:List Addr} (h:RO H ys f n lo fp) (s:Zd H H'):RO H' ys f n lo fp:=
 ⟨h.1,fun j hj=>by
  obtain⟨t,e,n1,n2,ht⟩:=h.2 j hj
  exact⟨t,e,n1,n2,s _ _ ht⟩⟩
theorem RO.new {H0 H:Hp} {ys:List V} {f:Nat→List Int} {n:Nat} {r lo:Addr} {fp:List Addr} (h:ZV (hid H r) ys ((List.range n).map f)) (nw:∀v∈ys,∃t,v= .ref t∧H0 t=none) (hl:H0 lo≠none) (hf:∀x∈fp,H0 x≠none):RO H ys f n lo fp:=by
 have hl':=h.length
 rw[List.length_map,List.length_range] at hl'
 refine⟨hl',fun j hj=>?_⟩
 obtain⟨t,et,ht⟩:=YG h (i:=j) (by simpa using hj)
 obtain⟨t',et',ht'⟩:=nw (ys.getD j .non) (by rw[ZF (by omega)];exact List.getElem_mem _)
 rw[et] at et'
 cases et'
 have e:((List.range n).map f).getD j []=f j:=by simp[List.getD,hj]
 rw[e] at ht
 exact⟨t,et,fun z=>hl (by rw[←z];exact ht'),fun z=>hf t z ht',YT _ _ ht⟩
section
variable {P:Program} {w:World} {K:PySem.W.Frag} {mg:Str→Option Value} {base:Heap}
theorem ZiW (T:Tp K mg):Zj P w K mg base (CXX P w) 12 T.f_law T.d_law ["_law_script"] (ZiM T):=by
 have G_l_cell_at:Zj P w K mg base (CXX P w) 11 T.f_l_cell_at T.d_l_cell_at ["_law_script","_law_k"] (YS T):=(Vu T).mono (by decide)
 have G_l_forms_by:Zj P w K mg base (CXX P w) 11 T.f_l_forms_by T.d_l_forms_by ["_law_script","_law_at","_law_belts","_law_many","_law_great"] (Zat T):=(ZcR T).mono (by decide)
 have G_l_pieces_by:Zj P w K mg base (CXX P w) 11 T.f_l_pieces_by T.d_l_pieces_by ["_law_script","_law_at","_law_belts"] (U7 T):=(Zcl T).mono (by decide)
 have G_l_made:Zj P w K mg base (CXX P w) 11 T.f_l_made T.d_l_made ["_law_names_here","_law_belts"] (ZcI T):=(ZfN T).mono (by decide)
 have G_l_grown:Zj P w K mg base (CXX P w) 11 T.f_l_grown T.d_l_grown ["_law_hall"] (ZbJ T):=(Ze1 T).mono (by decide)
 have G_l_forms_good:Zj P w K mg base (CXX P w) 11 T.f_l_forms_good T.d_l_forms_good ["_law_script","_law_belts","_law_forms"] (UM T):=(ZbV T).mono (by decide)
 have G_l_names:Zj P w K mg base (CXX P w) 11 T.f_l_names T.d_l_names ["_law_cell","_law_many"] (Zb3 T):=(ZeH T).mono (by decide)
 have G_l_told:Zj P w K mg base (CXX P w) 11 T.f_l_told T.d_l_told ["_law_mill"] (Zcx T):=(Zf1 T).mono (by decide)
 have G_l_belt_by:Zj P w K mg base (CXX P w) 11 T.f_l_belt_by T.d_l_belt_by ["_law_cell","_law_rates","_law_top","_law_ample"] (ZaD T):=(Zde T).mono (by decide)
 have G_l_turned:Zj P w K mg base (CXX P w) 11 T.f_l_turned T.d_l_turned ["_law_mill","_law_work"] (Zbn T):=(Zd5 T).mono (by decide)
 have G_l_milled:Zj P w K mg base (CXX P w) 11 T.f_l_milled T.d_l_milled ["_law_belts","_law_forms","_law_loads_here","_law_work"] (Zbj T):=(Zed T).mono (by decide)
 have G_l_loads:Zj P w K mg base (CXX P w) 11 T.f_l_loads T.d_l_loads ["_law_found","_law_due"] (Zb4 T):=(Zfq T).mono (by decide)
 have G_l_can:Zj P w K mg base (CXX P w) 11 T.f_l_can T.d_l_can ["_law_belts","_law_loads_here","_law_work"] (Zdi T):=(Zgt T).mono (by decide)
 have G_Mill_lying:Zj P w K mg base (CXX P w) 11 T.f_Mill_lying T.d_Mill_lying ["self"] (V3 T):=(Zau T).mono (by decide)
 have G_Mill_init:Zj P w K mg base (CXX P w) 10 T.f_Mill_init T.d_Mill_init ["self","hall","forms","pieces"] (Uv T):=(ZdG T).mono (by decide)
 have cl_Mill:=T.cl_Mill
 have na_Mill:=T.na_Mill
 refine T.F_law.okX Yd (fun vs H Q E h=>?_) (fun cdv A outer s H vs Q E hr h=>?_)
 ·obtain⟨a,ns,rfl,_⟩:=h
  rfl
 ·have hu:=hr.units
  obtain⟨p,ns,rfl,hS,hlen,k⟩:=h
  refine⟨_,(Zc (Zs (i:=1) Yd.nd rfl (Or.inl rfl) (Zz G_l_cell_at hr rfl T.m_l_cell_at T.F_l_cell_at.kp T.b_l_cell_at .nil Zn (Za (pv 0) (Za Zf Zb))))
     (Zc (Zs (i:=2) Yd.nd rfl (Or.inl rfl) (Zm (ZU (K:=K) rfl) Zf (Zm ZZ (pv 1) Zf)))
     (Zc (VH (j:=3) (xs:=["_law_k"]) rfl (Z1 (x:="_law_k") (zs:=["_law_script"]) (ix:=[0]) (Zh UK) ["_law_script","_law_first","_law_many","_law_rates","_law_belts","_law_k","_law_forms","_law_loads_here","_law_hall","_law_handed","_law_given","_law_mill","_law_row","_law_told_here","_law_before","_law_cell","_law_work","_law_due"] rfl rfl (by decide+kernel)) (YF rfl T.n_range (Za (pv 2) Zb)) (fun cl C s H fp=>⟨(Zk (i:=0) (show(["_law_k","_law_script"]:List Str).Nodup by decide+kernel) rfl (Or.inl rfl)),Z6,(Zm (ZU (K:=K) rfl) Zf (Zm ZZ (Zz G_l_cell_at hr rfl T.m_l_cell_at T.F_l_cell_at.kp T.b_l_cell_at .nil WD (Za (pv 1) (Za (Zm (ZU (K:=K) rfl) Zf (pv 0)) Zb))) Zf))⟩) Yd.nd rfl (Or.inl rfl))
     (Zc (Zs (i:=4) Yd.nd rfl (Or.inl rfl) (YY Zb))
     (Zc (Z0 PassesOwn.leaving rfl (YF rfl T.n_range (Za (Zm ZZ (Zm Ye (pv 1) Zf) Zf) Zb)) (Zk (i:=5) Yd.nd rfl (Or.inl rfl)) (Ze (ZK (YZ (K:=K) rfl PySem.F.plainAttrs_list PySem.F.slot_list_append PySem.F.type_list_append Yj (pv 4) (Za (Zz G_l_belt_by hr rfl T.m_l_belt_by T.F_l_belt_by.kp T.b_l_belt_by .nil Zn (Za (Zz G_l_cell_at hr rfl T.m_l_cell_at T.F_l_cell_at.kp T.b_l_cell_at .nil Zn (Za (pv 0) (Za (Zm (ZU (K:=K) rfl) Zf (pv 5)) Zb))) (Za (pv 3) (Za Zf (Za (VD (YD (K:=K) rfl hu) (Zm ZZ (Zm Ye (pv 1) Zf) Zf) Zf (ZQ _)) Zb))))) Zb)))))
     (Zc (Zs (i:=6) Yd.nd rfl (Or.inl rfl) (Zz G_l_forms_by hr rfl T.m_l_forms_by T.F_l_forms_by.kp T.b_l_forms_by .nil Zn (Za (pv 0) (Za Zf (Za (pv 4) (Za (pv 2) (Za (VD (YD (K:=K) rfl hu) (Zm ZZ (Zm Ye (pv 1) Zf) Zf) Zf (ZQ _)) Zb)))))))
     (Zc (Zs (i:=7) Yd.nd rfl (Or.inl rfl) (Zz G_l_pieces_by hr rfl T.m_l_pieces_by T.F_l_pieces_by.kp T.b_l_pieces_by .nil Zn (Za (pv 0) (Za Zf (Za (pv 4) Zb)))))
     (Zc (Zs (i:=8) Yd.nd rfl (Or.inl rfl) (Zz G_l_made hr rfl T.m_l_made T.F_l_made.kp T.b_l_made .nil Zn (Za (Zz G_l_names hr rfl T.m_l_names T.F_l_names.kp T.b_l_names .nil Zn (Za (Zz G_l_cell_at hr rfl T.m_l_cell_at T.F_l_cell_at.kp T.b_l_cell_at .nil Zn (Za (pv 0) (Za Zf Zb))) (Za (pv 2) Zb))) (Za (pv 4) Zb))))
     (Zc (VH (j:=9) (xs:=["_law_row"]) rfl (Z1 (x:="_law_row") (zs:=[]) (ix:=[]) (Zh UK) ["_law_script","_law_first","_law_many","_law_rates","_law_belts","_law_k","_law_forms","_law_loads_here","_law_hall","_law_handed","_law_given","_law_mill","_law_row","_law_told_here","_law_before","_law_cell","_law_work","_law_due"] rfl rfl (by decide+kernel)) (ZN (K:=K) rfl (pv 7)) (fun cl C s H fp=>⟨(Zk (i:=0) (show(["_law_row"]:List Str).Nodup by decide+kernel) rfl (Or.inl rfl)),Z6,(Ya (Y8 (K:=K) rfl) (by rfl) T.n_list PyProof.Rows.boot_list (Za (pv 0) Zb))⟩) Yd.nd rfl (Or.inl rfl))
     (Zc (Zs (i:=10) Yd.nd rfl (Or.inl rfl) (Ya (Y8 (K:=K) rfl) (by rfl) T.n_list PyProof.Rows.boot_list (Za (pv 6) Zb)))
     (Zc (Zs (i:=11) Yd.nd rfl (Or.inl rfl) (Zcb T.mk_Mill G_Mill_init hr rfl T.g_Mill T.b_Mill_init .nil Zn (Za (pv 8) (Za (pv 10) (Za (pv 9) Zb)))))
     (Zc (Vp (ZbK (VY Zb) (ZbY (pv 10) Zf UB)))
     (Zc (Vp (ZK (YZ (K:=K) rfl PySem.F.plainAttrs_list PySem.F.slot_list_append PySem.F.type_list_append Yj (pv 10) (Za (VY Zb) Zb))))
     (Zc (Z0 PassesOwn.leaving rfl (ZN (K:=K) rfl (pv 9)) (Zk (i:=12) Yd.nd rfl (Or.inl rfl)) (Ze (ZK (YZ (K:=K) rfl PySem.F.plainAttrs_list PySem.F.slot_list_append PySem.F.type_list_append Yj (pv 12) (Za Zf Zb)))))
     (Zc (ZK (Zz G_l_grown hr rfl T.m_l_grown T.F_l_grown.kp T.b_l_grown .nil Zn (Za (pv 8) Zb)))
     (Zc (Zs (i:=13) Yd.nd rfl (Or.inl rfl) (Wa (pv 11) T.cl_Mill T.M_Mill_lying G_Mill_lying hr T.b_Mill_lying .nil Zn))
     (Zc (VH (j:=14) (xs:=["_law_row"]) rfl (Z1 (x:="_law_row") (zs:=[]) (ix:=[]) (Zh UK) ["_law_script","_law_first","_law_many","_law_rates","_law_belts","_law_k","_law_forms","_law_loads_here","_law_hall","_law_handed","_law_given","_law_mill","_law_row","_law_told_here","_law_before","_law_cell","_law_work","_law_due"] rfl rfl (by decide+kernel)) (ZN (K:=K) rfl (pv 7)) (fun cl C s H fp=>⟨(Zk (i:=0) (show(["_law_row"]:List Str).Nodup by decide+kernel) rfl (Or.inl rfl)),Z6,(Ya (Y8 (K:=K) rfl) (by rfl) T.n_list PyProof.Rows.boot_list (Za (pv 0) Zb))⟩) Yd.nd rfl (Or.inl rfl))
     (Zc (Z0 PassesOwn.leaving rfl (ZN (K:=K) rfl (W7 (Zcf (K:=K) rfl) (pv 0) (Wm Zf) (Wm Zf))) (Zk (i:=15) Yd.nd rfl (Or.inl rfl)) (Zc (Zs (i:=16) Yd.nd rfl (Or.inl rfl) (Zm ZZ (pv 15) (Zm (ZU (K:=K) rfl) (pv 2) Zf)))
     (Zc (Vp (ZW (ZP (YD (K:=K) rfl hu) (Zm ZZ (Zm Ye (pv 15) Zf) Zf) Zf (ZQ _)) (Ze (Zs (i:=16) Yd.nd rfl (Or.inl rfl) (Zm UX (Zjg Ziy Zf) (Zm ZZ (pv 15) (Zm U2 Zf Zf))))) ZJ))
     (Zc (Zs (i:=17) Yd.nd rfl (Or.inl rfl) Zf)
     (Zc (Vp (ZW (Yr (Zgp Zjd Zc7 Zf (pv 16) (pv 2))) (Ze (Zs (i:=17) Yd.nd rfl (Or.inl rfl) Zf)) (Ze (ZW (Yr (Z5 (K:=K) rfl (Zz G_l_can hr rfl T.m_l_can T.F_l_can.kp T.b_l_can .nil Zn (Za (pv 4) (Za (pv 7) (Za (pv 16) Zb)))) (fun _=>rfl))) (Ze (Zs (i:=17) Yd.nd rfl (Or.inl rfl) Zf)) ZJ))))
     (Zc (Vp (ZW (ZP (UD (K:=K) rfl hu) (Zz G_l_turned hr rfl T.m_l_turned T.F_l_turned.kp T.b_l_turned .nil Zn (Za (pv 11) (Za (pv 16) Zb))) (pv 17) (ZQ _)) (Ze (ZC W5)) ZJ))
     (Zc (Vp (ZW (ZP (YD (K:=K) rfl hu) (pv 17) Zf (ZQ _)) (Ze (ZK (Zz G_l_milled hr rfl T.m_l_milled T.F_l_milled.kp T.b_l_milled .nil Zn (Za (pv 4) (Za (pv 6) (Za (pv 7) (Za (pv 16) Zb))))))) ZJ))
     (Zc (ZW (Yr (Z5 (K:=K) rfl (Zz G_l_loads hr rfl T.m_l_loads T.F_l_loads.kp T.b_l_loads .nil Zn (Za (pv 13) (Za (pv 14) Zb))) (fun _=>rfl))) (Ze (ZC W5)) ZJ)
     (Zc (Zs (i:=13) Yd.nd rfl (Or.inl rfl) (Zz G_l_told hr rfl T.m_l_told T.F_l_told.kp T.b_l_told .nil Zn (Za (pv 11) Zb)))
     (Zc (VH (j:=14) (xs:=["_law_row"]) rfl (Z1 (x:="_law_row") (zs:=[]) (ix:=[]) (Zh UK) ["_law_script","_law_first","_law_many","_law_rates","_law_belts","_law_k","_law_forms","_law_loads_here","_law_hall","_law_handed","_law_given","_law_mill","_law_row","_law_told_here","_law_before","_law_cell","_law_work","_law_due"] rfl rfl (by decide+kernel)) (ZN (K:=K) rfl (pv 7)) (fun cl C s H fp=>⟨(Zk (i:=0) (show(["_law_row"]:List Str).Nodup by decide+kernel) rfl (Or.inl rfl)),Z6,(Ya (Y8 (K:=K) rfl) (by rfl) T.n_list PyProof.Rows.boot_list (Za (pv 0) Zb))⟩) Yd.nd rfl (Or.inl rfl))
     (Ze (ZW (Yr (Z5 (K:=K) rfl (Zz G_l_loads hr rfl T.m_l_loads T.F_l_loads.kp T.b_l_loads .nil Zn (Za (pv 13) (Za (pv 14) Zb))) (fun _=>rfl))) (Ze (ZC W5)) ZJ))))))))))))
     (Ze (ZC (Zz G_l_forms_good hr rfl T.m_l_forms_good T.F_l_forms_good.kp T.b_l_forms_good .nil Zn (Za (pv 0) (Za (pv 4) (Za (pv 6) Zb)))))))))))))))))))))))),?_⟩
  try dsimp only[L2.cxX,L2.ZL,L2.Zl]
  clear G_Mill_init G_Mill_lying G_l_belt_by G_l_can G_l_cell_at G_l_forms_by G_l_forms_good G_l_grown G_l_loads G_l_made G_l_milled G_l_names G_l_pieces_by G_l_told G_l_turned hu
  walk_at "rds"
  have f0:1≤1+cellX ns 0 % 5∧1+cellX ns 0 % 5≤5:=by omega
  generalize cellX ns 0=fi at*
  obtain⟨m,hm⟩:∃m:Nat,1+fi % 5=(m:Int):=⟨(1+fi % 5).toNat,by omega⟩
  rw[hm] at f0⊢
  refine ZM (own:=1) UN.y (Zu (by omega)) (fun j=>[some (.int (0+(j:Int)))]) (fun _=>rfl) (fun _=>true) (fun j v _=>v= .int (1+cellX ns (2+(0+(j:Int))) % 4)) (fun _ _ _ _ _ z=>z) (fun j a' H' v H3 Kg hi sm y ha' k=>?_) (fun j H' Kc hi sm k=>?_) (fun pp j H' Kc hi hci hp0 hp1 sm k=>?_) (fun ra H1 zs hra s1 hra1 hR=>?_)
  ·obtain⟨rfl,rfl⟩:=y
   obtain⟨x1,rfl⟩:∃x1,a'=[x1]:=by
    match a',ha' with
    | [x1],_=>exact⟨x1,rfl⟩
   walk_at "rds"
   exact k _ (Zd.refl _)
  ·walk_at "rds"
   exact k H' (Zd.refl H')
  ·have hS':=sm.seq hS
   have hj:j<m:=by omega
   walk_at "rds"
   exact k _ H' (Zd.refl H') rfl
  ·rw[List.filter_eq_self.mpr (by simp),show((m:Nat):Int).toNat=m from rfl] at hR
   have ey:=Yo hR
   have hrs:∀r∈(List.range m).map (fun j:Nat=>1+cellX ns (2+(0+(j:Int))) % 4),1≤r∧r≤4:=fun r hr=>by
    obtain⟨j,_,rfl⟩:=List.mem_map.mp hr
    omega
   have hrl:((List.range m).map (fun j:Nat=>1+cellX ns (2+(0+(j:Int))) % 4)).length=m:=by simp
   generalize (List.range m).map (fun j:Nat=>1+cellX ns (2+(0+(j:Int))) % 4)=rs at*
   subst ey
   have hraq:=SqL.of (K:=K) hra1
   have hS1:=s1.seq hS
   walk_at "rds"
   refine⟨Nat.zero_le _,fun b hb=>?_⟩
   have s2:Zd H1 (upd H1 b (.lst [])):=Zo hb
   have v2:(upd H1 b (.lst [])) b=some (.lst []):=Zg
   have hb0:H b=none:=Z2 s1 hb
   generalize upd H1 b (.lst [])=H2 at*
   walk_at "rds"
   refine WP (n:=(fi / 5 % 6).toNat) (fun i σ H'=>∃(bs:List V) (ls:List B5) (a5:Option V),σ=[some (.ref p),some (.int fi),some (.int m),some (.ref ra),some (.ref b),a5,none,none,none,none,none,none,none,none,none,none,none,none]∧Zd H1 H'∧H' b=some (.lst bs)∧YJ H' bs ls∧ls.length=i∧∀l∈ls,Bel m l) ⟨[],[],_,rfl,s2,v2,.nil,rfl,by simp⟩ ?_ ?_
   ·rintro i σ H3 hi ⟨bs,ls,a5,rfl,s3,hb3,hT3,hl3,hB3⟩
    have hS3:=s3.seq hS1
    have hra3:=s3.seq hraq
    have hbl:=hT3.length
    have hbz:bs.length<sizeLine:=Zu (by omega)
    walk_at "rds"
    refine⟨_,ra,rs,2,_,rfl,hra3,by omega,by omega,fun r hr=>(by have:=hrs r hr;omega),by omega,by omega,fun u H4 bb hu s4 hu4 hBb=>?_⟩
    have hb4:=s4 _ _ hb3
    walk_at "rds"
    have fr5:Zp [b] H4 (upd H4 b (.lst (bs++ [.ref u]))):=ZR (by simp) hb4 (by intro _ z;cases z)
    refine⟨bs++ [.ref u],ls++ [bb],_,rfl,(s3.trans s4).new hb,Zg,((hT3.keep fun b xs e=>s4 _ _ e).keep fr5.tups).snoc (fr5.tups _ _ hu4),by simp[hl3],fun l hl=>?_⟩
    rcases List.mem_append.mp hl with z|z
    ·exact hB3 l z
    ·rw[List.mem_singleton.mp z,←hrl];exact hBb
   ·rintro σ H3 ⟨bs',ls',a5,rfl,s4,hb4,hT4,hl3,hB4⟩
    have hl6:ls'.length≤5:=by omega
    have s04:=s1.trans s4
    have hS4:=s04.seq hS
    walk_at "rds"
    refine⟨p,b,ns,bs',ls',13,m,_,rfl,hS4,hlen,hb4,hT4,by omega,hB4,by omega,by omega,by omega,fun fo H5 fvs fss hfo s5 hfo5 hF5 hA=>?_⟩
    have s05:=s04.trans s5
    have hS5:=s05.seq hS
    have hb5:=s5 _ _ hb4
    have hT5:=hT4.keep fun b xs e=>s5 _ _ e
    walk_at "rds"
    refine⟨p,b,ns,bs',ls',20,rfl,hS5,hlen,hb5,hT5,by omega,fun l hl=>(hB4 l hl).st,by omega,by omega,fun lo H6 ys xss hlo s6 hlo6 hR6 hnw6 hxl hxs _=>?_⟩
    have s06:=s05.trans s6
    have hR6':ZV H6 ys xss:=hR6.same YT
    have hyl:=hR6.length
    have hS6:=s06.seq hS
    walk_at "rds"
    refine⟨_,m,rfl,by omega,fun nm H14 nms hnm s14 hnm14 hnok hnnd hnml hnlg=>?_⟩
    have s414:=s5.trans (s6.trans s14)
    walk_at "rds"
    refine⟨nm,b,nms,bs',ls',rfl,SqL.of hnm14,hnok,hnnd,by omega,by omega,s414 _ _ hb4,hT4.keep (fun b xs e=>s414 _ _ e),by rw[hnml];exact hB4,by omega,fun ha hfp H15 hh15 hhn s15=>?_⟩
    have s615:Zd H6 H15:=s14.trans s15
    have s515:Zd H5 H15:=s6.trans s615
    have hA':YK ((nms.length:Nat):Int) ls' fss:=by rw[hnml];exact hA
    have hPi:VI xss (startsL ls'):=⟨by rw[hxl];simp[startsL],fun i hi=>by
     rw[hxl] at hi
     rw[hxs i hi]
     simp[startsL,List.getD,hi]⟩
    have hxz:∀i<xss.length,(xss.getD i []).length≤1000:=fun i hi=>by
     have:=hxs i (by omega)
     have:=(hB4 (ls'.getD i dB) (by rw[ZF (by omega)];exact List.getElem_mem _)).st
     omega
    have hBO:YH ls':=⟨by omega,fun l hl=>by
     have B:=hB4 l hl
     have:=B.few
     have:=B.sz
     omega⟩
    have hLn:VC ls' (ls'.map B5.start) (fun i=>xss.getD i []):=⟨by simp,fun i hi=>by
     rw[hxs i hi]
     simp[List.getD,hi]⟩
    have exs:(List.range ls'.length).map (fun j=>xss.getD j [])=xss:=by rw[←hxl,YW (fun x:List Int=>x)];simp
    have hlo15:=s615 _ _ hlo6
    have hlo15q:=SqL.of (K:=K) hlo15
    have hR15:=hR6'.same s615
    walk_at "rds"
    refine ZM (own:=1) (ZG hlo15q).y (Zu (by omega)) (fun j=>[some (ys.getD j .non)]) (fun _=>rfl) (fun _=>true) (fun j v H'=>∃t,v=V.ref t∧H15 t=none∧H' t=some (.lst ((xss.getD j []).map V.int))) (fun _ _ _ _ e ⟨t,z1,z0,z2⟩=>⟨t,z1,z0,e _ _ z2⟩) (fun j a' H' v H3 Kg hi sm y ha' k=>?_) (fun j H' Kc hi sm k=>?_) (fun pp j H' Kc hi hci hp0 hp1 sm k=>?_) (fun hd H16 hz hhd s16 hd16 hR16=>?_)
    ·obtain⟨rfl,rfl⟩:=y
     obtain⟨x1,rfl⟩:∃x1,a'=[x1]:=by
      match a',ha' with
      | [x1],_=>exact⟨x1,rfl⟩
     walk_at "rds"
     exact k _ (Zd.refl _)
    ·walk_at "rds"
     exact k H' (Zd.refl H')
    ·obtain⟨t,et,ht⟩:=YG hR15 (i:=j) (by omega)
     rw[et]
     have htq:=SqL.of (K:=K) (sm _ _ ht)
     walk_at "rds"
     refine⟨t,_,rfl,.inl htq,fun l hl=>?_⟩
     exact k _ _ (Zo hl) ⟨l,rfl,Z2 sm hl,Uq hp1 hl⟩
    ·rw[List.filter_eq_self.mpr (by simp),hyl] at hR16
     have hR16':=(Vd hR16).1
     have hnw16:=(Vd hR16).2
     rw[show(List.range xss.length).map (fun j=>xss.getD j [])=xss by rw[YW (fun x:List Int=>x)];simp] at hR16'
     have hfo16:=s16 _ _ (s515 _ _ hfo5)
     have hfo16q:=SqL.of (K:=K) hfo16
     walk_at "rds"
     refine⟨fo,_,rfl,.inl hfo16q,fun gi hgi=>?_⟩
     have s17:Zd H16 (upd H16 gi (.lst fvs)):=Zo hgi
     have v17:(upd H16 gi (.lst fvs)) gi=some (.lst fvs):=Zg
     generalize upd H16 gi (.lst fvs)=H17 at*
     have s1517:=s16.trans s17
     have hd17:=s17 _ _ hd16
     walk_at "rds"
     refine ZdH (hh15.same s1517) (by dsimp only;omega) (by dsimp only;omega) v17 (hF5.keep fun b xs e=>s1517 _ _ (s515 _ _ e)) hA' hd17 ((hR16'.same YT).same s17) hPi (fun i hi=>by have:=hxz i hi;omega) fun mi fp H18 hm18 hn18 s18=>?_
     dsimp only at hm18
     have hgi18:=s18 _ _ v17
     have hfl:=Paired.length hF5
     have hal:=hA.len
     walk_at "rds"
     refine Rd.cut (fun σ' H'=>σ'=[some (.ref p),some (.int fi),some (.int m),some (.ref ra),some (.ref b),a5,some (.ref fo),some (.ref lo),some (.ref ha),some (.ref hd),some (.ref gi),some (.ref mi),none,none,none,none,none,none]∧Zp [gi] H18 H'∧∃gs,H' gi=some (.lst gs)∧gs.length=fvs.length) ?k1 ?i1
     case i1=>
      walk_at "rds"
      refine⟨by show 0≤sizeLine;decide,fun e1 he1=>?_⟩
      have s19:Zd H18 (upd H18 e1 (.tup [])):=Zo he1
      generalize upd H18 e1 (.tup [])=H19 at*
      have hgi19:=s19 _ _ hgi18
      have hgz:(0:Int)<(fvs.length:Int):=by omega
      walk_at "rds"
      exact⟨rfl,s19.frame.trans (ZR (by simp) hgi19 (by intro _ z;cases z)),_,Zg,List.length_set⟩
     case k1=>
     rintro σ' H19 ⟨rfl,f19,gs,hgs19,hgsl⟩
     walk_at "rds"
     refine Rd.cut (fun σ' H'=>σ'=[some (.ref p),some (.int fi),some (.int m),some (.ref ra),some (.ref b),a5,some (.ref fo),some (.ref lo),some (.ref ha),some (.ref hd),some (.ref gi),some (.ref mi),none,none,none,none,none,none]∧Zp [gi] H18 H') ?k2 ?i2
     case i2=>
      walk_at "rds"
      refine⟨by show 0≤sizeLine;decide,fun e1 he1=>?_⟩
      have s20:Zd H19 (upd H19 e1 (.tup [])):=Zo he1
      generalize upd H19 e1 (.tup [])=H20 at*
      have hgi20:=s20 _ _ hgs19
      have hgz:gs.length<sizeLine:=Zu (by omega)
      walk_at "rds"
      exact⟨rfl,(f19.trans s20.frame).trans (ZR (by simp) hgi20 (by intro _ z;cases z))⟩
     case k2=>
     rintro σ' H20 ⟨rfl,f20⟩
     clear f19 hgs19 hgsl
     have s1518:=s1517.trans s18
     have nhd:hd∉[gi]:=by
      rw[List.mem_singleton]
      exact fun z=>by rw[z] at hd16;rw[hd16] at hgi;cases hgi
     have hd20:=f20.keep _ _ (s18 _ _ hd17) nhd
     have hd20q:=SqL.of (K:=K) hd20
     have hzl:=hR16'.length
     have hrow20:∀j<hz.length,∃t,hz.getD j .non= .ref t∧H15 t=none∧t≠hd∧t∉fp∧H20 t=some (.lst ((xss.getD j []).map V.int)):=fun j hj=>by
      obtain⟨t,et,ht⟩:=YG hR16' (i:=j) (by omega)
      obtain⟨t',et',ht'⟩:=hnw16 (hz.getD j .non) (by rw[ZF hj];exact List.getElem_mem _)
      rw[et] at et'
      cases et'
      have ntd:t≠hd:=fun z=>by rw[z,Ws] at ht;cases ht
      have ht16:=YT _ _ ht
      refine⟨t,et,ht',ntd,fun z=>(by have:=hn18 t z;rw[s17 _ _ ht16] at this;cases this),f20.keep _ _ (s18 _ _ (s17 _ _ ht16)) (by
       rw[List.mem_singleton]
       exact fun z=>by rw[z] at ht16;rw[ht16] at hgi;cases hgi)⟩
     have ngf:gi∉fp:=fun z=>by have:=hn18 gi z;rw[v17] at this;cases this
     have hm20:=hm18.off f20 (fun x hx=>by
      rw[List.mem_singleton]
      exact fun z=>ngf (z▸hx))
     have k1520:∀x o,H15 x=some o→H20 x=some o:=fun x o e=>f20.keep _ _ (s1518 _ _ e) (by
      rw[List.mem_singleton]
      exact fun z=>by rw[z] at e;rw[s16 _ _ e] at hgi;cases hgi)
     walk_at "rds"
     refine Yf (H0:=V6 H20 hd) (ZG (xs:=hz) (SqL.of (by rw[Vb];exact hd20))) (fun i σ H'=>(∀x o,H15 x=some o→H' x=some o)∧Z3 T H' mi ⟨((nms.length:Nat):Int),ls',ls'.map B5.start⟩ fss (fun i=>xss.getD i []) fp∧H' hd=some (.lst hz)∧(∀j<hz.length,∃t zs,hz.getD j .non= .ref t∧H15 t=none∧t≠hd∧t∉fp∧H' t=some (.lst zs)∧zs.length≤1000+i)∧∃a12,σ=[some (.ref p),some (.int fi),some (.int m),some (.ref ra),some (.ref b),a5,some (.ref fo),some (.ref lo),some (.ref ha),some (.ref hd),some (.ref gi),some (.ref mi),a12,none,none,none,none,none]) ⟨k1520,hm20,hd20,fun j hj=>?_,_,rfl⟩ (fun i σ H' h=>Wn (h.2.2.1.trans hd20.symm)) ?_ ?_
     ·obtain⟨t,et,h1,h2,h3,h4⟩:=hrow20 j hj
      exact⟨t,_,et,h1,h2,h3,h4,by rw[List.length_map];have:=hxz j (by omega);omega⟩
     ·rintro i σ H21 hi ⟨k21,hm21,hd21,hr21,a12,rfl⟩
      obtain⟨t,zs,et,ht0,ntd,ntf,ht21,hzz⟩:=hr21 i hi
      rw[et]
      have hzs:zs.length<sizeLine:=Wq (by omega)
      walk_at "rds"
      have f22:Zp [t] H21 (upd H21 t (.lst (zs++ [.int 7]))):=ZR (by simp) ht21 (by intro _ z;cases z)
      refine⟨fun x o e=>f22.keep _ _ (k21 x o e) (by
       rw[List.mem_singleton]
       exact fun z=>by rw[z,ht0] at e;cases e),hm21.off f22 (fun x hx=>by
       rw[List.mem_singleton]
       exact fun z=>ntf (z▸hx)),f22.keep _ _ hd21 (by simpa using Ne.symm ntd),fun j hj=>?_,_,rfl⟩
      obtain⟨t',zs',et',ht0',ntd',ntf',ht21',hzz'⟩:=hr21 j hj
      by_cases e:t'=t
      ·subst e
       exact⟨t',_,et',ht0',ntd',ntf',Zg,by rw[List.length_append];simp;omega⟩
      ·exact⟨t',zs',et',ht0',ntd',ntf',by rw[Zi e];exact ht21',by omega⟩
     ·rintro σ H21 ⟨k21,hm21,hd21,hr21,a12,rfl⟩
      clear hr21 hd21 hm20 hrow20 hd20 hd20q
      have hh21:ZD T H21 ha ⟨nms,ls'⟩ hfp:=hh15.same k21
      walk_at "rds"
      refine⟨ha,_,hfp,rfl,hh21,by dsimp only;omega,by dsimp only;omega,by dsimp only;omega,hnlg,fun H22 hfp2 f22 g22=>?_⟩
      have nfh:∀x∈fp,x∉hfp:=fun x hx z=>by
       have h1:=hn18 x hx
       have h2:=hh15.dom x z
       cases e:H15 x with
       |none=>exact h2 e
       |some o=>rw[s1517 _ _ e] at h1;cases h1
      have hm22:=hm21.off f22 nfh
      have k1422:∀x o,H14 x=some o→H22 x=some o:=fun x o e=>f22.keep _ _ (k21 x o (s15 _ _ e)) (fun z=>by have:=hhn x z;rw[e] at this;cases this)
      have k6:∀x o,H6 x=some o→H22 x=some o:=fun x o e=>k1422 x o (s14 _ _ e)
      have hp0:Zd H6 H22:=k6
      have of:∀x o,H6 x=some o→x∉fp:=fun x o e z=>by
       have h1:=hn18 x z
       rw[s1517 _ _ (s615 _ _ e)] at h1;cases h1
      clear f22 g22 nfh hh21 k21 hm21 f20 k1520 hm18
      walk_at "rds"
      refine⟨mi,_,fss,_,fp,rfl,hm22,by dsimp only;omega,fun to H23 y1 hto s23 hto23 hRt hnt=>?_⟩
      dsimp only at hRt
      have hp3:=hp0.trans s23
      have hlo23:=hp3 _ _ hlo6
      have hlo23q:=SqL.of (K:=K) hlo23
      have hR23:=hR6'.same hp3
      have hm23:=hm22.same s23
      walk_at "rds"
      refine ZM (own:=1) (ZG hlo23q).y (Zu (by omega)) (fun j=>[some (ys.getD j .non)]) (fun _=>rfl) (fun _=>true) (fun j v H'=>∃t,v=V.ref t∧H23 t=none∧H' t=some (.lst ((xss.getD j []).map V.int))) (fun _ _ _ _ e ⟨t,z1,z0,z2⟩=>⟨t,z1,z0,e _ _ z2⟩) (fun j a' H' v H3 Kg hi sm y ha' k=>?_) (fun j H' Kc hi sm k=>?_) (fun pp j H' Kc hi hci hp0 hp1 sm k=>?_) (fun be H24 y2 hbe s24 hbe24 hRb=>?_)
      ·obtain⟨rfl,rfl⟩:=y
       obtain⟨x1,rfl⟩:∃x1,a'=[x1]:=by
        match a',ha' with
        | [x1],_=>exact⟨x1,rfl⟩
       walk_at "rds"
       exact k _ (Zd.refl _)
      ·walk_at "rds"
       exact k H' (Zd.refl H')
      ·obtain⟨t,et,ht⟩:=YG hR23 (i:=j) (by omega)
       rw[et]
       have htq:=SqL.of (K:=K) (sm _ _ ht)
       walk_at "rds"
       refine⟨t,_,rfl,.inl htq,fun l hl=>?_⟩
       exact k _ _ (Zo hl) ⟨l,rfl,Z2 sm hl,Uq hp1 hl⟩
      ·rw[List.filter_eq_self.mpr (by simp),hyl] at hRb
       have hRb':=(Vd hRb).1
       have hnb:=(Vd hRb).2
       have hp4:=hp3.trans s24
       have hm24:=hm23.same s24
       have hS24:=hp4.seq hS6
       walk_at "rds"
       refine Rd.slL hS24 ?_
       intro sc hsc
       rw[show(47:Int)=7+40 from rfl,ZaZ (by decide) (by decide),←List.map_drop,←List.map_take]
       have hcl:((ns.drop (Int.toNat 7)).take (Int.toNat 40)).length≤40:=by rw[List.length_take];exact Nat.min_le_left _ _
       generalize (ns.drop (Int.toNat 7)).take (Int.toNat 40)=cs at*
       have s25:Zd H24 (upd H24 sc (.lst (cs.map V.int))):=Zo hsc
       have v25:(upd H24 sc (.lst (cs.map V.int))) sc=some (.lst (cs.map V.int)):=Zg
       generalize upd H24 sc (.lst (cs.map V.int))=H25 at*
       have hp5:=hp4.trans s25
       have s025:=s06.trans hp5
       have hO25:ZaP K H25 (lo::fp) p (ns.map V.int):=(hS.off (A:=lo::fp) (fun x hx=>by
        rcases List.mem_cons.mp hx with rfl|hx
        ·exact Z2 s05 hlo
        ·exact Z2 (s06.trans (s615.trans s1517)) (hn18 x hx))).frame s025.frame
       have nlo:lo∉fp:=of lo _ hlo6
       have hm25:=hm24.same s25
       have hlo25:=hp5 _ _ hlo6
       have hdom23:∀x∈fp,H23 x≠none:=fun x hx=>hm23.dom x hx
       have hdom22:∀x∈fp,H22 x≠none:=fun x hx=>hm22.dom x hx
       have hRO0:RO H25 ys (fun j=>xss.getD j []) ls'.length lo fp:=⟨by omega,fun j hj=>by
        obtain⟨t,et,ht⟩:=YG hR6 (i:=j) (by omega)
        have ntl:t≠lo:=fun z=>by rw[z,Ws] at ht;cases ht
        have ht6:=YT _ _ ht
        exact⟨t,et,ntl,of t _ ht6,hp5 _ _ ht6⟩⟩
       have hRO1:RO H25 y1 (fun j=>xss.getD j []) ls'.length lo fp:=(RO.new hRt hnt (by rw[hp0 _ _ hlo6];simp) hdom22).same (s24.trans s25)
       rw[show(List.range xss.length).map (fun j=>xss.getD j [])=(List.range ls'.length).map (fun j=>xss.getD j []) by rw[hxl]] at hRb'
       have hRO2:RO H25 y2 (fun j=>xss.getD j []) ls'.length lo fp:=(RO.new hRb' hnb (by rw[hp3 _ _ hlo6];simp) hdom23).same s25
       have nto0:to∉fp∧to≠lo:=⟨fun z=>hdom22 to z hto,fun z=>by rw[z,hp0 _ _ hlo6] at hto;cases hto⟩
       have nbe0:be∉fp∧be≠lo:=⟨fun z=>hdom23 be z hbe,fun z=>by rw[z,hp3 _ _ hlo6] at hbe;cases hbe⟩
       have hto25:=s25 _ _ (s24 _ _ hto23)
       have hbe25:=s25 _ _ hbe24
       have nsc:sc∉lo::fp:=fun z=>by
        rcases List.mem_cons.mp z with z|z
        ·rw[z,hp4 _ _ hlo6] at hsc;cases hsc
        ·exact hm24.dom sc z hsc
       have hst0:∀j<ls'.length,(xss.getD j []).length≤1000:=fun j hj=>hxz j (by omega)
       have v25q:=SqL.of (K:=K) v25
       walk_at "rds"
       refine Yf (H0:=V6 H25 sc) (ZG (xs:=cs.map V.int) (SqL.of (by rw[Vb];exact v25))) (fun i σ H'=>Zp (lo::fp) H25 H'∧∃(fp':List Addr) (hs:List Int) (st:Nat→List Int) (y0 y1 y2:List V) (to' be':Addr) (a15 a16 a17:Option V),σ=[some (.ref p),some (.int fi),some (.int m),some (.ref ra),some (.ref b),a5,some (.ref fo),some (.ref lo),some (.ref ha),some (.ref hd),some (.ref gi),some (.ref mi),a12,some (.ref to'),some (.ref be'),a15,a16,a17]∧ZO fp fp' H25∧Z3 T H' mi ⟨((nms.length:Nat):Int),ls',hs⟩ fss st fp'∧VC ls' hs st∧(∀j<ls'.length,(st j).length≤1000+1000*i)∧lo∉fp'∧H' lo=some (.lst y0)∧RO H' y0 st ls'.length lo fp'∧(to'∉fp'∧to'≠lo∧H' to'=some (.lst y1)∧RO H' y1 st ls'.length lo fp')∧(be'∉fp'∧be'≠lo∧H' be'=some (.lst y2)∧RO H' y2 st ls'.length lo fp')) ⟨Zp.refl,fp,_,_,ys,y1,y2,to,be,_,_,_,rfl,ZO.refl,hm25,hLn,fun j hj=>(by have:=hst0 j hj;omega),nlo,hlo25,hRO0,⟨nto0.1,nto0.2,hto25,hRO1⟩,⟨nbe0.1,nbe0.2,hbe25,hRO2⟩⟩ (fun i σ H' h=>Wn ((h.1.keep _ _ v25 nsc).trans v25.symm)) ?_ ?_
       ·clear hRO0 hRO1 hRO2 hto25 hbe25 hlo25 hm25 hRb' hnb hRb hRt hnt hdom22 hdom23 hm24 hm23 hm22 hR23 hlo23q hlo23 hto hto23 hbe hbe24 nto0 nbe0
        try clear hO25
        try clear hn18
        try clear v25
        try clear nsc
        try clear v25q
        try clear hst0
        try clear hsc
        try clear hS24
        try clear s025
        try clear hp4
        try clear s25
        try clear hbe
        try clear hRb
        try clear hto
        try clear hRt
        try clear hnt
        try clear hS6
        try clear exs
        try clear hra1
        try clear hraq
        try clear hrs
        try clear hrl
        try clear hS1
        try clear s2
        try clear v2
        try clear hb
        try clear hb0
        try clear hm
        try clear s4
        try clear hb4
        try clear hl3
        try clear s04
        try clear hS4
        try clear hS5
        try clear hT5
        try clear hfo
        try clear s05
        try clear hR6
        try clear hnw6
        try clear hxs
        try clear s06
        try clear hR6'
        try clear hyl
        try clear hnm
        try clear s14
        try clear hnm14
        try clear hnok
        try clear hnnd
        try clear hnlg
        try clear s414
        try clear hh15
        try clear hhn
        try clear s15
        try clear s615
        try clear s515
        try clear hPi
        try clear hLn
        try clear exs
        try clear hlo15
        try clear hlo15q
        try clear hR15
        try clear hhd
        try clear s16
        try clear hd16
        try clear hR16
        try clear hR16'
        try clear hnw16
        try clear hfo16
        try clear hfo16q
        try clear hgi
        try clear s17
        try clear v17
        try clear s1517
        try clear hd17
        try clear s18
        try clear hgi18
        try clear hfl
        try clear hal
        try clear hzl
        try clear ngf
        try clear nhd
        try clear s1518
        try clear k1422
        try clear k6
        try clear hp0
        try clear hp3
        try clear s23
        try clear s24
        try clear hlo6
        try clear hxz
        try clear hS
        try clear hra
        try clear s1
        try clear nlo
        try clear y1
        try clear y2
        try clear hS24
        try clear hB4
        try clear hA
        try clear k
        try clear hlen
        rintro i σ H26 hi ⟨f26,fp',hs,st,y0,y1,y2,to',be',a15,a16,a17,rfl,g26,hm26,hL26,hz26,nlo',hlo26,hro,⟨nto,ntl,hto26,hrt⟩,⟨nbe,nbl,hbe26,hrb⟩⟩
        have hil:i<cs.length:=by simpa using hi
        have ev:(cs.map V.int).getD i .non= .int cs[i]:=by simp[List.getD,hil]
        rw[ev]
        generalize cs[i]=cv at*
        have hi40:i<40:=by omega
        have md:0<(m:Int)+1:=by omega
        walk_at "rds"
        refine Rd.cut (fun σ' H'=>H'=H26∧∃wk:Int,σ'=[some (.ref p),some (.int fi),some (.int m),some (.ref ra),some (.ref b),a5,some (.ref fo),some (.ref lo),some (.ref ha),some (.ref hd),some (.ref gi),some (.ref mi),a12,some (.ref to'),some (.ref be'),some (.int cv),some (.int wk),a17]) ?kw ?iw
        case iw=>
         walk_at "rds"
         refine Rd.ifD (fun c=>?_) (fun c=>?_)
         ·walk_at "rds"
          exact⟨rfl,_,rfl⟩
         ·walk_at "rds"
          exact⟨rfl,_,rfl⟩
        case kw=>
        rintro σ' H' ⟨rfl,wk,rfl⟩
        have ehs:((List.range ls'.length).map st).map (fun xs=>(xs.length:Int))=hs:=by
         refine List.ext_getElem (by simp[hL26.1]) fun j h1 h2=>?_
         have hj:j<ls'.length:=by simpa using h1
         simp only[List.getElem_map,List.getElem_range]
         rw[hL26.2 j hj,ZF h2]
        have hbl4:=hT4.length
        have kx:∀x o,H6 x=some o→x≠lo→H' x=some o:=fun x o e n=>f26.keep _ _ (hp5 _ _ e) (fun z=>by
         rcases List.mem_cons.mp z with z|z
         ·exact n z
         ·exact of x o e z)
        have nblo:b≠lo:=fun z=>by rw[←z,hb5] at hlo;cases hlo
        have nflo:fo≠lo:=fun z=>by rw[←z,hfo5] at hlo;cases hlo
        have hb26:=kx _ _ (s6 _ _ hb5) nblo
        have hfo26:=kx _ _ (s6 _ _ hfo5) nflo
        have hb26q:=SqL.of (K:=K) hb26
        have tk:∀x xs,H3 x=some (.tup xs)→H' x=some (.tup xs):=fun x xs e=>f26.tups _ _ (hp5 _ _ (s6 _ _ (s5 _ _ e)))
        have tk5:∀x xs,H5 x=some (.tup xs)→H' x=some (.tup xs):=fun x xs e=>f26.tups _ _ (hp5 _ _ (s6 _ _ e))
        have hT26:=hT4.keep tk
        have hF26:=hF5.keep tk5
        walk_at "rds"
        refine Rd.cut (fun σ' H2=>Zd H' H2∧∃dv:Int,σ'=[some (.ref p),some (.int fi),some (.int m),some (.ref ra),some (.ref b),a5,some (.ref fo),some (.ref lo),some (.ref ha),some (.ref hd),some (.ref gi),some (.ref mi),a12,some (.ref to'),some (.ref be'),some (.int cv),some (.int wk),some (.int dv)]∧((dv=1∧turnR ((nms.length:Nat):Int) ls' hs wk= .error true)∨(dv=3∧turnR ((nms.length:Nat):Int) ls' hs wk= .error false)∨(dv=0∧turnR ((nms.length:Nat):Int) ls' hs wk= .ok (WC ls' hs wk)))) ?kd ?id
        case id=>
         by_cases c0:0≤wk
         ·by_cases c1:wk<(m:Int)
          ·walk_at "rds"
           refine⟨b,lo,wk,bs',y0,ls',(List.range ls'.length).map st,rfl,hb26q,hT26,SqL.of hlo26,hro.rows,by simp,by omega,fun H2 s2=>?_⟩
           rw[ehs]
           by_cases c2:Y0 ls' hs wk=true
           ·rw[c2]
            walk_at "rds"
            refine⟨s2,_,rfl,.inr (.inr ⟨rfl,?_⟩)⟩
            unfold turnR
            rw[if_pos (by omega),if_pos c2]
           ·have c2':Y0 ls' hs wk=false:=by simpa using c2
            rw[c2']
            walk_at "rds"
            refine⟨s2,_,rfl,.inr (.inl ⟨rfl,?_⟩)⟩
            unfold turnR
            rw[if_pos (by omega),if_neg c2]
          ·walk_at "rds"
           refine⟨Zd.refl _,_,rfl,.inl ⟨rfl,?_⟩⟩
           unfold turnR
           rw[if_neg (by omega)]
         ·walk_at "rds"
          refine⟨Zd.refl _,_,rfl,.inl ⟨rfl,?_⟩⟩
          unfold turnR
          rw[if_neg (by omega)]
        case kd=>
        rintro σ' H27 ⟨s27,dv,rfl,hdv⟩
        have f27:Zp (lo::fp) H25 H27:=f26.trans s27.frame
        have hm27:=hm26.same s27
        have hlo27:=s27 _ _ hlo26
        have hto27:=s27 _ _ hto26
        have hbe27:=s27 _ _ hbe26
        have hro27:=hro.same s27
        have hrt27:=hrt.same s27
        have hrb27:=hrb.same s27
        have hz49:∀j<ls'.length,(st j).length≤49000:=fun j hj=>by have:=hz26 j hj;omega
        walk_at "rds"
        refine Rd.cut (fun σ' H'=>Zp (lo::fp) H25 H'∧∃(dv:Int) (fp2:List Addr) (hs2:List Int) (st2:Nat→List Int),σ'=[some (.ref p),some (.int fi),some (.int m),some (.ref ra),some (.ref b),a5,some (.ref fo),some (.ref lo),some (.ref ha),some (.ref hd),some (.ref gi),some (.ref mi),a12,some (.ref to'),some (.ref be'),some (.int cv),some (.int wk),some (.int dv)]∧ZO fp fp2 H25∧Z3 T H' mi ⟨((nms.length:Nat):Int),ls',hs2⟩ fss st2 fp2∧VC ls' hs2 st2∧(∀j<ls'.length,(st2 j).length≤1000+1000*(i+1))∧lo∉fp2∧H' lo=some (.lst y0)∧RO H' y0 st ls'.length lo fp2∧(to'∉fp2∧to'≠lo∧H' to'=some (.lst y1)∧RO H' y1 st ls'.length lo fp2)∧(be'∉fp2∧be'≠lo∧H' be'=some (.lst y2)∧RO H' y2 st ls'.length lo fp2)∧((dv=0∧(0≤wk∧wk<((nms.length:Nat):Int))∧MM.ok (ZA ls' fss) st wk∧st2=MM.step (ZA ls' fss) st wk)∨(dv≠0∧st2=st))) ?k1 ?i1
        case i1=>
         walk_at "rds"
         refine⟨mi,wk,_,fss,st,fp',rfl,hm27,hA',hBO,hL26,hz49,fun e H2 s2=>?_,fun e H2 s2=>?_,fun hs2 e H2 fp2 hm2 hL2 f2 g2=>?_⟩
         ·dsimp only at e
          rcases hdv with⟨rfl,hd'⟩|⟨rfl,hd'⟩|⟨rfl,hd'⟩
          ·walk_at "rds"
           exact⟨f27.trans s2.frame,_,fp',hs,st,rfl,g26,hm27.same s2,hL26,fun j hj=>(by have:=hz26 j hj;omega),nlo',s2 _ _ hlo27,hro27.same s2,⟨nto,ntl,s2 _ _ hto27,hrt27.same s2⟩,⟨nbe,nbl,s2 _ _ hbe27,hrb27.same s2⟩,.inr ⟨by decide,rfl⟩⟩
          ·rw[hd'] at e;cases e
          ·rw[hd'] at e;cases e
         ·dsimp only at e
          rcases hdv with⟨rfl,hd'⟩|⟨rfl,hd'⟩|⟨rfl,hd'⟩
          ·rw[hd'] at e;cases e
          ·walk_at "rds"
           exact⟨f27.trans s2.frame,_,fp',hs,st,rfl,g26,hm27.same s2,hL26,fun j hj=>(by have:=hz26 j hj;omega),nlo',s2 _ _ hlo27,hro27.same s2,⟨nto,ntl,s2 _ _ hto27,hrt27.same s2⟩,⟨nbe,nbl,s2 _ _ hbe27,hrb27.same s2⟩,.inr ⟨by decide,rfl⟩⟩
          ·rw[hd'] at e;cases e
         ·dsimp only at e hm2 hL2
          rcases hdv with⟨rfl,hd'⟩|⟨rfl,hd'⟩|⟨rfl,hd'⟩
          ·rw[hd'] at e;cases e
          ·rw[hd'] at e;cases e
          ·obtain⟨hw,hok,_⟩:=ZcJ hBO hA' hL26 e
           have g2':ZO fp fp2 H25:=fun x hx=>(g2 x hx).elim (g26 x) fun z=>(by
            cases e1:H25 x with
            |none=>exact .inr rfl
            |some o=>
             by_cases e2:x∈fp
             ·exact .inl e2
             ·have e3:x≠lo:=fun y=>by rw[y,hlo27] at z;cases z
              rw[f27.keep x o e1 (by simp[e2,e3])] at z;cases z)
           walk_at "rds"
           exact⟨Nm.Zp.grow f27 (fun x hx=>(g26 x hx).imp (List.mem_cons_of_mem _) id) f2,_,fp2,hs2,_,rfl,g2',hm2,hL2,fun j hj=>(by have:=hz26 j hj;have:=Zcs hBO hj (st:=st) (w:=wk) (fss:=fss);omega),g2.off nlo' (by rw[hlo27];simp),f2.keep _ _ hlo27 nlo',hro27.turn f2 g2,⟨g2.off nto (by rw[hto27];simp),ntl,f2.keep _ _ hto27 nto,hrt27.turn f2 g2⟩,⟨g2.off nbe (by rw[hbe27];simp),nbl,f2.keep _ _ hbe27 nbe,hrb27.turn f2 g2⟩,.inl ⟨rfl,hw,hok,rfl⟩⟩
        case k1=>
        clear hro hrt hrb hro27 hrt27 hrb27 hm26 hm27 hlo26 hlo27 hto26 hto27 hbe26 hbe27 hdv hb26 hb26q hfo26 hT26 hF26 kx tk tk5 f27 s27 g26 hL26 hz49 ehs nto nbe nlo'
        rintro σ' H28 ⟨f28,dv,fp2,hs2,st2,rfl,g28,hm28,hL28,hz28,nlo2,hlo28,hro28,⟨nto2,_,hto28,hrt28⟩,⟨nbe2,_,hbe28,hrb28⟩,hcase⟩
        walk_at "rds"
        refine Rd.cut (fun σ' H'=>Zp (lo::fp) H25 H'∧∃(dv:Int) (y3:List V),σ'=[some (.ref p),some (.int fi),some (.int m),some (.ref ra),some (.ref b),a5,some (.ref fo),some (.ref lo),some (.ref ha),some (.ref hd),some (.ref gi),some (.ref mi),a12,some (.ref to'),some (.ref be'),some (.int cv),some (.int wk),some (.int dv)]∧Z3 T H' mi ⟨((nms.length:Nat):Int),ls',hs2⟩ fss st2 fp2∧H' lo=some (.lst y3)∧RO H' y3 st2 ls'.length lo fp2∧H' to'=some (.lst y1)∧RO H' y1 st ls'.length lo fp2∧H' be'=some (.lst y2)∧RO H' y2 st ls'.length lo fp2) ?k2 ?i2
        case i2=>
         rcases hcase with⟨rfl,hw,hok,rfl⟩|⟨nz,rfl⟩
         ·have kx:∀x o,H6 x=some o→x≠lo→H28 x=some o:=fun x o e n=>f28.keep _ _ (hp5 _ _ e) (fun z=>by
           rcases List.mem_cons.mp z with z|z
           ·exact n z
           ·exact of x o e z)
          walk_at "rds"
          refine⟨b,fo,lo,wk,bs',fvs,y0,ls',fss,st,((nms.length:Nat):Int),rfl,kx _ _ (s6 _ _ hb5) nblo,hT4.keep (fun x xs e=>f28.tups _ _ (hp5 _ _ (s6 _ _ (s5 _ _ e)))),kx _ _ (s6 _ _ hfo5) nflo,hF5.keep (fun x xs e=>f28.tups _ _ (hp5 _ _ (s6 _ _ e))),hlo28,Ne.symm nblo,Ne.symm nflo,hro28.1,fun j hj=>?_,hBO,hA',hw.1,hw.2,hok,fun j hj=>(by have:=hz26 j hj;omega),fun H2 y3 f2 hlo2 hyl2 hR2=>?_⟩
          ·obtain⟨t,e,n1,_,ht⟩:=hro28.2 j hj
           exact⟨t,e,n1,ht,.inl (by rw[←e,ZF (by rw[hro28.1];exact hj)];exact List.getElem_mem _)⟩
          ·have hm2:=hm28.off f2 (fun x hx=>by
            rw[List.mem_singleton]
            exact fun z=>nlo2 (z▸hx))
           walk_at "rds"
           refine⟨f28.trans (f2.mono fun x hx=>by rw[List.mem_singleton.mp hx];exact List.mem_cons_self),_,y3,rfl,hm2,hlo2,⟨hyl2,fun j hj=>?_⟩,f2.keep _ _ hto28 (by simpa using ntl),hrt28.mill f2,f2.keep _ _ hbe28 (by simpa using nbl),hrb28.mill f2⟩
           obtain⟨t,e,n1,ht,mm⟩:=hR2 j hj
           refine⟨t,e,n1,fun z=>?_,ht⟩
           rcases mm with mm|mm
           ·obtain⟨q1,hq1,hq2⟩:=List.getElem_of_mem mm
            obtain⟨t',e',_,n2',_⟩:=hro28.2 q1 (by rw[←hro28.1];exact hq1)
            rw[ZF hq1,hq2] at e'
            cases e'
            exact n2' z
           ·exact hm28.dom t z mm
         ·walk_at "rds"
          exact⟨f28,_,y0,rfl,hm28,hlo28,hro28,hto28,hrt28,hbe28,hrb28⟩
        case k2=>
        clear hro28 hrt28 hrb28 hm28 hlo28 hto28 hbe28 hcase f28
        rintro σ' H29 ⟨f29,dv',y3,rfl,hm29,hlo29,hro29,hto29,hrt29,hbe29,hrb29⟩
        walk_at "rds"
        refine⟨to',be',y1,y2,(List.range ls'.length).map st,rfl,hto29,hrt29.rows,hbe29,hrb29.rows,by simp;omega,?_⟩
        walk_at "rds"
        refine⟨mi,_,fss,st2,fp2,rfl,hm29,by dsimp only;omega,fun j hj=>(by have:=hz28 j hj;omega),fun to2 H30 y4 hto2 s30 hto30 hR30 hn30=>?_⟩
        dsimp only at hR30
        have hlo30:=s30 _ _ hlo29
        have hlo30q:=SqL.of (K:=K) hlo30
        have hR3:=hro29.rows.same s30
        have hy3n:=hro29.1
        have hdm29:=hm29.dom
        have hRO4:RO H30 y4 st2 ls'.length lo fp2:=RO.new hR30 hn30 (by rw[hlo29];simp) hdm29
        have hx2l:((List.range ls'.length).map st2).length=ls'.length:=by simp
        generalize hX2:(List.range ls'.length).map st2=X2 at*
        have hy3x:y3.length=X2.length:=by omega
        walk_at "rds"
        refine ZM (own:=1) (ZG hlo30q).y (Zu (by omega)) (fun j=>[some (y3.getD j .non)]) (fun _=>rfl) (fun _=>true) (fun j v H'=>∃t,v=V.ref t∧H30 t=none∧H' t=some (.lst ((X2.getD j []).map V.int))) (fun _ _ _ _ e ⟨t,z1,z0,z2⟩=>⟨t,z1,z0,e _ _ z2⟩) (fun j a' H' v H3 Kg hi sm y ha' k=>?_) (fun j H' Kc hi sm k=>?_) (fun pp j H' Kc hi hci hp0 hp1 sm k=>?_) (fun be2 H31 y5 hbe2 s31 hbe31 hR31=>?_)
        ·obtain⟨rfl,rfl⟩:=y
         obtain⟨x1,rfl⟩:∃x1,a'=[x1]:=by
          match a',ha' with
          | [x1],_=>exact⟨x1,rfl⟩
         walk_at "rds"
         exact k _ (Zd.refl _)
        ·walk_at "rds"
         exact k H' (Zd.refl H')
        ·obtain⟨t,et,ht⟩:=YG hR3 (i:=j) (by omega)
         rw[et]
         have htq:=SqL.of (K:=K) (sm _ _ ht)
         walk_at "rds"
         refine⟨t,_,rfl,.inl htq,fun l hl=>?_⟩
         exact k _ _ (Zo hl) ⟨l,rfl,Z2 sm hl,Uq hp1 hl⟩
        ·rw[List.filter_eq_self.mpr (by simp),hy3x] at hR31
         have hR31':=(Vd hR31).1
         have hn31:=(Vd hR31).2
         rw[show(List.range X2.length).map (fun j=>X2.getD j [])=X2 by rw[YW (fun x:List Int=>x)];simp] at hR31'
         have hm31:=hm29.same (s30.trans s31)
         have hlo31:=s31 _ _ hlo30
         have hto31:=s31 _ _ hto30
         have hRO4':=hRO4.same s31
         have hRO5:RO H31 y5 st2 ls'.length lo fp2:=by
          rw[←hX2] at hR31'
          exact RO.new hR31' hn31 (by rw[hlo30];simp) (fun x hx=>(hm29.same s30).dom x hx)
         have hrw4:=hRO4'.rows
         have hrw5:=hRO5.rows
         rw[hX2] at hrw4 hrw5
         walk_at "rds"
         refine⟨to2,be2,y4,y5,X2,rfl,hto31,hrw4,hbe31,hrw5,by omega,?_⟩
         walk_at "rds"
         exact⟨f29.trans (s30.trans s31).frame,fp2,hs2,st2,y3,y4,y5,to2,be2,_,_,_,rfl,g28,hm31,hL28,hz28,nlo2,hlo31,hro29.same (s30.trans s31),⟨fun z=>hdm29 to2 z hto2,fun z=>(by rw[z,hlo29] at hto2;cases hto2),hto31,hRO4'⟩,⟨fun z=>(hm29.same s30).dom be2 z hbe2,fun z=>(by rw[z,hlo30] at hbe2;cases hbe2),hbe31,hRO5⟩⟩
       ·rintro σ H26 ⟨f26,fp',hs,st,y0,y1,y2,to',be',a15,a16,a17,rfl,g26,hm26,_⟩
        have nblo:b≠lo:=fun z=>by rw[←z,hb5] at hlo;cases hlo
        have nflo:fo≠lo:=fun z=>by rw[←z,hfo5] at hlo;cases hlo
        have kx:∀x o,H6 x=some o→x≠lo→H26 x=some o:=fun x o e n=>f26.keep _ _ (hp5 _ _ e) (fun z=>by
         rcases List.mem_cons.mp z with z|z
         ·exact n z
         ·exact of x o e z)
        walk_at "rds"
        refine⟨p,b,fo,ns,bs',fvs,ls',fss,m,rfl,(hO25.frame f26).sq,hlen,kx _ _ (s6 _ _ hb5) nblo,hT4.keep (fun x xs e=>f26.tups _ _ (hp5 _ _ (s6 _ _ (s5 _ _ e)))),kx _ _ (s6 _ _ hfo5) nflo,hF5.keep (fun x xs e=>f26.tups _ _ (hp5 _ _ (s6 _ _ e))),by omega,hB4,hA,by omega,fun H27 s27=>?_⟩
        exact k _
end
abbrev nG (K:PySem.W.Frag) (x:Str) (f:Addr):Prop:=PySem.W.nsIn K mainGlobals x=some (some (.ref f))
abbrev mG (K:PySem.W.Frag) (C:Addr) (x:Str) (f:Addr):Prop:=PySem.W.findIn K (.ref C) x=some (some (.ref f))
abbrev iF (K:PySem.W.Frag) (f:Addr):Prop:=PySem.W.isFn K (.ref f)=true
abbrev lK (K:PySem.W.Frag) (f:Addr) (oc:Value) (od:Option Addr) (nm q:Str) (s:Stmt) (dv kV dc pm:Value) (an:Option Addr) (cd ct:Value) (sl:Array (Option Value)):Prop:=K.lookup f=some ⟨oc,od,.func (PySem.W.fnOf nm q (Vf s) (WF s) (Zh s) dv kV dc pm an cd ct),sl⟩
abbrev cI (K:PySem.W.Frag) (cd:Value) (q:Str):Prop:=PySem.W.codeIn K cd q=true
abbrev kI (K:PySem.W.Frag) (f:Addr):Prop:=PySem.W.keepIn K (.ref f)=true
theorem tp_mk {K:PySem.W.Frag} {h:Heap} {mg:Str→Option Value} (X:K.In h) (G:h.Ns mainGlobals mg)
  {C_Floor:Addr}
  {C_Mill:Addr}
  {C_Lane:Addr}
  {C_Hall:Addr}
  {X_RateError:Addr}
  {X_NoName:Addr}
  {X_Twice:Addr}
  {X_TooMuch:Addr}
  {X_NoWork:Addr}
  {X_NoBelt:Addr}
  {X_NoRate:Addr}
  {X_Empty:Addr}
  {X_NoForm:Addr}
  {X_NoPieces:Addr}
  {tk_MOST_LETTERS:Tok}
  {tk_MOST_WORKS:Tok}
  {tk_MOST_BELTS:Tok}
  {dT_Hall_belt:Addr} {od2_Hall_belt:Option Addr} {sl2_Hall_belt:Array (Option Value)} {n2_Hall_belt:Nat} {oc2_Hall_belt:Value} {dk0_Hall_belt:Tok}
  {f_0:Addr} {od_0 an_0:Option Addr} {sl_0:Array (Option Value)} {oc_0 kV_0 dc_0 pm_0 cd_0 ct_0:Value}
  {f_1:Addr} {od_1 an_1:Option Addr} {sl_1:Array (Option Value)} {oc_1 kV_1 dc_1 pm_1 cd_1 ct_1:Value}
  {f_2:Addr} {od_2 an_2:Option Addr} {sl_2:Array (Option Value)} {oc_2 kV_2 dc_2 pm_2 cd_2 ct_2:Value}
  {f_3:Addr} {od_3 an_3:Option Addr} {sl_3:Array (Option Value)} {oc_3 kV_3 dc_3 pm_3 cd_3 ct_3:Value}
  {f_4:Addr} {od_4 an_4:Option Addr} {sl_4:Array (Option Value)} {oc_4 kV_4 dc_4 pm_4 cd_4 ct_4:Value}
  {f_5:Addr} {od_5 an_5:Option Addr} {sl_5:Array (Option Value)} {oc_5 kV_5 dc_5 pm_5 cd_5 ct_5:Value}
  {f_6:Addr} {od_6 an_6:Option Addr} {sl_6:Array (Option Value)} {oc_6 kV_6 dc_6 pm_6 cd_6 ct_6:Value}
  {f_7:Addr} {od_7 an_7:Option Addr} {sl_7:Array (Option Value)} {oc_7 kV_7 dc_7 pm_7 cd_7 ct_7:Value}
  {f_8:Addr} {od_8 an_8:Option Addr} {sl_8:Array (Option Value)} {oc_8 kV_8 dc_8 pm_8 cd_8 ct_8:Value}
  {f_9:Addr} {od_9 an_9:Option Addr} {sl_9:Array (Option Value)} {oc_9 kV_9 dc_9 pm_9 cd_9 ct_9:Value}
  {f_10:Addr} {od_10 an_10:Option Addr} {sl_10:Array (Option Value)} {oc_10 kV_10 dc_10 pm_10 cd_10 ct_10:Value}
  {f_11:Addr} {od_11 an_11:Option Addr} {sl_11:Array (Option Value)} {oc_11 kV_11 dc_11 pm_11 cd_11 ct_11:Value}
  {f_12:Addr} {od_12 an_12:Option Addr} {sl_12:Array (Option Value)} {oc_12 kV_12 dc_12 pm_12 cd_12 ct_12:Value}
  {f_13:Addr} {od_13 an_13:Option Addr} {sl_13:Array (Option Value)} {oc_13 kV_13 dc_13 pm_13 cd_13 ct_13:Value}
  {f_14:Addr} {od_14 an_14:Option Addr} {sl_14:Array (Option Value)} {oc_14 kV_14 dc_14 pm_14 cd_14 ct_14:Value}
  {f_15:Addr} {od_15 an_15:Option Addr} {sl_15:Array (Option Value)} {oc_15 kV_15 dc_15 pm_15 cd_15 ct_15:Value}
  {f_16:Addr} {od_16 an_16:Option Addr} {sl_16:Array (Option Value)} {oc_16 kV_16 dc_16 pm_16 cd_16 ct_16:Value}
  {f_17:Addr} {od_17 an_17:Option Addr} {sl_17:Array (Option Value)} {oc_17 kV_17 dc_17 pm_17 cd_17 ct_17:Value}
  {f_18:Addr} {od_18 an_18:Option Addr} {sl_18:Array (Option Value)} {oc_18 kV_18 dc_18 pm_18 cd_18 ct_18:Value}
  {f_19:Addr} {od_19 an_19:Option Addr} {sl_19:Array (Option Value)} {oc_19 kV_19 dc_19 pm_19 cd_19 ct_19:Value}
  {f_20:Addr} {od_20 an_20:Option Addr} {sl_20:Array (Option Value)} {oc_20 kV_20 dc_20 pm_20 cd_20 ct_20:Value}
  {f_21:Addr} {od_21 an_21:Option Addr} {sl_21:Array (Option Value)} {oc_21 kV_21 dc_21 pm_21 cd_21 ct_21:Value}
  {f_22:Addr} {od_22 an_22:Option Addr} {sl_22:Array (Option Value)} {oc_22 kV_22 dc_22 pm_22 cd_22 ct_22:Value}
  {f_23:Addr} {od_23 an_23:Option Addr} {sl_23:Array (Option Value)} {oc_23 kV_23 dc_23 pm_23 cd_23 ct_23:Value}
  {f_24:Addr} {od_24 an_24:Option Addr} {sl_24:Array (Option Value)} {oc_24 kV_24 dc_24 pm_24 cd_24 ct_24:Value}
  {f_25:Addr} {od_25 an_25:Option Addr} {sl_25:Array (Option Value)} {oc_25 kV_25 dc_25 pm_25 cd_25 ct_25:Value}
  {f_26:Addr} {od_26 an_26:Option Addr} {sl_26:Array (Option Value)} {oc_26 kV_26 dc_26 pm_26 cd_26 ct_26:Value}
  {f_27:Addr} {od_27 an_27:Option Addr} {sl_27:Array (Option Value)} {oc_27 kV_27 dc_27 pm_27 cd_27 ct_27:Value}
  {f_28:Addr} {od_28 an_28:Option Addr} {sl_28:Array (Option Value)} {oc_28 kV_28 dc_28 pm_28 cd_28 ct_28:Value}
  {f_29:Addr} {od_29 an_29:Option Addr} {sl_29:Array (Option Value)} {oc_29 kV_29 dc_29 pm_29 cd_29 ct_29:Value}
  {f_30:Addr} {od_30 an_30:Option Addr} {sl_30:Array (Option Value)} {oc_30 kV_30 dc_30 pm_30 cd_30 ct_30:Value}
  {f_31:Addr} {od_31 an_31:Option Addr} {sl_31:Array (Option Value)} {oc_31 kV_31 dc_31 pm_31 cd_31 ct_31:Value}
  {f_32:Addr} {od_32 an_32:Option Addr} {sl_32:Array (Option Value)} {oc_32 kV_32 dc_32 pm_32 cd_32 ct_32:Value}
  {f_33:Addr} {od_33 an_33:Option Addr} {sl_33:Array (Option Value)} {oc_33 kV_33 dc_33 pm_33 cd_33 ct_33:Value}
  {f_34:Addr} {od_34 an_34:Option Addr} {sl_34:Array (Option Value)} {oc_34 kV_34 dc_34 pm_34 cd_34 ct_34:Value}
  {f_35:Addr} {od_35 an_35:Option Addr} {sl_35:Array (Option Value)} {oc_35 kV_35 dc_35 pm_35 cd_35 ct_35:Value}
  {f_36:Addr} {od_36 an_36:Option Addr} {sl_36:Array (Option Value)} {oc_36 kV_36 dc_36 pm_36 cd_36 ct_36:Value}
  {f_37:Addr} {od_37 an_37:Option Addr} {sl_37:Array (Option Value)} {oc_37 kV_37 dc_37 pm_37 cd_37 ct_37:Value}
  {f_38:Addr} {od_38 an_38:Option Addr} {sl_38:Array (Option Value)} {oc_38 kV_38 dc_38 pm_38 cd_38 ct_38:Value}
  {f_39:Addr} {od_39 an_39:Option Addr} {sl_39:Array (Option Value)} {oc_39 kV_39 dc_39 pm_39 cd_39 ct_39:Value}
  {f_40:Addr} {od_40 an_40:Option Addr} {sl_40:Array (Option Value)} {oc_40 kV_40 dc_40 pm_40 cd_40 ct_40:Value}
  {f_41:Addr} {od_41 an_41:Option Addr} {sl_41:Array (Option Value)} {oc_41 kV_41 dc_41 pm_41 cd_41 ct_41:Value}
  {f_42:Addr} {od_42 an_42:Option Addr} {sl_42:Array (Option Value)} {oc_42 kV_42 dc_42 pm_42 cd_42 ct_42:Value}
  {f_43:Addr} {od_43 an_43:Option Addr} {sl_43:Array (Option Value)} {oc_43 kV_43 dc_43 pm_43 cd_43 ct_43:Value}
  {f_44:Addr} {od_44 an_44:Option Addr} {sl_44:Array (Option Value)} {oc_44 kV_44 dc_44 pm_44 cd_44 ct_44:Value}
  {f_45:Addr} {od_45 an_45:Option Addr} {sl_45:Array (Option Value)} {oc_45 kV_45 dc_45 pm_45 cd_45 ct_45:Value}
  {f_46:Addr} {od_46 an_46:Option Addr} {sl_46:Array (Option Value)} {oc_46 kV_46 dc_46 pm_46 cd_46 ct_46:Value}
  {f_47:Addr} {od_47 an_47:Option Addr} {sl_47:Array (Option Value)} {oc_47 kV_47 dc_47 pm_47 cd_47 ct_47:Value}
  {f_48:Addr} {od_48 an_48:Option Addr} {sl_48:Array (Option Value)} {oc_48 kV_48 dc_48 pm_48 cd_48 ct_48:Value}
  {f_49:Addr} {od_49 an_49:Option Addr} {sl_49:Array (Option Value)} {oc_49 kV_49 dc_49 pm_49 cd_49 ct_49:Value}
  {f_50:Addr} {od_50 an_50:Option Addr} {sl_50:Array (Option Value)} {oc_50 kV_50 dc_50 pm_50 cd_50 ct_50:Value}
  {f_51:Addr} {od_51 an_51:Option Addr} {sl_51:Array (Option Value)} {oc_51 kV_51 dc_51 pm_51 cd_51 ct_51:Value}
  {f_52:Addr} {od_52 an_52:Option Addr} {sl_52:Array (Option Value)} {oc_52 kV_52 dc_52 pm_52 cd_52 ct_52:Value}
  {f_53:Addr} {od_53 an_53:Option Addr} {sl_53:Array (Option Value)} {oc_53 kV_53 dc_53 pm_53 cd_53 ct_53:Value}
  {f_54:Addr} {od_54 an_54:Option Addr} {sl_54:Array (Option Value)} {oc_54 kV_54 dc_54 pm_54 cd_54 ct_54:Value}
  {f_55:Addr} {od_55 an_55:Option Addr} {sl_55:Array (Option Value)} {oc_55 kV_55 dc_55 pm_55 cd_55 ct_55:Value}
  (a_Floor:PySem.W.nsIn K mainGlobals "Floor" =some (some (.ref C_Floor)))
  (a_Mill:PySem.W.nsIn K mainGlobals "Mill" =some (some (.ref C_Mill)))
  (a_Lane:PySem.W.nsIn K mainGlobals "Lane" =some (some (.ref C_Lane)))
  (a_Hall:PySem.W.nsIn K mainGlobals "Hall" =some (some (.ref C_Hall)))
  (a_0:nG K "_law_cell_at" f_0)
  (l_0:lK K f_0 oc_0 od_0 "_law_cell_at" "_law_cell_at" VS .none kV_0 dc_0 pm_0 an_0 cd_0 ct_0 sl_0)
  (c_0:cI K cd_0 "_law_cell_at")
  (k_0:kI K f_0)
  (a_1:nG K "_law_form_by" f_1)
  (l_1:lK K f_1 oc_1 od_1 "_law_form_by" "_law_form_by" VQ .none kV_1 dc_1 pm_1 an_1 cd_1 ct_1 sl_1)
  (c_1:cI K cd_1 "_law_form_by")
  (k_1:kI K f_1)
  (a_2:nG K "_law_forms_by" f_2)
  (l_2:lK K f_2 oc_2 od_2 "_law_forms_by" "_law_forms_by" Wg .none kV_2 dc_2 pm_2 an_2 cd_2 ct_2 sl_2)
  (c_2:cI K cd_2 "_law_forms_by")
  (k_2:kI K f_2)
  (a_3:nG K "_law_pieces_by" f_3)
  (l_3:lK K f_3 oc_3 od_3 "_law_pieces_by" "_law_pieces_by" W2 .none kV_3 dc_3 pm_3 an_3 cd_3 ct_3 sl_3)
  (c_3:cI K cd_3 "_law_pieces_by")
  (k_3:kI K f_3)
  (a_4:nG K "is_name" f_4)
  (l_4:lK K f_4 oc_4 od_4 "is_name" "is_name" VX .none kV_4 dc_4 pm_4 an_4 cd_4 ct_4 sl_4)
  (c_4:cI K cd_4 "is_name")
  (k_4:kI K f_4)
  (a_5:mG K C_Hall "work" f_5)
  (i_5:iF K f_5)
  (l_5:lK K f_5 oc_5 od_5 "work" "Hall.work" VL .none kV_5 dc_5 pm_5 an_5 cd_5 ct_5 sl_5)
  (c_5:cI K cd_5 "Hall.work")
  (k_5:kI K f_5)
  (a_6:nG K "is_whole" f_6)
  (l_6:lK K f_6 oc_6 od_6 "is_whole" "is_whole" Ul .none kV_6 dc_6 pm_6 an_6 cd_6 ct_6 sl_6)
  (c_6:cI K cd_6 "is_whole")
  (k_6:kI K f_6)
  (a_7:nG K "is_from" f_7)
  (l_7:lK K f_7 oc_7 od_7 "is_from" "is_from" UJ .none kV_7 dc_7 pm_7 an_7 cd_7 ct_7 sl_7)
  (c_7:cI K cd_7 "is_from")
  (k_7:kI K f_7)
  (a_8:nG K "need_start" f_8)
  (l_8:lK K f_8 oc_8 od_8 "need_start" "need_start" Vk .none kV_8 dc_8 pm_8 an_8 cd_8 ct_8 sl_8)
  (c_8:cI K cd_8 "need_start")
  (k_8:kI K f_8)
  (a_9:nG K "is_number_below" f_9)
  (l_9:lK K f_9 oc_9 od_9 "is_number_below" "is_number_below" Wb .none kV_9 dc_9 pm_9 an_9 cd_9 ct_9 sl_9)
  (c_9:cI K cd_9 "is_number_below")
  (k_9:kI K f_9)
  (a_10:mG K C_Hall "need_work" f_10)
  (i_10:iF K f_10)
  (l_10:lK K f_10 oc_10 od_10 "need_work" "Hall.need_work" Wu .none kV_10 dc_10 pm_10 an_10 cd_10 ct_10 sl_10)
  (c_10:cI K cd_10 "Hall.need_work")
  (k_10:kI K f_10)
  (a_11:mG K C_Hall "lay" f_11)
  (i_11:iF K f_11)
  (l_11:lK K f_11 oc_11 od_11 "lay" "Hall.lay" Ue .none kV_11 dc_11 pm_11 an_11 cd_11 ct_11 sl_11)
  (c_11:cI K cd_11 "Hall.lay")
  (k_11:kI K f_11)
  (a_12:mG K C_Hall "belt" f_12)
  (i_12:iF K f_12)
  (l_12:lK K f_12 oc_12 od_12 "belt" "Hall.belt" VP (.ref dT_Hall_belt) kV_12 dc_12 pm_12 an_12 cd_12 ct_12 sl_12)
  (t_Hall_belt:K.lookup dT_Hall_belt=some ⟨oc2_Hall_belt,od2_Hall_belt,.seq #[.int 0 dk0_Hall_belt] n2_Hall_belt,sl2_Hall_belt⟩)
  (c_12:cI K cd_12 "Hall.belt")
  (k_12:kI K f_12)
  (a_13:mG K C_Hall "__init__" f_13)
  (i_13:iF K f_13)
  (l_13:lK K f_13 oc_13 od_13 "__init__" "Hall.__init__" VO .none kV_13 dc_13 pm_13 an_13 cd_13 ct_13 sl_13)
  (c_13:cI K cd_13 "Hall.__init__")
  (k_13:kI K f_13)
  (a_14:nG K "_law_made" f_14)
  (l_14:lK K f_14 oc_14 od_14 "_law_made" "_law_made" Zaa .none kV_14 dc_14 pm_14 an_14 cd_14 ct_14 sl_14)
  (c_14:cI K cd_14 "_law_made")
  (k_14:kI K f_14)
  (a_15:mG K C_Hall "names" f_15)
  (i_15:iF K f_15)
  (l_15:lK K f_15 oc_15 od_15 "names" "Hall.names" Vx .none kV_15 dc_15 pm_15 an_15 cd_15 ct_15 sl_15)
  (c_15:cI K cd_15 "Hall.names")
  (k_15:kI K f_15)
  (a_16:nG K "_law_grown" f_16)
  (l_16:lK K f_16 oc_16 od_16 "_law_grown" "_law_grown" VV .none kV_16 dc_16 pm_16 an_16 cd_16 ct_16 sl_16)
  (c_16:cI K cd_16 "_law_grown")
  (k_16:kI K f_16)
  (a_17:nG K "form_value" f_17)
  (l_17:lK K f_17 oc_17 od_17 "form_value" "form_value" WJ .none kV_17 dc_17 pm_17 an_17 cd_17 ct_17 sl_17)
  (c_17:cI K cd_17 "form_value")
  (k_17:kI K f_17)
  (a_18:nG K "_law_worth" f_18)
  (l_18:lK K f_18 oc_18 od_18 "_law_worth" "_law_worth" UO .none kV_18 dc_18 pm_18 an_18 cd_18 ct_18 sl_18)
  (c_18:cI K cd_18 "_law_worth")
  (k_18:kI K f_18)
  (a_19:nG K "_law_forms_good" f_19)
  (l_19:lK K f_19 oc_19 od_19 "_law_forms_good" "_law_forms_good" YM .none kV_19 dc_19 pm_19 an_19 cd_19 ct_19 sl_19)
  (c_19:cI K cd_19 "_law_forms_good")
  (k_19:kI K f_19)
  (a_20:nG K "_law_names" f_20)
  (l_20:lK K f_20 oc_20 od_20 "_law_names" "_law_names" UL .none kV_20 dc_20 pm_20 an_20 cd_20 ct_20 sl_20)
  (c_20:cI K cd_20 "_law_names")
  (k_20:kI K f_20)
  (a_21:mG K C_Floor "lying" f_21)
  (i_21:iF K f_21)
  (l_21:lK K f_21 oc_21 od_21 "lying" "Floor.lying" W3 .none kV_21 dc_21 pm_21 an_21 cd_21 ct_21 sl_21)
  (c_21:cI K cd_21 "Floor.lying")
  (k_21:kI K f_21)
  (a_22:mG K C_Lane "lying" f_22)
  (i_22:iF K f_22)
  (l_22:lK K f_22 oc_22 od_22 "lying" "Lane.lying" Vv .none kV_22 dc_22 pm_22 an_22 cd_22 ct_22 sl_22)
  (c_22:cI K cd_22 "Lane.lying")
  (k_22:kI K f_22)
  (a_23:mG K C_Mill "lying" f_23)
  (i_23:iF K f_23)
  (l_23:lK K f_23 oc_23 od_23 "lying" "Mill.lying" WM .none kV_23 dc_23 pm_23 an_23 cd_23 ct_23 sl_23)
  (c_23:cI K cd_23 "Mill.lying")
  (k_23:kI K f_23)
  (a_24:nG K "_law_told" f_24)
  (l_24:lK K f_24 oc_24 od_24 "_law_told" "_law_told" Zab .none kV_24 dc_24 pm_24 an_24 cd_24 ct_24 sl_24)
  (c_24:cI K cd_24 "_law_told")
  (k_24:kI K f_24)
  (a_25:nG K "_law_common" f_25)
  (l_25:lK K f_25 oc_25 od_25 "_law_common" "_law_common" Um .none kV_25 dc_25 pm_25 an_25 cd_25 ct_25 sl_25)
  (c_25:cI K cd_25 "_law_common")
  (k_25:kI K f_25)
  (a_26:nG K "_law_belt_by" f_26)
  (l_26:lK K f_26 oc_26 od_26 "_law_belt_by" "_law_belt_by" VT .none kV_26 dc_26 pm_26 an_26 cd_26 ct_26 sl_26)
  (c_26:cI K cd_26 "_law_belt_by")
  (k_26:kI K f_26)
  (a_27:nG K "enough" f_27)
  (l_27:lK K f_27 oc_27 od_27 "enough" "enough" Us .none kV_27 dc_27 pm_27 an_27 cd_27 ct_27 sl_27)
  (c_27:cI K cd_27 "enough")
  (k_27:kI K f_27)
  (a_28:mG K C_Floor "need_work" f_28)
  (i_28:iF K f_28)
  (l_28:lK K f_28 oc_28 od_28 "need_work" "Floor.need_work" Wf .none kV_28 dc_28 pm_28 an_28 cd_28 ct_28 sl_28)
  (c_28:cI K cd_28 "Floor.need_work")
  (k_28:kI K f_28)
  (a_29:mG K C_Floor "go" f_29)
  (i_29:iF K f_29)
  (l_29:lK K f_29 oc_29 od_29 "go" "Floor.go" Uk .none kV_29 dc_29 pm_29 an_29 cd_29 ct_29 sl_29)
  (c_29:cI K cd_29 "Floor.go")
  (k_29:kI K f_29)
  (a_30:mG K C_Floor "turn" f_30)
  (i_30:iF K f_30)
  (l_30:lK K f_30 oc_30 od_30 "turn" "Floor.turn" VB .none kV_30 dc_30 pm_30 an_30 cd_30 ct_30 sl_30)
  (c_30:cI K cd_30 "Floor.turn")
  (k_30:kI K f_30)
  (a_31:mG K C_Lane "lay_behind" f_31)
  (i_31:iF K f_31)
  (l_31:lK K f_31 oc_31 od_31 "lay_behind" "Lane.lay_behind" We .none kV_31 dc_31 pm_31 an_31 cd_31 ct_31 sl_31)
  (c_31:cI K cd_31 "Lane.lay_behind")
  (k_31:kI K f_31)
  (a_32:mG K C_Lane "drawn_off" f_32)
  (i_32:iF K f_32)
  (l_32:lK K f_32 oc_32 od_32 "drawn_off" "Lane.drawn_off" Wv .none kV_32 dc_32 pm_32 an_32 cd_32 ct_32 sl_32)
  (c_32:cI K cd_32 "Lane.drawn_off")
  (k_32:kI K f_32)
  (a_33:mG K C_Mill "pass_on" f_33)
  (i_33:iF K f_33)
  (l_33:lK K f_33 oc_33 od_33 "pass_on" "Mill.pass_on" Wl .none kV_33 dc_33 pm_33 an_33 cd_33 ct_33 sl_33)
  (c_33:cI K cd_33 "Mill.pass_on")
  (k_33:kI K f_33)
  (a_34:mG K C_Mill "go" f_34)
  (i_34:iF K f_34)
  (l_34:lK K f_34 oc_34 od_34 "go" "Mill.go" UI .none kV_34 dc_34 pm_34 an_34 cd_34 ct_34 sl_34)
  (c_34:cI K cd_34 "Mill.go")
  (k_34:kI K f_34)
  (a_35:mG K C_Mill "turn" f_35)
  (i_35:iF K f_35)
  (l_35:lK K f_35 oc_35 od_35 "turn" "Mill.turn" VN .none kV_35 dc_35 pm_35 an_35 cd_35 ct_35 sl_35)
  (c_35:cI K cd_35 "Mill.turn")
  (k_35:kI K f_35)
  (a_36:nG K "_law_turned" f_36)
  (l_36:lK K f_36 oc_36 od_36 "_law_turned" "_law_turned" Uj .none kV_36 dc_36 pm_36 an_36 cd_36 ct_36 sl_36)
  (c_36:cI K cd_36 "_law_turned")
  (k_36:kI K f_36)
  (a_37:nG K "_law_milled" f_37)
  (l_37:lK K f_37 oc_37 od_37 "_law_milled" "_law_milled" Vy .none kV_37 dc_37 pm_37 an_37 cd_37 ct_37 sl_37)
  (c_37:cI K cd_37 "_law_milled")
  (k_37:kI K f_37)
  (a_38:nG K "_law_loads" f_38)
  (l_38:lK K f_38 oc_38 od_38 "_law_loads" "_law_loads" UF .none kV_38 dc_38 pm_38 an_38 cd_38 ct_38 sl_38)
  (c_38:cI K cd_38 "_law_loads")
  (k_38:kI K f_38)
  (a_39:nG K "_law_can" f_39)
  (l_39:lK K f_39 oc_39 od_39 "_law_can" "_law_can" Za3 .none kV_39 dc_39 pm_39 an_39 cd_39 ct_39 sl_39)
  (c_39:cI K cd_39 "_law_can")
  (k_39:kI K f_39)
  (a_40:mG K C_Hall "leaving" f_40)
  (i_40:iF K f_40)
  (l_40:lK K f_40 oc_40 od_40 "leaving" "Hall.leaving" Wh .none kV_40 dc_40 pm_40 an_40 cd_40 ct_40 sl_40)
  (c_40:cI K cd_40 "Hall.leaving")
  (k_40:kI K f_40)
  (a_41:mG K C_Hall "need_belt" f_41)
  (i_41:iF K f_41)
  (l_41:lK K f_41 oc_41 od_41 "need_belt" "Hall.need_belt" Wr .none kV_41 dc_41 pm_41 an_41 cd_41 ct_41 sl_41)
  (c_41:cI K cd_41 "Hall.need_belt")
  (k_41:kI K f_41)
  (a_42:mG K C_Hall "belt_at" f_42)
  (i_42:iF K f_42)
  (l_42:lK K f_42 oc_42 od_42 "belt_at" "Hall.belt_at" WR .none kV_42 dc_42 pm_42 an_42 cd_42 ct_42 sl_42)
  (c_42:cI K cd_42 "Hall.belt_at")
  (k_42:kI K f_42)
  (a_43:nG K "gives_of" f_43)
  (l_43:lK K f_43 oc_43 od_43 "gives_of" "gives_of" Vn .none kV_43 dc_43 pm_43 an_43 cd_43 ct_43 sl_43)
  (c_43:cI K cd_43 "gives_of")
  (k_43:kI K f_43)
  (a_44:nG K "given_by" f_44)
  (l_44:lK K f_44 oc_44 od_44 "given_by" "given_by" Vo .none kV_44 dc_44 pm_44 an_44 cd_44 ct_44 sl_44)
  (c_44:cI K cd_44 "given_by")
  (k_44:kI K f_44)
  (a_45:mG K C_Hall "entering" f_45)
  (i_45:iF K f_45)
  (l_45:lK K f_45 oc_45 od_45 "entering" "Hall.entering" Y5 .none kV_45 dc_45 pm_45 an_45 cd_45 ct_45 sl_45)
  (c_45:cI K cd_45 "Hall.entering")
  (k_45:kI K f_45)
  (a_46:nG K "takes_of" f_46)
  (l_46:lK K f_46 oc_46 od_46 "takes_of" "takes_of" Vw .none kV_46 dc_46 pm_46 an_46 cd_46 ct_46 sl_46)
  (c_46:cI K cd_46 "takes_of")
  (k_46:kI K f_46)
  (a_47:nG K "need_work_forms" f_47)
  (l_47:lK K f_47 oc_47 od_47 "need_work_forms" "need_work_forms" Yt .none kV_47 dc_47 pm_47 an_47 cd_47 ct_47 sl_47)
  (c_47:cI K cd_47 "need_work_forms")
  (k_47:kI K f_47)
  (a_48:nG K "need_forms" f_48)
  (l_48:lK K f_48 oc_48 od_48 "need_forms" "need_forms" Vz .none kV_48 dc_48 pm_48 an_48 cd_48 ct_48 sl_48)
  (c_48:cI K cd_48 "need_forms")
  (k_48:kI K f_48)
  (a_49:mG K C_Hall "belts" f_49)
  (i_49:iF K f_49)
  (l_49:lK K f_49 oc_49 od_49 "belts" "Hall.belts" Vj .none kV_49 dc_49 pm_49 an_49 cd_49 ct_49 sl_49)
  (c_49:cI K cd_49 "Hall.belts")
  (k_49:kI K f_49)
  (a_50:nG K "starts_of" f_50)
  (l_50:lK K f_50 oc_50 od_50 "starts_of" "starts_of" W0 .none kV_50 dc_50 pm_50 an_50 cd_50 ct_50 sl_50)
  (c_50:cI K cd_50 "starts_of")
  (k_50:kI K f_50)
  (a_51:nG K "need_pieces" f_51)
  (l_51:lK K f_51 oc_51 od_51 "need_pieces" "need_pieces" Wy .none kV_51 dc_51 pm_51 an_51 cd_51 ct_51 sl_51)
  (c_51:cI K cd_51 "need_pieces")
  (k_51:kI K f_51)
  (a_52:mG K C_Floor "__init__" f_52)
  (i_52:iF K f_52)
  (l_52:lK K f_52 oc_52 od_52 "__init__" "Floor.__init__" YV .none kV_52 dc_52 pm_52 an_52 cd_52 ct_52 sl_52)
  (c_52:cI K cd_52 "Floor.__init__")
  (k_52:kI K f_52)
  (a_53:mG K C_Lane "__init__" f_53)
  (i_53:iF K f_53)
  (l_53:lK K f_53 oc_53 od_53 "__init__" "Lane.__init__" VU .none kV_53 dc_53 pm_53 an_53 cd_53 ct_53 sl_53)
  (c_53:cI K cd_53 "Lane.__init__")
  (k_53:kI K f_53)
  (a_54:mG K C_Mill "__init__" f_54)
  (i_54:iF K f_54)
  (l_54:lK K f_54 oc_54 od_54 "__init__" "Mill.__init__" WX .none kV_54 dc_54 pm_54 an_54 cd_54 ct_54 sl_54)
  (c_54:cI K cd_54 "Mill.__init__")
  (k_54:kI K f_54)
  (a_55:nG K "law" f_55)
  (l_55:lK K f_55 oc_55 od_55 "law" "law" UK .none kV_55 dc_55 pm_55 an_55 cd_55 ct_55 sl_55)
  (c_55:cI K cd_55 "law")
  (k_55:kI K f_55)
  (pg_Floor:PySem.W.plainGet K C_Floor Str.empty=true)
  (hd_Floor:PySem.W.hasDictIn K C_Floor=true)
  (po_Floor:PySem.W.plainOver K C_Floor=true)
  (sa_Floor:PySem.W.findIn K (.ref C_Floor) "__setattr__" =some (some (.builtin "object.__setattr__")))
  (mk_Floor:PySem.W.makesIn K C_Floor=true)
  (kc_Floor:PySem.W.keepIn K (.ref C_Floor)=true)
  (na_Floor_takes:PySem.W.findIn K (.ref C_Floor) "takes" =some none)
  (na_Floor_gives:PySem.W.findIn K (.ref C_Floor) "gives" =some none)
  (na_Floor_heaps:PySem.W.findIn K (.ref C_Floor) "heaps" =some none)
  (pg_Mill:PySem.W.plainGet K C_Mill Str.empty=true)
  (hd_Mill:PySem.W.hasDictIn K C_Mill=true)
  (po_Mill:PySem.W.plainOver K C_Mill=true)
  (sa_Mill:PySem.W.findIn K (.ref C_Mill) "__setattr__" =some (some (.builtin "object.__setattr__")))
  (mk_Mill:PySem.W.makesIn K C_Mill=true)
  (kc_Mill:PySem.W.keepIn K (.ref C_Mill)=true)
  (na_Mill_floor:PySem.W.findIn K (.ref C_Mill) "floor" =some none)
  (na_Mill_forms:PySem.W.findIn K (.ref C_Mill) "forms" =some none)
  (na_Mill_lanes:PySem.W.findIn K (.ref C_Mill) "lanes" =some none)
  (pg_Lane:PySem.W.plainGet K C_Lane Str.empty=true)
  (hd_Lane:PySem.W.hasDictIn K C_Lane=true)
  (po_Lane:PySem.W.plainOver K C_Lane=true)
  (sa_Lane:PySem.W.findIn K (.ref C_Lane) "__setattr__" =some (some (.builtin "object.__setattr__")))
  (mk_Lane:PySem.W.makesIn K C_Lane=true)
  (kc_Lane:PySem.W.keepIn K (.ref C_Lane)=true)
  (na_Lane_laid:PySem.W.findIn K (.ref C_Lane) "laid" =some none)
  (na_Lane_gone:PySem.W.findIn K (.ref C_Lane) "gone" =some none)
  (pg_Hall:PySem.W.plainGet K C_Hall Str.empty=true)
  (hd_Hall:PySem.W.hasDictIn K C_Hall=true)
  (po_Hall:PySem.W.plainOver K C_Hall=true)
  (sa_Hall:PySem.W.findIn K (.ref C_Hall) "__setattr__" =some (some (.builtin "object.__setattr__")))
  (mk_Hall:PySem.W.makesIn K C_Hall=true)
  (kc_Hall:PySem.W.keepIn K (.ref C_Hall)=true)
  (na_Hall_numbers:PySem.W.findIn K (.ref C_Hall) "numbers" =some none)
  (na_Hall_rows:PySem.W.findIn K (.ref C_Hall) "rows" =some none)
  (gx_RateError:PySem.W.nsIn K mainGlobals "RateError" =some (some (.ref X_RateError)))
  (ex_RateError:PySem.W.excIn K X_RateError [.type "ValueError",.type "Exception",.type "BaseException",.type "object"] "ValueError.__new__" =true)
  (gx_NoName:PySem.W.nsIn K mainGlobals "NoName" =some (some (.ref X_NoName)))
  (ex_NoName:PySem.W.excIn K X_NoName [.type "ValueError",.type "Exception",.type "BaseException",.type "object"] "ValueError.__new__" =true)
  (gx_Twice:PySem.W.nsIn K mainGlobals "Twice" =some (some (.ref X_Twice)))
  (ex_Twice:PySem.W.excIn K X_Twice [.type "ValueError",.type "Exception",.type "BaseException",.type "object"] "ValueError.__new__" =true)
  (gx_TooMuch:PySem.W.nsIn K mainGlobals "TooMuch" =some (some (.ref X_TooMuch)))
  (ex_TooMuch:PySem.W.excIn K X_TooMuch [.type "ValueError",.type "Exception",.type "BaseException",.type "object"] "ValueError.__new__" =true)
  (gx_NoWork:PySem.W.nsIn K mainGlobals "NoWork" =some (some (.ref X_NoWork)))
  (ex_NoWork:PySem.W.excIn K X_NoWork [.type "ValueError",.type "Exception",.type "BaseException",.type "object"] "ValueError.__new__" =true)
  (gx_NoBelt:PySem.W.nsIn K mainGlobals "NoBelt" =some (some (.ref X_NoBelt)))
  (ex_NoBelt:PySem.W.excIn K X_NoBelt [.type "ValueError",.type "Exception",.type "BaseException",.type "object"] "ValueError.__new__" =true)
  (gx_NoRate:PySem.W.nsIn K mainGlobals "NoRate" =some (some (.ref X_NoRate)))
  (ex_NoRate:PySem.W.excIn K X_NoRate [.type "ValueError",.type "Exception",.type "BaseException",.type "object"] "ValueError.__new__" =true)
  (gx_Empty:PySem.W.nsIn K mainGlobals "Empty" =some (some (.ref X_Empty)))
  (ex_Empty:PySem.W.excIn K X_Empty [.type "ValueError",.type "Exception",.type "BaseException",.type "object"] "ValueError.__new__" =true)
  (gx_NoForm:PySem.W.nsIn K mainGlobals "NoForm" =some (some (.ref X_NoForm)))
  (ex_NoForm:PySem.W.excIn K X_NoForm [.type "ValueError",.type "Exception",.type "BaseException",.type "object"] "ValueError.__new__" =true)
  (gx_NoPieces:PySem.W.nsIn K mainGlobals "NoPieces" =some (some (.ref X_NoPieces)))
  (ex_NoPieces:PySem.W.excIn K X_NoPieces [.type "ValueError",.type "Exception",.type "BaseException",.type "object"] "ValueError.__new__" =true)
  (em_NoWork_NoWork:PySem.W.exmOne K (.ref X_NoWork) (.ref X_NoWork)=some true)
  (em_Empty_Empty:PySem.W.exmOne K (.ref X_Empty) (.ref X_Empty)=some true)
  (em_Empty_NoWork:PySem.W.exmOne K (.ref X_Empty) (.ref X_NoWork)=some false)
  (xg:PySem.W.specialIn K (.builtin "object.__class__") "__get__" =some (some (.builtin "getset_descriptor.__get__")))
  (xt:PySem.W.takesIn K (.builtin "object.__class__")=some true)
  (x1_NoWork:PySem.W.findIn K (.ref X_NoWork) "__getattribute__" =some (some (.builtin "BaseException.__getattribute__")))
  (x2_NoWork:PySem.W.findIn K (.ref X_NoWork) "__getattr__" =some none)
  (x3_NoWork:PySem.W.findIn K (.ref X_NoWork) "__class__" =some (some (.builtin "object.__class__")))
  (x4_NoWork:PySem.W.subIn K (.ref X_NoWork) (.type "BaseException")=some true)
  (x5_NoWork:PySem.W.mroIn K X_NoWork (.type "object")=some true)
  (x1_Empty:PySem.W.findIn K (.ref X_Empty) "__getattribute__" =some (some (.builtin "BaseException.__getattribute__")))
  (x2_Empty:PySem.W.findIn K (.ref X_Empty) "__getattr__" =some none)
  (x3_Empty:PySem.W.findIn K (.ref X_Empty) "__class__" =some (some (.builtin "object.__class__")))
  (x4_Empty:PySem.W.subIn K (.ref X_Empty) (.type "BaseException")=some true)
  (x5_Empty:PySem.W.mroIn K X_Empty (.type "object")=some true)
  (ki_NoWork_Empty:PySem.W.kitOne K (.ref X_NoWork) (.ref X_Empty)=some false)
  (ki_NoWork_ValueError:PySem.W.kitOne K (.ref X_NoWork) (.type "ValueError")=some true)
  (ki_NoWork_RateError:PySem.W.kitOne K (.ref X_NoWork) (.ref X_RateError)=some true)
  (ki_Empty_Empty:PySem.W.kitOne K (.ref X_Empty) (.ref X_Empty)=some true)
  (ki_Empty_ValueError:PySem.W.kitOne K (.ref X_Empty) (.type "ValueError")=some true)
  (ki_Empty_RateError:PySem.W.kitOne K (.ref X_Empty) (.ref X_RateError)=some true)
  (c_MOST_LETTERS:PySem.W.nsIn K mainGlobals "MOST_LETTERS" =some (some (.int 8 tk_MOST_LETTERS)))
  (c_MOST_WORKS:PySem.W.nsIn K mainGlobals "MOST_WORKS" =some (some (.int 30 tk_MOST_WORKS)))
  (c_MOST_BELTS:PySem.W.nsIn K mainGlobals "MOST_BELTS" =some (some (.int 60 tk_MOST_BELTS)))
  (z_ValueError:PySem.W.nsIn K mainGlobals "ValueError" =some none)
  (z_all:PySem.W.nsIn K mainGlobals "all" =some none)
  (z_bool:PySem.W.nsIn K mainGlobals "bool" =some none)
  (z_enumerate:PySem.W.nsIn K mainGlobals "enumerate" =some none)
  (z_int:PySem.W.nsIn K mainGlobals "int" =some none)
  (z_isinstance:PySem.W.nsIn K mainGlobals "isinstance" =some none)
  (z_len:PySem.W.nsIn K mainGlobals "len" =some none)
  (z_list:PySem.W.nsIn K mainGlobals "list" =some none)
  (z_min:PySem.W.nsIn K mainGlobals "min" =some none)
  (z_range:PySem.W.nsIn K mainGlobals "range" =some none)
  (z_str:PySem.W.nsIn K mainGlobals "str" =some none)
  (z_sum:PySem.W.nsIn K mainGlobals "sum" =some none)
  (z_tuple:PySem.W.nsIn K mainGlobals "tuple" =some none)
  (z_zip:PySem.W.nsIn K mainGlobals "zip" =some none)
  :∃T:Tp K mg,True:=by
 have F_0:=Zy (st:=VS) l_0 c_0 k_0
 have F_1:=Zy (st:=VQ) l_1 c_1 k_1
 have F_2:=Zy (st:=Wg) l_2 c_2 k_2
 have F_3:=Zy (st:=W2) l_3 c_3 k_3
 have F_4:=Zy (st:=VX) l_4 c_4 k_4
 have F_5:=Zy (st:=VL) l_5 c_5 k_5
 have F_6:=Zy (st:=Ul) l_6 c_6 k_6
 have F_7:=Zy (st:=UJ) l_7 c_7 k_7
 have F_8:=Zy (st:=Vk) l_8 c_8 k_8
 have F_9:=Zy (st:=Wb) l_9 c_9 k_9
 have F_10:=Zy (st:=Wu) l_10 c_10 k_10
 have F_11:=Zy (st:=Ue) l_11 c_11 k_11
 have F_12:=ZhB (st:=VP) l_12 c_12 k_12
 have F_13:=Zy (st:=VO) l_13 c_13 k_13
 have F_14:=Zy (st:=Zaa) l_14 c_14 k_14
 have F_15:=Zy (st:=Vx) l_15 c_15 k_15
 have F_16:=Zy (st:=VV) l_16 c_16 k_16
 have F_17:=Zy (st:=WJ) l_17 c_17 k_17
 have F_18:=Zy (st:=UO) l_18 c_18 k_18
 have F_19:=Zy (st:=YM) l_19 c_19 k_19
 have F_20:=Zy (st:=UL) l_20 c_20 k_20
 have F_21:=Zy (st:=W3) l_21 c_21 k_21
 have F_22:=Zy (st:=Vv) l_22 c_22 k_22
 have F_23:=Zy (st:=WM) l_23 c_23 k_23
 have F_24:=Zy (st:=Zab) l_24 c_24 k_24
 have F_25:=Zy (st:=Um) l_25 c_25 k_25
 have F_26:=Zy (st:=VT) l_26 c_26 k_26
 have F_27:=Zy (st:=Us) l_27 c_27 k_27
 have F_28:=Zy (st:=Wf) l_28 c_28 k_28
 have F_29:=Zy (st:=Uk) l_29 c_29 k_29
 have F_30:=Zy (st:=VB) l_30 c_30 k_30
 have F_31:=Zy (st:=We) l_31 c_31 k_31
 have F_32:=Zy (st:=Wv) l_32 c_32 k_32
 have F_33:=Zy (st:=Wl) l_33 c_33 k_33
 have F_34:=Zy (st:=UI) l_34 c_34 k_34
 have F_35:=Zy (st:=VN) l_35 c_35 k_35
 have F_36:=Zy (st:=Uj) l_36 c_36 k_36
 have F_37:=Zy (st:=Vy) l_37 c_37 k_37
 have F_38:=Zy (st:=UF) l_38 c_38 k_38
 have F_39:=Zy (st:=Za3) l_39 c_39 k_39
 have F_40:=Zy (st:=Wh) l_40 c_40 k_40
 have F_41:=Zy (st:=Wr) l_41 c_41 k_41
 have F_42:=Zy (st:=WR) l_42 c_42 k_42
 have F_43:=Zy (st:=Vn) l_43 c_43 k_43
 have F_44:=Zy (st:=Vo) l_44 c_44 k_44
 have F_45:=Zy (st:=Y5) l_45 c_45 k_45
 have F_46:=Zy (st:=Vw) l_46 c_46 k_46
 have F_47:=Zy (st:=Yt) l_47 c_47 k_47
 have F_48:=Zy (st:=Vz) l_48 c_48 k_48
 have F_49:=Zy (st:=Vj) l_49 c_49 k_49
 have F_50:=Zy (st:=W0) l_50 c_50 k_50
 have F_51:=Zy (st:=Wy) l_51 c_51 k_51
 have F_52:=Zy (st:=YV) l_52 c_52 k_52
 have F_53:=Zy (st:=VU) l_53 c_53 k_53
 have F_54:=Zy (st:=WX) l_54 c_54 k_54
 have F_55:=Zy (st:=UK) l_55 c_55 k_55
 exact⟨{
  f_l_cell_at:=f_0,d_l_cell_at:=_,F_l_cell_at:=F_0,
  b_l_cell_at:=F_0.binds fun _ _ _ _ _ _ us hl=>(match us,hl with| [_,_],_=>rfl),
  m_l_cell_at:=PySem.W.mg_of X G a_0,
  f_l_form_by:=f_1,d_l_form_by:=_,F_l_form_by:=F_1,
  b_l_form_by:=F_1.binds fun _ _ _ _ _ _ us hl=>(match us,hl with| [_,_,_],_=>rfl),
  m_l_form_by:=PySem.W.mg_of X G a_1,
  f_l_forms_by:=f_2,d_l_forms_by:=_,F_l_forms_by:=F_2,
  b_l_forms_by:=F_2.binds fun _ _ _ _ _ _ us hl=>(match us,hl with| [_,_,_,_,_],_=>rfl),
  m_l_forms_by:=PySem.W.mg_of X G a_2,
  f_l_pieces_by:=f_3,d_l_pieces_by:=_,F_l_pieces_by:=F_3,
  b_l_pieces_by:=F_3.binds fun _ _ _ _ _ _ us hl=>(match us,hl with| [_,_,_],_=>rfl),
  m_l_pieces_by:=PySem.W.mg_of X G a_3,
  f_is_name:=f_4,d_is_name:=_,F_is_name:=F_4,
  b_is_name:=F_4.binds fun _ _ _ _ _ _ us hl=>(match us,hl with| [_],_=>rfl),
  m_is_name:=PySem.W.mg_of X G a_4,
  f_Hall_work:=f_5,d_Hall_work:=_,F_Hall_work:=F_5,
  b_Hall_work:=F_5.binds fun _ _ _ _ _ _ us hl=>(match us,hl with| [_,_],_=>rfl),
  f_is_whole:=f_6,d_is_whole:=_,F_is_whole:=F_6,
  b_is_whole:=F_6.binds fun _ _ _ _ _ _ us hl=>(match us,hl with| [_],_=>rfl),
  m_is_whole:=PySem.W.mg_of X G a_6,
  f_is_from:=f_7,d_is_from:=_,F_is_from:=F_7,
  b_is_from:=F_7.binds fun _ _ _ _ _ _ us hl=>(match us,hl with| [_,_],_=>rfl),
  m_is_from:=PySem.W.mg_of X G a_7,
  f_need_start:=f_8,d_need_start:=_,F_need_start:=F_8,
  b_need_start:=F_8.binds fun _ _ _ _ _ _ us hl=>(match us,hl with| [_],_=>rfl),
  m_need_start:=PySem.W.mg_of X G a_8,
  f_is_number_below:=f_9,d_is_number_below:=_,F_is_number_below:=F_9,
  b_is_number_below:=F_9.binds fun _ _ _ _ _ _ us hl=>(match us,hl with| [_,_],_=>rfl),
  m_is_number_below:=PySem.W.mg_of X G a_9,
  f_Hall_need_work:=f_10,d_Hall_need_work:=_,F_Hall_need_work:=F_10,
  b_Hall_need_work:=F_10.binds fun _ _ _ _ _ _ us hl=>(match us,hl with| [_,_],_=>rfl),
  f_Hall_lay:=f_11,d_Hall_lay:=_,F_Hall_lay:=F_11,
  b_Hall_lay:=F_11.binds fun _ _ _ _ _ _ us hl=>(match us,hl with| [_,_],_=>rfl),
  f_Hall_belt:=f_12,d_Hall_belt:=_,F_Hall_belt:=F_12,
  dT_Hall_belt:=dT_Hall_belt,
  dk0_Hall_belt:=dk0_Hall_belt,
  b_Hall_belt:=fun s us X hl=>(match us,(show us.length=6 by simpa using hl) with| [_,_,_,_,_,_],_=>PySem.W.binds_K X rfl t_Hall_belt rfl rfl rfl),
  b1_Hall_belt:=fun s us X hl=>(match us,(show us.length=5 by simpa using hl) with| [_,_,_,_,_],_=>PySem.W.binds_K X rfl t_Hall_belt rfl rfl rfl),
  v1_Hall_belt:=(.cons ⟨_,rfl⟩ .nil),
  f_Hall_init:=f_13,d_Hall_init:=_,F_Hall_init:=F_13,
  b_Hall_init:=F_13.binds fun _ _ _ _ _ _ us hl=>(match us,hl with| [_],_=>rfl),
  f_l_made:=f_14,d_l_made:=_,F_l_made:=F_14,
  b_l_made:=F_14.binds fun _ _ _ _ _ _ us hl=>(match us,hl with| [_,_],_=>rfl),
  m_l_made:=PySem.W.mg_of X G a_14,
  f_Hall_names:=f_15,d_Hall_names:=_,F_Hall_names:=F_15,
  b_Hall_names:=F_15.binds fun _ _ _ _ _ _ us hl=>(match us,hl with| [_],_=>rfl),
  f_l_grown:=f_16,d_l_grown:=_,F_l_grown:=F_16,
  b_l_grown:=F_16.binds fun _ _ _ _ _ _ us hl=>(match us,hl with| [_],_=>rfl),
  m_l_grown:=PySem.W.mg_of X G a_16,
  f_form_value:=f_17,d_form_value:=_,F_form_value:=F_17,
  b_form_value:=F_17.binds fun _ _ _ _ _ _ us hl=>(match us,hl with| [_,_],_=>rfl),
  m_form_value:=PySem.W.mg_of X G a_17,
  f_l_worth:=f_18,d_l_worth:=_,F_l_worth:=F_18,
  b_l_worth:=F_18.binds fun _ _ _ _ _ _ us hl=>(match us,hl with| [_,_],_=>rfl),
  m_l_worth:=PySem.W.mg_of X G a_18,
  f_l_forms_good:=f_19,d_l_forms_good:=_,F_l_forms_good:=F_19,
  b_l_forms_good:=F_19.binds fun _ _ _ _ _ _ us hl=>(match us,hl with| [_,_,_],_=>rfl),
  m_l_forms_good:=PySem.W.mg_of X G a_19,
  f_l_names:=f_20,d_l_names:=_,F_l_names:=F_20,
  b_l_names:=F_20.binds fun _ _ _ _ _ _ us hl=>(match us,hl with| [_,_],_=>rfl),
  m_l_names:=PySem.W.mg_of X G a_20,
  f_Floor_lying:=f_21,d_Floor_lying:=_,F_Floor_lying:=F_21,
  b_Floor_lying:=F_21.binds fun _ _ _ _ _ _ us hl=>(match us,hl with| [_],_=>rfl),
  f_Lane_lying:=f_22,d_Lane_lying:=_,F_Lane_lying:=F_22,
  b_Lane_lying:=F_22.binds fun _ _ _ _ _ _ us hl=>(match us,hl with| [_],_=>rfl),
  f_Mill_lying:=f_23,d_Mill_lying:=_,F_Mill_lying:=F_23,
  b_Mill_lying:=F_23.binds fun _ _ _ _ _ _ us hl=>(match us,hl with| [_],_=>rfl),
  f_l_told:=f_24,d_l_told:=_,F_l_told:=F_24,
  b_l_told:=F_24.binds fun _ _ _ _ _ _ us hl=>(match us,hl with| [_],_=>rfl),
  m_l_told:=PySem.W.mg_of X G a_24,
  f_l_common:=f_25,d_l_common:=_,F_l_common:=F_25,
  b_l_common:=F_25.binds fun _ _ _ _ _ _ us hl=>(match us,hl with| [_,_],_=>rfl),
  m_l_common:=PySem.W.mg_of X G a_25,
  f_l_belt_by:=f_26,d_l_belt_by:=_,F_l_belt_by:=F_26,
  b_l_belt_by:=F_26.binds fun _ _ _ _ _ _ us hl=>(match us,hl with| [_,_,_,_],_=>rfl),
  m_l_belt_by:=PySem.W.mg_of X G a_26,
  f_enough:=f_27,d_enough:=_,F_enough:=F_27,
  b_enough:=F_27.binds fun _ _ _ _ _ _ us hl=>(match us,hl with| [_,_],_=>rfl),
  m_enough:=PySem.W.mg_of X G a_27,
  f_Floor_need_work:=f_28,d_Floor_need_work:=_,F_Floor_need_work:=F_28,
  b_Floor_need_work:=F_28.binds fun _ _ _ _ _ _ us hl=>(match us,hl with| [_,_],_=>rfl),
  f_Floor_go:=f_29,d_Floor_go:=_,F_Floor_go:=F_29,
  b_Floor_go:=F_29.binds fun _ _ _ _ _ _ us hl=>(match us,hl with| [_,_],_=>rfl),
  f_Floor_turn:=f_30,d_Floor_turn:=_,F_Floor_turn:=F_30,
  b_Floor_turn:=F_30.binds fun _ _ _ _ _ _ us hl=>(match us,hl with| [_,_],_=>rfl),
  f_Lane_lay_behind:=f_31,d_Lane_lay_behind:=_,F_Lane_lay_behind:=F_31,
  b_Lane_lay_behind:=F_31.binds fun _ _ _ _ _ _ us hl=>(match us,hl with| [_,_],_=>rfl),
  f_Lane_drawn_off:=f_32,d_Lane_drawn_off:=_,F_Lane_drawn_off:=F_32,
  b_Lane_drawn_off:=F_32.binds fun _ _ _ _ _ _ us hl=>(match us,hl with| [_,_],_=>rfl),
  f_Mill_pass_on:=f_33,d_Mill_pass_on:=_,F_Mill_pass_on:=F_33,
  b_Mill_pass_on:=F_33.binds fun _ _ _ _ _ _ us hl=>(match us,hl with| [_,_],_=>rfl),
  f_Mill_go:=f_34,d_Mill_go:=_,F_Mill_go:=F_34,
  b_Mill_go:=F_34.binds fun _ _ _ _ _ _ us hl=>(match us,hl with| [_,_],_=>rfl),
  f_Mill_turn:=f_35,d_Mill_turn:=_,F_Mill_turn:=F_35,
  b_Mill_turn:=F_35.binds fun _ _ _ _ _ _ us hl=>(match us,hl with| [_,_],_=>rfl),
  f_l_turned:=f_36,d_l_turned:=_,F_l_turned:=F_36,
  b_l_turned:=F_36.binds fun _ _ _ _ _ _ us hl=>(match us,hl with| [_,_],_=>rfl),
  m_l_turned:=PySem.W.mg_of X G a_36,
  f_l_milled:=f_37,d_l_milled:=_,F_l_milled:=F_37,
  b_l_milled:=F_37.binds fun _ _ _ _ _ _ us hl=>(match us,hl with| [_,_,_,_],_=>rfl),
  m_l_milled:=PySem.W.mg_of X G a_37,
  f_l_loads:=f_38,d_l_loads:=_,F_l_loads:=F_38,
  b_l_loads:=F_38.binds fun _ _ _ _ _ _ us hl=>(match us,hl with| [_,_],_=>rfl),
  m_l_loads:=PySem.W.mg_of X G a_38,
  f_l_can:=f_39,d_l_can:=_,F_l_can:=F_39,
  b_l_can:=F_39.binds fun _ _ _ _ _ _ us hl=>(match us,hl with| [_,_,_],_=>rfl),
  m_l_can:=PySem.W.mg_of X G a_39,
  f_Hall_leaving:=f_40,d_Hall_leaving:=_,F_Hall_leaving:=F_40,
  b_Hall_leaving:=F_40.binds fun _ _ _ _ _ _ us hl=>(match us,hl with| [_,_],_=>rfl),
  f_Hall_need_belt:=f_41,d_Hall_need_belt:=_,F_Hall_need_belt:=F_41,
  b_Hall_need_belt:=F_41.binds fun _ _ _ _ _ _ us hl=>(match us,hl with| [_,_],_=>rfl),
  f_Hall_belt_at:=f_42,d_Hall_belt_at:=_,F_Hall_belt_at:=F_42,
  b_Hall_belt_at:=F_42.binds fun _ _ _ _ _ _ us hl=>(match us,hl with| [_,_],_=>rfl),
  f_gives_of:=f_43,d_gives_of:=_,F_gives_of:=F_43,
  b_gives_of:=F_43.binds fun _ _ _ _ _ _ us hl=>(match us,hl with| [_,_],_=>rfl),
  m_gives_of:=PySem.W.mg_of X G a_43,
  f_given_by:=f_44,d_given_by:=_,F_given_by:=F_44,
  b_given_by:=F_44.binds fun _ _ _ _ _ _ us hl=>(match us,hl with| [_,_],_=>rfl),
  m_given_by:=PySem.W.mg_of X G a_44,
  f_Hall_entering:=f_45,d_Hall_entering:=_,F_Hall_entering:=F_45,
  b_Hall_entering:=F_45.binds fun _ _ _ _ _ _ us hl=>(match us,hl with| [_,_],_=>rfl),
  f_takes_of:=f_46,d_takes_of:=_,F_takes_of:=F_46,
  b_takes_of:=F_46.binds fun _ _ _ _ _ _ us hl=>(match us,hl with| [_,_],_=>rfl),
  m_takes_of:=PySem.W.mg_of X G a_46,
  f_need_work_forms:=f_47,d_need_work_forms:=_,F_need_work_forms:=F_47,
  b_need_work_forms:=F_47.binds fun _ _ _ _ _ _ us hl=>(match us,hl with| [_,_,_],_=>rfl),
  m_need_work_forms:=PySem.W.mg_of X G a_47,
  f_need_forms:=f_48,d_need_forms:=_,F_need_forms:=F_48,
  b_need_forms:=F_48.binds fun _ _ _ _ _ _ us hl=>(match us,hl with| [_,_],_=>rfl),
  m_need_forms:=PySem.W.mg_of X G a_48,
  f_Hall_belts:=f_49,d_Hall_belts:=_,F_Hall_belts:=F_49,
  b_Hall_belts:=F_49.binds fun _ _ _ _ _ _ us hl=>(match us,hl with| [_],_=>rfl),
  f_starts_of:=f_50,d_starts_of:=_,F_starts_of:=F_50,
  b_starts_of:=F_50.binds fun _ _ _ _ _ _ us hl=>(match us,hl with| [_],_=>rfl),
  m_starts_of:=PySem.W.mg_of X G a_50,
  f_need_pieces:=f_51,d_need_pieces:=_,F_need_pieces:=F_51,
  b_need_pieces:=F_51.binds fun _ _ _ _ _ _ us hl=>(match us,hl with| [_,_],_=>rfl),
  m_need_pieces:=PySem.W.mg_of X G a_51,
  f_Floor_init:=f_52,d_Floor_init:=_,F_Floor_init:=F_52,
  b_Floor_init:=F_52.binds fun _ _ _ _ _ _ us hl=>(match us,hl with| [_,_],_=>rfl),
  f_Lane_init:=f_53,d_Lane_init:=_,F_Lane_init:=F_53,
  b_Lane_init:=F_53.binds fun _ _ _ _ _ _ us hl=>(match us,hl with| [_,_],_=>rfl),
  f_Mill_init:=f_54,d_Mill_init:=_,F_Mill_init:=F_54,
  b_Mill_init:=F_54.binds fun _ _ _ _ _ _ us hl=>(match us,hl with| [_,_,_,_],_=>rfl),
  f_law:=f_55,d_law:=_,F_law:=F_55,
  b_law:=F_55.binds fun _ _ _ _ _ _ us hl=>(match us,hl with| [_],_=>rfl),
  m_law:=PySem.W.mg_of X G a_55,
  C_Floor:=C_Floor,cl_Floor:=⟨pg_Floor,hd_Floor,po_Floor,sa_Floor⟩,g_Floor:=PySem.W.mg_of X G a_Floor,
  na_Floor:=⟨fun f hf=>(by
   simp only[List.mem_cons,List.not_mem_nil,or_false] at hf
   rcases hf with rfl|rfl|rfl
   ·exact na_Floor_takes
   ·exact na_Floor_gives
   ·exact na_Floor_heaps)⟩,
  M_Floor_lying:=⟨a_21,i_21,k_21⟩,
  M_Floor_need_work:=⟨a_28,i_28,k_28⟩,
  M_Floor_go:=⟨a_29,i_29,k_29⟩,
  M_Floor_turn:=⟨a_30,i_30,k_30⟩,
  mk_Floor:=⟨mk_Floor,a_52,i_52,kc_Floor⟩,
  C_Mill:=C_Mill,cl_Mill:=⟨pg_Mill,hd_Mill,po_Mill,sa_Mill⟩,g_Mill:=PySem.W.mg_of X G a_Mill,
  na_Mill:=⟨fun f hf=>(by
   simp only[List.mem_cons,List.not_mem_nil,or_false] at hf
   rcases hf with rfl|rfl|rfl
   ·exact na_Mill_floor
   ·exact na_Mill_forms
   ·exact na_Mill_lanes)⟩,
  M_Mill_lying:=⟨a_23,i_23,k_23⟩,
  M_Mill_pass_on:=⟨a_33,i_33,k_33⟩,
  M_Mill_go:=⟨a_34,i_34,k_34⟩,
  M_Mill_turn:=⟨a_35,i_35,k_35⟩,
  mk_Mill:=⟨mk_Mill,a_54,i_54,kc_Mill⟩,
  C_Lane:=C_Lane,cl_Lane:=⟨pg_Lane,hd_Lane,po_Lane,sa_Lane⟩,g_Lane:=PySem.W.mg_of X G a_Lane,
  na_Lane:=⟨fun f hf=>(by
   simp only[List.mem_cons,List.not_mem_nil,or_false] at hf
   rcases hf with rfl|rfl
   ·exact na_Lane_laid
   ·exact na_Lane_gone)⟩,
  M_Lane_lying:=⟨a_22,i_22,k_22⟩,
  M_Lane_lay_behind:=⟨a_31,i_31,k_31⟩,
  M_Lane_drawn_off:=⟨a_32,i_32,k_32⟩,
  mk_Lane:=⟨mk_Lane,a_53,i_53,kc_Lane⟩,
  C_Hall:=C_Hall,cl_Hall:=⟨pg_Hall,hd_Hall,po_Hall,sa_Hall⟩,g_Hall:=PySem.W.mg_of X G a_Hall,
  na_Hall:=⟨fun f hf=>(by
   simp only[List.mem_cons,List.not_mem_nil,or_false] at hf
   rcases hf with rfl|rfl
   ·exact na_Hall_numbers
   ·exact na_Hall_rows)⟩,
  M_Hall_work:=⟨a_5,i_5,k_5⟩,
  M_Hall_need_work:=⟨a_10,i_10,k_10⟩,
  M_Hall_lay:=⟨a_11,i_11,k_11⟩,
  M_Hall_belt:=⟨a_12,i_12,k_12⟩,
  mk_Hall:=⟨mk_Hall,a_13,i_13,kc_Hall⟩,
  M_Hall_names:=⟨a_15,i_15,k_15⟩,
  M_Hall_leaving:=⟨a_40,i_40,k_40⟩,
  M_Hall_need_belt:=⟨a_41,i_41,k_41⟩,
  M_Hall_belt_at:=⟨a_42,i_42,k_42⟩,
  M_Hall_entering:=⟨a_45,i_45,k_45⟩,
  M_Hall_belts:=⟨a_49,i_49,k_49⟩,
  n_ValueError:=PySem.W.mg_none_of X G z_ValueError,
  n_all:=PySem.W.mg_none_of X G z_all,
  n_bool:=PySem.W.mg_none_of X G z_bool,
  n_enumerate:=PySem.W.mg_none_of X G z_enumerate,
  n_int:=PySem.W.mg_none_of X G z_int,
  n_isinstance:=PySem.W.mg_none_of X G z_isinstance,
  n_len:=PySem.W.mg_none_of X G z_len,
  n_list:=PySem.W.mg_none_of X G z_list,
  n_min:=PySem.W.mg_none_of X G z_min,
  n_range:=PySem.W.mg_none_of X G z_range,
  n_str:=PySem.W.mg_none_of X G z_str,
  n_sum:=PySem.W.mg_none_of X G z_sum,
  n_tuple:=PySem.W.mg_none_of X G z_tuple,
  n_zip:=PySem.W.mg_none_of X G z_zip,
  X_RateError:=X_RateError,gx_RateError:=gx_RateError,mx_RateError:=PySem.W.mg_of X G gx_RateError,ex_RateError:=ex_RateError,
  X_NoName:=X_NoName,gx_NoName:=gx_NoName,mx_NoName:=PySem.W.mg_of X G gx_NoName,ex_NoName:=ex_NoName,
  X_Twice:=X_Twice,gx_Twice:=gx_Twice,mx_Twice:=PySem.W.mg_of X G gx_Twice,ex_Twice:=ex_Twice,
  X_TooMuch:=X_TooMuch,gx_TooMuch:=gx_TooMuch,mx_TooMuch:=PySem.W.mg_of X G gx_TooMuch,ex_TooMuch:=ex_TooMuch,
  X_NoWork:=X_NoWork,gx_NoWork:=gx_NoWork,mx_NoWork:=PySem.W.mg_of X G gx_NoWork,ex_NoWork:=ex_NoWork,
  X_NoBelt:=X_NoBelt,gx_NoBelt:=gx_NoBelt,mx_NoBelt:=PySem.W.mg_of X G gx_NoBelt,ex_NoBelt:=ex_NoBelt,
  X_NoRate:=X_NoRate,gx_NoRate:=gx_NoRate,mx_NoRate:=PySem.W.mg_of X G gx_NoRate,ex_NoRate:=ex_NoRate,
  X_Empty:=X_Empty,gx_Empty:=gx_Empty,mx_Empty:=PySem.W.mg_of X G gx_Empty,ex_Empty:=ex_Empty,
  X_NoForm:=X_NoForm,gx_NoForm:=gx_NoForm,mx_NoForm:=PySem.W.mg_of X G gx_NoForm,ex_NoForm:=ex_NoForm,
  X_NoPieces:=X_NoPieces,gx_NoPieces:=gx_NoPieces,mx_NoPieces:=PySem.W.mg_of X G gx_NoPieces,ex_NoPieces:=ex_NoPieces,
  em_NoWork_NoWork:=em_NoWork_NoWork,
  em_Empty_Empty:=em_Empty_Empty,
  em_Empty_NoWork:=em_Empty_NoWork,
  xc_NoWork:=⟨Zcp ex_NoWork,x1_NoWork,x2_NoWork,x3_NoWork,xg,xt,x4_NoWork,x5_NoWork⟩,
  xc_Empty:=⟨Zcp ex_Empty,x1_Empty,x2_Empty,x3_Empty,xg,xt,x4_Empty,x5_Empty⟩,
  ki_NoWork_Empty:=ki_NoWork_Empty,
  ki_NoWork_ValueError:=ki_NoWork_ValueError,
  ki_NoWork_RateError:=ki_NoWork_RateError,
  ki_Empty_Empty:=ki_Empty_Empty,
  ki_Empty_ValueError:=ki_Empty_ValueError,
  ki_Empty_RateError:=ki_Empty_RateError,
  tk_MOST_LETTERS:=tk_MOST_LETTERS,c_MOST_LETTERS:=PySem.W.mg_of X G c_MOST_LETTERS,
  tk_MOST_WORKS:=tk_MOST_WORKS,c_MOST_WORKS:=PySem.W.mg_of X G c_MOST_WORKS,
  tk_MOST_BELTS:=tk_MOST_BELTS,c_MOST_BELTS:=PySem.W.mg_of X G c_MOST_BELTS,
  bl_law:=fun s v=> .of_eq rfl},trivial⟩
theorem walk {l:PySem.W.OpenLaw} {q:Program} {loose:List Str} {XP:(Str→Option Value)→Heap→Prop} {YP:World→Heap→Prop} {d:DefRec} {K:Params→PySem.W.Frag} (hn:l.most=some 63) (hdf:d.params.defaults=[]) (hdn:d.name="law")
  (hY:∀(w:World) (h:Heap),YP w h→(K w.params).In h)
  (F:∀(w:World) (mg:Str→Option Value) (h:Heap),(K w.params).In h→h.Ns mainGlobals mg→∃T:Tp (K w.params) mg,True):
  PySem.W.WalkO q loose XP YP l.row.toRowW d [] (fun f vs=>PySem.call f vs):=by
 refine L2.Zhp (n:=63) (k:=12) (x:="_law_script") (CX:=fun w=>CXX l.prog w) (sp:=fun w=>Zg3 (K w.params)) hn (by decide) hdf ⟨rfl,by decide,by decide⟩ hY (fun w mg fa h KX G hmg=>?_) (fun _ _ a ns hl _ hS=>⟨a,ns,rfl,hS,hl,fun _=>rfl⟩) ?_
 ·obtain⟨T,_⟩:=F w mg h KX G
  rw[hdn,T.m_law] at hmg
  cases hmg
  exact⟨T.d_law,T.bl_law,fun base _ _=>ZiW T⟩
 ·intro w H s e s' z
  obtain⟨_,_,_,_,_,_,_,_,_,_,_,_,z⟩:=z
  exact z
end Nm
namespace PySem.W.Fast
def tw7981235255391863093 : Nat := 0
def tw7370468471920309840 : Nat := 0
def tw32958288003602643 : Nat := 0
def tw15399662740482946344 : Nat := 0
def tw11161942971149866820 : Nat := 0
def tw17472374961611138487 : Nat := 0
def tw6337994532413571637 : Nat := 0
def tw11444675268242933166 : Nat := 0
def tw18289875255535347333 : Nat := 0
def tw16970861770726178410 : Nat := 0
def tw8192701394753350353 : Nat := 0
def tw10545849192928883736 : Nat := 0
def tw1046837576159401839 : Nat := 0
def tw4485045539021205495 : Nat := 0
def tw15308155734923958524 : Nat := 0
def tw6079790818422840667 : Nat := 0
def tw1623358174509245104 : Nat := 0
def tw17129865049775092950 : Nat := 0
def tw17021339561192082380 : Nat := 0
def tw11885789957740529679 : Nat := 0
def tw16554137263797034034 : Nat := 0
def tw14821585990138979561 : Nat := 0
def tw14137064903831061423 : Nat := 0
def tw5748386308101928741 : Nat := 0
def tw6885551975538352102 : Nat := 0
def tw9690305995561364054 : Nat := 0
def tw14101738530224338752 : Nat := 0
def tw6473214774820636550 : Nat := 0
def tw17970943792914111431 : Nat := 0
def tw3697230406678036492 : Nat := 0
def tw4852579507548142615 : Nat := 0
def tw14645363991680524764 : Nat := 0
def tw14524765237246439273 : Nat := 0
def tw9360882170038436535 : Nat := 0
def tw9043155815739614033 : Nat := 0
def tw16655615649631896851 : Nat := 0
def tw9031333497497645553 : Nat := 0
def tw63969656559570724 : Nat := 0
def tw18195112987013629597 : Nat := 0
def tw12564366927450401180 : Nat := 0
def tw7322710230437844042 : Nat := 0
def tw18073546384087101525 : Nat := 0
def tw15038640729959103807 : Nat := 0
def tw927633978479626257 : Nat := 0
def tw12143551706771905056 : Nat := 0
def tw15927787576816225008 : Nat := 0
def tw11369300796039787689 : Nat := 0
def tw17935345215242174225 : Nat := 0
def tw9449474475749125778 : Nat := 0
def tw1510305187496099869 : Nat := 0
def tw5000009778169914926 : Nat := 0
def tw4694754667811861354 : Nat := 0
def tw6955161376910599907 : Nat := 0
def tw5798451482778440965 : Nat := 0
def tw13519834059349787250 : Nat := 0
def tw16513349552196806271 : Nat := 0
def tw7123266500051959556 : Nat := 0
def tw4686425966630954105 : Nat := 0
def tw1191389662859861006 : Nat := 0
def tw11709927189443618690 : Nat := 0
def tw12491036212976666558 : Nat := 0
def tw2378023186316510821 : Nat := 0
def tw11661114519210575300 : Nat := 0
def tw6716394598469781762 : Nat := 0
def tw4135377448318783654 : Nat := 0
def tw16707336208906504351 : Nat := 0
def tw1115384007182430381 : Nat := 0
def tw15340033154645503924 : Nat := 0
def tw15759855934121630397 : Nat := 0
def tw17851441400762523212 : Nat := 0
def tw2414786549355644979 : Nat := 0
def tw667882101899880638 : Nat := 0
def tw8572874462335233215 : Nat := 0
def tw1488551842802672576 : Nat := 0
def tw4137210399525019433 : Nat := 0
def tw12881473701076634948 : Nat := 0
def tw8159720883625226085 : Nat := 0
def tw6248293810156769292 : Nat := 0
def tw13600645899696684578 : Nat := 0
def tw8540016902510279938 : Nat := 0
def tw6828938231693900921 : Nat := 0
def tw7629245631067292955 : Nat := 0
def tw6055487855442006258 : Nat := 0
def tw10926108535346977394 : Nat := 0
def tw944936640110543256 : Nat := 0
def tw4019728188376052971 : Nat := 0
def tw5538839748275477293 : Nat := 0
def tw15900389024752092624 : Nat := 0
def tw3012656317080138903 : Nat := 0
def tw1389230729629024030 : Nat := 0
def tw9767209557058353903 : Nat := 0
def tw1079157719721337652 : Nat := 0
def tw13000466586909030986 : Nat := 0
def tw5123842676199827911 : Nat := 0
def tw12257309864613493189 : Nat := 0
def tw11576422013291472820 : Nat := 0
def tw14421391612373782036 : Nat := 0
def tw783041675031552772 : Nat := 0
def tw13589888625564949430 : Nat := 0
def tw13678527975829759789 : Nat := 0
def tw3010699070406597680 : Nat := 0
def tw6730554114610616375 : Nat := 0
def tw15447802808564570192 : Nat := 0
def tw7863077693302289288 : Nat := 0
def tw3817394202975303443 : Nat := 0
def tw14177425312463137049 : Nat := 0
def tw8968375270070758452 : Nat := 0
def tw4257577646384095085 : Nat := 0
def tw1371597043724165732 : Nat := 0
def tw13117368536439441637 : Nat := 0
def tw10600877663940056436 : Nat := 0
def tw2603232208557151563 : Nat := 0
def tw15727440729377998188 : Nat := 0
def tw2721272792788889754 : Nat := 0
def tw1582970268709849716 : Nat := 0
def tw8839463974357376741 : Nat := 0
def tw6335320273914205360 : Nat := 0
def tw5799945454000328133 : Nat := 0
def tw9459267691327231123 : Nat := 0
def tw9549108286177558300 : Nat := 0
def tw7604211565157948712 : Nat := 0
def tw17955787631417929061 : Nat := 0
def tw11029425014128106708 : Nat := 0
def tw17360337164534458576 : Nat := 0
def tw1455405897115577260 : Nat := 0
def tw12885536016722879309 : Nat := 0
def tw18322309313037418373 : Nat := 0
def tw1544557707487887666 : Nat := 0
def tw1521181241053553977 : Nat := 0
def tw17292596695654745915 : Nat := 0
def tw8634305410839574084 : Nat := 0
def tw403419884759738549 : Nat := 0
def tw1685530592872746844 : Nat := 0
def tw13268560684016046766 : Nat := 0
def tw16921058882589125990 : Nat := 0
def tw16113480929479117397 : Nat := 0
def tw7618751107498433025 : Nat := 0
def tw11937175826804902555 : Nat := 0
def tw15228367621936016763 : Nat := 0
def tw10358563159307806808 : Nat := 0
def tw8146711542014405233 : Nat := 0
def tw1573438900876232193 : Nat := 0
def tw12252966275040269335 : Nat := 0
def tw16774756696250825638 : Nat := 0
def tw4558997337191166366 : Nat := 0
def tw18194153921145161110 : Nat := 0
def tw13508384458423595025 : Nat := 0
def tw15364721693776364623 : Nat := 0
def tw13639913527474673036 : Nat := 0
def tw16930408389811065325 : Nat := 0
def tw8847649618880172347 : Nat := 0
def tw3384439446839252338 : Nat := 0
def tw4953221620148648315 : Nat := 0
def tw7492497270697419518 : Nat := 0
def tw6870998901815114235 : Nat := 0
def tw5995963638365905433 : Nat := 0
def tw9486374849597121491 : Nat := 0
def tw5493211423501339769 : Nat := 0
def tw2037557210535973632 : Nat := 0
def tw17892775694644236514 : Nat := 0
def tw6283164894233055941 : Nat := 0
def tw14127861590355547070 : Nat := 0
def tw12384969243035258464 : Nat := 0
def tw16530743374976446691 : Nat := 0
def tw16861932964809376215 : Nat := 0
def tw2648568505014681542 : Nat := 0
def tw8888403701499994267 : Nat := 0
def tw12818156284516616598 : Nat := 0
def tw6574780520990621031 : Nat := 0
def tw15102200382423420824 : Nat := 0
def tw17917913951295393901 : Nat := 0
def tw7887100444339414886 : Nat := 0
def tw7179171262095450631 : Nat := 0
def tw5364527335725829238 : Nat := 0
def tw3127409922169986050 : Nat := 0
def tw9480319641780217002 : Nat := 0
def tw4716387508316095754 : Nat := 0
def tw10406127527281495701 : Nat := 0
def tw1750575713652815717 : Nat := 0
def tw8672278854895837987 : Nat := 0
def tw12872583336286308146 : Nat := 0
def tw4344964997780436912 : Nat := 0
def tw14820753902976615970 : Nat := 0
def tw2375180370081861053 : Nat := 0
def tw11488544311079261976 : Nat := 0
def tw10553186205314716879 : Nat := 0
def tw15689203826848715012 : Nat := 0
def tw9108191277472552971 : Nat := 0
def tw15776355821323598804 : Nat := 0
def tw2234145055637138214 : Nat := 0
def tw8775276087777238329 : Nat := 0
def tw4658850683733101103 : Nat := 0
def tw1612026071784927845 : Nat := 0
def tw16866285175692514965 : Nat := 0
def tw536405968362006435 : Nat := 0
def tw6829348968545592502 : Nat := 0
def tw3408413896643984517 : Nat := 0
def tw12389695518099804675 : Nat := 0
def tw14335338111031608960 : Nat := 0
def tw5012162481060606197 : Nat := 0
def tw13865177160608674998 : Nat := 0
def tw10881137599435863237 : Nat := 0
def tw16171553109783084597 : Nat := 0
def tw2067463210037598988 : Nat := 0
def tw14163002335323775900 : Nat := 0
def tw18286623973387792736 : Nat := 0
def tw5374357040370533865 : Nat := 0
def tw11640643424821478990 : Nat := 0
def tw5597485861316558605 : Nat := 0
def tw17338301756825085668 : Nat := 0
def tw714325345550676865 : Nat := 0
def tw11436052060607277610 : Nat := 0
def tw7252153375865359738 : Nat := 0
def tw3142017990999896636 : Nat := 0
def tw8255361594325849507 : Nat := 0
def tw12870811981364341067 : Nat := 0
def tw6740442376832105945 : Nat := 0
def tw15077048269393126091 : Nat := 0
def tw16483168512747624569 : Nat := 0
def tw11511342667783968760 : Nat := 0
def tw15463622085665019545 : Nat := 0
def tw18033237450776717571 : Nat := 0
def tw15577791133443266765 : Nat := 0
def tw16541405859923841661 : Nat := 0
def tw4123403225696711542 : Nat := 0
def tw14789766042564617697 : Nat := 0
def tw14408614566918832091 : Nat := 0
def tw5248136592808948542 : Nat := 0
def tw9747929130533771772 : Nat := 0
def tw17313437042592042358 : Nat := 0
def tw13946501956093914424 : Nat := 0
def tw18349655206915540667 : Nat := 0
def tw9873828351168195109 : Nat := 0
def tw17208725671935848943 : Nat := 0
def tw15990435046728212066 : Nat := 0
def tw568177199493558948 : Nat := 0
def tw10107014429522031647 : Nat := 0
def tw17451764191048283646 : Nat := 0
def tw1829956066709641732 : Nat := 0
def tw10570920255269130732 : Nat := 0
def tw9070737614397754626 : Nat := 0
def tw18022622508361719262 : Nat := 0
def tw9350333209885502852 : Nat := 0
def tw15535021669867026619 : Nat := 0
def tw8862056568971761318 : Nat := 0
def tw14535721270130293214 : Nat := 0
def tw17806377360114237420 : Nat := 0
def tw17850656111366282069 : Nat := 0
def tw6957030742943492861 : Nat := 0
def tw867351846025299751 : Nat := 0
def tw3365353138054213601 : Nat := 0
def tw9571095613417138436 : Nat := 0
def tw7041738623927634199 : Nat := 0
def tw15839885600625009056 : Nat := 0
def tw5733675387183891875 : Nat := 0
def tw17846990140306716862 : Nat := 0
def tw303581750282226120 : Nat := 0
def tw7068981409384160839 : Nat := 0
def tw6808080699272615564 : Nat := 0
def tw15200566745616494373 : Nat := 0
def tw4293743081520231084 : Nat := 0
def tw12682027265039882206 : Nat := 0
def tw4868314637857375169 : Nat := 0
def tw15099778347379475796 : Nat := 0
def tw9021061343284345913 : Nat := 0
def tw8565888033507786335 : Nat := 0
def tw1595343780687383055 : Nat := 0
def tw12179733620218520298 : Nat := 0
def tw7320681779174965189 : Nat := 0
def tw4761009596170036039 : Nat := 0
def tw4581943983923350926 : Nat := 0
def tw608666816905519671 : Nat := 0
def tw15013828977340590124 : Nat := 0
def tw3614574586110521342 : Nat := 0
def tw148018284924903519 : Nat := 0
def tw8488215538015178173 : Nat := 0
def tw9025212335078487342 : Nat := 0
def tw14214342203529948942 : Nat := 0
def tw5851101375035844217 : Nat := 0
def tw964733123620752851 : Nat := 0
def tw16152063282898670972 : Nat := 0
def tw11814308763658601221 : Nat := 0
def tw9282980101507285779 : Nat := 0
def tw20570729225138842 : Nat := 0
def tw16543044141214018052 : Nat := 0
def tw6060777159051354752 : Nat := 0
def tw9008291200669967942 : Nat := 0
def tw2353397236875321896 : Nat := 0
def tw5507297605000813852 : Nat := 0
def tw15595593026206321071 : Nat := 0
def tw16356330876463170961 : Nat := 0
def tw15121718859808383684 : Nat := 0
def tw11377693353220017578 : Nat := 0
def tw16649840925824315261 : Nat := 0
def tw4273498760071059424 : Nat := 0
def tw16801092903382631994 : Nat := 0
def tw12656291221769588656 : Nat := 0
def tw11949922262546205936 : Nat := 0
def tw3420178629453743228 : Nat := 0
def tw1944616717034728114 : Nat := 0
def tw2105973777960781000 : Nat := 0
def tw1355513077536301122 : Nat := 0
def tw6861115086045805209 : Nat := 0
def tw7903351652868294155 : Nat := 0
def tw5341310753111340243 : Nat := 0
def tw17368959788615334749 : Nat := 0
def tw6622425714509898089 : Nat := 0
def tw11237220161548267509 : Nat := 0
def tw10907249543445590290 : Nat := 0
def tw15174660411615265543 : Nat := 0
def tw9726677870904862373 : Nat := 0
def tw16646825805331082957 : Nat := 0
def tw8702127633023492760 : Nat := 0
def tw8497013728263364428 : Nat := 0
def tw9109153005423070528 : Nat := 0
def tw8169142607418605732 : Nat := 0
def tw2090089836377510191 : Nat := 0
def tw1710784652000103289 : Nat := 0
def tw2266312342349541830 : Nat := 0
def tw14086585891518178526 : Nat := 0
def tw1767374993283331258 : Nat := 0
def tw11859354142307138133 : Nat := 0
def tw17968914091385742215 : Nat := 0
def tw8134218724680674299 : Nat := 0
def tw4761658710270684650 : Nat := 0
def tw14980038036276973447 : Nat := 0
def tw17060984081706351576 : Nat := 0
def tw11021144933279720509 : Nat := 0
def tw6540230553061190926 : Nat := 0
def tw11458885357164539751 : Nat := 0
def tw10038437910306366137 : Nat := 0
def tw15143589413750009346 : Nat := 0
def tw6575186806010811490 : Nat := 0
def tw16329878071302727507 : Nat := 0
def tw3185160841439268365 : Nat := 0
def tw2695804345263218006 : Nat := 0
def tw855401610431946120 : Nat := 0
def tw15453602850572406503 : Nat := 0
def tw6445080399169391202 : Nat := 0
def tw13031818813804291229 : Nat := 0
def tw9198513209571939536 : Nat := 0
def tw1536684567260748619 : Nat := 0
def tw1586489422112740847 : Nat := 0
def tw15733618007276152261 : Nat := 0
def tw1554576818586127013 : Nat := 0
def tw15825889150700281372 : Nat := 0
def tw14652270827467674388 : Nat := 0
def tw17586480056829315896 : Nat := 0
def tw5738026939437911878 : Nat := 0
def tw9855709492515657961 : Nat := 0
def tw8747506212266429177 : Nat := 0
def tw10875223867615139479 : Nat := 0
def tw5637982291143597531 : Nat := 0
def tw9176858416701695185 : Nat := 0
def tw5825228421325094934 : Nat := 0
def tw11592342776242425741 : Nat := 0
def tw6585531897472040157 : Nat := 0
def tw17803777273302901992 : Nat := 0
def tw3354558801672751284 : Nat := 0
def tw6793876284503961088 : Nat := 0
def tw15810997136267872325 : Nat := 0
def tw698114615883084339 : Nat := 0
def tw8382843354581426779 : Nat := 0
def tw10181882935559388444 : Nat := 0
def tw6625709325812185489 : Nat := 0
def tw5685302934575200106 : Nat := 0
def tw230096906570144621 : Nat := 0
def tw14015367479952890557 : Nat := 0
def tw1648653021522450675 : Nat := 0
def tw15622738930651623986 : Nat := 0
def tw10379258373255750637 : Nat := 0
def tw14932301366060987474 : Nat := 0
def tw12810495210179750768 : Nat := 0
def tw349708168680029886 : Nat := 0
def tw469829018715247927 : Nat := 0
def tw13808241441660415399 : Nat := 0
def tw4401001326265120966 : Nat := 0
def tw8309192568425376829 : Nat := 0
def tw11747763303714761827 : Nat := 0
def tw7745940374772842818 : Nat := 0
def tw9924616540613365997 : Nat := 0
def tw4409412008531797362 : Nat := 0
def tw14346879986257276428 : Nat := 0
def tw13470069937117272985 : Nat := 0
def tw7624229639398052296 : Nat := 0
def tw5527819946529361939 : Nat := 0
def tw15107391250158374460 : Nat := 0
def tw12327881051960279763 : Nat := 0
def tw11464007911643243676 : Nat := 0
def tw14096669835651509028 : Nat := 0
def tw401514925841400566 : Nat := 0
def tw14330841556627385678 : Nat := 0
def tw1366510704852935025 : Nat := 0
def tw6459398434080677068 : Nat := 0
def tw5069197051851253296 : Nat := 0
def tw18160739761679469722 : Nat := 0
def tw14983456375772410143 : Nat := 0
def tw13481330280769708609 : Nat := 0
def tw4726935143049451719 : Nat := 0
def tw10220394880207961909 : Nat := 0
def tw6129956121902546837 : Nat := 0
def tw15895874662724451564 : Nat := 0
def tw11361294363959645824 : Nat := 0
def tw16608485955338170237 : Nat := 0
def tw8576069686806809519 : Nat := 0
def tw7156662843941504354 : Nat := 0
def tw226436392612285479 : Nat := 0
def tw3749420892719705168 : Nat := 0
def tw119535414879760346 : Nat := 0
def tw7972230097704197483 : Nat := 0
def tw2086843635387087494 : Nat := 0
def tw37335175333290430 : Nat := 0
def tw17245503932973108248 : Nat := 0
def tw14693732343336383338 : Nat := 0
def tw8094018377227173097 : Nat := 0
def tw15209284751637610149 : Nat := 0
def tw11626793574089001096 : Nat := 0
def tw3903398599227035878 : Nat := 0
def tw5390597022998670786 : Nat := 0
def tw112472829717207076 : Nat := 0
def tw2026460692581977356 : Nat := 0
def tw1596506674014474700 : Nat := 0
def tw171056736476358085 : Nat := 0
def tw2783639489679598001 : Nat := 0
def tw10882924063545428170 : Nat := 0
def tw2891419189205136467 : Nat := 0
def tw960152197438997810 : Nat := 0
def tw108166367881961951 : Nat := 0
def tw6570755943312590457 : Nat := 0
def tw7899050800408435603 : Nat := 0
def tw15715801072961371469 : Nat := 0
def tw13416073929853690400 : Nat := 0
def tw4214790813913173107 : Nat := 0
def tw12759475642018596599 : Nat := 0
def tw15987956462745250464 : Nat := 0
def tw4274084578967708694 : Nat := 0
def tw9052521161576353304 : Nat := 0
def tw9552056474101090777 : Nat := 0
def tw13136623873269785980 : Nat := 0
def tw4339236734626844229 : Nat := 0
def tw11208653512370725273 : Nat := 0
def tw13544348692976794808 : Nat := 0
def tw5475434701389098867 : Nat := 0
def tw2355216227902552847 : Nat := 0
def tw4154030081005183150 : Nat := 0
def tw312363305130235506 : Nat := 0
def tw4483795811449275113 : Nat := 0
def tw944163364856684064 : Nat := 0
def tw11375105263575496441 : Nat := 0
def tw225531127738928672 : Nat := 0
def tw14673023334053654480 : Nat := 0
def tw16203395702675216856 : Nat := 0
def tw4652380918073003811 : Nat := 0
def tw16486541822397362701 : Nat := 0
def tw7438108282037469145 : Nat := 0
def tw17343047416900326504 : Nat := 0
def tw10039294633822744211 : Nat := 0
def tw13324871377086970017 : Nat := 0
def tw997652212230950429 : Nat := 0
def tw11980525736809879024 : Nat := 0
def tw2941195649336481906 : Nat := 0
def tw261480127165863469 : Nat := 0
def tw12837239305053039658 : Nat := 0
def tw11197824643852933088 : Nat := 0
def tw18257304237171967927 : Nat := 0
def tw8023026017036778653 : Nat := 0
def tw13982831917187305543 : Nat := 0
def tw4767702741853503627 : Nat := 0
def tw13886123210882332518 : Nat := 0
def tw9177567552544753550 : Nat := 0
def tw13300656351289120184 : Nat := 0
def tw15387853131556021100 : Nat := 0
def tw7642689719502484099 : Nat := 0
def tw8971084179504241536 : Nat := 0
def tw2183332355767720948 : Nat := 0
def tw12637817991774118015 : Nat := 0
def tw4938754664596577838 : Nat := 0
def tw2030845801409896466 : Nat := 0
def tw5669433201701288724 : Nat := 0
def tw18171508504005196901 : Nat := 0
end PySem.W.Fast
open PySem PySem.W PyProof.Rows
set_option maxRecDepth 100000 in
set_option maxHeartbeats 0 in
theorem PySem.Challenge.cw_ratehall_k26_mill_turns_holds : PySem.Challenge.rw_ratehall_k26_mill_turns.Holds := by
 w_on;o_law;k_head;(case hw=>w_witness2)
 k_fill
 refine Nm.walk (l:=PySem.Challenge.rw_ratehall_k26_mill_turns) rfl rfl rfl (fun w h Y=>PySem.W.kIn_of Y) ?F
 case F=>
  intro w mg h KX G
  refine' Nm.tp_mk KX G ?a_Floor ?a_Mill ?a_Lane ?a_Hall ?a_0 ?l_0 ?c_0 ?k_0 ?a_1 ?l_1 ?c_1 ?k_1 ?a_2 ?l_2 ?c_2 ?k_2 ?a_3 ?l_3 ?c_3 ?k_3 ?a_4 ?l_4 ?c_4 ?k_4 ?a_5 ?i_5 ?l_5 ?c_5 ?k_5 ?a_6 ?l_6 ?c_6 ?k_6 ?a_7 ?l_7 ?c_7 ?k_7 ?a_8 ?l_8 ?c_8 ?k_8 ?a_9 ?l_9 ?c_9 ?k_9 ?a_10 ?i_10 ?l_10 ?c_10 ?k_10 ?a_11 ?i_11 ?l_11 ?c_11 ?k_11 ?a_12 ?i_12 ?l_12 ?t_Hall_belt ?c_12 ?k_12 ?a_13 ?i_13 ?l_13 ?c_13 ?k_13 ?a_14 ?l_14 ?c_14 ?k_14 ?a_15 ?i_15 ?l_15 ?c_15 ?k_15 ?a_16 ?l_16 ?c_16 ?k_16 ?a_17 ?l_17 ?c_17 ?k_17 ?a_18 ?l_18 ?c_18 ?k_18 ?a_19 ?l_19 ?c_19 ?k_19 ?a_20 ?l_20 ?c_20 ?k_20 ?a_21 ?i_21 ?l_21 ?c_21 ?k_21 ?a_22 ?i_22 ?l_22 ?c_22 ?k_22 ?a_23 ?i_23 ?l_23 ?c_23 ?k_23 ?a_24 ?l_24 ?c_24 ?k_24 ?a_25 ?l_25 ?c_25 ?k_25 ?a_26 ?l_26 ?c_26 ?k_26 ?a_27 ?l_27 ?c_27 ?k_27 ?a_28 ?i_28 ?l_28 ?c_28 ?k_28 ?a_29 ?i_29 ?l_29 ?c_29 ?k_29 ?a_30 ?i_30 ?l_30 ?c_30 ?k_30 ?a_31 ?i_31 ?l_31 ?c_31 ?k_31 ?a_32 ?i_32 ?l_32 ?c_32 ?k_32 ?a_33 ?i_33 ?l_33 ?c_33 ?k_33 ?a_34 ?i_34 ?l_34 ?c_34 ?k_34 ?a_35 ?i_35 ?l_35 ?c_35 ?k_35 ?a_36 ?l_36 ?c_36 ?k_36 ?a_37 ?l_37 ?c_37 ?k_37 ?a_38 ?l_38 ?c_38 ?k_38 ?a_39 ?l_39 ?c_39 ?k_39 ?a_40 ?i_40 ?l_40 ?c_40 ?k_40 ?a_41 ?i_41 ?l_41 ?c_41 ?k_41 ?a_42 ?i_42 ?l_42 ?c_42 ?k_42 ?a_43 ?l_43 ?c_43 ?k_43 ?a_44 ?l_44 ?c_44 ?k_44 ?a_45 ?i_45 ?l_45 ?c_45 ?k_45 ?a_46 ?l_46 ?c_46 ?k_46 ?a_47 ?l_47 ?c_47 ?k_47 ?a_48 ?l_48 ?c_48 ?k_48 ?a_49 ?i_49 ?l_49 ?c_49 ?k_49 ?a_50 ?l_50 ?c_50 ?k_50 ?a_51 ?l_51 ?c_51 ?k_51 ?a_52 ?i_52 ?l_52 ?c_52 ?k_52 ?a_53 ?i_53 ?l_53 ?c_53 ?k_53 ?a_54 ?i_54 ?l_54 ?c_54 ?k_54 ?a_55 ?l_55 ?c_55 ?k_55 ?pg_Floor ?hd_Floor ?po_Floor ?sa_Floor ?mk_Floor ?kc_Floor ?na_Floor_takes ?na_Floor_gives ?na_Floor_heaps ?pg_Mill ?hd_Mill ?po_Mill ?sa_Mill ?mk_Mill ?kc_Mill ?na_Mill_floor ?na_Mill_forms ?na_Mill_lanes ?pg_Lane ?hd_Lane ?po_Lane ?sa_Lane ?mk_Lane ?kc_Lane ?na_Lane_laid ?na_Lane_gone ?pg_Hall ?hd_Hall ?po_Hall ?sa_Hall ?mk_Hall ?kc_Hall ?na_Hall_numbers ?na_Hall_rows ?gx_RateError ?ex_RateError ?gx_NoName ?ex_NoName ?gx_Twice ?ex_Twice ?gx_TooMuch ?ex_TooMuch ?gx_NoWork ?ex_NoWork ?gx_NoBelt ?ex_NoBelt ?gx_NoRate ?ex_NoRate ?gx_Empty ?ex_Empty ?gx_NoForm ?ex_NoForm ?gx_NoPieces ?ex_NoPieces ?em_NoWork_NoWork ?em_Empty_Empty ?em_Empty_NoWork ?xg ?xt ?x1_NoWork ?x2_NoWork ?x3_NoWork ?x4_NoWork ?x5_NoWork ?x1_Empty ?x2_Empty ?x3_Empty ?x4_Empty ?x5_Empty ?ki_NoWork_Empty ?ki_NoWork_ValueError ?ki_NoWork_RateError ?ki_Empty_Empty ?ki_Empty_ValueError ?ki_Empty_RateError ?c_MOST_LETTERS ?c_MOST_WORKS ?c_MOST_BELTS ?z_ValueError ?z_all ?z_bool ?z_enumerate ?z_int ?z_isinstance ?z_len ?z_list ?z_min ?z_range ?z_str ?z_sum ?z_tuple ?z_zip
  (case a_Floor=>k_is)
  (case a_Mill=>k_is)
  (case a_Lane=>k_is)
  (case a_Hall=>k_is)
  (case a_0=>show _=_;k_is)
  (case l_0=>show _=_;k_is)
  (case c_0=>show _=_;k_is)
  (case k_0=>show _=_;k_is)
  (case a_1=>show _=_;k_is)
  (case l_1=>show _=_;k_is)
  (case c_1=>show _=_;k_is)
  (case k_1=>show _=_;k_is)
  (case a_2=>show _=_;k_is)
  (case l_2=>show _=_;k_is)
  (case c_2=>show _=_;k_is)
  (case k_2=>show _=_;k_is)
  (case a_3=>show _=_;k_is)
  (case l_3=>show _=_;k_is)
  (case c_3=>show _=_;k_is)
  (case k_3=>show _=_;k_is)
  (case a_4=>show _=_;k_is)
  (case l_4=>show _=_;k_is)
  (case c_4=>show _=_;k_is)
  (case k_4=>show _=_;k_is)
  (case a_5=>show _=_;k_is)
  (case i_5=>show _=_;k_is)
  (case l_5=>show _=_;k_is)
  (case c_5=>show _=_;k_is)
  (case k_5=>show _=_;k_is)
  (case a_6=>show _=_;k_is)
  (case l_6=>show _=_;k_is)
  (case c_6=>show _=_;k_is)
  (case k_6=>show _=_;k_is)
  (case a_7=>show _=_;k_is)
  (case l_7=>show _=_;k_is)
  (case c_7=>show _=_;k_is)
  (case k_7=>show _=_;k_is)
  (case a_8=>show _=_;k_is)
  (case l_8=>show _=_;k_is)
  (case c_8=>show _=_;k_is)
  (case k_8=>show _=_;k_is)
  (case a_9=>show _=_;k_is)
  (case l_9=>show _=_;k_is)
  (case c_9=>show _=_;k_is)
  (case k_9=>show _=_;k_is)
  (case a_10=>show _=_;k_is)
  (case i_10=>show _=_;k_is)
  (case l_10=>show _=_;k_is)
  (case c_10=>show _=_;k_is)
  (case k_10=>show _=_;k_is)
  (case a_11=>show _=_;k_is)
  (case i_11=>show _=_;k_is)
  (case l_11=>show _=_;k_is)
  (case c_11=>show _=_;k_is)
  (case k_11=>show _=_;k_is)
  (case a_12=>show _=_;k_is)
  (case i_12=>show _=_;k_is)
  (case l_12=>show _=_;k_is)
  (case t_Hall_belt=>k_is)
  (case c_12=>show _=_;k_is)
  (case k_12=>show _=_;k_is)
  (case a_13=>show _=_;k_is)
  (case i_13=>show _=_;k_is)
  (case l_13=>show _=_;k_is)
  (case c_13=>show _=_;k_is)
  (case k_13=>show _=_;k_is)
  (case a_14=>show _=_;k_is)
  (case l_14=>show _=_;k_is)
  (case c_14=>show _=_;k_is)
  (case k_14=>show _=_;k_is)
  (case a_15=>show _=_;k_is)
  (case i_15=>show _=_;k_is)
  (case l_15=>show _=_;k_is)
  (case c_15=>show _=_;k_is)
  (case k_15=>show _=_;k_is)
  (case a_16=>show _=_;k_is)
  (case l_16=>show _=_;k_is)
  (case c_16=>show _=_;k_is)
  (case k_16=>show _=_;k_is)
  (case a_17=>show _=_;k_is)
  (case l_17=>show _=_;k_is)
  (case c_17=>show _=_;k_is)
  (case k_17=>show _=_;k_is)
  (case a_18=>show _=_;k_is)
  (case l_18=>show _=_;k_is)
  (case c_18=>show _=_;k_is)
  (case k_18=>show _=_;k_is)
  (case a_19=>show _=_;k_is)
  (case l_19=>show _=_;k_is)
  (case c_19=>show _=_;k_is)
  (case k_19=>show _=_;k_is)
  (case a_20=>show _=_;k_is)
  (case l_20=>show _=_;k_is)
  (case c_20=>show _=_;k_is)
  (case k_20=>show _=_;k_is)
  (case a_21=>show _=_;k_is)
  (case i_21=>show _=_;k_is)
  (case l_21=>show _=_;k_is)
  (case c_21=>show _=_;k_is)
  (case k_21=>show _=_;k_is)
  (case a_22=>show _=_;k_is)
  (case i_22=>show _=_;k_is)
  (case l_22=>show _=_;k_is)
  (case c_22=>show _=_;k_is)
  (case k_22=>show _=_;k_is)
  (case a_23=>show _=_;k_is)
  (case i_23=>show _=_;k_is)
  (case l_23=>show _=_;k_is)
  (case c_23=>show _=_;k_is)
  (case k_23=>show _=_;k_is)
  (case a_24=>show _=_;k_is)
  (case l_24=>show _=_;k_is)
  (case c_24=>show _=_;k_is)
  (case k_24=>show _=_;k_is)
  (case a_25=>show _=_;k_is)
  (case l_25=>show _=_;k_is)
  (case c_25=>show _=_;k_is)
  (case k_25=>show _=_;k_is)
  (case a_26=>show _=_;k_is)
  (case l_26=>show _=_;k_is)
  (case c_26=>show _=_;k_is)
  (case k_26=>show _=_;k_is)
  (case a_27=>show _=_;k_is)
  (case l_27=>show _=_;k_is)
  (case c_27=>show _=_;k_is)
  (case k_27=>show _=_;k_is)
  (case a_28=>show _=_;k_is)
  (case i_28=>show _=_;k_is)
  (case l_28=>show _=_;k_is)
  (case c_28=>show _=_;k_is)
  (case k_28=>show _=_;k_is)
  (case a_29=>show _=_;k_is)
  (case i_29=>show _=_;k_is)
  (case l_29=>show _=_;k_is)
  (case c_29=>show _=_;k_is)
  (case k_29=>show _=_;k_is)
  (case a_30=>show _=_;k_is)
  (case i_30=>show _=_;k_is)
  (case l_30=>show _=_;k_is)
  (case c_30=>show _=_;k_is)
  (case k_30=>show _=_;k_is)
  (case a_31=>show _=_;k_is)
  (case i_31=>show _=_;k_is)
  (case l_31=>show _=_;k_is)
  (case c_31=>show _=_;k_is)
  (case k_31=>show _=_;k_is)
  (case a_32=>show _=_;k_is)
  (case i_32=>show _=_;k_is)
  (case l_32=>show _=_;k_is)
  (case c_32=>show _=_;k_is)
  (case k_32=>show _=_;k_is)
  (case a_33=>show _=_;k_is)
  (case i_33=>show _=_;k_is)
  (case l_33=>show _=_;k_is)
  (case c_33=>show _=_;k_is)
  (case k_33=>show _=_;k_is)
  (case a_34=>show _=_;k_is)
  (case i_34=>show _=_;k_is)
  (case l_34=>show _=_;k_is)
  (case c_34=>show _=_;k_is)
  (case k_34=>show _=_;k_is)
  (case a_35=>show _=_;k_is)
  (case i_35=>show _=_;k_is)
  (case l_35=>show _=_;k_is)
  (case c_35=>show _=_;k_is)
  (case k_35=>show _=_;k_is)
  (case a_36=>show _=_;k_is)
  (case l_36=>show _=_;k_is)
  (case c_36=>show _=_;k_is)
  (case k_36=>show _=_;k_is)
  (case a_37=>show _=_;k_is)
  (case l_37=>show _=_;k_is)
  (case c_37=>show _=_;k_is)
  (case k_37=>show _=_;k_is)
  (case a_38=>show _=_;k_is)
  (case l_38=>show _=_;k_is)
  (case c_38=>show _=_;k_is)
  (case k_38=>show _=_;k_is)
  (case a_39=>show _=_;k_is)
  (case l_39=>show _=_;k_is)
  (case c_39=>show _=_;k_is)
  (case k_39=>show _=_;k_is)
  (case a_40=>show _=_;k_is)
  (case i_40=>show _=_;k_is)
  (case l_40=>show _=_;k_is)
  (case c_40=>show _=_;k_is)
  (case k_40=>show _=_;k_is)
  (case a_41=>show _=_;k_is)
  (case i_41=>show _=_;k_is)
  (case l_41=>show _=_;k_is)
  (case c_41=>show _=_;k_is)
  (case k_41=>show _=_;k_is)
  (case a_42=>show _=_;k_is)
  (case i_42=>show _=_;k_is)
  (case l_42=>show _=_;k_is)
  (case c_42=>show _=_;k_is)
  (case k_42=>show _=_;k_is)
  (case a_43=>show _=_;k_is)
  (case l_43=>show _=_;k_is)
  (case c_43=>show _=_;k_is)
  (case k_43=>show _=_;k_is)
  (case a_44=>show _=_;k_is)
  (case l_44=>show _=_;k_is)
  (case c_44=>show _=_;k_is)
  (case k_44=>show _=_;k_is)
  (case a_45=>show _=_;k_is)
  (case i_45=>show _=_;k_is)
  (case l_45=>show _=_;k_is)
  (case c_45=>show _=_;k_is)
  (case k_45=>show _=_;k_is)
  (case a_46=>show _=_;k_is)
  (case l_46=>show _=_;k_is)
  (case c_46=>show _=_;k_is)
  (case k_46=>show _=_;k_is)
  (case a_47=>show _=_;k_is)
  (case l_47=>show _=_;k_is)
  (case c_47=>show _=_;k_is)
  (case k_47=>show _=_;k_is)
  (case a_48=>show _=_;k_is)
  (case l_48=>show _=_;k_is)
  (case c_48=>show _=_;k_is)
  (case k_48=>show _=_;k_is)
  (case a_49=>show _=_;k_is)
  (case i_49=>show _=_;k_is)
  (case l_49=>show _=_;k_is)
  (case c_49=>show _=_;k_is)
  (case k_49=>show _=_;k_is)
  (case a_50=>show _=_;k_is)
  (case l_50=>show _=_;k_is)
  (case c_50=>show _=_;k_is)
  (case k_50=>show _=_;k_is)
  (case a_51=>show _=_;k_is)
  (case l_51=>show _=_;k_is)
  (case c_51=>show _=_;k_is)
  (case k_51=>show _=_;k_is)
  (case a_52=>show _=_;k_is)
  (case i_52=>show _=_;k_is)
  (case l_52=>show _=_;k_is)
  (case c_52=>show _=_;k_is)
  (case k_52=>show _=_;k_is)
  (case a_53=>show _=_;k_is)
  (case i_53=>show _=_;k_is)
  (case l_53=>show _=_;k_is)
  (case c_53=>show _=_;k_is)
  (case k_53=>show _=_;k_is)
  (case a_54=>show _=_;k_is)
  (case i_54=>show _=_;k_is)
  (case l_54=>show _=_;k_is)
  (case c_54=>show _=_;k_is)
  (case k_54=>show _=_;k_is)
  (case a_55=>show _=_;k_is)
  (case l_55=>show _=_;k_is)
  (case c_55=>show _=_;k_is)
  (case k_55=>show _=_;k_is)
  (case pg_Floor=>k_is)
  (case hd_Floor=>k_is)
  (case po_Floor=>k_is)
  (case sa_Floor=>k_is)
  (case mk_Floor=>k_is)
  (case kc_Floor=>k_is)
  (case na_Floor_takes=>k_is)
  (case na_Floor_gives=>k_is)
  (case na_Floor_heaps=>k_is)
  (case pg_Mill=>k_is)
  (case hd_Mill=>k_is)
  (case po_Mill=>k_is)
  (case sa_Mill=>k_is)
  (case mk_Mill=>k_is)
  (case kc_Mill=>k_is)
  (case na_Mill_floor=>k_is)
  (case na_Mill_forms=>k_is)
  (case na_Mill_lanes=>k_is)
  (case pg_Lane=>k_is)
  (case hd_Lane=>k_is)
  (case po_Lane=>k_is)
  (case sa_Lane=>k_is)
  (case mk_Lane=>k_is)
  (case kc_Lane=>k_is)
  (case na_Lane_laid=>k_is)
  (case na_Lane_gone=>k_is)
  (case pg_Hall=>k_is)
  (case hd_Hall=>k_is)
  (case po_Hall=>k_is)
  (case sa_Hall=>k_is)
  (case mk_Hall=>k_is)
  (case kc_Hall=>k_is)
  (case na_Hall_numbers=>k_is)
  (case na_Hall_rows=>k_is)
  (case gx_RateError=>k_is)
  (case ex_RateError=>k_exc)
  (case gx_NoName=>k_is)
  (case ex_NoName=>k_exc)
  (case gx_Twice=>k_is)
  (case ex_Twice=>k_exc)
  (case gx_TooMuch=>k_is)
  (case ex_TooMuch=>k_exc)
  (case gx_NoWork=>k_is)
  (case ex_NoWork=>k_exc)
  (case gx_NoBelt=>k_is)
  (case ex_NoBelt=>k_exc)
  (case gx_NoRate=>k_is)
  (case ex_NoRate=>k_exc)
  (case gx_Empty=>k_is)
  (case ex_Empty=>k_exc)
  (case gx_NoForm=>k_is)
  (case ex_NoForm=>k_exc)
  (case gx_NoPieces=>k_is)
  (case ex_NoPieces=>k_exc)
  (case em_NoWork_NoWork=>kts_exm)
  (case em_Empty_Empty=>kts_exm)
  (case em_Empty_NoWork=>kts_exm)
  (case xg=>k_is)
  (case xt=>k_is)
  (case x1_NoWork=>k_is)
  (case x2_NoWork=>k_is)
  (case x3_NoWork=>k_is)
  (case x4_NoWork=>k_is)
  (case x5_NoWork=>k_is)
  (case x1_Empty=>k_is)
  (case x2_Empty=>k_is)
  (case x3_Empty=>k_is)
  (case x4_Empty=>k_is)
  (case x5_Empty=>k_is)
  (case ki_NoWork_Empty=>kit_is)
  (case ki_NoWork_ValueError=>kit_is)
  (case ki_NoWork_RateError=>kit_is)
  (case ki_Empty_Empty=>kit_is)
  (case ki_Empty_ValueError=>kit_is)
  (case ki_Empty_RateError=>kit_is)
  (case c_MOST_LETTERS=>k_is)
  (case c_MOST_WORKS=>k_is)
  (case c_MOST_BELTS=>k_is)
  (case z_ValueError=>k_is)
  (case z_all=>k_is)
  (case z_bool=>k_is)
  (case z_enumerate=>k_is)
  (case z_int=>k_is)
  (case z_isinstance=>k_is)
  (case z_len=>k_is)
  (case z_list=>k_is)
  (case z_min=>k_is)
  (case z_range=>k_is)
  (case z_str=>k_is)
  (case z_sum=>k_is)
  (case z_tuple=>k_is)
  (case z_zip=>k_is)
#print axioms PySem.Challenge.cw_ratehall_k26_mill_turns_holds
