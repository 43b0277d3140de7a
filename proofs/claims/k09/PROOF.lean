import PyProof.Rows.All
import Wide.All
import OpenK.AllK
import Wide.FinOn
import Lean
import PyProof.EqAt
import PyProof.EqKinds
import PyProof.TupleCall
import PySem.Challenge.RW_ratehall_k09_whole_rates_or_ring
set_option maxHeartbeats 4000000
set_option Elab.async false
set_option linter.all false
set_option maxRecDepth 100000
namespace L2
open PySem PySem.Spec PyProof.Rows
abbrev Key := Sum Int Str
def keyIs : Key → Value → Bool
  | .inl k, v => Value.isInt k v
  | .inr x, v => Value.isStrOf x v
def keyH (w : World) : Key → Int
  | .inl k => hashInt k
  | .inr x => hashStr w x
theorem keyIs_shape : ∀ {k : Key} {v : Value}, keyIs k v = true → (∃ i t, k = Sum.inl i ∧ v = Value.int i t) ∨ (∃ x t, k = Sum.inr x ∧ v = Value.str x t)
  | .inl i, v, h => by
    obtain ⟨t, e⟩ := Value.isInt_shape (k := i) (v := v) h
    exact .inl ⟨i, t, rfl, e⟩
  | .inr x, v, h => by
    obtain ⟨t, e⟩ := Value.isStrOf_shape (x := x) (v := v) h
    exact .inr ⟨x, t, rfl, e⟩
theorem keyIs_int (i : Int) (t : Tok) : keyIs (.inl i) (.int i t) = true := by simp [keyIs, Value.isInt]
theorem keyIs_str (x : Str) (t : Tok) : keyIs (.inr x) (.str x t) = true := by simp [keyIs, Value.isStrOf]
theorem key_ll (a b : Int) : decide ((Sum.inl a : Key) = Sum.inl b) = (a == b) := by
  by_cases e : a = b
  · subst e; simp
  · have h : ¬ (Sum.inl a : Key) = Sum.inl b := fun q => e (Sum.inl.inj q)
    rw [decide_eq_false h]
    exact (beq_eq_false_iff_ne.mpr e).symm
theorem key_rr (a b : Str) : decide ((Sum.inr a : Key) = Sum.inr b) = decide (a = b) := by
  by_cases e : a = b
  · subst e; simp
  · have h : ¬ (Sum.inr a : Key) = Sum.inr b := fun q => e (Sum.inr.inj q)
    rw [decide_eq_false h, decide_eq_false e]
theorem key_lr (a : Int) (b : Str) : decide ((Sum.inl a : Key) = Sum.inr b) = false := decide_eq_false (fun q => nomatch q)
theorem key_rl (a : Str) (b : Int) : decide ((Sum.inr a : Key) = Sum.inl b) = false := decide_eq_false (fun q => nomatch q)
def mixKind (prog : Program) (w : World) : PySem.KeyKind prog w Key where
  is := keyIs
  hash := keyH w
  inj := fun v a b ha hb => by
    rcases keyIs_shape ha with ⟨i, t, rfl, rfl⟩ | ⟨x, t, rfl, rfl⟩
    · rcases keyIs_shape hb with ⟨j, u, rfl, e⟩ | ⟨y, u, rfl, e⟩
      · injection e with e1 _; rw [e1]
      · exact nomatch e
    · rcases keyIs_shape hb with ⟨j, u, rfl, e⟩ | ⟨y, u, rfl, e⟩
      · exact nomatch e
      · injection e with e1 _; rw [e1]
  byValue := fun k v h => by
    rcases keyIs_shape h with ⟨i, t, rfl, rfl⟩ | ⟨x, t, rfl, rfl⟩ <;> rfl
  pyHash := fun hv h => by
    rcases keyIs_shape hv with ⟨i, t, rfl, rfl⟩ | ⟨x, t, rfl, rfl⟩
    · exact wpAny_pyHash_int h
    · exact wpAny_pyHash_str h
  eqBool := fun hu hv h => by
    rcases keyIs_shape hu with ⟨i, t, rfl, rfl⟩ | ⟨x, t, rfl, rfl⟩
    · rcases keyIs_shape hv with ⟨j, u, rfl, rfl⟩ | ⟨y, u, rfl, rfl⟩
      · rw [key_ll] at h; exact wpAny_eqBool_int h
      · rw [key_lr] at h; exact SeqAt.EqAt.int_str i t y u _ _ _ _ h
    · rcases keyIs_shape hv with ⟨j, u, rfl, rfl⟩ | ⟨y, u, rfl, rfl⟩
      · rw [key_rl] at h; exact SeqAt.EqAt.str_int x t j u _ _ _ _ h
      · rw [key_rr] at h; exact wpAny_eqBool_str h
  «strs» := fun k x t v h => by
    rcases keyIs_shape h with ⟨i, u, rfl, e⟩ | ⟨y, u, rfl, e⟩
    · exact nomatch e
    · injection e with e1 _
      subst e1
      cases v <;> rfl
theorem mixKind_int (prog : Program) (w : World) (i : Int) (t : Tok) : (mixKind prog w).is (.inl i) (.int i t) = true := keyIs_int i t
theorem mixKind_str (prog : Program) (w : World) (x : Str) (t : Tok) : (mixKind prog w).is (.inr x) (.str x t) = true := keyIs_str x t
end L2
namespace L2
open PySem PySem.Spec PyProof.Rows
inductive V where
  | non | bl (b : Bool) | int (i : Int) | str (x : Str) | byt (b : Array UInt8) | flt (b : UInt64) | ref (a : Addr) | ty (n : String)
  deriving DecidableEq
def RelV : V → Value → Prop
  | .non, u => u = Value.none
  | .bl b, u => u = Value.bool b
  | .int i, u => ∃ t, u = Value.int i t
  | .str x, u => ∃ t, u = Value.str x t
  | .byt b, u => ∃ t, u = Value.bytes b t
  | .flt b, u => ∃ t, u = Value.float b t
  | .ref a, u => u = Value.ref a
  | .ty n, u => u = Value.type n
abbrev Vals : List V → List Value → Prop := Paired RelV
theorem Vals.length {xs : List V} {us : List Value} (r : Vals xs us) : xs.length = us.length := Paired.length r
theorem Vals.get : ∀ {xs : List V} {us : List Value} {i : Nat} {x : V}, Vals xs us → xs[i]? = some x → ∃ u, us[i]? = some u ∧ RelV x u
  | _, _, _, _, .nil, e => by simp at e
  | _, _, 0, _, .cons r _, e => by simp at e; subst e; exact ⟨_, rfl, r⟩
  | _, _, i + 1, x, .cons _ t, e => by
    obtain ⟨u, h1, h2⟩ := Vals.get (i := i) (x := x) t (by simpa using e)
    exact ⟨u, by simpa using h1, h2⟩
theorem Vals.set {x : V} {u : Value} (r : RelV x u) : ∀ {xs : List V} {us : List Value} (i : Nat), Vals xs us → Vals (xs.set i x) (us.set i u)
  | _, _, _, .nil => .nil
  | _, _, 0, .cons _ t => .cons r t
  | _, _, i + 1, .cons q t => .cons q (Vals.set r i t)
theorem Vals.append : ∀ {xs ys : List V} {us ws : List Value}, Vals xs us → Vals ys ws → Vals (xs ++ ys) (us ++ ws)
  | _, _, _, _, .nil, s => s
  | _, _, _, _, .cons r t, s => .cons r (Vals.append t s)
theorem Vals.take : ∀ {xs : List V} {us : List Value} (n : Nat), Vals xs us → Vals (xs.take n) (us.take n)
  | _, _, 0, _ => .nil
  | _, _, _ + 1, .nil => .nil
  | _, _, n + 1, .cons r t => .cons r (Vals.take n t)
theorem Vals.drop : ∀ {xs : List V} {us : List Value} (n : Nat), Vals xs us → Vals (xs.drop n) (us.drop n)
  | _, _, 0, r => r
  | _, _, _ + 1, .nil => .nil
  | _, _, n + 1, .cons _ t => Vals.drop n t
def RelO : Option V → Option Value → Prop
  | some v, some u => RelV v u
  | none, none => True
  | _, _ => False
def KV {κ : Type} : List (κ × V) → List (κ × Value) → Prop := Paired fun (p : κ × V) (q : κ × Value) => p.1 = q.1 ∧ RelV p.2 q.2
def kV : Key → V
  | .inl i => .int i
  | .inr x => .str x
inductive HO where
  | lst (xs : List V)
  | tup (xs : List V)
  | dK (kvs : List (Key × V)) | dT (kvs : List (List Key × V))
  | set (S : Int → Bool) (n : Nat)
  | ins (C dx : Addr) (fs : List (Str × V))
  | own (x : Addr)
  | xd (fs : List (Str × V))
  | met (f x : Addr)
  | rng (lo hi : Int)
  | frz (o : Obj) (u : HO)
  | tbl (ps : Array Value)
  | ext (φ : Heap → Prop)
abbrev Hp := Addr → Option HO
def upd (H : Hp) (a : Addr) (o : HO) : Hp := fun b => if b = a then some o else H b
theorem upd_same {H : Hp} {a : Addr} {o : HO} : upd H a o a = some o := by unfold upd; rw [if_pos rfl]
theorem upd_ne {H : Hp} {a b : Addr} {o : HO} (h : b ≠ a) : upd H a o b = H b := by unfold upd; rw [if_neg h]
theorem ne_of {H : Hp} {a b : Addr} {o u : HO} (h : H a = some o) (h' : H b = some u) (d : o ≠ u) : a ≠ b := by
  intro e; subst e; rw [h] at h'; exact d (Option.some.inj h')
theorem ne_of_none {H : Hp} {a b : Addr} {o : HO} (h : H a = some o) (h' : H b = none) : a ≠ b := by
  intro e; subst e; rw [h] at h'; cases h'
section
variable (P : Program) (w : World)
def ObjOk (H : Hp) (h : Heap) (a : Addr) : HO → Prop
  | .lst xs => xs.length ≤ sizeLine ∧ ∃ (its : List Value) (n : Nat), Vals xs its ∧ h.get? a = some { cls := .type "list", data := .seq its.toArray n }
  | .tup xs => xs.length ≤ sizeLine ∧ ∃ its : List Value, Vals xs its ∧ IsTup h a its.toArray
  | .dK kvs => kvs.length ≤ sizeLine ∧ (a == sysModules) = false ∧ ∃ vs, KV kvs vs ∧ h.DictOf (mixKind P w) a vs
  | .dT kvs => kvs.length ≤ sizeLine ∧ (a == sysModules) = false ∧ ∃ xs : List (List Key × Addr × Value),
      Paired (fun (p : List Key × V) (q : List Key × Addr × Value) => p.1 = q.1 ∧ H q.2.1 = some (.tup (p.1.map kV)) ∧ RelV p.2 q.2.2) kvs xs ∧
      ∃ o es ep, h.get? a = some o ∧ o.ExactDict ∧ o.data = .dict es ep ∧ es.toList = xs.map (entryOfKey (tupleKind (mixKind P w))) ∧ (xs.map (·.1)).Nodup
  | .set S n => h.SetOf (intKind P w) a S n
  | .ins C dx fs => H dx = some (.own a) ∧ fs.length ≤ 1000 ∧ dx ≠ a ∧ h.get? a = some (PySem.W.instObj C dx) ∧
      ∃ mA, h.Ns1 dx mA ∧ (∀ f, RelO (fs.lookup f) (mA f)) ∧ PySem.Within mA (fs.map (·.1))
  | .own _ => ∃ o, h.get? a = some o
  | .xd fs => ∃ mA, h.Ns1 a mA ∧ ∀ f, RelO (fs.lookup f) (mA f)
  | .rng lo hi => ∃ t u v, h.get? a = some { cls := .type "range", data := .fields #[.int lo t, .int hi u, .int 1 v] }
  | .frz o u => h.get? a = some o ∧ ObjOk H h a u
  | .tbl ps => h.get? a = some { cls := .none, data := .fields ps }
  | .met f x => h.get? a = some (PySem.W.methodObj (.ref f) (.ref x))
  | .ext φ => φ h ∧ (∃ o, h.get? a = some o) ∧ ∀ h1 h2 : Heap, φ h1 → (∀ o, h1.get? a = some o → h2.get? a = some o) → φ h2
def HOk (H : Hp) (h : Heap) : Prop := ∀ a o, H a = some o → ObjOk P w H h a o
end
section
variable {P : Program} {w : World} {H H' : Hp} {h h' : Heap} {a : Addr} {o : HO}
theorem ObjOk.lt (x : ObjOk P w H h a o) : a < h.objs.size := by
  cases o with
  | lst xs => obtain ⟨_, _, _, _, e⟩ := x; exact Heap.lt_size e
  | tup xs => obtain ⟨_, _, _, p⟩ := x; exact p.lt
  | dK kvs => obtain ⟨_, _, _, _, o, _, _, e, _⟩ := x; exact Heap.lt_size e
  | dT kvs => obtain ⟨_, _, _, _, o, _, _, e, _⟩ := x; exact Heap.lt_size e
  | set S n => obtain ⟨o, _, _, _, e, _⟩ := x; exact Heap.lt_size e
  | ins C dx fs => obtain ⟨_, _, _, e, _⟩ := x; exact Heap.lt_size e
  | own y => obtain ⟨_, e⟩ := x; exact Heap.lt_size e
  | xd fs => obtain ⟨_, ⟨_, _, _, e, _⟩, _⟩ := x; exact Heap.lt_size e
  | rng lo hi => obtain ⟨_, _, _, e⟩ := x; exact Heap.lt_size e
  | frz ob u => obtain ⟨e, _⟩ := x; exact Heap.lt_size e
  | tbl ps => exact Heap.lt_size (show h.get? a = some _ from x)
  | met f y => exact Heap.lt_size (show h.get? a = some _ from x)
  | ext φ => obtain ⟨_, ⟨_, e⟩, _⟩ := x; exact Heap.lt_size e
theorem Paired.mapP {α β : Type} {F G : α → β → Prop} : ∀ {l₁ : List α} {l₂ : List β}, Paired F l₁ l₂ → (∀ a b, F a b → G a b) → Paired G l₁ l₂
  | _, _, .nil, _ => .nil
  | _, _, .cons r t, f => .cons (f _ _ r) (Paired.mapP t f)
theorem ObjOk.stay (x : ObjOk P w H h a o) (k : ∀ b u, (b = a ∨ H b = some (.own a)) → h.get? b = some u → h'.get? b = some u)
    (ho : ∀ b, H b = some (.own a) → H' b = some (.own a)) (ht : ∀ b xs, H b = some (.tup xs) → H' b = some (.tup xs)) : ObjOk P w H' h' a o := by
  induction o with
  | lst xs => obtain ⟨z, its, n, r, e⟩ := x; exact ⟨z, its, n, r, k _ _ (.inl rfl) e⟩
  | tup xs => obtain ⟨z, its, r, ob, e, c⟩ := x; exact ⟨z, its, r, ob, k _ _ (.inl rfl) e, c⟩
  | dK kvs => obtain ⟨z, y, vs, r, ob, es, ep, e, c⟩ := x; exact ⟨z, y, vs, r, ob, es, ep, k _ _ (.inl rfl) e, c⟩
  | dT kvs =>
    obtain ⟨z, y, xs, r, ob, es, ep, e, c⟩ := x
    exact ⟨z, y, xs, Paired.mapP r fun p q z => ⟨z.1, ht _ _ z.2.1, z.2.2⟩, ob, es, ep, k _ _ (.inl rfl) e, c⟩
  | set S n => obtain ⟨ob, es, ep, t, e, c⟩ := x; exact ⟨ob, es, ep, t, k _ _ (.inl rfl) e, c⟩
  | ins C dx fs =>
    obtain ⟨d, z, ne, e, mA, ⟨od, es, ep, e2, c⟩, r⟩ := x
    exact ⟨ho _ d, z, ne, k _ _ (.inl rfl) e, mA, ⟨od, es, ep, k _ _ (.inr d) e2, c⟩, r⟩
  | own y => obtain ⟨ob, e⟩ := x; exact ⟨ob, k _ _ (.inl rfl) e⟩
  | xd fs => obtain ⟨mA, ⟨od, es, ep, e, c⟩, r⟩ := x; exact ⟨mA, ⟨od, es, ep, k _ _ (.inl rfl) e, c⟩, r⟩
  | rng lo hi => obtain ⟨t, u, v, e⟩ := x; exact ⟨t, u, v, k _ _ (.inl rfl) e⟩
  | frz ob u ih => obtain ⟨e, q⟩ := x; exact ⟨k _ _ (.inl rfl) e, ih q⟩
  | tbl ps =>
    have e : h.get? a = some { cls := .none, data := .fields ps } := x
    show h'.get? a = some { cls := .none, data := .fields ps }
    exact k a _ (.inl rfl) e
  | met f y =>
    have e : h.get? a = some (PySem.W.methodObj (.ref f) (.ref y)) := x
    show h'.get? a = some (PySem.W.methodObj (.ref f) (.ref y))
    exact k a _ (.inl rfl) e
  | ext φ => obtain ⟨p, ⟨o, e⟩, st⟩ := x; exact ⟨st _ _ p fun o q => k _ _ (.inl rfl) q, ⟨o, k _ _ (.inl rfl) e⟩, st⟩
theorem HOk.lt (x : HOk P w H h) (e : H a = some o) : a < h.objs.size := (x a o e).lt
theorem HOk.fresh (x : HOk P w H h) (e : h.objs.size ≤ a) : H a = none := by
  cases q : H a with
  | none => rfl
  | some u => exact absurd (Nat.lt_of_lt_of_le (x.lt q) e) (Nat.lt_irrefl _)
theorem HOk.kept (x : HOk P w H h) (k : ∀ b u, h.get? b = some u → h'.get? b = some u) : HOk P w H h' := fun a o e =>
  (x a o e).stay (fun b u _ q => k b u q) (fun _ q => q) fun _ _ q => q
theorem HOk.laid (x : HOk P w H h) (k : ∀ b u, h.get? b = some u → h'.get? b = some u) (hp : h.objs.size ≤ a) (new : ObjOk P w (upd H a o) h' a o) : HOk P w (upd H a o) h' := fun b u e => by
  have hn := x.fresh hp
  by_cases hb : b = a
  · subst hb; rw [upd_same] at e; cases e; exact new
  · rw [upd_ne hb] at e
    exact (x b u e).stay (fun c v _ q => k c v q) (fun c q => by rw [upd_ne (ne_of_none q hn)]; exact q) fun c xs q => by rw [upd_ne (ne_of_none q hn)]; exact q
end
def Rd (H : Hp) (a : Addr) (u : HO) : Prop := H a = some u ∨ ∃ o, H a = some (.frz o u)
theorem Rd.ok {P : Program} {w : World} {H : Hp} {h : Heap} {a : Addr} {u : HO} (r : Rd H a u) (x : HOk P w H h) : ObjOk P w H h a u := by
  rcases r with r | ⟨o, r⟩
  · exact x a u r
  · obtain ⟨_, q⟩ := x a _ r
    exact q
def Mut : Option HO → Prop
  | some (.lst _) => True
  | some (.dK _) => True
  | some (.dT _) => True
  | some (.set _ _) => True
  | some (.ins _ _ _) => True
  | some (.ext _) => True
  | _ => False
section
variable {P : Program} {w : World} {H : Hp} {h h' : Heap} {x e : Addr} {o' : HO}
theorem HOk.write (ok : HOk P w H h) (mu : Mut (H x)) (he : e = x ∨ H e = some (.own x)) (k : ∀ b u, b ≠ e → h.get? b = some u → h'.get? b = some u) (heo : ∃ u, h'.get? e = some u)
    (new : ObjOk P w (upd H x o') h' x o') : HOk P w (upd H x o') h' := fun b u q => by
  have nown : ∀ c y, H c = some (.own y) → c ≠ x := fun c y r z => by subst z; rw [r] at mu; exact mu
  have ntup : ∀ c xs, H c = some (.tup xs) → c ≠ x := fun c xs r z => by subst z; rw [r] at mu; exact mu
  by_cases hb : b = x
  · subst hb; rw [upd_same] at q; cases q; exact new
  · rw [upd_ne hb] at q
    by_cases hbe : b = e
    · have q' : H b = some (.own x) := by
        rcases he with z | z
        · exact absurd (hbe.trans z) hb
        · rw [hbe]; exact z
      rw [q] at q'; cases q'
      obtain ⟨v, hv⟩ := heo
      exact ⟨v, by rw [hbe]; exact hv⟩
    · refine (ok b u q).stay (fun c v hc r => k c v ?_ r) (fun c r => by rw [upd_ne (nown c b r)]; exact r) fun c xs r => by rw [upd_ne (ntup c xs r)]; exact r
      rcases hc with rfl | hc
      · exact hbe
      · rintro rfl
        rcases he with z | z
        · exact nown c b hc z
        · rw [hc] at z; cases z; exact hb rfl
end
structure Un (fs ex : List Addr) (H H' : Hp) (h h' : Heap) : Prop where
  keep : ∀ b o, h.get? b = some o → H b = none → b ∉ fs → b ∉ ex → h'.get? b = some o
  slot : ∀ b o, h.get? b = some o → H b = none → b ∈ fs → b ∉ ex → ∃ sl, h'.get? b = some { o with slots := sl }
  free : ∀ b o, h.get? b = some o → H b = none → b ∉ ex → H' b = none
  there : ∀ b o, h.get? b = some o → b ∉ ex → ∃ o', h'.get? b = some o'
  tups : ∀ b xs, H b = some (.tup xs) → H' b = some (.tup xs)
  frzs : ∀ b o u, H b = some (.frz o u) → H' b = some (.frz o u)
  tbls : ∀ b ps, H b = some (.tbl ps) → ∃ more, H' b = some (.tbl (ps ++ more))
section
variable {fs fs' ex ex' : List Addr} {H H1 H2 : Hp} {h h1 h2 h' : Heap} {a x e : Addr} {o : HO}
theorem Un.any (u : Un fs ex H H1 h h1) {b : Addr} {ob : Obj} (q : h.get? b = some ob) (n : H b = none) (hx : b ∉ ex) : ∃ sl, h1.get? b = some { ob with slots := sl } := by
  by_cases hb : b ∈ fs
  · exact u.slot b ob q n hb hx
  · exact ⟨ob.slots, u.keep b ob q n hb hx⟩
theorem Un.kept (k : ∀ b u, h.get? b = some u → h'.get? b = some u) : Un fs ex H H h h' :=
  ⟨fun b ob q _ _ _ => k b ob q, fun b ob q _ _ _ => ⟨ob.slots, k b ob q⟩, fun _ _ _ n _ => n, fun b ob q _ => ⟨ob, k b ob q⟩, fun _ _ q => q, fun _ _ _ q => q, fun _ ps q => ⟨#[], by rw [q]; simp⟩⟩
theorem Un.refl : Un fs ex H H h h := Un.kept fun _ _ q => q
theorem Un.laid (k : ∀ b u, h.get? b = some u → h'.get? b = some u) (hp : h.objs.size ≤ a) (hn : H a = none) : Un fs ex H (upd H a o) h h' where
  keep := fun b u q _ _ _ => k b u q
  slot := fun b u q _ _ _ => ⟨u.slots, k b u q⟩
  free := fun b u q n _ => by rw [upd_ne (Nat.ne_of_lt (Nat.lt_of_lt_of_le (Heap.lt_size q) hp))]; exact n
  there := fun b u q _ => ⟨u, k b u q⟩
  tups := fun b xs q => by rw [upd_ne (ne_of_none q hn)]; exact q
  frzs := fun b u xs q => by rw [upd_ne (ne_of_none q hn)]; exact q
  tbls := fun b ps q => ⟨#[], by rw [upd_ne (ne_of_none q hn), q]; simp⟩
theorem Un.write (mu : Mut (H x)) (he : e = x ∨ H e = some (.own x)) (k : ∀ b u, b ≠ e → h.get? b = some u → h'.get? b = some u) (heo : ∃ u, h'.get? e = some u) : Un fs ex H (upd H x o) h h' := by
  have hx : ∀ b, H b = none → b ≠ x := fun b n z => by subst z; rw [n] at mu; exact mu
  have hb : ∀ b, H b = none → b ≠ e := fun b n z => by
    subst z
    rcases he with r | r
    · exact hx b n r
    · rw [n] at r; cases r
  have hm : ∀ b u, H b = some u → ¬ Mut (some u) → b ≠ x := fun b u q nm z => by subst z; rw [q] at mu; exact nm mu
  refine ⟨fun b u q n _ _ => k b u (hb b n) q, fun b u q n _ _ => ⟨u.slots, k b u (hb b n) q⟩, fun b u q n _ => by rw [upd_ne (hx b n)]; exact n, fun b u q _ => ?_,
    fun b xs q => by rw [upd_ne (hm b _ q fun z => z)]; exact q, fun b u xs q => by rw [upd_ne (hm b _ q fun z => z)]; exact q, fun b ps q => ⟨#[], by rw [upd_ne (hm b _ q fun z => z), q]; simp⟩⟩
  by_cases hbe : b = e
  · subst hbe; exact heo
  · exact ⟨u, k b u hbe q⟩
end
def trk (h : Heap) (H : Hp) : List Addr := (List.range h.objs.size).filter fun a => (H a).isSome
def hidT (h : Heap) (H : Hp) : Heap := PySem.W.hideAll h (trk h H)
theorem hidT_size (h : Heap) (H : Hp) : (hidT h H).objs.size = h.objs.size := PySem.W.hideAll_size _ _
theorem hidT_get {h : Heap} {H : Hp} {b : Addr} {o : Obj} (e : h.get? b = some o) (n : H b = none) : (hidT h H).get? b = some o :=
  PySem.W.hideAll_get _ e fun hm => by
    have q : (H b).isSome = true := (List.mem_filter.mp hm).2
    rw [n] at q; simp at q
theorem of_hidT {h : Heap} {H : Hp} {b : Addr} {o : Obj} (e : (hidT h H).get? b = some o) : h.get? b = some o ∧ H b = none := by
  have e' : h.get? b = some o := PySem.W.of_hideAll (trk h H) e
  refine ⟨e', ?_⟩
  cases q : H b with
  | none => rfl
  | some x =>
    have hm : b ∈ trk h H := List.mem_filter.mpr ⟨List.mem_range.mpr (Heap.lt_size e'), by simp [q]⟩
    have z : (hidT h H).get? b = none := PySem.W.hideAll_none (trk h H) hm
    rw [z] at e; cases e
end L2
namespace L2
open PySem PySem.Spec PyProof.Rows
structure Mod (K : PySem.W.Frag) (mg : Str → Option Value) (base : Heap) : Prop where
  kin : K.In base
  glob : base.Ns mainGlobals mg
  blt : ∃ mb, base.Ns builtinsNs mb ∧ ∀ x : Str, x ≠ "__name__" → mb x = bootBuiltins x
  nolimit : base.NoLimit
structure Cx where
  prog : Program
  w : World
  K : PySem.W.Frag
  mg : Str → Option Value
  base : Heap
  A : Around
  N : List Str
  s₀ : Shared
  H₀ : Hp
  env : Env
  outer : List Env
  stack : List Env
  ex : List Addr
  fn : Str → Bool
  calm : Bool
  pn : List (Addr × Obj)
  xe : Value → Shared → Prop
def frs (l : List Env) : List Addr := l.filterMap (·.frame)
abbrev Cx.fs (X : Cx) : List Addr := frs X.outer
def Vis (sc : Scope) (x : Str) : Prop := sc.names.lookup x = some .local ∨ sc.names.lookup x = some .cell ∨ sc.names.lookup x = some .free
def Loc (sc : Scope) (x : Str) : Prop := sc.names.lookup x = some .local ∨ sc.names.lookup x = some .cell
def Look (env : Env) (h : Heap) (m : Str → Option Value) (x : Str) (u : Value) : Prop :=
  (env.kindOf x = some .local ∧ m x = some u) ∨ ((env.kindOf x = some .cell ∨ env.kindOf x = some .free) ∧ ∃ c, env.cells.lookup x = some c ∧ h.IsCell c (some u))
structure Cx.Ok (X : Cx) : Prop where
  mod : Mod X.K X.mg X.base
  kind : X.env.scope.kind = .function
  glob : X.env.globals = mainGlobals
  blt : X.env.builtins = builtinsNs
  above : X.s₀.heap.objs.size ≤ X.env.locals
  inj : ∀ x y c, X.env.cells.lookup x = some c → X.env.cells.lookup y = some c → x = y
  has : ∀ x, (X.env.kindOf x = some .cell ∨ X.env.kindOf x = some .free) → ∃ c, X.env.cells.lookup x = some c
  cab : ∀ x c, X.fn x = true → X.env.cells.lookup x = some c → X.s₀.heap.objs.size ≤ c
  hd : X.calm = true → X.A.handled = none
  frames : X.A.frames = some X.stack
  stk : X.stack = X.outer ∨ (X.stack = X.env :: X.outer ∧ X.env.frame = some X.env.locals)
  exf : ∀ b ∈ X.ex, b ≠ X.env.locals ∧ ∀ x c, X.env.cells.lookup x = some c → c ≠ b
  bs : ∀ b o, X.base.get? b = some o → X.s₀.heap.get? b = some o ∧ X.H₀ b = none
  bsz : X.base.objs.size ≤ X.s₀.heap.objs.size
  noex : ∀ b o, X.base.get? b = some o → b ∉ X.ex
  exfs : ∀ b ∈ X.ex, b ∉ X.fs
  funs : X.s₀.heap.FunFrames X.base X.outer
  frf : ∀ b ∈ X.fs, X.H₀ b = none
structure Inv (X : Cx) (pins : List (Addr × Obj)) (σ : List (Option V)) (H : Hp) (s : Shared) : Prop where
  ok : X.Ok
  os : s.os = X.s₀.os
  bare : AllBare s.gens
  base : Un X.fs X.ex X.H₀ H X.s₀.heap s.heap
  loc : ∃ m, s.heap.Ns X.env.locals m ∧ ∀ (i : Nat) (x : Str) (v : V), X.N[i]? = some x → σ[i]? = some (some v) → Vis X.env.scope x → ∃ u, RelV v u ∧ Look X.env s.heap m x u
  cell : ∀ x c, X.env.cells.lookup x = some c → ∃ v, s.heap.IsCell c v
  free : H X.env.locals = none
  freeC : ∀ x c, X.env.cells.lookup x = some c → H c = none
  pin : ∀ p ∈ X.pn ++ pins, s.heap.get? p.1 = some p.2 ∧ H p.1 = none ∧ p.1 ≠ X.env.locals ∧ p.1 ∉ X.fs ∧ ∀ v, p.2.data ≠ .cell v
  hok : HOk X.prog X.w H s.heap
  len : σ.length = X.N.length
section
variable {X : Cx} {pins : List (Addr × Obj)} {σ : List (Option V)} {H H' : Hp} {s : Shared} {h' : Heap}
theorem Cx.Ok.nofr (ok : X.Ok) {b : Addr} {o : Obj} (e : X.base.get? b = some o) : b ∉ X.fs := fun hb => by
  have := (ok.funs.mem hb).1
  rw [e] at this; cases this
theorem Inv.bs (I : Inv X pins σ H s) : ∀ b o, X.base.get? b = some o → s.heap.get? b = some o ∧ H b = none := fun b o e =>
  ⟨I.base.keep b o (I.ok.bs b o e).1 (I.ok.bs b o e).2 (I.ok.nofr e) (I.ok.noex b o e), I.base.free b o (I.ok.bs b o e).1 (I.ok.bs b o e).2 (I.ok.noex b o e)⟩
theorem Inv.bk (I : Inv X pins σ H s) : ∀ b o, X.base.get? b = some o → s.heap.get? b = some o := fun b o e => (I.bs b o e).1
theorem Inv.mod (I : Inv X pins σ H s) : Mod X.K X.mg X.base := I.ok.mod
theorem Inv.kIn (I : Inv X pins σ H s) : X.K.In s.heap := I.ok.mod.kin.keeps I.bk
theorem Inv.lt (I : Inv X pins σ H s) : X.env.locals < s.heap.objs.size := let ⟨_, hn, _⟩ := I.loc; hn.lt
theorem Inv.sz (I : Inv X pins σ H s) : X.s₀.heap.objs.size ≤ s.heap.objs.size := Nat.le_trans I.ok.above (Nat.le_of_lt I.lt)
theorem Inv.nofs (I : Inv X pins σ H s) {a : Addr} (h : s.heap.objs.size ≤ a) : a ∉ X.fs := fun hb => by
  obtain ⟨_, o, ho, _⟩ := I.ok.funs.mem hb
  exact absurd (Nat.lt_of_lt_of_le (Heap.lt_size ho) (Nat.le_trans I.sz h)) (Nat.lt_irrefl _)
theorem Inv.cne (I : Inv X pins σ H s) : ∀ x c, X.env.cells.lookup x = some c → c ≠ X.env.locals := fun x c e z => by
  obtain ⟨v, o, ho, hd⟩ := I.cell x c e
  obtain ⟨m, ⟨o', es, ep, ho', hd', _⟩, _⟩ := I.loc
  rw [z, ho'] at ho; cases ho; rw [hd'] at hd; cases hd
theorem Inv.funs (I : Inv X pins σ H s) : s.heap.FunFrames X.base X.outer := by
  have all : ∀ (l : List Env), (∀ b ∈ frs l, b ∈ X.fs) → X.s₀.heap.FunFrames X.base l → s.heap.FunFrames X.base l := by
    intro l
    induction l with
    | nil => intro _ _; trivial
    | cons env r ih =>
      intro hs hl
      obtain ⟨hk, ⟨L, o, hf, hn, ho, hd⟩, hr⟩ := hl
      have hL : L ∈ X.fs := hs L (by unfold frs; rw [List.filterMap_cons, hf]; exact List.mem_cons_self)
      obtain ⟨sl, e⟩ := I.base.slot L o ho (I.ok.frf L hL) hL fun z => I.ok.exfs L z hL
      exact ⟨hk, ⟨L, _, hf, hn, e, hd⟩, ih (fun b hb => hs b (by unfold frs; rw [List.filterMap_cons, hf]; exact List.mem_cons_of_mem _ hb)) hr⟩
  exact all X.outer (fun _ hb => hb) I.ok.funs
theorem Inv.stack (I : Inv X pins σ H s) : s.heap.FunFrames X.base X.stack := by
  rcases I.ok.stk with e | ⟨e, hf⟩
  · rw [e]; exact I.funs
  · rw [e]
    obtain ⟨m, hn, _⟩ := I.loc
    refine .cons (by rw [I.ok.kind]; decide) hf hn ?_ I.funs
    exact Heap.get?_none_of_le (Nat.le_trans I.ok.bsz I.ok.above)
theorem Inv.stkSub (I : Inv X pins σ H s) : ∀ b ∈ frs X.stack, b ∈ X.env.locals :: X.fs := fun b hb => by
  rcases I.ok.stk with e | ⟨e, hf⟩
  · rw [e] at hb; exact List.mem_cons_of_mem _ hb
  · rw [e] at hb
    unfold frs at hb
    rw [List.filterMap_cons, hf] at hb
    exact hb
theorem Inv.stkFree (I : Inv X pins σ H s) : ∀ b ∈ frs X.stack, H b = none := fun b hb => by
  rcases List.mem_cons.mp (I.stkSub b hb) with e | hb
  · rw [e]; exact I.free
  · obtain ⟨_, o, ho, _⟩ := I.ok.funs.mem hb
    exact I.base.free b o ho (I.ok.frf b hb) fun z => I.ok.exfs b z hb
theorem Inv.step {g' : Array GenState} {t' : Nat} {d' : Drawn} {ch : List Addr} (I : Inv X pins σ H s)
    (hch : ∀ b ∈ ch, (b ∈ X.ex ∨ X.s₀.heap.objs.size ≤ b) ∧ b ≠ X.env.locals ∧ (∀ x c, X.env.cells.lookup x = some c → c ≠ b) ∧ ∀ p ∈ X.pn ++ pins, p.1 ≠ b)
    (keep : ∀ b o, b ≠ X.env.locals → b ∉ X.fs → b ∉ ch → s.heap.get? b = some o → H b = none → h'.get? b = some o)
    (slot : ∀ b o, b ≠ X.env.locals → b ∈ X.fs → b ∉ ch → s.heap.get? b = some o → H b = none → ∃ sl, h'.get? b = some { o with slots := sl }) (free : ∀ b o, b ∉ ch → s.heap.get? b = some o → H b = none → H' b = none)
    (there : ∀ b o, b ∉ ch → s.heap.get? b = some o → ∃ o', h'.get? b = some o')
    (tups : ∀ b xs, H b = some (.tup xs) → H' b = some (.tup xs)) (frzs : ∀ b o u, H b = some (.frz o u) → H' b = some (.frz o u)) (tbls : ∀ b ps, H b = some (.tbl ps) → ∃ more, H' b = some (.tbl (ps ++ more)))
    (ns : ∀ m, s.heap.Ns X.env.locals m → h'.Ns X.env.locals m) (hok : HOk X.prog X.w H' h') (hg : AllBare g') :
    Inv X pins σ H' { s with heap := h', gens := g', drawn := d', toks := t' } := by
  have neL : ∀ b o, X.s₀.heap.get? b = some o → b ≠ X.env.locals := fun b o e => Nat.ne_of_lt (Nat.lt_of_lt_of_le (Heap.lt_size e) I.ok.above)
  have neC : ∀ b o, X.s₀.heap.get? b = some o → b ∉ X.ex → b ∉ ch := fun b o e hx hb => by
    rcases (hch b hb).1 with z | z
    · exact hx z
    · exact absurd (Nat.lt_of_lt_of_le (Heap.lt_size e) z) (Nat.lt_irrefl _)
  have cellK : ∀ x c, X.env.cells.lookup x = some c → ∀ v, s.heap.IsCell c v → h'.IsCell c v := fun x c e v ⟨o, ho, hd⟩ => by
    have nch : c ∉ ch := fun z => (hch c z).2.2.1 x c e rfl
    by_cases hc : c ∈ X.fs
    · obtain ⟨sl, q⟩ := slot c o (I.cne x c e) hc nch ho (I.freeC x c e)
      exact ⟨_, q, hd⟩
    · exact ⟨o, keep c o (I.cne x c e) hc nch ho (I.freeC x c e), hd⟩
  refine ⟨I.ok, I.os, hg, ⟨fun b o e n hb hx => ?_, fun b o e n hb hx => ?_, fun b o e n hx => ?_, fun b o e hx => ?_, fun b xs e => tups b xs (I.base.tups b xs e), fun b o xs e => frzs b o xs (I.base.frzs b o xs e), fun b ps e => ?_⟩, ?_, fun x c e => ?_, ?_, fun x c e => ?_, fun p hp => ?_, hok, I.len⟩
  · exact keep b o (neL b o e) hb (neC b o e hx) (I.base.keep b o e n hb hx) (I.base.free b o e n hx)
  · obtain ⟨sl, e1⟩ := I.base.slot b o e n hb hx
    obtain ⟨sl', e2⟩ := slot b _ (neL b o e) hb (neC b o e hx) e1 (I.base.free b o e n hx)
    exact ⟨sl', e2⟩
  · obtain ⟨o', e1⟩ := I.base.there b o e hx
    exact free b o' (neC b o e hx) e1 (I.base.free b o e n hx)
  · obtain ⟨o', e1⟩ := I.base.there b o e hx
    exact there b o' (neC b o e hx) e1
  · obtain ⟨m1, e1⟩ := I.base.tbls b ps e
    obtain ⟨m2, e2⟩ := tbls b _ e1
    exact ⟨m1 ++ m2, by rw [e2, Array.append_assoc]⟩
  · obtain ⟨m, hn, hl⟩ := I.loc
    refine ⟨m, ns m hn, fun i x v e1 e2 e3 => ?_⟩
    obtain ⟨u, r, l⟩ := hl i x v e1 e2 e3
    refine ⟨u, r, ?_⟩
    rcases l with l | ⟨k, c, e, z⟩
    · exact .inl l
    · exact .inr ⟨k, c, e, cellK x c e _ z⟩
  · obtain ⟨v, z⟩ := I.cell x c e
    exact ⟨v, cellK x c e v z⟩
  · obtain ⟨m, ⟨o, _, _, ho, _⟩, _⟩ := I.loc
    exact free _ o (fun z => (hch _ z).2.1 rfl) ho I.free
  · obtain ⟨v, o, ho, hd⟩ := I.cell x c e
    exact free c o (fun z => (hch c z).2.2.1 x c e rfl) ho (I.freeC x c e)
  · obtain ⟨e, n, ne, nf, d⟩ := I.pin p hp
    have nch : p.1 ∉ ch := fun z => (hch p.1 z).2.2.2 p hp rfl
    exact ⟨keep p.1 p.2 ne nf nch e n, free p.1 p.2 nch e n, ne, nf, d⟩
theorem Inv.un {t' : Nat} (I : Inv X pins σ H s) (u : Un X.fs [] H H' s.heap h') (hok : HOk X.prog X.w H' h') : Inv X pins σ H' { s with heap := h', toks := t' } := by
  obtain ⟨m, ⟨o, es, ep, ho, r⟩, _⟩ := id I.loc
  obtain ⟨sl, hL⟩ := u.any ho I.free (by simp)
  exact I.step (g' := s.gens) (d' := s.drawn) (ch := []) (fun _ z => nomatch z) (fun b o _ hb _ e n => u.keep b o e n hb (by simp)) (fun b o _ hb _ e n => u.slot b o e n hb (by simp)) (fun b o _ e n => u.free b o e n (by simp)) (fun b o _ e => u.there b o e (by simp)) u.tups u.frzs u.tbls (fun m' hm => by
    obtain ⟨o', es', ep', ho', r'⟩ := hm
    rw [ho] at ho'; cases ho'
    exact ⟨_, es', ep', hL, r'⟩) hok I.bare
theorem Inv.call {g' : Array GenState} {t' : Nat} {d' : Drawn} {ch : List Addr} (I : Inv X pins σ H s) (u : Un (frs X.stack) ch H H' s.heap h') (hok : HOk X.prog X.w H' h') (hg : AllBare g')
    (hch : ∀ b ∈ ch, (b ∈ X.ex ∨ X.s₀.heap.objs.size ≤ b) ∧ b ≠ X.env.locals ∧ (∀ x c, X.env.cells.lookup x = some c → c ≠ b) ∧ ∀ p ∈ X.pn ++ pins, p.1 ≠ b) :
    Inv X pins σ H' { s with heap := h', gens := g', drawn := d', toks := t' } := by
  obtain ⟨m, ⟨o, es, ep, ho, r⟩, _⟩ := id I.loc
  obtain ⟨sl, hL⟩ := u.any ho I.free fun z => (hch _ z).2.1 rfl
  exact I.step (ch := ch) hch (fun b o hL hb hc e n => u.keep b o e n (fun z => (List.mem_cons.mp (I.stkSub b z)).elim hL hb) hc) (fun b o _ _ hc e n => u.any e n hc) (fun b o hc e n => u.free b o e n hc) (fun b o hc e => u.there b o e hc) u.tups u.frzs u.tbls (fun m' hm => by
    obtain ⟨o', es', ep', ho', r'⟩ := hm
    rw [ho] at ho'; cases ho'
    exact ⟨_, es', ep', hL, r'⟩) hok hg
theorem Inv.turned {t' : Nat} {it : Addr} (I : Inv X pins σ H s) (k : ∀ b o, b ≠ it → s.heap.get? b = some o → h'.get? b = some o) (hn : H it = none) (hL : it ≠ X.env.locals)
    (h1 : it ∈ X.ex ∨ X.s₀.heap.objs.size ≤ it) (h2 : ∀ x c, X.env.cells.lookup x = some c → c ≠ it) (h3 : ∀ p ∈ X.pn ++ pins, p.1 ≠ it) : Inv X pins σ H { s with heap := h', toks := t' } := by
  have nit : ∀ b u, H b = some u → b ≠ it := fun b u e z => by rw [z, hn] at e; cases e
  refine I.step (g' := s.gens) (d' := s.drawn) (ch := [it]) (fun b hb => ?_) (fun b o _ _ hc e _ => k b o (fun z => hc (by simp [z])) e) (fun b o _ _ hc e _ => ⟨o.slots, k b o (fun z => hc (by simp [z])) e⟩) (fun _ _ _ _ n => n)
    (fun b o hc e => ⟨o, k b o (fun z => hc (by simp [z])) e⟩) (fun _ _ e => e) (fun _ _ _ e => e) (fun b ps e => ⟨#[], by rw [e]; simp⟩) (fun m hm => ?_) (fun b u e => ?_) I.bare
  · have e : b = it := by simpa using hb
    subst e
    exact ⟨h1, hL, h2, h3⟩
  · obtain ⟨o, es, ep, ho, r⟩ := hm
    exact ⟨o, es, ep, k _ o (Ne.symm hL) ho, r⟩
  · refine (I.hok b u e).stay (fun c v hc q => k c v ?_ q) (fun _ q => q) fun _ _ q => q
    rcases hc with z | z
    · rw [z]; exact nit b u e
    · exact nit c _ z
theorem Inv.tok (I : Inv X pins σ H s) (t : Nat) : Inv X pins σ H { s with toks := t } := I.un (h' := s.heap) (t' := t) Un.refl I.hok
theorem Inv.kept {t' : Nat} (I : Inv X pins σ H s) (k : ∀ b u, s.heap.get? b = some u → h'.get? b = some u) : Inv X pins σ H { s with heap := h', toks := t' } := I.un (Un.kept k) (I.hok.kept k)
theorem Inv.laid {a : Addr} {o : HO} {t' : Nat} (I : Inv X pins σ H s) (k : ∀ b u, s.heap.get? b = some u → h'.get? b = some u) (hp : s.heap.objs.size ≤ a) (new : ObjOk X.prog X.w (upd H a o) h' a o) :
    Inv X pins σ (upd H a o) { s with heap := h', toks := t' } := I.un (Un.laid k hp (I.hok.fresh hp)) (I.hok.laid k hp new)
theorem Inv.write {x e : Addr} {o : HO} {t' : Nat} (I : Inv X pins σ H s) (mu : Mut (H x)) (he : e = x ∨ H e = some (.own x)) (k : ∀ b u, b ≠ e → s.heap.get? b = some u → h'.get? b = some u) (heo : ∃ u, h'.get? e = some u)
    (new : ObjOk X.prog X.w (upd H x o) h' x o) : Inv X pins σ (upd H x o) { s with heap := h', toks := t' } := I.un (Un.write mu he k heo) (I.hok.write mu he k heo new)
theorem Inv.pins_of {pins' : List (Addr × Obj)} (I : Inv X pins σ H s) (h : ∀ p ∈ pins', s.heap.get? p.1 = some p.2 ∧ H p.1 = none ∧ p.1 ≠ X.env.locals ∧ p.1 ∉ X.fs ∧ ∀ v, p.2.data ≠ .cell v) : Inv X pins' σ H s :=
  ⟨I.ok, I.os, I.bare, I.base, I.loc, I.cell, I.free, I.freeC, fun p hp => (List.mem_append.mp hp).elim (fun z => I.pin p (List.mem_append_left _ z)) (h p), I.hok, I.len⟩
theorem nodup_ix {N : List Str} (hN : N.Nodup) {i j : Nat} {x : Str} (a : N[i]? = some x) (b : N[j]? = some x) : i = j := by
  obtain ⟨h1, e1⟩ := List.getElem?_eq_some_iff.mp a
  obtain ⟨h2, e2⟩ := List.getElem?_eq_some_iff.mp b
  exact (List.getElem_inj hN).mp (e1.trans e2.symm)
theorem store_ok2 {M : Model} {A : Around} {E : Value → Shared → Prop} {i : Nat} {x : Str} {v : V} {u : Value} {Q : Unit → Shared → Prop} (I : Inv X pins σ H s) (hN : X.N.Nodup) (hi : X.N[i]? = some x) (hx : Loc X.env.scope x) (r : RelV v u)
    (h : ∀ s', Inv X pins (σ.set i (some v)) H s' → (∃ a, Heap.SameBut a s.heap s'.heap ∧ (a = X.env.locals ∨ X.env.cells.lookup x = some a)) → Q () s') (hf : X.fn x = true ∨ X.env.scope.names.lookup x = some .local := by first | exact .inl rfl | exact .inr rfl | assumption) : wpAny M A (storeName X.env x u) Q E s := by
  obtain ⟨m, hn, hl⟩ := id I.loc
  have hcls : (X.env.scope.kind == .class || (X.env.scope.kind == .module && X.env.locals != X.env.globals)) = false := by rw [I.ok.kind]; rfl
  have hiσ : i < σ.length := by rw [I.len]; exact (List.getElem?_eq_some_iff.mp hi).1
  have cne := I.cne
  have tracked : ∀ {a : Addr} {h' : Heap}, (∃ o, s.heap.get? a = some o ∧ H a = none) → Heap.SameBut a s.heap h' → HOk X.prog X.w H h' := fun {a h'} ha hs b ob e => by
    obtain ⟨_, _, hfree⟩ := ha
    refine (I.hok b ob e).stay (fun c w' hc q => (hs.2 c ?_).trans q) (fun _ q => q) fun _ _ q => q
    rintro rfl
    rcases hc with rfl | hc
    · rw [hfree] at e; cases e
    · rw [hfree] at hc; cases hc
  rcases hx with hk | hk
  · refine wpAny_storeName_local hk hn (fun h' hn' hs => ?_) hcls
    obtain ⟨oL, _, _, hoL, _⟩ := id hn
    refine h _ ⟨I.ok, I.os, I.bare, ⟨fun b o e n hb hx => ?_, fun b o e n hb hx => ?_, I.base.free, fun b o e hx => ?_, I.base.tups, I.base.frzs, I.base.tbls⟩, ⟨_, hn', fun j y v' e1 e2 e3 => ?_⟩, fun y c e => ?_, I.free, I.freeC, fun p hp => ?_, tracked ⟨oL, hoL, I.free⟩ hs, by simpa using I.len⟩ ⟨_, hs, .inl rfl⟩
    · exact (hs.2 b (Nat.ne_of_lt (Nat.lt_of_lt_of_le (Heap.lt_size e) I.ok.above))).trans (I.base.keep b o e n hb hx)
    · obtain ⟨sl, e1⟩ := I.base.slot b o e n hb hx
      exact ⟨sl, (hs.2 b (Nat.ne_of_lt (Nat.lt_of_lt_of_le (Heap.lt_size e) I.ok.above))).trans e1⟩
    · obtain ⟨o', e1⟩ := I.base.there b o e hx
      exact ⟨o', (hs.2 b (Nat.ne_of_lt (Nat.lt_of_lt_of_le (Heap.lt_size e) I.ok.above))).trans e1⟩
    · by_cases hj : j = i
      · subst hj
        rw [hi] at e1; cases e1
        rw [List.getElem?_set_self hiσ] at e2
        cases e2
        exact ⟨u, r, .inl ⟨hk, by simp⟩⟩
      · rw [List.getElem?_set_ne (Ne.symm hj)] at e2
        obtain ⟨u', r', q⟩ := hl j y v' e1 e2 e3
        refine ⟨u', r', ?_⟩
        rcases q with ⟨k, e⟩ | ⟨k, c, e, z⟩
        · refine .inl ⟨k, ?_⟩
          have : y ≠ x := fun e => hj (nodup_ix hN e1 (e ▸ hi))
          simp [this, e]
        · exact .inr ⟨k, c, e, z.sameBut hs (cne y c e)⟩
    · obtain ⟨w', z⟩ := I.cell y c e
      exact ⟨w', z.sameBut hs (cne y c e)⟩
    · obtain ⟨e, n, ne, nf, d⟩ := I.pin p hp
      exact ⟨(hs.2 p.1 ne).trans e, n, ne, nf, d⟩
  · have hfn : X.fn x = true := by
      rcases hf with z | z
      · exact z
      · rw [z] at hk; cases hk
    obtain ⟨c, hc⟩ := I.ok.has x (.inl hk)
    obtain ⟨w', z⟩ := I.cell x c hc
    refine wpAny_storeName_cell I.ok.kind hk hc z (fun h' hc' hs => ?_)
    obtain ⟨oc, hoc, hocd⟩ := id z
    refine h { s with heap := h' } ⟨I.ok, I.os, I.bare, ⟨fun b o e n hb hx => ?_, fun b o e n hb hx => ?_, I.base.free, fun b o e hx => ?_, I.base.tups, I.base.frzs, I.base.tbls⟩, ⟨m, hn.sameBut hs (Ne.symm (cne x c hc)), fun j y v' e1 e2 e3 => ?_⟩, fun y c' e => ?_, I.free, I.freeC, fun p hp => ?_, tracked ⟨oc, hoc, I.freeC x c hc⟩ hs, by simpa using I.len⟩ ⟨c, hs, .inr hc⟩
    · exact (hs.2 b (Nat.ne_of_lt (Nat.lt_of_lt_of_le (Heap.lt_size e) (I.ok.cab x c hfn hc)))).trans (I.base.keep b o e n hb hx)
    · obtain ⟨sl, e1⟩ := I.base.slot b o e n hb hx
      exact ⟨sl, (hs.2 b (Nat.ne_of_lt (Nat.lt_of_lt_of_le (Heap.lt_size e) (I.ok.cab x c hfn hc)))).trans e1⟩
    · obtain ⟨o', e1⟩ := I.base.there b o e hx
      exact ⟨o', (hs.2 b (Nat.ne_of_lt (Nat.lt_of_lt_of_le (Heap.lt_size e) (I.ok.cab x c hfn hc)))).trans e1⟩
    · by_cases hj : j = i
      · subst hj
        rw [hi] at e1; cases e1
        rw [List.getElem?_set_self hiσ] at e2
        cases e2
        exact ⟨u, r, .inr ⟨.inl hk, c, hc, hc'⟩⟩
      · rw [List.getElem?_set_ne (Ne.symm hj)] at e2
        obtain ⟨u', r', q⟩ := hl j y v' e1 e2 e3
        refine ⟨u', r', ?_⟩
        rcases q with q | ⟨k, c', e, z'⟩
        · exact .inl q
        · refine .inr ⟨k, c', e, z'.sameBut hs ?_⟩
          rintro rfl
          exact hj (nodup_ix hN e1 (I.ok.inj _ _ _ e hc ▸ hi))
    · by_cases hcc : c' = c
      · subst hcc; exact ⟨_, hc'⟩
      · obtain ⟨w2, z2⟩ := I.cell y c' e
        exact ⟨w2, z2.sameBut hs hcc⟩
    · obtain ⟨e, n, ne, nf, d⟩ := I.pin p hp
      refine ⟨(hs.2 p.1 ?_).trans e, n, ne, nf, d⟩
      intro q
      rw [q, hoc] at e
      have q' : oc = p.2 := Option.some.inj e
      exact d w' (by rw [← q']; exact hocd)
theorem store_ok {M : Model} {A : Around} {E : Value → Shared → Prop} {i : Nat} {x : Str} {v : V} {u : Value} {Q : Unit → Shared → Prop} (I : Inv X pins σ H s) (hN : X.N.Nodup) (hi : X.N[i]? = some x) (hx : Loc X.env.scope x) (r : RelV v u)
    (h : ∀ s', Inv X pins (σ.set i (some v)) H s' → Q () s') (hf : X.fn x = true ∨ X.env.scope.names.lookup x = some .local := by first | exact .inl rfl | exact .inr rfl | assumption) : wpAny M A (storeName X.env x u) Q E s :=
  store_ok2 I hN hi hx r (fun s' I' _ => h s' I') hf
theorem Inv.call' {s' : Shared} {ch : List Addr} (I : Inv X pins σ H s) (ho : s'.os = s.os) (u : Un (frs X.stack) ch H H' s.heap s'.heap) (hok : HOk X.prog X.w H' s'.heap) (hg : AllBare s'.gens)
    (hch : ∀ b ∈ ch, (b ∈ X.ex ∨ X.s₀.heap.objs.size ≤ b) ∧ b ≠ X.env.locals ∧ (∀ x c, X.env.cells.lookup x = some c → c ≠ b) ∧ ∀ p ∈ X.pn ++ pins, p.1 ≠ b) : Inv X pins σ H' s' := by
  obtain ⟨h', g', d', t', o'⟩ := s'
  have e : o' = s.os := ho
  subst e
  exact I.call (g' := g') (t' := t') (d' := d') u hok hg hch
end
abbrev XK := Value → Option Addr → Hp → Prop
abbrev St := List (Option V)
abbrev VK := V → Hp → Prop
abbrev TE := St → Hp → VK → Prop
abbrev TT := St → Hp → (Bool → Hp → Prop) → Prop
abbrev TA := St → Hp → (List V → Hp → Prop) → Prop
structure Ends where
  nx : St → Hp → Prop
  rt : VK
  bk : St → Hp → Prop := fun _ _ => False
  ct : St → Hp → Prop := fun _ _ => False
abbrev TS := Ends → St → Hp → Prop
def EP (X : Cx) (pins : List (Addr × Obj)) (σ : St) (Q : VK) (u : Value) (s' : Shared) : Prop := ∃ v H', Inv X pins σ H' s' ∧ RelV v u ∧ Q v H'
def TP (X : Cx) (pins : List (Addr × Obj)) (σ : St) (Q : Bool → Hp → Prop) (b : Bool) (s' : Shared) : Prop := ∃ H', Inv X pins σ H' s' ∧ Q b H'
def AP (X : Cx) (pins : List (Addr × Obj)) (σ : St) (Q : List V → Hp → Prop) (us : List Value) (s' : Shared) : Prop := ∃ vs H', Inv X pins σ H' s' ∧ Vals vs us ∧ Q vs H'
def SP (X : Cx) (pins : List (Addr × Obj)) (D : Ends) (f : Flow) (s' : Shared) : Prop :=
  match f with
  | .next => ∃ σ' H', Inv X pins σ' H' s' ∧ D.nx σ' H'
  | .brk => ∃ σ' H', Inv X pins σ' H' s' ∧ D.bk σ' H'
  | .cont => ∃ σ' H', Inv X pins σ' H' s' ∧ D.ct σ' H'
  | .ret u => ∃ v σ' H', Inv X pins σ' H' s' ∧ RelV v u ∧ D.rt v H'
def PE (X : Cx) (e : Expr) (t : TE) : Prop :=
  ∀ (pins : List (Addr × Obj)) (s : Shared) (σ : St) (H : Hp) (Q : VK), Inv X pins σ H s → t σ H Q → wpAny (model X.prog X.w) X.A (eval e X.env) (EP X pins σ Q) X.xe s
def PT (X : Cx) (e : Expr) (t : TT) : Prop :=
  ∀ (pins : List (Addr × Obj)) (s : Shared) (σ : St) (H : Hp) (Q : Bool → Hp → Prop), Inv X pins σ H s → t σ H Q → wpAny (model X.prog X.w) X.A (isTrue e X.env (eval e X.env)) (TP X pins σ Q) X.xe s
def PW (X : Cx) (e : Expr) (t : TT) : Prop :=
  ∀ (whole : Sem Value) (pins : List (Addr × Obj)) (s : Shared) (σ : St) (H : Hp) (Q : Bool → Hp → Prop), Inv X pins σ H s → t σ H Q → wpAny (model X.prog X.w) X.A (isTrue e X.env whole) (TP X pins σ Q) X.xe s
theorem PW.pt {X : Cx} {e : Expr} {t : TT} (h : PW X e t) : PT X e t := h _
def PA (X : Cx) (es : List Expr) (t : TA) : Prop :=
  ∀ (pos : Pos) (pins : List (Addr × Obj)) (s : Shared) (σ : St) (H : Hp) (Q : List V → Hp → Prop), Inv X pins σ H s → t σ H Q → wpAny (model X.prog X.w) X.A (spliced (backTo pos (starEach es X.env))) (AP X pins σ Q) X.xe s
def PS (X : Cx) (st : Stmt) (t : TS) : Prop :=
  ∀ (pins : List (Addr × Obj)) (s : Shared) (σ : St) (H : Hp) (D : Ends), Inv X pins σ H s → t D σ H → wpAny (model X.prog X.w) X.A (exec st X.env) (SP X pins D) X.xe s
def PSs (X : Cx) (st : List Stmt) (t : TS) : Prop :=
  ∀ (pins : List (Addr × Obj)) (s : Shared) (σ : St) (H : Hp) (D : Ends), Inv X pins σ H s → t D σ H → wpAny (model X.prog X.w) X.A (execs st X.env) (SP X pins D) X.xe s
theorem thn {α : Type} {t : Sem α} {Q Q' : α → Shared → Prop} {M : Model} {A : Around} {E : Value → Shared → Prop} {s : Shared} (h : wpAny M A t Q E s) (hQ : ∀ a s, Q a s → Q' a s) : wpAny M A t Q' E s := wpAny_mono h hQ fun _ _ x => x
end L2
namespace L2
open PySem PySem.Spec PyProof.Rows
section
variable {X : Cx}
theorem bin {a b : Expr} {ta tb : TE} (ha : PE X a ta) (hb : PE X b tb) {pins : List (Addr × Obj)} {s : Shared} {σ : St} {H : Hp} {R : V → V → Hp → Prop} (I : Inv X pins σ H s) (h : ta σ H fun x H1 => tb σ H1 fun y H2 => R x y H2)
    {α : Type} {Q : α → Shared → Prop} {f : Value → Value → Sem α}
    (hf : ∀ v u s2 x y H2, Inv X pins σ H2 s2 → RelV x v → RelV y u → R x y H2 → wpAny (model X.prog X.w) X.A (f v u) Q X.xe s2) :
    wpAny (model X.prog X.w) X.A (eval a X.env) (fun v s₁ => wpAny (model X.prog X.w) X.A (eval b X.env) (fun u s₂ => wpAny (model X.prog X.w) X.A (f v u) Q X.xe s₂) X.xe s₁) X.xe s := by
  refine thn (ha pins s σ H _ I h) fun v s1 ⟨x, H1, I1, r1, q1⟩ => ?_
  refine thn (hb pins s1 σ H1 _ I1 q1) fun u s2 ⟨y, H2, I2, r2, q2⟩ => ?_
  exact hf v u s2 x y H2 I2 r1 r2 q2
def tVar (i : Nat) : TE := fun σ H Q => ∃ v, σ[i]? = some (some v) ∧ Q v H
def tC (v : V) : TE := fun _ H Q => Q v H
theorem pe_var {i : Nat} {x : Str} {pos : Pos} (hN : X.N[i]? = some x) (hv : Vis X.env.scope x) (hd : (x == ("__debug__" : Str)) = false := by decide) (hcd : (x == ("__classdict__" : Str)) = false := by decide) : PE X (.Name x pos) (tVar i) := by
  intro pins s σ H Q I h
  obtain ⟨v, e, h⟩ := h
  obtain ⟨m, hn, hl⟩ := I.loc
  obtain ⟨u, r, l⟩ := hl i x v hN e hv
  have fin : EP X pins σ Q u s := ⟨v, H, I, r, h⟩
  rcases l with ⟨hk, hm⟩ | ⟨hk, c, hc, hcell⟩
  · exact wpAny_Name (wpAny_loadName_local I.ok.kind hk hn hm fin) hd
  · rcases hk with hk | hk
    · exact wpAny_Name (wpAny_loadName_cell I.ok.kind hk hc hcell fin) hd
    · exact wpAny_Name (wpAny_loadName_free I.ok.kind hk hc hcell fin hcd) hd
theorem pe_int {i j pos} : PE X (.Constant (.int i) j pos) (tC (.int i)) := fun _ _ _ H _ I h => wpAny_Constant_int ⟨.int i, H, I.tok _, ⟨_, rfl⟩, h⟩
theorem pe_bl {b j pos} : PE X (.Constant (.bool b) j pos) (tC (.bl b)) := fun _ _ _ H _ I h => Constant_bool ⟨.bl b, H, I, rfl, h⟩
theorem pe_non {j pos} : PE X (.Constant .none j pos) (tC .non) := fun _ _ _ H _ I h => Constant_none ⟨.non, H, I, rfl, h⟩
theorem pe_str {x j pos} : PE X (.Constant (.str x) j pos) (tC (.str x)) := fun _ _ _ H _ I h => Calls.Constant_str ⟨.str x, H, I.tok _, ⟨_, rfl⟩, h⟩
def Gl (X : Cx) (x : Str) : Prop := X.env.kindOf x = some .globalImplicit
theorem ld_glob {E : Value → Shared → Prop} {pins : List (Addr × Obj)} {s : Shared} {σ : St} {H : Hp} {x : Str} {u : Value} {pos : Pos} {Q : Value → Shared → Prop} (I : Inv X pins σ H s) (hg : Gl X x) (hm : X.mg x = some u) (h : Q u s)
    (hd : (x == ("__debug__" : Str)) = false := by decide) : wpAny (model X.prog X.w) X.A (eval (.Name x pos) X.env) Q E s :=
  Calls.Name_function_global I.ok.kind hg (Calls.loadGlobal_global (by rw [I.ok.glob]; exact I.mod.glob.keeps I.bk) hm h) hd
theorem ld_blt {E : Value → Shared → Prop} {pins : List (Addr × Obj)} {s : Shared} {σ : St} {H : Hp} {x : Str} {u : Value} {pos : Pos} {Q : Value → Shared → Prop} (I : Inv X pins σ H s) (hg : Gl X x) (hm : X.mg x = none) (hv : bootBuiltins x = some u) (h : Q u s)
    (hn : x ≠ "__name__" := by decide) (hd : (x == ("__debug__" : Str)) = false := by decide) : wpAny (model X.prog X.w) X.A (eval (.Name x pos) X.env) Q E s := by
  obtain ⟨mb, h1, h2⟩ := I.mod.blt
  exact Calls.Name_function_global I.ok.kind hg (Calls.loadGlobal_builtin (by rw [I.ok.glob]; exact I.mod.glob.keeps I.bk) hm (by rw [I.ok.blt]; exact h1.keeps I.bk) ((h2 x hn).trans hv) h) hd
theorem pe_glob {x : Str} {v : V} {u : Value} {pos : Pos} (hg : Gl X x) (hm : X.mg x = some u) (r : RelV v u) (hd : (x == ("__debug__" : Str)) = false := by decide) : PE X (.Name x pos) (tC v) :=
  fun _ _ _ H _ I h => ld_glob I hg hm ⟨v, H, I, r, h⟩ hd
theorem pe_bltn {x : Str} {v : V} {u : Value} {pos : Pos} (hg : Gl X x) (hm : X.mg x = none) (hv : bootBuiltins x = some u) (r : RelV v u) (hn : x ≠ "__name__" := by decide) (hd : (x == ("__debug__" : Str)) = false := by decide) : PE X (.Name x pos) (tC v) :=
  fun _ _ _ H _ I h => ld_blt I hg hm hv ⟨v, H, I, r, h⟩ hn hd
variable {a b : Expr} {ta tb : TE} {pos : Pos}
variable {tA tB' : TT} {rest : List Expr}
def tAnd (t u : TT) : TT := fun σ H Q => t σ H fun c H1 => if c = true then u σ H1 Q else Q false H1
def tOr (t u : TT) : TT := fun σ H Q => t σ H fun c H1 => if c = true then Q true H1 else u σ H1 Q
def tNot (t : TT) : TT := fun σ H Q => t σ H fun c H1 => Q (!c) H1
theorem pw_and1 (ha : PT X a tA) : PW X (.BoolOp .And [a] pos) tA := by
  intro wh pins s σ H Q I h
  refine isTrue_and (thn (ha pins s σ H Q I h) fun c s1 e => ?_)
  cases c with
  | true => exact isTrue_and_nil e
  | false => exact e
theorem pw_or1 (ha : PT X a tA) : PW X (.BoolOp .Or [a] pos) tA := by
  intro wh pins s σ H Q I h
  refine isTrue_or (thn (ha pins s σ H Q I h) fun c s1 e => ?_)
  cases c with
  | false => exact isTrue_or_nil e
  | true => exact e
theorem pw_and (ha : PT X a tA) (hb : PW X (.BoolOp .And (b :: rest) pos) tB') : PW X (.BoolOp .And (a :: b :: rest) pos) (tAnd tA tB') := by
  intro wh pins s σ H Q I h
  refine isTrue_and (thn (ha pins s σ H _ I h) fun c s1 ⟨H1, I1, q1⟩ => ?_)
  cases c with
  | true => exact hb wh pins s1 σ H1 Q I1 q1
  | false => exact ⟨H1, I1, q1⟩
theorem pw_or (ha : PT X a tA) (hb : PW X (.BoolOp .Or (b :: rest) pos) tB') : PW X (.BoolOp .Or (a :: b :: rest) pos) (tOr tA tB') := by
  intro wh pins s σ H Q I h
  refine isTrue_or (thn (ha pins s σ H _ I h) fun c s1 ⟨H1, I1, q1⟩ => ?_)
  cases c with
  | true => exact ⟨H1, I1, q1⟩
  | false => exact hb wh pins s1 σ H1 Q I1 q1
theorem pt_not (ha : PT X a tA) : PT X (.UnaryOp .Not a pos) (tNot tA) := by
  intro pins s σ H Q I h
  exact isTrue_not (ha pins s σ H (fun c H1 => Q (!c) H1) I h)
def tAndV (ta tb : TE) : TE := fun σ H Q => ta σ H fun x H1 => ∃ c, x = .bl c ∧ if c = true then tb σ H1 Q else Q (.bl false) H1
def tNotV (ta : TE) : TE := fun σ H Q => ta σ H fun x H1 => ∃ c, x = .bl c ∧ Q (.bl (!c)) H1
theorem pe_one {op} {t : TE} (h : PE X a t) : PE X (.BoolOp op [a] pos) t := fun pins s σ H Q I hw => BoolOp_one (h pins s σ H Q I hw)
theorem pe_and (ha : PE X a ta) (hb : PE X (.BoolOp .And (b :: rest) pos) tb) : PE X (.BoolOp .And (a :: b :: rest) pos) (tAndV ta tb) := by
  intro pins s σ H Q I h
  refine BoolOp_and (thn (ha pins s σ H _ I h) fun v s1 ⟨x, H1, I1, r1, q1⟩ => ?_)
  obtain ⟨c, rfl, q1⟩ := q1
  cases r1
  refine wpAny_truthy_bool ?_
  cases c with
  | true => exact hb pins s1 σ H1 Q I1 q1
  | false => exact ⟨.bl false, H1, I1, rfl, q1⟩
theorem pe_not (ha : PE X a ta) : PE X (.UnaryOp .Not a pos) (tNotV ta) := by
  intro pins s σ H Q I h
  refine UnaryOp_ (thn (ha pins s σ H _ I h) fun v s1 ⟨x, H1, I1, r1, q1⟩ => ?_)
  obtain ⟨c, rfl, q1⟩ := q1
  cases r1
  exact not_of (wpAny_truthy_bool ⟨.bl (!c), H1, I1, rfl, q1⟩)
def tIf (t : TT) (ta tb : TE) : TE := fun σ H Q => t σ H fun c H1 => if c = true then ta σ H1 Q else tb σ H1 Q
theorem pe_ifExp {c : Expr} (hc : PT X c tA) (ha : PE X a ta) (hb : PE X b tb) : PE X (.IfExp c a b pos) (tIf tA ta tb) := by
  intro pins s σ H Q I h
  refine wpAny_IfExp (thn (hc pins s σ H _ I h) fun d s1 ⟨H1, I1, q1⟩ => ?_)
  cases d with
  | true => exact ha pins s1 σ H1 Q I1 q1
  | false => exact hb pins s1 σ H1 Q I1 q1
end
end L2
namespace L2
open PySem PySem.Spec PyProof.Rows
def SqL (K : PySem.W.Frag) (H : Hp) (a : Addr) (xs : List V) : Prop :=
  Rd H a (.lst xs) ∨
    ∃ (o : Obj) (its : Array Value) (n : Nat), K.lookup a = some o ∧ o.cls = .type "list" ∧ o.dict = none ∧ o.data = .seq its n ∧ its.size ≤ sizeLine ∧ Vals xs its.toList
def SqT (K : PySem.W.Frag) (H : Hp) (a : Addr) (xs : List V) : Prop :=
  Rd H a (.tup xs) ∨
    ∃ (o : Obj) (its : Array Value) (n : Nat), K.lookup a = some o ∧ o.cls = .type "tuple" ∧ o.data = .seq its n ∧ its.size ≤ sizeLine ∧ Vals xs its.toList
def absV : Value → Option V
  | .none => some .non
  | .bool b => some (.bl b)
  | .int i _ => some (.int i)
  | .str x _ => some (.str x)
  | .bytes b _ => some (.byt b)
  | .float b _ => some (.flt b)
  | .ref a => some (.ref a)
  | .type n => some (.ty n)
  | _ => none
theorem RelV.abs {x : V} {u : Value} (r : RelV x u) : absV u = some x := by
  cases x with
  | non => cases r; rfl
  | bl _ => cases r; rfl
  | int _ => obtain ⟨t, rfl⟩ := r; rfl
  | str _ => obtain ⟨t, rfl⟩ := r; rfl
  | byt _ => obtain ⟨t, rfl⟩ := r; rfl
  | flt _ => obtain ⟨t, rfl⟩ := r; rfl
  | ref _ => cases r; rfl
  | ty _ => cases r; rfl
theorem RelV.inj {x y : V} {u : Value} (r : RelV x u) (q : RelV y u) : x = y := Option.some.inj (r.abs.symm.trans q.abs)
theorem Vals.inj : ∀ {xs ys : List V} {us : List Value}, Vals xs us → Vals ys us → xs = ys
  | _, _, _, .nil, .nil => rfl
  | _, _, _, .cons r t, .cons r' t' => by rw [r.inj r', Vals.inj t t']
section
variable {X : Cx} {pins : List (Addr × Obj)} {σ : St} {H : Hp} {s : Shared} {a : Addr} {xs ys : List V}
theorem SqL.of {K : PySem.W.Frag} (h : H a = some (.lst xs)) : SqL K H a xs := .inl (.inl h)
theorem SqT.of {K : PySem.W.Frag} (h : H a = some (.tup xs)) : SqT K H a xs := .inl (.inl h)
theorem Inv.list (I : Inv X pins σ H s) (h : SqL X.K H a xs) : ∃ its : List Value, Vals xs its ∧ PlainL s.heap a its.toArray ∧ xs.length ≤ sizeLine := by
  rcases h with h | ⟨o, its, n, hk, hc, hd, hs, hz, r⟩
  · obtain ⟨z, its, n, r, e⟩ := h.ok I.hok
    exact ⟨its, r, ⟨_, n, e, rfl, rfl, rfl⟩, z⟩
  · refine ⟨its.toList, r, ⟨o, n, I.kIn a o hk, hc, hd, by simpa using hs⟩, ?_⟩
    have e := r.length
    simp only [Array.length_toList] at e
    omega
theorem Inv.tuple (I : Inv X pins σ H s) (h : SqT X.K H a xs) : ∃ its : List Value, Vals xs its ∧ IsTup s.heap a its.toArray ∧ xs.length ≤ sizeLine := by
  rcases h with h | ⟨o, its, n, hk, hc, hs, hz, r⟩
  · obtain ⟨z, its, r, p⟩ := h.ok I.hok
    exact ⟨its, r, p, z⟩
  · refine ⟨its.toList, r, ⟨o, I.kIn a o hk, hc, n, by simpa using hs⟩, ?_⟩
    have e := r.length
    simp only [Array.length_toList] at e
    omega
theorem Inv.list_inj (I : Inv X pins σ H s) (h : SqL X.K H a xs) (h' : SqL X.K H a ys) : xs = ys := by
  obtain ⟨its, r, ⟨o, n, e, _, _, d⟩, _⟩ := I.list h
  obtain ⟨its', r', ⟨o', n', e', _, _, d'⟩, _⟩ := I.list h'
  rw [e] at e'; cases e'
  rw [d] at d'
  injection d' with d1 _
  have : its = its' := by simpa using congrArg Array.toList d1
  subst this
  exact r.inj r'
end
section
variable {X : Cx} {pins : List (Addr × Obj)} {σ : St} {H : Hp} {s : Shared} {E : Value → Shared → Prop}
end
section
variable {X : Cx} {st : Stmt} {rest : List Stmt} {t u : TS} {e : Expr} {te : TE} {pos : Pos}
def tNext : TS := fun D σ H => D.nx σ H
def tSeq (t u : TS) : TS := fun D σ H => t { D with nx := u D } σ H
theorem pss_nil : PSs X [] tNext := fun _ _ σ H _ I h => wpAny_execs_nil ⟨σ, H, I, h⟩
theorem pss_cons (h1 : PS X st t) (h2 : PSs X rest u) : PSs X (st :: rest) (tSeq t u) := by
  intro pins s σ H D I h
  refine wpAny_execs_cons (thn (h1 pins s σ H { D with nx := u D } I h) fun f s1 q => ?_)
  cases f with
  | next =>
    obtain ⟨σ', H', I', q⟩ := q
    exact h2 pins s1 σ' H' D I' q
  | ret v => exact q
  | brk => exact q
  | cont => exact q
theorem pss_one (h1 : PS X st t) : PSs X [st] t := by
  intro pins s σ H D I h
  refine wpAny_execs_cons (thn (h1 pins s σ H D I h) fun f s1 q => ?_)
  cases f with
  | next => exact wpAny_execs_nil q
  | ret v => exact q
  | brk => exact q
  | cont => exact q
theorem Inv.quiet {pins : List (Addr × Obj)} {σ : St} {H : Hp} {s : Shared} (I : Inv X pins σ H s) : interactive X.env = false := by simp [interactive, I.ok.kind]
def tDrop (te : TE) : TS := fun D σ H => te σ H fun _ H1 => D.nx σ H1
theorem ps_expr (he : PE X e te) (hs : swapsWith e none pos.line X.env = pure false := by rfl) : PS X (.Expr e pos) (tDrop te) := by
  intro pins s σ H D I h
  exact wpAny_Expr_any (thn (he pins s σ H _ I h) fun v s1 ⟨x, H1, I1, r1, q1⟩ => ⟨σ, H1, I1, q1⟩) I.quiet hs
def tRet (te : TE) : TS := fun D σ H => te σ H D.rt
theorem ps_ret (he : PE X e te) : PS X (.Return (some e) pos) (tRet te) := by
  intro pins s σ H D I h
  exact wpAny_Return_some (thn (he pins s σ H _ I h) fun v s1 ⟨x, H1, I1, r1, q1⟩ => ⟨x, σ, H1, I1, r1, q1⟩)
def tIfS (c : TT) (t u : TS) : TS := fun D σ H => c σ H fun b H1 => if b = true then t D σ H1 else u D σ H1
theorem ps_if {c : Expr} {a b : List Stmt} {tc : TT} (hc : PT X c tc) (ha : PSs X a t) (hb : PSs X b u) : PS X (.If c a b pos) (tIfS tc t u) := by
  intro pins s σ H D I h
  refine wpAny_If (thn (hc pins s σ H _ I h) fun d s1 ⟨H1, I1, q1⟩ => ?_)
  cases d with
  | true => exact ha pins s1 σ H1 D I1 q1
  | false => exact hb pins s1 σ H1 D I1 q1
end
abbrev TG := V → St → Hp → (St → Hp → Prop) → Prop
abbrev TGs := List V → St → Hp → (St → Hp → Prop) → Prop
def PG (X : Cx) (target : Expr) (t : TG) : Prop :=
  ∀ (pins : List (Addr × Obj)) (s : Shared) (σ : St) (H : Hp) (v : V) (u : Value) (Q : St → Hp → Prop), Inv X pins σ H s → RelV v u → t v σ H Q →
    wpAny (model X.prog X.w) X.A (assign target X.env u) (fun _ s' => ∃ σ' H', Inv X pins σ' H' s' ∧ Q σ' H') X.xe s
def PGs (X : Cx) (ts : List Expr) (t : TGs) : Prop :=
  ∀ (pins : List (Addr × Obj)) (s : Shared) (σ : St) (H : Hp) (vs : List V) (us : List Value) (Q : St → Hp → Prop), Inv X pins σ H s → Vals vs us → t vs σ H Q →
    wpAny (model X.prog X.w) X.A (assignInOrder ((assignEach ts X.env).map (·.2)) us) (fun _ s' => ∃ σ' H', Inv X pins σ' H' s' ∧ Q σ' H') X.xe s
abbrev TSet := V → V → V → Hp → (Hp → Prop) → Prop
def PSet (X : Cx) (t : TSet) : Prop :=
  ∀ (pins : List (Addr × Obj)) (s : Shared) (σ : St) (H : Hp) (o i v : V) (ov iv u : Value) (Q : Hp → Prop), Inv X pins σ H s → RelV o ov → RelV i iv → RelV v u → t o i v H Q →
    wpAny (model X.prog X.w) X.A (setItem ov iv u) (fun _ s' => ∃ H', Inv X pins σ H' s' ∧ Q H') X.xe s
abbrev TIp := V → V → Hp → VK → Prop
def PIp (X : Cx) (op : Operator) (t : TIp) : Prop :=
  ∀ (pins : List (Addr × Obj)) (s : Shared) (σ : St) (H : Hp) (x y : V) (v u : Value) (Q : VK), Inv X pins σ H s → RelV x v → RelV y u → t x y H Q →
    wpAny (model X.prog X.w) X.A (inplaceOp op v u) (EP X pins σ Q) X.xe s
section
variable {X : Cx} {pos : Pos}
def gName (i : Nat) : TG := fun v σ H Q => Q (σ.set i (some v)) H
theorem pg_name {i : Nat} {x : Str} (hN : X.N.Nodup) (hi : X.N[i]? = some x) (hx : Loc X.env.scope x) (hf : X.fn x = true ∨ X.env.scope.names.lookup x = some .local := by first | exact .inl rfl | exact .inr rfl | assumption) : PG X (.Name x pos) (gName i) := by
  intro pins s σ H v u Q I r h
  exact wpAny_assign_Name (store_ok I hN hi hx r (fun s' I' => ⟨_, H, I', h⟩) hf)
def gNil : TGs := fun vs σ H Q => vs = [] ∧ Q σ H
def gCons (t : TG) (u : TGs) : TGs := fun vs σ H Q => ∃ v r, vs = v :: r ∧ t v σ H fun σ' H' => u r σ' H' Q
theorem pgs_nil : PGs X [] gNil := by
  intro pins s σ H vs us Q I r h
  obtain ⟨e, h⟩ := h
  subst e
  cases r
  exact assignInOrder_nil ⟨σ, H, I, h⟩
theorem pgs_cons {e : Expr} {es : List Expr} {t : TG} {u : TGs} (h1 : PG X e t) (h2 : PGs X es u)
    (hs : (assignEach (e :: es) X.env).map (·.2) = assign e X.env :: (assignEach es X.env).map (·.2) := by rfl) : PGs X (e :: es) (gCons t u) := by
  intro pins s σ H vs us Q I r h
  obtain ⟨v, vr, e1, h⟩ := h
  subst e1
  cases r with
  | cons r rr =>
    rw [hs]
    refine assignInOrder_cons (thn (h1 pins s σ H _ _ _ I r h) fun _ s1 ⟨σ1, H1, I1, q1⟩ => ?_)
    exact h2 pins s1 σ1 H1 _ _ Q I1 rr q1
def gTup (K : PySem.W.Frag) (n : Nat) (t : TGs) : TG := fun v σ H Q => ∃ a xs, v = .ref a ∧ SqT K H a xs ∧ xs.length = n ∧ t xs σ H Q
theorem pg_tup {es : List Expr} {k : Nat} {t : TGs} {n : Nat} (hc : X.calm = true) (h : PGs X es t)
    (hn : (assignEach es X.env).length = n := by rfl) (hst : (assignEach es X.env).findIdx? (·.1) = none := by rfl) : PG X (.Tuple es k pos) (gTup X.K n t) := by
  intro pins s σ H v u Q I r hw
  obtain ⟨a, xs, e1, hq, hl, hw⟩ := hw
  subst e1
  cases r
  obtain ⟨its, rv, ht, hz⟩ := I.tuple hq
  refine assign_Tuple_tuple (I.ok.hd hc) ht (by simp [hn, ← hl, rv.length]) hst fun h' hx => ?_
  have I1 : Inv X pins σ H { s with heap := h' } := I.kept (t' := s.toks) fun b o e => hx b o (Nat.ne_of_lt (Heap.lt_size e)) e
  exact h pins _ σ H xs _ Q I1 (by simpa using rv) hw
def gSub (to ti : TE) (t : TSet) : TG := fun v σ H Q => to σ H fun o H1 => ti σ H1 fun i H2 => t o i v H2 fun H3 => Q σ H3
theorem pg_sub {o i : Expr} {to ti : TE} {t : TSet} (ho : PE X o to) (hi : PE X i ti) (hs : PSet X t)
    (ha : ∀ v, assign (.Subscript o i pos) X.env v = (do
      let ov ← holding [v] (eval o X.env)
      let iv ← holding [v, ov] (eval i X.env)
      standAt pos
      holding [v, ov, iv] (setItem ov iv v)
      release [v, ov, iv] []) := by intro _; rfl) : PG X (.Subscript o i pos) (gSub to ti t) := by
  intro pins s σ H v u Q I r h
  rw [ha]
  refine wpAny_bind (wpAny_holding (thn (ho pins s σ H _ I h) fun ov s1 ⟨x, H1, I1, r1, q1⟩ => ?_))
  refine wpAny_bind (wpAny_holding (thn (hi pins s1 σ H1 _ I1 q1) fun iv s2 ⟨y, H2, I2, r2, q2⟩ => ?_))
  refine wpAny_bind (wpAny_standAt (wpAny_bind (wpAny_holding (thn (hs pins s2 σ H2 x y v ov iv u _ I2 r1 r2 r q2) fun _ s3 ⟨H3, I3, q3⟩ => ?_))))
  exact wpAny_release ⟨σ, H3, I3, q3⟩
def tAsg (te : TE) (g : TG) : TS := fun D σ H => te σ H fun x H1 => g x σ H1 D.nx
theorem ps_asg {tg e : Expr} {te : TE} {g : TG} (he : PE X e te) (hg : PG X tg g) (hs : swapsWithSole [tg] e pos.line X.env = pure false := by rfl) (hw : swappedStores [tg] e X.env = pure none := by rfl)
    (h1 : (assignEach [tg] X.env).map (·.2) = [assign tg X.env] := by rfl) : PS X (.Assign [tg] e pos) (tAsg te g) := by
  intro pins s σ H D I h
  refine wpAny_Assign_stores (thn (he pins s σ H _ I h) fun v s1 ⟨x, H1, I1, r1, q1⟩ => ?_) hs hw
  rw [h1]
  exact thn (hg pins s1 σ H1 x v _ I1 r1 q1) fun _ s2 q => q
theorem ps_set {i : Nat} {x : Str} {e : Expr} {te : TE} {pos' : Pos} (hN : X.N.Nodup) (hi : X.N[i]? = some x) (hx : Loc X.env.scope x) (he : PE X e te) (hs : swapsWith e (some (.Name x pos')) pos.line X.env = pure false := by rfl) (hf : X.fn x = true ∨ X.env.scope.names.lookup x = some .local := by first | exact .inl rfl | exact .inr rfl | assumption) :
    PS X (.Assign [.Name x pos'] e pos) (tAsg te (gName i)) := by
  intro pins s σ H D I h
  refine wpAny_Assign_Name (thn (he pins s σ H _ I h) fun v s1 ⟨y, H1, I1, r1, q1⟩ => ?_) hs
  exact store_ok I1 hN hi hx r1 (fun s2 I2 => ⟨_, H1, I2, q1⟩) hf
def tAug (i : Nat) (te : TE) (ti : TIp) : TS := fun D σ H => ∃ x, σ[i]? = some (some x) ∧ te σ H fun y H1 => ti x y H1 fun z H2 => D.nx (σ.set i (some z)) H2
theorem ps_aug {i : Nat} {x : Str} {e : Expr} {te : TE} {op : Operator} {ti : TIp} {pos' : Pos} (hN : X.N.Nodup) (hi : X.N[i]? = some x) (hx : Loc X.env.scope x) (he : PE X e te) (ho : PIp X op ti) (hf : X.fn x = true ∨ X.env.scope.names.lookup x = some .local := by first | exact .inl rfl | exact .inr rfl | assumption) :
    PS X (.AugAssign (.Name x pos') op e pos) (tAug i te ti) := by
  intro pins s σ H D I h
  obtain ⟨v, e1, h⟩ := h
  obtain ⟨m, hn, hl⟩ := I.loc
  have vis : Vis X.env.scope x := by rcases hx with k | k; exact .inl k; exact .inr (.inl k)
  obtain ⟨u, r, l⟩ := hl i x v hi e1 vis
  refine wpAny_AugAssign_Name ?_
  have go : wpAny (model X.prog X.w) X.A (eval e X.env) (fun w s₂ => wpAny (model X.prog X.w) X.A (inplaceOp op u w) (fun r s₃ => wpAny (model X.prog X.w) X.A (storeName X.env x r) (fun _ => SP X pins D .next) X.xe s₃) X.xe s₂) X.xe s := by
    refine thn (he pins s σ H _ I h) fun w s1 ⟨y, H1, I1, r1, q1⟩ => ?_
    refine thn (ho pins s1 σ H1 v y u w _ I1 r r1 q1) fun z s2 ⟨zv, H2, I2, r2, q2⟩ => ?_
    exact store_ok I2 hN hi hx r2 (fun s3 I3 => ⟨_, H2, I3, q2⟩) hf
  rcases l with ⟨hk, hm⟩ | ⟨hk, c, hc, hcell⟩
  · exact wpAny_loadName_local I.ok.kind hk hn hm go
  · rcases hk with hk | hk
    · exact wpAny_loadName_cell I.ok.kind hk hc hcell go
    · rcases hx with k | k
      · have : X.env.scope.names.lookup x = some .free := hk
        rw [k] at this; cases this
      · have : X.env.scope.names.lookup x = some .free := hk
        rw [k] at this; cases this
def tAugS (to ti te : TE) (tget : V → V → Hp → VK → Prop) (tip : TIp) (tset : TSet) : TS := fun D σ H => to σ H fun o H1 => ti σ H1 fun i H2 => tget o i H2 fun x H3 => te σ H3 fun y H4 => tip x y H4 fun z H5 => tset o i z H5 fun H6 => D.nx σ H6
def PGet (X : Cx) (t : V → V → Hp → VK → Prop) : Prop :=
  ∀ (pins : List (Addr × Obj)) (s : Shared) (σ : St) (H : Hp) (o i : V) (ov iv : Value) (Q : VK), Inv X pins σ H s → RelV o ov → RelV i iv → t o i H Q →
    wpAny (model X.prog X.w) X.A (getItem ov iv) (EP X pins σ Q) X.xe s
theorem ps_augS {o i e : Expr} {to ti te : TE} {tget : V → V → Hp → VK → Prop} {tip : TIp} {tset : TSet} {op : Operator} {tpos : Pos} (ho : PE X o to) (hi : PE X i ti) (hg : PGet X tget) (he : PE X e te) (hp : PIp X op tip) (hs : PSet X tset)
    (ha : ∀ ov iv new, augStore i ov iv new = (do holding [new, ov, iv] (setItem ov iv new); release [new, ov, iv] []; pure .next) := by intros; rfl) : PS X (.AugAssign (.Subscript o i tpos) op e pos) (tAugS to ti te tget tip tset) := by
  intro pins s σ H D I h
  refine wpAny_AugAssign_SubscriptAny (thn (ho pins s σ H _ I h) fun ov s1 ⟨x1, H1, I1, r1, q1⟩ => ?_) ha
  refine thn (hi pins s1 σ H1 _ I1 q1) fun iv s2 ⟨x2, H2, I2, r2, q2⟩ => ?_
  refine thn (hg pins s2 σ H2 x1 x2 ov iv _ I2 r1 r2 q2) fun old s3 ⟨x3, H3, I3, r3, q3⟩ => ?_
  refine thn (he pins s3 σ H3 _ I3 q3) fun v s4 ⟨x4, H4, I4, r4, q4⟩ => ?_
  refine thn (hp pins s4 σ H4 x3 x4 old v _ I4 r3 r4 q4) fun new s5 ⟨x5, H5, I5, r5, q5⟩ => ?_
  exact thn (hs pins s5 σ H5 x1 x2 x5 ov iv new _ I5 r1 r2 r5 q5) fun _ s6 ⟨H6, I6, q6⟩ => ⟨σ, H6, I6, q6⟩
def ipI (f : Int → Int → Int) : TIp := fun x y H Q => ∃ i j, x = .int i ∧ y = .int j ∧ Q (.int (f i j)) H
theorem ip_add : PIp X .Add (ipI fun i j => i + j) := by
  intro pins s σ H x y v u Q I r1 r2 h
  obtain ⟨i, j, e1, e2, q⟩ := h
  subst e1; subst e2
  obtain ⟨t, rfl⟩ := r1
  obtain ⟨t', rfl⟩ := r2
  exact iadd_int ⟨.int _, H, I.tok _, ⟨_, rfl⟩, q⟩
end
section
variable {X : Cx} {pos : Pos}
def tWhile (c : TT) (tb : TS) : TS := fun D σ H => ∃ W : Nat → St → Hp → Prop, (∃ m, W m σ H) ∧ ∀ m σ H, W m σ H →
  c σ H fun b H1 => if b = true then ∃ N : St → Hp → Prop, (∀ σ' H', N σ' H' → ∃ m', m' < m ∧ W m' σ' H') ∧ tb { D with nx := N, ct := N, bk := D.nx } σ H1 else D.nx σ H1
theorem ps_while {c : Expr} {body : List Stmt} {tc : TT} {tb : TS} (hp : PassesOwn (model X.prog X.w) X.A X.env X.xe) (hc : PT X c tc) (hb : PSs X body tb) : PS X (.While c body [] pos) (tWhile tc tb) := by
  intro pins s σ H D I h
  obtain ⟨W, ⟨m0, w0⟩, turn⟩ := h
  refine wpAny_While (codeAny_whileLoop (fun n s' => ∃ σ' H', Inv X pins σ' H' s' ∧ W n σ' H') ?_ m0 ⟨σ, H, I, w0⟩)
  rintro n s1 ⟨σ1, H1, I1, w1⟩
  refine wpAny_passesOwn hp (thn (hc pins s1 σ1 H1 _ I1 (turn n σ1 H1 w1)) fun b s2 ⟨H2, I2, q2⟩ => ?_)
  cases b with
  | true =>
    obtain ⟨N, hN, q2⟩ := q2
    rw [if_pos rfl]
    refine wpAny_passesOwn hp (thn (hb pins s2 σ1 H2 _ I2 q2) fun f s3 q3 => ?_)
    cases f with
    | next =>
      obtain ⟨σ3, H3, I3, n3⟩ := q3
      obtain ⟨m', hm, w3⟩ := hN σ3 H3 n3
      exact ⟨m', hm, σ3, H3, I3, w3⟩
    | cont =>
      obtain ⟨σ3, H3, I3, n3⟩ := q3
      obtain ⟨m', hm, w3⟩ := hN σ3 H3 n3
      exact ⟨m', hm, σ3, H3, I3, w3⟩
    | brk => exact q3
    | ret v => exact q3
  | false =>
    rw [if_neg Bool.false_ne_true]
    exact wpAny_execs_nil ⟨σ1, H2, I2, q2⟩
end
structure It where
  go : Nat → Hp → Prop
  yld : Nat → Hp → V → Hp → Prop
  stop : Nat → Hp → Prop
def FpOk (X : Cx) (pins : List (Addr × Obj)) (H : Hp) (b : Addr) : Prop :=
  H b = none ∧ b ≠ X.env.locals ∧ b ∉ X.fs ∧ (b ∈ X.ex ∨ X.s₀.heap.objs.size ≤ b) ∧ (∀ x c, X.env.cells.lookup x = some c → c ≠ b) ∧ ∀ p ∈ X.pn ++ pins, p.1 ≠ b
theorem Inv.fpOk {X : Cx} {pins : List (Addr × Obj)} {σ : St} {H H' : Hp} {s : Shared} {b : Addr} (I : Inv X pins σ H s) (hb : s.heap.objs.size ≤ b) (hn : H' b = none) : FpOk X pins H' b := by
  refine ⟨hn, Nat.ne_of_gt (Nat.lt_of_lt_of_le I.lt hb), I.nofs hb, .inr (Nat.le_trans I.sz hb), fun x c e z => ?_, fun p hp z => ?_⟩
  · obtain ⟨v, q⟩ := I.cell x c e
    exact absurd (Nat.lt_of_lt_of_le q.lt (by rw [z]; exact hb)) (Nat.lt_irrefl _)
  · exact absurd (Nat.lt_of_lt_of_le (Heap.lt_size (I.pin p hp).1) (by rw [z]; exact hb)) (Nat.lt_irrefl _)
structure Turn (P : Program) (w : World) (K : PySem.W.Frag) (tg : Expr) (J : It) (fp : List Addr) (it : Addr) (tn : Nat → Heap → Prop) : Prop where
  mem : it ∈ fp
  obj : ∀ i h, tn i h → ∀ b ∈ fp, ∃ o, h.get? b = some o ∧ ∀ v, o.data ≠ .cell v
  keep : ∀ i h h', tn i h → (∀ b ∈ fp, ∀ o, h.get? b = some o → h'.get? b = some o) → tn i h'
  item : ∀ (X : Cx), X.prog = P → X.w = w → X.K = K → X.calm = true → ∀ (i : Nat) (pins : List (Addr × Obj)) (s : Shared) (σ : St) (H : Hp) (E : Value → Shared → Prop), Inv X pins σ H s → (∀ b ∈ fp, FpOk X pins H b) → tn i s.heap → J.go i H →
    wpAny (model P w) X.A (pyNext (.ref it)) (fun r s1 => ∃ u, r = some u ∧
      wpAny (model P w) X.A (letOwnedTupleGo tg (.ref it) u) (fun _ s2 => ∃ x H', Inv X pins σ H' s2 ∧ RelV x u ∧ J.yld i H x H' ∧ tn (i + 1) s2.heap ∧ ∀ b ∈ fp, H' b = none) E s1) E s
  done : ∀ (X : Cx), X.prog = P → X.w = w → X.K = K → X.calm = true → ∀ (i : Nat) (pins : List (Addr × Obj)) (s : Shared) (σ : St) (H : Hp) (E : Value → Shared → Prop), Inv X pins σ H s → (∀ b ∈ fp, FpOk X pins H b) → tn i s.heap → J.stop i H →
    wpAny (model P w) X.A (pyNext (.ref it)) (fun r s1 => r = none ∧ Inv X pins σ H s1) E s
  self : ∀ (A : Around) (i : Nat) (s : Shared) (Q : Value → Shared → Prop) (E : Value → Shared → Prop), tn i s.heap → Q (.ref it) s → wpAny (model P w) A (pyIter (.ref it)) Q E s
abbrev TI := St → Hp → (It → Hp → Prop) → Prop
def PIE (X : Cx) (pins : List (Addr × Obj)) (σ : St) (tg : Expr) (R : It → Hp → Prop) (itv : Value) (s2 : Shared) : Prop :=
  ∃ (it : Addr) (fp : List Addr) (tn : Nat → Heap → Prop) (J : It) (H' : Hp), itv = .ref it ∧ Inv X pins σ H' s2 ∧ Turn X.prog X.w X.K tg J fp it tn ∧ tn 0 s2.heap ∧ (∀ b ∈ fp, FpOk X pins H' b) ∧ R J H'
def PI (X : Cx) (tg iter : Expr) (wi : TI) : Prop :=
  ∀ (pins : List (Addr × Obj)) (s : Shared) (σ : St) (H : Hp) (R : It → Hp → Prop), Inv X pins σ H s → wi σ H R →
    wpAny (model X.prog X.w) X.A (eval iter X.env) (fun v s1 => wpAny (model X.prog X.w) X.A (pyIter v) (PIE X pins σ tg R) X.xe s1) X.xe s
theorem go_of {M : Model} {A : Around} {E : Value → Shared → Prop} {s : Shared} {tg : Expr} {it : Addr} {u : Value} {o : Obj} {n : String} {vs : Array Value} {Q : Unit → Shared → Prop} (ho : s.heap.get? it = some o) (hc : o.cls = .type n) (hd : o.data = .fields vs)
    (hn : ["enumerate", "zip", "dict_itemiterator", "dict_reverseitemiterator", "odict_iterator", "itertools.zip_longest", "itertools.pairwise"].contains n = false) (hQ : Q () s) : wpAny M A (letOwnedTupleGo tg (.ref it) u) Q E s := by
  unfold letOwnedTupleGo
  cases tg <;> first
    | exact wpAny_pure hQ
    | (cases u <;> first
        | exact wpAny_pure hQ
        | (refine wpAny_bind (wpAny_load ho ?_)
           rw [hc, hd]
           show wpAny M A (if (["enumerate", "zip", "dict_itemiterator", "dict_reverseitemiterator", "odict_iterator", "itertools.zip_longest", "itertools.pairwise"].contains n && vs[0]? == some (rawInt _)) = true then _ else _) Q E s
           rw [if_neg (by intro h; rw [hn, Bool.false_and] at h; cases h)]
           exact wpAny_pure hQ))
def Itl (K : PySem.W.Frag) (a : Addr) : It :=
  ⟨fun i H => ∃ xs x, SqL K H a xs ∧ xs[i]? = some x, fun i H x H' => H' = H ∧ ∀ xs, SqL K H a xs → xs[i]? = some x, fun i H => ∃ xs, SqL K H a xs ∧ xs.length ≤ i⟩
def Itr (lo : Int) (n : Nat) : It := ⟨fun i _ => i < n, fun i H x H' => H' = H ∧ x = .int (lo + i), fun i _ => n ≤ i⟩
theorem turn_list {P : Program} {w : World} {K : PySem.W.Frag} {tg : Expr} (a it : Addr) : Turn P w K tg (Itl K a) [it] it (fun i h => h.IsListIter it a i) where
  mem := by simp
  obj := fun i h st b hb => by
    have e : b = it := by simpa using hb
    subst e
    obtain ⟨o, e, c, d⟩ := st
    exact ⟨o, e, fun v z => by rw [d] at z; cases z⟩
  keep := fun i h h' st k => st.at fun o e => k it (by simp) o e
  item := by
    intro X hP hw hK hc i pins s σ H E I hf st hg
    subst hP hw hK
    obtain ⟨xs, x, hq, hx⟩ := hg
    obtain ⟨its, rv, p, hz⟩ := I.list hq
    obtain ⟨u, hu, ru⟩ := rv.get hx
    obtain ⟨f0, f1, f2, f3, f4, f5⟩ := hf it (by simp)
    refine wpAny_pyNext_list_item st p.isList (x := u) (by simpa using hu) fun h' st' sb => ?_
    have I1 : Inv X pins σ H { s with heap := h' } := I.turned (t' := s.toks) (fun b o hb e => (sb.2 b hb).trans e) f0 f1 f3 f4 f5
    obtain ⟨o, e, c, d⟩ := id st'
    exact ⟨u, rfl, go_of (s := { s with heap := h' }) e c d (by decide) ⟨x, H, I1, ru, ⟨rfl, fun ys hy => by rw [I.list_inj hy hq]; exact hx⟩, st', fun b hb => (hf b hb).1⟩⟩
  done := by
    intro X hP hw hK hc i pins s σ H E I hf st hg
    subst hP hw hK
    obtain ⟨xs, hq, hx⟩ := hg
    obtain ⟨its, rv, p, hz⟩ := I.list hq
    obtain ⟨f0, f1, f2, f3, f4, f5⟩ := hf it (by simp)
    have hl := rv.length
    exact wpAny_pyNext_list_end (I.ok.hd hc) st p.isList (by simp; omega) fun h' eb => ⟨rfl, I.turned (t' := s.toks) (fun b o hb e => eb b o hb e) f0 f1 f3 f4 f5⟩
  self := fun _ _ _ _ _ st h => wpAny_pyIter_listiter st h
theorem turn_range {P : Program} {w : World} {K : PySem.W.Frag} {tg : Expr} (it : Addr) (lo : Int) (n : Nat) : Turn P w K tg (Itr lo n) [it] it (fun i h => IsRangeIter h it (lo + (i : Nat) * 1) ((n : Int) - (i : Nat)) 1) where
  mem := by simp
  obj := fun i h st b hb => by
    have e : b = it := by simpa using hb
    subst e
    exact ⟨_, st, fun v z => by
      have z' : Data.fields _ = Data.cell v := z
      cases z'⟩
  keep := fun i h h' st k => k it (by simp) _ st
  item := by
    intro X hP hw hK hc i pins s σ H E I hf st hg
    subst hP hw hK
    obtain ⟨f0, f1, f2, f3, f4, f5⟩ := hf it (by simp)
    have W := Walks.range (prog := X.prog) (w := X.w) (I.ok.hd hc) it lo 1 n
    refine W.item i s _ _ hg st fun v h' tk hv st' kk => ?_
    obtain ⟨t, rfl⟩ := hv
    have I1 : Inv X pins σ H { s with heap := h', toks := tk } := I.turned (fun b o hb e => kk b o (by simpa using hb) e) f0 f1 f3 f4 f5
    refine ⟨_, rfl, go_of (s := { s with heap := h', toks := tk }) (n := "range_iterator") st' rfl rfl (by decide) ⟨.int (lo + i), H, I1, ⟨t, ?_⟩, ⟨rfl, rfl⟩, st', fun b hb => (hf b hb).1⟩⟩
    rw [Int.mul_one]
  done := by
    intro X hP hw hK hc i pins s σ H E I hf st hg
    subst hP hw hK
    obtain ⟨f0, f1, f2, f3, f4, f5⟩ := hf it (by simp)
    exact wpAny_pyNext_range_end (I.ok.hd hc) st (by have : n ≤ i := hg; omega) fun h' eb => ⟨rfl, I.turned (t' := s.toks) (fun b o hb e => eb b o hb e) f0 f1 f3 f4 f5⟩
  self := fun _ _ _ _ _ st h => wpAny_pyIter_rangeiter st h
end L2
namespace L2
open PySem PySem.Spec PyProof.Rows
section
variable {X : Cx} {tg : Expr}
def iList (K : PySem.W.Frag) (tl : TE) : TI := fun σ H R => tl σ H fun x H1 => ∃ a, x = .ref a ∧ (∃ xs, SqL K H1 a xs) ∧ R (Itl K a) H1
theorem pi_list {l : Expr} {tl : TE} (hl : PE X l tl) : PI X tg l (iList X.K tl) := by
  intro pins s σ H R I h
  refine thn (hl pins s σ H _ I h) fun v s1 ⟨x, H1, I1, r1, q1⟩ => ?_
  obtain ⟨a, e, ⟨xs, hq⟩, q⟩ := q1
  subst e
  cases r1
  obtain ⟨its, rv, p, hz⟩ := I1.list hq
  refine wpAny_pyIter_list p.isList ?_
  refine ⟨s1.heap.objs.size, [s1.heap.objs.size], _, _, H1, rfl, I1.kept (t' := s1.toks) fun b o e => Heap.get?_push_of_some _ e, turn_list a _, ⟨_, Heap.get?_push_size _ rfl, rfl, rfl⟩, fun b hb => ?_, q⟩
  have e : b = s1.heap.objs.size := by simpa using hb
  subst e
  exact I1.fpOk (Nat.le_refl _) (I1.hok.fresh (Nat.le_refl _))
theorem range_it {pins : List (Addr × Obj)} {σ : St} {H : Hp} {s : Shared} {R : It → Hp → Prop} {E : Value → Shared → Prop} {lo hi : Int} {t u v : Tok} {tk : Nat} (I : Inv X pins σ H s) (h1 : -(2 ^ 62) ≤ lo) (h2 : lo < 2 ^ 62) (h3 : -(2 ^ 62) ≤ hi) (h4 : hi < 2 ^ 62)
    (q : R (Itr lo (hi - lo).toNat) H) : wpAny (model X.prog X.w) X.A (pyIter (.ref s.heap.objs.size)) (PIE X pins σ tg R) E { s with heap := s.heap.push { cls := .type "range", data := .fields #[.int lo t, .int hi u, .int 1 v] }, toks := tk } := by
  refine wpAny_pyIter_range (IsRange.new ..) (small_one h1 h2 h3 h4) ?_
  have I1 : Inv X pins σ H { s with heap := s.heap.push { cls := .type "range", data := .fields #[.int lo t, .int hi u, .int 1 v] }, toks := tk } := I.kept fun b o e => Heap.get?_push_of_some _ e
  refine ⟨(s.heap.push { cls := .type "range", data := .fields #[.int lo t, .int hi u, .int 1 v] }).objs.size, [(s.heap.push { cls := .type "range", data := .fields #[.int lo t, .int hi u, .int 1 v] }).objs.size], _, _, H, rfl,
    I1.kept (t' := tk) fun b o e => Heap.get?_push_of_some _ e, turn_range _ lo (hi - lo).toNat, ?_, fun b hb => ?_, q⟩
  · have e1 : lo + ((0 : Nat) : Int) * 1 = lo := by simp
    have e2 : (((hi - lo).toNat : Nat) : Int) - ((0 : Nat) : Int) = Builtin.Range.rangeSize lo hi 1 := by rw [rangeSize_one]; split <;> omega
    show IsRangeIter _ _ (lo + ((0 : Nat) : Int) * 1) ((((hi - lo).toNat : Nat) : Int) - ((0 : Nat) : Int)) 1
    rw [e1, e2]
    exact Heap.get?_push_size _ rfl
  · have e : b = (s.heap.push { cls := .type "range", data := .fields #[.int lo t, .int hi u, .int 1 v] }).objs.size := by simpa using hb
    subst e
    exact I1.fpOk (Nat.le_refl _) (I1.hok.fresh (Nat.le_refl _))
def iRng1 (ta : TA) : TI := fun σ H R => ta σ H fun vs H1 => ∃ j : Int, vs = [.int j] ∧ -(2 ^ 62) ≤ j ∧ j < 2 ^ 62 ∧ R (Itr 0 j.toNat) H1
def iRng2 (ta : TA) : TI := fun σ H R => ta σ H fun vs H1 => ∃ i j : Int, vs = [.int i, .int j] ∧ (-(2 ^ 62) ≤ i ∧ i < 2 ^ 62 ∧ -(2 ^ 62) ≤ j ∧ j < 2 ^ 62) ∧ R (Itr i (j - i).toNat) H1
theorem pi_range1 {a : Expr} {ta : TA} {p pos : Pos} (hg : Gl X "range") (hm : X.mg "range" = none) (ha : PA X [a] ta) (hs : starEach [a] X.env = [(false, eval a X.env)] := by rfl) : PI X tg (.Call (.Name "range" p) [a] [] pos) (iRng1 ta) := by
  intro pins s σ H R I h
  refine Call_ (ld_blt I hg hm boot_range (PyProof.Rows.callWith_type1 (thn (ha pos pins s σ H _ I h) fun us s1 ⟨vs, H1, I1, r1, q1⟩ => ?_) hs rfl))
  obtain ⟨j, e, q1, q2, q⟩ := q1
  subst e
  cases r1 with
  | cons r rr =>
    cases rr
    obtain ⟨t, rfl⟩ := r
    exact call_range_1 (range_it I1 (by omega) (by omega) q1 q2 (by simpa using q))
theorem pi_range2 {a b : Expr} {ta : TA} {p pos : Pos} (hg : Gl X "range") (hm : X.mg "range" = none) (ha : PA X [a, b] ta) (hs : starEach [a, b] X.env = [(false, eval a X.env), (false, eval b X.env)] := by rfl) (hs2 : starEach [b] X.env = [(false, eval b X.env)] := by rfl) :
    PI X tg (.Call (.Name "range" p) [a, b] [] pos) (iRng2 ta) := by
  intro pins s σ H R I h
  refine Call_ (ld_blt I hg hm boot_range (PyProof.Rows.callWith_type1 (thn (ha pos pins s σ H _ I h) fun us s1 ⟨vs, H1, I1, r1, q1⟩ => ?_) (by rw [hs, hs2]) (by rw [hs2]; rfl)))
  obtain ⟨i, j, e, ⟨q1, q2, q3, q4⟩, q⟩ := q1
  subst e
  cases r1 with
  | cons r rr =>
    cases rr with
    | cons r' rr =>
      cases rr
      obtain ⟨t, rfl⟩ := r
      obtain ⟨t', rfl⟩ := r'
      exact call_range_2 (range_it I1 q1 q2 q3 q4 q)
def tFor (wi : TI) (g : TG) (tb : TS) : TS := fun D σ H => wi σ H fun J H1 => ∃ W : Nat → Nat → St → Hp → Prop, (∃ m, W 0 m σ H1) ∧ ∀ i m σ H, W i m σ H →
  (J.stop i H ∧ D.nx σ H) ∨ (J.go i H ∧ ∃ N : St → Hp → Prop, (∀ σ' H', N σ' H' → ∃ m', m' < m ∧ W (i + 1) m' σ' H') ∧ ∀ x H', J.yld i H x H' → g x σ H' fun σ2 H2 => tb { D with nx := N, ct := N, bk := D.nx } σ2 H2)
def pinsAt (fp : List Addr) (h : Heap) : List (Addr × Obj) := fp.filterMap fun b => (h.get? b).map fun o => (b, o)
theorem mem_pinsAt {fp : List Addr} {h : Heap} {b : Addr} {o : Obj} (hb : b ∈ fp) (e : h.get? b = some o) : (b, o) ∈ pinsAt fp h := List.mem_filterMap.mpr ⟨b, hb, by rw [e]; rfl⟩
theorem of_pinsAt {fp : List Addr} {h : Heap} {p : Addr × Obj} (hp : p ∈ pinsAt fp h) : p.1 ∈ fp ∧ h.get? p.1 = some p.2 := by
  obtain ⟨b, hb, e⟩ := List.mem_filterMap.mp hp
  cases q : h.get? b with
  | none => rw [q] at e; cases e
  | some o =>
    rw [q] at e
    have e' : (b, o) = p := Option.some.inj e
    subst e'
    exact ⟨hb, q⟩
theorem Inv.pinned {pins : List (Addr × Obj)} {σ : St} {H : Hp} {s : Shared} {fp : List Addr} (I : Inv X pins σ H s) (hf : ∀ b ∈ fp, FpOk X pins H b) (ho : ∀ b ∈ fp, ∃ o, s.heap.get? b = some o ∧ ∀ v, o.data ≠ .cell v) : Inv X (pins ++ pinsAt fp s.heap) σ H s :=
  I.pins_of fun p hp => (List.mem_append.mp hp).elim (fun z => I.pin p (List.mem_append_right _ z)) fun z => by
    obtain ⟨hb, e⟩ := of_pinsAt z
    obtain ⟨f0, f1, f2, _⟩ := hf p.1 hb
    obtain ⟨o, e', d⟩ := ho p.1 hb
    rw [e] at e'; cases e'
    exact ⟨e, f0, f1, f2, d⟩
theorem Inv.unpinned {pins pl : List (Addr × Obj)} {σ : St} {H : Hp} {s : Shared} (I : Inv X (pins ++ pl) σ H s) : Inv X pins σ H s := I.pins_of fun p hp => I.pin p (List.mem_append_right _ (List.mem_append_left _ hp))
theorem ps_for {iter : Expr} {body : List Stmt} {wi : TI} {g : TG} {tb : TS} {pos : Pos} (hp : PassesOwn (model X.prog X.w) X.A X.env X.xe) (hc : X.calm = true) (hi : PI X tg iter wi) (hg : PG X tg g) (hb : PSs X body tb)
    (hs : ∀ x, foldedSetIterable iter X.env x = pure x := by intro _; rfl) : PS X (.For tg iter body [] pos) (tFor wi g tb) := by
  intro pins s σ H D I h
  refine wpAny_For (thn (hi pins s σ H _ I h) fun v s1 h1 => thn h1 fun itv s2 h2 => ?_) hs
  obtain ⟨it, fp, tn, J, H2, e, I2, T, st2, f2, W, ⟨m0, w0⟩, turn⟩ := h2
  subst e
  have stat : ∀ {H' : Hp}, (∀ b ∈ fp, H' b = none) → ∀ b ∈ fp, FpOk X pins H' b := fun hn b hb => ⟨hn b hb, (f2 b hb).2⟩
  refine codeAny_forLoop_any (fun n s' => ∃ i σ' H', Inv X pins σ' H' s' ∧ tn i s'.heap ∧ (∀ b ∈ fp, H' b = none) ∧ W i n σ' H') ?_ m0 ⟨0, σ, H2, I2, st2, fun b hb => (f2 b hb).1, w0⟩
  rintro n s3 ⟨i, σ3, H3, I3, st3, fr3, w3⟩
  rcases turn i n σ3 H3 w3 with ⟨stop, qn⟩ | ⟨go, N, hN, step⟩
  · refine wpAny_passesOwn hp (thn (T.done X rfl rfl rfl hc i pins s3 σ3 H3 X.xe I3 (stat fr3) st3 stop) fun r s4 ⟨hr, I4⟩ => ?_)
    subst hr
    exact wpAny_execs_nil ⟨σ3, H3, I4, qn⟩
  · refine wpAny_passesOwn hp (thn (T.item X rfl rfl rfl hc i pins s3 σ3 H3 X.xe I3 (stat fr3) st3 go) fun r s4 ⟨u, hr, h4⟩ => ?_)
    subst hr
    refine wpAny_passesOwn hp (thn h4 fun _ s5 ⟨x, H5, I5, r5, y5, st5, fr5⟩ => ?_)
    have I5' := I5.pinned (stat fr5) (T.obj _ _ st5)
    refine wpAny_passesOwn hp (thn (hg _ s5 σ3 H5 x u _ I5' r5 (step x H5 y5)) fun _ s6 ⟨σ6, H6, I6, q6⟩ => ?_)
    refine wpAny_passesOwn hp (thn (hb _ s6 σ6 H6 _ I6 q6) fun f s7 q7 => ?_)
    have again : ∀ {σ7 : St} {H7 : Hp}, Inv X (pins ++ pinsAt fp s5.heap) σ7 H7 s7 → N σ7 H7 → ∃ m, m < n ∧ ∃ i σ' H', Inv X pins σ' H' s7 ∧ tn i s7.heap ∧ (∀ b ∈ fp, H' b = none) ∧ W i m σ' H' := fun {σ7 H7} I7 n7 => by
      obtain ⟨m', hm, w7⟩ := hN σ7 H7 n7
      refine ⟨m', hm, i + 1, σ7, H7, I7.unpinned, T.keep _ _ _ st5 fun b hb o e => (I7.pin (b, o) (List.mem_append_right _ (List.mem_append_right _ (mem_pinsAt hb e)))).1, fun b hb => ?_, w7⟩
      obtain ⟨o, e, d⟩ := T.obj _ _ st5 b hb
      exact (I7.pin (b, o) (List.mem_append_right _ (List.mem_append_right _ (mem_pinsAt hb e)))).2.1
    cases f with
    | next => obtain ⟨σ7, H7, I7, n7⟩ := q7; exact again I7 n7
    | cont => obtain ⟨σ7, H7, I7, n7⟩ := q7; exact again I7 n7
    | brk => obtain ⟨σ7, H7, I7, q7⟩ := q7; exact ⟨σ7, H7, I7.unpinned, q7⟩
    | ret v => obtain ⟨x7, σ7, H7, I7, r7, q7⟩ := q7; exact ⟨x7, σ7, H7, I7.unpinned, r7, q7⟩
end
theorem for_range {lo : Int} {n : Nat} {g : TG} {tb : TS} {D : Ends} {σ : St} {H : Hp} (Pv : Nat → St → Hp → Prop) (h0 : Pv 0 σ H)
    (hs : ∀ i σ H, i < n → Pv i σ H → g (.int (lo + i)) σ H fun σ2 H2 => tb { D with nx := Pv (i + 1), ct := Pv (i + 1), bk := D.nx } σ2 H2) (hd : ∀ σ H, Pv n σ H → D.nx σ H) :
    ∃ W : Nat → Nat → St → Hp → Prop, (∃ m, W 0 m σ H) ∧ ∀ i m σ H, W i m σ H →
      ((Itr lo n).stop i H ∧ D.nx σ H) ∨ ((Itr lo n).go i H ∧ ∃ N : St → Hp → Prop, (∀ σ' H', N σ' H' → ∃ m', m' < m ∧ W (i + 1) m' σ' H') ∧ ∀ x H', (Itr lo n).yld i H x H' → g x σ H' fun σ2 H2 => tb { D with nx := N, ct := N, bk := D.nx } σ2 H2) := by
  refine ⟨fun i m σ H => m = n - i ∧ i ≤ n ∧ Pv i σ H, ⟨n, by simp, Nat.zero_le _, h0⟩, ?_⟩
  rintro i m σ H ⟨rfl, hi, p⟩
  by_cases hlt : i < n
  · refine .inr ⟨hlt, Pv (i + 1), fun σ' H' p' => ⟨n - (i + 1), by omega, rfl, hlt, p'⟩, fun x H' y => ?_⟩
    obtain ⟨e, y⟩ := y
    subst e y
    exact hs i σ _ hlt p
  · have e : i = n := by omega
    subst e
    exact .inl ⟨Nat.le_refl _, hd σ H p⟩
end L2
namespace L2
open PySem PySem.Spec PyProof.Rows
abbrev R2 := V → V → Hp → VK → Prop
def OpR (X : Cx) (f : Value → Value → Sem Value) (r : R2) : Prop :=
  ∀ (pins : List (Addr × Obj)) (s : Shared) (σ : St) (H : Hp) (x y : V) (v u : Value) (Q : VK), Inv X pins σ H s → RelV x v → RelV y u → r x y H Q →
    wpAny (model X.prog X.w) X.A (f v u) (EP X pins σ Q) X.xe s
def CallR (X : Cx) (f : Value) (r : List V → Hp → VK → Prop) : Prop :=
  ∀ (pins : List (Addr × Obj)) (s : Shared) (σ : St) (H : Hp) (xs : List V) (us : List Value) (Q : VK), Inv X pins σ H s → Vals xs us → r xs H Q →
    wpAny (model X.prog X.w) X.A (call f us) (EP X pins σ Q) X.xe s
def TruR (X : Cx) (r : V → Hp → (Bool → Hp → Prop) → Prop) : Prop :=
  ∀ (pins : List (Addr × Obj)) (s : Shared) (σ : St) (H : Hp) (x : V) (v : Value) (Q : Bool → Hp → Prop), Inv X pins σ H s → RelV x v → r x H Q →
    wpAny (model X.prog X.w) X.A (truthy v) (TP X pins σ Q) X.xe s
def tOp (r : R2) (ta tb : TE) : TE := fun σ H Q => ta σ H fun x H1 => tb σ H1 fun y H2 => r x y H2 Q
def rI (C : Int → Int → Prop) (g : Int → Int → V) : R2 := fun x y H Q => ∃ i j, x = .int i ∧ y = .int j ∧ C i j ∧ Q (g i j) H
def rI0 (g : Int → Int → V) : R2 := fun x y H Q => ∃ i j, x = .int i ∧ y = .int j ∧ Q (g i j) H
section
variable {X : Cx} {a b c : Expr} {ta tb tc : TE} {pos : Pos}
theorem binT (ha : PE X a ta) (hb : PE X b tb) {pins : List (Addr × Obj)} {s : Shared} {σ : St} {H : Hp} {R : V → V → Hp → Prop} (I : Inv X pins σ H s)
    (h : ta σ H fun x H1 => tb σ H1 fun y H2 => R x y H2) {Q : Value → Shared → Prop} {f : Value → Value → Sem Value}
    (hf : ∀ v u s2 x y H2, Inv X pins σ H2 s2 → RelV x v → RelV y u → R x y H2 → wpAny (model X.prog X.w) X.A (f v u) Q X.xe s2) :
    wpAny (model X.prog X.w) X.A (eval a X.env) (fun v s₁ => wpAny (model X.prog X.w) X.A (eval b X.env) (fun u s₂ => wpAny (model X.prog X.w) X.A (f v u) Q X.xe s₂) X.xe s₁) X.xe s := by
  refine thn (ha pins s σ H _ I h) fun v s1 ⟨x, H1, I1, r1, q1⟩ => ?_
  refine thn (hb pins s1 σ H1 _ I1 q1) fun u s2 ⟨y, H2, I2, r2, q2⟩ => ?_
  exact hf v u s2 x y H2 I2 r1 r2 q2
theorem pe_op {op : Operator} {r : R2} (ho : OpR X (binaryOp op) r) (ha : PE X a ta) (hb : PE X b tb) : PE X (.BinOp a op b pos) (tOp r ta tb) := by
  intro pins s σ H Q I h
  exact wpAny_BinOp (binT ha hb I h fun v u s2 x y H2 I2 rx ry q => ho pins s2 σ H2 x y v u Q I2 rx ry q)
theorem opI {f : Value → Value → Sem Value} {C : Int → Int → Prop} {g : Int → Int → Int}
    (rule : ∀ (i j : Int) (t u : Tok) (s : Shared) (Q : Value → Shared → Prop) (E : Value → Shared → Prop), C i j → Q (.int (g i j) s.toks) { s with toks := s.toks + 1 } → wpAny (model X.prog X.w) X.A (f (.int i t) (.int j u)) Q E s) :
    OpR X f (rI C fun i j => .int (g i j)) := by
  intro pins s σ H x y v u Q I rx ry h
  obtain ⟨i, j, rfl, rfl, hc, q⟩ := h
  obtain ⟨t, rfl⟩ := rx
  obtain ⟨t', rfl⟩ := ry
  exact rule i j t t' s _ _ hc ⟨.int (g i j), H, I.tok _, ⟨_, rfl⟩, q⟩
theorem opI0 {f : Value → Value → Sem Value} {g : Int → Int → Int}
    (rule : ∀ (i j : Int) (t u : Tok) (s : Shared) (Q : Value → Shared → Prop) (E : Value → Shared → Prop), Q (.int (g i j) s.toks) { s with toks := s.toks + 1 } → wpAny (model X.prog X.w) X.A (f (.int i t) (.int j u)) Q E s) :
    OpR X f (rI0 fun i j => .int (g i j)) := by
  intro pins s σ H x y v u Q I rx ry h
  obtain ⟨i, j, rfl, rfl, q⟩ := h
  obtain ⟨t, rfl⟩ := rx
  obtain ⟨t', rfl⟩ := ry
  exact rule i j t t' s _ _ ⟨.int (g i j), H, I.tok _, ⟨_, rfl⟩, q⟩
theorem opB0 {f : Value → Value → Sem Value} {g : Int → Int → Bool}
    (rule : ∀ (i j : Int) (t u : Tok) (s : Shared) (Q : Value → Shared → Prop) (E : Value → Shared → Prop), Q (.bool (g i j)) s → wpAny (model X.prog X.w) X.A (f (.int i t) (.int j u)) Q E s) :
    OpR X f (rI0 fun i j => .bl (g i j)) := by
  intro pins s σ H x y v u Q I rx ry h
  obtain ⟨i, j, rfl, rfl, q⟩ := h
  obtain ⟨t, rfl⟩ := rx
  obtain ⟨t', rfl⟩ := ry
  exact rule i j t t' s _ _ ⟨.bl (g i j), H, I, rfl, q⟩
def CMul (i j : Int) : Prop := (-(2 ^ 64) < i ∧ i < 2 ^ 64) ∨ (-(2 ^ 64) < j ∧ j < 2 ^ 64)
theorem CMul.ok {i j : Int} (h : CMul i j) : IntMulOk i j := by
  rcases h with ⟨h1, h2⟩ | ⟨h1, h2⟩
  · exact .of_left (intBits_le_64 h1 h2)
  · exact .of_right (intBits_le_64 h1 h2)
theorem op_add : OpR X (binaryOp .Add) (rI0 fun i j => .int (i + j)) := opI0 fun _ _ _ _ _ _ _ q => add_int q
theorem op_sub : OpR X (binaryOp .Sub) (rI0 fun i j => .int (i - j)) := opI0 fun _ _ _ _ _ _ _ q => sub_int q
theorem op_mod : OpR X (binaryOp .Mod) (rI (fun _ j => 0 < j) fun i j => .int (i % j)) := opI fun i j _ _ _ _ _ hc q => by
  have h1 : (0 : Int) < j := hc
  exact mod_int' (by omega) (by rw [Int.fmod_eq_emod_of_nonneg i (by omega)]; exact q)
end
def scal : V → V → Bool
  | .non, .non => true | .non, .int _ => true | .int _, .non => true | .non, .bl _ => true | .bl _, .non => true | .non, .str _ => true | .str _, .non => true
  | .int _, .int _ => true | .bl _, .bl _ => true | .str _, .str _ => true | .byt _, .byt _ => true
  | .int _, .str _ => true | .str _, .int _ => true | .bl _, .str _ => true | .str _, .bl _ => true
  | _, _ => false
def rEq : R2 := fun x y H Q => scal x y = true ∧ Q (.bl (decide (x = y))) H
def rNe : R2 := fun x y H Q => scal x y = true ∧ Q (.bl (!decide (x = y))) H
theorem dec_int {i j : Int} : decide (V.int i = V.int j) = (i == j) := by
  rw [Bool.eq_iff_iff]
  simp
theorem dec_bl {i j : Bool} : decide (V.bl i = V.bl j) = (i == j) := by
  rw [Bool.eq_iff_iff]
  simp
theorem dec_str {i j : Str} : decide (V.str i = V.str j) = (i == j) := by
  rw [Bool.eq_iff_iff]
  simp
theorem dec_byt {i j : Array UInt8} : decide (V.byt i = V.byt j) = (i.toList == j.toList) := by
  rw [Bool.eq_iff_iff]
  cases i
  cases j
  simp
section
variable {X : Cx} {a b c : Expr} {ta tb tc : TE} {pos : Pos}
theorem fin_bl {pins : List (Addr × Obj)} {σ : St} {H : Hp} {s : Shared} {Q : VK} {k k' : Bool} (I : Inv X pins σ H s) (q : Q (.bl k) H) (e : k = k') : EP X pins σ Q (.bool k') s := by
  subst e
  exact ⟨.bl k, H, I, rfl, q⟩
theorem op_eq : OpR X (compareOp .Eq) rEq := by
  intro pins s σ H x y v u Q I rx ry h
  obtain ⟨hs, q⟩ := h
  cases x with
  | non =>
    cases rx
    cases y with
    | non => cases ry; exact PySem.EqNone.eq_none_none (fin_bl I q (by simp))
    | bl j => cases ry; exact PySem.EqNone.eq_none_bool (fin_bl I q (by simp))
    | int j => obtain ⟨t', rfl⟩ := ry; exact PySem.EqNone.eq_none_int (fin_bl I q (by simp))
    | str j => obtain ⟨t', rfl⟩ := ry; exact PySem.EqNone.eq_none_str (fin_bl I q (by simp))
    | _ => exact absurd (show false = true from hs) Bool.false_ne_true
  | bl i =>
    cases rx
    cases y with
    | non => cases ry; exact PySem.EqNone.eq_bool_none (fin_bl I q (by simp))
    | bl j => cases ry; exact eq_bool (fin_bl I q dec_bl)
    | str j => obtain ⟨t', rfl⟩ := ry; exact PySem.EqMixed.eq_bool_str (fin_bl I q (by simp))
    | _ => exact absurd (show false = true from hs) Bool.false_ne_true
  | int i =>
    obtain ⟨t, rfl⟩ := rx
    cases y with
    | non => cases ry; exact PySem.EqNone.eq_int_none (fin_bl I q (by simp))
    | int j => obtain ⟨t', rfl⟩ := ry; exact eq_int (fin_bl I q dec_int)
    | str j => obtain ⟨t', rfl⟩ := ry; exact PySem.EqMixed.eq_int_str (fin_bl I q (by simp))
    | _ => exact absurd (show false = true from hs) Bool.false_ne_true
  | str i =>
    obtain ⟨t, rfl⟩ := rx
    cases y with
    | non => cases ry; exact PySem.EqNone.eq_str_none (fin_bl I q (by simp))
    | bl j => cases ry; exact PySem.EqMixed.eq_str_bool (fin_bl I q (by simp))
    | int j => obtain ⟨t', rfl⟩ := ry; exact PySem.EqMixed.eq_str_int (fin_bl I q (by simp))
    | str j => obtain ⟨t', rfl⟩ := ry; exact eq_str (fin_bl I q dec_str)
    | _ => exact absurd (show false = true from hs) Bool.false_ne_true
  | byt i =>
    obtain ⟨t, rfl⟩ := rx
    cases y with
    | byt j => obtain ⟨t', rfl⟩ := ry; exact PySem.W.eq_bytes (fin_bl I q dec_byt)
    | _ => exact absurd (show false = true from hs) Bool.false_ne_true
  | _ => cases y <;> exact absurd (show false = true from hs) Bool.false_ne_true
theorem op_ne : OpR X (compareOp .NotEq) rNe := by
  intro pins s σ H x y v u Q I rx ry h
  obtain ⟨hs, q⟩ := h
  cases x with
  | non =>
    cases rx
    cases y with
    | non => cases ry; exact PySem.EqNone.ne_none_none (fin_bl I q (by simp))
    | bl j => cases ry; exact PySem.EqNone.ne_none_bool (fin_bl I q (by simp))
    | int j => obtain ⟨t', rfl⟩ := ry; exact PySem.EqNone.ne_none_int (fin_bl I q (by simp))
    | str j => obtain ⟨t', rfl⟩ := ry; exact PySem.EqNone.ne_none_str (fin_bl I q (by simp))
    | _ => exact absurd (show false = true from hs) Bool.false_ne_true
  | bl i =>
    cases rx
    cases y with
    | non => cases ry; exact PySem.EqNone.ne_bool_none (fin_bl I q (by simp))
    | bl j => cases ry; exact ne_bool (fin_bl I q (congrArg not dec_bl))
    | str j => obtain ⟨t', rfl⟩ := ry; exact PySem.EqMixed.ne_bool_str (fin_bl I q (by simp))
    | _ => exact absurd (show false = true from hs) Bool.false_ne_true
  | int i =>
    obtain ⟨t, rfl⟩ := rx
    cases y with
    | non => cases ry; exact PySem.EqNone.ne_int_none (fin_bl I q (by simp))
    | int j => obtain ⟨t', rfl⟩ := ry; exact ne_int (fin_bl I q (congrArg not dec_int))
    | str j => obtain ⟨t', rfl⟩ := ry; exact PySem.EqMixed.ne_int_str (fin_bl I q (by simp))
    | _ => exact absurd (show false = true from hs) Bool.false_ne_true
  | str i =>
    obtain ⟨t, rfl⟩ := rx
    cases y with
    | non => cases ry; exact PySem.EqNone.ne_str_none (fin_bl I q (by simp))
    | bl j => cases ry; exact PySem.EqMixed.ne_str_bool (fin_bl I q (by simp))
    | int j => obtain ⟨t', rfl⟩ := ry; exact PySem.EqMixed.ne_str_int (fin_bl I q (by simp))
    | str j => obtain ⟨t', rfl⟩ := ry; exact ne_str (fin_bl I q (congrArg not dec_str))
    | _ => exact absurd (show false = true from hs) Bool.false_ne_true
  | byt i =>
    obtain ⟨t, rfl⟩ := rx
    cases y with
    | byt j => obtain ⟨t', rfl⟩ := ry; exact PySem.W.ne_bytes (fin_bl I q (congrArg not dec_byt))
    | _ => exact absurd (show false = true from hs) Bool.false_ne_true
  | _ => cases y <;> exact absurd (show false = true from hs) Bool.false_ne_true
theorem op_lt : OpR X (compareOp .Lt) (rI0 fun i j => .bl (decide (i < j))) := opB0 fun _ _ _ _ _ _ _ q => lt_int q
theorem op_le : OpR X (compareOp .LtE) (rI0 fun i j => .bl (decide (i ≤ j))) := opB0 fun _ _ _ _ _ _ _ q => le_int q
theorem op_gt : OpR X (compareOp .Gt) (rI0 fun i j => .bl (decide (j < i))) := opB0 fun _ _ _ _ _ _ _ q => gt_int q
theorem op_ge : OpR X (compareOp .GtE) (rI0 fun i j => .bl (decide (j ≤ i))) := opB0 fun _ _ _ _ _ _ _ q => ge_int q
theorem op_isN : OpR X (compareOp .Is) (fun x y H Q => y = .non ∧ Q (.bl (decide (x = .non))) H) := by
  intro pins s σ H x y v u Q I rx ry h
  obtain ⟨rfl, q⟩ := h
  cases ry
  refine is_none_gen (fin_bl I q ?_)
  cases x <;> first
    | (cases rx; rfl)
    | (obtain ⟨t, rfl⟩ := rx; rfl)
theorem op_notN : OpR X (compareOp .IsNot) (fun x y H Q => y = .non ∧ Q (.bl (!decide (x = .non))) H) := by
  intro pins s σ H x y v u Q I rx ry h
  obtain ⟨rfl, q⟩ := h
  cases ry
  refine isnot_none_gen (fin_bl I q ?_)
  cases x <;> first
    | (cases rx; rfl)
    | (obtain ⟨t, rfl⟩ := rx; rfl)
theorem OpR.or {f : Value → Value → Sem Value} {r r' : R2} (h : OpR X f r) (h' : OpR X f r') : OpR X f (fun x y H Q => r x y H Q ∨ r' x y H Q) := by
  intro pins s σ H x y v u Q I rx ry q
  rcases q with q | q
  · exact h pins s σ H x y v u Q I rx ry q
  · exact h' pins s σ H x y v u Q I rx ry q
theorem nomark (b : Expr) {op : CmpOp} (h : op ≠ .In := by decide) (h2 : op ≠ .NotIn := by decide) : behindInMarks op b = false := by
  have e1 : (op == CmpOp.In) = false := by cases op <;> first | rfl | exact absurd rfl h
  have e2 : (op == CmpOp.NotIn) = false := by cases op <;> first | rfl | exact absurd rfl h2
  cases b <;> simp [behindInMarks, e1, e2]
theorem pe_cmpR {op : CmpOp} {r : R2} (ho : OpR X (compareOp op) r) (ha : PE X a ta) (hb : PE X b tb) (hm : behindInMarks op b = false) : PE X (.Compare a [op] [b] pos) (tOp r ta tb) := by
  intro pins s σ H Q I h
  exact wpAny_Compare1 (binT ha hb I h fun v u s2 x y H2 I2 rx ry q => ho pins s2 σ H2 x y v u Q I2 rx ry q) hm
def tTest (t : TE) : TT := fun σ H Q => t σ H fun x H' => ∃ k, x = .bl k ∧ Q k H'
theorem pt_cmpR {op : CmpOp} {r : R2} (ho : OpR X (compareOp op) r) (ha : PE X a ta) (hb : PE X b tb) (hm : behindInMarks op b = false) : PT X (.Compare a [op] [b] pos) (tTest (tOp r ta tb)) := by
  intro pins s σ H Q I h
  refine wpAny_isTrue_Compare1 (thn (ha pins s σ H _ I h) fun v s1 ⟨x, H1, I1, r1, q1⟩ => thn (hb pins s1 σ H1 _ I1 q1) fun u s2 ⟨y, H2, I2, r2, q2⟩ =>
    thn (ho pins s2 σ H2 x y v u _ I2 r1 r2 q2) fun c s3 ⟨z, H3, I3, r3, k, e, q3⟩ => ?_) hm
  subst e
  cases r3
  exact wpAny_truthy_bool ⟨H3, I3, q3⟩
def tChain (r r' : R2) (ta tb tc : TE) : TE := fun σ H Q => ta σ H fun x H1 => tb σ H1 fun y H2 => r x y H2 fun z H3 => ∃ k, z = .bl k ∧
  (if k = true then tc σ H3 fun w' H4 => r' y w' H4 Q else Q (.bl false) H3)
theorem pe_chain {op op' : CmpOp} {r r' : R2} (ho : OpR X (compareOp op) r) (ho' : OpR X (compareOp op') r') (ha : PE X a ta) (hb : PE X b tb) (hc : PE X c tc)
    (hm : lastMarks [op, op'] [b, c] = false := by with_unfolding_all rfl) : PE X (.Compare a [op, op'] [b, c] pos) (tChain r r' ta tb tc) := by
  intro pins s σ H Q I h
  refine Compare_chain (thn (ha pins s σ H _ I h) fun v s1 ⟨x, H1, I1, r1, q1⟩ => chain_link (thn (hb pins s1 σ H1 _ I1 q1) fun u s2 ⟨y, H2, I2, r2, q2⟩ =>
    thn (ho pins s2 σ H2 x y v u _ I2 r1 r2 q2) fun d s3 ⟨z, H3, I3, r3, k, e, q3⟩ => ?_)) hm
  subst e
  cases r3
  refine wpAny_truthy_bool ?_
  cases k with
  | false => exact ite_ff ⟨.bl false, H3, I3, rfl, q3⟩
  | true => exact ite_tt (chain_last (thn (hc pins s3 σ H3 _ I3 q3) fun w' s4 ⟨z', H4, I4, r4, q4⟩ => ho' pins s4 σ H4 y z' u w' Q I4 r2 r4 q4))
theorem pt_chain {op op' : CmpOp} {r r' : R2} (ho : OpR X (compareOp op) r) (ho' : OpR X (compareOp op') r') (ha : PE X a ta) (hb : PE X b tb) (hc : PE X c tc)
    (hm : lastMarks [op, op'] [b, c] = false := by with_unfolding_all rfl) : PT X (.Compare a [op, op'] [b, c] pos) (tTest (tChain r r' ta tb tc)) := by
  intro pins s σ H Q I h
  refine isTrue_chain (thn (ha pins s σ H _ I h) fun v s1 ⟨x, H1, I1, r1, q1⟩ => test_link (thn (hb pins s1 σ H1 _ I1 q1) fun u s2 ⟨y, H2, I2, r2, q2⟩ =>
    thn (ho pins s2 σ H2 x y v u _ I2 r1 r2 q2) fun d s3 ⟨z, H3, I3, r3, k, e, q3⟩ => ?_)) hm
  subst e
  cases r3
  refine wpAny_truthy_bool ?_
  cases k with
  | false =>
    obtain ⟨k', e', q'⟩ := q3
    cases e'
    exact ite_ff ⟨H3, I3, q'⟩
  | true =>
    refine ite_tt (test_last (thn (hc pins s3 σ H3 _ I3 q3) fun w' s4 ⟨z', H4, I4, r4, q4⟩ => thn (ho' pins s4 σ H4 y z' u w' _ I4 r2 r4 q4) fun d' s5 ⟨z2, H5, I5, r5, k2, e2, q5⟩ => ?_))
    subst e2
    cases r5
    exact wpAny_truthy_bool ⟨H5, I5, q5⟩
def TruV (K : PySem.W.Frag) (x : V) (H : Hp) (k : Bool) : Prop :=
  match x with
  | .non => k = false
  | .bl b => k = b
  | .int i => k = (i != 0)
  | .str y => y.length ≤ sizeLine ∧ k = ((y.length : Int) != 0)
  | .byt y => y.size ≤ sizeLine ∧ k = ((y.size : Int) != 0)
  | .ref p => (∃ xs, SqL K H p xs ∧ k = !xs.isEmpty) ∨ (∃ xs, SqT K H p xs ∧ k = !xs.isEmpty) ∨ ∃ kvs, H p = some (.dK kvs) ∧ k = !kvs.isEmpty
  | _ => False
theorem isEmpty_kv {κ : Type} {kvs : List (κ × V)} {vs : List (κ × Value)} (r : KV kvs vs) : (!vs.isEmpty) = !kvs.isEmpty := by
  cases r <;> rfl
theorem isEmpty_of {xs : List V} {its : List Value} (r : Vals xs its) : (!its.toArray.isEmpty) = !xs.isEmpty := by
  cases r <;> simp
theorem line63 : (sizeLine : Nat) < 2 ^ 63 := by rw [sizeLine_eq]; decide
theorem tru_ok : TruR X (fun x H Q => ∃ k, TruV X.K x H k ∧ Q k H) := by
  intro pins s σ H x v Q I rx h
  obtain ⟨k, e, q⟩ := h
  have hl := line63
  have hs : sizeLine = 16777216 := sizeLine_eq
  cases x with
  | non =>
    cases rx
    have e' : k = false := e
    subst e'
    exact truthy_none ⟨H, I, q⟩
  | bl b =>
    cases rx
    have e' : k = b := e
    subst e'
    exact wpAny_truthy_bool ⟨H, I, q⟩
  | int i =>
    obtain ⟨t, rfl⟩ := rx
    have e' : k = (i != 0) := e
    subst e'
    exact PySem.P.truthy_int ⟨H, I, q⟩
  | str y =>
    obtain ⟨t, rfl⟩ := rx
    obtain ⟨hy, e'⟩ : y.length ≤ sizeLine ∧ k = ((y.length : Int) != 0) := e
    subst e'
    exact PySem.P.truthy_str (by omega) ⟨H, I.tok _, q⟩
  | byt y =>
    obtain ⟨t, rfl⟩ := rx
    obtain ⟨hy, e'⟩ : y.size ≤ sizeLine ∧ k = ((y.size : Int) != 0) := e
    subst e'
    exact PySem.W.truthy_bytes (by omega) ⟨H, I.tok _, q⟩
  | ref p =>
    cases rx
    have e' : (∃ xs, SqL X.K H p xs ∧ k = !xs.isEmpty) ∨ (∃ xs, SqT X.K H p xs ∧ k = !xs.isEmpty) ∨ ∃ kvs, H p = some (.dK kvs) ∧ k = !kvs.isEmpty := e
    rcases e' with ⟨xs, hx, e'⟩ | ⟨xs, hx, e'⟩ | ⟨kvs, hx, e'⟩
    · subst e'
      obtain ⟨its, r, pl, hz⟩ := I.list hx
      have hlen := r.length
      exact wpAny_truthy_list pl.isList (by simp only [List.size_toArray]; omega) ⟨H, I.tok _, by rw [isEmpty_of r]; exact q⟩
    · subst e'
      obtain ⟨its, r, pl, hz⟩ := I.tuple hx
      have hlen := r.length
      exact truthy_tuple pl (by simp only [List.size_toArray]; omega) ⟨H, I.tok _, by rw [isEmpty_of r]; exact q⟩
    · subst e'
      obtain ⟨hz, hS, vs, r, m⟩ : kvs.length ≤ sizeLine ∧ (p == sysModules) = false ∧ ∃ vs, KV kvs vs ∧ s.heap.DictOf (mixKind X.prog X.w) p vs := I.hok p _ hx
      have hlen : kvs.length = vs.length := Paired.length r
      exact wpAny_truthy_dict hS m (by omega) ⟨H, I.tok _, by rw [isEmpty_kv r]; exact q⟩
  | _ => exact (show False from e).elim
theorem pt_truth (ha : PE X a ta) (he : ∀ whole, isTrue a X.env whole = (do let v ← whole; standAt a.pos; holding [v] (truthy v))) :
    PT X a (fun σ H Q => ta σ H fun x H' => ∃ k, TruV X.K x H' k ∧ Q k H') := by
  intro pins s σ H Q I h
  exact isTrue_plain (thn (ha pins s σ H _ I h) fun v s1 ⟨x, H1, I1, r1, q1⟩ => tru_ok pins s1 σ H1 x v Q I1 r1 q1) (he _)
theorem op_add_str : OpR X (binaryOp .Add) (fun x y H Q => ∃ i j, x = .str i ∧ y = .str j ∧ i.length + j.length ≤ sizeLine ∧ Q (.str (i ++ j)) H) := by
  intro pins s σ H x y v u Q I rx ry h
  obtain ⟨i, j, rfl, rfl, hz, q⟩ := h
  obtain ⟨t, rfl⟩ := rx
  obtain ⟨t', rfl⟩ := ry
  exact add_str (fun t' tk => ⟨.str (i ++ j), H, I.tok _, ⟨_, rfl⟩, q⟩) hz
theorem vals1 {x : V} {us : List Value} (r : Vals [x] us) : ∃ u, us = [u] ∧ RelV x u := by
  cases r with
  | cons r1 r2 => cases r2; exact ⟨_, rfl, r1⟩
theorem vals2 {x y : V} {us : List Value} (r : Vals [x, y] us) : ∃ u w', us = [u, w'] ∧ RelV x u ∧ RelV y w' := by
  cases r with
  | cons r1 r2 =>
    cases r2 with
    | cons r3 r4 => cases r4; exact ⟨_, _, rfl, r1, r3⟩
theorem call_min2 (hc : X.calm = true) : CallR X (.builtin "min") (fun xs H Q => ∃ i j, xs = [.int i, .int j] ∧ Q (.int (if j < i then j else i)) H) := by
  intro pins s σ H xs us Q I r h
  obtain ⟨i, j, rfl, q⟩ := h
  obtain ⟨u, w', rfl, ⟨t, rfl⟩, ⟨t', rfl⟩⟩ := vals2 r
  refine min_two_ints (I.ok.hd hc) fun h' tk k => ⟨_, H, I.kept k, ?_, q⟩
  by_cases hj : j < i
  · rw [if_pos hj, if_pos hj]; exact ⟨_, rfl⟩
  · rw [if_neg hj, if_neg hj]; exact ⟨_, rfl⟩
def LenV (K : PySem.W.Frag) (x : V) (H : Hp) (n : Nat) : Prop :=
  match x with
  | .str y => y.length ≤ sizeLine ∧ n = y.length
  | .byt y => y.size ≤ sizeLine ∧ n = y.size
  | .ref p => (∃ xs, SqL K H p xs ∧ n = xs.length) ∨ ∃ xs, SqT K H p xs ∧ n = xs.length
  | _ => False
theorem call_len : CallR X (.builtin "len") (fun xs H Q => ∃ x n, xs = [x] ∧ LenV X.K x H n ∧ Q (.int n) H) := by
  intro pins s σ H xs us Q I r h
  obtain ⟨x, n, rfl, e, q⟩ := h
  obtain ⟨u, rfl, rx⟩ := vals1 r
  have hl := line63
  have hs : sizeLine = 16777216 := sizeLine_eq
  cases x with
  | str y =>
    obtain ⟨t, rfl⟩ := rx
    obtain ⟨hy, e'⟩ : y.length ≤ sizeLine ∧ n = y.length := e
    subst e'
    exact len_str (by omega) ⟨.int _, H, I.tok _, ⟨_, rfl⟩, q⟩
  | byt y =>
    obtain ⟨t, rfl⟩ := rx
    obtain ⟨hy, e'⟩ : y.size ≤ sizeLine ∧ n = y.size := e
    subst e'
    exact PySem.W.len_bytes (by omega) ⟨.int _, H, I.tok _, ⟨_, rfl⟩, q⟩
  | ref p =>
    cases rx
    have e' : (∃ xs, SqL X.K H p xs ∧ n = xs.length) ∨ ∃ xs, SqT X.K H p xs ∧ n = xs.length := e
    rcases e' with ⟨xs, hx, e'⟩ | ⟨xs, hx, e'⟩
    · subst e'
      obtain ⟨its, r', pl, hz⟩ := I.list hx
      have hlen := r'.length
      exact Calls.call_len_list pl.isList (by simp only [List.size_toArray]; omega) ⟨.int xs.length, H, I.tok _, ⟨_, by simp only [List.size_toArray]; rw [hlen]⟩, q⟩
    · subst e'
      obtain ⟨its, r', pl, hz⟩ := I.tuple hx
      have hlen := r'.length
      exact len_tuple pl (by simp only [List.size_toArray]; omega) ⟨.int xs.length, H, I.tok _, ⟨_, by simp only [List.size_toArray]; rw [hlen]⟩, q⟩
  | _ => exact (show False from e).elim
end
end L2
namespace L2
open PySem PySem.Spec PyProof.Rows
structure ObjM (h : Heap) (x dx C : Addr) (mA : Str → Option Value) : Prop where
  obj : h.get? x = some (PySem.W.instObj C dx)
  ns : h.Ns1 dx mA
  ne : dx ≠ x
theorem lookIn_ns {h : Heap} {dx : Addr} {mA : Str → Option Value} (n : h.Ns1 dx mA) : ∃ od, h.get? dx = some od ∧ ∀ name, PySem.W.lookIn name od = some (mA name) := by
  obtain ⟨o, es, ep, ho, hd, hk, _, hm⟩ := n
  refine ⟨o, ho, fun name => ?_⟩
  have e := hm name
  unfold nsFind findBy at e
  rw [← Array.find?_toList] at e
  unfold PySem.W.lookIn
  rw [hd]
  dsimp only
  split
  · rename_i y q
    rw [q] at e
    exact congrArg some e
  · rename_i q
    rw [q] at e
    have a : es.toList.any (·.refKey) = false := by
      rw [List.any_eq_false]
      intro y hy
      obtain ⟨z, t, hkey⟩ := hk y (Array.mem_toList_iff.mp hy)
      simp [DictEntry.refKey, hkey]
    have a' : ¬ es.toList.any (·.refKey) = true := by rw [a]; exact Bool.false_ne_true
    rw [if_neg a']
    exact congrArg some e
theorem ObjM.look {h : Heap} {x dx C : Addr} {mA : Str → Option Value} (I : ObjM h x dx C mA) : ∃ od, PySem.W.InstAt h x (PySem.W.instObj C dx) C (some od) ∧ ∀ name, PySem.W.lookIn name od = some (mA name) :=
  let ⟨od, ho, hl⟩ := lookIn_ns I.ns
  ⟨od, ⟨I.obj, rfl, rfl, ho⟩, hl⟩
section
variable {prog : Program} {w : World} {A : Around} {E : Value → Shared → Prop} {s : Shared} {K : PySem.W.Frag} {x dx C f : Addr} {mA : Str → Option Value} {name : Str} {v : Value}
theorem get_map {expr : Bool} {Q : Value → Shared → Prop} (X : K.In s.heap) (I : ObjM s.heap x dx C mA) (hg : PySem.W.plainGet K C name = true) (hh : PySem.W.hasDictIn K C = true)
    (ha : PySem.W.findIn K (.ref C) name = some none) (hv : mA name = some v) (hv' : PySem.W.handedIn v = true) (h : Q v { s with toks := s.toks + 1 }) :
    wpAny (model prog w) A (getAttr (.ref x) name expr) Q E s := by
  obtain ⟨od, J, hl⟩ := I.look
  exact PySem.W.get_value X J (PySem.W.plainGet_of hg).1 (PySem.W.findObj_own hh ha rfl (by rw [hl, hv])) hv' h
theorem get_meth {pl : Sem Bool} {Q : Value × List Value → Shared → Prop} (X : K.In s.heap) (I : ObjM s.heap x dx C mA) (hg : PySem.W.plainGet K C name = true)
    (hf : PySem.W.findIn K (.ref C) name = some (some (.ref f))) (ht : PySem.W.isFn K (.ref f) = true) (hv : mA name = none) (h : Q (.ref f, [.ref x]) s) :
    wpAny (model prog w) A (getMethod (.ref x) name pl) Q E s := by
  obtain ⟨od, J, hl⟩ := I.look
  exact PySem.W.method_fn X J (PySem.W.plainGet_of hg).1 (PySem.W.plainGet_of hg).2 hf (beq_iff_eq.mp ht) (by show (PySem.W.lookIn name od).map (·.isSome) = some false; rw [hl, hv]; rfl) h
theorem set_map {ns : List Str} {Q : Unit → Shared → Prop} (X : K.In s.heap) (I : ObjM s.heap x dx C mA)
    (hs : PySem.W.findIn K (.ref C) "__setattr__" = some (some (.builtin "object.__setattr__"))) (hp : PySem.W.plainOver K C = true) (ht : PySem.W.takerIn K C name = some none) (hh : PySem.W.hasDictIn K C = true)
    (hw : PySem.Within mA ns) (hsz : ns.length ≤ sizeLine)
    (h : ∀ h', ObjM h' x dx C (fun y => if y = name then some v else mA y) → Heap.SameBut dx s.heap h' → Q () { s with heap := h', toks := s.toks + 2 }) :
    wpAny (model prog w) A (setAttr (.ref x) name v) Q E s := by
  obtain ⟨od, J, hl⟩ := I.look
  refine PySem.W.set_plain X J hs (PySem.W.osa_open (s := { s with toks := s.toks + 1 }) (r := none) X J hp ht fun b => ?_)
  obtain ⟨cd, hc, hd'⟩ := PySem.W.any_some hh
  have hx : s.heap.get? x = some ⟨.ref C, some dx, .plain, #[]⟩ := I.obj
  refine wpAny_bind (wpAny_pure (wpAny_bind (wpAny_bind (wpAny_loadPart hx (wpAny_bind (PySem.W.Looks.here (s := { s with toks := s.toks + 1 }) (PySem.W.looks_clsIn X hc) ?_))))))
  rw [hd']
  refine wpAny_pure (a := some dx) (wpAny_bind (wpAny_pure (wpAny_bind ?_)))
  refine wpAny_nsSet1 (s := { s with toks := s.toks + 1 }) I.ns fun h' hn2 hs2 => ?_
  obtain ⟨oD, esD, epD, hoD, hdD, hcD⟩ := hn2.count (PySem.Within.cons name v hw)
  refine wpAny_bind (wpAny_lookBehind hoD (by rw [hdD]; exact pastItsLine_dict (Nat.le_trans hcD (by rw [List.length_cons]; omega))) ?_)
  exact wpAny_pure (h _ ⟨(hs2.2 _ (Ne.symm I.ne)).trans I.obj, hn2, I.ne⟩ hs2)
theorem make_map {R : Result → Shared → Prop} {vs : List Value} {kw : List (Str × Value)} (X : K.In s.heap) (hm : PySem.W.makesIn K C = true)
    (hi : PySem.W.findIn K (.ref C) "__init__" = some (some (.ref f))) (hf : PySem.W.typeIn K (.ref f) = some (.type "function"))
    (h : codeAny (model prog w) (A.under (.builtin "type.__call__" ⟨.ref C :: vs, kw⟩)) (.call (.ref f) ⟨.ref (s.heap.objs.size + 1) :: vs, kw⟩) (PySem.W.InitBack (s.heap.objs.size + 1) R)
      { s with heap := (s.heap.push PySem.W.emptyDict).push (PySem.W.instObj C s.heap.objs.size) }) :
    codeAny (model prog w) A (.call (.ref C) ⟨vs, kw⟩) R s := by
  obtain ⟨hh, g, d, t, os⟩ := s
  exact PySem.W.make_core (PySem.W.makes_of X hm) (PySem.W.looks_findIn X hi) (fun self => PySem.W.bind_fn X self hf) (.inl rfl) h
end
def putF (f : Str) (v : V) : List (Str × V) → List (Str × V)
  | [] => [(f, v)]
  | (g, x) :: r => if g = f then (g, v) :: r else (g, x) :: putF f v r
theorem lookup_putF (f g : Str) (v : V) : ∀ fs : List (Str × V), (putF f v fs).lookup g = if g = f then some v else fs.lookup g
  | [] => by
    show List.lookup g [(f, v)] = _
    by_cases h : g = f
    · have hb : (g == f) = true := beq_iff_eq.mpr h
      simp only [List.lookup, hb, if_pos h]
    · have hb : (g == f) = false := beq_eq_false_iff_ne.mpr h
      simp only [List.lookup, hb, if_neg h]
  | (k, x) :: r => by
    have ih := lookup_putF f g v r
    rw [show putF f v ((k, x) :: r) = (if k = f then (k, v) :: r else (k, x) :: putF f v r) from rfl]
    by_cases hk : k = f
    · rw [if_pos hk]
      by_cases h : g = k
      · have hb : (g == k) = true := beq_iff_eq.mpr h
        simp only [List.lookup, hb, if_pos (h.trans hk)]
      · have hb : (g == k) = false := beq_eq_false_iff_ne.mpr h
        simp only [List.lookup, hb, if_neg (fun e : g = f => h (e.trans hk.symm))]
    · rw [if_neg hk]
      by_cases h : g = k
      · have hb : (g == k) = true := beq_iff_eq.mpr h
        simp only [List.lookup, hb, if_neg (fun e : g = f => hk (h.symm.trans e))]
      · have hb : (g == k) = false := beq_eq_false_iff_ne.mpr h
        simp only [List.lookup, hb]
        exact ih
theorem keys_putF (f : Str) (v : V) : ∀ fs : List (Str × V), f ∈ (putF f v fs).map (·.1) ∧ ∀ g, g ∈ fs.map (·.1) → g ∈ (putF f v fs).map (·.1)
  | [] => ⟨by simp [putF], fun g h => by simp at h⟩
  | (k, x) :: r => by
    obtain ⟨i1, i2⟩ := keys_putF f v r
    rw [show putF f v ((k, x) :: r) = (if k = f then (k, v) :: r else (k, x) :: putF f v r) from rfl]
    by_cases hk : k = f
    · rw [if_pos hk]
      subst hk
      exact ⟨by simp, fun g h => by simpa using h⟩
    · rw [if_neg hk]
      refine ⟨?_, fun g h => ?_⟩
      · rw [List.map_cons]
        exact List.mem_cons_of_mem _ i1
      · rw [List.map_cons] at h ⊢
        rcases List.mem_cons.mp h with e | e
        · exact List.mem_cons.mpr (.inl e)
        · exact List.mem_cons_of_mem _ (i2 g e)
theorem length_putF (f : Str) (v : V) : ∀ fs : List (Str × V), (putF f v fs).length ≤ fs.length + 1
  | [] => by simp [putF]
  | (k, x) :: r => by
    have ih := length_putF f v r
    rw [show putF f v ((k, x) :: r) = (if k = f then (k, v) :: r else (k, x) :: putF f v r) from rfl]
    by_cases hk : k = f
    · rw [if_pos hk, List.length_cons, List.length_cons]; omega
    · rw [if_neg hk, List.length_cons, List.length_cons]; omega
theorem RelO.some_of {v : V} {o : Option Value} (r : RelO (some v) o) : ∃ u, o = some u ∧ RelV v u := by
  cases o with
  | none => exact (show False from r).elim
  | some u => exact ⟨u, rfl, r⟩
theorem RelO.none_of {o : Option Value} (r : RelO none o) : o = none := by
  cases o with
  | none => rfl
  | some u => exact (show False from r).elim
theorem handed_of {v : V} {u : Value} (r : RelV v u) : PySem.W.handedIn u = true := by
  cases v with
  | non => cases (show u = Value.none from r); rfl
  | bl b => cases (show u = Value.bool b from r); rfl
  | int i => obtain ⟨t, e⟩ := (show ∃ t, u = Value.int i t from r); cases e; rfl
  | str x => obtain ⟨t, e⟩ := (show ∃ t, u = Value.str x t from r); cases e; rfl
  | byt b => obtain ⟨t, e⟩ := (show ∃ t, u = Value.bytes b t from r); cases e; rfl
  | flt b => obtain ⟨t, e⟩ := (show ∃ t, u = Value.float b t from r); cases e; rfl
  | ref a => cases (show u = Value.ref a from r); rfl
  | ty n => cases (show u = Value.type n from r); rfl
section
variable {P : Program} {w : World} {H H' : Hp} {h h' : Heap} {a C dx : Addr} {fs fs' : List (Str × V)}
theorem ins_get (hok : HOk P w H h) (e : H a = some (.ins C dx fs)) : ∃ mA, ObjM h a dx C mA ∧ (∀ f, RelO (fs.lookup f) (mA f)) ∧ PySem.Within mA (fs.map (·.1)) ∧ fs.length ≤ 1000 ∧ H dx = some (.own a) := by
  obtain ⟨d, z, ne, ob, mA, n, r, q⟩ := (show ObjOk P w H h a (.ins C dx fs) from hok a _ e)
  exact ⟨mA, ⟨ob, n, ne⟩, r, q, z, d⟩
end
structure Cls (K : PySem.W.Frag) (C : Addr) : Prop where
  pg : PySem.W.plainGet K C Str.empty = true
  hd : PySem.W.hasDictIn K C = true
  po : PySem.W.plainOver K C = true
  sa : PySem.W.findIn K (.ref C) "__setattr__" = some (some (.builtin "object.__setattr__"))
theorem Cls.get {K : PySem.W.Frag} {C : Addr} (c : Cls K C) (f : Str) : PySem.W.plainGet K C f = true := c.pg
def NoAttr (K : PySem.W.Frag) (C : Addr) (f : Str) : Prop := PySem.W.findIn K (.ref C) f = some none
theorem NoAttr.taker {K : PySem.W.Frag} {C : Addr} {f : Str} (n : NoAttr K C f) : PySem.W.takerIn K C f = some none := by
  unfold PySem.W.takerIn
  rw [show PySem.W.findIn K (.ref C) f = some none from n]
  rfl
structure Meth (K : PySem.W.Frag) (C : Addr) (m : Str) (f : Addr) : Prop where
  at_ : PySem.W.findIn K (.ref C) m = some (some (.ref f))
  fn : PySem.W.isFn K (.ref f) = true
  kp : PySem.W.keepIn K (.ref f) = true
section
variable {X : Cx} {pins : List (Addr × Obj)} {σ : St} {H : Hp} {s : Shared} {a C dx : Addr} {fs : List (Str × V)} {f : Str} {v : V} {A : Around} {E : Value → Shared → Prop}
theorem getattr_ok {b : Bool} {Q : Value → Shared → Prop} (I : Inv X pins σ H s) (e : H a = some (.ins C dx fs)) (c : Cls X.K C) (n : NoAttr X.K C f) (l : fs.lookup f = some v)
    (h : ∀ u s', Inv X pins σ H s' → RelV v u → Q u s') : wpAny (model X.prog X.w) A (getAttr (.ref a) f b) Q E s := by
  obtain ⟨mA, O, r, _, _, _⟩ := ins_get I.hok e
  obtain ⟨u, hu, ru⟩ := RelO.some_of (v := v) (o := mA f) (by rw [← l]; exact r f)
  exact get_map I.kIn O (c.get f) c.hd n hu (handed_of ru) (h u _ (I.tok _) ru)
theorem getmeth_ok {m : Str} {g : Addr} {pl : Sem Bool} {Q : Value × List Value → Shared → Prop} (I : Inv X pins σ H s) (e : H a = some (.ins C dx fs)) (c : Cls X.K C) (k : Meth X.K C m g) (l : fs.lookup m = none)
    (h : Q (.ref g, [.ref a]) s) : wpAny (model X.prog X.w) A (getMethod (.ref a) m pl) Q E s := by
  obtain ⟨mA, O, r, _, _, _⟩ := ins_get I.hok e
  have hn : mA m = none := RelO.none_of (by rw [← l]; exact r m)
  exact get_meth I.kIn O (c.get m) k.at_ k.fn hn h
theorem setattr_ok {y : V} {u : Value} {Q : Unit → Shared → Prop} (I : Inv X pins σ H s) (e : H a = some (.ins C dx fs)) (c : Cls X.K C) (n : NoAttr X.K C f) (hl : fs.length < 1000) (ry : RelV y u)
    (h : ∀ s', Inv X pins σ (upd H a (.ins C dx (putF f y fs))) s' → Q () s') : wpAny (model X.prog X.w) A (setAttr (.ref a) f u) Q E s := by
  obtain ⟨mA, O, r, wi, _, ho⟩ := ins_get I.hok e
  have hz : (fs.map (·.1)).length ≤ sizeLine := by rw [List.length_map, sizeLine_eq]; omega
  refine set_map I.kIn O c.sa c.po n.taker c.hd wi hz fun h' O' sb => h _ ?_
  have hd : ∃ o, h'.get? dx = some o := let ⟨o, _, _, e', _⟩ := O'.ns; ⟨o, e'⟩
  refine I.write (x := a) (e := dx) (by rw [e]; exact True.intro) (.inr ho) (fun b q hb z => (sb.2 b hb).trans z) hd ?_
  refine ⟨by rw [upd_ne O.ne]; exact ho, ?_, O.ne, O'.obj, _, O'.ns, fun g => ?_, fun g hg => ?_⟩
  · have := length_putF f y fs; omega
  · show RelO ((putF f y fs).lookup g) (if g = f then some u else mA g)
    rw [lookup_putF]
    by_cases q : g = f
    · rw [if_pos q, if_pos q]; exact ry
    · rw [if_neg q, if_neg q]; exact r g
  · by_cases q : g = f
    · rw [q]; exact (keys_putF f y fs).1
    · refine (keys_putF f y fs).2 g (wi g fun z => hg ?_)
      show (if g = f then some u else mA g) = none
      rw [if_neg q]; exact z
theorem Inv.made (I : Inv X pins σ H s) : Inv X pins σ (upd (upd H s.heap.objs.size (.own (s.heap.objs.size + 1))) (s.heap.objs.size + 1) (.ins C s.heap.objs.size []))
    { s with heap := (s.heap.push PySem.W.emptyDict).push (PySem.W.instObj C s.heap.objs.size) } := by
  have e1 : (s.heap.push PySem.W.emptyDict).get? s.heap.objs.size = some PySem.W.emptyDict := Heap.get?_push_size s.heap rfl
  have e2 : ((s.heap.push PySem.W.emptyDict).push (PySem.W.instObj C s.heap.objs.size)).get? (s.heap.objs.size + 1) = some (PySem.W.instObj C s.heap.objs.size) := by
    have := Heap.get?_push_size (s.heap.push PySem.W.emptyDict) (o := PySem.W.instObj C s.heap.objs.size) rfl
    rwa [Heap.size_push] at this
  have e3 : (s.heap.push PySem.W.emptyDict).Ns s.heap.objs.size (fun _ => none) := ⟨PySem.W.emptyDict, #[], _, e1, rfl, (fun e he => absurd he (by simp)), fun _ => rfl⟩
  have I1 := I.laid (a := s.heap.objs.size) (o := .own (s.heap.objs.size + 1)) (h' := s.heap.push PySem.W.emptyDict) (t' := s.toks) (fun b u q => Heap.get?_push_of_some _ q) (Nat.le_refl _) ⟨_, e1⟩
  refine I1.laid (a := s.heap.objs.size + 1) (o := .ins C s.heap.objs.size []) (t' := s.toks) (fun b u q => Heap.get?_push_of_some _ q) (Nat.le_of_eq (Heap.size_push _ _)) ?_
  have ne : s.heap.objs.size ≠ s.heap.objs.size + 1 := Nat.ne_of_lt (Nat.lt_succ_self _)
  refine ⟨by rw [upd_ne ne, upd_same], Nat.zero_le _, ne, e2, fun _ => none, (Heap.Ns1.of_empty e3).at fun o q => Heap.get?_push_of_some _ q, fun _ => True.intro, fun y hy => absurd rfl hy⟩
theorem attr_of {prog : Program} {w : World} {env : Env} {e : Expr} {f : Str} {pos : Pos} {s : Shared} {Q : Value → Shared → Prop} (hb : attributeBase e f env (eval e env) = eval e env)
    (h : wpAny (model prog w) A (eval e env) (fun o s₁ => wpAny (model prog w) A (getAttr o f true) Q E s₁) E s) : wpAny (model prog w) A (eval (.Attribute e f pos) env) Q E s :=
  Attribute_any_ h (by rw [arm_eval_Attribute, hb])
end
def tFld (K : PySem.W.Frag) (ta : TE) (f : Str) : TE := fun σ H Q => ta σ H fun x H1 => ∃ a C dx fs v, x = .ref a ∧ H1 a = some (.ins C dx fs) ∧ Cls K C ∧ NoAttr K C f ∧ fs.lookup f = some v ∧ Q v H1
def sFld (K : PySem.W.Frag) (ta tv : TE) (f : Str) : TS := fun D σ H => tv σ H fun y H1 => ta σ H1 fun x H2 => ∃ a C dx fs, x = .ref a ∧ H2 a = some (.ins C dx fs) ∧ Cls K C ∧ NoAttr K C f ∧ fs.length < 1000 ∧
  D.nx σ (upd H2 a (.ins C dx (putF f y fs)))
section
variable {X : Cx} {o e value : Expr} {f : Str} {pos pos' tpos : Pos} {ta tv : TE}
theorem pe_fld (he : PE X e ta) (hb : attributeBase e f X.env (eval e X.env) = eval e X.env) : PE X (.Attribute e f pos) (tFld X.K ta f) := by
  intro pins s σ H Q I h
  refine attr_of hb (thn (he pins s σ H _ I h) fun u s1 ⟨x, H1, I1, rx, a, C, dx, fs, v, ex, ea, c, n, l, q⟩ => ?_)
  subst ex
  obtain rfl : u = Value.ref a := rx
  exact getattr_ok I1 ea c n l fun u' s2 I2 ru => ⟨v, H1, I2, ru, q⟩
theorem ps_fld (ha : PE X o ta) (hv : PE X value tv) (hs : swapsWith value (some (.Attribute o f pos')) pos.line X.env = pure false) : PS X (.Assign [.Attribute o f pos'] value pos) (sFld X.K ta tv f) := by
  intro pins s σ H D I h
  refine plainObj_wpAny_Assign_Attribute (thn (hv pins s σ H _ I h) fun u s1 ⟨y, H1, I1, ry, q⟩ => thn (ha pins s1 σ H1 _ I1 q) fun ov s2 ⟨x, H2, I2, rx, a, C, dx, fs, ex, ea, c, n, l, q2⟩ => ?_) hs
  subst ex
  obtain rfl : ov = Value.ref a := rx
  exact setattr_ok I2 ea c n l ry fun s3 I3 => ⟨σ, _, I3, q2⟩
theorem methcall_of {pl : Sem Bool} {m : Str} {apos : Pos} {args : List Expr} {pins : List (Addr × Obj)} {s : Shared} {σ : St} {H : Hp} {Q : Value → Shared → Prop} {te : TE} (he : PE X e te) (I : Inv X pins σ H s)
    (h : te σ H fun x H1 => ∃ a C dx fs g, x = .ref a ∧ H1 a = some (.ins C dx fs) ∧ Cls X.K C ∧ Meth X.K C m g ∧ fs.lookup m = none ∧
      ∀ s1, Inv X pins σ H1 s1 → wpAny (model X.prog X.w) X.A (callWith pos (.ref g) [.ref a] (backTo pos (starEach args X.env)) (backToKw pos (keywordEach [] X.env))) Q X.xe s1)
    (ht : eval (.Call (.Attribute e m apos) args [] pos) X.env = (do
      let ov ← eval e X.env
      standAt apos.atName
      let (f, first) ← holding [ov] (getMethod ov m pl)
      callWith pos f first (backTo pos (starEach args X.env)) (backToKw pos (keywordEach [] X.env)))) :
    wpAny (model X.prog X.w) X.A (eval (.Call (.Attribute e m apos) args [] pos) X.env) Q X.xe s := by
  refine PySem.W.methodCall_KW (pl := pl) (thn (he pins s σ H _ I h) fun u s1 ⟨x, H1, I1, rx, a, C, dx, fs, g, ex, ea, c, k, l, q⟩ => ?_) ht
  subst ex
  obtain rfl : u = Value.ref a := rx
  exact getmeth_ok I1 ea c k l (q s1 I1)
end
section
variable {X : Cx} {pins : List (Addr × Obj)} {σ : St} {H : Hp} {s : Shared} {A : Around} {E : Value → Shared → Prop} {Q : Value → Shared → Prop} {c : Value} {b : Bool}
inductive TyOf (K : PySem.W.Frag) (H : Hp) : V → Value → Prop where
  | non : TyOf K H .non (.type "NoneType")
  | bl (x : Bool) : TyOf K H (.bl x) (.type "bool")
  | int (i : Int) : TyOf K H (.int i) (.type "int")
  | str (x : Str) : TyOf K H (.str x) (.type "str")
  | flt (x : UInt64) : TyOf K H (.flt x) (.type "float")
  | lst {a : Addr} {xs : List V} (e : H a = some (.lst xs)) : TyOf K H (.ref a) (.type "list")
  | frz {a : Addr} {o : Obj} {xs : List V} (e : H a = some (.frz o (.lst xs))) : TyOf K H (.ref a) (.type "list")
  | tup {a : Addr} {xs : List V} (e : H a = some (.tup xs)) : TyOf K H (.ref a) (.type "tuple")
  | dK {a : Addr} {kvs : List (Key × V)} (e : H a = some (.dK kvs)) : TyOf K H (.ref a) (.type "dict")
  | dT {a : Addr} {kvs : List (List Key × V)} (e : H a = some (.dT kvs)) : TyOf K H (.ref a) (.type "dict")
  | ins {a C dx : Addr} {fs : List (Str × V)} (e : H a = some (.ins C dx fs)) (cl : Cls K C) (ha : PySem.W.findIn K (.ref C) "__class__" = some (some (.builtin "object.__class__")))
      (hn : PySem.W.specialIn K (.builtin "object.__class__") "__get__" = some (some (.builtin "getset_descriptor.__get__"))) (htk : PySem.W.takesIn K (.builtin "object.__class__") = some true)
      (hm : PySem.W.mroIn K C (.type "object") = some true) : TyOf K H (.ref a) (.ref C)
theorem isinst_ok {x : V} {u t : Value} (I : Inv X pins σ H s) (rx : RelV x u) (ty : TyOf X.K H x t) (e : PySem.W.kitOne X.K t c = some b) (h : ∀ tk, Q (.bool b) { s with toks := tk }) :
    wpAny (model X.prog X.w) A (call (.builtin "isinstance") [u, c]) Q E s := by
  cases ty with
  | non => cases (show u = Value.none from rx); exact PySem.W.kia_one PySem.W.kitx_none I.kIn True.intro e (fun z => nomatch z) h
  | bl y => cases (show u = Value.bool y from rx); exact PySem.W.kia_one PySem.W.kitx_bool I.kIn True.intro e (fun z => nomatch z) h
  | int i => obtain ⟨t, q⟩ := (show ∃ t, u = Value.int i t from rx); cases q; exact PySem.W.kia_one PySem.W.kitx_int I.kIn True.intro e (fun z => nomatch z) h
  | str y => obtain ⟨t, q⟩ := (show ∃ t, u = Value.str y t from rx); cases q; exact PySem.W.kia_one PySem.W.kitx_str I.kIn True.intro e (fun z => nomatch z) h
  | flt y => obtain ⟨t, q⟩ := (show ∃ t, u = Value.float y t from rx); cases q; exact PySem.W.kia_one PySem.W.kitx_float I.kIn True.intro e (fun z => nomatch z) h
  | @lst a xs ea =>
    cases (show u = Value.ref a from rx)
    obtain ⟨_, _, n, _, h1⟩ := (show ObjOk X.prog X.w H s.heap a (.lst xs) from I.hok a _ ea)
    exact PySem.W.kia_one PySem.W.kitx_list I.kIn ⟨_, h1, rfl⟩ e (fun z => nomatch z) h
  | @frz a ob xs ea =>
    cases (show u = Value.ref a from rx)
    obtain ⟨_, _, _, n, _, h1⟩ := (show ObjOk X.prog X.w H s.heap a (.frz ob (.lst xs)) from I.hok a _ ea)
    exact PySem.W.kia_one PySem.W.kitx_list I.kIn ⟨_, h1, rfl⟩ e (fun z => nomatch z) h
  | @tup a xs ea =>
    cases (show u = Value.ref a from rx)
    obtain ⟨_, _, _, p⟩ := (show ObjOk X.prog X.w H s.heap a (.tup xs) from I.hok a _ ea)
    obtain ⟨o, h1, h2, _⟩ := p
    exact PySem.W.kia_one PySem.W.kitx_tuple I.kIn ⟨o, h1, h2⟩ e (fun z => nomatch z) h
  | @dK a kvs ea =>
    cases (show u = Value.ref a from rx)
    obtain ⟨_, _, vs, _, p⟩ := (show ObjOk X.prog X.w H s.heap a (.dK kvs) from I.hok a _ ea)
    obtain ⟨o, es, ep, h1, h2, _⟩ := p
    exact PySem.W.kia_one PySem.W.kitx_dict I.kIn ⟨o, h1, h2.1⟩ e (fun z => nomatch z) h
  | @dT a kvs ea =>
    cases (show u = Value.ref a from rx)
    obtain ⟨_, _, xs, _, o, es, ep, h1, h2, _⟩ := (show ObjOk X.prog X.w H s.heap a (.dT kvs) from I.hok a _ ea)
    exact PySem.W.kia_one PySem.W.kitx_dict I.kIn ⟨o, h1, h2.1⟩ e (fun z => nomatch z) h
  | @ins a C dx fs ea cl ha hn htk hm =>
    cases (show u = Value.ref a from rx)
    obtain ⟨mA, O, _⟩ := ins_get I.hok ea
    obtain ⟨od, J, _⟩ := O.look
    exact PySem.W.kia_one (PySem.W.kitx_own (cl.get _) cl.hd ha hn htk hm) I.kIn J e (fun z => nomatch z) h
end
end L2
namespace L2
open PySem PySem.Spec PyProof.Rows
structure Room (k : Nat) (A : Around) : Prop where
  hd : A.handled = none
  dp : A.depth + 3 * k + 5 < recursionLimit
  un : A.units + 16 * k + 200 < cLine
theorem Room.mono {j k : Nat} {A : Around} (r : Room k A) (h : j ≤ k) : Room j A := ⟨r.hd, by have := r.dp; omega, by have := r.un; omega⟩
theorem Room.deeper {k : Nat} {A : Around} (r : Room (k + 1) A) (env : Env) : Room k (A.deeper env) :=
  ⟨r.hd, by have := r.dp; show A.depth + 1 + 3 * k + 5 < _; omega, by have := r.un; show A.units + 3 + 16 * k + 200 < _; omega⟩
theorem make_depth {A : Around} {C : Addr} {us : List Value} {kw : List (Str × Value)} : (A.under (.builtin "type.__call__" ⟨.ref C :: us, kw⟩)).depth = A.depth + 1 := by
  first | rfl | simp [Around.under, Code.weight, Code.isCreation, Code.isGuard, Code.isCaller, Code.frames, Code.isFrame, guardIds]
theorem make_units {A : Around} {C : Addr} {us : List Value} {kw : List (Str × Value)} : (A.under (.builtin "type.__call__" ⟨.ref C :: us, kw⟩)).units = A.units + 1 := by
  first | rfl | simp [Around.under, Code.cUnits, Code.frames, Code.isFrame]
theorem Room.make {k : Nat} {A : Around} (r : Room (k + 1) A) (C : Addr) (us : List Value) (kw : List (Str × Value)) : Room k (A.under (.builtin "type.__call__" ⟨.ref C :: us, kw⟩)) :=
  ⟨r.hd, by have := r.dp; rw [make_depth]; omega, by have := r.un; rw [make_units]; omega⟩
theorem Room.depth {k : Nat} {A : Around} (r : Room k A) : A.depth < recursionLimit := by have := r.dp; omega
theorem Room.units {k : Nat} {A : Around} (r : Room k A) : A.units + 64 < cLine := by have := r.un; omega
def tNil : TA := fun _ H Q => Q [] H
def tCons (ta : TE) (tr : TA) : TA := fun σ H Q => ta σ H fun x H1 => tr σ H1 fun xs H2 => Q (x :: xs) H2
section
variable {X : Cx} {e : Expr} {es : List Expr} {te : TE} {t : TA} {pos : Pos}
theorem pa_nil : PA X [] tNil := fun _ _ _ _ H Q I h => Calls.spliced_nil ⟨[], H, I, .nil, h⟩
theorem pa_cons (ha : PE X e te) (hr : PA X es t) (hs : starEach (e :: es) X.env = (false, eval e X.env) :: starEach es X.env := by rfl) : PA X (e :: es) (tCons te t) := by
  intro pos pins s σ H Q I h
  rw [hs]
  show wpAny _ _ (spliced ((false, eval e X.env) :: backTo pos (starEach es X.env))) _ _ s
  refine Calls.spliced_cons (thn (ha pins s σ H _ I h) fun u s1 ⟨x, H1, I1, r1, q1⟩ => ?_)
  exact thn (hr pos pins s1 σ H1 _ I1 q1) fun us s2 ⟨xs, H2, I2, r2, q2⟩ => ⟨x :: xs, H2, I2, .cons r1 r2, q2⟩
def tTup (t : TA) : TE := fun σ H Q => t σ H fun xs H1 => xs.length ≤ sizeLine ∧ ∀ p, H1 p = none → Q (.ref p) (upd H1 p (.tup xs))
def tLst (t : TA) : TE := fun σ H Q => t σ H fun xs H1 => xs.length ≤ sizeLine ∧ ∀ p, H1 p = none → Q (.ref p) (upd H1 p (.lst xs))
theorem pe_tup {x1} (h : PA X es t) : PE X (.Tuple es x1 pos) (tTup t) := by
  intro pins s σ H Q I hq
  refine wpAny_Tuple_spliced (thn (h pos pins s σ H _ I hq) fun us s1 ⟨xs, H1, I1, r, z, q⟩ => ⟨by rw [← r.length]; exact z, ?_⟩)
  have hf : H1 s1.heap.objs.size = none := I1.hok.fresh (Nat.le_refl _)
  refine ⟨.ref s1.heap.objs.size, upd H1 s1.heap.objs.size (.tup xs), I1.laid (t' := s1.toks) (fun b u e => Heap.get?_push_of_some _ e) (Nat.le_refl _) ?_, rfl, q _ hf⟩
  exact ⟨z, us, r, ⟨_, Heap.get?_push_size _ rfl, rfl, _, rfl⟩⟩
theorem pe_lst (h : PA X es t) : PE X (.List es pos) (tLst t) := by
  intro pins s σ H Q I hq
  refine wpAny_List_spliced (thn (h pos pins s σ H _ I hq) fun us s1 ⟨xs, H1, I1, r, z, q⟩ => ⟨by rw [← r.length]; exact z, ?_⟩)
  have hf : H1 s1.heap.objs.size = none := I1.hok.fresh (Nat.le_refl _)
  refine ⟨.ref s1.heap.objs.size, upd H1 s1.heap.objs.size (.lst xs), I1.laid (t' := s1.toks) (fun b u e => Heap.get?_push_of_some _ e) (Nat.le_refl _) ?_, rfl, q _ hf⟩
  exact ⟨z, us, 0, r, Heap.get?_push_size _ rfl⟩
end
abbrev Sp := List V → Hp → VK → XK → Prop
abbrev CXT := List Env → Hp → Shared → XK → Value → Shared → Prop
structure Env0 (P : Program) (w : World) (K : PySem.W.Frag) (mg : Str → Option Value) (base : Heap) (A : Around) (outer : List Env) (s : Shared) (H : Hp) : Prop where
  frames : A.frames = some outer
  mod : Mod K mg base
  bs : ∀ b o, base.get? b = some o → s.heap.get? b = some o ∧ H b = none
  bsz : base.objs.size ≤ s.heap.objs.size
  funs : s.heap.FunFrames base outer
  frf : ∀ b ∈ frs outer, H b = none
  hok : HOk P w H s.heap
  bare : AllBare s.gens
def CE (outer : List Env) (P : Program) (w : World) (H : Hp) (s : Shared) (Q : VK) (u : Value) (s' : Shared) : Prop :=
  ∃ v H', s'.os = s.os ∧ AllBare s'.gens ∧ Un (frs outer) [] H H' s.heap s'.heap ∧ HOk P w H' s'.heap ∧ RelV v u ∧ Q v H'
def CR (CX : CXT) (outer : List Env) (P : Program) (w : World) (H : Hp) (s : Shared) (Q : VK) (E : XK) (r : Result) (s' : Shared) : Prop :=
  match r with
  | .ok (.ret u) => CE outer P w H s Q u s'
  | .ok _ => False
  | .error e => CX outer H s E e s'
structure FnOk (P : Program) (w : World) (K : PySem.W.Frag) (mg : Str → Option Value) (base : Heap) (CX : CXT) (k : Nat) (f : Addr) (fd : FuncData) (ps : List Str) (sp : Sp) : Prop where
  len : ∀ vs H Q E, sp vs H Q E → vs.length = ps.length
  run : ∀ (A : Around) (outer : List Env) (s : Shared) (H : Hp) (args : Args) (us : List Value) (vs : List V) (Q : VK) (E : XK), Room k A → Env0 P w K mg base A outer s H → BindsTo s fd args (ps.zip us) → Vals vs us → sp vs H Q E →
    codeAny (model P w) A (.call (.ref f) args) (CR CX outer P w H s Q E) s
theorem FnOk.mono {P : Program} {w : World} {K : PySem.W.Frag} {mg : Str → Option Value} {base : Heap} {CX : CXT} {j k : Nat} {f : Addr} {fd : FuncData} {ps : List Str} {sp : Sp} (F : FnOk P w K mg base CX j f fd ps sp) (h : j ≤ k) :
    FnOk P w K mg base CX k f fd ps sp := ⟨F.len, fun A outer s H args us vs Q E hr => F.run A outer s H args us vs Q E (hr.mono h)⟩
theorem Env0.make {P : Program} {w : World} {K : PySem.W.Frag} {mg : Str → Option Value} {base : Heap} {A : Around} {outer : List Env} {s : Shared} {H : Hp} (e : Env0 P w K mg base A outer s H) (C : Addr) (us : List Value) (kw : List (Str × Value)) :
    Env0 P w K mg base (A.under (.builtin "type.__call__" ⟨.ref C :: us, kw⟩)) outer s H := ⟨by first | exact e.frames | (simpa [Around.under, Code.envs, Code.isFrame, pushEnvs] using e.frames), e.mod, e.bs, e.bsz, e.funs, e.frf, e.hok, e.bare⟩
section
variable {X : Cx} {pins : List (Addr × Obj)} {σ : St} {H : Hp} {s s' : Shared}
theorem Inv.env0 (I : Inv X pins σ H s) : Env0 X.prog X.w X.K X.mg X.base X.A X.stack s H :=
  ⟨I.ok.frames, I.ok.mod, I.bs, Nat.le_trans I.ok.bsz I.sz, I.stack, I.stkFree, I.hok, I.bare⟩
theorem Inv.after {Q : VK} {u : Value} (I : Inv X pins σ H s) (h : CE X.stack X.prog X.w H s Q u s') : EP X pins σ Q u s' := by
  obtain ⟨v, H', os, bare, un, hok, r, q⟩ := h
  obtain ⟨hh, g, d, t, os'⟩ := s'
  obtain rfl : os' = s.os := os
  exact ⟨v, H', I.call (h' := hh) (g' := g) (d' := d) (t' := t) (ch := []) un hok bare (fun b z => absurd z (by simp)), r, q⟩
end
def tCall (sp : Sp) (dvs : List V) (E : XK) (t : TA) : TE := fun σ H Q => t σ H fun vs H1 => sp (vs ++ dvs) H1 Q E
def tMeth (C : Addr) (m : Str) (sp : Sp) (dvs : List V) (E : XK) (ta : TE) (t : TA) : TE := fun σ H Q => ta σ H fun x H1 => ∃ a dx fs, x = .ref a ∧ H1 a = some (.ins C dx fs) ∧ fs.lookup m = none ∧
  t σ H1 fun vs H2 => sp (x :: (vs ++ dvs)) H2 Q E
def tMake (C : Addr) (sp : Sp) (dvs : List V) (E : XK) (t : TA) : TE := fun σ H Q => t σ H fun vs H1 => ∀ x dx, H1 x = none → H1 dx = none → dx ≠ x →
  sp (.ref x :: (vs ++ dvs)) (upd (upd H1 dx (.own x)) x (.ins C dx [])) (fun v H2 => v = .non ∧ Q (.ref x) H2) E
def Binds (K : PySem.W.Frag) (fd : FuncData) (ps : List Str) (ds : List Value) : Prop :=
  ∀ (s : Shared) (us : List Value), K.In s.heap → (us ++ ds).length = ps.length → BindsTo s fd ⟨us, []⟩ (ps.zip (us ++ ds))
theorem Binds.all {K : PySem.W.Frag} {fd : FuncData} {ps : List Str} (h : ∀ us : List Value, us.length = ps.length → bindArgs fd ⟨us, []⟩ = pure (ps.zip us)) : Binds K fd ps [] := fun s us _ hl => by
  rw [List.append_nil] at hl ⊢
  exact .of_eq (h us hl)
def Passes (CX : CXT) (X : Cx) (E : XK) : Prop := ∀ (pins : List (Addr × Obj)) (σ : St) (H : Hp) (s : Shared) (e : Value) (s' : Shared), Inv X pins σ H s → CX X.stack H s E e s' → X.xe e s'
section
variable {X : Cx} {CX : CXT} {k : Nat} {f C : Addr} {fd : FuncData} {ps : List Str} {sp : Sp} {dvs : List V} {ds : List Value} {E : XK} {x m : Str} {p pos apos : Pos} {e o : Expr} {es : List Expr} {ta : TE} {t : TA}
theorem run_fn {pins : List (Addr × Obj)} {σ : St} {H : Hp} {s : Shared} {Q : VK} {us : List Value} {vs : List V} (F : FnOk X.prog X.w X.K X.mg X.base CX k f fd ps sp) (hr : Room k X.A) (hb : Binds X.K fd ps ds) (hd : Vals dvs ds) (hx : Passes CX X E)
    (I : Inv X pins σ H s) (r : Vals vs us) (h : sp (vs ++ dvs) H Q E) : wpAny (model X.prog X.w) X.A (call (.ref f) us) (EP X pins σ Q) X.xe s := by
  have r2 : Vals (vs ++ dvs) (us ++ ds) := r.append hd
  have hl : (us ++ ds).length = ps.length := by rw [← r2.length]; exact F.len _ _ _ _ h
  refine wpAny_call (codeAny_mono (F.run X.A X.stack s H ⟨us, []⟩ (us ++ ds) (vs ++ dvs) Q E hr I.env0 (hb s us I.kIn hl) r2 h) fun r s' hq => ?_)
  cases r with
  | error e => exact hx pins σ H s e s' I hq
  | ok fl =>
    cases fl with
    | ret u => exact I.after hq
    | next => exact False.elim hq
    | brk => exact False.elim hq
    | cont => exact False.elim hq
theorem pe_call (F : FnOk X.prog X.w X.K X.mg X.base CX k f fd ps sp) (hr : Room k X.A) (hg : Gl X x) (hm : X.mg x = some (.ref f)) (hk : PySem.W.keepIn X.K (.ref f) = true) (hb : Binds X.K fd ps ds) (hd : Vals dvs ds) (hx : Passes CX X E)
    (ha : PA X (e :: es) t) (hdb : (x == ("__debug__" : Str)) = false := by decide) (he : starEach (e :: es) X.env = (false, eval e X.env) :: starEach es X.env := by rfl) (hpl : (backTo pos (starEach es X.env)).any (·.1) = false := by rfl) :
    PE X (.Call (.Name x p) (e :: es) [] pos) (tCall sp dvs E t) := by
  intro pins s σ H Q I h
  refine wpAny_Call_Name_kw (ld_glob I hg hm ?_ hdb)
  refine PySem.W.callWith_K (h₀ := X.base) I.ok.mod.kin hk (thn (ha pos pins s σ H _ I h) fun us s1 ⟨vs, H1, I1, r, q⟩ => ⟨I1.kIn, ?_⟩) he hpl
  exact run_fn F hr hb hd hx I1 r q
theorem pe_meth {pl : Sem Bool} (he : PE X o ta) (c : Cls X.K C) (hm : Meth X.K C m f) (F : FnOk X.prog X.w X.K X.mg X.base CX k f fd ps sp) (hr : Room k X.A) (hb : Binds X.K fd ps ds) (hd : Vals dvs ds) (hx : Passes CX X E) (ha : PA X (e :: es) t)
    (hst : starEach (e :: es) X.env = (false, eval e X.env) :: starEach es X.env := by rfl) (hpl : (backTo pos (starEach es X.env)).any (·.1) = false := by rfl)
    (ht : eval (.Call (.Attribute o m apos) (e :: es) [] pos) X.env = (do
      let ov ← eval o X.env
      standAt apos.atName
      let (f, first) ← holding [ov] (getMethod ov m pl)
      callWith pos f first (backTo pos (starEach (e :: es) X.env)) (backToKw pos (keywordEach [] X.env))) := by rfl) :
    PE X (.Call (.Attribute o m apos) (e :: es) [] pos) (tMeth C m sp dvs E ta t) := by
  intro pins s σ H Q I h
  refine PySem.W.methodCall_KW (pl := pl) (thn (he pins s σ H _ I h) fun u s1 ⟨x, H1, I1, rx, a, dx, fs, ex, ea, l, q⟩ => ?_) ht
  subst ex
  obtain rfl : u = Value.ref a := rx
  refine getmeth_ok I1 ea c hm l ?_
  refine PySem.W.callWith_K (first := [.ref a]) (h₀ := X.base) I.ok.mod.kin hm.kp (thn (ha pos pins s1 σ H1 _ I1 q) fun us s2 ⟨vs, H2, I2, r, q2⟩ => ⟨I2.kIn, ?_⟩) hst hpl
  exact run_fn (us := .ref a :: us) (vs := .ref a :: vs) F hr hb hd hx I2 (.cons rfl r) q2
theorem pe_meth0 {pl : Sem Bool} (he : PE X o ta) (c : Cls X.K C) (hm : Meth X.K C m f) (F : FnOk X.prog X.w X.K X.mg X.base CX k f fd ps sp) (hr : Room k X.A) (hb : Binds X.K fd ps ds) (hd : Vals dvs ds) (hx : Passes CX X E)
    (ht : eval (.Call (.Attribute o m apos) [] [] pos) X.env = (do
      let ov ← eval o X.env
      standAt apos.atName
      let (f, first) ← holding [ov] (getMethod ov m pl)
      callWith pos f first (backTo pos (starEach [] X.env)) (backToKw pos (keywordEach [] X.env))) := by rfl) :
    PE X (.Call (.Attribute o m apos) [] [] pos) (tMeth C m sp dvs E ta tNil) := by
  intro pins s σ H Q I h
  refine PySem.W.methodCall_KW (pl := pl) (thn (he pins s σ H _ I h) fun u s1 ⟨x, H1, I1, rx, a, dx, fs, ex, ea, l, q⟩ => ?_) ht
  subst ex
  obtain rfl : u = Value.ref a := rx
  refine getmeth_ok I1 ea c hm l ?_
  exact PySem.W.callWith_K0 (first := [.ref a]) I1.kIn hm.kp (run_fn (us := [.ref a]) (vs := [.ref a]) F hr hb hd hx I1 (.cons rfl .nil) q)
structure Mk (K : PySem.W.Frag) (C f : Addr) : Prop where
  makes : PySem.W.makesIn K C = true
  init : PySem.W.findIn K (.ref C) "__init__" = some (some (.ref f))
  fn : PySem.W.isFn K (.ref f) = true
  kp : PySem.W.keepIn K (.ref C) = true
theorem run_make {pins : List (Addr × Obj)} {σ : St} {H : Hp} {s : Shared} {Q : VK} {us : List Value} {vs : List V} (M : Mk X.K C f) (F : FnOk X.prog X.w X.K X.mg X.base CX k f fd ps sp) (hr : Room (k + 1) X.A) (hb : Binds X.K fd ps ds) (hd : Vals dvs ds)
    (hx : Passes CX X E) (I : Inv X pins σ H s) (r : Vals vs us)
    (h : ∀ x dx, H x = none → H dx = none → dx ≠ x → sp (.ref x :: (vs ++ dvs)) (upd (upd H dx (.own x)) x (.ins C dx [])) (fun v H2 => v = .non ∧ Q (.ref x) H2) E) :
    wpAny (model X.prog X.w) X.A (call (.ref C) us) (EP X pins σ Q) X.xe s := by
  have hq := h (s.heap.objs.size + 1) s.heap.objs.size (I.hok.fresh (Nat.le_succ _)) (I.hok.fresh (Nat.le_refl _)) (Nat.ne_of_lt (Nat.lt_succ_self _))
  have I2 := Inv.made (C := C) I
  have r2 : Vals (V.ref (s.heap.objs.size + 1) :: (vs ++ dvs)) (Value.ref (s.heap.objs.size + 1) :: (us ++ ds)) := .cons rfl (r.append hd)
  have hl : (Value.ref (s.heap.objs.size + 1) :: us ++ ds).length = ps.length := by
    have e := r2.length
    rw [F.len _ _ _ _ hq] at e
    exact e.symm
  refine wpAny_call (make_map (f := f) I.kIn M.makes M.init (beq_iff_eq.mp M.fn) (codeAny_mono (F.run _ X.stack _ _ ⟨Value.ref (s.heap.objs.size + 1) :: us, []⟩ (Value.ref (s.heap.objs.size + 1) :: (us ++ ds)) _ _ E (hr.make C us [])
    (I2.env0.make C us []) (hb _ (Value.ref (s.heap.objs.size + 1) :: us) I2.kIn hl) r2 hq) fun r s' hq' => ?_))
  cases r with
  | error e => exact hx pins σ _ _ e s' I2 hq'
  | ok fl =>
    cases fl with
    | ret u =>
      obtain ⟨v, H', I3, rv, ev, q3⟩ := I2.after hq'
      subst ev
      exact ⟨rv, ⟨V.ref (s.heap.objs.size + 1), H', I3, rfl, q3⟩⟩
    | next => exact False.elim hq'
    | brk => exact False.elim hq'
    | cont => exact False.elim hq'
theorem pe_make0 (M : Mk X.K C f) (F : FnOk X.prog X.w X.K X.mg X.base CX k f fd ps sp) (hr : Room (k + 1) X.A) (hg : Gl X x) (hm : X.mg x = some (.ref C)) (hb : Binds X.K fd ps ds) (hd : Vals dvs ds) (hx : Passes CX X E)
    (hdb : (x == ("__debug__" : Str)) = false := by decide) : PE X (.Call (.Name x p) [] [] pos) (tMake C sp dvs E tNil) := by
  intro pins s σ H Q I h
  refine wpAny_Call_Name_kw (ld_glob I hg hm ?_ hdb)
  exact PySem.W.callWith_K0 I.kIn M.kp (run_make (us := []) M F hr hb hd hx I .nil h)
end
section
variable {X : Cx} {CX : CXT} {k : Nat} {f C : Addr} {fd : FuncData} {ps ks : List Str} {sp : Sp} {E : XK} {x m : Str} {p pos apos kpos : Pos} {e o : Expr} {es : List Expr} {kws : List Keyword} {te ta : TE} {t tk : TA} {nm : Option Str}
variable {g : List Value → List Value → List Value} {gV : List V → List V → List V}
end
structure FnScope (N P : List Str) (sc : Scope) : Prop where
  kind : sc.kind = .function
  co : sc.isCoroutine = false
  gen : sc.isGenerator = false
  nd : N.Nodup
  pre : N.take P.length = P
  par : ∀ x ∈ P, sc.names.lookup x = some .local ∨ sc.names.lookup x = some .cell
  nofree : ∀ y ∈ sc.names, y.2 ≠ .free
theorem bindL_out {kindOf : Str → Option NameKind} {x : Str} : ∀ {binds : List (Str × Value)} {m : Str → Option Value}, (∀ v, (x, v) ∉ binds) → bindL kindOf binds m x = m x
  | [], _, _ => rfl
  | (n, v) :: r, m, h => by
    unfold bindL
    rw [bindL_out fun w hw => h w (List.mem_cons_of_mem _ hw)]
    split
    · have : x ≠ n := by rintro rfl; exact h v List.mem_cons_self
      simp [this]
    · rfl
theorem bindC_out {kindOf : Str → Option NameKind} {x : Str} : ∀ {binds : List (Str × Value)} {m : Str → Option Value}, (∀ v, (x, v) ∉ binds) → bindC kindOf binds m x = m x
  | [], _, _ => rfl
  | (n, v) :: r, m, h => by
    unfold bindC
    rw [bindC_out fun w hw => h w (List.mem_cons_of_mem _ hw)]
    split
    · rfl
    · have : x ≠ n := by rintro rfl; exact h v List.mem_cons_self
      simp [this]
theorem bindL_get {kindOf : Str → Option NameKind} {x : Str} {v : Value} : ∀ {P : List Str} {vs : List Value} {i : Nat} {m : Str → Option Value}, P.Nodup → P[i]? = some x → vs[i]? = some v → kindOf x = some .local →
    bindL kindOf (P.zip vs) m x = some v
  | [], _, _, _, _, h, _, _ => by simp at h
  | _ :: _, [], _, _, _, _, h, _ => by simp at h
  | p :: P, w :: vs, 0, m, nd, h1, h2, hk => by
    simp at h1 h2; subst h1; subst h2
    show bindL kindOf ((p, w) :: P.zip vs) m p = _
    unfold bindL
    rw [bindL_out fun v hv => (List.nodup_cons.mp nd).1 (List.of_mem_zip hv).1, if_pos hk]
    simp
  | p :: P, w :: vs, i + 1, m, nd, h1, h2, hk => by
    show bindL kindOf ((p, w) :: P.zip vs) m x = _
    unfold bindL
    exact bindL_get (i := i) (List.nodup_cons.mp nd).2 (by simpa using h1) (by simpa using h2) hk
theorem bindC_get {kindOf : Str → Option NameKind} {x : Str} {v : Value} : ∀ {P : List Str} {vs : List Value} {i : Nat} {m : Str → Option Value}, P.Nodup → P[i]? = some x → vs[i]? = some v → kindOf x ≠ some .local →
    bindC kindOf (P.zip vs) m x = some v
  | [], _, _, _, _, h, _, _ => by simp at h
  | _ :: _, [], _, _, _, _, h, _ => by simp at h
  | p :: P, w :: vs, 0, m, nd, h1, h2, hk => by
    simp at h1 h2; subst h1; subst h2
    show bindC kindOf ((p, w) :: P.zip vs) m p = _
    unfold bindC
    rw [bindC_out fun v hv => (List.nodup_cons.mp nd).1 (List.of_mem_zip hv).1, if_neg hk]
    simp
  | p :: P, w :: vs, i + 1, m, nd, h1, h2, hk => by
    show bindC kindOf ((p, w) :: P.zip vs) m x = _
    unfold bindC
    exact bindC_get (i := i) (List.nodup_cons.mp nd).2 (by simpa using h1) (by simpa using h2) hk
def start (N : List Str) (vs : List V) : St := vs.map some ++ List.replicate (N.length - vs.length) none
def cxOf (CX : CXT) (P : Program) (w : World) (K : PySem.W.Frag) (mg : Str → Option Value) (base : Heap) (N : List Str) (qual : Str) (scope : Scope) (f : Addr) (cd : Value) (A : Around) (outer : List Env) (s : Shared) (H : Hp) (E : XK) : Cx where
  prog := P
  w := w
  K := K
  mg := mg
  base := base
  A := A.deeper (envOfC qual scope s.heap.objs.size f cd)
  N := N
  s₀ := s
  H₀ := H
  env := envOfC qual scope s.heap.objs.size f cd
  outer := outer
  stack := envOfC qual scope s.heap.objs.size f cd :: outer
  ex := []
  calm := true
  fn := fun _ => true
  pn := []
  xe := fun e s' => wpAny (model P w) (A.deeper (envOfC qual scope s.heap.objs.size f cd)) (leaving (envOfC qual scope s.heap.objs.size f cd) e) (fun _ s'' => CX outer H s E e s'') (fun e' s'' => CX outer H s E e' s'') s'
theorem cell_has {sc : Scope} {n : Nat} {x : Str} (h : sc.names.lookup x = some .cell) : ∃ c, (cellsFrom n sc.names []).lookup x = some c := by
  have q := PySem.W.cellsFrom_some sc.names n [] (.inl h)
  exact Option.isSome_iff_exists.mp q
theorem inv_start {CX : CXT} {P : Program} {w : World} {K : PySem.W.Frag} {mg : Str → Option Value} {base : Heap} {N ps : List Str} {qual : Str} {scope : Scope} {f : Addr} {cd : Value} {A : Around} {outer : List Env} {s s1 : Shared} {H : Hp} {E : XK} {us : List Value} {vs : List V}
    (S : FnScope N ps scope) (hd : A.handled = none) (e0 : Env0 P w K mg base A outer s H) (hl : vs.length = ps.length) (r : Vals vs us)
    (x : InCallC s s.heap.objs.size (bindL (envOfC qual scope s.heap.objs.size f cd).kindOf (ps.zip us) fun _ => none) (cellsFrom (s.heap.objs.size + 1) scope.names []) (bindC (envOfC qual scope s.heap.objs.size f cd).kindOf (ps.zip us) fun _ => none) s1) :
    Inv (cxOf CX P w K mg base N qual scope f cd A outer s H E) [] (start N vs) H s1 := by
  have hpl : ps.length ≤ N.length := by have := congrArg List.length S.pre; rw [List.length_take] at this; omega
  obtain ⟨h1, tk, rfl, hk⟩ := x.done
  have noA : ∀ b : Addr, b ∉ (cxOf CX P w K mg base N qual scope f cd A outer s H E).ex := fun b z => absurd (show b ∈ ([] : List Addr) from z) (by simp)
  refine ⟨⟨e0.mod, S.kind, rfl, rfl, Nat.le_refl _, fun y z c h1 h2 => ?_, fun y hy => ?_, fun y c _ h => ?_, fun _ => hd, Around.frames_deeper e0.frames, .inr ⟨rfl, rfl⟩, fun b z => absurd z (noA b), e0.bs, e0.bsz, fun b _ _ => noA b, fun b z => absurd z (noA b), e0.funs, e0.frf⟩,
    rfl, e0.bare, Un.kept hk, ⟨_, x.toInCall.ns, fun i y v h1 h2 h3 => ?_⟩, fun y c h => ⟨_, x.cell y c h⟩, e0.hok.fresh (Nat.le_refl _), fun y c h => ?_, fun p hp => absurd (show p ∈ ([] : List (Addr × Obj)) from hp) (by simp), e0.hok.kept hk, ?_⟩
  · exact name_of_addr x.apart (PySem.mem_of_lookup h1) (PySem.mem_of_lookup h2)
  · have hy : scope.names.lookup y = some .cell ∨ scope.names.lookup y = some .free := hy
    rcases hy with hy | hy
    · exact cell_has hy
    · exact absurd rfl (S.nofree _ (PySem.mem_of_lookup hy))
  · exact Nat.le_of_lt (x.above y c (PySem.mem_of_lookup h))
  · have hi : i < vs.length := by
      unfold start at h2
      by_cases hi : i < vs.length
      · exact hi
      · rw [List.getElem?_append_right (by simpa using hi)] at h2
        rw [List.getElem?_replicate] at h2
        split at h2 <;> cases h2
    have ha : vs[i]? = some v := by
      unfold start at h2
      rw [List.getElem?_append_left (by simpa using hi), List.getElem?_map] at h2
      cases e : vs[i]? with
      | none => rw [e] at h2; cases h2
      | some a => rw [e] at h2; cases h2; rfl
    obtain ⟨u, hu, rv⟩ := r.get ha
    have hp : ps[i]? = some y := by
      rw [← S.pre, List.getElem?_take_of_lt (by omega)]; exact h1
    have ndP : ps.Nodup := by rw [← S.pre]; exact S.nd.sublist (List.take_sublist _ _)
    refine ⟨u, rv, ?_⟩
    rcases S.par y (List.mem_of_getElem? hp) with k | k
    · exact .inl ⟨k, bindL_get ndP hp hu k⟩
    · obtain ⟨c, e⟩ := cell_has (n := s.heap.objs.size + 1) k
      refine .inr ⟨.inl k, c, e, ?_⟩
      have q := x.cell y c e
      rw [bindC_get ndP hp hu (by show scope.names.lookup y ≠ _; rw [k]; decide)] at q
      exact q
  · exact e0.hok.fresh (Nat.le_of_lt (x.above y c (PySem.mem_of_lookup h)))
  · unfold start
    show _ = N.length
    rw [List.length_append, List.length_map, List.length_replicate]
    omega
theorem fn_of {CX : CXT} {P : Program} {w : World} {K : PySem.W.Frag} {mg : Str → Option Value} {base : Heap} {k : Nat} {f : Addr} {name qual : Str} {params : Arguments} {body : List Stmt} {scope : Scope} {dV kV doc pm cdv ct oc : Value} {an od : Option Addr}
    {osl : Array (Option Value)} {N ps : List Str} {sp : Sp} (lk : K.lookup f = some ⟨oc, od, .func (PySem.W.fnOf name qual params body scope dV kV doc pm an cdv ct), osl⟩) (hcd : PySem.W.codeIn K cdv qual = true) (S : FnScope N ps scope)
    (len : ∀ vs H Q E, sp vs H Q E → vs.length = ps.length)
    (hbody : ∀ (A : Around) (outer : List Env) (s : Shared) (H : Hp) (vs : List V) (Q : VK) (E : XK), Room k (A.deeper (envOfC qual scope s.heap.objs.size f cdv)) → sp vs H Q E →
      ∃ t, PSs (cxOf CX P w K mg base N qual scope f cdv A outer s H E) body t ∧ t { nx := fun _ H' => Q .non H', rt := Q } (start N vs) H) :
    FnOk P w K mg base CX (k + 1) f (PySem.W.fnOf name qual params body scope dV kV doc pm an cdv ct) ps sp := by
  refine ⟨len, fun A outer s H args us vs Q E hr e0 hb r hsp => ?_⟩
  have hl := len _ _ _ _ hsp
  have KX : K.In s.heap := e0.mod.kin.keeps fun b o e => (e0.bs b o e).1
  have lim : s.heap.NoLimit := e0.mod.nolimit.keeps fun b o e => (e0.bs b o e).1
  have hkind : ∀ y ∈ ps.zip us, scope.names.lookup y.1 = some .local ∨ (scope.names.lookup y.1 = some .cell ∧ ((cellsFrom (s.heap.objs.size + 1) scope.names []).lookup y.1).isSome = true) := fun ⟨n, v⟩ hy => by
    rcases S.par n (List.of_mem_zip hy).1 with q | q
    · exact .inl q
    · exact .inr ⟨q, PySem.W.cellsFrom_some _ _ _ (.inl q)⟩
  refine codeAny_call_function hr.depth (KX _ _ lk) rfl S.co S.gen rfl (PySem.W.codeRec_of KX hcd) (hb _ _ _ _ ?_)
  refine wpAny_newFunctionEnv_cells S.kind hkind fun env he s1 x => ?_
  subst he
  refine ⟨lim.keeps x.toInCall.keep, codeAny_func ?_⟩
  obtain ⟨t, ht, hq⟩ := hbody A outer s H vs Q E (hr.deeper _) hsp
  have I : Inv (cxOf CX P w K mg base N qual scope f cdv A outer s H E) [] (start N vs) H s1 := inv_start S hr.hd e0 hl r x
  refine wpAny_mono (ht [] s1 (start N vs) H _ I hq) (fun fl s' hs => ?_) fun e s' hs => hs
  have fin : ∀ {σ' : St} {H' : Hp} {v : V} {u : Value}, Inv (cxOf CX P w K mg base N qual scope f cdv A outer s H E) [] σ' H' s' → RelV v u → Q v H' → CE outer P w H s Q u s' :=
    fun {σ' H' v u} J rv q => ⟨v, H', J.os, J.bare, J.base, J.hok, rv, q⟩
  cases fl with
  | ret u =>
    obtain ⟨v, σ', H', J, rv, q⟩ := hs
    exact fin J rv q
  | next =>
    obtain ⟨σ', H', J, q⟩ := hs
    exact fin (v := V.non) (u := Value.none) J rfl q
  | brk =>
    obtain ⟨_, _, _, q⟩ := hs
    exact False.elim q
  | cont =>
    obtain ⟨_, _, _, q⟩ := hs
    exact False.elim q
end L2
namespace L2
open PySem PySem.Spec PyProof.Rows
section
variable {X : Cx} {x : Str} {p pos : Pos} {e : Expr} {es : List Expr} {t : TA} {id T : String} {r : List V → Hp → VK → Prop}
def tCB (r : List V → Hp → VK → Prop) (t : TA) : TE := fun σ H Q => t σ H fun vs H1 => r vs H1 Q
theorem pe_callB (hc : CallR X (.builtin id) r) (hg : Gl X x) (hm : X.mg x = none) (hv : bootBuiltins x = some (.builtin id)) (ha : PA X (e :: es) t) (hn : x ≠ "__name__" := by decide) (hdb : (x == ("__debug__" : Str)) = false := by decide)
    (he : starEach (e :: es) X.env = (false, eval e X.env) :: starEach es X.env := by rfl) (hpl : (backTo pos (starEach es X.env)).any (·.1) = false := by rfl) : PE X (.Call (.Name x p) (e :: es) [] pos) (tCB r t) := by
  intro pins s σ H Q I h
  refine wpAny_Call_Name_kw (ld_blt I hg hm hv ?_ hn hdb)
  exact PyProof.Rows.callWith_builtin1 (thn (ha pos pins s σ H _ I h) fun us s1 ⟨vs, H1, I1, r1, q1⟩ => hc pins s1 σ H1 vs us Q I1 r1 q1) he hpl
theorem pe_callTy (hc : CallR X (.type T) r) (hg : Gl X x) (hm : X.mg x = none) (hv : bootBuiltins x = some (.type T)) (ha : PA X (e :: es) t) (hn : x ≠ "__name__" := by decide) (hdb : (x == ("__debug__" : Str)) = false := by decide)
    (he : starEach (e :: es) X.env = (false, eval e X.env) :: starEach es X.env := by rfl) (hpl : (backTo pos (starEach es X.env)).any (·.1) = false := by rfl) : PE X (.Call (.Name x p) (e :: es) [] pos) (tCB r t) := by
  intro pins s σ H Q I h
  refine wpAny_Call_Name_kw (ld_blt I hg hm hv ?_ hn hdb)
  exact PyProof.Rows.callWith_type1 (thn (ha pos pins s σ H _ I h) fun us s1 ⟨vs, H1, I1, r1, q1⟩ => hc pins s1 σ H1 vs us Q I1 r1 q1) he hpl
end
end L2
namespace HT
open PySem PyProof.Rows
section
open PySem.SeqAt
open PySem.AutoSeq1 (wpAny_loadPart')
open PySem.MeetsSeq PySem.MeetsSeq2 PySem.MeetsSeq3
end
section
variable {prog : Program} {w : World} {A : Around} {E : Value → Shared → Prop} {s : Shared}
theorem cat_tup {t b : Addr} {vs ws : List Value} {Q : Value → Shared → Prop} (ht : IsTup s.heap t vs.toArray) (hb : IsTup s.heap b ws.toArray) (hv : vs ≠ [])
    (h1 : ws = [] → Q (.ref t) s) (h2 : ws ≠ [] → Q (.ref s.heap.objs.size) { s with heap := s.heap.push { cls := .type "tuple", data := .seq (vs ++ ws).toArray } })
    (hsz : vs.length + ws.length ≤ sizeLine) : wpAny (model prog w) A (binaryOp .Add (.ref t) (.ref b)) Q E s := by
  obtain ⟨⟨cls, dd, data, sl⟩, ho, hc, n, hd⟩ := id ht
  obtain ⟨⟨cls2, dd2, data2, sl2⟩, ho2, hc2, n2, hd2⟩ := id hb
  simp only at hc hd hc2 hd2
  subst hc hd hc2 hd2
  have e : vs.toArray ++ ws.toArray = (vs ++ ws).toArray := by simp
  by_cases hw : ws = []
  · exact concat_meets ⟨_, ho, rfl⟩ ⟨_, ho2, rfl⟩ noFill_tuple_add seq_tuple_add PySem.F.slot_tuple_add PySem.F.entry_tuple_add (PySem.F.args_tuple_add_2 _ _)
      (tuple_addW1 t b vs.toArray ws.toArray n n2 dd dd2 sl sl2 (by simpa using hv) (by simp [hw])) ⟨ho, ho2, h1 hw⟩
  · refine concat_meets ⟨_, ho, rfl⟩ ⟨_, ho2, rfl⟩ noFill_tuple_add seq_tuple_add PySem.F.slot_tuple_add PySem.F.entry_tuple_add (PySem.F.args_tuple_add_2 _ _)
      (tuple_addW2 t b vs.toArray ws.toArray n n2 dd dd2 sl sl2 (by simpa using hv) (by simpa using hw) (by rw [List.size_toArray, List.size_toArray]; exact hsz)) ⟨ho, ho2, ?_⟩
    rw [e]
    exact h2 hw
def sIx (n d : Nat) : Option Int → Nat
  | none => d
  | some v => if v < 0 then (v + (n : Int)).toNat else min v.toNat n
theorem sIx_le (n d : Nat) (hd : d ≤ n) (o : Option Int) : sIx n d o ≤ n := by
  cases o with
  | none => exact hd
  | some v =>
    show (if v < 0 then (v + (n : Int)).toNat else min v.toNat n) ≤ n
    by_cases hv : v < 0
    · rw [if_pos hv]; omega
    · rw [if_neg hv]; exact Nat.min_le_right _ _
theorem clip_eq (v : Int) (n d : Nat) : (if v < 0 then max (v + (n : Int)) 0 else min v (n : Int)) = ((sIx n d (some v) : Nat) : Int) := by
  show (if v < 0 then max (v + (n : Int)) 0 else min v (n : Int)) = (((if v < 0 then (v + (n : Int)).toNat else min v.toNat n) : Nat) : Int)
  by_cases hv : v < 0
  · simp only [if_pos hv]; omega
  · simp only [if_neg hv]; omega
theorem adjust_gen (lo hi : Option Int) (n : Nat) : Builtin.Slice.sliceAdjust lo hi 1 (n : Int) = (((sIx n 0 lo : Nat) : Int), ((sIx n n hi : Nat) : Int)) := by
  have h1 : ¬ ((1 : Int) < 0) := by omega
  unfold Builtin.Slice.sliceAdjust
  simp only [h1, if_false]
  refine Prod.ext ?_ ?_
  · cases lo with
    | none => rfl
    | some v => exact clip_eq v n 0
  · cases hi with
    | none => rfl
    | some v => exact clip_eq v n n
theorem places_gen (i j : Nat) : Builtin.Slice.slicePlaces (i : Int) (j : Int) 1 = j - i := by
  unfold Builtin.Slice.slicePlaces
  have h1 : (1 : Int) > 0 := by omega
  simp only [h1, if_true, Int.ediv_one]
  split <;> omega
theorem slicePart_ {v : Value} {o : Option Int} {Q : Option Int → Shared → Prop} (p : IsPart v o) (h : Q o s) : wpAny (model prog w) A (Builtin.Slice.slicePartIndex v) Q E s := by
  cases p with
  | none => exact slicePart_none h
  | int i t => exact slicePart_int h
theorem sliceApplied_gen {sl : Addr} {vl vu : Value} {lo hi : Option Int} {n : Nat} {Q : Int × Int × Nat → Shared → Prop} (hs : s.heap.IsSliceOf sl vl vu .none) (pl : IsPart vl lo) (pu : IsPart vu hi)
    (h : Q (((sIx n 0 lo : Nat) : Int), 1, sIx n n hi - sIx n 0 lo) s) : wpAny (model prog w) A (Builtin.Slice.sliceApplied (.ref sl) (pure (n : Int))) Q E s := by
  obtain ⟨os, hos, hcs, hds⟩ := id hs
  unfold Builtin.Slice.sliceApplied Builtin.Slice.sliceFields
  refine wpAny_bind (wpAny_bind (wpAny_field hos hds (x := vl) rfl (wpAny_bind (wpAny_field hos hds (x := vu) rfl (wpAny_bind (wpAny_field hos hds (x := .none) rfl (wpAny_pure ?_)))))))
  refine wpAny_bind (slicePart_none ?_)
  show wpAny _ _ (if ((1 : Int) == 0) = true then _ else _) _ _ s
  rw [if_neg (by decide)]
  refine wpAny_bind (slicePart_ pl (wpAny_bind (slicePart_ pu (wpAny_bind (wpAny_pure ?_)))))
  show wpAny _ _ (match Builtin.Slice.sliceAdjust lo hi 1 (n : Int) with | (lo, hi) => pure (lo, (1 : Int), Builtin.Slice.slicePlaces lo hi 1)) _ _ s
  rw [adjust_gen lo hi n]
  show wpAny _ _ (pure (((sIx n 0 lo : Nat) : Int), (1 : Int), Builtin.Slice.slicePlaces ((sIx n 0 lo : Nat) : Int) ((sIx n n hi : Nat) : Int) 1)) _ _ s
  rw [places_gen]
  exact wpAny_pure h
theorem pick_gen (xs : Array Value) (i k : Nat) : ((List.range k).filterMap fun (m : Nat) => xs[((i : Int) + (m : Int) * 1).toNat]?).toArray = ((xs.toList.drop i).take k).toArray := by
  have e : (fun (m : Nat) => xs[((i : Int) + (m : Int) * 1).toNat]?) = fun m => xs[i + m]? := by
    funext m
    have : ((i : Int) + (m : Int) * 1).toNat = i + m := by omega
    rw [this]
  rw [e]
  have := pick_run xs i k
  rw [List.filterMap_map] at this
  have e2 : ((fun x => xs[x]?) ∘ fun x => i + x) = fun m => xs[i + m]? := rfl
  rw [e2] at this
  rw [this]
theorem getItem_tuple_cut {t sl : Addr} {items : Array Value} {vl vu : Value} {lo hi : Option Int} {Q : Value → Shared → Prop} (ht : IsTup s.heap t items) (hs : s.heap.IsSliceOf sl vl vu .none) (pl : IsPart vl lo) (pu : IsPart vu hi)
    (hw : ¬ (sIx items.size 0 lo = 0 ∧ sIx items.size items.size hi = items.size))
    (h : Q (.ref s.heap.objs.size) { s with heap := s.heap.push { cls := .type "tuple", data := .seq ((items.toList.drop (sIx items.size 0 lo)).take (sIx items.size items.size hi - sIx items.size 0 lo)).toArray } })
    (hsz : items.size ≤ sizeLine) : wpAny (model prog w) A (getItem (.ref t) (.ref sl)) Q E s := by
  have htake : sizeOk (.seq ((items.toList.drop (sIx items.size 0 lo)).take (sIx items.size items.size hi - sIx items.size 0 lo)).toArray) := by
    show ((items.toList.drop (sIx items.size 0 lo)).take (sIx items.size items.size hi - sIx items.size 0 lo)).toArray.size ≤ sizeLine
    rw [List.size_toArray, List.length_take, List.length_drop, Array.length_toList]
    omega
  have hj : sIx items.size items.size hi ≤ items.size := sIx_le _ _ (Nat.le_refl _) hi
  obtain ⟨os, hos, hcs, hds⟩ := id hs
  have hTs : s.TypeIs (.ref sl) "slice" := ⟨os, hos, hcs⟩
  unfold getItem
  try with_reducible refine wpAny_holding ?_
  first | refine wpAny_bind (wpAny_pure ?_) | skip
  refine wpAny_bind (wpAny_sequenceKey ht.typeIs (by decide) ?_)
  refine wpAny_bind (wpAny_callSpecial?_slot (name := Str.ofString "__getitem__") ht.typeIs PyProof.Rows.slot_tuple_getitem
    (wpAny_call_entry PyProof.Rows.slot_tuple_getitem ht.typeIs entry_tuple_getitem ?_ (args_tuple_getitem _ _)))
  show wpAny _ _ (Builtin.Tuple.tupleItemsOf (.ref t) >>= _) _ _ s
  refine wpAny_bind (tupleItemsOf_ ht ?_)
  refine wpAny_bind (wpAny_typeOf hTs ?_)
  rw [if_pos (by decide)]
  refine wpAny_bind (sliceApplied_gen hs pl pu ?_)
  have hno : ¬ ((((sIx items.size 0 lo : Nat) : Int) == 0 && (1 : Int) == 1 && (sIx items.size items.size hi - sIx items.size 0 lo) == items.size) = true) := by
    intro q
    rw [Bool.and_eq_true, Bool.and_eq_true] at q
    have q1 : ((sIx items.size 0 lo : Nat) : Int) = 0 := eq_of_beq q.1.1
    have q2 : sIx items.size items.size hi - sIx items.size 0 lo = items.size := eq_of_beq q.2
    exact hw ⟨by omega, by omega⟩
  show wpAny _ _ (if (((sIx items.size 0 lo : Nat) : Int) == 0 && (1 : Int) == 1 && (sIx items.size items.size hi - sIx items.size 0 lo) == items.size) = true then _ else _) _ _ s
  rw [if_neg hno, pick_gen]
  first
    | exact wpAny_bind (m := Builtin.Tuple.tupleExact _) (wpAny_newObj_type (wpAny_pure ⟨_, rfl, wpAny_pure h⟩) htake)
    | exact wpAny_bind (m := Builtin.Tuple.tupleExact _) (wpAny_newObj_type (wpAny_bind (wpAny_pure (wpAny_pure ⟨_, rfl, wpAny_pure h⟩))) htake)
    | exact wpAny_bind (wpAny_bind (m := Builtin.Tuple.tupleExact _) (wpAny_newObj_type (wpAny_pure (wpAny_pure ⟨_, rfl, wpAny_pure h⟩)) htake))
    | exact wpAny_bind (wpAny_bind (m := Builtin.Tuple.tupleExact _) (wpAny_newObj_type (wpAny_pure ⟨_, rfl, wpAny_pure h⟩) htake))
end
end HT
namespace L2
open PySem PySem.Spec PyProof.Rows
abbrev TO := St → Hp → (Option Int → Hp → Prop) → Prop
def PO (X : Cx) (e : Option Expr) (t : TO) : Prop :=
  ∀ (pins : List (Addr × Obj)) (s : Shared) (σ : St) (H : Hp) (Q : Option Int → Hp → Prop), Inv X pins σ H s → t σ H Q →
    wpAny (model X.prog X.w) X.A (evalPart e X.env) (fun u s' => ∃ o H', Inv X pins σ H' s' ∧ IsPart u o ∧ Q o H') X.xe s
def tNoPart : TO := fun _ H Q => Q none H
def tPart (t : TE) : TO := fun σ H Q => t σ H fun x H1 => ∃ i, x = .int i ∧ Q (some i) H1
theorem intsAre_of {ns : List Int} : ∀ {us : List Value}, Vals (ns.map V.int) us → IntsAre us ns := by
  induction ns with
  | nil => intro us r; rw [List.map_nil] at r; cases r; exact .nil
  | cons n ns ih =>
    intro us r
    rw [List.map_cons] at r
    cases r with
    | cons r1 r2 =>
      obtain ⟨t, e⟩ := r1
      subst e
      exact .cons n t (ih r2)
section
variable {X : Cx} {e : Expr} {te : TE} {lo hi : Option Expr} {tl th : TO} {pos p2 : Pos}
theorem po_none : PO X none tNoPart := by
  intro pins s σ H Q I h
  rw [evalPart_none]
  exact wpAny_pure ⟨none, H, I, .none, h⟩
theorem po_some (h : PE X e te) : PO X (some e) (tPart te) := by
  intro pins s σ H Q I hw
  rw [evalPart_some]
  refine thn (h pins s σ H _ I hw) fun u s1 ⟨x, H1, I1, r1, q1⟩ => ?_
  obtain ⟨i, rfl, q⟩ := q1
  obtain ⟨t, rfl⟩ := r1
  exact ⟨some i, H1, I1, .int i t, q⟩
def SlR (X : Cx) (r : V → Option Int → Option Int → Hp → VK → Prop) : Prop :=
  ∀ (pins : List (Addr × Obj)) (s : Shared) (σ : St) (H : Hp) (x : V) (v vl vu : Value) (lo hi : Option Int) (sl : Addr) (Q : VK), Inv X pins σ H s → RelV x v → s.heap.IsSliceOf sl vl vu .none → IsPart vl lo → IsPart vu hi → r x lo hi H Q →
    ∃ T id, typeLookup (.type T) "__getitem__" = pure (some (.builtin id)) ∧ s.TypeIs v T ∧ wpAny (model X.prog X.w) X.A (getItem v (.ref sl)) (EP X pins σ Q) X.xe s
theorem SlR.or {r r' : V → Option Int → Option Int → Hp → VK → Prop} (h : SlR X r) (h' : SlR X r') : SlR X (fun x lo hi H Q => r x lo hi H Q ∨ r' x lo hi H Q) := by
  intro pins s σ H x v vl vu lo hi sl Q I rx hs pl pu q
  rcases q with q | q
  · exact h pins s σ H x v vl vu lo hi sl Q I rx hs pl pu q
  · exact h' pins s σ H x v vl vu lo hi sl Q I rx hs pl pu q
def tSl (r : V → Option Int → Option Int → Hp → VK → Prop) (te : TE) (tl th : TO) : TE := fun σ H Q => te σ H fun x H1 => tl σ H1 fun l H2 => th σ H2 fun u H3 => r x l u H3 Q
theorem pe_slice {r : V → Option Int → Option Int → Hp → VK → Prop} (hr : SlR X r) (he : PE X e te) (hl : PO X lo tl) (hu : PO X hi th) : PE X (.Subscript e (.Slice lo hi none p2) pos) (tSl r te tl th) := by
  intro pins s σ H Q I h
  refine Subscript_ (thn (he pins s σ H _ I h) fun v s1 ⟨x, H1, I1, r1, q1⟩ => ?_)
  refine wpAny_Slice (thn (hl pins s1 σ H1 _ I1 q1) fun vl s2 ⟨l, H2, I2, pl, q2⟩ => thn (hu pins s2 σ H2 _ I2 q2) fun vu s3 ⟨u, H3, I3, pu, q3⟩ => ?_)
  rw [evalPart_none]
  refine wpAny_pure ?_
  have I4 : Inv X pins σ H3 { s3 with heap := s3.heap.push { cls := .type "slice", data := .fields #[vl, vu, .none] } } := I3.kept (t' := s3.toks) fun b ob q => Heap.get?_push_of_some _ q
  obtain ⟨T, id, hT, ht, hg⟩ := hr pins { s3 with heap := s3.heap.push { cls := .type "slice", data := .fields #[vl, vu, .none] } } σ H3 x v vl vu l u s3.heap.objs.size Q I4 r1 (Heap.IsSliceOf.new ..) pl pu q3
  show wpAny (model X.prog X.w) X.A (subscriptTail e (.Slice lo hi none p2) v (.ref s3.heap.objs.size)) (EP X pins σ Q) X.xe { s3 with heap := s3.heap.push { cls := .type "slice", data := .fields #[vl, vu, .none] } }
  exact tail_any (ops := [.ref s3.heap.objs.size, v]) ht hT hg (by with_unfolding_all rfl)
def cutV (xs : List V) (lo hi : Option Int) : List V := (xs.drop (HT.sIx xs.length 0 lo)).take (HT.sIx xs.length xs.length hi - HT.sIx xs.length 0 lo)
theorem cutV_length (xs : List V) (lo hi : Option Int) : (cutV xs lo hi).length ≤ xs.length := by
  unfold cutV
  rw [List.length_take, List.length_drop]
  omega
def rSlT (K : PySem.W.Frag) : V → Option Int → Option Int → Hp → VK → Prop := fun x lo hi H Q => ∃ a xs, x = .ref a ∧ SqT K H a xs ∧
  ¬ (HT.sIx xs.length 0 lo = 0 ∧ HT.sIx xs.length xs.length hi = xs.length) ∧ ∀ p, H p = none → Q (.ref p) (upd H p (.tup (cutV xs lo hi)))
theorem sl_tup : SlR X (rSlT X.K) := by
  intro pins s σ H x v vl vu lo hi sl Q I rx hs pl pu h
  obtain ⟨a, xs, rfl, hx, hw, q⟩ := h
  cases rx
  obtain ⟨its, r, ht, hz⟩ := I.tuple hx
  have hlen : its.toArray.size = xs.length := by rw [List.size_toArray]; exact r.length.symm
  refine ⟨"tuple", _, PyProof.Rows.slot_tuple_getitem.lookup, ht.typeIs, ?_⟩
  refine HT.getItem_tuple_cut ht hs pl pu (by rw [hlen]; exact hw) ?_ (by rw [hlen]; exact hz)
  rw [hlen]
  refine ⟨.ref s.heap.objs.size, _, I.laid (t' := s.toks) (o := .tup (cutV xs lo hi)) (fun b ob q => Heap.get?_push_of_some _ q) (Nat.le_refl _) ?_, rfl, q _ (I.hok.fresh (Nat.le_refl _))⟩
  exact ⟨Nat.le_trans (cutV_length xs lo hi) hz, _, (r.drop (HT.sIx xs.length 0 lo)).take (HT.sIx xs.length xs.length hi - HT.sIx xs.length 0 lo), IsTup.new _ _⟩
def rCatT (K : PySem.W.Frag) : R2 := fun x y H Q => ∃ a b xs ys, x = .ref a ∧ y = .ref b ∧ SqT K H a xs ∧ SqT K H b ys ∧ xs ≠ [] ∧ xs.length + ys.length ≤ sizeLine ∧
  (ys = [] → Q (.ref a) H) ∧ (ys ≠ [] → ∀ p, H p = none → Q (.ref p) (upd H p (.tup (xs ++ ys))))
theorem Vals.nil_iff {xs : List V} {us : List Value} (r : Vals xs us) : us = [] ↔ xs = [] := by
  cases r with
  | nil => simp
  | cons _ _ => simp
theorem op_catT : OpR X (binaryOp .Add) (rCatT X.K) := by
  intro pins s σ H x y v u Q I rx ry h
  obtain ⟨a, b, xs, ys, rfl, rfl, ha, hb, hx, hz, q1, q2⟩ := h
  cases rx
  cases ry
  obtain ⟨its, r1, p1, _⟩ := I.tuple ha
  obtain ⟨its2, r2, p2, _⟩ := I.tuple hb
  refine HT.cat_tup p1 p2 (fun z => hx (r1.nil_iff.mp z)) (fun z => ⟨.ref a, H, I, rfl, q1 (r2.nil_iff.mp z)⟩) (fun z => ?_) (by rw [← r1.length, ← r2.length]; exact hz)
  refine ⟨.ref s.heap.objs.size, _, I.laid (t' := s.toks) (o := .tup (xs ++ ys)) (fun b ob q => Heap.get?_push_of_some _ q) (Nat.le_refl _) ?_, rfl, q2 (fun w => z (r2.nil_iff.mpr w)) _ (I.hok.fresh (Nat.le_refl _))⟩
  exact ⟨by rw [List.length_append]; exact hz, _, r1.append r2, IsTup.new _ _⟩
end
end L2
namespace L2
open PySem PySem.Spec PyProof.Rows
def ixN (n : Nat) (i : Int) : Option Nat := if 0 ≤ i then (if i < n then some i.toNat else none) else if -(n : Int) ≤ i then some (i + n).toNat else none
def atI {α : Type} (xs : List α) (i : Int) : Option α := (ixN xs.length i).bind fun j => xs[j]?
theorem ixN_seq {n : Nat} {i : Int} {j : Nat} (h : ixN n i = some j) : seqIndex? i n = some j ∧ j < n ∧ -(n : Int) ≤ i ∧ i < n := by
  unfold ixN at h
  by_cases h0 : 0 ≤ i
  · rw [if_pos h0] at h
    by_cases h1 : i < n
    · rw [if_pos h1] at h
      have e : i.toNat = j := Option.some.inj h
      exact ⟨by rw [seqIndex_of h0 h1, e], by omega, by omega, h1⟩
    · rw [if_neg h1] at h; cases h
  · rw [if_neg h0] at h
    by_cases h1 : -(n : Int) ≤ i
    · rw [if_pos h1] at h
      have e : (i + n).toNat = j := Option.some.inj h
      exact ⟨by rw [seqIndex_neg (by omega) h1, e], by omega, h1, by omega⟩
    · rw [if_neg h1] at h; cases h
theorem atI_get {α : Type} {xs : List α} {i : Int} {v : α} (h : atI xs i = some v) : ∃ j, seqIndex? i xs.length = some j ∧ xs[j]? = some v ∧ j < xs.length ∧ -(xs.length : Int) ≤ i ∧ i < xs.length := by
  unfold atI at h
  cases e : ixN xs.length i with
  | none => rw [e] at h; cases h
  | some j =>
    rw [e] at h
    obtain ⟨h1, h2, h3, h4⟩ := ixN_seq e
    exact ⟨j, h1, h, h2, h3, h4⟩
theorem atI_nat {α : Type} {xs : List α} {j : Nat} {v : α} (h : xs[j]? = some v) : atI xs (j : Int) = some v := by
  have hj : j < xs.length := (List.getElem?_eq_some_iff.mp h).1
  have e : ixN xs.length (j : Int) = some j := by
    unfold ixN
    rw [if_pos (by omega), if_pos (by omega)]; simp
  unfold atI; rw [e]; exact h
def PlainIx (b : Expr) : Prop := ∀ o i, subscripted b false o i = operate [o, i] (getItem o i)
def IxR (X : Cx) (r : R2) : Prop :=
  ∀ (value slice : Expr) (pins : List (Addr × Obj)) (s : Shared) (σ : St) (H : Hp) (x y : V) (v u : Value) (Q : VK), Inv X pins σ H s → RelV x v → RelV y u → r x y H Q →
    subscripted slice false v u = operate [v, u] (getItem v u) → wpAny (model X.prog X.w) X.A (subscriptTail value slice v u) (EP X pins σ Q) X.xe s
def MtR (X : Cx) (id : String) (r : V → List V → Hp → VK → Prop) : Prop :=
  ∀ (pins : List (Addr × Obj)) (s : Shared) (σ : St) (H : Hp) (x : V) (xs : List V) (v : Value) (us : List Value) (Q : VK), Inv X pins σ H s → RelV x v → Vals xs us → r x xs H Q →
    wpAny (model X.prog X.w) X.A (call (.builtin id) (v :: us)) (EP X pins σ Q) X.xe s
section
variable {X : Cx} {a b : Expr} {ta tb : TE} {pos : Pos}
theorem IxR.or {r r' : R2} (h : IxR X r) (h' : IxR X r') : IxR X (fun x y H Q => r x y H Q ∨ r' x y H Q) := by
  intro value slice pins s σ H x y v u Q I rx ry q hs
  rcases q with q | q
  · exact h value slice pins s σ H x y v u Q I rx ry q hs
  · exact h' value slice pins s σ H x y v u Q I rx ry q hs
theorem pe_ix {r : R2} (hr : IxR X r) (ha : PE X a ta) (hb : PE X b tb) (hs : PlainIx b) : PE X (.Subscript a b pos) (tOp r ta tb) := by
  intro pins s σ H Q I h
  exact Subscript_ (binT ha hb I h fun v u s2 x y H2 I2 rx ry q => hr a b pins s2 σ H2 x y v u Q I2 rx ry q (hs _ _))
def rIxL (K : PySem.W.Frag) : R2 := fun x y H Q => ∃ p xs i v, x = .ref p ∧ y = .int i ∧ SqL K H p xs ∧ atI xs i = some v ∧ Q v H
def rIxT (K : PySem.W.Frag) : R2 := fun x y H Q => ∃ p xs i v, x = .ref p ∧ y = .int i ∧ SqT K H p xs ∧ atI xs i = some v ∧ Q v H
def rIxS : R2 := fun x y H Q => ∃ z i c, x = .str z ∧ y = .int i ∧ z.length ≤ sizeLine ∧ atI z.cps.toList i = some c ∧ Q (.str ⟨#[c]⟩) H
theorem ix_list : IxR X (rIxL X.K) := by
  intro value slice pins s σ H x y v u Q I rx ry h hs
  obtain ⟨p, xs, i, z, rfl, rfl, hq, he, q⟩ := h
  cases rx
  obtain ⟨t, rfl⟩ := ry
  obtain ⟨its, r, pl, hz⟩ := I.list hq
  obtain ⟨j, h1, h2, h3, h4, h5⟩ := atI_get he
  obtain ⟨w, ew, rw'⟩ := r.get h2
  have hl := r.length
  have hn := line63
  have fin : EP X pins σ Q w s := ⟨z, H, I, rw', q⟩
  by_cases h0 : 0 ≤ i
  · have hj : i.toNat = j := by
      rw [seqIndex_of h0 h5] at h1
      exact Option.some.inj h1
    exact item_listR pl.isList h0 (by omega) (by rw [hj]; simpa using ew) fin hs
  · have hj : (i + (its.toArray.size : Int)).toNat = j := by
      rw [seqIndex_neg (by omega) h4] at h1
      rw [List.size_toArray, ← hl]
      exact Option.some.inj h1
    exact subscriptTail_builtinR (x := w) pl.isList.typeIs slot_list_getitem.lookup
      (wpAny_getItem_list_neg (Q := fun r s' => r = w ∧ EP X pins σ Q r s') pl.isList (by omega) (by rw [List.size_toArray] <;> omega) (by omega) (by rw [hj]; simpa using ew) ⟨rfl, fin⟩) hs
theorem ix_tup : IxR X (rIxT X.K) := by
  intro value slice pins s σ H x y v u Q I rx ry h hs
  obtain ⟨p, xs, i, z, rfl, rfl, hq, he, q⟩ := h
  cases rx
  obtain ⟨t, rfl⟩ := ry
  obtain ⟨its, r, pl, hz⟩ := I.tuple hq
  obtain ⟨j, h1, h2, h3, h4, h5⟩ := atI_get he
  obtain ⟨w, ew, rw'⟩ := r.get h2
  have hl := r.length
  have hn := line63
  have fin : EP X pins σ Q w s := ⟨z, H, I, rw', q⟩
  exact subscriptTail_builtinR (x := w) pl.typeIs slot_tuple_getitem.lookup
    (getItem_tuple (j := j) (Q := fun r s' => r = w ∧ EP X pins σ Q r s') pl (by omega) (by omega) (by rw [List.size_toArray, ← hl]; exact h1) (by simpa using ew) ⟨rfl, fin⟩) hs
theorem ix_str : IxR X rIxS := by
  intro value slice pins s σ H x y v u Q I rx ry h hs
  obtain ⟨z, i, c, rfl, rfl, hz, he, q⟩ := h
  obtain ⟨t, rfl⟩ := rx
  obtain ⟨t', rfl⟩ := ry
  obtain ⟨j, h1, h2, h3, h4, h5⟩ := atI_get he
  have hl : z.cps.toList.length = z.length := by simp [Str.length]
  rw [hl] at h1 h4 h5
  have hn := line63
  exact tail_any (typeIs_str s z t) slot_str_getitem.lookup (getItem_str (c := c) (by
    have e1 : decide (i < -(2 ^ 63 : Int)) = false := decide_eq_false (by omega)
    have e2 : decide (i ≥ 2 ^ 63) = false := decide_eq_false (by omega)
    rw [e1, e2, Bool.or_false]) (by rw [h1]; simpa using h2) ⟨.str ⟨#[c]⟩, H, I.tok _, ⟨_, rfl⟩, q⟩) hs
def rIx (K : PySem.W.Frag) : R2 := fun x y H Q => rIxL K x y H Q ∨ rIxT K x y H Q ∨ rIxS x y H Q
theorem ix_seq : IxR X (rIx X.K) := ix_list.or (ix_tup.or ix_str)
theorem mapSeq_set (its : List Value) (n j : Nat) (u : Value) : Obj.mapSeq (·.setIfInBounds j u) { cls := .type "list", data := .seq its.toArray n } = { cls := .type "list", data := .seq (its.set j u).toArray n } := by
  simp [Obj.mapSeq]
theorem Inv.lst {pins : List (Addr × Obj)} {σ : St} {H : Hp} {s : Shared} {p : Addr} {xs : List V} (I : Inv X pins σ H s) (h : H p = some (.lst xs)) :
    ∃ (its : List Value) (n : Nat), Vals xs its ∧ s.heap.get? p = some { cls := .type "list", data := .seq its.toArray n } ∧ xs.length ≤ sizeLine := by
  obtain ⟨z, its, n, r, e⟩ := I.hok p _ h
  exact ⟨its, n, r, e, z⟩
theorem Inv.lstUpd {pins : List (Addr × Obj)} {σ : St} {H : Hp} {s : Shared} {p : Addr} {xs ys : List V} {its its' : List Value} {n n' : Nat} {f : Obj → Obj} (I : Inv X pins σ H s) (h : H p = some (.lst xs))
    (ho : s.heap.get? p = some { cls := .type "list", data := .seq its.toArray n }) (hf : f { cls := .type "list", data := .seq its.toArray n } = { cls := .type "list", data := .seq its'.toArray n' }) (r : Vals ys its') (hz : ys.length ≤ sizeLine) (t : Nat) :
    Inv X pins σ (upd H p (.lst ys)) { s with heap := s.heap.update p f, toks := t } := by
  have e : (s.heap.update p f).get? p = some { cls := .type "list", data := .seq its'.toArray n' } := by
    rw [Heap.get?_update_self f ho (by rw [hf] <;> rfl), hf]
  refine I.write (x := p) (e := p) (by rw [h]; trivial) (.inl rfl) (fun b u hb q => (Heap.get?_update_other _ _ (Ne.symm hb)).trans q) ⟨_, e⟩ ?_
  exact ⟨hz, its', n', r, e⟩
def rSetL : V → V → V → Hp → (Hp → Prop) → Prop := fun o i v H Q => ∃ p xs k j, o = .ref p ∧ i = .int k ∧ H p = some (.lst xs) ∧ ixN xs.length k = some j ∧ Q (upd H p (.lst (xs.set j v)))
theorem set_list : PSet X rSetL := by
  intro pins s σ H o i v ov iv u Q I ro ri rv h
  obtain ⟨p, xs, k, j, rfl, rfl, hp, hj, q⟩ := h
  cases ro
  obtain ⟨t, rfl⟩ := ri
  obtain ⟨its, n, r, ho, hz⟩ := I.lst hp
  obtain ⟨h1, h2, h3, h4⟩ := ixN_seq hj
  have hl := r.length
  have hn := line63
  have I' : Inv X pins σ (upd H p (.lst (xs.set j v))) { s with heap := s.heap.update p (Obj.mapSeq (·.setIfInBounds j u)) } :=
    I.lstUpd hp ho (mapSeq_set its n j u) (r.set rv j) (by rw [List.length_set]; exact hz) s.toks
  by_cases h0 : 0 ≤ k
  · have hk : k.toNat = j := by
      rw [seqIndex_of h0 h4] at h1
      exact Option.some.inj h1
    exact PySem.W.ki_setAt ho h0 (by omega) (by rw [List.size_toArray, ← hl]; exact h4) (by rw [hk]; exact ⟨_, I', q⟩)
  · have hk : (k + (its.toArray.size : Int)).toNat = j := by
      rw [seqIndex_neg (by omega) h3] at h1
      rw [List.size_toArray, ← hl]
      exact Option.some.inj h1
    exact PySem.W.ki_setBack ho (by omega) (by rw [List.size_toArray, ← hl]; exact h3) (by omega) (by rw [hk]; exact ⟨_, I', q⟩)
theorem slice_bounds (lo hi : Option Int) (n : Nat) : (sliceBounds lo hi none n).1 = ((HT.sIx n 0 lo : Nat) : Int) ∧ (sliceBounds lo hi none n).2.1 = ((HT.sIx n n hi : Nat) : Int) ∧ (sliceBounds lo hi none n).2.2 = 1 := by
  refine ⟨?_, ?_, rfl⟩
  · cases lo with
    | none => simp [sliceBounds, HT.sIx]
    | some i =>
      simp only [sliceBounds, HT.sIx, Option.getD_none, show (1 : Int) > 0 by decide, if_true]
      by_cases h : i < 0
      · simp only [h, if_true] <;> omega
      · simp only [h, if_false] <;> omega
  · cases hi with
    | none => simp [sliceBounds, HT.sIx]
    | some i =>
      simp only [sliceBounds, HT.sIx, Option.getD_none, show (1 : Int) > 0 by decide, if_true]
      by_cases h : i < 0
      · simp only [h, if_true] <;> omega
      · simp only [h, if_false] <;> omega
theorem slicePick_cut (its : List Value) (lo hi : Option Int) : slicePick its.toArray lo hi none = ((its.drop (HT.sIx its.length 0 lo)).take (HT.sIx its.length its.length hi - HT.sIx its.length 0 lo)).toArray := by
  obtain ⟨h1, h2, h3⟩ := slice_bounds lo hi its.toArray.size
  unfold slicePick
  rw [h1, h2, h3]
  simp only [sliceRange_one, pick_run, List.size_toArray] <;> rfl
def rSlL (K : PySem.W.Frag) : V → Option Int → Option Int → Hp → VK → Prop := fun x lo hi H Q => ∃ a xs, x = .ref a ∧ SqL K H a xs ∧ ∀ p, H p = none → Q (.ref p) (upd H p (.lst (cutV xs lo hi)))
theorem sl_list : SlR X (rSlL X.K) := by
  intro pins s σ H x v vl vu lo hi sl Q I rx hs pl pu h
  obtain ⟨a, xs, rfl, hx, q⟩ := h
  cases rx
  obtain ⟨its, r, ht, hz⟩ := I.list hx
  have hlen := r.length
  refine ⟨"list", _, slot_list_getitem.lookup, ht.isList.typeIs, ?_⟩
  refine wpAny_getItem_list_slice ht.isList hs pl pu .none (by simp) ?_ (by rw [List.size_toArray] <;> omega)
  rw [slicePick_cut, ← hlen]
  refine ⟨.ref s.heap.objs.size, _, I.laid (t' := s.toks) (o := .lst (cutV xs lo hi)) (fun b ob q => Heap.get?_push_of_some _ q) (Nat.le_refl _) ?_, rfl, q _ (I.hok.fresh (Nat.le_refl _))⟩
  exact ⟨Nat.le_trans (cutV_length xs lo hi) hz, _, 0, (r.drop (HT.sIx xs.length 0 lo)).take (HT.sIx xs.length xs.length hi - HT.sIx xs.length 0 lo), Heap.get?_push_size _ rfl⟩
def flatV : V → Bool
  | .non => true
  | .bl _ => true
  | .int _ => true
  | .str _ => true
  | _ => false
def eqV : V → V → Bool
  | .non, .non => true
  | .bl a, .bl b => a == b
  | .bl a, .int b => (if a then 1 else 0) == b
  | .int a, .bl b => a == (if b then 1 else 0)
  | .int a, .int b => a == b
  | .str a, .str b => a == b
  | _, _ => false
theorem eqAt_V {A : Around} {s : Shared} {y x : V} {u v : Value} (ry : RelV y u) (rx : RelV x v) (fy : flatV y = true) (fx : flatV x = true) : SeqAt.EqAt A s u v (eqV y x) := by
  cases y with
  | non =>
    cases ry
    cases x with
    | non => cases rx; exact SeqAt.EqAt.same _
    | bl b => cases rx; exact SeqAt.EqAt.none_bool b
    | int b => obtain ⟨t, rfl⟩ := rx; exact SeqAt.EqAt.none_int b t
    | str b => obtain ⟨t, rfl⟩ := rx; exact SeqAt.EqAt.none_str b t
    | _ => exact absurd (show false = true from fx) Bool.false_ne_true
  | bl a =>
    cases ry
    cases x with
    | non => cases rx; exact SeqAt.EqAt.bool_none a
    | bl b => cases rx; exact SeqAt.EqAt.bool_bool a b
    | int b => obtain ⟨t, rfl⟩ := rx; exact SeqAt.EqAt.bool_int a b t
    | str b => obtain ⟨t, rfl⟩ := rx; exact SeqAt.EqAt.bool_str a b t
    | _ => exact absurd (show false = true from fx) Bool.false_ne_true
  | int a =>
    obtain ⟨t', rfl⟩ := ry
    cases x with
    | non => cases rx; exact SeqAt.EqAt.int_none a t'
    | bl b => cases rx; exact SeqAt.EqAt.int_bool a t' b
    | int b => obtain ⟨t, rfl⟩ := rx; exact SeqAt.EqAt.int_int a t' b t
    | str b => obtain ⟨t, rfl⟩ := rx; exact SeqAt.EqAt.int_str a t' b t
    | _ => exact absurd (show false = true from fx) Bool.false_ne_true
  | str a =>
    obtain ⟨t', rfl⟩ := ry
    cases x with
    | non => cases rx; exact SeqAt.EqAt.str_none a t'
    | bl b => cases rx; exact SeqAt.EqAt.str_bool a t' b
    | int b => obtain ⟨t, rfl⟩ := rx; exact SeqAt.EqAt.str_int a t' b t
    | str b => obtain ⟨t, rfl⟩ := rx; exact SeqAt.EqAt.str_str a t' b t
    | _ => exact absurd (show false = true from fx) Bool.false_ne_true
  | _ => exact absurd (show false = true from fy) Bool.false_ne_true
def eqU (x : V) (u : Value) : Bool := match u with
  | .none => eqV .non x
  | .bool b => eqV (.bl b) x
  | .int i _ => eqV (.int i) x
  | .str z _ => eqV (.str z) x
  | _ => false
theorem eqU_of {x y : V} {u : Value} (r : RelV y u) (f : flatV y = true) : eqU x u = eqV y x := by
  cases y with
  | non => cases r; rfl
  | bl b => cases r; rfl
  | int i => obtain ⟨t, rfl⟩ := r; rfl
  | str z => obtain ⟨t, rfl⟩ := r; rfl
  | _ => exact absurd (show false = true from f) Bool.false_ne_true
theorem any_eqU {x : V} : ∀ {xs : List V} {us : List Value}, Vals xs us → xs.all flatV = true → us.any (eqU x) = xs.any fun y => eqV y x
  | _, _, .nil, _ => rfl
  | y :: xs, u :: us, .cons r t, f => by
    rw [List.all_cons, Bool.and_eq_true] at f
    rw [List.any_cons, List.any_cons, eqU_of r f.1, any_eqU t f.2]
theorem mem_eqAt {A : Around} {s : Shared} {x : V} {v : Value} (rx : RelV x v) (fx : flatV x = true) : ∀ {xs : List V} {us : List Value}, Vals xs us → xs.all flatV = true → ∀ u ∈ us, SeqAt.EqAt A s u v (eqU x u)
  | _, _, .nil, _ => fun u hu => by cases hu
  | y :: xs, u :: us, .cons r t, f => fun u' hu => by
    rw [List.all_cons, Bool.and_eq_true] at f
    rcases List.mem_cons.mp hu with rfl | hu
    · rw [eqU_of r f.1]; exact eqAt_V r rx f.1 fx
    · exact mem_eqAt rx fx t f.2 u' hu
def inV (x : V) (xs : List V) : Bool := xs.any fun y => eqV y x
def rIn (K : PySem.W.Frag) (neg : Bool) : R2 := fun x y H Q => ∃ p xs, y = .ref p ∧ (SqL K H p xs ∨ SqT K H p xs) ∧ flatV x = true ∧ xs.all flatV = true ∧ Q (.bl (if neg then !inV x xs else inV x xs)) H
theorem op_in_seq : OpR X (compareOp .In) (rIn X.K false) := by
  intro pins s σ H x y v u Q I rx ry h
  obtain ⟨p, xs, rfl, hq, fx, fs, q⟩ := h
  cases ry
  rcases hq with hq | hq
  · obtain ⟨its, r, pl, hz⟩ := I.list hq
    refine SeqAt.in_listAt (eqU x) pl.isList (fun w hw => mem_eqAt rx fx r fs w (by simpa using hw)) ⟨.bl _, H, I, rfl, ?_⟩
    rw [show its.toArray.any (eqU x) = its.any (eqU x) by simp, any_eqU r fs]
    exact q
  · obtain ⟨its, r, pl, hz⟩ := I.tuple hq
    refine SeqAt.in_tupleAt (eqU x) pl (fun w hw => mem_eqAt rx fx r fs w (by simpa using hw)) ⟨.bl _, H, I, rfl, ?_⟩
    rw [show its.toArray.any (eqU x) = its.any (eqU x) by simp, any_eqU r fs]
    exact q
theorem op_notIn_seq : OpR X (compareOp .NotIn) (rIn X.K true) := by
  intro pins s σ H x y v u Q I rx ry h
  obtain ⟨p, xs, rfl, hq, fx, fs, q⟩ := h
  cases ry
  rcases hq with hq | hq
  · obtain ⟨its, r, pl, hz⟩ := I.list hq
    refine SeqAt.notIn_listAt (eqU x) pl.isList (fun w hw => mem_eqAt rx fx r fs w (by simpa using hw)) ⟨.bl _, H, I, rfl, ?_⟩
    rw [show its.toArray.any (eqU x) = its.any (eqU x) by simp, any_eqU r fs]
    exact q
  · obtain ⟨its, r, pl, hz⟩ := I.tuple hq
    refine SeqAt.notIn_tupleAt (eqU x) pl (fun w hw => mem_eqAt rx fx r fs w (by simpa using hw)) ⟨.bl _, H, I, rfl, ?_⟩
    rw [show its.toArray.any (eqU x) = its.any (eqU x) by simp, any_eqU r fs]
    exact q
theorem call_list_of : CallR X (.type "list") (fun xs H Q => ∃ p ys, xs = [.ref p] ∧ (SqL X.K H p ys ∨ SqT X.K H p ys) ∧ ∀ l, H l = none → Q (.ref l) (upd H l (.lst ys))) := by
  intro pins s σ H xs us Q I r h
  obtain ⟨p, ys, rfl, hq, q⟩ := h
  obtain ⟨u, rfl, rx⟩ := vals1 r
  cases rx
  have fin : ∀ (its : List Value), Vals ys its → ys.length ≤ sizeLine → ∀ (h' : Heap) (c' : Nat), (∀ b o', s.heap.get? b = some o' → h'.get? b = some o') →
      h'.get? s.heap.objs.size = some { cls := .type "list", dict := none, data := .seq its.toArray c', slots := #[] } → EP X pins σ Q (.ref s.heap.objs.size) { s with heap := h' } := fun its r' hz h' c' kp e =>
    ⟨.ref s.heap.objs.size, _, I.laid (t' := s.toks) kp (Nat.le_refl _) (show ObjOk X.prog X.w _ h' _ (.lst ys) from ⟨hz, its, c', r', e⟩), rfl, q _ (I.hok.fresh (Nat.le_refl _))⟩
  rcases hq with hq | hq
  · obtain ⟨its, r', pl, hz⟩ := I.list hq
    have hlen := r'.length
    obtain ⟨o, ho, hc, n, hd⟩ := pl.isList
    exact call_list_seq p (.inl rfl) ho hc hd (fun h' c' kp e => fin its r' hz h' c' kp e) (by simp only [List.size_toArray] <;> omega)
  · obtain ⟨its, r', pl, hz⟩ := I.tuple hq
    have hlen := r'.length
    obtain ⟨o, ho, hc, n, hd⟩ := pl
    exact call_list_seq p (.inr rfl) ho hc hd (fun h' c' kp e => fin its r' hz h' c' kp e) (by simp only [List.size_toArray] <;> omega)
def tyV (K : PySem.W.Frag) (T : String) (x : V) (H : Hp) : Prop := match x with
  | .str _ => T = "str"
  | .int _ => T = "int"
  | .ref p => (T = "list" ∧ ∃ xs, SqL K H p xs) ∨ (T = "tuple" ∧ ∃ o, K.lookup p = some o ∧ o.cls = .type "tuple" ∧ o.dict = none) ∨
      (T = "dict" ∧ ((∃ kvs, H p = some (.dK kvs)) ∨ ∃ kvs, H p = some (.dT kvs))) ∨ (T = "set" ∧ ∃ S n, H p = some (.set S n))
  | _ => False
theorem tyV_is {pins : List (Addr × Obj)} {σ : St} {H : Hp} {s : Shared} {T : String} {x : V} {v : Value} (I : Inv X pins σ H s) (r : RelV x v) (ty : tyV X.K T x H) :
    s.TypeIs v T ∧ ∀ a, v = .ref a → ∃ ob, s.heap.get? a = some ob ∧ ob.dict = none := by
  cases x with
  | str z =>
    obtain ⟨t, rfl⟩ := r
    cases (show T = "str" from ty)
    exact ⟨typeIs_str s z t, fun _ e => nomatch e⟩
  | int i =>
    obtain ⟨t, rfl⟩ := r
    cases (show T = "int" from ty)
    exact ⟨typeIs_int s i t, fun _ e => nomatch e⟩
  | ref p =>
    cases r
    rcases ty with ⟨rfl, xs, hq⟩ | ⟨rfl, o, hk, hc, hd⟩ | ⟨rfl, hk⟩ | ⟨rfl, S, n, hk⟩
    · obtain ⟨its, _, pl, _⟩ := I.list hq
      refine ⟨pl.isList.typeIs, fun a e => ?_⟩
      cases e
      obtain ⟨o, n, e, c, hd, _⟩ := pl
      exact ⟨o, e, hd⟩
    · refine ⟨⟨o, I.kIn p o hk, hc⟩, fun a e => ?_⟩
      cases e
      exact ⟨o, I.kIn _ o hk, hd⟩
    · have z : ∃ o, s.heap.get? p = some o ∧ o.ExactDict := by
        rcases hk with ⟨kvs, hk⟩ | ⟨kvs, hk⟩
        · obtain ⟨_, _, _, _, o, _, _, e, ex, _⟩ := I.hok p _ hk
          exact ⟨o, e, ex⟩
        · obtain ⟨_, _, _, _, o, _, _, e, ex, _⟩ := I.hok p _ hk
          exact ⟨o, e, ex⟩
      obtain ⟨o, e, ex⟩ := z
      refine ⟨⟨o, e, ex.1⟩, fun a e2 => ?_⟩
      cases e2
      exact ⟨o, e, ex.2.1⟩
    · obtain ⟨o, _, _, _, e, ex, _⟩ := I.hok p _ hk
      refine ⟨⟨o, e, ex.1⟩, fun a e2 => ?_⟩
      cases e2
      exact ⟨o, e, ex.2.1⟩
  | _ => exact False.elim ty
def tBM0 (K : PySem.W.Frag) (T : String) (r : V → List V → Hp → VK → Prop) (to : TE) : TE := fun σ H Q => to σ H fun x H1 => tyV K T x H1 ∧ r x [] H1 Q
def tBM (K : PySem.W.Frag) (T : String) (r : V → List V → Hp → VK → Prop) (to : TE) (t : TA) : TE := fun σ H Q => to σ H fun x H1 => tyV K T x H1 ∧ t σ H1 fun xs H2 => r x xs H2 Q
variable {o e : Expr} {es : List Expr} {to : TE} {t : TA} {name : Str} {apos cpos : Pos} {T id : String} {r : V → List V → Hp → VK → Prop}
theorem pe_bm0 (pa : PlainAttrs T) (slot : Slot T name id) (hty : typeOf (.builtin id) = pure (.type "method_descriptor")) (hm : MtR X id r) (ho : PE X o to)
    (hbase : attributeBase o name X.env (eval o X.env) = eval o X.env := by rfl) (hline : (apos.endLine == cpos.line) = true := by rfl) : PE X (.Call (.Attribute o name apos) [] [] cpos) (tBM0 X.K T r to) := by
  intro pins s σ H Q I h
  refine wpAny_Call_method0_late hbase hline (thn (ho pins s σ H _ I h) fun v s1 ⟨x, H1, I1, r1, ty, q1⟩ => ?_)
  obtain ⟨h1, h2⟩ := tyV_is I1 r1 ty
  exact ⟨T, id, pa, slot, hty, h1, h2, Calls.callWith_builtin rfl (PySem.evalArgs_none (hm pins s1 σ H1 x [] v [] Q I1 r1 .nil q1))⟩
theorem pe_bm (pa : PlainAttrs T) (slot : Slot T name id) (hty : typeOf (.builtin id) = pure (.type "method_descriptor")) (hm : MtR X id r) (ho : PE X o to) (ha : PA X (e :: es) t)
    (hbase : attributeBase o name X.env (eval o X.env) = eval o X.env := by rfl)
    (hfew : ((backTo cpos (starEach (e :: es) X.env)).all (fun x => !x.1) && (backToKw cpos (keywordEach [] X.env)).all (fun x => x.1.isSome)
      && decide ((e :: es).length + ([] : List Keyword).length + (if ([] : List Keyword).isEmpty then 0 else 1) < 30)) = true := by rfl)
    (hline : (apos.endLine == cpos.line) = true := by rfl) (hs : starEach (e :: es) X.env = (false, eval e X.env) :: starEach es X.env := by rfl) (hplain : (backTo cpos (starEach es X.env)).any (·.1) = false := by rfl) :
    PE X (.Call (.Attribute o name apos) (e :: es) [] cpos) (tBM X.K T r to t) := by
  intro pins s σ H Q I h
  refine wpAny_Call_method_late hbase hfew hline rfl (thn (ho pins s σ H _ I h) fun v s1 ⟨x, H1, I1, r1, ty, q1⟩ => ?_)
  obtain ⟨h1, h2⟩ := tyV_is I1 r1 ty
  refine ⟨T, id, pa, slot, hty, h1, h2, ?_⟩
  have hA := ha cpos pins s1 σ H1 _ I1 q1
  rw [hs] at hA ⊢
  refine Calls.callWith_builtin (by show (false || (backTo cpos (starEach es X.env)).any (·.1)) = false; rw [hplain] <;> rfl) (Calls.evalArgs_plain ?_)
  exact thn hA fun us s2 ⟨vs, H2, I2, r2, q2⟩ => hm pins s2 σ H2 x vs v us Q I2 r1 r2 q2
end
end L2
namespace L2
open PySem PySem.Spec PyProof.Rows
def MtM (X : Cx) (id : String) (r : V → List V → Hp → VK → Prop) : Prop :=
  ∀ (pins : List (Addr × Obj)) (s : Shared) (σ : St) (H : Hp) (x : V) (xs : List V) (v : Value) (us : List Value) (Q : VK), Inv X pins σ H s → RelV x v → Vals xs us → r x xs H Q →
    wpAny (model X.prog X.w) X.A (call (.builtin id) (v :: us)) (EP X pins σ Q) X.xe s
theorem Vals.one : ∀ {x : V} {us : List Value}, Vals [x] us → ∃ u, us = [u] ∧ RelV x u
  | _, _, .cons r .nil => ⟨_, rfl, r⟩
theorem Vals.two : ∀ {x y : V} {us : List Value}, Vals [x, y] us → ∃ u v, us = [u, v] ∧ RelV x u ∧ RelV y v
  | _, _, _, .cons r (.cons q .nil) => ⟨_, _, rfl, r, q⟩
theorem Vals.zero : ∀ {us : List Value}, Vals [] us → us = []
  | _, .nil => rfl
theorem Vals.dropLast {xs : List V} {us : List Value} (h : Vals xs us) : Vals xs.dropLast us.dropLast := by
  induction h with
  | nil => exact .nil
  | cons r t ih =>
    cases t with
    | nil => exact .nil
    | cons q t' => exact .cons r ih
theorem Vals.reverse {xs : List V} {us : List Value} (h : Vals xs us) : Vals xs.reverse us.reverse := by
  induction h with
  | nil => exact .nil
  | cons r t ih => rw [List.reverse_cons, List.reverse_cons]; exact Vals.append ih (.cons r .nil)
theorem Vals.rep {xs : List V} {us : List Value} (h : Vals xs us) : ∀ k : Nat, Vals (List.replicate k xs).flatten (List.replicate k us).flatten
  | 0 => .nil
  | k + 1 => by
    rw [List.replicate_succ, List.replicate_succ, List.flatten_cons, List.flatten_cons]
    exact Vals.append h (Vals.rep h k)
theorem erase_last {α : Type} (l : List α) : l.eraseIdx (l.length - 1) = l.dropLast := by
  induction l with
  | nil => rfl
  | cons a r ih =>
    cases r with
    | nil => rfl
    | cons b r =>
      have e : (a :: b :: r).length - 1 = ((b :: r).length - 1) + 1 := by
        have h1 : (a :: b :: r).length = r.length + 2 := rfl
        have h2 : (b :: r).length = r.length + 1 := rfl
        omega
      rw [e, List.eraseIdx_cons_succ, ih]
      all_goals rfl
theorem foldl_rep (its : List Value) : ∀ (k : Nat) (acc : List Value),
    List.foldl (fun x1 x2 => x1 ++ x2) acc.toArray (List.replicate k its.toArray) = (acc ++ (List.replicate k its).flatten).toArray
  | 0, acc => by simp
  | k + 1, acc => by
    have e : acc.toArray ++ its.toArray = (acc ++ its).toArray := by simp
    have e2 : (acc ++ its) ++ (List.replicate k its).flatten = acc ++ (List.replicate (k + 1) its).flatten := by
      rw [List.replicate_succ, List.flatten_cons, List.append_assoc]
    rw [← e2, ← foldl_rep its k (acc ++ its), ← e, List.replicate_succ, List.foldl_cons]
section
variable {X : Cx} {pins : List (Addr × Obj)} {σ : St} {H : Hp} {s : Shared} {l b : Addr} {xs ys zs : List V}
theorem Inv.lset {its its' : List Value} {n : Nat} {f : Array Value → Array Value} {t' : Nat} (I : Inv X pins σ H s) (hH : H l = some (.lst xs))
    (e : s.heap.get? l = some { cls := .type "list", data := .seq its.toArray n }) (hf : f its.toArray = its'.toArray) (hv : Vals ys its') (hz : ys.length ≤ sizeLine) :
    Inv X pins σ (upd H l (.lst ys)) { s with heap := s.heap.update l (Obj.mapSeq f), toks := t' } := by
  have q := PySem.IsL.update e f
  rw [hf] at q
  refine I.write (x := l) (e := l) (by rw [hH]; exact trivial) (.inl rfl) (fun b' u hb hu => (Heap.get?_update_other s.heap (Obj.mapSeq f) (Ne.symm hb)).trans hu) ⟨_, q⟩ ?_
  exact ⟨hz, its', _, hv, q⟩
theorem Inv.lnew {its : List Value} {t' : Nat} (I : Inv X pins σ H s) (hv : Vals ys its) (hz : ys.length ≤ sizeLine) :
    Inv X pins σ (upd H s.heap.objs.size (.lst ys)) { s with heap := s.heap.push { cls := .type "list", data := .seq its.toArray }, toks := t' } :=
  I.laid (fun _ _ q => Heap.get?_push_of_some _ q) (Nat.le_refl _) ⟨hz, its, 0, hv, Heap.get?_push_size _ rfl⟩
theorem Inv.fresh (I : Inv X pins σ H s) : H s.heap.objs.size = none := I.hok.fresh (Nat.le_refl _)
theorem Inv.lstM (I : Inv X pins σ H s) (hH : H l = some (.lst xs)) : xs.length ≤ sizeLine ∧ ∃ (its : List Value) (n : Nat), Vals xs its ∧ xs.length = its.length ∧ s.heap.get? l = some { cls := .type "list", data := .seq its.toArray n } := by
  obtain ⟨z, its, n, r, e⟩ := I.hok l _ hH
  exact ⟨z, its, n, r, r.length, e⟩
theorem notLongL {n : Nat} (h : n ≤ sizeLine) : Builtin.List.listTooLong n = false := by
  unfold Builtin.List.listTooLong
  exact decide_eq_false (by omega)
end
section
variable {X : Cx}
def rAppend : V → List V → Hp → VK → Prop := fun x vs H Q => ∃ l xs y, x = .ref l ∧ vs = [y] ∧ H l = some (.lst xs) ∧ xs.length < sizeLine ∧ Q .non (upd H l (.lst (xs ++ [y])))
theorem mt_append : MtM X "list.append" rAppend := by
  intro pins s σ H x vs v us Q I rx rv h
  obtain ⟨l, xs, y, rfl, rfl, hH, hz, q⟩ := h
  cases rx
  obtain ⟨u, rfl, ru⟩ := rv.one
  obtain ⟨z, its, n, r, hl, e⟩ := I.lstM hH
  refine call_meets F.slot_list_append ⟨_, e, rfl⟩ F.entry_list_append (F.args_list_append_2 _ _) (PySem.list_append l its.toArray n u (by rw [List.size_toArray]; omega)) ⟨e, ?_⟩
  refine ⟨.non, _, I.lset (its' := its ++ [u]) hH e (by simp) (r.append (.cons ru .nil)) ?_, rfl, q⟩
  rw [List.length_append, List.length_singleton]
  omega
def rExtend : V → List V → Hp → VK → Prop := fun x vs H Q => ∃ l b xs zs, x = .ref l ∧ vs = [.ref b] ∧ H l = some (.lst xs) ∧ H b = some (.lst zs) ∧ xs.length + zs.length ≤ sizeLine ∧ Q .non (upd H l (.lst (xs ++ zs)))
theorem mt_extend : MtM X "list.extend" rExtend := by
  intro pins s σ H x vs v us Q I rx rv h
  obtain ⟨l, b, xs, zs, rfl, rfl, hH, hB, hz, q⟩ := h
  cases rx
  obtain ⟨u, rfl, ru⟩ := rv.one
  cases ru
  obtain ⟨z, its, n, r, hl, e⟩ := I.lstM hH
  obtain ⟨z2, its2, n2, r2, hl2, e2⟩ := I.lstM hB
  have hsz : its.toArray.size + its2.toArray.size ≤ sizeLine := by rw [List.size_toArray, List.size_toArray]; omega
  have hlong : ¬ (!its.toArray.isEmpty && Builtin.List.listTooLong (its.toArray.size + its2.toArray.size)) = true := by
    rw [notLongL hsz, Bool.and_false]
    exact Bool.false_ne_true
  refine call_meets F.slot_list_extend ⟨_, e, rfl⟩ F.entry_list_extend (F.args_list_extend_2 _ _)
    (AutoSeq1.list_extend_list_list_0 l its.toArray n b its2.toArray n2 hlong (by rw [List.size_toArray]; omega) (by omega)) ⟨e, e2, ?_⟩
  refine ⟨.non, _, I.lset (its' := its ++ its2) hH e (by simp) (r.append r2) ?_, rfl, q⟩
  rw [List.length_append]
  omega
def rPop : V → List V → Hp → VK → Prop := fun x vs H Q => ∃ l xs y, x = .ref l ∧ vs = [] ∧ H l = some (.lst xs) ∧ xs[xs.length - 1]? = some y ∧ Q y (upd H l (.lst xs.dropLast))
theorem mt_pop : MtM X "list.pop" rPop := by
  intro pins s σ H x vs v us Q I rx rv h
  obtain ⟨l, xs, y, rfl, rfl, hH, hy, q⟩ := h
  cases rx
  have hus := rv.zero
  subst hus
  obtain ⟨z, its, n, r, hl, e⟩ := I.lstM hH
  obtain ⟨u, hu, ru⟩ := r.get hy
  have hy' : its.toArray[its.toArray.size - 1]? = some u := by
    show its.toArray[its.length - 1]? = some u
    rw [← Array.getElem?_toList, ← hl]
    exact hu
  refine call_meets F.slot_list_pop ⟨_, e, rfl⟩ F.entry_list_pop (F.args_list_pop_1 _) (MeetsSeq.list_pop_last l its.toArray n u hy' (by rw [List.size_toArray]; omega)) ⟨e, ?_⟩
  refine ⟨y, _, I.lset (its' := its.dropLast) hH e ?_ r.dropLast ?_, ru, q⟩
  · show its.toArray.eraseIdxIfInBounds (its.toArray.size - 1) = its.dropLast.toArray
    rw [List.size_toArray, List.eraseIdxIfInBounds_toArray, erase_last]
  · rw [List.length_dropLast]
    omega
def rReverse : V → List V → Hp → VK → Prop := fun x vs H Q => ∃ l xs, x = .ref l ∧ vs = [] ∧ H l = some (.lst xs) ∧ Q .non (upd H l (.lst xs.reverse))
theorem mt_reverse : MtM X "list.reverse" rReverse := by
  intro pins s σ H x vs v us Q I rx rv h
  obtain ⟨l, xs, rfl, rfl, hH, q⟩ := h
  cases rx
  have hus := rv.zero
  subst hus
  obtain ⟨z, its, n, r, hl, e⟩ := I.lstM hH
  refine call_meets F.slot_list_reverse ⟨_, e, rfl⟩ F.entry_list_reverse (F.args_list_reverse_1 _) (AutoSeq1.list_reverse_list_0 l its.toArray n (by rw [List.size_toArray]; omega)) ⟨e, ?_⟩
  refine ⟨.non, _, I.lset (its' := its.reverse) hH e (by simp) r.reverse ?_, rfl, q⟩
  rw [List.length_reverse]
  omega
def rCat : R2 := fun x y H Q => ∃ l b xs zs, x = .ref l ∧ y = .ref b ∧ H l = some (.lst xs) ∧ H b = some (.lst zs) ∧ xs.length + zs.length ≤ sizeLine ∧ ∀ p, H p = none → Q (.ref p) (upd H p (.lst (xs ++ zs)))
theorem op_cat : OpR X (binaryOp .Add) rCat := by
  intro pins s σ H x y v u Q I rx ry h
  obtain ⟨l, b, xs, zs, rfl, rfl, hH, hB, hz, q⟩ := h
  cases rx
  cases ry
  obtain ⟨z, its, n, r, hl, e⟩ := I.lstM hH
  obtain ⟨z2, its2, n2, r2, hl2, e2⟩ := I.lstM hB
  refine PySem.P.add_list e e2 ?_ (by rw [List.size_toArray, List.size_toArray]; omega)
  have ea : its.toArray ++ its2.toArray = (its ++ its2).toArray := by simp
  rw [ea]
  exact ⟨.ref _, _, I.lnew (t' := s.toks) (r.append r2) (by rw [List.length_append]; omega), rfl, q _ I.fresh⟩
def rRep : R2 := fun x y H Q => ∃ l k xs, x = .ref l ∧ y = .int k ∧ H l = some (.lst xs) ∧ -(2 ^ 63) ≤ k ∧ k < 2 ^ 63 ∧ xs.length * k.toNat ≤ sizeLine ∧
  ∀ p, H p = none → Q (.ref p) (upd H p (.lst (List.replicate k.toNat xs).flatten))
theorem len_rep {α : Type} (xs : List α) (k : Nat) : (List.replicate k xs).flatten.length = k * xs.length := by
  induction k with
  | zero => simp
  | succ k ih => rw [List.replicate_succ, List.flatten_cons, List.length_append, ih, Nat.succ_mul, Nat.add_comm]
theorem op_rep : OpR X (binaryOp .Mult) rRep := by
  intro pins s σ H x y v u Q I rx ry h
  obtain ⟨l, k, xs, rfl, rfl, hH, h1, h2, hz, q⟩ := h
  cases rx
  obtain ⟨t, rfl⟩ := ry
  obtain ⟨z, its, n, r, hl, e⟩ := I.lstM hH
  have hlen : its.toArray.size * k.toNat ≤ sizeLine := by rw [List.size_toArray, ← hl]; exact hz
  have hcap : ¬ its.toArray.size * k.toNat > (2 ^ 63 - 1) / 8 := by
    have : (sizeLine : Nat) ≤ (2 ^ 63 - 1) / 8 := by decide
    omega
  have hfit : ¬ (!Builtin.List.listFitsIndex k) = true := by
    rw [fitsIndex_both h1 h2]
    exact Bool.false_ne_true
  have hlong : ¬ Builtin.List.listTooLong (its.toArray.size * k.toNat) = true := by
    rw [notLongL hlen]
    exact Bool.false_ne_true
  have hnew : List.foldl (fun x1 x2 => x1 ++ x2) #[] (List.replicate (if its.toArray.isEmpty = true then 0 else k.toNat) its.toArray) = (List.replicate k.toNat its).flatten.toArray := by
    have f0 : ∀ m : Nat, List.foldl (fun x1 x2 => x1 ++ x2) #[] (List.replicate m its.toArray) = (List.replicate m its).flatten.toArray := fun m => by
      have := foldl_rep its m []
      rw [List.nil_append] at this
      exact this
    rw [f0]
    cases its with
    | nil => simp
    | cons a r' => rw [if_neg (by simp)]
  refine wpAny_binaryOp_repeat_ref (T := "list") (U := "int") (by decide) ⟨_, e, rfl⟩ (fun s' => typeIs_int s' k t) noFill_list_mul F.fills_int_mul F.slot_int_rmul repeat_list F.slot_int_index.lookup
    (call_meets F.slot_int_rmul (typeIs_int s k t) F.entry_int_rmul (F.args_int_rmul_2 _ _) (int___rmul___int_list k t l its.toArray n)
      ⟨e, rfl, ⟨_, e, rfl⟩, call_meets F.slot_list_mul ⟨_, e, rfl⟩ F.entry_list_mul (F.args_list_mul_2 _ _) (AutoListH.list___mul___list_int_3 l its.toArray n k t hfit hcap hlong) ⟨e, ?_⟩⟩)
  rw [hnew]
  exact ⟨.ref _, _, I.lnew (t' := s.toks) (r.rep k.toNat) (by rw [len_rep, Nat.mul_comm]; exact hz), rfl, q _ I.fresh⟩
end
section
variable {prog : Program} {w : World} {A : Around} {E : Value → Shared → Prop} {s : Shared}
end
section
variable {X : Cx}
end
end L2
namespace Att
open PySem PySem.W PySem.Calls PyProof.Rows
theorem ints_of_wellAll {P : Params} {h : Heap} : ∀ (ns : List Int) (vs : List Value), WellAll P h vs (ns.map WData.int) → IntsAre vs ns := by
  intro ns
  induction ns with
  | nil =>
    intro vs w
    rw [List.map_nil] at w
    cases w
    exact .nil
  | cons n ns ih =>
    intro vs w
    rw [List.map_cons] at w
    cases w with
    | cons a b =>
      cases a
      exact .cons _ _ (ih _ b)
theorem script_of {l : OpenLaw} {n : Nat} (hn : l.most = some n) {P : Params} {h : Heap} {args : List WData} {vals : List Value}
    (hpre : l.row.toRowW.claim.pre args = true) (hwl : WellAll P h vals args) :
    ∃ a vs ns, vals = [Value.ref a] ∧ args = [WData.list (ns.map WData.int)] ∧ h.get? a = some { cls := .type "list", data := .seq vs.toArray } ∧ IntsAre vs ns ∧ ns.length ≤ n := by
  have hsh : WShape.hasAll [] args [.list .int] = true := (pre_splitW hpre).1
  have hc : l.pre.holds [] { args := args } = true := (pre_splitW hpre).2
  obtain ⟨d, r, rfl, h1, h2⟩ := hasAllW_cons hsh
  obtain rfl := hasAllW_nil h2
  obtain ⟨xs, rfl, h3⟩ := hasW_list h1
  obtain ⟨ns, rfl⟩ := items_int h3
  have hlen : ns.length ≤ n := by
    unfold OpenLaw.pre at hc
    have h4 : (WTm.not (.lt (.lit (.int (n : Int))) (.len (.arg 0)))).holds [] { args := [.list (ns.map .int)] } = true := by
      have h4 := (holds_andW hc).1
      rw [hn] at h4
      exact h4
    have h5 := condW_of h4 (w_not (w_lt w_lit (w_len_list (w_arg rfl))))
    rw [List.length_map] at h5
    refine Nat.le_of_not_lt fun q => ?_
    have q' : (n : Int) < ((ns.length : Nat) : Int) := by omega
    first
      | (rw [decide_eq_true q'] at h5; exact absurd h5 (by decide))
      | (simp at h5; omega)
  cases hwl with
  | cons w1 w2 =>
    cases w2
    cases w1 with
    | list ho hall => exact ⟨_, _, ns, rfl, rfl, ho, ints_of_wellAll ns _ hall, hlen⟩
theorem post_true (l : OpenLaw) (args : List WData) : l.row.toRowW.claim.post args (.bool true) args = true :=
  postW_of (r := l.row.toRowW) (X := (true == true))
    (show WShape.has [] (.bool true) .bool = true by first | rfl | decide | simp [WShape.has, WShape.arms, WShape.armsAll])
    (show (WTm.eq .res (.lit (.bool true))).value [] { args := args, res := some (.bool true), after := args } = some (.bool (true == true)) from w_eq_bool (w_res rfl) w_lit) rfl
theorem attach_call {l : OpenLaw} {n : Nat} {q : Program} {loose : List Str} {XP : (Str → Option Value) → Heap → Prop} {YP : World → Heap → Prop} {d : DefRec}
    (hn : l.most = some n) (hdf : d.params.defaults = [])
    (call : ∀ (w : World) (s₀ s₁ : Shared) (mg mb : Str → Option Value) (fa : Addr) (o : Obj) (pm cd doc : Value) (a : Addr) (vs : List Value) (ns : List Int),
      Ground q loose [] XP w s₀ mg mb s₁.heap → YP w s₁.heap →
      s₁.heap.get? fa = some o → o.data = .func (docDef d.name d.params d.body d.scope pm cd doc) → s₁.heap.CodeRec cd d.name → mg d.name = some (.ref fa) →
      s₁.heap.get? a = some { cls := .type "list", data := .seq vs.toArray } → IntsAre vs ns → ns.length ≤ n → s₁.gens = #[] →
      codeAny (model l.prog w) callerA (.call (.ref fa) ⟨[.ref a], []⟩) (fun r s' => r = .ok (.ret (.bool true)) ∧ OldK s₁.heap s'.heap ∧ s'.os = s₁.os ∧ AllBare s'.gens) s₁) :
    WalkO q loose XP YP l.row.toRowW d [] (fun f vs => PySem.call f vs) := by
  intro w s₀ s₁ mg mb G Y fa o pm cd doc dV kV ho hd hcd hD hmg hg args vals as hpre hlay hrd hwl hlo
  obtain rfl : dV = .none := Dflts.none hD hdf
  obtain rfl : kV = .none := Dflts.noKw hD
  obtain ⟨a, vs, ns, rfl, rfl, hobj, hints, hlen⟩ := script_of hn hpre hwl
  refine enter_call (codeAny_mono (call w s₀ s₁ mg mb fa o pm cd doc a vs ns G Y ho (fd_plain hd) hcd hmg hobj hints hlen hg) fun r s' hq => ?_)
  obtain ⟨rfl, h2, h3, h4⟩ := hq
  exact ⟨.inl ⟨.bool true, .bool true, [], rfl, fun _ => rfl, .bool true, post_true l _, fun _ => ⟨List.Pairwise.nil, fun _ hm => (nomatch hm)⟩⟩, h2, h3, h4⟩
section
variable {prog : Program} {w : World} {A : Around} {E : Value → Shared → Prop} {s : Shared} {K : Frag}
end
end Att
namespace L2
open PySem PySem.Spec PyProof.Rows
theorem vals_ints : ∀ {vs : List Value} {ns : List Int}, IntsAre vs ns → Vals (ns.map V.int) vs
  | _, _, .nil => .nil
  | _, _, .cons n t h => .cons ⟨t, rfl⟩ (vals_ints h)
def Only (H : Hp) : Prop := ∀ b, H b = none ∨ ∃ o xs, H b = some (.frz o (.lst xs))
theorem law_call {P : Program} {w : World} {K : PySem.W.Frag} {mg mb : Str → Option Value} {CX : CXT} {k : Nat} {fa a : Addr} {fd : FuncData} {x : Str} {sp : Sp} {s₁ : Shared} {vs : List Value} {ns : List Int}
    (KX : K.In s₁.heap) (hns : s₁.heap.Ns mainGlobals mg) (hb : s₁.heap.Ns builtinsNs mb) (hbb : ∀ x : Str, x ≠ "__name__" → mb x = bootBuiltins x) (hlim : s₁.heap.NoLimit) (hg : s₁.gens = #[])
    (ha : s₁.heap.get? a = some { cls := .type "list", data := .seq vs.toArray }) (hi : IntsAre vs ns) (hl : ns.length ≤ sizeLine) (hr : Room k callerA)
    (F : ∀ base : Heap, K.In base → base.Ns mainGlobals mg → FnOk P w K mg base CX k fa fd [x] sp) (hbind : ∀ (s : Shared) (u : Value), BindsTo s fd ⟨[u], []⟩ [(x, u)])
    (hsp : ∀ H : Hp, Only H → SqL K H a (ns.map V.int) → sp [.ref a] H (fun v _ => v = .bl true) fun _ _ _ => False)
    (hCX : ∀ H e s', CX [] H s₁ (fun _ _ _ => False) e s' → False) :
    codeAny (model P w) callerA (.call (.ref fa) ⟨[.ref a], []⟩) (fun r s' => r = .ok (.ret (.bool true)) ∧ OldK s₁.heap s'.heap ∧ s'.os = s₁.os ∧ AllBare s'.gens) s₁ := by
  have rv := vals_ints hi
  have lenV := hi.length
  have core : ∀ H : Hp, Only H → SqL K H a (ns.map V.int) → HOk P w H s₁.heap → (∀ b, H b ≠ none → b = a) → (H a ≠ none → K.lookup a = none) →
      codeAny (model P w) callerA (.call (.ref fa) ⟨[.ref a], []⟩) (fun r s' => r = .ok (.ret (.bool true)) ∧ OldK s₁.heap s'.heap ∧ s'.os = s₁.os ∧ AllBare s'.gens) s₁ := by
    intro H hO hS hok hA hK
    have base_of : ∀ {b : Addr} {o : Obj}, s₁.heap.get? b = some o → H b = none → (hidT s₁.heap H).get? b = some o := fun e n => hidT_get e n
    have noA : ∀ {b : Addr} {o : Obj} {es : Array DictEntry} {ep : Nat}, s₁.heap.get? b = some o → o.data = .dict es ep → H b = none := fun {b o es ep} e d => by
      cases q : H b with
      | none => rfl
      | some u =>
        have e' : b = a := hA b (by rw [q]; simp)
        subst e'
        rw [ha] at e; cases e
        have d' : Data.seq vs.toArray _ = Data.dict es ep := d
        cases d'
    have nsK : ∀ {b : Addr} {m : Str → Option Value}, s₁.heap.Ns b m → (hidT s₁.heap H).Ns b m := fun {b m} ⟨o, es, ep, e, d, r⟩ => ⟨o, es, ep, base_of e (noA e d), d, r⟩
    have hKb : K.In (hidT s₁.heap H) := fun b o e => base_of (KX b o e) (by
      cases q : H b with
      | none => rfl
      | some u =>
        have e' : b = a := hA b (by rw [q]; simp)
        subst e'
        rw [hK (by rw [q]; simp)] at e; cases e)
    have hM : Mod K mg (hidT s₁.heap H) := ⟨hKb, nsK hns, ⟨mb, nsK hb, hbb⟩, let ⟨mc, h1, h2⟩ := hlim; ⟨mc, nsK h1, h2⟩⟩
    have e0 : Env0 P w K mg (hidT s₁.heap H) callerA [] s₁ H := ⟨rfl, hM, fun b o e => of_hidT e, Nat.le_of_eq (hidT_size _ _), trivial, fun b hb => absurd (show b ∈ ([] : List Addr) from hb) (by simp), hok, .of_eq hg⟩
    refine codeAny_mono ((F _ hKb (nsK hns)).run callerA [] s₁ H ⟨[.ref a], []⟩ [.ref a] [.ref a] _ _ hr e0 (hbind s₁ (.ref a)) (.cons rfl .nil) (hsp H hO hS)) fun r s' h => ?_
    cases r with
    | error e => exact (hCX H e s' h).elim
    | ok fl =>
      cases fl with
      | next => exact False.elim h
      | brk => exact False.elim h
      | cont => exact False.elim h
      | ret u =>
        obtain ⟨v, H', os, bare, un, hok', r', q⟩ := h
        have q' : v = .bl true := q
        subst q'
        obtain rfl : u = Value.bool true := r'
        refine ⟨rfl, OldK.of_keep fun b o e => ?_, os, bare⟩
        cases q : H b with
        | none => exact un.keep b o e q (by intro z; exact absurd (show b ∈ ([] : List Addr) from z) (by simp)) (by simp)
        | some u =>
          rcases hO b with z | ⟨ob, xs, z⟩
          · rw [q] at z; cases z
          · have z2 := un.frzs b ob _ z
            obtain ⟨e1, _⟩ := hok b _ z
            obtain ⟨e2, _⟩ := hok' b _ z2
            rw [e] at e1; cases e1
            exact e2
  cases hk : K.lookup a with
  | some o =>
    have e := KX a o hk
    rw [ha] at e
    cases e
    refine core (fun _ => none) (fun _ => .inl rfl) (.inr ⟨_, vs.toArray, _, hk, rfl, rfl, rfl, by rw [List.size_toArray, lenV]; exact hl, by simpa using rv⟩) (fun b u z => by have z' : (none : Option HO) = some u := z; cases z') (fun b z => absurd rfl z) fun z => absurd rfl z
  | none =>
    refine core (fun b => if b = a then some (.frz { cls := .type "list", data := .seq vs.toArray } (.lst (ns.map V.int))) else none) (fun b => ?_) (.inl (.inr ⟨{ cls := .type "list", data := .seq vs.toArray }, if_pos rfl⟩)) (fun b u z => ?_) (fun b z => ?_) fun _ => hk
    · by_cases hb : b = a
      · exact .inr ⟨_, _, if_pos hb⟩
      · exact .inl (if_neg hb)
    · by_cases hb : b = a
      · have z' := (if_pos hb).symm.trans z
        cases z'
        subst hb
        exact ⟨ha, by rw [List.length_map]; exact hl, vs, _, rv, ha⟩
      · have z' := (if_neg hb).symm.trans z
        cases z'
    · by_cases hb : b = a
      · exact hb
      · exact absurd (if_neg hb) z
end L2
namespace L2
open PySem PySem.Spec PyProof.Rows
theorem walk_of {l : PySem.W.OpenLaw} {n k : Nat} {q : Program} {loose : List Str} {XP : (Str → Option Value) → Heap → Prop} {YP : World → Heap → Prop} {d : DefRec} {K : Params → PySem.W.Frag} {CX : World → CXT} {sp : World → Sp} {x : Str}
    (hn : l.most = some n) (hn2 : n ≤ sizeLine) (hdf : d.params.defaults = []) (hr : Room k callerA)
    (hY : ∀ (w : World) (h : Heap), YP w h → (K w.params).In h)
    (F : ∀ (w : World) (mg : Str → Option Value) (fa : Addr) (h : Heap), (K w.params).In h → h.Ns mainGlobals mg → mg d.name = some (.ref fa) →
      ∃ fd : FuncData, (∀ (s : Shared) (u : Value), BindsTo s fd ⟨[u], []⟩ [(x, u)]) ∧
        ∀ base : Heap, (K w.params).In base → base.Ns mainGlobals mg → FnOk l.prog w (K w.params) mg base (CX w) k fa fd [x] (sp w))
    (hsp : ∀ (w : World) (H : Hp) (a : Addr) (ns : List Int), ns.length ≤ n → Only H → SqL (K w.params) H a (ns.map V.int) → sp w [.ref a] H (fun v _ => v = .bl true) fun _ _ _ => False)
    (hCX : ∀ (w : World) (H : Hp) (s : Shared) (e : Value) (s' : Shared), CX w [] H s (fun _ _ _ => False) e s' → False) :
    PySem.W.WalkO q loose XP YP l.row.toRowW d [] (fun f vs => PySem.call f vs) := by
  refine Att.attach_call hn hdf fun w s₀ s₁ mg mb fa o pm cd doc a vs ns G Y ho hd hcd hmg hobj hints hlen hg => ?_
  have KX := hY w _ Y
  obtain ⟨fd, hb, hF⟩ := F w mg fa _ KX G.T.g hmg
  exact law_call KX G.T.g G.T.b G.T.builtins G.T.nolimit hg hobj hints (Nat.le_trans hlen hn2) hr hF hb (fun H hO hS => hsp w H a ns hlen hO hS) fun H e s' => hCX w H s₁ e s'
end L2
namespace L2
open PySem PySem.Spec PyProof.Rows
def inClass (s : Stmt) (j : Nat) : Stmt := match s with
  | .ClassDef _ _ _ body _ _ _ _ _ _ _ => body.getD j (.Pass ⟨0, 0, 0, 0⟩)
  | _ => .Pass ⟨0, 0, 0, 0⟩
def defArgs (s : Stmt) : Arguments := match s with
  | .FunctionDef _ a _ _ _ _ _ _ _ _ => a
  | _ => { posonlyargs := [], args := [], vararg := none, kwonlyargs := [], kw_defaults := [], kwarg := none, defaults := [] }
def defBody (s : Stmt) : List Stmt := match s with
  | .FunctionDef _ _ b _ _ _ _ _ _ _ => b
  | _ => []
def defScope (s : Stmt) : Scope := match s with
  | .FunctionDef _ _ _ _ _ _ sc _ _ _ => sc
  | _ => { kind := .function, names := [], isGenerator := false, isCoroutine := false }
abbrev E0 : XK := fun _ _ _ => False
structure Fun (K : PySem.W.Frag) (x qual : Str) (st : Stmt) (f : Addr) (fd : FuncData) : Prop where
  ex : ∃ (oc : Value) (od : Option Addr) (kV doc pm : Value) (an : Option Addr) (cdv ct : Value) (osl : Array (Option Value)),
    fd = PySem.W.fnOf x qual (defArgs st) (defBody st) (defScope st) .none kV doc pm an cdv ct ∧ K.lookup f = some ⟨oc, od, .func fd, osl⟩ ∧ PySem.W.codeIn K cdv qual = true
  kp : PySem.W.keepIn K (.ref f) = true
section
variable {P : Program} {w : World} {K : PySem.W.Frag} {mg : Str → Option Value} {base : Heap}
theorem Fun.binds {x qual : Str} {st : Stmt} {f : Addr} {fd : FuncData} {ps : List Str} (F : Fun K x qual st f fd)
    (h : ∀ (kV doc pm : Value) (an : Option Addr) (cdv ct : Value) (us : List Value), us.length = ps.length → bindArgs (PySem.W.fnOf x qual (defArgs st) (defBody st) (defScope st) .none kV doc pm an cdv ct) ⟨us, []⟩ = pure (ps.zip us)) : Binds K fd ps [] := by
  obtain ⟨oc, od, kV, doc, pm, an, cdv, ct, osl, rfl, lk, hcd⟩ := F.ex
  exact .all (h kV doc pm an cdv ct)
theorem fun_mk {x qual : Str} {st : Stmt} {f : Addr} {oc : Value} {od an : Option Addr} {osl : Array (Option Value)} {kV doc pm cdv ct : Value} (l : K.lookup f = some ⟨oc, od, .func (PySem.W.fnOf x qual (defArgs st) (defBody st) (defScope st) .none kV doc pm an cdv ct), osl⟩)
    (c : PySem.W.codeIn K cdv qual = true) (k : PySem.W.keepIn K (.ref f) = true) : Fun K x qual st f (PySem.W.fnOf x qual (defArgs st) (defBody st) (defScope st) .none kV doc pm an cdv ct) := ⟨⟨oc, od, kV, doc, pm, an, cdv, ct, osl, rfl, l, c⟩, k⟩
end
theorem small1000 {n : Nat} (h : n ≤ 1000) : n < sizeLine := Nat.lt_of_le_of_lt h (by decide)
section
variable {X : Cx}
theorem pv (i : Nat) {x : Str} {pos : Pos} (hN : X.N[i]? = some x := by rfl) (hv : Vis X.env.scope x := by first | exact Or.inl rfl | exact Or.inr (Or.inl rfl) | exact Or.inr (Or.inr rfl)) (hd : (x == ("__debug__" : Str)) = false := by decide)
    (hcd : (x == ("__classdict__" : Str)) = false := by decide) : PE X (.Name x pos) (tVar i) := pe_var hN hv hd hcd
end
theorem iteF {A B : Prop} (h : B) : if false = true then A else B := by
  rw [if_neg Bool.false_ne_true]
  exact h
theorem iteT {A B : Prop} (h : A) : if true = true then A else B := by
  rw [if_pos rfl]
  exact h
theorem ite2 {c A B : Prop} [Decidable c] (h1 : c → A) (h2 : ¬ c → B) : if c then A else B := by
  by_cases h : c
  · rw [if_pos h]
    exact h1 h
  · rw [if_neg h]
    exact h2 h
def Same (H H' : Hp) : Prop := ∀ b o, H b = some o → H' b = some o
theorem Same.refl (H : Hp) : Same H H := fun _ _ h => h
theorem Same.trans {H H1 H2 : Hp} (a : Same H H1) (b : Same H1 H2) : Same H H2 := fun c o h => b c o (a c o h)
theorem Same.seq {K : PySem.W.Frag} {H H' : Hp} {a : Addr} {xs : List V} (e : Same H H') (h : SqL K H a xs) : SqL K H' a xs := by
  rcases h with (h | ⟨o, h⟩) | h
  · exact .inl (.inl (e _ _ h))
  · exact .inl (.inr ⟨o, e _ _ h⟩)
  · exact .inr h
end L2
namespace L2
open PySem PySem.Spec PyProof.Rows
section
variable {κ : Type} [DecidableEq κ]
def valV (kvs : List (κ × V)) (k : κ) : Option V := (kvs.find? fun kv => decide (kv.1 = k)).map (·.2)
def putK (kvs : List (κ × V)) (k : κ) (v : V) : List (κ × V) :=
  if (kvs.any fun kv => decide (kv.1 = k)) = true then kvs.map (fun kv => if kv.1 = k then (kv.1, v) else kv) else kvs ++ [(k, v)]
theorem valV_pos {p : κ × V} {r : List (κ × V)} {k : κ} (e : p.1 = k) : valV (p :: r) k = some p.2 := by simp [valV, List.find?_cons, e]
theorem valV_neg {p : κ × V} {r : List (κ × V)} {k : κ} (e : ¬ p.1 = k) : valV (p :: r) k = valV r k := by simp [valV, List.find?_cons, e]
theorem valV_any (k : κ) : ∀ kvs : List (κ × V), (kvs.any fun kv => decide (kv.1 = k)) = (valV kvs k).isSome
  | [] => rfl
  | p :: r => by
    rw [List.any_cons]
    by_cases e : p.1 = k
    · simp only [valV_pos e, decide_eq_true e, Bool.true_or, Option.isSome_some]
    · rw [valV_neg e, decide_eq_false e, Bool.false_or]; exact valV_any k r
theorem valV_map (k j : κ) (y : V) : ∀ kvs : List (κ × V), valV (kvs.map fun kv => if kv.1 = k then (kv.1, y) else kv) j = (valV kvs j).map fun x => if j = k then y else x
  | [] => rfl
  | p :: r => by
    have ih := valV_map k j y r
    rw [List.map_cons]
    by_cases h : p.1 = k
    · rw [if_pos h]
      by_cases e : p.1 = j
      · rw [valV_pos (p := (p.1, y)) e, valV_pos e, Option.map_some, if_pos (e.symm.trans h)]
      · rw [valV_neg (p := (p.1, y)) e, valV_neg e, ih]
    · rw [if_neg h]
      by_cases e : p.1 = j
      · rw [valV_pos (p := p) e, valV_pos e, Option.map_some, if_neg (fun z => h (e.trans z))]
      · rw [valV_neg (p := p) e, valV_neg e, ih]
theorem valV_snoc (k j : κ) (y : V) : ∀ kvs : List (κ × V), valV kvs k = none → valV (kvs ++ [(k, y)]) j = if j = k then some y else valV kvs j
  | [], _ => by
    by_cases e : k = j
    · rw [if_pos e.symm]; exact valV_pos (p := (k, y)) e
    · rw [if_neg (fun z => e z.symm)]; exact valV_neg (p := (k, y)) e
  | p :: r, hn => by
    rw [List.cons_append]
    have hk : ¬ p.1 = k := fun z => by rw [valV_pos z] at hn; cases hn
    rw [valV_neg hk] at hn
    have ih := valV_snoc k j y r hn
    by_cases e : p.1 = j
    · rw [valV_pos e, valV_pos e, if_neg (fun z => hk (e.trans z))]
    · rw [valV_neg e, valV_neg e, ih]
theorem valV_put (kvs : List (κ × V)) (k j : κ) (y : V) : valV (putK kvs k y) j = if j = k then some y else valV kvs j := by
  unfold putK
  by_cases a : (kvs.any fun kv => decide (kv.1 = k)) = true
  · rw [if_pos a, valV_map]
    rw [valV_any] at a
    by_cases e : j = k
    · obtain ⟨x, hx⟩ := Option.isSome_iff_exists.mp a
      rw [if_pos e, e, hx, Option.map_some, if_pos rfl]
    · rw [if_neg e]
      cases valV kvs j with
      | none => rfl
      | some x => rw [Option.map_some, if_neg e]
  · rw [if_neg a]
    refine valV_snoc k j y kvs ?_
    rw [valV_any] at a
    cases q : valV kvs k with
    | none => rfl
    | some x => rw [q] at a; exact (a rfl).elim
theorem length_putK (kvs : List (κ × V)) (k : κ) (v : V) : (putK kvs k v).length ≤ kvs.length + 1 := by
  unfold putK
  split
  · rw [List.length_map]; omega
  · rw [List.length_append, List.length_cons, List.length_nil]; omega
theorem putK_new {kvs : List (κ × V)} {k : κ} (v : V) (h : valV kvs k = none) : putK kvs k v = kvs ++ [(k, v)] := by
  unfold putK
  rw [valV_any, h]
  exact if_neg (by decide)
theorem RelO.isSome_eq {o : Option V} {u : Option Value} (r : RelO o u) : o.isSome = u.isSome := by
  cases o with
  | none => cases u with
    | none => rfl
    | some _ => exact (show False from r).elim
  | some _ => cases u with
    | none => exact (show False from r).elim
    | some _ => rfl
theorem KV.val {kvs : List (κ × V)} {vs : List (κ × Value)} (r : KV kvs vs) (k : κ) : RelO (valV kvs k) (valueAt vs k) := by
  unfold KV at r
  induction r with
  | nil => exact True.intro
  | @cons p q ps qs h t ih =>
    obtain ⟨h1, h2⟩ := h
    by_cases e : p.1 = k
    · have e' : q.1 = k := h1.symm.trans e
      have b : valueAt (q :: qs) k = some q.2 := by simp [valueAt, List.find?_cons, e']
      rw [valV_pos e, b]; exact h2
    · have e' : ¬ q.1 = k := fun z => e (h1.trans z)
      have b : valueAt (q :: qs) k = valueAt qs k := by simp [valueAt, List.find?_cons, e']
      rw [valV_neg e, b]; exact ih
theorem KV.any {kvs : List (κ × V)} {vs : List (κ × Value)} (r : KV kvs vs) (k : κ) : (kvs.any fun kv => decide (kv.1 = k)) = vs.any fun kv => decide (kv.1 = k) := by
  unfold KV at r
  induction r with
  | nil => rfl
  | cons h t ih => rw [List.any_cons, List.any_cons, ih, h.1]
theorem KV.repl {kvs : List (κ × V)} {vs : List (κ × Value)} (r : KV kvs vs) (k : κ) {y : V} {u : Value} (ry : RelV y u) :
    KV (kvs.map fun kv => if kv.1 = k then (kv.1, y) else kv) (vs.map fun kv => if kv.1 = k then (kv.1, u) else kv) := by
  unfold KV at r ⊢
  induction r with
  | nil => exact .nil
  | @cons p q ps qs h t ih =>
    rw [List.map_cons, List.map_cons]
    refine .cons ?_ ih
    obtain ⟨h1, h2⟩ := h
    by_cases e : p.1 = k
    · rw [if_pos e, if_pos (h1.symm.trans e)]; exact ⟨h1, ry⟩
    · rw [if_neg e, if_neg (fun z => e (h1.trans z))]; exact ⟨h1, h2⟩
theorem KV.put {kvs : List (κ × V)} {vs : List (κ × Value)} (r : KV kvs vs) (k : κ) {y : V} {u : Value} (ry : RelV y u) : KV (putK kvs k y) (stored vs k u) := by
  unfold putK stored
  rw [r.any k]
  by_cases e : (vs.any fun kv => decide (kv.1 = k)) = true
  · rw [if_pos e, if_pos e]; exact r.repl k ry
  · rw [if_neg e, if_neg e]; exact Paired.snoc r ⟨rfl, ry⟩
theorem KV.length {kvs : List (κ × V)} {vs : List (κ × Value)} (r : KV kvs vs) : kvs.length = vs.length := Paired.length r
end
theorem kV_is {P : Program} {w : World} {k : Key} {u : Value} (r : RelV (kV k) u) : (mixKind P w).is k u = true := by
  cases k with
  | inl i => obtain ⟨t, e⟩ := (show ∃ t, u = Value.int i t from r); subst e; exact mixKind_int P w i t
  | inr x => obtain ⟨t, e⟩ := (show ∃ t, u = Value.str x t from r); subst e; exact mixKind_str P w x t
theorem kV_inj {a b : Key} (e : kV a = kV b) : a = b := by
  cases a with
  | inl i => cases b with
    | inl j => have e' : V.int i = V.int j := e; injection e' with e'; rw [e']
    | inr y => exact nomatch (show V.int i = V.str y from e)
  | inr x => cases b with
    | inl j => exact nomatch (show V.str x = V.int j from e)
    | inr y => have e' : V.str x = V.str y := e; injection e' with e'; rw [e']
theorem items_are {P : Program} {w : World} : ∀ {ks : List Key} {us : List Value}, Vals (ks.map kV) us → ItemsAre (mixKind P w) ks us
  | [], _, r => by rw [List.map_nil] at r; cases r; exact .nil
  | k :: ks, _, r => by
    rw [List.map_cons] at r
    cases r with
    | cons h t => exact .cons (kV_is h) (items_are t)
abbrev KT (H : Hp) : List (List Key × V) → List (List Key × Addr × Value) → Prop := Paired fun p q => p.1 = q.1 ∧ H q.2.1 = some (.tup (p.1.map kV)) ∧ RelV p.2 q.2.2
theorem KT.val {H : Hp} {kvs : List (List Key × V)} {xs : List (List Key × Addr × Value)} (r : KT H kvs xs) (k : List Key) : RelO (valV kvs k) ((atKey xs k).map (·.2)) := by
  induction r with
  | nil => exact True.intro
  | @cons p q ps qs h t ih =>
    obtain ⟨h1, _, h2⟩ := h
    by_cases e : p.1 = k
    · have e' : q.1 = k := h1.symm.trans e
      have b : atKey (q :: qs) k = some q.2 := by simp [atKey, List.find?_cons, e']
      rw [valV_pos e, b]; exact h2
    · have e' : ¬ q.1 = k := fun z => e (h1.trans z)
      have b : atKey (q :: qs) k = atKey qs k := by simp [atKey, List.find?_cons, e']
      rw [valV_neg e, b]; exact ih
theorem KT.repl {H : Hp} {kvs : List (List Key × V)} {xs : List (List Key × Addr × Value)} (r : KT H kvs xs) (k : List Key) {y : V} {u : Value} (ry : RelV y u) :
    KT H (kvs.map fun kv => if kv.1 = k then (kv.1, y) else kv) (xs.map (putAt k u)) := by
  induction r with
  | nil => exact .nil
  | @cons p q ps qs h t ih =>
    rw [List.map_cons, List.map_cons]
    refine .cons ?_ ih
    obtain ⟨h1, h2, h3⟩ := h
    unfold putAt
    by_cases e : p.1 = k
    · rw [if_pos e, if_pos (h1.symm.trans e)]; exact ⟨h1, h2, ry⟩
    · rw [if_neg e, if_neg (fun z => e (h1.trans z))]; exact ⟨h1, h2, h3⟩
theorem KT.put {H : Hp} {kvs : List (List Key × V)} {xs : List (List Key × Addr × Value)} (r : KT H kvs xs) (k : List Key) {b : Addr} {y : V} {u : Value} (hb : H b = some (.tup (k.map kV))) (ry : RelV y u) :
    KT H (putK kvs k y) (storedH xs k b u) := by
  have e : (kvs.any fun kv => decide (kv.1 = k)) = (atKey xs k).isSome := by
    rw [valV_any, (r.val k).isSome_eq, Option.isSome_map]
  unfold putK storedH
  rw [e]
  by_cases q : (atKey xs k).isSome = true
  · rw [if_pos q, if_pos q]; exact r.repl k ry
  · rw [if_neg q, if_neg q]; exact Paired.snoc r ⟨rfl, hb, ry⟩
theorem KT.keeps {H H' : Hp} {kvs : List (List Key × V)} {xs : List (List Key × Addr × Value)} (r : KT H kvs xs) (ht : ∀ b ys, H b = some (.tup ys) → H' b = some (.tup ys)) : KT H' kvs xs :=
  Paired.mapP r fun _ _ z => ⟨z.1, ht _ _ z.2.1, z.2.2⟩
section
variable {P : Program} {w : World} {H : Hp} {h : Heap} {a : Addr}
theorem rd_of {u : HO} (ok : HOk P w H h) (e : Rd H a u) : ObjOk P w H h a u := e.ok ok
theorem dk_rd {kvs : List (Key × V)} (ok : HOk P w H h) (e : Rd H a (.dK kvs)) : kvs.length ≤ sizeLine ∧ (a == sysModules) = false ∧ ∃ vs, KV kvs vs ∧ h.DictOf (mixKind P w) a vs :=
  show ObjOk P w H h a (.dK kvs) from rd_of ok e
theorem dk_of {kvs : List (Key × V)} (ok : HOk P w H h) (e : H a = some (.dK kvs)) : kvs.length ≤ sizeLine ∧ (a == sysModules) = false ∧ ∃ vs, KV kvs vs ∧ h.DictOf (mixKind P w) a vs := dk_rd ok (.inl e)
theorem key_of {ks : List Key} (ok : HOk P w H h) (e : H a = some (.tup (ks.map kV))) : (tupleKind (mixKind P w)).is h ks a := by
  obtain ⟨_, its, r, o, h1, h2, n, h3⟩ := (show ObjOk P w H h a (.tup (ks.map kV)) from ok a _ e)
  exact ⟨o, its.toArray, n, h1, h2, h3, by simpa using items_are r⟩
theorem dt_rd {kvs : List (List Key × V)} (ok : HOk P w H h) (e : Rd H a (.dT kvs)) : kvs.length ≤ sizeLine ∧ (a == sysModules) = false ∧
    ∃ xs, KT H kvs xs ∧ h.DictOfH (tupleKind (mixKind P w)) a xs := by
  obtain ⟨z, y, xs, r, o, es, ep, h1, h2, h3, h4, h5⟩ := (show ObjOk P w H h a (.dT kvs) from rd_of ok e)
  refine ⟨z, y, xs, r, o, es, ep, h1, h2, h3, h4, fun x hx => ?_, h5⟩
  have all : ∀ {l : List (List Key × V)} {m : List (List Key × Addr × Value)}, KT H l m → ∀ x ∈ m, (tupleKind (mixKind P w)).is h x.1 x.2.1 := by
    intro l m q
    induction q with
    | nil => intro x hx; exact nomatch hx
    | @cons p q ps qs hq t ih =>
      intro x hx
      rcases List.mem_cons.mp hx with e | hx
      · subst e
        exact key_of ok (by rw [← hq.1]; exact hq.2.1)
      · exact ih x hx
  exact all r x hx
theorem dt_of {kvs : List (List Key × V)} (ok : HOk P w H h) (e : H a = some (.dT kvs)) : kvs.length ≤ sizeLine ∧ (a == sysModules) = false ∧
    ∃ xs, KT H kvs xs ∧ h.DictOfH (tupleKind (mixKind P w)) a xs := dt_rd ok (.inl e)
end
def DGet (H : Hp) (a : Addr) (y : V) (r : Option V) : Prop :=
  (∃ kvs k, Rd H a (.dK kvs) ∧ y = kV k ∧ r = valV kvs k) ∨ ∃ kvs k b, Rd H a (.dT kvs) ∧ y = .ref b ∧ H b = some (.tup (k.map kV)) ∧ r = valV kvs k
def DPut (H : Hp) (a : Addr) (y v : V) (H' : Hp) : Prop :=
  (∃ kvs k, H a = some (.dK kvs) ∧ y = kV k ∧ kvs.length < sizeLine ∧ H' = upd H a (.dK (putK kvs k v))) ∨
  ∃ kvs k b, H a = some (.dT kvs) ∧ y = .ref b ∧ H b = some (.tup (k.map kV)) ∧ kvs.length < sizeLine ∧ H' = upd H a (.dT (putK kvs k v))
theorem DGet.k {H : Hp} {a : Addr} {kvs : List (Key × V)} {k : Key} (e : H a = some (.dK kvs)) : DGet H a (kV k) (valV kvs k) := .inl ⟨kvs, k, .inl e, rfl, rfl⟩
theorem DPut.k {H : Hp} {a : Addr} {kvs : List (Key × V)} {k : Key} {v : V} (e : H a = some (.dK kvs)) (hl : kvs.length < sizeLine) : DPut H a (kV k) v (upd H a (.dK (putK kvs k v))) := .inl ⟨kvs, k, e, rfl, hl, rfl⟩
section
variable {X : Cx} {pins : List (Addr × Obj)} {σ : St} {H : Hp} {s : Shared} {a : Addr} {y v : V} {u r : Value} {o : Option V} {A : Around} {E : Value → Shared → Prop}
theorem Inv.big (I : Inv X pins σ H s) : sysModules < s.heap.objs.size := by
  have h : mainGlobals < s.heap.objs.size := (I.mod.glob.keeps I.bk).lt
  exact Nat.lt_trans (by decide) h
theorem d_getItem {Q : Value → Shared → Prop} (hu : A.units + 1 < cLine) (I : Inv X pins σ H s) (g : DGet H a y (some v)) (ry : RelV y u) (h : ∀ w' s', Inv X pins σ H s' → RelV v w' → Q w' s') :
    wpAny (model X.prog X.w) A (getItem (.ref a) u) Q E s := by
  rcases g with ⟨kvs, k, e, ey, l⟩ | ⟨kvs, k, b, e, ey, eb, l⟩
  · subst ey
    obtain ⟨z, hd, vs, rel, dd⟩ := dk_rd I.hok e
    obtain ⟨w', hw, rw'⟩ := RelO.some_of (v := v) (o := valueAt vs k) (by rw [l]; exact rel.val k)
    exact wpAny_getItem_of (kV_is ry) dd.mapOf hw (h w' _ (I.tok _) rw')
  · subst ey
    cases (show u = Value.ref b from ry)
    obtain ⟨z, hd, xs, rel, dd⟩ := dt_rd I.hok e
    obtain ⟨w', hw, rw'⟩ := RelO.some_of (v := v) (o := (atKey xs k).map (·.2)) (by rw [l]; exact rel.val k)
    obtain ⟨p, hp, hp2⟩ := Option.map_eq_some_iff.mp hw
    refine wpAny_getItem_heap (tupleKind_room_in1 hu) (key_of I.hok eb) dd hp ?_
    rw [hp2]
    exact h w' _ (I.tok _) rw'
theorem d_in {Q : Value → Shared → Prop} (hu : A.units + 1 < cLine) (I : Inv X pins σ H s) (g : DGet H a y o) (ry : RelV y u) (h : ∀ s', Inv X pins σ H s' → Q (.bool o.isSome) s') :
    wpAny (model X.prog X.w) A (compareOp .In u (.ref a)) Q E s := by
  rcases g with ⟨kvs, k, e, ey, l⟩ | ⟨kvs, k, b, e, ey, eb, l⟩
  · subst ey
    obtain ⟨z, hd, vs, rel, dd⟩ := dk_rd I.hok e
    refine wpAny_in_of (kV_is ry) hd dd.mapOf ?_
    rw [← (rel.val k).isSome_eq, ← l]
    exact h _ (I.tok _)
  · subst ey
    cases (show u = Value.ref b from ry)
    obtain ⟨z, hd, xs, rel, dd⟩ := dt_rd I.hok e
    refine wpAny_in_heap (tupleKind_room_in1 hu) (key_of I.hok eb) hd dd ?_
    have q := (rel.val k).isSome_eq
    rw [Option.isSome_map] at q
    rw [← q, ← l]
    exact h _ (I.tok _)
theorem d_notIn {Q : Value → Shared → Prop} (hu : A.units + 1 < cLine) (I : Inv X pins σ H s) (g : DGet H a y o) (ry : RelV y u) (h : ∀ s', Inv X pins σ H s' → Q (.bool (!o.isSome)) s') :
    wpAny (model X.prog X.w) A (compareOp .NotIn u (.ref a)) Q E s := by
  rcases g with ⟨kvs, k, e, ey, l⟩ | ⟨kvs, k, b, e, ey, eb, l⟩
  · subst ey
    obtain ⟨z, hd, vs, rel, dd⟩ := dk_rd I.hok e
    refine wpAny_notIn_of (kV_is ry) hd dd.mapOf ?_
    rw [← (rel.val k).isSome_eq, ← l]
    exact h _ (I.tok _)
  · subst ey
    cases (show u = Value.ref b from ry)
    obtain ⟨z, hd, xs, rel, dd⟩ := dt_rd I.hok e
    refine wpAny_notIn_heap (tupleKind_room_in1 hu) (key_of I.hok eb) hd dd ?_
    have q := (rel.val k).isSome_eq
    rw [Option.isSome_map] at q
    rw [← q, ← l]
    exact h _ (I.tok _)
theorem d_write {h' : Heap} {t' : Nat} {ob : HO} (I : Inv X pins σ H s) (mu : Mut (H a)) (hs : Heap.SameBut a s.heap h') (he : ∃ q, h'.get? a = some q) (new : ObjOk X.prog X.w (upd H a ob) h' a ob) :
    Inv X pins σ (upd H a ob) { s with heap := h', toks := t' } :=
  I.write (x := a) (e := a) mu (.inl rfl) (fun b q hb z => (hs.2 b hb).trans z) he new
theorem dk_new {P : Program} {w : World} {H' : Hp} {h' : Heap} {kvs : List (Key × V)} {vs : List (Key × Value)} (z : kvs.length ≤ sizeLine) (hd : (a == sysModules) = false) (rel : KV kvs vs) (dd : h'.DictOf (mixKind P w) a vs) :
    ObjOk P w H' h' a (.dK kvs) := ⟨z, hd, vs, rel, dd⟩
theorem d_setItem {H' : Hp} {Q : Unit → Shared → Prop} (hu : A.units + 1 < cLine) (I : Inv X pins σ H s) (g : DPut H a y v H') (ry : RelV y u) (rv : RelV v r) (h : ∀ s', Inv X pins σ H' s' → Q () s') :
    wpAny (model X.prog X.w) A (setItem (.ref a) u r) Q E s := by
  rcases g with ⟨kvs, k, e, ey, l, eH⟩ | ⟨kvs, k, b, e, ey, eb, l, eH⟩
  · subst ey eH
    obtain ⟨z, hd, vs, rel, dd⟩ := dk_of I.hok e
    have hz : vs.length ≤ sizeLine := by rw [← rel.length]; exact z
    have hl : (putK kvs k v).length ≤ sizeLine := by have := length_putK kvs k v; omega
    refine wpAny_setItem_pairs (hsz := hz) (kV_is ry) dd fun h' dd' hs => h _ ?_
    have he : ∃ q, h'.get? a = some q := let ⟨q, _, _, hq, _⟩ := dd'; ⟨q, hq⟩
    exact d_write I (by rw [e]; exact True.intro) hs he (dk_new hl hd (rel.put k rv) dd')
  · subst ey eH
    cases (show u = Value.ref b from ry)
    obtain ⟨z, hd, xs, rel, dd⟩ := dt_of I.hok e
    have hz : xs.length ≤ sizeLine := by rw [← Paired.length rel]; exact z
    have hl : (putK kvs k v).length ≤ sizeLine := by have := length_putK kvs k v; omega
    refine wpAny_setItem_heap (hsz := hz) (tupleKind_room_in1 hu) (key_of I.hok eb) dd fun h' dd' hs => h _ ?_
    obtain ⟨q, es, ep, hq, h2, h3, h4, _, h5⟩ := dd'
    refine d_write I (by rw [e]; exact True.intro) hs ⟨q, hq⟩ ⟨hl, hd, _, (rel.put k eb rv).keeps fun c ys ec => ?_, q, es, ep, hq, h2, h3, h4, h5⟩
    rw [upd_ne (ne_of ec e (fun z => nomatch z))]
    exact ec
end
section
variable {X : Cx} {pins : List (Addr × Obj)} {σ : St} {H : Hp} {s : Shared} {a : Addr} {kvs : List (Key × V)} {k : Key} {u : Value} {A : Around} {E : Value → Shared → Prop}
theorem d_len {Q : Value → Shared → Prop} (I : Inv X pins σ H s) (e : Rd H a (.dK kvs)) (h : ∀ t s', Inv X pins σ H s' → Q (.int kvs.length t) s') : wpAny (model X.prog X.w) A (call (.builtin "len") [.ref a]) Q E s := by
  obtain ⟨z, hd, vs, rel, dd⟩ := dk_rd I.hok e
  refine call_len_dict hd dd (by rw [← rel.length]; rw [sizeLine_eq] at z; omega) ?_
  rw [← rel.length]
  exact h _ _ (I.tok _)
end
theorem dict_typeIs {X : Cx} {pins : List (Addr × Obj)} {σ : St} {H : Hp} {s : Shared} {a : Addr} {y : V} {o : Option V} (I : Inv X pins σ H s) (g : DGet H a y o) : s.TypeIs (.ref a) "dict" := by
  rcases g with ⟨kvs, k, e, _, _⟩ | ⟨kvs, k, b, e, _, _, _⟩
  · obtain ⟨_, _, vs, _, dd⟩ := dk_rd I.hok e
    exact dd.typeIs
  · obtain ⟨_, _, xs, _, dd⟩ := dt_rd I.hok e
    exact dd.typeIs
section
variable {X : Cx} {o i e value : Expr} {pos pos' tpos : Pos} {td ty tv : TE}
end
theorem dk_empty {P : Program} {w : World} {H : Hp} (h : Heap) (hb : sysModules < h.objs.size) : ObjOk P w H (h.push { cls := .type "dict", data := .dict #[] }) h.objs.size (.dK []) :=
  ⟨Nat.zero_le _, beq_eq_false_iff_ne.mpr (Ne.symm (Nat.ne_of_lt hb)), [], .nil, Heap.DictOf.new h⟩
def tDNewK : TE := fun _ H Q => ∀ p, H p = none → Q (.ref p) (upd H p (.dK []))
section
variable {X : Cx} {pos : Pos}
theorem pe_dnewK : PE X (.Dict [] [] pos) tDNewK := fun pins s σ H Q I h =>
  wpAny_Dict_empty ⟨.ref s.heap.objs.size, _, I.laid (a := s.heap.objs.size) (o := .dK []) (t' := s.toks) (fun _ _ q => Heap.get?_push_of_some _ q) (Nat.le_refl _) (dk_empty s.heap I.big), rfl, h _ (I.hok.fresh (Nat.le_refl _))⟩
end
def tPairs : List (TE × TE) → St → Hp → (List (V × V) → Hp → Prop) → Prop
  | [], _, H, Q => Q [] H
  | (tk, tv) :: r, σ, H, Q => tk σ H fun x H1 => tv σ H1 fun y H2 => tPairs r σ H2 fun ps H3 => Q ((x, y) :: ps) H3
abbrev VV : List (V × V) → List (Value × Value) → Prop := Paired fun p q => RelV p.1 q.1 ∧ RelV p.2 q.2
def PPs (X : Cx) (pos : Pos) (keys : List (Option Expr)) (values : List Expr) (trs : List (TE × TE)) : Prop :=
  ∀ (pins : List (Addr × Obj)) (s : Shared) (σ : St) (H : Hp) (Q : List (V × V) → Hp → Prop), Inv X pins σ H s → tPairs trs σ H Q →
    wpAny (model X.prog X.w) X.A (evalPairs (pairTrees keys values X.env pos)) (fun vs s' => ∃ ps H', Inv X pins σ H' s' ∧ VV ps vs ∧ Q ps H') X.xe s
theorem pps_nil {X : Cx} {pos : Pos} : PPs X pos [] [] [] := fun pins s σ H Q I h => pairTrees_nil_walk ⟨[], H, I, .nil, h⟩
theorem pps_cons {X : Cx} {pos : Pos} {k v : Expr} {ks : List (Option Expr)} {vs : List Expr} {tk tv : TE} {trs : List (TE × TE)} (hk : PE X k tk) (hv : PE X v tv) (hr : PPs X pos ks vs trs) :
    PPs X pos (some k :: ks) (v :: vs) ((tk, tv) :: trs) := fun pins s σ H Q I h =>
  pairTrees_cons_walk (thn (hk pins s σ H _ I h) fun u s1 ⟨x, H1, I1, rx, q1⟩ => thn (hv pins s1 σ H1 _ I1 q1) fun w2 s2 ⟨y, H2, I2, ry, q2⟩ =>
    thn (hr pins s2 σ H2 _ I2 q2) fun ws s3 ⟨ps, H3, I3, rel, q3⟩ => ⟨(x, y) :: ps, H3, I3, .cons ⟨rx, ry⟩ rel, q3⟩)
def mergeK (kvs more : List (Key × V)) : List (Key × V) := more.foldl (fun acc kv => putK acc kv.1 kv.2) kvs
theorem KV.merge : ∀ {more : List (Key × V)} {rs : List (Key × Value)} {kvs : List (Key × V)} {vs : List (Key × Value)}, KV more rs → KV kvs vs → KV (mergeK kvs more) (merged vs rs) := by
  intro more rs kvs vs r
  unfold KV at r
  induction r generalizing kvs vs with
  | nil => intro q; exact q
  | @cons p q ps qs h t ih =>
    intro r0
    have e : KV (putK kvs p.1 p.2) (stored vs q.1 q.2) := by
      have := r0.put p.1 h.2
      rw [← h.1]; exact this
    exact ih e
theorem length_mergeK : ∀ (more kvs : List (Key × V)), (mergeK kvs more).length ≤ kvs.length + more.length
  | [], kvs => by show kvs.length ≤ kvs.length + 0; omega
  | p :: r, kvs => by
    have h1 := length_mergeK r (putK kvs p.1 p.2)
    have h2 := length_putK kvs p.1 p.2
    show (mergeK (putK kvs p.1 p.2) r).length ≤ _
    rw [List.length_cons]; omega
theorem carries_of {P : Program} {w : World} : ∀ {kvs : List (Key × V)} {ws : List (Value × Value)}, VV (kvs.map fun kv => (kV kv.1, kv.2)) ws → ∃ rs, Carries (mixKind P w) ws rs ∧ KV kvs rs
  | [], _, r => by rw [List.map_nil] at r; cases r; exact ⟨[], True.intro, .nil⟩
  | p :: kvs, _, r => by
    rw [List.map_cons] at r
    cases r with
    | @cons a b as bs h t =>
      obtain ⟨rs, c, q⟩ := carries_of (P := P) (w := w) t
      obtain ⟨b1, b2⟩ := b
      exact ⟨(p.1, b2) :: rs, ⟨kV_is h.1, rfl, c⟩, .cons ⟨rfl, h.2⟩ q⟩
def tDisp (trs : List (TE × TE)) : TE := fun σ H Q => ∀ p, H p = none → tPairs trs σ (upd H p (.dK [])) fun ps H2 => H2 p = some (.dK []) ∧ ∃ kvs : List (Key × V), ps = kvs.map (fun kv => (kV kv.1, kv.2)) ∧ kvs.length ≤ 15 ∧ Q (.ref p) (upd H2 p (.dK (mergeK [] kvs)))
theorem pe_disp {X : Cx} {pos : Pos} {keys : List (Option Expr)} {values : List Expr} {trs : List (TE × TE)} (h : PPs X pos keys values trs) (hall : keys.all (·.isSome) = true) (hl : keys.length = values.length) (h0 : keys ≠ [])
    (h15 : keys.length ≤ 15) : PE X (.Dict keys values pos) (tDisp trs) := by
  intro pins s σ H Q I q
  have hn := I.hok.fresh (Nat.le_refl s.heap.objs.size)
  have I1 := I.laid (a := s.heap.objs.size) (o := .dK []) (h' := s.heap.push { cls := .type "dict", data := .dict #[] }) (t' := s.toks) (fun _ _ q => Heap.get?_push_of_some _ q) (Nat.le_refl _) (dk_empty s.heap I.big)
  refine wpAny_Dict_walk (knd := mixKind X.prog X.w) hall hl h0 h15 (thn (h pins _ σ _ _ I1 (q _ hn)) fun ws s2 ⟨ps, H2, I2, rel, e, kvs, ep, lk, q2⟩ => ?_)
  subst ep
  obtain ⟨rs, c, rk⟩ := carries_of (P := X.prog) (w := X.w) rel
  obtain ⟨z, hd, vs0, r0, dd⟩ := dk_of I2.hok e
  cases r0
  refine ⟨rs, c, dd, fun h' dd' hs => ⟨.ref s.heap.objs.size, _, ?_, rfl, q2⟩⟩
  have hz : (mergeK [] kvs).length ≤ sizeLine := by
    have h1 := length_mergeK kvs []
    rw [List.length_nil] at h1
    rw [sizeLine_eq]; omega
  have he : ∃ q, h'.get? s.heap.objs.size = some q := let ⟨q, _, _, hq, _⟩ := dd'; ⟨q, hq⟩
  exact d_write I2 (by rw [e]; exact True.intro) hs he (dk_new hz hd (rk.merge .nil) dd')
section
variable {X : Cx} {pins : List (Addr × Obj)} {σ : St} {H : Hp} {s : Shared} {a : Addr} {y d : V} {u r : Value} {o : Option V} {A : Around} {E : Value → Shared → Prop}
end
section
variable {X : Cx} {o e f : Expr} {apos cpos : Pos} {td ty tx : TE}
end
section
variable {X : Cx} {pins : List (Addr × Obj)} {σ : St} {H : Hp} {s : Shared} {a : Addr} {kvs : List (Key × V)} {A : Around} {E : Value → Shared → Prop}
end
section
variable {X : Cx} {pins : List (Addr × Obj)} {σ : St} {H : Hp} {s : Shared} {a : Addr} {y : V} {u : Value} {A : Around} {E : Value → Shared → Prop}
end
end L2
namespace L2
open PySem PySem.Spec PyProof.Rows
section
variable {X : Cx}
theorem call_lenD : CallR X (.builtin "len") (fun xs H Q => ∃ a kvs, xs = [V.ref a] ∧ H a = some (.dK kvs) ∧ Q (.int kvs.length) H) := by
  intro pins s σ H xs us Q I r h
  obtain ⟨a, kvs, rfl, ha, q⟩ := h
  obtain ⟨u, rfl, ru⟩ := vals1 r
  cases ru
  exact d_len I (.inl ha) fun t s' I' => ⟨.int kvs.length, H, I', ⟨t, rfl⟩, q⟩
end
section
variable {κ : Type} [DecidableEq κ]
end
end L2
namespace L2
open PySem PySem.Spec PyProof.Rows
namespace Rd
section
variable {σ : St} {H : Hp} {Q : VK} {D : Ends} {t u : TS} {ta tb te : TE} {r : R2}
theorem var {i : Nat} {v : V} (h : σ[i]? = some (some v)) (q : Q v H) : tVar i σ H Q := ⟨v, h, q⟩
theorem con {v : V} (q : Q v H) : tC v σ H Q := q
theorem op (h : ta σ H fun x H1 => tb σ H1 fun y H2 => r x y H2 Q) : tOp r ta tb σ H Q := h
theorem i0 {g : Int → Int → V} {i j : Int} (q : Q (g i j) H) : rI0 g (.int i) (.int j) H Q := ⟨i, j, rfl, rfl, q⟩
theorem iC {C : Int → Int → Prop} {g : Int → Int → V} {i j : Int} (c : C i j) (q : Q (g i j) H) : rI C g (.int i) (.int j) H Q := ⟨i, j, rfl, rfl, c, q⟩
theorem eqI {i j : Int} (q : Q (.bl (decide (i = j))) H) : rEq (.int i) (.int j) H Q := ⟨rfl, by
  have e : decide (V.int i = V.int j) = decide (i = j) := by
    by_cases h : i = j
    · rw [h]; simp
    · rw [decide_eq_false h, decide_eq_false (fun z => h (V.int.inj z))]
  rw [e]; exact q⟩
theorem neI {i j : Int} (q : Q (.bl (!decide (i = j))) H) : rNe (.int i) (.int j) H Q := ⟨rfl, by
  have e : decide (V.int i = V.int j) = decide (i = j) := by
    by_cases h : i = j
    · rw [h]; simp
    · rw [decide_eq_false h, decide_eq_false (fun z => h (V.int.inj z))]
  rw [e]; exact q⟩
theorem test {Q : Bool → Hp → Prop} (h : te σ H fun x H' => ∃ k, x = .bl k ∧ Q k H') : tTest te σ H Q := h
theorem bl {k : Bool} {Q : Bool → Prop} (q : Q k) : ∃ k', V.bl k = .bl k' ∧ Q k' := ⟨k, rfl, q⟩
theorem seq (h : t { D with nx := u D } σ H) : tSeq t u D σ H := h
theorem asg {g : TG} (h : te σ H fun x H1 => g x σ H1 D.nx) : tAsg te g D σ H := h
theorem ifs {c : TT} (h : c σ H fun b H1 => if b = true then t D σ H1 else u D σ H1) : tIfS c t u D σ H := h
theorem ret (h : te σ H D.rt) : tRet te D σ H := h
theorem next (h : D.nx σ H) : tNext D σ H := h
theorem drop (h : te σ H fun _ H1 => D.nx σ H1) : tDrop te D σ H := h
theorem nil {Q : List V → Hp → Prop} (h : Q [] H) : tNil σ H Q := h
theorem cons {tr : TA} {Q : List V → Hp → Prop} (h : ta σ H fun x H1 => tr σ H1 fun xs H2 => Q (x :: xs) H2) : tCons ta tr σ H Q := h
theorem call {sp : Sp} {dvs : List V} {E : XK} {ts : TA} (h : ts σ H fun vs H1 => sp (vs ++ dvs) H1 Q E) : tCall sp dvs E ts σ H Q := h
theorem cb {r : List V → Hp → VK → Prop} {ts : TA} (h : ts σ H fun vs H1 => r vs H1 Q) : tCB r ts σ H Q := h
theorem tup {ts : TA} (h : ts σ H fun xs H1 => xs.length ≤ sizeLine ∧ ∀ p, H1 p = none → Q (.ref p) (upd H1 p (.tup xs))) : tTup ts σ H Q := h
theorem lst {ts : TA} (h : ts σ H fun xs H1 => xs.length ≤ sizeLine ∧ ∀ p, H1 p = none → Q (.ref p) (upd H1 p (.lst xs))) : tLst ts σ H Q := h
theorem and_ {t u : TT} {Q : Bool → Hp → Prop} (h : t σ H fun c H1 => if c = true then u σ H1 Q else Q false H1) : tAnd t u σ H Q := h
theorem or_ {t u : TT} {Q : Bool → Hp → Prop} (h : t σ H fun c H1 => if c = true then Q true H1 else u σ H1 Q) : tOr t u σ H Q := h
theorem not_ {t : TT} {Q : Bool → Hp → Prop} (h : t σ H fun c H1 => Q (!c) H1) : tNot t σ H Q := h
theorem andV (h : ta σ H fun x H1 => ∃ c, x = .bl c ∧ if c = true then tb σ H1 Q else Q (.bl false) H1) : tAndV ta tb σ H Q := h
theorem notV (h : ta σ H fun x H1 => ∃ c, x = .bl c ∧ Q (.bl (!c)) H1) : tNotV ta σ H Q := h
end
end Rd
end L2
namespace L2
open PySem PySem.Spec PyProof.Rows
section
variable {X : Cx}
theorem op_mulG : OpR X (binaryOp .Mult) (rI (fun i j => IntMulOk i j) fun i j => .int (i * j)) := opI fun _ _ _ _ _ _ _ hc q => mul_int q hc
theorem op_fdivG : OpR X (binaryOp .FloorDiv) (rI (fun _ j => 0 < j ∧ j.natAbs.log2 < 9000) fun i j => .int (i / j)) := opI fun i j _ _ _ _ _ hc q => by
  rw [← Int.fdiv_eq_ediv_of_nonneg i (Int.le_of_lt hc.1)] at q
  exact floordiv_int (by have := hc.1; omega) q (.inl (PyProof.noPylong_of_log2 hc.2))
theorem call_isinst : CallR X (.builtin "isinstance") (fun xs H Q => ∃ x n t b, xs = [x, .ty n] ∧ TyOf X.K H x t ∧ PySem.W.kitOne X.K t (.type n) = some b ∧ Q (.bl b) H) := by
  intro pins s σ H xs us Q I r h
  obtain ⟨x, n, t, b, rfl, ty, e, q⟩ := h
  obtain ⟨u, v, rfl, ru, rv⟩ := r.two
  obtain rfl : v = Value.type n := rv
  exact isinst_ok I ru ty e fun tk => ⟨.bl b, H, I.tok tk, rfl, q⟩
theorem while3 {c : TT} {tb : TS} {D : Ends} {σ : St} {H : Hp} (W : Nat → St → Hp → Prop) (m : Nat) (h0 : W m σ H)
    (hs : ∀ m σ H, W m σ H → c σ H fun b H1 => if b = true then ∃ N : St → Hp → Prop, (∀ σ' H', N σ' H' → ∃ m', m' < m ∧ W m' σ' H') ∧ tb { D with nx := N, ct := N, bk := D.nx } σ H1 else D.nx σ H1) : tWhile c tb D σ H :=
  ⟨W, ⟨m, h0⟩, hs⟩
theorem turn3 {W : Nat → St → Hp → Prop} {m : Nat} {tb : TS} {D : Ends} {σ : St} {H1 : Hp}
    (h : tb { D with nx := fun σ' H' => ∃ m', m' < m ∧ W m' σ' H', ct := fun σ' H' => ∃ m', m' < m ∧ W m' σ' H', bk := D.nx } σ H1) :
    ∃ N : St → Hp → Prop, (∀ σ' H', N σ' H' → ∃ m', m' < m ∧ W m' σ' H') ∧ tb { D with nx := N, ct := N, bk := D.nx } σ H1 := ⟨_, fun _ _ z => z, h⟩
def tCut (t : TS) : TS := fun D σ H => ∃ J : St → Hp → Prop, (∀ σ' H', J σ' H' → D.nx σ' H') ∧ t { D with nx := J } σ H
theorem ps_cut {st : Stmt} {t : TS} (h : PS X st t) : PS X st (tCut t) := by
  intro pins s σ H D I hq
  obtain ⟨J, hJ, q⟩ := hq
  refine thn (h pins s σ H _ I q) fun f s1 q1 => ?_
  cases f with
  | next => obtain ⟨σ', H', I', j⟩ := q1; exact ⟨σ', H', I', hJ _ _ j⟩
  | brk => exact q1
  | cont => exact q1
  | ret v => exact q1
end
namespace Rd
theorem iteNT {A B : Prop} (h : B) : if (!true) = true then A else B := iteF h
theorem iteNF {A B : Prop} (h : A) : if (!false) = true then A else B := iteT h
section
variable {σ : St} {H : Hp} {Q : VK} {D : Ends} {t u : TS} {ta tb te : TE}
theorem cut (J : St → Hp → Prop) (hJ : ∀ σ' H', J σ' H' → D.nx σ' H') (h : t { D with nx := J } σ H) : tCut t D σ H := ⟨J, hJ, h⟩
theorem for_ {wi : TI} {g : TG} {tb : TS} (h : wi σ H fun J H1 => ∃ W : Nat → Nat → St → Hp → Prop, (∃ m, W 0 m σ H1) ∧ ∀ i m σ H, W i m σ H →
    (J.stop i H ∧ D.nx σ H) ∨ (J.go i H ∧ ∃ N : St → Hp → Prop, (∀ σ' H', N σ' H' → ∃ m', m' < m ∧ W (i + 1) m' σ' H') ∧ ∀ x H', J.yld i H x H' → g x σ H' fun σ2 H2 => tb { D with nx := N, ct := N, bk := D.nx } σ2 H2)) : tFor wi g tb D σ H := h
theorem rng1 {ts : TA} {R : It → Hp → Prop} (h : ts σ H fun vs H1 => ∃ j : Int, vs = [.int j] ∧ -(2 ^ 62) ≤ j ∧ j < 2 ^ 62 ∧ R (Itr 0 j.toNat) H1) : iRng1 ts σ H R := h
theorem rng2 {ts : TA} {R : It → Hp → Prop} (h : ts σ H fun vs H1 => ∃ i j : Int, vs = [.int i, .int j] ∧ (-(2 ^ 62) ≤ i ∧ i < 2 ^ 62 ∧ -(2 ^ 62) ≤ j ∧ j < 2 ^ 62) ∧ R (Itr i (j - i).toNat) H1) : iRng2 ts σ H R := h
theorem gtup {K : PySem.W.Frag} {n : Nat} {ts : TGs} {a : Addr} {xs : List V} {Q : St → Hp → Prop} (hs : SqT K H a xs) (hn : xs.length = n) (h : ts xs σ H Q) : gTup K n ts (.ref a) σ H Q := ⟨a, xs, rfl, hs, hn, h⟩
theorem gnil {Q : St → Hp → Prop} (h : Q σ H) : gNil [] σ H Q := ⟨rfl, h⟩
theorem gcons {g : TG} {gs : TGs} {v : V} {r : List V} {Q : St → Hp → Prop} (h : g v σ H fun σ' H' => gs r σ' H' Q) : gCons g gs (v :: r) σ H Q := ⟨v, r, rfl, h⟩
end
end Rd
end L2
namespace L2
open PySem PySem.Spec PyProof.Rows
theorem same_new {H : Hp} {p : Addr} {o : HO} (hp : H p = none) : Same H (upd H p o) := fun c u e => by rw [upd_ne (ne_of_none e hp)]; exact e
theorem Same.new {H H' : Hp} {q : Addr} {o : HO} (sm : Same H H') (hq : H q = none) : Same H (upd H' q o) := fun c u e => by rw [upd_ne (ne_of_none e hq)]; exact sm c u e
namespace Rd
section
variable {σ : St} {H : Hp} {Q : VK} {D : Ends} {K : PySem.W.Frag}
theorem ixt {p : Addr} {xs : List V} {i : Int} {v : V} (h : SqT K H p xs) (e : atI xs i = some v) (q : Q v H) : rIxT K (.ref p) (.int i) H Q := ⟨p, xs, i, v, rfl, rfl, h, e, q⟩
theorem ixl {p : Addr} {xs : List V} {i : Int} {v : V} (h : SqL K H p xs) (e : atI xs i = some v) (q : Q v H) : rIxL K (.ref p) (.int i) H Q := ⟨p, xs, i, v, rfl, rfl, h, e, q⟩
theorem bm {T : String} {r : V → List V → Hp → VK → Prop} {to : TE} {t : TA} (h : to σ H fun x H1 => tyV K T x H1 ∧ t σ H1 fun xs H2 => r x xs H2 Q) : tBM K T r to t σ H Q := h
theorem bm0 {T : String} {r : V → List V → Hp → VK → Prop} {to : TE} (h : to σ H fun x H1 => tyV K T x H1 ∧ r x [] H1 Q) : tBM0 K T r to σ H Q := h
theorem tyl {p : Addr} {xs : List V} {B : Prop} (h : H p = some (.lst xs)) (q : B) : tyV K "list" (.ref p) H ∧ B := ⟨.inl ⟨rfl, xs, .of h⟩, q⟩
theorem app {p : Addr} {xs : List V} {y : V} (h : H p = some (.lst xs)) (hl : xs.length < sizeLine) (q : Q .non (upd H p (.lst (xs ++ [y])))) : rAppend (.ref p) [y] H Q := ⟨p, xs, y, rfl, rfl, h, hl, q⟩
end
end Rd
end L2
namespace L2
open PySem PySem.Spec PyProof.Rows
def emb (ix : List Nat) (σ : St) : St := none :: ix.map fun j => (σ[j]?).join
def cxComp (X : Cx) (sc : Scope) (cl : List (Str × Addr)) (C : Addr) (N : List Str) (s : Shared) (H : Hp) (fp : List Addr) : Cx where
  prog := X.prog
  w := X.w
  K := X.K
  mg := X.mg
  base := X.base
  A := X.A
  N := N
  s₀ := s
  H₀ := H
  env := compEnvC sc cl C X.env
  outer := X.stack
  stack := X.stack
  ex := fp
  fn := fun _ => false
  calm := X.calm
  pn := []
  xe := fun _ _ => False
structure CompScope (X : Cx) (sc : Scope) (x : Str) (zs : List Str) (ix : List Nat) : Prop where
  kind : sc.kind = .function
  nocell : ∀ y ∈ sc.names, y.2 ≠ .cell
  names : ∀ y ∈ sc.names, y.2 = .local → sc.names.lookup y.1 = some .local
  free : ∀ y ∈ sc.names, y.2 = .free → X.env.kindOf y.1 = some .cell ∨ X.env.kindOf y.1 = some .free
  zfree : ∀ z ∈ zs, sc.names.lookup z = some .free
  at_ : ix.map (fun j => X.N[j]?) = zs.map some
theorem lookup_relabel {env : Env} {x : Str} : ∀ {names : List (Str × NameKind)} {k : NameKind},
    (names.map fun (n, k) => if (k == NameKind.free && env.scope.kind == .function && env.kindOf n == some .cell) then (n, NameKind.cell) else (n, k)).lookup x = some k →
    ∃ k', names.lookup x = some k' ∧ (k = k' ∨ (k' = .free ∧ k = .cell))
  | [], _, h => by simp at h
  | (n, j) :: r, k, h => by
    have h' : List.lookup x ((if (j == NameKind.free && env.scope.kind == .function && env.kindOf n == some .cell) = true then (n, NameKind.cell) else (n, j)) :: (r.map fun (n, k) => if (k == NameKind.free && env.scope.kind == .function && env.kindOf n == some .cell) then (n, NameKind.cell) else (n, k))) = some k := h
    cases hx : x == n with
    | true =>
      refine ⟨j, by simp [List.lookup_cons, hx], ?_⟩
      by_cases hc : (j == NameKind.free && env.scope.kind == .function && env.kindOf n == some .cell) = true
      · rw [if_pos hc] at h'
        simp only [List.lookup_cons, hx] at h'
        cases h'
        simp only [Bool.and_eq_true, beq_iff_eq] at hc
        exact .inr ⟨hc.1.1, rfl⟩
      · rw [if_neg hc] at h'
        simp only [List.lookup_cons, hx] at h'
        cases h'
        exact .inl rfl
    | false =>
      have h2 : List.lookup x (r.map fun (n, k) => if (k == NameKind.free && env.scope.kind == .function && env.kindOf n == some .cell) then (n, NameKind.cell) else (n, k)) = some k := by
        by_cases hc : (j == NameKind.free && env.scope.kind == .function && env.kindOf n == some .cell) = true
        · rw [if_pos hc] at h'
          simpa only [List.lookup_cons, hx] using h'
        · rw [if_neg hc] at h'
          simpa only [List.lookup_cons, hx] using h'
      obtain ⟨k', e, q⟩ := lookup_relabel h2
      exact ⟨k', by simp only [List.lookup_cons, hx]; exact e, q⟩
theorem lookup_mem {x : Str} {k : NameKind} : ∀ {names : List (Str × NameKind)}, names.lookup x = some k → (x, k) ∈ names := fun h => PySem.mem_of_lookup h
theorem closure_of (env : Env) : ∀ (names : List (Str × NameKind)) (acc : List (Str × Addr)),
    (∀ y ∈ names, y.2 = .free → ∃ c, env.cells.lookup y.1 = some c) → (∀ y c, acc.lookup y = some c → env.cells.lookup y = some c) →
    ∃ cl : List (Str × Addr), (forIn names acc (fun x (r : List (Str × Addr)) => if x.2 == NameKind.free then (do let a ← cellOf env x.1; pure (ForInStep.yield ((x.1, a) :: r))) else pure (ForInStep.yield r)) : Sem (List (Str × Addr))) = pure cl ∧
      (∀ y c, cl.lookup y = some c → env.cells.lookup y = some c) ∧ (∀ y, (∃ c, acc.lookup y = some c) ∨ (y, NameKind.free) ∈ names → ∃ c, cl.lookup y = some c)
  | [], acc, _, ha => ⟨acc, rfl, ha, fun y h => h.elim id fun z => absurd z (by simp)⟩
  | (n, k) :: r, acc, hf, ha => by
    have hr : ∀ y ∈ r, y.2 = .free → ∃ c, env.cells.lookup y.1 = some c := fun y hy => hf y (List.mem_cons_of_mem _ hy)
    by_cases hk : k = .free
    · subst hk
      obtain ⟨c, hc⟩ := hf (n, .free) List.mem_cons_self rfl
      have ha' : ∀ y c', ((n, c) :: acc).lookup y = some c' → env.cells.lookup y = some c' := fun y c' h => by
        cases hy : y == n with
        | true =>
          simp only [List.lookup_cons, hy] at h
          cases h
          rw [beq_iff_eq.mp hy]
          exact hc
        | false =>
          simp only [List.lookup_cons, hy] at h
          exact ha y c' h
      obtain ⟨cl, e, h1, h2⟩ := closure_of env r ((n, c) :: acc) hr ha'
      refine ⟨cl, ?_, h1, fun y h => h2 y ?_⟩
      · rw [List.forIn_cons]
        have : cellOf env n = pure c := by unfold cellOf; rw [hc]
        simp only [beq_self_eq_true, if_true, this]
        exact e
      · rcases h with ⟨c', h⟩ | h
        · cases hy : y == n with
          | true => exact .inl ⟨c, by simp only [List.lookup_cons, hy]⟩
          | false => exact .inl ⟨c', by simp only [List.lookup_cons, hy]; exact h⟩
        · rcases List.mem_cons.mp h with h | h
          · cases h
            exact .inl ⟨c, by simp⟩
          · exact .inr h
    · obtain ⟨cl, e, h1, h2⟩ := closure_of env r acc hr ha
      refine ⟨cl, ?_, h1, fun y h => h2 y ?_⟩
      · rw [List.forIn_cons]
        have hb : (k == NameKind.free) = false := by simpa using hk
        simp only [hb, Bool.false_eq_true, if_false]
        exact e
      · rcases h with h | h
        · exact .inl h
        · rcases List.mem_cons.mp h with h | h
          · cases h
            exact absurd rfl hk
          · exact .inr h
def PIf (X : Cx) (ifs : List Expr) (t : TT) : Prop :=
  ∀ (pins : List (Addr × Obj)) (s : Shared) (σ : St) (H : Hp) (Q : Bool → Hp → Prop), Inv X pins σ H s → t σ H Q →
    wpAny (model X.prog X.w) X.A (forIn ifs true fun c r => if r = true then do let ok ← isTrue c X.env (eval c X.env); pure (ForInStep.yield ok) else pure (ForInStep.yield r)) (TP X pins σ Q) X.xe s
def tAll : TT := fun _ H Q => Q true H
section
variable {X : Cx}
theorem pif_nil : PIf X [] tAll := fun _ _ _ H _ I h => wpAny_pure ⟨H, I, h⟩
theorem pif_one {c : Expr} {t : TT} (hc : PT X c t) : PIf X [c] t := by
  intro pins s σ H Q I h
  rw [List.forIn_cons]
  simp only [if_true]
  refine wpAny_bind (wpAny_bind (thn (hc pins s σ H _ I h) fun b s1 q => wpAny_pure ?_))
  exact wpAny_pure q
end
section
variable {prog : Program} {w : World} {A : Around} {R : Result → Shared → Prop} {s : Shared}
theorem compLoop_any {elt target iter : Expr} {ifs : List Expr} {scope : Scope} {pos : Pos} {it acc : Value} {env : Env} (I : Nat → Shared → Prop)
    (turn : ∀ n s, I n s → wpAny (model prog w) A (pyNext it) (fun r s₁ => match r with
      | none => R (.ok .next) s₁
      | some v => wpAny (model prog w) A (letOwnedTupleGo target it v) (fun _ s₀ => wpAny (model prog w) A (assign target env v) (fun _ s₂ =>
          wpAny (model prog w) A (forIn ifs true fun c r => if r = true then do let ok ← isTrue c env (eval c env); pure (ForInStep.yield ok) else pure (ForInStep.yield r)) (fun ok s₃ =>
            if ok = true then wpAny (model prog w) A (eval elt env) (fun x s₄ =>
              wpAny (model prog w) A (call (.builtin "list.append") [acc, x]) (fun _ s₅ => ∃ m, m < n ∧ I m s₅) (fun _ _ => False) s₄) (fun _ _ => False) s₃
            else ∃ m, m < n ∧ I m s₃) (fun _ _ => False) s₂) (fun _ _ => False) s₀) (fun _ _ => False) s₁) (fun _ _ => False) s)
    (n : Nat) (h : I n s) :
    codeAny (model prog w) A (.compLoop (.ListComp elt [⟨target, iter, ifs, 0⟩] scope pos) 0 it acc env) R s := by
  refine codeAny_loop rfl I (fun n s hI => ?_) n h
  show wpAny _ A ((compTurn (.ListComp elt [⟨target, iter, ifs, 0⟩] scope pos) 0 it acc env).onRaise (fun x => do noteFrame x env; theTreesLotGoes x)) _ _ s
  refine wpAny_noted ?_
  rw [compTurn_list]
  refine wpAny_bind (wpAny_standAt (wpAny_bind (wpAny_mono (turn n s hI) (fun r s₁ h₁ => ?_) fun _ _ z => z.elim)))
  cases r with
  | none => exact wpAny_pure h₁
  | some v =>
    refine wpAny_bind (wpAny_mono h₁ (fun _ s₀ h₀ => ?_) fun _ _ z => z.elim)
    refine wpAny_bind (wpAny_mono h₀ (fun _ s₂ h₂ => wpAny_bind (wpAny_mono h₂ (fun ok s₃ h₃ => ?_) fun _ _ z => z.elim)) fun _ _ z => z.elim)
    cases ok with
    | false => exact wpAny_pure ⟨rfl, h₃⟩
    | true =>
      exact wpAny_bind (wpAny_bind (wpAny_mono h₃ (fun x s₄ h₄ => wpAny_bind (wpAny_mono h₄ (fun _ s₅ h₅ => wpAny_pure (wpAny_pure ⟨rfl, h₅⟩)) fun _ _ z => z.elim)) fun _ _ z => z.elim))
end
def tComp (ix : List Nat) (wi : TI) (g : TG) (tc : TT) (te : TE) : TE := fun σ H Q => wi σ H fun J H1 => ∀ p, H1 p = none →
  ∃ W : Nat → Nat → List V → St → Hp → Prop, (∃ m, W 0 m [] (emb ix σ) (upd H1 p (.lst []))) ∧ ∀ i m ys σ' H', W i m ys σ' H' →
    (J.stop i H' ∧ Q (.ref p) H') ∨ (J.go i H' ∧ ∀ x H2, J.yld i H' x H2 → g x σ' H2 fun σ2 H3 => tc σ2 H3 fun b H4 =>
      if b = true then te σ2 H4 fun v H5 => H5 p = some (.lst ys) ∧ ys.length < sizeLine ∧ ∃ m', m' < m ∧ W (i + 1) m' (ys ++ [v]) σ2 (upd H5 p (.lst (ys ++ [v])))
      else ∃ m', m' < m ∧ W (i + 1) m' ys σ2 H4)
section
variable {X : Cx}
theorem comp_start {pins : List (Addr × Obj)} {σ : St} {H : Hp} {s : Shared} {sc : Scope} {x : Str} {zs : List Str} {ix : List Nat} {cl : List (Str × Addr)} {fp : List Addr} {h₁ : Heap} {tk : Nat}
    (S : CompScope X sc x zs ix) (I : Inv X pins σ H s) (hcl : ∀ y c, cl.lookup y = some c → X.env.cells.lookup y = some c) (hhas : ∀ y, (y, NameKind.free) ∈ sc.names → ∃ c, cl.lookup y = some c)
    (hfp : ∀ b ∈ fp, FpOk X pins H b ∧ b < s.heap.objs.size) (hns : h₁.Ns s.heap.objs.size fun _ => none) (hk : ∀ b o, s.heap.get? b = some o → h₁.get? b = some o) :
    Inv (cxComp X sc cl s.heap.objs.size (x :: zs) s H fp) [] (emb ix σ) H { s with heap := h₁, toks := tk } := by
  have sub : ∀ b ∈ frs X.stack, b ∈ X.env.locals :: X.fs := I.stkSub
  have nfs : ∀ b ∈ fp, b ∉ frs X.stack := fun b hb z => by
    obtain ⟨⟨_, f1, f2, _⟩, _⟩ := hfp b hb
    rcases List.mem_cons.mp (sub b z) with e | e
    · exact f1 e
    · exact f2 e
  have cut : ∀ y, (cxComp X sc cl s.heap.objs.size (x :: zs) s H fp).env.kindOf y = some .cell ∨ (cxComp X sc cl s.heap.objs.size (x :: zs) s H fp).env.kindOf y = some .free → ∃ c, cl.lookup y = some c := fun y hy => by
    have q : ∃ k, (relabel sc X.env).names.lookup y = some k ∧ (k = .cell ∨ k = .free) := by
      rcases hy with hy | hy
      · exact ⟨_, hy, .inl rfl⟩
      · exact ⟨_, hy, .inr rfl⟩
    obtain ⟨k, e, hk⟩ := q
    obtain ⟨k', e', q⟩ := lookup_relabel e
    have : k' = .free := by
      rcases q with q | ⟨q, _⟩
      · rcases hk with z | z
        · exact absurd (q.symm.trans z) (S.nocell _ (lookup_mem e'))
        · exact q.symm.trans z
      · exact q
    subst this
    exact hhas y (lookup_mem e')
  refine ⟨⟨I.ok.mod, S.kind, I.ok.glob, I.ok.blt, Nat.le_refl _, fun y z c h1 h2 => I.ok.inj y z c (hcl _ _ h1) (hcl _ _ h2), cut, fun y c hf _ => ?_, I.ok.hd, I.ok.frames, .inl rfl, fun b hb => ?_, I.bs, Nat.le_trans I.ok.bsz I.sz, fun b o e hb => ?_, nfs, I.stack, I.stkFree⟩,
    rfl, I.bare, Un.kept hk, ⟨_, hns, fun i y v h1 h2 h3 => ?_⟩, fun y c h => ?_, I.hok.fresh (Nat.le_refl _), fun y c h => I.freeC y c (hcl y c h), fun p hp => absurd (show p ∈ ([] : List (Addr × Obj)) from hp) (by simp), I.hok.kept hk, ?_⟩
  · exact absurd (show false = true from hf) (by decide)
  · obtain ⟨⟨f0, f1, f2, f3, f4, f5⟩, hl⟩ := hfp b hb
    exact ⟨Nat.ne_of_lt hl, fun y c h => f4 y c (hcl y c h)⟩
  · obtain ⟨⟨f0, f1, f2, f3, f4, f5⟩, hl⟩ := hfp b hb
    rcases f3 with z | z
    · exact I.ok.noex b o e z
    · exact absurd (Nat.lt_of_lt_of_le (Heap.lt_size e) (Nat.le_trans I.ok.bsz z)) (Nat.lt_irrefl _)
  ·
    cases i with
    | zero =>
      have : (none : Option (Option V)) = some (some v) ∨ (some none : Option (Option V)) = some (some v) := .inr h2
      rcases this with z | z <;> cases z
    | succ i =>
      have h1' : zs[i]? = some y := h1
      have h2' : (ix.map fun j => (σ[j]?).join)[i]? = some (some v) := h2
      have ha : (ix.map fun j => X.N[j]?)[i]? = some (some y) := by rw [S.at_, List.getElem?_map, h1']; rfl
      rw [List.getElem?_map] at h2' ha
      cases e : ix[i]? with
      | none => rw [e] at h2'; cases h2'
      | some j =>
        rw [e] at h2' ha
        have ha' : X.N[j]? = some y := Option.some.inj ha
        have hj : (σ[j]?).join = some v := Option.some.inj h2'
        have hσ : σ[j]? = some (some v) := by
          cases q : σ[j]? with
          | none => rw [q] at hj; cases hj
          | some o => rw [q] at hj; exact congrArg some hj
        obtain ⟨m, hn, hl⟩ := I.loc
        have hfr := S.zfree y (List.mem_of_getElem? h1')
        have hkind := S.free _ (lookup_mem hfr) rfl
        have hv : Vis X.env.scope y := by
          rcases hkind with z | z
          · exact .inr (.inl z)
          · exact .inr (.inr z)
        obtain ⟨u, r, q⟩ := hl j y v ha' hσ hv
        refine ⟨u, r, ?_⟩
        rcases q with ⟨kl, _⟩ | ⟨_, c, hc, hcell⟩
        · have kl' : X.env.kindOf y = some .local := kl
          rcases hkind with z | z <;> (rw [z] at kl'; cases kl')
        · obtain ⟨c', hc'⟩ := hhas y (lookup_mem hfr)
          have ec : c' = c := by have := hcl y c' hc'; rw [hc] at this; exact (Option.some.inj this).symm
          subst ec
          refine .inr ⟨?_, c', hc', ?_⟩
          · have hvis : Vis (relabel sc X.env) y := h3
            rcases hvis with z | z | z
            · obtain ⟨k', e', q⟩ := lookup_relabel z
              rw [hfr] at e'
              cases e'
              rcases q with q | ⟨_, q⟩ <;> cases q
            · exact .inl z
            · exact .inr z
          · obtain ⟨o, ho, hd⟩ := hcell
            exact ⟨o, hk _ _ ho, hd⟩
  · obtain ⟨v, o, ho, hd⟩ := I.cell y c (hcl y c h)
    exact ⟨v, o, hk _ _ ho, hd⟩
  · show (none :: ix.map fun j => (σ[j]?).join).length = (x :: zs).length
    have := congrArg List.length S.at_
    simp only [List.length_map] at this
    simp only [List.length_cons, List.length_map, this]
def CompEnd (X : Cx) (pins : List (Addr × Obj)) (σ : St) (Q : VK) (acc : Value) (C : Addr) (s' : Shared) : Prop :=
  ∃ p H' m, acc = Value.ref p ∧ s'.heap.Ns C m ∧ Inv X pins σ H' s' ∧ FpOk X pins H' C ∧ Q (.ref p) H'
theorem comp_block {pins : List (Addr × Obj)} {σ : St} {H : Hp} {s : Shared} {sc : Scope} {x : Str} {zs : List Str} {ix : List Nat} {cl : List (Str × Addr)} {fp : List Addr} {it : Addr} {tn : Nat → Heap → Prop} {J : It}
    {elt tg iter : Expr} {ifs : List Expr} {pos : Pos} {g : TG} {tc : TT} {te : TE} {Q : VK} {E : Value → Shared → Prop} {RR : Value → Addr → Result → Shared → Prop}
    (hc : X.calm = true) (S : CompScope X sc x zs ix) (I : Inv X pins σ H s) (hcl : ∀ y c, cl.lookup y = some c → X.env.cells.lookup y = some c) (hhas : ∀ y, (y, NameKind.free) ∈ sc.names → ∃ c, cl.lookup y = some c)
    (T : Turn X.prog X.w X.K tg J fp it tn) (st : tn 0 s.heap) (hfp : ∀ b ∈ fp, FpOk X pins H b)
    (hin : ∀ C s H, PG (cxComp X sc cl C (x :: zs) s H fp) tg g ∧ PIf (cxComp X sc cl C (x :: zs) s H fp) ifs tc ∧ PE (cxComp X sc cl C (x :: zs) s H fp) elt te)
    (hq : ∀ p, H p = none → ∃ W : Nat → Nat → List V → St → Hp → Prop, (∃ m, W 0 m [] (emb ix σ) (upd H p (.lst []))) ∧ ∀ i m ys σ' H', W i m ys σ' H' →
      (J.stop i H' ∧ Q (.ref p) H') ∨ (J.go i H' ∧ ∀ x H2, J.yld i H' x H2 → g x σ' H2 fun σ2 H3 => tc σ2 H3 fun b H4 =>
        if b = true then te σ2 H4 fun v H5 => H5 p = some (.lst ys) ∧ ys.length < sizeLine ∧ ∃ m', m' < m ∧ W (i + 1) m' (ys ++ [v]) σ2 (upd H5 p (.lst (ys ++ [v])))
        else ∃ m', m' < m ∧ W (i + 1) m' ys σ2 H4))
    (hR : ∀ acc C f s', CompEnd X pins σ Q acc C s' → RR acc C (.ok f) s') :
    wpAny (model X.prog X.w) X.A (newList []) (fun acc s₃ => wpAny (model X.prog X.w) X.A (newFunctionEnv sc X.env.globals cl [] X.env.qual none .none (some X.env)) (fun cenv s₄ =>
      codeAny (model X.prog X.w) X.A (.compStart (.ListComp elt [⟨tg, iter, ifs, 0⟩] sc pos) 0 (.ref it) acc { cenv with scope := relabel sc X.env }) (RR acc cenv.locals) s₄) E s₃) E s := by
  refine wpAny_newObj_type (wpAny_newFunctionEnv S.nocell (by intro y hy; simp at hy) (fun h₁ hns₁ hsb₁ => ?_) S.kind)
  have I3 : Inv X pins σ (upd H s.heap.objs.size (.lst [])) { s with heap := s.heap.push { cls := .type "list", dict := none, data := .seq ([] : List Value).toArray } } := I.lnew (its := []) (ys := []) (t' := s.toks) .nil (Nat.zero_le _)
  dsimp only at hns₁ hsb₁ ⊢
  obtain ⟨W, ⟨m0, w0⟩, turn⟩ := hq s.heap.objs.size (I.hok.fresh (Nat.le_refl _))
  have lt : ∀ b ∈ fp, b < s.heap.objs.size := fun b hb => by
    obtain ⟨o, e, _⟩ := T.obj 0 s.heap st b hb
    exact Heap.lt_size e
  have up : ∀ b ∈ fp, ∀ o, (upd H s.heap.objs.size o) b = H b := fun b hb o => upd_ne (Nat.ne_of_lt (lt b hb))
  have kp : ∀ b o, (s.heap.push { cls := .type "list", dict := none, data := .seq ([] : List Value).toArray }).get? b = some o → h₁.get? b = some o := fun b o e =>
    hsb₁.extBut b o (Nat.ne_of_lt (Heap.lt_size e)) (Heap.get?_push_of_some _ e)
  have f3 : ∀ b ∈ fp, FpOk X pins (upd H s.heap.objs.size (.lst [])) b ∧ b < (s.heap.push { cls := .type "list", dict := none, data := .seq ([] : List Value).toArray }).objs.size := fun b hb => by
    obtain ⟨q0, q⟩ := hfp b hb
    refine ⟨⟨(up b hb _).trans q0, q⟩, ?_⟩
    rw [Heap.size_push]
    exact Nat.lt_succ_of_lt (lt b hb)
  generalize hS3 : ({ s with heap := s.heap.push { cls := .type "list", dict := none, data := .seq ([] : List Value).toArray } } : Shared) = s3 at I3
  have hH3 : s.heap.push { cls := .type "list", dict := none, data := .seq ([] : List Value).toArray } = s3.heap := by rw [← hS3]
  rw [hH3] at kp f3 hns₁ ⊢
  have st3 : tn 0 h₁ := T.keep 0 _ _ st fun b _ o e => kp b o (by rw [← hH3]; exact Heap.get?_push_of_some _ e)
  have J0 : Inv (cxComp X sc cl s3.heap.objs.size (x :: zs) s3 (upd H s.heap.objs.size (.lst [])) fp) [] (emb ix σ) (upd H s.heap.objs.size (.lst [])) { s3 with heap := h₁, toks := s3.toks } :=
    comp_start S I3 hcl hhas f3 hns₁ kp
  obtain ⟨hg, hif, he⟩ := hin s3.heap.objs.size s3 (upd H s.heap.objs.size (.lst []))
  have fpo : ∀ {H' : Hp}, (∀ b ∈ fp, H' b = none) → ∀ b ∈ fp, FpOk (cxComp X sc cl s3.heap.objs.size (x :: zs) s3 (upd H s.heap.objs.size (.lst [])) fp) [] H' b := fun {H'} hn b hb =>
    ⟨hn b hb, (J0.ok.exf b hb).1, J0.ok.exfs b hb, .inl hb, (J0.ok.exf b hb).2, fun p hp => absurd (show p ∈ ([] : List (Addr × Obj)) from hp) (by simp)⟩
  have loop : ∀ s4 : Shared, s4 = { s3 with heap := h₁, toks := s3.toks } →
      codeAny (model X.prog X.w) X.A (.compLoop (.ListComp elt [⟨tg, iter, ifs, 0⟩] sc pos) 0 (.ref it) (.ref s.heap.objs.size) (compEnvC sc cl s3.heap.objs.size X.env)) (RR (.ref s.heap.objs.size) s3.heap.objs.size) s4 := by
    rintro s4 rfl
    refine compLoop_any (fun n s' => ∃ i ys σ' H', Inv (cxComp X sc cl s3.heap.objs.size (x :: zs) s3 (upd H s.heap.objs.size (.lst [])) fp) [] σ' H' s' ∧ tn i s'.heap ∧ (∀ b ∈ fp, H' b = none) ∧ W i n ys σ' H') ?_ m0
      ⟨0, [], emb ix σ, _, J0, st3, fun b hb => (f3 b hb).1.1, w0⟩
    rintro n s5 ⟨i, ys, σ5, H5, I5, st5, fr5, w5⟩
    rcases turn i n ys σ5 H5 w5 with ⟨stop, qn⟩ | ⟨go, step⟩
    · refine thn (T.done (cxComp X sc cl s3.heap.objs.size (x :: zs) s3 (upd H s.heap.objs.size (.lst [])) fp) rfl rfl rfl hc i [] s5 σ5 H5 _ I5 (fpo fr5) st5 stop) fun r s6 ⟨hr, I6⟩ => ?_
      subst hr
      obtain ⟨m6, hm6, _⟩ := I6.loc
      refine hR _ _ _ _ ⟨s.heap.objs.size, H5, m6, rfl, hm6, ?_, I3.fpOk (Nat.le_refl _) I6.free, qn⟩
      exact I3.call' I6.os I6.base I6.hok I6.bare fun b hb => by
        obtain ⟨⟨f0, f1, f2, f3, f4, f5⟩, _⟩ := f3 b hb
        exact ⟨f3, f1, f4, f5⟩
    · refine thn (T.item (cxComp X sc cl s3.heap.objs.size (x :: zs) s3 (upd H s.heap.objs.size (.lst [])) fp) rfl rfl rfl hc i [] s5 σ5 H5 _ I5 (fpo fr5) st5 go) fun r s6 ⟨u, hr, h6⟩ => ?_
      subst hr
      refine thn h6 fun _ s7 ⟨x7, H7, I7, r7, y7, st7, fr7⟩ => ?_
      have I7' := I7.pinned (fpo fr7) (T.obj _ _ st7)
      refine thn (hg _ s7 σ5 H7 x7 u _ I7' r7 (step x7 H7 y7)) fun _ s8 ⟨σ8, H8, I8, q8⟩ => ?_
      refine thn (hif _ s8 σ8 H8 _ I8 q8) fun b s9 ⟨H9, I9, q9⟩ => ?_
      have again : ∀ {ys' : List V} {σ' : St} {H' : Hp} {m' : Nat} {s' : Shared}, Inv (cxComp X sc cl s3.heap.objs.size (x :: zs) s3 (upd H s.heap.objs.size (.lst [])) fp) ([] ++ pinsAt fp s7.heap) σ' H' s' → W (i + 1) m' ys' σ' H' → m' < n →
          ∃ m, m < n ∧ ∃ i ys σ' H', Inv (cxComp X sc cl s3.heap.objs.size (x :: zs) s3 (upd H s.heap.objs.size (.lst [])) fp) [] σ' H' s' ∧ tn i s'.heap ∧ (∀ b ∈ fp, H' b = none) ∧ W i m ys σ' H' := fun {ys' σ' H' m' s'} Iz wz hm => by
        refine ⟨m', hm, i + 1, ys', σ', H', Iz.unpinned, T.keep _ _ _ st7 fun b hb o e => (Iz.pin (b, o) (List.mem_append_right _ (List.mem_append_right _ (mem_pinsAt hb e)))).1, fun b hb => ?_, wz⟩
        obtain ⟨o, e, d⟩ := T.obj _ _ st7 b hb
        exact (Iz.pin (b, o) (List.mem_append_right _ (List.mem_append_right _ (mem_pinsAt hb e)))).2.1
      cases b with
      | false =>
        rw [if_neg Bool.false_ne_true] at q9 ⊢
        obtain ⟨m', hm, wz⟩ := q9
        exact again I9 wz hm
      | true =>
        rw [if_pos rfl] at q9 ⊢
        refine thn (he _ s9 σ8 H9 _ I9 q9) fun v s10 ⟨y, H10, I10, r10, hl, hz, m', hm, wz⟩ => ?_
        refine thn (mt_append _ s10 σ8 H10 (.ref s.heap.objs.size) [y] (.ref s.heap.objs.size) [v] (fun z H' => z = .non ∧ H' = upd H10 s.heap.objs.size (.lst (ys ++ [y]))) I10 rfl (.cons r10 .nil) ⟨_, ys, y, rfl, rfl, hl, hz, rfl, rfl⟩) fun _ s11 ⟨z, H11, I11, _, _, e11⟩ => ?_
        subst e11
        exact again I11 wz hm
  exact codeAny_compStart_list (loop _ (by subst hS3; rfl)) (T.self _ 0 _ _ _ st3 (loop _ (by subst hS3; rfl)))
theorem comp_closure {sc : Scope} {x : Str} {zs : List Str} {ix : List Nat} (ok : X.Ok) (S : CompScope X sc x zs ix) :
    ∃ cl, closureFor sc X.env = pure cl ∧ (∀ y c, cl.lookup y = some c → X.env.cells.lookup y = some c) ∧ ∀ y, (y, NameKind.free) ∈ sc.names → ∃ c, cl.lookup y = some c := by
  obtain ⟨cl, e, h1, h2⟩ := closure_of X.env sc.names [] (fun y hy hf => ok.has y.1 (S.free y hy hf)) (fun y c h => by simp at h)
  refine ⟨cl, ?_, h1, fun y hy => h2 y (.inr hy)⟩
  unfold closureFor
  simp only
  rw [e]
  rfl
theorem pe_comp {elt tg iter : Expr} {ifs : List Expr} {sc : Scope} {pos : Pos} {x : Str} {zs : List Str} {ix : List Nat} {wi : TI} {g : TG} {tc : TT} {te : TE}
    (hc : X.calm = true) (S : CompScope X sc x zs ix) (hi : PI X tg iter wi)
    (hin : ∀ cl C s H fp, PG (cxComp X sc cl C (x :: zs) s H fp) tg g ∧ PIf (cxComp X sc cl C (x :: zs) s H fp) ifs tc ∧ PE (cxComp X sc cl C (x :: zs) s H fp) elt te)
    (hs : ∀ x, foldedSetIterable iter X.env x = pure x := by intro _; rfl) :
    PE X (.ListComp elt [⟨tg, iter, ifs, 0⟩] sc pos) (tComp ix wi g tc te) := by
  intro pins s σ H Q I h
  obtain ⟨cl, hclos, hcl, hhas⟩ := comp_closure I.ok S
  rw [eval_ListComp]
  refine wpAny_comprehension_free (use := none) rfl hs hclos S.kind S.names (thn (hi pins s σ H _ I h) fun v s1 h1 => thn h1 fun itv s2 h2 => ?_)
  obtain ⟨it, fp, tn, J, H2, e, I2, T, st2, f2, hq⟩ := h2
  subst e
  refine comp_block (RR := fun acc C => compPost (model X.prog X.w) X.A X.xe none (EP X pins σ Q) acc C) hc S I2 hcl hhas T st2 f2 (fun C s H => hin cl C s H fp) hq fun acc C f s' h => ?_
  obtain ⟨p, H', m, rfl, hm, I', ⟨g0, g1, g2, g3, g4, g5⟩, q⟩ := h
  exact ⟨m, hm, fun h' hb => ⟨.ref p, H', I'.turned (t' := s'.toks) (fun b o hne e => (hb.2 b hne).trans e) g0 g1 g3 g4 g5, rfl, q⟩⟩
theorem ps_comp {elt tg iter : Expr} {ifs : List Expr} {sc : Scope} {pos py spos : Pos} {x y : Str} {zs : List Str} {ix : List Nat} {wi : TI} {g : TG} {tc : TT} {te : TE} {j : Nat}
    (hc : X.calm = true) (S : CompScope X sc x zs ix) (hi : PI X tg iter wi)
    (hin : ∀ cl C s H fp, PG (cxComp X sc cl C (x :: zs) s H fp) tg g ∧ PIf (cxComp X sc cl C (x :: zs) s H fp) ifs tc ∧ PE (cxComp X sc cl C (x :: zs) s H fp) elt te)
    (hN : X.N.Nodup) (hj : X.N[j]? = some y) (hy : Loc X.env.scope y)
    (hsw : swapsWith (.ListComp elt [⟨tg, iter, ifs, 0⟩] sc pos) (some (.Name y py)) spos.line X.env = pure true := by rfl)
    (hf : X.fn y = true ∨ X.env.scope.names.lookup y = some .local := by first | exact .inl rfl | exact .inr rfl | assumption)
    (hs : ∀ x, foldedSetIterable iter X.env x = pure x := by intro _; rfl) :
    PS X (.Assign [.Name y py] (.ListComp elt [⟨tg, iter, ifs, 0⟩] sc pos) spos) (tAsg (tComp ix wi g tc te) (gName j)) := by
  intro pins s σ H D I h
  obtain ⟨cl, hclos, hcl, hhas⟩ := comp_closure I.ok S
  rw [exec_Assign_Name_used _ _ _ _ hsw]
  refine wpAny_bind (wpAny_standAt (wpAny_bind ?_))
  show wpAny _ X.A (do let _ ← comprehension (.ListComp elt [⟨tg, iter, ifs, 0⟩] sc pos) sc X.env _ (newList []) false (eval iter X.env) (some (assign (.Name y py) X.env))) _ _ s
  refine wpAny_bind (wpAny_mono (wpAny_comprehension_free (use := some (assign (.Name y py) X.env)) (Q := fun _ s' => SP X pins D .next s') rfl hs hclos S.kind S.names
    (thn (hi pins s σ H _ I h) fun v s1 h1 => thn h1 fun itv s2 h2 => ?_)) (fun _ s' hq => wpAny_pure (wpAny_pure hq)) fun _ _ e => e)
  obtain ⟨it, fp, tn, J, H2, e, I2, T, st2, f2, hq⟩ := h2
  subst e
  refine comp_block (Q := fun x H1 => gName j x σ H1 D.nx) (RR := fun acc C => compPost (model X.prog X.w) X.A X.xe (some (assign (.Name y py) X.env)) (fun _ s' => SP X pins D .next s') acc C) hc S I2 hcl hhas T st2 f2 (fun C s H => hin cl C s H fp) hq fun acc C f s' h => ?_
  obtain ⟨p, H', m, rfl, hm, I', ⟨g0, g1, g2, g3, g4, g5⟩, q⟩ := h
  show wpAny _ X.A (assign (.Name y py) X.env (.ref p)) _ _ _
  refine wpAny_assign_Name (store_ok2 I' hN hj hy (show RelV (.ref p) (.ref p) from rfl) (fun s'' I'' ⟨c, hsb, hcc⟩ => ?_) hf)
  have hne : C ≠ c := by
    rcases hcc with z | z
    · rw [z]; exact g1
    · exact Ne.symm (g4 _ _ z)
  exact ⟨m, hm.sameBut hsb hne, fun h' hb => ⟨_, H', I''.turned (t' := s''.toks) (fun b o hne e => (hb.2 b hne).trans e) g0 g1 g3 g4 g5, q⟩⟩
end
end L2
namespace L2
open PySem PySem.Spec PyProof.Rows
def CXX (P : Program) (w : World) : CXT := fun outer H s E e s' =>
  ∃ (ea : Addr) (cls a0 : Value) (H' : Hp) (B : Heap), e = .ref ea ∧ s'.os = s.os ∧ AllBare s'.gens ∧ Un (frs outer) [] H H' s.heap s'.heap ∧ HOk P w H' s'.heap ∧
    Heap.FlyingW B outer ea cls a0 s'.heap ∧ (∀ b o, s'.heap.get? b = some o → (H' b ≠ none ∨ ((∃ o', s.heap.get? b = some o') ∧ b ∉ frs outer)) → B.get? b = some o) ∧ E cls none H'
theorem HOk.stays {P : Program} {w : World} {H : Hp} {h h' B : Heap} (ok : HOk P w H h) (hB : ∀ b o, h.get? b = some o → H b ≠ none → B.get? b = some o) (st : B.StaysIn h') : HOk P w H h' := fun a o e =>
  (ok a o e).stay (fun b u hb q => st b u (hB b u q (by
    rcases hb with rfl | hb
    · rw [e]; exact fun z => nomatch z
    · rw [hb]; exact fun z => nomatch z))) (fun _ q => q) fun _ _ q => q
theorem ObjOk.got {P : Program} {w : World} {H : Hp} {h : Heap} {a : Addr} {o : HO} (x : ObjOk P w H h a o) : ∃ ob, h.get? a = some ob := by
  cases o with
  | lst xs => obtain ⟨_, _, _, _, e⟩ := x; exact ⟨_, e⟩
  | tup xs => obtain ⟨_, _, _, p⟩ := x; obtain ⟨ob, e, _⟩ := p; exact ⟨ob, e⟩
  | dK kvs => obtain ⟨_, _, _, _, o, _, _, e, _⟩ := x; exact ⟨o, e⟩
  | dT kvs => obtain ⟨_, _, _, _, o, _, _, e, _⟩ := x; exact ⟨o, e⟩
  | set S n => obtain ⟨o, _, _, _, e, _⟩ := x; exact ⟨o, e⟩
  | ins C dx fs => obtain ⟨_, _, _, e, _⟩ := x; exact ⟨_, e⟩
  | own y => exact x
  | xd fs => obtain ⟨_, ⟨o, _, _, e, _⟩, _⟩ := x; exact ⟨o, e⟩
  | rng lo hi => obtain ⟨_, _, _, e⟩ := x; exact ⟨_, e⟩
  | frz ob u => obtain ⟨e, _⟩ := x; exact ⟨ob, e⟩
  | tbl ps => exact ⟨_, (show h.get? a = some _ from x)⟩
  | met f y => exact ⟨_, (show h.get? a = some _ from x)⟩
  | ext φ => obtain ⟨_, e, _⟩ := x; exact e
theorem Un.fly {fs : List Addr} {H H' : Hp} {h h1 h2 B : Heap} (u : Un fs [] H H' h h1) (hB : ∀ b o, h1.get? b = some o → (H' b ≠ none ∨ ((∃ o', h.get? b = some o') ∧ b ∉ fs)) → B.get? b = some o)
    (st : B.StaysIn h2) (sl : h1.UpToSlots h2) (hf : ∀ b ∈ fs, ∀ o, h.get? b = some o → ∀ vs, o.data ≠ .fields vs) (hfn : ∀ b ∈ fs, H b = none) : Un fs [] H H' h h2 where
  keep := fun b o e n hb hx => st b o (hB b o (u.keep b o e n hb hx) (.inr ⟨⟨_, e⟩, hb⟩))
  slot := fun b o e n hb hx => by
    obtain ⟨s1, e1⟩ := u.slot b o e n hb hx
    obtain ⟨s2, e2⟩ := sl b _ e1 (hf b hb o e)
    exact ⟨s2, e2⟩
  free := u.free
  there := fun b o e hx => by
    by_cases hb : b ∈ fs
    · obtain ⟨s1, e1⟩ := u.slot b o e (hfn b hb) hb hx
      obtain ⟨s2, e2⟩ := sl b _ e1 (hf b hb o e)
      exact ⟨_, e2⟩
    · obtain ⟨o', e1⟩ := u.there b o e hx
      exact ⟨o', st b o' (hB b o' e1 (.inr ⟨⟨_, e⟩, hb⟩))⟩
  tups := u.tups
  frzs := u.frzs
  tbls := u.tbls
section
variable {P : Program} {w : World} {K : PySem.W.Frag} {mg : Str → Option Value} {base : Heap} {N : List Str} {qual : Str} {scope : Scope} {f : Addr} {cd : Value} {A : Around} {outer : List Env} {s₀ : Shared} {H₀ : Hp} {E : XK}
abbrev cxX (P : Program) (w : World) (K : PySem.W.Frag) (mg : Str → Option Value) (base : Heap) (N : List Str) (qual : Str) (scope : Scope) (f : Addr) (cd : Value) (A : Around) (outer : List Env) (s₀ : Shared) (H₀ : Hp) (E : XK) : Cx :=
  cxOf (CXX P w) P w K mg base N qual scope f cd A outer s₀ H₀ E
theorem leave_on {pins : List (Addr × Obj)} {σ : St} {H H' : Hp} {s s' : Shared} {ea : Addr} {cls a0 : Value} {B : Heap} (I : Inv (cxX P w K mg base N qual scope f cd A outer s₀ H₀ E) pins σ H s)
    (os : s'.os = s.os) (bare : AllBare s'.gens) (u : Un (frs (cxX P w K mg base N qual scope f cd A outer s₀ H₀ E).stack) [] H H' s.heap s'.heap) (ok : HOk P w H' s'.heap)
    (fl : Heap.FlyingW B (cxX P w K mg base N qual scope f cd A outer s₀ H₀ E).stack ea cls a0 s'.heap)
    (hB : ∀ b o, s'.heap.get? b = some o → (H' b ≠ none ∨ ((∃ o', s.heap.get? b = some o') ∧ b ∉ frs (cxX P w K mg base N qual scope f cd A outer s₀ H₀ E).stack)) → B.get? b = some o) (q : E cls none H') :
    (cxX P w K mg base N qual scope f cd A outer s₀ H₀ E).xe (.ref ea) s' := by
  have hfr : (A.deeper (envOfC qual scope s₀.heap.objs.size f cd)).frames = some (envOfC qual scope s₀.heap.objs.size f cd :: outer) := I.ok.frames
  refine wpAny_leaves_onW (L := s₀.heap.objs.size) hfr rfl fl fun h2 fl2 sl => ?_
  have below : ∀ b o, s₀.heap.get? b = some o → b ∉ frs outer → (∃ o', s.heap.get? b = some o') ∧ b ∉ frs (cxX P w K mg base N qual scope f cd A outer s₀ H₀ E).stack := fun b o e hn =>
    ⟨I.base.there b o e (by intro z; exact absurd (show b ∈ ([] : List Addr) from z) (by simp)), fun z => by
      rcases List.mem_cons.mp (I.stkSub b z) with q | q
      · have hb := Heap.lt_size e
        have q' : b = s₀.heap.objs.size := q
        rw [q'] at hb
        exact Nat.lt_irrefl _ hb
      · exact hn q⟩
  have u2 : Un (frs outer) [] H₀ H' s₀.heap s'.heap := by
    have b0 : Un (frs outer) [] H₀ H s₀.heap s.heap := I.base
    refine ⟨fun b o e n hb hx => ?_, fun b o e n hb hx => ?_, fun b o e n hx => ?_, fun b o e hx => ?_, fun b xs e => u.tups b xs (b0.tups b xs e), fun b o v e => u.frzs b o v (b0.frzs b o v e), fun b ps e => ?_⟩
    · exact u.keep b o (b0.keep b o e n hb hx) (b0.free b o e n hx) (below b o e hb).2 hx
    · obtain ⟨s1, e1⟩ := b0.slot b o e n hb hx
      obtain ⟨s2, e2⟩ := u.any e1 (b0.free b o e n hx) hx
      exact ⟨s2, e2⟩
    · obtain ⟨o', e1⟩ := b0.there b o e hx
      exact u.free b o' e1 (b0.free b o e n hx) hx
    · obtain ⟨o', e1⟩ := b0.there b o e hx
      exact u.there b o' e1 hx
    · obtain ⟨m1, e1⟩ := b0.tbls b ps e
      obtain ⟨m2, e2⟩ := u.tbls b _ e1
      exact ⟨m1 ++ m2, by rw [e2, Array.append_assoc]⟩
  have hB2 : ∀ b o, s'.heap.get? b = some o → (H' b ≠ none ∨ ((∃ o', s₀.heap.get? b = some o') ∧ b ∉ frs outer)) → B.get? b = some o := fun b o e h => hB b o e (h.imp id fun ⟨⟨o', z⟩, hn⟩ => below b o' z hn)
  have ok2 : HOk P w H' h2 := ok.stays (fun b o e n => hB b o e (.inl n)) fl2.1
  refine ⟨ea, cls, a0, H', B, rfl, os.trans I.os, bare, u2.fly hB2 fl2.1 sl (fun b hb o e => ?_) (I.ok.frf), ok2, fl2, fun b o e h => ?_, q⟩
  · obtain ⟨_, o', e', d⟩ := I.ok.funs.mem hb
    have e'' : s₀.heap.get? b = some o' := e'
    rw [e] at e''
    cases e''
    exact d
  · have ex : ∃ o', s'.heap.get? b = some o' := by
      rcases h with h | ⟨h, hn⟩
      · cases q2 : H' b with
        | none => exact absurd q2 h
        | some v => exact (ok b v q2).got
      · obtain ⟨o5, q5⟩ := h
        exact u2.there b o5 q5 (by simp)
    obtain ⟨o', e'⟩ := ex
    have e2 := hB2 b o' e' h
    have e3 := fl2.1 b o' e2
    have e4 : h2.get? b = some o := e
    rw [e3] at e4
    cases e4
    exact e2
theorem pass_on : Passes (CXX P w) (cxX P w K mg base N qual scope f cd A outer s₀ H₀ E) E := by
  intro pins σ H s e s' I h
  obtain ⟨ea, cls, a0, H', B, rfl, os, bare, u, ok, fl, hB, q⟩ := h
  exact leave_on I os bare u ok fl hB q
def tRaise (cls : Value) (E : XK) (t : TA) : TS := fun _ σ H => t σ H fun vs H1 => vs.length ≤ sizeLine ∧ E cls none H1
theorem raise_end {pins : List (Addr × Obj)} {σ : St} {H : Hp} {s : Shared} {h' : Heap} {ea : Addr} {cls : Value} {us : List Value} (I : Inv (cxX P w K mg base N qual scope f cd A outer s₀ H₀ E) pins σ H s)
    (hx : Heap.MadeExcOf s.heap h' ea cls us) (q : E cls none H) : (cxX P w K mg base N qual scope f cd A outer s₀ H₀ E).xe (.ref ea) { s with heap := h' } := by
  have hfr : (A.deeper (envOfC qual scope s₀.heap.objs.size f cd)).frames = some (envOfC qual scope s₀.heap.objs.size f cd :: outer) := I.ok.frames
  have hin : ∀ env ∈ (cxX P w K mg base N qual scope f cd A outer s₀ H₀ E).stack, ∀ b, env.frame = some b → b ∈ frs (cxX P w K mg base N qual scope f cd A outer s₀ H₀ E).stack := fun env he b hb => List.mem_filterMap.mpr ⟨env, he, hb⟩
  have inB : ∀ b o, s.heap.get? b = some o → (H b ≠ none ∨ ((∃ o', s₀.heap.get? b = some o') ∧ b ∉ frs outer)) → (PySem.W.hideAll s.heap (frs (cxX P w K mg base N qual scope f cd A outer s₀ H₀ E).stack)).get? b = some o := fun b o e h =>
    PySem.W.hideAll_get _ e fun z => by
      rcases h with h | ⟨⟨o', e'⟩, hn⟩
      · exact h (I.stkFree b z)
      · rcases List.mem_cons.mp (I.stkSub b z) with q | q
        · have hb := Heap.lt_size e'
          have q' : b = s₀.heap.objs.size := q
          rw [q'] at hb
          exact Nat.lt_irrefl _ hb
        · exact hn q
  refine wpAny_leaves_madeW (base := PySem.W.hideAll s.heap (frs (cxX P w K mg base N qual scope f cd A outer s₀ H₀ E).stack)) (h := s.heap) (L := s₀.heap.objs.size) hfr rfl (fun b o e => PySem.W.of_hideAll _ e) (PySem.W.funFrames_hide I.stack hin) hx fun h3 t fl _ _ sl => ?_
  have sl' : s.heap.UpToSlots h3 := (Heap.UpToSlots.of_keeps hx.keeps).trans sl
  have b0 : Un (frs outer) [] H₀ H s₀.heap s.heap := I.base
  have ok3 : HOk P w H h3 := I.hok.stays (fun b o e n => inB b o e (.inl n)) fl.1
  refine ⟨ea, cls, _, H, _, rfl, I.os, I.bare, b0.fly inB fl.1 sl' (fun b hb o e => ?_) I.ok.frf, ok3, fl, fun b o e h => ?_, q⟩
  · obtain ⟨_, o', e', d⟩ := I.ok.funs.mem hb
    have e'' : s₀.heap.get? b = some o' := e'
    rw [e] at e''
    cases e''
    exact d
  · have ex : ∃ o', s.heap.get? b = some o' := by
      rcases h with h | ⟨⟨o5, q5⟩, _⟩
      · cases q2 : H b with
        | none => exact absurd q2 h
        | some v => exact (I.hok b v q2).got
      · exact b0.there b o5 q5 (by simp)
    obtain ⟨o', e'⟩ := ex
    have e2 := inB b o' e' h
    have e3 := fl.1 b o' e2
    have e4 : h3.get? b = some o := e
    rw [e3] at e4
    cases e4
    exact e2
theorem ps_raise {x : Str} {np cpos pos : Pos} {e₀ : Expr} {rest : List Expr} {t : TA} {C : Addr} {B newId initId : String} {bm : List Value} (O : OwnCls x C bm newId mg base) (FB : ExcBaseFacts B newId initId bm)
    (hg : Gl (cxX P w K mg base N qual scope f cd A outer s₀ H₀ E) x) (ha : PA (cxX P w K mg base N qual scope f cd A outer s₀ H₀ E) (e₀ :: rest) t)
    (he : starEach (e₀ :: rest) (cxX P w K mg base N qual scope f cd A outer s₀ H₀ E).env = (false, eval e₀ (cxX P w K mg base N qual scope f cd A outer s₀ H₀ E).env) :: starEach rest (cxX P w K mg base N qual scope f cd A outer s₀ H₀ E).env := by rfl)
    (hplain : (backTo cpos (starEach rest (cxX P w K mg base N qual scope f cd A outer s₀ H₀ E).env)).any (·.1) = false := by rfl) (hdb : (x == ("__debug__" : Str)) = false := by decide) :
    PS (cxX P w K mg base N qual scope f cd A outer s₀ H₀ E) (.Raise (some (.Call (.Name x np) (e₀ :: rest) [] cpos)) none pos) (tRaise (.ref C) E t) := by
  intro pins s σ H D I h
  obtain ⟨tl, N', nm, q, bs, hdct, sn, sub, ab, col, dd, k0, k1, k2, k3, k5, mN, hC, hN, hni, T⟩ := O.obj
  refine wpAny_Raise_call_subT (C := C) (nm := nm) (q := q) (N := N') (bs := bs) (bm := tl) (hdct := hdct) (sn := sn) (sub := sub) (ab := ab) (col := col) (dd := dd) (k0 := k0) (k1 := k1) (k2 := k2) (k3 := k3) (k5 := k5)
    FB (mN := mN) (T.hasType FB.hasBase) (I.ok.hd rfl) (by rw [he]; show (false || (backTo cpos (starEach rest (cxX P w K mg base N qual scope f cd A outer s₀ H₀ E).env)).any (·.1)) = false; rw [hplain]; rfl) hni (ld_glob I hg O.bound ⟨rfl, ?_⟩ hdb)
  have h' := ha cpos pins s σ H _ I h
  rw [he] at h' ⊢
  refine Calls.evalArgs_plain (thn h' fun us s2 ⟨vs, H2, I2, r, hz, q2⟩ => ⟨rfl, by rw [← r.length]; exact hz, I2.bk _ _ hC, hN.keeps I2.bk, T.keeps I2.bk, fun h3 e hm => raise_end I2 hm q2⟩)
end
end L2
namespace L2
open PySem PySem.Spec PyProof.Rows
mutual
inductive DRel (K : PySem.W.Frag) (H : Hp) : V → PyData → Prop
  | non : DRel K H .non .none
  | bl (b : Bool) : DRel K H (.bl b) (.bool b)
  | int (i : Int) : DRel K H (.int i) (.int i)
  | str (x : Str) : DRel K H (.str x) (.str x)
  | lst {a : Addr} {xs : List V} {ds : List PyData} (h : SqL K H a xs) (r : DRels K H xs ds) : DRel K H (.ref a) (.list ds)
  | tup {a : Addr} {xs : List V} {ds : List PyData} (h : SqT K H a xs) (r : DRels K H xs ds) : DRel K H (.ref a) (.tuple ds)
inductive DRels (K : PySem.W.Frag) (H : Hp) : List V → List PyData → Prop
  | nil : DRels K H [] []
  | cons {x : V} {d : PyData} {xs : List V} {ds : List PyData} (h : DRel K H x d) (r : DRels K H xs ds) : DRels K H (x :: xs) (d :: ds)
end
theorem DRels.ints {K : PySem.W.Frag} {H : Hp} : ∀ ns : List Int, DRels K H (ns.map V.int) (ns.map PyData.int)
  | [] => .nil
  | n :: ns => .cons (.int n) (DRels.ints ns)
section
variable {X : Cx} {pins : List (Addr × Obj)} {σ : St} {H : Hp} {s : Shared}
mutual
theorem DRel.reads (I : Inv X pins σ H s) : ∀ {x : V} {d : PyData} {v : Value}, DRel X.K H x d → RelV x v → ∃ as, Reads s.heap v d as
  | _, _, _, .non, r => by cases (show _ = Value.none from r); exact ⟨_, .none⟩
  | _, _, _, .bl b, r => by cases (show _ = Value.bool b from r); exact ⟨_, .bool b⟩
  | _, _, _, .int i, r => by obtain ⟨t, e⟩ := r; cases e; exact ⟨_, .int i t⟩
  | _, _, _, .str x, r => by obtain ⟨t, e⟩ := r; cases e; exact ⟨_, .str x t⟩
  | _, _, _, .lst (a := a) h rs, r => by
    cases (show _ = Value.ref a from r)
    obtain ⟨its, rv, p, hz⟩ := I.list h
    obtain ⟨o, ho, hc, n, hd⟩ := p.isList
    obtain ⟨as, q⟩ := DRels.reads I rs rv
    exact ⟨_, .list ho hc hd (by simpa using q)⟩
  | _, _, _, .tup (a := a) h rs, r => by
    cases (show _ = Value.ref a from r)
    obtain ⟨its, rv, p, hz⟩ := I.tuple h
    obtain ⟨o, ho, hc, n, hd⟩ := (show s.heap.IsTuple a its.toArray from p)
    obtain ⟨as, q⟩ := DRels.reads I rs rv
    exact ⟨_, .tuple ho hc hd (by simpa using q)⟩
theorem DRels.reads (I : Inv X pins σ H s) : ∀ {xs : List V} {ds : List PyData} {vs : List Value}, DRels X.K H xs ds → Vals xs vs → ∃ as, ReadsAll s.heap vs ds as
  | _, _, _, .nil, .nil => ⟨_, .nil⟩
  | _, _, _, .cons h r, .cons q t => by
    obtain ⟨as, e⟩ := DRel.reads I h q
    obtain ⟨bs, e'⟩ := DRels.reads I r t
    exact ⟨_, .cons e e'⟩
end
end
def rEqD (K : PySem.W.Frag) (neg : Bool) : R2 := fun x y H Q => ∃ dx dy, DRel K H x dx ∧ DRel K H y dy ∧ dx.canLay0 = true ∧ dy.canLay0 = true ∧ dx.depth ≤ 60 ∧ Q (.bl (if neg then !PyData.eqv dx dy else PyData.eqv dx dy)) H
section
variable {X : Cx}
theorem op_eqD (hu : X.A.units + 64 < cLine) : OpR X (compareOp .Eq) (rEqD X.K false) := by
  intro pins s σ H x y v u Q I rx ry h
  obtain ⟨dx, dy, h1, h2, c1, c2, dp, q⟩ := h
  obtain ⟨as, r1⟩ := h1.reads I rx
  obtain ⟨bs, r2⟩ := h2.reads I ry
  exact SeqAt.compareEq_reads r1 r2 c1 c2 (by have : min dx.depth dy.depth ≤ dx.depth := Nat.min_le_left _ _; omega) ⟨.bl _, H, I, rfl, q⟩
theorem op_neD (hu : X.A.units + 64 < cLine) : OpR X (compareOp .NotEq) (rEqD X.K true) := by
  intro pins s σ H x y v u Q I rx ry h
  obtain ⟨dx, dy, h1, h2, c1, c2, dp, q⟩ := h
  obtain ⟨as, r1⟩ := h1.reads I rx
  obtain ⟨bs, r2⟩ := h2.reads I ry
  exact SeqAt.compareNe_reads r1 r2 c1 c2 (by have : min dx.depth dy.depth ≤ dx.depth := Nat.min_le_left _ _; omega) ⟨.bl _, H, I, rfl, q⟩
end
end L2
namespace L2
open PySem PySem.Spec PyProof.Rows
section
variable {prog : Program} {w : World} {A : Around} {E : Value → Shared → Prop}
variable {s : Shared}
end
section
variable {X : Cx} {pos : Pos}
end
end L2
namespace L2
open PySem PySem.Spec PyProof.Rows
section
variable {P : Program} {w : World} {K : PySem.W.Frag} {mg : Str → Option Value} {base : Heap}
theorem Fun.okX {x qual : Str} {st : Stmt} {f : Addr} {fd : FuncData} {N ps : List Str} {k : Nat} {sp : Sp} (F : Fun K x qual st f fd) (S : FnScope N ps (defScope st)) (len : ∀ vs H Q E, sp vs H Q E → vs.length = ps.length)
    (hbody : ∀ (cdv : Value) (A : Around) (outer : List Env) (s : Shared) (H : Hp) (vs : List V) (Q : VK) (E : XK), Room k (A.deeper (envOfC qual (defScope st) s.heap.objs.size f cdv)) → sp vs H Q E →
      ∃ t, PSs (cxX P w K mg base N qual (defScope st) f cdv A outer s H E) (defBody st) t ∧ t { nx := fun _ H' => Q .non H', rt := Q } (start N vs) H) : FnOk P w K mg base (CXX P w) (k + 1) f fd ps sp := by
  obtain ⟨oc, od, kV, doc, pm, an, cdv, ct, osl, rfl, lk, hcd⟩ := F.ex
  exact fn_of lk hcd S len fun A outer s H vs Q E hr hsp => hbody cdv A outer s H vs Q E hr hsp
theorem passX0 {X : Cx} : Passes (CXX X.prog X.w) X E0 := by
  intro pins σ H s e s' I h
  obtain ⟨ea, cls, a0, H', B, _, _, _, _, _, _, _, z⟩ := h
  exact z.elim
end
section
variable {X : Cx}
def rOr (r r' : R2) : R2 := fun x y H Q => r x y H Q ∨ r' x y H Q
def rAddS : R2 := fun x y H Q => ∃ i j, x = .str i ∧ y = .str j ∧ i.length + j.length ≤ sizeLine ∧ Q (.str (i ++ j)) H
def rAddI : R2 := rI0 fun i j => .int (i + j)
def rMulI : R2 := rI (fun i j => IntMulOk i j) fun i j => .int (i * j)
theorem op_addU : OpR X (binaryOp .Add) (rOr rAddI (rOr rAddS (rOr rCat (rCatT X.K)))) := op_add.or (op_add_str.or (op_cat.or op_catT))
theorem op_mulU : OpR X (binaryOp .Mult) (rOr rMulI rRep) := op_mulG.or op_rep
theorem op_eqU (hu : X.A.units + 64 < cLine) : OpR X (compareOp .Eq) (rOr rEq (rEqD X.K false)) := op_eq.or (op_eqD hu)
theorem op_neU (hu : X.A.units + 64 < cLine) : OpR X (compareOp .NotEq) (rOr rNe (rEqD X.K true)) := op_ne.or (op_neD hu)
end
namespace Rd
section
variable {σ : St} {H : Hp} {Q : VK} {D : Ends} {K : PySem.W.Frag} {r' : R2}
theorem addI {i j : Int} (q : Q (.int (i + j)) H) : rOr rAddI r' (.int i) (.int j) H Q := .inl ⟨i, j, rfl, rfl, q⟩
theorem addS {r1 : R2} {i j : Str} (hl : i.length + j.length ≤ sizeLine) (q : Q (.str (i ++ j)) H) : rOr r1 (rOr rAddS r') (.str i) (.str j) H Q := .inr (.inl ⟨i, j, rfl, rfl, hl, q⟩)
theorem addL {r1 r2 : R2} {a b : Addr} {xs ys : List V} (ha : H a = some (.lst xs)) (hb : H b = some (.lst ys)) (hl : xs.length + ys.length ≤ sizeLine) (q : ∀ p, H p = none → Q (.ref p) (upd H p (.lst (xs ++ ys)))) :
    rOr r1 (rOr r2 (rOr rCat r')) (.ref a) (.ref b) H Q := .inr (.inr (.inl ⟨a, b, xs, ys, rfl, rfl, ha, hb, hl, q⟩))
theorem mulI {i j : Int} (c : IntMulOk i j) (q : Q (.int (i * j)) H) : rOr rMulI r' (.int i) (.int j) H Q := .inl ⟨i, j, rfl, rfl, c, q⟩
theorem eqUI {i j : Int} (q : Q (.bl (decide (i = j))) H) : rOr rEq r' (.int i) (.int j) H Q := .inl (eqI q)
theorem neUI {i j : Int} (q : Q (.bl (!decide (i = j))) H) : rOr rNe r' (.int i) (.int j) H Q := .inl (neI q)
theorem eqUB {i j : Bool} (q : Q (.bl (i == j)) H) : rOr rEq r' (.bl i) (.bl j) H Q := .inl ⟨rfl, by rw [dec_bl]; exact q⟩
theorem eqUD {x y : V} {dx dy : PyData} (hx : DRel K H x dx) (hy : DRel K H y dy) (cx : dx.canLay0 = true) (cy : dy.canLay0 = true) (dp : dx.depth ≤ 60) (q : Q (.bl (PyData.eqv dx dy)) H) : rOr rEq (rEqD K false) x y H Q :=
  .inr ⟨dx, dy, hx, hy, cx, cy, dp, q⟩
theorem neUD {x y : V} {dx dy : PyData} (hx : DRel K H x dx) (hy : DRel K H y dy) (cx : dx.canLay0 = true) (cy : dy.canLay0 = true) (dp : dx.depth ≤ 60) (q : Q (.bl (!PyData.eqv dx dy)) H) : rOr rNe (rEqD K true) x y H Q :=
  .inr ⟨dx, dy, hx, hy, cx, cy, dp, q⟩
theorem ixuL {p : Addr} {xs : List V} {i : Int} {v : V} (h : SqL K H p xs) (e : atI xs i = some v) (q : Q v H) : rIx K (.ref p) (.int i) H Q := .inl (ixl h e q)
theorem ixuT {p : Addr} {xs : List V} {i : Int} {v : V} (h : SqT K H p xs) (e : atI xs i = some v) (q : Q v H) : rIx K (.ref p) (.int i) H Q := .inr (.inl (ixt h e q))
theorem lenL {C : Nat → Prop} {p : Addr} {xs : List V} (h : SqL K H p xs) (q : C xs.length) : ∃ x n, [V.ref p] = [x] ∧ LenV K x H n ∧ C n := ⟨_, _, rfl, .inl ⟨xs, h, rfl⟩, q⟩
theorem lenT' {C : Nat → Prop} {p : Addr} {xs : List V} (h : SqT K H p xs) (q : C xs.length) : ∃ x n, [V.ref p] = [x] ∧ LenV K x H n ∧ C n := ⟨_, _, rfl, .inr ⟨xs, h, rfl⟩, q⟩
theorem lenS {C : Nat → Prop} {y : Str} (h : y.length ≤ sizeLine) (q : C y.length) : ∃ x n, [V.str y] = [x] ∧ LenV K x H n ∧ C n := ⟨_, _, rfl, ⟨h, rfl⟩, q⟩
theorem nameS {i : Nat} {v : V} {σ' : St} {Q : St → Hp → Prop} (e : σ.set i (some v) = σ') (h : Q σ' H) : gName i v σ H Q := by
  subst e
  exact h
theorem ifP {c A B : Prop} [Decidable c] (h : c) (a : A) : if decide c = true then A else B := by rw [decide_eq_true h]; exact iteT a
theorem ifN {c A B : Prop} [Decidable c] (h : ¬ c) (b : B) : if decide c = true then A else B := by rw [decide_eq_false h]; exact iteF b
theorem ifNP {c A B : Prop} [Decidable c] (h : c) (b : B) : if (!decide c) = true then A else B := by rw [decide_eq_true h]; exact iteF b
theorem ifNN {c A B : Prop} [Decidable c] (h : ¬ c) (a : A) : if (!decide c) = true then A else B := by rw [decide_eq_false h]; exact iteT a
theorem truB {b : Bool} {C : Bool → Prop} (q : C b) : ∃ k, TruV K (.bl b) H k ∧ C k := ⟨b, rfl, q⟩
end
end Rd
end L2
namespace L2
open PySem PySem.Spec PyProof.Rows
namespace Rd
section
variable {H : Hp} {C : Bool → Prop} {K : PySem.W.Frag}
theorem is_int_int {i : Int} (q : C true) : ∃ x n' t b, [V.int i, .ty "int"] = [x, .ty n'] ∧ TyOf K H x t ∧ PySem.W.kitOne K t (.type n') = some b ∧ C b := ⟨_, _, _, true, rfl, .int i, rfl, q⟩
theorem is_int_bool {i : Int} (q : C false) : ∃ x n' t b, [V.int i, .ty "bool"] = [x, .ty n'] ∧ TyOf K H x t ∧ PySem.W.kitOne K t (.type n') = some b ∧ C b := ⟨_, _, _, false, rfl, .int i, rfl, q⟩
theorem is_bl_bool {i : Bool} (q : C true) : ∃ x n' t b, [V.bl i, .ty "bool"] = [x, .ty n'] ∧ TyOf K H x t ∧ PySem.W.kitOne K t (.type n') = some b ∧ C b := ⟨_, _, _, true, rfl, .bl i, rfl, q⟩
theorem is_str_str {i : Str} (q : C true) : ∃ x n' t b, [V.str i, .ty "str"] = [x, .ty n'] ∧ TyOf K H x t ∧ PySem.W.kitOne K t (.type n') = some b ∧ C b := ⟨_, _, _, true, rfl, .str i, rfl, q⟩
theorem is_lst_list {p : Addr} {xs : List V} (h : H p = some (.lst xs)) (q : C true) : ∃ x n' t b, [V.ref p, .ty "list"] = [x, .ty n'] ∧ TyOf K H x t ∧ PySem.W.kitOne K t (.type n') = some b ∧ C b := ⟨_, _, _, true, rfl, .lst h, rfl, q⟩
theorem is_tup_tuple {p : Addr} {xs : List V} (h : H p = some (.tup xs)) (q : C true) : ∃ x n' t b, [V.ref p, .ty "tuple"] = [x, .ty n'] ∧ TyOf K H x t ∧ PySem.W.kitOne K t (.type n') = some b ∧ C b := ⟨_, _, _, true, rfl, .tup h, rfl, q⟩
end
end Rd
end L2
namespace L2
open PySem PySem.Spec PyProof.Rows
def chkComp (scX sc : Scope) (N zs : List Str) (ix : List Nat) : Bool :=
  decide (sc.kind = .function) && (sc.names.all fun y => decide (y.2 ≠ .cell)) && (sc.names.all fun y => decide (y.2 = .local → sc.names.lookup y.1 = some .local)) &&
  (sc.names.all fun y => decide (y.2 = .free → scX.names.lookup y.1 = some .cell ∨ scX.names.lookup y.1 = some .free)) && (zs.all fun z => decide (sc.names.lookup z = some .free)) && decide (ix.map (fun j => N[j]?) = zs.map some)
theorem cscope {X : Cx} {sc : Scope} {x : Str} {zs : List Str} {ix : List Nat} (scX : Scope) (N : List Str) (e1 : X.env.scope = scX) (e2 : X.N = N) (h : chkComp scX sc N zs ix = true) : CompScope X sc x zs ix := by
  unfold chkComp at h
  simp only [Bool.and_eq_true, List.all_eq_true, decide_eq_true_eq] at h
  obtain ⟨⟨⟨⟨⟨h1, h2⟩, h3⟩, h4⟩, h5⟩, h6⟩ := h
  subst e1 e2
  exact ⟨h1, h2, h3, h4, h5, h6⟩
end L2
namespace L2
open PySem PySem.Spec PyProof.Rows
section
variable {X : Cx} {CX : CXT} {k : Nat} {f C : Addr} {fd : FuncData} {ps : List Str} {sp : Sp} {dvs : List V} {ds : List Value} {E : XK} {J : St → Prop} {x m : Str} {p pos apos : Pos} {e o : Expr} {es : List Expr} {ta : TE} {t : TA}
end
end L2
namespace L2
open PySem PySem.Spec PyProof.Rows
section
variable {K : PySem.W.Frag} {H : Hp}
theorem DRel.ints {p : Addr} {ns : List Int} (h : SqL K H p (ns.map V.int)) : DRel K H (.ref p) (.list (ns.map PyData.int)) := .lst h (DRels.ints ns)
namespace Rd
variable {Q : VK}
end Rd
end
end L2
namespace L2
open PySem PySem.Spec PyProof.Rows
structure Walks (J : It) (n : Nat) (f : Nat → V) (H : Hp) : Prop where
  go : ∀ H' i, Same H H' → i < n → J.go i H'
  yld : ∀ H' i x H2, Same H H' → i < n → J.yld i H' x H2 → H2 = H' ∧ x = f i
  stop : ∀ H', Same H H' → J.stop n H'
theorem walks_rng {lo : Int} {n : Nat} {H : Hp} : Walks (Itr lo n) n (fun i => .int (lo + i)) H := ⟨fun _ _ _ h => h, fun _ _ _ _ _ _ h => h, fun _ _ => Nat.le_refl _⟩
theorem walks_lst {K : PySem.W.Frag} {a : Addr} {xs : List V} {H : Hp} (h : SqL K H a xs) : Walks (Itl K a) xs.length (fun i => xs.getD i .non) H :=
  ⟨fun H' i e hi => ⟨xs, xs[i], e.seq h, by simp [hi]⟩, fun H' i x H2 e hi y => ⟨y.1, by
    have := y.2 xs (e.seq h)
    simp [List.getD, this]⟩, fun H' e => ⟨xs, e.seq h, Nat.le_refl _⟩⟩
theorem for_walk {J : It} {n : Nat} {f : Nat → V} {H0 : Hp} (w : Walks J n f H0) {g : TG} {tb : TS} {D : Ends} {σ : St} {H : Hp} (Pv : Nat → St → Hp → Prop) (h0 : Pv 0 σ H) (hk : ∀ i σ H, Pv i σ H → Same H0 H)
    (hs : ∀ i σ H, i < n → Pv i σ H → g (f i) σ H fun σ2 H2 => tb { D with nx := Pv (i + 1), ct := Pv (i + 1), bk := D.nx } σ2 H2) (hd : ∀ σ H, Pv n σ H → D.nx σ H) :
    ∃ W : Nat → Nat → St → Hp → Prop, (∃ m, W 0 m σ H) ∧ ∀ i m σ H, W i m σ H →
      (J.stop i H ∧ D.nx σ H) ∨ (J.go i H ∧ ∃ N : St → Hp → Prop, (∀ σ' H', N σ' H' → ∃ m', m' < m ∧ W (i + 1) m' σ' H') ∧ ∀ x H', J.yld i H x H' → g x σ H' fun σ2 H2 => tb { D with nx := N, ct := N, bk := D.nx } σ2 H2) := by
  refine ⟨fun i m σ H => m = n - i ∧ i ≤ n ∧ Pv i σ H, ⟨n, by simp, Nat.zero_le _, h0⟩, ?_⟩
  rintro i m σ H ⟨rfl, hi, p⟩
  have sm := hk i σ H p
  by_cases hlt : i < n
  · refine .inr ⟨w.go H i sm hlt, Pv (i + 1), fun σ' H' p' => ⟨n - (i + 1), by omega, rfl, hlt, p'⟩, fun x H' y => ?_⟩
    obtain ⟨rfl, rfl⟩ := w.yld H i x H' sm hlt y
    exact hs i σ _ hlt p
  · have e : i = n := by omega
    subst e
    exact .inl ⟨w.stop H sm, hd σ H p⟩
theorem comp_walk {ix : List Nat} {tc : TT} {te : TE} {Q : Addr → Hp → Prop} {σ : St} {H : Hp} {J : It} {n : Nat} {f : Nat → V} (w : Walks J n f H) (hn : n < sizeLine) (c : Nat → Bool) (r : Nat → V)
    (hc : ∀ i H' (Kc : Bool → Hp → Prop), i < n → Same H H' → (∀ H4, Same H' H4 → Kc (c i) H4) → tc (some (f i) :: ix.map fun j => (σ[j]?).join) H' Kc)
    (he : ∀ i H' (Kc : VK), i < n → c i = true → Same H H' → (∀ H5, Same H' H5 → Kc (r i) H5) → te (some (f i) :: ix.map fun j => (σ[j]?).join) H' Kc)
    (q : ∀ p H', H p = none → Same H H' → H' p = some (.lst (((List.range n).filter c).map r)) → Q p H') :
    ∀ p, H p = none → ∃ W : Nat → Nat → List V → St → Hp → Prop, (∃ m, W 0 m [] (emb ix σ) (upd H p (.lst []))) ∧ ∀ i m ys σ' H', W i m ys σ' H' →
      (J.stop i H' ∧ Q p H') ∨ (J.go i H' ∧ ∀ x H2, J.yld i H' x H2 → gName 0 x σ' H2 fun σ2 H3 => tc σ2 H3 fun b H4 =>
        if b = true then te σ2 H4 fun v H5 => H5 p = some (.lst ys) ∧ ys.length < sizeLine ∧ ∃ m', m' < m ∧ W (i + 1) m' (ys ++ [v]) σ2 (upd H5 p (.lst (ys ++ [v])))
        else ∃ m', m' < m ∧ W (i + 1) m' ys σ2 H4) := by
  intro p hp
  refine ⟨fun i m ys σ' H' => m = n - i ∧ i ≤ n ∧ (∃ a, σ' = a :: ix.map fun j => (σ[j]?).join) ∧ Same H H' ∧ H' p = some (.lst ys) ∧ ys = ((List.range i).filter c).map r,
    ⟨n, by simp, Nat.zero_le _, ⟨none, rfl⟩, same_new hp, upd_same, rfl⟩, ?_⟩
  rintro i m ys σ' H' ⟨rfl, hi, ⟨a, rfl⟩, sm, hy, hl⟩
  by_cases hlt : i < n
  · refine .inr ⟨w.go H' i sm hlt, fun x H2 y => ?_⟩
    obtain ⟨rfl, rfl⟩ := w.yld H' i x H2 sm hlt y
    show tc ((a :: ix.map fun j => (σ[j]?).join).set 0 (some (f i))) H2 _
    have hlen : ys.length ≤ i := by
      rw [hl, List.length_map]
      exact Nat.le_trans (List.length_filter_le _ _) (by simp)
    refine hc i H2 _ hlt sm fun H4 s4 => ?_
    have sm4 := sm.trans s4
    have hy4 := s4 _ _ hy
    have step : (List.range (i + 1)).filter c = (List.range i).filter c ++ (if c i = true then [i] else []) := by
      rw [List.range_succ, List.filter_append]
      congr 1
      by_cases h : c i = true <;> simp [h]
    by_cases hci : c i = true
    · rw [hci, if_pos rfl]
      refine he i H4 _ hlt hci sm4 fun H5 s5 => ⟨s5 _ _ hy4, by omega, n - (i + 1), by omega, rfl, hlt, ⟨_, rfl⟩, (sm4.trans s5).new hp, upd_same, ?_⟩
      rw [step, if_pos hci, List.map_append, hl]
      rfl
    · have hcf : c i = false := by simpa using hci
      rw [hcf, if_neg Bool.false_ne_true]
      refine ⟨n - (i + 1), by omega, rfl, hlt, ⟨_, rfl⟩, sm4, hy4, ?_⟩
      rw [step, if_neg hci, List.append_nil, hl]
  · have e : i = n := by omega
    subst e
    exact .inl ⟨w.stop H' sm, q p H' hp sm (by rw [← hl]; exact hy)⟩
end L2
namespace L2
open PySem PySem.Spec PyProof.Rows
structure Frame (A : List Addr) (H H' : Hp) : Prop where
  keep : ∀ b o, H b = some o → b ∉ A → H' b = some o
  tups : ∀ b xs, H b = some (.tup xs) → H' b = some (.tup xs)
theorem Same.frame {A : List Addr} {H H' : Hp} (e : Same H H') : Frame A H H' := ⟨fun b o h _ => e b o h, fun b xs h => e b _ h⟩
theorem Frame.trans {A : List Addr} {H H1 H2 : Hp} (a : Frame A H H1) (b : Frame A H1 H2) : Frame A H H2 := ⟨fun c o h n => b.keep c o (a.keep c o h n) n, fun c xs h => b.tups c xs (a.tups c xs h)⟩
theorem Frame.mono {A B : List Addr} {H H' : Hp} (a : Frame A H H') (h : ∀ x ∈ A, x ∈ B) : Frame B H H' := ⟨fun c o e n => a.keep c o e fun z => n (h c z), a.tups⟩
theorem frame_upd {A : List Addr} {H : Hp} {p : Addr} {o o' : HO} (hp : p ∈ A) (h : H p = some o) (ht : ∀ xs, o ≠ .tup xs) : Frame A H (upd H p o') := by
  refine ⟨fun b u e n => ?_, fun b xs e => ?_⟩
  · have z : b ≠ p := fun z => n (by rw [z]; exact hp)
    rw [upd_ne z]
    exact e
  · have z : b ≠ p := fun z => ht xs (by rw [z, h] at e; exact Option.some.inj e)
    rw [upd_ne z]
    exact e
def Grows (A A' : List Addr) (H : Hp) : Prop := ∀ a ∈ A', a ∈ A ∨ H a = none
theorem Grows.refl {A : List Addr} {H : Hp} : Grows A A H := fun _ h => .inl h
def OffL (K : PySem.W.Frag) (H : Hp) (A : List Addr) (a : Addr) (xs : List V) : Prop :=
  (Rd H a (.lst xs) ∧ a ∉ A) ∨ ∃ (o : Obj) (its : Array Value) (n : Nat), K.lookup a = some o ∧ o.cls = .type "list" ∧ o.dict = none ∧ o.data = .seq its n ∧ its.size ≤ sizeLine ∧ Vals xs its.toList
theorem OffL.sq {K : PySem.W.Frag} {H : Hp} {A : List Addr} {a : Addr} {xs : List V} (h : OffL K H A a xs) : SqL K H a xs := h.imp And.left id
theorem OffL.frame {K : PySem.W.Frag} {H H' : Hp} {A : List Addr} {a : Addr} {xs : List V} (h : OffL K H A a xs) (f : Frame A H H') : OffL K H' A a xs := by
  rcases h with ⟨h | ⟨o, h⟩, n⟩ | h
  · exact .inl ⟨.inl (f.keep _ _ h n), n⟩
  · exact .inl ⟨.inr ⟨o, f.keep _ _ h n⟩, n⟩
  · exact .inr h
theorem OffL.more {K : PySem.W.Frag} {H : Hp} {A A' : List Addr} {a : Addr} {xs : List V} (h : OffL K H A a xs) (g : Grows A A' H) : OffL K H A' a xs := by
  rcases h with ⟨h, n⟩ | h
  · refine .inl ⟨h, fun z => ?_⟩
    rcases g a z with z | z
    · exact n z
    · rcases h with h | ⟨o, h⟩ <;> (rw [h] at z; cases z)
  · exact .inr h
theorem OffL.sub {K : PySem.W.Frag} {H : Hp} {A A' : List Addr} {a : Addr} {xs : List V} (h : OffL K H A a xs) (g : ∀ x ∈ A', x ∈ A) : OffL K H A' a xs := h.imp (fun ⟨h, n⟩ => ⟨h, fun z => n (g a z)⟩) id
theorem SqL.off {K : PySem.W.Frag} {H : Hp} {A : List Addr} {a : Addr} {xs : List V} (h : SqL K H a xs) (g : ∀ x ∈ A, H x = none) : OffL K H A a xs := by
  rcases h with h | h
  · refine .inl ⟨h, fun z => ?_⟩
    have := g a z
    rcases h with h | ⟨o, h⟩ <;> (rw [h] at this; cases this)
  · exact .inr h
section
variable {K : PySem.W.Frag} {H H' : Hp} {A A' : List Addr}
namespace Rd
variable {Q : VK}
end Rd
end
end L2
namespace L2
open PySem PySem.Spec PyProof.Rows
def Its (x : Str) : It := ⟨fun i _ => i < x.cps.size, fun i H v H' => H' = H ∧ ∃ c, x.cps[i]? = some c ∧ v = .str ⟨#[c]⟩, fun i _ => x.cps.size ≤ i⟩
theorem turn_str {P : Program} {w : World} {K : PySem.W.Frag} {tg : Expr} (it : Addr) (x : Str) (t : Tok) (ty : String) (hty : ty = "str_ascii_iterator" ∨ ty = "str_iterator") : Turn P w K tg (Its x) [it] it (fun i h => h.IsStrIter it ty x t i) where
  mem := by simp
  obj := fun i h st b hb => by
    have e : b = it := by simpa using hb
    subst e
    obtain ⟨o, e, c, d⟩ := st
    exact ⟨o, e, fun v z => by rw [d] at z; cases z⟩
  keep := fun i h h' st k => let ⟨o, ho, r⟩ := st; ⟨o, k it (by simp) o ho, r⟩
  item := by
    intro X hP hw hK hc i pins s σ H E I hf st hg
    subst hP hw hK
    obtain ⟨f0, f1, f2, f3, f4, f5⟩ := hf it (by simp)
    have hi : i < x.cps.size := hg
    have fin : ∀ h' : Heap, h'.IsStrIter it ty x t (i + 1) → Heap.SameBut it s.heap h' → ∃ u, some (Value.str ⟨#[x.cps[i]]⟩ s.toks) = some u ∧
        wpAny (model X.prog X.w) X.A (letOwnedTupleGo tg (.ref it) u) (fun _ s2 => ∃ y H', Inv X pins σ H' s2 ∧ RelV y u ∧ (Its x).yld i H y H' ∧ s2.heap.IsStrIter it ty x t (i + 1) ∧ ∀ b ∈ [it], H' b = none) E { s with heap := h', toks := s.toks + 1 } := fun h' st' sb => by
      have I1 : Inv X pins σ H { s with heap := h', toks := s.toks + 1 } := I.turned (t' := s.toks + 1) (fun b o hb e => (sb.2 b hb).trans e) f0 f1 f3 f4 f5
      obtain ⟨o, e, c, d⟩ := id st'
      refine ⟨_, rfl, go_of (s := { s with heap := h', toks := s.toks + 1 }) e c d (by rcases hty with rfl | rfl <;> decide) ⟨.str ⟨#[x.cps[i]]⟩, H, I1, ⟨_, rfl⟩, ⟨rfl, x.cps[i], by simp [hi], rfl⟩, st', fun b hb => (hf b hb).1⟩⟩
    rcases hty with rfl | rfl
    · exact wpAny_pyNext_ascii_item st (c := x.cps[i]) (by simp [hi]) fin
    · exact wpAny_pyNext_wide_item st (c := x.cps[i]) (by simp [hi]) fin
  done := by
    intro X hP hw hK hc i pins s σ H E I hf st hg
    subst hP hw hK
    obtain ⟨f0, f1, f2, f3, f4, f5⟩ := hf it (by simp)
    have hi : x.cps.size ≤ i := hg
    rcases hty with rfl | rfl
    · exact wpAny_pyNext_ascii_end (I.ok.hd hc) st (by simp [hi]) fun h' eb => ⟨rfl, I.turned (t' := s.toks) (fun b o hb e => eb b o hb e) f0 f1 f3 f4 f5⟩
    · exact wpAny_pyNext_wide_end (I.ok.hd hc) st (by simp [hi]) fun h' eb => ⟨rfl, I.turned (t' := s.toks) (fun b o hb e => eb b o hb e) f0 f1 f3 f4 f5⟩
  self := fun _ _ _ _ _ st h => by
    rcases hty with rfl | rfl
    · exact wpAny_pyIter_striter_ascii st h
    · exact wpAny_pyIter_striter_wide st h
section
variable {X : Cx} {tg : Expr}
def iStr (tl : TE) : TI := fun σ H R => tl σ H fun x H1 => ∃ y, x = .str y ∧ R (Its y) H1
theorem pi_str {l : Expr} {tl : TE} (hl : PE X l tl) : PI X tg l (iStr tl) := by
  intro pins s σ H R I h
  refine thn (hl pins s σ H _ I h) fun v s1 ⟨x, H1, I1, r1, q1⟩ => ?_
  obtain ⟨y, e, q⟩ := q1
  subst e
  obtain ⟨t, rfl⟩ := r1
  have fin : ∀ ty : String, (ty = "str_ascii_iterator" ∨ ty = "str_iterator") → PIE X pins σ tg R (.ref s1.heap.objs.size) { s1 with heap := s1.heap.push { cls := .type ty, data := .fields #[.str y t, .int 0 0] } } := fun ty hty => by
    refine ⟨s1.heap.objs.size, [s1.heap.objs.size], _, _, H1, rfl, I1.kept (t' := s1.toks) fun b o e => Heap.get?_push_of_some _ e, turn_str _ y t ty hty, ⟨_, Heap.get?_push_size _ rfl, rfl, rfl⟩, fun b hb => ?_, q⟩
    have e : b = s1.heap.objs.size := by simpa using hb
    subst e
    exact I1.fpOk (Nat.le_refl _) (I1.hok.fresh (Nat.le_refl _))
  cases ha : y.cps.all (· < 128)
  · exact wpAny_pyIter_wide ha (fin _ (.inr rfl))
  · exact wpAny_pyIter_ascii ha (fin _ (.inl rfl))
theorem walks_str {x : Str} {H : Hp} : Walks (Its x) x.cps.size (fun i => .str ⟨#[x.cps.getD i 0]⟩) H :=
  ⟨fun _ _ _ h => h, fun H' i v H2 _ hi ⟨e, c, hc, hv⟩ => ⟨e, by rw [hv]; simp [Array.getD, hi] at hc ⊢; exact hc.symm⟩, fun _ _ => Nat.le_refl _⟩
def rLeS : R2 := fun x y H Q => ∃ i j, x = .str i ∧ y = .str j ∧ Q (.bl (!decide (j.cps.toList < i.cps.toList))) H
theorem op_le_str : OpR X (compareOp .LtE) rLeS := by
  intro pins s σ H x y v u Q I rx ry h
  obtain ⟨i, j, rfl, rfl, q⟩ := h
  obtain ⟨t, rfl⟩ := rx
  obtain ⟨t', rfl⟩ := ry
  exact PySem.P.le_str ⟨.bl _, H, I, rfl, q⟩
theorem vals_bools {s : Shared} : ∀ {bs : List Bool} {us : List Value}, Vals (bs.map V.bl) us → us = bs.map Value.bool
  | [], _, r => by cases r; rfl
  | b :: bs, _, r => by
    cases r with
    | cons r1 r2 =>
      have e : _ = Value.bool b := r1
      rw [e, vals_bools (s := s) r2]
      rfl
theorem kept_it {s : Shared} {h' : Heap} {o : Obj} (hk : ∀ b x, b ∉ [s.heap.objs.size] → (s.heap.push o).get? b = some x → h'.get? b = some x) : ∀ b x, s.heap.get? b = some x → h'.get? b = some x :=
  fun b x e => hk b x (fun hm => by rw [List.mem_singleton.mp hm] at e; exact Nat.lt_irrefl _ (Heap.lt_size e)) (Heap.get?_push_of_some _ e)
theorem range_all' (bs : List Bool) : ((List.range bs.length).all fun i => (bs[i]?).getD true) = bs.all id := by
  rw [Bool.eq_iff_iff, List.all_eq_true, List.all_eq_true]
  constructor
  · intro h b hb
    obtain ⟨i, hi, rfl⟩ := List.getElem_of_mem hb
    have := h i (List.mem_range.mpr hi)
    simpa [List.getElem?_eq_getElem hi] using this
  · intro h i hi
    have hi' := List.mem_range.mp hi
    simp only [List.getElem?_eq_getElem hi', Option.getD_some]
    exact h _ (List.getElem_mem hi')
theorem call_allB (hc : X.calm = true) : CallR X (.builtin "all") (fun xs H Q => ∃ (p : Addr) (bs : List Bool), xs = [.ref p] ∧ SqL X.K H p (bs.map V.bl) ∧ Q (.bl (bs.all id)) H) := by
  intro pins s σ H xs us Q I r h
  obtain ⟨p, bs, rfl, hq, q⟩ := h
  obtain ⟨u, rfl, rx⟩ := vals1 r
  cases rx
  obtain ⟨its, rv, pl, hz⟩ := I.list hq
  have ev := vals_bools (s := s) rv
  subst ev
  have hl := pl.isList
  have hlt : p < s.heap.objs.size := by obtain ⟨_, e, _⟩ := hl; exact Heap.lt_size e
  refine call_all_walk (wpAny_pyIter_list hl ?_)
  refine ⟨s.heap.objs.size, [s.heap.objs.size, p], [s.heap.objs.size], (bs.map Value.bool).toArray.size, _, _, fun i => (bs[i]?).getD true, rfl, PySem.Walks.list (A := X.A.in1) (I.ok.hd hc) _ p (Nat.ne_of_lt hlt) (bs.map Value.bool).toArray,
    ⟨⟨_, Heap.get?_push_size _ rfl, rfl, rfl⟩, hl.push _⟩, fun i v s' Q' E' hP hQ => ?_, fun h' tk hk => ?_⟩
  · have hP' : (bs.map Value.bool)[i]? = some v := by simpa using hP
    rw [List.getElem?_map] at hP'
    cases e : bs[i]? with
    | none => rw [e] at hP'; cases hP'
    | some b =>
      rw [e] at hP'
      cases hP'
      have hQ' : Q' ((bs[i]?).getD true) s' := hQ
      rw [e] at hQ'
      exact wpAny_truthy_bool hQ'
  · have e : ((List.range (bs.map Value.bool).toArray.size).all fun i => (bs[i]?).getD true) = bs.all id := by
      rw [List.size_toArray, List.length_map]; exact range_all' bs
    rw [e]
    exact ⟨.bl (bs.all id), H, I.kept (kept_it hk), rfl, q⟩
end
end L2
namespace L2
open PySem PySem.Spec PyProof.Rows
structure FunD (K : PySem.W.Frag) (x qual : Str) (st : Stmt) (dT : Addr) (f : Addr) (fd : FuncData) : Prop where
  ex : ∃ (oc : Value) (od : Option Addr) (kV doc pm : Value) (an : Option Addr) (cdv ct : Value) (osl : Array (Option Value)),
    fd = PySem.W.fnOf x qual (defArgs st) (defBody st) (defScope st) (.ref dT) kV doc pm an cdv ct ∧ K.lookup f = some ⟨oc, od, .func fd, osl⟩ ∧ PySem.W.codeIn K cdv qual = true
  kp : PySem.W.keepIn K (.ref f) = true
section
variable {P : Program} {w : World} {K : PySem.W.Frag} {mg : Str → Option Value} {base : Heap}
theorem FunD.okX {x qual : Str} {st : Stmt} {dT f : Addr} {fd : FuncData} {N ps : List Str} {k : Nat} {sp : Sp} (F : FunD K x qual st dT f fd) (S : FnScope N ps (defScope st)) (len : ∀ vs H Q E, sp vs H Q E → vs.length = ps.length)
    (hbody : ∀ (cdv : Value) (A : Around) (outer : List Env) (s : Shared) (H : Hp) (vs : List V) (Q : VK) (E : XK), Room k (A.deeper (envOfC qual (defScope st) s.heap.objs.size f cdv)) → sp vs H Q E →
      ∃ t, PSs (cxX P w K mg base N qual (defScope st) f cdv A outer s H E) (defBody st) t ∧ t { nx := fun _ H' => Q .non H', rt := Q } (start N vs) H) : FnOk P w K mg base (CXX P w) (k + 1) f fd ps sp := by
  obtain ⟨oc, od, kV, doc, pm, an, cdv, ct, osl, rfl, lk, hcd⟩ := F.ex
  exact fn_of lk hcd S len fun A outer s H vs Q E hr hsp => hbody cdv A outer s H vs Q E hr hsp
theorem funD_mk {x qual : Str} {st : Stmt} {dT f : Addr} {oc : Value} {od an : Option Addr} {osl : Array (Option Value)} {kV doc pm cdv ct : Value} (l : K.lookup f = some ⟨oc, od, .func (PySem.W.fnOf x qual (defArgs st) (defBody st) (defScope st) (.ref dT) kV doc pm an cdv ct), osl⟩)
    (c : PySem.W.codeIn K cdv qual = true) (k : PySem.W.keepIn K (.ref f) = true) : FunD K x qual st dT f (PySem.W.fnOf x qual (defArgs st) (defBody st) (defScope st) (.ref dT) kV doc pm an cdv ct) := ⟨⟨oc, od, kV, doc, pm, an, cdv, ct, osl, rfl, l, c⟩, k⟩
theorem own_of {h₀ : Heap} {x : Str} {C : Addr} {bmB : List Value} {newId : String} (X : K.In h₀) (g : h₀.Ns mainGlobals mg) (e : PySem.W.nsIn K mainGlobals x = some (some (.ref C))) (q : PySem.W.excIn K C bmB newId = true) : OwnCls x C bmB newId mg h₀ := by
  refine ⟨PySem.W.mg_of X g e, ?_⟩
  unfold PySem.W.excIn at q
  split at q
  · rename_i dd cd sl ho
    split at q
    · rename_i C' bm k0 k1 k2 k3 n k5 hm hs
      simp only [Bool.and_eq_true, beq_iff_eq, Bool.not_eq_true'] at q
      obtain ⟨⟨⟨⟨⟨rfl, rfl⟩, hdel⟩, ht⟩, hok⟩, hni⟩ := q
      obtain ⟨nm, bs, mro, ns, qn, hd, sn, sub, ab, col, del⟩ := cd
      dsimp only at hm hdel hok hni
      subst hm hdel
      have hsl : sl = #[k0, k1, k2, k3, some (.builtin n), k5] := by
        obtain ⟨l⟩ := sl
        simp only at hs
        rw [hs]
      subst hsl
      exact ⟨bm, ns, nm, qn, bs, hd, sn, sub, ab, col, dd, k0, k1, k2, k3, k5, _, X _ _ ho, .of_isNs (PySem.W.isNs_of_in X hok), PySem.W.nsMap_none_of_in X hok hni, PySem.W.tail_of_in X ht⟩
    · cases q
  · cases q
section
variable {N : List Str} {qual : Str} {scope : Scope} {f : Addr} {cd : Value} {A : Around} {outer : List Env} {s₀ : Shared} {H₀ : Hp} {E : XK}
theorem ps_raiseK {x : Str} {np cpos pos : Pos} {e₀ : Expr} {rest : List Expr} {t : TA} {C : Addr} {B newId initId : String} {bm : List Value} (e : PySem.W.nsIn K mainGlobals x = some (some (.ref C))) (q : PySem.W.excIn K C bm newId = true) (FB : ExcBaseFacts B newId initId bm)
    (hg : Gl (cxX P w K mg base N qual scope f cd A outer s₀ H₀ E) x) (ha : PA (cxX P w K mg base N qual scope f cd A outer s₀ H₀ E) (e₀ :: rest) t)
    (he : starEach (e₀ :: rest) (cxX P w K mg base N qual scope f cd A outer s₀ H₀ E).env = (false, eval e₀ (cxX P w K mg base N qual scope f cd A outer s₀ H₀ E).env) :: starEach rest (cxX P w K mg base N qual scope f cd A outer s₀ H₀ E).env := by rfl)
    (hplain : (backTo cpos (starEach rest (cxX P w K mg base N qual scope f cd A outer s₀ H₀ E).env)).any (·.1) = false := by rfl) (hdb : (x == ("__debug__" : Str)) = false := by decide) :
    PS (cxX P w K mg base N qual scope f cd A outer s₀ H₀ E) (.Raise (some (.Call (.Name x np) (e₀ :: rest) [] cpos)) none pos) (tRaise (.ref C) E t) := by
  intro pins s σ H D I h
  exact ps_raise (own_of I.ok.mod.kin I.ok.mod.glob e q) FB hg ha he hplain hdb pins s σ H D I h
end
end
section
variable {X : Cx}
def rSlS : V → Option Int → Option Int → Hp → VK → Prop := fun x lo hi H Q => ∃ z, x = .str z ∧ z.length ≤ sizeLine ∧ Q (.str (Txt.slice z lo hi)) H
theorem sl_str : SlR X rSlS := by
  intro pins s σ H x v vl vu lo hi sl Q I rx hs pl pu h
  obtain ⟨z, rfl, hz, q⟩ := h
  obtain ⟨t, rfl⟩ := rx
  refine ⟨"str", _, F.slot_str_getitem.lookup, typeIs_str _ _ _, ?_⟩
  have fin : ∀ l u : Option (Int × Tok), l.map (·.1) = lo → u.map (·.1) = hi → partValue l = vl → partValue u = vu → wpAny (model X.prog X.w) X.A (getItem (.str z t) (.ref sl)) (EP X pins σ Q) X.xe s := fun l u e1 e2 e3 e4 => by
    obtain ⟨o, ho, hc, hd⟩ := hs
    subst e1 e2 e3 e4
    exact wpAny_getItem_str_slice (l := l) (u := u) (st := none) ⟨o, ho, hc, hd⟩ rfl (post_val_or_str ⟨Nat.le_trans (Txt.slice_le z _ _) hz, fun t' k => ⟨.str _, H, I.tok k, ⟨_, rfl⟩, q⟩⟩)
  cases pl with
  | none =>
    cases pu with
    | none => exact fin none none rfl rfl rfl rfl
    | int j t' => exact fin none (some (j, t')) rfl rfl rfl rfl
  | int i ti =>
    cases pu with
    | none => exact fin (some (i, ti)) none rfl rfl rfl rfl
    | int j t' => exact fin (some (i, ti)) (some (j, t')) rfl rfl rfl rfl
def rSlU (K : PySem.W.Frag) : V → Option Int → Option Int → Hp → VK → Prop := fun x lo hi H Q => rSlL K x lo hi H Q ∨ (rSlT K x lo hi H Q ∨ rSlS x lo hi H Q)
theorem sl_U : SlR X (rSlU X.K) := sl_list.or (sl_tup.or sl_str)
end
structure NoAttrs (K : PySem.W.Frag) (C : Addr) (fs : List Str) : Prop where
  out : ∀ f ∈ fs, NoAttr K C f
theorem NoAttrs.get {K : PySem.W.Frag} {C : Addr} {fs : List Str} {f : Str} (h : NoAttrs K C fs) (m : fs.contains f = true) : NoAttr K C f := h.out f (by simpa using m)
namespace Rd
section
variable {σ : St} {H : Hp} {Q : VK} {D : Ends} {K : PySem.W.Frag}
theorem slS {z : Str} {lo hi : Option Int} (h : z.length ≤ sizeLine) (q : Q (.str (Txt.slice z lo hi)) H) : rSlU K (.str z) lo hi H Q := .inr (.inr ⟨z, rfl, h, q⟩)
theorem slL {a : Addr} {xs : List V} {lo hi : Option Int} (h : SqL K H a xs) (q : ∀ p, H p = none → Q (.ref p) (upd H p (.lst (cutV xs lo hi)))) : rSlU K (.ref a) lo hi H Q := .inl ⟨a, xs, rfl, h, q⟩
theorem sl {r : V → Option Int → Option Int → Hp → VK → Prop} {te : TE} {tl th : TO} (h : te σ H fun x H1 => tl σ H1 fun l H2 => th σ H2 fun u H3 => r x l u H3 Q) : tSl r te tl th σ H Q := h
theorem noPart {Q : Option Int → Hp → Prop} (h : Q none H) : tNoPart σ H Q := h
theorem part {te : TE} {Q : Option Int → Hp → Prop} (h : te σ H fun x H1 => ∃ i, x = .int i ∧ Q (some i) H1) : tPart te σ H Q := h
theorem partI {i : Int} {C : Int → Prop} (h : C i) : ∃ j, V.int i = .int j ∧ C j := ⟨i, rfl, h⟩
theorem fldE {ta : TE} {f : Str} (h : ta σ H fun x H1 => ∃ a C dx fs v, x = .ref a ∧ H1 a = some (.ins C dx fs) ∧ Cls K C ∧ NoAttr K C f ∧ fs.lookup f = some v ∧ Q v H1) : tFld K ta f σ H Q := h
theorem fld {a C dx : Addr} {fs : List (Str × V)} {f : Str} {v : V} {G : V → Prop} (h : H a = some (.ins C dx fs)) (c : Cls K C) (n : NoAttr K C f) (l : fs.lookup f = some v) (q : G v) :
    ∃ a' C dx fs v, V.ref a = .ref a' ∧ H a' = some (.ins C dx fs) ∧ Cls K C ∧ NoAttr K C f ∧ fs.lookup f = some v ∧ G v := ⟨a, C, dx, fs, v, rfl, h, c, n, l, q⟩
theorem methE {C : Addr} {m : Str} {sp : Sp} {dvs : List V} {E : XK} {ta : TE} {t : TA} (h : ta σ H fun x H1 => ∃ a dx fs, x = .ref a ∧ H1 a = some (.ins C dx fs) ∧ fs.lookup m = none ∧ t σ H1 fun vs H2 => sp (x :: (vs ++ dvs)) H2 Q E) : tMeth C m sp dvs E ta t σ H Q := h
theorem makeE {C : Addr} {sp : Sp} {dvs : List V} {E : XK} {t : TA} (h : t σ H fun vs H1 => ∀ x dx, H1 x = none → H1 dx = none → dx ≠ x →
    sp (.ref x :: (vs ++ dvs)) (upd (upd H1 dx (.own x)) x (.ins C dx [])) (fun v H2 => v = .non ∧ Q (.ref x) H2) E) : tMake C sp dvs E t σ H Q := h
theorem sfld {ta tv : TE} {f : Str} (h : tv σ H fun y H1 => ta σ H1 fun x H2 => ∃ a C dx fs, x = .ref a ∧ H2 a = some (.ins C dx fs) ∧ Cls K C ∧ NoAttr K C f ∧ fs.length < 1000 ∧ D.nx σ (upd H2 a (.ins C dx (putF f y fs)))) : sFld K ta tv f D σ H := h
theorem sfld3 {a C dx : Addr} {fs fs' : List (Str × V)} {f : Str} {y : V} (h : H a = some (.ins C dx fs)) (c : Cls K C) (n : NoAttr K C f) (l : fs.length < 1000) (e : putF f y fs = fs') (q : D.nx σ (upd H a (.ins C dx fs'))) :
    ∃ a' C dx fs, V.ref a = .ref a' ∧ H a' = some (.ins C dx fs) ∧ Cls K C ∧ NoAttr K C f ∧ fs.length < 1000 ∧ D.nx σ (upd H a' (.ins C dx (putF f y fs))) := ⟨a, C, dx, fs, rfl, h, c, n, l, by rw [e]; exact q⟩
theorem raise {cls : Value} {E : XK} {t : TA} (h : t σ H fun vs H1 => vs.length ≤ sizeLine ∧ E cls none H1) : tRaise cls E t D σ H := h
theorem raise2 {v : V} {G : Prop} (q : G) : [v].length ≤ sizeLine ∧ G := ⟨by show 1 ≤ sizeLine; decide, q⟩
theorem ilist {te : TE} {R : It → Hp → Prop} (h : te σ H fun x H1 => ∃ a, x = .ref a ∧ (∃ xs, SqL K H1 a xs) ∧ R (Itl K a) H1) : iList K te σ H R := h
theorem istr {te : TE} {R : It → Hp → Prop} (h : te σ H fun x H1 => ∃ y, x = .str y ∧ R (Its y) H1) : iStr te σ H R := h
theorem istr2 {y : Str} {G : Str → Prop} (h : G y) : ∃ z, V.str y = .str z ∧ G z := ⟨y, rfl, h⟩
theorem compE {ix : List Nat} {wi : TI} {g : TG} {tc : TT} {te : TE} (h : wi σ H fun J H1 => ∀ p, H1 p = none →
  ∃ W : Nat → Nat → List V → St → Hp → Prop, (∃ m, W 0 m [] (emb ix σ) (upd H1 p (.lst []))) ∧ ∀ i m ys σ' H', W i m ys σ' H' →
    (J.stop i H' ∧ Q (.ref p) H') ∨ (J.go i H' ∧ ∀ x H2, J.yld i H' x H2 → g x σ' H2 fun σ2 H3 => tc σ2 H3 fun b H4 =>
      if b = true then te σ2 H4 fun v H5 => H5 p = some (.lst ys) ∧ ys.length < sizeLine ∧ ∃ m', m' < m ∧ W (i + 1) m' (ys ++ [v]) σ2 (upd H5 p (.lst (ys ++ [v])))
      else ∃ m', m' < m ∧ W (i + 1) m' ys σ2 H4)) : tComp ix wi g tc te σ H Q := h
theorem all_ {Q : Bool → Hp → Prop} (h : Q true H) : tAll σ H Q := h
theorem lk0 {f : Str} {v : V} {r : List (Str × V)} : ((f, v) :: r).lookup f = some v := by simp
theorem lk1 {f g : Str} {v : V} {o : Option V} {r : List (Str × V)} (n : (f == g) = false) (h : r.lookup f = o) : ((g, v) :: r).lookup f = o := by rw [List.lookup_cons, n]; exact h
theorem lkN {f : Str} : ([] : List (Str × V)).lookup f = none := rfl
theorem pf1 {f g : Str} {v x : V} {r r' : List (Str × V)} (n : (g == f) = false) (h : putF f v r = r') : putF f v ((g, x) :: r) = (g, x) :: r' := by
  have : ¬ g = f := by simpa using n
  simp [putF, this, h]
theorem pfN {f : Str} {v : V} : putF f v [] = [(f, v)] := rfl
end
end Rd
end L2
namespace L2
open PySem PySem.Spec PyProof.Rows
theorem inV_int (x : Int) (ys : List Int) : inV (.int x) (ys.map V.int) = decide (x ∈ ys) := by
  induction ys with
  | nil => rfl
  | cons y ys ih =>
    have e : inV (.int x) ((y :: ys).map V.int) = (eqV (.int y) (.int x) || inV (.int x) (ys.map V.int)) := rfl
    rw [e, ih]
    show ((y == x) || decide (x ∈ ys)) = decide (x ∈ y :: ys)
    by_cases h : x = y
    · subst h; simp
    · have : (y == x) = false := by simpa using fun z => h z.symm
      rw [this]
      simp [h]
theorem flat_ints (ys : List Int) : (ys.map V.int).all flatV = true := by
  rw [List.all_map, List.all_eq_true]
  intro _ _
  rfl
namespace Rd
section
variable {H : Hp} {Q : VK} {K : PySem.W.Frag}
theorem inI {p : Addr} {x : Int} {ys : List Int} (h : SqL K H p (ys.map V.int)) (q : Q (.bl (decide (x ∈ ys))) H) : rIn K false (.int x) (.ref p) H Q := ⟨p, _, rfl, .inl h, rfl, flat_ints ys, by rw [inV_int]; exact q⟩
theorem ninI {p : Addr} {x : Int} {ys : List Int} (h : SqL K H p (ys.map V.int)) (q : Q (.bl (!decide (x ∈ ys))) H) : rIn K true (.int x) (.ref p) H Q := ⟨p, _, rfl, .inl h, rfl, flat_ints ys, by rw [inV_int]; exact q⟩
theorem ifD {c A B : Prop} [Decidable c] (a : c → A) (b : ¬ c → B) : if decide c = true then A else B := by
  by_cases h : c
  · exact ifP h (a h)
  · exact ifN h (b h)
theorem allB {p : Addr} {bs : List Bool} {G : List Bool → Prop} (h : SqL K H p (bs.map V.bl)) (q : G bs) : ∃ (p' : Addr) (bs' : List Bool), [V.ref p] = [.ref p'] ∧ SqL K H p' (bs'.map V.bl) ∧ G bs' := ⟨p, bs, rfl, h, q⟩
theorem leS {x y : Str} (q : Q (.bl (!decide (y.cps.toList < x.cps.toList))) H) : rLeS (.str x) (.str y) H Q := ⟨x, y, rfl, rfl, q⟩
theorem chain {σ : St} {r r' : R2} {ta tb tc : TE} (h : ta σ H fun x H1 => tb σ H1 fun y H2 => r x y H2 fun z H3 => ∃ k, z = .bl k ∧ (if k = true then tc σ H3 fun w' H4 => r' y w' H4 Q else Q (.bl false) H3)) : tChain r r' ta tb tc σ H Q := h
end
end Rd
end L2
namespace L2
open PySem PySem.Spec PyProof.Rows
theorem OffL.step {K : PySem.W.Frag} {H H' : Hp} {A A' : List Addr} {a : Addr} {xs : List V} (h : OffL K H A a xs) (f : Frame A H H') (g : Grows A A' H) : OffL K H' A' a xs := by
  have h1 := h.more (A' := A ++ A') fun a z => (List.mem_append.mp z).elim .inl (g a)
  exact (h1.frame (f.mono fun a z => List.mem_append_left _ z)).sub fun a z => List.mem_append_right _ z
theorem Grows.off {A A' : List Addr} {H : Hp} {q : Addr} (g : Grows A A' H) (n : q ∉ A) (h : H q ≠ none) : q ∉ A' := fun z => (g q z).elim n h
namespace Rd
section
variable {H : Hp} {Q : VK} {K : PySem.W.Frag}
theorem ixuS {z : Str} {i : Int} {c : Nat} (h : z.length ≤ sizeLine) (e : atI z.cps.toList i = some c) (q : Q (.str ⟨#[c]⟩) H) : rIx K (.str z) (.int i) H Q := .inr (.inr ⟨z, i, c, rfl, rfl, h, e, q⟩)
theorem ilist2 {a : Addr} {xs : List V} {G : Addr → Prop} (h : SqL K H a xs) (q : G a) : ∃ a', V.ref a = .ref a' ∧ (∃ xs, SqL K H a' xs) ∧ G a' := ⟨a, rfl, ⟨xs, h⟩, q⟩
theorem rng1' {j : Int} {G : Int → Prop} (h1 : -(2 ^ 62) ≤ j) (h2 : j < 2 ^ 62) (q : G j) : ∃ k, [V.int j] = [.int k] ∧ -(2 ^ 62) ≤ k ∧ k < 2 ^ 62 ∧ G k := ⟨j, rfl, h1, h2, q⟩
theorem rng2' {i j : Int} {G : Int → Int → Prop} (h1 : -(2 ^ 62) ≤ i ∧ i < 2 ^ 62 ∧ -(2 ^ 62) ≤ j ∧ j < 2 ^ 62) (q : G i j) : ∃ i' j', [V.int i, .int j] = [.int i', .int j'] ∧ (-(2 ^ 62) ≤ i' ∧ i' < 2 ^ 62 ∧ -(2 ^ 62) ≤ j' ∧ j' < 2 ^ 62) ∧ G i' j' := ⟨i, j, rfl, h1, q⟩
theorem min2 {i j : Int} {G : Int → Int → Prop} (q : G i j) : ∃ i' j', [V.int i, .int j] = [.int i', .int j'] ∧ G i' j' := ⟨i, j, rfl, q⟩
end
end Rd
end L2
namespace L2
open PySem PySem.Spec PyProof.Rows
def hid (H : Hp) (r : Addr) : Hp := fun b => if b = r then none else H b
theorem hid_self {H : Hp} {r : Addr} : hid H r r = none := by unfold hid; rw [if_pos rfl]
theorem hid_ne {H : Hp} {r b : Addr} (h : b ≠ r) : hid H r b = H b := by unfold hid; rw [if_neg h]
theorem hid_same {H : Hp} {r : Addr} : Same (hid H r) H := fun b o e => by
  by_cases h : b = r
  · rw [h, hid_self] at e; cases e
  · rw [hid_ne h] at e; exact e
end L2
namespace L2
open PySem PySem.Spec PyProof.Rows
theorem lay_ints : ∀ ns : List Int, PyData.canLayAll0 (ns.map PyData.int) = true
  | [] => by simp [PyData.canLayAll0]
  | n :: ns => by
    have := lay_ints ns
    simp [PyData.canLayAll0, PyData.canLay0] at this ⊢
    exact this
theorem layL_ints (ns : List Int) : (PyData.list (ns.map PyData.int)).canLay0 = true := by
  have := lay_ints ns
  simp [PyData.canLay0]
  simpa using this
theorem depth_ints : ∀ ns : List Int, PyData.depthAll (ns.map PyData.int) ≤ 1
  | [] => by simp [PyData.depthAll]
  | n :: ns => by
    have := depth_ints ns
    simp [PyData.depthAll, PyData.depth] at this ⊢
    exact this
theorem depthL_ints (ns : List Int) : (PyData.list (ns.map PyData.int)).depth ≤ 60 := by
  have := depth_ints ns
  simp only [PyData.depth]
  omega
end L2
namespace L2
open PySem PySem.Spec PyProof.Rows
namespace Rd
section
variable {H : Hp} {Q : VK} {K : PySem.W.Frag}
end
end Rd
end L2
namespace L2
open PySem PySem.Spec PyProof.Rows
namespace Rd
section
variable {σ : St} {H : Hp} {Q : VK} {K : PySem.W.Frag} {J : St → Prop} {E : XK} {sp : Sp} {dvs : List V} {t : TA} {ta : TE}
end
end Rd
end L2
namespace L2
open PySem PySem.Spec PyProof.Rows
namespace Rd
section
variable {σ : St} {H : Hp}
theorem gsub {to ti : TE} {t : TSet} {v : V} {Q : St → Hp → Prop} (h : to σ H fun o H1 => ti σ H1 fun i H2 => t o i v H2 fun H3 => Q σ H3) : gSub to ti t v σ H Q := h
theorem setL {p : Addr} {xs : List V} {k : Int} {v : V} {Q : Hp → Prop} (hp : H p = some (.lst xs)) (h0 : 0 ≤ k) (h1 : k < xs.length) (q : Q (upd H p (.lst (xs.set k.toNat v)))) : rSetL (.ref p) (.int k) v H Q :=
  ⟨p, xs, k, k.toNat, rfl, rfl, hp, by unfold ixN; rw [if_pos h0, if_pos h1], q⟩
end
end Rd
section
variable {X hs : List Int} {i : Nat} {v u : Int}
end
end L2
namespace L2
open PySem PySem.Spec PyProof.Rows
def only (q : Addr) (o : HO) : Hp := fun a => if a = q then some o else none
theorem only_self {q : Addr} {o : HO} : only q o q = some o := by unfold only; rw [if_pos rfl]
theorem only_same {q : Addr} {o : HO} {H : Hp} (h : H q = some o) : Same (only q o) H := fun b x e => by
  unfold only at e
  by_cases c : b = q
  · rw [if_pos c] at e; rw [c]; cases e; exact h
  · rw [if_neg c] at e; cases e
end L2
namespace L2
open PySem PySem.Spec PyProof.Rows
section
variable {X : Cx} {K : PySem.W.Frag}
theorem op_addK (e : X.K = K) : OpR X (binaryOp .Add) (rOr rAddI (rOr rAddS (rOr rCat (rCatT K)))) := e ▸ op_addU
theorem op_eqK (e : X.K = K) (hu : X.A.units + 64 < cLine) : OpR X (compareOp .Eq) (rOr rEq (rEqD K false)) := e ▸ op_eqU hu
theorem op_neK (e : X.K = K) (hu : X.A.units + 64 < cLine) : OpR X (compareOp .NotEq) (rOr rNe (rEqD K true)) := e ▸ op_neU hu
theorem ix_K (e : X.K = K) : IxR X (rIx K) := e ▸ ix_seq
theorem sl_K (e : X.K = K) : SlR X (rSlU K) := e ▸ sl_U
def rLen (K : PySem.W.Frag) : List V → Hp → VK → Prop := fun xs H Q => ∃ x n, xs = [x] ∧ LenV K x H n ∧ Q (.int n) H
theorem len_K (e : X.K = K) : CallR X (.builtin "len") (rLen K) := e ▸ call_len
theorem in_K (e : X.K = K) : OpR X (compareOp .In) (rIn K false) := e ▸ op_in_seq
theorem notIn_K (e : X.K = K) : OpR X (compareOp .NotIn) (rIn K true) := e ▸ op_notIn_seq
theorem pe_fldK {e : Expr} {ta : TE} {f : Str} {pos : Pos} (ek : X.K = K) (he : PE X e ta) (hb : attributeBase e f X.env (eval e X.env) = eval e X.env) : PE X (.Attribute e f pos) (tFld K ta f) := ek ▸ pe_fld he hb
theorem ps_fldK {o value : Expr} {ta tv : TE} {f : Str} {pos pos' : Pos} (ek : X.K = K) (ha : PE X o ta) (hv : PE X value tv) (hs : swapsWith value (some (.Attribute o f pos')) pos.line X.env = pure false) :
    PS X (.Assign [.Attribute o f pos'] value pos) (sFld K ta tv f) := ek ▸ ps_fld ha hv hs
theorem pi_listK {tg l : Expr} {tl : TE} (ek : X.K = K) (hl : PE X l tl) : PI X tg l (iList K tl) := ek ▸ pi_list hl
def tTru (K : PySem.W.Frag) (ta : TE) : TT := fun σ H Q => ta σ H fun x H' => ∃ k, TruV K x H' k ∧ Q k H'
theorem pt_truK {a : Expr} {ta : TE} (ek : X.K = K) (ha : PE X a ta) (he : ∀ whole, isTrue a X.env whole = (do let v ← whole; standAt a.pos; holding [v] (truthy v))) : PT X a (tTru K ta) := ek ▸ pt_truth ha he
def rIsi (K : PySem.W.Frag) : List V → Hp → VK → Prop := fun xs H Q => ∃ x n t b, xs = [x, .ty n] ∧ TyOf K H x t ∧ PySem.W.kitOne K t (.type n) = some b ∧ Q (.bl b) H
theorem isi_K (e : X.K = K) : CallR X (.builtin "isinstance") (rIsi K) := e ▸ call_isinst
def rListOf (K : PySem.W.Frag) : List V → Hp → VK → Prop := fun xs H Q => ∃ p ys, xs = [.ref p] ∧ (SqL K H p ys ∨ SqT K H p ys) ∧ ∀ l, H l = none → Q (.ref l) (upd H l (.lst ys))
theorem listOf_K (e : X.K = K) : CallR X (.type "list") (rListOf K) := e ▸ call_list_of
def rAllB (K : PySem.W.Frag) : List V → Hp → VK → Prop := fun xs H Q => ∃ (p : Addr) (bs : List Bool), xs = [.ref p] ∧ SqL K H p (bs.map V.bl) ∧ Q (.bl (bs.all id)) H
theorem all_K (e : X.K = K) (hc : X.calm = true) : CallR X (.builtin "all") (rAllB K) := e ▸ call_allB hc
theorem pe_bm0K {o : Expr} {to : TE} {name : Str} {apos cpos : Pos} {T id : String} {r : V → List V → Hp → VK → Prop} (ek : X.K = K) (pa : PlainAttrs T) (slot : Slot T name id) (hty : typeOf (.builtin id) = pure (.type "method_descriptor")) (hm : MtR X id r) (ho : PE X o to)
    (hbase : attributeBase o name X.env (eval o X.env) = eval o X.env := by rfl) (hline : (apos.endLine == cpos.line) = true := by rfl) : PE X (.Call (.Attribute o name apos) [] [] cpos) (tBM0 K T r to) := ek ▸ pe_bm0 pa slot hty hm ho hbase hline
theorem pe_bmK {o e : Expr} {es : List Expr} {to : TE} {t : TA} {name : Str} {apos cpos : Pos} {T id : String} {r : V → List V → Hp → VK → Prop} (ek : X.K = K) (pa : PlainAttrs T) (slot : Slot T name id) (hty : typeOf (.builtin id) = pure (.type "method_descriptor")) (hm : MtR X id r) (ho : PE X o to) (ha : PA X (e :: es) t)
    (hbase : attributeBase o name X.env (eval o X.env) = eval o X.env := by rfl)
    (hfew : ((backTo cpos (starEach (e :: es) X.env)).all (fun x => !x.1) && (backToKw cpos (keywordEach [] X.env)).all (fun x => x.1.isSome)
      && decide ((e :: es).length + ([] : List Keyword).length + (if ([] : List Keyword).isEmpty then 0 else 1) < 30)) = true := by rfl)
    (hline : (apos.endLine == cpos.line) = true := by rfl) (hs : starEach (e :: es) X.env = (false, eval e X.env) :: starEach es X.env := by rfl) (hplain : (backTo cpos (starEach es X.env)).any (·.1) = false := by rfl) :
    PE X (.Call (.Attribute o name apos) (e :: es) [] cpos) (tBM K T r to t) := ek ▸ pe_bm pa slot hty hm ho ha hbase hfew hline hs hplain
theorem pg_tupK {es : List Expr} {k : Nat} {t : TGs} {n : Nat} {pos : Pos} (ek : X.K = K) (hc : X.calm = true) (h : PGs X es t) (hn : (assignEach es X.env).length = n := by rfl) (hst : (assignEach es X.env).findIdx? (·.1) = none := by rfl) :
    PG X (.Tuple es k pos) (gTup K n t) := ek ▸ pg_tup hc h hn hst
end
namespace Rd
section
variable {σ : St} {H : Hp} {Q : VK} {K : PySem.W.Frag}
theorem tru {ta : TE} {Q : Bool → Hp → Prop} (h : ta σ H fun x H' => ∃ k, TruV K x H' k ∧ Q k H') : tTru K ta σ H Q := h
theorem rlen {xs : List V} (h : ∃ x n, xs = [x] ∧ LenV K x H n ∧ Q (.int n) H) : rLen K xs H Q := h
theorem risi {xs : List V} (h : ∃ x n t b, xs = [x, .ty n] ∧ TyOf K H x t ∧ PySem.W.kitOne K t (.type n) = some b ∧ Q (.bl b) H) : rIsi K xs H Q := h
theorem rall {xs : List V} (h : ∃ (p : Addr) (bs : List Bool), xs = [.ref p] ∧ SqL K H p (bs.map V.bl) ∧ Q (.bl (bs.all id)) H) : rAllB K xs H Q := h
theorem listOfL {p : Addr} {xs : List V} (h : SqL K H p xs) (q : ∀ l, H l = none → Q (.ref l) (upd H l (.lst xs))) : rListOf K [.ref p] H Q := ⟨p, xs, rfl, .inl h, q⟩
end
end Rd
end L2
namespace L2
open PySem PySem.Spec PyProof.Rows
section
variable {X : Cx}
def rDIn : R2 := fun y x H Q => ∃ a o, x = .ref a ∧ DGet H a y o ∧ Q (.bl o.isSome) H
def rDNotIn : R2 := fun y x H Q => ∃ a o, x = .ref a ∧ DGet H a y o ∧ Q (.bl (!o.isSome)) H
theorem op_dIn (hu : X.A.units + 64 < cLine) : OpR X (compareOp .In) rDIn := by
  intro pins s σ H x y v u Q I rx ry h
  obtain ⟨a, o, rfl, g, q⟩ := h
  cases ry
  exact d_in (by omega) I g rx fun s' I' => ⟨.bl o.isSome, H, I', rfl, q⟩
theorem op_dNotIn (hu : X.A.units + 64 < cLine) : OpR X (compareOp .NotIn) rDNotIn := by
  intro pins s σ H x y v u Q I rx ry h
  obtain ⟨a, o, rfl, g, q⟩ := h
  cases ry
  exact d_notIn (by omega) I g rx fun s' I' => ⟨.bl (!o.isSome), H, I', rfl, q⟩
def rIxD : R2 := fun x y H Q => ∃ a v, x = .ref a ∧ DGet H a y (some v) ∧ Q v H
theorem ix_dict (hu : X.A.units + 64 < cLine) : IxR X rIxD := by
  intro value slice pins s σ H x y v u Q I rx ry h hs
  obtain ⟨a, z, rfl, g, q⟩ := h
  cases rx
  exact tail_any (dict_typeIs I g) PySem.F.slot_dict_getitem.lookup (d_getItem (by omega) I g ry fun w' s' I' rw' => ⟨z, H, I', rw', q⟩) hs
def rSetD : V → V → V → Hp → (Hp → Prop) → Prop := fun o i v H Q => ∃ a H4, o = .ref a ∧ DPut H a i v H4 ∧ Q H4
theorem set_dict (hu : X.A.units + 64 < cLine) : PSet X rSetD := by
  intro pins s σ H o i v ov iv u Q I ro ri rv h
  obtain ⟨a, H4, rfl, g, q⟩ := h
  cases ro
  exact d_setItem (by omega) I g ri rv fun s' I' => ⟨H4, I', q⟩
theorem is_kV {P : Program} {w : World} {k : Key} {u : Value} (h : (mixKind P w).is k u = true) : RelV (kV k) u := by
  cases k with
  | inl i => exact Value.isInt_shape h
  | inr x => exact Value.isStrOf_shape h
theorem vals_pt : ∀ {xs : List V} {us : List Value}, us.length = xs.length → (∀ (j : Nat) (v : V) (u : Value), xs[j]? = some v → us[j]? = some u → RelV v u) → Vals xs us
  | [], [], _, _ => .nil
  | x :: xs, u :: us, hl, h => .cons (h 0 x u rfl rfl) (vals_pt (by simpa using hl) fun j v w e1 e2 => h (j + 1) v w (by simpa using e1) (by simpa using e2))
  | [], _ :: _, hl, _ => by simp at hl
  | _ :: _, [], hl, _ => by simp at hl
theorem KV.at {kvs : List (Key × V)} {vs : List (Key × Value)} (r : KV kvs vs) : ∀ {j : Nat} {k : Key} {x : Value}, vs[j]? = some (k, x) → ∃ v, kvs[j]? = some (k, v) := by
  unfold KV at r
  induction r with
  | nil => intro j k x e; simp at e
  | @cons p q ps qs h t ih =>
    intro j k x e
    cases j with
    | zero =>
      simp at e
      subst e
      have h1 : p.1 = k := h.1
      exact ⟨p.2, by simp [← h1]⟩
    | succ j =>
      obtain ⟨v, z⟩ := ih (j := j) (k := k) (x := x) (by simpa using e)
      exact ⟨v, by simpa using z⟩
def rListD : List V → Hp → VK → Prop := fun xs H Q => ∃ a kvs, xs = [V.ref a] ∧ H a = some (.dK kvs) ∧ ∀ l, H l = none → Q (.ref l) (upd H l (.lst (kvs.map fun kv => kV kv.1)))
theorem call_listD (hc : X.calm = true) : CallR X (.type "list") rListD := by
  intro pins s σ H xs us Q I r h
  obtain ⟨a, kvs, rfl, ha, q⟩ := h
  obtain ⟨u, rfl, ru⟩ := vals1 r
  cases ru
  obtain ⟨z, hd, vs, rel, dd⟩ := dk_of I.hok ha
  obtain ⟨ep, hat⟩ := dd.dictAt
  refine PySem.W.kdl_call (PySem.W.kdl_dict (knd := mixKind X.prog X.w) (kvs := vs) (ep := ep) hd) (I.ok.hd hc) hat (by rw [← rel.length]; exact z) fun h' tk acc c hk hD hacc => ?_
  refine ⟨.ref s.heap.objs.size, _, I.laid (a := s.heap.objs.size) (o := .lst (kvs.map fun kv => kV kv.1)) (t' := tk) hk (Nat.le_refl _) ⟨by rw [List.length_map]; exact z, acc.toList, c, ?_, by simpa using hD⟩, rfl, q _ (I.hok.fresh (Nat.le_refl _))⟩
  refine vals_pt (by rw [Array.length_toList, hacc.1, List.length_map, rel.length]) fun j v u e1 e2 => ?_
  obtain ⟨k, x, hx, hk'⟩ := hacc.2 j u (by rw [← Array.getElem?_toList]; exact e2)
  obtain ⟨v', hv'⟩ := rel.at hx
  rw [List.getElem?_map, hv'] at e1
  cases e1
  exact is_kV hk'
end
section
variable {X : Cx} {pins : List (Addr × Obj)} {σ : List (Option V)} {H H' : Hp} {s : Shared} {h' : Heap}
theorem Inv.turnedL {t' : Nat} {fp : List Addr} (I : Inv X pins σ H s) (k : ∀ b o, b ∉ fp → s.heap.get? b = some o → h'.get? b = some o) (hf : ∀ b ∈ fp, FpOk X pins H b) : Inv X pins σ H { s with heap := h', toks := t' } := by
  have nit : ∀ b u, H b = some u → b ∉ fp := fun b u e z => by rw [(hf b z).1] at e; cases e
  refine I.step (g' := s.gens) (d' := s.drawn) (ch := fp) (fun b hb => ?_) (fun b o _ _ hc e _ => k b o hc e) (fun b o _ _ hc e _ => ⟨o.slots, k b o hc e⟩) (fun _ _ _ _ n => n)
    (fun b o hc e => ⟨o, k b o hc e⟩) (fun _ _ e => e) (fun _ _ _ e => e) (fun b ps e => ⟨#[], by rw [e]; simp⟩) (fun m hm => ?_) (fun b u e => ?_) I.bare
  · obtain ⟨f0, f1, f2, f3, f4, f5⟩ := hf b hb
    exact ⟨f3, f1, f4, f5⟩
  · obtain ⟨o, es, ep, ho, r⟩ := hm
    exact ⟨o, es, ep, k _ o (fun z => (hf _ z).2.1 rfl) ho, r⟩
  · refine (I.hok b u e).stay (fun c v hc q => k c v ?_ q) (fun _ q => q) fun _ _ q => q
    rcases hc with z | z
    · rw [z]; exact nit b u e
    · exact nit c _ z
theorem Inv.turnedNew {t' : Nat} {fp : List Addr} {T : Addr} {o : HO} (I : Inv X pins σ H s) (k : ∀ b o, b ∉ fp → s.heap.get? b = some o → h'.get? b = some o) (hf : ∀ b ∈ fp, FpOk X pins H b) (hp : s.heap.objs.size ≤ T) (new : ObjOk X.prog X.w (upd H T o) h' T o) :
    Inv X pins σ (upd H T o) { s with heap := h', toks := t' } := by
  have J : Inv X pins σ H { s with heap := h', toks := t' } := I.turnedL k hf
  have hn := I.hok.fresh hp
  obtain ⟨f0, f1, f2, f3, f4, f5⟩ := I.fpOk hp hn
  refine Inv.step (s := { s with heap := h', toks := t' }) (h' := h') (g' := s.gens) (d' := s.drawn) (t' := t') (ch := [T]) J (fun b hb => ?_) (fun b o _ _ hc e _ => e) (fun b o _ _ hc e _ => ⟨o.slots, e⟩) (fun b o hc e n => ?_)
    (fun b o hc e => ⟨o, e⟩) (fun b xs e => ?_) (fun b o u e => ?_) (fun b ps e => ⟨#[], ?_⟩) (fun m hm => hm) (fun b u e => ?_) I.bare
  · have e : b = T := by simpa using hb
    subst e
    exact ⟨f3, f1, f4, f5⟩
  · rw [upd_ne (fun z => hc (by simp [z]))]; exact n
  · rw [upd_ne (ne_of_none e hn)]; exact e
  · rw [upd_ne (ne_of_none e hn)]; exact e
  · rw [upd_ne (ne_of_none e hn)]; simpa using e
  · by_cases hb : b = T
    · subst hb; rw [upd_same] at e; cases e; exact new
    · rw [upd_ne hb] at e
      exact (J.hok b u e).stay (fun c v _ q => q) (fun c q => by rw [upd_ne (ne_of_none q hn)]; exact q) fun c xs q => by rw [upd_ne (ne_of_none q hn)]; exact q
end
def Ite (K : PySem.W.Frag) (a : Addr) : It :=
  ⟨fun i H => ∃ xs x, SqL K H a xs ∧ xs[i]? = some x, fun i H v H' => ∃ t x, H t = none ∧ v = .ref t ∧ H' = upd H t (.tup [.int i, x]) ∧ ∀ xs, SqL K H a xs → xs[i]? = some x, fun i H => ∃ xs, SqL K H a xs ∧ xs.length ≤ i⟩
theorem turn_enum {P : Program} {w : World} {K : PySem.W.Frag} {elts : List Expr} {k1 : Nat} {pos : Pos} (a e it : Addr) (hei : e ≠ it) : Turn P w K (.Tuple elts k1 pos) (Ite K a) [e, it] e (fun i h => (∃ old, IsEnum h e it i old) ∧ h.IsListIter it a i) where
  mem := by simp
  obj := fun i h st b hb => by
    obtain ⟨⟨old, he⟩, o, h1, h2, h3⟩ := st
    rcases List.mem_cons.mp hb with rfl | hb
    · exact ⟨_, he, fun v z => by
        have z' : Data.fields _ = Data.cell v := z
        cases z'⟩
    · rw [List.mem_singleton.mp hb]
      exact ⟨o, h1, fun v z => by rw [h3] at z; cases z⟩
  keep := fun i h h' st k => ⟨let ⟨old, he⟩ := st.1; ⟨old, k e (by simp) _ he⟩, st.2.at fun o q => k it (by simp) o q⟩
  item := by
    intro X hP hw hK hc i pins s σ H E I hf st hg
    subst hP hw hK
    obtain ⟨xs, x, hq, hx⟩ := hg
    obtain ⟨its, rv, p, hz⟩ := I.list hq
    obtain ⟨u, hu, ru⟩ := rv.get hx
    obtain ⟨⟨old, he⟩, hit⟩ := st
    refine wpAny_pyNext_enum_item he hit p.isList (x := u) (by simpa using hu) hei fun h' ho hit' hT hsz hk => ?_
    have hfr := I.hok.fresh (Nat.le_refl s.heap.objs.size)
    have helt : e < s.heap.objs.size := Heap.lt_size he
    have hilt : it < s.heap.objs.size := by obtain ⟨_, y, _⟩ := hit; exact Heap.lt_size y
    refine ⟨_, rfl, wpAny_letOwnedTupleGo_enum ho fun h2 he2 hs2 => ?_⟩
    have hT2 : h2.get? s.heap.objs.size = some { cls := .type "tuple", data := .seq #[.int i s.toks, u] } := hs2.extBut _ _ (Nat.ne_of_gt helt) hT
    have I1 : Inv X pins σ (upd H s.heap.objs.size (.tup [.int i, x])) { s with heap := h2, toks := s.toks + 1 } :=
      I.turnedNew (fp := [e, it]) (fun b o hb q => by
        have n1 : b ≠ e := fun z => hb (by simp [z])
        have n2 : b ≠ it := fun z => hb (by simp [z])
        exact hs2.extBut b o n1 (hk b o n1 n2 q)) hf (Nat.le_refl _) ⟨by show 2 ≤ sizeLine; decide, [.int i s.toks, u], .cons ⟨_, rfl⟩ (.cons ru .nil), _, hT2, rfl, _, rfl⟩
    refine ⟨.ref s.heap.objs.size, _, I1, rfl, ⟨_, x, hfr, rfl, rfl, fun ys hy => by rw [I.list_inj hy hq]; exact hx⟩, ⟨⟨_, he2⟩, hit'.at fun o q => hs2.extBut _ _ hei.symm q⟩, fun b hb => ?_⟩
    have nb : b ≠ s.heap.objs.size := by
      rcases List.mem_cons.mp hb with rfl | hb
      · exact Nat.ne_of_lt helt
      · rw [List.mem_singleton.mp hb]; exact Nat.ne_of_lt hilt
    rw [upd_ne nb]
    exact (hf b hb).1
  done := by
    intro X hP hw hK hc i pins s σ H E I hf st hg
    subst hP hw hK
    obtain ⟨xs, hq, hx⟩ := hg
    obtain ⟨its, rv, p, hz⟩ := I.list hq
    obtain ⟨⟨old, he⟩, hit⟩ := st
    have hl := rv.length
    exact wpAny_pyNext_enum_end (I.ok.hd hc) he hit p.isList (by simp; omega) fun h' eb => ⟨rfl, I.turnedL (t' := s.toks) (fp := [e, it]) (fun b o hb q => eb b o (fun z => hb (by simp [z])) q) hf⟩
  self := fun _ _ _ _ _ st h => wpAny_pyIter_enum st.1.choose_spec h
section
variable {X : Cx}
def iEnum (K : PySem.W.Frag) (ta : TA) : TI := fun σ H R => ta σ H fun vs H1 => ∃ a, vs = [.ref a] ∧ (∃ xs, SqL K H1 a xs) ∧ R (Ite K a) H1
theorem pi_enum {K : PySem.W.Frag} {a : Expr} {ta : TA} {p pos tpos : Pos} {elts : List Expr} {k1 : Nat} (ek : X.K = K) (hg : Gl X "enumerate") (hm : X.mg "enumerate" = none) (ha : PA X [a] ta) (hs : starEach [a] X.env = [(false, eval a X.env)] := by rfl) :
    PI X (.Tuple elts k1 tpos) (.Call (.Name "enumerate" p) [a] [] pos) (iEnum K ta) := by
  subst ek
  intro pins s σ H R I h
  refine Call_ (ld_blt I hg hm boot_enumerate (PyProof.Rows.callWith_type1 (thn (ha pos pins s σ H _ I h) fun us s1 ⟨vs, H1, I1, r1, q1⟩ => ?_) hs rfl))
  obtain ⟨b, rfl, ⟨xs, hq⟩, q⟩ := q1
  obtain ⟨u, rfl, ru⟩ := vals1 r1
  cases ru
  obtain ⟨its, rv, pl, hz⟩ := I1.list hq
  refine call_enumerate_list pl.isList fun h' he hit hsz hk => ?_
  refine wpAny_pyIter_enum he ?_
  have I2 : Inv X pins σ H1 { s1 with heap := h' } := I1.kept (t' := s1.toks) hk
  refine ⟨s1.heap.objs.size + 1, [s1.heap.objs.size + 1, s1.heap.objs.size], _, _, H1, rfl, I2, turn_enum b _ _ (Nat.succ_ne_self _), ⟨⟨_, he⟩, hit⟩, fun c hc => ?_, q⟩
  rcases List.mem_cons.mp hc with rfl | hc
  · exact I1.fpOk (Nat.le_succ _) (I1.hok.fresh (Nat.le_succ _))
  · rw [List.mem_singleton.mp hc]
    exact I1.fpOk (Nat.le_refl _) (I1.hok.fresh (Nat.le_refl _))
end
end L2
namespace L2
open PySem PySem.Spec PyProof.Rows
def rLenD : List V → Hp → VK → Prop := fun xs H Q => ∃ a kvs, xs = [V.ref a] ∧ H a = some (.dK kvs) ∧ Q (.int kvs.length) H
theorem len_D {X : Cx} : CallR X (.builtin "len") rLenD := call_lenD
def embN (n : Nat) (ix : List Nat) (σ : St) : St := List.replicate n none ++ ix.map fun j => (σ[j]?).join
def tCompN (n : Nat) (ix : List Nat) (wi : TI) (g : TG) (tc : TT) (te : TE) : TE := fun σ H Q => wi σ H fun J H1 => ∀ p, H1 p = none →
  ∃ W : Nat → Nat → List V → St → Hp → Prop, (∃ m, W 0 m [] (embN n ix σ) (upd H1 p (.lst []))) ∧ ∀ i m ys σ' H', W i m ys σ' H' →
    (J.stop i H' ∧ Q (.ref p) H') ∨ (J.go i H' ∧ ∀ x H2, J.yld i H' x H2 → g x σ' H2 fun σ2 H3 => tc σ2 H3 fun b H4 =>
      if b = true then te σ2 H4 fun v H5 => H5 p = some (.lst ys) ∧ ys.length < sizeLine ∧ ∃ m', m' < m ∧ W (i + 1) m' (ys ++ [v]) σ2 (upd H5 p (.lst (ys ++ [v])))
      else ∃ m', m' < m ∧ W (i + 1) m' ys σ2 H4)
section
variable {X : Cx}
theorem compN_start {pins : List (Addr × Obj)} {σ : St} {H : Hp} {s : Shared} {sc : Scope} {x : Str} {xs : List Str} {zs : List Str} {ix : List Nat} {cl : List (Str × Addr)} {fp : List Addr} {h₁ : Heap} {tk : Nat}
    (S : CompScope X sc x zs ix) (I : Inv X pins σ H s) (hcl : ∀ y c, cl.lookup y = some c → X.env.cells.lookup y = some c) (hhas : ∀ y, (y, NameKind.free) ∈ sc.names → ∃ c, cl.lookup y = some c)
    (hfp : ∀ b ∈ fp, FpOk X pins H b ∧ b < s.heap.objs.size) (hns : h₁.Ns s.heap.objs.size fun _ => none) (hk : ∀ b o, s.heap.get? b = some o → h₁.get? b = some o) :
    Inv (cxComp X sc cl s.heap.objs.size (xs ++ zs) s H fp) [] (embN xs.length ix σ) H { s with heap := h₁, toks := tk } := by
  have sub : ∀ b ∈ frs X.stack, b ∈ X.env.locals :: X.fs := I.stkSub
  have nfs : ∀ b ∈ fp, b ∉ frs X.stack := fun b hb z => by
    obtain ⟨⟨_, f1, f2, _⟩, _⟩ := hfp b hb
    rcases List.mem_cons.mp (sub b z) with e | e
    · exact f1 e
    · exact f2 e
  have cut : ∀ y, (cxComp X sc cl s.heap.objs.size (xs ++ zs) s H fp).env.kindOf y = some .cell ∨ (cxComp X sc cl s.heap.objs.size (xs ++ zs) s H fp).env.kindOf y = some .free → ∃ c, cl.lookup y = some c := fun y hy => by
    have q : ∃ k, (relabel sc X.env).names.lookup y = some k ∧ (k = .cell ∨ k = .free) := by
      rcases hy with hy | hy
      · exact ⟨_, hy, .inl rfl⟩
      · exact ⟨_, hy, .inr rfl⟩
    obtain ⟨k, e, hk⟩ := q
    obtain ⟨k', e', q⟩ := lookup_relabel e
    have : k' = .free := by
      rcases q with q | ⟨q, _⟩
      · rcases hk with z | z
        · exact absurd (q.symm.trans z) (S.nocell _ (lookup_mem e'))
        · exact q.symm.trans z
      · exact q
    subst this
    exact hhas y (lookup_mem e')
  refine ⟨⟨I.ok.mod, S.kind, I.ok.glob, I.ok.blt, Nat.le_refl _, fun y z c h1 h2 => I.ok.inj y z c (hcl _ _ h1) (hcl _ _ h2), cut, fun y c hf _ => ?_, I.ok.hd, I.ok.frames, .inl rfl, fun b hb => ?_, I.bs, Nat.le_trans I.ok.bsz I.sz, fun b o e hb => ?_, nfs, I.stack, I.stkFree⟩,
    rfl, I.bare, Un.kept hk, ⟨_, hns, fun i y v h1 h2 h3 => ?_⟩, fun y c h => ?_, I.hok.fresh (Nat.le_refl _), fun y c h => I.freeC y c (hcl y c h), fun p hp => absurd (show p ∈ ([] : List (Addr × Obj)) from hp) (by simp), I.hok.kept hk, ?_⟩
  · exact absurd (show false = true from hf) (by decide)
  · obtain ⟨⟨f0, f1, f2, f3, f4, f5⟩, hl⟩ := hfp b hb
    exact ⟨Nat.ne_of_lt hl, fun y c h => f4 y c (hcl y c h)⟩
  · obtain ⟨⟨f0, f1, f2, f3, f4, f5⟩, hl⟩ := hfp b hb
    rcases f3 with z | z
    · exact I.ok.noex b o e z
    · exact absurd (Nat.lt_of_lt_of_le (Heap.lt_size e) (Nat.le_trans I.ok.bsz z)) (Nat.lt_irrefl _)
  ·
    have hlen : xs.length ≤ i := by
      rcases Nat.lt_or_ge i xs.length with z | z
      · have h2' : (List.replicate xs.length none ++ ix.map fun j => (σ[j]?).join)[i]? = some (some v) := h2
        rw [List.getElem?_append_left (by rw [List.length_replicate]; exact z), List.getElem?_replicate, if_pos z] at h2'
        cases h2'
      · exact z
    · obtain ⟨i, rfl⟩ : ∃ i', i = xs.length + i' := ⟨i - xs.length, by omega⟩
      have h1' : zs[i]? = some y := by
        have h1' : (xs ++ zs)[xs.length + i]? = some y := h1
        rw [List.getElem?_append_right (Nat.le_add_right _ _), Nat.add_sub_cancel_left] at h1'
        exact h1'
      have h2' : (ix.map fun j => (σ[j]?).join)[i]? = some (some v) := by
        have h2' : (List.replicate xs.length none ++ ix.map fun j => (σ[j]?).join)[xs.length + i]? = some (some v) := h2
        rw [List.getElem?_append_right (by rw [List.length_replicate]; exact Nat.le_add_right _ _), List.length_replicate, Nat.add_sub_cancel_left] at h2'
        exact h2'
      have ha : (ix.map fun j => X.N[j]?)[i]? = some (some y) := by rw [S.at_, List.getElem?_map, h1']; rfl
      rw [List.getElem?_map] at h2' ha
      cases e : ix[i]? with
      | none => rw [e] at h2'; cases h2'
      | some j =>
        rw [e] at h2' ha
        have ha' : X.N[j]? = some y := Option.some.inj ha
        have hj : (σ[j]?).join = some v := Option.some.inj h2'
        have hσ : σ[j]? = some (some v) := by
          cases q : σ[j]? with
          | none => rw [q] at hj; cases hj
          | some o => rw [q] at hj; exact congrArg some hj
        obtain ⟨m, hn, hl⟩ := I.loc
        have hfr := S.zfree y (List.mem_of_getElem? h1')
        have hkind := S.free _ (lookup_mem hfr) rfl
        have hv : Vis X.env.scope y := by
          rcases hkind with z | z
          · exact .inr (.inl z)
          · exact .inr (.inr z)
        obtain ⟨u, r, q⟩ := hl j y v ha' hσ hv
        refine ⟨u, r, ?_⟩
        rcases q with ⟨kl, _⟩ | ⟨_, c, hc, hcell⟩
        · have kl' : X.env.kindOf y = some .local := kl
          rcases hkind with z | z <;> (rw [z] at kl'; cases kl')
        · obtain ⟨c', hc'⟩ := hhas y (lookup_mem hfr)
          have ec : c' = c := by have := hcl y c' hc'; rw [hc] at this; exact (Option.some.inj this).symm
          subst ec
          refine .inr ⟨?_, c', hc', ?_⟩
          · have hvis : Vis (relabel sc X.env) y := h3
            rcases hvis with z | z | z
            · obtain ⟨k', e', q⟩ := lookup_relabel z
              rw [hfr] at e'
              cases e'
              rcases q with q | ⟨_, q⟩ <;> cases q
            · exact .inl z
            · exact .inr z
          · obtain ⟨o, ho, hd⟩ := hcell
            exact ⟨o, hk _ _ ho, hd⟩
  · obtain ⟨v, o, ho, hd⟩ := I.cell y c (hcl y c h)
    exact ⟨v, o, hk _ _ ho, hd⟩
  · show (List.replicate xs.length none ++ ix.map fun j => (σ[j]?).join).length = (xs ++ zs).length
    have := congrArg List.length S.at_
    simp only [List.length_map] at this
    simp only [List.length_append, List.length_replicate, List.length_map, this]
theorem compN_block {pins : List (Addr × Obj)} {σ : St} {H : Hp} {s : Shared} {sc : Scope} {x : Str} {xs : List Str} {zs : List Str} {ix : List Nat} {cl : List (Str × Addr)} {fp : List Addr} {it : Addr} {tn : Nat → Heap → Prop} {J : It}
    {elt tg iter : Expr} {ifs : List Expr} {pos : Pos} {g : TG} {tc : TT} {te : TE} {Q : VK} {E : Value → Shared → Prop} {RR : Value → Addr → Result → Shared → Prop}
    (hc : X.calm = true) (S : CompScope X sc x zs ix) (I : Inv X pins σ H s) (hcl : ∀ y c, cl.lookup y = some c → X.env.cells.lookup y = some c) (hhas : ∀ y, (y, NameKind.free) ∈ sc.names → ∃ c, cl.lookup y = some c)
    (T : Turn X.prog X.w X.K tg J fp it tn) (st : tn 0 s.heap) (hfp : ∀ b ∈ fp, FpOk X pins H b)
    (hin : ∀ C s H, PG (cxComp X sc cl C (xs ++ zs) s H fp) tg g ∧ PIf (cxComp X sc cl C (xs ++ zs) s H fp) ifs tc ∧ PE (cxComp X sc cl C (xs ++ zs) s H fp) elt te)
    (hq : ∀ p, H p = none → ∃ W : Nat → Nat → List V → St → Hp → Prop, (∃ m, W 0 m [] (embN xs.length ix σ) (upd H p (.lst []))) ∧ ∀ i m ys σ' H', W i m ys σ' H' →
      (J.stop i H' ∧ Q (.ref p) H') ∨ (J.go i H' ∧ ∀ x H2, J.yld i H' x H2 → g x σ' H2 fun σ2 H3 => tc σ2 H3 fun b H4 =>
        if b = true then te σ2 H4 fun v H5 => H5 p = some (.lst ys) ∧ ys.length < sizeLine ∧ ∃ m', m' < m ∧ W (i + 1) m' (ys ++ [v]) σ2 (upd H5 p (.lst (ys ++ [v])))
        else ∃ m', m' < m ∧ W (i + 1) m' ys σ2 H4))
    (hR : ∀ acc C f s', CompEnd X pins σ Q acc C s' → RR acc C (.ok f) s') :
    wpAny (model X.prog X.w) X.A (newList []) (fun acc s₃ => wpAny (model X.prog X.w) X.A (newFunctionEnv sc X.env.globals cl [] X.env.qual none .none (some X.env)) (fun cenv s₄ =>
      codeAny (model X.prog X.w) X.A (.compStart (.ListComp elt [⟨tg, iter, ifs, 0⟩] sc pos) 0 (.ref it) acc { cenv with scope := relabel sc X.env }) (RR acc cenv.locals) s₄) E s₃) E s := by
  refine wpAny_newObj_type (wpAny_newFunctionEnv S.nocell (by intro y hy; simp at hy) (fun h₁ hns₁ hsb₁ => ?_) S.kind)
  have I3 : Inv X pins σ (upd H s.heap.objs.size (.lst [])) { s with heap := s.heap.push { cls := .type "list", dict := none, data := .seq ([] : List Value).toArray } } := I.lnew (its := []) (ys := []) (t' := s.toks) .nil (Nat.zero_le _)
  dsimp only at hns₁ hsb₁ ⊢
  obtain ⟨W, ⟨m0, w0⟩, turn⟩ := hq s.heap.objs.size (I.hok.fresh (Nat.le_refl _))
  have lt : ∀ b ∈ fp, b < s.heap.objs.size := fun b hb => by
    obtain ⟨o, e, _⟩ := T.obj 0 s.heap st b hb
    exact Heap.lt_size e
  have up : ∀ b ∈ fp, ∀ o, (upd H s.heap.objs.size o) b = H b := fun b hb o => upd_ne (Nat.ne_of_lt (lt b hb))
  have kp : ∀ b o, (s.heap.push { cls := .type "list", dict := none, data := .seq ([] : List Value).toArray }).get? b = some o → h₁.get? b = some o := fun b o e =>
    hsb₁.extBut b o (Nat.ne_of_lt (Heap.lt_size e)) (Heap.get?_push_of_some _ e)
  have f3 : ∀ b ∈ fp, FpOk X pins (upd H s.heap.objs.size (.lst [])) b ∧ b < (s.heap.push { cls := .type "list", dict := none, data := .seq ([] : List Value).toArray }).objs.size := fun b hb => by
    obtain ⟨q0, q⟩ := hfp b hb
    refine ⟨⟨(up b hb _).trans q0, q⟩, ?_⟩
    rw [Heap.size_push]
    exact Nat.lt_succ_of_lt (lt b hb)
  generalize hS3 : ({ s with heap := s.heap.push { cls := .type "list", dict := none, data := .seq ([] : List Value).toArray } } : Shared) = s3 at I3
  have hH3 : s.heap.push { cls := .type "list", dict := none, data := .seq ([] : List Value).toArray } = s3.heap := by rw [← hS3]
  rw [hH3] at kp f3 hns₁ ⊢
  have st3 : tn 0 h₁ := T.keep 0 _ _ st fun b _ o e => kp b o (by rw [← hH3]; exact Heap.get?_push_of_some _ e)
  have J0 : Inv (cxComp X sc cl s3.heap.objs.size (xs ++ zs) s3 (upd H s.heap.objs.size (.lst [])) fp) [] (embN xs.length ix σ) (upd H s.heap.objs.size (.lst [])) { s3 with heap := h₁, toks := s3.toks } :=
    compN_start S I3 hcl hhas f3 hns₁ kp
  obtain ⟨hg, hif, he⟩ := hin s3.heap.objs.size s3 (upd H s.heap.objs.size (.lst []))
  have fpo : ∀ {H' : Hp}, (∀ b ∈ fp, H' b = none) → ∀ b ∈ fp, FpOk (cxComp X sc cl s3.heap.objs.size (xs ++ zs) s3 (upd H s.heap.objs.size (.lst [])) fp) [] H' b := fun {H'} hn b hb =>
    ⟨hn b hb, (J0.ok.exf b hb).1, J0.ok.exfs b hb, .inl hb, (J0.ok.exf b hb).2, fun p hp => absurd (show p ∈ ([] : List (Addr × Obj)) from hp) (by simp)⟩
  have loop : ∀ s4 : Shared, s4 = { s3 with heap := h₁, toks := s3.toks } →
      codeAny (model X.prog X.w) X.A (.compLoop (.ListComp elt [⟨tg, iter, ifs, 0⟩] sc pos) 0 (.ref it) (.ref s.heap.objs.size) (compEnvC sc cl s3.heap.objs.size X.env)) (RR (.ref s.heap.objs.size) s3.heap.objs.size) s4 := by
    rintro s4 rfl
    refine compLoop_any (fun n s' => ∃ i ys σ' H', Inv (cxComp X sc cl s3.heap.objs.size (xs ++ zs) s3 (upd H s.heap.objs.size (.lst [])) fp) [] σ' H' s' ∧ tn i s'.heap ∧ (∀ b ∈ fp, H' b = none) ∧ W i n ys σ' H') ?_ m0
      ⟨0, [], embN xs.length ix σ, _, J0, st3, fun b hb => (f3 b hb).1.1, w0⟩
    rintro n s5 ⟨i, ys, σ5, H5, I5, st5, fr5, w5⟩
    rcases turn i n ys σ5 H5 w5 with ⟨stop, qn⟩ | ⟨go, step⟩
    · refine thn (T.done (cxComp X sc cl s3.heap.objs.size (xs ++ zs) s3 (upd H s.heap.objs.size (.lst [])) fp) rfl rfl rfl hc i [] s5 σ5 H5 _ I5 (fpo fr5) st5 stop) fun r s6 ⟨hr, I6⟩ => ?_
      subst hr
      obtain ⟨m6, hm6, _⟩ := I6.loc
      refine hR _ _ _ _ ⟨s.heap.objs.size, H5, m6, rfl, hm6, ?_, I3.fpOk (Nat.le_refl _) I6.free, qn⟩
      exact I3.call' I6.os I6.base I6.hok I6.bare fun b hb => by
        obtain ⟨⟨f0, f1, f2, f3, f4, f5⟩, _⟩ := f3 b hb
        exact ⟨f3, f1, f4, f5⟩
    · refine thn (T.item (cxComp X sc cl s3.heap.objs.size (xs ++ zs) s3 (upd H s.heap.objs.size (.lst [])) fp) rfl rfl rfl hc i [] s5 σ5 H5 _ I5 (fpo fr5) st5 go) fun r s6 ⟨u, hr, h6⟩ => ?_
      subst hr
      refine thn h6 fun _ s7 ⟨x7, H7, I7, r7, y7, st7, fr7⟩ => ?_
      have I7' := I7.pinned (fpo fr7) (T.obj _ _ st7)
      refine thn (hg _ s7 σ5 H7 x7 u _ I7' r7 (step x7 H7 y7)) fun _ s8 ⟨σ8, H8, I8, q8⟩ => ?_
      refine thn (hif _ s8 σ8 H8 _ I8 q8) fun b s9 ⟨H9, I9, q9⟩ => ?_
      have again : ∀ {ys' : List V} {σ' : St} {H' : Hp} {m' : Nat} {s' : Shared}, Inv (cxComp X sc cl s3.heap.objs.size (xs ++ zs) s3 (upd H s.heap.objs.size (.lst [])) fp) ([] ++ pinsAt fp s7.heap) σ' H' s' → W (i + 1) m' ys' σ' H' → m' < n →
          ∃ m, m < n ∧ ∃ i ys σ' H', Inv (cxComp X sc cl s3.heap.objs.size (xs ++ zs) s3 (upd H s.heap.objs.size (.lst [])) fp) [] σ' H' s' ∧ tn i s'.heap ∧ (∀ b ∈ fp, H' b = none) ∧ W i m ys σ' H' := fun {ys' σ' H' m' s'} Iz wz hm => by
        refine ⟨m', hm, i + 1, ys', σ', H', Iz.unpinned, T.keep _ _ _ st7 fun b hb o e => (Iz.pin (b, o) (List.mem_append_right _ (List.mem_append_right _ (mem_pinsAt hb e)))).1, fun b hb => ?_, wz⟩
        obtain ⟨o, e, d⟩ := T.obj _ _ st7 b hb
        exact (Iz.pin (b, o) (List.mem_append_right _ (List.mem_append_right _ (mem_pinsAt hb e)))).2.1
      cases b with
      | false =>
        rw [if_neg Bool.false_ne_true] at q9 ⊢
        obtain ⟨m', hm, wz⟩ := q9
        exact again I9 wz hm
      | true =>
        rw [if_pos rfl] at q9 ⊢
        refine thn (he _ s9 σ8 H9 _ I9 q9) fun v s10 ⟨y, H10, I10, r10, hl, hz, m', hm, wz⟩ => ?_
        refine thn (mt_append _ s10 σ8 H10 (.ref s.heap.objs.size) [y] (.ref s.heap.objs.size) [v] (fun z H' => z = .non ∧ H' = upd H10 s.heap.objs.size (.lst (ys ++ [y]))) I10 rfl (.cons r10 .nil) ⟨_, ys, y, rfl, rfl, hl, hz, rfl, rfl⟩) fun _ s11 ⟨z, H11, I11, _, _, e11⟩ => ?_
        subst e11
        exact again I11 wz hm
  exact codeAny_compStart_list (loop _ (by subst hS3; rfl)) (T.self _ 0 _ _ _ st3 (loop _ (by subst hS3; rfl)))
theorem ps_compN {elt tg iter : Expr} {ifs : List Expr} {sc : Scope} {pos py spos : Pos} {x y : Str} {xs : List Str} {zs : List Str} {ix : List Nat} {wi : TI} {g : TG} {tc : TT} {te : TE} {j : Nat}
    (hc : X.calm = true) (S : CompScope X sc x zs ix) (hi : PI X tg iter wi)
    (hin : ∀ cl C s H fp, PG (cxComp X sc cl C (xs ++ zs) s H fp) tg g ∧ PIf (cxComp X sc cl C (xs ++ zs) s H fp) ifs tc ∧ PE (cxComp X sc cl C (xs ++ zs) s H fp) elt te)
    (hN : X.N.Nodup) (hj : X.N[j]? = some y) (hy : Loc X.env.scope y)
    (hsw : swapsWith (.ListComp elt [⟨tg, iter, ifs, 0⟩] sc pos) (some (.Name y py)) spos.line X.env = pure true := by rfl)
    (hf : X.fn y = true ∨ X.env.scope.names.lookup y = some .local := by first | exact .inl rfl | exact .inr rfl | assumption)
    (hs : ∀ x, foldedSetIterable iter X.env x = pure x := by intro _; rfl) :
    PS X (.Assign [.Name y py] (.ListComp elt [⟨tg, iter, ifs, 0⟩] sc pos) spos) (tAsg (tCompN xs.length ix wi g tc te) (gName j)) := by
  intro pins s σ H D I h
  obtain ⟨cl, hclos, hcl, hhas⟩ := comp_closure I.ok S
  rw [exec_Assign_Name_used _ _ _ _ hsw]
  refine wpAny_bind (wpAny_standAt (wpAny_bind ?_))
  show wpAny _ X.A (do let _ ← comprehension (.ListComp elt [⟨tg, iter, ifs, 0⟩] sc pos) sc X.env _ (newList []) false (eval iter X.env) (some (assign (.Name y py) X.env))) _ _ s
  refine wpAny_bind (wpAny_mono (wpAny_comprehension_free (use := some (assign (.Name y py) X.env)) (Q := fun _ s' => SP X pins D .next s') rfl hs hclos S.kind S.names
    (thn (hi pins s σ H _ I h) fun v s1 h1 => thn h1 fun itv s2 h2 => ?_)) (fun _ s' hq => wpAny_pure (wpAny_pure hq)) fun _ _ e => e)
  obtain ⟨it, fp, tn, J, H2, e, I2, T, st2, f2, hq⟩ := h2
  subst e
  refine compN_block (Q := fun x H1 => gName j x σ H1 D.nx) (RR := fun acc C => compPost (model X.prog X.w) X.A X.xe (some (assign (.Name y py) X.env)) (fun _ s' => SP X pins D .next s') acc C) hc S I2 hcl hhas T st2 f2 (fun C s H => hin cl C s H fp) hq fun acc C f s' h => ?_
  obtain ⟨p, H', m, rfl, hm, I', ⟨g0, g1, g2, g3, g4, g5⟩, q⟩ := h
  show wpAny _ X.A (assign (.Name y py) X.env (.ref p)) _ _ _
  refine wpAny_assign_Name (store_ok2 I' hN hj hy (show RelV (.ref p) (.ref p) from rfl) (fun s'' I'' ⟨c, hsb, hcc⟩ => ?_) hf)
  have hne : C ≠ c := by
    rcases hcc with z | z
    · rw [z]; exact g1
    · exact Ne.symm (g4 _ _ z)
  exact ⟨m, hm.sameBut hsb hne, fun h' hb => ⟨_, H', I''.turned (t' := s''.toks) (fun b o hne e => (hb.2 b hne).trans e) g0 g1 g3 g4 g5, q⟩⟩
end
structure WalksY (J : It) (n : Nat) (y : Nat → Hp → V → Hp → Prop) (H : Hp) : Prop where
  go : ∀ H' i, Same H H' → i < n → J.go i H'
  yld : ∀ H' i x H2, Same H H' → i < n → J.yld i H' x H2 → y i H' x H2
  stop : ∀ H', Same H H' → J.stop n H'
theorem Walks.y {J : It} {n : Nat} {f : Nat → V} {H : Hp} (w : Walks J n f H) : WalksY J n (fun i H' v H2 => H2 = H' ∧ v = f i) H := ⟨w.go, w.yld, w.stop⟩
theorem walks_enum {K : PySem.W.Frag} {a : Addr} {xs : List V} {H : Hp} (h : SqL K H a xs) : WalksY (Ite K a) xs.length (fun i H' v H2 => ∃ t, H' t = none ∧ v = .ref t ∧ H2 = upd H' t (.tup [.int i, xs.getD i .non])) H :=
  ⟨fun H' i e hi => ⟨xs, xs[i], e.seq h, by simp [hi]⟩, fun H' i x H2 e hi ⟨t, z, ht, hv, h2, hz⟩ => ⟨t, ht, hv, by
    have := hz xs (e.seq h)
    rw [h2]; simp [List.getD, this]⟩, fun H' e => ⟨xs, e.seq h, Nat.le_refl _⟩⟩
theorem compN_walk {own : Nat} {ix : List Nat} {g : TG} {tc : TT} {te : TE} {Q : Addr → Hp → Prop} {σ : St} {H : Hp} {J : It} {n : Nat} {y : Nat → Hp → V → Hp → Prop} (w : WalksY J n y H) (hn : n < sizeLine) (s : Nat → List (Option V)) (hs : ∀ i, (s i).length = own) (c : Nat → Bool) (R : Nat → V → Hp → Prop)
    (mono : ∀ i v H1 H2, Same H1 H2 → R i v H1 → R i v H2)
    (hg : ∀ i a H' v H2 (Kg : St → Hp → Prop), i < n → Same H H' → y i H' v H2 → a.length = own → (∀ H3, Same H' H3 → Kg (s i ++ ix.map fun j => (σ[j]?).join) H3) → g v (a ++ ix.map fun j => (σ[j]?).join) H2 Kg)
    (hc : ∀ i H' (Kc : Bool → Hp → Prop), i < n → Same H H' → (∀ H4, Same H' H4 → Kc (c i) H4) → tc (s i ++ ix.map fun j => (σ[j]?).join) H' Kc)
    (he : ∀ p i H' (Kc : VK), i < n → c i = true → H p = none → (∃ ys, H' p = some (.lst ys)) → Same H H' → (∀ v H5, Same H' H5 → R i v (hid H5 p) → Kc v H5) → te (s i ++ ix.map fun j => (σ[j]?).join) H' Kc)
    (q : ∀ p H' ys, H p = none → Same H H' → H' p = some (.lst ys) → Paired (fun i v => R i v (hid H' p)) ((List.range n).filter c) ys → Q p H') :
    ∀ p, H p = none → ∃ W : Nat → Nat → List V → St → Hp → Prop, (∃ m, W 0 m [] (embN own ix σ) (upd H p (.lst []))) ∧ ∀ i m ys σ' H', W i m ys σ' H' →
      (J.stop i H' ∧ Q p H') ∨ (J.go i H' ∧ ∀ x H2, J.yld i H' x H2 → g x σ' H2 fun σ2 H3 => tc σ2 H3 fun b H4 =>
        if b = true then te σ2 H4 fun v H5 => H5 p = some (.lst ys) ∧ ys.length < sizeLine ∧ ∃ m', m' < m ∧ W (i + 1) m' (ys ++ [v]) σ2 (upd H5 p (.lst (ys ++ [v])))
        else ∃ m', m' < m ∧ W (i + 1) m' ys σ2 H4) := by
  intro p hp
  have hidS : ∀ {H1 H2 : Hp}, Same H1 H2 → Same (hid H1 p) (hid H2 p) := fun {H1 H2} e b o z => by
    by_cases h : b = p
    · rw [h, hid_self] at z; cases z
    · rw [hid_ne h] at z ⊢; exact e b o z
  have hidU : ∀ {H1 : Hp} {o : HO}, Same (hid H1 p) (hid (upd H1 p o) p) := fun {H1 o} b u z => by
    by_cases h : b = p
    · rw [h, hid_self] at z; cases z
    · rw [hid_ne h] at z ⊢; rw [upd_ne h]; exact z
  refine ⟨fun i m ys σ' H' => m = n - i ∧ i ≤ n ∧ (∃ a, a.length = own ∧ σ' = a ++ ix.map fun j => (σ[j]?).join) ∧ Same H H' ∧ H' p = some (.lst ys) ∧ Paired (fun i v => R i v (hid H' p)) ((List.range i).filter c) ys,
    ⟨n, by simp, Nat.zero_le _, ⟨List.replicate own none, List.length_replicate, rfl⟩, same_new hp, upd_same, .nil⟩, ?_⟩
  rintro i m ys σ' H' ⟨rfl, hi, ⟨a, ha, rfl⟩, sm, hy, hl⟩
  by_cases hlt : i < n
  · refine .inr ⟨w.go H' i sm hlt, fun x H2 yl => ?_⟩
    have hlen : ys.length ≤ i := by
      rw [← Paired.length hl]
      exact Nat.le_trans (List.length_filter_le _ _) (by simp)
    refine hg i a H' x H2 _ hlt sm (w.yld H' i x H2 sm hlt yl) ha fun H3 s3 => ?_
    refine hc i H3 _ hlt (sm.trans s3) fun H4 s4 => ?_
    have sm4 := (sm.trans s3).trans s4
    have hy4 := s4 _ _ (s3 _ _ hy)
    have step : (List.range (i + 1)).filter c = (List.range i).filter c ++ (if c i = true then [i] else []) := by
      rw [List.range_succ, List.filter_append]
      congr 1
      by_cases h : c i = true <;> simp [h]
    have hl4 : Paired (fun i v => R i v (hid H4 p)) ((List.range i).filter c) ys := Paired.mapP hl fun _ _ z => mono _ _ _ _ (hidS (s3.trans s4)) z
    by_cases hci : c i = true
    · rw [hci, if_pos rfl]
      refine he p i H4 _ hlt hci hp ⟨ys, hy4⟩ sm4 fun v H5 s5 r5 => ⟨s5 _ _ hy4, by omega, n - (i + 1), by omega, rfl, hlt, ⟨s i, hs i, rfl⟩, (sm4.trans s5).new hp, upd_same, ?_⟩
      rw [step, if_pos hci]
      exact Paired.snoc (Paired.mapP hl4 fun _ _ z => mono _ _ _ _ ((hidS s5).trans hidU) z) (mono _ _ _ _ hidU r5)
    · have hcf : c i = false := by simpa using hci
      rw [hcf, if_neg Bool.false_ne_true]
      refine ⟨n - (i + 1), by omega, rfl, hlt, ⟨s i, hs i, rfl⟩, sm4, hy4, ?_⟩
      rw [step, if_neg hci, List.append_nil]
      exact hl4
  · have e : i = n := by omega
    subst e
    exact .inl ⟨w.stop H' sm, q p H' ys hp sm hy hl⟩
theorem hid_new {H : Hp} {p u : Addr} {o : HO} (h : ∃ ys, H p = some (.lst ys)) (hu : H u = none) : hid (upd H u o) p u = some o := by
  have n : u ≠ p := fun z => by
    obtain ⟨ys, e⟩ := h
    rw [← z, hu] at e
    cases e
  rw [hid_ne n, upd_same]
theorem for_walkY {J : It} {n : Nat} {y : Nat → Hp → V → Hp → Prop} {H0 : Hp} (w : WalksY J n y H0) {g : TG} {tb : TS} {D : Ends} {σ : St} {H : Hp} (Pv : Nat → St → Hp → Prop) (h0 : Pv 0 σ H) (hk : ∀ i σ H, Pv i σ H → Same H0 H)
    (hs : ∀ i σ H v H', i < n → Pv i σ H → y i H v H' → g v σ H' fun σ2 H2 => tb { D with nx := Pv (i + 1), ct := Pv (i + 1), bk := D.nx } σ2 H2) (hd : ∀ σ H, Pv n σ H → D.nx σ H) :
    ∃ W : Nat → Nat → St → Hp → Prop, (∃ m, W 0 m σ H) ∧ ∀ i m σ H, W i m σ H →
      (J.stop i H ∧ D.nx σ H) ∨ (J.go i H ∧ ∃ N : St → Hp → Prop, (∀ σ' H', N σ' H' → ∃ m', m' < m ∧ W (i + 1) m' σ' H') ∧ ∀ x H', J.yld i H x H' → g x σ H' fun σ2 H2 => tb { D with nx := N, ct := N, bk := D.nx } σ2 H2) := by
  refine ⟨fun i m σ H => m = n - i ∧ i ≤ n ∧ Pv i σ H, ⟨n, by simp, Nat.zero_le _, h0⟩, ?_⟩
  rintro i m σ H ⟨rfl, hi, p⟩
  have sm := hk i σ H p
  by_cases hlt : i < n
  · exact .inr ⟨w.go H i sm hlt, Pv (i + 1), fun σ' H' p' => ⟨n - (i + 1), by omega, rfl, hlt, p'⟩, fun x H' yl => hs i σ H x H' hlt p (w.yld H i x H' sm hlt yl)⟩
  · have e : i = n := by omega
    subst e
    exact .inl ⟨w.stop H sm, hd σ H p⟩
namespace Rd
section
variable {σ : St} {H : Hp} {Q : VK} {D : Ends} {K : PySem.W.Frag}
theorem compNE {n : Nat} {ix : List Nat} {wi : TI} {g : TG} {tc : TT} {te : TE} (h : wi σ H fun J H1 => ∀ p, H1 p = none →
  ∃ W : Nat → Nat → List V → St → Hp → Prop, (∃ m, W 0 m [] (embN n ix σ) (upd H1 p (.lst []))) ∧ ∀ i m ys σ' H', W i m ys σ' H' →
    (J.stop i H' ∧ Q (.ref p) H') ∨ (J.go i H' ∧ ∀ x H2, J.yld i H' x H2 → g x σ' H2 fun σ2 H3 => tc σ2 H3 fun b H4 =>
      if b = true then te σ2 H4 fun v H5 => H5 p = some (.lst ys) ∧ ys.length < sizeLine ∧ ∃ m', m' < m ∧ W (i + 1) m' (ys ++ [v]) σ2 (upd H5 p (.lst (ys ++ [v])))
      else ∃ m', m' < m ∧ W (i + 1) m' ys σ2 H4)) : tCompN n ix wi g tc te σ H Q := h
theorem ienum {ts : TA} {R : It → Hp → Prop} (h : ts σ H fun vs H1 => ∃ a, vs = [.ref a] ∧ (∃ xs, SqL K H1 a xs) ∧ R (Ite K a) H1) : iEnum K ts σ H R := h
theorem ienum2 {a : Addr} {xs : List V} {G : Addr → Prop} (h : SqL K H a xs) (q : G a) : ∃ a', [V.ref a] = [.ref a'] ∧ (∃ xs, SqL K H a' xs) ∧ G a' := ⟨a, rfl, ⟨xs, h⟩, q⟩
theorem dnew (h : ∀ p, H p = none → Q (.ref p) (upd H p (.dK []))) : tDNewK σ H Q := h
theorem dinS {a : Addr} {kvs : List (Key × V)} {x : Str} (h : H a = some (.dK kvs)) (q : Q (.bl (valV kvs (Sum.inr x)).isSome) H) : rDIn (.str x) (.ref a) H Q := ⟨a, _, rfl, DGet.k (k := Sum.inr x) h, q⟩
theorem dninI {a : Addr} {kvs : List (Key × V)} {x : Int} (h : H a = some (.dK kvs)) (q : Q (.bl (!(valV kvs (Sum.inl x)).isSome)) H) : rDNotIn (.int x) (.ref a) H Q := ⟨a, _, rfl, DGet.k (k := Sum.inl x) h, q⟩
theorem dgetI {a : Addr} {kvs : List (Key × V)} {x : Int} {v : V} (h : H a = some (.dK kvs)) (e : valV kvs (Sum.inl x) = some v) (q : Q v H) : rIxD (.ref a) (.int x) H Q := ⟨a, v, rfl, by rw [← e]; exact DGet.k (k := Sum.inl x) h, q⟩
theorem dsetS {a : Addr} {kvs : List (Key × V)} {x : Str} {v : V} {Q : Hp → Prop} (h : H a = some (.dK kvs)) (hl : kvs.length < sizeLine) (q : Q (upd H a (.dK (putK kvs (Sum.inr x) v)))) : rSetD (.ref a) (.str x) v H Q := ⟨a, _, rfl, DPut.k (k := Sum.inr x) h hl, q⟩
theorem dsetI {a : Addr} {kvs : List (Key × V)} {x : Int} {v : V} {Q : Hp → Prop} (h : H a = some (.dK kvs)) (hl : kvs.length < sizeLine) (q : Q (upd H a (.dK (putK kvs (Sum.inl x) v)))) : rSetD (.ref a) (.int x) v H Q := ⟨a, _, rfl, DPut.k (k := Sum.inl x) h hl, q⟩
theorem dlen {a : Addr} {kvs : List (Key × V)} (h : H a = some (.dK kvs)) (q : Q (.int kvs.length) H) : rLenD [.ref a] H Q := ⟨a, kvs, rfl, h, q⟩
theorem dlist {a : Addr} {kvs : List (Key × V)} (h : H a = some (.dK kvs)) (q : ∀ l, H l = none → Q (.ref l) (upd H l (.lst (kvs.map fun kv => kV kv.1)))) : rListD [.ref a] H Q := ⟨a, kvs, rfl, h, q⟩
theorem augS {to ti te : TE} {tget : V → V → Hp → VK → Prop} {tip : TIp} {tset : TSet} (h : to σ H fun o H1 => ti σ H1 fun i H2 => tget o i H2 fun x H3 => te σ H3 fun y H4 => tip x y H4 fun z H5 => tset o i z H5 fun H6 => D.nx σ H6) : tAugS to ti te tget tip tset D σ H := h
theorem ipi {f : Int → Int → Int} {i j : Int} (q : Q (.int (f i j)) H) : ipI f (.int i) (.int j) H Q := ⟨i, j, rfl, rfl, q⟩
end
end Rd
section
variable {X : Cx}
theorem get_list : PGet X (rIxL X.K) := by
  intro pins s σ H o i ov iv Q I ro ri h
  obtain ⟨p, xs, k, z, rfl, rfl, hq, he, q⟩ := h
  cases ro
  obtain ⟨t, rfl⟩ := ri
  obtain ⟨its, r, pl, hz⟩ := I.list hq
  obtain ⟨j, h1, h2, h3, h4, h5⟩ := atI_get he
  obtain ⟨w, ew, rw'⟩ := r.get h2
  have hl := r.length
  have hn := line63
  have fin : EP X pins σ Q w s := ⟨z, H, I, rw', q⟩
  by_cases h0 : 0 ≤ k
  · have hj : k.toNat = j := by
      rw [seqIndex_of h0 h5] at h1
      exact Option.some.inj h1
    exact wpAny_getItem_list pl.isList h0 (by omega) (by rw [hj]; simpa using ew) fin
  · have hj : (k + (its.toArray.size : Int)).toNat = j := by
      rw [seqIndex_neg (by omega) h4] at h1
      rw [List.size_toArray, ← hl]
      exact Option.some.inj h1
    exact wpAny_getItem_list_neg pl.isList (by omega) (by rw [List.size_toArray] <;> omega) (by omega) (by rw [hj]; simpa using ew) fin
theorem get_listK {K : PySem.W.Frag} (e : X.K = K) : PGet X (rIxL K) := e ▸ get_list
end
end L2
namespace L2
open PySem PySem.Spec PyProof.Rows
section
variable {X : Cx} {K : PySem.W.Frag}
end
namespace Rd
section
variable {σ : St} {H : Hp} {Q : VK} {K : PySem.W.Frag}
end
end Rd
end L2
namespace L2
open PySem PySem.Spec PyProof.Rows
section
variable {X : Cx}
def rUpdD : V → List V → Hp → VK → Prop := fun x vs H Q => ∃ a b kvs more, x = .ref a ∧ vs = [.ref b] ∧ a ≠ b ∧ H a = some (.dK kvs) ∧ H b = some (.dK more) ∧ kvs.length + more.length ≤ sizeLine ∧ Q .non (upd H a (.dK (mergeK kvs more)))
theorem mt_updD : MtR X "dict.update" rUpdD := by
  intro pins s σ H x xs v us Q I rx rs h
  obtain ⟨a, b, kvs, more, rfl, rfl, ne, ha, hb, hl, q⟩ := h
  cases rx
  obtain ⟨u, rfl, ru⟩ := vals1 rs
  cases ru
  obtain ⟨z, hd, vs, rel, dd⟩ := dk_of I.hok ha
  obtain ⟨z2, hd2, rs2, rel2, dd2⟩ := dk_of I.hok hb
  refine call_meetsIn PySem.F.slot_dict_update dd.typeIs PySem.F.entry_dict_update (PySem.F.args_dict_update_2 _ _) (meets_dict_update (mixKind X.prog X.w) a b ne hd2) ⟨vs, rs2, dd, dd2, by rw [← rel.length, ← rel2.length]; exact hl, fun h' dd' _ hs => ?_⟩
  have hm := length_mergeK more kvs
  have he : ∃ q, h'.get? a = some q := let ⟨q, _, _, hq, _⟩ := dd'; ⟨q, hq⟩
  exact ⟨.non, _, d_write (t' := s.toks) I (by rw [ha]; exact True.intro) hs he (dk_new (by omega) hd (rel2.merge rel) dd'), rfl, q⟩
end
end L2
namespace L2
open PySem PySem.Spec PyProof.Rows
section
variable {X : Cx}
end
theorem comp_lists {own : Nat} {ix : List Nat} {g : TG} {tc : TT} {Q : Addr → Hp → Prop} {σ : St} {H : Hp} {J : It} {n : Nat} {y : Nat → Hp → V → Hp → Prop} (w : WalksY J n y H) (hn : n < sizeLine) (s : Nat → List (Option V)) (hs : ∀ i, (s i).length = own)
    (hg : ∀ i a H' v H2 (Kg : St → Hp → Prop), i < n → Same H H' → y i H' v H2 → a.length = own → (∀ H3, Same H' H3 → Kg (s i ++ ix.map fun j => (σ[j]?).join) H3) → g v (a ++ ix.map fun j => (σ[j]?).join) H2 Kg)
    (hc : ∀ i H' (Kc : Bool → Hp → Prop), i < n → Same H H' → Kc true H' → tc (s i ++ ix.map fun j => (σ[j]?).join) H' Kc)
    (q : ∀ p H' (ia : List Addr), H p = none → Same H H' → H' p = some (.lst (ia.map V.ref)) → ia.length = n → ia.Nodup → (∀ x ∈ ia, H x = none ∧ x ≠ p ∧ H' x = some (.lst [])) → Q p H') :
    ∀ p, H p = none → ∃ W : Nat → Nat → List V → St → Hp → Prop, (∃ m, W 0 m [] (embN own ix σ) (upd H p (.lst []))) ∧ ∀ i m ys σ' H', W i m ys σ' H' →
      (J.stop i H' ∧ Q p H') ∨ (J.go i H' ∧ ∀ x H2, J.yld i H' x H2 → g x σ' H2 fun σ2 H3 => tc σ2 H3 fun b H4 =>
        if b = true then tLst tNil σ2 H4 fun v H5 => H5 p = some (.lst ys) ∧ ys.length < sizeLine ∧ ∃ m', m' < m ∧ W (i + 1) m' (ys ++ [v]) σ2 (upd H5 p (.lst (ys ++ [v])))
        else ∃ m', m' < m ∧ W (i + 1) m' ys σ2 H4) := by
  intro p hp
  refine ⟨fun i m ys σ' H' => m = n - i ∧ i ≤ n ∧ (∃ a, a.length = own ∧ σ' = a ++ ix.map fun j => (σ[j]?).join) ∧ Same H H' ∧ ∃ ia : List Addr, ys = ia.map V.ref ∧ H' p = some (.lst (ia.map V.ref)) ∧ ia.length = i ∧ ia.Nodup ∧ ∀ x ∈ ia, H x = none ∧ x ≠ p ∧ H' x = some (.lst []),
    ⟨n, by simp, Nat.zero_le _, ⟨List.replicate own none, List.length_replicate, rfl⟩, same_new hp, [], rfl, upd_same, rfl, .nil, by simp⟩, ?_⟩
  rintro i m ys σ' H' ⟨rfl, hi, ⟨a, ha, rfl⟩, sm, ia, rfl, hy, hil, hnd, hia⟩
  by_cases hlt : i < n
  · refine .inr ⟨w.go H' i sm hlt, fun x H2 yl => ?_⟩
    refine hg i a H' x H2 _ hlt sm (w.yld H' i x H2 sm hlt yl) ha fun H3 s3 => ?_
    refine hc i H3 _ hlt (sm.trans s3) ?_
    rw [if_pos rfl]
    show (0 : Nat) ≤ sizeLine ∧ _
    refine ⟨Nat.zero_le _, fun u hu => ?_⟩
    have sm3 := sm.trans s3
    have hy3 := s3 _ _ hy
    have nup : u ≠ p := fun z => by rw [z, hy3] at hu; cases hu
    have s4 : Same H3 (upd H3 u (.lst [])) := same_new hu
    refine ⟨s4 _ _ hy3, by rw [List.length_map]; omega, n - (i + 1), by omega, rfl, hlt, ⟨s i, hs i, rfl⟩, (sm3.trans s4).new hp, ia ++ [u], by simp, by rw [upd_same]; simp, by simp [hil], ?_, fun x hx => ?_⟩
    · refine List.nodup_append.mpr ⟨hnd, by simp, fun x hx z hz => ?_⟩
      rw [List.mem_singleton.mp hz]
      intro e
      have := s3 _ _ (hia x hx).2.2
      rw [e, hu] at this
      cases this
    · rcases List.mem_append.mp hx with z | z
      · obtain ⟨h1, h2, h3⟩ := hia x z
        exact ⟨h1, h2, by rw [upd_ne h2]; exact s4 _ _ (s3 _ _ h3)⟩
      · rw [List.mem_singleton.mp z]
        refine ⟨?_, nup, by rw [upd_ne nup, upd_same]⟩
        cases e : H u with
        | none => rfl
        | some o => rw [sm3 _ _ e] at hu; cases hu
  · have e : i = n := by omega
    subst e
    exact .inl ⟨w.stop H' sm, q p H' ia hp sm hy hil hnd hia⟩
namespace Rd
section
variable {H : Hp} {Q : VK}
theorem updD {a b : Addr} {kvs more : List (Key × V)} (ne : a ≠ b) (ha : H a = some (.dK kvs)) (hb : H b = some (.dK more)) (hl : kvs.length + more.length ≤ sizeLine) (q : Q .non (upd H a (.dK (mergeK kvs more)))) : rUpdD (.ref a) [.ref b] H Q := ⟨a, b, kvs, more, rfl, rfl, ne, ha, hb, hl, q⟩
end
end Rd
end L2
namespace L2
open PySem PySem.Spec PyProof.Rows
section
variable {X : Cx} {pins : List (Addr × Obj)} {σ : St} {H : Hp} {s : Shared}
theorem Inv.freeze {a : Addr} {kvs : List (Key × V)} (I : Inv X pins σ H s) (e : Rd H a (.dK kvs)) : ∃ o, s.heap.get? a = some o ∧ Inv X pins σ (upd H a (.frz o (.dK kvs))) s := by
  have ok : ObjOk X.prog X.w H s.heap a (.dK kvs) := e.ok I.hok
  rcases e with e | ⟨o, e⟩
  · obtain ⟨_, _, vs, _, dd⟩ := dk_of I.hok e
    obtain ⟨ep, hat⟩ := dd.dictAt
    obtain ⟨o, es, ho, _⟩ := id hat
    exact ⟨o, ho, I.write (x := a) (e := a) (o := .frz o (.dK kvs)) (t' := s.toks) (by rw [e]; exact True.intro) (.inl rfl) (fun b u _ q => q) ⟨o, ho⟩ ⟨ho, ok⟩⟩
  · have hx : upd H a (.frz o (.dK kvs)) = H := by
      funext b
      by_cases z : b = a
      · rw [z, upd_same, e]
      · rw [upd_ne z]
    exact ⟨o, (show ObjOk X.prog X.w H s.heap a (.frz o (.dK kvs)) from I.hok a _ e).1, by rw [hx]; exact I⟩
theorem KV.fwd {kvs : List (Key × V)} {vs : List (Key × Value)} (r : KV kvs vs) : ∀ {j : Nat} {kv : Key × V}, kvs[j]? = some kv → ∃ u, vs[j]? = some (kv.1, u) ∧ RelV kv.2 u := by
  unfold KV at r
  induction r with
  | nil => intro j kv e; simp at e
  | @cons p q ps qs h t ih =>
    intro j kv e
    cases j with
    | zero =>
      simp at e
      subst e
      obtain ⟨q1, q2⟩ := q
      exact ⟨q2, by simp [h.1], h.2⟩
    | succ j =>
      obtain ⟨u, h1, h2⟩ := ih (j := j) (kv := kv) (by simpa using e)
      exact ⟨u, by simpa using h1, h2⟩
end
def Itv (d : Addr) (o : Obj) (kvs : List (Key × V)) : It :=
  ⟨fun i H => H d = some (.frz o (.dK kvs)) ∧ i < kvs.length, fun i H x H' => H' = H ∧ ∃ kv, kvs[i]? = some kv ∧ x = kv.2, fun i H => H d = some (.frz o (.dK kvs)) ∧ kvs.length ≤ i⟩
def Itp (d : Addr) (o : Obj) (kvs : List (Key × V)) : It :=
  ⟨fun i H => H d = some (.frz o (.dK kvs)) ∧ i < kvs.length, fun i H x H' => ∃ t kv, kvs[i]? = some kv ∧ H t = none ∧ x = .ref t ∧ H' = upd H t (.tup [kV kv.1, kv.2]), fun i H => H d = some (.frz o (.dK kvs)) ∧ kvs.length ≤ i⟩
theorem itemiter_entry : entryFor table "dict_itemiterator.__iter__" = some Builtin.«dict_keyiterator.__iter__» := entryFor_alias (id' := "dict_keyiterator.__iter__") (by kernel_rfl) rfl (by decide +kernel) (by kernel_rfl)
theorem itemiter_self {P : Program} {w : World} {A : Around} {E : Value → Shared → Prop} {s : Shared} {it d : Addr} {i n ep : Nat} {ok ov : Value} {Q : Value → Shared → Prop} (hit : IsItemIter s.heap it d i n ep ok ov) (h : Q (.ref it) s) : wpAny (model P w) A (pyIter (.ref it)) Q E s := by
  have ty : s.TypeIs (.ref it) "dict_itemiterator" := ⟨_, hit, rfl⟩
  refine wpAny_pyIter_slot ty PySem.F.slot_dict_itemiterator_iter (wpAny_call_entry PySem.F.slot_dict_itemiterator_iter ty itemiter_entry (show wpAny _ _ (ret (Value.ref it)) _ _ s from wpAny_pure ⟨_, rfl, "dict_itemiterator", _, ty, PySem.F.slot_dict_itemiterator_next.lookup, h⟩) (PySem.F.args_dict_itemiterator_iter_1 _))
section
variable {P : Program} {w : World} {K : PySem.W.Frag}
theorem turn_vals {tg : Expr} (d it : Addr) (o : Obj) (kvs : List (Key × V)) (vs : List (Key × Value)) (ep : Nat) (rel : KV kvs vs) (hd : ∀ h : Heap, h.get? d = some o → h.DictAt (mixKind P w) d vs ep) : Turn P w K tg (Itv d o kvs) [it] it (fun i h => h.IsValIter it d i vs.length ep) where
  mem := by simp
  obj := fun i h st b hb => by
    have e : b = it := by simpa using hb
    subst e
    obtain ⟨o, e, c, dd⟩ := st
    exact ⟨o, e, fun v z => by rw [dd] at z; cases z⟩
  keep := fun i h h' st k => st.at fun o q => k it (by simp) o q
  item := by
    intro X hP hw hK hc i pins s σ H E I hf st hg
    subst hP hw hK
    obtain ⟨he, hi⟩ := hg
    have ho := (show ObjOk X.prog X.w H s.heap d (.frz o (.dK kvs)) from I.hok d _ he).1
    obtain ⟨f0, f1, f2, f3, f4, f5⟩ := hf it (by simp)
    obtain ⟨u, hu, ru⟩ := rel.fwd (List.getElem?_eq_getElem hi)
    refine wpAny_pyNext_values_item st (hd _ ho) hu fun h' st' sb => ?_
    have I1 : Inv X pins σ H { s with heap := h', toks := s.toks } := I.turned (t' := s.toks) (fun b q hb e => (sb.2 b hb).trans e) f0 f1 f3 f4 f5
    obtain ⟨q, e, c, dd⟩ := id st'
    exact ⟨_, rfl, go_of (s := { s with heap := h', toks := s.toks }) e c dd (by decide) ⟨_, H, I1, ru, ⟨rfl, kvs[i], List.getElem?_eq_getElem hi, rfl⟩, st', fun b hb => (hf b hb).1⟩⟩
  done := by
    intro X hP hw hK hc i pins s σ H E I hf st hg
    subst hP hw hK
    obtain ⟨he, hi⟩ := hg
    have ho := (show ObjOk X.prog X.w H s.heap d (.frz o (.dK kvs)) from I.hok d _ he).1
    obtain ⟨f0, f1, f2, f3, f4, f5⟩ := hf it (by simp)
    exact wpAny_pyNext_values_end (I.ok.hd hc) st (hd _ ho) (List.getElem?_eq_none (by rw [← rel.length]; exact hi)) fun h' eb => ⟨rfl, I.turned (t' := s.toks) (fun b q hb e => eb b q hb e) f0 f1 f3 f4 f5⟩
  self := fun _ _ _ _ _ st h => wpAny_pyIter_valiter st h
theorem turn_pairs {elts : List Expr} {k1 : Nat} {pos : Pos} (d it : Addr) (o : Obj) (kvs : List (Key × V)) (vs : List (Key × Value)) (ep : Nat) (rel : KV kvs vs) (hd : ∀ h : Heap, h.get? d = some o → h.DictAt (mixKind P w) d vs ep) :
    Turn P w K (.Tuple elts k1 pos) (Itp d o kvs) [it] it (fun i h => ∃ ok ov, IsItemIter h it d i vs.length ep ok ov) where
  mem := by simp
  obj := fun i h st b hb => by
    obtain ⟨ok, ov, e⟩ := st
    rw [List.mem_singleton.mp hb]
    exact ⟨_, e, fun v z => by
      have z' : Data.fields _ = Data.cell v := z
      cases z'⟩
  keep := fun i h h' st k => let ⟨ok, ov, e⟩ := st; ⟨ok, ov, k it (by simp) _ e⟩
  item := by
    intro X hP hw hK hc i pins s σ H E I hf st hg
    subst hP hw hK
    obtain ⟨he, hi⟩ := hg
    obtain ⟨ok, ov, hit⟩ := st
    have ho := (show ObjOk X.prog X.w H s.heap d (.frz o (.dK kvs)) from I.hok d _ he).1
    obtain ⟨u, hu, ru⟩ := rel.fwd (List.getElem?_eq_getElem hi)
    refine wpAny_pyNext_items_item hit (hd _ ho) hu fun key h' hkey hout hT hsz hk => ?_
    have hfr := I.hok.fresh (Nat.le_refl s.heap.objs.size)
    have hilt : it < s.heap.objs.size := Heap.lt_size hit
    refine ⟨_, rfl, wpAny_letOwnedTupleGo_items hout fun h2 he2 hs2 => ?_⟩
    have hT2 : h2.get? s.heap.objs.size = some { cls := .type "tuple", data := .seq #[key, u] } := hs2.extBut _ _ (Nat.ne_of_gt hilt) hT
    have I1 : Inv X pins σ (upd H s.heap.objs.size (.tup [kV kvs[i].1, kvs[i].2])) { s with heap := h2, toks := s.toks } :=
      I.turnedNew (fp := [it]) (fun b q hb e => by
        have n1 : b ≠ it := fun z => hb (by simp [z])
        exact hs2.extBut b q n1 (hk b q n1 e)) hf (Nat.le_refl _) ⟨by show 2 ≤ sizeLine; decide, [key, u], .cons (is_kV hkey) (.cons ru .nil), _, hT2, rfl, _, rfl⟩
    refine ⟨.ref s.heap.objs.size, _, I1, rfl, ⟨_, kvs[i], List.getElem?_eq_getElem hi, hfr, rfl, rfl⟩, ⟨_, _, he2⟩, fun b hb => ?_⟩
    have nb : b ≠ s.heap.objs.size := by rw [List.mem_singleton.mp hb]; exact Nat.ne_of_lt hilt
    rw [upd_ne nb]
    exact (hf b hb).1
  done := by
    intro X hP hw hK hc i pins s σ H E I hf st hg
    subst hP hw hK
    obtain ⟨he, hi⟩ := hg
    obtain ⟨ok, ov, hit⟩ := st
    have ho := (show ObjOk X.prog X.w H s.heap d (.frz o (.dK kvs)) from I.hok d _ he).1
    obtain ⟨f0, f1, f2, f3, f4, f5⟩ := hf it (by simp)
    exact wpAny_pyNext_items_end (I.ok.hd hc) hit (hd _ ho) (List.getElem?_eq_none (by rw [← rel.length]; exact hi)) fun h' eb => ⟨rfl, I.turned (t' := s.toks) (fun b q hb e => eb b q hb e) f0 f1 f3 f4 f5⟩
  self := fun _ _ _ _ _ st h => by
    obtain ⟨ok, ov, e⟩ := st
    exact itemiter_self e h
end
section
variable {X : Cx} {tg : Expr}
def iVals (td : TE) : TI := fun σ H R => td σ H fun x H1 => ∃ a kvs, x = .ref a ∧ Rd H1 a (.dK kvs) ∧ ∀ o, R (Itv a o kvs) (upd H1 a (.frz o (.dK kvs)))
def iPairs (td : TE) : TI := fun σ H R => td σ H fun x H1 => ∃ a kvs, x = .ref a ∧ Rd H1 a (.dK kvs) ∧ ∀ o, R (Itp a o kvs) (upd H1 a (.frz o (.dK kvs)))
theorem pi_vals {d : Expr} {td : TE} {apos cpos : Pos} (hd : PE X d td) (hbase : attributeBase d "values" X.env (eval d X.env) = eval d X.env := by rfl) (hline : (apos.endLine == cpos.line) = true := by rfl) :
    PI X tg (.Call (.Attribute d "values" apos) [] [] cpos) (iVals td) := by
  intro pins s σ H R I h
  refine wpAny_Call_method0_late hbase hline (thn (hd pins s σ H _ I h) fun v s1 ⟨x, H1, I1, r1, q1⟩ => ?_)
  obtain ⟨a, kvs, rfl, hr, q⟩ := q1
  cases r1
  obtain ⟨z, hsm, vs, rel, dd⟩ := dk_rd I1.hok hr
  obtain ⟨ep, hat⟩ := dd.dictAt
  obtain ⟨o, ho, I2⟩ := I1.freeze hr
  have keepd : ∀ h : Heap, h.get? a = some o → h.DictAt (mixKind X.prog X.w) a vs ep := fun h e => hat.at' fun o' e' => by rw [ho] at e'; cases e'; exact e
  refine ⟨"dict", "dict.values", PySem.F.plainAttrs_dict, PySem.F.slot_dict_values, PySem.F.type_dict_values, dd.typeIs, dd.mapOf.noDict, Calls.callWith_builtin rfl (PySem.evalArgs_none ?_)⟩
  refine call_meetsIn PySem.F.slot_dict_values dd.typeIs PySem.F.entry_dict_values (PySem.F.args_dict_values_1 _) (meets_dict_values (mixKind X.prog X.w) a hsm) ⟨⟨vs, dd⟩, ?_⟩
  refine wpAny_pyIter_values (knd := mixKind X.prog X.w) (d := a) (kvs := vs) (ep := ep) ⟨_, Heap.get?_push_size _ rfl, rfl, rfl⟩ (keepd _ (Heap.get?_push_of_some _ ho)) ?_
  have I3 : Inv X pins σ (upd H1 a (.frz o (.dK kvs))) { s1 with heap := s1.heap.push { cls := .type "dict_values", data := .fields #[.ref a] } } := I2.kept (t' := s1.toks) fun b o e => Heap.get?_push_of_some _ e
  refine ⟨(s1.heap.push { cls := .type "dict_values", data := .fields #[.ref a] }).objs.size, [(s1.heap.push { cls := .type "dict_values", data := .fields #[.ref a] }).objs.size], _, _, _, rfl, I3.kept (t' := s1.toks) fun b o e => Heap.get?_push_of_some _ e, turn_vals a _ o kvs vs ep rel keepd, ⟨_, Heap.get?_push_size _ rfl, rfl, rfl⟩, fun b hb => ?_, q o⟩
  rw [List.mem_singleton.mp hb]
  exact I3.fpOk (Nat.le_refl _) (I3.hok.fresh (Nat.le_refl _))
theorem pi_pairs {elts : List Expr} {k1 : Nat} {tpos : Pos} {d : Expr} {td : TE} {apos cpos : Pos} (hd : PE X d td) (hbase : attributeBase d "items" X.env (eval d X.env) = eval d X.env := by rfl) (hline : (apos.endLine == cpos.line) = true := by rfl) :
    PI X (.Tuple elts k1 tpos) (.Call (.Attribute d "items" apos) [] [] cpos) (iPairs td) := by
  intro pins s σ H R I h
  refine wpAny_Call_method0_late hbase hline (thn (hd pins s σ H _ I h) fun v s1 ⟨x, H1, I1, r1, q1⟩ => ?_)
  obtain ⟨a, kvs, rfl, hr, q⟩ := q1
  cases r1
  obtain ⟨z, hsm, vs, rel, dd⟩ := dk_rd I1.hok hr
  obtain ⟨ep, hat⟩ := dd.dictAt
  obtain ⟨o, ho, I2⟩ := I1.freeze hr
  have keepd : ∀ h : Heap, h.get? a = some o → h.DictAt (mixKind X.prog X.w) a vs ep := fun h e => hat.at' fun o' e' => by rw [ho] at e'; cases e'; exact e
  refine ⟨"dict", "dict.items", PySem.F.plainAttrs_dict, PySem.F.slot_dict_items, PySem.F.type_dict_items, dd.typeIs, dd.mapOf.noDict, Calls.callWith_builtin rfl (PySem.evalArgs_none ?_)⟩
  refine call_meetsIn PySem.F.slot_dict_items dd.typeIs PySem.F.entry_dict_items (PySem.F.args_dict_items_1 _) (meets_dict_items (mixKind X.prog X.w) a hsm) ⟨⟨vs, dd⟩, ?_⟩
  refine wpAny_pyIter_items (knd := mixKind X.prog X.w) (d := a) (kvs := vs) (ep := ep) ⟨_, Heap.get?_push_size _ rfl, rfl, rfl⟩ (keepd _ (Heap.get?_push_of_some _ ho)) ?_
  have I3 : Inv X pins σ (upd H1 a (.frz o (.dK kvs))) { s1 with heap := s1.heap.push { cls := .type "dict_items", data := .fields #[.ref a] } } := I2.kept (t' := s1.toks) fun b o e => Heap.get?_push_of_some _ e
  refine ⟨(s1.heap.push { cls := .type "dict_items", data := .fields #[.ref a] }).objs.size, [(s1.heap.push { cls := .type "dict_items", data := .fields #[.ref a] }).objs.size], _, _, _, rfl, I3.kept (t' := s1.toks) fun b o e => Heap.get?_push_of_some _ e, turn_pairs a _ o kvs vs ep rel keepd, ⟨_, _, Heap.get?_push_size _ rfl⟩, fun b hb => ?_, q o⟩
  rw [List.mem_singleton.mp hb]
  exact I3.fpOk (Nat.le_refl _) (I3.hok.fresh (Nat.le_refl _))
end
namespace Rd
section
variable {σ : St} {H : Hp} {Q : VK}
theorem ivals {td : TE} {R : It → Hp → Prop} (h : td σ H fun x H1 => ∃ a kvs, x = .ref a ∧ L2.Rd H1 a (.dK kvs) ∧ ∀ o, R (Itv a o kvs) (upd H1 a (.frz o (.dK kvs)))) : iVals td σ H R := h
theorem ipairs {td : TE} {R : It → Hp → Prop} (h : td σ H fun x H1 => ∃ a kvs, x = .ref a ∧ L2.Rd H1 a (.dK kvs) ∧ ∀ o, R (Itp a o kvs) (upd H1 a (.frz o (.dK kvs)))) : iPairs td σ H R := h
theorem dgetR {a : Addr} {kvs : List (Key × V)} {x : Int} {v : V} (h : L2.Rd H a (.dK kvs)) (e : valV kvs (Sum.inl x) = some v) (q : Q v H) : rIxD (.ref a) (.int x) H Q := ⟨a, v, rfl, .inl ⟨kvs, Sum.inl x, h, rfl, e.symm⟩, q⟩
theorem dinR {a : Addr} {kvs : List (Key × V)} {x : Int} (h : L2.Rd H a (.dK kvs)) (q : Q (.bl (valV kvs (Sum.inl x)).isSome) H) : rDIn (.int x) (.ref a) H Q := ⟨a, _, rfl, .inl ⟨kvs, Sum.inl x, h, rfl, rfl⟩, q⟩
end
end Rd
theorem walks_vals {d : Addr} {o : Obj} {kvs : List (Key × V)} {H : Hp} (h : H d = some (.frz o (.dK kvs))) : WalksY (Itv d o kvs) kvs.length (fun i H' v H2 => H2 = H' ∧ ∃ kv, kvs[i]? = some kv ∧ v = kv.2) H :=
  ⟨fun H' i s hi => ⟨s _ _ h, hi⟩, fun _ _ _ _ _ _ y => y, fun H' s => ⟨s _ _ h, Nat.le_refl _⟩⟩
theorem walks_pairs {d : Addr} {o : Obj} {kvs : List (Key × V)} {H : Hp} (h : H d = some (.frz o (.dK kvs))) : WalksY (Itp d o kvs) kvs.length (fun i H' v H2 => ∃ t kv, kvs[i]? = some kv ∧ H' t = none ∧ v = .ref t ∧ H2 = upd H' t (.tup [kV kv.1, kv.2])) H :=
  ⟨fun H' i s hi => ⟨s _ _ h, hi⟩, fun _ _ _ _ _ _ y => y, fun H' s => ⟨s _ _ h, Nat.le_refl _⟩⟩
end L2
namespace L2
open PySem PySem.Spec PyProof.Rows
def Itw (K : PySem.W.Frag) (a : Addr) (n : Nat) : It :=
  ⟨fun i H => ∃ xs x, SqL K H a xs ∧ i < n ∧ xs[n - 1 - i]? = some x, fun i H x H' => H' = H ∧ ∀ xs, SqL K H a xs → xs[n - 1 - i]? = some x, fun i _ => i = n⟩
theorem turn_rev {P : Program} {w : World} {K : PySem.W.Frag} {tg : Expr} (a it : Addr) (n : Nat) : Turn P w K tg (Itw K a n) [it] it (fun i h => h.IsRevIter it a ((n : Int) - 1 - i)) where
  mem := by simp
  obj := fun i h st b hb => by
    have e : b = it := by simpa using hb
    subst e
    obtain ⟨o, e, c, d⟩ := st
    exact ⟨o, e, fun v z => by rw [d] at z; cases z⟩
  keep := fun i h h' st k => st.at fun o e => k it (by simp) o e
  item := by
    intro X hP hw hK hc i pins s σ H E I hf st hg
    subst hP hw hK
    obtain ⟨xs, x, hq, hin, hx⟩ := hg
    obtain ⟨its, rv, p, hz⟩ := I.list hq
    obtain ⟨u, hu, ru⟩ := rv.get hx
    obtain ⟨f0, f1, f2, f3, f4, f5⟩ := hf it (by simp)
    have ei : (n : Int) - 1 - (i : Int) = ((n - 1 - i : Nat) : Int) := by omega
    rw [ei] at st
    refine wpAny_pyNext_rev_item st p.isList (x := u) (by simpa using hu) fun h' st' sb => ?_
    have I1 : Inv X pins σ H { s with heap := h' } := I.turned (t' := s.toks) (fun b o hb e => (sb.2 b hb).trans e) f0 f1 f3 f4 f5
    have ej : ((n - 1 - i : Nat) : Int) - 1 = (n : Int) - 1 - ((i + 1 : Nat) : Int) := by omega
    rw [ej] at st'
    obtain ⟨o, e, c, d⟩ := id st'
    exact ⟨u, rfl, go_of (s := { s with heap := h' }) e c d (by decide) ⟨x, H, I1, ru, ⟨rfl, fun ys hy => by rw [I.list_inj hy hq]; exact hx⟩, st', fun b hb => (hf b hb).1⟩⟩
  done := by
    intro X hP hw hK hc i pins s σ H E I hf st hg
    subst hP hw hK
    obtain ⟨f0, f1, f2, f3, f4, f5⟩ := hf it (by simp)
    have hg' : i = n := hg
    have ei : (n : Int) - 1 - (i : Int) = -1 := by omega
    rw [ei] at st
    exact wpAny_pyNext_rev_end (I.ok.hd hc) st fun h' eb => ⟨rfl, I.turned (t' := s.toks) (fun b o hb e => eb b o hb e) f0 f1 f3 f4 f5⟩
  self := fun _ _ _ _ _ st h => wpAny_pyIter_revIter st h
section
variable {X : Cx}
def iRev (K : PySem.W.Frag) (ta : TA) : TI := fun σ H R => ta σ H fun vs H1 => ∃ a xs, vs = [.ref a] ∧ SqL K H1 a xs ∧ R (Itw K a xs.length) H1
theorem pi_rev {K : PySem.W.Frag} {a tg : Expr} {ta : TA} {p pos : Pos} (ek : X.K = K) (hg : Gl X "reversed") (hm : X.mg "reversed" = none) (ha : PA X [a] ta) (hs : starEach [a] X.env = [(false, eval a X.env)] := by rfl) :
    PI X tg (.Call (.Name "reversed" p) [a] [] pos) (iRev K ta) := by
  subst ek
  intro pins s σ H R I h
  refine Call_ (ld_blt I hg hm boot_reversed (PyProof.Rows.callWith_type1 (thn (ha pos pins s σ H _ I h) fun us s1 ⟨vs, H1, I1, r1, q1⟩ => ?_) hs rfl))
  obtain ⟨b, xs, rfl, hq, q⟩ := q1
  obtain ⟨u, rfl, ru⟩ := vals1 r1
  cases ru
  obtain ⟨its, rv, pl, hz⟩ := I1.list hq
  have hl := rv.length
  refine call_reversed_list pl.isList ?_
  have hit : (s1.heap.push (revObj b (((its.toArray.size : Nat) : Int) - 1))).IsRevIter s1.heap.objs.size b ((xs.length : Int) - 1 - ((0 : Nat) : Int)) := by
    refine ⟨_, Heap.get?_push_size _ rfl, rfl, ?_⟩
    show Data.fields #[Value.ref b, rawInt (((its.toArray.size : Nat) : Int) - 1)] = _
    rw [List.size_toArray, ← hl]
    simp
  refine wpAny_pyIter_revIter hit ?_
  refine ⟨s1.heap.objs.size, [s1.heap.objs.size], _, _, H1, rfl, I1.kept (t' := s1.toks) fun b o e => Heap.get?_push_of_some _ e, turn_rev b _ xs.length, hit, fun c hc => ?_, q⟩
  have e : c = s1.heap.objs.size := by simpa using hc
  subst e
  exact I1.fpOk (Nat.le_refl _) (I1.hok.fresh (Nat.le_refl _))
end
theorem walks_rev {K : PySem.W.Frag} {a : Addr} {xs : List V} {H : Hp} (h : SqL K H a xs) : Walks (Itw K a xs.length) xs.length (fun i => xs.reverse.getD i .non) H :=
  ⟨fun H' i e hi => ⟨xs, xs[xs.length - 1 - i], e.seq h, hi, by simp⟩, fun H' i x H2 e hi y => ⟨y.1, by
    have := y.2 xs (e.seq h)
    rw [List.getD, List.getElem?_reverse hi, this]
    rfl⟩, fun H' e => rfl⟩
namespace Rd
theorem irev {σ : St} {H : Hp} {K : PySem.W.Frag} {ta : TA} {R : It → Hp → Prop} (h : ta σ H fun vs H1 => ∃ a xs, vs = [.ref a] ∧ SqL K H1 a xs ∧ R (Itw K a xs.length) H1) : iRev K ta σ H R := h
end Rd
end L2
namespace L2
open PySem PySem.Spec PyProof.Rows
section
variable {X : Cx}
def rInsert : V → List V → Hp → VK → Prop := fun x vs H Q => ∃ l xs i y, x = .ref l ∧ vs = [.int i, y] ∧ H l = some (.lst xs) ∧ xs.length < sizeLine ∧ 0 ≤ i ∧ i ≤ xs.length ∧ Q .non (upd H l (.lst (xs.take i.toNat ++ y :: xs.drop i.toNat)))
theorem mt_insert : MtM X "list.insert" rInsert := by
  intro pins s σ H x vs v us Q I rx rv h
  obtain ⟨l, xs, i, y, rfl, rfl, hH, hz, i0, i1, q⟩ := h
  cases rx
  cases rv with
  | cons r1 rr =>
    obtain ⟨u, rfl, ru⟩ := vals1 rr
    obtain ⟨t, rfl⟩ := r1
    obtain ⟨z, its, n, r, hl, e⟩ := I.lstM hH
    have hn := line63
    refine call_meets F.slot_list_insert ⟨_, e, rfl⟩ F.entry_list_insert (F.args_list_insert_3 _ _ _) (PySem.AutoSeq1.list_insert_list_int_val_1 l its.toArray n i t u (by rw [fitsIndex_both (by omega) (by omega)]; decide) (by rw [List.size_toArray]; omega)) ⟨e, ?_⟩
    refine ⟨.non, _, I.lset (its' := its.take i.toNat ++ u :: its.drop i.toNat) hH e ?_ ((r.take i.toNat).append (.cons ru (r.drop i.toNat))) ?_, rfl, q⟩
    · have hk : (if i < 0 then (i + (its.toArray.size : Int)).toNat else min i.toNat its.toArray.size) = i.toNat := by
        rw [if_neg (by omega), List.size_toArray]
        omega
      show (its.toArray.extract 0 (if i < 0 then (i + (its.toArray.size : Int)).toNat else min i.toNat its.toArray.size)).push u ++ its.toArray.extract (if i < 0 then (i + (its.toArray.size : Int)).toNat else min i.toNat its.toArray.size) = _
      rw [hk]
      exact PySem.W.kl_ins_eq its i.toNat u
    · simp only [List.length_append, List.length_cons, List.length_take, List.length_drop]
      omega
end
namespace Rd
theorem ins {H : Hp} {Q : VK} {p : Addr} {xs : List V} {i : Int} {y : V} (h : H p = some (.lst xs)) (hl : xs.length < sizeLine) (h0 : 0 ≤ i) (h1 : i ≤ xs.length) (q : Q .non (upd H p (.lst (xs.take i.toNat ++ y :: xs.drop i.toNat)))) : rInsert (.ref p) [.int i, y] H Q := ⟨p, xs, i, y, rfl, rfl, h, hl, h0, h1, q⟩
end Rd
end L2
namespace L2
open PySem PySem.Spec PyProof.Rows
section
variable {X : Cx} {K : PySem.W.Frag}
def rMinL (K : PySem.W.Frag) : List V → Hp → VK → Prop := fun xs H Q => ∃ (p : Addr) (ns : List Int), xs = [.ref p] ∧ SqL K H p (ns.map V.int) ∧ 0 < ns.length ∧ ∀ M, M ∈ ns → (∀ a ∈ ns, M ≤ a) → Q (.int M) H
theorem call_minL (hc : X.calm = true) : CallR X (.builtin "min") (rMinL X.K) := by
  intro pins s σ H xs us Q I r h
  obtain ⟨p, ns, rfl, hq, hne, q⟩ := h
  obtain ⟨u, rfl, rx⟩ := vals1 r
  cases rx
  obtain ⟨its, rv, pl, hz⟩ := I.list hq
  have hi := intsAre_of rv
  obtain ⟨ys, hx⟩ := hi.allInts.items
  have hT : s.heap.IsList p (intItems ys) := hx ▸ pl.isList
  have hlt : p < s.heap.objs.size := by obtain ⟨_, e, _⟩ := hT; exact Heap.lt_size e
  have hns : ns = ys.toList.map (·.1) := by
    rw [← nums_intItems, ← hx]
    exact (show numsOf its.toArray.toList = ns from hi.numsOf).symm
  have hsz : 0 < ys.size := by
    have h3 := hne; rw [hns, List.length_map, Array.length_toList] at h3; exact h3
  have isz : (intItems ys).size = ys.size := by simp [intItems]
  refine call_min_walk (wpAny_pyIter_list hT ?_)
  refine ⟨s.heap.objs.size, [s.heap.objs.size, p], [s.heap.objs.size], _, _, _, _, rfl, PySem.Walks.list (A := X.A.in1) (I.ok.hd hc) _ p (Nat.ne_of_lt hlt) (intItems ys),
    ⟨⟨_, Heap.get?_push_size _ rfl, rfl, rfl⟩, hT.push _⟩, fun b hb => ?_, by rw [isz]; exact hsz, CmpOf.ints_lt (numAt ys) (fun _ _ => intItems_at), fun v h' tk hP hk => ?_⟩
  · show b < (s.heap.push _).objs.size
    rw [Heap.size_push]
    rcases List.mem_cons.mp hb with rfl | hb
    · exact Nat.lt_succ_self _
    · rw [List.mem_singleton.mp hb]; exact Nat.lt_succ_of_lt hlt
  · obtain ⟨t, rfl⟩ := intItems_at hP
    obtain ⟨h1, h2⟩ := argBest_lt (numAt ys) ((intItems ys).size - 1)
    refine ⟨.int _, H, I.kept (kept_it hk), ⟨t, rfl⟩, q _ ?_ fun a ha => ?_⟩
    · have hl2 : argBest (fun i j => decide (numAt ys i < numAt ys j)) ((intItems ys).size - 1) < (ys.toList.map (·.1)).length := by rw [List.length_map, Array.length_toList]; omega
      rw [hns, numAt_eq, List.getD_eq_getElem?_getD, List.getElem?_eq_getElem hl2]
      exact List.getElem_mem hl2
    · rw [hns] at ha
      obtain ⟨j, hj, rfl⟩ := mem_getD ha
      rw [List.length_map, Array.length_toList] at hj
      rw [← numAt_eq]; exact h2 j (by omega)
theorem minL_K (e : X.K = K) (hc : X.calm = true) : CallR X (.builtin "min") (rMinL K) := e ▸ call_minL hc
def rSetLen (K : PySem.W.Frag) : V → Hp → (Nat → Prop) → Prop := fun x H R => ∃ (l : Addr) (ns : List Int), x = .ref l ∧ SqL K H l (ns.map V.int) ∧ ns.length + 1 < 4096 ∧ ∀ n, (ns.Nodup → n = ns.length) → R n
def tLenSet (K : PySem.W.Frag) (ta : TA) : TE := fun σ H Q => ta σ H fun vs H1 => ∃ x, vs = [x] ∧ rSetLen K x H1 fun n => Q (.int (n : Nat)) H1
theorem firstMet_nodup (ns : List Int) (h : ns.Nodup) : ∀ i, i ≤ ns.length → firstMet (fun i => ns.getD i 0) i = ns.take i
  | 0, _ => rfl
  | i + 1, hi => by
    have hil : i < ns.length := by omega
    rw [firstMet_succ, firstMet_nodup ns h i (by omega), List.take_succ_eq_append_getElem hil]
    have e : ns.getD i 0 = ns[i] := by simp [List.getD, hil]
    unfold step_dedup
    rw [e]
    have hn : ((ns.take i).any (· == ns[i])) = false := by
      rw [List.any_eq_false]
      intro x hx
      have hnd := h
      rw [← List.take_append_drop (i + 1) ns, List.take_succ_eq_append_getElem hil] at hnd
      have h3 := (List.nodup_append.mp (List.nodup_append.mp hnd).1).2.2 x hx ns[i] (by simp)
      simpa using h3
    rw [hn]
    rfl
theorem pe_lenset {a : Expr} {ta : TA} {p p1 pos pos1 : Pos} (hK : X.K = K) (hc : X.calm = true) (hgl : Gl X "len") (hml : X.mg "len" = none) (hg : Gl X "set") (hm : X.mg "set" = none) (ha : PA X [a] ta)
    (hs : starEach [a] X.env = [(false, eval a X.env)] := by rfl)
    (he : starEach [Expr.Call (.Name "set" p) [a] [] pos] X.env = (false, eval (.Call (.Name "set" p) [a] [] pos) X.env) :: starEach [] X.env := by rfl) :
    PE X (.Call (.Name "len" p1) [.Call (.Name "set" p) [a] [] pos] [] pos1) (tLenSet K ta) := by
  subst hK
  intro pins s σ H Q I h
  refine Call_ (ld_blt I hgl hml PySem.boot_len ?_)
  refine PyProof.Rows.callWith_builtin1 ?_ he
  rw [he]
  show wpAny _ _ (spliced ((false, eval (.Call (.Name "set" p) [a] [] pos) X.env) :: [])) _ _ s
  refine Calls.spliced_cons (Call_ (ld_blt I hg hm boot_set (PyProof.Rows.callWith_type1 (thn (ha pos pins s σ H _ I h) fun us s1 ⟨vs, H1, I1, r1, q1⟩ => ?_) hs rfl)))
  obtain ⟨x, e, l, ns, rfl, hq, hb, q⟩ := q1
  subst e
  obtain ⟨u, rfl, rx⟩ := vals1 r1
  cases rx
  obtain ⟨its, rv, pl, hz⟩ := I1.list hq
  have hi := intsAre_of rv
  have hsz : its.toArray.size = ns.length := by have := rv.length; simpa using this.symm
  refine call_set_list (I1.ok.hd hc) pl.isList hi (by rw [hsz]; exact hb) fun h' tk hS hk => ?_
  refine Calls.spliced_nil ?_
  obtain ⟨o, es, ep, t, ho, hex, hd, _, _, hlt, hf, hn⟩ := hS
  refine call_len_set ho hex hd hf (by unfold scanBound at hlt; omega) ?_
  refine ⟨.int es.size, H1, ?_, ⟨_, rfl⟩, q _ fun hnd => ?_⟩
  · exact I1.kept fun b o e => hk b o (Heap.lt_size e) e
  · rw [hn, hsz, firstMet_nodup ns hnd _ (Nat.le_refl _), List.take_length]
end
namespace Rd
section
variable {K : PySem.W.Frag} {σ : St} {H : Hp} {Q : VK}
theorem minL {p : Addr} {ns : List Int} (h : SqL K H p (ns.map V.int)) (hn : 0 < ns.length) (q : ∀ M, M ∈ ns → (∀ a ∈ ns, M ≤ a) → Q (.int M) H) : rMinL K [.ref p] H Q := ⟨p, ns, rfl, h, hn, q⟩
theorem lset {ta : TA} (h : ta σ H fun vs H1 => ∃ x, vs = [x] ∧ rSetLen K x H1 fun n => Q (.int (n : Nat)) H1) : tLenSet K ta σ H Q := h
end
end Rd
end L2
namespace My
@[irreducible] def G (a b : Int) : Int := ((Int.gcd a b : Nat) : Int)
theorem G_nat (n m : Nat) : G (n : Int) (m : Int) = ((Nat.gcd n m : Nat) : Int) := by
  unfold G
  rfl
theorem G_zero {a b : Int} (ha : 0 ≤ a) (hb : b = 0) : G a b = a := by
  subst hb
  obtain ⟨n, rfl⟩ := Int.eq_ofNat_of_zero_le ha
  have := G_nat n 0
  rw [Nat.gcd_zero_right] at this
  exact this
theorem G_turn {a b : Int} (ha : 0 ≤ a) (hb : 0 < b) : G b (Int.fmod a b) = G a b := by
  obtain ⟨n, rfl⟩ := Int.eq_ofNat_of_zero_le ha
  obtain ⟨m, rfl⟩ := Int.eq_ofNat_of_zero_le (Int.le_of_lt hb)
  rw [Int.fmod_eq_emod_of_nonneg _ (Int.natCast_nonneg m), ← Int.natCast_emod, G_nat, G_nat, Nat.gcd_comm n m, Nat.gcd_rec m n, Nat.gcd_comm]
structure S (k : Nat) (x : Int) : Prop where
  lo : 0 ≤ x
  hi : x.toNat < 2 ^ (2048 * 2 ^ k)
theorem two_le {j k : Nat} (h : j ≤ k) : 2 ^ (2048 * 2 ^ j) ≤ 2 ^ (2048 * 2 ^ k) :=
  Nat.pow_le_pow_right (by decide) (Nat.mul_le_mul_left _ (Nat.pow_le_pow_right (by decide) h))
theorem S.mono {j k : Nat} {x : Int} (h : S j x) (hj : j ≤ k) : S k x := ⟨h.lo, Nat.lt_of_lt_of_le h.hi (two_le hj)⟩
end My
namespace Fo
abbrev Trip := Int × Int × Bool
abbrev Tree := List (Int × Option Trip)
def keys (tr : Tree) : List Int := tr.map (·.1)
theorem keys_snoc (tr : Tree) (w : Int) (s : Option Trip) : keys (tr ++ [(w, s)]) = keys tr ++ [w] := by simp [keys]
theorem mem_keys {tr : Tree} {i : Nat} {w : Int} {s : Option Trip} (h : tr[i]? = some (w, s)) : w ∈ keys tr := List.mem_map.mpr ⟨(w, s), List.mem_of_getElem? h, rfl⟩
theorem keys_at {tr : Tree} {w : Int} (h : w ∈ keys tr) : ∃ (i : Nat) (s : Option Trip), tr[i]? = some (w, s) := by
  obtain ⟨⟨w', s⟩, hm, rfl⟩ := List.mem_map.mp h
  obtain ⟨i, hi⟩ := List.getElem?_of_mem hm
  exact ⟨i, s, hi⟩
structure Grown (ways : Int → List Trip) (first : Int) (tr : Tree) : Prop where
  head : tr[0]? = some (first, none)
  nodup : (keys tr).Nodup
  steps : ∀ (i : Nat) (w p b : Int) (al : Bool), tr[i]? = some (w, some (p, b, al)) → (w, b, al) ∈ ways p ∧ ∃ (j : Nat) (s : Option Trip), j < i ∧ tr[j]? = some (p, s)
  only : ∀ (i : Nat) (w : Int), tr[i]? = some (w, none) → i = 0
def Gone (ways : Int → List Trip) (tr : Tree) (d : Nat) : Prop := ∀ (j : Nat) (w : Int) (s : Option Trip), j < d → tr[j]? = some (w, s) → ∀ t ∈ ways w, t.1 ∈ keys tr
section
variable {ways : Int → List Trip} {first : Int} {tr : Tree}
theorem grown_one : Grown ways first [(first, none)] := by
  refine ⟨rfl, by simp [keys], fun i w p b al h => ?_, fun i w h => ?_⟩
  · cases i with
    | zero => simp at h
    | succ i => simp at h
  · cases i with
    | zero => rfl
    | succ i => simp at h
theorem at_snoc {tr : Tree} {x y : Int × Option Trip} {i : Nat} (h : (tr ++ [x])[i]? = some y) : tr[i]? = some y ∨ (i = tr.length ∧ y = x) := by
  rcases Nat.lt_or_ge i tr.length with c | c
  · rw [List.getElem?_append_left c] at h; exact .inl h
  · rw [List.getElem?_append_right c] at h
    have : i - tr.length = 0 := by
      rcases Nat.eq_zero_or_pos (i - tr.length) with z | z
      · exact z
      · rw [List.getElem?_eq_none (by simp; omega)] at h; cases h
    rw [this] at h
    simp at h
    exact .inr ⟨by omega, h.symm⟩
theorem snoc_at {tr : Tree} {x y : Int × Option Trip} {i : Nat} (h : tr[i]? = some y) : (tr ++ [x])[i]? = some y := by
  rw [List.getElem?_append_left (List.getElem?_eq_some_iff.mp h).1]; exact h
theorem Grown.snoc (g : Grown ways first tr) {w p b : Int} {al : Bool} {j : Nat} {s : Option Trip} (hp : tr[j]? = some (p, s)) (hw : (w, b, al) ∈ ways p) (hn : w ∉ keys tr) : Grown ways first (tr ++ [(w, some (p, b, al))]) := by
  have hj := (List.getElem?_eq_some_iff.mp hp).1
  refine ⟨snoc_at g.head, ?_, fun i w' p' b' al' h => ?_, fun i w' h => ?_⟩
  · rw [keys_snoc]
    refine List.nodup_append.mpr ⟨g.nodup, by simp, fun x hx y hy => ?_⟩
    rw [List.mem_singleton.mp hy]
    intro e
    exact hn (e ▸ hx)
  · rcases at_snoc h with z | ⟨rfl, z⟩
    · obtain ⟨h1, j', s', h2, h3⟩ := g.steps i w' p' b' al' z
      exact ⟨h1, j', s', h2, snoc_at h3⟩
    · cases z
      exact ⟨hw, j, s, hj, snoc_at hp⟩
  · rcases at_snoc h with z | ⟨rfl, z⟩
    · exact g.only i w' z
    · cases z
theorem Gone.snoc {d : Nat} (h : Gone ways tr d) (hd : d ≤ tr.length) (w : Int) (s : Option Trip) : Gone ways (tr ++ [(w, s)]) d := fun j w' s' hj e t ht => by
  rw [keys_snoc]
  refine List.mem_append_left _ ?_
  rcases at_snoc e with z | ⟨rfl, _⟩
  · exact h j w' s' hj z t ht
  · omega
theorem Gone.next {d : Nat} {w : Int} {s : Option Trip} (h : Gone ways tr d) (e : tr[d]? = some (w, s)) (all : ∀ t ∈ ways w, t.1 ∈ keys tr) : Gone ways tr (d + 1) := fun j w' s' hj e' t ht => by
  rcases Nat.lt_succ_iff_lt_or_eq.mp hj with z | rfl
  · exact h j w' s' z e' t ht
  · rw [e] at e'
    cases e'
    exact all t ht
inductive Hang (ways : Int → List Trip) (a : Int) : Int → Prop
  | refl : Hang ways a a
  | step {b c : Int} {t : Int} {al : Bool} : Hang ways a b → (c, t, al) ∈ ways b → Hang ways a c
theorem Hang.trans {a b c : Int} (h : Hang ways a b) (k : Hang ways b c) : Hang ways a c := by
  induction k with
  | refl => exact h
  | step _ e ih => exact .step ih e
def Both (ways : Int → List Trip) : Prop := ∀ (a b t : Int) (al : Bool), (b, t, al) ∈ ways a → (a, t, !al) ∈ ways b
theorem Hang.symm (hb : Both ways) {a b : Int} (h : Hang ways a b) : Hang ways b a := by
  induction h with
  | refl => exact .refl
  | step _ e ih => exact (Hang.step .refl (hb _ _ _ _ e)).trans ih
theorem Grown.hang (g : Grown ways first tr) : ∀ (i : Nat) (w : Int) (s : Option Trip), tr[i]? = some (w, s) → Hang ways first w := by
  intro i
  induction i using Nat.strongRecOn with
  | _ i ih =>
    intro w s h
    cases s with
    | none =>
      have := g.only i w h
      subst this
      rw [g.head] at h
      cases h
      exact .refl
    | some x =>
      obtain ⟨p, b, al⟩ := x
      obtain ⟨h1, j, s', h2, h3⟩ := g.steps i w p b al h
      exact .step (ih j h2 p s' h3) h1
theorem Grown.keys_iff (g : Grown ways first tr) (c : Gone ways tr tr.length) (w : Int) : w ∈ keys tr ↔ Hang ways first w := by
  constructor
  · intro h
    obtain ⟨i, s, hi⟩ := keys_at h
    exact g.hang i w s hi
  · intro h
    induction h with
    | refl => exact mem_keys g.head
    | step _ e ih =>
      obtain ⟨i, s, hi⟩ := keys_at ih
      exact c i _ s (List.getElem?_eq_some_iff.mp hi).1 hi _ e
theorem Grown.rg (g : Grown ways first tr) {n : Int} (h0 : 0 ≤ first ∧ first < n) (hw : ∀ a, ∀ t ∈ ways a, 0 ≤ t.1 ∧ t.1 < n) : ∀ w ∈ keys tr, 0 ≤ w ∧ w < n := by
  intro w h
  obtain ⟨i, s, hi⟩ := keys_at h
  have := g.hang i w s hi
  cases this with
  | refl => exact h0
  | step _ e => exact hw _ _ e
theorem len_le {ks : List Int} {n : Nat} (nd : ks.Nodup) (h : ∀ w ∈ ks, 0 ≤ w ∧ w < (n : Int)) : ks.length ≤ n := by
  have h1 := nd.length_le_of_subset (l₂ := (List.range n).map fun i : Nat => (i : Int)) (fun w hw => by
    obtain ⟨a, b⟩ := h w hw
    exact List.mem_map.mpr ⟨w.toNat, List.mem_range.mpr (by omega), by omega⟩)
  simpa using h1
end
structure Wood (ways : Int → List Trip) (n : Nat) (F : List (Int × Tree)) (i : Nat) : Prop where
  tree : ∀ x ∈ F, Grown ways x.1 x.2 ∧ Gone ways x.2 x.2.length ∧ 0 ≤ x.1 ∧ x.1 < (i : Int)
  all : ∀ w : Int, 0 ≤ w → w < (i : Int) → ∃ x ∈ F, w ∈ keys x.2
  rise : F.Pairwise fun x y => x.1 < y.1
  least : ∀ x ∈ F, ∀ w ∈ keys x.2, x.1 ≤ w
section
variable {ways : Int → List Trip} {n i : Nat} {F : List (Int × Tree)}
theorem wood_nil : Wood ways n [] 0 := ⟨by simp, fun w h0 h1 => by omega, .nil, by simp⟩
theorem Wood.skip (h : Wood ways n F i) (hi : ∃ x ∈ F, (i : Int) ∈ keys x.2) : Wood ways n F (i + 1) :=
  ⟨fun x hx => by obtain ⟨a, b, c, d⟩ := h.tree x hx; exact ⟨a, b, c, by omega⟩, fun w h0 h1 => by
    by_cases e : w = (i : Int)
    · rw [e]; exact hi
    · exact h.all w h0 (by omega), h.rise, h.least⟩
theorem Wood.grow (hb : Both ways) (hw : ∀ a, ∀ t ∈ ways a, 0 ≤ t.1 ∧ t.1 < (n : Int)) (hin : i < n) (h : Wood ways n F i) (hi : ∀ x ∈ F, (i : Int) ∉ keys x.2) {tr : Tree} (g : Grown ways i tr) (c : Gone ways tr tr.length) : Wood ways n (F ++ [((i : Int), tr)]) (i + 1) := by
  refine ⟨fun x hx => ?_, fun w h0 h1 => ?_, List.pairwise_append.mpr ⟨h.rise, by simp, fun x hx y hy => ?_⟩, fun x hx => ?_⟩
  · rcases List.mem_append.mp hx with z | z
    · obtain ⟨a, b, c, d⟩ := h.tree x z; exact ⟨a, b, c, by omega⟩
    · rw [List.mem_singleton.mp z]; exact ⟨g, c, by simp, by simp; omega⟩
  · by_cases e : w = (i : Int)
    · exact ⟨_, List.mem_append_right _ (List.mem_singleton.mpr rfl), by rw [e]; exact mem_keys g.head⟩
    · obtain ⟨x, hx, hk⟩ := h.all w h0 (by omega)
      exact ⟨x, List.mem_append_left _ hx, hk⟩
  · rw [List.mem_singleton.mp hy]; exact (h.tree x hx).2.2.2
  · rcases List.mem_append.mp hx with z | z
    · exact h.least x z
    · rw [List.mem_singleton.mp z]
      intro w hk
      rcases Int.lt_or_le w (i : Int) with y | y
      · exfalso
        have hr := g.rg ⟨by omega, by omega⟩ hw w hk
        obtain ⟨x', hx', hk'⟩ := h.all w hr.1 y
        obtain ⟨g', c', _, _⟩ := h.tree x' hx'
        have h1 := (g'.keys_iff c' w).mp hk'
        have h2 := ((g.keys_iff c w).mp hk).symm hb
        exact hi x' hx' ((g'.keys_iff c' _).mpr (h1.trans h2))
      · exact y
end
end Fo
set_option Elab.async false
set_option linter.all false
set_option maxRecDepth 100000
set_option maxHeartbeats 4000000
local macro_rules | `(tactic| walk_at "mul") => `(tactic| k_dflt (first | with_reducible assumption | exact L2.CMul.ok (Or.inr ⟨by omega, by omega⟩) | exact L2.CMul.ok (Or.inl ⟨by omega, by omega⟩)))
local macro_rules | `(tactic| walk_at "lk") => `(tactic| first | exact L2.Rd.lk0 | exact L2.Rd.lkN | (refine L2.Rd.lk1 (by decide +kernel) ?_; walk_at "lk"))
local macro_rules | `(tactic| walk_at "pf") => `(tactic| first | exact L2.Rd.pf0 | exact L2.Rd.pfN | (apply L2.Rd.pf1; (decide +kernel); walk_at "pf"))
local macro_rules | `(tactic| walk_at "na") => `(tactic| exact L2.NoAttrs.get (by with_reducible assumption) (by decide +kernel))
local macro_rules | `(tactic| walk_at "cond") => `(tactic| k_dflt (first | with_reducible assumption | decide | omega | (simp; done) | (simp only [List.length_cons, List.length_nil, List.length_map, List.length_append]; omega)))
local macro_rules | `(tactic| walk_at "rdis") => `(tactic| ((with_reducible show ∃ x n t b, _ = _ ∧ L2.TyOf _ _ x t ∧ _); first | with_reducible apply L2.Rd.is_int_int | with_reducible apply L2.Rd.is_int_bool | with_reducible apply L2.Rd.is_int_str | with_reducible apply L2.Rd.is_int_list | with_reducible apply L2.Rd.is_int_tuple | with_reducible apply L2.Rd.is_int_dict | with_reducible apply L2.Rd.is_bl_int | with_reducible apply L2.Rd.is_bl_bool | with_reducible apply L2.Rd.is_bl_str | with_reducible apply L2.Rd.is_bl_list | with_reducible apply L2.Rd.is_bl_tuple | with_reducible apply L2.Rd.is_bl_dict | with_reducible apply L2.Rd.is_str_int | with_reducible apply L2.Rd.is_str_bool | with_reducible apply L2.Rd.is_str_str | with_reducible apply L2.Rd.is_str_list | with_reducible apply L2.Rd.is_str_tuple | with_reducible apply L2.Rd.is_str_dict | with_reducible apply L2.Rd.is_non_int | with_reducible apply L2.Rd.is_non_bool | with_reducible apply L2.Rd.is_non_str | with_reducible apply L2.Rd.is_non_list | with_reducible apply L2.Rd.is_non_tuple | with_reducible apply L2.Rd.is_non_dict | with_reducible refine L2.Rd.is_lst_int (by with_reducible assumption) ?_ | with_reducible refine L2.Rd.is_lst_bool (by with_reducible assumption) ?_ | with_reducible refine L2.Rd.is_lst_str (by with_reducible assumption) ?_ | with_reducible refine L2.Rd.is_lst_list (by with_reducible assumption) ?_ | with_reducible refine L2.Rd.is_lst_tuple (by with_reducible assumption) ?_ | with_reducible refine L2.Rd.is_lst_dict (by with_reducible assumption) ?_ | with_reducible refine L2.Rd.is_tup_int (by with_reducible assumption) ?_ | with_reducible refine L2.Rd.is_tup_bool (by with_reducible assumption) ?_ | with_reducible refine L2.Rd.is_tup_str (by with_reducible assumption) ?_ | with_reducible refine L2.Rd.is_tup_list (by with_reducible assumption) ?_ | with_reducible refine L2.Rd.is_tup_tuple (by with_reducible assumption) ?_ | with_reducible refine L2.Rd.is_tup_dict (by with_reducible assumption) ?_ | with_reducible refine L2.Rd.is_dK_int (by with_reducible assumption) ?_ | with_reducible refine L2.Rd.is_dK_bool (by with_reducible assumption) ?_ | with_reducible refine L2.Rd.is_dK_str (by with_reducible assumption) ?_ | with_reducible refine L2.Rd.is_dK_list (by with_reducible assumption) ?_ | with_reducible refine L2.Rd.is_dK_tuple (by with_reducible assumption) ?_ | with_reducible refine L2.Rd.is_dK_dict (by with_reducible assumption) ?_))
local macro_rules | `(tactic| walk_at "side") => `(tactic| k_dflt (first | with_reducible assumption | decide | (dsimp only; decide) | (dsimp only [L2.CPow]; decide) | omega | (dsimp only; omega)))
local macro_rules | `(tactic| walk_at "hp") => `(tactic| with_reducible (first | assumption | ((show L2.SqL _ _ _ _); (first | exact L2.SqL.of (by assumption) | exact L2.OffL.sq (by assumption) | exact L2.Same.seq (by assumption) (by assumption))) | ((show L2.SqT _ _ _ _); (first | exact L2.SqT.of (by assumption) | exact L2.OffT.sq (by assumption) | exact L2.Same.seqT (by assumption) (by assumption)))))
local macro_rules | `(tactic| walk_at "rd") => `(tactic| first
  | with_reducible apply L2.Rd.seq | with_reducible apply L2.Rd.asg | with_reducible apply L2.Rd.ret | with_reducible apply L2.Rd.ifs | with_reducible apply L2.Rd.next | with_reducible apply L2.Rd.drop
  | with_reducible apply L2.Rd.op | with_reducible apply L2.Rd.un | with_reducible apply L2.Rd.test | with_reducible apply L2.Rd.con | ((with_reducible show L2.tVar _ _ _ _); with_reducible refine L2.Rd.var (by k_dflt rfl) ?_) | ((with_reducible show L2.gName _ _ _ _ _); with_reducible refine L2.Rd.nameS (by k_dflt (dsimp only [L2.start, List.map_cons, List.map_nil, List.cons_append, List.nil_append, List.length_cons, List.length_nil, Nat.reduceAdd, Nat.reduceSub, List.replicate, List.set]; (try rfl))) ?_) | with_reducible apply L2.Rd.name
  | with_reducible apply L2.Rd.call | with_reducible apply L2.Rd.cons | with_reducible apply L2.Rd.nil | with_reducible apply L2.Rd.cb | with_reducible apply L2.Rd.tup | with_reducible apply L2.Rd.lst
  | with_reducible apply L2.Rd.and_ | with_reducible apply L2.Rd.or_ | with_reducible apply L2.Rd.not_ | with_reducible apply L2.Rd.andV | with_reducible apply L2.Rd.orV | with_reducible apply L2.Rd.notV
  | with_reducible apply L2.Rd.par | with_reducible apply L2.Rd.i0 | ((with_reducible show L2.rI _ _ _ _ _ _); with_reducible refine L2.Rd.iC (by walk_at "side") ?_) | with_reducible apply L2.Rd.bl | with_reducible apply L2.Rd.two
  | with_reducible apply L2.Rd.addI | ((with_reducible show L2.rOr L2.rMulI _ _ _ _ _); with_reducible refine L2.Rd.mulI (by walk_at "mul") ?_) | with_reducible apply L2.Rd.eqUI | with_reducible apply L2.Rd.neUI | with_reducible apply L2.Rd.eqUS | with_reducible apply L2.Rd.neUS | with_reducible apply L2.Rd.eqUB | with_reducible apply L2.Rd.neUB
  | with_reducible refine L2.Rd.addS (by walk_at "side") ?_
  | ((with_reducible show L2.rIx _ _ _ _ _); with_reducible refine L2.Rd.ixuT (by walk_at "hp") (by k_dflt rfl) ?_) | ((with_reducible show L2.rIx _ _ _ _ _); with_reducible refine L2.Rd.ixuL (by walk_at "hp") (by k_dflt (first | rfl | with_reducible assumption)) ?_)
  | with_reducible apply L2.Rd.un1 | with_reducible refine L2.Rd.ilist2 (by walk_at "hp") ?_ | with_reducible refine L2.Rd.rng1' (by k_dflt omega) (by k_dflt omega) ?_ | with_reducible refine L2.Rd.rng2' (by k_dflt omega) ?_ | with_reducible apply L2.Rd.min2
  | ((with_reducible show ∃ x n, _ = _ ∧ L2.LenV _ x _ n ∧ _); with_reducible refine L2.Rd.lenT' (by walk_at "hp") ?_) | ((with_reducible show ∃ x n, _ = _ ∧ L2.LenV _ x _ n ∧ _); with_reducible refine L2.Rd.lenL (by walk_at "hp") ?_) | ((with_reducible show ∃ x n, _ = _ ∧ L2.LenV _ x _ n ∧ _); with_reducible refine L2.Rd.lenS (by walk_at "side") ?_)
  | walk_at "rdis"
  | with_reducible apply L2.Rd.truB | with_reducible apply L2.Rd.tru | with_reducible apply L2.Rd.rlen | with_reducible apply L2.Rd.risi | with_reducible apply L2.Rd.rall
  | with_reducible apply L2.Rd.bm | with_reducible apply L2.Rd.bm0 | ((with_reducible show L2.tyV _ _ _ _ ∧ _); with_reducible refine L2.Rd.tyl (by with_reducible assumption) ?_) | ((with_reducible show L2.rAppend _ _ _ _); with_reducible refine L2.Rd.app (by with_reducible assumption) (by walk_at "side") ?_)
  | with_reducible apply L2.iteT | with_reducible apply L2.iteF | with_reducible apply L2.Rd.iteNT | with_reducible apply L2.Rd.iteNF
  | ((with_reducible show if decide _ = true then _ else _); with_reducible refine L2.Rd.ifP (by walk_at "cond") ?_) | ((with_reducible show if decide _ = true then _ else _); with_reducible refine L2.Rd.ifN (by walk_at "cond") ?_) | ((with_reducible show if (!decide _) = true then _ else _); with_reducible refine L2.Rd.ifNP (by walk_at "cond") ?_) | ((with_reducible show if (!decide _) = true then _ else _); with_reducible refine L2.Rd.ifNN (by walk_at "cond") ?_)
  | with_reducible apply L2.Rd.sl | with_reducible apply L2.Rd.noPart | with_reducible apply L2.Rd.part | with_reducible apply L2.Rd.partI | ((with_reducible show L2.rSlU _ _ _ _ _ _); with_reducible refine L2.Rd.slS (by walk_at "side") ?_)
  | with_reducible apply L2.Rd.fldE | with_reducible refine L2.Rd.fld (by with_reducible assumption) (by with_reducible assumption) (by k_dflt (walk_at "na")) (by k_dflt (walk_at "lk")) ?_
  | ((with_reducible show L2.tMethJ _ _ _ _ _ _ _ _ _ _ _); with_reducible refine L2.Rd.methJ (by k_dflt rfl) ?_) | ((with_reducible show L2.tCallJ _ _ _ _ _ _ _ _); with_reducible refine L2.Rd.callJ (by k_dflt rfl) ?_) | ((with_reducible show L2.tMakeJ _ _ _ _ _ _ _ _ _); with_reducible refine L2.Rd.makeJ (by k_dflt rfl) ?_)
  | with_reducible apply L2.Rd.gsub | ((with_reducible show L2.rSetL _ _ _ _ _); with_reducible refine L2.Rd.setL (by with_reducible assumption) (by k_dflt omega) (by walk_at "cond") ?_)
  | with_reducible apply L2.Rd.methE | with_reducible refine L2.Rd.meth (by with_reducible assumption) (by k_dflt (walk_at "lk")) ?_ | with_reducible apply L2.Rd.makeE
  | with_reducible apply L2.Rd.sfld | with_reducible refine L2.Rd.sfld3 (by with_reducible (first | assumption | exact L2.upd_same)) (by with_reducible assumption) (by k_dflt (walk_at "na")) (by k_dflt (simp only [List.length_cons, List.length_nil]; decide)) (by k_dflt (walk_at "pf")) ?_
  | with_reducible apply L2.Rd.raise | with_reducible apply L2.Rd.raise2 | with_reducible apply L2.Rd.ilist | with_reducible apply L2.Rd.istr | with_reducible apply L2.Rd.istr2 | with_reducible apply L2.Rd.all_
  | with_reducible apply L2.Rd.compE | ((with_reducible show L2.rIn _ _ _ _ _ _); with_reducible refine L2.Rd.inS (by walk_at "hp") ?_) | ((with_reducible show L2.rIn _ _ _ _ _ _); with_reducible refine L2.Rd.ninS (by walk_at "hp") ?_) | ((with_reducible show L2.rIn _ _ _ _ _ _); with_reducible refine L2.Rd.inI (by walk_at "hp") ?_) | ((with_reducible show L2.rIn _ _ _ _ _ _); with_reducible refine L2.Rd.ninI (by walk_at "hp") ?_)
  | with_reducible refine L2.Rd.allB (by walk_at "hp") ?_ | with_reducible apply L2.Rd.leS | with_reducible apply L2.Rd.chain
  | ((with_reducible show if (!(_ == _)) = true then _ else _); first | refine L2.Rd.iteNT ?_ | refine L2.Rd.iteNF ?_) | ((with_reducible show if (_ == _) = true then _ else _); first | refine L2.iteT ?_ | refine L2.iteF ?_)
  | with_reducible apply L2.Rd.compNE | with_reducible apply L2.Rd.ienum | ((with_reducible show ∃ a, _ = _ ∧ (∃ xs, L2.SqL _ _ a xs) ∧ _); with_reducible refine L2.Rd.ienum2 (by walk_at "hp") ?_) | with_reducible apply L2.Rd.dnew
  | ((with_reducible show L2.rDIn _ _ _ _); first | with_reducible refine L2.Rd.dinS (by with_reducible assumption) ?_ | with_reducible refine L2.Rd.dinI (by with_reducible assumption) ?_) | ((with_reducible show L2.rDNotIn _ _ _ _); first | with_reducible refine L2.Rd.dninS (by with_reducible assumption) ?_ | with_reducible refine L2.Rd.dninI (by with_reducible assumption) ?_)
  | ((with_reducible show L2.rIxD _ _ _ _); first | with_reducible refine L2.Rd.dgetS (by with_reducible assumption) (by with_reducible assumption) ?_ | with_reducible refine L2.Rd.dgetI (by with_reducible assumption) (by with_reducible assumption) ?_)
  | ((with_reducible show L2.rSetD _ _ _ _ _); first | with_reducible refine L2.Rd.dsetS (by with_reducible assumption) (by walk_at "side") ?_ | with_reducible refine L2.Rd.dsetI (by with_reducible assumption) (by walk_at "side") ?_)
  | ((with_reducible show L2.rLenD _ _ _); with_reducible refine L2.Rd.dlen (by with_reducible assumption) ?_) | ((with_reducible show L2.rListD _ _ _); with_reducible refine L2.Rd.dlist (by with_reducible assumption) ?_)
  | with_reducible apply L2.Rd.augS | with_reducible apply L2.Rd.ipi | ((with_reducible show L2.rIxL _ _ _ _ _); with_reducible refine L2.Rd.ixl (by walk_at "hp") (by k_dflt (first | rfl | with_reducible assumption)) ?_)
  | with_reducible apply L2.Rd.tb_ | with_reducible apply L2.Rd.for_ | with_reducible apply L2.Rd.rng1 | with_reducible apply L2.Rd.rng2 | with_reducible apply L2.Rd.gnil | with_reducible apply L2.Rd.gcons)
local macro_rules | `(tactic| walk_at "rds") => `(tactic| repeat' (walk_at "rd"))
namespace Nm
open PySem L2
def top (i : Nat) : Stmt := PySem.Challenge.pw_ratehall_k09_whole_rates_or_ring.main.body.getD i (.Pass ⟨0, 0, 0, 0⟩)
abbrev s_l_cell : Stmt := top 39
abbrev s_l_mixed : Stmt := top 40
abbrev s_l_divisor : Stmt := top 41
abbrev s_l_lines : Stmt := top 42
abbrev s_Hall_belts : Stmt := inClass (top 36) 7
abbrev s_Hall_names : Stmt := inClass (top 36) 5
abbrev s_ways_of : Stmt := top 11
abbrev s_tree_from : Stmt := top 12
abbrev s_forest_of : Stmt := top 10
abbrev s_divisor : Stmt := top 2
abbrev s_ratio : Stmt := top 4
abbrev s_times : Stmt := top 5
abbrev s_gain : Stmt := top 19
abbrev s_is_whole : Stmt := top 6
abbrev s_is_from : Stmt := top 7
abbrev s_is_number_below : Stmt := top 8
abbrev s_Hall_need_belt : Stmt := inClass (top 36) 12
abbrev s_Hall_belt_at : Stmt := inClass (top 36) 8
abbrev s_shares_of : Stmt := top 18
abbrev s_multiple : Stmt := top 3
abbrev s_rates_by : Stmt := top 17
abbrev s_change_of : Stmt := top 15
abbrev s_way_to : Stmt := top 13
abbrev s_shared_steps : Stmt := top 21
abbrev s_ring_through : Stmt := top 20
abbrev s_rates_of : Stmt := top 16
abbrev s_l_reached : Stmt := top 45
abbrev s_l_counts : Stmt := top 48
abbrev s_l_long : Stmt := top 44
abbrev s_l_name : Stmt := top 43
abbrev s_l_ring_good : Stmt := top 47
abbrev s_l_rates_good : Stmt := top 46
abbrev s_is_name : Stmt := top 32
abbrev s_Hall_work : Stmt := inClass (top 36) 1
abbrev s_need_start : Stmt := top 37
abbrev s_Hall_need_work : Stmt := inClass (top 36) 11
abbrev s_Hall_lay : Stmt := inClass (top 36) 3
abbrev s_Hall_belt : Stmt := inClass (top 36) 2
abbrev s_Hall_init : Stmt := inClass (top 36) 0
abbrev s_law : Stmt := top 49
theorem sc_l_cell : FnScope ["_law_script", "_law_k"] ["_law_script", "_law_k"] (defScope s_l_cell) := ⟨rfl, rfl, rfl, by decide +kernel, rfl, by decide +kernel, by decide +kernel⟩
theorem sc_l_mixed : FnScope ["_law_script", "_law_k"] ["_law_script", "_law_k"] (defScope s_l_mixed) := ⟨rfl, rfl, rfl, by decide +kernel, rfl, by decide +kernel, by decide +kernel⟩
theorem sc_l_divisor : FnScope ["_law_one", "_law_other", "_law_rest"] ["_law_one", "_law_other"] (defScope s_l_divisor) := ⟨rfl, rfl, rfl, by decide +kernel, rfl, by decide +kernel, by decide +kernel⟩
theorem sc_l_lines : FnScope ["_law_script", "_law_sizes", "_law_way", "_law_lines_here", "_law_k", "_law_mixed_here", "_law_giver", "_law_taker", "_law_both", "_law_factor", "_law_give", "_law_take", "_law_at"] ["_law_script", "_law_sizes"] (defScope s_l_lines) := ⟨rfl, rfl, rfl, by decide +kernel, rfl, by decide +kernel, by decide +kernel⟩
theorem sc_Hall_belts : FnScope ["self"] ["self"] (defScope s_Hall_belts) := ⟨rfl, rfl, rfl, by decide +kernel, rfl, by decide +kernel, by decide +kernel⟩
theorem sc_Hall_names : FnScope ["self"] ["self"] (defScope s_Hall_names) := ⟨rfl, rfl, rfl, by decide +kernel, rfl, by decide +kernel, by decide +kernel⟩
theorem sc_ways_of : FnScope ["hall", "ways", "belt", "row"] ["hall"] (defScope s_ways_of) := ⟨rfl, rfl, rfl, by decide +kernel, rfl, by decide +kernel, by decide +kernel⟩
theorem sc_tree_from : FnScope ["ways", "first", "tree", "reached", "done", "work", "other", "belt", "along"] ["ways", "first"] (defScope s_tree_from) := ⟨rfl, rfl, rfl, by decide +kernel, rfl, by decide +kernel, by decide +kernel⟩
theorem sc_forest_of : FnScope ["hall", "ways", "seen", "forest", "work", "tree"] ["hall"] (defScope s_forest_of) := ⟨rfl, rfl, rfl, by decide +kernel, rfl, by decide +kernel, by decide +kernel⟩
theorem sc_divisor : FnScope ["one", "other", "rest"] ["one", "other"] (defScope s_divisor) := ⟨rfl, rfl, rfl, by decide +kernel, rfl, by decide +kernel, by decide +kernel⟩
theorem sc_ratio : FnScope ["top", "bottom", "common"] ["top", "bottom"] (defScope s_ratio) := ⟨rfl, rfl, rfl, by decide +kernel, rfl, by decide +kernel, by decide +kernel⟩
theorem sc_times : FnScope ["one", "other"] ["one", "other"] (defScope s_times) := ⟨rfl, rfl, rfl, by decide +kernel, rfl, by decide +kernel, by decide +kernel⟩
theorem sc_gain : FnScope ["row", "along"] ["row", "along"] (defScope s_gain) := ⟨rfl, rfl, rfl, by decide +kernel, rfl, by decide +kernel, by decide +kernel⟩
theorem sc_is_whole : FnScope ["thing"] ["thing"] (defScope s_is_whole) := ⟨rfl, rfl, rfl, by decide +kernel, rfl, by decide +kernel, by decide +kernel⟩
theorem sc_is_from : FnScope ["thing", "least"] ["thing", "least"] (defScope s_is_from) := ⟨rfl, rfl, rfl, by decide +kernel, rfl, by decide +kernel, by decide +kernel⟩
theorem sc_is_number_below : FnScope ["thing", "bound"] ["thing", "bound"] (defScope s_is_number_below) := ⟨rfl, rfl, rfl, by decide +kernel, rfl, by decide +kernel, by decide +kernel⟩
theorem sc_Hall_need_belt : FnScope ["self", "belt"] ["self", "belt"] (defScope s_Hall_need_belt) := ⟨rfl, rfl, rfl, by decide +kernel, rfl, by decide +kernel, by decide +kernel⟩
theorem sc_Hall_belt_at : FnScope ["self", "belt"] ["self", "belt"] (defScope s_Hall_belt_at) := ⟨rfl, rfl, rfl, by decide +kernel, rfl, by decide +kernel, by decide +kernel⟩
theorem sc_shares_of : FnScope ["hall", "tree", "shares", "work", "step"] ["hall", "tree"] (defScope s_shares_of) := ⟨rfl, rfl, rfl, by decide +kernel, rfl, by decide +kernel, by decide +kernel⟩
theorem sc_multiple : FnScope ["one", "other"] ["one", "other"] (defScope s_multiple) := ⟨rfl, rfl, rfl, by decide +kernel, rfl, by decide +kernel, by decide +kernel⟩
theorem sc_rates_by : FnScope ["hall", "forest", "rates", "tree", "shares", "common", "share", "work"] ["hall", "forest"] (defScope s_rates_by) := ⟨rfl, rfl, rfl, by decide +kernel, rfl, by decide +kernel, by decide +kernel⟩
theorem sc_change_of : FnScope ["hall", "counts"] ["hall", "counts"] (defScope s_change_of) := ⟨rfl, rfl, rfl, by decide +kernel, rfl, by decide +kernel, by decide +kernel⟩
theorem sc_way_to : FnScope ["tree", "work", "way", "step"] ["tree", "work"] (defScope s_way_to) := ⟨rfl, rfl, rfl, by decide +kernel, rfl, by decide +kernel, by decide +kernel⟩
theorem sc_shared_steps : FnScope ["one", "other", "shared"] ["one", "other"] (defScope s_shared_steps) := ⟨rfl, rfl, rfl, by decide +kernel, rfl, by decide +kernel, by decide +kernel⟩
theorem sc_ring_through : FnScope ["hall", "forest", "belt", "row", "tree", "to_giver", "to_taker", "shared", "back"] ["hall", "forest", "belt"] (defScope s_ring_through) := ⟨rfl, rfl, rfl, by decide +kernel, rfl, by decide +kernel, by decide +kernel⟩
theorem sc_rates_of : FnScope ["hall", "forest", "rates", "belt", "change"] ["hall"] (defScope s_rates_of) := ⟨rfl, rfl, rfl, by decide +kernel, rfl, by decide +kernel, by decide +kernel⟩
theorem sc_l_reached : FnScope ["_law_lines_here", "_law_first", "_law_many", "_law_piece", "_law_lap", "_law_had", "_law_line"] ["_law_lines_here", "_law_first", "_law_many"] (defScope s_l_reached) := ⟨rfl, rfl, rfl, by decide +kernel, rfl, by decide +kernel, by decide +kernel⟩
theorem sc_l_counts : FnScope ["_law_script", "_law_sizes", "_law_rates", "_law_lines_here", "_law_counts_here", "_law_work", "_law_first", "_law_times_by"] ["_law_script", "_law_sizes", "_law_rates", "_law_lines_here"] (defScope s_l_counts) := ⟨rfl, rfl, rfl, by decide +kernel, rfl, by decide +kernel, by decide +kernel⟩
theorem sc_l_long : FnScope ["_law_script", "_law_sizes", "_law_order", "_law_k", "_law_lines_here", "_law_mixed_here", "_law_giver", "_law_taker", "_law_both", "_law_at"] ["_law_script", "_law_sizes"] (defScope s_l_long) := ⟨rfl, rfl, rfl, by decide +kernel, rfl, by decide +kernel, by decide +kernel⟩
theorem sc_l_name : FnScope ["_law_k"] ["_law_k"] (defScope s_l_name) := ⟨rfl, rfl, rfl, by decide +kernel, rfl, by decide +kernel, by decide +kernel⟩
theorem sc_l_ring_good : FnScope ["_law_ring", "_law_lines_here", "_law_ends", "_law_top", "_law_bottom", "_law_pace", "_law_giver", "_law_taker", "_law_give", "_law_take", "_law_k"] ["_law_ring", "_law_lines_here"] (defScope s_l_ring_good) := ⟨rfl, rfl, rfl, by decide +kernel, rfl, by decide +kernel, by decide +kernel⟩
theorem sc_l_rates_good : FnScope ["_law_rates", "_law_lines_here", "_law_many", "_law_rate", "_law_giver", "_law_taker", "_law_give", "_law_take", "_law_first", "_law_both", "_law_work"] ["_law_rates", "_law_lines_here", "_law_many"] (defScope s_l_rates_good) := ⟨rfl, rfl, rfl, by decide +kernel, rfl, by decide +kernel, by decide +kernel⟩
theorem sc_is_name : FnScope ["thing"] ["thing"] (defScope s_is_name) := ⟨rfl, rfl, rfl, by decide +kernel, rfl, by decide +kernel, by decide +kernel⟩
theorem sc_Hall_work : FnScope ["self", "name", "number"] ["self", "name"] (defScope s_Hall_work) := ⟨rfl, rfl, rfl, by decide +kernel, rfl, by decide +kernel, by decide +kernel⟩
theorem sc_need_start : FnScope ["start"] ["start"] (defScope s_need_start) := ⟨rfl, rfl, rfl, by decide +kernel, rfl, by decide +kernel, by decide +kernel⟩
theorem sc_Hall_need_work : FnScope ["self", "work"] ["self", "work"] (defScope s_Hall_need_work) := ⟨rfl, rfl, rfl, by decide +kernel, rfl, by decide +kernel, by decide +kernel⟩
theorem sc_Hall_lay : FnScope ["self", "row"] ["self", "row"] (defScope s_Hall_lay) := ⟨rfl, rfl, rfl, by decide +kernel, rfl, by decide +kernel, by decide +kernel⟩
theorem sc_Hall_belt : FnScope ["self", "giver", "taker", "give", "take", "start"] ["self", "giver", "taker", "give", "take", "start"] (defScope s_Hall_belt) := ⟨rfl, rfl, rfl, by decide +kernel, rfl, by decide +kernel, by decide +kernel⟩
theorem sc_Hall_init : FnScope ["self"] ["self"] (defScope s_Hall_init) := ⟨rfl, rfl, rfl, by decide +kernel, rfl, by decide +kernel, by decide +kernel⟩
theorem sc_law : FnScope ["_law_script", "_law_many", "_law_sizes", "_law_lines_here", "_law_hall", "_law_k", "_law_giver", "_law_taker", "_law_give", "_law_take", "_law_found", "_law_rates", "_law_ring", "_law_counts_here", "_law_change", "_law_like", "_law_one", "_law_back"] ["_law_script"] (defScope s_law) := ⟨rfl, rfl, rfl, by decide +kernel, rfl, by decide +kernel, by decide +kernel⟩
set_option genInjectivity false in
set_option genSizeOf false in
structure Tp (K : PySem.W.Frag) (mg : Str → Option Value) where
  f_l_cell : Addr
  d_l_cell : FuncData
  F_l_cell : Fun K "_law_cell" "_law_cell" s_l_cell f_l_cell d_l_cell
  b_l_cell : Binds K d_l_cell ["_law_script", "_law_k"] []
  m_l_cell : mg "_law_cell" = some (.ref f_l_cell)
  f_l_mixed : Addr
  d_l_mixed : FuncData
  F_l_mixed : Fun K "_law_mixed" "_law_mixed" s_l_mixed f_l_mixed d_l_mixed
  b_l_mixed : Binds K d_l_mixed ["_law_script", "_law_k"] []
  m_l_mixed : mg "_law_mixed" = some (.ref f_l_mixed)
  f_l_divisor : Addr
  d_l_divisor : FuncData
  F_l_divisor : Fun K "_law_divisor" "_law_divisor" s_l_divisor f_l_divisor d_l_divisor
  b_l_divisor : Binds K d_l_divisor ["_law_one", "_law_other"] []
  m_l_divisor : mg "_law_divisor" = some (.ref f_l_divisor)
  f_l_lines : Addr
  d_l_lines : FuncData
  F_l_lines : Fun K "_law_lines" "_law_lines" s_l_lines f_l_lines d_l_lines
  b_l_lines : Binds K d_l_lines ["_law_script", "_law_sizes"] []
  m_l_lines : mg "_law_lines" = some (.ref f_l_lines)
  f_Hall_belts : Addr
  d_Hall_belts : FuncData
  F_Hall_belts : Fun K "belts" "Hall.belts" s_Hall_belts f_Hall_belts d_Hall_belts
  b_Hall_belts : Binds K d_Hall_belts ["self"] []
  f_Hall_names : Addr
  d_Hall_names : FuncData
  F_Hall_names : Fun K "names" "Hall.names" s_Hall_names f_Hall_names d_Hall_names
  b_Hall_names : Binds K d_Hall_names ["self"] []
  f_ways_of : Addr
  d_ways_of : FuncData
  F_ways_of : Fun K "ways_of" "ways_of" s_ways_of f_ways_of d_ways_of
  b_ways_of : Binds K d_ways_of ["hall"] []
  m_ways_of : mg "ways_of" = some (.ref f_ways_of)
  f_tree_from : Addr
  d_tree_from : FuncData
  F_tree_from : Fun K "tree_from" "tree_from" s_tree_from f_tree_from d_tree_from
  b_tree_from : Binds K d_tree_from ["ways", "first"] []
  m_tree_from : mg "tree_from" = some (.ref f_tree_from)
  f_forest_of : Addr
  d_forest_of : FuncData
  F_forest_of : Fun K "forest_of" "forest_of" s_forest_of f_forest_of d_forest_of
  b_forest_of : Binds K d_forest_of ["hall"] []
  m_forest_of : mg "forest_of" = some (.ref f_forest_of)
  f_divisor : Addr
  d_divisor : FuncData
  F_divisor : Fun K "divisor" "divisor" s_divisor f_divisor d_divisor
  b_divisor : Binds K d_divisor ["one", "other"] []
  m_divisor : mg "divisor" = some (.ref f_divisor)
  f_ratio : Addr
  d_ratio : FuncData
  F_ratio : Fun K "ratio" "ratio" s_ratio f_ratio d_ratio
  b_ratio : Binds K d_ratio ["top", "bottom"] []
  m_ratio : mg "ratio" = some (.ref f_ratio)
  f_times : Addr
  d_times : FuncData
  F_times : Fun K "times" "times" s_times f_times d_times
  b_times : Binds K d_times ["one", "other"] []
  m_times : mg "times" = some (.ref f_times)
  f_gain : Addr
  d_gain : FuncData
  F_gain : Fun K "gain" "gain" s_gain f_gain d_gain
  b_gain : Binds K d_gain ["row", "along"] []
  m_gain : mg "gain" = some (.ref f_gain)
  f_is_whole : Addr
  d_is_whole : FuncData
  F_is_whole : Fun K "is_whole" "is_whole" s_is_whole f_is_whole d_is_whole
  b_is_whole : Binds K d_is_whole ["thing"] []
  m_is_whole : mg "is_whole" = some (.ref f_is_whole)
  f_is_from : Addr
  d_is_from : FuncData
  F_is_from : Fun K "is_from" "is_from" s_is_from f_is_from d_is_from
  b_is_from : Binds K d_is_from ["thing", "least"] []
  m_is_from : mg "is_from" = some (.ref f_is_from)
  f_is_number_below : Addr
  d_is_number_below : FuncData
  F_is_number_below : Fun K "is_number_below" "is_number_below" s_is_number_below f_is_number_below d_is_number_below
  b_is_number_below : Binds K d_is_number_below ["thing", "bound"] []
  m_is_number_below : mg "is_number_below" = some (.ref f_is_number_below)
  f_Hall_need_belt : Addr
  d_Hall_need_belt : FuncData
  F_Hall_need_belt : Fun K "need_belt" "Hall.need_belt" s_Hall_need_belt f_Hall_need_belt d_Hall_need_belt
  b_Hall_need_belt : Binds K d_Hall_need_belt ["self", "belt"] []
  f_Hall_belt_at : Addr
  d_Hall_belt_at : FuncData
  F_Hall_belt_at : Fun K "belt_at" "Hall.belt_at" s_Hall_belt_at f_Hall_belt_at d_Hall_belt_at
  b_Hall_belt_at : Binds K d_Hall_belt_at ["self", "belt"] []
  f_shares_of : Addr
  d_shares_of : FuncData
  F_shares_of : Fun K "shares_of" "shares_of" s_shares_of f_shares_of d_shares_of
  b_shares_of : Binds K d_shares_of ["hall", "tree"] []
  m_shares_of : mg "shares_of" = some (.ref f_shares_of)
  f_multiple : Addr
  d_multiple : FuncData
  F_multiple : Fun K "multiple" "multiple" s_multiple f_multiple d_multiple
  b_multiple : Binds K d_multiple ["one", "other"] []
  m_multiple : mg "multiple" = some (.ref f_multiple)
  f_rates_by : Addr
  d_rates_by : FuncData
  F_rates_by : Fun K "rates_by" "rates_by" s_rates_by f_rates_by d_rates_by
  b_rates_by : Binds K d_rates_by ["hall", "forest"] []
  m_rates_by : mg "rates_by" = some (.ref f_rates_by)
  f_change_of : Addr
  d_change_of : FuncData
  F_change_of : Fun K "change_of" "change_of" s_change_of f_change_of d_change_of
  b_change_of : Binds K d_change_of ["hall", "counts"] []
  m_change_of : mg "change_of" = some (.ref f_change_of)
  f_way_to : Addr
  d_way_to : FuncData
  F_way_to : Fun K "way_to" "way_to" s_way_to f_way_to d_way_to
  b_way_to : Binds K d_way_to ["tree", "work"] []
  m_way_to : mg "way_to" = some (.ref f_way_to)
  f_shared_steps : Addr
  d_shared_steps : FuncData
  F_shared_steps : Fun K "shared_steps" "shared_steps" s_shared_steps f_shared_steps d_shared_steps
  b_shared_steps : Binds K d_shared_steps ["one", "other"] []
  m_shared_steps : mg "shared_steps" = some (.ref f_shared_steps)
  f_ring_through : Addr
  d_ring_through : FuncData
  F_ring_through : Fun K "ring_through" "ring_through" s_ring_through f_ring_through d_ring_through
  b_ring_through : Binds K d_ring_through ["hall", "forest", "belt"] []
  m_ring_through : mg "ring_through" = some (.ref f_ring_through)
  f_rates_of : Addr
  d_rates_of : FuncData
  F_rates_of : Fun K "rates_of" "rates_of" s_rates_of f_rates_of d_rates_of
  b_rates_of : Binds K d_rates_of ["hall"] []
  m_rates_of : mg "rates_of" = some (.ref f_rates_of)
  f_l_reached : Addr
  d_l_reached : FuncData
  F_l_reached : Fun K "_law_reached" "_law_reached" s_l_reached f_l_reached d_l_reached
  b_l_reached : Binds K d_l_reached ["_law_lines_here", "_law_first", "_law_many"] []
  m_l_reached : mg "_law_reached" = some (.ref f_l_reached)
  f_l_counts : Addr
  d_l_counts : FuncData
  F_l_counts : Fun K "_law_counts" "_law_counts" s_l_counts f_l_counts d_l_counts
  b_l_counts : Binds K d_l_counts ["_law_script", "_law_sizes", "_law_rates", "_law_lines_here"] []
  m_l_counts : mg "_law_counts" = some (.ref f_l_counts)
  f_l_long : Addr
  d_l_long : FuncData
  F_l_long : Fun K "_law_long" "_law_long" s_l_long f_l_long d_l_long
  b_l_long : Binds K d_l_long ["_law_script", "_law_sizes"] []
  m_l_long : mg "_law_long" = some (.ref f_l_long)
  f_l_name : Addr
  d_l_name : FuncData
  F_l_name : Fun K "_law_name" "_law_name" s_l_name f_l_name d_l_name
  b_l_name : Binds K d_l_name ["_law_k"] []
  m_l_name : mg "_law_name" = some (.ref f_l_name)
  f_l_ring_good : Addr
  d_l_ring_good : FuncData
  F_l_ring_good : Fun K "_law_ring_good" "_law_ring_good" s_l_ring_good f_l_ring_good d_l_ring_good
  b_l_ring_good : Binds K d_l_ring_good ["_law_ring", "_law_lines_here"] []
  m_l_ring_good : mg "_law_ring_good" = some (.ref f_l_ring_good)
  f_l_rates_good : Addr
  d_l_rates_good : FuncData
  F_l_rates_good : Fun K "_law_rates_good" "_law_rates_good" s_l_rates_good f_l_rates_good d_l_rates_good
  b_l_rates_good : Binds K d_l_rates_good ["_law_rates", "_law_lines_here", "_law_many"] []
  m_l_rates_good : mg "_law_rates_good" = some (.ref f_l_rates_good)
  f_is_name : Addr
  d_is_name : FuncData
  F_is_name : Fun K "is_name" "is_name" s_is_name f_is_name d_is_name
  b_is_name : Binds K d_is_name ["thing"] []
  m_is_name : mg "is_name" = some (.ref f_is_name)
  f_Hall_work : Addr
  d_Hall_work : FuncData
  F_Hall_work : Fun K "work" "Hall.work" s_Hall_work f_Hall_work d_Hall_work
  b_Hall_work : Binds K d_Hall_work ["self", "name"] []
  f_need_start : Addr
  d_need_start : FuncData
  F_need_start : Fun K "need_start" "need_start" s_need_start f_need_start d_need_start
  b_need_start : Binds K d_need_start ["start"] []
  m_need_start : mg "need_start" = some (.ref f_need_start)
  f_Hall_need_work : Addr
  d_Hall_need_work : FuncData
  F_Hall_need_work : Fun K "need_work" "Hall.need_work" s_Hall_need_work f_Hall_need_work d_Hall_need_work
  b_Hall_need_work : Binds K d_Hall_need_work ["self", "work"] []
  f_Hall_lay : Addr
  d_Hall_lay : FuncData
  F_Hall_lay : Fun K "lay" "Hall.lay" s_Hall_lay f_Hall_lay d_Hall_lay
  b_Hall_lay : Binds K d_Hall_lay ["self", "row"] []
  f_Hall_belt : Addr
  d_Hall_belt : FuncData
  dT_Hall_belt : Addr
  dk0_Hall_belt : Tok
  F_Hall_belt : FunD K "belt" "Hall.belt" s_Hall_belt dT_Hall_belt f_Hall_belt d_Hall_belt
  b_Hall_belt : Binds K d_Hall_belt ["self", "giver", "taker", "give", "take", "start"] []
  b1_Hall_belt : Binds K d_Hall_belt ["self", "giver", "taker", "give", "take", "start"] [.int 0 dk0_Hall_belt]
  v1_Hall_belt : Vals [.int 0] [.int 0 dk0_Hall_belt]
  f_Hall_init : Addr
  d_Hall_init : FuncData
  F_Hall_init : Fun K "__init__" "Hall.__init__" s_Hall_init f_Hall_init d_Hall_init
  b_Hall_init : Binds K d_Hall_init ["self"] []
  f_law : Addr
  d_law : FuncData
  F_law : Fun K "law" "law" s_law f_law d_law
  b_law : Binds K d_law ["_law_script"] []
  m_law : mg "law" = some (.ref f_law)
  C_Hall : Addr
  cl_Hall : Cls K C_Hall
  g_Hall : mg "Hall" = some (.ref C_Hall)
  na_Hall : NoAttrs K C_Hall ["numbers", "rows"]
  M_Hall_belts : Meth K C_Hall "belts" f_Hall_belts
  M_Hall_names : Meth K C_Hall "names" f_Hall_names
  M_Hall_need_belt : Meth K C_Hall "need_belt" f_Hall_need_belt
  M_Hall_belt_at : Meth K C_Hall "belt_at" f_Hall_belt_at
  M_Hall_work : Meth K C_Hall "work" f_Hall_work
  M_Hall_need_work : Meth K C_Hall "need_work" f_Hall_need_work
  M_Hall_lay : Meth K C_Hall "lay" f_Hall_lay
  M_Hall_belt : Meth K C_Hall "belt" f_Hall_belt
  mk_Hall : Mk K C_Hall f_Hall_init
  n_all : mg "all" = none
  n_bool : mg "bool" = none
  n_enumerate : mg "enumerate" = none
  n_int : mg "int" = none
  n_isinstance : mg "isinstance" = none
  n_len : mg "len" = none
  n_list : mg "list" = none
  n_min : mg "min" = none
  n_range : mg "range" = none
  n_reversed : mg "reversed" = none
  n_set : mg "set" = none
  n_str : mg "str" = none
  n_tuple : mg "tuple" = none
  X_NoName : Addr
  gx_NoName : PySem.W.nsIn K mainGlobals "NoName" = some (some (.ref X_NoName))
  mx_NoName : mg "NoName" = some (.ref X_NoName)
  ex_NoName : PySem.W.excIn K X_NoName [.type "ValueError", .type "Exception", .type "BaseException", .type "object"] "ValueError.__new__" = true
  X_Twice : Addr
  gx_Twice : PySem.W.nsIn K mainGlobals "Twice" = some (some (.ref X_Twice))
  mx_Twice : mg "Twice" = some (.ref X_Twice)
  ex_Twice : PySem.W.excIn K X_Twice [.type "ValueError", .type "Exception", .type "BaseException", .type "object"] "ValueError.__new__" = true
  X_TooMuch : Addr
  gx_TooMuch : PySem.W.nsIn K mainGlobals "TooMuch" = some (some (.ref X_TooMuch))
  mx_TooMuch : mg "TooMuch" = some (.ref X_TooMuch)
  ex_TooMuch : PySem.W.excIn K X_TooMuch [.type "ValueError", .type "Exception", .type "BaseException", .type "object"] "ValueError.__new__" = true
  X_NoWork : Addr
  gx_NoWork : PySem.W.nsIn K mainGlobals "NoWork" = some (some (.ref X_NoWork))
  mx_NoWork : mg "NoWork" = some (.ref X_NoWork)
  ex_NoWork : PySem.W.excIn K X_NoWork [.type "ValueError", .type "Exception", .type "BaseException", .type "object"] "ValueError.__new__" = true
  X_NoBelt : Addr
  gx_NoBelt : PySem.W.nsIn K mainGlobals "NoBelt" = some (some (.ref X_NoBelt))
  mx_NoBelt : mg "NoBelt" = some (.ref X_NoBelt)
  ex_NoBelt : PySem.W.excIn K X_NoBelt [.type "ValueError", .type "Exception", .type "BaseException", .type "object"] "ValueError.__new__" = true
  X_NoRate : Addr
  gx_NoRate : PySem.W.nsIn K mainGlobals "NoRate" = some (some (.ref X_NoRate))
  mx_NoRate : mg "NoRate" = some (.ref X_NoRate)
  ex_NoRate : PySem.W.excIn K X_NoRate [.type "ValueError", .type "Exception", .type "BaseException", .type "object"] "ValueError.__new__" = true
  tk_MOST_LETTERS : Tok
  c_MOST_LETTERS : mg "MOST_LETTERS" = some (.int 8 tk_MOST_LETTERS)
  tk_MOST_WORKS : Tok
  c_MOST_WORKS : mg "MOST_WORKS" = some (.int 30 tk_MOST_WORKS)
  tk_MOST_BELTS : Tok
  c_MOST_BELTS : mg "MOST_BELTS" = some (.int 60 tk_MOST_BELTS)
  bl_law : ∀ (s : Shared) (v : Value), BindsTo s d_law ⟨[v], []⟩ [("_law_script", v)]
theorem G_turn' {a b : Int} (ha : 0 ≤ a) (hb : 0 < b) : My.G b (a % b) = My.G a b := by
  rw [← Int.fmod_eq_emod_of_nonneg _ (Int.le_of_lt hb)]
  exact My.G_turn ha hb
theorem log_of {k : Nat} {x : Int} (h : My.S k x) (hk : k ≤ 2) : x.natAbs.log2 < 9000 := by
  by_cases h0 : x.natAbs = 0
  · rw [h0]; decide +kernel
  · have e : x.natAbs = x.toNat := by have := h.lo; omega
    have l := (Nat.log2_lt h0).mpr (by rw [e]; exact (h.mono hk).hi)
    omega
def spLaw (K : PySem.W.Frag) : Sp := fun vs H Q _ => ∃ (a : Addr) (ns : List Int), vs = [.ref a] ∧ SqL K H a (ns.map V.int) ∧ ns.length ≤ 63 ∧ ∀ H', Q (.bl true) H'
def sp_law {K : PySem.W.Frag} {mg : Str → Option Value} (T : Tp K mg) : Sp := spLaw K
def isName (x : Str) : Bool := decide (1 ≤ x.length) && decide (x.length ≤ 8) && x.cps.toList.all fun c => decide (97 ≤ c) && decide (c ≤ 122)
structure B5 where
  giver : Int
  taker : Int
  give : Int
  take : Int
  start : Int
def B5.v (b : B5) : List V := [.int b.giver, .int b.taker, .int b.give, .int b.take, .int b.start]
structure HM where
  names : List Str
  belts : List B5
def Tups (H : Hp) : List V → List B5 → Prop := Paired fun v b => ∃ t, v = .ref t ∧ H t = some (.tup b.v)
def numsOf (ns : List Str) : List (Key × V) := ns.zipIdx.map fun p => (Sum.inr p.1, V.int p.2)
theorem numsOf_len (ns : List Str) : (numsOf ns).length = ns.length := by unfold numsOf; simp
theorem numsOf_snoc (ns : List Str) (x : Str) : numsOf (ns ++ [x]) = numsOf ns ++ [(Sum.inr x, .int ns.length)] := by
  unfold numsOf
  rw [List.zipIdx_append]
  simp
theorem numsOf_keys (ns : List Str) : ((numsOf ns).map fun kv => kV kv.1) = ns.map V.str := by
  unfold numsOf
  rw [List.map_map]
  have : ((fun kv : Key × V => kV kv.1) ∘ fun p : Str × Nat => ((Sum.inr p.1 : Key), V.int p.2)) = (V.str ∘ fun p : Str × Nat => p.1) := rfl
  rw [this, ← List.map_map, List.zipIdx_map_fst]
theorem numsOf_in (ns : List Str) (x : Str) : (valV (numsOf ns) (Sum.inr x)).isSome = decide (x ∈ ns) := by
  rw [← valV_any]
  rw [Bool.eq_iff_iff, List.any_eq_true, decide_eq_true_eq]
  have e : x ∈ ns ↔ V.str x ∈ ns.map V.str := by
    constructor
    · exact List.mem_map_of_mem
    · intro h
      obtain ⟨y, hy, e⟩ := List.mem_map.mp h
      cases e
      exact hy
  rw [e, ← numsOf_keys, List.mem_map]
  constructor
  · rintro ⟨p, hp, h⟩
    exact ⟨p, hp, by rw [of_decide_eq_true h]; rfl⟩
  · rintro ⟨p, hp, h⟩
    exact ⟨p, hp, decide_eq_true (kV_inj h)⟩
theorem numsOf_none {ns : List Str} {x : Str} (h : x ∉ ns) : valV (numsOf ns) (Sum.inr x) = none := by
  have := numsOf_in ns x
  rw [decide_eq_false h] at this
  cases e : valV (numsOf ns) (Sum.inr x) with
  | none => rfl
  | some v => rw [e] at this; cases this
theorem numsOf_put {ns : List Str} {x : Str} (h : x ∉ ns) : putK (numsOf ns) (Sum.inr x) (.int ns.length) = numsOf (ns ++ [x]) := by
  rw [putK_new _ (numsOf_none h), numsOf_snoc]
def HallAt {K : PySem.W.Frag} {mg : Str → Option Value} (T : Tp K mg) (H : Hp) (p : Addr) (hl : HM) (fp : List Addr) : Prop :=
  ∃ (dx a b : Addr) (bs : List V), fp = [p, dx, a, b] ∧ H p = some (.ins T.C_Hall dx [("numbers", .ref a), ("rows", .ref b)]) ∧ H dx = some (.own p) ∧ H a = some (.dK (numsOf hl.names)) ∧ H b = some (.lst bs) ∧ a ≠ b ∧ Tups H bs hl.belts
theorem Tups.keep {H H' : Hp} (t : ∀ b xs, H b = some (.tup xs) → H' b = some (.tup xs)) : ∀ {bs : List V} {ls : List B5}, Tups H bs ls → Tups H' bs ls
  | _, _, .nil => .nil
  | _, _, .cons ⟨a, e, h⟩ r => .cons ⟨a, e, t _ _ h⟩ (Tups.keep t r)
theorem Tups.length {H : Hp} {bs : List V} {ls : List B5} (h : Tups H bs ls) : bs.length = ls.length := Paired.length h
theorem Tups.snoc {H : Hp} : ∀ {bs : List V} {ls : List B5} {t : Addr} {b : B5}, Tups H bs ls → H t = some (.tup b.v) → Tups H (bs ++ [.ref t]) (ls ++ [b])
  | _, _, _, _, .nil, h => .cons ⟨_, rfl, h⟩ .nil
  | _, _, _, _, .cons x r, h => .cons x (Tups.snoc r h)
theorem Tups.at {H : Hp} : ∀ {bs : List V} {ls : List B5} {i : Nat} {b : B5}, Tups H bs ls → ls[i]? = some b → ∃ t, bs[i]? = some (.ref t) ∧ H t = some (.tup b.v)
  | _, _, _, _, .nil, e => by simp at e
  | _, _, 0, _, .cons ⟨t, e1, h⟩ _, e => by simp at e; subst e; exact ⟨t, by simp [e1], h⟩
  | _, _, i + 1, b, .cons _ r, e => by
    obtain ⟨t, h1, h2⟩ := Tups.at (i := i) (b := b) r (by simpa using e)
    exact ⟨t, by simpa using h1, h2⟩
section
variable {K : PySem.W.Frag} {mg : Str → Option Value} {T : Tp K mg} {H H' : Hp} {p : Addr} {hl : HM} {fp : List Addr}
theorem HallAt.dom (h : HallAt T H p hl fp) : ∀ x ∈ fp, H x ≠ none := by
  obtain ⟨dx, a, b, bs, rfl, h1, h2, h3, h4, _⟩ := h
  intro x hx
  simp only [List.mem_cons, List.not_mem_nil, or_false] at hx
  rcases hx with rfl | rfl | rfl | rfl
  · rw [h1]; simp
  · rw [h2]; simp
  · rw [h3]; simp
  · rw [h4]; simp
theorem HallAt.keep (h : HallAt T H p hl fp) (k : ∀ x ∈ fp, H' x = H x) (t : ∀ b xs, H b = some (.tup xs) → H' b = some (.tup xs)) : HallAt T H' p hl fp := by
  obtain ⟨dx, a, b, bs, rfl, h1, h2, h3, h4, h5, h6⟩ := h
  exact ⟨dx, a, b, bs, rfl, (k p (by simp)).trans h1, (k dx (by simp)).trans h2, (k a (by simp)).trans h3, (k b (by simp)).trans h4, h5, h6.keep t⟩
theorem HallAt.off {A : List Addr} (h : HallAt T H p hl fp) (f : Frame A H H') (d : ∀ x ∈ fp, x ∉ A) : HallAt T H' p hl fp := by
  refine h.keep (fun x hx => ?_) f.tups
  cases q : H x with
  | none => exact absurd q (h.dom x hx)
  | some o => exact f.keep x o q (d x hx)
theorem Hall_meth {m : Str} {G : Prop} (h : HallAt T H p hl fp) (m1 : (m == "numbers") = false) (m2 : (m == "rows") = false) (q : G) : ∃ a dx fs, V.ref p = .ref a ∧ H a = some (.ins T.C_Hall dx fs) ∧ fs.lookup m = none ∧ G := by
  obtain ⟨dx, a, b, bs, rfl, h1, _⟩ := h
  exact ⟨p, dx, _, rfl, h1, Rd.lk1 m1 (Rd.lk1 m2 Rd.lkN), q⟩
theorem HallAt.same (h : HallAt T H p hl fp) (e : Same H H') : HallAt T H' p hl fp := h.off (A := []) e.frame (by simp)
end
def dB : B5 := ⟨0, 0, 0, 0, 0⟩
theorem Tups.getD {H : Hp} {bs : List V} {ls : List B5} {i : Nat} (h : Tups H bs ls) (hi : i < ls.length) : ∃ t, bs.getD i .non = .ref t ∧ H t = some (.tup (ls.getD i dB).v) := by
  obtain ⟨t, h1, h2⟩ := h.at (List.getElem?_eq_getElem hi)
  exact ⟨t, by simp [List.getD, h1], by simpa [List.getD, hi] using h2⟩
def cellM (ns : List Int) (k : Int) : Int := if k < ns.length then ns.getD k.toNat 0 else if (ns.length : Int) = 0 then k else ns.getD (k % ns.length).toNat 0 * 31 + k
@[irreducible] def mixed (ns : List Int) (k : Int) : Int := (cellM ns k % 2147483629 * 16807 + 54321) % 2147483629
theorem mixed_eq (ns : List Int) (k : Int) : (cellM ns k % 2147483629 * 16807 + 54321) % 2147483629 = mixed ns k := by unfold mixed; rfl
theorem mixed_lo (ns : List Int) (k : Int) : 0 ≤ mixed ns k := by unfold mixed; omega
theorem mixed_hi (ns : List Int) (k : Int) : mixed ns k < 2147483629 := by unfold mixed; omega
theorem at_ints {ns : List Int} {k : Int} (h0 : 0 ≤ k) (h1 : k < ns.length) : atI (ns.map V.int) k = some (.int (ns.getD k.toNat 0)) := by
  obtain ⟨n, rfl⟩ := Int.eq_ofNat_of_zero_le h0
  have hn : n < ns.length := by omega
  refine atI_nat ?_
  simp [List.getD, hn]
def nameN (k : Nat) : Str := if k < 8 then Txt.slice "hgfedcba" (some (k : Int)) none else ⟨#[97 + k % 26]⟩ ++ "zz"
theorem nameN_ok : ∀ k < 30, isName (nameN k) = true := by decide +kernel
theorem nameN_new : ∀ k < 30, nameN k ∉ (List.range k).map nameN := by decide +kernel
theorem abc_at : ∀ i < 26, ("abcdefghijklmnopqrstuvwxyz" : Str).cps.toList[i]? = some (97 + i) := by decide +kernel
theorem abc_len : ("abcdefghijklmnopqrstuvwxyz" : Str).length ≤ sizeLine := by decide +kernel
theorem hgf_len : ("hgfedcba" : Str).length ≤ sizeLine := by decide +kernel
theorem small1000' {n : Nat} (h : n ≤ 10000) : n < sizeLine := Nat.lt_of_le_of_lt h (by decide)
def wayAt (ls : List B5) (i : Nat) (w : Int) : List Fo.Trip := (if (ls.getD i dB).giver = w then [((ls.getD i dB).taker, (i : Int), true)] else []) ++ (if (ls.getD i dB).taker = w then [((ls.getD i dB).giver, (i : Int), false)] else [])
def waysTo (ls : List B5) (k : Nat) (w : Int) : List Fo.Trip := (List.range k).flatMap fun i => wayAt ls i w
def waysL (ls : List B5) : Int → List Fo.Trip := waysTo ls ls.length
theorem waysTo_succ (ls : List B5) (k : Nat) (w : Int) : waysTo ls (k + 1) w = waysTo ls k w ++ wayAt ls k w := by
  unfold waysTo
  rw [List.range_succ, List.flatMap_append]
  simp
theorem nd_inj {α : Type} {xs : List α} (nd : xs.Nodup) {i j : Nat} (hi : i < xs.length) (hj : j < xs.length) (e : xs[i] = xs[j]) : i = j := by
  rcases Nat.lt_trichotomy i j with h | h | h
  · exact absurd e (List.pairwise_iff_getElem.mp nd i j hi hj h)
  · exact h
  · exact absurd e.symm (List.pairwise_iff_getElem.mp nd j i hj hi h)
theorem same_none {H H' : Hp} {x : Addr} (s : Same H H') (h : H' x = none) : H x = none := by
  cases e : H x with
  | none => rfl
  | some o => rw [s _ _ e] at h; cases h
theorem getD_of {α : Type} {xs : List α} {i : Nat} {d : α} (h : i < xs.length) : xs.getD i d = xs[i] := by simp [List.getD, h]
theorem mem_ways {ls : List B5} {w : Int} {t : Fo.Trip} (h : t ∈ waysL ls w) : ∃ (i : Nat) (hi : i < ls.length), t ∈ wayAt ls i w := by
  unfold waysL waysTo at h
  obtain ⟨i, hi, ht⟩ := List.mem_flatMap.mp h
  exact ⟨i, List.mem_range.mp hi, ht⟩
theorem ways_mem {ls : List B5} {w : Int} {t : Fo.Trip} {i : Nat} (hi : i < ls.length) (h : t ∈ wayAt ls i w) : t ∈ waysL ls w := by
  unfold waysL waysTo
  exact List.mem_flatMap.mpr ⟨i, List.mem_range.mpr hi, h⟩
theorem mem_wayAt {ls : List B5} {i : Nat} {w : Int} {t : Fo.Trip} : t ∈ wayAt ls i w ↔ ((ls.getD i dB).giver = w ∧ t = ((ls.getD i dB).taker, (i : Int), true)) ∨ ((ls.getD i dB).taker = w ∧ t = ((ls.getD i dB).giver, (i : Int), false)) := by
  unfold wayAt
  rw [List.mem_append]
  by_cases h1 : (ls.getD i dB).giver = w <;> by_cases h2 : (ls.getD i dB).taker = w <;> simp [h1, h2]
theorem ways_both (ls : List B5) : Fo.Both (waysL ls) := by
  intro a b t al h
  obtain ⟨i, hi, ht⟩ := mem_ways h
  refine ways_mem hi ?_
  rw [mem_wayAt] at ht ⊢
  rcases ht with ⟨h1, h2⟩ | ⟨h1, h2⟩
  · injection h2 with e1 e2
    injection e2 with e2 e3
    exact .inr ⟨e1.symm, by rw [← h1, e2, e3]; rfl⟩
  · injection h2 with e1 e2
    injection e2 with e2 e3
    exact .inl ⟨e1.symm, by rw [← h1, e2, e3]; rfl⟩
def Between (ls : List B5) (n : Nat) : Prop := ∀ b ∈ ls, 0 ≤ b.giver ∧ b.giver < (n : Int) ∧ 0 ≤ b.taker ∧ b.taker < (n : Int)
theorem Between.at {ls : List B5} {n i : Nat} (h : Between ls n) (hi : i < ls.length) : 0 ≤ (ls.getD i dB).giver ∧ (ls.getD i dB).giver < (n : Int) ∧ 0 ≤ (ls.getD i dB).taker ∧ (ls.getD i dB).taker < (n : Int) := by
  rw [getD_of hi]; exact h _ (List.getElem_mem hi)
theorem ways_rg {ls : List B5} {n : Nat} (h : Between ls n) : ∀ a, ∀ t ∈ waysL ls a, 0 ≤ t.1 ∧ t.1 < (n : Int) := by
  intro a t ht
  obtain ⟨i, hi, hm⟩ := mem_ways ht
  have := h.at hi
  rw [mem_wayAt] at hm
  rcases hm with ⟨_, rfl⟩ | ⟨_, rfl⟩ <;> (dsimp only; omega)
def Trips (H : Hp) : List Fo.Trip → List V → Prop := Paired fun x v => ∃ t, v = .ref t ∧ H t = some (.tup [.int x.1, .int x.2.1, .bl x.2.2])
theorem Trips.keep {H H' : Hp} (t : ∀ b xs, H b = some (.tup xs) → H' b = some (.tup xs)) {vs : List V} {l : List Fo.Trip} (h : Trips H l vs) : Trips H' l vs := Paired.mapP h fun _ _ ⟨a, e, z⟩ => ⟨a, e, t _ _ z⟩
theorem Trips.snoc {H : Hp} : ∀ {l : List Fo.Trip} {vs : List V} {x : Fo.Trip} {t : Addr}, Trips H l vs → H t = some (.tup [.int x.1, .int x.2.1, .bl x.2.2]) → Trips H (l ++ [x]) (vs ++ [.ref t])
  | _, _, _, _, .nil, h => .cons ⟨_, rfl, h⟩ .nil
  | _, _, _, _, .cons y r, h => .cons y (Trips.snoc r h)
theorem Trips.length {H : Hp} {l : List Fo.Trip} {vs : List V} (h : Trips H l vs) : l.length = vs.length := Paired.length h
theorem Trips.at {H : Hp} : ∀ {l : List Fo.Trip} {vs : List V} {i : Nat} {x : Fo.Trip}, Trips H l vs → l[i]? = some x → ∃ t, vs[i]? = some (.ref t) ∧ H t = some (.tup [.int x.1, .int x.2.1, .bl x.2.2])
  | _, _, _, _, .nil, e => by simp at e
  | _, _, 0, _, .cons ⟨t, e1, h⟩ _, e => by simp at e; subst e; exact ⟨t, by simp [e1], h⟩
  | _, _, i + 1, b, .cons _ r, e => by
    obtain ⟨t, h1, h2⟩ := Trips.at (i := i) (x := b) r (by simpa using e)
    exact ⟨t, by simpa using h1, h2⟩
def WA (H : Hp) (ia : List Addr) (W : Int → List Fo.Trip) : Prop := ∀ (j : Nat) (h : j < ia.length), ∃ vs, H ia[j] = some (.lst vs) ∧ Trips H (W (j : Int)) vs
theorem WA.same {H H' : Hp} {ia : List Addr} {W : Int → List Fo.Trip} (h : WA H ia W) (s : Same H H') : WA H' ia W := fun j hj => by
  obtain ⟨vs, h1, h2⟩ := h j hj
  exact ⟨vs, s _ _ h1, h2.keep fun _ _ e => s _ _ e⟩
theorem WA.add {H : Hp} {ia : List Addr} {W : Int → List Fo.Trip} (h : WA H ia W) (nd : ia.Nodup) {g : Nat} (hg : g < ia.length) {vs : List V} (hv : H ia[g] = some (.lst vs)) (ht : Trips H (W (g : Int)) vs) {t : Addr} {x : Fo.Trip} (htt : H t = some (.tup [.int x.1, .int x.2.1, .bl x.2.2])) :
    WA (upd H ia[g] (.lst (vs ++ [.ref t]))) ia (fun j => W j ++ (if (g : Int) = j then [x] else [])) := by
  have fr : ∀ b xs, H b = some (.tup xs) → (upd H ia[g] (.lst (vs ++ [.ref t]))) b = some (.tup xs) := fun b xs e => by rw [upd_ne (ne_of e hv (by intro z; cases z))]; exact e
  intro j hj
  by_cases e : j = g
  · subst e
    refine ⟨vs ++ [.ref t], upd_same, ?_⟩
    dsimp only
    rw [if_pos rfl]
    exact (ht.keep fr).snoc (fr _ _ htt)
  · obtain ⟨us, h1, h2⟩ := h j hj
    have ne : ia[j] ≠ ia[g] := fun z => e (nd_inj nd hj hg z)
    refine ⟨us, by rw [upd_ne ne]; exact h1, ?_⟩
    dsimp only
    rw [if_neg (by omega), List.append_nil]
    exact h2.keep fr
structure WaysAt (H : Hp) (r : Addr) (ia : List Addr) (n : Nat) (W : Int → List Fo.Trip) : Prop where
  at_ : H r = some (.lst (ia.map V.ref))
  len : ia.length = n
  nd : ia.Nodup
  wa : WA H ia W
theorem WaysAt.same {H H' : Hp} {r : Addr} {ia : List Addr} {n : Nat} {W : Int → List Fo.Trip} (h : WaysAt H r ia n W) (s : Same H H') : WaysAt H' r ia n W := ⟨s _ _ h.at_, h.len, h.nd, h.wa.same s⟩
theorem at_refs {ia : List Addr} {g : Int} (h0 : 0 ≤ g) (h1 : g.toNat < ia.length) : atI (ia.map V.ref) g = some (.ref ia[g.toNat]) := by
  have := atI_nat (xs := ia.map V.ref) (j := g.toNat) (v := .ref ia[g.toNat]) (by simp [h1])
  rwa [Int.toNat_of_nonneg h0] at this
def StepAt (H : Hp) (v : V) : Option Fo.Trip → Prop
  | none => v = .non
  | some (p, b, al) => ∃ t, v = .ref t ∧ H t = some (.tup [.int p, .int b, .bl al])
theorem StepAt.keep {H H' : Hp} (t : ∀ b xs, H b = some (.tup xs) → H' b = some (.tup xs)) {v : V} : ∀ {s : Option Fo.Trip}, StepAt H v s → StepAt H' v s
  | none, h => h
  | some (_, _, _), ⟨a, e, z⟩ => ⟨a, e, t _ _ z⟩
def Ent (H : Hp) : List (Key × V) → Fo.Tree → Prop := Paired fun kv x => kv.1 = Sum.inl x.1 ∧ StepAt H kv.2 x.2
theorem Ent.keep {H H' : Hp} (t : ∀ b xs, H b = some (.tup xs) → H' b = some (.tup xs)) {kvs : List (Key × V)} {tr : Fo.Tree} (h : Ent H kvs tr) : Ent H' kvs tr := Paired.mapP h fun _ _ ⟨a, z⟩ => ⟨a, z.keep t⟩
theorem Ent.snoc {H : Hp} : ∀ {kvs : List (Key × V)} {tr : Fo.Tree} {w : Int} {v : V} {s : Option Fo.Trip}, Ent H kvs tr → StepAt H v s → Ent H (kvs ++ [(Sum.inl w, v)]) (tr ++ [(w, s)])
  | _, _, _, _, _, .nil, h => .cons ⟨rfl, h⟩ .nil
  | _, _, _, _, _, .cons y r, h => .cons y (Ent.snoc r h)
theorem Ent.length {H : Hp} {kvs : List (Key × V)} {tr : Fo.Tree} (h : Ent H kvs tr) : kvs.length = tr.length := Paired.length h
theorem Ent.keys {H : Hp} : ∀ {kvs : List (Key × V)} {tr : Fo.Tree}, Ent H kvs tr → kvs.map (·.1) = (Fo.keys tr).map Sum.inl
  | _, _, .nil => rfl
  | _, _, .cons ⟨a, _⟩ r => by
    have := Ent.keys r
    unfold Fo.keys at this ⊢
    rw [List.map_cons, List.map_cons, List.map_cons, a, this]
theorem Ent.some {H : Hp} : ∀ {kvs : List (Key × V)} {tr : Fo.Tree} {w : Int}, Ent H kvs tr → ((valV kvs (Sum.inl w)).isSome = true ↔ w ∈ Fo.keys tr) := by
  intro kvs tr w h
  rw [← valV_any, List.any_eq_true]
  have hk := h.keys
  constructor
  · rintro ⟨kv, hm, e⟩
    have e1 : kv.1 = Sum.inl w := of_decide_eq_true e
    have : kv.1 ∈ kvs.map (·.1) := List.mem_map_of_mem hm
    rw [hk, e1] at this
    obtain ⟨w', hw', e2⟩ := List.mem_map.mp this
    cases e2
    exact hw'
  · intro hw
    have : (Sum.inl w : Key) ∈ (Fo.keys tr).map Sum.inl := List.mem_map_of_mem hw
    rw [← hk] at this
    obtain ⟨kv, hm, e⟩ := List.mem_map.mp this
    exact ⟨kv, hm, decide_eq_true e⟩
def TreeAt (H : Hp) (d : Addr) (tr : Fo.Tree) : Prop := ∃ kvs, H d = some (.dK kvs) ∧ Ent H kvs tr
theorem TreeAt.same {H H' : Hp} {d : Addr} {tr : Fo.Tree} (h : TreeAt H d tr) (s : Same H H') : TreeAt H' d tr := by
  obtain ⟨kvs, h1, h2⟩ := h
  exact ⟨kvs, s _ _ h1, h2.keep fun _ _ e => s _ _ e⟩
theorem merge_some : ∀ (more kvs : List (Key × V)) (k : Key), (valV (mergeK kvs more) k).isSome = ((valV kvs k).isSome || (valV more k).isSome)
  | [], kvs, k => by
    show (valV kvs k).isSome = ((valV kvs k).isSome || (valV ([] : List (Key × V)) k).isSome)
    have : valV ([] : List (Key × V)) k = none := rfl
    rw [this, Option.isSome_none, Bool.or_false]
  | (j, v) :: r, kvs, k => by
    show (valV (mergeK (putK kvs j v) r) k).isSome = _
    rw [merge_some r (putK kvs j v) k, valV_put]
    by_cases e : j = k
    · subst e
      rw [if_pos rfl, valV_pos rfl]
      simp
    · rw [if_neg (fun z => e z.symm), valV_neg e]
theorem Paired.get' {α β : Type} {P : α → β → Prop} : ∀ {xs : List α} {ys : List β} {i : Nat} {x : α}, Paired P xs ys → xs[i]? = some x → ∃ y, ys[i]? = some y ∧ P x y
  | _, _, _, _, .nil, e => by simp at e
  | _, _, 0, _, .cons h _, e => by simp at e; subst e; exact ⟨_, rfl, h⟩
  | _, _, i + 1, x, .cons _ r, e => by
    obtain ⟨y, h1, h2⟩ := Paired.get' (i := i) (x := x) r (by simpa using e)
    exact ⟨y, by simpa using h1, h2⟩
def Trees (H : Hp) : List Addr → List (Int × Fo.Tree) → Prop := Paired fun d x => TreeAt H d x.2
theorem Trees.same {H H' : Hp} {ds : List Addr} {F : List (Int × Fo.Tree)} (h : Trees H ds F) (s : Same H H') : Trees H' ds F := Paired.mapP h fun _ _ z => z.same s
theorem Trees.snoc {H : Hp} : ∀ {ds : List Addr} {F : List (Int × Fo.Tree)} {d : Addr} {x : Int × Fo.Tree}, Trees H ds F → TreeAt H d x.2 → Trees H (ds ++ [d]) (F ++ [x])
  | _, _, _, _, .nil, h => .cons h .nil
  | _, _, _, _, .cons y r, h => .cons y (Trees.snoc r h)
theorem Trees.keep {H H' : Hp} (t : ∀ b xs, H b = some (.tup xs) → H' b = some (.tup xs)) : ∀ {ds : List Addr} {F : List (Int × Fo.Tree)}, Trees H ds F → (∀ d ∈ ds, ∀ kvs, H d = some (.dK kvs) → H' d = some (.dK kvs)) → Trees H' ds F
  | _, _, .nil, _ => .nil
  | _, _, .cons ⟨kvs, h1, h2⟩ r, k => .cons ⟨kvs, k _ (by simp) _ h1, h2.keep t⟩ (Trees.keep t r fun d hd => k d (List.mem_cons_of_mem _ hd))
theorem Trees.length {H : Hp} {ds : List Addr} {F : List (Int × Fo.Tree)} (h : Trees H ds F) : ds.length = F.length := Paired.length h
structure ForestAt (H : Hp) (f : Addr) (ds : List Addr) (F : List (Int × Fo.Tree)) : Prop where
  at_ : H f = some (.lst (ds.map V.ref))
  trees : Trees H ds F
theorem bitsN {n a : Nat} (h : a < 2 ^ n) : Builtin.Int.intBits (a : Int) ≤ n := by
  unfold Builtin.Int.intBits
  split
  · exact Nat.zero_le _
  · rename_i hz
    have h0 : (a : Int).natAbs ≠ 0 := by
      intro e
      apply hz
      have : (a : Int) = 0 := by omega
      rw [this]
      rfl
    have e : (a : Int).natAbs = a := Int.natAbs_natCast a
    have := (Nat.log2_lt h0).mpr (by rw [e]; exact h)
    omega
theorem mulN {n m a b : Nat} (ha : a < 2 ^ n) (hb : b < 2 ^ m) (h : n + m ≤ 10000000) : IntMulOk (a : Int) (b : Int) := by
  have b1 := bitsN ha
  have b2 := bitsN hb
  have k : Builtin.Int.intTooBig ((Builtin.Int.intBits (a : Int) : Int) + (Builtin.Int.intBits (b : Int) : Int)) = false := by
    unfold Builtin.Int.intTooBig
    rw [PySem.bitsLine_eq]
    exact decide_eq_false (by omega)
  unfold IntMulOk
  rw [k]
  simp
theorem logN {a : Nat} (h : a < 2 ^ 8000) : (a : Int).natAbs.log2 < 9000 := by
  rw [Int.natAbs_natCast]
  by_cases h0 : a = 0
  · rw [h0]; decide +kernel
  · have := (Nat.log2_lt h0).mpr h
    omega
theorem divN {a b : Nat} (hb : 0 < b) (h : b < 2 ^ 8000) : 0 < (b : Int) ∧ (b : Int).natAbs.log2 < 9000 := ⟨by omega, logN h⟩
theorem mul_lt_pow {a b n m : Nat} (ha : a < 2 ^ n) (hb : b < 2 ^ m) : a * b < 2 ^ (n + m) := by
  rw [Nat.pow_add]
  exact Nat.mul_lt_mul'' ha hb
def Bal (B : B5) (al : Bool) (x y : Nat × Nat) : Prop := if al = true then x.1 * y.2 * B.take.toNat = y.1 * x.2 * B.give.toNat else x.1 * y.2 * B.give.toNat = y.1 * x.2 * B.take.toNat
structure GoodSh (ls : List B5) (tr : Fo.Tree) (zs : List (Int × (Nat × Nat))) (d : Nat) : Prop where
  keys : zs.map (·.1) = (Fo.keys tr).take d
  pos : ∀ x ∈ zs, 0 < x.2.1 ∧ 0 < x.2.2 ∧ Nat.gcd x.2.1 x.2.2 = 1
  size : ∀ (i : Nat) x, zs[i]? = some x → x.2.1 < 2 ^ (110 * i + 1) ∧ x.2.2 < 2 ^ (110 * i + 1)
  first : ∀ (i : Nat) (w : Int), i < d → tr[i]? = some (w, none) → zs[i]? = some (w, (1, 1))
  step : ∀ (i : Nat) (w p b : Int) (al : Bool), i < d → tr[i]? = some (w, some (p, b, al)) → ∃ (j : Nat) (x y : Nat × Nat), j < i ∧ zs[i]? = some (w, x) ∧ zs[j]? = some (p, y) ∧ Bal (ls.getD b.toNat dB) al x y
theorem good_nil {ls : List B5} {tr : Fo.Tree} : GoodSh ls tr [] 0 := ⟨rfl, by simp, by simp, fun i w h => absurd h (Nat.not_lt_zero _), fun i w p b al h => absurd h (Nat.not_lt_zero _)⟩
theorem GoodSh.len {ls : List B5} {tr : Fo.Tree} {zs : List (Int × (Nat × Nat))} {d : Nat} (h : GoodSh ls tr zs d) (hd : d ≤ tr.length) : zs.length = d := by
  have := congrArg List.length h.keys
  rw [List.length_map, List.length_take] at this
  simp [Fo.keys] at this
  omega
theorem zat_snoc {α : Type} {zs : List α} {x y : α} {i : Nat} (h : (zs ++ [x])[i]? = some y) : zs[i]? = some y ∨ (i = zs.length ∧ y = x) := by
  rcases Nat.lt_or_ge i zs.length with c | c
  · rw [List.getElem?_append_left c] at h; exact .inl h
  · rw [List.getElem?_append_right c] at h
    have : i - zs.length = 0 := by
      rcases Nat.eq_zero_or_pos (i - zs.length) with z | z
      · exact z
      · rw [List.getElem?_eq_none (by simp; omega)] at h; cases h
    rw [this] at h
    simp at h
    exact .inr ⟨by omega, h.symm⟩
theorem zsnoc_at {α : Type} {zs : List α} {x y : α} {i : Nat} (h : zs[i]? = some y) : (zs ++ [x])[i]? = some y := by
  rw [List.getElem?_append_left (List.getElem?_eq_some_iff.mp h).1]; exact h
theorem zsnoc_last {α : Type} {zs : List α} {x : α} : (zs ++ [x])[zs.length]? = some x := by rw [List.getElem?_append_right (Nat.le_refl _), Nat.sub_self]; rfl
theorem GoodSh.more {ls : List B5} {tr : Fo.Tree} {zs : List (Int × (Nat × Nat))} {d : Nat} (h : GoodSh ls tr zs d) (hd : d < tr.length) {w : Int} {st : Option Fo.Trip} (e : tr[d]? = some (w, st)) {x : Nat × Nat} (hp : 0 < x.1 ∧ 0 < x.2 ∧ Nat.gcd x.1 x.2 = 1) (hs : x.1 < 2 ^ (110 * d + 1) ∧ x.2 < 2 ^ (110 * d + 1))
    (hn : st = none → x = (1, 1)) (hst : ∀ p b al, st = some (p, b, al) → ∃ (j : Nat) (y : Nat × Nat), zs[j]? = some (p, y) ∧ Bal (ls.getD b.toNat dB) al x y) : GoodSh ls tr (zs ++ [(w, x)]) (d + 1) := by
  have hl := h.len (Nat.le_of_lt hd)
  have hk : (Fo.keys tr)[d]? = some w := by unfold Fo.keys; rw [List.getElem?_map, e]; rfl
  refine ⟨?_, fun y hy => ?_, fun i y hy => ?_, fun i w' hi e' => ?_, fun i w' p b al hi e' => ?_⟩
  · rw [List.map_append, h.keys, List.take_succ, hk]; rfl
  · rcases List.mem_append.mp hy with z | z
    · exact h.pos y z
    · rw [List.mem_singleton.mp z]; exact hp
  · rcases zat_snoc hy with z | ⟨z1, z2⟩
    · exact h.size i y z
    · rw [z2, z1, hl]; exact hs
  · rcases Nat.lt_succ_iff_lt_or_eq.mp hi with z | z
    · exact zsnoc_at (h.first i w' z e')
    · subst z
      rw [e] at e'
      cases e'
      rw [hn rfl, ← hl]
      exact zsnoc_last
  · rcases Nat.lt_succ_iff_lt_or_eq.mp hi with z | z
    · obtain ⟨j, x', y', h1, h2, h3, h4⟩ := h.step i w' p b al z e'
      exact ⟨j, x', y', h1, zsnoc_at h2, zsnoc_at h3, h4⟩
    · subst z
      rw [e] at e'
      cases e'
      obtain ⟨j, y, h1, h2⟩ := hst p b al rfl
      have hj := (List.getElem?_eq_some_iff.mp h1).1
      refine ⟨j, x, y, by omega, ?_, zsnoc_at h1, h2⟩
      rw [← hl]
      exact zsnoc_last
def ShE (H : Hp) : List (Key × V) → List (Int × (Nat × Nat)) → Prop := Paired fun kv x => kv.1 = Sum.inl x.1 ∧ ∃ t, kv.2 = .ref t ∧ H t = some (.tup [.int (x.2.1 : Nat), .int (x.2.2 : Nat)])
theorem ShE.keep {H H' : Hp} (t : ∀ b xs, H b = some (.tup xs) → H' b = some (.tup xs)) {kvs : List (Key × V)} {zs : List (Int × (Nat × Nat))} (h : ShE H kvs zs) : ShE H' kvs zs := Paired.mapP h fun _ _ ⟨a, c, e, z⟩ => ⟨a, c, e, t _ _ z⟩
theorem ShE.snoc {H : Hp} : ∀ {kvs : List (Key × V)} {zs : List (Int × (Nat × Nat))} {w : Int} {t : Addr} {x : Nat × Nat}, ShE H kvs zs → H t = some (.tup [.int (x.1 : Nat), .int (x.2 : Nat)]) → ShE H (kvs ++ [(Sum.inl w, .ref t)]) (zs ++ [(w, x)])
  | _, _, _, _, _, .nil, h => .cons ⟨rfl, _, rfl, h⟩ .nil
  | _, _, _, _, _, .cons y r, h => .cons y (ShE.snoc r h)
theorem ShE.length {H : Hp} {kvs : List (Key × V)} {zs : List (Int × (Nat × Nat))} (h : ShE H kvs zs) : kvs.length = zs.length := Paired.length h
theorem ShE.get {H : Hp} : ∀ {kvs : List (Key × V)} {zs : List (Int × (Nat × Nat))} {p : Int}, ShE H kvs zs → p ∈ zs.map (·.1) → ∃ (y : Nat × Nat) (t : Addr), (p, y) ∈ zs ∧ valV kvs (Sum.inl p) = some (.ref t) ∧ H t = some (.tup [.int (y.1 : Nat), .int (y.2 : Nat)])
  | _, _, _, .nil, h => by simp at h
  | _, _, p, .cons (a := kv) (b := z) ⟨a, t, e, ht⟩ r, h => by
    obtain ⟨k, v⟩ := kv
    obtain ⟨w, x⟩ := z
    dsimp only at a e ht
    subst a e
    by_cases c : w = p
    · subst c
      exact ⟨x, t, by simp, valV_pos rfl, ht⟩
    · have h' : p ∈ _ := (List.mem_cons.mp h).resolve_left (fun y => c y.symm)
      obtain ⟨y, t', h1, h2, h3⟩ := ShE.get r h'
      exact ⟨y, t', List.mem_cons_of_mem _ h1, by rw [valV_neg (fun y => c (Sum.inl.inj y))]; exact h2, h3⟩
theorem ShE.none {H : Hp} {kvs : List (Key × V)} {zs : List (Int × (Nat × Nat))} {p : Int} (h : ShE H kvs zs) (hp : p ∉ zs.map (·.1)) : valV kvs (Sum.inl p) = none := by
  cases e : valV kvs (Sum.inl p) with
  | none => rfl
  | some v =>
    exfalso
    have : (valV kvs (Sum.inl p)).isSome = true := by rw [e]; rfl
    rw [← valV_any, List.any_eq_true] at this
    obtain ⟨kv, hm, e2⟩ := this
    obtain ⟨i, hi, rfl⟩ := List.getElem_of_mem hm
    obtain ⟨z, hz, a, _⟩ := Paired.get' h (List.getElem?_eq_getElem hi)
    have e3 : kvs[i].1 = Sum.inl p := of_decide_eq_true e2
    rw [a] at e3
    have : z.1 = p := Sum.inl.inj e3
    exact hp (List.mem_map.mpr ⟨z, List.mem_of_getElem? hz, this⟩)
theorem share_step {y u : Nat × Nat} {x : Nat × Nat} {gv tk G n : Nat} (y0 : 0 < y.1) (y1 : 0 < y.2) (g0 : 0 < gv) (t0 : 0 < tk) (hu : u.1 = gv / G) (hv : u.2 = tk / G) (hG : G = Nat.gcd gv tk) (hx : x.1 = y.1 * u.1 / Nat.gcd (y.1 * u.1) (y.2 * u.2)) (hx2 : x.2 = y.2 * u.2 / Nat.gcd (y.1 * u.1) (y.2 * u.2)) :
    (0 < x.1 ∧ 0 < x.2 ∧ Nat.gcd x.1 x.2 = 1) ∧ x.1 * y.2 * tk = y.1 * x.2 * gv ∧ x.1 ≤ y.1 * gv ∧ x.2 ≤ y.2 * tk := by
  have Gp : 0 < G := by rw [hG]; exact Nat.gcd_pos_of_pos_left _ g0
  have d1 : G ∣ gv := by rw [hG]; exact Nat.gcd_dvd_left _ _
  have d2 : G ∣ tk := by rw [hG]; exact Nat.gcd_dvd_right _ _
  have e1 : gv = u.1 * G := by rw [hu, Nat.div_mul_cancel d1]
  have e2 : tk = u.2 * G := by rw [hv, Nat.div_mul_cancel d2]
  have u0 : 0 < u.1 := by rcases Nat.eq_zero_or_pos u.1 with z | z; rw [z, Nat.zero_mul] at e1; omega; exact z
  have v0 : 0 < u.2 := by rcases Nat.eq_zero_or_pos u.2 with z | z; rw [z, Nat.zero_mul] at e2; omega; exact z
  have A0 : 0 < y.1 * u.1 := Nat.mul_pos y0 u0
  have B0 : 0 < y.2 * u.2 := Nat.mul_pos y1 v0
  have gp : 0 < Nat.gcd (y.1 * u.1) (y.2 * u.2) := Nat.gcd_pos_of_pos_left _ A0
  have c1 : x.1 * Nat.gcd (y.1 * u.1) (y.2 * u.2) = y.1 * u.1 := by rw [hx, Nat.div_mul_cancel (Nat.gcd_dvd_left _ _)]
  have c2 : x.2 * Nat.gcd (y.1 * u.1) (y.2 * u.2) = y.2 * u.2 := by rw [hx2, Nat.div_mul_cancel (Nat.gcd_dvd_right _ _)]
  refine ⟨⟨?_, ?_, ?_⟩, ?_, ?_, ?_⟩
  · rw [hx]; exact Nat.div_pos (Nat.le_of_dvd A0 (Nat.gcd_dvd_left _ _)) gp
  · rw [hx2]; exact Nat.div_pos (Nat.le_of_dvd B0 (Nat.gcd_dvd_right _ _)) gp
  · rw [hx, hx2]; exact Nat.gcd_div_gcd_div_gcd_of_pos_left A0
  · generalize Nat.gcd (y.1 * u.1) (y.2 * u.2) = g at *
    have k : x.1 * (y.2 * u.2) = (y.1 * u.1) * x.2 := by rw [← c2, ← c1, Nat.mul_comm x.2 g, Nat.mul_assoc]
    calc x.1 * y.2 * tk = x.1 * (y.2 * u.2) * G := by rw [e2]; simp only [Nat.mul_assoc]
      _ = (y.1 * u.1) * x.2 * G := by rw [k]
      _ = y.1 * x.2 * gv := by rw [e1, Nat.mul_right_comm y.1 u.1 x.2, Nat.mul_assoc (y.1 * x.2)]
  · have h1 : x.1 ≤ y.1 * u.1 := by rw [hx]; exact Nat.div_le_self _ _
    have h2 : u.1 ≤ gv := by rw [hu]; exact Nat.div_le_self _ _
    exact Nat.le_trans h1 (Nat.mul_le_mul_left _ h2)
  · have h1 : x.2 ≤ y.2 * u.2 := by rw [hx2]; exact Nat.div_le_self _ _
    have h2 : u.2 ≤ tk := by rw [hv]; exact Nat.div_le_self _ _
    exact Nat.le_trans h1 (Nat.mul_le_mul_left _ h2)
theorem ent_at {H : Hp} {kvs : List (Key × V)} {tr : Fo.Tree} {i : Nat} {kv : Key × V} (h : Ent H kvs tr) (e : kvs[i]? = some kv) : ∃ w st, tr[i]? = some (w, st) ∧ kv.1 = Sum.inl w ∧ StepAt H kv.2 st := by
  obtain ⟨⟨w, st⟩, h1, h2, h3⟩ := Paired.get' h e
  exact ⟨w, st, h1, h2, h3⟩
theorem rd_some {H : Hp} {a : Addr} {u : HO} (h : L2.Rd H a u) : H a ≠ none := by
  rcases h with h | ⟨o, h⟩ <;> (rw [h]; simp)
theorem rd_frame {H : Hp} {d : Addr} {kvs : List (Key × V)} {o : Obj} (h : L2.Rd H d (.dK kvs)) : Frame [d] H (upd H d (.frz o (.dK kvs))) := by
  refine ⟨fun b x e n => ?_, fun b xs e => ?_⟩
  · rw [upd_ne (fun z => n (by simp [z]))]; exact e
  · have : b ≠ d := fun z => by
      rw [z] at e
      rcases h with h | ⟨o', h⟩ <;> (rw [h] at e; cases e)
    rw [upd_ne this]; exact e
def SizedL (ls : List B5) : Prop := ∀ i < ls.length, ∃ gv tk, 0 < gv ∧ 0 < tk ∧ gv < 2 ^ 110 ∧ tk < 2 ^ 110 ∧ (ls.getD i dB).give = ((gv : Nat) : Int) ∧ (ls.getD i dB).take = ((tk : Nat) : Int)
theorem wood_disj {ls : List B5} {n : Nat} {F : List (Int × Fo.Tree)} (hb : Between ls n) (hw : Fo.Wood (waysL ls) n F n) {i j : Nat} {x y : Int × Fo.Tree} (hi : F[i]? = some x) (hj : F[j]? = some y) (ne : i ≠ j) : ∀ w ∈ Fo.keys x.2, w ∉ Fo.keys y.2 := by
  intro w h1 h2
  obtain ⟨g1, c1, _, _⟩ := hw.tree x (List.mem_of_getElem? hi)
  obtain ⟨g2, c2, _, _⟩ := hw.tree y (List.mem_of_getElem? hj)
  have a1 := (g1.keys_iff c1 w).mp h1
  have a2 := (g2.keys_iff c2 w).mp h2
  have e1 := hw.least x (List.mem_of_getElem? hi) y.1 ((g1.keys_iff c1 _).mpr (a1.trans (a2.symm (ways_both ls))))
  have e2 := hw.least y (List.mem_of_getElem? hj) x.1 ((g2.keys_iff c2 _).mpr (a2.trans (a1.symm (ways_both ls))))
  obtain ⟨hi', ei⟩ := List.getElem?_eq_some_iff.mp hi
  obtain ⟨hj', ej⟩ := List.getElem?_eq_some_iff.mp hj
  rcases Nat.lt_or_gt_of_ne ne with z | z
  · have := List.pairwise_iff_getElem.mp hw.rise i j hi' hj' z
    rw [ei, ej] at this
    omega
  · have := List.pairwise_iff_getElem.mp hw.rise j i hj' hi' z
    rw [ei, ej] at this
    omega
theorem paired_mem {α β : Type} {P P' : α → β → Prop} : ∀ {xs : List α} {ys : List β}, Paired P xs ys → (∀ x y, x ∈ xs → P x y → P' x y) → Paired P' xs ys
  | _, _, .nil, _ => .nil
  | _, _, .cons h r, f => .cons (f _ _ (by simp) h) (paired_mem r fun x y hx => f x y (List.mem_cons_of_mem _ hx))
def TreesR (H : Hp) : List Addr → List (Int × Fo.Tree) → Prop := Paired fun d x => ∃ kvs, L2.Rd H d (.dK kvs) ∧ Ent H kvs x.2
theorem Trees.r {H : Hp} {ds : List Addr} {F : List (Int × Fo.Tree)} (h : Trees H ds F) : TreesR H ds F := Paired.mapP h fun _ _ ⟨kvs, a, b⟩ => ⟨kvs, .inl a, b⟩
theorem TreesR.same {H H' : Hp} {ds : List Addr} {F : List (Int × Fo.Tree)} (h : TreesR H ds F) (s : Same H H') : TreesR H' ds F := Paired.mapP h fun _ _ ⟨kvs, a, b⟩ => ⟨kvs, a.imp (s _ _) (fun ⟨o, z⟩ => ⟨o, s _ _ z⟩), b.keep fun _ _ e => s _ _ e⟩
theorem TreesR.length {H : Hp} {ds : List Addr} {F : List (Int × Fo.Tree)} (h : TreesR H ds F) : ds.length = F.length := Paired.length h
theorem rd_inj {H : Hp} {d : Addr} {k1 k2 : List (Key × V)} (h1 : L2.Rd H d (.dK k1)) (h2 : L2.Rd H d (.dK k2)) : k1 = k2 := by
  rcases h1 with a | ⟨o1, a⟩ <;> rcases h2 with b | ⟨o2, b⟩ <;> (rw [a] at b; cases b) <;> rfl
theorem TreesR.frz {H : Hp} {ds : List Addr} {F : List (Int × Fo.Tree)} (h : TreesR H ds F) {d : Addr} {kvs : List (Key × V)} {o : Obj} (hd : L2.Rd H d (.dK kvs)) : TreesR (upd H d (.frz o (.dK kvs))) ds F := Paired.mapP h fun d' _ ⟨k, a, b⟩ => by
  refine ⟨k, ?_, b.keep (rd_frame hd).tups⟩
  by_cases z : d' = d
  · subst z
    rw [rd_inj a hd]
    exact .inr ⟨o, upd_same⟩
  · rcases a with a | ⟨o', a⟩
    · exact .inl (by rw [upd_ne z]; exact a)
    · exact .inr ⟨o', by rw [upd_ne z]; exact a⟩
def lcmL (zs : List (Int × (Nat × Nat))) : Nat := zs.foldl (fun c x => Nat.lcm c x.2.2) 1
theorem lcmL_snoc (zs : List (Int × (Nat × Nat))) (x : Int × (Nat × Nat)) : lcmL (zs ++ [x]) = Nat.lcm (lcmL zs) x.2.2 := by unfold lcmL; rw [List.foldl_append]; rfl
theorem lcm_code {a b : Nat} : a / Nat.gcd a b * b = Nat.lcm a b := by
  unfold Nat.lcm
  rw [Nat.div_mul_right_comm (Nat.gcd_dvd_left a b)]
theorem lcm_lt {a b n m : Nat} (ha : a < 2 ^ n) (hb : b < 2 ^ m) : Nat.lcm a b < 2 ^ (n + m) := by
  unfold Nat.lcm
  exact Nat.lt_of_le_of_lt (Nat.div_le_self _ _) (mul_lt_pow ha hb)
def SetIn (ls : List B5) (x : Int × Fo.Tree) (rs : List Int) : Prop := ∃ zs, GoodSh ls x.2 zs x.2.length ∧ ∀ y ∈ zs, rs[y.1.toNat]? = some ((lcmL zs / y.2.2 * y.2.1 : Nat) : Int)
def chgI (cs : List Int) (b : B5) : Int := cs.getD b.giver.toNat 0 * b.give - cs.getD b.taker.toNat 0 * b.take
structure Rated (ls : List B5) (n : Nat) (rs : List Int) : Prop where
  len : rs.length = n
  pos : ∀ c ∈ rs, ∃ k : Nat, c = (k : Int) ∧ 0 < k ∧ k < 2 ^ 420000
theorem dvd_foldl : ∀ (zs : List (Int × (Nat × Nat))) (c : Nat), c ∣ zs.foldl (fun c x => Nat.lcm c x.2.2) c ∧ ∀ y ∈ zs, y.2.2 ∣ zs.foldl (fun c x => Nat.lcm c x.2.2) c
  | [], c => ⟨Nat.dvd_refl _, by simp⟩
  | z :: zs, c => by
    obtain ⟨h1, h2⟩ := dvd_foldl zs (Nat.lcm c z.2.2)
    refine ⟨Nat.dvd_trans (Nat.dvd_lcm_left _ _) h1, fun y hy => ?_⟩
    rcases List.mem_cons.mp hy with rfl | hy
    · exact Nat.dvd_trans (Nat.dvd_lcm_right _ _) h1
    · exact h2 y hy
theorem foldl_dvd : ∀ (zs : List (Int × (Nat × Nat))) (c m : Nat), c ∣ m → (∀ y ∈ zs, y.2.2 ∣ m) → zs.foldl (fun c x => Nat.lcm c x.2.2) c ∣ m
  | [], _, _, h, _ => h
  | z :: zs, c, m, h, k => foldl_dvd zs _ m (Nat.lcm_dvd h (k z (by simp))) fun y hy => k y (List.mem_cons_of_mem _ hy)
theorem den_dvd {zs : List (Int × (Nat × Nat))} {y : Int × (Nat × Nat)} (h : y ∈ zs) : y.2.2 ∣ lcmL zs := (dvd_foldl zs 1).2 y h
theorem lcmL_dvd {zs : List (Int × (Nat × Nat))} {m : Nat} (h : ∀ y ∈ zs, y.2.2 ∣ m) : lcmL zs ∣ m := foldl_dvd zs 1 m (Nat.one_dvd m) h
theorem lcmL_pos {zs : List (Int × (Nat × Nat))} (h : ∀ y ∈ zs, 0 < y.2.2) : 0 < lcmL zs := by
  unfold lcmL
  have key : ∀ (zs : List (Int × (Nat × Nat))) (c : Nat), 0 < c → (∀ y ∈ zs, 0 < y.2.2) → 0 < zs.foldl (fun c x => Nat.lcm c x.2.2) c := by
    intro zs
    induction zs with
    | nil => intro c hc _; exact hc
    | cons z zs ih => intro c hc k; exact ih _ (Nat.lcm_pos hc (k z (by simp))) fun y hy => k y (List.mem_cons_of_mem _ hy)
  exact key zs 1 (by decide) h
theorem rates_least {ls : List B5} {tr : Fo.Tree} {first : Int} {ways : Int → List Fo.Trip} {zs : List (Int × (Nat × Nat))} (hg : Fo.Grown ways first tr) (h : GoodSh ls tr zs tr.length) {k : Nat} (hk : ∀ y ∈ zs, k ∣ lcmL zs / y.2.2 * y.2.1) : k = 1 := by
  have hl0 : 0 < tr.length := (List.getElem?_eq_some_iff.mp hg.head).1
  have h0 := List.mem_of_getElem? (h.first 0 first hl0 hg.head)
  have kC : k ∣ lcmL zs := by
    have := hk _ h0
    simpa using this
  have Cp : 0 < lcmL zs := lcmL_pos fun y hy => (h.pos y hy).2.1
  obtain ⟨c, hc⟩ := kC
  have k0 : 0 < k := by
    rcases Nat.eq_zero_or_pos k with z | z
    · rw [z, Nat.zero_mul] at hc; omega
    · exact z
  have all : ∀ y ∈ zs, y.2.2 ∣ c := by
    intro y hy
    obtain ⟨p1, p2, p3⟩ := h.pos y hy
    obtain ⟨m, hm⟩ := hk y hy
    have e1 : lcmL zs / y.2.2 * y.2.2 = lcmL zs := Nat.div_mul_cancel (den_dvd hy)
    have e2 : k * (c * y.2.1) = k * (y.2.2 * m) := by
      calc k * (c * y.2.1) = lcmL zs * y.2.1 := by rw [hc, Nat.mul_assoc]
        _ = (lcmL zs / y.2.2 * y.2.1) * y.2.2 := by
          conv => lhs; rw [← e1]
          rw [Nat.mul_right_comm]
        _ = k * m * y.2.2 := by rw [hm]
        _ = k * (y.2.2 * m) := by rw [Nat.mul_assoc, Nat.mul_comm m]
    have e3 := Nat.eq_of_mul_eq_mul_left k0 e2
    have d : y.2.2 ∣ c * y.2.1 := ⟨m, e3⟩
    exact Nat.Coprime.dvd_of_dvd_mul_right (show Nat.gcd y.2.2 y.2.1 = 1 by rw [Nat.gcd_comm]; exact p3) d
  have hd := lcmL_dvd all
  rw [hc] at hd
  have c0 : 0 < c := by
    rcases Nat.eq_zero_or_pos c with z | z
    · rw [z, Nat.mul_zero] at hc; omega
    · exact z
  have := Nat.le_of_dvd c0 hd
  rcases Nat.lt_or_ge k 2 with z | z
  · omega
  · have : 2 * c ≤ k * c := Nat.mul_le_mul_right c z
    omega
theorem lcmL_lt {zs : List (Int × (Nat × Nat))} (h : ∀ y ∈ zs, y.2.2 < 2 ^ 6700) : lcmL zs < 2 ^ (6700 * zs.length + 1) := by
  have key : ∀ (zs : List (Int × (Nat × Nat))) (c n : Nat), c < 2 ^ n → (∀ y ∈ zs, y.2.2 < 2 ^ 6700) → zs.foldl (fun c x => Nat.lcm c x.2.2) c < 2 ^ (n + 6700 * zs.length) := by
    intro zs
    induction zs with
    | nil => intro c n hc _; simpa using hc
    | cons z zs ih =>
      intro c n hc k
      have := ih (Nat.lcm c z.2.2) (n + 6700) (lcm_lt hc (k z (by simp))) fun y hy => k y (List.mem_cons_of_mem _ hy)
      have e : n + 6700 + 6700 * zs.length = n + 6700 * (z :: zs).length := by simp [Nat.mul_succ]; omega
      rw [e] at this
      exact this
  have := key zs 1 1 (by decide) h
  rw [Nat.add_comm]
  exact this
section
variable {ls : List B5} {n : Nat} {F : List (Int × Fo.Tree)} {rs : List Int}
theorem zs_key {x : Int × Fo.Tree} {zs : List (Int × (Nat × Nat))} (h : GoodSh ls x.2 zs x.2.length) {w : Int} (hw : w ∈ Fo.keys x.2) : ∃ y ∈ zs, y.1 = w := by
  have h1 := h.keys
  have h2 : (Fo.keys x.2).take x.2.length = Fo.keys x.2 := List.take_of_length_le (by simp [Fo.keys])
  rw [h2] at h1
  rw [← h1] at hw
  obtain ⟨y, hy, e⟩ := List.mem_map.mp hw
  exact ⟨y, hy, e⟩
theorem rated_of (hbt : Between ls n) (hn : n ≤ 60) (hwd : Fo.Wood (waysL ls) n F n) (hrl : rs.length = n) (hset : ∀ x ∈ F, SetIn ls x rs) : Rated ls n rs := by
  refine ⟨hrl, fun c hc => ?_⟩
  obtain ⟨i, hi, rfl⟩ := List.getElem_of_mem hc
  obtain ⟨x, hx, hk⟩ := hwd.all (i : Int) (by omega) (by omega)
  obtain ⟨zs, hg, hz⟩ := hset x hx
  obtain ⟨y, hy, ey⟩ := zs_key hg hk
  have h1 := hz y hy
  rw [ey, Int.toNat_natCast, List.getElem?_eq_getElem hi] at h1
  obtain ⟨g, gg, g0, g1⟩ := hwd.tree x hx
  have htl : x.2.length ≤ 60 := by
    have := Fo.len_le (n := n) g.nodup (g.rg ⟨g0, g1⟩ (ways_rg hbt))
    simp [Fo.keys] at this
    omega
  have hzl := hg.len (Nat.le_refl _)
  have sz : ∀ y ∈ zs, y.2.1 < 2 ^ 6700 ∧ y.2.2 < 2 ^ 6700 := fun y hy => by
    obtain ⟨j, hj⟩ := List.getElem?_of_mem hy
    have hjl := (List.getElem?_eq_some_iff.mp hj).1
    obtain ⟨a, b⟩ := hg.size j y hj
    have e : (2 : Nat) ^ (110 * j + 1) ≤ 2 ^ 6700 := Nat.pow_le_pow_right (by decide) (by omega)
    exact ⟨Nat.lt_of_lt_of_le a e, Nat.lt_of_lt_of_le b e⟩
  have hC := lcmL_lt fun y hy => (sz y hy).2
  obtain ⟨p1, p2, _⟩ := hg.pos y hy
  refine ⟨_, Option.some.inj h1, Nat.mul_pos (Nat.div_pos (Nat.le_of_dvd (lcmL_pos fun y hy => (hg.pos y hy).2.1) (den_dvd hy)) p2) p1, ?_⟩
  refine Nat.lt_of_lt_of_le (mul_lt_pow (Nat.lt_of_le_of_lt (Nat.div_le_self _ _) hC) (sz y hy).1) (Nat.pow_le_pow_right (by decide) ?_)
  have : 6700 * zs.length ≤ 6700 * 60 := Nat.mul_le_mul_left _ (by omega)
  omega
end
inductive Path (tr : Fo.Tree) : Int → List (Int × Bool) → Prop
  | root {w : Int} {i : Nat} : tr[i]? = some (w, none) → Path tr w []
  | step {w p b : Int} {al : Bool} {i : Nat} {ps : List (Int × Bool)} : tr[i]? = some (w, some (p, b, al)) → Path tr p ps → Path tr w (ps ++ [(b, al)])
theorem ent_val {H : Hp} : ∀ {kvs : List (Key × V)} {tr : Fo.Tree} {i : Nat} {w : Int} {s : Option Fo.Trip}, Ent H kvs tr → (Fo.keys tr).Nodup → tr[i]? = some (w, s) → ∃ v, valV kvs (Sum.inl w) = some v ∧ StepAt H v s
  | _, _, _, _, _, .nil, _, h => by simp at h
  | kv :: _, z :: _, 0, w, s, .cons ⟨a, e⟩ r, nd, h => by
    obtain ⟨k, v⟩ := kv
    obtain rfl : z = (w, s) := by simpa using h
    dsimp only at a e
    subst a
    exact ⟨v, valV_pos rfl, e⟩
  | kv :: _, z :: tr, i + 1, w, s, .cons ⟨a, e⟩ r, nd, h => by
    obtain ⟨k, v⟩ := kv
    obtain ⟨w', x⟩ := z
    dsimp only at a e
    subst a
    have h' : tr[i]? = some (w, s) := by simpa using h
    have nd' : (w' :: Fo.keys tr).Nodup := nd
    have c : w' ≠ w := fun y => (List.nodup_cons.mp nd').1 (y ▸ Fo.mem_keys h')
    obtain ⟨v', h1, h2⟩ := ent_val r (List.nodup_cons.mp nd').2 h'
    exact ⟨v', by rw [valV_neg (fun y => c (Sum.inl.inj y))]; exact h1, h2⟩
def Paces (H : Hp) : List V → List (Int × Bool) → Prop := Paired fun v x => ∃ t, v = .ref t ∧ H t = some (.tup [.int x.1, .bl x.2])
theorem Paces.keep {H H' : Hp} (t : ∀ b xs, H b = some (.tup xs) → H' b = some (.tup xs)) {vs : List V} {l : List (Int × Bool)} (h : Paces H vs l) : Paces H' vs l := Paired.mapP h fun _ _ ⟨a, e, z⟩ => ⟨a, e, t _ _ z⟩
theorem Paces.snoc {H : Hp} : ∀ {vs : List V} {l : List (Int × Bool)} {x : Int × Bool} {t : Addr}, Paces H vs l → H t = some (.tup [.int x.1, .bl x.2]) → Paces H (vs ++ [.ref t]) (l ++ [x])
  | _, _, _, _, .nil, h => .cons ⟨_, rfl, h⟩ .nil
  | _, _, _, _, .cons y r, h => .cons y (Paces.snoc r h)
theorem Paces.rev {H : Hp} : ∀ {vs : List V} {l : List (Int × Bool)}, Paces H vs l → Paces H vs.reverse l.reverse
  | _, _, .nil => .nil
  | _, _, .cons ⟨t, e, h⟩ r => by
    subst e
    rw [List.reverse_cons, List.reverse_cons]
    exact Paces.snoc (Paces.rev r) h
theorem Paces.length {H : Hp} {vs : List V} {l : List (Int × Bool)} (h : Paces H vs l) : vs.length = l.length := Paired.length h
theorem rd_same {H H' : Hp} {d : Addr} {kvs : List (Key × V)} (h : L2.Rd H d (.dK kvs)) (s : Same H H') : L2.Rd H' d (.dK kvs) := h.imp (s _ _) (fun ⟨o, z⟩ => ⟨o, s _ _ z⟩)
def ringOf (bi : Int) (pg pt : List (Int × Bool)) (k : Nat) : List (Int × Bool) := (bi, true) :: ((pt.drop k).reverse.map fun x => (x.1, !x.2)) ++ pg.drop k
theorem eqv_pace (a b : Int) (x y : Bool) : PyData.eqv (.tuple [.int a, .bool x]) (.tuple [.int b, .bool y]) = decide (a = b ∧ x = y) := by
  cases x <;> cases y <;> simp [PyData.eqv, PyData.eqvAll] <;> by_cases h : a = b <;> simp [h]
theorem rel_pace {K : PySem.W.Frag} {H : Hp} {t : Addr} {a : Int} {x : Bool} (h : H t = some (.tup [.int a, .bl x])) : DRel K H (.ref t) (.tuple [.int a, .bool x]) := .tup (.of h) (.cons (.int _) (.cons (.bl _) .nil))
theorem lay_pace (a : Int) (x : Bool) : (PyData.tuple [.int a, .bool x]).canLay0 = true := by simp [PyData.canLay0, PyData.canLayAll0]
theorem depth_pace (a : Int) (x : Bool) : (PyData.tuple [.int a, .bool x]).depth ≤ 60 := by simp [PyData.depth, PyData.depthAll]
theorem pace_at {H : Hp} : ∀ {vs : List V} {ps : List (Int × Bool)} {i : Nat} {x : Int × Bool}, Paces H vs ps → ps[i]? = some x → ∃ t, vs[i]? = some (.ref t) ∧ H t = some (.tup [.int x.1, .bl x.2])
  | _, _, _, _, .nil, e => by simp at e
  | _, _, 0, _, .cons ⟨t, e1, h⟩ _, e => by simp at e; subst e; exact ⟨t, by simp [e1], h⟩
  | _, _, i + 1, x, .cons _ r, e => by
    obtain ⟨t, h1, h2⟩ := pace_at (i := i) (x := x) r (by simpa using e)
    exact ⟨t, by simpa using h1, h2⟩
def WaysBy (W : Int → List Fo.Trip) (gv tk : Int → Int) : Prop := ∀ (p o b : Int) (al : Bool), (o, b, al) ∈ W p → (al = true ∧ p = gv b ∧ o = tk b) ∨ (al = false ∧ p = tk b ∧ o = gv b)
def fromOf (gv tk : Int → Int) (x : Int × Bool) : Int := if x.2 = true then gv x.1 else tk x.1
def toOf (gv tk : Int → Int) (x : Int × Bool) : Int := if x.2 = true then tk x.1 else gv x.1
def Walk (gv tk : Int → Int) : Int → List (Int × Bool) → Int → Prop
  | a, [], c => a = c
  | a, x :: ps, c => fromOf gv tk x = a ∧ Walk gv tk (toOf gv tk x) ps c
theorem Walk.app {gv tk : Int → Int} : ∀ {ps : List (Int × Bool)} {a m c : Int} {qs : List (Int × Bool)}, Walk gv tk a ps m → Walk gv tk m qs c → Walk gv tk a (ps ++ qs) c
  | [], _, _, _, _, h, k => by
    have e : _ = _ := h
    rw [e]
    exact k
  | _ :: _, _, _, _, _, h, k => ⟨h.1, Walk.app h.2 k⟩
theorem Walk.split {gv tk : Int → Int} : ∀ {ps : List (Int × Bool)} {a c : Int} {qs : List (Int × Bool)}, Walk gv tk a (ps ++ qs) c → ∃ m, Walk gv tk a ps m ∧ Walk gv tk m qs c
  | [], a, _, _, h => ⟨a, rfl, h⟩
  | x :: ps, _, _, _, h => by
    obtain ⟨m, h1, h2⟩ := Walk.split (ps := ps) h.2
    exact ⟨m, ⟨h.1, h1⟩, h2⟩
theorem Walk.det {gv tk : Int → Int} : ∀ {ps : List (Int × Bool)} {a c c' : Int}, Walk gv tk a ps c → Walk gv tk a ps c' → c = c'
  | [], _, _, _, h, k => by
    have e : _ = _ := h
    have e' : _ = _ := k
    exact e.symm.trans e'
  | _ :: ps, _, _, _, h, k => Walk.det (ps := ps) h.2 k.2
theorem Walk.rev {gv tk : Int → Int} : ∀ {ps : List (Int × Bool)} {a c : Int}, Walk gv tk a ps c → Walk gv tk c (ps.reverse.map fun x => (x.1, !x.2)) a
  | [], _, _, h => by
    have e : _ = _ := h
    exact e.symm
  | (b, al) :: ps, a, c, h => by
    have ih := Walk.rev (ps := ps) h.2
    rw [List.reverse_cons, List.map_append]
    refine ih.app ?_
    have h1 := h.1
    refine ⟨?_, ?_⟩
    · cases al <;> simp [fromOf, toOf]
    · show toOf gv tk (b, !al) = a
      rw [← h1]
      cases al <;> simp [fromOf, toOf]
section
variable {W : Int → List Fo.Trip} {first : Int} {tr : Fo.Tree} {gv tk : Int → Int}
theorem tr_uniq {i j : Nat} {w : Int} {s s' : Option Fo.Trip} (nd : (Fo.keys tr).Nodup) (h1 : tr[i]? = some (w, s)) (h2 : tr[j]? = some (w, s')) : i = j := by
  have e1 : (Fo.keys tr)[i]? = some w := by simp [Fo.keys, h1]
  have e2 : (Fo.keys tr)[j]? = some w := by simp [Fo.keys, h2]
  exact (List.getElem?_inj (List.getElem?_eq_some_iff.mp e1).1 nd).mp (e1.trans e2.symm)
theorem belt_uniq (hg : Fo.Grown W first tr) (hW : WaysBy W gv tk) {i i' : Nat} {w w' p p' b : Int} {al al' : Bool} (h : tr[i]? = some (w, some (p, b, al))) (h' : tr[i']? = some (w', some (p', b, al'))) : i = i' := by
  obtain ⟨m, j, s, hj, ej⟩ := hg.steps _ _ _ _ _ h
  obtain ⟨m', j', s', hj', ej'⟩ := hg.steps _ _ _ _ _ h'
  rcases hW _ _ _ _ m with ⟨_, a2, a3⟩ | ⟨_, a2, a3⟩ <;> rcases hW _ _ _ _ m' with ⟨_, b2, b3⟩ | ⟨_, b2, b3⟩
  · have e : w = w' := a3.trans b3.symm
    subst e
    exact tr_uniq hg.nodup h h'
  · have e : w = p' := a3.trans b2.symm
    have e' : p = w' := a2.trans b3.symm
    subst e e'
    have := tr_uniq hg.nodup h ej'
    have := tr_uniq hg.nodup h' ej
    omega
  · have e : w = p' := a3.trans b2.symm
    have e' : p = w' := a2.trans b3.symm
    subst e e'
    have := tr_uniq hg.nodup h ej'
    have := tr_uniq hg.nodup h' ej
    omega
  · have e : w = w' := a3.trans b3.symm
    subst e
    exact tr_uniq hg.nodup h h'
theorem Path.walk (hg : Fo.Grown W first tr) (hW : WaysBy W gv tk) {w : Int} {ps : List (Int × Bool)} (h : Path tr w ps) : Walk gv tk first ps w := by
  induction h with
  | root e =>
    have := hg.only _ _ e
    subst this
    rw [hg.head] at e
    cases e
    rfl
  | step e _ ih =>
    refine ih.app ?_
    obtain ⟨m, _⟩ := hg.steps _ _ _ _ _ e
    rcases hW _ _ _ _ m with ⟨a1, a2, a3⟩ | ⟨a1, a2, a3⟩
    · subst a1; exact ⟨a2.symm, a3.symm⟩
    · subst a1; exact ⟨a2.symm, a3.symm⟩
theorem Path.origin (hg : Fo.Grown W first tr) {w : Int} {ps : List (Int × Bool)} (h : Path tr w ps) : ∀ {i : Nat} {s : Option Fo.Trip}, tr[i]? = some (w, s) → ∀ x ∈ ps, ∃ (i' : Nat) (w' p' : Int), i' ≤ i ∧ tr[i']? = some (w', some (p', x.1, x.2)) := by
  induction h with
  | root e => intro i s _ x hx; cases hx
  | @step w p b al i0 ps e h ih =>
    intro i s hi x hx
    have ei := tr_uniq hg.nodup e hi
    subst ei
    obtain ⟨_, j, sj, hj, ej⟩ := hg.steps _ _ _ _ _ e
    rcases List.mem_append.mp hx with z | z
    · obtain ⟨i', w', p', a, c⟩ := ih ej x z
      exact ⟨i', w', p', by omega, c⟩
    · rw [List.mem_singleton.mp z]
      exact ⟨i0, w, p, Nat.le_refl _, e⟩
theorem Path.nodup (hg : Fo.Grown W first tr) (hW : WaysBy W gv tk) {w : Int} {ps : List (Int × Bool)} (h : Path tr w ps) : (ps.map (·.1)).Nodup := by
  induction h with
  | root e => exact List.nodup_nil
  | @step w p b al i0 ps e h ih =>
    rw [List.map_append]
    refine List.nodup_append.mpr ⟨ih, by simp, fun x hx y hy e' => ?_⟩
    obtain rfl : y = b := by simpa using hy
    obtain ⟨z, hz, ez⟩ := List.mem_map.mp hx
    obtain ⟨_, j, sj, hj, ej⟩ := hg.steps _ _ _ _ _ e
    obtain ⟨i', w', p', a, c⟩ := h.origin hg ej z hz
    rw [ez, e'] at c
    have := belt_uniq hg hW e c
    omega
theorem Path.uniq (hg : Fo.Grown W first tr) {w : Int} {ps : List (Int × Bool)} (h : Path tr w ps) : ∀ {qs : List (Int × Bool)}, Path tr w qs → ps = qs := by
  induction h with
  | root e =>
    intro qs k
    cases k with
    | root _ => rfl
    | step e' _ =>
      have := tr_uniq hg.nodup e e'
      subst this
      rw [e] at e'
      cases e'
  | step e _ ih =>
    intro qs k
    cases k with
    | root e' =>
      have := tr_uniq hg.nodup e e'
      subst this
      rw [e] at e'
      cases e'
    | step e' k' =>
      have := tr_uniq hg.nodup e e'
      subst this
      rw [e] at e'
      cases e'
      rw [ih k']
theorem Path.pre {w : Int} {ps : List (Int × Bool)} (h : Path tr w ps) : ∀ {m : Nat} {x : Int × Bool}, ps[m]? = some x → ∃ (i' : Nat) (w' p' : Int), tr[i']? = some (w', some (p', x.1, x.2)) ∧ Path tr w' (ps.take (m + 1)) := by
  induction h with
  | root e => intro m x hx; simp at hx
  | @step w p b al i0 ps e h ih =>
    intro m x hx
    rcases Nat.lt_or_ge m ps.length with c | c
    · rw [List.getElem?_append_left c] at hx
      obtain ⟨i', w', p', h1, h2⟩ := ih hx
      refine ⟨i', w', p', h1, ?_⟩
      rw [List.take_append_of_le_length (by omega)]
      exact h2
    · have hl := (List.getElem?_eq_some_iff.mp hx).1
      rw [List.length_append] at hl
      have em : m = ps.length := by simp at hl; omega
      subst em
      rw [List.getElem?_append_right (Nat.le_refl _), Nat.sub_self] at hx
      obtain rfl : (b, al) = x := by simpa using hx
      refine ⟨i0, w, p, e, ?_⟩
      rw [List.take_of_length_le (by simp)]
      exact .step e h
theorem ring_apart (hg : Fo.Grown W first tr) (hW : WaysBy W gv tk) {g t : Int} {pg pt : List (Int × Bool)} {k : Nat} (hp : Path tr g pg) (hq : Path tr t pt) (hm : k = pg.length ∨ k = pt.length ∨ pg[k]? ≠ pt[k]?) {x y : Int × Bool} (hx : x ∈ pt.drop k) (hy : y ∈ pg.drop k) : x.1 ≠ y.1 := by
  intro e
  obtain ⟨xb, xa⟩ := x
  obtain ⟨yb, ya⟩ := y
  dsimp only at e
  subst e
  obtain ⟨m, hm1⟩ := List.getElem?_of_mem hx
  obtain ⟨m', hm1'⟩ := List.getElem?_of_mem hy
  rw [List.getElem?_drop] at hm1 hm1'
  have l1 := (List.getElem?_eq_some_iff.mp hm1).1
  have l2 := (List.getElem?_eq_some_iff.mp hm1').1
  obtain ⟨i1, w1, p1, a1, c1⟩ := hq.pre hm1
  obtain ⟨i2, w2, p2, a2, c2⟩ := hp.pre hm1'
  have := belt_uniq hg hW a1 a2
  subst this
  rw [a1] at a2
  cases a2
  have et := c1.uniq hg c2
  have el := congrArg List.length et
  rw [List.length_take, List.length_take] at el
  rcases hm with z | z | z
  · omega
  · omega
  · apply z
    have e1 : (pg.take (k + m' + 1))[k]? = pg[k]? := by rw [List.getElem?_take, if_pos (by omega)]
    have e2 : (pt.take (k + m + 1))[k]? = pt[k]? := by rw [List.getElem?_take, if_pos (by omega)]
    rw [← e1, ← e2, et]
theorem ring_nodup (hg : Fo.Grown W first tr) (hW : WaysBy W gv tk) {g t bi : Int} {pg pt : List (Int × Bool)} {k : Nat} (hp : Path tr g pg) (hq : Path tr t pt) (hm : k = pg.length ∨ k = pt.length ∨ pg[k]? ≠ pt[k]?) (hb : ∀ x ∈ pg, x.1 ≠ bi) (hb' : ∀ x ∈ pt, x.1 ≠ bi) : ((ringOf bi pg pt k).map (·.1)).Nodup := by
  unfold ringOf
  rw [List.cons_append, List.map_cons, List.map_append, List.map_map, List.nodup_cons]
  have n1 := (hq.nodup hg hW).sublist ((List.drop_sublist k pt).map (·.1))
  have n2 := (hp.nodup hg hW).sublist ((List.drop_sublist k pg).map (·.1))
  have e : ((pt.drop k).reverse.map ((fun x : Int × Bool => x.1) ∘ fun x => (x.1, !x.2))) = ((pt.drop k).map (·.1)).reverse := by
    rw [List.map_reverse]; rfl
  rw [e]
  refine ⟨fun z => ?_, ?_⟩
  · rcases List.mem_append.mp z with z | z
    · obtain ⟨x, hx, ex⟩ := List.mem_map.mp (List.mem_reverse.mp z)
      exact hb' x (List.mem_of_mem_drop hx) ex
    · obtain ⟨x, hx, ex⟩ := List.mem_map.mp z
      exact hb x (List.mem_of_mem_drop hx) ex
  · refine List.nodup_append.mpr ⟨(List.reverse_perm _).nodup_iff.mpr n1, n2, fun a ha b hb2 e2 => ?_⟩
    obtain ⟨x, hx, ex⟩ := List.mem_map.mp (List.mem_reverse.mp ha)
    obtain ⟨y, hy, ey⟩ := List.mem_map.mp hb2
    exact ring_apart hg hW hp hq hm hx hy (ex.trans (e2.trans ey.symm))
theorem ring_walk (hg : Fo.Grown W first tr) (hW : WaysBy W gv tk) {bi : Int} {pg pt : List (Int × Bool)} {k : Nat} (hp : Path tr (gv bi) pg) (hq : Path tr (tk bi) pt) (hk : pg.take k = pt.take k) : Walk gv tk (gv bi) (ringOf bi pg pt k) (gv bi) := by
  have w1 := hp.walk hg hW
  have w2 := hq.walk hg hW
  rw [← List.take_append_drop k pg] at w1
  rw [← List.take_append_drop k pt] at w2
  obtain ⟨m1, a1, a2⟩ := w1.split
  obtain ⟨m2, b1, b2⟩ := w2.split
  rw [hk] at a1
  have e := a1.det b1
  subst e
  unfold ringOf
  exact Walk.app (ps := (bi, true) :: _) ⟨rfl, b2.rev⟩ a2
end
def prN (gi ta : Int → Nat) : List (Int × Bool) → Nat
  | [] => 1
  | x :: ps => (if x.2 = true then gi x.1 else ta x.1) * prN gi ta ps
theorem prN_app (gi ta : Int → Nat) : ∀ ps qs, prN gi ta (ps ++ qs) = prN gi ta ps * prN gi ta qs
  | [], qs => (Nat.one_mul _).symm
  | x :: ps, qs => by
    show _ * prN gi ta (ps ++ qs) = _ * prN gi ta ps * _
    rw [prN_app gi ta ps qs, Nat.mul_assoc]
theorem prN_rev (gi ta : Int → Nat) : ∀ ps, prN gi ta (ps.reverse.map fun x => (x.1, !x.2)) = prN ta gi ps
  | [] => rfl
  | (b, al) :: ps => by
    rw [List.reverse_cons, List.map_append, prN_app, prN_rev gi ta ps]
    show prN ta gi ps * ((if (!al) = true then gi b else ta b) * 1) = (if al = true then ta b else gi b) * prN ta gi ps
    cases al <;> simp [Nat.mul_comm]
theorem prN_pos {gi ta : Int → Nat} : ∀ {ps : List (Int × Bool)}, (∀ x ∈ ps, 0 < gi x.1 ∧ 0 < ta x.1) → 0 < prN gi ta ps
  | [], _ => Nat.one_pos
  | x :: ps, h => by
    refine Nat.mul_pos ?_ (prN_pos fun y hy => h y (List.mem_cons_of_mem _ hy))
    have := h x (List.mem_cons_self ..)
    split
    · exact this.1
    · exact this.2
section
variable {W : Int → List Fo.Trip} {first : Int} {tr : Fo.Tree} {gi ta : Int → Nat} {sh : Int → Nat × Nat}
structure Shared (gi ta : Int → Nat) (first : Int) (tr : Fo.Tree) (sh : Int → Nat × Nat) : Prop where
  one : sh first = (1, 1)
  pos : ∀ w ∈ Fo.keys tr, 0 < (sh w).1 ∧ 0 < (sh w).2
  step : ∀ (i : Nat) (w p b : Int) (al : Bool), tr[i]? = some (w, some (p, b, al)) → (sh w).1 * (sh p).2 * (if al = true then ta b else gi b) = (sh p).1 * (sh w).2 * (if al = true then gi b else ta b)
theorem Path.share (hg : Fo.Grown W first tr) (hs : Shared gi ta first tr sh) {w : Int} {ps : List (Int × Bool)} (h : Path tr w ps) : (sh w).1 * prN ta gi ps = (sh w).2 * prN gi ta ps := by
  induction h with
  | root e =>
    have := hg.only _ _ e
    subst this
    rw [hg.head] at e
    cases e
    rw [hs.one]
    rfl
  | @step w p b al i ps e h ih =>
    obtain ⟨_, j, sj, hj, ej⟩ := hg.steps _ _ _ _ _ e
    have hpp := (hs.pos p (Fo.mem_keys ej)).2
    have hst := hs.step _ _ _ _ _ e
    rw [prN_app, prN_app]
    show (sh w).1 * (prN ta gi ps * ((if al = true then ta b else gi b) * 1)) = (sh w).2 * (prN gi ta ps * ((if al = true then gi b else ta b) * 1))
    generalize (if al = true then ta b else gi b) = dn at *
    generalize (if al = true then gi b else ta b) = nm at *
    generalize prN ta gi ps = D at *
    generalize prN gi ta ps = N at *
    refine Nat.eq_of_mul_eq_mul_left hpp ?_
    calc (sh p).2 * ((sh w).1 * (D * (dn * 1))) = ((sh w).1 * (sh p).2 * dn) * D := by simp only [Nat.mul_one, Nat.mul_comm, Nat.mul_left_comm, Nat.mul_assoc]
      _ = (sh p).1 * (sh w).2 * nm * D := by rw [hst]
      _ = (sh w).2 * nm * ((sh p).1 * D) := by simp only [Nat.mul_comm, Nat.mul_left_comm, Nat.mul_assoc]
      _ = (sh w).2 * nm * ((sh p).2 * N) := by rw [ih]
      _ = (sh p).2 * ((sh w).2 * (N * (nm * 1))) := by simp only [Nat.mul_one, Nat.mul_comm, Nat.mul_left_comm, Nat.mul_assoc]
theorem ring_odd (hg : Fo.Grown W first tr) (hs : Shared gi ta first tr sh) (hpos : ∀ (i : Nat) (w p b : Int) (al : Bool), tr[i]? = some (w, some (p, b, al)) → 0 < gi b ∧ 0 < ta b) {g t bi : Int} {pg pt : List (Int × Bool)} {k : Nat} (hp : Path tr g pg) (hq : Path tr t pt) (hgk : g ∈ Fo.keys tr) (htk : t ∈ Fo.keys tr) (hk : pg.take k = pt.take k)
    (hne : (sh g).1 * (sh t).2 * gi bi ≠ (sh t).1 * (sh g).2 * ta bi) : prN gi ta (ringOf bi pg pt k) ≠ prN ta gi (ringOf bi pg pt k) := by
  intro e
  apply hne
  have e1 := hp.share hg hs
  have e2 := hq.share hg hs
  have sub : ∀ {w : Int} {ps : List (Int × Bool)}, Path tr w ps → w ∈ Fo.keys tr → ∀ x ∈ ps, 0 < gi x.1 ∧ 0 < ta x.1 := fun h hw x hx => by
    obtain ⟨i, s, hi⟩ := Fo.keys_at hw
    obtain ⟨i', w', p', _, c⟩ := h.origin hg hi x hx
    exact hpos _ _ _ _ _ c
  have pp := sub hp hgk
  have qq := sub hq htk
  rw [← List.take_append_drop k pg, prN_app, prN_app, hk] at e1
  rw [← List.take_append_drop k pt, prN_app, prN_app] at e2
  unfold ringOf at e
  rw [prN_app, prN_app] at e
  have u1 : prN gi ta ((bi, true) :: ((pt.drop k).reverse.map fun x => (x.1, !x.2))) = gi bi * prN ta gi (pt.drop k) := by
    show gi bi * prN gi ta _ = _
    rw [prN_rev]
  have u2 : prN ta gi ((bi, true) :: ((pt.drop k).reverse.map fun x => (x.1, !x.2))) = ta bi * prN gi ta (pt.drop k) := by
    show ta bi * prN ta gi _ = _
    rw [prN_rev]
  rw [u1, u2] at e
  have c0 : 0 < prN gi ta (pt.take k) := prN_pos fun x hx => qq x (List.mem_of_mem_take hx)
  have d0 : 0 < prN ta gi (pt.take k) := prN_pos fun x hx => (qq x (List.mem_of_mem_take hx)).symm
  have b0 : 0 < prN ta gi (pg.drop k) := prN_pos fun x hx => (pp x (List.mem_of_mem_drop hx)).symm
  have f0 : 0 < prN gi ta (pt.drop k) := prN_pos fun x hx => qq x (List.mem_of_mem_drop hx)
  generalize prN gi ta (pt.take k) = c at *
  generalize prN ta gi (pt.take k) = d at *
  generalize prN gi ta (pg.drop k) = a at *
  generalize prN ta gi (pg.drop k) = b at *
  generalize prN gi ta (pt.drop k) = f at *
  generalize prN ta gi (pt.drop k) = h at *
  refine Nat.eq_of_mul_eq_mul_left (Nat.mul_pos (Nat.mul_pos d0 b0) (Nat.mul_pos c0 f0)) ?_
  calc d * b * (c * f) * ((sh g).1 * (sh t).2 * gi bi) = ((sh g).1 * (d * b)) * ((sh t).2 * (c * f)) * gi bi := by simp only [Nat.mul_comm, Nat.mul_left_comm, Nat.mul_assoc]
    _ = ((sh g).2 * (c * a)) * ((sh t).1 * (d * h)) * gi bi := by rw [e1, e2]
    _ = (sh g).2 * (sh t).1 * (c * d) * (gi bi * h * a) := by simp only [Nat.mul_comm, Nat.mul_left_comm, Nat.mul_assoc]
    _ = (sh g).2 * (sh t).1 * (c * d) * (ta bi * f * b) := by rw [e]
    _ = d * b * (c * f) * ((sh t).1 * (sh g).2 * ta bi) := by simp only [Nat.mul_comm, Nat.mul_left_comm, Nat.mul_assoc]
end
def gvI (ls : List B5) (b : Int) : Int := (ls.getD b.toNat dB).giver
def tkI (ls : List B5) (b : Int) : Int := (ls.getD b.toNat dB).taker
def giN (ls : List B5) (b : Int) : Nat := (ls.getD b.toNat dB).give.toNat
def taN (ls : List B5) (b : Int) : Nat := (ls.getD b.toNat dB).take.toNat
theorem ways_by (ls : List B5) : WaysBy (waysL ls) (gvI ls) (tkI ls) := fun p o b al h => by
  obtain ⟨i, hi, hm⟩ := mem_ways h
  rcases mem_wayAt.mp hm with ⟨e1, e2⟩ | ⟨e1, e2⟩
  · injection e2 with e2 e3
    injection e3 with e3 e4
    subst e2 e3 e4
    exact .inl ⟨rfl, e1.symm, rfl⟩
  · injection e2 with e2 e3
    injection e3 with e3 e4
    subst e2 e3 e4
    exact .inr ⟨rfl, e1.symm, rfl⟩
theorem ways_belt {ls : List B5} {p o b : Int} {al : Bool} (h : (o, b, al) ∈ waysL ls p) : 0 ≤ b ∧ b < (ls.length : Int) := by
  obtain ⟨i, hi, hm⟩ := mem_ways h
  rcases mem_wayAt.mp hm with ⟨e1, e2⟩ | ⟨e1, e2⟩
  · injection e2 with e2 e3
    injection e3 with e3 e4
    subst e3
    omega
  · injection e2 with e2 e3
    injection e3 with e3 e4
    subst e3
    omega
def shOf (zs : List (Int × (Nat × Nat))) (w : Int) : Nat × Nat := ((zs.find? fun y => decide (y.1 = w)).map (·.2)).getD (1, 1)
theorem shOf_at : ∀ {zs : List (Int × (Nat × Nat))} {y : Int × (Nat × Nat)}, (zs.map (·.1)).Nodup → y ∈ zs → shOf zs y.1 = y.2
  | z :: zs, y, nd, h => by
    rw [List.map_cons, List.nodup_cons] at nd
    unfold shOf
    rw [List.find?_cons]
    by_cases c : z.1 = y.1
    · rcases List.mem_cons.mp h with e | e
      · subst e; simp
      · exact absurd (List.mem_map.mpr ⟨y, e, c.symm⟩) nd.1
    · have e := (List.mem_cons.mp h).resolve_left (fun e => c (by rw [e]))
      have ih := shOf_at nd.2 e
      unfold shOf at ih
      simp only [c, decide_false]
      exact ih
section
variable {ls : List B5} {n : Nat} {F : List (Int × Fo.Tree)} {rs : List Int} {tr : Fo.Tree} {first : Int} {zs : List (Int × (Nat × Nat))}
theorem zs_nodup (hg : Fo.Grown (waysL ls) first tr) (h : GoodSh ls tr zs tr.length) : (zs.map (·.1)).Nodup := by
  rw [h.keys]
  exact hg.nodup.sublist (List.take_sublist _ _)
theorem shared_of (hg : Fo.Grown (waysL ls) first tr) (h : GoodSh ls tr zs tr.length) : Shared (giN ls) (taN ls) first tr (shOf zs) := by
  have nd := zs_nodup hg h
  have hl0 : 0 < tr.length := (List.getElem?_eq_some_iff.mp hg.head).1
  refine ⟨shOf_at (y := (first, (1, 1))) nd (List.mem_of_getElem? (h.first 0 first hl0 hg.head)), fun w hw => ?_, fun i w p b al e => ?_⟩
  · obtain ⟨y, hy, ey⟩ := zs_key (x := (first, tr)) h hw
    rw [← ey, shOf_at nd hy]
    exact ⟨(h.pos y hy).1, (h.pos y hy).2.1⟩
  · obtain ⟨j, x, y, hj, h1, h2, hb⟩ := h.step i w p b al (List.getElem?_eq_some_iff.mp e).1 e
    rw [shOf_at (y := (w, x)) nd (List.mem_of_getElem? h1), shOf_at (y := (p, y)) nd (List.mem_of_getElem? h2)]
    unfold Bal at hb
    cases al with
    | true => rw [if_pos rfl] at hb; exact hb
    | false => rw [if_neg (by decide)] at hb; exact hb
theorem chg_share (hg : Fo.Grown (waysL ls) first tr) (h : GoodSh ls tr zs tr.length) (hs : ∀ y ∈ zs, rs[y.1.toNat]? = some ((lcmL zs / y.2.2 * y.2.1 : Nat) : Int)) {b : B5} {gv tk : Nat} (eg : b.give = (gv : Int)) (et : b.take = (tk : Int)) (hgk : b.giver ∈ Fo.keys tr) (htk : b.taker ∈ Fo.keys tr)
    (e : (shOf zs b.giver).1 * (shOf zs b.taker).2 * gv = (shOf zs b.taker).1 * (shOf zs b.giver).2 * tk) : chgI rs b = 0 := by
  have nd := zs_nodup hg h
  obtain ⟨yg, hyg, eyg⟩ := zs_key (x := (first, tr)) h hgk
  obtain ⟨yt, hyt, eyt⟩ := zs_key (x := (first, tr)) h htk
  rw [← eyg, ← eyt, shOf_at nd hyg, shOf_at nd hyt] at e
  have r1 := hs yg hyg
  have r2 := hs yt hyt
  rw [eyg] at r1
  rw [eyt] at r2
  have e1 : rs.getD b.giver.toNat 0 = ((lcmL zs / yg.2.2 * yg.2.1 : Nat) : Int) := by rw [List.getD_eq_getElem?_getD, r1]; rfl
  have e2 : rs.getD b.taker.toNat 0 = ((lcmL zs / yt.2.2 * yt.2.1 : Nat) : Int) := by rw [List.getD_eq_getElem?_getD, r2]; rfl
  have d1 := Nat.div_mul_cancel (den_dvd hyg)
  have d2 := Nat.div_mul_cancel (den_dvd hyt)
  have p1 := (h.pos yg hyg).2.1
  have p2 := (h.pos yt hyt).2.1
  generalize lcmL zs / yg.2.2 = A at *
  generalize lcmL zs / yt.2.2 = B at *
  generalize lcmL zs = C at *
  have key : A * yg.2.1 * gv = B * yt.2.1 * tk := by
    refine Nat.eq_of_mul_eq_mul_left (Nat.mul_pos p1 p2) ?_
    calc yg.2.2 * yt.2.2 * (A * yg.2.1 * gv) = A * yg.2.2 * (yg.2.1 * yt.2.2 * gv) := by simp only [Nat.mul_comm, Nat.mul_left_comm, Nat.mul_assoc]
      _ = B * yt.2.2 * (yt.2.1 * yg.2.2 * tk) := by rw [e, d1, d2]
      _ = yg.2.2 * yt.2.2 * (B * yt.2.1 * tk) := by simp only [Nat.mul_comm, Nat.mul_left_comm, Nat.mul_assoc]
  unfold chgI
  rw [e1, e2, eg, et]
  have k2 : ((A * yg.2.1 : Nat) : Int) * (gv : Int) = ((B * yt.2.1 : Nat) : Int) * (tk : Int) := by
    rw [← Int.natCast_mul, ← Int.natCast_mul, key]
  omega
structure RingOk (ls : List B5) (ring : List (Int × Bool)) : Prop where
  some_ : ring ≠ []
  rg : ∀ x ∈ ring, 0 ≤ x.1 ∧ x.1 < (ls.length : Int)
  nd : (ring.map (·.1)).Nodup
  walk : ∃ a, Walk (gvI ls) (tkI ls) a ring a
  odd : prN (giN ls) (taN ls) ring ≠ prN (taN ls) (giN ls) ring
theorem Path.mem {w : Int} {ps : List (Int × Bool)} (h : Path tr w ps) : w ∈ Fo.keys tr := by
  cases h with
  | root e => exact Fo.mem_keys e
  | step e _ => exact Fo.mem_keys e
theorem ring_ok (hbt : Between ls n) (hsz : SizedL ls) (hwd : Fo.Wood (waysL ls) n F n) (hset : ∀ x ∈ F, SetIn ls x rs) {bi : Nat} (hbi : bi < ls.length) (hch : chgI rs (ls.getD bi dB) ≠ 0) {x : Int × Fo.Tree} (hx : x ∈ F) {pg pt : List (Int × Bool)} {k : Nat} (hp : Path x.2 (ls.getD bi dB).giver pg) (hq : Path x.2 (ls.getD bi dB).taker pt) (hk : pg.take k = pt.take k) (hm : k = pg.length ∨ k = pt.length ∨ pg[k]? ≠ pt[k]?) : RingOk ls (ringOf bi pg pt k) := by
  obtain ⟨hg, _, _, _⟩ := hwd.tree x hx
  obtain ⟨zs, hgs, hs⟩ := hset x hx
  have hW := ways_by ls
  have hsh := shared_of hg hgs
  have hpos : ∀ (i : Nat) (w p b : Int) (al : Bool), x.2[i]? = some (w, some (p, b, al)) → 0 < giN ls b ∧ 0 < taN ls b := fun i w p b al e => by
    obtain ⟨h1, _⟩ := hg.steps _ _ _ _ _ e
    obtain ⟨b0, b1⟩ := ways_belt h1
    obtain ⟨gv, tk, g0, t0, _, _, eg, et⟩ := hsz b.toNat (by omega)
    unfold giN taN
    rw [eg, et]
    exact ⟨by omega, by omega⟩
  have from_tree : ∀ {w : Int} {ps : List (Int × Bool)}, Path x.2 w ps → ∀ y ∈ ps, (0 ≤ y.1 ∧ y.1 < (ls.length : Int)) ∧ y.1 ≠ (bi : Int) := fun {w ps} h y hy => by
    obtain ⟨i, s, hi⟩ := Fo.keys_at h.mem
    obtain ⟨i', w', p', _, c⟩ := h.origin hg hi y hy
    obtain ⟨h1, j, sj, hj, ej⟩ := hg.steps _ _ _ _ _ c
    have hb := ways_belt h1
    refine ⟨hb, fun e => hch ?_⟩
    obtain ⟨gv, tk, g0, t0, _, _, eg, et⟩ := hsz bi hbi
    have hst := hsh.step _ _ _ _ _ c
    have k1 : giN ls y.1 = gv := by unfold giN; rw [e, Int.toNat_natCast, eg, Int.toNat_natCast]
    have k2 : taN ls y.1 = tk := by unfold taN; rw [e, Int.toNat_natCast, et, Int.toNat_natCast]
    rw [k1, k2] at hst
    have k3 := Fo.mem_keys c
    have k4 := Fo.mem_keys ej
    have a : ∀ z, gvI ls y.1 = z → (ls.getD bi dB).giver = z := fun z hz => by rw [← hz]; unfold gvI; rw [e, Int.toNat_natCast]
    have b : ∀ z, tkI ls y.1 = z → (ls.getD bi dB).taker = z := fun z hz => by rw [← hz]; unfold tkI; rw [e, Int.toNat_natCast]
    rcases hW _ _ _ _ h1 with ⟨z1, z2, z3⟩ | ⟨z1, z2, z3⟩
    · rw [z1, if_pos rfl, if_pos rfl] at hst
      refine chg_share hg hgs hs eg et (by rw [a _ z2.symm]; exact k4) (by rw [b _ z3.symm]; exact k3) ?_
      rw [a _ z2.symm, b _ z3.symm]
      exact hst.symm
    · rw [z1, if_neg (by decide), if_neg (by decide)] at hst
      refine chg_share hg hgs hs eg et (by rw [a _ z3.symm]; exact k3) (by rw [b _ z2.symm]; exact k4) ?_
      rw [a _ z3.symm, b _ z2.symm]
      exact hst
  have g1 : gvI ls (bi : Int) = (ls.getD bi dB).giver := rfl
  have g2 : tkI ls (bi : Int) = (ls.getD bi dB).taker := rfl
  refine ⟨fun z => (by unfold ringOf at z; cases z), fun y hy => ?_, ring_nodup hg hW hp hq hm (fun y hy => (from_tree hp y hy).2) (fun y hy => (from_tree hq y hy).2), ⟨_, ring_walk hg hW (bi := (bi : Int)) hp hq hk⟩, ring_odd hg hsh hpos hp hq hp.mem hq.mem hk fun e => hch ?_⟩
  · unfold ringOf at hy
    rw [List.cons_append] at hy
    rcases List.mem_cons.mp hy with z | z
    · rw [z]; exact ⟨by omega, by dsimp only; omega⟩
    · rcases List.mem_append.mp z with z | z
      · obtain ⟨y', hy', ey⟩ := List.mem_map.mp z
        have := (from_tree hq y' (List.mem_of_mem_drop (List.mem_reverse.mp hy'))).1
        rw [← ey]
        exact this
      · exact (from_tree hp y (List.mem_of_mem_drop z)).1
  · obtain ⟨gv, tk, g0, t0, _, _, eg, et⟩ := hsz bi hbi
    have k1 : giN ls (bi : Int) = gv := by unfold giN; rw [Int.toNat_natCast, eg, Int.toNat_natCast]
    have k2 : taN ls (bi : Int) = tk := by unfold taN; rw [Int.toNat_natCast, et, Int.toNat_natCast]
    rw [k1, k2] at e
    exact chg_share hg hgs hs eg et hp.mem hq.mem e
end
def SizesOk (ss : List Int) : Prop := ∀ s ∈ ss, 0 < s ∧ s ≤ 10 ^ 13
theorem size_at {ss : List Int} (h : SizesOk ss) {g : Int} (h0 : 0 ≤ g) (h1 : g < (ss.length : Int)) : ∃ a : Nat, ss.getD g.toNat 0 = (a : Int) ∧ 0 < a ∧ a ≤ 10 ^ 13 := by
  have hm : ss.getD g.toNat 0 ∈ ss := by rw [getD_of (by omega)]; exact List.getElem_mem _
  obtain ⟨p1, p2⟩ := h _ hm
  exact ⟨(ss.getD g.toNat 0).toNat, by omega, by omega, by omega⟩
theorem line_bal {a b f : Nat} (a0 : 0 < a) (b0 : 0 < b) (f0 : 0 < f) (a1 : a ≤ 10 ^ 13) (b1 : b ≤ 10 ^ 13) (f1 : f ≤ 10 ^ 10) :
    0 < f * b / Nat.gcd a b ∧ 0 < f * a / Nat.gcd a b ∧ f * b / Nat.gcd a b ≤ 10 ^ 24 ∧ f * a / Nat.gcd a b ≤ 10 ^ 24 ∧ f * b / Nat.gcd a b * a = f * a / Nat.gcd a b * b := by
  have g0 : 0 < Nat.gcd a b := Nat.gcd_pos_of_pos_left _ a0
  have d1 := Nat.gcd_dvd_left a b
  have d2 := Nat.gcd_dvd_right a b
  have e1 : f * b / Nat.gcd a b = f * (b / Nat.gcd a b) := Nat.mul_div_assoc _ d2
  have e2 : f * a / Nat.gcd a b = f * (a / Nat.gcd a b) := Nat.mul_div_assoc _ d1
  have up : ∀ x : Nat, x ≤ 10 ^ 13 → f * x / Nat.gcd a b ≤ 10 ^ 24 := fun x hx => by
    refine Nat.le_trans (Nat.div_le_self _ _) (Nat.le_trans (Nat.mul_le_mul f1 hx) (by decide))
  refine ⟨?_, ?_, up b b1, up a a1, ?_⟩
  · rw [e1]; exact Nat.mul_pos f0 (Nat.div_pos (Nat.le_of_dvd b0 d2) g0)
  · rw [e2]; exact Nat.mul_pos f0 (Nat.div_pos (Nat.le_of_dvd a0 d1) g0)
  · rw [e1, e2, Nat.mul_assoc, Nat.mul_assoc]
    congr 1
    refine Nat.eq_of_mul_eq_mul_right g0 ?_
    rw [Nat.mul_right_comm, Nat.div_mul_cancel d2, Nat.mul_right_comm, Nat.div_mul_cancel d1, Nat.mul_comm]
theorem mulS13 {f a : Nat} (f1 : f ≤ 10 ^ 10) (a1 : a ≤ 10 ^ 13) : IntMulOk (f : Int) (a : Int) := mulN (n := 110) (m := 110) (Nat.lt_of_le_of_lt f1 (by decide)) (Nat.lt_of_le_of_lt a1 (by decide)) (by decide)
structure More (ls : List B5) (n : Nat) (i : Nat) (xs ys : List Int) : Prop where
  ext : ∃ zs, ys = xs ++ zs
  nd : ys.Nodup
  rg : ∀ w ∈ ys, 0 ≤ w ∧ w < (n : Int)
  cl : ys.length = xs.length → ∀ j < i, ((ls.getD j dB).giver ∈ xs ↔ (ls.getD j dB).taker ∈ xs)
def addW (a b : Int) (ys : List Int) : List Int := if a ∈ ys ∧ b ∉ ys then ys ++ [b] else ys
theorem addW_more {a b : Int} {ys xs : List Int} {n : Nat} (hb : 0 ≤ b ∧ b < (n : Int)) (he : ∃ zs, ys = xs ++ zs) (hn : ys.Nodup) (hr : ∀ w ∈ ys, 0 ≤ w ∧ w < (n : Int)) : (∃ zs, addW a b ys = xs ++ zs) ∧ (addW a b ys).Nodup ∧ (∀ w ∈ addW a b ys, 0 ≤ w ∧ w < (n : Int)) ∧ ys.length ≤ (addW a b ys).length ∧ ((addW a b ys).length = ys.length → addW a b ys = ys ∧ (a ∈ ys → b ∈ ys)) := by
  unfold addW
  split
  · rename_i c
    obtain ⟨zs, e⟩ := he
    refine ⟨⟨zs ++ [b], by rw [e, List.append_assoc]⟩, ?_, ?_, by simp, fun z => by simp at z⟩
    · rw [List.nodup_append]
      refine ⟨hn, by simp, ?_⟩
      intro x hx y hy e'
      rw [List.mem_singleton.mp hy] at e'
      exact c.2 (e' ▸ hx)
    · intro w hw
      rcases List.mem_append.mp hw with z | z
      · exact hr w z
      · rw [List.mem_singleton.mp z]; exact hb
  · rename_i c
    refine ⟨he, hn, hr, Nat.le_refl _, fun _ => ⟨rfl, fun ha => ?_⟩⟩
    by_cases hbb : b ∈ ys
    · exact hbb
    · exact absurd ⟨ha, hbb⟩ c
theorem More.step {ls : List B5} {n i : Nat} {xs ys : List Int} (h : More ls n i xs ys) (hb : Between ls n) (hi : i < ls.length) : More ls n (i + 1) xs (addW (ls.getD i dB).taker (ls.getD i dB).giver (addW (ls.getD i dB).giver (ls.getD i dB).taker ys)) := by
  obtain ⟨b1, b2, b3, b4⟩ := hb.at hi
  obtain ⟨p1, p2, p3, p4, p5⟩ := addW_more (a := (ls.getD i dB).giver) ⟨b3, b4⟩ h.ext h.nd h.rg
  obtain ⟨q1, q2, q3, q4, q5⟩ := addW_more (a := (ls.getD i dB).taker) ⟨b1, b2⟩ p1 p2 p3
  refine ⟨q1, q2, q3, fun z j hj => ?_⟩
  obtain ⟨zs, e⟩ := h.ext
  have hl : xs.length ≤ ys.length := by rw [e, List.length_append]; omega
  obtain ⟨e1, f1⟩ := p5 (by omega)
  obtain ⟨e2, f2⟩ := q5 (by omega)
  have ey : ys = xs := by
    have : zs.length = 0 := by
      have := congrArg List.length e
      rw [List.length_append] at this
      omega
    rw [e, List.length_eq_zero_iff.mp this, List.append_nil]
  rw [e1] at f2
  rw [ey] at f1 f2
  by_cases hji : j = i
  · subst hji; exact ⟨f1, f2⟩
  · exact h.cl (by rw [ey]) j (by omega)
theorem Paired.insert {α β : Type} {P : α → β → Prop} : ∀ {xs : List α} {ys : List β} {x : α} {y : β} (j : Nat), Paired P xs ys → P x y → Paired P (xs.take j ++ x :: xs.drop j) (ys.take j ++ y :: ys.drop j)
  | _, _, _, _, 0, h, p => .cons p h
  | _, _, _, _, _ + 1, .nil, p => .cons p .nil
  | _, _, _, _, j + 1, .cons a h, p => .cons a (Paired.insert j h p)
theorem mem_ins {α : Type} {xs : List α} {x y : α} {j : Nat} (h : y ∈ xs.take j ++ x :: xs.drop j) : y ∈ xs ∨ y = x := by
  rcases List.mem_append.mp h with z | z
  · exact .inl (List.mem_of_mem_take z)
  · rcases List.mem_cons.mp z with z | z
    · exact .inr z
    · exact .inl (List.mem_of_mem_drop z)
theorem len_ins {α : Type} {xs : List α} {x : α} {j : Nat} : (xs.take j ++ x :: xs.drop j).length = xs.length + 1 := by
  rw [List.length_append, List.length_cons, List.length_take, List.length_drop]; omega
theorem map_ins {α β : Type} (f : α → β) {xs : List α} {x : α} {j : Nat} : (xs.take j ++ x :: xs.drop j).map f = (xs.map f).take j ++ f x :: (xs.map f).drop j := by
  rw [List.map_append, List.map_cons, List.map_take, List.map_drop]
def OrderOk (n : Nat) (os : List Int) : Prop := os.length = n ∧ ∀ w ∈ os, 0 ≤ w ∧ w < (n : Int)
theorem hang_in {ls : List B5} {ys : List Int} (hc : ∀ j < ls.length, ((ls.getD j dB).giver ∈ ys ↔ (ls.getD j dB).taker ∈ ys)) {a w : Int} (h : Fo.Hang (waysL ls) a w) (ha : a ∈ ys) : w ∈ ys := by
  induction h with
  | refl => exact ha
  | step _ m ih =>
    obtain ⟨i, hi, hm⟩ := mem_ways m
    rcases mem_wayAt.mp hm with ⟨e1, e2⟩ | ⟨e1, e2⟩
    · have e3 := congrArg Prod.fst e2
      dsimp only at e3
      rw [e3]
      exact (hc i hi).mp (e1 ▸ ih)
    · have e3 := congrArg Prod.fst e2
      dsimp only at e3
      rw [e3]
      exact (hc i hi).mpr (e1 ▸ ih)
def gcdL (rs : List Int) (ys : List Int) : Nat := ys.foldl (fun c w => Nat.gcd c (rs.getD w.toNat 0).toNat) 0
theorem gcdL_snoc (rs : List Int) (ys : List Int) (w : Int) : gcdL rs (ys ++ [w]) = Nat.gcd (gcdL rs ys) (rs.getD w.toNat 0).toNat := by unfold gcdL; rw [List.foldl_append]; rfl
theorem gcd_foldl (rs : List Int) : ∀ (ys : List Int) (c : Nat), ys.foldl (fun c w => Nat.gcd c (rs.getD w.toNat 0).toNat) c ∣ c ∧ ∀ w ∈ ys, ys.foldl (fun c w => Nat.gcd c (rs.getD w.toNat 0).toNat) c ∣ (rs.getD w.toNat 0).toNat
  | [], c => ⟨Nat.dvd_refl c, by simp⟩
  | w :: ys, c => by
    obtain ⟨h1, h2⟩ := gcd_foldl rs ys (Nat.gcd c (rs.getD w.toNat 0).toNat)
    refine ⟨Nat.dvd_trans h1 (Nat.gcd_dvd_left _ _), fun v hv => ?_⟩
    rcases List.mem_cons.mp hv with z | z
    · rw [z]; exact Nat.dvd_trans h1 (Nat.gcd_dvd_right _ _)
    · exact h2 v z
def LeastOn (ls : List B5) (n : Nat) (rs : List Int) : Prop := ∀ (f : Int) (ys : List Int), 0 ≤ f → f < (n : Int) → f ∈ ys → (∀ j < ls.length, ((ls.getD j dB).giver ∈ ys ↔ (ls.getD j dB).taker ∈ ys)) → gcdL rs ys = 1
theorem least_on {ls : List B5} {n : Nat} {F : List (Int × Fo.Tree)} {rs : List Int} (hwd : Fo.Wood (waysL ls) n F n) (hset : ∀ x ∈ F, SetIn ls x rs) : LeastOn ls n rs := by
  intro f ys f0 f1 hf hc
  obtain ⟨x, hx, hk⟩ := hwd.all f f0 f1
  obtain ⟨hg, hgo, _, _⟩ := hwd.tree x hx
  obtain ⟨zs, hz, hrs⟩ := hset x hx
  refine rates_least hg hz fun y hy => ?_
  have hyk : y.1 ∈ Fo.keys x.2 := by
    have h1 := hz.keys
    have h2 : (Fo.keys x.2).take x.2.length = Fo.keys x.2 := List.take_of_length_le (by simp [Fo.keys])
    rw [h2] at h1
    rw [← h1]
    exact List.mem_map.mpr ⟨y, hy, rfl⟩
  have h3 := (hg.keys_iff hgo y.1).mp hyk
  have h4 := (hg.keys_iff hgo f).mp hk
  have h5 : y.1 ∈ ys := hang_in hc (Fo.Hang.trans (Fo.Hang.symm (ways_both ls) h4) h3) hf
  have h6 := (gcd_foldl rs ys 0).2 _ h5
  have h7 := hrs y hy
  have h8 : rs.getD y.1.toNat 0 = ((lcmL zs / y.2.2 * y.2.1 : Nat) : Int) := by rw [List.getD, h7]; rfl
  rw [h8, Int.toNat_natCast] at h6
  exact h6
def B5.v4 (b : B5) : List V := [.int b.giver, .int b.taker, .int b.give, .int b.take]
def B5.d4 (b : B5) : PyData := .tuple [.int b.giver, .int b.taker, .int b.give, .int b.take]
def Tups4 (H : Hp) : List V → List B5 → Prop := Paired fun v b => ∃ t, v = .ref t ∧ H t = some (.tup b.v4)
theorem Tups4.keep {H H' : Hp} (t : ∀ b xs, H b = some (.tup xs) → H' b = some (.tup xs)) {vs : List V} {l : List B5} (h : Tups4 H vs l) : Tups4 H' vs l := Paired.mapP h fun _ _ ⟨a, e, z⟩ => ⟨a, e, t _ _ z⟩
theorem Tups4.snoc {H : Hp} : ∀ {vs : List V} {l : List B5} {x : B5} {t : Addr}, Tups4 H vs l → H t = some (.tup x.v4) → Tups4 H (vs ++ [.ref t]) (l ++ [x])
  | _, _, _, _, .nil, h => .cons ⟨_, rfl, h⟩ .nil
  | _, _, _, _, .cons y r, h => .cons y (Tups4.snoc r h)
theorem Tups4.length {H : Hp} {vs : List V} {l : List B5} (h : Tups4 H vs l) : vs.length = l.length := Paired.length h
theorem Tups4.at {H : Hp} : ∀ {bs : List V} {ls : List B5} {i : Nat} {b : B5}, Tups4 H bs ls → ls[i]? = some b → ∃ t, bs[i]? = some (.ref t) ∧ H t = some (.tup b.v4)
  | _, _, _, _, .nil, e => by simp at e
  | _, _, 0, _, .cons ⟨t, e1, h⟩ _, e => by simp at e; subst e; exact ⟨t, by simp [e1], h⟩
  | _, _, i + 1, b, .cons _ r, e => by
    obtain ⟨t, h1, h2⟩ := Tups4.at (i := i) (b := b) r (by simpa using e)
    exact ⟨t, by simpa using h1, h2⟩
theorem Tups4.getD {H : Hp} {bs : List V} {ls : List B5} {i : Nat} (h : Tups4 H bs ls) (hi : i < ls.length) : ∃ t, bs.getD i .non = .ref t ∧ H t = some (.tup (ls.getD i dB).v4) := by
  obtain ⟨t, h1, h2⟩ := h.at (List.getElem?_eq_getElem hi)
  exact ⟨t, by simp [List.getD, h1], by simpa [List.getD, hi] using h2⟩
theorem lay_b4s : ∀ ls : List B5, PyData.canLayAll0 (ls.map B5.d4) = true
  | [] => rfl
  | l :: ls => by
    have := lay_b4s ls
    simp [B5.d4, PyData.canLayAll0, PyData.canLay0, this]
theorem layL_b4s (ls : List B5) : (PyData.list (ls.map B5.d4)).canLay0 = true := lay_b4s ls
theorem depth_b4s : ∀ ls : List B5, PyData.depthAll (ls.map B5.d4) ≤ 10
  | [] => by simp [PyData.depthAll]
  | l :: ls => by
    have := depth_b4s ls
    simp [B5.d4, PyData.depthAll, PyData.depth]
    omega
theorem depthL_b4s (ls : List B5) : (PyData.list (ls.map B5.d4)).depth ≤ 60 := by
  have := depth_b4s ls
  simp only [PyData.depth]
  omega
theorem rel_b4s {K : PySem.W.Frag} {H : Hp} : ∀ {bs : List V} {ls : List B5}, Tups4 H bs ls → DRels K H bs (ls.map B5.d4)
  | _, _, .nil => .nil
  | _, _, .cons ⟨t, e, h⟩ r => by rw [e]; exact .cons (.tup (.of h) (.cons (.int _) (.cons (.int _) (.cons (.int _) (.cons (.int _) .nil))))) (rel_b4s r)
def paceD (x : Int × Bool) : PyData := .tuple [.int x.1, .bool x.2]
theorem lay_paces : ∀ ls : List (Int × Bool), PyData.canLayAll0 (ls.map paceD) = true
  | [] => rfl
  | l :: ls => by
    have := lay_paces ls
    simp [paceD, PyData.canLayAll0, PyData.canLay0, this]
theorem depth_paces : ∀ ls : List (Int × Bool), PyData.depthAll (ls.map paceD) ≤ 10
  | [] => by simp [PyData.depthAll]
  | l :: ls => by
    have := depth_paces ls
    simp [paceD, PyData.depthAll, PyData.depth]
    omega
theorem depthL_paces (ls : List (Int × Bool)) : (PyData.list (ls.map paceD)).depth ≤ 60 := by
  have := depth_paces ls
  simp only [PyData.depth]
  omega
theorem rel_paces {K : PySem.W.Frag} {H : Hp} : ∀ {bs : List V} {ls : List (Int × Bool)}, Paces H bs ls → DRels K H bs (ls.map paceD)
  | _, _, .nil => .nil
  | _, _, .cons ⟨t, e, h⟩ r => by rw [e]; exact .cons (rel_pace h) (rel_paces r)
theorem eqv_empty {d : PyData} {ds : List PyData} : PyData.eqv (.list (d :: ds)) (.list []) = false := by simp [PyData.eqv, PyData.eqvAll]
def EndsAt (ls : List B5) (H : Hp) : List V → List (Int × Bool) → Prop := Paired fun v x => ∃ t, v = .ref t ∧ H t = some (.tup [.int (fromOf (gvI ls) (tkI ls) x), .int (toOf (gvI ls) (tkI ls) x)])
theorem EndsAt.keep {ls : List B5} {H H' : Hp} (t : ∀ b xs, H b = some (.tup xs) → H' b = some (.tup xs)) {vs : List V} {l : List (Int × Bool)} (h : EndsAt ls H vs l) : EndsAt ls H' vs l := Paired.mapP h fun _ _ ⟨a, e, z⟩ => ⟨a, e, t _ _ z⟩
theorem EndsAt.snoc {ls : List B5} {H : Hp} : ∀ {vs : List V} {l : List (Int × Bool)} {x : Int × Bool} {t : Addr}, EndsAt ls H vs l → H t = some (.tup [.int (fromOf (gvI ls) (tkI ls) x), .int (toOf (gvI ls) (tkI ls) x)]) → EndsAt ls H (vs ++ [.ref t]) (l ++ [x])
  | _, _, _, _, .nil, h => .cons ⟨_, rfl, h⟩ .nil
  | _, _, _, _, .cons y r, h => .cons y (EndsAt.snoc r h)
theorem EndsAt.length {ls : List B5} {H : Hp} {vs : List V} {l : List (Int × Bool)} (h : EndsAt ls H vs l) : vs.length = l.length := Paired.length h
theorem EndsAt.at {ls : List B5} {H : Hp} : ∀ {vs : List V} {ps : List (Int × Bool)} {i : Nat} {x : Int × Bool}, EndsAt ls H vs ps → ps[i]? = some x → ∃ t, vs[i]? = some (.ref t) ∧ H t = some (.tup [.int (fromOf (gvI ls) (tkI ls) x), .int (toOf (gvI ls) (tkI ls) x)])
  | _, _, _, _, .nil, e => by simp at e
  | _, _, 0, _, .cons ⟨t, e1, h⟩ _, e => by simp at e; subst e; exact ⟨t, by simp [e1], h⟩
  | _, _, i + 1, x, .cons _ r, e => by
    obtain ⟨t, h1, h2⟩ := EndsAt.at (i := i) (x := x) r (by simpa using e)
    exact ⟨t, by simpa using h1, h2⟩
theorem Walk.next {gv tk : Int → Int} : ∀ {ps : List (Int × Bool)} {a c : Int} {i : Nat} {x y : Int × Bool}, Walk gv tk a ps c → ps[i]? = some x → ps[i + 1]? = some y → toOf gv tk x = fromOf gv tk y
  | [], _, _, _, _, _, _, h, _ => by simp at h
  | z :: [], _, _, _, _, _, _, _, h => by simp at h
  | z :: z' :: ps, _, _, 0, x, y, h, e1, e2 => by
    obtain rfl : z = x := by simpa using e1
    obtain rfl : z' = y := by simpa using e2
    exact h.2.1.symm
  | z :: z' :: ps, _, _, i + 1, x, y, h, e1, e2 => Walk.next (ps := z' :: ps) (i := i) h.2 (by simpa using e1) (by simpa using e2)
theorem Walk.close {gv tk : Int → Int} {ps : List (Int × Bool)} {a c : Int} {x y : Int × Bool} (h : Walk gv tk a ps c) (e1 : ps[0]? = some x) (e2 : ps[ps.length - 1]? = some y) : fromOf gv tk x = a ∧ toOf gv tk y = c := by
  constructor
  · cases ps with
    | nil => simp at e1
    | cons z ps =>
      obtain rfl : z = x := by simpa using e1
      exact h.1
  · have hl : ps ≠ [] := fun z => by subst z; simp at e1
    have ed := List.dropLast_concat_getLast hl
    rw [← ed] at h
    obtain ⟨m, _, h2⟩ := h.split
    have : ps.getLast hl = y := by
      rw [List.getLast_eq_getElem]
      exact (List.getElem?_eq_some_iff.mp e2).2
    rw [this] at h2
    exact h2.2
theorem atI_last {vs : List V} {v : V} (h : vs[vs.length - 1]? = some v) : atI vs (-1) = some v := by
  have hl := (List.getElem?_eq_some_iff.mp h).1
  have : ixN vs.length (-1) = some (vs.length - 1) := by
    unfold ixN
    rw [if_neg (by omega)]
    have e : ((vs.length : Int) + -1).toNat = vs.length - 1 := by omega
    first
    | (rw [if_pos (by omega)]; congr 1; omega)
    | simp; omega
  unfold atI
  rw [this]
  exact h
theorem prN_lt {gi ta : Int → Nat} : ∀ {ps : List (Int × Bool)}, (∀ x ∈ ps, gi x.1 < 2 ^ 110 ∧ ta x.1 < 2 ^ 110) → prN gi ta ps < 2 ^ (110 * ps.length + 1)
  | [], _ => by show 1 < 2 ^ (110 * 0 + 1); decide
  | x :: ps, h => by
    have ih := prN_lt (ps := ps) fun y hy => h y (List.mem_cons_of_mem _ hy)
    have h1 := h x (List.mem_cons_self ..)
    have h2 : (if x.2 = true then gi x.1 else ta x.1) < 2 ^ 110 := by split; exact h1.1; exact h1.2
    have := mul_lt_pow h2 ih
    refine Nat.lt_of_lt_of_le this (Nat.pow_le_pow_right (by decide) ?_)
    rw [List.length_cons]
    omega
theorem rate_at {ls : List B5} {n : Nat} {rs : List Int} (h : Rated ls n rs) {w : Int} (h0 : 0 ≤ w) (h1 : w < (n : Int)) : ∃ k : Nat, rs.getD w.toNat 0 = (k : Int) ∧ 0 < k ∧ k < 2 ^ 420000 := by
  have hl := h.len
  refine h.pos _ ?_
  rw [getD_of (by omega)]
  exact List.getElem_mem _
structure Put (n : Nat) (l : B5) : Prop where
  rg : 0 ≤ l.giver ∧ l.giver < (n : Int) ∧ 0 ≤ l.taker ∧ l.taker < (n : Int)
  sz : ∃ gv tk : Nat, l.give = (gv : Int) ∧ l.take = (tk : Int) ∧ 0 < gv ∧ 0 < tk ∧ gv < 2 ^ 110 ∧ tk < 2 ^ 110
  st : l.start = 0
theorem put_between {ls : List B5} {n : Nat} (h : ∀ l ∈ ls, Put n l) : Between ls n := fun b hb => (h b hb).rg
theorem put_sized {ls : List B5} {n : Nat} (h : ∀ l ∈ ls, Put n l) : SizedL ls := fun i hi => by
  rw [getD_of hi]
  obtain ⟨gv, tk, e1, e2, g0, t0, g1, t1⟩ := (h _ (List.getElem_mem hi)).sz
  exact ⟨gv, tk, g0, t0, g1, t1, e1, e2⟩
theorem Paired.app {α β : Type} {P : α → β → Prop} : ∀ {xs xs' : List α} {ys ys' : List β}, Paired P xs ys → Paired P xs' ys' → Paired P (xs ++ xs') (ys ++ ys')
  | _, _, _, _, .nil, h => h
  | _, _, _, _, .cons a r, h => .cons a (Paired.app r h)
theorem Paired.set {α β : Type} {P : α → β → Prop} : ∀ {xs : List α} {ys : List β} {x : α} {y : β} (j : Nat), Paired P xs ys → P x y → Paired P (xs.set j x) (ys.set j y)
  | _, _, _, _, _, .nil, _ => .nil
  | _, _, _, _, 0, .cons _ h, p => .cons p h
  | _, _, _, _, j + 1, .cons a h, p => .cons a (Paired.set j h p)
structure PutB (n : Nat) (l : B5) : Prop where
  rg : 0 ≤ l.giver ∧ l.giver < (n : Int) ∧ 0 ≤ l.taker ∧ l.taker < (n : Int)
  sz : ∃ gv tk : Nat, l.give = (gv : Int) ∧ l.take = (tk : Int) ∧ 0 < gv ∧ 0 < tk ∧ gv ≤ 10 ^ 24 ∧ tk ≤ 10 ^ 24
  st : l.start = 0
theorem PutB.put {n : Nat} {l : B5} (h : PutB n l) : Put n l := by
  obtain ⟨gv, tk, e1, e2, g0, t0, g1, t1⟩ := h.sz
  exact ⟨h.rg, ⟨gv, tk, e1, e2, g0, t0, Nat.lt_of_le_of_lt g1 (by decide), Nat.lt_of_le_of_lt t1 (by decide)⟩, h.st⟩
def CountsOk (cs : List Int) : Prop := ∀ c ∈ cs, ∃ k : Nat, c = (k : Int) ∧ k < 2 ^ 210010
def CountsLo (cs : List Int) : Prop := ∀ c ∈ cs, ∃ k : Nat, c = (k : Int) ∧ k < 2 ^ 210005
theorem CountsLo.ok {cs : List Int} (h : CountsLo cs) : CountsOk cs := fun c hc => by
  obtain ⟨k, e, hk⟩ := h c hc
  exact ⟨k, e, Nat.lt_of_lt_of_le hk (Nat.pow_le_pow_right (by decide) (by decide))⟩
def RatesSm (rs : List Int) : Prop := ∀ c ∈ rs, ∃ k : Nat, c = (k : Int) ∧ k < 2 ^ 210000
theorem times4 {x t m n : Nat} (hx : x < 2 ^ m) (ht : t ≤ 3) (h : m + 2 ≤ n) : x * t < 2 ^ n := by
  refine Nat.lt_of_lt_of_le (mul_lt_pow hx (show t < 2 ^ 2 by omega)) (Nat.pow_le_pow_right (by decide) h)
theorem CountsLo.snoc {cs : List Int} {x : Nat} (h : CountsLo cs) (hx : x < 2 ^ 210005) : CountsLo (cs ++ [(x : Int)]) := fun c hc => by
  rcases List.mem_append.mp hc with z | z
  · exact h c z
  · rw [List.mem_singleton.mp z]; exact ⟨x, rfl, hx⟩
theorem CountsLo.set {cs : List Int} {x j : Nat} (h : CountsLo cs) (hx : x < 2 ^ 210005) : CountsLo (cs.set j (x : Int)) := fun c hc => by
  rcases List.mem_or_eq_of_mem_set hc with z | z
  · exact h c z
  · rw [z]; exact ⟨x, rfl, hx⟩
theorem rated30 {ls : List B5} {n : Nat} {F : List (Int × Fo.Tree)} {rs : List Int} (hbt : Between ls n) (hn : n ≤ 30) (hwd : Fo.Wood (waysL ls) n F n) (hrl : rs.length = n) (hset : ∀ x ∈ F, SetIn ls x rs) : RatesSm rs := by
  intro c hc
  obtain ⟨i, hi, rfl⟩ := List.getElem_of_mem hc
  obtain ⟨x, hx, hk⟩ := hwd.all (i : Int) (by omega) (by omega)
  obtain ⟨zs, hg, hz⟩ := hset x hx
  obtain ⟨y, hy, ey⟩ := zs_key hg hk
  have h1 := hz y hy
  rw [ey, Int.toNat_natCast, List.getElem?_eq_getElem hi] at h1
  obtain ⟨g, gg, g0, g1⟩ := hwd.tree x hx
  have htl : x.2.length ≤ 30 := by
    have := Fo.len_le (n := n) g.nodup (g.rg ⟨g0, g1⟩ (ways_rg hbt))
    simp [Fo.keys] at this
    omega
  have hzl := hg.len (Nat.le_refl _)
  have sz : ∀ y ∈ zs, y.2.1 < 2 ^ 6700 ∧ y.2.2 < 2 ^ 6700 := fun y hy => by
    obtain ⟨j, hj⟩ := List.getElem?_of_mem hy
    have hjl := (List.getElem?_eq_some_iff.mp hj).1
    obtain ⟨a, b⟩ := hg.size j y hj
    have e : (2 : Nat) ^ (110 * j + 1) ≤ 2 ^ 6700 := Nat.pow_le_pow_right (by decide) (by omega)
    exact ⟨Nat.lt_of_lt_of_le a e, Nat.lt_of_lt_of_le b e⟩
  have hC := lcmL_lt fun y hy => (sz y hy).2
  refine ⟨_, Option.some.inj h1, ?_⟩
  refine Nat.lt_of_lt_of_le (mul_lt_pow (Nat.lt_of_le_of_lt (Nat.div_le_self _ _) hC) (sz y hy).1) (Nat.pow_le_pow_right (by decide) ?_)
  have : 6700 * zs.length ≤ 6700 * 30 := Nat.mul_le_mul_left _ (by omega)
  omega
theorem walk_counts {ls : List B5} {c : Int → Int} : ∀ {ps : List (Int × Bool)} {a b : Int}, Walk (gvI ls) (tkI ls) a ps b → (∀ x ∈ ps, c (gvI ls x.1) * (giN ls x.1 : Int) = c (tkI ls x.1) * (taN ls x.1 : Int)) → c a * (prN (giN ls) (taN ls) ps : Int) = c b * (prN (taN ls) (giN ls) ps : Int)
  | [], _, _, h, _ => by
    have e : _ = _ := h
    rw [e]
    rfl
  | (x, al) :: ps, a, b, h, k => by
    have ih := walk_counts (ps := ps) h.2 fun y hy => k y (List.mem_cons_of_mem _ hy)
    have h1 := h.1
    have k1 := k (x, al) (List.mem_cons_self ..)
    show c a * (((if al = true then giN ls x else taN ls x) * prN (giN ls) (taN ls) ps : Nat) : Int) = c b * (((if al = true then taN ls x else giN ls x) * prN (taN ls) (giN ls) ps : Nat) : Int)
    rw [Int.natCast_mul, Int.natCast_mul, ← h1]
    dsimp only at k1
    cases al with
    | true =>
      show c (gvI ls x) * ((giN ls x : Int) * _) = c b * ((taN ls x : Int) * _)
      have ih' : c (tkI ls x) * (prN (giN ls) (taN ls) ps : Int) = c b * (prN (taN ls) (giN ls) ps : Int) := ih
      calc c (gvI ls x) * ((giN ls x : Int) * (prN (giN ls) (taN ls) ps : Int)) = c (gvI ls x) * (giN ls x : Int) * (prN (giN ls) (taN ls) ps : Int) := by rw [Int.mul_assoc]
        _ = (taN ls x : Int) * (c (tkI ls x) * (prN (giN ls) (taN ls) ps : Int)) := by rw [k1]; simp only [Int.mul_comm, Int.mul_left_comm, Int.mul_assoc]
        _ = c b * ((taN ls x : Int) * (prN (taN ls) (giN ls) ps : Int)) := by rw [ih']; simp only [Int.mul_comm, Int.mul_left_comm, Int.mul_assoc]
    | false =>
      show c (tkI ls x) * ((taN ls x : Int) * _) = c b * ((giN ls x : Int) * _)
      have ih' : c (gvI ls x) * (prN (giN ls) (taN ls) ps : Int) = c b * (prN (taN ls) (giN ls) ps : Int) := ih
      calc c (tkI ls x) * ((taN ls x : Int) * (prN (giN ls) (taN ls) ps : Int)) = c (tkI ls x) * (taN ls x : Int) * (prN (giN ls) (taN ls) ps : Int) := by rw [Int.mul_assoc]
        _ = (giN ls x : Int) * (c (gvI ls x) * (prN (giN ls) (taN ls) ps : Int)) := by rw [← k1]; simp only [Int.mul_comm, Int.mul_left_comm, Int.mul_assoc]
        _ = c b * ((giN ls x : Int) * (prN (taN ls) (giN ls) ps : Int)) := by rw [ih']; simp only [Int.mul_comm, Int.mul_left_comm, Int.mul_assoc]
theorem ring_change {ls : List B5} {n : Nat} {ring : List (Int × Bool)} (hok : RingOk ls ring) (hbt : Between ls n) (hsz : SizedL ls) {cs : List Int} (hp : ∀ w : Int, 0 ≤ w → w < (n : Int) → 0 < cs.getD w.toNat 0) : ∃ x ∈ ring, chgI cs (ls.getD x.1.toNat dB) ≠ 0 := by
  refine Classical.byContradiction fun hno => ?_
  obtain ⟨a, hw⟩ := hok.walk
  have h1 := walk_counts (c := fun w => cs.getD w.toNat 0) hw fun x hx => by
    have h0 : chgI cs (ls.getD x.1.toNat dB) = 0 := Classical.byContradiction fun z => hno ⟨x, hx, z⟩
    obtain ⟨x0, x1⟩ := hok.rg x hx
    obtain ⟨gv, tk, g0, t0, gl, tl, eg, et⟩ := hsz x.1.toNat (by omega)
    unfold chgI at h0
    unfold giN taN gvI tkI
    rw [eg, et] at h0 ⊢
    rw [Int.toNat_natCast, Int.toNat_natCast]
    omega
  apply hok.odd
  have ha : 0 < cs.getD a.toNat 0 := by
    cases ring with
    | nil => exact absurd rfl hok.some_
    | cons x ps =>
      have e : fromOf (gvI ls) (tkI ls) x = a := hw.1
      obtain ⟨x0, x1⟩ := hok.rg x (List.mem_cons_self ..)
      obtain ⟨b1, b2, b3, b4⟩ := hbt.at (i := x.1.toNat) (by omega)
      rw [← e]
      unfold fromOf gvI tkI
      split
      · exact hp _ b1 b2
      · exact hp _ b3 b4
  exact Int.ofNat.inj (Int.eq_of_mul_eq_mul_left (show cs.getD a.toNat 0 ≠ 0 by omega) h1)
def likeB (cs rs : List Int) (l : List B5) : Bool := l.all fun b => decide (cs.getD b.giver.toNat 0 * rs.getD b.taker.toNat 0 = cs.getD b.taker.toNat 0 * rs.getD b.giver.toNat 0)
theorem like_iff {cs rs : List Int} {b : B5} {gv : Nat} (eg : b.give = (gv : Int)) (g0 : 0 < gv) (hr : 0 < rs.getD b.taker.toNat 0) (hc : chgI rs b = 0) : (chgI cs b = 0) ↔ (cs.getD b.giver.toNat 0 * rs.getD b.taker.toNat 0 = cs.getD b.taker.toNat 0 * rs.getD b.giver.toNat 0) := by
  unfold chgI at hc ⊢
  have gz : b.give ≠ 0 := by omega
  generalize rs.getD b.taker.toNat 0 = rt at *
  generalize rs.getD b.giver.toNat 0 = rg at *
  generalize cs.getD b.taker.toNat 0 = ct at *
  generalize cs.getD b.giver.toNat 0 = cg at *
  have e : rg * b.give = rt * b.take := by omega
  constructor
  · intro h
    have h' : cg * b.give = ct * b.take := by omega
    refine Int.eq_of_mul_eq_mul_left gz ?_
    calc b.give * (cg * rt) = cg * b.give * rt := by simp only [Int.mul_comm, Int.mul_left_comm, Int.mul_assoc]
      _ = ct * (rt * b.take) := by rw [h']; simp only [Int.mul_comm, Int.mul_left_comm, Int.mul_assoc]
      _ = b.give * (ct * rg) := by rw [← e]; simp only [Int.mul_comm, Int.mul_left_comm, Int.mul_assoc]
  · intro h
    have : cg * b.give = ct * b.take := by
      refine Int.eq_of_mul_eq_mul_left (show rt ≠ 0 by omega) ?_
      calc rt * (cg * b.give) = cg * rt * b.give := by simp only [Int.mul_comm, Int.mul_left_comm, Int.mul_assoc]
        _ = ct * (rg * b.give) := by rw [h]; simp only [Int.mul_comm, Int.mul_left_comm, Int.mul_assoc]
        _ = rt * (ct * b.take) := by rw [e]; simp only [Int.mul_comm, Int.mul_left_comm, Int.mul_assoc]
    omega
theorem like_all {ls : List B5} {cs rs zs : List Int} (hz : zs = ((List.range ls.length).filter fun i => !decide (chgI cs (ls.getD i dB) = 0)).map (fun i => chgI cs (ls.getD i dB))) (h : ∀ j < ls.length, (chgI cs (ls.getD j dB) = 0) ↔ (cs.getD (ls.getD j dB).giver.toNat 0 * rs.getD (ls.getD j dB).taker.toNat 0 = cs.getD (ls.getD j dB).taker.toNat 0 * rs.getD (ls.getD j dB).giver.toNat 0)) : decide (zs = []) = likeB cs rs ls := by
  have e1 : zs = [] ↔ ∀ j < ls.length, chgI cs (ls.getD j dB) = 0 := by
    rw [hz, List.map_eq_nil_iff, List.filter_eq_nil_iff]
    constructor
    · intro z j hj
      have := z j (List.mem_range.mpr hj)
      simpa using this
    · intro z j hj
      have := z j (List.mem_range.mp hj)
      simpa using this
  have e2 : likeB cs rs ls = true ↔ ∀ j < ls.length, chgI cs (ls.getD j dB) = 0 := by
    unfold likeB
    rw [List.all_eq_true]
    constructor
    · intro z j hj
      have := z (ls.getD j dB) (by rw [getD_of hj]; exact List.getElem_mem _)
      exact (h j hj).mpr (of_decide_eq_true this)
    · intro z x hx
      obtain ⟨j, hj, rfl⟩ := List.getElem_of_mem hx
      have h1 := (h j hj).mp (z j hj)
      rw [getD_of hj] at h1
      exact decide_eq_true h1
  by_cases c : zs = []
  · rw [decide_eq_true c, e2.mpr (e1.mp c)]
  · rw [decide_eq_false c]
    cases e : likeB cs rs ls with
    | false => rfl
    | true => exact absurd (e1.mpr (e2.mp e)) c
theorem eqv_nil_ints (zs : List Int) : PyData.eqv (.list (zs.map PyData.int)) (.list []) = decide (zs = []) := by
  cases zs with
  | nil => rfl
  | cons z zs => rw [List.map_cons, eqv_empty]; simp
theorem rel_some {K : PySem.W.Frag} {H : Hp} {vs : List V} {ring : List (Int × Bool)} (h : Paces H vs ring) : ∀ l : List Nat, (∀ i ∈ l, i < ring.length) → DRels K H (l.map fun i => vs.getD i .non) ((l.map fun i => ring.getD i (0, false)).map paceD)
  | [], _ => .nil
  | i :: l, hl => by
    have hi := hl i (List.mem_cons_self ..)
    obtain ⟨t, e, ht⟩ := pace_at h (List.getElem?_eq_getElem hi)
    refine .cons ?_ (rel_some h l fun j hj => hl j (List.mem_cons_of_mem _ hj))
    have e1 : vs.getD i .non = .ref t := by rw [List.getD, e]; rfl
    show DRel K H (vs.getD i .non) (paceD (ring.getD i (0, false)))
    rw [e1, getD_of hi]
    exact rel_pace ht
local macro_rules | `(tactic| walk_at "rd") => `(tactic| first | with_reducible refine Nm.Hall_meth (by with_reducible assumption) (by k_dflt (decide +kernel)) (by k_dflt (decide +kernel)) ?_ | fail "none here")
def sp_l_cell {K : PySem.W.Frag} {mg : Str → Option Value} (T : Tp K mg) : Sp := fun vs H Q _ => ∃ (p : Addr) (ns : List Int) (k : Int), vs = [.ref p, .int k] ∧ SqL K H p (ns.map V.int) ∧ 0 ≤ k ∧ Q (.int (cellM ns k)) H
theorem rd_l_cell {K : PySem.W.Frag} {mg : Str → Option Value} {T : Tp K mg} {H : Hp} {Q : VK} {E : XK} {p : Addr} {ns : List Int} {k : Int} (hS : SqL K H p (ns.map V.int)) (hk : 0 ≤ k) (q : Q (.int (cellM ns k)) H) : sp_l_cell T ([.ref p, .int k] ++ []) H Q E := ⟨p, ns, k, rfl, hS, hk, q⟩
local macro_rules | `(tactic| walk_at "rd") => `(tactic| first | with_reducible refine Nm.rd_l_cell (by walk_at "hp") (by walk_at "side") ?_ | fail "none here")
section
variable {P : Program} {w : World} {K : PySem.W.Frag} {mg : Str → Option Value} {base : Heap}
theorem ok_l_cell (T : Tp K mg) : FnOk P w K mg base (CXX P w) 1 T.f_l_cell T.d_l_cell ["_law_script", "_law_k"] (sp_l_cell T) := by
  refine T.F_l_cell.okX sc_l_cell (fun vs H Q E h => ?_) (fun cdv A outer s H vs Q E hr h => ?_)
  · obtain ⟨p, ns, k, rfl, _⟩ := h
    rfl
  · have hu := hr.units
    obtain ⟨p, ns, k, rfl, hS, hk, q⟩ := h
    unfold cellM at q
    refine ⟨_, (pss_cons (ps_if (pt_cmpR op_lt (pv 1) (pe_callB (len_K (K := K) rfl) (by rfl) T.n_len PySem.boot_len (pa_cons (pv 0) pa_nil)) (nomark _)) (pss_one (ps_ret (pe_ix (ix_K (K := K) rfl) (pv 0) (pv 1) (fun _ _ => rfl)))) pss_nil)
          (pss_cons (ps_if (pt_cmpR (op_eqK (K := K) rfl hu) (pe_callB (len_K (K := K) rfl) (by rfl) T.n_len PySem.boot_len (pa_cons (pv 0) pa_nil)) pe_int (nomark _)) (pss_one (ps_ret (pv 1))) pss_nil)
          (pss_one (ps_ret (pe_op (op_addK (K := K) rfl) (pe_op op_mulU (pe_ix (ix_K (K := K) rfl) (pv 0) (pe_op op_mod (pv 1) (pe_callB (len_K (K := K) rfl) (by rfl) T.n_len PySem.boot_len (pa_cons (pv 0) pa_nil))) (fun _ _ => rfl)) pe_int) (pv 1)))))), ?_⟩
    try dsimp only [L2.cxX, L2.cxOf, L2.cxComp]
    walk_at "rds"
    refine Rd.ifD (fun c => ?_) (fun c => ?_)
    · have c' : k < ns.length := by simpa using c
      have ha := at_ints hk c'
      rw [if_pos c'] at q
      walk_at "rds"
      exact q
    · have c' : ¬ k < ns.length := by simpa using c
      rw [if_neg c'] at q
      walk_at "rds"
      refine Rd.ifD (fun d => ?_) (fun d => ?_)
      · have d' : (ns.length : Int) = 0 := by simpa using d
        rw [if_pos d'] at q
        walk_at "rds"
        exact q
      · have d' : ¬ (ns.length : Int) = 0 := by simpa using d
        rw [if_neg d'] at q
        have e : ((ns.map V.int).length : Int) = ns.length := by simp
        have l0 : 0 < ((ns.map V.int).length : Int) := by omega
        have ha := at_ints (ns := ns) (k := k % (ns.map V.int).length) (Int.emod_nonneg _ (by omega)) (by rw [e]; exact Int.emod_lt_of_pos _ (by omega))
        walk_at "rds"
        rw [e]
        exact q
end
def sp_l_mixed {K : PySem.W.Frag} {mg : Str → Option Value} (T : Tp K mg) : Sp := fun vs H Q _ => ∃ (p : Addr) (ns : List Int) (k : Int), vs = [.ref p, .int k] ∧ SqL K H p (ns.map V.int) ∧ 0 ≤ k ∧ Q (.int (mixed ns k)) H
theorem rd_l_mixed {K : PySem.W.Frag} {mg : Str → Option Value} {T : Tp K mg} {H : Hp} {Q : VK} {E : XK} {p : Addr} {ns : List Int} {k : Int} (hS : SqL K H p (ns.map V.int)) (hk : 0 ≤ k) (q : ∀ m, m = mixed ns k → 0 ≤ m → m < 2147483629 → Q (.int m) H) : sp_l_mixed T ([.ref p, .int k] ++ []) H Q E :=
  ⟨p, ns, k, rfl, hS, hk, q _ rfl (mixed_lo ns k) (mixed_hi ns k)⟩
local macro_rules | `(tactic| walk_at "rd") => `(tactic| first | with_reducible refine Nm.rd_l_mixed (by walk_at "hp") (by walk_at "side") (fun _ _ _ _ => ?_) | fail "none here")
section
variable {P : Program} {w : World} {K : PySem.W.Frag} {mg : Str → Option Value} {base : Heap}
theorem ok_l_mixed (T : Tp K mg) : FnOk P w K mg base (CXX P w) 2 T.f_l_mixed T.d_l_mixed ["_law_script", "_law_k"] (sp_l_mixed T) := by
  have G_l_cell : FnOk P w K mg base (CXX P w) 1 T.f_l_cell T.d_l_cell ["_law_script", "_law_k"] (sp_l_cell T) := (ok_l_cell T).mono (by decide)
  refine T.F_l_mixed.okX sc_l_mixed (fun vs H Q E h => ?_) (fun cdv A outer s H vs Q E hr h => ?_)
  · obtain ⟨p, ns, k, rfl, _⟩ := h
    rfl
  · have hu := hr.units
    obtain ⟨p, ns, k, rfl, hS, hk, q⟩ := h
    refine ⟨_, (pss_one (ps_ret (pe_op op_mod (pe_op (op_addK (K := K) rfl) (pe_op op_mulU (pe_op op_mod (pe_call G_l_cell hr rfl T.m_l_cell T.F_l_cell.kp T.b_l_cell .nil pass_on (pa_cons (pv 0) (pa_cons (pv 1) pa_nil))) pe_int) pe_int) pe_int) pe_int))), ?_⟩
    try dsimp only [L2.cxX, L2.cxOf, L2.cxComp]
    walk_at "rds"
    rw [mixed_eq]
    exact q
end
def sp_l_divisor {K : PySem.W.Frag} {mg : Str → Option Value} (T : Tp K mg) : Sp := fun vs H Q _ => ∃ a b : Nat, vs = [.int a, .int b] ∧ Q (.int (Nat.gcd a b : Nat)) H
section
variable {P : Program} {w : World} {K : PySem.W.Frag} {mg : Str → Option Value} {base : Heap}
theorem ok_l_divisor (T : Tp K mg) : FnOk P w K mg base (CXX P w) 1 T.f_l_divisor T.d_l_divisor ["_law_one", "_law_other"] (sp_l_divisor T) := by
  refine T.F_l_divisor.okX sc_l_divisor (fun vs H Q E h => ?_) (fun cdv A outer s H vs Q E hr h => ?_)
  · obtain ⟨a, b, rfl, _⟩ := h
    rfl
  · have hu := hr.units
    obtain ⟨a0, b0, rfl, q⟩ := h
    rw [← My.G_nat] at q
    refine ⟨_, (pss_cons (ps_while PassesOwn.leaving (pt_cmpR (op_neK (K := K) rfl hu) (pv 1) pe_int (nomark _)) (pss_cons (ps_set (i := 2) sc_l_divisor.nd rfl (Or.inl rfl) (pe_op op_mod (pv 0) (pv 1)))
          (pss_cons (ps_set (i := 0) sc_l_divisor.nd rfl (Or.inl rfl) (pv 1))
          (pss_one (ps_set (i := 1) sc_l_divisor.nd rfl (Or.inl rfl) (pv 2))))))
          (pss_one (ps_ret (pv 0)))), ?_⟩
    try dsimp only [L2.cxX, L2.cxOf, L2.cxComp]
    walk_at "rd"
    refine while3 (fun m σ H' => H' = H ∧ ∃ (x y : Int) (r : Option V), m = y.toNat ∧ σ = [some (.int x), some (.int y), r] ∧ 0 ≤ x ∧ 0 ≤ y ∧ My.G x y = My.G a0 b0) _ ⟨rfl, a0, b0, none, rfl, rfl, by omega, by omega, rfl⟩ ?_
    rintro m σ H' ⟨rfl, x, y, r, rfl, rfl, hx, hy, hG⟩
    walk_at "rds"
    refine ite2 (fun c => turn3 ?_) (fun c => ?_)
    · have hy0 : 0 < y := by
        have : ¬ y = 0 := by simpa using c
        omega
      walk_at "rds"
      exact ⟨_, (by have := Int.emod_nonneg x (show y ≠ 0 by omega); have := Int.emod_lt_of_pos x hy0; omega), rfl, y, x % y, some (.int (x % y)), rfl, rfl, hy, Int.emod_nonneg x (by omega), (G_turn' hx hy0).trans hG⟩
    · have hy0 : y = 0 := by simpa using c
      have e : x = My.G a0 b0 := by rw [← hG, My.G_zero hx hy0]
      walk_at "rds"
      rw [e]
      exact q
end
def sp_l_lines {K : PySem.W.Frag} {mg : Str → Option Value} (T : Tp K mg) : Sp := fun vs H Q _ => ∃ (p a : Addr) (ns ss : List Int), vs = [.ref p, .ref a] ∧ SqL K H p (ns.map V.int) ∧ SqL K H a (ss.map V.int) ∧ SizesOk ss ∧ 0 < ss.length ∧ ss.length ≤ 30 ∧
  ∀ (r : Addr) (H' : Hp) (bs : List V) (ls : List B5), H r = none → Same H H' → H' r = some (.lst bs) → Tups4 H' bs ls → ls.length ≤ 10 → (∀ l ∈ ls, Put ss.length l) → Q (.ref r) H'
section
variable {P : Program} {w : World} {K : PySem.W.Frag} {mg : Str → Option Value} {base : Heap}
theorem ok_l_lines (T : Tp K mg) : FnOk P w K mg base (CXX P w) 3 T.f_l_lines T.d_l_lines ["_law_script", "_law_sizes"] (sp_l_lines T) := by
  have G_l_mixed : FnOk P w K mg base (CXX P w) 2 T.f_l_mixed T.d_l_mixed ["_law_script", "_law_k"] (sp_l_mixed T) := (ok_l_mixed T).mono (by decide)
  have G_l_divisor : FnOk P w K mg base (CXX P w) 2 T.f_l_divisor T.d_l_divisor ["_law_one", "_law_other"] (sp_l_divisor T) := (ok_l_divisor T).mono (by decide)
  refine T.F_l_lines.okX sc_l_lines (fun vs H Q E h => ?_) (fun cdv A outer s H vs Q E hr h => ?_)
  · obtain ⟨p, a, ns, ss, rfl, _⟩ := h
    rfl
  · have hu := hr.units
    obtain ⟨p, a, ns, ss, rfl, hS, hA, hss, n0, n1, q⟩ := h
    have hsl : ((ss.map V.int).length : Int) = (ss.length : Int) := by simp
    have np : 0 < ((ss.map V.int).length : Int) := by omega
    refine ⟨_, (pss_cons (ps_set (i := 2) sc_l_lines.nd rfl (Or.inl rfl) (pe_op op_mod (pe_op op_fdivG (pe_call G_l_mixed hr rfl T.m_l_mixed T.F_l_mixed.kp T.b_l_mixed .nil pass_on (pa_cons (pv 0) (pa_cons pe_int pa_nil))) pe_int) pe_int))
          (pss_cons (ps_set (i := 3) sc_l_lines.nd rfl (Or.inl rfl) (pe_lst pa_nil))
          (pss_cons (ps_for PassesOwn.leaving rfl (pi_range2 rfl T.n_range (pa_cons pe_int (pa_cons (pe_callB (call_min2 rfl) (by rfl) T.n_min PyProof.Rows.boot_min (pa_cons (pe_callB (len_K (K := K) rfl) (by rfl) T.n_len PySem.boot_len (pa_cons (pv 0) pa_nil)) (pa_cons pe_int pa_nil))) pa_nil))) (pg_name (i := 4) sc_l_lines.nd rfl (Or.inl rfl)) (pss_cons (ps_set (i := 5) sc_l_lines.nd rfl (Or.inl rfl) (pe_call G_l_mixed hr rfl T.m_l_mixed T.F_l_mixed.kp T.b_l_mixed .nil pass_on (pa_cons (pv 0) (pa_cons (pv 4) pa_nil))))
          (pss_cons (ps_set (i := 6) sc_l_lines.nd rfl (Or.inl rfl) (pe_op op_mod (pv 5) (pe_callB (len_K (K := K) rfl) (by rfl) T.n_len PySem.boot_len (pa_cons (pv 1) pa_nil))))
          (pss_cons (ps_set (i := 7) sc_l_lines.nd rfl (Or.inl rfl) (pe_op op_mod (pe_op op_fdivG (pv 5) pe_int) (pe_callB (len_K (K := K) rfl) (by rfl) T.n_len PySem.boot_len (pa_cons (pv 1) pa_nil))))
          (pss_cons (ps_set (i := 8) sc_l_lines.nd rfl (Or.inl rfl) (pe_call G_l_divisor hr rfl T.m_l_divisor T.F_l_divisor.kp T.b_l_divisor .nil pass_on (pa_cons (pe_ix (ix_K (K := K) rfl) (pv 1) (pv 6) (fun _ _ => rfl)) (pa_cons (pe_ix (ix_K (K := K) rfl) (pv 1) (pv 7) (fun _ _ => rfl)) pa_nil))))
          (pss_cons (ps_set (i := 9) sc_l_lines.nd rfl (Or.inl rfl) (pe_op (op_addK (K := K) rfl) pe_int (pe_op op_mod (pe_op op_fdivG (pv 5) pe_int) pe_int)))
          (pss_cons (ps_set (i := 10) sc_l_lines.nd rfl (Or.inl rfl) (pe_op op_fdivG (pe_op op_mulU (pv 9) (pe_ix (ix_K (K := K) rfl) (pv 1) (pv 7) (fun _ _ => rfl))) (pv 8)))
          (pss_cons (ps_set (i := 11) sc_l_lines.nd rfl (Or.inl rfl) (pe_op op_fdivG (pe_op op_mulU (pv 9) (pe_ix (ix_K (K := K) rfl) (pv 1) (pv 6) (fun _ _ => rfl))) (pv 8)))
          (pss_cons (ps_cut (ps_if (pt_cmpR (op_eqK (K := K) rfl hu) (pv 2) pe_int (nomark _)) (pss_cons (ps_set (i := 10) sc_l_lines.nd rfl (Or.inl rfl) (pe_op (op_addK (K := K) rfl) pe_int (pe_op op_mod (pe_op op_fdivG (pv 5) pe_int) pe_int)))
          (pss_one (ps_set (i := 11) sc_l_lines.nd rfl (Or.inl rfl) (pe_op (op_addK (K := K) rfl) pe_int (pe_op op_mod (pe_op op_fdivG (pv 5) pe_int) pe_int))))) pss_nil))
          (pss_one (ps_expr (pe_bmK (K := K) rfl PySem.F.plainAttrs_list PySem.F.slot_list_append PySem.F.type_list_append mt_append (pv 3) (pa_cons (pe_tup (pa_cons (pv 6) (pa_cons (pv 7) (pa_cons (pv 10) (pa_cons (pv 11) pa_nil))))) pa_nil)))))))))))))
          (pss_cons (ps_cut (ps_if (PW.pt (pw_and (pt_cmpR (op_eqK (K := K) rfl hu) (pv 2) pe_int (nomark _)) (pw_and1 (pt_cmpR (op_neK (K := K) rfl hu) (pv 3) (pe_lst pa_nil) (nomark _))))) (pss_cons (ps_set (i := 12) sc_l_lines.nd rfl (Or.inl rfl) (pe_op op_mod (pe_op op_fdivG (pe_call G_l_mixed hr rfl T.m_l_mixed T.F_l_mixed.kp T.b_l_mixed .nil pass_on (pa_cons (pv 0) (pa_cons pe_int pa_nil))) pe_int) (pe_callB (len_K (K := K) rfl) (by rfl) T.n_len PySem.boot_len (pa_cons (pv 3) pa_nil))))
          (pss_cons (ps_asg (pe_ix (ix_K (K := K) rfl) (pv 3) (pv 12) (fun _ _ => rfl)) (pg_tupK (K := K) (n := 4) rfl rfl (pgs_cons (pg_name (i := 6) sc_l_lines.nd rfl (Or.inl rfl)) (pgs_cons (pg_name (i := 7) sc_l_lines.nd rfl (Or.inl rfl)) (pgs_cons (pg_name (i := 10) sc_l_lines.nd rfl (Or.inl rfl)) (pgs_cons (pg_name (i := 11) sc_l_lines.nd rfl (Or.inl rfl)) pgs_nil))))))
          (pss_one (ps_asg (pe_tup (pa_cons (pv 6) (pa_cons (pv 7) (pa_cons (pe_op (op_addK (K := K) rfl) (pv 10) pe_int) (pa_cons (pv 11) pa_nil))))) (pg_sub (pv 3) (pv 12) set_list))))) pss_nil))
          (pss_one (ps_ret (pv 3))))))), ?_⟩
    try dsimp only [L2.cxX, L2.cxOf, L2.cxComp]
    walk_at "rds"
    rename_i mw hmw mw0 mw1
    clear hmw
    generalize mw / 5 % 3 = wy at *
    refine ⟨Nat.zero_le _, fun r hr => ?_⟩
    have s1 : Same H (upd H r (.lst [])) := same_new hr
    have hr1 : (upd H r (.lst [])) r = some (.lst []) := upd_same
    generalize upd H r (.lst []) = H1 at *
    have hS1 := s1.seq hS
    walk_at "rds"
    have hN : ((if 16 < ((ns.map V.int).length : Int) then (16 : Int) else ((ns.map V.int).length : Int)) - 6).toNat ≤ 10 := by split <;> omega
    generalize ((if 16 < ((ns.map V.int).length : Int) then (16 : Int) else ((ns.map V.int).length : Int)) - 6).toNat = N at *
    refine for_range (n := N) (fun i σ H' => ∃ (bs : List V) (ls : List B5) (a4 a5 a6 a7 a8 a9 a10 a11 : Option V), σ = [some (.ref p), some (.ref a), some (.int wy), some (.ref r), a4, a5, a6, a7, a8, a9, a10, a11, none] ∧ Same H H' ∧ H' r = some (.lst bs) ∧ Tups4 H' bs ls ∧ ls.length = i ∧ ∀ l ∈ ls, PutB ss.length l) ⟨[], [], _, _, _, _, _, _, _, _, rfl, s1, hr1, .nil, rfl, by simp⟩ ?_ ?_
    · rintro i σ H2 hi ⟨bs, ls, a4, a5, a6, a7, a8, a9, a10, a11, rfl, s2, hr2, hT2, hl2, hd2⟩
      have hS2 := s2.seq hS
      have hA2 := s2.seq hA
      have hbl := hT2.length
      have hbz : bs.length < sizeLine := small1000 (by omega)
      walk_at "rds"
      rename_i mx hmx mx0 mx1
      clear hmx
      have r1 := Int.emod_nonneg mx (show ((ss.map V.int).length : Int) ≠ 0 by omega)
      have r2 := Int.emod_lt_of_pos mx np
      have r3 := Int.emod_nonneg (mx / 89) (show ((ss.map V.int).length : Int) ≠ 0 by omega)
      have r4 := Int.emod_lt_of_pos (mx / 89) np
      generalize mx % ((ss.map V.int).length : Int) = g at *
      generalize mx / 89 % ((ss.map V.int).length : Int) = t at *
      rw [hsl] at r2 r4
      obtain ⟨x, ex, x0, x1⟩ := size_at hss r1 r2
      obtain ⟨y, ey, y0, y1⟩ := size_at hss r3 r4
      have at1 := at_ints r1 r2
      have at2 := at_ints r3 r4
      rw [ex] at at1
      rw [ey] at at2
      obtain ⟨f, ef⟩ : ∃ f : Nat, 1 + mx / 7921 % 3 = (f : Int) := ⟨(1 + mx / 7921 % 3).toNat, by omega⟩
      have f0 : 0 < f := by omega
      have f1 : f ≤ 10 ^ 10 := by omega
      obtain ⟨q1, q2, q3, q4, _⟩ := line_bal x0 y0 f0 x1 y1 f1
      have m1 : IntMulOk (1 + mx / 7921 % 3) (x : Int) := by rw [ef]; exact mulS13 f1 x1
      have m2 : IntMulOk (1 + mx / 7921 % 3) (y : Int) := by rw [ef]; exact mulS13 f1 y1
      have gd := divN (a := 0) (Nat.gcd_pos_of_pos_left y x0) (Nat.lt_of_le_of_lt (Nat.le_trans (Nat.le_of_dvd x0 (Nat.gcd_dvd_left x y)) x1) (Nat.lt_of_lt_of_le (by decide : 10 ^ 13 < 2 ^ 110) (Nat.pow_le_pow_right (by decide) (by decide))))
      refine Rd.ixuL hA2 at1 ?_
      walk_at "rds"
      refine ⟨x, y, rfl, ?_⟩
      walk_at "rds"
      rw [ef]
      have eg : (f : Int) * (y : Int) / ((Nat.gcd x y : Nat) : Int) = ((f * y / Nat.gcd x y : Nat) : Int) := rfl
      have et : (f : Int) * (x : Int) / ((Nat.gcd x y : Nat) : Int) = ((f * x / Nat.gcd x y : Nat) : Int) := rfl
      rw [eg, et]
      generalize f * y / Nat.gcd x y = gv0 at *
      generalize f * x / Nat.gcd x y = tk0 at *
      refine Rd.cut (fun σ' H' => H' = H2 ∧ ∃ (gv tk : Nat), σ' = [some (.ref p), some (.ref a), some (.int wy), some (.ref r), some (.int (6 + (i : Int))), some (.int mx), some (.int g), some (.int t), some (.int (Nat.gcd x y : Nat)), some (.int f), some (.int gv), some (.int tk), none] ∧ 0 < gv ∧ 0 < tk ∧ gv ≤ 10 ^ 24 ∧ tk ≤ 10 ^ 24) ?k1 ?i1
      case i1 =>
        walk_at "rds"
        refine Rd.ifD (fun c => ?_) (fun c => ?_)
        · walk_at "rds"
          obtain ⟨u1, eu1⟩ : ∃ u : Nat, 1 + mx / 7921 % 4 = (u : Int) := ⟨(1 + mx / 7921 % 4).toNat, by omega⟩
          obtain ⟨u2, eu2⟩ : ∃ u : Nat, 1 + mx / 31684 % 4 = (u : Int) := ⟨(1 + mx / 31684 % 4).toNat, by omega⟩
          rw [eu1, eu2]
          exact ⟨rfl, u1, u2, rfl, by omega, by omega, by omega, by omega⟩
        · walk_at "rds"
          exact ⟨rfl, gv0, tk0, rfl, q1, q2, q3, q4⟩
      case k1 =>
        rintro σ' H' ⟨rfl, gv, tk, rfl, v1, v2, v3, v4⟩
        walk_at "rds"
        refine ⟨by show 4 ≤ sizeLine; decide, fun u hu' => ?_⟩
        have su : Same H' (upd H' u (.tup [.int g, .int t, .int gv, .int tk])) := same_new hu'
        have hu3 : (upd H' u (.tup [.int g, .int t, .int gv, .int tk])) u = some (.tup (B5.mk g t gv tk 0).v4) := upd_same
        have hr3 := su _ _ hr2
        generalize upd H' u (.tup [.int g, .int t, .int gv, .int tk]) = H4 at *
        walk_at "rds"
        have fr4 : Frame [r] H4 (upd H4 r (.lst (bs ++ [.ref u]))) := frame_upd (by simp) hr3 (by intro _ z; cases z)
        refine ⟨bs ++ [.ref u], ls ++ [⟨g, t, gv, tk, 0⟩], _, _, _, _, _, _, _, _, rfl, (s2.trans su).new hr, upd_same, ((hT2.keep fun b xs e => su _ _ e).keep fr4.tups).snoc (fr4.tups _ _ hu3), by simp [hl2], fun l hl => ?_⟩
        rcases List.mem_append.mp hl with z | z
        · exact hd2 l z
        · rw [List.mem_singleton.mp z]
          exact ⟨⟨r1, r2, r3, r4⟩, ⟨gv, tk, rfl, rfl, v1, v2, v3, v4⟩, rfl⟩
    · rintro σ H2 ⟨bs, ls, a4, a5, a6, a7, a8, a9, a10, a11, rfl, s2, hr2, hT2, hl2, hd2⟩
      have hbl := hT2.length
      have hS2 := s2.seq hS
      walk_at "rds"
      refine Rd.cut (fun σ' H' => ∃ (bs : List V) (ls : List B5) (a4 a5 a6 a7 a8 a9 a10 a11 a12 : Option V), σ' = [some (.ref p), some (.ref a), some (.int wy), some (.ref r), a4, a5, a6, a7, a8, a9, a10, a11, a12] ∧ Same H H' ∧ H' r = some (.lst bs) ∧ Tups4 H' bs ls ∧ ls.length ≤ 10 ∧ ∀ l ∈ ls, Put ss.length l) ?k2 ?i2
      case i2 =>
        walk_at "rds"
        refine Rd.ifD (fun c => ?_) (fun c => ?_)
        · walk_at "rds"
          refine ⟨Nat.zero_le _, fun e he => ?_⟩
          have s3 : Same H2 (upd H2 e (.lst [])) := same_new he
          have v1 : (upd H2 e (.lst [])) e = some (.lst []) := upd_same
          generalize upd H2 e (.lst []) = H3 at *
          have hr3 := s3 _ _ hr2
          have hS3 := s3.seq hS2
          have hT3 := hT2.keep (H' := H3) fun b xs e => s3 _ _ e
          walk_at "rds"
          refine Rd.neUD (.lst (SqL.of hr3) (rel_b4s hT3)) (.lst (SqL.of v1) .nil) (layL_b4s _) rfl (depthL_b4s _) ?_
          by_cases hb : bs = []
          · have hb2 : ls = [] := by rw [hb] at hbl; exact List.length_eq_zero_iff.mp hbl.symm
            subst hb2
            walk_at "rds"
            exact ⟨bs, [], _, _, _, _, _, _, _, _, _, rfl, s2.trans s3, hr3, hT3, by simp, by simp⟩
          · obtain ⟨l0, lr, e0⟩ : ∃ l0 lr, ls = l0 :: lr := by
              cases ls with
              | nil => exact absurd (List.length_eq_zero_iff.mp hbl) hb
              | cons l0 lr => exact ⟨l0, lr, rfl⟩
            have e00 : PyData.eqv (.list (ls.map B5.d4)) (.list []) = false := by rw [e0]; exact eqv_empty
            rw [e00]
            have bp : 0 < (bs.length : Int) := by rw [hbl, e0, List.length_cons]; omega
            have hsl1 := SqL.of (K := K) hr3
            walk_at "rds"
            rename_i mv hmv mv0 mv1
            clear hmv
            have j1 := Int.emod_nonneg (mv / 15) (show (bs.length : Int) ≠ 0 by omega)
            have j2 := Int.emod_lt_of_pos (mv / 15) bp
            generalize mv / 15 % (bs.length : Int) = j at *
            have jl : j.toNat < ls.length := by omega
            obtain ⟨t, et, ht⟩ := hT3.at (List.getElem?_eq_getElem jl)
            have hm := List.getElem_mem jl
            have hL := hd2 _ hm
            generalize ls[j.toNat] = l at *
            have at1 : atI bs j = some (.ref t) := by
              have : j = ((j.toNat : Nat) : Int) := by omega
              rw [this]
              exact atI_nat et
            refine Rd.ixuL hsl1 at1 ?_
            refine Rd.gtup (.of (show H3 t = some (.tup [.int l.giver, .int l.taker, .int l.give, .int l.take]) from ht)) rfl ?_
            walk_at "rds"
            refine ⟨by show 4 ≤ sizeLine; decide, fun u hu1 => ?_⟩
            have s4 : Same H3 (upd H3 u (.tup [V.int l.giver, V.int l.taker, V.int (l.give + 1), V.int l.take])) := same_new hu1
            have v4 : (upd H3 u (.tup [V.int l.giver, V.int l.taker, V.int (l.give + 1), V.int l.take])) u = some (.tup (B5.mk l.giver l.taker (l.give + 1) l.take 0).v4) := upd_same
            generalize upd H3 u (.tup [V.int l.giver, V.int l.taker, V.int (l.give + 1), V.int l.take]) = H4 at *
            have hr4 := s4 _ _ hr3
            walk_at "rds"
            have fr5 : Frame [r] H4 (upd H4 r (.lst (bs.set j.toNat (.ref u)))) := frame_upd (by simp) hr4 (by intro _ z; cases z)
            refine ⟨bs.set j.toNat (.ref u), ls.set j.toNat ⟨l.giver, l.taker, l.give + 1, l.take, 0⟩, _, _, _, _, _, _, _, _, _, rfl, ((s2.trans s3).trans s4).new hr, upd_same, Paired.set _ ((hT3.keep fun b xs e => s4 _ _ e).keep fr5.tups) ⟨u, rfl, fr5.tups _ _ v4⟩, by rw [List.length_set]; omega, fun l' hl' => ?_⟩
            rcases List.mem_or_eq_of_mem_set hl' with z | z
            · exact (hd2 l' z).put
            · rw [z]
              obtain ⟨gv, tk, e1, e2, g0, t0, g1, t1⟩ := hL.sz
              refine ⟨hL.rg, ⟨gv + 1, tk, by dsimp only; rw [e1]; rfl, e2, by omega, t0, Nat.lt_of_le_of_lt (Nat.add_le_add_right g1 1) (by decide), Nat.lt_of_le_of_lt t1 (by decide)⟩, rfl⟩
        · walk_at "rds"
          exact ⟨bs, ls, _, _, _, _, _, _, _, _, _, rfl, s2, hr2, hT2, by omega, fun l hl => (hd2 l hl).put⟩
      case k2 =>
        rintro σ' H3 ⟨bs, ls, a4, a5, a6, a7, a8, a9, a10, a11, a12, rfl, s3, hr3, hT3, hl3, hd3⟩
        walk_at "rds"
        exact q r H3 bs ls hr s3 hr3 hT3 hl3 hd3
end
def sp_Hall_belts {K : PySem.W.Frag} {mg : Str → Option Value} (T : Tp K mg) : Sp := fun vs H Q _ => ∃ (p : Addr) (hl : HM) (fp : List Addr), vs = [.ref p] ∧ HallAt T H p hl fp ∧
  ∀ (q : Addr) (H' : Hp) (bs : List V), H q = none → Same H H' → H' q = some (.lst bs) → Tups H' bs hl.belts → Q (.ref q) H'
theorem rd_Hall_belts {K : PySem.W.Frag} {mg : Str → Option Value} {T : Tp K mg} {H : Hp} {Q : VK} {E : XK} {p : Addr} {hl : HM} {fp : List Addr} (h : HallAt T H p hl fp)
    (q : ∀ (q : Addr) (H' : Hp) (bs : List V), H q = none → Same H H' → H' q = some (.lst bs) → Tups H' bs hl.belts → Q (.ref q) H') : sp_Hall_belts T (.ref p :: ([] ++ [])) H Q E := ⟨p, hl, fp, rfl, h, q⟩
local macro_rules | `(tactic| walk_at "rd") => `(tactic| first | with_reducible refine Nm.rd_Hall_belts (by with_reducible assumption) ?_ | fail "none here")
section
variable {P : Program} {w : World} {K : PySem.W.Frag} {mg : Str → Option Value} {base : Heap}
theorem ok_Hall_belts (T : Tp K mg) : FnOk P w K mg base (CXX P w) 1 T.f_Hall_belts T.d_Hall_belts ["self"] (sp_Hall_belts T) := by
  have cl_Hall := T.cl_Hall
  have na_Hall := T.na_Hall
  refine T.F_Hall_belts.okX sc_Hall_belts (fun vs H Q E h => ?_) (fun cdv A outer s H vs Q E hr h => ?_)
  · obtain ⟨p, hl, fp, rfl, _⟩ := h
    rfl
  · have hu := hr.units
    obtain ⟨p, hl, fp, rfl, hh, q⟩ := h
    obtain ⟨dx, a, b, bs, rfl, h1, h2, h3, h4, nab, h6⟩ := id hh
    refine ⟨_, (pss_one (ps_ret (pe_callTy (listOf_K (K := K) rfl) (by rfl) T.n_list PyProof.Rows.boot_list (pa_cons (pe_fldK (K := K) rfl (pv 0) rfl) pa_nil)))), ?_⟩
    try dsimp only [L2.cxX, L2.cxOf, L2.cxComp]
    walk_at "rds"
    refine Rd.listOfL (.of h4) (fun l hl' => ?_)
    exact q l _ bs hl' (same_new hl') upd_same (h6.keep ((same_new hl').frame (A := [])).tups)
end
def sp_Hall_names {K : PySem.W.Frag} {mg : Str → Option Value} (T : Tp K mg) : Sp := fun vs H Q E => ∃ (p : Addr) (hl : HM) (fp : List Addr), vs = [.ref p] ∧ HallAt T H p hl fp ∧
  ∀ r H', H r = none → Same H H' → H' r = some (.lst (hl.names.map V.str)) → Q (.ref r) H'
section
variable {P : Program} {w : World} {K : PySem.W.Frag} {mg : Str → Option Value} {base : Heap}
theorem ok_Hall_names (T : Tp K mg) : FnOk P w K mg base (CXX P w) 1 T.f_Hall_names T.d_Hall_names ["self"] (sp_Hall_names T) := by
  have cl_Hall := T.cl_Hall
  have na_Hall := T.na_Hall
  refine T.F_Hall_names.okX sc_Hall_names (fun vs H Q E h => ?_) (fun cdv A outer s H vs Q E hr h => ?_)
  · obtain ⟨p, hl, fp, rfl, _⟩ := h
    rfl
  · have hu := hr.units
    obtain ⟨p, hl, fp, rfl, hh, q⟩ := h
    obtain ⟨dx, a, b, bs, rfl, h1, h2, h3, h4, nab, h6⟩ := id hh
    refine ⟨_, (pss_one (ps_ret (pe_callTy (call_listD rfl) (by rfl) T.n_list PyProof.Rows.boot_list (pa_cons (pe_fldK (K := K) rfl (pv 0) rfl) pa_nil)))), ?_⟩
    try dsimp only [L2.cxX, L2.cxOf, L2.cxComp]
    walk_at "rds"
    intro l hl'
    rw [numsOf_keys]
    exact q l _ hl' (same_new hl') upd_same
end
def sp_ways_of {K : PySem.W.Frag} {mg : Str → Option Value} (T : Tp K mg) : Sp := fun vs H Q _ => ∃ (p : Addr) (hl : HM) (fp : List Addr), vs = [.ref p] ∧ HallAt T H p hl fp ∧ hl.names.length ≤ 1000 ∧ hl.belts.length ≤ 1000 ∧ Between hl.belts hl.names.length ∧
  ∀ (r : Addr) (ia : List Addr) (H' : Hp), H r = none → Same H H' → WaysAt H' r ia hl.names.length (waysL hl.belts) → Q (.ref r) H'
section
variable {P : Program} {w : World} {K : PySem.W.Frag} {mg : Str → Option Value} {base : Heap}
theorem ok_ways_of (T : Tp K mg) : FnOk P w K mg base (CXX P w) 2 T.f_ways_of T.d_ways_of ["hall"] (sp_ways_of T) := by
  have G_Hall_belts : FnOk P w K mg base (CXX P w) 1 T.f_Hall_belts T.d_Hall_belts ["self"] (sp_Hall_belts T) := (ok_Hall_belts T).mono (by decide)
  have G_Hall_names : FnOk P w K mg base (CXX P w) 1 T.f_Hall_names T.d_Hall_names ["self"] (sp_Hall_names T) := (ok_Hall_names T).mono (by decide)
  have cl_Hall := T.cl_Hall
  have na_Hall := T.na_Hall
  refine T.F_ways_of.okX sc_ways_of (fun vs H Q E h => ?_) (fun cdv A outer s H vs Q E hr h => ?_)
  · obtain ⟨p, hl, fp, rfl, _⟩ := h
    rfl
  · have hu := hr.units
    obtain ⟨p, hl, fp, rfl, hh, hn, hz, hbt, q⟩ := h
    refine ⟨_, (pss_cons (ps_compN (j := 1) (xs := ["name"]) rfl (cscope (x := "name") (zs := []) (ix := []) (defScope s_ways_of) ["hall", "ways", "belt", "row"] rfl rfl (by decide +kernel)) (pi_listK (K := K) rfl (pe_meth0 (pv 0) T.cl_Hall T.M_Hall_names G_Hall_names hr T.b_Hall_names .nil pass_on)) (fun cl C s H fp => ⟨(pg_name (i := 0) (show (["name"] : List Str).Nodup by decide +kernel) rfl (Or.inl rfl)), pif_nil, (pe_lst pa_nil)⟩) sc_ways_of.nd rfl (Or.inl rfl))
          (pss_cons (ps_for PassesOwn.leaving rfl (pi_enum (K := K) rfl rfl T.n_enumerate (pa_cons (pe_meth0 (pv 0) T.cl_Hall T.M_Hall_belts G_Hall_belts hr T.b_Hall_belts .nil pass_on) pa_nil)) (pg_tupK (K := K) (n := 2) rfl rfl (pgs_cons (pg_name (i := 2) sc_ways_of.nd rfl (Or.inl rfl)) (pgs_cons (pg_name (i := 3) sc_ways_of.nd rfl (Or.inl rfl)) pgs_nil))) (pss_cons (ps_expr (pe_bmK (K := K) rfl PySem.F.plainAttrs_list PySem.F.slot_list_append PySem.F.type_list_append mt_append (pe_ix (ix_K (K := K) rfl) (pv 1) (pe_ix (ix_K (K := K) rfl) (pv 3) pe_int (fun _ _ => rfl)) (fun _ _ => rfl)) (pa_cons (pe_tup (pa_cons (pe_ix (ix_K (K := K) rfl) (pv 3) pe_int (fun _ _ => rfl)) (pa_cons (pv 2) (pa_cons pe_bl pa_nil)))) pa_nil)))
          (pss_one (ps_expr (pe_bmK (K := K) rfl PySem.F.plainAttrs_list PySem.F.slot_list_append PySem.F.type_list_append mt_append (pe_ix (ix_K (K := K) rfl) (pv 1) (pe_ix (ix_K (K := K) rfl) (pv 3) pe_int (fun _ _ => rfl)) (fun _ _ => rfl)) (pa_cons (pe_tup (pa_cons (pe_ix (ix_K (K := K) rfl) (pv 3) pe_int (fun _ _ => rfl)) (pa_cons (pv 2) (pa_cons pe_bl pa_nil)))) pa_nil))))))
          (pss_one (ps_ret (pv 1))))), ?_⟩
    try dsimp only [L2.cxX, L2.cxOf, L2.cxComp]
    walk_at "rds"
    refine ⟨p, hl, fp, rfl, hh, fun nm H1 hnm s1 hnm1 => ?_⟩
    walk_at "rds"
    refine comp_lists (own := 1) (walks_lst (SqL.of hnm1)).y (small1000 (by rw [List.length_map]; exact hn)) (fun i => [some ((hl.names.map V.str).getD i .non)]) (fun _ => rfl) (fun i a' H' v H2 Kg hi sm y hal k => ?_) (fun i H' Kc hi sm k => ?_) (fun r H2 ia hr s2 hr2 hil hnd hia => ?_)
    · obtain ⟨rfl, rfl⟩ := y
      obtain ⟨x1, rfl⟩ : ∃ x1, a' = [x1] := by
        match a', hal with
        | [x1], _ => exact ⟨x1, rfl⟩
      walk_at "rds"
      exact k _ (Same.refl _)
    · exact k
    rw [List.length_map] at hil
    have s12 := s1.trans s2
    have hh2 := hh.same s12
    have hr0 : H r = none := same_none s1 hr
    have hia0 : ∀ x ∈ ia, H x = none := fun x hx => same_none s1 (hia x hx).1
    have nri : ∀ x ∈ ia, r ≠ x := fun x hx z => (hia x hx).2.1 z.symm
    walk_at "rds"
    intro u H3 bs hu0 s3 hu3 hT
    have hbl := hT.length
    have nui : ∀ x ∈ ia, u ≠ x := fun x hx z => by
      have := (hia x hx).2.2
      rw [← z, hu0] at this
      cases this
    walk_at "rds"
    refine for_walkY (walks_enum (SqL.of (only_self (q := u) (o := .lst bs)))) (fun k σ H' => ∃ (a1 a2 : Option V), σ = [some (.ref p), some (.ref r), a1, a2] ∧ Same H H' ∧ H' u = some (.lst bs) ∧ H' r = some (.lst (ia.map V.ref)) ∧ Tups H' bs hl.belts ∧ WA H' ia (waysTo hl.belts k) ∧ ∀ (j : Nat) (h : j < ia.length) vs, H' ia[j] = some (.lst vs) → vs.length ≤ 2 * k)
      ⟨_, _, rfl, s12.trans s3, hu3, s3 _ _ hr2, hT, fun j hj => ⟨[], s3 _ _ (hia _ (List.getElem_mem hj)).2.2, .nil⟩, fun j hj vs e => ?_⟩ ?_ ?_ ?_
    · rw [s3 _ _ (hia _ (List.getElem_mem hj)).2.2] at e
      cases e
      exact Nat.zero_le _
    · rintro k σ H' ⟨_, _, _, _, h, _⟩
      exact only_same h
    · rintro k σ H4 v H5 hk ⟨a1, a2, rfl, s4, hu4, hr4, hT4, hWA, hsz⟩ ⟨t, ht, rfl, rfl⟩
      have hkl : k < hl.belts.length := by omega
      obtain ⟨g0, g1, t0, t1⟩ := hbt.at hkl
      obtain ⟨tb, hb1, hb2⟩ := hT4.getD hkl
      rw [hb1]
      refine Rd.gtup (.of upd_same) rfl ?_
      have s5 : Same H4 (upd H4 t (.tup [.int k, .ref tb])) := same_new ht
      generalize upd H4 t (.tup [.int k, .ref tb]) = H5 at *
      have hW1 : ∀ j : Int, waysTo hl.belts (k + 1) j = (waysTo hl.belts k j ++ (if (hl.belts.getD k dB).giver = j then [((hl.belts.getD k dB).taker, (k : Int), true)] else [])) ++ (if (hl.belts.getD k dB).taker = j then [((hl.belts.getD k dB).giver, (k : Int), false)] else []) := fun j => by
        rw [waysTo_succ, wayAt, List.append_assoc]
      generalize hl.belts.getD k dB = b at *
      have hbt5 := s5 _ _ hb2
      dsimp only [B5.v] at hbt5
      have hr5 := s5 _ _ hr4
      have hWA5 := hWA.same s5
      have gl : b.giver.toNat < ia.length := by omega
      have tl : b.taker.toNat < ia.length := by omega
      have atg := at_refs g0 gl
      have att := at_refs t0 tl
      have eg : ((b.giver.toNat : Nat) : Int) = b.giver := Int.toNat_of_nonneg g0
      have et : ((b.taker.toNat : Nat) : Int) = b.taker := Int.toNat_of_nonneg t0
      obtain ⟨vs, hv1, hv2⟩ := hWA5 b.giver.toNat gl
      have hsz5 : ∀ (j : Nat) (h : j < ia.length) vs, H5 ia[j] = some (.lst vs) → vs.length ≤ 2 * k := fun j hj us e => by
        obtain ⟨us', h1, _⟩ := hWA j hj
        have := s5 _ _ h1
        rw [e] at this
        cases this
        exact hsz j hj _ h1
      have vz : vs.length < sizeLine := small1000' (by have := hsz5 _ gl _ hv1; omega)
      walk_at "rds"
      refine ⟨by show 3 ≤ sizeLine; decide, fun t2 ht2 => ?_⟩
      have s6 : Same H5 (upd H5 t2 (.tup [.int b.taker, .int k, .bl true])) := same_new ht2
      have ht6 : (upd H5 t2 (.tup [.int b.taker, .int k, .bl true])) t2 = some (.tup [.int b.taker, .int k, .bl true]) := upd_same
      generalize upd H5 t2 (.tup [.int b.taker, .int k, .bl true]) = H6 at *
      have hv6 := s6 _ _ hv1
      walk_at "rds"
      have hWA7 := (hWA5.same s6).add hnd gl hv6 (hv2.keep fun _ _ e => s6 _ _ e) (x := (b.taker, (k : Int), true)) ht6
      have ng : r ≠ ia[b.giver.toNat] := nri _ (List.getElem_mem gl)
      have nug : u ≠ ia[b.giver.toNat] := nui _ (List.getElem_mem gl)
      have hr7 : (upd H6 ia[b.giver.toNat] (.lst (vs ++ [.ref t2]))) r = some (.lst (ia.map V.ref)) := by rw [upd_ne ng]; exact s6 _ _ hr5
      have hu7 : (upd H6 ia[b.giver.toNat] (.lst (vs ++ [.ref t2]))) u = some (.lst bs) := by rw [upd_ne nug]; exact s6 _ _ (s5 _ _ hu4)
      have tk7 : ∀ c xs, H6 c = some (.tup xs) → (upd H6 ia[b.giver.toNat] (.lst (vs ++ [.ref t2]))) c = some (.tup xs) := fun c xs e => by rw [upd_ne (ne_of e hv6 (by intro z; cases z))]; exact e
      have hb7 := tk7 _ _ (s6 _ _ hbt5)
      have hT7 : Tups (upd H6 ia[b.giver.toNat] (.lst (vs ++ [.ref t2]))) bs hl.belts := ((hT4.keep fun _ _ e => s5 _ _ e).keep fun _ _ e => s6 _ _ e).keep tk7
      have sm7 : Same H (upd H6 ia[b.giver.toNat] (.lst (vs ++ [.ref t2]))) := ((s4.trans s5).trans s6).new (hia0 _ (List.getElem_mem gl))
      have hsz7 : ∀ (j : Nat) (h : j < ia.length) us, (upd H6 ia[b.giver.toNat] (.lst (vs ++ [.ref t2]))) ia[j] = some (.lst us) → us.length ≤ 2 * k + 1 := fun j hj us e => by
        by_cases z : j = b.giver.toNat
        · subst z
          rw [upd_same] at e
          cases e
          have := hsz5 _ gl _ hv1
          simp; omega
        · have ne : ia[j] ≠ ia[b.giver.toNat] := fun y => z (nd_inj hnd hj gl y)
          rw [upd_ne ne] at e
          obtain ⟨us', h1, _⟩ := hWA5 j hj
          have := s6 _ _ h1
          rw [e] at this
          cases this
          have := hsz5 j hj _ h1
          omega
      generalize upd H6 ia[b.giver.toNat] (.lst (vs ++ [.ref t2])) = H7 at *
      obtain ⟨us, hq1, hq2⟩ := hWA7 b.taker.toNat tl
      have uz : us.length < sizeLine := small1000' (by have := hsz7 _ tl _ hq1; omega)
      walk_at "rds"
      refine ⟨by show 3 ≤ sizeLine; decide, fun t3 ht3 => ?_⟩
      have s8 : Same H7 (upd H7 t3 (.tup [.int b.giver, .int k, .bl false])) := same_new ht3
      have ht8 : (upd H7 t3 (.tup [.int b.giver, .int k, .bl false])) t3 = some (.tup [.int b.giver, .int k, .bl false]) := upd_same
      generalize upd H7 t3 (.tup [.int b.giver, .int k, .bl false]) = H8 at *
      have hq8 := s8 _ _ hq1
      walk_at "rds"
      have hWA9 := (hWA7.same s8).add hnd tl hq8 (hq2.keep fun _ _ e => s8 _ _ e) (x := (b.giver, (k : Int), false)) ht8
      have ng2 : r ≠ ia[b.taker.toNat] := nri _ (List.getElem_mem tl)
      have nug2 : u ≠ ia[b.taker.toNat] := nui _ (List.getElem_mem tl)
      have tk9 : ∀ c xs, H8 c = some (.tup xs) → (upd H8 ia[b.taker.toNat] (.lst (us ++ [.ref t3]))) c = some (.tup xs) := fun c xs e => by rw [upd_ne (ne_of e hq8 (by intro z; cases z))]; exact e
      refine ⟨_, _, rfl, (sm7.trans s8).new (hia0 _ (List.getElem_mem tl)), by rw [upd_ne nug2]; exact s8 _ _ hu7, by rw [upd_ne ng2]; exact s8 _ _ hr7, (hT7.keep fun _ _ e => s8 _ _ e).keep tk9, ?_, fun j hj ws e => ?_⟩
      · have eW : (fun j => (fun j => waysTo hl.belts k j ++ (if ((b.giver.toNat : Nat) : Int) = j then [(b.taker, (k : Int), true)] else [])) j ++ (if ((b.taker.toNat : Nat) : Int) = j then [(b.giver, (k : Int), false)] else [])) = waysTo hl.belts (k + 1) := by
          funext j
          rw [hW1 j, eg, et]
        rw [eW] at hWA9
        exact hWA9
      · by_cases z : j = b.taker.toNat
        · subst z
          rw [upd_same] at e
          cases e
          have := hsz7 _ tl _ hq1
          simp; omega
        · have ne : ia[j] ≠ ia[b.taker.toNat] := fun y => z (nd_inj hnd hj tl y)
          rw [upd_ne ne] at e
          obtain ⟨us', h1, _⟩ := hWA7 j hj
          have := s8 _ _ h1
          rw [e] at this
          cases this
          have := hsz7 j hj _ h1
          omega
    · rintro σ H4 ⟨a1, a2, rfl, s4, hu4, hr4, hT4, hWA, hsz⟩
      rw [hbl] at hWA
      walk_at "rds"
      exact q r ia H4 hr0 s4 ⟨hr4, hil, hnd, hWA⟩
end
def sp_tree_from {K : PySem.W.Frag} {mg : Str → Option Value} (T : Tp K mg) : Sp := fun vs H Q _ => ∃ (r : Addr) (ia : List Addr) (n : Nat) (W : Int → List Fo.Trip) (first : Int), vs = [.ref r, .int first] ∧ WaysAt H r ia n W ∧ n ≤ 1000 ∧ (∀ a, ∀ t ∈ W a, 0 ≤ t.1 ∧ t.1 < (n : Int)) ∧ 0 ≤ first ∧ first < (n : Int) ∧
  ∀ (d : Addr) (H' : Hp) (tr : Fo.Tree), H d = none → Same H H' → TreeAt H' d tr → Fo.Grown W first tr → Fo.Gone W tr tr.length → Q (.ref d) H'
section
variable {P : Program} {w : World} {K : PySem.W.Frag} {mg : Str → Option Value} {base : Heap}
theorem ok_tree_from (T : Tp K mg) : FnOk P w K mg base (CXX P w) 1 T.f_tree_from T.d_tree_from ["ways", "first"] (sp_tree_from T) := by
  refine T.F_tree_from.okX sc_tree_from (fun vs H Q E h => ?_) (fun cdv A outer s H vs Q E hr h => ?_)
  · obtain ⟨r, ia, n, W, first, rfl, _⟩ := h
    rfl
  · have hu := hr.units
    obtain ⟨r, ia, n, W, first, rfl, hw, hn, hrg, f0, f1, q⟩ := h
    have hil := hw.len
    refine ⟨_, (pss_cons (ps_set (i := 2) sc_tree_from.nd rfl (Or.inl rfl) (pe_disp (pps_cons (pv 1) pe_non pps_nil) rfl rfl (by simp) (by decide)))
          (pss_cons (ps_set (i := 3) sc_tree_from.nd rfl (Or.inl rfl) (pe_lst (pa_cons (pv 1) pa_nil)))
          (pss_cons (ps_set (i := 4) sc_tree_from.nd rfl (Or.inl rfl) pe_int)
          (pss_cons (ps_while PassesOwn.leaving (pt_cmpR op_lt (pv 4) (pe_callB (len_K (K := K) rfl) (by rfl) T.n_len PySem.boot_len (pa_cons (pv 3) pa_nil)) (nomark _)) (pss_cons (ps_set (i := 5) sc_tree_from.nd rfl (Or.inl rfl) (pe_ix (ix_K (K := K) rfl) (pv 3) (pv 4) (fun _ _ => rfl)))
          (pss_cons (ps_aug (i := 4) sc_tree_from.nd rfl (Or.inl rfl) pe_int ip_add)
          (pss_one (ps_for PassesOwn.leaving rfl (pi_listK (K := K) rfl (pe_ix (ix_K (K := K) rfl) (pv 0) (pv 5) (fun _ _ => rfl))) (pg_tupK (K := K) (n := 3) rfl rfl (pgs_cons (pg_name (i := 6) sc_tree_from.nd rfl (Or.inl rfl)) (pgs_cons (pg_name (i := 7) sc_tree_from.nd rfl (Or.inl rfl)) (pgs_cons (pg_name (i := 8) sc_tree_from.nd rfl (Or.inl rfl)) pgs_nil)))) (pss_one (ps_if (pt_cmpR (op_dNotIn hu) (pv 6) (pv 2) (by with_unfolding_all rfl)) (pss_cons (ps_asg (pe_tup (pa_cons (pv 5) (pa_cons (pv 7) (pa_cons (pv 8) pa_nil)))) (pg_sub (pv 2) (pv 6) (set_dict hu)))
          (pss_one (ps_expr (pe_bmK (K := K) rfl PySem.F.plainAttrs_list PySem.F.slot_list_append PySem.F.type_list_append mt_append (pv 3) (pa_cons (pv 6) pa_nil))))) pss_nil)))))))
          (pss_one (ps_ret (pv 2))))))), ?_⟩
    try dsimp only [L2.cxX, L2.cxOf, L2.cxComp]
    walk_at "rds"
    intro d hd
    dsimp only [tPairs]
    walk_at "rds"
    refine ⟨upd_same, [(Sum.inl first, .non)], rfl, by simp, ?_⟩
    have hd1 : (upd (upd H d (.dK [])) d (.dK (mergeK [] [(Sum.inl first, .non)]))) d = some (.dK [(Sum.inl first, .non)]) := upd_same
    have s1 : Same H (upd (upd H d (.dK [])) d (.dK (mergeK [] [(Sum.inl first, .non)]))) := (same_new hd).new hd
    generalize upd (upd H d (.dK [])) d (.dK (mergeK [] [(Sum.inl first, .non)])) = H1 at *
    walk_at "rds"
    refine (fun c hc => ?_)
    have s2 : Same H1 (upd H1 c (.lst [V.int first])) := same_new hc
    have hc2 : (upd H1 c (.lst [V.int first])) c = some (.lst ((Fo.keys [(first, none)]).map V.int)) := upd_same
    have hd2 := s2 _ _ hd1
    have hc0 : H c = none := same_none s1 hc
    have ncd : c ≠ d := fun z => by rw [z, hd1] at hc; cases hc
    generalize upd H1 c (.lst [V.int first]) = H2 at *
    have s02 := s1.trans s2
    have ht2 : TreeAt H2 d [(first, none)] := ⟨_, hd2, .cons ⟨rfl, rfl⟩ .nil⟩
    clear hd1 hd2 s1 s2 hc
    walk_at "rds"
    refine while3 (fun m σ H' => ∃ (tr : Fo.Tree) (dn : Nat) (a1 a2 a3 a4 : Option V), σ = [some (.ref r), some (.int first), some (.ref d), some (.ref c), some (.int dn), a1, a2, a3, a4] ∧ Same H H' ∧ TreeAt H' d tr ∧ H' c = some (.lst ((Fo.keys tr).map V.int)) ∧ dn ≤ tr.length ∧ Fo.Grown W first tr ∧ Fo.Gone W tr dn ∧ m = n + 1 - dn) (n + 1)
      ⟨[(first, none)], 0, _, _, _, _, rfl, s02, ht2, hc2, Nat.zero_le _, Fo.grown_one, fun j w s hj => absurd hj (Nat.not_lt_zero _), rfl⟩ ?_
    rintro m σ H3 ⟨tr, dn, a1, a2, a3, a4, rfl, s3, ht3, hc3, hdn, hg, hgo, rfl⟩
    have hkl : ((Fo.keys tr).map V.int).length = tr.length := by simp [Fo.keys]
    have htn : tr.length ≤ n := by
      have := Fo.len_le (n := n) hg.nodup (hg.rg ⟨f0, f1⟩ hrg)
      simpa [Fo.keys] using this
    walk_at "rds"
    rw [hkl]
    refine Rd.ifD (fun z => ?_) (fun z => ?_)
    · have hdl : dn < tr.length := by omega
      obtain ⟨⟨w, st⟩, ew⟩ : ∃ x, tr[dn]? = some x := ⟨tr[dn], List.getElem?_eq_getElem hdl⟩
      have hwk := Fo.mem_keys ew
      obtain ⟨w0, w1⟩ := hg.rg ⟨f0, f1⟩ hrg w hwk
      have at1 : atI ((Fo.keys tr).map V.int) (dn : Int) = some (.int w) := atI_nat (by rw [List.getElem?_map]; unfold Fo.keys; rw [List.getElem?_map, ew]; rfl)
      have hwl : w.toNat < ia.length := by omega
      have atw := at_refs w0 hwl
      have hw3 := hw.same s3
      have hwr := hw3.at_
      obtain ⟨vs, hv0, hv1⟩ := hw.wa w.toNat hwl
      rw [Int.toNat_of_nonneg w0] at hv1
      have hv3 := s3 _ _ hv0
      have hvl := hv1.length
      refine turn3 ?_
      walk_at "rds"
      refine ⟨_, rfl, ?_⟩
      walk_at "rds"
      refine for_walk (walks_lst (SqL.of hv0)) (fun j σ H' => ∃ (tr : Fo.Tree) (a2 a3 a4 : Option V), σ = [some (.ref r), some (.int first), some (.ref d), some (.ref c), some (.int (dn + 1)), some (.int w), a2, a3, a4] ∧ Same H H' ∧ TreeAt H' d tr ∧ H' c = some (.lst ((Fo.keys tr).map V.int)) ∧ Fo.Grown W first tr ∧ Fo.Gone W tr dn ∧ tr[dn]? = some (w, st) ∧ ∀ t ∈ (W w).take j, t.1 ∈ Fo.keys tr)
        ⟨tr, _, _, _, rfl, s3, ht3, hc3, hg, hgo, ew, by simp⟩ (fun j σ H' ⟨_, _, _, _, _, s, _⟩ => s) ?_ ?_
      · rintro j σ H4 hj ⟨tr, a2, a3, a4, rfl, s4, ⟨kvs, hd4, hen⟩, hc4, hg, hgo, ew, hall⟩
        have hjl : j < (W w).length := by omega
        obtain ⟨t, ht1, ht4⟩ := hv1.at (List.getElem?_eq_getElem hjl)
        have eb : vs.getD j .non = .ref t := by simp [List.getD, ht1]
        rw [eb]
        have hmem : (W w)[j] ∈ W w := List.getElem_mem hjl
        have htk : (W w).take (j + 1) = (W w).take j ++ [(W w)[j]] := List.take_succ_eq_append_getElem hjl
        have ht5 := s4 _ _ ht4
        have hrr := hrg w _ hmem
        generalize (W w)[j] = x at *
        obtain ⟨o, b, al⟩ := x
        refine Rd.gtup (.of ht5) rfl ?_
        dsimp only at *
        have htn : tr.length ≤ n := by
          have := Fo.len_le (n := n) hg.nodup (hg.rg ⟨f0, f1⟩ hrg)
          simpa [Fo.keys] using this
        have hkz : kvs.length < sizeLine := small1000 (by rw [hen.length]; omega)
        have hcz : ((Fo.keys tr).map V.int).length < sizeLine := small1000 (by simp [Fo.keys]; omega)
        walk_at "rds"
        have hs := hen.some (w := o)
        by_cases ho : o ∈ Fo.keys tr
        · rw [hs.mpr ho]
          walk_at "rds"
          refine ⟨tr, _, _, _, rfl, s4, ⟨kvs, hd4, hen⟩, hc4, hg, hgo, ew, ?_⟩
          rw [htk]
          intro t' ht'
          rcases List.mem_append.mp ht' with y | y
          · exact hall t' y
          · rw [List.mem_singleton.mp y]; exact ho
        · have hno : valV kvs (Sum.inl o) = none := by
            cases e : valV kvs (Sum.inl o) with
            | none => rfl
            | some v => exact absurd (hs.mp (by rw [e]; rfl)) ho
          rw [hno, Option.isSome_none]
          walk_at "rds"
          refine ⟨by show 3 ≤ sizeLine; decide, fun t2 ht2 => ?_⟩
          have s5 : Same H4 (upd H4 t2 (.tup [.int w, .int b, .bl al])) := same_new ht2
          have hn5 : (upd H4 t2 (.tup [.int w, .int b, .bl al])) t2 = some (.tup [.int w, .int b, .bl al]) := upd_same
          have hd5 := s5 _ _ hd4
          have hc5 := s5 _ _ hc4
          have hen5 : Ent (upd H4 t2 (.tup [.int w, .int b, .bl al])) kvs tr := hen.keep fun _ _ e => s5 _ _ e
          generalize upd H4 t2 (.tup [.int w, .int b, .bl al]) = H5 at *
          walk_at "rds"
          rw [putK_new _ hno]
          have tk6 : ∀ a xs, H5 a = some (.tup xs) → (upd H5 d (.dK (kvs ++ [(Sum.inl o, .ref t2)]))) a = some (.tup xs) := fun a xs e => by rw [upd_ne (ne_of e hd5 (by intro z; cases z))]; exact e
          have hc6 : (upd H5 d (.dK (kvs ++ [(Sum.inl o, .ref t2)]))) c = some (.lst ((Fo.keys tr).map V.int)) := by rw [upd_ne ncd]; exact hc5
          have hd6 : (upd H5 d (.dK (kvs ++ [(Sum.inl o, .ref t2)]))) d = some (.dK (kvs ++ [(Sum.inl o, .ref t2)])) := upd_same
          have hen6 := (hen5.keep tk6).snoc (w := o) (v := .ref t2) (s := some (w, b, al)) ⟨t2, rfl, tk6 _ _ hn5⟩
          have s6 : Same H (upd H5 d (.dK (kvs ++ [(Sum.inl o, .ref t2)]))) := (s4.trans s5).new hd
          generalize upd H5 d (.dK (kvs ++ [(Sum.inl o, .ref t2)])) = H6 at *
          walk_at "rds"
          have hdl2 := (List.getElem?_eq_some_iff.mp ew).1
          refine ⟨tr ++ [(o, some (w, b, al))], _, _, _, rfl, s6.new hc0, ⟨_, by rw [upd_ne ncd.symm]; exact hd6, hen6.keep fun a xs e => by rw [upd_ne (ne_of e hc6 (by intro z; cases z))]; exact e⟩, ?_, hg.snoc ew hmem ho, hgo.snoc (by omega) _ _, Fo.snoc_at ew, ?_⟩
          · rw [upd_same, Fo.keys_snoc, List.map_append]; rfl
          · rw [htk, Fo.keys_snoc]
            intro t' ht'
            rcases List.mem_append.mp ht' with y | y
            · exact List.mem_append_left _ (hall t' y)
            · rw [List.mem_singleton.mp y]; exact List.mem_append_right _ (List.mem_singleton.mpr rfl)
      · rintro σ H4 ⟨tr, a2, a3, a4, rfl, s4, ht4, hc4, hg, hgo, ew, hall⟩
        rw [← hvl, List.take_length] at hall
        have hdl2 := (List.getElem?_eq_some_iff.mp ew).1
        walk_at "rds"
        exact ⟨n + 1 - (dn + 1), by omega, tr, dn + 1, _, _, _, _, rfl, s4, ht4, hc4, hdl2, hg, hgo.next ew hall, rfl⟩
    · have e : dn = tr.length := by omega
      subst e
      walk_at "rds"
      exact q d H3 tr hd s3 ht3 hg hgo
end
def sp_forest_of {K : PySem.W.Frag} {mg : Str → Option Value} (T : Tp K mg) : Sp := fun vs H Q _ => ∃ (p : Addr) (hl : HM) (fp : List Addr), vs = [.ref p] ∧ HallAt T H p hl fp ∧ hl.names.length ≤ 60 ∧ hl.belts.length ≤ 1000 ∧ Between hl.belts hl.names.length ∧
  ∀ (f : Addr) (ds : List Addr) (H' : Hp) (F : List (Int × Fo.Tree)), H f = none → Same H H' → ForestAt H' f ds F → (∀ d ∈ ds, H d = none) → Fo.Wood (waysL hl.belts) hl.names.length F hl.names.length → F.length ≤ hl.names.length → Q (.ref f) H'
section
variable {P : Program} {w : World} {K : PySem.W.Frag} {mg : Str → Option Value} {base : Heap}
theorem ok_forest_of (T : Tp K mg) : FnOk P w K mg base (CXX P w) 3 T.f_forest_of T.d_forest_of ["hall"] (sp_forest_of T) := by
  have G_ways_of : FnOk P w K mg base (CXX P w) 2 T.f_ways_of T.d_ways_of ["hall"] (sp_ways_of T) := (ok_ways_of T).mono (by decide)
  have G_tree_from : FnOk P w K mg base (CXX P w) 2 T.f_tree_from T.d_tree_from ["ways", "first"] (sp_tree_from T) := (ok_tree_from T).mono (by decide)
  refine T.F_forest_of.okX sc_forest_of (fun vs H Q E h => ?_) (fun cdv A outer s H vs Q E hr h => ?_)
  · obtain ⟨p, hl, fp, rfl, _⟩ := h
    rfl
  · have hu := hr.units
    obtain ⟨p, hl, fp, rfl, hh, hn, hz, hbt, q⟩ := h
    refine ⟨_, (pss_cons (ps_set (i := 1) sc_forest_of.nd rfl (Or.inl rfl) (pe_call G_ways_of hr rfl T.m_ways_of T.F_ways_of.kp T.b_ways_of .nil pass_on (pa_cons (pv 0) pa_nil)))
          (pss_cons (ps_set (i := 2) sc_forest_of.nd rfl (Or.inl rfl) pe_dnewK)
          (pss_cons (ps_set (i := 3) sc_forest_of.nd rfl (Or.inl rfl) (pe_lst pa_nil))
          (pss_cons (ps_for PassesOwn.leaving rfl (pi_range1 rfl T.n_range (pa_cons (pe_callB (len_K (K := K) rfl) (by rfl) T.n_len PySem.boot_len (pa_cons (pv 1) pa_nil)) pa_nil)) (pg_name (i := 4) sc_forest_of.nd rfl (Or.inl rfl)) (pss_one (ps_if (pt_cmpR (op_dNotIn hu) (pv 4) (pv 2) (by with_unfolding_all rfl)) (pss_cons (ps_set (i := 5) sc_forest_of.nd rfl (Or.inl rfl) (pe_call G_tree_from hr rfl T.m_tree_from T.F_tree_from.kp T.b_tree_from .nil pass_on (pa_cons (pv 1) (pa_cons (pv 4) pa_nil))))
          (pss_cons (ps_expr (pe_bmK (K := K) rfl PySem.F.plainAttrs_dict PySem.F.slot_dict_update PySem.F.type_dict_update mt_updD (pv 2) (pa_cons (pv 5) pa_nil)))
          (pss_one (ps_expr (pe_bmK (K := K) rfl PySem.F.plainAttrs_list PySem.F.slot_list_append PySem.F.type_list_append mt_append (pv 3) (pa_cons (pv 5) pa_nil)))))) pss_nil)))
          (pss_one (ps_ret (pv 3))))))), ?_⟩
    try dsimp only [L2.cxX, L2.cxOf, L2.cxComp]
    walk_at "rds"
    refine ⟨p, hl, fp, rfl, hh, by omega, hz, hbt, fun r ia H1 hr s1 hw1 => ?_⟩
    walk_at "rds"
    intro se hse
    have s2 : Same H1 (upd H1 se (.dK [])) := same_new hse
    have hs2 : (upd H1 se (.dK [])) se = some (.dK []) := upd_same
    have hse0 : H se = none := same_none s1 hse
    generalize upd H1 se (.dK []) = H2 at *
    walk_at "rds"
    refine ⟨Nat.zero_le _, fun f hf => ?_⟩
    have s3 : Same H2 (upd H2 f (.lst [])) := same_new hf
    have hf3 : (upd H2 f (.lst [])) f = some (.lst (([] : List Addr).map V.ref)) := upd_same
    have hs3 := s3 _ _ hs2
    have hf1 : H1 f = none := same_none s2 hf
    have hf0 : H f = none := same_none s1 hf1
    generalize upd H2 f (.lst []) = H3 at *
    have s13 := s2.trans s3
    have hw3 := hw1.same s13
    have hwr := hw3.at_
    have hwl : ((ia.map V.ref).length : Int) = (hl.names.length : Int) := by rw [List.length_map, hw1.len]
    walk_at "rds"
    rw [hwl]
    refine for_range (n := hl.names.length) (fun i σ H' => ∃ (kvs : List (Key × V)) (ds : List Addr) (F : List (Int × Fo.Tree)) (a1 a2 : Option V), σ = [some (.ref p), some (.ref r), some (.ref se), some (.ref f), a1, a2] ∧ Same H1 H' ∧ H' se = some (.dK kvs) ∧ H' f = some (.lst (ds.map V.ref)) ∧ Trees H' ds F ∧
      (∀ d ∈ ds, d ≠ se ∧ H d = none) ∧ kvs.length ≤ 60 * i ∧ (∀ w : Int, (valV kvs (Sum.inl w)).isSome = true ↔ ∃ x ∈ F, w ∈ Fo.keys x.2) ∧ Fo.Wood (waysL hl.belts) hl.names.length F i ∧ F.length ≤ i)
      ⟨[], [], [], _, _, rfl, s13, hs3, hf3, .nil, by simp, Nat.zero_le _, fun w => ⟨fun z => (by cases z), fun ⟨x, hx, _⟩ => (by cases hx)⟩, Fo.wood_nil, Nat.le_refl _⟩ ?_ ?_
    · rintro i σ H4 hi ⟨kvs, ds, F, a1, a2, rfl, s4, hs4, hf4, hT4, hds, hkl, hin, hwd, hFl⟩
      rw [Int.zero_add]
      walk_at "rds"
      have hs := hin (i : Int)
      by_cases hx : ∃ x ∈ F, (i : Int) ∈ Fo.keys x.2
      · rw [hs.mpr hx]
        walk_at "rds"
        exact ⟨kvs, ds, F, _, _, rfl, s4, hs4, hf4, hT4, hds, by omega, hin, hwd.skip hx, by omega⟩
      · have hno : (valV kvs (Sum.inl (i : Int))).isSome = false := by
          cases e : (valV kvs (Sum.inl (i : Int))).isSome with
          | false => rfl
          | true => exact absurd (hs.mp e) hx
        rw [hno]
        walk_at "rds"
        refine ⟨r, ia, hl.names.length, waysL hl.belts, (i : Int), rfl, hw1.same s4, by omega, ways_rg hbt, by omega, by omega, fun d H5 tr hd0 s5 ht5 hg hgo => ?_⟩
        obtain ⟨more, hd5, hen⟩ := id ht5
        have nds : se ≠ d := ne_of_none hs4 hd0
        have hs5 := s5 _ _ hs4
        have hf5 := s5 _ _ hf4
        have hT5 := hT4.same s5
        have hrg5 := hg.rg (n := (hl.names.length : Int)) ⟨by omega, by omega⟩ (ways_rg hbt)
        have htl : tr.length ≤ hl.names.length := by
          have := Fo.len_le (n := hl.names.length) hg.nodup hrg5
          simpa [Fo.keys] using this
        have hml : more.length ≤ 60 := by rw [hen.length]; omega
        walk_at "rds"
        refine ⟨.inr (.inr (.inl ⟨rfl, .inl ⟨_, hs5⟩⟩)), ?_⟩
        walk_at "rds"
        refine Rd.updD nds hs5 hd5 (Nat.le_of_lt (small1000' (by omega))) ?_
        have hme := merge_some more kvs
        have hmk := length_mergeK more kvs
        have tk6 : ∀ a xs, H5 a = some (.tup xs) → (upd H5 se (.dK (mergeK kvs more))) a = some (.tup xs) := fun a xs e => by rw [upd_ne (ne_of e hs5 (by intro z; cases z))]; exact e
        have hs6 : (upd H5 se (.dK (mergeK kvs more))) se = some (.dK (mergeK kvs more)) := upd_same
        have hf6 : (upd H5 se (.dK (mergeK kvs more))) f = some (.lst (ds.map V.ref)) := by rw [upd_ne (ne_of hf5 hs5 (by intro z; cases z))]; exact hf5
        have hd6 : TreeAt (upd H5 se (.dK (mergeK kvs more))) d tr := ⟨more, by rw [upd_ne nds.symm]; exact hd5, hen.keep tk6⟩
        have hT6 : Trees (upd H5 se (.dK (mergeK kvs more))) ds F := hT5.keep tk6 (fun d' hd' ks e => by rw [upd_ne (hds d' hd').1]; exact e)
        have s6 : Same H1 (upd H5 se (.dK (mergeK kvs more))) := (s4.trans s5).new hse
        generalize upd H5 se (.dK (mergeK kvs more)) = H6 at *
        have hdz : (ds.map V.ref).length < sizeLine := small1000 (by rw [List.length_map, hT4.length]; omega)
        walk_at "rds"
        have tk7 : ∀ a xs, H6 a = some (.tup xs) → (upd H6 f (.lst (ds.map V.ref ++ [.ref d]))) a = some (.tup xs) := fun a xs e => by rw [upd_ne (ne_of e hf6 (by intro z; cases z))]; exact e
        have dk7 : ∀ a ks, H6 a = some (.dK ks) → (upd H6 f (.lst (ds.map V.ref ++ [.ref d]))) a = some (.dK ks) := fun a ks e => by rw [upd_ne (ne_of e hf6 (by intro z; cases z))]; exact e
        obtain ⟨more', hd6', hen6⟩ := hd6
        refine ⟨mergeK kvs more, ds ++ [d], F ++ [((i : Int), tr)], _, _, rfl, s6.new hf1, dk7 _ _ hs6, by rw [upd_same, List.map_append]; rfl, (hT6.keep tk7 fun d' _ ks e => dk7 _ _ e).snoc ⟨more', dk7 _ _ hd6', hen6.keep tk7⟩, fun d' hd' => ?_, by omega, fun w => ?_, hwd.grow (ways_both _) (ways_rg hbt) hi (fun x hx' hk => hx ⟨x, hx', hk⟩) hg hgo, by simp; omega⟩
        · rcases List.mem_append.mp hd' with z | z
          · exact hds d' z
          · rw [List.mem_singleton.mp z]; exact ⟨nds.symm, same_none (s1.trans s4) hd0⟩
        · rw [hme, Bool.or_eq_true, hin w, hen.some]
          constructor
          · rintro (⟨x, hx1, hx2⟩ | z)
            · exact ⟨x, List.mem_append_left _ hx1, hx2⟩
            · exact ⟨_, List.mem_append_right _ (List.mem_singleton.mpr rfl), z⟩
          · rintro ⟨x, hx1, hx2⟩
            rcases List.mem_append.mp hx1 with z | z
            · exact .inl ⟨x, z, hx2⟩
            · rw [List.mem_singleton.mp z] at hx2; exact .inr hx2
    · rintro σ H4 ⟨kvs, ds, F, a1, a2, rfl, s4, hs4, hf4, hT4, hds, hkl, hin, hwd, hFl⟩
      walk_at "rds"
      exact q f ds H4 F hf0 (s1.trans s4) ⟨hf4, hT4⟩ (fun d hd => (hds d hd).2) hwd hFl
end
def sp_divisor {K : PySem.W.Frag} {mg : Str → Option Value} (T : Tp K mg) : Sp := fun vs H Q _ => ∃ a b : Nat, vs = [.int a, .int b] ∧ Q (.int (Nat.gcd a b : Nat)) H
theorem rd_divisor {K : PySem.W.Frag} {mg : Str → Option Value} {T : Tp K mg} {H : Hp} {Q : VK} {E : XK} {a b : Nat} (q : Q (.int (Nat.gcd a b : Nat)) H) : sp_divisor T ([.int a, .int b] ++ []) H Q E := ⟨a, b, rfl, q⟩
local macro_rules | `(tactic| walk_at "rd") => `(tactic| first | with_reducible refine Nm.rd_divisor ?_ | fail "none here")
section
variable {P : Program} {w : World} {K : PySem.W.Frag} {mg : Str → Option Value} {base : Heap}
theorem ok_divisor (T : Tp K mg) : FnOk P w K mg base (CXX P w) 1 T.f_divisor T.d_divisor ["one", "other"] (sp_divisor T) := by
  refine T.F_divisor.okX sc_divisor (fun vs H Q E h => ?_) (fun cdv A outer s H vs Q E hr h => ?_)
  · obtain ⟨a, b, rfl, _⟩ := h
    rfl
  · have hu := hr.units
    obtain ⟨a0, b0, rfl, q⟩ := h
    rw [← My.G_nat] at q
    refine ⟨_, (pss_cons (ps_while PassesOwn.leaving (pt_cmpR op_gt (pv 1) pe_int (nomark _)) (pss_cons (ps_set (i := 2) sc_divisor.nd rfl (Or.inl rfl) (pe_op op_mod (pv 0) (pv 1)))
          (pss_cons (ps_set (i := 0) sc_divisor.nd rfl (Or.inl rfl) (pv 1))
          (pss_one (ps_set (i := 1) sc_divisor.nd rfl (Or.inl rfl) (pv 2))))))
          (pss_one (ps_ret (pv 0)))), ?_⟩
    try dsimp only [L2.cxX, L2.cxOf, L2.cxComp]
    walk_at "rd"
    refine while3 (fun m σ H' => H' = H ∧ ∃ (x y : Int) (r : Option V), m = y.toNat ∧ σ = [some (.int x), some (.int y), r] ∧ 0 ≤ x ∧ 0 ≤ y ∧ My.G x y = My.G a0 b0) _ ⟨rfl, a0, b0, none, rfl, rfl, by omega, by omega, rfl⟩ ?_
    rintro m σ H' ⟨rfl, x, y, r, rfl, rfl, hx, hy, hG⟩
    walk_at "rds"
    refine ite2 (fun c => turn3 ?_) (fun c => ?_)
    · have hy0 : 0 < y := of_decide_eq_true c
      walk_at "rds"
      exact ⟨_, (by have := Int.emod_nonneg x (show y ≠ 0 by omega); have := Int.emod_lt_of_pos x hy0; omega), rfl, y, x % y, some (.int (x % y)), rfl, rfl, hy, Int.emod_nonneg x (by omega), (G_turn' hx hy0).trans hG⟩
    · have hy0 : ¬ 0 < y := fun z => c (decide_eq_true z)
      have e : x = My.G a0 b0 := by rw [← hG, My.G_zero hx (show y = 0 by omega)]
      walk_at "rds"
      rw [e]
      exact q
end
def sp_ratio {K : PySem.W.Frag} {mg : Str → Option Value} (T : Tp K mg) : Sp := fun vs H Q _ => ∃ a b : Nat, vs = [.int a, .int b] ∧ 0 < b ∧ b < 2 ^ 8000 ∧ ∀ (p : Addr) (H' : Hp), H p = none → Same H H' → H' p = some (.tup [.int (a / Nat.gcd a b : Nat), .int (b / Nat.gcd a b : Nat)]) → Q (.ref p) H'
section
variable {P : Program} {w : World} {K : PySem.W.Frag} {mg : Str → Option Value} {base : Heap}
theorem ok_ratio (T : Tp K mg) : FnOk P w K mg base (CXX P w) 2 T.f_ratio T.d_ratio ["top", "bottom"] (sp_ratio T) := by
  have G_divisor : FnOk P w K mg base (CXX P w) 1 T.f_divisor T.d_divisor ["one", "other"] (sp_divisor T) := (ok_divisor T).mono (by decide)
  refine T.F_ratio.okX sc_ratio (fun vs H Q E h => ?_) (fun cdv A outer s H vs Q E hr h => ?_)
  · obtain ⟨a, b, rfl, _⟩ := h
    rfl
  · have hu := hr.units
    obtain ⟨a, b, rfl, b0, b1, q⟩ := h
    have gp : 0 < Nat.gcd a b := Nat.gcd_pos_of_pos_right _ b0
    have gl : Nat.gcd a b < 2 ^ 8000 := Nat.lt_of_le_of_lt (Nat.le_of_dvd b0 (Nat.gcd_dvd_right a b)) b1
    have dg := divN (a := a) gp gl
    refine ⟨_, (pss_cons (ps_set (i := 2) sc_ratio.nd rfl (Or.inl rfl) (pe_call G_divisor hr rfl T.m_divisor T.F_divisor.kp T.b_divisor .nil pass_on (pa_cons (pv 0) (pa_cons (pv 1) pa_nil))))
          (pss_one (ps_ret (pe_tup (pa_cons (pe_op op_fdivG (pv 0) (pv 2)) (pa_cons (pe_op op_fdivG (pv 1) (pv 2)) pa_nil)))))), ?_⟩
    try dsimp only [L2.cxX, L2.cxOf, L2.cxComp]
    walk_at "rds"
    refine ⟨by show 2 ≤ sizeLine; decide, fun p hp => ?_⟩
    exact q p _ hp (same_new hp) upd_same
end
def sp_times {K : PySem.W.Frag} {mg : Str → Option Value} (T : Tp K mg) : Sp := fun vs H Q _ => ∃ (p q : Addr) (x y u v n m : Nat), vs = [.ref p, .ref q] ∧ H p = some (.tup [.int x, .int y]) ∧ H q = some (.tup [.int u, .int v]) ∧ 0 < y ∧ 0 < v ∧ x < 2 ^ n ∧ y < 2 ^ n ∧ u < 2 ^ m ∧ v < 2 ^ m ∧ n + m ≤ 8000 ∧
  ∀ (r : Addr) (H' : Hp), H r = none → Same H H' → H' r = some (.tup [.int (x * u / Nat.gcd (x * u) (y * v) : Nat), .int (y * v / Nat.gcd (x * u) (y * v) : Nat)]) → Q (.ref r) H'
section
variable {P : Program} {w : World} {K : PySem.W.Frag} {mg : Str → Option Value} {base : Heap}
theorem ok_times (T : Tp K mg) : FnOk P w K mg base (CXX P w) 3 T.f_times T.d_times ["one", "other"] (sp_times T) := by
  have G_ratio : FnOk P w K mg base (CXX P w) 2 T.f_ratio T.d_ratio ["top", "bottom"] (sp_ratio T) := (ok_ratio T).mono (by decide)
  refine T.F_times.okX sc_times (fun vs H Q E h => ?_) (fun cdv A outer s H vs Q E hr h => ?_)
  · obtain ⟨p, q, x, y, u, v, n, m, rfl, _⟩ := h
    rfl
  · have hu := hr.units
    obtain ⟨p, q, x, y, u, v, n, m, rfl, h1, h2, y0, v0, xs, ys, us, vs', nm, k⟩ := h
    have m1 := mulN xs us (by omega)
    have m2 := mulN ys vs' (by omega)
    refine ⟨_, (pss_one (ps_ret (pe_call G_ratio hr rfl T.m_ratio T.F_ratio.kp T.b_ratio .nil pass_on (pa_cons (pe_op op_mulU (pe_ix (ix_K (K := K) rfl) (pv 0) pe_int (fun _ _ => rfl)) (pe_ix (ix_K (K := K) rfl) (pv 1) pe_int (fun _ _ => rfl))) (pa_cons (pe_op op_mulU (pe_ix (ix_K (K := K) rfl) (pv 0) pe_int (fun _ _ => rfl)) (pe_ix (ix_K (K := K) rfl) (pv 1) pe_int (fun _ _ => rfl))) pa_nil))))), ?_⟩
    try dsimp only [L2.cxX, L2.cxOf, L2.cxComp]
    walk_at "rds"
    exact ⟨x * u, y * v, rfl, Nat.mul_pos y0 v0, Nat.lt_of_lt_of_le (mul_lt_pow ys vs') (Nat.pow_le_pow_right (by decide) nm), k⟩
end
structure Sized (b : B5) (gv tk : Nat) : Prop where
  g : b.give = (gv : Int)
  t : b.take = (tk : Int)
  g0 : 0 < gv
  t0 : 0 < tk
  gl : gv < 2 ^ 110
  tl : tk < 2 ^ 110
def sp_gain {K : PySem.W.Frag} {mg : Str → Option Value} (T : Tp K mg) : Sp := fun vs H Q _ => ∃ (t : Addr) (b : B5) (al : Bool) (gv tk : Nat), vs = [.ref t, .bl al] ∧ H t = some (.tup b.v) ∧ Sized b gv tk ∧
  ∀ (p : Addr) (H' : Hp) (x y : Nat), H p = none → Same H H' → H' p = some (.tup [.int x, .int y]) → (if al = true then x = gv / Nat.gcd gv tk ∧ y = tk / Nat.gcd gv tk else x = tk / Nat.gcd tk gv ∧ y = gv / Nat.gcd tk gv) → Q (.ref p) H'
section
variable {P : Program} {w : World} {K : PySem.W.Frag} {mg : Str → Option Value} {base : Heap}
theorem ok_gain (T : Tp K mg) : FnOk P w K mg base (CXX P w) 3 T.f_gain T.d_gain ["row", "along"] (sp_gain T) := by
  have G_ratio : FnOk P w K mg base (CXX P w) 2 T.f_ratio T.d_ratio ["top", "bottom"] (sp_ratio T) := (ok_ratio T).mono (by decide)
  refine T.F_gain.okX sc_gain (fun vs H Q E h => ?_) (fun cdv A outer s H vs Q E hr h => ?_)
  · obtain ⟨t, b, al, gv, tk, rfl, _⟩ := h
    rfl
  · have hu := hr.units
    obtain ⟨t, b, al, gv, tk, rfl, ht, sz, q⟩ := h
    obtain ⟨g, tt, g0, t0, gl, tl⟩ := sz
    dsimp only [B5.v] at ht
    rw [g, tt] at ht
    have big : (2 : Nat) ^ 110 ≤ 2 ^ 8000 := Nat.pow_le_pow_right (by decide) (by decide)
    refine ⟨_, (pss_one (ps_ret (pe_ifExp (pt_truK (K := K) rfl (pv 1) (fun _ => rfl)) (pe_call G_ratio hr rfl T.m_ratio T.F_ratio.kp T.b_ratio .nil pass_on (pa_cons (pe_ix (ix_K (K := K) rfl) (pv 0) pe_int (fun _ _ => rfl)) (pa_cons (pe_ix (ix_K (K := K) rfl) (pv 0) pe_int (fun _ _ => rfl)) pa_nil))) (pe_call G_ratio hr rfl T.m_ratio T.F_ratio.kp T.b_ratio .nil pass_on (pa_cons (pe_ix (ix_K (K := K) rfl) (pv 0) pe_int (fun _ _ => rfl)) (pa_cons (pe_ix (ix_K (K := K) rfl) (pv 0) pe_int (fun _ _ => rfl)) pa_nil)))))), ?_⟩
    try dsimp only [L2.cxX, L2.cxOf, L2.cxComp]
    walk_at "rds"
    unfold tIf
    walk_at "rds"
    cases al with
    | true =>
      walk_at "rds"
      exact ⟨gv, tk, rfl, t0, Nat.lt_of_lt_of_le tl big, fun p H' hp s h => q p H' _ _ hp s h ⟨rfl, rfl⟩⟩
    | false =>
      walk_at "rds"
      exact ⟨tk, gv, rfl, g0, Nat.lt_of_lt_of_le gl big, fun p H' hp s h => q p H' _ _ hp s h ⟨rfl, rfl⟩⟩
end
def sp_is_whole {K : PySem.W.Frag} {mg : Str → Option Value} (T : Tp K mg) : Sp := fun vs H Q _ => ∃ i : Int, vs = [.int i] ∧ Q (.bl true) H
theorem rd_is_whole {K : PySem.W.Frag} {mg : Str → Option Value} {T : Tp K mg} {H : Hp} {Q : VK} {E : XK} {i : Int} (q : Q (.bl true) H) : sp_is_whole T ([.int i] ++ []) H Q E := ⟨i, rfl, q⟩
local macro_rules | `(tactic| walk_at "rd") => `(tactic| first | with_reducible refine Nm.rd_is_whole ?_ | fail "none here")
section
variable {P : Program} {w : World} {K : PySem.W.Frag} {mg : Str → Option Value} {base : Heap}
theorem ok_is_whole (T : Tp K mg) : FnOk P w K mg base (CXX P w) 1 T.f_is_whole T.d_is_whole ["thing"] (sp_is_whole T) := by
  refine T.F_is_whole.okX sc_is_whole (fun vs H Q E h => ?_) (fun cdv A outer s H vs Q E hr h => ?_)
  · obtain ⟨i, rfl, _⟩ := h
    rfl
  · have hu := hr.units
    obtain ⟨i, rfl, q⟩ := h
    refine ⟨_, (pss_one (ps_ret (pe_and (pe_callB (isi_K (K := K) rfl) (by rfl) T.n_isinstance PyProof.Rows.boot_isinstance (pa_cons (pv 0) (pa_cons (pe_bltn (v := .ty "int") (by rfl) T.n_int PyProof.Rows.boot_int rfl) pa_nil))) (pe_one (pe_not (pe_callB (isi_K (K := K) rfl) (by rfl) T.n_isinstance PyProof.Rows.boot_isinstance (pa_cons (pv 0) (pa_cons (pe_bltn (v := .ty "bool") (by rfl) T.n_bool PyProof.Rows.boot_bool rfl) pa_nil)))))))), ?_⟩
    try dsimp only [L2.cxX, L2.cxOf, L2.cxComp]
    walk_at "rds"
    exact q
end
def sp_is_from {K : PySem.W.Frag} {mg : Str → Option Value} (T : Tp K mg) : Sp := fun vs H Q _ => ∃ i l : Int, vs = [.int i, .int l] ∧ Q (.bl (decide (l ≤ i))) H
theorem rd_is_from {K : PySem.W.Frag} {mg : Str → Option Value} {T : Tp K mg} {H : Hp} {Q : VK} {E : XK} {i l : Int} (q : Q (.bl (decide (l ≤ i))) H) : sp_is_from T ([.int i, .int l] ++ []) H Q E := ⟨i, l, rfl, q⟩
local macro_rules | `(tactic| walk_at "rd") => `(tactic| first | with_reducible refine Nm.rd_is_from ?_ | fail "none here")
section
variable {P : Program} {w : World} {K : PySem.W.Frag} {mg : Str → Option Value} {base : Heap}
theorem ok_is_from (T : Tp K mg) : FnOk P w K mg base (CXX P w) 2 T.f_is_from T.d_is_from ["thing", "least"] (sp_is_from T) := by
  have G_is_whole : FnOk P w K mg base (CXX P w) 1 T.f_is_whole T.d_is_whole ["thing"] (sp_is_whole T) := (ok_is_whole T).mono (by decide)
  refine T.F_is_from.okX sc_is_from (fun vs H Q E h => ?_) (fun cdv A outer s H vs Q E hr h => ?_)
  · obtain ⟨i, l, rfl, _⟩ := h
    rfl
  · have hu := hr.units
    obtain ⟨i, l, rfl, q⟩ := h
    refine ⟨_, (pss_one (ps_ret (pe_and (pe_call G_is_whole hr rfl T.m_is_whole T.F_is_whole.kp T.b_is_whole .nil pass_on (pa_cons (pv 0) pa_nil)) (pe_one (pe_cmpR op_ge (pv 0) (pv 1) (nomark _)))))), ?_⟩
    try dsimp only [L2.cxX, L2.cxOf, L2.cxComp]
    walk_at "rds"
    exact q
end
def sp_is_number_below {K : PySem.W.Frag} {mg : Str → Option Value} (T : Tp K mg) : Sp := fun vs H Q _ => ∃ i b : Int, vs = [.int i, .int b] ∧ Q (.bl (decide (0 ≤ i ∧ i < b))) H
theorem rd_is_number_below {K : PySem.W.Frag} {mg : Str → Option Value} {T : Tp K mg} {H : Hp} {Q : VK} {E : XK} {i b : Int} (q : Q (.bl (decide (0 ≤ i ∧ i < b))) H) : sp_is_number_below T ([.int i, .int b] ++ []) H Q E := ⟨i, b, rfl, q⟩
local macro_rules | `(tactic| walk_at "rd") => `(tactic| first | with_reducible refine Nm.rd_is_number_below ?_ | fail "none here")
section
variable {P : Program} {w : World} {K : PySem.W.Frag} {mg : Str → Option Value} {base : Heap}
theorem ok_is_number_below (T : Tp K mg) : FnOk P w K mg base (CXX P w) 3 T.f_is_number_below T.d_is_number_below ["thing", "bound"] (sp_is_number_below T) := by
  have G_is_from : FnOk P w K mg base (CXX P w) 2 T.f_is_from T.d_is_from ["thing", "least"] (sp_is_from T) := (ok_is_from T).mono (by decide)
  refine T.F_is_number_below.okX sc_is_number_below (fun vs H Q E h => ?_) (fun cdv A outer s H vs Q E hr h => ?_)
  · obtain ⟨i, b, rfl, _⟩ := h
    rfl
  · have hu := hr.units
    obtain ⟨i, b, rfl, q⟩ := h
    refine ⟨_, (pss_one (ps_ret (pe_and (pe_call G_is_from hr rfl T.m_is_from T.F_is_from.kp T.b_is_from .nil pass_on (pa_cons (pv 0) (pa_cons pe_int pa_nil))) (pe_one (pe_cmpR op_lt (pv 0) (pv 1) (nomark _)))))), ?_⟩
    try dsimp only [L2.cxX, L2.cxOf, L2.cxComp]
    walk_at "rds"
    refine ite2 (fun c => ?_) (fun c => ?_)
    · have c' : 0 ≤ i := of_decide_eq_true c
      walk_at "rds"
      have e : decide (i < b) = decide (0 ≤ i ∧ i < b) := by rw [decide_eq_decide]; exact ⟨fun z => ⟨c', z⟩, fun z => z.2⟩
      rw [e]
      exact q
    · have c' : ¬ 0 ≤ i := fun z => c (decide_eq_true z)
      walk_at "rds"
      have e : false = decide (0 ≤ i ∧ i < b) := (decide_eq_false (fun z => c' z.1)).symm
      rw [e]
      exact q
end
def sp_Hall_need_belt {K : PySem.W.Frag} {mg : Str → Option Value} (T : Tp K mg) : Sp := fun vs H Q E => ∃ (p : Addr) (i : Int) (hl : HM) (fp : List Addr), vs = [.ref p, .int i] ∧ HallAt T H p hl fp ∧
  (¬ (0 ≤ i ∧ i < hl.belts.length) → E (.ref T.X_NoBelt) none H) ∧ (0 ≤ i → i < hl.belts.length → Q .non H)
section
variable {P : Program} {w : World} {K : PySem.W.Frag} {mg : Str → Option Value} {base : Heap}
theorem ok_Hall_need_belt (T : Tp K mg) : FnOk P w K mg base (CXX P w) 4 T.f_Hall_need_belt T.d_Hall_need_belt ["self", "belt"] (sp_Hall_need_belt T) := by
  have G_is_number_below : FnOk P w K mg base (CXX P w) 3 T.f_is_number_below T.d_is_number_below ["thing", "bound"] (sp_is_number_below T) := (ok_is_number_below T).mono (by decide)
  have cl_Hall := T.cl_Hall
  have na_Hall := T.na_Hall
  refine T.F_Hall_need_belt.okX sc_Hall_need_belt (fun vs H Q E h => ?_) (fun cdv A outer s H vs Q E hr h => ?_)
  · obtain ⟨p, i, hl, fp, rfl, _⟩ := h
    rfl
  · have hu := hr.units
    obtain ⟨p, i, hl, fp, rfl, hh, e1, q⟩ := h
    obtain ⟨dx, a, b, bs, rfl, h1, h2, h3, h4, nab, h6⟩ := id hh
    refine ⟨_, (pss_one (ps_if (pt_not (pt_truK (K := K) rfl (pe_call G_is_number_below hr rfl T.m_is_number_below T.F_is_number_below.kp T.b_is_number_below .nil pass_on (pa_cons (pv 1) (pa_cons (pe_callB (len_K (K := K) rfl) (by rfl) T.n_len PySem.boot_len (pa_cons (pe_fldK (K := K) rfl (pv 0) rfl) pa_nil)) pa_nil))) (fun _ => rfl))) (pss_one (ps_raiseK T.gx_NoBelt T.ex_NoBelt PySem.F.excBase_ValueError rfl (pa_cons pe_str pa_nil))) pss_nil)), ?_⟩
    try dsimp only [L2.cxX, L2.cxOf, L2.cxComp]
    walk_at "rds"
    rw [h6.length]
    by_cases c : 0 ≤ i ∧ i < hl.belts.length
    · rw [decide_eq_true c]
      walk_at "rds"
      exact q c.1 c.2
    · rw [decide_eq_false c]
      walk_at "rds"
      exact e1 c
end
def sp_Hall_belt_at {K : PySem.W.Frag} {mg : Str → Option Value} (T : Tp K mg) : Sp := fun vs H Q E => ∃ (p : Addr) (i : Int) (hl : HM) (fp : List Addr), vs = [.ref p, .int i] ∧ HallAt T H p hl fp ∧
  (¬ (0 ≤ i ∧ i < hl.belts.length) → E (.ref T.X_NoBelt) none H) ∧ (0 ≤ i → i < hl.belts.length → ∀ (t : Addr) (b : B5), hl.belts[i.toNat]? = some b → H t = some (.tup b.v) → Q (.ref t) H)
section
variable {P : Program} {w : World} {K : PySem.W.Frag} {mg : Str → Option Value} {base : Heap}
theorem ok_Hall_belt_at (T : Tp K mg) : FnOk P w K mg base (CXX P w) 5 T.f_Hall_belt_at T.d_Hall_belt_at ["self", "belt"] (sp_Hall_belt_at T) := by
  have G_Hall_need_belt : FnOk P w K mg base (CXX P w) 4 T.f_Hall_need_belt T.d_Hall_need_belt ["self", "belt"] (sp_Hall_need_belt T) := (ok_Hall_need_belt T).mono (by decide)
  have cl_Hall := T.cl_Hall
  have na_Hall := T.na_Hall
  refine T.F_Hall_belt_at.okX sc_Hall_belt_at (fun vs H Q E h => ?_) (fun cdv A outer s H vs Q E hr h => ?_)
  · obtain ⟨p, i, hl, fp, rfl, _⟩ := h
    rfl
  · have hu := hr.units
    obtain ⟨p, i, hl, fp, rfl, hh, e1, q⟩ := h
    obtain ⟨dx, a, b, bs, rfl, h1, h2, h3, h4, nab, h6⟩ := id hh
    refine ⟨_, (pss_cons (ps_expr (pe_meth (pv 0) T.cl_Hall T.M_Hall_need_belt G_Hall_need_belt hr T.b_Hall_need_belt .nil pass_on (pa_cons (pv 1) pa_nil)))
          (pss_one (ps_ret (pe_ix (ix_K (K := K) rfl) (pe_fldK (K := K) rfl (pv 0) rfl) (pv 1) (fun _ _ => rfl))))), ?_⟩
    try dsimp only [L2.cxX, L2.cxOf, L2.cxComp]
    walk_at "rds"
    refine ⟨p, i, hl, _, rfl, hh, e1, fun i0 i1 => ?_⟩
    have hi : i.toNat < hl.belts.length := by omega
    have ei := List.getElem?_eq_getElem hi
    obtain ⟨t, ht1, ht2⟩ := h6.at ei
    have at1 : atI bs i = some (.ref t) := by
      have := atI_nat ht1
      rwa [Int.toNat_of_nonneg i0] at this
    walk_at "rds"
    exact q i0 i1 t _ ei ht2
end
def sp_shares_of {K : PySem.W.Frag} {mg : Str → Option Value} (T : Tp K mg) : Sp := fun vs H Q _ => ∃ (p d : Addr) (hl : HM) (fp : List Addr) (kvs : List (Key × V)) (tr : Fo.Tree) (first : Int), vs = [.ref p, .ref d] ∧ HallAt T H p hl fp ∧ d ∉ fp ∧ L2.Rd H d (.dK kvs) ∧ Ent H kvs tr ∧ Fo.Grown (waysL hl.belts) first tr ∧ tr.length ≤ 60 ∧ SizedL hl.belts ∧
  ∀ (e : Addr) (o : Obj) (H' : Hp) (kv2 : List (Key × V)) (zs : List (Int × (Nat × Nat))), H e = none → Same (upd H d (.frz o (.dK kvs))) H' → H' e = some (.dK kv2) → ShE H' kv2 zs → GoodSh hl.belts tr zs tr.length → Q (.ref e) H'
section
variable {P : Program} {w : World} {K : PySem.W.Frag} {mg : Str → Option Value} {base : Heap}
theorem ok_shares_of (T : Tp K mg) : FnOk P w K mg base (CXX P w) 6 T.f_shares_of T.d_shares_of ["hall", "tree"] (sp_shares_of T) := by
  have G_times : FnOk P w K mg base (CXX P w) 5 T.f_times T.d_times ["one", "other"] (sp_times T) := (ok_times T).mono (by decide)
  have G_gain : FnOk P w K mg base (CXX P w) 5 T.f_gain T.d_gain ["row", "along"] (sp_gain T) := (ok_gain T).mono (by decide)
  have G_Hall_belt_at : FnOk P w K mg base (CXX P w) 5 T.f_Hall_belt_at T.d_Hall_belt_at ["self", "belt"] (sp_Hall_belt_at T) := (ok_Hall_belt_at T).mono (by decide)
  have cl_Hall := T.cl_Hall
  have na_Hall := T.na_Hall
  refine T.F_shares_of.okX sc_shares_of (fun vs H Q E h => ?_) (fun cdv A outer s H vs Q E hr h => ?_)
  · obtain ⟨p, d, hl, fp, kvs, tr, first, rfl, _⟩ := h
    rfl
  · have hu := hr.units
    obtain ⟨p, d, hl, fp, kvs, tr, first, rfl, hh, ndf, hd, hen, hg, htl, hsz, q⟩ := h
    have hkl := hen.length
    refine ⟨_, (pss_cons (ps_set (i := 2) sc_shares_of.nd rfl (Or.inl rfl) pe_dnewK)
          (pss_cons (ps_for PassesOwn.leaving rfl (pi_pairs (pv 1)) (pg_tupK (K := K) (n := 2) rfl rfl (pgs_cons (pg_name (i := 3) sc_shares_of.nd rfl (Or.inl rfl)) (pgs_cons (pg_name (i := 4) sc_shares_of.nd rfl (Or.inl rfl)) pgs_nil))) (pss_one (ps_if (pt_cmpR op_isN (pv 4) pe_non (nomark _)) (pss_one (ps_asg (pe_tup (pa_cons pe_int (pa_cons pe_int pa_nil))) (pg_sub (pv 2) (pv 3) (set_dict hu)))) (pss_one (ps_asg (pe_call G_times hr rfl T.m_times T.F_times.kp T.b_times .nil pass_on (pa_cons (pe_ix (ix_dict hu) (pv 2) (pe_ix (ix_K (K := K) rfl) (pv 4) pe_int (fun _ _ => rfl)) (fun _ _ => rfl)) (pa_cons (pe_call G_gain hr rfl T.m_gain T.F_gain.kp T.b_gain .nil pass_on (pa_cons (pe_meth (pv 0) T.cl_Hall T.M_Hall_belt_at G_Hall_belt_at hr T.b_Hall_belt_at .nil pass_on (pa_cons (pe_ix (ix_K (K := K) rfl) (pv 4) pe_int (fun _ _ => rfl)) pa_nil)) (pa_cons (pe_ix (ix_K (K := K) rfl) (pv 4) pe_int (fun _ _ => rfl)) pa_nil))) pa_nil))) (pg_sub (pv 2) (pv 3) (set_dict hu)))))))
          (pss_one (ps_ret (pv 2))))), ?_⟩
    try dsimp only [L2.cxX, L2.cxOf, L2.cxComp]
    walk_at "rds"
    intro e he
    have nde : d ≠ e := fun z => rd_some hd (by rw [z]; exact he)
    have s1 : Same H (upd H e (.dK [])) := same_new he
    have he1 : (upd H e (.dK [])) e = some (.dK []) := upd_same
    have hd1 : L2.Rd (upd H e (.dK [])) d (.dK kvs) := by
      rcases hd with h | ⟨o, h⟩
      · exact .inl (s1 _ _ h)
      · exact .inr ⟨o, s1 _ _ h⟩
    generalize upd H e (.dK []) = H1 at *
    walk_at "rds"
    refine Rd.ipairs ?_
    walk_at "rds"
    refine ⟨d, kvs, rfl, hd1, fun o => ?_⟩
    have fr1 := rd_frame (o := o) hd
    have hh3 : HallAt T (upd H d (.frz o (.dK kvs))) p hl fp := hh.off fr1 (fun x hx z => ndf (by rw [← List.mem_singleton.mp z]; exact hx))
    have hen3 : Ent (upd H d (.frz o (.dK kvs))) kvs tr := hen.keep fr1.tups
    have he3 : (upd H d (.frz o (.dK kvs))) e = none := by rw [upd_ne nde.symm]; exact he
    have s3 : Same (upd H d (.frz o (.dK kvs))) (upd H1 d (.frz o (.dK kvs))) := fun b x eb => by
      by_cases z : b = d
      · rw [z, upd_same] at eb ⊢; exact eb
      · rw [upd_ne z] at eb ⊢; exact s1 _ _ eb
    have hd3 : (upd H d (.frz o (.dK kvs))) d = some (.frz o (.dK kvs)) := upd_same
    have he4 : (upd H1 d (.frz o (.dK kvs))) e = some (.dK []) := by rw [upd_ne nde.symm]; exact he1
    have qq := fun H' kv2 zs => q e o H' kv2 zs he
    generalize upd H1 d (.frz o (.dK kvs)) = H4 at *
    generalize upd H d (.frz o (.dK kvs)) = H3 at *
    clear q hd1 he1 s1 fr1
    refine for_walkY (walks_pairs hd3) (fun i σ H' => ∃ (kv2 : List (Key × V)) (zs : List (Int × (Nat × Nat))) (a1 a2 : Option V), σ = [some (.ref p), some (.ref d), some (.ref e), a1, a2] ∧ Same H3 H' ∧ H' e = some (.dK kv2) ∧ ShE H' kv2 zs ∧ GoodSh hl.belts tr zs i ∧ kv2.length ≤ i)
      ⟨[], [], _, _, rfl, s3, he4, .nil, good_nil, Nat.le_refl _⟩ (fun i σ H' ⟨_, _, _, _, _, s, _⟩ => s) ?_ ?_
    · rintro i σ H5 v H6 hi ⟨kv2, zs, a1, a2, rfl, s5, he5, hsh, hgs, hk2⟩ ⟨t, kv, hkv, ht, rfl, rfl⟩
      obtain ⟨w, st, htr, ek, hst⟩ := ent_at hen3 hkv
      have hil : i < tr.length := (List.getElem?_eq_some_iff.mp htr).1
      have hzl := hgs.len (Nat.le_of_lt hil)
      have hknd : w ∉ zs.map (·.1) := by
        rw [hgs.keys]
        intro hm
        obtain ⟨j, hj, e2⟩ := List.getElem_of_mem hm
        rw [List.getElem_take] at e2
        have hjl : j < i := by rw [List.length_take] at hj; omega
        have hjk : j < (Fo.keys tr).length := by rw [List.length_take] at hj; omega
        have hik : i < (Fo.keys tr).length := by simp [Fo.keys]; exact hil
        have ei : (Fo.keys tr)[i] = w := by
          have : (Fo.keys tr)[i]? = some w := by unfold Fo.keys; rw [List.getElem?_map, htr]; rfl
          rw [List.getElem?_eq_getElem hik] at this
          exact Option.some.inj this
        have := nd_inj hg.nodup hjk hik (e2.trans ei.symm)
        omega
      obtain ⟨k, val⟩ := kv
      dsimp only at ek hst
      subst ek
      refine Rd.gtup (.of upd_same) rfl ?_
      have su : Same H5 (upd H5 t (.tup [kV (Sum.inl w), val])) := same_new ht
      have s6 := s5.trans su
      have he6 := su _ _ he5
      have hsh6 : ShE (upd H5 t (.tup [kV (Sum.inl w), val])) kv2 zs := hsh.keep fun _ _ e => su _ _ e
      generalize upd H5 t (.tup [kV (Sum.inl w), val]) = H6 at *
      have ekw : kV (Sum.inl w) = .int w := rfl
      rw [ekw]
      have hkz : kv2.length < sizeLine := small1000 (by omega)
      have hno := hsh6.none hknd
      walk_at "rds"
      refine ⟨rfl, ?_⟩
      cases st with
      | none =>
        have ev : val = .non := hst
        subst ev
        walk_at "rds"
        refine ⟨by show 2 ≤ sizeLine; decide, fun t2 ht2 => ?_⟩
        have s7 : Same H6 (upd H6 t2 (.tup [.int 1, .int 1])) := same_new ht2
        have h7 : (upd H6 t2 (.tup [.int 1, .int 1])) t2 = some (.tup [.int 1, .int 1]) := upd_same
        have he7 := s7 _ _ he6
        have hsh7 : ShE (upd H6 t2 (.tup [.int 1, .int 1])) kv2 zs := hsh6.keep fun _ _ e => s7 _ _ e
        generalize upd H6 t2 (.tup [.int 1, .int 1]) = H7 at *
        walk_at "rds"
        rw [putK_new _ hno]
        have tk8 : ∀ a xs, H7 a = some (.tup xs) → (upd H7 e (.dK (kv2 ++ [(Sum.inl w, .ref t2)]))) a = some (.tup xs) := fun a xs ea => by rw [upd_ne (ne_of ea he7 (by intro z; cases z))]; exact ea
        refine ⟨_, zs ++ [(w, (1, 1))], _, _, rfl, (s6.trans s7).new he3, upd_same, (hsh7.keep tk8).snoc (x := (1, 1)) (tk8 _ _ h7), hgs.more hil htr ⟨by decide, by decide, by decide⟩ ⟨?_, ?_⟩ (fun _ => rfl) (fun p b al z => by cases z), by simp; omega⟩
        · exact Nat.lt_of_lt_of_le (by decide : (1 : Nat) < 2 ^ 1) (Nat.pow_le_pow_right (by decide) (by omega))
        · exact Nat.lt_of_lt_of_le (by decide : (1 : Nat) < 2 ^ 1) (Nat.pow_le_pow_right (by decide) (by omega))
      | some x =>
        obtain ⟨pw, b, al⟩ := x
        obtain ⟨t2, ev, ht2⟩ := hst
        subst ev
        have ht6 := s6 _ _ ht2
        obtain ⟨hway, j, sj, hj, htj⟩ := hg.steps i w pw b al htr
        have hpm : pw ∈ zs.map (·.1) := by
          rw [hgs.keys]
          have hk : (Fo.keys tr)[j]? = some pw := by unfold Fo.keys; rw [List.getElem?_map, htj]; rfl
          have : ((Fo.keys tr).take i)[j]? = some pw := by rw [List.getElem?_take, if_pos hj]; exact hk
          exact List.mem_of_getElem? this
        obtain ⟨y, ty, hym, hval, hty⟩ := hsh6.get hpm
        obtain ⟨jy, hjy⟩ := List.getElem?_of_mem hym
        have hjl := (List.getElem?_eq_some_iff.mp hjy).1
        obtain ⟨y0, y1, yg⟩ := hgs.pos _ hym
        obtain ⟨ys1, ys2⟩ := hgs.size jy _ hjy
        obtain ⟨bi, hbi, hbm⟩ := mem_ways hway
        have eb : b = (bi : Int) := by
          rw [mem_wayAt] at hbm
          rcases hbm with ⟨_, z⟩ | ⟨_, z⟩ <;> (injection z with _ z2; injection z2)
        obtain ⟨gv, tk, g0, t0, gl, tl, eg, et⟩ := hsz bi hbi
        have hh6 := hh3.same s6
        have dec : decide (V.ref t2 = V.non) = false := decide_eq_false (by intro z; cases z)
        rw [dec]
        walk_at "rds"
        refine ⟨p, b, hl, fp, rfl, hh6, fun z => absurd ⟨by omega, by omega⟩ z, fun _ _ tb B hB htB => ?_⟩
        have eB : hl.belts.getD bi dB = B := by
          rw [eb, Int.toNat_natCast] at hB
          simp [List.getD, hB]
        rw [eB] at eg et
        walk_at "rds"
        refine ⟨tb, B, al, gv, tk, rfl, htB, ⟨eg, et, g0, t0, gl, tl⟩, fun t3 H7 u v ht3 s7 h7 huv => ?_⟩
        have hn : 110 * jy + 1 + 110 ≤ 110 * i + 1 := by omega
        have huv2 : ∃ G1 G2 M, G1 = Nat.gcd M G2 ∧ True := ⟨_, 0, 0, rfl, trivial⟩
        have key : ∃ gA tA : Nat, 0 < gA ∧ 0 < tA ∧ gA < 2 ^ 110 ∧ tA < 2 ^ 110 ∧ u = gA / Nat.gcd gA tA ∧ v = tA / Nat.gcd gA tA ∧ (∀ x : Nat × Nat, x.1 * y.2 * tA = y.1 * x.2 * gA → Bal B al x y) := by
          cases al with
          | true =>
            rw [if_pos rfl] at huv
            refine ⟨gv, tk, g0, t0, gl, tl, huv.1, huv.2, fun x hx => ?_⟩
            unfold Bal
            rw [if_pos rfl, eg, et, Int.toNat_natCast, Int.toNat_natCast]
            exact hx
          | false =>
            rw [if_neg (by decide)] at huv
            refine ⟨tk, gv, t0, g0, tl, gl, huv.1, huv.2, fun x hx => ?_⟩
            unfold Bal
            rw [if_neg (by decide), eg, et, Int.toNat_natCast, Int.toNat_natCast]
            exact hx
        clear huv huv2
        obtain ⟨gA, tA, gA0, tA0, gAl, tAl, eu, ev, hbal⟩ := key
        have ul : u < 2 ^ 110 := by rw [eu]; exact Nat.lt_of_le_of_lt (Nat.div_le_self _ _) gAl
        have vl : v < 2 ^ 110 := by rw [ev]; exact Nat.lt_of_le_of_lt (Nat.div_le_self _ _) tAl
        have v0 : 0 < v := by
          rw [ev]
          exact Nat.div_pos (Nat.le_of_dvd tA0 (Nat.gcd_dvd_right _ _)) (Nat.gcd_pos_of_pos_left _ gA0)
        walk_at "rds"
        refine ⟨ty, t3, y.1, y.2, u, v, 110 * jy + 1, 110, rfl, s7 _ _ hty, h7, y1, v0, ys1, ys2, ul, vl, by omega, fun t4 H8 ht4 s8 h8 => ?_⟩
        obtain ⟨hp, hb1, hle1, hle2⟩ := share_step (y := y) (u := (u, v)) (x := (y.1 * u / Nat.gcd (y.1 * u) (y.2 * v), y.2 * v / Nat.gcd (y.1 * u) (y.2 * v))) (n := 0) y0 y1 gA0 tA0 eu ev rfl rfl rfl
        have s68 := s7.trans s8
        have he8 := s68 _ _ he6
        have hsh8 : ShE H8 kv2 zs := hsh6.keep fun _ _ e => s68 _ _ e
        walk_at "rds"
        rw [putK_new _ hno]
        have tk8 : ∀ a xs, H8 a = some (.tup xs) → (upd H8 e (.dK (kv2 ++ [(Sum.inl w, .ref t4)]))) a = some (.tup xs) := fun a xs ea => by rw [upd_ne (ne_of ea he8 (by intro z; cases z))]; exact ea
        have sz1 : y.1 * gA < 2 ^ (110 * i + 1) := Nat.lt_of_lt_of_le (mul_lt_pow ys1 gAl) (Nat.pow_le_pow_right (by decide) hn)
        have sz2 : y.2 * tA < 2 ^ (110 * i + 1) := Nat.lt_of_lt_of_le (mul_lt_pow ys2 tAl) (Nat.pow_le_pow_right (by decide) hn)
        refine ⟨_, zs ++ [(w, (y.1 * u / Nat.gcd (y.1 * u) (y.2 * v), y.2 * v / Nat.gcd (y.1 * u) (y.2 * v)))], _, _, rfl, (s6.trans s68).new he3, upd_same, (hsh8.keep tk8).snoc (tk8 _ _ h8), hgs.more hil htr hp ⟨Nat.lt_of_le_of_lt hle1 sz1, Nat.lt_of_le_of_lt hle2 sz2⟩ (fun z => by cases z) (fun p' b' al' z => ?_), by simp; omega⟩
        cases z
        refine ⟨jy, y, hjy, ?_⟩
        rw [eb, Int.toNat_natCast, eB]
        exact hbal _ hb1
    · rintro σ H5 ⟨kv2, zs, a1, a2, rfl, s5, he5, hsh, hgs, hk2⟩
      rw [hkl] at hgs
      walk_at "rds"
      exact qq H5 kv2 zs s5 he5 hsh hgs
end
def sp_multiple {K : PySem.W.Frag} {mg : Str → Option Value} (T : Tp K mg) : Sp := fun vs H Q _ => ∃ a b n : Nat, vs = [.int a, .int b] ∧ 0 < b ∧ b < 2 ^ 8000 ∧ a < 2 ^ n ∧ n ≤ 1000000 ∧ Q (.int (a / Nat.gcd a b * b : Nat)) H
section
variable {P : Program} {w : World} {K : PySem.W.Frag} {mg : Str → Option Value} {base : Heap}
theorem ok_multiple (T : Tp K mg) : FnOk P w K mg base (CXX P w) 2 T.f_multiple T.d_multiple ["one", "other"] (sp_multiple T) := by
  have G_divisor : FnOk P w K mg base (CXX P w) 1 T.f_divisor T.d_divisor ["one", "other"] (sp_divisor T) := (ok_divisor T).mono (by decide)
  refine T.F_multiple.okX sc_multiple (fun vs H Q E h => ?_) (fun cdv A outer s H vs Q E hr h => ?_)
  · obtain ⟨a, b, n, rfl, _⟩ := h
    rfl
  · have hu := hr.units
    obtain ⟨a, b, n, rfl, b0, b1, hn, hn2, q⟩ := h
    have gp : 0 < Nat.gcd a b := Nat.gcd_pos_of_pos_right _ b0
    have gl : Nat.gcd a b < 2 ^ 8000 := Nat.lt_of_le_of_lt (Nat.le_of_dvd b0 (Nat.gcd_dvd_right a b)) b1
    have dg := divN (a := a) gp gl
    have da : a / Nat.gcd a b < 2 ^ n := Nat.lt_of_le_of_lt (Nat.div_le_self _ _) hn
    have mo : IntMulOk ((a : Int) / (Nat.gcd a b : Nat)) (b : Int) := mulN (a := a / Nat.gcd a b) da b1 (by omega)
    refine ⟨_, (pss_one (ps_ret (pe_op op_mulU (pe_op op_fdivG (pv 0) (pe_call G_divisor hr rfl T.m_divisor T.F_divisor.kp T.b_divisor .nil pass_on (pa_cons (pv 0) (pa_cons (pv 1) pa_nil)))) (pv 1)))), ?_⟩
    try dsimp only [L2.cxX, L2.cxOf, L2.cxComp]
    walk_at "rds"
    exact q
end
def sp_rates_by {K : PySem.W.Frag} {mg : Str → Option Value} (T : Tp K mg) : Sp := fun vs H Q _ => ∃ (p f : Addr) (hl : HM) (fp ds : List Addr) (F : List (Int × Fo.Tree)), vs = [.ref p, .ref f] ∧ HallAt T H p hl fp ∧ H f = some (.lst (ds.map V.ref)) ∧ TreesR H ds F ∧ (∀ d ∈ ds, d ∉ fp) ∧ (∀ d ∈ ds, d ≠ f) ∧ Fo.Wood (waysL hl.belts) hl.names.length F hl.names.length ∧ Between hl.belts hl.names.length ∧ hl.names.length ≤ 60 ∧ SizedL hl.belts ∧
  ∀ (r : Addr) (H' : Hp) (rs : List Int), H r = none → Frame ds H H' → TreesR H' ds F → H' r = some (.lst (rs.map V.int)) → rs.length = hl.names.length → (∀ x ∈ F, SetIn hl.belts x rs) → Q (.ref r) H'
section
variable {P : Program} {w : World} {K : PySem.W.Frag} {mg : Str → Option Value} {base : Heap}
theorem ok_rates_by (T : Tp K mg) : FnOk P w K mg base (CXX P w) 7 T.f_rates_by T.d_rates_by ["hall", "forest"] (sp_rates_by T) := by
  have G_shares_of : FnOk P w K mg base (CXX P w) 6 T.f_shares_of T.d_shares_of ["hall", "tree"] (sp_shares_of T) := (ok_shares_of T).mono (by decide)
  have G_multiple : FnOk P w K mg base (CXX P w) 6 T.f_multiple T.d_multiple ["one", "other"] (sp_multiple T) := (ok_multiple T).mono (by decide)
  have G_Hall_names : FnOk P w K mg base (CXX P w) 6 T.f_Hall_names T.d_Hall_names ["self"] (sp_Hall_names T) := (ok_Hall_names T).mono (by decide)
  have cl_Hall := T.cl_Hall
  have na_Hall := T.na_Hall
  refine T.F_rates_by.okX sc_rates_by (fun vs H Q E h => ?_) (fun cdv A outer s H vs Q E hr h => ?_)
  · obtain ⟨p, f, hl, fp, ds, F, rfl, _⟩ := h
    rfl
  · have hu := hr.units
    obtain ⟨p, f, hl, fp, ds, F, rfl, hh, hf, hT, hdf, hdn, hwd, hbt, hn, hsz, q⟩ := h
    have hdl := hT.length
    refine ⟨_, (pss_cons (ps_comp (j := 2) rfl (cscope (x := "name") (zs := []) (ix := []) (defScope s_rates_by) ["hall", "forest", "rates", "tree", "shares", "common", "share", "work"] rfl rfl (by decide +kernel)) (pi_listK (K := K) rfl (pe_meth0 (pv 0) T.cl_Hall T.M_Hall_names G_Hall_names hr T.b_Hall_names .nil pass_on)) (fun cl C s H fp => ⟨(pg_name (i := 0) (show (["name"] : List Str).Nodup by decide +kernel) rfl (Or.inl rfl)), pif_nil, pe_int⟩) sc_rates_by.nd rfl (Or.inl rfl))
          (pss_cons (ps_for PassesOwn.leaving rfl (pi_listK (K := K) rfl (pv 1)) (pg_name (i := 3) sc_rates_by.nd rfl (Or.inl rfl)) (pss_cons (ps_set (i := 4) sc_rates_by.nd rfl (Or.inl rfl) (pe_call G_shares_of hr rfl T.m_shares_of T.F_shares_of.kp T.b_shares_of .nil pass_on (pa_cons (pv 0) (pa_cons (pv 3) pa_nil))))
          (pss_cons (ps_set (i := 5) sc_rates_by.nd rfl (Or.inl rfl) pe_int)
          (pss_cons (ps_for PassesOwn.leaving rfl (pi_vals (pv 4)) (pg_name (i := 6) sc_rates_by.nd rfl (Or.inl rfl)) (pss_one (ps_set (i := 5) sc_rates_by.nd rfl (Or.inl rfl) (pe_call G_multiple hr rfl T.m_multiple T.F_multiple.kp T.b_multiple .nil pass_on (pa_cons (pv 5) (pa_cons (pe_ix (ix_K (K := K) rfl) (pv 6) pe_int (fun _ _ => rfl)) pa_nil))))))
          (pss_one (ps_for PassesOwn.leaving rfl (pi_pairs (pv 4)) (pg_tupK (K := K) (n := 2) rfl rfl (pgs_cons (pg_name (i := 7) sc_rates_by.nd rfl (Or.inl rfl)) (pgs_cons (pg_name (i := 6) sc_rates_by.nd rfl (Or.inl rfl)) pgs_nil))) (pss_one (ps_asg (pe_op op_mulU (pe_op op_fdivG (pv 5) (pe_ix (ix_K (K := K) rfl) (pv 6) pe_int (fun _ _ => rfl))) (pe_ix (ix_K (K := K) rfl) (pv 6) pe_int (fun _ _ => rfl))) (pg_sub (pv 2) (pv 7) set_list)))))))))
          (pss_one (ps_ret (pv 2))))), ?_⟩
    try dsimp only [L2.cxX, L2.cxOf, L2.cxComp]
    walk_at "rds"
    refine ⟨p, hl, fp, rfl, hh, fun nm H1 hnm s1 hnm1 => ?_⟩
    walk_at "rds"
    refine comp_walk (walks_lst (SqL.of hnm1)) (small1000 (by rw [List.length_map]; omega)) (fun _ => true) (fun _ => .int 1) (fun i H' Kc hi sm k => ?_) (fun i H' Kc hi _ sm k => ?_) (fun r H2 hr s2 hr2 => ?_)
    · walk_at "rds"
      exact k H' (Same.refl H')
    · walk_at "rds"
      exact k H' (Same.refl H')
    have hr3 : H2 r = some (.lst ((List.replicate hl.names.length (1 : Int)).map V.int)) := by
      rw [hr2, List.filter_eq_self.mpr (by simp), List.length_map]
      refine congrArg (fun z => some (HO.lst z)) ?_
      refine List.ext_getElem (by simp) fun i h1 h2 => ?_
      simp
    clear hr2
    have s12 := s1.trans s2
    have hr0 : H r = none := same_none s1 hr
    have hf2 := s12 _ _ hf
    have hrd : ∀ d ∈ ds, r ≠ d := fun d hd z => by
      obtain ⟨i, hi, rfl⟩ := List.getElem_of_mem hd
      obtain ⟨x, _, kvs, a, _⟩ := Paired.get' hT (List.getElem?_eq_getElem hi)
      exact rd_some a (by rw [← z]; exact hr0)
    have nfr : f ≠ r := ne_of_none hf hr0
    walk_at "rds"
    refine for_walk (walks_lst (SqL.of (only_self (q := f) (o := .lst (ds.map V.ref))))) (fun i σ H' => ∃ (rs : List Int) (a1 a2 a3 a4 a5 : Option V), σ = [some (.ref p), some (.ref f), some (.ref r), a1, a2, a3, a4, a5] ∧ Frame ds H H' ∧ TreesR H' ds F ∧ H' f = some (.lst (ds.map V.ref)) ∧ H' r = some (.lst (rs.map V.int)) ∧ rs.length = hl.names.length ∧ ∀ (k : Nat) x, k < i → F[k]? = some x → SetIn hl.belts x rs)
      ⟨_, _, _, _, _, _, rfl, s12.frame, hT.same s12, hf2, hr3, by simp, fun k x hk => absurd hk (Nat.not_lt_zero _)⟩ ?_ ?_ ?_
    · rintro i σ H' ⟨_, _, _, _, _, _, _, _, _, h, _⟩
      exact only_same h
    · rintro i σ H3 hi ⟨rs, a1, a2, a3, a4, a5, rfl, fr3, hT3, hf3, hr3, hrl, hset⟩
      have hi' : i < ds.length := by simpa using hi
      have ei : (ds.map V.ref).getD i .non = .ref ds[i] := by simp [List.getD, hi']
      rw [ei]
      obtain ⟨x, hx, kvs, hd, hen⟩ := Paired.get' hT3 (List.getElem?_eq_getElem hi')
      have hdm := List.getElem_mem hi'
      generalize ds[i] = d at *
      obtain ⟨g, gg, g0, g1⟩ := hwd.tree x (List.mem_of_getElem? hx)
      have hkrg := g.rg ⟨g0, g1⟩ (ways_rg hbt)
      have htl : x.2.length ≤ 60 := by
        have := Fo.len_le (n := hl.names.length) g.nodup hkrg
        simp [Fo.keys] at this
        omega
      have hh3 := hh.off fr3 (fun y hy z => hdf y z hy)
      walk_at "rds"
      refine ⟨p, d, hl, fp, kvs, x.2, x.1, rfl, hh3, hdf d hdm, hd, hen, g, htl, hsz, fun e o H4 kv2 zs he s4 he4 hsh hgs => ?_⟩
      have fr4 : Frame ds H H4 := fr3.trans (((rd_frame (o := o) hd).mono (by intro y hy; rw [List.mem_singleton.mp hy]; exact hdm)).trans s4.frame)
      have hT4 := (hT3.frz (o := o) hd).same s4
      have hf4 : H4 f = some (.lst (ds.map V.ref)) := fr4.keep _ _ hf (fun z => hdn f z rfl)
      have nrd := hrd d hdm
      have hr4 : H4 r = some (.lst (rs.map V.int)) := s4 _ _ (by rw [upd_ne nrd]; exact hr3)
      have ned : ∀ d' ∈ ds, e ≠ d' := fun d' hd' z => by
        obtain ⟨j, hj, rfl⟩ := List.getElem_of_mem hd'
        obtain ⟨x', _, k', a, _⟩ := Paired.get' hT3 (List.getElem?_eq_getElem hj)
        exact rd_some a (by rw [← z]; exact he)
      have ner : r ≠ e := fun z => by rw [z, he] at hr3; cases hr3
      have nef : f ≠ e := fun z => by rw [z, he] at hf3; cases hf3
      have he0 : H e = none := by
        cases ee : H e with
        | none => rfl
        | some o' =>
          by_cases z : e ∈ ds
          · exact absurd rfl (ned e z)
          · rw [fr3.keep _ _ ee z] at he; cases he
      have hzl := hgs.len (Nat.le_refl _)
      have hkl := hsh.length
      walk_at "rds"
      refine Rd.ivals ?_
      walk_at "rds"
      refine ⟨e, kv2, rfl, .inl he4, fun o2 => ?_⟩
      have he5 : (upd H4 e (.frz o2 (.dK kv2))) e = some (.frz o2 (.dK kv2)) := upd_same
      have tk5 : ∀ a xs, H4 a = some (.tup xs) → (upd H4 e (.frz o2 (.dK kv2))) a = some (.tup xs) := (rd_frame (o := o2) (.inl he4)).tups
      have hsh5 := hsh.keep tk5
      have hr5 : (upd H4 e (.frz o2 (.dK kv2))) r = some (.lst (rs.map V.int)) := by rw [upd_ne ner]; exact hr4
      have hf5 : (upd H4 e (.frz o2 (.dK kv2))) f = some (.lst (ds.map V.ref)) := by rw [upd_ne nef]; exact hf4
      have fr5 : Frame ds H (upd H4 e (.frz o2 (.dK kv2))) := ⟨fun b y eb n => by rw [upd_ne (fun z => by rw [z, he0] at eb; cases eb)]; exact fr4.keep _ _ eb n, fun b xs eb => tk5 _ _ (fr4.tups _ _ eb)⟩
      have hT5 : TreesR (upd H4 e (.frz o2 (.dK kv2))) ds F := by
        refine paired_mem hT4 fun d' x' hd' ⟨k, a, b⟩ => ⟨k, ?_, b.keep tk5⟩
        have := (ned d' hd').symm
        rcases a with a | ⟨o', a⟩
        · exact .inl (by rw [upd_ne this]; exact a)
        · exact .inr ⟨o', by rw [upd_ne this]; exact a⟩
      generalize upd H4 e (.frz o2 (.dK kv2)) = H5 at *
      refine for_walkY (walks_vals he5) (fun k σ H' => H' = H5 ∧ ∃ (C : Nat) (a4 : Option V), σ = [some (.ref p), some (.ref f), some (.ref r), some (.ref d), some (.ref e), some (.int C), a4, a5] ∧ C = lcmL (zs.take k) ∧ C < 2 ^ (6700 * k + 1)) ⟨rfl, 1, _, rfl, rfl, by decide⟩ (fun i σ H' h => h.1 ▸ Same.refl H5) ?_ ?_
      · rintro k σ H6 v H7 hk ⟨rfl, C, a4, rfl, hC, hCs⟩ ⟨rfl, kv, hkv, rfl⟩
        obtain ⟨y, hy, _, t, et, ht⟩ := Paired.get' hsh5 hkv
        rw [et]
        have hkz : k < zs.length := (List.getElem?_eq_some_iff.mp hy).1
        obtain ⟨y0, y1, _⟩ := hgs.pos y (List.mem_of_getElem? hy)
        have ysz := (hgs.size k y hy).2
        have ys2 : y.2.2 < 2 ^ 6700 := Nat.lt_of_lt_of_le ysz (Nat.pow_le_pow_right (by decide) (by omega))
        have et2 : zs.take (k + 1) = zs.take k ++ [y] := by rw [List.take_succ, hy]; rfl
        walk_at "rds"
        refine ⟨C, y.2.2, 6700 * k + 1, rfl, y1, Nat.lt_of_lt_of_le ys2 (Nat.pow_le_pow_right (by decide) (by decide)), hCs, by omega, ?_⟩
        rw [lcm_code]
        refine ⟨rfl, _, _, rfl, by rw [et2, lcmL_snoc, hC], ?_⟩
        have := lcm_lt hCs ys2
        have e3 : 6700 * (k + 1) + 1 = 6700 * k + 1 + 6700 := by omega
        rw [e3]
        exact this
      · rintro σ H6 ⟨rfl, C, a4, rfl, hC, hCs⟩
        rw [hkl, List.take_length] at hC
        walk_at "rds"
        refine Rd.ipairs ?_
        walk_at "rds"
        refine ⟨e, kv2, rfl, .inr ⟨o2, he5⟩, fun o3 => ?_⟩
        have he7 : (upd H6 e (.frz o3 (.dK kv2))) e = some (.frz o3 (.dK kv2)) := upd_same
        have tk7 : ∀ a xs, H6 a = some (.tup xs) → (upd H6 e (.frz o3 (.dK kv2))) a = some (.tup xs) := (rd_frame (o := o3) (.inr ⟨o2, he5⟩)).tups
        have hsh7 := hsh5.keep tk7
        have hr7 : (upd H6 e (.frz o3 (.dK kv2))) r = some (.lst (rs.map V.int)) := by rw [upd_ne ner]; exact hr5
        have hf7 : (upd H6 e (.frz o3 (.dK kv2))) f = some (.lst (ds.map V.ref)) := by rw [upd_ne nef]; exact hf5
        have fr7 : Frame ds H (upd H6 e (.frz o3 (.dK kv2))) := ⟨fun b y eb n => by rw [upd_ne (fun z => by rw [z, he0] at eb; cases eb)]; exact fr5.keep _ _ eb n, fun b xs eb => tk7 _ _ (fr5.tups _ _ eb)⟩
        have hT7 : TreesR (upd H6 e (.frz o3 (.dK kv2))) ds F := by
          refine paired_mem hT5 fun d' x' hd' ⟨k, a, b⟩ => ⟨k, ?_, b.keep tk7⟩
          have := (ned d' hd').symm
          rcases a with a | ⟨o', a⟩
          · exact .inl (by rw [upd_ne this]; exact a)
          · exact .inr ⟨o', by rw [upd_ne this]; exact a⟩
        generalize upd H6 e (.frz o3 (.dK kv2)) = H7 at *
        have hkz : zs.map (·.1) = Fo.keys x.2 := by
          have h1 := hgs.keys
          have h2 : (Fo.keys x.2).take x.2.length = Fo.keys x.2 := List.take_of_length_le (by simp [Fo.keys])
          rw [h1, h2]
        have hzk : ∀ (j : Nat) y, zs[j]? = some y → y.1 ∈ Fo.keys x.2 := fun j y hy => by rw [← hkz]; exact List.mem_map.mpr ⟨y, List.mem_of_getElem? hy, rfl⟩
        have hzn : ∀ (j k : Nat) y z, zs[j]? = some y → zs[k]? = some z → j ≠ k → y.1 ≠ z.1 := fun j k y z hy hz ne ee => by
          have nd : (zs.map (·.1)).Nodup := by rw [hkz]; exact g.nodup
          obtain ⟨hj, ej⟩ := List.getElem?_eq_some_iff.mp hy
          obtain ⟨hk, ek⟩ := List.getElem?_eq_some_iff.mp hz
          refine ne (nd_inj nd (by simpa using hj) (by simpa using hk) ?_)
          rw [List.getElem_map, List.getElem_map, ej, ek]
          exact ee
        refine for_walkY (walks_pairs (only_self (q := e) (o := .frz o3 (.dK kv2)))) (fun k σ H' => ∃ (rs' : List Int) (a6 a7 : Option V), σ = [some (.ref p), some (.ref f), some (.ref r), some (.ref d), some (.ref e), some (.int C), a6, a7] ∧ Frame ds H H' ∧ TreesR H' ds F ∧ H' e = some (.frz o3 (.dK kv2)) ∧ H' f = some (.lst (ds.map V.ref)) ∧ H' r = some (.lst (rs'.map V.int)) ∧ rs'.length = hl.names.length ∧ ShE H' kv2 zs ∧
          (∀ (j : Nat) y, j < k → zs[j]? = some y → rs'[y.1.toNat]? = some ((C / y.2.2 * y.2.1 : Nat) : Int)) ∧ ∀ v : Int, 0 ≤ v → v ∉ Fo.keys x.2 → rs'[v.toNat]? = rs[v.toNat]?)
          ⟨rs, _, _, rfl, fr7, hT7, he7, hf7, hr7, hrl, hsh7, fun j y hj => absurd hj (Nat.not_lt_zero _), fun _ _ _ => rfl⟩ ?_ ?_ ?_
        · rintro k σ H' ⟨_, _, _, _, _, _, h, _⟩
          exact only_same h
        · rintro k σ H8 v H9 hk ⟨rs', a6, a7, rfl, fr8, hT8, he8, hf8, hr8, hrl8, hsh8, hin8, hout8⟩ ⟨t, kv, hkv, ht, rfl, rfl⟩
          obtain ⟨y, hy, ek, ty, et, hty⟩ := Paired.get' hsh8 hkv
          obtain ⟨kk, vv⟩ := kv
          dsimp only at ek et
          subst ek et
          refine Rd.gtup (.of upd_same) rfl ?_
          have su : Same H8 (upd H8 t (.tup [kV (Sum.inl y.1), .ref ty])) := same_new ht
          have hr9 := su _ _ hr8
          have hty9 := su _ _ hty
          have fr9 : Frame ds H (upd H8 t (.tup [kV (Sum.inl y.1), .ref ty])) := fr8.trans su.frame
          have hT9 := hT8.same su
          have he9 := su _ _ he8
          have hf9 := su _ _ hf8
          have hsh9 : ShE (upd H8 t (.tup [kV (Sum.inl y.1), .ref ty])) kv2 zs := hsh8.keep fun _ _ e => su _ _ e
          generalize upd H8 t (.tup [kV (Sum.inl y.1), .ref ty]) = H9 at *
          have ekw : kV (Sum.inl y.1) = .int y.1 := rfl
          rw [ekw]
          obtain ⟨y0, y1, _⟩ := hgs.pos y (List.mem_of_getElem? hy)
          obtain ⟨ysz1, ysz2⟩ := hgs.size k y hy
          have hkk : k < zs.length := (List.getElem?_eq_some_iff.mp hy).1
          have ys1 : y.2.1 < 2 ^ 6700 := Nat.lt_of_lt_of_le ysz1 (Nat.pow_le_pow_right (by decide) (by omega))
          have ys2 : y.2.2 < 2 ^ 6700 := Nat.lt_of_lt_of_le ysz2 (Nat.pow_le_pow_right (by decide) (by omega))
          have dv := divN (a := 0) y1 (Nat.lt_of_lt_of_le ys2 (Nat.pow_le_pow_right (by decide) (by decide)))
          have mo : IntMulOk ((C : Int) / (y.2.2 : Nat)) ((y.2.1 : Nat) : Int) := mulN (a := C / y.2.2) (Nat.lt_of_le_of_lt (Nat.div_le_self _ _) hCs) ys1 (by omega)
          obtain ⟨w0, w1⟩ := hkrg y.1 (hzk k y hy)
          walk_at "rds"
          have ev : (C : Int) / ((y.2.2 : Nat) : Int) * ((y.2.1 : Nat) : Int) = ((C / y.2.2 * y.2.1 : Nat) : Int) := rfl
          rw [ev]
          have tkA : ∀ a xs, H9 a = some (.tup xs) → (upd H9 r (.lst ((rs'.map V.int).set y.1.toNat (.int ((C / y.2.2 * y.2.1 : Nat) : Int))))) a = some (.tup xs) := fun a xs ea => by rw [upd_ne (ne_of ea hr9 (by intro z; cases z))]; exact ea
          have hwl : y.1.toNat < rs'.length := by omega
          walk_at "rds"
          refine ⟨rs'.set y.1.toNat ((C / y.2.2 * y.2.1 : Nat) : Int), _, _, rfl, ⟨fun b z eb n => by rw [upd_ne (fun c => by rw [c, hr0] at eb; cases eb)]; exact fr9.keep _ _ eb n, fun b xs eb => tkA _ _ (fr9.tups _ _ eb)⟩, ?_, by rw [upd_ne ner.symm]; exact he9, by rw [upd_ne nfr]; exact hf9, by rw [upd_same, List.map_set], by rw [List.length_set]; exact hrl8, hsh9.keep tkA, fun j z hj hz => ?_, fun v v0 hv => ?_⟩
          · refine paired_mem hT9 fun d' x' hd' ⟨k', a, b⟩ => ⟨k', ?_, b.keep tkA⟩
            have := (hrd d' hd').symm
            rcases a with a | ⟨o', a⟩
            · exact .inl (by rw [upd_ne this]; exact a)
            · exact .inr ⟨o', by rw [upd_ne this]; exact a⟩
          · rcases Nat.lt_succ_iff_lt_or_eq.mp hj with c | c
            · have ne := hzn j k z y hz hy (by omega)
              obtain ⟨z0, _⟩ := hkrg z.1 (hzk j z hz)
              rw [List.getElem?_set_ne (by omega)]
              exact hin8 j z c hz
            · subst c
              rw [hy] at hz
              cases hz
              rw [List.getElem?_set_self hwl]
          · have ne : v ≠ y.1 := fun c => hv (by rw [c]; exact hzk k y hy)
            rw [List.getElem?_set_ne (by omega)]
            exact hout8 v v0 hv
        · rintro σ H8 ⟨rs', a6, a7, rfl, fr8, hT8, he8, hf8, hr8, hrl8, hsh8, hin8, hout8⟩
          refine ⟨rs', _, _, _, _, _, rfl, fr8, hT8, hf8, hr8, hrl8, fun k x' hk hx' => ?_⟩
          rcases Nat.lt_succ_iff_lt_or_eq.mp hk with c | c
          · obtain ⟨zs', hg', hz'⟩ := hset k x' c hx'
            refine ⟨zs', hg', fun y hy => ?_⟩
            obtain ⟨g', gg', g0', g1'⟩ := hwd.tree x' (List.mem_of_getElem? hx')
            have hyk : y.1 ∈ Fo.keys x'.2 := by
              have h1 := hg'.keys
              have h2 : (Fo.keys x'.2).take x'.2.length = Fo.keys x'.2 := List.take_of_length_le (by simp [Fo.keys])
              rw [h2] at h1
              rw [← h1]
              exact List.mem_map.mpr ⟨y, hy, rfl⟩
            rw [hout8 y.1 (g'.rg ⟨g0', g1'⟩ (ways_rg hbt) _ hyk).1 (wood_disj hbt hwd hx' hx (by omega) _ hyk)]
            exact hz' y hy
          · subst c
            rw [hx] at hx'
            cases hx'
            refine ⟨zs, hgs, fun y hy => ?_⟩
            obtain ⟨j, hj⟩ := List.getElem?_of_mem hy
            rw [← hC]
            exact hin8 j y (by rw [hkl]; exact (List.getElem?_eq_some_iff.mp hj).1) hj
    · rintro σ H3 ⟨rs, a1, a2, a3, a4, a5, rfl, fr3, hT3, hf3, hr3, hrl, hset⟩
      walk_at "rds"
      refine q r H3 rs hr0 fr3 hT3 hr3 hrl (fun x hx => ?_)
      obtain ⟨k, hk⟩ := List.getElem?_of_mem hx
      have := (List.getElem?_eq_some_iff.mp hk).1
      exact hset k x (by rw [List.length_map, hdl]; exact this) hk
end
def sp_change_of {K : PySem.W.Frag} {mg : Str → Option Value} (T : Tp K mg) : Sp := fun vs H Q _ => ∃ (p c : Addr) (hl : HM) (fp : List Addr) (cs : List Int), vs = [.ref p, .ref c] ∧ HallAt T H p hl fp ∧ hl.belts.length ≤ 1000 ∧ SqL K H c (cs.map V.int) ∧ Between hl.belts cs.length ∧ SizedL hl.belts ∧ (∀ c ∈ cs, ∃ k : Nat, c = (k : Int) ∧ k < 2 ^ 420000) ∧
  ∀ (r : Addr) (H' : Hp), H r = none → Same H H' → H' r = some (.lst ((hl.belts.map (chgI cs)).map V.int)) → Q (.ref r) H'
section
variable {P : Program} {w : World} {K : PySem.W.Frag} {mg : Str → Option Value} {base : Heap}
theorem ok_change_of (T : Tp K mg) : FnOk P w K mg base (CXX P w) 2 T.f_change_of T.d_change_of ["hall", "counts"] (sp_change_of T) := by
  have G_Hall_belts : FnOk P w K mg base (CXX P w) 1 T.f_Hall_belts T.d_Hall_belts ["self"] (sp_Hall_belts T) := (ok_Hall_belts T).mono (by decide)
  have cl_Hall := T.cl_Hall
  have na_Hall := T.na_Hall
  refine T.F_change_of.okX sc_change_of (fun vs H Q E h => ?_) (fun cdv A outer s H vs Q E hr h => ?_)
  · obtain ⟨p, c, hl, fp, cs, rfl, _⟩ := h
    rfl
  · have hu := hr.units
    obtain ⟨p, qa, hl, fp, cs, rfl, hh, hz, hc, hbt, hsz, hcs, q⟩ := h
    refine ⟨_, (pss_one (ps_ret (pe_comp rfl (cscope (x := "row") (zs := ["counts"]) (ix := [1]) (defScope s_change_of) ["hall", "counts"] rfl rfl (by decide +kernel)) (pi_listK (K := K) rfl (pe_meth0 (pv 0) T.cl_Hall T.M_Hall_belts G_Hall_belts hr T.b_Hall_belts .nil pass_on)) (fun cl C s H fp => ⟨(pg_name (i := 0) (show (["row", "counts"] : List Str).Nodup by decide +kernel) rfl (Or.inl rfl)), pif_nil, (pe_op op_sub (pe_op op_mulU (pe_ix (ix_K (K := K) rfl) (pv 1) (pe_ix (ix_K (K := K) rfl) (pv 0) pe_int (fun _ _ => rfl)) (fun _ _ => rfl)) (pe_ix (ix_K (K := K) rfl) (pv 0) pe_int (fun _ _ => rfl))) (pe_op op_mulU (pe_ix (ix_K (K := K) rfl) (pv 1) (pe_ix (ix_K (K := K) rfl) (pv 0) pe_int (fun _ _ => rfl)) (fun _ _ => rfl)) (pe_ix (ix_K (K := K) rfl) (pv 0) pe_int (fun _ _ => rfl))))⟩)))), ?_⟩
    try dsimp only [L2.cxX, L2.cxOf, L2.cxComp]
    walk_at "rds"
    intro u H1 bs hu0 sm1 hu1 hT
    have hl1 := hT.length
    have hb : bs.length < sizeLine := small1000 (by rw [hl1]; exact hz)
    walk_at "rds"
    refine comp_walk (walks_lst (SqL.of hu1)) hb (fun _ => true) (fun i => .int (chgI cs (hl.belts.getD i dB))) (fun i H' Kc hi sm k => ?_) (fun i H' Kc hi _ sm k => ?_) (fun r H' hr sm hr' => ?_)
    · walk_at "rds"
      exact k H' (Same.refl H')
    · have hil : i < hl.belts.length := by omega
      obtain ⟨t, ht1, ht2⟩ := hT.getD (i := i) hil
      rw [ht1]
      obtain ⟨r1, r2, r3, r4⟩ := hbt.at hil
      obtain ⟨gv, tk, g0, t0, gl, tl, eg, et⟩ := hsz i hil
      have ht3 := sm _ _ ht2
      unfold chgI at k
      generalize hl.belts.getD i dB = bb at *
      have gm : ∀ {v : Int}, 0 ≤ v → v < cs.length → cs.getD v.toNat 0 ∈ cs := fun {v} v0 v1 => by rw [getD_of (by omega)]; exact List.getElem_mem _
      obtain ⟨k1, e1, l1⟩ := hcs _ (gm r1 r2)
      obtain ⟨k2, e2, l2⟩ := hcs _ (gm r3 r4)
      have m1 : IntMulOk (cs.getD bb.giver.toNat 0) bb.give := by rw [e1, eg]; exact mulN l1 gl (by decide)
      have m2 : IntMulOk (cs.getD bb.taker.toNat 0) bb.take := by rw [e2, et]; exact mulN l2 tl (by decide)
      have hc' : SqL K H' qa (cs.map V.int) := (sm1.trans sm).seq hc
      have a1 := at_ints r1 r2
      have a2 := at_ints r3 r4
      dsimp only [B5.v] at ht3
      walk_at "rds"
      exact k H' (Same.refl H')
    · refine q r H' (same_none sm1 hr) (sm1.trans sm) ?_
      rw [hr', List.filter_eq_self.mpr (by simp), hl1]
      refine congrArg (fun z => some (HO.lst z)) ?_
      refine List.ext_getElem (by simp) fun i h1 h2 => ?_
      have : i < hl.belts.length := by simpa using h1
      simp [List.getD, this]
end
def sp_way_to {K : PySem.W.Frag} {mg : Str → Option Value} (T : Tp K mg) : Sp := fun vs H Q _ => ∃ (d : Addr) (kvs : List (Key × V)) (tr : Fo.Tree) (W : Int → List Fo.Trip) (first w : Int), vs = [.ref d, .int w] ∧ L2.Rd H d (.dK kvs) ∧ Ent H kvs tr ∧ Fo.Grown W first tr ∧ tr.length ≤ 60 ∧ w ∈ Fo.keys tr ∧
  ∀ (r : Addr) (H' : Hp) (vs' : List V) (ps : List (Int × Bool)), H r = none → Same H H' → H' r = some (.lst vs') → Paces H' vs' ps → Path tr w ps → ps.length ≤ tr.length → Q (.ref r) H'
section
variable {P : Program} {w : World} {K : PySem.W.Frag} {mg : Str → Option Value} {base : Heap}
theorem ok_way_to (T : Tp K mg) : FnOk P w K mg base (CXX P w) 1 T.f_way_to T.d_way_to ["tree", "work"] (sp_way_to T) := by
  refine T.F_way_to.okX sc_way_to (fun vs H Q E h => ?_) (fun cdv A outer s H vs Q E hr h => ?_)
  · obtain ⟨d, kvs, tr, W, first, w, rfl, _⟩ := h
    rfl
  · have hu := hr.units
    obtain ⟨d, kvs, tr, W, first, w, rfl, hd, hen, hg, htl, hw, q⟩ := h
    refine ⟨_, (pss_cons (ps_set (i := 2) sc_way_to.nd rfl (Or.inl rfl) (pe_lst pa_nil))
          (pss_cons (ps_set (i := 3) sc_way_to.nd rfl (Or.inl rfl) (pe_ix (ix_dict hu) (pv 0) (pv 1) (fun _ _ => rfl)))
          (pss_cons (ps_while PassesOwn.leaving (pt_cmpR op_notN (pv 3) pe_non (nomark _)) (pss_cons (ps_expr (pe_bmK (K := K) rfl PySem.F.plainAttrs_list PySem.F.slot_list_append PySem.F.type_list_append mt_append (pv 2) (pa_cons (pe_tup (pa_cons (pe_ix (ix_K (K := K) rfl) (pv 3) pe_int (fun _ _ => rfl)) (pa_cons (pe_ix (ix_K (K := K) rfl) (pv 3) pe_int (fun _ _ => rfl)) pa_nil))) pa_nil)))
          (pss_one (ps_set (i := 3) sc_way_to.nd rfl (Or.inl rfl) (pe_ix (ix_dict hu) (pv 0) (pe_ix (ix_K (K := K) rfl) (pv 3) pe_int (fun _ _ => rfl)) (fun _ _ => rfl))))))
          (pss_cons (ps_expr (pe_bm0K (K := K) rfl PySem.F.plainAttrs_list PySem.F.slot_list_reverse PySem.F.type_list_reverse mt_reverse (pv 2)))
          (pss_one (ps_ret (pv 2))))))), ?_⟩
    try dsimp only [L2.cxX, L2.cxOf, L2.cxComp]
    walk_at "rds"
    refine ⟨Nat.zero_le _, fun r hr0 => ?_⟩
    have s1 : Same H (upd H r (.lst [])) := same_new hr0
    have hr1 : (upd H r (.lst [])) r = some (.lst []) := upd_same
    generalize upd H r (.lst []) = H1 at *
    obtain ⟨i0, st0, hi0⟩ := Fo.keys_at hw
    obtain ⟨v0, hv0, hs0⟩ := ent_val hen hg.nodup hi0
    walk_at "rds"
    refine Rd.dgetR (rd_same hd s1) hv0 ?_
    walk_at "rds"
    refine while3 (fun m σ H' => Same H H' ∧ ∃ (u : Int) (st : Option Fo.Trip) (v : V) (vs : List V) (acc : List (Int × Bool)), σ = [some (.ref d), some (.int w), some (.ref r), some v] ∧ StepAt H v st ∧ tr[m]? = some (u, st) ∧ H' r = some (.lst vs) ∧ Paces H' vs acc ∧ (∀ ps, Path tr u ps → Path tr w (ps ++ acc.reverse)) ∧ m + acc.length < tr.length) i0 ⟨s1, w, st0, v0, [], [], rfl, hs0, hi0, hr1, .nil, fun ps h => by simpa using h, by have := (List.getElem?_eq_some_iff.mp hi0).1; simpa using this⟩ ?_
    rintro m σ H2 ⟨s2, u, st, v, vs, acc, rfl, hst, hm, hr2, hP, hpath, hml⟩
    have hpl := hP.length
    cases st with
    | none =>
      obtain rfl : v = .non := hst
      walk_at "rds"
      refine ⟨rfl, false, rfl, ?_⟩
      refine iteF ?_
      walk_at "rds"
      refine ⟨r, vs, rfl, rfl, hr2, ?_⟩
      have fr2 : Frame [r] H2 (upd H2 r (.lst vs.reverse)) := frame_upd (by simp) hr2 (by intro _ z; cases z)
      have s3 : Same H (upd H2 r (.lst vs.reverse)) := s2.new hr0
      have hr3 : (upd H2 r (.lst vs.reverse)) r = some (.lst vs.reverse) := upd_same
      have hP3 := (hP.keep fr2.tups).rev
      generalize upd H2 r (.lst vs.reverse) = H3 at *
      walk_at "rds"
      exact q r H3 vs.reverse acc.reverse hr0 s3 hr3 hP3 (by have := hpath [] (.root hm); simpa using this) (by rw [List.length_reverse]; omega)
    | some t3 =>
      obtain ⟨p, b, al⟩ := t3
      obtain ⟨t, rfl, ht⟩ := hst
      have ht2 := s2 _ _ ht
      have hvz : vs.length < sizeLine := small1000 (by omega)
      obtain ⟨_, j, sj, hj, hjt⟩ := hg.steps m u p b al hm
      obtain ⟨vj, hvj, hsj⟩ := ent_val hen hg.nodup hjt
      walk_at "rds"
      refine ⟨rfl, true, rfl, ?_⟩
      refine iteT (turn3 ?_)
      walk_at "rds"
      refine ⟨by show 2 ≤ sizeLine; decide, fun u1 hu1 => ?_⟩
      have s3 : Same H2 (upd H2 u1 (.tup [V.int b, V.bl al])) := same_new hu1
      have v1 : (upd H2 u1 (.tup [V.int b, V.bl al])) u1 = some (.tup [V.int b, V.bl al]) := upd_same
      generalize upd H2 u1 (.tup [V.int b, V.bl al]) = H3 at *
      have hr3 := s3 _ _ hr2
      have ht3 := s3 _ _ ht2
      walk_at "rds"
      have fr4 : Frame [r] H3 (upd H3 r (.lst (vs ++ [V.ref u1]))) := frame_upd (by simp) hr3 (by intro _ z; cases z)
      have s4 : Same H (upd H3 r (.lst (vs ++ [V.ref u1]))) := (s2.trans s3).new hr0
      have hr4 : (upd H3 r (.lst (vs ++ [V.ref u1]))) r = some (.lst (vs ++ [V.ref u1])) := upd_same
      have hP4 := ((hP.keep fun b xs e => s3 _ _ e).keep fr4.tups).snoc (x := (b, al)) (fr4.tups _ _ v1)
      have ht4 := fr4.tups _ _ ht3
      generalize upd H3 r (.lst (vs ++ [V.ref u1])) = H4 at *
      walk_at "rds"
      refine Rd.dgetR (rd_same hd s4) hvj ?_
      walk_at "rds"
      refine ⟨j, hj, s4, p, sj, vj, vs ++ [.ref u1], acc ++ [(b, al)], rfl, hsj, hjt, hr4, hP4, fun ps h => ?_, by rw [List.length_append]; show j + (acc.length + 1) < tr.length; omega⟩
      have := hpath _ (.step hm h)
      rw [List.reverse_append]
      simpa using this
end
def sp_shared_steps {K : PySem.W.Frag} {mg : Str → Option Value} (T : Tp K mg) : Sp := fun vs H Q _ => ∃ (a b : Addr) (xs ys : List V) (ps qs : List (Int × Bool)), vs = [.ref a, .ref b] ∧ H a = some (.lst xs) ∧ H b = some (.lst ys) ∧ Paces H xs ps ∧ Paces H ys qs ∧
  ∀ k : Nat, k ≤ ps.length → k ≤ qs.length → ps.take k = qs.take k → (k = ps.length ∨ k = qs.length ∨ ps[k]? ≠ qs[k]?) → Q (.int k) H
section
variable {P : Program} {w : World} {K : PySem.W.Frag} {mg : Str → Option Value} {base : Heap}
theorem ok_shared_steps (T : Tp K mg) : FnOk P w K mg base (CXX P w) 1 T.f_shared_steps T.d_shared_steps ["one", "other"] (sp_shared_steps T) := by
  refine T.F_shared_steps.okX sc_shared_steps (fun vs H Q E h => ?_) (fun cdv A outer s H vs Q E hr h => ?_)
  · obtain ⟨a, b, xs, ys, ps, qs, rfl, _⟩ := h
    rfl
  · have hu := hr.units
    obtain ⟨a, b, xs, ys, ps, qs, rfl, ha, hb, hp1, hp2, q⟩ := h
    have l1 := hp1.length
    have l2 := hp2.length
    have hA := SqL.of (K := K) ha
    have hB := SqL.of (K := K) hb
    refine ⟨_, (pss_cons (ps_set (i := 2) sc_shared_steps.nd rfl (Or.inl rfl) pe_int)
          (pss_cons (ps_while PassesOwn.leaving (PW.pt (pw_and (pt_cmpR op_lt (pv 2) (pe_callB (call_min2 rfl) (by rfl) T.n_min PyProof.Rows.boot_min (pa_cons (pe_callB (len_K (K := K) rfl) (by rfl) T.n_len PySem.boot_len (pa_cons (pv 0) pa_nil)) (pa_cons (pe_callB (len_K (K := K) rfl) (by rfl) T.n_len PySem.boot_len (pa_cons (pv 1) pa_nil)) pa_nil))) (nomark _)) (pw_and1 (pt_cmpR (op_eqK (K := K) rfl hu) (pe_ix (ix_K (K := K) rfl) (pv 0) (pv 2) (fun _ _ => rfl)) (pe_ix (ix_K (K := K) rfl) (pv 1) (pv 2) (fun _ _ => rfl)) (nomark _))))) (pss_one (ps_aug (i := 2) sc_shared_steps.nd rfl (Or.inl rfl) pe_int ip_add)))
          (pss_one (ps_ret (pv 2))))), ?_⟩
    try dsimp only [L2.cxX, L2.cxOf, L2.cxComp]
    walk_at "rds"
    refine while3 (fun m σ H' => H' = H ∧ ∃ k : Nat, σ = [some (.ref a), some (.ref b), some (.int k)] ∧ m = ps.length - k ∧ k ≤ ps.length ∧ k ≤ qs.length ∧ ps.take k = qs.take k) ps.length ⟨rfl, 0, rfl, rfl, Nat.zero_le _, Nat.zero_le _, rfl⟩ ?_
    rintro m σ H' ⟨rfl, k, rfl, rfl, k1, k2, hk⟩
    walk_at "rds"
    refine Rd.ifD (fun c => ?_) (fun c => ?_)
    · have c1 : k < ps.length ∧ k < qs.length := by split at c <;> omega
      obtain ⟨t1, e1, h1⟩ := pace_at hp1 (List.getElem?_eq_getElem c1.1)
      obtain ⟨t2, e2, h2⟩ := pace_at hp2 (List.getElem?_eq_getElem c1.2)
      have at1 : atI xs (k : Int) = some (.ref t1) := atI_nat e1
      have at2 : atI ys (k : Int) = some (.ref t2) := atI_nat e2
      walk_at "rds"
      refine Rd.eqUD (rel_pace h1) (rel_pace h2) (lay_pace _ _) (lay_pace _ _) (depth_pace _ _) ?_
      rw [eqv_pace]
      walk_at "rds"
      refine Rd.ifD (fun c2 => turn3 ?_) (fun c2 => ?_)
      · refine ⟨.int k, rfl, ?_⟩
        walk_at "rds"
        refine ⟨ps.length - (k + 1), by omega, rfl, k + 1, rfl, rfl, by omega, by omega, ?_⟩
        rw [List.take_succ_eq_append_getElem c1.1, List.take_succ_eq_append_getElem c1.2, hk]
        congr 2
        exact Prod.ext c2.1 c2.2
      · walk_at "rds"
        refine q k k1 k2 hk (.inr (.inr fun z => c2 ?_))
        rw [List.getElem?_eq_getElem c1.1, List.getElem?_eq_getElem c1.2] at z
        have z' := Option.some.inj z
        exact ⟨congrArg Prod.fst z', congrArg Prod.snd z'⟩
    · walk_at "rds"
      exact q k k1 k2 hk (by split at c <;> omega)
end
theorem Paces.drop {H : Hp} : ∀ {vs : List V} {l : List (Int × Bool)} (k : Nat), Paces H vs l → Paces H (vs.drop k) (l.drop k)
  | _, _, 0, h => h
  | _, _, _ + 1, .nil => .nil
  | _, _, k + 1, .cons _ r => Paces.drop k r
theorem Paces.app {H : Hp} : ∀ {vs vs' : List V} {l l' : List (Int × Bool)}, Paces H vs l → Paces H vs' l' → Paces H (vs ++ vs') (l ++ l')
  | _, _, _, _, .nil, h => h
  | _, _, _, _, .cons a r, h => .cons a (Paces.app r h)
theorem paces_of {H : Hp} {ws : List (Int × Bool)} : ∀ {is : List Nat} {ys : List V}, Paired (fun i v => ∃ t, v = V.ref t ∧ H t = some (.tup [.int (ws.getD i (0, false)).1, .bl (!(ws.getD i (0, false)).2)])) is ys → Paces H ys (is.map fun i => ((ws.getD i (0, false)).1, !(ws.getD i (0, false)).2))
  | _, _, .nil => .nil
  | _, _, .cons a r => .cons a (paces_of r)
theorem map_range_getD (ws : List (Int × Bool)) : ((List.range ws.length).map fun i => ((ws.getD i (0, false)).1, !(ws.getD i (0, false)).2)) = ws.map fun x => (x.1, !x.2) := by
  refine List.ext_getElem (by simp) fun i h1 h2 => ?_
  have hi : i < ws.length := by simpa using h2
  simp [List.getD, hi]
theorem cut_drop {xs : List V} {k : Nat} (h : k ≤ xs.length) : cutV xs (some (k : Int)) none = xs.drop k := by
  have e1 : HT.sIx xs.length 0 (some (k : Int)) = k := by
    simp only [HT.sIx]
    rw [if_neg (by omega)]
    simp
    omega
  have e2 : HT.sIx xs.length xs.length none = xs.length := by simp [HT.sIx]
  unfold cutV
  rw [e1, e2, List.take_of_length_le (by rw [List.length_drop]; exact Nat.le_refl _)]
theorem Paired.flip {α β : Type} {P : α → β → Prop} : ∀ {xs : List α} {ys : List β}, Paired P xs ys → Paired (fun y x => P x y) ys xs
  | _, _, .nil => .nil
  | _, _, .cons a r => .cons a (Paired.flip r)
def sp_ring_through {K : PySem.W.Frag} {mg : Str → Option Value} (T : Tp K mg) : Sp := fun vs H Q _ => ∃ (p f : Addr) (hl : HM) (fp ds : List Addr) (F : List (Int × Fo.Tree)) (bi : Nat), vs = [.ref p, .ref f, .int bi] ∧ HallAt T H p hl fp ∧ H f = some (.lst (ds.map V.ref)) ∧ TreesR H ds F ∧ Fo.Wood (waysL hl.belts) hl.names.length F hl.names.length ∧ hl.names.length ≤ 60 ∧ hl.belts.length ≤ 1000 ∧ Between hl.belts hl.names.length ∧ bi < hl.belts.length ∧
  ∀ (r : Addr) (H' : Hp) (vs' : List V) (x : Int × Fo.Tree) (pg pt : List (Int × Bool)) (k : Nat), Same H H' → H' r = some (.lst vs') → x ∈ F → Path x.2 (hl.belts.getD bi dB).giver pg → Path x.2 (hl.belts.getD bi dB).taker pt → k ≤ pg.length → k ≤ pt.length → pg.take k = pt.take k → (k = pg.length ∨ k = pt.length ∨ pg[k]? ≠ pt[k]?) → Paces H' vs' (ringOf bi pg pt k) → Q (.ref r) H'
section
variable {P : Program} {w : World} {K : PySem.W.Frag} {mg : Str → Option Value} {base : Heap}
theorem ok_ring_through (T : Tp K mg) : FnOk P w K mg base (CXX P w) 6 T.f_ring_through T.d_ring_through ["hall", "forest", "belt"] (sp_ring_through T) := by
  have G_way_to : FnOk P w K mg base (CXX P w) 5 T.f_way_to T.d_way_to ["tree", "work"] (sp_way_to T) := (ok_way_to T).mono (by decide)
  have G_shared_steps : FnOk P w K mg base (CXX P w) 5 T.f_shared_steps T.d_shared_steps ["one", "other"] (sp_shared_steps T) := (ok_shared_steps T).mono (by decide)
  have G_Hall_belt_at : FnOk P w K mg base (CXX P w) 5 T.f_Hall_belt_at T.d_Hall_belt_at ["self", "belt"] (sp_Hall_belt_at T) := (ok_Hall_belt_at T).mono (by decide)
  have cl_Hall := T.cl_Hall
  have na_Hall := T.na_Hall
  refine T.F_ring_through.okX sc_ring_through (fun vs H Q E h => ?_) (fun cdv A outer s H vs Q E hr h => ?_)
  · obtain ⟨p, f, hl, fp, ds, F, bi, rfl, _⟩ := h
    rfl
  · have hu := hr.units
    obtain ⟨p, f, hl, fp, ds, F, bi, rfl, hh, hf, hTr, hwd, hn, hz, hbt, hbi, q⟩ := h
    refine ⟨_, (pss_cons (ps_set (i := 3) sc_ring_through.nd rfl (Or.inr rfl) (pe_meth (pv 0) T.cl_Hall T.M_Hall_belt_at G_Hall_belt_at hr T.b_Hall_belt_at .nil pass_on (pa_cons (pv 2) pa_nil)))
          (pss_cons (ps_set (i := 4) sc_ring_through.nd rfl (Or.inl rfl) (pe_ix (ix_K (K := K) rfl) (pe_comp rfl (cscope (x := "grown") (zs := ["row"]) (ix := [3]) (defScope s_ring_through) ["hall", "forest", "belt", "row", "tree", "to_giver", "to_taker", "shared", "back"] rfl rfl (by decide +kernel)) (pi_listK (K := K) rfl (pv 1)) (fun cl C s H fp => ⟨(pg_name (i := 0) (show (["grown", "row"] : List Str).Nodup by decide +kernel) rfl (Or.inl rfl)), (pif_one (pt_cmpR (op_dIn hu) (pe_ix (ix_K (K := K) rfl) (pv 1) pe_int (fun _ _ => rfl)) (pv 0) (by with_unfolding_all rfl))), (pv 0)⟩)) pe_int (fun _ _ => rfl)))
          (pss_cons (ps_set (i := 5) sc_ring_through.nd rfl (Or.inl rfl) (pe_call G_way_to hr rfl T.m_way_to T.F_way_to.kp T.b_way_to .nil pass_on (pa_cons (pv 4) (pa_cons (pe_ix (ix_K (K := K) rfl) (pv 3) pe_int (fun _ _ => rfl)) pa_nil))))
          (pss_cons (ps_set (i := 6) sc_ring_through.nd rfl (Or.inl rfl) (pe_call G_way_to hr rfl T.m_way_to T.F_way_to.kp T.b_way_to .nil pass_on (pa_cons (pv 4) (pa_cons (pe_ix (ix_K (K := K) rfl) (pv 3) pe_int (fun _ _ => rfl)) pa_nil))))
          (pss_cons (ps_set (i := 7) sc_ring_through.nd rfl (Or.inl rfl) (pe_call G_shared_steps hr rfl T.m_shared_steps T.F_shared_steps.kp T.b_shared_steps .nil pass_on (pa_cons (pv 5) (pa_cons (pv 6) pa_nil))))
          (pss_cons (ps_compN (j := 8) (xs := ["step"]) rfl (cscope (x := "step") (zs := []) (ix := []) (defScope s_ring_through) ["hall", "forest", "belt", "row", "tree", "to_giver", "to_taker", "shared", "back"] rfl rfl (by decide +kernel)) (pi_rev (K := K) rfl rfl T.n_reversed (pa_cons (pe_slice (sl_K (K := K) rfl) (pv 6) (po_some (pv 7)) po_none) pa_nil)) (fun cl C s H fp => ⟨(pg_name (i := 0) (show (["step"] : List Str).Nodup by decide +kernel) rfl (Or.inl rfl)), pif_nil, (pe_tup (pa_cons (pe_ix (ix_K (K := K) rfl) (pv 0) pe_int (fun _ _ => rfl)) (pa_cons (pe_not (pe_ix (ix_K (K := K) rfl) (pv 0) pe_int (fun _ _ => rfl))) pa_nil)))⟩) sc_ring_through.nd rfl (Or.inl rfl))
          (pss_one (ps_ret (pe_op (op_addK (K := K) rfl) (pe_op (op_addK (K := K) rfl) (pe_lst (pa_cons (pe_tup (pa_cons (pv 2) (pa_cons pe_bl pa_nil))) pa_nil)) (pv 8)) (pe_slice (sl_K (K := K) rfl) (pv 5) (po_some (pv 7)) po_none)))))))))), ?_⟩
    try dsimp only [L2.cxX, L2.cxOf, L2.cxComp]
    have hdl := hTr.length
    have hFl : F.length ≤ hl.names.length := by
      have h1 : (F.map (·.1)).Nodup := by
        rw [List.nodup_iff_pairwise_ne, List.pairwise_map]
        exact hwd.rise.imp fun h => Int.ne_of_lt h
      have h2 : ∀ w ∈ F.map (·.1), 0 ≤ w ∧ w < (hl.names.length : Int) := fun w hw => by
        obtain ⟨x, hx, rfl⟩ := List.mem_map.mp hw
        exact (hwd.tree x hx).2.2
      have := Fo.len_le h1 h2
      simpa using this
    walk_at "rds"
    refine ⟨p, bi, hl, fp, rfl, hh, fun z => absurd ⟨by omega, by omega⟩ z, fun _ _ t b hb ht => ?_⟩
    have eb : hl.belts.getD bi dB = b := by
      rw [Int.toNat_natCast] at hb
      rw [List.getD, hb]
      rfl
    obtain ⟨b1, b2, b3, b4⟩ := hbt.at hbi
    rw [eb] at b1 b2 b3 b4 q
    have ht' : H t = some (.tup [.int b.giver, .int b.taker, .int b.give, .int b.take, .int b.start]) := ht
    walk_at "rds"
    refine comp_walk (walks_lst (SqL.of hf)) (small1000 (by rw [List.length_map]; omega)) (fun i => decide (b.giver ∈ Fo.keys (F.getD i (0, [])).2)) (fun i => (ds.map V.ref).getD i .non) (fun i H' Kc hi sm k => ?_) (fun i H' Kc hi _ sm k => ?_) (fun g H4 hg s4 hg4 => ?_)
    · have hil : i < ds.length := by simpa using hi
      obtain ⟨x, hx, kvs, hrd, hen⟩ := Paired.get' hTr (List.getElem?_eq_getElem hil)
      have e1 : (ds.map V.ref).getD i .non = .ref ds[i] := by simp [List.getD, hil]
      rw [e1]
      have e2 : F.getD i (0, []) = x := by rw [List.getD, hx]; rfl
      rw [e2] at k
      have ht2 := sm _ _ ht'
      have e3 : (valV kvs (Sum.inl b.giver)).isSome = decide (b.giver ∈ Fo.keys x.2) := by
        rw [Bool.eq_iff_iff, hen.some, decide_eq_true_iff]
      walk_at "rds"
      refine Rd.dinR (rd_same hrd sm) ?_
      rw [e3]
      walk_at "rds"
      exact k _ (Same.refl _)
    · walk_at "rds"
      exact k _ (Same.refl _)
    · obtain ⟨x0, hx0, hk0⟩ := hwd.all b.giver b1 b2
      obtain ⟨j0, hj0⟩ := List.getElem?_of_mem hx0
      obtain ⟨j, x, hj, hjk, hat⟩ : ∃ (j : Nat) (x : Int × Fo.Tree), F[j]? = some x ∧ b.giver ∈ Fo.keys x.2 ∧ atI (((List.range (ds.map V.ref).length).filter fun i => decide (b.giver ∈ Fo.keys (F.getD i (0, [])).2)).map fun i => (ds.map V.ref).getD i .non) 0 = some ((ds.map V.ref).getD j .non) := by
        have hj0l := (List.getElem?_eq_some_iff.mp hj0).1
        have hm : j0 ∈ (List.range (ds.map V.ref).length).filter fun i => decide (b.giver ∈ Fo.keys (F.getD i (0, [])).2) := by
          rw [List.mem_filter, List.mem_range, List.length_map]
          exact ⟨by omega, by rw [List.getD, hj0]; simpa using hk0⟩
        cases hL : (List.range (ds.map V.ref).length).filter fun i => decide (b.giver ∈ Fo.keys (F.getD i (0, [])).2) with
        | nil => rw [hL] at hm; cases hm
        | cons j rest =>
          have hjm : j ∈ (List.range (ds.map V.ref).length).filter fun i => decide (b.giver ∈ Fo.keys (F.getD i (0, [])).2) := by rw [hL]; exact List.mem_cons_self
          rw [List.mem_filter, List.mem_range, List.length_map] at hjm
          have hjl : j < F.length := by omega
          have hk := of_decide_eq_true hjm.2
          rw [getD_of hjl] at hk
          exact ⟨j, F[j], List.getElem?_eq_getElem hjl, hk, atI_nat (j := 0) rfl⟩
      have hjl : j < ds.length := by have := (List.getElem?_eq_some_iff.mp hj).1; omega
      have hxF := List.mem_of_getElem? hj
      obtain ⟨d, hd, kvs, hrd, hen⟩ := Paired.get' (P := fun (x : Int × Fo.Tree) d => ∃ kvs, L2.Rd H d (.dK kvs) ∧ Ent H kvs x.2) (Paired.flip hTr) hj
      have ed : (ds.map V.ref).getD j .non = .ref d := by simp [List.getD, hd]
      rw [ed] at hat
      refine Rd.ixuL (SqL.of hg4) hat ?_
      have ht4 := s4 _ _ ht'
      obtain ⟨hgr, hgo, x0, x1⟩ := hwd.tree x hxF
      have hxl : x.2.length ≤ 60 := by
        have := Fo.len_le hgr.nodup (hgr.rg ⟨x0, x1⟩ (ways_rg hbt))
        simp [Fo.keys] at this
        omega
      have htk : b.taker ∈ Fo.keys x.2 := by
        obtain ⟨i, st, hi⟩ := Fo.keys_at hjk
        have hil := (List.getElem?_eq_some_iff.mp hi).1
        have hw : (b.taker, (bi : Int), true) ∈ waysL hl.belts b.giver := ways_mem hbi (mem_wayAt.mpr (.inl ⟨by rw [eb], by rw [eb]⟩))
        exact hgo i _ st hil hi _ hw
      walk_at "rds"
      refine ⟨d, kvs, x.2, waysL hl.belts, x.1, b.giver, rfl, rd_same hrd s4, hen.keep fun c xs e => s4 _ _ e, hgr, hxl, hjk, ?_⟩
      intro ra H5 va pg hra s5 hra5 hPa hpath hpal
      have s45 := s4.trans s5
      have ht5 := s45 _ _ ht'
      walk_at "rds"
      refine ⟨d, kvs, x.2, waysL hl.belts, x.1, b.taker, rfl, rd_same hrd s45, hen.keep fun c xs e => s45 _ _ e, hgr, hxl, htk, ?_⟩
      intro rb H6 vb pt hrb s6 hrb6 hPb hpatb hpbl
      have s46 := s45.trans s6
      have hra6 := s6 _ _ hra5
      have hPa6 := hPa.keep fun c xs e => s6 _ _ e
      walk_at "rds"
      refine ⟨ra, rb, va, vb, pg, pt, rfl, hra6, hrb6, hPa6, hPb, ?_⟩
      intro k k1 k2 hk hk3
      have hqa := SqL.of (K := K) hra6
      have hqb := SqL.of (K := K) hrb6
      have lb := hPb.length
      have la := hPa.length
      walk_at "rds"
      refine Rd.irev ?_
      walk_at "rds"
      refine Rd.slL hqb ?_
      intro rc hrc
      rw [cut_drop (by omega)]
      have s7 : Same H6 (upd H6 rc (.lst (vb.drop k))) := same_new hrc
      have v7 : (upd H6 rc (.lst (vb.drop k))) rc = some (.lst (vb.drop k)) := upd_same
      generalize upd H6 rc (.lst (vb.drop k)) = H7 at *
      have hPr := ((hPb.keep fun c xs e => s7 _ _ e).drop k).rev
      have hrl : (vb.drop k).length = ((pt.drop k).reverse).length := by simp [lb]
      have s47 := s46.trans s7
      walk_at "rds"
      refine ⟨rc, vb.drop k, rfl, SqL.of v7, ?_⟩
      refine compN_walk (own := 1) (walks_rev (SqL.of v7)).y (small1000 (by rw [List.length_drop]; omega)) (fun i => [some ((vb.drop k).reverse.getD i .non)]) (fun _ => rfl) (fun _ => true) (fun i v H => ∃ t, v = V.ref t ∧ H t = some (.tup [.int ((pt.drop k).reverse.getD i (0, false)).1, .bl (!((pt.drop k).reverse.getD i (0, false)).2)])) (fun _ _ _ _ e ⟨t, z1, z2⟩ => ⟨t, z1, e _ _ z2⟩) (fun i a' H' v H2 Kg hi sm y ha' k => ?_) (fun i H' Kc hi sm k => ?_) (fun pp i H' Kc hi hc hp0 hp1 sm kk => ?_) (fun re H8 ys hr' sm hl' hR => ?_)
      · obtain ⟨rfl, rfl⟩ := y
        obtain ⟨x1, rfl⟩ : ∃ x1, a' = [x1] := by
          match a', ha' with
          | [x1], _ => exact ⟨x1, rfl⟩
        walk_at "rds"
        exact k _ (Same.refl _)
      · walk_at "rds"
        exact k H' (Same.refl H')
      · have hi' : i < ((pt.drop k).reverse).length := by omega
        obtain ⟨u, hu1, hu2⟩ := pace_at hPr (List.getElem?_eq_getElem hi')
        have e1 : (vb.drop k).reverse.getD i .non = .ref u := by rw [List.getD, hu1]; rfl
        rw [e1]
        rw [getD_of hi'] at kk
        have hu3 := sm _ _ hu2
        generalize ((pt.drop k).reverse)[i] = y at *
        walk_at "rds"
        refine ⟨by show 2 ≤ sizeLine; decide, fun u' hu' => ?_⟩
        exact kk _ _ (same_new hu') ⟨u', rfl, hid_new hp1 hu'⟩
      · have hR' := paces_of hR
        rw [List.filter_eq_self.mpr (by simp), hrl, map_range_getD] at hR'
        have hP8 := hR'.keep (H' := H8) fun c xs e => hid_same _ _ e
        have yl := hP8.length
        have s68 := s7.trans sm
        have hqa8 := s68.seq hqa
        have hPa8 := hPa6.keep fun c xs e => s68 _ _ e
        have s48 := s46.trans s68
        walk_at "rds"
        refine ⟨by show 2 ≤ sizeLine; decide, fun u1 hu1 => ?_⟩
        have s9 : Same H8 (upd H8 u1 (.tup [V.int bi, V.bl true])) := same_new hu1
        have v9 : (upd H8 u1 (.tup [V.int bi, V.bl true])) u1 = some (.tup [V.int bi, V.bl true]) := upd_same
        generalize upd H8 u1 (.tup [V.int bi, V.bl true]) = H9 at *
        walk_at "rds"
        intro u2 hu2
        have s10 : Same H9 (upd H9 u2 (.lst [V.ref u1])) := same_new hu2
        have v10 : (upd H9 u2 (.lst [V.ref u1])) u2 = some (.lst [V.ref u1]) := upd_same
        generalize upd H9 u2 (.lst [V.ref u1]) = H10 at *
        have hl10 := s10 _ _ (s9 _ _ hl')
        have yl2 : ys.length ≤ 60 := by rw [yl, List.length_map, List.length_reverse, List.length_drop]; omega
        walk_at "rds"
        refine Rd.addL v10 hl10 (Nat.le_of_lt (small1000 (by simp; omega))) ?_
        intro u3 hu3
        have s11 : Same H10 (upd H10 u3 (.lst ([V.ref u1] ++ ys))) := same_new hu3
        have v11 : (upd H10 u3 (.lst ([V.ref u1] ++ ys))) u3 = some (.lst ([V.ref u1] ++ ys)) := upd_same
        generalize upd H10 u3 (.lst ([V.ref u1] ++ ys)) = H11 at *
        have s811 := (s9.trans s10).trans s11
        have hqa11 := s811.seq hqa8
        walk_at "rds"
        refine Rd.slL hqa11 ?_
        intro u4 hu4
        rw [cut_drop (by omega)]
        have s12 : Same H11 (upd H11 u4 (.lst (va.drop k))) := same_new hu4
        have v12 : (upd H11 u4 (.lst (va.drop k))) u4 = some (.lst (va.drop k)) := upd_same
        generalize upd H11 u4 (.lst (va.drop k)) = H12 at *
        have v11' := s12 _ _ v11
        walk_at "rds"
        refine Rd.addL v11' v12 (Nat.le_of_lt (small1000 (by simp; omega))) ?_
        intro u5 hu5
        have s13 : Same H12 (upd H12 u5 (.lst ([V.ref u1] ++ ys ++ va.drop k))) := same_new hu5
        have v13 : (upd H12 u5 (.lst ([V.ref u1] ++ ys ++ va.drop k))) u5 = some (.lst ([V.ref u1] ++ ys ++ va.drop k)) := upd_same
        generalize upd H12 u5 (.lst ([V.ref u1] ++ ys ++ va.drop k)) = H13 at *
        have s813 := (s811.trans s12).trans s13
        have s913 := ((s10.trans s11).trans s12).trans s13
        walk_at "rds"
        refine q u5 H13 _ x pg pt k (s48.trans s813) v13 hxF hpath hpatb k1 k2 hk hk3 ?_
        exact Paces.app (Paces.app (.cons ⟨u1, rfl, s913 _ _ v9⟩ .nil) (hP8.keep fun c xs e => s813 _ _ e)) ((hPa8.keep fun c xs e => s813 _ _ e).drop k)
end
def sp_rates_of {K : PySem.W.Frag} {mg : Str → Option Value} (T : Tp K mg) : Sp := fun vs H Q _ => ∃ (p : Addr) (hl : HM) (fp : List Addr), vs = [.ref p] ∧ HallAt T H p hl fp ∧ hl.names.length ≤ 60 ∧ hl.belts.length ≤ 1000 ∧ Between hl.belts hl.names.length ∧ SizedL hl.belts ∧
  (∀ (t r : Addr) (H' : Hp) (rs : List Int) (F : List (Int × Fo.Tree)), Same H H' → H r = none → H' t = some (.tup [.ref r, .non]) → H' r = some (.lst (rs.map V.int)) → rs.length = hl.names.length → Fo.Wood (waysL hl.belts) hl.names.length F hl.names.length → (∀ x ∈ F, SetIn hl.belts x rs) → (∀ j < hl.belts.length, chgI rs (hl.belts.getD j dB) = 0) → Q (.ref t) H') ∧
  (∀ (t r : Addr) (H' : Hp) (vs' : List V) (ring : List (Int × Bool)), Same H H' → H' t = some (.tup [.non, .ref r]) → H' r = some (.lst vs') → Paces H' vs' ring → RingOk hl.belts ring → Q (.ref t) H')
section
variable {P : Program} {w : World} {K : PySem.W.Frag} {mg : Str → Option Value} {base : Heap}
theorem ok_rates_of (T : Tp K mg) : FnOk P w K mg base (CXX P w) 8 T.f_rates_of T.d_rates_of ["hall"] (sp_rates_of T) := by
  have G_forest_of : FnOk P w K mg base (CXX P w) 7 T.f_forest_of T.d_forest_of ["hall"] (sp_forest_of T) := (ok_forest_of T).mono (by decide)
  have G_rates_by : FnOk P w K mg base (CXX P w) 7 T.f_rates_by T.d_rates_by ["hall", "forest"] (sp_rates_by T) := (ok_rates_by T).mono (by decide)
  have G_change_of : FnOk P w K mg base (CXX P w) 7 T.f_change_of T.d_change_of ["hall", "counts"] (sp_change_of T) := (ok_change_of T).mono (by decide)
  have G_ring_through : FnOk P w K mg base (CXX P w) 7 T.f_ring_through T.d_ring_through ["hall", "forest", "belt"] (sp_ring_through T) := (ok_ring_through T).mono (by decide)
  refine T.F_rates_of.okX sc_rates_of (fun vs H Q E h => ?_) (fun cdv A outer s H vs Q E hr h => ?_)
  · obtain ⟨p, hl, fp, rfl, _⟩ := h
    rfl
  · have hu := hr.units
    obtain ⟨p, hl, fp, rfl, hh, hn, hz, hbt, hsz, q, q2⟩ := h
    refine ⟨_, (pss_cons (ps_set (i := 1) sc_rates_of.nd rfl (Or.inl rfl) (pe_call G_forest_of hr rfl T.m_forest_of T.F_forest_of.kp T.b_forest_of .nil pass_on (pa_cons (pv 0) pa_nil)))
          (pss_cons (ps_set (i := 2) sc_rates_of.nd rfl (Or.inl rfl) (pe_call G_rates_by hr rfl T.m_rates_by T.F_rates_by.kp T.b_rates_by .nil pass_on (pa_cons (pv 0) (pa_cons (pv 1) pa_nil))))
          (pss_cons (ps_for PassesOwn.leaving rfl (pi_enum (K := K) rfl rfl T.n_enumerate (pa_cons (pe_call G_change_of hr rfl T.m_change_of T.F_change_of.kp T.b_change_of .nil pass_on (pa_cons (pv 0) (pa_cons (pv 2) pa_nil))) pa_nil)) (pg_tupK (K := K) (n := 2) rfl rfl (pgs_cons (pg_name (i := 3) sc_rates_of.nd rfl (Or.inl rfl)) (pgs_cons (pg_name (i := 4) sc_rates_of.nd rfl (Or.inl rfl)) pgs_nil))) (pss_one (ps_if (pt_cmpR (op_neK (K := K) rfl hu) (pv 4) pe_int (nomark _)) (pss_one (ps_ret (pe_tup (pa_cons pe_non (pa_cons (pe_call G_ring_through hr rfl T.m_ring_through T.F_ring_through.kp T.b_ring_through .nil pass_on (pa_cons (pv 0) (pa_cons (pv 1) (pa_cons (pv 3) pa_nil)))) pa_nil))))) pss_nil)))
          (pss_one (ps_ret (pe_tup (pa_cons (pv 2) (pa_cons pe_non pa_nil)))))))), ?_⟩
    try dsimp only [L2.cxX, L2.cxOf, L2.cxComp]
    walk_at "rds"
    refine ⟨p, hl, fp, rfl, hh, hn, hz, hbt, fun f ds H1 F hf0 s1 hF hnew hwd hFl => ?_⟩
    have hh1 := hh.same s1
    have hdf : ∀ d ∈ ds, d ∉ fp := fun d hd y => hh.dom d y (hnew d hd)
    have hdn : ∀ d ∈ ds, d ≠ f := fun d hd y => by
      obtain ⟨i, hi, e⟩ := List.getElem_of_mem hd
      obtain ⟨x, _, kvs, a, _⟩ := Paired.get' hF.trees (List.getElem?_eq_getElem hi)
      rw [e, y, hF.at_] at a
      cases a
    walk_at "rds"
    refine ⟨p, f, hl, fp, ds, F, rfl, hh1, hF.at_, hF.trees.r, hdf, hdn, hwd, hbt, hn, hsz, fun r H2 rs hr0 fr2 hT2 hr2 hrl hset => ?_⟩
    have s2 : Same H H2 := fun b o e => fr2.keep _ _ (s1 _ _ e) (fun y => by have := hnew b y; rw [e] at this; cases this)
    have hf2 := fr2.keep _ _ hF.at_ (fun y => hdn f y rfl)
    have hh2 := hh.same s2
    have hr00 : H r = none := same_none s1 hr0
    have hrt := rated_of hbt hn hwd hrl hset
    walk_at "rds"
    refine ⟨p, r, hl, fp, rs, rfl, hh2, hz, .of hr2, by rw [hrl]; exact hbt, hsz, fun c hc => (by obtain ⟨k, a, _, b⟩ := hrt.pos c hc; exact ⟨k, a, b⟩), fun c H3 hc0 s3 hc3 => ?_⟩
    have hr3 := s3 _ _ hr2
    have hf3 := s3 _ _ hf2
    have hT3 := hT2.same s3
    have s23 := s2.trans s3
    walk_at "rds"
    refine for_walkY (walks_enum (SqL.of hc3)) (fun i σ H' => Same H3 H' ∧ (∀ j < i, chgI rs (hl.belts.getD j dB) = 0) ∧ ∃ a1 a2, σ = [some (.ref p), some (.ref f), some (.ref r), a1, a2]) ⟨Same.refl H3, fun j hj => absurd hj (Nat.not_lt_zero _), _, _, rfl⟩ (fun i σ H' h => h.1) ?_ ?_
    · rintro i σ H4 v H5 hi ⟨s4, hch, a1, a2, rfl⟩ ⟨t, ht, rfl, rfl⟩
      have hil : i < hl.belts.length := by simpa using hi
      have ei : ((hl.belts.map (chgI rs)).map V.int).getD i .non = .int (chgI rs (hl.belts.getD i dB)) := by
        rw [getD_of hil]
        simp [List.getD, hil]
      rw [ei]
      refine Rd.gtup (.of upd_same) rfl ?_
      have s5 : Same H4 (upd H4 t (.tup [V.int i, V.int (chgI rs (hl.belts.getD i dB))])) := same_new ht
      generalize upd H4 t (.tup [V.int i, V.int (chgI rs (hl.belts.getD i dB))]) = H5 at *
      walk_at "rds"
      refine ite2 (fun c => ?_) (fun c => ?_)
      · have s35 := s4.trans s5
        walk_at "rds"
        refine ⟨p, f, hl, fp, ds, F, i, rfl, hh.same (s23.trans s35), s35 _ _ hf3, hT3.same s35, hwd, hn, hz, hbt, hil, ?_⟩
        intro r' H6 vs' x pg pt k s6 hr6 hx hp hq k1 k2 hk hk3 hP
        walk_at "rds"
        refine ⟨by show 2 ≤ sizeLine; decide, fun t' ht' => ?_⟩
        exact q2 t' r' _ vs' _ (((s23.trans s35).trans s6).trans (same_new ht')) upd_same (same_new ht' _ _ hr6) (hP.keep fun b xs e => same_new ht' _ _ e) (ring_ok hbt hsz hwd hset hil (by simpa using c) hx hp hq hk hk3)
      · walk_at "rds"
        refine ⟨s4.trans s5, fun j hj => ?_, _, _, rfl⟩
        rcases Nat.lt_succ_iff_lt_or_eq.mp hj with z | z
        · exact hch j z
        · rw [z]; simpa using c
    · rintro σ H4 ⟨s4, hch, a1, a2, rfl⟩
      have hr4 := s4 _ _ hr3
      walk_at "rds"
      refine ⟨by show 2 ≤ sizeLine; decide, fun t ht => ?_⟩
      exact q t r _ rs F ((s23.trans s4).trans (same_new ht)) hr00 upd_same (same_new ht _ _ hr4) hrl hwd hset (fun j hj => hch j (by simpa using hj))
end
def sp_l_reached {K : PySem.W.Frag} {mg : Str → Option Value} (T : Tp K mg) : Sp := fun vs H Q _ => ∃ (lp : Addr) (bs : List V) (ls : List B5) (f : Int) (n : Nat), vs = [.ref lp, .int f, .int n] ∧ H lp = some (.lst bs) ∧ Tups4 H bs ls ∧ Between ls n ∧ n ≤ 60 ∧ 0 ≤ f ∧ f < (n : Int) ∧
  ∀ (r : Addr) (H' : Hp) (ys : List Int), H r = none → Same H H' → H' r = some (.lst (ys.map V.int)) → f ∈ ys → (∀ w ∈ ys, 0 ≤ w ∧ w < (n : Int)) → (∀ j < ls.length, ((ls.getD j dB).giver ∈ ys ↔ (ls.getD j dB).taker ∈ ys)) → Q (.ref r) H'
section
variable {P : Program} {w : World} {K : PySem.W.Frag} {mg : Str → Option Value} {base : Heap}
theorem ok_l_reached (T : Tp K mg) : FnOk P w K mg base (CXX P w) 1 T.f_l_reached T.d_l_reached ["_law_lines_here", "_law_first", "_law_many"] (sp_l_reached T) := by
  refine T.F_l_reached.okX sc_l_reached (fun vs H Q E h => ?_) (fun cdv A outer s H vs Q E hr h => ?_)
  · obtain ⟨lp, bs, ls, f, n, rfl, _⟩ := h
    rfl
  · have hu := hr.units
    obtain ⟨lp, bs, ls, f, n, rfl, hlp, hT, hbt, hn, f0, f1, q⟩ := h
    have hbl := hT.length
    refine ⟨_, (pss_cons (ps_set (i := 3) sc_l_reached.nd rfl (Or.inl rfl) (pe_lst (pa_cons (pv 1) pa_nil)))
          (pss_cons (ps_for PassesOwn.leaving rfl (pi_range1 rfl T.n_range (pa_cons (pv 2) pa_nil)) (pg_name (i := 4) sc_l_reached.nd rfl (Or.inl rfl)) (pss_cons (ps_set (i := 5) sc_l_reached.nd rfl (Or.inl rfl) (pe_callB (len_K (K := K) rfl) (by rfl) T.n_len PySem.boot_len (pa_cons (pv 3) pa_nil)))
          (pss_cons (ps_for PassesOwn.leaving rfl (pi_listK (K := K) rfl (pv 0)) (pg_name (i := 6) sc_l_reached.nd rfl (Or.inl rfl)) (pss_cons (ps_cut (ps_if (PW.pt (pw_and (pt_cmpR (in_K (K := K) rfl) (pe_ix (ix_K (K := K) rfl) (pv 6) pe_int (fun _ _ => rfl)) (pv 3) (by with_unfolding_all rfl)) (pw_and1 (pt_cmpR (notIn_K (K := K) rfl) (pe_ix (ix_K (K := K) rfl) (pv 6) pe_int (fun _ _ => rfl)) (pv 3) (by with_unfolding_all rfl))))) (pss_one (ps_expr (pe_bmK (K := K) rfl PySem.F.plainAttrs_list PySem.F.slot_list_append PySem.F.type_list_append mt_append (pv 3) (pa_cons (pe_ix (ix_K (K := K) rfl) (pv 6) pe_int (fun _ _ => rfl)) pa_nil)))) pss_nil))
          (pss_one (ps_cut (ps_if (PW.pt (pw_and (pt_cmpR (in_K (K := K) rfl) (pe_ix (ix_K (K := K) rfl) (pv 6) pe_int (fun _ _ => rfl)) (pv 3) (by with_unfolding_all rfl)) (pw_and1 (pt_cmpR (notIn_K (K := K) rfl) (pe_ix (ix_K (K := K) rfl) (pv 6) pe_int (fun _ _ => rfl)) (pv 3) (by with_unfolding_all rfl))))) (pss_one (ps_expr (pe_bmK (K := K) rfl PySem.F.plainAttrs_list PySem.F.slot_list_append PySem.F.type_list_append mt_append (pv 3) (pa_cons (pe_ix (ix_K (K := K) rfl) (pv 6) pe_int (fun _ _ => rfl)) pa_nil)))) pss_nil)))))
          (pss_one (ps_if (pt_cmpR (op_eqK (K := K) rfl hu) (pe_callB (len_K (K := K) rfl) (by rfl) T.n_len PySem.boot_len (pa_cons (pv 3) pa_nil)) (pv 5) (nomark _)) (pss_one (ps_ret (pv 3))) pss_nil)))))
          (pss_one (ps_ret (pv 3))))), ?_⟩
    try dsimp only [L2.cxX, L2.cxOf, L2.cxComp]
    walk_at "rds"
    intro r hr
    have s1 : Same H (upd H r (.lst [V.int f])) := same_new hr
    have hr1 : (upd H r (.lst [V.int f])) r = some (.lst (([f] : List Int).map V.int)) := upd_same
    generalize upd H r (.lst [V.int f]) = H1 at *
    have hlp1 := s1 _ _ hlp
    walk_at "rds"
    refine for_range (n := n) (fun i σ H' => ∃ (ys : List Int) (a1 a2 a3 : Option V), σ = [some (.ref lp), some (.int f), some (.int n), some (.ref r), a1, a2, a3] ∧ Same H H' ∧ H' r = some (.lst (ys.map V.int)) ∧ f ∈ ys ∧ ys.Nodup ∧ (∀ w ∈ ys, 0 ≤ w ∧ w < (n : Int)) ∧ i < ys.length) ⟨[f], _, _, _, rfl, s1, hr1, by simp, by simp, fun w hw => by rw [List.mem_singleton.mp hw]; exact ⟨f0, f1⟩, by simp⟩ ?_ ?_
    · rintro i0 σ H2 hi0 ⟨xs, a1, a2, a3, rfl, s2, hr2, hf, hnd, hrg, hlen⟩
      have hlp2 := s2 _ _ hlp
      have hsr2 := SqL.of (K := K) hr2
      walk_at "rds"
      refine for_walk (walks_lst (SqL.of hlp)) (fun i σ H' => Same H H' ∧ ∃ (a3 : Option V) (ys : List Int), σ = [some (.ref lp), some (.int f), some (.int n), some (.ref r), some (.int (0 + (i0 : Int))), some (.int ((xs.map V.int).length : Nat)), a3] ∧ H' r = some (.lst (ys.map V.int)) ∧ More ls n i xs ys) ⟨s2, _, xs, rfl, hr2, ⟨⟨[], by simp⟩, hnd, hrg, fun _ j hj => absurd hj (Nat.not_lt_zero _)⟩⟩ (fun j σ H' h => h.1) ?_ ?_
      · rintro i σ H3 hi ⟨s3, a3, ys, rfl, hr3, hm⟩
        have hil : i < ls.length := by omega
        obtain ⟨t, et, ht⟩ := hT.getD hil
        rw [et]
        have ht3 := s3 _ _ ht
        have hms := hm.step hbt hil
        have hyl := Fo.len_le hm.nd hm.rg
        have hlb := hbt.at hil
        generalize ls.getD i dB = l at *
        have hsr := SqL.of (K := K) hr3
        dsimp only [B5.v4] at ht ht3
        walk_at "rds"
        refine Rd.cut (fun σ' H' => Same H H' ∧ σ' = [some (.ref lp), some (.int f), some (.int n), some (.ref r), some (.int (0 + (i0 : Int))), some (.int ((xs.map V.int).length : Nat)), some (.ref t)] ∧ H' r = some (.lst ((addW l.giver l.taker ys).map V.int))) ?k1 ?i1
        case i1 =>
          walk_at "rds"
          refine Rd.ifD (fun c => ?_) (fun c => ?_)
          · walk_at "rds"
            by_cases c2 : l.taker ∈ ys
            · rw [if_neg (by simp [c2])]
              walk_at "rds"
              exact ⟨s3, rfl, by rw [hr3]; unfold addW; rw [if_neg (fun z => z.2 c2)]⟩
            · rw [if_pos (by simp [c2])]
              have hz : (ys.map V.int).length < sizeLine := small1000 (by rw [List.length_map]; omega)
              walk_at "rds"
              exact ⟨s3.new hr, rfl, by rw [upd_same]; unfold addW; rw [if_pos ⟨c, c2⟩, List.map_append]; rfl⟩
          · walk_at "rds"
            exact ⟨s3, rfl, by rw [hr3]; unfold addW; rw [if_neg (fun z => c z.1)]⟩
        case k1 =>
          rintro σ' H4 ⟨s4, rfl, hr4⟩
          have ht4 := s4 _ _ ht
          obtain ⟨b1, b2, b3, b4⟩ := hlb
          obtain ⟨p1, p2, p3, p4, p5⟩ := addW_more (a := l.giver) ⟨b3, b4⟩ hm.ext hm.nd hm.rg
          have hzl := Fo.len_le p2 p3
          generalize addW l.giver l.taker ys = zs at *
          have hsr4 := SqL.of (K := K) hr4
          walk_at "rds"
          refine Rd.cut (fun σ' H' => Same H H' ∧ σ' = [some (.ref lp), some (.int f), some (.int n), some (.ref r), some (.int (0 + (i0 : Int))), some (.int ((xs.map V.int).length : Nat)), some (.ref t)] ∧ H' r = some (.lst ((addW l.taker l.giver zs).map V.int))) ?k2 ?i2
          case i2 =>
            walk_at "rds"
            refine Rd.ifD (fun c => ?_) (fun c => ?_)
            · walk_at "rds"
              by_cases c2 : l.giver ∈ zs
              · rw [if_neg (by simp [c2])]
                walk_at "rds"
                exact ⟨s4, rfl, by rw [hr4]; unfold addW; rw [if_neg (fun z => z.2 c2)]⟩
              · rw [if_pos (by simp [c2])]
                have hz : (zs.map V.int).length < sizeLine := small1000 (by rw [List.length_map]; omega)
                walk_at "rds"
                exact ⟨s4.new hr, rfl, by rw [upd_same]; unfold addW; rw [if_pos ⟨c, c2⟩, List.map_append]; rfl⟩
            · walk_at "rds"
              exact ⟨s4, rfl, by rw [hr4]; unfold addW; rw [if_neg (fun z => c z.1)]⟩
          case k2 =>
            rintro σ' H5 ⟨s5, rfl, hr5⟩
            walk_at "rds"
            exact ⟨s5, _, _, rfl, hr5, hms⟩
      · rintro σ H3 ⟨s3, a3, ys, rfl, hr3, hm⟩
        have hsr3 := SqL.of (K := K) hr3
        rw [hbl] at hm
        obtain ⟨ws, ew⟩ := hm.ext
        walk_at "rds"
        refine Rd.ifD (fun c => ?_) (fun c => ?_)
        · have c' : ys.length = xs.length := by simp only [List.length_map] at c; omega
          have ey : ys = xs := by
            have : ws.length = 0 := by
              have := congrArg List.length ew
              rw [List.length_append] at this
              omega
            rw [ew, List.length_eq_zero_iff.mp this, List.append_nil]
          walk_at "rds"
          have hcl := hm.cl c'
          rw [← ey] at hcl hf
          exact q r H3 ys hr s3 hr3 hf hm.rg hcl
        · have c' : ys.length ≠ xs.length := by simp only [List.length_map] at c; omega
          have cl : xs.length ≤ ys.length := by rw [ew, List.length_append]; omega
          walk_at "rds"
          exact ⟨ys, _, _, _, rfl, s3, hr3, by rw [ew]; exact List.mem_append.mpr (.inl hf), hm.nd, hm.rg, by omega⟩
    · rintro σ H2 ⟨ys, a1, a2, a3, rfl, s2, hr2, hf, hnd, hrg, hlen⟩
      have := Fo.len_le hnd hrg
      omega
end
def sp_l_counts {K : PySem.W.Frag} {mg : Str → Option Value} (T : Tp K mg) : Sp := fun vs H Q _ => ∃ (p a lp : Addr) (rv : V) (ns ss : List Int) (bs : List V) (ls : List B5) (rs : List Int), vs = [.ref p, .ref a, rv, .ref lp] ∧ SqL K H p (ns.map V.int) ∧ SqL K H a (ss.map V.int) ∧ SizesOk ss ∧ 0 < ss.length ∧ ss.length ≤ 30 ∧ H lp = some (.lst bs) ∧ Tups4 H bs ls ∧ Between ls ss.length ∧ (rv = .non ∨ ∃ r, rv = .ref r ∧ H r = some (.lst (rs.map V.int)) ∧ rs.length = ss.length ∧ RatesSm rs) ∧
  ∀ (c : Addr) (H' : Hp) (cs : List Int), H c = none → Same H H' → H' c = some (.lst (cs.map V.int)) → cs.length = ss.length → CountsOk cs → Q (.ref c) H'
section
variable {P : Program} {w : World} {K : PySem.W.Frag} {mg : Str → Option Value} {base : Heap}
theorem ok_l_counts (T : Tp K mg) : FnOk P w K mg base (CXX P w) 3 T.f_l_counts T.d_l_counts ["_law_script", "_law_sizes", "_law_rates", "_law_lines_here"] (sp_l_counts T) := by
  have G_l_reached : FnOk P w K mg base (CXX P w) 2 T.f_l_reached T.d_l_reached ["_law_lines_here", "_law_first", "_law_many"] (sp_l_reached T) := (ok_l_reached T).mono (by decide)
  have G_l_mixed : FnOk P w K mg base (CXX P w) 2 T.f_l_mixed T.d_l_mixed ["_law_script", "_law_k"] (sp_l_mixed T) := (ok_l_mixed T).mono (by decide)
  refine T.F_l_counts.okX sc_l_counts (fun vs H Q E h => ?_) (fun cdv A outer s H vs Q E hr h => ?_)
  · obtain ⟨p, a, lp, rv, ns, ss, bs, ls, rs, rfl, _⟩ := h
    rfl
  · have hu := hr.units
    obtain ⟨p, a, lp, rv, ns, ss, bs, ls, rs, rfl, hS, hA, hss, n0, n1, hlp, hT, hbt, hrv, q⟩ := h
    have hsl : ((ss.map V.int).length : Int) = (ss.length : Int) := by simp
    refine ⟨_, (pss_cons (ps_set (i := 4) sc_l_counts.nd rfl (Or.inl rfl) (pe_lst pa_nil))
          (pss_cons (ps_for PassesOwn.leaving rfl (pi_range1 rfl T.n_range (pa_cons (pe_callB (len_K (K := K) rfl) (by rfl) T.n_len PySem.boot_len (pa_cons (pv 1) pa_nil)) pa_nil)) (pg_name (i := 5) sc_l_counts.nd rfl (Or.inl rfl)) (pss_cons (ps_set (i := 6) sc_l_counts.nd rfl (Or.inl rfl) (pe_callB (minL_K (K := K) rfl rfl) (by rfl) T.n_min PyProof.Rows.boot_min (pa_cons (pe_call G_l_reached hr rfl T.m_l_reached T.F_l_reached.kp T.b_l_reached .nil pass_on (pa_cons (pv 3) (pa_cons (pv 5) (pa_cons (pe_callB (len_K (K := K) rfl) (by rfl) T.n_len PySem.boot_len (pa_cons (pv 1) pa_nil)) pa_nil)))) pa_nil)))
          (pss_cons (ps_set (i := 7) sc_l_counts.nd rfl (Or.inl rfl) (pe_op op_mod (pe_op op_fdivG (pe_call G_l_mixed hr rfl T.m_l_mixed T.F_l_mixed.kp T.b_l_mixed .nil pass_on (pa_cons (pv 0) (pa_cons (pe_op (op_addK (K := K) rfl) pe_int (pv 6)) pa_nil))) pe_int) pe_int))
          (pss_cons (ps_expr (pe_bmK (K := K) rfl PySem.F.plainAttrs_list PySem.F.slot_list_append PySem.F.type_list_append mt_append (pv 4) (pa_cons (pe_op op_mulU (pe_ix (ix_K (K := K) rfl) (pv 1) (pv 5) (fun _ _ => rfl)) (pv 7)) pa_nil)))
          (pss_one (ps_if (PW.pt (pw_and (pt_cmpR op_notN (pv 2) pe_non (nomark _)) (pw_and1 (pt_cmpR op_gt (pe_op op_mod (pe_call G_l_mixed hr rfl T.m_l_mixed T.F_l_mixed.kp T.b_l_mixed .nil pass_on (pa_cons (pv 0) (pa_cons pe_int pa_nil))) pe_int) pe_int (nomark _))))) (pss_one (ps_asg (pe_op op_mulU (pe_ix (ix_K (K := K) rfl) (pv 2) (pv 5) (fun _ _ => rfl)) (pv 7)) (pg_sub (pv 4) (pv 5) set_list))) pss_nil))))))
          (pss_cons (ps_if (pt_cmpR (op_eqK (K := K) rfl hu) (pe_op op_mod (pe_op op_fdivG (pe_call G_l_mixed hr rfl T.m_l_mixed T.F_l_mixed.kp T.b_l_mixed .nil pass_on (pa_cons (pv 0) (pa_cons pe_int pa_nil))) pe_int) pe_int) pe_int (nomark _)) (pss_one (ps_augS (pv 4) (pe_op op_mod (pe_op op_fdivG (pe_call G_l_mixed hr rfl T.m_l_mixed T.F_l_mixed.kp T.b_l_mixed .nil pass_on (pa_cons (pv 0) (pa_cons pe_int pa_nil))) pe_int) (pe_callB (len_K (K := K) rfl) (by rfl) T.n_len PySem.boot_len (pa_cons (pv 4) pa_nil))) (get_listK (K := K) rfl) pe_int ip_add set_list)) pss_nil)
          (pss_one (ps_ret (pv 4)))))), ?_⟩
    try dsimp only [L2.cxX, L2.cxOf, L2.cxComp]
    walk_at "rds"
    refine ⟨Nat.zero_le _, fun c hc => ?_⟩
    have s1 : Same H (upd H c (.lst [])) := same_new hc
    have hc1 : (upd H c (.lst [])) c = some (.lst (([] : List Int).map V.int)) := upd_same
    generalize upd H c (.lst []) = H1 at *
    have hA1 := s1.seq hA
    walk_at "rds"
    refine for_range (n := ((ss.map V.int).length : Int).toNat) (fun i σ H' => ∃ (cs : List Int) (a5 a6 a7 : Option V), σ = [some (.ref p), some (.ref a), some rv, some (.ref lp), some (.ref c), a5, a6, a7] ∧ Same H H' ∧ H' c = some (.lst (cs.map V.int)) ∧ cs.length = i ∧ CountsLo cs) ⟨[], _, _, _, rfl, s1, hc1, rfl, by intro x hx; cases hx⟩ ?_ ?_
    · rintro i σ H2 hi ⟨cs, a5, a6, a7, rfl, s2, hc2, hcl, hcs⟩
      have hil : i < ss.length := by rw [List.length_map] at hi; omega
      have hA2 := s2.seq hA
      walk_at "rds"
      refine ⟨lp, bs, ls, 0 + (i : Int), ss.length, by rw [hsl]; rfl, s2 _ _ hlp, hT.keep (fun b xs e => s2 _ _ e), hbt, by omega, by omega, by omega, ?_⟩
      intro y H3 ys hy s3 hy3 hfy hyr hyc
      have hyp : 0 < ys.length := List.length_pos_of_mem hfy
      have s23 := s2.trans s3
      have hS3 := s23.seq hS
      have hA3 := s23.seq hA
      have hc3 := s3 _ _ hc2
      walk_at "rds"
      refine Rd.minL (SqL.of hy3) hyp (fun M hM _ => ?_)
      have hM0 := (hyr M hM).1
      obtain ⟨x, ex, x0, x1⟩ := size_at hss (g := 0 + (i : Int)) (by omega) (by omega)
      have at1 := at_ints (ns := ss) (k := 0 + (i : Int)) (by omega) (by omega)
      rw [ex] at at1
      have hcz : (cs.map V.int).length < sizeLine := small1000 (by rw [List.length_map]; omega)
      walk_at "rds"
      rename_i mx hmx mx0 mx1
      clear hmx
      obtain ⟨tb, et⟩ : ∃ t : Nat, mx / 12 % 4 = (t : Int) := ⟨(mx / 12 % 4).toNat, by omega⟩
      have t3 : tb ≤ 3 := by omega
      rw [et]
      have mo : IntMulOk (x : Int) (tb : Int) := mulN (n := 110) (m := 110) (Nat.lt_of_le_of_lt x1 (by decide)) (Nat.lt_of_le_of_lt t3 (by decide)) (by decide)
      walk_at "rds"
      have exx : (x : Int) * (tb : Int) = ((x * tb : Nat) : Int) := rfl
      rw [exx]
      have hx4 : x * tb < 2 ^ 210005 := times4 (m := 110) (Nat.lt_of_le_of_lt x1 (by decide)) t3 (by decide)
      have e4 : cs.map V.int ++ [V.int ((x * tb : Nat) : Int)] = (cs ++ [((x * tb : Nat) : Int)]).map V.int := by rw [List.map_append]; rfl
      rw [e4]
      have hcs4 := hcs.snoc hx4
      have s4 : Same H (upd H3 c (.lst ((cs ++ [((x * tb : Nat) : Int)]).map V.int))) := s23.new hc
      have hc4 : (upd H3 c (.lst ((cs ++ [((x * tb : Nat) : Int)]).map V.int))) c = some (.lst ((cs ++ [((x * tb : Nat) : Int)]).map V.int)) := upd_same
      have hl4 : (cs ++ [((x * tb : Nat) : Int)]).length = i + 1 := by simp [hcl]
      generalize upd H3 c (.lst ((cs ++ [((x * tb : Nat) : Int)]).map V.int)) = H4 at *
      generalize cs ++ [((x * tb : Nat) : Int)] = cs4 at *
      have hS4 := s4.seq hS
      rcases hrv with rfl | ⟨r, rfl, hre, hrl, hrs⟩
      · refine ⟨rfl, false, rfl, ?_⟩
        walk_at "rds"
        exact ⟨cs4, _, _, _, rfl, s4, hc4, hl4, hcs4⟩
      · refine ⟨rfl, true, rfl, ?_⟩
        walk_at "rds"
        refine Rd.ifD (fun c' => ?_) (fun c' => ?_)
        · have hsr4 := SqL.of (K := K) (s4 _ _ hre)
          have hrm : rs.getD (0 + (i : Int)).toNat 0 ∈ rs := by rw [getD_of (by omega)]; exact List.getElem_mem _
          obtain ⟨k, ek, k1⟩ := hrs _ hrm
          have at2 := at_ints (ns := rs) (k := 0 + (i : Int)) (by omega) (by omega)
          rw [ek] at at2
          have mo2 : IntMulOk (k : Int) (tb : Int) := mulN (m := 110) k1 (Nat.lt_of_le_of_lt t3 (by decide)) (by decide)
          have hl5 : ((cs4.map V.int).length : Int) = (i : Int) + 1 := by simp [hl4]
          walk_at "rds"
          have ekk : (k : Int) * (tb : Int) = ((k * tb : Nat) : Int) := rfl
          refine ⟨cs4.set (0 + (i : Int)).toNat ((k * tb : Nat) : Int), _, _, _, rfl, s4.new hc, ?_, by rw [List.length_set, hl4], hcs4.set (times4 k1 t3 (by decide))⟩
          rw [upd_same, ekk, List.map_set]
        · walk_at "rds"
          exact ⟨cs4, _, _, _, rfl, s4, hc4, hl4, hcs4⟩
    · rintro σ H2 ⟨cs, a5, a6, a7, rfl, s2, hc2, hcl, hcs⟩
      have hS2 := s2.seq hS
      have hsc2 := SqL.of (K := K) hc2
      have hcl' : cs.length = ss.length := by rw [hcl]; simp
      have cp : 0 < ((cs.map V.int).length : Int) := by rw [List.length_map]; omega
      walk_at "rds"
      refine Rd.ifD (fun c' => ?_) (fun c' => ?_)
      · walk_at "rds"
        rename_i my hmy my0 my1
        clear hmy
        have j1 := Int.emod_nonneg (my / 6) (show ((cs.map V.int).length : Int) ≠ 0 by omega)
        have j2 := Int.emod_lt_of_pos (my / 6) cp
        generalize my / 6 % ((cs.map V.int).length : Int) = j at *
        have j3 : j < (cs.length : Int) := by rw [List.length_map] at j2; exact j2
        have hjm : cs.getD j.toNat 0 ∈ cs := by rw [getD_of (by omega)]; exact List.getElem_mem _
        obtain ⟨k, ek, k1⟩ := hcs _ hjm
        have at2 := at_ints (ns := cs) j1 j3
        rw [ek] at at2
        refine Rd.ixl hsc2 at2 ?_
        walk_at "rds"
        refine q c _ (cs.set j.toNat ((k + 1 : Nat) : Int)) hc (s2.new hc) ?_ (by rw [List.length_set]; exact hcl') fun x hx => ?_
        · rw [upd_same, List.map_set]; rfl
        · rcases List.mem_or_eq_of_mem_set hx with z | z
          · exact hcs.ok x z
          · rw [z]; exact ⟨k + 1, rfl, Nat.lt_of_le_of_lt k1 (Nat.pow_lt_pow_right (by decide) (by decide))⟩
      · walk_at "rds"
        exact q c H2 cs hc s2 hc2 hcl' hcs.ok
end
def sp_l_long {K : PySem.W.Frag} {mg : Str → Option Value} (T : Tp K mg) : Sp := fun vs H Q _ => ∃ (p a : Addr) (ns ss : List Int), vs = [.ref p, .ref a] ∧ SqL K H p (ns.map V.int) ∧ SqL K H a (ss.map V.int) ∧ SizesOk ss ∧ 0 < ss.length ∧ ss.length ≤ 30 ∧
  ∀ (r : Addr) (H' : Hp) (bs : List V) (ls : List B5), H r = none → Same H H' → H' r = some (.lst bs) → Tups4 H' bs ls → ls.length + 1 = ss.length → (∀ l ∈ ls, Put ss.length l) → Q (.ref r) H'
section
variable {P : Program} {w : World} {K : PySem.W.Frag} {mg : Str → Option Value} {base : Heap}
theorem ok_l_long (T : Tp K mg) : FnOk P w K mg base (CXX P w) 3 T.f_l_long T.d_l_long ["_law_script", "_law_sizes"] (sp_l_long T) := by
  have G_l_mixed : FnOk P w K mg base (CXX P w) 2 T.f_l_mixed T.d_l_mixed ["_law_script", "_law_k"] (sp_l_mixed T) := (ok_l_mixed T).mono (by decide)
  have G_l_divisor : FnOk P w K mg base (CXX P w) 2 T.f_l_divisor T.d_l_divisor ["_law_one", "_law_other"] (sp_l_divisor T) := (ok_l_divisor T).mono (by decide)
  refine T.F_l_long.okX sc_l_long (fun vs H Q E h => ?_) (fun cdv A outer s H vs Q E hr h => ?_)
  · obtain ⟨p, a, ns, ss, rfl, _⟩ := h
    rfl
  · have hu := hr.units
    obtain ⟨p, a, ns, ss, rfl, hS, hA, hss, n0, n1, q⟩ := h
    have hsl : ((ss.map V.int).length : Int) = (ss.length : Int) := by simp
    refine ⟨_, (pss_cons (ps_set (i := 2) sc_l_long.nd rfl (Or.inl rfl) (pe_lst pa_nil))
          (pss_cons (ps_for PassesOwn.leaving rfl (pi_range1 rfl T.n_range (pa_cons (pe_callB (len_K (K := K) rfl) (by rfl) T.n_len PySem.boot_len (pa_cons (pv 1) pa_nil)) pa_nil)) (pg_name (i := 3) sc_l_long.nd rfl (Or.inl rfl)) (pss_one (ps_expr (pe_bmK (K := K) rfl PySem.F.plainAttrs_list PySem.F.slot_list_insert PySem.F.type_list_insert mt_insert (pv 2) (pa_cons (pe_op op_mod (pe_op op_fdivG (pe_call G_l_mixed hr rfl T.m_l_mixed T.F_l_mixed.kp T.b_l_mixed .nil pass_on (pa_cons (pv 0) (pa_cons (pe_op (op_addK (K := K) rfl) pe_int (pv 3)) pa_nil))) pe_int) (pe_op (op_addK (K := K) rfl) (pv 3) pe_int)) (pa_cons (pv 3) pa_nil))))))
          (pss_cons (ps_set (i := 4) sc_l_long.nd rfl (Or.inl rfl) (pe_lst pa_nil))
          (pss_cons (ps_for PassesOwn.leaving rfl (pi_range1 rfl T.n_range (pa_cons (pe_op op_sub (pe_callB (len_K (K := K) rfl) (by rfl) T.n_len PySem.boot_len (pa_cons (pv 1) pa_nil)) pe_int) pa_nil)) (pg_name (i := 3) sc_l_long.nd rfl (Or.inl rfl)) (pss_cons (ps_set (i := 5) sc_l_long.nd rfl (Or.inl rfl) (pe_call G_l_mixed hr rfl T.m_l_mixed T.F_l_mixed.kp T.b_l_mixed .nil pass_on (pa_cons (pv 0) (pa_cons (pe_op (op_addK (K := K) rfl) pe_int (pv 3)) pa_nil))))
          (pss_cons (ps_asg (pe_ix (ix_K (K := K) rfl) (pe_lst (pa_cons (pe_tup (pa_cons (pe_ix (ix_K (K := K) rfl) (pv 2) (pv 3) (fun _ _ => rfl)) (pa_cons (pe_ix (ix_K (K := K) rfl) (pv 2) (pe_op (op_addK (K := K) rfl) (pv 3) pe_int) (fun _ _ => rfl)) pa_nil))) (pa_cons (pe_tup (pa_cons (pe_ix (ix_K (K := K) rfl) (pv 2) (pe_op (op_addK (K := K) rfl) (pv 3) pe_int) (fun _ _ => rfl)) (pa_cons (pe_ix (ix_K (K := K) rfl) (pv 2) (pv 3) (fun _ _ => rfl)) pa_nil))) pa_nil))) (pe_op op_mod (pe_op op_fdivG (pv 5) pe_int) pe_int) (fun _ _ => rfl)) (pg_tupK (K := K) (n := 2) rfl rfl (pgs_cons (pg_name (i := 6) sc_l_long.nd rfl (Or.inl rfl)) (pgs_cons (pg_name (i := 7) sc_l_long.nd rfl (Or.inl rfl)) pgs_nil))))
          (pss_cons (ps_set (i := 8) sc_l_long.nd rfl (Or.inl rfl) (pe_call G_l_divisor hr rfl T.m_l_divisor T.F_l_divisor.kp T.b_l_divisor .nil pass_on (pa_cons (pe_ix (ix_K (K := K) rfl) (pv 1) (pv 6) (fun _ _ => rfl)) (pa_cons (pe_ix (ix_K (K := K) rfl) (pv 1) (pv 7) (fun _ _ => rfl)) pa_nil))))
          (pss_cons (ps_set (i := 9) sc_l_long.nd rfl (Or.inl rfl) (pe_ix (ix_K (K := K) rfl) (pe_lst (pa_cons pe_int (pa_cons (pe_op op_mod (pe_op op_fdivG (pv 5) pe_int) (pe_op (op_addK (K := K) rfl) (pe_callB (len_K (K := K) rfl) (by rfl) T.n_len PySem.boot_len (pa_cons (pv 4) pa_nil)) pe_int)) pa_nil))) (pe_op op_mod (pe_call G_l_mixed hr rfl T.m_l_mixed T.F_l_mixed.kp T.b_l_mixed .nil pass_on (pa_cons (pv 0) (pa_cons pe_int pa_nil))) pe_int) (fun _ _ => rfl)))
          (pss_one (ps_expr (pe_bmK (K := K) rfl PySem.F.plainAttrs_list PySem.F.slot_list_insert PySem.F.type_list_insert mt_insert (pv 4) (pa_cons (pv 9) (pa_cons (pe_tup (pa_cons (pv 6) (pa_cons (pv 7) (pa_cons (pe_op op_fdivG (pe_ix (ix_K (K := K) rfl) (pv 1) (pv 7) (fun _ _ => rfl)) (pv 8)) (pa_cons (pe_op op_fdivG (pe_ix (ix_K (K := K) rfl) (pv 1) (pv 6) (fun _ _ => rfl)) (pv 8)) pa_nil))))) pa_nil))))))))))
          (pss_one (ps_ret (pv 4))))))), ?_⟩
    try dsimp only [L2.cxX, L2.cxOf, L2.cxComp]
    walk_at "rds"
    refine ⟨Nat.zero_le _, fun o ho => ?_⟩
    have s1 : Same H (upd H o (.lst [])) := same_new ho
    have ho1 : (upd H o (.lst [])) o = some (.lst (([] : List Int).map V.int)) := upd_same
    generalize upd H o (.lst []) = H1 at *
    have hA1 := s1.seq hA
    walk_at "rds"
    refine for_range (n := ((ss.map V.int).length : Int).toNat) (fun i σ H' => ∃ (os : List Int) (a1 : Option V), σ = [some (.ref p), some (.ref a), some (.ref o), a1, none, none, none, none, none, none] ∧ Same H H' ∧ H' o = some (.lst (os.map V.int)) ∧ OrderOk i os) ⟨[], _, rfl, s1, ho1, rfl, by intro w hw; cases hw⟩ ?_ ?_
    · rintro i σ H2 hi ⟨os, a1, rfl, s2, ho2, hol, hor⟩
      have hS2 := s2.seq hS
      have hz : (os.map V.int).length < sizeLine := small1000 (by rw [List.length_map]; omega)
      have ip : 0 < (0 + (i : Int)) + 1 := by omega
      walk_at "rds"
      rename_i mx hmx mx0 mx1
      clear hmx
      have r1 := Int.emod_nonneg (mx / 3) (show (0 + (i : Int)) + 1 ≠ 0 by omega)
      have r2 := Int.emod_lt_of_pos (mx / 3) ip
      generalize mx / 3 % ((0 + (i : Int)) + 1) = g at *
      refine Rd.ins ho2 hz r1 (by rw [List.length_map]; omega) ?_
      walk_at "rds"
      refine ⟨os.take g.toNat ++ (0 + (i : Int)) :: os.drop g.toNat, _, rfl, s2.new ho, by rw [upd_same, map_ins], by rw [len_ins, hol], fun w hw => ?_⟩
      rcases mem_ins hw with z | z
      · have := hor w z; omega
      · omega
    · rintro σ H3 ⟨os, a1, rfl, s3, ho3, hok⟩
      have hS3 := s3.seq hS
      have hA3 := s3.seq hA
      have enn : ((ss.map V.int).length : Int).toNat = ss.length := by simp
      rw [enn] at hok
      obtain ⟨hol, hor⟩ := hok
      walk_at "rds"
      refine ⟨Nat.zero_le _, fun r hr => ?_⟩
      have s4 : Same H3 (upd H3 r (.lst [])) := same_new hr
      have hr4 : (upd H3 r (.lst [])) r = some (.lst []) := upd_same
      generalize upd H3 r (.lst []) = H4 at *
      have hr0 : H r = none := same_none s3 hr
      have hA4 := s4.seq hA3
      walk_at "rds"
      refine for_range (n := (((ss.map V.int).length : Int) - 1).toNat) (fun i σ H' => ∃ (bs : List V) (ls : List B5) (a3 a5 a6 a7 a8 a9 : Option V), σ = [some (.ref p), some (.ref a), some (.ref o), a3, some (.ref r), a5, a6, a7, a8, a9] ∧ Same H3 H' ∧ H' r = some (.lst bs) ∧ Tups4 H' bs ls ∧ ls.length = i ∧ ∀ l ∈ ls, Put ss.length l) ⟨[], [], _, _, _, _, _, _, rfl, s4, hr4, .nil, rfl, by simp⟩ ?_ ?_
      · rintro i σ H5 hi ⟨bs, ls, a3, a5, a6, a7, a8, a9, rfl, s5, hr5, hT5, hl5, hd5⟩
        have hS5 := s5.seq hS3
        have hA5 := s5.seq hA3
        have ho5 := s5 _ _ ho3
        have hO5 := SqL.of (K := K) ho5
        have il : i + 1 < os.length := by rw [List.length_map] at hi; omega
        have e1 : os.getD (0 + (i : Int)).toNat 0 ∈ os := by rw [getD_of (by omega)]; exact List.getElem_mem _
        have e2 : os.getD ((0 + (i : Int)) + 1).toNat 0 ∈ os := by rw [getD_of (by omega)]; exact List.getElem_mem _
        have at1 := at_ints (ns := os) (k := 0 + (i : Int)) (by omega) (by omega)
        have at2 := at_ints (ns := os) (k := (0 + (i : Int)) + 1) (by omega) (by omega)
        have x0 := hor _ e1
        have y0 := hor _ e2
        generalize os.getD (0 + (i : Int)).toNat 0 = x at *
        generalize os.getD ((0 + (i : Int)) + 1).toNat 0 = y at *
        walk_at "rds"
        rename_i mx hmx mx0 mx1
        clear hmx
        have hbz : bs.length < sizeLine := small1000 (by have := hT5.length; rw [List.length_map] at hi; omega)
        refine ⟨by show 2 ≤ sizeLine; decide, fun u1 hu1 => ?_⟩
        have s6 : Same H5 (upd H5 u1 (.tup [V.int x, V.int y])) := same_new hu1
        have v1 : (upd H5 u1 (.tup [V.int x, V.int y])) u1 = some (.tup [V.int x, V.int y]) := upd_same
        generalize upd H5 u1 (.tup [V.int x, V.int y]) = H6 at *
        have hO6 := s6.seq hO5
        walk_at "rds"
        refine ⟨by show 2 ≤ sizeLine; decide, fun u2 hu2 => ?_⟩
        have s7 : Same H6 (upd H6 u2 (.tup [V.int y, V.int x])) := same_new hu2
        have v2 : (upd H6 u2 (.tup [V.int y, V.int x])) u2 = some (.tup [V.int y, V.int x]) := upd_same
        generalize upd H6 u2 (.tup [V.int y, V.int x]) = H7 at *
        have v1' := s7 _ _ v1
        walk_at "rds"
        refine ⟨by show 2 ≤ sizeLine; decide, fun u3 hu3 => ?_⟩
        have s8 : Same H7 (upd H7 u3 (.lst [V.ref u1, V.ref u2])) := same_new hu3
        have v3 : (upd H7 u3 (.lst [V.ref u1, V.ref u2])) u3 = some (.lst [V.ref u1, V.ref u2]) := upd_same
        generalize upd H7 u3 (.lst [V.ref u1, V.ref u2]) = H8 at *
        walk_at "rds"
        obtain ⟨u, g, t, at3, hu8, hg, ht⟩ : ∃ (u : Addr) (g t : Int), atI [V.ref u1, V.ref u2] (mx / 7 % 2) = some (.ref u) ∧ H8 u = some (.tup [V.int g, V.int t]) ∧ (0 ≤ g ∧ g < (ss.length : Int)) ∧ (0 ≤ t ∧ t < (ss.length : Int)) := by
          rcases (by omega : mx / 7 % 2 = 0 ∨ mx / 7 % 2 = 1) with z | z
          · rw [z]; exact ⟨u1, x, y, rfl, s8 _ _ v1', x0, y0⟩
          · rw [z]; exact ⟨u2, y, x, rfl, s8 _ _ v2, y0, x0⟩
        refine Rd.ixuL (SqL.of v3) at3 ?_
        refine Rd.gtup (.of hu8) rfl ?_
        have s58 := (s6.trans s7).trans s8
        have s38 := s5.trans s58
        have hr8 := s58 _ _ hr5
        have hA8 := s38.seq hA3
        have hS8 := s38.seq hS3
        obtain ⟨gx, egx, gx0, gx1⟩ := size_at hss hg.1 hg.2
        obtain ⟨tx, etx, tx0, tx1⟩ := size_at hss ht.1 ht.2
        have at4 := at_ints hg.1 hg.2
        have at5 := at_ints ht.1 ht.2
        rw [egx] at at4
        rw [etx] at at5
        obtain ⟨q1, q2, q3, q4, _⟩ := line_bal gx0 tx0 Nat.one_pos gx1 tx1 (by decide)
        rw [Nat.one_mul] at q1 q2 q3 q4
        have gd := divN (a := 0) (Nat.gcd_pos_of_pos_left tx gx0) (Nat.lt_of_le_of_lt (Nat.le_trans (Nat.le_of_dvd gx0 (Nat.gcd_dvd_left gx tx)) gx1) (Nat.lt_of_lt_of_le (by decide : 10 ^ 13 < 2 ^ 110) (Nat.pow_le_pow_right (by decide) (by decide))))
        walk_at "rds"
        refine ⟨gx, tx, rfl, ?_⟩
        have hlp : 0 < (bs.length : Int) + 1 := by omega
        walk_at "rds"
        have g1 := Int.emod_nonneg (mx / 21) (show (bs.length : Int) + 1 ≠ 0 by omega)
        have g2 := Int.emod_lt_of_pos (mx / 21) hlp
        generalize mx / 21 % ((bs.length : Int) + 1) = gi at *
        refine ⟨by show 2 ≤ sizeLine; decide, fun u5 hu5 => ?_⟩
        have s10 : Same H8 (upd H8 u5 (.lst [V.int 0, V.int gi])) := same_new hu5
        have v5 : (upd H8 u5 (.lst [V.int 0, V.int gi])) u5 = some (.lst [V.int 0, V.int gi]) := upd_same
        generalize upd H8 u5 (.lst [V.int 0, V.int gi]) = H10 at *
        have hr10 := s10 _ _ hr8
        have hS10 := s10.seq hS8
        have hA10 := s10.seq hA8
        walk_at "rds"
        rename_i my hmy my0 my1
        clear hmy
        obtain ⟨j, at6, j0, j1⟩ : ∃ j : Int, atI [V.int 0, V.int gi] (my % 2) = some (.int j) ∧ 0 ≤ j ∧ j ≤ (bs.length : Int) := by
          rcases (by omega : my % 2 = 0 ∨ my % 2 = 1) with z | z
          · rw [z]; exact ⟨0, rfl, by omega, by omega⟩
          · rw [z]; exact ⟨gi, rfl, g1, by omega⟩
        refine Rd.ixuL (SqL.of v5) at6 ?_
        walk_at "rds"
        have eg : (tx : Int) / ((Nat.gcd gx tx : Nat) : Int) = ((tx / Nat.gcd gx tx : Nat) : Int) := rfl
        have et : (gx : Int) / ((Nat.gcd gx tx : Nat) : Int) = ((gx / Nat.gcd gx tx : Nat) : Int) := rfl
        rw [eg, et]
        have hl9 : Put ss.length ⟨g, t, ((tx / Nat.gcd gx tx : Nat) : Int), ((gx / Nat.gcd gx tx : Nat) : Int), 0⟩ := PutB.put ⟨⟨hg.1, hg.2, ht.1, ht.2⟩, ⟨_, _, rfl, rfl, q1, q2, q3, q4⟩, rfl⟩
        generalize ((tx / Nat.gcd gx tx : Nat) : Int) = c1 at *
        generalize ((gx / Nat.gcd gx tx : Nat) : Int) = c2 at *
        refine ⟨by show 4 ≤ sizeLine; decide, fun u4 hu4 => ?_⟩
        have s11 : Same H10 (upd H10 u4 (.tup [V.int g, V.int t, V.int c1, V.int c2])) := same_new hu4
        have v4 : (upd H10 u4 (.tup [V.int g, V.int t, V.int c1, V.int c2])) u4 = some (.tup (B5.mk g t c1 c2 0).v4) := upd_same
        generalize upd H10 u4 (.tup [V.int g, V.int t, V.int c1, V.int c2]) = H11 at *
        have hr11 := s11 _ _ hr10
        have s5b := (s58.trans s10).trans s11
        have hT11 := hT5.keep (H' := H11) fun b xs e => s5b _ _ e
        walk_at "rds"
        refine Rd.ins hr11 hbz j0 j1 ?_
        walk_at "rds"
        have fr : Frame [r] H11 (upd H11 r (.lst (bs.take j.toNat ++ .ref u4 :: bs.drop j.toNat))) := frame_upd (by simp) hr11 (by intro _ z; cases z)
        refine ⟨_, ls.take j.toNat ++ ⟨g, t, c1, c2, 0⟩ :: ls.drop j.toNat, _, _, _, _, _, _, rfl, (s5.trans s5b).new hr, upd_same, ?_, by rw [len_ins, hl5], fun l' hl => ?_⟩
        · exact Paired.insert _ (hT11.keep fr.tups) ⟨u4, rfl, fr.tups _ _ v4⟩
        · rcases mem_ins hl with z | z
          · exact hd5 l' z
          · rw [z]; exact hl9
      · rintro σ H5 ⟨bs, ls, a3, a5, a6, a7, a8, a9, rfl, s5, hr5, hT5, hl5, hd5⟩
        walk_at "rds"
        exact q r H5 bs ls hr0 (s3.trans s5) hr5 hT5 (by rw [List.length_map] at hl5; omega) hd5
end
def sp_l_name {K : PySem.W.Frag} {mg : Str → Option Value} (T : Tp K mg) : Sp := fun vs H Q _ => ∃ k : Nat, vs = [.int k] ∧ Q (.str (nameN k)) H
theorem rd_l_name {K : PySem.W.Frag} {mg : Str → Option Value} {T : Tp K mg} {H : Hp} {Q : VK} {E : XK} {i : Int} (h : 0 ≤ i) (q : Q (.str (nameN i.toNat)) H) : sp_l_name T ([.int i] ++ []) H Q E := ⟨i.toNat, by rw [Int.toNat_of_nonneg h]; rfl, q⟩
local macro_rules | `(tactic| walk_at "rd") => `(tactic| first | with_reducible refine Nm.rd_l_name (by walk_at "side") ?_ | fail "none here")
section
variable {P : Program} {w : World} {K : PySem.W.Frag} {mg : Str → Option Value} {base : Heap}
theorem ok_l_name (T : Tp K mg) : FnOk P w K mg base (CXX P w) 1 T.f_l_name T.d_l_name ["_law_k"] (sp_l_name T) := by
  refine T.F_l_name.okX sc_l_name (fun vs H Q E h => ?_) (fun cdv A outer s H vs Q E hr h => ?_)
  · obtain ⟨k, rfl, _⟩ := h
    rfl
  · have hu := hr.units
    obtain ⟨k, rfl, q⟩ := h
    unfold nameN at q
    have al := abc_len
    have hl := hgf_len
    refine ⟨_, (pss_cons (ps_if (pt_cmpR op_lt (pv 0) pe_int (nomark _)) (pss_one (ps_ret (pe_slice (sl_K (K := K) rfl) pe_str (po_some (pv 0)) po_none))) pss_nil)
          (pss_one (ps_ret (pe_op (op_addK (K := K) rfl) (pe_ix (ix_K (K := K) rfl) pe_str (pe_op op_mod (pv 0) pe_int) (fun _ _ => rfl)) pe_str)))), ?_⟩
    try dsimp only [L2.cxX, L2.cxOf, L2.cxComp]
    walk_at "rds"
    refine Rd.ifD (fun c => ?_) (fun c => ?_)
    · rw [if_pos (by omega)] at q
      walk_at "rds"
      exact q
    · rw [if_neg (by omega)] at q
      walk_at "rds"
      have e : ((k : Int) % 26) = ((k % 26 : Nat) : Int) := by omega
      rw [e]
      refine Rd.ixuS al (atI_nat (abc_at (k % 26) (Nat.mod_lt _ (by decide)))) ?_
      refine Rd.addS ?_ ?_
      · show 1 + ("zz" : Str).length ≤ sizeLine
        decide +kernel
      · exact q
end
def sp_l_ring_good {K : PySem.W.Frag} {mg : Str → Option Value} (T : Tp K mg) : Sp := fun vs H Q _ => ∃ (rp lp : Addr) (vs' : List V) (ring : List (Int × Bool)) (bs : List V) (ls : List B5), vs = [.ref rp, .ref lp] ∧ H rp = some (.lst vs') ∧ Paces H vs' ring ∧ RingOk ls ring ∧ H lp = some (.lst bs) ∧ Tups4 H bs ls ∧ SizedL ls ∧ ls.length ≤ 60 ∧ ∀ H', Same H H' → Q (.bl true) H'
section
variable {P : Program} {w : World} {K : PySem.W.Frag} {mg : Str → Option Value} {base : Heap}
theorem ok_l_ring_good (T : Tp K mg) : FnOk P w K mg base (CXX P w) 1 T.f_l_ring_good T.d_l_ring_good ["_law_ring", "_law_lines_here"] (sp_l_ring_good T) := by
  refine T.F_l_ring_good.okX sc_l_ring_good (fun vs H Q E h => ?_) (fun cdv A outer s H vs Q E hr h => ?_)
  · obtain ⟨rp, lp, vs', ring, bs, ls, rfl, _⟩ := h
    rfl
  · have hu := hr.units
    obtain ⟨rp, lp, vs', ring, bs, ls, rfl, hrp, hP, hok, hlp, hT, hsz, hll, q⟩ := h
    have hpl := hP.length
    have hbl := hT.length
    have hrl : ring.length ≤ ls.length := by
      have := Fo.len_le hok.nd (n := ls.length) (fun w hw => by obtain ⟨x, hx, e⟩ := List.mem_map.mp hw; rw [← e]; exact hok.rg x hx)
      simpa using this
    obtain ⟨x0, rr, er⟩ : ∃ x0 rr, ring = x0 :: rr := by
      cases ring with
      | nil => exact absurd rfl hok.some_
      | cons a b => exact ⟨a, b, rfl⟩
    have e00 : PyData.eqv (.list (ring.map paceD)) (.list []) = false := by rw [er]; exact eqv_empty
    have hsm : ∀ x ∈ ring, giN ls x.1 < 2 ^ 110 ∧ taN ls x.1 < 2 ^ 110 := fun x hx => by
      obtain ⟨h0, h1⟩ := hok.rg x hx
      obtain ⟨gv, tk, g0, t0, gl, tl, eg, et⟩ := hsz x.1.toNat (by omega)
      unfold giN taN
      rw [eg, et, Int.toNat_natCast, Int.toNat_natCast]
      exact ⟨gl, tl⟩
    refine ⟨_, (pss_cons (ps_if (PW.pt (pw_or (pt_not (pt_truK (K := K) rfl (pe_callB (isi_K (K := K) rfl) (by rfl) T.n_isinstance PyProof.Rows.boot_isinstance (pa_cons (pv 0) (pa_cons (pe_bltn (v := .ty "list") (by rfl) T.n_list PyProof.Rows.boot_list rfl) pa_nil))) (fun _ => rfl))) (pw_or1 (pt_cmpR (op_eqK (K := K) rfl hu) (pv 0) (pe_lst pa_nil) (nomark _))))) (pss_one (ps_ret pe_bl)) pss_nil)
          (pss_cons (ps_set (i := 2) sc_l_ring_good.nd rfl (Or.inl rfl) (pe_lst pa_nil))
          (pss_cons (ps_set (i := 3) sc_l_ring_good.nd rfl (Or.inl rfl) pe_int)
          (pss_cons (ps_set (i := 4) sc_l_ring_good.nd rfl (Or.inl rfl) pe_int)
          (pss_cons (ps_for PassesOwn.leaving rfl (pi_listK (K := K) rfl (pv 0)) (pg_name (i := 5) sc_l_ring_good.nd rfl (Or.inl rfl)) (pss_cons (ps_if (PW.pt (pw_or (pt_not (pt_truK (K := K) rfl (pe_callB (isi_K (K := K) rfl) (by rfl) T.n_isinstance PyProof.Rows.boot_isinstance (pa_cons (pv 5) (pa_cons (pe_bltn (v := .ty "tuple") (by rfl) T.n_tuple PyProof.Rows.boot_tuple rfl) pa_nil))) (fun _ => rfl))) (pw_or (pt_cmpR (op_neK (K := K) rfl hu) (pe_callB (len_K (K := K) rfl) (by rfl) T.n_len PySem.boot_len (pa_cons (pv 5) pa_nil)) pe_int (nomark _)) (pw_or1 (pt_not (pt_truK (K := K) rfl (pe_callB (isi_K (K := K) rfl) (by rfl) T.n_isinstance PyProof.Rows.boot_isinstance (pa_cons (pe_ix (ix_K (K := K) rfl) (pv 5) pe_int (fun _ _ => rfl)) (pa_cons (pe_bltn (v := .ty "bool") (by rfl) T.n_bool PyProof.Rows.boot_bool rfl) pa_nil))) (fun _ => rfl))))))) (pss_one (ps_ret pe_bl)) pss_nil)
          (pss_cons (ps_if (PW.pt (pw_or (pt_not (pt_truK (K := K) rfl (pe_callB (isi_K (K := K) rfl) (by rfl) T.n_isinstance PyProof.Rows.boot_isinstance (pa_cons (pe_ix (ix_K (K := K) rfl) (pv 5) pe_int (fun _ _ => rfl)) (pa_cons (pe_bltn (v := .ty "int") (by rfl) T.n_int PyProof.Rows.boot_int rfl) pa_nil))) (fun _ => rfl))) (pw_or (pt_truK (K := K) rfl (pe_callB (isi_K (K := K) rfl) (by rfl) T.n_isinstance PyProof.Rows.boot_isinstance (pa_cons (pe_ix (ix_K (K := K) rfl) (pv 5) pe_int (fun _ _ => rfl)) (pa_cons (pe_bltn (v := .ty "bool") (by rfl) T.n_bool PyProof.Rows.boot_bool rfl) pa_nil))) (fun _ => rfl)) (pw_or1 (pt_not (pt_chain op_le op_lt pe_int (pe_ix (ix_K (K := K) rfl) (pv 5) pe_int (fun _ _ => rfl)) (pe_callB (len_K (K := K) rfl) (by rfl) T.n_len PySem.boot_len (pa_cons (pv 1) pa_nil)))))))) (pss_one (ps_ret pe_bl)) pss_nil)
          (pss_cons (ps_asg (pe_ix (ix_K (K := K) rfl) (pv 1) (pe_ix (ix_K (K := K) rfl) (pv 5) pe_int (fun _ _ => rfl)) (fun _ _ => rfl)) (pg_tupK (K := K) (n := 4) rfl rfl (pgs_cons (pg_name (i := 6) sc_l_ring_good.nd rfl (Or.inl rfl)) (pgs_cons (pg_name (i := 7) sc_l_ring_good.nd rfl (Or.inl rfl)) (pgs_cons (pg_name (i := 8) sc_l_ring_good.nd rfl (Or.inl rfl)) (pgs_cons (pg_name (i := 9) sc_l_ring_good.nd rfl (Or.inl rfl)) pgs_nil))))))
          (pss_one (ps_if (pt_truK (K := K) rfl (pe_ix (ix_K (K := K) rfl) (pv 5) pe_int (fun _ _ => rfl)) (fun _ => rfl)) (pss_cons (ps_expr (pe_bmK (K := K) rfl PySem.F.plainAttrs_list PySem.F.slot_list_append PySem.F.type_list_append mt_append (pv 2) (pa_cons (pe_tup (pa_cons (pv 6) (pa_cons (pv 7) pa_nil))) pa_nil)))
          (pss_cons (ps_set (i := 3) sc_l_ring_good.nd rfl (Or.inl rfl) (pe_op op_mulU (pv 3) (pv 8)))
          (pss_one (ps_set (i := 4) sc_l_ring_good.nd rfl (Or.inl rfl) (pe_op op_mulU (pv 4) (pv 9)))))) (pss_cons (ps_expr (pe_bmK (K := K) rfl PySem.F.plainAttrs_list PySem.F.slot_list_append PySem.F.type_list_append mt_append (pv 2) (pa_cons (pe_tup (pa_cons (pv 7) (pa_cons (pv 6) pa_nil))) pa_nil)))
          (pss_cons (ps_set (i := 3) sc_l_ring_good.nd rfl (Or.inl rfl) (pe_op op_mulU (pv 3) (pv 9)))
          (pss_one (ps_set (i := 4) sc_l_ring_good.nd rfl (Or.inl rfl) (pe_op op_mulU (pv 4) (pv 8))))))))))))
          (pss_cons (ps_for PassesOwn.leaving rfl (pi_range1 rfl T.n_range (pa_cons (pe_callB (len_K (K := K) rfl) (by rfl) T.n_len PySem.boot_len (pa_cons (pv 2) pa_nil)) pa_nil)) (pg_name (i := 10) sc_l_ring_good.nd rfl (Or.inl rfl)) (pss_one (ps_if (pt_cmpR (op_neK (K := K) rfl hu) (pe_ix (ix_K (K := K) rfl) (pe_ix (ix_K (K := K) rfl) (pv 2) (pv 10) (fun _ _ => rfl)) pe_int (fun _ _ => rfl)) (pe_ix (ix_K (K := K) rfl) (pe_ix (ix_K (K := K) rfl) (pv 2) (pe_op op_sub (pv 10) pe_int) (fun _ _ => rfl)) pe_int (fun _ _ => rfl)) (nomark _)) (pss_one (ps_ret pe_bl)) pss_nil)))
          (pss_one (ps_ret (pe_and (pe_cmpR (op_neK (K := K) rfl hu) (pv 3) (pv 4) (nomark _)) (pe_one (pe_cmpR (op_eqK (K := K) rfl hu) (pe_lenset rfl rfl (by rfl) T.n_len (by rfl) T.n_set (pa_cons (pe_comp rfl (cscope (x := "_law_pace") (zs := []) (ix := []) (defScope s_l_ring_good) ["_law_ring", "_law_lines_here", "_law_ends", "_law_top", "_law_bottom", "_law_pace", "_law_giver", "_law_taker", "_law_give", "_law_take", "_law_k"] rfl rfl (by decide +kernel)) (pi_listK (K := K) rfl (pv 0)) (fun cl C s H fp => ⟨(pg_name (i := 0) (show (["_law_pace"] : List Str).Nodup by decide +kernel) rfl (Or.inl rfl)), pif_nil, (pe_ix (ix_K (K := K) rfl) (pv 0) pe_int (fun _ _ => rfl))⟩)) pa_nil)) (pe_callB (len_K (K := K) rfl) (by rfl) T.n_len PySem.boot_len (pa_cons (pv 0) pa_nil)) (nomark _)))))))))))), ?_⟩
    try dsimp only [L2.cxX, L2.cxOf, L2.cxComp]
    walk_at "rds"
    refine ⟨Nat.zero_le _, fun e he => ?_⟩
    have s1 : Same H (upd H e (.lst [])) := same_new he
    have v1 : (upd H e (.lst [])) e = some (.lst []) := upd_same
    generalize upd H e (.lst []) = H1 at *
    have hrp1 := s1 _ _ hrp
    have hlp1 := s1 _ _ hlp
    have hP1 := hP.keep (H' := H1) fun b xs e => s1 _ _ e
    have hT1 := hT.keep (H' := H1) fun b xs e => s1 _ _ e
    walk_at "rds"
    refine Rd.eqUD (.lst (SqL.of hrp1) (rel_paces hP1)) (.lst (SqL.of v1) .nil) (lay_paces _) rfl (depthL_paces _) ?_
    rw [e00]
    walk_at "rds"
    refine ⟨Nat.zero_le _, fun en hen => ?_⟩
    have s3 : Same H1 (upd H1 en (.lst [])) := same_new hen
    have v3 : (upd H1 en (.lst [])) en = some (.lst []) := upd_same
    generalize upd H1 en (.lst []) = H3 at *
    have hen1 : H1 en = none := hen
    have s13 := s3
    have hrp3 := s13 _ _ hrp1
    walk_at "rds"
    refine for_walk (walks_lst (SqL.of hrp1)) (fun i σ H' => Same H1 H' ∧ ∃ (a6 a7 a8 a9 a10 : Option V) (es : List V), σ = [some (.ref rp), some (.ref lp), some (.ref en), some (.int (prN (giN ls) (taN ls) (ring.take i) : Nat)), some (.int (prN (taN ls) (giN ls) (ring.take i) : Nat)), a6, a7, a8, a9, a10, none] ∧ H' en = some (.lst es) ∧ EndsAt ls H' es (ring.take i)) ⟨s13, _, _, _, _, _, [], rfl, v3, .nil⟩ (fun i σ H' h => h.1) ?_ ?_
    · rintro i σ H4 hi ⟨s4, a6, a7, a8, a9, a10, es, rfl, hen4, hE⟩
      have hir : i < ring.length := by omega
      obtain ⟨t, et, ht1⟩ := pace_at hP1 (List.getElem?_eq_getElem hir)
      have ev : vs'.getD i .non = .ref t := by rw [List.getD, et]; rfl
      rw [ev]
      have ht4 := s4 _ _ ht1
      have hxm := List.getElem_mem hir
      have etk := List.take_succ_eq_append_getElem hir
      rw [etk, prN_app, prN_app]
      generalize ring[i] = x at *
      obtain ⟨xb, xa⟩ := x
      obtain ⟨x1, x2⟩ := hok.rg _ hxm
      dsimp only at x1 x2
      have xl : xb.toNat < ls.length := by omega
      obtain ⟨u, eu, hu1⟩ := hT1.at (List.getElem?_eq_getElem xl)
      have at1 : atI bs xb = some (.ref u) := by
        have : xb = ((xb.toNat : Nat) : Int) := by omega
        rw [this]
        exact atI_nat eu
      have hu4 := s4 _ _ hu1
      rw [← getD_of (d := dB) xl] at hu4
      obtain ⟨gv, tk, g0, t0, gl, tl, eg, et'⟩ := hsz xb.toNat xl
      have k1 : giN ls xb = gv := by unfold giN; rw [eg, Int.toNat_natCast]
      have k2 : taN ls xb = tk := by unfold taN; rw [et', Int.toNat_natCast]
      have k3 : gvI ls xb = (ls.getD xb.toNat dB).giver := rfl
      have k4 : tkI ls xb = (ls.getD xb.toNat dB).taker := rfl
      have hti := prN_lt (ps := ring.take i) (fun y hy => hsm y (List.mem_of_mem_take hy))
      have hbi := prN_lt (gi := taN ls) (ta := giN ls) (ps := ring.take i) (fun y hy => (hsm y (List.mem_of_mem_take hy)).symm)
      have hlt : (ring.take i).length ≤ 60 := by rw [List.length_take]; omega
      have hel := hE.length
      have hm1 : ∀ {x : Nat}, x < 2 ^ (110 * (ring.take i).length + 1) → IntMulOk (x : Int) (gv : Int) := fun h => mulN h gl (by omega)
      have hm2 : ∀ {x : Nat}, x < 2 ^ (110 * (ring.take i).length + 1) → IntMulOk (x : Int) (tk : Int) := fun h => mulN h tl (by omega)
      have mt1 := hm1 hti
      have mt2 := hm2 hti
      have mb1 := hm1 hbi
      have mb2 := hm2 hbi
      have hps : ∀ al : Bool, prN (giN ls) (taN ls) [(xb, al)] = (if al = true then gv else tk) ∧ prN (taN ls) (giN ls) [(xb, al)] = (if al = true then tk else gv) := fun al => by
        constructor
        · show (if al = true then giN ls xb else taN ls xb) * 1 = _
          rw [k1, k2, Nat.mul_one]
        · show (if al = true then taN ls xb else giN ls xb) * 1 = _
          rw [k1, k2, Nat.mul_one]
      rw [(hps xa).1, (hps xa).2]
      generalize prN (giN ls) (taN ls) (ring.take i) = tp at *
      generalize prN (taN ls) (giN ls) (ring.take i) = bt at *
      generalize ls.getD xb.toNat dB = l at *
      dsimp only [B5.v4] at hu4
      rw [eg, et'] at hu4
      have hlp4 := s4 _ _ hlp1
      have hsl4 := SqL.of (K := K) hlp4
      have hez : es.length < sizeLine := small1000 (by omega)
      walk_at "rds"
      refine Rd.gtup (.of hu4) rfl ?_
      cases xa with
      | true =>
        walk_at "rds"
        refine ⟨by show 2 ≤ sizeLine; decide, fun u2 hu2 => ?_⟩
        have s6 : Same H4 (upd H4 u2 (.tup [V.int l.giver, V.int l.taker])) := same_new hu2
        have v6 : (upd H4 u2 (.tup [V.int l.giver, V.int l.taker])) u2 = some (.tup [V.int l.giver, V.int l.taker]) := upd_same
        generalize upd H4 u2 (.tup [V.int l.giver, V.int l.taker]) = H6 at *
        have hen6 := s6 _ _ hen4
        walk_at "rds"
        have fr7 : Frame [en] H6 (upd H6 en (.lst (es ++ [.ref u2]))) := frame_upd (by simp) hen6 (by intro _ z; cases z)
        refine ⟨(s4.trans s6).new hen1, _, _, _, _, _, es ++ [.ref u2], rfl, upd_same, ?_⟩
        · exact ((hE.keep fun b xs e => s6 _ _ e).keep fr7.tups).snoc (x := (xb, true)) (fr7.tups _ _ (show H6 u2 = some (.tup [V.int (gvI ls xb), V.int (tkI ls xb)]) by rw [k3, k4]; exact v6))
      | false =>
        walk_at "rds"
        refine ⟨by show 2 ≤ sizeLine; decide, fun u2 hu2 => ?_⟩
        have s6 : Same H4 (upd H4 u2 (.tup [V.int l.taker, V.int l.giver])) := same_new hu2
        have v6 : (upd H4 u2 (.tup [V.int l.taker, V.int l.giver])) u2 = some (.tup [V.int l.taker, V.int l.giver]) := upd_same
        generalize upd H4 u2 (.tup [V.int l.taker, V.int l.giver]) = H6 at *
        have hen6 := s6 _ _ hen4
        walk_at "rds"
        have fr7 : Frame [en] H6 (upd H6 en (.lst (es ++ [.ref u2]))) := frame_upd (by simp) hen6 (by intro _ z; cases z)
        refine ⟨(s4.trans s6).new hen1, _, _, _, _, _, es ++ [.ref u2], rfl, upd_same, ?_⟩
        · exact ((hE.keep fun b xs e => s6 _ _ e).keep fr7.tups).snoc (x := (xb, false)) (fr7.tups _ _ (show H6 u2 = some (.tup [V.int (tkI ls xb), V.int (gvI ls xb)]) by rw [k3, k4]; exact v6))
    · rintro σ H4 ⟨s4, a6, a7, a8, a9, a10, es, rfl, hen4, hE⟩
      rw [show vs'.length = ring.length from hpl, List.take_length] at hE ⊢
      have hel := hE.length
      have hse4 := SqL.of (K := K) hen4
      obtain ⟨wa, hw⟩ := hok.walk
      have hodd := hok.odd
      have hrp0 : 0 < ring.length := by rw [er]; simp
      walk_at "rds"
      refine for_range (n := es.length) (fun i σ H' => H' = H4 ∧ ∃ a11 : Option V, σ = [some (.ref rp), some (.ref lp), some (.ref en), some (.int (prN (giN ls) (taN ls) ring : Nat)), some (.int (prN (taN ls) (giN ls) ring : Nat)), a6, a7, a8, a9, a10, a11]) ⟨rfl, _, rfl⟩ ?_ ?_
      · rintro i σ H' hi ⟨rfl, a11, rfl⟩
        have hir : i < ring.length := by omega
        obtain ⟨t1, e1, h1⟩ := hE.at (List.getElem?_eq_getElem hir)
        have at1 : atI es (0 + (i : Int)) = some (.ref t1) := by rw [Int.zero_add]; exact atI_nat e1
        obtain ⟨y, t2, at2, h2, hy⟩ : ∃ (y : Int × Bool) (t2 : Addr), atI es (0 + (i : Int) - 1) = some (.ref t2) ∧ H' t2 = some (.tup [.int (fromOf (gvI ls) (tkI ls) y), .int (toOf (gvI ls) (tkI ls) y)]) ∧ toOf (gvI ls) (tkI ls) y = fromOf (gvI ls) (tkI ls) ring[i] := by
          rcases Nat.eq_zero_or_pos i with z | z
          · subst z
            have hl : ring.length - 1 < ring.length := by omega
            obtain ⟨t2, e2, h2⟩ := hE.at (List.getElem?_eq_getElem hl)
            obtain ⟨c1, c2⟩ := hw.close (List.getElem?_eq_getElem hir) (List.getElem?_eq_getElem hl)
            refine ⟨_, t2, ?_, h2, c2.trans c1.symm⟩
            have e3 : (0 + ((0 : Nat) : Int) - 1) = -1 := by omega
            rw [e3]
            exact atI_last (by rw [hel]; exact e2)
          · have hl : i - 1 < ring.length := by omega
            obtain ⟨t2, e2, h2⟩ := hE.at (List.getElem?_eq_getElem hl)
            refine ⟨_, t2, ?_, h2, hw.next (i := i - 1) (List.getElem?_eq_getElem hl) (by rw [Nat.sub_add_cancel z]; exact List.getElem?_eq_getElem hir)⟩
            have e3 : (0 + (i : Int) - 1) = ((i - 1 : Nat) : Int) := by omega
            rw [e3]
            exact atI_nat e2
        rw [hy] at h2
        walk_at "rds"
        exact ⟨rfl, _, rfl⟩
      · rintro σ H' ⟨rfl, a11, rfl⟩
        have hd : decide ((prN (giN ls) (taN ls) ring : Int) = (prN (taN ls) (giN ls) ring : Int)) = false := decide_eq_false fun z => hodd (Int.ofNat.inj z)
        have hrp4 := s4 _ _ hrp1
        have hP4 := hP1.keep (H' := H') fun b xs e => s4 _ _ e
        walk_at "rds"
        refine Rd.lset ?_
        walk_at "rds"
        refine comp_walk (walks_lst (SqL.of hrp4)) (small1000 (by omega)) (fun _ => true) (fun i => .int (ring.getD i (0, false)).1) (fun i H2 Kc hi sm k => ?_) (fun i H2 Kc hi _ sm k => ?_) (fun c H2 hc sm hc' => ?_)
        · walk_at "rds"
          exact k H2 (Same.refl H2)
        · have hir : i < ring.length := by omega
          obtain ⟨t, et, ht1⟩ := pace_at hP4 (List.getElem?_eq_getElem hir)
          have ev : vs'.getD i .non = .ref t := by rw [List.getD, et]; rfl
          rw [ev]
          rw [getD_of hir] at k
          have ht2 := sm _ _ ht1
          generalize ring[i] = x at *
          walk_at "rds"
          exact k H2 (Same.refl H2)
        · have hc2 : H2 c = some (.lst ((ring.map (·.1)).map V.int)) := by
            rw [hc', List.filter_eq_self.mpr (by simp)]
            refine congrArg (fun z => some (HO.lst z)) ?_
            refine List.ext_getElem (by simp; omega) fun j h1 h2 => ?_
            have : j < ring.length := by simpa using h2
            simp [List.getD, this]
          have hrp5 := sm _ _ hrp4
          walk_at "rds"
          refine ⟨_, rfl, c, ring.map (·.1), rfl, SqL.of hc2, by rw [List.length_map]; omega, fun n hn => ?_⟩
          have hn' := hn hok.nd
          rw [List.length_map] at hn'
          subst hn'
          walk_at "rds"
          have hde : decide ((ring.length : Int) = (vs'.length : Int)) = true := by rw [hpl]; simp
          rw [hde]
          exact q _ ((s1.trans s4).trans sm)
end
def sp_l_rates_good {K : PySem.W.Frag} {mg : Str → Option Value} (T : Tp K mg) : Sp := fun vs H Q _ => ∃ (lp r : Addr) (bs : List V) (ls : List B5) (n : Nat) (rs : List Int), vs = [.ref r, .ref lp, .int n] ∧ H r = some (.lst (rs.map V.int)) ∧ H lp = some (.lst bs) ∧ Tups4 H bs ls ∧ Between ls n ∧ n ≤ 60 ∧ SizedL ls ∧ Rated ls n rs ∧ (∀ j < ls.length, chgI rs (ls.getD j dB) = 0) ∧ LeastOn ls n rs ∧
  ∀ H' : Hp, Same H H' → Q (.bl true) H'
section
variable {P : Program} {w : World} {K : PySem.W.Frag} {mg : Str → Option Value} {base : Heap}
theorem ok_l_rates_good (T : Tp K mg) : FnOk P w K mg base (CXX P w) 2 T.f_l_rates_good T.d_l_rates_good ["_law_rates", "_law_lines_here", "_law_many"] (sp_l_rates_good T) := by
  have G_l_reached : FnOk P w K mg base (CXX P w) 1 T.f_l_reached T.d_l_reached ["_law_lines_here", "_law_first", "_law_many"] (sp_l_reached T) := (ok_l_reached T).mono (by decide)
  have G_l_divisor : FnOk P w K mg base (CXX P w) 1 T.f_l_divisor T.d_l_divisor ["_law_one", "_law_other"] (sp_l_divisor T) := (ok_l_divisor T).mono (by decide)
  refine T.F_l_rates_good.okX sc_l_rates_good (fun vs H Q E h => ?_) (fun cdv A outer s H vs Q E hr h => ?_)
  · obtain ⟨lp, r, bs, ls, n, rs, rfl, _⟩ := h
    rfl
  · have hu := hr.units
    obtain ⟨lp, r, bs, ls, n, rs, rfl, hre, hlp, hT, hbt, hn, hsz, hrd, hch, hle, q⟩ := h
    have hbl := hT.length
    have hrl := hrd.len
    have hrl' : ((rs.map V.int).length : Int) = (n : Int) := by simp [hrl]
    refine ⟨_, (pss_cons (ps_if (PW.pt (pw_or (pt_not (pt_truK (K := K) rfl (pe_callB (isi_K (K := K) rfl) (by rfl) T.n_isinstance PyProof.Rows.boot_isinstance (pa_cons (pv 0) (pa_cons (pe_bltn (v := .ty "list") (by rfl) T.n_list PyProof.Rows.boot_list rfl) pa_nil))) (fun _ => rfl))) (pw_or1 (pt_cmpR (op_neK (K := K) rfl hu) (pe_callB (len_K (K := K) rfl) (by rfl) T.n_len PySem.boot_len (pa_cons (pv 0) pa_nil)) (pv 2) (nomark _))))) (pss_one (ps_ret pe_bl)) pss_nil)
          (pss_cons (ps_for PassesOwn.leaving rfl (pi_listK (K := K) rfl (pv 0)) (pg_name (i := 3) sc_l_rates_good.nd rfl (Or.inl rfl)) (pss_one (ps_if (PW.pt (pw_or (pt_not (pt_truK (K := K) rfl (pe_callB (isi_K (K := K) rfl) (by rfl) T.n_isinstance PyProof.Rows.boot_isinstance (pa_cons (pv 3) (pa_cons (pe_bltn (v := .ty "int") (by rfl) T.n_int PyProof.Rows.boot_int rfl) pa_nil))) (fun _ => rfl))) (pw_or (pt_truK (K := K) rfl (pe_callB (isi_K (K := K) rfl) (by rfl) T.n_isinstance PyProof.Rows.boot_isinstance (pa_cons (pv 3) (pa_cons (pe_bltn (v := .ty "bool") (by rfl) T.n_bool PyProof.Rows.boot_bool rfl) pa_nil))) (fun _ => rfl)) (pw_or1 (pt_cmpR op_lt (pv 3) pe_int (nomark _)))))) (pss_one (ps_ret pe_bl)) pss_nil)))
          (pss_cons (ps_for PassesOwn.leaving rfl (pi_listK (K := K) rfl (pv 1)) (pg_tupK (K := K) (n := 4) rfl rfl (pgs_cons (pg_name (i := 4) sc_l_rates_good.nd rfl (Or.inl rfl)) (pgs_cons (pg_name (i := 5) sc_l_rates_good.nd rfl (Or.inl rfl)) (pgs_cons (pg_name (i := 6) sc_l_rates_good.nd rfl (Or.inl rfl)) (pgs_cons (pg_name (i := 7) sc_l_rates_good.nd rfl (Or.inl rfl)) pgs_nil))))) (pss_one (ps_if (pt_cmpR (op_neK (K := K) rfl hu) (pe_op op_mulU (pv 6) (pe_ix (ix_K (K := K) rfl) (pv 0) (pv 4) (fun _ _ => rfl))) (pe_op op_mulU (pv 7) (pe_ix (ix_K (K := K) rfl) (pv 0) (pv 5) (fun _ _ => rfl))) (nomark _)) (pss_one (ps_ret pe_bl)) pss_nil)))
          (pss_cons (ps_for PassesOwn.leaving rfl (pi_range1 rfl T.n_range (pa_cons (pv 2) pa_nil)) (pg_name (i := 8) sc_l_rates_good.nd rfl (Or.inl rfl)) (pss_cons (ps_set (i := 9) sc_l_rates_good.nd rfl (Or.inl rfl) pe_int)
          (pss_cons (ps_for PassesOwn.leaving rfl (pi_listK (K := K) rfl (pe_call G_l_reached hr rfl T.m_l_reached T.F_l_reached.kp T.b_l_reached .nil pass_on (pa_cons (pv 1) (pa_cons (pv 8) (pa_cons (pv 2) pa_nil))))) (pg_name (i := 10) sc_l_rates_good.nd rfl (Or.inl rfl)) (pss_one (ps_set (i := 9) sc_l_rates_good.nd rfl (Or.inl rfl) (pe_call G_l_divisor hr rfl T.m_l_divisor T.F_l_divisor.kp T.b_l_divisor .nil pass_on (pa_cons (pv 9) (pa_cons (pe_ix (ix_K (K := K) rfl) (pv 0) (pv 10) (fun _ _ => rfl)) pa_nil))))))
          (pss_one (ps_if (pt_cmpR (op_neK (K := K) rfl hu) (pv 9) pe_int (nomark _)) (pss_one (ps_ret pe_bl)) pss_nil)))))
          (pss_one (ps_ret pe_bl)))))), ?_⟩
    try dsimp only [L2.cxX, L2.cxOf, L2.cxComp]
    walk_at "rds"
    refine for_walk (walks_lst (SqL.of hre)) (fun i σ H' => H' = H ∧ ∃ a1 : Option V, σ = [some (.ref r), some (.ref lp), some (.int n), a1, none, none, none, none, none, none, none]) ⟨rfl, _, rfl⟩ (fun i σ H' h => h.1 ▸ Same.refl H) ?_ ?_
    · rintro i σ H' hi ⟨rfl, a1, rfl⟩
      have hil : i < rs.length := by rw [List.length_map] at hi; exact hi
      have ev : (rs.map V.int).getD i .non = V.int rs[i] := by simp [List.getD, hil]
      rw [ev]
      obtain ⟨k, ek, k0, k1⟩ := hrd.pos _ (List.getElem_mem hil)
      rw [ek]
      have kk : ¬ ((k : Int) < 1) := by omega
      walk_at "rds"
      exact ⟨rfl, _, rfl⟩
    · rintro σ H' ⟨rfl, a1, rfl⟩
      walk_at "rds"
      refine for_walk (walks_lst (SqL.of hlp)) (fun i σ H2 => H2 = H' ∧ ∃ a5 a6 a7 a8 : Option V, σ = [some (.ref r), some (.ref lp), some (.int n), a1, a5, a6, a7, a8, none, none, none]) ⟨rfl, _, _, _, _, rfl⟩ (fun i σ H2 h => h.1 ▸ Same.refl H') ?_ ?_
      · rintro i σ H2 hi ⟨rfl, a5, a6, a7, a8, rfl⟩
        have hil : i < ls.length := by omega
        obtain ⟨u, eu, hu1⟩ := hT.getD hil
        rw [eu]
        obtain ⟨b1, b2, b3, b4⟩ := hbt.at hil
        obtain ⟨gv, tk, g0, t0, g1, t1, eg, et⟩ := hsz i hil
        have hc := hch i hil
        unfold chgI at hc
        obtain ⟨kg, ekg, kg0, kg1⟩ := rate_at hrd b1 b2
        obtain ⟨kt, ekt, kt0, kt1⟩ := rate_at hrd b3 b4
        have at1 := at_ints (ns := rs) b1 (by omega)
        have at2 := at_ints (ns := rs) b3 (by omega)
        rw [ekg] at at1 hc
        rw [ekt] at at2 hc
        have m1 : IntMulOk (ls.getD i dB).give (kg : Int) := by rw [eg]; exact mulN g1 kg1 (by decide)
        have m2 : IntMulOk (ls.getD i dB).take (kt : Int) := by rw [et]; exact mulN t1 kt1 (by decide)
        generalize ls.getD i dB = b at *
        have hsr := SqL.of (K := K) hre
        have e : b.give * (kg : Int) = b.take * (kt : Int) := by
          rw [Int.mul_comm b.give, Int.mul_comm b.take]; omega
        walk_at "rds"
        refine Rd.gtup (.of (show H2 u = some (.tup [.int b.giver, .int b.taker, .int b.give, .int b.take]) from hu1)) rfl ?_
        walk_at "rds"
        exact ⟨rfl, _, _, _, _, rfl⟩
      · rintro σ H2 ⟨rfl, a5, a6, a7, a8, rfl⟩
        walk_at "rds"
        refine for_range (n := n) (fun i σ H3 => Same H2 H3 ∧ ∃ a10 a11 a12 : Option V, σ = [some (.ref r), some (.ref lp), some (.int n), a1, a5, a6, a7, a8, a10, a11, a12]) ⟨Same.refl H2, _, _, _, rfl⟩ ?_ ?_
        · rintro i σ H3 hi ⟨s3, a10, a11, a12, rfl⟩
          walk_at "rds"
          refine ⟨lp, bs, ls, 0 + (i : Int), n, rfl, s3 _ _ hlp, hT.keep (fun b xs e => s3 _ _ e), hbt, hn, by omega, by omega, ?_⟩
          intro y H4 ys hy s4 hy4 hfy hyr hyc
          have s24 := s3.trans s4
          have hre4 := s24 _ _ hre
          have hone := hle _ ys (by omega) (by omega) hfy hyc
          walk_at "rds"
          refine for_walk (walks_lst (SqL.of hy4)) (fun j σ H5 => H5 = H4 ∧ ∃ a12 : Option V, σ = [some (.ref r), some (.ref lp), some (.int n), a1, a5, a6, a7, a8, some (.int (0 + (i : Int))), some (.int (gcdL rs (ys.take j) : Nat)), a12]) ⟨rfl, _, rfl⟩ (fun i σ H2 h => h.1 ▸ Same.refl H4) ?_ ?_
          · rintro j σ H5 hj ⟨rfl, a12, rfl⟩
            have hjl : j < ys.length := by rw [List.length_map] at hj; exact hj
            have ev : (ys.map V.int).getD j .non = V.int ys[j] := by simp [List.getD, hjl]
            rw [ev]
            obtain ⟨w0, w1⟩ := hyr _ (List.getElem_mem hjl)
            have ets : gcdL rs (ys.take (j + 1)) = Nat.gcd (gcdL rs (ys.take j)) (rs.getD ys[j].toNat 0).toNat := by
              rw [List.take_succ_eq_append_getElem hjl, gcdL_snoc]
            rw [ets]
            generalize ys[j] = w at *
            obtain ⟨k, ek, k0, k1⟩ := rate_at hrd w0 w1
            have at1 := at_ints (ns := rs) w0 (by omega)
            rw [ek] at at1
            rw [ek, Int.toNat_natCast]
            have hsr := SqL.of (K := K) hre4
            walk_at "rds"
            refine ⟨_, _, rfl, ?_⟩
            walk_at "rds"
            exact ⟨rfl, _, rfl⟩
          · rintro σ H5 ⟨rfl, a12, rfl⟩
            rw [List.take_of_length_le (by rw [List.length_map]; exact Nat.le_refl _), hone]
            walk_at "rds"
            exact ⟨s24, _, _, _, rfl⟩
        · rintro σ H3 ⟨s3, a10, a11, a12, rfl⟩
          walk_at "rds"
          exact q H3 s3
end
def sp_is_name {K : PySem.W.Frag} {mg : Str → Option Value} (T : Tp K mg) : Sp := fun vs H Q _ => ∃ x : Str, vs = [.str x] ∧ x.length ≤ sizeLine ∧ ∀ H', Same H H' → Q (.bl (isName x)) H'
def letter (c : Nat) : Bool := decide (97 ≤ c) && decide (c ≤ 122)
theorem letter_lt (c d : Nat) : decide ((⟨#[c]⟩ : Str).cps.toList < (⟨#[d]⟩ : Str).cps.toList) = decide (c < d) := by
  show decide ([c] < [d]) = decide (c < d)
  have e : ([c] < [d]) ↔ c < d := by
    constructor
    · intro h
      cases h with
      | rel h => exact h
      | cons h => cases h
    · exact fun h => .rel h
  by_cases h : c < d
  · rw [decide_eq_true h, decide_eq_true (e.mpr h)]
  · rw [decide_eq_false h, decide_eq_false (fun z => h (e.mp z))]
theorem str_a : ("a" : Str) = ⟨#[97]⟩ := by decide +kernel
theorem str_z : ("z" : Str) = ⟨#[122]⟩ := by decide +kernel
theorem letters_eq (x : Str) : (((List.range x.cps.size).map fun i => letter (x.cps.getD i 0)).all id) = x.cps.toList.all letter := by
  rw [List.all_map, Bool.eq_iff_iff, List.all_eq_true, List.all_eq_true]
  constructor
  · intro h c hc
    obtain ⟨i, hi, rfl⟩ := List.getElem_of_mem hc
    have hi' : i < x.cps.size := by simpa using hi
    have := h i (List.mem_range.mpr hi')
    simpa [Array.getD, hi'] using this
  · intro h i hi
    have hi' := List.mem_range.mp hi
    have := h x.cps[i] (by simp)
    simpa [Array.getD, hi'] using this
theorem isName_eq (x : Str) : isName x = (decide (1 ≤ x.length) && decide (x.length ≤ 8) && x.cps.toList.all letter) := rfl
section
variable {P : Program} {w : World} {K : PySem.W.Frag} {mg : Str → Option Value} {base : Heap}
theorem ok_is_name (T : Tp K mg) : FnOk P w K mg base (CXX P w) 1 T.f_is_name T.d_is_name ["thing"] (sp_is_name T) := by
  refine T.F_is_name.okX sc_is_name (fun vs H Q E h => ?_) (fun cdv A outer s H vs Q E hr h => ?_)
  · obtain ⟨x, rfl, _⟩ := h
    rfl
  · have hu := hr.units
    obtain ⟨x, rfl, hx, q⟩ := h
    refine ⟨_, (pss_cons (ps_if (pt_not (pt_truK (K := K) rfl (pe_callB (isi_K (K := K) rfl) (by rfl) T.n_isinstance PyProof.Rows.boot_isinstance (pa_cons (pv 0) (pa_cons (pe_bltn (v := .ty "str") (by rfl) T.n_str PyProof.Rows.boot_str rfl) pa_nil))) (fun _ => rfl))) (pss_one (ps_ret pe_bl)) pss_nil)
          (pss_cons (ps_if (PW.pt (pw_or (pt_cmpR op_lt (pe_callB (len_K (K := K) rfl) (by rfl) T.n_len PySem.boot_len (pa_cons (pv 0) pa_nil)) pe_int (nomark _)) (pw_or1 (pt_cmpR op_gt (pe_callB (len_K (K := K) rfl) (by rfl) T.n_len PySem.boot_len (pa_cons (pv 0) pa_nil)) (pe_glob (v := .int 8) rfl T.c_MOST_LETTERS ⟨_, rfl⟩) (nomark _))))) (pss_one (ps_ret pe_bl)) pss_nil)
          (pss_one (ps_ret (pe_callB (all_K (K := K) rfl rfl) (by rfl) T.n_all PyProof.Rows.boot_all (pa_cons (pe_comp rfl (cscope (x := "sign") (zs := []) (ix := []) (defScope s_is_name) ["thing"] rfl rfl (by decide +kernel)) (pi_str (pv 0)) (fun cl C s H fp => ⟨(pg_name (i := 0) (show (["sign"] : List Str).Nodup by decide +kernel) rfl (Or.inl rfl)), pif_nil, (pe_chain op_le_str op_le_str pe_str (pv 0) pe_str)⟩)) pa_nil)))))), ?_⟩
    try dsimp only [L2.cxX, L2.cxOf, L2.cxComp]
    walk_at "rds"
    refine ite2 (fun c => ?_) (fun c => ?_)
    · have c' : ¬ 1 ≤ x.length := by simp at c; omega
      walk_at "rds"
      have e : isName x = false := by rw [isName_eq, decide_eq_false c']; rfl
      rw [← e]
      exact q H (Same.refl H)
    · have c' : 1 ≤ x.length := by simp at c; omega
      walk_at "rds"
      refine ite2 (fun d => ?_) (fun d => ?_)
      · have d' : ¬ x.length ≤ 8 := by simp at d; omega
        walk_at "rds"
        have e : isName x = false := by rw [isName_eq, decide_eq_false d', Bool.and_false]; rfl
        rw [← e]
        exact q H (Same.refl H)
      · have d' : x.length ≤ 8 := by simp at d; omega
        have hn : x.cps.size < sizeLine := small1000 (by have : x.cps.size = x.length := rfl; omega)
        walk_at "rds"
        refine comp_walk walks_str hn (fun _ => true) (fun i => .bl (letter (x.cps.getD i 0))) (fun i H' Kc hi sm k => ?_) (fun i H' Kc hi _ sm k => ?_) (fun p H' hp sm hl => ?_)
        · walk_at "rds"
          exact k H' (Same.refl H')
        · walk_at "rds"
          rw [str_a, str_z, letter_lt]
          generalize x.cps.getD i 0 = cc at k ⊢
          refine ite2 (fun z => ?_) (fun z => ?_)
          · walk_at "rds"
            have e : (!decide (122 < cc)) = letter cc := by
              have z' : 97 ≤ cc := by simpa using z
              unfold letter
              rw [decide_eq_true z', Bool.true_and]
              by_cases y : cc ≤ 122
              · rw [decide_eq_true y, decide_eq_false (by omega)]; rfl
              · rw [decide_eq_false y, decide_eq_true (by omega)]; rfl
            rw [letter_lt, e]
            exact k H' (Same.refl H')
          · have e : false = letter cc := by
              have z' : ¬ 97 ≤ cc := by simpa using z
              unfold letter
              rw [decide_eq_false z']; rfl
            rw [e]
            exact k H' (Same.refl H')
        · have hl' : H' p = some (.lst (((List.range x.cps.size).map fun i => letter (x.cps.getD i 0)).map V.bl)) := by
            rw [hl, List.filter_eq_self.mpr (by simp), List.map_map]; rfl
          walk_at "rds"
          rw [letters_eq]
          have e : x.cps.toList.all letter = isName x := by rw [isName_eq, decide_eq_true c', decide_eq_true d']; rfl
          rw [e]
          exact q H' sm
end
def sp_Hall_work {K : PySem.W.Frag} {mg : Str → Option Value} (T : Tp K mg) : Sp := fun vs H Q E => ∃ (p : Addr) (x : Str) (hl : HM) (fp : List Addr), vs = [.ref p, .str x] ∧ HallAt T H p hl fp ∧ x.length ≤ sizeLine ∧ hl.names.length ≤ 1000 ∧
  (isName x = false → ∀ H', Same H H' → E (.ref T.X_NoName) none H') ∧ (isName x = true → x ∈ hl.names → ∀ H', Same H H' → E (.ref T.X_Twice) none H') ∧
  (isName x = true → x ∉ hl.names → 30 ≤ hl.names.length → ∀ H', Same H H' → E (.ref T.X_TooMuch) none H') ∧
  (isName x = true → x ∉ hl.names → hl.names.length < 30 → ∀ (H' : Hp) (fp' : List Addr), HallAt T H' p ⟨hl.names ++ [x], hl.belts⟩ fp' → Frame fp H H' → Grows fp fp' H → Q (.int hl.names.length) H')
theorem rd_Hall_work {K : PySem.W.Frag} {mg : Str → Option Value} {T : Tp K mg} {H : Hp} {Q : VK} {E : XK} {p : Addr} {x : Str} {hl : HM} {fp : List Addr} (h : HallAt T H p hl fp) (hn : isName x = true) (hx : x ∉ hl.names) (hlen : hl.names.length < 30)
    (q : ∀ (H' : Hp) (fp' : List Addr), HallAt T H' p ⟨hl.names ++ [x], hl.belts⟩ fp' → Frame fp H H' → Grows fp fp' H → Q (.int hl.names.length) H') : sp_Hall_work T (.ref p :: ([.str x] ++ [])) H Q E := by
  have l8 : x.length ≤ sizeLine := by
    have : x.length ≤ 8 := by
      have e := hn
      unfold isName at e
      simp only [Bool.and_eq_true, decide_eq_true_eq] at e
      exact e.1.2
    exact Nat.le_of_lt (small1000 (by omega))
  exact ⟨p, x, hl, fp, rfl, h, l8, by omega, fun z => (by rw [hn] at z; cases z), fun _ z => absurd z hx, fun _ _ z => absurd z (by omega), fun _ _ _ => q⟩
section
variable {P : Program} {w : World} {K : PySem.W.Frag} {mg : Str → Option Value} {base : Heap}
theorem ok_Hall_work (T : Tp K mg) : FnOk P w K mg base (CXX P w) 2 T.f_Hall_work T.d_Hall_work ["self", "name"] (sp_Hall_work T) := by
  have G_is_name : FnOk P w K mg base (CXX P w) 1 T.f_is_name T.d_is_name ["thing"] (sp_is_name T) := (ok_is_name T).mono (by decide)
  have cl_Hall := T.cl_Hall
  have na_Hall := T.na_Hall
  refine T.F_Hall_work.okX sc_Hall_work (fun vs H Q E h => ?_) (fun cdv A outer s H vs Q E hr h => ?_)
  · obtain ⟨p, x, hl, fp, rfl, _⟩ := h
    rfl
  · have hu := hr.units
    obtain ⟨p, x, hl, fp, rfl, hh, hx, hz, e1, e2, e3, q⟩ := h
    obtain ⟨dx, a, b, bs, rfl, h1, h2, h3, h4, nab, h6⟩ := id hh
    have npa : p ≠ a := ne_of h1 h3 (by intro z; cases z)
    have nda : dx ≠ a := ne_of h2 h3 (by intro z; cases z)
    refine ⟨_, (pss_cons (ps_if (pt_not (pt_truK (K := K) rfl (pe_call G_is_name hr rfl T.m_is_name T.F_is_name.kp T.b_is_name .nil pass_on (pa_cons (pv 1) pa_nil)) (fun _ => rfl))) (pss_one (ps_raiseK T.gx_NoName T.ex_NoName PySem.F.excBase_ValueError rfl (pa_cons pe_str pa_nil))) pss_nil)
          (pss_cons (ps_if (pt_cmpR (op_dIn hu) (pv 1) (pe_fldK (K := K) rfl (pv 0) rfl) (by with_unfolding_all rfl)) (pss_one (ps_raiseK T.gx_Twice T.ex_Twice PySem.F.excBase_ValueError rfl (pa_cons pe_str pa_nil))) pss_nil)
          (pss_cons (ps_if (pt_cmpR op_ge (pe_callB len_D (by rfl) T.n_len PySem.boot_len (pa_cons (pe_fldK (K := K) rfl (pv 0) rfl) pa_nil)) (pe_glob (v := .int 30) rfl T.c_MOST_WORKS ⟨_, rfl⟩) (nomark _)) (pss_one (ps_raiseK T.gx_TooMuch T.ex_TooMuch PySem.F.excBase_ValueError rfl (pa_cons pe_str pa_nil))) pss_nil)
          (pss_cons (ps_set (i := 2) sc_Hall_work.nd rfl (Or.inl rfl) (pe_callB len_D (by rfl) T.n_len PySem.boot_len (pa_cons (pe_fldK (K := K) rfl (pv 0) rfl) pa_nil)))
          (pss_cons (ps_asg (pv 2) (pg_sub (pe_fldK (K := K) rfl (pv 0) rfl) (pv 1) (set_dict hu)))
          (pss_one (ps_ret (pv 2)))))))), ?_⟩
    try dsimp only [L2.cxX, L2.cxOf, L2.cxComp]
    walk_at "rds"
    refine ⟨x, rfl, hx, fun H1 sm1 => ?_⟩
    have g1 := sm1 _ _ h1
    have g3 := sm1 _ _ h3
    have hz' : (numsOf hl.names).length < sizeLine := small1000 (by rw [numsOf_len]; exact hz)
    walk_at "rds"
    cases hn : isName x with
    | false =>
      walk_at "rds"
      exact e1 hn H1 sm1
    | true =>
      walk_at "rds"
      rw [numsOf_in]
      refine ite2 (fun c => ?_) (fun c => ?_)
      · walk_at "rds"
        exact e2 hn (of_decide_eq_true c) H1 sm1
      · have c' : x ∉ hl.names := fun z => c (decide_eq_true z)
        walk_at "rds"
        rw [numsOf_len]
        refine ite2 (fun d => ?_) (fun d => ?_)
        · have d' : 30 ≤ hl.names.length := by simp at d; omega
          walk_at "rds"
          exact e3 hn c' d' H1 sm1
        · have d' : hl.names.length < 30 := by simp at d; omega
          walk_at "rds"
          rw [numsOf_len, numsOf_put c']
          have fr : Frame [p, dx, a, b] H (upd H1 a (.dK (numsOf (hl.names ++ [x])))) := sm1.frame.trans (frame_upd (by simp) g3 (by intro _ z; cases z))
          refine q hn c' d' _ [p, dx, a, b] ⟨dx, a, b, bs, rfl, ?_, ?_, upd_same, ?_, nab, h6.keep fr.tups⟩ fr Grows.refl
          · rw [upd_ne npa]; exact g1
          · rw [upd_ne nda]; exact sm1 _ _ h2
          · rw [upd_ne nab.symm]; exact sm1 _ _ h4
end
def sp_need_start {K : PySem.W.Frag} {mg : Str → Option Value} (T : Tp K mg) : Sp := fun vs H Q E => ∃ i : Int, vs = [.int i] ∧ (¬ 0 ≤ i → E (.ref T.X_NoRate) none H) ∧ (0 ≤ i → Q .non H)
section
variable {P : Program} {w : World} {K : PySem.W.Frag} {mg : Str → Option Value} {base : Heap}
theorem ok_need_start (T : Tp K mg) : FnOk P w K mg base (CXX P w) 3 T.f_need_start T.d_need_start ["start"] (sp_need_start T) := by
  have G_is_from : FnOk P w K mg base (CXX P w) 2 T.f_is_from T.d_is_from ["thing", "least"] (sp_is_from T) := (ok_is_from T).mono (by decide)
  refine T.F_need_start.okX sc_need_start (fun vs H Q E h => ?_) (fun cdv A outer s H vs Q E hr h => ?_)
  · obtain ⟨i, rfl, _⟩ := h
    rfl
  · have hu := hr.units
    obtain ⟨i, rfl, e1, q⟩ := h
    refine ⟨_, (pss_one (ps_if (pt_not (pt_truK (K := K) rfl (pe_call G_is_from hr rfl T.m_is_from T.F_is_from.kp T.b_is_from .nil pass_on (pa_cons (pv 0) (pa_cons pe_int pa_nil))) (fun _ => rfl))) (pss_one (ps_raiseK T.gx_NoRate T.ex_NoRate PySem.F.excBase_ValueError rfl (pa_cons pe_str pa_nil))) pss_nil)), ?_⟩
    try dsimp only [L2.cxX, L2.cxOf, L2.cxComp]
    walk_at "rds"
    by_cases c : 0 ≤ i
    · rw [decide_eq_true c]
      walk_at "rds"
      exact q c
    · rw [decide_eq_false c]
      walk_at "rds"
      exact e1 c
end
def sp_Hall_need_work {K : PySem.W.Frag} {mg : Str → Option Value} (T : Tp K mg) : Sp := fun vs H Q E => ∃ (p : Addr) (i : Int) (hl : HM) (fp : List Addr), vs = [.ref p, .int i] ∧ HallAt T H p hl fp ∧
  (¬ (0 ≤ i ∧ i < hl.names.length) → E (.ref T.X_NoWork) none H) ∧ (0 ≤ i → i < hl.names.length → Q .non H)
section
variable {P : Program} {w : World} {K : PySem.W.Frag} {mg : Str → Option Value} {base : Heap}
theorem ok_Hall_need_work (T : Tp K mg) : FnOk P w K mg base (CXX P w) 4 T.f_Hall_need_work T.d_Hall_need_work ["self", "work"] (sp_Hall_need_work T) := by
  have G_is_number_below : FnOk P w K mg base (CXX P w) 3 T.f_is_number_below T.d_is_number_below ["thing", "bound"] (sp_is_number_below T) := (ok_is_number_below T).mono (by decide)
  have cl_Hall := T.cl_Hall
  have na_Hall := T.na_Hall
  refine T.F_Hall_need_work.okX sc_Hall_need_work (fun vs H Q E h => ?_) (fun cdv A outer s H vs Q E hr h => ?_)
  · obtain ⟨p, i, hl, fp, rfl, _⟩ := h
    rfl
  · have hu := hr.units
    obtain ⟨p, i, hl, fp, rfl, hh, e1, q⟩ := h
    obtain ⟨dx, a, b, bs, rfl, h1, h2, h3, h4, nab, h6⟩ := id hh
    refine ⟨_, (pss_one (ps_if (pt_not (pt_truK (K := K) rfl (pe_call G_is_number_below hr rfl T.m_is_number_below T.F_is_number_below.kp T.b_is_number_below .nil pass_on (pa_cons (pv 1) (pa_cons (pe_callB len_D (by rfl) T.n_len PySem.boot_len (pa_cons (pe_fldK (K := K) rfl (pv 0) rfl) pa_nil)) pa_nil))) (fun _ => rfl))) (pss_one (ps_raiseK T.gx_NoWork T.ex_NoWork PySem.F.excBase_ValueError rfl (pa_cons pe_str pa_nil))) pss_nil)), ?_⟩
    try dsimp only [L2.cxX, L2.cxOf, L2.cxComp]
    walk_at "rds"
    rw [numsOf_len]
    by_cases c : 0 ≤ i ∧ i < hl.names.length
    · rw [decide_eq_true c]
      walk_at "rds"
      exact q c.1 c.2
    · rw [decide_eq_false c]
      walk_at "rds"
      exact e1 c
end
def sp_Hall_lay {K : PySem.W.Frag} {mg : Str → Option Value} (T : Tp K mg) : Sp := fun vs H Q E => ∃ (p u : Addr) (b : B5) (hl : HM) (fp : List Addr), vs = [.ref p, .ref u] ∧ HallAt T H p hl fp ∧ H u = some (.tup b.v) ∧ hl.belts.length ≤ 1000 ∧
  ∀ (H' : Hp) (fp' : List Addr), HallAt T H' p ⟨hl.names, hl.belts ++ [b]⟩ fp' → Frame fp H H' → Grows fp fp' H → Q (.int hl.belts.length) H'
section
variable {P : Program} {w : World} {K : PySem.W.Frag} {mg : Str → Option Value} {base : Heap}
theorem ok_Hall_lay (T : Tp K mg) : FnOk P w K mg base (CXX P w) 1 T.f_Hall_lay T.d_Hall_lay ["self", "row"] (sp_Hall_lay T) := by
  have cl_Hall := T.cl_Hall
  have na_Hall := T.na_Hall
  refine T.F_Hall_lay.okX sc_Hall_lay (fun vs H Q E h => ?_) (fun cdv A outer s H vs Q E hr h => ?_)
  · obtain ⟨p, u, b, hl, fp, rfl, _⟩ := h
    rfl
  · have hu := hr.units
    obtain ⟨p, u, b, hl, fp, rfl, hh, hu', hz, q⟩ := h
    obtain ⟨dx, a, bb, bs, rfl, h1, h2, h3, h4, nab, h6⟩ := id hh
    have npb : p ≠ bb := ne_of h1 h4 (by intro z; cases z)
    have ndb : dx ≠ bb := ne_of h2 h4 (by intro z; cases z)
    have nub : u ≠ bb := ne_of hu' h4 (by intro z; cases z)
    have hz' : bs.length < sizeLine := small1000 (by rw [h6.length]; exact hz)
    have hlb := h6.length
    refine ⟨_, (pss_cons (ps_expr (pe_bmK (K := K) rfl PySem.F.plainAttrs_list PySem.F.slot_list_append PySem.F.type_list_append mt_append (pe_fldK (K := K) rfl (pv 0) rfl) (pa_cons (pv 1) pa_nil)))
          (pss_one (ps_ret (pe_op op_sub (pe_callB (len_K (K := K) rfl) (by rfl) T.n_len PySem.boot_len (pa_cons (pe_fldK (K := K) rfl (pv 0) rfl) pa_nil)) pe_int)))), ?_⟩
    try dsimp only [L2.cxX, L2.cxOf, L2.cxComp]
    walk_at "rds"
    have k1 : (upd H bb (.lst (bs ++ [.ref u]))) p = some (.ins T.C_Hall dx [("numbers", .ref a), ("rows", .ref bb)]) := by rw [upd_ne npb]; exact h1
    have k4 : (upd H bb (.lst (bs ++ [.ref u]))) bb = some (.lst (bs ++ [.ref u])) := upd_same
    walk_at "rds"
    have el : ((bs ++ [V.ref u]).length : Int) - 1 = hl.belts.length := by simp [hlb]
    rw [el]
    have fr : Frame [p, dx, a, bb] H (upd H bb (.lst (bs ++ [.ref u]))) := frame_upd (by simp) h4 (by intro _ z; cases z)
    refine q _ [p, dx, a, bb] ⟨dx, a, bb, _, rfl, k1, ?_, ?_, k4, nab, (h6.keep fr.tups).snoc (fr.tups _ _ hu')⟩ fr Grows.refl
    · rw [upd_ne ndb]; exact h2
    · rw [upd_ne nab]; exact h3
end
def sp_Hall_belt {K : PySem.W.Frag} {mg : Str → Option Value} (T : Tp K mg) : Sp := fun vs H Q E => ∃ (p : Addr) (b : B5) (hl : HM) (fp : List Addr), vs = .ref p :: b.v ∧ HallAt T H p hl fp ∧ hl.belts.length ≤ 1000 ∧
  (¬ (0 ≤ b.giver ∧ b.giver < hl.names.length ∧ 0 ≤ b.taker ∧ b.taker < hl.names.length) → ∀ H', Same H H' → E (.ref T.X_NoWork) none H') ∧
  ((0 ≤ b.giver ∧ b.giver < hl.names.length ∧ 0 ≤ b.taker ∧ b.taker < hl.names.length) → ¬ (1 ≤ b.give ∧ 1 ≤ b.take ∧ 0 ≤ b.start) → ∀ H', Same H H' → E (.ref T.X_NoRate) none H') ∧
  ((0 ≤ b.giver ∧ b.giver < hl.names.length ∧ 0 ≤ b.taker ∧ b.taker < hl.names.length) → (1 ≤ b.give ∧ 1 ≤ b.take ∧ 0 ≤ b.start) → 60 ≤ hl.belts.length → ∀ H', Same H H' → E (.ref T.X_TooMuch) none H') ∧
  ((0 ≤ b.giver ∧ b.giver < hl.names.length ∧ 0 ≤ b.taker ∧ b.taker < hl.names.length) → (1 ≤ b.give ∧ 1 ≤ b.take ∧ 0 ≤ b.start) → hl.belts.length < 60 → ∀ (H' : Hp) (fp' : List Addr), HallAt T H' p ⟨hl.names, hl.belts ++ [b]⟩ fp' → Frame fp H H' → Grows fp fp' H → Q (.int hl.belts.length) H')
theorem rd_Hall_belt {K : PySem.W.Frag} {mg : Str → Option Value} {T : Tp K mg} {H : Hp} {Q : VK} {E : XK} {p : Addr} {g t gv tk st : Int} {hl : HM} {fp : List Addr} (h : HallAt T H p hl fp)
    (h1 : 0 ≤ g) (h2 : g < hl.names.length) (h3 : 0 ≤ t) (h4 : t < hl.names.length) (h5 : 1 ≤ gv) (h6 : 1 ≤ tk) (h7 : 0 ≤ st) (hlen : hl.belts.length < 60)
    (q : ∀ (H' : Hp) (fp' : List Addr), HallAt T H' p ⟨hl.names, hl.belts ++ [⟨g, t, gv, tk, st⟩]⟩ fp' → Frame fp H H' → Grows fp fp' H → Q (.int hl.belts.length) H') : sp_Hall_belt T [.ref p, .int g, .int t, .int gv, .int tk, .int st] H Q E :=
  ⟨p, ⟨g, t, gv, tk, st⟩, hl, fp, rfl, h, by omega, fun z => absurd ⟨h1, h2, h3, h4⟩ z, fun _ z => absurd ⟨h5, h6, h7⟩ z, fun _ _ z => absurd z (by omega), fun _ _ _ => q⟩
section
variable {P : Program} {w : World} {K : PySem.W.Frag} {mg : Str → Option Value} {base : Heap}
theorem ok_Hall_belt (T : Tp K mg) : FnOk P w K mg base (CXX P w) 5 T.f_Hall_belt T.d_Hall_belt ["self", "giver", "taker", "give", "take", "start"] (sp_Hall_belt T) := by
  have G_need_start : FnOk P w K mg base (CXX P w) 4 T.f_need_start T.d_need_start ["start"] (sp_need_start T) := (ok_need_start T).mono (by decide)
  have G_is_from : FnOk P w K mg base (CXX P w) 4 T.f_is_from T.d_is_from ["thing", "least"] (sp_is_from T) := (ok_is_from T).mono (by decide)
  have G_Hall_need_work : FnOk P w K mg base (CXX P w) 4 T.f_Hall_need_work T.d_Hall_need_work ["self", "work"] (sp_Hall_need_work T) := (ok_Hall_need_work T).mono (by decide)
  have G_Hall_lay : FnOk P w K mg base (CXX P w) 4 T.f_Hall_lay T.d_Hall_lay ["self", "row"] (sp_Hall_lay T) := (ok_Hall_lay T).mono (by decide)
  have cl_Hall := T.cl_Hall
  have na_Hall := T.na_Hall
  refine T.F_Hall_belt.okX sc_Hall_belt (fun vs H Q E h => ?_) (fun cdv A outer s H vs Q E hr h => ?_)
  · obtain ⟨p, b, hl, fp, rfl, _⟩ := h
    rfl
  · have hu := hr.units
    obtain ⟨p, b, hl, fp, rfl, hh, hz, e1, e2, e3, q⟩ := h
    obtain ⟨dx, a, bb, bs, rfl, h1, h2, h3, h4, nab, h6⟩ := id hh
    obtain ⟨g, t, gv, tk, st⟩ := b
    have hlb := h6.length
    refine ⟨_, (pss_cons (ps_expr (pe_meth (pv 0) T.cl_Hall T.M_Hall_need_work G_Hall_need_work hr T.b_Hall_need_work .nil pass_on (pa_cons (pv 1) pa_nil)))
          (pss_cons (ps_expr (pe_meth (pv 0) T.cl_Hall T.M_Hall_need_work G_Hall_need_work hr T.b_Hall_need_work .nil pass_on (pa_cons (pv 2) pa_nil)))
          (pss_cons (ps_if (PW.pt (pw_or (pt_not (pt_truK (K := K) rfl (pe_call G_is_from hr rfl T.m_is_from T.F_is_from.kp T.b_is_from .nil pass_on (pa_cons (pv 3) (pa_cons pe_int pa_nil))) (fun _ => rfl))) (pw_or1 (pt_not (pt_truK (K := K) rfl (pe_call G_is_from hr rfl T.m_is_from T.F_is_from.kp T.b_is_from .nil pass_on (pa_cons (pv 4) (pa_cons pe_int pa_nil))) (fun _ => rfl)))))) (pss_one (ps_raiseK T.gx_NoRate T.ex_NoRate PySem.F.excBase_ValueError rfl (pa_cons pe_str pa_nil))) pss_nil)
          (pss_cons (ps_expr (pe_call G_need_start hr rfl T.m_need_start T.F_need_start.kp T.b_need_start .nil pass_on (pa_cons (pv 5) pa_nil)))
          (pss_cons (ps_if (pt_cmpR op_ge (pe_callB (len_K (K := K) rfl) (by rfl) T.n_len PySem.boot_len (pa_cons (pe_fldK (K := K) rfl (pv 0) rfl) pa_nil)) (pe_glob (v := .int 60) rfl T.c_MOST_BELTS ⟨_, rfl⟩) (nomark _)) (pss_one (ps_raiseK T.gx_TooMuch T.ex_TooMuch PySem.F.excBase_ValueError rfl (pa_cons pe_str pa_nil))) pss_nil)
          (pss_one (ps_ret (pe_meth (pv 0) T.cl_Hall T.M_Hall_lay G_Hall_lay hr T.b_Hall_lay .nil pass_on (pa_cons (pe_tup (pa_cons (pv 1) (pa_cons (pv 2) (pa_cons (pv 3) (pa_cons (pv 4) (pa_cons (pv 5) pa_nil)))))) pa_nil))))))))), ?_⟩
    try dsimp only [L2.cxX, L2.cxOf, L2.cxComp]
    dsimp only [B5.v] at *
    walk_at "rds"
    refine ⟨p, g, hl, _, rfl, hh, fun z => e1 (by omega) H (Same.refl H), fun g0 g1 => ?_⟩
    walk_at "rds"
    refine ⟨p, t, hl, _, rfl, hh, fun z => e1 (by omega) H (Same.refl H), fun t0 t1 => ?_⟩
    have ws : 0 ≤ g ∧ g < hl.names.length ∧ 0 ≤ t ∧ t < hl.names.length := ⟨g0, g1, t0, t1⟩
    walk_at "rds"
    by_cases c : 1 ≤ gv
    · rw [decide_eq_true c]
      walk_at "rds"
      by_cases d : 1 ≤ tk
      · rw [decide_eq_true d]
        walk_at "rds"
        refine ⟨st, rfl, fun z => e2 ws (by omega) H (Same.refl H), fun f => ?_⟩
        walk_at "rds"
        refine Rd.ifD (fun l => ?_) (fun l => ?_)
        · walk_at "rds"
          exact e3 ws (by omega) (by omega) H (Same.refl H)
        walk_at "rds"
        refine ⟨by show 5 ≤ sizeLine; decide, fun u hu' => ?_⟩
        have sn : Same H (upd H u (.tup [.int g, .int t, .int gv, .int tk, .int st])) := same_new hu'
        have hh' := hh.same sn
        walk_at "rds"
        refine ⟨p, u, ⟨g, t, gv, tk, st⟩, hl, _, rfl, hh', upd_same, hz, fun H' fp' hh2 fr gr => ?_⟩
        refine q ws (by omega) (by omega) H' fp' hh2 (sn.frame.trans fr) (fun x hx => ?_)
        rcases gr x hx with z | z
        · exact .inl z
        · refine .inr ?_
          cases e : H x with
          | none => rfl
          | some o => rw [sn _ _ e] at z; cases z
      · rw [decide_eq_false d]
        walk_at "rds"
        exact e2 ws (by omega) H (Same.refl H)
    · rw [decide_eq_false c]
      walk_at "rds"
      exact e2 ws (by omega) H (Same.refl H)
end
def sp_Hall_init {K : PySem.W.Frag} {mg : Str → Option Value} (T : Tp K mg) : Sp := fun vs H Q _ => ∃ p dx : Addr, vs = [.ref p] ∧ H p = some (.ins T.C_Hall dx []) ∧ H dx = some (.own p) ∧
  ∀ (H' : Hp) (fp : List Addr), HallAt T H' p ⟨[], []⟩ fp → (∀ x ∈ fp, x = p ∨ x = dx ∨ H x = none) → (∀ b o, H b = some o → b ≠ p → H' b = some o) → Q .non H'
theorem rd_Hall_init {K : PySem.W.Frag} {mg : Str → Option Value} {T : Tp K mg} {H : Hp} {Q : Addr → Hp → Prop} {E : XK}
    (q : ∀ (p : Addr) (fp : List Addr) (H' : Hp), HallAt T H' p ⟨[], []⟩ fp → (∀ x ∈ fp, H x = none) → Same H H' → Q p H') :
    ∀ x dx, H x = none → H dx = none → dx ≠ x → sp_Hall_init T (.ref x :: ([] ++ [])) (upd (upd H dx (.own x)) x (.ins T.C_Hall dx [])) (fun v H2 => v = .non ∧ Q x H2) E := by
  intro x dx hx hdx ne
  refine ⟨x, dx, rfl, upd_same, by rw [upd_ne ne, upd_same], fun H' fp hh hf hk => ⟨rfl, q x fp H' hh (fun y hy => ?_) (fun b o e => hk b o ?_ (ne_of_none e hx))⟩⟩
  · rcases hf y hy with rfl | rfl | h
    · exact hx
    · exact hdx
    · by_cases h1 : y = x
      · rw [h1]; exact hx
      · by_cases h2 : y = dx
        · rw [h2]; exact hdx
        · rw [upd_ne h1, upd_ne h2] at h
          exact h
  · rw [upd_ne (ne_of_none e hx), upd_ne (ne_of_none e hdx)]
    exact e
local macro_rules | `(tactic| walk_at "rd") => `(tactic| first | with_reducible refine Nm.rd_Hall_init ?_ | fail "none here")
section
variable {P : Program} {w : World} {K : PySem.W.Frag} {mg : Str → Option Value} {base : Heap}
theorem ok_Hall_init (T : Tp K mg) : FnOk P w K mg base (CXX P w) 1 T.f_Hall_init T.d_Hall_init ["self"] (sp_Hall_init T) := by
  have cl_Hall := T.cl_Hall
  have na_Hall := T.na_Hall
  refine T.F_Hall_init.okX sc_Hall_init (fun vs H Q E h => ?_) (fun cdv A outer s H vs Q E hr h => ?_)
  · obtain ⟨p, dx, rfl, _⟩ := h
    rfl
  · have hu := hr.units
    obtain ⟨p, dx, rfl, hp, hdx, q⟩ := h
    refine ⟨_, (pss_cons (ps_fldK (K := K) rfl (pv 0) pe_dnewK rfl)
          (pss_one (ps_fldK (K := K) rfl (pv 0) (pe_lst pa_nil) rfl))), ?_⟩
    try dsimp only [L2.cxX, L2.cxOf, L2.cxComp]
    walk_at "rds"
    intro a ha
    have npa : p ≠ a := ne_of_none hp ha
    have nda : dx ≠ a := ne_of_none hdx ha
    have npd : p ≠ dx := ne_of hp hdx (by intro z; cases z)
    have hp1 : (upd H a (.dK [])) p = some (.ins T.C_Hall dx []) := by rw [upd_ne npa]; exact hp
    walk_at "rds"
    refine ⟨Nat.zero_le _, fun b hb => ?_⟩
    have hb0 : H b = none := by
      by_cases h1 : b = p
      · rw [h1, upd_same] at hb; cases hb
      · by_cases h2 : b = a
        · rw [h2]; exact ha
        · rw [upd_ne h1, upd_ne h2] at hb; exact hb
    have npb : p ≠ b := ne_of_none hp hb0
    have ndb : dx ≠ b := ne_of_none hdx hb0
    have nab : a ≠ b := by
      intro z
      rw [← z, upd_ne npa.symm, upd_same] at hb
      cases hb
    have hp2 : (upd (upd (upd H a (.dK [])) p (.ins T.C_Hall dx [("numbers", .ref a)])) b (.lst [])) p = some (.ins T.C_Hall dx [("numbers", .ref a)]) := by rw [upd_ne npb, upd_same]
    walk_at "rds"
    refine q _ [p, dx, a, b] ⟨dx, a, b, [], rfl, upd_same, ?_, ?_, ?_, nab, .nil⟩ (fun x hx => ?_) (fun c o e hc => ?_)
    · rw [upd_ne npd.symm, upd_ne ndb, upd_ne npd.symm, upd_ne nda]; exact hdx
    · rw [upd_ne npa.symm, upd_ne nab, upd_ne npa.symm, upd_same]; rfl
    · rw [upd_ne npb.symm, upd_same]
    · simp only [List.mem_cons, List.not_mem_nil, or_false] at hx
      rcases hx with rfl | rfl | rfl | rfl
      · exact .inl rfl
      · exact .inr (.inl rfl)
      · exact .inr (.inr ha)
      · exact .inr (.inr hb0)
    · rw [upd_ne hc, upd_ne (ne_of_none e hb0), upd_ne hc, upd_ne (ne_of_none e ha)]; exact e
end
section
variable {P : Program} {w : World} {K : PySem.W.Frag} {mg : Str → Option Value} {base : Heap}
theorem ok_law (T : Tp K mg) : FnOk P w K mg base (CXX P w) 9 T.f_law T.d_law ["_law_script"] (sp_law T) := by
  have G_l_lines : FnOk P w K mg base (CXX P w) 8 T.f_l_lines T.d_l_lines ["_law_script", "_law_sizes"] (sp_l_lines T) := (ok_l_lines T).mono (by decide)
  have G_rates_of : FnOk P w K mg base (CXX P w) 8 T.f_rates_of T.d_rates_of ["hall"] (sp_rates_of T) := (ok_rates_of T).mono (by decide)
  have G_l_counts : FnOk P w K mg base (CXX P w) 8 T.f_l_counts T.d_l_counts ["_law_script", "_law_sizes", "_law_rates", "_law_lines_here"] (sp_l_counts T) := (ok_l_counts T).mono (by decide)
  have G_change_of : FnOk P w K mg base (CXX P w) 8 T.f_change_of T.d_change_of ["hall", "counts"] (sp_change_of T) := (ok_change_of T).mono (by decide)
  have G_l_mixed : FnOk P w K mg base (CXX P w) 8 T.f_l_mixed T.d_l_mixed ["_law_script", "_law_k"] (sp_l_mixed T) := (ok_l_mixed T).mono (by decide)
  have G_l_long : FnOk P w K mg base (CXX P w) 8 T.f_l_long T.d_l_long ["_law_script", "_law_sizes"] (sp_l_long T) := (ok_l_long T).mono (by decide)
  have G_l_name : FnOk P w K mg base (CXX P w) 8 T.f_l_name T.d_l_name ["_law_k"] (sp_l_name T) := (ok_l_name T).mono (by decide)
  have G_l_ring_good : FnOk P w K mg base (CXX P w) 8 T.f_l_ring_good T.d_l_ring_good ["_law_ring", "_law_lines_here"] (sp_l_ring_good T) := (ok_l_ring_good T).mono (by decide)
  have G_l_rates_good : FnOk P w K mg base (CXX P w) 8 T.f_l_rates_good T.d_l_rates_good ["_law_rates", "_law_lines_here", "_law_many"] (sp_l_rates_good T) := (ok_l_rates_good T).mono (by decide)
  have G_Hall_work : FnOk P w K mg base (CXX P w) 8 T.f_Hall_work T.d_Hall_work ["self", "name"] (sp_Hall_work T) := (ok_Hall_work T).mono (by decide)
  have G_Hall_belt : FnOk P w K mg base (CXX P w) 8 T.f_Hall_belt T.d_Hall_belt ["self", "giver", "taker", "give", "take", "start"] (sp_Hall_belt T) := (ok_Hall_belt T).mono (by decide)
  have G_Hall_init : FnOk P w K mg base (CXX P w) 7 T.f_Hall_init T.d_Hall_init ["self"] (sp_Hall_init T) := (ok_Hall_init T).mono (by decide)
  have cl_Hall := T.cl_Hall
  have na_Hall := T.na_Hall
  refine T.F_law.okX sc_law (fun vs H Q E h => ?_) (fun cdv A outer s H vs Q E hr h => ?_)
  · obtain ⟨a, ns, rfl, _⟩ := h
    rfl
  · have hu := hr.units
    obtain ⟨p, ns, rfl, hS, hlen, k⟩ := h
    refine ⟨_, (pss_cons (ps_set (i := 1) sc_law.nd rfl (Or.inl rfl) (pe_op (op_addK (K := K) rfl) pe_int (pe_op op_mod (pe_call G_l_mixed hr rfl T.m_l_mixed T.F_l_mixed.kp T.b_l_mixed .nil pass_on (pa_cons (pv 0) (pa_cons pe_int pa_nil))) pe_int)))
          (pss_cons (ps_cut (ps_if (pt_cmpR (op_eqK (K := K) rfl hu) (pe_op op_mod (pe_op op_fdivG (pe_call G_l_mixed hr rfl T.m_l_mixed T.F_l_mixed.kp T.b_l_mixed .nil pass_on (pa_cons (pv 0) (pa_cons pe_int pa_nil))) pe_int) pe_int) pe_int (nomark _)) (pss_one (ps_set (i := 1) sc_law.nd rfl (Or.inl rfl) (pe_op (op_addK (K := K) rfl) pe_int (pe_op op_mod (pe_op op_fdivG (pe_call G_l_mixed hr rfl T.m_l_mixed T.F_l_mixed.kp T.b_l_mixed .nil pass_on (pa_cons (pv 0) (pa_cons pe_int pa_nil))) pe_int) pe_int)))) pss_nil))
          (pss_cons (ps_comp (j := 2) rfl (cscope (x := "_law_k") (zs := ["_law_script"]) (ix := [0]) (defScope s_law) ["_law_script", "_law_many", "_law_sizes", "_law_lines_here", "_law_hall", "_law_k", "_law_giver", "_law_taker", "_law_give", "_law_take", "_law_found", "_law_rates", "_law_ring", "_law_counts_here", "_law_change", "_law_like", "_law_one", "_law_back"] rfl rfl (by decide +kernel)) (pi_range1 rfl T.n_range (pa_cons (pv 1) pa_nil)) (fun cl C s H fp => ⟨(pg_name (i := 0) (show (["_law_k", "_law_script"] : List Str).Nodup by decide +kernel) rfl (Or.inl rfl)), pif_nil, (pe_op (op_addK (K := K) rfl) pe_int (pe_op op_mod (pe_call G_l_mixed hr rfl T.m_l_mixed T.F_l_mixed.kp T.b_l_mixed .nil passX0 (pa_cons (pv 1) (pa_cons (pe_op (op_addK (K := K) rfl) pe_int (pv 0)) pa_nil))) pe_int))⟩) sc_law.nd rfl (Or.inl rfl))
          (pss_cons (ps_set (i := 3) sc_law.nd rfl (Or.inl rfl) (pe_call G_l_lines hr rfl T.m_l_lines T.F_l_lines.kp T.b_l_lines .nil pass_on (pa_cons (pv 0) (pa_cons (pv 2) pa_nil))))
          (pss_cons (ps_cut (ps_if (pt_cmpR op_gt (pv 1) pe_int (nomark _)) (pss_one (ps_set (i := 3) sc_law.nd rfl (Or.inl rfl) (pe_op (op_addK (K := K) rfl) (pe_call G_l_long hr rfl T.m_l_long T.F_l_long.kp T.b_l_long .nil pass_on (pa_cons (pv 0) (pa_cons (pv 2) pa_nil))) (pv 3)))) pss_nil))
          (pss_cons (ps_set (i := 4) sc_law.nd rfl (Or.inl rfl) (pe_make0 T.mk_Hall G_Hall_init hr rfl T.g_Hall T.b_Hall_init .nil pass_on))
          (pss_cons (ps_for PassesOwn.leaving rfl (pi_range1 rfl T.n_range (pa_cons (pv 1) pa_nil)) (pg_name (i := 5) sc_law.nd rfl (Or.inl rfl)) (pss_one (ps_expr (pe_meth (pv 4) T.cl_Hall T.M_Hall_work G_Hall_work hr T.b_Hall_work .nil pass_on (pa_cons (pe_call G_l_name hr rfl T.m_l_name T.F_l_name.kp T.b_l_name .nil pass_on (pa_cons (pv 5) pa_nil)) pa_nil)))))
          (pss_cons (ps_for PassesOwn.leaving rfl (pi_listK (K := K) rfl (pv 3)) (pg_tupK (K := K) (n := 4) rfl rfl (pgs_cons (pg_name (i := 6) sc_law.nd rfl (Or.inl rfl)) (pgs_cons (pg_name (i := 7) sc_law.nd rfl (Or.inl rfl)) (pgs_cons (pg_name (i := 8) sc_law.nd rfl (Or.inl rfl)) (pgs_cons (pg_name (i := 9) sc_law.nd rfl (Or.inl rfl)) pgs_nil))))) (pss_one (ps_expr (pe_meth (pv 4) T.cl_Hall T.M_Hall_belt G_Hall_belt hr T.b1_Hall_belt T.v1_Hall_belt pass_on (pa_cons (pv 6) (pa_cons (pv 7) (pa_cons (pv 8) (pa_cons (pv 9) pa_nil))))))))
          (pss_cons (ps_set (i := 10) sc_law.nd rfl (Or.inl rfl) (pe_call G_rates_of hr rfl T.m_rates_of T.F_rates_of.kp T.b_rates_of .nil pass_on (pa_cons (pv 4) pa_nil)))
          (pss_cons (ps_if (PW.pt (pw_or (pt_not (pt_truK (K := K) rfl (pe_callB (isi_K (K := K) rfl) (by rfl) T.n_isinstance PyProof.Rows.boot_isinstance (pa_cons (pv 10) (pa_cons (pe_bltn (v := .ty "tuple") (by rfl) T.n_tuple PyProof.Rows.boot_tuple rfl) pa_nil))) (fun _ => rfl))) (pw_or1 (pt_cmpR (op_neK (K := K) rfl hu) (pe_callB (len_K (K := K) rfl) (by rfl) T.n_len PySem.boot_len (pa_cons (pv 10) pa_nil)) pe_int (nomark _))))) (pss_one (ps_ret pe_bl)) pss_nil)
          (pss_cons (ps_asg (pv 10) (pg_tupK (K := K) (n := 2) rfl rfl (pgs_cons (pg_name (i := 11) sc_law.nd rfl (Or.inl rfl)) (pgs_cons (pg_name (i := 12) sc_law.nd rfl (Or.inl rfl)) pgs_nil))))
          (pss_cons (ps_set (i := 13) sc_law.nd rfl (Or.inl rfl) (pe_call G_l_counts hr rfl T.m_l_counts T.F_l_counts.kp T.b_l_counts .nil pass_on (pa_cons (pv 0) (pa_cons (pv 2) (pa_cons (pv 11) (pa_cons (pv 3) pa_nil))))))
          (pss_cons (ps_if (pt_cmpR op_isN (pv 11) pe_non (nomark _)) (pss_cons (ps_if (pt_not (pt_truK (K := K) rfl (pe_call G_l_ring_good hr rfl T.m_l_ring_good T.F_l_ring_good.kp T.b_l_ring_good .nil pass_on (pa_cons (pv 12) (pa_cons (pv 3) pa_nil))) (fun _ => rfl))) (pss_one (ps_ret pe_bl)) pss_nil)
          (pss_cons (ps_set (i := 14) sc_law.nd rfl (Or.inr rfl) (pe_call G_change_of hr rfl T.m_change_of T.F_change_of.kp T.b_change_of .nil pass_on (pa_cons (pv 4) (pa_cons (pe_comp rfl (cscope (x := "_law_count") (zs := []) (ix := []) (defScope s_law) ["_law_script", "_law_many", "_law_sizes", "_law_lines_here", "_law_hall", "_law_k", "_law_giver", "_law_taker", "_law_give", "_law_take", "_law_found", "_law_rates", "_law_ring", "_law_counts_here", "_law_change", "_law_like", "_law_one", "_law_back"] rfl rfl (by decide +kernel)) (pi_listK (K := K) rfl (pv 13)) (fun cl C s H fp => ⟨(pg_name (i := 0) (show (["_law_count"] : List Str).Nodup by decide +kernel) rfl (Or.inl rfl)), pif_nil, (pe_op (op_addK (K := K) rfl) pe_int (pv 0))⟩)) pa_nil))))
          (pss_one (ps_ret (pe_cmpR (op_neK (K := K) rfl hu) (pe_comp rfl (cscope (x := "_law_pace") (zs := ["_law_change"]) (ix := [14]) (defScope s_law) ["_law_script", "_law_many", "_law_sizes", "_law_lines_here", "_law_hall", "_law_k", "_law_giver", "_law_taker", "_law_give", "_law_take", "_law_found", "_law_rates", "_law_ring", "_law_counts_here", "_law_change", "_law_like", "_law_one", "_law_back"] rfl rfl (by decide +kernel)) (pi_listK (K := K) rfl (pv 12)) (fun cl C s H fp => ⟨(pg_name (i := 0) (show (["_law_pace", "_law_change"] : List Str).Nodup by decide +kernel) rfl (Or.inl rfl)), (pif_one (pt_cmpR (op_neK (K := K) rfl hu) (pe_ix (ix_K (K := K) rfl) (pv 1) (pe_ix (ix_K (K := K) rfl) (pv 0) pe_int (fun _ _ => rfl)) (fun _ _ => rfl)) pe_int (nomark _))), (pv 0)⟩)) (pe_lst pa_nil) (nomark _)))))) pss_nil)
          (pss_cons (ps_if (PW.pt (pw_or (pt_cmpR op_notN (pv 12) pe_non (nomark _)) (pw_or1 (pt_not (pt_truK (K := K) rfl (pe_call G_l_rates_good hr rfl T.m_l_rates_good T.F_l_rates_good.kp T.b_l_rates_good .nil pass_on (pa_cons (pv 11) (pa_cons (pv 3) (pa_cons (pv 1) pa_nil)))) (fun _ => rfl)))))) (pss_one (ps_ret pe_bl)) pss_nil)
          (pss_cons (ps_set (i := 15) sc_law.nd rfl (Or.inl rfl) pe_bl)
          (pss_cons (ps_for PassesOwn.leaving rfl (pi_listK (K := K) rfl (pv 3)) (pg_tupK (K := K) (n := 4) rfl rfl (pgs_cons (pg_name (i := 6) sc_law.nd rfl (Or.inl rfl)) (pgs_cons (pg_name (i := 7) sc_law.nd rfl (Or.inl rfl)) (pgs_cons (pg_name (i := 8) sc_law.nd rfl (Or.inl rfl)) (pgs_cons (pg_name (i := 9) sc_law.nd rfl (Or.inl rfl)) pgs_nil))))) (pss_cons (ps_set (i := 16) sc_law.nd rfl (Or.inl rfl) (pe_op op_mulU (pe_ix (ix_K (K := K) rfl) (pv 13) (pv 6) (fun _ _ => rfl)) (pe_ix (ix_K (K := K) rfl) (pv 11) (pv 7) (fun _ _ => rfl))))
          (pss_one (ps_if (pt_cmpR (op_neK (K := K) rfl hu) (pv 16) (pe_op op_mulU (pe_ix (ix_K (K := K) rfl) (pv 13) (pv 7) (fun _ _ => rfl)) (pe_ix (ix_K (K := K) rfl) (pv 11) (pv 6) (fun _ _ => rfl))) (nomark _)) (pss_one (ps_set (i := 15) sc_law.nd rfl (Or.inl rfl) pe_bl)) pss_nil))))
          (pss_cons (ps_set (i := 17) sc_law.nd rfl (Or.inl rfl) (pe_cmpR (op_eqK (K := K) rfl hu) (pe_comp rfl (cscope (x := "_law_change") (zs := []) (ix := []) (defScope s_law) ["_law_script", "_law_many", "_law_sizes", "_law_lines_here", "_law_hall", "_law_k", "_law_giver", "_law_taker", "_law_give", "_law_take", "_law_found", "_law_rates", "_law_ring", "_law_counts_here", "_law_change", "_law_like", "_law_one", "_law_back"] rfl rfl (by decide +kernel)) (pi_listK (K := K) rfl (pe_call G_change_of hr rfl T.m_change_of T.F_change_of.kp T.b_change_of .nil pass_on (pa_cons (pv 4) (pa_cons (pv 13) pa_nil)))) (fun cl C s H fp => ⟨(pg_name (i := 0) (show (["_law_change"] : List Str).Nodup by decide +kernel) rfl (Or.inl rfl)), (pif_one (pt_cmpR (op_neK (K := K) rfl hu) (pv 0) pe_int (nomark _))), (pv 0)⟩)) (pe_lst pa_nil) (nomark _)))
          (pss_one (ps_ret (pe_cmpR (op_eqK (K := K) rfl hu) (pv 17) (pv 15) (nomark _))))))))))))))))))))), ?_⟩
    try dsimp only [L2.cxX, L2.cxOf, L2.cxComp]
    walk_at "rds"
    refine Rd.cut (fun σ' H' => H' = H ∧ ∃ M : Nat, σ' = [some (.ref p), some (.int M), none, none, none, none, none, none, none, none, none, none, none, none, none, none, none, none] ∧ 0 < M ∧ M ≤ 30) ?k1 ?i1
    case i1 =>
      walk_at "rds"
      refine Rd.ifD (fun c => ?_) (fun c => ?_)
      · walk_at "rds"
        rename_i mx2 hm2 z1 z2
        obtain ⟨M, eM⟩ : ∃ M : Nat, 6 + mx2 / 900 % 25 = (M : Int) := ⟨(6 + mx2 / 900 % 25).toNat, by omega⟩
        rw [eM]
        exact ⟨rfl, M, rfl, by omega, by omega⟩
      · walk_at "rds"
        refine ⟨rfl, _, congrArg (fun z : Int => [some (V.ref p), some (V.int z), none, none, none, none, none, none, none, none, none, none, none, none, none, none, none, none]) (Int.toNat_of_nonneg ?_).symm, ?_, ?_⟩
        · omega
        · omega
        · omega
    case k1 =>
      rintro σ' H' ⟨rfl, M, rfl, m0, m2⟩
      walk_at "rds"
      refine comp_walk walks_rng (small1000 (by omega)) (fun _ => true) (fun i => .int (1 + mixed ns (1 + (0 + (i : Int))) % 12)) (fun i H2 Kc hi sm k => ?_) (fun i H2 Kc hi _ sm k => ?_) (fun a H2 ha0 s2 ha2 => ?_)
      · walk_at "rds"
        exact k H2 (Same.refl H2)
      · have hS2 := sm.seq hS
        walk_at "rds"
        rename_i mx hmx mx0 mx1
        rw [hmx]
        exact k H2 (Same.refl H2)
      · obtain ⟨ss, ess, hsl, hss⟩ : ∃ ss : List Int, H2 a = some (.lst (ss.map V.int)) ∧ ss.length = M ∧ SizesOk ss := by
          refine ⟨(List.range M).map fun i : Nat => 1 + mixed ns (1 + (0 + (i : Int))) % 12, ?_, by simp, fun s hs => ?_⟩
          · rw [ha2, List.filter_eq_self.mpr (by simp), List.map_map]; rfl
          · obtain ⟨i, _, rfl⟩ := List.mem_map.mp hs
            omega
        clear ha2
        have hS2 := s2.seq hS
        have hA2 := SqL.of (K := K) ess
        walk_at "rds"
        refine ⟨p, a, ns, ss, rfl, hS2, hA2, hss, by omega, by omega, ?_⟩
        intro q3 H3 bs3 ls3 hq3 s3 hq3' hT3 hl3 hd3
        have hS3 := s3.seq hS2
        have hA3 := s3.seq hA2
        walk_at "rds"
        refine Rd.cut (fun σ' H4 => ∃ (q : Addr) (bs : List V) (ls : List B5), σ' = [some (.ref p), some (.int M), some (.ref a), some (.ref q), none, none, none, none, none, none, none, none, none, none, none, none, none, none] ∧ Same H2 H4 ∧ H4 q = some (.lst bs) ∧ Tups4 H4 bs ls ∧ ls.length ≤ 45 ∧ ∀ l ∈ ls, Put M l) ?k2 ?i2
        case i2 =>
          walk_at "rds"
          refine Rd.ifD (fun c => ?_) (fun c => ?_)
          · walk_at "rds"
            refine ⟨p, a, ns, ss, rfl, hS3, hA3, hss, by omega, by omega, ?_⟩
            intro q4 H4 bs4 ls4 hq4 s4 hq4' hT4 hl4 hd4
            have hq34 := s4 _ _ hq3'
            have hT34 := hT3.keep (H' := H4) fun b xs e => s4 _ _ e
            have hb1 := hT34.length
            have hb2 := hT4.length
            walk_at "rds"
            refine Rd.addL hq4' hq34 (Nat.le_of_lt (small1000 (by omega))) ?_
            intro r hr6
            have s6 : Same H4 (upd H4 r (.lst (bs4 ++ bs3))) := same_new hr6
            walk_at "rds"
            refine ⟨r, bs4 ++ bs3, ls4 ++ ls3, rfl, (s3.trans s4).trans s6, upd_same, ?_, by rw [List.length_append]; omega, fun l hl => ?_⟩
            · exact Paired.app (hT4.keep fun b xs e => s6 _ _ e) (hT34.keep fun b xs e => s6 _ _ e)
            · rcases List.mem_append.mp hl with z | z
              · rw [← hsl]; exact hd4 l z
              · rw [← hsl]; exact hd3 l z
          · walk_at "rds"
            exact ⟨q3, bs3, ls3, rfl, s3, hq3', hT3, by omega, fun l hl => by rw [← hsl]; exact hd3 l hl⟩
        case k2 =>
          rintro σ' H4 ⟨q, bs, ls, rfl, s4, hq4, hT4, hll, hld⟩
          have hbl := hT4.length
          walk_at "rds"
          intro hp fp H5 hh hf sm
          have nq : q ∉ fp := fun z => by rw [hf q z] at hq4; cases hq4
          have s25 := s4.trans sm
          walk_at "rds"
          have hOp : OffL K H5 fp p (ns.map V.int) := ((s4.seq hS2).off hf).frame sm.frame
          have hOa : OffL K H5 fp a (ss.map V.int) := ((s4.seq hA2).off hf).frame sm.frame
          refine for_range (n := M) (fun i σ H' => ∃ fp' k0, σ = [some (.ref p), some (.int M), some (.ref a), some (.ref q), some (.ref hp), k0, none, none, none, none, none, none, none, none, none, none, none, none] ∧ HallAt T H' hp ⟨(List.range i).map nameN, []⟩ fp' ∧ OffL K H' fp' p (ns.map V.int) ∧ OffL K H' fp' a (ss.map V.int) ∧ H' q = some (.lst bs) ∧ Tups4 H' bs ls ∧ q ∉ fp')
            ⟨fp, _, rfl, hh, hOp, hOa, sm _ _ hq4, hT4.keep fun b xs e => sm _ _ e, nq⟩ ?_ ?_
          · rintro i σ H' hi ⟨fp', k0, rfl, hh', hOp', hOa', hq', hT', nq'⟩
            walk_at "rds"
            have e : (0 + (i : Int)).toNat = i := by omega
            rw [e]
            refine rd_Hall_work hh' (nameN_ok i (by omega)) (nameN_new i (by omega)) (by simp; omega) (fun H2 fp2 hh2 fr gr => ?_)
            refine ⟨fp2, _, rfl, ?_, hOp'.step fr gr, hOa'.step fr gr, fr.keep _ _ hq' nq', hT'.keep fr.tups, gr.off nq' (by rw [hq']; simp)⟩
            rw [List.range_succ, List.map_append]
            exact hh2
          · rintro σ H6 ⟨fp3, k0, rfl, hh3, hOp3, hOa3, hq3, hT3, nq3⟩
            walk_at "rds"
            refine for_walk (walks_lst (SqL.of (only_self (q := q) (o := .lst bs)))) (fun i σ H' => ∃ (fp' : List Addr) (a1 a2 a3 a4 : Option V), σ = [some (.ref p), some (.int M), some (.ref a), some (.ref q), some (.ref hp), k0, a1, a2, a3, a4, none, none, none, none, none, none, none, none] ∧
              HallAt T H' hp ⟨(List.range M).map nameN, ls.take i⟩ fp' ∧ OffL K H' fp' p (ns.map V.int) ∧ OffL K H' fp' a (ss.map V.int) ∧ H' q = some (.lst bs) ∧ Tups4 H' bs ls ∧ q ∉ fp') ⟨fp3, _, _, _, _, rfl, hh3, hOp3, hOa3, hq3, hT3, nq3⟩ ?_ ?_ ?_
            · rintro i σ H' ⟨_, _, _, _, _, _, _, _, _, h, _⟩
              exact only_same h
            · rintro i σ H7 hi ⟨fp4, a1, a2, a3, a4, rfl, hh4, hOp4, hOa4, hq4, hT4, nq4⟩
              have hil : i < ls.length := by omega
              obtain ⟨t, ht1, ht2⟩ := hT4.at (List.getElem?_eq_getElem hil)
              have eb : bs.getD i .non = .ref t := by simp [List.getD, ht1]
              rw [eb]
              have hm := hld _ (List.getElem_mem hil)
              have et := List.take_succ_eq_append_getElem hil
              refine Rd.gtup (.of ht2) rfl ?_
              generalize ls[i] = l at *
              obtain ⟨r1, r2, r3, r4⟩ := hm.rg
              obtain ⟨gv, tk, e1, e2, g0, t0, _, _⟩ := hm.sz
              have est := hm.st
              dsimp only [B5.v4]
              walk_at "rds"
              refine rd_Hall_belt hh4 r1 (by simp; omega) r3 (by simp; omega) (by omega) (by omega) (by decide) (by simp; omega) (fun H5 fp5 hh5 fr5 gr5 => ?_)
              refine ⟨fp5, _, _, _, _, rfl, ?_, hOp4.step fr5 gr5, hOa4.step fr5 gr5, fr5.keep _ _ hq4 nq4, hT4.keep fr5.tups, gr5.off nq4 (by rw [hq4]; simp)⟩
              rw [et]
              have : (⟨l.giver, l.taker, l.give, l.take, 0⟩ : B5) = l := by cases l; dsimp only at est; rw [est]
              rw [this] at hh5
              exact hh5
            · rintro σ H7 ⟨fp4, a1, a2, a3, a4, rfl, hh4, hOp4, hOa4, hq4, hT4, nq4⟩
              rw [hbl, List.take_length] at hh4
              have hnl : ((List.range M).map nameN).length = M := by simp
              have hbt : Between ls M := put_between hld
              have hbt' : Between ls ((List.range M).map nameN).length := by rw [hnl]; exact hbt
              have hsz := put_sized hld
              have hS7 := hOp4.sq
              have hA7 := hOa4.sq
              walk_at "rds"
              refine ⟨hp, ⟨(List.range M).map nameN, ls⟩, fp4, rfl, hh4, by simp; omega, by show ls.length ≤ 1000; omega, hbt', hsz, ?_, ?_⟩
              · intro t r H8 rs F s8 hr8 ht8 hr8' hrl hwd hset hch
                dsimp only at hrl hwd hset hch
                rw [hnl] at hrl hwd
                have hrt := rated_of hbt (by omega) hwd hrl hset
                have hrs := rated30 hbt m2 hwd hrl hset
                have hS8 := s8.seq hS7
                have hA8 := s8.seq hA7
                have hq8 := s8 _ _ hq4
                have hT8 := hT4.keep (H' := H8) fun b xs e => s8 _ _ e
                walk_at "rds"
                refine Rd.gtup (.of ht8) rfl ?_
                walk_at "rds"
                refine ⟨p, a, q, .ref r, ns, ss, bs, ls, rs, rfl, hS8, hA8, hss, by omega, by omega, hq8, hT8, by rw [hsl]; exact hbt, .inr ⟨r, rfl, hr8', by omega, hrs⟩, ?_⟩
                intro c H9 cs hc9 s9 hc9' hcl hcs
                have hr9 := s9 _ _ hr8'
                have hq9 := s9 _ _ hq8
                have hT9 := hT8.keep (H' := H9) fun b xs e => s9 _ _ e
                have hh9 := hh4.same (s8.trans s9)
                walk_at "rds"
                refine ⟨rfl, false, rfl, ?_⟩
                walk_at "rds"
                refine ⟨rfl, false, rfl, ?_⟩
                walk_at "rds"
                refine ⟨q, r, bs, ls, M, rs, rfl, hr9, hq9, hT9, hbt, by omega, hsz, hrt, hch, least_on hwd hset, ?_⟩
                intro H10 s10
                have hr10 := s10 _ _ hr9
                have hq10 := s10 _ _ hq9
                have hc10 := s10 _ _ hc9'
                have hT10 := hT9.keep (H' := H10) fun b xs e => s10 _ _ e
                have hh10 := hh9.same s10
                have hsr10 := SqL.of (K := K) hr10
                have hsc10 := SqL.of (K := K) hc10
                have hcl2 : cs.length = M := by omega
                have hcat : ∀ {w : Int}, 0 ≤ w → w < (M : Int) → ∃ k : Nat, cs.getD w.toNat 0 = (k : Int) ∧ k < 2 ^ 210010 := fun {w} w0 w1 => hcs _ (by rw [getD_of (by omega)]; exact List.getElem_mem _)
                walk_at "rds"
                refine for_walk (walks_lst (SqL.of hq10)) (fun i σ H' => H' = H10 ∧ ∃ (a1 a2 a3 a4 a5 : Option V), σ = [some (.ref p), some (.int M), some (.ref a), some (.ref q), some (.ref hp), k0, a1, a2, a3, a4, some (.ref t), some (.ref r), some .non, some (.ref c), none, some (.bl (likeB cs rs (ls.take i))), a5, none]) ⟨rfl, _, _, _, _, _, rfl⟩ (fun i σ H2 h => h.1 ▸ Same.refl H10) ?_ ?_
                · rintro i σ H' hi ⟨rfl, a1, a2, a3, a4, a5, rfl⟩
                  have hil : i < ls.length := by omega
                  obtain ⟨u, eu, hu1⟩ := hT10.getD hil
                  rw [eu]
                  obtain ⟨b1, b2, b3, b4⟩ := hbt.at hil
                  obtain ⟨kg, ekg, kg0, kg1⟩ := rate_at hrt b1 b2
                  obtain ⟨kt, ekt, kt0, kt1⟩ := rate_at hrt b3 b4
                  obtain ⟨cg, ecg, cg1⟩ := hcat b1 b2
                  obtain ⟨ct, ect, ct1⟩ := hcat b3 b4
                  have at1 := at_ints (ns := rs) b1 (by omega)
                  have at2 := at_ints (ns := rs) b3 (by omega)
                  have at3 := at_ints (ns := cs) b1 (by omega)
                  have at4 := at_ints (ns := cs) b3 (by omega)
                  have elk : likeB cs rs (ls.take (i + 1)) = (likeB cs rs (ls.take i) && decide (cs.getD (ls.getD i dB).giver.toNat 0 * rs.getD (ls.getD i dB).taker.toNat 0 = cs.getD (ls.getD i dB).taker.toNat 0 * rs.getD (ls.getD i dB).giver.toNat 0)) := by
                    rw [List.take_succ_eq_append_getElem hil]
                    unfold likeB
                    rw [List.all_append, getD_of hil]
                    simp
                  rw [elk]
                  generalize ls.getD i dB = b at *
                  rw [ekg] at at1
                  rw [ekt] at at2
                  rw [ecg] at at3
                  rw [ect] at at4
                  rw [ekg, ekt, ecg, ect]
                  have mo1 : IntMulOk (cg : Int) (kt : Int) := mulN cg1 kt1 (by decide)
                  have mo2 : IntMulOk (ct : Int) (kg : Int) := mulN ct1 kg1 (by decide)
                  refine Rd.gtup (.of (show H' u = some (.tup [.int b.giver, .int b.taker, .int b.give, .int b.take]) from hu1)) rfl ?_
                  walk_at "rds"
                  by_cases e : (cg : Int) * (kt : Int) = (ct : Int) * (kg : Int)
                  · rw [if_neg (by simp [e])]
                    walk_at "rds"
                    rw [decide_eq_true e, Bool.and_true]
                    exact ⟨rfl, _, _, _, _, _, rfl⟩
                  · rw [if_pos (by simp [e])]
                    walk_at "rds"
                    rw [decide_eq_false e, Bool.and_false]
                    exact ⟨rfl, _, _, _, _, _, rfl⟩
                · rintro σ H' ⟨rfl, a1, a2, a3, a4, a5, rfl⟩
                  rw [hbl, List.take_length]
                  walk_at "rds"
                  refine ⟨hp, c, ⟨(List.range M).map nameN, ls⟩, fp4, cs, rfl, hh10, by show ls.length ≤ 1000; omega, hsc10, by rw [hcl2]; exact hbt, hsz, fun x hx => (by obtain ⟨k, e, hk⟩ := hcs x hx; exact ⟨k, e, Nat.lt_trans hk (Nat.pow_lt_pow_right (by decide) (by decide))⟩), fun d H11 hd s11 hd11 => ?_⟩
                  dsimp only at hd11
                  have hdl : ((ls.map (chgI cs)).map V.int).length = ls.length := by simp
                  walk_at "rds"
                  refine comp_walk (walks_lst (SqL.of hd11)) (small1000 (by rw [hdl]; omega)) (fun i => !decide (chgI cs (ls.getD i dB) = 0)) (fun i => .int (chgI cs (ls.getD i dB))) (fun i H2 Kc hi sm k => ?_) (fun i H2 Kc hi _ sm k => ?_) (fun e H12 he sm12 he12 => ?_)
                  · have hil : i < ls.length := by omega
                    have ev : ((ls.map (chgI cs)).map V.int).getD i .non = .int (chgI cs (ls.getD i dB)) := by
                      rw [getD_of hil]; simp [List.getD, hil]
                    rw [ev]
                    walk_at "rds"
                    exact k H2 (Same.refl H2)
                  · have hil : i < ls.length := by omega
                    have ev : ((ls.map (chgI cs)).map V.int).getD i .non = .int (chgI cs (ls.getD i dB)) := by
                      rw [getD_of hil]; simp [List.getD, hil]
                    rw [ev]
                    walk_at "rds"
                    exact k H2 (Same.refl H2)
                  · rw [hdl] at he12
                    obtain ⟨zs, ezs, hzs⟩ : ∃ zs : List Int, H12 e = some (.lst (zs.map V.int)) ∧ zs = ((List.range ls.length).filter fun i => !decide (chgI cs (ls.getD i dB) = 0)).map (fun i => chgI cs (ls.getD i dB)) := ⟨_, by rw [he12, List.map_map]; rfl, rfl⟩
                    have hz : decide (zs = []) = likeB cs rs ls := like_all hzs fun j hj => by
                      obtain ⟨gv, tk, g0, t0, _, _, eg, et⟩ := hsz j hj
                      obtain ⟨b1, b2, b3, b4⟩ := hbt.at hj
                      obtain ⟨kt, ekt, kt0, kt1⟩ := rate_at hrt b3 b4
                      exact like_iff eg g0 (by rw [ekt]; omega) (hch j hj)
                    walk_at "rds"
                    refine ⟨Nat.zero_le _, fun o ho => ?_⟩
                    have s13 : Same H12 (upd H12 o (.lst [])) := same_new ho
                    have v13 : (upd H12 o (.lst [])) o = some (.lst []) := upd_same
                    generalize upd H12 o (.lst []) = H13 at *
                    walk_at "rds"
                    refine Rd.eqUD (DRel.ints (SqL.of (s13 _ _ ezs))) (.lst (SqL.of v13) .nil) (layL_ints _) rfl (depthL_ints _) ?_
                    rw [eqv_nil_ints, hz]
                    walk_at "rds"
                    rw [beq_self_eq_true]
                    exact k _
              · intro t r H8 vs' ring s8 ht8 hr8 hP hok
                dsimp only at hok
                have hS8 := s8.seq hS7
                have hA8 := s8.seq hA7
                have hq8 := s8 _ _ hq4
                have hT8 := hT4.keep (H' := H8) fun b xs e => s8 _ _ e
                walk_at "rds"
                refine Rd.gtup (.of ht8) rfl ?_
                walk_at "rds"
                refine ⟨p, a, q, .non, ns, ss, bs, ls, [], rfl, hS8, hA8, hss, by omega, by omega, hq8, hT8, by rw [hsl]; exact hbt, .inl rfl, ?_⟩
                intro c H9 cs hc9 s9 hc9' hcl hcs
                have hr9 := s9 _ _ hr8
                have hq9 := s9 _ _ hq8
                have hT9 := hT8.keep (H' := H9) fun b xs e => s9 _ _ e
                have hP9 := hP.keep (H' := H9) fun b xs e => s9 _ _ e
                have hh9 := hh4.same (s8.trans s9)
                walk_at "rds"
                refine ⟨rfl, true, rfl, ?_⟩
                walk_at "rds"
                refine ⟨r, q, vs', ring, bs, ls, rfl, hr9, hP9, hok, hq9, hT9, hsz, by omega, ?_⟩
                intro H10 s10
                have hr10 := s10 _ _ hr9
                have hc10 := s10 _ _ hc9'
                have hP10 := hP9.keep (H' := H10) fun b xs e => s10 _ _ e
                have hh10 := hh9.same s10
                have hcl2 : cs.length = M := by omega
                have hcm : (cs.map V.int).length = cs.length := by simp
                walk_at "rds"
                refine comp_walk (walks_lst (SqL.of hc10)) (small1000 (by rw [hcm]; omega)) (fun _ => true) (fun i => .int (1 + cs.getD i 0)) (fun i H2 Kc hi sm k => ?_) (fun i H2 Kc hi _ sm k => ?_) (fun d H11 hd sm11 hd11 => ?_)
                · walk_at "rds"
                  exact k H2 (Same.refl H2)
                · have hil : i < cs.length := by omega
                  have ev : (cs.map V.int).getD i .non = .int (cs.getD i 0) := by
                    rw [getD_of hil]; simp [List.getD, hil]
                  rw [ev]
                  walk_at "rds"
                  exact k H2 (Same.refl H2)
                · obtain ⟨c2, ec2, hc2l, hc2b⟩ : ∃ c2 : List Int, H11 d = some (.lst (c2.map V.int)) ∧ c2.length = M ∧ ∀ x ∈ c2, ∃ k : Nat, x = (k : Int) ∧ 0 < k ∧ k < 2 ^ 420000 := by
                    refine ⟨(List.range cs.length).map fun i => 1 + cs.getD i 0, ?_, by simp [hcl2], fun x hx => ?_⟩
                    · rw [hd11, List.filter_eq_self.mpr (by simp), hcm, List.map_map]; rfl
                    · obtain ⟨i, hi, rfl⟩ := List.mem_map.mp hx
                      have hil := List.mem_range.mp hi
                      obtain ⟨k, ek, hk⟩ := hcs (cs.getD i 0) (by rw [getD_of hil]; exact List.getElem_mem _)
                      exact ⟨k + 1, by rw [ek]; omega, by omega, Nat.lt_of_le_of_lt hk (Nat.pow_lt_pow_right (by decide) (by decide))⟩
                  clear hd11
                  have hr11 := sm11 _ _ hr10
                  have hh11 := hh10.same sm11
                  walk_at "rds"
                  refine ⟨hp, d, ⟨(List.range M).map nameN, ls⟩, fp4, c2, rfl, hh11, by show ls.length ≤ 1000; omega, SqL.of ec2, by rw [hc2l]; exact hbt, hsz, fun x hx => (by obtain ⟨k, e, _, hk⟩ := hc2b x hx; exact ⟨k, e, hk⟩), fun ch H12 hch s12 hch12 => ?_⟩
                  dsimp only at hch12
                  have hr12 := s12 _ _ hr11
                  have hP12 := hP10.keep (H' := H12) fun b xs e => s12 _ _ (sm11 _ _ e)
                  have hpl := hP12.length
                  have hrl : ring.length ≤ ls.length := by
                    have := Fo.len_le hok.nd (n := ls.length) (fun w hw => by obtain ⟨x, hx, e⟩ := List.mem_map.mp hw; rw [← e]; exact hok.rg x hx)
                    simpa using this
                  have hgo : ∀ {i : Nat} {H2 : Hp}, i < ring.length → Same H12 H2 → ∃ t, vs'.getD i .non = .ref t ∧ H2 t = some (.tup [.int (ring.getD i (0, false)).1, .bl (ring.getD i (0, false)).2]) ∧ SqL K H2 ch ((ls.map (chgI c2)).map V.int) ∧ atI ((ls.map (chgI c2)).map V.int) (ring.getD i (0, false)).1 = some (.int (chgI c2 (ls.getD (ring.getD i (0, false)).1.toNat dB))) := fun {i H2} hi sm => by
                    obtain ⟨t, et, ht1⟩ := pace_at hP12 (List.getElem?_eq_getElem hi)
                    rw [getD_of hi]
                    obtain ⟨x0, x1⟩ := hok.rg _ (List.getElem_mem hi)
                    refine ⟨t, by rw [List.getD, et]; rfl, sm _ _ ht1, SqL.of (sm _ _ hch12), ?_⟩
                    have := at_ints (ns := ls.map (chgI c2)) x0 (by rw [List.length_map]; exact x1)
                    rw [this]
                    have hxl : ring[i].1.toNat < ls.length := by omega
                    rw [getD_of hxl]
                    simp [List.getD, hxl]
                  walk_at "rds"
                  refine comp_walk (walks_lst (SqL.of hr12)) (small1000 (by omega)) (fun i => !decide (chgI c2 (ls.getD (ring.getD i (0, false)).1.toNat dB) = 0)) (fun i => vs'.getD i .non) (fun i H2 Kc hi sm k => ?_) (fun i H2 Kc hi _ sm k => ?_) (fun e H13 he sm13 he13 => ?_)
                  · obtain ⟨t, e1, e2, e3, e4⟩ := hgo (i := i) (by omega) sm
                    rw [e1]
                    generalize ring.getD i (0, false) = x at *
                    walk_at "rds"
                    exact k H2 (Same.refl H2)
                  · obtain ⟨t, e1, e2, e3, e4⟩ := hgo (i := i) (by omega) sm
                    rw [e1] at k ⊢
                    walk_at "rds"
                    exact k H2 (Same.refl H2)
                  · obtain ⟨x, hx, hxc⟩ := ring_change hok hbt hsz (cs := c2) (fun w w0 w1 => by
                      obtain ⟨k, ek, k0, _⟩ := hc2b (c2.getD w.toNat 0) (by rw [getD_of (by omega)]; exact List.getElem_mem _)
                      rw [ek]; omega)
                    obtain ⟨xi, hxi, ex⟩ := List.getElem_of_mem hx
                    have hmem : xi ∈ (List.range vs'.length).filter fun i => !decide (chgI c2 (ls.getD (ring.getD i (0, false)).1.toNat dB) = 0) := by
                      rw [List.mem_filter]
                      refine ⟨List.mem_range.mpr (by omega), ?_⟩
                      show (!decide (chgI c2 (ls.getD (ring.getD xi (0, false)).1.toNat dB) = 0)) = true
                      rw [getD_of hxi, ex, decide_eq_false hxc]
                      rfl
                    have hin : ∀ i ∈ (List.range vs'.length).filter fun i => !decide (chgI c2 (ls.getD (ring.getD i (0, false)).1.toNat dB) = 0), i < ring.length := fun i hi => by
                      have := List.mem_range.mp (List.mem_filter.mp hi).1
                      omega
                    have hP13 := hP12.keep (H' := H13) fun b xs e => sm13 _ _ e
                    generalize ((List.range vs'.length).filter fun i => !decide (chgI c2 (ls.getD (ring.getD i (0, false)).1.toNat dB) = 0)) = il at *
                    walk_at "rds"
                    refine ⟨Nat.zero_le _, fun o ho => ?_⟩
                    have s14 : Same H13 (upd H13 o (.lst [])) := same_new ho
                    have v14 : (upd H13 o (.lst [])) o = some (.lst []) := upd_same
                    generalize upd H13 o (.lst []) = H14 at *
                    walk_at "rds"
                    refine Rd.neUD (.lst (SqL.of (s14 _ _ he13)) (rel_some (hP13.keep fun b xs e => s14 _ _ e) il hin)) (.lst (SqL.of v14) .nil) (lay_paces _) rfl (depthL_paces _) ?_
                    have e00 : PyData.eqv (.list ((il.map fun i => ring.getD i (0, false)).map paceD)) (.list []) = false := by
                      cases il with
                      | nil => cases hmem
                      | cons i0 il' => exact eqv_empty
                    rw [e00]
                    exact k _
end
theorem bd_l_cell {K : PySem.W.Frag} {f : Addr} {fd : FuncData} (F : Fun K "_law_cell" "_law_cell" s_l_cell f fd) : Binds K fd ["_law_script", "_law_k"] [] := F.binds fun _ _ _ _ _ _ us hl => (match us, hl with | [_, _], _ => rfl)
theorem bd_l_mixed {K : PySem.W.Frag} {f : Addr} {fd : FuncData} (F : Fun K "_law_mixed" "_law_mixed" s_l_mixed f fd) : Binds K fd ["_law_script", "_law_k"] [] := F.binds fun _ _ _ _ _ _ us hl => (match us, hl with | [_, _], _ => rfl)
theorem bd_l_divisor {K : PySem.W.Frag} {f : Addr} {fd : FuncData} (F : Fun K "_law_divisor" "_law_divisor" s_l_divisor f fd) : Binds K fd ["_law_one", "_law_other"] [] := F.binds fun _ _ _ _ _ _ us hl => (match us, hl with | [_, _], _ => rfl)
theorem bd_l_lines {K : PySem.W.Frag} {f : Addr} {fd : FuncData} (F : Fun K "_law_lines" "_law_lines" s_l_lines f fd) : Binds K fd ["_law_script", "_law_sizes"] [] := F.binds fun _ _ _ _ _ _ us hl => (match us, hl with | [_, _], _ => rfl)
theorem bd_Hall_belts {K : PySem.W.Frag} {f : Addr} {fd : FuncData} (F : Fun K "belts" "Hall.belts" s_Hall_belts f fd) : Binds K fd ["self"] [] := F.binds fun _ _ _ _ _ _ us hl => (match us, hl with | [_], _ => rfl)
theorem bd_Hall_names {K : PySem.W.Frag} {f : Addr} {fd : FuncData} (F : Fun K "names" "Hall.names" s_Hall_names f fd) : Binds K fd ["self"] [] := F.binds fun _ _ _ _ _ _ us hl => (match us, hl with | [_], _ => rfl)
theorem bd_ways_of {K : PySem.W.Frag} {f : Addr} {fd : FuncData} (F : Fun K "ways_of" "ways_of" s_ways_of f fd) : Binds K fd ["hall"] [] := F.binds fun _ _ _ _ _ _ us hl => (match us, hl with | [_], _ => rfl)
theorem bd_tree_from {K : PySem.W.Frag} {f : Addr} {fd : FuncData} (F : Fun K "tree_from" "tree_from" s_tree_from f fd) : Binds K fd ["ways", "first"] [] := F.binds fun _ _ _ _ _ _ us hl => (match us, hl with | [_, _], _ => rfl)
theorem bd_forest_of {K : PySem.W.Frag} {f : Addr} {fd : FuncData} (F : Fun K "forest_of" "forest_of" s_forest_of f fd) : Binds K fd ["hall"] [] := F.binds fun _ _ _ _ _ _ us hl => (match us, hl with | [_], _ => rfl)
theorem bd_divisor {K : PySem.W.Frag} {f : Addr} {fd : FuncData} (F : Fun K "divisor" "divisor" s_divisor f fd) : Binds K fd ["one", "other"] [] := F.binds fun _ _ _ _ _ _ us hl => (match us, hl with | [_, _], _ => rfl)
theorem bd_ratio {K : PySem.W.Frag} {f : Addr} {fd : FuncData} (F : Fun K "ratio" "ratio" s_ratio f fd) : Binds K fd ["top", "bottom"] [] := F.binds fun _ _ _ _ _ _ us hl => (match us, hl with | [_, _], _ => rfl)
theorem bd_times {K : PySem.W.Frag} {f : Addr} {fd : FuncData} (F : Fun K "times" "times" s_times f fd) : Binds K fd ["one", "other"] [] := F.binds fun _ _ _ _ _ _ us hl => (match us, hl with | [_, _], _ => rfl)
theorem bd_gain {K : PySem.W.Frag} {f : Addr} {fd : FuncData} (F : Fun K "gain" "gain" s_gain f fd) : Binds K fd ["row", "along"] [] := F.binds fun _ _ _ _ _ _ us hl => (match us, hl with | [_, _], _ => rfl)
theorem bd_is_whole {K : PySem.W.Frag} {f : Addr} {fd : FuncData} (F : Fun K "is_whole" "is_whole" s_is_whole f fd) : Binds K fd ["thing"] [] := F.binds fun _ _ _ _ _ _ us hl => (match us, hl with | [_], _ => rfl)
theorem bd_is_from {K : PySem.W.Frag} {f : Addr} {fd : FuncData} (F : Fun K "is_from" "is_from" s_is_from f fd) : Binds K fd ["thing", "least"] [] := F.binds fun _ _ _ _ _ _ us hl => (match us, hl with | [_, _], _ => rfl)
theorem bd_is_number_below {K : PySem.W.Frag} {f : Addr} {fd : FuncData} (F : Fun K "is_number_below" "is_number_below" s_is_number_below f fd) : Binds K fd ["thing", "bound"] [] := F.binds fun _ _ _ _ _ _ us hl => (match us, hl with | [_, _], _ => rfl)
theorem bd_Hall_need_belt {K : PySem.W.Frag} {f : Addr} {fd : FuncData} (F : Fun K "need_belt" "Hall.need_belt" s_Hall_need_belt f fd) : Binds K fd ["self", "belt"] [] := F.binds fun _ _ _ _ _ _ us hl => (match us, hl with | [_, _], _ => rfl)
theorem bd_Hall_belt_at {K : PySem.W.Frag} {f : Addr} {fd : FuncData} (F : Fun K "belt_at" "Hall.belt_at" s_Hall_belt_at f fd) : Binds K fd ["self", "belt"] [] := F.binds fun _ _ _ _ _ _ us hl => (match us, hl with | [_, _], _ => rfl)
theorem bd_shares_of {K : PySem.W.Frag} {f : Addr} {fd : FuncData} (F : Fun K "shares_of" "shares_of" s_shares_of f fd) : Binds K fd ["hall", "tree"] [] := F.binds fun _ _ _ _ _ _ us hl => (match us, hl with | [_, _], _ => rfl)
theorem bd_multiple {K : PySem.W.Frag} {f : Addr} {fd : FuncData} (F : Fun K "multiple" "multiple" s_multiple f fd) : Binds K fd ["one", "other"] [] := F.binds fun _ _ _ _ _ _ us hl => (match us, hl with | [_, _], _ => rfl)
theorem bd_rates_by {K : PySem.W.Frag} {f : Addr} {fd : FuncData} (F : Fun K "rates_by" "rates_by" s_rates_by f fd) : Binds K fd ["hall", "forest"] [] := F.binds fun _ _ _ _ _ _ us hl => (match us, hl with | [_, _], _ => rfl)
theorem bd_change_of {K : PySem.W.Frag} {f : Addr} {fd : FuncData} (F : Fun K "change_of" "change_of" s_change_of f fd) : Binds K fd ["hall", "counts"] [] := F.binds fun _ _ _ _ _ _ us hl => (match us, hl with | [_, _], _ => rfl)
theorem bd_way_to {K : PySem.W.Frag} {f : Addr} {fd : FuncData} (F : Fun K "way_to" "way_to" s_way_to f fd) : Binds K fd ["tree", "work"] [] := F.binds fun _ _ _ _ _ _ us hl => (match us, hl with | [_, _], _ => rfl)
theorem bd_shared_steps {K : PySem.W.Frag} {f : Addr} {fd : FuncData} (F : Fun K "shared_steps" "shared_steps" s_shared_steps f fd) : Binds K fd ["one", "other"] [] := F.binds fun _ _ _ _ _ _ us hl => (match us, hl with | [_, _], _ => rfl)
theorem bd_ring_through {K : PySem.W.Frag} {f : Addr} {fd : FuncData} (F : Fun K "ring_through" "ring_through" s_ring_through f fd) : Binds K fd ["hall", "forest", "belt"] [] := F.binds fun _ _ _ _ _ _ us hl => (match us, hl with | [_, _, _], _ => rfl)
theorem bd_rates_of {K : PySem.W.Frag} {f : Addr} {fd : FuncData} (F : Fun K "rates_of" "rates_of" s_rates_of f fd) : Binds K fd ["hall"] [] := F.binds fun _ _ _ _ _ _ us hl => (match us, hl with | [_], _ => rfl)
theorem bd_l_reached {K : PySem.W.Frag} {f : Addr} {fd : FuncData} (F : Fun K "_law_reached" "_law_reached" s_l_reached f fd) : Binds K fd ["_law_lines_here", "_law_first", "_law_many"] [] := F.binds fun _ _ _ _ _ _ us hl => (match us, hl with | [_, _, _], _ => rfl)
theorem bd_l_counts {K : PySem.W.Frag} {f : Addr} {fd : FuncData} (F : Fun K "_law_counts" "_law_counts" s_l_counts f fd) : Binds K fd ["_law_script", "_law_sizes", "_law_rates", "_law_lines_here"] [] := F.binds fun _ _ _ _ _ _ us hl => (match us, hl with | [_, _, _, _], _ => rfl)
theorem bd_l_long {K : PySem.W.Frag} {f : Addr} {fd : FuncData} (F : Fun K "_law_long" "_law_long" s_l_long f fd) : Binds K fd ["_law_script", "_law_sizes"] [] := F.binds fun _ _ _ _ _ _ us hl => (match us, hl with | [_, _], _ => rfl)
theorem bd_l_name {K : PySem.W.Frag} {f : Addr} {fd : FuncData} (F : Fun K "_law_name" "_law_name" s_l_name f fd) : Binds K fd ["_law_k"] [] := F.binds fun _ _ _ _ _ _ us hl => (match us, hl with | [_], _ => rfl)
theorem bd_l_ring_good {K : PySem.W.Frag} {f : Addr} {fd : FuncData} (F : Fun K "_law_ring_good" "_law_ring_good" s_l_ring_good f fd) : Binds K fd ["_law_ring", "_law_lines_here"] [] := F.binds fun _ _ _ _ _ _ us hl => (match us, hl with | [_, _], _ => rfl)
theorem bd_l_rates_good {K : PySem.W.Frag} {f : Addr} {fd : FuncData} (F : Fun K "_law_rates_good" "_law_rates_good" s_l_rates_good f fd) : Binds K fd ["_law_rates", "_law_lines_here", "_law_many"] [] := F.binds fun _ _ _ _ _ _ us hl => (match us, hl with | [_, _, _], _ => rfl)
theorem bd_is_name {K : PySem.W.Frag} {f : Addr} {fd : FuncData} (F : Fun K "is_name" "is_name" s_is_name f fd) : Binds K fd ["thing"] [] := F.binds fun _ _ _ _ _ _ us hl => (match us, hl with | [_], _ => rfl)
theorem bd_Hall_work {K : PySem.W.Frag} {f : Addr} {fd : FuncData} (F : Fun K "work" "Hall.work" s_Hall_work f fd) : Binds K fd ["self", "name"] [] := F.binds fun _ _ _ _ _ _ us hl => (match us, hl with | [_, _], _ => rfl)
theorem bd_need_start {K : PySem.W.Frag} {f : Addr} {fd : FuncData} (F : Fun K "need_start" "need_start" s_need_start f fd) : Binds K fd ["start"] [] := F.binds fun _ _ _ _ _ _ us hl => (match us, hl with | [_], _ => rfl)
theorem bd_Hall_need_work {K : PySem.W.Frag} {f : Addr} {fd : FuncData} (F : Fun K "need_work" "Hall.need_work" s_Hall_need_work f fd) : Binds K fd ["self", "work"] [] := F.binds fun _ _ _ _ _ _ us hl => (match us, hl with | [_, _], _ => rfl)
theorem bd_Hall_lay {K : PySem.W.Frag} {f : Addr} {fd : FuncData} (F : Fun K "lay" "Hall.lay" s_Hall_lay f fd) : Binds K fd ["self", "row"] [] := F.binds fun _ _ _ _ _ _ us hl => (match us, hl with | [_, _], _ => rfl)
theorem bd_Hall_init {K : PySem.W.Frag} {f : Addr} {fd : FuncData} (F : Fun K "__init__" "Hall.__init__" s_Hall_init f fd) : Binds K fd ["self"] [] := F.binds fun _ _ _ _ _ _ us hl => (match us, hl with | [_], _ => rfl)
theorem bd_law {K : PySem.W.Frag} {f : Addr} {fd : FuncData} (F : Fun K "law" "law" s_law f fd) : Binds K fd ["_law_script"] [] := F.binds fun _ _ _ _ _ _ us hl => (match us, hl with | [_], _ => rfl)
theorem tp_mk {K : PySem.W.Frag} {h : Heap} {mg : Str → Option Value} (X : K.In h) (G : h.Ns mainGlobals mg)
    {C_Hall : Addr}
    {X_NoName : Addr}
    {X_Twice : Addr}
    {X_TooMuch : Addr}
    {X_NoWork : Addr}
    {X_NoBelt : Addr}
    {X_NoRate : Addr}
    {tk_MOST_LETTERS : Tok}
    {tk_MOST_WORKS : Tok}
    {tk_MOST_BELTS : Tok}
    {dT_Hall_belt : Addr} {od2_Hall_belt : Option Addr} {sl2_Hall_belt : Array (Option Value)} {n2_Hall_belt : Nat} {oc2_Hall_belt : Value} {dk0_Hall_belt : Tok}
    {f_l_cell : Addr} {od_l_cell an_l_cell : Option Addr} {sl_l_cell : Array (Option Value)} {oc_l_cell kV_l_cell dc_l_cell pm_l_cell cd_l_cell ct_l_cell : Value}
    {f_l_mixed : Addr} {od_l_mixed an_l_mixed : Option Addr} {sl_l_mixed : Array (Option Value)} {oc_l_mixed kV_l_mixed dc_l_mixed pm_l_mixed cd_l_mixed ct_l_mixed : Value}
    {f_l_divisor : Addr} {od_l_divisor an_l_divisor : Option Addr} {sl_l_divisor : Array (Option Value)} {oc_l_divisor kV_l_divisor dc_l_divisor pm_l_divisor cd_l_divisor ct_l_divisor : Value}
    {f_l_lines : Addr} {od_l_lines an_l_lines : Option Addr} {sl_l_lines : Array (Option Value)} {oc_l_lines kV_l_lines dc_l_lines pm_l_lines cd_l_lines ct_l_lines : Value}
    {f_Hall_belts : Addr} {od_Hall_belts an_Hall_belts : Option Addr} {sl_Hall_belts : Array (Option Value)} {oc_Hall_belts kV_Hall_belts dc_Hall_belts pm_Hall_belts cd_Hall_belts ct_Hall_belts : Value}
    {f_Hall_names : Addr} {od_Hall_names an_Hall_names : Option Addr} {sl_Hall_names : Array (Option Value)} {oc_Hall_names kV_Hall_names dc_Hall_names pm_Hall_names cd_Hall_names ct_Hall_names : Value}
    {f_ways_of : Addr} {od_ways_of an_ways_of : Option Addr} {sl_ways_of : Array (Option Value)} {oc_ways_of kV_ways_of dc_ways_of pm_ways_of cd_ways_of ct_ways_of : Value}
    {f_tree_from : Addr} {od_tree_from an_tree_from : Option Addr} {sl_tree_from : Array (Option Value)} {oc_tree_from kV_tree_from dc_tree_from pm_tree_from cd_tree_from ct_tree_from : Value}
    {f_forest_of : Addr} {od_forest_of an_forest_of : Option Addr} {sl_forest_of : Array (Option Value)} {oc_forest_of kV_forest_of dc_forest_of pm_forest_of cd_forest_of ct_forest_of : Value}
    {f_divisor : Addr} {od_divisor an_divisor : Option Addr} {sl_divisor : Array (Option Value)} {oc_divisor kV_divisor dc_divisor pm_divisor cd_divisor ct_divisor : Value}
    {f_ratio : Addr} {od_ratio an_ratio : Option Addr} {sl_ratio : Array (Option Value)} {oc_ratio kV_ratio dc_ratio pm_ratio cd_ratio ct_ratio : Value}
    {f_times : Addr} {od_times an_times : Option Addr} {sl_times : Array (Option Value)} {oc_times kV_times dc_times pm_times cd_times ct_times : Value}
    {f_gain : Addr} {od_gain an_gain : Option Addr} {sl_gain : Array (Option Value)} {oc_gain kV_gain dc_gain pm_gain cd_gain ct_gain : Value}
    {f_is_whole : Addr} {od_is_whole an_is_whole : Option Addr} {sl_is_whole : Array (Option Value)} {oc_is_whole kV_is_whole dc_is_whole pm_is_whole cd_is_whole ct_is_whole : Value}
    {f_is_from : Addr} {od_is_from an_is_from : Option Addr} {sl_is_from : Array (Option Value)} {oc_is_from kV_is_from dc_is_from pm_is_from cd_is_from ct_is_from : Value}
    {f_is_number_below : Addr} {od_is_number_below an_is_number_below : Option Addr} {sl_is_number_below : Array (Option Value)} {oc_is_number_below kV_is_number_below dc_is_number_below pm_is_number_below cd_is_number_below ct_is_number_below : Value}
    {f_Hall_need_belt : Addr} {od_Hall_need_belt an_Hall_need_belt : Option Addr} {sl_Hall_need_belt : Array (Option Value)} {oc_Hall_need_belt kV_Hall_need_belt dc_Hall_need_belt pm_Hall_need_belt cd_Hall_need_belt ct_Hall_need_belt : Value}
    {f_Hall_belt_at : Addr} {od_Hall_belt_at an_Hall_belt_at : Option Addr} {sl_Hall_belt_at : Array (Option Value)} {oc_Hall_belt_at kV_Hall_belt_at dc_Hall_belt_at pm_Hall_belt_at cd_Hall_belt_at ct_Hall_belt_at : Value}
    {f_shares_of : Addr} {od_shares_of an_shares_of : Option Addr} {sl_shares_of : Array (Option Value)} {oc_shares_of kV_shares_of dc_shares_of pm_shares_of cd_shares_of ct_shares_of : Value}
    {f_multiple : Addr} {od_multiple an_multiple : Option Addr} {sl_multiple : Array (Option Value)} {oc_multiple kV_multiple dc_multiple pm_multiple cd_multiple ct_multiple : Value}
    {f_rates_by : Addr} {od_rates_by an_rates_by : Option Addr} {sl_rates_by : Array (Option Value)} {oc_rates_by kV_rates_by dc_rates_by pm_rates_by cd_rates_by ct_rates_by : Value}
    {f_change_of : Addr} {od_change_of an_change_of : Option Addr} {sl_change_of : Array (Option Value)} {oc_change_of kV_change_of dc_change_of pm_change_of cd_change_of ct_change_of : Value}
    {f_way_to : Addr} {od_way_to an_way_to : Option Addr} {sl_way_to : Array (Option Value)} {oc_way_to kV_way_to dc_way_to pm_way_to cd_way_to ct_way_to : Value}
    {f_shared_steps : Addr} {od_shared_steps an_shared_steps : Option Addr} {sl_shared_steps : Array (Option Value)} {oc_shared_steps kV_shared_steps dc_shared_steps pm_shared_steps cd_shared_steps ct_shared_steps : Value}
    {f_ring_through : Addr} {od_ring_through an_ring_through : Option Addr} {sl_ring_through : Array (Option Value)} {oc_ring_through kV_ring_through dc_ring_through pm_ring_through cd_ring_through ct_ring_through : Value}
    {f_rates_of : Addr} {od_rates_of an_rates_of : Option Addr} {sl_rates_of : Array (Option Value)} {oc_rates_of kV_rates_of dc_rates_of pm_rates_of cd_rates_of ct_rates_of : Value}
    {f_l_reached : Addr} {od_l_reached an_l_reached : Option Addr} {sl_l_reached : Array (Option Value)} {oc_l_reached kV_l_reached dc_l_reached pm_l_reached cd_l_reached ct_l_reached : Value}
    {f_l_counts : Addr} {od_l_counts an_l_counts : Option Addr} {sl_l_counts : Array (Option Value)} {oc_l_counts kV_l_counts dc_l_counts pm_l_counts cd_l_counts ct_l_counts : Value}
    {f_l_long : Addr} {od_l_long an_l_long : Option Addr} {sl_l_long : Array (Option Value)} {oc_l_long kV_l_long dc_l_long pm_l_long cd_l_long ct_l_long : Value}
    {f_l_name : Addr} {od_l_name an_l_name : Option Addr} {sl_l_name : Array (Option Value)} {oc_l_name kV_l_name dc_l_name pm_l_name cd_l_name ct_l_name : Value}
    {f_l_ring_good : Addr} {od_l_ring_good an_l_ring_good : Option Addr} {sl_l_ring_good : Array (Option Value)} {oc_l_ring_good kV_l_ring_good dc_l_ring_good pm_l_ring_good cd_l_ring_good ct_l_ring_good : Value}
    {f_l_rates_good : Addr} {od_l_rates_good an_l_rates_good : Option Addr} {sl_l_rates_good : Array (Option Value)} {oc_l_rates_good kV_l_rates_good dc_l_rates_good pm_l_rates_good cd_l_rates_good ct_l_rates_good : Value}
    {f_is_name : Addr} {od_is_name an_is_name : Option Addr} {sl_is_name : Array (Option Value)} {oc_is_name kV_is_name dc_is_name pm_is_name cd_is_name ct_is_name : Value}
    {f_Hall_work : Addr} {od_Hall_work an_Hall_work : Option Addr} {sl_Hall_work : Array (Option Value)} {oc_Hall_work kV_Hall_work dc_Hall_work pm_Hall_work cd_Hall_work ct_Hall_work : Value}
    {f_need_start : Addr} {od_need_start an_need_start : Option Addr} {sl_need_start : Array (Option Value)} {oc_need_start kV_need_start dc_need_start pm_need_start cd_need_start ct_need_start : Value}
    {f_Hall_need_work : Addr} {od_Hall_need_work an_Hall_need_work : Option Addr} {sl_Hall_need_work : Array (Option Value)} {oc_Hall_need_work kV_Hall_need_work dc_Hall_need_work pm_Hall_need_work cd_Hall_need_work ct_Hall_need_work : Value}
    {f_Hall_lay : Addr} {od_Hall_lay an_Hall_lay : Option Addr} {sl_Hall_lay : Array (Option Value)} {oc_Hall_lay kV_Hall_lay dc_Hall_lay pm_Hall_lay cd_Hall_lay ct_Hall_lay : Value}
    {f_Hall_belt : Addr} {od_Hall_belt an_Hall_belt : Option Addr} {sl_Hall_belt : Array (Option Value)} {oc_Hall_belt kV_Hall_belt dc_Hall_belt pm_Hall_belt cd_Hall_belt ct_Hall_belt : Value}
    {f_Hall_init : Addr} {od_Hall_init an_Hall_init : Option Addr} {sl_Hall_init : Array (Option Value)} {oc_Hall_init kV_Hall_init dc_Hall_init pm_Hall_init cd_Hall_init ct_Hall_init : Value}
    {f_law : Addr} {od_law an_law : Option Addr} {sl_law : Array (Option Value)} {oc_law kV_law dc_law pm_law cd_law ct_law : Value}
    (a_Hall : PySem.W.nsIn K mainGlobals "Hall" = some (some (.ref C_Hall)))
    (a_l_cell : PySem.W.nsIn K mainGlobals "_law_cell" = some (some (.ref f_l_cell)))
    (l_l_cell : K.lookup f_l_cell = some ⟨oc_l_cell, od_l_cell, .func (PySem.W.fnOf "_law_cell" "_law_cell" (defArgs s_l_cell) (defBody s_l_cell) (defScope s_l_cell) .none kV_l_cell dc_l_cell pm_l_cell an_l_cell cd_l_cell ct_l_cell), sl_l_cell⟩)
    (c_l_cell : PySem.W.codeIn K cd_l_cell "_law_cell" = true)
    (k_l_cell : PySem.W.keepIn K (.ref f_l_cell) = true)
    (a_l_mixed : PySem.W.nsIn K mainGlobals "_law_mixed" = some (some (.ref f_l_mixed)))
    (l_l_mixed : K.lookup f_l_mixed = some ⟨oc_l_mixed, od_l_mixed, .func (PySem.W.fnOf "_law_mixed" "_law_mixed" (defArgs s_l_mixed) (defBody s_l_mixed) (defScope s_l_mixed) .none kV_l_mixed dc_l_mixed pm_l_mixed an_l_mixed cd_l_mixed ct_l_mixed), sl_l_mixed⟩)
    (c_l_mixed : PySem.W.codeIn K cd_l_mixed "_law_mixed" = true)
    (k_l_mixed : PySem.W.keepIn K (.ref f_l_mixed) = true)
    (a_l_divisor : PySem.W.nsIn K mainGlobals "_law_divisor" = some (some (.ref f_l_divisor)))
    (l_l_divisor : K.lookup f_l_divisor = some ⟨oc_l_divisor, od_l_divisor, .func (PySem.W.fnOf "_law_divisor" "_law_divisor" (defArgs s_l_divisor) (defBody s_l_divisor) (defScope s_l_divisor) .none kV_l_divisor dc_l_divisor pm_l_divisor an_l_divisor cd_l_divisor ct_l_divisor), sl_l_divisor⟩)
    (c_l_divisor : PySem.W.codeIn K cd_l_divisor "_law_divisor" = true)
    (k_l_divisor : PySem.W.keepIn K (.ref f_l_divisor) = true)
    (a_l_lines : PySem.W.nsIn K mainGlobals "_law_lines" = some (some (.ref f_l_lines)))
    (l_l_lines : K.lookup f_l_lines = some ⟨oc_l_lines, od_l_lines, .func (PySem.W.fnOf "_law_lines" "_law_lines" (defArgs s_l_lines) (defBody s_l_lines) (defScope s_l_lines) .none kV_l_lines dc_l_lines pm_l_lines an_l_lines cd_l_lines ct_l_lines), sl_l_lines⟩)
    (c_l_lines : PySem.W.codeIn K cd_l_lines "_law_lines" = true)
    (k_l_lines : PySem.W.keepIn K (.ref f_l_lines) = true)
    (a_Hall_belts : PySem.W.findIn K (.ref C_Hall) "belts" = some (some (.ref f_Hall_belts)))
    (i_Hall_belts : PySem.W.isFn K (.ref f_Hall_belts) = true)
    (l_Hall_belts : K.lookup f_Hall_belts = some ⟨oc_Hall_belts, od_Hall_belts, .func (PySem.W.fnOf "belts" "Hall.belts" (defArgs s_Hall_belts) (defBody s_Hall_belts) (defScope s_Hall_belts) .none kV_Hall_belts dc_Hall_belts pm_Hall_belts an_Hall_belts cd_Hall_belts ct_Hall_belts), sl_Hall_belts⟩)
    (c_Hall_belts : PySem.W.codeIn K cd_Hall_belts "Hall.belts" = true)
    (k_Hall_belts : PySem.W.keepIn K (.ref f_Hall_belts) = true)
    (a_Hall_names : PySem.W.findIn K (.ref C_Hall) "names" = some (some (.ref f_Hall_names)))
    (i_Hall_names : PySem.W.isFn K (.ref f_Hall_names) = true)
    (l_Hall_names : K.lookup f_Hall_names = some ⟨oc_Hall_names, od_Hall_names, .func (PySem.W.fnOf "names" "Hall.names" (defArgs s_Hall_names) (defBody s_Hall_names) (defScope s_Hall_names) .none kV_Hall_names dc_Hall_names pm_Hall_names an_Hall_names cd_Hall_names ct_Hall_names), sl_Hall_names⟩)
    (c_Hall_names : PySem.W.codeIn K cd_Hall_names "Hall.names" = true)
    (k_Hall_names : PySem.W.keepIn K (.ref f_Hall_names) = true)
    (a_ways_of : PySem.W.nsIn K mainGlobals "ways_of" = some (some (.ref f_ways_of)))
    (l_ways_of : K.lookup f_ways_of = some ⟨oc_ways_of, od_ways_of, .func (PySem.W.fnOf "ways_of" "ways_of" (defArgs s_ways_of) (defBody s_ways_of) (defScope s_ways_of) .none kV_ways_of dc_ways_of pm_ways_of an_ways_of cd_ways_of ct_ways_of), sl_ways_of⟩)
    (c_ways_of : PySem.W.codeIn K cd_ways_of "ways_of" = true)
    (k_ways_of : PySem.W.keepIn K (.ref f_ways_of) = true)
    (a_tree_from : PySem.W.nsIn K mainGlobals "tree_from" = some (some (.ref f_tree_from)))
    (l_tree_from : K.lookup f_tree_from = some ⟨oc_tree_from, od_tree_from, .func (PySem.W.fnOf "tree_from" "tree_from" (defArgs s_tree_from) (defBody s_tree_from) (defScope s_tree_from) .none kV_tree_from dc_tree_from pm_tree_from an_tree_from cd_tree_from ct_tree_from), sl_tree_from⟩)
    (c_tree_from : PySem.W.codeIn K cd_tree_from "tree_from" = true)
    (k_tree_from : PySem.W.keepIn K (.ref f_tree_from) = true)
    (a_forest_of : PySem.W.nsIn K mainGlobals "forest_of" = some (some (.ref f_forest_of)))
    (l_forest_of : K.lookup f_forest_of = some ⟨oc_forest_of, od_forest_of, .func (PySem.W.fnOf "forest_of" "forest_of" (defArgs s_forest_of) (defBody s_forest_of) (defScope s_forest_of) .none kV_forest_of dc_forest_of pm_forest_of an_forest_of cd_forest_of ct_forest_of), sl_forest_of⟩)
    (c_forest_of : PySem.W.codeIn K cd_forest_of "forest_of" = true)
    (k_forest_of : PySem.W.keepIn K (.ref f_forest_of) = true)
    (a_divisor : PySem.W.nsIn K mainGlobals "divisor" = some (some (.ref f_divisor)))
    (l_divisor : K.lookup f_divisor = some ⟨oc_divisor, od_divisor, .func (PySem.W.fnOf "divisor" "divisor" (defArgs s_divisor) (defBody s_divisor) (defScope s_divisor) .none kV_divisor dc_divisor pm_divisor an_divisor cd_divisor ct_divisor), sl_divisor⟩)
    (c_divisor : PySem.W.codeIn K cd_divisor "divisor" = true)
    (k_divisor : PySem.W.keepIn K (.ref f_divisor) = true)
    (a_ratio : PySem.W.nsIn K mainGlobals "ratio" = some (some (.ref f_ratio)))
    (l_ratio : K.lookup f_ratio = some ⟨oc_ratio, od_ratio, .func (PySem.W.fnOf "ratio" "ratio" (defArgs s_ratio) (defBody s_ratio) (defScope s_ratio) .none kV_ratio dc_ratio pm_ratio an_ratio cd_ratio ct_ratio), sl_ratio⟩)
    (c_ratio : PySem.W.codeIn K cd_ratio "ratio" = true)
    (k_ratio : PySem.W.keepIn K (.ref f_ratio) = true)
    (a_times : PySem.W.nsIn K mainGlobals "times" = some (some (.ref f_times)))
    (l_times : K.lookup f_times = some ⟨oc_times, od_times, .func (PySem.W.fnOf "times" "times" (defArgs s_times) (defBody s_times) (defScope s_times) .none kV_times dc_times pm_times an_times cd_times ct_times), sl_times⟩)
    (c_times : PySem.W.codeIn K cd_times "times" = true)
    (k_times : PySem.W.keepIn K (.ref f_times) = true)
    (a_gain : PySem.W.nsIn K mainGlobals "gain" = some (some (.ref f_gain)))
    (l_gain : K.lookup f_gain = some ⟨oc_gain, od_gain, .func (PySem.W.fnOf "gain" "gain" (defArgs s_gain) (defBody s_gain) (defScope s_gain) .none kV_gain dc_gain pm_gain an_gain cd_gain ct_gain), sl_gain⟩)
    (c_gain : PySem.W.codeIn K cd_gain "gain" = true)
    (k_gain : PySem.W.keepIn K (.ref f_gain) = true)
    (a_is_whole : PySem.W.nsIn K mainGlobals "is_whole" = some (some (.ref f_is_whole)))
    (l_is_whole : K.lookup f_is_whole = some ⟨oc_is_whole, od_is_whole, .func (PySem.W.fnOf "is_whole" "is_whole" (defArgs s_is_whole) (defBody s_is_whole) (defScope s_is_whole) .none kV_is_whole dc_is_whole pm_is_whole an_is_whole cd_is_whole ct_is_whole), sl_is_whole⟩)
    (c_is_whole : PySem.W.codeIn K cd_is_whole "is_whole" = true)
    (k_is_whole : PySem.W.keepIn K (.ref f_is_whole) = true)
    (a_is_from : PySem.W.nsIn K mainGlobals "is_from" = some (some (.ref f_is_from)))
    (l_is_from : K.lookup f_is_from = some ⟨oc_is_from, od_is_from, .func (PySem.W.fnOf "is_from" "is_from" (defArgs s_is_from) (defBody s_is_from) (defScope s_is_from) .none kV_is_from dc_is_from pm_is_from an_is_from cd_is_from ct_is_from), sl_is_from⟩)
    (c_is_from : PySem.W.codeIn K cd_is_from "is_from" = true)
    (k_is_from : PySem.W.keepIn K (.ref f_is_from) = true)
    (a_is_number_below : PySem.W.nsIn K mainGlobals "is_number_below" = some (some (.ref f_is_number_below)))
    (l_is_number_below : K.lookup f_is_number_below = some ⟨oc_is_number_below, od_is_number_below, .func (PySem.W.fnOf "is_number_below" "is_number_below" (defArgs s_is_number_below) (defBody s_is_number_below) (defScope s_is_number_below) .none kV_is_number_below dc_is_number_below pm_is_number_below an_is_number_below cd_is_number_below ct_is_number_below), sl_is_number_below⟩)
    (c_is_number_below : PySem.W.codeIn K cd_is_number_below "is_number_below" = true)
    (k_is_number_below : PySem.W.keepIn K (.ref f_is_number_below) = true)
    (a_Hall_need_belt : PySem.W.findIn K (.ref C_Hall) "need_belt" = some (some (.ref f_Hall_need_belt)))
    (i_Hall_need_belt : PySem.W.isFn K (.ref f_Hall_need_belt) = true)
    (l_Hall_need_belt : K.lookup f_Hall_need_belt = some ⟨oc_Hall_need_belt, od_Hall_need_belt, .func (PySem.W.fnOf "need_belt" "Hall.need_belt" (defArgs s_Hall_need_belt) (defBody s_Hall_need_belt) (defScope s_Hall_need_belt) .none kV_Hall_need_belt dc_Hall_need_belt pm_Hall_need_belt an_Hall_need_belt cd_Hall_need_belt ct_Hall_need_belt), sl_Hall_need_belt⟩)
    (c_Hall_need_belt : PySem.W.codeIn K cd_Hall_need_belt "Hall.need_belt" = true)
    (k_Hall_need_belt : PySem.W.keepIn K (.ref f_Hall_need_belt) = true)
    (a_Hall_belt_at : PySem.W.findIn K (.ref C_Hall) "belt_at" = some (some (.ref f_Hall_belt_at)))
    (i_Hall_belt_at : PySem.W.isFn K (.ref f_Hall_belt_at) = true)
    (l_Hall_belt_at : K.lookup f_Hall_belt_at = some ⟨oc_Hall_belt_at, od_Hall_belt_at, .func (PySem.W.fnOf "belt_at" "Hall.belt_at" (defArgs s_Hall_belt_at) (defBody s_Hall_belt_at) (defScope s_Hall_belt_at) .none kV_Hall_belt_at dc_Hall_belt_at pm_Hall_belt_at an_Hall_belt_at cd_Hall_belt_at ct_Hall_belt_at), sl_Hall_belt_at⟩)
    (c_Hall_belt_at : PySem.W.codeIn K cd_Hall_belt_at "Hall.belt_at" = true)
    (k_Hall_belt_at : PySem.W.keepIn K (.ref f_Hall_belt_at) = true)
    (a_shares_of : PySem.W.nsIn K mainGlobals "shares_of" = some (some (.ref f_shares_of)))
    (l_shares_of : K.lookup f_shares_of = some ⟨oc_shares_of, od_shares_of, .func (PySem.W.fnOf "shares_of" "shares_of" (defArgs s_shares_of) (defBody s_shares_of) (defScope s_shares_of) .none kV_shares_of dc_shares_of pm_shares_of an_shares_of cd_shares_of ct_shares_of), sl_shares_of⟩)
    (c_shares_of : PySem.W.codeIn K cd_shares_of "shares_of" = true)
    (k_shares_of : PySem.W.keepIn K (.ref f_shares_of) = true)
    (a_multiple : PySem.W.nsIn K mainGlobals "multiple" = some (some (.ref f_multiple)))
    (l_multiple : K.lookup f_multiple = some ⟨oc_multiple, od_multiple, .func (PySem.W.fnOf "multiple" "multiple" (defArgs s_multiple) (defBody s_multiple) (defScope s_multiple) .none kV_multiple dc_multiple pm_multiple an_multiple cd_multiple ct_multiple), sl_multiple⟩)
    (c_multiple : PySem.W.codeIn K cd_multiple "multiple" = true)
    (k_multiple : PySem.W.keepIn K (.ref f_multiple) = true)
    (a_rates_by : PySem.W.nsIn K mainGlobals "rates_by" = some (some (.ref f_rates_by)))
    (l_rates_by : K.lookup f_rates_by = some ⟨oc_rates_by, od_rates_by, .func (PySem.W.fnOf "rates_by" "rates_by" (defArgs s_rates_by) (defBody s_rates_by) (defScope s_rates_by) .none kV_rates_by dc_rates_by pm_rates_by an_rates_by cd_rates_by ct_rates_by), sl_rates_by⟩)
    (c_rates_by : PySem.W.codeIn K cd_rates_by "rates_by" = true)
    (k_rates_by : PySem.W.keepIn K (.ref f_rates_by) = true)
    (a_change_of : PySem.W.nsIn K mainGlobals "change_of" = some (some (.ref f_change_of)))
    (l_change_of : K.lookup f_change_of = some ⟨oc_change_of, od_change_of, .func (PySem.W.fnOf "change_of" "change_of" (defArgs s_change_of) (defBody s_change_of) (defScope s_change_of) .none kV_change_of dc_change_of pm_change_of an_change_of cd_change_of ct_change_of), sl_change_of⟩)
    (c_change_of : PySem.W.codeIn K cd_change_of "change_of" = true)
    (k_change_of : PySem.W.keepIn K (.ref f_change_of) = true)
    (a_way_to : PySem.W.nsIn K mainGlobals "way_to" = some (some (.ref f_way_to)))
    (l_way_to : K.lookup f_way_to = some ⟨oc_way_to, od_way_to, .func (PySem.W.fnOf "way_to" "way_to" (defArgs s_way_to) (defBody s_way_to) (defScope s_way_to) .none kV_way_to dc_way_to pm_way_to an_way_to cd_way_to ct_way_to), sl_way_to⟩)
    (c_way_to : PySem.W.codeIn K cd_way_to "way_to" = true)
    (k_way_to : PySem.W.keepIn K (.ref f_way_to) = true)
    (a_shared_steps : PySem.W.nsIn K mainGlobals "shared_steps" = some (some (.ref f_shared_steps)))
    (l_shared_steps : K.lookup f_shared_steps = some ⟨oc_shared_steps, od_shared_steps, .func (PySem.W.fnOf "shared_steps" "shared_steps" (defArgs s_shared_steps) (defBody s_shared_steps) (defScope s_shared_steps) .none kV_shared_steps dc_shared_steps pm_shared_steps an_shared_steps cd_shared_steps ct_shared_steps), sl_shared_steps⟩)
    (c_shared_steps : PySem.W.codeIn K cd_shared_steps "shared_steps" = true)
    (k_shared_steps : PySem.W.keepIn K (.ref f_shared_steps) = true)
    (a_ring_through : PySem.W.nsIn K mainGlobals "ring_through" = some (some (.ref f_ring_through)))
    (l_ring_through : K.lookup f_ring_through = some ⟨oc_ring_through, od_ring_through, .func (PySem.W.fnOf "ring_through" "ring_through" (defArgs s_ring_through) (defBody s_ring_through) (defScope s_ring_through) .none kV_ring_through dc_ring_through pm_ring_through an_ring_through cd_ring_through ct_ring_through), sl_ring_through⟩)
    (c_ring_through : PySem.W.codeIn K cd_ring_through "ring_through" = true)
    (k_ring_through : PySem.W.keepIn K (.ref f_ring_through) = true)
    (a_rates_of : PySem.W.nsIn K mainGlobals "rates_of" = some (some (.ref f_rates_of)))
    (l_rates_of : K.lookup f_rates_of = some ⟨oc_rates_of, od_rates_of, .func (PySem.W.fnOf "rates_of" "rates_of" (defArgs s_rates_of) (defBody s_rates_of) (defScope s_rates_of) .none kV_rates_of dc_rates_of pm_rates_of an_rates_of cd_rates_of ct_rates_of), sl_rates_of⟩)
    (c_rates_of : PySem.W.codeIn K cd_rates_of "rates_of" = true)
    (k_rates_of : PySem.W.keepIn K (.ref f_rates_of) = true)
    (a_l_reached : PySem.W.nsIn K mainGlobals "_law_reached" = some (some (.ref f_l_reached)))
    (l_l_reached : K.lookup f_l_reached = some ⟨oc_l_reached, od_l_reached, .func (PySem.W.fnOf "_law_reached" "_law_reached" (defArgs s_l_reached) (defBody s_l_reached) (defScope s_l_reached) .none kV_l_reached dc_l_reached pm_l_reached an_l_reached cd_l_reached ct_l_reached), sl_l_reached⟩)
    (c_l_reached : PySem.W.codeIn K cd_l_reached "_law_reached" = true)
    (k_l_reached : PySem.W.keepIn K (.ref f_l_reached) = true)
    (a_l_counts : PySem.W.nsIn K mainGlobals "_law_counts" = some (some (.ref f_l_counts)))
    (l_l_counts : K.lookup f_l_counts = some ⟨oc_l_counts, od_l_counts, .func (PySem.W.fnOf "_law_counts" "_law_counts" (defArgs s_l_counts) (defBody s_l_counts) (defScope s_l_counts) .none kV_l_counts dc_l_counts pm_l_counts an_l_counts cd_l_counts ct_l_counts), sl_l_counts⟩)
    (c_l_counts : PySem.W.codeIn K cd_l_counts "_law_counts" = true)
    (k_l_counts : PySem.W.keepIn K (.ref f_l_counts) = true)
    (a_l_long : PySem.W.nsIn K mainGlobals "_law_long" = some (some (.ref f_l_long)))
    (l_l_long : K.lookup f_l_long = some ⟨oc_l_long, od_l_long, .func (PySem.W.fnOf "_law_long" "_law_long" (defArgs s_l_long) (defBody s_l_long) (defScope s_l_long) .none kV_l_long dc_l_long pm_l_long an_l_long cd_l_long ct_l_long), sl_l_long⟩)
    (c_l_long : PySem.W.codeIn K cd_l_long "_law_long" = true)
    (k_l_long : PySem.W.keepIn K (.ref f_l_long) = true)
    (a_l_name : PySem.W.nsIn K mainGlobals "_law_name" = some (some (.ref f_l_name)))
    (l_l_name : K.lookup f_l_name = some ⟨oc_l_name, od_l_name, .func (PySem.W.fnOf "_law_name" "_law_name" (defArgs s_l_name) (defBody s_l_name) (defScope s_l_name) .none kV_l_name dc_l_name pm_l_name an_l_name cd_l_name ct_l_name), sl_l_name⟩)
    (c_l_name : PySem.W.codeIn K cd_l_name "_law_name" = true)
    (k_l_name : PySem.W.keepIn K (.ref f_l_name) = true)
    (a_l_ring_good : PySem.W.nsIn K mainGlobals "_law_ring_good" = some (some (.ref f_l_ring_good)))
    (l_l_ring_good : K.lookup f_l_ring_good = some ⟨oc_l_ring_good, od_l_ring_good, .func (PySem.W.fnOf "_law_ring_good" "_law_ring_good" (defArgs s_l_ring_good) (defBody s_l_ring_good) (defScope s_l_ring_good) .none kV_l_ring_good dc_l_ring_good pm_l_ring_good an_l_ring_good cd_l_ring_good ct_l_ring_good), sl_l_ring_good⟩)
    (c_l_ring_good : PySem.W.codeIn K cd_l_ring_good "_law_ring_good" = true)
    (k_l_ring_good : PySem.W.keepIn K (.ref f_l_ring_good) = true)
    (a_l_rates_good : PySem.W.nsIn K mainGlobals "_law_rates_good" = some (some (.ref f_l_rates_good)))
    (l_l_rates_good : K.lookup f_l_rates_good = some ⟨oc_l_rates_good, od_l_rates_good, .func (PySem.W.fnOf "_law_rates_good" "_law_rates_good" (defArgs s_l_rates_good) (defBody s_l_rates_good) (defScope s_l_rates_good) .none kV_l_rates_good dc_l_rates_good pm_l_rates_good an_l_rates_good cd_l_rates_good ct_l_rates_good), sl_l_rates_good⟩)
    (c_l_rates_good : PySem.W.codeIn K cd_l_rates_good "_law_rates_good" = true)
    (k_l_rates_good : PySem.W.keepIn K (.ref f_l_rates_good) = true)
    (a_is_name : PySem.W.nsIn K mainGlobals "is_name" = some (some (.ref f_is_name)))
    (l_is_name : K.lookup f_is_name = some ⟨oc_is_name, od_is_name, .func (PySem.W.fnOf "is_name" "is_name" (defArgs s_is_name) (defBody s_is_name) (defScope s_is_name) .none kV_is_name dc_is_name pm_is_name an_is_name cd_is_name ct_is_name), sl_is_name⟩)
    (c_is_name : PySem.W.codeIn K cd_is_name "is_name" = true)
    (k_is_name : PySem.W.keepIn K (.ref f_is_name) = true)
    (a_Hall_work : PySem.W.findIn K (.ref C_Hall) "work" = some (some (.ref f_Hall_work)))
    (i_Hall_work : PySem.W.isFn K (.ref f_Hall_work) = true)
    (l_Hall_work : K.lookup f_Hall_work = some ⟨oc_Hall_work, od_Hall_work, .func (PySem.W.fnOf "work" "Hall.work" (defArgs s_Hall_work) (defBody s_Hall_work) (defScope s_Hall_work) .none kV_Hall_work dc_Hall_work pm_Hall_work an_Hall_work cd_Hall_work ct_Hall_work), sl_Hall_work⟩)
    (c_Hall_work : PySem.W.codeIn K cd_Hall_work "Hall.work" = true)
    (k_Hall_work : PySem.W.keepIn K (.ref f_Hall_work) = true)
    (a_need_start : PySem.W.nsIn K mainGlobals "need_start" = some (some (.ref f_need_start)))
    (l_need_start : K.lookup f_need_start = some ⟨oc_need_start, od_need_start, .func (PySem.W.fnOf "need_start" "need_start" (defArgs s_need_start) (defBody s_need_start) (defScope s_need_start) .none kV_need_start dc_need_start pm_need_start an_need_start cd_need_start ct_need_start), sl_need_start⟩)
    (c_need_start : PySem.W.codeIn K cd_need_start "need_start" = true)
    (k_need_start : PySem.W.keepIn K (.ref f_need_start) = true)
    (a_Hall_need_work : PySem.W.findIn K (.ref C_Hall) "need_work" = some (some (.ref f_Hall_need_work)))
    (i_Hall_need_work : PySem.W.isFn K (.ref f_Hall_need_work) = true)
    (l_Hall_need_work : K.lookup f_Hall_need_work = some ⟨oc_Hall_need_work, od_Hall_need_work, .func (PySem.W.fnOf "need_work" "Hall.need_work" (defArgs s_Hall_need_work) (defBody s_Hall_need_work) (defScope s_Hall_need_work) .none kV_Hall_need_work dc_Hall_need_work pm_Hall_need_work an_Hall_need_work cd_Hall_need_work ct_Hall_need_work), sl_Hall_need_work⟩)
    (c_Hall_need_work : PySem.W.codeIn K cd_Hall_need_work "Hall.need_work" = true)
    (k_Hall_need_work : PySem.W.keepIn K (.ref f_Hall_need_work) = true)
    (a_Hall_lay : PySem.W.findIn K (.ref C_Hall) "lay" = some (some (.ref f_Hall_lay)))
    (i_Hall_lay : PySem.W.isFn K (.ref f_Hall_lay) = true)
    (l_Hall_lay : K.lookup f_Hall_lay = some ⟨oc_Hall_lay, od_Hall_lay, .func (PySem.W.fnOf "lay" "Hall.lay" (defArgs s_Hall_lay) (defBody s_Hall_lay) (defScope s_Hall_lay) .none kV_Hall_lay dc_Hall_lay pm_Hall_lay an_Hall_lay cd_Hall_lay ct_Hall_lay), sl_Hall_lay⟩)
    (c_Hall_lay : PySem.W.codeIn K cd_Hall_lay "Hall.lay" = true)
    (k_Hall_lay : PySem.W.keepIn K (.ref f_Hall_lay) = true)
    (a_Hall_belt : PySem.W.findIn K (.ref C_Hall) "belt" = some (some (.ref f_Hall_belt)))
    (i_Hall_belt : PySem.W.isFn K (.ref f_Hall_belt) = true)
    (l_Hall_belt : K.lookup f_Hall_belt = some ⟨oc_Hall_belt, od_Hall_belt, .func (PySem.W.fnOf "belt" "Hall.belt" (defArgs s_Hall_belt) (defBody s_Hall_belt) (defScope s_Hall_belt) (.ref dT_Hall_belt) kV_Hall_belt dc_Hall_belt pm_Hall_belt an_Hall_belt cd_Hall_belt ct_Hall_belt), sl_Hall_belt⟩)
    (t_Hall_belt : K.lookup dT_Hall_belt = some ⟨oc2_Hall_belt, od2_Hall_belt, .seq #[.int 0 dk0_Hall_belt] n2_Hall_belt, sl2_Hall_belt⟩)
    (c_Hall_belt : PySem.W.codeIn K cd_Hall_belt "Hall.belt" = true)
    (k_Hall_belt : PySem.W.keepIn K (.ref f_Hall_belt) = true)
    (a_Hall_init : PySem.W.findIn K (.ref C_Hall) "__init__" = some (some (.ref f_Hall_init)))
    (i_Hall_init : PySem.W.isFn K (.ref f_Hall_init) = true)
    (l_Hall_init : K.lookup f_Hall_init = some ⟨oc_Hall_init, od_Hall_init, .func (PySem.W.fnOf "__init__" "Hall.__init__" (defArgs s_Hall_init) (defBody s_Hall_init) (defScope s_Hall_init) .none kV_Hall_init dc_Hall_init pm_Hall_init an_Hall_init cd_Hall_init ct_Hall_init), sl_Hall_init⟩)
    (c_Hall_init : PySem.W.codeIn K cd_Hall_init "Hall.__init__" = true)
    (k_Hall_init : PySem.W.keepIn K (.ref f_Hall_init) = true)
    (a_law : PySem.W.nsIn K mainGlobals "law" = some (some (.ref f_law)))
    (l_law : K.lookup f_law = some ⟨oc_law, od_law, .func (PySem.W.fnOf "law" "law" (defArgs s_law) (defBody s_law) (defScope s_law) .none kV_law dc_law pm_law an_law cd_law ct_law), sl_law⟩)
    (c_law : PySem.W.codeIn K cd_law "law" = true)
    (k_law : PySem.W.keepIn K (.ref f_law) = true)
    (pg_Hall : PySem.W.plainGet K C_Hall Str.empty = true)
    (hd_Hall : PySem.W.hasDictIn K C_Hall = true)
    (po_Hall : PySem.W.plainOver K C_Hall = true)
    (sa_Hall : PySem.W.findIn K (.ref C_Hall) "__setattr__" = some (some (.builtin "object.__setattr__")))
    (mk_Hall : PySem.W.makesIn K C_Hall = true)
    (kc_Hall : PySem.W.keepIn K (.ref C_Hall) = true)
    (na_Hall_numbers : PySem.W.findIn K (.ref C_Hall) "numbers" = some none)
    (na_Hall_rows : PySem.W.findIn K (.ref C_Hall) "rows" = some none)
    (gx_NoName : PySem.W.nsIn K mainGlobals "NoName" = some (some (.ref X_NoName)))
    (ex_NoName : PySem.W.excIn K X_NoName [.type "ValueError", .type "Exception", .type "BaseException", .type "object"] "ValueError.__new__" = true)
    (gx_Twice : PySem.W.nsIn K mainGlobals "Twice" = some (some (.ref X_Twice)))
    (ex_Twice : PySem.W.excIn K X_Twice [.type "ValueError", .type "Exception", .type "BaseException", .type "object"] "ValueError.__new__" = true)
    (gx_TooMuch : PySem.W.nsIn K mainGlobals "TooMuch" = some (some (.ref X_TooMuch)))
    (ex_TooMuch : PySem.W.excIn K X_TooMuch [.type "ValueError", .type "Exception", .type "BaseException", .type "object"] "ValueError.__new__" = true)
    (gx_NoWork : PySem.W.nsIn K mainGlobals "NoWork" = some (some (.ref X_NoWork)))
    (ex_NoWork : PySem.W.excIn K X_NoWork [.type "ValueError", .type "Exception", .type "BaseException", .type "object"] "ValueError.__new__" = true)
    (gx_NoBelt : PySem.W.nsIn K mainGlobals "NoBelt" = some (some (.ref X_NoBelt)))
    (ex_NoBelt : PySem.W.excIn K X_NoBelt [.type "ValueError", .type "Exception", .type "BaseException", .type "object"] "ValueError.__new__" = true)
    (gx_NoRate : PySem.W.nsIn K mainGlobals "NoRate" = some (some (.ref X_NoRate)))
    (ex_NoRate : PySem.W.excIn K X_NoRate [.type "ValueError", .type "Exception", .type "BaseException", .type "object"] "ValueError.__new__" = true)
    (c_MOST_LETTERS : PySem.W.nsIn K mainGlobals "MOST_LETTERS" = some (some (.int 8 tk_MOST_LETTERS)))
    (c_MOST_WORKS : PySem.W.nsIn K mainGlobals "MOST_WORKS" = some (some (.int 30 tk_MOST_WORKS)))
    (c_MOST_BELTS : PySem.W.nsIn K mainGlobals "MOST_BELTS" = some (some (.int 60 tk_MOST_BELTS)))
    (z_all : PySem.W.nsIn K mainGlobals "all" = some none)
    (z_bool : PySem.W.nsIn K mainGlobals "bool" = some none)
    (z_enumerate : PySem.W.nsIn K mainGlobals "enumerate" = some none)
    (z_int : PySem.W.nsIn K mainGlobals "int" = some none)
    (z_isinstance : PySem.W.nsIn K mainGlobals "isinstance" = some none)
    (z_len : PySem.W.nsIn K mainGlobals "len" = some none)
    (z_list : PySem.W.nsIn K mainGlobals "list" = some none)
    (z_min : PySem.W.nsIn K mainGlobals "min" = some none)
    (z_range : PySem.W.nsIn K mainGlobals "range" = some none)
    (z_reversed : PySem.W.nsIn K mainGlobals "reversed" = some none)
    (z_set : PySem.W.nsIn K mainGlobals "set" = some none)
    (z_str : PySem.W.nsIn K mainGlobals "str" = some none)
    (z_tuple : PySem.W.nsIn K mainGlobals "tuple" = some none)
    : ∃ T : Tp K mg, True := by
  have F_l_cell := fun_mk (st := s_l_cell) l_l_cell c_l_cell k_l_cell
  have F_l_mixed := fun_mk (st := s_l_mixed) l_l_mixed c_l_mixed k_l_mixed
  have F_l_divisor := fun_mk (st := s_l_divisor) l_l_divisor c_l_divisor k_l_divisor
  have F_l_lines := fun_mk (st := s_l_lines) l_l_lines c_l_lines k_l_lines
  have F_Hall_belts := fun_mk (st := s_Hall_belts) l_Hall_belts c_Hall_belts k_Hall_belts
  have F_Hall_names := fun_mk (st := s_Hall_names) l_Hall_names c_Hall_names k_Hall_names
  have F_ways_of := fun_mk (st := s_ways_of) l_ways_of c_ways_of k_ways_of
  have F_tree_from := fun_mk (st := s_tree_from) l_tree_from c_tree_from k_tree_from
  have F_forest_of := fun_mk (st := s_forest_of) l_forest_of c_forest_of k_forest_of
  have F_divisor := fun_mk (st := s_divisor) l_divisor c_divisor k_divisor
  have F_ratio := fun_mk (st := s_ratio) l_ratio c_ratio k_ratio
  have F_times := fun_mk (st := s_times) l_times c_times k_times
  have F_gain := fun_mk (st := s_gain) l_gain c_gain k_gain
  have F_is_whole := fun_mk (st := s_is_whole) l_is_whole c_is_whole k_is_whole
  have F_is_from := fun_mk (st := s_is_from) l_is_from c_is_from k_is_from
  have F_is_number_below := fun_mk (st := s_is_number_below) l_is_number_below c_is_number_below k_is_number_below
  have F_Hall_need_belt := fun_mk (st := s_Hall_need_belt) l_Hall_need_belt c_Hall_need_belt k_Hall_need_belt
  have F_Hall_belt_at := fun_mk (st := s_Hall_belt_at) l_Hall_belt_at c_Hall_belt_at k_Hall_belt_at
  have F_shares_of := fun_mk (st := s_shares_of) l_shares_of c_shares_of k_shares_of
  have F_multiple := fun_mk (st := s_multiple) l_multiple c_multiple k_multiple
  have F_rates_by := fun_mk (st := s_rates_by) l_rates_by c_rates_by k_rates_by
  have F_change_of := fun_mk (st := s_change_of) l_change_of c_change_of k_change_of
  have F_way_to := fun_mk (st := s_way_to) l_way_to c_way_to k_way_to
  have F_shared_steps := fun_mk (st := s_shared_steps) l_shared_steps c_shared_steps k_shared_steps
  have F_ring_through := fun_mk (st := s_ring_through) l_ring_through c_ring_through k_ring_through
  have F_rates_of := fun_mk (st := s_rates_of) l_rates_of c_rates_of k_rates_of
  have F_l_reached := fun_mk (st := s_l_reached) l_l_reached c_l_reached k_l_reached
  have F_l_counts := fun_mk (st := s_l_counts) l_l_counts c_l_counts k_l_counts
  have F_l_long := fun_mk (st := s_l_long) l_l_long c_l_long k_l_long
  have F_l_name := fun_mk (st := s_l_name) l_l_name c_l_name k_l_name
  have F_l_ring_good := fun_mk (st := s_l_ring_good) l_l_ring_good c_l_ring_good k_l_ring_good
  have F_l_rates_good := fun_mk (st := s_l_rates_good) l_l_rates_good c_l_rates_good k_l_rates_good
  have F_is_name := fun_mk (st := s_is_name) l_is_name c_is_name k_is_name
  have F_Hall_work := fun_mk (st := s_Hall_work) l_Hall_work c_Hall_work k_Hall_work
  have F_need_start := fun_mk (st := s_need_start) l_need_start c_need_start k_need_start
  have F_Hall_need_work := fun_mk (st := s_Hall_need_work) l_Hall_need_work c_Hall_need_work k_Hall_need_work
  have F_Hall_lay := fun_mk (st := s_Hall_lay) l_Hall_lay c_Hall_lay k_Hall_lay
  have F_Hall_belt := funD_mk (st := s_Hall_belt) l_Hall_belt c_Hall_belt k_Hall_belt
  have F_Hall_init := fun_mk (st := s_Hall_init) l_Hall_init c_Hall_init k_Hall_init
  have F_law := fun_mk (st := s_law) l_law c_law k_law
  exact ⟨{
    f_l_cell := f_l_cell, d_l_cell := _, F_l_cell := F_l_cell,
    b_l_cell := bd_l_cell F_l_cell,
    m_l_cell := PySem.W.mg_of X G a_l_cell,
    f_l_mixed := f_l_mixed, d_l_mixed := _, F_l_mixed := F_l_mixed,
    b_l_mixed := bd_l_mixed F_l_mixed,
    m_l_mixed := PySem.W.mg_of X G a_l_mixed,
    f_l_divisor := f_l_divisor, d_l_divisor := _, F_l_divisor := F_l_divisor,
    b_l_divisor := bd_l_divisor F_l_divisor,
    m_l_divisor := PySem.W.mg_of X G a_l_divisor,
    f_l_lines := f_l_lines, d_l_lines := _, F_l_lines := F_l_lines,
    b_l_lines := bd_l_lines F_l_lines,
    m_l_lines := PySem.W.mg_of X G a_l_lines,
    f_Hall_belts := f_Hall_belts, d_Hall_belts := _, F_Hall_belts := F_Hall_belts,
    b_Hall_belts := bd_Hall_belts F_Hall_belts,
    f_Hall_names := f_Hall_names, d_Hall_names := _, F_Hall_names := F_Hall_names,
    b_Hall_names := bd_Hall_names F_Hall_names,
    f_ways_of := f_ways_of, d_ways_of := _, F_ways_of := F_ways_of,
    b_ways_of := bd_ways_of F_ways_of,
    m_ways_of := PySem.W.mg_of X G a_ways_of,
    f_tree_from := f_tree_from, d_tree_from := _, F_tree_from := F_tree_from,
    b_tree_from := bd_tree_from F_tree_from,
    m_tree_from := PySem.W.mg_of X G a_tree_from,
    f_forest_of := f_forest_of, d_forest_of := _, F_forest_of := F_forest_of,
    b_forest_of := bd_forest_of F_forest_of,
    m_forest_of := PySem.W.mg_of X G a_forest_of,
    f_divisor := f_divisor, d_divisor := _, F_divisor := F_divisor,
    b_divisor := bd_divisor F_divisor,
    m_divisor := PySem.W.mg_of X G a_divisor,
    f_ratio := f_ratio, d_ratio := _, F_ratio := F_ratio,
    b_ratio := bd_ratio F_ratio,
    m_ratio := PySem.W.mg_of X G a_ratio,
    f_times := f_times, d_times := _, F_times := F_times,
    b_times := bd_times F_times,
    m_times := PySem.W.mg_of X G a_times,
    f_gain := f_gain, d_gain := _, F_gain := F_gain,
    b_gain := bd_gain F_gain,
    m_gain := PySem.W.mg_of X G a_gain,
    f_is_whole := f_is_whole, d_is_whole := _, F_is_whole := F_is_whole,
    b_is_whole := bd_is_whole F_is_whole,
    m_is_whole := PySem.W.mg_of X G a_is_whole,
    f_is_from := f_is_from, d_is_from := _, F_is_from := F_is_from,
    b_is_from := bd_is_from F_is_from,
    m_is_from := PySem.W.mg_of X G a_is_from,
    f_is_number_below := f_is_number_below, d_is_number_below := _, F_is_number_below := F_is_number_below,
    b_is_number_below := bd_is_number_below F_is_number_below,
    m_is_number_below := PySem.W.mg_of X G a_is_number_below,
    f_Hall_need_belt := f_Hall_need_belt, d_Hall_need_belt := _, F_Hall_need_belt := F_Hall_need_belt,
    b_Hall_need_belt := bd_Hall_need_belt F_Hall_need_belt,
    f_Hall_belt_at := f_Hall_belt_at, d_Hall_belt_at := _, F_Hall_belt_at := F_Hall_belt_at,
    b_Hall_belt_at := bd_Hall_belt_at F_Hall_belt_at,
    f_shares_of := f_shares_of, d_shares_of := _, F_shares_of := F_shares_of,
    b_shares_of := bd_shares_of F_shares_of,
    m_shares_of := PySem.W.mg_of X G a_shares_of,
    f_multiple := f_multiple, d_multiple := _, F_multiple := F_multiple,
    b_multiple := bd_multiple F_multiple,
    m_multiple := PySem.W.mg_of X G a_multiple,
    f_rates_by := f_rates_by, d_rates_by := _, F_rates_by := F_rates_by,
    b_rates_by := bd_rates_by F_rates_by,
    m_rates_by := PySem.W.mg_of X G a_rates_by,
    f_change_of := f_change_of, d_change_of := _, F_change_of := F_change_of,
    b_change_of := bd_change_of F_change_of,
    m_change_of := PySem.W.mg_of X G a_change_of,
    f_way_to := f_way_to, d_way_to := _, F_way_to := F_way_to,
    b_way_to := bd_way_to F_way_to,
    m_way_to := PySem.W.mg_of X G a_way_to,
    f_shared_steps := f_shared_steps, d_shared_steps := _, F_shared_steps := F_shared_steps,
    b_shared_steps := bd_shared_steps F_shared_steps,
    m_shared_steps := PySem.W.mg_of X G a_shared_steps,
    f_ring_through := f_ring_through, d_ring_through := _, F_ring_through := F_ring_through,
    b_ring_through := bd_ring_through F_ring_through,
    m_ring_through := PySem.W.mg_of X G a_ring_through,
    f_rates_of := f_rates_of, d_rates_of := _, F_rates_of := F_rates_of,
    b_rates_of := bd_rates_of F_rates_of,
    m_rates_of := PySem.W.mg_of X G a_rates_of,
    f_l_reached := f_l_reached, d_l_reached := _, F_l_reached := F_l_reached,
    b_l_reached := bd_l_reached F_l_reached,
    m_l_reached := PySem.W.mg_of X G a_l_reached,
    f_l_counts := f_l_counts, d_l_counts := _, F_l_counts := F_l_counts,
    b_l_counts := bd_l_counts F_l_counts,
    m_l_counts := PySem.W.mg_of X G a_l_counts,
    f_l_long := f_l_long, d_l_long := _, F_l_long := F_l_long,
    b_l_long := bd_l_long F_l_long,
    m_l_long := PySem.W.mg_of X G a_l_long,
    f_l_name := f_l_name, d_l_name := _, F_l_name := F_l_name,
    b_l_name := bd_l_name F_l_name,
    m_l_name := PySem.W.mg_of X G a_l_name,
    f_l_ring_good := f_l_ring_good, d_l_ring_good := _, F_l_ring_good := F_l_ring_good,
    b_l_ring_good := bd_l_ring_good F_l_ring_good,
    m_l_ring_good := PySem.W.mg_of X G a_l_ring_good,
    f_l_rates_good := f_l_rates_good, d_l_rates_good := _, F_l_rates_good := F_l_rates_good,
    b_l_rates_good := bd_l_rates_good F_l_rates_good,
    m_l_rates_good := PySem.W.mg_of X G a_l_rates_good,
    f_is_name := f_is_name, d_is_name := _, F_is_name := F_is_name,
    b_is_name := bd_is_name F_is_name,
    m_is_name := PySem.W.mg_of X G a_is_name,
    f_Hall_work := f_Hall_work, d_Hall_work := _, F_Hall_work := F_Hall_work,
    b_Hall_work := bd_Hall_work F_Hall_work,
    f_need_start := f_need_start, d_need_start := _, F_need_start := F_need_start,
    b_need_start := bd_need_start F_need_start,
    m_need_start := PySem.W.mg_of X G a_need_start,
    f_Hall_need_work := f_Hall_need_work, d_Hall_need_work := _, F_Hall_need_work := F_Hall_need_work,
    b_Hall_need_work := bd_Hall_need_work F_Hall_need_work,
    f_Hall_lay := f_Hall_lay, d_Hall_lay := _, F_Hall_lay := F_Hall_lay,
    b_Hall_lay := bd_Hall_lay F_Hall_lay,
    f_Hall_belt := f_Hall_belt, d_Hall_belt := _, F_Hall_belt := F_Hall_belt,
    dT_Hall_belt := dT_Hall_belt,
    dk0_Hall_belt := dk0_Hall_belt,
    b_Hall_belt := fun s us X hl => (match us, (show us.length = 6 by simpa using hl) with | [_, _, _, _, _, _], _ => PySem.W.binds_K X rfl t_Hall_belt rfl rfl rfl),
    b1_Hall_belt := fun s us X hl => (match us, (show us.length = 5 by simpa using hl) with | [_, _, _, _, _], _ => PySem.W.binds_K X rfl t_Hall_belt rfl rfl rfl),
    v1_Hall_belt := (.cons ⟨_, rfl⟩ .nil),
    f_Hall_init := f_Hall_init, d_Hall_init := _, F_Hall_init := F_Hall_init,
    b_Hall_init := bd_Hall_init F_Hall_init,
    f_law := f_law, d_law := _, F_law := F_law,
    b_law := bd_law F_law,
    m_law := PySem.W.mg_of X G a_law,
    C_Hall := C_Hall, cl_Hall := ⟨pg_Hall, hd_Hall, po_Hall, sa_Hall⟩, g_Hall := PySem.W.mg_of X G a_Hall,
    na_Hall := ⟨fun f hf => (by
      simp only [List.mem_cons, List.not_mem_nil, or_false] at hf
      rcases hf with rfl | rfl
      · exact na_Hall_numbers
      · exact na_Hall_rows)⟩,
    M_Hall_belts := ⟨a_Hall_belts, i_Hall_belts, k_Hall_belts⟩,
    M_Hall_names := ⟨a_Hall_names, i_Hall_names, k_Hall_names⟩,
    M_Hall_need_belt := ⟨a_Hall_need_belt, i_Hall_need_belt, k_Hall_need_belt⟩,
    M_Hall_belt_at := ⟨a_Hall_belt_at, i_Hall_belt_at, k_Hall_belt_at⟩,
    M_Hall_work := ⟨a_Hall_work, i_Hall_work, k_Hall_work⟩,
    M_Hall_need_work := ⟨a_Hall_need_work, i_Hall_need_work, k_Hall_need_work⟩,
    M_Hall_lay := ⟨a_Hall_lay, i_Hall_lay, k_Hall_lay⟩,
    M_Hall_belt := ⟨a_Hall_belt, i_Hall_belt, k_Hall_belt⟩,
    mk_Hall := ⟨mk_Hall, a_Hall_init, i_Hall_init, kc_Hall⟩,
    n_all := PySem.W.mg_none_of X G z_all,
    n_bool := PySem.W.mg_none_of X G z_bool,
    n_enumerate := PySem.W.mg_none_of X G z_enumerate,
    n_int := PySem.W.mg_none_of X G z_int,
    n_isinstance := PySem.W.mg_none_of X G z_isinstance,
    n_len := PySem.W.mg_none_of X G z_len,
    n_list := PySem.W.mg_none_of X G z_list,
    n_min := PySem.W.mg_none_of X G z_min,
    n_range := PySem.W.mg_none_of X G z_range,
    n_reversed := PySem.W.mg_none_of X G z_reversed,
    n_set := PySem.W.mg_none_of X G z_set,
    n_str := PySem.W.mg_none_of X G z_str,
    n_tuple := PySem.W.mg_none_of X G z_tuple,
    X_NoName := X_NoName, gx_NoName := gx_NoName, mx_NoName := PySem.W.mg_of X G gx_NoName, ex_NoName := ex_NoName,
    X_Twice := X_Twice, gx_Twice := gx_Twice, mx_Twice := PySem.W.mg_of X G gx_Twice, ex_Twice := ex_Twice,
    X_TooMuch := X_TooMuch, gx_TooMuch := gx_TooMuch, mx_TooMuch := PySem.W.mg_of X G gx_TooMuch, ex_TooMuch := ex_TooMuch,
    X_NoWork := X_NoWork, gx_NoWork := gx_NoWork, mx_NoWork := PySem.W.mg_of X G gx_NoWork, ex_NoWork := ex_NoWork,
    X_NoBelt := X_NoBelt, gx_NoBelt := gx_NoBelt, mx_NoBelt := PySem.W.mg_of X G gx_NoBelt, ex_NoBelt := ex_NoBelt,
    X_NoRate := X_NoRate, gx_NoRate := gx_NoRate, mx_NoRate := PySem.W.mg_of X G gx_NoRate, ex_NoRate := ex_NoRate,
    tk_MOST_LETTERS := tk_MOST_LETTERS, c_MOST_LETTERS := PySem.W.mg_of X G c_MOST_LETTERS,
    tk_MOST_WORKS := tk_MOST_WORKS, c_MOST_WORKS := PySem.W.mg_of X G c_MOST_WORKS,
    tk_MOST_BELTS := tk_MOST_BELTS, c_MOST_BELTS := PySem.W.mg_of X G c_MOST_BELTS,
    bl_law := fun s v => .of_eq rfl }, trivial⟩
theorem walk {l : PySem.W.OpenLaw} {q : Program} {loose : List Str} {XP : (Str → Option Value) → Heap → Prop} {YP : World → Heap → Prop} {d : DefRec} {K : Params → PySem.W.Frag} (hn : l.most = some 63) (hdf : d.params.defaults = []) (hdn : d.name = "law")
    (hY : ∀ (w : World) (h : Heap), YP w h → (K w.params).In h)
    (F : ∀ (w : World) (mg : Str → Option Value) (h : Heap), (K w.params).In h → h.Ns mainGlobals mg → ∃ T : Tp (K w.params) mg, True) :
    PySem.W.WalkO q loose XP YP l.row.toRowW d [] (fun f vs => PySem.call f vs) := by
  refine L2.walk_of (n := 63) (k := 9) (x := "_law_script") (CX := fun w => CXX l.prog w) (sp := fun w => spLaw (K w.params)) hn (by decide) hdf ⟨rfl, by decide, by decide⟩ hY (fun w mg fa h KX G hmg => ?_) (fun _ _ a ns hl _ hS => ⟨a, ns, rfl, hS, hl, fun _ => rfl⟩) ?_
  · obtain ⟨T, _⟩ := F w mg h KX G
    rw [hdn, T.m_law] at hmg
    cases hmg
    exact ⟨T.d_law, T.bl_law, fun base _ _ => ok_law T⟩
  · intro w H s e s' z
    obtain ⟨_, _, _, _, _, _, _, _, _, _, _, _, z⟩ := z
    exact z
end Nm
def PySem.W.Fast.tw15949741916902678391 : Nat := 0
def PySem.W.Fast.tw17890030021170768074 : Nat := 0
def PySem.W.Fast.tw16663220934287734267 : Nat := 0
def PySem.W.Fast.tw2928691769883080875 : Nat := 0
def PySem.W.Fast.tw6025868665152625031 : Nat := 0
def PySem.W.Fast.tw13946764546241487849 : Nat := 0
def PySem.W.Fast.tw12154489939140177633 : Nat := 0
def PySem.W.Fast.tw6871158078616250849 : Nat := 0
def PySem.W.Fast.tw11709798857587879459 : Nat := 0
def PySem.W.Fast.tw4664281755588408970 : Nat := 0
def PySem.W.Fast.tw7638148673893909422 : Nat := 0
def PySem.W.Fast.tw2937762096223240726 : Nat := 0
def PySem.W.Fast.tw8621357631698941026 : Nat := 0
def PySem.W.Fast.tw10182171346756404751 : Nat := 0
def PySem.W.Fast.tw5880529217006994586 : Nat := 0
def PySem.W.Fast.tw6570134575842867123 : Nat := 0
def PySem.W.Fast.tw754271324510208756 : Nat := 0
def PySem.W.Fast.tw9447442449378793609 : Nat := 0
open PySem PySem.W PyProof.Rows
set_option maxRecDepth 100000 in
set_option maxHeartbeats 0 in
theorem PySem.Challenge.cw_ratehall_k09_whole_rates_or_ring_holds : PySem.Challenge.rw_ratehall_k09_whole_rates_or_ring.Holds := by
  w_on; o_law; k_head; (case hw => w_witness2)
  k_fill
  refine Nm.walk (l := PySem.Challenge.rw_ratehall_k09_whole_rates_or_ring) rfl rfl rfl (fun w h Y => PySem.W.kIn_of Y) ?F
  case F =>
    intro w mg h KX G
    refine' Nm.tp_mk KX G ?a_Hall ?a_l_cell ?l_l_cell ?c_l_cell ?k_l_cell ?a_l_mixed ?l_l_mixed ?c_l_mixed ?k_l_mixed ?a_l_divisor ?l_l_divisor ?c_l_divisor ?k_l_divisor ?a_l_lines ?l_l_lines ?c_l_lines ?k_l_lines ?a_Hall_belts ?i_Hall_belts ?l_Hall_belts ?c_Hall_belts ?k_Hall_belts ?a_Hall_names ?i_Hall_names ?l_Hall_names ?c_Hall_names ?k_Hall_names ?a_ways_of ?l_ways_of ?c_ways_of ?k_ways_of ?a_tree_from ?l_tree_from ?c_tree_from ?k_tree_from ?a_forest_of ?l_forest_of ?c_forest_of ?k_forest_of ?a_divisor ?l_divisor ?c_divisor ?k_divisor ?a_ratio ?l_ratio ?c_ratio ?k_ratio ?a_times ?l_times ?c_times ?k_times ?a_gain ?l_gain ?c_gain ?k_gain ?a_is_whole ?l_is_whole ?c_is_whole ?k_is_whole ?a_is_from ?l_is_from ?c_is_from ?k_is_from ?a_is_number_below ?l_is_number_below ?c_is_number_below ?k_is_number_below ?a_Hall_need_belt ?i_Hall_need_belt ?l_Hall_need_belt ?c_Hall_need_belt ?k_Hall_need_belt ?a_Hall_belt_at ?i_Hall_belt_at ?l_Hall_belt_at ?c_Hall_belt_at ?k_Hall_belt_at ?a_shares_of ?l_shares_of ?c_shares_of ?k_shares_of ?a_multiple ?l_multiple ?c_multiple ?k_multiple ?a_rates_by ?l_rates_by ?c_rates_by ?k_rates_by ?a_change_of ?l_change_of ?c_change_of ?k_change_of ?a_way_to ?l_way_to ?c_way_to ?k_way_to ?a_shared_steps ?l_shared_steps ?c_shared_steps ?k_shared_steps ?a_ring_through ?l_ring_through ?c_ring_through ?k_ring_through ?a_rates_of ?l_rates_of ?c_rates_of ?k_rates_of ?a_l_reached ?l_l_reached ?c_l_reached ?k_l_reached ?a_l_counts ?l_l_counts ?c_l_counts ?k_l_counts ?a_l_long ?l_l_long ?c_l_long ?k_l_long ?a_l_name ?l_l_name ?c_l_name ?k_l_name ?a_l_ring_good ?l_l_ring_good ?c_l_ring_good ?k_l_ring_good ?a_l_rates_good ?l_l_rates_good ?c_l_rates_good ?k_l_rates_good ?a_is_name ?l_is_name ?c_is_name ?k_is_name ?a_Hall_work ?i_Hall_work ?l_Hall_work ?c_Hall_work ?k_Hall_work ?a_need_start ?l_need_start ?c_need_start ?k_need_start ?a_Hall_need_work ?i_Hall_need_work ?l_Hall_need_work ?c_Hall_need_work ?k_Hall_need_work ?a_Hall_lay ?i_Hall_lay ?l_Hall_lay ?c_Hall_lay ?k_Hall_lay ?a_Hall_belt ?i_Hall_belt ?l_Hall_belt ?t_Hall_belt ?c_Hall_belt ?k_Hall_belt ?a_Hall_init ?i_Hall_init ?l_Hall_init ?c_Hall_init ?k_Hall_init ?a_law ?l_law ?c_law ?k_law ?pg_Hall ?hd_Hall ?po_Hall ?sa_Hall ?mk_Hall ?kc_Hall ?na_Hall_numbers ?na_Hall_rows ?gx_NoName ?ex_NoName ?gx_Twice ?ex_Twice ?gx_TooMuch ?ex_TooMuch ?gx_NoWork ?ex_NoWork ?gx_NoBelt ?ex_NoBelt ?gx_NoRate ?ex_NoRate ?c_MOST_LETTERS ?c_MOST_WORKS ?c_MOST_BELTS ?z_all ?z_bool ?z_enumerate ?z_int ?z_isinstance ?z_len ?z_list ?z_min ?z_range ?z_reversed ?z_set ?z_str ?z_tuple
    (case a_Hall => k_is)
    (case a_l_cell => k_is)
    (case l_l_cell => k_is)
    (case c_l_cell => k_is)
    (case k_l_cell => k_is)
    (case a_l_mixed => k_is)
    (case l_l_mixed => k_is)
    (case c_l_mixed => k_is)
    (case k_l_mixed => k_is)
    (case a_l_divisor => k_is)
    (case l_l_divisor => k_is)
    (case c_l_divisor => k_is)
    (case k_l_divisor => k_is)
    (case a_l_lines => k_is)
    (case l_l_lines => k_is)
    (case c_l_lines => k_is)
    (case k_l_lines => k_is)
    (case a_Hall_belts => k_is)
    (case i_Hall_belts => k_is)
    (case l_Hall_belts => k_is)
    (case c_Hall_belts => k_is)
    (case k_Hall_belts => k_is)
    (case a_Hall_names => k_is)
    (case i_Hall_names => k_is)
    (case l_Hall_names => k_is)
    (case c_Hall_names => k_is)
    (case k_Hall_names => k_is)
    (case a_ways_of => k_is)
    (case l_ways_of => k_is)
    (case c_ways_of => k_is)
    (case k_ways_of => k_is)
    (case a_tree_from => k_is)
    (case l_tree_from => k_is)
    (case c_tree_from => k_is)
    (case k_tree_from => k_is)
    (case a_forest_of => k_is)
    (case l_forest_of => k_is)
    (case c_forest_of => k_is)
    (case k_forest_of => k_is)
    (case a_divisor => k_is)
    (case l_divisor => k_is)
    (case c_divisor => k_is)
    (case k_divisor => k_is)
    (case a_ratio => k_is)
    (case l_ratio => k_is)
    (case c_ratio => k_is)
    (case k_ratio => k_is)
    (case a_times => k_is)
    (case l_times => k_is)
    (case c_times => k_is)
    (case k_times => k_is)
    (case a_gain => k_is)
    (case l_gain => k_is)
    (case c_gain => k_is)
    (case k_gain => k_is)
    (case a_is_whole => k_is)
    (case l_is_whole => k_is)
    (case c_is_whole => k_is)
    (case k_is_whole => k_is)
    (case a_is_from => k_is)
    (case l_is_from => k_is)
    (case c_is_from => k_is)
    (case k_is_from => k_is)
    (case a_is_number_below => k_is)
    (case l_is_number_below => k_is)
    (case c_is_number_below => k_is)
    (case k_is_number_below => k_is)
    (case a_Hall_need_belt => k_is)
    (case i_Hall_need_belt => k_is)
    (case l_Hall_need_belt => k_is)
    (case c_Hall_need_belt => k_is)
    (case k_Hall_need_belt => k_is)
    (case a_Hall_belt_at => k_is)
    (case i_Hall_belt_at => k_is)
    (case l_Hall_belt_at => k_is)
    (case c_Hall_belt_at => k_is)
    (case k_Hall_belt_at => k_is)
    (case a_shares_of => k_is)
    (case l_shares_of => k_is)
    (case c_shares_of => k_is)
    (case k_shares_of => k_is)
    (case a_multiple => k_is)
    (case l_multiple => k_is)
    (case c_multiple => k_is)
    (case k_multiple => k_is)
    (case a_rates_by => k_is)
    (case l_rates_by => k_is)
    (case c_rates_by => k_is)
    (case k_rates_by => k_is)
    (case a_change_of => k_is)
    (case l_change_of => k_is)
    (case c_change_of => k_is)
    (case k_change_of => k_is)
    (case a_way_to => k_is)
    (case l_way_to => k_is)
    (case c_way_to => k_is)
    (case k_way_to => k_is)
    (case a_shared_steps => k_is)
    (case l_shared_steps => k_is)
    (case c_shared_steps => k_is)
    (case k_shared_steps => k_is)
    (case a_ring_through => k_is)
    (case l_ring_through => k_is)
    (case c_ring_through => k_is)
    (case k_ring_through => k_is)
    (case a_rates_of => k_is)
    (case l_rates_of => k_is)
    (case c_rates_of => k_is)
    (case k_rates_of => k_is)
    (case a_l_reached => k_is)
    (case l_l_reached => k_is)
    (case c_l_reached => k_is)
    (case k_l_reached => k_is)
    (case a_l_counts => k_is)
    (case l_l_counts => k_is)
    (case c_l_counts => k_is)
    (case k_l_counts => k_is)
    (case a_l_long => k_is)
    (case l_l_long => k_is)
    (case c_l_long => k_is)
    (case k_l_long => k_is)
    (case a_l_name => k_is)
    (case l_l_name => k_is)
    (case c_l_name => k_is)
    (case k_l_name => k_is)
    (case a_l_ring_good => k_is)
    (case l_l_ring_good => k_is)
    (case c_l_ring_good => k_is)
    (case k_l_ring_good => k_is)
    (case a_l_rates_good => k_is)
    (case l_l_rates_good => k_is)
    (case c_l_rates_good => k_is)
    (case k_l_rates_good => k_is)
    (case a_is_name => k_is)
    (case l_is_name => k_is)
    (case c_is_name => k_is)
    (case k_is_name => k_is)
    (case a_Hall_work => k_is)
    (case i_Hall_work => k_is)
    (case l_Hall_work => k_is)
    (case c_Hall_work => k_is)
    (case k_Hall_work => k_is)
    (case a_need_start => k_is)
    (case l_need_start => k_is)
    (case c_need_start => k_is)
    (case k_need_start => k_is)
    (case a_Hall_need_work => k_is)
    (case i_Hall_need_work => k_is)
    (case l_Hall_need_work => k_is)
    (case c_Hall_need_work => k_is)
    (case k_Hall_need_work => k_is)
    (case a_Hall_lay => k_is)
    (case i_Hall_lay => k_is)
    (case l_Hall_lay => k_is)
    (case c_Hall_lay => k_is)
    (case k_Hall_lay => k_is)
    (case a_Hall_belt => k_is)
    (case i_Hall_belt => k_is)
    (case l_Hall_belt => k_is)
    (case t_Hall_belt => k_is)
    (case c_Hall_belt => k_is)
    (case k_Hall_belt => k_is)
    (case a_Hall_init => k_is)
    (case i_Hall_init => k_is)
    (case l_Hall_init => k_is)
    (case c_Hall_init => k_is)
    (case k_Hall_init => k_is)
    (case a_law => k_is)
    (case l_law => k_is)
    (case c_law => k_is)
    (case k_law => k_is)
    (case pg_Hall => k_is)
    (case hd_Hall => k_is)
    (case po_Hall => k_is)
    (case sa_Hall => k_is)
    (case mk_Hall => k_is)
    (case kc_Hall => k_is)
    (case na_Hall_numbers => k_is)
    (case na_Hall_rows => k_is)
    (case gx_NoName => k_is)
    (case ex_NoName => k_exc)
    (case gx_Twice => k_is)
    (case ex_Twice => k_exc)
    (case gx_TooMuch => k_is)
    (case ex_TooMuch => k_exc)
    (case gx_NoWork => k_is)
    (case ex_NoWork => k_exc)
    (case gx_NoBelt => k_is)
    (case ex_NoBelt => k_exc)
    (case gx_NoRate => k_is)
    (case ex_NoRate => k_exc)
    (case c_MOST_LETTERS => k_is)
    (case c_MOST_WORKS => k_is)
    (case c_MOST_BELTS => k_is)
    (case z_all => k_is)
    (case z_bool => k_is)
    (case z_enumerate => k_is)
    (case z_int => k_is)
    (case z_isinstance => k_is)
    (case z_len => k_is)
    (case z_list => k_is)
    (case z_min => k_is)
    (case z_range => k_is)
    (case z_reversed => k_is)
    (case z_set => k_is)
    (case z_str => k_is)
    (case z_tuple => k_is)
#print axioms PySem.Challenge.cw_ratehall_k09_whole_rates_or_ring_holds
