import PyProof.Rows.All
import Wide.All
import OpenK.AllK
import Wide.FinOn
import Lean
import PyProof.EqAt
import PyProof.EqKinds
import PyProof.TupleCall
import PySem.Challenge.RW_ratehall_k36_whole_any_order_same_pieces
set_option maxHeartbeats 4000000
set_option Elab.async false
set_option linter.all false
set_option maxRecDepth 100000
namespace L2
open PySem PySem.Spec PyProof.Rows
abbrev Key := Sum Int Str
def keyIs : Key → Value → Bool
  | .inl k, v => Value.isInt k v
  | .inr x, v => Value.isStrOf x v
def keyH (w : World) : Key → Int
  | .inl k => hashInt k
  | .inr x => hashStr w x
theorem keyIs_shape : ∀ {k : Key} {v : Value}, keyIs k v = true → (∃ i t, k = Sum.inl i ∧ v = Value.int i t) ∨ (∃ x t, k = Sum.inr x ∧ v = Value.str x t)
  | .inl i, v, h => by
    obtain ⟨t, e⟩ := Value.isInt_shape (k := i) (v := v) h
    exact .inl ⟨i, t, rfl, e⟩
  | .inr x, v, h => by
    obtain ⟨t, e⟩ := Value.isStrOf_shape (x := x) (v := v) h
    exact .inr ⟨x, t, rfl, e⟩
theorem keyIs_int (i : Int) (t : Tok) : keyIs (.inl i) (.int i t) = true := by simp [keyIs, Value.isInt]
theorem keyIs_str (x : Str) (t : Tok) : keyIs (.inr x) (.str x t) = true := by simp [keyIs, Value.isStrOf]
theorem key_ll (a b : Int) : decide ((Sum.inl a : Key) = Sum.inl b) = (a == b) := by
  by_cases e : a = b
  · subst e; simp
  · have h : ¬ (Sum.inl a : Key) = Sum.inl b := fun q => e (Sum.inl.inj q)
    rw [decide_eq_false h]
    exact (beq_eq_false_iff_ne.mpr e).symm
theorem key_rr (a b : Str) : decide ((Sum.inr a : Key) = Sum.inr b) = decide (a = b) := by
  by_cases e : a = b
  · subst e; simp
  · have h : ¬ (Sum.inr a : Key) = Sum.inr b := fun q => e (Sum.inr.inj q)
    rw [decide_eq_false h, decide_eq_false e]
theorem key_lr (a : Int) (b : Str) : decide ((Sum.inl a : Key) = Sum.inr b) = false := decide_eq_false (fun q => nomatch q)
theorem key_rl (a : Str) (b : Int) : decide ((Sum.inr a : Key) = Sum.inl b) = false := decide_eq_false (fun q => nomatch q)
def mixKind (prog : Program) (w : World) : PySem.KeyKind prog w Key where
  is := keyIs
  hash := keyH w
  inj := fun v a b ha hb => by
    rcases keyIs_shape ha with ⟨i, t, rfl, rfl⟩ | ⟨x, t, rfl, rfl⟩
    · rcases keyIs_shape hb with ⟨j, u, rfl, e⟩ | ⟨y, u, rfl, e⟩
      · injection e with e1 _; rw [e1]
      · exact nomatch e
    · rcases keyIs_shape hb with ⟨j, u, rfl, e⟩ | ⟨y, u, rfl, e⟩
      · exact nomatch e
      · injection e with e1 _; rw [e1]
  byValue := fun k v h => by
    rcases keyIs_shape h with ⟨i, t, rfl, rfl⟩ | ⟨x, t, rfl, rfl⟩ <;> rfl
  pyHash := fun hv h => by
    rcases keyIs_shape hv with ⟨i, t, rfl, rfl⟩ | ⟨x, t, rfl, rfl⟩
    · exact wpAny_pyHash_int h
    · exact wpAny_pyHash_str h
  eqBool := fun hu hv h => by
    rcases keyIs_shape hu with ⟨i, t, rfl, rfl⟩ | ⟨x, t, rfl, rfl⟩
    · rcases keyIs_shape hv with ⟨j, u, rfl, rfl⟩ | ⟨y, u, rfl, rfl⟩
      · rw [key_ll] at h; exact wpAny_eqBool_int h
      · rw [key_lr] at h; exact SeqAt.EqAt.int_str i t y u _ _ _ _ h
    · rcases keyIs_shape hv with ⟨j, u, rfl, rfl⟩ | ⟨y, u, rfl, rfl⟩
      · rw [key_rl] at h; exact SeqAt.EqAt.str_int x t j u _ _ _ _ h
      · rw [key_rr] at h; exact wpAny_eqBool_str h
  «strs» := fun k x t v h => by
    rcases keyIs_shape h with ⟨i, u, rfl, e⟩ | ⟨y, u, rfl, e⟩
    · exact nomatch e
    · injection e with e1 _
      subst e1
      cases v <;> rfl
theorem mixKind_int (prog : Program) (w : World) (i : Int) (t : Tok) : (mixKind prog w).is (.inl i) (.int i t) = true := keyIs_int i t
theorem mixKind_str (prog : Program) (w : World) (x : Str) (t : Tok) : (mixKind prog w).is (.inr x) (.str x t) = true := keyIs_str x t
end L2
namespace L2
open PySem PySem.Spec PyProof.Rows
inductive V where
  | non | bl (b : Bool) | int (i : Int) | str (x : Str) | byt (b : Array UInt8) | flt (b : UInt64) | ref (a : Addr) | ty (n : String)
  deriving DecidableEq
def RelV : V → Value → Prop
  | .non, u => u = Value.none
  | .bl b, u => u = Value.bool b
  | .int i, u => ∃ t, u = Value.int i t
  | .str x, u => ∃ t, u = Value.str x t
  | .byt b, u => ∃ t, u = Value.bytes b t
  | .flt b, u => ∃ t, u = Value.float b t
  | .ref a, u => u = Value.ref a
  | .ty n, u => u = Value.type n
abbrev Vals : List V → List Value → Prop := Paired RelV
theorem Vals.length {xs : List V} {us : List Value} (r : Vals xs us) : xs.length = us.length := Paired.length r
theorem Vals.get : ∀ {xs : List V} {us : List Value} {i : Nat} {x : V}, Vals xs us → xs[i]? = some x → ∃ u, us[i]? = some u ∧ RelV x u
  | _, _, _, _, .nil, e => by simp at e
  | _, _, 0, _, .cons r _, e => by simp at e; subst e; exact ⟨_, rfl, r⟩
  | _, _, i + 1, x, .cons _ t, e => by
    obtain ⟨u, h1, h2⟩ := Vals.get (i := i) (x := x) t (by simpa using e)
    exact ⟨u, by simpa using h1, h2⟩
theorem Vals.set {x : V} {u : Value} (r : RelV x u) : ∀ {xs : List V} {us : List Value} (i : Nat), Vals xs us → Vals (xs.set i x) (us.set i u)
  | _, _, _, .nil => .nil
  | _, _, 0, .cons _ t => .cons r t
  | _, _, i + 1, .cons q t => .cons q (Vals.set r i t)
theorem Vals.append : ∀ {xs ys : List V} {us ws : List Value}, Vals xs us → Vals ys ws → Vals (xs ++ ys) (us ++ ws)
  | _, _, _, _, .nil, s => s
  | _, _, _, _, .cons r t, s => .cons r (Vals.append t s)
theorem Vals.take : ∀ {xs : List V} {us : List Value} (n : Nat), Vals xs us → Vals (xs.take n) (us.take n)
  | _, _, 0, _ => .nil
  | _, _, _ + 1, .nil => .nil
  | _, _, n + 1, .cons r t => .cons r (Vals.take n t)
theorem Vals.drop : ∀ {xs : List V} {us : List Value} (n : Nat), Vals xs us → Vals (xs.drop n) (us.drop n)
  | _, _, 0, r => r
  | _, _, _ + 1, .nil => .nil
  | _, _, n + 1, .cons _ t => Vals.drop n t
def RelO : Option V → Option Value → Prop
  | some v, some u => RelV v u
  | none, none => True
  | _, _ => False
def KV {κ : Type} : List (κ × V) → List (κ × Value) → Prop := Paired fun (p : κ × V) (q : κ × Value) => p.1 = q.1 ∧ RelV p.2 q.2
def kV : Key → V
  | .inl i => .int i
  | .inr x => .str x
inductive HO where
  | lst (xs : List V)
  | tup (xs : List V)
  | dK (kvs : List (Key × V)) | dT (kvs : List (List Key × V))
  | set (S : Int → Bool) (n : Nat)
  | ins (C dx : Addr) (fs : List (Str × V))
  | own (x : Addr)
  | xd (fs : List (Str × V))
  | met (f x : Addr)
  | rng (lo hi : Int)
  | frz (o : Obj) (u : HO)
  | tbl (ps : Array Value)
  | ext (φ : Heap → Prop)
abbrev Hp := Addr → Option HO
def upd (H : Hp) (a : Addr) (o : HO) : Hp := fun b => if b = a then some o else H b
theorem upd_same {H : Hp} {a : Addr} {o : HO} : upd H a o a = some o := by unfold upd; rw [if_pos rfl]
theorem upd_ne {H : Hp} {a b : Addr} {o : HO} (h : b ≠ a) : upd H a o b = H b := by unfold upd; rw [if_neg h]
theorem ne_of {H : Hp} {a b : Addr} {o u : HO} (h : H a = some o) (h' : H b = some u) (d : o ≠ u) : a ≠ b := by
  intro e; subst e; rw [h] at h'; exact d (Option.some.inj h')
theorem ne_of_none {H : Hp} {a b : Addr} {o : HO} (h : H a = some o) (h' : H b = none) : a ≠ b := by
  intro e; subst e; rw [h] at h'; cases h'
section
variable (P : Program) (w : World)
def ObjOk (H : Hp) (h : Heap) (a : Addr) : HO → Prop
  | .lst xs => xs.length ≤ sizeLine ∧ ∃ (its : List Value) (n : Nat), Vals xs its ∧ h.get? a = some { cls := .type "list", data := .seq its.toArray n }
  | .tup xs => xs.length ≤ sizeLine ∧ ∃ its : List Value, Vals xs its ∧ IsTup h a its.toArray
  | .dK kvs => kvs.length ≤ sizeLine ∧ (a == sysModules) = false ∧ ∃ vs, KV kvs vs ∧ h.DictOf (mixKind P w) a vs
  | .dT kvs => kvs.length ≤ sizeLine ∧ (a == sysModules) = false ∧ ∃ xs : List (List Key × Addr × Value),
      Paired (fun (p : List Key × V) (q : List Key × Addr × Value) => p.1 = q.1 ∧ H q.2.1 = some (.tup (p.1.map kV)) ∧ RelV p.2 q.2.2) kvs xs ∧
      ∃ o es ep, h.get? a = some o ∧ o.ExactDict ∧ o.data = .dict es ep ∧ es.toList = xs.map (entryOfKey (tupleKind (mixKind P w))) ∧ (xs.map (·.1)).Nodup
  | .set S n => h.SetOf (intKind P w) a S n
  | .ins C dx fs => H dx = some (.own a) ∧ fs.length ≤ 1000 ∧ dx ≠ a ∧ h.get? a = some (PySem.W.instObj C dx) ∧
      ∃ mA, h.Ns1 dx mA ∧ (∀ f, RelO (fs.lookup f) (mA f)) ∧ PySem.Within mA (fs.map (·.1))
  | .own _ => ∃ o, h.get? a = some o
  | .xd fs => ∃ mA, h.Ns1 a mA ∧ ∀ f, RelO (fs.lookup f) (mA f)
  | .rng lo hi => ∃ t u v, h.get? a = some { cls := .type "range", data := .fields #[.int lo t, .int hi u, .int 1 v] }
  | .frz o u => h.get? a = some o ∧ ObjOk H h a u
  | .tbl ps => h.get? a = some { cls := .none, data := .fields ps }
  | .met f x => h.get? a = some (PySem.W.methodObj (.ref f) (.ref x))
  | .ext φ => φ h ∧ (∃ o, h.get? a = some o) ∧ ∀ h1 h2 : Heap, φ h1 → (∀ o, h1.get? a = some o → h2.get? a = some o) → φ h2
def HOk (H : Hp) (h : Heap) : Prop := ∀ a o, H a = some o → ObjOk P w H h a o
end
section
variable {P : Program} {w : World} {H H' : Hp} {h h' : Heap} {a : Addr} {o : HO}
theorem ObjOk.lt (x : ObjOk P w H h a o) : a < h.objs.size := by
  cases o with
  | lst xs => obtain ⟨_, _, _, _, e⟩ := x; exact Heap.lt_size e
  | tup xs => obtain ⟨_, _, _, p⟩ := x; exact p.lt
  | dK kvs => obtain ⟨_, _, _, _, o, _, _, e, _⟩ := x; exact Heap.lt_size e
  | dT kvs => obtain ⟨_, _, _, _, o, _, _, e, _⟩ := x; exact Heap.lt_size e
  | set S n => obtain ⟨o, _, _, _, e, _⟩ := x; exact Heap.lt_size e
  | ins C dx fs => obtain ⟨_, _, _, e, _⟩ := x; exact Heap.lt_size e
  | own y => obtain ⟨_, e⟩ := x; exact Heap.lt_size e
  | xd fs => obtain ⟨_, ⟨_, _, _, e, _⟩, _⟩ := x; exact Heap.lt_size e
  | rng lo hi => obtain ⟨_, _, _, e⟩ := x; exact Heap.lt_size e
  | frz ob u => obtain ⟨e, _⟩ := x; exact Heap.lt_size e
  | tbl ps => exact Heap.lt_size (show h.get? a = some _ from x)
  | met f y => exact Heap.lt_size (show h.get? a = some _ from x)
  | ext φ => obtain ⟨_, ⟨_, e⟩, _⟩ := x; exact Heap.lt_size e
theorem Paired.mapP {α β : Type} {F G : α → β → Prop} : ∀ {l₁ : List α} {l₂ : List β}, Paired F l₁ l₂ → (∀ a b, F a b → G a b) → Paired G l₁ l₂
  | _, _, .nil, _ => .nil
  | _, _, .cons r t, f => .cons (f _ _ r) (Paired.mapP t f)
theorem ObjOk.stay (x : ObjOk P w H h a o) (k : ∀ b u, (b = a ∨ H b = some (.own a)) → h.get? b = some u → h'.get? b = some u)
    (ho : ∀ b, H b = some (.own a) → H' b = some (.own a)) (ht : ∀ b xs, H b = some (.tup xs) → H' b = some (.tup xs)) : ObjOk P w H' h' a o := by
  induction o with
  | lst xs => obtain ⟨z, its, n, r, e⟩ := x; exact ⟨z, its, n, r, k _ _ (.inl rfl) e⟩
  | tup xs => obtain ⟨z, its, r, ob, e, c⟩ := x; exact ⟨z, its, r, ob, k _ _ (.inl rfl) e, c⟩
  | dK kvs => obtain ⟨z, y, vs, r, ob, es, ep, e, c⟩ := x; exact ⟨z, y, vs, r, ob, es, ep, k _ _ (.inl rfl) e, c⟩
  | dT kvs =>
    obtain ⟨z, y, xs, r, ob, es, ep, e, c⟩ := x
    exact ⟨z, y, xs, Paired.mapP r fun p q z => ⟨z.1, ht _ _ z.2.1, z.2.2⟩, ob, es, ep, k _ _ (.inl rfl) e, c⟩
  | set S n => obtain ⟨ob, es, ep, t, e, c⟩ := x; exact ⟨ob, es, ep, t, k _ _ (.inl rfl) e, c⟩
  | ins C dx fs =>
    obtain ⟨d, z, ne, e, mA, ⟨od, es, ep, e2, c⟩, r⟩ := x
    exact ⟨ho _ d, z, ne, k _ _ (.inl rfl) e, mA, ⟨od, es, ep, k _ _ (.inr d) e2, c⟩, r⟩
  | own y => obtain ⟨ob, e⟩ := x; exact ⟨ob, k _ _ (.inl rfl) e⟩
  | xd fs => obtain ⟨mA, ⟨od, es, ep, e, c⟩, r⟩ := x; exact ⟨mA, ⟨od, es, ep, k _ _ (.inl rfl) e, c⟩, r⟩
  | rng lo hi => obtain ⟨t, u, v, e⟩ := x; exact ⟨t, u, v, k _ _ (.inl rfl) e⟩
  | frz ob u ih => obtain ⟨e, q⟩ := x; exact ⟨k _ _ (.inl rfl) e, ih q⟩
  | tbl ps =>
    have e : h.get? a = some { cls := .none, data := .fields ps } := x
    show h'.get? a = some { cls := .none, data := .fields ps }
    exact k a _ (.inl rfl) e
  | met f y =>
    have e : h.get? a = some (PySem.W.methodObj (.ref f) (.ref y)) := x
    show h'.get? a = some (PySem.W.methodObj (.ref f) (.ref y))
    exact k a _ (.inl rfl) e
  | ext φ => obtain ⟨p, ⟨o, e⟩, st⟩ := x; exact ⟨st _ _ p fun o q => k _ _ (.inl rfl) q, ⟨o, k _ _ (.inl rfl) e⟩, st⟩
theorem HOk.lt (x : HOk P w H h) (e : H a = some o) : a < h.objs.size := (x a o e).lt
theorem HOk.fresh (x : HOk P w H h) (e : h.objs.size ≤ a) : H a = none := by
  cases q : H a with
  | none => rfl
  | some u => exact absurd (Nat.lt_of_lt_of_le (x.lt q) e) (Nat.lt_irrefl _)
theorem HOk.kept (x : HOk P w H h) (k : ∀ b u, h.get? b = some u → h'.get? b = some u) : HOk P w H h' := fun a o e =>
  (x a o e).stay (fun b u _ q => k b u q) (fun _ q => q) fun _ _ q => q
theorem HOk.laid (x : HOk P w H h) (k : ∀ b u, h.get? b = some u → h'.get? b = some u) (hp : h.objs.size ≤ a) (new : ObjOk P w (upd H a o) h' a o) : HOk P w (upd H a o) h' := fun b u e => by
  have hn := x.fresh hp
  by_cases hb : b = a
  · subst hb; rw [upd_same] at e; cases e; exact new
  · rw [upd_ne hb] at e
    exact (x b u e).stay (fun c v _ q => k c v q) (fun c q => by rw [upd_ne (ne_of_none q hn)]; exact q) fun c xs q => by rw [upd_ne (ne_of_none q hn)]; exact q
end
def Rd (H : Hp) (a : Addr) (u : HO) : Prop := H a = some u ∨ ∃ o, H a = some (.frz o u)
theorem Rd.ok {P : Program} {w : World} {H : Hp} {h : Heap} {a : Addr} {u : HO} (r : Rd H a u) (x : HOk P w H h) : ObjOk P w H h a u := by
  rcases r with r | ⟨o, r⟩
  · exact x a u r
  · obtain ⟨_, q⟩ := x a _ r
    exact q
def Mut : Option HO → Prop
  | some (.lst _) => True
  | some (.dK _) => True
  | some (.dT _) => True
  | some (.set _ _) => True
  | some (.ins _ _ _) => True
  | some (.ext _) => True
  | _ => False
section
variable {P : Program} {w : World} {H : Hp} {h h' : Heap} {x e : Addr} {o' : HO}
theorem HOk.write (ok : HOk P w H h) (mu : Mut (H x)) (he : e = x ∨ H e = some (.own x)) (k : ∀ b u, b ≠ e → h.get? b = some u → h'.get? b = some u) (heo : ∃ u, h'.get? e = some u)
    (new : ObjOk P w (upd H x o') h' x o') : HOk P w (upd H x o') h' := fun b u q => by
  have nown : ∀ c y, H c = some (.own y) → c ≠ x := fun c y r z => by subst z; rw [r] at mu; exact mu
  have ntup : ∀ c xs, H c = some (.tup xs) → c ≠ x := fun c xs r z => by subst z; rw [r] at mu; exact mu
  by_cases hb : b = x
  · subst hb; rw [upd_same] at q; cases q; exact new
  · rw [upd_ne hb] at q
    by_cases hbe : b = e
    · have q' : H b = some (.own x) := by
        rcases he with z | z
        · exact absurd (hbe.trans z) hb
        · rw [hbe]; exact z
      rw [q] at q'; cases q'
      obtain ⟨v, hv⟩ := heo
      exact ⟨v, by rw [hbe]; exact hv⟩
    · refine (ok b u q).stay (fun c v hc r => k c v ?_ r) (fun c r => by rw [upd_ne (nown c b r)]; exact r) fun c xs r => by rw [upd_ne (ntup c xs r)]; exact r
      rcases hc with rfl | hc
      · exact hbe
      · rintro rfl
        rcases he with z | z
        · exact nown c b hc z
        · rw [hc] at z; cases z; exact hb rfl
end
structure Un (fs ex : List Addr) (H H' : Hp) (h h' : Heap) : Prop where
  keep : ∀ b o, h.get? b = some o → H b = none → b ∉ fs → b ∉ ex → h'.get? b = some o
  slot : ∀ b o, h.get? b = some o → H b = none → b ∈ fs → b ∉ ex → ∃ sl, h'.get? b = some { o with slots := sl }
  free : ∀ b o, h.get? b = some o → H b = none → b ∉ ex → H' b = none
  there : ∀ b o, h.get? b = some o → b ∉ ex → ∃ o', h'.get? b = some o'
  tups : ∀ b xs, H b = some (.tup xs) → H' b = some (.tup xs)
  frzs : ∀ b o u, H b = some (.frz o u) → H' b = some (.frz o u)
  tbls : ∀ b ps, H b = some (.tbl ps) → ∃ more, H' b = some (.tbl (ps ++ more))
section
variable {fs fs' ex ex' : List Addr} {H H1 H2 : Hp} {h h1 h2 h' : Heap} {a x e : Addr} {o : HO}
theorem Un.any (u : Un fs ex H H1 h h1) {b : Addr} {ob : Obj} (q : h.get? b = some ob) (n : H b = none) (hx : b ∉ ex) : ∃ sl, h1.get? b = some { ob with slots := sl } := by
  by_cases hb : b ∈ fs
  · exact u.slot b ob q n hb hx
  · exact ⟨ob.slots, u.keep b ob q n hb hx⟩
theorem Un.kept (k : ∀ b u, h.get? b = some u → h'.get? b = some u) : Un fs ex H H h h' :=
  ⟨fun b ob q _ _ _ => k b ob q, fun b ob q _ _ _ => ⟨ob.slots, k b ob q⟩, fun _ _ _ n _ => n, fun b ob q _ => ⟨ob, k b ob q⟩, fun _ _ q => q, fun _ _ _ q => q, fun _ ps q => ⟨#[], by rw [q]; simp⟩⟩
theorem Un.refl : Un fs ex H H h h := Un.kept fun _ _ q => q
theorem Un.laid (k : ∀ b u, h.get? b = some u → h'.get? b = some u) (hp : h.objs.size ≤ a) (hn : H a = none) : Un fs ex H (upd H a o) h h' where
  keep := fun b u q _ _ _ => k b u q
  slot := fun b u q _ _ _ => ⟨u.slots, k b u q⟩
  free := fun b u q n _ => by rw [upd_ne (Nat.ne_of_lt (Nat.lt_of_lt_of_le (Heap.lt_size q) hp))]; exact n
  there := fun b u q _ => ⟨u, k b u q⟩
  tups := fun b xs q => by rw [upd_ne (ne_of_none q hn)]; exact q
  frzs := fun b u xs q => by rw [upd_ne (ne_of_none q hn)]; exact q
  tbls := fun b ps q => ⟨#[], by rw [upd_ne (ne_of_none q hn), q]; simp⟩
theorem Un.write (mu : Mut (H x)) (he : e = x ∨ H e = some (.own x)) (k : ∀ b u, b ≠ e → h.get? b = some u → h'.get? b = some u) (heo : ∃ u, h'.get? e = some u) : Un fs ex H (upd H x o) h h' := by
  have hx : ∀ b, H b = none → b ≠ x := fun b n z => by subst z; rw [n] at mu; exact mu
  have hb : ∀ b, H b = none → b ≠ e := fun b n z => by
    subst z
    rcases he with r | r
    · exact hx b n r
    · rw [n] at r; cases r
  have hm : ∀ b u, H b = some u → ¬ Mut (some u) → b ≠ x := fun b u q nm z => by subst z; rw [q] at mu; exact nm mu
  refine ⟨fun b u q n _ _ => k b u (hb b n) q, fun b u q n _ _ => ⟨u.slots, k b u (hb b n) q⟩, fun b u q n _ => by rw [upd_ne (hx b n)]; exact n, fun b u q _ => ?_,
    fun b xs q => by rw [upd_ne (hm b _ q fun z => z)]; exact q, fun b u xs q => by rw [upd_ne (hm b _ q fun z => z)]; exact q, fun b ps q => ⟨#[], by rw [upd_ne (hm b _ q fun z => z), q]; simp⟩⟩
  by_cases hbe : b = e
  · subst hbe; exact heo
  · exact ⟨u, k b u hbe q⟩
end
def trk (h : Heap) (H : Hp) : List Addr := (List.range h.objs.size).filter fun a => (H a).isSome
def hidT (h : Heap) (H : Hp) : Heap := PySem.W.hideAll h (trk h H)
theorem hidT_size (h : Heap) (H : Hp) : (hidT h H).objs.size = h.objs.size := PySem.W.hideAll_size _ _
theorem hidT_get {h : Heap} {H : Hp} {b : Addr} {o : Obj} (e : h.get? b = some o) (n : H b = none) : (hidT h H).get? b = some o :=
  PySem.W.hideAll_get _ e fun hm => by
    have q : (H b).isSome = true := (List.mem_filter.mp hm).2
    rw [n] at q; simp at q
theorem of_hidT {h : Heap} {H : Hp} {b : Addr} {o : Obj} (e : (hidT h H).get? b = some o) : h.get? b = some o ∧ H b = none := by
  have e' : h.get? b = some o := PySem.W.of_hideAll (trk h H) e
  refine ⟨e', ?_⟩
  cases q : H b with
  | none => rfl
  | some x =>
    have hm : b ∈ trk h H := List.mem_filter.mpr ⟨List.mem_range.mpr (Heap.lt_size e'), by simp [q]⟩
    have z : (hidT h H).get? b = none := PySem.W.hideAll_none (trk h H) hm
    rw [z] at e; cases e
end L2
namespace L2
open PySem PySem.Spec PyProof.Rows
structure Mod (K : PySem.W.Frag) (mg : Str → Option Value) (base : Heap) : Prop where
  kin : K.In base
  glob : base.Ns mainGlobals mg
  blt : ∃ mb, base.Ns builtinsNs mb ∧ ∀ x : Str, x ≠ "__name__" → mb x = bootBuiltins x
  nolimit : base.NoLimit
structure Cx where
  prog : Program
  w : World
  K : PySem.W.Frag
  mg : Str → Option Value
  base : Heap
  A : Around
  N : List Str
  s₀ : Shared
  H₀ : Hp
  env : Env
  outer : List Env
  stack : List Env
  ex : List Addr
  fn : Str → Bool
  calm : Bool
  pn : List (Addr × Obj)
  xe : Value → Shared → Prop
def frs (l : List Env) : List Addr := l.filterMap (·.frame)
abbrev Cx.fs (X : Cx) : List Addr := frs X.outer
def Vis (sc : Scope) (x : Str) : Prop := sc.names.lookup x = some .local ∨ sc.names.lookup x = some .cell ∨ sc.names.lookup x = some .free
def Loc (sc : Scope) (x : Str) : Prop := sc.names.lookup x = some .local ∨ sc.names.lookup x = some .cell
def Look (env : Env) (h : Heap) (m : Str → Option Value) (x : Str) (u : Value) : Prop :=
  (env.kindOf x = some .local ∧ m x = some u) ∨ ((env.kindOf x = some .cell ∨ env.kindOf x = some .free) ∧ ∃ c, env.cells.lookup x = some c ∧ h.IsCell c (some u))
structure Cx.Ok (X : Cx) : Prop where
  mod : Mod X.K X.mg X.base
  kind : X.env.scope.kind = .function
  glob : X.env.globals = mainGlobals
  blt : X.env.builtins = builtinsNs
  above : X.s₀.heap.objs.size ≤ X.env.locals
  inj : ∀ x y c, X.env.cells.lookup x = some c → X.env.cells.lookup y = some c → x = y
  has : ∀ x, (X.env.kindOf x = some .cell ∨ X.env.kindOf x = some .free) → ∃ c, X.env.cells.lookup x = some c
  cab : ∀ x c, X.fn x = true → X.env.cells.lookup x = some c → X.s₀.heap.objs.size ≤ c
  hd : X.calm = true → X.A.handled = none
  frames : X.A.frames = some X.stack
  stk : X.stack = X.outer ∨ (X.stack = X.env :: X.outer ∧ X.env.frame = some X.env.locals)
  exf : ∀ b ∈ X.ex, b ≠ X.env.locals ∧ ∀ x c, X.env.cells.lookup x = some c → c ≠ b
  bs : ∀ b o, X.base.get? b = some o → X.s₀.heap.get? b = some o ∧ X.H₀ b = none
  bsz : X.base.objs.size ≤ X.s₀.heap.objs.size
  noex : ∀ b o, X.base.get? b = some o → b ∉ X.ex
  exfs : ∀ b ∈ X.ex, b ∉ X.fs
  funs : X.s₀.heap.FunFrames X.base X.outer
  frf : ∀ b ∈ X.fs, X.H₀ b = none
structure Inv (X : Cx) (pins : List (Addr × Obj)) (σ : List (Option V)) (H : Hp) (s : Shared) : Prop where
  ok : X.Ok
  os : s.os = X.s₀.os
  bare : AllBare s.gens
  base : Un X.fs X.ex X.H₀ H X.s₀.heap s.heap
  loc : ∃ m, s.heap.Ns X.env.locals m ∧ ∀ (i : Nat) (x : Str) (v : V), X.N[i]? = some x → σ[i]? = some (some v) → Vis X.env.scope x → ∃ u, RelV v u ∧ Look X.env s.heap m x u
  cell : ∀ x c, X.env.cells.lookup x = some c → ∃ v, s.heap.IsCell c v
  free : H X.env.locals = none
  freeC : ∀ x c, X.env.cells.lookup x = some c → H c = none
  pin : ∀ p ∈ X.pn ++ pins, s.heap.get? p.1 = some p.2 ∧ H p.1 = none ∧ p.1 ≠ X.env.locals ∧ p.1 ∉ X.fs ∧ ∀ v, p.2.data ≠ .cell v
  hok : HOk X.prog X.w H s.heap
  len : σ.length = X.N.length
section
variable {X : Cx} {pins : List (Addr × Obj)} {σ : List (Option V)} {H H' : Hp} {s : Shared} {h' : Heap}
theorem Cx.Ok.nofr (ok : X.Ok) {b : Addr} {o : Obj} (e : X.base.get? b = some o) : b ∉ X.fs := fun hb => by
  have := (ok.funs.mem hb).1
  rw [e] at this; cases this
theorem Inv.bs (I : Inv X pins σ H s) : ∀ b o, X.base.get? b = some o → s.heap.get? b = some o ∧ H b = none := fun b o e =>
  ⟨I.base.keep b o (I.ok.bs b o e).1 (I.ok.bs b o e).2 (I.ok.nofr e) (I.ok.noex b o e), I.base.free b o (I.ok.bs b o e).1 (I.ok.bs b o e).2 (I.ok.noex b o e)⟩
theorem Inv.bk (I : Inv X pins σ H s) : ∀ b o, X.base.get? b = some o → s.heap.get? b = some o := fun b o e => (I.bs b o e).1
theorem Inv.mod (I : Inv X pins σ H s) : Mod X.K X.mg X.base := I.ok.mod
theorem Inv.kIn (I : Inv X pins σ H s) : X.K.In s.heap := I.ok.mod.kin.keeps I.bk
theorem Inv.lt (I : Inv X pins σ H s) : X.env.locals < s.heap.objs.size := let ⟨_, hn, _⟩ := I.loc; hn.lt
theorem Inv.sz (I : Inv X pins σ H s) : X.s₀.heap.objs.size ≤ s.heap.objs.size := Nat.le_trans I.ok.above (Nat.le_of_lt I.lt)
theorem Inv.nofs (I : Inv X pins σ H s) {a : Addr} (h : s.heap.objs.size ≤ a) : a ∉ X.fs := fun hb => by
  obtain ⟨_, o, ho, _⟩ := I.ok.funs.mem hb
  exact absurd (Nat.lt_of_lt_of_le (Heap.lt_size ho) (Nat.le_trans I.sz h)) (Nat.lt_irrefl _)
theorem Inv.cne (I : Inv X pins σ H s) : ∀ x c, X.env.cells.lookup x = some c → c ≠ X.env.locals := fun x c e z => by
  obtain ⟨v, o, ho, hd⟩ := I.cell x c e
  obtain ⟨m, ⟨o', es, ep, ho', hd', _⟩, _⟩ := I.loc
  rw [z, ho'] at ho; cases ho; rw [hd'] at hd; cases hd
theorem Inv.funs (I : Inv X pins σ H s) : s.heap.FunFrames X.base X.outer := by
  have all : ∀ (l : List Env), (∀ b ∈ frs l, b ∈ X.fs) → X.s₀.heap.FunFrames X.base l → s.heap.FunFrames X.base l := by
    intro l
    induction l with
    | nil => intro _ _; trivial
    | cons env r ih =>
      intro hs hl
      obtain ⟨hk, ⟨L, o, hf, hn, ho, hd⟩, hr⟩ := hl
      have hL : L ∈ X.fs := hs L (by unfold frs; rw [List.filterMap_cons, hf]; exact List.mem_cons_self)
      obtain ⟨sl, e⟩ := I.base.slot L o ho (I.ok.frf L hL) hL fun z => I.ok.exfs L z hL
      exact ⟨hk, ⟨L, _, hf, hn, e, hd⟩, ih (fun b hb => hs b (by unfold frs; rw [List.filterMap_cons, hf]; exact List.mem_cons_of_mem _ hb)) hr⟩
  exact all X.outer (fun _ hb => hb) I.ok.funs
theorem Inv.stack (I : Inv X pins σ H s) : s.heap.FunFrames X.base X.stack := by
  rcases I.ok.stk with e | ⟨e, hf⟩
  · rw [e]; exact I.funs
  · rw [e]
    obtain ⟨m, hn, _⟩ := I.loc
    refine .cons (by rw [I.ok.kind]; decide) hf hn ?_ I.funs
    exact Heap.get?_none_of_le (Nat.le_trans I.ok.bsz I.ok.above)
theorem Inv.stkSub (I : Inv X pins σ H s) : ∀ b ∈ frs X.stack, b ∈ X.env.locals :: X.fs := fun b hb => by
  rcases I.ok.stk with e | ⟨e, hf⟩
  · rw [e] at hb; exact List.mem_cons_of_mem _ hb
  · rw [e] at hb
    unfold frs at hb
    rw [List.filterMap_cons, hf] at hb
    exact hb
theorem Inv.stkFree (I : Inv X pins σ H s) : ∀ b ∈ frs X.stack, H b = none := fun b hb => by
  rcases List.mem_cons.mp (I.stkSub b hb) with e | hb
  · rw [e]; exact I.free
  · obtain ⟨_, o, ho, _⟩ := I.ok.funs.mem hb
    exact I.base.free b o ho (I.ok.frf b hb) fun z => I.ok.exfs b z hb
theorem Inv.step {g' : Array GenState} {t' : Nat} {d' : Drawn} {ch : List Addr} (I : Inv X pins σ H s)
    (hch : ∀ b ∈ ch, (b ∈ X.ex ∨ X.s₀.heap.objs.size ≤ b) ∧ b ≠ X.env.locals ∧ (∀ x c, X.env.cells.lookup x = some c → c ≠ b) ∧ ∀ p ∈ X.pn ++ pins, p.1 ≠ b)
    (keep : ∀ b o, b ≠ X.env.locals → b ∉ X.fs → b ∉ ch → s.heap.get? b = some o → H b = none → h'.get? b = some o)
    (slot : ∀ b o, b ≠ X.env.locals → b ∈ X.fs → b ∉ ch → s.heap.get? b = some o → H b = none → ∃ sl, h'.get? b = some { o with slots := sl }) (free : ∀ b o, b ∉ ch → s.heap.get? b = some o → H b = none → H' b = none)
    (there : ∀ b o, b ∉ ch → s.heap.get? b = some o → ∃ o', h'.get? b = some o')
    (tups : ∀ b xs, H b = some (.tup xs) → H' b = some (.tup xs)) (frzs : ∀ b o u, H b = some (.frz o u) → H' b = some (.frz o u)) (tbls : ∀ b ps, H b = some (.tbl ps) → ∃ more, H' b = some (.tbl (ps ++ more)))
    (ns : ∀ m, s.heap.Ns X.env.locals m → h'.Ns X.env.locals m) (hok : HOk X.prog X.w H' h') (hg : AllBare g') :
    Inv X pins σ H' { s with heap := h', gens := g', drawn := d', toks := t' } := by
  have neL : ∀ b o, X.s₀.heap.get? b = some o → b ≠ X.env.locals := fun b o e => Nat.ne_of_lt (Nat.lt_of_lt_of_le (Heap.lt_size e) I.ok.above)
  have neC : ∀ b o, X.s₀.heap.get? b = some o → b ∉ X.ex → b ∉ ch := fun b o e hx hb => by
    rcases (hch b hb).1 with z | z
    · exact hx z
    · exact absurd (Nat.lt_of_lt_of_le (Heap.lt_size e) z) (Nat.lt_irrefl _)
  have cellK : ∀ x c, X.env.cells.lookup x = some c → ∀ v, s.heap.IsCell c v → h'.IsCell c v := fun x c e v ⟨o, ho, hd⟩ => by
    have nch : c ∉ ch := fun z => (hch c z).2.2.1 x c e rfl
    by_cases hc : c ∈ X.fs
    · obtain ⟨sl, q⟩ := slot c o (I.cne x c e) hc nch ho (I.freeC x c e)
      exact ⟨_, q, hd⟩
    · exact ⟨o, keep c o (I.cne x c e) hc nch ho (I.freeC x c e), hd⟩
  refine ⟨I.ok, I.os, hg, ⟨fun b o e n hb hx => ?_, fun b o e n hb hx => ?_, fun b o e n hx => ?_, fun b o e hx => ?_, fun b xs e => tups b xs (I.base.tups b xs e), fun b o xs e => frzs b o xs (I.base.frzs b o xs e), fun b ps e => ?_⟩, ?_, fun x c e => ?_, ?_, fun x c e => ?_, fun p hp => ?_, hok, I.len⟩
  · exact keep b o (neL b o e) hb (neC b o e hx) (I.base.keep b o e n hb hx) (I.base.free b o e n hx)
  · obtain ⟨sl, e1⟩ := I.base.slot b o e n hb hx
    obtain ⟨sl', e2⟩ := slot b _ (neL b o e) hb (neC b o e hx) e1 (I.base.free b o e n hx)
    exact ⟨sl', e2⟩
  · obtain ⟨o', e1⟩ := I.base.there b o e hx
    exact free b o' (neC b o e hx) e1 (I.base.free b o e n hx)
  · obtain ⟨o', e1⟩ := I.base.there b o e hx
    exact there b o' (neC b o e hx) e1
  · obtain ⟨m1, e1⟩ := I.base.tbls b ps e
    obtain ⟨m2, e2⟩ := tbls b _ e1
    exact ⟨m1 ++ m2, by rw [e2, Array.append_assoc]⟩
  · obtain ⟨m, hn, hl⟩ := I.loc
    refine ⟨m, ns m hn, fun i x v e1 e2 e3 => ?_⟩
    obtain ⟨u, r, l⟩ := hl i x v e1 e2 e3
    refine ⟨u, r, ?_⟩
    rcases l with l | ⟨k, c, e, z⟩
    · exact .inl l
    · exact .inr ⟨k, c, e, cellK x c e _ z⟩
  · obtain ⟨v, z⟩ := I.cell x c e
    exact ⟨v, cellK x c e v z⟩
  · obtain ⟨m, ⟨o, _, _, ho, _⟩, _⟩ := I.loc
    exact free _ o (fun z => (hch _ z).2.1 rfl) ho I.free
  · obtain ⟨v, o, ho, hd⟩ := I.cell x c e
    exact free c o (fun z => (hch c z).2.2.1 x c e rfl) ho (I.freeC x c e)
  · obtain ⟨e, n, ne, nf, d⟩ := I.pin p hp
    have nch : p.1 ∉ ch := fun z => (hch p.1 z).2.2.2 p hp rfl
    exact ⟨keep p.1 p.2 ne nf nch e n, free p.1 p.2 nch e n, ne, nf, d⟩
theorem Inv.un {t' : Nat} (I : Inv X pins σ H s) (u : Un X.fs [] H H' s.heap h') (hok : HOk X.prog X.w H' h') : Inv X pins σ H' { s with heap := h', toks := t' } := by
  obtain ⟨m, ⟨o, es, ep, ho, r⟩, _⟩ := id I.loc
  obtain ⟨sl, hL⟩ := u.any ho I.free (by simp)
  exact I.step (g' := s.gens) (d' := s.drawn) (ch := []) (fun _ z => nomatch z) (fun b o _ hb _ e n => u.keep b o e n hb (by simp)) (fun b o _ hb _ e n => u.slot b o e n hb (by simp)) (fun b o _ e n => u.free b o e n (by simp)) (fun b o _ e => u.there b o e (by simp)) u.tups u.frzs u.tbls (fun m' hm => by
    obtain ⟨o', es', ep', ho', r'⟩ := hm
    rw [ho] at ho'; cases ho'
    exact ⟨_, es', ep', hL, r'⟩) hok I.bare
theorem Inv.call {g' : Array GenState} {t' : Nat} {d' : Drawn} {ch : List Addr} (I : Inv X pins σ H s) (u : Un (frs X.stack) ch H H' s.heap h') (hok : HOk X.prog X.w H' h') (hg : AllBare g')
    (hch : ∀ b ∈ ch, (b ∈ X.ex ∨ X.s₀.heap.objs.size ≤ b) ∧ b ≠ X.env.locals ∧ (∀ x c, X.env.cells.lookup x = some c → c ≠ b) ∧ ∀ p ∈ X.pn ++ pins, p.1 ≠ b) :
    Inv X pins σ H' { s with heap := h', gens := g', drawn := d', toks := t' } := by
  obtain ⟨m, ⟨o, es, ep, ho, r⟩, _⟩ := id I.loc
  obtain ⟨sl, hL⟩ := u.any ho I.free fun z => (hch _ z).2.1 rfl
  exact I.step (ch := ch) hch (fun b o hL hb hc e n => u.keep b o e n (fun z => (List.mem_cons.mp (I.stkSub b z)).elim hL hb) hc) (fun b o _ _ hc e n => u.any e n hc) (fun b o hc e n => u.free b o e n hc) (fun b o hc e => u.there b o e hc) u.tups u.frzs u.tbls (fun m' hm => by
    obtain ⟨o', es', ep', ho', r'⟩ := hm
    rw [ho] at ho'; cases ho'
    exact ⟨_, es', ep', hL, r'⟩) hok hg
theorem Inv.turned {t' : Nat} {it : Addr} (I : Inv X pins σ H s) (k : ∀ b o, b ≠ it → s.heap.get? b = some o → h'.get? b = some o) (hn : H it = none) (hL : it ≠ X.env.locals)
    (h1 : it ∈ X.ex ∨ X.s₀.heap.objs.size ≤ it) (h2 : ∀ x c, X.env.cells.lookup x = some c → c ≠ it) (h3 : ∀ p ∈ X.pn ++ pins, p.1 ≠ it) : Inv X pins σ H { s with heap := h', toks := t' } := by
  have nit : ∀ b u, H b = some u → b ≠ it := fun b u e z => by rw [z, hn] at e; cases e
  refine I.step (g' := s.gens) (d' := s.drawn) (ch := [it]) (fun b hb => ?_) (fun b o _ _ hc e _ => k b o (fun z => hc (by simp [z])) e) (fun b o _ _ hc e _ => ⟨o.slots, k b o (fun z => hc (by simp [z])) e⟩) (fun _ _ _ _ n => n)
    (fun b o hc e => ⟨o, k b o (fun z => hc (by simp [z])) e⟩) (fun _ _ e => e) (fun _ _ _ e => e) (fun b ps e => ⟨#[], by rw [e]; simp⟩) (fun m hm => ?_) (fun b u e => ?_) I.bare
  · have e : b = it := by simpa using hb
    subst e
    exact ⟨h1, hL, h2, h3⟩
  · obtain ⟨o, es, ep, ho, r⟩ := hm
    exact ⟨o, es, ep, k _ o (Ne.symm hL) ho, r⟩
  · refine (I.hok b u e).stay (fun c v hc q => k c v ?_ q) (fun _ q => q) fun _ _ q => q
    rcases hc with z | z
    · rw [z]; exact nit b u e
    · exact nit c _ z
theorem Inv.tok (I : Inv X pins σ H s) (t : Nat) : Inv X pins σ H { s with toks := t } := I.un (h' := s.heap) (t' := t) Un.refl I.hok
theorem Inv.kept {t' : Nat} (I : Inv X pins σ H s) (k : ∀ b u, s.heap.get? b = some u → h'.get? b = some u) : Inv X pins σ H { s with heap := h', toks := t' } := I.un (Un.kept k) (I.hok.kept k)
theorem Inv.laid {a : Addr} {o : HO} {t' : Nat} (I : Inv X pins σ H s) (k : ∀ b u, s.heap.get? b = some u → h'.get? b = some u) (hp : s.heap.objs.size ≤ a) (new : ObjOk X.prog X.w (upd H a o) h' a o) :
    Inv X pins σ (upd H a o) { s with heap := h', toks := t' } := I.un (Un.laid k hp (I.hok.fresh hp)) (I.hok.laid k hp new)
theorem Inv.write {x e : Addr} {o : HO} {t' : Nat} (I : Inv X pins σ H s) (mu : Mut (H x)) (he : e = x ∨ H e = some (.own x)) (k : ∀ b u, b ≠ e → s.heap.get? b = some u → h'.get? b = some u) (heo : ∃ u, h'.get? e = some u)
    (new : ObjOk X.prog X.w (upd H x o) h' x o) : Inv X pins σ (upd H x o) { s with heap := h', toks := t' } := I.un (Un.write mu he k heo) (I.hok.write mu he k heo new)
theorem Inv.pins_of {pins' : List (Addr × Obj)} (I : Inv X pins σ H s) (h : ∀ p ∈ pins', s.heap.get? p.1 = some p.2 ∧ H p.1 = none ∧ p.1 ≠ X.env.locals ∧ p.1 ∉ X.fs ∧ ∀ v, p.2.data ≠ .cell v) : Inv X pins' σ H s :=
  ⟨I.ok, I.os, I.bare, I.base, I.loc, I.cell, I.free, I.freeC, fun p hp => (List.mem_append.mp hp).elim (fun z => I.pin p (List.mem_append_left _ z)) (h p), I.hok, I.len⟩
theorem nodup_ix {N : List Str} (hN : N.Nodup) {i j : Nat} {x : Str} (a : N[i]? = some x) (b : N[j]? = some x) : i = j := by
  obtain ⟨h1, e1⟩ := List.getElem?_eq_some_iff.mp a
  obtain ⟨h2, e2⟩ := List.getElem?_eq_some_iff.mp b
  exact (List.getElem_inj hN).mp (e1.trans e2.symm)
theorem store_ok2 {M : Model} {A : Around} {E : Value → Shared → Prop} {i : Nat} {x : Str} {v : V} {u : Value} {Q : Unit → Shared → Prop} (I : Inv X pins σ H s) (hN : X.N.Nodup) (hi : X.N[i]? = some x) (hx : Loc X.env.scope x) (r : RelV v u)
    (h : ∀ s', Inv X pins (σ.set i (some v)) H s' → (∃ a, Heap.SameBut a s.heap s'.heap ∧ (a = X.env.locals ∨ X.env.cells.lookup x = some a)) → Q () s') (hf : X.fn x = true ∨ X.env.scope.names.lookup x = some .local := by first | exact .inl rfl | exact .inr rfl | assumption) : wpAny M A (storeName X.env x u) Q E s := by
  obtain ⟨m, hn, hl⟩ := id I.loc
  have hcls : (X.env.scope.kind == .class || (X.env.scope.kind == .module && X.env.locals != X.env.globals)) = false := by rw [I.ok.kind]; rfl
  have hiσ : i < σ.length := by rw [I.len]; exact (List.getElem?_eq_some_iff.mp hi).1
  have cne := I.cne
  have tracked : ∀ {a : Addr} {h' : Heap}, (∃ o, s.heap.get? a = some o ∧ H a = none) → Heap.SameBut a s.heap h' → HOk X.prog X.w H h' := fun {a h'} ha hs b ob e => by
    obtain ⟨_, _, hfree⟩ := ha
    refine (I.hok b ob e).stay (fun c w' hc q => (hs.2 c ?_).trans q) (fun _ q => q) fun _ _ q => q
    rintro rfl
    rcases hc with rfl | hc
    · rw [hfree] at e; cases e
    · rw [hfree] at hc; cases hc
  rcases hx with hk | hk
  · refine wpAny_storeName_local hk hn (fun h' hn' hs => ?_) hcls
    obtain ⟨oL, _, _, hoL, _⟩ := id hn
    refine h _ ⟨I.ok, I.os, I.bare, ⟨fun b o e n hb hx => ?_, fun b o e n hb hx => ?_, I.base.free, fun b o e hx => ?_, I.base.tups, I.base.frzs, I.base.tbls⟩, ⟨_, hn', fun j y v' e1 e2 e3 => ?_⟩, fun y c e => ?_, I.free, I.freeC, fun p hp => ?_, tracked ⟨oL, hoL, I.free⟩ hs, by simpa using I.len⟩ ⟨_, hs, .inl rfl⟩
    · exact (hs.2 b (Nat.ne_of_lt (Nat.lt_of_lt_of_le (Heap.lt_size e) I.ok.above))).trans (I.base.keep b o e n hb hx)
    · obtain ⟨sl, e1⟩ := I.base.slot b o e n hb hx
      exact ⟨sl, (hs.2 b (Nat.ne_of_lt (Nat.lt_of_lt_of_le (Heap.lt_size e) I.ok.above))).trans e1⟩
    · obtain ⟨o', e1⟩ := I.base.there b o e hx
      exact ⟨o', (hs.2 b (Nat.ne_of_lt (Nat.lt_of_lt_of_le (Heap.lt_size e) I.ok.above))).trans e1⟩
    · by_cases hj : j = i
      · subst hj
        rw [hi] at e1; cases e1
        rw [List.getElem?_set_self hiσ] at e2
        cases e2
        exact ⟨u, r, .inl ⟨hk, by simp⟩⟩
      · rw [List.getElem?_set_ne (Ne.symm hj)] at e2
        obtain ⟨u', r', q⟩ := hl j y v' e1 e2 e3
        refine ⟨u', r', ?_⟩
        rcases q with ⟨k, e⟩ | ⟨k, c, e, z⟩
        · refine .inl ⟨k, ?_⟩
          have : y ≠ x := fun e => hj (nodup_ix hN e1 (e ▸ hi))
          simp [this, e]
        · exact .inr ⟨k, c, e, z.sameBut hs (cne y c e)⟩
    · obtain ⟨w', z⟩ := I.cell y c e
      exact ⟨w', z.sameBut hs (cne y c e)⟩
    · obtain ⟨e, n, ne, nf, d⟩ := I.pin p hp
      exact ⟨(hs.2 p.1 ne).trans e, n, ne, nf, d⟩
  · have hfn : X.fn x = true := by
      rcases hf with z | z
      · exact z
      · rw [z] at hk; cases hk
    obtain ⟨c, hc⟩ := I.ok.has x (.inl hk)
    obtain ⟨w', z⟩ := I.cell x c hc
    refine wpAny_storeName_cell I.ok.kind hk hc z (fun h' hc' hs => ?_)
    obtain ⟨oc, hoc, hocd⟩ := id z
    refine h { s with heap := h' } ⟨I.ok, I.os, I.bare, ⟨fun b o e n hb hx => ?_, fun b o e n hb hx => ?_, I.base.free, fun b o e hx => ?_, I.base.tups, I.base.frzs, I.base.tbls⟩, ⟨m, hn.sameBut hs (Ne.symm (cne x c hc)), fun j y v' e1 e2 e3 => ?_⟩, fun y c' e => ?_, I.free, I.freeC, fun p hp => ?_, tracked ⟨oc, hoc, I.freeC x c hc⟩ hs, by simpa using I.len⟩ ⟨c, hs, .inr hc⟩
    · exact (hs.2 b (Nat.ne_of_lt (Nat.lt_of_lt_of_le (Heap.lt_size e) (I.ok.cab x c hfn hc)))).trans (I.base.keep b o e n hb hx)
    · obtain ⟨sl, e1⟩ := I.base.slot b o e n hb hx
      exact ⟨sl, (hs.2 b (Nat.ne_of_lt (Nat.lt_of_lt_of_le (Heap.lt_size e) (I.ok.cab x c hfn hc)))).trans e1⟩
    · obtain ⟨o', e1⟩ := I.base.there b o e hx
      exact ⟨o', (hs.2 b (Nat.ne_of_lt (Nat.lt_of_lt_of_le (Heap.lt_size e) (I.ok.cab x c hfn hc)))).trans e1⟩
    · by_cases hj : j = i
      · subst hj
        rw [hi] at e1; cases e1
        rw [List.getElem?_set_self hiσ] at e2
        cases e2
        exact ⟨u, r, .inr ⟨.inl hk, c, hc, hc'⟩⟩
      · rw [List.getElem?_set_ne (Ne.symm hj)] at e2
        obtain ⟨u', r', q⟩ := hl j y v' e1 e2 e3
        refine ⟨u', r', ?_⟩
        rcases q with q | ⟨k, c', e, z'⟩
        · exact .inl q
        · refine .inr ⟨k, c', e, z'.sameBut hs ?_⟩
          rintro rfl
          exact hj (nodup_ix hN e1 (I.ok.inj _ _ _ e hc ▸ hi))
    · by_cases hcc : c' = c
      · subst hcc; exact ⟨_, hc'⟩
      · obtain ⟨w2, z2⟩ := I.cell y c' e
        exact ⟨w2, z2.sameBut hs hcc⟩
    · obtain ⟨e, n, ne, nf, d⟩ := I.pin p hp
      refine ⟨(hs.2 p.1 ?_).trans e, n, ne, nf, d⟩
      intro q
      rw [q, hoc] at e
      have q' : oc = p.2 := Option.some.inj e
      exact d w' (by rw [← q']; exact hocd)
theorem store_ok {M : Model} {A : Around} {E : Value → Shared → Prop} {i : Nat} {x : Str} {v : V} {u : Value} {Q : Unit → Shared → Prop} (I : Inv X pins σ H s) (hN : X.N.Nodup) (hi : X.N[i]? = some x) (hx : Loc X.env.scope x) (r : RelV v u)
    (h : ∀ s', Inv X pins (σ.set i (some v)) H s' → Q () s') (hf : X.fn x = true ∨ X.env.scope.names.lookup x = some .local := by first | exact .inl rfl | exact .inr rfl | assumption) : wpAny M A (storeName X.env x u) Q E s :=
  store_ok2 I hN hi hx r (fun s' I' _ => h s' I') hf
theorem Inv.call' {s' : Shared} {ch : List Addr} (I : Inv X pins σ H s) (ho : s'.os = s.os) (u : Un (frs X.stack) ch H H' s.heap s'.heap) (hok : HOk X.prog X.w H' s'.heap) (hg : AllBare s'.gens)
    (hch : ∀ b ∈ ch, (b ∈ X.ex ∨ X.s₀.heap.objs.size ≤ b) ∧ b ≠ X.env.locals ∧ (∀ x c, X.env.cells.lookup x = some c → c ≠ b) ∧ ∀ p ∈ X.pn ++ pins, p.1 ≠ b) : Inv X pins σ H' s' := by
  obtain ⟨h', g', d', t', o'⟩ := s'
  have e : o' = s.os := ho
  subst e
  exact I.call (g' := g') (t' := t') (d' := d') u hok hg hch
end
abbrev XK := Value → Option Addr → Hp → Prop
abbrev St := List (Option V)
abbrev VK := V → Hp → Prop
abbrev TE := St → Hp → VK → Prop
abbrev TT := St → Hp → (Bool → Hp → Prop) → Prop
abbrev TA := St → Hp → (List V → Hp → Prop) → Prop
structure Ends where
  nx : St → Hp → Prop
  rt : VK
  bk : St → Hp → Prop := fun _ _ => False
  ct : St → Hp → Prop := fun _ _ => False
abbrev TS := Ends → St → Hp → Prop
def EP (X : Cx) (pins : List (Addr × Obj)) (σ : St) (Q : VK) (u : Value) (s' : Shared) : Prop := ∃ v H', Inv X pins σ H' s' ∧ RelV v u ∧ Q v H'
def TP (X : Cx) (pins : List (Addr × Obj)) (σ : St) (Q : Bool → Hp → Prop) (b : Bool) (s' : Shared) : Prop := ∃ H', Inv X pins σ H' s' ∧ Q b H'
def AP (X : Cx) (pins : List (Addr × Obj)) (σ : St) (Q : List V → Hp → Prop) (us : List Value) (s' : Shared) : Prop := ∃ vs H', Inv X pins σ H' s' ∧ Vals vs us ∧ Q vs H'
def SP (X : Cx) (pins : List (Addr × Obj)) (D : Ends) (f : Flow) (s' : Shared) : Prop :=
  match f with
  | .next => ∃ σ' H', Inv X pins σ' H' s' ∧ D.nx σ' H'
  | .brk => ∃ σ' H', Inv X pins σ' H' s' ∧ D.bk σ' H'
  | .cont => ∃ σ' H', Inv X pins σ' H' s' ∧ D.ct σ' H'
  | .ret u => ∃ v σ' H', Inv X pins σ' H' s' ∧ RelV v u ∧ D.rt v H'
def PE (X : Cx) (e : Expr) (t : TE) : Prop :=
  ∀ (pins : List (Addr × Obj)) (s : Shared) (σ : St) (H : Hp) (Q : VK), Inv X pins σ H s → t σ H Q → wpAny (model X.prog X.w) X.A (eval e X.env) (EP X pins σ Q) X.xe s
def PT (X : Cx) (e : Expr) (t : TT) : Prop :=
  ∀ (pins : List (Addr × Obj)) (s : Shared) (σ : St) (H : Hp) (Q : Bool → Hp → Prop), Inv X pins σ H s → t σ H Q → wpAny (model X.prog X.w) X.A (isTrue e X.env (eval e X.env)) (TP X pins σ Q) X.xe s
def PW (X : Cx) (e : Expr) (t : TT) : Prop :=
  ∀ (whole : Sem Value) (pins : List (Addr × Obj)) (s : Shared) (σ : St) (H : Hp) (Q : Bool → Hp → Prop), Inv X pins σ H s → t σ H Q → wpAny (model X.prog X.w) X.A (isTrue e X.env whole) (TP X pins σ Q) X.xe s
theorem PW.pt {X : Cx} {e : Expr} {t : TT} (h : PW X e t) : PT X e t := h _
def PA (X : Cx) (es : List Expr) (t : TA) : Prop :=
  ∀ (pos : Pos) (pins : List (Addr × Obj)) (s : Shared) (σ : St) (H : Hp) (Q : List V → Hp → Prop), Inv X pins σ H s → t σ H Q → wpAny (model X.prog X.w) X.A (spliced (backTo pos (starEach es X.env))) (AP X pins σ Q) X.xe s
def PS (X : Cx) (st : Stmt) (t : TS) : Prop :=
  ∀ (pins : List (Addr × Obj)) (s : Shared) (σ : St) (H : Hp) (D : Ends), Inv X pins σ H s → t D σ H → wpAny (model X.prog X.w) X.A (exec st X.env) (SP X pins D) X.xe s
def PSs (X : Cx) (st : List Stmt) (t : TS) : Prop :=
  ∀ (pins : List (Addr × Obj)) (s : Shared) (σ : St) (H : Hp) (D : Ends), Inv X pins σ H s → t D σ H → wpAny (model X.prog X.w) X.A (execs st X.env) (SP X pins D) X.xe s
theorem thn {α : Type} {t : Sem α} {Q Q' : α → Shared → Prop} {M : Model} {A : Around} {E : Value → Shared → Prop} {s : Shared} (h : wpAny M A t Q E s) (hQ : ∀ a s, Q a s → Q' a s) : wpAny M A t Q' E s := wpAny_mono h hQ fun _ _ x => x
end L2
namespace L2
open PySem PySem.Spec PyProof.Rows
section
variable {X : Cx}
theorem bin {a b : Expr} {ta tb : TE} (ha : PE X a ta) (hb : PE X b tb) {pins : List (Addr × Obj)} {s : Shared} {σ : St} {H : Hp} {R : V → V → Hp → Prop} (I : Inv X pins σ H s) (h : ta σ H fun x H1 => tb σ H1 fun y H2 => R x y H2)
    {α : Type} {Q : α → Shared → Prop} {f : Value → Value → Sem α}
    (hf : ∀ v u s2 x y H2, Inv X pins σ H2 s2 → RelV x v → RelV y u → R x y H2 → wpAny (model X.prog X.w) X.A (f v u) Q X.xe s2) :
    wpAny (model X.prog X.w) X.A (eval a X.env) (fun v s₁ => wpAny (model X.prog X.w) X.A (eval b X.env) (fun u s₂ => wpAny (model X.prog X.w) X.A (f v u) Q X.xe s₂) X.xe s₁) X.xe s := by
  refine thn (ha pins s σ H _ I h) fun v s1 ⟨x, H1, I1, r1, q1⟩ => ?_
  refine thn (hb pins s1 σ H1 _ I1 q1) fun u s2 ⟨y, H2, I2, r2, q2⟩ => ?_
  exact hf v u s2 x y H2 I2 r1 r2 q2
def tVar (i : Nat) : TE := fun σ H Q => ∃ v, σ[i]? = some (some v) ∧ Q v H
def tC (v : V) : TE := fun _ H Q => Q v H
theorem pe_var {i : Nat} {x : Str} {pos : Pos} (hN : X.N[i]? = some x) (hv : Vis X.env.scope x) (hd : (x == ("__debug__" : Str)) = false := by decide) (hcd : (x == ("__classdict__" : Str)) = false := by decide) : PE X (.Name x pos) (tVar i) := by
  intro pins s σ H Q I h
  obtain ⟨v, e, h⟩ := h
  obtain ⟨m, hn, hl⟩ := I.loc
  obtain ⟨u, r, l⟩ := hl i x v hN e hv
  have fin : EP X pins σ Q u s := ⟨v, H, I, r, h⟩
  rcases l with ⟨hk, hm⟩ | ⟨hk, c, hc, hcell⟩
  · exact wpAny_Name (wpAny_loadName_local I.ok.kind hk hn hm fin) hd
  · rcases hk with hk | hk
    · exact wpAny_Name (wpAny_loadName_cell I.ok.kind hk hc hcell fin) hd
    · exact wpAny_Name (wpAny_loadName_free I.ok.kind hk hc hcell fin hcd) hd
theorem pe_int {i j pos} : PE X (.Constant (.int i) j pos) (tC (.int i)) := fun _ _ _ H _ I h => wpAny_Constant_int ⟨.int i, H, I.tok _, ⟨_, rfl⟩, h⟩
theorem pe_bl {b j pos} : PE X (.Constant (.bool b) j pos) (tC (.bl b)) := fun _ _ _ H _ I h => Constant_bool ⟨.bl b, H, I, rfl, h⟩
theorem pe_str {x j pos} : PE X (.Constant (.str x) j pos) (tC (.str x)) := fun _ _ _ H _ I h => Calls.Constant_str ⟨.str x, H, I.tok _, ⟨_, rfl⟩, h⟩
def Gl (X : Cx) (x : Str) : Prop := X.env.kindOf x = some .globalImplicit
theorem ld_glob {E : Value → Shared → Prop} {pins : List (Addr × Obj)} {s : Shared} {σ : St} {H : Hp} {x : Str} {u : Value} {pos : Pos} {Q : Value → Shared → Prop} (I : Inv X pins σ H s) (hg : Gl X x) (hm : X.mg x = some u) (h : Q u s)
    (hd : (x == ("__debug__" : Str)) = false := by decide) : wpAny (model X.prog X.w) X.A (eval (.Name x pos) X.env) Q E s :=
  Calls.Name_function_global I.ok.kind hg (Calls.loadGlobal_global (by rw [I.ok.glob]; exact I.mod.glob.keeps I.bk) hm h) hd
theorem ld_blt {E : Value → Shared → Prop} {pins : List (Addr × Obj)} {s : Shared} {σ : St} {H : Hp} {x : Str} {u : Value} {pos : Pos} {Q : Value → Shared → Prop} (I : Inv X pins σ H s) (hg : Gl X x) (hm : X.mg x = none) (hv : bootBuiltins x = some u) (h : Q u s)
    (hn : x ≠ "__name__" := by decide) (hd : (x == ("__debug__" : Str)) = false := by decide) : wpAny (model X.prog X.w) X.A (eval (.Name x pos) X.env) Q E s := by
  obtain ⟨mb, h1, h2⟩ := I.mod.blt
  exact Calls.Name_function_global I.ok.kind hg (Calls.loadGlobal_builtin (by rw [I.ok.glob]; exact I.mod.glob.keeps I.bk) hm (by rw [I.ok.blt]; exact h1.keeps I.bk) ((h2 x hn).trans hv) h) hd
theorem pe_glob {x : Str} {v : V} {u : Value} {pos : Pos} (hg : Gl X x) (hm : X.mg x = some u) (r : RelV v u) (hd : (x == ("__debug__" : Str)) = false := by decide) : PE X (.Name x pos) (tC v) :=
  fun _ _ _ H _ I h => ld_glob I hg hm ⟨v, H, I, r, h⟩ hd
theorem pe_bltn {x : Str} {v : V} {u : Value} {pos : Pos} (hg : Gl X x) (hm : X.mg x = none) (hv : bootBuiltins x = some u) (r : RelV v u) (hn : x ≠ "__name__" := by decide) (hd : (x == ("__debug__" : Str)) = false := by decide) : PE X (.Name x pos) (tC v) :=
  fun _ _ _ H _ I h => ld_blt I hg hm hv ⟨v, H, I, r, h⟩ hn hd
variable {a b : Expr} {ta tb : TE} {pos : Pos}
variable {tA tB' : TT} {rest : List Expr}
def tAnd (t u : TT) : TT := fun σ H Q => t σ H fun c H1 => if c = true then u σ H1 Q else Q false H1
def tOr (t u : TT) : TT := fun σ H Q => t σ H fun c H1 => if c = true then Q true H1 else u σ H1 Q
def tNot (t : TT) : TT := fun σ H Q => t σ H fun c H1 => Q (!c) H1
theorem pw_and1 (ha : PT X a tA) : PW X (.BoolOp .And [a] pos) tA := by
  intro wh pins s σ H Q I h
  refine isTrue_and (thn (ha pins s σ H Q I h) fun c s1 e => ?_)
  cases c with
  | true => exact isTrue_and_nil e
  | false => exact e
theorem pw_or1 (ha : PT X a tA) : PW X (.BoolOp .Or [a] pos) tA := by
  intro wh pins s σ H Q I h
  refine isTrue_or (thn (ha pins s σ H Q I h) fun c s1 e => ?_)
  cases c with
  | false => exact isTrue_or_nil e
  | true => exact e
theorem pw_and (ha : PT X a tA) (hb : PW X (.BoolOp .And (b :: rest) pos) tB') : PW X (.BoolOp .And (a :: b :: rest) pos) (tAnd tA tB') := by
  intro wh pins s σ H Q I h
  refine isTrue_and (thn (ha pins s σ H _ I h) fun c s1 ⟨H1, I1, q1⟩ => ?_)
  cases c with
  | true => exact hb wh pins s1 σ H1 Q I1 q1
  | false => exact ⟨H1, I1, q1⟩
theorem pw_or (ha : PT X a tA) (hb : PW X (.BoolOp .Or (b :: rest) pos) tB') : PW X (.BoolOp .Or (a :: b :: rest) pos) (tOr tA tB') := by
  intro wh pins s σ H Q I h
  refine isTrue_or (thn (ha pins s σ H _ I h) fun c s1 ⟨H1, I1, q1⟩ => ?_)
  cases c with
  | true => exact ⟨H1, I1, q1⟩
  | false => exact hb wh pins s1 σ H1 Q I1 q1
theorem pt_not (ha : PT X a tA) : PT X (.UnaryOp .Not a pos) (tNot tA) := by
  intro pins s σ H Q I h
  exact isTrue_not (ha pins s σ H (fun c H1 => Q (!c) H1) I h)
def tAndV (ta tb : TE) : TE := fun σ H Q => ta σ H fun x H1 => ∃ c, x = .bl c ∧ if c = true then tb σ H1 Q else Q (.bl false) H1
def tNotV (ta : TE) : TE := fun σ H Q => ta σ H fun x H1 => ∃ c, x = .bl c ∧ Q (.bl (!c)) H1
theorem pe_one {op} {t : TE} (h : PE X a t) : PE X (.BoolOp op [a] pos) t := fun pins s σ H Q I hw => BoolOp_one (h pins s σ H Q I hw)
theorem pe_and (ha : PE X a ta) (hb : PE X (.BoolOp .And (b :: rest) pos) tb) : PE X (.BoolOp .And (a :: b :: rest) pos) (tAndV ta tb) := by
  intro pins s σ H Q I h
  refine BoolOp_and (thn (ha pins s σ H _ I h) fun v s1 ⟨x, H1, I1, r1, q1⟩ => ?_)
  obtain ⟨c, rfl, q1⟩ := q1
  cases r1
  refine wpAny_truthy_bool ?_
  cases c with
  | true => exact hb pins s1 σ H1 Q I1 q1
  | false => exact ⟨.bl false, H1, I1, rfl, q1⟩
theorem pe_not (ha : PE X a ta) : PE X (.UnaryOp .Not a pos) (tNotV ta) := by
  intro pins s σ H Q I h
  refine UnaryOp_ (thn (ha pins s σ H _ I h) fun v s1 ⟨x, H1, I1, r1, q1⟩ => ?_)
  obtain ⟨c, rfl, q1⟩ := q1
  cases r1
  exact not_of (wpAny_truthy_bool ⟨.bl (!c), H1, I1, rfl, q1⟩)
end
end L2
namespace L2
open PySem PySem.Spec PyProof.Rows
def SqL (K : PySem.W.Frag) (H : Hp) (a : Addr) (xs : List V) : Prop :=
  Rd H a (.lst xs) ∨
    ∃ (o : Obj) (its : Array Value) (n : Nat), K.lookup a = some o ∧ o.cls = .type "list" ∧ o.dict = none ∧ o.data = .seq its n ∧ its.size ≤ sizeLine ∧ Vals xs its.toList
def SqT (K : PySem.W.Frag) (H : Hp) (a : Addr) (xs : List V) : Prop :=
  Rd H a (.tup xs) ∨
    ∃ (o : Obj) (its : Array Value) (n : Nat), K.lookup a = some o ∧ o.cls = .type "tuple" ∧ o.data = .seq its n ∧ its.size ≤ sizeLine ∧ Vals xs its.toList
def absV : Value → Option V
  | .none => some .non
  | .bool b => some (.bl b)
  | .int i _ => some (.int i)
  | .str x _ => some (.str x)
  | .bytes b _ => some (.byt b)
  | .float b _ => some (.flt b)
  | .ref a => some (.ref a)
  | .type n => some (.ty n)
  | _ => none
theorem RelV.abs {x : V} {u : Value} (r : RelV x u) : absV u = some x := by
  cases x with
  | non => cases r; rfl
  | bl _ => cases r; rfl
  | int _ => obtain ⟨t, rfl⟩ := r; rfl
  | str _ => obtain ⟨t, rfl⟩ := r; rfl
  | byt _ => obtain ⟨t, rfl⟩ := r; rfl
  | flt _ => obtain ⟨t, rfl⟩ := r; rfl
  | ref _ => cases r; rfl
  | ty _ => cases r; rfl
theorem RelV.inj {x y : V} {u : Value} (r : RelV x u) (q : RelV y u) : x = y := Option.some.inj (r.abs.symm.trans q.abs)
theorem Vals.inj : ∀ {xs ys : List V} {us : List Value}, Vals xs us → Vals ys us → xs = ys
  | _, _, _, .nil, .nil => rfl
  | _, _, _, .cons r t, .cons r' t' => by rw [r.inj r', Vals.inj t t']
section
variable {X : Cx} {pins : List (Addr × Obj)} {σ : St} {H : Hp} {s : Shared} {a : Addr} {xs ys : List V}
theorem SqL.of {K : PySem.W.Frag} (h : H a = some (.lst xs)) : SqL K H a xs := .inl (.inl h)
theorem SqT.of {K : PySem.W.Frag} (h : H a = some (.tup xs)) : SqT K H a xs := .inl (.inl h)
theorem Inv.list (I : Inv X pins σ H s) (h : SqL X.K H a xs) : ∃ its : List Value, Vals xs its ∧ PlainL s.heap a its.toArray ∧ xs.length ≤ sizeLine := by
  rcases h with h | ⟨o, its, n, hk, hc, hd, hs, hz, r⟩
  · obtain ⟨z, its, n, r, e⟩ := h.ok I.hok
    exact ⟨its, r, ⟨_, n, e, rfl, rfl, rfl⟩, z⟩
  · refine ⟨its.toList, r, ⟨o, n, I.kIn a o hk, hc, hd, by simpa using hs⟩, ?_⟩
    have e := r.length
    simp only [Array.length_toList] at e
    omega
theorem Inv.tuple (I : Inv X pins σ H s) (h : SqT X.K H a xs) : ∃ its : List Value, Vals xs its ∧ IsTup s.heap a its.toArray ∧ xs.length ≤ sizeLine := by
  rcases h with h | ⟨o, its, n, hk, hc, hs, hz, r⟩
  · obtain ⟨z, its, r, p⟩ := h.ok I.hok
    exact ⟨its, r, p, z⟩
  · refine ⟨its.toList, r, ⟨o, I.kIn a o hk, hc, n, by simpa using hs⟩, ?_⟩
    have e := r.length
    simp only [Array.length_toList] at e
    omega
theorem Inv.list_inj (I : Inv X pins σ H s) (h : SqL X.K H a xs) (h' : SqL X.K H a ys) : xs = ys := by
  obtain ⟨its, r, ⟨o, n, e, _, _, d⟩, _⟩ := I.list h
  obtain ⟨its', r', ⟨o', n', e', _, _, d'⟩, _⟩ := I.list h'
  rw [e] at e'; cases e'
  rw [d] at d'
  injection d' with d1 _
  have : its = its' := by simpa using congrArg Array.toList d1
  subst this
  exact r.inj r'
theorem Inv.tuple_inj (I : Inv X pins σ H s) (h : SqT X.K H a xs) (h' : SqT X.K H a ys) : xs = ys := by
  obtain ⟨its, r, ⟨o, e, _, n, d⟩, _⟩ := I.tuple h
  obtain ⟨its', r', ⟨o', e', _, n', d'⟩, _⟩ := I.tuple h'
  rw [e] at e'; cases e'
  rw [d] at d'
  injection d' with d1 _
  have : its = its' := by simpa using congrArg Array.toList d1
  subst this
  exact r.inj r'
end
section
variable {X : Cx} {pins : List (Addr × Obj)} {σ : St} {H : Hp} {s : Shared} {E : Value → Shared → Prop}
end
section
variable {X : Cx} {st : Stmt} {rest : List Stmt} {t u : TS} {e : Expr} {te : TE} {pos : Pos}
def tNext : TS := fun D σ H => D.nx σ H
def tSeq (t u : TS) : TS := fun D σ H => t { D with nx := u D } σ H
theorem pss_nil : PSs X [] tNext := fun _ _ σ H _ I h => wpAny_execs_nil ⟨σ, H, I, h⟩
theorem pss_cons (h1 : PS X st t) (h2 : PSs X rest u) : PSs X (st :: rest) (tSeq t u) := by
  intro pins s σ H D I h
  refine wpAny_execs_cons (thn (h1 pins s σ H { D with nx := u D } I h) fun f s1 q => ?_)
  cases f with
  | next =>
    obtain ⟨σ', H', I', q⟩ := q
    exact h2 pins s1 σ' H' D I' q
  | ret v => exact q
  | brk => exact q
  | cont => exact q
theorem pss_one (h1 : PS X st t) : PSs X [st] t := by
  intro pins s σ H D I h
  refine wpAny_execs_cons (thn (h1 pins s σ H D I h) fun f s1 q => ?_)
  cases f with
  | next => exact wpAny_execs_nil q
  | ret v => exact q
  | brk => exact q
  | cont => exact q
theorem Inv.quiet {pins : List (Addr × Obj)} {σ : St} {H : Hp} {s : Shared} (I : Inv X pins σ H s) : interactive X.env = false := by simp [interactive, I.ok.kind]
def tDrop (te : TE) : TS := fun D σ H => te σ H fun _ H1 => D.nx σ H1
theorem ps_expr (he : PE X e te) (hs : swapsWith e none pos.line X.env = pure false := by rfl) : PS X (.Expr e pos) (tDrop te) := by
  intro pins s σ H D I h
  exact wpAny_Expr_any (thn (he pins s σ H _ I h) fun v s1 ⟨x, H1, I1, r1, q1⟩ => ⟨σ, H1, I1, q1⟩) I.quiet hs
def tRet (te : TE) : TS := fun D σ H => te σ H D.rt
theorem ps_ret (he : PE X e te) : PS X (.Return (some e) pos) (tRet te) := by
  intro pins s σ H D I h
  exact wpAny_Return_some (thn (he pins s σ H _ I h) fun v s1 ⟨x, H1, I1, r1, q1⟩ => ⟨x, σ, H1, I1, r1, q1⟩)
def tIfS (c : TT) (t u : TS) : TS := fun D σ H => c σ H fun b H1 => if b = true then t D σ H1 else u D σ H1
theorem ps_if {c : Expr} {a b : List Stmt} {tc : TT} (hc : PT X c tc) (ha : PSs X a t) (hb : PSs X b u) : PS X (.If c a b pos) (tIfS tc t u) := by
  intro pins s σ H D I h
  refine wpAny_If (thn (hc pins s σ H _ I h) fun d s1 ⟨H1, I1, q1⟩ => ?_)
  cases d with
  | true => exact ha pins s1 σ H1 D I1 q1
  | false => exact hb pins s1 σ H1 D I1 q1
end
abbrev TG := V → St → Hp → (St → Hp → Prop) → Prop
abbrev TGs := List V → St → Hp → (St → Hp → Prop) → Prop
def PG (X : Cx) (target : Expr) (t : TG) : Prop :=
  ∀ (pins : List (Addr × Obj)) (s : Shared) (σ : St) (H : Hp) (v : V) (u : Value) (Q : St → Hp → Prop), Inv X pins σ H s → RelV v u → t v σ H Q →
    wpAny (model X.prog X.w) X.A (assign target X.env u) (fun _ s' => ∃ σ' H', Inv X pins σ' H' s' ∧ Q σ' H') X.xe s
def PGs (X : Cx) (ts : List Expr) (t : TGs) : Prop :=
  ∀ (pins : List (Addr × Obj)) (s : Shared) (σ : St) (H : Hp) (vs : List V) (us : List Value) (Q : St → Hp → Prop), Inv X pins σ H s → Vals vs us → t vs σ H Q →
    wpAny (model X.prog X.w) X.A (assignInOrder ((assignEach ts X.env).map (·.2)) us) (fun _ s' => ∃ σ' H', Inv X pins σ' H' s' ∧ Q σ' H') X.xe s
abbrev TSet := V → V → V → Hp → (Hp → Prop) → Prop
def PSet (X : Cx) (t : TSet) : Prop :=
  ∀ (pins : List (Addr × Obj)) (s : Shared) (σ : St) (H : Hp) (o i v : V) (ov iv u : Value) (Q : Hp → Prop), Inv X pins σ H s → RelV o ov → RelV i iv → RelV v u → t o i v H Q →
    wpAny (model X.prog X.w) X.A (setItem ov iv u) (fun _ s' => ∃ H', Inv X pins σ H' s' ∧ Q H') X.xe s
abbrev TIp := V → V → Hp → VK → Prop
def PIp (X : Cx) (op : Operator) (t : TIp) : Prop :=
  ∀ (pins : List (Addr × Obj)) (s : Shared) (σ : St) (H : Hp) (x y : V) (v u : Value) (Q : VK), Inv X pins σ H s → RelV x v → RelV y u → t x y H Q →
    wpAny (model X.prog X.w) X.A (inplaceOp op v u) (EP X pins σ Q) X.xe s
section
variable {X : Cx} {pos : Pos}
def gName (i : Nat) : TG := fun v σ H Q => Q (σ.set i (some v)) H
theorem pg_name {i : Nat} {x : Str} (hN : X.N.Nodup) (hi : X.N[i]? = some x) (hx : Loc X.env.scope x) (hf : X.fn x = true ∨ X.env.scope.names.lookup x = some .local := by first | exact .inl rfl | exact .inr rfl | assumption) : PG X (.Name x pos) (gName i) := by
  intro pins s σ H v u Q I r h
  exact wpAny_assign_Name (store_ok I hN hi hx r (fun s' I' => ⟨_, H, I', h⟩) hf)
def gNil : TGs := fun vs σ H Q => vs = [] ∧ Q σ H
def gCons (t : TG) (u : TGs) : TGs := fun vs σ H Q => ∃ v r, vs = v :: r ∧ t v σ H fun σ' H' => u r σ' H' Q
theorem pgs_nil : PGs X [] gNil := by
  intro pins s σ H vs us Q I r h
  obtain ⟨e, h⟩ := h
  subst e
  cases r
  exact assignInOrder_nil ⟨σ, H, I, h⟩
theorem pgs_cons {e : Expr} {es : List Expr} {t : TG} {u : TGs} (h1 : PG X e t) (h2 : PGs X es u)
    (hs : (assignEach (e :: es) X.env).map (·.2) = assign e X.env :: (assignEach es X.env).map (·.2) := by rfl) : PGs X (e :: es) (gCons t u) := by
  intro pins s σ H vs us Q I r h
  obtain ⟨v, vr, e1, h⟩ := h
  subst e1
  cases r with
  | cons r rr =>
    rw [hs]
    refine assignInOrder_cons (thn (h1 pins s σ H _ _ _ I r h) fun _ s1 ⟨σ1, H1, I1, q1⟩ => ?_)
    exact h2 pins s1 σ1 H1 _ _ Q I1 rr q1
def gTup (K : PySem.W.Frag) (n : Nat) (t : TGs) : TG := fun v σ H Q => ∃ a xs, v = .ref a ∧ SqT K H a xs ∧ xs.length = n ∧ t xs σ H Q
theorem pg_tup {es : List Expr} {k : Nat} {t : TGs} {n : Nat} (hc : X.calm = true) (h : PGs X es t)
    (hn : (assignEach es X.env).length = n := by rfl) (hst : (assignEach es X.env).findIdx? (·.1) = none := by rfl) : PG X (.Tuple es k pos) (gTup X.K n t) := by
  intro pins s σ H v u Q I r hw
  obtain ⟨a, xs, e1, hq, hl, hw⟩ := hw
  subst e1
  cases r
  obtain ⟨its, rv, ht, hz⟩ := I.tuple hq
  refine assign_Tuple_tuple (I.ok.hd hc) ht (by simp [hn, ← hl, rv.length]) hst fun h' hx => ?_
  have I1 : Inv X pins σ H { s with heap := h' } := I.kept (t' := s.toks) fun b o e => hx b o (Nat.ne_of_lt (Heap.lt_size e)) e
  exact h pins _ σ H xs _ Q I1 (by simpa using rv) hw
def gSub (to ti : TE) (t : TSet) : TG := fun v σ H Q => to σ H fun o H1 => ti σ H1 fun i H2 => t o i v H2 fun H3 => Q σ H3
theorem pg_sub {o i : Expr} {to ti : TE} {t : TSet} (ho : PE X o to) (hi : PE X i ti) (hs : PSet X t)
    (ha : ∀ v, assign (.Subscript o i pos) X.env v = (do
      let ov ← holding [v] (eval o X.env)
      let iv ← holding [v, ov] (eval i X.env)
      standAt pos
      holding [v, ov, iv] (setItem ov iv v)
      release [v, ov, iv] []) := by intro _; rfl) : PG X (.Subscript o i pos) (gSub to ti t) := by
  intro pins s σ H v u Q I r h
  rw [ha]
  refine wpAny_bind (wpAny_holding (thn (ho pins s σ H _ I h) fun ov s1 ⟨x, H1, I1, r1, q1⟩ => ?_))
  refine wpAny_bind (wpAny_holding (thn (hi pins s1 σ H1 _ I1 q1) fun iv s2 ⟨y, H2, I2, r2, q2⟩ => ?_))
  refine wpAny_bind (wpAny_standAt (wpAny_bind (wpAny_holding (thn (hs pins s2 σ H2 x y v ov iv u _ I2 r1 r2 r q2) fun _ s3 ⟨H3, I3, q3⟩ => ?_))))
  exact wpAny_release ⟨σ, H3, I3, q3⟩
def tAsg (te : TE) (g : TG) : TS := fun D σ H => te σ H fun x H1 => g x σ H1 D.nx
theorem ps_asg {tg e : Expr} {te : TE} {g : TG} (he : PE X e te) (hg : PG X tg g) (hs : swapsWithSole [tg] e pos.line X.env = pure false := by rfl) (hw : swappedStores [tg] e X.env = pure none := by rfl)
    (h1 : (assignEach [tg] X.env).map (·.2) = [assign tg X.env] := by rfl) : PS X (.Assign [tg] e pos) (tAsg te g) := by
  intro pins s σ H D I h
  refine wpAny_Assign_stores (thn (he pins s σ H _ I h) fun v s1 ⟨x, H1, I1, r1, q1⟩ => ?_) hs hw
  rw [h1]
  exact thn (hg pins s1 σ H1 x v _ I1 r1 q1) fun _ s2 q => q
theorem ps_set {i : Nat} {x : Str} {e : Expr} {te : TE} {pos' : Pos} (hN : X.N.Nodup) (hi : X.N[i]? = some x) (hx : Loc X.env.scope x) (he : PE X e te) (hs : swapsWith e (some (.Name x pos')) pos.line X.env = pure false := by rfl) (hf : X.fn x = true ∨ X.env.scope.names.lookup x = some .local := by first | exact .inl rfl | exact .inr rfl | assumption) :
    PS X (.Assign [.Name x pos'] e pos) (tAsg te (gName i)) := by
  intro pins s σ H D I h
  refine wpAny_Assign_Name (thn (he pins s σ H _ I h) fun v s1 ⟨y, H1, I1, r1, q1⟩ => ?_) hs
  exact store_ok I1 hN hi hx r1 (fun s2 I2 => ⟨_, H1, I2, q1⟩) hf
def tAug (i : Nat) (te : TE) (ti : TIp) : TS := fun D σ H => ∃ x, σ[i]? = some (some x) ∧ te σ H fun y H1 => ti x y H1 fun z H2 => D.nx (σ.set i (some z)) H2
theorem ps_aug {i : Nat} {x : Str} {e : Expr} {te : TE} {op : Operator} {ti : TIp} {pos' : Pos} (hN : X.N.Nodup) (hi : X.N[i]? = some x) (hx : Loc X.env.scope x) (he : PE X e te) (ho : PIp X op ti) (hf : X.fn x = true ∨ X.env.scope.names.lookup x = some .local := by first | exact .inl rfl | exact .inr rfl | assumption) :
    PS X (.AugAssign (.Name x pos') op e pos) (tAug i te ti) := by
  intro pins s σ H D I h
  obtain ⟨v, e1, h⟩ := h
  obtain ⟨m, hn, hl⟩ := I.loc
  have vis : Vis X.env.scope x := by rcases hx with k | k; exact .inl k; exact .inr (.inl k)
  obtain ⟨u, r, l⟩ := hl i x v hi e1 vis
  refine wpAny_AugAssign_Name ?_
  have go : wpAny (model X.prog X.w) X.A (eval e X.env) (fun w s₂ => wpAny (model X.prog X.w) X.A (inplaceOp op u w) (fun r s₃ => wpAny (model X.prog X.w) X.A (storeName X.env x r) (fun _ => SP X pins D .next) X.xe s₃) X.xe s₂) X.xe s := by
    refine thn (he pins s σ H _ I h) fun w s1 ⟨y, H1, I1, r1, q1⟩ => ?_
    refine thn (ho pins s1 σ H1 v y u w _ I1 r r1 q1) fun z s2 ⟨zv, H2, I2, r2, q2⟩ => ?_
    exact store_ok I2 hN hi hx r2 (fun s3 I3 => ⟨_, H2, I3, q2⟩) hf
  rcases l with ⟨hk, hm⟩ | ⟨hk, c, hc, hcell⟩
  · exact wpAny_loadName_local I.ok.kind hk hn hm go
  · rcases hk with hk | hk
    · exact wpAny_loadName_cell I.ok.kind hk hc hcell go
    · rcases hx with k | k
      · have : X.env.scope.names.lookup x = some .free := hk
        rw [k] at this; cases this
      · have : X.env.scope.names.lookup x = some .free := hk
        rw [k] at this; cases this
def tAugS (to ti te : TE) (tget : V → V → Hp → VK → Prop) (tip : TIp) (tset : TSet) : TS := fun D σ H => to σ H fun o H1 => ti σ H1 fun i H2 => tget o i H2 fun x H3 => te σ H3 fun y H4 => tip x y H4 fun z H5 => tset o i z H5 fun H6 => D.nx σ H6
def PGet (X : Cx) (t : V → V → Hp → VK → Prop) : Prop :=
  ∀ (pins : List (Addr × Obj)) (s : Shared) (σ : St) (H : Hp) (o i : V) (ov iv : Value) (Q : VK), Inv X pins σ H s → RelV o ov → RelV i iv → t o i H Q →
    wpAny (model X.prog X.w) X.A (getItem ov iv) (EP X pins σ Q) X.xe s
theorem ps_augS {o i e : Expr} {to ti te : TE} {tget : V → V → Hp → VK → Prop} {tip : TIp} {tset : TSet} {op : Operator} {tpos : Pos} (ho : PE X o to) (hi : PE X i ti) (hg : PGet X tget) (he : PE X e te) (hp : PIp X op tip) (hs : PSet X tset)
    (ha : ∀ ov iv new, augStore i ov iv new = (do holding [new, ov, iv] (setItem ov iv new); release [new, ov, iv] []; pure .next) := by intros; rfl) : PS X (.AugAssign (.Subscript o i tpos) op e pos) (tAugS to ti te tget tip tset) := by
  intro pins s σ H D I h
  refine wpAny_AugAssign_SubscriptAny (thn (ho pins s σ H _ I h) fun ov s1 ⟨x1, H1, I1, r1, q1⟩ => ?_) ha
  refine thn (hi pins s1 σ H1 _ I1 q1) fun iv s2 ⟨x2, H2, I2, r2, q2⟩ => ?_
  refine thn (hg pins s2 σ H2 x1 x2 ov iv _ I2 r1 r2 q2) fun old s3 ⟨x3, H3, I3, r3, q3⟩ => ?_
  refine thn (he pins s3 σ H3 _ I3 q3) fun v s4 ⟨x4, H4, I4, r4, q4⟩ => ?_
  refine thn (hp pins s4 σ H4 x3 x4 old v _ I4 r3 r4 q4) fun new s5 ⟨x5, H5, I5, r5, q5⟩ => ?_
  exact thn (hs pins s5 σ H5 x1 x2 x5 ov iv new _ I5 r1 r2 r5 q5) fun _ s6 ⟨H6, I6, q6⟩ => ⟨σ, H6, I6, q6⟩
def ipI (f : Int → Int → Int) : TIp := fun x y H Q => ∃ i j, x = .int i ∧ y = .int j ∧ Q (.int (f i j)) H
theorem ip_add : PIp X .Add (ipI fun i j => i + j) := by
  intro pins s σ H x y v u Q I r1 r2 h
  obtain ⟨i, j, e1, e2, q⟩ := h
  subst e1; subst e2
  obtain ⟨t, rfl⟩ := r1
  obtain ⟨t', rfl⟩ := r2
  exact iadd_int ⟨.int _, H, I.tok _, ⟨_, rfl⟩, q⟩
theorem ip_sub : PIp X .Sub (ipI fun i j => i - j) := by
  intro pins s σ H x y v u Q I r1 r2 h
  obtain ⟨i, j, e1, e2, q⟩ := h
  subst e1; subst e2
  obtain ⟨t, rfl⟩ := r1
  obtain ⟨t', rfl⟩ := r2
  exact isub_int ⟨.int _, H, I.tok _, ⟨_, rfl⟩, q⟩
end
section
variable {X : Cx} {pos : Pos}
def tWhile (c : TT) (tb : TS) : TS := fun D σ H => ∃ W : Nat → St → Hp → Prop, (∃ m, W m σ H) ∧ ∀ m σ H, W m σ H →
  c σ H fun b H1 => if b = true then ∃ N : St → Hp → Prop, (∀ σ' H', N σ' H' → ∃ m', m' < m ∧ W m' σ' H') ∧ tb { D with nx := N, ct := N, bk := D.nx } σ H1 else D.nx σ H1
theorem ps_while {c : Expr} {body : List Stmt} {tc : TT} {tb : TS} (hp : PassesOwn (model X.prog X.w) X.A X.env X.xe) (hc : PT X c tc) (hb : PSs X body tb) : PS X (.While c body [] pos) (tWhile tc tb) := by
  intro pins s σ H D I h
  obtain ⟨W, ⟨m0, w0⟩, turn⟩ := h
  refine wpAny_While (codeAny_whileLoop (fun n s' => ∃ σ' H', Inv X pins σ' H' s' ∧ W n σ' H') ?_ m0 ⟨σ, H, I, w0⟩)
  rintro n s1 ⟨σ1, H1, I1, w1⟩
  refine wpAny_passesOwn hp (thn (hc pins s1 σ1 H1 _ I1 (turn n σ1 H1 w1)) fun b s2 ⟨H2, I2, q2⟩ => ?_)
  cases b with
  | true =>
    obtain ⟨N, hN, q2⟩ := q2
    rw [if_pos rfl]
    refine wpAny_passesOwn hp (thn (hb pins s2 σ1 H2 _ I2 q2) fun f s3 q3 => ?_)
    cases f with
    | next =>
      obtain ⟨σ3, H3, I3, n3⟩ := q3
      obtain ⟨m', hm, w3⟩ := hN σ3 H3 n3
      exact ⟨m', hm, σ3, H3, I3, w3⟩
    | cont =>
      obtain ⟨σ3, H3, I3, n3⟩ := q3
      obtain ⟨m', hm, w3⟩ := hN σ3 H3 n3
      exact ⟨m', hm, σ3, H3, I3, w3⟩
    | brk => exact q3
    | ret v => exact q3
  | false =>
    rw [if_neg Bool.false_ne_true]
    exact wpAny_execs_nil ⟨σ1, H2, I2, q2⟩
end
structure It where
  go : Nat → Hp → Prop
  yld : Nat → Hp → V → Hp → Prop
  stop : Nat → Hp → Prop
def FpOk (X : Cx) (pins : List (Addr × Obj)) (H : Hp) (b : Addr) : Prop :=
  H b = none ∧ b ≠ X.env.locals ∧ b ∉ X.fs ∧ (b ∈ X.ex ∨ X.s₀.heap.objs.size ≤ b) ∧ (∀ x c, X.env.cells.lookup x = some c → c ≠ b) ∧ ∀ p ∈ X.pn ++ pins, p.1 ≠ b
theorem Inv.fpOk {X : Cx} {pins : List (Addr × Obj)} {σ : St} {H H' : Hp} {s : Shared} {b : Addr} (I : Inv X pins σ H s) (hb : s.heap.objs.size ≤ b) (hn : H' b = none) : FpOk X pins H' b := by
  refine ⟨hn, Nat.ne_of_gt (Nat.lt_of_lt_of_le I.lt hb), I.nofs hb, .inr (Nat.le_trans I.sz hb), fun x c e z => ?_, fun p hp z => ?_⟩
  · obtain ⟨v, q⟩ := I.cell x c e
    exact absurd (Nat.lt_of_lt_of_le q.lt (by rw [z]; exact hb)) (Nat.lt_irrefl _)
  · exact absurd (Nat.lt_of_lt_of_le (Heap.lt_size (I.pin p hp).1) (by rw [z]; exact hb)) (Nat.lt_irrefl _)
structure Turn (P : Program) (w : World) (K : PySem.W.Frag) (tg : Expr) (J : It) (fp : List Addr) (it : Addr) (tn : Nat → Heap → Prop) : Prop where
  mem : it ∈ fp
  obj : ∀ i h, tn i h → ∀ b ∈ fp, ∃ o, h.get? b = some o ∧ ∀ v, o.data ≠ .cell v
  keep : ∀ i h h', tn i h → (∀ b ∈ fp, ∀ o, h.get? b = some o → h'.get? b = some o) → tn i h'
  item : ∀ (X : Cx), X.prog = P → X.w = w → X.K = K → X.calm = true → ∀ (i : Nat) (pins : List (Addr × Obj)) (s : Shared) (σ : St) (H : Hp) (E : Value → Shared → Prop), Inv X pins σ H s → (∀ b ∈ fp, FpOk X pins H b) → tn i s.heap → J.go i H →
    wpAny (model P w) X.A (pyNext (.ref it)) (fun r s1 => ∃ u, r = some u ∧
      wpAny (model P w) X.A (letOwnedTupleGo tg (.ref it) u) (fun _ s2 => ∃ x H', Inv X pins σ H' s2 ∧ RelV x u ∧ J.yld i H x H' ∧ tn (i + 1) s2.heap ∧ ∀ b ∈ fp, H' b = none) E s1) E s
  done : ∀ (X : Cx), X.prog = P → X.w = w → X.K = K → X.calm = true → ∀ (i : Nat) (pins : List (Addr × Obj)) (s : Shared) (σ : St) (H : Hp) (E : Value → Shared → Prop), Inv X pins σ H s → (∀ b ∈ fp, FpOk X pins H b) → tn i s.heap → J.stop i H →
    wpAny (model P w) X.A (pyNext (.ref it)) (fun r s1 => r = none ∧ Inv X pins σ H s1) E s
  self : ∀ (A : Around) (i : Nat) (s : Shared) (Q : Value → Shared → Prop) (E : Value → Shared → Prop), tn i s.heap → Q (.ref it) s → wpAny (model P w) A (pyIter (.ref it)) Q E s
abbrev TI := St → Hp → (It → Hp → Prop) → Prop
def PIE (X : Cx) (pins : List (Addr × Obj)) (σ : St) (tg : Expr) (R : It → Hp → Prop) (itv : Value) (s2 : Shared) : Prop :=
  ∃ (it : Addr) (fp : List Addr) (tn : Nat → Heap → Prop) (J : It) (H' : Hp), itv = .ref it ∧ Inv X pins σ H' s2 ∧ Turn X.prog X.w X.K tg J fp it tn ∧ tn 0 s2.heap ∧ (∀ b ∈ fp, FpOk X pins H' b) ∧ R J H'
def PI (X : Cx) (tg iter : Expr) (wi : TI) : Prop :=
  ∀ (pins : List (Addr × Obj)) (s : Shared) (σ : St) (H : Hp) (R : It → Hp → Prop), Inv X pins σ H s → wi σ H R →
    wpAny (model X.prog X.w) X.A (eval iter X.env) (fun v s1 => wpAny (model X.prog X.w) X.A (pyIter v) (PIE X pins σ tg R) X.xe s1) X.xe s
theorem go_of {M : Model} {A : Around} {E : Value → Shared → Prop} {s : Shared} {tg : Expr} {it : Addr} {u : Value} {o : Obj} {n : String} {vs : Array Value} {Q : Unit → Shared → Prop} (ho : s.heap.get? it = some o) (hc : o.cls = .type n) (hd : o.data = .fields vs)
    (hn : ["enumerate", "zip", "dict_itemiterator", "dict_reverseitemiterator", "odict_iterator", "itertools.zip_longest", "itertools.pairwise"].contains n = false) (hQ : Q () s) : wpAny M A (letOwnedTupleGo tg (.ref it) u) Q E s := by
  unfold letOwnedTupleGo
  cases tg <;> first
    | exact wpAny_pure hQ
    | (cases u <;> first
        | exact wpAny_pure hQ
        | (refine wpAny_bind (wpAny_load ho ?_)
           rw [hc, hd]
           show wpAny M A (if (["enumerate", "zip", "dict_itemiterator", "dict_reverseitemiterator", "odict_iterator", "itertools.zip_longest", "itertools.pairwise"].contains n && vs[0]? == some (rawInt _)) = true then _ else _) Q E s
           rw [if_neg (by intro h; rw [hn, Bool.false_and] at h; cases h)]
           exact wpAny_pure hQ))
def Itl (K : PySem.W.Frag) (a : Addr) : It :=
  ⟨fun i H => ∃ xs x, SqL K H a xs ∧ xs[i]? = some x, fun i H x H' => H' = H ∧ ∀ xs, SqL K H a xs → xs[i]? = some x, fun i H => ∃ xs, SqL K H a xs ∧ xs.length ≤ i⟩
def Itt (K : PySem.W.Frag) (a : Addr) : It :=
  ⟨fun i H => ∃ xs x, SqT K H a xs ∧ xs[i]? = some x, fun i H x H' => H' = H ∧ ∀ xs, SqT K H a xs → xs[i]? = some x, fun i H => ∃ xs, SqT K H a xs ∧ xs.length ≤ i⟩
def Itr (lo : Int) (n : Nat) : It := ⟨fun i _ => i < n, fun i H x H' => H' = H ∧ x = .int (lo + i), fun i _ => n ≤ i⟩
theorem turn_list {P : Program} {w : World} {K : PySem.W.Frag} {tg : Expr} (a it : Addr) : Turn P w K tg (Itl K a) [it] it (fun i h => h.IsListIter it a i) where
  mem := by simp
  obj := fun i h st b hb => by
    have e : b = it := by simpa using hb
    subst e
    obtain ⟨o, e, c, d⟩ := st
    exact ⟨o, e, fun v z => by rw [d] at z; cases z⟩
  keep := fun i h h' st k => st.at fun o e => k it (by simp) o e
  item := by
    intro X hP hw hK hc i pins s σ H E I hf st hg
    subst hP hw hK
    obtain ⟨xs, x, hq, hx⟩ := hg
    obtain ⟨its, rv, p, hz⟩ := I.list hq
    obtain ⟨u, hu, ru⟩ := rv.get hx
    obtain ⟨f0, f1, f2, f3, f4, f5⟩ := hf it (by simp)
    refine wpAny_pyNext_list_item st p.isList (x := u) (by simpa using hu) fun h' st' sb => ?_
    have I1 : Inv X pins σ H { s with heap := h' } := I.turned (t' := s.toks) (fun b o hb e => (sb.2 b hb).trans e) f0 f1 f3 f4 f5
    obtain ⟨o, e, c, d⟩ := id st'
    exact ⟨u, rfl, go_of (s := { s with heap := h' }) e c d (by decide) ⟨x, H, I1, ru, ⟨rfl, fun ys hy => by rw [I.list_inj hy hq]; exact hx⟩, st', fun b hb => (hf b hb).1⟩⟩
  done := by
    intro X hP hw hK hc i pins s σ H E I hf st hg
    subst hP hw hK
    obtain ⟨xs, hq, hx⟩ := hg
    obtain ⟨its, rv, p, hz⟩ := I.list hq
    obtain ⟨f0, f1, f2, f3, f4, f5⟩ := hf it (by simp)
    have hl := rv.length
    exact wpAny_pyNext_list_end (I.ok.hd hc) st p.isList (by simp; omega) fun h' eb => ⟨rfl, I.turned (t' := s.toks) (fun b o hb e => eb b o hb e) f0 f1 f3 f4 f5⟩
  self := fun _ _ _ _ _ st h => wpAny_pyIter_listiter st h
theorem turn_tuple {P : Program} {w : World} {K : PySem.W.Frag} {tg : Expr} (a it : Addr) : Turn P w K tg (Itt K a) [it] it (fun i h => h.IsTupleIter it a i) where
  mem := by simp
  obj := fun i h st b hb => by
    have e : b = it := by simpa using hb
    subst e
    obtain ⟨o, e, c, d⟩ := st
    exact ⟨o, e, fun v z => by rw [d] at z; cases z⟩
  keep := fun i h h' st k => st.at fun o e => k it (by simp) o e
  item := by
    intro X hP hw hK hc i pins s σ H E I hf st hg
    subst hP hw hK
    obtain ⟨xs, x, hq, hx⟩ := hg
    obtain ⟨its, rv, p, hz⟩ := I.tuple hq
    obtain ⟨u, hu, ru⟩ := rv.get hx
    obtain ⟨f0, f1, f2, f3, f4, f5⟩ := hf it (by simp)
    refine wpAny_pyNext_tuple_item st (show s.heap.IsTuple a its.toArray from p) (x := u) (by simpa using hu) fun h' st' sb => ?_
    have I1 : Inv X pins σ H { s with heap := h' } := I.turned (t' := s.toks) (fun b o hb e => (sb.2 b hb).trans e) f0 f1 f3 f4 f5
    obtain ⟨o, e, c, d⟩ := id st'
    exact ⟨u, rfl, go_of (s := { s with heap := h' }) e c d (by decide) ⟨x, H, I1, ru, ⟨rfl, fun ys hy => by rw [I.tuple_inj hy hq]; exact hx⟩, st', fun b hb => (hf b hb).1⟩⟩
  done := by
    intro X hP hw hK hc i pins s σ H E I hf st hg
    subst hP hw hK
    obtain ⟨xs, hq, hx⟩ := hg
    obtain ⟨its, rv, p, hz⟩ := I.tuple hq
    obtain ⟨f0, f1, f2, f3, f4, f5⟩ := hf it (by simp)
    have hl := rv.length
    exact wpAny_pyNext_tuple_end (I.ok.hd hc) st (show s.heap.IsTuple a its.toArray from p) (by simp; omega) fun h' eb => ⟨rfl, I.turned (t' := s.toks) (fun b o hb e => eb b o hb e) f0 f1 f3 f4 f5⟩
  self := fun _ _ _ _ _ st h => wpAny_pyIter_tupleiter st h
theorem turn_range {P : Program} {w : World} {K : PySem.W.Frag} {tg : Expr} (it : Addr) (lo : Int) (n : Nat) : Turn P w K tg (Itr lo n) [it] it (fun i h => IsRangeIter h it (lo + (i : Nat) * 1) ((n : Int) - (i : Nat)) 1) where
  mem := by simp
  obj := fun i h st b hb => by
    have e : b = it := by simpa using hb
    subst e
    exact ⟨_, st, fun v z => by
      have z' : Data.fields _ = Data.cell v := z
      cases z'⟩
  keep := fun i h h' st k => k it (by simp) _ st
  item := by
    intro X hP hw hK hc i pins s σ H E I hf st hg
    subst hP hw hK
    obtain ⟨f0, f1, f2, f3, f4, f5⟩ := hf it (by simp)
    have W := Walks.range (prog := X.prog) (w := X.w) (I.ok.hd hc) it lo 1 n
    refine W.item i s _ _ hg st fun v h' tk hv st' kk => ?_
    obtain ⟨t, rfl⟩ := hv
    have I1 : Inv X pins σ H { s with heap := h', toks := tk } := I.turned (fun b o hb e => kk b o (by simpa using hb) e) f0 f1 f3 f4 f5
    refine ⟨_, rfl, go_of (s := { s with heap := h', toks := tk }) (n := "range_iterator") st' rfl rfl (by decide) ⟨.int (lo + i), H, I1, ⟨t, ?_⟩, ⟨rfl, rfl⟩, st', fun b hb => (hf b hb).1⟩⟩
    rw [Int.mul_one]
  done := by
    intro X hP hw hK hc i pins s σ H E I hf st hg
    subst hP hw hK
    obtain ⟨f0, f1, f2, f3, f4, f5⟩ := hf it (by simp)
    exact wpAny_pyNext_range_end (I.ok.hd hc) st (by have : n ≤ i := hg; omega) fun h' eb => ⟨rfl, I.turned (t' := s.toks) (fun b o hb e => eb b o hb e) f0 f1 f3 f4 f5⟩
  self := fun _ _ _ _ _ st h => wpAny_pyIter_rangeiter st h
end L2
namespace L2
open PySem PySem.Spec PyProof.Rows
section
variable {X : Cx} {tg : Expr}
def iList (K : PySem.W.Frag) (tl : TE) : TI := fun σ H R => tl σ H fun x H1 => ∃ a, x = .ref a ∧ (∃ xs, SqL K H1 a xs) ∧ R (Itl K a) H1
def iTup (K : PySem.W.Frag) (tl : TE) : TI := fun σ H R => tl σ H fun x H1 => ∃ a, x = .ref a ∧ (∃ xs, SqT K H1 a xs) ∧ R (Itt K a) H1
theorem pi_list {l : Expr} {tl : TE} (hl : PE X l tl) : PI X tg l (iList X.K tl) := by
  intro pins s σ H R I h
  refine thn (hl pins s σ H _ I h) fun v s1 ⟨x, H1, I1, r1, q1⟩ => ?_
  obtain ⟨a, e, ⟨xs, hq⟩, q⟩ := q1
  subst e
  cases r1
  obtain ⟨its, rv, p, hz⟩ := I1.list hq
  refine wpAny_pyIter_list p.isList ?_
  refine ⟨s1.heap.objs.size, [s1.heap.objs.size], _, _, H1, rfl, I1.kept (t' := s1.toks) fun b o e => Heap.get?_push_of_some _ e, turn_list a _, ⟨_, Heap.get?_push_size _ rfl, rfl, rfl⟩, fun b hb => ?_, q⟩
  have e : b = s1.heap.objs.size := by simpa using hb
  subst e
  exact I1.fpOk (Nat.le_refl _) (I1.hok.fresh (Nat.le_refl _))
theorem pi_tup {l : Expr} {tl : TE} (hl : PE X l tl) : PI X tg l (iTup X.K tl) := by
  intro pins s σ H R I h
  refine thn (hl pins s σ H _ I h) fun v s1 ⟨x, H1, I1, r1, q1⟩ => ?_
  obtain ⟨a, e, ⟨xs, hq⟩, q⟩ := q1
  subst e
  cases r1
  obtain ⟨its, rv, p, hz⟩ := I1.tuple hq
  refine wpAny_pyIter_tuple (show s1.heap.IsTuple a its.toArray from p) ?_
  refine ⟨s1.heap.objs.size, [s1.heap.objs.size], _, _, H1, rfl, I1.kept (t' := s1.toks) fun b o e => Heap.get?_push_of_some _ e, turn_tuple a _, ⟨_, Heap.get?_push_size _ rfl, rfl, rfl⟩, fun b hb => ?_, q⟩
  have e : b = s1.heap.objs.size := by simpa using hb
  subst e
  exact I1.fpOk (Nat.le_refl _) (I1.hok.fresh (Nat.le_refl _))
theorem range_it {pins : List (Addr × Obj)} {σ : St} {H : Hp} {s : Shared} {R : It → Hp → Prop} {E : Value → Shared → Prop} {lo hi : Int} {t u v : Tok} {tk : Nat} (I : Inv X pins σ H s) (h1 : -(2 ^ 62) ≤ lo) (h2 : lo < 2 ^ 62) (h3 : -(2 ^ 62) ≤ hi) (h4 : hi < 2 ^ 62)
    (q : R (Itr lo (hi - lo).toNat) H) : wpAny (model X.prog X.w) X.A (pyIter (.ref s.heap.objs.size)) (PIE X pins σ tg R) E { s with heap := s.heap.push { cls := .type "range", data := .fields #[.int lo t, .int hi u, .int 1 v] }, toks := tk } := by
  refine wpAny_pyIter_range (IsRange.new ..) (small_one h1 h2 h3 h4) ?_
  have I1 : Inv X pins σ H { s with heap := s.heap.push { cls := .type "range", data := .fields #[.int lo t, .int hi u, .int 1 v] }, toks := tk } := I.kept fun b o e => Heap.get?_push_of_some _ e
  refine ⟨(s.heap.push { cls := .type "range", data := .fields #[.int lo t, .int hi u, .int 1 v] }).objs.size, [(s.heap.push { cls := .type "range", data := .fields #[.int lo t, .int hi u, .int 1 v] }).objs.size], _, _, H, rfl,
    I1.kept (t' := tk) fun b o e => Heap.get?_push_of_some _ e, turn_range _ lo (hi - lo).toNat, ?_, fun b hb => ?_, q⟩
  · have e1 : lo + ((0 : Nat) : Int) * 1 = lo := by simp
    have e2 : (((hi - lo).toNat : Nat) : Int) - ((0 : Nat) : Int) = Builtin.Range.rangeSize lo hi 1 := by rw [rangeSize_one]; split <;> omega
    show IsRangeIter _ _ (lo + ((0 : Nat) : Int) * 1) ((((hi - lo).toNat : Nat) : Int) - ((0 : Nat) : Int)) 1
    rw [e1, e2]
    exact Heap.get?_push_size _ rfl
  · have e : b = (s.heap.push { cls := .type "range", data := .fields #[.int lo t, .int hi u, .int 1 v] }).objs.size := by simpa using hb
    subst e
    exact I1.fpOk (Nat.le_refl _) (I1.hok.fresh (Nat.le_refl _))
def iRng1 (ta : TA) : TI := fun σ H R => ta σ H fun vs H1 => ∃ j : Int, vs = [.int j] ∧ -(2 ^ 62) ≤ j ∧ j < 2 ^ 62 ∧ R (Itr 0 j.toNat) H1
theorem pi_range1 {a : Expr} {ta : TA} {p pos : Pos} (hg : Gl X "range") (hm : X.mg "range" = none) (ha : PA X [a] ta) (hs : starEach [a] X.env = [(false, eval a X.env)] := by rfl) : PI X tg (.Call (.Name "range" p) [a] [] pos) (iRng1 ta) := by
  intro pins s σ H R I h
  refine Call_ (ld_blt I hg hm boot_range (PyProof.Rows.callWith_type1 (thn (ha pos pins s σ H _ I h) fun us s1 ⟨vs, H1, I1, r1, q1⟩ => ?_) hs rfl))
  obtain ⟨j, e, q1, q2, q⟩ := q1
  subst e
  cases r1 with
  | cons r rr =>
    cases rr
    obtain ⟨t, rfl⟩ := r
    exact call_range_1 (range_it I1 (by omega) (by omega) q1 q2 (by simpa using q))
def tFor (wi : TI) (g : TG) (tb : TS) : TS := fun D σ H => wi σ H fun J H1 => ∃ W : Nat → Nat → St → Hp → Prop, (∃ m, W 0 m σ H1) ∧ ∀ i m σ H, W i m σ H →
  (J.stop i H ∧ D.nx σ H) ∨ (J.go i H ∧ ∃ N : St → Hp → Prop, (∀ σ' H', N σ' H' → ∃ m', m' < m ∧ W (i + 1) m' σ' H') ∧ ∀ x H', J.yld i H x H' → g x σ H' fun σ2 H2 => tb { D with nx := N, ct := N, bk := D.nx } σ2 H2)
def pinsAt (fp : List Addr) (h : Heap) : List (Addr × Obj) := fp.filterMap fun b => (h.get? b).map fun o => (b, o)
theorem mem_pinsAt {fp : List Addr} {h : Heap} {b : Addr} {o : Obj} (hb : b ∈ fp) (e : h.get? b = some o) : (b, o) ∈ pinsAt fp h := List.mem_filterMap.mpr ⟨b, hb, by rw [e]; rfl⟩
theorem of_pinsAt {fp : List Addr} {h : Heap} {p : Addr × Obj} (hp : p ∈ pinsAt fp h) : p.1 ∈ fp ∧ h.get? p.1 = some p.2 := by
  obtain ⟨b, hb, e⟩ := List.mem_filterMap.mp hp
  cases q : h.get? b with
  | none => rw [q] at e; cases e
  | some o =>
    rw [q] at e
    have e' : (b, o) = p := Option.some.inj e
    subst e'
    exact ⟨hb, q⟩
theorem Inv.pinned {pins : List (Addr × Obj)} {σ : St} {H : Hp} {s : Shared} {fp : List Addr} (I : Inv X pins σ H s) (hf : ∀ b ∈ fp, FpOk X pins H b) (ho : ∀ b ∈ fp, ∃ o, s.heap.get? b = some o ∧ ∀ v, o.data ≠ .cell v) : Inv X (pins ++ pinsAt fp s.heap) σ H s :=
  I.pins_of fun p hp => (List.mem_append.mp hp).elim (fun z => I.pin p (List.mem_append_right _ z)) fun z => by
    obtain ⟨hb, e⟩ := of_pinsAt z
    obtain ⟨f0, f1, f2, _⟩ := hf p.1 hb
    obtain ⟨o, e', d⟩ := ho p.1 hb
    rw [e] at e'; cases e'
    exact ⟨e, f0, f1, f2, d⟩
theorem Inv.unpinned {pins pl : List (Addr × Obj)} {σ : St} {H : Hp} {s : Shared} (I : Inv X (pins ++ pl) σ H s) : Inv X pins σ H s := I.pins_of fun p hp => I.pin p (List.mem_append_right _ (List.mem_append_left _ hp))
theorem ps_for {iter : Expr} {body : List Stmt} {wi : TI} {g : TG} {tb : TS} {pos : Pos} (hp : PassesOwn (model X.prog X.w) X.A X.env X.xe) (hc : X.calm = true) (hi : PI X tg iter wi) (hg : PG X tg g) (hb : PSs X body tb)
    (hs : ∀ x, foldedSetIterable iter X.env x = pure x := by intro _; rfl) : PS X (.For tg iter body [] pos) (tFor wi g tb) := by
  intro pins s σ H D I h
  refine wpAny_For (thn (hi pins s σ H _ I h) fun v s1 h1 => thn h1 fun itv s2 h2 => ?_) hs
  obtain ⟨it, fp, tn, J, H2, e, I2, T, st2, f2, W, ⟨m0, w0⟩, turn⟩ := h2
  subst e
  have stat : ∀ {H' : Hp}, (∀ b ∈ fp, H' b = none) → ∀ b ∈ fp, FpOk X pins H' b := fun hn b hb => ⟨hn b hb, (f2 b hb).2⟩
  refine codeAny_forLoop_any (fun n s' => ∃ i σ' H', Inv X pins σ' H' s' ∧ tn i s'.heap ∧ (∀ b ∈ fp, H' b = none) ∧ W i n σ' H') ?_ m0 ⟨0, σ, H2, I2, st2, fun b hb => (f2 b hb).1, w0⟩
  rintro n s3 ⟨i, σ3, H3, I3, st3, fr3, w3⟩
  rcases turn i n σ3 H3 w3 with ⟨stop, qn⟩ | ⟨go, N, hN, step⟩
  · refine wpAny_passesOwn hp (thn (T.done X rfl rfl rfl hc i pins s3 σ3 H3 X.xe I3 (stat fr3) st3 stop) fun r s4 ⟨hr, I4⟩ => ?_)
    subst hr
    exact wpAny_execs_nil ⟨σ3, H3, I4, qn⟩
  · refine wpAny_passesOwn hp (thn (T.item X rfl rfl rfl hc i pins s3 σ3 H3 X.xe I3 (stat fr3) st3 go) fun r s4 ⟨u, hr, h4⟩ => ?_)
    subst hr
    refine wpAny_passesOwn hp (thn h4 fun _ s5 ⟨x, H5, I5, r5, y5, st5, fr5⟩ => ?_)
    have I5' := I5.pinned (stat fr5) (T.obj _ _ st5)
    refine wpAny_passesOwn hp (thn (hg _ s5 σ3 H5 x u _ I5' r5 (step x H5 y5)) fun _ s6 ⟨σ6, H6, I6, q6⟩ => ?_)
    refine wpAny_passesOwn hp (thn (hb _ s6 σ6 H6 _ I6 q6) fun f s7 q7 => ?_)
    have again : ∀ {σ7 : St} {H7 : Hp}, Inv X (pins ++ pinsAt fp s5.heap) σ7 H7 s7 → N σ7 H7 → ∃ m, m < n ∧ ∃ i σ' H', Inv X pins σ' H' s7 ∧ tn i s7.heap ∧ (∀ b ∈ fp, H' b = none) ∧ W i m σ' H' := fun {σ7 H7} I7 n7 => by
      obtain ⟨m', hm, w7⟩ := hN σ7 H7 n7
      refine ⟨m', hm, i + 1, σ7, H7, I7.unpinned, T.keep _ _ _ st5 fun b hb o e => (I7.pin (b, o) (List.mem_append_right _ (List.mem_append_right _ (mem_pinsAt hb e)))).1, fun b hb => ?_, w7⟩
      obtain ⟨o, e, d⟩ := T.obj _ _ st5 b hb
      exact (I7.pin (b, o) (List.mem_append_right _ (List.mem_append_right _ (mem_pinsAt hb e)))).2.1
    cases f with
    | next => obtain ⟨σ7, H7, I7, n7⟩ := q7; exact again I7 n7
    | cont => obtain ⟨σ7, H7, I7, n7⟩ := q7; exact again I7 n7
    | brk => obtain ⟨σ7, H7, I7, q7⟩ := q7; exact ⟨σ7, H7, I7.unpinned, q7⟩
    | ret v => obtain ⟨x7, σ7, H7, I7, r7, q7⟩ := q7; exact ⟨x7, σ7, H7, I7.unpinned, r7, q7⟩
end
theorem for_range {lo : Int} {n : Nat} {g : TG} {tb : TS} {D : Ends} {σ : St} {H : Hp} (Pv : Nat → St → Hp → Prop) (h0 : Pv 0 σ H)
    (hs : ∀ i σ H, i < n → Pv i σ H → g (.int (lo + i)) σ H fun σ2 H2 => tb { D with nx := Pv (i + 1), ct := Pv (i + 1), bk := D.nx } σ2 H2) (hd : ∀ σ H, Pv n σ H → D.nx σ H) :
    ∃ W : Nat → Nat → St → Hp → Prop, (∃ m, W 0 m σ H) ∧ ∀ i m σ H, W i m σ H →
      ((Itr lo n).stop i H ∧ D.nx σ H) ∨ ((Itr lo n).go i H ∧ ∃ N : St → Hp → Prop, (∀ σ' H', N σ' H' → ∃ m', m' < m ∧ W (i + 1) m' σ' H') ∧ ∀ x H', (Itr lo n).yld i H x H' → g x σ H' fun σ2 H2 => tb { D with nx := N, ct := N, bk := D.nx } σ2 H2) := by
  refine ⟨fun i m σ H => m = n - i ∧ i ≤ n ∧ Pv i σ H, ⟨n, by simp, Nat.zero_le _, h0⟩, ?_⟩
  rintro i m σ H ⟨rfl, hi, p⟩
  by_cases hlt : i < n
  · refine .inr ⟨hlt, Pv (i + 1), fun σ' H' p' => ⟨n - (i + 1), by omega, rfl, hlt, p'⟩, fun x H' y => ?_⟩
    obtain ⟨e, y⟩ := y
    subst e y
    exact hs i σ _ hlt p
  · have e : i = n := by omega
    subst e
    exact .inl ⟨Nat.le_refl _, hd σ H p⟩
end L2
namespace L2
open PySem PySem.Spec PyProof.Rows
abbrev R2 := V → V → Hp → VK → Prop
def OpR (X : Cx) (f : Value → Value → Sem Value) (r : R2) : Prop :=
  ∀ (pins : List (Addr × Obj)) (s : Shared) (σ : St) (H : Hp) (x y : V) (v u : Value) (Q : VK), Inv X pins σ H s → RelV x v → RelV y u → r x y H Q →
    wpAny (model X.prog X.w) X.A (f v u) (EP X pins σ Q) X.xe s
def CallR (X : Cx) (f : Value) (r : List V → Hp → VK → Prop) : Prop :=
  ∀ (pins : List (Addr × Obj)) (s : Shared) (σ : St) (H : Hp) (xs : List V) (us : List Value) (Q : VK), Inv X pins σ H s → Vals xs us → r xs H Q →
    wpAny (model X.prog X.w) X.A (call f us) (EP X pins σ Q) X.xe s
def TruR (X : Cx) (r : V → Hp → (Bool → Hp → Prop) → Prop) : Prop :=
  ∀ (pins : List (Addr × Obj)) (s : Shared) (σ : St) (H : Hp) (x : V) (v : Value) (Q : Bool → Hp → Prop), Inv X pins σ H s → RelV x v → r x H Q →
    wpAny (model X.prog X.w) X.A (truthy v) (TP X pins σ Q) X.xe s
def tOp (r : R2) (ta tb : TE) : TE := fun σ H Q => ta σ H fun x H1 => tb σ H1 fun y H2 => r x y H2 Q
def rI (C : Int → Int → Prop) (g : Int → Int → V) : R2 := fun x y H Q => ∃ i j, x = .int i ∧ y = .int j ∧ C i j ∧ Q (g i j) H
def rI0 (g : Int → Int → V) : R2 := fun x y H Q => ∃ i j, x = .int i ∧ y = .int j ∧ Q (g i j) H
section
variable {X : Cx} {a b c : Expr} {ta tb tc : TE} {pos : Pos}
theorem binT (ha : PE X a ta) (hb : PE X b tb) {pins : List (Addr × Obj)} {s : Shared} {σ : St} {H : Hp} {R : V → V → Hp → Prop} (I : Inv X pins σ H s)
    (h : ta σ H fun x H1 => tb σ H1 fun y H2 => R x y H2) {Q : Value → Shared → Prop} {f : Value → Value → Sem Value}
    (hf : ∀ v u s2 x y H2, Inv X pins σ H2 s2 → RelV x v → RelV y u → R x y H2 → wpAny (model X.prog X.w) X.A (f v u) Q X.xe s2) :
    wpAny (model X.prog X.w) X.A (eval a X.env) (fun v s₁ => wpAny (model X.prog X.w) X.A (eval b X.env) (fun u s₂ => wpAny (model X.prog X.w) X.A (f v u) Q X.xe s₂) X.xe s₁) X.xe s := by
  refine thn (ha pins s σ H _ I h) fun v s1 ⟨x, H1, I1, r1, q1⟩ => ?_
  refine thn (hb pins s1 σ H1 _ I1 q1) fun u s2 ⟨y, H2, I2, r2, q2⟩ => ?_
  exact hf v u s2 x y H2 I2 r1 r2 q2
theorem pe_op {op : Operator} {r : R2} (ho : OpR X (binaryOp op) r) (ha : PE X a ta) (hb : PE X b tb) : PE X (.BinOp a op b pos) (tOp r ta tb) := by
  intro pins s σ H Q I h
  exact wpAny_BinOp (binT ha hb I h fun v u s2 x y H2 I2 rx ry q => ho pins s2 σ H2 x y v u Q I2 rx ry q)
theorem opI {f : Value → Value → Sem Value} {C : Int → Int → Prop} {g : Int → Int → Int}
    (rule : ∀ (i j : Int) (t u : Tok) (s : Shared) (Q : Value → Shared → Prop) (E : Value → Shared → Prop), C i j → Q (.int (g i j) s.toks) { s with toks := s.toks + 1 } → wpAny (model X.prog X.w) X.A (f (.int i t) (.int j u)) Q E s) :
    OpR X f (rI C fun i j => .int (g i j)) := by
  intro pins s σ H x y v u Q I rx ry h
  obtain ⟨i, j, rfl, rfl, hc, q⟩ := h
  obtain ⟨t, rfl⟩ := rx
  obtain ⟨t', rfl⟩ := ry
  exact rule i j t t' s _ _ hc ⟨.int (g i j), H, I.tok _, ⟨_, rfl⟩, q⟩
theorem opI0 {f : Value → Value → Sem Value} {g : Int → Int → Int}
    (rule : ∀ (i j : Int) (t u : Tok) (s : Shared) (Q : Value → Shared → Prop) (E : Value → Shared → Prop), Q (.int (g i j) s.toks) { s with toks := s.toks + 1 } → wpAny (model X.prog X.w) X.A (f (.int i t) (.int j u)) Q E s) :
    OpR X f (rI0 fun i j => .int (g i j)) := by
  intro pins s σ H x y v u Q I rx ry h
  obtain ⟨i, j, rfl, rfl, q⟩ := h
  obtain ⟨t, rfl⟩ := rx
  obtain ⟨t', rfl⟩ := ry
  exact rule i j t t' s _ _ ⟨.int (g i j), H, I.tok _, ⟨_, rfl⟩, q⟩
theorem opB0 {f : Value → Value → Sem Value} {g : Int → Int → Bool}
    (rule : ∀ (i j : Int) (t u : Tok) (s : Shared) (Q : Value → Shared → Prop) (E : Value → Shared → Prop), Q (.bool (g i j)) s → wpAny (model X.prog X.w) X.A (f (.int i t) (.int j u)) Q E s) :
    OpR X f (rI0 fun i j => .bl (g i j)) := by
  intro pins s σ H x y v u Q I rx ry h
  obtain ⟨i, j, rfl, rfl, q⟩ := h
  obtain ⟨t, rfl⟩ := rx
  obtain ⟨t', rfl⟩ := ry
  exact rule i j t t' s _ _ ⟨.bl (g i j), H, I, rfl, q⟩
def CPow (i j : Int) : Prop := 0 ≤ j ∧ j ≤ 1000000 ∧ i.natAbs < 2 ^ 64
def CMul (i j : Int) : Prop := (-(2 ^ 64) < i ∧ i < 2 ^ 64) ∨ (-(2 ^ 64) < j ∧ j < 2 ^ 64)
theorem CMul.ok {i j : Int} (h : CMul i j) : IntMulOk i j := by
  rcases h with ⟨h1, h2⟩ | ⟨h1, h2⟩
  · exact .of_left (intBits_le_64 h1 h2)
  · exact .of_right (intBits_le_64 h1 h2)
theorem op_add : OpR X (binaryOp .Add) (rI0 fun i j => .int (i + j)) := opI0 fun _ _ _ _ _ _ _ q => add_int q
theorem op_sub : OpR X (binaryOp .Sub) (rI0 fun i j => .int (i - j)) := opI0 fun _ _ _ _ _ _ _ q => sub_int q
theorem op_mod : OpR X (binaryOp .Mod) (rI (fun _ j => 0 < j) fun i j => .int (i % j)) := opI fun i j _ _ _ _ _ hc q => by
  have h1 : (0 : Int) < j := hc
  exact mod_int' (by omega) (by rw [Int.fmod_eq_emod_of_nonneg i (by omega)]; exact q)
theorem op_pow : OpR X (binaryOp .Pow) (rI CPow fun i j => .int (i ^ j.toNat)) := opI fun _ _ _ _ _ _ _ hc q => pow_int_small hc.1 hc.2.1 hc.2.2 q
end
def scal : V → V → Bool
  | .non, .non => true | .non, .int _ => true | .int _, .non => true | .non, .bl _ => true | .bl _, .non => true | .non, .str _ => true | .str _, .non => true
  | .int _, .int _ => true | .bl _, .bl _ => true | .str _, .str _ => true | .byt _, .byt _ => true
  | .int _, .str _ => true | .str _, .int _ => true | .bl _, .str _ => true | .str _, .bl _ => true
  | _, _ => false
def rEq : R2 := fun x y H Q => scal x y = true ∧ Q (.bl (decide (x = y))) H
def rNe : R2 := fun x y H Q => scal x y = true ∧ Q (.bl (!decide (x = y))) H
theorem dec_int {i j : Int} : decide (V.int i = V.int j) = (i == j) := by
  rw [Bool.eq_iff_iff]
  simp
theorem dec_bl {i j : Bool} : decide (V.bl i = V.bl j) = (i == j) := by
  rw [Bool.eq_iff_iff]
  simp
theorem dec_str {i j : Str} : decide (V.str i = V.str j) = (i == j) := by
  rw [Bool.eq_iff_iff]
  simp
theorem dec_byt {i j : Array UInt8} : decide (V.byt i = V.byt j) = (i.toList == j.toList) := by
  rw [Bool.eq_iff_iff]
  cases i
  cases j
  simp
section
variable {X : Cx} {a b c : Expr} {ta tb tc : TE} {pos : Pos}
theorem fin_bl {pins : List (Addr × Obj)} {σ : St} {H : Hp} {s : Shared} {Q : VK} {k k' : Bool} (I : Inv X pins σ H s) (q : Q (.bl k) H) (e : k = k') : EP X pins σ Q (.bool k') s := by
  subst e
  exact ⟨.bl k, H, I, rfl, q⟩
theorem op_eq : OpR X (compareOp .Eq) rEq := by
  intro pins s σ H x y v u Q I rx ry h
  obtain ⟨hs, q⟩ := h
  cases x with
  | non =>
    cases rx
    cases y with
    | non => cases ry; exact PySem.EqNone.eq_none_none (fin_bl I q (by simp))
    | bl j => cases ry; exact PySem.EqNone.eq_none_bool (fin_bl I q (by simp))
    | int j => obtain ⟨t', rfl⟩ := ry; exact PySem.EqNone.eq_none_int (fin_bl I q (by simp))
    | str j => obtain ⟨t', rfl⟩ := ry; exact PySem.EqNone.eq_none_str (fin_bl I q (by simp))
    | _ => exact absurd (show false = true from hs) Bool.false_ne_true
  | bl i =>
    cases rx
    cases y with
    | non => cases ry; exact PySem.EqNone.eq_bool_none (fin_bl I q (by simp))
    | bl j => cases ry; exact eq_bool (fin_bl I q dec_bl)
    | str j => obtain ⟨t', rfl⟩ := ry; exact PySem.EqMixed.eq_bool_str (fin_bl I q (by simp))
    | _ => exact absurd (show false = true from hs) Bool.false_ne_true
  | int i =>
    obtain ⟨t, rfl⟩ := rx
    cases y with
    | non => cases ry; exact PySem.EqNone.eq_int_none (fin_bl I q (by simp))
    | int j => obtain ⟨t', rfl⟩ := ry; exact eq_int (fin_bl I q dec_int)
    | str j => obtain ⟨t', rfl⟩ := ry; exact PySem.EqMixed.eq_int_str (fin_bl I q (by simp))
    | _ => exact absurd (show false = true from hs) Bool.false_ne_true
  | str i =>
    obtain ⟨t, rfl⟩ := rx
    cases y with
    | non => cases ry; exact PySem.EqNone.eq_str_none (fin_bl I q (by simp))
    | bl j => cases ry; exact PySem.EqMixed.eq_str_bool (fin_bl I q (by simp))
    | int j => obtain ⟨t', rfl⟩ := ry; exact PySem.EqMixed.eq_str_int (fin_bl I q (by simp))
    | str j => obtain ⟨t', rfl⟩ := ry; exact eq_str (fin_bl I q dec_str)
    | _ => exact absurd (show false = true from hs) Bool.false_ne_true
  | byt i =>
    obtain ⟨t, rfl⟩ := rx
    cases y with
    | byt j => obtain ⟨t', rfl⟩ := ry; exact PySem.W.eq_bytes (fin_bl I q dec_byt)
    | _ => exact absurd (show false = true from hs) Bool.false_ne_true
  | _ => cases y <;> exact absurd (show false = true from hs) Bool.false_ne_true
theorem op_ne : OpR X (compareOp .NotEq) rNe := by
  intro pins s σ H x y v u Q I rx ry h
  obtain ⟨hs, q⟩ := h
  cases x with
  | non =>
    cases rx
    cases y with
    | non => cases ry; exact PySem.EqNone.ne_none_none (fin_bl I q (by simp))
    | bl j => cases ry; exact PySem.EqNone.ne_none_bool (fin_bl I q (by simp))
    | int j => obtain ⟨t', rfl⟩ := ry; exact PySem.EqNone.ne_none_int (fin_bl I q (by simp))
    | str j => obtain ⟨t', rfl⟩ := ry; exact PySem.EqNone.ne_none_str (fin_bl I q (by simp))
    | _ => exact absurd (show false = true from hs) Bool.false_ne_true
  | bl i =>
    cases rx
    cases y with
    | non => cases ry; exact PySem.EqNone.ne_bool_none (fin_bl I q (by simp))
    | bl j => cases ry; exact ne_bool (fin_bl I q (congrArg not dec_bl))
    | str j => obtain ⟨t', rfl⟩ := ry; exact PySem.EqMixed.ne_bool_str (fin_bl I q (by simp))
    | _ => exact absurd (show false = true from hs) Bool.false_ne_true
  | int i =>
    obtain ⟨t, rfl⟩ := rx
    cases y with
    | non => cases ry; exact PySem.EqNone.ne_int_none (fin_bl I q (by simp))
    | int j => obtain ⟨t', rfl⟩ := ry; exact ne_int (fin_bl I q (congrArg not dec_int))
    | str j => obtain ⟨t', rfl⟩ := ry; exact PySem.EqMixed.ne_int_str (fin_bl I q (by simp))
    | _ => exact absurd (show false = true from hs) Bool.false_ne_true
  | str i =>
    obtain ⟨t, rfl⟩ := rx
    cases y with
    | non => cases ry; exact PySem.EqNone.ne_str_none (fin_bl I q (by simp))
    | bl j => cases ry; exact PySem.EqMixed.ne_str_bool (fin_bl I q (by simp))
    | int j => obtain ⟨t', rfl⟩ := ry; exact PySem.EqMixed.ne_str_int (fin_bl I q (by simp))
    | str j => obtain ⟨t', rfl⟩ := ry; exact ne_str (fin_bl I q (congrArg not dec_str))
    | _ => exact absurd (show false = true from hs) Bool.false_ne_true
  | byt i =>
    obtain ⟨t, rfl⟩ := rx
    cases y with
    | byt j => obtain ⟨t', rfl⟩ := ry; exact PySem.W.ne_bytes (fin_bl I q (congrArg not dec_byt))
    | _ => exact absurd (show false = true from hs) Bool.false_ne_true
  | _ => cases y <;> exact absurd (show false = true from hs) Bool.false_ne_true
theorem op_lt : OpR X (compareOp .Lt) (rI0 fun i j => .bl (decide (i < j))) := opB0 fun _ _ _ _ _ _ _ q => lt_int q
theorem op_gt : OpR X (compareOp .Gt) (rI0 fun i j => .bl (decide (j < i))) := opB0 fun _ _ _ _ _ _ _ q => gt_int q
theorem op_ge : OpR X (compareOp .GtE) (rI0 fun i j => .bl (decide (j ≤ i))) := opB0 fun _ _ _ _ _ _ _ q => ge_int q
theorem OpR.or {f : Value → Value → Sem Value} {r r' : R2} (h : OpR X f r) (h' : OpR X f r') : OpR X f (fun x y H Q => r x y H Q ∨ r' x y H Q) := by
  intro pins s σ H x y v u Q I rx ry q
  rcases q with q | q
  · exact h pins s σ H x y v u Q I rx ry q
  · exact h' pins s σ H x y v u Q I rx ry q
theorem nomark (b : Expr) {op : CmpOp} (h : op ≠ .In := by decide) (h2 : op ≠ .NotIn := by decide) : behindInMarks op b = false := by
  have e1 : (op == CmpOp.In) = false := by cases op <;> first | rfl | exact absurd rfl h
  have e2 : (op == CmpOp.NotIn) = false := by cases op <;> first | rfl | exact absurd rfl h2
  cases b <;> simp [behindInMarks, e1, e2]
theorem pe_cmpR {op : CmpOp} {r : R2} (ho : OpR X (compareOp op) r) (ha : PE X a ta) (hb : PE X b tb) (hm : behindInMarks op b = false) : PE X (.Compare a [op] [b] pos) (tOp r ta tb) := by
  intro pins s σ H Q I h
  exact wpAny_Compare1 (binT ha hb I h fun v u s2 x y H2 I2 rx ry q => ho pins s2 σ H2 x y v u Q I2 rx ry q) hm
def tTest (t : TE) : TT := fun σ H Q => t σ H fun x H' => ∃ k, x = .bl k ∧ Q k H'
theorem pt_cmpR {op : CmpOp} {r : R2} (ho : OpR X (compareOp op) r) (ha : PE X a ta) (hb : PE X b tb) (hm : behindInMarks op b = false) : PT X (.Compare a [op] [b] pos) (tTest (tOp r ta tb)) := by
  intro pins s σ H Q I h
  refine wpAny_isTrue_Compare1 (thn (ha pins s σ H _ I h) fun v s1 ⟨x, H1, I1, r1, q1⟩ => thn (hb pins s1 σ H1 _ I1 q1) fun u s2 ⟨y, H2, I2, r2, q2⟩ =>
    thn (ho pins s2 σ H2 x y v u _ I2 r1 r2 q2) fun c s3 ⟨z, H3, I3, r3, k, e, q3⟩ => ?_) hm
  subst e
  cases r3
  exact wpAny_truthy_bool ⟨H3, I3, q3⟩
def tChain (r r' : R2) (ta tb tc : TE) : TE := fun σ H Q => ta σ H fun x H1 => tb σ H1 fun y H2 => r x y H2 fun z H3 => ∃ k, z = .bl k ∧
  (if k = true then tc σ H3 fun w' H4 => r' y w' H4 Q else Q (.bl false) H3)
theorem pe_chain {op op' : CmpOp} {r r' : R2} (ho : OpR X (compareOp op) r) (ho' : OpR X (compareOp op') r') (ha : PE X a ta) (hb : PE X b tb) (hc : PE X c tc)
    (hm : lastMarks [op, op'] [b, c] = false := by with_unfolding_all rfl) : PE X (.Compare a [op, op'] [b, c] pos) (tChain r r' ta tb tc) := by
  intro pins s σ H Q I h
  refine Compare_chain (thn (ha pins s σ H _ I h) fun v s1 ⟨x, H1, I1, r1, q1⟩ => chain_link (thn (hb pins s1 σ H1 _ I1 q1) fun u s2 ⟨y, H2, I2, r2, q2⟩ =>
    thn (ho pins s2 σ H2 x y v u _ I2 r1 r2 q2) fun d s3 ⟨z, H3, I3, r3, k, e, q3⟩ => ?_)) hm
  subst e
  cases r3
  refine wpAny_truthy_bool ?_
  cases k with
  | false => exact ite_ff ⟨.bl false, H3, I3, rfl, q3⟩
  | true => exact ite_tt (chain_last (thn (hc pins s3 σ H3 _ I3 q3) fun w' s4 ⟨z', H4, I4, r4, q4⟩ => ho' pins s4 σ H4 y z' u w' Q I4 r2 r4 q4))
def TruV (K : PySem.W.Frag) (x : V) (H : Hp) (k : Bool) : Prop :=
  match x with
  | .non => k = false
  | .bl b => k = b
  | .int i => k = (i != 0)
  | .str y => y.length ≤ sizeLine ∧ k = ((y.length : Int) != 0)
  | .byt y => y.size ≤ sizeLine ∧ k = ((y.size : Int) != 0)
  | .ref p => (∃ xs, SqL K H p xs ∧ k = !xs.isEmpty) ∨ (∃ xs, SqT K H p xs ∧ k = !xs.isEmpty) ∨ ∃ kvs, H p = some (.dK kvs) ∧ k = !kvs.isEmpty
  | _ => False
theorem isEmpty_kv {κ : Type} {kvs : List (κ × V)} {vs : List (κ × Value)} (r : KV kvs vs) : (!vs.isEmpty) = !kvs.isEmpty := by
  cases r <;> rfl
theorem isEmpty_of {xs : List V} {its : List Value} (r : Vals xs its) : (!its.toArray.isEmpty) = !xs.isEmpty := by
  cases r <;> simp
theorem line63 : (sizeLine : Nat) < 2 ^ 63 := by rw [sizeLine_eq]; decide
theorem tru_ok : TruR X (fun x H Q => ∃ k, TruV X.K x H k ∧ Q k H) := by
  intro pins s σ H x v Q I rx h
  obtain ⟨k, e, q⟩ := h
  have hl := line63
  have hs : sizeLine = 16777216 := sizeLine_eq
  cases x with
  | non =>
    cases rx
    have e' : k = false := e
    subst e'
    exact truthy_none ⟨H, I, q⟩
  | bl b =>
    cases rx
    have e' : k = b := e
    subst e'
    exact wpAny_truthy_bool ⟨H, I, q⟩
  | int i =>
    obtain ⟨t, rfl⟩ := rx
    have e' : k = (i != 0) := e
    subst e'
    exact PySem.P.truthy_int ⟨H, I, q⟩
  | str y =>
    obtain ⟨t, rfl⟩ := rx
    obtain ⟨hy, e'⟩ : y.length ≤ sizeLine ∧ k = ((y.length : Int) != 0) := e
    subst e'
    exact PySem.P.truthy_str (by omega) ⟨H, I.tok _, q⟩
  | byt y =>
    obtain ⟨t, rfl⟩ := rx
    obtain ⟨hy, e'⟩ : y.size ≤ sizeLine ∧ k = ((y.size : Int) != 0) := e
    subst e'
    exact PySem.W.truthy_bytes (by omega) ⟨H, I.tok _, q⟩
  | ref p =>
    cases rx
    have e' : (∃ xs, SqL X.K H p xs ∧ k = !xs.isEmpty) ∨ (∃ xs, SqT X.K H p xs ∧ k = !xs.isEmpty) ∨ ∃ kvs, H p = some (.dK kvs) ∧ k = !kvs.isEmpty := e
    rcases e' with ⟨xs, hx, e'⟩ | ⟨xs, hx, e'⟩ | ⟨kvs, hx, e'⟩
    · subst e'
      obtain ⟨its, r, pl, hz⟩ := I.list hx
      have hlen := r.length
      exact wpAny_truthy_list pl.isList (by simp only [List.size_toArray]; omega) ⟨H, I.tok _, by rw [isEmpty_of r]; exact q⟩
    · subst e'
      obtain ⟨its, r, pl, hz⟩ := I.tuple hx
      have hlen := r.length
      exact truthy_tuple pl (by simp only [List.size_toArray]; omega) ⟨H, I.tok _, by rw [isEmpty_of r]; exact q⟩
    · subst e'
      obtain ⟨hz, hS, vs, r, m⟩ : kvs.length ≤ sizeLine ∧ (p == sysModules) = false ∧ ∃ vs, KV kvs vs ∧ s.heap.DictOf (mixKind X.prog X.w) p vs := I.hok p _ hx
      have hlen : kvs.length = vs.length := Paired.length r
      exact wpAny_truthy_dict hS m (by omega) ⟨H, I.tok _, by rw [isEmpty_kv r]; exact q⟩
  | _ => exact (show False from e).elim
theorem pt_truth (ha : PE X a ta) (he : ∀ whole, isTrue a X.env whole = (do let v ← whole; standAt a.pos; holding [v] (truthy v))) :
    PT X a (fun σ H Q => ta σ H fun x H' => ∃ k, TruV X.K x H' k ∧ Q k H') := by
  intro pins s σ H Q I h
  exact isTrue_plain (thn (ha pins s σ H _ I h) fun v s1 ⟨x, H1, I1, r1, q1⟩ => tru_ok pins s1 σ H1 x v Q I1 r1 q1) (he _)
theorem op_add_str : OpR X (binaryOp .Add) (fun x y H Q => ∃ i j, x = .str i ∧ y = .str j ∧ i.length + j.length ≤ sizeLine ∧ Q (.str (i ++ j)) H) := by
  intro pins s σ H x y v u Q I rx ry h
  obtain ⟨i, j, rfl, rfl, hz, q⟩ := h
  obtain ⟨t, rfl⟩ := rx
  obtain ⟨t', rfl⟩ := ry
  exact add_str (fun t' tk => ⟨.str (i ++ j), H, I.tok _, ⟨_, rfl⟩, q⟩) hz
theorem vals1 {x : V} {us : List Value} (r : Vals [x] us) : ∃ u, us = [u] ∧ RelV x u := by
  cases r with
  | cons r1 r2 => cases r2; exact ⟨_, rfl, r1⟩
theorem vals2 {x y : V} {us : List Value} (r : Vals [x, y] us) : ∃ u w', us = [u, w'] ∧ RelV x u ∧ RelV y w' := by
  cases r with
  | cons r1 r2 =>
    cases r2 with
    | cons r3 r4 => cases r4; exact ⟨_, _, rfl, r1, r3⟩
theorem call_min2 (hc : X.calm = true) : CallR X (.builtin "min") (fun xs H Q => ∃ i j, xs = [.int i, .int j] ∧ Q (.int (if j < i then j else i)) H) := by
  intro pins s σ H xs us Q I r h
  obtain ⟨i, j, rfl, q⟩ := h
  obtain ⟨u, w', rfl, ⟨t, rfl⟩, ⟨t', rfl⟩⟩ := vals2 r
  refine min_two_ints (I.ok.hd hc) fun h' tk k => ⟨_, H, I.kept k, ?_, q⟩
  by_cases hj : j < i
  · rw [if_pos hj, if_pos hj]; exact ⟨_, rfl⟩
  · rw [if_neg hj, if_neg hj]; exact ⟨_, rfl⟩
def LenV (K : PySem.W.Frag) (x : V) (H : Hp) (n : Nat) : Prop :=
  match x with
  | .str y => y.length ≤ sizeLine ∧ n = y.length
  | .byt y => y.size ≤ sizeLine ∧ n = y.size
  | .ref p => (∃ xs, SqL K H p xs ∧ n = xs.length) ∨ ∃ xs, SqT K H p xs ∧ n = xs.length
  | _ => False
theorem call_len : CallR X (.builtin "len") (fun xs H Q => ∃ x n, xs = [x] ∧ LenV X.K x H n ∧ Q (.int n) H) := by
  intro pins s σ H xs us Q I r h
  obtain ⟨x, n, rfl, e, q⟩ := h
  obtain ⟨u, rfl, rx⟩ := vals1 r
  have hl := line63
  have hs : sizeLine = 16777216 := sizeLine_eq
  cases x with
  | str y =>
    obtain ⟨t, rfl⟩ := rx
    obtain ⟨hy, e'⟩ : y.length ≤ sizeLine ∧ n = y.length := e
    subst e'
    exact len_str (by omega) ⟨.int _, H, I.tok _, ⟨_, rfl⟩, q⟩
  | byt y =>
    obtain ⟨t, rfl⟩ := rx
    obtain ⟨hy, e'⟩ : y.size ≤ sizeLine ∧ n = y.size := e
    subst e'
    exact PySem.W.len_bytes (by omega) ⟨.int _, H, I.tok _, ⟨_, rfl⟩, q⟩
  | ref p =>
    cases rx
    have e' : (∃ xs, SqL X.K H p xs ∧ n = xs.length) ∨ ∃ xs, SqT X.K H p xs ∧ n = xs.length := e
    rcases e' with ⟨xs, hx, e'⟩ | ⟨xs, hx, e'⟩
    · subst e'
      obtain ⟨its, r', pl, hz⟩ := I.list hx
      have hlen := r'.length
      exact Calls.call_len_list pl.isList (by simp only [List.size_toArray]; omega) ⟨.int xs.length, H, I.tok _, ⟨_, by simp only [List.size_toArray]; rw [hlen]⟩, q⟩
    · subst e'
      obtain ⟨its, r', pl, hz⟩ := I.tuple hx
      have hlen := r'.length
      exact len_tuple pl (by simp only [List.size_toArray]; omega) ⟨.int xs.length, H, I.tok _, ⟨_, by simp only [List.size_toArray]; rw [hlen]⟩, q⟩
  | _ => exact (show False from e).elim
end
end L2
namespace L2
open PySem PySem.Spec PyProof.Rows
structure ObjM (h : Heap) (x dx C : Addr) (mA : Str → Option Value) : Prop where
  obj : h.get? x = some (PySem.W.instObj C dx)
  ns : h.Ns1 dx mA
  ne : dx ≠ x
theorem lookIn_ns {h : Heap} {dx : Addr} {mA : Str → Option Value} (n : h.Ns1 dx mA) : ∃ od, h.get? dx = some od ∧ ∀ name, PySem.W.lookIn name od = some (mA name) := by
  obtain ⟨o, es, ep, ho, hd, hk, _, hm⟩ := n
  refine ⟨o, ho, fun name => ?_⟩
  have e := hm name
  unfold nsFind findBy at e
  rw [← Array.find?_toList] at e
  unfold PySem.W.lookIn
  rw [hd]
  dsimp only
  split
  · rename_i y q
    rw [q] at e
    exact congrArg some e
  · rename_i q
    rw [q] at e
    have a : es.toList.any (·.refKey) = false := by
      rw [List.any_eq_false]
      intro y hy
      obtain ⟨z, t, hkey⟩ := hk y (Array.mem_toList_iff.mp hy)
      simp [DictEntry.refKey, hkey]
    have a' : ¬ es.toList.any (·.refKey) = true := by rw [a]; exact Bool.false_ne_true
    rw [if_neg a']
    exact congrArg some e
theorem ObjM.look {h : Heap} {x dx C : Addr} {mA : Str → Option Value} (I : ObjM h x dx C mA) : ∃ od, PySem.W.InstAt h x (PySem.W.instObj C dx) C (some od) ∧ ∀ name, PySem.W.lookIn name od = some (mA name) :=
  let ⟨od, ho, hl⟩ := lookIn_ns I.ns
  ⟨od, ⟨I.obj, rfl, rfl, ho⟩, hl⟩
section
variable {prog : Program} {w : World} {A : Around} {E : Value → Shared → Prop} {s : Shared} {K : PySem.W.Frag} {x dx C f : Addr} {mA : Str → Option Value} {name : Str} {v : Value}
theorem get_map {expr : Bool} {Q : Value → Shared → Prop} (X : K.In s.heap) (I : ObjM s.heap x dx C mA) (hg : PySem.W.plainGet K C name = true) (hh : PySem.W.hasDictIn K C = true)
    (ha : PySem.W.findIn K (.ref C) name = some none) (hv : mA name = some v) (hv' : PySem.W.handedIn v = true) (h : Q v { s with toks := s.toks + 1 }) :
    wpAny (model prog w) A (getAttr (.ref x) name expr) Q E s := by
  obtain ⟨od, J, hl⟩ := I.look
  exact PySem.W.get_value X J (PySem.W.plainGet_of hg).1 (PySem.W.findObj_own hh ha rfl (by rw [hl, hv])) hv' h
theorem get_meth {pl : Sem Bool} {Q : Value × List Value → Shared → Prop} (X : K.In s.heap) (I : ObjM s.heap x dx C mA) (hg : PySem.W.plainGet K C name = true)
    (hf : PySem.W.findIn K (.ref C) name = some (some (.ref f))) (ht : PySem.W.isFn K (.ref f) = true) (hv : mA name = none) (h : Q (.ref f, [.ref x]) s) :
    wpAny (model prog w) A (getMethod (.ref x) name pl) Q E s := by
  obtain ⟨od, J, hl⟩ := I.look
  exact PySem.W.method_fn X J (PySem.W.plainGet_of hg).1 (PySem.W.plainGet_of hg).2 hf (beq_iff_eq.mp ht) (by show (PySem.W.lookIn name od).map (·.isSome) = some false; rw [hl, hv]; rfl) h
theorem set_map {ns : List Str} {Q : Unit → Shared → Prop} (X : K.In s.heap) (I : ObjM s.heap x dx C mA)
    (hs : PySem.W.findIn K (.ref C) "__setattr__" = some (some (.builtin "object.__setattr__"))) (hp : PySem.W.plainOver K C = true) (ht : PySem.W.takerIn K C name = some none) (hh : PySem.W.hasDictIn K C = true)
    (hw : PySem.Within mA ns) (hsz : ns.length ≤ sizeLine)
    (h : ∀ h', ObjM h' x dx C (fun y => if y = name then some v else mA y) → Heap.SameBut dx s.heap h' → Q () { s with heap := h', toks := s.toks + 2 }) :
    wpAny (model prog w) A (setAttr (.ref x) name v) Q E s := by
  obtain ⟨od, J, hl⟩ := I.look
  refine PySem.W.set_plain X J hs (PySem.W.osa_open (s := { s with toks := s.toks + 1 }) (r := none) X J hp ht fun b => ?_)
  obtain ⟨cd, hc, hd'⟩ := PySem.W.any_some hh
  have hx : s.heap.get? x = some ⟨.ref C, some dx, .plain, #[]⟩ := I.obj
  refine wpAny_bind (wpAny_pure (wpAny_bind (wpAny_bind (wpAny_loadPart hx (wpAny_bind (PySem.W.Looks.here (s := { s with toks := s.toks + 1 }) (PySem.W.looks_clsIn X hc) ?_))))))
  rw [hd']
  refine wpAny_pure (a := some dx) (wpAny_bind (wpAny_pure (wpAny_bind ?_)))
  refine wpAny_nsSet1 (s := { s with toks := s.toks + 1 }) I.ns fun h' hn2 hs2 => ?_
  obtain ⟨oD, esD, epD, hoD, hdD, hcD⟩ := hn2.count (PySem.Within.cons name v hw)
  refine wpAny_bind (wpAny_lookBehind hoD (by rw [hdD]; exact pastItsLine_dict (Nat.le_trans hcD (by rw [List.length_cons]; omega))) ?_)
  exact wpAny_pure (h _ ⟨(hs2.2 _ (Ne.symm I.ne)).trans I.obj, hn2, I.ne⟩ hs2)
theorem make_map {R : Result → Shared → Prop} {vs : List Value} {kw : List (Str × Value)} (X : K.In s.heap) (hm : PySem.W.makesIn K C = true)
    (hi : PySem.W.findIn K (.ref C) "__init__" = some (some (.ref f))) (hf : PySem.W.typeIn K (.ref f) = some (.type "function"))
    (h : codeAny (model prog w) (A.under (.builtin "type.__call__" ⟨.ref C :: vs, kw⟩)) (.call (.ref f) ⟨.ref (s.heap.objs.size + 1) :: vs, kw⟩) (PySem.W.InitBack (s.heap.objs.size + 1) R)
      { s with heap := (s.heap.push PySem.W.emptyDict).push (PySem.W.instObj C s.heap.objs.size) }) :
    codeAny (model prog w) A (.call (.ref C) ⟨vs, kw⟩) R s := by
  obtain ⟨hh, g, d, t, os⟩ := s
  exact PySem.W.make_core (PySem.W.makes_of X hm) (PySem.W.looks_findIn X hi) (fun self => PySem.W.bind_fn X self hf) (.inl rfl) h
end
def putF (f : Str) (v : V) : List (Str × V) → List (Str × V)
  | [] => [(f, v)]
  | (g, x) :: r => if g = f then (g, v) :: r else (g, x) :: putF f v r
theorem lookup_putF (f g : Str) (v : V) : ∀ fs : List (Str × V), (putF f v fs).lookup g = if g = f then some v else fs.lookup g
  | [] => by
    show List.lookup g [(f, v)] = _
    by_cases h : g = f
    · have hb : (g == f) = true := beq_iff_eq.mpr h
      simp only [List.lookup, hb, if_pos h]
    · have hb : (g == f) = false := beq_eq_false_iff_ne.mpr h
      simp only [List.lookup, hb, if_neg h]
  | (k, x) :: r => by
    have ih := lookup_putF f g v r
    rw [show putF f v ((k, x) :: r) = (if k = f then (k, v) :: r else (k, x) :: putF f v r) from rfl]
    by_cases hk : k = f
    · rw [if_pos hk]
      by_cases h : g = k
      · have hb : (g == k) = true := beq_iff_eq.mpr h
        simp only [List.lookup, hb, if_pos (h.trans hk)]
      · have hb : (g == k) = false := beq_eq_false_iff_ne.mpr h
        simp only [List.lookup, hb, if_neg (fun e : g = f => h (e.trans hk.symm))]
    · rw [if_neg hk]
      by_cases h : g = k
      · have hb : (g == k) = true := beq_iff_eq.mpr h
        simp only [List.lookup, hb, if_neg (fun e : g = f => hk (h.symm.trans e))]
      · have hb : (g == k) = false := beq_eq_false_iff_ne.mpr h
        simp only [List.lookup, hb]
        exact ih
theorem keys_putF (f : Str) (v : V) : ∀ fs : List (Str × V), f ∈ (putF f v fs).map (·.1) ∧ ∀ g, g ∈ fs.map (·.1) → g ∈ (putF f v fs).map (·.1)
  | [] => ⟨by simp [putF], fun g h => by simp at h⟩
  | (k, x) :: r => by
    obtain ⟨i1, i2⟩ := keys_putF f v r
    rw [show putF f v ((k, x) :: r) = (if k = f then (k, v) :: r else (k, x) :: putF f v r) from rfl]
    by_cases hk : k = f
    · rw [if_pos hk]
      subst hk
      exact ⟨by simp, fun g h => by simpa using h⟩
    · rw [if_neg hk]
      refine ⟨?_, fun g h => ?_⟩
      · rw [List.map_cons]
        exact List.mem_cons_of_mem _ i1
      · rw [List.map_cons] at h ⊢
        rcases List.mem_cons.mp h with e | e
        · exact List.mem_cons.mpr (.inl e)
        · exact List.mem_cons_of_mem _ (i2 g e)
theorem length_putF (f : Str) (v : V) : ∀ fs : List (Str × V), (putF f v fs).length ≤ fs.length + 1
  | [] => by simp [putF]
  | (k, x) :: r => by
    have ih := length_putF f v r
    rw [show putF f v ((k, x) :: r) = (if k = f then (k, v) :: r else (k, x) :: putF f v r) from rfl]
    by_cases hk : k = f
    · rw [if_pos hk, List.length_cons, List.length_cons]; omega
    · rw [if_neg hk, List.length_cons, List.length_cons]; omega
theorem RelO.some_of {v : V} {o : Option Value} (r : RelO (some v) o) : ∃ u, o = some u ∧ RelV v u := by
  cases o with
  | none => exact (show False from r).elim
  | some u => exact ⟨u, rfl, r⟩
theorem RelO.none_of {o : Option Value} (r : RelO none o) : o = none := by
  cases o with
  | none => rfl
  | some u => exact (show False from r).elim
theorem handed_of {v : V} {u : Value} (r : RelV v u) : PySem.W.handedIn u = true := by
  cases v with
  | non => cases (show u = Value.none from r); rfl
  | bl b => cases (show u = Value.bool b from r); rfl
  | int i => obtain ⟨t, e⟩ := (show ∃ t, u = Value.int i t from r); cases e; rfl
  | str x => obtain ⟨t, e⟩ := (show ∃ t, u = Value.str x t from r); cases e; rfl
  | byt b => obtain ⟨t, e⟩ := (show ∃ t, u = Value.bytes b t from r); cases e; rfl
  | flt b => obtain ⟨t, e⟩ := (show ∃ t, u = Value.float b t from r); cases e; rfl
  | ref a => cases (show u = Value.ref a from r); rfl
  | ty n => cases (show u = Value.type n from r); rfl
section
variable {P : Program} {w : World} {H H' : Hp} {h h' : Heap} {a C dx : Addr} {fs fs' : List (Str × V)}
theorem ins_get (hok : HOk P w H h) (e : H a = some (.ins C dx fs)) : ∃ mA, ObjM h a dx C mA ∧ (∀ f, RelO (fs.lookup f) (mA f)) ∧ PySem.Within mA (fs.map (·.1)) ∧ fs.length ≤ 1000 ∧ H dx = some (.own a) := by
  obtain ⟨d, z, ne, ob, mA, n, r, q⟩ := (show ObjOk P w H h a (.ins C dx fs) from hok a _ e)
  exact ⟨mA, ⟨ob, n, ne⟩, r, q, z, d⟩
end
structure Cls (K : PySem.W.Frag) (C : Addr) : Prop where
  pg : PySem.W.plainGet K C Str.empty = true
  hd : PySem.W.hasDictIn K C = true
  po : PySem.W.plainOver K C = true
  sa : PySem.W.findIn K (.ref C) "__setattr__" = some (some (.builtin "object.__setattr__"))
theorem Cls.get {K : PySem.W.Frag} {C : Addr} (c : Cls K C) (f : Str) : PySem.W.plainGet K C f = true := c.pg
def NoAttr (K : PySem.W.Frag) (C : Addr) (f : Str) : Prop := PySem.W.findIn K (.ref C) f = some none
theorem NoAttr.taker {K : PySem.W.Frag} {C : Addr} {f : Str} (n : NoAttr K C f) : PySem.W.takerIn K C f = some none := by
  unfold PySem.W.takerIn
  rw [show PySem.W.findIn K (.ref C) f = some none from n]
  rfl
structure Meth (K : PySem.W.Frag) (C : Addr) (m : Str) (f : Addr) : Prop where
  at_ : PySem.W.findIn K (.ref C) m = some (some (.ref f))
  fn : PySem.W.isFn K (.ref f) = true
  kp : PySem.W.keepIn K (.ref f) = true
section
variable {X : Cx} {pins : List (Addr × Obj)} {σ : St} {H : Hp} {s : Shared} {a C dx : Addr} {fs : List (Str × V)} {f : Str} {v : V} {A : Around} {E : Value → Shared → Prop}
theorem getattr_ok {b : Bool} {Q : Value → Shared → Prop} (I : Inv X pins σ H s) (e : H a = some (.ins C dx fs)) (c : Cls X.K C) (n : NoAttr X.K C f) (l : fs.lookup f = some v)
    (h : ∀ u s', Inv X pins σ H s' → RelV v u → Q u s') : wpAny (model X.prog X.w) A (getAttr (.ref a) f b) Q E s := by
  obtain ⟨mA, O, r, _, _, _⟩ := ins_get I.hok e
  obtain ⟨u, hu, ru⟩ := RelO.some_of (v := v) (o := mA f) (by rw [← l]; exact r f)
  exact get_map I.kIn O (c.get f) c.hd n hu (handed_of ru) (h u _ (I.tok _) ru)
theorem getmeth_ok {m : Str} {g : Addr} {pl : Sem Bool} {Q : Value × List Value → Shared → Prop} (I : Inv X pins σ H s) (e : H a = some (.ins C dx fs)) (c : Cls X.K C) (k : Meth X.K C m g) (l : fs.lookup m = none)
    (h : Q (.ref g, [.ref a]) s) : wpAny (model X.prog X.w) A (getMethod (.ref a) m pl) Q E s := by
  obtain ⟨mA, O, r, _, _, _⟩ := ins_get I.hok e
  have hn : mA m = none := RelO.none_of (by rw [← l]; exact r m)
  exact get_meth I.kIn O (c.get m) k.at_ k.fn hn h
theorem setattr_ok {y : V} {u : Value} {Q : Unit → Shared → Prop} (I : Inv X pins σ H s) (e : H a = some (.ins C dx fs)) (c : Cls X.K C) (n : NoAttr X.K C f) (hl : fs.length < 1000) (ry : RelV y u)
    (h : ∀ s', Inv X pins σ (upd H a (.ins C dx (putF f y fs))) s' → Q () s') : wpAny (model X.prog X.w) A (setAttr (.ref a) f u) Q E s := by
  obtain ⟨mA, O, r, wi, _, ho⟩ := ins_get I.hok e
  have hz : (fs.map (·.1)).length ≤ sizeLine := by rw [List.length_map, sizeLine_eq]; omega
  refine set_map I.kIn O c.sa c.po n.taker c.hd wi hz fun h' O' sb => h _ ?_
  have hd : ∃ o, h'.get? dx = some o := let ⟨o, _, _, e', _⟩ := O'.ns; ⟨o, e'⟩
  refine I.write (x := a) (e := dx) (by rw [e]; exact True.intro) (.inr ho) (fun b q hb z => (sb.2 b hb).trans z) hd ?_
  refine ⟨by rw [upd_ne O.ne]; exact ho, ?_, O.ne, O'.obj, _, O'.ns, fun g => ?_, fun g hg => ?_⟩
  · have := length_putF f y fs; omega
  · show RelO ((putF f y fs).lookup g) (if g = f then some u else mA g)
    rw [lookup_putF]
    by_cases q : g = f
    · rw [if_pos q, if_pos q]; exact ry
    · rw [if_neg q, if_neg q]; exact r g
  · by_cases q : g = f
    · rw [q]; exact (keys_putF f y fs).1
    · refine (keys_putF f y fs).2 g (wi g fun z => hg ?_)
      show (if g = f then some u else mA g) = none
      rw [if_neg q]; exact z
theorem Inv.made (I : Inv X pins σ H s) : Inv X pins σ (upd (upd H s.heap.objs.size (.own (s.heap.objs.size + 1))) (s.heap.objs.size + 1) (.ins C s.heap.objs.size []))
    { s with heap := (s.heap.push PySem.W.emptyDict).push (PySem.W.instObj C s.heap.objs.size) } := by
  have e1 : (s.heap.push PySem.W.emptyDict).get? s.heap.objs.size = some PySem.W.emptyDict := Heap.get?_push_size s.heap rfl
  have e2 : ((s.heap.push PySem.W.emptyDict).push (PySem.W.instObj C s.heap.objs.size)).get? (s.heap.objs.size + 1) = some (PySem.W.instObj C s.heap.objs.size) := by
    have := Heap.get?_push_size (s.heap.push PySem.W.emptyDict) (o := PySem.W.instObj C s.heap.objs.size) rfl
    rwa [Heap.size_push] at this
  have e3 : (s.heap.push PySem.W.emptyDict).Ns s.heap.objs.size (fun _ => none) := ⟨PySem.W.emptyDict, #[], _, e1, rfl, (fun e he => absurd he (by simp)), fun _ => rfl⟩
  have I1 := I.laid (a := s.heap.objs.size) (o := .own (s.heap.objs.size + 1)) (h' := s.heap.push PySem.W.emptyDict) (t' := s.toks) (fun b u q => Heap.get?_push_of_some _ q) (Nat.le_refl _) ⟨_, e1⟩
  refine I1.laid (a := s.heap.objs.size + 1) (o := .ins C s.heap.objs.size []) (t' := s.toks) (fun b u q => Heap.get?_push_of_some _ q) (Nat.le_of_eq (Heap.size_push _ _)) ?_
  have ne : s.heap.objs.size ≠ s.heap.objs.size + 1 := Nat.ne_of_lt (Nat.lt_succ_self _)
  refine ⟨by rw [upd_ne ne, upd_same], Nat.zero_le _, ne, e2, fun _ => none, (Heap.Ns1.of_empty e3).at fun o q => Heap.get?_push_of_some _ q, fun _ => True.intro, fun y hy => absurd rfl hy⟩
theorem attr_of {prog : Program} {w : World} {env : Env} {e : Expr} {f : Str} {pos : Pos} {s : Shared} {Q : Value → Shared → Prop} (hb : attributeBase e f env (eval e env) = eval e env)
    (h : wpAny (model prog w) A (eval e env) (fun o s₁ => wpAny (model prog w) A (getAttr o f true) Q E s₁) E s) : wpAny (model prog w) A (eval (.Attribute e f pos) env) Q E s :=
  Attribute_any_ h (by rw [arm_eval_Attribute, hb])
end
def tFld (K : PySem.W.Frag) (ta : TE) (f : Str) : TE := fun σ H Q => ta σ H fun x H1 => ∃ a C dx fs v, x = .ref a ∧ H1 a = some (.ins C dx fs) ∧ Cls K C ∧ NoAttr K C f ∧ fs.lookup f = some v ∧ Q v H1
def sFld (K : PySem.W.Frag) (ta tv : TE) (f : Str) : TS := fun D σ H => tv σ H fun y H1 => ta σ H1 fun x H2 => ∃ a C dx fs, x = .ref a ∧ H2 a = some (.ins C dx fs) ∧ Cls K C ∧ NoAttr K C f ∧ fs.length < 1000 ∧
  D.nx σ (upd H2 a (.ins C dx (putF f y fs)))
def InOp (X : Cx) (op : Operator) (rd : V → V → Hp → VK → Prop) : Prop :=
  ∀ (pins : List (Addr × Obj)) (s : Shared) (σ : St) (H : Hp) (x y : V) (u v : Value) (Q : VK), Inv X pins σ H s → RelV x u → RelV y v → rd x y H Q → wpAny (model X.prog X.w) X.A (inplaceOp op u v) (EP X pins σ Q) X.xe s
def sFldAug (K : PySem.W.Frag) (ta tv : TE) (rd : V → V → Hp → VK → Prop) (f : Str) : TS := fun D σ H => ta σ H fun x H1 => ∃ a C dx fs v, x = .ref a ∧ H1 a = some (.ins C dx fs) ∧ Cls K C ∧ NoAttr K C f ∧ fs.lookup f = some v ∧
  tv σ H1 fun y H2 => rd v y H2 fun z H3 => ∃ dx' fs', H3 a = some (.ins C dx' fs') ∧ fs'.length < 1000 ∧ D.nx σ (upd H3 a (.ins C dx' (putF f z fs')))
section
variable {X : Cx} {o e value : Expr} {f : Str} {pos pos' tpos : Pos} {ta tv : TE}
theorem pe_fld (he : PE X e ta) (hb : attributeBase e f X.env (eval e X.env) = eval e X.env) : PE X (.Attribute e f pos) (tFld X.K ta f) := by
  intro pins s σ H Q I h
  refine attr_of hb (thn (he pins s σ H _ I h) fun u s1 ⟨x, H1, I1, rx, a, C, dx, fs, v, ex, ea, c, n, l, q⟩ => ?_)
  subst ex
  obtain rfl : u = Value.ref a := rx
  exact getattr_ok I1 ea c n l fun u' s2 I2 ru => ⟨v, H1, I2, ru, q⟩
theorem ps_fld (ha : PE X o ta) (hv : PE X value tv) (hs : swapsWith value (some (.Attribute o f pos')) pos.line X.env = pure false) : PS X (.Assign [.Attribute o f pos'] value pos) (sFld X.K ta tv f) := by
  intro pins s σ H D I h
  refine plainObj_wpAny_Assign_Attribute (thn (hv pins s σ H _ I h) fun u s1 ⟨y, H1, I1, ry, q⟩ => thn (ha pins s1 σ H1 _ I1 q) fun ov s2 ⟨x, H2, I2, rx, a, C, dx, fs, ex, ea, c, n, l, q2⟩ => ?_) hs
  subst ex
  obtain rfl : ov = Value.ref a := rx
  exact setattr_ok I2 ea c n l ry fun s3 I3 => ⟨σ, _, I3, q2⟩
theorem ps_fldaug {op : Operator} {rd : V → V → Hp → VK → Prop} (ha : PE X o ta) (hv : PE X value tv) (hop : InOp X op rd) : PS X (.AugAssign (.Attribute o f tpos) op value pos) (sFldAug X.K ta tv rd f) := by
  intro pins s σ H D I h
  refine wpAny_AugAssign_AttributeAny (thn (ha pins s σ H _ I h) fun ov s1 ⟨x, H1, I1, rx, a, C, dx, fs, v, ex, ea, c, n, l, q⟩ => ?_)
  subst ex
  obtain rfl : ov = Value.ref a := rx
  refine getattr_ok I1 ea c n l fun u s2 I2 ru => thn (hv pins s2 σ H1 _ I2 q) fun w3 s3 ⟨y, H2, I3, ry, q3⟩ => thn (hop pins s3 σ H2 v y u w3 _ I3 ru ry q3) fun w4 s4 ⟨z, H3, I4, rz, dx', fs', ea', l', q4⟩ => ?_
  exact setattr_ok I4 ea' c n l' rz fun s5 I5 => ⟨σ, _, I5, q4⟩
def rAdd : V → V → Hp → VK → Prop := fun x y H Q => ∃ i j, x = .int i ∧ y = .int j ∧ Q (.int (i + j)) H
theorem in_add : InOp X .Add rAdd := by
  rintro pins s σ H x y u v Q I rx ry ⟨i, j, rfl, rfl, q⟩
  obtain ⟨t, rfl⟩ := (show ∃ t, u = Value.int i t from rx)
  obtain ⟨t', rfl⟩ := (show ∃ t', v = Value.int j t' from ry)
  exact PyProof.Rows.iadd_int ⟨.int (i + j), H, I.tok _, ⟨_, rfl⟩, q⟩
theorem methcall_of {pl : Sem Bool} {m : Str} {apos : Pos} {args : List Expr} {pins : List (Addr × Obj)} {s : Shared} {σ : St} {H : Hp} {Q : Value → Shared → Prop} {te : TE} (he : PE X e te) (I : Inv X pins σ H s)
    (h : te σ H fun x H1 => ∃ a C dx fs g, x = .ref a ∧ H1 a = some (.ins C dx fs) ∧ Cls X.K C ∧ Meth X.K C m g ∧ fs.lookup m = none ∧
      ∀ s1, Inv X pins σ H1 s1 → wpAny (model X.prog X.w) X.A (callWith pos (.ref g) [.ref a] (backTo pos (starEach args X.env)) (backToKw pos (keywordEach [] X.env))) Q X.xe s1)
    (ht : eval (.Call (.Attribute e m apos) args [] pos) X.env = (do
      let ov ← eval e X.env
      standAt apos.atName
      let (f, first) ← holding [ov] (getMethod ov m pl)
      callWith pos f first (backTo pos (starEach args X.env)) (backToKw pos (keywordEach [] X.env)))) :
    wpAny (model X.prog X.w) X.A (eval (.Call (.Attribute e m apos) args [] pos) X.env) Q X.xe s := by
  refine PySem.W.methodCall_KW (pl := pl) (thn (he pins s σ H _ I h) fun u s1 ⟨x, H1, I1, rx, a, C, dx, fs, g, ex, ea, c, k, l, q⟩ => ?_) ht
  subst ex
  obtain rfl : u = Value.ref a := rx
  exact getmeth_ok I1 ea c k l (q s1 I1)
end
section
variable {X : Cx} {pins : List (Addr × Obj)} {σ : St} {H : Hp} {s : Shared} {A : Around} {E : Value → Shared → Prop} {Q : Value → Shared → Prop} {c : Value} {b : Bool}
inductive TyOf (K : PySem.W.Frag) (H : Hp) : V → Value → Prop where
  | non : TyOf K H .non (.type "NoneType")
  | bl (x : Bool) : TyOf K H (.bl x) (.type "bool")
  | int (i : Int) : TyOf K H (.int i) (.type "int")
  | str (x : Str) : TyOf K H (.str x) (.type "str")
  | flt (x : UInt64) : TyOf K H (.flt x) (.type "float")
  | lst {a : Addr} {xs : List V} (e : H a = some (.lst xs)) : TyOf K H (.ref a) (.type "list")
  | frz {a : Addr} {o : Obj} {xs : List V} (e : H a = some (.frz o (.lst xs))) : TyOf K H (.ref a) (.type "list")
  | tup {a : Addr} {xs : List V} (e : H a = some (.tup xs)) : TyOf K H (.ref a) (.type "tuple")
  | dK {a : Addr} {kvs : List (Key × V)} (e : H a = some (.dK kvs)) : TyOf K H (.ref a) (.type "dict")
  | dT {a : Addr} {kvs : List (List Key × V)} (e : H a = some (.dT kvs)) : TyOf K H (.ref a) (.type "dict")
  | ins {a C dx : Addr} {fs : List (Str × V)} (e : H a = some (.ins C dx fs)) (cl : Cls K C) (ha : PySem.W.findIn K (.ref C) "__class__" = some (some (.builtin "object.__class__")))
      (hn : PySem.W.specialIn K (.builtin "object.__class__") "__get__" = some (some (.builtin "getset_descriptor.__get__"))) (htk : PySem.W.takesIn K (.builtin "object.__class__") = some true)
      (hm : PySem.W.mroIn K C (.type "object") = some true) : TyOf K H (.ref a) (.ref C)
theorem isinst_ok {x : V} {u t : Value} (I : Inv X pins σ H s) (rx : RelV x u) (ty : TyOf X.K H x t) (e : PySem.W.kitOne X.K t c = some b) (h : ∀ tk, Q (.bool b) { s with toks := tk }) :
    wpAny (model X.prog X.w) A (call (.builtin "isinstance") [u, c]) Q E s := by
  cases ty with
  | non => cases (show u = Value.none from rx); exact PySem.W.kia_one PySem.W.kitx_none I.kIn True.intro e (fun z => nomatch z) h
  | bl y => cases (show u = Value.bool y from rx); exact PySem.W.kia_one PySem.W.kitx_bool I.kIn True.intro e (fun z => nomatch z) h
  | int i => obtain ⟨t, q⟩ := (show ∃ t, u = Value.int i t from rx); cases q; exact PySem.W.kia_one PySem.W.kitx_int I.kIn True.intro e (fun z => nomatch z) h
  | str y => obtain ⟨t, q⟩ := (show ∃ t, u = Value.str y t from rx); cases q; exact PySem.W.kia_one PySem.W.kitx_str I.kIn True.intro e (fun z => nomatch z) h
  | flt y => obtain ⟨t, q⟩ := (show ∃ t, u = Value.float y t from rx); cases q; exact PySem.W.kia_one PySem.W.kitx_float I.kIn True.intro e (fun z => nomatch z) h
  | @lst a xs ea =>
    cases (show u = Value.ref a from rx)
    obtain ⟨_, _, n, _, h1⟩ := (show ObjOk X.prog X.w H s.heap a (.lst xs) from I.hok a _ ea)
    exact PySem.W.kia_one PySem.W.kitx_list I.kIn ⟨_, h1, rfl⟩ e (fun z => nomatch z) h
  | @frz a ob xs ea =>
    cases (show u = Value.ref a from rx)
    obtain ⟨_, _, _, n, _, h1⟩ := (show ObjOk X.prog X.w H s.heap a (.frz ob (.lst xs)) from I.hok a _ ea)
    exact PySem.W.kia_one PySem.W.kitx_list I.kIn ⟨_, h1, rfl⟩ e (fun z => nomatch z) h
  | @tup a xs ea =>
    cases (show u = Value.ref a from rx)
    obtain ⟨_, _, _, p⟩ := (show ObjOk X.prog X.w H s.heap a (.tup xs) from I.hok a _ ea)
    obtain ⟨o, h1, h2, _⟩ := p
    exact PySem.W.kia_one PySem.W.kitx_tuple I.kIn ⟨o, h1, h2⟩ e (fun z => nomatch z) h
  | @dK a kvs ea =>
    cases (show u = Value.ref a from rx)
    obtain ⟨_, _, vs, _, p⟩ := (show ObjOk X.prog X.w H s.heap a (.dK kvs) from I.hok a _ ea)
    obtain ⟨o, es, ep, h1, h2, _⟩ := p
    exact PySem.W.kia_one PySem.W.kitx_dict I.kIn ⟨o, h1, h2.1⟩ e (fun z => nomatch z) h
  | @dT a kvs ea =>
    cases (show u = Value.ref a from rx)
    obtain ⟨_, _, xs, _, o, es, ep, h1, h2, _⟩ := (show ObjOk X.prog X.w H s.heap a (.dT kvs) from I.hok a _ ea)
    exact PySem.W.kia_one PySem.W.kitx_dict I.kIn ⟨o, h1, h2.1⟩ e (fun z => nomatch z) h
  | @ins a C dx fs ea cl ha hn htk hm =>
    cases (show u = Value.ref a from rx)
    obtain ⟨mA, O, _⟩ := ins_get I.hok ea
    obtain ⟨od, J, _⟩ := O.look
    exact PySem.W.kia_one (PySem.W.kitx_own (cl.get _) cl.hd ha hn htk hm) I.kIn J e (fun z => nomatch z) h
end
end L2
namespace L2
open PySem PySem.Spec PyProof.Rows
structure Room (k : Nat) (A : Around) : Prop where
  hd : A.handled = none
  dp : A.depth + 3 * k + 5 < recursionLimit
  un : A.units + 16 * k + 200 < cLine
theorem Room.mono {j k : Nat} {A : Around} (r : Room k A) (h : j ≤ k) : Room j A := ⟨r.hd, by have := r.dp; omega, by have := r.un; omega⟩
theorem Room.deeper {k : Nat} {A : Around} (r : Room (k + 1) A) (env : Env) : Room k (A.deeper env) :=
  ⟨r.hd, by have := r.dp; show A.depth + 1 + 3 * k + 5 < _; omega, by have := r.un; show A.units + 3 + 16 * k + 200 < _; omega⟩
theorem make_depth {A : Around} {C : Addr} {us : List Value} {kw : List (Str × Value)} : (A.under (.builtin "type.__call__" ⟨.ref C :: us, kw⟩)).depth = A.depth + 1 := by
  first | rfl | simp [Around.under, Code.weight, Code.isCreation, Code.isGuard, Code.isCaller, Code.frames, Code.isFrame, guardIds]
theorem make_units {A : Around} {C : Addr} {us : List Value} {kw : List (Str × Value)} : (A.under (.builtin "type.__call__" ⟨.ref C :: us, kw⟩)).units = A.units + 1 := by
  first | rfl | simp [Around.under, Code.cUnits, Code.frames, Code.isFrame]
theorem Room.make {k : Nat} {A : Around} (r : Room (k + 1) A) (C : Addr) (us : List Value) (kw : List (Str × Value)) : Room k (A.under (.builtin "type.__call__" ⟨.ref C :: us, kw⟩)) :=
  ⟨r.hd, by have := r.dp; rw [make_depth]; omega, by have := r.un; rw [make_units]; omega⟩
theorem Room.depth {k : Nat} {A : Around} (r : Room k A) : A.depth < recursionLimit := by have := r.dp; omega
theorem Room.units {k : Nat} {A : Around} (r : Room k A) : A.units + 64 < cLine := by have := r.un; omega
def tNil : TA := fun _ H Q => Q [] H
def tCons (ta : TE) (tr : TA) : TA := fun σ H Q => ta σ H fun x H1 => tr σ H1 fun xs H2 => Q (x :: xs) H2
section
variable {X : Cx} {e : Expr} {es : List Expr} {te : TE} {t : TA} {pos : Pos}
theorem pa_nil : PA X [] tNil := fun _ _ _ _ H Q I h => Calls.spliced_nil ⟨[], H, I, .nil, h⟩
theorem pa_cons (ha : PE X e te) (hr : PA X es t) (hs : starEach (e :: es) X.env = (false, eval e X.env) :: starEach es X.env := by rfl) : PA X (e :: es) (tCons te t) := by
  intro pos pins s σ H Q I h
  rw [hs]
  show wpAny _ _ (spliced ((false, eval e X.env) :: backTo pos (starEach es X.env))) _ _ s
  refine Calls.spliced_cons (thn (ha pins s σ H _ I h) fun u s1 ⟨x, H1, I1, r1, q1⟩ => ?_)
  exact thn (hr pos pins s1 σ H1 _ I1 q1) fun us s2 ⟨xs, H2, I2, r2, q2⟩ => ⟨x :: xs, H2, I2, .cons r1 r2, q2⟩
def tTup (t : TA) : TE := fun σ H Q => t σ H fun xs H1 => xs.length ≤ sizeLine ∧ ∀ p, H1 p = none → Q (.ref p) (upd H1 p (.tup xs))
def tLst (t : TA) : TE := fun σ H Q => t σ H fun xs H1 => xs.length ≤ sizeLine ∧ ∀ p, H1 p = none → Q (.ref p) (upd H1 p (.lst xs))
theorem pe_tup {x1} (h : PA X es t) : PE X (.Tuple es x1 pos) (tTup t) := by
  intro pins s σ H Q I hq
  refine wpAny_Tuple_spliced (thn (h pos pins s σ H _ I hq) fun us s1 ⟨xs, H1, I1, r, z, q⟩ => ⟨by rw [← r.length]; exact z, ?_⟩)
  have hf : H1 s1.heap.objs.size = none := I1.hok.fresh (Nat.le_refl _)
  refine ⟨.ref s1.heap.objs.size, upd H1 s1.heap.objs.size (.tup xs), I1.laid (t' := s1.toks) (fun b u e => Heap.get?_push_of_some _ e) (Nat.le_refl _) ?_, rfl, q _ hf⟩
  exact ⟨z, us, r, ⟨_, Heap.get?_push_size _ rfl, rfl, _, rfl⟩⟩
theorem pe_lst (h : PA X es t) : PE X (.List es pos) (tLst t) := by
  intro pins s σ H Q I hq
  refine wpAny_List_spliced (thn (h pos pins s σ H _ I hq) fun us s1 ⟨xs, H1, I1, r, z, q⟩ => ⟨by rw [← r.length]; exact z, ?_⟩)
  have hf : H1 s1.heap.objs.size = none := I1.hok.fresh (Nat.le_refl _)
  refine ⟨.ref s1.heap.objs.size, upd H1 s1.heap.objs.size (.lst xs), I1.laid (t' := s1.toks) (fun b u e => Heap.get?_push_of_some _ e) (Nat.le_refl _) ?_, rfl, q _ hf⟩
  exact ⟨z, us, 0, r, Heap.get?_push_size _ rfl⟩
end
abbrev Sp := List V → Hp → VK → XK → Prop
abbrev CXT := List Env → Hp → Shared → XK → Value → Shared → Prop
structure Env0 (P : Program) (w : World) (K : PySem.W.Frag) (mg : Str → Option Value) (base : Heap) (A : Around) (outer : List Env) (s : Shared) (H : Hp) : Prop where
  frames : A.frames = some outer
  mod : Mod K mg base
  bs : ∀ b o, base.get? b = some o → s.heap.get? b = some o ∧ H b = none
  bsz : base.objs.size ≤ s.heap.objs.size
  funs : s.heap.FunFrames base outer
  frf : ∀ b ∈ frs outer, H b = none
  hok : HOk P w H s.heap
  bare : AllBare s.gens
def CE (outer : List Env) (P : Program) (w : World) (H : Hp) (s : Shared) (Q : VK) (u : Value) (s' : Shared) : Prop :=
  ∃ v H', s'.os = s.os ∧ AllBare s'.gens ∧ Un (frs outer) [] H H' s.heap s'.heap ∧ HOk P w H' s'.heap ∧ RelV v u ∧ Q v H'
def CR (CX : CXT) (outer : List Env) (P : Program) (w : World) (H : Hp) (s : Shared) (Q : VK) (E : XK) (r : Result) (s' : Shared) : Prop :=
  match r with
  | .ok (.ret u) => CE outer P w H s Q u s'
  | .ok _ => False
  | .error e => CX outer H s E e s'
structure FnOk (P : Program) (w : World) (K : PySem.W.Frag) (mg : Str → Option Value) (base : Heap) (CX : CXT) (k : Nat) (f : Addr) (fd : FuncData) (ps : List Str) (sp : Sp) : Prop where
  len : ∀ vs H Q E, sp vs H Q E → vs.length = ps.length
  run : ∀ (A : Around) (outer : List Env) (s : Shared) (H : Hp) (args : Args) (us : List Value) (vs : List V) (Q : VK) (E : XK), Room k A → Env0 P w K mg base A outer s H → BindsTo s fd args (ps.zip us) → Vals vs us → sp vs H Q E →
    codeAny (model P w) A (.call (.ref f) args) (CR CX outer P w H s Q E) s
theorem FnOk.mono {P : Program} {w : World} {K : PySem.W.Frag} {mg : Str → Option Value} {base : Heap} {CX : CXT} {j k : Nat} {f : Addr} {fd : FuncData} {ps : List Str} {sp : Sp} (F : FnOk P w K mg base CX j f fd ps sp) (h : j ≤ k) :
    FnOk P w K mg base CX k f fd ps sp := ⟨F.len, fun A outer s H args us vs Q E hr => F.run A outer s H args us vs Q E (hr.mono h)⟩
theorem Env0.make {P : Program} {w : World} {K : PySem.W.Frag} {mg : Str → Option Value} {base : Heap} {A : Around} {outer : List Env} {s : Shared} {H : Hp} (e : Env0 P w K mg base A outer s H) (C : Addr) (us : List Value) (kw : List (Str × Value)) :
    Env0 P w K mg base (A.under (.builtin "type.__call__" ⟨.ref C :: us, kw⟩)) outer s H := ⟨by first | exact e.frames | (simpa [Around.under, Code.envs, Code.isFrame, pushEnvs] using e.frames), e.mod, e.bs, e.bsz, e.funs, e.frf, e.hok, e.bare⟩
section
variable {X : Cx} {pins : List (Addr × Obj)} {σ : St} {H : Hp} {s s' : Shared}
theorem Inv.env0 (I : Inv X pins σ H s) : Env0 X.prog X.w X.K X.mg X.base X.A X.stack s H :=
  ⟨I.ok.frames, I.ok.mod, I.bs, Nat.le_trans I.ok.bsz I.sz, I.stack, I.stkFree, I.hok, I.bare⟩
theorem Inv.after {Q : VK} {u : Value} (I : Inv X pins σ H s) (h : CE X.stack X.prog X.w H s Q u s') : EP X pins σ Q u s' := by
  obtain ⟨v, H', os, bare, un, hok, r, q⟩ := h
  obtain ⟨hh, g, d, t, os'⟩ := s'
  obtain rfl : os' = s.os := os
  exact ⟨v, H', I.call (h' := hh) (g' := g) (d' := d) (t' := t) (ch := []) un hok bare (fun b z => absurd z (by simp)), r, q⟩
end
def tCall (sp : Sp) (dvs : List V) (E : XK) (t : TA) : TE := fun σ H Q => t σ H fun vs H1 => sp (vs ++ dvs) H1 Q E
def tMeth (C : Addr) (m : Str) (sp : Sp) (dvs : List V) (E : XK) (ta : TE) (t : TA) : TE := fun σ H Q => ta σ H fun x H1 => ∃ a dx fs, x = .ref a ∧ H1 a = some (.ins C dx fs) ∧ fs.lookup m = none ∧
  t σ H1 fun vs H2 => sp (x :: (vs ++ dvs)) H2 Q E
def tMake (C : Addr) (sp : Sp) (dvs : List V) (E : XK) (t : TA) : TE := fun σ H Q => t σ H fun vs H1 => ∀ x dx, H1 x = none → H1 dx = none → dx ≠ x →
  sp (.ref x :: (vs ++ dvs)) (upd (upd H1 dx (.own x)) x (.ins C dx [])) (fun v H2 => v = .non ∧ Q (.ref x) H2) E
def Binds (K : PySem.W.Frag) (fd : FuncData) (ps : List Str) (ds : List Value) : Prop :=
  ∀ (s : Shared) (us : List Value), K.In s.heap → (us ++ ds).length = ps.length → BindsTo s fd ⟨us, []⟩ (ps.zip (us ++ ds))
theorem Binds.all {K : PySem.W.Frag} {fd : FuncData} {ps : List Str} (h : ∀ us : List Value, us.length = ps.length → bindArgs fd ⟨us, []⟩ = pure (ps.zip us)) : Binds K fd ps [] := fun s us _ hl => by
  rw [List.append_nil] at hl ⊢
  exact .of_eq (h us hl)
def Passes (CX : CXT) (X : Cx) (E : XK) : Prop := ∀ (pins : List (Addr × Obj)) (σ : St) (H : Hp) (s : Shared) (e : Value) (s' : Shared), Inv X pins σ H s → CX X.stack H s E e s' → X.xe e s'
section
variable {X : Cx} {CX : CXT} {k : Nat} {f C : Addr} {fd : FuncData} {ps : List Str} {sp : Sp} {dvs : List V} {ds : List Value} {E : XK} {x m : Str} {p pos apos : Pos} {e o : Expr} {es : List Expr} {ta : TE} {t : TA}
theorem run_fn {pins : List (Addr × Obj)} {σ : St} {H : Hp} {s : Shared} {Q : VK} {us : List Value} {vs : List V} (F : FnOk X.prog X.w X.K X.mg X.base CX k f fd ps sp) (hr : Room k X.A) (hb : Binds X.K fd ps ds) (hd : Vals dvs ds) (hx : Passes CX X E)
    (I : Inv X pins σ H s) (r : Vals vs us) (h : sp (vs ++ dvs) H Q E) : wpAny (model X.prog X.w) X.A (call (.ref f) us) (EP X pins σ Q) X.xe s := by
  have r2 : Vals (vs ++ dvs) (us ++ ds) := r.append hd
  have hl : (us ++ ds).length = ps.length := by rw [← r2.length]; exact F.len _ _ _ _ h
  refine wpAny_call (codeAny_mono (F.run X.A X.stack s H ⟨us, []⟩ (us ++ ds) (vs ++ dvs) Q E hr I.env0 (hb s us I.kIn hl) r2 h) fun r s' hq => ?_)
  cases r with
  | error e => exact hx pins σ H s e s' I hq
  | ok fl =>
    cases fl with
    | ret u => exact I.after hq
    | next => exact False.elim hq
    | brk => exact False.elim hq
    | cont => exact False.elim hq
theorem pe_call (F : FnOk X.prog X.w X.K X.mg X.base CX k f fd ps sp) (hr : Room k X.A) (hg : Gl X x) (hm : X.mg x = some (.ref f)) (hk : PySem.W.keepIn X.K (.ref f) = true) (hb : Binds X.K fd ps ds) (hd : Vals dvs ds) (hx : Passes CX X E)
    (ha : PA X (e :: es) t) (hdb : (x == ("__debug__" : Str)) = false := by decide) (he : starEach (e :: es) X.env = (false, eval e X.env) :: starEach es X.env := by rfl) (hpl : (backTo pos (starEach es X.env)).any (·.1) = false := by rfl) :
    PE X (.Call (.Name x p) (e :: es) [] pos) (tCall sp dvs E t) := by
  intro pins s σ H Q I h
  refine wpAny_Call_Name_kw (ld_glob I hg hm ?_ hdb)
  refine PySem.W.callWith_K (h₀ := X.base) I.ok.mod.kin hk (thn (ha pos pins s σ H _ I h) fun us s1 ⟨vs, H1, I1, r, q⟩ => ⟨I1.kIn, ?_⟩) he hpl
  exact run_fn F hr hb hd hx I1 r q
theorem pe_meth {pl : Sem Bool} (he : PE X o ta) (c : Cls X.K C) (hm : Meth X.K C m f) (F : FnOk X.prog X.w X.K X.mg X.base CX k f fd ps sp) (hr : Room k X.A) (hb : Binds X.K fd ps ds) (hd : Vals dvs ds) (hx : Passes CX X E) (ha : PA X (e :: es) t)
    (hst : starEach (e :: es) X.env = (false, eval e X.env) :: starEach es X.env := by rfl) (hpl : (backTo pos (starEach es X.env)).any (·.1) = false := by rfl)
    (ht : eval (.Call (.Attribute o m apos) (e :: es) [] pos) X.env = (do
      let ov ← eval o X.env
      standAt apos.atName
      let (f, first) ← holding [ov] (getMethod ov m pl)
      callWith pos f first (backTo pos (starEach (e :: es) X.env)) (backToKw pos (keywordEach [] X.env))) := by rfl) :
    PE X (.Call (.Attribute o m apos) (e :: es) [] pos) (tMeth C m sp dvs E ta t) := by
  intro pins s σ H Q I h
  refine PySem.W.methodCall_KW (pl := pl) (thn (he pins s σ H _ I h) fun u s1 ⟨x, H1, I1, rx, a, dx, fs, ex, ea, l, q⟩ => ?_) ht
  subst ex
  obtain rfl : u = Value.ref a := rx
  refine getmeth_ok I1 ea c hm l ?_
  refine PySem.W.callWith_K (first := [.ref a]) (h₀ := X.base) I.ok.mod.kin hm.kp (thn (ha pos pins s1 σ H1 _ I1 q) fun us s2 ⟨vs, H2, I2, r, q2⟩ => ⟨I2.kIn, ?_⟩) hst hpl
  exact run_fn (us := .ref a :: us) (vs := .ref a :: vs) F hr hb hd hx I2 (.cons rfl r) q2
theorem pe_meth0 {pl : Sem Bool} (he : PE X o ta) (c : Cls X.K C) (hm : Meth X.K C m f) (F : FnOk X.prog X.w X.K X.mg X.base CX k f fd ps sp) (hr : Room k X.A) (hb : Binds X.K fd ps ds) (hd : Vals dvs ds) (hx : Passes CX X E)
    (ht : eval (.Call (.Attribute o m apos) [] [] pos) X.env = (do
      let ov ← eval o X.env
      standAt apos.atName
      let (f, first) ← holding [ov] (getMethod ov m pl)
      callWith pos f first (backTo pos (starEach [] X.env)) (backToKw pos (keywordEach [] X.env))) := by rfl) :
    PE X (.Call (.Attribute o m apos) [] [] pos) (tMeth C m sp dvs E ta tNil) := by
  intro pins s σ H Q I h
  refine PySem.W.methodCall_KW (pl := pl) (thn (he pins s σ H _ I h) fun u s1 ⟨x, H1, I1, rx, a, dx, fs, ex, ea, l, q⟩ => ?_) ht
  subst ex
  obtain rfl : u = Value.ref a := rx
  refine getmeth_ok I1 ea c hm l ?_
  exact PySem.W.callWith_K0 (first := [.ref a]) I1.kIn hm.kp (run_fn (us := [.ref a]) (vs := [.ref a]) F hr hb hd hx I1 (.cons rfl .nil) q)
structure Mk (K : PySem.W.Frag) (C f : Addr) : Prop where
  makes : PySem.W.makesIn K C = true
  init : PySem.W.findIn K (.ref C) "__init__" = some (some (.ref f))
  fn : PySem.W.isFn K (.ref f) = true
  kp : PySem.W.keepIn K (.ref C) = true
theorem run_make {pins : List (Addr × Obj)} {σ : St} {H : Hp} {s : Shared} {Q : VK} {us : List Value} {vs : List V} (M : Mk X.K C f) (F : FnOk X.prog X.w X.K X.mg X.base CX k f fd ps sp) (hr : Room (k + 1) X.A) (hb : Binds X.K fd ps ds) (hd : Vals dvs ds)
    (hx : Passes CX X E) (I : Inv X pins σ H s) (r : Vals vs us)
    (h : ∀ x dx, H x = none → H dx = none → dx ≠ x → sp (.ref x :: (vs ++ dvs)) (upd (upd H dx (.own x)) x (.ins C dx [])) (fun v H2 => v = .non ∧ Q (.ref x) H2) E) :
    wpAny (model X.prog X.w) X.A (call (.ref C) us) (EP X pins σ Q) X.xe s := by
  have hq := h (s.heap.objs.size + 1) s.heap.objs.size (I.hok.fresh (Nat.le_succ _)) (I.hok.fresh (Nat.le_refl _)) (Nat.ne_of_lt (Nat.lt_succ_self _))
  have I2 := Inv.made (C := C) I
  have r2 : Vals (V.ref (s.heap.objs.size + 1) :: (vs ++ dvs)) (Value.ref (s.heap.objs.size + 1) :: (us ++ ds)) := .cons rfl (r.append hd)
  have hl : (Value.ref (s.heap.objs.size + 1) :: us ++ ds).length = ps.length := by
    have e := r2.length
    rw [F.len _ _ _ _ hq] at e
    exact e.symm
  refine wpAny_call (make_map (f := f) I.kIn M.makes M.init (beq_iff_eq.mp M.fn) (codeAny_mono (F.run _ X.stack _ _ ⟨Value.ref (s.heap.objs.size + 1) :: us, []⟩ (Value.ref (s.heap.objs.size + 1) :: (us ++ ds)) _ _ E (hr.make C us [])
    (I2.env0.make C us []) (hb _ (Value.ref (s.heap.objs.size + 1) :: us) I2.kIn hl) r2 hq) fun r s' hq' => ?_))
  cases r with
  | error e => exact hx pins σ _ _ e s' I2 hq'
  | ok fl =>
    cases fl with
    | ret u =>
      obtain ⟨v, H', I3, rv, ev, q3⟩ := I2.after hq'
      subst ev
      exact ⟨rv, ⟨V.ref (s.heap.objs.size + 1), H', I3, rfl, q3⟩⟩
    | next => exact False.elim hq'
    | brk => exact False.elim hq'
    | cont => exact False.elim hq'
theorem pe_make (M : Mk X.K C f) (F : FnOk X.prog X.w X.K X.mg X.base CX k f fd ps sp) (hr : Room (k + 1) X.A) (hg : Gl X x) (hm : X.mg x = some (.ref C)) (hb : Binds X.K fd ps ds) (hd : Vals dvs ds) (hx : Passes CX X E)
    (ha : PA X (e :: es) t) (hdb : (x == ("__debug__" : Str)) = false := by decide) (he : starEach (e :: es) X.env = (false, eval e X.env) :: starEach es X.env := by rfl) (hpl : (backTo pos (starEach es X.env)).any (·.1) = false := by rfl) :
    PE X (.Call (.Name x p) (e :: es) [] pos) (tMake C sp dvs E t) := by
  intro pins s σ H Q I h
  refine wpAny_Call_Name_kw (ld_glob I hg hm ?_ hdb)
  refine PySem.W.callWith_K (h₀ := X.base) I.ok.mod.kin M.kp (thn (ha pos pins s σ H _ I h) fun us s1 ⟨vs, H1, I1, r, q⟩ => ⟨I1.kIn, ?_⟩) he hpl
  exact run_make M F hr hb hd hx I1 r q
theorem pe_make0 (M : Mk X.K C f) (F : FnOk X.prog X.w X.K X.mg X.base CX k f fd ps sp) (hr : Room (k + 1) X.A) (hg : Gl X x) (hm : X.mg x = some (.ref C)) (hb : Binds X.K fd ps ds) (hd : Vals dvs ds) (hx : Passes CX X E)
    (hdb : (x == ("__debug__" : Str)) = false := by decide) : PE X (.Call (.Name x p) [] [] pos) (tMake C sp dvs E tNil) := by
  intro pins s σ H Q I h
  refine wpAny_Call_Name_kw (ld_glob I hg hm ?_ hdb)
  exact PySem.W.callWith_K0 I.kIn M.kp (run_make (us := []) M F hr hb hd hx I .nil h)
end
section
variable {X : Cx} {CX : CXT} {k : Nat} {f C : Addr} {fd : FuncData} {ps ks : List Str} {sp : Sp} {E : XK} {x m : Str} {p pos apos kpos : Pos} {e o : Expr} {es : List Expr} {kws : List Keyword} {te ta : TE} {t tk : TA} {nm : Option Str}
variable {g : List Value → List Value → List Value} {gV : List V → List V → List V}
end
structure FnScope (N P : List Str) (sc : Scope) : Prop where
  kind : sc.kind = .function
  co : sc.isCoroutine = false
  gen : sc.isGenerator = false
  nd : N.Nodup
  pre : N.take P.length = P
  par : ∀ x ∈ P, sc.names.lookup x = some .local ∨ sc.names.lookup x = some .cell
  nofree : ∀ y ∈ sc.names, y.2 ≠ .free
theorem bindL_out {kindOf : Str → Option NameKind} {x : Str} : ∀ {binds : List (Str × Value)} {m : Str → Option Value}, (∀ v, (x, v) ∉ binds) → bindL kindOf binds m x = m x
  | [], _, _ => rfl
  | (n, v) :: r, m, h => by
    unfold bindL
    rw [bindL_out fun w hw => h w (List.mem_cons_of_mem _ hw)]
    split
    · have : x ≠ n := by rintro rfl; exact h v List.mem_cons_self
      simp [this]
    · rfl
theorem bindC_out {kindOf : Str → Option NameKind} {x : Str} : ∀ {binds : List (Str × Value)} {m : Str → Option Value}, (∀ v, (x, v) ∉ binds) → bindC kindOf binds m x = m x
  | [], _, _ => rfl
  | (n, v) :: r, m, h => by
    unfold bindC
    rw [bindC_out fun w hw => h w (List.mem_cons_of_mem _ hw)]
    split
    · rfl
    · have : x ≠ n := by rintro rfl; exact h v List.mem_cons_self
      simp [this]
theorem bindL_get {kindOf : Str → Option NameKind} {x : Str} {v : Value} : ∀ {P : List Str} {vs : List Value} {i : Nat} {m : Str → Option Value}, P.Nodup → P[i]? = some x → vs[i]? = some v → kindOf x = some .local →
    bindL kindOf (P.zip vs) m x = some v
  | [], _, _, _, _, h, _, _ => by simp at h
  | _ :: _, [], _, _, _, _, h, _ => by simp at h
  | p :: P, w :: vs, 0, m, nd, h1, h2, hk => by
    simp at h1 h2; subst h1; subst h2
    show bindL kindOf ((p, w) :: P.zip vs) m p = _
    unfold bindL
    rw [bindL_out fun v hv => (List.nodup_cons.mp nd).1 (List.of_mem_zip hv).1, if_pos hk]
    simp
  | p :: P, w :: vs, i + 1, m, nd, h1, h2, hk => by
    show bindL kindOf ((p, w) :: P.zip vs) m x = _
    unfold bindL
    exact bindL_get (i := i) (List.nodup_cons.mp nd).2 (by simpa using h1) (by simpa using h2) hk
theorem bindC_get {kindOf : Str → Option NameKind} {x : Str} {v : Value} : ∀ {P : List Str} {vs : List Value} {i : Nat} {m : Str → Option Value}, P.Nodup → P[i]? = some x → vs[i]? = some v → kindOf x ≠ some .local →
    bindC kindOf (P.zip vs) m x = some v
  | [], _, _, _, _, h, _, _ => by simp at h
  | _ :: _, [], _, _, _, _, h, _ => by simp at h
  | p :: P, w :: vs, 0, m, nd, h1, h2, hk => by
    simp at h1 h2; subst h1; subst h2
    show bindC kindOf ((p, w) :: P.zip vs) m p = _
    unfold bindC
    rw [bindC_out fun v hv => (List.nodup_cons.mp nd).1 (List.of_mem_zip hv).1, if_neg hk]
    simp
  | p :: P, w :: vs, i + 1, m, nd, h1, h2, hk => by
    show bindC kindOf ((p, w) :: P.zip vs) m x = _
    unfold bindC
    exact bindC_get (i := i) (List.nodup_cons.mp nd).2 (by simpa using h1) (by simpa using h2) hk
def start (N : List Str) (vs : List V) : St := vs.map some ++ List.replicate (N.length - vs.length) none
def cxOf (CX : CXT) (P : Program) (w : World) (K : PySem.W.Frag) (mg : Str → Option Value) (base : Heap) (N : List Str) (qual : Str) (scope : Scope) (f : Addr) (cd : Value) (A : Around) (outer : List Env) (s : Shared) (H : Hp) (E : XK) : Cx where
  prog := P
  w := w
  K := K
  mg := mg
  base := base
  A := A.deeper (envOfC qual scope s.heap.objs.size f cd)
  N := N
  s₀ := s
  H₀ := H
  env := envOfC qual scope s.heap.objs.size f cd
  outer := outer
  stack := envOfC qual scope s.heap.objs.size f cd :: outer
  ex := []
  calm := true
  fn := fun _ => true
  pn := []
  xe := fun e s' => wpAny (model P w) (A.deeper (envOfC qual scope s.heap.objs.size f cd)) (leaving (envOfC qual scope s.heap.objs.size f cd) e) (fun _ s'' => CX outer H s E e s'') (fun e' s'' => CX outer H s E e' s'') s'
theorem cell_has {sc : Scope} {n : Nat} {x : Str} (h : sc.names.lookup x = some .cell) : ∃ c, (cellsFrom n sc.names []).lookup x = some c := by
  have q := PySem.W.cellsFrom_some sc.names n [] (.inl h)
  exact Option.isSome_iff_exists.mp q
theorem inv_start {CX : CXT} {P : Program} {w : World} {K : PySem.W.Frag} {mg : Str → Option Value} {base : Heap} {N ps : List Str} {qual : Str} {scope : Scope} {f : Addr} {cd : Value} {A : Around} {outer : List Env} {s s1 : Shared} {H : Hp} {E : XK} {us : List Value} {vs : List V}
    (S : FnScope N ps scope) (hd : A.handled = none) (e0 : Env0 P w K mg base A outer s H) (hl : vs.length = ps.length) (r : Vals vs us)
    (x : InCallC s s.heap.objs.size (bindL (envOfC qual scope s.heap.objs.size f cd).kindOf (ps.zip us) fun _ => none) (cellsFrom (s.heap.objs.size + 1) scope.names []) (bindC (envOfC qual scope s.heap.objs.size f cd).kindOf (ps.zip us) fun _ => none) s1) :
    Inv (cxOf CX P w K mg base N qual scope f cd A outer s H E) [] (start N vs) H s1 := by
  have hpl : ps.length ≤ N.length := by have := congrArg List.length S.pre; rw [List.length_take] at this; omega
  obtain ⟨h1, tk, rfl, hk⟩ := x.done
  have noA : ∀ b : Addr, b ∉ (cxOf CX P w K mg base N qual scope f cd A outer s H E).ex := fun b z => absurd (show b ∈ ([] : List Addr) from z) (by simp)
  refine ⟨⟨e0.mod, S.kind, rfl, rfl, Nat.le_refl _, fun y z c h1 h2 => ?_, fun y hy => ?_, fun y c _ h => ?_, fun _ => hd, Around.frames_deeper e0.frames, .inr ⟨rfl, rfl⟩, fun b z => absurd z (noA b), e0.bs, e0.bsz, fun b _ _ => noA b, fun b z => absurd z (noA b), e0.funs, e0.frf⟩,
    rfl, e0.bare, Un.kept hk, ⟨_, x.toInCall.ns, fun i y v h1 h2 h3 => ?_⟩, fun y c h => ⟨_, x.cell y c h⟩, e0.hok.fresh (Nat.le_refl _), fun y c h => ?_, fun p hp => absurd (show p ∈ ([] : List (Addr × Obj)) from hp) (by simp), e0.hok.kept hk, ?_⟩
  · exact name_of_addr x.apart (PySem.mem_of_lookup h1) (PySem.mem_of_lookup h2)
  · have hy : scope.names.lookup y = some .cell ∨ scope.names.lookup y = some .free := hy
    rcases hy with hy | hy
    · exact cell_has hy
    · exact absurd rfl (S.nofree _ (PySem.mem_of_lookup hy))
  · exact Nat.le_of_lt (x.above y c (PySem.mem_of_lookup h))
  · have hi : i < vs.length := by
      unfold start at h2
      by_cases hi : i < vs.length
      · exact hi
      · rw [List.getElem?_append_right (by simpa using hi)] at h2
        rw [List.getElem?_replicate] at h2
        split at h2 <;> cases h2
    have ha : vs[i]? = some v := by
      unfold start at h2
      rw [List.getElem?_append_left (by simpa using hi), List.getElem?_map] at h2
      cases e : vs[i]? with
      | none => rw [e] at h2; cases h2
      | some a => rw [e] at h2; cases h2; rfl
    obtain ⟨u, hu, rv⟩ := r.get ha
    have hp : ps[i]? = some y := by
      rw [← S.pre, List.getElem?_take_of_lt (by omega)]; exact h1
    have ndP : ps.Nodup := by rw [← S.pre]; exact S.nd.sublist (List.take_sublist _ _)
    refine ⟨u, rv, ?_⟩
    rcases S.par y (List.mem_of_getElem? hp) with k | k
    · exact .inl ⟨k, bindL_get ndP hp hu k⟩
    · obtain ⟨c, e⟩ := cell_has (n := s.heap.objs.size + 1) k
      refine .inr ⟨.inl k, c, e, ?_⟩
      have q := x.cell y c e
      rw [bindC_get ndP hp hu (by show scope.names.lookup y ≠ _; rw [k]; decide)] at q
      exact q
  · exact e0.hok.fresh (Nat.le_of_lt (x.above y c (PySem.mem_of_lookup h)))
  · unfold start
    show _ = N.length
    rw [List.length_append, List.length_map, List.length_replicate]
    omega
theorem fn_of {CX : CXT} {P : Program} {w : World} {K : PySem.W.Frag} {mg : Str → Option Value} {base : Heap} {k : Nat} {f : Addr} {name qual : Str} {params : Arguments} {body : List Stmt} {scope : Scope} {dV kV doc pm cdv ct oc : Value} {an od : Option Addr}
    {osl : Array (Option Value)} {N ps : List Str} {sp : Sp} (lk : K.lookup f = some ⟨oc, od, .func (PySem.W.fnOf name qual params body scope dV kV doc pm an cdv ct), osl⟩) (hcd : PySem.W.codeIn K cdv qual = true) (S : FnScope N ps scope)
    (len : ∀ vs H Q E, sp vs H Q E → vs.length = ps.length)
    (hbody : ∀ (A : Around) (outer : List Env) (s : Shared) (H : Hp) (vs : List V) (Q : VK) (E : XK), Room k (A.deeper (envOfC qual scope s.heap.objs.size f cdv)) → sp vs H Q E →
      ∃ t, PSs (cxOf CX P w K mg base N qual scope f cdv A outer s H E) body t ∧ t { nx := fun _ H' => Q .non H', rt := Q } (start N vs) H) :
    FnOk P w K mg base CX (k + 1) f (PySem.W.fnOf name qual params body scope dV kV doc pm an cdv ct) ps sp := by
  refine ⟨len, fun A outer s H args us vs Q E hr e0 hb r hsp => ?_⟩
  have hl := len _ _ _ _ hsp
  have KX : K.In s.heap := e0.mod.kin.keeps fun b o e => (e0.bs b o e).1
  have lim : s.heap.NoLimit := e0.mod.nolimit.keeps fun b o e => (e0.bs b o e).1
  have hkind : ∀ y ∈ ps.zip us, scope.names.lookup y.1 = some .local ∨ (scope.names.lookup y.1 = some .cell ∧ ((cellsFrom (s.heap.objs.size + 1) scope.names []).lookup y.1).isSome = true) := fun ⟨n, v⟩ hy => by
    rcases S.par n (List.of_mem_zip hy).1 with q | q
    · exact .inl q
    · exact .inr ⟨q, PySem.W.cellsFrom_some _ _ _ (.inl q)⟩
  refine codeAny_call_function hr.depth (KX _ _ lk) rfl S.co S.gen rfl (PySem.W.codeRec_of KX hcd) (hb _ _ _ _ ?_)
  refine wpAny_newFunctionEnv_cells S.kind hkind fun env he s1 x => ?_
  subst he
  refine ⟨lim.keeps x.toInCall.keep, codeAny_func ?_⟩
  obtain ⟨t, ht, hq⟩ := hbody A outer s H vs Q E (hr.deeper _) hsp
  have I : Inv (cxOf CX P w K mg base N qual scope f cdv A outer s H E) [] (start N vs) H s1 := inv_start S hr.hd e0 hl r x
  refine wpAny_mono (ht [] s1 (start N vs) H _ I hq) (fun fl s' hs => ?_) fun e s' hs => hs
  have fin : ∀ {σ' : St} {H' : Hp} {v : V} {u : Value}, Inv (cxOf CX P w K mg base N qual scope f cdv A outer s H E) [] σ' H' s' → RelV v u → Q v H' → CE outer P w H s Q u s' :=
    fun {σ' H' v u} J rv q => ⟨v, H', J.os, J.bare, J.base, J.hok, rv, q⟩
  cases fl with
  | ret u =>
    obtain ⟨v, σ', H', J, rv, q⟩ := hs
    exact fin J rv q
  | next =>
    obtain ⟨σ', H', J, q⟩ := hs
    exact fin (v := V.non) (u := Value.none) J rfl q
  | brk =>
    obtain ⟨_, _, _, q⟩ := hs
    exact False.elim q
  | cont =>
    obtain ⟨_, _, _, q⟩ := hs
    exact False.elim q
end L2
namespace L2
open PySem PySem.Spec PyProof.Rows
section
variable {X : Cx} {x : Str} {p pos : Pos} {e : Expr} {es : List Expr} {t : TA} {id T : String} {r : List V → Hp → VK → Prop}
def tCB (r : List V → Hp → VK → Prop) (t : TA) : TE := fun σ H Q => t σ H fun vs H1 => r vs H1 Q
theorem pe_callB (hc : CallR X (.builtin id) r) (hg : Gl X x) (hm : X.mg x = none) (hv : bootBuiltins x = some (.builtin id)) (ha : PA X (e :: es) t) (hn : x ≠ "__name__" := by decide) (hdb : (x == ("__debug__" : Str)) = false := by decide)
    (he : starEach (e :: es) X.env = (false, eval e X.env) :: starEach es X.env := by rfl) (hpl : (backTo pos (starEach es X.env)).any (·.1) = false := by rfl) : PE X (.Call (.Name x p) (e :: es) [] pos) (tCB r t) := by
  intro pins s σ H Q I h
  refine wpAny_Call_Name_kw (ld_blt I hg hm hv ?_ hn hdb)
  exact PyProof.Rows.callWith_builtin1 (thn (ha pos pins s σ H _ I h) fun us s1 ⟨vs, H1, I1, r1, q1⟩ => hc pins s1 σ H1 vs us Q I1 r1 q1) he hpl
theorem pe_callTy (hc : CallR X (.type T) r) (hg : Gl X x) (hm : X.mg x = none) (hv : bootBuiltins x = some (.type T)) (ha : PA X (e :: es) t) (hn : x ≠ "__name__" := by decide) (hdb : (x == ("__debug__" : Str)) = false := by decide)
    (he : starEach (e :: es) X.env = (false, eval e X.env) :: starEach es X.env := by rfl) (hpl : (backTo pos (starEach es X.env)).any (·.1) = false := by rfl) : PE X (.Call (.Name x p) (e :: es) [] pos) (tCB r t) := by
  intro pins s σ H Q I h
  refine wpAny_Call_Name_kw (ld_blt I hg hm hv ?_ hn hdb)
  exact PyProof.Rows.callWith_type1 (thn (ha pos pins s σ H _ I h) fun us s1 ⟨vs, H1, I1, r1, q1⟩ => hc pins s1 σ H1 vs us Q I1 r1 q1) he hpl
end
end L2
namespace HT
open PySem PyProof.Rows
section
open PySem.SeqAt
open PySem.AutoSeq1 (wpAny_loadPart')
open PySem.MeetsSeq PySem.MeetsSeq2 PySem.MeetsSeq3
end
section
variable {prog : Program} {w : World} {A : Around} {E : Value → Shared → Prop} {s : Shared}
theorem cat_tup {t b : Addr} {vs ws : List Value} {Q : Value → Shared → Prop} (ht : IsTup s.heap t vs.toArray) (hb : IsTup s.heap b ws.toArray) (hv : vs ≠ [])
    (h1 : ws = [] → Q (.ref t) s) (h2 : ws ≠ [] → Q (.ref s.heap.objs.size) { s with heap := s.heap.push { cls := .type "tuple", data := .seq (vs ++ ws).toArray } })
    (hsz : vs.length + ws.length ≤ sizeLine) : wpAny (model prog w) A (binaryOp .Add (.ref t) (.ref b)) Q E s := by
  obtain ⟨⟨cls, dd, data, sl⟩, ho, hc, n, hd⟩ := id ht
  obtain ⟨⟨cls2, dd2, data2, sl2⟩, ho2, hc2, n2, hd2⟩ := id hb
  simp only at hc hd hc2 hd2
  subst hc hd hc2 hd2
  have e : vs.toArray ++ ws.toArray = (vs ++ ws).toArray := by simp
  by_cases hw : ws = []
  · exact concat_meets ⟨_, ho, rfl⟩ ⟨_, ho2, rfl⟩ noFill_tuple_add seq_tuple_add PySem.F.slot_tuple_add PySem.F.entry_tuple_add (PySem.F.args_tuple_add_2 _ _)
      (tuple_addW1 t b vs.toArray ws.toArray n n2 dd dd2 sl sl2 (by simpa using hv) (by simp [hw])) ⟨ho, ho2, h1 hw⟩
  · refine concat_meets ⟨_, ho, rfl⟩ ⟨_, ho2, rfl⟩ noFill_tuple_add seq_tuple_add PySem.F.slot_tuple_add PySem.F.entry_tuple_add (PySem.F.args_tuple_add_2 _ _)
      (tuple_addW2 t b vs.toArray ws.toArray n n2 dd dd2 sl sl2 (by simpa using hv) (by simpa using hw) (by rw [List.size_toArray, List.size_toArray]; exact hsz)) ⟨ho, ho2, ?_⟩
    rw [e]
    exact h2 hw
def sIx (n d : Nat) : Option Int → Nat
  | none => d
  | some v => if v < 0 then (v + (n : Int)).toNat else min v.toNat n
theorem sIx_le (n d : Nat) (hd : d ≤ n) (o : Option Int) : sIx n d o ≤ n := by
  cases o with
  | none => exact hd
  | some v =>
    show (if v < 0 then (v + (n : Int)).toNat else min v.toNat n) ≤ n
    by_cases hv : v < 0
    · rw [if_pos hv]; omega
    · rw [if_neg hv]; exact Nat.min_le_right _ _
theorem clip_eq (v : Int) (n d : Nat) : (if v < 0 then max (v + (n : Int)) 0 else min v (n : Int)) = ((sIx n d (some v) : Nat) : Int) := by
  show (if v < 0 then max (v + (n : Int)) 0 else min v (n : Int)) = (((if v < 0 then (v + (n : Int)).toNat else min v.toNat n) : Nat) : Int)
  by_cases hv : v < 0
  · simp only [if_pos hv]; omega
  · simp only [if_neg hv]; omega
theorem adjust_gen (lo hi : Option Int) (n : Nat) : Builtin.Slice.sliceAdjust lo hi 1 (n : Int) = (((sIx n 0 lo : Nat) : Int), ((sIx n n hi : Nat) : Int)) := by
  have h1 : ¬ ((1 : Int) < 0) := by omega
  unfold Builtin.Slice.sliceAdjust
  simp only [h1, if_false]
  refine Prod.ext ?_ ?_
  · cases lo with
    | none => rfl
    | some v => exact clip_eq v n 0
  · cases hi with
    | none => rfl
    | some v => exact clip_eq v n n
theorem places_gen (i j : Nat) : Builtin.Slice.slicePlaces (i : Int) (j : Int) 1 = j - i := by
  unfold Builtin.Slice.slicePlaces
  have h1 : (1 : Int) > 0 := by omega
  simp only [h1, if_true, Int.ediv_one]
  split <;> omega
theorem slicePart_ {v : Value} {o : Option Int} {Q : Option Int → Shared → Prop} (p : IsPart v o) (h : Q o s) : wpAny (model prog w) A (Builtin.Slice.slicePartIndex v) Q E s := by
  cases p with
  | none => exact slicePart_none h
  | int i t => exact slicePart_int h
theorem sliceApplied_gen {sl : Addr} {vl vu : Value} {lo hi : Option Int} {n : Nat} {Q : Int × Int × Nat → Shared → Prop} (hs : s.heap.IsSliceOf sl vl vu .none) (pl : IsPart vl lo) (pu : IsPart vu hi)
    (h : Q (((sIx n 0 lo : Nat) : Int), 1, sIx n n hi - sIx n 0 lo) s) : wpAny (model prog w) A (Builtin.Slice.sliceApplied (.ref sl) (pure (n : Int))) Q E s := by
  obtain ⟨os, hos, hcs, hds⟩ := id hs
  unfold Builtin.Slice.sliceApplied Builtin.Slice.sliceFields
  refine wpAny_bind (wpAny_bind (wpAny_field hos hds (x := vl) rfl (wpAny_bind (wpAny_field hos hds (x := vu) rfl (wpAny_bind (wpAny_field hos hds (x := .none) rfl (wpAny_pure ?_)))))))
  refine wpAny_bind (slicePart_none ?_)
  show wpAny _ _ (if ((1 : Int) == 0) = true then _ else _) _ _ s
  rw [if_neg (by decide)]
  refine wpAny_bind (slicePart_ pl (wpAny_bind (slicePart_ pu (wpAny_bind (wpAny_pure ?_)))))
  show wpAny _ _ (match Builtin.Slice.sliceAdjust lo hi 1 (n : Int) with | (lo, hi) => pure (lo, (1 : Int), Builtin.Slice.slicePlaces lo hi 1)) _ _ s
  rw [adjust_gen lo hi n]
  show wpAny _ _ (pure (((sIx n 0 lo : Nat) : Int), (1 : Int), Builtin.Slice.slicePlaces ((sIx n 0 lo : Nat) : Int) ((sIx n n hi : Nat) : Int) 1)) _ _ s
  rw [places_gen]
  exact wpAny_pure h
theorem pick_gen (xs : Array Value) (i k : Nat) : ((List.range k).filterMap fun (m : Nat) => xs[((i : Int) + (m : Int) * 1).toNat]?).toArray = ((xs.toList.drop i).take k).toArray := by
  have e : (fun (m : Nat) => xs[((i : Int) + (m : Int) * 1).toNat]?) = fun m => xs[i + m]? := by
    funext m
    have : ((i : Int) + (m : Int) * 1).toNat = i + m := by omega
    rw [this]
  rw [e]
  have := pick_run xs i k
  rw [List.filterMap_map] at this
  have e2 : ((fun x => xs[x]?) ∘ fun x => i + x) = fun m => xs[i + m]? := rfl
  rw [e2] at this
  rw [this]
theorem getItem_tuple_cut {t sl : Addr} {items : Array Value} {vl vu : Value} {lo hi : Option Int} {Q : Value → Shared → Prop} (ht : IsTup s.heap t items) (hs : s.heap.IsSliceOf sl vl vu .none) (pl : IsPart vl lo) (pu : IsPart vu hi)
    (hw : ¬ (sIx items.size 0 lo = 0 ∧ sIx items.size items.size hi = items.size))
    (h : Q (.ref s.heap.objs.size) { s with heap := s.heap.push { cls := .type "tuple", data := .seq ((items.toList.drop (sIx items.size 0 lo)).take (sIx items.size items.size hi - sIx items.size 0 lo)).toArray } })
    (hsz : items.size ≤ sizeLine) : wpAny (model prog w) A (getItem (.ref t) (.ref sl)) Q E s := by
  have htake : sizeOk (.seq ((items.toList.drop (sIx items.size 0 lo)).take (sIx items.size items.size hi - sIx items.size 0 lo)).toArray) := by
    show ((items.toList.drop (sIx items.size 0 lo)).take (sIx items.size items.size hi - sIx items.size 0 lo)).toArray.size ≤ sizeLine
    rw [List.size_toArray, List.length_take, List.length_drop, Array.length_toList]
    omega
  have hj : sIx items.size items.size hi ≤ items.size := sIx_le _ _ (Nat.le_refl _) hi
  obtain ⟨os, hos, hcs, hds⟩ := id hs
  have hTs : s.TypeIs (.ref sl) "slice" := ⟨os, hos, hcs⟩
  unfold getItem
  try with_reducible refine wpAny_holding ?_
  first | refine wpAny_bind (wpAny_pure ?_) | skip
  refine wpAny_bind (wpAny_sequenceKey ht.typeIs (by decide) ?_)
  refine wpAny_bind (wpAny_callSpecial?_slot (name := Str.ofString "__getitem__") ht.typeIs PyProof.Rows.slot_tuple_getitem
    (wpAny_call_entry PyProof.Rows.slot_tuple_getitem ht.typeIs entry_tuple_getitem ?_ (args_tuple_getitem _ _)))
  show wpAny _ _ (Builtin.Tuple.tupleItemsOf (.ref t) >>= _) _ _ s
  refine wpAny_bind (tupleItemsOf_ ht ?_)
  refine wpAny_bind (wpAny_typeOf hTs ?_)
  rw [if_pos (by decide)]
  refine wpAny_bind (sliceApplied_gen hs pl pu ?_)
  have hno : ¬ ((((sIx items.size 0 lo : Nat) : Int) == 0 && (1 : Int) == 1 && (sIx items.size items.size hi - sIx items.size 0 lo) == items.size) = true) := by
    intro q
    rw [Bool.and_eq_true, Bool.and_eq_true] at q
    have q1 : ((sIx items.size 0 lo : Nat) : Int) = 0 := eq_of_beq q.1.1
    have q2 : sIx items.size items.size hi - sIx items.size 0 lo = items.size := eq_of_beq q.2
    exact hw ⟨by omega, by omega⟩
  show wpAny _ _ (if (((sIx items.size 0 lo : Nat) : Int) == 0 && (1 : Int) == 1 && (sIx items.size items.size hi - sIx items.size 0 lo) == items.size) = true then _ else _) _ _ s
  rw [if_neg hno, pick_gen]
  first
    | exact wpAny_bind (m := Builtin.Tuple.tupleExact _) (wpAny_newObj_type (wpAny_pure ⟨_, rfl, wpAny_pure h⟩) htake)
    | exact wpAny_bind (m := Builtin.Tuple.tupleExact _) (wpAny_newObj_type (wpAny_bind (wpAny_pure (wpAny_pure ⟨_, rfl, wpAny_pure h⟩))) htake)
    | exact wpAny_bind (wpAny_bind (m := Builtin.Tuple.tupleExact _) (wpAny_newObj_type (wpAny_pure (wpAny_pure ⟨_, rfl, wpAny_pure h⟩)) htake))
    | exact wpAny_bind (wpAny_bind (m := Builtin.Tuple.tupleExact _) (wpAny_newObj_type (wpAny_pure ⟨_, rfl, wpAny_pure h⟩) htake))
end
end HT
namespace L2
open PySem PySem.Spec PyProof.Rows
abbrev TO := St → Hp → (Option Int → Hp → Prop) → Prop
def PO (X : Cx) (e : Option Expr) (t : TO) : Prop :=
  ∀ (pins : List (Addr × Obj)) (s : Shared) (σ : St) (H : Hp) (Q : Option Int → Hp → Prop), Inv X pins σ H s → t σ H Q →
    wpAny (model X.prog X.w) X.A (evalPart e X.env) (fun u s' => ∃ o H', Inv X pins σ H' s' ∧ IsPart u o ∧ Q o H') X.xe s
def tNoPart : TO := fun _ H Q => Q none H
def tPart (t : TE) : TO := fun σ H Q => t σ H fun x H1 => ∃ i, x = .int i ∧ Q (some i) H1
theorem intsAre_of {ns : List Int} : ∀ {us : List Value}, Vals (ns.map V.int) us → IntsAre us ns := by
  induction ns with
  | nil => intro us r; rw [List.map_nil] at r; cases r; exact .nil
  | cons n ns ih =>
    intro us r
    rw [List.map_cons] at r
    cases r with
    | cons r1 r2 =>
      obtain ⟨t, e⟩ := r1
      subst e
      exact .cons n t (ih r2)
section
variable {X : Cx} {e : Expr} {te : TE} {lo hi : Option Expr} {tl th : TO} {pos p2 : Pos}
theorem po_none : PO X none tNoPart := by
  intro pins s σ H Q I h
  rw [evalPart_none]
  exact wpAny_pure ⟨none, H, I, .none, h⟩
theorem po_some (h : PE X e te) : PO X (some e) (tPart te) := by
  intro pins s σ H Q I hw
  rw [evalPart_some]
  refine thn (h pins s σ H _ I hw) fun u s1 ⟨x, H1, I1, r1, q1⟩ => ?_
  obtain ⟨i, rfl, q⟩ := q1
  obtain ⟨t, rfl⟩ := r1
  exact ⟨some i, H1, I1, .int i t, q⟩
def SlR (X : Cx) (r : V → Option Int → Option Int → Hp → VK → Prop) : Prop :=
  ∀ (pins : List (Addr × Obj)) (s : Shared) (σ : St) (H : Hp) (x : V) (v vl vu : Value) (lo hi : Option Int) (sl : Addr) (Q : VK), Inv X pins σ H s → RelV x v → s.heap.IsSliceOf sl vl vu .none → IsPart vl lo → IsPart vu hi → r x lo hi H Q →
    ∃ T id, typeLookup (.type T) "__getitem__" = pure (some (.builtin id)) ∧ s.TypeIs v T ∧ wpAny (model X.prog X.w) X.A (getItem v (.ref sl)) (EP X pins σ Q) X.xe s
theorem SlR.or {r r' : V → Option Int → Option Int → Hp → VK → Prop} (h : SlR X r) (h' : SlR X r') : SlR X (fun x lo hi H Q => r x lo hi H Q ∨ r' x lo hi H Q) := by
  intro pins s σ H x v vl vu lo hi sl Q I rx hs pl pu q
  rcases q with q | q
  · exact h pins s σ H x v vl vu lo hi sl Q I rx hs pl pu q
  · exact h' pins s σ H x v vl vu lo hi sl Q I rx hs pl pu q
def tSl (r : V → Option Int → Option Int → Hp → VK → Prop) (te : TE) (tl th : TO) : TE := fun σ H Q => te σ H fun x H1 => tl σ H1 fun l H2 => th σ H2 fun u H3 => r x l u H3 Q
theorem pe_slice {r : V → Option Int → Option Int → Hp → VK → Prop} (hr : SlR X r) (he : PE X e te) (hl : PO X lo tl) (hu : PO X hi th) : PE X (.Subscript e (.Slice lo hi none p2) pos) (tSl r te tl th) := by
  intro pins s σ H Q I h
  refine Subscript_ (thn (he pins s σ H _ I h) fun v s1 ⟨x, H1, I1, r1, q1⟩ => ?_)
  refine wpAny_Slice (thn (hl pins s1 σ H1 _ I1 q1) fun vl s2 ⟨l, H2, I2, pl, q2⟩ => thn (hu pins s2 σ H2 _ I2 q2) fun vu s3 ⟨u, H3, I3, pu, q3⟩ => ?_)
  rw [evalPart_none]
  refine wpAny_pure ?_
  have I4 : Inv X pins σ H3 { s3 with heap := s3.heap.push { cls := .type "slice", data := .fields #[vl, vu, .none] } } := I3.kept (t' := s3.toks) fun b ob q => Heap.get?_push_of_some _ q
  obtain ⟨T, id, hT, ht, hg⟩ := hr pins { s3 with heap := s3.heap.push { cls := .type "slice", data := .fields #[vl, vu, .none] } } σ H3 x v vl vu l u s3.heap.objs.size Q I4 r1 (Heap.IsSliceOf.new ..) pl pu q3
  show wpAny (model X.prog X.w) X.A (subscriptTail e (.Slice lo hi none p2) v (.ref s3.heap.objs.size)) (EP X pins σ Q) X.xe { s3 with heap := s3.heap.push { cls := .type "slice", data := .fields #[vl, vu, .none] } }
  exact tail_any (ops := [.ref s3.heap.objs.size, v]) ht hT hg (by with_unfolding_all rfl)
def cutV (xs : List V) (lo hi : Option Int) : List V := (xs.drop (HT.sIx xs.length 0 lo)).take (HT.sIx xs.length xs.length hi - HT.sIx xs.length 0 lo)
theorem cutV_length (xs : List V) (lo hi : Option Int) : (cutV xs lo hi).length ≤ xs.length := by
  unfold cutV
  rw [List.length_take, List.length_drop]
  omega
def rSlT (K : PySem.W.Frag) : V → Option Int → Option Int → Hp → VK → Prop := fun x lo hi H Q => ∃ a xs, x = .ref a ∧ SqT K H a xs ∧
  ¬ (HT.sIx xs.length 0 lo = 0 ∧ HT.sIx xs.length xs.length hi = xs.length) ∧ ∀ p, H p = none → Q (.ref p) (upd H p (.tup (cutV xs lo hi)))
theorem sl_tup : SlR X (rSlT X.K) := by
  intro pins s σ H x v vl vu lo hi sl Q I rx hs pl pu h
  obtain ⟨a, xs, rfl, hx, hw, q⟩ := h
  cases rx
  obtain ⟨its, r, ht, hz⟩ := I.tuple hx
  have hlen : its.toArray.size = xs.length := by rw [List.size_toArray]; exact r.length.symm
  refine ⟨"tuple", _, PyProof.Rows.slot_tuple_getitem.lookup, ht.typeIs, ?_⟩
  refine HT.getItem_tuple_cut ht hs pl pu (by rw [hlen]; exact hw) ?_ (by rw [hlen]; exact hz)
  rw [hlen]
  refine ⟨.ref s.heap.objs.size, _, I.laid (t' := s.toks) (o := .tup (cutV xs lo hi)) (fun b ob q => Heap.get?_push_of_some _ q) (Nat.le_refl _) ?_, rfl, q _ (I.hok.fresh (Nat.le_refl _))⟩
  exact ⟨Nat.le_trans (cutV_length xs lo hi) hz, _, (r.drop (HT.sIx xs.length 0 lo)).take (HT.sIx xs.length xs.length hi - HT.sIx xs.length 0 lo), IsTup.new _ _⟩
def rCatT (K : PySem.W.Frag) : R2 := fun x y H Q => ∃ a b xs ys, x = .ref a ∧ y = .ref b ∧ SqT K H a xs ∧ SqT K H b ys ∧ xs ≠ [] ∧ xs.length + ys.length ≤ sizeLine ∧
  (ys = [] → Q (.ref a) H) ∧ (ys ≠ [] → ∀ p, H p = none → Q (.ref p) (upd H p (.tup (xs ++ ys))))
theorem Vals.nil_iff {xs : List V} {us : List Value} (r : Vals xs us) : us = [] ↔ xs = [] := by
  cases r with
  | nil => simp
  | cons _ _ => simp
theorem op_catT : OpR X (binaryOp .Add) (rCatT X.K) := by
  intro pins s σ H x y v u Q I rx ry h
  obtain ⟨a, b, xs, ys, rfl, rfl, ha, hb, hx, hz, q1, q2⟩ := h
  cases rx
  cases ry
  obtain ⟨its, r1, p1, _⟩ := I.tuple ha
  obtain ⟨its2, r2, p2, _⟩ := I.tuple hb
  refine HT.cat_tup p1 p2 (fun z => hx (r1.nil_iff.mp z)) (fun z => ⟨.ref a, H, I, rfl, q1 (r2.nil_iff.mp z)⟩) (fun z => ?_) (by rw [← r1.length, ← r2.length]; exact hz)
  refine ⟨.ref s.heap.objs.size, _, I.laid (t' := s.toks) (o := .tup (xs ++ ys)) (fun b ob q => Heap.get?_push_of_some _ q) (Nat.le_refl _) ?_, rfl, q2 (fun w => z (r2.nil_iff.mpr w)) _ (I.hok.fresh (Nat.le_refl _))⟩
  exact ⟨by rw [List.length_append]; exact hz, _, r1.append r2, IsTup.new _ _⟩
end
end L2
namespace L2
open PySem PySem.Spec PyProof.Rows
def ixN (n : Nat) (i : Int) : Option Nat := if 0 ≤ i then (if i < n then some i.toNat else none) else if -(n : Int) ≤ i then some (i + n).toNat else none
def atI {α : Type} (xs : List α) (i : Int) : Option α := (ixN xs.length i).bind fun j => xs[j]?
theorem ixN_seq {n : Nat} {i : Int} {j : Nat} (h : ixN n i = some j) : seqIndex? i n = some j ∧ j < n ∧ -(n : Int) ≤ i ∧ i < n := by
  unfold ixN at h
  by_cases h0 : 0 ≤ i
  · rw [if_pos h0] at h
    by_cases h1 : i < n
    · rw [if_pos h1] at h
      have e : i.toNat = j := Option.some.inj h
      exact ⟨by rw [seqIndex_of h0 h1, e], by omega, by omega, h1⟩
    · rw [if_neg h1] at h; cases h
  · rw [if_neg h0] at h
    by_cases h1 : -(n : Int) ≤ i
    · rw [if_pos h1] at h
      have e : (i + n).toNat = j := Option.some.inj h
      exact ⟨by rw [seqIndex_neg (by omega) h1, e], by omega, h1, by omega⟩
    · rw [if_neg h1] at h; cases h
theorem atI_get {α : Type} {xs : List α} {i : Int} {v : α} (h : atI xs i = some v) : ∃ j, seqIndex? i xs.length = some j ∧ xs[j]? = some v ∧ j < xs.length ∧ -(xs.length : Int) ≤ i ∧ i < xs.length := by
  unfold atI at h
  cases e : ixN xs.length i with
  | none => rw [e] at h; cases h
  | some j =>
    rw [e] at h
    obtain ⟨h1, h2, h3, h4⟩ := ixN_seq e
    exact ⟨j, h1, h, h2, h3, h4⟩
theorem atI_nat {α : Type} {xs : List α} {j : Nat} {v : α} (h : xs[j]? = some v) : atI xs (j : Int) = some v := by
  have hj : j < xs.length := (List.getElem?_eq_some_iff.mp h).1
  have e : ixN xs.length (j : Int) = some j := by
    unfold ixN
    rw [if_pos (by omega), if_pos (by omega)]; simp
  unfold atI; rw [e]; exact h
def PlainIx (b : Expr) : Prop := ∀ o i, subscripted b false o i = operate [o, i] (getItem o i)
def IxR (X : Cx) (r : R2) : Prop :=
  ∀ (value slice : Expr) (pins : List (Addr × Obj)) (s : Shared) (σ : St) (H : Hp) (x y : V) (v u : Value) (Q : VK), Inv X pins σ H s → RelV x v → RelV y u → r x y H Q →
    subscripted slice false v u = operate [v, u] (getItem v u) → wpAny (model X.prog X.w) X.A (subscriptTail value slice v u) (EP X pins σ Q) X.xe s
def MtR (X : Cx) (id : String) (r : V → List V → Hp → VK → Prop) : Prop :=
  ∀ (pins : List (Addr × Obj)) (s : Shared) (σ : St) (H : Hp) (x : V) (xs : List V) (v : Value) (us : List Value) (Q : VK), Inv X pins σ H s → RelV x v → Vals xs us → r x xs H Q →
    wpAny (model X.prog X.w) X.A (call (.builtin id) (v :: us)) (EP X pins σ Q) X.xe s
section
variable {X : Cx} {a b : Expr} {ta tb : TE} {pos : Pos}
theorem IxR.or {r r' : R2} (h : IxR X r) (h' : IxR X r') : IxR X (fun x y H Q => r x y H Q ∨ r' x y H Q) := by
  intro value slice pins s σ H x y v u Q I rx ry q hs
  rcases q with q | q
  · exact h value slice pins s σ H x y v u Q I rx ry q hs
  · exact h' value slice pins s σ H x y v u Q I rx ry q hs
theorem pe_ix {r : R2} (hr : IxR X r) (ha : PE X a ta) (hb : PE X b tb) (hs : PlainIx b) : PE X (.Subscript a b pos) (tOp r ta tb) := by
  intro pins s σ H Q I h
  exact Subscript_ (binT ha hb I h fun v u s2 x y H2 I2 rx ry q => hr a b pins s2 σ H2 x y v u Q I2 rx ry q (hs _ _))
def rIxL (K : PySem.W.Frag) : R2 := fun x y H Q => ∃ p xs i v, x = .ref p ∧ y = .int i ∧ SqL K H p xs ∧ atI xs i = some v ∧ Q v H
def rIxT (K : PySem.W.Frag) : R2 := fun x y H Q => ∃ p xs i v, x = .ref p ∧ y = .int i ∧ SqT K H p xs ∧ atI xs i = some v ∧ Q v H
def rIxS : R2 := fun x y H Q => ∃ z i c, x = .str z ∧ y = .int i ∧ z.length ≤ sizeLine ∧ atI z.cps.toList i = some c ∧ Q (.str ⟨#[c]⟩) H
theorem ix_list : IxR X (rIxL X.K) := by
  intro value slice pins s σ H x y v u Q I rx ry h hs
  obtain ⟨p, xs, i, z, rfl, rfl, hq, he, q⟩ := h
  cases rx
  obtain ⟨t, rfl⟩ := ry
  obtain ⟨its, r, pl, hz⟩ := I.list hq
  obtain ⟨j, h1, h2, h3, h4, h5⟩ := atI_get he
  obtain ⟨w, ew, rw'⟩ := r.get h2
  have hl := r.length
  have hn := line63
  have fin : EP X pins σ Q w s := ⟨z, H, I, rw', q⟩
  by_cases h0 : 0 ≤ i
  · have hj : i.toNat = j := by
      rw [seqIndex_of h0 h5] at h1
      exact Option.some.inj h1
    exact item_listR pl.isList h0 (by omega) (by rw [hj]; simpa using ew) fin hs
  · have hj : (i + (its.toArray.size : Int)).toNat = j := by
      rw [seqIndex_neg (by omega) h4] at h1
      rw [List.size_toArray, ← hl]
      exact Option.some.inj h1
    exact subscriptTail_builtinR (x := w) pl.isList.typeIs slot_list_getitem.lookup
      (wpAny_getItem_list_neg (Q := fun r s' => r = w ∧ EP X pins σ Q r s') pl.isList (by omega) (by rw [List.size_toArray] <;> omega) (by omega) (by rw [hj]; simpa using ew) ⟨rfl, fin⟩) hs
theorem ix_tup : IxR X (rIxT X.K) := by
  intro value slice pins s σ H x y v u Q I rx ry h hs
  obtain ⟨p, xs, i, z, rfl, rfl, hq, he, q⟩ := h
  cases rx
  obtain ⟨t, rfl⟩ := ry
  obtain ⟨its, r, pl, hz⟩ := I.tuple hq
  obtain ⟨j, h1, h2, h3, h4, h5⟩ := atI_get he
  obtain ⟨w, ew, rw'⟩ := r.get h2
  have hl := r.length
  have hn := line63
  have fin : EP X pins σ Q w s := ⟨z, H, I, rw', q⟩
  exact subscriptTail_builtinR (x := w) pl.typeIs slot_tuple_getitem.lookup
    (getItem_tuple (j := j) (Q := fun r s' => r = w ∧ EP X pins σ Q r s') pl (by omega) (by omega) (by rw [List.size_toArray, ← hl]; exact h1) (by simpa using ew) ⟨rfl, fin⟩) hs
theorem ix_str : IxR X rIxS := by
  intro value slice pins s σ H x y v u Q I rx ry h hs
  obtain ⟨z, i, c, rfl, rfl, hz, he, q⟩ := h
  obtain ⟨t, rfl⟩ := rx
  obtain ⟨t', rfl⟩ := ry
  obtain ⟨j, h1, h2, h3, h4, h5⟩ := atI_get he
  have hl : z.cps.toList.length = z.length := by simp [Str.length]
  rw [hl] at h1 h4 h5
  have hn := line63
  exact tail_any (typeIs_str s z t) slot_str_getitem.lookup (getItem_str (c := c) (by
    have e1 : decide (i < -(2 ^ 63 : Int)) = false := decide_eq_false (by omega)
    have e2 : decide (i ≥ 2 ^ 63) = false := decide_eq_false (by omega)
    rw [e1, e2, Bool.or_false]) (by rw [h1]; simpa using h2) ⟨.str ⟨#[c]⟩, H, I.tok _, ⟨_, rfl⟩, q⟩) hs
def rIx (K : PySem.W.Frag) : R2 := fun x y H Q => rIxL K x y H Q ∨ rIxT K x y H Q ∨ rIxS x y H Q
theorem ix_seq : IxR X (rIx X.K) := ix_list.or (ix_tup.or ix_str)
theorem mapSeq_set (its : List Value) (n j : Nat) (u : Value) : Obj.mapSeq (·.setIfInBounds j u) { cls := .type "list", data := .seq its.toArray n } = { cls := .type "list", data := .seq (its.set j u).toArray n } := by
  simp [Obj.mapSeq]
theorem Inv.lst {pins : List (Addr × Obj)} {σ : St} {H : Hp} {s : Shared} {p : Addr} {xs : List V} (I : Inv X pins σ H s) (h : H p = some (.lst xs)) :
    ∃ (its : List Value) (n : Nat), Vals xs its ∧ s.heap.get? p = some { cls := .type "list", data := .seq its.toArray n } ∧ xs.length ≤ sizeLine := by
  obtain ⟨z, its, n, r, e⟩ := I.hok p _ h
  exact ⟨its, n, r, e, z⟩
theorem Inv.lstUpd {pins : List (Addr × Obj)} {σ : St} {H : Hp} {s : Shared} {p : Addr} {xs ys : List V} {its its' : List Value} {n n' : Nat} {f : Obj → Obj} (I : Inv X pins σ H s) (h : H p = some (.lst xs))
    (ho : s.heap.get? p = some { cls := .type "list", data := .seq its.toArray n }) (hf : f { cls := .type "list", data := .seq its.toArray n } = { cls := .type "list", data := .seq its'.toArray n' }) (r : Vals ys its') (hz : ys.length ≤ sizeLine) (t : Nat) :
    Inv X pins σ (upd H p (.lst ys)) { s with heap := s.heap.update p f, toks := t } := by
  have e : (s.heap.update p f).get? p = some { cls := .type "list", data := .seq its'.toArray n' } := by
    rw [Heap.get?_update_self f ho (by rw [hf] <;> rfl), hf]
  refine I.write (x := p) (e := p) (by rw [h]; trivial) (.inl rfl) (fun b u hb q => (Heap.get?_update_other _ _ (Ne.symm hb)).trans q) ⟨_, e⟩ ?_
  exact ⟨hz, its', n', r, e⟩
def rSetL : V → V → V → Hp → (Hp → Prop) → Prop := fun o i v H Q => ∃ p xs k j, o = .ref p ∧ i = .int k ∧ H p = some (.lst xs) ∧ ixN xs.length k = some j ∧ Q (upd H p (.lst (xs.set j v)))
theorem set_list : PSet X rSetL := by
  intro pins s σ H o i v ov iv u Q I ro ri rv h
  obtain ⟨p, xs, k, j, rfl, rfl, hp, hj, q⟩ := h
  cases ro
  obtain ⟨t, rfl⟩ := ri
  obtain ⟨its, n, r, ho, hz⟩ := I.lst hp
  obtain ⟨h1, h2, h3, h4⟩ := ixN_seq hj
  have hl := r.length
  have hn := line63
  have I' : Inv X pins σ (upd H p (.lst (xs.set j v))) { s with heap := s.heap.update p (Obj.mapSeq (·.setIfInBounds j u)) } :=
    I.lstUpd hp ho (mapSeq_set its n j u) (r.set rv j) (by rw [List.length_set]; exact hz) s.toks
  by_cases h0 : 0 ≤ k
  · have hk : k.toNat = j := by
      rw [seqIndex_of h0 h4] at h1
      exact Option.some.inj h1
    exact PySem.W.ki_setAt ho h0 (by omega) (by rw [List.size_toArray, ← hl]; exact h4) (by rw [hk]; exact ⟨_, I', q⟩)
  · have hk : (k + (its.toArray.size : Int)).toNat = j := by
      rw [seqIndex_neg (by omega) h3] at h1
      rw [List.size_toArray, ← hl]
      exact Option.some.inj h1
    exact PySem.W.ki_setBack ho (by omega) (by rw [List.size_toArray, ← hl]; exact h3) (by omega) (by rw [hk]; exact ⟨_, I', q⟩)
theorem slice_bounds (lo hi : Option Int) (n : Nat) : (sliceBounds lo hi none n).1 = ((HT.sIx n 0 lo : Nat) : Int) ∧ (sliceBounds lo hi none n).2.1 = ((HT.sIx n n hi : Nat) : Int) ∧ (sliceBounds lo hi none n).2.2 = 1 := by
  refine ⟨?_, ?_, rfl⟩
  · cases lo with
    | none => simp [sliceBounds, HT.sIx]
    | some i =>
      simp only [sliceBounds, HT.sIx, Option.getD_none, show (1 : Int) > 0 by decide, if_true]
      by_cases h : i < 0
      · simp only [h, if_true] <;> omega
      · simp only [h, if_false] <;> omega
  · cases hi with
    | none => simp [sliceBounds, HT.sIx]
    | some i =>
      simp only [sliceBounds, HT.sIx, Option.getD_none, show (1 : Int) > 0 by decide, if_true]
      by_cases h : i < 0
      · simp only [h, if_true] <;> omega
      · simp only [h, if_false] <;> omega
theorem slicePick_cut (its : List Value) (lo hi : Option Int) : slicePick its.toArray lo hi none = ((its.drop (HT.sIx its.length 0 lo)).take (HT.sIx its.length its.length hi - HT.sIx its.length 0 lo)).toArray := by
  obtain ⟨h1, h2, h3⟩ := slice_bounds lo hi its.toArray.size
  unfold slicePick
  rw [h1, h2, h3]
  simp only [sliceRange_one, pick_run, List.size_toArray] <;> rfl
def rSlL (K : PySem.W.Frag) : V → Option Int → Option Int → Hp → VK → Prop := fun x lo hi H Q => ∃ a xs, x = .ref a ∧ SqL K H a xs ∧ ∀ p, H p = none → Q (.ref p) (upd H p (.lst (cutV xs lo hi)))
theorem sl_list : SlR X (rSlL X.K) := by
  intro pins s σ H x v vl vu lo hi sl Q I rx hs pl pu h
  obtain ⟨a, xs, rfl, hx, q⟩ := h
  cases rx
  obtain ⟨its, r, ht, hz⟩ := I.list hx
  have hlen := r.length
  refine ⟨"list", _, slot_list_getitem.lookup, ht.isList.typeIs, ?_⟩
  refine wpAny_getItem_list_slice ht.isList hs pl pu .none (by simp) ?_ (by rw [List.size_toArray] <;> omega)
  rw [slicePick_cut, ← hlen]
  refine ⟨.ref s.heap.objs.size, _, I.laid (t' := s.toks) (o := .lst (cutV xs lo hi)) (fun b ob q => Heap.get?_push_of_some _ q) (Nat.le_refl _) ?_, rfl, q _ (I.hok.fresh (Nat.le_refl _))⟩
  exact ⟨Nat.le_trans (cutV_length xs lo hi) hz, _, 0, (r.drop (HT.sIx xs.length 0 lo)).take (HT.sIx xs.length xs.length hi - HT.sIx xs.length 0 lo), Heap.get?_push_size _ rfl⟩
theorem call_list_of : CallR X (.type "list") (fun xs H Q => ∃ p ys, xs = [.ref p] ∧ (SqL X.K H p ys ∨ SqT X.K H p ys) ∧ ∀ l, H l = none → Q (.ref l) (upd H l (.lst ys))) := by
  intro pins s σ H xs us Q I r h
  obtain ⟨p, ys, rfl, hq, q⟩ := h
  obtain ⟨u, rfl, rx⟩ := vals1 r
  cases rx
  have fin : ∀ (its : List Value), Vals ys its → ys.length ≤ sizeLine → ∀ (h' : Heap) (c' : Nat), (∀ b o', s.heap.get? b = some o' → h'.get? b = some o') →
      h'.get? s.heap.objs.size = some { cls := .type "list", dict := none, data := .seq its.toArray c', slots := #[] } → EP X pins σ Q (.ref s.heap.objs.size) { s with heap := h' } := fun its r' hz h' c' kp e =>
    ⟨.ref s.heap.objs.size, _, I.laid (t' := s.toks) kp (Nat.le_refl _) (show ObjOk X.prog X.w _ h' _ (.lst ys) from ⟨hz, its, c', r', e⟩), rfl, q _ (I.hok.fresh (Nat.le_refl _))⟩
  rcases hq with hq | hq
  · obtain ⟨its, r', pl, hz⟩ := I.list hq
    have hlen := r'.length
    obtain ⟨o, ho, hc, n, hd⟩ := pl.isList
    exact call_list_seq p (.inl rfl) ho hc hd (fun h' c' kp e => fin its r' hz h' c' kp e) (by simp only [List.size_toArray] <;> omega)
  · obtain ⟨its, r', pl, hz⟩ := I.tuple hq
    have hlen := r'.length
    obtain ⟨o, ho, hc, n, hd⟩ := pl
    exact call_list_seq p (.inr rfl) ho hc hd (fun h' c' kp e => fin its r' hz h' c' kp e) (by simp only [List.size_toArray] <;> omega)
theorem call_tuple_of : CallR X (.type "tuple") (fun xs H Q => ∃ p ys, xs = [.ref p] ∧ ((SqL X.K H p ys ∧ ∀ l, H l = none → Q (.ref l) (upd H l (.tup ys))) ∨ (SqT X.K H p ys ∧ Q (.ref p) H))) := by
  intro pins s σ H xs us Q I r h
  obtain ⟨p, ys, rfl, h⟩ := h
  obtain ⟨u, rfl, rx⟩ := vals1 r
  cases rx
  rcases h with ⟨hq, q⟩ | ⟨hq, q⟩
  · obtain ⟨its, r', pl, hz⟩ := I.list hq
    have hlen := r'.length
    refine call_tuple_list pl.isList (fun h' kp => ?_) (by simp only [List.size_toArray] <;> omega)
    have I1 : Inv X pins σ H { s with heap := h' } := I.kept (t' := s.toks) kp
    have I2 : Inv X pins σ (upd H h'.objs.size (.tup ys)) { s with heap := h'.push { cls := .type "tuple", data := .seq its.toArray } } :=
      I1.laid (t' := s.toks) (fun b o e => Heap.get?_push_of_some _ e) (Nat.le_refl _) (show ObjOk X.prog X.w _ _ _ (.tup ys) from ⟨hz, its, r', IsTup.new _ _⟩)
    exact ⟨.ref h'.objs.size, _, I2, rfl, q _ (I1.hok.fresh (Nat.le_refl _))⟩
  · obtain ⟨its, r', pl, hz⟩ := I.tuple hq
    exact call_tuple_same pl ⟨.ref p, H, I, rfl, q⟩
def tyV (K : PySem.W.Frag) (T : String) (x : V) (H : Hp) : Prop := match x with
  | .str _ => T = "str"
  | .int _ => T = "int"
  | .ref p => (T = "list" ∧ ∃ xs, SqL K H p xs) ∨ (T = "tuple" ∧ ∃ o, K.lookup p = some o ∧ o.cls = .type "tuple" ∧ o.dict = none) ∨
      (T = "dict" ∧ ((∃ kvs, H p = some (.dK kvs)) ∨ ∃ kvs, H p = some (.dT kvs))) ∨ (T = "set" ∧ ∃ S n, H p = some (.set S n))
  | _ => False
theorem tyV_is {pins : List (Addr × Obj)} {σ : St} {H : Hp} {s : Shared} {T : String} {x : V} {v : Value} (I : Inv X pins σ H s) (r : RelV x v) (ty : tyV X.K T x H) :
    s.TypeIs v T ∧ ∀ a, v = .ref a → ∃ ob, s.heap.get? a = some ob ∧ ob.dict = none := by
  cases x with
  | str z =>
    obtain ⟨t, rfl⟩ := r
    cases (show T = "str" from ty)
    exact ⟨typeIs_str s z t, fun _ e => nomatch e⟩
  | int i =>
    obtain ⟨t, rfl⟩ := r
    cases (show T = "int" from ty)
    exact ⟨typeIs_int s i t, fun _ e => nomatch e⟩
  | ref p =>
    cases r
    rcases ty with ⟨rfl, xs, hq⟩ | ⟨rfl, o, hk, hc, hd⟩ | ⟨rfl, hk⟩ | ⟨rfl, S, n, hk⟩
    · obtain ⟨its, _, pl, _⟩ := I.list hq
      refine ⟨pl.isList.typeIs, fun a e => ?_⟩
      cases e
      obtain ⟨o, n, e, c, hd, _⟩ := pl
      exact ⟨o, e, hd⟩
    · refine ⟨⟨o, I.kIn p o hk, hc⟩, fun a e => ?_⟩
      cases e
      exact ⟨o, I.kIn _ o hk, hd⟩
    · have z : ∃ o, s.heap.get? p = some o ∧ o.ExactDict := by
        rcases hk with ⟨kvs, hk⟩ | ⟨kvs, hk⟩
        · obtain ⟨_, _, _, _, o, _, _, e, ex, _⟩ := I.hok p _ hk
          exact ⟨o, e, ex⟩
        · obtain ⟨_, _, _, _, o, _, _, e, ex, _⟩ := I.hok p _ hk
          exact ⟨o, e, ex⟩
      obtain ⟨o, e, ex⟩ := z
      refine ⟨⟨o, e, ex.1⟩, fun a e2 => ?_⟩
      cases e2
      exact ⟨o, e, ex.2.1⟩
    · obtain ⟨o, _, _, _, e, ex, _⟩ := I.hok p _ hk
      refine ⟨⟨o, e, ex.1⟩, fun a e2 => ?_⟩
      cases e2
      exact ⟨o, e, ex.2.1⟩
  | _ => exact False.elim ty
def tBM (K : PySem.W.Frag) (T : String) (r : V → List V → Hp → VK → Prop) (to : TE) (t : TA) : TE := fun σ H Q => to σ H fun x H1 => tyV K T x H1 ∧ t σ H1 fun xs H2 => r x xs H2 Q
variable {o e : Expr} {es : List Expr} {to : TE} {t : TA} {name : Str} {apos cpos : Pos} {T id : String} {r : V → List V → Hp → VK → Prop}
theorem pe_bm (pa : PlainAttrs T) (slot : Slot T name id) (hty : typeOf (.builtin id) = pure (.type "method_descriptor")) (hm : MtR X id r) (ho : PE X o to) (ha : PA X (e :: es) t)
    (hbase : attributeBase o name X.env (eval o X.env) = eval o X.env := by rfl)
    (hfew : ((backTo cpos (starEach (e :: es) X.env)).all (fun x => !x.1) && (backToKw cpos (keywordEach [] X.env)).all (fun x => x.1.isSome)
      && decide ((e :: es).length + ([] : List Keyword).length + (if ([] : List Keyword).isEmpty then 0 else 1) < 30)) = true := by rfl)
    (hline : (apos.endLine == cpos.line) = true := by rfl) (hs : starEach (e :: es) X.env = (false, eval e X.env) :: starEach es X.env := by rfl) (hplain : (backTo cpos (starEach es X.env)).any (·.1) = false := by rfl) :
    PE X (.Call (.Attribute o name apos) (e :: es) [] cpos) (tBM X.K T r to t) := by
  intro pins s σ H Q I h
  refine wpAny_Call_method_late hbase hfew hline rfl (thn (ho pins s σ H _ I h) fun v s1 ⟨x, H1, I1, r1, ty, q1⟩ => ?_)
  obtain ⟨h1, h2⟩ := tyV_is I1 r1 ty
  refine ⟨T, id, pa, slot, hty, h1, h2, ?_⟩
  have hA := ha cpos pins s1 σ H1 _ I1 q1
  rw [hs] at hA ⊢
  refine Calls.callWith_builtin (by show (false || (backTo cpos (starEach es X.env)).any (·.1)) = false; rw [hplain] <;> rfl) (Calls.evalArgs_plain ?_)
  exact thn hA fun us s2 ⟨vs, H2, I2, r2, q2⟩ => hm pins s2 σ H2 x vs v us Q I2 r1 r2 q2
end
end L2
namespace L2
open PySem PySem.Spec PyProof.Rows
def MtM (X : Cx) (id : String) (r : V → List V → Hp → VK → Prop) : Prop :=
  ∀ (pins : List (Addr × Obj)) (s : Shared) (σ : St) (H : Hp) (x : V) (xs : List V) (v : Value) (us : List Value) (Q : VK), Inv X pins σ H s → RelV x v → Vals xs us → r x xs H Q →
    wpAny (model X.prog X.w) X.A (call (.builtin id) (v :: us)) (EP X pins σ Q) X.xe s
theorem Vals.one : ∀ {x : V} {us : List Value}, Vals [x] us → ∃ u, us = [u] ∧ RelV x u
  | _, _, .cons r .nil => ⟨_, rfl, r⟩
theorem Vals.two : ∀ {x y : V} {us : List Value}, Vals [x, y] us → ∃ u v, us = [u, v] ∧ RelV x u ∧ RelV y v
  | _, _, _, .cons r (.cons q .nil) => ⟨_, _, rfl, r, q⟩
theorem Vals.rep {xs : List V} {us : List Value} (h : Vals xs us) : ∀ k : Nat, Vals (List.replicate k xs).flatten (List.replicate k us).flatten
  | 0 => .nil
  | k + 1 => by
    rw [List.replicate_succ, List.replicate_succ, List.flatten_cons, List.flatten_cons]
    exact Vals.append h (Vals.rep h k)
theorem foldl_rep (its : List Value) : ∀ (k : Nat) (acc : List Value),
    List.foldl (fun x1 x2 => x1 ++ x2) acc.toArray (List.replicate k its.toArray) = (acc ++ (List.replicate k its).flatten).toArray
  | 0, acc => by simp
  | k + 1, acc => by
    have e : acc.toArray ++ its.toArray = (acc ++ its).toArray := by simp
    have e2 : (acc ++ its) ++ (List.replicate k its).flatten = acc ++ (List.replicate (k + 1) its).flatten := by
      rw [List.replicate_succ, List.flatten_cons, List.append_assoc]
    rw [← e2, ← foldl_rep its k (acc ++ its), ← e, List.replicate_succ, List.foldl_cons]
section
variable {X : Cx} {pins : List (Addr × Obj)} {σ : St} {H : Hp} {s : Shared} {l b : Addr} {xs ys zs : List V}
theorem Inv.lset {its its' : List Value} {n : Nat} {f : Array Value → Array Value} {t' : Nat} (I : Inv X pins σ H s) (hH : H l = some (.lst xs))
    (e : s.heap.get? l = some { cls := .type "list", data := .seq its.toArray n }) (hf : f its.toArray = its'.toArray) (hv : Vals ys its') (hz : ys.length ≤ sizeLine) :
    Inv X pins σ (upd H l (.lst ys)) { s with heap := s.heap.update l (Obj.mapSeq f), toks := t' } := by
  have q := PySem.IsL.update e f
  rw [hf] at q
  refine I.write (x := l) (e := l) (by rw [hH]; exact trivial) (.inl rfl) (fun b' u hb hu => (Heap.get?_update_other s.heap (Obj.mapSeq f) (Ne.symm hb)).trans hu) ⟨_, q⟩ ?_
  exact ⟨hz, its', _, hv, q⟩
theorem Inv.lnew {its : List Value} {t' : Nat} (I : Inv X pins σ H s) (hv : Vals ys its) (hz : ys.length ≤ sizeLine) :
    Inv X pins σ (upd H s.heap.objs.size (.lst ys)) { s with heap := s.heap.push { cls := .type "list", data := .seq its.toArray }, toks := t' } :=
  I.laid (fun _ _ q => Heap.get?_push_of_some _ q) (Nat.le_refl _) ⟨hz, its, 0, hv, Heap.get?_push_size _ rfl⟩
theorem Inv.fresh (I : Inv X pins σ H s) : H s.heap.objs.size = none := I.hok.fresh (Nat.le_refl _)
theorem Inv.lstM (I : Inv X pins σ H s) (hH : H l = some (.lst xs)) : xs.length ≤ sizeLine ∧ ∃ (its : List Value) (n : Nat), Vals xs its ∧ xs.length = its.length ∧ s.heap.get? l = some { cls := .type "list", data := .seq its.toArray n } := by
  obtain ⟨z, its, n, r, e⟩ := I.hok l _ hH
  exact ⟨z, its, n, r, r.length, e⟩
theorem notLongL {n : Nat} (h : n ≤ sizeLine) : Builtin.List.listTooLong n = false := by
  unfold Builtin.List.listTooLong
  exact decide_eq_false (by omega)
end
section
variable {X : Cx}
def rAppend : V → List V → Hp → VK → Prop := fun x vs H Q => ∃ l xs y, x = .ref l ∧ vs = [y] ∧ H l = some (.lst xs) ∧ xs.length < sizeLine ∧ Q .non (upd H l (.lst (xs ++ [y])))
theorem mt_append : MtM X "list.append" rAppend := by
  intro pins s σ H x vs v us Q I rx rv h
  obtain ⟨l, xs, y, rfl, rfl, hH, hz, q⟩ := h
  cases rx
  obtain ⟨u, rfl, ru⟩ := rv.one
  obtain ⟨z, its, n, r, hl, e⟩ := I.lstM hH
  refine call_meets F.slot_list_append ⟨_, e, rfl⟩ F.entry_list_append (F.args_list_append_2 _ _) (PySem.list_append l its.toArray n u (by rw [List.size_toArray]; omega)) ⟨e, ?_⟩
  refine ⟨.non, _, I.lset (its' := its ++ [u]) hH e (by simp) (r.append (.cons ru .nil)) ?_, rfl, q⟩
  rw [List.length_append, List.length_singleton]
  omega
def rExtend : V → List V → Hp → VK → Prop := fun x vs H Q => ∃ l b xs zs, x = .ref l ∧ vs = [.ref b] ∧ H l = some (.lst xs) ∧ H b = some (.lst zs) ∧ xs.length + zs.length ≤ sizeLine ∧ Q .non (upd H l (.lst (xs ++ zs)))
theorem mt_extend : MtM X "list.extend" rExtend := by
  intro pins s σ H x vs v us Q I rx rv h
  obtain ⟨l, b, xs, zs, rfl, rfl, hH, hB, hz, q⟩ := h
  cases rx
  obtain ⟨u, rfl, ru⟩ := rv.one
  cases ru
  obtain ⟨z, its, n, r, hl, e⟩ := I.lstM hH
  obtain ⟨z2, its2, n2, r2, hl2, e2⟩ := I.lstM hB
  have hsz : its.toArray.size + its2.toArray.size ≤ sizeLine := by rw [List.size_toArray, List.size_toArray]; omega
  have hlong : ¬ (!its.toArray.isEmpty && Builtin.List.listTooLong (its.toArray.size + its2.toArray.size)) = true := by
    rw [notLongL hsz, Bool.and_false]
    exact Bool.false_ne_true
  refine call_meets F.slot_list_extend ⟨_, e, rfl⟩ F.entry_list_extend (F.args_list_extend_2 _ _)
    (AutoSeq1.list_extend_list_list_0 l its.toArray n b its2.toArray n2 hlong (by rw [List.size_toArray]; omega) (by omega)) ⟨e, e2, ?_⟩
  refine ⟨.non, _, I.lset (its' := its ++ its2) hH e (by simp) (r.append r2) ?_, rfl, q⟩
  rw [List.length_append]
  omega
def rCat : R2 := fun x y H Q => ∃ l b xs zs, x = .ref l ∧ y = .ref b ∧ H l = some (.lst xs) ∧ H b = some (.lst zs) ∧ xs.length + zs.length ≤ sizeLine ∧ ∀ p, H p = none → Q (.ref p) (upd H p (.lst (xs ++ zs)))
theorem op_cat : OpR X (binaryOp .Add) rCat := by
  intro pins s σ H x y v u Q I rx ry h
  obtain ⟨l, b, xs, zs, rfl, rfl, hH, hB, hz, q⟩ := h
  cases rx
  cases ry
  obtain ⟨z, its, n, r, hl, e⟩ := I.lstM hH
  obtain ⟨z2, its2, n2, r2, hl2, e2⟩ := I.lstM hB
  refine PySem.P.add_list e e2 ?_ (by rw [List.size_toArray, List.size_toArray]; omega)
  have ea : its.toArray ++ its2.toArray = (its ++ its2).toArray := by simp
  rw [ea]
  exact ⟨.ref _, _, I.lnew (t' := s.toks) (r.append r2) (by rw [List.length_append]; omega), rfl, q _ I.fresh⟩
def rRep : R2 := fun x y H Q => ∃ l k xs, x = .ref l ∧ y = .int k ∧ H l = some (.lst xs) ∧ -(2 ^ 63) ≤ k ∧ k < 2 ^ 63 ∧ xs.length * k.toNat ≤ sizeLine ∧
  ∀ p, H p = none → Q (.ref p) (upd H p (.lst (List.replicate k.toNat xs).flatten))
theorem len_rep {α : Type} (xs : List α) (k : Nat) : (List.replicate k xs).flatten.length = k * xs.length := by
  induction k with
  | zero => simp
  | succ k ih => rw [List.replicate_succ, List.flatten_cons, List.length_append, ih, Nat.succ_mul, Nat.add_comm]
theorem op_rep : OpR X (binaryOp .Mult) rRep := by
  intro pins s σ H x y v u Q I rx ry h
  obtain ⟨l, k, xs, rfl, rfl, hH, h1, h2, hz, q⟩ := h
  cases rx
  obtain ⟨t, rfl⟩ := ry
  obtain ⟨z, its, n, r, hl, e⟩ := I.lstM hH
  have hlen : its.toArray.size * k.toNat ≤ sizeLine := by rw [List.size_toArray, ← hl]; exact hz
  have hcap : ¬ its.toArray.size * k.toNat > (2 ^ 63 - 1) / 8 := by
    have : (sizeLine : Nat) ≤ (2 ^ 63 - 1) / 8 := by decide
    omega
  have hfit : ¬ (!Builtin.List.listFitsIndex k) = true := by
    rw [fitsIndex_both h1 h2]
    exact Bool.false_ne_true
  have hlong : ¬ Builtin.List.listTooLong (its.toArray.size * k.toNat) = true := by
    rw [notLongL hlen]
    exact Bool.false_ne_true
  have hnew : List.foldl (fun x1 x2 => x1 ++ x2) #[] (List.replicate (if its.toArray.isEmpty = true then 0 else k.toNat) its.toArray) = (List.replicate k.toNat its).flatten.toArray := by
    have f0 : ∀ m : Nat, List.foldl (fun x1 x2 => x1 ++ x2) #[] (List.replicate m its.toArray) = (List.replicate m its).flatten.toArray := fun m => by
      have := foldl_rep its m []
      rw [List.nil_append] at this
      exact this
    rw [f0]
    cases its with
    | nil => simp
    | cons a r' => rw [if_neg (by simp)]
  refine wpAny_binaryOp_repeat_ref (T := "list") (U := "int") (by decide) ⟨_, e, rfl⟩ (fun s' => typeIs_int s' k t) noFill_list_mul F.fills_int_mul F.slot_int_rmul repeat_list F.slot_int_index.lookup
    (call_meets F.slot_int_rmul (typeIs_int s k t) F.entry_int_rmul (F.args_int_rmul_2 _ _) (int___rmul___int_list k t l its.toArray n)
      ⟨e, rfl, ⟨_, e, rfl⟩, call_meets F.slot_list_mul ⟨_, e, rfl⟩ F.entry_list_mul (F.args_list_mul_2 _ _) (AutoListH.list___mul___list_int_3 l its.toArray n k t hfit hcap hlong) ⟨e, ?_⟩⟩)
  rw [hnew]
  exact ⟨.ref _, _, I.lnew (t' := s.toks) (r.rep k.toNat) (by rw [len_rep, Nat.mul_comm]; exact hz), rfl, q _ I.fresh⟩
end
section
variable {prog : Program} {w : World} {A : Around} {E : Value → Shared → Prop} {s : Shared}
end
section
variable {X : Cx}
end
end L2
namespace Att
open PySem PySem.W PySem.Calls PyProof.Rows
theorem ints_of_wellAll {P : Params} {h : Heap} : ∀ (ns : List Int) (vs : List Value), WellAll P h vs (ns.map WData.int) → IntsAre vs ns := by
  intro ns
  induction ns with
  | nil =>
    intro vs w
    rw [List.map_nil] at w
    cases w
    exact .nil
  | cons n ns ih =>
    intro vs w
    rw [List.map_cons] at w
    cases w with
    | cons a b =>
      cases a
      exact .cons _ _ (ih _ b)
theorem script_of {l : OpenLaw} {n : Nat} (hn : l.most = some n) {P : Params} {h : Heap} {args : List WData} {vals : List Value}
    (hpre : l.row.toRowW.claim.pre args = true) (hwl : WellAll P h vals args) :
    ∃ a vs ns, vals = [Value.ref a] ∧ args = [WData.list (ns.map WData.int)] ∧ h.get? a = some { cls := .type "list", data := .seq vs.toArray } ∧ IntsAre vs ns ∧ ns.length ≤ n := by
  have hsh : WShape.hasAll [] args [.list .int] = true := (pre_splitW hpre).1
  have hc : l.pre.holds [] { args := args } = true := (pre_splitW hpre).2
  obtain ⟨d, r, rfl, h1, h2⟩ := hasAllW_cons hsh
  obtain rfl := hasAllW_nil h2
  obtain ⟨xs, rfl, h3⟩ := hasW_list h1
  obtain ⟨ns, rfl⟩ := items_int h3
  have hlen : ns.length ≤ n := by
    unfold OpenLaw.pre at hc
    have h4 : (WTm.not (.lt (.lit (.int (n : Int))) (.len (.arg 0)))).holds [] { args := [.list (ns.map .int)] } = true := by
      have h4 := (holds_andW hc).1
      rw [hn] at h4
      exact h4
    have h5 := condW_of h4 (w_not (w_lt w_lit (w_len_list (w_arg rfl))))
    rw [List.length_map] at h5
    refine Nat.le_of_not_lt fun q => ?_
    have q' : (n : Int) < ((ns.length : Nat) : Int) := by omega
    first
      | (rw [decide_eq_true q'] at h5; exact absurd h5 (by decide))
      | (simp at h5; omega)
  cases hwl with
  | cons w1 w2 =>
    cases w2
    cases w1 with
    | list ho hall => exact ⟨_, _, ns, rfl, rfl, ho, ints_of_wellAll ns _ hall, hlen⟩
theorem post_true (l : OpenLaw) (args : List WData) : l.row.toRowW.claim.post args (.bool true) args = true :=
  postW_of (r := l.row.toRowW) (X := (true == true))
    (show WShape.has [] (.bool true) .bool = true by first | rfl | decide | simp [WShape.has, WShape.arms, WShape.armsAll])
    (show (WTm.eq .res (.lit (.bool true))).value [] { args := args, res := some (.bool true), after := args } = some (.bool (true == true)) from w_eq_bool (w_res rfl) w_lit) rfl
theorem attach_call {l : OpenLaw} {n : Nat} {q : Program} {loose : List Str} {XP : (Str → Option Value) → Heap → Prop} {YP : World → Heap → Prop} {d : DefRec}
    (hn : l.most = some n) (hdf : d.params.defaults = [])
    (call : ∀ (w : World) (s₀ s₁ : Shared) (mg mb : Str → Option Value) (fa : Addr) (o : Obj) (pm cd doc : Value) (a : Addr) (vs : List Value) (ns : List Int),
      Ground q loose [] XP w s₀ mg mb s₁.heap → YP w s₁.heap →
      s₁.heap.get? fa = some o → o.data = .func (docDef d.name d.params d.body d.scope pm cd doc) → s₁.heap.CodeRec cd d.name → mg d.name = some (.ref fa) →
      s₁.heap.get? a = some { cls := .type "list", data := .seq vs.toArray } → IntsAre vs ns → ns.length ≤ n → s₁.gens = #[] →
      codeAny (model l.prog w) callerA (.call (.ref fa) ⟨[.ref a], []⟩) (fun r s' => r = .ok (.ret (.bool true)) ∧ OldK s₁.heap s'.heap ∧ s'.os = s₁.os ∧ AllBare s'.gens) s₁) :
    WalkO q loose XP YP l.row.toRowW d [] (fun f vs => PySem.call f vs) := by
  intro w s₀ s₁ mg mb G Y fa o pm cd doc dV kV ho hd hcd hD hmg hg args vals as hpre hlay hrd hwl hlo
  obtain rfl : dV = .none := Dflts.none hD hdf
  obtain rfl : kV = .none := Dflts.noKw hD
  obtain ⟨a, vs, ns, rfl, rfl, hobj, hints, hlen⟩ := script_of hn hpre hwl
  refine enter_call (codeAny_mono (call w s₀ s₁ mg mb fa o pm cd doc a vs ns G Y ho (fd_plain hd) hcd hmg hobj hints hlen hg) fun r s' hq => ?_)
  obtain ⟨rfl, h2, h3, h4⟩ := hq
  exact ⟨.inl ⟨.bool true, .bool true, [], rfl, fun _ => rfl, .bool true, post_true l _, fun _ => ⟨List.Pairwise.nil, fun _ hm => (nomatch hm)⟩⟩, h2, h3, h4⟩
section
variable {prog : Program} {w : World} {A : Around} {E : Value → Shared → Prop} {s : Shared} {K : Frag}
end
end Att
namespace L2
open PySem PySem.Spec PyProof.Rows
theorem vals_ints : ∀ {vs : List Value} {ns : List Int}, IntsAre vs ns → Vals (ns.map V.int) vs
  | _, _, .nil => .nil
  | _, _, .cons n t h => .cons ⟨t, rfl⟩ (vals_ints h)
def Only (H : Hp) : Prop := ∀ b, H b = none ∨ ∃ o xs, H b = some (.frz o (.lst xs))
theorem law_call {P : Program} {w : World} {K : PySem.W.Frag} {mg mb : Str → Option Value} {CX : CXT} {k : Nat} {fa a : Addr} {fd : FuncData} {x : Str} {sp : Sp} {s₁ : Shared} {vs : List Value} {ns : List Int}
    (KX : K.In s₁.heap) (hns : s₁.heap.Ns mainGlobals mg) (hb : s₁.heap.Ns builtinsNs mb) (hbb : ∀ x : Str, x ≠ "__name__" → mb x = bootBuiltins x) (hlim : s₁.heap.NoLimit) (hg : s₁.gens = #[])
    (ha : s₁.heap.get? a = some { cls := .type "list", data := .seq vs.toArray }) (hi : IntsAre vs ns) (hl : ns.length ≤ sizeLine) (hr : Room k callerA)
    (F : ∀ base : Heap, K.In base → base.Ns mainGlobals mg → FnOk P w K mg base CX k fa fd [x] sp) (hbind : ∀ (s : Shared) (u : Value), BindsTo s fd ⟨[u], []⟩ [(x, u)])
    (hsp : ∀ H : Hp, Only H → SqL K H a (ns.map V.int) → sp [.ref a] H (fun v _ => v = .bl true) fun _ _ _ => False)
    (hCX : ∀ H e s', CX [] H s₁ (fun _ _ _ => False) e s' → False) :
    codeAny (model P w) callerA (.call (.ref fa) ⟨[.ref a], []⟩) (fun r s' => r = .ok (.ret (.bool true)) ∧ OldK s₁.heap s'.heap ∧ s'.os = s₁.os ∧ AllBare s'.gens) s₁ := by
  have rv := vals_ints hi
  have lenV := hi.length
  have core : ∀ H : Hp, Only H → SqL K H a (ns.map V.int) → HOk P w H s₁.heap → (∀ b, H b ≠ none → b = a) → (H a ≠ none → K.lookup a = none) →
      codeAny (model P w) callerA (.call (.ref fa) ⟨[.ref a], []⟩) (fun r s' => r = .ok (.ret (.bool true)) ∧ OldK s₁.heap s'.heap ∧ s'.os = s₁.os ∧ AllBare s'.gens) s₁ := by
    intro H hO hS hok hA hK
    have base_of : ∀ {b : Addr} {o : Obj}, s₁.heap.get? b = some o → H b = none → (hidT s₁.heap H).get? b = some o := fun e n => hidT_get e n
    have noA : ∀ {b : Addr} {o : Obj} {es : Array DictEntry} {ep : Nat}, s₁.heap.get? b = some o → o.data = .dict es ep → H b = none := fun {b o es ep} e d => by
      cases q : H b with
      | none => rfl
      | some u =>
        have e' : b = a := hA b (by rw [q]; simp)
        subst e'
        rw [ha] at e; cases e
        have d' : Data.seq vs.toArray _ = Data.dict es ep := d
        cases d'
    have nsK : ∀ {b : Addr} {m : Str → Option Value}, s₁.heap.Ns b m → (hidT s₁.heap H).Ns b m := fun {b m} ⟨o, es, ep, e, d, r⟩ => ⟨o, es, ep, base_of e (noA e d), d, r⟩
    have hKb : K.In (hidT s₁.heap H) := fun b o e => base_of (KX b o e) (by
      cases q : H b with
      | none => rfl
      | some u =>
        have e' : b = a := hA b (by rw [q]; simp)
        subst e'
        rw [hK (by rw [q]; simp)] at e; cases e)
    have hM : Mod K mg (hidT s₁.heap H) := ⟨hKb, nsK hns, ⟨mb, nsK hb, hbb⟩, let ⟨mc, h1, h2⟩ := hlim; ⟨mc, nsK h1, h2⟩⟩
    have e0 : Env0 P w K mg (hidT s₁.heap H) callerA [] s₁ H := ⟨rfl, hM, fun b o e => of_hidT e, Nat.le_of_eq (hidT_size _ _), trivial, fun b hb => absurd (show b ∈ ([] : List Addr) from hb) (by simp), hok, .of_eq hg⟩
    refine codeAny_mono ((F _ hKb (nsK hns)).run callerA [] s₁ H ⟨[.ref a], []⟩ [.ref a] [.ref a] _ _ hr e0 (hbind s₁ (.ref a)) (.cons rfl .nil) (hsp H hO hS)) fun r s' h => ?_
    cases r with
    | error e => exact (hCX H e s' h).elim
    | ok fl =>
      cases fl with
      | next => exact False.elim h
      | brk => exact False.elim h
      | cont => exact False.elim h
      | ret u =>
        obtain ⟨v, H', os, bare, un, hok', r', q⟩ := h
        have q' : v = .bl true := q
        subst q'
        obtain rfl : u = Value.bool true := r'
        refine ⟨rfl, OldK.of_keep fun b o e => ?_, os, bare⟩
        cases q : H b with
        | none => exact un.keep b o e q (by intro z; exact absurd (show b ∈ ([] : List Addr) from z) (by simp)) (by simp)
        | some u =>
          rcases hO b with z | ⟨ob, xs, z⟩
          · rw [q] at z; cases z
          · have z2 := un.frzs b ob _ z
            obtain ⟨e1, _⟩ := hok b _ z
            obtain ⟨e2, _⟩ := hok' b _ z2
            rw [e] at e1; cases e1
            exact e2
  cases hk : K.lookup a with
  | some o =>
    have e := KX a o hk
    rw [ha] at e
    cases e
    refine core (fun _ => none) (fun _ => .inl rfl) (.inr ⟨_, vs.toArray, _, hk, rfl, rfl, rfl, by rw [List.size_toArray, lenV]; exact hl, by simpa using rv⟩) (fun b u z => by have z' : (none : Option HO) = some u := z; cases z') (fun b z => absurd rfl z) fun z => absurd rfl z
  | none =>
    refine core (fun b => if b = a then some (.frz { cls := .type "list", data := .seq vs.toArray } (.lst (ns.map V.int))) else none) (fun b => ?_) (.inl (.inr ⟨{ cls := .type "list", data := .seq vs.toArray }, if_pos rfl⟩)) (fun b u z => ?_) (fun b z => ?_) fun _ => hk
    · by_cases hb : b = a
      · exact .inr ⟨_, _, if_pos hb⟩
      · exact .inl (if_neg hb)
    · by_cases hb : b = a
      · have z' := (if_pos hb).symm.trans z
        cases z'
        subst hb
        exact ⟨ha, by rw [List.length_map]; exact hl, vs, _, rv, ha⟩
      · have z' := (if_neg hb).symm.trans z
        cases z'
    · by_cases hb : b = a
      · exact hb
      · exact absurd (if_neg hb) z
end L2
namespace L2
open PySem PySem.Spec PyProof.Rows
theorem walk_of {l : PySem.W.OpenLaw} {n k : Nat} {q : Program} {loose : List Str} {XP : (Str → Option Value) → Heap → Prop} {YP : World → Heap → Prop} {d : DefRec} {K : Params → PySem.W.Frag} {CX : World → CXT} {sp : World → Sp} {x : Str}
    (hn : l.most = some n) (hn2 : n ≤ sizeLine) (hdf : d.params.defaults = []) (hr : Room k callerA)
    (hY : ∀ (w : World) (h : Heap), YP w h → (K w.params).In h)
    (F : ∀ (w : World) (mg : Str → Option Value) (fa : Addr) (h : Heap), (K w.params).In h → h.Ns mainGlobals mg → mg d.name = some (.ref fa) →
      ∃ fd : FuncData, (∀ (s : Shared) (u : Value), BindsTo s fd ⟨[u], []⟩ [(x, u)]) ∧
        ∀ base : Heap, (K w.params).In base → base.Ns mainGlobals mg → FnOk l.prog w (K w.params) mg base (CX w) k fa fd [x] (sp w))
    (hsp : ∀ (w : World) (H : Hp) (a : Addr) (ns : List Int), ns.length ≤ n → Only H → SqL (K w.params) H a (ns.map V.int) → sp w [.ref a] H (fun v _ => v = .bl true) fun _ _ _ => False)
    (hCX : ∀ (w : World) (H : Hp) (s : Shared) (e : Value) (s' : Shared), CX w [] H s (fun _ _ _ => False) e s' → False) :
    PySem.W.WalkO q loose XP YP l.row.toRowW d [] (fun f vs => PySem.call f vs) := by
  refine Att.attach_call hn hdf fun w s₀ s₁ mg mb fa o pm cd doc a vs ns G Y ho hd hcd hmg hobj hints hlen hg => ?_
  have KX := hY w _ Y
  obtain ⟨fd, hb, hF⟩ := F w mg fa _ KX G.T.g hmg
  exact law_call KX G.T.g G.T.b G.T.builtins G.T.nolimit hg hobj hints (Nat.le_trans hlen hn2) hr hF hb (fun H hO hS => hsp w H a ns hlen hO hS) fun H e s' => hCX w H s₁ e s'
end L2
namespace L2
open PySem PySem.Spec PyProof.Rows
def inClass (s : Stmt) (j : Nat) : Stmt := match s with
  | .ClassDef _ _ _ body _ _ _ _ _ _ _ => body.getD j (.Pass ⟨0, 0, 0, 0⟩)
  | _ => .Pass ⟨0, 0, 0, 0⟩
def defArgs (s : Stmt) : Arguments := match s with
  | .FunctionDef _ a _ _ _ _ _ _ _ _ => a
  | _ => { posonlyargs := [], args := [], vararg := none, kwonlyargs := [], kw_defaults := [], kwarg := none, defaults := [] }
def defBody (s : Stmt) : List Stmt := match s with
  | .FunctionDef _ _ b _ _ _ _ _ _ _ => b
  | _ => []
def defScope (s : Stmt) : Scope := match s with
  | .FunctionDef _ _ _ _ _ _ sc _ _ _ => sc
  | _ => { kind := .function, names := [], isGenerator := false, isCoroutine := false }
abbrev E0 : XK := fun _ _ _ => False
structure Fun (K : PySem.W.Frag) (x qual : Str) (st : Stmt) (f : Addr) (fd : FuncData) : Prop where
  ex : ∃ (oc : Value) (od : Option Addr) (kV doc pm : Value) (an : Option Addr) (cdv ct : Value) (osl : Array (Option Value)),
    fd = PySem.W.fnOf x qual (defArgs st) (defBody st) (defScope st) .none kV doc pm an cdv ct ∧ K.lookup f = some ⟨oc, od, .func fd, osl⟩ ∧ PySem.W.codeIn K cdv qual = true
  kp : PySem.W.keepIn K (.ref f) = true
section
variable {P : Program} {w : World} {K : PySem.W.Frag} {mg : Str → Option Value} {base : Heap}
theorem Fun.binds {x qual : Str} {st : Stmt} {f : Addr} {fd : FuncData} {ps : List Str} (F : Fun K x qual st f fd)
    (h : ∀ (kV doc pm : Value) (an : Option Addr) (cdv ct : Value) (us : List Value), us.length = ps.length → bindArgs (PySem.W.fnOf x qual (defArgs st) (defBody st) (defScope st) .none kV doc pm an cdv ct) ⟨us, []⟩ = pure (ps.zip us)) : Binds K fd ps [] := by
  obtain ⟨oc, od, kV, doc, pm, an, cdv, ct, osl, rfl, lk, hcd⟩ := F.ex
  exact .all (h kV doc pm an cdv ct)
theorem fun_mk {x qual : Str} {st : Stmt} {f : Addr} {oc : Value} {od an : Option Addr} {osl : Array (Option Value)} {kV doc pm cdv ct : Value} (l : K.lookup f = some ⟨oc, od, .func (PySem.W.fnOf x qual (defArgs st) (defBody st) (defScope st) .none kV doc pm an cdv ct), osl⟩)
    (c : PySem.W.codeIn K cdv qual = true) (k : PySem.W.keepIn K (.ref f) = true) : Fun K x qual st f (PySem.W.fnOf x qual (defArgs st) (defBody st) (defScope st) .none kV doc pm an cdv ct) := ⟨⟨oc, od, kV, doc, pm, an, cdv, ct, osl, rfl, l, c⟩, k⟩
end
theorem small1000 {n : Nat} (h : n ≤ 1000) : n < sizeLine := Nat.lt_of_le_of_lt h (by decide)
section
variable {X : Cx}
theorem pv (i : Nat) {x : Str} {pos : Pos} (hN : X.N[i]? = some x := by rfl) (hv : Vis X.env.scope x := by first | exact Or.inl rfl | exact Or.inr (Or.inl rfl) | exact Or.inr (Or.inr rfl)) (hd : (x == ("__debug__" : Str)) = false := by decide)
    (hcd : (x == ("__classdict__" : Str)) = false := by decide) : PE X (.Name x pos) (tVar i) := pe_var hN hv hd hcd
end
theorem iteF {A B : Prop} (h : B) : if false = true then A else B := by
  rw [if_neg Bool.false_ne_true]
  exact h
theorem iteT {A B : Prop} (h : A) : if true = true then A else B := by
  rw [if_pos rfl]
  exact h
theorem ite2 {c A B : Prop} [Decidable c] (h1 : c → A) (h2 : ¬ c → B) : if c then A else B := by
  by_cases h : c
  · rw [if_pos h]
    exact h1 h
  · rw [if_neg h]
    exact h2 h
def Same (H H' : Hp) : Prop := ∀ b o, H b = some o → H' b = some o
theorem Same.refl (H : Hp) : Same H H := fun _ _ h => h
theorem Same.trans {H H1 H2 : Hp} (a : Same H H1) (b : Same H1 H2) : Same H H2 := fun c o h => b c o (a c o h)
theorem Same.seq {K : PySem.W.Frag} {H H' : Hp} {a : Addr} {xs : List V} (e : Same H H') (h : SqL K H a xs) : SqL K H' a xs := by
  rcases h with (h | ⟨o, h⟩) | h
  · exact .inl (.inl (e _ _ h))
  · exact .inl (.inr ⟨o, e _ _ h⟩)
  · exact .inr h
end L2
namespace L2
open PySem PySem.Spec PyProof.Rows
section
variable {κ : Type} [DecidableEq κ]
def valV (kvs : List (κ × V)) (k : κ) : Option V := (kvs.find? fun kv => decide (kv.1 = k)).map (·.2)
def putK (kvs : List (κ × V)) (k : κ) (v : V) : List (κ × V) :=
  if (kvs.any fun kv => decide (kv.1 = k)) = true then kvs.map (fun kv => if kv.1 = k then (kv.1, v) else kv) else kvs ++ [(k, v)]
theorem valV_pos {p : κ × V} {r : List (κ × V)} {k : κ} (e : p.1 = k) : valV (p :: r) k = some p.2 := by simp [valV, List.find?_cons, e]
theorem valV_neg {p : κ × V} {r : List (κ × V)} {k : κ} (e : ¬ p.1 = k) : valV (p :: r) k = valV r k := by simp [valV, List.find?_cons, e]
theorem valV_any (k : κ) : ∀ kvs : List (κ × V), (kvs.any fun kv => decide (kv.1 = k)) = (valV kvs k).isSome
  | [] => rfl
  | p :: r => by
    rw [List.any_cons]
    by_cases e : p.1 = k
    · simp only [valV_pos e, decide_eq_true e, Bool.true_or, Option.isSome_some]
    · rw [valV_neg e, decide_eq_false e, Bool.false_or]; exact valV_any k r
theorem length_putK (kvs : List (κ × V)) (k : κ) (v : V) : (putK kvs k v).length ≤ kvs.length + 1 := by
  unfold putK
  split
  · rw [List.length_map]; omega
  · rw [List.length_append, List.length_cons, List.length_nil]; omega
theorem putK_new {kvs : List (κ × V)} {k : κ} (v : V) (h : valV kvs k = none) : putK kvs k v = kvs ++ [(k, v)] := by
  unfold putK
  rw [valV_any, h]
  exact if_neg (by decide)
theorem RelO.isSome_eq {o : Option V} {u : Option Value} (r : RelO o u) : o.isSome = u.isSome := by
  cases o with
  | none => cases u with
    | none => rfl
    | some _ => exact (show False from r).elim
  | some _ => cases u with
    | none => exact (show False from r).elim
    | some _ => rfl
theorem KV.val {kvs : List (κ × V)} {vs : List (κ × Value)} (r : KV kvs vs) (k : κ) : RelO (valV kvs k) (valueAt vs k) := by
  unfold KV at r
  induction r with
  | nil => exact True.intro
  | @cons p q ps qs h t ih =>
    obtain ⟨h1, h2⟩ := h
    by_cases e : p.1 = k
    · have e' : q.1 = k := h1.symm.trans e
      have b : valueAt (q :: qs) k = some q.2 := by simp [valueAt, List.find?_cons, e']
      rw [valV_pos e, b]; exact h2
    · have e' : ¬ q.1 = k := fun z => e (h1.trans z)
      have b : valueAt (q :: qs) k = valueAt qs k := by simp [valueAt, List.find?_cons, e']
      rw [valV_neg e, b]; exact ih
theorem KV.any {kvs : List (κ × V)} {vs : List (κ × Value)} (r : KV kvs vs) (k : κ) : (kvs.any fun kv => decide (kv.1 = k)) = vs.any fun kv => decide (kv.1 = k) := by
  unfold KV at r
  induction r with
  | nil => rfl
  | cons h t ih => rw [List.any_cons, List.any_cons, ih, h.1]
theorem KV.repl {kvs : List (κ × V)} {vs : List (κ × Value)} (r : KV kvs vs) (k : κ) {y : V} {u : Value} (ry : RelV y u) :
    KV (kvs.map fun kv => if kv.1 = k then (kv.1, y) else kv) (vs.map fun kv => if kv.1 = k then (kv.1, u) else kv) := by
  unfold KV at r ⊢
  induction r with
  | nil => exact .nil
  | @cons p q ps qs h t ih =>
    rw [List.map_cons, List.map_cons]
    refine .cons ?_ ih
    obtain ⟨h1, h2⟩ := h
    by_cases e : p.1 = k
    · rw [if_pos e, if_pos (h1.symm.trans e)]; exact ⟨h1, ry⟩
    · rw [if_neg e, if_neg (fun z => e (h1.trans z))]; exact ⟨h1, h2⟩
theorem KV.put {kvs : List (κ × V)} {vs : List (κ × Value)} (r : KV kvs vs) (k : κ) {y : V} {u : Value} (ry : RelV y u) : KV (putK kvs k y) (stored vs k u) := by
  unfold putK stored
  rw [r.any k]
  by_cases e : (vs.any fun kv => decide (kv.1 = k)) = true
  · rw [if_pos e, if_pos e]; exact r.repl k ry
  · rw [if_neg e, if_neg e]; exact Paired.snoc r ⟨rfl, ry⟩
theorem KV.length {kvs : List (κ × V)} {vs : List (κ × Value)} (r : KV kvs vs) : kvs.length = vs.length := Paired.length r
end
theorem kV_is {P : Program} {w : World} {k : Key} {u : Value} (r : RelV (kV k) u) : (mixKind P w).is k u = true := by
  cases k with
  | inl i => obtain ⟨t, e⟩ := (show ∃ t, u = Value.int i t from r); subst e; exact mixKind_int P w i t
  | inr x => obtain ⟨t, e⟩ := (show ∃ t, u = Value.str x t from r); subst e; exact mixKind_str P w x t
theorem kV_inj {a b : Key} (e : kV a = kV b) : a = b := by
  cases a with
  | inl i => cases b with
    | inl j => have e' : V.int i = V.int j := e; injection e' with e'; rw [e']
    | inr y => exact nomatch (show V.int i = V.str y from e)
  | inr x => cases b with
    | inl j => exact nomatch (show V.str x = V.int j from e)
    | inr y => have e' : V.str x = V.str y := e; injection e' with e'; rw [e']
theorem items_are {P : Program} {w : World} : ∀ {ks : List Key} {us : List Value}, Vals (ks.map kV) us → ItemsAre (mixKind P w) ks us
  | [], _, r => by rw [List.map_nil] at r; cases r; exact .nil
  | k :: ks, _, r => by
    rw [List.map_cons] at r
    cases r with
    | cons h t => exact .cons (kV_is h) (items_are t)
abbrev KT (H : Hp) : List (List Key × V) → List (List Key × Addr × Value) → Prop := Paired fun p q => p.1 = q.1 ∧ H q.2.1 = some (.tup (p.1.map kV)) ∧ RelV p.2 q.2.2
theorem KT.val {H : Hp} {kvs : List (List Key × V)} {xs : List (List Key × Addr × Value)} (r : KT H kvs xs) (k : List Key) : RelO (valV kvs k) ((atKey xs k).map (·.2)) := by
  induction r with
  | nil => exact True.intro
  | @cons p q ps qs h t ih =>
    obtain ⟨h1, _, h2⟩ := h
    by_cases e : p.1 = k
    · have e' : q.1 = k := h1.symm.trans e
      have b : atKey (q :: qs) k = some q.2 := by simp [atKey, List.find?_cons, e']
      rw [valV_pos e, b]; exact h2
    · have e' : ¬ q.1 = k := fun z => e (h1.trans z)
      have b : atKey (q :: qs) k = atKey qs k := by simp [atKey, List.find?_cons, e']
      rw [valV_neg e, b]; exact ih
theorem KT.repl {H : Hp} {kvs : List (List Key × V)} {xs : List (List Key × Addr × Value)} (r : KT H kvs xs) (k : List Key) {y : V} {u : Value} (ry : RelV y u) :
    KT H (kvs.map fun kv => if kv.1 = k then (kv.1, y) else kv) (xs.map (putAt k u)) := by
  induction r with
  | nil => exact .nil
  | @cons p q ps qs h t ih =>
    rw [List.map_cons, List.map_cons]
    refine .cons ?_ ih
    obtain ⟨h1, h2, h3⟩ := h
    unfold putAt
    by_cases e : p.1 = k
    · rw [if_pos e, if_pos (h1.symm.trans e)]; exact ⟨h1, h2, ry⟩
    · rw [if_neg e, if_neg (fun z => e (h1.trans z))]; exact ⟨h1, h2, h3⟩
theorem KT.put {H : Hp} {kvs : List (List Key × V)} {xs : List (List Key × Addr × Value)} (r : KT H kvs xs) (k : List Key) {b : Addr} {y : V} {u : Value} (hb : H b = some (.tup (k.map kV))) (ry : RelV y u) :
    KT H (putK kvs k y) (storedH xs k b u) := by
  have e : (kvs.any fun kv => decide (kv.1 = k)) = (atKey xs k).isSome := by
    rw [valV_any, (r.val k).isSome_eq, Option.isSome_map]
  unfold putK storedH
  rw [e]
  by_cases q : (atKey xs k).isSome = true
  · rw [if_pos q, if_pos q]; exact r.repl k ry
  · rw [if_neg q, if_neg q]; exact Paired.snoc r ⟨rfl, hb, ry⟩
theorem KT.keeps {H H' : Hp} {kvs : List (List Key × V)} {xs : List (List Key × Addr × Value)} (r : KT H kvs xs) (ht : ∀ b ys, H b = some (.tup ys) → H' b = some (.tup ys)) : KT H' kvs xs :=
  Paired.mapP r fun _ _ z => ⟨z.1, ht _ _ z.2.1, z.2.2⟩
section
variable {P : Program} {w : World} {H : Hp} {h : Heap} {a : Addr}
theorem rd_of {u : HO} (ok : HOk P w H h) (e : Rd H a u) : ObjOk P w H h a u := e.ok ok
theorem dk_rd {kvs : List (Key × V)} (ok : HOk P w H h) (e : Rd H a (.dK kvs)) : kvs.length ≤ sizeLine ∧ (a == sysModules) = false ∧ ∃ vs, KV kvs vs ∧ h.DictOf (mixKind P w) a vs :=
  show ObjOk P w H h a (.dK kvs) from rd_of ok e
theorem dk_of {kvs : List (Key × V)} (ok : HOk P w H h) (e : H a = some (.dK kvs)) : kvs.length ≤ sizeLine ∧ (a == sysModules) = false ∧ ∃ vs, KV kvs vs ∧ h.DictOf (mixKind P w) a vs := dk_rd ok (.inl e)
theorem key_of {ks : List Key} (ok : HOk P w H h) (e : H a = some (.tup (ks.map kV))) : (tupleKind (mixKind P w)).is h ks a := by
  obtain ⟨_, its, r, o, h1, h2, n, h3⟩ := (show ObjOk P w H h a (.tup (ks.map kV)) from ok a _ e)
  exact ⟨o, its.toArray, n, h1, h2, h3, by simpa using items_are r⟩
theorem dt_rd {kvs : List (List Key × V)} (ok : HOk P w H h) (e : Rd H a (.dT kvs)) : kvs.length ≤ sizeLine ∧ (a == sysModules) = false ∧
    ∃ xs, KT H kvs xs ∧ h.DictOfH (tupleKind (mixKind P w)) a xs := by
  obtain ⟨z, y, xs, r, o, es, ep, h1, h2, h3, h4, h5⟩ := (show ObjOk P w H h a (.dT kvs) from rd_of ok e)
  refine ⟨z, y, xs, r, o, es, ep, h1, h2, h3, h4, fun x hx => ?_, h5⟩
  have all : ∀ {l : List (List Key × V)} {m : List (List Key × Addr × Value)}, KT H l m → ∀ x ∈ m, (tupleKind (mixKind P w)).is h x.1 x.2.1 := by
    intro l m q
    induction q with
    | nil => intro x hx; exact nomatch hx
    | @cons p q ps qs hq t ih =>
      intro x hx
      rcases List.mem_cons.mp hx with e | hx
      · subst e
        exact key_of ok (by rw [← hq.1]; exact hq.2.1)
      · exact ih x hx
  exact all r x hx
theorem dt_of {kvs : List (List Key × V)} (ok : HOk P w H h) (e : H a = some (.dT kvs)) : kvs.length ≤ sizeLine ∧ (a == sysModules) = false ∧
    ∃ xs, KT H kvs xs ∧ h.DictOfH (tupleKind (mixKind P w)) a xs := dt_rd ok (.inl e)
end
def DGet (H : Hp) (a : Addr) (y : V) (r : Option V) : Prop :=
  (∃ kvs k, Rd H a (.dK kvs) ∧ y = kV k ∧ r = valV kvs k) ∨ ∃ kvs k b, Rd H a (.dT kvs) ∧ y = .ref b ∧ H b = some (.tup (k.map kV)) ∧ r = valV kvs k
def DPut (H : Hp) (a : Addr) (y v : V) (H' : Hp) : Prop :=
  (∃ kvs k, H a = some (.dK kvs) ∧ y = kV k ∧ kvs.length < sizeLine ∧ H' = upd H a (.dK (putK kvs k v))) ∨
  ∃ kvs k b, H a = some (.dT kvs) ∧ y = .ref b ∧ H b = some (.tup (k.map kV)) ∧ kvs.length < sizeLine ∧ H' = upd H a (.dT (putK kvs k v))
theorem DGet.k {H : Hp} {a : Addr} {kvs : List (Key × V)} {k : Key} (e : H a = some (.dK kvs)) : DGet H a (kV k) (valV kvs k) := .inl ⟨kvs, k, .inl e, rfl, rfl⟩
theorem DPut.k {H : Hp} {a : Addr} {kvs : List (Key × V)} {k : Key} {v : V} (e : H a = some (.dK kvs)) (hl : kvs.length < sizeLine) : DPut H a (kV k) v (upd H a (.dK (putK kvs k v))) := .inl ⟨kvs, k, e, rfl, hl, rfl⟩
section
variable {X : Cx} {pins : List (Addr × Obj)} {σ : St} {H : Hp} {s : Shared} {a : Addr} {y v : V} {u r : Value} {o : Option V} {A : Around} {E : Value → Shared → Prop}
theorem Inv.big (I : Inv X pins σ H s) : sysModules < s.heap.objs.size := by
  have h : mainGlobals < s.heap.objs.size := (I.mod.glob.keeps I.bk).lt
  exact Nat.lt_trans (by decide) h
theorem d_in {Q : Value → Shared → Prop} (hu : A.units + 1 < cLine) (I : Inv X pins σ H s) (g : DGet H a y o) (ry : RelV y u) (h : ∀ s', Inv X pins σ H s' → Q (.bool o.isSome) s') :
    wpAny (model X.prog X.w) A (compareOp .In u (.ref a)) Q E s := by
  rcases g with ⟨kvs, k, e, ey, l⟩ | ⟨kvs, k, b, e, ey, eb, l⟩
  · subst ey
    obtain ⟨z, hd, vs, rel, dd⟩ := dk_rd I.hok e
    refine wpAny_in_of (kV_is ry) hd dd.mapOf ?_
    rw [← (rel.val k).isSome_eq, ← l]
    exact h _ (I.tok _)
  · subst ey
    cases (show u = Value.ref b from ry)
    obtain ⟨z, hd, xs, rel, dd⟩ := dt_rd I.hok e
    refine wpAny_in_heap (tupleKind_room_in1 hu) (key_of I.hok eb) hd dd ?_
    have q := (rel.val k).isSome_eq
    rw [Option.isSome_map] at q
    rw [← q, ← l]
    exact h _ (I.tok _)
theorem d_write {h' : Heap} {t' : Nat} {ob : HO} (I : Inv X pins σ H s) (mu : Mut (H a)) (hs : Heap.SameBut a s.heap h') (he : ∃ q, h'.get? a = some q) (new : ObjOk X.prog X.w (upd H a ob) h' a ob) :
    Inv X pins σ (upd H a ob) { s with heap := h', toks := t' } :=
  I.write (x := a) (e := a) mu (.inl rfl) (fun b q hb z => (hs.2 b hb).trans z) he new
theorem dk_new {P : Program} {w : World} {H' : Hp} {h' : Heap} {kvs : List (Key × V)} {vs : List (Key × Value)} (z : kvs.length ≤ sizeLine) (hd : (a == sysModules) = false) (rel : KV kvs vs) (dd : h'.DictOf (mixKind P w) a vs) :
    ObjOk P w H' h' a (.dK kvs) := ⟨z, hd, vs, rel, dd⟩
theorem d_setItem {H' : Hp} {Q : Unit → Shared → Prop} (hu : A.units + 1 < cLine) (I : Inv X pins σ H s) (g : DPut H a y v H') (ry : RelV y u) (rv : RelV v r) (h : ∀ s', Inv X pins σ H' s' → Q () s') :
    wpAny (model X.prog X.w) A (setItem (.ref a) u r) Q E s := by
  rcases g with ⟨kvs, k, e, ey, l, eH⟩ | ⟨kvs, k, b, e, ey, eb, l, eH⟩
  · subst ey eH
    obtain ⟨z, hd, vs, rel, dd⟩ := dk_of I.hok e
    have hz : vs.length ≤ sizeLine := by rw [← rel.length]; exact z
    have hl : (putK kvs k v).length ≤ sizeLine := by have := length_putK kvs k v; omega
    refine wpAny_setItem_pairs (hsz := hz) (kV_is ry) dd fun h' dd' hs => h _ ?_
    have he : ∃ q, h'.get? a = some q := let ⟨q, _, _, hq, _⟩ := dd'; ⟨q, hq⟩
    exact d_write I (by rw [e]; exact True.intro) hs he (dk_new hl hd (rel.put k rv) dd')
  · subst ey eH
    cases (show u = Value.ref b from ry)
    obtain ⟨z, hd, xs, rel, dd⟩ := dt_of I.hok e
    have hz : xs.length ≤ sizeLine := by rw [← Paired.length rel]; exact z
    have hl : (putK kvs k v).length ≤ sizeLine := by have := length_putK kvs k v; omega
    refine wpAny_setItem_heap (hsz := hz) (tupleKind_room_in1 hu) (key_of I.hok eb) dd fun h' dd' hs => h _ ?_
    obtain ⟨q, es, ep, hq, h2, h3, h4, _, h5⟩ := dd'
    refine d_write I (by rw [e]; exact True.intro) hs ⟨q, hq⟩ ⟨hl, hd, _, (rel.put k eb rv).keeps fun c ys ec => ?_, q, es, ep, hq, h2, h3, h4, h5⟩
    rw [upd_ne (ne_of ec e (fun z => nomatch z))]
    exact ec
end
section
variable {X : Cx} {pins : List (Addr × Obj)} {σ : St} {H : Hp} {s : Shared} {a : Addr} {kvs : List (Key × V)} {k : Key} {u : Value} {A : Around} {E : Value → Shared → Prop}
theorem d_len {Q : Value → Shared → Prop} (I : Inv X pins σ H s) (e : Rd H a (.dK kvs)) (h : ∀ t s', Inv X pins σ H s' → Q (.int kvs.length t) s') : wpAny (model X.prog X.w) A (call (.builtin "len") [.ref a]) Q E s := by
  obtain ⟨z, hd, vs, rel, dd⟩ := dk_rd I.hok e
  refine call_len_dict hd dd (by rw [← rel.length]; rw [sizeLine_eq] at z; omega) ?_
  rw [← rel.length]
  exact h _ _ (I.tok _)
end
section
variable {X : Cx} {o i e value : Expr} {pos pos' tpos : Pos} {td ty tv : TE}
end
theorem dk_empty {P : Program} {w : World} {H : Hp} (h : Heap) (hb : sysModules < h.objs.size) : ObjOk P w H (h.push { cls := .type "dict", data := .dict #[] }) h.objs.size (.dK []) :=
  ⟨Nat.zero_le _, beq_eq_false_iff_ne.mpr (Ne.symm (Nat.ne_of_lt hb)), [], .nil, Heap.DictOf.new h⟩
def tDNewK : TE := fun _ H Q => ∀ p, H p = none → Q (.ref p) (upd H p (.dK []))
section
variable {X : Cx} {pos : Pos}
theorem pe_dnewK : PE X (.Dict [] [] pos) tDNewK := fun pins s σ H Q I h =>
  wpAny_Dict_empty ⟨.ref s.heap.objs.size, _, I.laid (a := s.heap.objs.size) (o := .dK []) (t' := s.toks) (fun _ _ q => Heap.get?_push_of_some _ q) (Nat.le_refl _) (dk_empty s.heap I.big), rfl, h _ (I.hok.fresh (Nat.le_refl _))⟩
end
section
variable {X : Cx} {pins : List (Addr × Obj)} {σ : St} {H : Hp} {s : Shared} {a : Addr} {y d : V} {u r : Value} {o : Option V} {A : Around} {E : Value → Shared → Prop}
end
section
variable {X : Cx} {o e f : Expr} {apos cpos : Pos} {td ty tx : TE}
end
section
variable {X : Cx} {pins : List (Addr × Obj)} {σ : St} {H : Hp} {s : Shared} {a : Addr} {kvs : List (Key × V)} {A : Around} {E : Value → Shared → Prop}
end
section
variable {X : Cx} {pins : List (Addr × Obj)} {σ : St} {H : Hp} {s : Shared} {a : Addr} {y : V} {u : Value} {A : Around} {E : Value → Shared → Prop}
end
end L2
namespace L2
open PySem PySem.Spec PyProof.Rows
section
variable {X : Cx}
theorem call_lenD : CallR X (.builtin "len") (fun xs H Q => ∃ a kvs, xs = [V.ref a] ∧ H a = some (.dK kvs) ∧ Q (.int kvs.length) H) := by
  intro pins s σ H xs us Q I r h
  obtain ⟨a, kvs, rfl, ha, q⟩ := h
  obtain ⟨u, rfl, ru⟩ := vals1 r
  cases ru
  exact d_len I (.inl ha) fun t s' I' => ⟨.int kvs.length, H, I', ⟨t, rfl⟩, q⟩
end
section
variable {κ : Type} [DecidableEq κ]
end
end L2
namespace L2
open PySem PySem.Spec PyProof.Rows
namespace Rd
section
variable {σ : St} {H : Hp} {Q : VK} {D : Ends} {t u : TS} {ta tb te : TE} {r : R2}
theorem var {i : Nat} {v : V} (h : σ[i]? = some (some v)) (q : Q v H) : tVar i σ H Q := ⟨v, h, q⟩
theorem con {v : V} (q : Q v H) : tC v σ H Q := q
theorem op (h : ta σ H fun x H1 => tb σ H1 fun y H2 => r x y H2 Q) : tOp r ta tb σ H Q := h
theorem i0 {g : Int → Int → V} {i j : Int} (q : Q (g i j) H) : rI0 g (.int i) (.int j) H Q := ⟨i, j, rfl, rfl, q⟩
theorem iC {C : Int → Int → Prop} {g : Int → Int → V} {i j : Int} (c : C i j) (q : Q (g i j) H) : rI C g (.int i) (.int j) H Q := ⟨i, j, rfl, rfl, c, q⟩
theorem eqI {i j : Int} (q : Q (.bl (decide (i = j))) H) : rEq (.int i) (.int j) H Q := ⟨rfl, by
  have e : decide (V.int i = V.int j) = decide (i = j) := by
    by_cases h : i = j
    · rw [h]; simp
    · rw [decide_eq_false h, decide_eq_false (fun z => h (V.int.inj z))]
  rw [e]; exact q⟩
theorem neI {i j : Int} (q : Q (.bl (!decide (i = j))) H) : rNe (.int i) (.int j) H Q := ⟨rfl, by
  have e : decide (V.int i = V.int j) = decide (i = j) := by
    by_cases h : i = j
    · rw [h]; simp
    · rw [decide_eq_false h, decide_eq_false (fun z => h (V.int.inj z))]
  rw [e]; exact q⟩
theorem test {Q : Bool → Hp → Prop} (h : te σ H fun x H' => ∃ k, x = .bl k ∧ Q k H') : tTest te σ H Q := h
theorem bl {k : Bool} {Q : Bool → Prop} (q : Q k) : ∃ k', V.bl k = .bl k' ∧ Q k' := ⟨k, rfl, q⟩
theorem seq (h : t { D with nx := u D } σ H) : tSeq t u D σ H := h
theorem asg {g : TG} (h : te σ H fun x H1 => g x σ H1 D.nx) : tAsg te g D σ H := h
theorem ifs {c : TT} (h : c σ H fun b H1 => if b = true then t D σ H1 else u D σ H1) : tIfS c t u D σ H := h
theorem ret (h : te σ H D.rt) : tRet te D σ H := h
theorem next (h : D.nx σ H) : tNext D σ H := h
theorem drop (h : te σ H fun _ H1 => D.nx σ H1) : tDrop te D σ H := h
theorem nil {Q : List V → Hp → Prop} (h : Q [] H) : tNil σ H Q := h
theorem cons {tr : TA} {Q : List V → Hp → Prop} (h : ta σ H fun x H1 => tr σ H1 fun xs H2 => Q (x :: xs) H2) : tCons ta tr σ H Q := h
theorem call {sp : Sp} {dvs : List V} {E : XK} {ts : TA} (h : ts σ H fun vs H1 => sp (vs ++ dvs) H1 Q E) : tCall sp dvs E ts σ H Q := h
theorem cb {r : List V → Hp → VK → Prop} {ts : TA} (h : ts σ H fun vs H1 => r vs H1 Q) : tCB r ts σ H Q := h
theorem tup {ts : TA} (h : ts σ H fun xs H1 => xs.length ≤ sizeLine ∧ ∀ p, H1 p = none → Q (.ref p) (upd H1 p (.tup xs))) : tTup ts σ H Q := h
theorem lst {ts : TA} (h : ts σ H fun xs H1 => xs.length ≤ sizeLine ∧ ∀ p, H1 p = none → Q (.ref p) (upd H1 p (.lst xs))) : tLst ts σ H Q := h
theorem and_ {t u : TT} {Q : Bool → Hp → Prop} (h : t σ H fun c H1 => if c = true then u σ H1 Q else Q false H1) : tAnd t u σ H Q := h
theorem or_ {t u : TT} {Q : Bool → Hp → Prop} (h : t σ H fun c H1 => if c = true then Q true H1 else u σ H1 Q) : tOr t u σ H Q := h
theorem not_ {t : TT} {Q : Bool → Hp → Prop} (h : t σ H fun c H1 => Q (!c) H1) : tNot t σ H Q := h
theorem andV (h : ta σ H fun x H1 => ∃ c, x = .bl c ∧ if c = true then tb σ H1 Q else Q (.bl false) H1) : tAndV ta tb σ H Q := h
theorem notV (h : ta σ H fun x H1 => ∃ c, x = .bl c ∧ Q (.bl (!c)) H1) : tNotV ta σ H Q := h
end
end Rd
end L2
namespace L2
open PySem PySem.Spec PyProof.Rows
section
variable {X : Cx}
theorem op_mulG : OpR X (binaryOp .Mult) (rI (fun i j => IntMulOk i j) fun i j => .int (i * j)) := opI fun _ _ _ _ _ _ _ hc q => mul_int q hc
theorem op_fdivG : OpR X (binaryOp .FloorDiv) (rI (fun _ j => 0 < j ∧ j.natAbs.log2 < 9000) fun i j => .int (i / j)) := opI fun i j _ _ _ _ _ hc q => by
  rw [← Int.fdiv_eq_ediv_of_nonneg i (Int.le_of_lt hc.1)] at q
  exact floordiv_int (by have := hc.1; omega) q (.inl (PyProof.noPylong_of_log2 hc.2))
theorem call_isinst : CallR X (.builtin "isinstance") (fun xs H Q => ∃ x n t b, xs = [x, .ty n] ∧ TyOf X.K H x t ∧ PySem.W.kitOne X.K t (.type n) = some b ∧ Q (.bl b) H) := by
  intro pins s σ H xs us Q I r h
  obtain ⟨x, n, t, b, rfl, ty, e, q⟩ := h
  obtain ⟨u, v, rfl, ru, rv⟩ := r.two
  obtain rfl : v = Value.type n := rv
  exact isinst_ok I ru ty e fun tk => ⟨.bl b, H, I.tok tk, rfl, q⟩
theorem while3 {c : TT} {tb : TS} {D : Ends} {σ : St} {H : Hp} (W : Nat → St → Hp → Prop) (m : Nat) (h0 : W m σ H)
    (hs : ∀ m σ H, W m σ H → c σ H fun b H1 => if b = true then ∃ N : St → Hp → Prop, (∀ σ' H', N σ' H' → ∃ m', m' < m ∧ W m' σ' H') ∧ tb { D with nx := N, ct := N, bk := D.nx } σ H1 else D.nx σ H1) : tWhile c tb D σ H :=
  ⟨W, ⟨m, h0⟩, hs⟩
theorem turn3 {W : Nat → St → Hp → Prop} {m : Nat} {tb : TS} {D : Ends} {σ : St} {H1 : Hp}
    (h : tb { D with nx := fun σ' H' => ∃ m', m' < m ∧ W m' σ' H', ct := fun σ' H' => ∃ m', m' < m ∧ W m' σ' H', bk := D.nx } σ H1) :
    ∃ N : St → Hp → Prop, (∀ σ' H', N σ' H' → ∃ m', m' < m ∧ W m' σ' H') ∧ tb { D with nx := N, ct := N, bk := D.nx } σ H1 := ⟨_, fun _ _ z => z, h⟩
def tCut (t : TS) : TS := fun D σ H => ∃ J : St → Hp → Prop, (∀ σ' H', J σ' H' → D.nx σ' H') ∧ t { D with nx := J } σ H
theorem ps_cut {st : Stmt} {t : TS} (h : PS X st t) : PS X st (tCut t) := by
  intro pins s σ H D I hq
  obtain ⟨J, hJ, q⟩ := hq
  refine thn (h pins s σ H _ I q) fun f s1 q1 => ?_
  cases f with
  | next => obtain ⟨σ', H', I', j⟩ := q1; exact ⟨σ', H', I', hJ _ _ j⟩
  | brk => exact q1
  | cont => exact q1
  | ret v => exact q1
end
namespace Rd
theorem iteNT {A B : Prop} (h : B) : if (!true) = true then A else B := iteF h
theorem iteNF {A B : Prop} (h : A) : if (!false) = true then A else B := iteT h
section
variable {σ : St} {H : Hp} {Q : VK} {D : Ends} {t u : TS} {ta tb te : TE}
theorem cut (J : St → Hp → Prop) (hJ : ∀ σ' H', J σ' H' → D.nx σ' H') (h : t { D with nx := J } σ H) : tCut t D σ H := ⟨J, hJ, h⟩
theorem for_ {wi : TI} {g : TG} {tb : TS} (h : wi σ H fun J H1 => ∃ W : Nat → Nat → St → Hp → Prop, (∃ m, W 0 m σ H1) ∧ ∀ i m σ H, W i m σ H →
    (J.stop i H ∧ D.nx σ H) ∨ (J.go i H ∧ ∃ N : St → Hp → Prop, (∀ σ' H', N σ' H' → ∃ m', m' < m ∧ W (i + 1) m' σ' H') ∧ ∀ x H', J.yld i H x H' → g x σ H' fun σ2 H2 => tb { D with nx := N, ct := N, bk := D.nx } σ2 H2)) : tFor wi g tb D σ H := h
theorem rng1 {ts : TA} {R : It → Hp → Prop} (h : ts σ H fun vs H1 => ∃ j : Int, vs = [.int j] ∧ -(2 ^ 62) ≤ j ∧ j < 2 ^ 62 ∧ R (Itr 0 j.toNat) H1) : iRng1 ts σ H R := h
theorem gtup {K : PySem.W.Frag} {n : Nat} {ts : TGs} {a : Addr} {xs : List V} {Q : St → Hp → Prop} (hs : SqT K H a xs) (hn : xs.length = n) (h : ts xs σ H Q) : gTup K n ts (.ref a) σ H Q := ⟨a, xs, rfl, hs, hn, h⟩
theorem gnil {Q : St → Hp → Prop} (h : Q σ H) : gNil [] σ H Q := ⟨rfl, h⟩
theorem gcons {g : TG} {gs : TGs} {v : V} {r : List V} {Q : St → Hp → Prop} (h : g v σ H fun σ' H' => gs r σ' H' Q) : gCons g gs (v :: r) σ H Q := ⟨v, r, rfl, h⟩
end
end Rd
end L2
namespace L2
open PySem PySem.Spec PyProof.Rows
theorem same_new {H : Hp} {p : Addr} {o : HO} (hp : H p = none) : Same H (upd H p o) := fun c u e => by rw [upd_ne (ne_of_none e hp)]; exact e
theorem Same.new {H H' : Hp} {q : Addr} {o : HO} (sm : Same H H') (hq : H q = none) : Same H (upd H' q o) := fun c u e => by rw [upd_ne (ne_of_none e hq)]; exact sm c u e
theorem Same.seqT {K : PySem.W.Frag} {H H' : Hp} {a : Addr} {xs : List V} (e : Same H H') (h : SqT K H a xs) : SqT K H' a xs := by
  rcases h with (h | ⟨o, h⟩) | h
  · exact .inl (.inl (e _ _ h))
  · exact .inl (.inr ⟨o, e _ _ h⟩)
  · exact .inr h
namespace Rd
section
variable {σ : St} {H : Hp} {Q : VK} {D : Ends} {K : PySem.W.Frag}
theorem ixt {p : Addr} {xs : List V} {i : Int} {v : V} (h : SqT K H p xs) (e : atI xs i = some v) (q : Q v H) : rIxT K (.ref p) (.int i) H Q := ⟨p, xs, i, v, rfl, rfl, h, e, q⟩
theorem ixl {p : Addr} {xs : List V} {i : Int} {v : V} (h : SqL K H p xs) (e : atI xs i = some v) (q : Q v H) : rIxL K (.ref p) (.int i) H Q := ⟨p, xs, i, v, rfl, rfl, h, e, q⟩
theorem bm {T : String} {r : V → List V → Hp → VK → Prop} {to : TE} {t : TA} (h : to σ H fun x H1 => tyV K T x H1 ∧ t σ H1 fun xs H2 => r x xs H2 Q) : tBM K T r to t σ H Q := h
theorem tyl {p : Addr} {xs : List V} {B : Prop} (h : H p = some (.lst xs)) (q : B) : tyV K "list" (.ref p) H ∧ B := ⟨.inl ⟨rfl, xs, .of h⟩, q⟩
theorem app {p : Addr} {xs : List V} {y : V} (h : H p = some (.lst xs)) (hl : xs.length < sizeLine) (q : Q .non (upd H p (.lst (xs ++ [y])))) : rAppend (.ref p) [y] H Q := ⟨p, xs, y, rfl, rfl, h, hl, q⟩
end
end Rd
end L2
namespace L2
open PySem PySem.Spec PyProof.Rows
def emb (ix : List Nat) (σ : St) : St := none :: ix.map fun j => (σ[j]?).join
def cxComp (X : Cx) (sc : Scope) (cl : List (Str × Addr)) (C : Addr) (N : List Str) (s : Shared) (H : Hp) (fp : List Addr) : Cx where
  prog := X.prog
  w := X.w
  K := X.K
  mg := X.mg
  base := X.base
  A := X.A
  N := N
  s₀ := s
  H₀ := H
  env := compEnvC sc cl C X.env
  outer := X.stack
  stack := X.stack
  ex := fp
  fn := fun _ => false
  calm := X.calm
  pn := []
  xe := fun _ _ => False
structure CompScope (X : Cx) (sc : Scope) (x : Str) (zs : List Str) (ix : List Nat) : Prop where
  kind : sc.kind = .function
  nocell : ∀ y ∈ sc.names, y.2 ≠ .cell
  names : ∀ y ∈ sc.names, y.2 = .local → sc.names.lookup y.1 = some .local
  free : ∀ y ∈ sc.names, y.2 = .free → X.env.kindOf y.1 = some .cell ∨ X.env.kindOf y.1 = some .free
  zfree : ∀ z ∈ zs, sc.names.lookup z = some .free
  at_ : ix.map (fun j => X.N[j]?) = zs.map some
theorem lookup_relabel {env : Env} {x : Str} : ∀ {names : List (Str × NameKind)} {k : NameKind},
    (names.map fun (n, k) => if (k == NameKind.free && env.scope.kind == .function && env.kindOf n == some .cell) then (n, NameKind.cell) else (n, k)).lookup x = some k →
    ∃ k', names.lookup x = some k' ∧ (k = k' ∨ (k' = .free ∧ k = .cell))
  | [], _, h => by simp at h
  | (n, j) :: r, k, h => by
    have h' : List.lookup x ((if (j == NameKind.free && env.scope.kind == .function && env.kindOf n == some .cell) = true then (n, NameKind.cell) else (n, j)) :: (r.map fun (n, k) => if (k == NameKind.free && env.scope.kind == .function && env.kindOf n == some .cell) then (n, NameKind.cell) else (n, k))) = some k := h
    cases hx : x == n with
    | true =>
      refine ⟨j, by simp [List.lookup_cons, hx], ?_⟩
      by_cases hc : (j == NameKind.free && env.scope.kind == .function && env.kindOf n == some .cell) = true
      · rw [if_pos hc] at h'
        simp only [List.lookup_cons, hx] at h'
        cases h'
        simp only [Bool.and_eq_true, beq_iff_eq] at hc
        exact .inr ⟨hc.1.1, rfl⟩
      · rw [if_neg hc] at h'
        simp only [List.lookup_cons, hx] at h'
        cases h'
        exact .inl rfl
    | false =>
      have h2 : List.lookup x (r.map fun (n, k) => if (k == NameKind.free && env.scope.kind == .function && env.kindOf n == some .cell) then (n, NameKind.cell) else (n, k)) = some k := by
        by_cases hc : (j == NameKind.free && env.scope.kind == .function && env.kindOf n == some .cell) = true
        · rw [if_pos hc] at h'
          simpa only [List.lookup_cons, hx] using h'
        · rw [if_neg hc] at h'
          simpa only [List.lookup_cons, hx] using h'
      obtain ⟨k', e, q⟩ := lookup_relabel h2
      exact ⟨k', by simp only [List.lookup_cons, hx]; exact e, q⟩
theorem lookup_mem {x : Str} {k : NameKind} : ∀ {names : List (Str × NameKind)}, names.lookup x = some k → (x, k) ∈ names := fun h => PySem.mem_of_lookup h
theorem closure_of (env : Env) : ∀ (names : List (Str × NameKind)) (acc : List (Str × Addr)),
    (∀ y ∈ names, y.2 = .free → ∃ c, env.cells.lookup y.1 = some c) → (∀ y c, acc.lookup y = some c → env.cells.lookup y = some c) →
    ∃ cl : List (Str × Addr), (forIn names acc (fun x (r : List (Str × Addr)) => if x.2 == NameKind.free then (do let a ← cellOf env x.1; pure (ForInStep.yield ((x.1, a) :: r))) else pure (ForInStep.yield r)) : Sem (List (Str × Addr))) = pure cl ∧
      (∀ y c, cl.lookup y = some c → env.cells.lookup y = some c) ∧ (∀ y, (∃ c, acc.lookup y = some c) ∨ (y, NameKind.free) ∈ names → ∃ c, cl.lookup y = some c)
  | [], acc, _, ha => ⟨acc, rfl, ha, fun y h => h.elim id fun z => absurd z (by simp)⟩
  | (n, k) :: r, acc, hf, ha => by
    have hr : ∀ y ∈ r, y.2 = .free → ∃ c, env.cells.lookup y.1 = some c := fun y hy => hf y (List.mem_cons_of_mem _ hy)
    by_cases hk : k = .free
    · subst hk
      obtain ⟨c, hc⟩ := hf (n, .free) List.mem_cons_self rfl
      have ha' : ∀ y c', ((n, c) :: acc).lookup y = some c' → env.cells.lookup y = some c' := fun y c' h => by
        cases hy : y == n with
        | true =>
          simp only [List.lookup_cons, hy] at h
          cases h
          rw [beq_iff_eq.mp hy]
          exact hc
        | false =>
          simp only [List.lookup_cons, hy] at h
          exact ha y c' h
      obtain ⟨cl, e, h1, h2⟩ := closure_of env r ((n, c) :: acc) hr ha'
      refine ⟨cl, ?_, h1, fun y h => h2 y ?_⟩
      · rw [List.forIn_cons]
        have : cellOf env n = pure c := by unfold cellOf; rw [hc]
        simp only [beq_self_eq_true, if_true, this]
        exact e
      · rcases h with ⟨c', h⟩ | h
        · cases hy : y == n with
          | true => exact .inl ⟨c, by simp only [List.lookup_cons, hy]⟩
          | false => exact .inl ⟨c', by simp only [List.lookup_cons, hy]; exact h⟩
        · rcases List.mem_cons.mp h with h | h
          · cases h
            exact .inl ⟨c, by simp⟩
          · exact .inr h
    · obtain ⟨cl, e, h1, h2⟩ := closure_of env r acc hr ha
      refine ⟨cl, ?_, h1, fun y h => h2 y ?_⟩
      · rw [List.forIn_cons]
        have hb : (k == NameKind.free) = false := by simpa using hk
        simp only [hb, Bool.false_eq_true, if_false]
        exact e
      · rcases h with h | h
        · exact .inl h
        · rcases List.mem_cons.mp h with h | h
          · cases h
            exact absurd rfl hk
          · exact .inr h
def PIf (X : Cx) (ifs : List Expr) (t : TT) : Prop :=
  ∀ (pins : List (Addr × Obj)) (s : Shared) (σ : St) (H : Hp) (Q : Bool → Hp → Prop), Inv X pins σ H s → t σ H Q →
    wpAny (model X.prog X.w) X.A (forIn ifs true fun c r => if r = true then do let ok ← isTrue c X.env (eval c X.env); pure (ForInStep.yield ok) else pure (ForInStep.yield r)) (TP X pins σ Q) X.xe s
def tAll : TT := fun _ H Q => Q true H
section
variable {X : Cx}
theorem pif_nil : PIf X [] tAll := fun _ _ _ H _ I h => wpAny_pure ⟨H, I, h⟩
theorem pif_one {c : Expr} {t : TT} (hc : PT X c t) : PIf X [c] t := by
  intro pins s σ H Q I h
  rw [List.forIn_cons]
  simp only [if_true]
  refine wpAny_bind (wpAny_bind (thn (hc pins s σ H _ I h) fun b s1 q => wpAny_pure ?_))
  exact wpAny_pure q
end
section
variable {prog : Program} {w : World} {A : Around} {R : Result → Shared → Prop} {s : Shared}
theorem compLoop_any {elt target iter : Expr} {ifs : List Expr} {scope : Scope} {pos : Pos} {it acc : Value} {env : Env} (I : Nat → Shared → Prop)
    (turn : ∀ n s, I n s → wpAny (model prog w) A (pyNext it) (fun r s₁ => match r with
      | none => R (.ok .next) s₁
      | some v => wpAny (model prog w) A (letOwnedTupleGo target it v) (fun _ s₀ => wpAny (model prog w) A (assign target env v) (fun _ s₂ =>
          wpAny (model prog w) A (forIn ifs true fun c r => if r = true then do let ok ← isTrue c env (eval c env); pure (ForInStep.yield ok) else pure (ForInStep.yield r)) (fun ok s₃ =>
            if ok = true then wpAny (model prog w) A (eval elt env) (fun x s₄ =>
              wpAny (model prog w) A (call (.builtin "list.append") [acc, x]) (fun _ s₅ => ∃ m, m < n ∧ I m s₅) (fun _ _ => False) s₄) (fun _ _ => False) s₃
            else ∃ m, m < n ∧ I m s₃) (fun _ _ => False) s₂) (fun _ _ => False) s₀) (fun _ _ => False) s₁) (fun _ _ => False) s)
    (n : Nat) (h : I n s) :
    codeAny (model prog w) A (.compLoop (.ListComp elt [⟨target, iter, ifs, 0⟩] scope pos) 0 it acc env) R s := by
  refine codeAny_loop rfl I (fun n s hI => ?_) n h
  show wpAny _ A ((compTurn (.ListComp elt [⟨target, iter, ifs, 0⟩] scope pos) 0 it acc env).onRaise (fun x => do noteFrame x env; theTreesLotGoes x)) _ _ s
  refine wpAny_noted ?_
  rw [compTurn_list]
  refine wpAny_bind (wpAny_standAt (wpAny_bind (wpAny_mono (turn n s hI) (fun r s₁ h₁ => ?_) fun _ _ z => z.elim)))
  cases r with
  | none => exact wpAny_pure h₁
  | some v =>
    refine wpAny_bind (wpAny_mono h₁ (fun _ s₀ h₀ => ?_) fun _ _ z => z.elim)
    refine wpAny_bind (wpAny_mono h₀ (fun _ s₂ h₂ => wpAny_bind (wpAny_mono h₂ (fun ok s₃ h₃ => ?_) fun _ _ z => z.elim)) fun _ _ z => z.elim)
    cases ok with
    | false => exact wpAny_pure ⟨rfl, h₃⟩
    | true =>
      exact wpAny_bind (wpAny_bind (wpAny_mono h₃ (fun x s₄ h₄ => wpAny_bind (wpAny_mono h₄ (fun _ s₅ h₅ => wpAny_pure (wpAny_pure ⟨rfl, h₅⟩)) fun _ _ z => z.elim)) fun _ _ z => z.elim))
end
def tComp (ix : List Nat) (wi : TI) (g : TG) (tc : TT) (te : TE) : TE := fun σ H Q => wi σ H fun J H1 => ∀ p, H1 p = none →
  ∃ W : Nat → Nat → List V → St → Hp → Prop, (∃ m, W 0 m [] (emb ix σ) (upd H1 p (.lst []))) ∧ ∀ i m ys σ' H', W i m ys σ' H' →
    (J.stop i H' ∧ Q (.ref p) H') ∨ (J.go i H' ∧ ∀ x H2, J.yld i H' x H2 → g x σ' H2 fun σ2 H3 => tc σ2 H3 fun b H4 =>
      if b = true then te σ2 H4 fun v H5 => H5 p = some (.lst ys) ∧ ys.length < sizeLine ∧ ∃ m', m' < m ∧ W (i + 1) m' (ys ++ [v]) σ2 (upd H5 p (.lst (ys ++ [v])))
      else ∃ m', m' < m ∧ W (i + 1) m' ys σ2 H4)
section
variable {X : Cx}
theorem comp_start {pins : List (Addr × Obj)} {σ : St} {H : Hp} {s : Shared} {sc : Scope} {x : Str} {zs : List Str} {ix : List Nat} {cl : List (Str × Addr)} {fp : List Addr} {h₁ : Heap} {tk : Nat}
    (S : CompScope X sc x zs ix) (I : Inv X pins σ H s) (hcl : ∀ y c, cl.lookup y = some c → X.env.cells.lookup y = some c) (hhas : ∀ y, (y, NameKind.free) ∈ sc.names → ∃ c, cl.lookup y = some c)
    (hfp : ∀ b ∈ fp, FpOk X pins H b ∧ b < s.heap.objs.size) (hns : h₁.Ns s.heap.objs.size fun _ => none) (hk : ∀ b o, s.heap.get? b = some o → h₁.get? b = some o) :
    Inv (cxComp X sc cl s.heap.objs.size (x :: zs) s H fp) [] (emb ix σ) H { s with heap := h₁, toks := tk } := by
  have sub : ∀ b ∈ frs X.stack, b ∈ X.env.locals :: X.fs := I.stkSub
  have nfs : ∀ b ∈ fp, b ∉ frs X.stack := fun b hb z => by
    obtain ⟨⟨_, f1, f2, _⟩, _⟩ := hfp b hb
    rcases List.mem_cons.mp (sub b z) with e | e
    · exact f1 e
    · exact f2 e
  have cut : ∀ y, (cxComp X sc cl s.heap.objs.size (x :: zs) s H fp).env.kindOf y = some .cell ∨ (cxComp X sc cl s.heap.objs.size (x :: zs) s H fp).env.kindOf y = some .free → ∃ c, cl.lookup y = some c := fun y hy => by
    have q : ∃ k, (relabel sc X.env).names.lookup y = some k ∧ (k = .cell ∨ k = .free) := by
      rcases hy with hy | hy
      · exact ⟨_, hy, .inl rfl⟩
      · exact ⟨_, hy, .inr rfl⟩
    obtain ⟨k, e, hk⟩ := q
    obtain ⟨k', e', q⟩ := lookup_relabel e
    have : k' = .free := by
      rcases q with q | ⟨q, _⟩
      · rcases hk with z | z
        · exact absurd (q.symm.trans z) (S.nocell _ (lookup_mem e'))
        · exact q.symm.trans z
      · exact q
    subst this
    exact hhas y (lookup_mem e')
  refine ⟨⟨I.ok.mod, S.kind, I.ok.glob, I.ok.blt, Nat.le_refl _, fun y z c h1 h2 => I.ok.inj y z c (hcl _ _ h1) (hcl _ _ h2), cut, fun y c hf _ => ?_, I.ok.hd, I.ok.frames, .inl rfl, fun b hb => ?_, I.bs, Nat.le_trans I.ok.bsz I.sz, fun b o e hb => ?_, nfs, I.stack, I.stkFree⟩,
    rfl, I.bare, Un.kept hk, ⟨_, hns, fun i y v h1 h2 h3 => ?_⟩, fun y c h => ?_, I.hok.fresh (Nat.le_refl _), fun y c h => I.freeC y c (hcl y c h), fun p hp => absurd (show p ∈ ([] : List (Addr × Obj)) from hp) (by simp), I.hok.kept hk, ?_⟩
  · exact absurd (show false = true from hf) (by decide)
  · obtain ⟨⟨f0, f1, f2, f3, f4, f5⟩, hl⟩ := hfp b hb
    exact ⟨Nat.ne_of_lt hl, fun y c h => f4 y c (hcl y c h)⟩
  · obtain ⟨⟨f0, f1, f2, f3, f4, f5⟩, hl⟩ := hfp b hb
    rcases f3 with z | z
    · exact I.ok.noex b o e z
    · exact absurd (Nat.lt_of_lt_of_le (Heap.lt_size e) (Nat.le_trans I.ok.bsz z)) (Nat.lt_irrefl _)
  ·
    cases i with
    | zero =>
      have : (none : Option (Option V)) = some (some v) ∨ (some none : Option (Option V)) = some (some v) := .inr h2
      rcases this with z | z <;> cases z
    | succ i =>
      have h1' : zs[i]? = some y := h1
      have h2' : (ix.map fun j => (σ[j]?).join)[i]? = some (some v) := h2
      have ha : (ix.map fun j => X.N[j]?)[i]? = some (some y) := by rw [S.at_, List.getElem?_map, h1']; rfl
      rw [List.getElem?_map] at h2' ha
      cases e : ix[i]? with
      | none => rw [e] at h2'; cases h2'
      | some j =>
        rw [e] at h2' ha
        have ha' : X.N[j]? = some y := Option.some.inj ha
        have hj : (σ[j]?).join = some v := Option.some.inj h2'
        have hσ : σ[j]? = some (some v) := by
          cases q : σ[j]? with
          | none => rw [q] at hj; cases hj
          | some o => rw [q] at hj; exact congrArg some hj
        obtain ⟨m, hn, hl⟩ := I.loc
        have hfr := S.zfree y (List.mem_of_getElem? h1')
        have hkind := S.free _ (lookup_mem hfr) rfl
        have hv : Vis X.env.scope y := by
          rcases hkind with z | z
          · exact .inr (.inl z)
          · exact .inr (.inr z)
        obtain ⟨u, r, q⟩ := hl j y v ha' hσ hv
        refine ⟨u, r, ?_⟩
        rcases q with ⟨kl, _⟩ | ⟨_, c, hc, hcell⟩
        · have kl' : X.env.kindOf y = some .local := kl
          rcases hkind with z | z <;> (rw [z] at kl'; cases kl')
        · obtain ⟨c', hc'⟩ := hhas y (lookup_mem hfr)
          have ec : c' = c := by have := hcl y c' hc'; rw [hc] at this; exact (Option.some.inj this).symm
          subst ec
          refine .inr ⟨?_, c', hc', ?_⟩
          · have hvis : Vis (relabel sc X.env) y := h3
            rcases hvis with z | z | z
            · obtain ⟨k', e', q⟩ := lookup_relabel z
              rw [hfr] at e'
              cases e'
              rcases q with q | ⟨_, q⟩ <;> cases q
            · exact .inl z
            · exact .inr z
          · obtain ⟨o, ho, hd⟩ := hcell
            exact ⟨o, hk _ _ ho, hd⟩
  · obtain ⟨v, o, ho, hd⟩ := I.cell y c (hcl y c h)
    exact ⟨v, o, hk _ _ ho, hd⟩
  · show (none :: ix.map fun j => (σ[j]?).join).length = (x :: zs).length
    have := congrArg List.length S.at_
    simp only [List.length_map] at this
    simp only [List.length_cons, List.length_map, this]
def CompEnd (X : Cx) (pins : List (Addr × Obj)) (σ : St) (Q : VK) (acc : Value) (C : Addr) (s' : Shared) : Prop :=
  ∃ p H' m, acc = Value.ref p ∧ s'.heap.Ns C m ∧ Inv X pins σ H' s' ∧ FpOk X pins H' C ∧ Q (.ref p) H'
theorem comp_block {pins : List (Addr × Obj)} {σ : St} {H : Hp} {s : Shared} {sc : Scope} {x : Str} {zs : List Str} {ix : List Nat} {cl : List (Str × Addr)} {fp : List Addr} {it : Addr} {tn : Nat → Heap → Prop} {J : It}
    {elt tg iter : Expr} {ifs : List Expr} {pos : Pos} {g : TG} {tc : TT} {te : TE} {Q : VK} {E : Value → Shared → Prop} {RR : Value → Addr → Result → Shared → Prop}
    (hc : X.calm = true) (S : CompScope X sc x zs ix) (I : Inv X pins σ H s) (hcl : ∀ y c, cl.lookup y = some c → X.env.cells.lookup y = some c) (hhas : ∀ y, (y, NameKind.free) ∈ sc.names → ∃ c, cl.lookup y = some c)
    (T : Turn X.prog X.w X.K tg J fp it tn) (st : tn 0 s.heap) (hfp : ∀ b ∈ fp, FpOk X pins H b)
    (hin : ∀ C s H, PG (cxComp X sc cl C (x :: zs) s H fp) tg g ∧ PIf (cxComp X sc cl C (x :: zs) s H fp) ifs tc ∧ PE (cxComp X sc cl C (x :: zs) s H fp) elt te)
    (hq : ∀ p, H p = none → ∃ W : Nat → Nat → List V → St → Hp → Prop, (∃ m, W 0 m [] (emb ix σ) (upd H p (.lst []))) ∧ ∀ i m ys σ' H', W i m ys σ' H' →
      (J.stop i H' ∧ Q (.ref p) H') ∨ (J.go i H' ∧ ∀ x H2, J.yld i H' x H2 → g x σ' H2 fun σ2 H3 => tc σ2 H3 fun b H4 =>
        if b = true then te σ2 H4 fun v H5 => H5 p = some (.lst ys) ∧ ys.length < sizeLine ∧ ∃ m', m' < m ∧ W (i + 1) m' (ys ++ [v]) σ2 (upd H5 p (.lst (ys ++ [v])))
        else ∃ m', m' < m ∧ W (i + 1) m' ys σ2 H4))
    (hR : ∀ acc C f s', CompEnd X pins σ Q acc C s' → RR acc C (.ok f) s') :
    wpAny (model X.prog X.w) X.A (newList []) (fun acc s₃ => wpAny (model X.prog X.w) X.A (newFunctionEnv sc X.env.globals cl [] X.env.qual none .none (some X.env)) (fun cenv s₄ =>
      codeAny (model X.prog X.w) X.A (.compStart (.ListComp elt [⟨tg, iter, ifs, 0⟩] sc pos) 0 (.ref it) acc { cenv with scope := relabel sc X.env }) (RR acc cenv.locals) s₄) E s₃) E s := by
  refine wpAny_newObj_type (wpAny_newFunctionEnv S.nocell (by intro y hy; simp at hy) (fun h₁ hns₁ hsb₁ => ?_) S.kind)
  have I3 : Inv X pins σ (upd H s.heap.objs.size (.lst [])) { s with heap := s.heap.push { cls := .type "list", dict := none, data := .seq ([] : List Value).toArray } } := I.lnew (its := []) (ys := []) (t' := s.toks) .nil (Nat.zero_le _)
  dsimp only at hns₁ hsb₁ ⊢
  obtain ⟨W, ⟨m0, w0⟩, turn⟩ := hq s.heap.objs.size (I.hok.fresh (Nat.le_refl _))
  have lt : ∀ b ∈ fp, b < s.heap.objs.size := fun b hb => by
    obtain ⟨o, e, _⟩ := T.obj 0 s.heap st b hb
    exact Heap.lt_size e
  have up : ∀ b ∈ fp, ∀ o, (upd H s.heap.objs.size o) b = H b := fun b hb o => upd_ne (Nat.ne_of_lt (lt b hb))
  have kp : ∀ b o, (s.heap.push { cls := .type "list", dict := none, data := .seq ([] : List Value).toArray }).get? b = some o → h₁.get? b = some o := fun b o e =>
    hsb₁.extBut b o (Nat.ne_of_lt (Heap.lt_size e)) (Heap.get?_push_of_some _ e)
  have f3 : ∀ b ∈ fp, FpOk X pins (upd H s.heap.objs.size (.lst [])) b ∧ b < (s.heap.push { cls := .type "list", dict := none, data := .seq ([] : List Value).toArray }).objs.size := fun b hb => by
    obtain ⟨q0, q⟩ := hfp b hb
    refine ⟨⟨(up b hb _).trans q0, q⟩, ?_⟩
    rw [Heap.size_push]
    exact Nat.lt_succ_of_lt (lt b hb)
  generalize hS3 : ({ s with heap := s.heap.push { cls := .type "list", dict := none, data := .seq ([] : List Value).toArray } } : Shared) = s3 at I3
  have hH3 : s.heap.push { cls := .type "list", dict := none, data := .seq ([] : List Value).toArray } = s3.heap := by rw [← hS3]
  rw [hH3] at kp f3 hns₁ ⊢
  have st3 : tn 0 h₁ := T.keep 0 _ _ st fun b _ o e => kp b o (by rw [← hH3]; exact Heap.get?_push_of_some _ e)
  have J0 : Inv (cxComp X sc cl s3.heap.objs.size (x :: zs) s3 (upd H s.heap.objs.size (.lst [])) fp) [] (emb ix σ) (upd H s.heap.objs.size (.lst [])) { s3 with heap := h₁, toks := s3.toks } :=
    comp_start S I3 hcl hhas f3 hns₁ kp
  obtain ⟨hg, hif, he⟩ := hin s3.heap.objs.size s3 (upd H s.heap.objs.size (.lst []))
  have fpo : ∀ {H' : Hp}, (∀ b ∈ fp, H' b = none) → ∀ b ∈ fp, FpOk (cxComp X sc cl s3.heap.objs.size (x :: zs) s3 (upd H s.heap.objs.size (.lst [])) fp) [] H' b := fun {H'} hn b hb =>
    ⟨hn b hb, (J0.ok.exf b hb).1, J0.ok.exfs b hb, .inl hb, (J0.ok.exf b hb).2, fun p hp => absurd (show p ∈ ([] : List (Addr × Obj)) from hp) (by simp)⟩
  have loop : ∀ s4 : Shared, s4 = { s3 with heap := h₁, toks := s3.toks } →
      codeAny (model X.prog X.w) X.A (.compLoop (.ListComp elt [⟨tg, iter, ifs, 0⟩] sc pos) 0 (.ref it) (.ref s.heap.objs.size) (compEnvC sc cl s3.heap.objs.size X.env)) (RR (.ref s.heap.objs.size) s3.heap.objs.size) s4 := by
    rintro s4 rfl
    refine compLoop_any (fun n s' => ∃ i ys σ' H', Inv (cxComp X sc cl s3.heap.objs.size (x :: zs) s3 (upd H s.heap.objs.size (.lst [])) fp) [] σ' H' s' ∧ tn i s'.heap ∧ (∀ b ∈ fp, H' b = none) ∧ W i n ys σ' H') ?_ m0
      ⟨0, [], emb ix σ, _, J0, st3, fun b hb => (f3 b hb).1.1, w0⟩
    rintro n s5 ⟨i, ys, σ5, H5, I5, st5, fr5, w5⟩
    rcases turn i n ys σ5 H5 w5 with ⟨stop, qn⟩ | ⟨go, step⟩
    · refine thn (T.done (cxComp X sc cl s3.heap.objs.size (x :: zs) s3 (upd H s.heap.objs.size (.lst [])) fp) rfl rfl rfl hc i [] s5 σ5 H5 _ I5 (fpo fr5) st5 stop) fun r s6 ⟨hr, I6⟩ => ?_
      subst hr
      obtain ⟨m6, hm6, _⟩ := I6.loc
      refine hR _ _ _ _ ⟨s.heap.objs.size, H5, m6, rfl, hm6, ?_, I3.fpOk (Nat.le_refl _) I6.free, qn⟩
      exact I3.call' I6.os I6.base I6.hok I6.bare fun b hb => by
        obtain ⟨⟨f0, f1, f2, f3, f4, f5⟩, _⟩ := f3 b hb
        exact ⟨f3, f1, f4, f5⟩
    · refine thn (T.item (cxComp X sc cl s3.heap.objs.size (x :: zs) s3 (upd H s.heap.objs.size (.lst [])) fp) rfl rfl rfl hc i [] s5 σ5 H5 _ I5 (fpo fr5) st5 go) fun r s6 ⟨u, hr, h6⟩ => ?_
      subst hr
      refine thn h6 fun _ s7 ⟨x7, H7, I7, r7, y7, st7, fr7⟩ => ?_
      have I7' := I7.pinned (fpo fr7) (T.obj _ _ st7)
      refine thn (hg _ s7 σ5 H7 x7 u _ I7' r7 (step x7 H7 y7)) fun _ s8 ⟨σ8, H8, I8, q8⟩ => ?_
      refine thn (hif _ s8 σ8 H8 _ I8 q8) fun b s9 ⟨H9, I9, q9⟩ => ?_
      have again : ∀ {ys' : List V} {σ' : St} {H' : Hp} {m' : Nat} {s' : Shared}, Inv (cxComp X sc cl s3.heap.objs.size (x :: zs) s3 (upd H s.heap.objs.size (.lst [])) fp) ([] ++ pinsAt fp s7.heap) σ' H' s' → W (i + 1) m' ys' σ' H' → m' < n →
          ∃ m, m < n ∧ ∃ i ys σ' H', Inv (cxComp X sc cl s3.heap.objs.size (x :: zs) s3 (upd H s.heap.objs.size (.lst [])) fp) [] σ' H' s' ∧ tn i s'.heap ∧ (∀ b ∈ fp, H' b = none) ∧ W i m ys σ' H' := fun {ys' σ' H' m' s'} Iz wz hm => by
        refine ⟨m', hm, i + 1, ys', σ', H', Iz.unpinned, T.keep _ _ _ st7 fun b hb o e => (Iz.pin (b, o) (List.mem_append_right _ (List.mem_append_right _ (mem_pinsAt hb e)))).1, fun b hb => ?_, wz⟩
        obtain ⟨o, e, d⟩ := T.obj _ _ st7 b hb
        exact (Iz.pin (b, o) (List.mem_append_right _ (List.mem_append_right _ (mem_pinsAt hb e)))).2.1
      cases b with
      | false =>
        rw [if_neg Bool.false_ne_true] at q9 ⊢
        obtain ⟨m', hm, wz⟩ := q9
        exact again I9 wz hm
      | true =>
        rw [if_pos rfl] at q9 ⊢
        refine thn (he _ s9 σ8 H9 _ I9 q9) fun v s10 ⟨y, H10, I10, r10, hl, hz, m', hm, wz⟩ => ?_
        refine thn (mt_append _ s10 σ8 H10 (.ref s.heap.objs.size) [y] (.ref s.heap.objs.size) [v] (fun z H' => z = .non ∧ H' = upd H10 s.heap.objs.size (.lst (ys ++ [y]))) I10 rfl (.cons r10 .nil) ⟨_, ys, y, rfl, rfl, hl, hz, rfl, rfl⟩) fun _ s11 ⟨z, H11, I11, _, _, e11⟩ => ?_
        subst e11
        exact again I11 wz hm
  exact codeAny_compStart_list (loop _ (by subst hS3; rfl)) (T.self _ 0 _ _ _ st3 (loop _ (by subst hS3; rfl)))
theorem comp_closure {sc : Scope} {x : Str} {zs : List Str} {ix : List Nat} (ok : X.Ok) (S : CompScope X sc x zs ix) :
    ∃ cl, closureFor sc X.env = pure cl ∧ (∀ y c, cl.lookup y = some c → X.env.cells.lookup y = some c) ∧ ∀ y, (y, NameKind.free) ∈ sc.names → ∃ c, cl.lookup y = some c := by
  obtain ⟨cl, e, h1, h2⟩ := closure_of X.env sc.names [] (fun y hy hf => ok.has y.1 (S.free y hy hf)) (fun y c h => by simp at h)
  refine ⟨cl, ?_, h1, fun y hy => h2 y (.inr hy)⟩
  unfold closureFor
  simp only
  rw [e]
  rfl
theorem pe_comp {elt tg iter : Expr} {ifs : List Expr} {sc : Scope} {pos : Pos} {x : Str} {zs : List Str} {ix : List Nat} {wi : TI} {g : TG} {tc : TT} {te : TE}
    (hc : X.calm = true) (S : CompScope X sc x zs ix) (hi : PI X tg iter wi)
    (hin : ∀ cl C s H fp, PG (cxComp X sc cl C (x :: zs) s H fp) tg g ∧ PIf (cxComp X sc cl C (x :: zs) s H fp) ifs tc ∧ PE (cxComp X sc cl C (x :: zs) s H fp) elt te)
    (hs : ∀ x, foldedSetIterable iter X.env x = pure x := by intro _; rfl) :
    PE X (.ListComp elt [⟨tg, iter, ifs, 0⟩] sc pos) (tComp ix wi g tc te) := by
  intro pins s σ H Q I h
  obtain ⟨cl, hclos, hcl, hhas⟩ := comp_closure I.ok S
  rw [eval_ListComp]
  refine wpAny_comprehension_free (use := none) rfl hs hclos S.kind S.names (thn (hi pins s σ H _ I h) fun v s1 h1 => thn h1 fun itv s2 h2 => ?_)
  obtain ⟨it, fp, tn, J, H2, e, I2, T, st2, f2, hq⟩ := h2
  subst e
  refine comp_block (RR := fun acc C => compPost (model X.prog X.w) X.A X.xe none (EP X pins σ Q) acc C) hc S I2 hcl hhas T st2 f2 (fun C s H => hin cl C s H fp) hq fun acc C f s' h => ?_
  obtain ⟨p, H', m, rfl, hm, I', ⟨g0, g1, g2, g3, g4, g5⟩, q⟩ := h
  exact ⟨m, hm, fun h' hb => ⟨.ref p, H', I'.turned (t' := s'.toks) (fun b o hne e => (hb.2 b hne).trans e) g0 g1 g3 g4 g5, rfl, q⟩⟩
end
end L2
namespace L2
open PySem PySem.Spec PyProof.Rows
def CXX (P : Program) (w : World) : CXT := fun outer H s E e s' =>
  ∃ (ea : Addr) (cls a0 : Value) (H' : Hp) (B : Heap), e = .ref ea ∧ s'.os = s.os ∧ AllBare s'.gens ∧ Un (frs outer) [] H H' s.heap s'.heap ∧ HOk P w H' s'.heap ∧
    Heap.FlyingW B outer ea cls a0 s'.heap ∧ (∀ b o, s'.heap.get? b = some o → (H' b ≠ none ∨ ((∃ o', s.heap.get? b = some o') ∧ b ∉ frs outer)) → B.get? b = some o) ∧ E cls none H'
theorem HOk.stays {P : Program} {w : World} {H : Hp} {h h' B : Heap} (ok : HOk P w H h) (hB : ∀ b o, h.get? b = some o → H b ≠ none → B.get? b = some o) (st : B.StaysIn h') : HOk P w H h' := fun a o e =>
  (ok a o e).stay (fun b u hb q => st b u (hB b u q (by
    rcases hb with rfl | hb
    · rw [e]; exact fun z => nomatch z
    · rw [hb]; exact fun z => nomatch z))) (fun _ q => q) fun _ _ q => q
theorem ObjOk.got {P : Program} {w : World} {H : Hp} {h : Heap} {a : Addr} {o : HO} (x : ObjOk P w H h a o) : ∃ ob, h.get? a = some ob := by
  cases o with
  | lst xs => obtain ⟨_, _, _, _, e⟩ := x; exact ⟨_, e⟩
  | tup xs => obtain ⟨_, _, _, p⟩ := x; obtain ⟨ob, e, _⟩ := p; exact ⟨ob, e⟩
  | dK kvs => obtain ⟨_, _, _, _, o, _, _, e, _⟩ := x; exact ⟨o, e⟩
  | dT kvs => obtain ⟨_, _, _, _, o, _, _, e, _⟩ := x; exact ⟨o, e⟩
  | set S n => obtain ⟨o, _, _, _, e, _⟩ := x; exact ⟨o, e⟩
  | ins C dx fs => obtain ⟨_, _, _, e, _⟩ := x; exact ⟨_, e⟩
  | own y => exact x
  | xd fs => obtain ⟨_, ⟨o, _, _, e, _⟩, _⟩ := x; exact ⟨o, e⟩
  | rng lo hi => obtain ⟨_, _, _, e⟩ := x; exact ⟨_, e⟩
  | frz ob u => obtain ⟨e, _⟩ := x; exact ⟨ob, e⟩
  | tbl ps => exact ⟨_, (show h.get? a = some _ from x)⟩
  | met f y => exact ⟨_, (show h.get? a = some _ from x)⟩
  | ext φ => obtain ⟨_, e, _⟩ := x; exact e
theorem Un.fly {fs : List Addr} {H H' : Hp} {h h1 h2 B : Heap} (u : Un fs [] H H' h h1) (hB : ∀ b o, h1.get? b = some o → (H' b ≠ none ∨ ((∃ o', h.get? b = some o') ∧ b ∉ fs)) → B.get? b = some o)
    (st : B.StaysIn h2) (sl : h1.UpToSlots h2) (hf : ∀ b ∈ fs, ∀ o, h.get? b = some o → ∀ vs, o.data ≠ .fields vs) (hfn : ∀ b ∈ fs, H b = none) : Un fs [] H H' h h2 where
  keep := fun b o e n hb hx => st b o (hB b o (u.keep b o e n hb hx) (.inr ⟨⟨_, e⟩, hb⟩))
  slot := fun b o e n hb hx => by
    obtain ⟨s1, e1⟩ := u.slot b o e n hb hx
    obtain ⟨s2, e2⟩ := sl b _ e1 (hf b hb o e)
    exact ⟨s2, e2⟩
  free := u.free
  there := fun b o e hx => by
    by_cases hb : b ∈ fs
    · obtain ⟨s1, e1⟩ := u.slot b o e (hfn b hb) hb hx
      obtain ⟨s2, e2⟩ := sl b _ e1 (hf b hb o e)
      exact ⟨_, e2⟩
    · obtain ⟨o', e1⟩ := u.there b o e hx
      exact ⟨o', st b o' (hB b o' e1 (.inr ⟨⟨_, e⟩, hb⟩))⟩
  tups := u.tups
  frzs := u.frzs
  tbls := u.tbls
section
variable {P : Program} {w : World} {K : PySem.W.Frag} {mg : Str → Option Value} {base : Heap} {N : List Str} {qual : Str} {scope : Scope} {f : Addr} {cd : Value} {A : Around} {outer : List Env} {s₀ : Shared} {H₀ : Hp} {E : XK}
abbrev cxX (P : Program) (w : World) (K : PySem.W.Frag) (mg : Str → Option Value) (base : Heap) (N : List Str) (qual : Str) (scope : Scope) (f : Addr) (cd : Value) (A : Around) (outer : List Env) (s₀ : Shared) (H₀ : Hp) (E : XK) : Cx :=
  cxOf (CXX P w) P w K mg base N qual scope f cd A outer s₀ H₀ E
theorem leave_on {pins : List (Addr × Obj)} {σ : St} {H H' : Hp} {s s' : Shared} {ea : Addr} {cls a0 : Value} {B : Heap} (I : Inv (cxX P w K mg base N qual scope f cd A outer s₀ H₀ E) pins σ H s)
    (os : s'.os = s.os) (bare : AllBare s'.gens) (u : Un (frs (cxX P w K mg base N qual scope f cd A outer s₀ H₀ E).stack) [] H H' s.heap s'.heap) (ok : HOk P w H' s'.heap)
    (fl : Heap.FlyingW B (cxX P w K mg base N qual scope f cd A outer s₀ H₀ E).stack ea cls a0 s'.heap)
    (hB : ∀ b o, s'.heap.get? b = some o → (H' b ≠ none ∨ ((∃ o', s.heap.get? b = some o') ∧ b ∉ frs (cxX P w K mg base N qual scope f cd A outer s₀ H₀ E).stack)) → B.get? b = some o) (q : E cls none H') :
    (cxX P w K mg base N qual scope f cd A outer s₀ H₀ E).xe (.ref ea) s' := by
  have hfr : (A.deeper (envOfC qual scope s₀.heap.objs.size f cd)).frames = some (envOfC qual scope s₀.heap.objs.size f cd :: outer) := I.ok.frames
  refine wpAny_leaves_onW (L := s₀.heap.objs.size) hfr rfl fl fun h2 fl2 sl => ?_
  have below : ∀ b o, s₀.heap.get? b = some o → b ∉ frs outer → (∃ o', s.heap.get? b = some o') ∧ b ∉ frs (cxX P w K mg base N qual scope f cd A outer s₀ H₀ E).stack := fun b o e hn =>
    ⟨I.base.there b o e (by intro z; exact absurd (show b ∈ ([] : List Addr) from z) (by simp)), fun z => by
      rcases List.mem_cons.mp (I.stkSub b z) with q | q
      · have hb := Heap.lt_size e
        have q' : b = s₀.heap.objs.size := q
        rw [q'] at hb
        exact Nat.lt_irrefl _ hb
      · exact hn q⟩
  have u2 : Un (frs outer) [] H₀ H' s₀.heap s'.heap := by
    have b0 : Un (frs outer) [] H₀ H s₀.heap s.heap := I.base
    refine ⟨fun b o e n hb hx => ?_, fun b o e n hb hx => ?_, fun b o e n hx => ?_, fun b o e hx => ?_, fun b xs e => u.tups b xs (b0.tups b xs e), fun b o v e => u.frzs b o v (b0.frzs b o v e), fun b ps e => ?_⟩
    · exact u.keep b o (b0.keep b o e n hb hx) (b0.free b o e n hx) (below b o e hb).2 hx
    · obtain ⟨s1, e1⟩ := b0.slot b o e n hb hx
      obtain ⟨s2, e2⟩ := u.any e1 (b0.free b o e n hx) hx
      exact ⟨s2, e2⟩
    · obtain ⟨o', e1⟩ := b0.there b o e hx
      exact u.free b o' e1 (b0.free b o e n hx) hx
    · obtain ⟨o', e1⟩ := b0.there b o e hx
      exact u.there b o' e1 hx
    · obtain ⟨m1, e1⟩ := b0.tbls b ps e
      obtain ⟨m2, e2⟩ := u.tbls b _ e1
      exact ⟨m1 ++ m2, by rw [e2, Array.append_assoc]⟩
  have hB2 : ∀ b o, s'.heap.get? b = some o → (H' b ≠ none ∨ ((∃ o', s₀.heap.get? b = some o') ∧ b ∉ frs outer)) → B.get? b = some o := fun b o e h => hB b o e (h.imp id fun ⟨⟨o', z⟩, hn⟩ => below b o' z hn)
  have ok2 : HOk P w H' h2 := ok.stays (fun b o e n => hB b o e (.inl n)) fl2.1
  refine ⟨ea, cls, a0, H', B, rfl, os.trans I.os, bare, u2.fly hB2 fl2.1 sl (fun b hb o e => ?_) (I.ok.frf), ok2, fl2, fun b o e h => ?_, q⟩
  · obtain ⟨_, o', e', d⟩ := I.ok.funs.mem hb
    have e'' : s₀.heap.get? b = some o' := e'
    rw [e] at e''
    cases e''
    exact d
  · have ex : ∃ o', s'.heap.get? b = some o' := by
      rcases h with h | ⟨h, hn⟩
      · cases q2 : H' b with
        | none => exact absurd q2 h
        | some v => exact (ok b v q2).got
      · obtain ⟨o5, q5⟩ := h
        exact u2.there b o5 q5 (by simp)
    obtain ⟨o', e'⟩ := ex
    have e2 := hB2 b o' e' h
    have e3 := fl2.1 b o' e2
    have e4 : h2.get? b = some o := e
    rw [e3] at e4
    cases e4
    exact e2
theorem pass_on : Passes (CXX P w) (cxX P w K mg base N qual scope f cd A outer s₀ H₀ E) E := by
  intro pins σ H s e s' I h
  obtain ⟨ea, cls, a0, H', B, rfl, os, bare, u, ok, fl, hB, q⟩ := h
  exact leave_on I os bare u ok fl hB q
def tRaise (cls : Value) (E : XK) (t : TA) : TS := fun _ σ H => t σ H fun vs H1 => vs.length ≤ sizeLine ∧ E cls none H1
theorem raise_end {pins : List (Addr × Obj)} {σ : St} {H : Hp} {s : Shared} {h' : Heap} {ea : Addr} {cls : Value} {us : List Value} (I : Inv (cxX P w K mg base N qual scope f cd A outer s₀ H₀ E) pins σ H s)
    (hx : Heap.MadeExcOf s.heap h' ea cls us) (q : E cls none H) : (cxX P w K mg base N qual scope f cd A outer s₀ H₀ E).xe (.ref ea) { s with heap := h' } := by
  have hfr : (A.deeper (envOfC qual scope s₀.heap.objs.size f cd)).frames = some (envOfC qual scope s₀.heap.objs.size f cd :: outer) := I.ok.frames
  have hin : ∀ env ∈ (cxX P w K mg base N qual scope f cd A outer s₀ H₀ E).stack, ∀ b, env.frame = some b → b ∈ frs (cxX P w K mg base N qual scope f cd A outer s₀ H₀ E).stack := fun env he b hb => List.mem_filterMap.mpr ⟨env, he, hb⟩
  have inB : ∀ b o, s.heap.get? b = some o → (H b ≠ none ∨ ((∃ o', s₀.heap.get? b = some o') ∧ b ∉ frs outer)) → (PySem.W.hideAll s.heap (frs (cxX P w K mg base N qual scope f cd A outer s₀ H₀ E).stack)).get? b = some o := fun b o e h =>
    PySem.W.hideAll_get _ e fun z => by
      rcases h with h | ⟨⟨o', e'⟩, hn⟩
      · exact h (I.stkFree b z)
      · rcases List.mem_cons.mp (I.stkSub b z) with q | q
        · have hb := Heap.lt_size e'
          have q' : b = s₀.heap.objs.size := q
          rw [q'] at hb
          exact Nat.lt_irrefl _ hb
        · exact hn q
  refine wpAny_leaves_madeW (base := PySem.W.hideAll s.heap (frs (cxX P w K mg base N qual scope f cd A outer s₀ H₀ E).stack)) (h := s.heap) (L := s₀.heap.objs.size) hfr rfl (fun b o e => PySem.W.of_hideAll _ e) (PySem.W.funFrames_hide I.stack hin) hx fun h3 t fl _ _ sl => ?_
  have sl' : s.heap.UpToSlots h3 := (Heap.UpToSlots.of_keeps hx.keeps).trans sl
  have b0 : Un (frs outer) [] H₀ H s₀.heap s.heap := I.base
  have ok3 : HOk P w H h3 := I.hok.stays (fun b o e n => inB b o e (.inl n)) fl.1
  refine ⟨ea, cls, _, H, _, rfl, I.os, I.bare, b0.fly inB fl.1 sl' (fun b hb o e => ?_) I.ok.frf, ok3, fl, fun b o e h => ?_, q⟩
  · obtain ⟨_, o', e', d⟩ := I.ok.funs.mem hb
    have e'' : s₀.heap.get? b = some o' := e'
    rw [e] at e''
    cases e''
    exact d
  · have ex : ∃ o', s.heap.get? b = some o' := by
      rcases h with h | ⟨⟨o5, q5⟩, _⟩
      · cases q2 : H b with
        | none => exact absurd q2 h
        | some v => exact (I.hok b v q2).got
      · exact b0.there b o5 q5 (by simp)
    obtain ⟨o', e'⟩ := ex
    have e2 := inB b o' e' h
    have e3 := fl.1 b o' e2
    have e4 : h3.get? b = some o := e
    rw [e3] at e4
    cases e4
    exact e2
theorem ps_raise {x : Str} {np cpos pos : Pos} {e₀ : Expr} {rest : List Expr} {t : TA} {C : Addr} {B newId initId : String} {bm : List Value} (O : OwnCls x C bm newId mg base) (FB : ExcBaseFacts B newId initId bm)
    (hg : Gl (cxX P w K mg base N qual scope f cd A outer s₀ H₀ E) x) (ha : PA (cxX P w K mg base N qual scope f cd A outer s₀ H₀ E) (e₀ :: rest) t)
    (he : starEach (e₀ :: rest) (cxX P w K mg base N qual scope f cd A outer s₀ H₀ E).env = (false, eval e₀ (cxX P w K mg base N qual scope f cd A outer s₀ H₀ E).env) :: starEach rest (cxX P w K mg base N qual scope f cd A outer s₀ H₀ E).env := by rfl)
    (hplain : (backTo cpos (starEach rest (cxX P w K mg base N qual scope f cd A outer s₀ H₀ E).env)).any (·.1) = false := by rfl) (hdb : (x == ("__debug__" : Str)) = false := by decide) :
    PS (cxX P w K mg base N qual scope f cd A outer s₀ H₀ E) (.Raise (some (.Call (.Name x np) (e₀ :: rest) [] cpos)) none pos) (tRaise (.ref C) E t) := by
  intro pins s σ H D I h
  obtain ⟨tl, N', nm, q, bs, hdct, sn, sub, ab, col, dd, k0, k1, k2, k3, k5, mN, hC, hN, hni, T⟩ := O.obj
  refine wpAny_Raise_call_subT (C := C) (nm := nm) (q := q) (N := N') (bs := bs) (bm := tl) (hdct := hdct) (sn := sn) (sub := sub) (ab := ab) (col := col) (dd := dd) (k0 := k0) (k1 := k1) (k2 := k2) (k3 := k3) (k5 := k5)
    FB (mN := mN) (T.hasType FB.hasBase) (I.ok.hd rfl) (by rw [he]; show (false || (backTo cpos (starEach rest (cxX P w K mg base N qual scope f cd A outer s₀ H₀ E).env)).any (·.1)) = false; rw [hplain]; rfl) hni (ld_glob I hg O.bound ⟨rfl, ?_⟩ hdb)
  have h' := ha cpos pins s σ H _ I h
  rw [he] at h' ⊢
  refine Calls.evalArgs_plain (thn h' fun us s2 ⟨vs, H2, I2, r, hz, q2⟩ => ⟨rfl, by rw [← r.length]; exact hz, I2.bk _ _ hC, hN.keeps I2.bk, T.keeps I2.bk, fun h3 e hm => raise_end I2 hm q2⟩)
end
end L2
namespace L2
open PySem PySem.Spec PyProof.Rows
mutual
inductive DRel (K : PySem.W.Frag) (H : Hp) : V → PyData → Prop
  | non : DRel K H .non .none
  | bl (b : Bool) : DRel K H (.bl b) (.bool b)
  | int (i : Int) : DRel K H (.int i) (.int i)
  | str (x : Str) : DRel K H (.str x) (.str x)
  | lst {a : Addr} {xs : List V} {ds : List PyData} (h : SqL K H a xs) (r : DRels K H xs ds) : DRel K H (.ref a) (.list ds)
  | tup {a : Addr} {xs : List V} {ds : List PyData} (h : SqT K H a xs) (r : DRels K H xs ds) : DRel K H (.ref a) (.tuple ds)
inductive DRels (K : PySem.W.Frag) (H : Hp) : List V → List PyData → Prop
  | nil : DRels K H [] []
  | cons {x : V} {d : PyData} {xs : List V} {ds : List PyData} (h : DRel K H x d) (r : DRels K H xs ds) : DRels K H (x :: xs) (d :: ds)
end
theorem DRels.ints {K : PySem.W.Frag} {H : Hp} : ∀ ns : List Int, DRels K H (ns.map V.int) (ns.map PyData.int)
  | [] => .nil
  | n :: ns => .cons (.int n) (DRels.ints ns)
section
variable {X : Cx} {pins : List (Addr × Obj)} {σ : St} {H : Hp} {s : Shared}
mutual
theorem DRel.reads (I : Inv X pins σ H s) : ∀ {x : V} {d : PyData} {v : Value}, DRel X.K H x d → RelV x v → ∃ as, Reads s.heap v d as
  | _, _, _, .non, r => by cases (show _ = Value.none from r); exact ⟨_, .none⟩
  | _, _, _, .bl b, r => by cases (show _ = Value.bool b from r); exact ⟨_, .bool b⟩
  | _, _, _, .int i, r => by obtain ⟨t, e⟩ := r; cases e; exact ⟨_, .int i t⟩
  | _, _, _, .str x, r => by obtain ⟨t, e⟩ := r; cases e; exact ⟨_, .str x t⟩
  | _, _, _, .lst (a := a) h rs, r => by
    cases (show _ = Value.ref a from r)
    obtain ⟨its, rv, p, hz⟩ := I.list h
    obtain ⟨o, ho, hc, n, hd⟩ := p.isList
    obtain ⟨as, q⟩ := DRels.reads I rs rv
    exact ⟨_, .list ho hc hd (by simpa using q)⟩
  | _, _, _, .tup (a := a) h rs, r => by
    cases (show _ = Value.ref a from r)
    obtain ⟨its, rv, p, hz⟩ := I.tuple h
    obtain ⟨o, ho, hc, n, hd⟩ := (show s.heap.IsTuple a its.toArray from p)
    obtain ⟨as, q⟩ := DRels.reads I rs rv
    exact ⟨_, .tuple ho hc hd (by simpa using q)⟩
theorem DRels.reads (I : Inv X pins σ H s) : ∀ {xs : List V} {ds : List PyData} {vs : List Value}, DRels X.K H xs ds → Vals xs vs → ∃ as, ReadsAll s.heap vs ds as
  | _, _, _, .nil, .nil => ⟨_, .nil⟩
  | _, _, _, .cons h r, .cons q t => by
    obtain ⟨as, e⟩ := DRel.reads I h q
    obtain ⟨bs, e'⟩ := DRels.reads I r t
    exact ⟨_, .cons e e'⟩
end
end
def rEqD (K : PySem.W.Frag) (neg : Bool) : R2 := fun x y H Q => ∃ dx dy, DRel K H x dx ∧ DRel K H y dy ∧ dx.canLay0 = true ∧ dy.canLay0 = true ∧ dx.depth ≤ 60 ∧ Q (.bl (if neg then !PyData.eqv dx dy else PyData.eqv dx dy)) H
section
variable {X : Cx}
theorem op_eqD (hu : X.A.units + 64 < cLine) : OpR X (compareOp .Eq) (rEqD X.K false) := by
  intro pins s σ H x y v u Q I rx ry h
  obtain ⟨dx, dy, h1, h2, c1, c2, dp, q⟩ := h
  obtain ⟨as, r1⟩ := h1.reads I rx
  obtain ⟨bs, r2⟩ := h2.reads I ry
  exact SeqAt.compareEq_reads r1 r2 c1 c2 (by have : min dx.depth dy.depth ≤ dx.depth := Nat.min_le_left _ _; omega) ⟨.bl _, H, I, rfl, q⟩
theorem op_neD (hu : X.A.units + 64 < cLine) : OpR X (compareOp .NotEq) (rEqD X.K true) := by
  intro pins s σ H x y v u Q I rx ry h
  obtain ⟨dx, dy, h1, h2, c1, c2, dp, q⟩ := h
  obtain ⟨as, r1⟩ := h1.reads I rx
  obtain ⟨bs, r2⟩ := h2.reads I ry
  exact SeqAt.compareNe_reads r1 r2 c1 c2 (by have : min dx.depth dy.depth ≤ dx.depth := Nat.min_le_left _ _; omega) ⟨.bl _, H, I, rfl, q⟩
end
end L2
namespace L2
open PySem PySem.Spec PyProof.Rows
section
variable {prog : Program} {w : World} {A : Around} {E : Value → Shared → Prop}
variable {s : Shared}
end
section
variable {X : Cx} {pos : Pos}
end
end L2
namespace L2
open PySem PySem.Spec PyProof.Rows
section
variable {P : Program} {w : World} {K : PySem.W.Frag} {mg : Str → Option Value} {base : Heap}
theorem Fun.okX {x qual : Str} {st : Stmt} {f : Addr} {fd : FuncData} {N ps : List Str} {k : Nat} {sp : Sp} (F : Fun K x qual st f fd) (S : FnScope N ps (defScope st)) (len : ∀ vs H Q E, sp vs H Q E → vs.length = ps.length)
    (hbody : ∀ (cdv : Value) (A : Around) (outer : List Env) (s : Shared) (H : Hp) (vs : List V) (Q : VK) (E : XK), Room k (A.deeper (envOfC qual (defScope st) s.heap.objs.size f cdv)) → sp vs H Q E →
      ∃ t, PSs (cxX P w K mg base N qual (defScope st) f cdv A outer s H E) (defBody st) t ∧ t { nx := fun _ H' => Q .non H', rt := Q } (start N vs) H) : FnOk P w K mg base (CXX P w) (k + 1) f fd ps sp := by
  obtain ⟨oc, od, kV, doc, pm, an, cdv, ct, osl, rfl, lk, hcd⟩ := F.ex
  exact fn_of lk hcd S len fun A outer s H vs Q E hr hsp => hbody cdv A outer s H vs Q E hr hsp
theorem passX0 {X : Cx} : Passes (CXX X.prog X.w) X E0 := by
  intro pins σ H s e s' I h
  obtain ⟨ea, cls, a0, H', B, _, _, _, _, _, _, _, z⟩ := h
  exact z.elim
end
section
variable {X : Cx}
def rOr (r r' : R2) : R2 := fun x y H Q => r x y H Q ∨ r' x y H Q
def rAddS : R2 := fun x y H Q => ∃ i j, x = .str i ∧ y = .str j ∧ i.length + j.length ≤ sizeLine ∧ Q (.str (i ++ j)) H
def rAddI : R2 := rI0 fun i j => .int (i + j)
def rMulI : R2 := rI (fun i j => IntMulOk i j) fun i j => .int (i * j)
theorem op_addU : OpR X (binaryOp .Add) (rOr rAddI (rOr rAddS (rOr rCat (rCatT X.K)))) := op_add.or (op_add_str.or (op_cat.or op_catT))
theorem op_mulU : OpR X (binaryOp .Mult) (rOr rMulI rRep) := op_mulG.or op_rep
theorem op_eqU (hu : X.A.units + 64 < cLine) : OpR X (compareOp .Eq) (rOr rEq (rEqD X.K false)) := op_eq.or (op_eqD hu)
theorem op_neU (hu : X.A.units + 64 < cLine) : OpR X (compareOp .NotEq) (rOr rNe (rEqD X.K true)) := op_ne.or (op_neD hu)
end
namespace Rd
section
variable {σ : St} {H : Hp} {Q : VK} {D : Ends} {K : PySem.W.Frag} {r' : R2}
theorem addI {i j : Int} (q : Q (.int (i + j)) H) : rOr rAddI r' (.int i) (.int j) H Q := .inl ⟨i, j, rfl, rfl, q⟩
theorem addS {r1 : R2} {i j : Str} (hl : i.length + j.length ≤ sizeLine) (q : Q (.str (i ++ j)) H) : rOr r1 (rOr rAddS r') (.str i) (.str j) H Q := .inr (.inl ⟨i, j, rfl, rfl, hl, q⟩)
theorem mulI {i j : Int} (c : IntMulOk i j) (q : Q (.int (i * j)) H) : rOr rMulI r' (.int i) (.int j) H Q := .inl ⟨i, j, rfl, rfl, c, q⟩
theorem eqUI {i j : Int} (q : Q (.bl (decide (i = j))) H) : rOr rEq r' (.int i) (.int j) H Q := .inl (eqI q)
theorem neUI {i j : Int} (q : Q (.bl (!decide (i = j))) H) : rOr rNe r' (.int i) (.int j) H Q := .inl (neI q)
theorem eqUD {x y : V} {dx dy : PyData} (hx : DRel K H x dx) (hy : DRel K H y dy) (cx : dx.canLay0 = true) (cy : dy.canLay0 = true) (dp : dx.depth ≤ 60) (q : Q (.bl (PyData.eqv dx dy)) H) : rOr rEq (rEqD K false) x y H Q :=
  .inr ⟨dx, dy, hx, hy, cx, cy, dp, q⟩
theorem neUD {x y : V} {dx dy : PyData} (hx : DRel K H x dx) (hy : DRel K H y dy) (cx : dx.canLay0 = true) (cy : dy.canLay0 = true) (dp : dx.depth ≤ 60) (q : Q (.bl (!PyData.eqv dx dy)) H) : rOr rNe (rEqD K true) x y H Q :=
  .inr ⟨dx, dy, hx, hy, cx, cy, dp, q⟩
theorem ixuL {p : Addr} {xs : List V} {i : Int} {v : V} (h : SqL K H p xs) (e : atI xs i = some v) (q : Q v H) : rIx K (.ref p) (.int i) H Q := .inl (ixl h e q)
theorem ixuT {p : Addr} {xs : List V} {i : Int} {v : V} (h : SqT K H p xs) (e : atI xs i = some v) (q : Q v H) : rIx K (.ref p) (.int i) H Q := .inr (.inl (ixt h e q))
theorem lenL {C : Nat → Prop} {p : Addr} {xs : List V} (h : SqL K H p xs) (q : C xs.length) : ∃ x n, [V.ref p] = [x] ∧ LenV K x H n ∧ C n := ⟨_, _, rfl, .inl ⟨xs, h, rfl⟩, q⟩
theorem lenT' {C : Nat → Prop} {p : Addr} {xs : List V} (h : SqT K H p xs) (q : C xs.length) : ∃ x n, [V.ref p] = [x] ∧ LenV K x H n ∧ C n := ⟨_, _, rfl, .inr ⟨xs, h, rfl⟩, q⟩
theorem lenS {C : Nat → Prop} {y : Str} (h : y.length ≤ sizeLine) (q : C y.length) : ∃ x n, [V.str y] = [x] ∧ LenV K x H n ∧ C n := ⟨_, _, rfl, ⟨h, rfl⟩, q⟩
theorem nameS {i : Nat} {v : V} {σ' : St} {Q : St → Hp → Prop} (e : σ.set i (some v) = σ') (h : Q σ' H) : gName i v σ H Q := by
  subst e
  exact h
theorem ifP {c A B : Prop} [Decidable c] (h : c) (a : A) : if decide c = true then A else B := by rw [decide_eq_true h]; exact iteT a
theorem ifN {c A B : Prop} [Decidable c] (h : ¬ c) (b : B) : if decide c = true then A else B := by rw [decide_eq_false h]; exact iteF b
theorem ifNP {c A B : Prop} [Decidable c] (h : c) (b : B) : if (!decide c) = true then A else B := by rw [decide_eq_true h]; exact iteF b
theorem truB {b : Bool} {C : Bool → Prop} (q : C b) : ∃ k, TruV K (.bl b) H k ∧ C k := ⟨b, rfl, q⟩
end
end Rd
end L2
namespace L2
open PySem PySem.Spec PyProof.Rows
namespace Rd
section
variable {H : Hp} {C : Bool → Prop} {K : PySem.W.Frag}
theorem is_int_int {i : Int} (q : C true) : ∃ x n' t b, [V.int i, .ty "int"] = [x, .ty n'] ∧ TyOf K H x t ∧ PySem.W.kitOne K t (.type n') = some b ∧ C b := ⟨_, _, _, true, rfl, .int i, rfl, q⟩
theorem is_int_bool {i : Int} (q : C false) : ∃ x n' t b, [V.int i, .ty "bool"] = [x, .ty n'] ∧ TyOf K H x t ∧ PySem.W.kitOne K t (.type n') = some b ∧ C b := ⟨_, _, _, false, rfl, .int i, rfl, q⟩
theorem is_str_str {i : Str} (q : C true) : ∃ x n' t b, [V.str i, .ty "str"] = [x, .ty n'] ∧ TyOf K H x t ∧ PySem.W.kitOne K t (.type n') = some b ∧ C b := ⟨_, _, _, true, rfl, .str i, rfl, q⟩
theorem is_lst_list {p : Addr} {xs : List V} (h : H p = some (.lst xs)) (q : C true) : ∃ x n' t b, [V.ref p, .ty "list"] = [x, .ty n'] ∧ TyOf K H x t ∧ PySem.W.kitOne K t (.type n') = some b ∧ C b := ⟨_, _, _, true, rfl, .lst h, rfl, q⟩
end
end Rd
end L2
namespace L2
open PySem PySem.Spec PyProof.Rows
def chkComp (scX sc : Scope) (N zs : List Str) (ix : List Nat) : Bool :=
  decide (sc.kind = .function) && (sc.names.all fun y => decide (y.2 ≠ .cell)) && (sc.names.all fun y => decide (y.2 = .local → sc.names.lookup y.1 = some .local)) &&
  (sc.names.all fun y => decide (y.2 = .free → scX.names.lookup y.1 = some .cell ∨ scX.names.lookup y.1 = some .free)) && (zs.all fun z => decide (sc.names.lookup z = some .free)) && decide (ix.map (fun j => N[j]?) = zs.map some)
theorem cscope {X : Cx} {sc : Scope} {x : Str} {zs : List Str} {ix : List Nat} (scX : Scope) (N : List Str) (e1 : X.env.scope = scX) (e2 : X.N = N) (h : chkComp scX sc N zs ix = true) : CompScope X sc x zs ix := by
  unfold chkComp at h
  simp only [Bool.and_eq_true, List.all_eq_true, decide_eq_true_eq] at h
  obtain ⟨⟨⟨⟨⟨h1, h2⟩, h3⟩, h4⟩, h5⟩, h6⟩ := h
  subst e1 e2
  exact ⟨h1, h2, h3, h4, h5, h6⟩
end L2
namespace L2
open PySem PySem.Spec PyProof.Rows
section
variable {X : Cx} {CX : CXT} {k : Nat} {f C : Addr} {fd : FuncData} {ps : List Str} {sp : Sp} {dvs : List V} {ds : List Value} {E : XK} {J : St → Prop} {x m : Str} {p pos apos : Pos} {e o : Expr} {es : List Expr} {ta : TE} {t : TA}
end
end L2
namespace L2
open PySem PySem.Spec PyProof.Rows
section
variable {K : PySem.W.Frag} {H : Hp}
theorem DRel.ints {p : Addr} {ns : List Int} (h : SqL K H p (ns.map V.int)) : DRel K H (.ref p) (.list (ns.map PyData.int)) := .lst h (DRels.ints ns)
namespace Rd
variable {Q : VK}
end Rd
end
end L2
namespace L2
open PySem PySem.Spec PyProof.Rows
structure Walks (J : It) (n : Nat) (f : Nat → V) (H : Hp) : Prop where
  go : ∀ H' i, Same H H' → i < n → J.go i H'
  yld : ∀ H' i x H2, Same H H' → i < n → J.yld i H' x H2 → H2 = H' ∧ x = f i
  stop : ∀ H', Same H H' → J.stop n H'
theorem walks_rng {lo : Int} {n : Nat} {H : Hp} : Walks (Itr lo n) n (fun i => .int (lo + i)) H := ⟨fun _ _ _ h => h, fun _ _ _ _ _ _ h => h, fun _ _ => Nat.le_refl _⟩
theorem walks_lst {K : PySem.W.Frag} {a : Addr} {xs : List V} {H : Hp} (h : SqL K H a xs) : Walks (Itl K a) xs.length (fun i => xs.getD i .non) H :=
  ⟨fun H' i e hi => ⟨xs, xs[i], e.seq h, by simp [hi]⟩, fun H' i x H2 e hi y => ⟨y.1, by
    have := y.2 xs (e.seq h)
    simp [List.getD, this]⟩, fun H' e => ⟨xs, e.seq h, Nat.le_refl _⟩⟩
theorem walks_tup {K : PySem.W.Frag} {a : Addr} {xs : List V} {H : Hp} (h : SqT K H a xs) : Walks (Itt K a) xs.length (fun i => xs.getD i .non) H :=
  ⟨fun H' i e hi => ⟨xs, xs[i], e.seqT h, by simp [hi]⟩, fun H' i x H2 e hi y => ⟨y.1, by
    have := y.2 xs (e.seqT h)
    simp [List.getD, this]⟩, fun H' e => ⟨xs, e.seqT h, Nat.le_refl _⟩⟩
theorem for_walk {J : It} {n : Nat} {f : Nat → V} {H0 : Hp} (w : Walks J n f H0) {g : TG} {tb : TS} {D : Ends} {σ : St} {H : Hp} (Pv : Nat → St → Hp → Prop) (h0 : Pv 0 σ H) (hk : ∀ i σ H, Pv i σ H → Same H0 H)
    (hs : ∀ i σ H, i < n → Pv i σ H → g (f i) σ H fun σ2 H2 => tb { D with nx := Pv (i + 1), ct := Pv (i + 1), bk := D.nx } σ2 H2) (hd : ∀ σ H, Pv n σ H → D.nx σ H) :
    ∃ W : Nat → Nat → St → Hp → Prop, (∃ m, W 0 m σ H) ∧ ∀ i m σ H, W i m σ H →
      (J.stop i H ∧ D.nx σ H) ∨ (J.go i H ∧ ∃ N : St → Hp → Prop, (∀ σ' H', N σ' H' → ∃ m', m' < m ∧ W (i + 1) m' σ' H') ∧ ∀ x H', J.yld i H x H' → g x σ H' fun σ2 H2 => tb { D with nx := N, ct := N, bk := D.nx } σ2 H2) := by
  refine ⟨fun i m σ H => m = n - i ∧ i ≤ n ∧ Pv i σ H, ⟨n, by simp, Nat.zero_le _, h0⟩, ?_⟩
  rintro i m σ H ⟨rfl, hi, p⟩
  have sm := hk i σ H p
  by_cases hlt : i < n
  · refine .inr ⟨w.go H i sm hlt, Pv (i + 1), fun σ' H' p' => ⟨n - (i + 1), by omega, rfl, hlt, p'⟩, fun x H' y => ?_⟩
    obtain ⟨rfl, rfl⟩ := w.yld H i x H' sm hlt y
    exact hs i σ _ hlt p
  · have e : i = n := by omega
    subst e
    exact .inl ⟨w.stop H sm, hd σ H p⟩
theorem comp_walk {ix : List Nat} {tc : TT} {te : TE} {Q : Addr → Hp → Prop} {σ : St} {H : Hp} {J : It} {n : Nat} {f : Nat → V} (w : Walks J n f H) (hn : n < sizeLine) (c : Nat → Bool) (r : Nat → V)
    (hc : ∀ i H' (Kc : Bool → Hp → Prop), i < n → Same H H' → (∀ H4, Same H' H4 → Kc (c i) H4) → tc (some (f i) :: ix.map fun j => (σ[j]?).join) H' Kc)
    (he : ∀ i H' (Kc : VK), i < n → c i = true → Same H H' → (∀ H5, Same H' H5 → Kc (r i) H5) → te (some (f i) :: ix.map fun j => (σ[j]?).join) H' Kc)
    (q : ∀ p H', H p = none → Same H H' → H' p = some (.lst (((List.range n).filter c).map r)) → Q p H') :
    ∀ p, H p = none → ∃ W : Nat → Nat → List V → St → Hp → Prop, (∃ m, W 0 m [] (emb ix σ) (upd H p (.lst []))) ∧ ∀ i m ys σ' H', W i m ys σ' H' →
      (J.stop i H' ∧ Q p H') ∨ (J.go i H' ∧ ∀ x H2, J.yld i H' x H2 → gName 0 x σ' H2 fun σ2 H3 => tc σ2 H3 fun b H4 =>
        if b = true then te σ2 H4 fun v H5 => H5 p = some (.lst ys) ∧ ys.length < sizeLine ∧ ∃ m', m' < m ∧ W (i + 1) m' (ys ++ [v]) σ2 (upd H5 p (.lst (ys ++ [v])))
        else ∃ m', m' < m ∧ W (i + 1) m' ys σ2 H4) := by
  intro p hp
  refine ⟨fun i m ys σ' H' => m = n - i ∧ i ≤ n ∧ (∃ a, σ' = a :: ix.map fun j => (σ[j]?).join) ∧ Same H H' ∧ H' p = some (.lst ys) ∧ ys = ((List.range i).filter c).map r,
    ⟨n, by simp, Nat.zero_le _, ⟨none, rfl⟩, same_new hp, upd_same, rfl⟩, ?_⟩
  rintro i m ys σ' H' ⟨rfl, hi, ⟨a, rfl⟩, sm, hy, hl⟩
  by_cases hlt : i < n
  · refine .inr ⟨w.go H' i sm hlt, fun x H2 y => ?_⟩
    obtain ⟨rfl, rfl⟩ := w.yld H' i x H2 sm hlt y
    show tc ((a :: ix.map fun j => (σ[j]?).join).set 0 (some (f i))) H2 _
    have hlen : ys.length ≤ i := by
      rw [hl, List.length_map]
      exact Nat.le_trans (List.length_filter_le _ _) (by simp)
    refine hc i H2 _ hlt sm fun H4 s4 => ?_
    have sm4 := sm.trans s4
    have hy4 := s4 _ _ hy
    have step : (List.range (i + 1)).filter c = (List.range i).filter c ++ (if c i = true then [i] else []) := by
      rw [List.range_succ, List.filter_append]
      congr 1
      by_cases h : c i = true <;> simp [h]
    by_cases hci : c i = true
    · rw [hci, if_pos rfl]
      refine he i H4 _ hlt hci sm4 fun H5 s5 => ⟨s5 _ _ hy4, by omega, n - (i + 1), by omega, rfl, hlt, ⟨_, rfl⟩, (sm4.trans s5).new hp, upd_same, ?_⟩
      rw [step, if_pos hci, List.map_append, hl]
      rfl
    · have hcf : c i = false := by simpa using hci
      rw [hcf, if_neg Bool.false_ne_true]
      refine ⟨n - (i + 1), by omega, rfl, hlt, ⟨_, rfl⟩, sm4, hy4, ?_⟩
      rw [step, if_neg hci, List.append_nil, hl]
  · have e : i = n := by omega
    subst e
    exact .inl ⟨w.stop H' sm, q p H' hp sm (by rw [← hl]; exact hy)⟩
end L2
namespace L2
open PySem PySem.Spec PyProof.Rows
structure Frame (A : List Addr) (H H' : Hp) : Prop where
  keep : ∀ b o, H b = some o → b ∉ A → H' b = some o
  tups : ∀ b xs, H b = some (.tup xs) → H' b = some (.tup xs)
theorem Same.frame {A : List Addr} {H H' : Hp} (e : Same H H') : Frame A H H' := ⟨fun b o h _ => e b o h, fun b xs h => e b _ h⟩
theorem Frame.refl {A : List Addr} {H : Hp} : Frame A H H := (Same.refl H).frame
theorem Frame.trans {A : List Addr} {H H1 H2 : Hp} (a : Frame A H H1) (b : Frame A H1 H2) : Frame A H H2 := ⟨fun c o h n => b.keep c o (a.keep c o h n) n, fun c xs h => b.tups c xs (a.tups c xs h)⟩
theorem Frame.mono {A B : List Addr} {H H' : Hp} (a : Frame A H H') (h : ∀ x ∈ A, x ∈ B) : Frame B H H' := ⟨fun c o e n => a.keep c o e fun z => n (h c z), a.tups⟩
theorem frame_upd {A : List Addr} {H : Hp} {p : Addr} {o o' : HO} (hp : p ∈ A) (h : H p = some o) (ht : ∀ xs, o ≠ .tup xs) : Frame A H (upd H p o') := by
  refine ⟨fun b u e n => ?_, fun b xs e => ?_⟩
  · have z : b ≠ p := fun z => n (by rw [z]; exact hp)
    rw [upd_ne z]
    exact e
  · have z : b ≠ p := fun z => ht xs (by rw [z, h] at e; exact Option.some.inj e)
    rw [upd_ne z]
    exact e
def Grows (A A' : List Addr) (H : Hp) : Prop := ∀ a ∈ A', a ∈ A ∨ H a = none
theorem Grows.refl {A : List Addr} {H : Hp} : Grows A A H := fun _ h => .inl h
section
variable {K : PySem.W.Frag} {H H' : Hp} {A A' : List Addr}
namespace Rd
variable {Q : VK}
end Rd
end
end L2
namespace L2
open PySem PySem.Spec PyProof.Rows
def Its (x : Str) : It := ⟨fun i _ => i < x.cps.size, fun i H v H' => H' = H ∧ ∃ c, x.cps[i]? = some c ∧ v = .str ⟨#[c]⟩, fun i _ => x.cps.size ≤ i⟩
theorem turn_str {P : Program} {w : World} {K : PySem.W.Frag} {tg : Expr} (it : Addr) (x : Str) (t : Tok) (ty : String) (hty : ty = "str_ascii_iterator" ∨ ty = "str_iterator") : Turn P w K tg (Its x) [it] it (fun i h => h.IsStrIter it ty x t i) where
  mem := by simp
  obj := fun i h st b hb => by
    have e : b = it := by simpa using hb
    subst e
    obtain ⟨o, e, c, d⟩ := st
    exact ⟨o, e, fun v z => by rw [d] at z; cases z⟩
  keep := fun i h h' st k => let ⟨o, ho, r⟩ := st; ⟨o, k it (by simp) o ho, r⟩
  item := by
    intro X hP hw hK hc i pins s σ H E I hf st hg
    subst hP hw hK
    obtain ⟨f0, f1, f2, f3, f4, f5⟩ := hf it (by simp)
    have hi : i < x.cps.size := hg
    have fin : ∀ h' : Heap, h'.IsStrIter it ty x t (i + 1) → Heap.SameBut it s.heap h' → ∃ u, some (Value.str ⟨#[x.cps[i]]⟩ s.toks) = some u ∧
        wpAny (model X.prog X.w) X.A (letOwnedTupleGo tg (.ref it) u) (fun _ s2 => ∃ y H', Inv X pins σ H' s2 ∧ RelV y u ∧ (Its x).yld i H y H' ∧ s2.heap.IsStrIter it ty x t (i + 1) ∧ ∀ b ∈ [it], H' b = none) E { s with heap := h', toks := s.toks + 1 } := fun h' st' sb => by
      have I1 : Inv X pins σ H { s with heap := h', toks := s.toks + 1 } := I.turned (t' := s.toks + 1) (fun b o hb e => (sb.2 b hb).trans e) f0 f1 f3 f4 f5
      obtain ⟨o, e, c, d⟩ := id st'
      refine ⟨_, rfl, go_of (s := { s with heap := h', toks := s.toks + 1 }) e c d (by rcases hty with rfl | rfl <;> decide) ⟨.str ⟨#[x.cps[i]]⟩, H, I1, ⟨_, rfl⟩, ⟨rfl, x.cps[i], by simp [hi], rfl⟩, st', fun b hb => (hf b hb).1⟩⟩
    rcases hty with rfl | rfl
    · exact wpAny_pyNext_ascii_item st (c := x.cps[i]) (by simp [hi]) fin
    · exact wpAny_pyNext_wide_item st (c := x.cps[i]) (by simp [hi]) fin
  done := by
    intro X hP hw hK hc i pins s σ H E I hf st hg
    subst hP hw hK
    obtain ⟨f0, f1, f2, f3, f4, f5⟩ := hf it (by simp)
    have hi : x.cps.size ≤ i := hg
    rcases hty with rfl | rfl
    · exact wpAny_pyNext_ascii_end (I.ok.hd hc) st (by simp [hi]) fun h' eb => ⟨rfl, I.turned (t' := s.toks) (fun b o hb e => eb b o hb e) f0 f1 f3 f4 f5⟩
    · exact wpAny_pyNext_wide_end (I.ok.hd hc) st (by simp [hi]) fun h' eb => ⟨rfl, I.turned (t' := s.toks) (fun b o hb e => eb b o hb e) f0 f1 f3 f4 f5⟩
  self := fun _ _ _ _ _ st h => by
    rcases hty with rfl | rfl
    · exact wpAny_pyIter_striter_ascii st h
    · exact wpAny_pyIter_striter_wide st h
section
variable {X : Cx} {tg : Expr}
def iStr (tl : TE) : TI := fun σ H R => tl σ H fun x H1 => ∃ y, x = .str y ∧ R (Its y) H1
theorem pi_str {l : Expr} {tl : TE} (hl : PE X l tl) : PI X tg l (iStr tl) := by
  intro pins s σ H R I h
  refine thn (hl pins s σ H _ I h) fun v s1 ⟨x, H1, I1, r1, q1⟩ => ?_
  obtain ⟨y, e, q⟩ := q1
  subst e
  obtain ⟨t, rfl⟩ := r1
  have fin : ∀ ty : String, (ty = "str_ascii_iterator" ∨ ty = "str_iterator") → PIE X pins σ tg R (.ref s1.heap.objs.size) { s1 with heap := s1.heap.push { cls := .type ty, data := .fields #[.str y t, .int 0 0] } } := fun ty hty => by
    refine ⟨s1.heap.objs.size, [s1.heap.objs.size], _, _, H1, rfl, I1.kept (t' := s1.toks) fun b o e => Heap.get?_push_of_some _ e, turn_str _ y t ty hty, ⟨_, Heap.get?_push_size _ rfl, rfl, rfl⟩, fun b hb => ?_, q⟩
    have e : b = s1.heap.objs.size := by simpa using hb
    subst e
    exact I1.fpOk (Nat.le_refl _) (I1.hok.fresh (Nat.le_refl _))
  cases ha : y.cps.all (· < 128)
  · exact wpAny_pyIter_wide ha (fin _ (.inr rfl))
  · exact wpAny_pyIter_ascii ha (fin _ (.inl rfl))
theorem walks_str {x : Str} {H : Hp} : Walks (Its x) x.cps.size (fun i => .str ⟨#[x.cps.getD i 0]⟩) H :=
  ⟨fun _ _ _ h => h, fun H' i v H2 _ hi ⟨e, c, hc, hv⟩ => ⟨e, by rw [hv]; simp [Array.getD, hi] at hc ⊢; exact hc.symm⟩, fun _ _ => Nat.le_refl _⟩
def rLeS : R2 := fun x y H Q => ∃ i j, x = .str i ∧ y = .str j ∧ Q (.bl (!decide (j.cps.toList < i.cps.toList))) H
theorem op_le_str : OpR X (compareOp .LtE) rLeS := by
  intro pins s σ H x y v u Q I rx ry h
  obtain ⟨i, j, rfl, rfl, q⟩ := h
  obtain ⟨t, rfl⟩ := rx
  obtain ⟨t', rfl⟩ := ry
  exact PySem.P.le_str ⟨.bl _, H, I, rfl, q⟩
theorem vals_bools {s : Shared} : ∀ {bs : List Bool} {us : List Value}, Vals (bs.map V.bl) us → us = bs.map Value.bool
  | [], _, r => by cases r; rfl
  | b :: bs, _, r => by
    cases r with
    | cons r1 r2 =>
      have e : _ = Value.bool b := r1
      rw [e, vals_bools (s := s) r2]
      rfl
theorem kept_it {s : Shared} {h' : Heap} {o : Obj} (hk : ∀ b x, b ∉ [s.heap.objs.size] → (s.heap.push o).get? b = some x → h'.get? b = some x) : ∀ b x, s.heap.get? b = some x → h'.get? b = some x :=
  fun b x e => hk b x (fun hm => by rw [List.mem_singleton.mp hm] at e; exact Nat.lt_irrefl _ (Heap.lt_size e)) (Heap.get?_push_of_some _ e)
theorem range_all' (bs : List Bool) : ((List.range bs.length).all fun i => (bs[i]?).getD true) = bs.all id := by
  rw [Bool.eq_iff_iff, List.all_eq_true, List.all_eq_true]
  constructor
  · intro h b hb
    obtain ⟨i, hi, rfl⟩ := List.getElem_of_mem hb
    have := h i (List.mem_range.mpr hi)
    simpa [List.getElem?_eq_getElem hi] using this
  · intro h i hi
    have hi' := List.mem_range.mp hi
    simp only [List.getElem?_eq_getElem hi', Option.getD_some]
    exact h _ (List.getElem_mem hi')
theorem call_allB (hc : X.calm = true) : CallR X (.builtin "all") (fun xs H Q => ∃ (p : Addr) (bs : List Bool), xs = [.ref p] ∧ SqL X.K H p (bs.map V.bl) ∧ Q (.bl (bs.all id)) H) := by
  intro pins s σ H xs us Q I r h
  obtain ⟨p, bs, rfl, hq, q⟩ := h
  obtain ⟨u, rfl, rx⟩ := vals1 r
  cases rx
  obtain ⟨its, rv, pl, hz⟩ := I.list hq
  have ev := vals_bools (s := s) rv
  subst ev
  have hl := pl.isList
  have hlt : p < s.heap.objs.size := by obtain ⟨_, e, _⟩ := hl; exact Heap.lt_size e
  refine call_all_walk (wpAny_pyIter_list hl ?_)
  refine ⟨s.heap.objs.size, [s.heap.objs.size, p], [s.heap.objs.size], (bs.map Value.bool).toArray.size, _, _, fun i => (bs[i]?).getD true, rfl, PySem.Walks.list (A := X.A.in1) (I.ok.hd hc) _ p (Nat.ne_of_lt hlt) (bs.map Value.bool).toArray,
    ⟨⟨_, Heap.get?_push_size _ rfl, rfl, rfl⟩, hl.push _⟩, fun i v s' Q' E' hP hQ => ?_, fun h' tk hk => ?_⟩
  · have hP' : (bs.map Value.bool)[i]? = some v := by simpa using hP
    rw [List.getElem?_map] at hP'
    cases e : bs[i]? with
    | none => rw [e] at hP'; cases hP'
    | some b =>
      rw [e] at hP'
      cases hP'
      have hQ' : Q' ((bs[i]?).getD true) s' := hQ
      rw [e] at hQ'
      exact wpAny_truthy_bool hQ'
  · have e : ((List.range (bs.map Value.bool).toArray.size).all fun i => (bs[i]?).getD true) = bs.all id := by
      rw [List.size_toArray, List.length_map]; exact range_all' bs
    rw [e]
    exact ⟨.bl (bs.all id), H, I.kept (kept_it hk), rfl, q⟩
theorem call_sumI (hc : X.calm = true) : CallR X (.builtin "sum") (fun xs H Q => ∃ (p : Addr) (ns : List Int), xs = [.ref p] ∧ SqL X.K H p (ns.map V.int) ∧ Q (.int ns.sum) H) := by
  intro pins s σ H xs us Q I r h
  obtain ⟨p, ns, rfl, hq, q⟩ := h
  obtain ⟨u, rfl, rx⟩ := vals1 r
  cases rx
  obtain ⟨its, rv, pl, hz⟩ := I.list hq
  have hi := intsAre_of rv
  obtain ⟨xs, hx⟩ := hi.allInts.items
  have hl' : s.heap.IsList p (intItems xs) := hx ▸ pl.isList
  refine sum_intListG (I.ok.hd hc) hl' fun h' tk t' hk => ?_
  have e1 : ns = xs.toList.map (·.1) := by
    rw [← nums_intItems, ← hx]
    exact (show numsOf its.toArray.toList = ns from hi.numsOf).symm
  have e2 : preSum (numAt xs) xs.size = ns.sum := by
    rw [preSum_eq, List.take_of_length_le (by simp), e1]
  rw [e2]
  exact ⟨.int ns.sum, H, I.kept hk, ⟨_, rfl⟩, q⟩
end
end L2
namespace L2
open PySem PySem.Spec PyProof.Rows
structure FunD (K : PySem.W.Frag) (x qual : Str) (st : Stmt) (dT : Addr) (f : Addr) (fd : FuncData) : Prop where
  ex : ∃ (oc : Value) (od : Option Addr) (kV doc pm : Value) (an : Option Addr) (cdv ct : Value) (osl : Array (Option Value)),
    fd = PySem.W.fnOf x qual (defArgs st) (defBody st) (defScope st) (.ref dT) kV doc pm an cdv ct ∧ K.lookup f = some ⟨oc, od, .func fd, osl⟩ ∧ PySem.W.codeIn K cdv qual = true
  kp : PySem.W.keepIn K (.ref f) = true
section
variable {P : Program} {w : World} {K : PySem.W.Frag} {mg : Str → Option Value} {base : Heap}
theorem FunD.okX {x qual : Str} {st : Stmt} {dT f : Addr} {fd : FuncData} {N ps : List Str} {k : Nat} {sp : Sp} (F : FunD K x qual st dT f fd) (S : FnScope N ps (defScope st)) (len : ∀ vs H Q E, sp vs H Q E → vs.length = ps.length)
    (hbody : ∀ (cdv : Value) (A : Around) (outer : List Env) (s : Shared) (H : Hp) (vs : List V) (Q : VK) (E : XK), Room k (A.deeper (envOfC qual (defScope st) s.heap.objs.size f cdv)) → sp vs H Q E →
      ∃ t, PSs (cxX P w K mg base N qual (defScope st) f cdv A outer s H E) (defBody st) t ∧ t { nx := fun _ H' => Q .non H', rt := Q } (start N vs) H) : FnOk P w K mg base (CXX P w) (k + 1) f fd ps sp := by
  obtain ⟨oc, od, kV, doc, pm, an, cdv, ct, osl, rfl, lk, hcd⟩ := F.ex
  exact fn_of lk hcd S len fun A outer s H vs Q E hr hsp => hbody cdv A outer s H vs Q E hr hsp
theorem funD_mk {x qual : Str} {st : Stmt} {dT f : Addr} {oc : Value} {od an : Option Addr} {osl : Array (Option Value)} {kV doc pm cdv ct : Value} (l : K.lookup f = some ⟨oc, od, .func (PySem.W.fnOf x qual (defArgs st) (defBody st) (defScope st) (.ref dT) kV doc pm an cdv ct), osl⟩)
    (c : PySem.W.codeIn K cdv qual = true) (k : PySem.W.keepIn K (.ref f) = true) : FunD K x qual st dT f (PySem.W.fnOf x qual (defArgs st) (defBody st) (defScope st) (.ref dT) kV doc pm an cdv ct) := ⟨⟨oc, od, kV, doc, pm, an, cdv, ct, osl, rfl, l, c⟩, k⟩
theorem own_of {h₀ : Heap} {x : Str} {C : Addr} {bmB : List Value} {newId : String} (X : K.In h₀) (g : h₀.Ns mainGlobals mg) (e : PySem.W.nsIn K mainGlobals x = some (some (.ref C))) (q : PySem.W.excIn K C bmB newId = true) : OwnCls x C bmB newId mg h₀ := by
  refine ⟨PySem.W.mg_of X g e, ?_⟩
  unfold PySem.W.excIn at q
  split at q
  · rename_i dd cd sl ho
    split at q
    · rename_i C' bm k0 k1 k2 k3 n k5 hm hs
      simp only [Bool.and_eq_true, beq_iff_eq, Bool.not_eq_true'] at q
      obtain ⟨⟨⟨⟨⟨rfl, rfl⟩, hdel⟩, ht⟩, hok⟩, hni⟩ := q
      obtain ⟨nm, bs, mro, ns, qn, hd, sn, sub, ab, col, del⟩ := cd
      dsimp only at hm hdel hok hni
      subst hm hdel
      have hsl : sl = #[k0, k1, k2, k3, some (.builtin n), k5] := by
        obtain ⟨l⟩ := sl
        simp only at hs
        rw [hs]
      subst hsl
      exact ⟨bm, ns, nm, qn, bs, hd, sn, sub, ab, col, dd, k0, k1, k2, k3, k5, _, X _ _ ho, .of_isNs (PySem.W.isNs_of_in X hok), PySem.W.nsMap_none_of_in X hok hni, PySem.W.tail_of_in X ht⟩
    · cases q
  · cases q
section
variable {N : List Str} {qual : Str} {scope : Scope} {f : Addr} {cd : Value} {A : Around} {outer : List Env} {s₀ : Shared} {H₀ : Hp} {E : XK}
theorem ps_raiseK {x : Str} {np cpos pos : Pos} {e₀ : Expr} {rest : List Expr} {t : TA} {C : Addr} {B newId initId : String} {bm : List Value} (e : PySem.W.nsIn K mainGlobals x = some (some (.ref C))) (q : PySem.W.excIn K C bm newId = true) (FB : ExcBaseFacts B newId initId bm)
    (hg : Gl (cxX P w K mg base N qual scope f cd A outer s₀ H₀ E) x) (ha : PA (cxX P w K mg base N qual scope f cd A outer s₀ H₀ E) (e₀ :: rest) t)
    (he : starEach (e₀ :: rest) (cxX P w K mg base N qual scope f cd A outer s₀ H₀ E).env = (false, eval e₀ (cxX P w K mg base N qual scope f cd A outer s₀ H₀ E).env) :: starEach rest (cxX P w K mg base N qual scope f cd A outer s₀ H₀ E).env := by rfl)
    (hplain : (backTo cpos (starEach rest (cxX P w K mg base N qual scope f cd A outer s₀ H₀ E).env)).any (·.1) = false := by rfl) (hdb : (x == ("__debug__" : Str)) = false := by decide) :
    PS (cxX P w K mg base N qual scope f cd A outer s₀ H₀ E) (.Raise (some (.Call (.Name x np) (e₀ :: rest) [] cpos)) none pos) (tRaise (.ref C) E t) := by
  intro pins s σ H D I h
  exact ps_raise (own_of I.ok.mod.kin I.ok.mod.glob e q) FB hg ha he hplain hdb pins s σ H D I h
end
end
section
variable {X : Cx}
def rSlS : V → Option Int → Option Int → Hp → VK → Prop := fun x lo hi H Q => ∃ z, x = .str z ∧ z.length ≤ sizeLine ∧ Q (.str (Txt.slice z lo hi)) H
theorem sl_str : SlR X rSlS := by
  intro pins s σ H x v vl vu lo hi sl Q I rx hs pl pu h
  obtain ⟨z, rfl, hz, q⟩ := h
  obtain ⟨t, rfl⟩ := rx
  refine ⟨"str", _, F.slot_str_getitem.lookup, typeIs_str _ _ _, ?_⟩
  have fin : ∀ l u : Option (Int × Tok), l.map (·.1) = lo → u.map (·.1) = hi → partValue l = vl → partValue u = vu → wpAny (model X.prog X.w) X.A (getItem (.str z t) (.ref sl)) (EP X pins σ Q) X.xe s := fun l u e1 e2 e3 e4 => by
    obtain ⟨o, ho, hc, hd⟩ := hs
    subst e1 e2 e3 e4
    exact wpAny_getItem_str_slice (l := l) (u := u) (st := none) ⟨o, ho, hc, hd⟩ rfl (post_val_or_str ⟨Nat.le_trans (Txt.slice_le z _ _) hz, fun t' k => ⟨.str _, H, I.tok k, ⟨_, rfl⟩, q⟩⟩)
  cases pl with
  | none =>
    cases pu with
    | none => exact fin none none rfl rfl rfl rfl
    | int j t' => exact fin none (some (j, t')) rfl rfl rfl rfl
  | int i ti =>
    cases pu with
    | none => exact fin (some (i, ti)) none rfl rfl rfl rfl
    | int j t' => exact fin (some (i, ti)) (some (j, t')) rfl rfl rfl rfl
def rSlU (K : PySem.W.Frag) : V → Option Int → Option Int → Hp → VK → Prop := fun x lo hi H Q => rSlL K x lo hi H Q ∨ (rSlT K x lo hi H Q ∨ rSlS x lo hi H Q)
theorem sl_U : SlR X (rSlU X.K) := sl_list.or (sl_tup.or sl_str)
end
structure NoAttrs (K : PySem.W.Frag) (C : Addr) (fs : List Str) : Prop where
  out : ∀ f ∈ fs, NoAttr K C f
theorem NoAttrs.get {K : PySem.W.Frag} {C : Addr} {fs : List Str} {f : Str} (h : NoAttrs K C fs) (m : fs.contains f = true) : NoAttr K C f := h.out f (by simpa using m)
namespace Rd
section
variable {σ : St} {H : Hp} {Q : VK} {D : Ends} {K : PySem.W.Frag}
theorem slL {a : Addr} {xs : List V} {lo hi : Option Int} (h : SqL K H a xs) (q : ∀ p, H p = none → Q (.ref p) (upd H p (.lst (cutV xs lo hi)))) : rSlU K (.ref a) lo hi H Q := .inl ⟨a, xs, rfl, h, q⟩
theorem sl {r : V → Option Int → Option Int → Hp → VK → Prop} {te : TE} {tl th : TO} (h : te σ H fun x H1 => tl σ H1 fun l H2 => th σ H2 fun u H3 => r x l u H3 Q) : tSl r te tl th σ H Q := h
theorem noPart {Q : Option Int → Hp → Prop} (h : Q none H) : tNoPart σ H Q := h
theorem part {te : TE} {Q : Option Int → Hp → Prop} (h : te σ H fun x H1 => ∃ i, x = .int i ∧ Q (some i) H1) : tPart te σ H Q := h
theorem partI {i : Int} {C : Int → Prop} (h : C i) : ∃ j, V.int i = .int j ∧ C j := ⟨i, rfl, h⟩
theorem fldE {ta : TE} {f : Str} (h : ta σ H fun x H1 => ∃ a C dx fs v, x = .ref a ∧ H1 a = some (.ins C dx fs) ∧ Cls K C ∧ NoAttr K C f ∧ fs.lookup f = some v ∧ Q v H1) : tFld K ta f σ H Q := h
theorem fld {a C dx : Addr} {fs : List (Str × V)} {f : Str} {v : V} {G : V → Prop} (h : H a = some (.ins C dx fs)) (c : Cls K C) (n : NoAttr K C f) (l : fs.lookup f = some v) (q : G v) :
    ∃ a' C dx fs v, V.ref a = .ref a' ∧ H a' = some (.ins C dx fs) ∧ Cls K C ∧ NoAttr K C f ∧ fs.lookup f = some v ∧ G v := ⟨a, C, dx, fs, v, rfl, h, c, n, l, q⟩
theorem methE {C : Addr} {m : Str} {sp : Sp} {dvs : List V} {E : XK} {ta : TE} {t : TA} (h : ta σ H fun x H1 => ∃ a dx fs, x = .ref a ∧ H1 a = some (.ins C dx fs) ∧ fs.lookup m = none ∧ t σ H1 fun vs H2 => sp (x :: (vs ++ dvs)) H2 Q E) : tMeth C m sp dvs E ta t σ H Q := h
theorem meth {a C dx : Addr} {fs : List (Str × V)} {m : Str} {G : Prop} (h : H a = some (.ins C dx fs)) (l : fs.lookup m = none) (q : G) : ∃ a' dx fs, V.ref a = .ref a' ∧ H a' = some (.ins C dx fs) ∧ fs.lookup m = none ∧ G := ⟨a, dx, fs, rfl, h, l, q⟩
theorem makeE {C : Addr} {sp : Sp} {dvs : List V} {E : XK} {t : TA} (h : t σ H fun vs H1 => ∀ x dx, H1 x = none → H1 dx = none → dx ≠ x →
    sp (.ref x :: (vs ++ dvs)) (upd (upd H1 dx (.own x)) x (.ins C dx [])) (fun v H2 => v = .non ∧ Q (.ref x) H2) E) : tMake C sp dvs E t σ H Q := h
theorem sfld {ta tv : TE} {f : Str} (h : tv σ H fun y H1 => ta σ H1 fun x H2 => ∃ a C dx fs, x = .ref a ∧ H2 a = some (.ins C dx fs) ∧ Cls K C ∧ NoAttr K C f ∧ fs.length < 1000 ∧ D.nx σ (upd H2 a (.ins C dx (putF f y fs)))) : sFld K ta tv f D σ H := h
theorem sfld3 {a C dx : Addr} {fs fs' : List (Str × V)} {f : Str} {y : V} (h : H a = some (.ins C dx fs)) (c : Cls K C) (n : NoAttr K C f) (l : fs.length < 1000) (e : putF f y fs = fs') (q : D.nx σ (upd H a (.ins C dx fs'))) :
    ∃ a' C dx fs, V.ref a = .ref a' ∧ H a' = some (.ins C dx fs) ∧ Cls K C ∧ NoAttr K C f ∧ fs.length < 1000 ∧ D.nx σ (upd H a' (.ins C dx (putF f y fs))) := ⟨a, C, dx, fs, rfl, h, c, n, l, by rw [e]; exact q⟩
theorem raise {cls : Value} {E : XK} {t : TA} (h : t σ H fun vs H1 => vs.length ≤ sizeLine ∧ E cls none H1) : tRaise cls E t D σ H := h
theorem raise2 {v : V} {G : Prop} (q : G) : [v].length ≤ sizeLine ∧ G := ⟨by show 1 ≤ sizeLine; decide, q⟩
theorem ilist {te : TE} {R : It → Hp → Prop} (h : te σ H fun x H1 => ∃ a, x = .ref a ∧ (∃ xs, SqL K H1 a xs) ∧ R (Itl K a) H1) : iList K te σ H R := h
theorem istr {te : TE} {R : It → Hp → Prop} (h : te σ H fun x H1 => ∃ y, x = .str y ∧ R (Its y) H1) : iStr te σ H R := h
theorem istr2 {y : Str} {G : Str → Prop} (h : G y) : ∃ z, V.str y = .str z ∧ G z := ⟨y, rfl, h⟩
theorem compE {ix : List Nat} {wi : TI} {g : TG} {tc : TT} {te : TE} (h : wi σ H fun J H1 => ∀ p, H1 p = none →
  ∃ W : Nat → Nat → List V → St → Hp → Prop, (∃ m, W 0 m [] (emb ix σ) (upd H1 p (.lst []))) ∧ ∀ i m ys σ' H', W i m ys σ' H' →
    (J.stop i H' ∧ Q (.ref p) H') ∨ (J.go i H' ∧ ∀ x H2, J.yld i H' x H2 → g x σ' H2 fun σ2 H3 => tc σ2 H3 fun b H4 =>
      if b = true then te σ2 H4 fun v H5 => H5 p = some (.lst ys) ∧ ys.length < sizeLine ∧ ∃ m', m' < m ∧ W (i + 1) m' (ys ++ [v]) σ2 (upd H5 p (.lst (ys ++ [v])))
      else ∃ m', m' < m ∧ W (i + 1) m' ys σ2 H4)) : tComp ix wi g tc te σ H Q := h
theorem all_ {Q : Bool → Hp → Prop} (h : Q true H) : tAll σ H Q := h
theorem lk0 {f : Str} {v : V} {r : List (Str × V)} : ((f, v) :: r).lookup f = some v := by simp
theorem lk1 {f g : Str} {v : V} {o : Option V} {r : List (Str × V)} (n : (f == g) = false) (h : r.lookup f = o) : ((g, v) :: r).lookup f = o := by rw [List.lookup_cons, n]; exact h
theorem lkN {f : Str} : ([] : List (Str × V)).lookup f = none := rfl
theorem pf0 {f : Str} {v x : V} {r : List (Str × V)} : putF f v ((f, x) :: r) = (f, v) :: r := by simp [putF]
theorem pf1 {f g : Str} {v x : V} {r r' : List (Str × V)} (n : (g == f) = false) (h : putF f v r = r') : putF f v ((g, x) :: r) = (g, x) :: r' := by
  have : ¬ g = f := by simpa using n
  simp [putF, this, h]
theorem pfN {f : Str} {v : V} : putF f v [] = [(f, v)] := rfl
end
end Rd
end L2
namespace L2
open PySem PySem.Spec PyProof.Rows
namespace Rd
section
variable {H : Hp} {Q : VK} {K : PySem.W.Frag}
theorem ifD {c A B : Prop} [Decidable c] (a : c → A) (b : ¬ c → B) : if decide c = true then A else B := by
  by_cases h : c
  · exact ifP h (a h)
  · exact ifN h (b h)
theorem allB {p : Addr} {bs : List Bool} {G : List Bool → Prop} (h : SqL K H p (bs.map V.bl)) (q : G bs) : ∃ (p' : Addr) (bs' : List Bool), [V.ref p] = [.ref p'] ∧ SqL K H p' (bs'.map V.bl) ∧ G bs' := ⟨p, bs, rfl, h, q⟩
theorem leS {x y : Str} (q : Q (.bl (!decide (y.cps.toList < x.cps.toList))) H) : rLeS (.str x) (.str y) H Q := ⟨x, y, rfl, rfl, q⟩
theorem chain {σ : St} {r r' : R2} {ta tb tc : TE} (h : ta σ H fun x H1 => tb σ H1 fun y H2 => r x y H2 fun z H3 => ∃ k, z = .bl k ∧ (if k = true then tc σ H3 fun w' H4 => r' y w' H4 Q else Q (.bl false) H3)) : tChain r r' ta tb tc σ H Q := h
end
end Rd
end L2
namespace L2
open PySem PySem.Spec PyProof.Rows
theorem Grows.off {A A' : List Addr} {H : Hp} {q : Addr} (g : Grows A A' H) (n : q ∉ A) (h : H q ≠ none) : q ∉ A' := fun z => (g q z).elim n h
namespace Rd
section
variable {H : Hp} {Q : VK} {K : PySem.W.Frag}
theorem ixuS {z : Str} {i : Int} {c : Nat} (h : z.length ≤ sizeLine) (e : atI z.cps.toList i = some c) (q : Q (.str ⟨#[c]⟩) H) : rIx K (.str z) (.int i) H Q := .inr (.inr ⟨z, i, c, rfl, rfl, h, e, q⟩)
theorem ilist2 {a : Addr} {xs : List V} {G : Addr → Prop} (h : SqL K H a xs) (q : G a) : ∃ a', V.ref a = .ref a' ∧ (∃ xs, SqL K H a' xs) ∧ G a' := ⟨a, rfl, ⟨xs, h⟩, q⟩
theorem rng1' {j : Int} {G : Int → Prop} (h1 : -(2 ^ 62) ≤ j) (h2 : j < 2 ^ 62) (q : G j) : ∃ k, [V.int j] = [.int k] ∧ -(2 ^ 62) ≤ k ∧ k < 2 ^ 62 ∧ G k := ⟨j, rfl, h1, h2, q⟩
theorem min2 {i j : Int} {G : Int → Int → Prop} (q : G i j) : ∃ i' j', [V.int i, .int j] = [.int i', .int j'] ∧ G i' j' := ⟨i, j, rfl, q⟩
end
end Rd
end L2
namespace L2
open PySem PySem.Spec PyProof.Rows
def hid (H : Hp) (r : Addr) : Hp := fun b => if b = r then none else H b
theorem hid_self {H : Hp} {r : Addr} : hid H r r = none := by unfold hid; rw [if_pos rfl]
theorem hid_ne {H : Hp} {r b : Addr} (h : b ≠ r) : hid H r b = H b := by unfold hid; rw [if_neg h]
theorem hid_same {H : Hp} {r : Addr} : Same (hid H r) H := fun b o e => by
  by_cases h : b = r
  · rw [h, hid_self] at e; cases e
  · rw [hid_ne h] at e; exact e
end L2
namespace L2
open PySem PySem.Spec PyProof.Rows
theorem lay_ints : ∀ ns : List Int, PyData.canLayAll0 (ns.map PyData.int) = true
  | [] => by simp [PyData.canLayAll0]
  | n :: ns => by
    have := lay_ints ns
    simp [PyData.canLayAll0, PyData.canLay0] at this ⊢
    exact this
theorem layL_ints (ns : List Int) : (PyData.list (ns.map PyData.int)).canLay0 = true := by
  have := lay_ints ns
  simp [PyData.canLay0]
  simpa using this
theorem depth_ints : ∀ ns : List Int, PyData.depthAll (ns.map PyData.int) ≤ 1
  | [] => by simp [PyData.depthAll]
  | n :: ns => by
    have := depth_ints ns
    simp [PyData.depthAll, PyData.depth] at this ⊢
    exact this
theorem depthL_ints (ns : List Int) : (PyData.list (ns.map PyData.int)).depth ≤ 60 := by
  have := depth_ints ns
  simp only [PyData.depth]
  omega
end L2
namespace L2
open PySem PySem.Spec PyProof.Rows
namespace Rd
section
variable {H : Hp} {Q : VK} {K : PySem.W.Frag}
theorem neInts {p q : Addr} {ns : List Int} (h1 : SqL K H p (ns.map V.int)) (h2 : SqL K H q (ns.map V.int)) (k : Q (.bl false) H) : rOr rNe (rEqD K true) (.ref p) (.ref q) H Q :=
  neUD (DRel.ints h1) (DRel.ints h2) (layL_ints ns) (layL_ints ns) (depthL_ints ns) (by rw [SeqAt.eqv_refl _ (layL_ints ns)]; exact k)
end
end Rd
end L2
namespace L2
open PySem PySem.Spec PyProof.Rows
namespace Rd
section
variable {σ : St} {H : Hp} {Q : VK} {K : PySem.W.Frag} {J : St → Prop} {E : XK} {sp : Sp} {dvs : List V} {t : TA} {ta : TE}
end
end Rd
end L2
namespace L2
open PySem PySem.Spec PyProof.Rows
namespace Rd
section
variable {σ : St} {H : Hp}
theorem gsub {to ti : TE} {t : TSet} {v : V} {Q : St → Hp → Prop} (h : to σ H fun o H1 => ti σ H1 fun i H2 => t o i v H2 fun H3 => Q σ H3) : gSub to ti t v σ H Q := h
theorem setL {p : Addr} {xs : List V} {k : Int} {v : V} {Q : Hp → Prop} (hp : H p = some (.lst xs)) (h0 : 0 ≤ k) (h1 : k < xs.length) (q : Q (upd H p (.lst (xs.set k.toNat v)))) : rSetL (.ref p) (.int k) v H Q :=
  ⟨p, xs, k, k.toNat, rfl, rfl, hp, by unfold ixN; rw [if_pos h0, if_pos h1], q⟩
end
end Rd
section
variable {X hs : List Int} {i : Nat} {v u : Int}
end
end L2
namespace L2
open PySem PySem.Spec PyProof.Rows
end L2
namespace L2
open PySem PySem.Spec PyProof.Rows
section
variable {X : Cx} {K : PySem.W.Frag}
theorem op_addK (e : X.K = K) : OpR X (binaryOp .Add) (rOr rAddI (rOr rAddS (rOr rCat (rCatT K)))) := e ▸ op_addU
theorem op_eqK (e : X.K = K) (hu : X.A.units + 64 < cLine) : OpR X (compareOp .Eq) (rOr rEq (rEqD K false)) := e ▸ op_eqU hu
theorem op_neK (e : X.K = K) (hu : X.A.units + 64 < cLine) : OpR X (compareOp .NotEq) (rOr rNe (rEqD K true)) := e ▸ op_neU hu
theorem ix_K (e : X.K = K) : IxR X (rIx K) := e ▸ ix_seq
theorem sl_K (e : X.K = K) : SlR X (rSlU K) := e ▸ sl_U
def rLen (K : PySem.W.Frag) : List V → Hp → VK → Prop := fun xs H Q => ∃ x n, xs = [x] ∧ LenV K x H n ∧ Q (.int n) H
theorem len_K (e : X.K = K) : CallR X (.builtin "len") (rLen K) := e ▸ call_len
theorem pe_fldK {e : Expr} {ta : TE} {f : Str} {pos : Pos} (ek : X.K = K) (he : PE X e ta) (hb : attributeBase e f X.env (eval e X.env) = eval e X.env) : PE X (.Attribute e f pos) (tFld K ta f) := ek ▸ pe_fld he hb
theorem ps_fldK {o value : Expr} {ta tv : TE} {f : Str} {pos pos' : Pos} (ek : X.K = K) (ha : PE X o ta) (hv : PE X value tv) (hs : swapsWith value (some (.Attribute o f pos')) pos.line X.env = pure false) :
    PS X (.Assign [.Attribute o f pos'] value pos) (sFld K ta tv f) := ek ▸ ps_fld ha hv hs
theorem pi_listK {tg l : Expr} {tl : TE} (ek : X.K = K) (hl : PE X l tl) : PI X tg l (iList K tl) := ek ▸ pi_list hl
theorem pi_tupK {tg l : Expr} {tl : TE} (ek : X.K = K) (hl : PE X l tl) : PI X tg l (iTup K tl) := ek ▸ pi_tup hl
def tTru (K : PySem.W.Frag) (ta : TE) : TT := fun σ H Q => ta σ H fun x H' => ∃ k, TruV K x H' k ∧ Q k H'
theorem pt_truK {a : Expr} {ta : TE} (ek : X.K = K) (ha : PE X a ta) (he : ∀ whole, isTrue a X.env whole = (do let v ← whole; standAt a.pos; holding [v] (truthy v))) : PT X a (tTru K ta) := ek ▸ pt_truth ha he
def rIsi (K : PySem.W.Frag) : List V → Hp → VK → Prop := fun xs H Q => ∃ x n t b, xs = [x, .ty n] ∧ TyOf K H x t ∧ PySem.W.kitOne K t (.type n) = some b ∧ Q (.bl b) H
theorem isi_K (e : X.K = K) : CallR X (.builtin "isinstance") (rIsi K) := e ▸ call_isinst
def rListOf (K : PySem.W.Frag) : List V → Hp → VK → Prop := fun xs H Q => ∃ p ys, xs = [.ref p] ∧ (SqL K H p ys ∨ SqT K H p ys) ∧ ∀ l, H l = none → Q (.ref l) (upd H l (.lst ys))
theorem listOf_K (e : X.K = K) : CallR X (.type "list") (rListOf K) := e ▸ call_list_of
def rTupOf (K : PySem.W.Frag) : List V → Hp → VK → Prop := fun xs H Q => ∃ p ys, xs = [.ref p] ∧ ((SqL K H p ys ∧ ∀ l, H l = none → Q (.ref l) (upd H l (.tup ys))) ∨ (SqT K H p ys ∧ Q (.ref p) H))
theorem tupOf_K (e : X.K = K) : CallR X (.type "tuple") (rTupOf K) := e ▸ call_tuple_of
def rAllB (K : PySem.W.Frag) : List V → Hp → VK → Prop := fun xs H Q => ∃ (p : Addr) (bs : List Bool), xs = [.ref p] ∧ SqL K H p (bs.map V.bl) ∧ Q (.bl (bs.all id)) H
theorem all_K (e : X.K = K) (hc : X.calm = true) : CallR X (.builtin "all") (rAllB K) := e ▸ call_allB hc
def rSumI (K : PySem.W.Frag) : List V → Hp → VK → Prop := fun xs H Q => ∃ (p : Addr) (ns : List Int), xs = [.ref p] ∧ SqL K H p (ns.map V.int) ∧ Q (.int ns.sum) H
theorem sum_K (e : X.K = K) (hc : X.calm = true) : CallR X (.builtin "sum") (rSumI K) := e ▸ call_sumI hc
theorem pe_bmK {o e : Expr} {es : List Expr} {to : TE} {t : TA} {name : Str} {apos cpos : Pos} {T id : String} {r : V → List V → Hp → VK → Prop} (ek : X.K = K) (pa : PlainAttrs T) (slot : Slot T name id) (hty : typeOf (.builtin id) = pure (.type "method_descriptor")) (hm : MtR X id r) (ho : PE X o to) (ha : PA X (e :: es) t)
    (hbase : attributeBase o name X.env (eval o X.env) = eval o X.env := by rfl)
    (hfew : ((backTo cpos (starEach (e :: es) X.env)).all (fun x => !x.1) && (backToKw cpos (keywordEach [] X.env)).all (fun x => x.1.isSome)
      && decide ((e :: es).length + ([] : List Keyword).length + (if ([] : List Keyword).isEmpty then 0 else 1) < 30)) = true := by rfl)
    (hline : (apos.endLine == cpos.line) = true := by rfl) (hs : starEach (e :: es) X.env = (false, eval e X.env) :: starEach es X.env := by rfl) (hplain : (backTo cpos (starEach es X.env)).any (·.1) = false := by rfl) :
    PE X (.Call (.Attribute o name apos) (e :: es) [] cpos) (tBM K T r to t) := ek ▸ pe_bm pa slot hty hm ho ha hbase hfew hline hs hplain
theorem pg_tupK {es : List Expr} {k : Nat} {t : TGs} {n : Nat} {pos : Pos} (ek : X.K = K) (hc : X.calm = true) (h : PGs X es t) (hn : (assignEach es X.env).length = n := by rfl) (hst : (assignEach es X.env).findIdx? (·.1) = none := by rfl) :
    PG X (.Tuple es k pos) (gTup K n t) := ek ▸ pg_tup hc h hn hst
end
namespace Rd
section
variable {σ : St} {H : Hp} {Q : VK} {K : PySem.W.Frag}
theorem tru {ta : TE} {Q : Bool → Hp → Prop} (h : ta σ H fun x H' => ∃ k, TruV K x H' k ∧ Q k H') : tTru K ta σ H Q := h
theorem rlen {xs : List V} (h : ∃ x n, xs = [x] ∧ LenV K x H n ∧ Q (.int n) H) : rLen K xs H Q := h
theorem risi {xs : List V} (h : ∃ x n t b, xs = [x, .ty n] ∧ TyOf K H x t ∧ PySem.W.kitOne K t (.type n) = some b ∧ Q (.bl b) H) : rIsi K xs H Q := h
theorem rall {xs : List V} (h : ∃ (p : Addr) (bs : List Bool), xs = [.ref p] ∧ SqL K H p (bs.map V.bl) ∧ Q (.bl (bs.all id)) H) : rAllB K xs H Q := h
theorem listOfL {p : Addr} {xs : List V} (h : SqL K H p xs) (q : ∀ l, H l = none → Q (.ref l) (upd H l (.lst xs))) : rListOf K [.ref p] H Q := ⟨p, xs, rfl, .inl h, q⟩
end
end Rd
end L2
namespace L2
open PySem PySem.Spec PyProof.Rows
section
variable {X : Cx}
def rDIn : R2 := fun y x H Q => ∃ a o, x = .ref a ∧ DGet H a y o ∧ Q (.bl o.isSome) H
theorem op_dIn (hu : X.A.units + 64 < cLine) : OpR X (compareOp .In) rDIn := by
  intro pins s σ H x y v u Q I rx ry h
  obtain ⟨a, o, rfl, g, q⟩ := h
  cases ry
  exact d_in (by omega) I g rx fun s' I' => ⟨.bl o.isSome, H, I', rfl, q⟩
def rSetD : V → V → V → Hp → (Hp → Prop) → Prop := fun o i v H Q => ∃ a H4, o = .ref a ∧ DPut H a i v H4 ∧ Q H4
theorem set_dict (hu : X.A.units + 64 < cLine) : PSet X rSetD := by
  intro pins s σ H o i v ov iv u Q I ro ri rv h
  obtain ⟨a, H4, rfl, g, q⟩ := h
  cases ro
  exact d_setItem (by omega) I g ri rv fun s' I' => ⟨H4, I', q⟩
theorem is_kV {P : Program} {w : World} {k : Key} {u : Value} (h : (mixKind P w).is k u = true) : RelV (kV k) u := by
  cases k with
  | inl i => exact Value.isInt_shape h
  | inr x => exact Value.isStrOf_shape h
theorem vals_pt : ∀ {xs : List V} {us : List Value}, us.length = xs.length → (∀ (j : Nat) (v : V) (u : Value), xs[j]? = some v → us[j]? = some u → RelV v u) → Vals xs us
  | [], [], _, _ => .nil
  | x :: xs, u :: us, hl, h => .cons (h 0 x u rfl rfl) (vals_pt (by simpa using hl) fun j v w e1 e2 => h (j + 1) v w (by simpa using e1) (by simpa using e2))
  | [], _ :: _, hl, _ => by simp at hl
  | _ :: _, [], hl, _ => by simp at hl
theorem KV.at {kvs : List (Key × V)} {vs : List (Key × Value)} (r : KV kvs vs) : ∀ {j : Nat} {k : Key} {x : Value}, vs[j]? = some (k, x) → ∃ v, kvs[j]? = some (k, v) := by
  unfold KV at r
  induction r with
  | nil => intro j k x e; simp at e
  | @cons p q ps qs h t ih =>
    intro j k x e
    cases j with
    | zero =>
      simp at e
      subst e
      have h1 : p.1 = k := h.1
      exact ⟨p.2, by simp [← h1]⟩
    | succ j =>
      obtain ⟨v, z⟩ := ih (j := j) (k := k) (x := x) (by simpa using e)
      exact ⟨v, by simpa using z⟩
def rListD : List V → Hp → VK → Prop := fun xs H Q => ∃ a kvs, xs = [V.ref a] ∧ H a = some (.dK kvs) ∧ ∀ l, H l = none → Q (.ref l) (upd H l (.lst (kvs.map fun kv => kV kv.1)))
theorem call_listD (hc : X.calm = true) : CallR X (.type "list") rListD := by
  intro pins s σ H xs us Q I r h
  obtain ⟨a, kvs, rfl, ha, q⟩ := h
  obtain ⟨u, rfl, ru⟩ := vals1 r
  cases ru
  obtain ⟨z, hd, vs, rel, dd⟩ := dk_of I.hok ha
  obtain ⟨ep, hat⟩ := dd.dictAt
  refine PySem.W.kdl_call (PySem.W.kdl_dict (knd := mixKind X.prog X.w) (kvs := vs) (ep := ep) hd) (I.ok.hd hc) hat (by rw [← rel.length]; exact z) fun h' tk acc c hk hD hacc => ?_
  refine ⟨.ref s.heap.objs.size, _, I.laid (a := s.heap.objs.size) (o := .lst (kvs.map fun kv => kV kv.1)) (t' := tk) hk (Nat.le_refl _) ⟨by rw [List.length_map]; exact z, acc.toList, c, ?_, by simpa using hD⟩, rfl, q _ (I.hok.fresh (Nat.le_refl _))⟩
  refine vals_pt (by rw [Array.length_toList, hacc.1, List.length_map, rel.length]) fun j v u e1 e2 => ?_
  obtain ⟨k, x, hx, hk'⟩ := hacc.2 j u (by rw [← Array.getElem?_toList]; exact e2)
  obtain ⟨v', hv'⟩ := rel.at hx
  rw [List.getElem?_map, hv'] at e1
  cases e1
  exact is_kV hk'
end
section
variable {X : Cx} {pins : List (Addr × Obj)} {σ : List (Option V)} {H H' : Hp} {s : Shared} {h' : Heap}
theorem Inv.turnedL {t' : Nat} {fp : List Addr} (I : Inv X pins σ H s) (k : ∀ b o, b ∉ fp → s.heap.get? b = some o → h'.get? b = some o) (hf : ∀ b ∈ fp, FpOk X pins H b) : Inv X pins σ H { s with heap := h', toks := t' } := by
  have nit : ∀ b u, H b = some u → b ∉ fp := fun b u e z => by rw [(hf b z).1] at e; cases e
  refine I.step (g' := s.gens) (d' := s.drawn) (ch := fp) (fun b hb => ?_) (fun b o _ _ hc e _ => k b o hc e) (fun b o _ _ hc e _ => ⟨o.slots, k b o hc e⟩) (fun _ _ _ _ n => n)
    (fun b o hc e => ⟨o, k b o hc e⟩) (fun _ _ e => e) (fun _ _ _ e => e) (fun b ps e => ⟨#[], by rw [e]; simp⟩) (fun m hm => ?_) (fun b u e => ?_) I.bare
  · obtain ⟨f0, f1, f2, f3, f4, f5⟩ := hf b hb
    exact ⟨f3, f1, f4, f5⟩
  · obtain ⟨o, es, ep, ho, r⟩ := hm
    exact ⟨o, es, ep, k _ o (fun z => (hf _ z).2.1 rfl) ho, r⟩
  · refine (I.hok b u e).stay (fun c v hc q => k c v ?_ q) (fun _ q => q) fun _ _ q => q
    rcases hc with z | z
    · rw [z]; exact nit b u e
    · exact nit c _ z
theorem Inv.turnedNew {t' : Nat} {fp : List Addr} {T : Addr} {o : HO} (I : Inv X pins σ H s) (k : ∀ b o, b ∉ fp → s.heap.get? b = some o → h'.get? b = some o) (hf : ∀ b ∈ fp, FpOk X pins H b) (hp : s.heap.objs.size ≤ T) (new : ObjOk X.prog X.w (upd H T o) h' T o) :
    Inv X pins σ (upd H T o) { s with heap := h', toks := t' } := by
  have J : Inv X pins σ H { s with heap := h', toks := t' } := I.turnedL k hf
  have hn := I.hok.fresh hp
  obtain ⟨f0, f1, f2, f3, f4, f5⟩ := I.fpOk hp hn
  refine Inv.step (s := { s with heap := h', toks := t' }) (h' := h') (g' := s.gens) (d' := s.drawn) (t' := t') (ch := [T]) J (fun b hb => ?_) (fun b o _ _ hc e _ => e) (fun b o _ _ hc e _ => ⟨o.slots, e⟩) (fun b o hc e n => ?_)
    (fun b o hc e => ⟨o, e⟩) (fun b xs e => ?_) (fun b o u e => ?_) (fun b ps e => ⟨#[], ?_⟩) (fun m hm => hm) (fun b u e => ?_) I.bare
  · have e : b = T := by simpa using hb
    subst e
    exact ⟨f3, f1, f4, f5⟩
  · rw [upd_ne (fun z => hc (by simp [z]))]; exact n
  · rw [upd_ne (ne_of_none e hn)]; exact e
  · rw [upd_ne (ne_of_none e hn)]; exact e
  · rw [upd_ne (ne_of_none e hn)]; simpa using e
  · by_cases hb : b = T
    · subst hb; rw [upd_same] at e; cases e; exact new
    · rw [upd_ne hb] at e
      exact (J.hok b u e).stay (fun c v _ q => q) (fun c q => by rw [upd_ne (ne_of_none q hn)]; exact q) fun c xs q => by rw [upd_ne (ne_of_none q hn)]; exact q
end
def Ite (K : PySem.W.Frag) (a : Addr) : It :=
  ⟨fun i H => ∃ xs x, SqL K H a xs ∧ xs[i]? = some x, fun i H v H' => ∃ t x, H t = none ∧ v = .ref t ∧ H' = upd H t (.tup [.int i, x]) ∧ ∀ xs, SqL K H a xs → xs[i]? = some x, fun i H => ∃ xs, SqL K H a xs ∧ xs.length ≤ i⟩
theorem turn_enum {P : Program} {w : World} {K : PySem.W.Frag} {elts : List Expr} {k1 : Nat} {pos : Pos} (a e it : Addr) (hei : e ≠ it) : Turn P w K (.Tuple elts k1 pos) (Ite K a) [e, it] e (fun i h => (∃ old, IsEnum h e it i old) ∧ h.IsListIter it a i) where
  mem := by simp
  obj := fun i h st b hb => by
    obtain ⟨⟨old, he⟩, o, h1, h2, h3⟩ := st
    rcases List.mem_cons.mp hb with rfl | hb
    · exact ⟨_, he, fun v z => by
        have z' : Data.fields _ = Data.cell v := z
        cases z'⟩
    · rw [List.mem_singleton.mp hb]
      exact ⟨o, h1, fun v z => by rw [h3] at z; cases z⟩
  keep := fun i h h' st k => ⟨let ⟨old, he⟩ := st.1; ⟨old, k e (by simp) _ he⟩, st.2.at fun o q => k it (by simp) o q⟩
  item := by
    intro X hP hw hK hc i pins s σ H E I hf st hg
    subst hP hw hK
    obtain ⟨xs, x, hq, hx⟩ := hg
    obtain ⟨its, rv, p, hz⟩ := I.list hq
    obtain ⟨u, hu, ru⟩ := rv.get hx
    obtain ⟨⟨old, he⟩, hit⟩ := st
    refine wpAny_pyNext_enum_item he hit p.isList (x := u) (by simpa using hu) hei fun h' ho hit' hT hsz hk => ?_
    have hfr := I.hok.fresh (Nat.le_refl s.heap.objs.size)
    have helt : e < s.heap.objs.size := Heap.lt_size he
    have hilt : it < s.heap.objs.size := by obtain ⟨_, y, _⟩ := hit; exact Heap.lt_size y
    refine ⟨_, rfl, wpAny_letOwnedTupleGo_enum ho fun h2 he2 hs2 => ?_⟩
    have hT2 : h2.get? s.heap.objs.size = some { cls := .type "tuple", data := .seq #[.int i s.toks, u] } := hs2.extBut _ _ (Nat.ne_of_gt helt) hT
    have I1 : Inv X pins σ (upd H s.heap.objs.size (.tup [.int i, x])) { s with heap := h2, toks := s.toks + 1 } :=
      I.turnedNew (fp := [e, it]) (fun b o hb q => by
        have n1 : b ≠ e := fun z => hb (by simp [z])
        have n2 : b ≠ it := fun z => hb (by simp [z])
        exact hs2.extBut b o n1 (hk b o n1 n2 q)) hf (Nat.le_refl _) ⟨by show 2 ≤ sizeLine; decide, [.int i s.toks, u], .cons ⟨_, rfl⟩ (.cons ru .nil), _, hT2, rfl, _, rfl⟩
    refine ⟨.ref s.heap.objs.size, _, I1, rfl, ⟨_, x, hfr, rfl, rfl, fun ys hy => by rw [I.list_inj hy hq]; exact hx⟩, ⟨⟨_, he2⟩, hit'.at fun o q => hs2.extBut _ _ hei.symm q⟩, fun b hb => ?_⟩
    have nb : b ≠ s.heap.objs.size := by
      rcases List.mem_cons.mp hb with rfl | hb
      · exact Nat.ne_of_lt helt
      · rw [List.mem_singleton.mp hb]; exact Nat.ne_of_lt hilt
    rw [upd_ne nb]
    exact (hf b hb).1
  done := by
    intro X hP hw hK hc i pins s σ H E I hf st hg
    subst hP hw hK
    obtain ⟨xs, hq, hx⟩ := hg
    obtain ⟨its, rv, p, hz⟩ := I.list hq
    obtain ⟨⟨old, he⟩, hit⟩ := st
    have hl := rv.length
    exact wpAny_pyNext_enum_end (I.ok.hd hc) he hit p.isList (by simp; omega) fun h' eb => ⟨rfl, I.turnedL (t' := s.toks) (fp := [e, it]) (fun b o hb q => eb b o (fun z => hb (by simp [z])) q) hf⟩
  self := fun _ _ _ _ _ st h => wpAny_pyIter_enum st.1.choose_spec h
section
variable {X : Cx}
def iEnum (K : PySem.W.Frag) (ta : TA) : TI := fun σ H R => ta σ H fun vs H1 => ∃ a, vs = [.ref a] ∧ (∃ xs, SqL K H1 a xs) ∧ R (Ite K a) H1
theorem pi_enum {K : PySem.W.Frag} {a : Expr} {ta : TA} {p pos tpos : Pos} {elts : List Expr} {k1 : Nat} (ek : X.K = K) (hg : Gl X "enumerate") (hm : X.mg "enumerate" = none) (ha : PA X [a] ta) (hs : starEach [a] X.env = [(false, eval a X.env)] := by rfl) :
    PI X (.Tuple elts k1 tpos) (.Call (.Name "enumerate" p) [a] [] pos) (iEnum K ta) := by
  subst ek
  intro pins s σ H R I h
  refine Call_ (ld_blt I hg hm boot_enumerate (PyProof.Rows.callWith_type1 (thn (ha pos pins s σ H _ I h) fun us s1 ⟨vs, H1, I1, r1, q1⟩ => ?_) hs rfl))
  obtain ⟨b, rfl, ⟨xs, hq⟩, q⟩ := q1
  obtain ⟨u, rfl, ru⟩ := vals1 r1
  cases ru
  obtain ⟨its, rv, pl, hz⟩ := I1.list hq
  refine call_enumerate_list pl.isList fun h' he hit hsz hk => ?_
  refine wpAny_pyIter_enum he ?_
  have I2 : Inv X pins σ H1 { s1 with heap := h' } := I1.kept (t' := s1.toks) hk
  refine ⟨s1.heap.objs.size + 1, [s1.heap.objs.size + 1, s1.heap.objs.size], _, _, H1, rfl, I2, turn_enum b _ _ (Nat.succ_ne_self _), ⟨⟨_, he⟩, hit⟩, fun c hc => ?_, q⟩
  rcases List.mem_cons.mp hc with rfl | hc
  · exact I1.fpOk (Nat.le_succ _) (I1.hok.fresh (Nat.le_succ _))
  · rw [List.mem_singleton.mp hc]
    exact I1.fpOk (Nat.le_refl _) (I1.hok.fresh (Nat.le_refl _))
end
end L2
namespace L2
open PySem PySem.Spec PyProof.Rows
def rLenD : List V → Hp → VK → Prop := fun xs H Q => ∃ a kvs, xs = [V.ref a] ∧ H a = some (.dK kvs) ∧ Q (.int kvs.length) H
theorem len_D {X : Cx} : CallR X (.builtin "len") rLenD := call_lenD
def embN (n : Nat) (ix : List Nat) (σ : St) : St := List.replicate n none ++ ix.map fun j => (σ[j]?).join
def tCompN (n : Nat) (ix : List Nat) (wi : TI) (g : TG) (tc : TT) (te : TE) : TE := fun σ H Q => wi σ H fun J H1 => ∀ p, H1 p = none →
  ∃ W : Nat → Nat → List V → St → Hp → Prop, (∃ m, W 0 m [] (embN n ix σ) (upd H1 p (.lst []))) ∧ ∀ i m ys σ' H', W i m ys σ' H' →
    (J.stop i H' ∧ Q (.ref p) H') ∨ (J.go i H' ∧ ∀ x H2, J.yld i H' x H2 → g x σ' H2 fun σ2 H3 => tc σ2 H3 fun b H4 =>
      if b = true then te σ2 H4 fun v H5 => H5 p = some (.lst ys) ∧ ys.length < sizeLine ∧ ∃ m', m' < m ∧ W (i + 1) m' (ys ++ [v]) σ2 (upd H5 p (.lst (ys ++ [v])))
      else ∃ m', m' < m ∧ W (i + 1) m' ys σ2 H4)
section
variable {X : Cx}
theorem compN_start {pins : List (Addr × Obj)} {σ : St} {H : Hp} {s : Shared} {sc : Scope} {x : Str} {xs : List Str} {zs : List Str} {ix : List Nat} {cl : List (Str × Addr)} {fp : List Addr} {h₁ : Heap} {tk : Nat}
    (S : CompScope X sc x zs ix) (I : Inv X pins σ H s) (hcl : ∀ y c, cl.lookup y = some c → X.env.cells.lookup y = some c) (hhas : ∀ y, (y, NameKind.free) ∈ sc.names → ∃ c, cl.lookup y = some c)
    (hfp : ∀ b ∈ fp, FpOk X pins H b ∧ b < s.heap.objs.size) (hns : h₁.Ns s.heap.objs.size fun _ => none) (hk : ∀ b o, s.heap.get? b = some o → h₁.get? b = some o) :
    Inv (cxComp X sc cl s.heap.objs.size (xs ++ zs) s H fp) [] (embN xs.length ix σ) H { s with heap := h₁, toks := tk } := by
  have sub : ∀ b ∈ frs X.stack, b ∈ X.env.locals :: X.fs := I.stkSub
  have nfs : ∀ b ∈ fp, b ∉ frs X.stack := fun b hb z => by
    obtain ⟨⟨_, f1, f2, _⟩, _⟩ := hfp b hb
    rcases List.mem_cons.mp (sub b z) with e | e
    · exact f1 e
    · exact f2 e
  have cut : ∀ y, (cxComp X sc cl s.heap.objs.size (xs ++ zs) s H fp).env.kindOf y = some .cell ∨ (cxComp X sc cl s.heap.objs.size (xs ++ zs) s H fp).env.kindOf y = some .free → ∃ c, cl.lookup y = some c := fun y hy => by
    have q : ∃ k, (relabel sc X.env).names.lookup y = some k ∧ (k = .cell ∨ k = .free) := by
      rcases hy with hy | hy
      · exact ⟨_, hy, .inl rfl⟩
      · exact ⟨_, hy, .inr rfl⟩
    obtain ⟨k, e, hk⟩ := q
    obtain ⟨k', e', q⟩ := lookup_relabel e
    have : k' = .free := by
      rcases q with q | ⟨q, _⟩
      · rcases hk with z | z
        · exact absurd (q.symm.trans z) (S.nocell _ (lookup_mem e'))
        · exact q.symm.trans z
      · exact q
    subst this
    exact hhas y (lookup_mem e')
  refine ⟨⟨I.ok.mod, S.kind, I.ok.glob, I.ok.blt, Nat.le_refl _, fun y z c h1 h2 => I.ok.inj y z c (hcl _ _ h1) (hcl _ _ h2), cut, fun y c hf _ => ?_, I.ok.hd, I.ok.frames, .inl rfl, fun b hb => ?_, I.bs, Nat.le_trans I.ok.bsz I.sz, fun b o e hb => ?_, nfs, I.stack, I.stkFree⟩,
    rfl, I.bare, Un.kept hk, ⟨_, hns, fun i y v h1 h2 h3 => ?_⟩, fun y c h => ?_, I.hok.fresh (Nat.le_refl _), fun y c h => I.freeC y c (hcl y c h), fun p hp => absurd (show p ∈ ([] : List (Addr × Obj)) from hp) (by simp), I.hok.kept hk, ?_⟩
  · exact absurd (show false = true from hf) (by decide)
  · obtain ⟨⟨f0, f1, f2, f3, f4, f5⟩, hl⟩ := hfp b hb
    exact ⟨Nat.ne_of_lt hl, fun y c h => f4 y c (hcl y c h)⟩
  · obtain ⟨⟨f0, f1, f2, f3, f4, f5⟩, hl⟩ := hfp b hb
    rcases f3 with z | z
    · exact I.ok.noex b o e z
    · exact absurd (Nat.lt_of_lt_of_le (Heap.lt_size e) (Nat.le_trans I.ok.bsz z)) (Nat.lt_irrefl _)
  ·
    have hlen : xs.length ≤ i := by
      rcases Nat.lt_or_ge i xs.length with z | z
      · have h2' : (List.replicate xs.length none ++ ix.map fun j => (σ[j]?).join)[i]? = some (some v) := h2
        rw [List.getElem?_append_left (by rw [List.length_replicate]; exact z), List.getElem?_replicate, if_pos z] at h2'
        cases h2'
      · exact z
    · obtain ⟨i, rfl⟩ : ∃ i', i = xs.length + i' := ⟨i - xs.length, by omega⟩
      have h1' : zs[i]? = some y := by
        have h1' : (xs ++ zs)[xs.length + i]? = some y := h1
        rw [List.getElem?_append_right (Nat.le_add_right _ _), Nat.add_sub_cancel_left] at h1'
        exact h1'
      have h2' : (ix.map fun j => (σ[j]?).join)[i]? = some (some v) := by
        have h2' : (List.replicate xs.length none ++ ix.map fun j => (σ[j]?).join)[xs.length + i]? = some (some v) := h2
        rw [List.getElem?_append_right (by rw [List.length_replicate]; exact Nat.le_add_right _ _), List.length_replicate, Nat.add_sub_cancel_left] at h2'
        exact h2'
      have ha : (ix.map fun j => X.N[j]?)[i]? = some (some y) := by rw [S.at_, List.getElem?_map, h1']; rfl
      rw [List.getElem?_map] at h2' ha
      cases e : ix[i]? with
      | none => rw [e] at h2'; cases h2'
      | some j =>
        rw [e] at h2' ha
        have ha' : X.N[j]? = some y := Option.some.inj ha
        have hj : (σ[j]?).join = some v := Option.some.inj h2'
        have hσ : σ[j]? = some (some v) := by
          cases q : σ[j]? with
          | none => rw [q] at hj; cases hj
          | some o => rw [q] at hj; exact congrArg some hj
        obtain ⟨m, hn, hl⟩ := I.loc
        have hfr := S.zfree y (List.mem_of_getElem? h1')
        have hkind := S.free _ (lookup_mem hfr) rfl
        have hv : Vis X.env.scope y := by
          rcases hkind with z | z
          · exact .inr (.inl z)
          · exact .inr (.inr z)
        obtain ⟨u, r, q⟩ := hl j y v ha' hσ hv
        refine ⟨u, r, ?_⟩
        rcases q with ⟨kl, _⟩ | ⟨_, c, hc, hcell⟩
        · have kl' : X.env.kindOf y = some .local := kl
          rcases hkind with z | z <;> (rw [z] at kl'; cases kl')
        · obtain ⟨c', hc'⟩ := hhas y (lookup_mem hfr)
          have ec : c' = c := by have := hcl y c' hc'; rw [hc] at this; exact (Option.some.inj this).symm
          subst ec
          refine .inr ⟨?_, c', hc', ?_⟩
          · have hvis : Vis (relabel sc X.env) y := h3
            rcases hvis with z | z | z
            · obtain ⟨k', e', q⟩ := lookup_relabel z
              rw [hfr] at e'
              cases e'
              rcases q with q | ⟨_, q⟩ <;> cases q
            · exact .inl z
            · exact .inr z
          · obtain ⟨o, ho, hd⟩ := hcell
            exact ⟨o, hk _ _ ho, hd⟩
  · obtain ⟨v, o, ho, hd⟩ := I.cell y c (hcl y c h)
    exact ⟨v, o, hk _ _ ho, hd⟩
  · show (List.replicate xs.length none ++ ix.map fun j => (σ[j]?).join).length = (xs ++ zs).length
    have := congrArg List.length S.at_
    simp only [List.length_map] at this
    simp only [List.length_append, List.length_replicate, List.length_map, this]
theorem compN_block {pins : List (Addr × Obj)} {σ : St} {H : Hp} {s : Shared} {sc : Scope} {x : Str} {xs : List Str} {zs : List Str} {ix : List Nat} {cl : List (Str × Addr)} {fp : List Addr} {it : Addr} {tn : Nat → Heap → Prop} {J : It}
    {elt tg iter : Expr} {ifs : List Expr} {pos : Pos} {g : TG} {tc : TT} {te : TE} {Q : VK} {E : Value → Shared → Prop} {RR : Value → Addr → Result → Shared → Prop}
    (hc : X.calm = true) (S : CompScope X sc x zs ix) (I : Inv X pins σ H s) (hcl : ∀ y c, cl.lookup y = some c → X.env.cells.lookup y = some c) (hhas : ∀ y, (y, NameKind.free) ∈ sc.names → ∃ c, cl.lookup y = some c)
    (T : Turn X.prog X.w X.K tg J fp it tn) (st : tn 0 s.heap) (hfp : ∀ b ∈ fp, FpOk X pins H b)
    (hin : ∀ C s H, PG (cxComp X sc cl C (xs ++ zs) s H fp) tg g ∧ PIf (cxComp X sc cl C (xs ++ zs) s H fp) ifs tc ∧ PE (cxComp X sc cl C (xs ++ zs) s H fp) elt te)
    (hq : ∀ p, H p = none → ∃ W : Nat → Nat → List V → St → Hp → Prop, (∃ m, W 0 m [] (embN xs.length ix σ) (upd H p (.lst []))) ∧ ∀ i m ys σ' H', W i m ys σ' H' →
      (J.stop i H' ∧ Q (.ref p) H') ∨ (J.go i H' ∧ ∀ x H2, J.yld i H' x H2 → g x σ' H2 fun σ2 H3 => tc σ2 H3 fun b H4 =>
        if b = true then te σ2 H4 fun v H5 => H5 p = some (.lst ys) ∧ ys.length < sizeLine ∧ ∃ m', m' < m ∧ W (i + 1) m' (ys ++ [v]) σ2 (upd H5 p (.lst (ys ++ [v])))
        else ∃ m', m' < m ∧ W (i + 1) m' ys σ2 H4))
    (hR : ∀ acc C f s', CompEnd X pins σ Q acc C s' → RR acc C (.ok f) s') :
    wpAny (model X.prog X.w) X.A (newList []) (fun acc s₃ => wpAny (model X.prog X.w) X.A (newFunctionEnv sc X.env.globals cl [] X.env.qual none .none (some X.env)) (fun cenv s₄ =>
      codeAny (model X.prog X.w) X.A (.compStart (.ListComp elt [⟨tg, iter, ifs, 0⟩] sc pos) 0 (.ref it) acc { cenv with scope := relabel sc X.env }) (RR acc cenv.locals) s₄) E s₃) E s := by
  refine wpAny_newObj_type (wpAny_newFunctionEnv S.nocell (by intro y hy; simp at hy) (fun h₁ hns₁ hsb₁ => ?_) S.kind)
  have I3 : Inv X pins σ (upd H s.heap.objs.size (.lst [])) { s with heap := s.heap.push { cls := .type "list", dict := none, data := .seq ([] : List Value).toArray } } := I.lnew (its := []) (ys := []) (t' := s.toks) .nil (Nat.zero_le _)
  dsimp only at hns₁ hsb₁ ⊢
  obtain ⟨W, ⟨m0, w0⟩, turn⟩ := hq s.heap.objs.size (I.hok.fresh (Nat.le_refl _))
  have lt : ∀ b ∈ fp, b < s.heap.objs.size := fun b hb => by
    obtain ⟨o, e, _⟩ := T.obj 0 s.heap st b hb
    exact Heap.lt_size e
  have up : ∀ b ∈ fp, ∀ o, (upd H s.heap.objs.size o) b = H b := fun b hb o => upd_ne (Nat.ne_of_lt (lt b hb))
  have kp : ∀ b o, (s.heap.push { cls := .type "list", dict := none, data := .seq ([] : List Value).toArray }).get? b = some o → h₁.get? b = some o := fun b o e =>
    hsb₁.extBut b o (Nat.ne_of_lt (Heap.lt_size e)) (Heap.get?_push_of_some _ e)
  have f3 : ∀ b ∈ fp, FpOk X pins (upd H s.heap.objs.size (.lst [])) b ∧ b < (s.heap.push { cls := .type "list", dict := none, data := .seq ([] : List Value).toArray }).objs.size := fun b hb => by
    obtain ⟨q0, q⟩ := hfp b hb
    refine ⟨⟨(up b hb _).trans q0, q⟩, ?_⟩
    rw [Heap.size_push]
    exact Nat.lt_succ_of_lt (lt b hb)
  generalize hS3 : ({ s with heap := s.heap.push { cls := .type "list", dict := none, data := .seq ([] : List Value).toArray } } : Shared) = s3 at I3
  have hH3 : s.heap.push { cls := .type "list", dict := none, data := .seq ([] : List Value).toArray } = s3.heap := by rw [← hS3]
  rw [hH3] at kp f3 hns₁ ⊢
  have st3 : tn 0 h₁ := T.keep 0 _ _ st fun b _ o e => kp b o (by rw [← hH3]; exact Heap.get?_push_of_some _ e)
  have J0 : Inv (cxComp X sc cl s3.heap.objs.size (xs ++ zs) s3 (upd H s.heap.objs.size (.lst [])) fp) [] (embN xs.length ix σ) (upd H s.heap.objs.size (.lst [])) { s3 with heap := h₁, toks := s3.toks } :=
    compN_start S I3 hcl hhas f3 hns₁ kp
  obtain ⟨hg, hif, he⟩ := hin s3.heap.objs.size s3 (upd H s.heap.objs.size (.lst []))
  have fpo : ∀ {H' : Hp}, (∀ b ∈ fp, H' b = none) → ∀ b ∈ fp, FpOk (cxComp X sc cl s3.heap.objs.size (xs ++ zs) s3 (upd H s.heap.objs.size (.lst [])) fp) [] H' b := fun {H'} hn b hb =>
    ⟨hn b hb, (J0.ok.exf b hb).1, J0.ok.exfs b hb, .inl hb, (J0.ok.exf b hb).2, fun p hp => absurd (show p ∈ ([] : List (Addr × Obj)) from hp) (by simp)⟩
  have loop : ∀ s4 : Shared, s4 = { s3 with heap := h₁, toks := s3.toks } →
      codeAny (model X.prog X.w) X.A (.compLoop (.ListComp elt [⟨tg, iter, ifs, 0⟩] sc pos) 0 (.ref it) (.ref s.heap.objs.size) (compEnvC sc cl s3.heap.objs.size X.env)) (RR (.ref s.heap.objs.size) s3.heap.objs.size) s4 := by
    rintro s4 rfl
    refine compLoop_any (fun n s' => ∃ i ys σ' H', Inv (cxComp X sc cl s3.heap.objs.size (xs ++ zs) s3 (upd H s.heap.objs.size (.lst [])) fp) [] σ' H' s' ∧ tn i s'.heap ∧ (∀ b ∈ fp, H' b = none) ∧ W i n ys σ' H') ?_ m0
      ⟨0, [], embN xs.length ix σ, _, J0, st3, fun b hb => (f3 b hb).1.1, w0⟩
    rintro n s5 ⟨i, ys, σ5, H5, I5, st5, fr5, w5⟩
    rcases turn i n ys σ5 H5 w5 with ⟨stop, qn⟩ | ⟨go, step⟩
    · refine thn (T.done (cxComp X sc cl s3.heap.objs.size (xs ++ zs) s3 (upd H s.heap.objs.size (.lst [])) fp) rfl rfl rfl hc i [] s5 σ5 H5 _ I5 (fpo fr5) st5 stop) fun r s6 ⟨hr, I6⟩ => ?_
      subst hr
      obtain ⟨m6, hm6, _⟩ := I6.loc
      refine hR _ _ _ _ ⟨s.heap.objs.size, H5, m6, rfl, hm6, ?_, I3.fpOk (Nat.le_refl _) I6.free, qn⟩
      exact I3.call' I6.os I6.base I6.hok I6.bare fun b hb => by
        obtain ⟨⟨f0, f1, f2, f3, f4, f5⟩, _⟩ := f3 b hb
        exact ⟨f3, f1, f4, f5⟩
    · refine thn (T.item (cxComp X sc cl s3.heap.objs.size (xs ++ zs) s3 (upd H s.heap.objs.size (.lst [])) fp) rfl rfl rfl hc i [] s5 σ5 H5 _ I5 (fpo fr5) st5 go) fun r s6 ⟨u, hr, h6⟩ => ?_
      subst hr
      refine thn h6 fun _ s7 ⟨x7, H7, I7, r7, y7, st7, fr7⟩ => ?_
      have I7' := I7.pinned (fpo fr7) (T.obj _ _ st7)
      refine thn (hg _ s7 σ5 H7 x7 u _ I7' r7 (step x7 H7 y7)) fun _ s8 ⟨σ8, H8, I8, q8⟩ => ?_
      refine thn (hif _ s8 σ8 H8 _ I8 q8) fun b s9 ⟨H9, I9, q9⟩ => ?_
      have again : ∀ {ys' : List V} {σ' : St} {H' : Hp} {m' : Nat} {s' : Shared}, Inv (cxComp X sc cl s3.heap.objs.size (xs ++ zs) s3 (upd H s.heap.objs.size (.lst [])) fp) ([] ++ pinsAt fp s7.heap) σ' H' s' → W (i + 1) m' ys' σ' H' → m' < n →
          ∃ m, m < n ∧ ∃ i ys σ' H', Inv (cxComp X sc cl s3.heap.objs.size (xs ++ zs) s3 (upd H s.heap.objs.size (.lst [])) fp) [] σ' H' s' ∧ tn i s'.heap ∧ (∀ b ∈ fp, H' b = none) ∧ W i m ys σ' H' := fun {ys' σ' H' m' s'} Iz wz hm => by
        refine ⟨m', hm, i + 1, ys', σ', H', Iz.unpinned, T.keep _ _ _ st7 fun b hb o e => (Iz.pin (b, o) (List.mem_append_right _ (List.mem_append_right _ (mem_pinsAt hb e)))).1, fun b hb => ?_, wz⟩
        obtain ⟨o, e, d⟩ := T.obj _ _ st7 b hb
        exact (Iz.pin (b, o) (List.mem_append_right _ (List.mem_append_right _ (mem_pinsAt hb e)))).2.1
      cases b with
      | false =>
        rw [if_neg Bool.false_ne_true] at q9 ⊢
        obtain ⟨m', hm, wz⟩ := q9
        exact again I9 wz hm
      | true =>
        rw [if_pos rfl] at q9 ⊢
        refine thn (he _ s9 σ8 H9 _ I9 q9) fun v s10 ⟨y, H10, I10, r10, hl, hz, m', hm, wz⟩ => ?_
        refine thn (mt_append _ s10 σ8 H10 (.ref s.heap.objs.size) [y] (.ref s.heap.objs.size) [v] (fun z H' => z = .non ∧ H' = upd H10 s.heap.objs.size (.lst (ys ++ [y]))) I10 rfl (.cons r10 .nil) ⟨_, ys, y, rfl, rfl, hl, hz, rfl, rfl⟩) fun _ s11 ⟨z, H11, I11, _, _, e11⟩ => ?_
        subst e11
        exact again I11 wz hm
  exact codeAny_compStart_list (loop _ (by subst hS3; rfl)) (T.self _ 0 _ _ _ st3 (loop _ (by subst hS3; rfl)))
theorem pe_compN {elt tg iter : Expr} {ifs : List Expr} {sc : Scope} {pos : Pos} {x : Str} {xs : List Str} {zs : List Str} {ix : List Nat} {wi : TI} {g : TG} {tc : TT} {te : TE}
    (hc : X.calm = true) (S : CompScope X sc x zs ix) (hi : PI X tg iter wi)
    (hin : ∀ cl C s H fp, PG (cxComp X sc cl C (xs ++ zs) s H fp) tg g ∧ PIf (cxComp X sc cl C (xs ++ zs) s H fp) ifs tc ∧ PE (cxComp X sc cl C (xs ++ zs) s H fp) elt te)
    (hs : ∀ x, foldedSetIterable iter X.env x = pure x := by intro _; rfl) :
    PE X (.ListComp elt [⟨tg, iter, ifs, 0⟩] sc pos) (tCompN xs.length ix wi g tc te) := by
  intro pins s σ H Q I h
  obtain ⟨cl, hclos, hcl, hhas⟩ := comp_closure I.ok S
  rw [eval_ListComp]
  refine wpAny_comprehension_free (use := none) rfl hs hclos S.kind S.names (thn (hi pins s σ H _ I h) fun v s1 h1 => thn h1 fun itv s2 h2 => ?_)
  obtain ⟨it, fp, tn, J, H2, e, I2, T, st2, f2, hq⟩ := h2
  subst e
  refine compN_block (RR := fun acc C => compPost (model X.prog X.w) X.A X.xe none (EP X pins σ Q) acc C) hc S I2 hcl hhas T st2 f2 (fun C s H => hin cl C s H fp) hq fun acc C f s' h => ?_
  obtain ⟨p, H', m, rfl, hm, I', ⟨g0, g1, g2, g3, g4, g5⟩, q⟩ := h
  exact ⟨m, hm, fun h' hb => ⟨.ref p, H', I'.turned (t' := s'.toks) (fun b o hne e => (hb.2 b hne).trans e) g0 g1 g3 g4 g5, rfl, q⟩⟩
theorem ps_compN {elt tg iter : Expr} {ifs : List Expr} {sc : Scope} {pos py spos : Pos} {x y : Str} {xs : List Str} {zs : List Str} {ix : List Nat} {wi : TI} {g : TG} {tc : TT} {te : TE} {j : Nat}
    (hc : X.calm = true) (S : CompScope X sc x zs ix) (hi : PI X tg iter wi)
    (hin : ∀ cl C s H fp, PG (cxComp X sc cl C (xs ++ zs) s H fp) tg g ∧ PIf (cxComp X sc cl C (xs ++ zs) s H fp) ifs tc ∧ PE (cxComp X sc cl C (xs ++ zs) s H fp) elt te)
    (hN : X.N.Nodup) (hj : X.N[j]? = some y) (hy : Loc X.env.scope y)
    (hsw : swapsWith (.ListComp elt [⟨tg, iter, ifs, 0⟩] sc pos) (some (.Name y py)) spos.line X.env = pure true := by rfl)
    (hf : X.fn y = true ∨ X.env.scope.names.lookup y = some .local := by first | exact .inl rfl | exact .inr rfl | assumption)
    (hs : ∀ x, foldedSetIterable iter X.env x = pure x := by intro _; rfl) :
    PS X (.Assign [.Name y py] (.ListComp elt [⟨tg, iter, ifs, 0⟩] sc pos) spos) (tAsg (tCompN xs.length ix wi g tc te) (gName j)) := by
  intro pins s σ H D I h
  obtain ⟨cl, hclos, hcl, hhas⟩ := comp_closure I.ok S
  rw [exec_Assign_Name_used _ _ _ _ hsw]
  refine wpAny_bind (wpAny_standAt (wpAny_bind ?_))
  show wpAny _ X.A (do let _ ← comprehension (.ListComp elt [⟨tg, iter, ifs, 0⟩] sc pos) sc X.env _ (newList []) false (eval iter X.env) (some (assign (.Name y py) X.env))) _ _ s
  refine wpAny_bind (wpAny_mono (wpAny_comprehension_free (use := some (assign (.Name y py) X.env)) (Q := fun _ s' => SP X pins D .next s') rfl hs hclos S.kind S.names
    (thn (hi pins s σ H _ I h) fun v s1 h1 => thn h1 fun itv s2 h2 => ?_)) (fun _ s' hq => wpAny_pure (wpAny_pure hq)) fun _ _ e => e)
  obtain ⟨it, fp, tn, J, H2, e, I2, T, st2, f2, hq⟩ := h2
  subst e
  refine compN_block (Q := fun x H1 => gName j x σ H1 D.nx) (RR := fun acc C => compPost (model X.prog X.w) X.A X.xe (some (assign (.Name y py) X.env)) (fun _ s' => SP X pins D .next s') acc C) hc S I2 hcl hhas T st2 f2 (fun C s H => hin cl C s H fp) hq fun acc C f s' h => ?_
  obtain ⟨p, H', m, rfl, hm, I', ⟨g0, g1, g2, g3, g4, g5⟩, q⟩ := h
  show wpAny _ X.A (assign (.Name y py) X.env (.ref p)) _ _ _
  refine wpAny_assign_Name (store_ok2 I' hN hj hy (show RelV (.ref p) (.ref p) from rfl) (fun s'' I'' ⟨c, hsb, hcc⟩ => ?_) hf)
  have hne : C ≠ c := by
    rcases hcc with z | z
    · rw [z]; exact g1
    · exact Ne.symm (g4 _ _ z)
  exact ⟨m, hm.sameBut hsb hne, fun h' hb => ⟨_, H', I''.turned (t' := s''.toks) (fun b o hne e => (hb.2 b hne).trans e) g0 g1 g3 g4 g5, q⟩⟩
end
structure WalksY (J : It) (n : Nat) (y : Nat → Hp → V → Hp → Prop) (H : Hp) : Prop where
  go : ∀ H' i, Same H H' → i < n → J.go i H'
  yld : ∀ H' i x H2, Same H H' → i < n → J.yld i H' x H2 → y i H' x H2
  stop : ∀ H', Same H H' → J.stop n H'
theorem Walks.y {J : It} {n : Nat} {f : Nat → V} {H : Hp} (w : Walks J n f H) : WalksY J n (fun i H' v H2 => H2 = H' ∧ v = f i) H := ⟨w.go, w.yld, w.stop⟩
theorem walks_enum {K : PySem.W.Frag} {a : Addr} {xs : List V} {H : Hp} (h : SqL K H a xs) : WalksY (Ite K a) xs.length (fun i H' v H2 => ∃ t, H' t = none ∧ v = .ref t ∧ H2 = upd H' t (.tup [.int i, xs.getD i .non])) H :=
  ⟨fun H' i e hi => ⟨xs, xs[i], e.seq h, by simp [hi]⟩, fun H' i x H2 e hi ⟨t, z, ht, hv, h2, hz⟩ => ⟨t, ht, hv, by
    have := hz xs (e.seq h)
    rw [h2]; simp [List.getD, this]⟩, fun H' e => ⟨xs, e.seq h, Nat.le_refl _⟩⟩
theorem compN_walk {own : Nat} {ix : List Nat} {g : TG} {tc : TT} {te : TE} {Q : Addr → Hp → Prop} {σ : St} {H : Hp} {J : It} {n : Nat} {y : Nat → Hp → V → Hp → Prop} (w : WalksY J n y H) (hn : n < sizeLine) (s : Nat → List (Option V)) (hs : ∀ i, (s i).length = own) (c : Nat → Bool) (R : Nat → V → Hp → Prop)
    (mono : ∀ i v H1 H2, Same H1 H2 → R i v H1 → R i v H2)
    (hg : ∀ i a H' v H2 (Kg : St → Hp → Prop), i < n → Same H H' → y i H' v H2 → a.length = own → (∀ H3, Same H' H3 → Kg (s i ++ ix.map fun j => (σ[j]?).join) H3) → g v (a ++ ix.map fun j => (σ[j]?).join) H2 Kg)
    (hc : ∀ i H' (Kc : Bool → Hp → Prop), i < n → Same H H' → (∀ H4, Same H' H4 → Kc (c i) H4) → tc (s i ++ ix.map fun j => (σ[j]?).join) H' Kc)
    (he : ∀ p i H' (Kc : VK), i < n → c i = true → H p = none → (∃ ys, H' p = some (.lst ys)) → Same H H' → (∀ v H5, Same H' H5 → R i v (hid H5 p) → Kc v H5) → te (s i ++ ix.map fun j => (σ[j]?).join) H' Kc)
    (q : ∀ p H' ys, H p = none → Same H H' → H' p = some (.lst ys) → Paired (fun i v => R i v (hid H' p)) ((List.range n).filter c) ys → Q p H') :
    ∀ p, H p = none → ∃ W : Nat → Nat → List V → St → Hp → Prop, (∃ m, W 0 m [] (embN own ix σ) (upd H p (.lst []))) ∧ ∀ i m ys σ' H', W i m ys σ' H' →
      (J.stop i H' ∧ Q p H') ∨ (J.go i H' ∧ ∀ x H2, J.yld i H' x H2 → g x σ' H2 fun σ2 H3 => tc σ2 H3 fun b H4 =>
        if b = true then te σ2 H4 fun v H5 => H5 p = some (.lst ys) ∧ ys.length < sizeLine ∧ ∃ m', m' < m ∧ W (i + 1) m' (ys ++ [v]) σ2 (upd H5 p (.lst (ys ++ [v])))
        else ∃ m', m' < m ∧ W (i + 1) m' ys σ2 H4) := by
  intro p hp
  have hidS : ∀ {H1 H2 : Hp}, Same H1 H2 → Same (hid H1 p) (hid H2 p) := fun {H1 H2} e b o z => by
    by_cases h : b = p
    · rw [h, hid_self] at z; cases z
    · rw [hid_ne h] at z ⊢; exact e b o z
  have hidU : ∀ {H1 : Hp} {o : HO}, Same (hid H1 p) (hid (upd H1 p o) p) := fun {H1 o} b u z => by
    by_cases h : b = p
    · rw [h, hid_self] at z; cases z
    · rw [hid_ne h] at z ⊢; rw [upd_ne h]; exact z
  refine ⟨fun i m ys σ' H' => m = n - i ∧ i ≤ n ∧ (∃ a, a.length = own ∧ σ' = a ++ ix.map fun j => (σ[j]?).join) ∧ Same H H' ∧ H' p = some (.lst ys) ∧ Paired (fun i v => R i v (hid H' p)) ((List.range i).filter c) ys,
    ⟨n, by simp, Nat.zero_le _, ⟨List.replicate own none, List.length_replicate, rfl⟩, same_new hp, upd_same, .nil⟩, ?_⟩
  rintro i m ys σ' H' ⟨rfl, hi, ⟨a, ha, rfl⟩, sm, hy, hl⟩
  by_cases hlt : i < n
  · refine .inr ⟨w.go H' i sm hlt, fun x H2 yl => ?_⟩
    have hlen : ys.length ≤ i := by
      rw [← Paired.length hl]
      exact Nat.le_trans (List.length_filter_le _ _) (by simp)
    refine hg i a H' x H2 _ hlt sm (w.yld H' i x H2 sm hlt yl) ha fun H3 s3 => ?_
    refine hc i H3 _ hlt (sm.trans s3) fun H4 s4 => ?_
    have sm4 := (sm.trans s3).trans s4
    have hy4 := s4 _ _ (s3 _ _ hy)
    have step : (List.range (i + 1)).filter c = (List.range i).filter c ++ (if c i = true then [i] else []) := by
      rw [List.range_succ, List.filter_append]
      congr 1
      by_cases h : c i = true <;> simp [h]
    have hl4 : Paired (fun i v => R i v (hid H4 p)) ((List.range i).filter c) ys := Paired.mapP hl fun _ _ z => mono _ _ _ _ (hidS (s3.trans s4)) z
    by_cases hci : c i = true
    · rw [hci, if_pos rfl]
      refine he p i H4 _ hlt hci hp ⟨ys, hy4⟩ sm4 fun v H5 s5 r5 => ⟨s5 _ _ hy4, by omega, n - (i + 1), by omega, rfl, hlt, ⟨s i, hs i, rfl⟩, (sm4.trans s5).new hp, upd_same, ?_⟩
      rw [step, if_pos hci]
      exact Paired.snoc (Paired.mapP hl4 fun _ _ z => mono _ _ _ _ ((hidS s5).trans hidU) z) (mono _ _ _ _ hidU r5)
    · have hcf : c i = false := by simpa using hci
      rw [hcf, if_neg Bool.false_ne_true]
      refine ⟨n - (i + 1), by omega, rfl, hlt, ⟨s i, hs i, rfl⟩, sm4, hy4, ?_⟩
      rw [step, if_neg hci, List.append_nil]
      exact hl4
  · have e : i = n := by omega
    subst e
    exact .inl ⟨w.stop H' sm, q p H' ys hp sm hy hl⟩
theorem hid_new {H : Hp} {p u : Addr} {o : HO} (h : ∃ ys, H p = some (.lst ys)) (hu : H u = none) : hid (upd H u o) p u = some o := by
  have n : u ≠ p := fun z => by
    obtain ⟨ys, e⟩ := h
    rw [← z, hu] at e
    cases e
  rw [hid_ne n, upd_same]
theorem hid_at {H H' : Hp} {p u : Addr} {o : HO} (h : ∃ ys, H p = some (.lst ys)) (hu : H u = none) (hu' : H' u = some o) : hid H' p u = some o := by
  have n : u ≠ p := fun z => by
    obtain ⟨ys, e⟩ := h
    rw [← z, hu] at e
    cases e
  rw [hid_ne n, hu']
theorem hid_tups {H H' : Hp} {p b : Addr} {xs : List V} (h : ∃ ys, H p = some (.lst ys)) (s : Same H H') (e : H' b = some (.tup xs)) : hid H' p b = some (.tup xs) := by
  have n : b ≠ p := fun z => by
    obtain ⟨ys, e'⟩ := h
    rw [z, s _ _ e'] at e
    cases e
  rw [hid_ne n, e]
theorem paired_map {R : Nat → V → Hp → Prop} {H : Hp} {r : Nat → V} (h : ∀ i v, R i v H → v = r i) : ∀ {is : List Nat} {ys : List V}, Paired (fun i v => R i v H) is ys → ys = is.map r
  | _, _, .nil => rfl
  | _, _, .cons a t => by rw [h _ _ a, paired_map h t]; rfl
theorem for_walkY {J : It} {n : Nat} {y : Nat → Hp → V → Hp → Prop} {H0 : Hp} (w : WalksY J n y H0) {g : TG} {tb : TS} {D : Ends} {σ : St} {H : Hp} (Pv : Nat → St → Hp → Prop) (h0 : Pv 0 σ H) (hk : ∀ i σ H, Pv i σ H → Same H0 H)
    (hs : ∀ i σ H v H', i < n → Pv i σ H → y i H v H' → g v σ H' fun σ2 H2 => tb { D with nx := Pv (i + 1), ct := Pv (i + 1), bk := D.nx } σ2 H2) (hd : ∀ σ H, Pv n σ H → D.nx σ H) :
    ∃ W : Nat → Nat → St → Hp → Prop, (∃ m, W 0 m σ H) ∧ ∀ i m σ H, W i m σ H →
      (J.stop i H ∧ D.nx σ H) ∨ (J.go i H ∧ ∃ N : St → Hp → Prop, (∀ σ' H', N σ' H' → ∃ m', m' < m ∧ W (i + 1) m' σ' H') ∧ ∀ x H', J.yld i H x H' → g x σ H' fun σ2 H2 => tb { D with nx := N, ct := N, bk := D.nx } σ2 H2) := by
  refine ⟨fun i m σ H => m = n - i ∧ i ≤ n ∧ Pv i σ H, ⟨n, by simp, Nat.zero_le _, h0⟩, ?_⟩
  rintro i m σ H ⟨rfl, hi, p⟩
  have sm := hk i σ H p
  by_cases hlt : i < n
  · exact .inr ⟨w.go H i sm hlt, Pv (i + 1), fun σ' H' p' => ⟨n - (i + 1), by omega, rfl, hlt, p'⟩, fun x H' yl => hs i σ H x H' hlt p (w.yld H i x H' sm hlt yl)⟩
  · have e : i = n := by omega
    subst e
    exact .inl ⟨w.stop H sm, hd σ H p⟩
namespace Rd
section
variable {σ : St} {H : Hp} {Q : VK} {D : Ends} {K : PySem.W.Frag}
theorem compNE {n : Nat} {ix : List Nat} {wi : TI} {g : TG} {tc : TT} {te : TE} (h : wi σ H fun J H1 => ∀ p, H1 p = none →
  ∃ W : Nat → Nat → List V → St → Hp → Prop, (∃ m, W 0 m [] (embN n ix σ) (upd H1 p (.lst []))) ∧ ∀ i m ys σ' H', W i m ys σ' H' →
    (J.stop i H' ∧ Q (.ref p) H') ∨ (J.go i H' ∧ ∀ x H2, J.yld i H' x H2 → g x σ' H2 fun σ2 H3 => tc σ2 H3 fun b H4 =>
      if b = true then te σ2 H4 fun v H5 => H5 p = some (.lst ys) ∧ ys.length < sizeLine ∧ ∃ m', m' < m ∧ W (i + 1) m' (ys ++ [v]) σ2 (upd H5 p (.lst (ys ++ [v])))
      else ∃ m', m' < m ∧ W (i + 1) m' ys σ2 H4)) : tCompN n ix wi g tc te σ H Q := h
theorem ienum {ts : TA} {R : It → Hp → Prop} (h : ts σ H fun vs H1 => ∃ a, vs = [.ref a] ∧ (∃ xs, SqL K H1 a xs) ∧ R (Ite K a) H1) : iEnum K ts σ H R := h
theorem ienum2 {a : Addr} {xs : List V} {G : Addr → Prop} (h : SqL K H a xs) (q : G a) : ∃ a', [V.ref a] = [.ref a'] ∧ (∃ xs, SqL K H a' xs) ∧ G a' := ⟨a, rfl, ⟨xs, h⟩, q⟩
theorem dnew (h : ∀ p, H p = none → Q (.ref p) (upd H p (.dK []))) : tDNewK σ H Q := h
theorem dinS {a : Addr} {kvs : List (Key × V)} {x : Str} (h : H a = some (.dK kvs)) (q : Q (.bl (valV kvs (Sum.inr x)).isSome) H) : rDIn (.str x) (.ref a) H Q := ⟨a, _, rfl, DGet.k (k := Sum.inr x) h, q⟩
theorem dsetS {a : Addr} {kvs : List (Key × V)} {x : Str} {v : V} {Q : Hp → Prop} (h : H a = some (.dK kvs)) (hl : kvs.length < sizeLine) (q : Q (upd H a (.dK (putK kvs (Sum.inr x) v)))) : rSetD (.ref a) (.str x) v H Q := ⟨a, _, rfl, DPut.k (k := Sum.inr x) h hl, q⟩
theorem dlen {a : Addr} {kvs : List (Key × V)} (h : H a = some (.dK kvs)) (q : Q (.int kvs.length) H) : rLenD [.ref a] H Q := ⟨a, kvs, rfl, h, q⟩
theorem dlist {a : Addr} {kvs : List (Key × V)} (h : H a = some (.dK kvs)) (q : ∀ l, H l = none → Q (.ref l) (upd H l (.lst (kvs.map fun kv => kV kv.1)))) : rListD [.ref a] H Q := ⟨a, kvs, rfl, h, q⟩
theorem augS {to ti te : TE} {tget : V → V → Hp → VK → Prop} {tip : TIp} {tset : TSet} (h : to σ H fun o H1 => ti σ H1 fun i H2 => tget o i H2 fun x H3 => te σ H3 fun y H4 => tip x y H4 fun z H5 => tset o i z H5 fun H6 => D.nx σ H6) : tAugS to ti te tget tip tset D σ H := h
theorem ipi {f : Int → Int → Int} {i j : Int} (q : Q (.int (f i j)) H) : ipI f (.int i) (.int j) H Q := ⟨i, j, rfl, rfl, q⟩
end
end Rd
section
variable {X : Cx}
theorem get_list : PGet X (rIxL X.K) := by
  intro pins s σ H o i ov iv Q I ro ri h
  obtain ⟨p, xs, k, z, rfl, rfl, hq, he, q⟩ := h
  cases ro
  obtain ⟨t, rfl⟩ := ri
  obtain ⟨its, r, pl, hz⟩ := I.list hq
  obtain ⟨j, h1, h2, h3, h4, h5⟩ := atI_get he
  obtain ⟨w, ew, rw'⟩ := r.get h2
  have hl := r.length
  have hn := line63
  have fin : EP X pins σ Q w s := ⟨z, H, I, rw', q⟩
  by_cases h0 : 0 ≤ k
  · have hj : k.toNat = j := by
      rw [seqIndex_of h0 h5] at h1
      exact Option.some.inj h1
    exact wpAny_getItem_list pl.isList h0 (by omega) (by rw [hj]; simpa using ew) fin
  · have hj : (k + (its.toArray.size : Int)).toNat = j := by
      rw [seqIndex_neg (by omega) h4] at h1
      rw [List.size_toArray, ← hl]
      exact Option.some.inj h1
    exact wpAny_getItem_list_neg pl.isList (by omega) (by rw [List.size_toArray] <;> omega) (by omega) (by rw [hj]; simpa using ew) fin
theorem get_listK {K : PySem.W.Frag} (e : X.K = K) : PGet X (rIxL K) := e ▸ get_list
end
end L2
namespace L2
open PySem PySem.Spec PyProof.Rows
section
variable {X : Cx}
end
namespace Rd
end Rd
end L2
namespace L2
open PySem PySem.Spec PySem.W PyProof.Rows Builtin Builtin.ObjectAttr Builtin.Getset_descriptor
section
variable {prog : Program} {w : World} {A : Around} {E : Value → Shared → Prop} {s : Shared} {K : Frag} {x C : Addr}
end
section
variable {X : Cx}
end
end L2
namespace L2
open PySem PySem.Spec PyProof.Rows
section
variable {X : Cx} {pins : List (Addr × Obj)} {σ : List (Option V)} {H : Hp} {s : Shared}
end
section
variable {X : Cx}
end
end L2
namespace L2
open PySem PySem.Spec PyProof.Rows
namespace Rd
section
variable {σ : St} {H : Hp} {Q : VK} {K : PySem.W.Frag}
end
end Rd
end L2
namespace L2
open PySem PySem.Spec PyProof.Rows
section
variable {X : Cx} {K : PySem.W.Frag}
end
namespace Rd
section
variable {σ : St} {H : Hp} {Q : VK} {K : PySem.W.Frag}
end
end Rd
def RowsAt (H : Hp) : List V → List (List Int) → Prop := Paired fun v xs => ∃ t, v = .ref t ∧ H t = some (.lst (xs.map V.int))
theorem RowsAt.same {H H' : Hp} {ys : List V} {xss : List (List Int)} (h : RowsAt H ys xss) (e : Same H H') : RowsAt H' ys xss := Paired.mapP h fun _ _ ⟨t, a, b⟩ => ⟨t, a, e _ _ b⟩
theorem RowsAt.length {H : Hp} {ys : List V} {xss : List (List Int)} (h : RowsAt H ys xss) : ys.length = xss.length := Paired.length h
theorem RowsAt.at {H : Hp} : ∀ {ys : List V} {xss : List (List Int)} {i : Nat} {xs : List Int}, RowsAt H ys xss → xss[i]? = some xs → ∃ t, ys[i]? = some (.ref t) ∧ H t = some (.lst (xs.map V.int))
  | _, _, _, _, .nil, e => by simp at e
  | _, _, 0, _, .cons ⟨t, e1, h⟩ _, e => by simp at e; subst e; exact ⟨t, by simp [e1], h⟩
  | _, _, i + 1, b, .cons _ r, e => by
    obtain ⟨t, h1, h2⟩ := RowsAt.at (i := i) (xs := b) r (by simpa using e)
    exact ⟨t, by simpa using h1, h2⟩
theorem RowsAt.snoc {H : Hp} : ∀ {ys : List V} {xss : List (List Int)} {t : Addr} {xs : List Int}, RowsAt H ys xss → H t = some (.lst (xs.map V.int)) → RowsAt H (ys ++ [.ref t]) (xss ++ [xs])
  | _, _, _, _, .nil, h => .cons ⟨_, rfl, h⟩ .nil
  | _, _, _, _, .cons x r, h => .cons x (RowsAt.snoc r h)
end L2
namespace L2
open PySem PySem.Spec PyProof.Rows
def Itz (K : PySem.W.Frag) (a b : Addr) : It :=
  ⟨fun i H => ∃ xs x ys y, SqL K H a xs ∧ xs[i]? = some x ∧ SqL K H b ys ∧ ys[i]? = some y, fun i H v H' => ∃ t x y, H t = none ∧ v = .ref t ∧ H' = upd H t (.tup [x, y]) ∧ (∀ xs, SqL K H a xs → xs[i]? = some x) ∧ ∀ ys, SqL K H b ys → ys[i]? = some y, fun i H => ∃ xs ys, SqL K H a xs ∧ SqL K H b ys ∧ (xs.length ≤ i ∨ ys.length ≤ i)⟩
theorem list_ne {h : Heap} {l b : Addr} {xs : Array Value} {o : Obj} (hl : h.IsList l xs) (ho : h.get? b = some o) (hc : o.cls ≠ .type "list") : l ≠ b := fun z => by
  subst z
  obtain ⟨o', h1, h2, _⟩ := hl
  rw [ho] at h1
  cases h1
  exact hc h2
structure ZipAt (h : Heap) (z TI TO i1 i2 a b : Addr) (i : Nat) : Prop where
  zip : IsZip h z TI TO .none
  ti : IsPair h TI (.ref i1) (.ref i2)
  to : ∃ x y, IsPair h TO x y
  l1 : h.IsListIter i1 a i
  l2 : h.IsListIter i2 b i
structure ZipOwn (z TI TO i1 i2 : Addr) : Prop where
  TIz : TI ≠ z
  TOz : TO ≠ z
  i1z : i1 ≠ z
  i2z : i2 ≠ z
  TITO : TI ≠ TO
  TIi1 : TI ≠ i1
  TIi2 : TI ≠ i2
  TOi1 : TO ≠ i1
  TOi2 : TO ≠ i2
  i12 : i1 ≠ i2
theorem zipOwn (n : Nat) : ZipOwn (n + 4) (n + 2) (n + 3) n (n + 1) := ⟨show n + 2 ≠ n + 4 by omega, show n + 3 ≠ n + 4 by omega, show n ≠ n + 4 by omega, show n + 1 ≠ n + 4 by omega, show n + 2 ≠ n + 3 by omega, show n + 2 ≠ n by omega, show n + 2 ≠ n + 1 by omega, show n + 3 ≠ n by omega, show n + 3 ≠ n + 1 by omega, show n ≠ n + 1 by omega⟩
theorem ZipAt.apart {h : Heap} {z TI TO i1 i2 a b : Addr} {i : Nat} {xs ys : Array Value} (D : ZipOwn z TI TO i1 i2) (st : ZipAt h z TI TO i1 i2 a b i) (ha : h.IsList a xs) (hb : h.IsList b ys) : ZipApart z TI TO i1 i2 a b := by
  obtain ⟨x, y, hto⟩ := st.to
  obtain ⟨o1, p1, c1, _⟩ := st.l1
  obtain ⟨o2, p2, c2, _⟩ := st.l2
  have n1 : o1.cls ≠ .type "list" := by rw [c1]; decide
  have n2 : o2.cls ≠ .type "list" := by rw [c2]; decide
  exact ⟨D.TIz, D.TOz, D.i1z, D.i2z, D.TITO, D.TIi1, D.TIi2, D.TOi1, D.TOi2, D.i12, list_ne ha st.zip (show Value.type "zip" ≠ Value.type "list" by decide), list_ne ha hto (show Value.type "tuple" ≠ Value.type "list" by decide), list_ne ha p1 n1, list_ne ha p2 n2, list_ne hb st.zip (show Value.type "zip" ≠ Value.type "list" by decide), list_ne hb hto (show Value.type "tuple" ≠ Value.type "list" by decide), list_ne hb p1 n1, list_ne hb p2 n2⟩
theorem turn_zip {P : Program} {w : World} {K : PySem.W.Frag} {elts : List Expr} {k1 : Nat} {pos : Pos} (a b z TI TO i1 i2 : Addr) (D : ZipOwn z TI TO i1 i2) : Turn P w K (.Tuple elts k1 pos) (Itz K a b) [z, TI, TO, i1, i2] z (fun i h => ZipAt h z TI TO i1 i2 a b i) where
  mem := by simp
  obj := fun i h st c hc => by
    obtain ⟨x, y, hto⟩ := st.to
    obtain ⟨o1, p1, _, d1⟩ := st.l1
    obtain ⟨o2, p2, _, d2⟩ := st.l2
    simp only [List.mem_cons, List.not_mem_nil, or_false] at hc
    rcases hc with rfl | rfl | rfl | rfl | rfl
    · exact ⟨_, st.zip, fun v q => by cases (show Data.fields _ = Data.cell v from q)⟩
    · exact ⟨_, st.ti, fun v q => by cases (show Data.seq _ _ = Data.cell v from q)⟩
    · exact ⟨_, hto, fun v q => by cases (show Data.seq _ _ = Data.cell v from q)⟩
    · exact ⟨o1, p1, fun v q => by rw [d1] at q; cases q⟩
    · exact ⟨o2, p2, fun v q => by rw [d2] at q; cases q⟩
  keep := fun i h h' st k => by
    obtain ⟨x, y, hto⟩ := st.to
    exact ⟨k z (by simp) _ st.zip, k TI (by simp) _ st.ti, ⟨x, y, k TO (by simp) _ hto⟩, st.l1.at fun o q => k i1 (by simp) o q, st.l2.at fun o q => k i2 (by simp) o q⟩
  item := by
    intro X hP hw hK hc i pins s σ H E I hf st hg
    subst hP hw hK
    obtain ⟨xs, x, ys, y, hq1, hx, hq2, hy⟩ := hg
    obtain ⟨its1, rv1, p1, hz1⟩ := I.list hq1
    obtain ⟨its2, rv2, p2, hz2⟩ := I.list hq2
    obtain ⟨u1, hu1, ru1⟩ := rv1.get hx
    obtain ⟨u2, hu2, ru2⟩ := rv2.get hy
    obtain ⟨a0, b0, hto⟩ := st.to
    refine wpAny_pyNext_zip_item (st.apart D p1.isList p2.isList) st.zip st.ti hto st.l1 st.l2 p1.isList p2.isList (x := u1) (y := u2) (by simpa using hu1) (by simpa using hu2) fun h' hz' hTO' h1' h2' hT hsz hk => ?_
    have hfr := I.hok.fresh (Nat.le_refl s.heap.objs.size)
    have lt : ∀ {c : Addr} {o : Obj}, s.heap.get? c = some o → c < s.heap.objs.size := fun e => Heap.lt_size e
    have zlt := lt st.zip
    have i1lt : i1 < s.heap.objs.size := by obtain ⟨_, q, _⟩ := st.l1; exact lt q
    have i2lt : i2 < s.heap.objs.size := by obtain ⟨_, q, _⟩ := st.l2; exact lt q
    refine ⟨_, rfl, wpAny_letOwnedTupleGo_zip hz' fun h2 hz2' hs2 => ?_⟩
    have hT2 : IsPair h2 s.heap.objs.size u1 u2 := hs2.extBut _ _ (Nat.ne_of_gt zlt) hT
    have I1 : Inv X pins σ (upd H s.heap.objs.size (.tup [x, y])) { s with heap := h2 } :=
      I.turnedNew (t' := s.toks) (fp := [z, TI, TO, i1, i2]) (fun c o hc q => by
        have n1 : c ≠ z := fun e => hc (by simp [e])
        have n2 : c ≠ TO := fun e => hc (by simp [e])
        have n3 : c ≠ i1 := fun e => hc (by simp [e])
        have n4 : c ≠ i2 := fun e => hc (by simp [e])
        exact hs2.extBut c o n1 (hk c o n1 n2 n3 n4 q)) hf (Nat.le_refl _) ⟨by show 2 ≤ sizeLine; decide, [u1, u2], .cons ru1 (.cons ru2 .nil), _, hT2, rfl, _, rfl⟩
    refine ⟨.ref s.heap.objs.size, _, I1, rfl, ⟨_, x, y, hfr, rfl, rfl, fun zs hz => by rw [I.list_inj hz hq1]; exact hx, fun zs hz => by rw [I.list_inj hz hq2]; exact hy⟩, ⟨hz2', hs2.extBut _ _ D.TIz (hk _ _ D.TIz D.TITO D.TIi1 D.TIi2 st.ti), ⟨_, _, hs2.extBut _ _ D.TOz hTO'⟩, h1'.at fun o q => hs2.extBut _ _ D.i1z q, h2'.at fun o q => hs2.extBut _ _ D.i2z q⟩, fun c hc => ?_⟩
    have nb : c ≠ s.heap.objs.size := by
      simp only [List.mem_cons, List.not_mem_nil, or_false] at hc
      rcases hc with rfl | rfl | rfl | rfl | rfl
      · exact Nat.ne_of_lt zlt
      · exact Nat.ne_of_lt (lt st.ti)
      · exact Nat.ne_of_lt (lt hto)
      · exact Nat.ne_of_lt i1lt
      · exact Nat.ne_of_lt i2lt
    rw [upd_ne nb]
    exact (hf c hc).1
  done := by
    intro X hP hw hK hc i pins s σ H E I hf st hg
    subst hP hw hK
    obtain ⟨xs, ys, hq1, hq2, hx⟩ := hg
    obtain ⟨its1, rv1, p1, hz1⟩ := I.list hq1
    obtain ⟨its2, rv2, p2, hz2⟩ := I.list hq2
    obtain ⟨a0, b0, hto⟩ := st.to
    have e1 := rv1.length
    have e2 := rv2.length
    exact wpAny_pyNext_zip_end (I.ok.hd hc) (st.apart D p1.isList p2.isList) st.zip st.ti hto st.l1 st.l2 p1.isList p2.isList (by rcases hx with q | q; exact .inl (by simp; omega); exact .inr (by simp; omega)) fun h' eb => ⟨rfl, I.turnedL (t' := s.toks) (fp := [z, TI, TO, i1, i2]) (fun c o hc q => eb c o (fun e => hc (by simp [e])) (fun e => hc (by simp [e])) (fun e => hc (by simp [e])) (fun e => hc (by simp [e])) q) hf⟩
  self := fun _ _ _ _ _ st h => wpAny_pyIter_zip st.zip h
section
variable {X : Cx}
def iZip (K : PySem.W.Frag) (ta : TA) : TI := fun σ H R => ta σ H fun vs H1 => ∃ a b, vs = [.ref a, .ref b] ∧ (∃ xs, SqL K H1 a xs) ∧ (∃ ys, SqL K H1 b ys) ∧ R (Itz K a b) H1
theorem pi_zip {K : PySem.W.Frag} {a b : Expr} {ta : TA} {p pos tpos : Pos} {elts : List Expr} {k1 : Nat} (ek : X.K = K) (hg : Gl X "zip") (hm : X.mg "zip" = none) (ha : PA X [a, b] ta) (hs : starEach [a, b] X.env = (false, eval a X.env) :: starEach [b] X.env := by rfl) (hpl : (backTo pos (starEach [b] X.env)).any (·.1) = false := by rfl) :
    PI X (.Tuple elts k1 tpos) (.Call (.Name "zip" p) [a, b] [] pos) (iZip K ta) := by
  subst ek
  intro pins s σ H R I h
  refine Call_ (ld_blt I hg hm boot_zip (PyProof.Rows.callWith_type1 (thn (ha pos pins s σ H _ I h) fun us s1 ⟨vs, H1, I1, r1, q1⟩ => ?_) hs hpl))
  obtain ⟨b1, b2, rfl, ⟨xs, hq1⟩, ⟨ys, hq2⟩, q⟩ := q1
  obtain ⟨u1, u2, rfl, ru1, ru2⟩ := vals2 r1
  cases ru1
  cases ru2
  obtain ⟨its1, rv1, p1, hz1⟩ := I1.list hq1
  obtain ⟨its2, rv2, p2, hz2⟩ := I1.list hq2
  refine call_zip_2 p1.isList p2.isList fun h' hz hTI hTO h1 h2 hsz hk => ?_
  refine wpAny_pyIter_zip hz ?_
  have I2 : Inv X pins σ H1 { s1 with heap := h' } := I1.kept (t' := s1.toks) hk
  have fr : ∀ k : Nat, s1.heap.objs.size ≤ s1.heap.objs.size + k := fun k => Nat.le_add_right _ _
  refine ⟨s1.heap.objs.size + 4, [s1.heap.objs.size + 4, s1.heap.objs.size + 2, s1.heap.objs.size + 3, s1.heap.objs.size, s1.heap.objs.size + 1], _, _, H1, rfl, I2, turn_zip b1 b2 _ _ _ _ _ (zipOwn _), ⟨hz, hTI, ⟨_, _, hTO⟩, h1, h2⟩, fun c hc => ?_, q⟩
  simp only [List.mem_cons, List.not_mem_nil, or_false] at hc
  rcases hc with rfl | rfl | rfl | rfl | rfl
  · exact I1.fpOk (fr 4) (I1.hok.fresh (fr 4))
  · exact I1.fpOk (fr 2) (I1.hok.fresh (fr 2))
  · exact I1.fpOk (fr 3) (I1.hok.fresh (fr 3))
  · exact I1.fpOk (Nat.le_refl _) (I1.hok.fresh (Nat.le_refl _))
  · exact I1.fpOk (fr 1) (I1.hok.fresh (fr 1))
end
theorem walks_zip {K : PySem.W.Frag} {a b : Addr} {xs ys : List V} {H : Hp} (h1 : SqL K H a xs) (h2 : SqL K H b ys) (hl : xs.length = ys.length) : WalksY (Itz K a b) xs.length (fun i H' v H2 => ∃ t, H' t = none ∧ v = .ref t ∧ H2 = upd H' t (.tup [xs.getD i .non, ys.getD i .non])) H :=
  ⟨fun H' i e hi => ⟨xs, xs[i], ys, ys[i], e.seq h1, by simp [hi], e.seq h2, by simp⟩, fun H' i x H2 e hi ⟨t, z, z', ht, hv, hu, hz, hz'⟩ => ⟨t, ht, hv, by
    have e1 := hz xs (e.seq h1)
    have e2 := hz' ys (e.seq h2)
    rw [hu]; simp [List.getD, e1, e2]⟩, fun H' e => ⟨xs, ys, e.seq h1, e.seq h2, .inl (Nat.le_refl _)⟩⟩
namespace Rd
section
variable {K : PySem.W.Frag} {σ : St} {H : Hp}
theorem izip {ts : TA} {R : It → Hp → Prop} (h : ts σ H fun vs H1 => ∃ a b, vs = [.ref a, .ref b] ∧ (∃ xs, SqL K H1 a xs) ∧ (∃ ys, SqL K H1 b ys) ∧ R (Itz K a b) H1) : iZip K ts σ H R := h
end
end Rd
end L2
namespace L2
open PySem PySem.Spec PyProof.Rows
section
variable {X : Cx} {K : PySem.W.Frag}
theorem ps_fldaugK {o value : Expr} {ta tv : TE} {f : Str} {tpos pos : Pos} {op : Operator} {rd : V → V → Hp → VK → Prop} (ek : X.K = K) (ha : PE X o ta) (hv : PE X value tv) (hop : InOp X op rd) : PS X (.AugAssign (.Attribute o f tpos) op value pos) (sFldAug K ta tv rd f) := ek ▸ ps_fldaug ha hv hop
end
namespace Rd
end Rd
end L2
namespace L2
open PySem PySem.Spec PyProof.Rows
section
variable {X : Cx} {K : PySem.W.Frag}
def rCountI (K : PySem.W.Frag) : V → List V → Hp → VK → Prop := fun x vs H Q => ∃ (l : Addr) (ns : List Int) (k : Int), x = .ref l ∧ vs = [.int k] ∧ SqL K H l (ns.map V.int) ∧ Q (.int (ns.count k : Nat)) H
theorem mt_countI (ek : X.K = K) : MtM X "list.count" (rCountI K) := by
  subst ek
  intro pins s σ H x vs v us Q I rx rv h
  obtain ⟨l, ns, k, rfl, rfl, hH, q⟩ := h
  cases rx
  obtain ⟨u, rfl, t, rfl⟩ := vals1 rv
  obtain ⟨its, r, pl, hz⟩ := I.list hH
  exact count_list_ints pl.isList (intsAre_of r) ⟨.int _, H, I.tok _, ⟨_, rfl⟩, q⟩
theorem nolen_lri : typeLookup (.type "list_reverseiterator") "__len__" = pure none := by rw [typeLookup_type, builtinLookup_eq_fast]; kernel_rfl
theorem hint_lri : typeLookup (.type "list_reverseiterator") "__length_hint__" = pure (some (.builtin "list_reverseiterator.__length_hint__")) := by rw [typeLookup_type, builtinLookup_eq_fast]; kernel_rfl
theorem lenhint_rev {prog : Program} {w : World} {A : Around} {E : Value → Shared → Prop} {s : Shared} {r : Addr} {Q : Bool → Shared → Prop} (hT : s.TypeIs (.ref r) "list_reverseiterator") (h : Q false s) : wpAny (model prog w) A (Builtin.List.listLengthHint (.ref r)) Q E s := by
  unfold Builtin.List.listLengthHint
  refine wpAny_bind (wpAny_specialOf hT nolen_lri ?_)
  show wpAny _ A (specialOf (Value.ref r) (Str.ofString "__length_hint__") >>= _) _ _ _
  refine wpAny_bind (wpAny_specialOf hT hint_lri ?_)
  generalize hid : ("list_reverseiterator.__length_hint__" : String) = id0
  wp_delta
  rw [show splitId id0 = some ("list_reverseiterator", "__length_hint__") from by subst hid; decide +kernel]
  subst hid
  refine wpAny_bind (wpAny_isInstance (T := "list_reverseiterator") (b := true) hT (by rw [isSubtype_type]; kernel_rfl) ?_)
  refine wpAny_ite_split (fun hab => absurd hab (by decide)) (fun _ => ?_)
  refine wpAny_ite_split (fun _ => ?_) (fun hab => absurd (by decide +kernel) hab)
  refine wpAny_ite_split (fun hab => absurd hab (by decide +kernel)) (fun _ => ?_)
  exact wpAny_pure h
section
variable {prog : Program} {w : World} {A : Around} {E : Value → Shared → Prop} {s : Shared} {I l : Addr} {items : Array Value}
theorem extend_rev {R : Result → Shared → Prop} (hh : A.handled = none) (hne : l ≠ I) (hit : s.heap.IsRevIter I l ((items.size : Int) - 1 - ((0 : Nat) : Int))) (hl : s.heap.IsList l items) (S : Addr) (hSI : S ≠ I) (hSl : S ≠ l) (res : Value) (c₀ : Nat)
    (hS : s.heap.get? S = some { cls := .type "list", data := .seq #[] c₀ })
    (hR : ∀ h' tk acc' c', (∀ b o, b ≠ S → b ≠ I → s.heap.get? b = some o → h'.get? b = some o) → h'.get? S = some { cls := .type "list", dict := none, data := .seq acc' c', slots := #[] } → ItemsOf (fun i v => items[items.size - 1 - i]? = some v) acc' items.size → R (.ok (.ret res)) { s with heap := h', toks := tk }) (hn : items.size ≤ sizeLine) :
    wpAny (model prog w) A.in1 (Builtin.List.listExtendWith (.ref S) (.ref I) res)
      (fun fin s' => match fin with | .done f => R (.ok f) s' | .again c' => c'.quiet = true ∧ codeAny (model prog w) A c' R s') (fun e s' => R (.error e) s') s := by
  have hSf : S ∉ [I, l] := by simp only [List.mem_cons, List.not_mem_nil, or_false, not_or]; exact ⟨hSI, hSl⟩
  have W := PySem.Walks.listRev (prog := prog) (w := w) (A := A.in1) hh I l hne items
  unfold Builtin.List.listExtendWith
  refine wpAny_bind (wpAny_typeOf hit.typeIs ?_)
  have h1 : Builtin.List.listSameRef (.ref S) (.ref I) = false := by simp [Builtin.List.listSameRef, hSI]
  have h2 : (Value.type "list_reverseiterator" == Value.type "list") = false := by decide
  have h3 : (Value.type "list_reverseiterator" == Value.type "tuple") = false := by decide
  simp only [h1, h2, h3, Bool.or_false, Bool.false_eq_true, if_false]
  refine wpAny_bind (wpAny_pyIter_revIter hit ?_)
  refine wpAny_bind (wpAny_holding (lenhint_rev hit.typeIs ?_))
  refine wpAny_ite_split (fun hab => absurd hab (by decide +kernel)) (fun _ => wpAny_pure ⟨plainId_quiet PySem.F.plain_extend_loop _, ?_⟩)
  refine codeAny_extend_loopS W.toS hn S hSf res items.size 0 _ #[] c₀ rfl (Nat.zero_le _) ⟨Nat.zero_le _, hit, hl⟩ hS (ItemsOf.nil _) fun s' acc' c' hm hS' hacc => ?_
  rw [Moved.eq_with hm]
  refine hR s'.heap s'.toks acc' c' (fun b o hb hb2 e => hm.heap b o (fun hmem => ?_) e) hS' hacc
  rcases List.mem_cons.mp hmem with e' | hmem
  · exact hb e'
  · exact hb2 (List.mem_singleton.mp hmem)
theorem init_rev {R : Result → Shared → Prop} (hh : A.handled = none) (hne : l ≠ I) (hit : s.heap.IsRevIter I l ((items.size : Int) - 1 - ((0 : Nat) : Int))) (hl : s.heap.IsList l items) (S : Addr) (hSI : S ≠ I) (hSl : S ≠ l)
    (hS : s.heap.get? S = some { cls := .type "list", data := .seq #[] })
    (hR : ∀ h' tk acc' c', (∀ b o, b ≠ S → b ≠ I → s.heap.get? b = some o → h'.get? b = some o) → h'.get? S = some { cls := .type "list", dict := none, data := .seq acc' c', slots := #[] } → ItemsOf (fun i v => items[items.size - 1 - i]? = some v) acc' items.size → R (.ok (.ret .none)) { s with heap := h', toks := tk }) (hn : items.size ≤ sizeLine) :
    wpAny (model prog w) A.in1 (Builtin.«list.__init__» ⟨[.ref S, .ref I], []⟩)
      (fun fin s' => match fin with | .done f => R (.ok f) s' | .again c' => c'.quiet = true ∧ codeAny (model prog w) A c' R s') (fun e s' => R (.error e) s') s := by
  show wpAny _ _ (do let old ← Builtin.List.listItems (.ref S); Builtin.List.listUpdate (.ref S) (fun _ => #[]); letGo old.toList.reverse; Builtin.List.listExtendWith (.ref S) (.ref I) .none) _ _ s
  refine wpAny_bind ?_
  unfold Builtin.List.listItems
  refine wpAny_bind (wpAny_seqItems hS rfl (wpAny_pure ?_))
  show wpAny _ _ (updateSeq S (fun _ => #[]) >>= fun _ => letGo (#[] : Array Value).toList.reverse >>= fun _ => Builtin.List.listExtendWith (.ref S) (.ref I) .none) _ _ s
  refine wpAny_bind (wpAny_updateSeq hS rfl ?_)
  have hS₂ := Heap.get?_update_self (Obj.mapSeq (fun _ => (#[] : Array Value))) hS rfl
  have oth : ∀ b o, b ≠ S → s.heap.get? b = some o → (s.heap.update S (Obj.mapSeq (fun _ => (#[] : Array Value)))).get? b = some o :=
    fun b o hb e => (Heap.get?_update_other _ _ (Ne.symm hb)).trans e
  refine wpAny_bind (wpAny_letGo ?_)
  refine extend_rev hh hne (hit.at fun o e => oth _ o (Ne.symm hSI) e) (hl.at fun o e => oth _ o (Ne.symm hSl) e) S hSI hSl .none _ hS₂ (fun h' tk acc' c' hk hS' hacc => ?_) hn
  exact hR h' tk acc' c' (fun b o hb hb2 e => hk b o hb hb2 (oth b o hb e)) hS' hacc
theorem call_list_rev {Q : Value → Shared → Prop} (hh : A.handled = none) (hne : l ≠ I) (hit : s.heap.IsRevIter I l ((items.size : Int) - 1 - ((0 : Nat) : Int))) (hl : s.heap.IsList l items) (hn : items.size ≤ sizeLine)
    (hQ : ∀ h' tk acc' c', (∀ b o, b ≠ I → s.heap.get? b = some o → h'.get? b = some o) → h'.get? s.heap.objs.size = some { cls := .type "list", dict := none, data := .seq acc' c', slots := #[] } → ItemsOf (fun i v => items[items.size - 1 - i]? = some v) acc' items.size → Q (.ref s.heap.objs.size) { s with heap := h', toks := tk }) :
    wpAny (model prog w) A (call (.type "list") [.ref I]) Q E s := by
  refine callType_codes (Q₁ := fun obj s₁ => obj = .ref s.heap.objs.size ∧ s₁ = { s with heap := s.heap.push { cls := .type "list", data := .seq #[] } }) PySem.F.called_list (PySem.F.typeCall_list_1 _) PySem.F.entry_list_init
    (code_list_new _ ⟨rfl, rfl⟩) fun obj s₁ h₁ => ?_
  obtain ⟨rfl, rfl⟩ := h₁
  have hS : (s.heap.push { cls := .type "list", data := .seq #[] }).get? s.heap.objs.size = some { cls := .type "list", data := .seq #[] } := Heap.get?_push_size _ rfl
  have n1 : s.heap.objs.size ≠ I := by
    obtain ⟨o, ho, _⟩ := hit
    exact Nat.ne_of_gt (Heap.lt_size ho)
  have n2 : s.heap.objs.size ≠ l := by
    obtain ⟨o, ho, _⟩ := hl
    exact Nat.ne_of_gt (Heap.lt_size ho)
  refine ⟨⟨_, hS, rfl⟩, PySem.F.args_list_init_2 _ _, init_rev (A := A.in1) hh hne (hit.at fun o e => Heap.get?_push_of_some _ e) (hl.at fun o e => Heap.get?_push_of_some _ e) _ n1 n2 hS (fun h' tk acc' c' hk hS' hacc => ?_) hn⟩
  exact ⟨rfl, hQ h' tk acc' c' (fun b o hb e => hk b o (Nat.ne_of_lt (Heap.lt_size e)) hb (Heap.get?_push_of_some _ e)) hS' hacc⟩
end
def tLRev (K : PySem.W.Frag) (ta : TA) : TE := fun σ H Q => ta σ H fun vs H1 => ∃ a xs, vs = [.ref a] ∧ SqL K H1 a xs ∧ ∀ l, H1 l = none → Q (.ref l) (upd H1 l (.lst xs.reverse))
theorem pe_lrev {a : Expr} {ta : TA} {p p1 pos pos1 : Pos} (ek : X.K = K) (hc : X.calm = true) (hgl : Gl X "list") (hml : X.mg "list" = none) (hg : Gl X "reversed") (hm : X.mg "reversed" = none) (ha : PA X [a] ta)
    (hs : starEach [a] X.env = [(false, eval a X.env)] := by rfl)
    (he : starEach [Expr.Call (.Name "reversed" p) [a] [] pos] X.env = (false, eval (.Call (.Name "reversed" p) [a] [] pos) X.env) :: starEach [] X.env := by rfl) :
    PE X (.Call (.Name "list" p1) [.Call (.Name "reversed" p) [a] [] pos] [] pos1) (tLRev K ta) := by
  subst ek
  intro pins s σ H Q I h
  refine wpAny_Call_Name_kw (ld_blt I hgl hml boot_list ?_)
  refine PyProof.Rows.callWith_type1 ?_ he rfl
  rw [he]
  show wpAny _ _ (spliced ((false, eval (.Call (.Name "reversed" p) [a] [] pos) X.env) :: [])) _ _ s
  refine Calls.spliced_cons (Call_ (ld_blt I hg hm boot_reversed (PyProof.Rows.callWith_type1 (thn (ha pos pins s σ H _ I h) fun us s1 ⟨vs, H1, I1, r1, q1⟩ => ?_) hs rfl)))
  obtain ⟨b, xs, rfl, hq, q⟩ := q1
  obtain ⟨u, rfl, ru⟩ := vals1 r1
  cases ru
  obtain ⟨its, rv, pl, hz⟩ := I1.list hq
  have hl := rv.length
  refine call_reversed_list pl.isList (Calls.spliced_nil ?_)
  have hit : (s1.heap.push (revObj b (((its.toArray.size : Nat) : Int) - 1))).IsRevIter s1.heap.objs.size b (((its.toArray.size : Nat) : Int) - 1 - ((0 : Nat) : Int)) := by
    refine ⟨_, Heap.get?_push_size _ rfl, rfl, ?_⟩
    show Data.fields #[Value.ref b, rawInt (((its.toArray.size : Nat) : Int) - 1)] = _
    simp
  have hbl : b ≠ s1.heap.objs.size := by
    obtain ⟨o, ho, _⟩ := pl.isList
    exact Nat.ne_of_lt (Heap.lt_size ho)
  have I2 : Inv X pins σ H1 { s1 with heap := s1.heap.push (revObj b (((its.toArray.size : Nat) : Int) - 1)) } := I1.kept (t' := s1.toks) fun b o e => Heap.get?_push_of_some _ e
  have hz' : its.toArray.size ≤ sizeLine := by rw [List.size_toArray, ← hl]; exact hz
  refine call_list_rev (I1.ok.hd hc) hbl hit (pl.isList.at fun o e => Heap.get?_push_of_some _ e) hz' fun h' tk acc c' hk hS hacc => ?_
  have hk' : ∀ b o, s1.heap.get? b = some o → h'.get? b = some o := fun b o e => hk b o (Nat.ne_of_lt (Heap.lt_size e)) (Heap.get?_push_of_some _ e)
  have hsz : s1.heap.objs.size ≤ (s1.heap.push (revObj b (((its.toArray.size : Nat) : Int) - 1))).objs.size := by rw [Heap.size_push]; omega
  refine ⟨.ref (s1.heap.push (revObj b (((its.toArray.size : Nat) : Int) - 1))).objs.size, _, I1.laid (a := (s1.heap.push (revObj b (((its.toArray.size : Nat) : Int) - 1))).objs.size) (o := .lst xs.reverse) (t' := tk) hk' hsz ⟨by rw [List.length_reverse]; exact hz, acc.toList, c', ?_, by simpa using hS⟩, rfl, q _ (I1.hok.fresh hsz)⟩
  refine vals_pt (by rw [Array.length_toList, hacc.1, List.length_reverse, List.size_toArray, hl]) fun j v u e1 e2 => ?_
  have h2 := hacc.2 j u (by rw [← Array.getElem?_toList]; exact e2)
  have hj : j < xs.length := by
    have := (List.getElem?_eq_some_iff.mp e1).1
    simpa using this
  rw [List.getElem?_reverse hj] at e1
  obtain ⟨u', hu', r'⟩ := rv.get e1
  have e3 : its.toArray[its.toArray.size - 1 - j]? = some u' := by rw [List.size_toArray, ← hl]; simpa using hu'
  rw [e3] at h2
  cases h2
  exact r'
theorem compF_walk {own : Nat} {ix : List Nat} {g : TG} {tc : TT} {te : TE} {Q : Addr → Hp → Prop} {σ : St} {H : Hp} {J : It} {n : Nat} {y : Nat → Hp → V → Hp → Prop} (w : WalksY J n y H) (hn : n < sizeLine) (s : Nat → List (Option V)) (hs : ∀ i, (s i).length = own) (R : Nat → V → List Addr → Hp → Prop)
    (mono : ∀ i v fp H1 H2, Same H1 H2 → R i v fp H1 → R i v fp H2) (dom : ∀ i v fp H1, R i v fp H1 → ∀ x ∈ fp, H1 x ≠ none)
    (hg : ∀ i a H' v H2 (Kg : St → Hp → Prop), i < n → Same H H' → y i H' v H2 → a.length = own → (∀ H3, Same H' H3 → Kg (s i ++ ix.map fun j => (σ[j]?).join) H3) → g v (a ++ ix.map fun j => (σ[j]?).join) H2 Kg)
    (hc : ∀ i H' (Kc : Bool → Hp → Prop), i < n → Same H H' → (∀ H4, Same H' H4 → Kc true H4) → tc (s i ++ ix.map fun j => (σ[j]?).join) H' Kc)
    (he : ∀ p i H' (Kc : VK), i < n → H p = none → (∃ ys, H' p = some (.lst ys)) → Same H H' → (∀ v fp H5, Same H' H5 → R i v fp (hid H5 p) → (∀ x ∈ fp, H' x = none) → Kc v H5) → te (s i ++ ix.map fun j => (σ[j]?).join) H' Kc)
    (q : ∀ p H' (ys : List V) (fs : List (List Addr)), H p = none → Same H H' → H' p = some (.lst ys) → ys.length = n → fs.length = n → (∀ i < n, R i (ys.getD i .non) (fs.getD i []) (hid H' p)) → (∀ i j, i < j → j < n → ∀ x ∈ fs.getD i [], x ∉ fs.getD j []) → (∀ i < n, ∀ x ∈ fs.getD i [], H x = none ∧ x ≠ p) → Q p H') :
    ∀ p, H p = none → ∃ W : Nat → Nat → List V → St → Hp → Prop, (∃ m, W 0 m [] (embN own ix σ) (upd H p (.lst []))) ∧ ∀ i m ys σ' H', W i m ys σ' H' →
      (J.stop i H' ∧ Q p H') ∨ (J.go i H' ∧ ∀ x H2, J.yld i H' x H2 → g x σ' H2 fun σ2 H3 => tc σ2 H3 fun b H4 =>
        if b = true then te σ2 H4 fun v H5 => H5 p = some (.lst ys) ∧ ys.length < sizeLine ∧ ∃ m', m' < m ∧ W (i + 1) m' (ys ++ [v]) σ2 (upd H5 p (.lst (ys ++ [v])))
        else ∃ m', m' < m ∧ W (i + 1) m' ys σ2 H4) := by
  intro p hp
  have hidS : ∀ {H1 H2 : Hp}, Same H1 H2 → Same (hid H1 p) (hid H2 p) := fun {H1 H2} e b o z => by
    by_cases h : b = p
    · rw [h, hid_self] at z; cases z
    · rw [hid_ne h] at z ⊢; exact e b o z
  have hidU : ∀ {H1 : Hp} {o : HO}, Same (hid H1 p) (hid (upd H1 p o) p) := fun {H1 o} b u z => by
    by_cases h : b = p
    · rw [h, hid_self] at z; cases z
    · rw [hid_ne h] at z ⊢; rw [upd_ne h]; exact z
  have gl : ∀ {α : Type} {l : List α} {x d : α} {i : Nat}, i < l.length → (l ++ [x]).getD i d = l.getD i d := fun {α l x d i} h => by simp [List.getD, List.getElem?_append_left h]
  have ge : ∀ {α : Type} {l : List α} {x d : α}, (l ++ [x]).getD l.length d = x := fun {α l x d} => by simp [List.getD]
  refine ⟨fun i m ys σ' H' => m = n - i ∧ i ≤ n ∧ (∃ a, a.length = own ∧ σ' = a ++ ix.map fun j => (σ[j]?).join) ∧ Same H H' ∧ H' p = some (.lst ys) ∧ ys.length = i ∧ ∃ fs : List (List Addr), fs.length = i ∧ (∀ j < i, R j (ys.getD j .non) (fs.getD j []) (hid H' p)) ∧ (∀ j k, j < k → k < i → ∀ x ∈ fs.getD j [], x ∉ fs.getD k []) ∧ (∀ j < i, ∀ x ∈ fs.getD j [], H x = none ∧ x ≠ p),
    ⟨n, by simp, Nat.zero_le _, ⟨List.replicate own none, List.length_replicate, rfl⟩, same_new hp, upd_same, rfl, [], rfl, fun j hj => absurd hj (Nat.not_lt_zero _), fun j k _ hk => absurd hk (Nat.not_lt_zero _), fun j hj => absurd hj (Nat.not_lt_zero _)⟩, ?_⟩
  rintro i m ys σ' H' ⟨rfl, hi, ⟨a, ha, rfl⟩, sm, hy, hyl, fs, hfl, hR, hD, hN⟩
  by_cases hlt : i < n
  · refine .inr ⟨w.go H' i sm hlt, fun x H2 yl => ?_⟩
    refine hg i a H' x H2 _ hlt sm (w.yld H' i x H2 sm hlt yl) ha fun H3 s3 => ?_
    refine hc i H3 _ hlt (sm.trans s3) fun H4 s4 => ?_
    have sm4 := (sm.trans s3).trans s4
    have hy4 := s4 _ _ (s3 _ _ hy)
    rw [if_pos rfl]
    refine he p i H4 _ hlt hp ⟨ys, hy4⟩ sm4 fun v fp H5 s5 r5 nw => ⟨s5 _ _ hy4, by omega, n - (i + 1), by omega, rfl, hlt, ⟨s i, hs i, rfl⟩, (sm4.trans s5).new hp, upd_same, by simp [hyl], fs ++ [fp], by simp [hfl], fun j hj => ?_, fun j k hjk hk x hx => ?_, fun j hj x hx => ?_⟩
    · by_cases e : j = i
      · subst e
        have e1 : (ys ++ [v]).getD j .non = v := by rw [← hyl]; exact ge
        have e2 : (fs ++ [fp]).getD j [] = fp := by rw [← hfl]; exact ge
        rw [e1, e2]
        exact mono _ _ _ _ _ hidU r5
      · have hj' : j < i := by omega
        rw [gl (by omega), gl (by omega)]
        exact mono _ _ _ _ _ ((hidS ((s3.trans s4).trans s5)).trans hidU) (hR j hj')
    · have hj' : j < i := by omega
      rw [gl (by omega)] at hx
      by_cases e : k = i
      · subst e
        have e2 : (fs ++ [fp]).getD k [] = fp := by rw [← hfl]; exact ge
        rw [e2]
        intro z
        have h1 := dom _ _ _ _ (hR j hj') x hx
        have np := (hN j hj' x hx).2
        rw [hid_ne np] at h1
        cases q1 : H' x with
        | none => exact h1 q1
        | some o => have := nw x z; rw [s4 _ _ (s3 _ _ q1)] at this; cases this
      · rw [gl (by omega)]
        exact hD j k hjk (by omega) x hx
    · by_cases e : j = i
      · subst e
        have e2 : (fs ++ [fp]).getD j [] = fp := by rw [← hfl]; exact ge
        rw [e2] at hx
        have h4 := nw x hx
        refine ⟨?_, fun z => by rw [z, hy4] at h4; cases h4⟩
        cases q1 : H x with
        | none => rfl
        | some o => rw [sm4 _ _ q1] at h4; cases h4
      · rw [gl (by omega)] at hx
        exact hN j (by omega) x hx
  · have e : i = n := by omega
    subst e
    exact .inl ⟨w.stop H' sm, q p H' ys fs hp sm hy hyl hfl hR hD hN⟩
end
namespace Rd
theorem countI {H : Hp} {K : PySem.W.Frag} {Q : VK} {l : Addr} {ns : List Int} {k : Int} (h : SqL K H l (ns.map V.int)) (q : Q (.int (ns.count k : Nat)) H) : rCountI K (.ref l) [.int k] H Q := ⟨l, ns, k, rfl, rfl, h, q⟩
theorem lrev {σ : St} {H : Hp} {Q : VK} {K : PySem.W.Frag} {ta : TA} (h : ta σ H fun vs H1 => ∃ a xs, vs = [.ref a] ∧ SqL K H1 a xs ∧ ∀ l, H1 l = none → Q (.ref l) (upd H1 l (.lst xs.reverse))) : tLRev K ta σ H Q := h
end Rd
end L2
namespace My
@[irreducible] def G (a b : Int) : Int := ((Int.gcd a b : Nat) : Int)
theorem G_nat (n m : Nat) : G (n : Int) (m : Int) = ((Nat.gcd n m : Nat) : Int) := by
  unfold G
  rfl
theorem G_zero {a b : Int} (ha : 0 ≤ a) (hb : b = 0) : G a b = a := by
  subst hb
  obtain ⟨n, rfl⟩ := Int.eq_ofNat_of_zero_le ha
  have := G_nat n 0
  rw [Nat.gcd_zero_right] at this
  exact this
theorem G_turn {a b : Int} (ha : 0 ≤ a) (hb : 0 < b) : G b (Int.fmod a b) = G a b := by
  obtain ⟨n, rfl⟩ := Int.eq_ofNat_of_zero_le ha
  obtain ⟨m, rfl⟩ := Int.eq_ofNat_of_zero_le (Int.le_of_lt hb)
  rw [Int.fmod_eq_emod_of_nonneg _ (Int.natCast_nonneg m), ← Int.natCast_emod, G_nat, G_nat, Nat.gcd_comm n m, Nat.gcd_rec m n, Nat.gcd_comm]
structure S (k : Nat) (x : Int) : Prop where
  lo : 0 ≤ x
  hi : x.toNat < 2 ^ (2048 * 2 ^ k)
theorem two_le {j k : Nat} (h : j ≤ k) : 2 ^ (2048 * 2 ^ j) ≤ 2 ^ (2048 * 2 ^ k) :=
  Nat.pow_le_pow_right (by decide) (Nat.mul_le_mul_left _ (Nat.pow_le_pow_right (by decide) h))
theorem S.mono {j k : Nat} {x : Int} (h : S j x) (hj : j ≤ k) : S k x := ⟨h.lo, Nat.lt_of_lt_of_le h.hi (two_le hj)⟩
end My
namespace MM
structure Sys where
  n : Nat
  taker : Nat → Int
  giver : Nat → Int
  take : Nat → Nat
  out : Nat → List Int → List Int
def slots (S : Sys) (st : Nat → List Int) (w : Int) : List Int := ((List.range S.n).filter fun i => decide (S.taker i = w)).flatMap fun i => (st i).take (S.take i)
def step (S : Sys) (st : Nat → List Int) (w : Int) : Nat → List Int := fun i =>
  if i < S.n then (if S.taker i = w then (st i).drop (S.take i) else st i) ++ (if S.giver i = w then S.out i (slots S st w) else []) else st i
def ok (S : Sys) (st : Nat → List Int) (w : Int) : Prop := ∀ i < S.n, S.taker i = w → S.take i ≤ (st i).length
def run (S : Sys) (st : Nat → List Int) : List Int → Nat → List Int
  | [] => st
  | w :: ws => run S (step S st w) ws
def Ok (S : Sys) (st : Nat → List Int) : List Int → Prop
  | [] => True
  | w :: ws => ok S st w ∧ Ok S (step S st w) ws
variable {S : Sys} {st : Nat → List Int}
theorem ok_step {x w : Int} (h : ok S st w) (n : x ≠ w) : ok S (step S st x) w := by
  intro i hi e
  unfold step
  rw [if_pos hi, if_neg (by rw [e]; exact fun z => n z.symm), List.length_append]
  have := h i hi e
  omega
theorem slots_step {x w : Int} (h : ok S st w) (n : x ≠ w) : slots S (step S st x) w = slots S st w := by
  unfold slots
  rw [List.flatMap_def, List.flatMap_def]
  congr 1
  refine List.map_congr_left fun i hi => ?_
  obtain ⟨h1, h2⟩ := List.mem_filter.mp hi
  have hi := List.mem_range.mp h1
  have e := of_decide_eq_true h2
  unfold step
  rw [if_pos hi, if_neg (by rw [e]; exact fun z => n z.symm), List.take_append_of_le_length (h i hi e)]
theorem swap {x w : Int} (hx : ok S st x) (hw : ok S st w) (n : x ≠ w) : step S (step S st x) w = step S (step S st w) x := by
  funext i
  have e1 := slots_step hw n
  have e2 := slots_step hx (Ne.symm n)
  show (if i < S.n then (if S.taker i = w then (step S st x i).drop (S.take i) else step S st x i) ++ (if S.giver i = w then S.out i (slots S (step S st x) w) else []) else step S st x i) = (if i < S.n then (if S.taker i = x then (step S st w i).drop (S.take i) else step S st w i) ++ (if S.giver i = x then S.out i (slots S (step S st w) x) else []) else step S st w i)
  rw [e1, e2]
  by_cases hi : i < S.n
  · rw [if_pos hi, if_pos hi]
    unfold step
    rw [if_pos hi, if_pos hi]
    by_cases t1 : S.taker i = x <;> by_cases t2 : S.taker i = w
    · exact absurd (t1.symm.trans t2) n
    · by_cases g1 : S.giver i = x <;> by_cases g2 : S.giver i = w
      · exact absurd (g1.symm.trans g2) n
      · have := hx i hi t1
        simp [t1, g1, n]
      · have := hx i hi t1
        simp only [t1, g2, n, Ne.symm n, if_true, if_false, List.append_nil]
        rw [List.drop_append_of_le_length this]
      · simp [t1, t2, g1, g2, n]
    · by_cases g1 : S.giver i = x <;> by_cases g2 : S.giver i = w
      · exact absurd (g1.symm.trans g2) n
      · have := hw i hi t2
        simp only [t2, g1, n, Ne.symm n, if_true, if_false, List.append_nil]
        rw [List.drop_append_of_le_length this]
      · have := hw i hi t2
        simp [t2, g2, n, Ne.symm n]
      · simp [t1, t2, g1, g2, n, Ne.symm n]
    · by_cases g1 : S.giver i = x <;> by_cases g2 : S.giver i = w
      · exact absurd (g1.symm.trans g2) n
      · simp [t1, t2, g1, g2, n, Ne.symm n]
      · simp [t1, t2, g1, g2, n, Ne.symm n]
      · simp [t1, t2, g1, g2]
  · rw [if_neg hi, if_neg hi]
    unfold step
    rw [if_neg hi, if_neg hi]
theorem front : ∀ {a : List Int} {st : Nat → List Int} {w : Int} {b : List Int}, ok S st w → w ∉ a → Ok S st (a ++ w :: b) → Ok S st (w :: (a ++ b)) ∧ run S st (w :: (a ++ b)) = run S st (a ++ w :: b)
  | [], _, _, _, _, _, h => ⟨h, rfl⟩
  | x :: a, st, w, b, hw, hn, ⟨hx, h⟩ => by
    have n : x ≠ w := fun z => hn (by rw [z]; exact List.mem_cons_self)
    obtain ⟨⟨_, k1⟩, k2⟩ := front (ok_step hw n) (fun z => hn (List.mem_cons_of_mem _ z)) h
    have e := swap hx hw n
    refine ⟨⟨hw, ok_step hx (Ne.symm n), ?_⟩, ?_⟩
    · rw [← e]; exact k1
    · show run S (step S (step S st w) x) (a ++ b) = run S (step S st x) (a ++ w :: b)
      rw [← k2, ← e]; rfl
theorem same : ∀ {xs ys : List Int} {st : Nat → List Int}, xs.Perm ys → Ok S st xs → Ok S st ys → run S st xs = run S st ys
  | [], ys, st, p, _, _ => by rw [List.nil_perm.mp p]
  | w :: xs, ys, st, p, ⟨hw, hx⟩, hy => by
    obtain ⟨a, b, rfl, hn⟩ := List.eq_append_cons_of_mem (p.subset (List.mem_cons_self (a := w)))
    obtain ⟨⟨_, k1⟩, k2⟩ := front hw hn hy
    rw [← k2]
    show run S (step S st w) xs = run S (step S st w) (a ++ b)
    have q : xs.Perm (a ++ b) := (p.trans List.perm_middle).cons_inv
    exact same q hx k1
theorem run_snoc : ∀ {ws : List Int} {st : Nat → List Int} {w : Int}, run S st (ws ++ [w]) = step S (run S st ws) w
  | [], _, _ => rfl
  | _ :: ws, _, _ => run_snoc (ws := ws)
theorem Ok_take : ∀ {ws : List Int} {st : Nat → List Int} {i : Nat} {w : Int}, Ok S st ws → ws[i]? = some w → ok S (run S st (ws.take i)) w
  | [], _, _, _, _, e => by simp at e
  | x :: ws, st, 0, w, ⟨h, _⟩, e => by simp at e; subst e; exact h
  | x :: ws, st, i + 1, w, ⟨_, h⟩, e => Ok_take (ws := ws) (i := i) h (by simpa using e)
end MM
set_option Elab.async false
set_option linter.all false
set_option maxRecDepth 100000
set_option maxHeartbeats 4000000
local macro_rules | `(tactic| walk_at "mul") => `(tactic| k_dflt (first | with_reducible assumption | exact L2.CMul.ok (Or.inr ⟨by omega, by omega⟩) | exact L2.CMul.ok (Or.inl ⟨by omega, by omega⟩)))
local macro_rules | `(tactic| walk_at "lk") => `(tactic| first | exact L2.Rd.lk0 | exact L2.Rd.lkN | (refine L2.Rd.lk1 (by decide +kernel) ?_; walk_at "lk"))
local macro_rules | `(tactic| walk_at "pf") => `(tactic| first | exact L2.Rd.pf0 | exact L2.Rd.pfN | (apply L2.Rd.pf1; (decide +kernel); walk_at "pf"))
local macro_rules | `(tactic| walk_at "na") => `(tactic| exact L2.NoAttrs.get (by with_reducible assumption) (by decide +kernel))
local macro_rules | `(tactic| walk_at "cond") => `(tactic| k_dflt (first | with_reducible assumption | decide | omega | (simp; done) | (simp only [List.length_cons, List.length_nil, List.length_map, List.length_append]; omega)))
local macro_rules | `(tactic| walk_at "rdis") => `(tactic| ((with_reducible show ∃ x n t b, _ = _ ∧ L2.TyOf _ _ x t ∧ _); first | with_reducible apply L2.Rd.is_int_int | with_reducible apply L2.Rd.is_int_bool | with_reducible apply L2.Rd.is_int_str | with_reducible apply L2.Rd.is_int_list | with_reducible apply L2.Rd.is_int_tuple | with_reducible apply L2.Rd.is_int_dict | with_reducible apply L2.Rd.is_bl_int | with_reducible apply L2.Rd.is_bl_bool | with_reducible apply L2.Rd.is_bl_str | with_reducible apply L2.Rd.is_bl_list | with_reducible apply L2.Rd.is_bl_tuple | with_reducible apply L2.Rd.is_bl_dict | with_reducible apply L2.Rd.is_str_int | with_reducible apply L2.Rd.is_str_bool | with_reducible apply L2.Rd.is_str_str | with_reducible apply L2.Rd.is_str_list | with_reducible apply L2.Rd.is_str_tuple | with_reducible apply L2.Rd.is_str_dict | with_reducible apply L2.Rd.is_non_int | with_reducible apply L2.Rd.is_non_bool | with_reducible apply L2.Rd.is_non_str | with_reducible apply L2.Rd.is_non_list | with_reducible apply L2.Rd.is_non_tuple | with_reducible apply L2.Rd.is_non_dict | with_reducible refine L2.Rd.is_lst_int (by with_reducible assumption) ?_ | with_reducible refine L2.Rd.is_lst_bool (by with_reducible assumption) ?_ | with_reducible refine L2.Rd.is_lst_str (by with_reducible assumption) ?_ | with_reducible refine L2.Rd.is_lst_list (by with_reducible assumption) ?_ | with_reducible refine L2.Rd.is_lst_tuple (by with_reducible assumption) ?_ | with_reducible refine L2.Rd.is_lst_dict (by with_reducible assumption) ?_ | with_reducible refine L2.Rd.is_tup_int (by with_reducible assumption) ?_ | with_reducible refine L2.Rd.is_tup_bool (by with_reducible assumption) ?_ | with_reducible refine L2.Rd.is_tup_str (by with_reducible assumption) ?_ | with_reducible refine L2.Rd.is_tup_list (by with_reducible assumption) ?_ | with_reducible refine L2.Rd.is_tup_tuple (by with_reducible assumption) ?_ | with_reducible refine L2.Rd.is_tup_dict (by with_reducible assumption) ?_ | with_reducible refine L2.Rd.is_dK_int (by with_reducible assumption) ?_ | with_reducible refine L2.Rd.is_dK_bool (by with_reducible assumption) ?_ | with_reducible refine L2.Rd.is_dK_str (by with_reducible assumption) ?_ | with_reducible refine L2.Rd.is_dK_list (by with_reducible assumption) ?_ | with_reducible refine L2.Rd.is_dK_tuple (by with_reducible assumption) ?_ | with_reducible refine L2.Rd.is_dK_dict (by with_reducible assumption) ?_))
local macro_rules | `(tactic| walk_at "side") => `(tactic| k_dflt (first | with_reducible assumption | decide | (dsimp only; decide) | (dsimp only [L2.CPow]; decide) | omega | (dsimp only; omega)))
local macro_rules | `(tactic| walk_at "hp") => `(tactic| with_reducible (first | assumption | ((show L2.SqL _ _ _ _); (first | exact L2.SqL.of (by assumption) | exact L2.OffL.sq (by assumption) | exact L2.Same.seq (by assumption) (by assumption))) | ((show L2.SqT _ _ _ _); (first | exact L2.SqT.of (by assumption) | exact L2.OffT.sq (by assumption) | exact L2.Same.seqT (by assumption) (by assumption)))))
local macro_rules | `(tactic| walk_at "rd") => `(tactic| first
  | with_reducible apply L2.Rd.seq | with_reducible apply L2.Rd.asg | with_reducible apply L2.Rd.ret | with_reducible apply L2.Rd.ifs | with_reducible apply L2.Rd.next | with_reducible apply L2.Rd.drop
  | with_reducible apply L2.Rd.op | with_reducible apply L2.Rd.un | with_reducible apply L2.Rd.test | with_reducible apply L2.Rd.con | ((with_reducible show L2.tVar _ _ _ _); with_reducible refine L2.Rd.var (by k_dflt rfl) ?_) | ((with_reducible show L2.gName _ _ _ _ _); with_reducible refine L2.Rd.nameS (by k_dflt (dsimp only [L2.start, List.map_cons, List.map_nil, List.cons_append, List.nil_append, List.length_cons, List.length_nil, Nat.reduceAdd, Nat.reduceSub, List.replicate, List.set]; (try rfl))) ?_) | with_reducible apply L2.Rd.name
  | with_reducible apply L2.Rd.call | with_reducible apply L2.Rd.cons | with_reducible apply L2.Rd.nil | with_reducible apply L2.Rd.cb | with_reducible apply L2.Rd.tup | with_reducible apply L2.Rd.lst
  | with_reducible apply L2.Rd.and_ | with_reducible apply L2.Rd.or_ | with_reducible apply L2.Rd.not_ | with_reducible apply L2.Rd.andV | with_reducible apply L2.Rd.orV | with_reducible apply L2.Rd.notV
  | with_reducible apply L2.Rd.par | with_reducible apply L2.Rd.i0 | ((with_reducible show L2.rI _ _ _ _ _ _); with_reducible refine L2.Rd.iC (by walk_at "side") ?_) | with_reducible apply L2.Rd.bl | with_reducible apply L2.Rd.two
  | with_reducible apply L2.Rd.addI | ((with_reducible show L2.rOr L2.rMulI _ _ _ _ _); with_reducible refine L2.Rd.mulI (by walk_at "mul") ?_) | with_reducible apply L2.Rd.eqUI | with_reducible apply L2.Rd.neUI | with_reducible apply L2.Rd.eqUS | with_reducible apply L2.Rd.neUS | with_reducible apply L2.Rd.eqUB | with_reducible apply L2.Rd.neUB
  | with_reducible refine L2.Rd.addS (by walk_at "side") ?_
  | ((with_reducible show L2.rIx _ _ _ _ _); with_reducible refine L2.Rd.ixuT (by walk_at "hp") (by k_dflt rfl) ?_) | ((with_reducible show L2.rIx _ _ _ _ _); with_reducible refine L2.Rd.ixuL (by walk_at "hp") (by k_dflt (first | rfl | with_reducible assumption)) ?_)
  | with_reducible apply L2.Rd.un1 | with_reducible refine L2.Rd.ilist2 (by walk_at "hp") ?_ | with_reducible refine L2.Rd.rng1' (by k_dflt omega) (by k_dflt omega) ?_ | with_reducible refine L2.Rd.rng2' (by k_dflt omega) ?_ | with_reducible apply L2.Rd.min2
  | ((with_reducible show ∃ x n, _ = _ ∧ L2.LenV _ x _ n ∧ _); with_reducible refine L2.Rd.lenT' (by walk_at "hp") ?_) | ((with_reducible show ∃ x n, _ = _ ∧ L2.LenV _ x _ n ∧ _); with_reducible refine L2.Rd.lenL (by walk_at "hp") ?_) | ((with_reducible show ∃ x n, _ = _ ∧ L2.LenV _ x _ n ∧ _); with_reducible refine L2.Rd.lenS (by walk_at "side") ?_)
  | walk_at "rdis"
  | with_reducible apply L2.Rd.truB | with_reducible apply L2.Rd.tru | with_reducible apply L2.Rd.rlen | with_reducible apply L2.Rd.risi | with_reducible apply L2.Rd.rall
  | with_reducible apply L2.Rd.bm | with_reducible apply L2.Rd.bm0 | ((with_reducible show L2.tyV _ _ _ _ ∧ _); with_reducible refine L2.Rd.tyl (by with_reducible assumption) ?_) | ((with_reducible show L2.rAppend _ _ _ _); with_reducible refine L2.Rd.app (by with_reducible assumption) (by walk_at "side") ?_)
  | with_reducible apply L2.iteT | with_reducible apply L2.iteF | with_reducible apply L2.Rd.iteNT | with_reducible apply L2.Rd.iteNF
  | ((with_reducible show if decide _ = true then _ else _); with_reducible refine L2.Rd.ifP (by walk_at "cond") ?_) | ((with_reducible show if decide _ = true then _ else _); with_reducible refine L2.Rd.ifN (by walk_at "cond") ?_) | ((with_reducible show if (!decide _) = true then _ else _); with_reducible refine L2.Rd.ifNP (by walk_at "cond") ?_) | ((with_reducible show if (!decide _) = true then _ else _); with_reducible refine L2.Rd.ifNN (by walk_at "cond") ?_)
  | with_reducible apply L2.Rd.sl | with_reducible apply L2.Rd.noPart | with_reducible apply L2.Rd.part | with_reducible apply L2.Rd.partI | ((with_reducible show L2.rSlU _ _ _ _ _ _); with_reducible refine L2.Rd.slS (by walk_at "side") ?_)
  | with_reducible apply L2.Rd.fldE | with_reducible refine L2.Rd.fld (by with_reducible assumption) (by with_reducible assumption) (by k_dflt (walk_at "na")) (by k_dflt (walk_at "lk")) ?_
  | ((with_reducible show L2.tMethJ _ _ _ _ _ _ _ _ _ _ _); with_reducible refine L2.Rd.methJ (by k_dflt rfl) ?_) | ((with_reducible show L2.tCallJ _ _ _ _ _ _ _ _); with_reducible refine L2.Rd.callJ (by k_dflt rfl) ?_) | ((with_reducible show L2.tMakeJ _ _ _ _ _ _ _ _ _); with_reducible refine L2.Rd.makeJ (by k_dflt rfl) ?_)
  | with_reducible apply L2.Rd.gsub | ((with_reducible show L2.rSetL _ _ _ _ _); with_reducible refine L2.Rd.setL (by with_reducible assumption) (by k_dflt omega) (by walk_at "cond") ?_)
  | with_reducible apply L2.Rd.methE | with_reducible refine L2.Rd.meth (by with_reducible assumption) (by k_dflt (walk_at "lk")) ?_ | with_reducible apply L2.Rd.makeE
  | with_reducible apply L2.Rd.sfld | with_reducible refine L2.Rd.sfld3 (by with_reducible (first | assumption | exact L2.upd_same)) (by with_reducible assumption) (by k_dflt (walk_at "na")) (by k_dflt (simp only [List.length_cons, List.length_nil]; decide)) (by k_dflt (walk_at "pf")) ?_
  | with_reducible apply L2.Rd.raise | with_reducible apply L2.Rd.raise2 | with_reducible apply L2.Rd.ilist | with_reducible apply L2.Rd.istr | with_reducible apply L2.Rd.istr2 | with_reducible apply L2.Rd.all_
  | with_reducible apply L2.Rd.compE | ((with_reducible show L2.rIn _ _ _ _ _ _); with_reducible refine L2.Rd.inS (by walk_at "hp") ?_) | ((with_reducible show L2.rIn _ _ _ _ _ _); with_reducible refine L2.Rd.ninS (by walk_at "hp") ?_) | ((with_reducible show L2.rIn _ _ _ _ _ _); with_reducible refine L2.Rd.inI (by walk_at "hp") ?_) | ((with_reducible show L2.rIn _ _ _ _ _ _); with_reducible refine L2.Rd.ninI (by walk_at "hp") ?_)
  | with_reducible refine L2.Rd.allB (by walk_at "hp") ?_ | with_reducible apply L2.Rd.leS | with_reducible apply L2.Rd.chain
  | ((with_reducible show if (!(_ == _)) = true then _ else _); first | refine L2.Rd.iteNT ?_ | refine L2.Rd.iteNF ?_) | ((with_reducible show if (_ == _) = true then _ else _); first | refine L2.iteT ?_ | refine L2.iteF ?_)
  | with_reducible apply L2.Rd.compNE | with_reducible apply L2.Rd.ienum | ((with_reducible show ∃ a, _ = _ ∧ (∃ xs, L2.SqL _ _ a xs) ∧ _); with_reducible refine L2.Rd.ienum2 (by walk_at "hp") ?_) | with_reducible apply L2.Rd.izip | with_reducible apply L2.Rd.lset | with_reducible apply L2.Rd.dnew
  | ((with_reducible show L2.rDIn _ _ _ _); first | with_reducible refine L2.Rd.dinS (by with_reducible assumption) ?_ | with_reducible refine L2.Rd.dinI (by with_reducible assumption) ?_) | ((with_reducible show L2.rDNotIn _ _ _ _); first | with_reducible refine L2.Rd.dninS (by with_reducible assumption) ?_ | with_reducible refine L2.Rd.dninI (by with_reducible assumption) ?_)
  | ((with_reducible show L2.rIxD _ _ _ _); first | with_reducible refine L2.Rd.dgetS (by with_reducible assumption) (by with_reducible assumption) ?_ | with_reducible refine L2.Rd.dgetI (by with_reducible assumption) (by with_reducible assumption) ?_)
  | ((with_reducible show L2.rSetD _ _ _ _ _); first | with_reducible refine L2.Rd.dsetS (by with_reducible assumption) (by walk_at "side") ?_ | with_reducible refine L2.Rd.dsetI (by with_reducible assumption) (by walk_at "side") ?_)
  | ((with_reducible show L2.rLenD _ _ _); with_reducible refine L2.Rd.dlen (by with_reducible assumption) ?_) | ((with_reducible show L2.rListD _ _ _); with_reducible refine L2.Rd.dlist (by with_reducible assumption) ?_)
  | with_reducible apply L2.Rd.augS | with_reducible apply L2.Rd.ipi | ((with_reducible show L2.rIxL _ _ _ _ _); with_reducible refine L2.Rd.ixl (by walk_at "hp") (by k_dflt (first | rfl | with_reducible assumption)) ?_)
  | with_reducible apply L2.Rd.tb_ | with_reducible apply L2.Rd.for_ | with_reducible apply L2.Rd.rng1 | with_reducible apply L2.Rd.rng2 | with_reducible apply L2.Rd.gnil | with_reducible apply L2.Rd.gcons)
local macro_rules | `(tactic| walk_at "rds") => `(tactic| repeat' (walk_at "rd"))
namespace Nm
open PySem L2
def top (i : Nat) : Stmt := PySem.Challenge.pw_ratehall_k36_whole_any_order_same_pieces.main.body.getD i (.Pass ⟨0, 0, 0, 0⟩)
abbrev s_l_cell_at : Stmt := top 40
abbrev s_l_form_by : Stmt := top 46
abbrev s_l_forms_by : Stmt := top 47
abbrev s_l_pieces_by : Stmt := top 48
abbrev s_l_turned : Stmt := top 50
abbrev s_l_ready : Stmt := top 49
abbrev s_l_order : Stmt := top 51
abbrev s_is_name : Stmt := top 33
abbrev s_Hall_work : Stmt := inClass (top 37) 1
abbrev s_is_whole : Stmt := top 13
abbrev s_is_from : Stmt := top 14
abbrev s_need_start : Stmt := top 38
abbrev s_is_number_below : Stmt := top 15
abbrev s_Hall_need_work : Stmt := inClass (top 37) 11
abbrev s_Hall_lay : Stmt := inClass (top 37) 3
abbrev s_Hall_belt : Stmt := inClass (top 37) 2
abbrev s_Hall_init : Stmt := inClass (top 37) 0
abbrev s_l_made : Stmt := top 45
abbrev s_l_names : Stmt := top 41
abbrev s_l_common : Stmt := top 42
abbrev s_l_belt_by : Stmt := top 43
abbrev s_enough : Stmt := top 20
abbrev s_Floor_need_work : Stmt := inClass (top 17) 5
abbrev s_Floor_go : Stmt := inClass (top 17) 3
abbrev s_form_value : Stmt := top 24
abbrev s_Lane_lay_behind : Stmt := inClass (top 30) 2
abbrev s_Lane_lying : Stmt := inClass (top 30) 3
abbrev s_Lane_drawn_off : Stmt := inClass (top 30) 1
abbrev s_Mill_pass_on : Stmt := inClass (top 29) 4
abbrev s_Mill_go : Stmt := inClass (top 29) 2
abbrev s_Mill_lying : Stmt := inClass (top 29) 3
abbrev s_Mill_turn : Stmt := inClass (top 29) 1
abbrev s_Hall_leaving : Stmt := inClass (top 37) 10
abbrev s_Hall_need_belt : Stmt := inClass (top 37) 12
abbrev s_Hall_belt_at : Stmt := inClass (top 37) 8
abbrev s_gives_of : Stmt := top 19
abbrev s_given_by : Stmt := top 27
abbrev s_Hall_entering : Stmt := inClass (top 37) 9
abbrev s_takes_of : Stmt := top 18
abbrev s_need_work_forms : Stmt := top 26
abbrev s_Hall_names : Stmt := inClass (top 37) 5
abbrev s_need_forms : Stmt := top 25
abbrev s_Hall_belts : Stmt := inClass (top 37) 7
abbrev s_starts_of : Stmt := top 22
abbrev s_need_pieces : Stmt := top 28
abbrev s_Floor_init : Stmt := inClass (top 17) 0
abbrev s_Lane_init : Stmt := inClass (top 30) 0
abbrev s_Mill_init : Stmt := inClass (top 29) 0
abbrev s_law : Stmt := top 52
theorem sc_l_cell_at : FnScope ["_law_script", "_law_k", "_law_lap", "_law_cell"] ["_law_script", "_law_k"] (defScope s_l_cell_at) := ⟨rfl, rfl, rfl, by decide +kernel, rfl, by decide +kernel, by decide +kernel⟩
theorem sc_l_form_by : FnScope ["_law_cell", "_law_slots", "_law_great", "_law_mix", "_law_constant", "_law_terms", "_law_k"] ["_law_cell", "_law_slots", "_law_great"] (defScope s_l_form_by) := ⟨rfl, rfl, rfl, by decide +kernel, rfl, by decide +kernel, by decide +kernel⟩
theorem sc_l_forms_by : FnScope ["_law_script", "_law_at", "_law_belts", "_law_many", "_law_great", "_law_forms", "_law_work", "_law_slots", "_law_given", "_law_some", "_law_k"] ["_law_script", "_law_at", "_law_belts", "_law_many", "_law_great"] (defScope s_l_forms_by) := ⟨rfl, rfl, rfl, by decide +kernel, rfl, by decide +kernel, by decide +kernel⟩
theorem sc_l_pieces_by : FnScope ["_law_script", "_law_at", "_law_belts", "_law_pieces", "_law_belt", "_law_some", "_law_k"] ["_law_script", "_law_at", "_law_belts"] (defScope s_l_pieces_by) := ⟨rfl, rfl, rfl, by decide +kernel, rfl, by decide +kernel, by decide +kernel⟩
theorem sc_l_turned : FnScope ["_law_belts", "_law_lying", "_law_work", "_law_k", "_law_belt"] ["_law_belts", "_law_lying", "_law_work"] (defScope s_l_turned) := ⟨rfl, rfl, rfl, by decide +kernel, rfl, by decide +kernel, by decide +kernel⟩
theorem sc_l_ready : FnScope ["_law_belts", "_law_lying", "_law_work", "_law_k", "_law_belt"] ["_law_belts", "_law_lying", "_law_work"] (defScope s_l_ready) := ⟨rfl, rfl, rfl, by decide +kernel, rfl, by decide +kernel, by decide +kernel⟩
theorem sc_l_order : FnScope ["_law_belts", "_law_counts", "_law_cells", "_law_lying", "_law_left", "_law_row", "_law_step", "_law_some", "_law_work"] ["_law_belts", "_law_counts", "_law_cells"] (defScope s_l_order) := ⟨rfl, rfl, rfl, by decide +kernel, rfl, by decide +kernel, by decide +kernel⟩
theorem sc_is_name : FnScope ["thing"] ["thing"] (defScope s_is_name) := ⟨rfl, rfl, rfl, by decide +kernel, rfl, by decide +kernel, by decide +kernel⟩
theorem sc_Hall_work : FnScope ["self", "name", "number"] ["self", "name"] (defScope s_Hall_work) := ⟨rfl, rfl, rfl, by decide +kernel, rfl, by decide +kernel, by decide +kernel⟩
theorem sc_is_whole : FnScope ["thing"] ["thing"] (defScope s_is_whole) := ⟨rfl, rfl, rfl, by decide +kernel, rfl, by decide +kernel, by decide +kernel⟩
theorem sc_is_from : FnScope ["thing", "least"] ["thing", "least"] (defScope s_is_from) := ⟨rfl, rfl, rfl, by decide +kernel, rfl, by decide +kernel, by decide +kernel⟩
theorem sc_need_start : FnScope ["start"] ["start"] (defScope s_need_start) := ⟨rfl, rfl, rfl, by decide +kernel, rfl, by decide +kernel, by decide +kernel⟩
theorem sc_is_number_below : FnScope ["thing", "bound"] ["thing", "bound"] (defScope s_is_number_below) := ⟨rfl, rfl, rfl, by decide +kernel, rfl, by decide +kernel, by decide +kernel⟩
theorem sc_Hall_need_work : FnScope ["self", "work"] ["self", "work"] (defScope s_Hall_need_work) := ⟨rfl, rfl, rfl, by decide +kernel, rfl, by decide +kernel, by decide +kernel⟩
theorem sc_Hall_lay : FnScope ["self", "row"] ["self", "row"] (defScope s_Hall_lay) := ⟨rfl, rfl, rfl, by decide +kernel, rfl, by decide +kernel, by decide +kernel⟩
theorem sc_Hall_belt : FnScope ["self", "giver", "taker", "give", "take", "start"] ["self", "giver", "taker", "give", "take", "start"] (defScope s_Hall_belt) := ⟨rfl, rfl, rfl, by decide +kernel, rfl, by decide +kernel, by decide +kernel⟩
theorem sc_Hall_init : FnScope ["self"] ["self"] (defScope s_Hall_init) := ⟨rfl, rfl, rfl, by decide +kernel, rfl, by decide +kernel, by decide +kernel⟩
theorem sc_l_made : FnScope ["_law_names_here", "_law_belts", "_law_hall", "_law_name", "_law_giver", "_law_taker", "_law_give", "_law_take", "_law_start"] ["_law_names_here", "_law_belts"] (defScope s_l_made) := ⟨rfl, rfl, rfl, by decide +kernel, rfl, by decide +kernel, by decide +kernel⟩
theorem sc_l_names : FnScope ["_law_cell", "_law_many", "_law_letters", "_law_long", "_law_at", "_law_some", "_law_k", "_law_word", "_law_place", "_law_turn"] ["_law_cell", "_law_many"] (defScope s_l_names) := ⟨rfl, rfl, rfl, by decide +kernel, rfl, by decide +kernel, by decide +kernel⟩
theorem sc_l_common : FnScope ["_law_one", "_law_other", "_law_rest"] ["_law_one", "_law_other"] (defScope s_l_common) := ⟨rfl, rfl, rfl, by decide +kernel, rfl, by decide +kernel, by decide +kernel⟩
theorem sc_l_belt_by : FnScope ["_law_cell", "_law_rates", "_law_top", "_law_ample", "_law_mix", "_law_giver", "_law_taker", "_law_both", "_law_times_by", "_law_give", "_law_take", "_law_start"] ["_law_cell", "_law_rates", "_law_top", "_law_ample"] (defScope s_l_belt_by) := ⟨rfl, rfl, rfl, by decide +kernel, rfl, by decide +kernel, by decide +kernel⟩
theorem sc_enough : FnScope ["heaps", "takes"] ["heaps", "takes"] (defScope s_enough) := ⟨rfl, rfl, rfl, by decide +kernel, rfl, by decide +kernel, by decide +kernel⟩
theorem sc_Floor_need_work : FnScope ["self", "work"] ["self", "work"] (defScope s_Floor_need_work) := ⟨rfl, rfl, rfl, by decide +kernel, rfl, by decide +kernel, by decide +kernel⟩
theorem sc_Floor_go : FnScope ["self", "row", "heaps", "work", "belt", "take", "give"] ["self", "row"] (defScope s_Floor_go) := ⟨rfl, rfl, rfl, by decide +kernel, rfl, by decide +kernel, by decide +kernel⟩
theorem sc_form_value : FnScope ["form", "pieces"] ["form", "pieces"] (defScope s_form_value) := ⟨rfl, rfl, rfl, by decide +kernel, rfl, by decide +kernel, by decide +kernel⟩
theorem sc_Lane_lay_behind : FnScope ["self", "pieces"] ["self", "pieces"] (defScope s_Lane_lay_behind) := ⟨rfl, rfl, rfl, by decide +kernel, rfl, by decide +kernel, by decide +kernel⟩
theorem sc_Lane_lying : FnScope ["self"] ["self"] (defScope s_Lane_lying) := ⟨rfl, rfl, rfl, by decide +kernel, rfl, by decide +kernel, by decide +kernel⟩
theorem sc_Lane_drawn_off : FnScope ["self", "many", "taken"] ["self", "many"] (defScope s_Lane_drawn_off) := ⟨rfl, rfl, rfl, by decide +kernel, rfl, by decide +kernel, by decide +kernel⟩
theorem sc_Mill_pass_on : FnScope ["self", "work", "slots", "belt", "take", "given", "done", "give"] ["self", "work"] (defScope s_Mill_pass_on) := ⟨rfl, rfl, rfl, by decide +kernel, rfl, by decide +kernel, by decide +kernel⟩
theorem sc_Mill_go : FnScope ["self", "row", "work"] ["self", "row"] (defScope s_Mill_go) := ⟨rfl, rfl, rfl, by decide +kernel, rfl, by decide +kernel, by decide +kernel⟩
theorem sc_Mill_lying : FnScope ["self"] ["self"] (defScope s_Mill_lying) := ⟨rfl, rfl, rfl, by decide +kernel, rfl, by decide +kernel, by decide +kernel⟩
theorem sc_Mill_turn : FnScope ["self", "work"] ["self", "work"] (defScope s_Mill_turn) := ⟨rfl, rfl, rfl, by decide +kernel, rfl, by decide +kernel, by decide +kernel⟩
theorem sc_Hall_leaving : FnScope ["self", "work"] ["self", "work"] (defScope s_Hall_leaving) := ⟨rfl, rfl, rfl, by decide +kernel, rfl, by decide +kernel, by decide +kernel⟩
theorem sc_Hall_need_belt : FnScope ["self", "belt"] ["self", "belt"] (defScope s_Hall_need_belt) := ⟨rfl, rfl, rfl, by decide +kernel, rfl, by decide +kernel, by decide +kernel⟩
theorem sc_Hall_belt_at : FnScope ["self", "belt"] ["self", "belt"] (defScope s_Hall_belt_at) := ⟨rfl, rfl, rfl, by decide +kernel, rfl, by decide +kernel, by decide +kernel⟩
theorem sc_gives_of : FnScope ["hall", "work"] ["hall", "work"] (defScope s_gives_of) := ⟨rfl, rfl, rfl, by decide +kernel, rfl, by decide +kernel, by decide +kernel⟩
theorem sc_given_by : FnScope ["hall", "work"] ["hall", "work"] (defScope s_given_by) := ⟨rfl, rfl, rfl, by decide +kernel, rfl, by decide +kernel, by decide +kernel⟩
theorem sc_Hall_entering : FnScope ["self", "work"] ["self", "work"] (defScope s_Hall_entering) := ⟨rfl, rfl, rfl, by decide +kernel, rfl, by decide +kernel, by decide +kernel⟩
theorem sc_takes_of : FnScope ["hall", "work"] ["hall", "work"] (defScope s_takes_of) := ⟨rfl, rfl, rfl, by decide +kernel, rfl, by decide +kernel, by decide +kernel⟩
theorem sc_need_work_forms : FnScope ["hall", "work", "forms", "slots", "form"] ["hall", "work", "forms"] (defScope s_need_work_forms) := ⟨rfl, rfl, rfl, by decide +kernel, rfl, by decide +kernel, by decide +kernel⟩
theorem sc_Hall_names : FnScope ["self"] ["self"] (defScope s_Hall_names) := ⟨rfl, rfl, rfl, by decide +kernel, rfl, by decide +kernel, by decide +kernel⟩
theorem sc_need_forms : FnScope ["hall", "forms", "work", "work_forms"] ["hall", "forms"] (defScope s_need_forms) := ⟨rfl, rfl, rfl, by decide +kernel, rfl, by decide +kernel, by decide +kernel⟩
theorem sc_Hall_belts : FnScope ["self"] ["self"] (defScope s_Hall_belts) := ⟨rfl, rfl, rfl, by decide +kernel, rfl, by decide +kernel, by decide +kernel⟩
theorem sc_starts_of : FnScope ["hall"] ["hall"] (defScope s_starts_of) := ⟨rfl, rfl, rfl, by decide +kernel, rfl, by decide +kernel, by decide +kernel⟩
theorem sc_need_pieces : FnScope ["hall", "pieces", "starts"] ["hall", "pieces"] (defScope s_need_pieces) := ⟨rfl, rfl, rfl, by decide +kernel, rfl, by decide +kernel, by decide +kernel⟩
theorem sc_Floor_init : FnScope ["self", "hall", "works"] ["self", "hall"] (defScope s_Floor_init) := ⟨rfl, rfl, rfl, by decide +kernel, rfl, by decide +kernel, by decide +kernel⟩
theorem sc_Lane_init : FnScope ["self", "pieces"] ["self", "pieces"] (defScope s_Lane_init) := ⟨rfl, rfl, rfl, by decide +kernel, rfl, by decide +kernel, by decide +kernel⟩
theorem sc_Mill_init : FnScope ["self", "hall", "forms", "pieces"] ["self", "hall", "forms", "pieces"] (defScope s_Mill_init) := ⟨rfl, rfl, rfl, by decide +kernel, rfl, by decide +kernel, by decide +kernel⟩
theorem sc_law : FnScope ["_law_script", "_law_first", "_law_many", "_law_rates", "_law_belts", "_law_k", "_law_forms", "_law_pieces", "_law_counts", "_law_row", "_law_other", "_law_hall", "_law_one", "_law_two", "_law_work", "_law_found"] ["_law_script"] (defScope s_law) := ⟨rfl, rfl, rfl, by decide +kernel, rfl, by decide +kernel, by decide +kernel⟩
set_option genInjectivity false in
set_option genSizeOf false in
structure Tp (K : PySem.W.Frag) (mg : Str → Option Value) where
  f_l_cell_at : Addr
  d_l_cell_at : FuncData
  F_l_cell_at : Fun K "_law_cell_at" "_law_cell_at" s_l_cell_at f_l_cell_at d_l_cell_at
  b_l_cell_at : Binds K d_l_cell_at ["_law_script", "_law_k"] []
  m_l_cell_at : mg "_law_cell_at" = some (.ref f_l_cell_at)
  f_l_form_by : Addr
  d_l_form_by : FuncData
  F_l_form_by : Fun K "_law_form_by" "_law_form_by" s_l_form_by f_l_form_by d_l_form_by
  b_l_form_by : Binds K d_l_form_by ["_law_cell", "_law_slots", "_law_great"] []
  m_l_form_by : mg "_law_form_by" = some (.ref f_l_form_by)
  f_l_forms_by : Addr
  d_l_forms_by : FuncData
  F_l_forms_by : Fun K "_law_forms_by" "_law_forms_by" s_l_forms_by f_l_forms_by d_l_forms_by
  b_l_forms_by : Binds K d_l_forms_by ["_law_script", "_law_at", "_law_belts", "_law_many", "_law_great"] []
  m_l_forms_by : mg "_law_forms_by" = some (.ref f_l_forms_by)
  f_l_pieces_by : Addr
  d_l_pieces_by : FuncData
  F_l_pieces_by : Fun K "_law_pieces_by" "_law_pieces_by" s_l_pieces_by f_l_pieces_by d_l_pieces_by
  b_l_pieces_by : Binds K d_l_pieces_by ["_law_script", "_law_at", "_law_belts"] []
  m_l_pieces_by : mg "_law_pieces_by" = some (.ref f_l_pieces_by)
  f_l_turned : Addr
  d_l_turned : FuncData
  F_l_turned : Fun K "_law_turned" "_law_turned" s_l_turned f_l_turned d_l_turned
  b_l_turned : Binds K d_l_turned ["_law_belts", "_law_lying", "_law_work"] []
  m_l_turned : mg "_law_turned" = some (.ref f_l_turned)
  f_l_ready : Addr
  d_l_ready : FuncData
  F_l_ready : Fun K "_law_ready" "_law_ready" s_l_ready f_l_ready d_l_ready
  b_l_ready : Binds K d_l_ready ["_law_belts", "_law_lying", "_law_work"] []
  m_l_ready : mg "_law_ready" = some (.ref f_l_ready)
  f_l_order : Addr
  d_l_order : FuncData
  F_l_order : Fun K "_law_order" "_law_order" s_l_order f_l_order d_l_order
  b_l_order : Binds K d_l_order ["_law_belts", "_law_counts", "_law_cells"] []
  m_l_order : mg "_law_order" = some (.ref f_l_order)
  f_is_name : Addr
  d_is_name : FuncData
  F_is_name : Fun K "is_name" "is_name" s_is_name f_is_name d_is_name
  b_is_name : Binds K d_is_name ["thing"] []
  m_is_name : mg "is_name" = some (.ref f_is_name)
  f_Hall_work : Addr
  d_Hall_work : FuncData
  F_Hall_work : Fun K "work" "Hall.work" s_Hall_work f_Hall_work d_Hall_work
  b_Hall_work : Binds K d_Hall_work ["self", "name"] []
  f_is_whole : Addr
  d_is_whole : FuncData
  F_is_whole : Fun K "is_whole" "is_whole" s_is_whole f_is_whole d_is_whole
  b_is_whole : Binds K d_is_whole ["thing"] []
  m_is_whole : mg "is_whole" = some (.ref f_is_whole)
  f_is_from : Addr
  d_is_from : FuncData
  F_is_from : Fun K "is_from" "is_from" s_is_from f_is_from d_is_from
  b_is_from : Binds K d_is_from ["thing", "least"] []
  m_is_from : mg "is_from" = some (.ref f_is_from)
  f_need_start : Addr
  d_need_start : FuncData
  F_need_start : Fun K "need_start" "need_start" s_need_start f_need_start d_need_start
  b_need_start : Binds K d_need_start ["start"] []
  m_need_start : mg "need_start" = some (.ref f_need_start)
  f_is_number_below : Addr
  d_is_number_below : FuncData
  F_is_number_below : Fun K "is_number_below" "is_number_below" s_is_number_below f_is_number_below d_is_number_below
  b_is_number_below : Binds K d_is_number_below ["thing", "bound"] []
  m_is_number_below : mg "is_number_below" = some (.ref f_is_number_below)
  f_Hall_need_work : Addr
  d_Hall_need_work : FuncData
  F_Hall_need_work : Fun K "need_work" "Hall.need_work" s_Hall_need_work f_Hall_need_work d_Hall_need_work
  b_Hall_need_work : Binds K d_Hall_need_work ["self", "work"] []
  f_Hall_lay : Addr
  d_Hall_lay : FuncData
  F_Hall_lay : Fun K "lay" "Hall.lay" s_Hall_lay f_Hall_lay d_Hall_lay
  b_Hall_lay : Binds K d_Hall_lay ["self", "row"] []
  f_Hall_belt : Addr
  d_Hall_belt : FuncData
  dT_Hall_belt : Addr
  dk0_Hall_belt : Tok
  F_Hall_belt : FunD K "belt" "Hall.belt" s_Hall_belt dT_Hall_belt f_Hall_belt d_Hall_belt
  b_Hall_belt : Binds K d_Hall_belt ["self", "giver", "taker", "give", "take", "start"] []
  b1_Hall_belt : Binds K d_Hall_belt ["self", "giver", "taker", "give", "take", "start"] [.int 0 dk0_Hall_belt]
  v1_Hall_belt : Vals [.int 0] [.int 0 dk0_Hall_belt]
  f_Hall_init : Addr
  d_Hall_init : FuncData
  F_Hall_init : Fun K "__init__" "Hall.__init__" s_Hall_init f_Hall_init d_Hall_init
  b_Hall_init : Binds K d_Hall_init ["self"] []
  f_l_made : Addr
  d_l_made : FuncData
  F_l_made : Fun K "_law_made" "_law_made" s_l_made f_l_made d_l_made
  b_l_made : Binds K d_l_made ["_law_names_here", "_law_belts"] []
  m_l_made : mg "_law_made" = some (.ref f_l_made)
  f_l_names : Addr
  d_l_names : FuncData
  F_l_names : Fun K "_law_names" "_law_names" s_l_names f_l_names d_l_names
  b_l_names : Binds K d_l_names ["_law_cell", "_law_many"] []
  m_l_names : mg "_law_names" = some (.ref f_l_names)
  f_l_common : Addr
  d_l_common : FuncData
  F_l_common : Fun K "_law_common" "_law_common" s_l_common f_l_common d_l_common
  b_l_common : Binds K d_l_common ["_law_one", "_law_other"] []
  m_l_common : mg "_law_common" = some (.ref f_l_common)
  f_l_belt_by : Addr
  d_l_belt_by : FuncData
  F_l_belt_by : Fun K "_law_belt_by" "_law_belt_by" s_l_belt_by f_l_belt_by d_l_belt_by
  b_l_belt_by : Binds K d_l_belt_by ["_law_cell", "_law_rates", "_law_top", "_law_ample"] []
  m_l_belt_by : mg "_law_belt_by" = some (.ref f_l_belt_by)
  f_enough : Addr
  d_enough : FuncData
  F_enough : Fun K "enough" "enough" s_enough f_enough d_enough
  b_enough : Binds K d_enough ["heaps", "takes"] []
  m_enough : mg "enough" = some (.ref f_enough)
  f_Floor_need_work : Addr
  d_Floor_need_work : FuncData
  F_Floor_need_work : Fun K "need_work" "Floor.need_work" s_Floor_need_work f_Floor_need_work d_Floor_need_work
  b_Floor_need_work : Binds K d_Floor_need_work ["self", "work"] []
  f_Floor_go : Addr
  d_Floor_go : FuncData
  F_Floor_go : Fun K "go" "Floor.go" s_Floor_go f_Floor_go d_Floor_go
  b_Floor_go : Binds K d_Floor_go ["self", "row"] []
  f_form_value : Addr
  d_form_value : FuncData
  F_form_value : Fun K "form_value" "form_value" s_form_value f_form_value d_form_value
  b_form_value : Binds K d_form_value ["form", "pieces"] []
  m_form_value : mg "form_value" = some (.ref f_form_value)
  f_Lane_lay_behind : Addr
  d_Lane_lay_behind : FuncData
  F_Lane_lay_behind : Fun K "lay_behind" "Lane.lay_behind" s_Lane_lay_behind f_Lane_lay_behind d_Lane_lay_behind
  b_Lane_lay_behind : Binds K d_Lane_lay_behind ["self", "pieces"] []
  f_Lane_lying : Addr
  d_Lane_lying : FuncData
  F_Lane_lying : Fun K "lying" "Lane.lying" s_Lane_lying f_Lane_lying d_Lane_lying
  b_Lane_lying : Binds K d_Lane_lying ["self"] []
  f_Lane_drawn_off : Addr
  d_Lane_drawn_off : FuncData
  F_Lane_drawn_off : Fun K "drawn_off" "Lane.drawn_off" s_Lane_drawn_off f_Lane_drawn_off d_Lane_drawn_off
  b_Lane_drawn_off : Binds K d_Lane_drawn_off ["self", "many"] []
  f_Mill_pass_on : Addr
  d_Mill_pass_on : FuncData
  F_Mill_pass_on : Fun K "pass_on" "Mill.pass_on" s_Mill_pass_on f_Mill_pass_on d_Mill_pass_on
  b_Mill_pass_on : Binds K d_Mill_pass_on ["self", "work"] []
  f_Mill_go : Addr
  d_Mill_go : FuncData
  F_Mill_go : Fun K "go" "Mill.go" s_Mill_go f_Mill_go d_Mill_go
  b_Mill_go : Binds K d_Mill_go ["self", "row"] []
  f_Mill_lying : Addr
  d_Mill_lying : FuncData
  F_Mill_lying : Fun K "lying" "Mill.lying" s_Mill_lying f_Mill_lying d_Mill_lying
  b_Mill_lying : Binds K d_Mill_lying ["self"] []
  f_Mill_turn : Addr
  d_Mill_turn : FuncData
  F_Mill_turn : Fun K "turn" "Mill.turn" s_Mill_turn f_Mill_turn d_Mill_turn
  b_Mill_turn : Binds K d_Mill_turn ["self", "work"] []
  f_Hall_leaving : Addr
  d_Hall_leaving : FuncData
  F_Hall_leaving : Fun K "leaving" "Hall.leaving" s_Hall_leaving f_Hall_leaving d_Hall_leaving
  b_Hall_leaving : Binds K d_Hall_leaving ["self", "work"] []
  f_Hall_need_belt : Addr
  d_Hall_need_belt : FuncData
  F_Hall_need_belt : Fun K "need_belt" "Hall.need_belt" s_Hall_need_belt f_Hall_need_belt d_Hall_need_belt
  b_Hall_need_belt : Binds K d_Hall_need_belt ["self", "belt"] []
  f_Hall_belt_at : Addr
  d_Hall_belt_at : FuncData
  F_Hall_belt_at : Fun K "belt_at" "Hall.belt_at" s_Hall_belt_at f_Hall_belt_at d_Hall_belt_at
  b_Hall_belt_at : Binds K d_Hall_belt_at ["self", "belt"] []
  f_gives_of : Addr
  d_gives_of : FuncData
  F_gives_of : Fun K "gives_of" "gives_of" s_gives_of f_gives_of d_gives_of
  b_gives_of : Binds K d_gives_of ["hall", "work"] []
  m_gives_of : mg "gives_of" = some (.ref f_gives_of)
  f_given_by : Addr
  d_given_by : FuncData
  F_given_by : Fun K "given_by" "given_by" s_given_by f_given_by d_given_by
  b_given_by : Binds K d_given_by ["hall", "work"] []
  m_given_by : mg "given_by" = some (.ref f_given_by)
  f_Hall_entering : Addr
  d_Hall_entering : FuncData
  F_Hall_entering : Fun K "entering" "Hall.entering" s_Hall_entering f_Hall_entering d_Hall_entering
  b_Hall_entering : Binds K d_Hall_entering ["self", "work"] []
  f_takes_of : Addr
  d_takes_of : FuncData
  F_takes_of : Fun K "takes_of" "takes_of" s_takes_of f_takes_of d_takes_of
  b_takes_of : Binds K d_takes_of ["hall", "work"] []
  m_takes_of : mg "takes_of" = some (.ref f_takes_of)
  f_need_work_forms : Addr
  d_need_work_forms : FuncData
  F_need_work_forms : Fun K "need_work_forms" "need_work_forms" s_need_work_forms f_need_work_forms d_need_work_forms
  b_need_work_forms : Binds K d_need_work_forms ["hall", "work", "forms"] []
  m_need_work_forms : mg "need_work_forms" = some (.ref f_need_work_forms)
  f_Hall_names : Addr
  d_Hall_names : FuncData
  F_Hall_names : Fun K "names" "Hall.names" s_Hall_names f_Hall_names d_Hall_names
  b_Hall_names : Binds K d_Hall_names ["self"] []
  f_need_forms : Addr
  d_need_forms : FuncData
  F_need_forms : Fun K "need_forms" "need_forms" s_need_forms f_need_forms d_need_forms
  b_need_forms : Binds K d_need_forms ["hall", "forms"] []
  m_need_forms : mg "need_forms" = some (.ref f_need_forms)
  f_Hall_belts : Addr
  d_Hall_belts : FuncData
  F_Hall_belts : Fun K "belts" "Hall.belts" s_Hall_belts f_Hall_belts d_Hall_belts
  b_Hall_belts : Binds K d_Hall_belts ["self"] []
  f_starts_of : Addr
  d_starts_of : FuncData
  F_starts_of : Fun K "starts_of" "starts_of" s_starts_of f_starts_of d_starts_of
  b_starts_of : Binds K d_starts_of ["hall"] []
  m_starts_of : mg "starts_of" = some (.ref f_starts_of)
  f_need_pieces : Addr
  d_need_pieces : FuncData
  F_need_pieces : Fun K "need_pieces" "need_pieces" s_need_pieces f_need_pieces d_need_pieces
  b_need_pieces : Binds K d_need_pieces ["hall", "pieces"] []
  m_need_pieces : mg "need_pieces" = some (.ref f_need_pieces)
  f_Floor_init : Addr
  d_Floor_init : FuncData
  F_Floor_init : Fun K "__init__" "Floor.__init__" s_Floor_init f_Floor_init d_Floor_init
  b_Floor_init : Binds K d_Floor_init ["self", "hall"] []
  f_Lane_init : Addr
  d_Lane_init : FuncData
  F_Lane_init : Fun K "__init__" "Lane.__init__" s_Lane_init f_Lane_init d_Lane_init
  b_Lane_init : Binds K d_Lane_init ["self", "pieces"] []
  f_Mill_init : Addr
  d_Mill_init : FuncData
  F_Mill_init : Fun K "__init__" "Mill.__init__" s_Mill_init f_Mill_init d_Mill_init
  b_Mill_init : Binds K d_Mill_init ["self", "hall", "forms", "pieces"] []
  f_law : Addr
  d_law : FuncData
  F_law : Fun K "law" "law" s_law f_law d_law
  b_law : Binds K d_law ["_law_script"] []
  m_law : mg "law" = some (.ref f_law)
  C_Floor : Addr
  cl_Floor : Cls K C_Floor
  g_Floor : mg "Floor" = some (.ref C_Floor)
  na_Floor : NoAttrs K C_Floor ["takes", "gives", "heaps"]
  M_Floor_need_work : Meth K C_Floor "need_work" f_Floor_need_work
  M_Floor_go : Meth K C_Floor "go" f_Floor_go
  mk_Floor : Mk K C_Floor f_Floor_init
  C_Mill : Addr
  cl_Mill : Cls K C_Mill
  g_Mill : mg "Mill" = some (.ref C_Mill)
  na_Mill : NoAttrs K C_Mill ["floor", "forms", "lanes"]
  M_Mill_pass_on : Meth K C_Mill "pass_on" f_Mill_pass_on
  M_Mill_go : Meth K C_Mill "go" f_Mill_go
  M_Mill_lying : Meth K C_Mill "lying" f_Mill_lying
  M_Mill_turn : Meth K C_Mill "turn" f_Mill_turn
  mk_Mill : Mk K C_Mill f_Mill_init
  C_Lane : Addr
  cl_Lane : Cls K C_Lane
  g_Lane : mg "Lane" = some (.ref C_Lane)
  na_Lane : NoAttrs K C_Lane ["laid", "gone"]
  M_Lane_lay_behind : Meth K C_Lane "lay_behind" f_Lane_lay_behind
  M_Lane_lying : Meth K C_Lane "lying" f_Lane_lying
  M_Lane_drawn_off : Meth K C_Lane "drawn_off" f_Lane_drawn_off
  mk_Lane : Mk K C_Lane f_Lane_init
  C_Hall : Addr
  cl_Hall : Cls K C_Hall
  g_Hall : mg "Hall" = some (.ref C_Hall)
  na_Hall : NoAttrs K C_Hall ["numbers", "rows"]
  M_Hall_work : Meth K C_Hall "work" f_Hall_work
  M_Hall_need_work : Meth K C_Hall "need_work" f_Hall_need_work
  M_Hall_lay : Meth K C_Hall "lay" f_Hall_lay
  M_Hall_belt : Meth K C_Hall "belt" f_Hall_belt
  mk_Hall : Mk K C_Hall f_Hall_init
  M_Hall_leaving : Meth K C_Hall "leaving" f_Hall_leaving
  M_Hall_need_belt : Meth K C_Hall "need_belt" f_Hall_need_belt
  M_Hall_belt_at : Meth K C_Hall "belt_at" f_Hall_belt_at
  M_Hall_entering : Meth K C_Hall "entering" f_Hall_entering
  M_Hall_names : Meth K C_Hall "names" f_Hall_names
  M_Hall_belts : Meth K C_Hall "belts" f_Hall_belts
  n_all : mg "all" = none
  n_bool : mg "bool" = none
  n_enumerate : mg "enumerate" = none
  n_int : mg "int" = none
  n_isinstance : mg "isinstance" = none
  n_len : mg "len" = none
  n_list : mg "list" = none
  n_min : mg "min" = none
  n_range : mg "range" = none
  n_reversed : mg "reversed" = none
  n_str : mg "str" = none
  n_sum : mg "sum" = none
  n_tuple : mg "tuple" = none
  n_zip : mg "zip" = none
  X_NoName : Addr
  gx_NoName : PySem.W.nsIn K mainGlobals "NoName" = some (some (.ref X_NoName))
  mx_NoName : mg "NoName" = some (.ref X_NoName)
  ex_NoName : PySem.W.excIn K X_NoName [.type "ValueError", .type "Exception", .type "BaseException", .type "object"] "ValueError.__new__" = true
  X_Twice : Addr
  gx_Twice : PySem.W.nsIn K mainGlobals "Twice" = some (some (.ref X_Twice))
  mx_Twice : mg "Twice" = some (.ref X_Twice)
  ex_Twice : PySem.W.excIn K X_Twice [.type "ValueError", .type "Exception", .type "BaseException", .type "object"] "ValueError.__new__" = true
  X_TooMuch : Addr
  gx_TooMuch : PySem.W.nsIn K mainGlobals "TooMuch" = some (some (.ref X_TooMuch))
  mx_TooMuch : mg "TooMuch" = some (.ref X_TooMuch)
  ex_TooMuch : PySem.W.excIn K X_TooMuch [.type "ValueError", .type "Exception", .type "BaseException", .type "object"] "ValueError.__new__" = true
  X_NoWork : Addr
  gx_NoWork : PySem.W.nsIn K mainGlobals "NoWork" = some (some (.ref X_NoWork))
  mx_NoWork : mg "NoWork" = some (.ref X_NoWork)
  ex_NoWork : PySem.W.excIn K X_NoWork [.type "ValueError", .type "Exception", .type "BaseException", .type "object"] "ValueError.__new__" = true
  X_NoBelt : Addr
  gx_NoBelt : PySem.W.nsIn K mainGlobals "NoBelt" = some (some (.ref X_NoBelt))
  mx_NoBelt : mg "NoBelt" = some (.ref X_NoBelt)
  ex_NoBelt : PySem.W.excIn K X_NoBelt [.type "ValueError", .type "Exception", .type "BaseException", .type "object"] "ValueError.__new__" = true
  X_NoRate : Addr
  gx_NoRate : PySem.W.nsIn K mainGlobals "NoRate" = some (some (.ref X_NoRate))
  mx_NoRate : mg "NoRate" = some (.ref X_NoRate)
  ex_NoRate : PySem.W.excIn K X_NoRate [.type "ValueError", .type "Exception", .type "BaseException", .type "object"] "ValueError.__new__" = true
  X_Empty : Addr
  gx_Empty : PySem.W.nsIn K mainGlobals "Empty" = some (some (.ref X_Empty))
  mx_Empty : mg "Empty" = some (.ref X_Empty)
  ex_Empty : PySem.W.excIn K X_Empty [.type "ValueError", .type "Exception", .type "BaseException", .type "object"] "ValueError.__new__" = true
  X_NoForm : Addr
  gx_NoForm : PySem.W.nsIn K mainGlobals "NoForm" = some (some (.ref X_NoForm))
  mx_NoForm : mg "NoForm" = some (.ref X_NoForm)
  ex_NoForm : PySem.W.excIn K X_NoForm [.type "ValueError", .type "Exception", .type "BaseException", .type "object"] "ValueError.__new__" = true
  X_NoPieces : Addr
  gx_NoPieces : PySem.W.nsIn K mainGlobals "NoPieces" = some (some (.ref X_NoPieces))
  mx_NoPieces : mg "NoPieces" = some (.ref X_NoPieces)
  ex_NoPieces : PySem.W.excIn K X_NoPieces [.type "ValueError", .type "Exception", .type "BaseException", .type "object"] "ValueError.__new__" = true
  tk_MOST_LETTERS : Tok
  c_MOST_LETTERS : mg "MOST_LETTERS" = some (.int 8 tk_MOST_LETTERS)
  tk_MOST_WORKS : Tok
  c_MOST_WORKS : mg "MOST_WORKS" = some (.int 30 tk_MOST_WORKS)
  tk_MOST_BELTS : Tok
  c_MOST_BELTS : mg "MOST_BELTS" = some (.int 60 tk_MOST_BELTS)
  bl_law : ∀ (s : Shared) (v : Value), BindsTo s d_law ⟨[v], []⟩ [("_law_script", v)]
theorem G_turn' {a b : Int} (ha : 0 ≤ a) (hb : 0 < b) : My.G b (a % b) = My.G a b := by
  rw [← Int.fmod_eq_emod_of_nonneg _ (Int.le_of_lt hb)]
  exact My.G_turn ha hb
theorem log_of {k : Nat} {x : Int} (h : My.S k x) (hk : k ≤ 2) : x.natAbs.log2 < 9000 := by
  by_cases h0 : x.natAbs = 0
  · rw [h0]; decide +kernel
  · have e : x.natAbs = x.toNat := by have := h.lo; omega
    have l := (Nat.log2_lt h0).mpr (by rw [e]; exact (h.mono hk).hi)
    omega
def spLaw (K : PySem.W.Frag) : Sp := fun vs H Q _ => ∃ (a : Addr) (ns : List Int), vs = [.ref a] ∧ SqL K H a (ns.map V.int) ∧ ns.length ≤ 63 ∧ ∀ H', Q (.bl true) H'
def sp_law {K : PySem.W.Frag} {mg : Str → Option Value} (T : Tp K mg) : Sp := spLaw K
def isName (x : Str) : Bool := decide (1 ≤ x.length) && decide (x.length ≤ 8) && x.cps.toList.all fun c => decide (97 ≤ c) && decide (c ≤ 122)
structure B5 where
  giver : Int
  taker : Int
  give : Int
  take : Int
  start : Int
def B5.v (b : B5) : List V := [.int b.giver, .int b.taker, .int b.give, .int b.take, .int b.start]
structure HM where
  names : List Str
  belts : List B5
def Tups (H : Hp) : List V → List B5 → Prop := Paired fun v b => ∃ t, v = .ref t ∧ H t = some (.tup b.v)
def numsOf (ns : List Str) : List (Key × V) := ns.zipIdx.map fun p => (Sum.inr p.1, V.int p.2)
theorem numsOf_len (ns : List Str) : (numsOf ns).length = ns.length := by unfold numsOf; simp
theorem numsOf_snoc (ns : List Str) (x : Str) : numsOf (ns ++ [x]) = numsOf ns ++ [(Sum.inr x, .int ns.length)] := by
  unfold numsOf
  rw [List.zipIdx_append]
  simp
theorem numsOf_keys (ns : List Str) : ((numsOf ns).map fun kv => kV kv.1) = ns.map V.str := by
  unfold numsOf
  rw [List.map_map]
  have : ((fun kv : Key × V => kV kv.1) ∘ fun p : Str × Nat => ((Sum.inr p.1 : Key), V.int p.2)) = (V.str ∘ fun p : Str × Nat => p.1) := rfl
  rw [this, ← List.map_map, List.zipIdx_map_fst]
theorem numsOf_in (ns : List Str) (x : Str) : (valV (numsOf ns) (Sum.inr x)).isSome = decide (x ∈ ns) := by
  rw [← valV_any]
  rw [Bool.eq_iff_iff, List.any_eq_true, decide_eq_true_eq]
  have e : x ∈ ns ↔ V.str x ∈ ns.map V.str := by
    constructor
    · exact List.mem_map_of_mem
    · intro h
      obtain ⟨y, hy, e⟩ := List.mem_map.mp h
      cases e
      exact hy
  rw [e, ← numsOf_keys, List.mem_map]
  constructor
  · rintro ⟨p, hp, h⟩
    exact ⟨p, hp, by rw [of_decide_eq_true h]; rfl⟩
  · rintro ⟨p, hp, h⟩
    exact ⟨p, hp, decide_eq_true (kV_inj h)⟩
theorem numsOf_none {ns : List Str} {x : Str} (h : x ∉ ns) : valV (numsOf ns) (Sum.inr x) = none := by
  have := numsOf_in ns x
  rw [decide_eq_false h] at this
  cases e : valV (numsOf ns) (Sum.inr x) with
  | none => rfl
  | some v => rw [e] at this; cases this
theorem numsOf_put {ns : List Str} {x : Str} (h : x ∉ ns) : putK (numsOf ns) (Sum.inr x) (.int ns.length) = numsOf (ns ++ [x]) := by
  rw [putK_new _ (numsOf_none h), numsOf_snoc]
def HallAt {K : PySem.W.Frag} {mg : Str → Option Value} (T : Tp K mg) (H : Hp) (p : Addr) (hl : HM) (fp : List Addr) : Prop :=
  ∃ (dx a b : Addr) (bs : List V), fp = [p, dx, a, b] ∧ H p = some (.ins T.C_Hall dx [("numbers", .ref a), ("rows", .ref b)]) ∧ H dx = some (.own p) ∧ H a = some (.dK (numsOf hl.names)) ∧ H b = some (.lst bs) ∧ a ≠ b ∧ Tups H bs hl.belts
theorem Tups.keep {H H' : Hp} (t : ∀ b xs, H b = some (.tup xs) → H' b = some (.tup xs)) : ∀ {bs : List V} {ls : List B5}, Tups H bs ls → Tups H' bs ls
  | _, _, .nil => .nil
  | _, _, .cons ⟨a, e, h⟩ r => .cons ⟨a, e, t _ _ h⟩ (Tups.keep t r)
theorem Tups.length {H : Hp} {bs : List V} {ls : List B5} (h : Tups H bs ls) : bs.length = ls.length := Paired.length h
theorem Tups.snoc {H : Hp} : ∀ {bs : List V} {ls : List B5} {t : Addr} {b : B5}, Tups H bs ls → H t = some (.tup b.v) → Tups H (bs ++ [.ref t]) (ls ++ [b])
  | _, _, _, _, .nil, h => .cons ⟨_, rfl, h⟩ .nil
  | _, _, _, _, .cons x r, h => .cons x (Tups.snoc r h)
theorem Tups.at {H : Hp} : ∀ {bs : List V} {ls : List B5} {i : Nat} {b : B5}, Tups H bs ls → ls[i]? = some b → ∃ t, bs[i]? = some (.ref t) ∧ H t = some (.tup b.v)
  | _, _, _, _, .nil, e => by simp at e
  | _, _, 0, _, .cons ⟨t, e1, h⟩ _, e => by simp at e; subst e; exact ⟨t, by simp [e1], h⟩
  | _, _, i + 1, b, .cons _ r, e => by
    obtain ⟨t, h1, h2⟩ := Tups.at (i := i) (b := b) r (by simpa using e)
    exact ⟨t, by simpa using h1, h2⟩
section
variable {K : PySem.W.Frag} {mg : Str → Option Value} {T : Tp K mg} {H H' : Hp} {p : Addr} {hl : HM} {fp : List Addr}
theorem HallAt.dom (h : HallAt T H p hl fp) : ∀ x ∈ fp, H x ≠ none := by
  obtain ⟨dx, a, b, bs, rfl, h1, h2, h3, h4, _⟩ := h
  intro x hx
  simp only [List.mem_cons, List.not_mem_nil, or_false] at hx
  rcases hx with rfl | rfl | rfl | rfl
  · rw [h1]; simp
  · rw [h2]; simp
  · rw [h3]; simp
  · rw [h4]; simp
theorem HallAt.keep (h : HallAt T H p hl fp) (k : ∀ x ∈ fp, H' x = H x) (t : ∀ b xs, H b = some (.tup xs) → H' b = some (.tup xs)) : HallAt T H' p hl fp := by
  obtain ⟨dx, a, b, bs, rfl, h1, h2, h3, h4, h5, h6⟩ := h
  exact ⟨dx, a, b, bs, rfl, (k p (by simp)).trans h1, (k dx (by simp)).trans h2, (k a (by simp)).trans h3, (k b (by simp)).trans h4, h5, h6.keep t⟩
theorem HallAt.off {A : List Addr} (h : HallAt T H p hl fp) (f : Frame A H H') (d : ∀ x ∈ fp, x ∉ A) : HallAt T H' p hl fp := by
  refine h.keep (fun x hx => ?_) f.tups
  cases q : H x with
  | none => exact absurd q (h.dom x hx)
  | some o => exact f.keep x o q (d x hx)
theorem Hall_meth {m : Str} {G : Prop} (h : HallAt T H p hl fp) (m1 : (m == "numbers") = false) (m2 : (m == "rows") = false) (q : G) : ∃ a dx fs, V.ref p = .ref a ∧ H a = some (.ins T.C_Hall dx fs) ∧ fs.lookup m = none ∧ G := by
  obtain ⟨dx, a, b, bs, rfl, h1, _⟩ := h
  exact ⟨p, dx, _, rfl, h1, Rd.lk1 m1 (Rd.lk1 m2 Rd.lkN), q⟩
theorem HallAt.same (h : HallAt T H p hl fp) (e : Same H H') : HallAt T H' p hl fp := h.off (A := []) e.frame (by simp)
end
def dB : B5 := ⟨0, 0, 0, 0, 0⟩
def enterL (ls : List B5) (w : Int) : List Nat := (List.range ls.length).filter fun i => decide ((ls.getD i dB).taker = w)
def leaveL (ls : List B5) (w : Int) : List Nat := (List.range ls.length).filter fun i => decide ((ls.getD i dB).giver = w)
theorem Tups.getD {H : Hp} {bs : List V} {ls : List B5} {i : Nat} (h : Tups H bs ls) (hi : i < ls.length) : ∃ t, bs.getD i .non = .ref t ∧ H t = some (.tup (ls.getD i dB).v) := by
  obtain ⟨t, h1, h2⟩ := h.at (List.getElem?_eq_getElem hi)
  exact ⟨t, by simp [List.getD, h1], by simpa [List.getD, hi] using h2⟩
theorem same_none {H H' : Hp} {x : Addr} (s : Same H H') (h : H' x = none) : H x = none := by
  cases e : H x with
  | none => rfl
  | some o => rw [s _ _ e] at h; cases h
theorem getD_of {α : Type} {xs : List α} {i : Nat} {d : α} (h : i < xs.length) : xs.getD i d = xs[i] := by simp [List.getD, h]
theorem at_ints28 {ns : List Int} {k : Int} (h0 : 0 ≤ k) (h1 : k < ns.length) : atI (ns.map V.int) k = some (.int (ns.getD k.toNat 0)) := by
  obtain ⟨n, rfl⟩ := Int.eq_ofNat_of_zero_le h0
  have hn : n < ns.length := by omega
  refine atI_nat ?_
  simp [List.getD, hn]
theorem Paired.get {α β : Type} {P : α → β → Prop} : ∀ {xs : List α} {ys : List β} {i : Nat} {x : α}, Paired P xs ys → xs[i]? = some x → ∃ y, ys[i]? = some y ∧ P x y
  | _, _, _, _, .nil, e => by simp at e
  | _, _, 0, _, .cons h _, e => by simp at e; subst e; exact ⟨_, rfl, h⟩
  | _, _, i + 1, x, .cons _ r, e => by
    obtain ⟨y, h1, h2⟩ := Paired.get (i := i) (x := x) r (by simpa using e)
    exact ⟨y, by simpa using h1, h2⟩
theorem paired_of {α β : Type} {P : α → β → Prop} : ∀ {xs : List α} {ys : List β}, xs.length = ys.length → (∀ (i : Nat) x y, xs[i]? = some x → ys[i]? = some y → P x y) → Paired P xs ys
  | [], [], _, _ => .nil
  | x :: xs, y :: ys, hl, h => .cons (h 0 x y rfl rfl) (paired_of (by simpa using hl) fun i a b e1 e2 => h (i + 1) a b (by simpa using e1) (by simpa using e2))
  | [], _ :: _, hl, _ => by simp at hl
  | _ :: _, [], hl, _ => by simp at hl
theorem paired_range {β γ : Type} {S : γ → β → Prop} {L : List γ} {d : γ} {ys : List β} (h : Paired (fun i v => S (L.getD i d) v) ((List.range L.length).filter fun _ => true) ys) : Paired S L ys := by
  rw [List.filter_eq_self.mpr (by simp)] at h
  refine paired_of (by rw [← Paired.length h, List.length_range]) fun i x y e1 e2 => ?_
  have hi : i < L.length := (List.getElem?_eq_some_iff.mp e1).1
  obtain ⟨y', h1, h2⟩ := Paired.get (i := i) (x := i) h (by simp [hi])
  rw [e2] at h1
  cases h1
  simpa [List.getD, e1] using h2
def Pairs (H : Hp) : List (Int × Int) → List V → Prop := Paired fun x v => ∃ t, v = .ref t ∧ H t = some (.tup [.int x.1, .int x.2])
theorem Pairs.keep {H H' : Hp} (t : ∀ b xs, H b = some (.tup xs) → H' b = some (.tup xs)) {vs : List V} {l : List (Int × Int)} (h : Pairs H l vs) : Pairs H' l vs := Paired.mapP h fun _ _ ⟨a, e, z⟩ => ⟨a, e, t _ _ z⟩
def LL (H : Hp) : List (List (Int × Int)) → List Addr → Prop := Paired fun l a => ∃ vs, H a = some (.lst vs) ∧ Pairs H l vs
theorem LL.dom {H : Hp} : ∀ {ls : List (List (Int × Int))} {as : List Addr}, LL H ls as → ∀ x ∈ as, H x ≠ none
  | _, _, .nil, _, hx => by simp at hx
  | _, _, .cons ⟨vs, h, _⟩ r, x, hx => by
    rcases List.mem_cons.mp hx with rfl | hx
    · rw [h]; simp
    · exact LL.dom r x hx
theorem LL.keep {H H' : Hp} (t : ∀ b xs, H b = some (.tup xs) → H' b = some (.tup xs)) : ∀ {ls : List (List (Int × Int))} {as : List Addr}, LL H ls as → (∀ x ∈ as, H' x = H x) → LL H' ls as
  | _, _, .nil, _ => .nil
  | _, _, .cons ⟨vs, h, p⟩ r, k => .cons ⟨vs, (k _ (by simp)).trans h, p.keep t⟩ (LL.keep t r fun x hx => k x (List.mem_cons_of_mem _ hx))
def takeRow (ls : List B5) (w : Int) : List (Int × Int) := (enterL ls w).map fun i : Nat => ((i : Int), (ls.getD i dB).take)
def giveRow (ls : List B5) (w : Int) : List (Int × Int) := (leaveL ls w).map fun i : Nat => ((i : Int), (ls.getD i dB).give)
structure FM where
  many : Int
  rows : List B5
  heaps : List Int
def takesL (fl : FM) : List (List (Int × Int)) := (List.range fl.many.toNat).map fun w : Nat => takeRow fl.rows w
def givesL (fl : FM) : List (List (Int × Int)) := (List.range fl.many.toNat).map fun w : Nat => giveRow fl.rows w
def FloorAt {K : PySem.W.Frag} {mg : Str → Option Value} (T : Tp K mg) (H : Hp) (p : Addr) (fl : FM) (fp : List Addr) : Prop :=
  ∃ (dx a b c : Addr) (ia ib : List Addr), fp = p :: dx :: a :: b :: c :: (ia ++ ib) ∧ H p = some (.ins T.C_Floor dx [("takes", .ref a), ("gives", .ref b), ("heaps", .ref c)]) ∧ H dx = some (.own p) ∧ H a = some (.lst (ia.map V.ref)) ∧ H b = some (.lst (ib.map V.ref)) ∧
    H c = some (.lst (fl.heaps.map V.int)) ∧ LL H (takesL fl) ia ∧ LL H (givesL fl) ib ∧ fl.heaps.length = fl.rows.length ∧ 0 ≤ fl.many
section
variable {K : PySem.W.Frag} {mg : Str → Option Value} {T : Tp K mg} {H H' : Hp} {p : Addr} {fl : FM} {fp : List Addr}
theorem FloorAt.dom (h : FloorAt T H p fl fp) : ∀ x ∈ fp, H x ≠ none := by
  obtain ⟨dx, a, b, c, ia, ib, rfl, h1, h2, h3, h4, h5, h6, h7, h8, h9⟩ := h
  intro x hx
  simp only [List.mem_cons, List.mem_append] at hx
  rcases hx with rfl | rfl | rfl | rfl | rfl | hx | hx
  · rw [h1]; simp
  · rw [h2]; simp
  · rw [h3]; simp
  · rw [h4]; simp
  · rw [h5]; simp
  · exact h6.dom x hx
  · exact h7.dom x hx
theorem FloorAt.off {A : List Addr} (h : FloorAt T H p fl fp) (f : Frame A H H') (d : ∀ x ∈ fp, x ∉ A) : FloorAt T H' p fl fp := by
  have k : ∀ x ∈ fp, H' x = H x := fun x hx => by
    cases q : H x with
    | none => exact absurd q (h.dom x hx)
    | some o => exact f.keep x o q (d x hx)
  obtain ⟨dx, a, b, c, ia, ib, rfl, h1, h2, h3, h4, h5, h6, h7, h8, h9⟩ := h
  exact ⟨dx, a, b, c, ia, ib, rfl, (k p (by simp)).trans h1, (k dx (by simp)).trans h2, (k a (by simp)).trans h3, (k b (by simp)).trans h4, (k c (by simp)).trans h5,
    h6.keep f.tups (fun x hx => k x (by simp [hx])), h7.keep f.tups (fun x hx => k x (by simp [hx])), h8, h9⟩
theorem FloorAt.same (h : FloorAt T H p fl fp) (e : Same H H') : FloorAt T H' p fl fp := h.off (A := []) e.frame (by simp)
theorem Floor_meth {m : Str} {G : Prop} (h : FloorAt T H p fl fp) (m1 : (m == "takes") = false) (m2 : (m == "gives") = false) (m3 : (m == "heaps") = false) (q : G) : ∃ a dx fs, V.ref p = .ref a ∧ H a = some (.ins T.C_Floor dx fs) ∧ fs.lookup m = none ∧ G := by
  obtain ⟨dx, a, b, c, ia, ib, rfl, h1, _⟩ := h
  exact ⟨p, dx, _, rfl, h1, Rd.lk1 m1 (Rd.lk1 m2 (Rd.lk1 m3 Rd.lkN)), q⟩
end
def readyL (rows : List B5) (hs : List Int) (w : Int) : Bool := (rows.zip hs).all fun x => !(decide (x.1.taker = w)) || decide (x.1.take ≤ x.2)
theorem readyL_true {w : Int} : ∀ {rows : List B5} {hs : List Int}, (∀ (i : Nat) (r : B5) (h : Int), rows[i]? = some r → hs[i]? = some h → r.taker = w → r.take ≤ h) → readyL rows hs w = true
  | [], _, _ => by simp [readyL]
  | _ :: _, [], _ => by simp [readyL]
  | r :: rs, h :: hs, q => by
    have e := readyL_true (rows := rs) (hs := hs) (w := w) fun i r' h' a b => q (i + 1) r' h' (by simpa using a) (by simpa using b)
    unfold readyL at e ⊢
    rw [List.zip_cons_cons, List.all_cons, e, Bool.and_true]
    by_cases c : r.taker = w
    · rw [decide_eq_true (q 0 r h rfl rfl c), Bool.or_true]
    · rw [decide_eq_false c]; rfl
theorem readyL_false {w : Int} : ∀ {rows : List B5} {hs : List Int} (i : Nat) {r : B5} {h : Int}, rows[i]? = some r → hs[i]? = some h → r.taker = w → h < r.take → readyL rows hs w = false
  | [], _, _, _, _, a, _, _, _ => by simp at a
  | _ :: _, [], _, _, _, _, a, _, _ => by simp at a
  | r :: rs, h :: hs, 0, r', h', a, b, c, d => by
    simp only [List.getElem?_cons_zero, Option.some.injEq] at a b
    subst a b
    unfold readyL
    rw [List.zip_cons_cons, List.all_cons, decide_eq_true c, decide_eq_false (show ¬ r.take ≤ h by omega)]
    rfl
  | r :: rs, h :: hs, i + 1, r', h', a, b, c, d => by
    have e := readyL_false (rows := rs) (hs := hs) (w := w) i (r := r') (h := h') (by simpa using a) (by simpa using b) c d
    unfold readyL at e ⊢
    rw [List.zip_cons_cons, List.all_cons, e, Bool.and_false]
def shiftL (rows : List B5) (hs : List Int) (w : Int) : List Int := (rows.zip hs).map fun x => x.2 - (if x.1.taker = w then x.1.take else 0) + (if x.1.giver = w then x.1.give else 0)
theorem shiftL_len {rows : List B5} {hs : List Int} {w : Int} (h : hs.length = rows.length) : (shiftL rows hs w).length = hs.length := by unfold shiftL; simp; omega
theorem shiftL_at {rows : List B5} {hs : List Int} {w : Int} {i : Nat} (h1 : i < rows.length) (h2 : i < hs.length) (h3 : i < (shiftL rows hs w).length) : (shiftL rows hs w)[i] = hs[i] - (if rows[i].taker = w then rows[i].take else 0) + (if rows[i].giver = w then rows[i].give else 0) := by
  have e : (shiftL rows hs w)[i]? = some (hs[i] - (if rows[i].taker = w then rows[i].take else 0) + (if rows[i].giver = w then rows[i].give else 0)) := by
    unfold shiftL
    rw [List.getElem?_map, List.getElem?_eq_getElem (by rw [List.length_zip]; omega)]
    simp
  rw [List.getElem?_eq_getElem h3] at e
  exact Option.some.inj e
def enoughL (hs : List Int) (l : List (Int × Int)) : Bool := l.all fun x => decide (x.2 ≤ hs.getD x.1.toNat 0)
theorem enoughL_eq {rows : List B5} {hs : List Int} {w : Int} (h : hs.length = rows.length) : enoughL hs (takeRow rows w) = readyL rows hs w := by
  cases e : enoughL hs (takeRow rows w) with
  | true =>
    refine (readyL_true fun i r x a b c => ?_).symm
    have hi : i < rows.length := (List.getElem?_eq_some_iff.mp a).1
    have er : rows.getD i dB = r := by simp [List.getD, a]
    have m : ((i : Int), r.take) ∈ takeRow rows w := by
      unfold takeRow enterL
      refine List.mem_map.mpr ⟨i, List.mem_filter.mpr ⟨List.mem_range.mpr hi, decide_eq_true (by rw [er]; exact c)⟩, by rw [er]⟩
    have := of_decide_eq_true (List.all_eq_true.mp e _ m)
    simpa [List.getD, b] using this
  | false =>
    unfold enoughL at e
    rw [List.all_eq_false] at e
    obtain ⟨x, hx, d⟩ := e
    unfold takeRow enterL at hx
    obtain ⟨i, hi, rfl⟩ := List.mem_map.mp hx
    obtain ⟨h1, h2⟩ := List.mem_filter.mp hi
    have hr := List.mem_range.mp h1
    have ei := List.getElem?_eq_getElem hr
    have eh := List.getElem?_eq_getElem (show i < hs.length by omega)
    have er : rows.getD i dB = rows[i] := by simp [List.getD, ei]
    rw [er] at h2 d
    refine (readyL_false i ei eh (of_decide_eq_true h2) ?_).symm
    have d' : ¬ rows[i].take ≤ hs.getD (i : Int).toNat 0 := fun z => d (decide_eq_true z)
    have eg : hs.getD (i : Int).toNat 0 = hs[i] := by simp [List.getD, eh]
    rw [eg] at d'
    omega
theorem enterL_lt {ls : List B5} {w : Int} {i : Nat} (h : i ∈ enterL ls w) : i < ls.length := List.mem_range.mp (List.mem_filter.mp h).1
theorem leaveL_lt {ls : List B5} {w : Int} {i : Nat} (h : i ∈ leaveL ls w) : i < ls.length := List.mem_range.mp (List.mem_filter.mp h).1
theorem enterL_len {ls : List B5} {w : Int} : (enterL ls w).length ≤ ls.length := Nat.le_trans (List.length_filter_le _ _) (by simp)
theorem leaveL_len {ls : List B5} {w : Int} : (leaveL ls w).length ≤ ls.length := Nat.le_trans (List.length_filter_le _ _) (by simp)
def bump (f : Nat → Int) (hs : List Int) (is : List Nat) : List Int := is.foldl (fun hs i => hs.set i (hs.getD i 0 + f i)) hs
theorem bump_len (f : Nat → Int) : ∀ (is : List Nat) (hs : List Int), (bump f hs is).length = hs.length
  | [], _ => rfl
  | i :: is, hs => by
    show (bump f (hs.set i _) is).length = _
    rw [bump_len f is, List.length_set]
theorem bump_at (f : Nat → Int) : ∀ (is : List Nat) (hs : List Int) (j : Nat), is.Nodup → j < hs.length → (bump f hs is).getD j 0 = hs.getD j 0 + if j ∈ is then f j else 0
  | [], hs, j, _, _ => by simp [bump]
  | i :: is, hs, j, nd, hj => by
    obtain ⟨n1, n2⟩ := List.nodup_cons.mp nd
    show (bump f (hs.set i (hs.getD i 0 + f i)) is).getD j 0 = _
    rw [bump_at f is _ j n2 (by rw [List.length_set]; exact hj)]
    by_cases e : i = j
    · subst e
      have e1 : (hs.set i (hs.getD i 0 + f i)).getD i 0 = hs.getD i 0 + f i := by rw [List.getD_eq_getElem?_getD, List.getElem?_set_self hj]; rfl
      rw [e1, if_neg n1, if_pos List.mem_cons_self, Int.add_zero]
    · have e1 : (hs.set i (hs.getD i 0 + f i)).getD j 0 = hs.getD j 0 := by rw [List.getD_eq_getElem?_getD, List.getElem?_set_ne e, List.getD_eq_getElem?_getD]
      rw [e1]
      have : (j ∈ i :: is) ↔ j ∈ is := by simp [Ne.symm e]
      simp only [this]
theorem nodup_filter_range (n : Nat) (c : Nat → Bool) : ((List.range n).filter c).Nodup := List.nodup_range.filter c
theorem shift_bump {rows : List B5} {hs : List Int} {w : Int} (h : hs.length = rows.length) :
    bump (fun i => (rows.getD i dB).give) (bump (fun i => - (rows.getD i dB).take) hs (enterL rows w)) (leaveL rows w) = shiftL rows hs w := by
  have l1 := bump_len (fun i => - (rows.getD i dB).take) (enterL rows w) hs
  refine List.ext_getElem (by rw [bump_len, l1, shiftL_len h]) fun i h1 h2 => ?_
  rw [bump_len, l1] at h1
  have hr : i < rows.length := by omega
  rw [shiftL_at hr h1 h2]
  have e0 : ∀ (xs : List Int) (hx : i < xs.length), xs[i] = xs.getD i 0 := fun xs hx => by simp [List.getD, hx]
  rw [e0 _ (by rw [bump_len, l1]; exact h1), bump_at _ (leaveL rows w) _ _ (nodup_filter_range _ _) (by rw [l1]; exact h1), bump_at _ (enterL rows w) _ _ (nodup_filter_range _ _) h1, ← e0 hs h1]
  have er : rows.getD i dB = rows[i] := by simp [List.getD, hr]
  have m1 : i ∈ enterL rows w ↔ rows[i].taker = w := by
    unfold enterL
    rw [List.mem_filter, List.mem_range, er, decide_eq_true_eq]
    exact ⟨fun z => z.2, fun z => ⟨hr, z⟩⟩
  have m2 : i ∈ leaveL rows w ↔ rows[i].giver = w := by
    unfold leaveL
    rw [List.mem_filter, List.mem_range, er, decide_eq_true_eq]
    exact ⟨fun z => z.2, fun z => ⟨hr, z⟩⟩
  simp only [m1, m2, er]
  split <;> split <;> omega
def turnR (many : Int) (rows : List B5) (hs : List Int) (w : Int) : Except Bool (List Int) := if 0 ≤ w ∧ w < many then (if readyL rows hs w = true then .ok (shiftL rows hs w) else .error false) else .error true
def goR (many : Int) (rows : List B5) : List Int → List Int → Except Bool (List Int)
  | hs, [] => .ok hs
  | hs, w :: ws => match turnR many rows hs w with
    | .ok hs' => goR many rows hs' ws
    | .error e => .error e
theorem goR_append {many : Int} {rows : List B5} : ∀ {xs : List Int} {hs hs' : List Int} {ys : List Int}, goR many rows hs xs = .ok hs' → goR many rows hs (xs ++ ys) = goR many rows hs' ys
  | [], hs, hs', ys, h => by
    have : hs = hs' := by simpa [goR] using h
    rw [this]; rfl
  | x :: xs, hs, hs', ys, h => by
    show (match turnR many rows hs x with | .ok hs' => goR many rows hs' (xs ++ ys) | .error e => .error e) = _
    have h' : (match turnR many rows hs x with | .ok hs' => goR many rows hs' xs | .error e => .error e) = .ok hs' := h
    cases e : turnR many rows hs x with
    | ok h1 =>
      rw [e] at h'
      exact goR_append (xs := xs) h'
    | error b => rw [e] at h'; cases h'
theorem goR_err {many : Int} {rows : List B5} : ∀ {xs : List Int} {hs : List Int} {b : Bool} {ys : List Int}, goR many rows hs xs = .error b → goR many rows hs (xs ++ ys) = .error b
  | [], hs, b, ys, h => by cases h
  | x :: xs, hs, b, ys, h => by
    show (match turnR many rows hs x with | .ok hs' => goR many rows hs' (xs ++ ys) | .error e => .error e) = _
    have h' : (match turnR many rows hs x with | .ok hs' => goR many rows hs' xs | .error e => .error e) = .error b := h
    cases e : turnR many rows hs x with
    | ok h1 =>
      rw [e] at h'
      exact goR_err (xs := xs) h'
    | error c => rw [e] at h'; exact h'
theorem goR_step {many : Int} {rows : List B5} {hs0 hs : List Int} {ws : List Int} {i : Nat} {w : Int} (h : goR many rows hs0 (ws.take i) = .ok hs) (e : ws[i]? = some w) : goR many rows hs0 (ws.take (i + 1)) = turnR many rows hs w := by
  have hi := (List.getElem?_eq_some_iff.mp e)
  rw [List.take_succ, e]
  show goR many rows hs0 (ws.take i ++ [w]) = _
  rw [goR_append h]
  show (match turnR many rows hs w with | .ok hs' => goR many rows hs' [] | .error e => .error e) = _
  cases turnR many rows hs w <;> rfl
theorem goR_stop {many : Int} {rows : List B5} {hs0 hs : List Int} {ws : List Int} {i : Nat} {w : Int} {b : Bool} (h : goR many rows hs0 (ws.take i) = .ok hs) (e : ws[i]? = some w) (t : turnR many rows hs w = .error b) : goR many rows hs0 ws = .error b := by
  have := goR_err (ys := ws.drop (i + 1)) ((goR_step h e).trans t)
  rwa [List.take_append_drop] at this
theorem turnR_len {many : Int} {rows : List B5} {hs hs' : List Int} {w : Int} (h : hs.length = rows.length) (e : turnR many rows hs w = .ok hs') : hs'.length = rows.length := by
  unfold turnR at e
  split at e
  · split at e
    · cases e
      rw [shiftL_len h, h]
    · cases e
  · cases e
theorem goR_len {many : Int} {rows : List B5} : ∀ {ws : List Int} {hs hs' : List Int}, hs.length = rows.length → goR many rows hs ws = .ok hs' → hs'.length = rows.length
  | [], hs, hs', h, e => by
    have : hs = hs' := by simpa [goR] using e
    rw [← this]; exact h
  | w :: ws, hs, hs', h, e => by
    have e' : (match turnR many rows hs w with | .ok hs' => goR many rows hs' ws | .error e => .error e) = .ok hs' := e
    cases q : turnR many rows hs w with
    | ok h1 =>
      rw [q] at e'
      exact goR_len (turnR_len h q) e'
    | error b => rw [q] at e'; cases e'
theorem takesL_at {fl : FM} {w : Int} (h0 : 0 ≤ w) (h1 : w < fl.many) : (takesL fl)[w.toNat]? = some (takeRow fl.rows w) := by
  unfold takesL
  have : w.toNat < fl.many.toNat := by omega
  rw [List.getElem?_map, List.getElem?_range this]
  show some (takeRow fl.rows (w.toNat : Int)) = _
  rw [Int.toNat_of_nonneg h0]
theorem givesL_at {fl : FM} {w : Int} (h0 : 0 ≤ w) (h1 : w < fl.many) : (givesL fl)[w.toNat]? = some (giveRow fl.rows w) := by
  unfold givesL
  have : w.toNat < fl.many.toNat := by omega
  rw [List.getElem?_map, List.getElem?_range this]
  show some (giveRow fl.rows (w.toNat : Int)) = _
  rw [Int.toNat_of_nonneg h0]
theorem LL.at {H : Hp} {ls : List (List (Int × Int))} {ia : List Addr} {w : Int} {l : List (Int × Int)} (h : LL H ls ia) (h0 : 0 ≤ w) (e : ls[w.toNat]? = some l) : ∃ x vs, atI (ia.map V.ref) w = some (.ref x) ∧ H x = some (.lst vs) ∧ Pairs H l vs := by
  obtain ⟨x, h1, vs, h2, h3⟩ := Paired.get h e
  refine ⟨x, vs, ?_, h2, h3⟩
  have := atI_nat (xs := ia.map V.ref) (j := w.toNat) (v := .ref x) (by rw [List.getElem?_map, h1]; rfl)
  rwa [Int.toNat_of_nonneg h0] at this
theorem LL.len {H : Hp} {ls : List (List (Int × Int))} {ia : List Addr} (h : LL H ls ia) : ia.length = ls.length := (Paired.length h).symm
theorem pairs_row {H : Hp} {js : List Nat} {f : Nat → Int} {ys : List V} (h : Paired (fun i v => ∃ t, v = V.ref t ∧ H t = some (.tup [.int (js.getD i 0 : Nat), .int (f (js.getD i 0))])) ((List.range (js.map fun i : Nat => V.int i).length).filter fun _ => true) ys) : Pairs H (js.map fun i : Nat => ((i : Int), f i)) ys := by
  rw [List.length_map] at h
  have h1 : Paired (fun (j : Nat) v => ∃ t, v = V.ref t ∧ H t = some (.tup [.int (j : Nat), .int (f j)])) js ys := paired_range (L := js) (d := 0) h
  refine paired_of (by rw [List.length_map]; exact Paired.length h1) fun i x y e1 e2 => ?_
  rw [List.getElem?_map] at e1
  cases e : js[i]? with
  | none => rw [e] at e1; cases e1
  | some j =>
    rw [e] at e1
    cases e1
    obtain ⟨y', e3, h3⟩ := Paired.get h1 e
    rw [e2] at e3
    cases e3
    exact h3
theorem takeRow_rg {ls : List B5} {w : Int} {n : Nat} (h : n = ls.length) : ∀ x ∈ takeRow ls w, 0 ≤ x.1 ∧ x.1 < n := by
  intro x hx
  obtain ⟨i, hi, rfl⟩ := List.mem_map.mp hx
  have := enterL_lt hi
  show 0 ≤ (i : Int) ∧ (i : Int) < n
  omega
theorem takeRow_len {ls : List B5} {w : Int} : (takeRow ls w).length ≤ ls.length := by unfold takeRow; rw [List.length_map]; exact enterL_len
def startsL (ls : List B5) : List Int := ls.map (·.start)
theorem paired_bools {f : Nat → Bool} : ∀ {is : List Nat} {ys : List V}, Paired (fun i v => v = V.bl (f i)) is ys → ys = (is.map f).map V.bl
  | _, _, .nil => rfl
  | _, _, .cons a r => by rw [a, paired_bools r]; rfl
theorem all_range {n : Nat} {P : Nat → Prop} [∀ i, Decidable (P i)] : (((List.range n).map fun i => decide (P i)).all id) = true ↔ ∀ i < n, P i := by
  simp
def PiecesOk (xss : List (List Int)) (ss : List Int) : Prop := xss.length = ss.length ∧ ∀ i < xss.length, ((xss.getD i []).length : Int) = ss.getD i 0
theorem rows_getD {H : Hp} {ys : List V} {xss : List (List Int)} {i : Nat} (h : RowsAt H ys xss) (hi : i < xss.length) : ∃ t, ys.getD i .non = .ref t ∧ H t = some (.lst ((xss.getD i []).map V.int)) := by
  obtain ⟨t, h1, h2⟩ := h.at (List.getElem?_eq_getElem hi)
  exact ⟨t, by simp [List.getD, h1], by rw [getD_of hi]; exact h2⟩
theorem small20000 {n : Nat} (h : n ≤ 1000000) : n < sizeLine := Nat.lt_of_le_of_lt h (by decide)
theorem cut_mid {xs : List V} {a b : Int} (h0 : 0 ≤ a) (h1 : 0 ≤ b) : cutV xs (some a) (some (a + b)) = (xs.drop a.toNat).take b.toNat := by
  obtain ⟨m, rfl⟩ := Int.eq_ofNat_of_zero_le h0
  obtain ⟨k, rfl⟩ := Int.eq_ofNat_of_zero_le h1
  have e1 : HT.sIx xs.length 0 (some (m : Int)) = min m xs.length := by
    simp only [HT.sIx]
    rw [if_neg (by omega)]
    simp
  have e2 : HT.sIx xs.length xs.length (some ((m : Int) + (k : Int))) = min (m + k) xs.length := by
    simp only [HT.sIx]
    rw [if_neg (by omega)]
    have : ((m : Int) + (k : Int)).toNat = m + k := by omega
    rw [this]
  unfold cutV
  rw [e1, e2, Int.toNat_natCast, Int.toNat_natCast]
  rcases Nat.lt_or_ge m xs.length with c | c
  · rw [Nat.min_eq_left (Nat.le_of_lt c)]
    rcases Nat.lt_or_ge (m + k) xs.length with c2 | c2
    · rw [Nat.min_eq_left (Nat.le_of_lt c2)]
      congr 1
      omega
    · rw [Nat.min_eq_right c2, List.take_of_length_le (by rw [List.length_drop]; omega), List.take_of_length_le (by rw [List.length_drop]; omega)]
  · rw [Nat.min_eq_right c, List.drop_eq_nil_of_le (Nat.le_refl _), List.drop_eq_nil_of_le c]
    simp
theorem rows_of {H0 H : Hp} {f : Nat → List Int} : ∀ {is : List Nat} {ys : List V}, Paired (fun i v => ∃ t, v = V.ref t ∧ H0 t = none ∧ H t = some (.lst ((f i).map V.int))) is ys → RowsAt H ys (is.map f) ∧ ∀ v ∈ ys, ∃ t, v = V.ref t ∧ H0 t = none
  | _, _, .nil => ⟨.nil, by simp⟩
  | _, _, .cons ⟨t, e, h0, h⟩ r => by
    obtain ⟨h1, h2⟩ := rows_of r
    refine ⟨.cons ⟨t, e, h⟩ h1, fun v hv => ?_⟩
    rcases List.mem_cons.mp hv with rfl | hv
    · exact ⟨t, e, h0⟩
    · exact h2 v hv
theorem bitsI {n : Nat} {a : Int} (h : a.natAbs < 2 ^ n) : Builtin.Int.intBits a ≤ n := by
  unfold Builtin.Int.intBits
  split
  · exact Nat.zero_le _
  · rename_i hz
    have h0 : a.natAbs ≠ 0 := by
      intro e
      apply hz
      have : a = 0 := by omega
      rw [this]
      rfl
    have := (Nat.log2_lt h0).mpr h
    omega
theorem mulI {n m : Nat} {a b : Int} (ha : a.natAbs < 2 ^ n) (hb : b.natAbs < 2 ^ m) (h : n + m ≤ 10000000) : IntMulOk a b := by
  have b1 := bitsI ha
  have b2 := bitsI hb
  have k : Builtin.Int.intTooBig ((Builtin.Int.intBits a : Int) + (Builtin.Int.intBits b : Int)) = false := by
    unfold Builtin.Int.intTooBig
    rw [PySem.bitsLine_eq]
    exact decide_eq_false (by omega)
  unfold IntMulOk
  rw [k]
  simp
def Terms (H : Hp) : List V → List (Int × Int) → Prop := Paired fun v t => ∃ a, v = .ref a ∧ H a = some (.tup [.int t.1, .int t.2])
theorem Terms.keep {H H' : Hp} (k : ∀ b xs, H b = some (.tup xs) → H' b = some (.tup xs)) {vs : List V} {l : List (Int × Int)} (h : Terms H vs l) : Terms H' vs l := Paired.mapP h fun _ _ ⟨a, e, z⟩ => ⟨a, e, k _ _ z⟩
theorem Terms.length {H : Hp} {vs : List V} {l : List (Int × Int)} (h : Terms H vs l) : vs.length = l.length := Paired.length h
theorem Terms.snoc {H : Hp} : ∀ {vs : List V} {l : List (Int × Int)} {x : Int × Int} {t : Addr}, Terms H vs l → H t = some (.tup [.int x.1, .int x.2]) → Terms H (vs ++ [.ref t]) (l ++ [x])
  | _, _, _, _, .nil, h => .cons ⟨_, rfl, h⟩ .nil
  | _, _, _, _, .cons y r, h => .cons y (Terms.snoc r h)
theorem Terms.getD {H : Hp} : ∀ {vs : List V} {l : List (Int × Int)} {i : Nat}, Terms H vs l → i < l.length → ∃ t, vs.getD i .non = .ref t ∧ H t = some (.tup [.int (l.getD i (0, 0)).1, .int (l.getD i (0, 0)).2])
  | _, _, _, .nil, e => by simp at e
  | _, _, 0, .cons ⟨t, e1, h⟩ _, _ => ⟨t, by simp [e1], h⟩
  | _, _, i + 1, .cons _ r, e => by
    obtain ⟨t, h1, h2⟩ := Terms.getD (i := i) r (by simpa using e)
    exact ⟨t, by simpa using h1, by simpa using h2⟩
def formV (k : Int) (ts : List (Int × Int)) (xs : List Int) : Int := k + (ts.map fun t => t.2 * xs.getD t.1.toNat 0).sum
theorem paired_ints {f : Nat → Int} : ∀ {is : List Nat} {ys : List V}, Paired (fun i v => v = V.int (f i)) is ys → ys = (is.map f).map V.int
  | _, _, .nil => rfl
  | _, _, .cons a r => by rw [a, paired_ints r]; rfl
theorem map_range' {α β : Type} (f : α → β) (l : List α) (d : α) : ((List.range l.length).map fun i => f (l.getD i d)) = l.map f := by
  refine List.ext_getElem (by simp) fun i h1 h2 => ?_
  have hi : i < l.length := by simpa using h2
  simp [List.getD, hi]
theorem abc_at : ∀ i < 26, ("abcdefghijklmnopqrstuvwxyz" : Str).cps.toList[i]? = some (97 + i) := by decide +kernel
theorem abc_len : ("abcdefghijklmnopqrstuvwxyz" : Str).length ≤ sizeLine := by decide +kernel
theorem abc_ix {i : Int} (h0 : 0 ≤ i) (h1 : i < 26) : atI ("abcdefghijklmnopqrstuvwxyz" : Str).cps.toList i = some (97 + i.toNat) := by
  have := atI_nat (abc_at i.toNat (by omega))
  rwa [Int.toNat_of_nonneg h0] at this
theorem isName_iff (x : Str) : isName x = true ↔ 1 ≤ x.length ∧ x.length ≤ 8 ∧ ∀ c ∈ x.cps.toList, 97 ≤ c ∧ c ≤ 122 := by
  unfold isName
  simp only [Bool.and_eq_true, decide_eq_true_eq, List.all_eq_true]
  exact ⟨fun h => ⟨h.1.1, h.1.2, h.2⟩, fun h => ⟨⟨h.1, h.2.1⟩, h.2.2⟩⟩
theorem cps_append (x y : Str) : (x ++ y).cps.toList = x.cps.toList ++ y.cps.toList := by
  show (x.cps ++ y.cps).toList = _
  simp
theorem len_cps (x : Str) : x.length = x.cps.toList.length := by simp [Str.length]
def cellX (ns : List Int) (k : Int) : Int := if (ns.length : Int) = 0 then 0 else if k / ns.length = 0 then ns.getD (k % ns.length).toNat 0 else ns.getD (k % ns.length).toNat 0 * (2 * (k / ns.length) + 1) % 1000003 + 31 * (k / ns.length)
theorem log28 {n : Nat} (h : n ≤ 100000000) : (n : Int).natAbs.log2 < 9000 := by
  rw [Int.natAbs_natCast]
  by_cases h0 : n = 0
  · rw [h0]; decide +kernel
  · have := (Nat.log2_lt h0).mpr (show n < 2 ^ 30 by omega)
    omega
theorem logI {x : Int} (h0 : 0 ≤ x) (h1 : x ≤ 100000000) : x.natAbs.log2 < 9000 := by
  obtain ⟨n, rfl⟩ := Int.eq_ofNat_of_zero_le h0
  exact log28 (by omega)
structure Bel (n : Nat) (b : B5) : Prop where
  rg : 0 ≤ b.giver ∧ b.giver < (n : Int) ∧ 0 ≤ b.taker ∧ b.taker < (n : Int)
  sz : 1 ≤ b.give ∧ 1 ≤ b.take
  st : 0 ≤ b.start ∧ b.start ≤ 1000
  few : b.give ≤ 40 ∧ b.take ≤ 40
def Rates4 (rs : List Int) : Prop := ∀ r ∈ rs, 1 ≤ r ∧ r ≤ 4
theorem new_step28 {H H1 H2 : Hp} {fp fp2 : List Addr} (s : Same H H1) (n : ∀ x ∈ fp, H x = none) (fr : Frame fp H1 H2) (gr : Grows fp fp2 H1) : Same H H2 ∧ ∀ x ∈ fp2, H x = none := by
  refine ⟨fun b o e => fr.keep _ _ (s _ _ e) (fun z => by have := n b z; rw [e] at this; cases this), fun x hx => ?_⟩
  rcases gr x hx with z | z
  · exact n x z
  · exact same_none s z
def Sm31 (xs : List Int) : Prop := ∀ x ∈ xs, x.natAbs ≤ 10 ^ 31
theorem rows_snoc {H : Hp} {ys : List V} {xss : List (List Int)} {t : Addr} {xs : List Int} (h : RowsAt H ys xss) (ht : H t = some (.lst (xs.map V.int))) : RowsAt H (ys ++ [.ref t]) (xss ++ [xs]) := RowsAt.snoc h ht
def chN (c at_ : Int) (k p : Nat) : Nat := 97 + ((if (p : Int) = at_ then c / 64 + 3 * (k : Int) else c / (64 + (p : Int))) % 26).toNat
theorem chN_rg (c at_ : Int) (k p : Nat) : 97 ≤ chN c at_ k p ∧ chN c at_ k p ≤ 122 := by unfold chN; omega
theorem chN_ne {c at_ : Int} {k k' p : Nat} (hp : (p : Int) = at_) (h : k < 8) (h' : k' < 8) (n : k ≠ k') : chN c at_ k p ≠ chN c at_ k' p := by
  unfold chN
  rw [if_pos hp, if_pos hp]
  omega
structure NamesBy (c at_ : Int) (lg : Nat) (nms : List Str) : Prop where
  cps : ∀ k x, nms[k]? = some x → x.cps.toList = (List.range lg).map (chN c at_ k)
theorem NamesBy.name {c at_ : Int} {lg : Nat} {nms : List Str} (h : NamesBy c at_ lg nms) (h1 : 1 ≤ lg) (h2 : lg ≤ 8) : ∀ n ∈ nms, isName n = true := fun n hn => by
  obtain ⟨k, hk⟩ := List.getElem?_of_mem hn
  have e := h.cps k n hk
  rw [isName_iff, len_cps, e]
  refine ⟨by simpa using h1, by simpa using h2, fun x hx => ?_⟩
  obtain ⟨i, _, rfl⟩ := List.mem_map.mp hx
  exact chN_rg c at_ k i
theorem NamesBy.nodup {c at_ : Int} {lg : Nat} {nms : List Str} (h : NamesBy c at_ lg nms) (hl : nms.length ≤ 8) (h0 : 0 ≤ at_) (h1 : at_ < (lg : Int)) : nms.Nodup := by
  rw [List.nodup_iff_pairwise_ne, List.pairwise_iff_getElem]
  intro i j hi hj hij e
  have e1 := h.cps i _ (List.getElem?_eq_getElem hi)
  have e2 := h.cps j _ (List.getElem?_eq_getElem hj)
  rw [e, e2] at e1
  have hp : at_.toNat < lg := by omega
  have e3 := congrArg (fun l => l[at_.toNat]?) e1
  simp [hp] at e3
  exact chN_ne (c := c) (at_ := at_) (k := j) (k' := i) (p := at_.toNat) (by omega) (by omega) (by omega) (by omega) e3
theorem at_ints {ns : List Int} {k : Int} (h0 : 0 ≤ k) (h1 : k < ns.length) : atI (ns.map V.int) k = some (.int (ns.getD k.toNat 0)) := at_ints28 h0 h1
theorem cut_from {xs : List V} {k : Nat} (h : k ≤ xs.length) : cutV xs (some (k : Int)) none = xs.drop k := by
  have e1 : HT.sIx xs.length 0 (some (k : Int)) = k := by
    simp only [HT.sIx]
    rw [if_neg (by omega)]
    simp
    omega
  have e2 : HT.sIx xs.length xs.length none = xs.length := by simp [HT.sIx]
  unfold cutV
  rw [e1, e2, List.take_of_length_le (by rw [List.length_drop]; exact Nat.le_refl _)]
def LaneAt {K : PySem.W.Frag} {mg : Str → Option Value} (T : Tp K mg) (H : Hp) (a : Addr) (xs : List Int) (fp : List Addr) : Prop :=
  ∃ (dx l : Addr) (laid : List Int) (g : Nat), fp = [a, dx, l] ∧ H a = some (.ins T.C_Lane dx [("laid", .ref l), ("gone", .int g)]) ∧ H dx = some (.own a) ∧ H l = some (.lst (laid.map V.int)) ∧ g ≤ laid.length ∧ laid.drop g = xs ∧ laid.length ≤ 2 * xs.length
section
variable {K : PySem.W.Frag} {mg : Str → Option Value} {T : Tp K mg} {H H' : Hp} {p : Addr} {xs : List Int} {fp : List Addr}
theorem LaneAt.dom (h : LaneAt T H p xs fp) : ∀ x ∈ fp, H x ≠ none := by
  obtain ⟨dx, l, laid, g, rfl, h1, h2, h3, _⟩ := h
  intro x hx
  simp only [List.mem_cons, List.not_mem_nil, or_false] at hx
  rcases hx with rfl | rfl | rfl
  · rw [h1]; simp
  · rw [h2]; simp
  · rw [h3]; simp
theorem LaneAt.off {A : List Addr} (h : LaneAt T H p xs fp) (f : Frame A H H') (d : ∀ x ∈ fp, x ∉ A) : LaneAt T H' p xs fp := by
  obtain ⟨dx, l, laid, g, rfl, h1, h2, h3, h4, h5, h6⟩ := h
  exact ⟨dx, l, laid, g, rfl, f.keep _ _ h1 (d p (by simp)), f.keep _ _ h2 (d dx (by simp)), f.keep _ _ h3 (d l (by simp)), h4, h5, h6⟩
theorem LaneAt.same (h : LaneAt T H p xs fp) (e : Same H H') : LaneAt T H' p xs fp := h.off (A := []) e.frame (by simp)
theorem Lane_meth {m : Str} {G : Prop} (h : LaneAt T H p xs fp) (m1 : (m == "laid") = false) (m2 : (m == "gone") = false) (q : G) : ∃ a dx fs, V.ref p = .ref a ∧ H a = some (.ins T.C_Lane dx fs) ∧ fs.lookup m = none ∧ G := by
  obtain ⟨dx, l, laid, g, rfl, h1, _⟩ := h
  exact ⟨p, dx, _, rfl, h1, Rd.lk1 m1 (Rd.lk1 m2 Rd.lkN), q⟩
end
theorem pairs_getD {H : Hp} : ∀ {l : List (Int × Int)} {vs : List V} {i : Nat}, Pairs H l vs → i < l.length → ∃ t, vs.getD i .non = .ref t ∧ H t = some (.tup [.int (l.getD i (0, 0)).1, .int (l.getD i (0, 0)).2])
  | _, _, _, .nil, e => by simp at e
  | _, _, 0, .cons ⟨t, e1, h⟩ _, _ => ⟨t, by simp [e1], h⟩
  | _, _, i + 1, .cons _ r, e => by
    obtain ⟨t, h1, h2⟩ := pairs_getD (i := i) r (by simpa using e)
    exact ⟨t, by simpa using h1, by simpa using h2⟩
abbrev Form := Int × List (Int × Int)
def FormAt (H : Hp) (v : V) (f : Form) : Prop := ∃ a tm tvs, v = .ref a ∧ H a = some (.tup [.int f.1, .ref tm]) ∧ H tm = some (.tup tvs) ∧ Terms H tvs f.2
theorem FormAt.keep {H H' : Hp} (k : ∀ b xs, H b = some (.tup xs) → H' b = some (.tup xs)) {v : V} {f : Form} (h : FormAt H v f) : FormAt H' v f := by
  obtain ⟨a, tm, tvs, e, h1, h2, h3⟩ := h
  exact ⟨a, tm, tvs, e, k _ _ h1, k _ _ h2, h3.keep k⟩
def WForms (H : Hp) (v : V) (fs : List Form) : Prop := ∃ a vs, v = .ref a ∧ H a = some (.tup vs) ∧ Paired (FormAt H) vs fs
theorem WForms.keep {H H' : Hp} (k : ∀ b xs, H b = some (.tup xs) → H' b = some (.tup xs)) {v : V} {f : List Form} (h : WForms H v f) : WForms H' v f := by
  obtain ⟨a, vs, e, h1, h2⟩ := h
  exact ⟨a, vs, e, k _ _ h1, Paired.mapP h2 fun _ _ z => z.keep k⟩
def FormsAt (H : Hp) (vs : List V) (fss : List (List Form)) : Prop := Paired (WForms H) vs fss
theorem FormsAt.keep {H H' : Hp} (k : ∀ b xs, H b = some (.tup xs) → H' b = some (.tup xs)) {vs : List V} {f : List (List Form)} (h : FormsAt H vs f) : FormsAt H' vs f := Paired.mapP h fun _ _ z => z.keep k
theorem paired_getD {α β : Type} {P : α → β → Prop} {d : α} {e : β} : ∀ {xs : List α} {ys : List β} {i : Nat}, Paired P xs ys → i < ys.length → P (xs.getD i d) (ys.getD i e)
  | _, _, _, .nil, h => by simp at h
  | _, _, 0, .cons h _, _ => by simpa using h
  | _, _, i + 1, .cons _ r, h => by simpa using paired_getD (i := i) r (by simpa using h)
def slotN (rows : List B5) (w : Int) : Int := ((takeRow rows w).map (·.2)).sum
def giveN (rows : List B5) (w : Int) : Int := ((giveRow rows w).map (·.2)).sum
structure FormOk (n : Int) (f : Form) : Prop where
  few : f.2.length ≤ 1000
  ter : ∀ t ∈ f.2, 0 ≤ t.1 ∧ t.1 < n ∧ t.2.natAbs ≤ 4
structure FormsOk (rows : List B5) (w : Int) (fs : List Form) : Prop where
  len : (fs.length : Int) = giveN rows w
  few : fs.length ≤ 100000
  ok : ∀ f ∈ fs, FormOk (slotN rows w) f
theorem sorted_filter : ∀ {l : List Nat} {k : Nat}, l.Pairwise (· < ·) → (hk : k < l.length) → l.filter (fun x => decide (x < l[k])) = l.take k
  | [], _, _, hk => by simp at hk
  | a :: l, 0, h, _ => by
    obtain ⟨h1, h2⟩ := List.pairwise_cons.mp h
    show (a :: l).filter (fun x => decide (x < a)) = []
    refine List.filter_eq_nil_iff.mpr fun x hx => ?_
    rcases List.mem_cons.mp hx with rfl | hx
    · simp
    · have := h1 x hx
      simp; omega
  | a :: l, k + 1, h, hk => by
    obtain ⟨h1, h2⟩ := List.pairwise_cons.mp h
    have hk' : k < l.length := by simpa using hk
    have e := sorted_filter h2 hk'
    have ha := h1 _ (List.getElem_mem hk')
    show (a :: l).filter (fun x => decide (x < l[k])) = a :: l.take k
    rw [List.filter_cons, if_pos (decide_eq_true ha), e]
def offB (rows : List B5) (w : Int) (i : Nat) : Int := (((leaveL rows w).filter fun j => decide (j < i)).map fun j => (rows.getD j dB).give).sum
theorem offB_at {rows : List B5} {w : Int} {k : Nat} (hk : k < (leaveL rows w).length) : offB rows w (leaveL rows w)[k] = (((leaveL rows w).take k).map fun j => (rows.getD j dB).give).sum := by
  have hs : (leaveL rows w).Pairwise (· < ·) := List.pairwise_lt_range.filter _
  unfold offB
  rw [sorted_filter hs hk]
def sysOf (rows : List B5) (fss : List (List Form)) : MM.Sys := ⟨rows.length, fun i => (rows.getD i dB).taker, fun i => (rows.getD i dB).giver, fun i => (rows.getD i dB).take.toNat, fun i xs => (((fss.getD (rows.getD i dB).giver.toNat []).map fun f => formV f.1 f.2 xs).drop (offB rows (rows.getD i dB).giver i).toNat).take (rows.getD i dB).give.toNat⟩
def solo (H : Hp) (a : Addr) : Hp := fun b => if b = a then H a else none
theorem solo_at {H : Hp} {a : Addr} : solo H a a = H a := by unfold solo; rw [if_pos rfl]
theorem solo_same {H H' : Hp} {a : Addr} (h : H' a = H a) : Same (solo H a) H' := fun b o e => by
  unfold solo at e
  split at e
  · next z => rw [z, h, e]
  · cases e
theorem Frame.grow {A B : List Addr} {H H1 H2 : Hp} (f : Frame A H H1) (g : Grows A B H) (f2 : Frame B H1 H2) : Frame A H H2 :=
  ⟨fun c o h n => f2.keep c o (f.keep c o h n) fun z => (g c z).elim n fun e => (by rw [h] at e; cases e), fun c xs h => f2.tups c xs (f.tups c xs h)⟩
theorem Grows.grow {A B C : List Addr} {H H1 : Hp} (g : Grows A B H) (f : Frame A H H1) (g2 : Grows B C H1) : Grows A C H := fun x hx => by
  rcases g2 x hx with h | h
  · exact g x h
  · cases e : H x with
    | none => exact .inr rfl
    | some o =>
      by_cases z : x ∈ A
      · exact .inl z
      · rw [f.keep x o e z] at h; cases h
def LanesAt {K : PySem.W.Frag} {mg : Str → Option Value} (T : Tp K mg) (H : Hp) (as : List Addr) (st : Nat → List Int) (fps : Nat → List Addr) : Prop :=
  (∀ i < as.length, LaneAt T H (as.getD i 0) (st i) (fps i)) ∧ ∀ i j, i < as.length → j < as.length → i ≠ j → ∀ x ∈ fps i, x ∉ fps j
def flatF (n : Nat) (fps : Nat → List Addr) : List Addr := (List.range n).flatMap fps
theorem mem_flatF {n : Nat} {fps : Nat → List Addr} {x : Addr} : x ∈ flatF n fps ↔ ∃ i < n, x ∈ fps i := by
  unfold flatF
  rw [List.mem_flatMap]
  exact ⟨fun ⟨i, h1, h2⟩ => ⟨i, List.mem_range.mp h1, h2⟩, fun ⟨i, h1, h2⟩ => ⟨i, List.mem_range.mpr h1, h2⟩⟩
section
variable {K : PySem.W.Frag} {mg : Str → Option Value} {T : Tp K mg} {H H' : Hp} {as : List Addr} {st : Nat → List Int} {fps : Nat → List Addr}
theorem LanesAt.put {k : Nat} {xs : List Int} {fp' : List Addr} (h : LanesAt T H as st fps) (hk : k < as.length) (hl : LaneAt T H' (as.getD k 0) xs fp') (f : Frame (fps k) H H') (g : Grows (fps k) fp' H) :
    LanesAt T H' as (fun i => if i = k then xs else st i) (fun i => if i = k then fp' else fps i) := by
  have off : ∀ i < as.length, i ≠ k → ∀ x ∈ fps i, x ∉ fp' := fun i hi n x hx z => by
    rcases g x z with q | q
    · exact h.2 i k hi hk n x hx q
    · exact (h.1 i hi).dom x hx q
  refine ⟨fun i hi => ?_, fun i j hi hj n x hx => ?_⟩
  · by_cases e : i = k
    · subst e; simpa using hl
    · simp only [if_neg e]
      exact (h.1 i hi).off f (h.2 i k hi hk e)
  · by_cases e1 : i = k
    · by_cases e2 : j = k
      · exact absurd (e1.trans e2.symm) n
      · simp only [if_pos e1, if_neg e2] at hx ⊢
        exact fun z => off j hj e2 x z hx
    · by_cases e2 : j = k
      · simp only [if_neg e1, if_pos e2] at hx ⊢
        exact off i hi e1 x hx
      · simp only [if_neg e1, if_neg e2] at hx ⊢
        exact h.2 i j hi hj n x hx
theorem LanesAt.off {A : List Addr} (h : LanesAt T H as st fps) (f : Frame A H H') (d : ∀ i < as.length, ∀ x ∈ fps i, x ∉ A) : LanesAt T H' as st fps := ⟨fun i hi => (h.1 i hi).off f (d i hi), h.2⟩
theorem LanesAt.congr {st' : Nat → List Int} (h : LanesAt T H as st fps) (e : ∀ i < as.length, st i = st' i) : LanesAt T H as st' fps := ⟨fun i hi => e i hi ▸ h.1 i hi, h.2⟩
theorem LanesAt.ix (i : Nat) (hi : i < as.length) : atI (as.map V.ref) (i : Int) = some (.ref (as.getD i 0)) := atI_nat (by rw [List.getElem?_map]; simp [List.getD, hi])
end
def MillAt {K : PySem.W.Frag} {mg : Str → Option Value} (T : Tp K mg) (H : Hp) (p : Addr) (fl : FM) (fss : List (List Form)) (st : Nat → List Int) (fp : List Addr) : Prop :=
  ∃ (dx f c la : Addr) (ffp : List Addr) (fvs : List V) (as : List Addr) (fps : Nat → List Addr), fp = (p :: dx :: c :: la :: ffp) ++ flatF as.length fps ∧
    H p = some (.ins T.C_Mill dx [("floor", .ref f), ("forms", .ref c), ("lanes", .ref la)]) ∧ H dx = some (.own p) ∧ FloorAt T H f fl ffp ∧ H c = some (.lst fvs) ∧ FormsAt H fvs fss ∧ H la = some (.lst (as.map V.ref)) ∧ as.length = fl.rows.length ∧
    LanesAt T H as st fps ∧ (∀ i < as.length, ∀ x ∈ fps i, x ∉ p :: dx :: c :: la :: ffp) ∧ ∀ x ∈ ffp, x ∉ [p, dx, c, la]
section
variable {K : PySem.W.Frag} {mg : Str → Option Value} {T : Tp K mg} {H H' : Hp} {p : Addr} {fl : FM} {fss : List (List Form)} {st : Nat → List Int} {fp : List Addr}
theorem MillAt.dom (h : MillAt T H p fl fss st fp) : ∀ x ∈ fp, H x ≠ none := by
  obtain ⟨dx, f, c, la, ffp, fvs, as, fps, rfl, h1, h2, h3, h4, h5, h6, h7, h8, h9, h10⟩ := h
  intro x hx
  rcases List.mem_append.mp hx with hx | hx
  · simp only [List.mem_cons] at hx
    rcases hx with rfl | rfl | rfl | rfl | hx
    · rw [h1]; simp
    · rw [h2]; simp
    · rw [h4]; simp
    · rw [h6]; simp
    · exact h3.dom x hx
  · obtain ⟨i, hi, hx⟩ := mem_flatF.mp hx
    exact (h8.1 i hi).dom x hx
theorem MillAt.off {A : List Addr} (h : MillAt T H p fl fss st fp) (fr : Frame A H H') (d : ∀ x ∈ fp, x ∉ A) : MillAt T H' p fl fss st fp := by
  obtain ⟨dx, f, c, la, ffp, fvs, as, fps, rfl, h1, h2, h3, h4, h5, h6, h7, h8, h9, h10⟩ := h
  exact ⟨dx, f, c, la, ffp, fvs, as, fps, rfl, fr.keep _ _ h1 (d p (by simp)), fr.keep _ _ h2 (d dx (by simp)), h3.off fr (fun x hx => d x (by simp [hx])), fr.keep _ _ h4 (d c (by simp)), h5.keep fr.tups, fr.keep _ _ h6 (d la (by simp)), h7,
    h8.off fr (fun i hi x hx => d x (List.mem_append_right _ (mem_flatF.mpr ⟨i, hi, hx⟩))), h9, h10⟩
theorem MillAt.same (h : MillAt T H p fl fss st fp) (e : Same H H') : MillAt T H' p fl fss st fp := h.off (A := []) e.frame (by simp)
theorem Mill_meth {m : Str} {G : Prop} (h : MillAt T H p fl fss st fp) (m1 : (m == "floor") = false) (m2 : (m == "forms") = false) (m3 : (m == "lanes") = false) (q : G) : ∃ a dx fs, V.ref p = .ref a ∧ H a = some (.ins T.C_Mill dx fs) ∧ fs.lookup m = none ∧ G := by
  obtain ⟨dx, f, c, la, ffp, fvs, as, fps, rfl, h1, _⟩ := h
  exact ⟨p, dx, _, rfl, h1, Rd.lk1 m1 (Rd.lk1 m2 (Rd.lk1 m3 Rd.lkN)), q⟩
end
structure BeltsOk (rows : List B5) : Prop where
  few : rows.length ≤ 100
  rg : ∀ r ∈ rows, 0 ≤ r.take ∧ r.take ≤ 1000 ∧ 0 ≤ r.give ∧ r.give ≤ 1000
theorem BeltsOk.at {rows : List B5} (h : BeltsOk rows) {i : Nat} (hi : i < rows.length) : 0 ≤ (rows.getD i dB).take ∧ (rows.getD i dB).take ≤ 1000 ∧ 0 ≤ (rows.getD i dB).give ∧ (rows.getD i dB).give ≤ 1000 := h.rg _ (by rw [getD_of hi]; exact List.getElem_mem _)
theorem rowAt {js : List Nat} {f : Nat → Int} {H : Hp} {vs : List V} {i : Nat} (h : Pairs H (js.map fun i : Nat => ((i : Int), f i)) vs) (hi : i < js.length) : ∃ t, vs.getD i .non = .ref t ∧ H t = some (.tup [.int (js[i] : Nat), .int (f js[i])]) := by
  obtain ⟨v, hv, t, rfl, ht⟩ := Paired.get h (i := i) (x := ((js[i] : Int), f js[i])) (by rw [List.getElem?_map, List.getElem?_eq_getElem hi]; rfl)
  exact ⟨t, by simp [List.getD, hv], ht⟩
theorem frame_new {A : List Addr} {H H' : Hp} {r : Addr} {o : HO} (f : Frame A H H') (hr : H r = none) : Frame A H (upd H' r o) :=
  ⟨fun b z e n => by rw [upd_ne (ne_of_none e hr)]; exact f.keep b z e n, fun b xs e => by rw [upd_ne (ne_of_none e hr)]; exact f.tups b xs e⟩
theorem take_mem {is : List Nat} (nd : is.Nodup) {k : Nat} (hk : k < is.length) : is[k] ∉ is.take k := fun z => by
  obtain ⟨j, hj, e⟩ := List.getElem_of_mem z
  rw [List.length_take] at hj
  rw [List.getElem_take] at e
  have := (List.getElem_inj (h₀ := by omega) (h₁ := hk) nd).mp e
  omega
theorem take_succ_mem {is : List Nat} {k : Nat} (hk : k < is.length) {j : Nat} : j ∈ is.take (k + 1) ↔ j ∈ is.take k ∨ j = is[k] := by
  rw [List.take_succ_eq_append_getElem hk, List.mem_append, List.mem_singleton]
theorem slots_len {S : MM.Sys} {st : Nat → List Int} {w : Int} (h : MM.ok S st w) : (MM.slots S st w).length = (((List.range S.n).filter fun i => decide (S.taker i = w)).map S.take).sum := by
  unfold MM.slots
  rw [List.length_flatMap]
  congr 1
  refine List.map_congr_left fun i hi => ?_
  obtain ⟨h1, h2⟩ := List.mem_filter.mp hi
  rw [List.length_take]
  exact Nat.min_eq_left (h i (List.mem_range.mp h1) (of_decide_eq_true h2))
theorem sum_cast : ∀ {is : List Nat} {f : Nat → Int}, (∀ i ∈ is, 0 ≤ f i) → (is.map f).sum = (((is.map fun i => (f i).toNat).sum : Nat) : Int)
  | [], _, _ => rfl
  | i :: is, f, h => by
    have := sum_cast (is := is) (f := f) fun j hj => h j (List.mem_cons_of_mem _ hj)
    have := h i List.mem_cons_self
    simp only [List.map_cons, List.sum_cons]
    omega
theorem slots_n {rows : List B5} {fss : List (List Form)} {st : Nat → List Int} {w : Int} (hb : BeltsOk rows) (h : MM.ok (sysOf rows fss) st w) : ((MM.slots (sysOf rows fss) st w).length : Int) = slotN rows w := by
  rw [slots_len h]
  unfold slotN takeRow
  rw [List.map_map]
  exact (sum_cast (is := enterL rows w) (f := fun i => (rows.getD i dB).take) fun i hi => (hb.at (enterL_lt hi)).1).symm
structure AllForms (many : Int) (rows : List B5) (fss : List (List Form)) : Prop where
  len : fss.length = many.toNat
  ok : ∀ w, 0 ≤ w → w < many → FormsOk rows w (fss.getD w.toNat [])
def Lens (rows : List B5) (hs : List Int) (st : Nat → List Int) : Prop := hs.length = rows.length ∧ ∀ i < rows.length, ((st i).length : Int) = hs.getD i 0
theorem out_len {many : Int} {rows : List B5} {fss : List (List Form)} {w : Int} {xs : List Int} {i : Nat} (hb : BeltsOk rows) (ha : AllForms many rows fss) (w0 : 0 ≤ w) (w1 : w < many) (hi : i < rows.length) (hg : (rows.getD i dB).giver = w) : ((sysOf rows fss).out i xs).length = (rows.getD i dB).give.toNat := by
  show ((((fss.getD (rows.getD i dB).giver.toNat []).map fun f => formV f.1 f.2 xs).drop (offB rows (rows.getD i dB).giver i).toNat).take (rows.getD i dB).give.toNat).length = _
  rw [hg, List.length_take, List.length_drop, List.length_map]
  have hl := (ha.ok w w0 w1).len
  have hgs : giveN rows w = ((leaveL rows w).map fun i => (rows.getD i dB).give).sum := by
    unfold giveN giveRow
    rw [List.map_map]; rfl
  have hm : i ∈ leaveL rows w := List.mem_filter.mpr ⟨List.mem_range.mpr hi, decide_eq_true hg⟩
  obtain ⟨k, hk, rfl⟩ := List.getElem_of_mem hm
  rw [offB_at hk]
  have lvl : ∀ j ∈ leaveL rows w, 0 ≤ (rows.getD j dB).give := fun j hj => (hb.at (leaveL_lt hj)).2.2.1
  generalize leaveL rows w = lv at *
  have e1 : (lv.map fun i => (rows.getD i dB).give).sum = ((lv.take k).map fun i => (rows.getD i dB).give).sum + (rows.getD lv[k] dB).give + ((lv.drop (k + 1)).map fun i => (rows.getD i dB).give).sum := by
    conv => lhs; rw [← List.take_append_drop (k + 1) lv, List.take_succ_eq_append_getElem hk]
    rw [List.map_append, List.map_append, List.sum_append, List.sum_append]
    simp
  have e2 : 0 ≤ ((lv.drop (k + 1)).map fun i => (rows.getD i dB).give).sum := by
    rw [sum_cast fun j hj => lvl j (List.mem_of_mem_drop hj)]; omega
  have e3 : 0 ≤ ((lv.take k).map fun i => (rows.getD i dB).give).sum := by
    rw [sum_cast fun j hj => lvl j (List.mem_of_mem_take hj)]; omega
  have e4 := lvl _ (List.getElem_mem hk)
  omega
theorem turn_step {many : Int} {rows : List B5} {fss : List (List Form)} {hs hs' : List Int} {st : Nat → List Int} {w : Int} (hb : BeltsOk rows) (ha : AllForms many rows fss) (hL : Lens rows hs st) (ht : turnR many rows hs w = .ok hs') : (0 ≤ w ∧ w < many) ∧ MM.ok (sysOf rows fss) st w ∧ Lens rows hs' (MM.step (sysOf rows fss) st w) := by
  unfold turnR at ht
  split at ht
  · next hw =>
    split at ht
    · next hr =>
      cases ht
      have hok : MM.ok (sysOf rows fss) st w := fun i hi hk => by
        have hi' : i < rows.length := hi
        have hlt : i < hs.length := by rw [hL.1]; exact hi'
        show (rows.getD i dB).take.toNat ≤ (st i).length
        have hk' : (rows.getD i dB).taker = w := hk
        have e := hL.2 i hi'
        by_cases c : hs.getD i 0 < (rows.getD i dB).take
        · rw [readyL_false (w := w) i (r := rows[i]) (h := hs[i]) (List.getElem?_eq_getElem hi') (List.getElem?_eq_getElem hlt) (by rw [← getD_of (d := dB) hi']; exact hk') (by rw [← getD_of (d := dB) hi', ← getD_of (d := 0) hlt]; exact c)] at hr
          cases hr
        · omega
      refine ⟨hw, hok, by rw [shiftL_len hL.1, hL.1], fun i hi => ?_⟩
      have hlt : i < hs.length := by rw [hL.1]; exact hi
      have h3 : i < (shiftL rows hs w).length := by rw [shiftL_len hL.1]; exact hlt
      rw [getD_of h3, shiftL_at hi hlt h3, ← getD_of (d := dB) hi, ← getD_of (d := 0) hlt, ← hL.2 i hi]
      show ((if i < rows.length then (if (rows.getD i dB).taker = w then (st i).drop (rows.getD i dB).take.toNat else st i) ++ (if (rows.getD i dB).giver = w then (sysOf rows fss).out i (MM.slots (sysOf rows fss) st w) else []) else st i).length : Int) = _
      rw [if_pos hi, List.length_append]
      have hb4 := hb.at hi
      have l1 : (((if (rows.getD i dB).taker = w then (st i).drop (rows.getD i dB).take.toNat else st i).length : Nat) : Int) = ((st i).length : Int) - (if (rows.getD i dB).taker = w then (rows.getD i dB).take else 0) := by
        split
        · next e =>
          have := hok i hi e
          have this' : (rows.getD i dB).take.toNat ≤ (st i).length := this
          rw [List.length_drop]; omega
        · omega
      have l2 : (((if (rows.getD i dB).giver = w then (sysOf rows fss).out i (MM.slots (sysOf rows fss) st w) else []).length : Nat) : Int) = (if (rows.getD i dB).giver = w then (rows.getD i dB).give else 0) := by
        split
        · next e => rw [out_len hb ha hw.1 hw.2 hi e]; omega
        · rfl
      rw [← l1] at *
      push_cast
      rw [l1, l2]
    · cases ht
  · cases ht
theorem go_run {many : Int} {rows : List B5} {fss : List (List Form)} (hb : BeltsOk rows) (ha : AllForms many rows fss) : ∀ {ws : List Int} {hs hs' : List Int} {st : Nat → List Int}, Lens rows hs st → goR many rows hs ws = .ok hs' → (∀ w ∈ ws, 0 ≤ w ∧ w < many) ∧ MM.Ok (sysOf rows fss) st ws ∧ Lens rows hs' (MM.run (sysOf rows fss) st ws)
  | [], hs, hs', st, hL, e => by
    have : hs = hs' := by simpa [goR] using e
    subst this
    exact ⟨by simp, trivial, hL⟩
  | w :: ws, hs, hs', st, hL, e => by
    have e' : (match turnR many rows hs w with | .ok hs' => goR many rows hs' ws | .error e => .error e) = .ok hs' := e
    cases q : turnR many rows hs w with
    | ok h1 =>
      rw [q] at e'
      obtain ⟨a1, a2, a3⟩ := turn_step hb ha hL q
      obtain ⟨b1, b2, b3⟩ := go_run hb ha (ws := ws) a3 e'
      refine ⟨fun x hx => ?_, ⟨a2, b2⟩, b3⟩
      rcases List.mem_cons.mp hx with rfl | hx
      · exact a1
      · exact b1 x hx
    | error b => rw [q] at e'; cases e'
theorem step_grow {rows : List B5} {fss : List (List Form)} (hb : BeltsOk rows) {st : Nat → List Int} {w : Int} {i : Nat} (hi : i < rows.length) : (MM.step (sysOf rows fss) st w i).length ≤ (st i).length + 1000 := by
  show (if i < rows.length then (if (rows.getD i dB).taker = w then (st i).drop (rows.getD i dB).take.toNat else st i) ++ (if (rows.getD i dB).giver = w then (sysOf rows fss).out i (MM.slots (sysOf rows fss) st w) else []) else st i).length ≤ _
  have hb4 := hb.at hi
  have l2 : (if (rows.getD i dB).giver = w then (sysOf rows fss).out i (MM.slots (sysOf rows fss) st w) else []).length ≤ 1000 := by
    split
    · show ((((fss.getD (rows.getD i dB).giver.toNat []).map fun f => formV f.1 f.2 (MM.slots (sysOf rows fss) st w)).drop (offB rows (rows.getD i dB).giver i).toNat).take (rows.getD i dB).give.toNat).length ≤ _
      rw [List.length_take]; omega
    · simp
  have l1 : (if (rows.getD i dB).taker = w then (st i).drop (rows.getD i dB).take.toNat else st i).length ≤ (st i).length := by
    split
    · rw [List.length_drop]; omega
    · omega
  rw [if_pos hi, List.length_append]
  omega
theorem run_grow {rows : List B5} {fss : List (List Form)} (hb : BeltsOk rows) {i : Nat} (hi : i < rows.length) : ∀ {ws : List Int} {st : Nat → List Int}, (MM.run (sysOf rows fss) st ws i).length ≤ (st i).length + 1000 * ws.length
  | [], st => by show (st i).length ≤ _; omega
  | w :: ws, st => by
    have h1 := run_grow hb hi (ws := ws) (st := MM.step (sysOf rows fss) st w) (fss := fss)
    have h2 := step_grow hb hi (st := st) (w := w) (fss := fss)
    show (MM.run (sysOf rows fss) (MM.step (sysOf rows fss) st w) ws i).length ≤ _
    rw [List.length_cons]
    omega
theorem LaneAt.hid' {K : PySem.W.Frag} {mg : Str → Option Value} {T : Tp K mg} {H : Hp} {p r : Addr} {xs : List Int} {fp : List Addr} (h : LaneAt T H p xs fp) (n : r ∉ fp) : LaneAt T (hid H r) p xs fp := by
  obtain ⟨dx, l, laid, g, rfl, h1, h2, h3, h4⟩ := h
  simp only [List.mem_cons, List.not_mem_nil, or_false, not_or] at n
  obtain ⟨n1, n2, n3⟩ := n
  exact ⟨dx, l, laid, g, rfl, by rw [hid_ne (Ne.symm n1)]; exact h1, by rw [hid_ne (Ne.symm n2)]; exact h2, by rw [hid_ne (Ne.symm n3)]; exact h3, h4⟩
theorem refs_of {ys : List V} {n : Nat} (hl : ys.length = n) (h : ∀ i < n, ∃ a, ys.getD i .non = .ref a) : ∃ as : List Addr, ys = as.map V.ref ∧ as.length = n := by
  induction ys generalizing n with
  | nil => exact ⟨[], rfl, by simpa using hl⟩
  | cons y ys ih =>
    cases n with
    | zero => simp at hl
    | succ n =>
      obtain ⟨as, e, l⟩ := ih (n := n) (by simpa using hl) fun i hi => by
        obtain ⟨a, e⟩ := h (i + 1) (by omega)
        exact ⟨a, by simpa using e⟩
      obtain ⟨a, ea⟩ := h 0 (by omega)
      have ea' : y = .ref a := by simpa using ea
      exact ⟨a :: as, by rw [ea', e]; rfl, by simp [l]⟩
theorem eqv_nil_ints (zs : List Int) : PyData.eqv (.list (zs.map PyData.int)) (.list []) = decide (zs = []) := by
  cases zs with
  | nil => simp [PyData.eqv, PyData.eqvAll]
  | cons z zs => simp [PyData.eqv, PyData.eqvAll]
theorem sum_set : ∀ {l : List Int} {i : Nat} {x : Int}, i < l.length → (l.set i x).sum = l.sum - l.getD i 0 + x
  | [], _, _, h => by simp at h
  | a :: l, 0, x, _ => by simp; omega
  | a :: l, i + 1, x, h => by
    have := sum_set (l := l) (i := i) (x := x) (by simpa using h)
    simp at this ⊢
    omega
theorem sum_nn : ∀ {l : List Int}, (∀ i < l.length, 0 ≤ l.getD i 0) → 0 ≤ l.sum
  | [], _ => by simp
  | a :: l, h => by
    have h1 := sum_nn (l := l) fun i hi => by simpa using h (i + 1) (by simpa using hi)
    have h2 := h 0 (by simp)
    simp at h2 ⊢
    omega
theorem sum_zero : ∀ {l : List Int}, (∀ i < l.length, 0 ≤ l.getD i 0) → l.sum = 0 → ∀ i < l.length, l.getD i 0 = 0
  | [], _, _, _, h => by simp at h
  | a :: l, h, e, i, hi => by
    have hl : ∀ i < l.length, 0 ≤ l.getD i 0 := fun i hi => by simpa using h (i + 1) (by simpa using hi)
    have h1 := sum_nn hl
    have h2 := h 0 (by simp)
    simp at h2 e
    cases i with
    | zero => simp; omega
    | succ i => simpa using sum_zero hl (by omega) i (by simpa using hi)
structure Order (m : Nat) (ls : List B5) (cs : List Int) (row hs : List Int) : Prop where
  go : goR m ls (startsL ls) row = .ok hs
  cnt : ∀ w < m, (row.count (w : Int) : Int) ≤ cs.getD w 0
  full : ∀ w < m, (row.count (w : Int) : Int) < cs.getD w 0 → readyL ls hs w = false
  len : (row.length : Int) ≤ cs.sum
local macro_rules | `(tactic| walk_at "rd") => `(tactic| first | with_reducible refine Nm.Hall_meth (by with_reducible assumption) (by k_dflt (decide +kernel)) (by k_dflt (decide +kernel)) ?_ | with_reducible refine L2.Rd.isER (by with_reducible assumption) (by with_reducible assumption) (by with_reducible assumption) ?_ | with_reducible refine L2.Rd.isET (by with_reducible assumption) (by with_reducible assumption) (by with_reducible assumption) ?_ | with_reducible refine Nm.Floor_meth (by with_reducible assumption) (by k_dflt (decide +kernel)) (by k_dflt (decide +kernel)) (by k_dflt (decide +kernel)) ?_ | with_reducible refine Nm.Lane_meth (by with_reducible assumption) (by k_dflt (decide +kernel)) (by k_dflt (decide +kernel)) ?_ | with_reducible refine Nm.Mill_meth (by with_reducible assumption) (by k_dflt (decide +kernel)) (by k_dflt (decide +kernel)) (by k_dflt (decide +kernel)) ?_ | fail "none here")
def sp_l_cell_at {K : PySem.W.Frag} {mg : Str → Option Value} (T : Tp K mg) : Sp := fun vs H Q _ => ∃ (p : Addr) (ns : List Int) (k : Int), vs = [.ref p, .int k] ∧ SqL K H p (ns.map V.int) ∧ ns.length ≤ 63 ∧ 0 ≤ k ∧ k ≤ 100000 ∧ Q (.int (cellX ns k)) H
theorem rd_l_cell_at {K : PySem.W.Frag} {mg : Str → Option Value} {T : Tp K mg} {H : Hp} {Q : VK} {E : XK} {p : Addr} {ns : List Int} {k : Int} (hS : SqL K H p (ns.map V.int)) (hl : ns.length ≤ 63) (hk : 0 ≤ k ∧ k ≤ 100000) (q : Q (.int (cellX ns k)) H) : sp_l_cell_at T ([.ref p, .int k] ++ []) H Q E := ⟨p, ns, k, rfl, hS, hl, hk.1, hk.2, q⟩
local macro_rules | `(tactic| walk_at "rd") => `(tactic| first | with_reducible refine Nm.rd_l_cell_at (by walk_at "hp") (by assumption) (by omega) ?_ | fail "none here")
section
variable {P : Program} {w : World} {K : PySem.W.Frag} {mg : Str → Option Value} {base : Heap}
theorem ok_l_cell_at (T : Tp K mg) : FnOk P w K mg base (CXX P w) 1 T.f_l_cell_at T.d_l_cell_at ["_law_script", "_law_k"] (sp_l_cell_at T) := by
  refine T.F_l_cell_at.okX sc_l_cell_at (fun vs H Q E h => ?_) (fun cdv A outer s H vs Q E hr h => ?_)
  · obtain ⟨p, ns, k, rfl, _⟩ := h
    rfl
  · have hu := hr.units
    obtain ⟨p, ns, k, rfl, hS, hlen, k0, k1, q⟩ := h
    unfold cellX at q
    refine ⟨_, (pss_cons (ps_if (pt_cmpR (op_eqK (K := K) rfl hu) (pe_callB (len_K (K := K) rfl) (by rfl) T.n_len PySem.boot_len (pa_cons (pv 0) pa_nil)) pe_int (nomark _)) (pss_one (ps_ret pe_int)) pss_nil)
          (pss_cons (ps_set (i := 2) sc_l_cell_at.nd rfl (Or.inl rfl) (pe_op op_fdivG (pv 1) (pe_callB (len_K (K := K) rfl) (by rfl) T.n_len PySem.boot_len (pa_cons (pv 0) pa_nil))))
          (pss_cons (ps_set (i := 3) sc_l_cell_at.nd rfl (Or.inl rfl) (pe_ix (ix_K (K := K) rfl) (pv 0) (pe_op op_mod (pv 1) (pe_callB (len_K (K := K) rfl) (by rfl) T.n_len PySem.boot_len (pa_cons (pv 0) pa_nil))) (fun _ _ => rfl)))
          (pss_cons (ps_if (pt_cmpR (op_eqK (K := K) rfl hu) (pv 2) pe_int (nomark _)) (pss_one (ps_ret (pv 3))) pss_nil)
          (pss_one (ps_ret (pe_op (op_addK (K := K) rfl) (pe_op op_mod (pe_op op_mulU (pv 3) (pe_op (op_addK (K := K) rfl) (pe_op op_mulU pe_int (pv 2)) pe_int)) pe_int) (pe_op op_mulU pe_int (pv 2))))))))), ?_⟩
    try dsimp only [L2.cxX, L2.cxOf, L2.cxComp]
    walk_at "rds"
    refine Rd.ifD (fun d => ?_) (fun d => ?_)
    · have d' : (ns.length : Int) = 0 := by simpa using d
      rw [if_pos d'] at q
      walk_at "rds"
      exact q
    · have d' : ¬ (ns.length : Int) = 0 := by simpa using d
      rw [if_neg d'] at q
      have e : ((ns.map V.int).length : Int) = ns.length := by simp
      have l0 : 0 < ((ns.map V.int).length : Int) := by omega
      have hl9 : ((ns.map V.int).length : Int).natAbs.log2 < 9000 := log28 (by rw [List.length_map]; omega)
      have ha := at_ints28 (ns := ns) (k := k % (ns.map V.int).length) (Int.emod_nonneg _ (by omega)) (by rw [e]; exact Int.emod_lt_of_pos _ (by omega))
      have hq1 : 0 ≤ k / ((ns.map V.int).length : Int) := Int.ediv_nonneg k0 (by omega)
      have hq2 : k / ((ns.map V.int).length : Int) ≤ k := Int.ediv_le_self _ k0
      have mo : IntMulOk (ns.getD (k % ((ns.map V.int).length : Int)).toNat 0) (2 * (k / ((ns.map V.int).length : Int)) + 1) := IntMulOk.of_right (Nat.le_trans (bitsI (n := 30) (by omega)) (by decide))
      rw [← e] at q
      walk_at "rds"
      refine Rd.ifD (fun d2 => ?_) (fun d2 => ?_)
      · rw [if_pos d2] at q
        walk_at "rds"
        exact q
      · rw [if_neg d2] at q
        walk_at "rds"
        exact q
end
def sp_l_form_by {K : PySem.W.Frag} {mg : Str → Option Value} (T : Tp K mg) : Sp := fun vs H Q _ => ∃ (c sl : Int) (gr : Bool), vs = [.int c, .int sl, .bl gr] ∧ 0 ≤ sl ∧ sl ≤ 100000 ∧
  ∀ (r : Addr) (H' : Hp) (f : Form), Same H H' → FormAt H' (.ref r) f → FormOk sl f → Q (.ref r) H'
section
variable {P : Program} {w : World} {K : PySem.W.Frag} {mg : Str → Option Value} {base : Heap}
theorem ok_l_form_by (T : Tp K mg) : FnOk P w K mg base (CXX P w) 1 T.f_l_form_by T.d_l_form_by ["_law_cell", "_law_slots", "_law_great"] (sp_l_form_by T) := by
  refine T.F_l_form_by.okX sc_l_form_by (fun vs H Q E h => ?_) (fun cdv A outer s H vs Q E hr h => ?_)
  · obtain ⟨c, sl, gr, rfl, _⟩ := h
    rfl
  · have hu := hr.units
    obtain ⟨c, sl, gr, rfl, sl0, sl1, q⟩ := h
    have e29 : (10 : Int) ^ Int.toNat 29 = 100000000000000000000000000000 := rfl
    refine ⟨_, (pss_cons (ps_set (i := 3) sc_l_form_by.nd rfl (Or.inl rfl) (pe_op op_mod (pe_op op_mulU (pv 0) pe_int) pe_int))
          (pss_cons (ps_set (i := 4) sc_l_form_by.nd rfl (Or.inl rfl) (pe_op op_sub (pe_op op_mod (pv 3) pe_int) pe_int))
          (pss_cons (ps_cut (ps_if (pt_truK (K := K) rfl (pv 2) (fun _ => rfl)) (pss_one (ps_set (i := 4) sc_l_form_by.nd rfl (Or.inl rfl) (pe_op op_sub (pe_op op_mod (pv 0) (pe_op op_mulU pe_int (pe_op op_pow pe_int pe_int))) (pe_op op_pow pe_int pe_int)))) pss_nil))
          (pss_cons (ps_set (i := 5) sc_l_form_by.nd rfl (Or.inl rfl) (pe_lst pa_nil))
          (pss_cons (ps_for PassesOwn.leaving rfl (pi_range1 rfl T.n_range (pa_cons (pe_op op_mulU (pe_op op_mod (pe_op op_fdivG (pv 3) pe_int) pe_int) (pe_callB (call_min2 rfl) (by rfl) T.n_min PyProof.Rows.boot_min (pa_cons (pv 1) (pa_cons pe_int pa_nil)))) pa_nil)) (pg_name (i := 6) sc_l_form_by.nd rfl (Or.inl rfl)) (pss_one (ps_expr (pe_bmK (K := K) rfl PySem.F.plainAttrs_list PySem.F.slot_list_append PySem.F.type_list_append mt_append (pv 5) (pa_cons (pe_tup (pa_cons (pe_op op_mod (pe_op op_fdivG (pv 3) (pe_op (op_addK (K := K) rfl) pe_int (pe_op op_mulU pe_int (pv 6)))) (pv 1)) (pa_cons (pe_op op_sub (pe_op op_mod (pe_op op_fdivG (pv 3) (pe_op (op_addK (K := K) rfl) pe_int (pe_op op_mulU pe_int (pv 6)))) pe_int) pe_int) pa_nil))) pa_nil)))))
          (pss_one (ps_ret (pe_tup (pa_cons (pv 4) (pa_cons (pe_callTy (tupOf_K (K := K) rfl) (by rfl) T.n_tuple PyProof.Rows.boot_tuple (pa_cons (pv 5) pa_nil)) pa_nil)))))))))), ?_⟩
    try dsimp only [L2.cxX, L2.cxOf, L2.cxComp]
    walk_at "rds"
    have m0 : 0 ≤ c * 48271 % 2147483647 := by omega
    have m1 : c * 48271 % 2147483647 < 2147483647 := by omega
    generalize c * 48271 % 2147483647 = mx at *
    refine Rd.cut (fun σ' H' => H' = H ∧ ∃ kc : Int, σ' = [some (.int c), some (.int sl), some (.bl gr), some (.int mx), some (.int kc), none, none]) ?k1 ?i1
    case i1 =>
      cases gr with
      | true =>
        walk_at "rds"
        exact ⟨rfl, _, rfl⟩
      | false =>
        walk_at "rds"
        exact ⟨rfl, _, rfl⟩
    case k1 =>
      rintro σ' H' ⟨rfl, kc, rfl⟩
      walk_at "rds"
      refine ⟨Nat.zero_le _, fun t ht => ?_⟩
      have s3 : Same H' (upd H' t (.lst [])) := same_new ht
      have v3 : (upd H' t (.lst [])) t = some (.lst []) := upd_same
      generalize upd H' t (.lst []) = H3 at *
      have mn : (0 ≤ (if 1 < sl then 1 else sl) ∧ (if 1 < sl then 1 else sl) ≤ 1) := by split <;> omega
      have mo : IntMulOk (mx / 41 % 4) ((if 1 < sl then 1 else sl)) := mulI (n := 10) (m := 10) (by omega) (by have := mn.1; have := mn.2; generalize (if 1 < sl then 1 else sl) = z at *; omega) (by decide)
      have mz : 0 < (if 1 < sl then 1 else sl) → 0 < sl := by split <;> omega
      have r0 : 0 ≤ mx / 41 % 4 * (if 1 < sl then 1 else sl) := Int.mul_nonneg (by omega) (by omega)
      have r1 : mx / 41 % 4 * (if 1 < sl then 1 else sl) ≤ 3 * 1 := Int.mul_le_mul (by omega) (by omega) (by omega) (by omega)
      have r2 : 0 < mx / 41 % 4 * (if 1 < sl then 1 else sl) → 0 < (if 1 < sl then 1 else sl) := fun z => by
        rcases (Int.le_iff_lt_or_eq.mp mn.1).symm.imp Eq.symm id with e | e
        · rw [e, Int.mul_zero] at z; omega
        · exact e
      walk_at "rds"
      generalize (if 1 < sl then 1 else sl) = mm at *
      generalize mx / 41 % 4 * mm = nn at *
      refine for_range (n := nn.toNat) (fun j σ H4 => ∃ (tvs : List V) (ts : List (Int × Int)) (a6 : Option V), σ = [some (.int c), some (.int sl), some (.bl gr), some (.int mx), some (.int kc), some (.ref t), a6] ∧ Same H' H4 ∧ H4 t = some (.lst tvs) ∧ Terms H4 tvs ts ∧ ts.length = j ∧ ∀ x ∈ ts, 0 ≤ x.1 ∧ x.1 < sl ∧ x.2.natAbs ≤ 4) ⟨[], [], _, rfl, s3, v3, .nil, rfl, by simp⟩ ?_ ?_
      · rintro j σ H4 hj ⟨tvs, ts, b6, rfl, s4, ht4, hT4, hl4, hx4⟩
        have hj4 : j < 4 := by omega
        have np : 0 < sl := mz (r2 (by omega))
        have d1 : 0 < 164 + 5 * (0 + (j : Int)) ∧ (164 + 5 * (0 + (j : Int))).natAbs.log2 < 9000 := ⟨by omega, logI (by omega) (by omega)⟩
        have d2 : 0 < 7 + 2 * (0 + (j : Int)) ∧ (7 + 2 * (0 + (j : Int))).natAbs.log2 < 9000 := ⟨by omega, logI (by omega) (by omega)⟩
        have d3 : 0 < sl ∧ sl.natAbs.log2 < 9000 := ⟨by omega, logI (by omega) (by omega)⟩
        have htz : tvs.length < sizeLine := small1000 (by have := hT4.length; omega)
        walk_at "rds"
        have w1 := Int.emod_nonneg (mx / (164 + 5 * (0 + (j : Int)))) (show sl ≠ 0 by omega)
        have w2 := Int.emod_lt_of_pos (mx / (164 + 5 * (0 + (j : Int)))) np
        have w3 : (mx / (7 + 2 * (0 + (j : Int))) % 9 - 4).natAbs ≤ 4 := by omega
        generalize mx / (164 + 5 * (0 + (j : Int))) % sl = x1 at *
        generalize mx / (7 + 2 * (0 + (j : Int))) % 9 - 4 = x2 at *
        refine ⟨by show 2 ≤ sizeLine; decide, fun u hu1 => ?_⟩
        have s5 : Same H4 (upd H4 u (.tup [V.int x1, V.int x2])) := same_new hu1
        have v5 : (upd H4 u (.tup [V.int x1, V.int x2])) u = some (.tup [V.int x1, V.int x2]) := upd_same
        generalize upd H4 u (.tup [V.int x1, V.int x2]) = H5 at *
        have ht5 := s5 _ _ ht4
        walk_at "rds"
        have fr6 : Frame [t] H5 (upd H5 t (.lst (tvs ++ [.ref u]))) := frame_upd (by simp) ht5 (by intro _ z; cases z)
        refine ⟨tvs ++ [.ref u], ts ++ [(x1, x2)], _, rfl, (s4.trans s5).new ht, upd_same, ((hT4.keep fun b xs e => s5 _ _ e).keep fr6.tups).snoc (x := (x1, x2)) (fr6.tups _ _ v5), by simp [hl4], fun x hx => ?_⟩
        rcases List.mem_append.mp hx with z | z
        · exact hx4 x z
        · rw [List.mem_singleton.mp z]; exact ⟨w1, w2, w3⟩
      · rintro σ H4 ⟨tvs, ts, b6, rfl, s4, ht4, hT4, hl4, hx4⟩
        have htq := SqL.of (K := K) ht4
        walk_at "rds"
        refine ⟨t, tvs, rfl, .inl ⟨htq, fun w hw => ?_⟩⟩
        have s5 : Same H4 (upd H4 w (.tup tvs)) := same_new hw
        have v5 : (upd H4 w (.tup tvs)) w = some (.tup tvs) := upd_same
        generalize upd H4 w (.tup tvs) = H5 at *
        walk_at "rds"
        refine ⟨by show 2 ≤ sizeLine; decide, fun u hu1 => ?_⟩
        have s6 : Same H5 (upd H5 u (.tup [V.int kc, V.ref w])) := same_new hu1
        have v6 : (upd H5 u (.tup [V.int kc, V.ref w])) u = some (.tup [V.int kc, V.ref w]) := upd_same
        generalize upd H5 u (.tup [V.int kc, V.ref w]) = H6 at *
        have s46 := s5.trans s6
        exact q u H6 (kc, ts) (s4.trans s46) ⟨u, w, tvs, rfl, v6, s6 _ _ v5, hT4.keep fun b xs e => s46 _ _ e⟩ ⟨by show ts.length ≤ 1000; omega, hx4⟩
end
def sp_l_forms_by {K : PySem.W.Frag} {mg : Str → Option Value} (T : Tp K mg) : Sp := fun vs H Q _ => ∃ (p lp : Addr) (ns : List Int) (bs : List V) (ls : List B5) (a0 : Int) (m : Nat) (gr : Bool), vs = [.ref p, .int a0, .ref lp, .int m, .bl gr] ∧ SqL K H p (ns.map V.int) ∧ ns.length ≤ 63 ∧ H lp = some (.lst bs) ∧ Tups H bs ls ∧ ls.length ≤ 20 ∧ (∀ l ∈ ls, Bel m l) ∧ 0 ≤ a0 ∧ a0 ≤ 1000 ∧ m ≤ 10 ∧
  ∀ (r : Addr) (H' : Hp) (ys : List V) (fss : List (List Form)), H r = none → Same H H' → H' r = some (.lst ys) → FormsAt H' ys fss → AllForms m ls fss → Q (.ref r) H'
theorem forms_snoc {H : Hp} : ∀ {ys : List V} {fss : List (List Form)} {v : V} {fs : List Form}, FormsAt H ys fss → WForms H v fs → FormsAt H (ys ++ [v]) (fss ++ [fs])
  | _, _, _, _, .nil, h => .cons h .nil
  | _, _, _, _, .cons x r, h => .cons x (forms_snoc r h)
theorem form_snoc {H : Hp} : ∀ {ys : List V} {fs : List Form} {v : V} {f : Form}, Paired (FormAt H) ys fs → FormAt H v f → Paired (FormAt H) (ys ++ [v]) (fs ++ [f])
  | _, _, _, _, .nil, h => .cons h .nil
  | _, _, _, _, .cons x r, h => .cons x (form_snoc r h)
theorem sum_le40 {is : List Nat} {f : Nat → Int} (h : ∀ i ∈ is, 0 ≤ f i ∧ f i ≤ 40) : 0 ≤ (is.map f).sum ∧ (is.map f).sum ≤ 40 * is.length := by
  induction is with
  | nil => simp
  | cons i is ih =>
    have a1 := ih fun j hj => h j (List.mem_cons_of_mem _ hj)
    have a2 := h i List.mem_cons_self
    simp only [List.map_cons, List.sum_cons, List.length_cons]
    omega
section
variable {P : Program} {w : World} {K : PySem.W.Frag} {mg : Str → Option Value} {base : Heap}
theorem ok_l_forms_by (T : Tp K mg) : FnOk P w K mg base (CXX P w) 2 T.f_l_forms_by T.d_l_forms_by ["_law_script", "_law_at", "_law_belts", "_law_many", "_law_great"] (sp_l_forms_by T) := by
  have G_l_form_by : FnOk P w K mg base (CXX P w) 1 T.f_l_form_by T.d_l_form_by ["_law_cell", "_law_slots", "_law_great"] (sp_l_form_by T) := (ok_l_form_by T).mono (by decide)
  have G_l_cell_at : FnOk P w K mg base (CXX P w) 1 T.f_l_cell_at T.d_l_cell_at ["_law_script", "_law_k"] (sp_l_cell_at T) := (ok_l_cell_at T).mono (by decide)
  refine T.F_l_forms_by.okX sc_l_forms_by (fun vs H Q E h => ?_) (fun cdv A outer s H vs Q E hr h => ?_)
  · obtain ⟨p, lp, ns, bs, ls, a0, m, gr, rfl, _⟩ := h
    rfl
  · have hu := hr.units
    obtain ⟨p, lp, ns, bs, ls, a0, m, gr, rfl, hS, hlen, hlp, hT, hll, hst, z0, z1, hm, q⟩ := h
    have hbl := hT.length
    have hat : ∀ i < ls.length, Bel m (ls.getD i dB) := fun i hi => hst _ (by rw [getD_of hi]; exact List.getElem_mem _)
    refine ⟨_, (pss_cons (ps_set (i := 5) sc_l_forms_by.nd rfl (Or.inl rfl) (pe_lst pa_nil))
          (pss_cons (ps_for PassesOwn.leaving rfl (pi_range1 rfl T.n_range (pa_cons (pv 3) pa_nil)) (pg_name (i := 6) sc_l_forms_by.nd rfl (Or.inr rfl)) (pss_cons (ps_set (i := 7) sc_l_forms_by.nd rfl (Or.inl rfl) (pe_callB (sum_K (K := K) rfl rfl) (by rfl) T.n_sum PyProof.Rows.boot_sum (pa_cons (pe_compN (xs := ["_law_belt"]) rfl (cscope (x := "_law_belt") (zs := ["_law_work"]) (ix := [6]) (defScope s_l_forms_by) ["_law_script", "_law_at", "_law_belts", "_law_many", "_law_great", "_law_forms", "_law_work", "_law_slots", "_law_given", "_law_some", "_law_k"] rfl rfl (by decide +kernel)) (pi_listK (K := K) rfl (pv 2)) (fun cl C s H fp => ⟨(pg_name (i := 0) (show (["_law_belt", "_law_work"] : List Str).Nodup by decide +kernel) rfl (Or.inl rfl)), (pif_one (pt_cmpR (op_eqK (K := K) rfl hu) (pe_ix (ix_K (K := K) rfl) (pv 0) pe_int (fun _ _ => rfl)) (pv 1) (nomark _))), (pe_ix (ix_K (K := K) rfl) (pv 0) pe_int (fun _ _ => rfl))⟩)) pa_nil)))
          (pss_cons (ps_set (i := 8) sc_l_forms_by.nd rfl (Or.inl rfl) (pe_callB (sum_K (K := K) rfl rfl) (by rfl) T.n_sum PyProof.Rows.boot_sum (pa_cons (pe_compN (xs := ["_law_belt"]) rfl (cscope (x := "_law_belt") (zs := ["_law_work"]) (ix := [6]) (defScope s_l_forms_by) ["_law_script", "_law_at", "_law_belts", "_law_many", "_law_great", "_law_forms", "_law_work", "_law_slots", "_law_given", "_law_some", "_law_k"] rfl rfl (by decide +kernel)) (pi_listK (K := K) rfl (pv 2)) (fun cl C s H fp => ⟨(pg_name (i := 0) (show (["_law_belt", "_law_work"] : List Str).Nodup by decide +kernel) rfl (Or.inl rfl)), (pif_one (pt_cmpR (op_eqK (K := K) rfl hu) (pe_ix (ix_K (K := K) rfl) (pv 0) pe_int (fun _ _ => rfl)) (pv 1) (nomark _))), (pe_ix (ix_K (K := K) rfl) (pv 0) pe_int (fun _ _ => rfl))⟩)) pa_nil)))
          (pss_cons (ps_set (i := 9) sc_l_forms_by.nd rfl (Or.inl rfl) (pe_lst pa_nil))
          (pss_cons (ps_for PassesOwn.leaving rfl (pi_range1 rfl T.n_range (pa_cons (pv 8) pa_nil)) (pg_name (i := 10) sc_l_forms_by.nd rfl (Or.inl rfl)) (pss_cons (ps_expr (pe_bmK (K := K) rfl PySem.F.plainAttrs_list PySem.F.slot_list_append PySem.F.type_list_append mt_append (pv 9) (pa_cons (pe_call G_l_form_by hr rfl T.m_l_form_by T.F_l_form_by.kp T.b_l_form_by .nil pass_on (pa_cons (pe_call G_l_cell_at hr rfl T.m_l_cell_at T.F_l_cell_at.kp T.b_l_cell_at .nil pass_on (pa_cons (pv 0) (pa_cons (pv 1) pa_nil))) (pa_cons (pv 7) (pa_cons (pv 4) pa_nil)))) pa_nil)))
          (pss_one (ps_set (i := 1) sc_l_forms_by.nd rfl (Or.inl rfl) (pe_op (op_addK (K := K) rfl) (pv 1) pe_int)))))
          (pss_one (ps_expr (pe_bmK (K := K) rfl PySem.F.plainAttrs_list PySem.F.slot_list_append PySem.F.type_list_append mt_append (pv 5) (pa_cons (pe_callTy (tupOf_K (K := K) rfl) (by rfl) T.n_tuple PyProof.Rows.boot_tuple (pa_cons (pv 9) pa_nil)) pa_nil)))))))))
          (pss_one (ps_ret (pv 5))))), ?_⟩
    try dsimp only [L2.cxX, L2.cxOf, L2.cxComp]
    walk_at "rds"
    refine ⟨Nat.zero_le _, fun r hr => ?_⟩
    have s1 : Same H (upd H r (.lst [])) := same_new hr
    have v1 : (upd H r (.lst [])) r = some (.lst []) := upd_same
    generalize upd H r (.lst []) = H1 at *
    walk_at "rds"
    refine for_range (n := m) (fun i σ H' => ∃ (ys : List V) (fss : List (List Form)) (a6 a7 a8 a9 a10 : Option V) (at_ : Int), σ = [some (.ref p), some (.int at_), some (.ref lp), some (.int m), some (.bl gr), some (.ref r), a6, a7, a8, a9, a10] ∧ Same H H' ∧ H' r = some (.lst ys) ∧ FormsAt H' ys fss ∧ fss.length = i ∧ (∀ j < i, FormsOk ls j (fss.getD j [])) ∧ a0 ≤ at_ ∧ at_ ≤ a0 + 1000 * i) ⟨[], [], _, _, _, _, _, a0, rfl, s1, v1, .nil, rfl, fun j hj => absurd hj (Nat.not_lt_zero _), by omega, by omega⟩ ?_ ?_
    · rintro i σ H2 hi ⟨ys, fss, a6, a7, a8, a9, a10, at_, rfl, s2, hr2, hF2, hl2, hok2, b0, b1⟩
      have hlp2 := s2 _ _ hlp
      have hlp2q := SqL.of (K := K) hlp2
      have ei : (0 : Int) + (i : Int) = (i : Int) := by omega
      walk_at "rds"
      refine compN_walk (own := 1) (walks_lst hlp2q).y (small1000 (by omega)) (fun j => [some (bs.getD j .non)]) (fun _ => rfl) (fun j => decide ((ls.getD j dB).taker = 0 + (i : Int))) (fun j v _ => v = .int (ls.getD j dB).take) (fun _ _ _ _ _ z => z) (fun j a' H' v H3 Kg hi sm y ha' k => ?_) (fun j H' Kc hi sm k => ?_) (fun pp j H' Kc hi hci hp0 hp1 sm k => ?_) (fun d H3 zs hd sm hl' hR => ?_)
      · obtain ⟨rfl, rfl⟩ := y
        obtain ⟨x1, rfl⟩ : ∃ x1, a' = [x1] := by
          match a', ha' with
          | [x1], _ => exact ⟨x1, rfl⟩
        walk_at "rds"
        exact k _ (Same.refl _)
      · obtain ⟨t, et, ht⟩ := hT.getD (show j < ls.length by omega)
        rw [et]
        have ht' := sm _ _ (s2 _ _ ht)
        dsimp only [B5.v] at ht'
        walk_at "rds"
        exact k H' (Same.refl H')
      · obtain ⟨t, et, ht⟩ := hT.getD (show j < ls.length by omega)
        rw [et]
        have ht' := sm _ _ (s2 _ _ ht)
        dsimp only [B5.v] at ht'
        walk_at "rds"
        exact k _ H' (Same.refl H') rfl
      · rw [hbl] at hR
        have ey := paired_ints hR
        have esl : (((List.range ls.length).filter fun j => decide ((ls.getD j dB).taker = 0 + (i : Int))).map fun j => (ls.getD j dB).take).sum = slotN ls i := by
          unfold slotN takeRow enterL
          rw [List.map_map, ei]; rfl
        have bsl : 0 ≤ slotN ls i ∧ slotN ls i ≤ 800 := by
          have h1 := sum_le40 (is := enterL ls i) (f := fun j => (ls.getD j dB).take) fun j hj => by
            have := (hat j (enterL_lt hj)).few
            have := (hat j (enterL_lt hj)).sz
            omega
          have h2 := enterL_len (ls := ls) (w := (i : Int))
          have h3 : slotN ls i = ((enterL ls i).map fun j => (ls.getD j dB).take).sum := by unfold slotN takeRow; rw [List.map_map]; rfl
          rw [h3]
          omega
        have hds := SqL.of (K := K) (ey ▸ hl')
        have s03 := s2.trans sm
        have hlp3 := s03 _ _ hlp
        have hlp3q := SqL.of (K := K) hlp3
        walk_at "rds"
        refine ⟨d, _, rfl, hds, ?_⟩
        rw [esl]
        generalize hSN : slotN ls (i : Int) = sn at *
        walk_at "rds"
        refine compN_walk (own := 1) (walks_lst hlp3q).y (small1000 (by omega)) (fun j => [some (bs.getD j .non)]) (fun _ => rfl) (fun j => decide ((ls.getD j dB).giver = 0 + (i : Int))) (fun j v _ => v = .int (ls.getD j dB).give) (fun _ _ _ _ _ z => z) (fun j a' H' v H3 Kg hi sm y ha' k => ?_) (fun j H' Kc hi sm k => ?_) (fun pp j H' Kc hi hci hp0 hp1 sm k => ?_) (fun d2 H4 zs2 hd2 sm2 hl2' hR2 => ?_)
        · obtain ⟨rfl, rfl⟩ := y
          obtain ⟨x1, rfl⟩ : ∃ x1, a' = [x1] := by
            match a', ha' with
            | [x1], _ => exact ⟨x1, rfl⟩
          walk_at "rds"
          exact k _ (Same.refl _)
        · obtain ⟨t, et, ht⟩ := hT.getD (show j < ls.length by omega)
          rw [et]
          have ht' := sm _ _ (s03 _ _ ht)
          dsimp only [B5.v] at ht'
          walk_at "rds"
          exact k H' (Same.refl H')
        · obtain ⟨t, et, ht⟩ := hT.getD (show j < ls.length by omega)
          rw [et]
          have ht' := sm _ _ (s03 _ _ ht)
          dsimp only [B5.v] at ht'
          walk_at "rds"
          exact k _ H' (Same.refl H') rfl
        · rw [hbl] at hR2
          have ey2 := paired_ints hR2
          have egl : (((List.range ls.length).filter fun j => decide ((ls.getD j dB).giver = 0 + (i : Int))).map fun j => (ls.getD j dB).give).sum = giveN ls i := by
            unfold giveN giveRow leaveL
            rw [List.map_map, ei]; rfl
          have bgl : 0 ≤ giveN ls i ∧ giveN ls i ≤ 800 := by
            have h1 := sum_le40 (is := leaveL ls i) (f := fun j => (ls.getD j dB).give) fun j hj => by
              have := (hat j (leaveL_lt hj)).few
              have := (hat j (leaveL_lt hj)).sz
              omega
            have h2 := leaveL_len (ls := ls) (w := (i : Int))
            have h3 : giveN ls i = ((leaveL ls i).map fun j => (ls.getD j dB).give).sum := by unfold giveN giveRow; rw [List.map_map]; rfl
            rw [h3]
            omega
          have hds2 := SqL.of (K := K) (ey2 ▸ hl2')
          have s04 := s03.trans sm2
          walk_at "rds"
          refine ⟨d2, _, rfl, hds2, ?_⟩
          rw [egl]
          have hgn : giveN ls (i : Int) = giveN ls (i : Int) := rfl
          generalize hG : giveN ls (i : Int) = gn at *
          walk_at "rds"
          refine ⟨Nat.zero_le _, fun o ho => ?_⟩
          have s5 : Same H4 (upd H4 o (.lst [])) := same_new ho
          have v5 : (upd H4 o (.lst [])) o = some (.lst []) := upd_same
          have ho0 : H o = none := same_none s04 ho
          generalize upd H4 o (.lst []) = H5 at *
          have s25 : Same H2 H5 := (sm.trans sm2).trans s5
          walk_at "rds"
          refine for_range (n := gn.toNat) (fun j σ H' => ∃ (vs : List V) (fs : List Form) (a10 : Option V), σ = [some (.ref p), some (.int (at_ + j)), some (.ref lp), some (.int m), some (.bl gr), some (.ref r), some (.int (0 + (i : Int))), some (.int sn), some (.int gn), some (.ref o), a10] ∧ Same H4 H' ∧ H' o = some (.lst vs) ∧ Paired (FormAt H') vs fs ∧ fs.length = j ∧ ∀ f ∈ fs, FormOk sn f) ⟨[], [], a10, by simp, s5, v5, .nil, rfl, by simp⟩ ?_ ?_
          · rintro j σ H6 hj ⟨vs, fs, b10, rfl, s6, ho6, hP6, hl6, hok6⟩
            have s06 := s04.trans s6
            have hS6 := s06.seq hS
            have hvl := Paired.length hP6
            have hvz : vs.length < sizeLine := small1000 (by omega)
            walk_at "rds"
            refine ⟨_, sn, gr, rfl, by omega, by omega, fun u H7 f s7 hf hfo => ?_⟩
            have ho7 := s7 _ _ ho6
            walk_at "rds"
            have fr8 : Frame [o] H7 (upd H7 o (.lst (vs ++ [.ref u]))) := frame_upd (by simp) ho7 (by intro _ z; cases z)
            have ej : at_ + (j : Int) + 1 = at_ + ((j + 1 : Nat) : Int) := by omega
            refine ⟨vs ++ [.ref u], fs ++ [f], _, by rw [ej], (s6.trans s7).new ho, upd_same, form_snoc (Paired.mapP hP6 fun _ _ z => (z.keep fun b xs e => s7 _ _ e).keep fr8.tups) (hf.keep fr8.tups), by simp [hl6], fun x hx => ?_⟩
            rcases List.mem_append.mp hx with z | z
            · exact hok6 x z
            · rw [List.mem_singleton.mp z]; exact hfo
          · rintro σ H6 ⟨vs, fs, b10, rfl, s6, ho6, hP6, hl6, hok6⟩
            have hoq := SqL.of (K := K) ho6
            have s26 : Same H2 H6 := (sm.trans sm2).trans s6
            have hr6 := s26 _ _ hr2
            have hyl := Paired.length hF2
            have hyz : ys.length < sizeLine := small1000 (by omega)
            walk_at "rds"
            refine ⟨o, vs, rfl, .inl ⟨hoq, fun wv hw => ?_⟩⟩
            have s7 : Same H6 (upd H6 wv (.tup vs)) := same_new hw
            have v7 : (upd H6 wv (.tup vs)) wv = some (.tup vs) := upd_same
            generalize upd H6 wv (.tup vs) = H7 at *
            have hr7 := s7 _ _ hr6
            walk_at "rds"
            have fr8 : Frame [r] H7 (upd H7 r (.lst (ys ++ [.ref wv]))) := frame_upd (by simp) hr7 (by intro _ z; cases z)
            refine ⟨ys ++ [.ref wv], fss ++ [fs], _, _, _, _, _, _, rfl, (s2.trans (s26.trans s7)).new hr, upd_same, forms_snoc ((hF2.keep fun b xs e => s7 _ _ (s26 _ _ e)).keep fr8.tups) ⟨wv, vs, rfl, fr8.tups _ _ v7, Paired.mapP hP6 fun _ _ z => (z.keep fun b xs e => s7 _ _ e).keep fr8.tups⟩, by simp [hl2], fun j hj => ?_, by omega, by omega⟩
            rcases Nat.lt_succ_iff_lt_or_eq.mp hj with z | z
            · have := hok2 j z
              rw [getD_of (by rw [List.length_append]; omega), List.getElem_append_left (by omega)]
              rw [getD_of (by omega)] at this
              exact this
            · subst z
              rw [getD_of (by rw [List.length_append]; simp; omega), List.getElem_append_right (by omega)]
              simp only [hl2, Nat.sub_self, List.getElem_cons_zero]
              refine ⟨by rw [hG]; omega, by omega, ?_⟩
              rw [hSN]
              exact hok6
    · rintro σ H2 ⟨ys, fss, a6, a7, a8, a9, a10, at_, rfl, s2, hr2, hF2, hl2, hok2, b0, b1⟩
      walk_at "rds"
      refine q r H2 ys fss hr s2 hr2 hF2 ⟨by omega, fun w w0 w1 => ?_⟩
      have := hok2 w.toNat (by omega)
      rwa [Int.toNat_of_nonneg w0] at this
end
def sp_l_pieces_by {K : PySem.W.Frag} {mg : Str → Option Value} (T : Tp K mg) : Sp := fun vs H Q _ => ∃ (p lp : Addr) (ns : List Int) (bs : List V) (ls : List B5) (a0 : Int), vs = [.ref p, .int a0, .ref lp] ∧ SqL K H p (ns.map V.int) ∧ ns.length ≤ 63 ∧ H lp = some (.lst bs) ∧ Tups H bs ls ∧ ls.length ≤ 20 ∧ (∀ l ∈ ls, 0 ≤ l.start ∧ l.start ≤ 1000) ∧ 0 ≤ a0 ∧ a0 ≤ 1000 ∧
  ∀ (r : Addr) (H' : Hp) (ys : List V) (xss : List (List Int)), H r = none → Same H H' → H' r = some (.lst ys) → RowsAt (hid H' r) ys xss → (∀ v ∈ ys, ∃ t, v = .ref t ∧ H t = none) → xss.length = ls.length → (∀ i < ls.length, ((xss.getD i []).length : Int) = (ls.getD i dB).start) → (∀ xs ∈ xss, Sm31 xs) → Q (.ref r) H'
section
variable {P : Program} {w : World} {K : PySem.W.Frag} {mg : Str → Option Value} {base : Heap}
theorem ok_l_pieces_by (T : Tp K mg) : FnOk P w K mg base (CXX P w) 2 T.f_l_pieces_by T.d_l_pieces_by ["_law_script", "_law_at", "_law_belts"] (sp_l_pieces_by T) := by
  have G_l_cell_at : FnOk P w K mg base (CXX P w) 1 T.f_l_cell_at T.d_l_cell_at ["_law_script", "_law_k"] (sp_l_cell_at T) := (ok_l_cell_at T).mono (by decide)
  refine T.F_l_pieces_by.okX sc_l_pieces_by (fun vs H Q E h => ?_) (fun cdv A outer s H vs Q E hr h => ?_)
  · obtain ⟨p, lp, ns, bs, ls, a0, rfl, _⟩ := h
    rfl
  · have hu := hr.units
    obtain ⟨p, lp, ns, bs, ls, a0, rfl, hS, hlen, hlp, hT, hll, hst, z0, z1, q⟩ := h
    have e29 : (10 : Int) ^ Int.toNat 29 = 100000000000000000000000000000 := rfl
    have hbl := hT.length
    refine ⟨_, (pss_cons (ps_set (i := 3) sc_l_pieces_by.nd rfl (Or.inl rfl) (pe_lst pa_nil))
          (pss_cons (ps_for PassesOwn.leaving rfl (pi_listK (K := K) rfl (pv 2)) (pg_name (i := 4) sc_l_pieces_by.nd rfl (Or.inl rfl)) (pss_cons (ps_set (i := 5) sc_l_pieces_by.nd rfl (Or.inl rfl) (pe_lst pa_nil))
          (pss_cons (ps_for PassesOwn.leaving rfl (pi_range1 rfl T.n_range (pa_cons (pe_ix (ix_K (K := K) rfl) (pv 4) pe_int (fun _ _ => rfl)) pa_nil)) (pg_name (i := 6) sc_l_pieces_by.nd rfl (Or.inl rfl)) (pss_cons (ps_expr (pe_bmK (K := K) rfl PySem.F.plainAttrs_list PySem.F.slot_list_append PySem.F.type_list_append mt_append (pv 5) (pa_cons (pe_op op_sub (pe_op op_mod (pe_call G_l_cell_at hr rfl T.m_l_cell_at T.F_l_cell_at.kp T.b_l_cell_at .nil pass_on (pa_cons (pv 0) (pa_cons (pv 1) pa_nil))) (pe_op op_mulU pe_int (pe_op op_pow pe_int pe_int))) (pe_op op_mulU (pe_op op_pow pe_int pe_int) (pe_op op_mod (pv 6) pe_int))) pa_nil)))
          (pss_one (ps_set (i := 1) sc_l_pieces_by.nd rfl (Or.inl rfl) (pe_op (op_addK (K := K) rfl) (pv 1) pe_int)))))
          (pss_one (ps_expr (pe_bmK (K := K) rfl PySem.F.plainAttrs_list PySem.F.slot_list_append PySem.F.type_list_append mt_append (pv 3) (pa_cons (pv 5) pa_nil)))))))
          (pss_one (ps_ret (pv 3))))), ?_⟩
    try dsimp only [L2.cxX, L2.cxOf, L2.cxComp]
    walk_at "rds"
    refine ⟨Nat.zero_le _, fun r hr => ?_⟩
    have s1 : Same H (upd H r (.lst [])) := same_new hr
    have v1 : (upd H r (.lst [])) r = some (.lst []) := upd_same
    generalize upd H r (.lst []) = H1 at *
    have hlp1 := s1 _ _ hlp
    walk_at "rds"
    refine for_walk (walks_lst (SqL.of hlp)) (fun i σ H' => ∃ (ys : List V) (xss : List (List Int)) (a4 a5 a6 : Option V) (at_ : Int), σ = [some (.ref p), some (.int at_), some (.ref lp), some (.ref r), a4, a5, a6] ∧ Same H H' ∧ H' r = some (.lst ys) ∧ RowsAt (hid H' r) ys xss ∧ (∀ v ∈ ys, ∃ t, v = V.ref t ∧ H t = none) ∧ xss.length = i ∧ (∀ j < i, ((xss.getD j []).length : Int) = (ls.getD j dB).start) ∧ (∀ xs ∈ xss, Sm31 xs) ∧ a0 ≤ at_ ∧ at_ ≤ a0 + 1000 * i) ⟨[], [], _, _, _, a0, rfl, s1, v1, .nil, by simp, rfl, fun j hj => absurd hj (Nat.not_lt_zero _), by simp, by omega, by omega⟩ (fun i σ H' ⟨_, _, _, _, _, _, _, s, _⟩ => s) ?_ ?_
    · rintro i σ H2 hi ⟨ys, xss, a4, a5, a6, at_, rfl, s2, hr2, hR2, hn2, hl2, hs2, hx2, b0, b1⟩
      have hil : i < ls.length := by omega
      obtain ⟨t, et, ht⟩ := hT.getD hil
      rw [et]
      have hm : ls.getD i dB ∈ ls := by rw [getD_of hil]; exact List.getElem_mem _
      obtain ⟨t0, t1⟩ := hst _ hm
      have ht2 := s2 _ _ ht
      dsimp only [B5.v] at ht2
      walk_at "rds"
      refine ⟨Nat.zero_le _, fun o ho => ?_⟩
      have s3 : Same H2 (upd H2 o (.lst [])) := same_new ho
      have v3 : (upd H2 o (.lst [])) o = some (.lst (([] : List Int).map V.int)) := upd_same
      have ho0 : H o = none := same_none s2 ho
      generalize upd H2 o (.lst []) = H3 at *
      have ht3 := s3 _ _ ht2
      walk_at "rds"
      generalize hstt : (ls.getD i dB).start = st at *
      refine for_range (n := st.toNat) (fun j σ H' => ∃ (xs : List Int) (a6 : Option V), σ = [some (.ref p), some (.int (at_ + j)), some (.ref lp), some (.ref r), some (.ref t), some (.ref o), a6] ∧ Same H2 H' ∧ H' o = some (.lst (xs.map V.int)) ∧ xs.length = j ∧ Sm31 xs) ⟨[], a6, by simp, s3, v3, rfl, by intro x hx; cases hx⟩ ?_ ?_
      · rintro j σ H4 hj ⟨xs, b6, rfl, s4, ho4, hl4, hx4⟩
        have hS4 := (s2.trans s4).seq hS
        have hz : (xs.map V.int).length < sizeLine := small1000 (by rw [List.length_map]; omega)
        walk_at "rds"
        rw [e29]
        have ej : at_ + (j : Int) + 1 = at_ + ((j + 1 : Nat) : Int) := by omega
        rw [ej]
        generalize cellX ns (at_ + (j : Int)) = cx at *
        have hv : (cx % (2 * 100000000000000000000000000000) - 100000000000000000000000000000 * ((0 + (j : Int)) % 2)).natAbs ≤ 10 ^ 31 := by
          rcases (by omega : (0 + (j : Int)) % 2 = 0 ∨ (0 + (j : Int)) % 2 = 1) with z | z
          · rw [z]; omega
          · rw [z]; omega
        generalize cx % (2 * 100000000000000000000000000000) - 100000000000000000000000000000 * ((0 + (j : Int)) % 2) = vv at *
        refine ⟨xs ++ [vv], _, rfl, s4.new ho, by rw [upd_same, List.map_append]; rfl, by simp [hl4], fun x hx => ?_⟩
        rcases List.mem_append.mp hx with z | z
        · exact hx4 x z
        · rw [List.mem_singleton.mp z]; exact hv
      · rintro σ H4 ⟨xs, b6, rfl, s4, ho4, hl4, hx4⟩
        have hr4 := s4 _ _ hr2
        have hyl := hR2.length
        have hyz : ys.length < sizeLine := small1000 (by omega)
        walk_at "rds"
        have nor : o ≠ r := fun z => by rw [z, hr2] at ho; cases ho
        have hsame : Same (hid H2 r) (hid (upd H4 r (.lst (ys ++ [.ref o]))) r) := fun b w e => by
          unfold hid at e ⊢
          split at e
          · cases e
          · rename_i hb
            rw [if_neg hb, upd_ne hb]
            exact s4 _ _ e
        have hoo : hid (upd H4 r (.lst (ys ++ [.ref o]))) r o = some (.lst (xs.map V.int)) := by
          unfold hid
          rw [if_neg nor, upd_ne nor]
          exact ho4
        refine ⟨ys ++ [.ref o], xss ++ [xs], _, _, _, _, rfl, (s2.trans s4).new hr, upd_same, rows_snoc (hR2.same hsame) hoo, fun v hv => ?_, by simp [hl2], fun j hj => ?_, fun x hx => ?_, by omega, by omega⟩
        · rcases List.mem_append.mp hv with z | z
          · exact hn2 v z
          · exact ⟨o, List.mem_singleton.mp z, ho0⟩
        · rcases Nat.lt_succ_iff_lt_or_eq.mp hj with z | z
          · have := hs2 j z
            rw [getD_of (by rw [List.length_append]; omega), List.getElem_append_left (by omega)]
            rw [getD_of (by omega)] at this
            exact this
          · subst z
            rw [hstt, getD_of (by rw [List.length_append]; simp; omega), List.getElem_append_right (by omega)]
            simp only [hl2, Nat.sub_self, List.getElem_cons_zero]
            omega
        · rcases List.mem_append.mp hx with z | z
          · exact hx2 x z
          · rw [List.mem_singleton.mp z]; exact hx4
    · rintro σ H2 ⟨ys, xss, a4, a5, a6, at_, rfl, s2, hr2, hR2, hn2, hl2, hs2, hx2, b0, b1⟩
      walk_at "rds"
      exact q r H2 ys xss hr s2 hr2 hR2 hn2 (by omega) (fun j hj => hs2 j (by omega)) hx2
end
def sp_l_turned {K : PySem.W.Frag} {mg : Str → Option Value} (T : Tp K mg) : Sp := fun vs H Q _ => ∃ (a b : Addr) (w : Int) (bs : List V) (rows : List B5) (hs : List Int), vs = [.ref a, .ref b, .int w] ∧ H a = some (.lst bs) ∧ a ≠ b ∧ Tups H bs rows ∧ H b = some (.lst (hs.map V.int)) ∧ hs.length = rows.length ∧ rows.length ≤ 1000 ∧
  ∀ H', Frame [b] H H' → H' b = some (.lst ((shiftL rows hs w).map V.int)) → Q .non H'
section
variable {P : Program} {w : World} {K : PySem.W.Frag} {mg : Str → Option Value} {base : Heap}
theorem ok_l_turned (T : Tp K mg) : FnOk P w K mg base (CXX P w) 1 T.f_l_turned T.d_l_turned ["_law_belts", "_law_lying", "_law_work"] (sp_l_turned T) := by
  refine T.F_l_turned.okX sc_l_turned (fun vs H Q E h => ?_) (fun cdv A outer s H vs Q E hr h => ?_)
  · obtain ⟨a, b, w, bs, rows, hs, rfl, _⟩ := h
    rfl
  · have hu := hr.units
    obtain ⟨a, b, w, bs, rows, hs, rfl, ha, nab, hT, hb, hl, hz, q⟩ := h
    have hbl := hT.length
    refine ⟨_, (pss_one (ps_for PassesOwn.leaving rfl (pi_enum (K := K) rfl rfl T.n_enumerate (pa_cons (pv 0) pa_nil)) (pg_tupK (K := K) (n := 2) rfl rfl (pgs_cons (pg_name (i := 3) sc_l_turned.nd rfl (Or.inl rfl)) (pgs_cons (pg_name (i := 4) sc_l_turned.nd rfl (Or.inl rfl)) pgs_nil))) (pss_cons (ps_cut (ps_if (pt_cmpR (op_eqK (K := K) rfl hu) (pe_ix (ix_K (K := K) rfl) (pv 4) pe_int (fun _ _ => rfl)) (pv 2) (nomark _)) (pss_one (ps_asg (pe_op op_sub (pe_ix (ix_K (K := K) rfl) (pv 1) (pv 3) (fun _ _ => rfl)) (pe_ix (ix_K (K := K) rfl) (pv 4) pe_int (fun _ _ => rfl))) (pg_sub (pv 1) (pv 3) set_list))) pss_nil))
          (pss_one (ps_if (pt_cmpR (op_eqK (K := K) rfl hu) (pe_ix (ix_K (K := K) rfl) (pv 4) pe_int (fun _ _ => rfl)) (pv 2) (nomark _)) (pss_one (ps_asg (pe_op (op_addK (K := K) rfl) (pe_ix (ix_K (K := K) rfl) (pv 1) (pv 3) (fun _ _ => rfl)) (pe_ix (ix_K (K := K) rfl) (pv 4) pe_int (fun _ _ => rfl))) (pg_sub (pv 1) (pv 3) set_list))) pss_nil))))), ?_⟩
    try dsimp only [L2.cxX, L2.cxOf, L2.cxComp]
    walk_at "rds"
    refine for_walkY (H0 := solo H a) (walks_enum (xs := bs) ?_) (fun i σ H' => Frame [b] H H' ∧ (∃ a1 a2, σ = [some (.ref a), some (.ref b), some (.int w), a1, a2]) ∧ H' b = some (.lst (((shiftL rows hs w).take i ++ hs.drop i).map V.int))) ⟨Frame.refl, ⟨_, _, rfl⟩, by simpa using hb⟩ (fun i σ H' h => solo_same ?_) ?_ ?_
    · exact SqL.of (by rw [solo_at]; exact ha)
    · rw [h.1.keep _ _ ha (by simpa using nab), ha]
    · rintro i σ H1 v H2 hi ⟨f1, ⟨a1, a2, rfl⟩, hb1⟩ ⟨t, ht, rfl, rfl⟩
      have hil : i < rows.length := by omega
      have hih : i < hs.length := by omega
      obtain ⟨u, hu1, hu2⟩ := hT.at (List.getElem?_eq_getElem hil)
      have eb : bs.getD i .non = .ref u := by simp [List.getD, hu1]
      rw [eb]
      refine Rd.gtup (.of upd_same) rfl ?_
      have s2 : Same H1 (upd H1 t (.tup [.int i, .ref u])) := same_new ht
      have nbt : b ≠ t := ne_of_none hb1 ht
      generalize upd H1 t (.tup [.int i, .ref u]) = H2 at *
      have hb2 := s2 _ _ hb1
      have hu3 := s2 _ _ (f1.tups _ _ hu2)
      have f2 : Frame [b] H H2 := f1.trans s2.frame
      have hsl := shiftL_len (rows := rows) (hs := hs) (w := w) hl
      have hsi := shiftL_at (w := w) hil hih (by omega)
      have hxi : ((shiftL rows hs w).take i ++ hs.drop i)[i]? = some hs[i] := by
        rw [List.getElem?_append_right (by rw [List.length_take]; omega), List.length_take, show i - min i (shiftL rows hs w).length = 0 by omega, List.getElem?_drop]
        simp [hih]
      have hset : ∀ z, ((shiftL rows hs w).take i ++ hs.drop i).set i z = (shiftL rows hs w).take i ++ z :: hs.drop (i + 1) := fun z => by
        rw [List.set_append_right _ _ (by rw [List.length_take]; omega), List.length_take, show i - min i (shiftL rows hs w).length = 0 by omega, List.drop_eq_getElem_cons hih]
        rfl
      have hnx : (shiftL rows hs w).take (i + 1) ++ hs.drop (i + 1) = (shiftL rows hs w).take i ++ (shiftL rows hs w)[i]'(by omega) :: hs.drop (i + 1) := by
        rw [List.take_succ_eq_append_getElem (by omega), List.append_assoc]
        rfl
      rw [hnx, hsi]
      clear hnx hsi
      have hlx : ((shiftL rows hs w).take i ++ hs.drop i).length = hs.length := by rw [List.length_append, List.length_take, List.length_drop]; omega
      generalize (shiftL rows hs w).take i ++ hs.drop i = X at hb1 hb2 hlx hxi hset
      have at2 : atI (X.map V.int) (i : Int) = some (.int hs[i]) := atI_nat (by rw [List.getElem?_map, hxi]; rfl)
      have hb2q := SqL.of (K := K) hb2
      generalize rows[i] = r at *
      generalize hs[i] = hh at *
      dsimp only [B5.v] at hu3
      have hxz : (i : Int) < ((X.map V.int).length : Int) := by rw [List.length_map]; omega
      walk_at "rds"
      have hself : X.set i hh = X := List.ext_getElem? fun j => by
        by_cases e : i = j
        · subst e
          rw [List.getElem?_set_self (by omega), hxi]
        · rw [List.getElem?_set_ne e]
      refine Rd.cut (fun σ' H' => Frame [b] H H' ∧ σ' = [some (.ref a), some (.ref b), some (.int w), some (.int i), some (.ref u)] ∧ H' b = some (.lst ((X.set i (hh - (if r.taker = w then r.take else 0))).map V.int))) ?k1 ?i1
      case i1 =>
        walk_at "rds"
        refine Rd.ifD (fun c => ?_) (fun c => ?_)
        · walk_at "rds"
          rw [if_pos c]
          exact ⟨f2.trans (frame_upd (by simp) hb2 (by intro _ z; cases z)), rfl, by rw [upd_same, List.map_set]; rfl⟩
        · walk_at "rds"
          rw [if_neg c, Int.sub_zero, hself]
          exact ⟨f2, rfl, hb2⟩
      case k1 =>
        rintro σ' H3 ⟨f3, rfl, hb3⟩
        have hu4 : H3 u = some (.tup [.int r.giver, .int r.taker, .int r.give, .int r.take, .int r.start]) := f3.tups _ _ hu2
        have hb3q := SqL.of (K := K) hb3
        have hlx3 : (X.set i (hh - (if r.taker = w then r.take else 0))).length = X.length := List.length_set
        have at3 : atI ((X.set i (hh - (if r.taker = w then r.take else 0))).map V.int) (i : Int) = some (.int (hh - (if r.taker = w then r.take else 0))) := atI_nat (by rw [List.getElem?_map, List.getElem?_set_self (by omega)]; rfl)
        have hxz3 : (i : Int) < (((X.set i (hh - (if r.taker = w then r.take else 0))).map V.int).length : Int) := by rw [List.length_map]; omega
        have hss : ∀ z, (X.set i (hh - (if r.taker = w then r.take else 0))).set i z = X.set i z := fun z => List.set_set ..
        have hsd : X.set i (hh - (if r.taker = w then r.take else 0)) = X.set i (hh - (if r.taker = w then r.take else 0)) := rfl
        generalize hY : X.set i (hh - (if r.taker = w then r.take else 0)) = Y at *
        walk_at "rds"
        refine Rd.ifD (fun c => ?_) (fun c => ?_)
        · walk_at "rds"
          refine ⟨f3.trans (frame_upd (by simp) hb3 (by intro _ z; cases z)), ⟨_, _, rfl⟩, ?_⟩
          rw [upd_same, if_pos c, ← hset, ← hss, List.map_set]
          rfl
        · walk_at "rds"
          refine ⟨f3, ⟨_, _, rfl⟩, ?_⟩
          rw [hb3, if_neg c, Int.add_zero, ← hset, hY]
    · rintro σ H1 ⟨f1, ⟨a1, a2, rfl⟩, hb1⟩
      walk_at "rds"
      have e1 : (shiftL rows hs w).take bs.length = shiftL rows hs w := List.take_of_length_le (by rw [shiftL_len hl]; omega)
      have e2 : hs.drop bs.length = [] := List.drop_of_length_le (by omega)
      rw [e1, e2, List.append_nil] at hb1
      exact q H1 f1 hb1
end
def sp_l_ready {K : PySem.W.Frag} {mg : Str → Option Value} (T : Tp K mg) : Sp := fun vs H Q _ => ∃ (a b : Addr) (w : Int) (bs : List V) (rows : List B5) (hs : List Int), vs = [.ref a, .ref b, .int w] ∧ SqL K H a bs ∧ Tups H bs rows ∧ SqL K H b (hs.map V.int) ∧ hs.length = rows.length ∧ rows.length ≤ 1000 ∧
  ∀ H', Same H H' → Q (.bl (readyL rows hs w)) H'
section
variable {P : Program} {w : World} {K : PySem.W.Frag} {mg : Str → Option Value} {base : Heap}
theorem ok_l_ready (T : Tp K mg) : FnOk P w K mg base (CXX P w) 1 T.f_l_ready T.d_l_ready ["_law_belts", "_law_lying", "_law_work"] (sp_l_ready T) := by
  refine T.F_l_ready.okX sc_l_ready (fun vs H Q E h => ?_) (fun cdv A outer s H vs Q E hr h => ?_)
  · obtain ⟨a, b, w, bs, rows, hs, rfl, _⟩ := h
    rfl
  · have hu := hr.units
    obtain ⟨a, b, w, bs, rows, hs, rfl, ha, hT, hb, hl, hz, q⟩ := h
    have hbl := hT.length
    refine ⟨_, (pss_cons (ps_for PassesOwn.leaving rfl (pi_enum (K := K) rfl rfl T.n_enumerate (pa_cons (pv 0) pa_nil)) (pg_tupK (K := K) (n := 2) rfl rfl (pgs_cons (pg_name (i := 3) sc_l_ready.nd rfl (Or.inl rfl)) (pgs_cons (pg_name (i := 4) sc_l_ready.nd rfl (Or.inl rfl)) pgs_nil))) (pss_one (ps_if (PW.pt (pw_and (pt_cmpR (op_eqK (K := K) rfl hu) (pe_ix (ix_K (K := K) rfl) (pv 4) pe_int (fun _ _ => rfl)) (pv 2) (nomark _)) (pw_and1 (pt_cmpR op_lt (pe_ix (ix_K (K := K) rfl) (pv 1) (pv 3) (fun _ _ => rfl)) (pe_ix (ix_K (K := K) rfl) (pv 4) pe_int (fun _ _ => rfl)) (nomark _))))) (pss_one (ps_ret pe_bl)) pss_nil)))
          (pss_one (ps_ret pe_bl))), ?_⟩
    try dsimp only [L2.cxX, L2.cxOf, L2.cxComp]
    walk_at "rds"
    refine for_walkY (walks_enum ha) (fun i σ H' => Same H H' ∧ (∃ a1 a2, σ = [some (.ref a), some (.ref b), some (.int w), a1, a2]) ∧ ∀ j r h, j < i → rows[j]? = some r → hs[j]? = some h → r.taker = w → r.take ≤ h) ⟨Same.refl H, ⟨_, _, rfl⟩, by intro j r h z; omega⟩ (fun i σ H' h => h.1) ?_ ?_
    · rintro i σ H1 v H2 hi ⟨s1, ⟨a1, a2, rfl⟩, hp⟩ ⟨t, ht, rfl, rfl⟩
      have hil : i < rows.length := by omega
      have hih : i < hs.length := by omega
      have er : rows[i]? = some rows[i] := List.getElem?_eq_getElem hil
      have eh : hs[i]? = some hs[i] := List.getElem?_eq_getElem hih
      obtain ⟨u, hu1, hu2⟩ := hT.at er
      have eb : bs.getD i .non = .ref u := by simp [List.getD, hu1]
      have at2 : atI (hs.map V.int) (i : Int) = some (.int hs[i]) := atI_nat (by simp [hih])
      rw [eb]
      refine Rd.gtup (.of upd_same) rfl ?_
      have s2 : Same H (upd H1 t (.tup [.int i, .ref u])) := s1.trans (same_new ht)
      generalize upd H1 t (.tup [.int i, .ref u]) = H2 at *
      have hb2 := s2.seq hb
      have hu3 := s2 _ _ hu2
      generalize rows[i] = r at *
      generalize hs[i] = hh at *
      dsimp only [B5.v] at hu3
      have step : (r.taker = w → r.take ≤ hh) → ∀ (j : Nat) (r : B5) (h : Int), j < i + 1 → rows[j]? = some r → hs[j]? = some h → r.taker = w → r.take ≤ h := fun g j r' h' hj a b => by
        rcases Nat.lt_succ_iff_lt_or_eq.mp hj with z | rfl
        · exact hp j r' h' z a b
        · rw [er] at a; rw [eh] at b
          cases a; cases b
          exact g
      walk_at "rds"
      refine Rd.ifD (fun c => ?_) (fun c => ?_)
      · walk_at "rds"
        refine Rd.ifD (fun d => ?_) (fun d => ?_)
        · walk_at "rds"
          rw [← readyL_false i er eh c d]
          exact q _ s2
        · walk_at "rds"
          exact ⟨s2, ⟨_, _, rfl⟩, step (fun _ => by omega)⟩
      · walk_at "rds"
        exact ⟨s2, ⟨_, _, rfl⟩, step (fun z => absurd z c)⟩
    · rintro σ H' ⟨s1, ⟨a1, a2, rfl⟩, hp⟩
      walk_at "rds"
      rw [← readyL_true (rows := rows) (hs := hs) (w := w) fun j r h a b => hp j r h (by have := (List.getElem?_eq_some_iff.mp a).1; omega) a b]
      exact q _ s1
end
def sp_l_order {K : PySem.W.Frag} {mg : Str → Option Value} (T : Tp K mg) : Sp := fun vs H Q _ => ∃ (lp cp kp : Addr) (bs : List V) (ls : List B5) (cs ns : List Int), vs = [.ref lp, .ref cp, .ref kp] ∧ H lp = some (.lst bs) ∧ Tups H bs ls ∧ ls.length ≤ 20 ∧ SqL K H cp (cs.map V.int) ∧ 0 < cs.length ∧ cs.length ≤ 10 ∧ (∀ i < cs.length, 0 ≤ cs.getD i 0) ∧ cs.sum ≤ 1000 ∧ SqL K H kp (ns.map V.int) ∧ ns.length ≤ 63 ∧
  ∀ (r : Addr) (H' : Hp) (row hs : List Int), H r = none → Same H H' → H' r = some (.lst (row.map V.int)) → Order cs.length ls cs row hs → Q (.ref r) H'
section
variable {P : Program} {w : World} {K : PySem.W.Frag} {mg : Str → Option Value} {base : Heap}
theorem ok_l_order (T : Tp K mg) : FnOk P w K mg base (CXX P w) 2 T.f_l_order T.d_l_order ["_law_belts", "_law_counts", "_law_cells"] (sp_l_order T) := by
  have G_l_turned : FnOk P w K mg base (CXX P w) 1 T.f_l_turned T.d_l_turned ["_law_belts", "_law_lying", "_law_work"] (sp_l_turned T) := (ok_l_turned T).mono (by decide)
  have G_l_ready : FnOk P w K mg base (CXX P w) 1 T.f_l_ready T.d_l_ready ["_law_belts", "_law_lying", "_law_work"] (sp_l_ready T) := (ok_l_ready T).mono (by decide)
  have G_l_cell_at : FnOk P w K mg base (CXX P w) 1 T.f_l_cell_at T.d_l_cell_at ["_law_script", "_law_k"] (sp_l_cell_at T) := (ok_l_cell_at T).mono (by decide)
  refine T.F_l_order.okX sc_l_order (fun vs H Q E h => ?_) (fun cdv A outer s H vs Q E hr h => ?_)
  · obtain ⟨lp, cp, kp, bs, ls, cs, ns, rfl, _⟩ := h
    rfl
  · have hu := hr.units
    obtain ⟨lp, cp, kp, bs, ls, cs, ns, rfl, hlp, hT, hll, hcp, hc0, hcz, hcn, hcs, hkp, hnz, q⟩ := h
    have hbl := hT.length
    have hlpq := SqL.of (K := K) hlp
    have hs0 := sum_nn hcn
    refine ⟨_, (pss_cons (ps_set (i := 3) sc_l_order.nd rfl (Or.inr rfl) (pe_compN (xs := ["_law_belt"]) rfl (cscope (x := "_law_belt") (zs := []) (ix := []) (defScope s_l_order) ["_law_belts", "_law_counts", "_law_cells", "_law_lying", "_law_left", "_law_row", "_law_step", "_law_some", "_law_work"] rfl rfl (by decide +kernel)) (pi_listK (K := K) rfl (pv 0)) (fun cl C s H fp => ⟨(pg_name (i := 0) (show (["_law_belt"] : List Str).Nodup by decide +kernel) rfl (Or.inl rfl)), pif_nil, (pe_ix (ix_K (K := K) rfl) (pv 0) pe_int (fun _ _ => rfl))⟩)))
          (pss_cons (ps_set (i := 4) sc_l_order.nd rfl (Or.inr rfl) (pe_callTy (listOf_K (K := K) rfl) (by rfl) T.n_list PyProof.Rows.boot_list (pa_cons (pv 1) pa_nil)))
          (pss_cons (ps_set (i := 5) sc_l_order.nd rfl (Or.inl rfl) (pe_lst pa_nil))
          (pss_cons (ps_for PassesOwn.leaving rfl (pi_range1 rfl T.n_range (pa_cons (pe_callB (sum_K (K := K) rfl rfl) (by rfl) T.n_sum PyProof.Rows.boot_sum (pa_cons (pv 1) pa_nil)) pa_nil)) (pg_name (i := 6) sc_l_order.nd rfl (Or.inl rfl)) (pss_cons (ps_compN (j := 7) (xs := ["_law_work"]) rfl (cscope (x := "_law_work") (zs := ["_law_belts", "_law_lying", "_law_left"]) (ix := [0, 3, 4]) (defScope s_l_order) ["_law_belts", "_law_counts", "_law_cells", "_law_lying", "_law_left", "_law_row", "_law_step", "_law_some", "_law_work"] rfl rfl (by decide +kernel)) (pi_range1 rfl T.n_range (pa_cons (pe_callB (len_K (K := K) rfl) (by rfl) T.n_len PySem.boot_len (pa_cons (pv 1) pa_nil)) pa_nil)) (fun cl C s H fp => ⟨(pg_name (i := 0) (show (["_law_work", "_law_belts", "_law_lying", "_law_left"] : List Str).Nodup by decide +kernel) rfl (Or.inl rfl)), (pif_one (PW.pt (pw_and (pt_cmpR op_gt (pe_ix (ix_K (K := K) rfl) (pv 3) (pv 0) (fun _ _ => rfl)) pe_int (nomark _)) (pw_and1 (pt_truK (K := K) rfl (pe_call G_l_ready hr rfl T.m_l_ready T.F_l_ready.kp T.b_l_ready .nil passX0 (pa_cons (pv 1) (pa_cons (pv 2) (pa_cons (pv 0) pa_nil)))) (fun _ => rfl)))))), (pv 0)⟩) sc_l_order.nd rfl (Or.inl rfl))
          (pss_cons (ps_if (pt_cmpR (op_eqK (K := K) rfl hu) (pv 7) (pe_lst pa_nil) (nomark _)) (pss_one (ps_ret (pv 5))) pss_nil)
          (pss_cons (ps_set (i := 8) sc_l_order.nd rfl (Or.inl rfl) (pe_ix (ix_K (K := K) rfl) (pv 7) (pe_op op_mod (pe_op op_fdivG (pe_op op_mod (pe_op op_mulU (pe_call G_l_cell_at hr rfl T.m_l_cell_at T.F_l_cell_at.kp T.b_l_cell_at .nil pass_on (pa_cons (pv 2) (pa_cons (pv 6) pa_nil))) pe_int) pe_int) pe_int) (pe_callB (len_K (K := K) rfl) (by rfl) T.n_len PySem.boot_len (pa_cons (pv 7) pa_nil))) (fun _ _ => rfl)))
          (pss_cons (ps_expr (pe_call G_l_turned hr rfl T.m_l_turned T.F_l_turned.kp T.b_l_turned .nil pass_on (pa_cons (pv 0) (pa_cons (pv 3) (pa_cons (pv 8) pa_nil)))))
          (pss_cons (ps_asg (pe_op op_sub (pe_ix (ix_K (K := K) rfl) (pv 4) (pv 8) (fun _ _ => rfl)) pe_int) (pg_sub (pv 4) (pv 8) set_list))
          (pss_one (ps_expr (pe_bmK (K := K) rfl PySem.F.plainAttrs_list PySem.F.slot_list_append PySem.F.type_list_append mt_append (pv 5) (pa_cons (pv 8) pa_nil))))))))))
          (pss_one (ps_ret (pv 5))))))), ?_⟩
    try dsimp only [L2.cxX, L2.cxOf, L2.cxComp]
    walk_at "rds"
    refine compN_walk (own := 1) (walks_lst hlpq).y (small1000 (by omega)) (fun j => [some (bs.getD j .non)]) (fun _ => rfl) (fun _ => true) (fun j v _ => v = .int (ls.getD j dB).start) (fun _ _ _ _ _ z => z) (fun j a' H' v H3 Kg hi sm y ha' k => ?_) (fun j H' Kc hi sm k => ?_) (fun pp j H' Kc hi hci hp0 hp1 sm k => ?_) (fun d H1 zs hd s1 hl' hR => ?_)
    · obtain ⟨rfl, rfl⟩ := y
      obtain ⟨x1, rfl⟩ : ∃ x1, a' = [x1] := by
        match a', ha' with
        | [x1], _ => exact ⟨x1, rfl⟩
      walk_at "rds"
      exact k _ (Same.refl _)
    · walk_at "rds"
      exact k H' (Same.refl H')
    · obtain ⟨t, et, ht⟩ := hT.getD (show j < ls.length by omega)
      rw [et]
      have ht' := sm _ _ ht
      dsimp only [B5.v] at ht'
      walk_at "rds"
      exact k _ H' (Same.refl H') rfl
    · rw [List.filter_eq_self.mpr (by simp), hbl] at hR
      have ey := paired_ints hR
      rw [map_range' (fun b : B5 => b.start)] at ey
      subst ey
      have hcp1 := s1.seq hcp
      walk_at "rds"
      refine ⟨cp, _, rfl, .inl hcp1, fun l hl => ?_⟩
      have s2 : Same H1 (upd H1 l (.lst (cs.map V.int))) := same_new hl
      have v2 : (upd H1 l (.lst (cs.map V.int))) l = some (.lst (cs.map V.int)) := upd_same
      have ndl : d ≠ l := ne_of_none hl' hl
      generalize upd H1 l (.lst (cs.map V.int)) = H2 at *
      walk_at "rds"
      refine ⟨Nat.zero_le _, fun r hr => ?_⟩
      have s3 : Same H2 (upd H2 r (.lst [])) := same_new hr
      have v3 : (upd H2 r (.lst [])) r = some (.lst (([] : List Int).map V.int)) := upd_same
      have nrd : r ≠ d := fun z => by rw [z, s2 _ _ hl'] at hr; cases hr
      have nrl : r ≠ l := fun z => by rw [z, v2] at hr; cases hr
      generalize upd H2 r (.lst []) = H3 at *
      have s03 := s1.trans (s2.trans s3)
      have hcp3 := s03.seq hcp
      have hd3 := s3 _ _ (s2 _ _ hl')
      have hl3 := s3 _ _ v2
      have hr0 : H r = none := same_none (s1.trans s2) hr
      have hl0 : H l = none := same_none s1 hl
      walk_at "rds"
      refine ⟨cp, _, rfl, hcp3, ?_⟩
      walk_at "rds"
      refine for_range (n := cs.sum.toNat) (fun i σ H' => ∃ (row hs left : List Int) (a6 a7 a8 : Option V), σ = [some (.ref lp), some (.ref cp), some (.ref kp), some (.ref d), some (.ref l), some (.ref r), a6, a7, a8] ∧ Same H H' ∧ H' d = some (.lst (hs.map V.int)) ∧ H' l = some (.lst (left.map V.int)) ∧ H' r = some (.lst (row.map V.int)) ∧ row.length = i ∧ goR cs.length ls (startsL ls) row = .ok hs ∧ left.length = cs.length ∧ (∀ w < cs.length, left.getD w 0 = cs.getD w 0 - (row.count (w : Int) : Int)) ∧ (∀ w < cs.length, 0 ≤ left.getD w 0) ∧ left.sum = cs.sum - i) ⟨[], startsL ls, cs, _, _, _, rfl, s03, hd3, hl3, v3, rfl, rfl, rfl, fun w hw => by simp, hcn, by simp⟩ ?_ ?_
      · rintro i σ H4 hi ⟨row, hs, left, a6, a7, a8, rfl, s4, hd4, hl4, hr4, hrl, hgo, hlf, hlc, hln, hsm⟩
        have hsl : hs.length = ls.length := goR_len (by simp [startsL]) hgo
        have hcp4 := s4.seq hcp
        have hcl : ((cs.map V.int).length : Int) = (cs.length : Int) := by simp
        have hl4q := SqL.of (K := K) hl4
        walk_at "rds"
        refine compN_walk (own := 1) walks_rng.y (small1000 (by simp; omega)) (fun j => [some (.int (0 + (j : Int)))]) (fun _ => rfl) (fun j => decide (0 < left.getD j 0) && readyL ls hs (0 + (j : Int))) (fun j v _ => v = .int (0 + (j : Int))) (fun _ _ _ _ _ z => z) (fun j a' H' v H3 Kg hi sm y ha' k => ?_) (fun j H' Kc hi sm k => ?_) (fun pp j H' Kc hi hci hp0 hp1 sm k => ?_) (fun so H5 zs hso s5 hso5 hR5 => ?_)
        · obtain ⟨rfl, rfl⟩ := y
          obtain ⟨x1, rfl⟩ : ∃ x1, a' = [x1] := by
            match a', ha' with
            | [x1], _ => exact ⟨x1, rfl⟩
          walk_at "rds"
          exact k _ (Same.refl _)
        · have hj : j < cs.length := by simp at hi; omega
          have at1 := at_ints28 (ns := left) (k := 0 + (j : Int)) (by omega) (by omega)
          have ej : (0 + (j : Int)).toNat = j := by omega
          rw [ej] at at1
          have hlq := sm.seq hl4q
          walk_at "rds"
          refine Rd.ifD (fun c => ?_) (fun c => ?_)
          · walk_at "rds"
            refine ⟨lp, d, _, bs, ls, hs, rfl, SqL.of (sm _ _ (s4 _ _ hlp)), hT.keep (fun b xs e => sm _ _ (s4 _ _ e)), SqL.of (sm _ _ hd4), hsl, by omega, fun H6 s6 => ?_⟩
            rw [decide_eq_true c, Bool.true_and] at k
            walk_at "rds"
            exact k H6 s6
          · walk_at "rds"
            rw [decide_eq_false c, Bool.false_and] at k
            exact k _ (Same.refl _)
        · walk_at "rds"
          exact k _ H' (Same.refl H') rfl
        · have hmz : ((cs.map V.int).length : Int).toNat = cs.length := by simp
          try rw [hmz] at hR5
          have ey5 := paired_ints hR5
          have hsof : ∀ w ∈ (List.range cs.length).filter (fun j => decide (0 < left.getD j 0) && readyL ls hs (0 + (j : Int))), w < cs.length ∧ 0 < left.getD w 0 ∧ readyL ls hs w = true := fun w hw => by
            obtain ⟨z1, z2⟩ := List.mem_filter.mp hw
            rw [Bool.and_eq_true, decide_eq_true_eq, Int.zero_add] at z2
            exact ⟨List.mem_range.mp z1, z2.1, z2.2⟩
          have hson : (List.range cs.length).filter (fun j => decide (0 < left.getD j 0) && readyL ls hs (0 + (j : Int))) = [] → ∀ w < cs.length, 0 < left.getD w 0 → readyL ls hs w = false := fun e w hw z => by
            have := List.filter_eq_nil_iff.mp e w (List.mem_range.mpr hw)
            rw [decide_eq_true z, Bool.true_and, Int.zero_add] at this
            simpa using this
          have hsoz : ((List.range cs.length).filter (fun j => decide (0 < left.getD j 0) && readyL ls hs (0 + (j : Int)))).length ≤ 10 := Nat.le_trans (List.length_filter_le _ _) (by simp; omega)
          generalize (List.range cs.length).filter (fun j => decide (0 < left.getD j 0) && readyL ls hs (0 + (j : Int))) = so' at *
          subst ey5
          have s05 := s4.trans s5
          have hd5 := s5 _ _ hd4
          have hl5 := s5 _ _ hl4
          have hr5 := s5 _ _ hr4
          have hsoq := SqL.of (K := K) hso5
          walk_at "rds"
          refine ⟨Nat.zero_le _, fun e he => ?_⟩
          have s6 : Same H5 (upd H5 e (.lst [])) := same_new he
          have v6 : (upd H5 e (.lst [])) e = some (.lst []) := upd_same
          generalize upd H5 e (.lst []) = H6 at *
          have hso6 := s6 _ _ hso5
          refine Rd.eqUD (DRel.ints (SqL.of hso6)) (.lst (SqL.of v6) .nil) (layL_ints _) rfl (depthL_ints _) ?_
          rw [eqv_nil_ints]
          by_cases c : so' = []
          · rw [decide_eq_true (by rw [c]; rfl)]
            walk_at "rds"
            refine q r H6 row hs hr0 (s05.trans s6) (s6 _ _ hr5) ⟨hgo, fun w hw => ?_, fun w hw z => ?_, by omega⟩
            · have := hlc w hw
              have := hln w hw
              omega
            · have := hlc w hw
              exact hson c w hw (by omega)
          · rw [decide_eq_false (by rw [List.map_eq_nil_iff]; exact c)]
            have hsl0 : 0 < so'.length := List.length_pos_iff.mpr c
            have hsoL : (((so'.map fun j : Nat => 0 + (j : Int)).map V.int).length : Int) = (so'.length : Int) := by simp
            have np : 0 < (((so'.map fun j : Nat => 0 + (j : Int)).map V.int).length : Int) := by omega
            have hkp6 := (s05.trans s6).seq hkp
            have hso6q := SqL.of (K := K) hso6
            walk_at "rds"
            have i0 := Int.emod_nonneg (cellX ns (0 + (i : Int)) * 48271 % 2147483647 / 5) (show (((so'.map fun j : Nat => 0 + (j : Int)).map V.int).length : Int) ≠ 0 by omega)
            have i1 := Int.emod_lt_of_pos (cellX ns (0 + (i : Int)) * 48271 % 2147483647 / 5) np
            generalize cellX ns (0 + (i : Int)) * 48271 % 2147483647 / 5 % (((so'.map fun j : Nat => 0 + (j : Int)).map V.int).length : Int) = ix at *
            obtain ⟨kx, rfl⟩ := Int.eq_ofNat_of_zero_le i0
            have hkx : kx < so'.length := by omega
            have atx : atI ((so'.map fun j : Nat => 0 + (j : Int)).map V.int) (kx : Int) = some (.int (so'[kx] : Nat)) := atI_nat (by simp [hkx])
            obtain ⟨hw, hwl, hwr⟩ := hsof so'[kx] (List.getElem_mem hkx)
            refine Rd.ixuL hso6q atx ?_
            generalize so'[kx] = wk at *
            have s06 := s05.trans s6
            have hd6 := s6 _ _ hd5
            have nld : lp ≠ d := ne_of_none hlp hd
            walk_at "rds"
            refine ⟨lp, d, wk, bs, ls, hs, rfl, s06 _ _ hlp, nld, hT.keep (fun b xs e => s06 _ _ e), hd6, hsl, by omega, fun H7 f7 hd7 => ?_⟩
            have hl7 := f7.keep _ _ (s6 _ _ hl5) (by simpa using Ne.symm ndl)
            have hr7 := f7.keep _ _ (s6 _ _ hr5) (by simpa using nrd)
            have s07 : Same H H7 := fun b o e => f7.keep _ _ (s06 _ _ e) (by
              rw [List.mem_singleton]
              intro z
              rw [z, hd] at e; cases e)
            have at7 := at_ints28 (ns := left) (k := (wk : Int)) (by omega) (by omega)
            rw [show ((wk : Int)).toNat = wk from rfl] at at7
            have hl7q := SqL.of (K := K) hl7
            have hlz : (wk : Int) < ((left.map V.int).length : Int) := by rw [List.length_map]; omega
            have hrz : (row.map V.int).length < sizeLine := small20000 (by rw [List.length_map]; omega)
            walk_at "rds"
            have hr8 : (upd H7 l (.lst ((left.map V.int).set ((wk : Int)).toNat (.int (left.getD wk 0 - 1))))) r = some (.lst (row.map V.int)) := by rw [upd_ne nrl]; exact hr7
            have hl8 : (upd H7 l (.lst ((left.map V.int).set ((wk : Int)).toNat (.int (left.getD wk 0 - 1))))) l = some (.lst ((left.set wk (left.getD wk 0 - 1)).map V.int)) := by rw [upd_same, List.map_set]; rfl
            have hd8 : (upd H7 l (.lst ((left.map V.int).set ((wk : Int)).toNat (.int (left.getD wk 0 - 1))))) d = some (.lst ((shiftL ls hs wk).map V.int)) := by rw [upd_ne ndl]; exact hd7
            have s08 : Same H (upd H7 l (.lst ((left.map V.int).set ((wk : Int)).toNat (.int (left.getD wk 0 - 1))))) := s07.new hl0
            try change tDrop _ _ _ (upd H7 l (.lst ((left.map V.int).set ((wk : Int)).toNat (.int (left.getD wk 0 - 1)))))
            generalize upd H7 l (.lst ((left.map V.int).set ((wk : Int)).toNat (.int (left.getD wk 0 - 1)))) = H8 at *
            walk_at "rds"
            have hgo' : goR cs.length ls (startsL ls) (row ++ [(wk : Int)]) = .ok (shiftL ls hs wk) := by
              rw [goR_append hgo]
              show (match turnR cs.length ls hs wk with | .ok hs' => goR cs.length ls hs' [] | .error e => .error e) = _
              unfold turnR
              rw [if_pos (by omega), if_pos hwr]
              rfl
            have hct : ∀ w : Nat, ((row ++ [(wk : Int)]).count (w : Int) : Int) = (row.count (w : Int) : Int) + (if w = wk then 1 else 0) := fun w => by
              rw [List.count_append]
              by_cases e : w = wk
              · subst e; simp
              · rw [if_neg e, List.count_singleton, if_neg (by simp; omega)]; simp
            refine ⟨row ++ [(wk : Int)], shiftL ls hs wk, left.set wk (left.getD wk 0 - 1), _, _, _, rfl, s08.new hr0, by rw [upd_ne nrd.symm]; exact hd8, by rw [upd_ne nrl.symm]; exact hl8, by rw [upd_same, List.map_append]; rfl, by simp [hrl], hgo', by rw [List.length_set]; exact hlf, fun w hw' => ?_, fun w hw' => ?_, ?_⟩
            · rw [hct w]
              have e0 := hlc w hw'
              by_cases e : w = wk
              · subst e
                rw [if_pos rfl, List.getD_eq_getElem?_getD, List.getElem?_set_self (by omega)]
                simp only [Option.getD_some]
                omega
              · rw [if_neg e, List.getD_eq_getElem?_getD, List.getElem?_set_ne (Ne.symm e), ← List.getD_eq_getElem?_getD]
                omega
            · have e0 := hln w hw'
              by_cases e : w = wk
              · subst e
                rw [List.getD_eq_getElem?_getD, List.getElem?_set_self (by omega)]
                simp only [Option.getD_some]
                omega
              · rw [List.getD_eq_getElem?_getD, List.getElem?_set_ne (Ne.symm e), ← List.getD_eq_getElem?_getD]
                exact e0
            · rw [sum_set (by omega)]
              omega
      · rintro σ H4 ⟨row, hs, left, a6, a7, a8, rfl, s4, hd4, hl4, hr4, hrl, hgo, hlf, hlc, hln, hsm⟩
        walk_at "rds"
        refine q r H4 row hs hr0 s4 hr4 ⟨hgo, fun w hw => ?_, fun w hw z => ?_, by omega⟩
        · have := hlc w hw
          have := hln w hw
          omega
        · have h0 := sum_zero (l := left) (fun i hi => hln i (by omega)) (by omega) w (by omega)
          have := hlc w hw
          omega
end
def sp_is_name {K : PySem.W.Frag} {mg : Str → Option Value} (T : Tp K mg) : Sp := fun vs H Q _ => ∃ x : Str, vs = [.str x] ∧ x.length ≤ sizeLine ∧ ∀ H', Same H H' → Q (.bl (isName x)) H'
def letter (c : Nat) : Bool := decide (97 ≤ c) && decide (c ≤ 122)
theorem letter_lt (c d : Nat) : decide ((⟨#[c]⟩ : Str).cps.toList < (⟨#[d]⟩ : Str).cps.toList) = decide (c < d) := by
  show decide ([c] < [d]) = decide (c < d)
  have e : ([c] < [d]) ↔ c < d := by
    constructor
    · intro h
      cases h with
      | rel h => exact h
      | cons h => cases h
    · exact fun h => .rel h
  by_cases h : c < d
  · rw [decide_eq_true h, decide_eq_true (e.mpr h)]
  · rw [decide_eq_false h, decide_eq_false (fun z => h (e.mp z))]
theorem str_a : ("a" : Str) = ⟨#[97]⟩ := by decide +kernel
theorem str_z : ("z" : Str) = ⟨#[122]⟩ := by decide +kernel
theorem letters_eq (x : Str) : (((List.range x.cps.size).map fun i => letter (x.cps.getD i 0)).all id) = x.cps.toList.all letter := by
  rw [List.all_map, Bool.eq_iff_iff, List.all_eq_true, List.all_eq_true]
  constructor
  · intro h c hc
    obtain ⟨i, hi, rfl⟩ := List.getElem_of_mem hc
    have hi' : i < x.cps.size := by simpa using hi
    have := h i (List.mem_range.mpr hi')
    simpa [Array.getD, hi'] using this
  · intro h i hi
    have hi' := List.mem_range.mp hi
    have := h x.cps[i] (by simp)
    simpa [Array.getD, hi'] using this
theorem isName_eq (x : Str) : isName x = (decide (1 ≤ x.length) && decide (x.length ≤ 8) && x.cps.toList.all letter) := rfl
section
variable {P : Program} {w : World} {K : PySem.W.Frag} {mg : Str → Option Value} {base : Heap}
theorem ok_is_name (T : Tp K mg) : FnOk P w K mg base (CXX P w) 1 T.f_is_name T.d_is_name ["thing"] (sp_is_name T) := by
  refine T.F_is_name.okX sc_is_name (fun vs H Q E h => ?_) (fun cdv A outer s H vs Q E hr h => ?_)
  · obtain ⟨x, rfl, _⟩ := h
    rfl
  · have hu := hr.units
    obtain ⟨x, rfl, hx, q⟩ := h
    refine ⟨_, (pss_cons (ps_if (pt_not (pt_truK (K := K) rfl (pe_callB (isi_K (K := K) rfl) (by rfl) T.n_isinstance PyProof.Rows.boot_isinstance (pa_cons (pv 0) (pa_cons (pe_bltn (v := .ty "str") (by rfl) T.n_str PyProof.Rows.boot_str rfl) pa_nil))) (fun _ => rfl))) (pss_one (ps_ret pe_bl)) pss_nil)
          (pss_cons (ps_if (PW.pt (pw_or (pt_cmpR op_lt (pe_callB (len_K (K := K) rfl) (by rfl) T.n_len PySem.boot_len (pa_cons (pv 0) pa_nil)) pe_int (nomark _)) (pw_or1 (pt_cmpR op_gt (pe_callB (len_K (K := K) rfl) (by rfl) T.n_len PySem.boot_len (pa_cons (pv 0) pa_nil)) (pe_glob (v := .int 8) rfl T.c_MOST_LETTERS ⟨_, rfl⟩) (nomark _))))) (pss_one (ps_ret pe_bl)) pss_nil)
          (pss_one (ps_ret (pe_callB (all_K (K := K) rfl rfl) (by rfl) T.n_all PyProof.Rows.boot_all (pa_cons (pe_comp rfl (cscope (x := "sign") (zs := []) (ix := []) (defScope s_is_name) ["thing"] rfl rfl (by decide +kernel)) (pi_str (pv 0)) (fun cl C s H fp => ⟨(pg_name (i := 0) (show (["sign"] : List Str).Nodup by decide +kernel) rfl (Or.inl rfl)), pif_nil, (pe_chain op_le_str op_le_str pe_str (pv 0) pe_str)⟩)) pa_nil)))))), ?_⟩
    try dsimp only [L2.cxX, L2.cxOf, L2.cxComp]
    walk_at "rds"
    refine ite2 (fun c => ?_) (fun c => ?_)
    · have c' : ¬ 1 ≤ x.length := by simp at c; omega
      walk_at "rds"
      have e : isName x = false := by rw [isName_eq, decide_eq_false c']; rfl
      rw [← e]
      exact q H (Same.refl H)
    · have c' : 1 ≤ x.length := by simp at c; omega
      walk_at "rds"
      refine ite2 (fun d => ?_) (fun d => ?_)
      · have d' : ¬ x.length ≤ 8 := by simp at d; omega
        walk_at "rds"
        have e : isName x = false := by rw [isName_eq, decide_eq_false d', Bool.and_false]; rfl
        rw [← e]
        exact q H (Same.refl H)
      · have d' : x.length ≤ 8 := by simp at d; omega
        have hn : x.cps.size < sizeLine := small1000 (by have : x.cps.size = x.length := rfl; omega)
        walk_at "rds"
        refine comp_walk walks_str hn (fun _ => true) (fun i => .bl (letter (x.cps.getD i 0))) (fun i H' Kc hi sm k => ?_) (fun i H' Kc hi _ sm k => ?_) (fun p H' hp sm hl => ?_)
        · walk_at "rds"
          exact k H' (Same.refl H')
        · walk_at "rds"
          rw [str_a, str_z, letter_lt]
          generalize x.cps.getD i 0 = cc at k ⊢
          refine ite2 (fun z => ?_) (fun z => ?_)
          · walk_at "rds"
            have e : (!decide (122 < cc)) = letter cc := by
              have z' : 97 ≤ cc := by simpa using z
              unfold letter
              rw [decide_eq_true z', Bool.true_and]
              by_cases y : cc ≤ 122
              · rw [decide_eq_true y, decide_eq_false (by omega)]; rfl
              · rw [decide_eq_false y, decide_eq_true (by omega)]; rfl
            rw [letter_lt, e]
            exact k H' (Same.refl H')
          · have e : false = letter cc := by
              have z' : ¬ 97 ≤ cc := by simpa using z
              unfold letter
              rw [decide_eq_false z']; rfl
            rw [e]
            exact k H' (Same.refl H')
        · have hl' : H' p = some (.lst (((List.range x.cps.size).map fun i => letter (x.cps.getD i 0)).map V.bl)) := by
            rw [hl, List.filter_eq_self.mpr (by simp), List.map_map]; rfl
          walk_at "rds"
          rw [letters_eq]
          have e : x.cps.toList.all letter = isName x := by rw [isName_eq, decide_eq_true c', decide_eq_true d']; rfl
          rw [e]
          exact q H' sm
end
def sp_Hall_work {K : PySem.W.Frag} {mg : Str → Option Value} (T : Tp K mg) : Sp := fun vs H Q E => ∃ (p : Addr) (x : Str) (hl : HM) (fp : List Addr), vs = [.ref p, .str x] ∧ HallAt T H p hl fp ∧ x.length ≤ sizeLine ∧ hl.names.length ≤ 1000 ∧
  (isName x = false → ∀ H', Same H H' → E (.ref T.X_NoName) none H') ∧ (isName x = true → x ∈ hl.names → ∀ H', Same H H' → E (.ref T.X_Twice) none H') ∧
  (isName x = true → x ∉ hl.names → 30 ≤ hl.names.length → ∀ H', Same H H' → E (.ref T.X_TooMuch) none H') ∧
  (isName x = true → x ∉ hl.names → hl.names.length < 30 → ∀ (H' : Hp) (fp' : List Addr), HallAt T H' p ⟨hl.names ++ [x], hl.belts⟩ fp' → Frame fp H H' → Grows fp fp' H → Q (.int hl.names.length) H')
theorem rd_Hall_work {K : PySem.W.Frag} {mg : Str → Option Value} {T : Tp K mg} {H : Hp} {Q : VK} {E : XK} {p : Addr} {x : Str} {hl : HM} {fp : List Addr} (h : HallAt T H p hl fp) (hn : isName x = true) (hx : x ∉ hl.names) (hlen : hl.names.length < 30)
    (q : ∀ (H' : Hp) (fp' : List Addr), HallAt T H' p ⟨hl.names ++ [x], hl.belts⟩ fp' → Frame fp H H' → Grows fp fp' H → Q (.int hl.names.length) H') : sp_Hall_work T (.ref p :: ([.str x] ++ [])) H Q E := by
  have l8 : x.length ≤ sizeLine := by
    have : x.length ≤ 8 := by
      have e := hn
      unfold isName at e
      simp only [Bool.and_eq_true, decide_eq_true_eq] at e
      exact e.1.2
    exact Nat.le_of_lt (small1000 (by omega))
  exact ⟨p, x, hl, fp, rfl, h, l8, by omega, fun z => (by rw [hn] at z; cases z), fun _ z => absurd z hx, fun _ _ z => absurd z (by omega), fun _ _ _ => q⟩
section
variable {P : Program} {w : World} {K : PySem.W.Frag} {mg : Str → Option Value} {base : Heap}
theorem ok_Hall_work (T : Tp K mg) : FnOk P w K mg base (CXX P w) 2 T.f_Hall_work T.d_Hall_work ["self", "name"] (sp_Hall_work T) := by
  have G_is_name : FnOk P w K mg base (CXX P w) 1 T.f_is_name T.d_is_name ["thing"] (sp_is_name T) := (ok_is_name T).mono (by decide)
  have cl_Hall := T.cl_Hall
  have na_Hall := T.na_Hall
  refine T.F_Hall_work.okX sc_Hall_work (fun vs H Q E h => ?_) (fun cdv A outer s H vs Q E hr h => ?_)
  · obtain ⟨p, x, hl, fp, rfl, _⟩ := h
    rfl
  · have hu := hr.units
    obtain ⟨p, x, hl, fp, rfl, hh, hx, hz, e1, e2, e3, q⟩ := h
    obtain ⟨dx, a, b, bs, rfl, h1, h2, h3, h4, nab, h6⟩ := id hh
    have npa : p ≠ a := ne_of h1 h3 (by intro z; cases z)
    have nda : dx ≠ a := ne_of h2 h3 (by intro z; cases z)
    refine ⟨_, (pss_cons (ps_if (pt_not (pt_truK (K := K) rfl (pe_call G_is_name hr rfl T.m_is_name T.F_is_name.kp T.b_is_name .nil pass_on (pa_cons (pv 1) pa_nil)) (fun _ => rfl))) (pss_one (ps_raiseK T.gx_NoName T.ex_NoName PySem.F.excBase_ValueError rfl (pa_cons pe_str pa_nil))) pss_nil)
          (pss_cons (ps_if (pt_cmpR (op_dIn hu) (pv 1) (pe_fldK (K := K) rfl (pv 0) rfl) (by with_unfolding_all rfl)) (pss_one (ps_raiseK T.gx_Twice T.ex_Twice PySem.F.excBase_ValueError rfl (pa_cons pe_str pa_nil))) pss_nil)
          (pss_cons (ps_if (pt_cmpR op_ge (pe_callB len_D (by rfl) T.n_len PySem.boot_len (pa_cons (pe_fldK (K := K) rfl (pv 0) rfl) pa_nil)) (pe_glob (v := .int 30) rfl T.c_MOST_WORKS ⟨_, rfl⟩) (nomark _)) (pss_one (ps_raiseK T.gx_TooMuch T.ex_TooMuch PySem.F.excBase_ValueError rfl (pa_cons pe_str pa_nil))) pss_nil)
          (pss_cons (ps_set (i := 2) sc_Hall_work.nd rfl (Or.inl rfl) (pe_callB len_D (by rfl) T.n_len PySem.boot_len (pa_cons (pe_fldK (K := K) rfl (pv 0) rfl) pa_nil)))
          (pss_cons (ps_asg (pv 2) (pg_sub (pe_fldK (K := K) rfl (pv 0) rfl) (pv 1) (set_dict hu)))
          (pss_one (ps_ret (pv 2)))))))), ?_⟩
    try dsimp only [L2.cxX, L2.cxOf, L2.cxComp]
    walk_at "rds"
    refine ⟨x, rfl, hx, fun H1 sm1 => ?_⟩
    have g1 := sm1 _ _ h1
    have g3 := sm1 _ _ h3
    have hz' : (numsOf hl.names).length < sizeLine := small1000 (by rw [numsOf_len]; exact hz)
    walk_at "rds"
    cases hn : isName x with
    | false =>
      walk_at "rds"
      exact e1 hn H1 sm1
    | true =>
      walk_at "rds"
      rw [numsOf_in]
      refine ite2 (fun c => ?_) (fun c => ?_)
      · walk_at "rds"
        exact e2 hn (of_decide_eq_true c) H1 sm1
      · have c' : x ∉ hl.names := fun z => c (decide_eq_true z)
        walk_at "rds"
        rw [numsOf_len]
        refine ite2 (fun d => ?_) (fun d => ?_)
        · have d' : 30 ≤ hl.names.length := by simp at d; omega
          walk_at "rds"
          exact e3 hn c' d' H1 sm1
        · have d' : hl.names.length < 30 := by simp at d; omega
          walk_at "rds"
          rw [numsOf_len, numsOf_put c']
          have fr : Frame [p, dx, a, b] H (upd H1 a (.dK (numsOf (hl.names ++ [x])))) := sm1.frame.trans (frame_upd (by simp) g3 (by intro _ z; cases z))
          refine q hn c' d' _ [p, dx, a, b] ⟨dx, a, b, bs, rfl, ?_, ?_, upd_same, ?_, nab, h6.keep fr.tups⟩ fr Grows.refl
          · rw [upd_ne npa]; exact g1
          · rw [upd_ne nda]; exact sm1 _ _ h2
          · rw [upd_ne nab.symm]; exact sm1 _ _ h4
end
def sp_is_whole {K : PySem.W.Frag} {mg : Str → Option Value} (T : Tp K mg) : Sp := fun vs H Q _ => ∃ i : Int, vs = [.int i] ∧ Q (.bl true) H
theorem rd_is_whole {K : PySem.W.Frag} {mg : Str → Option Value} {T : Tp K mg} {H : Hp} {Q : VK} {E : XK} {i : Int} (q : Q (.bl true) H) : sp_is_whole T ([.int i] ++ []) H Q E := ⟨i, rfl, q⟩
local macro_rules | `(tactic| walk_at "rd") => `(tactic| first | with_reducible refine Nm.rd_is_whole ?_ | fail "none here")
section
variable {P : Program} {w : World} {K : PySem.W.Frag} {mg : Str → Option Value} {base : Heap}
theorem ok_is_whole (T : Tp K mg) : FnOk P w K mg base (CXX P w) 1 T.f_is_whole T.d_is_whole ["thing"] (sp_is_whole T) := by
  refine T.F_is_whole.okX sc_is_whole (fun vs H Q E h => ?_) (fun cdv A outer s H vs Q E hr h => ?_)
  · obtain ⟨i, rfl, _⟩ := h
    rfl
  · have hu := hr.units
    obtain ⟨i, rfl, q⟩ := h
    refine ⟨_, (pss_one (ps_ret (pe_and (pe_callB (isi_K (K := K) rfl) (by rfl) T.n_isinstance PyProof.Rows.boot_isinstance (pa_cons (pv 0) (pa_cons (pe_bltn (v := .ty "int") (by rfl) T.n_int PyProof.Rows.boot_int rfl) pa_nil))) (pe_one (pe_not (pe_callB (isi_K (K := K) rfl) (by rfl) T.n_isinstance PyProof.Rows.boot_isinstance (pa_cons (pv 0) (pa_cons (pe_bltn (v := .ty "bool") (by rfl) T.n_bool PyProof.Rows.boot_bool rfl) pa_nil)))))))), ?_⟩
    try dsimp only [L2.cxX, L2.cxOf, L2.cxComp]
    walk_at "rds"
    exact q
end
def sp_is_from {K : PySem.W.Frag} {mg : Str → Option Value} (T : Tp K mg) : Sp := fun vs H Q _ => ∃ i l : Int, vs = [.int i, .int l] ∧ Q (.bl (decide (l ≤ i))) H
theorem rd_is_from {K : PySem.W.Frag} {mg : Str → Option Value} {T : Tp K mg} {H : Hp} {Q : VK} {E : XK} {i l : Int} (q : Q (.bl (decide (l ≤ i))) H) : sp_is_from T ([.int i, .int l] ++ []) H Q E := ⟨i, l, rfl, q⟩
local macro_rules | `(tactic| walk_at "rd") => `(tactic| first | with_reducible refine Nm.rd_is_from ?_ | fail "none here")
section
variable {P : Program} {w : World} {K : PySem.W.Frag} {mg : Str → Option Value} {base : Heap}
theorem ok_is_from (T : Tp K mg) : FnOk P w K mg base (CXX P w) 2 T.f_is_from T.d_is_from ["thing", "least"] (sp_is_from T) := by
  have G_is_whole : FnOk P w K mg base (CXX P w) 1 T.f_is_whole T.d_is_whole ["thing"] (sp_is_whole T) := (ok_is_whole T).mono (by decide)
  refine T.F_is_from.okX sc_is_from (fun vs H Q E h => ?_) (fun cdv A outer s H vs Q E hr h => ?_)
  · obtain ⟨i, l, rfl, _⟩ := h
    rfl
  · have hu := hr.units
    obtain ⟨i, l, rfl, q⟩ := h
    refine ⟨_, (pss_one (ps_ret (pe_and (pe_call G_is_whole hr rfl T.m_is_whole T.F_is_whole.kp T.b_is_whole .nil pass_on (pa_cons (pv 0) pa_nil)) (pe_one (pe_cmpR op_ge (pv 0) (pv 1) (nomark _)))))), ?_⟩
    try dsimp only [L2.cxX, L2.cxOf, L2.cxComp]
    walk_at "rds"
    exact q
end
def sp_need_start {K : PySem.W.Frag} {mg : Str → Option Value} (T : Tp K mg) : Sp := fun vs H Q E => ∃ i : Int, vs = [.int i] ∧ (¬ 0 ≤ i → E (.ref T.X_NoRate) none H) ∧ (0 ≤ i → Q .non H)
section
variable {P : Program} {w : World} {K : PySem.W.Frag} {mg : Str → Option Value} {base : Heap}
theorem ok_need_start (T : Tp K mg) : FnOk P w K mg base (CXX P w) 3 T.f_need_start T.d_need_start ["start"] (sp_need_start T) := by
  have G_is_from : FnOk P w K mg base (CXX P w) 2 T.f_is_from T.d_is_from ["thing", "least"] (sp_is_from T) := (ok_is_from T).mono (by decide)
  refine T.F_need_start.okX sc_need_start (fun vs H Q E h => ?_) (fun cdv A outer s H vs Q E hr h => ?_)
  · obtain ⟨i, rfl, _⟩ := h
    rfl
  · have hu := hr.units
    obtain ⟨i, rfl, e1, q⟩ := h
    refine ⟨_, (pss_one (ps_if (pt_not (pt_truK (K := K) rfl (pe_call G_is_from hr rfl T.m_is_from T.F_is_from.kp T.b_is_from .nil pass_on (pa_cons (pv 0) (pa_cons pe_int pa_nil))) (fun _ => rfl))) (pss_one (ps_raiseK T.gx_NoRate T.ex_NoRate PySem.F.excBase_ValueError rfl (pa_cons pe_str pa_nil))) pss_nil)), ?_⟩
    try dsimp only [L2.cxX, L2.cxOf, L2.cxComp]
    walk_at "rds"
    by_cases c : 0 ≤ i
    · rw [decide_eq_true c]
      walk_at "rds"
      exact q c
    · rw [decide_eq_false c]
      walk_at "rds"
      exact e1 c
end
def sp_is_number_below {K : PySem.W.Frag} {mg : Str → Option Value} (T : Tp K mg) : Sp := fun vs H Q _ => ∃ i b : Int, vs = [.int i, .int b] ∧ Q (.bl (decide (0 ≤ i ∧ i < b))) H
theorem rd_is_number_below {K : PySem.W.Frag} {mg : Str → Option Value} {T : Tp K mg} {H : Hp} {Q : VK} {E : XK} {i b : Int} (q : Q (.bl (decide (0 ≤ i ∧ i < b))) H) : sp_is_number_below T ([.int i, .int b] ++ []) H Q E := ⟨i, b, rfl, q⟩
local macro_rules | `(tactic| walk_at "rd") => `(tactic| first | with_reducible refine Nm.rd_is_number_below ?_ | fail "none here")
section
variable {P : Program} {w : World} {K : PySem.W.Frag} {mg : Str → Option Value} {base : Heap}
theorem ok_is_number_below (T : Tp K mg) : FnOk P w K mg base (CXX P w) 3 T.f_is_number_below T.d_is_number_below ["thing", "bound"] (sp_is_number_below T) := by
  have G_is_from : FnOk P w K mg base (CXX P w) 2 T.f_is_from T.d_is_from ["thing", "least"] (sp_is_from T) := (ok_is_from T).mono (by decide)
  refine T.F_is_number_below.okX sc_is_number_below (fun vs H Q E h => ?_) (fun cdv A outer s H vs Q E hr h => ?_)
  · obtain ⟨i, b, rfl, _⟩ := h
    rfl
  · have hu := hr.units
    obtain ⟨i, b, rfl, q⟩ := h
    refine ⟨_, (pss_one (ps_ret (pe_and (pe_call G_is_from hr rfl T.m_is_from T.F_is_from.kp T.b_is_from .nil pass_on (pa_cons (pv 0) (pa_cons pe_int pa_nil))) (pe_one (pe_cmpR op_lt (pv 0) (pv 1) (nomark _)))))), ?_⟩
    try dsimp only [L2.cxX, L2.cxOf, L2.cxComp]
    walk_at "rds"
    refine ite2 (fun c => ?_) (fun c => ?_)
    · have c' : 0 ≤ i := of_decide_eq_true c
      walk_at "rds"
      have e : decide (i < b) = decide (0 ≤ i ∧ i < b) := by rw [decide_eq_decide]; exact ⟨fun z => ⟨c', z⟩, fun z => z.2⟩
      rw [e]
      exact q
    · have c' : ¬ 0 ≤ i := fun z => c (decide_eq_true z)
      walk_at "rds"
      have e : false = decide (0 ≤ i ∧ i < b) := (decide_eq_false (fun z => c' z.1)).symm
      rw [e]
      exact q
end
def sp_Hall_need_work {K : PySem.W.Frag} {mg : Str → Option Value} (T : Tp K mg) : Sp := fun vs H Q E => ∃ (p : Addr) (i : Int) (hl : HM) (fp : List Addr), vs = [.ref p, .int i] ∧ HallAt T H p hl fp ∧
  (¬ (0 ≤ i ∧ i < hl.names.length) → E (.ref T.X_NoWork) none H) ∧ (0 ≤ i → i < hl.names.length → Q .non H)
section
variable {P : Program} {w : World} {K : PySem.W.Frag} {mg : Str → Option Value} {base : Heap}
theorem ok_Hall_need_work (T : Tp K mg) : FnOk P w K mg base (CXX P w) 4 T.f_Hall_need_work T.d_Hall_need_work ["self", "work"] (sp_Hall_need_work T) := by
  have G_is_number_below : FnOk P w K mg base (CXX P w) 3 T.f_is_number_below T.d_is_number_below ["thing", "bound"] (sp_is_number_below T) := (ok_is_number_below T).mono (by decide)
  have cl_Hall := T.cl_Hall
  have na_Hall := T.na_Hall
  refine T.F_Hall_need_work.okX sc_Hall_need_work (fun vs H Q E h => ?_) (fun cdv A outer s H vs Q E hr h => ?_)
  · obtain ⟨p, i, hl, fp, rfl, _⟩ := h
    rfl
  · have hu := hr.units
    obtain ⟨p, i, hl, fp, rfl, hh, e1, q⟩ := h
    obtain ⟨dx, a, b, bs, rfl, h1, h2, h3, h4, nab, h6⟩ := id hh
    refine ⟨_, (pss_one (ps_if (pt_not (pt_truK (K := K) rfl (pe_call G_is_number_below hr rfl T.m_is_number_below T.F_is_number_below.kp T.b_is_number_below .nil pass_on (pa_cons (pv 1) (pa_cons (pe_callB len_D (by rfl) T.n_len PySem.boot_len (pa_cons (pe_fldK (K := K) rfl (pv 0) rfl) pa_nil)) pa_nil))) (fun _ => rfl))) (pss_one (ps_raiseK T.gx_NoWork T.ex_NoWork PySem.F.excBase_ValueError rfl (pa_cons pe_str pa_nil))) pss_nil)), ?_⟩
    try dsimp only [L2.cxX, L2.cxOf, L2.cxComp]
    walk_at "rds"
    rw [numsOf_len]
    by_cases c : 0 ≤ i ∧ i < hl.names.length
    · rw [decide_eq_true c]
      walk_at "rds"
      exact q c.1 c.2
    · rw [decide_eq_false c]
      walk_at "rds"
      exact e1 c
end
def sp_Hall_lay {K : PySem.W.Frag} {mg : Str → Option Value} (T : Tp K mg) : Sp := fun vs H Q E => ∃ (p u : Addr) (b : B5) (hl : HM) (fp : List Addr), vs = [.ref p, .ref u] ∧ HallAt T H p hl fp ∧ H u = some (.tup b.v) ∧ hl.belts.length ≤ 1000 ∧
  ∀ (H' : Hp) (fp' : List Addr), HallAt T H' p ⟨hl.names, hl.belts ++ [b]⟩ fp' → Frame fp H H' → Grows fp fp' H → Q (.int hl.belts.length) H'
section
variable {P : Program} {w : World} {K : PySem.W.Frag} {mg : Str → Option Value} {base : Heap}
theorem ok_Hall_lay (T : Tp K mg) : FnOk P w K mg base (CXX P w) 1 T.f_Hall_lay T.d_Hall_lay ["self", "row"] (sp_Hall_lay T) := by
  have cl_Hall := T.cl_Hall
  have na_Hall := T.na_Hall
  refine T.F_Hall_lay.okX sc_Hall_lay (fun vs H Q E h => ?_) (fun cdv A outer s H vs Q E hr h => ?_)
  · obtain ⟨p, u, b, hl, fp, rfl, _⟩ := h
    rfl
  · have hu := hr.units
    obtain ⟨p, u, b, hl, fp, rfl, hh, hu', hz, q⟩ := h
    obtain ⟨dx, a, bb, bs, rfl, h1, h2, h3, h4, nab, h6⟩ := id hh
    have npb : p ≠ bb := ne_of h1 h4 (by intro z; cases z)
    have ndb : dx ≠ bb := ne_of h2 h4 (by intro z; cases z)
    have nub : u ≠ bb := ne_of hu' h4 (by intro z; cases z)
    have hz' : bs.length < sizeLine := small1000 (by rw [h6.length]; exact hz)
    have hlb := h6.length
    refine ⟨_, (pss_cons (ps_expr (pe_bmK (K := K) rfl PySem.F.plainAttrs_list PySem.F.slot_list_append PySem.F.type_list_append mt_append (pe_fldK (K := K) rfl (pv 0) rfl) (pa_cons (pv 1) pa_nil)))
          (pss_one (ps_ret (pe_op op_sub (pe_callB (len_K (K := K) rfl) (by rfl) T.n_len PySem.boot_len (pa_cons (pe_fldK (K := K) rfl (pv 0) rfl) pa_nil)) pe_int)))), ?_⟩
    try dsimp only [L2.cxX, L2.cxOf, L2.cxComp]
    walk_at "rds"
    have k1 : (upd H bb (.lst (bs ++ [.ref u]))) p = some (.ins T.C_Hall dx [("numbers", .ref a), ("rows", .ref bb)]) := by rw [upd_ne npb]; exact h1
    have k4 : (upd H bb (.lst (bs ++ [.ref u]))) bb = some (.lst (bs ++ [.ref u])) := upd_same
    walk_at "rds"
    have el : ((bs ++ [V.ref u]).length : Int) - 1 = hl.belts.length := by simp [hlb]
    rw [el]
    have fr : Frame [p, dx, a, bb] H (upd H bb (.lst (bs ++ [.ref u]))) := frame_upd (by simp) h4 (by intro _ z; cases z)
    refine q _ [p, dx, a, bb] ⟨dx, a, bb, _, rfl, k1, ?_, ?_, k4, nab, (h6.keep fr.tups).snoc (fr.tups _ _ hu')⟩ fr Grows.refl
    · rw [upd_ne ndb]; exact h2
    · rw [upd_ne nab]; exact h3
end
def sp_Hall_belt {K : PySem.W.Frag} {mg : Str → Option Value} (T : Tp K mg) : Sp := fun vs H Q E => ∃ (p : Addr) (b : B5) (hl : HM) (fp : List Addr), vs = .ref p :: b.v ∧ HallAt T H p hl fp ∧ hl.belts.length ≤ 1000 ∧
  (¬ (0 ≤ b.giver ∧ b.giver < hl.names.length ∧ 0 ≤ b.taker ∧ b.taker < hl.names.length) → ∀ H', Same H H' → E (.ref T.X_NoWork) none H') ∧
  ((0 ≤ b.giver ∧ b.giver < hl.names.length ∧ 0 ≤ b.taker ∧ b.taker < hl.names.length) → ¬ (1 ≤ b.give ∧ 1 ≤ b.take ∧ 0 ≤ b.start) → ∀ H', Same H H' → E (.ref T.X_NoRate) none H') ∧
  ((0 ≤ b.giver ∧ b.giver < hl.names.length ∧ 0 ≤ b.taker ∧ b.taker < hl.names.length) → (1 ≤ b.give ∧ 1 ≤ b.take ∧ 0 ≤ b.start) → 60 ≤ hl.belts.length → ∀ H', Same H H' → E (.ref T.X_TooMuch) none H') ∧
  ((0 ≤ b.giver ∧ b.giver < hl.names.length ∧ 0 ≤ b.taker ∧ b.taker < hl.names.length) → (1 ≤ b.give ∧ 1 ≤ b.take ∧ 0 ≤ b.start) → hl.belts.length < 60 → ∀ (H' : Hp) (fp' : List Addr), HallAt T H' p ⟨hl.names, hl.belts ++ [b]⟩ fp' → Frame fp H H' → Grows fp fp' H → Q (.int hl.belts.length) H')
theorem rd_Hall_belt {K : PySem.W.Frag} {mg : Str → Option Value} {T : Tp K mg} {H : Hp} {Q : VK} {E : XK} {p : Addr} {g t gv tk st : Int} {hl : HM} {fp : List Addr} (h : HallAt T H p hl fp)
    (h1 : 0 ≤ g) (h2 : g < hl.names.length) (h3 : 0 ≤ t) (h4 : t < hl.names.length) (h5 : 1 ≤ gv) (h6 : 1 ≤ tk) (h7 : 0 ≤ st) (hlen : hl.belts.length < 60)
    (q : ∀ (H' : Hp) (fp' : List Addr), HallAt T H' p ⟨hl.names, hl.belts ++ [⟨g, t, gv, tk, st⟩]⟩ fp' → Frame fp H H' → Grows fp fp' H → Q (.int hl.belts.length) H') : sp_Hall_belt T [.ref p, .int g, .int t, .int gv, .int tk, .int st] H Q E :=
  ⟨p, ⟨g, t, gv, tk, st⟩, hl, fp, rfl, h, by omega, fun z => absurd ⟨h1, h2, h3, h4⟩ z, fun _ z => absurd ⟨h5, h6, h7⟩ z, fun _ _ z => absurd z (by omega), fun _ _ _ => q⟩
section
variable {P : Program} {w : World} {K : PySem.W.Frag} {mg : Str → Option Value} {base : Heap}
theorem ok_Hall_belt (T : Tp K mg) : FnOk P w K mg base (CXX P w) 5 T.f_Hall_belt T.d_Hall_belt ["self", "giver", "taker", "give", "take", "start"] (sp_Hall_belt T) := by
  have G_need_start : FnOk P w K mg base (CXX P w) 4 T.f_need_start T.d_need_start ["start"] (sp_need_start T) := (ok_need_start T).mono (by decide)
  have G_is_from : FnOk P w K mg base (CXX P w) 4 T.f_is_from T.d_is_from ["thing", "least"] (sp_is_from T) := (ok_is_from T).mono (by decide)
  have G_Hall_need_work : FnOk P w K mg base (CXX P w) 4 T.f_Hall_need_work T.d_Hall_need_work ["self", "work"] (sp_Hall_need_work T) := (ok_Hall_need_work T).mono (by decide)
  have G_Hall_lay : FnOk P w K mg base (CXX P w) 4 T.f_Hall_lay T.d_Hall_lay ["self", "row"] (sp_Hall_lay T) := (ok_Hall_lay T).mono (by decide)
  have cl_Hall := T.cl_Hall
  have na_Hall := T.na_Hall
  refine T.F_Hall_belt.okX sc_Hall_belt (fun vs H Q E h => ?_) (fun cdv A outer s H vs Q E hr h => ?_)
  · obtain ⟨p, b, hl, fp, rfl, _⟩ := h
    rfl
  · have hu := hr.units
    obtain ⟨p, b, hl, fp, rfl, hh, hz, e1, e2, e3, q⟩ := h
    obtain ⟨dx, a, bb, bs, rfl, h1, h2, h3, h4, nab, h6⟩ := id hh
    obtain ⟨g, t, gv, tk, st⟩ := b
    have hlb := h6.length
    refine ⟨_, (pss_cons (ps_expr (pe_meth (pv 0) T.cl_Hall T.M_Hall_need_work G_Hall_need_work hr T.b_Hall_need_work .nil pass_on (pa_cons (pv 1) pa_nil)))
          (pss_cons (ps_expr (pe_meth (pv 0) T.cl_Hall T.M_Hall_need_work G_Hall_need_work hr T.b_Hall_need_work .nil pass_on (pa_cons (pv 2) pa_nil)))
          (pss_cons (ps_if (PW.pt (pw_or (pt_not (pt_truK (K := K) rfl (pe_call G_is_from hr rfl T.m_is_from T.F_is_from.kp T.b_is_from .nil pass_on (pa_cons (pv 3) (pa_cons pe_int pa_nil))) (fun _ => rfl))) (pw_or1 (pt_not (pt_truK (K := K) rfl (pe_call G_is_from hr rfl T.m_is_from T.F_is_from.kp T.b_is_from .nil pass_on (pa_cons (pv 4) (pa_cons pe_int pa_nil))) (fun _ => rfl)))))) (pss_one (ps_raiseK T.gx_NoRate T.ex_NoRate PySem.F.excBase_ValueError rfl (pa_cons pe_str pa_nil))) pss_nil)
          (pss_cons (ps_expr (pe_call G_need_start hr rfl T.m_need_start T.F_need_start.kp T.b_need_start .nil pass_on (pa_cons (pv 5) pa_nil)))
          (pss_cons (ps_if (pt_cmpR op_ge (pe_callB (len_K (K := K) rfl) (by rfl) T.n_len PySem.boot_len (pa_cons (pe_fldK (K := K) rfl (pv 0) rfl) pa_nil)) (pe_glob (v := .int 60) rfl T.c_MOST_BELTS ⟨_, rfl⟩) (nomark _)) (pss_one (ps_raiseK T.gx_TooMuch T.ex_TooMuch PySem.F.excBase_ValueError rfl (pa_cons pe_str pa_nil))) pss_nil)
          (pss_one (ps_ret (pe_meth (pv 0) T.cl_Hall T.M_Hall_lay G_Hall_lay hr T.b_Hall_lay .nil pass_on (pa_cons (pe_tup (pa_cons (pv 1) (pa_cons (pv 2) (pa_cons (pv 3) (pa_cons (pv 4) (pa_cons (pv 5) pa_nil)))))) pa_nil))))))))), ?_⟩
    try dsimp only [L2.cxX, L2.cxOf, L2.cxComp]
    dsimp only [B5.v] at *
    walk_at "rds"
    refine ⟨p, g, hl, _, rfl, hh, fun z => e1 (by omega) H (Same.refl H), fun g0 g1 => ?_⟩
    walk_at "rds"
    refine ⟨p, t, hl, _, rfl, hh, fun z => e1 (by omega) H (Same.refl H), fun t0 t1 => ?_⟩
    have ws : 0 ≤ g ∧ g < hl.names.length ∧ 0 ≤ t ∧ t < hl.names.length := ⟨g0, g1, t0, t1⟩
    walk_at "rds"
    by_cases c : 1 ≤ gv
    · rw [decide_eq_true c]
      walk_at "rds"
      by_cases d : 1 ≤ tk
      · rw [decide_eq_true d]
        walk_at "rds"
        refine ⟨st, rfl, fun z => e2 ws (by omega) H (Same.refl H), fun f => ?_⟩
        walk_at "rds"
        refine Rd.ifD (fun l => ?_) (fun l => ?_)
        · walk_at "rds"
          exact e3 ws (by omega) (by omega) H (Same.refl H)
        walk_at "rds"
        refine ⟨by show 5 ≤ sizeLine; decide, fun u hu' => ?_⟩
        have sn : Same H (upd H u (.tup [.int g, .int t, .int gv, .int tk, .int st])) := same_new hu'
        have hh' := hh.same sn
        walk_at "rds"
        refine ⟨p, u, ⟨g, t, gv, tk, st⟩, hl, _, rfl, hh', upd_same, hz, fun H' fp' hh2 fr gr => ?_⟩
        refine q ws (by omega) (by omega) H' fp' hh2 (sn.frame.trans fr) (fun x hx => ?_)
        rcases gr x hx with z | z
        · exact .inl z
        · refine .inr ?_
          cases e : H x with
          | none => rfl
          | some o => rw [sn _ _ e] at z; cases z
      · rw [decide_eq_false d]
        walk_at "rds"
        exact e2 ws (by omega) H (Same.refl H)
    · rw [decide_eq_false c]
      walk_at "rds"
      exact e2 ws (by omega) H (Same.refl H)
end
def sp_Hall_init {K : PySem.W.Frag} {mg : Str → Option Value} (T : Tp K mg) : Sp := fun vs H Q _ => ∃ p dx : Addr, vs = [.ref p] ∧ H p = some (.ins T.C_Hall dx []) ∧ H dx = some (.own p) ∧
  ∀ (H' : Hp) (fp : List Addr), HallAt T H' p ⟨[], []⟩ fp → (∀ x ∈ fp, x = p ∨ x = dx ∨ H x = none) → (∀ b o, H b = some o → b ≠ p → H' b = some o) → Q .non H'
theorem rd_Hall_init {K : PySem.W.Frag} {mg : Str → Option Value} {T : Tp K mg} {H : Hp} {Q : Addr → Hp → Prop} {E : XK}
    (q : ∀ (p : Addr) (fp : List Addr) (H' : Hp), HallAt T H' p ⟨[], []⟩ fp → (∀ x ∈ fp, H x = none) → Same H H' → Q p H') :
    ∀ x dx, H x = none → H dx = none → dx ≠ x → sp_Hall_init T (.ref x :: ([] ++ [])) (upd (upd H dx (.own x)) x (.ins T.C_Hall dx [])) (fun v H2 => v = .non ∧ Q x H2) E := by
  intro x dx hx hdx ne
  refine ⟨x, dx, rfl, upd_same, by rw [upd_ne ne, upd_same], fun H' fp hh hf hk => ⟨rfl, q x fp H' hh (fun y hy => ?_) (fun b o e => hk b o ?_ (ne_of_none e hx))⟩⟩
  · rcases hf y hy with rfl | rfl | h
    · exact hx
    · exact hdx
    · by_cases h1 : y = x
      · rw [h1]; exact hx
      · by_cases h2 : y = dx
        · rw [h2]; exact hdx
        · rw [upd_ne h1, upd_ne h2] at h
          exact h
  · rw [upd_ne (ne_of_none e hx), upd_ne (ne_of_none e hdx)]
    exact e
local macro_rules | `(tactic| walk_at "rd") => `(tactic| first | with_reducible refine Nm.rd_Hall_init ?_ | fail "none here")
section
variable {P : Program} {w : World} {K : PySem.W.Frag} {mg : Str → Option Value} {base : Heap}
theorem ok_Hall_init (T : Tp K mg) : FnOk P w K mg base (CXX P w) 1 T.f_Hall_init T.d_Hall_init ["self"] (sp_Hall_init T) := by
  have cl_Hall := T.cl_Hall
  have na_Hall := T.na_Hall
  refine T.F_Hall_init.okX sc_Hall_init (fun vs H Q E h => ?_) (fun cdv A outer s H vs Q E hr h => ?_)
  · obtain ⟨p, dx, rfl, _⟩ := h
    rfl
  · have hu := hr.units
    obtain ⟨p, dx, rfl, hp, hdx, q⟩ := h
    refine ⟨_, (pss_cons (ps_fldK (K := K) rfl (pv 0) pe_dnewK rfl)
          (pss_one (ps_fldK (K := K) rfl (pv 0) (pe_lst pa_nil) rfl))), ?_⟩
    try dsimp only [L2.cxX, L2.cxOf, L2.cxComp]
    walk_at "rds"
    intro a ha
    have npa : p ≠ a := ne_of_none hp ha
    have nda : dx ≠ a := ne_of_none hdx ha
    have npd : p ≠ dx := ne_of hp hdx (by intro z; cases z)
    have hp1 : (upd H a (.dK [])) p = some (.ins T.C_Hall dx []) := by rw [upd_ne npa]; exact hp
    walk_at "rds"
    refine ⟨Nat.zero_le _, fun b hb => ?_⟩
    have hb0 : H b = none := by
      by_cases h1 : b = p
      · rw [h1, upd_same] at hb; cases hb
      · by_cases h2 : b = a
        · rw [h2]; exact ha
        · rw [upd_ne h1, upd_ne h2] at hb; exact hb
    have npb : p ≠ b := ne_of_none hp hb0
    have ndb : dx ≠ b := ne_of_none hdx hb0
    have nab : a ≠ b := by
      intro z
      rw [← z, upd_ne npa.symm, upd_same] at hb
      cases hb
    have hp2 : (upd (upd (upd H a (.dK [])) p (.ins T.C_Hall dx [("numbers", .ref a)])) b (.lst [])) p = some (.ins T.C_Hall dx [("numbers", .ref a)]) := by rw [upd_ne npb, upd_same]
    walk_at "rds"
    refine q _ [p, dx, a, b] ⟨dx, a, b, [], rfl, upd_same, ?_, ?_, ?_, nab, .nil⟩ (fun x hx => ?_) (fun c o e hc => ?_)
    · rw [upd_ne npd.symm, upd_ne ndb, upd_ne npd.symm, upd_ne nda]; exact hdx
    · rw [upd_ne npa.symm, upd_ne nab, upd_ne npa.symm, upd_same]; rfl
    · rw [upd_ne npb.symm, upd_same]
    · simp only [List.mem_cons, List.not_mem_nil, or_false] at hx
      rcases hx with rfl | rfl | rfl | rfl
      · exact .inl rfl
      · exact .inr (.inl rfl)
      · exact .inr (.inr ha)
      · exact .inr (.inr hb0)
    · rw [upd_ne hc, upd_ne (ne_of_none e hb0), upd_ne hc, upd_ne (ne_of_none e ha)]; exact e
end
def sp_l_made {K : PySem.W.Frag} {mg : Str → Option Value} (T : Tp K mg) : Sp := fun vs H Q _ => ∃ (np lp : Addr) (nms : List Str) (bs : List V) (ls : List B5), vs = [.ref np, .ref lp] ∧ SqL K H np (nms.map V.str) ∧ (∀ n ∈ nms, isName n = true) ∧ nms.Nodup ∧ 0 < nms.length ∧ nms.length ≤ 30 ∧ H lp = some (.lst bs) ∧ Tups H bs ls ∧ (∀ l ∈ ls, Bel nms.length l) ∧ ls.length ≤ 60 ∧
  ∀ (p : Addr) (fp : List Addr) (H' : Hp), HallAt T H' p ⟨nms, ls⟩ fp → (∀ x ∈ fp, H x = none) → Same H H' → Q (.ref p) H'
section
variable {P : Program} {w : World} {K : PySem.W.Frag} {mg : Str → Option Value} {base : Heap}
theorem ok_l_made (T : Tp K mg) : FnOk P w K mg base (CXX P w) 6 T.f_l_made T.d_l_made ["_law_names_here", "_law_belts"] (sp_l_made T) := by
  have G_Hall_work : FnOk P w K mg base (CXX P w) 5 T.f_Hall_work T.d_Hall_work ["self", "name"] (sp_Hall_work T) := (ok_Hall_work T).mono (by decide)
  have G_Hall_belt : FnOk P w K mg base (CXX P w) 5 T.f_Hall_belt T.d_Hall_belt ["self", "giver", "taker", "give", "take", "start"] (sp_Hall_belt T) := (ok_Hall_belt T).mono (by decide)
  have G_Hall_init : FnOk P w K mg base (CXX P w) 4 T.f_Hall_init T.d_Hall_init ["self"] (sp_Hall_init T) := (ok_Hall_init T).mono (by decide)
  have cl_Hall := T.cl_Hall
  have na_Hall := T.na_Hall
  refine T.F_l_made.okX sc_l_made (fun vs H Q E h => ?_) (fun cdv A outer s H vs Q E hr h => ?_)
  · obtain ⟨np, lp, nms, bs, ls, rfl, _⟩ := h
    rfl
  · have hu := hr.units
    obtain ⟨np, lp, nms, bs, ls, rfl, hnp, hnm, hnd, n0, n1, hlp, hT, hld, hll, q⟩ := h
    have hbl := hT.length
    refine ⟨_, (pss_cons (ps_set (i := 2) sc_l_made.nd rfl (Or.inl rfl) (pe_make0 T.mk_Hall G_Hall_init hr rfl T.g_Hall T.b_Hall_init .nil pass_on))
          (pss_cons (ps_for PassesOwn.leaving rfl (pi_listK (K := K) rfl (pv 0)) (pg_name (i := 3) sc_l_made.nd rfl (Or.inl rfl)) (pss_one (ps_expr (pe_meth (pv 2) T.cl_Hall T.M_Hall_work G_Hall_work hr T.b_Hall_work .nil pass_on (pa_cons (pv 3) pa_nil)))))
          (pss_cons (ps_for PassesOwn.leaving rfl (pi_listK (K := K) rfl (pv 1)) (pg_tupK (K := K) (n := 5) rfl rfl (pgs_cons (pg_name (i := 4) sc_l_made.nd rfl (Or.inl rfl)) (pgs_cons (pg_name (i := 5) sc_l_made.nd rfl (Or.inl rfl)) (pgs_cons (pg_name (i := 6) sc_l_made.nd rfl (Or.inl rfl)) (pgs_cons (pg_name (i := 7) sc_l_made.nd rfl (Or.inl rfl)) (pgs_cons (pg_name (i := 8) sc_l_made.nd rfl (Or.inl rfl)) pgs_nil)))))) (pss_one (ps_expr (pe_meth (pv 2) T.cl_Hall T.M_Hall_belt G_Hall_belt hr T.b_Hall_belt .nil pass_on (pa_cons (pv 4) (pa_cons (pv 5) (pa_cons (pv 6) (pa_cons (pv 7) (pa_cons (pv 8) pa_nil)))))))))
          (pss_one (ps_ret (pv 2)))))), ?_⟩
    try dsimp only [L2.cxX, L2.cxOf, L2.cxComp]
    walk_at "rds"
    intro hp fp H4 hh hf sm
    have hn1 := sm.seq hnp
    walk_at "rds"
    refine for_walk (walks_lst hnp) (fun i σ H' => ∃ fp' k0, σ = [some (.ref np), some (.ref lp), some (.ref hp), k0, none, none, none, none, none] ∧ HallAt T H' hp ⟨nms.take i, []⟩ fp' ∧ Same H H' ∧ ∀ x ∈ fp', H x = none) ⟨fp, _, rfl, hh, sm, hf⟩ (fun i σ H' ⟨_, _, _, _, s, _⟩ => s) ?_ ?_
    · rintro i σ H' hi ⟨fp', k0, rfl, hh', s', n'⟩
      have hil : i < nms.length := by rw [List.length_map] at hi; exact hi
      have ev : (nms.map V.str).getD i .non = .str nms[i] := by simp [List.getD, hil]
      rw [ev]
      walk_at "rds"
      have hnew : nms[i] ∉ nms.take i := by
        have h2 := hnd
        rw [← List.take_append_drop (i + 1) nms, List.take_succ_eq_append_getElem hil] at h2
        exact fun z => (List.nodup_append.mp (List.nodup_append.mp h2).1).2.2 _ z _ (by simp) rfl
      refine rd_Hall_work hh' (hnm _ (List.getElem_mem hil)) hnew (by simp; omega) (fun H2 fp2 hh2 fr gr => ?_)
      obtain ⟨s2, n2⟩ := new_step28 s' n' fr gr
      refine ⟨fp2, _, rfl, ?_, s2, n2⟩
      rw [List.take_succ_eq_append_getElem hil]
      exact hh2
    · rintro σ H' ⟨fp', k0, rfl, hh', s', n'⟩
      rw [List.length_map, List.take_length] at hh'
      have hq' := s' _ _ hlp
      walk_at "rds"
      refine for_walk (walks_lst (SqL.of hlp)) (fun i σ H' => ∃ (fp' : List Addr) (a1 a2 a3 a4 a5 : Option V), σ = [some (.ref np), some (.ref lp), some (.ref hp), k0, a1, a2, a3, a4, a5] ∧ HallAt T H' hp ⟨nms, ls.take i⟩ fp' ∧ Same H H' ∧ ∀ x ∈ fp', H x = none)
        ⟨fp', _, _, _, _, _, rfl, hh', s', n'⟩ (fun i σ H' ⟨_, _, _, _, _, _, _, _, s, _⟩ => s) ?_ ?_
      · rintro i σ H4 hi ⟨fp4, a1, a2, a3, a4, a5, rfl, hh4, s4, n4⟩
        have hil : i < ls.length := by omega
        obtain ⟨t, ht1, ht2⟩ := hT.at (List.getElem?_eq_getElem hil)
        have eb : bs.getD i .non = .ref t := by simp [List.getD, ht1]
        rw [eb]
        have hm := hld _ (List.getElem_mem hil)
        have et := List.take_succ_eq_append_getElem hil
        have ht4 := s4 _ _ ht2
        generalize ls[i] = l at *
        obtain ⟨r1, r2, r3, r4⟩ := hm.rg
        obtain ⟨z1, z3⟩ := hm.sz
        dsimp only [B5.v] at ht4
        refine Rd.gtup (.of ht4) rfl ?_
        walk_at "rds"
        refine rd_Hall_belt hh4 r1 (by simp; omega) r3 (by simp; omega) z1 z3 hm.st.1 (by simp; omega) (fun H5 fp5 hh5 fr5 gr5 => ?_)
        obtain ⟨s5, n5⟩ := new_step28 s4 n4 fr5 gr5
        refine ⟨fp5, _, _, _, _, _, rfl, ?_, s5, n5⟩
        rw [et]
        exact hh5
      · rintro σ H4 ⟨fp4, a1, a2, a3, a4, a5, rfl, hh4, s4, n4⟩
        rw [hbl, List.take_length] at hh4
        walk_at "rds"
        exact q hp fp4 H4 hh4 n4 s4
end
def sp_l_names {K : PySem.W.Frag} {mg : Str → Option Value} (T : Tp K mg) : Sp := fun vs H Q _ => ∃ (c : Int) (m : Nat), vs = [.int c, .int m] ∧ m ≤ 8 ∧
  ∀ (r : Addr) (H' : Hp) (nms : List Str), H r = none → Same H H' → H' r = some (.lst (nms.map V.str)) → (∀ n ∈ nms, isName n = true) → nms.Nodup → nms.length = m → Q (.ref r) H'
section
variable {P : Program} {w : World} {K : PySem.W.Frag} {mg : Str → Option Value} {base : Heap}
theorem ok_l_names (T : Tp K mg) : FnOk P w K mg base (CXX P w) 1 T.f_l_names T.d_l_names ["_law_cell", "_law_many"] (sp_l_names T) := by
  refine T.F_l_names.okX sc_l_names (fun vs H Q E h => ?_) (fun cdv A outer s H vs Q E hr h => ?_)
  · obtain ⟨c, m, rfl, _⟩ := h
    rfl
  · have hu := hr.units
    obtain ⟨c, m, rfl, hm, q⟩ := h
    have al := abc_len
    refine ⟨_, (pss_cons (ps_set (i := 2) sc_l_names.nd rfl (Or.inl rfl) pe_str)
          (pss_cons (ps_set (i := 3) sc_l_names.nd rfl (Or.inl rfl) (pe_op (op_addK (K := K) rfl) pe_int (pe_op op_mod (pv 0) pe_int)))
          (pss_cons (ps_set (i := 4) sc_l_names.nd rfl (Or.inl rfl) (pe_op op_mod (pe_op op_fdivG (pv 0) pe_int) (pv 3)))
          (pss_cons (ps_set (i := 5) sc_l_names.nd rfl (Or.inl rfl) (pe_lst pa_nil))
          (pss_cons (ps_for PassesOwn.leaving rfl (pi_range1 rfl T.n_range (pa_cons (pv 1) pa_nil)) (pg_name (i := 6) sc_l_names.nd rfl (Or.inl rfl)) (pss_cons (ps_set (i := 7) sc_l_names.nd rfl (Or.inl rfl) pe_str)
          (pss_cons (ps_for PassesOwn.leaving rfl (pi_range1 rfl T.n_range (pa_cons (pv 3) pa_nil)) (pg_name (i := 8) sc_l_names.nd rfl (Or.inl rfl)) (pss_cons (ps_set (i := 9) sc_l_names.nd rfl (Or.inl rfl) (pe_op op_fdivG (pv 0) (pe_op (op_addK (K := K) rfl) pe_int (pv 8))))
          (pss_cons (ps_cut (ps_if (pt_cmpR (op_eqK (K := K) rfl hu) (pv 8) (pv 4) (nomark _)) (pss_one (ps_set (i := 9) sc_l_names.nd rfl (Or.inl rfl) (pe_op (op_addK (K := K) rfl) (pe_op op_fdivG (pv 0) pe_int) (pe_op op_mulU pe_int (pv 6))))) pss_nil))
          (pss_one (ps_set (i := 7) sc_l_names.nd rfl (Or.inl rfl) (pe_op (op_addK (K := K) rfl) (pv 7) (pe_ix (ix_K (K := K) rfl) (pv 2) (pe_op op_mod (pv 9) pe_int) (fun _ _ => rfl))))))))
          (pss_one (ps_expr (pe_bmK (K := K) rfl PySem.F.plainAttrs_list PySem.F.slot_list_append PySem.F.type_list_append mt_append (pv 5) (pa_cons (pv 7) pa_nil)))))))
          (pss_one (ps_ret (pv 5)))))))), ?_⟩
    try dsimp only [L2.cxX, L2.cxOf, L2.cxComp]
    have lp : 0 < 1 + c % 8 := by omega
    walk_at "rds"
    have a0 := Int.emod_nonneg (c / 8) (show 1 + c % 8 ≠ 0 by omega)
    have a1 := Int.emod_lt_of_pos (c / 8) lp
    generalize c / 8 % (1 + c % 8) = at_ at *
    obtain ⟨lg, elg⟩ : ∃ l : Nat, 1 + c % 8 = (l : Int) := ⟨(1 + c % 8).toNat, by omega⟩
    rw [elg] at a1 ⊢
    have lg1 : 1 ≤ lg := by omega
    have lg2 : lg ≤ 8 := by omega
    refine ⟨Nat.zero_le _, fun r hr => ?_⟩
    have s1 : Same H (upd H r (.lst [])) := same_new hr
    have v1 : (upd H r (.lst [])) r = some (.lst (([] : List Str).map V.str)) := upd_same
    generalize upd H r (.lst []) = H1 at *
    walk_at "rds"
    refine for_range (n := m) (fun i σ H' => ∃ (nms : List Str) (a6 a7 a8 a9 : Option V), σ = [some (.int c), some (.int m), some (.str "abcdefghijklmnopqrstuvwxyz"), some (.int lg), some (.int at_), some (.ref r), a6, a7, a8, a9] ∧ Same H H' ∧ H' r = some (.lst (nms.map V.str)) ∧ nms.length = i ∧ NamesBy c at_ lg nms) ⟨[], _, _, _, _, rfl, s1, v1, rfl, ⟨fun k x e => by simp at e⟩⟩ ?_ ?_
    · rintro i σ H2 hi ⟨nms, a6, a7, a8, a9, rfl, s2, hr2, hl2, hn2⟩
      have hz : (nms.map V.str).length < sizeLine := small1000 (by rw [List.length_map]; omega)
      walk_at "rds"
      refine for_range (n := lg) (fun j σ H' => H' = H2 ∧ ∃ (w : Str) (a8 a9 : Option V), σ = [some (.int c), some (.int m), some (.str "abcdefghijklmnopqrstuvwxyz"), some (.int lg), some (.int at_), some (.ref r), some (.int (0 + (i : Int))), some (.str w), a8, a9] ∧ w.cps.toList = (List.range j).map (chN c at_ i)) ⟨rfl, "", _, _, rfl, rfl⟩ ?_ ?_
      · rintro j σ H' hj ⟨rfl, w, b8, b9, rfl, hw⟩
        have d1 : 0 < 64 + (0 + (j : Int)) ∧ (64 + (0 + (j : Int))).natAbs.log2 < 9000 := ⟨by omega, logI (by omega) (by omega)⟩
        walk_at "rds"
        refine Rd.cut (fun σ' H2 => H2 = H' ∧ ∃ t : Int, σ' = [some (.int c), some (.int m), some (.str "abcdefghijklmnopqrstuvwxyz"), some (.int lg), some (.int at_), some (.ref r), some (.int (0 + (i : Int))), some (.str w), some (.int (0 + (j : Int))), some (.int t)] ∧ chN c at_ i j = 97 + (t % 26).toNat) ?k1 ?i1
        case i1 =>
          walk_at "rds"
          refine Rd.ifD (fun z => ?_) (fun z => ?_)
          · walk_at "rds"
            refine ⟨rfl, _, rfl, ?_⟩
            unfold chN
            rw [if_pos (by omega), Int.zero_add]
          · walk_at "rds"
            refine ⟨rfl, _, rfl, ?_⟩
            unfold chN
            rw [if_neg (by omega), Int.zero_add]
        case k1 =>
          rintro σ' H3 ⟨rfl, t, rfl, ht⟩
          walk_at "rds"
          have t0 : 0 ≤ t % 26 := by omega
          have t1 : t % 26 < 26 := by omega
          refine Rd.ixuS al (abc_ix t0 t1) ?_
          rw [← ht]
          have wl : w.length = j := by rw [len_cps, hw]; simp
          refine Rd.addS (Nat.le_of_lt (small1000 (by rw [wl]; show j + 1 ≤ 1000; omega))) ?_
          walk_at "rds"
          refine ⟨rfl, _, _, _, rfl, ?_⟩
          rw [cps_append, hw, List.range_succ, List.map_append]
          rfl
      · rintro σ H' ⟨rfl, w, b8, b9, rfl, hw⟩
        walk_at "rds"
        refine ⟨nms ++ [w], _, _, _, _, rfl, s2.new hr, by rw [upd_same, List.map_append]; rfl, by simp [hl2], ⟨fun k x e => ?_⟩⟩
        rcases Nat.lt_or_ge k nms.length with z | z
        · rw [List.getElem?_append_left z] at e
          exact hn2.cps k x e
        · rw [List.getElem?_append_right z] at e
          have hk : k - nms.length = 0 := by
            rcases Nat.eq_zero_or_pos (k - nms.length) with y | y
            · exact y
            · rw [List.getElem?_eq_none (by simp; omega)] at e; cases e
          rw [hk] at e
          obtain rfl : w = x := by simpa using e
          have : k = i := by omega
          rw [this]
          exact hw
    · rintro σ H2 ⟨nms, a6, a7, a8, a9, rfl, s2, hr2, hl2, hn2⟩
      walk_at "rds"
      exact q r H2 nms hr s2 hr2 (hn2.name lg1 lg2) (hn2.nodup (by omega) a0 a1) hl2
end
def sp_l_common {K : PySem.W.Frag} {mg : Str → Option Value} (T : Tp K mg) : Sp := fun vs H Q _ => ∃ a b : Nat, vs = [.int a, .int b] ∧ Q (.int (Nat.gcd a b : Nat)) H
section
variable {P : Program} {w : World} {K : PySem.W.Frag} {mg : Str → Option Value} {base : Heap}
theorem ok_l_common (T : Tp K mg) : FnOk P w K mg base (CXX P w) 1 T.f_l_common T.d_l_common ["_law_one", "_law_other"] (sp_l_common T) := by
  refine T.F_l_common.okX sc_l_common (fun vs H Q E h => ?_) (fun cdv A outer s H vs Q E hr h => ?_)
  · obtain ⟨a, b, rfl, _⟩ := h
    rfl
  · have hu := hr.units
    obtain ⟨a0, b0, rfl, q⟩ := h
    rw [← My.G_nat] at q
    refine ⟨_, (pss_cons (ps_while PassesOwn.leaving (pt_cmpR (op_neK (K := K) rfl hu) (pv 1) pe_int (nomark _)) (pss_cons (ps_set (i := 2) sc_l_common.nd rfl (Or.inl rfl) (pe_op op_mod (pv 0) (pv 1)))
          (pss_cons (ps_set (i := 0) sc_l_common.nd rfl (Or.inl rfl) (pv 1))
          (pss_one (ps_set (i := 1) sc_l_common.nd rfl (Or.inl rfl) (pv 2))))))
          (pss_one (ps_ret (pv 0)))), ?_⟩
    try dsimp only [L2.cxX, L2.cxOf, L2.cxComp]
    walk_at "rd"
    refine while3 (fun m σ H' => H' = H ∧ ∃ (x y : Int) (r : Option V), m = y.toNat ∧ σ = [some (.int x), some (.int y), r] ∧ 0 ≤ x ∧ 0 ≤ y ∧ My.G x y = My.G a0 b0) _ ⟨rfl, a0, b0, none, rfl, rfl, by omega, by omega, rfl⟩ ?_
    rintro m σ H' ⟨rfl, x, y, r, rfl, rfl, hx, hy, hG⟩
    walk_at "rds"
    refine ite2 (fun c => turn3 ?_) (fun c => ?_)
    · have hy0 : 0 < y := by
        have : ¬ y = 0 := by simpa using c
        omega
      walk_at "rds"
      exact ⟨_, (by have := Int.emod_nonneg x (show y ≠ 0 by omega); have := Int.emod_lt_of_pos x hy0; omega), rfl, y, x % y, some (.int (x % y)), rfl, rfl, hy, Int.emod_nonneg x (by omega), (G_turn' hx hy0).trans hG⟩
    · have hy0 : y = 0 := by simpa using c
      have e : x = My.G a0 b0 := by rw [← hG, My.G_zero hx hy0]
      walk_at "rds"
      rw [e]
      exact q
end
def sp_l_belt_by {K : PySem.W.Frag} {mg : Str → Option Value} (T : Tp K mg) : Sp := fun vs H Q _ => ∃ (c : Int) (a : Addr) (rs : List Int) (tp : Nat) (am : Bool), vs = [.int c, .ref a, .int tp, .bl am] ∧ SqL K H a (rs.map V.int) ∧ 0 < rs.length ∧ rs.length ≤ 30 ∧ Rates4 rs ∧ 0 < tp ∧ tp ≤ 10 ∧
  ∀ (u : Addr) (H' : Hp) (b : B5), H u = none → Same H H' → H' u = some (.tup b.v) → Bel rs.length b → Q (.ref u) H'
section
variable {P : Program} {w : World} {K : PySem.W.Frag} {mg : Str → Option Value} {base : Heap}
theorem ok_l_belt_by (T : Tp K mg) : FnOk P w K mg base (CXX P w) 2 T.f_l_belt_by T.d_l_belt_by ["_law_cell", "_law_rates", "_law_top", "_law_ample"] (sp_l_belt_by T) := by
  have G_l_common : FnOk P w K mg base (CXX P w) 1 T.f_l_common T.d_l_common ["_law_one", "_law_other"] (sp_l_common T) := (ok_l_common T).mono (by decide)
  refine T.F_l_belt_by.okX sc_l_belt_by (fun vs H Q E h => ?_) (fun cdv A outer s H vs Q E hr h => ?_)
  · obtain ⟨c, a, rs, tp, am, rfl, _⟩ := h
    rfl
  · have hu := hr.units
    obtain ⟨c, a, rs, tp, am, rfl, hA, n0, n1, h4, tp0, tp1, q⟩ := h
    have tpp : 0 < (tp : Int) := by omega
    have hsl : ((rs.map V.int).length : Int) = (rs.length : Int) := by simp
    have np : 0 < ((rs.map V.int).length : Int) := by omega
    refine ⟨_, (pss_cons (ps_set (i := 4) sc_l_belt_by.nd rfl (Or.inl rfl) (pe_op op_mod (pe_op op_mulU (pv 0) pe_int) pe_int))
          (pss_cons (ps_set (i := 5) sc_l_belt_by.nd rfl (Or.inl rfl) (pe_op op_mod (pv 4) (pe_callB (len_K (K := K) rfl) (by rfl) T.n_len PySem.boot_len (pa_cons (pv 1) pa_nil))))
          (pss_cons (ps_set (i := 6) sc_l_belt_by.nd rfl (Or.inl rfl) (pe_op op_mod (pe_op op_fdivG (pv 4) pe_int) (pe_callB (len_K (K := K) rfl) (by rfl) T.n_len PySem.boot_len (pa_cons (pv 1) pa_nil))))
          (pss_cons (ps_set (i := 7) sc_l_belt_by.nd rfl (Or.inl rfl) (pe_call G_l_common hr rfl T.m_l_common T.F_l_common.kp T.b_l_common .nil pass_on (pa_cons (pe_ix (ix_K (K := K) rfl) (pv 1) (pv 5) (fun _ _ => rfl)) (pa_cons (pe_ix (ix_K (K := K) rfl) (pv 1) (pv 6) (fun _ _ => rfl)) pa_nil))))
          (pss_cons (ps_set (i := 8) sc_l_belt_by.nd rfl (Or.inl rfl) (pe_op (op_addK (K := K) rfl) pe_int (pe_op op_mod (pe_op op_fdivG (pv 4) pe_int) (pv 2))))
          (pss_cons (ps_set (i := 9) sc_l_belt_by.nd rfl (Or.inl rfl) (pe_op op_fdivG (pe_op op_mulU (pv 8) (pe_ix (ix_K (K := K) rfl) (pv 1) (pv 6) (fun _ _ => rfl))) (pv 7)))
          (pss_cons (ps_set (i := 10) sc_l_belt_by.nd rfl (Or.inl rfl) (pe_op op_fdivG (pe_op op_mulU (pv 8) (pe_ix (ix_K (K := K) rfl) (pv 1) (pv 5) (fun _ _ => rfl))) (pv 7)))
          (pss_cons (ps_set (i := 11) sc_l_belt_by.nd rfl (Or.inl rfl) (pe_op op_mod (pe_op op_fdivG (pv 4) pe_int) pe_int))
          (pss_cons (ps_cut (ps_if (PW.pt (pw_or (pt_truK (K := K) rfl (pv 3) (fun _ => rfl)) (pw_or1 (PW.pt (pw_and (pt_cmpR op_ge (pv 5) (pv 6) (nomark _)) (pw_and1 (pt_cmpR op_gt (pe_op op_mod (pe_op op_fdivG (pv 4) pe_int) pe_int) pe_int (nomark _)))))))) (pss_one (ps_set (i := 11) sc_l_belt_by.nd rfl (Or.inl rfl) (pe_op (op_addK (K := K) rfl) (pv 11) (pe_op op_mulU (pv 10) (pe_ix (ix_K (K := K) rfl) (pv 1) (pv 6) (fun _ _ => rfl)))))) pss_nil))
          (pss_one (ps_ret (pe_tup (pa_cons (pv 5) (pa_cons (pv 6) (pa_cons (pv 9) (pa_cons (pv 10) (pa_cons (pv 11) pa_nil))))))))))))))))), ?_⟩
    try dsimp only [L2.cxX, L2.cxOf, L2.cxComp]
    walk_at "rds"
    have m0 : 0 ≤ c * 48271 % 2147483647 := by omega
    have m1 : c * 48271 % 2147483647 < 2147483647 := by omega
    generalize c * 48271 % 2147483647 = mx at *
    have r1 := Int.emod_nonneg mx (show ((rs.map V.int).length : Int) ≠ 0 by omega)
    have r2 := Int.emod_lt_of_pos mx np
    have r3 := Int.emod_nonneg (mx / 7) (show ((rs.map V.int).length : Int) ≠ 0 by omega)
    have r4 := Int.emod_lt_of_pos (mx / 7) np
    generalize mx % ((rs.map V.int).length : Int) = g at *
    generalize mx / 7 % ((rs.map V.int).length : Int) = t at *
    rw [hsl] at r2 r4
    have rat : ∀ {w : Int}, 0 ≤ w → w < (rs.length : Int) → ∃ x : Nat, rs.getD w.toNat 0 = (x : Int) ∧ 1 ≤ x ∧ x ≤ 4 := fun {w} w0 w1 => by
      have hm : rs.getD w.toNat 0 ∈ rs := by rw [getD_of (by omega)]; exact List.getElem_mem _
      obtain ⟨p1, p2⟩ := h4 _ hm
      exact ⟨(rs.getD w.toNat 0).toNat, by omega, by omega, by omega⟩
    obtain ⟨x, ex, x0, x1⟩ := rat r1 r2
    obtain ⟨y, ey, y0, y1⟩ := rat r3 r4
    have at1 := at_ints28 r1 r2
    have at2 := at_ints28 r3 r4
    rw [ex] at at1
    rw [ey] at at2
    have tr1 := Int.emod_nonneg (mx / 49) (show (tp : Int) ≠ 0 by omega)
    have tr2 := Int.emod_lt_of_pos (mx / 49) tpp
    obtain ⟨f, ef⟩ : ∃ f : Nat, 1 + mx / 49 % (tp : Int) = (f : Int) := ⟨(1 + mx / 49 % (tp : Int)).toNat, by omega⟩
    have f0 : 1 ≤ f := by omega
    have f1 : f ≤ 10 := by omega
    have g0 : 0 < Nat.gcd x y := Nat.gcd_pos_of_pos_left _ (by omega)
    have gx : Nat.gcd x y ≤ x := Nat.le_of_dvd (by omega) (Nat.gcd_dvd_left _ _)
    have gy : Nat.gcd x y ≤ y := Nat.le_of_dvd (by omega) (Nat.gcd_dvd_right _ _)
    have fx : x ≤ f * x := Nat.le_mul_of_pos_left x (by omega)
    have fy : y ≤ f * y := Nat.le_mul_of_pos_left y (by omega)
    have fx8 : f * x ≤ 10 * 4 := Nat.mul_le_mul f1 x1
    have fy8 : f * y ≤ 10 * 4 := Nat.mul_le_mul f1 y1
    have p1 : 1 ≤ f * y / Nat.gcd x y := Nat.div_pos (by omega) g0
    have p2 : 1 ≤ f * x / Nat.gcd x y := Nat.div_pos (by omega) g0
    have p3 : f * x / Nat.gcd x y ≤ 40 := Nat.le_trans (Nat.div_le_self _ _) (by omega)
    have p4 : f * y / Nat.gcd x y ≤ 40 := Nat.le_trans (Nat.div_le_self _ _) (by omega)
    have mo1 : IntMulOk (1 + mx / 49 % (tp : Int)) (x : Int) := mulI (n := 10) (m := 10) (by omega) (by omega) (by decide)
    have mo2 : IntMulOk (1 + mx / 49 % (tp : Int)) (y : Int) := mulI (n := 10) (m := 10) (by omega) (by omega) (by decide)
    have gd : 0 < ((Nat.gcd x y : Nat) : Int) ∧ ((Nat.gcd x y : Nat) : Int).natAbs.log2 < 9000 := ⟨by omega, log28 (by omega)⟩
    refine Rd.ixuL hA at1 ?_
    walk_at "rds"
    refine ⟨x, y, rfl, ?_⟩
    walk_at "rds"
    rw [ef]
    have eg : (f : Int) * (y : Int) / ((Nat.gcd x y : Nat) : Int) = ((f * y / Nat.gcd x y : Nat) : Int) := rfl
    have et : (f : Int) * (x : Int) / ((Nat.gcd x y : Nat) : Int) = ((f * x / Nat.gcd x y : Nat) : Int) := rfl
    rw [eg, et]
    generalize f * y / Nat.gcd x y = gv at *
    generalize f * x / Nat.gcd x y = tk at *
    have mo3 : IntMulOk (tk : Int) (y : Int) := mulI (n := 10) (m := 10) (by omega) (by omega) (by decide)
    have s0 : 0 ≤ mx / 98 % 3 ∧ mx / 98 % 3 ≤ 2 := by omega
    have ty : (tk : Int) * (y : Int) ≤ 40 * 4 := Int.mul_le_mul (by omega) (by omega) (by omega) (by omega)
    have ty0 : 0 ≤ (tk : Int) * (y : Int) := Int.mul_nonneg (by omega) (by omega)
    refine Rd.cut (fun σ' H' => H' = H ∧ ∃ st : Int, σ' = [some (.int c), some (.ref a), some (.int tp), some (.bl am), some (.int mx), some (.int g), some (.int t), some (.int (Nat.gcd x y : Nat)), some (.int f), some (.int gv), some (.int tk), some (.int st)] ∧ 0 ≤ st ∧ st ≤ 1000) ?k1 ?i1
    case i1 =>
      cases am with
      | true =>
        walk_at "rds"
        exact ⟨rfl, _, rfl, by omega, by omega⟩
      | false =>
        walk_at "rds"
        refine Rd.ifD (fun d1 => ?_) (fun d1 => ?_)
        · walk_at "rds"
          refine Rd.ifD (fun d2 => ?_) (fun d2 => ?_)
          · walk_at "rds"
            exact ⟨rfl, _, rfl, by omega, by omega⟩
          · walk_at "rds"
            exact ⟨rfl, _, rfl, by omega, by omega⟩
        · walk_at "rds"
          exact ⟨rfl, _, rfl, by omega, by omega⟩
    case k1 =>
      rintro σ' H' ⟨rfl, st, rfl, st0, st1⟩
      walk_at "rds"
      refine ⟨by show 5 ≤ sizeLine; decide, fun u hu1 => ?_⟩
      exact q u _ ⟨g, t, gv, tk, st⟩ hu1 (same_new hu1) upd_same ⟨⟨r1, r2, r3, r4⟩, ⟨by dsimp only; omega, by dsimp only; omega⟩, ⟨st0, st1⟩, ⟨by dsimp only; omega, by dsimp only; omega⟩⟩
end
def sp_enough {K : PySem.W.Frag} {mg : Str → Option Value} (T : Tp K mg) : Sp := fun vs H Q _ => ∃ (a b : Addr) (hs : List Int) (l : List (Int × Int)) (xs : List V), vs = [.ref a, .ref b] ∧ SqL K H a (hs.map V.int) ∧ SqL K H b xs ∧ Pairs H l xs ∧ (∀ x ∈ l, 0 ≤ x.1 ∧ x.1 < hs.length) ∧ l.length ≤ 1000 ∧ ∀ H', Same H H' → Q (.bl (enoughL hs l)) H'
section
variable {P : Program} {w : World} {K : PySem.W.Frag} {mg : Str → Option Value} {base : Heap}
theorem ok_enough (T : Tp K mg) : FnOk P w K mg base (CXX P w) 1 T.f_enough T.d_enough ["heaps", "takes"] (sp_enough T) := by
  refine T.F_enough.okX sc_enough (fun vs H Q E h => ?_) (fun cdv A outer s H vs Q E hr h => ?_)
  · obtain ⟨a, b, hs, l, xs, rfl, _⟩ := h
    rfl
  · have hu := hr.units
    obtain ⟨a, b, hs, l, xs, rfl, ha, hb, hp, hr, hz, q⟩ := h
    have hxl : l.length = xs.length := Paired.length hp
    refine ⟨_, (pss_one (ps_ret (pe_callB (all_K (K := K) rfl rfl) (by rfl) T.n_all PyProof.Rows.boot_all (pa_cons (pe_compN (xs := ["belt", "take"]) rfl (cscope (x := "belt") (zs := ["heaps"]) (ix := [0]) (defScope s_enough) ["heaps", "takes"] rfl rfl (by decide +kernel)) (pi_listK (K := K) rfl (pv 1)) (fun cl C s H fp => ⟨(pg_tupK (K := K) (n := 2) rfl rfl (pgs_cons (pg_name (i := 0) (show (["belt", "take", "heaps"] : List Str).Nodup by decide +kernel) rfl (Or.inl rfl)) (pgs_cons (pg_name (i := 1) (show (["belt", "take", "heaps"] : List Str).Nodup by decide +kernel) rfl (Or.inl rfl)) pgs_nil))), pif_nil, (pe_cmpR op_ge (pe_ix (ix_K (K := K) rfl) (pv 2) (pv 0) (fun _ _ => rfl)) (pv 1) (nomark _))⟩)) pa_nil)))), ?_⟩
    try dsimp only [L2.cxX, L2.cxOf, L2.cxComp]
    walk_at "rds"
    refine compN_walk (own := 2) (walks_lst hb).y (small1000 (by omega)) (fun i => [some (.int (l.getD i (0, 0)).1), some (.int (l.getD i (0, 0)).2)]) (fun _ => rfl) (fun _ => true) (fun i v _ => v = .bl (decide ((l.getD i (0, 0)).2 ≤ hs.getD (l.getD i (0, 0)).1.toNat 0))) (fun _ _ _ _ _ z => z) (fun i a' H' v H2 Kg hi sm y ha' k => ?_) (fun i H' Kc hi sm k => ?_) (fun pp i H' Kc hi hc hp0 hp1 sm k => ?_) (fun r H' ys hr' sm hl' hR => ?_)
    · obtain ⟨rfl, rfl⟩ := y
      obtain ⟨x1, x2, rfl⟩ : ∃ x1 x2, a' = [x1, x2] := by
        match a', ha' with
        | [x1, x2], _ => exact ⟨x1, x2, rfl⟩
      obtain ⟨v, hv, t, rfl, ht⟩ := Paired.get hp (List.getElem?_eq_getElem (show i < l.length by omega))
      have eb : xs.getD i .non = .ref t := by simp [List.getD, hv]
      have el : l.getD i (0, 0) = l[i] := by simp [List.getD, show i < l.length by omega]
      rw [eb]
      rw [el] at k
      refine Rd.gtup (.of (sm _ _ ht)) rfl ?_
      walk_at "rds"
      exact k _ (Same.refl _)
    · walk_at "rds"
      exact k H' (Same.refl H')
    · have el : l.getD i (0, 0) = l[i] := by simp [List.getD, show i < l.length by omega]
      obtain ⟨r0, r1⟩ := hr _ (List.getElem_mem (show i < l.length by omega))
      rw [el] at k ⊢
      generalize l[i] = x at *
      have hs' := sm.seq ha
      have at1 := at_ints r0 r1
      walk_at "rds"
      exact k _ H' (Same.refl H') rfl
    · have e : ys = (l.map fun x => decide (x.2 ≤ hs.getD x.1.toNat 0)).map V.bl := by
        rw [paired_map (R := fun i v _ => v = V.bl (decide ((l.getD i (0, 0)).2 ≤ hs.getD (l.getD i (0, 0)).1.toNat 0))) (H := H') (r := fun i => V.bl (decide ((l.getD i (0, 0)).2 ≤ hs.getD (l.getD i (0, 0)).1.toNat 0))) (fun _ _ z => z) hR, List.filter_eq_self.mpr (by simp), ← hxl]
        refine List.ext_getElem (by simp) fun i h1 h2 => ?_
        have hi : i < l.length := by simpa using h1
        have el : l.getD i (0, 0) = l[i] := by simp [List.getD, hi]
        rw [List.getElem_map, List.getElem_map, List.getElem_map, List.getElem_range, el]
      rw [e] at hl'
      walk_at "rds"
      have e2 : (l.map fun x => decide (x.2 ≤ hs.getD x.1.toNat 0)).all id = enoughL hs l := by rw [List.all_map]; rfl
      rw [e2]
      exact q H' sm
end
def sp_Floor_need_work {K : PySem.W.Frag} {mg : Str → Option Value} (T : Tp K mg) : Sp := fun vs H Q E => ∃ (p : Addr) (w : Int) (fl : FM) (fp : List Addr), vs = [.ref p, .int w] ∧ FloorAt T H p fl fp ∧
  (¬ (0 ≤ w ∧ w < fl.many) → E (.ref T.X_NoWork) none H) ∧ (0 ≤ w → w < fl.many → Q .non H)
section
variable {P : Program} {w : World} {K : PySem.W.Frag} {mg : Str → Option Value} {base : Heap}
theorem ok_Floor_need_work (T : Tp K mg) : FnOk P w K mg base (CXX P w) 4 T.f_Floor_need_work T.d_Floor_need_work ["self", "work"] (sp_Floor_need_work T) := by
  have G_is_number_below : FnOk P w K mg base (CXX P w) 3 T.f_is_number_below T.d_is_number_below ["thing", "bound"] (sp_is_number_below T) := (ok_is_number_below T).mono (by decide)
  have cl_Floor := T.cl_Floor
  have na_Floor := T.na_Floor
  refine T.F_Floor_need_work.okX sc_Floor_need_work (fun vs H Q E h => ?_) (fun cdv A outer s H vs Q E hr h => ?_)
  · obtain ⟨p, w, fl, fp, rfl, _⟩ := h
    rfl
  · have hu := hr.units
    obtain ⟨p, w, fl, fp, rfl, hf, e1, q⟩ := h
    obtain ⟨dx, a, b, c, ia, ib, rfl, h1, h2, h3, h4, h5, h6, h7, h8, h9⟩ := id hf
    refine ⟨_, (pss_one (ps_if (pt_not (pt_truK (K := K) rfl (pe_call G_is_number_below hr rfl T.m_is_number_below T.F_is_number_below.kp T.b_is_number_below .nil pass_on (pa_cons (pv 1) (pa_cons (pe_callB (len_K (K := K) rfl) (by rfl) T.n_len PySem.boot_len (pa_cons (pe_fldK (K := K) rfl (pv 0) rfl) pa_nil)) pa_nil))) (fun _ => rfl))) (pss_one (ps_raiseK T.gx_NoWork T.ex_NoWork PySem.F.excBase_ValueError rfl (pa_cons pe_str pa_nil))) pss_nil)), ?_⟩
    try dsimp only [L2.cxX, L2.cxOf, L2.cxComp]
    walk_at "rds"
    have el : ((ia.map V.ref).length : Int) = fl.many := by
      rw [List.length_map, h6.len]
      unfold takesL
      simp only [List.length_map, List.length_range]
      omega
    rw [el]
    by_cases c : 0 ≤ w ∧ w < fl.many
    · rw [decide_eq_true c]
      walk_at "rds"
      exact q c.1 c.2
    · rw [decide_eq_false c]
      walk_at "rds"
      exact e1 c
end
def sp_Floor_go {K : PySem.W.Frag} {mg : Str → Option Value} (T : Tp K mg) : Sp := fun vs H Q E => ∃ (p q : Addr) (ws : List Int) (fl : FM) (fp : List Addr), vs = [.ref p, .ref q] ∧ FloorAt T H p fl fp ∧ SqL K H q (ws.map V.int) ∧ fl.rows.length ≤ 1000 ∧
  (goR fl.many fl.rows fl.heaps ws = .error true → ∀ H', Same H H' → E (.ref T.X_NoWork) none H') ∧ (goR fl.many fl.rows fl.heaps ws = .error false → ∀ H', Same H H' → E (.ref T.X_Empty) none H') ∧
  (∀ hs, goR fl.many fl.rows fl.heaps ws = .ok hs → ∀ (H' : Hp) (fp' : List Addr), FloorAt T H' p ⟨fl.many, fl.rows, hs⟩ fp' → Frame fp H H' → Grows fp fp' H → Q .non H')
theorem bump_step {f : Nat → Int} {hs : List Int} {is : List Nat} {i : Nat} (h : i < is.length) : bump f hs (is.take (i + 1)) = (bump f hs (is.take i)).set is[i] ((bump f hs (is.take i)).getD is[i] 0 + f is[i]) := by
  unfold bump
  rw [List.take_succ_eq_append_getElem h, List.foldl_append]
  rfl
theorem row_at {js : List Nat} {f : Nat → Int} {H : Hp} {vs : List V} {i : Nat} (h : Pairs H (js.map fun i : Nat => ((i : Int), f i)) vs) (hi : i < js.length) : ∃ t, vs.getD i .non = .ref t ∧ H t = some (.tup [.int (js[i] : Nat), .int (f js[i])]) := by
  obtain ⟨v, hv, t, rfl, ht⟩ := Paired.get h (i := i) (x := ((js[i] : Int), f js[i])) (by rw [List.getElem?_map, List.getElem?_eq_getElem hi]; rfl)
  exact ⟨t, by simp [List.getD, hv], ht⟩
section
variable {P : Program} {w : World} {K : PySem.W.Frag} {mg : Str → Option Value} {base : Heap}
theorem ok_Floor_go (T : Tp K mg) : FnOk P w K mg base (CXX P w) 5 T.f_Floor_go T.d_Floor_go ["self", "row"] (sp_Floor_go T) := by
  have G_enough : FnOk P w K mg base (CXX P w) 4 T.f_enough T.d_enough ["heaps", "takes"] (sp_enough T) := (ok_enough T).mono (by decide)
  have G_Floor_need_work : FnOk P w K mg base (CXX P w) 4 T.f_Floor_need_work T.d_Floor_need_work ["self", "work"] (sp_Floor_need_work T) := (ok_Floor_need_work T).mono (by decide)
  have cl_Floor := T.cl_Floor
  have na_Floor := T.na_Floor
  refine T.F_Floor_go.okX sc_Floor_go (fun vs H Q E h => ?_) (fun cdv A outer s H vs Q E hr h => ?_)
  · obtain ⟨p, q, ws, fl, fp, rfl, _⟩ := h
    rfl
  · have hu := hr.units
    obtain ⟨p, qa, ws, fl, fp, rfl, hf, hq, hz, e1, e2, q⟩ := h
    obtain ⟨dx, a, b, c, ia, ib, rfl, h1, h2, h3, h4, h5, h6, h7, h8, h9⟩ := id hf
    refine ⟨_, (pss_cons (ps_set (i := 2) sc_Floor_go.nd rfl (Or.inl rfl) (pe_callTy (listOf_K (K := K) rfl) (by rfl) T.n_list PyProof.Rows.boot_list (pa_cons (pe_fldK (K := K) rfl (pv 0) rfl) pa_nil)))
          (pss_cons (ps_for PassesOwn.leaving rfl (pi_listK (K := K) rfl (pv 1)) (pg_name (i := 3) sc_Floor_go.nd rfl (Or.inl rfl)) (pss_cons (ps_expr (pe_meth (pv 0) T.cl_Floor T.M_Floor_need_work G_Floor_need_work hr T.b_Floor_need_work .nil pass_on (pa_cons (pv 3) pa_nil)))
          (pss_cons (ps_if (pt_not (pt_truK (K := K) rfl (pe_call G_enough hr rfl T.m_enough T.F_enough.kp T.b_enough .nil pass_on (pa_cons (pv 2) (pa_cons (pe_ix (ix_K (K := K) rfl) (pe_fldK (K := K) rfl (pv 0) rfl) (pv 3) (fun _ _ => rfl)) pa_nil))) (fun _ => rfl))) (pss_one (ps_raiseK T.gx_Empty T.ex_Empty PySem.F.excBase_ValueError rfl (pa_cons pe_str pa_nil))) pss_nil)
          (pss_cons (ps_for PassesOwn.leaving rfl (pi_listK (K := K) rfl (pe_ix (ix_K (K := K) rfl) (pe_fldK (K := K) rfl (pv 0) rfl) (pv 3) (fun _ _ => rfl))) (pg_tupK (K := K) (n := 2) rfl rfl (pgs_cons (pg_name (i := 4) sc_Floor_go.nd rfl (Or.inl rfl)) (pgs_cons (pg_name (i := 5) sc_Floor_go.nd rfl (Or.inl rfl)) pgs_nil))) (pss_one (ps_augS (pv 2) (pv 4) (get_listK (K := K) rfl) (pv 5) ip_sub set_list)))
          (pss_one (ps_for PassesOwn.leaving rfl (pi_listK (K := K) rfl (pe_ix (ix_K (K := K) rfl) (pe_fldK (K := K) rfl (pv 0) rfl) (pv 3) (fun _ _ => rfl))) (pg_tupK (K := K) (n := 2) rfl rfl (pgs_cons (pg_name (i := 4) sc_Floor_go.nd rfl (Or.inl rfl)) (pgs_cons (pg_name (i := 6) sc_Floor_go.nd rfl (Or.inl rfl)) pgs_nil))) (pss_one (ps_augS (pv 2) (pv 4) (get_listK (K := K) rfl) (pv 6) ip_add set_list))))))))
          (pss_one (ps_fldK (K := K) rfl (pv 0) (pv 2) rfl)))), ?_⟩
    try dsimp only [L2.cxX, L2.cxOf, L2.cxComp]
    walk_at "rds"
    refine Rd.listOfL (.of h5) (fun r hr => ?_)
    have s1 : Same H (upd H r (.lst (fl.heaps.map V.int))) := same_new hr
    have hr1 : (upd H r (.lst (fl.heaps.map V.int))) r = some (.lst (fl.heaps.map V.int)) := upd_same
    generalize upd H r (.lst (fl.heaps.map V.int)) = H1 at *
    have hq1 := s1.seq hq
    walk_at "rds"
    refine for_walk (walks_lst hq) (fun i σ H' => Same H H' ∧ (∃ a1 a2 a3 a4, σ = [some (.ref p), some (.ref qa), some (.ref r), a1, a2, a3, a4]) ∧ ∃ hs, goR fl.many fl.rows fl.heaps (ws.take i) = .ok hs ∧ H' r = some (.lst (hs.map V.int))) ⟨s1, ⟨_, _, _, _, rfl⟩, fl.heaps, rfl, hr1⟩ (fun i σ H' h => h.1) ?_ ?_
    · rintro i σ H2 hi ⟨s2, ⟨a1, a2, a3, a4, rfl⟩, hs, hg, hr2⟩
      have hiw : i < ws.length := by simpa using hi
      have ew := List.getElem?_eq_getElem hiw
      have ev : (ws.map V.int).getD i .non = .int ws[i] := by simp [List.getD, hiw]
      rw [ev]
      have hgs := goR_step hg ew
      have hst := fun b => goR_stop (b := b) hg ew
      generalize ws[i] = w at *
      have hf2 := hf.same s2
      have hlen : hs.length = fl.rows.length := goR_len h8 hg
      walk_at "rds"
      refine ⟨p, w, fl, _, rfl, hf2, fun z => e1 (hst true (by unfold turnR; rw [if_neg z])) H2 s2, fun w0 w1 => ?_⟩
      have g1 := s2 _ _ h1
      have g3 := s2 _ _ h3
      have g4 := s2 _ _ h4
      obtain ⟨x, vs, at1, hx, hpx⟩ := h6.at w0 (takesL_at w0 w1)
      obtain ⟨y, vs', at2, hy, hpy⟩ := h7.at w0 (givesL_at w0 w1)
      have gx := s2 _ _ hx
      have gy := s2 _ _ hy
      have tl := takeRow_len (ls := fl.rows) (w := w)
      walk_at "rds"
      refine ⟨r, x, hs, takeRow fl.rows w, vs, rfl, .of hr2, .of gx, hpx.keep fun _ _ z => s2 _ _ z, takeRow_rg hlen, by omega, fun H3 s3 => ?_⟩
      rw [enoughL_eq hlen]
      cases hrd : readyL fl.rows hs w with
      | false =>
        walk_at "rds"
        exact e2 (hst false (by unfold turnR; rw [if_pos ⟨w0, w1⟩, hrd]; rfl)) H3 (s2.trans s3)
      | true =>
        have hok : goR fl.many fl.rows fl.heaps (ws.take (i + 1)) = .ok (shiftL fl.rows hs w) := by
          rw [hgs]; unfold turnR; rw [if_pos ⟨w0, w1⟩, hrd, if_pos rfl]
        have s13 := s2.trans s3
        have k1 := s13 _ _ h1
        have k3 := s13 _ _ h3
        have kx := s13 _ _ hx
        have hr3 := s3 _ _ hr2
        have nxr : x ≠ r := ne_of_none hx hr
        have nyr : y ≠ r := ne_of_none hy hr
        have vl : vs.length = (enterL fl.rows w).length := by rw [← Paired.length hpx]; unfold takeRow; simp
        have vl' : vs'.length = (leaveL fl.rows w).length := by rw [← Paired.length hpy]; unfold giveRow; simp
        walk_at "rds"
        refine for_walk (walks_lst (SqL.of hx)) (fun j σ H' => Same H H' ∧ (∃ a2 a3 a4, σ = [some (.ref p), some (.ref qa), some (.ref r), some (.int w), a2, a3, a4]) ∧ H' r = some (.lst ((bump (fun i => - (fl.rows.getD i dB).take) hs ((enterL fl.rows w).take j)).map V.int))) ⟨s13, ⟨_, _, _, rfl⟩, hr3⟩ (fun i σ H' h => h.1) ?_ ?_
        · rintro j σ H4 hj ⟨s4, ⟨a2, a3, a4, rfl⟩, hr4⟩
          have hj' : j < (enterL fl.rows w).length := by omega
          obtain ⟨t, ht1, ht2⟩ := row_at hpx hj'
          have hlt := enterL_lt (List.getElem_mem hj')
          have bs' := bump_step (f := fun i => - (fl.rows.getD i dB).take) (hs := hs) hj'
          rw [ht1]
          refine Rd.gtup (.of (s4 _ _ ht2)) rfl ?_
          generalize (enterL fl.rows w)[j] = m at *
          have bl := bump_len (fun i => - (fl.rows.getD i dB).take) ((enterL fl.rows w).take j) hs
          generalize bump (fun i => - (fl.rows.getD i dB).take) hs ((enterL fl.rows w).take j) = us at *
          have at3 := at_ints (ns := us) (k := (m : Int)) (Int.natCast_nonneg m) (by omega)
          have ml : (m : Int) < ((us.map V.int).length : Int) := by simp; omega
          walk_at "rds"
          refine ⟨s4.new hr, ⟨_, _, _, rfl⟩, ?_⟩
          rw [upd_same, bs', List.map_set]
          rfl
        · rintro σ H4 ⟨s4, ⟨a2, a3, a4, rfl⟩, hr4⟩
          have m1 := s4 _ _ h1
          have m4 := s4 _ _ h4
          have my := s4 _ _ hy
          rw [vl, List.take_length] at hr4
          walk_at "rds"
          have bl := bump_len (fun i => - (fl.rows.getD i dB).take) (enterL fl.rows w) hs
          refine for_walk (walks_lst (SqL.of hy)) (fun j σ H' => Same H H' ∧ (∃ a2 a3 a4, σ = [some (.ref p), some (.ref qa), some (.ref r), some (.int w), a2, a3, a4]) ∧ H' r = some (.lst ((bump (fun i => (fl.rows.getD i dB).give) (bump (fun i => - (fl.rows.getD i dB).take) hs (enterL fl.rows w)) ((leaveL fl.rows w).take j)).map V.int))) ⟨s4, ⟨_, _, _, rfl⟩, hr4⟩ (fun i σ H' h => h.1) ?_ ?_
          · rintro j σ H5 hj ⟨s5, ⟨a2, a3, a4, rfl⟩, hr5⟩
            have hj' : j < (leaveL fl.rows w).length := by omega
            obtain ⟨t, ht1, ht2⟩ := row_at hpy hj'
            have hlt := leaveL_lt (List.getElem_mem hj')
            have bs' := bump_step (f := fun i => (fl.rows.getD i dB).give) (hs := bump (fun i => - (fl.rows.getD i dB).take) hs (enterL fl.rows w)) hj'
            rw [ht1]
            refine Rd.gtup (.of (s5 _ _ ht2)) rfl ?_
            generalize (leaveL fl.rows w)[j] = m at *
            have bl2 := bump_len (fun i => (fl.rows.getD i dB).give) ((leaveL fl.rows w).take j) (bump (fun i => - (fl.rows.getD i dB).take) hs (enterL fl.rows w))
            generalize bump (fun i => (fl.rows.getD i dB).give) (bump (fun i => - (fl.rows.getD i dB).take) hs (enterL fl.rows w)) ((leaveL fl.rows w).take j) = us at *
            have at3 := at_ints (ns := us) (k := (m : Int)) (Int.natCast_nonneg m) (by omega)
            have ml : (m : Int) < ((us.map V.int).length : Int) := by simp; omega
            walk_at "rds"
            refine ⟨s5.new hr, ⟨_, _, _, rfl⟩, ?_⟩
            rw [upd_same, bs', List.map_set]
            rfl
          · rintro σ H5 ⟨s5, ⟨a2, a3, a4, rfl⟩, hr5⟩
            rw [vl', List.take_length, shift_bump hlen] at hr5
            walk_at "rds"
            exact ⟨s5, ⟨_, _, _, _, rfl⟩, _, hok, hr5⟩
    · rintro σ H2 ⟨s2, ⟨a1, a2, a3, a4, rfl⟩, hs, hg, hr2⟩
      rw [List.length_map, List.take_length] at hg
      have g1 := s2 _ _ h1
      have npr : p ≠ r := ne_of_none h1 hr
      walk_at "rds"
      have f3 : Frame [p] H2 (upd H2 p (.ins T.C_Floor dx [("takes", .ref a), ("gives", .ref b), ("heaps", .ref r)])) := frame_upd (by simp) g1 (by intro _ z; cases z)
      have kk : ∀ x, x ≠ p → H x ≠ none → (upd H2 p (.ins T.C_Floor dx [("takes", .ref a), ("gives", .ref b), ("heaps", .ref r)])) x = H x := fun x n d => by
        rw [upd_ne n]
        cases e : H x with
        | none => exact absurd e d
        | some o => exact s2 _ _ e
      have tt : ∀ b' xs, H b' = some (.tup xs) → (upd H2 p (.ins T.C_Floor dx [("takes", .ref a), ("gives", .ref b), ("heaps", .ref r)])) b' = some (.tup xs) := fun b' xs z => f3.tups _ _ (s2 _ _ z)
      have nl : ∀ {ls : List (List (Int × Int))} {is : List Addr}, LL H ls is → ∀ x ∈ is, x ≠ p := fun {ls is} l x hx z => by
        obtain ⟨i, hi, rfl⟩ := List.getElem_of_mem hx
        have hi2 : i < ls.length := by rw [← l.len]; exact hi
        obtain ⟨y, e3, vs, e4, _⟩ := Paired.get l (List.getElem?_eq_getElem hi2)
        rw [List.getElem?_eq_getElem hi] at e3
        cases e3
        rw [z, h1] at e4
        cases e4
      have fp1 : Frame (p :: dx :: a :: b :: c :: (ia ++ ib)) H (upd H2 p (.ins T.C_Floor dx [("takes", .ref a), ("gives", .ref b), ("heaps", .ref r)])) := s2.frame.trans (f3.mono (by simp))
      refine q hs hg _ (p :: dx :: a :: b :: r :: (ia ++ ib)) ⟨dx, a, b, r, ia, ib, rfl, upd_same, ?_, ?_, ?_, ?_, h6.keep tt (fun x hx => kk x (nl h6 x hx) (h6.dom x hx)), h7.keep tt (fun x hx => kk x (nl h7 x hx) (h7.dom x hx)), goR_len h8 hg, h9⟩ fp1 (fun x hx => ?_)
      · exact (kk _ (ne_of h2 h1 (by intro z; cases z)) (by rw [h2]; simp)).trans h2
      · exact (kk _ (ne_of h3 h1 (by intro z; cases z)) (by rw [h3]; simp)).trans h3
      · exact (kk _ (ne_of h4 h1 (by intro z; cases z)) (by rw [h4]; simp)).trans h4
      · rw [upd_ne npr.symm]; exact hr2
      · simp only [List.mem_cons, List.mem_append] at hx ⊢
        rcases hx with rfl | rfl | rfl | rfl | rfl | hx | hx
        · exact .inl (.inl rfl)
        · exact .inl (.inr (.inl rfl))
        · exact .inl (.inr (.inr (.inl rfl)))
        · exact .inl (.inr (.inr (.inr (.inl rfl))))
        · exact .inr hr
        · exact .inl (.inr (.inr (.inr (.inr (.inr (.inl hx))))))
        · exact .inl (.inr (.inr (.inr (.inr (.inr (.inr hx))))))
end
def sp_form_value {K : PySem.W.Frag} {mg : Str → Option Value} (T : Tp K mg) : Sp := fun vs H Q _ => ∃ (f tm c : Addr) (k : Int) (tvs : List V) (ts : List (Int × Int)) (xs : List Int), vs = [.ref f, .ref c] ∧ H f = some (.tup [.int k, .ref tm]) ∧ H tm = some (.tup tvs) ∧ Terms H tvs ts ∧ SqL K H c (xs.map V.int) ∧ ts.length ≤ 1000 ∧ (∀ t ∈ ts, 0 ≤ t.1 ∧ t.1 < (xs.length : Int) ∧ IntMulOk t.2 (xs.getD t.1.toNat 0)) ∧
  ∀ H' : Hp, Same H H' → Q (.int (formV k ts xs)) H'
section
variable {P : Program} {w : World} {K : PySem.W.Frag} {mg : Str → Option Value} {base : Heap}
theorem ok_form_value (T : Tp K mg) : FnOk P w K mg base (CXX P w) 1 T.f_form_value T.d_form_value ["form", "pieces"] (sp_form_value T) := by
  refine T.F_form_value.okX sc_form_value (fun vs H Q E h => ?_) (fun cdv A outer s H vs Q E hr h => ?_)
  · obtain ⟨f, tm, c, k, tvs, ts, xs, rfl, _⟩ := h
    rfl
  · have hu := hr.units
    obtain ⟨f, tm, c, k, tvs, ts, xs, rfl, hf, htm, hT, hc, htz, hts, q⟩ := h
    have htl := hT.length
    have hst : SqT K H tm tvs := .of htm
    refine ⟨_, (pss_one (ps_ret (pe_op (op_addK (K := K) rfl) (pe_ix (ix_K (K := K) rfl) (pv 0) pe_int (fun _ _ => rfl)) (pe_callB (sum_K (K := K) rfl rfl) (by rfl) T.n_sum PyProof.Rows.boot_sum (pa_cons (pe_compN (xs := ["slot", "factor"]) rfl (cscope (x := "slot") (zs := ["pieces"]) (ix := [1]) (defScope s_form_value) ["form", "pieces"] rfl rfl (by decide +kernel)) (pi_tupK (K := K) rfl (pe_ix (ix_K (K := K) rfl) (pv 0) pe_int (fun _ _ => rfl))) (fun cl C s H fp => ⟨(pg_tupK (K := K) (n := 2) rfl rfl (pgs_cons (pg_name (i := 0) (show (["slot", "factor", "pieces"] : List Str).Nodup by decide +kernel) rfl (Or.inl rfl)) (pgs_cons (pg_name (i := 1) (show (["slot", "factor", "pieces"] : List Str).Nodup by decide +kernel) rfl (Or.inl rfl)) pgs_nil))), pif_nil, (pe_op op_mulU (pv 1) (pe_ix (ix_K (K := K) rfl) (pv 2) (pv 0) (fun _ _ => rfl)))⟩)) pa_nil))))), ?_⟩
    try dsimp only [L2.cxX, L2.cxOf, L2.cxComp]
    walk_at "rds"
    unfold iTup
    walk_at "rds"
    refine ⟨tm, rfl, ⟨_, hst⟩, ?_⟩
    refine compN_walk (own := 2) (walks_tup hst).y (small1000 (by omega)) (fun i => [some (.int (ts.getD i (0, 0)).1), some (.int (ts.getD i (0, 0)).2)]) (fun _ => rfl) (fun _ => true) (fun i v _ => v = .int ((ts.getD i (0, 0)).2 * xs.getD (ts.getD i (0, 0)).1.toNat 0)) (fun _ _ _ _ _ z => z) (fun i a' H' v H3 Kg hi sm y ha' k => ?_) (fun i H' Kc hi sm k => ?_) (fun pp i H' Kc hi hci hp0 hp1 sm k => ?_) (fun d H3 zs hd sm hl' hR => ?_)
    · obtain ⟨rfl, rfl⟩ := y
      obtain ⟨x1, x2, rfl⟩ : ∃ x1 x2, a' = [x1, x2] := by
        match a', ha' with
        | [x1, x2], _ => exact ⟨x1, x2, rfl⟩
      obtain ⟨t, et, ht⟩ := hT.getD (i := i) (by omega)
      rw [et]
      refine Rd.gtup (.of (sm _ _ ht)) rfl ?_
      walk_at "rds"
      exact k _ (Same.refl _)
    · walk_at "rds"
      exact k H' (Same.refl H')
    · have hil : i < ts.length := by omega
      have hm : ts.getD i (0, 0) ∈ ts := by rw [getD_of hil]; exact List.getElem_mem _
      obtain ⟨t0, t1, mo⟩ := hts _ hm
      generalize ts.getD i (0, 0) = tt at *
      have hc' := sm.seq hc
      have at1 := at_ints28 t0 t1
      walk_at "rds"
      exact k _ H' (Same.refl H') rfl
    · rw [List.filter_eq_self.mpr (by simp), htl] at hR
      have ey := paired_ints hR
      rw [map_range' (fun t : Int × Int => t.2 * xs.getD t.1.toNat 0)] at ey
      have hds := SqL.of (K := K) (ey ▸ hl')
      walk_at "rds"
      refine ⟨d, _, rfl, hds, ?_⟩
      walk_at "rds"
      exact q H3 sm
end
def sp_Lane_lay_behind {K : PySem.W.Frag} {mg : Str → Option Value} (T : Tp K mg) : Sp := fun vs H Q E => ∃ (p c : Addr) (xs ps : List Int) (fp : List Addr), vs = [.ref p, .ref c] ∧ LaneAt T H p xs fp ∧ H c = some (.lst (ps.map V.int)) ∧ c ∉ fp ∧ ps.length ≤ 1000 ∧ xs.length ≤ 100000 ∧ ∀ H' fp', LaneAt T H' p (xs ++ ps) fp' → Frame fp H H' → Grows fp fp' H → Q .non H'
section
variable {P : Program} {w : World} {K : PySem.W.Frag} {mg : Str → Option Value} {base : Heap}
theorem ok_Lane_lay_behind (T : Tp K mg) : FnOk P w K mg base (CXX P w) 1 T.f_Lane_lay_behind T.d_Lane_lay_behind ["self", "pieces"] (sp_Lane_lay_behind T) := by
  have cl_Lane := T.cl_Lane
  have na_Lane := T.na_Lane
  refine T.F_Lane_lay_behind.okX sc_Lane_lay_behind (fun vs H Q E h => ?_) (fun cdv A outer s H vs Q E hr h => ?_)
  · obtain ⟨p, c, xs, ps, fp, rfl, _⟩ := h
    rfl
  · have hu := hr.units
    obtain ⟨p, c, xs, ps, fp, rfl, hl, hc, ncf, hpz, hxz, q⟩ := h
    obtain ⟨dx, l, laid, g, rfl, h1, h2, h3, h4, h5, h6⟩ := id hl
    have n1 : p ≠ l := fun z => by rw [z, h3] at h1; cases h1
    have n2 : dx ≠ l := fun z => by rw [z, h3] at h2; cases h2
    refine ⟨_, (pss_one (ps_expr (pe_bmK (K := K) rfl PySem.F.plainAttrs_list PySem.F.slot_list_extend PySem.F.type_list_extend mt_extend (pe_fldK (K := K) rfl (pv 0) rfl) (pa_cons (pv 1) pa_nil)))), ?_⟩
    try dsimp only [L2.cxX, L2.cxOf, L2.cxComp]
    walk_at "rds"
    refine ⟨l, c, _, _, rfl, rfl, h3, hc, Nat.le_of_lt (small20000 (by simp only [List.length_map]; omega)), ?_⟩
    refine q _ [p, dx, l] ⟨dx, l, laid ++ ps, g, rfl, by rw [upd_ne n1]; exact h1, by rw [upd_ne n2]; exact h2, by rw [upd_same, List.map_append], by rw [List.length_append]; omega, by rw [List.drop_append_of_le_length h4, h5], by rw [List.length_append, List.length_append]; omega⟩ (frame_upd (by simp) h3 (by intro _ z; cases z)) Grows.refl
end
def sp_Lane_lying {K : PySem.W.Frag} {mg : Str → Option Value} (T : Tp K mg) : Sp := fun vs H Q E => ∃ (p dx l : Addr) (laid : List Int) (g : Nat), vs = [.ref p] ∧ H p = some (.ins T.C_Lane dx [("laid", .ref l), ("gone", .int g)]) ∧ H dx = some (.own p) ∧ H l = some (.lst (laid.map V.int)) ∧ g ≤ laid.length ∧ ∀ r, H r = none → Q (.ref r) (upd H r (.lst ((laid.drop g).map V.int)))
theorem rd_Lane_lying {K : PySem.W.Frag} {mg : Str → Option Value} {T : Tp K mg} {H : Hp} {p : Addr} {xs : List Int} {fp : List Addr} {Q : VK} {E : XK} (h : LaneAt T H p xs fp) (q : ∀ r, H r = none → Q (.ref r) (upd H r (.lst (xs.map V.int)))) : sp_Lane_lying T ([.ref p] ++ []) H Q E := by
  obtain ⟨dx, l, laid, g, rfl, h1, h2, h3, h4, h5, h6⟩ := h
  exact ⟨p, dx, l, laid, g, rfl, h1, h2, h3, h4, h5 ▸ q⟩
section
variable {P : Program} {w : World} {K : PySem.W.Frag} {mg : Str → Option Value} {base : Heap}
theorem ok_Lane_lying (T : Tp K mg) : FnOk P w K mg base (CXX P w) 1 T.f_Lane_lying T.d_Lane_lying ["self"] (sp_Lane_lying T) := by
  have cl_Lane := T.cl_Lane
  have na_Lane := T.na_Lane
  refine T.F_Lane_lying.okX sc_Lane_lying (fun vs H Q E h => ?_) (fun cdv A outer s H vs Q E hr h => ?_)
  · obtain ⟨p, dx, l, laid, g, rfl, _⟩ := h
    rfl
  · have hu := hr.units
    obtain ⟨p, dx, l, laid, g, rfl, h1, h2, h3, h4, q⟩ := h
    have h3q := SqL.of (K := K) h3
    refine ⟨_, (pss_one (ps_ret (pe_slice (sl_K (K := K) rfl) (pe_fldK (K := K) rfl (pv 0) rfl) (po_some (pe_fldK (K := K) rfl (pv 0) rfl)) po_none))), ?_⟩
    try dsimp only [L2.cxX, L2.cxOf, L2.cxComp]
    walk_at "rds"
    refine Rd.slL h3q ?_
    intro r hr
    rw [cut_from (by rw [List.length_map]; exact h4), ← List.map_drop]
    exact q r hr
end
def sp_Lane_drawn_off {K : PySem.W.Frag} {mg : Str → Option Value} (T : Tp K mg) : Sp := fun vs H Q E => ∃ (p : Addr) (m : Nat) (xs : List Int) (fp : List Addr), vs = [.ref p, .int m] ∧ LaneAt T H p xs fp ∧ m ≤ xs.length ∧ xs.length ≤ 100000 ∧
  ∀ r H' fp', H r = none → LaneAt T H' p (xs.drop m) fp' → H' r = some (.lst ((xs.take m).map V.int)) → r ∉ fp' → Frame fp H H' → Grows fp fp' H → Q (.ref r) H'
section
variable {P : Program} {w : World} {K : PySem.W.Frag} {mg : Str → Option Value} {base : Heap}
theorem ok_Lane_drawn_off (T : Tp K mg) : FnOk P w K mg base (CXX P w) 2 T.f_Lane_drawn_off T.d_Lane_drawn_off ["self", "many"] (sp_Lane_drawn_off T) := by
  have G_Lane_lying : FnOk P w K mg base (CXX P w) 1 T.f_Lane_lying T.d_Lane_lying ["self"] (sp_Lane_lying T) := (ok_Lane_lying T).mono (by decide)
  have cl_Lane := T.cl_Lane
  have na_Lane := T.na_Lane
  refine T.F_Lane_drawn_off.okX sc_Lane_drawn_off (fun vs H Q E h => ?_) (fun cdv A outer s H vs Q E hr h => ?_)
  · obtain ⟨p, m, xs, fp, rfl, _⟩ := h
    rfl
  · have hu := hr.units
    obtain ⟨p, m, xs, fp, rfl, hl, hm, hz, q⟩ := h
    obtain ⟨dx, l, laid, g, rfl, h1, h2, h3, h4, h5, h6⟩ := id hl
    have h3q := SqL.of (K := K) h3
    refine ⟨_, (pss_cons (ps_set (i := 2) sc_Lane_drawn_off.nd rfl (Or.inl rfl) (pe_slice (sl_K (K := K) rfl) (pe_fldK (K := K) rfl (pv 0) rfl) (po_some (pe_fldK (K := K) rfl (pv 0) rfl)) (po_some (pe_op (op_addK (K := K) rfl) (pe_fldK (K := K) rfl (pv 0) rfl) (pv 1)))))
          (pss_cons (ps_fldaugK (K := K) rfl (pv 0) (pv 1) in_add)
          (pss_cons (ps_if (pt_cmpR op_gt (pe_op op_mulU (pe_fldK (K := K) rfl (pv 0) rfl) pe_int) (pe_callB (len_K (K := K) rfl) (by rfl) T.n_len PySem.boot_len (pa_cons (pe_fldK (K := K) rfl (pv 0) rfl) pa_nil)) (nomark _)) (pss_cons (ps_fldK (K := K) rfl (pv 0) (pe_meth0 (pv 0) T.cl_Lane T.M_Lane_lying G_Lane_lying hr T.b_Lane_lying .nil pass_on) rfl)
          (pss_one (ps_fldK (K := K) rfl (pv 0) pe_int rfl))) pss_nil)
          (pss_one (ps_ret (pv 2)))))), ?_⟩
    try dsimp only [L2.cxX, L2.cxOf, L2.cxComp]
    walk_at "rds"
    refine Rd.slL h3q ?_
    intro r hr
    rw [cut_mid (by omega) (by omega), ← List.map_drop, ← List.map_take, show ((g : Int)).toNat = g from rfl, show ((m : Int)).toNat = m from rfl, h5]
    have s1 : Same H (upd H r (.lst ((xs.take m).map V.int))) := same_new hr
    have hr1 : (upd H r (.lst ((xs.take m).map V.int))) r = some (.lst ((xs.take m).map V.int)) := upd_same
    have hl1 := hl.same s1
    generalize upd H r (.lst ((xs.take m).map V.int)) = H1 at *
    have h11 := s1 _ _ h1
    have h21 := s1 _ _ h2
    have h31 := s1 _ _ h3
    walk_at "rds"
    unfold sFldAug
    walk_at "rds"
    refine ⟨p, _, dx, _, _, rfl, h11, cl_Lane, NoAttrs.get na_Lane (by decide +kernel), Rd.lk1 (by decide +kernel) Rd.lk0, ?_⟩
    walk_at "rds"
    refine ⟨g, m, rfl, rfl, ?_⟩
    refine ⟨dx, _, h11, by simp only [List.length_cons, List.length_nil]; decide, ?_⟩
    have np : l ≠ p := fun z => by rw [z, h11] at h31; cases h31
    have nd : dx ≠ p := fun z => by rw [z, h11] at h21; cases h21
    have nr : r ≠ p := fun z => by rw [z, h1] at hr; cases hr
    have nrl : r ≠ l := fun z => by rw [z, h3] at hr; cases hr
    have nrd : r ≠ dx := fun z => by rw [z, h2] at hr; cases hr
    have v1 : (upd H1 p (.ins T.C_Lane dx [("laid", .ref l), ("gone", .int ((g : Int) + m))])) p = some (.ins T.C_Lane dx [("laid", .ref l), ("gone", .int ((g : Int) + m))]) := upd_same
    have v2 : (upd H1 p (.ins T.C_Lane dx [("laid", .ref l), ("gone", .int ((g : Int) + m))])) dx = some (.own p) := by rw [upd_ne nd]; exact h21
    have v3 : (upd H1 p (.ins T.C_Lane dx [("laid", .ref l), ("gone", .int ((g : Int) + m))])) l = some (.lst (laid.map V.int)) := by rw [upd_ne np]; exact h31
    have v4 : (upd H1 p (.ins T.C_Lane dx [("laid", .ref l), ("gone", .int ((g : Int) + m))])) r = some (.lst ((xs.take m).map V.int)) := by rw [upd_ne nr]; exact hr1
    have f1 : Frame [p, dx, l] H (upd H1 p (.ins T.C_Lane dx [("laid", .ref l), ("gone", .int ((g : Int) + m))])) := s1.frame.trans (frame_upd (by simp) h11 (by intro _ z; cases z))
    show tSeq _ _ _ _ (upd H1 p (.ins T.C_Lane dx [("laid", .ref l), ("gone", .int ((g : Int) + m))]))
    generalize upd H1 p (.ins T.C_Lane dx [("laid", .ref l), ("gone", .int ((g : Int) + m))]) = H2 at *
    have v3q := SqL.of (K := K) v3
    have egm : ((g : Int) + m) = ((g + m : Nat) : Int) := by omega
    have hlen : xs.length = laid.length - g := by rw [← h5, List.length_drop]
    have hdd : laid.drop (g + m) = xs.drop m := by rw [← h5, List.drop_drop]
    rw [egm] at v1
    by_cases c : (laid.length : Int) < ((g : Int) + m) * 2
    · walk_at "rds"
      refine ⟨p, dx, l, laid, g + m, rfl, v1, v2, v3, by omega, fun u hu => ?_⟩
      have nup : u ≠ p := fun z => by rw [z, v1] at hu; cases hu
      have nud : u ≠ dx := fun z => by rw [z, v2] at hu; cases hu
      have nul : u ≠ l := fun z => by rw [z, v3] at hu; cases hu
      have nur : r ≠ u := fun z => by rw [← z, v4] at hu; cases hu
      have hu0 : H u = none := by
        cases e : H u with
        | none => rfl
        | some o => rw [f1.keep u o e (by simp [nup, nud, nul])] at hu; cases hu
      have s3 : Same H2 (upd H2 u (.lst ((laid.drop (g + m)).map V.int))) := same_new hu
      have w5 : (upd H2 u (.lst ((laid.drop (g + m)).map V.int))) u = some (.lst ((laid.drop (g + m)).map V.int)) := upd_same
      generalize upd H2 u (.lst ((laid.drop (g + m)).map V.int)) = H3 at *
      have w1 := s3 _ _ v1
      have w2 := s3 _ _ v2
      have w4 := s3 _ _ v4
      walk_at "rds"
      refine q r _ [p, dx, u] hr ⟨dx, u, laid.drop (g + m), 0, rfl, upd_same, by rw [upd_ne nd, upd_ne nd]; exact w2, by rw [upd_ne nup, upd_ne nup]; exact w5, Nat.zero_le _, hdd, by rw [hdd]; omega⟩ (by rw [upd_ne nr, upd_ne nr]; exact w4) (by simp [nr, nrd, nur]) ((f1.trans s3.frame).trans ((frame_upd (by simp) w1 (by intro _ z; cases z)).trans (frame_upd (by simp) upd_same (by intro _ z; cases z)))) (fun x hx => ?_)
      simp only [List.mem_cons, List.not_mem_nil, or_false] at hx
      rcases hx with rfl | rfl | rfl
      · exact .inl (by simp)
      · exact .inl (by simp)
      · exact .inr hu0
    · walk_at "rds"
      exact q r _ [p, dx, l] hr ⟨dx, l, laid, g + m, rfl, v1, v2, v3, by omega, hdd, by rw [List.length_drop]; omega⟩ v4 (by simp [nr, nrd, nrl]) f1 Grows.refl
end
def sp_Mill_pass_on {K : PySem.W.Frag} {mg : Str → Option Value} (T : Tp K mg) : Sp := fun vs H Q E => ∃ (p : Addr) (w : Int) (fl : FM) (fss : List (List Form)) (st : Nat → List Int) (fp : List Addr), vs = [.ref p, .int w] ∧ MillAt T H p fl fss st fp ∧ 0 ≤ w ∧ w < fl.many ∧ fss.length = fl.many.toNat ∧ FormsOk fl.rows w (fss.getD w.toNat []) ∧ BeltsOk fl.rows ∧ MM.ok (sysOf fl.rows fss) st w ∧ (∀ i < fl.rows.length, (st i).length ≤ 50000) ∧
  ∀ H' fp', MillAt T H' p fl fss (MM.step (sysOf fl.rows fss) st w) fp' → Frame fp H H' → Grows fp fp' H → Q .non H'
section
variable {P : Program} {w : World} {K : PySem.W.Frag} {mg : Str → Option Value} {base : Heap}
theorem ok_Mill_pass_on (T : Tp K mg) : FnOk P w K mg base (CXX P w) 3 T.f_Mill_pass_on T.d_Mill_pass_on ["self", "work"] (sp_Mill_pass_on T) := by
  have G_form_value : FnOk P w K mg base (CXX P w) 2 T.f_form_value T.d_form_value ["form", "pieces"] (sp_form_value T) := (ok_form_value T).mono (by decide)
  have G_Lane_lay_behind : FnOk P w K mg base (CXX P w) 2 T.f_Lane_lay_behind T.d_Lane_lay_behind ["self", "pieces"] (sp_Lane_lay_behind T) := (ok_Lane_lay_behind T).mono (by decide)
  have G_Lane_drawn_off : FnOk P w K mg base (CXX P w) 2 T.f_Lane_drawn_off T.d_Lane_drawn_off ["self", "many"] (sp_Lane_drawn_off T) := (ok_Lane_drawn_off T).mono (by decide)
  have cl_Lane := T.cl_Lane
  have na_Lane := T.na_Lane
  have cl_Mill := T.cl_Mill
  have na_Mill := T.na_Mill
  refine T.F_Mill_pass_on.okX sc_Mill_pass_on (fun vs H Q E h => ?_) (fun cdv A outer s H vs Q E hr h => ?_)
  · obtain ⟨p, w, fl, fss, st, fp, rfl, _⟩ := h
    rfl
  · have hu := hr.units
    obtain ⟨p, w, fl, fss, st, fp, rfl, hm, w0, w1, hfl, hfo, hb, hok, hst, q⟩ := h
    obtain ⟨dx, f, c, la, ffp, fvs, as, fps, rfl, h1, h2, h3, h4, h5, h6, h7, h8, h9, h10⟩ := id hm
    obtain ⟨fdx, fa, fb, fc, ia, ib, hffp, g1, g2, g3, g4, g5, g6, g7, g8, g9⟩ := id h3
    obtain ⟨ta, hta, tvs, hta1, hta2⟩ := Paired.get g6 (takesL_at w0 w1)
    obtain ⟨ga, hga, gvs, hga1, hga2⟩ := Paired.get g7 (givesL_at w0 w1)
    have hatT : atI (ia.map V.ref) w = some (.ref ta) := by
      have := atI_nat (xs := ia.map V.ref) (j := w.toNat) (v := .ref ta) (by rw [List.getElem?_map, hta]; rfl)
      rwa [Int.toNat_of_nonneg w0] at this
    have hatG : atI (ib.map V.ref) w = some (.ref ga) := by
      have := atI_nat (xs := ib.map V.ref) (j := w.toNat) (v := .ref ga) (by rw [List.getElem?_map, hga]; rfl)
      rwa [Int.toNat_of_nonneg w0] at this
    have mta : ta ∈ ffp := by rw [hffp]; simp [List.mem_of_getElem? hta]
    have mga : ga ∈ ffp := by rw [hffp]; simp [List.mem_of_getElem? hga]
    have mf : f ∈ ffp := by rw [hffp]; simp
    have mfa : fa ∈ ffp := by rw [hffp]; simp
    have mfb : fb ∈ ffp := by rw [hffp]; simp
    have offL : ∀ x ∈ p :: dx :: c :: la :: ffp, x ∉ flatF as.length fps := fun x hx z => by
      obtain ⟨i, hi, z⟩ := mem_flatF.mp z
      exact h9 i hi x z hx
    have hwf : w.toNat < fss.length := by omega
    obtain ⟨wa, wvs, hwv, hwa, hwF⟩ := paired_getD (d := V.non) (e := ([] : List Form)) h5 hwf
    have hatF : atI fvs w = some (.ref wa) := by
      have hv : w.toNat < fvs.length := by rw [Paired.length h5]; exact hwf
      have := atI_nat (xs := fvs) (j := w.toNat) (v := .ref wa) (by rw [List.getElem?_eq_getElem hv]; rw [← hwv, List.getD_eq_getElem?_getD, List.getElem?_eq_getElem hv]; rfl)
      rwa [Int.toNat_of_nonneg w0] at this
    have hfew := hb.few
    refine ⟨_, (pss_cons (ps_set (i := 2) sc_Mill_pass_on.nd rfl (Or.inr rfl) (pe_lst pa_nil))
          (pss_cons (ps_for PassesOwn.leaving rfl (pi_listK (K := K) rfl (pe_ix (ix_K (K := K) rfl) (pe_fldK (K := K) rfl (pe_fldK (K := K) rfl (pv 0) rfl) rfl) (pv 1) (fun _ _ => rfl))) (pg_tupK (K := K) (n := 2) rfl rfl (pgs_cons (pg_name (i := 3) sc_Mill_pass_on.nd rfl (Or.inl rfl)) (pgs_cons (pg_name (i := 4) sc_Mill_pass_on.nd rfl (Or.inl rfl)) pgs_nil))) (pss_one (ps_expr (pe_bmK (K := K) rfl PySem.F.plainAttrs_list PySem.F.slot_list_extend PySem.F.type_list_extend mt_extend (pv 2) (pa_cons (pe_meth (pe_ix (ix_K (K := K) rfl) (pe_fldK (K := K) rfl (pv 0) rfl) (pv 3) (fun _ _ => rfl)) T.cl_Lane T.M_Lane_drawn_off G_Lane_drawn_off hr T.b_Lane_drawn_off .nil pass_on (pa_cons (pv 4) pa_nil)) pa_nil)))))
          (pss_cons (ps_compN (j := 5) (xs := ["form"]) rfl (cscope (x := "form") (zs := ["slots"]) (ix := [2]) (defScope s_Mill_pass_on) ["self", "work", "slots", "belt", "take", "given", "done", "give"] rfl rfl (by decide +kernel)) (pi_tupK (K := K) rfl (pe_ix (ix_K (K := K) rfl) (pe_fldK (K := K) rfl (pv 0) rfl) (pv 1) (fun _ _ => rfl))) (fun cl C s H fp => ⟨(pg_name (i := 0) (show (["form", "slots"] : List Str).Nodup by decide +kernel) rfl (Or.inl rfl)), pif_nil, (pe_call G_form_value hr rfl T.m_form_value T.F_form_value.kp T.b_form_value .nil passX0 (pa_cons (pv 0) (pa_cons (pv 1) pa_nil)))⟩) sc_Mill_pass_on.nd rfl (Or.inl rfl))
          (pss_cons (ps_set (i := 6) sc_Mill_pass_on.nd rfl (Or.inl rfl) pe_int)
          (pss_one (ps_for PassesOwn.leaving rfl (pi_listK (K := K) rfl (pe_ix (ix_K (K := K) rfl) (pe_fldK (K := K) rfl (pe_fldK (K := K) rfl (pv 0) rfl) rfl) (pv 1) (fun _ _ => rfl))) (pg_tupK (K := K) (n := 2) rfl rfl (pgs_cons (pg_name (i := 3) sc_Mill_pass_on.nd rfl (Or.inl rfl)) (pgs_cons (pg_name (i := 7) sc_Mill_pass_on.nd rfl (Or.inl rfl)) pgs_nil))) (pss_cons (ps_expr (pe_meth (pe_ix (ix_K (K := K) rfl) (pe_fldK (K := K) rfl (pv 0) rfl) (pv 3) (fun _ _ => rfl)) T.cl_Lane T.M_Lane_lay_behind G_Lane_lay_behind hr T.b_Lane_lay_behind .nil pass_on (pa_cons (pe_slice (sl_K (K := K) rfl) (pv 5) (po_some (pv 6)) (po_some (pe_op (op_addK (K := K) rfl) (pv 6) (pv 7)))) pa_nil)))
          (pss_one (ps_aug (i := 6) sc_Mill_pass_on.nd rfl (Or.inl rfl) (pv 7) ip_add))))))))), ?_⟩
    try dsimp only [L2.cxX, L2.cxOf, L2.cxComp]
    walk_at "rds"
    refine ⟨by show 0 ≤ sizeLine; decide, fun r hr => ?_⟩
    have f1 : Frame (flatF as.length fps) H (upd H r (.lst [])) := frame_new Frame.refl hr
    have v1 : (upd H r (.lst [])) r = some (.lst []) := upd_same
    have s1 : Same H (upd H r (.lst [])) := same_new hr
    generalize upd H r (.lst []) = H1 at *
    have p1 := f1.keep _ _ h1 (offL _ (by simp))
    have pf1 := f1.keep _ _ g1 (offL _ (by simp [mf]))
    have pa1 := f1.keep _ _ g3 (offL _ (by simp [mfa]))
    have pt1 := f1.keep _ _ hta1 (offL _ (by simp [mta]))
    have pa1q := SqL.of (K := K) pa1
    have pt1q := SqL.of (K := K) pt1
    have cl_Floor := T.cl_Floor
    have na_Floor := T.na_Floor
    walk_at "rds"
    have ent := nodup_filter_range fl.rows.length (fun i => decide ((fl.rows.getD i dB).taker = w))
    change (enterL fl.rows w).Nodup at ent
    have enl : ∀ i ∈ enterL fl.rows w, i < fl.rows.length ∧ (fl.rows.getD i dB).taker = w := fun i hi => ⟨enterL_lt hi, of_decide_eq_true (List.mem_filter.mp hi).2⟩
    have hen : tvs.length = (enterL fl.rows w).length := by rw [← Paired.length hta2]; unfold takeRow; rw [List.length_map]
    have enz := enterL_len (ls := fl.rows) (w := w)
    have hta3 : Pairs H ((enterL fl.rows w).map fun i : Nat => ((i : Int), (fl.rows.getD i dB).take)) tvs := hta2
    have eS : MM.slots (sysOf fl.rows fss) st w = (enterL fl.rows w).flatMap fun i => (st i).take (fl.rows.getD i dB).take.toNat := rfl
    generalize hEn : enterL fl.rows w = en at *
    have hsl : ∀ k, ((en.take k).flatMap fun i => (st i).take (fl.rows.getD i dB).take.toNat).length ≤ 1000 * en.length := fun k => by
      rw [List.length_flatMap]
      have h0 : ∀ is : List Nat, (∀ i ∈ is, i ∈ en) → (is.map fun i => ((st i).take (fl.rows.getD i dB).take.toNat).length).sum ≤ 1000 * is.length := by
        intro is
        induction is with
        | nil => intro _; simp
        | cons i is ih =>
          intro hs
          have a1 := ih fun j hj => hs j (List.mem_cons_of_mem _ hj)
          have a2 := (hb.at (enl i (hs i List.mem_cons_self)).1).2.1
          simp only [List.map_cons, List.sum_cons, List.length_cons, List.length_take] at a1 ⊢
          omega
      have := h0 (en.take k) fun i hi => List.mem_of_mem_take hi
      have : (en.take k).length ≤ en.length := by rw [List.length_take]; omega
      omega
    refine for_walk (H0 := solo H1 ta) (walks_lst (xs := tvs) (SqL.of (by rw [solo_at]; exact pt1))) (fun k σ H' => Frame (flatF as.length fps) H H' ∧ (∃ fps' : Nat → List Addr, LanesAt T H' as (fun i => if i ∈ en.take k then (st i).drop (fl.rows.getD i dB).take.toNat else st i) fps' ∧ (∀ i < as.length, Grows (flatF as.length fps) (fps' i) H) ∧ ∀ i < as.length, r ∉ fps' i) ∧ ∃ a1 a2 a3 a4 a5, σ = [some (.ref p), some (.int w), some (.ref r), a1, a2, a3, a4, a5] ∧ H' r = some (.lst (((en.take k).flatMap fun i => (st i).take (fl.rows.getD i dB).take.toNat).map V.int))) ⟨f1, ⟨fps, (h8.off (A := []) s1.frame (by simp)).congr (fun i hi => by simp), fun i hi x hx => .inl (mem_flatF.mpr ⟨i, hi, hx⟩), fun i hi z => (h8.1 i hi).dom r z hr⟩, _, _, _, _, _, rfl, v1⟩ (fun i σ H' h => solo_same ((h.1.keep _ _ hta1 (offL _ (by simp [mta]))).trans pt1.symm)) ?_ ?_
    · rintro k σ H2 hk ⟨f2, ⟨fps2, hL, hG, hrn⟩, a1, a2, a3, a4, a5, rfl, hr2⟩
      have hk' : k < en.length := by omega
      obtain ⟨t, et, ht⟩ := rowAt hta3 hk'
      have mi : en[k] ∈ en := List.getElem_mem hk'
      obtain ⟨il, it⟩ := enl _ mi
      have hia : en[k] < as.length := by omega
      have hb4 := hb.at il
      have hok' : (fl.rows.getD en[k] dB).take.toNat ≤ (st en[k]).length := hok en[k] il it
      have hnt := take_mem ent hk'
      have htk : ∀ j, j ∈ en.take (k + 1) ↔ j ∈ en.take k ∨ j = en[k] := fun j => take_succ_mem hk'
      have etk : (en.take (k + 1)).flatMap (fun i => (st i).take (fl.rows.getD i dB).take.toNat) = (en.take k).flatMap (fun i => (st i).take (fl.rows.getD i dB).take.toNat) ++ (st en[k]).take (fl.rows.getD en[k] dB).take.toNat := by
        rw [List.take_succ_eq_append_getElem hk', List.flatMap_append]
        simp
      have hsz := hsl k
      have hs1 := hst en[k] il
      rw [et]
      rw [etk]
      generalize (en.take k).flatMap (fun i => (st i).take (fl.rows.getD i dB).take.toNat) = sl at *
      generalize en[k] = i at *
      have ect : (fl.rows.getD i dB).take = (((fl.rows.getD i dB).take.toNat : Nat) : Int) := by omega
      rw [ect] at ht
      have htz : (fl.rows.getD i dB).take.toNat ≤ 1000 := by omega
      have hLi := hL.1 i hia
      simp only [if_neg hnt] at hLi
      have p2 := f2.keep _ _ h1 (offL _ (by simp))
      have pl2 := f2.keep _ _ h6 (offL _ (by simp))
      have pl2q := SqL.of (K := K) pl2
      have hix := LanesAt.ix i hia
      refine Rd.gtup (.of (f2.tups _ _ ht)) rfl ?_
      walk_at "rds"
      refine ⟨as.getD i 0, _, st i, fps2 i, rfl, hLi, hok', by omega, fun d H3 fp3 hd hl3 hd3 ndf fr3 gr3 => ?_⟩
      have nri : r ∉ fps2 i := hrn i hia
      have hr3 := fr3.keep _ _ hr2 nri
      walk_at "rds"
      refine ⟨r, d, _, _, rfl, rfl, hr3, hd3, Nat.le_of_lt (small20000 (by simp only [List.length_map, List.length_take]; omega)), ?_⟩
      have f3 := Nm.Frame.grow f2 (hG i hia) fr3
      have hL3 := hL.put hia hl3 fr3 gr3
      have nr3 : r ∉ fp3 := gr3.off nri (by rw [hr2]; simp)
      have nrA : ∀ j < as.length, r ∉ (if j = i then fp3 else fps2 j) := fun j hj => by
        by_cases e : j = i
        · rw [if_pos e]; exact nr3
        · rw [if_neg e]; exact hrn j hj
      refine ⟨frame_new f3 hr, ⟨_, (hL3.off (frame_upd (A := [r]) (by simp) hr3 (by intro _ z; cases z)) (fun j hj x hx => by
        rw [List.mem_singleton]
        intro z
        rw [z] at hx
        exact nrA j hj hx)).congr (fun j hj => ?_), fun j hj => ?_, nrA⟩, _, _, _, _, _, rfl, by rw [upd_same, List.map_append]⟩
      · by_cases e : j = i
        · subst e
          rw [if_pos rfl, if_pos ((htk j).mpr (.inr rfl))]
        · rw [if_neg e]
          by_cases e2 : j ∈ en.take k
          · rw [if_pos e2, if_pos ((htk j).mpr (.inl e2))]
          · rw [if_neg e2, if_neg (fun z => ((htk j).mp z).elim e2 e)]
      · by_cases e : j = i
        · simp only [if_pos e]
          exact Nm.Grows.grow (hG i hia) f2 gr3
        · simp only [if_neg e]
          exact hG j hj
    · rintro σ H2 ⟨f2, ⟨fps2, hL, hG, hrn⟩, a1, a2, a3, a4, a5, rfl, hr2⟩
      rw [hen, List.take_length] at hL hr2
      have p2 := f2.keep _ _ h1 (offL _ (by simp))
      have pc2 := f2.keep _ _ h4 (offL _ (by simp))
      have pc2q := SqL.of (K := K) pc2
      have hwa2 := f2.tups _ _ hwa
      have hst2 := SqT.of (K := K) hwa2
      have hr2q := SqL.of (K := K) hr2
      have hslN := slots_n hb hok
      rw [← eS] at hr2 hr2q
      have hwl := Paired.length hwF
      have hwz := hfo.few
      walk_at "rds"
      unfold iTup
      walk_at "rds"
      refine ⟨wa, rfl, ⟨_, hst2⟩, ?_⟩
      have hfoks := hfo.ok
      have hfolen := hfo.len
      have hgsum : giveN fl.rows w = ((leaveL fl.rows w).map fun i => (fl.rows.getD i dB).give).sum := by
        unfold giveN giveRow
        rw [List.map_map]; rfl
      generalize hfs : fss.getD w.toNat [] = fs at *
      generalize hSL : MM.slots (sysOf fl.rows fss) st w = sl at *
      refine compN_walk (own := 1) (walks_tup hst2).y (small20000 (by omega)) (fun i => [some (wvs.getD i .non)]) (fun _ => rfl) (fun _ => true) (fun i v _ => v = .int (formV (fs.getD i (0, [])).1 (fs.getD i (0, [])).2 sl)) (fun _ _ _ _ _ z => z) (fun i a' H' v H3 Kg hi sm y ha' k => ?_) (fun i H' Kc hi sm k => ?_) (fun pp i H' Kc hi hci hp0 hp1 sm k => ?_) (fun gv H3 zs hgv sm hgv3 hR => ?_)
      · obtain ⟨rfl, rfl⟩ := y
        obtain ⟨x1, rfl⟩ : ∃ x1, a' = [x1] := by
          match a', ha' with
          | [x1], _ => exact ⟨x1, rfl⟩
        walk_at "rds"
        exact k _ (Same.refl _)
      · walk_at "rds"
        exact k H' (Same.refl H')
      · have hil : i < fs.length := by omega
        obtain ⟨fad, tm, tvs', ea, hfa, htm, hT⟩ := paired_getD (d := V.non) (e := ((0, []) : Form)) hwF hil
        rw [ea]
        have hf := hfoks (fs.getD i (0, [])) (by rw [getD_of hil]; exact List.getElem_mem _)
        generalize fs.getD i (0, []) = ff at *
        have hrr := sm.seq hr2q
        walk_at "rds"
        refine ⟨fad, tm, r, ff.1, tvs', ff.2, sl, rfl, sm _ _ (f2.tups _ _ hfa), sm _ _ (f2.tups _ _ htm), (hT.keep f2.tups).keep (fun b xs e => sm _ _ e), hrr, hf.few, fun t ht => ?_, fun H5 s5 => k _ H5 s5 rfl⟩
        obtain ⟨t0, t1, t2⟩ := hf.ter t ht
        exact ⟨t0, by omega, IntMulOk.of_left (Nat.le_trans (bitsI (n := 3) (by omega)) (by decide))⟩
      · rw [List.filter_eq_self.mpr (by simp), hwl] at hR
        have ey := paired_ints hR
        rw [map_range' (fun f : Form => formV f.1 f.2 sl)] at ey
        subst ey
        have hgvq := SqL.of (K := K) hgv3
        have p3 := sm _ _ p2
        have pf3 := sm _ _ (f2.keep _ _ g1 (offL _ (by simp [mf])))
        have pb3 := sm _ _ (f2.keep _ _ g4 (offL _ (by simp [mfb])))
        have pg3 := sm _ _ (f2.keep _ _ hga1 (offL _ (by simp [mga])))
        have pb3q := SqL.of (K := K) pb3
        have pg3q := SqL.of (K := K) pg3
        walk_at "rds"
        have lvt := nodup_filter_range fl.rows.length (fun i => decide ((fl.rows.getD i dB).giver = w))
        change (leaveL fl.rows w).Nodup at lvt
        have lvl : ∀ i ∈ leaveL fl.rows w, i < fl.rows.length ∧ (fl.rows.getD i dB).giver = w := fun i hi => ⟨leaveL_lt hi, of_decide_eq_true (List.mem_filter.mp hi).2⟩
        have lvm : ∀ i < fl.rows.length, (fl.rows.getD i dB).giver = w → i ∈ leaveL fl.rows w := fun i hi e => List.mem_filter.mpr ⟨List.mem_range.mpr hi, decide_eq_true e⟩
        have enm : ∀ i < fl.rows.length, (fl.rows.getD i dB).taker = w → i ∈ en := fun i hi e => by rw [← hEn]; exact List.mem_filter.mpr ⟨List.mem_range.mpr hi, decide_eq_true e⟩
        have hlv : gvs.length = (leaveL fl.rows w).length := by rw [← Paired.length hga2]; unfold giveRow; rw [List.length_map]
        have hga3 : Pairs H ((leaveL fl.rows w).map fun i : Nat => ((i : Int), (fl.rows.getD i dB).give)) gvs := hga2
        have hoff := fun k hk => offB_at (rows := fl.rows) (w := w) (k := k) hk
        have lvz := leaveL_len (ls := fl.rows) (w := w)
        have hout : ∀ i ∈ leaveL fl.rows w, (sysOf fl.rows fss).out i sl = ((fs.map fun f => formV f.1 f.2 sl).drop (offB fl.rows w i).toNat).take (fl.rows.getD i dB).give.toNat := fun i hi => by
          show (((fss.getD (fl.rows.getD i dB).giver.toNat []).map fun f => formV f.1 f.2 sl).drop (offB fl.rows (fl.rows.getD i dB).giver i).toNat).take (fl.rows.getD i dB).give.toNat = _
          rw [(lvl i hi).2, hfs]
        generalize hLv : leaveL fl.rows w = lv at *
        have hdn : ∀ k, 0 ≤ ((lv.take k).map fun j => (fl.rows.getD j dB).give).sum := fun k => by
          rw [sum_cast fun j hj => (hb.at (lvl j (List.mem_of_mem_take hj)).1).2.2.1]
          omega
        have f3 := f2.trans sm.frame
        have hr3 := sm _ _ hr2
        have hrv : r ≠ gv := fun z => by rw [← z, hr2] at hgv; cases hgv
        refine for_walk (H0 := solo H3 ga) (walks_lst (xs := gvs) (SqL.of (by rw [solo_at]; exact pg3))) (fun k σ H' => Frame (flatF as.length fps) H H' ∧ (∃ fps' : Nat → List Addr, LanesAt T H' as (fun i => (if i ∈ en then (st i).drop (fl.rows.getD i dB).take.toNat else st i) ++ if i ∈ lv.take k then (sysOf fl.rows fss).out i sl else []) fps' ∧ (∀ i < as.length, Grows (flatF as.length fps) (fps' i) H) ∧ ∀ i < as.length, gv ∉ fps' i) ∧ ∃ a1 a2 a5, σ = [some (.ref p), some (.int w), some (.ref r), a1, a2, some (.ref gv), some (.int ((lv.take k).map fun j => (fl.rows.getD j dB).give).sum), a5] ∧ H' gv = some (.lst ((fs.map fun f => formV f.1 f.2 sl).map V.int))) ⟨f3, ⟨fps2, (hL.off (A := []) sm.frame (by simp)).congr (fun i hi => by simp), hG, fun i hi z => (hL.1 i hi).dom gv z hgv⟩, _, _, _, rfl, hgv3⟩ (fun i σ H' h => solo_same ((h.1.keep _ _ hga1 (offL _ (by simp [mga]))).trans pg3.symm)) ?_ ?_
        · rintro k σ H4 hk ⟨f4, ⟨fps4, hL4, hG4, hgn⟩, a1, a2, a5, rfl, hgv4⟩
          have hk' : k < lv.length := by omega
          obtain ⟨t, et, ht⟩ := rowAt hga3 hk'
          have mi : lv[k] ∈ lv := List.getElem_mem hk'
          obtain ⟨il, it⟩ := lvl _ mi
          have hia : lv[k] < as.length := by omega
          have hb4 := hb.at il
          have hnt := take_mem lvt hk'
          have htk : ∀ j, j ∈ lv.take (k + 1) ↔ j ∈ lv.take k ∨ j = lv[k] := fun j => take_succ_mem hk'
          have ho := hout _ mi
          rw [hoff k hk'] at ho
          have etk : ((lv.take (k + 1)).map fun j => (fl.rows.getD j dB).give).sum = ((lv.take k).map fun j => (fl.rows.getD j dB).give).sum + (fl.rows.getD lv[k] dB).give := by
            rw [List.take_succ_eq_append_getElem hk', List.map_append, List.sum_append]
            simp
          have hd0 := hdn k
          have hs1 := hst lv[k] il
          rw [et]
          rw [etk]
          generalize ((lv.take k).map fun j => (fl.rows.getD j dB).give).sum = dn at *
          generalize lv[k] = i at *
          have hLi := hL4.1 i hia
          simp only [if_neg hnt, List.append_nil] at hLi
          have hlz : (if i ∈ en then (st i).drop (fl.rows.getD i dB).take.toNat else st i).length ≤ 100000 := by
            split
            · rw [List.length_drop]; omega
            · omega
          have p4 := f4.keep _ _ h1 (offL _ (by simp))
          have pl4 := f4.keep _ _ h6 (offL _ (by simp))
          have pl4q := SqL.of (K := K) pl4
          have hgv4q := SqL.of (K := K) hgv4
          have hix := LanesAt.ix i hia
          refine Rd.gtup (.of (f4.tups _ _ ht)) rfl ?_
          walk_at "rds"
          refine Rd.slL hgv4q ?_
          intro u hu
          rw [cut_mid hd0 hb4.2.2.1, ← List.map_drop, ← List.map_take, ← ho]
          have s5 : Same H4 (upd H4 u (.lst (((sysOf fl.rows fss).out i sl).map V.int))) := same_new hu
          have v5 : (upd H4 u (.lst (((sysOf fl.rows fss).out i sl).map V.int))) u = some (.lst (((sysOf fl.rows fss).out i sl).map V.int)) := upd_same
          generalize upd H4 u (.lst (((sysOf fl.rows fss).out i sl).map V.int)) = H5 at *
          have hoz : ((sysOf fl.rows fss).out i sl).length ≤ 1000 := by rw [ho, List.length_take]; omega
          walk_at "rds"
          refine ⟨as.getD i 0, u, _, (sysOf fl.rows fss).out i sl, fps4 i, rfl, hLi.same s5, v5, fun z => (hL4.1 i hia).dom u z hu, hoz, hlz, fun H6 fp6 hl6 fr6 gr6 => ?_⟩
          have gr6' : Grows (fps4 i) fp6 H4 := fun x hx => (gr6 x hx).imp id fun e => same_none s5 e
          have fr6' : Frame (fps4 i) H4 H6 := s5.frame.trans fr6
          have f6 := Nm.Frame.grow f4 (hG4 i hia) fr6'
          have hL6 := hL4.put hia hl6 fr6' gr6'
          have hgi := hgn i hia
          have hgv6 := fr6'.keep _ _ hgv4 hgi
          have ng6 : gv ∉ fp6 := gr6'.off hgi (by rw [hgv4]; simp)
          walk_at "rds"
          refine ⟨.int dn, rfl, ?_⟩
          walk_at "rds"
          try refine ⟨_, _, rfl, rfl, ?_⟩
          refine ⟨f6, ⟨_, hL6.congr (fun j hj => ?_), fun j hj => ?_, fun j hj => ?_⟩, _, _, _, rfl, hgv6⟩
          · by_cases e : j = i
            · subst e
              simp only [if_pos ((htk j).mpr (.inr rfl)), if_true]
            · simp only [if_neg e]
              by_cases e2 : j ∈ lv.take k
              · rw [if_pos e2, if_pos ((htk j).mpr (.inl e2))]
              · rw [if_neg e2, if_neg (fun z => ((htk j).mp z).elim e2 e)]
          · by_cases e : j = i
            · simp only [if_pos e]
              exact Nm.Grows.grow (hG4 i hia) f4 gr6'
            · simp only [if_neg e]
              exact hG4 j hj
          · by_cases e : j = i
            · simp only [if_pos e]; exact ng6
            · simp only [if_neg e]; exact hgn j hj
        · rintro σ H4 ⟨f4, ⟨fps4, hL4, hG4, hgn⟩, a1, a2, a5, rfl, hgv4⟩
          rw [hlv, List.take_length] at hL4
          walk_at "rds"
          have h9' : ∀ i < as.length, ∀ x ∈ fps4 i, x ∉ p :: dx :: c :: la :: ffp := fun i hi x hx z => by
            rcases hG4 i hi x hx with e | e
            · exact offL x z e
            · exact hm.dom x (List.mem_append_left _ z) e
          refine q H4 ((p :: dx :: c :: la :: ffp) ++ flatF as.length fps4) ⟨dx, f, c, la, ffp, fvs, as, fps4, rfl, f4.keep _ _ h1 (offL _ (by simp)), f4.keep _ _ h2 (offL _ (by simp)), h3.off f4 (fun x hx => offL x (by simp [hx])), f4.keep _ _ h4 (offL _ (by simp)), h5.keep f4.tups, f4.keep _ _ h6 (offL _ (by simp)), h7, hL4.congr (fun i hi => ?_), h9', h10⟩ (f4.mono fun x hx => List.mem_append_right _ hx) (fun x hx => ?_)
          · have hi' : i < fl.rows.length := by omega
            show _ = (if i < fl.rows.length then (if (fl.rows.getD i dB).taker = w then (st i).drop (fl.rows.getD i dB).take.toNat else st i) ++ (if (fl.rows.getD i dB).giver = w then (sysOf fl.rows fss).out i (MM.slots (sysOf fl.rows fss) st w) else []) else st i)
            rw [if_pos hi', hSL]
            congr 1
            · by_cases e : (fl.rows.getD i dB).taker = w
              · rw [if_pos e, if_pos (enm i hi' e)]
              · rw [if_neg e, if_neg (fun z => e (enl i z).2)]
            · by_cases e : (fl.rows.getD i dB).giver = w
              · rw [if_pos e, if_pos (lvm i hi' e)]
              · rw [if_neg e, if_neg (fun z => e (lvl i z).2)]
          · rcases List.mem_append.mp hx with hx | hx
            · exact .inl (List.mem_append_left _ hx)
            · obtain ⟨i, hi, hx⟩ := mem_flatF.mp hx
              exact (hG4 i hi x hx).imp (fun z => List.mem_append_right _ z) id
end
def sp_Mill_go {K : PySem.W.Frag} {mg : Str → Option Value} (T : Tp K mg) : Sp := fun vs H Q E => ∃ (p q : Addr) (ws : List Int) (fl : FM) (fss : List (List Form)) (st : Nat → List Int) (fp : List Addr), vs = [.ref p, .ref q] ∧ MillAt T H p fl fss st fp ∧ H q = some (.lst (ws.map V.int)) ∧ q ∉ fp ∧ AllForms fl.many fl.rows fss ∧ BeltsOk fl.rows ∧ Lens fl.rows fl.heaps st ∧ (∀ i < fl.rows.length, (st i).length + 1000 * ws.length ≤ 50000) ∧
  (goR fl.many fl.rows fl.heaps ws = .error true → ∀ H', Same H H' → E (.ref T.X_NoWork) none H') ∧ (goR fl.many fl.rows fl.heaps ws = .error false → ∀ H', Same H H' → E (.ref T.X_Empty) none H') ∧
  (∀ hs, goR fl.many fl.rows fl.heaps ws = .ok hs → ∀ H' fp', MillAt T H' p ⟨fl.many, fl.rows, hs⟩ fss (MM.run (sysOf fl.rows fss) st ws) fp' → Lens fl.rows hs (MM.run (sysOf fl.rows fss) st ws) → Frame fp H H' → Grows fp fp' H → Q .non H')
section
variable {P : Program} {w : World} {K : PySem.W.Frag} {mg : Str → Option Value} {base : Heap}
theorem ok_Mill_go (T : Tp K mg) : FnOk P w K mg base (CXX P w) 6 T.f_Mill_go T.d_Mill_go ["self", "row"] (sp_Mill_go T) := by
  have G_Floor_go : FnOk P w K mg base (CXX P w) 5 T.f_Floor_go T.d_Floor_go ["self", "row"] (sp_Floor_go T) := (ok_Floor_go T).mono (by decide)
  have G_Mill_pass_on : FnOk P w K mg base (CXX P w) 5 T.f_Mill_pass_on T.d_Mill_pass_on ["self", "work"] (sp_Mill_pass_on T) := (ok_Mill_pass_on T).mono (by decide)
  have cl_Floor := T.cl_Floor
  have na_Floor := T.na_Floor
  have cl_Mill := T.cl_Mill
  have na_Mill := T.na_Mill
  refine T.F_Mill_go.okX sc_Mill_go (fun vs H Q E h => ?_) (fun cdv A outer s H vs Q E hr h => ?_)
  · obtain ⟨p, q, ws, fl, fss, st, fp, rfl, _⟩ := h
    rfl
  · have hu := hr.units
    obtain ⟨p, qa, ws, fl, fss, st, fp, rfl, hm, hq, nq, hA, hb, hLn, hz, e1, e2, q⟩ := h
    obtain ⟨dx, f, c, la, ffp, fvs, as, fps, rfl, h1, h2, h3, h4, h5, h6, h7, h8, h9, h10⟩ := id hm
    have hqq := SqL.of (K := K) hq
    have hfew := hb.few
    refine ⟨_, (pss_cons (ps_expr (pe_meth (pe_fldK (K := K) rfl (pv 0) rfl) T.cl_Floor T.M_Floor_go G_Floor_go hr T.b_Floor_go .nil pass_on (pa_cons (pv 1) pa_nil)))
          (pss_one (ps_for PassesOwn.leaving rfl (pi_listK (K := K) rfl (pv 1)) (pg_name (i := 2) sc_Mill_go.nd rfl (Or.inl rfl)) (pss_one (ps_expr (pe_meth (pv 0) T.cl_Mill T.M_Mill_pass_on G_Mill_pass_on hr T.b_Mill_pass_on .nil pass_on (pa_cons (pv 2) pa_nil))))))), ?_⟩
    try dsimp only [L2.cxX, L2.cxOf, L2.cxComp]
    walk_at "rds"
    refine ⟨f, qa, ws, fl, ffp, rfl, h3, hqq, by omega, e1, e2, fun hs hg H1 ffp1 hF1 f1 gr1 => ?_⟩
    have offF : ∀ x ∈ [p, dx, c, la], x ∉ ffp := fun x hx z => h10 x z hx
    have offF' : ∀ x ∈ [p, dx, c, la], x ∉ ffp1 := fun x hx => gr1.off (offF x hx) (hm.dom x (List.mem_append_left _ (by
      simp only [List.mem_cons, List.not_mem_nil, or_false] at hx
      rcases hx with rfl | rfl | rfl | rfl <;> simp)))
    have nqf : qa ∉ ffp := fun z => nq (List.mem_append_left _ (by simp [z]))
    have hm1 : MillAt T H1 p ⟨fl.many, fl.rows, hs⟩ fss st ((p :: dx :: c :: la :: ffp1) ++ flatF as.length fps) := ⟨dx, f, c, la, ffp1, fvs, as, fps, rfl, f1.keep _ _ h1 (offF _ (by simp)), f1.keep _ _ h2 (offF _ (by simp)), hF1, f1.keep _ _ h4 (offF _ (by simp)), h5.keep f1.tups, f1.keep _ _ h6 (offF _ (by simp)), h7,
      h8.off f1 (fun i hi x hx z => h9 i hi x hx (by simp [z])), fun i hi x hx z => (by
        simp only [List.mem_cons] at z
        rcases z with z | z | z | z | z
        · exact h9 i hi x hx (by simp [z])
        · exact h9 i hi x hx (by simp [z])
        · exact h9 i hi x hx (by simp [z])
        · exact h9 i hi x hx (by simp [z])
        · rcases gr1 x z with z | z
          · exact h9 i hi x hx (by simp [z])
          · exact (h8.1 i hi).dom x hx z), fun x hx z => offF' x z hx⟩
    have fA : Frame ((p :: dx :: c :: la :: ffp) ++ flatF as.length fps) H H1 := f1.mono fun x hx => List.mem_append_left _ (by simp [hx])
    have gA : Grows ((p :: dx :: c :: la :: ffp) ++ flatF as.length fps) ((p :: dx :: c :: la :: ffp1) ++ flatF as.length fps) H := fun x hx => by
      rcases List.mem_append.mp hx with hx | hx
      · simp only [List.mem_cons] at hx
        rcases hx with z | z | z | z | z
        · exact .inl (by simp [z])
        · exact .inl (by simp [z])
        · exact .inl (by simp [z])
        · exact .inl (by simp [z])
        · exact (gr1 x z).imp (fun z => by simp [z]) id
      · exact .inl (List.mem_append_right _ hx)
    obtain ⟨hwr, hOk, hLe⟩ := go_run hb hA hLn hg
    have hq1 := f1.keep _ _ hq nqf
    have hq1q := SqL.of (K := K) hq1
    generalize (p :: dx :: c :: la :: ffp) ++ flatF as.length fps = fp0 at *
    generalize (p :: dx :: c :: la :: ffp1) ++ flatF as.length fps = fp1 at *
    walk_at "rds"
    refine for_walk (H0 := solo H1 qa) (walks_lst (xs := ws.map V.int) (SqL.of (by rw [solo_at]; exact hq1))) (fun k σ H' => Frame fp0 H H' ∧ (∃ fp', MillAt T H' p ⟨fl.many, fl.rows, hs⟩ fss (MM.run (sysOf fl.rows fss) st (ws.take k)) fp' ∧ Grows fp0 fp' H) ∧ ∃ a1, σ = [some (.ref p), some (.ref qa), a1]) ⟨fA, ⟨fp1, hm1, gA⟩, _, rfl⟩ (fun i σ H' h => solo_same ((h.1.keep _ _ hq nq).trans hq1.symm)) ?_ ?_
    · rintro k σ H2 hk ⟨f2, ⟨fp2, hm2, g2⟩, a1, rfl⟩
      have hk' : k < ws.length := by simpa using hk
      have ev : (ws.map V.int).getD k .non = .int ws[k] := by simp [List.getD, hk']
      rw [ev]
      have hw := hwr ws[k] (List.getElem_mem hk')
      have hok := MM.Ok_take hOk (List.getElem?_eq_getElem hk')
      have ers : MM.run (sysOf fl.rows fss) st (ws.take (k + 1)) = MM.step (sysOf fl.rows fss) (MM.run (sysOf fl.rows fss) st (ws.take k)) ws[k] := by
        rw [List.take_succ_eq_append_getElem hk', MM.run_snoc]
      rw [ers]
      have hlen : ∀ i < fl.rows.length, (MM.run (sysOf fl.rows fss) st (ws.take k) i).length ≤ 50000 := fun i hi => by
        have := run_grow hb hi (ws := ws.take k) (st := st) (fss := fss)
        have := hz i hi
        rw [List.length_take] at *
        omega
      generalize MM.run (sysOf fl.rows fss) st (ws.take k) = stk at *
      generalize ws[k] = w at *
      walk_at "rds"
      refine ⟨p, w, _, fss, stk, fp2, rfl, hm2, hw.1, hw.2, hA.len, hA.ok w hw.1 hw.2, hb, hok, hlen, fun H3 fp3 hm3 fr3 gr3 => ?_⟩
      walk_at "rds"
      exact ⟨Nm.Frame.grow f2 g2 fr3, ⟨fp3, hm3, Nm.Grows.grow g2 f2 gr3⟩, _, rfl⟩
    · rintro σ H2 ⟨f2, ⟨fp2, hm2, g2⟩, a1, rfl⟩
      rw [List.length_map, List.take_length] at hm2
      walk_at "rds"
      exact q hs hg H2 fp2 hm2 hLe f2 g2
end
def sp_Mill_lying {K : PySem.W.Frag} {mg : Str → Option Value} (T : Tp K mg) : Sp := fun vs H Q E => ∃ (p : Addr) (fl : FM) (fss : List (List Form)) (st : Nat → List Int) (fp : List Addr), vs = [.ref p] ∧ MillAt T H p fl fss st fp ∧ fl.rows.length ≤ 1000 ∧
  ∀ r H' ys, H r = none → Same H H' → H' r = some (.lst ys) → RowsAt (hid H' r) ys ((List.range fl.rows.length).map st) → (∀ v ∈ ys, ∃ t, v = .ref t ∧ H t = none) → Q (.ref r) H'
section
variable {P : Program} {w : World} {K : PySem.W.Frag} {mg : Str → Option Value} {base : Heap}
theorem ok_Mill_lying (T : Tp K mg) : FnOk P w K mg base (CXX P w) 2 T.f_Mill_lying T.d_Mill_lying ["self"] (sp_Mill_lying T) := by
  have G_Lane_lying : FnOk P w K mg base (CXX P w) 1 T.f_Lane_lying T.d_Lane_lying ["self"] (sp_Lane_lying T) := (ok_Lane_lying T).mono (by decide)
  have cl_Lane := T.cl_Lane
  have na_Lane := T.na_Lane
  have cl_Mill := T.cl_Mill
  have na_Mill := T.na_Mill
  refine T.F_Mill_lying.okX sc_Mill_lying (fun vs H Q E h => ?_) (fun cdv A outer s H vs Q E hr h => ?_)
  · obtain ⟨p, fl, fss, st, fp, rfl, _⟩ := h
    rfl
  · have hu := hr.units
    obtain ⟨p, fl, fss, st, fp, rfl, hm, hz, q⟩ := h
    obtain ⟨dx, f, c, la, ffp, fvs, as, fps, rfl, h1, h2, h3, h4, h5, h6, h7, h8, h9, h10⟩ := id hm
    have h6q := SqL.of (K := K) h6
    refine ⟨_, (pss_one (ps_ret (pe_compN (xs := ["lane"]) rfl (cscope (x := "lane") (zs := []) (ix := []) (defScope s_Mill_lying) ["self"] rfl rfl (by decide +kernel)) (pi_listK (K := K) rfl (pe_fldK (K := K) rfl (pv 0) rfl)) (fun cl C s H fp => ⟨(pg_name (i := 0) (show (["lane"] : List Str).Nodup by decide +kernel) rfl (Or.inl rfl)), pif_nil, (pe_meth0 (pv 0) T.cl_Lane T.M_Lane_lying G_Lane_lying hr T.b_Lane_lying .nil passX0)⟩)))), ?_⟩
    try dsimp only [L2.cxX, L2.cxOf, L2.cxComp]
    walk_at "rds"
    refine compN_walk (own := 1) (walks_lst h6q).y (small1000 (by simp; omega)) (fun i => [some (.ref (as.getD i 0))]) (fun _ => rfl) (fun _ => true) (fun i v H1 => ∃ t, v = V.ref t ∧ H t = none ∧ H1 t = some (.lst ((st i).map V.int))) (fun _ _ _ _ e ⟨t, z1, z0, z2⟩ => ⟨t, z1, z0, e _ _ z2⟩) (fun i a' H' v H4 Kg hi sm y ha' k => ?_) (fun i H' Kc hi sm k => ?_) (fun pp i H' Kc hi hci hp0 hp1 sm k => ?_) (fun r H4 zs hr sm hl' hR => ?_)
    · obtain ⟨rfl, rfl⟩ := y
      obtain ⟨x1, rfl⟩ : ∃ x1, a' = [x1] := by
        match a', ha' with
        | [x1], _ => exact ⟨x1, rfl⟩
      have hi1 : i < as.length := by simpa using hi
      have ev1 : (as.map V.ref).getD i .non = .ref (as.getD i 0) := by simp [List.getD, hi1]
      rw [ev1]
      walk_at "rds"
      exact k _ (Same.refl _)
    · walk_at "rds"
      exact k H' (Same.refl H')
    · have hi1 : i < as.length := by simpa using hi
      have hla := (h8.1 i hi1).same sm
      walk_at "rds"
      refine rd_Lane_lying hla fun u hu => ?_
      exact k _ _ (same_new hu) ⟨u, rfl, same_none sm hu, hid_new hp1 hu⟩
    · rw [List.filter_eq_self.mpr (by simp), List.length_map, h7] at hR
      obtain ⟨z1, z2⟩ := rows_of hR
      exact q r H4 zs hr sm hl' z1 z2
end
def sp_Mill_turn {K : PySem.W.Frag} {mg : Str → Option Value} (T : Tp K mg) : Sp := fun vs H Q E => ∃ (p : Addr) (w : Int) (fl : FM) (fss : List (List Form)) (st : Nat → List Int) (fp : List Addr), vs = [.ref p, .int w] ∧ MillAt T H p fl fss st fp ∧ AllForms fl.many fl.rows fss ∧ BeltsOk fl.rows ∧ Lens fl.rows fl.heaps st ∧ (∀ i < fl.rows.length, (st i).length ≤ 49000) ∧
  (turnR fl.many fl.rows fl.heaps w = .error true → ∀ H', Same H H' → E (.ref T.X_NoWork) none H') ∧ (turnR fl.many fl.rows fl.heaps w = .error false → ∀ H', Same H H' → E (.ref T.X_Empty) none H') ∧
  (∀ hs, turnR fl.many fl.rows fl.heaps w = .ok hs → ∀ H' fp', MillAt T H' p ⟨fl.many, fl.rows, hs⟩ fss (MM.step (sysOf fl.rows fss) st w) fp' → Lens fl.rows hs (MM.step (sysOf fl.rows fss) st w) → Frame fp H H' → Grows fp fp' H → Q .non H')
section
variable {P : Program} {w : World} {K : PySem.W.Frag} {mg : Str → Option Value} {base : Heap}
theorem ok_Mill_turn (T : Tp K mg) : FnOk P w K mg base (CXX P w) 7 T.f_Mill_turn T.d_Mill_turn ["self", "work"] (sp_Mill_turn T) := by
  have G_Mill_go : FnOk P w K mg base (CXX P w) 6 T.f_Mill_go T.d_Mill_go ["self", "row"] (sp_Mill_go T) := (ok_Mill_go T).mono (by decide)
  have cl_Mill := T.cl_Mill
  have na_Mill := T.na_Mill
  refine T.F_Mill_turn.okX sc_Mill_turn (fun vs H Q E h => ?_) (fun cdv A outer s H vs Q E hr h => ?_)
  · obtain ⟨p, w, fl, fss, st, fp, rfl, _⟩ := h
    rfl
  · have hu := hr.units
    obtain ⟨p, w, fl, fss, st, fp, rfl, hm, hA, hb, hLn, hz, e1, e2, q⟩ := h
    refine ⟨_, (pss_one (ps_expr (pe_meth (pv 0) T.cl_Mill T.M_Mill_go G_Mill_go hr T.b_Mill_go .nil pass_on (pa_cons (pe_lst (pa_cons (pv 1) pa_nil)) pa_nil)))), ?_⟩
    try dsimp only [L2.cxX, L2.cxOf, L2.cxComp]
    walk_at "rds"
    intro u hu
    have s1 : Same H (upd H u (.lst [V.int w])) := same_new hu
    have v1 : (upd H u (.lst [V.int w])) u = some (.lst ([w].map V.int)) := upd_same
    generalize upd H u (.lst [V.int w]) = H1 at *
    have eg : goR fl.many fl.rows fl.heaps [w] = turnR fl.many fl.rows fl.heaps w := by
      show (match turnR fl.many fl.rows fl.heaps w with | .ok hs' => goR fl.many fl.rows hs' [] | .error e => .error e) = _
      cases turnR fl.many fl.rows fl.heaps w <;> rfl
    have hm1 := hm.same s1
    walk_at "rds"
    refine ⟨p, u, [w], fl, fss, st, fp, rfl, hm1, v1, fun z => hm.dom u z hu, hA, hb, hLn, fun i hi => (by have := hz i hi; simp only [List.length_cons, List.length_nil]; omega), fun e H2 s2 => e1 (eg ▸ e) H2 (s1.trans s2), fun e H2 s2 => e2 (eg ▸ e) H2 (s1.trans s2), fun hs e H2 fp2 hm2 hL2 f2 g2 => ?_⟩
    walk_at "rds"
    exact q hs (eg ▸ e) H2 fp2 hm2 hL2 (s1.frame.trans f2) (fun x hx => (g2 x hx).imp id fun z => same_none s1 z)
end
def sp_Hall_leaving {K : PySem.W.Frag} {mg : Str → Option Value} (T : Tp K mg) : Sp := fun vs H Q E => ∃ (p : Addr) (w : Int) (hl : HM) (fp : List Addr), vs = [.ref p, .int w] ∧ HallAt T H p hl fp ∧ hl.belts.length ≤ 1000 ∧
  (¬ (0 ≤ w ∧ w < hl.names.length) → E (.ref T.X_NoWork) none H) ∧ (0 ≤ w → w < hl.names.length → ∀ r H', H r = none → Same H H' → H' r = some (.lst ((leaveL hl.belts w).map fun i : Nat => V.int i)) → Q (.ref r) H')
section
variable {P : Program} {w : World} {K : PySem.W.Frag} {mg : Str → Option Value} {base : Heap}
theorem ok_Hall_leaving (T : Tp K mg) : FnOk P w K mg base (CXX P w) 5 T.f_Hall_leaving T.d_Hall_leaving ["self", "work"] (sp_Hall_leaving T) := by
  have G_Hall_need_work : FnOk P w K mg base (CXX P w) 4 T.f_Hall_need_work T.d_Hall_need_work ["self", "work"] (sp_Hall_need_work T) := (ok_Hall_need_work T).mono (by decide)
  have cl_Hall := T.cl_Hall
  have na_Hall := T.na_Hall
  refine T.F_Hall_leaving.okX sc_Hall_leaving (fun vs H Q E h => ?_) (fun cdv A outer s H vs Q E hr h => ?_)
  · obtain ⟨p, w, hl, fp, rfl, _⟩ := h
    rfl
  · have hu := hr.units
    obtain ⟨p, w, hl, fp, rfl, hh, hz, e1, q⟩ := h
    obtain ⟨dx, a, b, bs, rfl, h1, h2, h3, h4, nab, h6⟩ := id hh
    have hb := h6.length
    refine ⟨_, (pss_cons (ps_expr (pe_meth (pv 0) T.cl_Hall T.M_Hall_need_work G_Hall_need_work hr T.b_Hall_need_work .nil pass_on (pa_cons (pv 1) pa_nil)))
          (pss_one (ps_ret (pe_compN (xs := ["belt", "row"]) rfl (cscope (x := "belt") (zs := ["work"]) (ix := [1]) (defScope s_Hall_leaving) ["self", "work"] rfl rfl (by decide +kernel)) (pi_enum (K := K) rfl rfl T.n_enumerate (pa_cons (pe_fldK (K := K) rfl (pv 0) rfl) pa_nil)) (fun cl C s H fp => ⟨(pg_tupK (K := K) (n := 2) rfl rfl (pgs_cons (pg_name (i := 0) (show (["belt", "row", "work"] : List Str).Nodup by decide +kernel) rfl (Or.inl rfl)) (pgs_cons (pg_name (i := 1) (show (["belt", "row", "work"] : List Str).Nodup by decide +kernel) rfl (Or.inl rfl)) pgs_nil))), (pif_one (pt_cmpR (op_eqK (K := K) rfl hu) (pe_ix (ix_K (K := K) rfl) (pv 1) pe_int (fun _ _ => rfl)) (pv 2) (nomark _))), (pv 0)⟩))))), ?_⟩
    try dsimp only [L2.cxX, L2.cxOf, L2.cxComp]
    walk_at "rds"
    refine ⟨p, w, hl, _, rfl, hh, e1, fun w0 w1 => ?_⟩
    walk_at "rds"
    refine compN_walk (own := 2) (walks_enum (SqL.of h4)) (small1000 (by omega)) (fun i => [some (.int i), some (bs.getD i .non)]) (fun _ => rfl) (fun i => decide ((hl.belts.getD i dB).giver = w)) (fun i v _ => v = .int i) (fun _ _ _ _ _ z => z) (fun i a' H' v H2 Kg hi sm y ha k => ?_) (fun i H' Kc hi sm k => ?_) (fun pp i H' Kc hi hc hp0 hp1 sm k => ?_) (fun r H' ys hr sm hl' hR => ?_)
    · obtain ⟨t, ht, rfl, rfl⟩ := y
      obtain ⟨x1, x2, rfl⟩ : ∃ x1 x2, a' = [x1, x2] := by
        match a', ha with
        | [x1, x2], _ => exact ⟨x1, x2, rfl⟩
      refine Rd.gtup (.of upd_same) rfl ?_
      walk_at "rds"
      exact k _ (same_new ht)
    · obtain ⟨t, ht1, ht2⟩ := h6.getD (i := i) (by omega)
      rw [ht1]
      have ht3 := sm _ _ ht2
      generalize hl.belts.getD i dB = bb at *
      dsimp only [B5.v] at ht3
      walk_at "rds"
      exact k H' (Same.refl H')
    · walk_at "rds"
      exact k _ H' (Same.refl H') rfl
    · refine q w0 w1 r H' hr sm ?_
      rw [hl', paired_map (R := fun i v _ => v = V.int (i : Nat)) (H := H') (r := fun i : Nat => V.int i) (fun _ _ z => z) hR, hb]
      rfl
end
def sp_Hall_need_belt {K : PySem.W.Frag} {mg : Str → Option Value} (T : Tp K mg) : Sp := fun vs H Q E => ∃ (p : Addr) (i : Int) (hl : HM) (fp : List Addr), vs = [.ref p, .int i] ∧ HallAt T H p hl fp ∧
  (¬ (0 ≤ i ∧ i < hl.belts.length) → E (.ref T.X_NoBelt) none H) ∧ (0 ≤ i → i < hl.belts.length → Q .non H)
section
variable {P : Program} {w : World} {K : PySem.W.Frag} {mg : Str → Option Value} {base : Heap}
theorem ok_Hall_need_belt (T : Tp K mg) : FnOk P w K mg base (CXX P w) 4 T.f_Hall_need_belt T.d_Hall_need_belt ["self", "belt"] (sp_Hall_need_belt T) := by
  have G_is_number_below : FnOk P w K mg base (CXX P w) 3 T.f_is_number_below T.d_is_number_below ["thing", "bound"] (sp_is_number_below T) := (ok_is_number_below T).mono (by decide)
  have cl_Hall := T.cl_Hall
  have na_Hall := T.na_Hall
  refine T.F_Hall_need_belt.okX sc_Hall_need_belt (fun vs H Q E h => ?_) (fun cdv A outer s H vs Q E hr h => ?_)
  · obtain ⟨p, i, hl, fp, rfl, _⟩ := h
    rfl
  · have hu := hr.units
    obtain ⟨p, i, hl, fp, rfl, hh, e1, q⟩ := h
    obtain ⟨dx, a, b, bs, rfl, h1, h2, h3, h4, nab, h6⟩ := id hh
    refine ⟨_, (pss_one (ps_if (pt_not (pt_truK (K := K) rfl (pe_call G_is_number_below hr rfl T.m_is_number_below T.F_is_number_below.kp T.b_is_number_below .nil pass_on (pa_cons (pv 1) (pa_cons (pe_callB (len_K (K := K) rfl) (by rfl) T.n_len PySem.boot_len (pa_cons (pe_fldK (K := K) rfl (pv 0) rfl) pa_nil)) pa_nil))) (fun _ => rfl))) (pss_one (ps_raiseK T.gx_NoBelt T.ex_NoBelt PySem.F.excBase_ValueError rfl (pa_cons pe_str pa_nil))) pss_nil)), ?_⟩
    try dsimp only [L2.cxX, L2.cxOf, L2.cxComp]
    walk_at "rds"
    rw [h6.length]
    by_cases c : 0 ≤ i ∧ i < hl.belts.length
    · rw [decide_eq_true c]
      walk_at "rds"
      exact q c.1 c.2
    · rw [decide_eq_false c]
      walk_at "rds"
      exact e1 c
end
def sp_Hall_belt_at {K : PySem.W.Frag} {mg : Str → Option Value} (T : Tp K mg) : Sp := fun vs H Q E => ∃ (p : Addr) (i : Int) (hl : HM) (fp : List Addr), vs = [.ref p, .int i] ∧ HallAt T H p hl fp ∧
  (¬ (0 ≤ i ∧ i < hl.belts.length) → E (.ref T.X_NoBelt) none H) ∧ (0 ≤ i → i < hl.belts.length → ∀ (t : Addr) (b : B5), hl.belts[i.toNat]? = some b → H t = some (.tup b.v) → Q (.ref t) H)
section
variable {P : Program} {w : World} {K : PySem.W.Frag} {mg : Str → Option Value} {base : Heap}
theorem ok_Hall_belt_at (T : Tp K mg) : FnOk P w K mg base (CXX P w) 5 T.f_Hall_belt_at T.d_Hall_belt_at ["self", "belt"] (sp_Hall_belt_at T) := by
  have G_Hall_need_belt : FnOk P w K mg base (CXX P w) 4 T.f_Hall_need_belt T.d_Hall_need_belt ["self", "belt"] (sp_Hall_need_belt T) := (ok_Hall_need_belt T).mono (by decide)
  have cl_Hall := T.cl_Hall
  have na_Hall := T.na_Hall
  refine T.F_Hall_belt_at.okX sc_Hall_belt_at (fun vs H Q E h => ?_) (fun cdv A outer s H vs Q E hr h => ?_)
  · obtain ⟨p, i, hl, fp, rfl, _⟩ := h
    rfl
  · have hu := hr.units
    obtain ⟨p, i, hl, fp, rfl, hh, e1, q⟩ := h
    obtain ⟨dx, a, b, bs, rfl, h1, h2, h3, h4, nab, h6⟩ := id hh
    refine ⟨_, (pss_cons (ps_expr (pe_meth (pv 0) T.cl_Hall T.M_Hall_need_belt G_Hall_need_belt hr T.b_Hall_need_belt .nil pass_on (pa_cons (pv 1) pa_nil)))
          (pss_one (ps_ret (pe_ix (ix_K (K := K) rfl) (pe_fldK (K := K) rfl (pv 0) rfl) (pv 1) (fun _ _ => rfl))))), ?_⟩
    try dsimp only [L2.cxX, L2.cxOf, L2.cxComp]
    walk_at "rds"
    refine ⟨p, i, hl, _, rfl, hh, e1, fun i0 i1 => ?_⟩
    have hi : i.toNat < hl.belts.length := by omega
    have ei := List.getElem?_eq_getElem hi
    obtain ⟨t, ht1, ht2⟩ := h6.at ei
    have at1 : atI bs i = some (.ref t) := by
      have := atI_nat ht1
      rwa [Int.toNat_of_nonneg i0] at this
    walk_at "rds"
    exact q i0 i1 t _ ei ht2
end
def sp_gives_of {K : PySem.W.Frag} {mg : Str → Option Value} (T : Tp K mg) : Sp := fun vs H Q E => ∃ (p : Addr) (w : Int) (hl : HM) (fp : List Addr), vs = [.ref p, .int w] ∧ HallAt T H p hl fp ∧ hl.belts.length ≤ 1000 ∧ 0 ≤ w ∧ w < hl.names.length ∧
  ∀ r H' ys, H r = none → Same H H' → H' r = some (.lst ys) → Pairs H' (giveRow hl.belts w) ys → Q (.ref r) H'
section
variable {P : Program} {w : World} {K : PySem.W.Frag} {mg : Str → Option Value} {base : Heap}
theorem ok_gives_of (T : Tp K mg) : FnOk P w K mg base (CXX P w) 6 T.f_gives_of T.d_gives_of ["hall", "work"] (sp_gives_of T) := by
  have G_Hall_leaving : FnOk P w K mg base (CXX P w) 5 T.f_Hall_leaving T.d_Hall_leaving ["self", "work"] (sp_Hall_leaving T) := (ok_Hall_leaving T).mono (by decide)
  have G_Hall_belt_at : FnOk P w K mg base (CXX P w) 5 T.f_Hall_belt_at T.d_Hall_belt_at ["self", "belt"] (sp_Hall_belt_at T) := (ok_Hall_belt_at T).mono (by decide)
  have cl_Hall := T.cl_Hall
  have na_Hall := T.na_Hall
  refine T.F_gives_of.okX sc_gives_of (fun vs H Q E h => ?_) (fun cdv A outer s H vs Q E hr h => ?_)
  · obtain ⟨p, w, hl, fp, rfl, _⟩ := h
    rfl
  · have hu := hr.units
    obtain ⟨p, w, hl, fp, rfl, hh, hz, w0, w1, q⟩ := h
    refine ⟨_, (pss_one (ps_ret (pe_compN (xs := ["belt"]) rfl (cscope (x := "belt") (zs := ["hall"]) (ix := [0]) (defScope s_gives_of) ["hall", "work"] rfl rfl (by decide +kernel)) (pi_listK (K := K) rfl (pe_meth (pv 0) T.cl_Hall T.M_Hall_leaving G_Hall_leaving hr T.b_Hall_leaving .nil pass_on (pa_cons (pv 1) pa_nil))) (fun cl C s H fp => ⟨(pg_name (i := 0) (show (["belt", "hall"] : List Str).Nodup by decide +kernel) rfl (Or.inl rfl)), pif_nil, (pe_tup (pa_cons (pv 0) (pa_cons (pe_ix (ix_K (K := K) rfl) (pe_meth (pv 1) T.cl_Hall T.M_Hall_belt_at G_Hall_belt_at hr T.b_Hall_belt_at .nil passX0 (pa_cons (pv 0) pa_nil)) pe_int (fun _ _ => rfl)) pa_nil)))⟩)))), ?_⟩
    try dsimp only [L2.cxX, L2.cxOf, L2.cxComp]
    walk_at "rds"
    refine ⟨p, w, hl, fp, rfl, hh, hz, fun z => absurd ⟨w0, w1⟩ z, fun _ _ e H1 he s1 he1 => ?_⟩
    have hh1 := hh.same s1
    have el := leaveL_len (ls := hl.belts) (w := w)
    walk_at "rds"
    refine compN_walk (own := 1) (walks_lst (SqL.of he1)).y (small1000 (by rw [List.length_map]; omega)) (fun i => [some (.int ((leaveL hl.belts w).getD i 0 : Nat))]) (fun _ => rfl) (fun _ => true) (fun i v H => ∃ t, v = V.ref t ∧ H t = some (.tup [.int ((leaveL hl.belts w).getD i 0 : Nat), .int (hl.belts.getD ((leaveL hl.belts w).getD i 0) dB).give])) (fun _ _ _ _ e ⟨t, z1, z2⟩ => ⟨t, z1, e _ _ z2⟩) (fun i a' H' v H2 Kg hi sm y ha' k => ?_) (fun i H' Kc hi sm k => ?_) (fun pp i H' Kc hi hc hp0 hp1 sm k => ?_) (fun r H' ys hr' sm hl' hR => ?_)
    · obtain ⟨rfl, rfl⟩ := y
      obtain ⟨x1, rfl⟩ : ∃ x1, a' = [x1] := by
        match a', ha' with
        | [x1], _ => exact ⟨x1, rfl⟩
      have hi' : i < (leaveL hl.belts w).length := by simpa using hi
      have ev : ((leaveL hl.belts w).map fun i : Nat => V.int i).getD i .non = .int ((leaveL hl.belts w).getD i 0 : Nat) := by simp [List.getD, hi']
      rw [ev]
      walk_at "rds"
      exact k _ (Same.refl _)
    · walk_at "rds"
      exact k H' (Same.refl H')
    · have hi' : i < (leaveL hl.belts w).length := by simpa using hi
      have hm : (leaveL hl.belts w).getD i 0 ∈ leaveL hl.belts w := by
        have : (leaveL hl.belts w).getD i 0 = (leaveL hl.belts w)[i] := by simp [List.getD, hi']
        rw [this]; exact List.getElem_mem hi'
      have hlt := leaveL_lt hm
      generalize (leaveL hl.belts w).getD i 0 = j at *
      have hh2 := hh1.same sm
      walk_at "rds"
      refine ⟨p, (j : Int), hl, fp, rfl, hh2, fun z => absurd ⟨Int.natCast_nonneg j, by omega⟩ z, fun _ _ t b hb ht => ?_⟩
      have hb' : hl.belts[j]? = some b := hb
      have eb : hl.belts.getD j dB = b := by simp [List.getD, hb']
      rw [eb] at k
      dsimp only [B5.v] at ht
      walk_at "rds"
      refine ⟨by show 2 ≤ sizeLine; decide, fun u hu' => ?_⟩
      exact k _ _ (same_new hu') ⟨u, rfl, hid_new hp1 hu'⟩
    · refine q r H' ys ?_ (s1.trans sm) hl' ?_
      · cases e : H r with
        | none => rfl
        | some o => rw [s1 _ _ e] at hr'; cases hr'
      · exact (pairs_row hR).keep fun b xs z => hid_same _ _ z
end
def sp_given_by {K : PySem.W.Frag} {mg : Str → Option Value} (T : Tp K mg) : Sp := fun vs H Q _ => ∃ (p : Addr) (w : Int) (hl : HM) (fp : List Addr), vs = [.ref p, .int w] ∧ HallAt T H p hl fp ∧ hl.belts.length ≤ 1000 ∧ 0 ≤ w ∧ w < hl.names.length ∧ ∀ H', Same H H' → Q (.int ((giveRow hl.belts w).map (·.2)).sum) H'
section
variable {P : Program} {w : World} {K : PySem.W.Frag} {mg : Str → Option Value} {base : Heap}
theorem ok_given_by (T : Tp K mg) : FnOk P w K mg base (CXX P w) 7 T.f_given_by T.d_given_by ["hall", "work"] (sp_given_by T) := by
  have G_gives_of : FnOk P w K mg base (CXX P w) 6 T.f_gives_of T.d_gives_of ["hall", "work"] (sp_gives_of T) := (ok_gives_of T).mono (by decide)
  refine T.F_given_by.okX sc_given_by (fun vs H Q E h => ?_) (fun cdv A outer s H vs Q E hr h => ?_)
  · obtain ⟨p, w, hl, fp, rfl, _⟩ := h
    rfl
  · have hu := hr.units
    obtain ⟨p, w, hl, fp, rfl, hh, hz, w0, w1, q⟩ := h
    refine ⟨_, (pss_one (ps_ret (pe_callB (sum_K (K := K) rfl rfl) (by rfl) T.n_sum PyProof.Rows.boot_sum (pa_cons (pe_compN (xs := ["belt", "give"]) rfl (cscope (x := "belt") (zs := []) (ix := []) (defScope s_given_by) ["hall", "work"] rfl rfl (by decide +kernel)) (pi_listK (K := K) rfl (pe_call G_gives_of hr rfl T.m_gives_of T.F_gives_of.kp T.b_gives_of .nil pass_on (pa_cons (pv 0) (pa_cons (pv 1) pa_nil)))) (fun cl C s H fp => ⟨(pg_tupK (K := K) (n := 2) rfl rfl (pgs_cons (pg_name (i := 0) (show (["belt", "give"] : List Str).Nodup by decide +kernel) rfl (Or.inl rfl)) (pgs_cons (pg_name (i := 1) (show (["belt", "give"] : List Str).Nodup by decide +kernel) rfl (Or.inl rfl)) pgs_nil))), pif_nil, (pv 1)⟩)) pa_nil)))), ?_⟩
    try dsimp only [L2.cxX, L2.cxOf, L2.cxComp]
    walk_at "rds"
    refine ⟨p, w, hl, fp, rfl, hh, hz, w0, w1, fun r H1 ys hr s1 hr1 hP => ?_⟩
    have hyl : ys.length = (giveRow hl.belts w).length := (Paired.length hP).symm
    have hgl : (giveRow hl.belts w).length ≤ 1000 := by unfold giveRow; rw [List.length_map]; exact Nat.le_trans leaveL_len hz
    generalize giveRow hl.belts w = gr at *
    have hrq := SqL.of (K := K) hr1
    walk_at "rds"
    refine compN_walk (own := 2) (walks_lst hrq).y (small1000 (by omega)) (fun i => [some (.int (gr.getD i (0, 0)).1), some (.int (gr.getD i (0, 0)).2)]) (fun _ => rfl) (fun _ => true) (fun i v _ => v = .int (gr.getD i (0, 0)).2) (fun _ _ _ _ _ z => z) (fun i a' H' v H3 Kg hi sm y ha' k => ?_) (fun i H' Kc hi sm k => ?_) (fun pp i H' Kc hi hci hp0 hp1 sm k => ?_) (fun d H3 zs hd sm hl' hR => ?_)
    · obtain ⟨rfl, rfl⟩ := y
      obtain ⟨x1, x2, rfl⟩ : ∃ x1 x2, a' = [x1, x2] := by
        match a', ha' with
        | [x1, x2], _ => exact ⟨x1, x2, rfl⟩
      obtain ⟨t, et, ht⟩ := pairs_getD hP (i := i) (by omega)
      rw [et]
      refine Rd.gtup (.of (sm _ _ ht)) rfl ?_
      walk_at "rds"
      exact k _ (Same.refl _)
    · walk_at "rds"
      exact k H' (Same.refl H')
    · walk_at "rds"
      exact k _ H' (Same.refl H') rfl
    · rw [List.filter_eq_self.mpr (by simp), hyl] at hR
      have ey := paired_ints hR
      rw [map_range' (fun t : Int × Int => t.2)] at ey
      have hds := SqL.of (K := K) (ey ▸ hl')
      walk_at "rds"
      refine ⟨d, _, rfl, hds, ?_⟩
      exact q H3 (s1.trans sm)
end
def sp_Hall_entering {K : PySem.W.Frag} {mg : Str → Option Value} (T : Tp K mg) : Sp := fun vs H Q E => ∃ (p : Addr) (w : Int) (hl : HM) (fp : List Addr), vs = [.ref p, .int w] ∧ HallAt T H p hl fp ∧ hl.belts.length ≤ 1000 ∧
  (¬ (0 ≤ w ∧ w < hl.names.length) → E (.ref T.X_NoWork) none H) ∧ (0 ≤ w → w < hl.names.length → ∀ r H', H r = none → Same H H' → H' r = some (.lst ((enterL hl.belts w).map fun i : Nat => V.int i)) → Q (.ref r) H')
section
variable {P : Program} {w : World} {K : PySem.W.Frag} {mg : Str → Option Value} {base : Heap}
theorem ok_Hall_entering (T : Tp K mg) : FnOk P w K mg base (CXX P w) 5 T.f_Hall_entering T.d_Hall_entering ["self", "work"] (sp_Hall_entering T) := by
  have G_Hall_need_work : FnOk P w K mg base (CXX P w) 4 T.f_Hall_need_work T.d_Hall_need_work ["self", "work"] (sp_Hall_need_work T) := (ok_Hall_need_work T).mono (by decide)
  have cl_Hall := T.cl_Hall
  have na_Hall := T.na_Hall
  refine T.F_Hall_entering.okX sc_Hall_entering (fun vs H Q E h => ?_) (fun cdv A outer s H vs Q E hr h => ?_)
  · obtain ⟨p, w, hl, fp, rfl, _⟩ := h
    rfl
  · have hu := hr.units
    obtain ⟨p, w, hl, fp, rfl, hh, hz, e1, q⟩ := h
    obtain ⟨dx, a, b, bs, rfl, h1, h2, h3, h4, nab, h6⟩ := id hh
    have hb := h6.length
    refine ⟨_, (pss_cons (ps_expr (pe_meth (pv 0) T.cl_Hall T.M_Hall_need_work G_Hall_need_work hr T.b_Hall_need_work .nil pass_on (pa_cons (pv 1) pa_nil)))
          (pss_one (ps_ret (pe_compN (xs := ["belt", "row"]) rfl (cscope (x := "belt") (zs := ["work"]) (ix := [1]) (defScope s_Hall_entering) ["self", "work"] rfl rfl (by decide +kernel)) (pi_enum (K := K) rfl rfl T.n_enumerate (pa_cons (pe_fldK (K := K) rfl (pv 0) rfl) pa_nil)) (fun cl C s H fp => ⟨(pg_tupK (K := K) (n := 2) rfl rfl (pgs_cons (pg_name (i := 0) (show (["belt", "row", "work"] : List Str).Nodup by decide +kernel) rfl (Or.inl rfl)) (pgs_cons (pg_name (i := 1) (show (["belt", "row", "work"] : List Str).Nodup by decide +kernel) rfl (Or.inl rfl)) pgs_nil))), (pif_one (pt_cmpR (op_eqK (K := K) rfl hu) (pe_ix (ix_K (K := K) rfl) (pv 1) pe_int (fun _ _ => rfl)) (pv 2) (nomark _))), (pv 0)⟩))))), ?_⟩
    try dsimp only [L2.cxX, L2.cxOf, L2.cxComp]
    walk_at "rds"
    refine ⟨p, w, hl, _, rfl, hh, e1, fun w0 w1 => ?_⟩
    walk_at "rds"
    refine compN_walk (own := 2) (walks_enum (SqL.of h4)) (small1000 (by omega)) (fun i => [some (.int i), some (bs.getD i .non)]) (fun _ => rfl) (fun i => decide ((hl.belts.getD i dB).taker = w)) (fun i v _ => v = .int i) (fun _ _ _ _ _ z => z) (fun i a' H' v H2 Kg hi sm y ha k => ?_) (fun i H' Kc hi sm k => ?_) (fun pp i H' Kc hi hc hp0 hp1 sm k => ?_) (fun r H' ys hr sm hl' hR => ?_)
    · obtain ⟨t, ht, rfl, rfl⟩ := y
      obtain ⟨x1, x2, rfl⟩ : ∃ x1 x2, a' = [x1, x2] := by
        match a', ha with
        | [x1, x2], _ => exact ⟨x1, x2, rfl⟩
      refine Rd.gtup (.of upd_same) rfl ?_
      walk_at "rds"
      exact k _ (same_new ht)
    · obtain ⟨t, ht1, ht2⟩ := h6.getD (i := i) (by omega)
      rw [ht1]
      have ht3 := sm _ _ ht2
      generalize hl.belts.getD i dB = bb at *
      dsimp only [B5.v] at ht3
      walk_at "rds"
      exact k H' (Same.refl H')
    · walk_at "rds"
      exact k _ H' (Same.refl H') rfl
    · refine q w0 w1 r H' hr sm ?_
      rw [hl', paired_map (R := fun i v _ => v = V.int (i : Nat)) (H := H') (r := fun i : Nat => V.int i) (fun _ _ z => z) hR, hb]
      rfl
end
def sp_takes_of {K : PySem.W.Frag} {mg : Str → Option Value} (T : Tp K mg) : Sp := fun vs H Q E => ∃ (p : Addr) (w : Int) (hl : HM) (fp : List Addr), vs = [.ref p, .int w] ∧ HallAt T H p hl fp ∧ hl.belts.length ≤ 1000 ∧ 0 ≤ w ∧ w < hl.names.length ∧
  ∀ r H' ys, H r = none → Same H H' → H' r = some (.lst ys) → Pairs H' (takeRow hl.belts w) ys → Q (.ref r) H'
section
variable {P : Program} {w : World} {K : PySem.W.Frag} {mg : Str → Option Value} {base : Heap}
theorem ok_takes_of (T : Tp K mg) : FnOk P w K mg base (CXX P w) 6 T.f_takes_of T.d_takes_of ["hall", "work"] (sp_takes_of T) := by
  have G_Hall_entering : FnOk P w K mg base (CXX P w) 5 T.f_Hall_entering T.d_Hall_entering ["self", "work"] (sp_Hall_entering T) := (ok_Hall_entering T).mono (by decide)
  have G_Hall_belt_at : FnOk P w K mg base (CXX P w) 5 T.f_Hall_belt_at T.d_Hall_belt_at ["self", "belt"] (sp_Hall_belt_at T) := (ok_Hall_belt_at T).mono (by decide)
  have cl_Hall := T.cl_Hall
  have na_Hall := T.na_Hall
  refine T.F_takes_of.okX sc_takes_of (fun vs H Q E h => ?_) (fun cdv A outer s H vs Q E hr h => ?_)
  · obtain ⟨p, w, hl, fp, rfl, _⟩ := h
    rfl
  · have hu := hr.units
    obtain ⟨p, w, hl, fp, rfl, hh, hz, w0, w1, q⟩ := h
    refine ⟨_, (pss_one (ps_ret (pe_compN (xs := ["belt"]) rfl (cscope (x := "belt") (zs := ["hall"]) (ix := [0]) (defScope s_takes_of) ["hall", "work"] rfl rfl (by decide +kernel)) (pi_listK (K := K) rfl (pe_meth (pv 0) T.cl_Hall T.M_Hall_entering G_Hall_entering hr T.b_Hall_entering .nil pass_on (pa_cons (pv 1) pa_nil))) (fun cl C s H fp => ⟨(pg_name (i := 0) (show (["belt", "hall"] : List Str).Nodup by decide +kernel) rfl (Or.inl rfl)), pif_nil, (pe_tup (pa_cons (pv 0) (pa_cons (pe_ix (ix_K (K := K) rfl) (pe_meth (pv 1) T.cl_Hall T.M_Hall_belt_at G_Hall_belt_at hr T.b_Hall_belt_at .nil passX0 (pa_cons (pv 0) pa_nil)) pe_int (fun _ _ => rfl)) pa_nil)))⟩)))), ?_⟩
    try dsimp only [L2.cxX, L2.cxOf, L2.cxComp]
    walk_at "rds"
    refine ⟨p, w, hl, fp, rfl, hh, hz, fun z => absurd ⟨w0, w1⟩ z, fun _ _ e H1 he s1 he1 => ?_⟩
    have hh1 := hh.same s1
    have el := enterL_len (ls := hl.belts) (w := w)
    walk_at "rds"
    refine compN_walk (own := 1) (walks_lst (SqL.of he1)).y (small1000 (by rw [List.length_map]; omega)) (fun i => [some (.int ((enterL hl.belts w).getD i 0 : Nat))]) (fun _ => rfl) (fun _ => true) (fun i v H => ∃ t, v = V.ref t ∧ H t = some (.tup [.int ((enterL hl.belts w).getD i 0 : Nat), .int (hl.belts.getD ((enterL hl.belts w).getD i 0) dB).take])) (fun _ _ _ _ e ⟨t, z1, z2⟩ => ⟨t, z1, e _ _ z2⟩) (fun i a' H' v H2 Kg hi sm y ha' k => ?_) (fun i H' Kc hi sm k => ?_) (fun pp i H' Kc hi hc hp0 hp1 sm k => ?_) (fun r H' ys hr' sm hl' hR => ?_)
    · obtain ⟨rfl, rfl⟩ := y
      obtain ⟨x1, rfl⟩ : ∃ x1, a' = [x1] := by
        match a', ha' with
        | [x1], _ => exact ⟨x1, rfl⟩
      have hi' : i < (enterL hl.belts w).length := by simpa using hi
      have ev : ((enterL hl.belts w).map fun i : Nat => V.int i).getD i .non = .int ((enterL hl.belts w).getD i 0 : Nat) := by simp [List.getD, hi']
      rw [ev]
      walk_at "rds"
      exact k _ (Same.refl _)
    · walk_at "rds"
      exact k H' (Same.refl H')
    · have hi' : i < (enterL hl.belts w).length := by simpa using hi
      have hm : (enterL hl.belts w).getD i 0 ∈ enterL hl.belts w := by
        have : (enterL hl.belts w).getD i 0 = (enterL hl.belts w)[i] := by simp [List.getD, hi']
        rw [this]; exact List.getElem_mem hi'
      have hlt := enterL_lt hm
      generalize (enterL hl.belts w).getD i 0 = j at *
      have hh2 := hh1.same sm
      walk_at "rds"
      refine ⟨p, (j : Int), hl, fp, rfl, hh2, fun z => absurd ⟨Int.natCast_nonneg j, by omega⟩ z, fun _ _ t b hb ht => ?_⟩
      have hb' : hl.belts[j]? = some b := hb
      have eb : hl.belts.getD j dB = b := by simp [List.getD, hb']
      rw [eb] at k
      dsimp only [B5.v] at ht
      walk_at "rds"
      refine ⟨by show 2 ≤ sizeLine; decide, fun u hu' => ?_⟩
      exact k _ _ (same_new hu') ⟨u, rfl, hid_new hp1 hu'⟩
    · refine q r H' ys ?_ (s1.trans sm) hl' ?_
      · cases e : H r with
        | none => rfl
        | some o => rw [s1 _ _ e] at hr'; cases hr'
      · exact (pairs_row hR).keep fun b xs z => hid_same _ _ z
end
def sp_need_work_forms {K : PySem.W.Frag} {mg : Str → Option Value} (T : Tp K mg) : Sp := fun vs H Q E => ∃ (p : Addr) (w : Int) (v : V) (hl : HM) (fp : List Addr) (fs : List Form), vs = [.ref p, .int w, v] ∧ HallAt T H p hl fp ∧ hl.belts.length ≤ 1000 ∧ 0 ≤ w ∧ w < hl.names.length ∧ WForms H v fs ∧ FormsOk hl.belts w fs ∧
  ∀ H', Same H H' → Q .non H'
section
variable {P : Program} {w : World} {K : PySem.W.Frag} {mg : Str → Option Value} {base : Heap}
theorem ok_need_work_forms (T : Tp K mg) : FnOk P w K mg base (CXX P w) 8 T.f_need_work_forms T.d_need_work_forms ["hall", "work", "forms"] (sp_need_work_forms T) := by
  have G_given_by : FnOk P w K mg base (CXX P w) 7 T.f_given_by T.d_given_by ["hall", "work"] (sp_given_by T) := (ok_given_by T).mono (by decide)
  have G_takes_of : FnOk P w K mg base (CXX P w) 7 T.f_takes_of T.d_takes_of ["hall", "work"] (sp_takes_of T) := (ok_takes_of T).mono (by decide)
  have G_is_number_below : FnOk P w K mg base (CXX P w) 7 T.f_is_number_below T.d_is_number_below ["thing", "bound"] (sp_is_number_below T) := (ok_is_number_below T).mono (by decide)
  refine T.F_need_work_forms.okX sc_need_work_forms (fun vs H Q E h => ?_) (fun cdv A outer s H vs Q E hr h => ?_)
  · obtain ⟨p, w, v, hl, fp, fs, rfl, _⟩ := h
    rfl
  · have hu := hr.units
    obtain ⟨p, w, v, hl, fp, fs, rfl, hh, hz, w0, w1, hW, hok, q⟩ := h
    obtain ⟨a, vs, rfl, ha, hF⟩ := hW
    have hvl := Paired.length hF
    have hlen := hok.len
    have hsT := SqT.of (K := K) ha
    refine ⟨_, (pss_cons (ps_if (pt_cmpR (op_neK (K := K) rfl hu) (pe_callB (len_K (K := K) rfl) (by rfl) T.n_len PySem.boot_len (pa_cons (pv 2) pa_nil)) (pe_call G_given_by hr rfl T.m_given_by T.F_given_by.kp T.b_given_by .nil pass_on (pa_cons (pv 0) (pa_cons (pv 1) pa_nil))) (nomark _)) (pss_one (ps_raiseK T.gx_NoForm T.ex_NoForm PySem.F.excBase_ValueError rfl (pa_cons pe_str pa_nil))) pss_nil)
          (pss_cons (ps_set (i := 3) sc_need_work_forms.nd rfl (Or.inr rfl) (pe_callB (sum_K (K := K) rfl rfl) (by rfl) T.n_sum PyProof.Rows.boot_sum (pa_cons (pe_compN (xs := ["belt", "take"]) rfl (cscope (x := "belt") (zs := []) (ix := []) (defScope s_need_work_forms) ["hall", "work", "forms", "slots", "form"] rfl rfl (by decide +kernel)) (pi_listK (K := K) rfl (pe_call G_takes_of hr rfl T.m_takes_of T.F_takes_of.kp T.b_takes_of .nil pass_on (pa_cons (pv 0) (pa_cons (pv 1) pa_nil)))) (fun cl C s H fp => ⟨(pg_tupK (K := K) (n := 2) rfl rfl (pgs_cons (pg_name (i := 0) (show (["belt", "take"] : List Str).Nodup by decide +kernel) rfl (Or.inl rfl)) (pgs_cons (pg_name (i := 1) (show (["belt", "take"] : List Str).Nodup by decide +kernel) rfl (Or.inl rfl)) pgs_nil))), pif_nil, (pv 1)⟩)) pa_nil)))
          (pss_one (ps_for PassesOwn.leaving rfl (pi_tupK (K := K) rfl (pv 2)) (pg_name (i := 4) sc_need_work_forms.nd rfl (Or.inl rfl)) (pss_one (ps_if (pt_not (pt_truK (K := K) rfl (pe_callB (all_K (K := K) rfl rfl) (by rfl) T.n_all PyProof.Rows.boot_all (pa_cons (pe_compN (xs := ["slot", "factor"]) rfl (cscope (x := "slot") (zs := ["slots"]) (ix := [3]) (defScope s_need_work_forms) ["hall", "work", "forms", "slots", "form"] rfl rfl (by decide +kernel)) (pi_tupK (K := K) rfl (pe_ix (ix_K (K := K) rfl) (pv 4) pe_int (fun _ _ => rfl))) (fun cl C s H fp => ⟨(pg_tupK (K := K) (n := 2) rfl rfl (pgs_cons (pg_name (i := 0) (show (["slot", "factor", "slots"] : List Str).Nodup by decide +kernel) rfl (Or.inl rfl)) (pgs_cons (pg_name (i := 1) (show (["slot", "factor", "slots"] : List Str).Nodup by decide +kernel) rfl (Or.inl rfl)) pgs_nil))), pif_nil, (pe_call G_is_number_below hr rfl T.m_is_number_below T.F_is_number_below.kp T.b_is_number_below .nil passX0 (pa_cons (pv 0) (pa_cons (pv 2) pa_nil)))⟩)) pa_nil)) (fun _ => rfl))) (pss_one (ps_raiseK T.gx_NoForm T.ex_NoForm PySem.F.excBase_ValueError rfl (pa_cons pe_str pa_nil))) pss_nil)))))), ?_⟩
    try dsimp only [L2.cxX, L2.cxOf, L2.cxComp]
    walk_at "rds"
    refine ⟨p, w, hl, fp, rfl, hh, hz, w0, w1, fun H1 s1 => ?_⟩
    have hlen' : ((vs.length : Nat) : Int) = ((giveRow hl.belts w).map (·.2)).sum := by rw [hvl]; exact hok.len
    generalize ((giveRow hl.belts w).map (·.2)).sum = gn at *
    have hh1 := hh.same s1
    walk_at "rds"
    refine ⟨p, w, hl, fp, rfl, hh1, hz, w0, w1, fun r H2 ys hr s2 hr1 hP => ?_⟩
    have hyl : ys.length = (takeRow hl.belts w).length := (Paired.length hP).symm
    have hgl : (takeRow hl.belts w).length ≤ 1000 := Nat.le_trans takeRow_len hz
    have hsn : slotN hl.belts w = ((takeRow hl.belts w).map (·.2)).sum := rfl
    generalize takeRow hl.belts w = gr at *
    have hrq := SqL.of (K := K) hr1
    walk_at "rds"
    refine compN_walk (own := 2) (walks_lst hrq).y (small1000 (by omega)) (fun i => [some (.int (gr.getD i (0, 0)).1), some (.int (gr.getD i (0, 0)).2)]) (fun _ => rfl) (fun _ => true) (fun i v _ => v = .int (gr.getD i (0, 0)).2) (fun _ _ _ _ _ z => z) (fun i a' H' v H3 Kg hi sm y ha' k => ?_) (fun i H' Kc hi sm k => ?_) (fun pp i H' Kc hi hci hp0 hp1 sm k => ?_) (fun d H3 zs hd sm hl' hR => ?_)
    · obtain ⟨rfl, rfl⟩ := y
      obtain ⟨x1, x2, rfl⟩ : ∃ x1 x2, a' = [x1, x2] := by
        match a', ha' with
        | [x1, x2], _ => exact ⟨x1, x2, rfl⟩
      obtain ⟨t, et, ht⟩ := pairs_getD hP (i := i) (by omega)
      rw [et]
      refine Rd.gtup (.of (sm _ _ ht)) rfl ?_
      walk_at "rds"
      exact k _ (Same.refl _)
    · walk_at "rds"
      exact k H' (Same.refl H')
    · walk_at "rds"
      exact k _ H' (Same.refl H') rfl
    · rw [List.filter_eq_self.mpr (by simp), hyl] at hR
      have ey := paired_ints hR
      rw [map_range' (fun t : Int × Int => t.2)] at ey
      have hds := SqL.of (K := K) (ey ▸ hl')
      walk_at "rds"
      refine ⟨d, _, rfl, hds, ?_⟩
      rw [← hsn]
      have hfo := hok.ok
      generalize slotN hl.belts w = sn at *
      have s13 := s1.trans (s2.trans sm)
      have ha3 := s13 _ _ ha
      have hsT3 := SqT.of (K := K) ha3
      walk_at "rds"
      unfold iTup
      walk_at "rds"
      refine ⟨a, rfl, ⟨_, hsT3⟩, ?_⟩
      refine for_walk (walks_tup hsT3) (fun i σ H' => Same H3 H' ∧ ∃ a1, σ = [some (.ref p), some (.int w), some (.ref a), some (.int sn), a1]) ⟨Same.refl _, _, rfl⟩ (fun i σ H' h => h.1) ?_ ?_
      · rintro i σ H4 hi ⟨s4, a1, rfl⟩
        have hil : i < fs.length := by omega
        obtain ⟨fa, tm, tvs, ea, hfa, htm, hT⟩ := paired_getD (d := V.non) (e := ((0, []) : Form)) hF hil
        rw [ea]
        have hf := hfo (fs.getD i (0, [])) (by rw [getD_of hil]; exact List.getElem_mem _)
        generalize fs.getD i (0, []) = f at *
        have s04 := s13.trans s4
        have hfa4 := s04 _ _ hfa
        have htm4 := s04 _ _ htm
        have hst4 := SqT.of (K := K) htm4
        have htl := hT.length
        have hfew := hf.few
        walk_at "rds"
        try unfold iTup
        try walk_at "rds"
        refine ⟨tm, rfl, ⟨_, hst4⟩, ?_⟩
        refine compN_walk (own := 2) (walks_tup hst4).y (small1000 (by omega)) (fun i => [some (.int (f.2.getD i (0, 0)).1), some (.int (f.2.getD i (0, 0)).2)]) (fun _ => rfl) (fun _ => true) (fun i v _ => v = .bl (decide (0 ≤ (f.2.getD i (0, 0)).1 ∧ (f.2.getD i (0, 0)).1 < sn))) (fun _ _ _ _ _ z => z) (fun i a' H' v H3 Kg hi sm y ha' k => ?_) (fun i H' Kc hi sm k => ?_) (fun pp i H' Kc hi hci hp0 hp1 sm k => ?_) (fun d H5 zs hd sm5 hl5 hR5 => ?_)
        · obtain ⟨rfl, rfl⟩ := y
          obtain ⟨x1, x2, rfl⟩ : ∃ x1 x2, a' = [x1, x2] := by
            match a', ha' with
            | [x1, x2], _ => exact ⟨x1, x2, rfl⟩
          obtain ⟨t, et, ht⟩ := hT.getD (i := i) (by omega)
          rw [et]
          refine Rd.gtup (.of (sm _ _ (s04 _ _ ht))) rfl ?_
          walk_at "rds"
          exact k _ (Same.refl _)
        · walk_at "rds"
          exact k H' (Same.refl H')
        · walk_at "rds"
          exact k _ H' (Same.refl H') rfl
        · rw [List.filter_eq_self.mpr (by simp), htl] at hR5
          have ey5 := paired_bools hR5
          have hds5 := SqL.of (K := K) (ey5 ▸ hl5)
          have hall : (((List.range f.2.length).map fun i => decide (0 ≤ (f.2.getD i (0, 0)).1 ∧ (f.2.getD i (0, 0)).1 < sn)).all id) = true := all_range.mpr fun i hi => by
            have := hf.ter (f.2.getD i (0, 0)) (by rw [getD_of hi]; exact List.getElem_mem _)
            exact ⟨this.1, this.2.1⟩
          generalize (List.range f.2.length).map (fun i => decide (0 ≤ (f.2.getD i (0, 0)).1 ∧ (f.2.getD i (0, 0)).1 < sn)) = bs at *
          walk_at "rds"
          rw [hall]
          walk_at "rds"
          exact ⟨s4.trans sm5, _, rfl⟩
      · rintro σ H4 ⟨s4, a1, rfl⟩
        walk_at "rds"
        exact q H4 (s13.trans s4)
end
def sp_Hall_names {K : PySem.W.Frag} {mg : Str → Option Value} (T : Tp K mg) : Sp := fun vs H Q E => ∃ (p : Addr) (hl : HM) (fp : List Addr), vs = [.ref p] ∧ HallAt T H p hl fp ∧
  ∀ r H', H r = none → Same H H' → H' r = some (.lst (hl.names.map V.str)) → Q (.ref r) H'
section
variable {P : Program} {w : World} {K : PySem.W.Frag} {mg : Str → Option Value} {base : Heap}
theorem ok_Hall_names (T : Tp K mg) : FnOk P w K mg base (CXX P w) 1 T.f_Hall_names T.d_Hall_names ["self"] (sp_Hall_names T) := by
  have cl_Hall := T.cl_Hall
  have na_Hall := T.na_Hall
  refine T.F_Hall_names.okX sc_Hall_names (fun vs H Q E h => ?_) (fun cdv A outer s H vs Q E hr h => ?_)
  · obtain ⟨p, hl, fp, rfl, _⟩ := h
    rfl
  · have hu := hr.units
    obtain ⟨p, hl, fp, rfl, hh, q⟩ := h
    obtain ⟨dx, a, b, bs, rfl, h1, h2, h3, h4, nab, h6⟩ := id hh
    refine ⟨_, (pss_one (ps_ret (pe_callTy (call_listD rfl) (by rfl) T.n_list PyProof.Rows.boot_list (pa_cons (pe_fldK (K := K) rfl (pv 0) rfl) pa_nil)))), ?_⟩
    try dsimp only [L2.cxX, L2.cxOf, L2.cxComp]
    walk_at "rds"
    intro l hl'
    rw [numsOf_keys]
    exact q l _ hl' (same_new hl') upd_same
end
def sp_need_forms {K : PySem.W.Frag} {mg : Str → Option Value} (T : Tp K mg) : Sp := fun vs H Q E => ∃ (p c : Addr) (hl : HM) (fp : List Addr) (vs' : List V) (fss : List (List Form)), vs = [.ref p, .ref c] ∧ HallAt T H p hl fp ∧ hl.belts.length ≤ 1000 ∧ hl.names.length ≤ 1000 ∧ SqL K H c vs' ∧ FormsAt H vs' fss ∧ fss.length = hl.names.length ∧ (∀ i < fss.length, FormsOk hl.belts i (fss.getD i [])) ∧
  ∀ H', Same H H' → Q .non H'
section
variable {P : Program} {w : World} {K : PySem.W.Frag} {mg : Str → Option Value} {base : Heap}
theorem ok_need_forms (T : Tp K mg) : FnOk P w K mg base (CXX P w) 9 T.f_need_forms T.d_need_forms ["hall", "forms"] (sp_need_forms T) := by
  have G_need_work_forms : FnOk P w K mg base (CXX P w) 8 T.f_need_work_forms T.d_need_work_forms ["hall", "work", "forms"] (sp_need_work_forms T) := (ok_need_work_forms T).mono (by decide)
  have G_Hall_names : FnOk P w K mg base (CXX P w) 8 T.f_Hall_names T.d_Hall_names ["self"] (sp_Hall_names T) := (ok_Hall_names T).mono (by decide)
  have cl_Hall := T.cl_Hall
  have na_Hall := T.na_Hall
  refine T.F_need_forms.okX sc_need_forms (fun vs H Q E h => ?_) (fun cdv A outer s H vs Q E hr h => ?_)
  · obtain ⟨p, c, hl, fp, vs', fss, rfl, _⟩ := h
    rfl
  · have hu := hr.units
    obtain ⟨p, c, hl, fp, vs', fss, rfl, hh, hz, hnz, hc, hF, hlen, hok, q⟩ := h
    have hvl := Paired.length hF
    refine ⟨_, (pss_cons (ps_if (pt_cmpR (op_neK (K := K) rfl hu) (pe_callB (len_K (K := K) rfl) (by rfl) T.n_len PySem.boot_len (pa_cons (pv 1) pa_nil)) (pe_callB (len_K (K := K) rfl) (by rfl) T.n_len PySem.boot_len (pa_cons (pe_meth0 (pv 0) T.cl_Hall T.M_Hall_names G_Hall_names hr T.b_Hall_names .nil pass_on) pa_nil)) (nomark _)) (pss_one (ps_raiseK T.gx_NoForm T.ex_NoForm PySem.F.excBase_ValueError rfl (pa_cons pe_str pa_nil))) pss_nil)
          (pss_one (ps_for PassesOwn.leaving rfl (pi_enum (K := K) rfl rfl T.n_enumerate (pa_cons (pv 1) pa_nil)) (pg_tupK (K := K) (n := 2) rfl rfl (pgs_cons (pg_name (i := 2) sc_need_forms.nd rfl (Or.inl rfl)) (pgs_cons (pg_name (i := 3) sc_need_forms.nd rfl (Or.inl rfl)) pgs_nil))) (pss_one (ps_expr (pe_call G_need_work_forms hr rfl T.m_need_work_forms T.F_need_work_forms.kp T.b_need_work_forms .nil pass_on (pa_cons (pv 0) (pa_cons (pv 2) (pa_cons (pv 3) pa_nil))))))))), ?_⟩
    try dsimp only [L2.cxX, L2.cxOf, L2.cxComp]
    walk_at "rds"
    refine ⟨p, hl, fp, rfl, hh, fun r H1 hr s1 hr1 => ?_⟩
    have hr1q := SqL.of (K := K) hr1
    have hc1 := s1.seq hc
    have hnl : (vs'.length : Int) = ((hl.names.map V.str).length : Int) := by rw [List.length_map]; omega
    walk_at "rds"
    refine for_walkY (walks_enum hc1) (fun i σ H' => Same H1 H' ∧ ∃ a1 a2, σ = [some (.ref p), some (.ref c), a1, a2]) ⟨Same.refl _, _, _, rfl⟩ (fun i σ H' h => h.1) ?_ ?_
    · rintro i σ H2 v H3 hi ⟨s2, a1, a2, rfl⟩ ⟨t, ht, rfl, rfl⟩
      have s3 : Same H2 (upd H2 t (.tup [.int i, vs'.getD i .non])) := same_new ht
      have v3 : (upd H2 t (.tup [.int i, vs'.getD i .non])) t = some (.tup [.int i, vs'.getD i .non]) := upd_same
      generalize upd H2 t (.tup [.int i, vs'.getD i .non]) = H3 at *
      have s03 := s1.trans (s2.trans s3)
      refine Rd.gtup (.of v3) rfl ?_
      have hw := (paired_getD (d := V.non) (e := ([] : List Form)) hF (i := i) (by omega)).keep (fun b xs e => s03 _ _ e)
      generalize vs'.getD i .non = u at *
      walk_at "rds"
      refine ⟨p, i, u, hl, fp, _, rfl, hh.same s03, hz, by omega, by omega, hw, hok i (by omega), fun H4 s4 => ?_⟩
      walk_at "rds"
      exact ⟨s2.trans (s3.trans s4), _, _, rfl⟩
    · rintro σ H2 ⟨s2, a1, a2, rfl⟩
      walk_at "rds"
      exact q H2 (s1.trans s2)
end
def sp_Hall_belts {K : PySem.W.Frag} {mg : Str → Option Value} (T : Tp K mg) : Sp := fun vs H Q _ => ∃ (p : Addr) (hl : HM) (fp : List Addr), vs = [.ref p] ∧ HallAt T H p hl fp ∧
  ∀ (q : Addr) (H' : Hp) (bs : List V), H q = none → Same H H' → H' q = some (.lst bs) → Tups H' bs hl.belts → Q (.ref q) H'
theorem rd_Hall_belts {K : PySem.W.Frag} {mg : Str → Option Value} {T : Tp K mg} {H : Hp} {Q : VK} {E : XK} {p : Addr} {hl : HM} {fp : List Addr} (h : HallAt T H p hl fp)
    (q : ∀ (q : Addr) (H' : Hp) (bs : List V), H q = none → Same H H' → H' q = some (.lst bs) → Tups H' bs hl.belts → Q (.ref q) H') : sp_Hall_belts T (.ref p :: ([] ++ [])) H Q E := ⟨p, hl, fp, rfl, h, q⟩
local macro_rules | `(tactic| walk_at "rd") => `(tactic| first | with_reducible refine Nm.rd_Hall_belts (by with_reducible assumption) ?_ | fail "none here")
section
variable {P : Program} {w : World} {K : PySem.W.Frag} {mg : Str → Option Value} {base : Heap}
theorem ok_Hall_belts (T : Tp K mg) : FnOk P w K mg base (CXX P w) 1 T.f_Hall_belts T.d_Hall_belts ["self"] (sp_Hall_belts T) := by
  have cl_Hall := T.cl_Hall
  have na_Hall := T.na_Hall
  refine T.F_Hall_belts.okX sc_Hall_belts (fun vs H Q E h => ?_) (fun cdv A outer s H vs Q E hr h => ?_)
  · obtain ⟨p, hl, fp, rfl, _⟩ := h
    rfl
  · have hu := hr.units
    obtain ⟨p, hl, fp, rfl, hh, q⟩ := h
    obtain ⟨dx, a, b, bs, rfl, h1, h2, h3, h4, nab, h6⟩ := id hh
    refine ⟨_, (pss_one (ps_ret (pe_callTy (listOf_K (K := K) rfl) (by rfl) T.n_list PyProof.Rows.boot_list (pa_cons (pe_fldK (K := K) rfl (pv 0) rfl) pa_nil)))), ?_⟩
    try dsimp only [L2.cxX, L2.cxOf, L2.cxComp]
    walk_at "rds"
    refine Rd.listOfL (.of h4) (fun l hl' => ?_)
    exact q l _ bs hl' (same_new hl') upd_same (h6.keep ((same_new hl').frame (A := [])).tups)
end
def sp_starts_of {K : PySem.W.Frag} {mg : Str → Option Value} (T : Tp K mg) : Sp := fun vs H Q _ => ∃ (p : Addr) (hl : HM) (fp : List Addr), vs = [.ref p] ∧ HallAt T H p hl fp ∧ hl.belts.length ≤ 1000 ∧
  ∀ (r : Addr) (H' : Hp), H r = none → Same H H' → H' r = some (.lst ((startsL hl.belts).map V.int)) → Q (.ref r) H'
section
variable {P : Program} {w : World} {K : PySem.W.Frag} {mg : Str → Option Value} {base : Heap}
theorem ok_starts_of (T : Tp K mg) : FnOk P w K mg base (CXX P w) 2 T.f_starts_of T.d_starts_of ["hall"] (sp_starts_of T) := by
  have G_Hall_belts : FnOk P w K mg base (CXX P w) 1 T.f_Hall_belts T.d_Hall_belts ["self"] (sp_Hall_belts T) := (ok_Hall_belts T).mono (by decide)
  have cl_Hall := T.cl_Hall
  have na_Hall := T.na_Hall
  refine T.F_starts_of.okX sc_starts_of (fun vs H Q E h => ?_) (fun cdv A outer s H vs Q E hr h => ?_)
  · obtain ⟨p, hl, fp, rfl, _⟩ := h
    rfl
  · have hu := hr.units
    obtain ⟨p, hl, fp, rfl, hh, hz, q⟩ := h
    refine ⟨_, (pss_one (ps_ret (pe_comp rfl (cscope (x := "row") (zs := []) (ix := []) (defScope s_starts_of) ["hall"] rfl rfl (by decide +kernel)) (pi_listK (K := K) rfl (pe_meth0 (pv 0) T.cl_Hall T.M_Hall_belts G_Hall_belts hr T.b_Hall_belts .nil pass_on)) (fun cl C s H fp => ⟨(pg_name (i := 0) (show (["row"] : List Str).Nodup by decide +kernel) rfl (Or.inl rfl)), pif_nil, (pe_ix (ix_K (K := K) rfl) (pv 0) pe_int (fun _ _ => rfl))⟩)))), ?_⟩
    try dsimp only [L2.cxX, L2.cxOf, L2.cxComp]
    walk_at "rds"
    intro u H1 bs hu0 sm1 hu1 hT
    have hl1 := hT.length
    have hb : bs.length < sizeLine := small1000 (by rw [hl1]; exact hz)
    walk_at "rds"
    refine comp_walk (walks_lst (SqL.of hu1)) hb (fun _ => true) (fun i => .int (hl.belts.getD i dB).start) (fun i H' Kc hi sm k => ?_) (fun i H' Kc hi _ sm k => ?_) (fun r H' hr sm hr' => ?_)
    · walk_at "rds"
      exact k H' (Same.refl H')
    · have hil : i < hl.belts.length := by omega
      obtain ⟨t, ht1, ht2⟩ := hT.getD (i := i) hil
      rw [ht1]
      have ht3 := sm _ _ ht2
      generalize hl.belts.getD i dB = bb at *
      dsimp only [B5.v] at ht3
      walk_at "rds"
      exact k H' (Same.refl H')
    · refine q r H' (same_none sm1 hr) (sm1.trans sm) ?_
      rw [hr', List.filter_eq_self.mpr (by simp), hl1]
      unfold startsL
      refine congrArg (fun z => some (HO.lst z)) ?_
      refine List.ext_getElem (by simp) fun i h1 h2 => ?_
      have : i < hl.belts.length := by simpa using h1
      simp [List.getD, this]
end
def sp_need_pieces {K : PySem.W.Frag} {mg : Str → Option Value} (T : Tp K mg) : Sp := fun vs H Q E => ∃ (p c : Addr) (hl : HM) (fp : List Addr) (ys : List V) (xss : List (List Int)), vs = [.ref p, .ref c] ∧ HallAt T H p hl fp ∧ hl.belts.length ≤ 1000 ∧ H c = some (.lst ys) ∧ RowsAt H ys xss ∧ xss.length ≤ 1000 ∧
  (¬ PiecesOk xss (startsL hl.belts) → ∀ H', Same H H' → E (.ref T.X_NoPieces) none H') ∧ (PiecesOk xss (startsL hl.belts) → ∀ H', Same H H' → Q .non H')
section
variable {P : Program} {w : World} {K : PySem.W.Frag} {mg : Str → Option Value} {base : Heap}
theorem ok_need_pieces (T : Tp K mg) : FnOk P w K mg base (CXX P w) 3 T.f_need_pieces T.d_need_pieces ["hall", "pieces"] (sp_need_pieces T) := by
  have G_starts_of : FnOk P w K mg base (CXX P w) 2 T.f_starts_of T.d_starts_of ["hall"] (sp_starts_of T) := (ok_starts_of T).mono (by decide)
  refine T.F_need_pieces.okX sc_need_pieces (fun vs H Q E h => ?_) (fun cdv A outer s H vs Q E hr h => ?_)
  · obtain ⟨p, c, hl, fp, ys, xss, rfl, _⟩ := h
    rfl
  · have hu := hr.units
    obtain ⟨p, c, hl, fp, ys, xss, rfl, hh, hz, hc, hR, hxz, e1, q⟩ := h
    have hyl := hR.length
    refine ⟨_, (pss_cons (ps_set (i := 2) sc_need_pieces.nd rfl (Or.inl rfl) (pe_call G_starts_of hr rfl T.m_starts_of T.F_starts_of.kp T.b_starts_of .nil pass_on (pa_cons (pv 0) pa_nil)))
          (pss_cons (ps_if (pt_cmpR (op_neK (K := K) rfl hu) (pe_callB (len_K (K := K) rfl) (by rfl) T.n_len PySem.boot_len (pa_cons (pv 1) pa_nil)) (pe_callB (len_K (K := K) rfl) (by rfl) T.n_len PySem.boot_len (pa_cons (pv 2) pa_nil)) (nomark _)) (pss_one (ps_raiseK T.gx_NoPieces T.ex_NoPieces PySem.F.excBase_ValueError rfl (pa_cons pe_str pa_nil))) pss_nil)
          (pss_one (ps_if (pt_not (pt_truK (K := K) rfl (pe_callB (all_K (K := K) rfl rfl) (by rfl) T.n_all PyProof.Rows.boot_all (pa_cons (pe_compN (xs := ["lying", "start"]) rfl (cscope (x := "lying") (zs := []) (ix := []) (defScope s_need_pieces) ["hall", "pieces", "starts"] rfl rfl (by decide +kernel)) (pi_zip (K := K) rfl rfl T.n_zip (pa_cons (pv 1) (pa_cons (pv 2) pa_nil))) (fun cl C s H fp => ⟨(pg_tupK (K := K) (n := 2) rfl rfl (pgs_cons (pg_name (i := 0) (show (["lying", "start"] : List Str).Nodup by decide +kernel) rfl (Or.inl rfl)) (pgs_cons (pg_name (i := 1) (show (["lying", "start"] : List Str).Nodup by decide +kernel) rfl (Or.inl rfl)) pgs_nil))), pif_nil, (pe_cmpR (op_eqK (K := K) rfl hu) (pe_callB (len_K (K := K) rfl) (by rfl) T.n_len PySem.boot_len (pa_cons (pv 0) pa_nil)) (pv 1) (nomark _))⟩)) pa_nil)) (fun _ => rfl))) (pss_one (ps_raiseK T.gx_NoPieces T.ex_NoPieces PySem.F.excBase_ValueError rfl (pa_cons pe_str pa_nil))) pss_nil)))), ?_⟩
    try dsimp only [L2.cxX, L2.cxOf, L2.cxComp]
    walk_at "rds"
    refine ⟨p, hl, fp, rfl, hh, hz, fun r H1 hr s1 hr1 => ?_⟩
    have hc1 := SqL.of (K := K) (s1 _ _ hc)
    have hs1 := SqL.of (K := K) hr1
    have hR1 := hR.same s1
    generalize startsL hl.belts = ss at *
    walk_at "rds"
    by_cases hlen : xss.length = ss.length
    · rw [if_neg (by simp; omega)]
      walk_at "rds"
      refine ⟨c, r, rfl, ⟨_, hc1⟩, ⟨_, hs1⟩, ?_⟩
      refine compN_walk (own := 2) (walks_zip hc1 hs1 (by simp; omega)) (small1000 (by omega)) (fun i => [some (ys.getD i .non), some (.int (ss.getD i 0))]) (fun _ => rfl) (fun _ => true) (fun i v _ => v = .bl (decide (((xss.getD i []).length : Int) = ss.getD i 0))) (fun _ _ _ _ _ z => z) (fun i a' H' v H3 Kg hi sm y ha' k => ?_) (fun i H' Kc hi sm k => ?_) (fun pp i H' Kc hi hci hp0 hp1 sm k => ?_) (fun d H3 zs hd sm hl' hR3 => ?_)
      · obtain ⟨t, ht, rfl, rfl⟩ := y
        obtain ⟨x1, x2, rfl⟩ : ∃ x1 x2, a' = [x1, x2] := by
          match a', ha' with
          | [x1, x2], _ => exact ⟨x1, x2, rfl⟩
        have hi2 : i < ss.length := by omega
        have ev2 : (ss.map V.int).getD i .non = .int (ss.getD i 0) := by rw [getD_of hi2]; simp [List.getD, hi2]
        rw [ev2]
        refine Rd.gtup (.of upd_same) rfl ?_
        walk_at "rds"
        exact k _ (same_new ht)
      · walk_at "rds"
        exact k H' (Same.refl H')
      · obtain ⟨t, et, ht⟩ := rows_getD hR1 (i := i) (by omega)
        rw [et]
        have hts := SqL.of (K := K) (sm _ _ ht)
        walk_at "rds"
        refine k _ H' (Same.refl H') ?_
        rw [List.length_map]
      · rw [List.filter_eq_self.mpr (by simp), hyl] at hR3
        have ey := paired_bools hR3
        have hds := SqL.of (K := K) (ey ▸ hl')
        have s03 := s1.trans sm
        walk_at "rds"
        by_cases hall : PiecesOk xss ss
        · rw [all_range.mpr hall.2]
          walk_at "rds"
          exact q hall _ s03
        · have hf : (((List.range xss.length).map fun i => decide (((xss.getD i []).length : Int) = ss.getD i 0)).all id) = false := by
            cases e : (((List.range xss.length).map fun i => decide (((xss.getD i []).length : Int) = ss.getD i 0)).all id) with
            | false => rfl
            | true => exact absurd ⟨hlen, all_range.mp e⟩ hall
          rw [hf]
          walk_at "rds"
          exact e1 hall _ s03
    · rw [if_pos (by simp; omega)]
      walk_at "rds"
      exact e1 (fun z => hlen z.1) _ s1
end
def sp_Floor_init {K : PySem.W.Frag} {mg : Str → Option Value} (T : Tp K mg) : Sp := fun vs H Q E => ∃ (p dx h : Addr) (hl : HM) (fp : List Addr), vs = [.ref p, .ref h] ∧ H p = some (.ins T.C_Floor dx []) ∧ H dx = some (.own p) ∧ HallAt T H h hl fp ∧ hl.names.length ≤ 1000 ∧ hl.belts.length ≤ 1000 ∧
  ∀ (H' : Hp) (fp' : List Addr), FloorAt T H' p ⟨hl.names.length, hl.belts, hl.belts.map B5.start⟩ fp' → (∀ x ∈ fp', x = p ∨ x = dx ∨ H x = none) → (∀ b o, H b = some o → b ≠ p → H' b = some o) → Q .non H'
theorem rd_Floor_init {K : PySem.W.Frag} {mg : Str → Option Value} {T : Tp K mg} {H : Hp} {h : Addr} {hl : HM} {fp : List Addr} {Q : Addr → Hp → Prop} {E : XK} (hh : HallAt T H h hl fp) (hn : hl.names.length ≤ 1000) (hb : hl.belts.length ≤ 1000)
    (q : ∀ (p : Addr) (fp' : List Addr) (H' : Hp), FloorAt T H' p ⟨hl.names.length, hl.belts, hl.belts.map B5.start⟩ fp' → (∀ x ∈ fp', H x = none) → Same H H' → Q p H') :
    ∀ x dx, H x = none → H dx = none → dx ≠ x → sp_Floor_init T (.ref x :: ([.ref h] ++ [])) (upd (upd H dx (.own x)) x (.ins T.C_Floor dx [])) (fun v H2 => v = .non ∧ Q x H2) E := by
  intro x dx hx hdx ne
  have sm : Same H (upd (upd H dx (.own x)) x (.ins T.C_Floor dx [])) := fun b o e => by rw [upd_ne (ne_of_none e hx), upd_ne (ne_of_none e hdx)]; exact e
  refine ⟨x, dx, h, hl, fp, rfl, upd_same, by rw [upd_ne ne, upd_same], hh.same sm, hn, hb, fun H' fp' hh hf hk => ⟨rfl, q x fp' H' hh (fun y hy => ?_) (fun b o e => hk b o (sm b o e) (ne_of_none e hx))⟩⟩
  rcases hf y hy with rfl | rfl | h
  · exact hx
  · exact hdx
  · by_cases h1 : y = x
    · rw [h1]; exact hx
    · by_cases h2 : y = dx
      · rw [h2]; exact hdx
      · rw [upd_ne h1, upd_ne h2] at h
        exact h
theorem ll_of {H0 H : Hp} {n : Nat} {r : Addr} {f : Int → List (Int × Int)} {ys : List V} (h : Paired (fun (i : Nat) v => ∃ x vs, v = V.ref x ∧ H0 x = none ∧ (hid H r) x = some (.lst vs) ∧ Pairs (hid H r) (f (0 + (i : Int))) vs) ((List.range n).filter fun _ => true) ys) :
    ∃ ia : List Addr, ys = ia.map V.ref ∧ (∀ x ∈ ia, H0 x = none ∧ x ≠ r) ∧ LL H ((List.range n).map fun w : Nat => f w) ia := by
  rw [List.filter_eq_self.mpr (by simp)] at h
  generalize List.range n = is at h
  induction h with
  | nil => exact ⟨[], rfl, by simp, .nil⟩
  | @cons i v is ys hh t ih =>
    obtain ⟨ia, e, d, l⟩ := ih
    obtain ⟨x, vs, rfl, h0, h1, h2⟩ := hh
    rw [Int.zero_add] at h2
    have nx : x ≠ r := fun z => by rw [z, hid_self] at h1; cases h1
    refine ⟨x :: ia, by rw [e]; rfl, fun y hy => ?_, .cons ⟨vs, hid_same _ _ h1, h2.keep fun b xs z => hid_same _ _ z⟩ l⟩
    rcases List.mem_cons.mp hy with rfl | hy
    · exact ⟨h0, nx⟩
    · exact d y hy
section
variable {P : Program} {w : World} {K : PySem.W.Frag} {mg : Str → Option Value} {base : Heap}
theorem ok_Floor_init (T : Tp K mg) : FnOk P w K mg base (CXX P w) 7 T.f_Floor_init T.d_Floor_init ["self", "hall"] (sp_Floor_init T) := by
  have G_takes_of : FnOk P w K mg base (CXX P w) 6 T.f_takes_of T.d_takes_of ["hall", "work"] (sp_takes_of T) := (ok_takes_of T).mono (by decide)
  have G_gives_of : FnOk P w K mg base (CXX P w) 6 T.f_gives_of T.d_gives_of ["hall", "work"] (sp_gives_of T) := (ok_gives_of T).mono (by decide)
  have G_Hall_names : FnOk P w K mg base (CXX P w) 6 T.f_Hall_names T.d_Hall_names ["self"] (sp_Hall_names T) := (ok_Hall_names T).mono (by decide)
  have G_Hall_belts : FnOk P w K mg base (CXX P w) 6 T.f_Hall_belts T.d_Hall_belts ["self"] (sp_Hall_belts T) := (ok_Hall_belts T).mono (by decide)
  have cl_Floor := T.cl_Floor
  have na_Floor := T.na_Floor
  have cl_Hall := T.cl_Hall
  have na_Hall := T.na_Hall
  refine T.F_Floor_init.okX sc_Floor_init (fun vs H Q E h => ?_) (fun cdv A outer s H vs Q E hr h => ?_)
  · obtain ⟨p, dx, h, hl, fp, rfl, _⟩ := h
    rfl
  · have hu := hr.units
    obtain ⟨p, dx, ha, hl, fp, rfl, hp, hdx, hh, hn, hbz, q⟩ := h
    have nph : p ∉ fp := by
      intro z
      obtain ⟨dx', a, b, bs, rfl, h1, h2, h3, h4, nab, h6⟩ := hh
      simp only [List.mem_cons, List.not_mem_nil, or_false] at z
      rcases z with rfl | rfl | rfl | rfl
      · rw [h1] at hp
        injection hp with e
        injection e with e1 e2 e3
        cases e3
      · rw [h2] at hp; cases hp
      · rw [h3] at hp; cases hp
      · rw [h4] at hp; cases hp
    refine ⟨_, (pss_cons (ps_set (i := 2) sc_Floor_init.nd rfl (Or.inl rfl) (pe_callB (len_K (K := K) rfl) (by rfl) T.n_len PySem.boot_len (pa_cons (pe_meth0 (pv 1) T.cl_Hall T.M_Hall_names G_Hall_names hr T.b_Hall_names .nil pass_on) pa_nil)))
          (pss_cons (ps_fldK (K := K) rfl (pv 0) (pe_compN (xs := ["work"]) rfl (cscope (x := "work") (zs := ["hall"]) (ix := [1]) (defScope s_Floor_init) ["self", "hall", "works"] rfl rfl (by decide +kernel)) (pi_range1 rfl T.n_range (pa_cons (pv 2) pa_nil)) (fun cl C s H fp => ⟨(pg_name (i := 0) (show (["work", "hall"] : List Str).Nodup by decide +kernel) rfl (Or.inl rfl)), pif_nil, (pe_call G_takes_of hr rfl T.m_takes_of T.F_takes_of.kp T.b_takes_of .nil passX0 (pa_cons (pv 1) (pa_cons (pv 0) pa_nil)))⟩)) rfl)
          (pss_cons (ps_fldK (K := K) rfl (pv 0) (pe_compN (xs := ["work"]) rfl (cscope (x := "work") (zs := ["hall"]) (ix := [1]) (defScope s_Floor_init) ["self", "hall", "works"] rfl rfl (by decide +kernel)) (pi_range1 rfl T.n_range (pa_cons (pv 2) pa_nil)) (fun cl C s H fp => ⟨(pg_name (i := 0) (show (["work", "hall"] : List Str).Nodup by decide +kernel) rfl (Or.inl rfl)), pif_nil, (pe_call G_gives_of hr rfl T.m_gives_of T.F_gives_of.kp T.b_gives_of .nil passX0 (pa_cons (pv 1) (pa_cons (pv 0) pa_nil)))⟩)) rfl)
          (pss_one (ps_fldK (K := K) rfl (pv 0) (pe_comp rfl (cscope (x := "row") (zs := []) (ix := []) (defScope s_Floor_init) ["self", "hall", "works"] rfl rfl (by decide +kernel)) (pi_listK (K := K) rfl (pe_meth0 (pv 1) T.cl_Hall T.M_Hall_belts G_Hall_belts hr T.b_Hall_belts .nil pass_on)) (fun cl C s H fp => ⟨(pg_name (i := 0) (show (["row"] : List Str).Nodup by decide +kernel) rfl (Or.inl rfl)), pif_nil, (pe_ix (ix_K (K := K) rfl) (pv 0) pe_int (fun _ _ => rfl))⟩)) rfl))))), ?_⟩
    try dsimp only [L2.cxX, L2.cxOf, L2.cxComp]
    walk_at "rds"
    refine ⟨ha, hl, fp, rfl, hh, fun nm H1 hnm s1 hnm1 => ?_⟩
    have hh1 := hh.same s1
    have hp1 := s1 _ _ hp
    have hd1 := s1 _ _ hdx
    have nml : (hl.names.map V.str).length = hl.names.length := by simp
    walk_at "rds"
    refine compN_walk (own := 1) walks_rng.y (small1000 (by rw [nml]; exact hn)) (fun i => [some (.int (0 + (i : Int)))]) (fun _ => rfl) (fun _ => true) (fun (i : Nat) v H2 => ∃ x vs, v = V.ref x ∧ H1 x = none ∧ H2 x = some (.lst vs) ∧ Pairs H2 (takeRow hl.belts (0 + (i : Int))) vs) (fun _ _ _ _ e ⟨x, vs, z1, z2, z3, z4⟩ => ⟨x, vs, z1, z2, e _ _ z3, z4.keep fun _ _ z => e _ _ z⟩) (fun i a' H' v H2 Kg hi sm y ha' k => ?_) (fun i H' Kc hi sm k => ?_) (fun pp i H' Kc hi hc hp0 hp1' sm k => ?_) (fun ra H2 ys hra s2 hra2 hR => ?_)
    · obtain ⟨rfl, rfl⟩ := y
      obtain ⟨x1, rfl⟩ : ∃ x1, a' = [x1] := by
        match a', ha' with
        | [x1], _ => exact ⟨x1, rfl⟩
      walk_at "rds"
      exact k _ (Same.refl _)
    · walk_at "rds"
      exact k H' (Same.refl H')
    · walk_at "rds"
      refine ⟨ha, 0 + (i : Int), hl, fp, rfl, hh1.same sm, hbz, by omega, by omega, fun x H3 vs hx s3 hx3 hP => ?_⟩
      refine k _ H3 s3 ⟨x, vs, rfl, ?_, hid_at hp1' hx hx3, hP.keep fun b xs z => hid_tups hp1' s3 z⟩
      cases e : H1 x with
      | none => rfl
      | some o => rw [sm _ _ e] at hx; cases hx
    obtain ⟨ia, rfl, hia, hLa⟩ := ll_of hR
    rw [nml, Int.toNat_natCast] at hLa
    have hp2 := s2 _ _ hp1
    have hd2 := s2 _ _ hd1
    have hh2 := hh1.same s2
    have npd : p ≠ dx := ne_of hp hdx (by intro z; cases z)
    have npra : p ≠ ra := ne_of hp2 hra2 (by intro z; cases z)
    have fr0 : ∀ {x : Addr}, H1 x = none → H x = none := fun {x} hx => by
      cases e : H x with
      | none => rfl
      | some o => rw [s1 _ _ e] at hx; cases hx
    walk_at "rds"
    have f3 : Frame [p] H2 (upd H2 p (.ins T.C_Floor dx [("takes", .ref ra)])) := frame_upd (by simp) hp2 (by intro _ z; cases z)
    have hp3 : (upd H2 p (.ins T.C_Floor dx [("takes", .ref ra)])) p = some (.ins T.C_Floor dx [("takes", .ref ra)]) := upd_same
    have hd3 := f3.keep _ _ hd2 (by simpa using npd.symm)
    have hra3 := f3.keep _ _ hra2 (by simpa using npra.symm)
    have hh3 := hh2.off f3 (fun x hx z => nph (by rw [← List.mem_singleton.mp z]; exact hx))
    have nia : ∀ x ∈ ia, x ≠ p := fun x hx z => by
      have := (hia x hx).1
      rw [z, hp1] at this
      cases this
    have hLa3 : LL (upd H2 p (.ins T.C_Floor dx [("takes", .ref ra)])) _ ia := hLa.keep f3.tups (fun x hx => upd_ne (nia x hx))
    have k3 : ∀ b o, H b = some o → b ≠ p → (upd H2 p (.ins T.C_Floor dx [("takes", .ref ra)])) b = some o := fun b o e n => f3.keep _ _ (s2 _ _ (s1 _ _ e)) (by simpa using n)
    generalize upd H2 p (.ins T.C_Floor dx [("takes", .ref ra)]) = H3 at *
    clear f3
    walk_at "rds"
    refine compN_walk (own := 1) walks_rng.y (small1000 (by rw [nml]; exact hn)) (fun i => [some (.int (0 + (i : Int)))]) (fun _ => rfl) (fun _ => true) (fun (i : Nat) v H2 => ∃ x vs, v = V.ref x ∧ H3 x = none ∧ H2 x = some (.lst vs) ∧ Pairs H2 (giveRow hl.belts (0 + (i : Int))) vs) (fun _ _ _ _ e ⟨x, vs, z1, z2, z3, z4⟩ => ⟨x, vs, z1, z2, e _ _ z3, z4.keep fun _ _ z => e _ _ z⟩) (fun i a' H' v H2 Kg hi sm y ha' k => ?_) (fun i H' Kc hi sm k => ?_) (fun pp i H' Kc hi hc hp0 hp1' sm k => ?_) (fun rb H4 ys hrb s4 hrb4 hR4 => ?_)
    · obtain ⟨rfl, rfl⟩ := y
      obtain ⟨x1, rfl⟩ : ∃ x1, a' = [x1] := by
        match a', ha' with
        | [x1], _ => exact ⟨x1, rfl⟩
      walk_at "rds"
      exact k _ (Same.refl _)
    · walk_at "rds"
      exact k H' (Same.refl H')
    · walk_at "rds"
      refine ⟨ha, 0 + (i : Int), hl, fp, rfl, hh3.same sm, hbz, by omega, by omega, fun x H5 vs hx s5 hx5 hP => ?_⟩
      refine k _ H5 s5 ⟨x, vs, rfl, ?_, hid_at hp1' hx hx5, hP.keep fun b xs z => hid_tups hp1' s5 z⟩
      cases e : H3 x with
      | none => rfl
      | some o => rw [sm _ _ e] at hx; cases hx
    obtain ⟨ib, rfl, hib, hLb⟩ := ll_of hR4
    rw [nml, Int.toNat_natCast] at hLb
    have hp4 := s4 _ _ hp3
    have hd4 := s4 _ _ hd3
    have hra4 := s4 _ _ hra3
    have hh4 := hh3.same s4
    have hLa4 : LL H4 _ ia := hLa3.keep (fun b xs z => s4 _ _ z) (fun x hx => by
      cases e : H3 x with
      | none => exact absurd e (hLa3.dom x hx)
      | some o => exact s4 _ _ e)
    have npra4 : p ≠ rb := ne_of hp4 hrb4 (by intro z; cases z)
    have fr3 : ∀ {x : Addr}, H3 x = none → H x = none := fun {x} hx => by
      cases e : H x with
      | none => rfl
      | some o =>
        by_cases n : x = p
        · rw [n, hp3] at hx; cases hx
        · rw [k3 _ _ e n] at hx; cases hx
    walk_at "rds"
    have f5 : Frame [p] H4 (upd H4 p (.ins T.C_Floor dx [("takes", .ref ra), ("gives", .ref rb)])) := frame_upd (by simp) hp4 (by intro _ z; cases z)
    have hp5 : (upd H4 p (.ins T.C_Floor dx [("takes", .ref ra), ("gives", .ref rb)])) p = some (.ins T.C_Floor dx [("takes", .ref ra), ("gives", .ref rb)]) := upd_same
    have hd5 := f5.keep _ _ hd4 (by simpa using npd.symm)
    have hra5 := f5.keep _ _ hra4 (by simpa using npra.symm)
    have hrb5 := f5.keep _ _ hrb4 (by simpa using npra4.symm)
    have hh5 := hh4.off f5 (fun x hx z => nph (by rw [← List.mem_singleton.mp z]; exact hx))
    have nib : ∀ x ∈ ib, x ≠ p := fun x hx z => by
      have := (hib x hx).1
      rw [z, hp3] at this
      cases this
    have hLa5 : LL (upd H4 p (.ins T.C_Floor dx [("takes", .ref ra), ("gives", .ref rb)])) _ ia := hLa4.keep f5.tups (fun x hx => upd_ne (nia x hx))
    have hLb5 : LL (upd H4 p (.ins T.C_Floor dx [("takes", .ref ra), ("gives", .ref rb)])) _ ib := hLb.keep f5.tups (fun x hx => upd_ne (nib x hx))
    have k5 : ∀ b o, H b = some o → b ≠ p → (upd H4 p (.ins T.C_Floor dx [("takes", .ref ra), ("gives", .ref rb)])) b = some o := fun b o e n => f5.keep _ _ (s4 _ _ (k3 _ _ e n)) (by simpa using n)
    generalize upd H4 p (.ins T.C_Floor dx [("takes", .ref ra), ("gives", .ref rb)]) = H5 at *
    clear f5
    walk_at "rds"
    intro u H6 bs hu0 s6 hu6 hT
    have hl6 := hT.length
    have hb6 : bs.length < sizeLine := small1000 (by rw [hl6]; exact hbz)
    walk_at "rds"
    refine comp_walk (walks_lst (SqL.of hu6)) hb6 (fun _ => true) (fun i => .int ((hl.belts.map B5.start).getD i 0)) (fun i H' Kc hi sm k => ?_) (fun i H' Kc hi _ sm k => ?_) (fun rc H7 hrc s7 hrc7 => ?_)
    · walk_at "rds"
      exact k H' (Same.refl H')
    · have hil : i < hl.belts.length := by omega
      obtain ⟨t, ht1, ht2⟩ := hT.at (List.getElem?_eq_getElem hil)
      have eb : bs.getD i .non = .ref t := by simp [List.getD, ht1]
      have ed : (hl.belts.map B5.start).getD i 0 = hl.belts[i].start := by simp [List.getD, hil]
      rw [eb]
      rw [ed] at k
      have ht3 := sm _ _ ht2
      generalize hl.belts[i] = bb at *
      dsimp only [B5.v] at ht3
      walk_at "rds"
      exact k H' (Same.refl H')
    have hrc8 : H7 rc = some (.lst ((hl.belts.map B5.start).map V.int)) := by
      rw [hrc7, List.filter_eq_self.mpr (by simp), hl6]
      congr 2
      refine List.ext_getElem (by simp) fun i h1 h2 => ?_
      have : i < hl.belts.length := by simpa using h1
      simp [List.getD, this]
    have s57 := s6.trans s7
    have hp7 := s57 _ _ hp5
    have nprc : p ≠ rc := ne_of hp7 hrc8 (by intro z; cases z)
    walk_at "rds"
    have f8 : Frame [p] H7 (upd H7 p (.ins T.C_Floor dx [("takes", .ref ra), ("gives", .ref rb), ("heaps", .ref rc)])) := frame_upd (by simp) hp7 (by intro _ z; cases z)
    have kk : ∀ x, x ≠ p → H5 x ≠ none → (upd H7 p (.ins T.C_Floor dx [("takes", .ref ra), ("gives", .ref rb), ("heaps", .ref rc)])) x = H5 x := fun x n d => by
      rw [upd_ne n]
      cases e : H5 x with
      | none => exact absurd e d
      | some o => exact s57 _ _ e
    have tt : ∀ b xs, H5 b = some (.tup xs) → (upd H7 p (.ins T.C_Floor dx [("takes", .ref ra), ("gives", .ref rb), ("heaps", .ref rc)])) b = some (.tup xs) := fun b xs z => f8.tups _ _ (s57 _ _ z)
    have k8 : ∀ b o, H b = some o → b ≠ p → (upd H7 p (.ins T.C_Floor dx [("takes", .ref ra), ("gives", .ref rb), ("heaps", .ref rc)])) b = some o := fun b o e n => f8.keep _ _ (s57 _ _ (k5 _ _ e n)) (by simpa using n)
    have fr5 : ∀ {x : Addr}, H5 x = none → H x = none := fun {x} hx => by
      cases e : H x with
      | none => rfl
      | some o =>
        by_cases n : x = p
        · rw [n, hp5] at hx; cases hx
        · rw [k5 _ _ e n] at hx; cases hx
    have fr6 : H6 rc = none → H rc = none := fun hx => fr5 (by
      cases e : H5 rc with
      | none => rfl
      | some o => rw [s6 _ _ e] at hx; cases hx)
    refine q _ (p :: dx :: ra :: rb :: rc :: (ia ++ ib)) ⟨dx, ra, rb, rc, ia, ib, rfl, upd_same, ?_, ?_, ?_, ?_, hLa5.keep tt (fun x hx => kk x (nia x hx) (hLa5.dom x hx)), hLb5.keep tt (fun x hx => kk x (nib x hx) (hLb5.dom x hx)), by simp, Int.natCast_nonneg _⟩ (fun x hx => ?_) k8
    · exact (kk _ npd.symm (by rw [hd5]; simp)).trans hd5
    · exact (kk _ npra.symm (by rw [hra5]; simp)).trans hra5
    · exact (kk _ npra4.symm (by rw [hrb5]; simp)).trans hrb5
    · rw [upd_ne nprc.symm]; exact hrc8
    · simp only [List.mem_cons, List.mem_append] at hx
      rcases hx with rfl | rfl | rfl | rfl | rfl | hx | hx
      · exact .inl rfl
      · exact .inr (.inl rfl)
      · exact .inr (.inr (fr0 hra))
      · exact .inr (.inr (fr3 hrb))
      · exact .inr (.inr (fr6 hrc))
      · exact .inr (.inr (fr0 (hia x hx).1))
      · exact .inr (.inr (fr3 (hib x hx).1))
end
def sp_Lane_init {K : PySem.W.Frag} {mg : Str → Option Value} (T : Tp K mg) : Sp := fun vs H Q E => ∃ (p dx c : Addr) (xs : List Int), vs = [.ref p, .ref c] ∧ H p = some (.ins T.C_Lane dx []) ∧ H dx = some (.own p) ∧ SqL K H c (xs.map V.int) ∧ xs.length ≤ 1000000 ∧
  ∀ (H' : Hp) (fp' : List Addr), LaneAt T H' p xs fp' → (∀ x ∈ fp', x = p ∨ x = dx ∨ H x = none) → (∀ b o, H b = some o → b ≠ p → H' b = some o) → Q .non H'
section
variable {P : Program} {w : World} {K : PySem.W.Frag} {mg : Str → Option Value} {base : Heap}
theorem ok_Lane_init (T : Tp K mg) : FnOk P w K mg base (CXX P w) 1 T.f_Lane_init T.d_Lane_init ["self", "pieces"] (sp_Lane_init T) := by
  have cl_Lane := T.cl_Lane
  have na_Lane := T.na_Lane
  refine T.F_Lane_init.okX sc_Lane_init (fun vs H Q E h => ?_) (fun cdv A outer s H vs Q E hr h => ?_)
  · obtain ⟨p, dx, c, xs, rfl, _⟩ := h
    rfl
  · have hu := hr.units
    obtain ⟨p, dx, c, xs, rfl, hp, hdx, hc, hxz, q⟩ := h
    refine ⟨_, (pss_cons (ps_fldK (K := K) rfl (pv 0) (pe_callTy (listOf_K (K := K) rfl) (by rfl) T.n_list PyProof.Rows.boot_list (pa_cons (pv 1) pa_nil)) rfl)
          (pss_one (ps_fldK (K := K) rfl (pv 0) pe_int rfl))), ?_⟩
    try dsimp only [L2.cxX, L2.cxOf, L2.cxComp]
    walk_at "rds"
    refine ⟨c, _, rfl, .inl hc, fun l hl => ?_⟩
    have s1 : Same H (upd H l (.lst (xs.map V.int))) := same_new hl
    have v1 : (upd H l (.lst (xs.map V.int))) l = some (.lst (xs.map V.int)) := upd_same
    generalize upd H l (.lst (xs.map V.int)) = H1 at *
    have hp1 := s1 _ _ hp
    have hdx1 := s1 _ _ hdx
    have n1 : dx ≠ p := fun z => by rw [z, hp] at hdx; cases hdx
    have n2 : l ≠ p := fun z => by rw [z, hp] at hl; cases hl
    walk_at "rds"
    refine q _ [p, dx, l] ⟨dx, l, xs, 0, rfl, upd_same, by rw [upd_ne n1, upd_ne n1]; exact hdx1, by rw [upd_ne n2, upd_ne n2]; exact v1, Nat.zero_le _, rfl, by omega⟩ (fun x hx => ?_) (fun b o e nb => by rw [upd_ne nb, upd_ne nb]; exact s1 _ _ e)
    simp only [List.mem_cons, List.not_mem_nil, or_false] at hx
    rcases hx with rfl | rfl | rfl
    · exact .inl rfl
    · exact .inr (.inl rfl)
    · exact .inr (.inr hl)
end
theorem rd_Lane_init {K : PySem.W.Frag} {mg : Str → Option Value} {T : Tp K mg} {H : Hp} {c : Addr} {xs : List Int} {Q : Addr → Hp → Prop} {E : XK} (hc : SqL K H c (xs.map V.int)) (hz : xs.length ≤ 1000000)
    (q : ∀ (p : Addr) (fp' : List Addr) (H' : Hp), LaneAt T H' p xs fp' → (∀ x ∈ fp', H x = none) → Same H H' → Q p H') :
    ∀ x dx, H x = none → H dx = none → dx ≠ x → sp_Lane_init T (.ref x :: ([.ref c] ++ [])) (upd (upd H dx (.own x)) x (.ins T.C_Lane dx [])) (fun v H2 => v = .non ∧ Q x H2) E := by
  intro x dx hx hdx ne
  have sm : Same H (upd (upd H dx (.own x)) x (.ins T.C_Lane dx [])) := fun b o e => by rw [upd_ne (ne_of_none e hx), upd_ne (ne_of_none e hdx)]; exact e
  refine ⟨x, dx, c, xs, rfl, upd_same, by rw [upd_ne ne, upd_same], sm.seq hc, hz, fun H' fp' hh hf hk => ⟨rfl, q x fp' H' hh (fun y hy => ?_) (fun b o e => hk b o (sm b o e) (ne_of_none e hx))⟩⟩
  rcases hf y hy with rfl | rfl | h
  · exact hx
  · exact hdx
  · by_cases h1 : y = x
    · rw [h1]; exact hx
    · by_cases h2 : y = dx
      · rw [h2]; exact hdx
      · rw [upd_ne h1, upd_ne h2] at h
        exact h
def sp_Mill_init {K : PySem.W.Frag} {mg : Str → Option Value} (T : Tp K mg) : Sp := fun vs H Q E => ∃ (p dx h c d : Addr) (hl : HM) (fp : List Addr) (vs' : List V) (fss : List (List Form)) (ys : List V) (xss : List (List Int)), vs = [.ref p, .ref h, .ref c, .ref d] ∧ H p = some (.ins T.C_Mill dx []) ∧ H dx = some (.own p) ∧ HallAt T H h hl fp ∧ hl.belts.length ≤ 1000 ∧ hl.names.length ≤ 1000 ∧ H c = some (.lst vs') ∧ FormsAt H vs' fss ∧ AllForms hl.names.length hl.belts fss ∧ H d = some (.lst ys) ∧ RowsAt H ys xss ∧ PiecesOk xss (startsL hl.belts) ∧ (∀ i < xss.length, (xss.getD i []).length ≤ 100000) ∧
  ∀ (H' : Hp) (fp' : List Addr), MillAt T H' p ⟨hl.names.length, hl.belts, hl.belts.map B5.start⟩ fss (fun i => xss.getD i []) fp' → (∀ x ∈ fp', x = p ∨ x = dx ∨ H x = none) → (∀ b o, H b = some o → b ≠ p → H' b = some o) → Q .non H'
theorem rd_Mill_init {K : PySem.W.Frag} {mg : Str → Option Value} {T : Tp K mg} {H : Hp} {h c d : Addr} {hl : HM} {fp : List Addr} {vs' : List V} {fss : List (List Form)} {ys : List V} {xss : List (List Int)} {Q : Addr → Hp → Prop} {E : XK} (hh : HallAt T H h hl fp) (hb : hl.belts.length ≤ 1000) (hn : hl.names.length ≤ 1000) (hc : H c = some (.lst vs')) (hF : FormsAt H vs' fss) (hA : AllForms hl.names.length hl.belts fss) (hd : H d = some (.lst ys)) (hR : RowsAt H ys xss) (hP : PiecesOk xss (startsL hl.belts)) (hz : ∀ i < xss.length, (xss.getD i []).length ≤ 100000)
    (q : ∀ (p : Addr) (fp' : List Addr) (H' : Hp), MillAt T H' p ⟨hl.names.length, hl.belts, hl.belts.map B5.start⟩ fss (fun i => xss.getD i []) fp' → (∀ x ∈ fp', H x = none) → Same H H' → Q p H') :
    ∀ x dx, H x = none → H dx = none → dx ≠ x → sp_Mill_init T (.ref x :: ([.ref h, .ref c, .ref d] ++ [])) (upd (upd H dx (.own x)) x (.ins T.C_Mill dx [])) (fun v H2 => v = .non ∧ Q x H2) E := by
  intro x dx hx hdx ne
  have sm : Same H (upd (upd H dx (.own x)) x (.ins T.C_Mill dx [])) := fun b o e => by rw [upd_ne (ne_of_none e hx), upd_ne (ne_of_none e hdx)]; exact e
  refine ⟨x, dx, h, c, d, hl, fp, vs', fss, ys, xss, rfl, upd_same, by rw [upd_ne ne, upd_same], hh.same sm, hb, hn, sm _ _ hc, hF.keep (fun b xs e => sm _ _ e), hA, sm _ _ hd, hR.same sm, hP, hz, fun H' fp' hh hf hk => ⟨rfl, q x fp' H' hh (fun y hy => ?_) (fun b o e => hk b o (sm b o e) (ne_of_none e hx))⟩⟩
  rcases hf y hy with rfl | rfl | h
  · exact hx
  · exact hdx
  · by_cases h1 : y = x
    · rw [h1]; exact hx
    · by_cases h2 : y = dx
      · rw [h2]; exact hdx
      · rw [upd_ne h1, upd_ne h2] at h
        exact h
section
variable {P : Program} {w : World} {K : PySem.W.Frag} {mg : Str → Option Value} {base : Heap}
theorem ok_Mill_init (T : Tp K mg) : FnOk P w K mg base (CXX P w) 10 T.f_Mill_init T.d_Mill_init ["self", "hall", "forms", "pieces"] (sp_Mill_init T) := by
  have G_need_forms : FnOk P w K mg base (CXX P w) 9 T.f_need_forms T.d_need_forms ["hall", "forms"] (sp_need_forms T) := (ok_need_forms T).mono (by decide)
  have G_need_pieces : FnOk P w K mg base (CXX P w) 9 T.f_need_pieces T.d_need_pieces ["hall", "pieces"] (sp_need_pieces T) := (ok_need_pieces T).mono (by decide)
  have G_Floor_init : FnOk P w K mg base (CXX P w) 8 T.f_Floor_init T.d_Floor_init ["self", "hall"] (sp_Floor_init T) := (ok_Floor_init T).mono (by decide)
  have G_Lane_init : FnOk P w K mg base (CXX P w) 8 T.f_Lane_init T.d_Lane_init ["self", "pieces"] (sp_Lane_init T) := (ok_Lane_init T).mono (by decide)
  have cl_Floor := T.cl_Floor
  have na_Floor := T.na_Floor
  have cl_Lane := T.cl_Lane
  have na_Lane := T.na_Lane
  have cl_Mill := T.cl_Mill
  have na_Mill := T.na_Mill
  refine T.F_Mill_init.okX sc_Mill_init (fun vs H Q E h => ?_) (fun cdv A outer s H vs Q E hr h => ?_)
  · obtain ⟨p, dx, h, c, d, hl, fp, vs', fss, ys, xss, rfl, _⟩ := h
    rfl
  · have hu := hr.units
    obtain ⟨p, dx, h, c, d, hl, fp, vs', fss, ys, xss, rfl, hp, hdx, hh, hbz, hnz, hc, hF, hA, hd, hR, hP, hxz, q⟩ := h
    have hal := hA.len
    have hxl : xss.length = hl.belts.length := by rw [hP.1]; simp [startsL]
    refine ⟨_, (pss_cons (ps_expr (pe_call G_need_forms hr rfl T.m_need_forms T.F_need_forms.kp T.b_need_forms .nil pass_on (pa_cons (pv 1) (pa_cons (pv 2) pa_nil))))
          (pss_cons (ps_expr (pe_call G_need_pieces hr rfl T.m_need_pieces T.F_need_pieces.kp T.b_need_pieces .nil pass_on (pa_cons (pv 1) (pa_cons (pv 3) pa_nil))))
          (pss_cons (ps_fldK (K := K) rfl (pv 0) (pe_make T.mk_Floor G_Floor_init hr rfl T.g_Floor T.b_Floor_init .nil pass_on (pa_cons (pv 1) pa_nil)) rfl)
          (pss_cons (ps_fldK (K := K) rfl (pv 0) (pe_callTy (listOf_K (K := K) rfl) (by rfl) T.n_list PyProof.Rows.boot_list (pa_cons (pv 2) pa_nil)) rfl)
          (pss_one (ps_fldK (K := K) rfl (pv 0) (pe_compN (xs := ["lying"]) rfl (cscope (x := "lying") (zs := []) (ix := []) (defScope s_Mill_init) ["self", "hall", "forms", "pieces"] rfl rfl (by decide +kernel)) (pi_listK (K := K) rfl (pv 3)) (fun cl C s H fp => ⟨(pg_name (i := 0) (show (["lying"] : List Str).Nodup by decide +kernel) rfl (Or.inl rfl)), pif_nil, (pe_make T.mk_Lane G_Lane_init hr rfl T.g_Lane T.b_Lane_init .nil passX0 (pa_cons (pv 0) pa_nil))⟩)) rfl)))))), ?_⟩
    try dsimp only [L2.cxX, L2.cxOf, L2.cxComp]
    walk_at "rds"
    refine ⟨h, c, hl, fp, vs', fss, rfl, hh, hbz, hnz, SqL.of hc, hF, by omega, fun i hi => (by simpa using hA.ok i (by omega) (by omega)), fun H1 s1 => ?_⟩
    walk_at "rds"
    refine ⟨h, d, hl, fp, ys, xss, rfl, hh.same s1, hbz, s1 _ _ hd, hR.same s1, by omega, fun z => absurd hP z, fun _ H2 s2 => ?_⟩
    have s02 := s1.trans s2
    have hh2 := hh.same s02
    have hp2 := s02 _ _ hp
    have hdx2 := s02 _ _ hdx
    walk_at "rds"
    refine rd_Floor_init hh2 hnz hbz fun fa ffp H3 hF3 hnf s3 => ?_
    have s03 := s02.trans s3
    have hp3 := s3 _ _ hp2
    have hdx3 := s3 _ _ hdx2
    have hc3 := s03 _ _ hc
    have hd3 := s03 _ _ hd
    walk_at "rds"
    have ncp : c ≠ p := fun z => by rw [z, hp] at hc; cases hc
    have ndp : d ≠ p := fun z => by rw [z, hp] at hd; cases hd
    have nxp : dx ≠ p := fun z => by rw [z, hp] at hdx; cases hdx
    have npf : p ∉ ffp := fun z => by have := hnf p z; rw [hp2] at this; cases this
    have ndf : dx ∉ ffp := fun z => by have := hnf dx z; rw [hdx2] at this; cases this
    have k4 : ∀ b o, H3 b = some o → b ≠ p → (upd H3 p (.ins T.C_Mill dx [("floor", .ref fa)])) b = some o := fun b o e n => by rw [upd_ne n]; exact e
    have p4 : (upd H3 p (.ins T.C_Mill dx [("floor", .ref fa)])) p = some (.ins T.C_Mill dx [("floor", .ref fa)]) := upd_same
    have f4 : Frame [p] H3 (upd H3 p (.ins T.C_Mill dx [("floor", .ref fa)])) := frame_upd (by simp) hp3 (by intro _ z; cases z)
    generalize upd H3 p (.ins T.C_Mill dx [("floor", .ref fa)]) = H4 at *
    have hc4 := k4 _ _ hc3 ncp
    refine ⟨c, _, rfl, .inl (SqL.of hc4), fun l hl' => ?_⟩
    have s5 : Same H4 (upd H4 l (.lst vs')) := same_new hl'
    have v5 : (upd H4 l (.lst vs')) l = some (.lst vs') := upd_same
    generalize upd H4 l (.lst vs') = H5 at *
    have p5 := s5 _ _ p4
    have nlp : l ≠ p := fun z => by rw [z, p4] at hl'; cases hl'
    walk_at "rds"
    have p6 : (upd H5 p (.ins T.C_Mill dx [("floor", .ref fa), ("forms", .ref l)])) p = some (.ins T.C_Mill dx [("floor", .ref fa), ("forms", .ref l)]) := upd_same
    have f6 : Frame [p] H5 (upd H5 p (.ins T.C_Mill dx [("floor", .ref fa), ("forms", .ref l)])) := frame_upd (by simp) p5 (by intro _ z; cases z)
    generalize upd H5 p (.ins T.C_Mill dx [("floor", .ref fa), ("forms", .ref l)]) = H6 at *
    have f36 : Frame [p] H3 H6 := (f4.trans s5.frame).trans f6
    have hd6 := f36.keep _ _ hd3 (by simpa using ndp)
    have hd6q := SqL.of (K := K) hd6
    have hyl := hR.length
    have hR6 : ∀ i < xss.length, ∃ t, ys.getD i .non = .ref t ∧ H6 t = some (.lst ((xss.getD i []).map V.int)) := fun i hi => by
      obtain ⟨t, e, ht⟩ := rows_getD hR hi
      exact ⟨t, e, f36.keep _ _ (s03 _ _ ht) (by
        rw [List.mem_singleton]
        intro z
        rw [z, hp] at ht; cases ht)⟩
    have l6 := f6.keep _ _ v5 (by simpa using nlp)
    have dx6 := f36.keep _ _ hdx3 (by simpa using nxp)
    have hF6 := hF3.off f36 (fun x hx => by
      rw [List.mem_singleton]
      intro z
      rw [z] at hx
      exact npf hx)
    have nlf : l ∉ ffp := fun z => (hF3.off f4 (fun x hx => by
      rw [List.mem_singleton]
      intro z
      rw [z] at hx
      exact npf hx)).dom l z hl'
    have l3 : H3 l = none := by
      cases e : H3 l with
      | none => rfl
      | some o => rw [k4 l o e nlp] at hl'; cases hl'
    refine ⟨d, rfl, ⟨_, hd6q⟩, ?_⟩
    refine compF_walk (own := 1) (walks_lst hd6q).y (small1000 (by omega)) (fun i => [some (ys.getD i .non)]) (fun _ => rfl) (fun i v fp' H' => ∃ a, v = V.ref a ∧ LaneAt T H' a (xss.getD i []) fp') (fun i v fp' G1 G2 e ⟨a, z1, z2⟩ => ⟨a, z1, z2.same e⟩) (fun i v fp' G1 ⟨a, z1, z2⟩ => z2.dom) (fun i a' H' v H3 Kg hi sm y ha' k => ?_) (fun i H' Kc hi sm k => ?_) (fun pp i H' Kc hi hp0 hp1 sm k => ?_) (fun la H7 zs fs hla s7 hla7 hzl hfl hLs hDs hNs => ?_)
    · obtain ⟨rfl, rfl⟩ := y
      obtain ⟨x1, rfl⟩ : ∃ x1, a' = [x1] := by
        match a', ha' with
        | [x1], _ => exact ⟨x1, rfl⟩
      walk_at "rds"
      exact k _ (Same.refl _)
    · walk_at "rds"
      exact k H' (Same.refl H')
    · have hix : i < xss.length := by omega
      obtain ⟨t, et, ht⟩ := hR6 i hix
      rw [et]
      walk_at "rds"
      refine rd_Lane_init (SqL.of (sm _ _ ht)) (by have := hxz i hix; omega) fun a fpa H8 hla8 hna s8 => ?_
      exact k _ fpa H8 s8 ⟨a, rfl, hla8.hid' (fun z => by
        obtain ⟨zs, e⟩ := hp1
        have := hna pp z
        rw [e] at this; cases this)⟩ hna
    · obtain ⟨as, rfl, has⟩ := refs_of hzl fun i hi => (by obtain ⟨a, e, _⟩ := hLs i hi; exact ⟨a, e⟩)
      have p7 := s7 _ _ p6
      have hlp : la ≠ p := fun z => by rw [z, p6] at hla; cases hla
      have hldx : la ≠ dx := fun z => by rw [z, dx6] at hla; cases hla
      have hll : la ≠ l := fun z => by rw [z, l6] at hla; cases hla
      have hlf : la ∉ ffp := fun z => hF6.dom la z hla
      have hnl : as.length = hl.belts.length := by omega
      walk_at "rds"
      have f8 : Frame [p] H7 (upd H7 p (.ins T.C_Mill dx [("floor", .ref fa), ("forms", .ref l), ("lanes", .ref la)])) := frame_upd (by simp) p7 (by intro _ z; cases z)
      have np : ∀ i < as.length, ∀ x ∈ fs.getD i [], x ∉ p :: dx :: l :: la :: ffp := fun i hi x hx z => by
        obtain ⟨e1, e2⟩ := hNs i (by omega) x hx
        simp only [List.mem_cons] at z
        rcases z with z | z | z | z | z
        · rw [z, p6] at e1; cases e1
        · rw [z, dx6] at e1; cases e1
        · rw [z, l6] at e1; cases e1
        · exact e2 z
        · exact hF6.dom x z e1
      have hd : ∀ x ∈ ffp, x ∉ [p, dx, l, la] := fun x hx z => by
        simp only [List.mem_cons, List.not_mem_nil, or_false] at z
        rcases z with rfl | rfl | rfl | rfl
        · exact npf hx
        · exact ndf hx
        · exact nlf hx
        · exact hlf hx
      have nn : ∀ x : Addr, x ≠ p → x ∉ [p] := fun x z => by simpa using z
      have h3n : ∀ x, H3 x = none → H x = none := fun x e => same_none s03 e
      have h6n : ∀ x, H6 x = none → H x = none := fun x e => by
        cases e2 : H x with
        | none => rfl
        | some o =>
          by_cases z : x = p
          · rw [z, p6] at e; cases e
          · rw [f36.keep _ _ (s03 _ _ e2) (nn x z)] at e; cases e
      refine q _ ((p :: dx :: l :: la :: ffp) ++ flatF as.length fun i => fs.getD i []) ⟨dx, fa, l, la, ffp, vs', as, fun i => fs.getD i [], rfl, upd_same, f8.keep _ _ (s7 _ _ dx6) (nn _ nxp), (hF6.same s7).off f8 (fun x hx => nn x (fun z => npf (z ▸ hx))), f8.keep _ _ (s7 _ _ l6) (nn _ nlp), ((hF.keep (fun b xs e => s03 _ _ e)).keep f36.tups).keep (fun b xs e => f8.tups _ _ (s7 _ _ e)), f8.keep _ _ hla7 (nn _ hlp), hnl, ⟨fun i hi => ?_, fun i j hi hj nij x hx => ?_⟩, np, hd⟩ (fun x hx => ?_) (fun b o e nb => ?_)
      · obtain ⟨a, ea, hla⟩ := hLs i (by omega)
        have ea' : (as.map V.ref).getD i .non = .ref (as.getD i 0) := by simp [List.getD, hi]
        rw [ea'] at ea
        cases ea
        exact (hla.same hid_same).off f8 (fun x hx => nn x (fun z => np i hi x hx (by simp [z])))
      · rcases Nat.lt_or_gt_of_ne nij with z | z
        · exact hDs i j z (by omega) x hx
        · exact fun y => hDs j i z (by omega) x y hx
      · rcases List.mem_append.mp hx with hx | hx
        · simp only [List.mem_cons] at hx
          rcases hx with rfl | rfl | rfl | rfl | hx
          · exact .inl rfl
          · exact .inr (.inl rfl)
          · exact .inr (.inr (h3n _ l3))
          · exact .inr (.inr (h6n _ hla))
          · exact .inr (.inr (same_none s02 (hnf x hx)))
        · obtain ⟨i, hi, hx⟩ := mem_flatF.mp hx
          exact .inr (.inr (h6n _ (hNs i (by omega) x hx).1))
      · exact f8.keep _ _ (s7 _ _ (f36.keep _ _ (s03 _ _ e) (nn b nb))) (nn b nb)
end
def rowsD (xss : List (List Int)) : List PyData := xss.map fun xs => .list (xs.map PyData.int)
theorem lay_rows : ∀ xss : List (List Int), PyData.canLayAll0 (rowsD xss) = true
  | [] => by simp [rowsD, PyData.canLayAll0]
  | xs :: xss => by
    have h1 := lay_rows xss
    have h2 := layL_ints xs
    unfold rowsD at h1 ⊢
    rw [List.map_cons, PyData.canLayAll0, h2, h1]
    rfl
theorem layL_rows (xss : List (List Int)) : (PyData.list (rowsD xss)).canLay0 = true := by
  rw [PyData.canLay0]
  exact lay_rows xss
theorem depth_rows : ∀ xss : List (List Int), PyData.depthAll (rowsD xss) ≤ 3
  | [] => by simp [rowsD, PyData.depthAll]
  | xs :: xss => by
    have h1 := depth_rows xss
    have h2 := depth_ints xs
    unfold rowsD at h1 ⊢
    simp only [List.map_cons, PyData.depthAll, PyData.depth] at h1 ⊢
    omega
theorem depthL_rows (xss : List (List Int)) : (PyData.list (rowsD xss)).depth ≤ 60 := by
  have := depth_rows xss
  simp only [PyData.depth]
  omega
theorem rel_rows {K : PySem.W.Frag} {H : Hp} : ∀ {ys : List V} {xss : List (List Int)}, RowsAt H ys xss → DRels K H ys (rowsD xss)
  | _, _, .nil => .nil
  | _, _, .cons ⟨t, e, h⟩ r => by rw [e]; exact .cons (DRel.ints (.of h)) (rel_rows r)
theorem cut_any {xs : List V} {k : Nat} : cutV xs (some (k : Int)) none = xs.drop (min k xs.length) := by
  have e1 : HT.sIx xs.length 0 (some (k : Int)) = min k xs.length := by
    simp only [HT.sIx]
    rw [if_neg (by omega)]
    simp
  have e2 : HT.sIx xs.length xs.length none = xs.length := by simp [HT.sIx]
  unfold cutV
  rw [e1, e2, List.take_of_length_le (by rw [List.length_drop]; exact Nat.le_refl _)]
theorem turn_count {m : Nat} {ls : List B5} {hs hs' : List Int} {w : Int} (hl : hs.length = ls.length) (h : turnR m ls hs w = .ok hs') : ∀ i < ls.length, hs'.getD i 0 = hs.getD i 0 - (if (ls.getD i dB).taker = w then (ls.getD i dB).take else 0) + (if (ls.getD i dB).giver = w then (ls.getD i dB).give else 0) := fun i hi => by
  unfold turnR at h
  split at h
  · split at h
    · cases h
      have h3 : i < (shiftL ls hs w).length := by rw [shiftL_len hl]; omega
      rw [getD_of h3, shiftL_at hi (by omega) h3, ← getD_of (d := dB) hi, ← getD_of (d := 0) (show i < hs.length by omega)]
    · cases h
  · cases h
theorem go_count {m : Nat} {ls : List B5} : ∀ {ws : List Int} {hs hs' : List Int}, hs.length = ls.length → goR m ls hs ws = .ok hs' → ∀ i < ls.length, hs'.getD i 0 = hs.getD i 0 - (ls.getD i dB).take * (ws.count (ls.getD i dB).taker : Int) + (ls.getD i dB).give * (ws.count (ls.getD i dB).giver : Int)
  | [], hs, hs', _, e, i, _ => by
    have : hs = hs' := by simpa [goR] using e
    subst this
    simp
  | w :: ws, hs, hs', hl, e, i, hi => by
    have e' : (match turnR m ls hs w with | .ok hs' => goR m ls hs' ws | .error e => .error e) = .ok hs' := e
    cases q : turnR m ls hs w with
    | ok h1 =>
      rw [q] at e'
      have a1 := turn_count hl q i hi
      have a2 := go_count (ws := ws) (turnR_len hl q) e' i hi
      rw [a2, a1]
      generalize ls.getD i dB = b at *
      have c1 : ((w :: ws).count b.taker : Int) = (ws.count b.taker : Int) + (if b.taker = w then 1 else 0) := by
        rw [List.count_cons]
        by_cases e : b.taker = w
        · rw [if_pos e, if_pos (by rw [e]; exact beq_self_eq_true _)]; simp
        · rw [if_neg e, if_neg (by simp; exact fun z => e z.symm)]; simp
      have c2 : ((w :: ws).count b.giver : Int) = (ws.count b.giver : Int) + (if b.giver = w then 1 else 0) := by
        rw [List.count_cons]
        by_cases e : b.giver = w
        · rw [if_pos e, if_pos (by rw [e]; exact beq_self_eq_true _)]; simp
        · rw [if_neg e, if_neg (by simp; exact fun z => e z.symm)]; simp
      rw [c1, c2, Int.mul_add, Int.mul_add]
      split <;> split <;> simp <;> omega
    | error b => rw [q] at e'; cases e'
theorem go_prefix {m : Nat} {ls : List B5} {p : List Int} {w : Int} {s : List Int} {hs hs' : List Int} (h : goR m ls hs (p ++ w :: s) = .ok hs') : ∃ h1 h2, goR m ls hs p = .ok h1 ∧ turnR m ls h1 w = .ok h2 := by
  cases e : goR m ls hs p with
  | error b => rw [goR_err e] at h; cases h
  | ok h1 =>
    rw [goR_append e] at h
    have h' : (match turnR m ls h1 w with | .ok hs' => goR m ls hs' s | .error e => .error e) = .ok hs' := h
    cases q : turnR m ls h1 w with
    | ok h2 => exact ⟨h1, h2, rfl, q⟩
    | error b => rw [q] at h'; cases h'
theorem past {row2 : List Int} : ∀ {s p : List Int}, (∀ v, p.count v ≤ row2.count v) → (∃ v, row2.count v < (p ++ s).count v) → ∃ p' w s', p ++ s = p' ++ w :: s' ∧ (∀ v, p'.count v ≤ row2.count v) ∧ row2.count w < (p' ++ [w]).count w
  | [], p, h, ⟨v, hv⟩ => by rw [List.append_nil] at hv; exact absurd hv (Nat.not_lt.mpr (h v))
  | w :: s, p, h, ⟨v, hv⟩ => by
    by_cases c : row2.count w < (p ++ [w]).count w
    · exact ⟨p, w, s, rfl, h, c⟩
    · obtain ⟨p', w', s', e, h1, h2⟩ := past (row2 := row2) (s := s) (p := p ++ [w]) (fun v => by
        by_cases e : v = w
        · subst e; omega
        · rw [List.count_append, List.count_singleton, if_neg (by simp; exact fun z => e z.symm)]
          simpa using h v) ⟨v, by simpa using hv⟩
      exact ⟨p', w', s', (by rw [← e]; simp), h1, h2⟩
theorem go_in {m : Nat} {ls : List B5} : ∀ {ws : List Int} {hs hs' : List Int}, goR m ls hs ws = .ok hs' → ∀ w ∈ ws, 0 ≤ w ∧ w < (m : Int)
  | [], _, _, _, _, hw => by simp at hw
  | x :: ws, hs, hs', e, w, hw => by
    have e' : (match turnR m ls hs x with | .ok hs' => goR m ls hs' ws | .error e => .error e) = .ok hs' := e
    cases q : turnR m ls hs x with
    | ok h1 =>
      rw [q] at e'
      rcases List.mem_cons.mp hw with rfl | hw
      · unfold turnR at q
        split at q
        · next h => exact h
        · cases q
      · exact go_in (ws := ws) e' w hw
    | error b => rw [q] at e'; cases e'
theorem orders_same {m : Nat} {ls : List B5} {row1 row2 hs1 hs2 : List Int} {cs : List Int} (hg : ∀ l ∈ ls, 0 ≤ l.give) (h1 : goR m ls (startsL ls) row1 = .ok hs1) (h2 : Order m ls cs row2 hs2) (hc : ∀ w < m, cs.getD w 0 = (row1.count (w : Int) : Int)) : ∀ w < m, row2.count (w : Int) = row1.count (w : Int) := by
  have hsl : (startsL ls).length = ls.length := by simp [startsL]
  have key : ¬ ∃ v, row2.count v < row1.count v := fun hv => by
    obtain ⟨p, w, s, e, hp, hw⟩ := past (row2 := row2) (s := row1) (p := []) (by simp) (by simpa using hv)
    rw [List.nil_append] at e
    rw [e] at h1
    obtain ⟨hp1, hp2, g1, g2⟩ := go_prefix h1
    have hwr : 0 ≤ w ∧ w < (m : Int) := go_in h1 w (by simp)
    obtain ⟨k, rfl⟩ := Int.eq_ofNat_of_zero_le hwr.1
    have hk : k < m := by omega
    have epw : p.count (k : Int) = row2.count (k : Int) := by
      have := hp (k : Int)
      rw [List.count_append, List.count_singleton] at hw
      simp at hw
      omega
    have hlt : (row2.count (k : Int) : Int) < cs.getD k 0 := by
      rw [hc k hk, e, List.count_append, List.count_cons]
      simp
      omega
    have hnr := h2.full k hk hlt
    have hpl : hp1.length = ls.length := goR_len hsl g1
    have h2l : hs2.length = ls.length := goR_len hsl h2.go
    have hr : readyL ls hs2 (k : Int) = true := readyL_true fun i r x er ex ht => by
      have hi : i < ls.length := (List.getElem?_eq_some_iff.mp er).1
      have er' : ls.getD i dB = r := by simp [List.getD, er]
      have ex' : hs2.getD i 0 = x := by simp [List.getD, ex]
      have c1 := go_count hsl g1 i hi
      have c2 := go_count hsl h2.go i hi
      rw [er'] at c1 c2
      rw [ht] at c1 c2
      have rd : r.take ≤ hp1.getD i 0 := by
        unfold turnR at g2
        rw [if_pos hwr] at g2
        by_cases hrd : readyL ls hp1 (k : Int) = true
        · by_cases c : r.take ≤ hp1.getD i 0
          · exact c
          · have hil : i < hp1.length := by omega
            rw [readyL_false (w := (k : Int)) i er (List.getElem?_eq_getElem hil) ht (by rw [← getD_of (d := 0) hil]; omega)] at hrd
            cases hrd
        · rw [if_neg hrd] at g2
          cases g2
      have hgi : 0 ≤ r.give := hg r (List.mem_of_getElem? er)
      have hmono : r.give * (p.count r.giver : Int) ≤ r.give * (row2.count r.giver : Int) := Int.mul_le_mul_of_nonneg_left (by have := hp r.giver; omega) hgi
      rw [epw] at c1
      rw [ex'] at c2
      rw [c2]
      rw [c1] at rd
      omega
    rw [hr] at hnr; cases hnr
  intro w hw
  have a1 := h2.cnt w hw
  rw [hc w hw] at a1
  have a2 : ¬ row2.count (w : Int) < row1.count (w : Int) := fun z => key ⟨_, z⟩
  omega
theorem perm_of {m : Nat} {ls : List B5} {row1 row2 hs1 hs2 h0 : List Int} (h1 : goR m ls h0 row1 = .ok hs1) (h2 : goR m ls h0 row2 = .ok hs2) (hc : ∀ w < m, row2.count (w : Int) = row1.count (w : Int)) : row1.Perm row2 := by
  refine List.perm_iff_count.mpr fun v => ?_
  by_cases c : 0 ≤ v ∧ v < (m : Int)
  · obtain ⟨k, rfl⟩ := Int.eq_ofNat_of_zero_le c.1
    exact (hc k (by omega)).symm
  · rw [List.count_eq_zero_of_not_mem fun z => c (go_in h1 v z), List.count_eq_zero_of_not_mem fun z => c (go_in h2 v z)]
theorem sum_nine : ∀ {l : List Int}, (∀ i < l.length, 0 ≤ l.getD i 0 ∧ l.getD i 0 ≤ 9) → l.sum ≤ 9 * l.length
  | [], _ => by simp
  | a :: l, h => by
    have h1 := sum_nine (l := l) fun i hi => by simpa using h (i + 1) (by simpa using hi)
    have h2 := h 0 (by simp)
    simp at h2 ⊢
    omega
section
variable {P : Program} {w : World} {K : PySem.W.Frag} {mg : Str → Option Value} {base : Heap}
theorem ok_law (T : Tp K mg) : FnOk P w K mg base (CXX P w) 12 T.f_law T.d_law ["_law_script"] (sp_law T) := by
  have G_l_cell_at : FnOk P w K mg base (CXX P w) 11 T.f_l_cell_at T.d_l_cell_at ["_law_script", "_law_k"] (sp_l_cell_at T) := (ok_l_cell_at T).mono (by decide)
  have G_l_forms_by : FnOk P w K mg base (CXX P w) 11 T.f_l_forms_by T.d_l_forms_by ["_law_script", "_law_at", "_law_belts", "_law_many", "_law_great"] (sp_l_forms_by T) := (ok_l_forms_by T).mono (by decide)
  have G_l_pieces_by : FnOk P w K mg base (CXX P w) 11 T.f_l_pieces_by T.d_l_pieces_by ["_law_script", "_law_at", "_law_belts"] (sp_l_pieces_by T) := (ok_l_pieces_by T).mono (by decide)
  have G_l_order : FnOk P w K mg base (CXX P w) 11 T.f_l_order T.d_l_order ["_law_belts", "_law_counts", "_law_cells"] (sp_l_order T) := (ok_l_order T).mono (by decide)
  have G_l_made : FnOk P w K mg base (CXX P w) 11 T.f_l_made T.d_l_made ["_law_names_here", "_law_belts"] (sp_l_made T) := (ok_l_made T).mono (by decide)
  have G_l_names : FnOk P w K mg base (CXX P w) 11 T.f_l_names T.d_l_names ["_law_cell", "_law_many"] (sp_l_names T) := (ok_l_names T).mono (by decide)
  have G_l_belt_by : FnOk P w K mg base (CXX P w) 11 T.f_l_belt_by T.d_l_belt_by ["_law_cell", "_law_rates", "_law_top", "_law_ample"] (sp_l_belt_by T) := (ok_l_belt_by T).mono (by decide)
  have G_Mill_go : FnOk P w K mg base (CXX P w) 11 T.f_Mill_go T.d_Mill_go ["self", "row"] (sp_Mill_go T) := (ok_Mill_go T).mono (by decide)
  have G_Mill_lying : FnOk P w K mg base (CXX P w) 11 T.f_Mill_lying T.d_Mill_lying ["self"] (sp_Mill_lying T) := (ok_Mill_lying T).mono (by decide)
  have G_Mill_turn : FnOk P w K mg base (CXX P w) 11 T.f_Mill_turn T.d_Mill_turn ["self", "work"] (sp_Mill_turn T) := (ok_Mill_turn T).mono (by decide)
  have G_Mill_init : FnOk P w K mg base (CXX P w) 10 T.f_Mill_init T.d_Mill_init ["self", "hall", "forms", "pieces"] (sp_Mill_init T) := (ok_Mill_init T).mono (by decide)
  have cl_Mill := T.cl_Mill
  have na_Mill := T.na_Mill
  refine T.F_law.okX sc_law (fun vs H Q E h => ?_) (fun cdv A outer s H vs Q E hr h => ?_)
  · obtain ⟨a, ns, rfl, _⟩ := h
    rfl
  · have hu := hr.units
    obtain ⟨p, ns, rfl, hS, hlen, k⟩ := h
    refine ⟨_, (pss_cons (ps_set (i := 1) sc_law.nd rfl (Or.inr rfl) (pe_call G_l_cell_at hr rfl T.m_l_cell_at T.F_l_cell_at.kp T.b_l_cell_at .nil pass_on (pa_cons (pv 0) (pa_cons pe_int pa_nil))))
          (pss_cons (ps_set (i := 2) sc_law.nd rfl (Or.inl rfl) (pe_op (op_addK (K := K) rfl) pe_int (pe_op op_mod (pv 1) pe_int)))
          (pss_cons (ps_compN (j := 3) (xs := ["_law_k"]) rfl (cscope (x := "_law_k") (zs := ["_law_script"]) (ix := [0]) (defScope s_law) ["_law_script", "_law_first", "_law_many", "_law_rates", "_law_belts", "_law_k", "_law_forms", "_law_pieces", "_law_counts", "_law_row", "_law_other", "_law_hall", "_law_one", "_law_two", "_law_work", "_law_found"] rfl rfl (by decide +kernel)) (pi_range1 rfl T.n_range (pa_cons (pv 2) pa_nil)) (fun cl C s H fp => ⟨(pg_name (i := 0) (show (["_law_k", "_law_script"] : List Str).Nodup by decide +kernel) rfl (Or.inl rfl)), pif_nil, (pe_op (op_addK (K := K) rfl) pe_int (pe_op op_mod (pe_call G_l_cell_at hr rfl T.m_l_cell_at T.F_l_cell_at.kp T.b_l_cell_at .nil passX0 (pa_cons (pv 1) (pa_cons (pe_op (op_addK (K := K) rfl) pe_int (pv 0)) pa_nil))) pe_int))⟩) sc_law.nd rfl (Or.inl rfl))
          (pss_cons (ps_set (i := 4) sc_law.nd rfl (Or.inl rfl) (pe_lst pa_nil))
          (pss_cons (ps_for PassesOwn.leaving rfl (pi_range1 rfl T.n_range (pa_cons (pe_op op_mod (pe_op op_fdivG (pv 1) pe_int) pe_int) pa_nil)) (pg_name (i := 5) sc_law.nd rfl (Or.inl rfl)) (pss_one (ps_expr (pe_bmK (K := K) rfl PySem.F.plainAttrs_list PySem.F.slot_list_append PySem.F.type_list_append mt_append (pv 4) (pa_cons (pe_call G_l_belt_by hr rfl T.m_l_belt_by T.F_l_belt_by.kp T.b_l_belt_by .nil pass_on (pa_cons (pe_call G_l_cell_at hr rfl T.m_l_cell_at T.F_l_cell_at.kp T.b_l_cell_at .nil pass_on (pa_cons (pv 0) (pa_cons (pe_op (op_addK (K := K) rfl) pe_int (pv 5)) pa_nil))) (pa_cons (pv 3) (pa_cons pe_int (pa_cons (pe_cmpR (op_eqK (K := K) rfl hu) (pe_op op_mod (pe_op op_fdivG (pv 1) pe_int) pe_int) pe_int (nomark _)) pa_nil))))) pa_nil)))))
          (pss_cons (ps_cut (ps_if (pt_cmpR (op_eqK (K := K) rfl hu) (pe_op op_mod (pe_op op_fdivG (pv 1) pe_int) pe_int) pe_int (nomark _)) (pss_one (ps_compN (j := 4) (xs := ["_law_belt"]) rfl (cscope (x := "_law_belt") (zs := []) (ix := []) (defScope s_law) ["_law_script", "_law_first", "_law_many", "_law_rates", "_law_belts", "_law_k", "_law_forms", "_law_pieces", "_law_counts", "_law_row", "_law_other", "_law_hall", "_law_one", "_law_two", "_law_work", "_law_found"] rfl rfl (by decide +kernel)) (pi_listK (K := K) rfl (pv 4)) (fun cl C s H fp => ⟨(pg_name (i := 0) (show (["_law_belt"] : List Str).Nodup by decide +kernel) rfl (Or.inl rfl)), pif_nil, (pe_tup (pa_cons (pe_ix (ix_K (K := K) rfl) (pv 0) pe_int (fun _ _ => rfl)) (pa_cons (pe_ix (ix_K (K := K) rfl) (pv 0) pe_int (fun _ _ => rfl)) (pa_cons (pe_ix (ix_K (K := K) rfl) (pv 0) pe_int (fun _ _ => rfl)) (pa_cons (pe_op (op_addK (K := K) rfl) pe_int (pe_op op_mod (pe_ix (ix_K (K := K) rfl) (pv 0) pe_int (fun _ _ => rfl)) pe_int)) (pa_cons (pe_ix (ix_K (K := K) rfl) (pv 0) pe_int (fun _ _ => rfl)) pa_nil))))))⟩) sc_law.nd rfl (Or.inl rfl))) pss_nil))
          (pss_cons (ps_set (i := 6) sc_law.nd rfl (Or.inl rfl) (pe_call G_l_forms_by hr rfl T.m_l_forms_by T.F_l_forms_by.kp T.b_l_forms_by .nil pass_on (pa_cons (pv 0) (pa_cons pe_int (pa_cons (pv 4) (pa_cons (pv 2) (pa_cons (pe_cmpR (op_eqK (K := K) rfl hu) (pe_op op_mod (pe_op op_fdivG (pv 1) pe_int) pe_int) pe_int (nomark _)) pa_nil)))))))
          (pss_cons (ps_set (i := 7) sc_law.nd rfl (Or.inl rfl) (pe_call G_l_pieces_by hr rfl T.m_l_pieces_by T.F_l_pieces_by.kp T.b_l_pieces_by .nil pass_on (pa_cons (pv 0) (pa_cons pe_int (pa_cons (pv 4) pa_nil)))))
          (pss_cons (ps_compN (j := 8) (xs := ["_law_rate"]) rfl (cscope (x := "_law_rate") (zs := ["_law_first"]) (ix := [1]) (defScope s_law) ["_law_script", "_law_first", "_law_many", "_law_rates", "_law_belts", "_law_k", "_law_forms", "_law_pieces", "_law_counts", "_law_row", "_law_other", "_law_hall", "_law_one", "_law_two", "_law_work", "_law_found"] rfl rfl (by decide +kernel)) (pi_listK (K := K) rfl (pv 3)) (fun cl C s H fp => ⟨(pg_name (i := 0) (show (["_law_rate", "_law_first"] : List Str).Nodup by decide +kernel) rfl (Or.inl rfl)), pif_nil, (pe_op op_mulU (pe_op (op_addK (K := K) rfl) pe_int (pe_op op_mod (pe_op op_fdivG (pv 1) pe_int) pe_int)) (pv 0))⟩) sc_law.nd rfl (Or.inl rfl))
          (pss_cons (ps_set (i := 9) sc_law.nd rfl (Or.inr rfl) (pe_call G_l_order hr rfl T.m_l_order T.F_l_order.kp T.b_l_order .nil pass_on (pa_cons (pv 4) (pa_cons (pv 8) (pa_cons (pe_callTy (listOf_K (K := K) rfl) (by rfl) T.n_list PyProof.Rows.boot_list (pa_cons (pe_slice (sl_K (K := K) rfl) (pv 0) (po_some pe_int) po_none) pa_nil)) pa_nil)))))
          (pss_cons (ps_compN (j := 8) (xs := ["_law_work"]) rfl (cscope (x := "_law_work") (zs := ["_law_row"]) (ix := [9]) (defScope s_law) ["_law_script", "_law_first", "_law_many", "_law_rates", "_law_belts", "_law_k", "_law_forms", "_law_pieces", "_law_counts", "_law_row", "_law_other", "_law_hall", "_law_one", "_law_two", "_law_work", "_law_found"] rfl rfl (by decide +kernel)) (pi_range1 rfl T.n_range (pa_cons (pv 2) pa_nil)) (fun cl C s H fp => ⟨(pg_name (i := 0) (show (["_law_work", "_law_row"] : List Str).Nodup by decide +kernel) rfl (Or.inl rfl)), pif_nil, (pe_bmK (K := K) rfl PySem.F.plainAttrs_list PySem.F.slot_list_count PySem.F.type_list_count (mt_countI (K := K) rfl) (pv 1) (pa_cons (pv 0) pa_nil))⟩) sc_law.nd rfl (Or.inl rfl))
          (pss_cons (ps_set (i := 10) sc_law.nd rfl (Or.inr rfl) (pe_call G_l_order hr rfl T.m_l_order T.F_l_order.kp T.b_l_order .nil pass_on (pa_cons (pv 4) (pa_cons (pv 8) (pa_cons (pe_lrev (K := K) rfl rfl (by rfl) T.n_list (by rfl) T.n_reversed (pa_cons (pv 0) pa_nil)) pa_nil)))))
          (pss_cons (ps_set (i := 11) sc_law.nd rfl (Or.inl rfl) (pe_call G_l_made hr rfl T.m_l_made T.F_l_made.kp T.b_l_made .nil pass_on (pa_cons (pe_call G_l_names hr rfl T.m_l_names T.F_l_names.kp T.b_l_names .nil pass_on (pa_cons (pe_call G_l_cell_at hr rfl T.m_l_cell_at T.F_l_cell_at.kp T.b_l_cell_at .nil pass_on (pa_cons (pv 0) (pa_cons pe_int pa_nil))) (pa_cons (pv 2) pa_nil))) (pa_cons (pv 4) pa_nil))))
          (pss_cons (ps_set (i := 12) sc_law.nd rfl (Or.inl rfl) (pe_make T.mk_Mill G_Mill_init hr rfl T.g_Mill T.b_Mill_init .nil pass_on (pa_cons (pv 11) (pa_cons (pv 6) (pa_cons (pv 7) pa_nil)))))
          (pss_cons (ps_set (i := 13) sc_law.nd rfl (Or.inl rfl) (pe_make T.mk_Mill G_Mill_init hr rfl T.g_Mill T.b_Mill_init .nil pass_on (pa_cons (pv 11) (pa_cons (pv 6) (pa_cons (pv 7) pa_nil)))))
          (pss_cons (ps_expr (pe_meth (pv 12) T.cl_Mill T.M_Mill_go G_Mill_go hr T.b_Mill_go .nil pass_on (pa_cons (pv 9) pa_nil)))
          (pss_cons (ps_for PassesOwn.leaving rfl (pi_listK (K := K) rfl (pv 10)) (pg_name (i := 14) sc_law.nd rfl (Or.inl rfl)) (pss_one (ps_expr (pe_meth (pv 13) T.cl_Mill T.M_Mill_turn G_Mill_turn hr T.b_Mill_turn .nil pass_on (pa_cons (pv 14) pa_nil)))))
          (pss_cons (ps_set (i := 15) sc_law.nd rfl (Or.inl rfl) (pe_meth0 (pv 12) T.cl_Mill T.M_Mill_lying G_Mill_lying hr T.b_Mill_lying .nil pass_on))
          (pss_cons (ps_if (PW.pt (pw_or (pt_cmpR (op_neK (K := K) rfl hu) (pe_compN (xs := ["_law_work"]) rfl (cscope (x := "_law_work") (zs := ["_law_other"]) (ix := [10]) (defScope s_law) ["_law_script", "_law_first", "_law_many", "_law_rates", "_law_belts", "_law_k", "_law_forms", "_law_pieces", "_law_counts", "_law_row", "_law_other", "_law_hall", "_law_one", "_law_two", "_law_work", "_law_found"] rfl rfl (by decide +kernel)) (pi_range1 rfl T.n_range (pa_cons (pv 2) pa_nil)) (fun cl C s H fp => ⟨(pg_name (i := 0) (show (["_law_work", "_law_other"] : List Str).Nodup by decide +kernel) rfl (Or.inl rfl)), pif_nil, (pe_bmK (K := K) rfl PySem.F.plainAttrs_list PySem.F.slot_list_count PySem.F.type_list_count (mt_countI (K := K) rfl) (pv 1) (pa_cons (pv 0) pa_nil))⟩)) (pv 8) (nomark _)) (pw_or1 (pt_not (pt_truK (K := K) rfl (pe_callB (isi_K (K := K) rfl) (by rfl) T.n_isinstance PyProof.Rows.boot_isinstance (pa_cons (pv 15) (pa_cons (pe_bltn (v := .ty "list") (by rfl) T.n_list PyProof.Rows.boot_list rfl) pa_nil))) (fun _ => rfl)))))) (pss_one (ps_ret pe_bl)) pss_nil)
          (pss_one (ps_ret (pe_and (pe_cmpR (op_eqK (K := K) rfl hu) (pv 15) (pe_meth0 (pv 13) T.cl_Mill T.M_Mill_lying G_Mill_lying hr T.b_Mill_lying .nil pass_on) (nomark _)) (pe_one (pe_cmpR (op_eqK (K := K) rfl hu) (pe_callB (len_K (K := K) rfl) (by rfl) T.n_len PySem.boot_len (pa_cons (pv 15) pa_nil)) (pe_callB (len_K (K := K) rfl) (by rfl) T.n_len PySem.boot_len (pa_cons (pv 4) pa_nil)) (nomark _))))))))))))))))))))))))), ?_⟩
    try dsimp only [L2.cxX, L2.cxOf, L2.cxComp]
    walk_at "rds"
    have f0 : 1 ≤ 1 + cellX ns 0 % 5 ∧ 1 + cellX ns 0 % 5 ≤ 5 := by omega
    generalize cellX ns 0 = fi at *
    obtain ⟨m, hm⟩ : ∃ m : Nat, 1 + fi % 5 = (m : Int) := ⟨(1 + fi % 5).toNat, by omega⟩
    rw [hm] at f0 ⊢
    refine compN_walk (own := 1) walks_rng.y (small1000 (by omega)) (fun j => [some (.int (0 + (j : Int)))]) (fun _ => rfl) (fun _ => true) (fun j v _ => v = .int (1 + cellX ns (2 + (0 + (j : Int))) % 3)) (fun _ _ _ _ _ z => z) (fun j a' H' v H3 Kg hi sm y ha' k => ?_) (fun j H' Kc hi sm k => ?_) (fun pp j H' Kc hi hci hp0 hp1 sm k => ?_) (fun ra H1 zs hra s1 hra1 hR => ?_)
    · obtain ⟨rfl, rfl⟩ := y
      obtain ⟨x1, rfl⟩ : ∃ x1, a' = [x1] := by
        match a', ha' with
        | [x1], _ => exact ⟨x1, rfl⟩
      walk_at "rds"
      exact k _ (Same.refl _)
    · walk_at "rds"
      exact k H' (Same.refl H')
    · have hS' := sm.seq hS
      have hj : j < m := by omega
      walk_at "rds"
      exact k _ H' (Same.refl H') rfl
    · rw [List.filter_eq_self.mpr (by simp), show ((m : Nat) : Int).toNat = m from rfl] at hR
      have ey := paired_ints hR
      have hrs : ∀ r ∈ (List.range m).map (fun j : Nat => 1 + cellX ns (2 + (0 + (j : Int))) % 3), 1 ≤ r ∧ r ≤ 3 := fun r hr => by
        obtain ⟨j, _, rfl⟩ := List.mem_map.mp hr
        omega
      have hrl : ((List.range m).map (fun j : Nat => 1 + cellX ns (2 + (0 + (j : Int))) % 3)).length = m := by simp
      generalize (List.range m).map (fun j : Nat => 1 + cellX ns (2 + (0 + (j : Int))) % 3) = rs at *
      subst ey
      have hraq := SqL.of (K := K) hra1
      have hS1 := s1.seq hS
      walk_at "rds"
      refine ⟨Nat.zero_le _, fun b hb => ?_⟩
      have s2 : Same H1 (upd H1 b (.lst [])) := same_new hb
      have v2 : (upd H1 b (.lst [])) b = some (.lst []) := upd_same
      have hb0 : H b = none := same_none s1 hb
      generalize upd H1 b (.lst []) = H2 at *
      walk_at "rds"
      refine for_range (n := (fi / 5 % 7).toNat) (fun i σ H' => ∃ (bs : List V) (ls : List B5) (a5 : Option V), σ = [some (.ref p), some (.int fi), some (.int m), some (.ref ra), some (.ref b), a5, none, none, none, none, none, none, none, none, none, none] ∧ Same H1 H' ∧ H' b = some (.lst bs) ∧ Tups H' bs ls ∧ ls.length = i ∧ ∀ l ∈ ls, Bel m l) ⟨[], [], _, rfl, s2, v2, .nil, rfl, by simp⟩ ?_ ?_
      · rintro i σ H3 hi ⟨bs, ls, a5, rfl, s3, hb3, hT3, hl3, hB3⟩
        have hS3 := s3.seq hS1
        have hra3 := s3.seq hraq
        have hbl := hT3.length
        have hbz : bs.length < sizeLine := small1000 (by omega)
        walk_at "rds"
        refine ⟨_, ra, rs, 2, _, rfl, hra3, by omega, by omega, fun r hr => (by have := hrs r hr; omega), by omega, by omega, fun u H4 bb hu s4 hu4 hBb => ?_⟩
        have hb4 := s4 _ _ hb3
        walk_at "rds"
        have fr5 : Frame [b] H4 (upd H4 b (.lst (bs ++ [.ref u]))) := frame_upd (by simp) hb4 (by intro _ z; cases z)
        refine ⟨bs ++ [.ref u], ls ++ [bb], _, rfl, (s3.trans s4).new hb, upd_same, ((hT3.keep fun b xs e => s4 _ _ e).keep fr5.tups).snoc (fr5.tups _ _ hu4), by simp [hl3], fun l hl => ?_⟩
        rcases List.mem_append.mp hl with z | z
        · exact hB3 l z
        · rw [List.mem_singleton.mp z, ← hrl]; exact hBb
      · rintro σ H3 ⟨bs, ls, a5, rfl, s3, hb3, hT3, hl3, hB3⟩
        have hb3q := SqL.of (K := K) hb3
        have hbl := hT3.length
        walk_at "rds"
        refine Rd.cut (fun σ' H' => ∃ (b' : Addr) (bs' : List V) (ls' : List B5), σ' = [some (.ref p), some (.int fi), some (.int m), some (.ref ra), some (.ref b'), a5, none, none, none, none, none, none, none, none, none, none] ∧ Same H1 H' ∧ H' b' = some (.lst bs') ∧ Tups H' bs' ls' ∧ ls'.length = ls.length ∧ (∀ l ∈ ls', Bel m l)) ?k1 ?i1
        case i1 =>
          walk_at "rds"
          refine Rd.ifD (fun c => ?_) (fun c => ?_)
          · walk_at "rds"
            refine compN_walk (own := 1) (walks_lst hb3q).y (small1000 (by omega)) (fun j => [some (bs.getD j .non)]) (fun _ => rfl) (fun _ => true) (fun j v H' => ∃ t, v = V.ref t ∧ H' t = some (.tup [.int (ls.getD j dB).giver, .int (ls.getD j dB).taker, .int (ls.getD j dB).give, .int (1 + (ls.getD j dB).take % 3), .int (ls.getD j dB).start])) (fun _ _ _ _ e ⟨t, z1, z2⟩ => ⟨t, z1, e _ _ z2⟩) (fun j a' H' v H3 Kg hi sm y ha' k => ?_) (fun j H' Kc hi sm k => ?_) (fun pp j H' Kc hi hci hp0 hp1 sm k => ?_) (fun b' H4 zs hb' s4 hb4 hR4 => ?_)
            · obtain ⟨rfl, rfl⟩ := y
              obtain ⟨x1, rfl⟩ : ∃ x1, a' = [x1] := by
                match a', ha' with
                | [x1], _ => exact ⟨x1, rfl⟩
              walk_at "rds"
              exact k _ (Same.refl _)
            · walk_at "rds"
              exact k H' (Same.refl H')
            · obtain ⟨t, et, ht⟩ := hT3.getD (show j < ls.length by omega)
              rw [et]
              have ht' := sm _ _ ht
              dsimp only [B5.v] at ht'
              walk_at "rds"
              refine ⟨by show 5 ≤ sizeLine; decide, fun u hu => ?_⟩
              exact k _ _ (same_new hu) ⟨u, rfl, hid_new hp1 hu⟩
            · rw [hbl] at hR4
              walk_at "rds"
              refine ⟨b', zs, ls.map fun l => ⟨l.giver, l.taker, l.give, 1 + l.take % 3, l.start⟩, rfl, s3.trans s4, hb4, ?_, by simp, fun l hl => ?_⟩
              · have h1 := paired_range (L := ls) (d := dB) (S := fun l v => ∃ t, v = V.ref t ∧ (hid H4 b') t = some (.tup [.int l.giver, .int l.taker, .int l.give, .int (1 + l.take % 3), .int l.start])) hR4
                refine paired_of (by rw [List.length_map]; exact (Paired.length h1).symm) fun i x y e1 e2 => ?_
                rw [List.getElem?_map] at e2
                cases e : ls[i]? with
                | none => rw [e] at e2; cases e2
                | some l =>
                  rw [e] at e2
                  cases e2
                  obtain ⟨y', e3, t, e4, h4⟩ := Paired.get h1 e
                  rw [e1] at e3
                  cases e3
                  exact ⟨t, e4, hid_same _ _ h4⟩
              · obtain ⟨l', hl', rfl⟩ := List.mem_map.mp hl
                have B := hB3 l' hl'
                exact ⟨B.rg, ⟨B.sz.1, by dsimp only; omega⟩, B.st, ⟨B.few.1, by dsimp only; omega⟩⟩
          · walk_at "rds"
            exact ⟨b, bs, ls, rfl, s3, hb3, hT3, rfl, hB3⟩
        case k1 =>
          rintro σ' H4 ⟨bp, bs', ls', rfl, s4, hb4, hT4, hl4, hB4⟩
          have hl6 : ls'.length ≤ 6 := by omega
          clear hb3 hT3 hl3 hB3 hb3q hbl hl4
          have s04 := s1.trans s4
          clear s3
          have hS4 := s04.seq hS
          walk_at "rds"
          refine ⟨p, bp, ns, bs', ls', 12, m, _, rfl, hS4, hlen, hb4, hT4, by omega, hB4, by omega, by omega, by omega, fun fo H5 fvs fss hfo s5 hfo5 hF5 hA => ?_⟩
          have s05 := s04.trans s5
          have hS5 := s05.seq hS
          have hb5 := s5 _ _ hb4
          have hT5 := hT4.keep fun b xs e => s5 _ _ e
          walk_at "rds"
          refine ⟨p, bp, ns, bs', ls', 19, rfl, hS5, hlen, hb5, hT5, by omega, fun l hl => (hB4 l hl).st, by omega, by omega, fun pi H6 ys xss hpi s6 hpi6 hR6 hnw6 hxl hxs _ => ?_⟩
          have s06 := s05.trans s6
          have hra6 := (s4.trans (s5.trans s6)).seq hraq
          have hR6' : RowsAt H6 ys xss := hR6.same hid_same
          walk_at "rds"
          refine compN_walk (own := 1) (walks_lst hra6).y (small1000 (by simp; omega)) (fun j => [some (.int (rs.getD j 0))]) (fun _ => rfl) (fun _ => true) (fun j v _ => v = .int ((1 + fi / 9 % 3) * rs.getD j 0)) (fun _ _ _ _ _ z => z) (fun j a' H' v H3 Kg hi sm y ha' k => ?_) (fun j H' Kc hi sm k => ?_) (fun pp j H' Kc hi hci hp0 hp1 sm k => ?_) (fun c1 H7 zs hc1 s7 hc17 hR7 => ?_)
          · obtain ⟨rfl, rfl⟩ := y
            obtain ⟨x1, rfl⟩ : ∃ x1, a' = [x1] := by
              match a', ha' with
              | [x1], _ => exact ⟨x1, rfl⟩
            have hj : j < rs.length := by simpa using hi
            have ev : (rs.map V.int).getD j .non = .int (rs.getD j 0) := by rw [getD_of hj]; simp [List.getD, hj]
            rw [ev]
            walk_at "rds"
            exact k _ (Same.refl _)
          · walk_at "rds"
            exact k H' (Same.refl H')
          · have hj : j < rs.length := by simpa using hi
            have := hrs (rs.getD j 0) (by rw [getD_of hj]; exact List.getElem_mem _)
            have mo : IntMulOk (1 + fi / 9 % 3) (rs.getD j 0) := mulI (n := 10) (m := 10) (by omega) (by omega) (by decide)
            walk_at "rds"
            exact k _ H' (Same.refl H') rfl
          · rw [List.filter_eq_self.mpr (by simp), List.length_map] at hR7
            have ey7 := paired_ints hR7
            rw [map_range' (fun r : Int => (1 + fi / 9 % 3) * r)] at ey7
            have hcr : ∀ i < (rs.map fun r => (1 + fi / 9 % 3) * r).length, 0 ≤ (rs.map fun r => (1 + fi / 9 % 3) * r).getD i 0 ∧ (rs.map fun r => (1 + fi / 9 % 3) * r).getD i 0 ≤ 9 := fun i hi => by
              rw [getD_of hi, List.getElem_map]
              rw [List.length_map] at hi
              have := hrs rs[i] (List.getElem_mem hi)
              have a1 : 0 ≤ (1 + fi / 9 % 3) * rs[i] := Int.mul_nonneg (by omega) (by omega)
              have a2 : (1 + fi / 9 % 3) * rs[i] ≤ 3 * 3 := Int.mul_le_mul (by omega) (by omega) (by omega) (by omega)
              omega
            have hcl : (rs.map fun r => (1 + fi / 9 % 3) * r).length = m := by rw [List.length_map]; exact hrl
            generalize rs.map (fun r => (1 + fi / 9 % 3) * r) = cs at *
            subst ey7
            have hcs9 := sum_nine hcr
            have s07 := s06.trans s7
            have hS7 := s07.seq hS
            have s47 := s5.trans (s6.trans s7)
            have hc17q := SqL.of (K := K) hc17
            walk_at "rds"
            refine Rd.slL hS7 ?_
            intro sl hsl
            rw [show (2 : Int) = ((2 : Nat) : Int) from rfl, cut_any, ← List.map_drop]
            have hdl : (ns.drop (min 2 (ns.map V.int).length)).length ≤ 63 := by rw [List.length_drop]; omega
            generalize ns.drop (min 2 (ns.map V.int).length) = nd at *
            have s8 : Same H7 (upd H7 sl (.lst (nd.map V.int))) := same_new hsl
            have v8 : (upd H7 sl (.lst (nd.map V.int))) sl = some (.lst (nd.map V.int)) := upd_same
            generalize upd H7 sl (.lst (nd.map V.int)) = H8 at *
            have v8q := SqL.of (K := K) v8
            walk_at "rds"
            refine ⟨sl, _, rfl, .inl v8q, fun sl2 hsl2 => ?_⟩
            have s9 : Same H8 (upd H8 sl2 (.lst (nd.map V.int))) := same_new hsl2
            have v9 : (upd H8 sl2 (.lst (nd.map V.int))) sl2 = some (.lst (nd.map V.int)) := upd_same
            generalize upd H8 sl2 (.lst (nd.map V.int)) = H9 at *
            have s79 := s8.trans s9
            have s49 := s47.trans s79
            walk_at "rds"
            refine ⟨bp, c1, sl2, bs', ls', cs, nd, rfl, s49 _ _ hb4, hT4.keep (fun b xs e => s49 _ _ e), by omega, SqL.of (s79 _ _ hc17), by omega, by omega, fun i hi => (hcr i hi).1, by omega, SqL.of v9, hdl, fun ro H10 row hs1 hro s10 hro10 hO1 => ?_⟩
            have s410 := s49.trans s10
            have hroq := SqL.of (K := K) hro10
            walk_at "rds"
            refine compN_walk (own := 1) walks_rng.y (small1000 (by omega)) (fun j => [some (.int (0 + (j : Int)))]) (fun _ => rfl) (fun _ => true) (fun j v _ => v = .int ((row.count (0 + (j : Int)) : Nat) : Int)) (fun _ _ _ _ _ z => z) (fun j a' H' v H3 Kg hi sm y ha' k => ?_) (fun j H' Kc hi sm k => ?_) (fun pp j H' Kc hi hci hp0 hp1 sm k => ?_) (fun c2 H11 zs2 hc2 s11 hc211 hR11 => ?_)
            · obtain ⟨rfl, rfl⟩ := y
              obtain ⟨x1, rfl⟩ : ∃ x1, a' = [x1] := by
                match a', ha' with
                | [x1], _ => exact ⟨x1, rfl⟩
              walk_at "rds"
              exact k _ (Same.refl _)
            · walk_at "rds"
              exact k H' (Same.refl H')
            · have hro' := sm _ _ hro10
              walk_at "rds"
              refine Rd.countI (SqL.of hro') ?_
              exact k _ H' (Same.refl H') rfl
            · rw [List.filter_eq_self.mpr (by simp), show ((m : Nat) : Int).toNat = m from rfl] at hR11
              have ey11 := paired_ints hR11
              have hc2l : ((List.range m).map fun j : Nat => ((row.count (0 + (j : Int)) : Nat) : Int)).length = m := by simp
              have hc2v : ∀ w < m, ((List.range m).map fun j : Nat => ((row.count (0 + (j : Int)) : Nat) : Int)).getD w 0 = (row.count (w : Int) : Int) := fun w hw => by
                rw [getD_of (by simpa using hw)]
                simp
              generalize ((List.range m).map fun j : Nat => ((row.count (0 + (j : Int)) : Nat) : Int)) = cs2 at *
              subst ey11
              rw [hcl] at hO1
              have hcnt1 := hO1.cnt
              have hc2r : ∀ i < cs2.length, 0 ≤ cs2.getD i 0 ∧ cs2.getD i 0 ≤ 9 := fun i hi => by
                rw [hc2v i (by omega)]
                have := hcnt1 i (by omega)
                have := (hcr i (by omega)).2
                omega
              have hcs29 := sum_nine hc2r
              have s011 : Same H H11 := s04.trans (s410.trans s11)
              have hS11 := s011.seq hS
              have hc211q := SqL.of (K := K) hc211
              walk_at "rds"
              try refine Rd.lrev ?_
              try walk_at "rds"
              refine ⟨p, _, rfl, hS11, fun rv hrv => ?_⟩
              rw [← List.map_reverse]
              have hrvl : ns.reverse.length ≤ 63 := by rw [List.length_reverse]; exact hlen
              generalize ns.reverse = nr at *
              have s12 : Same H11 (upd H11 rv (.lst (nr.map V.int))) := same_new hrv
              have v12 : (upd H11 rv (.lst (nr.map V.int))) rv = some (.lst (nr.map V.int)) := upd_same
              generalize upd H11 rv (.lst (nr.map V.int)) = H12 at *
              have s412 := (s410.trans s11).trans s12
              walk_at "rds"
              refine ⟨bp, c2, rv, bs', ls', cs2, nr, rfl, s412 _ _ hb4, hT4.keep (fun b xs e => s412 _ _ e), by omega, SqL.of (s12 _ _ hc211), by omega, by omega, fun i hi => (hc2r i hi).1, by omega, SqL.of v12, hrvl, fun ot H13 oth hs2 hot s13 hot13 hO2 => ?_⟩
              rw [hc2l] at hO2
              have s413 := s412.trans s13
              have s013 := s04.trans s413
              have hS13 := s013.seq hS
              walk_at "rds"
              refine ⟨_, m, rfl, by omega, fun nm H14 nms hnm s14 hnm14 hnok hnnd hnml => ?_⟩
              have s414 := s413.trans s14
              walk_at "rds"
              refine ⟨nm, bp, nms, bs', ls', rfl, SqL.of hnm14, hnok, hnnd, by omega, by omega, s414 _ _ hb4, hT4.keep (fun b xs e => s414 _ _ e), by rw [hnml]; exact hB4, by omega, fun ha hfp H15 hh15 hhn s15 => ?_⟩
              have s415 := s414.trans s15
              have s515 : Same H5 H15 := s6.trans (s7.trans (s79.trans (s10.trans (s11.trans (s12.trans (s13.trans (s14.trans s15)))))))
              have s615 : Same H6 H15 := s7.trans (s79.trans (s10.trans (s11.trans (s12.trans (s13.trans (s14.trans s15))))))
              have hA' : AllForms ((nms.length : Nat) : Int) ls' fss := by rw [hnml]; exact hA
              have hPi : PiecesOk xss (startsL ls') := ⟨by rw [hxl]; simp [startsL], fun i hi => by
                rw [hxl] at hi
                rw [hxs i hi]
                simp [startsL, List.getD, hi]⟩
              have hxz : ∀ i < xss.length, (xss.getD i []).length ≤ 1000 := fun i hi => by
                have := hxs i (by omega)
                have := (hB4 (ls'.getD i dB) (by rw [getD_of (by omega)]; exact List.getElem_mem _)).st
                omega
              have hBO : BeltsOk ls' := ⟨by omega, fun l hl => by
                have B := hB4 l hl
                have := B.few
                have := B.sz
                omega⟩
              have hLn : Lens ls' (ls'.map B5.start) (fun i => xss.getD i []) := ⟨by simp, fun i hi => by
                rw [hxs i hi]
                simp [List.getD, hi]⟩
              walk_at "rds"
              refine rd_Mill_init hh15 (by dsimp only; omega) (by dsimp only; omega) (s515 _ _ hfo5) (hF5.keep fun b xs e => s515 _ _ e) hA' (s615 _ _ hpi6) (hR6'.same s615) hPi (fun i hi => by have := hxz i hi; omega) fun m1 fp1 H16 hm1 hn1 s16 => ?_
              walk_at "rds"
              refine rd_Mill_init (hh15.same s16) (by dsimp only; omega) (by dsimp only; omega) (s16 _ _ (s515 _ _ hfo5)) (hF5.keep fun b xs e => s16 _ _ (s515 _ _ e)) hA' (s16 _ _ (s615 _ _ hpi6)) (hR6'.same (s615.trans s16)) hPi (fun i hi => by have := hxz i hi; omega) fun m2 fp2 H17 hm2 hn2 s17 => ?_
              dsimp only at hm1 hm2
              have hm1' := hm1.same s17
              have hro17 := s17 _ _ (s16 _ _ (s15 _ _ (s14 _ _ (s13 _ _ (s12 _ _ (s11 _ _ hro10))))))
              have hot17 := s17 _ _ (s16 _ _ (s15 _ _ (s14 _ _ hot13)))
              have hbp17 := s17 _ _ (s16 _ _ (s415 _ _ hb4))
              have hc217 := s17 _ _ (s16 _ _ (s15 _ _ (s14 _ _ (s13 _ _ (s12 _ _ hc211)))))
              have o1 : ∀ x o, H15 x = some o → x ∉ fp1 := fun x o e z => by have := hn1 x z; rw [e] at this; cases this
              have o2 : ∀ x o, H16 x = some o → x ∉ fp2 := fun x o e z => by have := hn2 x z; rw [e] at this; cases this
              have d12 : ∀ x ∈ fp1, x ∉ fp2 := fun x hx z => hm1.dom x hx (hn2 x z)
              walk_at "rds"
              have hg1 : goR ((nms.length : Nat) : Int) ls' (ls'.map B5.start) row = .ok hs1 := by rw [hnml]; exact hO1.go
              have hg2 : goR ((nms.length : Nat) : Int) ls' (ls'.map B5.start) oth = .ok hs2 := by rw [hnml]; exact hO2.go
              have hrl45 : row.length ≤ 45 := by have := hO1.len; omega
              have hol45 : oth.length ≤ 45 := by have := hO2.len; omega
              have nro1 : ro ∉ fp1 := o1 ro _ (s15 _ _ (s14 _ _ (s13 _ _ (s12 _ _ (s11 _ _ hro10)))))
              have hst0 : ∀ i < ls'.length, (xss.getD i []).length ≤ 1000 := fun i hi => hxz i (by omega)
              have hord := orders_same (row1 := row) (hs1 := hs1) (fun l hl => by have := (hB4 l hl).sz; omega) hO1.go hO2 hc2v
              have hperm := perm_of hO1.go hO2.go hord
              have hrun : MM.run (sysOf ls' fss) (fun i => xss.getD i []) row = MM.run (sysOf ls' fss) (fun i => xss.getD i []) oth := MM.same hperm (go_run hBO hA' hLn hg1).2.1 (go_run hBO hA' hLn hg2).2.1
              refine ⟨m1, ro, row, _, fss, _, fp1, rfl, hm1', hro17, nro1, hA', hBO, hLn, fun i hi => (by have := hst0 i hi; first | omega | (dsimp only; omega)), fun e => (by dsimp only at e; rw [hg1] at e; cases e), fun e => (by dsimp only at e; rw [hg1] at e; cases e), fun hs e H18 fp1' hm18 hL18 f18 g18 => ?_⟩
              dsimp only at hm18 hL18
              have not1 : ot ∉ fp1 := o1 ot _ (s15 _ _ (s14 _ _ hot13))
              have hot18 := f18.keep _ _ hot17 not1
              have hbp18 := f18.keep _ _ hbp17 (o1 bp _ (s415 _ _ hb4))
              have hc218 := f18.keep _ _ hc217 (o1 c2 _ (s15 _ _ (s14 _ _ (s13 _ _ (s12 _ _ hc211)))))
              have hm218 := hm2.off f18 (fun x hx z => d12 x z hx)
              have d12' : ∀ x ∈ fp1', x ∉ fp2 := fun x hx z => (g18 x hx).elim (fun y => d12 x y z) (fun y => hm2.dom x z y)
              have hot18q := SqL.of (K := K) hot18
              have not2 : ot ∉ fp2 := o2 ot _ (s16 _ _ (s15 _ _ (s14 _ _ hot13)))
              have nbp2 : bp ∉ fp2 := o2 bp _ (s16 _ _ (s415 _ _ hb4))
              have nc22 : c2 ∉ fp2 := o2 c2 _ (s16 _ _ (s15 _ _ (s14 _ _ (s13 _ _ (s12 _ _ hc211)))))
              walk_at "rds"
              refine for_walk (H0 := solo H18 ot) (walks_lst (xs := oth.map V.int) (SqL.of (by rw [solo_at]; exact hot18))) (fun i σ H' => Frame fp2 H18 H' ∧ (∃ (fp2' : List Addr) (hsi : List Int), Grows fp2 fp2' H18 ∧ MillAt T H' m2 ⟨((nms.length : Nat) : Int), ls', hsi⟩ fss (MM.run (sysOf ls' fss) (fun i => xss.getD i []) (oth.take i)) fp2' ∧ Lens ls' hsi (MM.run (sysOf ls' fss) (fun i => xss.getD i []) (oth.take i)) ∧ goR ((nms.length : Nat) : Int) ls' (ls'.map B5.start) (oth.take i) = .ok hsi) ∧ ∃ a14, σ = [some (.ref p), some (.int fi), some (.int m), some (.ref ra), some (.ref bp), a5, some (.ref fo), some (.ref pi), some (.ref c2), some (.ref ro), some (.ref ot), some (.ref ha), some (.ref m1), some (.ref m2), a14, none]) ⟨Frame.refl, ⟨fp2, _, Grows.refl, hm218, hLn, rfl⟩, _, rfl⟩ (fun i σ H' h => solo_same ((h.1.keep _ _ hot18 not2).trans hot18.symm)) ?_ ?_
              · rintro i σ H19 hi ⟨f19, ⟨fp2', hsi, g19, hm19, hL19, hg19⟩, a14, rfl⟩
                have hil : i < oth.length := by simpa using hi
                have ev : (oth.map V.int).getD i .non = .int oth[i] := by simp [List.getD, hil]
                rw [ev]
                have hst := goR_step hg19 (List.getElem?_eq_getElem hil)
                have hnst := fun b => goR_stop (b := b) hg19 (List.getElem?_eq_getElem hil)
                have ers : MM.run (sysOf ls' fss) (fun i => xss.getD i []) (oth.take (i + 1)) = MM.step (sysOf ls' fss) (MM.run (sysOf ls' fss) (fun i => xss.getD i []) (oth.take i)) oth[i] := by
                  rw [List.take_succ_eq_append_getElem hil, MM.run_snoc]
                have hlg : ∀ j < ls'.length, (MM.run (sysOf ls' fss) (fun i => xss.getD i []) (oth.take i) j).length ≤ 49000 := fun j hj => by
                  have h1 := run_grow hBO hj (ws := oth.take i) (st := fun i => xss.getD i []) (fss := fss)
                  have h2 := hst0 j hj
                  rw [List.length_take] at h1
                  try dsimp only at h1
                  omega
                rw [ers]
                generalize oth[i] = wk at *
                generalize MM.run (sysOf ls' fss) (fun i => xss.getD i []) (oth.take i) = sti at *
                walk_at "rds"
                refine ⟨m2, wk, _, fss, sti, fp2', rfl, hm19, hA', hBO, hL19, hlg, fun e => (by dsimp only at e; have := hnst _ e; rw [hg2] at this; cases this), fun e => (by dsimp only at e; have := hnst _ e; rw [hg2] at this; cases this), fun hs' e H20 fp20 hm20 hL20 f20 g20 => ?_⟩
                dsimp only at e hm20 hL20
                walk_at "rds"
                exact ⟨Nm.Frame.grow f19 g19 f20, ⟨fp20, hs', Nm.Grows.grow g19 f19 g20, hm20, hL20, hst.trans e⟩, _, rfl⟩
              · rintro σ H19 ⟨f19, ⟨fp2', hsi, g19, hm19, hL19, hg19⟩, a14, rfl⟩
                rw [List.length_map, List.take_length, ← hrun] at hm19
                clear hL19 hg19
                have hm119 := hm18.off f19 d12'
                have hot19 := f19.keep _ _ hot18 not2
                have hbp19 := f19.keep _ _ hbp18 nbp2
                have hc219 := f19.keep _ _ hc218 nc22
                generalize MM.run (sysOf ls' fss) (fun i => xss.getD i []) row = stf at *
                walk_at "rds"
                refine ⟨m1, _, fss, stf, fp1', rfl, hm119, by dsimp only; omega, fun r1 H20 ys1 hr1 s20 hr120 hRw1 _ => ?_⟩
                dsimp only at hRw1
                have hot20 := s20 _ _ hot19
                have hbp20 := s20 _ _ hbp19
                have hc220 := s20 _ _ hc219
                have hm220 := hm19.same s20
                walk_at "rds"
                refine compN_walk (own := 1) walks_rng.y (small1000 (by omega)) (fun j => [some (.int (0 + (j : Int)))]) (fun _ => rfl) (fun _ => true) (fun j v _ => v = .int ((oth.count (0 + (j : Int)) : Nat) : Int)) (fun _ _ _ _ _ z => z) (fun j a' H' v H3 Kg hi sm y ha' k => ?_) (fun j H' Kc hi sm k => ?_) (fun pp j H' Kc hi hci hp0 hp1 sm k => ?_) (fun c3 H21 zs3 hc3 s21 hc321 hR21 => ?_)
                · obtain ⟨rfl, rfl⟩ := y
                  obtain ⟨x1, rfl⟩ : ∃ x1, a' = [x1] := by
                    match a', ha' with
                    | [x1], _ => exact ⟨x1, rfl⟩
                  walk_at "rds"
                  exact k _ (Same.refl _)
                · walk_at "rds"
                  exact k H' (Same.refl H')
                · have hot' := sm _ _ hot20
                  walk_at "rds"
                  refine Rd.countI (SqL.of hot') ?_
                  exact k _ H' (Same.refl H') rfl
                · rw [List.filter_eq_self.mpr (by simp), show ((m : Nat) : Int).toNat = m from rfl] at hR21
                  have ey21 := paired_ints hR21
                  have ecs : ((List.range m).map fun j : Nat => ((oth.count (0 + (j : Int)) : Nat) : Int)) = cs2 := by
                    refine List.ext_getElem (by simp; omega) fun j h1 h2 => ?_
                    have hj : j < m := by simpa using h1
                    rw [List.getElem_map, List.getElem_range, Int.zero_add, hord j hj, ← getD_of (d := 0) h2, hc2v j hj]
                  rw [ecs] at ey21
                  subst ey21
                  have hc221 := s21 _ _ hc220
                  have hr121 := s21 _ _ hr120
                  have hbp21 := s21 _ _ hbp20
                  have hm221 := hm220.same s21
                  walk_at "rds"
                  refine Rd.neInts (SqL.of hc321) (SqL.of hc221) ?_
                  walk_at "rds"
                  refine ⟨m2, _, fss, stf, fp2', rfl, hm221, by dsimp only; omega, fun r2 H22 ys2 hr2 s22 hr222 hRw2 _ => ?_⟩
                  dsimp only at hRw2
                  have hr122 := s22 _ _ hr121
                  have hbp22 := s22 _ _ hbp21
                  have hr122q := SqL.of (K := K) hr122
                  have hbp22q := SqL.of (K := K) hbp22
                  have hy1 := hRw1.length
                  rw [List.length_map, List.length_range] at hy1
                  have hbsl := hT4.length
                  walk_at "rds"
                  refine Rd.eqUD (.lst hr122q (rel_rows (((hRw1.same hid_same).same s21).same s22))) (.lst (SqL.of hr222) (rel_rows (hRw2.same hid_same))) (layL_rows _) (layL_rows _) (depthL_rows _) ?_
                  rw [SeqAt.eqv_refl _ (layL_rows _)]
                  walk_at "rds"
                  try rw [decide_eq_true (show ((ys1.length : Nat) : Int) = ((bs'.length : Nat) : Int) by omega)]
                  exact k _
end
theorem bd_l_cell_at {K : PySem.W.Frag} {f : Addr} {fd : FuncData} (F : Fun K "_law_cell_at" "_law_cell_at" s_l_cell_at f fd) : Binds K fd ["_law_script", "_law_k"] [] := F.binds fun _ _ _ _ _ _ us hl => (match us, hl with | [_, _], _ => rfl)
theorem bd_l_form_by {K : PySem.W.Frag} {f : Addr} {fd : FuncData} (F : Fun K "_law_form_by" "_law_form_by" s_l_form_by f fd) : Binds K fd ["_law_cell", "_law_slots", "_law_great"] [] := F.binds fun _ _ _ _ _ _ us hl => (match us, hl with | [_, _, _], _ => rfl)
theorem bd_l_forms_by {K : PySem.W.Frag} {f : Addr} {fd : FuncData} (F : Fun K "_law_forms_by" "_law_forms_by" s_l_forms_by f fd) : Binds K fd ["_law_script", "_law_at", "_law_belts", "_law_many", "_law_great"] [] := F.binds fun _ _ _ _ _ _ us hl => (match us, hl with | [_, _, _, _, _], _ => rfl)
theorem bd_l_pieces_by {K : PySem.W.Frag} {f : Addr} {fd : FuncData} (F : Fun K "_law_pieces_by" "_law_pieces_by" s_l_pieces_by f fd) : Binds K fd ["_law_script", "_law_at", "_law_belts"] [] := F.binds fun _ _ _ _ _ _ us hl => (match us, hl with | [_, _, _], _ => rfl)
theorem bd_l_turned {K : PySem.W.Frag} {f : Addr} {fd : FuncData} (F : Fun K "_law_turned" "_law_turned" s_l_turned f fd) : Binds K fd ["_law_belts", "_law_lying", "_law_work"] [] := F.binds fun _ _ _ _ _ _ us hl => (match us, hl with | [_, _, _], _ => rfl)
theorem bd_l_ready {K : PySem.W.Frag} {f : Addr} {fd : FuncData} (F : Fun K "_law_ready" "_law_ready" s_l_ready f fd) : Binds K fd ["_law_belts", "_law_lying", "_law_work"] [] := F.binds fun _ _ _ _ _ _ us hl => (match us, hl with | [_, _, _], _ => rfl)
theorem bd_l_order {K : PySem.W.Frag} {f : Addr} {fd : FuncData} (F : Fun K "_law_order" "_law_order" s_l_order f fd) : Binds K fd ["_law_belts", "_law_counts", "_law_cells"] [] := F.binds fun _ _ _ _ _ _ us hl => (match us, hl with | [_, _, _], _ => rfl)
theorem bd_is_name {K : PySem.W.Frag} {f : Addr} {fd : FuncData} (F : Fun K "is_name" "is_name" s_is_name f fd) : Binds K fd ["thing"] [] := F.binds fun _ _ _ _ _ _ us hl => (match us, hl with | [_], _ => rfl)
theorem bd_Hall_work {K : PySem.W.Frag} {f : Addr} {fd : FuncData} (F : Fun K "work" "Hall.work" s_Hall_work f fd) : Binds K fd ["self", "name"] [] := F.binds fun _ _ _ _ _ _ us hl => (match us, hl with | [_, _], _ => rfl)
theorem bd_is_whole {K : PySem.W.Frag} {f : Addr} {fd : FuncData} (F : Fun K "is_whole" "is_whole" s_is_whole f fd) : Binds K fd ["thing"] [] := F.binds fun _ _ _ _ _ _ us hl => (match us, hl with | [_], _ => rfl)
theorem bd_is_from {K : PySem.W.Frag} {f : Addr} {fd : FuncData} (F : Fun K "is_from" "is_from" s_is_from f fd) : Binds K fd ["thing", "least"] [] := F.binds fun _ _ _ _ _ _ us hl => (match us, hl with | [_, _], _ => rfl)
theorem bd_need_start {K : PySem.W.Frag} {f : Addr} {fd : FuncData} (F : Fun K "need_start" "need_start" s_need_start f fd) : Binds K fd ["start"] [] := F.binds fun _ _ _ _ _ _ us hl => (match us, hl with | [_], _ => rfl)
theorem bd_is_number_below {K : PySem.W.Frag} {f : Addr} {fd : FuncData} (F : Fun K "is_number_below" "is_number_below" s_is_number_below f fd) : Binds K fd ["thing", "bound"] [] := F.binds fun _ _ _ _ _ _ us hl => (match us, hl with | [_, _], _ => rfl)
theorem bd_Hall_need_work {K : PySem.W.Frag} {f : Addr} {fd : FuncData} (F : Fun K "need_work" "Hall.need_work" s_Hall_need_work f fd) : Binds K fd ["self", "work"] [] := F.binds fun _ _ _ _ _ _ us hl => (match us, hl with | [_, _], _ => rfl)
theorem bd_Hall_lay {K : PySem.W.Frag} {f : Addr} {fd : FuncData} (F : Fun K "lay" "Hall.lay" s_Hall_lay f fd) : Binds K fd ["self", "row"] [] := F.binds fun _ _ _ _ _ _ us hl => (match us, hl with | [_, _], _ => rfl)
theorem bd_Hall_init {K : PySem.W.Frag} {f : Addr} {fd : FuncData} (F : Fun K "__init__" "Hall.__init__" s_Hall_init f fd) : Binds K fd ["self"] [] := F.binds fun _ _ _ _ _ _ us hl => (match us, hl with | [_], _ => rfl)
theorem bd_l_made {K : PySem.W.Frag} {f : Addr} {fd : FuncData} (F : Fun K "_law_made" "_law_made" s_l_made f fd) : Binds K fd ["_law_names_here", "_law_belts"] [] := F.binds fun _ _ _ _ _ _ us hl => (match us, hl with | [_, _], _ => rfl)
theorem bd_l_names {K : PySem.W.Frag} {f : Addr} {fd : FuncData} (F : Fun K "_law_names" "_law_names" s_l_names f fd) : Binds K fd ["_law_cell", "_law_many"] [] := F.binds fun _ _ _ _ _ _ us hl => (match us, hl with | [_, _], _ => rfl)
theorem bd_l_common {K : PySem.W.Frag} {f : Addr} {fd : FuncData} (F : Fun K "_law_common" "_law_common" s_l_common f fd) : Binds K fd ["_law_one", "_law_other"] [] := F.binds fun _ _ _ _ _ _ us hl => (match us, hl with | [_, _], _ => rfl)
theorem bd_l_belt_by {K : PySem.W.Frag} {f : Addr} {fd : FuncData} (F : Fun K "_law_belt_by" "_law_belt_by" s_l_belt_by f fd) : Binds K fd ["_law_cell", "_law_rates", "_law_top", "_law_ample"] [] := F.binds fun _ _ _ _ _ _ us hl => (match us, hl with | [_, _, _, _], _ => rfl)
theorem bd_enough {K : PySem.W.Frag} {f : Addr} {fd : FuncData} (F : Fun K "enough" "enough" s_enough f fd) : Binds K fd ["heaps", "takes"] [] := F.binds fun _ _ _ _ _ _ us hl => (match us, hl with | [_, _], _ => rfl)
theorem bd_Floor_need_work {K : PySem.W.Frag} {f : Addr} {fd : FuncData} (F : Fun K "need_work" "Floor.need_work" s_Floor_need_work f fd) : Binds K fd ["self", "work"] [] := F.binds fun _ _ _ _ _ _ us hl => (match us, hl with | [_, _], _ => rfl)
theorem bd_Floor_go {K : PySem.W.Frag} {f : Addr} {fd : FuncData} (F : Fun K "go" "Floor.go" s_Floor_go f fd) : Binds K fd ["self", "row"] [] := F.binds fun _ _ _ _ _ _ us hl => (match us, hl with | [_, _], _ => rfl)
theorem bd_form_value {K : PySem.W.Frag} {f : Addr} {fd : FuncData} (F : Fun K "form_value" "form_value" s_form_value f fd) : Binds K fd ["form", "pieces"] [] := F.binds fun _ _ _ _ _ _ us hl => (match us, hl with | [_, _], _ => rfl)
theorem bd_Lane_lay_behind {K : PySem.W.Frag} {f : Addr} {fd : FuncData} (F : Fun K "lay_behind" "Lane.lay_behind" s_Lane_lay_behind f fd) : Binds K fd ["self", "pieces"] [] := F.binds fun _ _ _ _ _ _ us hl => (match us, hl with | [_, _], _ => rfl)
theorem bd_Lane_lying {K : PySem.W.Frag} {f : Addr} {fd : FuncData} (F : Fun K "lying" "Lane.lying" s_Lane_lying f fd) : Binds K fd ["self"] [] := F.binds fun _ _ _ _ _ _ us hl => (match us, hl with | [_], _ => rfl)
theorem bd_Lane_drawn_off {K : PySem.W.Frag} {f : Addr} {fd : FuncData} (F : Fun K "drawn_off" "Lane.drawn_off" s_Lane_drawn_off f fd) : Binds K fd ["self", "many"] [] := F.binds fun _ _ _ _ _ _ us hl => (match us, hl with | [_, _], _ => rfl)
theorem bd_Mill_pass_on {K : PySem.W.Frag} {f : Addr} {fd : FuncData} (F : Fun K "pass_on" "Mill.pass_on" s_Mill_pass_on f fd) : Binds K fd ["self", "work"] [] := F.binds fun _ _ _ _ _ _ us hl => (match us, hl with | [_, _], _ => rfl)
theorem bd_Mill_go {K : PySem.W.Frag} {f : Addr} {fd : FuncData} (F : Fun K "go" "Mill.go" s_Mill_go f fd) : Binds K fd ["self", "row"] [] := F.binds fun _ _ _ _ _ _ us hl => (match us, hl with | [_, _], _ => rfl)
theorem bd_Mill_lying {K : PySem.W.Frag} {f : Addr} {fd : FuncData} (F : Fun K "lying" "Mill.lying" s_Mill_lying f fd) : Binds K fd ["self"] [] := F.binds fun _ _ _ _ _ _ us hl => (match us, hl with | [_], _ => rfl)
theorem bd_Mill_turn {K : PySem.W.Frag} {f : Addr} {fd : FuncData} (F : Fun K "turn" "Mill.turn" s_Mill_turn f fd) : Binds K fd ["self", "work"] [] := F.binds fun _ _ _ _ _ _ us hl => (match us, hl with | [_, _], _ => rfl)
theorem bd_Hall_leaving {K : PySem.W.Frag} {f : Addr} {fd : FuncData} (F : Fun K "leaving" "Hall.leaving" s_Hall_leaving f fd) : Binds K fd ["self", "work"] [] := F.binds fun _ _ _ _ _ _ us hl => (match us, hl with | [_, _], _ => rfl)
theorem bd_Hall_need_belt {K : PySem.W.Frag} {f : Addr} {fd : FuncData} (F : Fun K "need_belt" "Hall.need_belt" s_Hall_need_belt f fd) : Binds K fd ["self", "belt"] [] := F.binds fun _ _ _ _ _ _ us hl => (match us, hl with | [_, _], _ => rfl)
theorem bd_Hall_belt_at {K : PySem.W.Frag} {f : Addr} {fd : FuncData} (F : Fun K "belt_at" "Hall.belt_at" s_Hall_belt_at f fd) : Binds K fd ["self", "belt"] [] := F.binds fun _ _ _ _ _ _ us hl => (match us, hl with | [_, _], _ => rfl)
theorem bd_gives_of {K : PySem.W.Frag} {f : Addr} {fd : FuncData} (F : Fun K "gives_of" "gives_of" s_gives_of f fd) : Binds K fd ["hall", "work"] [] := F.binds fun _ _ _ _ _ _ us hl => (match us, hl with | [_, _], _ => rfl)
theorem bd_given_by {K : PySem.W.Frag} {f : Addr} {fd : FuncData} (F : Fun K "given_by" "given_by" s_given_by f fd) : Binds K fd ["hall", "work"] [] := F.binds fun _ _ _ _ _ _ us hl => (match us, hl with | [_, _], _ => rfl)
theorem bd_Hall_entering {K : PySem.W.Frag} {f : Addr} {fd : FuncData} (F : Fun K "entering" "Hall.entering" s_Hall_entering f fd) : Binds K fd ["self", "work"] [] := F.binds fun _ _ _ _ _ _ us hl => (match us, hl with | [_, _], _ => rfl)
theorem bd_takes_of {K : PySem.W.Frag} {f : Addr} {fd : FuncData} (F : Fun K "takes_of" "takes_of" s_takes_of f fd) : Binds K fd ["hall", "work"] [] := F.binds fun _ _ _ _ _ _ us hl => (match us, hl with | [_, _], _ => rfl)
theorem bd_need_work_forms {K : PySem.W.Frag} {f : Addr} {fd : FuncData} (F : Fun K "need_work_forms" "need_work_forms" s_need_work_forms f fd) : Binds K fd ["hall", "work", "forms"] [] := F.binds fun _ _ _ _ _ _ us hl => (match us, hl with | [_, _, _], _ => rfl)
theorem bd_Hall_names {K : PySem.W.Frag} {f : Addr} {fd : FuncData} (F : Fun K "names" "Hall.names" s_Hall_names f fd) : Binds K fd ["self"] [] := F.binds fun _ _ _ _ _ _ us hl => (match us, hl with | [_], _ => rfl)
theorem bd_need_forms {K : PySem.W.Frag} {f : Addr} {fd : FuncData} (F : Fun K "need_forms" "need_forms" s_need_forms f fd) : Binds K fd ["hall", "forms"] [] := F.binds fun _ _ _ _ _ _ us hl => (match us, hl with | [_, _], _ => rfl)
theorem bd_Hall_belts {K : PySem.W.Frag} {f : Addr} {fd : FuncData} (F : Fun K "belts" "Hall.belts" s_Hall_belts f fd) : Binds K fd ["self"] [] := F.binds fun _ _ _ _ _ _ us hl => (match us, hl with | [_], _ => rfl)
theorem bd_starts_of {K : PySem.W.Frag} {f : Addr} {fd : FuncData} (F : Fun K "starts_of" "starts_of" s_starts_of f fd) : Binds K fd ["hall"] [] := F.binds fun _ _ _ _ _ _ us hl => (match us, hl with | [_], _ => rfl)
theorem bd_need_pieces {K : PySem.W.Frag} {f : Addr} {fd : FuncData} (F : Fun K "need_pieces" "need_pieces" s_need_pieces f fd) : Binds K fd ["hall", "pieces"] [] := F.binds fun _ _ _ _ _ _ us hl => (match us, hl with | [_, _], _ => rfl)
theorem bd_Floor_init {K : PySem.W.Frag} {f : Addr} {fd : FuncData} (F : Fun K "__init__" "Floor.__init__" s_Floor_init f fd) : Binds K fd ["self", "hall"] [] := F.binds fun _ _ _ _ _ _ us hl => (match us, hl with | [_, _], _ => rfl)
theorem bd_Lane_init {K : PySem.W.Frag} {f : Addr} {fd : FuncData} (F : Fun K "__init__" "Lane.__init__" s_Lane_init f fd) : Binds K fd ["self", "pieces"] [] := F.binds fun _ _ _ _ _ _ us hl => (match us, hl with | [_, _], _ => rfl)
theorem bd_Mill_init {K : PySem.W.Frag} {f : Addr} {fd : FuncData} (F : Fun K "__init__" "Mill.__init__" s_Mill_init f fd) : Binds K fd ["self", "hall", "forms", "pieces"] [] := F.binds fun _ _ _ _ _ _ us hl => (match us, hl with | [_, _, _, _], _ => rfl)
theorem bd_law {K : PySem.W.Frag} {f : Addr} {fd : FuncData} (F : Fun K "law" "law" s_law f fd) : Binds K fd ["_law_script"] [] := F.binds fun _ _ _ _ _ _ us hl => (match us, hl with | [_], _ => rfl)
theorem tp_mk {K : PySem.W.Frag} {h : Heap} {mg : Str → Option Value} (X : K.In h) (G : h.Ns mainGlobals mg)
 {C_Floor : Addr}
 {C_Mill : Addr}
 {C_Lane : Addr}
 {C_Hall : Addr}
 {X_NoName : Addr}
 {X_Twice : Addr}
 {X_TooMuch : Addr}
 {X_NoWork : Addr}
 {X_NoBelt : Addr}
 {X_NoRate : Addr}
 {X_Empty : Addr}
 {X_NoForm : Addr}
 {X_NoPieces : Addr}
 {tk_MOST_LETTERS : Tok}
 {tk_MOST_WORKS : Tok}
 {tk_MOST_BELTS : Tok}
 {dT_Hall_belt : Addr} {od2_0 : Option Addr} {sl2_0 : Array (Option Value)} {n2_0 : Nat} {oc2_0 : Value} {dk0_Hall_belt : Tok}
 {f_l_cell_at : Addr} {od_1 an_1 : Option Addr} {sl_1 : Array (Option Value)} {oc_1 kV_1 dc_1 pm_1 cd_1 ct_1 : Value}
 {f_l_form_by : Addr} {od_2 an_2 : Option Addr} {sl_2 : Array (Option Value)} {oc_2 kV_2 dc_2 pm_2 cd_2 ct_2 : Value}
 {f_l_forms_by : Addr} {od_3 an_3 : Option Addr} {sl_3 : Array (Option Value)} {oc_3 kV_3 dc_3 pm_3 cd_3 ct_3 : Value}
 {f_l_pieces_by : Addr} {od_4 an_4 : Option Addr} {sl_4 : Array (Option Value)} {oc_4 kV_4 dc_4 pm_4 cd_4 ct_4 : Value}
 {f_l_turned : Addr} {od_5 an_5 : Option Addr} {sl_5 : Array (Option Value)} {oc_5 kV_5 dc_5 pm_5 cd_5 ct_5 : Value}
 {f_l_ready : Addr} {od_6 an_6 : Option Addr} {sl_6 : Array (Option Value)} {oc_6 kV_6 dc_6 pm_6 cd_6 ct_6 : Value}
 {f_l_order : Addr} {od_7 an_7 : Option Addr} {sl_7 : Array (Option Value)} {oc_7 kV_7 dc_7 pm_7 cd_7 ct_7 : Value}
 {f_is_name : Addr} {od_8 an_8 : Option Addr} {sl_8 : Array (Option Value)} {oc_8 kV_8 dc_8 pm_8 cd_8 ct_8 : Value}
 {f_Hall_work : Addr} {od_9 an_9 : Option Addr} {sl_9 : Array (Option Value)} {oc_9 kV_9 dc_9 pm_9 cd_9 ct_9 : Value}
 {f_is_whole : Addr} {od_10 an_10 : Option Addr} {sl_10 : Array (Option Value)} {oc_10 kV_10 dc_10 pm_10 cd_10 ct_10 : Value}
 {f_is_from : Addr} {od_11 an_11 : Option Addr} {sl_11 : Array (Option Value)} {oc_11 kV_11 dc_11 pm_11 cd_11 ct_11 : Value}
 {f_need_start : Addr} {od_12 an_12 : Option Addr} {sl_12 : Array (Option Value)} {oc_12 kV_12 dc_12 pm_12 cd_12 ct_12 : Value}
 {f_is_number_below : Addr} {od_13 an_13 : Option Addr} {sl_13 : Array (Option Value)} {oc_13 kV_13 dc_13 pm_13 cd_13 ct_13 : Value}
 {f_Hall_need_work : Addr} {od_14 an_14 : Option Addr} {sl_14 : Array (Option Value)} {oc_14 kV_14 dc_14 pm_14 cd_14 ct_14 : Value}
 {f_Hall_lay : Addr} {od_15 an_15 : Option Addr} {sl_15 : Array (Option Value)} {oc_15 kV_15 dc_15 pm_15 cd_15 ct_15 : Value}
 {f_Hall_belt : Addr} {od_0 an_0 : Option Addr} {sl_0 : Array (Option Value)} {oc_0 kV_0 dc_0 pm_0 cd_0 ct_0 : Value}
 {f_Hall_init : Addr} {od_16 an_16 : Option Addr} {sl_16 : Array (Option Value)} {oc_16 kV_16 dc_16 pm_16 cd_16 ct_16 : Value}
 {f_l_made : Addr} {od_17 an_17 : Option Addr} {sl_17 : Array (Option Value)} {oc_17 kV_17 dc_17 pm_17 cd_17 ct_17 : Value}
 {f_l_names : Addr} {od_18 an_18 : Option Addr} {sl_18 : Array (Option Value)} {oc_18 kV_18 dc_18 pm_18 cd_18 ct_18 : Value}
 {f_l_common : Addr} {od_19 an_19 : Option Addr} {sl_19 : Array (Option Value)} {oc_19 kV_19 dc_19 pm_19 cd_19 ct_19 : Value}
 {f_l_belt_by : Addr} {od_20 an_20 : Option Addr} {sl_20 : Array (Option Value)} {oc_20 kV_20 dc_20 pm_20 cd_20 ct_20 : Value}
 {f_enough : Addr} {od_21 an_21 : Option Addr} {sl_21 : Array (Option Value)} {oc_21 kV_21 dc_21 pm_21 cd_21 ct_21 : Value}
 {f_Floor_need_work : Addr} {od_22 an_22 : Option Addr} {sl_22 : Array (Option Value)} {oc_22 kV_22 dc_22 pm_22 cd_22 ct_22 : Value}
 {f_Floor_go : Addr} {od_23 an_23 : Option Addr} {sl_23 : Array (Option Value)} {oc_23 kV_23 dc_23 pm_23 cd_23 ct_23 : Value}
 {f_form_value : Addr} {od_24 an_24 : Option Addr} {sl_24 : Array (Option Value)} {oc_24 kV_24 dc_24 pm_24 cd_24 ct_24 : Value}
 {f_Lane_lay_behind : Addr} {od_25 an_25 : Option Addr} {sl_25 : Array (Option Value)} {oc_25 kV_25 dc_25 pm_25 cd_25 ct_25 : Value}
 {f_Lane_lying : Addr} {od_26 an_26 : Option Addr} {sl_26 : Array (Option Value)} {oc_26 kV_26 dc_26 pm_26 cd_26 ct_26 : Value}
 {f_Lane_drawn_off : Addr} {od_27 an_27 : Option Addr} {sl_27 : Array (Option Value)} {oc_27 kV_27 dc_27 pm_27 cd_27 ct_27 : Value}
 {f_Mill_pass_on : Addr} {od_28 an_28 : Option Addr} {sl_28 : Array (Option Value)} {oc_28 kV_28 dc_28 pm_28 cd_28 ct_28 : Value}
 {f_Mill_go : Addr} {od_29 an_29 : Option Addr} {sl_29 : Array (Option Value)} {oc_29 kV_29 dc_29 pm_29 cd_29 ct_29 : Value}
 {f_Mill_lying : Addr} {od_30 an_30 : Option Addr} {sl_30 : Array (Option Value)} {oc_30 kV_30 dc_30 pm_30 cd_30 ct_30 : Value}
 {f_Mill_turn : Addr} {od_31 an_31 : Option Addr} {sl_31 : Array (Option Value)} {oc_31 kV_31 dc_31 pm_31 cd_31 ct_31 : Value}
 {f_Hall_leaving : Addr} {od_32 an_32 : Option Addr} {sl_32 : Array (Option Value)} {oc_32 kV_32 dc_32 pm_32 cd_32 ct_32 : Value}
 {f_Hall_need_belt : Addr} {od_33 an_33 : Option Addr} {sl_33 : Array (Option Value)} {oc_33 kV_33 dc_33 pm_33 cd_33 ct_33 : Value}
 {f_Hall_belt_at : Addr} {od_34 an_34 : Option Addr} {sl_34 : Array (Option Value)} {oc_34 kV_34 dc_34 pm_34 cd_34 ct_34 : Value}
 {f_gives_of : Addr} {od_35 an_35 : Option Addr} {sl_35 : Array (Option Value)} {oc_35 kV_35 dc_35 pm_35 cd_35 ct_35 : Value}
 {f_given_by : Addr} {od_36 an_36 : Option Addr} {sl_36 : Array (Option Value)} {oc_36 kV_36 dc_36 pm_36 cd_36 ct_36 : Value}
 {f_Hall_entering : Addr} {od_37 an_37 : Option Addr} {sl_37 : Array (Option Value)} {oc_37 kV_37 dc_37 pm_37 cd_37 ct_37 : Value}
 {f_takes_of : Addr} {od_38 an_38 : Option Addr} {sl_38 : Array (Option Value)} {oc_38 kV_38 dc_38 pm_38 cd_38 ct_38 : Value}
 {f_need_work_forms : Addr} {od_39 an_39 : Option Addr} {sl_39 : Array (Option Value)} {oc_39 kV_39 dc_39 pm_39 cd_39 ct_39 : Value}
 {f_Hall_names : Addr} {od_40 an_40 : Option Addr} {sl_40 : Array (Option Value)} {oc_40 kV_40 dc_40 pm_40 cd_40 ct_40 : Value}
 {f_need_forms : Addr} {od_41 an_41 : Option Addr} {sl_41 : Array (Option Value)} {oc_41 kV_41 dc_41 pm_41 cd_41 ct_41 : Value}
 {f_Hall_belts : Addr} {od_42 an_42 : Option Addr} {sl_42 : Array (Option Value)} {oc_42 kV_42 dc_42 pm_42 cd_42 ct_42 : Value}
 {f_starts_of : Addr} {od_43 an_43 : Option Addr} {sl_43 : Array (Option Value)} {oc_43 kV_43 dc_43 pm_43 cd_43 ct_43 : Value}
 {f_need_pieces : Addr} {od_44 an_44 : Option Addr} {sl_44 : Array (Option Value)} {oc_44 kV_44 dc_44 pm_44 cd_44 ct_44 : Value}
 {f_Floor_init : Addr} {od_45 an_45 : Option Addr} {sl_45 : Array (Option Value)} {oc_45 kV_45 dc_45 pm_45 cd_45 ct_45 : Value}
 {f_Lane_init : Addr} {od_46 an_46 : Option Addr} {sl_46 : Array (Option Value)} {oc_46 kV_46 dc_46 pm_46 cd_46 ct_46 : Value}
 {f_Mill_init : Addr} {od_47 an_47 : Option Addr} {sl_47 : Array (Option Value)} {oc_47 kV_47 dc_47 pm_47 cd_47 ct_47 : Value}
 {f_law : Addr} {od_48 an_48 : Option Addr} {sl_48 : Array (Option Value)} {oc_48 kV_48 dc_48 pm_48 cd_48 ct_48 : Value}
 (a_Floor : PySem.W.nsIn K mainGlobals "Floor" = some (some (.ref C_Floor)))
 (a_Mill : PySem.W.nsIn K mainGlobals "Mill" = some (some (.ref C_Mill)))
 (a_Lane : PySem.W.nsIn K mainGlobals "Lane" = some (some (.ref C_Lane)))
 (a_Hall : PySem.W.nsIn K mainGlobals "Hall" = some (some (.ref C_Hall)))
 (a_l_cell_at : PySem.W.nsIn K mainGlobals "_law_cell_at" = some (some (.ref f_l_cell_at)))
 (l_l_cell_at : K.lookup f_l_cell_at = some ⟨oc_1, od_1, .func (PySem.W.fnOf "_law_cell_at" "_law_cell_at" (defArgs s_l_cell_at) (defBody s_l_cell_at) (defScope s_l_cell_at) .none kV_1 dc_1 pm_1 an_1 cd_1 ct_1), sl_1⟩)
 (c_l_cell_at : PySem.W.codeIn K cd_1 "_law_cell_at" = true)
 (k_l_cell_at : PySem.W.keepIn K (.ref f_l_cell_at) = true)
 (a_l_form_by : PySem.W.nsIn K mainGlobals "_law_form_by" = some (some (.ref f_l_form_by)))
 (l_l_form_by : K.lookup f_l_form_by = some ⟨oc_2, od_2, .func (PySem.W.fnOf "_law_form_by" "_law_form_by" (defArgs s_l_form_by) (defBody s_l_form_by) (defScope s_l_form_by) .none kV_2 dc_2 pm_2 an_2 cd_2 ct_2), sl_2⟩)
 (c_l_form_by : PySem.W.codeIn K cd_2 "_law_form_by" = true)
 (k_l_form_by : PySem.W.keepIn K (.ref f_l_form_by) = true)
 (a_l_forms_by : PySem.W.nsIn K mainGlobals "_law_forms_by" = some (some (.ref f_l_forms_by)))
 (l_l_forms_by : K.lookup f_l_forms_by = some ⟨oc_3, od_3, .func (PySem.W.fnOf "_law_forms_by" "_law_forms_by" (defArgs s_l_forms_by) (defBody s_l_forms_by) (defScope s_l_forms_by) .none kV_3 dc_3 pm_3 an_3 cd_3 ct_3), sl_3⟩)
 (c_l_forms_by : PySem.W.codeIn K cd_3 "_law_forms_by" = true)
 (k_l_forms_by : PySem.W.keepIn K (.ref f_l_forms_by) = true)
 (a_l_pieces_by : PySem.W.nsIn K mainGlobals "_law_pieces_by" = some (some (.ref f_l_pieces_by)))
 (l_l_pieces_by : K.lookup f_l_pieces_by = some ⟨oc_4, od_4, .func (PySem.W.fnOf "_law_pieces_by" "_law_pieces_by" (defArgs s_l_pieces_by) (defBody s_l_pieces_by) (defScope s_l_pieces_by) .none kV_4 dc_4 pm_4 an_4 cd_4 ct_4), sl_4⟩)
 (c_l_pieces_by : PySem.W.codeIn K cd_4 "_law_pieces_by" = true)
 (k_l_pieces_by : PySem.W.keepIn K (.ref f_l_pieces_by) = true)
 (a_l_turned : PySem.W.nsIn K mainGlobals "_law_turned" = some (some (.ref f_l_turned)))
 (l_l_turned : K.lookup f_l_turned = some ⟨oc_5, od_5, .func (PySem.W.fnOf "_law_turned" "_law_turned" (defArgs s_l_turned) (defBody s_l_turned) (defScope s_l_turned) .none kV_5 dc_5 pm_5 an_5 cd_5 ct_5), sl_5⟩)
 (c_l_turned : PySem.W.codeIn K cd_5 "_law_turned" = true)
 (k_l_turned : PySem.W.keepIn K (.ref f_l_turned) = true)
 (a_l_ready : PySem.W.nsIn K mainGlobals "_law_ready" = some (some (.ref f_l_ready)))
 (l_l_ready : K.lookup f_l_ready = some ⟨oc_6, od_6, .func (PySem.W.fnOf "_law_ready" "_law_ready" (defArgs s_l_ready) (defBody s_l_ready) (defScope s_l_ready) .none kV_6 dc_6 pm_6 an_6 cd_6 ct_6), sl_6⟩)
 (c_l_ready : PySem.W.codeIn K cd_6 "_law_ready" = true)
 (k_l_ready : PySem.W.keepIn K (.ref f_l_ready) = true)
 (a_l_order : PySem.W.nsIn K mainGlobals "_law_order" = some (some (.ref f_l_order)))
 (l_l_order : K.lookup f_l_order = some ⟨oc_7, od_7, .func (PySem.W.fnOf "_law_order" "_law_order" (defArgs s_l_order) (defBody s_l_order) (defScope s_l_order) .none kV_7 dc_7 pm_7 an_7 cd_7 ct_7), sl_7⟩)
 (c_l_order : PySem.W.codeIn K cd_7 "_law_order" = true)
 (k_l_order : PySem.W.keepIn K (.ref f_l_order) = true)
 (a_is_name : PySem.W.nsIn K mainGlobals "is_name" = some (some (.ref f_is_name)))
 (l_is_name : K.lookup f_is_name = some ⟨oc_8, od_8, .func (PySem.W.fnOf "is_name" "is_name" (defArgs s_is_name) (defBody s_is_name) (defScope s_is_name) .none kV_8 dc_8 pm_8 an_8 cd_8 ct_8), sl_8⟩)
 (c_is_name : PySem.W.codeIn K cd_8 "is_name" = true)
 (k_is_name : PySem.W.keepIn K (.ref f_is_name) = true)
 (a_Hall_work : PySem.W.findIn K (.ref C_Hall) "work" = some (some (.ref f_Hall_work)))
 (i_Hall_work : PySem.W.isFn K (.ref f_Hall_work) = true)
 (l_Hall_work : K.lookup f_Hall_work = some ⟨oc_9, od_9, .func (PySem.W.fnOf "work" "Hall.work" (defArgs s_Hall_work) (defBody s_Hall_work) (defScope s_Hall_work) .none kV_9 dc_9 pm_9 an_9 cd_9 ct_9), sl_9⟩)
 (c_Hall_work : PySem.W.codeIn K cd_9 "Hall.work" = true)
 (k_Hall_work : PySem.W.keepIn K (.ref f_Hall_work) = true)
 (a_is_whole : PySem.W.nsIn K mainGlobals "is_whole" = some (some (.ref f_is_whole)))
 (l_is_whole : K.lookup f_is_whole = some ⟨oc_10, od_10, .func (PySem.W.fnOf "is_whole" "is_whole" (defArgs s_is_whole) (defBody s_is_whole) (defScope s_is_whole) .none kV_10 dc_10 pm_10 an_10 cd_10 ct_10), sl_10⟩)
 (c_is_whole : PySem.W.codeIn K cd_10 "is_whole" = true)
 (k_is_whole : PySem.W.keepIn K (.ref f_is_whole) = true)
 (a_is_from : PySem.W.nsIn K mainGlobals "is_from" = some (some (.ref f_is_from)))
 (l_is_from : K.lookup f_is_from = some ⟨oc_11, od_11, .func (PySem.W.fnOf "is_from" "is_from" (defArgs s_is_from) (defBody s_is_from) (defScope s_is_from) .none kV_11 dc_11 pm_11 an_11 cd_11 ct_11), sl_11⟩)
 (c_is_from : PySem.W.codeIn K cd_11 "is_from" = true)
 (k_is_from : PySem.W.keepIn K (.ref f_is_from) = true)
 (a_need_start : PySem.W.nsIn K mainGlobals "need_start" = some (some (.ref f_need_start)))
 (l_need_start : K.lookup f_need_start = some ⟨oc_12, od_12, .func (PySem.W.fnOf "need_start" "need_start" (defArgs s_need_start) (defBody s_need_start) (defScope s_need_start) .none kV_12 dc_12 pm_12 an_12 cd_12 ct_12), sl_12⟩)
 (c_need_start : PySem.W.codeIn K cd_12 "need_start" = true)
 (k_need_start : PySem.W.keepIn K (.ref f_need_start) = true)
 (a_is_number_below : PySem.W.nsIn K mainGlobals "is_number_below" = some (some (.ref f_is_number_below)))
 (l_is_number_below : K.lookup f_is_number_below = some ⟨oc_13, od_13, .func (PySem.W.fnOf "is_number_below" "is_number_below" (defArgs s_is_number_below) (defBody s_is_number_below) (defScope s_is_number_below) .none kV_13 dc_13 pm_13 an_13 cd_13 ct_13), sl_13⟩)
 (c_is_number_below : PySem.W.codeIn K cd_13 "is_number_below" = true)
 (k_is_number_below : PySem.W.keepIn K (.ref f_is_number_below) = true)
 (a_Hall_need_work : PySem.W.findIn K (.ref C_Hall) "need_work" = some (some (.ref f_Hall_need_work)))
 (i_Hall_need_work : PySem.W.isFn K (.ref f_Hall_need_work) = true)
 (l_Hall_need_work : K.lookup f_Hall_need_work = some ⟨oc_14, od_14, .func (PySem.W.fnOf "need_work" "Hall.need_work" (defArgs s_Hall_need_work) (defBody s_Hall_need_work) (defScope s_Hall_need_work) .none kV_14 dc_14 pm_14 an_14 cd_14 ct_14), sl_14⟩)
 (c_Hall_need_work : PySem.W.codeIn K cd_14 "Hall.need_work" = true)
 (k_Hall_need_work : PySem.W.keepIn K (.ref f_Hall_need_work) = true)
 (a_Hall_lay : PySem.W.findIn K (.ref C_Hall) "lay" = some (some (.ref f_Hall_lay)))
 (i_Hall_lay : PySem.W.isFn K (.ref f_Hall_lay) = true)
 (l_Hall_lay : K.lookup f_Hall_lay = some ⟨oc_15, od_15, .func (PySem.W.fnOf "lay" "Hall.lay" (defArgs s_Hall_lay) (defBody s_Hall_lay) (defScope s_Hall_lay) .none kV_15 dc_15 pm_15 an_15 cd_15 ct_15), sl_15⟩)
 (c_Hall_lay : PySem.W.codeIn K cd_15 "Hall.lay" = true)
 (k_Hall_lay : PySem.W.keepIn K (.ref f_Hall_lay) = true)
 (a_Hall_belt : PySem.W.findIn K (.ref C_Hall) "belt" = some (some (.ref f_Hall_belt)))
 (i_Hall_belt : PySem.W.isFn K (.ref f_Hall_belt) = true)
 (l_Hall_belt : K.lookup f_Hall_belt = some ⟨oc_0, od_0, .func (PySem.W.fnOf "belt" "Hall.belt" (defArgs s_Hall_belt) (defBody s_Hall_belt) (defScope s_Hall_belt) (.ref dT_Hall_belt) kV_0 dc_0 pm_0 an_0 cd_0 ct_0), sl_0⟩)
 (t_Hall_belt : K.lookup dT_Hall_belt = some ⟨oc2_0, od2_0, .seq #[.int 0 dk0_Hall_belt] n2_0, sl2_0⟩)
 (c_Hall_belt : PySem.W.codeIn K cd_0 "Hall.belt" = true)
 (k_Hall_belt : PySem.W.keepIn K (.ref f_Hall_belt) = true)
 (a_Hall_init : PySem.W.findIn K (.ref C_Hall) "__init__" = some (some (.ref f_Hall_init)))
 (i_Hall_init : PySem.W.isFn K (.ref f_Hall_init) = true)
 (l_Hall_init : K.lookup f_Hall_init = some ⟨oc_16, od_16, .func (PySem.W.fnOf "__init__" "Hall.__init__" (defArgs s_Hall_init) (defBody s_Hall_init) (defScope s_Hall_init) .none kV_16 dc_16 pm_16 an_16 cd_16 ct_16), sl_16⟩)
 (c_Hall_init : PySem.W.codeIn K cd_16 "Hall.__init__" = true)
 (k_Hall_init : PySem.W.keepIn K (.ref f_Hall_init) = true)
 (a_l_made : PySem.W.nsIn K mainGlobals "_law_made" = some (some (.ref f_l_made)))
 (l_l_made : K.lookup f_l_made = some ⟨oc_17, od_17, .func (PySem.W.fnOf "_law_made" "_law_made" (defArgs s_l_made) (defBody s_l_made) (defScope s_l_made) .none kV_17 dc_17 pm_17 an_17 cd_17 ct_17), sl_17⟩)
 (c_l_made : PySem.W.codeIn K cd_17 "_law_made" = true)
 (k_l_made : PySem.W.keepIn K (.ref f_l_made) = true)
 (a_l_names : PySem.W.nsIn K mainGlobals "_law_names" = some (some (.ref f_l_names)))
 (l_l_names : K.lookup f_l_names = some ⟨oc_18, od_18, .func (PySem.W.fnOf "_law_names" "_law_names" (defArgs s_l_names) (defBody s_l_names) (defScope s_l_names) .none kV_18 dc_18 pm_18 an_18 cd_18 ct_18), sl_18⟩)
 (c_l_names : PySem.W.codeIn K cd_18 "_law_names" = true)
 (k_l_names : PySem.W.keepIn K (.ref f_l_names) = true)
 (a_l_common : PySem.W.nsIn K mainGlobals "_law_common" = some (some (.ref f_l_common)))
 (l_l_common : K.lookup f_l_common = some ⟨oc_19, od_19, .func (PySem.W.fnOf "_law_common" "_law_common" (defArgs s_l_common) (defBody s_l_common) (defScope s_l_common) .none kV_19 dc_19 pm_19 an_19 cd_19 ct_19), sl_19⟩)
 (c_l_common : PySem.W.codeIn K cd_19 "_law_common" = true)
 (k_l_common : PySem.W.keepIn K (.ref f_l_common) = true)
 (a_l_belt_by : PySem.W.nsIn K mainGlobals "_law_belt_by" = some (some (.ref f_l_belt_by)))
 (l_l_belt_by : K.lookup f_l_belt_by = some ⟨oc_20, od_20, .func (PySem.W.fnOf "_law_belt_by" "_law_belt_by" (defArgs s_l_belt_by) (defBody s_l_belt_by) (defScope s_l_belt_by) .none kV_20 dc_20 pm_20 an_20 cd_20 ct_20), sl_20⟩)
 (c_l_belt_by : PySem.W.codeIn K cd_20 "_law_belt_by" = true)
 (k_l_belt_by : PySem.W.keepIn K (.ref f_l_belt_by) = true)
 (a_enough : PySem.W.nsIn K mainGlobals "enough" = some (some (.ref f_enough)))
 (l_enough : K.lookup f_enough = some ⟨oc_21, od_21, .func (PySem.W.fnOf "enough" "enough" (defArgs s_enough) (defBody s_enough) (defScope s_enough) .none kV_21 dc_21 pm_21 an_21 cd_21 ct_21), sl_21⟩)
 (c_enough : PySem.W.codeIn K cd_21 "enough" = true)
 (k_enough : PySem.W.keepIn K (.ref f_enough) = true)
 (a_Floor_need_work : PySem.W.findIn K (.ref C_Floor) "need_work" = some (some (.ref f_Floor_need_work)))
 (i_Floor_need_work : PySem.W.isFn K (.ref f_Floor_need_work) = true)
 (l_Floor_need_work : K.lookup f_Floor_need_work = some ⟨oc_22, od_22, .func (PySem.W.fnOf "need_work" "Floor.need_work" (defArgs s_Floor_need_work) (defBody s_Floor_need_work) (defScope s_Floor_need_work) .none kV_22 dc_22 pm_22 an_22 cd_22 ct_22), sl_22⟩)
 (c_Floor_need_work : PySem.W.codeIn K cd_22 "Floor.need_work" = true)
 (k_Floor_need_work : PySem.W.keepIn K (.ref f_Floor_need_work) = true)
 (a_Floor_go : PySem.W.findIn K (.ref C_Floor) "go" = some (some (.ref f_Floor_go)))
 (i_Floor_go : PySem.W.isFn K (.ref f_Floor_go) = true)
 (l_Floor_go : K.lookup f_Floor_go = some ⟨oc_23, od_23, .func (PySem.W.fnOf "go" "Floor.go" (defArgs s_Floor_go) (defBody s_Floor_go) (defScope s_Floor_go) .none kV_23 dc_23 pm_23 an_23 cd_23 ct_23), sl_23⟩)
 (c_Floor_go : PySem.W.codeIn K cd_23 "Floor.go" = true)
 (k_Floor_go : PySem.W.keepIn K (.ref f_Floor_go) = true)
 (a_form_value : PySem.W.nsIn K mainGlobals "form_value" = some (some (.ref f_form_value)))
 (l_form_value : K.lookup f_form_value = some ⟨oc_24, od_24, .func (PySem.W.fnOf "form_value" "form_value" (defArgs s_form_value) (defBody s_form_value) (defScope s_form_value) .none kV_24 dc_24 pm_24 an_24 cd_24 ct_24), sl_24⟩)
 (c_form_value : PySem.W.codeIn K cd_24 "form_value" = true)
 (k_form_value : PySem.W.keepIn K (.ref f_form_value) = true)
 (a_Lane_lay_behind : PySem.W.findIn K (.ref C_Lane) "lay_behind" = some (some (.ref f_Lane_lay_behind)))
 (i_Lane_lay_behind : PySem.W.isFn K (.ref f_Lane_lay_behind) = true)
 (l_Lane_lay_behind : K.lookup f_Lane_lay_behind = some ⟨oc_25, od_25, .func (PySem.W.fnOf "lay_behind" "Lane.lay_behind" (defArgs s_Lane_lay_behind) (defBody s_Lane_lay_behind) (defScope s_Lane_lay_behind) .none kV_25 dc_25 pm_25 an_25 cd_25 ct_25), sl_25⟩)
 (c_Lane_lay_behind : PySem.W.codeIn K cd_25 "Lane.lay_behind" = true)
 (k_Lane_lay_behind : PySem.W.keepIn K (.ref f_Lane_lay_behind) = true)
 (a_Lane_lying : PySem.W.findIn K (.ref C_Lane) "lying" = some (some (.ref f_Lane_lying)))
 (i_Lane_lying : PySem.W.isFn K (.ref f_Lane_lying) = true)
 (l_Lane_lying : K.lookup f_Lane_lying = some ⟨oc_26, od_26, .func (PySem.W.fnOf "lying" "Lane.lying" (defArgs s_Lane_lying) (defBody s_Lane_lying) (defScope s_Lane_lying) .none kV_26 dc_26 pm_26 an_26 cd_26 ct_26), sl_26⟩)
 (c_Lane_lying : PySem.W.codeIn K cd_26 "Lane.lying" = true)
 (k_Lane_lying : PySem.W.keepIn K (.ref f_Lane_lying) = true)
 (a_Lane_drawn_off : PySem.W.findIn K (.ref C_Lane) "drawn_off" = some (some (.ref f_Lane_drawn_off)))
 (i_Lane_drawn_off : PySem.W.isFn K (.ref f_Lane_drawn_off) = true)
 (l_Lane_drawn_off : K.lookup f_Lane_drawn_off = some ⟨oc_27, od_27, .func (PySem.W.fnOf "drawn_off" "Lane.drawn_off" (defArgs s_Lane_drawn_off) (defBody s_Lane_drawn_off) (defScope s_Lane_drawn_off) .none kV_27 dc_27 pm_27 an_27 cd_27 ct_27), sl_27⟩)
 (c_Lane_drawn_off : PySem.W.codeIn K cd_27 "Lane.drawn_off" = true)
 (k_Lane_drawn_off : PySem.W.keepIn K (.ref f_Lane_drawn_off) = true)
 (a_Mill_pass_on : PySem.W.findIn K (.ref C_Mill) "pass_on" = some (some (.ref f_Mill_pass_on)))
 (i_Mill_pass_on : PySem.W.isFn K (.ref f_Mill_pass_on) = true)
 (l_Mill_pass_on : K.lookup f_Mill_pass_on = some ⟨oc_28, od_28, .func (PySem.W.fnOf "pass_on" "Mill.pass_on" (defArgs s_Mill_pass_on) (defBody s_Mill_pass_on) (defScope s_Mill_pass_on) .none kV_28 dc_28 pm_28 an_28 cd_28 ct_28), sl_28⟩)
 (c_Mill_pass_on : PySem.W.codeIn K cd_28 "Mill.pass_on" = true)
 (k_Mill_pass_on : PySem.W.keepIn K (.ref f_Mill_pass_on) = true)
 (a_Mill_go : PySem.W.findIn K (.ref C_Mill) "go" = some (some (.ref f_Mill_go)))
 (i_Mill_go : PySem.W.isFn K (.ref f_Mill_go) = true)
 (l_Mill_go : K.lookup f_Mill_go = some ⟨oc_29, od_29, .func (PySem.W.fnOf "go" "Mill.go" (defArgs s_Mill_go) (defBody s_Mill_go) (defScope s_Mill_go) .none kV_29 dc_29 pm_29 an_29 cd_29 ct_29), sl_29⟩)
 (c_Mill_go : PySem.W.codeIn K cd_29 "Mill.go" = true)
 (k_Mill_go : PySem.W.keepIn K (.ref f_Mill_go) = true)
 (a_Mill_lying : PySem.W.findIn K (.ref C_Mill) "lying" = some (some (.ref f_Mill_lying)))
 (i_Mill_lying : PySem.W.isFn K (.ref f_Mill_lying) = true)
 (l_Mill_lying : K.lookup f_Mill_lying = some ⟨oc_30, od_30, .func (PySem.W.fnOf "lying" "Mill.lying" (defArgs s_Mill_lying) (defBody s_Mill_lying) (defScope s_Mill_lying) .none kV_30 dc_30 pm_30 an_30 cd_30 ct_30), sl_30⟩)
 (c_Mill_lying : PySem.W.codeIn K cd_30 "Mill.lying" = true)
 (k_Mill_lying : PySem.W.keepIn K (.ref f_Mill_lying) = true)
 (a_Mill_turn : PySem.W.findIn K (.ref C_Mill) "turn" = some (some (.ref f_Mill_turn)))
 (i_Mill_turn : PySem.W.isFn K (.ref f_Mill_turn) = true)
 (l_Mill_turn : K.lookup f_Mill_turn = some ⟨oc_31, od_31, .func (PySem.W.fnOf "turn" "Mill.turn" (defArgs s_Mill_turn) (defBody s_Mill_turn) (defScope s_Mill_turn) .none kV_31 dc_31 pm_31 an_31 cd_31 ct_31), sl_31⟩)
 (c_Mill_turn : PySem.W.codeIn K cd_31 "Mill.turn" = true)
 (k_Mill_turn : PySem.W.keepIn K (.ref f_Mill_turn) = true)
 (a_Hall_leaving : PySem.W.findIn K (.ref C_Hall) "leaving" = some (some (.ref f_Hall_leaving)))
 (i_Hall_leaving : PySem.W.isFn K (.ref f_Hall_leaving) = true)
 (l_Hall_leaving : K.lookup f_Hall_leaving = some ⟨oc_32, od_32, .func (PySem.W.fnOf "leaving" "Hall.leaving" (defArgs s_Hall_leaving) (defBody s_Hall_leaving) (defScope s_Hall_leaving) .none kV_32 dc_32 pm_32 an_32 cd_32 ct_32), sl_32⟩)
 (c_Hall_leaving : PySem.W.codeIn K cd_32 "Hall.leaving" = true)
 (k_Hall_leaving : PySem.W.keepIn K (.ref f_Hall_leaving) = true)
 (a_Hall_need_belt : PySem.W.findIn K (.ref C_Hall) "need_belt" = some (some (.ref f_Hall_need_belt)))
 (i_Hall_need_belt : PySem.W.isFn K (.ref f_Hall_need_belt) = true)
 (l_Hall_need_belt : K.lookup f_Hall_need_belt = some ⟨oc_33, od_33, .func (PySem.W.fnOf "need_belt" "Hall.need_belt" (defArgs s_Hall_need_belt) (defBody s_Hall_need_belt) (defScope s_Hall_need_belt) .none kV_33 dc_33 pm_33 an_33 cd_33 ct_33), sl_33⟩)
 (c_Hall_need_belt : PySem.W.codeIn K cd_33 "Hall.need_belt" = true)
 (k_Hall_need_belt : PySem.W.keepIn K (.ref f_Hall_need_belt) = true)
 (a_Hall_belt_at : PySem.W.findIn K (.ref C_Hall) "belt_at" = some (some (.ref f_Hall_belt_at)))
 (i_Hall_belt_at : PySem.W.isFn K (.ref f_Hall_belt_at) = true)
 (l_Hall_belt_at : K.lookup f_Hall_belt_at = some ⟨oc_34, od_34, .func (PySem.W.fnOf "belt_at" "Hall.belt_at" (defArgs s_Hall_belt_at) (defBody s_Hall_belt_at) (defScope s_Hall_belt_at) .none kV_34 dc_34 pm_34 an_34 cd_34 ct_34), sl_34⟩)
 (c_Hall_belt_at : PySem.W.codeIn K cd_34 "Hall.belt_at" = true)
 (k_Hall_belt_at : PySem.W.keepIn K (.ref f_Hall_belt_at) = true)
 (a_gives_of : PySem.W.nsIn K mainGlobals "gives_of" = some (some (.ref f_gives_of)))
 (l_gives_of : K.lookup f_gives_of = some ⟨oc_35, od_35, .func (PySem.W.fnOf "gives_of" "gives_of" (defArgs s_gives_of) (defBody s_gives_of) (defScope s_gives_of) .none kV_35 dc_35 pm_35 an_35 cd_35 ct_35), sl_35⟩)
 (c_gives_of : PySem.W.codeIn K cd_35 "gives_of" = true)
 (k_gives_of : PySem.W.keepIn K (.ref f_gives_of) = true)
 (a_given_by : PySem.W.nsIn K mainGlobals "given_by" = some (some (.ref f_given_by)))
 (l_given_by : K.lookup f_given_by = some ⟨oc_36, od_36, .func (PySem.W.fnOf "given_by" "given_by" (defArgs s_given_by) (defBody s_given_by) (defScope s_given_by) .none kV_36 dc_36 pm_36 an_36 cd_36 ct_36), sl_36⟩)
 (c_given_by : PySem.W.codeIn K cd_36 "given_by" = true)
 (k_given_by : PySem.W.keepIn K (.ref f_given_by) = true)
 (a_Hall_entering : PySem.W.findIn K (.ref C_Hall) "entering" = some (some (.ref f_Hall_entering)))
 (i_Hall_entering : PySem.W.isFn K (.ref f_Hall_entering) = true)
 (l_Hall_entering : K.lookup f_Hall_entering = some ⟨oc_37, od_37, .func (PySem.W.fnOf "entering" "Hall.entering" (defArgs s_Hall_entering) (defBody s_Hall_entering) (defScope s_Hall_entering) .none kV_37 dc_37 pm_37 an_37 cd_37 ct_37), sl_37⟩)
 (c_Hall_entering : PySem.W.codeIn K cd_37 "Hall.entering" = true)
 (k_Hall_entering : PySem.W.keepIn K (.ref f_Hall_entering) = true)
 (a_takes_of : PySem.W.nsIn K mainGlobals "takes_of" = some (some (.ref f_takes_of)))
 (l_takes_of : K.lookup f_takes_of = some ⟨oc_38, od_38, .func (PySem.W.fnOf "takes_of" "takes_of" (defArgs s_takes_of) (defBody s_takes_of) (defScope s_takes_of) .none kV_38 dc_38 pm_38 an_38 cd_38 ct_38), sl_38⟩)
 (c_takes_of : PySem.W.codeIn K cd_38 "takes_of" = true)
 (k_takes_of : PySem.W.keepIn K (.ref f_takes_of) = true)
 (a_need_work_forms : PySem.W.nsIn K mainGlobals "need_work_forms" = some (some (.ref f_need_work_forms)))
 (l_need_work_forms : K.lookup f_need_work_forms = some ⟨oc_39, od_39, .func (PySem.W.fnOf "need_work_forms" "need_work_forms" (defArgs s_need_work_forms) (defBody s_need_work_forms) (defScope s_need_work_forms) .none kV_39 dc_39 pm_39 an_39 cd_39 ct_39), sl_39⟩)
 (c_need_work_forms : PySem.W.codeIn K cd_39 "need_work_forms" = true)
 (k_need_work_forms : PySem.W.keepIn K (.ref f_need_work_forms) = true)
 (a_Hall_names : PySem.W.findIn K (.ref C_Hall) "names" = some (some (.ref f_Hall_names)))
 (i_Hall_names : PySem.W.isFn K (.ref f_Hall_names) = true)
 (l_Hall_names : K.lookup f_Hall_names = some ⟨oc_40, od_40, .func (PySem.W.fnOf "names" "Hall.names" (defArgs s_Hall_names) (defBody s_Hall_names) (defScope s_Hall_names) .none kV_40 dc_40 pm_40 an_40 cd_40 ct_40), sl_40⟩)
 (c_Hall_names : PySem.W.codeIn K cd_40 "Hall.names" = true)
 (k_Hall_names : PySem.W.keepIn K (.ref f_Hall_names) = true)
 (a_need_forms : PySem.W.nsIn K mainGlobals "need_forms" = some (some (.ref f_need_forms)))
 (l_need_forms : K.lookup f_need_forms = some ⟨oc_41, od_41, .func (PySem.W.fnOf "need_forms" "need_forms" (defArgs s_need_forms) (defBody s_need_forms) (defScope s_need_forms) .none kV_41 dc_41 pm_41 an_41 cd_41 ct_41), sl_41⟩)
 (c_need_forms : PySem.W.codeIn K cd_41 "need_forms" = true)
 (k_need_forms : PySem.W.keepIn K (.ref f_need_forms) = true)
 (a_Hall_belts : PySem.W.findIn K (.ref C_Hall) "belts" = some (some (.ref f_Hall_belts)))
 (i_Hall_belts : PySem.W.isFn K (.ref f_Hall_belts) = true)
 (l_Hall_belts : K.lookup f_Hall_belts = some ⟨oc_42, od_42, .func (PySem.W.fnOf "belts" "Hall.belts" (defArgs s_Hall_belts) (defBody s_Hall_belts) (defScope s_Hall_belts) .none kV_42 dc_42 pm_42 an_42 cd_42 ct_42), sl_42⟩)
 (c_Hall_belts : PySem.W.codeIn K cd_42 "Hall.belts" = true)
 (k_Hall_belts : PySem.W.keepIn K (.ref f_Hall_belts) = true)
 (a_starts_of : PySem.W.nsIn K mainGlobals "starts_of" = some (some (.ref f_starts_of)))
 (l_starts_of : K.lookup f_starts_of = some ⟨oc_43, od_43, .func (PySem.W.fnOf "starts_of" "starts_of" (defArgs s_starts_of) (defBody s_starts_of) (defScope s_starts_of) .none kV_43 dc_43 pm_43 an_43 cd_43 ct_43), sl_43⟩)
 (c_starts_of : PySem.W.codeIn K cd_43 "starts_of" = true)
 (k_starts_of : PySem.W.keepIn K (.ref f_starts_of) = true)
 (a_need_pieces : PySem.W.nsIn K mainGlobals "need_pieces" = some (some (.ref f_need_pieces)))
 (l_need_pieces : K.lookup f_need_pieces = some ⟨oc_44, od_44, .func (PySem.W.fnOf "need_pieces" "need_pieces" (defArgs s_need_pieces) (defBody s_need_pieces) (defScope s_need_pieces) .none kV_44 dc_44 pm_44 an_44 cd_44 ct_44), sl_44⟩)
 (c_need_pieces : PySem.W.codeIn K cd_44 "need_pieces" = true)
 (k_need_pieces : PySem.W.keepIn K (.ref f_need_pieces) = true)
 (a_Floor_init : PySem.W.findIn K (.ref C_Floor) "__init__" = some (some (.ref f_Floor_init)))
 (i_Floor_init : PySem.W.isFn K (.ref f_Floor_init) = true)
 (l_Floor_init : K.lookup f_Floor_init = some ⟨oc_45, od_45, .func (PySem.W.fnOf "__init__" "Floor.__init__" (defArgs s_Floor_init) (defBody s_Floor_init) (defScope s_Floor_init) .none kV_45 dc_45 pm_45 an_45 cd_45 ct_45), sl_45⟩)
 (c_Floor_init : PySem.W.codeIn K cd_45 "Floor.__init__" = true)
 (k_Floor_init : PySem.W.keepIn K (.ref f_Floor_init) = true)
 (a_Lane_init : PySem.W.findIn K (.ref C_Lane) "__init__" = some (some (.ref f_Lane_init)))
 (i_Lane_init : PySem.W.isFn K (.ref f_Lane_init) = true)
 (l_Lane_init : K.lookup f_Lane_init = some ⟨oc_46, od_46, .func (PySem.W.fnOf "__init__" "Lane.__init__" (defArgs s_Lane_init) (defBody s_Lane_init) (defScope s_Lane_init) .none kV_46 dc_46 pm_46 an_46 cd_46 ct_46), sl_46⟩)
 (c_Lane_init : PySem.W.codeIn K cd_46 "Lane.__init__" = true)
 (k_Lane_init : PySem.W.keepIn K (.ref f_Lane_init) = true)
 (a_Mill_init : PySem.W.findIn K (.ref C_Mill) "__init__" = some (some (.ref f_Mill_init)))
 (i_Mill_init : PySem.W.isFn K (.ref f_Mill_init) = true)
 (l_Mill_init : K.lookup f_Mill_init = some ⟨oc_47, od_47, .func (PySem.W.fnOf "__init__" "Mill.__init__" (defArgs s_Mill_init) (defBody s_Mill_init) (defScope s_Mill_init) .none kV_47 dc_47 pm_47 an_47 cd_47 ct_47), sl_47⟩)
 (c_Mill_init : PySem.W.codeIn K cd_47 "Mill.__init__" = true)
 (k_Mill_init : PySem.W.keepIn K (.ref f_Mill_init) = true)
 (a_law : PySem.W.nsIn K mainGlobals "law" = some (some (.ref f_law)))
 (l_law : K.lookup f_law = some ⟨oc_48, od_48, .func (PySem.W.fnOf "law" "law" (defArgs s_law) (defBody s_law) (defScope s_law) .none kV_48 dc_48 pm_48 an_48 cd_48 ct_48), sl_48⟩)
 (c_law : PySem.W.codeIn K cd_48 "law" = true)
 (k_law : PySem.W.keepIn K (.ref f_law) = true)
 (pg_Floor : PySem.W.plainGet K C_Floor Str.empty = true)
 (hd_Floor : PySem.W.hasDictIn K C_Floor = true)
 (po_Floor : PySem.W.plainOver K C_Floor = true)
 (sa_Floor : PySem.W.findIn K (.ref C_Floor) "__setattr__" = some (some (.builtin "object.__setattr__")))
 (mk_Floor : PySem.W.makesIn K C_Floor = true)
 (kc_Floor : PySem.W.keepIn K (.ref C_Floor) = true)
 (na_Floor_takes : PySem.W.findIn K (.ref C_Floor) "takes" = some none)
 (na_Floor_gives : PySem.W.findIn K (.ref C_Floor) "gives" = some none)
 (na_Floor_heaps : PySem.W.findIn K (.ref C_Floor) "heaps" = some none)
 (pg_Mill : PySem.W.plainGet K C_Mill Str.empty = true)
 (hd_Mill : PySem.W.hasDictIn K C_Mill = true)
 (po_Mill : PySem.W.plainOver K C_Mill = true)
 (sa_Mill : PySem.W.findIn K (.ref C_Mill) "__setattr__" = some (some (.builtin "object.__setattr__")))
 (mk_Mill : PySem.W.makesIn K C_Mill = true)
 (kc_Mill : PySem.W.keepIn K (.ref C_Mill) = true)
 (na_Mill_floor : PySem.W.findIn K (.ref C_Mill) "floor" = some none)
 (na_Mill_forms : PySem.W.findIn K (.ref C_Mill) "forms" = some none)
 (na_Mill_lanes : PySem.W.findIn K (.ref C_Mill) "lanes" = some none)
 (pg_Lane : PySem.W.plainGet K C_Lane Str.empty = true)
 (hd_Lane : PySem.W.hasDictIn K C_Lane = true)
 (po_Lane : PySem.W.plainOver K C_Lane = true)
 (sa_Lane : PySem.W.findIn K (.ref C_Lane) "__setattr__" = some (some (.builtin "object.__setattr__")))
 (mk_Lane : PySem.W.makesIn K C_Lane = true)
 (kc_Lane : PySem.W.keepIn K (.ref C_Lane) = true)
 (na_Lane_laid : PySem.W.findIn K (.ref C_Lane) "laid" = some none)
 (na_Lane_gone : PySem.W.findIn K (.ref C_Lane) "gone" = some none)
 (pg_Hall : PySem.W.plainGet K C_Hall Str.empty = true)
 (hd_Hall : PySem.W.hasDictIn K C_Hall = true)
 (po_Hall : PySem.W.plainOver K C_Hall = true)
 (sa_Hall : PySem.W.findIn K (.ref C_Hall) "__setattr__" = some (some (.builtin "object.__setattr__")))
 (mk_Hall : PySem.W.makesIn K C_Hall = true)
 (kc_Hall : PySem.W.keepIn K (.ref C_Hall) = true)
 (na_Hall_numbers : PySem.W.findIn K (.ref C_Hall) "numbers" = some none)
 (na_Hall_rows : PySem.W.findIn K (.ref C_Hall) "rows" = some none)
 (gx_NoName : PySem.W.nsIn K mainGlobals "NoName" = some (some (.ref X_NoName)))
 (ex_NoName : PySem.W.excIn K X_NoName [.type "ValueError", .type "Exception", .type "BaseException", .type "object"] "ValueError.__new__" = true)
 (gx_Twice : PySem.W.nsIn K mainGlobals "Twice" = some (some (.ref X_Twice)))
 (ex_Twice : PySem.W.excIn K X_Twice [.type "ValueError", .type "Exception", .type "BaseException", .type "object"] "ValueError.__new__" = true)
 (gx_TooMuch : PySem.W.nsIn K mainGlobals "TooMuch" = some (some (.ref X_TooMuch)))
 (ex_TooMuch : PySem.W.excIn K X_TooMuch [.type "ValueError", .type "Exception", .type "BaseException", .type "object"] "ValueError.__new__" = true)
 (gx_NoWork : PySem.W.nsIn K mainGlobals "NoWork" = some (some (.ref X_NoWork)))
 (ex_NoWork : PySem.W.excIn K X_NoWork [.type "ValueError", .type "Exception", .type "BaseException", .type "object"] "ValueError.__new__" = true)
 (gx_NoBelt : PySem.W.nsIn K mainGlobals "NoBelt" = some (some (.ref X_NoBelt)))
 (ex_NoBelt : PySem.W.excIn K X_NoBelt [.type "ValueError", .type "Exception", .type "BaseException", .type "object"] "ValueError.__new__" = true)
 (gx_NoRate : PySem.W.nsIn K mainGlobals "NoRate" = some (some (.ref X_NoRate)))
 (ex_NoRate : PySem.W.excIn K X_NoRate [.type "ValueError", .type "Exception", .type "BaseException", .type "object"] "ValueError.__new__" = true)
 (gx_Empty : PySem.W.nsIn K mainGlobals "Empty" = some (some (.ref X_Empty)))
 (ex_Empty : PySem.W.excIn K X_Empty [.type "ValueError", .type "Exception", .type "BaseException", .type "object"] "ValueError.__new__" = true)
 (gx_NoForm : PySem.W.nsIn K mainGlobals "NoForm" = some (some (.ref X_NoForm)))
 (ex_NoForm : PySem.W.excIn K X_NoForm [.type "ValueError", .type "Exception", .type "BaseException", .type "object"] "ValueError.__new__" = true)
 (gx_NoPieces : PySem.W.nsIn K mainGlobals "NoPieces" = some (some (.ref X_NoPieces)))
 (ex_NoPieces : PySem.W.excIn K X_NoPieces [.type "ValueError", .type "Exception", .type "BaseException", .type "object"] "ValueError.__new__" = true)
 (c_MOST_LETTERS : PySem.W.nsIn K mainGlobals "MOST_LETTERS" = some (some (.int 8 tk_MOST_LETTERS)))
 (c_MOST_WORKS : PySem.W.nsIn K mainGlobals "MOST_WORKS" = some (some (.int 30 tk_MOST_WORKS)))
 (c_MOST_BELTS : PySem.W.nsIn K mainGlobals "MOST_BELTS" = some (some (.int 60 tk_MOST_BELTS)))
 (z_all : PySem.W.nsIn K mainGlobals "all" = some none)
 (z_bool : PySem.W.nsIn K mainGlobals "bool" = some none)
 (z_enumerate : PySem.W.nsIn K mainGlobals "enumerate" = some none)
 (z_int : PySem.W.nsIn K mainGlobals "int" = some none)
 (z_isinstance : PySem.W.nsIn K mainGlobals "isinstance" = some none)
 (z_len : PySem.W.nsIn K mainGlobals "len" = some none)
 (z_list : PySem.W.nsIn K mainGlobals "list" = some none)
 (z_min : PySem.W.nsIn K mainGlobals "min" = some none)
 (z_range : PySem.W.nsIn K mainGlobals "range" = some none)
 (z_reversed : PySem.W.nsIn K mainGlobals "reversed" = some none)
 (z_str : PySem.W.nsIn K mainGlobals "str" = some none)
 (z_sum : PySem.W.nsIn K mainGlobals "sum" = some none)
 (z_tuple : PySem.W.nsIn K mainGlobals "tuple" = some none)
 (z_zip : PySem.W.nsIn K mainGlobals "zip" = some none)
 : ∃ T : Tp K mg, True := by
 have F_l_cell_at := fun_mk (st := s_l_cell_at) l_l_cell_at c_l_cell_at k_l_cell_at
 have F_l_form_by := fun_mk (st := s_l_form_by) l_l_form_by c_l_form_by k_l_form_by
 have F_l_forms_by := fun_mk (st := s_l_forms_by) l_l_forms_by c_l_forms_by k_l_forms_by
 have F_l_pieces_by := fun_mk (st := s_l_pieces_by) l_l_pieces_by c_l_pieces_by k_l_pieces_by
 have F_l_turned := fun_mk (st := s_l_turned) l_l_turned c_l_turned k_l_turned
 have F_l_ready := fun_mk (st := s_l_ready) l_l_ready c_l_ready k_l_ready
 have F_l_order := fun_mk (st := s_l_order) l_l_order c_l_order k_l_order
 have F_is_name := fun_mk (st := s_is_name) l_is_name c_is_name k_is_name
 have F_Hall_work := fun_mk (st := s_Hall_work) l_Hall_work c_Hall_work k_Hall_work
 have F_is_whole := fun_mk (st := s_is_whole) l_is_whole c_is_whole k_is_whole
 have F_is_from := fun_mk (st := s_is_from) l_is_from c_is_from k_is_from
 have F_need_start := fun_mk (st := s_need_start) l_need_start c_need_start k_need_start
 have F_is_number_below := fun_mk (st := s_is_number_below) l_is_number_below c_is_number_below k_is_number_below
 have F_Hall_need_work := fun_mk (st := s_Hall_need_work) l_Hall_need_work c_Hall_need_work k_Hall_need_work
 have F_Hall_lay := fun_mk (st := s_Hall_lay) l_Hall_lay c_Hall_lay k_Hall_lay
 have F_Hall_belt := funD_mk (st := s_Hall_belt) l_Hall_belt c_Hall_belt k_Hall_belt
 have F_Hall_init := fun_mk (st := s_Hall_init) l_Hall_init c_Hall_init k_Hall_init
 have F_l_made := fun_mk (st := s_l_made) l_l_made c_l_made k_l_made
 have F_l_names := fun_mk (st := s_l_names) l_l_names c_l_names k_l_names
 have F_l_common := fun_mk (st := s_l_common) l_l_common c_l_common k_l_common
 have F_l_belt_by := fun_mk (st := s_l_belt_by) l_l_belt_by c_l_belt_by k_l_belt_by
 have F_enough := fun_mk (st := s_enough) l_enough c_enough k_enough
 have F_Floor_need_work := fun_mk (st := s_Floor_need_work) l_Floor_need_work c_Floor_need_work k_Floor_need_work
 have F_Floor_go := fun_mk (st := s_Floor_go) l_Floor_go c_Floor_go k_Floor_go
 have F_form_value := fun_mk (st := s_form_value) l_form_value c_form_value k_form_value
 have F_Lane_lay_behind := fun_mk (st := s_Lane_lay_behind) l_Lane_lay_behind c_Lane_lay_behind k_Lane_lay_behind
 have F_Lane_lying := fun_mk (st := s_Lane_lying) l_Lane_lying c_Lane_lying k_Lane_lying
 have F_Lane_drawn_off := fun_mk (st := s_Lane_drawn_off) l_Lane_drawn_off c_Lane_drawn_off k_Lane_drawn_off
 have F_Mill_pass_on := fun_mk (st := s_Mill_pass_on) l_Mill_pass_on c_Mill_pass_on k_Mill_pass_on
 have F_Mill_go := fun_mk (st := s_Mill_go) l_Mill_go c_Mill_go k_Mill_go
 have F_Mill_lying := fun_mk (st := s_Mill_lying) l_Mill_lying c_Mill_lying k_Mill_lying
 have F_Mill_turn := fun_mk (st := s_Mill_turn) l_Mill_turn c_Mill_turn k_Mill_turn
 have F_Hall_leaving := fun_mk (st := s_Hall_leaving) l_Hall_leaving c_Hall_leaving k_Hall_leaving
 have F_Hall_need_belt := fun_mk (st := s_Hall_need_belt) l_Hall_need_belt c_Hall_need_belt k_Hall_need_belt
 have F_Hall_belt_at := fun_mk (st := s_Hall_belt_at) l_Hall_belt_at c_Hall_belt_at k_Hall_belt_at
 have F_gives_of := fun_mk (st := s_gives_of) l_gives_of c_gives_of k_gives_of
 have F_given_by := fun_mk (st := s_given_by) l_given_by c_given_by k_given_by
 have F_Hall_entering := fun_mk (st := s_Hall_entering) l_Hall_entering c_Hall_entering k_Hall_entering
 have F_takes_of := fun_mk (st := s_takes_of) l_takes_of c_takes_of k_takes_of
 have F_need_work_forms := fun_mk (st := s_need_work_forms) l_need_work_forms c_need_work_forms k_need_work_forms
 have F_Hall_names := fun_mk (st := s_Hall_names) l_Hall_names c_Hall_names k_Hall_names
 have F_need_forms := fun_mk (st := s_need_forms) l_need_forms c_need_forms k_need_forms
 have F_Hall_belts := fun_mk (st := s_Hall_belts) l_Hall_belts c_Hall_belts k_Hall_belts
 have F_starts_of := fun_mk (st := s_starts_of) l_starts_of c_starts_of k_starts_of
 have F_need_pieces := fun_mk (st := s_need_pieces) l_need_pieces c_need_pieces k_need_pieces
 have F_Floor_init := fun_mk (st := s_Floor_init) l_Floor_init c_Floor_init k_Floor_init
 have F_Lane_init := fun_mk (st := s_Lane_init) l_Lane_init c_Lane_init k_Lane_init
 have F_Mill_init := fun_mk (st := s_Mill_init) l_Mill_init c_Mill_init k_Mill_init
 have F_law := fun_mk (st := s_law) l_law c_law k_law
 exact ⟨{
 f_l_cell_at := f_l_cell_at, d_l_cell_at := _, F_l_cell_at := F_l_cell_at,
 b_l_cell_at := bd_l_cell_at F_l_cell_at,
 m_l_cell_at := PySem.W.mg_of X G a_l_cell_at,
 f_l_form_by := f_l_form_by, d_l_form_by := _, F_l_form_by := F_l_form_by,
 b_l_form_by := bd_l_form_by F_l_form_by,
 m_l_form_by := PySem.W.mg_of X G a_l_form_by,
 f_l_forms_by := f_l_forms_by, d_l_forms_by := _, F_l_forms_by := F_l_forms_by,
 b_l_forms_by := bd_l_forms_by F_l_forms_by,
 m_l_forms_by := PySem.W.mg_of X G a_l_forms_by,
 f_l_pieces_by := f_l_pieces_by, d_l_pieces_by := _, F_l_pieces_by := F_l_pieces_by,
 b_l_pieces_by := bd_l_pieces_by F_l_pieces_by,
 m_l_pieces_by := PySem.W.mg_of X G a_l_pieces_by,
 f_l_turned := f_l_turned, d_l_turned := _, F_l_turned := F_l_turned,
 b_l_turned := bd_l_turned F_l_turned,
 m_l_turned := PySem.W.mg_of X G a_l_turned,
 f_l_ready := f_l_ready, d_l_ready := _, F_l_ready := F_l_ready,
 b_l_ready := bd_l_ready F_l_ready,
 m_l_ready := PySem.W.mg_of X G a_l_ready,
 f_l_order := f_l_order, d_l_order := _, F_l_order := F_l_order,
 b_l_order := bd_l_order F_l_order,
 m_l_order := PySem.W.mg_of X G a_l_order,
 f_is_name := f_is_name, d_is_name := _, F_is_name := F_is_name,
 b_is_name := bd_is_name F_is_name,
 m_is_name := PySem.W.mg_of X G a_is_name,
 f_Hall_work := f_Hall_work, d_Hall_work := _, F_Hall_work := F_Hall_work,
 b_Hall_work := bd_Hall_work F_Hall_work,
 f_is_whole := f_is_whole, d_is_whole := _, F_is_whole := F_is_whole,
 b_is_whole := bd_is_whole F_is_whole,
 m_is_whole := PySem.W.mg_of X G a_is_whole,
 f_is_from := f_is_from, d_is_from := _, F_is_from := F_is_from,
 b_is_from := bd_is_from F_is_from,
 m_is_from := PySem.W.mg_of X G a_is_from,
 f_need_start := f_need_start, d_need_start := _, F_need_start := F_need_start,
 b_need_start := bd_need_start F_need_start,
 m_need_start := PySem.W.mg_of X G a_need_start,
 f_is_number_below := f_is_number_below, d_is_number_below := _, F_is_number_below := F_is_number_below,
 b_is_number_below := bd_is_number_below F_is_number_below,
 m_is_number_below := PySem.W.mg_of X G a_is_number_below,
 f_Hall_need_work := f_Hall_need_work, d_Hall_need_work := _, F_Hall_need_work := F_Hall_need_work,
 b_Hall_need_work := bd_Hall_need_work F_Hall_need_work,
 f_Hall_lay := f_Hall_lay, d_Hall_lay := _, F_Hall_lay := F_Hall_lay,
 b_Hall_lay := bd_Hall_lay F_Hall_lay,
 f_Hall_belt := f_Hall_belt, d_Hall_belt := _, F_Hall_belt := F_Hall_belt,
 dT_Hall_belt := dT_Hall_belt,
 dk0_Hall_belt := dk0_Hall_belt,
 b_Hall_belt := fun s us X hl => (match us, (show us.length = 6 by simpa using hl) with | [_, _, _, _, _, _], _ => PySem.W.binds_K X rfl t_Hall_belt rfl rfl rfl),
 b1_Hall_belt := fun s us X hl => (match us, (show us.length = 5 by simpa using hl) with | [_, _, _, _, _], _ => PySem.W.binds_K X rfl t_Hall_belt rfl rfl rfl),
 v1_Hall_belt := (.cons ⟨_, rfl⟩ .nil),
 f_Hall_init := f_Hall_init, d_Hall_init := _, F_Hall_init := F_Hall_init,
 b_Hall_init := bd_Hall_init F_Hall_init,
 f_l_made := f_l_made, d_l_made := _, F_l_made := F_l_made,
 b_l_made := bd_l_made F_l_made,
 m_l_made := PySem.W.mg_of X G a_l_made,
 f_l_names := f_l_names, d_l_names := _, F_l_names := F_l_names,
 b_l_names := bd_l_names F_l_names,
 m_l_names := PySem.W.mg_of X G a_l_names,
 f_l_common := f_l_common, d_l_common := _, F_l_common := F_l_common,
 b_l_common := bd_l_common F_l_common,
 m_l_common := PySem.W.mg_of X G a_l_common,
 f_l_belt_by := f_l_belt_by, d_l_belt_by := _, F_l_belt_by := F_l_belt_by,
 b_l_belt_by := bd_l_belt_by F_l_belt_by,
 m_l_belt_by := PySem.W.mg_of X G a_l_belt_by,
 f_enough := f_enough, d_enough := _, F_enough := F_enough,
 b_enough := bd_enough F_enough,
 m_enough := PySem.W.mg_of X G a_enough,
 f_Floor_need_work := f_Floor_need_work, d_Floor_need_work := _, F_Floor_need_work := F_Floor_need_work,
 b_Floor_need_work := bd_Floor_need_work F_Floor_need_work,
 f_Floor_go := f_Floor_go, d_Floor_go := _, F_Floor_go := F_Floor_go,
 b_Floor_go := bd_Floor_go F_Floor_go,
 f_form_value := f_form_value, d_form_value := _, F_form_value := F_form_value,
 b_form_value := bd_form_value F_form_value,
 m_form_value := PySem.W.mg_of X G a_form_value,
 f_Lane_lay_behind := f_Lane_lay_behind, d_Lane_lay_behind := _, F_Lane_lay_behind := F_Lane_lay_behind,
 b_Lane_lay_behind := bd_Lane_lay_behind F_Lane_lay_behind,
 f_Lane_lying := f_Lane_lying, d_Lane_lying := _, F_Lane_lying := F_Lane_lying,
 b_Lane_lying := bd_Lane_lying F_Lane_lying,
 f_Lane_drawn_off := f_Lane_drawn_off, d_Lane_drawn_off := _, F_Lane_drawn_off := F_Lane_drawn_off,
 b_Lane_drawn_off := bd_Lane_drawn_off F_Lane_drawn_off,
 f_Mill_pass_on := f_Mill_pass_on, d_Mill_pass_on := _, F_Mill_pass_on := F_Mill_pass_on,
 b_Mill_pass_on := bd_Mill_pass_on F_Mill_pass_on,
 f_Mill_go := f_Mill_go, d_Mill_go := _, F_Mill_go := F_Mill_go,
 b_Mill_go := bd_Mill_go F_Mill_go,
 f_Mill_lying := f_Mill_lying, d_Mill_lying := _, F_Mill_lying := F_Mill_lying,
 b_Mill_lying := bd_Mill_lying F_Mill_lying,
 f_Mill_turn := f_Mill_turn, d_Mill_turn := _, F_Mill_turn := F_Mill_turn,
 b_Mill_turn := bd_Mill_turn F_Mill_turn,
 f_Hall_leaving := f_Hall_leaving, d_Hall_leaving := _, F_Hall_leaving := F_Hall_leaving,
 b_Hall_leaving := bd_Hall_leaving F_Hall_leaving,
 f_Hall_need_belt := f_Hall_need_belt, d_Hall_need_belt := _, F_Hall_need_belt := F_Hall_need_belt,
 b_Hall_need_belt := bd_Hall_need_belt F_Hall_need_belt,
 f_Hall_belt_at := f_Hall_belt_at, d_Hall_belt_at := _, F_Hall_belt_at := F_Hall_belt_at,
 b_Hall_belt_at := bd_Hall_belt_at F_Hall_belt_at,
 f_gives_of := f_gives_of, d_gives_of := _, F_gives_of := F_gives_of,
 b_gives_of := bd_gives_of F_gives_of,
 m_gives_of := PySem.W.mg_of X G a_gives_of,
 f_given_by := f_given_by, d_given_by := _, F_given_by := F_given_by,
 b_given_by := bd_given_by F_given_by,
 m_given_by := PySem.W.mg_of X G a_given_by,
 f_Hall_entering := f_Hall_entering, d_Hall_entering := _, F_Hall_entering := F_Hall_entering,
 b_Hall_entering := bd_Hall_entering F_Hall_entering,
 f_takes_of := f_takes_of, d_takes_of := _, F_takes_of := F_takes_of,
 b_takes_of := bd_takes_of F_takes_of,
 m_takes_of := PySem.W.mg_of X G a_takes_of,
 f_need_work_forms := f_need_work_forms, d_need_work_forms := _, F_need_work_forms := F_need_work_forms,
 b_need_work_forms := bd_need_work_forms F_need_work_forms,
 m_need_work_forms := PySem.W.mg_of X G a_need_work_forms,
 f_Hall_names := f_Hall_names, d_Hall_names := _, F_Hall_names := F_Hall_names,
 b_Hall_names := bd_Hall_names F_Hall_names,
 f_need_forms := f_need_forms, d_need_forms := _, F_need_forms := F_need_forms,
 b_need_forms := bd_need_forms F_need_forms,
 m_need_forms := PySem.W.mg_of X G a_need_forms,
 f_Hall_belts := f_Hall_belts, d_Hall_belts := _, F_Hall_belts := F_Hall_belts,
 b_Hall_belts := bd_Hall_belts F_Hall_belts,
 f_starts_of := f_starts_of, d_starts_of := _, F_starts_of := F_starts_of,
 b_starts_of := bd_starts_of F_starts_of,
 m_starts_of := PySem.W.mg_of X G a_starts_of,
 f_need_pieces := f_need_pieces, d_need_pieces := _, F_need_pieces := F_need_pieces,
 b_need_pieces := bd_need_pieces F_need_pieces,
 m_need_pieces := PySem.W.mg_of X G a_need_pieces,
 f_Floor_init := f_Floor_init, d_Floor_init := _, F_Floor_init := F_Floor_init,
 b_Floor_init := bd_Floor_init F_Floor_init,
 f_Lane_init := f_Lane_init, d_Lane_init := _, F_Lane_init := F_Lane_init,
 b_Lane_init := bd_Lane_init F_Lane_init,
 f_Mill_init := f_Mill_init, d_Mill_init := _, F_Mill_init := F_Mill_init,
 b_Mill_init := bd_Mill_init F_Mill_init,
 f_law := f_law, d_law := _, F_law := F_law,
 b_law := bd_law F_law,
 m_law := PySem.W.mg_of X G a_law,
 C_Floor := C_Floor, cl_Floor := ⟨pg_Floor, hd_Floor, po_Floor, sa_Floor⟩, g_Floor := PySem.W.mg_of X G a_Floor,
 na_Floor := ⟨fun f hf => (by
 simp only [List.mem_cons, List.not_mem_nil, or_false] at hf
 rcases hf with rfl | rfl | rfl
 · exact na_Floor_takes
 · exact na_Floor_gives
 · exact na_Floor_heaps)⟩,
 M_Floor_need_work := ⟨a_Floor_need_work, i_Floor_need_work, k_Floor_need_work⟩,
 M_Floor_go := ⟨a_Floor_go, i_Floor_go, k_Floor_go⟩,
 mk_Floor := ⟨mk_Floor, a_Floor_init, i_Floor_init, kc_Floor⟩,
 C_Mill := C_Mill, cl_Mill := ⟨pg_Mill, hd_Mill, po_Mill, sa_Mill⟩, g_Mill := PySem.W.mg_of X G a_Mill,
 na_Mill := ⟨fun f hf => (by
 simp only [List.mem_cons, List.not_mem_nil, or_false] at hf
 rcases hf with rfl | rfl | rfl
 · exact na_Mill_floor
 · exact na_Mill_forms
 · exact na_Mill_lanes)⟩,
 M_Mill_pass_on := ⟨a_Mill_pass_on, i_Mill_pass_on, k_Mill_pass_on⟩,
 M_Mill_go := ⟨a_Mill_go, i_Mill_go, k_Mill_go⟩,
 M_Mill_lying := ⟨a_Mill_lying, i_Mill_lying, k_Mill_lying⟩,
 M_Mill_turn := ⟨a_Mill_turn, i_Mill_turn, k_Mill_turn⟩,
 mk_Mill := ⟨mk_Mill, a_Mill_init, i_Mill_init, kc_Mill⟩,
 C_Lane := C_Lane, cl_Lane := ⟨pg_Lane, hd_Lane, po_Lane, sa_Lane⟩, g_Lane := PySem.W.mg_of X G a_Lane,
 na_Lane := ⟨fun f hf => (by
 simp only [List.mem_cons, List.not_mem_nil, or_false] at hf
 rcases hf with rfl | rfl
 · exact na_Lane_laid
 · exact na_Lane_gone)⟩,
 M_Lane_lay_behind := ⟨a_Lane_lay_behind, i_Lane_lay_behind, k_Lane_lay_behind⟩,
 M_Lane_lying := ⟨a_Lane_lying, i_Lane_lying, k_Lane_lying⟩,
 M_Lane_drawn_off := ⟨a_Lane_drawn_off, i_Lane_drawn_off, k_Lane_drawn_off⟩,
 mk_Lane := ⟨mk_Lane, a_Lane_init, i_Lane_init, kc_Lane⟩,
 C_Hall := C_Hall, cl_Hall := ⟨pg_Hall, hd_Hall, po_Hall, sa_Hall⟩, g_Hall := PySem.W.mg_of X G a_Hall,
 na_Hall := ⟨fun f hf => (by
 simp only [List.mem_cons, List.not_mem_nil, or_false] at hf
 rcases hf with rfl | rfl
 · exact na_Hall_numbers
 · exact na_Hall_rows)⟩,
 M_Hall_work := ⟨a_Hall_work, i_Hall_work, k_Hall_work⟩,
 M_Hall_need_work := ⟨a_Hall_need_work, i_Hall_need_work, k_Hall_need_work⟩,
 M_Hall_lay := ⟨a_Hall_lay, i_Hall_lay, k_Hall_lay⟩,
 M_Hall_belt := ⟨a_Hall_belt, i_Hall_belt, k_Hall_belt⟩,
 mk_Hall := ⟨mk_Hall, a_Hall_init, i_Hall_init, kc_Hall⟩,
 M_Hall_leaving := ⟨a_Hall_leaving, i_Hall_leaving, k_Hall_leaving⟩,
 M_Hall_need_belt := ⟨a_Hall_need_belt, i_Hall_need_belt, k_Hall_need_belt⟩,
 M_Hall_belt_at := ⟨a_Hall_belt_at, i_Hall_belt_at, k_Hall_belt_at⟩,
 M_Hall_entering := ⟨a_Hall_entering, i_Hall_entering, k_Hall_entering⟩,
 M_Hall_names := ⟨a_Hall_names, i_Hall_names, k_Hall_names⟩,
 M_Hall_belts := ⟨a_Hall_belts, i_Hall_belts, k_Hall_belts⟩,
 n_all := PySem.W.mg_none_of X G z_all,
 n_bool := PySem.W.mg_none_of X G z_bool,
 n_enumerate := PySem.W.mg_none_of X G z_enumerate,
 n_int := PySem.W.mg_none_of X G z_int,
 n_isinstance := PySem.W.mg_none_of X G z_isinstance,
 n_len := PySem.W.mg_none_of X G z_len,
 n_list := PySem.W.mg_none_of X G z_list,
 n_min := PySem.W.mg_none_of X G z_min,
 n_range := PySem.W.mg_none_of X G z_range,
 n_reversed := PySem.W.mg_none_of X G z_reversed,
 n_str := PySem.W.mg_none_of X G z_str,
 n_sum := PySem.W.mg_none_of X G z_sum,
 n_tuple := PySem.W.mg_none_of X G z_tuple,
 n_zip := PySem.W.mg_none_of X G z_zip,
 X_NoName := X_NoName, gx_NoName := gx_NoName, mx_NoName := PySem.W.mg_of X G gx_NoName, ex_NoName := ex_NoName,
 X_Twice := X_Twice, gx_Twice := gx_Twice, mx_Twice := PySem.W.mg_of X G gx_Twice, ex_Twice := ex_Twice,
 X_TooMuch := X_TooMuch, gx_TooMuch := gx_TooMuch, mx_TooMuch := PySem.W.mg_of X G gx_TooMuch, ex_TooMuch := ex_TooMuch,
 X_NoWork := X_NoWork, gx_NoWork := gx_NoWork, mx_NoWork := PySem.W.mg_of X G gx_NoWork, ex_NoWork := ex_NoWork,
 X_NoBelt := X_NoBelt, gx_NoBelt := gx_NoBelt, mx_NoBelt := PySem.W.mg_of X G gx_NoBelt, ex_NoBelt := ex_NoBelt,
 X_NoRate := X_NoRate, gx_NoRate := gx_NoRate, mx_NoRate := PySem.W.mg_of X G gx_NoRate, ex_NoRate := ex_NoRate,
 X_Empty := X_Empty, gx_Empty := gx_Empty, mx_Empty := PySem.W.mg_of X G gx_Empty, ex_Empty := ex_Empty,
 X_NoForm := X_NoForm, gx_NoForm := gx_NoForm, mx_NoForm := PySem.W.mg_of X G gx_NoForm, ex_NoForm := ex_NoForm,
 X_NoPieces := X_NoPieces, gx_NoPieces := gx_NoPieces, mx_NoPieces := PySem.W.mg_of X G gx_NoPieces, ex_NoPieces := ex_NoPieces,
 tk_MOST_LETTERS := tk_MOST_LETTERS, c_MOST_LETTERS := PySem.W.mg_of X G c_MOST_LETTERS,
 tk_MOST_WORKS := tk_MOST_WORKS, c_MOST_WORKS := PySem.W.mg_of X G c_MOST_WORKS,
 tk_MOST_BELTS := tk_MOST_BELTS, c_MOST_BELTS := PySem.W.mg_of X G c_MOST_BELTS,
 bl_law := fun s v => .of_eq rfl }, trivial⟩
theorem walk {l : PySem.W.OpenLaw} {q : Program} {loose : List Str} {XP : (Str → Option Value) → Heap → Prop} {YP : World → Heap → Prop} {d : DefRec} {K : Params → PySem.W.Frag} (hn : l.most = some 63) (hdf : d.params.defaults = []) (hdn : d.name = "law")
    (hY : ∀ (w : World) (h : Heap), YP w h → (K w.params).In h)
    (F : ∀ (w : World) (mg : Str → Option Value) (h : Heap), (K w.params).In h → h.Ns mainGlobals mg → ∃ T : Tp (K w.params) mg, True) :
    PySem.W.WalkO q loose XP YP l.row.toRowW d [] (fun f vs => PySem.call f vs) := by
  refine L2.walk_of (n := 63) (k := 12) (x := "_law_script") (CX := fun w => CXX l.prog w) (sp := fun w => spLaw (K w.params)) hn (by decide) hdf ⟨rfl, by decide, by decide⟩ hY (fun w mg fa h KX G hmg => ?_) (fun _ _ a ns hl _ hS => ⟨a, ns, rfl, hS, hl, fun _ => rfl⟩) ?_
  · obtain ⟨T, _⟩ := F w mg h KX G
    rw [hdn, T.m_law] at hmg
    cases hmg
    exact ⟨T.d_law, T.bl_law, fun base _ _ => ok_law T⟩
  · intro w H s e s' z
    obtain ⟨_, _, _, _, _, _, _, _, _, _, _, _, z⟩ := z
    exact z
end Nm
def PySem.W.Fast.tw3366164181401511005 : Nat := 0
def PySem.W.Fast.tw5528052847280389652 : Nat := 0
def PySem.W.Fast.tw4405724988942139533 : Nat := 0
def PySem.W.Fast.tw11200426781715530892 : Nat := 0
def PySem.W.Fast.tw1798790891564175968 : Nat := 0
def PySem.W.Fast.tw12940179816468983163 : Nat := 0
def PySem.W.Fast.tw14736513394514257561 : Nat := 0
def PySem.W.Fast.tw734905478040008266 : Nat := 0
def PySem.W.Fast.tw954402634383060553 : Nat := 0
def PySem.W.Fast.tw5962335350125713486 : Nat := 0
def PySem.W.Fast.tw6123544655623982605 : Nat := 0
def PySem.W.Fast.tw12625780163840747228 : Nat := 0
def PySem.W.Fast.tw12741794192548534075 : Nat := 0
def PySem.W.Fast.tw1698507818207575987 : Nat := 0
def PySem.W.Fast.tw2993875631620747448 : Nat := 0
def PySem.W.Fast.tw14853997496693803799 : Nat := 0
def PySem.W.Fast.tw16532504455859784436 : Nat := 0
def PySem.W.Fast.tw5259976196044869746 : Nat := 0
def PySem.W.Fast.tw8636797758288646821 : Nat := 0
def PySem.W.Fast.tw7850603127202755689 : Nat := 0
def PySem.W.Fast.tw10979102496988600354 : Nat := 0
def PySem.W.Fast.tw184095300187003634 : Nat := 0
def PySem.W.Fast.tw491775433154433316 : Nat := 0
def PySem.W.Fast.tw11495354219421762984 : Nat := 0
def PySem.W.Fast.tw17013104088340037334 : Nat := 0
def PySem.W.Fast.tw9586421051354222963 : Nat := 0
def PySem.W.Fast.tw611294327092879638 : Nat := 0
def PySem.W.Fast.tw16731175419952466803 : Nat := 0
def PySem.W.Fast.tw12964916314732615106 : Nat := 0
def PySem.W.Fast.tw9561209679503319211 : Nat := 0
def PySem.W.Fast.tw4048944652603571872 : Nat := 0
def PySem.W.Fast.tw9333899759158374797 : Nat := 0
def PySem.W.Fast.tw9304726845043968037 : Nat := 0
def PySem.W.Fast.tw16835041391644268592 : Nat := 0
def PySem.W.Fast.tw7585855382479418491 : Nat := 0
def PySem.W.Fast.tw5077440255727508687 : Nat := 0
def PySem.W.Fast.tw15408535324033695789 : Nat := 0
open PySem PySem.W PyProof.Rows
set_option maxRecDepth 100000 in
set_option maxHeartbeats 0 in
theorem PySem.Challenge.cw_ratehall_k36_whole_any_order_same_pieces_holds : PySem.Challenge.rw_ratehall_k36_whole_any_order_same_pieces.Holds := by
  w_on; o_law; k_head; (case hw => w_witness2)
  k_fill
  refine Nm.walk (l := PySem.Challenge.rw_ratehall_k36_whole_any_order_same_pieces) rfl rfl rfl (fun w h Y => PySem.W.kIn_of Y) ?F
  case F =>
    intro w mg h KX G
    refine' Nm.tp_mk KX G ?a_Floor ?a_Mill ?a_Lane ?a_Hall ?a_l_cell_at ?l_l_cell_at ?c_l_cell_at ?k_l_cell_at ?a_l_form_by ?l_l_form_by ?c_l_form_by ?k_l_form_by ?a_l_forms_by ?l_l_forms_by ?c_l_forms_by ?k_l_forms_by ?a_l_pieces_by ?l_l_pieces_by ?c_l_pieces_by ?k_l_pieces_by ?a_l_turned ?l_l_turned ?c_l_turned ?k_l_turned ?a_l_ready ?l_l_ready ?c_l_ready ?k_l_ready ?a_l_order ?l_l_order ?c_l_order ?k_l_order ?a_is_name ?l_is_name ?c_is_name ?k_is_name ?a_Hall_work ?i_Hall_work ?l_Hall_work ?c_Hall_work ?k_Hall_work ?a_is_whole ?l_is_whole ?c_is_whole ?k_is_whole ?a_is_from ?l_is_from ?c_is_from ?k_is_from ?a_need_start ?l_need_start ?c_need_start ?k_need_start ?a_is_number_below ?l_is_number_below ?c_is_number_below ?k_is_number_below ?a_Hall_need_work ?i_Hall_need_work ?l_Hall_need_work ?c_Hall_need_work ?k_Hall_need_work ?a_Hall_lay ?i_Hall_lay ?l_Hall_lay ?c_Hall_lay ?k_Hall_lay ?a_Hall_belt ?i_Hall_belt ?l_Hall_belt ?t_Hall_belt ?c_Hall_belt ?k_Hall_belt ?a_Hall_init ?i_Hall_init ?l_Hall_init ?c_Hall_init ?k_Hall_init ?a_l_made ?l_l_made ?c_l_made ?k_l_made ?a_l_names ?l_l_names ?c_l_names ?k_l_names ?a_l_common ?l_l_common ?c_l_common ?k_l_common ?a_l_belt_by ?l_l_belt_by ?c_l_belt_by ?k_l_belt_by ?a_enough ?l_enough ?c_enough ?k_enough ?a_Floor_need_work ?i_Floor_need_work ?l_Floor_need_work ?c_Floor_need_work ?k_Floor_need_work ?a_Floor_go ?i_Floor_go ?l_Floor_go ?c_Floor_go ?k_Floor_go ?a_form_value ?l_form_value ?c_form_value ?k_form_value ?a_Lane_lay_behind ?i_Lane_lay_behind ?l_Lane_lay_behind ?c_Lane_lay_behind ?k_Lane_lay_behind ?a_Lane_lying ?i_Lane_lying ?l_Lane_lying ?c_Lane_lying ?k_Lane_lying ?a_Lane_drawn_off ?i_Lane_drawn_off ?l_Lane_drawn_off ?c_Lane_drawn_off ?k_Lane_drawn_off ?a_Mill_pass_on ?i_Mill_pass_on ?l_Mill_pass_on ?c_Mill_pass_on ?k_Mill_pass_on ?a_Mill_go ?i_Mill_go ?l_Mill_go ?c_Mill_go ?k_Mill_go ?a_Mill_lying ?i_Mill_lying ?l_Mill_lying ?c_Mill_lying ?k_Mill_lying ?a_Mill_turn ?i_Mill_turn ?l_Mill_turn ?c_Mill_turn ?k_Mill_turn ?a_Hall_leaving ?i_Hall_leaving ?l_Hall_leaving ?c_Hall_leaving ?k_Hall_leaving ?a_Hall_need_belt ?i_Hall_need_belt ?l_Hall_need_belt ?c_Hall_need_belt ?k_Hall_need_belt ?a_Hall_belt_at ?i_Hall_belt_at ?l_Hall_belt_at ?c_Hall_belt_at ?k_Hall_belt_at ?a_gives_of ?l_gives_of ?c_gives_of ?k_gives_of ?a_given_by ?l_given_by ?c_given_by ?k_given_by ?a_Hall_entering ?i_Hall_entering ?l_Hall_entering ?c_Hall_entering ?k_Hall_entering ?a_takes_of ?l_takes_of ?c_takes_of ?k_takes_of ?a_need_work_forms ?l_need_work_forms ?c_need_work_forms ?k_need_work_forms ?a_Hall_names ?i_Hall_names ?l_Hall_names ?c_Hall_names ?k_Hall_names ?a_need_forms ?l_need_forms ?c_need_forms ?k_need_forms ?a_Hall_belts ?i_Hall_belts ?l_Hall_belts ?c_Hall_belts ?k_Hall_belts ?a_starts_of ?l_starts_of ?c_starts_of ?k_starts_of ?a_need_pieces ?l_need_pieces ?c_need_pieces ?k_need_pieces ?a_Floor_init ?i_Floor_init ?l_Floor_init ?c_Floor_init ?k_Floor_init ?a_Lane_init ?i_Lane_init ?l_Lane_init ?c_Lane_init ?k_Lane_init ?a_Mill_init ?i_Mill_init ?l_Mill_init ?c_Mill_init ?k_Mill_init ?a_law ?l_law ?c_law ?k_law ?pg_Floor ?hd_Floor ?po_Floor ?sa_Floor ?mk_Floor ?kc_Floor ?na_Floor_takes ?na_Floor_gives ?na_Floor_heaps ?pg_Mill ?hd_Mill ?po_Mill ?sa_Mill ?mk_Mill ?kc_Mill ?na_Mill_floor ?na_Mill_forms ?na_Mill_lanes ?pg_Lane ?hd_Lane ?po_Lane ?sa_Lane ?mk_Lane ?kc_Lane ?na_Lane_laid ?na_Lane_gone ?pg_Hall ?hd_Hall ?po_Hall ?sa_Hall ?mk_Hall ?kc_Hall ?na_Hall_numbers ?na_Hall_rows ?gx_NoName ?ex_NoName ?gx_Twice ?ex_Twice ?gx_TooMuch ?ex_TooMuch ?gx_NoWork ?ex_NoWork ?gx_NoBelt ?ex_NoBelt ?gx_NoRate ?ex_NoRate ?gx_Empty ?ex_Empty ?gx_NoForm ?ex_NoForm ?gx_NoPieces ?ex_NoPieces ?c_MOST_LETTERS ?c_MOST_WORKS ?c_MOST_BELTS ?z_all ?z_bool ?z_enumerate ?z_int ?z_isinstance ?z_len ?z_list ?z_min ?z_range ?z_reversed ?z_str ?z_sum ?z_tuple ?z_zip
    (case a_Floor => k_is)
    (case a_Mill => k_is)
    (case a_Lane => k_is)
    (case a_Hall => k_is)
    (case a_l_cell_at => k_is)
    (case l_l_cell_at => k_is)
    (case c_l_cell_at => k_is)
    (case k_l_cell_at => k_is)
    (case a_l_form_by => k_is)
    (case l_l_form_by => k_is)
    (case c_l_form_by => k_is)
    (case k_l_form_by => k_is)
    (case a_l_forms_by => k_is)
    (case l_l_forms_by => k_is)
    (case c_l_forms_by => k_is)
    (case k_l_forms_by => k_is)
    (case a_l_pieces_by => k_is)
    (case l_l_pieces_by => k_is)
    (case c_l_pieces_by => k_is)
    (case k_l_pieces_by => k_is)
    (case a_l_turned => k_is)
    (case l_l_turned => k_is)
    (case c_l_turned => k_is)
    (case k_l_turned => k_is)
    (case a_l_ready => k_is)
    (case l_l_ready => k_is)
    (case c_l_ready => k_is)
    (case k_l_ready => k_is)
    (case a_l_order => k_is)
    (case l_l_order => k_is)
    (case c_l_order => k_is)
    (case k_l_order => k_is)
    (case a_is_name => k_is)
    (case l_is_name => k_is)
    (case c_is_name => k_is)
    (case k_is_name => k_is)
    (case a_Hall_work => k_is)
    (case i_Hall_work => k_is)
    (case l_Hall_work => k_is)
    (case c_Hall_work => k_is)
    (case k_Hall_work => k_is)
    (case a_is_whole => k_is)
    (case l_is_whole => k_is)
    (case c_is_whole => k_is)
    (case k_is_whole => k_is)
    (case a_is_from => k_is)
    (case l_is_from => k_is)
    (case c_is_from => k_is)
    (case k_is_from => k_is)
    (case a_need_start => k_is)
    (case l_need_start => k_is)
    (case c_need_start => k_is)
    (case k_need_start => k_is)
    (case a_is_number_below => k_is)
    (case l_is_number_below => k_is)
    (case c_is_number_below => k_is)
    (case k_is_number_below => k_is)
    (case a_Hall_need_work => k_is)
    (case i_Hall_need_work => k_is)
    (case l_Hall_need_work => k_is)
    (case c_Hall_need_work => k_is)
    (case k_Hall_need_work => k_is)
    (case a_Hall_lay => k_is)
    (case i_Hall_lay => k_is)
    (case l_Hall_lay => k_is)
    (case c_Hall_lay => k_is)
    (case k_Hall_lay => k_is)
    (case a_Hall_belt => k_is)
    (case i_Hall_belt => k_is)
    (case l_Hall_belt => k_is)
    (case t_Hall_belt => k_is)
    (case c_Hall_belt => k_is)
    (case k_Hall_belt => k_is)
    (case a_Hall_init => k_is)
    (case i_Hall_init => k_is)
    (case l_Hall_init => k_is)
    (case c_Hall_init => k_is)
    (case k_Hall_init => k_is)
    (case a_l_made => k_is)
    (case l_l_made => k_is)
    (case c_l_made => k_is)
    (case k_l_made => k_is)
    (case a_l_names => k_is)
    (case l_l_names => k_is)
    (case c_l_names => k_is)
    (case k_l_names => k_is)
    (case a_l_common => k_is)
    (case l_l_common => k_is)
    (case c_l_common => k_is)
    (case k_l_common => k_is)
    (case a_l_belt_by => k_is)
    (case l_l_belt_by => k_is)
    (case c_l_belt_by => k_is)
    (case k_l_belt_by => k_is)
    (case a_enough => k_is)
    (case l_enough => k_is)
    (case c_enough => k_is)
    (case k_enough => k_is)
    (case a_Floor_need_work => k_is)
    (case i_Floor_need_work => k_is)
    (case l_Floor_need_work => k_is)
    (case c_Floor_need_work => k_is)
    (case k_Floor_need_work => k_is)
    (case a_Floor_go => k_is)
    (case i_Floor_go => k_is)
    (case l_Floor_go => k_is)
    (case c_Floor_go => k_is)
    (case k_Floor_go => k_is)
    (case a_form_value => k_is)
    (case l_form_value => k_is)
    (case c_form_value => k_is)
    (case k_form_value => k_is)
    (case a_Lane_lay_behind => k_is)
    (case i_Lane_lay_behind => k_is)
    (case l_Lane_lay_behind => k_is)
    (case c_Lane_lay_behind => k_is)
    (case k_Lane_lay_behind => k_is)
    (case a_Lane_lying => k_is)
    (case i_Lane_lying => k_is)
    (case l_Lane_lying => k_is)
    (case c_Lane_lying => k_is)
    (case k_Lane_lying => k_is)
    (case a_Lane_drawn_off => k_is)
    (case i_Lane_drawn_off => k_is)
    (case l_Lane_drawn_off => k_is)
    (case c_Lane_drawn_off => k_is)
    (case k_Lane_drawn_off => k_is)
    (case a_Mill_pass_on => k_is)
    (case i_Mill_pass_on => k_is)
    (case l_Mill_pass_on => k_is)
    (case c_Mill_pass_on => k_is)
    (case k_Mill_pass_on => k_is)
    (case a_Mill_go => k_is)
    (case i_Mill_go => k_is)
    (case l_Mill_go => k_is)
    (case c_Mill_go => k_is)
    (case k_Mill_go => k_is)
    (case a_Mill_lying => k_is)
    (case i_Mill_lying => k_is)
    (case l_Mill_lying => k_is)
    (case c_Mill_lying => k_is)
    (case k_Mill_lying => k_is)
    (case a_Mill_turn => k_is)
    (case i_Mill_turn => k_is)
    (case l_Mill_turn => k_is)
    (case c_Mill_turn => k_is)
    (case k_Mill_turn => k_is)
    (case a_Hall_leaving => k_is)
    (case i_Hall_leaving => k_is)
    (case l_Hall_leaving => k_is)
    (case c_Hall_leaving => k_is)
    (case k_Hall_leaving => k_is)
    (case a_Hall_need_belt => k_is)
    (case i_Hall_need_belt => k_is)
    (case l_Hall_need_belt => k_is)
    (case c_Hall_need_belt => k_is)
    (case k_Hall_need_belt => k_is)
    (case a_Hall_belt_at => k_is)
    (case i_Hall_belt_at => k_is)
    (case l_Hall_belt_at => k_is)
    (case c_Hall_belt_at => k_is)
    (case k_Hall_belt_at => k_is)
    (case a_gives_of => k_is)
    (case l_gives_of => k_is)
    (case c_gives_of => k_is)
    (case k_gives_of => k_is)
    (case a_given_by => k_is)
    (case l_given_by => k_is)
    (case c_given_by => k_is)
    (case k_given_by => k_is)
    (case a_Hall_entering => k_is)
    (case i_Hall_entering => k_is)
    (case l_Hall_entering => k_is)
    (case c_Hall_entering => k_is)
    (case k_Hall_entering => k_is)
    (case a_takes_of => k_is)
    (case l_takes_of => k_is)
    (case c_takes_of => k_is)
    (case k_takes_of => k_is)
    (case a_need_work_forms => k_is)
    (case l_need_work_forms => k_is)
    (case c_need_work_forms => k_is)
    (case k_need_work_forms => k_is)
    (case a_Hall_names => k_is)
    (case i_Hall_names => k_is)
    (case l_Hall_names => k_is)
    (case c_Hall_names => k_is)
    (case k_Hall_names => k_is)
    (case a_need_forms => k_is)
    (case l_need_forms => k_is)
    (case c_need_forms => k_is)
    (case k_need_forms => k_is)
    (case a_Hall_belts => k_is)
    (case i_Hall_belts => k_is)
    (case l_Hall_belts => k_is)
    (case c_Hall_belts => k_is)
    (case k_Hall_belts => k_is)
    (case a_starts_of => k_is)
    (case l_starts_of => k_is)
    (case c_starts_of => k_is)
    (case k_starts_of => k_is)
    (case a_need_pieces => k_is)
    (case l_need_pieces => k_is)
    (case c_need_pieces => k_is)
    (case k_need_pieces => k_is)
    (case a_Floor_init => k_is)
    (case i_Floor_init => k_is)
    (case l_Floor_init => k_is)
    (case c_Floor_init => k_is)
    (case k_Floor_init => k_is)
    (case a_Lane_init => k_is)
    (case i_Lane_init => k_is)
    (case l_Lane_init => k_is)
    (case c_Lane_init => k_is)
    (case k_Lane_init => k_is)
    (case a_Mill_init => k_is)
    (case i_Mill_init => k_is)
    (case l_Mill_init => k_is)
    (case c_Mill_init => k_is)
    (case k_Mill_init => k_is)
    (case a_law => k_is)
    (case l_law => k_is)
    (case c_law => k_is)
    (case k_law => k_is)
    (case pg_Floor => k_is)
    (case hd_Floor => k_is)
    (case po_Floor => k_is)
    (case sa_Floor => k_is)
    (case mk_Floor => k_is)
    (case kc_Floor => k_is)
    (case na_Floor_takes => k_is)
    (case na_Floor_gives => k_is)
    (case na_Floor_heaps => k_is)
    (case pg_Mill => k_is)
    (case hd_Mill => k_is)
    (case po_Mill => k_is)
    (case sa_Mill => k_is)
    (case mk_Mill => k_is)
    (case kc_Mill => k_is)
    (case na_Mill_floor => k_is)
    (case na_Mill_forms => k_is)
    (case na_Mill_lanes => k_is)
    (case pg_Lane => k_is)
    (case hd_Lane => k_is)
    (case po_Lane => k_is)
    (case sa_Lane => k_is)
    (case mk_Lane => k_is)
    (case kc_Lane => k_is)
    (case na_Lane_laid => k_is)
    (case na_Lane_gone => k_is)
    (case pg_Hall => k_is)
    (case hd_Hall => k_is)
    (case po_Hall => k_is)
    (case sa_Hall => k_is)
    (case mk_Hall => k_is)
    (case kc_Hall => k_is)
    (case na_Hall_numbers => k_is)
    (case na_Hall_rows => k_is)
    (case gx_NoName => k_is)
    (case ex_NoName => k_exc)
    (case gx_Twice => k_is)
    (case ex_Twice => k_exc)
    (case gx_TooMuch => k_is)
    (case ex_TooMuch => k_exc)
    (case gx_NoWork => k_is)
    (case ex_NoWork => k_exc)
    (case gx_NoBelt => k_is)
    (case ex_NoBelt => k_exc)
    (case gx_NoRate => k_is)
    (case ex_NoRate => k_exc)
    (case gx_Empty => k_is)
    (case ex_Empty => k_exc)
    (case gx_NoForm => k_is)
    (case ex_NoForm => k_exc)
    (case gx_NoPieces => k_is)
    (case ex_NoPieces => k_exc)
    (case c_MOST_LETTERS => k_is)
    (case c_MOST_WORKS => k_is)
    (case c_MOST_BELTS => k_is)
    (case z_all => k_is)
    (case z_bool => k_is)
    (case z_enumerate => k_is)
    (case z_int => k_is)
    (case z_isinstance => k_is)
    (case z_len => k_is)
    (case z_list => k_is)
    (case z_min => k_is)
    (case z_range => k_is)
    (case z_reversed => k_is)
    (case z_str => k_is)
    (case z_sum => k_is)
    (case z_tuple => k_is)
    (case z_zip => k_is)
#print axioms PySem.Challenge.cw_ratehall_k36_whole_any_order_same_pieces_holds
