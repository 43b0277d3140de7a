import PyProof.Rows.All
import Wide.All
import OpenK.AllK
import Wide.FinOn
import Lean
import PyProof.EqAt
import PyProof.EqKinds
import PyProof.TupleCall
import PySem.Challenge.RW_ratehall_k17_peaks
set_option maxHeartbeats 4000000
set_option Elab.async false
set_option linter.all false
set_option maxRecDepth 100000
namespace L2
open PySem PySem.Spec PyProof.Rows
abbrev Key := Sum Int Str
def keyIs : Key → Value → Bool
  | .inl k, v => Value.isInt k v
  | .inr x, v => Value.isStrOf x v
def keyH (w : World) : Key → Int
  | .inl k => hashInt k
  | .inr x => hashStr w x
theorem keyIs_shape : ∀ {k : Key} {v : Value}, keyIs k v = true → (∃ i t, k = Sum.inl i ∧ v = Value.int i t) ∨ (∃ x t, k = Sum.inr x ∧ v = Value.str x t)
  | .inl i, v, h => by
    obtain ⟨t, e⟩ := Value.isInt_shape (k := i) (v := v) h
    exact .inl ⟨i, t, rfl, e⟩
  | .inr x, v, h => by
    obtain ⟨t, e⟩ := Value.isStrOf_shape (x := x) (v := v) h
    exact .inr ⟨x, t, rfl, e⟩
theorem keyIs_int (i : Int) (t : Tok) : keyIs (.inl i) (.int i t) = true := by simp [keyIs, Value.isInt]
theorem keyIs_str (x : Str) (t : Tok) : keyIs (.inr x) (.str x t) = true := by simp [keyIs, Value.isStrOf]
theorem key_ll (a b : Int) : decide ((Sum.inl a : Key) = Sum.inl b) = (a == b) := by
  by_cases e : a = b
  · subst e; simp
  · have h : ¬ (Sum.inl a : Key) = Sum.inl b := fun q => e (Sum.inl.inj q)
    rw [decide_eq_false h]
    exact (beq_eq_false_iff_ne.mpr e).symm
theorem key_rr (a b : Str) : decide ((Sum.inr a : Key) = Sum.inr b) = decide (a = b) := by
  by_cases e : a = b
  · subst e; simp
  · have h : ¬ (Sum.inr a : Key) = Sum.inr b := fun q => e (Sum.inr.inj q)
    rw [decide_eq_false h, decide_eq_false e]
theorem key_lr (a : Int) (b : Str) : decide ((Sum.inl a : Key) = Sum.inr b) = false := decide_eq_false (fun q => nomatch q)
theorem key_rl (a : Str) (b : Int) : decide ((Sum.inr a : Key) = Sum.inl b) = false := decide_eq_false (fun q => nomatch q)
def mixKind (prog : Program) (w : World) : PySem.KeyKind prog w Key where
  is := keyIs
  hash := keyH w
  inj := fun v a b ha hb => by
    rcases keyIs_shape ha with ⟨i, t, rfl, rfl⟩ | ⟨x, t, rfl, rfl⟩
    · rcases keyIs_shape hb with ⟨j, u, rfl, e⟩ | ⟨y, u, rfl, e⟩
      · injection e with e1 _; rw [e1]
      · exact nomatch e
    · rcases keyIs_shape hb with ⟨j, u, rfl, e⟩ | ⟨y, u, rfl, e⟩
      · exact nomatch e
      · injection e with e1 _; rw [e1]
  byValue := fun k v h => by
    rcases keyIs_shape h with ⟨i, t, rfl, rfl⟩ | ⟨x, t, rfl, rfl⟩ <;> rfl
  pyHash := fun hv h => by
    rcases keyIs_shape hv with ⟨i, t, rfl, rfl⟩ | ⟨x, t, rfl, rfl⟩
    · exact wpAny_pyHash_int h
    · exact wpAny_pyHash_str h
  eqBool := fun hu hv h => by
    rcases keyIs_shape hu with ⟨i, t, rfl, rfl⟩ | ⟨x, t, rfl, rfl⟩
    · rcases keyIs_shape hv with ⟨j, u, rfl, rfl⟩ | ⟨y, u, rfl, rfl⟩
      · rw [key_ll] at h; exact wpAny_eqBool_int h
      · rw [key_lr] at h; exact SeqAt.EqAt.int_str i t y u _ _ _ _ h
    · rcases keyIs_shape hv with ⟨j, u, rfl, rfl⟩ | ⟨y, u, rfl, rfl⟩
      · rw [key_rl] at h; exact SeqAt.EqAt.str_int x t j u _ _ _ _ h
      · rw [key_rr] at h; exact wpAny_eqBool_str h
  «strs» := fun k x t v h => by
    rcases keyIs_shape h with ⟨i, u, rfl, e⟩ | ⟨y, u, rfl, e⟩
    · exact nomatch e
    · injection e with e1 _
      subst e1
      cases v <;> rfl
theorem mixKind_int (prog : Program) (w : World) (i : Int) (t : Tok) : (mixKind prog w).is (.inl i) (.int i t) = true := keyIs_int i t
theorem mixKind_str (prog : Program) (w : World) (x : Str) (t : Tok) : (mixKind prog w).is (.inr x) (.str x t) = true := keyIs_str x t
end L2
namespace L2
open PySem PySem.Spec PyProof.Rows
inductive V where
  | non | bl (b : Bool) | int (i : Int) | str (x : Str) | byt (b : Array UInt8) | flt (b : UInt64) | ref (a : Addr) | ty (n : String)
  deriving DecidableEq
def RelV : V → Value → Prop
  | .non, u => u = Value.none
  | .bl b, u => u = Value.bool b
  | .int i, u => ∃ t, u = Value.int i t
  | .str x, u => ∃ t, u = Value.str x t
  | .byt b, u => ∃ t, u = Value.bytes b t
  | .flt b, u => ∃ t, u = Value.float b t
  | .ref a, u => u = Value.ref a
  | .ty n, u => u = Value.type n
abbrev Vals : List V → List Value → Prop := Paired RelV
theorem Vals.length {xs : List V} {us : List Value} (r : Vals xs us) : xs.length = us.length := Paired.length r
theorem Vals.get : ∀ {xs : List V} {us : List Value} {i : Nat} {x : V}, Vals xs us → xs[i]? = some x → ∃ u, us[i]? = some u ∧ RelV x u
  | _, _, _, _, .nil, e => by simp at e
  | _, _, 0, _, .cons r _, e => by simp at e; subst e; exact ⟨_, rfl, r⟩
  | _, _, i + 1, x, .cons _ t, e => by
    obtain ⟨u, h1, h2⟩ := Vals.get (i := i) (x := x) t (by simpa using e)
    exact ⟨u, by simpa using h1, h2⟩
theorem Vals.set {x : V} {u : Value} (r : RelV x u) : ∀ {xs : List V} {us : List Value} (i : Nat), Vals xs us → Vals (xs.set i x) (us.set i u)
  | _, _, _, .nil => .nil
  | _, _, 0, .cons _ t => .cons r t
  | _, _, i + 1, .cons q t => .cons q (Vals.set r i t)
theorem Vals.append : ∀ {xs ys : List V} {us ws : List Value}, Vals xs us → Vals ys ws → Vals (xs ++ ys) (us ++ ws)
  | _, _, _, _, .nil, s => s
  | _, _, _, _, .cons r t, s => .cons r (Vals.append t s)
theorem Vals.take : ∀ {xs : List V} {us : List Value} (n : Nat), Vals xs us → Vals (xs.take n) (us.take n)
  | _, _, 0, _ => .nil
  | _, _, _ + 1, .nil => .nil
  | _, _, n + 1, .cons r t => .cons r (Vals.take n t)
theorem Vals.drop : ∀ {xs : List V} {us : List Value} (n : Nat), Vals xs us → Vals (xs.drop n) (us.drop n)
  | _, _, 0, r => r
  | _, _, _ + 1, .nil => .nil
  | _, _, n + 1, .cons _ t => Vals.drop n t
def RelO : Option V → Option Value → Prop
  | some v, some u => RelV v u
  | none, none => True
  | _, _ => False
def KV {κ : Type} : List (κ × V) → List (κ × Value) → Prop := Paired fun (p : κ × V) (q : κ × Value) => p.1 = q.1 ∧ RelV p.2 q.2
def kV : Key → V
  | .inl i => .int i
  | .inr x => .str x
inductive HO where
  | lst (xs : List V)
  | tup (xs : List V)
  | dK (kvs : List (Key × V)) | dT (kvs : List (List Key × V))
  | set (S : Int → Bool) (n : Nat)
  | ins (C dx : Addr) (fs : List (Str × V))
  | own (x : Addr)
  | xd (fs : List (Str × V))
  | met (f x : Addr)
  | rng (lo hi : Int)
  | frz (o : Obj) (u : HO)
  | tbl (ps : Array Value)
  | ext (φ : Heap → Prop)
abbrev Hp := Addr → Option HO
def upd (H : Hp) (a : Addr) (o : HO) : Hp := fun b => if b = a then some o else H b
theorem upd_same {H : Hp} {a : Addr} {o : HO} : upd H a o a = some o := by unfold upd; rw [if_pos rfl]
theorem upd_ne {H : Hp} {a b : Addr} {o : HO} (h : b ≠ a) : upd H a o b = H b := by unfold upd; rw [if_neg h]
theorem ne_of {H : Hp} {a b : Addr} {o u : HO} (h : H a = some o) (h' : H b = some u) (d : o ≠ u) : a ≠ b := by
  intro e; subst e; rw [h] at h'; exact d (Option.some.inj h')
theorem ne_of_none {H : Hp} {a b : Addr} {o : HO} (h : H a = some o) (h' : H b = none) : a ≠ b := by
  intro e; subst e; rw [h] at h'; cases h'
section
variable (P : Program) (w : World)
def ObjOk (H : Hp) (h : Heap) (a : Addr) : HO → Prop
  | .lst xs => xs.length ≤ sizeLine ∧ ∃ (its : List Value) (n : Nat), Vals xs its ∧ h.get? a = some { cls := .type "list", data := .seq its.toArray n }
  | .tup xs => xs.length ≤ sizeLine ∧ ∃ its : List Value, Vals xs its ∧ IsTup h a its.toArray
  | .dK kvs => kvs.length ≤ sizeLine ∧ (a == sysModules) = false ∧ ∃ vs, KV kvs vs ∧ h.DictOf (mixKind P w) a vs
  | .dT kvs => kvs.length ≤ sizeLine ∧ (a == sysModules) = false ∧ ∃ xs : List (List Key × Addr × Value),
      Paired (fun (p : List Key × V) (q : List Key × Addr × Value) => p.1 = q.1 ∧ H q.2.1 = some (.tup (p.1.map kV)) ∧ RelV p.2 q.2.2) kvs xs ∧
      ∃ o es ep, h.get? a = some o ∧ o.ExactDict ∧ o.data = .dict es ep ∧ es.toList = xs.map (entryOfKey (tupleKind (mixKind P w))) ∧ (xs.map (·.1)).Nodup
  | .set S n => h.SetOf (intKind P w) a S n
  | .ins C dx fs => H dx = some (.own a) ∧ fs.length ≤ 1000 ∧ dx ≠ a ∧ h.get? a = some (PySem.W.instObj C dx) ∧
      ∃ mA, h.Ns1 dx mA ∧ (∀ f, RelO (fs.lookup f) (mA f)) ∧ PySem.Within mA (fs.map (·.1))
  | .own _ => ∃ o, h.get? a = some o
  | .xd fs => ∃ mA, h.Ns1 a mA ∧ ∀ f, RelO (fs.lookup f) (mA f)
  | .rng lo hi => ∃ t u v, h.get? a = some { cls := .type "range", data := .fields #[.int lo t, .int hi u, .int 1 v] }
  | .frz o u => h.get? a = some o ∧ ObjOk H h a u
  | .tbl ps => h.get? a = some { cls := .none, data := .fields ps }
  | .met f x => h.get? a = some (PySem.W.methodObj (.ref f) (.ref x))
  | .ext φ => φ h ∧ (∃ o, h.get? a = some o) ∧ ∀ h1 h2 : Heap, φ h1 → (∀ o, h1.get? a = some o → h2.get? a = some o) → φ h2
def HOk (H : Hp) (h : Heap) : Prop := ∀ a o, H a = some o → ObjOk P w H h a o
end
section
variable {P : Program} {w : World} {H H' : Hp} {h h' : Heap} {a : Addr} {o : HO}
theorem ObjOk.lt (x : ObjOk P w H h a o) : a < h.objs.size := by
  cases o with
  | lst xs => obtain ⟨_, _, _, _, e⟩ := x; exact Heap.lt_size e
  | tup xs => obtain ⟨_, _, _, p⟩ := x; exact p.lt
  | dK kvs => obtain ⟨_, _, _, _, o, _, _, e, _⟩ := x; exact Heap.lt_size e
  | dT kvs => obtain ⟨_, _, _, _, o, _, _, e, _⟩ := x; exact Heap.lt_size e
  | set S n => obtain ⟨o, _, _, _, e, _⟩ := x; exact Heap.lt_size e
  | ins C dx fs => obtain ⟨_, _, _, e, _⟩ := x; exact Heap.lt_size e
  | own y => obtain ⟨_, e⟩ := x; exact Heap.lt_size e
  | xd fs => obtain ⟨_, ⟨_, _, _, e, _⟩, _⟩ := x; exact Heap.lt_size e
  | rng lo hi => obtain ⟨_, _, _, e⟩ := x; exact Heap.lt_size e
  | frz ob u => obtain ⟨e, _⟩ := x; exact Heap.lt_size e
  | tbl ps => exact Heap.lt_size (show h.get? a = some _ from x)
  | met f y => exact Heap.lt_size (show h.get? a = some _ from x)
  | ext φ => obtain ⟨_, ⟨_, e⟩, _⟩ := x; exact Heap.lt_size e
theorem Paired.mapP {α β : Type} {F G : α → β → Prop} : ∀ {l₁ : List α} {l₂ : List β}, Paired F l₁ l₂ → (∀ a b, F a b → G a b) → Paired G l₁ l₂
  | _, _, .nil, _ => .nil
  | _, _, .cons r t, f => .cons (f _ _ r) (Paired.mapP t f)
theorem ObjOk.stay (x : ObjOk P w H h a o) (k : ∀ b u, (b = a ∨ H b = some (.own a)) → h.get? b = some u → h'.get? b = some u)
    (ho : ∀ b, H b = some (.own a) → H' b = some (.own a)) (ht : ∀ b xs, H b = some (.tup xs) → H' b = some (.tup xs)) : ObjOk P w H' h' a o := by
  induction o with
  | lst xs => obtain ⟨z, its, n, r, e⟩ := x; exact ⟨z, its, n, r, k _ _ (.inl rfl) e⟩
  | tup xs => obtain ⟨z, its, r, ob, e, c⟩ := x; exact ⟨z, its, r, ob, k _ _ (.inl rfl) e, c⟩
  | dK kvs => obtain ⟨z, y, vs, r, ob, es, ep, e, c⟩ := x; exact ⟨z, y, vs, r, ob, es, ep, k _ _ (.inl rfl) e, c⟩
  | dT kvs =>
    obtain ⟨z, y, xs, r, ob, es, ep, e, c⟩ := x
    exact ⟨z, y, xs, Paired.mapP r fun p q z => ⟨z.1, ht _ _ z.2.1, z.2.2⟩, ob, es, ep, k _ _ (.inl rfl) e, c⟩
  | set S n => obtain ⟨ob, es, ep, t, e, c⟩ := x; exact ⟨ob, es, ep, t, k _ _ (.inl rfl) e, c⟩
  | ins C dx fs =>
    obtain ⟨d, z, ne, e, mA, ⟨od, es, ep, e2, c⟩, r⟩ := x
    exact ⟨ho _ d, z, ne, k _ _ (.inl rfl) e, mA, ⟨od, es, ep, k _ _ (.inr d) e2, c⟩, r⟩
  | own y => obtain ⟨ob, e⟩ := x; exact ⟨ob, k _ _ (.inl rfl) e⟩
  | xd fs => obtain ⟨mA, ⟨od, es, ep, e, c⟩, r⟩ := x; exact ⟨mA, ⟨od, es, ep, k _ _ (.inl rfl) e, c⟩, r⟩
  | rng lo hi => obtain ⟨t, u, v, e⟩ := x; exact ⟨t, u, v, k _ _ (.inl rfl) e⟩
  | frz ob u ih => obtain ⟨e, q⟩ := x; exact ⟨k _ _ (.inl rfl) e, ih q⟩
  | tbl ps =>
    have e : h.get? a = some { cls := .none, data := .fields ps } := x
    show h'.get? a = some { cls := .none, data := .fields ps }
    exact k a _ (.inl rfl) e
  | met f y =>
    have e : h.get? a = some (PySem.W.methodObj (.ref f) (.ref y)) := x
    show h'.get? a = some (PySem.W.methodObj (.ref f) (.ref y))
    exact k a _ (.inl rfl) e
  | ext φ => obtain ⟨p, ⟨o, e⟩, st⟩ := x; exact ⟨st _ _ p fun o q => k _ _ (.inl rfl) q, ⟨o, k _ _ (.inl rfl) e⟩, st⟩
theorem HOk.lt (x : HOk P w H h) (e : H a = some o) : a < h.objs.size := (x a o e).lt
theorem HOk.fresh (x : HOk P w H h) (e : h.objs.size ≤ a) : H a = none := by
  cases q : H a with
  | none => rfl
  | some u => exact absurd (Nat.lt_of_lt_of_le (x.lt q) e) (Nat.lt_irrefl _)
theorem HOk.kept (x : HOk P w H h) (k : ∀ b u, h.get? b = some u → h'.get? b = some u) : HOk P w H h' := fun a o e =>
  (x a o e).stay (fun b u _ q => k b u q) (fun _ q => q) fun _ _ q => q
theorem HOk.laid (x : HOk P w H h) (k : ∀ b u, h.get? b = some u → h'.get? b = some u) (hp : h.objs.size ≤ a) (new : ObjOk P w (upd H a o) h' a o) : HOk P w (upd H a o) h' := fun b u e => by
  have hn := x.fresh hp
  by_cases hb : b = a
  · subst hb; rw [upd_same] at e; cases e; exact new
  · rw [upd_ne hb] at e
    exact (x b u e).stay (fun c v _ q => k c v q) (fun c q => by rw [upd_ne (ne_of_none q hn)]; exact q) fun c xs q => by rw [upd_ne (ne_of_none q hn)]; exact q
end
def Rd (H : Hp) (a : Addr) (u : HO) : Prop := H a = some u ∨ ∃ o, H a = some (.frz o u)
theorem Rd.ok {P : Program} {w : World} {H : Hp} {h : Heap} {a : Addr} {u : HO} (r : Rd H a u) (x : HOk P w H h) : ObjOk P w H h a u := by
  rcases r with r | ⟨o, r⟩
  · exact x a u r
  · obtain ⟨_, q⟩ := x a _ r
    exact q
def Mut : Option HO → Prop
  | some (.lst _) => True
  | some (.dK _) => True
  | some (.dT _) => True
  | some (.set _ _) => True
  | some (.ins _ _ _) => True
  | some (.ext _) => True
  | _ => False
section
variable {P : Program} {w : World} {H : Hp} {h h' : Heap} {x e : Addr} {o' : HO}
theorem HOk.write (ok : HOk P w H h) (mu : Mut (H x)) (he : e = x ∨ H e = some (.own x)) (k : ∀ b u, b ≠ e → h.get? b = some u → h'.get? b = some u) (heo : ∃ u, h'.get? e = some u)
    (new : ObjOk P w (upd H x o') h' x o') : HOk P w (upd H x o') h' := fun b u q => by
  have nown : ∀ c y, H c = some (.own y) → c ≠ x := fun c y r z => by subst z; rw [r] at mu; exact mu
  have ntup : ∀ c xs, H c = some (.tup xs) → c ≠ x := fun c xs r z => by subst z; rw [r] at mu; exact mu
  by_cases hb : b = x
  · subst hb; rw [upd_same] at q; cases q; exact new
  · rw [upd_ne hb] at q
    by_cases hbe : b = e
    · have q' : H b = some (.own x) := by
        rcases he with z | z
        · exact absurd (hbe.trans z) hb
        · rw [hbe]; exact z
      rw [q] at q'; cases q'
      obtain ⟨v, hv⟩ := heo
      exact ⟨v, by rw [hbe]; exact hv⟩
    · refine (ok b u q).stay (fun c v hc r => k c v ?_ r) (fun c r => by rw [upd_ne (nown c b r)]; exact r) fun c xs r => by rw [upd_ne (ntup c xs r)]; exact r
      rcases hc with rfl | hc
      · exact hbe
      · rintro rfl
        rcases he with z | z
        · exact nown c b hc z
        · rw [hc] at z; cases z; exact hb rfl
end
structure Un (fs ex : List Addr) (H H' : Hp) (h h' : Heap) : Prop where
  keep : ∀ b o, h.get? b = some o → H b = none → b ∉ fs → b ∉ ex → h'.get? b = some o
  slot : ∀ b o, h.get? b = some o → H b = none → b ∈ fs → b ∉ ex → ∃ sl, h'.get? b = some { o with slots := sl }
  free : ∀ b o, h.get? b = some o → H b = none → b ∉ ex → H' b = none
  there : ∀ b o, h.get? b = some o → b ∉ ex → ∃ o', h'.get? b = some o'
  tups : ∀ b xs, H b = some (.tup xs) → H' b = some (.tup xs)
  frzs : ∀ b o u, H b = some (.frz o u) → H' b = some (.frz o u)
  tbls : ∀ b ps, H b = some (.tbl ps) → ∃ more, H' b = some (.tbl (ps ++ more))
section
variable {fs fs' ex ex' : List Addr} {H H1 H2 : Hp} {h h1 h2 h' : Heap} {a x e : Addr} {o : HO}
theorem Un.any (u : Un fs ex H H1 h h1) {b : Addr} {ob : Obj} (q : h.get? b = some ob) (n : H b = none) (hx : b ∉ ex) : ∃ sl, h1.get? b = some { ob with slots := sl } := by
  by_cases hb : b ∈ fs
  · exact u.slot b ob q n hb hx
  · exact ⟨ob.slots, u.keep b ob q n hb hx⟩
theorem Un.kept (k : ∀ b u, h.get? b = some u → h'.get? b = some u) : Un fs ex H H h h' :=
  ⟨fun b ob q _ _ _ => k b ob q, fun b ob q _ _ _ => ⟨ob.slots, k b ob q⟩, fun _ _ _ n _ => n, fun b ob q _ => ⟨ob, k b ob q⟩, fun _ _ q => q, fun _ _ _ q => q, fun _ ps q => ⟨#[], by rw [q]; simp⟩⟩
theorem Un.refl : Un fs ex H H h h := Un.kept fun _ _ q => q
theorem Un.laid (k : ∀ b u, h.get? b = some u → h'.get? b = some u) (hp : h.objs.size ≤ a) (hn : H a = none) : Un fs ex H (upd H a o) h h' where
  keep := fun b u q _ _ _ => k b u q
  slot := fun b u q _ _ _ => ⟨u.slots, k b u q⟩
  free := fun b u q n _ => by rw [upd_ne (Nat.ne_of_lt (Nat.lt_of_lt_of_le (Heap.lt_size q) hp))]; exact n
  there := fun b u q _ => ⟨u, k b u q⟩
  tups := fun b xs q => by rw [upd_ne (ne_of_none q hn)]; exact q
  frzs := fun b u xs q => by rw [upd_ne (ne_of_none q hn)]; exact q
  tbls := fun b ps q => ⟨#[], by rw [upd_ne (ne_of_none q hn), q]; simp⟩
theorem Un.write (mu : Mut (H x)) (he : e = x ∨ H e = some (.own x)) (k : ∀ b u, b ≠ e → h.get? b = some u → h'.get? b = some u) (heo : ∃ u, h'.get? e = some u) : Un fs ex H (upd H x o) h h' := by
  have hx : ∀ b, H b = none → b ≠ x := fun b n z => by subst z; rw [n] at mu; exact mu
  have hb : ∀ b, H b = none → b ≠ e := fun b n z => by
    subst z
    rcases he with r | r
    · exact hx b n r
    · rw [n] at r; cases r
  have hm : ∀ b u, H b = some u → ¬ Mut (some u) → b ≠ x := fun b u q nm z => by subst z; rw [q] at mu; exact nm mu
  refine ⟨fun b u q n _ _ => k b u (hb b n) q, fun b u q n _ _ => ⟨u.slots, k b u (hb b n) q⟩, fun b u q n _ => by rw [upd_ne (hx b n)]; exact n, fun b u q _ => ?_,
    fun b xs q => by rw [upd_ne (hm b _ q fun z => z)]; exact q, fun b u xs q => by rw [upd_ne (hm b _ q fun z => z)]; exact q, fun b ps q => ⟨#[], by rw [upd_ne (hm b _ q fun z => z), q]; simp⟩⟩
  by_cases hbe : b = e
  · subst hbe; exact heo
  · exact ⟨u, k b u hbe q⟩
end
def trk (h : Heap) (H : Hp) : List Addr := (List.range h.objs.size).filter fun a => (H a).isSome
def hidT (h : Heap) (H : Hp) : Heap := PySem.W.hideAll h (trk h H)
theorem hidT_size (h : Heap) (H : Hp) : (hidT h H).objs.size = h.objs.size := PySem.W.hideAll_size _ _
theorem hidT_get {h : Heap} {H : Hp} {b : Addr} {o : Obj} (e : h.get? b = some o) (n : H b = none) : (hidT h H).get? b = some o :=
  PySem.W.hideAll_get _ e fun hm => by
    have q : (H b).isSome = true := (List.mem_filter.mp hm).2
    rw [n] at q; simp at q
theorem of_hidT {h : Heap} {H : Hp} {b : Addr} {o : Obj} (e : (hidT h H).get? b = some o) : h.get? b = some o ∧ H b = none := by
  have e' : h.get? b = some o := PySem.W.of_hideAll (trk h H) e
  refine ⟨e', ?_⟩
  cases q : H b with
  | none => rfl
  | some x =>
    have hm : b ∈ trk h H := List.mem_filter.mpr ⟨List.mem_range.mpr (Heap.lt_size e'), by simp [q]⟩
    have z : (hidT h H).get? b = none := PySem.W.hideAll_none (trk h H) hm
    rw [z] at e; cases e
end L2
namespace L2
open PySem PySem.Spec PyProof.Rows
structure Mod (K : PySem.W.Frag) (mg : Str → Option Value) (base : Heap) : Prop where
  kin : K.In base
  glob : base.Ns mainGlobals mg
  blt : ∃ mb, base.Ns builtinsNs mb ∧ ∀ x : Str, x ≠ "__name__" → mb x = bootBuiltins x
  nolimit : base.NoLimit
structure Cx where
  prog : Program
  w : World
  K : PySem.W.Frag
  mg : Str → Option Value
  base : Heap
  A : Around
  N : List Str
  s₀ : Shared
  H₀ : Hp
  env : Env
  outer : List Env
  stack : List Env
  ex : List Addr
  fn : Str → Bool
  calm : Bool
  pn : List (Addr × Obj)
  xe : Value → Shared → Prop
def frs (l : List Env) : List Addr := l.filterMap (·.frame)
abbrev Cx.fs (X : Cx) : List Addr := frs X.outer
def Vis (sc : Scope) (x : Str) : Prop := sc.names.lookup x = some .local ∨ sc.names.lookup x = some .cell ∨ sc.names.lookup x = some .free
def Loc (sc : Scope) (x : Str) : Prop := sc.names.lookup x = some .local ∨ sc.names.lookup x = some .cell
def Look (env : Env) (h : Heap) (m : Str → Option Value) (x : Str) (u : Value) : Prop :=
  (env.kindOf x = some .local ∧ m x = some u) ∨ ((env.kindOf x = some .cell ∨ env.kindOf x = some .free) ∧ ∃ c, env.cells.lookup x = some c ∧ h.IsCell c (some u))
structure Cx.Ok (X : Cx) : Prop where
  mod : Mod X.K X.mg X.base
  kind : X.env.scope.kind = .function
  glob : X.env.globals = mainGlobals
  blt : X.env.builtins = builtinsNs
  above : X.s₀.heap.objs.size ≤ X.env.locals
  inj : ∀ x y c, X.env.cells.lookup x = some c → X.env.cells.lookup y = some c → x = y
  has : ∀ x, (X.env.kindOf x = some .cell ∨ X.env.kindOf x = some .free) → ∃ c, X.env.cells.lookup x = some c
  cab : ∀ x c, X.fn x = true → X.env.cells.lookup x = some c → X.s₀.heap.objs.size ≤ c
  hd : X.calm = true → X.A.handled = none
  frames : X.A.frames = some X.stack
  stk : X.stack = X.outer ∨ (X.stack = X.env :: X.outer ∧ X.env.frame = some X.env.locals)
  exf : ∀ b ∈ X.ex, b ≠ X.env.locals ∧ ∀ x c, X.env.cells.lookup x = some c → c ≠ b
  bs : ∀ b o, X.base.get? b = some o → X.s₀.heap.get? b = some o ∧ X.H₀ b = none
  bsz : X.base.objs.size ≤ X.s₀.heap.objs.size
  noex : ∀ b o, X.base.get? b = some o → b ∉ X.ex
  exfs : ∀ b ∈ X.ex, b ∉ X.fs
  funs : X.s₀.heap.FunFrames X.base X.outer
  frf : ∀ b ∈ X.fs, X.H₀ b = none
structure Inv (X : Cx) (pins : List (Addr × Obj)) (σ : List (Option V)) (H : Hp) (s : Shared) : Prop where
  ok : X.Ok
  os : s.os = X.s₀.os
  bare : AllBare s.gens
  base : Un X.fs X.ex X.H₀ H X.s₀.heap s.heap
  loc : ∃ m, s.heap.Ns X.env.locals m ∧ ∀ (i : Nat) (x : Str) (v : V), X.N[i]? = some x → σ[i]? = some (some v) → Vis X.env.scope x → ∃ u, RelV v u ∧ Look X.env s.heap m x u
  cell : ∀ x c, X.env.cells.lookup x = some c → ∃ v, s.heap.IsCell c v
  free : H X.env.locals = none
  freeC : ∀ x c, X.env.cells.lookup x = some c → H c = none
  pin : ∀ p ∈ X.pn ++ pins, s.heap.get? p.1 = some p.2 ∧ H p.1 = none ∧ p.1 ≠ X.env.locals ∧ p.1 ∉ X.fs ∧ ∀ v, p.2.data ≠ .cell v
  hok : HOk X.prog X.w H s.heap
  len : σ.length = X.N.length
section
variable {X : Cx} {pins : List (Addr × Obj)} {σ : List (Option V)} {H H' : Hp} {s : Shared} {h' : Heap}
theorem Cx.Ok.nofr (ok : X.Ok) {b : Addr} {o : Obj} (e : X.base.get? b = some o) : b ∉ X.fs := fun hb => by
  have := (ok.funs.mem hb).1
  rw [e] at this; cases this
theorem Inv.bs (I : Inv X pins σ H s) : ∀ b o, X.base.get? b = some o → s.heap.get? b = some o ∧ H b = none := fun b o e =>
  ⟨I.base.keep b o (I.ok.bs b o e).1 (I.ok.bs b o e).2 (I.ok.nofr e) (I.ok.noex b o e), I.base.free b o (I.ok.bs b o e).1 (I.ok.bs b o e).2 (I.ok.noex b o e)⟩
theorem Inv.bk (I : Inv X pins σ H s) : ∀ b o, X.base.get? b = some o → s.heap.get? b = some o := fun b o e => (I.bs b o e).1
theorem Inv.mod (I : Inv X pins σ H s) : Mod X.K X.mg X.base := I.ok.mod
theorem Inv.kIn (I : Inv X pins σ H s) : X.K.In s.heap := I.ok.mod.kin.keeps I.bk
theorem Inv.lt (I : Inv X pins σ H s) : X.env.locals < s.heap.objs.size := let ⟨_, hn, _⟩ := I.loc; hn.lt
theorem Inv.sz (I : Inv X pins σ H s) : X.s₀.heap.objs.size ≤ s.heap.objs.size := Nat.le_trans I.ok.above (Nat.le_of_lt I.lt)
theorem Inv.nofs (I : Inv X pins σ H s) {a : Addr} (h : s.heap.objs.size ≤ a) : a ∉ X.fs := fun hb => by
  obtain ⟨_, o, ho, _⟩ := I.ok.funs.mem hb
  exact absurd (Nat.lt_of_lt_of_le (Heap.lt_size ho) (Nat.le_trans I.sz h)) (Nat.lt_irrefl _)
theorem Inv.cne (I : Inv X pins σ H s) : ∀ x c, X.env.cells.lookup x = some c → c ≠ X.env.locals := fun x c e z => by
  obtain ⟨v, o, ho, hd⟩ := I.cell x c e
  obtain ⟨m, ⟨o', es, ep, ho', hd', _⟩, _⟩ := I.loc
  rw [z, ho'] at ho; cases ho; rw [hd'] at hd; cases hd
theorem Inv.funs (I : Inv X pins σ H s) : s.heap.FunFrames X.base X.outer := by
  have all : ∀ (l : List Env), (∀ b ∈ frs l, b ∈ X.fs) → X.s₀.heap.FunFrames X.base l → s.heap.FunFrames X.base l := by
    intro l
    induction l with
    | nil => intro _ _; trivial
    | cons env r ih =>
      intro hs hl
      obtain ⟨hk, ⟨L, o, hf, hn, ho, hd⟩, hr⟩ := hl
      have hL : L ∈ X.fs := hs L (by unfold frs; rw [List.filterMap_cons, hf]; exact List.mem_cons_self)
      obtain ⟨sl, e⟩ := I.base.slot L o ho (I.ok.frf L hL) hL fun z => I.ok.exfs L z hL
      exact ⟨hk, ⟨L, _, hf, hn, e, hd⟩, ih (fun b hb => hs b (by unfold frs; rw [List.filterMap_cons, hf]; exact List.mem_cons_of_mem _ hb)) hr⟩
  exact all X.outer (fun _ hb => hb) I.ok.funs
theorem Inv.stack (I : Inv X pins σ H s) : s.heap.FunFrames X.base X.stack := by
  rcases I.ok.stk with e | ⟨e, hf⟩
  · rw [e]; exact I.funs
  · rw [e]
    obtain ⟨m, hn, _⟩ := I.loc
    refine .cons (by rw [I.ok.kind]; decide) hf hn ?_ I.funs
    exact Heap.get?_none_of_le (Nat.le_trans I.ok.bsz I.ok.above)
theorem Inv.stkSub (I : Inv X pins σ H s) : ∀ b ∈ frs X.stack, b ∈ X.env.locals :: X.fs := fun b hb => by
  rcases I.ok.stk with e | ⟨e, hf⟩
  · rw [e] at hb; exact List.mem_cons_of_mem _ hb
  · rw [e] at hb
    unfold frs at hb
    rw [List.filterMap_cons, hf] at hb
    exact hb
theorem Inv.stkFree (I : Inv X pins σ H s) : ∀ b ∈ frs X.stack, H b = none := fun b hb => by
  rcases List.mem_cons.mp (I.stkSub b hb) with e | hb
  · rw [e]; exact I.free
  · obtain ⟨_, o, ho, _⟩ := I.ok.funs.mem hb
    exact I.base.free b o ho (I.ok.frf b hb) fun z => I.ok.exfs b z hb
theorem Inv.step {g' : Array GenState} {t' : Nat} {d' : Drawn} {ch : List Addr} (I : Inv X pins σ H s)
    (hch : ∀ b ∈ ch, (b ∈ X.ex ∨ X.s₀.heap.objs.size ≤ b) ∧ b ≠ X.env.locals ∧ (∀ x c, X.env.cells.lookup x = some c → c ≠ b) ∧ ∀ p ∈ X.pn ++ pins, p.1 ≠ b)
    (keep : ∀ b o, b ≠ X.env.locals → b ∉ X.fs → b ∉ ch → s.heap.get? b = some o → H b = none → h'.get? b = some o)
    (slot : ∀ b o, b ≠ X.env.locals → b ∈ X.fs → b ∉ ch → s.heap.get? b = some o → H b = none → ∃ sl, h'.get? b = some { o with slots := sl }) (free : ∀ b o, b ∉ ch → s.heap.get? b = some o → H b = none → H' b = none)
    (there : ∀ b o, b ∉ ch → s.heap.get? b = some o → ∃ o', h'.get? b = some o')
    (tups : ∀ b xs, H b = some (.tup xs) → H' b = some (.tup xs)) (frzs : ∀ b o u, H b = some (.frz o u) → H' b = some (.frz o u)) (tbls : ∀ b ps, H b = some (.tbl ps) → ∃ more, H' b = some (.tbl (ps ++ more)))
    (ns : ∀ m, s.heap.Ns X.env.locals m → h'.Ns X.env.locals m) (hok : HOk X.prog X.w H' h') (hg : AllBare g') :
    Inv X pins σ H' { s with heap := h', gens := g', drawn := d', toks := t' } := by
  have neL : ∀ b o, X.s₀.heap.get? b = some o → b ≠ X.env.locals := fun b o e => Nat.ne_of_lt (Nat.lt_of_lt_of_le (Heap.lt_size e) I.ok.above)
  have neC : ∀ b o, X.s₀.heap.get? b = some o → b ∉ X.ex → b ∉ ch := fun b o e hx hb => by
    rcases (hch b hb).1 with z | z
    · exact hx z
    · exact absurd (Nat.lt_of_lt_of_le (Heap.lt_size e) z) (Nat.lt_irrefl _)
  have cellK : ∀ x c, X.env.cells.lookup x = some c → ∀ v, s.heap.IsCell c v → h'.IsCell c v := fun x c e v ⟨o, ho, hd⟩ => by
    have nch : c ∉ ch := fun z => (hch c z).2.2.1 x c e rfl
    by_cases hc : c ∈ X.fs
    · obtain ⟨sl, q⟩ := slot c o (I.cne x c e) hc nch ho (I.freeC x c e)
      exact ⟨_, q, hd⟩
    · exact ⟨o, keep c o (I.cne x c e) hc nch ho (I.freeC x c e), hd⟩
  refine ⟨I.ok, I.os, hg, ⟨fun b o e n hb hx => ?_, fun b o e n hb hx => ?_, fun b o e n hx => ?_, fun b o e hx => ?_, fun b xs e => tups b xs (I.base.tups b xs e), fun b o xs e => frzs b o xs (I.base.frzs b o xs e), fun b ps e => ?_⟩, ?_, fun x c e => ?_, ?_, fun x c e => ?_, fun p hp => ?_, hok, I.len⟩
  · exact keep b o (neL b o e) hb (neC b o e hx) (I.base.keep b o e n hb hx) (I.base.free b o e n hx)
  · obtain ⟨sl, e1⟩ := I.base.slot b o e n hb hx
    obtain ⟨sl', e2⟩ := slot b _ (neL b o e) hb (neC b o e hx) e1 (I.base.free b o e n hx)
    exact ⟨sl', e2⟩
  · obtain ⟨o', e1⟩ := I.base.there b o e hx
    exact free b o' (neC b o e hx) e1 (I.base.free b o e n hx)
  · obtain ⟨o', e1⟩ := I.base.there b o e hx
    exact there b o' (neC b o e hx) e1
  · obtain ⟨m1, e1⟩ := I.base.tbls b ps e
    obtain ⟨m2, e2⟩ := tbls b _ e1
    exact ⟨m1 ++ m2, by rw [e2, Array.append_assoc]⟩
  · obtain ⟨m, hn, hl⟩ := I.loc
    refine ⟨m, ns m hn, fun i x v e1 e2 e3 => ?_⟩
    obtain ⟨u, r, l⟩ := hl i x v e1 e2 e3
    refine ⟨u, r, ?_⟩
    rcases l with l | ⟨k, c, e, z⟩
    · exact .inl l
    · exact .inr ⟨k, c, e, cellK x c e _ z⟩
  · obtain ⟨v, z⟩ := I.cell x c e
    exact ⟨v, cellK x c e v z⟩
  · obtain ⟨m, ⟨o, _, _, ho, _⟩, _⟩ := I.loc
    exact free _ o (fun z => (hch _ z).2.1 rfl) ho I.free
  · obtain ⟨v, o, ho, hd⟩ := I.cell x c e
    exact free c o (fun z => (hch c z).2.2.1 x c e rfl) ho (I.freeC x c e)
  · obtain ⟨e, n, ne, nf, d⟩ := I.pin p hp
    have nch : p.1 ∉ ch := fun z => (hch p.1 z).2.2.2 p hp rfl
    exact ⟨keep p.1 p.2 ne nf nch e n, free p.1 p.2 nch e n, ne, nf, d⟩
theorem Inv.un {t' : Nat} (I : Inv X pins σ H s) (u : Un X.fs [] H H' s.heap h') (hok : HOk X.prog X.w H' h') : Inv X pins σ H' { s with heap := h', toks := t' } := by
  obtain ⟨m, ⟨o, es, ep, ho, r⟩, _⟩ := id I.loc
  obtain ⟨sl, hL⟩ := u.any ho I.free (by simp)
  exact I.step (g' := s.gens) (d' := s.drawn) (ch := []) (fun _ z => nomatch z) (fun b o _ hb _ e n => u.keep b o e n hb (by simp)) (fun b o _ hb _ e n => u.slot b o e n hb (by simp)) (fun b o _ e n => u.free b o e n (by simp)) (fun b o _ e => u.there b o e (by simp)) u.tups u.frzs u.tbls (fun m' hm => by
    obtain ⟨o', es', ep', ho', r'⟩ := hm
    rw [ho] at ho'; cases ho'
    exact ⟨_, es', ep', hL, r'⟩) hok I.bare
theorem Inv.call {g' : Array GenState} {t' : Nat} {d' : Drawn} {ch : List Addr} (I : Inv X pins σ H s) (u : Un (frs X.stack) ch H H' s.heap h') (hok : HOk X.prog X.w H' h') (hg : AllBare g')
    (hch : ∀ b ∈ ch, (b ∈ X.ex ∨ X.s₀.heap.objs.size ≤ b) ∧ b ≠ X.env.locals ∧ (∀ x c, X.env.cells.lookup x = some c → c ≠ b) ∧ ∀ p ∈ X.pn ++ pins, p.1 ≠ b) :
    Inv X pins σ H' { s with heap := h', gens := g', drawn := d', toks := t' } := by
  obtain ⟨m, ⟨o, es, ep, ho, r⟩, _⟩ := id I.loc
  obtain ⟨sl, hL⟩ := u.any ho I.free fun z => (hch _ z).2.1 rfl
  exact I.step (ch := ch) hch (fun b o hL hb hc e n => u.keep b o e n (fun z => (List.mem_cons.mp (I.stkSub b z)).elim hL hb) hc) (fun b o _ _ hc e n => u.any e n hc) (fun b o hc e n => u.free b o e n hc) (fun b o hc e => u.there b o e hc) u.tups u.frzs u.tbls (fun m' hm => by
    obtain ⟨o', es', ep', ho', r'⟩ := hm
    rw [ho] at ho'; cases ho'
    exact ⟨_, es', ep', hL, r'⟩) hok hg
theorem Inv.turned {t' : Nat} {it : Addr} (I : Inv X pins σ H s) (k : ∀ b o, b ≠ it → s.heap.get? b = some o → h'.get? b = some o) (hn : H it = none) (hL : it ≠ X.env.locals)
    (h1 : it ∈ X.ex ∨ X.s₀.heap.objs.size ≤ it) (h2 : ∀ x c, X.env.cells.lookup x = some c → c ≠ it) (h3 : ∀ p ∈ X.pn ++ pins, p.1 ≠ it) : Inv X pins σ H { s with heap := h', toks := t' } := by
  have nit : ∀ b u, H b = some u → b ≠ it := fun b u e z => by rw [z, hn] at e; cases e
  refine I.step (g' := s.gens) (d' := s.drawn) (ch := [it]) (fun b hb => ?_) (fun b o _ _ hc e _ => k b o (fun z => hc (by simp [z])) e) (fun b o _ _ hc e _ => ⟨o.slots, k b o (fun z => hc (by simp [z])) e⟩) (fun _ _ _ _ n => n)
    (fun b o hc e => ⟨o, k b o (fun z => hc (by simp [z])) e⟩) (fun _ _ e => e) (fun _ _ _ e => e) (fun b ps e => ⟨#[], by rw [e]; simp⟩) (fun m hm => ?_) (fun b u e => ?_) I.bare
  · have e : b = it := by simpa using hb
    subst e
    exact ⟨h1, hL, h2, h3⟩
  · obtain ⟨o, es, ep, ho, r⟩ := hm
    exact ⟨o, es, ep, k _ o (Ne.symm hL) ho, r⟩
  · refine (I.hok b u e).stay (fun c v hc q => k c v ?_ q) (fun _ q => q) fun _ _ q => q
    rcases hc with z | z
    · rw [z]; exact nit b u e
    · exact nit c _ z
theorem Inv.tok (I : Inv X pins σ H s) (t : Nat) : Inv X pins σ H { s with toks := t } := I.un (h' := s.heap) (t' := t) Un.refl I.hok
theorem Inv.kept {t' : Nat} (I : Inv X pins σ H s) (k : ∀ b u, s.heap.get? b = some u → h'.get? b = some u) : Inv X pins σ H { s with heap := h', toks := t' } := I.un (Un.kept k) (I.hok.kept k)
theorem Inv.laid {a : Addr} {o : HO} {t' : Nat} (I : Inv X pins σ H s) (k : ∀ b u, s.heap.get? b = some u → h'.get? b = some u) (hp : s.heap.objs.size ≤ a) (new : ObjOk X.prog X.w (upd H a o) h' a o) :
    Inv X pins σ (upd H a o) { s with heap := h', toks := t' } := I.un (Un.laid k hp (I.hok.fresh hp)) (I.hok.laid k hp new)
theorem Inv.write {x e : Addr} {o : HO} {t' : Nat} (I : Inv X pins σ H s) (mu : Mut (H x)) (he : e = x ∨ H e = some (.own x)) (k : ∀ b u, b ≠ e → s.heap.get? b = some u → h'.get? b = some u) (heo : ∃ u, h'.get? e = some u)
    (new : ObjOk X.prog X.w (upd H x o) h' x o) : Inv X pins σ (upd H x o) { s with heap := h', toks := t' } := I.un (Un.write mu he k heo) (I.hok.write mu he k heo new)
theorem Inv.pins_of {pins' : List (Addr × Obj)} (I : Inv X pins σ H s) (h : ∀ p ∈ pins', s.heap.get? p.1 = some p.2 ∧ H p.1 = none ∧ p.1 ≠ X.env.locals ∧ p.1 ∉ X.fs ∧ ∀ v, p.2.data ≠ .cell v) : Inv X pins' σ H s :=
  ⟨I.ok, I.os, I.bare, I.base, I.loc, I.cell, I.free, I.freeC, fun p hp => (List.mem_append.mp hp).elim (fun z => I.pin p (List.mem_append_left _ z)) (h p), I.hok, I.len⟩
theorem nodup_ix {N : List Str} (hN : N.Nodup) {i j : Nat} {x : Str} (a : N[i]? = some x) (b : N[j]? = some x) : i = j := by
  obtain ⟨h1, e1⟩ := List.getElem?_eq_some_iff.mp a
  obtain ⟨h2, e2⟩ := List.getElem?_eq_some_iff.mp b
  exact (List.getElem_inj hN).mp (e1.trans e2.symm)
theorem store_ok2 {M : Model} {A : Around} {E : Value → Shared → Prop} {i : Nat} {x : Str} {v : V} {u : Value} {Q : Unit → Shared → Prop} (I : Inv X pins σ H s) (hN : X.N.Nodup) (hi : X.N[i]? = some x) (hx : Loc X.env.scope x) (r : RelV v u)
    (h : ∀ s', Inv X pins (σ.set i (some v)) H s' → (∃ a, Heap.SameBut a s.heap s'.heap ∧ (a = X.env.locals ∨ X.env.cells.lookup x = some a)) → Q () s') (hf : X.fn x = true ∨ X.env.scope.names.lookup x = some .local := by first | exact .inl rfl | exact .inr rfl | assumption) : wpAny M A (storeName X.env x u) Q E s := by
  obtain ⟨m, hn, hl⟩ := id I.loc
  have hcls : (X.env.scope.kind == .class || (X.env.scope.kind == .module && X.env.locals != X.env.globals)) = false := by rw [I.ok.kind]; rfl
  have hiσ : i < σ.length := by rw [I.len]; exact (List.getElem?_eq_some_iff.mp hi).1
  have cne := I.cne
  have tracked : ∀ {a : Addr} {h' : Heap}, (∃ o, s.heap.get? a = some o ∧ H a = none) → Heap.SameBut a s.heap h' → HOk X.prog X.w H h' := fun {a h'} ha hs b ob e => by
    obtain ⟨_, _, hfree⟩ := ha
    refine (I.hok b ob e).stay (fun c w' hc q => (hs.2 c ?_).trans q) (fun _ q => q) fun _ _ q => q
    rintro rfl
    rcases hc with rfl | hc
    · rw [hfree] at e; cases e
    · rw [hfree] at hc; cases hc
  rcases hx with hk | hk
  · refine wpAny_storeName_local hk hn (fun h' hn' hs => ?_) hcls
    obtain ⟨oL, _, _, hoL, _⟩ := id hn
    refine h _ ⟨I.ok, I.os, I.bare, ⟨fun b o e n hb hx => ?_, fun b o e n hb hx => ?_, I.base.free, fun b o e hx => ?_, I.base.tups, I.base.frzs, I.base.tbls⟩, ⟨_, hn', fun j y v' e1 e2 e3 => ?_⟩, fun y c e => ?_, I.free, I.freeC, fun p hp => ?_, tracked ⟨oL, hoL, I.free⟩ hs, by simpa using I.len⟩ ⟨_, hs, .inl rfl⟩
    · exact (hs.2 b (Nat.ne_of_lt (Nat.lt_of_lt_of_le (Heap.lt_size e) I.ok.above))).trans (I.base.keep b o e n hb hx)
    · obtain ⟨sl, e1⟩ := I.base.slot b o e n hb hx
      exact ⟨sl, (hs.2 b (Nat.ne_of_lt (Nat.lt_of_lt_of_le (Heap.lt_size e) I.ok.above))).trans e1⟩
    · obtain ⟨o', e1⟩ := I.base.there b o e hx
      exact ⟨o', (hs.2 b (Nat.ne_of_lt (Nat.lt_of_lt_of_le (Heap.lt_size e) I.ok.above))).trans e1⟩
    · by_cases hj : j = i
      · subst hj
        rw [hi] at e1; cases e1
        rw [List.getElem?_set_self hiσ] at e2
        cases e2
        exact ⟨u, r, .inl ⟨hk, by simp⟩⟩
      · rw [List.getElem?_set_ne (Ne.symm hj)] at e2
        obtain ⟨u', r', q⟩ := hl j y v' e1 e2 e3
        refine ⟨u', r', ?_⟩
        rcases q with ⟨k, e⟩ | ⟨k, c, e, z⟩
        · refine .inl ⟨k, ?_⟩
          have : y ≠ x := fun e => hj (nodup_ix hN e1 (e ▸ hi))
          simp [this, e]
        · exact .inr ⟨k, c, e, z.sameBut hs (cne y c e)⟩
    · obtain ⟨w', z⟩ := I.cell y c e
      exact ⟨w', z.sameBut hs (cne y c e)⟩
    · obtain ⟨e, n, ne, nf, d⟩ := I.pin p hp
      exact ⟨(hs.2 p.1 ne).trans e, n, ne, nf, d⟩
  · have hfn : X.fn x = true := by
      rcases hf with z | z
      · exact z
      · rw [z] at hk; cases hk
    obtain ⟨c, hc⟩ := I.ok.has x (.inl hk)
    obtain ⟨w', z⟩ := I.cell x c hc
    refine wpAny_storeName_cell I.ok.kind hk hc z (fun h' hc' hs => ?_)
    obtain ⟨oc, hoc, hocd⟩ := id z
    refine h { s with heap := h' } ⟨I.ok, I.os, I.bare, ⟨fun b o e n hb hx => ?_, fun b o e n hb hx => ?_, I.base.free, fun b o e hx => ?_, I.base.tups, I.base.frzs, I.base.tbls⟩, ⟨m, hn.sameBut hs (Ne.symm (cne x c hc)), fun j y v' e1 e2 e3 => ?_⟩, fun y c' e => ?_, I.free, I.freeC, fun p hp => ?_, tracked ⟨oc, hoc, I.freeC x c hc⟩ hs, by simpa using I.len⟩ ⟨c, hs, .inr hc⟩
    · exact (hs.2 b (Nat.ne_of_lt (Nat.lt_of_lt_of_le (Heap.lt_size e) (I.ok.cab x c hfn hc)))).trans (I.base.keep b o e n hb hx)
    · obtain ⟨sl, e1⟩ := I.base.slot b o e n hb hx
      exact ⟨sl, (hs.2 b (Nat.ne_of_lt (Nat.lt_of_lt_of_le (Heap.lt_size e) (I.ok.cab x c hfn hc)))).trans e1⟩
    · obtain ⟨o', e1⟩ := I.base.there b o e hx
      exact ⟨o', (hs.2 b (Nat.ne_of_lt (Nat.lt_of_lt_of_le (Heap.lt_size e) (I.ok.cab x c hfn hc)))).trans e1⟩
    · by_cases hj : j = i
      · subst hj
        rw [hi] at e1; cases e1
        rw [List.getElem?_set_self hiσ] at e2
        cases e2
        exact ⟨u, r, .inr ⟨.inl hk, c, hc, hc'⟩⟩
      · rw [List.getElem?_set_ne (Ne.symm hj)] at e2
        obtain ⟨u', r', q⟩ := hl j y v' e1 e2 e3
        refine ⟨u', r', ?_⟩
        rcases q with q | ⟨k, c', e, z'⟩
        · exact .inl q
        · refine .inr ⟨k, c', e, z'.sameBut hs ?_⟩
          rintro rfl
          exact hj (nodup_ix hN e1 (I.ok.inj _ _ _ e hc ▸ hi))
    · by_cases hcc : c' = c
      · subst hcc; exact ⟨_, hc'⟩
      · obtain ⟨w2, z2⟩ := I.cell y c' e
        exact ⟨w2, z2.sameBut hs hcc⟩
    · obtain ⟨e, n, ne, nf, d⟩ := I.pin p hp
      refine ⟨(hs.2 p.1 ?_).trans e, n, ne, nf, d⟩
      intro q
      rw [q, hoc] at e
      have q' : oc = p.2 := Option.some.inj e
      exact d w' (by rw [← q']; exact hocd)
theorem store_ok {M : Model} {A : Around} {E : Value → Shared → Prop} {i : Nat} {x : Str} {v : V} {u : Value} {Q : Unit → Shared → Prop} (I : Inv X pins σ H s) (hN : X.N.Nodup) (hi : X.N[i]? = some x) (hx : Loc X.env.scope x) (r : RelV v u)
    (h : ∀ s', Inv X pins (σ.set i (some v)) H s' → Q () s') (hf : X.fn x = true ∨ X.env.scope.names.lookup x = some .local := by first | exact .inl rfl | exact .inr rfl | assumption) : wpAny M A (storeName X.env x u) Q E s :=
  store_ok2 I hN hi hx r (fun s' I' _ => h s' I') hf
theorem Inv.call' {s' : Shared} {ch : List Addr} (I : Inv X pins σ H s) (ho : s'.os = s.os) (u : Un (frs X.stack) ch H H' s.heap s'.heap) (hok : HOk X.prog X.w H' s'.heap) (hg : AllBare s'.gens)
    (hch : ∀ b ∈ ch, (b ∈ X.ex ∨ X.s₀.heap.objs.size ≤ b) ∧ b ≠ X.env.locals ∧ (∀ x c, X.env.cells.lookup x = some c → c ≠ b) ∧ ∀ p ∈ X.pn ++ pins, p.1 ≠ b) : Inv X pins σ H' s' := by
  obtain ⟨h', g', d', t', o'⟩ := s'
  have e : o' = s.os := ho
  subst e
  exact I.call (g' := g') (t' := t') (d' := d') u hok hg hch
end
abbrev XK := Value → Option Addr → Hp → Prop
abbrev St := List (Option V)
abbrev VK := V → Hp → Prop
abbrev TE := St → Hp → VK → Prop
abbrev TT := St → Hp → (Bool → Hp → Prop) → Prop
abbrev TA := St → Hp → (List V → Hp → Prop) → Prop
structure Ends where
  nx : St → Hp → Prop
  rt : VK
  bk : St → Hp → Prop := fun _ _ => False
  ct : St → Hp → Prop := fun _ _ => False
abbrev TS := Ends → St → Hp → Prop
def EP (X : Cx) (pins : List (Addr × Obj)) (σ : St) (Q : VK) (u : Value) (s' : Shared) : Prop := ∃ v H', Inv X pins σ H' s' ∧ RelV v u ∧ Q v H'
def TP (X : Cx) (pins : List (Addr × Obj)) (σ : St) (Q : Bool → Hp → Prop) (b : Bool) (s' : Shared) : Prop := ∃ H', Inv X pins σ H' s' ∧ Q b H'
def AP (X : Cx) (pins : List (Addr × Obj)) (σ : St) (Q : List V → Hp → Prop) (us : List Value) (s' : Shared) : Prop := ∃ vs H', Inv X pins σ H' s' ∧ Vals vs us ∧ Q vs H'
def SP (X : Cx) (pins : List (Addr × Obj)) (D : Ends) (f : Flow) (s' : Shared) : Prop :=
  match f with
  | .next => ∃ σ' H', Inv X pins σ' H' s' ∧ D.nx σ' H'
  | .brk => ∃ σ' H', Inv X pins σ' H' s' ∧ D.bk σ' H'
  | .cont => ∃ σ' H', Inv X pins σ' H' s' ∧ D.ct σ' H'
  | .ret u => ∃ v σ' H', Inv X pins σ' H' s' ∧ RelV v u ∧ D.rt v H'
def PE (X : Cx) (e : Expr) (t : TE) : Prop :=
  ∀ (pins : List (Addr × Obj)) (s : Shared) (σ : St) (H : Hp) (Q : VK), Inv X pins σ H s → t σ H Q → wpAny (model X.prog X.w) X.A (eval e X.env) (EP X pins σ Q) X.xe s
def PT (X : Cx) (e : Expr) (t : TT) : Prop :=
  ∀ (pins : List (Addr × Obj)) (s : Shared) (σ : St) (H : Hp) (Q : Bool → Hp → Prop), Inv X pins σ H s → t σ H Q → wpAny (model X.prog X.w) X.A (isTrue e X.env (eval e X.env)) (TP X pins σ Q) X.xe s
def PW (X : Cx) (e : Expr) (t : TT) : Prop :=
  ∀ (whole : Sem Value) (pins : List (Addr × Obj)) (s : Shared) (σ : St) (H : Hp) (Q : Bool → Hp → Prop), Inv X pins σ H s → t σ H Q → wpAny (model X.prog X.w) X.A (isTrue e X.env whole) (TP X pins σ Q) X.xe s
theorem PW.pt {X : Cx} {e : Expr} {t : TT} (h : PW X e t) : PT X e t := h _
def PA (X : Cx) (es : List Expr) (t : TA) : Prop :=
  ∀ (pos : Pos) (pins : List (Addr × Obj)) (s : Shared) (σ : St) (H : Hp) (Q : List V → Hp → Prop), Inv X pins σ H s → t σ H Q → wpAny (model X.prog X.w) X.A (spliced (backTo pos (starEach es X.env))) (AP X pins σ Q) X.xe s
def PS (X : Cx) (st : Stmt) (t : TS) : Prop :=
  ∀ (pins : List (Addr × Obj)) (s : Shared) (σ : St) (H : Hp) (D : Ends), Inv X pins σ H s → t D σ H → wpAny (model X.prog X.w) X.A (exec st X.env) (SP X pins D) X.xe s
def PSs (X : Cx) (st : List Stmt) (t : TS) : Prop :=
  ∀ (pins : List (Addr × Obj)) (s : Shared) (σ : St) (H : Hp) (D : Ends), Inv X pins σ H s → t D σ H → wpAny (model X.prog X.w) X.A (execs st X.env) (SP X pins D) X.xe s
theorem thn {α : Type} {t : Sem α} {Q Q' : α → Shared → Prop} {M : Model} {A : Around} {E : Value → Shared → Prop} {s : Shared} (h : wpAny M A t Q E s) (hQ : ∀ a s, Q a s → Q' a s) : wpAny M A t Q' E s := wpAny_mono h hQ fun _ _ x => x
end L2
namespace L2
open PySem PySem.Spec PyProof.Rows
section
variable {X : Cx}
theorem bin {a b : Expr} {ta tb : TE} (ha : PE X a ta) (hb : PE X b tb) {pins : List (Addr × Obj)} {s : Shared} {σ : St} {H : Hp} {R : V → V → Hp → Prop} (I : Inv X pins σ H s) (h : ta σ H fun x H1 => tb σ H1 fun y H2 => R x y H2)
    {α : Type} {Q : α → Shared → Prop} {f : Value → Value → Sem α}
    (hf : ∀ v u s2 x y H2, Inv X pins σ H2 s2 → RelV x v → RelV y u → R x y H2 → wpAny (model X.prog X.w) X.A (f v u) Q X.xe s2) :
    wpAny (model X.prog X.w) X.A (eval a X.env) (fun v s₁ => wpAny (model X.prog X.w) X.A (eval b X.env) (fun u s₂ => wpAny (model X.prog X.w) X.A (f v u) Q X.xe s₂) X.xe s₁) X.xe s := by
  refine thn (ha pins s σ H _ I h) fun v s1 ⟨x, H1, I1, r1, q1⟩ => ?_
  refine thn (hb pins s1 σ H1 _ I1 q1) fun u s2 ⟨y, H2, I2, r2, q2⟩ => ?_
  exact hf v u s2 x y H2 I2 r1 r2 q2
def tVar (i : Nat) : TE := fun σ H Q => ∃ v, σ[i]? = some (some v) ∧ Q v H
def tC (v : V) : TE := fun _ H Q => Q v H
theorem pe_var {i : Nat} {x : Str} {pos : Pos} (hN : X.N[i]? = some x) (hv : Vis X.env.scope x) (hd : (x == ("__debug__" : Str)) = false := by decide) (hcd : (x == ("__classdict__" : Str)) = false := by decide) : PE X (.Name x pos) (tVar i) := by
  intro pins s σ H Q I h
  obtain ⟨v, e, h⟩ := h
  obtain ⟨m, hn, hl⟩ := I.loc
  obtain ⟨u, r, l⟩ := hl i x v hN e hv
  have fin : EP X pins σ Q u s := ⟨v, H, I, r, h⟩
  rcases l with ⟨hk, hm⟩ | ⟨hk, c, hc, hcell⟩
  · exact wpAny_Name (wpAny_loadName_local I.ok.kind hk hn hm fin) hd
  · rcases hk with hk | hk
    · exact wpAny_Name (wpAny_loadName_cell I.ok.kind hk hc hcell fin) hd
    · exact wpAny_Name (wpAny_loadName_free I.ok.kind hk hc hcell fin hcd) hd
theorem pe_int {i j pos} : PE X (.Constant (.int i) j pos) (tC (.int i)) := fun _ _ _ H _ I h => wpAny_Constant_int ⟨.int i, H, I.tok _, ⟨_, rfl⟩, h⟩
theorem pe_bl {b j pos} : PE X (.Constant (.bool b) j pos) (tC (.bl b)) := fun _ _ _ H _ I h => Constant_bool ⟨.bl b, H, I, rfl, h⟩
theorem pe_non {j pos} : PE X (.Constant .none j pos) (tC .non) := fun _ _ _ H _ I h => Constant_none ⟨.non, H, I, rfl, h⟩
theorem pe_str {x j pos} : PE X (.Constant (.str x) j pos) (tC (.str x)) := fun _ _ _ H _ I h => Calls.Constant_str ⟨.str x, H, I.tok _, ⟨_, rfl⟩, h⟩
def Gl (X : Cx) (x : Str) : Prop := X.env.kindOf x = some .globalImplicit
theorem ld_glob {E : Value → Shared → Prop} {pins : List (Addr × Obj)} {s : Shared} {σ : St} {H : Hp} {x : Str} {u : Value} {pos : Pos} {Q : Value → Shared → Prop} (I : Inv X pins σ H s) (hg : Gl X x) (hm : X.mg x = some u) (h : Q u s)
    (hd : (x == ("__debug__" : Str)) = false := by decide) : wpAny (model X.prog X.w) X.A (eval (.Name x pos) X.env) Q E s :=
  Calls.Name_function_global I.ok.kind hg (Calls.loadGlobal_global (by rw [I.ok.glob]; exact I.mod.glob.keeps I.bk) hm h) hd
theorem ld_blt {E : Value → Shared → Prop} {pins : List (Addr × Obj)} {s : Shared} {σ : St} {H : Hp} {x : Str} {u : Value} {pos : Pos} {Q : Value → Shared → Prop} (I : Inv X pins σ H s) (hg : Gl X x) (hm : X.mg x = none) (hv : bootBuiltins x = some u) (h : Q u s)
    (hn : x ≠ "__name__" := by decide) (hd : (x == ("__debug__" : Str)) = false := by decide) : wpAny (model X.prog X.w) X.A (eval (.Name x pos) X.env) Q E s := by
  obtain ⟨mb, h1, h2⟩ := I.mod.blt
  exact Calls.Name_function_global I.ok.kind hg (Calls.loadGlobal_builtin (by rw [I.ok.glob]; exact I.mod.glob.keeps I.bk) hm (by rw [I.ok.blt]; exact h1.keeps I.bk) ((h2 x hn).trans hv) h) hd
theorem pe_glob {x : Str} {v : V} {u : Value} {pos : Pos} (hg : Gl X x) (hm : X.mg x = some u) (r : RelV v u) (hd : (x == ("__debug__" : Str)) = false := by decide) : PE X (.Name x pos) (tC v) :=
  fun _ _ _ H _ I h => ld_glob I hg hm ⟨v, H, I, r, h⟩ hd
theorem pe_bltn {x : Str} {v : V} {u : Value} {pos : Pos} (hg : Gl X x) (hm : X.mg x = none) (hv : bootBuiltins x = some u) (r : RelV v u) (hn : x ≠ "__name__" := by decide) (hd : (x == ("__debug__" : Str)) = false := by decide) : PE X (.Name x pos) (tC v) :=
  fun _ _ _ H _ I h => ld_blt I hg hm hv ⟨v, H, I, r, h⟩ hn hd
variable {a b : Expr} {ta tb : TE} {pos : Pos}
variable {tA tB' : TT} {rest : List Expr}
def tAnd (t u : TT) : TT := fun σ H Q => t σ H fun c H1 => if c = true then u σ H1 Q else Q false H1
def tOr (t u : TT) : TT := fun σ H Q => t σ H fun c H1 => if c = true then Q true H1 else u σ H1 Q
def tNot (t : TT) : TT := fun σ H Q => t σ H fun c H1 => Q (!c) H1
theorem pw_and1 (ha : PT X a tA) : PW X (.BoolOp .And [a] pos) tA := by
  intro wh pins s σ H Q I h
  refine isTrue_and (thn (ha pins s σ H Q I h) fun c s1 e => ?_)
  cases c with
  | true => exact isTrue_and_nil e
  | false => exact e
theorem pw_or1 (ha : PT X a tA) : PW X (.BoolOp .Or [a] pos) tA := by
  intro wh pins s σ H Q I h
  refine isTrue_or (thn (ha pins s σ H Q I h) fun c s1 e => ?_)
  cases c with
  | false => exact isTrue_or_nil e
  | true => exact e
theorem pw_and (ha : PT X a tA) (hb : PW X (.BoolOp .And (b :: rest) pos) tB') : PW X (.BoolOp .And (a :: b :: rest) pos) (tAnd tA tB') := by
  intro wh pins s σ H Q I h
  refine isTrue_and (thn (ha pins s σ H _ I h) fun c s1 ⟨H1, I1, q1⟩ => ?_)
  cases c with
  | true => exact hb wh pins s1 σ H1 Q I1 q1
  | false => exact ⟨H1, I1, q1⟩
theorem pw_or (ha : PT X a tA) (hb : PW X (.BoolOp .Or (b :: rest) pos) tB') : PW X (.BoolOp .Or (a :: b :: rest) pos) (tOr tA tB') := by
  intro wh pins s σ H Q I h
  refine isTrue_or (thn (ha pins s σ H _ I h) fun c s1 ⟨H1, I1, q1⟩ => ?_)
  cases c with
  | true => exact ⟨H1, I1, q1⟩
  | false => exact hb wh pins s1 σ H1 Q I1 q1
theorem pt_not (ha : PT X a tA) : PT X (.UnaryOp .Not a pos) (tNot tA) := by
  intro pins s σ H Q I h
  exact isTrue_not (ha pins s σ H (fun c H1 => Q (!c) H1) I h)
def tAndV (ta tb : TE) : TE := fun σ H Q => ta σ H fun x H1 => ∃ c, x = .bl c ∧ if c = true then tb σ H1 Q else Q (.bl false) H1
def tNotV (ta : TE) : TE := fun σ H Q => ta σ H fun x H1 => ∃ c, x = .bl c ∧ Q (.bl (!c)) H1
theorem pe_one {op} {t : TE} (h : PE X a t) : PE X (.BoolOp op [a] pos) t := fun pins s σ H Q I hw => BoolOp_one (h pins s σ H Q I hw)
theorem pe_and (ha : PE X a ta) (hb : PE X (.BoolOp .And (b :: rest) pos) tb) : PE X (.BoolOp .And (a :: b :: rest) pos) (tAndV ta tb) := by
  intro pins s σ H Q I h
  refine BoolOp_and (thn (ha pins s σ H _ I h) fun v s1 ⟨x, H1, I1, r1, q1⟩ => ?_)
  obtain ⟨c, rfl, q1⟩ := q1
  cases r1
  refine wpAny_truthy_bool ?_
  cases c with
  | true => exact hb pins s1 σ H1 Q I1 q1
  | false => exact ⟨.bl false, H1, I1, rfl, q1⟩
theorem pe_not (ha : PE X a ta) : PE X (.UnaryOp .Not a pos) (tNotV ta) := by
  intro pins s σ H Q I h
  refine UnaryOp_ (thn (ha pins s σ H _ I h) fun v s1 ⟨x, H1, I1, r1, q1⟩ => ?_)
  obtain ⟨c, rfl, q1⟩ := q1
  cases r1
  exact not_of (wpAny_truthy_bool ⟨.bl (!c), H1, I1, rfl, q1⟩)
end
end L2
namespace L2
open PySem PySem.Spec PyProof.Rows
def SqL (K : PySem.W.Frag) (H : Hp) (a : Addr) (xs : List V) : Prop :=
  Rd H a (.lst xs) ∨
    ∃ (o : Obj) (its : Array Value) (n : Nat), K.lookup a = some o ∧ o.cls = .type "list" ∧ o.dict = none ∧ o.data = .seq its n ∧ its.size ≤ sizeLine ∧ Vals xs its.toList
def SqT (K : PySem.W.Frag) (H : Hp) (a : Addr) (xs : List V) : Prop :=
  Rd H a (.tup xs) ∨
    ∃ (o : Obj) (its : Array Value) (n : Nat), K.lookup a = some o ∧ o.cls = .type "tuple" ∧ o.data = .seq its n ∧ its.size ≤ sizeLine ∧ Vals xs its.toList
def absV : Value → Option V
  | .none => some .non
  | .bool b => some (.bl b)
  | .int i _ => some (.int i)
  | .str x _ => some (.str x)
  | .bytes b _ => some (.byt b)
  | .float b _ => some (.flt b)
  | .ref a => some (.ref a)
  | .type n => some (.ty n)
  | _ => none
theorem RelV.abs {x : V} {u : Value} (r : RelV x u) : absV u = some x := by
  cases x with
  | non => cases r; rfl
  | bl _ => cases r; rfl
  | int _ => obtain ⟨t, rfl⟩ := r; rfl
  | str _ => obtain ⟨t, rfl⟩ := r; rfl
  | byt _ => obtain ⟨t, rfl⟩ := r; rfl
  | flt _ => obtain ⟨t, rfl⟩ := r; rfl
  | ref _ => cases r; rfl
  | ty _ => cases r; rfl
theorem RelV.inj {x y : V} {u : Value} (r : RelV x u) (q : RelV y u) : x = y := Option.some.inj (r.abs.symm.trans q.abs)
theorem Vals.inj : ∀ {xs ys : List V} {us : List Value}, Vals xs us → Vals ys us → xs = ys
  | _, _, _, .nil, .nil => rfl
  | _, _, _, .cons r t, .cons r' t' => by rw [r.inj r', Vals.inj t t']
section
variable {X : Cx} {pins : List (Addr × Obj)} {σ : St} {H : Hp} {s : Shared} {a : Addr} {xs ys : List V}
theorem SqL.of {K : PySem.W.Frag} (h : H a = some (.lst xs)) : SqL K H a xs := .inl (.inl h)
theorem SqT.of {K : PySem.W.Frag} (h : H a = some (.tup xs)) : SqT K H a xs := .inl (.inl h)
theorem Inv.list (I : Inv X pins σ H s) (h : SqL X.K H a xs) : ∃ its : List Value, Vals xs its ∧ PlainL s.heap a its.toArray ∧ xs.length ≤ sizeLine := by
  rcases h with h | ⟨o, its, n, hk, hc, hd, hs, hz, r⟩
  · obtain ⟨z, its, n, r, e⟩ := h.ok I.hok
    exact ⟨its, r, ⟨_, n, e, rfl, rfl, rfl⟩, z⟩
  · refine ⟨its.toList, r, ⟨o, n, I.kIn a o hk, hc, hd, by simpa using hs⟩, ?_⟩
    have e := r.length
    simp only [Array.length_toList] at e
    omega
theorem Inv.tuple (I : Inv X pins σ H s) (h : SqT X.K H a xs) : ∃ its : List Value, Vals xs its ∧ IsTup s.heap a its.toArray ∧ xs.length ≤ sizeLine := by
  rcases h with h | ⟨o, its, n, hk, hc, hs, hz, r⟩
  · obtain ⟨z, its, r, p⟩ := h.ok I.hok
    exact ⟨its, r, p, z⟩
  · refine ⟨its.toList, r, ⟨o, I.kIn a o hk, hc, n, by simpa using hs⟩, ?_⟩
    have e := r.length
    simp only [Array.length_toList] at e
    omega
theorem Inv.list_inj (I : Inv X pins σ H s) (h : SqL X.K H a xs) (h' : SqL X.K H a ys) : xs = ys := by
  obtain ⟨its, r, ⟨o, n, e, _, _, d⟩, _⟩ := I.list h
  obtain ⟨its', r', ⟨o', n', e', _, _, d'⟩, _⟩ := I.list h'
  rw [e] at e'; cases e'
  rw [d] at d'
  injection d' with d1 _
  have : its = its' := by simpa using congrArg Array.toList d1
  subst this
  exact r.inj r'
end
section
variable {X : Cx} {pins : List (Addr × Obj)} {σ : St} {H : Hp} {s : Shared} {E : Value → Shared → Prop}
end
section
variable {X : Cx} {st : Stmt} {rest : List Stmt} {t u : TS} {e : Expr} {te : TE} {pos : Pos}
def tNext : TS := fun D σ H => D.nx σ H
def tSeq (t u : TS) : TS := fun D σ H => t { D with nx := u D } σ H
theorem pss_nil : PSs X [] tNext := fun _ _ σ H _ I h => wpAny_execs_nil ⟨σ, H, I, h⟩
theorem pss_cons (h1 : PS X st t) (h2 : PSs X rest u) : PSs X (st :: rest) (tSeq t u) := by
  intro pins s σ H D I h
  refine wpAny_execs_cons (thn (h1 pins s σ H { D with nx := u D } I h) fun f s1 q => ?_)
  cases f with
  | next =>
    obtain ⟨σ', H', I', q⟩ := q
    exact h2 pins s1 σ' H' D I' q
  | ret v => exact q
  | brk => exact q
  | cont => exact q
theorem pss_one (h1 : PS X st t) : PSs X [st] t := by
  intro pins s σ H D I h
  refine wpAny_execs_cons (thn (h1 pins s σ H D I h) fun f s1 q => ?_)
  cases f with
  | next => exact wpAny_execs_nil q
  | ret v => exact q
  | brk => exact q
  | cont => exact q
theorem Inv.quiet {pins : List (Addr × Obj)} {σ : St} {H : Hp} {s : Shared} (I : Inv X pins σ H s) : interactive X.env = false := by simp [interactive, I.ok.kind]
def tDrop (te : TE) : TS := fun D σ H => te σ H fun _ H1 => D.nx σ H1
theorem ps_expr (he : PE X e te) (hs : swapsWith e none pos.line X.env = pure false := by rfl) : PS X (.Expr e pos) (tDrop te) := by
  intro pins s σ H D I h
  exact wpAny_Expr_any (thn (he pins s σ H _ I h) fun v s1 ⟨x, H1, I1, r1, q1⟩ => ⟨σ, H1, I1, q1⟩) I.quiet hs
def tRet (te : TE) : TS := fun D σ H => te σ H D.rt
theorem ps_ret (he : PE X e te) : PS X (.Return (some e) pos) (tRet te) := by
  intro pins s σ H D I h
  exact wpAny_Return_some (thn (he pins s σ H _ I h) fun v s1 ⟨x, H1, I1, r1, q1⟩ => ⟨x, σ, H1, I1, r1, q1⟩)
def tIfS (c : TT) (t u : TS) : TS := fun D σ H => c σ H fun b H1 => if b = true then t D σ H1 else u D σ H1
theorem ps_if {c : Expr} {a b : List Stmt} {tc : TT} (hc : PT X c tc) (ha : PSs X a t) (hb : PSs X b u) : PS X (.If c a b pos) (tIfS tc t u) := by
  intro pins s σ H D I h
  refine wpAny_If (thn (hc pins s σ H _ I h) fun d s1 ⟨H1, I1, q1⟩ => ?_)
  cases d with
  | true => exact ha pins s1 σ H1 D I1 q1
  | false => exact hb pins s1 σ H1 D I1 q1
end
abbrev TG := V → St → Hp → (St → Hp → Prop) → Prop
abbrev TGs := List V → St → Hp → (St → Hp → Prop) → Prop
def PG (X : Cx) (target : Expr) (t : TG) : Prop :=
  ∀ (pins : List (Addr × Obj)) (s : Shared) (σ : St) (H : Hp) (v : V) (u : Value) (Q : St → Hp → Prop), Inv X pins σ H s → RelV v u → t v σ H Q →
    wpAny (model X.prog X.w) X.A (assign target X.env u) (fun _ s' => ∃ σ' H', Inv X pins σ' H' s' ∧ Q σ' H') X.xe s
def PGs (X : Cx) (ts : List Expr) (t : TGs) : Prop :=
  ∀ (pins : List (Addr × Obj)) (s : Shared) (σ : St) (H : Hp) (vs : List V) (us : List Value) (Q : St → Hp → Prop), Inv X pins σ H s → Vals vs us → t vs σ H Q →
    wpAny (model X.prog X.w) X.A (assignInOrder ((assignEach ts X.env).map (·.2)) us) (fun _ s' => ∃ σ' H', Inv X pins σ' H' s' ∧ Q σ' H') X.xe s
abbrev TSet := V → V → V → Hp → (Hp → Prop) → Prop
def PSet (X : Cx) (t : TSet) : Prop :=
  ∀ (pins : List (Addr × Obj)) (s : Shared) (σ : St) (H : Hp) (o i v : V) (ov iv u : Value) (Q : Hp → Prop), Inv X pins σ H s → RelV o ov → RelV i iv → RelV v u → t o i v H Q →
    wpAny (model X.prog X.w) X.A (setItem ov iv u) (fun _ s' => ∃ H', Inv X pins σ H' s' ∧ Q H') X.xe s
abbrev TIp := V → V → Hp → VK → Prop
def PIp (X : Cx) (op : Operator) (t : TIp) : Prop :=
  ∀ (pins : List (Addr × Obj)) (s : Shared) (σ : St) (H : Hp) (x y : V) (v u : Value) (Q : VK), Inv X pins σ H s → RelV x v → RelV y u → t x y H Q →
    wpAny (model X.prog X.w) X.A (inplaceOp op v u) (EP X pins σ Q) X.xe s
section
variable {X : Cx} {pos : Pos}
def gName (i : Nat) : TG := fun v σ H Q => Q (σ.set i (some v)) H
theorem pg_name {i : Nat} {x : Str} (hN : X.N.Nodup) (hi : X.N[i]? = some x) (hx : Loc X.env.scope x) (hf : X.fn x = true ∨ X.env.scope.names.lookup x = some .local := by first | exact .inl rfl | exact .inr rfl | assumption) : PG X (.Name x pos) (gName i) := by
  intro pins s σ H v u Q I r h
  exact wpAny_assign_Name (store_ok I hN hi hx r (fun s' I' => ⟨_, H, I', h⟩) hf)
def gNil : TGs := fun vs σ H Q => vs = [] ∧ Q σ H
def gCons (t : TG) (u : TGs) : TGs := fun vs σ H Q => ∃ v r, vs = v :: r ∧ t v σ H fun σ' H' => u r σ' H' Q
theorem pgs_nil : PGs X [] gNil := by
  intro pins s σ H vs us Q I r h
  obtain ⟨e, h⟩ := h
  subst e
  cases r
  exact assignInOrder_nil ⟨σ, H, I, h⟩
theorem pgs_cons {e : Expr} {es : List Expr} {t : TG} {u : TGs} (h1 : PG X e t) (h2 : PGs X es u)
    (hs : (assignEach (e :: es) X.env).map (·.2) = assign e X.env :: (assignEach es X.env).map (·.2) := by rfl) : PGs X (e :: es) (gCons t u) := by
  intro pins s σ H vs us Q I r h
  obtain ⟨v, vr, e1, h⟩ := h
  subst e1
  cases r with
  | cons r rr =>
    rw [hs]
    refine assignInOrder_cons (thn (h1 pins s σ H _ _ _ I r h) fun _ s1 ⟨σ1, H1, I1, q1⟩ => ?_)
    exact h2 pins s1 σ1 H1 _ _ Q I1 rr q1
def gTup (K : PySem.W.Frag) (n : Nat) (t : TGs) : TG := fun v σ H Q => ∃ a xs, v = .ref a ∧ SqT K H a xs ∧ xs.length = n ∧ t xs σ H Q
theorem pg_tup {es : List Expr} {k : Nat} {t : TGs} {n : Nat} (hc : X.calm = true) (h : PGs X es t)
    (hn : (assignEach es X.env).length = n := by rfl) (hst : (assignEach es X.env).findIdx? (·.1) = none := by rfl) : PG X (.Tuple es k pos) (gTup X.K n t) := by
  intro pins s σ H v u Q I r hw
  obtain ⟨a, xs, e1, hq, hl, hw⟩ := hw
  subst e1
  cases r
  obtain ⟨its, rv, ht, hz⟩ := I.tuple hq
  refine assign_Tuple_tuple (I.ok.hd hc) ht (by simp [hn, ← hl, rv.length]) hst fun h' hx => ?_
  have I1 : Inv X pins σ H { s with heap := h' } := I.kept (t' := s.toks) fun b o e => hx b o (Nat.ne_of_lt (Heap.lt_size e)) e
  exact h pins _ σ H xs _ Q I1 (by simpa using rv) hw
def gSub (to ti : TE) (t : TSet) : TG := fun v σ H Q => to σ H fun o H1 => ti σ H1 fun i H2 => t o i v H2 fun H3 => Q σ H3
theorem pg_sub {o i : Expr} {to ti : TE} {t : TSet} (ho : PE X o to) (hi : PE X i ti) (hs : PSet X t)
    (ha : ∀ v, assign (.Subscript o i pos) X.env v = (do
      let ov ← holding [v] (eval o X.env)
      let iv ← holding [v, ov] (eval i X.env)
      standAt pos
      holding [v, ov, iv] (setItem ov iv v)
      release [v, ov, iv] []) := by intro _; rfl) : PG X (.Subscript o i pos) (gSub to ti t) := by
  intro pins s σ H v u Q I r h
  rw [ha]
  refine wpAny_bind (wpAny_holding (thn (ho pins s σ H _ I h) fun ov s1 ⟨x, H1, I1, r1, q1⟩ => ?_))
  refine wpAny_bind (wpAny_holding (thn (hi pins s1 σ H1 _ I1 q1) fun iv s2 ⟨y, H2, I2, r2, q2⟩ => ?_))
  refine wpAny_bind (wpAny_standAt (wpAny_bind (wpAny_holding (thn (hs pins s2 σ H2 x y v ov iv u _ I2 r1 r2 r q2) fun _ s3 ⟨H3, I3, q3⟩ => ?_))))
  exact wpAny_release ⟨σ, H3, I3, q3⟩
def tAsg (te : TE) (g : TG) : TS := fun D σ H => te σ H fun x H1 => g x σ H1 D.nx
theorem ps_asg {tg e : Expr} {te : TE} {g : TG} (he : PE X e te) (hg : PG X tg g) (hs : swapsWithSole [tg] e pos.line X.env = pure false := by rfl) (hw : swappedStores [tg] e X.env = pure none := by rfl)
    (h1 : (assignEach [tg] X.env).map (·.2) = [assign tg X.env] := by rfl) : PS X (.Assign [tg] e pos) (tAsg te g) := by
  intro pins s σ H D I h
  refine wpAny_Assign_stores (thn (he pins s σ H _ I h) fun v s1 ⟨x, H1, I1, r1, q1⟩ => ?_) hs hw
  rw [h1]
  exact thn (hg pins s1 σ H1 x v _ I1 r1 q1) fun _ s2 q => q
theorem ps_set {i : Nat} {x : Str} {e : Expr} {te : TE} {pos' : Pos} (hN : X.N.Nodup) (hi : X.N[i]? = some x) (hx : Loc X.env.scope x) (he : PE X e te) (hs : swapsWith e (some (.Name x pos')) pos.line X.env = pure false := by rfl) (hf : X.fn x = true ∨ X.env.scope.names.lookup x = some .local := by first | exact .inl rfl | exact .inr rfl | assumption) :
    PS X (.Assign [.Name x pos'] e pos) (tAsg te (gName i)) := by
  intro pins s σ H D I h
  refine wpAny_Assign_Name (thn (he pins s σ H _ I h) fun v s1 ⟨y, H1, I1, r1, q1⟩ => ?_) hs
  exact store_ok I1 hN hi hx r1 (fun s2 I2 => ⟨_, H1, I2, q1⟩) hf
def tAug (i : Nat) (te : TE) (ti : TIp) : TS := fun D σ H => ∃ x, σ[i]? = some (some x) ∧ te σ H fun y H1 => ti x y H1 fun z H2 => D.nx (σ.set i (some z)) H2
theorem ps_aug {i : Nat} {x : Str} {e : Expr} {te : TE} {op : Operator} {ti : TIp} {pos' : Pos} (hN : X.N.Nodup) (hi : X.N[i]? = some x) (hx : Loc X.env.scope x) (he : PE X e te) (ho : PIp X op ti) (hf : X.fn x = true ∨ X.env.scope.names.lookup x = some .local := by first | exact .inl rfl | exact .inr rfl | assumption) :
    PS X (.AugAssign (.Name x pos') op e pos) (tAug i te ti) := by
  intro pins s σ H D I h
  obtain ⟨v, e1, h⟩ := h
  obtain ⟨m, hn, hl⟩ := I.loc
  have vis : Vis X.env.scope x := by rcases hx with k | k; exact .inl k; exact .inr (.inl k)
  obtain ⟨u, r, l⟩ := hl i x v hi e1 vis
  refine wpAny_AugAssign_Name ?_
  have go : wpAny (model X.prog X.w) X.A (eval e X.env) (fun w s₂ => wpAny (model X.prog X.w) X.A (inplaceOp op u w) (fun r s₃ => wpAny (model X.prog X.w) X.A (storeName X.env x r) (fun _ => SP X pins D .next) X.xe s₃) X.xe s₂) X.xe s := by
    refine thn (he pins s σ H _ I h) fun w s1 ⟨y, H1, I1, r1, q1⟩ => ?_
    refine thn (ho pins s1 σ H1 v y u w _ I1 r r1 q1) fun z s2 ⟨zv, H2, I2, r2, q2⟩ => ?_
    exact store_ok I2 hN hi hx r2 (fun s3 I3 => ⟨_, H2, I3, q2⟩) hf
  rcases l with ⟨hk, hm⟩ | ⟨hk, c, hc, hcell⟩
  · exact wpAny_loadName_local I.ok.kind hk hn hm go
  · rcases hk with hk | hk
    · exact wpAny_loadName_cell I.ok.kind hk hc hcell go
    · rcases hx with k | k
      · have : X.env.scope.names.lookup x = some .free := hk
        rw [k] at this; cases this
      · have : X.env.scope.names.lookup x = some .free := hk
        rw [k] at this; cases this
def tAugS (to ti te : TE) (tget : V → V → Hp → VK → Prop) (tip : TIp) (tset : TSet) : TS := fun D σ H => to σ H fun o H1 => ti σ H1 fun i H2 => tget o i H2 fun x H3 => te σ H3 fun y H4 => tip x y H4 fun z H5 => tset o i z H5 fun H6 => D.nx σ H6
def PGet (X : Cx) (t : V → V → Hp → VK → Prop) : Prop :=
  ∀ (pins : List (Addr × Obj)) (s : Shared) (σ : St) (H : Hp) (o i : V) (ov iv : Value) (Q : VK), Inv X pins σ H s → RelV o ov → RelV i iv → t o i H Q →
    wpAny (model X.prog X.w) X.A (getItem ov iv) (EP X pins σ Q) X.xe s
theorem ps_augS {o i e : Expr} {to ti te : TE} {tget : V → V → Hp → VK → Prop} {tip : TIp} {tset : TSet} {op : Operator} {tpos : Pos} (ho : PE X o to) (hi : PE X i ti) (hg : PGet X tget) (he : PE X e te) (hp : PIp X op tip) (hs : PSet X tset)
    (ha : ∀ ov iv new, augStore i ov iv new = (do holding [new, ov, iv] (setItem ov iv new); release [new, ov, iv] []; pure .next) := by intros; rfl) : PS X (.AugAssign (.Subscript o i tpos) op e pos) (tAugS to ti te tget tip tset) := by
  intro pins s σ H D I h
  refine wpAny_AugAssign_SubscriptAny (thn (ho pins s σ H _ I h) fun ov s1 ⟨x1, H1, I1, r1, q1⟩ => ?_) ha
  refine thn (hi pins s1 σ H1 _ I1 q1) fun iv s2 ⟨x2, H2, I2, r2, q2⟩ => ?_
  refine thn (hg pins s2 σ H2 x1 x2 ov iv _ I2 r1 r2 q2) fun old s3 ⟨x3, H3, I3, r3, q3⟩ => ?_
  refine thn (he pins s3 σ H3 _ I3 q3) fun v s4 ⟨x4, H4, I4, r4, q4⟩ => ?_
  refine thn (hp pins s4 σ H4 x3 x4 old v _ I4 r3 r4 q4) fun new s5 ⟨x5, H5, I5, r5, q5⟩ => ?_
  exact thn (hs pins s5 σ H5 x1 x2 x5 ov iv new _ I5 r1 r2 r5 q5) fun _ s6 ⟨H6, I6, q6⟩ => ⟨σ, H6, I6, q6⟩
def ipI (f : Int → Int → Int) : TIp := fun x y H Q => ∃ i j, x = .int i ∧ y = .int j ∧ Q (.int (f i j)) H
theorem ip_add : PIp X .Add (ipI fun i j => i + j) := by
  intro pins s σ H x y v u Q I r1 r2 h
  obtain ⟨i, j, e1, e2, q⟩ := h
  subst e1; subst e2
  obtain ⟨t, rfl⟩ := r1
  obtain ⟨t', rfl⟩ := r2
  exact iadd_int ⟨.int _, H, I.tok _, ⟨_, rfl⟩, q⟩
theorem ip_sub : PIp X .Sub (ipI fun i j => i - j) := by
  intro pins s σ H x y v u Q I r1 r2 h
  obtain ⟨i, j, e1, e2, q⟩ := h
  subst e1; subst e2
  obtain ⟨t, rfl⟩ := r1
  obtain ⟨t', rfl⟩ := r2
  exact isub_int ⟨.int _, H, I.tok _, ⟨_, rfl⟩, q⟩
end
section
variable {X : Cx} {pos : Pos}
end
structure It where
  go : Nat → Hp → Prop
  yld : Nat → Hp → V → Hp → Prop
  stop : Nat → Hp → Prop
def FpOk (X : Cx) (pins : List (Addr × Obj)) (H : Hp) (b : Addr) : Prop :=
  H b = none ∧ b ≠ X.env.locals ∧ b ∉ X.fs ∧ (b ∈ X.ex ∨ X.s₀.heap.objs.size ≤ b) ∧ (∀ x c, X.env.cells.lookup x = some c → c ≠ b) ∧ ∀ p ∈ X.pn ++ pins, p.1 ≠ b
theorem Inv.fpOk {X : Cx} {pins : List (Addr × Obj)} {σ : St} {H H' : Hp} {s : Shared} {b : Addr} (I : Inv X pins σ H s) (hb : s.heap.objs.size ≤ b) (hn : H' b = none) : FpOk X pins H' b := by
  refine ⟨hn, Nat.ne_of_gt (Nat.lt_of_lt_of_le I.lt hb), I.nofs hb, .inr (Nat.le_trans I.sz hb), fun x c e z => ?_, fun p hp z => ?_⟩
  · obtain ⟨v, q⟩ := I.cell x c e
    exact absurd (Nat.lt_of_lt_of_le q.lt (by rw [z]; exact hb)) (Nat.lt_irrefl _)
  · exact absurd (Nat.lt_of_lt_of_le (Heap.lt_size (I.pin p hp).1) (by rw [z]; exact hb)) (Nat.lt_irrefl _)
structure Turn (P : Program) (w : World) (K : PySem.W.Frag) (tg : Expr) (J : It) (fp : List Addr) (it : Addr) (tn : Nat → Heap → Prop) : Prop where
  mem : it ∈ fp
  obj : ∀ i h, tn i h → ∀ b ∈ fp, ∃ o, h.get? b = some o ∧ ∀ v, o.data ≠ .cell v
  keep : ∀ i h h', tn i h → (∀ b ∈ fp, ∀ o, h.get? b = some o → h'.get? b = some o) → tn i h'
  item : ∀ (X : Cx), X.prog = P → X.w = w → X.K = K → X.calm = true → ∀ (i : Nat) (pins : List (Addr × Obj)) (s : Shared) (σ : St) (H : Hp) (E : Value → Shared → Prop), Inv X pins σ H s → (∀ b ∈ fp, FpOk X pins H b) → tn i s.heap → J.go i H →
    wpAny (model P w) X.A (pyNext (.ref it)) (fun r s1 => ∃ u, r = some u ∧
      wpAny (model P w) X.A (letOwnedTupleGo tg (.ref it) u) (fun _ s2 => ∃ x H', Inv X pins σ H' s2 ∧ RelV x u ∧ J.yld i H x H' ∧ tn (i + 1) s2.heap ∧ ∀ b ∈ fp, H' b = none) E s1) E s
  done : ∀ (X : Cx), X.prog = P → X.w = w → X.K = K → X.calm = true → ∀ (i : Nat) (pins : List (Addr × Obj)) (s : Shared) (σ : St) (H : Hp) (E : Value → Shared → Prop), Inv X pins σ H s → (∀ b ∈ fp, FpOk X pins H b) → tn i s.heap → J.stop i H →
    wpAny (model P w) X.A (pyNext (.ref it)) (fun r s1 => r = none ∧ Inv X pins σ H s1) E s
  self : ∀ (A : Around) (i : Nat) (s : Shared) (Q : Value → Shared → Prop) (E : Value → Shared → Prop), tn i s.heap → Q (.ref it) s → wpAny (model P w) A (pyIter (.ref it)) Q E s
abbrev TI := St → Hp → (It → Hp → Prop) → Prop
def PIE (X : Cx) (pins : List (Addr × Obj)) (σ : St) (tg : Expr) (R : It → Hp → Prop) (itv : Value) (s2 : Shared) : Prop :=
  ∃ (it : Addr) (fp : List Addr) (tn : Nat → Heap → Prop) (J : It) (H' : Hp), itv = .ref it ∧ Inv X pins σ H' s2 ∧ Turn X.prog X.w X.K tg J fp it tn ∧ tn 0 s2.heap ∧ (∀ b ∈ fp, FpOk X pins H' b) ∧ R J H'
def PI (X : Cx) (tg iter : Expr) (wi : TI) : Prop :=
  ∀ (pins : List (Addr × Obj)) (s : Shared) (σ : St) (H : Hp) (R : It → Hp → Prop), Inv X pins σ H s → wi σ H R →
    wpAny (model X.prog X.w) X.A (eval iter X.env) (fun v s1 => wpAny (model X.prog X.w) X.A (pyIter v) (PIE X pins σ tg R) X.xe s1) X.xe s
theorem go_of {M : Model} {A : Around} {E : Value → Shared → Prop} {s : Shared} {tg : Expr} {it : Addr} {u : Value} {o : Obj} {n : String} {vs : Array Value} {Q : Unit → Shared → Prop} (ho : s.heap.get? it = some o) (hc : o.cls = .type n) (hd : o.data = .fields vs)
    (hn : ["enumerate", "zip", "dict_itemiterator", "dict_reverseitemiterator", "odict_iterator", "itertools.zip_longest", "itertools.pairwise"].contains n = false) (hQ : Q () s) : wpAny M A (letOwnedTupleGo tg (.ref it) u) Q E s := by
  unfold letOwnedTupleGo
  cases tg <;> first
    | exact wpAny_pure hQ
    | (cases u <;> first
        | exact wpAny_pure hQ
        | (refine wpAny_bind (wpAny_load ho ?_)
           rw [hc, hd]
           show wpAny M A (if (["enumerate", "zip", "dict_itemiterator", "dict_reverseitemiterator", "odict_iterator", "itertools.zip_longest", "itertools.pairwise"].contains n && vs[0]? == some (rawInt _)) = true then _ else _) Q E s
           rw [if_neg (by intro h; rw [hn, Bool.false_and] at h; cases h)]
           exact wpAny_pure hQ))
def Itl (K : PySem.W.Frag) (a : Addr) : It :=
  ⟨fun i H => ∃ xs x, SqL K H a xs ∧ xs[i]? = some x, fun i H x H' => H' = H ∧ ∀ xs, SqL K H a xs → xs[i]? = some x, fun i H => ∃ xs, SqL K H a xs ∧ xs.length ≤ i⟩
def Itr (lo : Int) (n : Nat) : It := ⟨fun i _ => i < n, fun i H x H' => H' = H ∧ x = .int (lo + i), fun i _ => n ≤ i⟩
theorem turn_list {P : Program} {w : World} {K : PySem.W.Frag} {tg : Expr} (a it : Addr) : Turn P w K tg (Itl K a) [it] it (fun i h => h.IsListIter it a i) where
  mem := by simp
  obj := fun i h st b hb => by
    have e : b = it := by simpa using hb
    subst e
    obtain ⟨o, e, c, d⟩ := st
    exact ⟨o, e, fun v z => by rw [d] at z; cases z⟩
  keep := fun i h h' st k => st.at fun o e => k it (by simp) o e
  item := by
    intro X hP hw hK hc i pins s σ H E I hf st hg
    subst hP hw hK
    obtain ⟨xs, x, hq, hx⟩ := hg
    obtain ⟨its, rv, p, hz⟩ := I.list hq
    obtain ⟨u, hu, ru⟩ := rv.get hx
    obtain ⟨f0, f1, f2, f3, f4, f5⟩ := hf it (by simp)
    refine wpAny_pyNext_list_item st p.isList (x := u) (by simpa using hu) fun h' st' sb => ?_
    have I1 : Inv X pins σ H { s with heap := h' } := I.turned (t' := s.toks) (fun b o hb e => (sb.2 b hb).trans e) f0 f1 f3 f4 f5
    obtain ⟨o, e, c, d⟩ := id st'
    exact ⟨u, rfl, go_of (s := { s with heap := h' }) e c d (by decide) ⟨x, H, I1, ru, ⟨rfl, fun ys hy => by rw [I.list_inj hy hq]; exact hx⟩, st', fun b hb => (hf b hb).1⟩⟩
  done := by
    intro X hP hw hK hc i pins s σ H E I hf st hg
    subst hP hw hK
    obtain ⟨xs, hq, hx⟩ := hg
    obtain ⟨its, rv, p, hz⟩ := I.list hq
    obtain ⟨f0, f1, f2, f3, f4, f5⟩ := hf it (by simp)
    have hl := rv.length
    exact wpAny_pyNext_list_end (I.ok.hd hc) st p.isList (by simp; omega) fun h' eb => ⟨rfl, I.turned (t' := s.toks) (fun b o hb e => eb b o hb e) f0 f1 f3 f4 f5⟩
  self := fun _ _ _ _ _ st h => wpAny_pyIter_listiter st h
theorem turn_range {P : Program} {w : World} {K : PySem.W.Frag} {tg : Expr} (it : Addr) (lo : Int) (n : Nat) : Turn P w K tg (Itr lo n) [it] it (fun i h => IsRangeIter h it (lo + (i : Nat) * 1) ((n : Int) - (i : Nat)) 1) where
  mem := by simp
  obj := fun i h st b hb => by
    have e : b = it := by simpa using hb
    subst e
    exact ⟨_, st, fun v z => by
      have z' : Data.fields _ = Data.cell v := z
      cases z'⟩
  keep := fun i h h' st k => k it (by simp) _ st
  item := by
    intro X hP hw hK hc i pins s σ H E I hf st hg
    subst hP hw hK
    obtain ⟨f0, f1, f2, f3, f4, f5⟩ := hf it (by simp)
    have W := Walks.range (prog := X.prog) (w := X.w) (I.ok.hd hc) it lo 1 n
    refine W.item i s _ _ hg st fun v h' tk hv st' kk => ?_
    obtain ⟨t, rfl⟩ := hv
    have I1 : Inv X pins σ H { s with heap := h', toks := tk } := I.turned (fun b o hb e => kk b o (by simpa using hb) e) f0 f1 f3 f4 f5
    refine ⟨_, rfl, go_of (s := { s with heap := h', toks := tk }) (n := "range_iterator") st' rfl rfl (by decide) ⟨.int (lo + i), H, I1, ⟨t, ?_⟩, ⟨rfl, rfl⟩, st', fun b hb => (hf b hb).1⟩⟩
    rw [Int.mul_one]
  done := by
    intro X hP hw hK hc i pins s σ H E I hf st hg
    subst hP hw hK
    obtain ⟨f0, f1, f2, f3, f4, f5⟩ := hf it (by simp)
    exact wpAny_pyNext_range_end (I.ok.hd hc) st (by have : n ≤ i := hg; omega) fun h' eb => ⟨rfl, I.turned (t' := s.toks) (fun b o hb e => eb b o hb e) f0 f1 f3 f4 f5⟩
  self := fun _ _ _ _ _ st h => wpAny_pyIter_rangeiter st h
end L2
namespace L2
open PySem PySem.Spec PyProof.Rows
section
variable {X : Cx} {tg : Expr}
def iList (K : PySem.W.Frag) (tl : TE) : TI := fun σ H R => tl σ H fun x H1 => ∃ a, x = .ref a ∧ (∃ xs, SqL K H1 a xs) ∧ R (Itl K a) H1
theorem pi_list {l : Expr} {tl : TE} (hl : PE X l tl) : PI X tg l (iList X.K tl) := by
  intro pins s σ H R I h
  refine thn (hl pins s σ H _ I h) fun v s1 ⟨x, H1, I1, r1, q1⟩ => ?_
  obtain ⟨a, e, ⟨xs, hq⟩, q⟩ := q1
  subst e
  cases r1
  obtain ⟨its, rv, p, hz⟩ := I1.list hq
  refine wpAny_pyIter_list p.isList ?_
  refine ⟨s1.heap.objs.size, [s1.heap.objs.size], _, _, H1, rfl, I1.kept (t' := s1.toks) fun b o e => Heap.get?_push_of_some _ e, turn_list a _, ⟨_, Heap.get?_push_size _ rfl, rfl, rfl⟩, fun b hb => ?_, q⟩
  have e : b = s1.heap.objs.size := by simpa using hb
  subst e
  exact I1.fpOk (Nat.le_refl _) (I1.hok.fresh (Nat.le_refl _))
theorem range_it {pins : List (Addr × Obj)} {σ : St} {H : Hp} {s : Shared} {R : It → Hp → Prop} {E : Value → Shared → Prop} {lo hi : Int} {t u v : Tok} {tk : Nat} (I : Inv X pins σ H s) (h1 : -(2 ^ 62) ≤ lo) (h2 : lo < 2 ^ 62) (h3 : -(2 ^ 62) ≤ hi) (h4 : hi < 2 ^ 62)
    (q : R (Itr lo (hi - lo).toNat) H) : wpAny (model X.prog X.w) X.A (pyIter (.ref s.heap.objs.size)) (PIE X pins σ tg R) E { s with heap := s.heap.push { cls := .type "range", data := .fields #[.int lo t, .int hi u, .int 1 v] }, toks := tk } := by
  refine wpAny_pyIter_range (IsRange.new ..) (small_one h1 h2 h3 h4) ?_
  have I1 : Inv X pins σ H { s with heap := s.heap.push { cls := .type "range", data := .fields #[.int lo t, .int hi u, .int 1 v] }, toks := tk } := I.kept fun b o e => Heap.get?_push_of_some _ e
  refine ⟨(s.heap.push { cls := .type "range", data := .fields #[.int lo t, .int hi u, .int 1 v] }).objs.size, [(s.heap.push { cls := .type "range", data := .fields #[.int lo t, .int hi u, .int 1 v] }).objs.size], _, _, H, rfl,
    I1.kept (t' := tk) fun b o e => Heap.get?_push_of_some _ e, turn_range _ lo (hi - lo).toNat, ?_, fun b hb => ?_, q⟩
  · have e1 : lo + ((0 : Nat) : Int) * 1 = lo := by simp
    have e2 : (((hi - lo).toNat : Nat) : Int) - ((0 : Nat) : Int) = Builtin.Range.rangeSize lo hi 1 := by rw [rangeSize_one]; split <;> omega
    show IsRangeIter _ _ (lo + ((0 : Nat) : Int) * 1) ((((hi - lo).toNat : Nat) : Int) - ((0 : Nat) : Int)) 1
    rw [e1, e2]
    exact Heap.get?_push_size _ rfl
  · have e : b = (s.heap.push { cls := .type "range", data := .fields #[.int lo t, .int hi u, .int 1 v] }).objs.size := by simpa using hb
    subst e
    exact I1.fpOk (Nat.le_refl _) (I1.hok.fresh (Nat.le_refl _))
def iRng1 (ta : TA) : TI := fun σ H R => ta σ H fun vs H1 => ∃ j : Int, vs = [.int j] ∧ -(2 ^ 62) ≤ j ∧ j < 2 ^ 62 ∧ R (Itr 0 j.toNat) H1
theorem pi_range1 {a : Expr} {ta : TA} {p pos : Pos} (hg : Gl X "range") (hm : X.mg "range" = none) (ha : PA X [a] ta) (hs : starEach [a] X.env = [(false, eval a X.env)] := by rfl) : PI X tg (.Call (.Name "range" p) [a] [] pos) (iRng1 ta) := by
  intro pins s σ H R I h
  refine Call_ (ld_blt I hg hm boot_range (PyProof.Rows.callWith_type1 (thn (ha pos pins s σ H _ I h) fun us s1 ⟨vs, H1, I1, r1, q1⟩ => ?_) hs rfl))
  obtain ⟨j, e, q1, q2, q⟩ := q1
  subst e
  cases r1 with
  | cons r rr =>
    cases rr
    obtain ⟨t, rfl⟩ := r
    exact call_range_1 (range_it I1 (by omega) (by omega) q1 q2 (by simpa using q))
def tFor (wi : TI) (g : TG) (tb : TS) : TS := fun D σ H => wi σ H fun J H1 => ∃ W : Nat → Nat → St → Hp → Prop, (∃ m, W 0 m σ H1) ∧ ∀ i m σ H, W i m σ H →
  (J.stop i H ∧ D.nx σ H) ∨ (J.go i H ∧ ∃ N : St → Hp → Prop, (∀ σ' H', N σ' H' → ∃ m', m' < m ∧ W (i + 1) m' σ' H') ∧ ∀ x H', J.yld i H x H' → g x σ H' fun σ2 H2 => tb { D with nx := N, ct := N, bk := D.nx } σ2 H2)
def pinsAt (fp : List Addr) (h : Heap) : List (Addr × Obj) := fp.filterMap fun b => (h.get? b).map fun o => (b, o)
theorem mem_pinsAt {fp : List Addr} {h : Heap} {b : Addr} {o : Obj} (hb : b ∈ fp) (e : h.get? b = some o) : (b, o) ∈ pinsAt fp h := List.mem_filterMap.mpr ⟨b, hb, by rw [e]; rfl⟩
theorem of_pinsAt {fp : List Addr} {h : Heap} {p : Addr × Obj} (hp : p ∈ pinsAt fp h) : p.1 ∈ fp ∧ h.get? p.1 = some p.2 := by
  obtain ⟨b, hb, e⟩ := List.mem_filterMap.mp hp
  cases q : h.get? b with
  | none => rw [q] at e; cases e
  | some o =>
    rw [q] at e
    have e' : (b, o) = p := Option.some.inj e
    subst e'
    exact ⟨hb, q⟩
theorem Inv.pinned {pins : List (Addr × Obj)} {σ : St} {H : Hp} {s : Shared} {fp : List Addr} (I : Inv X pins σ H s) (hf : ∀ b ∈ fp, FpOk X pins H b) (ho : ∀ b ∈ fp, ∃ o, s.heap.get? b = some o ∧ ∀ v, o.data ≠ .cell v) : Inv X (pins ++ pinsAt fp s.heap) σ H s :=
  I.pins_of fun p hp => (List.mem_append.mp hp).elim (fun z => I.pin p (List.mem_append_right _ z)) fun z => by
    obtain ⟨hb, e⟩ := of_pinsAt z
    obtain ⟨f0, f1, f2, _⟩ := hf p.1 hb
    obtain ⟨o, e', d⟩ := ho p.1 hb
    rw [e] at e'; cases e'
    exact ⟨e, f0, f1, f2, d⟩
theorem Inv.unpinned {pins pl : List (Addr × Obj)} {σ : St} {H : Hp} {s : Shared} (I : Inv X (pins ++ pl) σ H s) : Inv X pins σ H s := I.pins_of fun p hp => I.pin p (List.mem_append_right _ (List.mem_append_left _ hp))
theorem ps_for {iter : Expr} {body : List Stmt} {wi : TI} {g : TG} {tb : TS} {pos : Pos} (hp : PassesOwn (model X.prog X.w) X.A X.env X.xe) (hc : X.calm = true) (hi : PI X tg iter wi) (hg : PG X tg g) (hb : PSs X body tb)
    (hs : ∀ x, foldedSetIterable iter X.env x = pure x := by intro _; rfl) : PS X (.For tg iter body [] pos) (tFor wi g tb) := by
  intro pins s σ H D I h
  refine wpAny_For (thn (hi pins s σ H _ I h) fun v s1 h1 => thn h1 fun itv s2 h2 => ?_) hs
  obtain ⟨it, fp, tn, J, H2, e, I2, T, st2, f2, W, ⟨m0, w0⟩, turn⟩ := h2
  subst e
  have stat : ∀ {H' : Hp}, (∀ b ∈ fp, H' b = none) → ∀ b ∈ fp, FpOk X pins H' b := fun hn b hb => ⟨hn b hb, (f2 b hb).2⟩
  refine codeAny_forLoop_any (fun n s' => ∃ i σ' H', Inv X pins σ' H' s' ∧ tn i s'.heap ∧ (∀ b ∈ fp, H' b = none) ∧ W i n σ' H') ?_ m0 ⟨0, σ, H2, I2, st2, fun b hb => (f2 b hb).1, w0⟩
  rintro n s3 ⟨i, σ3, H3, I3, st3, fr3, w3⟩
  rcases turn i n σ3 H3 w3 with ⟨stop, qn⟩ | ⟨go, N, hN, step⟩
  · refine wpAny_passesOwn hp (thn (T.done X rfl rfl rfl hc i pins s3 σ3 H3 X.xe I3 (stat fr3) st3 stop) fun r s4 ⟨hr, I4⟩ => ?_)
    subst hr
    exact wpAny_execs_nil ⟨σ3, H3, I4, qn⟩
  · refine wpAny_passesOwn hp (thn (T.item X rfl rfl rfl hc i pins s3 σ3 H3 X.xe I3 (stat fr3) st3 go) fun r s4 ⟨u, hr, h4⟩ => ?_)
    subst hr
    refine wpAny_passesOwn hp (thn h4 fun _ s5 ⟨x, H5, I5, r5, y5, st5, fr5⟩ => ?_)
    have I5' := I5.pinned (stat fr5) (T.obj _ _ st5)
    refine wpAny_passesOwn hp (thn (hg _ s5 σ3 H5 x u _ I5' r5 (step x H5 y5)) fun _ s6 ⟨σ6, H6, I6, q6⟩ => ?_)
    refine wpAny_passesOwn hp (thn (hb _ s6 σ6 H6 _ I6 q6) fun f s7 q7 => ?_)
    have again : ∀ {σ7 : St} {H7 : Hp}, Inv X (pins ++ pinsAt fp s5.heap) σ7 H7 s7 → N σ7 H7 → ∃ m, m < n ∧ ∃ i σ' H', Inv X pins σ' H' s7 ∧ tn i s7.heap ∧ (∀ b ∈ fp, H' b = none) ∧ W i m σ' H' := fun {σ7 H7} I7 n7 => by
      obtain ⟨m', hm, w7⟩ := hN σ7 H7 n7
      refine ⟨m', hm, i + 1, σ7, H7, I7.unpinned, T.keep _ _ _ st5 fun b hb o e => (I7.pin (b, o) (List.mem_append_right _ (List.mem_append_right _ (mem_pinsAt hb e)))).1, fun b hb => ?_, w7⟩
      obtain ⟨o, e, d⟩ := T.obj _ _ st5 b hb
      exact (I7.pin (b, o) (List.mem_append_right _ (List.mem_append_right _ (mem_pinsAt hb e)))).2.1
    cases f with
    | next => obtain ⟨σ7, H7, I7, n7⟩ := q7; exact again I7 n7
    | cont => obtain ⟨σ7, H7, I7, n7⟩ := q7; exact again I7 n7
    | brk => obtain ⟨σ7, H7, I7, q7⟩ := q7; exact ⟨σ7, H7, I7.unpinned, q7⟩
    | ret v => obtain ⟨x7, σ7, H7, I7, r7, q7⟩ := q7; exact ⟨x7, σ7, H7, I7.unpinned, r7, q7⟩
end
theorem for_range {lo : Int} {n : Nat} {g : TG} {tb : TS} {D : Ends} {σ : St} {H : Hp} (Pv : Nat → St → Hp → Prop) (h0 : Pv 0 σ H)
    (hs : ∀ i σ H, i < n → Pv i σ H → g (.int (lo + i)) σ H fun σ2 H2 => tb { D with nx := Pv (i + 1), ct := Pv (i + 1), bk := D.nx } σ2 H2) (hd : ∀ σ H, Pv n σ H → D.nx σ H) :
    ∃ W : Nat → Nat → St → Hp → Prop, (∃ m, W 0 m σ H) ∧ ∀ i m σ H, W i m σ H →
      ((Itr lo n).stop i H ∧ D.nx σ H) ∨ ((Itr lo n).go i H ∧ ∃ N : St → Hp → Prop, (∀ σ' H', N σ' H' → ∃ m', m' < m ∧ W (i + 1) m' σ' H') ∧ ∀ x H', (Itr lo n).yld i H x H' → g x σ H' fun σ2 H2 => tb { D with nx := N, ct := N, bk := D.nx } σ2 H2) := by
  refine ⟨fun i m σ H => m = n - i ∧ i ≤ n ∧ Pv i σ H, ⟨n, by simp, Nat.zero_le _, h0⟩, ?_⟩
  rintro i m σ H ⟨rfl, hi, p⟩
  by_cases hlt : i < n
  · refine .inr ⟨hlt, Pv (i + 1), fun σ' H' p' => ⟨n - (i + 1), by omega, rfl, hlt, p'⟩, fun x H' y => ?_⟩
    obtain ⟨e, y⟩ := y
    subst e y
    exact hs i σ _ hlt p
  · have e : i = n := by omega
    subst e
    exact .inl ⟨Nat.le_refl _, hd σ H p⟩
end L2
namespace L2
open PySem PySem.Spec PyProof.Rows
abbrev R2 := V → V → Hp → VK → Prop
def OpR (X : Cx) (f : Value → Value → Sem Value) (r : R2) : Prop :=
  ∀ (pins : List (Addr × Obj)) (s : Shared) (σ : St) (H : Hp) (x y : V) (v u : Value) (Q : VK), Inv X pins σ H s → RelV x v → RelV y u → r x y H Q →
    wpAny (model X.prog X.w) X.A (f v u) (EP X pins σ Q) X.xe s
def UnR (X : Cx) (f : Value → Sem Value) (r : V → Hp → VK → Prop) : Prop :=
  ∀ (pins : List (Addr × Obj)) (s : Shared) (σ : St) (H : Hp) (x : V) (v : Value) (Q : VK), Inv X pins σ H s → RelV x v → r x H Q →
    wpAny (model X.prog X.w) X.A (f v) (EP X pins σ Q) X.xe s
def CallR (X : Cx) (f : Value) (r : List V → Hp → VK → Prop) : Prop :=
  ∀ (pins : List (Addr × Obj)) (s : Shared) (σ : St) (H : Hp) (xs : List V) (us : List Value) (Q : VK), Inv X pins σ H s → Vals xs us → r xs H Q →
    wpAny (model X.prog X.w) X.A (call f us) (EP X pins σ Q) X.xe s
def TruR (X : Cx) (r : V → Hp → (Bool → Hp → Prop) → Prop) : Prop :=
  ∀ (pins : List (Addr × Obj)) (s : Shared) (σ : St) (H : Hp) (x : V) (v : Value) (Q : Bool → Hp → Prop), Inv X pins σ H s → RelV x v → r x H Q →
    wpAny (model X.prog X.w) X.A (truthy v) (TP X pins σ Q) X.xe s
def tOp (r : R2) (ta tb : TE) : TE := fun σ H Q => ta σ H fun x H1 => tb σ H1 fun y H2 => r x y H2 Q
def tUn (r : V → Hp → VK → Prop) (ta : TE) : TE := fun σ H Q => ta σ H fun x H1 => r x H1 Q
def rI (C : Int → Int → Prop) (g : Int → Int → V) : R2 := fun x y H Q => ∃ i j, x = .int i ∧ y = .int j ∧ C i j ∧ Q (g i j) H
def rI0 (g : Int → Int → V) : R2 := fun x y H Q => ∃ i j, x = .int i ∧ y = .int j ∧ Q (g i j) H
def rU (g : Int → V) : V → Hp → VK → Prop := fun x H Q => ∃ i, x = .int i ∧ Q (g i) H
section
variable {X : Cx} {a b c : Expr} {ta tb tc : TE} {pos : Pos}
theorem binT (ha : PE X a ta) (hb : PE X b tb) {pins : List (Addr × Obj)} {s : Shared} {σ : St} {H : Hp} {R : V → V → Hp → Prop} (I : Inv X pins σ H s)
    (h : ta σ H fun x H1 => tb σ H1 fun y H2 => R x y H2) {Q : Value → Shared → Prop} {f : Value → Value → Sem Value}
    (hf : ∀ v u s2 x y H2, Inv X pins σ H2 s2 → RelV x v → RelV y u → R x y H2 → wpAny (model X.prog X.w) X.A (f v u) Q X.xe s2) :
    wpAny (model X.prog X.w) X.A (eval a X.env) (fun v s₁ => wpAny (model X.prog X.w) X.A (eval b X.env) (fun u s₂ => wpAny (model X.prog X.w) X.A (f v u) Q X.xe s₂) X.xe s₁) X.xe s := by
  refine thn (ha pins s σ H _ I h) fun v s1 ⟨x, H1, I1, r1, q1⟩ => ?_
  refine thn (hb pins s1 σ H1 _ I1 q1) fun u s2 ⟨y, H2, I2, r2, q2⟩ => ?_
  exact hf v u s2 x y H2 I2 r1 r2 q2
theorem pe_op {op : Operator} {r : R2} (ho : OpR X (binaryOp op) r) (ha : PE X a ta) (hb : PE X b tb) : PE X (.BinOp a op b pos) (tOp r ta tb) := by
  intro pins s σ H Q I h
  exact wpAny_BinOp (binT ha hb I h fun v u s2 x y H2 I2 rx ry q => ho pins s2 σ H2 x y v u Q I2 rx ry q)
theorem pe_un {op : UnaryOp} {r : V → Hp → VK → Prop} (ho : UnR X (unaryOp op) r) (ha : PE X a ta) : PE X (.UnaryOp op a pos) (tUn r ta) := by
  intro pins s σ H Q I h
  exact UnaryOp_ (thn (ha pins s σ H _ I h) fun v s1 ⟨x, H1, I1, r1, q1⟩ => ho pins s1 σ H1 x v Q I1 r1 q1)
theorem opI {f : Value → Value → Sem Value} {C : Int → Int → Prop} {g : Int → Int → Int}
    (rule : ∀ (i j : Int) (t u : Tok) (s : Shared) (Q : Value → Shared → Prop) (E : Value → Shared → Prop), C i j → Q (.int (g i j) s.toks) { s with toks := s.toks + 1 } → wpAny (model X.prog X.w) X.A (f (.int i t) (.int j u)) Q E s) :
    OpR X f (rI C fun i j => .int (g i j)) := by
  intro pins s σ H x y v u Q I rx ry h
  obtain ⟨i, j, rfl, rfl, hc, q⟩ := h
  obtain ⟨t, rfl⟩ := rx
  obtain ⟨t', rfl⟩ := ry
  exact rule i j t t' s _ _ hc ⟨.int (g i j), H, I.tok _, ⟨_, rfl⟩, q⟩
theorem opI0 {f : Value → Value → Sem Value} {g : Int → Int → Int}
    (rule : ∀ (i j : Int) (t u : Tok) (s : Shared) (Q : Value → Shared → Prop) (E : Value → Shared → Prop), Q (.int (g i j) s.toks) { s with toks := s.toks + 1 } → wpAny (model X.prog X.w) X.A (f (.int i t) (.int j u)) Q E s) :
    OpR X f (rI0 fun i j => .int (g i j)) := by
  intro pins s σ H x y v u Q I rx ry h
  obtain ⟨i, j, rfl, rfl, q⟩ := h
  obtain ⟨t, rfl⟩ := rx
  obtain ⟨t', rfl⟩ := ry
  exact rule i j t t' s _ _ ⟨.int (g i j), H, I.tok _, ⟨_, rfl⟩, q⟩
theorem opB0 {f : Value → Value → Sem Value} {g : Int → Int → Bool}
    (rule : ∀ (i j : Int) (t u : Tok) (s : Shared) (Q : Value → Shared → Prop) (E : Value → Shared → Prop), Q (.bool (g i j)) s → wpAny (model X.prog X.w) X.A (f (.int i t) (.int j u)) Q E s) :
    OpR X f (rI0 fun i j => .bl (g i j)) := by
  intro pins s σ H x y v u Q I rx ry h
  obtain ⟨i, j, rfl, rfl, q⟩ := h
  obtain ⟨t, rfl⟩ := rx
  obtain ⟨t', rfl⟩ := ry
  exact rule i j t t' s _ _ ⟨.bl (g i j), H, I, rfl, q⟩
def CPow (i j : Int) : Prop := 0 ≤ j ∧ j ≤ 1000000 ∧ i.natAbs < 2 ^ 64
def CMul (i j : Int) : Prop := (-(2 ^ 64) < i ∧ i < 2 ^ 64) ∨ (-(2 ^ 64) < j ∧ j < 2 ^ 64)
theorem CMul.ok {i j : Int} (h : CMul i j) : IntMulOk i j := by
  rcases h with ⟨h1, h2⟩ | ⟨h1, h2⟩
  · exact .of_left (intBits_le_64 h1 h2)
  · exact .of_right (intBits_le_64 h1 h2)
theorem op_add : OpR X (binaryOp .Add) (rI0 fun i j => .int (i + j)) := opI0 fun _ _ _ _ _ _ _ q => add_int q
theorem op_sub : OpR X (binaryOp .Sub) (rI0 fun i j => .int (i - j)) := opI0 fun _ _ _ _ _ _ _ q => sub_int q
theorem op_mod : OpR X (binaryOp .Mod) (rI (fun _ j => 0 < j) fun i j => .int (i % j)) := opI fun i j _ _ _ _ _ hc q => by
  have h1 : (0 : Int) < j := hc
  exact mod_int' (by omega) (by rw [Int.fmod_eq_emod_of_nonneg i (by omega)]; exact q)
theorem op_pow : OpR X (binaryOp .Pow) (rI CPow fun i j => .int (i ^ j.toNat)) := opI fun _ _ _ _ _ _ _ hc q => pow_int_small hc.1 hc.2.1 hc.2.2 q
theorem unI {f : Value → Sem Value} {g : Int → Int}
    (rule : ∀ (i : Int) (t : Tok) (s : Shared) (Q : Value → Shared → Prop) (E : Value → Shared → Prop), Q (.int (g i) s.toks) { s with toks := s.toks + 1 } → wpAny (model X.prog X.w) X.A (f (.int i t)) Q E s) :
    UnR X f (rU fun i => .int (g i)) := by
  intro pins s σ H x v Q I rx h
  obtain ⟨i, rfl, q⟩ := h
  obtain ⟨t, rfl⟩ := rx
  exact rule i t s _ _ ⟨.int (g i), H, I.tok _, ⟨_, rfl⟩, q⟩
theorem un_neg : UnR X (unaryOp .USub) (rU fun i => .int (-i)) := unI fun _ _ _ _ _ q => neg_int q
end
def scal : V → V → Bool
  | .non, .non => true | .non, .int _ => true | .int _, .non => true | .non, .bl _ => true | .bl _, .non => true | .non, .str _ => true | .str _, .non => true
  | .int _, .int _ => true | .bl _, .bl _ => true | .str _, .str _ => true | .byt _, .byt _ => true
  | .int _, .str _ => true | .str _, .int _ => true | .bl _, .str _ => true | .str _, .bl _ => true
  | _, _ => false
def rEq : R2 := fun x y H Q => scal x y = true ∧ Q (.bl (decide (x = y))) H
def rNe : R2 := fun x y H Q => scal x y = true ∧ Q (.bl (!decide (x = y))) H
theorem dec_int {i j : Int} : decide (V.int i = V.int j) = (i == j) := by
  rw [Bool.eq_iff_iff]
  simp
theorem dec_bl {i j : Bool} : decide (V.bl i = V.bl j) = (i == j) := by
  rw [Bool.eq_iff_iff]
  simp
theorem dec_str {i j : Str} : decide (V.str i = V.str j) = (i == j) := by
  rw [Bool.eq_iff_iff]
  simp
theorem dec_byt {i j : Array UInt8} : decide (V.byt i = V.byt j) = (i.toList == j.toList) := by
  rw [Bool.eq_iff_iff]
  cases i
  cases j
  simp
section
variable {X : Cx} {a b c : Expr} {ta tb tc : TE} {pos : Pos}
theorem fin_bl {pins : List (Addr × Obj)} {σ : St} {H : Hp} {s : Shared} {Q : VK} {k k' : Bool} (I : Inv X pins σ H s) (q : Q (.bl k) H) (e : k = k') : EP X pins σ Q (.bool k') s := by
  subst e
  exact ⟨.bl k, H, I, rfl, q⟩
theorem op_eq : OpR X (compareOp .Eq) rEq := by
  intro pins s σ H x y v u Q I rx ry h
  obtain ⟨hs, q⟩ := h
  cases x with
  | non =>
    cases rx
    cases y with
    | non => cases ry; exact PySem.EqNone.eq_none_none (fin_bl I q (by simp))
    | bl j => cases ry; exact PySem.EqNone.eq_none_bool (fin_bl I q (by simp))
    | int j => obtain ⟨t', rfl⟩ := ry; exact PySem.EqNone.eq_none_int (fin_bl I q (by simp))
    | str j => obtain ⟨t', rfl⟩ := ry; exact PySem.EqNone.eq_none_str (fin_bl I q (by simp))
    | _ => exact absurd (show false = true from hs) Bool.false_ne_true
  | bl i =>
    cases rx
    cases y with
    | non => cases ry; exact PySem.EqNone.eq_bool_none (fin_bl I q (by simp))
    | bl j => cases ry; exact eq_bool (fin_bl I q dec_bl)
    | str j => obtain ⟨t', rfl⟩ := ry; exact PySem.EqMixed.eq_bool_str (fin_bl I q (by simp))
    | _ => exact absurd (show false = true from hs) Bool.false_ne_true
  | int i =>
    obtain ⟨t, rfl⟩ := rx
    cases y with
    | non => cases ry; exact PySem.EqNone.eq_int_none (fin_bl I q (by simp))
    | int j => obtain ⟨t', rfl⟩ := ry; exact eq_int (fin_bl I q dec_int)
    | str j => obtain ⟨t', rfl⟩ := ry; exact PySem.EqMixed.eq_int_str (fin_bl I q (by simp))
    | _ => exact absurd (show false = true from hs) Bool.false_ne_true
  | str i =>
    obtain ⟨t, rfl⟩ := rx
    cases y with
    | non => cases ry; exact PySem.EqNone.eq_str_none (fin_bl I q (by simp))
    | bl j => cases ry; exact PySem.EqMixed.eq_str_bool (fin_bl I q (by simp))
    | int j => obtain ⟨t', rfl⟩ := ry; exact PySem.EqMixed.eq_str_int (fin_bl I q (by simp))
    | str j => obtain ⟨t', rfl⟩ := ry; exact eq_str (fin_bl I q dec_str)
    | _ => exact absurd (show false = true from hs) Bool.false_ne_true
  | byt i =>
    obtain ⟨t, rfl⟩ := rx
    cases y with
    | byt j => obtain ⟨t', rfl⟩ := ry; exact PySem.W.eq_bytes (fin_bl I q dec_byt)
    | _ => exact absurd (show false = true from hs) Bool.false_ne_true
  | _ => cases y <;> exact absurd (show false = true from hs) Bool.false_ne_true
theorem op_ne : OpR X (compareOp .NotEq) rNe := by
  intro pins s σ H x y v u Q I rx ry h
  obtain ⟨hs, q⟩ := h
  cases x with
  | non =>
    cases rx
    cases y with
    | non => cases ry; exact PySem.EqNone.ne_none_none (fin_bl I q (by simp))
    | bl j => cases ry; exact PySem.EqNone.ne_none_bool (fin_bl I q (by simp))
    | int j => obtain ⟨t', rfl⟩ := ry; exact PySem.EqNone.ne_none_int (fin_bl I q (by simp))
    | str j => obtain ⟨t', rfl⟩ := ry; exact PySem.EqNone.ne_none_str (fin_bl I q (by simp))
    | _ => exact absurd (show false = true from hs) Bool.false_ne_true
  | bl i =>
    cases rx
    cases y with
    | non => cases ry; exact PySem.EqNone.ne_bool_none (fin_bl I q (by simp))
    | bl j => cases ry; exact ne_bool (fin_bl I q (congrArg not dec_bl))
    | str j => obtain ⟨t', rfl⟩ := ry; exact PySem.EqMixed.ne_bool_str (fin_bl I q (by simp))
    | _ => exact absurd (show false = true from hs) Bool.false_ne_true
  | int i =>
    obtain ⟨t, rfl⟩ := rx
    cases y with
    | non => cases ry; exact PySem.EqNone.ne_int_none (fin_bl I q (by simp))
    | int j => obtain ⟨t', rfl⟩ := ry; exact ne_int (fin_bl I q (congrArg not dec_int))
    | str j => obtain ⟨t', rfl⟩ := ry; exact PySem.EqMixed.ne_int_str (fin_bl I q (by simp))
    | _ => exact absurd (show false = true from hs) Bool.false_ne_true
  | str i =>
    obtain ⟨t, rfl⟩ := rx
    cases y with
    | non => cases ry; exact PySem.EqNone.ne_str_none (fin_bl I q (by simp))
    | bl j => cases ry; exact PySem.EqMixed.ne_str_bool (fin_bl I q (by simp))
    | int j => obtain ⟨t', rfl⟩ := ry; exact PySem.EqMixed.ne_str_int (fin_bl I q (by simp))
    | str j => obtain ⟨t', rfl⟩ := ry; exact ne_str (fin_bl I q (congrArg not dec_str))
    | _ => exact absurd (show false = true from hs) Bool.false_ne_true
  | byt i =>
    obtain ⟨t, rfl⟩ := rx
    cases y with
    | byt j => obtain ⟨t', rfl⟩ := ry; exact PySem.W.ne_bytes (fin_bl I q (congrArg not dec_byt))
    | _ => exact absurd (show false = true from hs) Bool.false_ne_true
  | _ => cases y <;> exact absurd (show false = true from hs) Bool.false_ne_true
theorem op_lt : OpR X (compareOp .Lt) (rI0 fun i j => .bl (decide (i < j))) := opB0 fun _ _ _ _ _ _ _ q => lt_int q
theorem op_gt : OpR X (compareOp .Gt) (rI0 fun i j => .bl (decide (j < i))) := opB0 fun _ _ _ _ _ _ _ q => gt_int q
theorem op_ge : OpR X (compareOp .GtE) (rI0 fun i j => .bl (decide (j ≤ i))) := opB0 fun _ _ _ _ _ _ _ q => ge_int q
theorem op_notN : OpR X (compareOp .IsNot) (fun x y H Q => y = .non ∧ Q (.bl (!decide (x = .non))) H) := by
  intro pins s σ H x y v u Q I rx ry h
  obtain ⟨rfl, q⟩ := h
  cases ry
  refine isnot_none_gen (fin_bl I q ?_)
  cases x <;> first
    | (cases rx; rfl)
    | (obtain ⟨t, rfl⟩ := rx; rfl)
theorem OpR.or {f : Value → Value → Sem Value} {r r' : R2} (h : OpR X f r) (h' : OpR X f r') : OpR X f (fun x y H Q => r x y H Q ∨ r' x y H Q) := by
  intro pins s σ H x y v u Q I rx ry q
  rcases q with q | q
  · exact h pins s σ H x y v u Q I rx ry q
  · exact h' pins s σ H x y v u Q I rx ry q
theorem nomark (b : Expr) {op : CmpOp} (h : op ≠ .In := by decide) (h2 : op ≠ .NotIn := by decide) : behindInMarks op b = false := by
  have e1 : (op == CmpOp.In) = false := by cases op <;> first | rfl | exact absurd rfl h
  have e2 : (op == CmpOp.NotIn) = false := by cases op <;> first | rfl | exact absurd rfl h2
  cases b <;> simp [behindInMarks, e1, e2]
theorem pe_cmpR {op : CmpOp} {r : R2} (ho : OpR X (compareOp op) r) (ha : PE X a ta) (hb : PE X b tb) (hm : behindInMarks op b = false) : PE X (.Compare a [op] [b] pos) (tOp r ta tb) := by
  intro pins s σ H Q I h
  exact wpAny_Compare1 (binT ha hb I h fun v u s2 x y H2 I2 rx ry q => ho pins s2 σ H2 x y v u Q I2 rx ry q) hm
def tTest (t : TE) : TT := fun σ H Q => t σ H fun x H' => ∃ k, x = .bl k ∧ Q k H'
theorem pt_cmpR {op : CmpOp} {r : R2} (ho : OpR X (compareOp op) r) (ha : PE X a ta) (hb : PE X b tb) (hm : behindInMarks op b = false) : PT X (.Compare a [op] [b] pos) (tTest (tOp r ta tb)) := by
  intro pins s σ H Q I h
  refine wpAny_isTrue_Compare1 (thn (ha pins s σ H _ I h) fun v s1 ⟨x, H1, I1, r1, q1⟩ => thn (hb pins s1 σ H1 _ I1 q1) fun u s2 ⟨y, H2, I2, r2, q2⟩ =>
    thn (ho pins s2 σ H2 x y v u _ I2 r1 r2 q2) fun c s3 ⟨z, H3, I3, r3, k, e, q3⟩ => ?_) hm
  subst e
  cases r3
  exact wpAny_truthy_bool ⟨H3, I3, q3⟩
def tChain (r r' : R2) (ta tb tc : TE) : TE := fun σ H Q => ta σ H fun x H1 => tb σ H1 fun y H2 => r x y H2 fun z H3 => ∃ k, z = .bl k ∧
  (if k = true then tc σ H3 fun w' H4 => r' y w' H4 Q else Q (.bl false) H3)
theorem pe_chain {op op' : CmpOp} {r r' : R2} (ho : OpR X (compareOp op) r) (ho' : OpR X (compareOp op') r') (ha : PE X a ta) (hb : PE X b tb) (hc : PE X c tc)
    (hm : lastMarks [op, op'] [b, c] = false := by with_unfolding_all rfl) : PE X (.Compare a [op, op'] [b, c] pos) (tChain r r' ta tb tc) := by
  intro pins s σ H Q I h
  refine Compare_chain (thn (ha pins s σ H _ I h) fun v s1 ⟨x, H1, I1, r1, q1⟩ => chain_link (thn (hb pins s1 σ H1 _ I1 q1) fun u s2 ⟨y, H2, I2, r2, q2⟩ =>
    thn (ho pins s2 σ H2 x y v u _ I2 r1 r2 q2) fun d s3 ⟨z, H3, I3, r3, k, e, q3⟩ => ?_)) hm
  subst e
  cases r3
  refine wpAny_truthy_bool ?_
  cases k with
  | false => exact ite_ff ⟨.bl false, H3, I3, rfl, q3⟩
  | true => exact ite_tt (chain_last (thn (hc pins s3 σ H3 _ I3 q3) fun w' s4 ⟨z', H4, I4, r4, q4⟩ => ho' pins s4 σ H4 y z' u w' Q I4 r2 r4 q4))
def TruV (K : PySem.W.Frag) (x : V) (H : Hp) (k : Bool) : Prop :=
  match x with
  | .non => k = false
  | .bl b => k = b
  | .int i => k = (i != 0)
  | .str y => y.length ≤ sizeLine ∧ k = ((y.length : Int) != 0)
  | .byt y => y.size ≤ sizeLine ∧ k = ((y.size : Int) != 0)
  | .ref p => (∃ xs, SqL K H p xs ∧ k = !xs.isEmpty) ∨ (∃ xs, SqT K H p xs ∧ k = !xs.isEmpty) ∨ ∃ kvs, H p = some (.dK kvs) ∧ k = !kvs.isEmpty
  | _ => False
theorem isEmpty_kv {κ : Type} {kvs : List (κ × V)} {vs : List (κ × Value)} (r : KV kvs vs) : (!vs.isEmpty) = !kvs.isEmpty := by
  cases r <;> rfl
theorem isEmpty_of {xs : List V} {its : List Value} (r : Vals xs its) : (!its.toArray.isEmpty) = !xs.isEmpty := by
  cases r <;> simp
theorem line63 : (sizeLine : Nat) < 2 ^ 63 := by rw [sizeLine_eq]; decide
theorem tru_ok : TruR X (fun x H Q => ∃ k, TruV X.K x H k ∧ Q k H) := by
  intro pins s σ H x v Q I rx h
  obtain ⟨k, e, q⟩ := h
  have hl := line63
  have hs : sizeLine = 16777216 := sizeLine_eq
  cases x with
  | non =>
    cases rx
    have e' : k = false := e
    subst e'
    exact truthy_none ⟨H, I, q⟩
  | bl b =>
    cases rx
    have e' : k = b := e
    subst e'
    exact wpAny_truthy_bool ⟨H, I, q⟩
  | int i =>
    obtain ⟨t, rfl⟩ := rx
    have e' : k = (i != 0) := e
    subst e'
    exact PySem.P.truthy_int ⟨H, I, q⟩
  | str y =>
    obtain ⟨t, rfl⟩ := rx
    obtain ⟨hy, e'⟩ : y.length ≤ sizeLine ∧ k = ((y.length : Int) != 0) := e
    subst e'
    exact PySem.P.truthy_str (by omega) ⟨H, I.tok _, q⟩
  | byt y =>
    obtain ⟨t, rfl⟩ := rx
    obtain ⟨hy, e'⟩ : y.size ≤ sizeLine ∧ k = ((y.size : Int) != 0) := e
    subst e'
    exact PySem.W.truthy_bytes (by omega) ⟨H, I.tok _, q⟩
  | ref p =>
    cases rx
    have e' : (∃ xs, SqL X.K H p xs ∧ k = !xs.isEmpty) ∨ (∃ xs, SqT X.K H p xs ∧ k = !xs.isEmpty) ∨ ∃ kvs, H p = some (.dK kvs) ∧ k = !kvs.isEmpty := e
    rcases e' with ⟨xs, hx, e'⟩ | ⟨xs, hx, e'⟩ | ⟨kvs, hx, e'⟩
    · subst e'
      obtain ⟨its, r, pl, hz⟩ := I.list hx
      have hlen := r.length
      exact wpAny_truthy_list pl.isList (by simp only [List.size_toArray]; omega) ⟨H, I.tok _, by rw [isEmpty_of r]; exact q⟩
    · subst e'
      obtain ⟨its, r, pl, hz⟩ := I.tuple hx
      have hlen := r.length
      exact truthy_tuple pl (by simp only [List.size_toArray]; omega) ⟨H, I.tok _, by rw [isEmpty_of r]; exact q⟩
    · subst e'
      obtain ⟨hz, hS, vs, r, m⟩ : kvs.length ≤ sizeLine ∧ (p == sysModules) = false ∧ ∃ vs, KV kvs vs ∧ s.heap.DictOf (mixKind X.prog X.w) p vs := I.hok p _ hx
      have hlen : kvs.length = vs.length := Paired.length r
      exact wpAny_truthy_dict hS m (by omega) ⟨H, I.tok _, by rw [isEmpty_kv r]; exact q⟩
  | _ => exact (show False from e).elim
theorem pt_truth (ha : PE X a ta) (he : ∀ whole, isTrue a X.env whole = (do let v ← whole; standAt a.pos; holding [v] (truthy v))) :
    PT X a (fun σ H Q => ta σ H fun x H' => ∃ k, TruV X.K x H' k ∧ Q k H') := by
  intro pins s σ H Q I h
  exact isTrue_plain (thn (ha pins s σ H _ I h) fun v s1 ⟨x, H1, I1, r1, q1⟩ => tru_ok pins s1 σ H1 x v Q I1 r1 q1) (he _)
theorem op_add_str : OpR X (binaryOp .Add) (fun x y H Q => ∃ i j, x = .str i ∧ y = .str j ∧ i.length + j.length ≤ sizeLine ∧ Q (.str (i ++ j)) H) := by
  intro pins s σ H x y v u Q I rx ry h
  obtain ⟨i, j, rfl, rfl, hz, q⟩ := h
  obtain ⟨t, rfl⟩ := rx
  obtain ⟨t', rfl⟩ := ry
  exact add_str (fun t' tk => ⟨.str (i ++ j), H, I.tok _, ⟨_, rfl⟩, q⟩) hz
theorem vals1 {x : V} {us : List Value} (r : Vals [x] us) : ∃ u, us = [u] ∧ RelV x u := by
  cases r with
  | cons r1 r2 => cases r2; exact ⟨_, rfl, r1⟩
theorem vals2 {x y : V} {us : List Value} (r : Vals [x, y] us) : ∃ u w', us = [u, w'] ∧ RelV x u ∧ RelV y w' := by
  cases r with
  | cons r1 r2 =>
    cases r2 with
    | cons r3 r4 => cases r4; exact ⟨_, _, rfl, r1, r3⟩
theorem call_max2 (hc : X.calm = true) : CallR X (.builtin "max") (fun xs H Q => ∃ i j, xs = [.int i, .int j] ∧ Q (.int (if j > i then j else i)) H) := by
  intro pins s σ H xs us Q I r h
  obtain ⟨i, j, rfl, q⟩ := h
  obtain ⟨u, w', rfl, ⟨t, rfl⟩, ⟨t', rfl⟩⟩ := vals2 r
  refine max_two_ints (I.ok.hd hc) fun h' tk k => ⟨_, H, I.kept k, ?_, q⟩
  by_cases hj : j > i
  · rw [if_pos hj, if_pos hj]; exact ⟨_, rfl⟩
  · rw [if_neg hj, if_neg hj]; exact ⟨_, rfl⟩
def LenV (K : PySem.W.Frag) (x : V) (H : Hp) (n : Nat) : Prop :=
  match x with
  | .str y => y.length ≤ sizeLine ∧ n = y.length
  | .byt y => y.size ≤ sizeLine ∧ n = y.size
  | .ref p => (∃ xs, SqL K H p xs ∧ n = xs.length) ∨ ∃ xs, SqT K H p xs ∧ n = xs.length
  | _ => False
theorem call_len : CallR X (.builtin "len") (fun xs H Q => ∃ x n, xs = [x] ∧ LenV X.K x H n ∧ Q (.int n) H) := by
  intro pins s σ H xs us Q I r h
  obtain ⟨x, n, rfl, e, q⟩ := h
  obtain ⟨u, rfl, rx⟩ := vals1 r
  have hl := line63
  have hs : sizeLine = 16777216 := sizeLine_eq
  cases x with
  | str y =>
    obtain ⟨t, rfl⟩ := rx
    obtain ⟨hy, e'⟩ : y.length ≤ sizeLine ∧ n = y.length := e
    subst e'
    exact len_str (by omega) ⟨.int _, H, I.tok _, ⟨_, rfl⟩, q⟩
  | byt y =>
    obtain ⟨t, rfl⟩ := rx
    obtain ⟨hy, e'⟩ : y.size ≤ sizeLine ∧ n = y.size := e
    subst e'
    exact PySem.W.len_bytes (by omega) ⟨.int _, H, I.tok _, ⟨_, rfl⟩, q⟩
  | ref p =>
    cases rx
    have e' : (∃ xs, SqL X.K H p xs ∧ n = xs.length) ∨ ∃ xs, SqT X.K H p xs ∧ n = xs.length := e
    rcases e' with ⟨xs, hx, e'⟩ | ⟨xs, hx, e'⟩
    · subst e'
      obtain ⟨its, r', pl, hz⟩ := I.list hx
      have hlen := r'.length
      exact Calls.call_len_list pl.isList (by simp only [List.size_toArray]; omega) ⟨.int xs.length, H, I.tok _, ⟨_, by simp only [List.size_toArray]; rw [hlen]⟩, q⟩
    · subst e'
      obtain ⟨its, r', pl, hz⟩ := I.tuple hx
      have hlen := r'.length
      exact len_tuple pl (by simp only [List.size_toArray]; omega) ⟨.int xs.length, H, I.tok _, ⟨_, by simp only [List.size_toArray]; rw [hlen]⟩, q⟩
  | _ => exact (show False from e).elim
end
end L2
namespace L2
open PySem PySem.Spec PyProof.Rows
structure ObjM (h : Heap) (x dx C : Addr) (mA : Str → Option Value) : Prop where
  obj : h.get? x = some (PySem.W.instObj C dx)
  ns : h.Ns1 dx mA
  ne : dx ≠ x
theorem lookIn_ns {h : Heap} {dx : Addr} {mA : Str → Option Value} (n : h.Ns1 dx mA) : ∃ od, h.get? dx = some od ∧ ∀ name, PySem.W.lookIn name od = some (mA name) := by
  obtain ⟨o, es, ep, ho, hd, hk, _, hm⟩ := n
  refine ⟨o, ho, fun name => ?_⟩
  have e := hm name
  unfold nsFind findBy at e
  rw [← Array.find?_toList] at e
  unfold PySem.W.lookIn
  rw [hd]
  dsimp only
  split
  · rename_i y q
    rw [q] at e
    exact congrArg some e
  · rename_i q
    rw [q] at e
    have a : es.toList.any (·.refKey) = false := by
      rw [List.any_eq_false]
      intro y hy
      obtain ⟨z, t, hkey⟩ := hk y (Array.mem_toList_iff.mp hy)
      simp [DictEntry.refKey, hkey]
    have a' : ¬ es.toList.any (·.refKey) = true := by rw [a]; exact Bool.false_ne_true
    rw [if_neg a']
    exact congrArg some e
theorem ObjM.look {h : Heap} {x dx C : Addr} {mA : Str → Option Value} (I : ObjM h x dx C mA) : ∃ od, PySem.W.InstAt h x (PySem.W.instObj C dx) C (some od) ∧ ∀ name, PySem.W.lookIn name od = some (mA name) :=
  let ⟨od, ho, hl⟩ := lookIn_ns I.ns
  ⟨od, ⟨I.obj, rfl, rfl, ho⟩, hl⟩
section
variable {prog : Program} {w : World} {A : Around} {E : Value → Shared → Prop} {s : Shared} {K : PySem.W.Frag} {x dx C f : Addr} {mA : Str → Option Value} {name : Str} {v : Value}
theorem get_map {expr : Bool} {Q : Value → Shared → Prop} (X : K.In s.heap) (I : ObjM s.heap x dx C mA) (hg : PySem.W.plainGet K C name = true) (hh : PySem.W.hasDictIn K C = true)
    (ha : PySem.W.findIn K (.ref C) name = some none) (hv : mA name = some v) (hv' : PySem.W.handedIn v = true) (h : Q v { s with toks := s.toks + 1 }) :
    wpAny (model prog w) A (getAttr (.ref x) name expr) Q E s := by
  obtain ⟨od, J, hl⟩ := I.look
  exact PySem.W.get_value X J (PySem.W.plainGet_of hg).1 (PySem.W.findObj_own hh ha rfl (by rw [hl, hv])) hv' h
theorem get_meth {pl : Sem Bool} {Q : Value × List Value → Shared → Prop} (X : K.In s.heap) (I : ObjM s.heap x dx C mA) (hg : PySem.W.plainGet K C name = true)
    (hf : PySem.W.findIn K (.ref C) name = some (some (.ref f))) (ht : PySem.W.isFn K (.ref f) = true) (hv : mA name = none) (h : Q (.ref f, [.ref x]) s) :
    wpAny (model prog w) A (getMethod (.ref x) name pl) Q E s := by
  obtain ⟨od, J, hl⟩ := I.look
  exact PySem.W.method_fn X J (PySem.W.plainGet_of hg).1 (PySem.W.plainGet_of hg).2 hf (beq_iff_eq.mp ht) (by show (PySem.W.lookIn name od).map (·.isSome) = some false; rw [hl, hv]; rfl) h
theorem set_map {ns : List Str} {Q : Unit → Shared → Prop} (X : K.In s.heap) (I : ObjM s.heap x dx C mA)
    (hs : PySem.W.findIn K (.ref C) "__setattr__" = some (some (.builtin "object.__setattr__"))) (hp : PySem.W.plainOver K C = true) (ht : PySem.W.takerIn K C name = some none) (hh : PySem.W.hasDictIn K C = true)
    (hw : PySem.Within mA ns) (hsz : ns.length ≤ sizeLine)
    (h : ∀ h', ObjM h' x dx C (fun y => if y = name then some v else mA y) → Heap.SameBut dx s.heap h' → Q () { s with heap := h', toks := s.toks + 2 }) :
    wpAny (model prog w) A (setAttr (.ref x) name v) Q E s := by
  obtain ⟨od, J, hl⟩ := I.look
  refine PySem.W.set_plain X J hs (PySem.W.osa_open (s := { s with toks := s.toks + 1 }) (r := none) X J hp ht fun b => ?_)
  obtain ⟨cd, hc, hd'⟩ := PySem.W.any_some hh
  have hx : s.heap.get? x = some ⟨.ref C, some dx, .plain, #[]⟩ := I.obj
  refine wpAny_bind (wpAny_pure (wpAny_bind (wpAny_bind (wpAny_loadPart hx (wpAny_bind (PySem.W.Looks.here (s := { s with toks := s.toks + 1 }) (PySem.W.looks_clsIn X hc) ?_))))))
  rw [hd']
  refine wpAny_pure (a := some dx) (wpAny_bind (wpAny_pure (wpAny_bind ?_)))
  refine wpAny_nsSet1 (s := { s with toks := s.toks + 1 }) I.ns fun h' hn2 hs2 => ?_
  obtain ⟨oD, esD, epD, hoD, hdD, hcD⟩ := hn2.count (PySem.Within.cons name v hw)
  refine wpAny_bind (wpAny_lookBehind hoD (by rw [hdD]; exact pastItsLine_dict (Nat.le_trans hcD (by rw [List.length_cons]; omega))) ?_)
  exact wpAny_pure (h _ ⟨(hs2.2 _ (Ne.symm I.ne)).trans I.obj, hn2, I.ne⟩ hs2)
theorem make_map {R : Result → Shared → Prop} {vs : List Value} {kw : List (Str × Value)} (X : K.In s.heap) (hm : PySem.W.makesIn K C = true)
    (hi : PySem.W.findIn K (.ref C) "__init__" = some (some (.ref f))) (hf : PySem.W.typeIn K (.ref f) = some (.type "function"))
    (h : codeAny (model prog w) (A.under (.builtin "type.__call__" ⟨.ref C :: vs, kw⟩)) (.call (.ref f) ⟨.ref (s.heap.objs.size + 1) :: vs, kw⟩) (PySem.W.InitBack (s.heap.objs.size + 1) R)
      { s with heap := (s.heap.push PySem.W.emptyDict).push (PySem.W.instObj C s.heap.objs.size) }) :
    codeAny (model prog w) A (.call (.ref C) ⟨vs, kw⟩) R s := by
  obtain ⟨hh, g, d, t, os⟩ := s
  exact PySem.W.make_core (PySem.W.makes_of X hm) (PySem.W.looks_findIn X hi) (fun self => PySem.W.bind_fn X self hf) (.inl rfl) h
end
def putF (f : Str) (v : V) : List (Str × V) → List (Str × V)
  | [] => [(f, v)]
  | (g, x) :: r => if g = f then (g, v) :: r else (g, x) :: putF f v r
theorem lookup_putF (f g : Str) (v : V) : ∀ fs : List (Str × V), (putF f v fs).lookup g = if g = f then some v else fs.lookup g
  | [] => by
    show List.lookup g [(f, v)] = _
    by_cases h : g = f
    · have hb : (g == f) = true := beq_iff_eq.mpr h
      simp only [List.lookup, hb, if_pos h]
    · have hb : (g == f) = false := beq_eq_false_iff_ne.mpr h
      simp only [List.lookup, hb, if_neg h]
  | (k, x) :: r => by
    have ih := lookup_putF f g v r
    rw [show putF f v ((k, x) :: r) = (if k = f then (k, v) :: r else (k, x) :: putF f v r) from rfl]
    by_cases hk : k = f
    · rw [if_pos hk]
      by_cases h : g = k
      · have hb : (g == k) = true := beq_iff_eq.mpr h
        simp only [List.lookup, hb, if_pos (h.trans hk)]
      · have hb : (g == k) = false := beq_eq_false_iff_ne.mpr h
        simp only [List.lookup, hb, if_neg (fun e : g = f => h (e.trans hk.symm))]
    · rw [if_neg hk]
      by_cases h : g = k
      · have hb : (g == k) = true := beq_iff_eq.mpr h
        simp only [List.lookup, hb, if_neg (fun e : g = f => hk (h.symm.trans e))]
      · have hb : (g == k) = false := beq_eq_false_iff_ne.mpr h
        simp only [List.lookup, hb]
        exact ih
theorem keys_putF (f : Str) (v : V) : ∀ fs : List (Str × V), f ∈ (putF f v fs).map (·.1) ∧ ∀ g, g ∈ fs.map (·.1) → g ∈ (putF f v fs).map (·.1)
  | [] => ⟨by simp [putF], fun g h => by simp at h⟩
  | (k, x) :: r => by
    obtain ⟨i1, i2⟩ := keys_putF f v r
    rw [show putF f v ((k, x) :: r) = (if k = f then (k, v) :: r else (k, x) :: putF f v r) from rfl]
    by_cases hk : k = f
    · rw [if_pos hk]
      subst hk
      exact ⟨by simp, fun g h => by simpa using h⟩
    · rw [if_neg hk]
      refine ⟨?_, fun g h => ?_⟩
      · rw [List.map_cons]
        exact List.mem_cons_of_mem _ i1
      · rw [List.map_cons] at h ⊢
        rcases List.mem_cons.mp h with e | e
        · exact List.mem_cons.mpr (.inl e)
        · exact List.mem_cons_of_mem _ (i2 g e)
theorem length_putF (f : Str) (v : V) : ∀ fs : List (Str × V), (putF f v fs).length ≤ fs.length + 1
  | [] => by simp [putF]
  | (k, x) :: r => by
    have ih := length_putF f v r
    rw [show putF f v ((k, x) :: r) = (if k = f then (k, v) :: r else (k, x) :: putF f v r) from rfl]
    by_cases hk : k = f
    · rw [if_pos hk, List.length_cons, List.length_cons]; omega
    · rw [if_neg hk, List.length_cons, List.length_cons]; omega
theorem RelO.some_of {v : V} {o : Option Value} (r : RelO (some v) o) : ∃ u, o = some u ∧ RelV v u := by
  cases o with
  | none => exact (show False from r).elim
  | some u => exact ⟨u, rfl, r⟩
theorem RelO.none_of {o : Option Value} (r : RelO none o) : o = none := by
  cases o with
  | none => rfl
  | some u => exact (show False from r).elim
theorem handed_of {v : V} {u : Value} (r : RelV v u) : PySem.W.handedIn u = true := by
  cases v with
  | non => cases (show u = Value.none from r); rfl
  | bl b => cases (show u = Value.bool b from r); rfl
  | int i => obtain ⟨t, e⟩ := (show ∃ t, u = Value.int i t from r); cases e; rfl
  | str x => obtain ⟨t, e⟩ := (show ∃ t, u = Value.str x t from r); cases e; rfl
  | byt b => obtain ⟨t, e⟩ := (show ∃ t, u = Value.bytes b t from r); cases e; rfl
  | flt b => obtain ⟨t, e⟩ := (show ∃ t, u = Value.float b t from r); cases e; rfl
  | ref a => cases (show u = Value.ref a from r); rfl
  | ty n => cases (show u = Value.type n from r); rfl
section
variable {P : Program} {w : World} {H H' : Hp} {h h' : Heap} {a C dx : Addr} {fs fs' : List (Str × V)}
theorem ins_get (hok : HOk P w H h) (e : H a = some (.ins C dx fs)) : ∃ mA, ObjM h a dx C mA ∧ (∀ f, RelO (fs.lookup f) (mA f)) ∧ PySem.Within mA (fs.map (·.1)) ∧ fs.length ≤ 1000 ∧ H dx = some (.own a) := by
  obtain ⟨d, z, ne, ob, mA, n, r, q⟩ := (show ObjOk P w H h a (.ins C dx fs) from hok a _ e)
  exact ⟨mA, ⟨ob, n, ne⟩, r, q, z, d⟩
end
structure Cls (K : PySem.W.Frag) (C : Addr) : Prop where
  pg : PySem.W.plainGet K C Str.empty = true
  hd : PySem.W.hasDictIn K C = true
  po : PySem.W.plainOver K C = true
  sa : PySem.W.findIn K (.ref C) "__setattr__" = some (some (.builtin "object.__setattr__"))
theorem Cls.get {K : PySem.W.Frag} {C : Addr} (c : Cls K C) (f : Str) : PySem.W.plainGet K C f = true := c.pg
def NoAttr (K : PySem.W.Frag) (C : Addr) (f : Str) : Prop := PySem.W.findIn K (.ref C) f = some none
theorem NoAttr.taker {K : PySem.W.Frag} {C : Addr} {f : Str} (n : NoAttr K C f) : PySem.W.takerIn K C f = some none := by
  unfold PySem.W.takerIn
  rw [show PySem.W.findIn K (.ref C) f = some none from n]
  rfl
structure Meth (K : PySem.W.Frag) (C : Addr) (m : Str) (f : Addr) : Prop where
  at_ : PySem.W.findIn K (.ref C) m = some (some (.ref f))
  fn : PySem.W.isFn K (.ref f) = true
  kp : PySem.W.keepIn K (.ref f) = true
section
variable {X : Cx} {pins : List (Addr × Obj)} {σ : St} {H : Hp} {s : Shared} {a C dx : Addr} {fs : List (Str × V)} {f : Str} {v : V} {A : Around} {E : Value → Shared → Prop}
theorem getattr_ok {b : Bool} {Q : Value → Shared → Prop} (I : Inv X pins σ H s) (e : H a = some (.ins C dx fs)) (c : Cls X.K C) (n : NoAttr X.K C f) (l : fs.lookup f = some v)
    (h : ∀ u s', Inv X pins σ H s' → RelV v u → Q u s') : wpAny (model X.prog X.w) A (getAttr (.ref a) f b) Q E s := by
  obtain ⟨mA, O, r, _, _, _⟩ := ins_get I.hok e
  obtain ⟨u, hu, ru⟩ := RelO.some_of (v := v) (o := mA f) (by rw [← l]; exact r f)
  exact get_map I.kIn O (c.get f) c.hd n hu (handed_of ru) (h u _ (I.tok _) ru)
theorem getmeth_ok {m : Str} {g : Addr} {pl : Sem Bool} {Q : Value × List Value → Shared → Prop} (I : Inv X pins σ H s) (e : H a = some (.ins C dx fs)) (c : Cls X.K C) (k : Meth X.K C m g) (l : fs.lookup m = none)
    (h : Q (.ref g, [.ref a]) s) : wpAny (model X.prog X.w) A (getMethod (.ref a) m pl) Q E s := by
  obtain ⟨mA, O, r, _, _, _⟩ := ins_get I.hok e
  have hn : mA m = none := RelO.none_of (by rw [← l]; exact r m)
  exact get_meth I.kIn O (c.get m) k.at_ k.fn hn h
theorem setattr_ok {y : V} {u : Value} {Q : Unit → Shared → Prop} (I : Inv X pins σ H s) (e : H a = some (.ins C dx fs)) (c : Cls X.K C) (n : NoAttr X.K C f) (hl : fs.length < 1000) (ry : RelV y u)
    (h : ∀ s', Inv X pins σ (upd H a (.ins C dx (putF f y fs))) s' → Q () s') : wpAny (model X.prog X.w) A (setAttr (.ref a) f u) Q E s := by
  obtain ⟨mA, O, r, wi, _, ho⟩ := ins_get I.hok e
  have hz : (fs.map (·.1)).length ≤ sizeLine := by rw [List.length_map, sizeLine_eq]; omega
  refine set_map I.kIn O c.sa c.po n.taker c.hd wi hz fun h' O' sb => h _ ?_
  have hd : ∃ o, h'.get? dx = some o := let ⟨o, _, _, e', _⟩ := O'.ns; ⟨o, e'⟩
  refine I.write (x := a) (e := dx) (by rw [e]; exact True.intro) (.inr ho) (fun b q hb z => (sb.2 b hb).trans z) hd ?_
  refine ⟨by rw [upd_ne O.ne]; exact ho, ?_, O.ne, O'.obj, _, O'.ns, fun g => ?_, fun g hg => ?_⟩
  · have := length_putF f y fs; omega
  · show RelO ((putF f y fs).lookup g) (if g = f then some u else mA g)
    rw [lookup_putF]
    by_cases q : g = f
    · rw [if_pos q, if_pos q]; exact ry
    · rw [if_neg q, if_neg q]; exact r g
  · by_cases q : g = f
    · rw [q]; exact (keys_putF f y fs).1
    · refine (keys_putF f y fs).2 g (wi g fun z => hg ?_)
      show (if g = f then some u else mA g) = none
      rw [if_neg q]; exact z
theorem Inv.made (I : Inv X pins σ H s) : Inv X pins σ (upd (upd H s.heap.objs.size (.own (s.heap.objs.size + 1))) (s.heap.objs.size + 1) (.ins C s.heap.objs.size []))
    { s with heap := (s.heap.push PySem.W.emptyDict).push (PySem.W.instObj C s.heap.objs.size) } := by
  have e1 : (s.heap.push PySem.W.emptyDict).get? s.heap.objs.size = some PySem.W.emptyDict := Heap.get?_push_size s.heap rfl
  have e2 : ((s.heap.push PySem.W.emptyDict).push (PySem.W.instObj C s.heap.objs.size)).get? (s.heap.objs.size + 1) = some (PySem.W.instObj C s.heap.objs.size) := by
    have := Heap.get?_push_size (s.heap.push PySem.W.emptyDict) (o := PySem.W.instObj C s.heap.objs.size) rfl
    rwa [Heap.size_push] at this
  have e3 : (s.heap.push PySem.W.emptyDict).Ns s.heap.objs.size (fun _ => none) := ⟨PySem.W.emptyDict, #[], _, e1, rfl, (fun e he => absurd he (by simp)), fun _ => rfl⟩
  have I1 := I.laid (a := s.heap.objs.size) (o := .own (s.heap.objs.size + 1)) (h' := s.heap.push PySem.W.emptyDict) (t' := s.toks) (fun b u q => Heap.get?_push_of_some _ q) (Nat.le_refl _) ⟨_, e1⟩
  refine I1.laid (a := s.heap.objs.size + 1) (o := .ins C s.heap.objs.size []) (t' := s.toks) (fun b u q => Heap.get?_push_of_some _ q) (Nat.le_of_eq (Heap.size_push _ _)) ?_
  have ne : s.heap.objs.size ≠ s.heap.objs.size + 1 := Nat.ne_of_lt (Nat.lt_succ_self _)
  refine ⟨by rw [upd_ne ne, upd_same], Nat.zero_le _, ne, e2, fun _ => none, (Heap.Ns1.of_empty e3).at fun o q => Heap.get?_push_of_some _ q, fun _ => True.intro, fun y hy => absurd rfl hy⟩
theorem attr_of {prog : Program} {w : World} {env : Env} {e : Expr} {f : Str} {pos : Pos} {s : Shared} {Q : Value → Shared → Prop} (hb : attributeBase e f env (eval e env) = eval e env)
    (h : wpAny (model prog w) A (eval e env) (fun o s₁ => wpAny (model prog w) A (getAttr o f true) Q E s₁) E s) : wpAny (model prog w) A (eval (.Attribute e f pos) env) Q E s :=
  Attribute_any_ h (by rw [arm_eval_Attribute, hb])
end
def tFld (K : PySem.W.Frag) (ta : TE) (f : Str) : TE := fun σ H Q => ta σ H fun x H1 => ∃ a C dx fs v, x = .ref a ∧ H1 a = some (.ins C dx fs) ∧ Cls K C ∧ NoAttr K C f ∧ fs.lookup f = some v ∧ Q v H1
def sFld (K : PySem.W.Frag) (ta tv : TE) (f : Str) : TS := fun D σ H => tv σ H fun y H1 => ta σ H1 fun x H2 => ∃ a C dx fs, x = .ref a ∧ H2 a = some (.ins C dx fs) ∧ Cls K C ∧ NoAttr K C f ∧ fs.length < 1000 ∧
  D.nx σ (upd H2 a (.ins C dx (putF f y fs)))
section
variable {X : Cx} {o e value : Expr} {f : Str} {pos pos' tpos : Pos} {ta tv : TE}
theorem pe_fld (he : PE X e ta) (hb : attributeBase e f X.env (eval e X.env) = eval e X.env) : PE X (.Attribute e f pos) (tFld X.K ta f) := by
  intro pins s σ H Q I h
  refine attr_of hb (thn (he pins s σ H _ I h) fun u s1 ⟨x, H1, I1, rx, a, C, dx, fs, v, ex, ea, c, n, l, q⟩ => ?_)
  subst ex
  obtain rfl : u = Value.ref a := rx
  exact getattr_ok I1 ea c n l fun u' s2 I2 ru => ⟨v, H1, I2, ru, q⟩
theorem ps_fld (ha : PE X o ta) (hv : PE X value tv) (hs : swapsWith value (some (.Attribute o f pos')) pos.line X.env = pure false) : PS X (.Assign [.Attribute o f pos'] value pos) (sFld X.K ta tv f) := by
  intro pins s σ H D I h
  refine plainObj_wpAny_Assign_Attribute (thn (hv pins s σ H _ I h) fun u s1 ⟨y, H1, I1, ry, q⟩ => thn (ha pins s1 σ H1 _ I1 q) fun ov s2 ⟨x, H2, I2, rx, a, C, dx, fs, ex, ea, c, n, l, q2⟩ => ?_) hs
  subst ex
  obtain rfl : ov = Value.ref a := rx
  exact setattr_ok I2 ea c n l ry fun s3 I3 => ⟨σ, _, I3, q2⟩
theorem methcall_of {pl : Sem Bool} {m : Str} {apos : Pos} {args : List Expr} {pins : List (Addr × Obj)} {s : Shared} {σ : St} {H : Hp} {Q : Value → Shared → Prop} {te : TE} (he : PE X e te) (I : Inv X pins σ H s)
    (h : te σ H fun x H1 => ∃ a C dx fs g, x = .ref a ∧ H1 a = some (.ins C dx fs) ∧ Cls X.K C ∧ Meth X.K C m g ∧ fs.lookup m = none ∧
      ∀ s1, Inv X pins σ H1 s1 → wpAny (model X.prog X.w) X.A (callWith pos (.ref g) [.ref a] (backTo pos (starEach args X.env)) (backToKw pos (keywordEach [] X.env))) Q X.xe s1)
    (ht : eval (.Call (.Attribute e m apos) args [] pos) X.env = (do
      let ov ← eval e X.env
      standAt apos.atName
      let (f, first) ← holding [ov] (getMethod ov m pl)
      callWith pos f first (backTo pos (starEach args X.env)) (backToKw pos (keywordEach [] X.env)))) :
    wpAny (model X.prog X.w) X.A (eval (.Call (.Attribute e m apos) args [] pos) X.env) Q X.xe s := by
  refine PySem.W.methodCall_KW (pl := pl) (thn (he pins s σ H _ I h) fun u s1 ⟨x, H1, I1, rx, a, C, dx, fs, g, ex, ea, c, k, l, q⟩ => ?_) ht
  subst ex
  obtain rfl : u = Value.ref a := rx
  exact getmeth_ok I1 ea c k l (q s1 I1)
end
section
variable {X : Cx} {pins : List (Addr × Obj)} {σ : St} {H : Hp} {s : Shared} {A : Around} {E : Value → Shared → Prop} {Q : Value → Shared → Prop} {c : Value} {b : Bool}
inductive TyOf (K : PySem.W.Frag) (H : Hp) : V → Value → Prop where
  | non : TyOf K H .non (.type "NoneType")
  | bl (x : Bool) : TyOf K H (.bl x) (.type "bool")
  | int (i : Int) : TyOf K H (.int i) (.type "int")
  | str (x : Str) : TyOf K H (.str x) (.type "str")
  | flt (x : UInt64) : TyOf K H (.flt x) (.type "float")
  | lst {a : Addr} {xs : List V} (e : H a = some (.lst xs)) : TyOf K H (.ref a) (.type "list")
  | frz {a : Addr} {o : Obj} {xs : List V} (e : H a = some (.frz o (.lst xs))) : TyOf K H (.ref a) (.type "list")
  | tup {a : Addr} {xs : List V} (e : H a = some (.tup xs)) : TyOf K H (.ref a) (.type "tuple")
  | dK {a : Addr} {kvs : List (Key × V)} (e : H a = some (.dK kvs)) : TyOf K H (.ref a) (.type "dict")
  | dT {a : Addr} {kvs : List (List Key × V)} (e : H a = some (.dT kvs)) : TyOf K H (.ref a) (.type "dict")
  | ins {a C dx : Addr} {fs : List (Str × V)} (e : H a = some (.ins C dx fs)) (cl : Cls K C) (ha : PySem.W.findIn K (.ref C) "__class__" = some (some (.builtin "object.__class__")))
      (hn : PySem.W.specialIn K (.builtin "object.__class__") "__get__" = some (some (.builtin "getset_descriptor.__get__"))) (htk : PySem.W.takesIn K (.builtin "object.__class__") = some true)
      (hm : PySem.W.mroIn K C (.type "object") = some true) : TyOf K H (.ref a) (.ref C)
theorem isinst_ok {x : V} {u t : Value} (I : Inv X pins σ H s) (rx : RelV x u) (ty : TyOf X.K H x t) (e : PySem.W.kitOne X.K t c = some b) (h : ∀ tk, Q (.bool b) { s with toks := tk }) :
    wpAny (model X.prog X.w) A (call (.builtin "isinstance") [u, c]) Q E s := by
  cases ty with
  | non => cases (show u = Value.none from rx); exact PySem.W.kia_one PySem.W.kitx_none I.kIn True.intro e (fun z => nomatch z) h
  | bl y => cases (show u = Value.bool y from rx); exact PySem.W.kia_one PySem.W.kitx_bool I.kIn True.intro e (fun z => nomatch z) h
  | int i => obtain ⟨t, q⟩ := (show ∃ t, u = Value.int i t from rx); cases q; exact PySem.W.kia_one PySem.W.kitx_int I.kIn True.intro e (fun z => nomatch z) h
  | str y => obtain ⟨t, q⟩ := (show ∃ t, u = Value.str y t from rx); cases q; exact PySem.W.kia_one PySem.W.kitx_str I.kIn True.intro e (fun z => nomatch z) h
  | flt y => obtain ⟨t, q⟩ := (show ∃ t, u = Value.float y t from rx); cases q; exact PySem.W.kia_one PySem.W.kitx_float I.kIn True.intro e (fun z => nomatch z) h
  | @lst a xs ea =>
    cases (show u = Value.ref a from rx)
    obtain ⟨_, _, n, _, h1⟩ := (show ObjOk X.prog X.w H s.heap a (.lst xs) from I.hok a _ ea)
    exact PySem.W.kia_one PySem.W.kitx_list I.kIn ⟨_, h1, rfl⟩ e (fun z => nomatch z) h
  | @frz a ob xs ea =>
    cases (show u = Value.ref a from rx)
    obtain ⟨_, _, _, n, _, h1⟩ := (show ObjOk X.prog X.w H s.heap a (.frz ob (.lst xs)) from I.hok a _ ea)
    exact PySem.W.kia_one PySem.W.kitx_list I.kIn ⟨_, h1, rfl⟩ e (fun z => nomatch z) h
  | @tup a xs ea =>
    cases (show u = Value.ref a from rx)
    obtain ⟨_, _, _, p⟩ := (show ObjOk X.prog X.w H s.heap a (.tup xs) from I.hok a _ ea)
    obtain ⟨o, h1, h2, _⟩ := p
    exact PySem.W.kia_one PySem.W.kitx_tuple I.kIn ⟨o, h1, h2⟩ e (fun z => nomatch z) h
  | @dK a kvs ea =>
    cases (show u = Value.ref a from rx)
    obtain ⟨_, _, vs, _, p⟩ := (show ObjOk X.prog X.w H s.heap a (.dK kvs) from I.hok a _ ea)
    obtain ⟨o, es, ep, h1, h2, _⟩ := p
    exact PySem.W.kia_one PySem.W.kitx_dict I.kIn ⟨o, h1, h2.1⟩ e (fun z => nomatch z) h
  | @dT a kvs ea =>
    cases (show u = Value.ref a from rx)
    obtain ⟨_, _, xs, _, o, es, ep, h1, h2, _⟩ := (show ObjOk X.prog X.w H s.heap a (.dT kvs) from I.hok a _ ea)
    exact PySem.W.kia_one PySem.W.kitx_dict I.kIn ⟨o, h1, h2.1⟩ e (fun z => nomatch z) h
  | @ins a C dx fs ea cl ha hn htk hm =>
    cases (show u = Value.ref a from rx)
    obtain ⟨mA, O, _⟩ := ins_get I.hok ea
    obtain ⟨od, J, _⟩ := O.look
    exact PySem.W.kia_one (PySem.W.kitx_own (cl.get _) cl.hd ha hn htk hm) I.kIn J e (fun z => nomatch z) h
end
end L2
namespace L2
open PySem PySem.Spec PyProof.Rows
structure Room (k : Nat) (A : Around) : Prop where
  hd : A.handled = none
  dp : A.depth + 3 * k + 5 < recursionLimit
  un : A.units + 16 * k + 200 < cLine
theorem Room.mono {j k : Nat} {A : Around} (r : Room k A) (h : j ≤ k) : Room j A := ⟨r.hd, by have := r.dp; omega, by have := r.un; omega⟩
theorem Room.deeper {k : Nat} {A : Around} (r : Room (k + 1) A) (env : Env) : Room k (A.deeper env) :=
  ⟨r.hd, by have := r.dp; show A.depth + 1 + 3 * k + 5 < _; omega, by have := r.un; show A.units + 3 + 16 * k + 200 < _; omega⟩
theorem make_depth {A : Around} {C : Addr} {us : List Value} {kw : List (Str × Value)} : (A.under (.builtin "type.__call__" ⟨.ref C :: us, kw⟩)).depth = A.depth + 1 := by
  first | rfl | simp [Around.under, Code.weight, Code.isCreation, Code.isGuard, Code.isCaller, Code.frames, Code.isFrame, guardIds]
theorem make_units {A : Around} {C : Addr} {us : List Value} {kw : List (Str × Value)} : (A.under (.builtin "type.__call__" ⟨.ref C :: us, kw⟩)).units = A.units + 1 := by
  first | rfl | simp [Around.under, Code.cUnits, Code.frames, Code.isFrame]
theorem Room.make {k : Nat} {A : Around} (r : Room (k + 1) A) (C : Addr) (us : List Value) (kw : List (Str × Value)) : Room k (A.under (.builtin "type.__call__" ⟨.ref C :: us, kw⟩)) :=
  ⟨r.hd, by have := r.dp; rw [make_depth]; omega, by have := r.un; rw [make_units]; omega⟩
theorem Room.depth {k : Nat} {A : Around} (r : Room k A) : A.depth < recursionLimit := by have := r.dp; omega
theorem Room.units {k : Nat} {A : Around} (r : Room k A) : A.units + 64 < cLine := by have := r.un; omega
def tNil : TA := fun _ H Q => Q [] H
def tCons (ta : TE) (tr : TA) : TA := fun σ H Q => ta σ H fun x H1 => tr σ H1 fun xs H2 => Q (x :: xs) H2
section
variable {X : Cx} {e : Expr} {es : List Expr} {te : TE} {t : TA} {pos : Pos}
theorem pa_nil : PA X [] tNil := fun _ _ _ _ H Q I h => Calls.spliced_nil ⟨[], H, I, .nil, h⟩
theorem pa_cons (ha : PE X e te) (hr : PA X es t) (hs : starEach (e :: es) X.env = (false, eval e X.env) :: starEach es X.env := by rfl) : PA X (e :: es) (tCons te t) := by
  intro pos pins s σ H Q I h
  rw [hs]
  show wpAny _ _ (spliced ((false, eval e X.env) :: backTo pos (starEach es X.env))) _ _ s
  refine Calls.spliced_cons (thn (ha pins s σ H _ I h) fun u s1 ⟨x, H1, I1, r1, q1⟩ => ?_)
  exact thn (hr pos pins s1 σ H1 _ I1 q1) fun us s2 ⟨xs, H2, I2, r2, q2⟩ => ⟨x :: xs, H2, I2, .cons r1 r2, q2⟩
def tTup (t : TA) : TE := fun σ H Q => t σ H fun xs H1 => xs.length ≤ sizeLine ∧ ∀ p, H1 p = none → Q (.ref p) (upd H1 p (.tup xs))
def tLst (t : TA) : TE := fun σ H Q => t σ H fun xs H1 => xs.length ≤ sizeLine ∧ ∀ p, H1 p = none → Q (.ref p) (upd H1 p (.lst xs))
theorem pe_tup {x1} (h : PA X es t) : PE X (.Tuple es x1 pos) (tTup t) := by
  intro pins s σ H Q I hq
  refine wpAny_Tuple_spliced (thn (h pos pins s σ H _ I hq) fun us s1 ⟨xs, H1, I1, r, z, q⟩ => ⟨by rw [← r.length]; exact z, ?_⟩)
  have hf : H1 s1.heap.objs.size = none := I1.hok.fresh (Nat.le_refl _)
  refine ⟨.ref s1.heap.objs.size, upd H1 s1.heap.objs.size (.tup xs), I1.laid (t' := s1.toks) (fun b u e => Heap.get?_push_of_some _ e) (Nat.le_refl _) ?_, rfl, q _ hf⟩
  exact ⟨z, us, r, ⟨_, Heap.get?_push_size _ rfl, rfl, _, rfl⟩⟩
theorem pe_lst (h : PA X es t) : PE X (.List es pos) (tLst t) := by
  intro pins s σ H Q I hq
  refine wpAny_List_spliced (thn (h pos pins s σ H _ I hq) fun us s1 ⟨xs, H1, I1, r, z, q⟩ => ⟨by rw [← r.length]; exact z, ?_⟩)
  have hf : H1 s1.heap.objs.size = none := I1.hok.fresh (Nat.le_refl _)
  refine ⟨.ref s1.heap.objs.size, upd H1 s1.heap.objs.size (.lst xs), I1.laid (t' := s1.toks) (fun b u e => Heap.get?_push_of_some _ e) (Nat.le_refl _) ?_, rfl, q _ hf⟩
  exact ⟨z, us, 0, r, Heap.get?_push_size _ rfl⟩
end
abbrev Sp := List V → Hp → VK → XK → Prop
abbrev CXT := List Env → Hp → Shared → XK → Value → Shared → Prop
structure Env0 (P : Program) (w : World) (K : PySem.W.Frag) (mg : Str → Option Value) (base : Heap) (A : Around) (outer : List Env) (s : Shared) (H : Hp) : Prop where
  frames : A.frames = some outer
  mod : Mod K mg base
  bs : ∀ b o, base.get? b = some o → s.heap.get? b = some o ∧ H b = none
  bsz : base.objs.size ≤ s.heap.objs.size
  funs : s.heap.FunFrames base outer
  frf : ∀ b ∈ frs outer, H b = none
  hok : HOk P w H s.heap
  bare : AllBare s.gens
def CE (outer : List Env) (P : Program) (w : World) (H : Hp) (s : Shared) (Q : VK) (u : Value) (s' : Shared) : Prop :=
  ∃ v H', s'.os = s.os ∧ AllBare s'.gens ∧ Un (frs outer) [] H H' s.heap s'.heap ∧ HOk P w H' s'.heap ∧ RelV v u ∧ Q v H'
def CR (CX : CXT) (outer : List Env) (P : Program) (w : World) (H : Hp) (s : Shared) (Q : VK) (E : XK) (r : Result) (s' : Shared) : Prop :=
  match r with
  | .ok (.ret u) => CE outer P w H s Q u s'
  | .ok _ => False
  | .error e => CX outer H s E e s'
structure FnOk (P : Program) (w : World) (K : PySem.W.Frag) (mg : Str → Option Value) (base : Heap) (CX : CXT) (k : Nat) (f : Addr) (fd : FuncData) (ps : List Str) (sp : Sp) : Prop where
  len : ∀ vs H Q E, sp vs H Q E → vs.length = ps.length
  run : ∀ (A : Around) (outer : List Env) (s : Shared) (H : Hp) (args : Args) (us : List Value) (vs : List V) (Q : VK) (E : XK), Room k A → Env0 P w K mg base A outer s H → BindsTo s fd args (ps.zip us) → Vals vs us → sp vs H Q E →
    codeAny (model P w) A (.call (.ref f) args) (CR CX outer P w H s Q E) s
theorem FnOk.mono {P : Program} {w : World} {K : PySem.W.Frag} {mg : Str → Option Value} {base : Heap} {CX : CXT} {j k : Nat} {f : Addr} {fd : FuncData} {ps : List Str} {sp : Sp} (F : FnOk P w K mg base CX j f fd ps sp) (h : j ≤ k) :
    FnOk P w K mg base CX k f fd ps sp := ⟨F.len, fun A outer s H args us vs Q E hr => F.run A outer s H args us vs Q E (hr.mono h)⟩
theorem Env0.make {P : Program} {w : World} {K : PySem.W.Frag} {mg : Str → Option Value} {base : Heap} {A : Around} {outer : List Env} {s : Shared} {H : Hp} (e : Env0 P w K mg base A outer s H) (C : Addr) (us : List Value) (kw : List (Str × Value)) :
    Env0 P w K mg base (A.under (.builtin "type.__call__" ⟨.ref C :: us, kw⟩)) outer s H := ⟨by first | exact e.frames | (simpa [Around.under, Code.envs, Code.isFrame, pushEnvs] using e.frames), e.mod, e.bs, e.bsz, e.funs, e.frf, e.hok, e.bare⟩
section
variable {X : Cx} {pins : List (Addr × Obj)} {σ : St} {H : Hp} {s s' : Shared}
theorem Inv.env0 (I : Inv X pins σ H s) : Env0 X.prog X.w X.K X.mg X.base X.A X.stack s H :=
  ⟨I.ok.frames, I.ok.mod, I.bs, Nat.le_trans I.ok.bsz I.sz, I.stack, I.stkFree, I.hok, I.bare⟩
theorem Inv.after {Q : VK} {u : Value} (I : Inv X pins σ H s) (h : CE X.stack X.prog X.w H s Q u s') : EP X pins σ Q u s' := by
  obtain ⟨v, H', os, bare, un, hok, r, q⟩ := h
  obtain ⟨hh, g, d, t, os'⟩ := s'
  obtain rfl : os' = s.os := os
  exact ⟨v, H', I.call (h' := hh) (g' := g) (d' := d) (t' := t) (ch := []) un hok bare (fun b z => absurd z (by simp)), r, q⟩
end
def tCall (sp : Sp) (dvs : List V) (E : XK) (t : TA) : TE := fun σ H Q => t σ H fun vs H1 => sp (vs ++ dvs) H1 Q E
def tMeth (C : Addr) (m : Str) (sp : Sp) (dvs : List V) (E : XK) (ta : TE) (t : TA) : TE := fun σ H Q => ta σ H fun x H1 => ∃ a dx fs, x = .ref a ∧ H1 a = some (.ins C dx fs) ∧ fs.lookup m = none ∧
  t σ H1 fun vs H2 => sp (x :: (vs ++ dvs)) H2 Q E
def tMake (C : Addr) (sp : Sp) (dvs : List V) (E : XK) (t : TA) : TE := fun σ H Q => t σ H fun vs H1 => ∀ x dx, H1 x = none → H1 dx = none → dx ≠ x →
  sp (.ref x :: (vs ++ dvs)) (upd (upd H1 dx (.own x)) x (.ins C dx [])) (fun v H2 => v = .non ∧ Q (.ref x) H2) E
def Binds (K : PySem.W.Frag) (fd : FuncData) (ps : List Str) (ds : List Value) : Prop :=
  ∀ (s : Shared) (us : List Value), K.In s.heap → (us ++ ds).length = ps.length → BindsTo s fd ⟨us, []⟩ (ps.zip (us ++ ds))
theorem Binds.all {K : PySem.W.Frag} {fd : FuncData} {ps : List Str} (h : ∀ us : List Value, us.length = ps.length → bindArgs fd ⟨us, []⟩ = pure (ps.zip us)) : Binds K fd ps [] := fun s us _ hl => by
  rw [List.append_nil] at hl ⊢
  exact .of_eq (h us hl)
def Passes (CX : CXT) (X : Cx) (E : XK) : Prop := ∀ (pins : List (Addr × Obj)) (σ : St) (H : Hp) (s : Shared) (e : Value) (s' : Shared), Inv X pins σ H s → CX X.stack H s E e s' → X.xe e s'
section
variable {X : Cx} {CX : CXT} {k : Nat} {f C : Addr} {fd : FuncData} {ps : List Str} {sp : Sp} {dvs : List V} {ds : List Value} {E : XK} {x m : Str} {p pos apos : Pos} {e o : Expr} {es : List Expr} {ta : TE} {t : TA}
theorem run_fn {pins : List (Addr × Obj)} {σ : St} {H : Hp} {s : Shared} {Q : VK} {us : List Value} {vs : List V} (F : FnOk X.prog X.w X.K X.mg X.base CX k f fd ps sp) (hr : Room k X.A) (hb : Binds X.K fd ps ds) (hd : Vals dvs ds) (hx : Passes CX X E)
    (I : Inv X pins σ H s) (r : Vals vs us) (h : sp (vs ++ dvs) H Q E) : wpAny (model X.prog X.w) X.A (call (.ref f) us) (EP X pins σ Q) X.xe s := by
  have r2 : Vals (vs ++ dvs) (us ++ ds) := r.append hd
  have hl : (us ++ ds).length = ps.length := by rw [← r2.length]; exact F.len _ _ _ _ h
  refine wpAny_call (codeAny_mono (F.run X.A X.stack s H ⟨us, []⟩ (us ++ ds) (vs ++ dvs) Q E hr I.env0 (hb s us I.kIn hl) r2 h) fun r s' hq => ?_)
  cases r with
  | error e => exact hx pins σ H s e s' I hq
  | ok fl =>
    cases fl with
    | ret u => exact I.after hq
    | next => exact False.elim hq
    | brk => exact False.elim hq
    | cont => exact False.elim hq
theorem pe_call (F : FnOk X.prog X.w X.K X.mg X.base CX k f fd ps sp) (hr : Room k X.A) (hg : Gl X x) (hm : X.mg x = some (.ref f)) (hk : PySem.W.keepIn X.K (.ref f) = true) (hb : Binds X.K fd ps ds) (hd : Vals dvs ds) (hx : Passes CX X E)
    (ha : PA X (e :: es) t) (hdb : (x == ("__debug__" : Str)) = false := by decide) (he : starEach (e :: es) X.env = (false, eval e X.env) :: starEach es X.env := by rfl) (hpl : (backTo pos (starEach es X.env)).any (·.1) = false := by rfl) :
    PE X (.Call (.Name x p) (e :: es) [] pos) (tCall sp dvs E t) := by
  intro pins s σ H Q I h
  refine wpAny_Call_Name_kw (ld_glob I hg hm ?_ hdb)
  refine PySem.W.callWith_K (h₀ := X.base) I.ok.mod.kin hk (thn (ha pos pins s σ H _ I h) fun us s1 ⟨vs, H1, I1, r, q⟩ => ⟨I1.kIn, ?_⟩) he hpl
  exact run_fn F hr hb hd hx I1 r q
theorem pe_meth {pl : Sem Bool} (he : PE X o ta) (c : Cls X.K C) (hm : Meth X.K C m f) (F : FnOk X.prog X.w X.K X.mg X.base CX k f fd ps sp) (hr : Room k X.A) (hb : Binds X.K fd ps ds) (hd : Vals dvs ds) (hx : Passes CX X E) (ha : PA X (e :: es) t)
    (hst : starEach (e :: es) X.env = (false, eval e X.env) :: starEach es X.env := by rfl) (hpl : (backTo pos (starEach es X.env)).any (·.1) = false := by rfl)
    (ht : eval (.Call (.Attribute o m apos) (e :: es) [] pos) X.env = (do
      let ov ← eval o X.env
      standAt apos.atName
      let (f, first) ← holding [ov] (getMethod ov m pl)
      callWith pos f first (backTo pos (starEach (e :: es) X.env)) (backToKw pos (keywordEach [] X.env))) := by rfl) :
    PE X (.Call (.Attribute o m apos) (e :: es) [] pos) (tMeth C m sp dvs E ta t) := by
  intro pins s σ H Q I h
  refine PySem.W.methodCall_KW (pl := pl) (thn (he pins s σ H _ I h) fun u s1 ⟨x, H1, I1, rx, a, dx, fs, ex, ea, l, q⟩ => ?_) ht
  subst ex
  obtain rfl : u = Value.ref a := rx
  refine getmeth_ok I1 ea c hm l ?_
  refine PySem.W.callWith_K (first := [.ref a]) (h₀ := X.base) I.ok.mod.kin hm.kp (thn (ha pos pins s1 σ H1 _ I1 q) fun us s2 ⟨vs, H2, I2, r, q2⟩ => ⟨I2.kIn, ?_⟩) hst hpl
  exact run_fn (us := .ref a :: us) (vs := .ref a :: vs) F hr hb hd hx I2 (.cons rfl r) q2
theorem pe_meth0 {pl : Sem Bool} (he : PE X o ta) (c : Cls X.K C) (hm : Meth X.K C m f) (F : FnOk X.prog X.w X.K X.mg X.base CX k f fd ps sp) (hr : Room k X.A) (hb : Binds X.K fd ps ds) (hd : Vals dvs ds) (hx : Passes CX X E)
    (ht : eval (.Call (.Attribute o m apos) [] [] pos) X.env = (do
      let ov ← eval o X.env
      standAt apos.atName
      let (f, first) ← holding [ov] (getMethod ov m pl)
      callWith pos f first (backTo pos (starEach [] X.env)) (backToKw pos (keywordEach [] X.env))) := by rfl) :
    PE X (.Call (.Attribute o m apos) [] [] pos) (tMeth C m sp dvs E ta tNil) := by
  intro pins s σ H Q I h
  refine PySem.W.methodCall_KW (pl := pl) (thn (he pins s σ H _ I h) fun u s1 ⟨x, H1, I1, rx, a, dx, fs, ex, ea, l, q⟩ => ?_) ht
  subst ex
  obtain rfl : u = Value.ref a := rx
  refine getmeth_ok I1 ea c hm l ?_
  exact PySem.W.callWith_K0 (first := [.ref a]) I1.kIn hm.kp (run_fn (us := [.ref a]) (vs := [.ref a]) F hr hb hd hx I1 (.cons rfl .nil) q)
structure Mk (K : PySem.W.Frag) (C f : Addr) : Prop where
  makes : PySem.W.makesIn K C = true
  init : PySem.W.findIn K (.ref C) "__init__" = some (some (.ref f))
  fn : PySem.W.isFn K (.ref f) = true
  kp : PySem.W.keepIn K (.ref C) = true
theorem run_make {pins : List (Addr × Obj)} {σ : St} {H : Hp} {s : Shared} {Q : VK} {us : List Value} {vs : List V} (M : Mk X.K C f) (F : FnOk X.prog X.w X.K X.mg X.base CX k f fd ps sp) (hr : Room (k + 1) X.A) (hb : Binds X.K fd ps ds) (hd : Vals dvs ds)
    (hx : Passes CX X E) (I : Inv X pins σ H s) (r : Vals vs us)
    (h : ∀ x dx, H x = none → H dx = none → dx ≠ x → sp (.ref x :: (vs ++ dvs)) (upd (upd H dx (.own x)) x (.ins C dx [])) (fun v H2 => v = .non ∧ Q (.ref x) H2) E) :
    wpAny (model X.prog X.w) X.A (call (.ref C) us) (EP X pins σ Q) X.xe s := by
  have hq := h (s.heap.objs.size + 1) s.heap.objs.size (I.hok.fresh (Nat.le_succ _)) (I.hok.fresh (Nat.le_refl _)) (Nat.ne_of_lt (Nat.lt_succ_self _))
  have I2 := Inv.made (C := C) I
  have r2 : Vals (V.ref (s.heap.objs.size + 1) :: (vs ++ dvs)) (Value.ref (s.heap.objs.size + 1) :: (us ++ ds)) := .cons rfl (r.append hd)
  have hl : (Value.ref (s.heap.objs.size + 1) :: us ++ ds).length = ps.length := by
    have e := r2.length
    rw [F.len _ _ _ _ hq] at e
    exact e.symm
  refine wpAny_call (make_map (f := f) I.kIn M.makes M.init (beq_iff_eq.mp M.fn) (codeAny_mono (F.run _ X.stack _ _ ⟨Value.ref (s.heap.objs.size + 1) :: us, []⟩ (Value.ref (s.heap.objs.size + 1) :: (us ++ ds)) _ _ E (hr.make C us [])
    (I2.env0.make C us []) (hb _ (Value.ref (s.heap.objs.size + 1) :: us) I2.kIn hl) r2 hq) fun r s' hq' => ?_))
  cases r with
  | error e => exact hx pins σ _ _ e s' I2 hq'
  | ok fl =>
    cases fl with
    | ret u =>
      obtain ⟨v, H', I3, rv, ev, q3⟩ := I2.after hq'
      subst ev
      exact ⟨rv, ⟨V.ref (s.heap.objs.size + 1), H', I3, rfl, q3⟩⟩
    | next => exact False.elim hq'
    | brk => exact False.elim hq'
    | cont => exact False.elim hq'
theorem pe_make (M : Mk X.K C f) (F : FnOk X.prog X.w X.K X.mg X.base CX k f fd ps sp) (hr : Room (k + 1) X.A) (hg : Gl X x) (hm : X.mg x = some (.ref C)) (hb : Binds X.K fd ps ds) (hd : Vals dvs ds) (hx : Passes CX X E)
    (ha : PA X (e :: es) t) (hdb : (x == ("__debug__" : Str)) = false := by decide) (he : starEach (e :: es) X.env = (false, eval e X.env) :: starEach es X.env := by rfl) (hpl : (backTo pos (starEach es X.env)).any (·.1) = false := by rfl) :
    PE X (.Call (.Name x p) (e :: es) [] pos) (tMake C sp dvs E t) := by
  intro pins s σ H Q I h
  refine wpAny_Call_Name_kw (ld_glob I hg hm ?_ hdb)
  refine PySem.W.callWith_K (h₀ := X.base) I.ok.mod.kin M.kp (thn (ha pos pins s σ H _ I h) fun us s1 ⟨vs, H1, I1, r, q⟩ => ⟨I1.kIn, ?_⟩) he hpl
  exact run_make M F hr hb hd hx I1 r q
theorem pe_make0 (M : Mk X.K C f) (F : FnOk X.prog X.w X.K X.mg X.base CX k f fd ps sp) (hr : Room (k + 1) X.A) (hg : Gl X x) (hm : X.mg x = some (.ref C)) (hb : Binds X.K fd ps ds) (hd : Vals dvs ds) (hx : Passes CX X E)
    (hdb : (x == ("__debug__" : Str)) = false := by decide) : PE X (.Call (.Name x p) [] [] pos) (tMake C sp dvs E tNil) := by
  intro pins s σ H Q I h
  refine wpAny_Call_Name_kw (ld_glob I hg hm ?_ hdb)
  exact PySem.W.callWith_K0 I.kIn M.kp (run_make (us := []) M F hr hb hd hx I .nil h)
end
section
variable {X : Cx} {CX : CXT} {k : Nat} {f C : Addr} {fd : FuncData} {ps ks : List Str} {sp : Sp} {E : XK} {x m : Str} {p pos apos kpos : Pos} {e o : Expr} {es : List Expr} {kws : List Keyword} {te ta : TE} {t tk : TA} {nm : Option Str}
variable {g : List Value → List Value → List Value} {gV : List V → List V → List V}
end
structure FnScope (N P : List Str) (sc : Scope) : Prop where
  kind : sc.kind = .function
  co : sc.isCoroutine = false
  gen : sc.isGenerator = false
  nd : N.Nodup
  pre : N.take P.length = P
  par : ∀ x ∈ P, sc.names.lookup x = some .local ∨ sc.names.lookup x = some .cell
  nofree : ∀ y ∈ sc.names, y.2 ≠ .free
theorem bindL_out {kindOf : Str → Option NameKind} {x : Str} : ∀ {binds : List (Str × Value)} {m : Str → Option Value}, (∀ v, (x, v) ∉ binds) → bindL kindOf binds m x = m x
  | [], _, _ => rfl
  | (n, v) :: r, m, h => by
    unfold bindL
    rw [bindL_out fun w hw => h w (List.mem_cons_of_mem _ hw)]
    split
    · have : x ≠ n := by rintro rfl; exact h v List.mem_cons_self
      simp [this]
    · rfl
theorem bindC_out {kindOf : Str → Option NameKind} {x : Str} : ∀ {binds : List (Str × Value)} {m : Str → Option Value}, (∀ v, (x, v) ∉ binds) → bindC kindOf binds m x = m x
  | [], _, _ => rfl
  | (n, v) :: r, m, h => by
    unfold bindC
    rw [bindC_out fun w hw => h w (List.mem_cons_of_mem _ hw)]
    split
    · rfl
    · have : x ≠ n := by rintro rfl; exact h v List.mem_cons_self
      simp [this]
theorem bindL_get {kindOf : Str → Option NameKind} {x : Str} {v : Value} : ∀ {P : List Str} {vs : List Value} {i : Nat} {m : Str → Option Value}, P.Nodup → P[i]? = some x → vs[i]? = some v → kindOf x = some .local →
    bindL kindOf (P.zip vs) m x = some v
  | [], _, _, _, _, h, _, _ => by simp at h
  | _ :: _, [], _, _, _, _, h, _ => by simp at h
  | p :: P, w :: vs, 0, m, nd, h1, h2, hk => by
    simp at h1 h2; subst h1; subst h2
    show bindL kindOf ((p, w) :: P.zip vs) m p = _
    unfold bindL
    rw [bindL_out fun v hv => (List.nodup_cons.mp nd).1 (List.of_mem_zip hv).1, if_pos hk]
    simp
  | p :: P, w :: vs, i + 1, m, nd, h1, h2, hk => by
    show bindL kindOf ((p, w) :: P.zip vs) m x = _
    unfold bindL
    exact bindL_get (i := i) (List.nodup_cons.mp nd).2 (by simpa using h1) (by simpa using h2) hk
theorem bindC_get {kindOf : Str → Option NameKind} {x : Str} {v : Value} : ∀ {P : List Str} {vs : List Value} {i : Nat} {m : Str → Option Value}, P.Nodup → P[i]? = some x → vs[i]? = some v → kindOf x ≠ some .local →
    bindC kindOf (P.zip vs) m x = some v
  | [], _, _, _, _, h, _, _ => by simp at h
  | _ :: _, [], _, _, _, _, h, _ => by simp at h
  | p :: P, w :: vs, 0, m, nd, h1, h2, hk => by
    simp at h1 h2; subst h1; subst h2
    show bindC kindOf ((p, w) :: P.zip vs) m p = _
    unfold bindC
    rw [bindC_out fun v hv => (List.nodup_cons.mp nd).1 (List.of_mem_zip hv).1, if_neg hk]
    simp
  | p :: P, w :: vs, i + 1, m, nd, h1, h2, hk => by
    show bindC kindOf ((p, w) :: P.zip vs) m x = _
    unfold bindC
    exact bindC_get (i := i) (List.nodup_cons.mp nd).2 (by simpa using h1) (by simpa using h2) hk
def start (N : List Str) (vs : List V) : St := vs.map some ++ List.replicate (N.length - vs.length) none
def cxOf (CX : CXT) (P : Program) (w : World) (K : PySem.W.Frag) (mg : Str → Option Value) (base : Heap) (N : List Str) (qual : Str) (scope : Scope) (f : Addr) (cd : Value) (A : Around) (outer : List Env) (s : Shared) (H : Hp) (E : XK) : Cx where
  prog := P
  w := w
  K := K
  mg := mg
  base := base
  A := A.deeper (envOfC qual scope s.heap.objs.size f cd)
  N := N
  s₀ := s
  H₀ := H
  env := envOfC qual scope s.heap.objs.size f cd
  outer := outer
  stack := envOfC qual scope s.heap.objs.size f cd :: outer
  ex := []
  calm := true
  fn := fun _ => true
  pn := []
  xe := fun e s' => wpAny (model P w) (A.deeper (envOfC qual scope s.heap.objs.size f cd)) (leaving (envOfC qual scope s.heap.objs.size f cd) e) (fun _ s'' => CX outer H s E e s'') (fun e' s'' => CX outer H s E e' s'') s'
theorem cell_has {sc : Scope} {n : Nat} {x : Str} (h : sc.names.lookup x = some .cell) : ∃ c, (cellsFrom n sc.names []).lookup x = some c := by
  have q := PySem.W.cellsFrom_some sc.names n [] (.inl h)
  exact Option.isSome_iff_exists.mp q
theorem inv_start {CX : CXT} {P : Program} {w : World} {K : PySem.W.Frag} {mg : Str → Option Value} {base : Heap} {N ps : List Str} {qual : Str} {scope : Scope} {f : Addr} {cd : Value} {A : Around} {outer : List Env} {s s1 : Shared} {H : Hp} {E : XK} {us : List Value} {vs : List V}
    (S : FnScope N ps scope) (hd : A.handled = none) (e0 : Env0 P w K mg base A outer s H) (hl : vs.length = ps.length) (r : Vals vs us)
    (x : InCallC s s.heap.objs.size (bindL (envOfC qual scope s.heap.objs.size f cd).kindOf (ps.zip us) fun _ => none) (cellsFrom (s.heap.objs.size + 1) scope.names []) (bindC (envOfC qual scope s.heap.objs.size f cd).kindOf (ps.zip us) fun _ => none) s1) :
    Inv (cxOf CX P w K mg base N qual scope f cd A outer s H E) [] (start N vs) H s1 := by
  have hpl : ps.length ≤ N.length := by have := congrArg List.length S.pre; rw [List.length_take] at this; omega
  obtain ⟨h1, tk, rfl, hk⟩ := x.done
  have noA : ∀ b : Addr, b ∉ (cxOf CX P w K mg base N qual scope f cd A outer s H E).ex := fun b z => absurd (show b ∈ ([] : List Addr) from z) (by simp)
  refine ⟨⟨e0.mod, S.kind, rfl, rfl, Nat.le_refl _, fun y z c h1 h2 => ?_, fun y hy => ?_, fun y c _ h => ?_, fun _ => hd, Around.frames_deeper e0.frames, .inr ⟨rfl, rfl⟩, fun b z => absurd z (noA b), e0.bs, e0.bsz, fun b _ _ => noA b, fun b z => absurd z (noA b), e0.funs, e0.frf⟩,
    rfl, e0.bare, Un.kept hk, ⟨_, x.toInCall.ns, fun i y v h1 h2 h3 => ?_⟩, fun y c h => ⟨_, x.cell y c h⟩, e0.hok.fresh (Nat.le_refl _), fun y c h => ?_, fun p hp => absurd (show p ∈ ([] : List (Addr × Obj)) from hp) (by simp), e0.hok.kept hk, ?_⟩
  · exact name_of_addr x.apart (PySem.mem_of_lookup h1) (PySem.mem_of_lookup h2)
  · have hy : scope.names.lookup y = some .cell ∨ scope.names.lookup y = some .free := hy
    rcases hy with hy | hy
    · exact cell_has hy
    · exact absurd rfl (S.nofree _ (PySem.mem_of_lookup hy))
  · exact Nat.le_of_lt (x.above y c (PySem.mem_of_lookup h))
  · have hi : i < vs.length := by
      unfold start at h2
      by_cases hi : i < vs.length
      · exact hi
      · rw [List.getElem?_append_right (by simpa using hi)] at h2
        rw [List.getElem?_replicate] at h2
        split at h2 <;> cases h2
    have ha : vs[i]? = some v := by
      unfold start at h2
      rw [List.getElem?_append_left (by simpa using hi), List.getElem?_map] at h2
      cases e : vs[i]? with
      | none => rw [e] at h2; cases h2
      | some a => rw [e] at h2; cases h2; rfl
    obtain ⟨u, hu, rv⟩ := r.get ha
    have hp : ps[i]? = some y := by
      rw [← S.pre, List.getElem?_take_of_lt (by omega)]; exact h1
    have ndP : ps.Nodup := by rw [← S.pre]; exact S.nd.sublist (List.take_sublist _ _)
    refine ⟨u, rv, ?_⟩
    rcases S.par y (List.mem_of_getElem? hp) with k | k
    · exact .inl ⟨k, bindL_get ndP hp hu k⟩
    · obtain ⟨c, e⟩ := cell_has (n := s.heap.objs.size + 1) k
      refine .inr ⟨.inl k, c, e, ?_⟩
      have q := x.cell y c e
      rw [bindC_get ndP hp hu (by show scope.names.lookup y ≠ _; rw [k]; decide)] at q
      exact q
  · exact e0.hok.fresh (Nat.le_of_lt (x.above y c (PySem.mem_of_lookup h)))
  · unfold start
    show _ = N.length
    rw [List.length_append, List.length_map, List.length_replicate]
    omega
theorem fn_of {CX : CXT} {P : Program} {w : World} {K : PySem.W.Frag} {mg : Str → Option Value} {base : Heap} {k : Nat} {f : Addr} {name qual : Str} {params : Arguments} {body : List Stmt} {scope : Scope} {dV kV doc pm cdv ct oc : Value} {an od : Option Addr}
    {osl : Array (Option Value)} {N ps : List Str} {sp : Sp} (lk : K.lookup f = some ⟨oc, od, .func (PySem.W.fnOf name qual params body scope dV kV doc pm an cdv ct), osl⟩) (hcd : PySem.W.codeIn K cdv qual = true) (S : FnScope N ps scope)
    (len : ∀ vs H Q E, sp vs H Q E → vs.length = ps.length)
    (hbody : ∀ (A : Around) (outer : List Env) (s : Shared) (H : Hp) (vs : List V) (Q : VK) (E : XK), Room k (A.deeper (envOfC qual scope s.heap.objs.size f cdv)) → sp vs H Q E →
      ∃ t, PSs (cxOf CX P w K mg base N qual scope f cdv A outer s H E) body t ∧ t { nx := fun _ H' => Q .non H', rt := Q } (start N vs) H) :
    FnOk P w K mg base CX (k + 1) f (PySem.W.fnOf name qual params body scope dV kV doc pm an cdv ct) ps sp := by
  refine ⟨len, fun A outer s H args us vs Q E hr e0 hb r hsp => ?_⟩
  have hl := len _ _ _ _ hsp
  have KX : K.In s.heap := e0.mod.kin.keeps fun b o e => (e0.bs b o e).1
  have lim : s.heap.NoLimit := e0.mod.nolimit.keeps fun b o e => (e0.bs b o e).1
  have hkind : ∀ y ∈ ps.zip us, scope.names.lookup y.1 = some .local ∨ (scope.names.lookup y.1 = some .cell ∧ ((cellsFrom (s.heap.objs.size + 1) scope.names []).lookup y.1).isSome = true) := fun ⟨n, v⟩ hy => by
    rcases S.par n (List.of_mem_zip hy).1 with q | q
    · exact .inl q
    · exact .inr ⟨q, PySem.W.cellsFrom_some _ _ _ (.inl q)⟩
  refine codeAny_call_function hr.depth (KX _ _ lk) rfl S.co S.gen rfl (PySem.W.codeRec_of KX hcd) (hb _ _ _ _ ?_)
  refine wpAny_newFunctionEnv_cells S.kind hkind fun env he s1 x => ?_
  subst he
  refine ⟨lim.keeps x.toInCall.keep, codeAny_func ?_⟩
  obtain ⟨t, ht, hq⟩ := hbody A outer s H vs Q E (hr.deeper _) hsp
  have I : Inv (cxOf CX P w K mg base N qual scope f cdv A outer s H E) [] (start N vs) H s1 := inv_start S hr.hd e0 hl r x
  refine wpAny_mono (ht [] s1 (start N vs) H _ I hq) (fun fl s' hs => ?_) fun e s' hs => hs
  have fin : ∀ {σ' : St} {H' : Hp} {v : V} {u : Value}, Inv (cxOf CX P w K mg base N qual scope f cdv A outer s H E) [] σ' H' s' → RelV v u → Q v H' → CE outer P w H s Q u s' :=
    fun {σ' H' v u} J rv q => ⟨v, H', J.os, J.bare, J.base, J.hok, rv, q⟩
  cases fl with
  | ret u =>
    obtain ⟨v, σ', H', J, rv, q⟩ := hs
    exact fin J rv q
  | next =>
    obtain ⟨σ', H', J, q⟩ := hs
    exact fin (v := V.non) (u := Value.none) J rfl q
  | brk =>
    obtain ⟨_, _, _, q⟩ := hs
    exact False.elim q
  | cont =>
    obtain ⟨_, _, _, q⟩ := hs
    exact False.elim q
end L2
namespace L2
open PySem PySem.Spec PyProof.Rows
section
variable {X : Cx} {x : Str} {p pos : Pos} {e : Expr} {es : List Expr} {t : TA} {id T : String} {r : List V → Hp → VK → Prop}
def tCB (r : List V → Hp → VK → Prop) (t : TA) : TE := fun σ H Q => t σ H fun vs H1 => r vs H1 Q
theorem pe_callB (hc : CallR X (.builtin id) r) (hg : Gl X x) (hm : X.mg x = none) (hv : bootBuiltins x = some (.builtin id)) (ha : PA X (e :: es) t) (hn : x ≠ "__name__" := by decide) (hdb : (x == ("__debug__" : Str)) = false := by decide)
    (he : starEach (e :: es) X.env = (false, eval e X.env) :: starEach es X.env := by rfl) (hpl : (backTo pos (starEach es X.env)).any (·.1) = false := by rfl) : PE X (.Call (.Name x p) (e :: es) [] pos) (tCB r t) := by
  intro pins s σ H Q I h
  refine wpAny_Call_Name_kw (ld_blt I hg hm hv ?_ hn hdb)
  exact PyProof.Rows.callWith_builtin1 (thn (ha pos pins s σ H _ I h) fun us s1 ⟨vs, H1, I1, r1, q1⟩ => hc pins s1 σ H1 vs us Q I1 r1 q1) he hpl
theorem pe_callTy (hc : CallR X (.type T) r) (hg : Gl X x) (hm : X.mg x = none) (hv : bootBuiltins x = some (.type T)) (ha : PA X (e :: es) t) (hn : x ≠ "__name__" := by decide) (hdb : (x == ("__debug__" : Str)) = false := by decide)
    (he : starEach (e :: es) X.env = (false, eval e X.env) :: starEach es X.env := by rfl) (hpl : (backTo pos (starEach es X.env)).any (·.1) = false := by rfl) : PE X (.Call (.Name x p) (e :: es) [] pos) (tCB r t) := by
  intro pins s σ H Q I h
  refine wpAny_Call_Name_kw (ld_blt I hg hm hv ?_ hn hdb)
  exact PyProof.Rows.callWith_type1 (thn (ha pos pins s σ H _ I h) fun us s1 ⟨vs, H1, I1, r1, q1⟩ => hc pins s1 σ H1 vs us Q I1 r1 q1) he hpl
end
end L2
namespace HT
open PySem PyProof.Rows
section
open PySem.SeqAt
open PySem.AutoSeq1 (wpAny_loadPart')
open PySem.MeetsSeq PySem.MeetsSeq2 PySem.MeetsSeq3
end
section
variable {prog : Program} {w : World} {A : Around} {E : Value → Shared → Prop} {s : Shared}
theorem cat_tup {t b : Addr} {vs ws : List Value} {Q : Value → Shared → Prop} (ht : IsTup s.heap t vs.toArray) (hb : IsTup s.heap b ws.toArray) (hv : vs ≠ [])
    (h1 : ws = [] → Q (.ref t) s) (h2 : ws ≠ [] → Q (.ref s.heap.objs.size) { s with heap := s.heap.push { cls := .type "tuple", data := .seq (vs ++ ws).toArray } })
    (hsz : vs.length + ws.length ≤ sizeLine) : wpAny (model prog w) A (binaryOp .Add (.ref t) (.ref b)) Q E s := by
  obtain ⟨⟨cls, dd, data, sl⟩, ho, hc, n, hd⟩ := id ht
  obtain ⟨⟨cls2, dd2, data2, sl2⟩, ho2, hc2, n2, hd2⟩ := id hb
  simp only at hc hd hc2 hd2
  subst hc hd hc2 hd2
  have e : vs.toArray ++ ws.toArray = (vs ++ ws).toArray := by simp
  by_cases hw : ws = []
  · exact concat_meets ⟨_, ho, rfl⟩ ⟨_, ho2, rfl⟩ noFill_tuple_add seq_tuple_add PySem.F.slot_tuple_add PySem.F.entry_tuple_add (PySem.F.args_tuple_add_2 _ _)
      (tuple_addW1 t b vs.toArray ws.toArray n n2 dd dd2 sl sl2 (by simpa using hv) (by simp [hw])) ⟨ho, ho2, h1 hw⟩
  · refine concat_meets ⟨_, ho, rfl⟩ ⟨_, ho2, rfl⟩ noFill_tuple_add seq_tuple_add PySem.F.slot_tuple_add PySem.F.entry_tuple_add (PySem.F.args_tuple_add_2 _ _)
      (tuple_addW2 t b vs.toArray ws.toArray n n2 dd dd2 sl sl2 (by simpa using hv) (by simpa using hw) (by rw [List.size_toArray, List.size_toArray]; exact hsz)) ⟨ho, ho2, ?_⟩
    rw [e]
    exact h2 hw
def sIx (n d : Nat) : Option Int → Nat
  | none => d
  | some v => if v < 0 then (v + (n : Int)).toNat else min v.toNat n
theorem sIx_le (n d : Nat) (hd : d ≤ n) (o : Option Int) : sIx n d o ≤ n := by
  cases o with
  | none => exact hd
  | some v =>
    show (if v < 0 then (v + (n : Int)).toNat else min v.toNat n) ≤ n
    by_cases hv : v < 0
    · rw [if_pos hv]; omega
    · rw [if_neg hv]; exact Nat.min_le_right _ _
theorem clip_eq (v : Int) (n d : Nat) : (if v < 0 then max (v + (n : Int)) 0 else min v (n : Int)) = ((sIx n d (some v) : Nat) : Int) := by
  show (if v < 0 then max (v + (n : Int)) 0 else min v (n : Int)) = (((if v < 0 then (v + (n : Int)).toNat else min v.toNat n) : Nat) : Int)
  by_cases hv : v < 0
  · simp only [if_pos hv]; omega
  · simp only [if_neg hv]; omega
theorem adjust_gen (lo hi : Option Int) (n : Nat) : Builtin.Slice.sliceAdjust lo hi 1 (n : Int) = (((sIx n 0 lo : Nat) : Int), ((sIx n n hi : Nat) : Int)) := by
  have h1 : ¬ ((1 : Int) < 0) := by omega
  unfold Builtin.Slice.sliceAdjust
  simp only [h1, if_false]
  refine Prod.ext ?_ ?_
  · cases lo with
    | none => rfl
    | some v => exact clip_eq v n 0
  · cases hi with
    | none => rfl
    | some v => exact clip_eq v n n
theorem places_gen (i j : Nat) : Builtin.Slice.slicePlaces (i : Int) (j : Int) 1 = j - i := by
  unfold Builtin.Slice.slicePlaces
  have h1 : (1 : Int) > 0 := by omega
  simp only [h1, if_true, Int.ediv_one]
  split <;> omega
theorem slicePart_ {v : Value} {o : Option Int} {Q : Option Int → Shared → Prop} (p : IsPart v o) (h : Q o s) : wpAny (model prog w) A (Builtin.Slice.slicePartIndex v) Q E s := by
  cases p with
  | none => exact slicePart_none h
  | int i t => exact slicePart_int h
theorem sliceApplied_gen {sl : Addr} {vl vu : Value} {lo hi : Option Int} {n : Nat} {Q : Int × Int × Nat → Shared → Prop} (hs : s.heap.IsSliceOf sl vl vu .none) (pl : IsPart vl lo) (pu : IsPart vu hi)
    (h : Q (((sIx n 0 lo : Nat) : Int), 1, sIx n n hi - sIx n 0 lo) s) : wpAny (model prog w) A (Builtin.Slice.sliceApplied (.ref sl) (pure (n : Int))) Q E s := by
  obtain ⟨os, hos, hcs, hds⟩ := id hs
  unfold Builtin.Slice.sliceApplied Builtin.Slice.sliceFields
  refine wpAny_bind (wpAny_bind (wpAny_field hos hds (x := vl) rfl (wpAny_bind (wpAny_field hos hds (x := vu) rfl (wpAny_bind (wpAny_field hos hds (x := .none) rfl (wpAny_pure ?_)))))))
  refine wpAny_bind (slicePart_none ?_)
  show wpAny _ _ (if ((1 : Int) == 0) = true then _ else _) _ _ s
  rw [if_neg (by decide)]
  refine wpAny_bind (slicePart_ pl (wpAny_bind (slicePart_ pu (wpAny_bind (wpAny_pure ?_)))))
  show wpAny _ _ (match Builtin.Slice.sliceAdjust lo hi 1 (n : Int) with | (lo, hi) => pure (lo, (1 : Int), Builtin.Slice.slicePlaces lo hi 1)) _ _ s
  rw [adjust_gen lo hi n]
  show wpAny _ _ (pure (((sIx n 0 lo : Nat) : Int), (1 : Int), Builtin.Slice.slicePlaces ((sIx n 0 lo : Nat) : Int) ((sIx n n hi : Nat) : Int) 1)) _ _ s
  rw [places_gen]
  exact wpAny_pure h
theorem pick_gen (xs : Array Value) (i k : Nat) : ((List.range k).filterMap fun (m : Nat) => xs[((i : Int) + (m : Int) * 1).toNat]?).toArray = ((xs.toList.drop i).take k).toArray := by
  have e : (fun (m : Nat) => xs[((i : Int) + (m : Int) * 1).toNat]?) = fun m => xs[i + m]? := by
    funext m
    have : ((i : Int) + (m : Int) * 1).toNat = i + m := by omega
    rw [this]
  rw [e]
  have := pick_run xs i k
  rw [List.filterMap_map] at this
  have e2 : ((fun x => xs[x]?) ∘ fun x => i + x) = fun m => xs[i + m]? := rfl
  rw [e2] at this
  rw [this]
theorem getItem_tuple_cut {t sl : Addr} {items : Array Value} {vl vu : Value} {lo hi : Option Int} {Q : Value → Shared → Prop} (ht : IsTup s.heap t items) (hs : s.heap.IsSliceOf sl vl vu .none) (pl : IsPart vl lo) (pu : IsPart vu hi)
    (hw : ¬ (sIx items.size 0 lo = 0 ∧ sIx items.size items.size hi = items.size))
    (h : Q (.ref s.heap.objs.size) { s with heap := s.heap.push { cls := .type "tuple", data := .seq ((items.toList.drop (sIx items.size 0 lo)).take (sIx items.size items.size hi - sIx items.size 0 lo)).toArray } })
    (hsz : items.size ≤ sizeLine) : wpAny (model prog w) A (getItem (.ref t) (.ref sl)) Q E s := by
  have htake : sizeOk (.seq ((items.toList.drop (sIx items.size 0 lo)).take (sIx items.size items.size hi - sIx items.size 0 lo)).toArray) := by
    show ((items.toList.drop (sIx items.size 0 lo)).take (sIx items.size items.size hi - sIx items.size 0 lo)).toArray.size ≤ sizeLine
    rw [List.size_toArray, List.length_take, List.length_drop, Array.length_toList]
    omega
  have hj : sIx items.size items.size hi ≤ items.size := sIx_le _ _ (Nat.le_refl _) hi
  obtain ⟨os, hos, hcs, hds⟩ := id hs
  have hTs : s.TypeIs (.ref sl) "slice" := ⟨os, hos, hcs⟩
  unfold getItem
  try with_reducible refine wpAny_holding ?_
  first | refine wpAny_bind (wpAny_pure ?_) | skip
  refine wpAny_bind (wpAny_sequenceKey ht.typeIs (by decide) ?_)
  refine wpAny_bind (wpAny_callSpecial?_slot (name := Str.ofString "__getitem__") ht.typeIs PyProof.Rows.slot_tuple_getitem
    (wpAny_call_entry PyProof.Rows.slot_tuple_getitem ht.typeIs entry_tuple_getitem ?_ (args_tuple_getitem _ _)))
  show wpAny _ _ (Builtin.Tuple.tupleItemsOf (.ref t) >>= _) _ _ s
  refine wpAny_bind (tupleItemsOf_ ht ?_)
  refine wpAny_bind (wpAny_typeOf hTs ?_)
  rw [if_pos (by decide)]
  refine wpAny_bind (sliceApplied_gen hs pl pu ?_)
  have hno : ¬ ((((sIx items.size 0 lo : Nat) : Int) == 0 && (1 : Int) == 1 && (sIx items.size items.size hi - sIx items.size 0 lo) == items.size) = true) := by
    intro q
    rw [Bool.and_eq_true, Bool.and_eq_true] at q
    have q1 : ((sIx items.size 0 lo : Nat) : Int) = 0 := eq_of_beq q.1.1
    have q2 : sIx items.size items.size hi - sIx items.size 0 lo = items.size := eq_of_beq q.2
    exact hw ⟨by omega, by omega⟩
  show wpAny _ _ (if (((sIx items.size 0 lo : Nat) : Int) == 0 && (1 : Int) == 1 && (sIx items.size items.size hi - sIx items.size 0 lo) == items.size) = true then _ else _) _ _ s
  rw [if_neg hno, pick_gen]
  first
    | exact wpAny_bind (m := Builtin.Tuple.tupleExact _) (wpAny_newObj_type (wpAny_pure ⟨_, rfl, wpAny_pure h⟩) htake)
    | exact wpAny_bind (m := Builtin.Tuple.tupleExact _) (wpAny_newObj_type (wpAny_bind (wpAny_pure (wpAny_pure ⟨_, rfl, wpAny_pure h⟩))) htake)
    | exact wpAny_bind (wpAny_bind (m := Builtin.Tuple.tupleExact _) (wpAny_newObj_type (wpAny_pure (wpAny_pure ⟨_, rfl, wpAny_pure h⟩)) htake))
    | exact wpAny_bind (wpAny_bind (m := Builtin.Tuple.tupleExact _) (wpAny_newObj_type (wpAny_pure ⟨_, rfl, wpAny_pure h⟩) htake))
end
end HT
namespace L2
open PySem PySem.Spec PyProof.Rows
abbrev TO := St → Hp → (Option Int → Hp → Prop) → Prop
def PO (X : Cx) (e : Option Expr) (t : TO) : Prop :=
  ∀ (pins : List (Addr × Obj)) (s : Shared) (σ : St) (H : Hp) (Q : Option Int → Hp → Prop), Inv X pins σ H s → t σ H Q →
    wpAny (model X.prog X.w) X.A (evalPart e X.env) (fun u s' => ∃ o H', Inv X pins σ H' s' ∧ IsPart u o ∧ Q o H') X.xe s
def tPart (t : TE) : TO := fun σ H Q => t σ H fun x H1 => ∃ i, x = .int i ∧ Q (some i) H1
section
variable {X : Cx} {e : Expr} {te : TE} {lo hi : Option Expr} {tl th : TO} {pos p2 : Pos}
theorem po_some (h : PE X e te) : PO X (some e) (tPart te) := by
  intro pins s σ H Q I hw
  rw [evalPart_some]
  refine thn (h pins s σ H _ I hw) fun u s1 ⟨x, H1, I1, r1, q1⟩ => ?_
  obtain ⟨i, rfl, q⟩ := q1
  obtain ⟨t, rfl⟩ := r1
  exact ⟨some i, H1, I1, .int i t, q⟩
def SlR (X : Cx) (r : V → Option Int → Option Int → Hp → VK → Prop) : Prop :=
  ∀ (pins : List (Addr × Obj)) (s : Shared) (σ : St) (H : Hp) (x : V) (v vl vu : Value) (lo hi : Option Int) (sl : Addr) (Q : VK), Inv X pins σ H s → RelV x v → s.heap.IsSliceOf sl vl vu .none → IsPart vl lo → IsPart vu hi → r x lo hi H Q →
    ∃ T id, typeLookup (.type T) "__getitem__" = pure (some (.builtin id)) ∧ s.TypeIs v T ∧ wpAny (model X.prog X.w) X.A (getItem v (.ref sl)) (EP X pins σ Q) X.xe s
theorem SlR.or {r r' : V → Option Int → Option Int → Hp → VK → Prop} (h : SlR X r) (h' : SlR X r') : SlR X (fun x lo hi H Q => r x lo hi H Q ∨ r' x lo hi H Q) := by
  intro pins s σ H x v vl vu lo hi sl Q I rx hs pl pu q
  rcases q with q | q
  · exact h pins s σ H x v vl vu lo hi sl Q I rx hs pl pu q
  · exact h' pins s σ H x v vl vu lo hi sl Q I rx hs pl pu q
def tSl (r : V → Option Int → Option Int → Hp → VK → Prop) (te : TE) (tl th : TO) : TE := fun σ H Q => te σ H fun x H1 => tl σ H1 fun l H2 => th σ H2 fun u H3 => r x l u H3 Q
theorem pe_slice {r : V → Option Int → Option Int → Hp → VK → Prop} (hr : SlR X r) (he : PE X e te) (hl : PO X lo tl) (hu : PO X hi th) : PE X (.Subscript e (.Slice lo hi none p2) pos) (tSl r te tl th) := by
  intro pins s σ H Q I h
  refine Subscript_ (thn (he pins s σ H _ I h) fun v s1 ⟨x, H1, I1, r1, q1⟩ => ?_)
  refine wpAny_Slice (thn (hl pins s1 σ H1 _ I1 q1) fun vl s2 ⟨l, H2, I2, pl, q2⟩ => thn (hu pins s2 σ H2 _ I2 q2) fun vu s3 ⟨u, H3, I3, pu, q3⟩ => ?_)
  rw [evalPart_none]
  refine wpAny_pure ?_
  have I4 : Inv X pins σ H3 { s3 with heap := s3.heap.push { cls := .type "slice", data := .fields #[vl, vu, .none] } } := I3.kept (t' := s3.toks) fun b ob q => Heap.get?_push_of_some _ q
  obtain ⟨T, id, hT, ht, hg⟩ := hr pins { s3 with heap := s3.heap.push { cls := .type "slice", data := .fields #[vl, vu, .none] } } σ H3 x v vl vu l u s3.heap.objs.size Q I4 r1 (Heap.IsSliceOf.new ..) pl pu q3
  show wpAny (model X.prog X.w) X.A (subscriptTail e (.Slice lo hi none p2) v (.ref s3.heap.objs.size)) (EP X pins σ Q) X.xe { s3 with heap := s3.heap.push { cls := .type "slice", data := .fields #[vl, vu, .none] } }
  exact tail_any (ops := [.ref s3.heap.objs.size, v]) ht hT hg (by with_unfolding_all rfl)
def cutV (xs : List V) (lo hi : Option Int) : List V := (xs.drop (HT.sIx xs.length 0 lo)).take (HT.sIx xs.length xs.length hi - HT.sIx xs.length 0 lo)
theorem cutV_length (xs : List V) (lo hi : Option Int) : (cutV xs lo hi).length ≤ xs.length := by
  unfold cutV
  rw [List.length_take, List.length_drop]
  omega
def rSlT (K : PySem.W.Frag) : V → Option Int → Option Int → Hp → VK → Prop := fun x lo hi H Q => ∃ a xs, x = .ref a ∧ SqT K H a xs ∧
  ¬ (HT.sIx xs.length 0 lo = 0 ∧ HT.sIx xs.length xs.length hi = xs.length) ∧ ∀ p, H p = none → Q (.ref p) (upd H p (.tup (cutV xs lo hi)))
theorem sl_tup : SlR X (rSlT X.K) := by
  intro pins s σ H x v vl vu lo hi sl Q I rx hs pl pu h
  obtain ⟨a, xs, rfl, hx, hw, q⟩ := h
  cases rx
  obtain ⟨its, r, ht, hz⟩ := I.tuple hx
  have hlen : its.toArray.size = xs.length := by rw [List.size_toArray]; exact r.length.symm
  refine ⟨"tuple", _, PyProof.Rows.slot_tuple_getitem.lookup, ht.typeIs, ?_⟩
  refine HT.getItem_tuple_cut ht hs pl pu (by rw [hlen]; exact hw) ?_ (by rw [hlen]; exact hz)
  rw [hlen]
  refine ⟨.ref s.heap.objs.size, _, I.laid (t' := s.toks) (o := .tup (cutV xs lo hi)) (fun b ob q => Heap.get?_push_of_some _ q) (Nat.le_refl _) ?_, rfl, q _ (I.hok.fresh (Nat.le_refl _))⟩
  exact ⟨Nat.le_trans (cutV_length xs lo hi) hz, _, (r.drop (HT.sIx xs.length 0 lo)).take (HT.sIx xs.length xs.length hi - HT.sIx xs.length 0 lo), IsTup.new _ _⟩
def rCatT (K : PySem.W.Frag) : R2 := fun x y H Q => ∃ a b xs ys, x = .ref a ∧ y = .ref b ∧ SqT K H a xs ∧ SqT K H b ys ∧ xs ≠ [] ∧ xs.length + ys.length ≤ sizeLine ∧
  (ys = [] → Q (.ref a) H) ∧ (ys ≠ [] → ∀ p, H p = none → Q (.ref p) (upd H p (.tup (xs ++ ys))))
theorem Vals.nil_iff {xs : List V} {us : List Value} (r : Vals xs us) : us = [] ↔ xs = [] := by
  cases r with
  | nil => simp
  | cons _ _ => simp
theorem op_catT : OpR X (binaryOp .Add) (rCatT X.K) := by
  intro pins s σ H x y v u Q I rx ry h
  obtain ⟨a, b, xs, ys, rfl, rfl, ha, hb, hx, hz, q1, q2⟩ := h
  cases rx
  cases ry
  obtain ⟨its, r1, p1, _⟩ := I.tuple ha
  obtain ⟨its2, r2, p2, _⟩ := I.tuple hb
  refine HT.cat_tup p1 p2 (fun z => hx (r1.nil_iff.mp z)) (fun z => ⟨.ref a, H, I, rfl, q1 (r2.nil_iff.mp z)⟩) (fun z => ?_) (by rw [← r1.length, ← r2.length]; exact hz)
  refine ⟨.ref s.heap.objs.size, _, I.laid (t' := s.toks) (o := .tup (xs ++ ys)) (fun b ob q => Heap.get?_push_of_some _ q) (Nat.le_refl _) ?_, rfl, q2 (fun w => z (r2.nil_iff.mpr w)) _ (I.hok.fresh (Nat.le_refl _))⟩
  exact ⟨by rw [List.length_append]; exact hz, _, r1.append r2, IsTup.new _ _⟩
end
end L2
namespace L2
open PySem PySem.Spec PyProof.Rows
def ixN (n : Nat) (i : Int) : Option Nat := if 0 ≤ i then (if i < n then some i.toNat else none) else if -(n : Int) ≤ i then some (i + n).toNat else none
def atI {α : Type} (xs : List α) (i : Int) : Option α := (ixN xs.length i).bind fun j => xs[j]?
theorem ixN_seq {n : Nat} {i : Int} {j : Nat} (h : ixN n i = some j) : seqIndex? i n = some j ∧ j < n ∧ -(n : Int) ≤ i ∧ i < n := by
  unfold ixN at h
  by_cases h0 : 0 ≤ i
  · rw [if_pos h0] at h
    by_cases h1 : i < n
    · rw [if_pos h1] at h
      have e : i.toNat = j := Option.some.inj h
      exact ⟨by rw [seqIndex_of h0 h1, e], by omega, by omega, h1⟩
    · rw [if_neg h1] at h; cases h
  · rw [if_neg h0] at h
    by_cases h1 : -(n : Int) ≤ i
    · rw [if_pos h1] at h
      have e : (i + n).toNat = j := Option.some.inj h
      exact ⟨by rw [seqIndex_neg (by omega) h1, e], by omega, h1, by omega⟩
    · rw [if_neg h1] at h; cases h
theorem atI_get {α : Type} {xs : List α} {i : Int} {v : α} (h : atI xs i = some v) : ∃ j, seqIndex? i xs.length = some j ∧ xs[j]? = some v ∧ j < xs.length ∧ -(xs.length : Int) ≤ i ∧ i < xs.length := by
  unfold atI at h
  cases e : ixN xs.length i with
  | none => rw [e] at h; cases h
  | some j =>
    rw [e] at h
    obtain ⟨h1, h2, h3, h4⟩ := ixN_seq e
    exact ⟨j, h1, h, h2, h3, h4⟩
theorem atI_nat {α : Type} {xs : List α} {j : Nat} {v : α} (h : xs[j]? = some v) : atI xs (j : Int) = some v := by
  have hj : j < xs.length := (List.getElem?_eq_some_iff.mp h).1
  have e : ixN xs.length (j : Int) = some j := by
    unfold ixN
    rw [if_pos (by omega), if_pos (by omega)]; simp
  unfold atI; rw [e]; exact h
theorem atI_last {α : Type} (xs : List α) (v : α) : atI (xs ++ [v]) (-1) = some v := by
  have hl : (xs ++ [v]).length = xs.length + 1 := by simp
  have e : ixN (xs ++ [v]).length (-1) = some xs.length := by
    unfold ixN
    rw [hl, if_neg (by decide), if_pos (by omega)]
    congr 1
    omega
  unfold atI
  rw [e]
  show (xs ++ [v])[xs.length]? = some v
  simp
def PlainIx (b : Expr) : Prop := ∀ o i, subscripted b false o i = operate [o, i] (getItem o i)
def IxR (X : Cx) (r : R2) : Prop :=
  ∀ (value slice : Expr) (pins : List (Addr × Obj)) (s : Shared) (σ : St) (H : Hp) (x y : V) (v u : Value) (Q : VK), Inv X pins σ H s → RelV x v → RelV y u → r x y H Q →
    subscripted slice false v u = operate [v, u] (getItem v u) → wpAny (model X.prog X.w) X.A (subscriptTail value slice v u) (EP X pins σ Q) X.xe s
def MtR (X : Cx) (id : String) (r : V → List V → Hp → VK → Prop) : Prop :=
  ∀ (pins : List (Addr × Obj)) (s : Shared) (σ : St) (H : Hp) (x : V) (xs : List V) (v : Value) (us : List Value) (Q : VK), Inv X pins σ H s → RelV x v → Vals xs us → r x xs H Q →
    wpAny (model X.prog X.w) X.A (call (.builtin id) (v :: us)) (EP X pins σ Q) X.xe s
section
variable {X : Cx} {a b : Expr} {ta tb : TE} {pos : Pos}
theorem IxR.or {r r' : R2} (h : IxR X r) (h' : IxR X r') : IxR X (fun x y H Q => r x y H Q ∨ r' x y H Q) := by
  intro value slice pins s σ H x y v u Q I rx ry q hs
  rcases q with q | q
  · exact h value slice pins s σ H x y v u Q I rx ry q hs
  · exact h' value slice pins s σ H x y v u Q I rx ry q hs
theorem pe_ix {r : R2} (hr : IxR X r) (ha : PE X a ta) (hb : PE X b tb) (hs : PlainIx b) : PE X (.Subscript a b pos) (tOp r ta tb) := by
  intro pins s σ H Q I h
  exact Subscript_ (binT ha hb I h fun v u s2 x y H2 I2 rx ry q => hr a b pins s2 σ H2 x y v u Q I2 rx ry q (hs _ _))
def rIxL (K : PySem.W.Frag) : R2 := fun x y H Q => ∃ p xs i v, x = .ref p ∧ y = .int i ∧ SqL K H p xs ∧ atI xs i = some v ∧ Q v H
def rIxT (K : PySem.W.Frag) : R2 := fun x y H Q => ∃ p xs i v, x = .ref p ∧ y = .int i ∧ SqT K H p xs ∧ atI xs i = some v ∧ Q v H
def rIxS : R2 := fun x y H Q => ∃ z i c, x = .str z ∧ y = .int i ∧ z.length ≤ sizeLine ∧ atI z.cps.toList i = some c ∧ Q (.str ⟨#[c]⟩) H
theorem ix_list : IxR X (rIxL X.K) := by
  intro value slice pins s σ H x y v u Q I rx ry h hs
  obtain ⟨p, xs, i, z, rfl, rfl, hq, he, q⟩ := h
  cases rx
  obtain ⟨t, rfl⟩ := ry
  obtain ⟨its, r, pl, hz⟩ := I.list hq
  obtain ⟨j, h1, h2, h3, h4, h5⟩ := atI_get he
  obtain ⟨w, ew, rw'⟩ := r.get h2
  have hl := r.length
  have hn := line63
  have fin : EP X pins σ Q w s := ⟨z, H, I, rw', q⟩
  by_cases h0 : 0 ≤ i
  · have hj : i.toNat = j := by
      rw [seqIndex_of h0 h5] at h1
      exact Option.some.inj h1
    exact item_listR pl.isList h0 (by omega) (by rw [hj]; simpa using ew) fin hs
  · have hj : (i + (its.toArray.size : Int)).toNat = j := by
      rw [seqIndex_neg (by omega) h4] at h1
      rw [List.size_toArray, ← hl]
      exact Option.some.inj h1
    exact subscriptTail_builtinR (x := w) pl.isList.typeIs slot_list_getitem.lookup
      (wpAny_getItem_list_neg (Q := fun r s' => r = w ∧ EP X pins σ Q r s') pl.isList (by omega) (by rw [List.size_toArray] <;> omega) (by omega) (by rw [hj]; simpa using ew) ⟨rfl, fin⟩) hs
theorem ix_tup : IxR X (rIxT X.K) := by
  intro value slice pins s σ H x y v u Q I rx ry h hs
  obtain ⟨p, xs, i, z, rfl, rfl, hq, he, q⟩ := h
  cases rx
  obtain ⟨t, rfl⟩ := ry
  obtain ⟨its, r, pl, hz⟩ := I.tuple hq
  obtain ⟨j, h1, h2, h3, h4, h5⟩ := atI_get he
  obtain ⟨w, ew, rw'⟩ := r.get h2
  have hl := r.length
  have hn := line63
  have fin : EP X pins σ Q w s := ⟨z, H, I, rw', q⟩
  exact subscriptTail_builtinR (x := w) pl.typeIs slot_tuple_getitem.lookup
    (getItem_tuple (j := j) (Q := fun r s' => r = w ∧ EP X pins σ Q r s') pl (by omega) (by omega) (by rw [List.size_toArray, ← hl]; exact h1) (by simpa using ew) ⟨rfl, fin⟩) hs
theorem ix_str : IxR X rIxS := by
  intro value slice pins s σ H x y v u Q I rx ry h hs
  obtain ⟨z, i, c, rfl, rfl, hz, he, q⟩ := h
  obtain ⟨t, rfl⟩ := rx
  obtain ⟨t', rfl⟩ := ry
  obtain ⟨j, h1, h2, h3, h4, h5⟩ := atI_get he
  have hl : z.cps.toList.length = z.length := by simp [Str.length]
  rw [hl] at h1 h4 h5
  have hn := line63
  exact tail_any (typeIs_str s z t) slot_str_getitem.lookup (getItem_str (c := c) (by
    have e1 : decide (i < -(2 ^ 63 : Int)) = false := decide_eq_false (by omega)
    have e2 : decide (i ≥ 2 ^ 63) = false := decide_eq_false (by omega)
    rw [e1, e2, Bool.or_false]) (by rw [h1]; simpa using h2) ⟨.str ⟨#[c]⟩, H, I.tok _, ⟨_, rfl⟩, q⟩) hs
def rIx (K : PySem.W.Frag) : R2 := fun x y H Q => rIxL K x y H Q ∨ rIxT K x y H Q ∨ rIxS x y H Q
theorem ix_seq : IxR X (rIx X.K) := ix_list.or (ix_tup.or ix_str)
theorem mapSeq_set (its : List Value) (n j : Nat) (u : Value) : Obj.mapSeq (·.setIfInBounds j u) { cls := .type "list", data := .seq its.toArray n } = { cls := .type "list", data := .seq (its.set j u).toArray n } := by
  simp [Obj.mapSeq]
theorem Inv.lst {pins : List (Addr × Obj)} {σ : St} {H : Hp} {s : Shared} {p : Addr} {xs : List V} (I : Inv X pins σ H s) (h : H p = some (.lst xs)) :
    ∃ (its : List Value) (n : Nat), Vals xs its ∧ s.heap.get? p = some { cls := .type "list", data := .seq its.toArray n } ∧ xs.length ≤ sizeLine := by
  obtain ⟨z, its, n, r, e⟩ := I.hok p _ h
  exact ⟨its, n, r, e, z⟩
theorem Inv.lstUpd {pins : List (Addr × Obj)} {σ : St} {H : Hp} {s : Shared} {p : Addr} {xs ys : List V} {its its' : List Value} {n n' : Nat} {f : Obj → Obj} (I : Inv X pins σ H s) (h : H p = some (.lst xs))
    (ho : s.heap.get? p = some { cls := .type "list", data := .seq its.toArray n }) (hf : f { cls := .type "list", data := .seq its.toArray n } = { cls := .type "list", data := .seq its'.toArray n' }) (r : Vals ys its') (hz : ys.length ≤ sizeLine) (t : Nat) :
    Inv X pins σ (upd H p (.lst ys)) { s with heap := s.heap.update p f, toks := t } := by
  have e : (s.heap.update p f).get? p = some { cls := .type "list", data := .seq its'.toArray n' } := by
    rw [Heap.get?_update_self f ho (by rw [hf] <;> rfl), hf]
  refine I.write (x := p) (e := p) (by rw [h]; trivial) (.inl rfl) (fun b u hb q => (Heap.get?_update_other _ _ (Ne.symm hb)).trans q) ⟨_, e⟩ ?_
  exact ⟨hz, its', n', r, e⟩
def rSetL : V → V → V → Hp → (Hp → Prop) → Prop := fun o i v H Q => ∃ p xs k j, o = .ref p ∧ i = .int k ∧ H p = some (.lst xs) ∧ ixN xs.length k = some j ∧ Q (upd H p (.lst (xs.set j v)))
theorem set_list : PSet X rSetL := by
  intro pins s σ H o i v ov iv u Q I ro ri rv h
  obtain ⟨p, xs, k, j, rfl, rfl, hp, hj, q⟩ := h
  cases ro
  obtain ⟨t, rfl⟩ := ri
  obtain ⟨its, n, r, ho, hz⟩ := I.lst hp
  obtain ⟨h1, h2, h3, h4⟩ := ixN_seq hj
  have hl := r.length
  have hn := line63
  have I' : Inv X pins σ (upd H p (.lst (xs.set j v))) { s with heap := s.heap.update p (Obj.mapSeq (·.setIfInBounds j u)) } :=
    I.lstUpd hp ho (mapSeq_set its n j u) (r.set rv j) (by rw [List.length_set]; exact hz) s.toks
  by_cases h0 : 0 ≤ k
  · have hk : k.toNat = j := by
      rw [seqIndex_of h0 h4] at h1
      exact Option.some.inj h1
    exact PySem.W.ki_setAt ho h0 (by omega) (by rw [List.size_toArray, ← hl]; exact h4) (by rw [hk]; exact ⟨_, I', q⟩)
  · have hk : (k + (its.toArray.size : Int)).toNat = j := by
      rw [seqIndex_neg (by omega) h3] at h1
      rw [List.size_toArray, ← hl]
      exact Option.some.inj h1
    exact PySem.W.ki_setBack ho (by omega) (by rw [List.size_toArray, ← hl]; exact h3) (by omega) (by rw [hk]; exact ⟨_, I', q⟩)
theorem slice_bounds (lo hi : Option Int) (n : Nat) : (sliceBounds lo hi none n).1 = ((HT.sIx n 0 lo : Nat) : Int) ∧ (sliceBounds lo hi none n).2.1 = ((HT.sIx n n hi : Nat) : Int) ∧ (sliceBounds lo hi none n).2.2 = 1 := by
  refine ⟨?_, ?_, rfl⟩
  · cases lo with
    | none => simp [sliceBounds, HT.sIx]
    | some i =>
      simp only [sliceBounds, HT.sIx, Option.getD_none, show (1 : Int) > 0 by decide, if_true]
      by_cases h : i < 0
      · simp only [h, if_true] <;> omega
      · simp only [h, if_false] <;> omega
  · cases hi with
    | none => simp [sliceBounds, HT.sIx]
    | some i =>
      simp only [sliceBounds, HT.sIx, Option.getD_none, show (1 : Int) > 0 by decide, if_true]
      by_cases h : i < 0
      · simp only [h, if_true] <;> omega
      · simp only [h, if_false] <;> omega
theorem slicePick_cut (its : List Value) (lo hi : Option Int) : slicePick its.toArray lo hi none = ((its.drop (HT.sIx its.length 0 lo)).take (HT.sIx its.length its.length hi - HT.sIx its.length 0 lo)).toArray := by
  obtain ⟨h1, h2, h3⟩ := slice_bounds lo hi its.toArray.size
  unfold slicePick
  rw [h1, h2, h3]
  simp only [sliceRange_one, pick_run, List.size_toArray] <;> rfl
def rSlL (K : PySem.W.Frag) : V → Option Int → Option Int → Hp → VK → Prop := fun x lo hi H Q => ∃ a xs, x = .ref a ∧ SqL K H a xs ∧ ∀ p, H p = none → Q (.ref p) (upd H p (.lst (cutV xs lo hi)))
theorem sl_list : SlR X (rSlL X.K) := by
  intro pins s σ H x v vl vu lo hi sl Q I rx hs pl pu h
  obtain ⟨a, xs, rfl, hx, q⟩ := h
  cases rx
  obtain ⟨its, r, ht, hz⟩ := I.list hx
  have hlen := r.length
  refine ⟨"list", _, slot_list_getitem.lookup, ht.isList.typeIs, ?_⟩
  refine wpAny_getItem_list_slice ht.isList hs pl pu .none (by simp) ?_ (by rw [List.size_toArray] <;> omega)
  rw [slicePick_cut, ← hlen]
  refine ⟨.ref s.heap.objs.size, _, I.laid (t' := s.toks) (o := .lst (cutV xs lo hi)) (fun b ob q => Heap.get?_push_of_some _ q) (Nat.le_refl _) ?_, rfl, q _ (I.hok.fresh (Nat.le_refl _))⟩
  exact ⟨Nat.le_trans (cutV_length xs lo hi) hz, _, 0, (r.drop (HT.sIx xs.length 0 lo)).take (HT.sIx xs.length xs.length hi - HT.sIx xs.length 0 lo), Heap.get?_push_size _ rfl⟩
theorem call_list_of : CallR X (.type "list") (fun xs H Q => ∃ p ys, xs = [.ref p] ∧ (SqL X.K H p ys ∨ SqT X.K H p ys) ∧ ∀ l, H l = none → Q (.ref l) (upd H l (.lst ys))) := by
  intro pins s σ H xs us Q I r h
  obtain ⟨p, ys, rfl, hq, q⟩ := h
  obtain ⟨u, rfl, rx⟩ := vals1 r
  cases rx
  have fin : ∀ (its : List Value), Vals ys its → ys.length ≤ sizeLine → ∀ (h' : Heap) (c' : Nat), (∀ b o', s.heap.get? b = some o' → h'.get? b = some o') →
      h'.get? s.heap.objs.size = some { cls := .type "list", dict := none, data := .seq its.toArray c', slots := #[] } → EP X pins σ Q (.ref s.heap.objs.size) { s with heap := h' } := fun its r' hz h' c' kp e =>
    ⟨.ref s.heap.objs.size, _, I.laid (t' := s.toks) kp (Nat.le_refl _) (show ObjOk X.prog X.w _ h' _ (.lst ys) from ⟨hz, its, c', r', e⟩), rfl, q _ (I.hok.fresh (Nat.le_refl _))⟩
  rcases hq with hq | hq
  · obtain ⟨its, r', pl, hz⟩ := I.list hq
    have hlen := r'.length
    obtain ⟨o, ho, hc, n, hd⟩ := pl.isList
    exact call_list_seq p (.inl rfl) ho hc hd (fun h' c' kp e => fin its r' hz h' c' kp e) (by simp only [List.size_toArray] <;> omega)
  · obtain ⟨its, r', pl, hz⟩ := I.tuple hq
    have hlen := r'.length
    obtain ⟨o, ho, hc, n, hd⟩ := pl
    exact call_list_seq p (.inr rfl) ho hc hd (fun h' c' kp e => fin its r' hz h' c' kp e) (by simp only [List.size_toArray] <;> omega)
def tyV (K : PySem.W.Frag) (T : String) (x : V) (H : Hp) : Prop := match x with
  | .str _ => T = "str"
  | .int _ => T = "int"
  | .ref p => (T = "list" ∧ ∃ xs, SqL K H p xs) ∨ (T = "tuple" ∧ ∃ o, K.lookup p = some o ∧ o.cls = .type "tuple" ∧ o.dict = none) ∨
      (T = "dict" ∧ ((∃ kvs, H p = some (.dK kvs)) ∨ ∃ kvs, H p = some (.dT kvs))) ∨ (T = "set" ∧ ∃ S n, H p = some (.set S n))
  | _ => False
theorem tyV_is {pins : List (Addr × Obj)} {σ : St} {H : Hp} {s : Shared} {T : String} {x : V} {v : Value} (I : Inv X pins σ H s) (r : RelV x v) (ty : tyV X.K T x H) :
    s.TypeIs v T ∧ ∀ a, v = .ref a → ∃ ob, s.heap.get? a = some ob ∧ ob.dict = none := by
  cases x with
  | str z =>
    obtain ⟨t, rfl⟩ := r
    cases (show T = "str" from ty)
    exact ⟨typeIs_str s z t, fun _ e => nomatch e⟩
  | int i =>
    obtain ⟨t, rfl⟩ := r
    cases (show T = "int" from ty)
    exact ⟨typeIs_int s i t, fun _ e => nomatch e⟩
  | ref p =>
    cases r
    rcases ty with ⟨rfl, xs, hq⟩ | ⟨rfl, o, hk, hc, hd⟩ | ⟨rfl, hk⟩ | ⟨rfl, S, n, hk⟩
    · obtain ⟨its, _, pl, _⟩ := I.list hq
      refine ⟨pl.isList.typeIs, fun a e => ?_⟩
      cases e
      obtain ⟨o, n, e, c, hd, _⟩ := pl
      exact ⟨o, e, hd⟩
    · refine ⟨⟨o, I.kIn p o hk, hc⟩, fun a e => ?_⟩
      cases e
      exact ⟨o, I.kIn _ o hk, hd⟩
    · have z : ∃ o, s.heap.get? p = some o ∧ o.ExactDict := by
        rcases hk with ⟨kvs, hk⟩ | ⟨kvs, hk⟩
        · obtain ⟨_, _, _, _, o, _, _, e, ex, _⟩ := I.hok p _ hk
          exact ⟨o, e, ex⟩
        · obtain ⟨_, _, _, _, o, _, _, e, ex, _⟩ := I.hok p _ hk
          exact ⟨o, e, ex⟩
      obtain ⟨o, e, ex⟩ := z
      refine ⟨⟨o, e, ex.1⟩, fun a e2 => ?_⟩
      cases e2
      exact ⟨o, e, ex.2.1⟩
    · obtain ⟨o, _, _, _, e, ex, _⟩ := I.hok p _ hk
      refine ⟨⟨o, e, ex.1⟩, fun a e2 => ?_⟩
      cases e2
      exact ⟨o, e, ex.2.1⟩
  | _ => exact False.elim ty
def tBM (K : PySem.W.Frag) (T : String) (r : V → List V → Hp → VK → Prop) (to : TE) (t : TA) : TE := fun σ H Q => to σ H fun x H1 => tyV K T x H1 ∧ t σ H1 fun xs H2 => r x xs H2 Q
variable {o e : Expr} {es : List Expr} {to : TE} {t : TA} {name : Str} {apos cpos : Pos} {T id : String} {r : V → List V → Hp → VK → Prop}
theorem pe_bm (pa : PlainAttrs T) (slot : Slot T name id) (hty : typeOf (.builtin id) = pure (.type "method_descriptor")) (hm : MtR X id r) (ho : PE X o to) (ha : PA X (e :: es) t)
    (hbase : attributeBase o name X.env (eval o X.env) = eval o X.env := by rfl)
    (hfew : ((backTo cpos (starEach (e :: es) X.env)).all (fun x => !x.1) && (backToKw cpos (keywordEach [] X.env)).all (fun x => x.1.isSome)
      && decide ((e :: es).length + ([] : List Keyword).length + (if ([] : List Keyword).isEmpty then 0 else 1) < 30)) = true := by rfl)
    (hline : (apos.endLine == cpos.line) = true := by rfl) (hs : starEach (e :: es) X.env = (false, eval e X.env) :: starEach es X.env := by rfl) (hplain : (backTo cpos (starEach es X.env)).any (·.1) = false := by rfl) :
    PE X (.Call (.Attribute o name apos) (e :: es) [] cpos) (tBM X.K T r to t) := by
  intro pins s σ H Q I h
  refine wpAny_Call_method_late hbase hfew hline rfl (thn (ho pins s σ H _ I h) fun v s1 ⟨x, H1, I1, r1, ty, q1⟩ => ?_)
  obtain ⟨h1, h2⟩ := tyV_is I1 r1 ty
  refine ⟨T, id, pa, slot, hty, h1, h2, ?_⟩
  have hA := ha cpos pins s1 σ H1 _ I1 q1
  rw [hs] at hA ⊢
  refine Calls.callWith_builtin (by show (false || (backTo cpos (starEach es X.env)).any (·.1)) = false; rw [hplain] <;> rfl) (Calls.evalArgs_plain ?_)
  exact thn hA fun us s2 ⟨vs, H2, I2, r2, q2⟩ => hm pins s2 σ H2 x vs v us Q I2 r1 r2 q2
end
end L2
namespace L2
open PySem PySem.Spec PyProof.Rows
def MtM (X : Cx) (id : String) (r : V → List V → Hp → VK → Prop) : Prop :=
  ∀ (pins : List (Addr × Obj)) (s : Shared) (σ : St) (H : Hp) (x : V) (xs : List V) (v : Value) (us : List Value) (Q : VK), Inv X pins σ H s → RelV x v → Vals xs us → r x xs H Q →
    wpAny (model X.prog X.w) X.A (call (.builtin id) (v :: us)) (EP X pins σ Q) X.xe s
theorem Vals.one : ∀ {x : V} {us : List Value}, Vals [x] us → ∃ u, us = [u] ∧ RelV x u
  | _, _, .cons r .nil => ⟨_, rfl, r⟩
theorem Vals.two : ∀ {x y : V} {us : List Value}, Vals [x, y] us → ∃ u v, us = [u, v] ∧ RelV x u ∧ RelV y v
  | _, _, _, .cons r (.cons q .nil) => ⟨_, _, rfl, r, q⟩
theorem Vals.rep {xs : List V} {us : List Value} (h : Vals xs us) : ∀ k : Nat, Vals (List.replicate k xs).flatten (List.replicate k us).flatten
  | 0 => .nil
  | k + 1 => by
    rw [List.replicate_succ, List.replicate_succ, List.flatten_cons, List.flatten_cons]
    exact Vals.append h (Vals.rep h k)
theorem foldl_rep (its : List Value) : ∀ (k : Nat) (acc : List Value),
    List.foldl (fun x1 x2 => x1 ++ x2) acc.toArray (List.replicate k its.toArray) = (acc ++ (List.replicate k its).flatten).toArray
  | 0, acc => by simp
  | k + 1, acc => by
    have e : acc.toArray ++ its.toArray = (acc ++ its).toArray := by simp
    have e2 : (acc ++ its) ++ (List.replicate k its).flatten = acc ++ (List.replicate (k + 1) its).flatten := by
      rw [List.replicate_succ, List.flatten_cons, List.append_assoc]
    rw [← e2, ← foldl_rep its k (acc ++ its), ← e, List.replicate_succ, List.foldl_cons]
section
variable {X : Cx} {pins : List (Addr × Obj)} {σ : St} {H : Hp} {s : Shared} {l b : Addr} {xs ys zs : List V}
theorem Inv.lset {its its' : List Value} {n : Nat} {f : Array Value → Array Value} {t' : Nat} (I : Inv X pins σ H s) (hH : H l = some (.lst xs))
    (e : s.heap.get? l = some { cls := .type "list", data := .seq its.toArray n }) (hf : f its.toArray = its'.toArray) (hv : Vals ys its') (hz : ys.length ≤ sizeLine) :
    Inv X pins σ (upd H l (.lst ys)) { s with heap := s.heap.update l (Obj.mapSeq f), toks := t' } := by
  have q := PySem.IsL.update e f
  rw [hf] at q
  refine I.write (x := l) (e := l) (by rw [hH]; exact trivial) (.inl rfl) (fun b' u hb hu => (Heap.get?_update_other s.heap (Obj.mapSeq f) (Ne.symm hb)).trans hu) ⟨_, q⟩ ?_
  exact ⟨hz, its', _, hv, q⟩
theorem Inv.lnew {its : List Value} {t' : Nat} (I : Inv X pins σ H s) (hv : Vals ys its) (hz : ys.length ≤ sizeLine) :
    Inv X pins σ (upd H s.heap.objs.size (.lst ys)) { s with heap := s.heap.push { cls := .type "list", data := .seq its.toArray }, toks := t' } :=
  I.laid (fun _ _ q => Heap.get?_push_of_some _ q) (Nat.le_refl _) ⟨hz, its, 0, hv, Heap.get?_push_size _ rfl⟩
theorem Inv.fresh (I : Inv X pins σ H s) : H s.heap.objs.size = none := I.hok.fresh (Nat.le_refl _)
theorem Inv.lstM (I : Inv X pins σ H s) (hH : H l = some (.lst xs)) : xs.length ≤ sizeLine ∧ ∃ (its : List Value) (n : Nat), Vals xs its ∧ xs.length = its.length ∧ s.heap.get? l = some { cls := .type "list", data := .seq its.toArray n } := by
  obtain ⟨z, its, n, r, e⟩ := I.hok l _ hH
  exact ⟨z, its, n, r, r.length, e⟩
theorem notLongL {n : Nat} (h : n ≤ sizeLine) : Builtin.List.listTooLong n = false := by
  unfold Builtin.List.listTooLong
  exact decide_eq_false (by omega)
end
section
variable {X : Cx}
def rAppend : V → List V → Hp → VK → Prop := fun x vs H Q => ∃ l xs y, x = .ref l ∧ vs = [y] ∧ H l = some (.lst xs) ∧ xs.length < sizeLine ∧ Q .non (upd H l (.lst (xs ++ [y])))
theorem mt_append : MtM X "list.append" rAppend := by
  intro pins s σ H x vs v us Q I rx rv h
  obtain ⟨l, xs, y, rfl, rfl, hH, hz, q⟩ := h
  cases rx
  obtain ⟨u, rfl, ru⟩ := rv.one
  obtain ⟨z, its, n, r, hl, e⟩ := I.lstM hH
  refine call_meets F.slot_list_append ⟨_, e, rfl⟩ F.entry_list_append (F.args_list_append_2 _ _) (PySem.list_append l its.toArray n u (by rw [List.size_toArray]; omega)) ⟨e, ?_⟩
  refine ⟨.non, _, I.lset (its' := its ++ [u]) hH e (by simp) (r.append (.cons ru .nil)) ?_, rfl, q⟩
  rw [List.length_append, List.length_singleton]
  omega
def rExtend : V → List V → Hp → VK → Prop := fun x vs H Q => ∃ l b xs zs, x = .ref l ∧ vs = [.ref b] ∧ H l = some (.lst xs) ∧ H b = some (.lst zs) ∧ xs.length + zs.length ≤ sizeLine ∧ Q .non (upd H l (.lst (xs ++ zs)))
theorem mt_extend : MtM X "list.extend" rExtend := by
  intro pins s σ H x vs v us Q I rx rv h
  obtain ⟨l, b, xs, zs, rfl, rfl, hH, hB, hz, q⟩ := h
  cases rx
  obtain ⟨u, rfl, ru⟩ := rv.one
  cases ru
  obtain ⟨z, its, n, r, hl, e⟩ := I.lstM hH
  obtain ⟨z2, its2, n2, r2, hl2, e2⟩ := I.lstM hB
  have hsz : its.toArray.size + its2.toArray.size ≤ sizeLine := by rw [List.size_toArray, List.size_toArray]; omega
  have hlong : ¬ (!its.toArray.isEmpty && Builtin.List.listTooLong (its.toArray.size + its2.toArray.size)) = true := by
    rw [notLongL hsz, Bool.and_false]
    exact Bool.false_ne_true
  refine call_meets F.slot_list_extend ⟨_, e, rfl⟩ F.entry_list_extend (F.args_list_extend_2 _ _)
    (AutoSeq1.list_extend_list_list_0 l its.toArray n b its2.toArray n2 hlong (by rw [List.size_toArray]; omega) (by omega)) ⟨e, e2, ?_⟩
  refine ⟨.non, _, I.lset (its' := its ++ its2) hH e (by simp) (r.append r2) ?_, rfl, q⟩
  rw [List.length_append]
  omega
def rCat : R2 := fun x y H Q => ∃ l b xs zs, x = .ref l ∧ y = .ref b ∧ H l = some (.lst xs) ∧ H b = some (.lst zs) ∧ xs.length + zs.length ≤ sizeLine ∧ ∀ p, H p = none → Q (.ref p) (upd H p (.lst (xs ++ zs)))
theorem op_cat : OpR X (binaryOp .Add) rCat := by
  intro pins s σ H x y v u Q I rx ry h
  obtain ⟨l, b, xs, zs, rfl, rfl, hH, hB, hz, q⟩ := h
  cases rx
  cases ry
  obtain ⟨z, its, n, r, hl, e⟩ := I.lstM hH
  obtain ⟨z2, its2, n2, r2, hl2, e2⟩ := I.lstM hB
  refine PySem.P.add_list e e2 ?_ (by rw [List.size_toArray, List.size_toArray]; omega)
  have ea : its.toArray ++ its2.toArray = (its ++ its2).toArray := by simp
  rw [ea]
  exact ⟨.ref _, _, I.lnew (t' := s.toks) (r.append r2) (by rw [List.length_append]; omega), rfl, q _ I.fresh⟩
def rRep : R2 := fun x y H Q => ∃ l k xs, x = .ref l ∧ y = .int k ∧ H l = some (.lst xs) ∧ -(2 ^ 63) ≤ k ∧ k < 2 ^ 63 ∧ xs.length * k.toNat ≤ sizeLine ∧
  ∀ p, H p = none → Q (.ref p) (upd H p (.lst (List.replicate k.toNat xs).flatten))
theorem len_rep {α : Type} (xs : List α) (k : Nat) : (List.replicate k xs).flatten.length = k * xs.length := by
  induction k with
  | zero => simp
  | succ k ih => rw [List.replicate_succ, List.flatten_cons, List.length_append, ih, Nat.succ_mul, Nat.add_comm]
theorem op_rep : OpR X (binaryOp .Mult) rRep := by
  intro pins s σ H x y v u Q I rx ry h
  obtain ⟨l, k, xs, rfl, rfl, hH, h1, h2, hz, q⟩ := h
  cases rx
  obtain ⟨t, rfl⟩ := ry
  obtain ⟨z, its, n, r, hl, e⟩ := I.lstM hH
  have hlen : its.toArray.size * k.toNat ≤ sizeLine := by rw [List.size_toArray, ← hl]; exact hz
  have hcap : ¬ its.toArray.size * k.toNat > (2 ^ 63 - 1) / 8 := by
    have : (sizeLine : Nat) ≤ (2 ^ 63 - 1) / 8 := by decide
    omega
  have hfit : ¬ (!Builtin.List.listFitsIndex k) = true := by
    rw [fitsIndex_both h1 h2]
    exact Bool.false_ne_true
  have hlong : ¬ Builtin.List.listTooLong (its.toArray.size * k.toNat) = true := by
    rw [notLongL hlen]
    exact Bool.false_ne_true
  have hnew : List.foldl (fun x1 x2 => x1 ++ x2) #[] (List.replicate (if its.toArray.isEmpty = true then 0 else k.toNat) its.toArray) = (List.replicate k.toNat its).flatten.toArray := by
    have f0 : ∀ m : Nat, List.foldl (fun x1 x2 => x1 ++ x2) #[] (List.replicate m its.toArray) = (List.replicate m its).flatten.toArray := fun m => by
      have := foldl_rep its m []
      rw [List.nil_append] at this
      exact this
    rw [f0]
    cases its with
    | nil => simp
    | cons a r' => rw [if_neg (by simp)]
  refine wpAny_binaryOp_repeat_ref (T := "list") (U := "int") (by decide) ⟨_, e, rfl⟩ (fun s' => typeIs_int s' k t) noFill_list_mul F.fills_int_mul F.slot_int_rmul repeat_list F.slot_int_index.lookup
    (call_meets F.slot_int_rmul (typeIs_int s k t) F.entry_int_rmul (F.args_int_rmul_2 _ _) (int___rmul___int_list k t l its.toArray n)
      ⟨e, rfl, ⟨_, e, rfl⟩, call_meets F.slot_list_mul ⟨_, e, rfl⟩ F.entry_list_mul (F.args_list_mul_2 _ _) (AutoListH.list___mul___list_int_3 l its.toArray n k t hfit hcap hlong) ⟨e, ?_⟩⟩)
  rw [hnew]
  exact ⟨.ref _, _, I.lnew (t' := s.toks) (r.rep k.toNat) (by rw [len_rep, Nat.mul_comm]; exact hz), rfl, q _ I.fresh⟩
end
section
variable {prog : Program} {w : World} {A : Around} {E : Value → Shared → Prop} {s : Shared}
end
section
variable {X : Cx}
end
end L2
namespace Att
open PySem PySem.W PySem.Calls PyProof.Rows
theorem ints_of_wellAll {P : Params} {h : Heap} : ∀ (ns : List Int) (vs : List Value), WellAll P h vs (ns.map WData.int) → IntsAre vs ns := by
  intro ns
  induction ns with
  | nil =>
    intro vs w
    rw [List.map_nil] at w
    cases w
    exact .nil
  | cons n ns ih =>
    intro vs w
    rw [List.map_cons] at w
    cases w with
    | cons a b =>
      cases a
      exact .cons _ _ (ih _ b)
theorem script_of {l : OpenLaw} {n : Nat} (hn : l.most = some n) {P : Params} {h : Heap} {args : List WData} {vals : List Value}
    (hpre : l.row.toRowW.claim.pre args = true) (hwl : WellAll P h vals args) :
    ∃ a vs ns, vals = [Value.ref a] ∧ args = [WData.list (ns.map WData.int)] ∧ h.get? a = some { cls := .type "list", data := .seq vs.toArray } ∧ IntsAre vs ns ∧ ns.length ≤ n := by
  have hsh : WShape.hasAll [] args [.list .int] = true := (pre_splitW hpre).1
  have hc : l.pre.holds [] { args := args } = true := (pre_splitW hpre).2
  obtain ⟨d, r, rfl, h1, h2⟩ := hasAllW_cons hsh
  obtain rfl := hasAllW_nil h2
  obtain ⟨xs, rfl, h3⟩ := hasW_list h1
  obtain ⟨ns, rfl⟩ := items_int h3
  have hlen : ns.length ≤ n := by
    unfold OpenLaw.pre at hc
    have h4 : (WTm.not (.lt (.lit (.int (n : Int))) (.len (.arg 0)))).holds [] { args := [.list (ns.map .int)] } = true := by
      have h4 := (holds_andW hc).1
      rw [hn] at h4
      exact h4
    have h5 := condW_of h4 (w_not (w_lt w_lit (w_len_list (w_arg rfl))))
    rw [List.length_map] at h5
    refine Nat.le_of_not_lt fun q => ?_
    have q' : (n : Int) < ((ns.length : Nat) : Int) := by omega
    first
      | (rw [decide_eq_true q'] at h5; exact absurd h5 (by decide))
      | (simp at h5; omega)
  cases hwl with
  | cons w1 w2 =>
    cases w2
    cases w1 with
    | list ho hall => exact ⟨_, _, ns, rfl, rfl, ho, ints_of_wellAll ns _ hall, hlen⟩
theorem post_true (l : OpenLaw) (args : List WData) : l.row.toRowW.claim.post args (.bool true) args = true :=
  postW_of (r := l.row.toRowW) (X := (true == true))
    (show WShape.has [] (.bool true) .bool = true by first | rfl | decide | simp [WShape.has, WShape.arms, WShape.armsAll])
    (show (WTm.eq .res (.lit (.bool true))).value [] { args := args, res := some (.bool true), after := args } = some (.bool (true == true)) from w_eq_bool (w_res rfl) w_lit) rfl
theorem attach_call {l : OpenLaw} {n : Nat} {q : Program} {loose : List Str} {XP : (Str → Option Value) → Heap → Prop} {YP : World → Heap → Prop} {d : DefRec}
    (hn : l.most = some n) (hdf : d.params.defaults = [])
    (call : ∀ (w : World) (s₀ s₁ : Shared) (mg mb : Str → Option Value) (fa : Addr) (o : Obj) (pm cd doc : Value) (a : Addr) (vs : List Value) (ns : List Int),
      Ground q loose [] XP w s₀ mg mb s₁.heap → YP w s₁.heap →
      s₁.heap.get? fa = some o → o.data = .func (docDef d.name d.params d.body d.scope pm cd doc) → s₁.heap.CodeRec cd d.name → mg d.name = some (.ref fa) →
      s₁.heap.get? a = some { cls := .type "list", data := .seq vs.toArray } → IntsAre vs ns → ns.length ≤ n → s₁.gens = #[] →
      codeAny (model l.prog w) callerA (.call (.ref fa) ⟨[.ref a], []⟩) (fun r s' => r = .ok (.ret (.bool true)) ∧ OldK s₁.heap s'.heap ∧ s'.os = s₁.os ∧ AllBare s'.gens) s₁) :
    WalkO q loose XP YP l.row.toRowW d [] (fun f vs => PySem.call f vs) := by
  intro w s₀ s₁ mg mb G Y fa o pm cd doc dV kV ho hd hcd hD hmg hg args vals as hpre hlay hrd hwl hlo
  obtain rfl : dV = .none := Dflts.none hD hdf
  obtain rfl : kV = .none := Dflts.noKw hD
  obtain ⟨a, vs, ns, rfl, rfl, hobj, hints, hlen⟩ := script_of hn hpre hwl
  refine enter_call (codeAny_mono (call w s₀ s₁ mg mb fa o pm cd doc a vs ns G Y ho (fd_plain hd) hcd hmg hobj hints hlen hg) fun r s' hq => ?_)
  obtain ⟨rfl, h2, h3, h4⟩ := hq
  exact ⟨.inl ⟨.bool true, .bool true, [], rfl, fun _ => rfl, .bool true, post_true l _, fun _ => ⟨List.Pairwise.nil, fun _ hm => (nomatch hm)⟩⟩, h2, h3, h4⟩
section
variable {prog : Program} {w : World} {A : Around} {E : Value → Shared → Prop} {s : Shared} {K : Frag}
end
end Att
namespace L2
open PySem PySem.Spec PyProof.Rows
theorem vals_ints : ∀ {vs : List Value} {ns : List Int}, IntsAre vs ns → Vals (ns.map V.int) vs
  | _, _, .nil => .nil
  | _, _, .cons n t h => .cons ⟨t, rfl⟩ (vals_ints h)
def Only (H : Hp) : Prop := ∀ b, H b = none ∨ ∃ o xs, H b = some (.frz o (.lst xs))
theorem law_call {P : Program} {w : World} {K : PySem.W.Frag} {mg mb : Str → Option Value} {CX : CXT} {k : Nat} {fa a : Addr} {fd : FuncData} {x : Str} {sp : Sp} {s₁ : Shared} {vs : List Value} {ns : List Int}
    (KX : K.In s₁.heap) (hns : s₁.heap.Ns mainGlobals mg) (hb : s₁.heap.Ns builtinsNs mb) (hbb : ∀ x : Str, x ≠ "__name__" → mb x = bootBuiltins x) (hlim : s₁.heap.NoLimit) (hg : s₁.gens = #[])
    (ha : s₁.heap.get? a = some { cls := .type "list", data := .seq vs.toArray }) (hi : IntsAre vs ns) (hl : ns.length ≤ sizeLine) (hr : Room k callerA)
    (F : ∀ base : Heap, K.In base → base.Ns mainGlobals mg → FnOk P w K mg base CX k fa fd [x] sp) (hbind : ∀ (s : Shared) (u : Value), BindsTo s fd ⟨[u], []⟩ [(x, u)])
    (hsp : ∀ H : Hp, Only H → SqL K H a (ns.map V.int) → sp [.ref a] H (fun v _ => v = .bl true) fun _ _ _ => False)
    (hCX : ∀ H e s', CX [] H s₁ (fun _ _ _ => False) e s' → False) :
    codeAny (model P w) callerA (.call (.ref fa) ⟨[.ref a], []⟩) (fun r s' => r = .ok (.ret (.bool true)) ∧ OldK s₁.heap s'.heap ∧ s'.os = s₁.os ∧ AllBare s'.gens) s₁ := by
  have rv := vals_ints hi
  have lenV := hi.length
  have core : ∀ H : Hp, Only H → SqL K H a (ns.map V.int) → HOk P w H s₁.heap → (∀ b, H b ≠ none → b = a) → (H a ≠ none → K.lookup a = none) →
      codeAny (model P w) callerA (.call (.ref fa) ⟨[.ref a], []⟩) (fun r s' => r = .ok (.ret (.bool true)) ∧ OldK s₁.heap s'.heap ∧ s'.os = s₁.os ∧ AllBare s'.gens) s₁ := by
    intro H hO hS hok hA hK
    have base_of : ∀ {b : Addr} {o : Obj}, s₁.heap.get? b = some o → H b = none → (hidT s₁.heap H).get? b = some o := fun e n => hidT_get e n
    have noA : ∀ {b : Addr} {o : Obj} {es : Array DictEntry} {ep : Nat}, s₁.heap.get? b = some o → o.data = .dict es ep → H b = none := fun {b o es ep} e d => by
      cases q : H b with
      | none => rfl
      | some u =>
        have e' : b = a := hA b (by rw [q]; simp)
        subst e'
        rw [ha] at e; cases e
        have d' : Data.seq vs.toArray _ = Data.dict es ep := d
        cases d'
    have nsK : ∀ {b : Addr} {m : Str → Option Value}, s₁.heap.Ns b m → (hidT s₁.heap H).Ns b m := fun {b m} ⟨o, es, ep, e, d, r⟩ => ⟨o, es, ep, base_of e (noA e d), d, r⟩
    have hKb : K.In (hidT s₁.heap H) := fun b o e => base_of (KX b o e) (by
      cases q : H b with
      | none => rfl
      | some u =>
        have e' : b = a := hA b (by rw [q]; simp)
        subst e'
        rw [hK (by rw [q]; simp)] at e; cases e)
    have hM : Mod K mg (hidT s₁.heap H) := ⟨hKb, nsK hns, ⟨mb, nsK hb, hbb⟩, let ⟨mc, h1, h2⟩ := hlim; ⟨mc, nsK h1, h2⟩⟩
    have e0 : Env0 P w K mg (hidT s₁.heap H) callerA [] s₁ H := ⟨rfl, hM, fun b o e => of_hidT e, Nat.le_of_eq (hidT_size _ _), trivial, fun b hb => absurd (show b ∈ ([] : List Addr) from hb) (by simp), hok, .of_eq hg⟩
    refine codeAny_mono ((F _ hKb (nsK hns)).run callerA [] s₁ H ⟨[.ref a], []⟩ [.ref a] [.ref a] _ _ hr e0 (hbind s₁ (.ref a)) (.cons rfl .nil) (hsp H hO hS)) fun r s' h => ?_
    cases r with
    | error e => exact (hCX H e s' h).elim
    | ok fl =>
      cases fl with
      | next => exact False.elim h
      | brk => exact False.elim h
      | cont => exact False.elim h
      | ret u =>
        obtain ⟨v, H', os, bare, un, hok', r', q⟩ := h
        have q' : v = .bl true := q
        subst q'
        obtain rfl : u = Value.bool true := r'
        refine ⟨rfl, OldK.of_keep fun b o e => ?_, os, bare⟩
        cases q : H b with
        | none => exact un.keep b o e q (by intro z; exact absurd (show b ∈ ([] : List Addr) from z) (by simp)) (by simp)
        | some u =>
          rcases hO b with z | ⟨ob, xs, z⟩
          · rw [q] at z; cases z
          · have z2 := un.frzs b ob _ z
            obtain ⟨e1, _⟩ := hok b _ z
            obtain ⟨e2, _⟩ := hok' b _ z2
            rw [e] at e1; cases e1
            exact e2
  cases hk : K.lookup a with
  | some o =>
    have e := KX a o hk
    rw [ha] at e
    cases e
    refine core (fun _ => none) (fun _ => .inl rfl) (.inr ⟨_, vs.toArray, _, hk, rfl, rfl, rfl, by rw [List.size_toArray, lenV]; exact hl, by simpa using rv⟩) (fun b u z => by have z' : (none : Option HO) = some u := z; cases z') (fun b z => absurd rfl z) fun z => absurd rfl z
  | none =>
    refine core (fun b => if b = a then some (.frz { cls := .type "list", data := .seq vs.toArray } (.lst (ns.map V.int))) else none) (fun b => ?_) (.inl (.inr ⟨{ cls := .type "list", data := .seq vs.toArray }, if_pos rfl⟩)) (fun b u z => ?_) (fun b z => ?_) fun _ => hk
    · by_cases hb : b = a
      · exact .inr ⟨_, _, if_pos hb⟩
      · exact .inl (if_neg hb)
    · by_cases hb : b = a
      · have z' := (if_pos hb).symm.trans z
        cases z'
        subst hb
        exact ⟨ha, by rw [List.length_map]; exact hl, vs, _, rv, ha⟩
      · have z' := (if_neg hb).symm.trans z
        cases z'
    · by_cases hb : b = a
      · exact hb
      · exact absurd (if_neg hb) z
end L2
namespace L2
open PySem PySem.Spec PyProof.Rows
theorem walk_of {l : PySem.W.OpenLaw} {n k : Nat} {q : Program} {loose : List Str} {XP : (Str → Option Value) → Heap → Prop} {YP : World → Heap → Prop} {d : DefRec} {K : Params → PySem.W.Frag} {CX : World → CXT} {sp : World → Sp} {x : Str}
    (hn : l.most = some n) (hn2 : n ≤ sizeLine) (hdf : d.params.defaults = []) (hr : Room k callerA)
    (hY : ∀ (w : World) (h : Heap), YP w h → (K w.params).In h)
    (F : ∀ (w : World) (mg : Str → Option Value) (fa : Addr) (h : Heap), (K w.params).In h → h.Ns mainGlobals mg → mg d.name = some (.ref fa) →
      ∃ fd : FuncData, (∀ (s : Shared) (u : Value), BindsTo s fd ⟨[u], []⟩ [(x, u)]) ∧
        ∀ base : Heap, (K w.params).In base → base.Ns mainGlobals mg → FnOk l.prog w (K w.params) mg base (CX w) k fa fd [x] (sp w))
    (hsp : ∀ (w : World) (H : Hp) (a : Addr) (ns : List Int), ns.length ≤ n → Only H → SqL (K w.params) H a (ns.map V.int) → sp w [.ref a] H (fun v _ => v = .bl true) fun _ _ _ => False)
    (hCX : ∀ (w : World) (H : Hp) (s : Shared) (e : Value) (s' : Shared), CX w [] H s (fun _ _ _ => False) e s' → False) :
    PySem.W.WalkO q loose XP YP l.row.toRowW d [] (fun f vs => PySem.call f vs) := by
  refine Att.attach_call hn hdf fun w s₀ s₁ mg mb fa o pm cd doc a vs ns G Y ho hd hcd hmg hobj hints hlen hg => ?_
  have KX := hY w _ Y
  obtain ⟨fd, hb, hF⟩ := F w mg fa _ KX G.T.g hmg
  exact law_call KX G.T.g G.T.b G.T.builtins G.T.nolimit hg hobj hints (Nat.le_trans hlen hn2) hr hF hb (fun H hO hS => hsp w H a ns hlen hO hS) fun H e s' => hCX w H s₁ e s'
end L2
namespace L2
open PySem PySem.Spec PyProof.Rows
def inClass (s : Stmt) (j : Nat) : Stmt := match s with
  | .ClassDef _ _ _ body _ _ _ _ _ _ _ => body.getD j (.Pass ⟨0, 0, 0, 0⟩)
  | _ => .Pass ⟨0, 0, 0, 0⟩
def defArgs (s : Stmt) : Arguments := match s with
  | .FunctionDef _ a _ _ _ _ _ _ _ _ => a
  | _ => { posonlyargs := [], args := [], vararg := none, kwonlyargs := [], kw_defaults := [], kwarg := none, defaults := [] }
def defBody (s : Stmt) : List Stmt := match s with
  | .FunctionDef _ _ b _ _ _ _ _ _ _ => b
  | _ => []
def defScope (s : Stmt) : Scope := match s with
  | .FunctionDef _ _ _ _ _ _ sc _ _ _ => sc
  | _ => { kind := .function, names := [], isGenerator := false, isCoroutine := false }
abbrev E0 : XK := fun _ _ _ => False
structure Fun (K : PySem.W.Frag) (x qual : Str) (st : Stmt) (f : Addr) (fd : FuncData) : Prop where
  ex : ∃ (oc : Value) (od : Option Addr) (kV doc pm : Value) (an : Option Addr) (cdv ct : Value) (osl : Array (Option Value)),
    fd = PySem.W.fnOf x qual (defArgs st) (defBody st) (defScope st) .none kV doc pm an cdv ct ∧ K.lookup f = some ⟨oc, od, .func fd, osl⟩ ∧ PySem.W.codeIn K cdv qual = true
  kp : PySem.W.keepIn K (.ref f) = true
section
variable {P : Program} {w : World} {K : PySem.W.Frag} {mg : Str → Option Value} {base : Heap}
theorem Fun.binds {x qual : Str} {st : Stmt} {f : Addr} {fd : FuncData} {ps : List Str} (F : Fun K x qual st f fd)
    (h : ∀ (kV doc pm : Value) (an : Option Addr) (cdv ct : Value) (us : List Value), us.length = ps.length → bindArgs (PySem.W.fnOf x qual (defArgs st) (defBody st) (defScope st) .none kV doc pm an cdv ct) ⟨us, []⟩ = pure (ps.zip us)) : Binds K fd ps [] := by
  obtain ⟨oc, od, kV, doc, pm, an, cdv, ct, osl, rfl, lk, hcd⟩ := F.ex
  exact .all (h kV doc pm an cdv ct)
theorem fun_mk {x qual : Str} {st : Stmt} {f : Addr} {oc : Value} {od an : Option Addr} {osl : Array (Option Value)} {kV doc pm cdv ct : Value} (l : K.lookup f = some ⟨oc, od, .func (PySem.W.fnOf x qual (defArgs st) (defBody st) (defScope st) .none kV doc pm an cdv ct), osl⟩)
    (c : PySem.W.codeIn K cdv qual = true) (k : PySem.W.keepIn K (.ref f) = true) : Fun K x qual st f (PySem.W.fnOf x qual (defArgs st) (defBody st) (defScope st) .none kV doc pm an cdv ct) := ⟨⟨oc, od, kV, doc, pm, an, cdv, ct, osl, rfl, l, c⟩, k⟩
end
theorem small1000 {n : Nat} (h : n ≤ 1000) : n < sizeLine := Nat.lt_of_le_of_lt h (by decide)
section
variable {X : Cx}
theorem pv (i : Nat) {x : Str} {pos : Pos} (hN : X.N[i]? = some x := by rfl) (hv : Vis X.env.scope x := by first | exact Or.inl rfl | exact Or.inr (Or.inl rfl) | exact Or.inr (Or.inr rfl)) (hd : (x == ("__debug__" : Str)) = false := by decide)
    (hcd : (x == ("__classdict__" : Str)) = false := by decide) : PE X (.Name x pos) (tVar i) := pe_var hN hv hd hcd
end
theorem iteF {A B : Prop} (h : B) : if false = true then A else B := by
  rw [if_neg Bool.false_ne_true]
  exact h
theorem iteT {A B : Prop} (h : A) : if true = true then A else B := by
  rw [if_pos rfl]
  exact h
theorem ite2 {c A B : Prop} [Decidable c] (h1 : c → A) (h2 : ¬ c → B) : if c then A else B := by
  by_cases h : c
  · rw [if_pos h]
    exact h1 h
  · rw [if_neg h]
    exact h2 h
def Same (H H' : Hp) : Prop := ∀ b o, H b = some o → H' b = some o
theorem Same.refl (H : Hp) : Same H H := fun _ _ h => h
theorem Same.trans {H H1 H2 : Hp} (a : Same H H1) (b : Same H1 H2) : Same H H2 := fun c o h => b c o (a c o h)
theorem Same.seq {K : PySem.W.Frag} {H H' : Hp} {a : Addr} {xs : List V} (e : Same H H') (h : SqL K H a xs) : SqL K H' a xs := by
  rcases h with (h | ⟨o, h⟩) | h
  · exact .inl (.inl (e _ _ h))
  · exact .inl (.inr ⟨o, e _ _ h⟩)
  · exact .inr h
end L2
namespace L2
open PySem PySem.Spec PyProof.Rows
section
variable {κ : Type} [DecidableEq κ]
def valV (kvs : List (κ × V)) (k : κ) : Option V := (kvs.find? fun kv => decide (kv.1 = k)).map (·.2)
def putK (kvs : List (κ × V)) (k : κ) (v : V) : List (κ × V) :=
  if (kvs.any fun kv => decide (kv.1 = k)) = true then kvs.map (fun kv => if kv.1 = k then (kv.1, v) else kv) else kvs ++ [(k, v)]
theorem valV_pos {p : κ × V} {r : List (κ × V)} {k : κ} (e : p.1 = k) : valV (p :: r) k = some p.2 := by simp [valV, List.find?_cons, e]
theorem valV_neg {p : κ × V} {r : List (κ × V)} {k : κ} (e : ¬ p.1 = k) : valV (p :: r) k = valV r k := by simp [valV, List.find?_cons, e]
theorem valV_any (k : κ) : ∀ kvs : List (κ × V), (kvs.any fun kv => decide (kv.1 = k)) = (valV kvs k).isSome
  | [] => rfl
  | p :: r => by
    rw [List.any_cons]
    by_cases e : p.1 = k
    · simp only [valV_pos e, decide_eq_true e, Bool.true_or, Option.isSome_some]
    · rw [valV_neg e, decide_eq_false e, Bool.false_or]; exact valV_any k r
theorem valV_map (k j : κ) (y : V) : ∀ kvs : List (κ × V), valV (kvs.map fun kv => if kv.1 = k then (kv.1, y) else kv) j = (valV kvs j).map fun x => if j = k then y else x
  | [] => rfl
  | p :: r => by
    have ih := valV_map k j y r
    rw [List.map_cons]
    by_cases h : p.1 = k
    · rw [if_pos h]
      by_cases e : p.1 = j
      · rw [valV_pos (p := (p.1, y)) e, valV_pos e, Option.map_some, if_pos (e.symm.trans h)]
      · rw [valV_neg (p := (p.1, y)) e, valV_neg e, ih]
    · rw [if_neg h]
      by_cases e : p.1 = j
      · rw [valV_pos (p := p) e, valV_pos e, Option.map_some, if_neg (fun z => h (e.trans z))]
      · rw [valV_neg (p := p) e, valV_neg e, ih]
theorem valV_snoc (k j : κ) (y : V) : ∀ kvs : List (κ × V), valV kvs k = none → valV (kvs ++ [(k, y)]) j = if j = k then some y else valV kvs j
  | [], _ => by
    by_cases e : k = j
    · rw [if_pos e.symm]; exact valV_pos (p := (k, y)) e
    · rw [if_neg (fun z => e z.symm)]; exact valV_neg (p := (k, y)) e
  | p :: r, hn => by
    rw [List.cons_append]
    have hk : ¬ p.1 = k := fun z => by rw [valV_pos z] at hn; cases hn
    rw [valV_neg hk] at hn
    have ih := valV_snoc k j y r hn
    by_cases e : p.1 = j
    · rw [valV_pos e, valV_pos e, if_neg (fun z => hk (e.trans z))]
    · rw [valV_neg e, valV_neg e, ih]
theorem valV_put (kvs : List (κ × V)) (k j : κ) (y : V) : valV (putK kvs k y) j = if j = k then some y else valV kvs j := by
  unfold putK
  by_cases a : (kvs.any fun kv => decide (kv.1 = k)) = true
  · rw [if_pos a, valV_map]
    rw [valV_any] at a
    by_cases e : j = k
    · obtain ⟨x, hx⟩ := Option.isSome_iff_exists.mp a
      rw [if_pos e, e, hx, Option.map_some, if_pos rfl]
    · rw [if_neg e]
      cases valV kvs j with
      | none => rfl
      | some x => rw [Option.map_some, if_neg e]
  · rw [if_neg a]
    refine valV_snoc k j y kvs ?_
    rw [valV_any] at a
    cases q : valV kvs k with
    | none => rfl
    | some x => rw [q] at a; exact (a rfl).elim
theorem length_putK (kvs : List (κ × V)) (k : κ) (v : V) : (putK kvs k v).length ≤ kvs.length + 1 := by
  unfold putK
  split
  · rw [List.length_map]; omega
  · rw [List.length_append, List.length_cons, List.length_nil]; omega
theorem putK_new {kvs : List (κ × V)} {k : κ} (v : V) (h : valV kvs k = none) : putK kvs k v = kvs ++ [(k, v)] := by
  unfold putK
  rw [valV_any, h]
  exact if_neg (by decide)
theorem RelO.isSome_eq {o : Option V} {u : Option Value} (r : RelO o u) : o.isSome = u.isSome := by
  cases o with
  | none => cases u with
    | none => rfl
    | some _ => exact (show False from r).elim
  | some _ => cases u with
    | none => exact (show False from r).elim
    | some _ => rfl
theorem KV.val {kvs : List (κ × V)} {vs : List (κ × Value)} (r : KV kvs vs) (k : κ) : RelO (valV kvs k) (valueAt vs k) := by
  unfold KV at r
  induction r with
  | nil => exact True.intro
  | @cons p q ps qs h t ih =>
    obtain ⟨h1, h2⟩ := h
    by_cases e : p.1 = k
    · have e' : q.1 = k := h1.symm.trans e
      have b : valueAt (q :: qs) k = some q.2 := by simp [valueAt, List.find?_cons, e']
      rw [valV_pos e, b]; exact h2
    · have e' : ¬ q.1 = k := fun z => e (h1.trans z)
      have b : valueAt (q :: qs) k = valueAt qs k := by simp [valueAt, List.find?_cons, e']
      rw [valV_neg e, b]; exact ih
theorem KV.any {kvs : List (κ × V)} {vs : List (κ × Value)} (r : KV kvs vs) (k : κ) : (kvs.any fun kv => decide (kv.1 = k)) = vs.any fun kv => decide (kv.1 = k) := by
  unfold KV at r
  induction r with
  | nil => rfl
  | cons h t ih => rw [List.any_cons, List.any_cons, ih, h.1]
theorem KV.repl {kvs : List (κ × V)} {vs : List (κ × Value)} (r : KV kvs vs) (k : κ) {y : V} {u : Value} (ry : RelV y u) :
    KV (kvs.map fun kv => if kv.1 = k then (kv.1, y) else kv) (vs.map fun kv => if kv.1 = k then (kv.1, u) else kv) := by
  unfold KV at r ⊢
  induction r with
  | nil => exact .nil
  | @cons p q ps qs h t ih =>
    rw [List.map_cons, List.map_cons]
    refine .cons ?_ ih
    obtain ⟨h1, h2⟩ := h
    by_cases e : p.1 = k
    · rw [if_pos e, if_pos (h1.symm.trans e)]; exact ⟨h1, ry⟩
    · rw [if_neg e, if_neg (fun z => e (h1.trans z))]; exact ⟨h1, h2⟩
theorem KV.put {kvs : List (κ × V)} {vs : List (κ × Value)} (r : KV kvs vs) (k : κ) {y : V} {u : Value} (ry : RelV y u) : KV (putK kvs k y) (stored vs k u) := by
  unfold putK stored
  rw [r.any k]
  by_cases e : (vs.any fun kv => decide (kv.1 = k)) = true
  · rw [if_pos e, if_pos e]; exact r.repl k ry
  · rw [if_neg e, if_neg e]; exact Paired.snoc r ⟨rfl, ry⟩
theorem KV.length {kvs : List (κ × V)} {vs : List (κ × Value)} (r : KV kvs vs) : kvs.length = vs.length := Paired.length r
end
theorem kV_is {P : Program} {w : World} {k : Key} {u : Value} (r : RelV (kV k) u) : (mixKind P w).is k u = true := by
  cases k with
  | inl i => obtain ⟨t, e⟩ := (show ∃ t, u = Value.int i t from r); subst e; exact mixKind_int P w i t
  | inr x => obtain ⟨t, e⟩ := (show ∃ t, u = Value.str x t from r); subst e; exact mixKind_str P w x t
theorem kV_inj {a b : Key} (e : kV a = kV b) : a = b := by
  cases a with
  | inl i => cases b with
    | inl j => have e' : V.int i = V.int j := e; injection e' with e'; rw [e']
    | inr y => exact nomatch (show V.int i = V.str y from e)
  | inr x => cases b with
    | inl j => exact nomatch (show V.str x = V.int j from e)
    | inr y => have e' : V.str x = V.str y := e; injection e' with e'; rw [e']
theorem items_are {P : Program} {w : World} : ∀ {ks : List Key} {us : List Value}, Vals (ks.map kV) us → ItemsAre (mixKind P w) ks us
  | [], _, r => by rw [List.map_nil] at r; cases r; exact .nil
  | k :: ks, _, r => by
    rw [List.map_cons] at r
    cases r with
    | cons h t => exact .cons (kV_is h) (items_are t)
abbrev KT (H : Hp) : List (List Key × V) → List (List Key × Addr × Value) → Prop := Paired fun p q => p.1 = q.1 ∧ H q.2.1 = some (.tup (p.1.map kV)) ∧ RelV p.2 q.2.2
theorem KT.val {H : Hp} {kvs : List (List Key × V)} {xs : List (List Key × Addr × Value)} (r : KT H kvs xs) (k : List Key) : RelO (valV kvs k) ((atKey xs k).map (·.2)) := by
  induction r with
  | nil => exact True.intro
  | @cons p q ps qs h t ih =>
    obtain ⟨h1, _, h2⟩ := h
    by_cases e : p.1 = k
    · have e' : q.1 = k := h1.symm.trans e
      have b : atKey (q :: qs) k = some q.2 := by simp [atKey, List.find?_cons, e']
      rw [valV_pos e, b]; exact h2
    · have e' : ¬ q.1 = k := fun z => e (h1.trans z)
      have b : atKey (q :: qs) k = atKey qs k := by simp [atKey, List.find?_cons, e']
      rw [valV_neg e, b]; exact ih
theorem KT.repl {H : Hp} {kvs : List (List Key × V)} {xs : List (List Key × Addr × Value)} (r : KT H kvs xs) (k : List Key) {y : V} {u : Value} (ry : RelV y u) :
    KT H (kvs.map fun kv => if kv.1 = k then (kv.1, y) else kv) (xs.map (putAt k u)) := by
  induction r with
  | nil => exact .nil
  | @cons p q ps qs h t ih =>
    rw [List.map_cons, List.map_cons]
    refine .cons ?_ ih
    obtain ⟨h1, h2, h3⟩ := h
    unfold putAt
    by_cases e : p.1 = k
    · rw [if_pos e, if_pos (h1.symm.trans e)]; exact ⟨h1, h2, ry⟩
    · rw [if_neg e, if_neg (fun z => e (h1.trans z))]; exact ⟨h1, h2, h3⟩
theorem KT.put {H : Hp} {kvs : List (List Key × V)} {xs : List (List Key × Addr × Value)} (r : KT H kvs xs) (k : List Key) {b : Addr} {y : V} {u : Value} (hb : H b = some (.tup (k.map kV))) (ry : RelV y u) :
    KT H (putK kvs k y) (storedH xs k b u) := by
  have e : (kvs.any fun kv => decide (kv.1 = k)) = (atKey xs k).isSome := by
    rw [valV_any, (r.val k).isSome_eq, Option.isSome_map]
  unfold putK storedH
  rw [e]
  by_cases q : (atKey xs k).isSome = true
  · rw [if_pos q, if_pos q]; exact r.repl k ry
  · rw [if_neg q, if_neg q]; exact Paired.snoc r ⟨rfl, hb, ry⟩
theorem KT.keeps {H H' : Hp} {kvs : List (List Key × V)} {xs : List (List Key × Addr × Value)} (r : KT H kvs xs) (ht : ∀ b ys, H b = some (.tup ys) → H' b = some (.tup ys)) : KT H' kvs xs :=
  Paired.mapP r fun _ _ z => ⟨z.1, ht _ _ z.2.1, z.2.2⟩
section
variable {P : Program} {w : World} {H : Hp} {h : Heap} {a : Addr}
theorem rd_of {u : HO} (ok : HOk P w H h) (e : Rd H a u) : ObjOk P w H h a u := e.ok ok
theorem dk_rd {kvs : List (Key × V)} (ok : HOk P w H h) (e : Rd H a (.dK kvs)) : kvs.length ≤ sizeLine ∧ (a == sysModules) = false ∧ ∃ vs, KV kvs vs ∧ h.DictOf (mixKind P w) a vs :=
  show ObjOk P w H h a (.dK kvs) from rd_of ok e
theorem dk_of {kvs : List (Key × V)} (ok : HOk P w H h) (e : H a = some (.dK kvs)) : kvs.length ≤ sizeLine ∧ (a == sysModules) = false ∧ ∃ vs, KV kvs vs ∧ h.DictOf (mixKind P w) a vs := dk_rd ok (.inl e)
theorem key_of {ks : List Key} (ok : HOk P w H h) (e : H a = some (.tup (ks.map kV))) : (tupleKind (mixKind P w)).is h ks a := by
  obtain ⟨_, its, r, o, h1, h2, n, h3⟩ := (show ObjOk P w H h a (.tup (ks.map kV)) from ok a _ e)
  exact ⟨o, its.toArray, n, h1, h2, h3, by simpa using items_are r⟩
theorem dt_rd {kvs : List (List Key × V)} (ok : HOk P w H h) (e : Rd H a (.dT kvs)) : kvs.length ≤ sizeLine ∧ (a == sysModules) = false ∧
    ∃ xs, KT H kvs xs ∧ h.DictOfH (tupleKind (mixKind P w)) a xs := by
  obtain ⟨z, y, xs, r, o, es, ep, h1, h2, h3, h4, h5⟩ := (show ObjOk P w H h a (.dT kvs) from rd_of ok e)
  refine ⟨z, y, xs, r, o, es, ep, h1, h2, h3, h4, fun x hx => ?_, h5⟩
  have all : ∀ {l : List (List Key × V)} {m : List (List Key × Addr × Value)}, KT H l m → ∀ x ∈ m, (tupleKind (mixKind P w)).is h x.1 x.2.1 := by
    intro l m q
    induction q with
    | nil => intro x hx; exact nomatch hx
    | @cons p q ps qs hq t ih =>
      intro x hx
      rcases List.mem_cons.mp hx with e | hx
      · subst e
        exact key_of ok (by rw [← hq.1]; exact hq.2.1)
      · exact ih x hx
  exact all r x hx
theorem dt_of {kvs : List (List Key × V)} (ok : HOk P w H h) (e : H a = some (.dT kvs)) : kvs.length ≤ sizeLine ∧ (a == sysModules) = false ∧
    ∃ xs, KT H kvs xs ∧ h.DictOfH (tupleKind (mixKind P w)) a xs := dt_rd ok (.inl e)
end
def DGet (H : Hp) (a : Addr) (y : V) (r : Option V) : Prop :=
  (∃ kvs k, Rd H a (.dK kvs) ∧ y = kV k ∧ r = valV kvs k) ∨ ∃ kvs k b, Rd H a (.dT kvs) ∧ y = .ref b ∧ H b = some (.tup (k.map kV)) ∧ r = valV kvs k
def DPut (H : Hp) (a : Addr) (y v : V) (H' : Hp) : Prop :=
  (∃ kvs k, H a = some (.dK kvs) ∧ y = kV k ∧ kvs.length < sizeLine ∧ H' = upd H a (.dK (putK kvs k v))) ∨
  ∃ kvs k b, H a = some (.dT kvs) ∧ y = .ref b ∧ H b = some (.tup (k.map kV)) ∧ kvs.length < sizeLine ∧ H' = upd H a (.dT (putK kvs k v))
theorem DGet.k {H : Hp} {a : Addr} {kvs : List (Key × V)} {k : Key} (e : H a = some (.dK kvs)) : DGet H a (kV k) (valV kvs k) := .inl ⟨kvs, k, .inl e, rfl, rfl⟩
theorem DPut.k {H : Hp} {a : Addr} {kvs : List (Key × V)} {k : Key} {v : V} (e : H a = some (.dK kvs)) (hl : kvs.length < sizeLine) : DPut H a (kV k) v (upd H a (.dK (putK kvs k v))) := .inl ⟨kvs, k, e, rfl, hl, rfl⟩
section
variable {X : Cx} {pins : List (Addr × Obj)} {σ : St} {H : Hp} {s : Shared} {a : Addr} {y v : V} {u r : Value} {o : Option V} {A : Around} {E : Value → Shared → Prop}
theorem Inv.big (I : Inv X pins σ H s) : sysModules < s.heap.objs.size := by
  have h : mainGlobals < s.heap.objs.size := (I.mod.glob.keeps I.bk).lt
  exact Nat.lt_trans (by decide) h
theorem d_in {Q : Value → Shared → Prop} (hu : A.units + 1 < cLine) (I : Inv X pins σ H s) (g : DGet H a y o) (ry : RelV y u) (h : ∀ s', Inv X pins σ H s' → Q (.bool o.isSome) s') :
    wpAny (model X.prog X.w) A (compareOp .In u (.ref a)) Q E s := by
  rcases g with ⟨kvs, k, e, ey, l⟩ | ⟨kvs, k, b, e, ey, eb, l⟩
  · subst ey
    obtain ⟨z, hd, vs, rel, dd⟩ := dk_rd I.hok e
    refine wpAny_in_of (kV_is ry) hd dd.mapOf ?_
    rw [← (rel.val k).isSome_eq, ← l]
    exact h _ (I.tok _)
  · subst ey
    cases (show u = Value.ref b from ry)
    obtain ⟨z, hd, xs, rel, dd⟩ := dt_rd I.hok e
    refine wpAny_in_heap (tupleKind_room_in1 hu) (key_of I.hok eb) hd dd ?_
    have q := (rel.val k).isSome_eq
    rw [Option.isSome_map] at q
    rw [← q, ← l]
    exact h _ (I.tok _)
theorem d_notIn {Q : Value → Shared → Prop} (hu : A.units + 1 < cLine) (I : Inv X pins σ H s) (g : DGet H a y o) (ry : RelV y u) (h : ∀ s', Inv X pins σ H s' → Q (.bool (!o.isSome)) s') :
    wpAny (model X.prog X.w) A (compareOp .NotIn u (.ref a)) Q E s := by
  rcases g with ⟨kvs, k, e, ey, l⟩ | ⟨kvs, k, b, e, ey, eb, l⟩
  · subst ey
    obtain ⟨z, hd, vs, rel, dd⟩ := dk_rd I.hok e
    refine wpAny_notIn_of (kV_is ry) hd dd.mapOf ?_
    rw [← (rel.val k).isSome_eq, ← l]
    exact h _ (I.tok _)
  · subst ey
    cases (show u = Value.ref b from ry)
    obtain ⟨z, hd, xs, rel, dd⟩ := dt_rd I.hok e
    refine wpAny_notIn_heap (tupleKind_room_in1 hu) (key_of I.hok eb) hd dd ?_
    have q := (rel.val k).isSome_eq
    rw [Option.isSome_map] at q
    rw [← q, ← l]
    exact h _ (I.tok _)
theorem d_write {h' : Heap} {t' : Nat} {ob : HO} (I : Inv X pins σ H s) (mu : Mut (H a)) (hs : Heap.SameBut a s.heap h') (he : ∃ q, h'.get? a = some q) (new : ObjOk X.prog X.w (upd H a ob) h' a ob) :
    Inv X pins σ (upd H a ob) { s with heap := h', toks := t' } :=
  I.write (x := a) (e := a) mu (.inl rfl) (fun b q hb z => (hs.2 b hb).trans z) he new
theorem dk_new {P : Program} {w : World} {H' : Hp} {h' : Heap} {kvs : List (Key × V)} {vs : List (Key × Value)} (z : kvs.length ≤ sizeLine) (hd : (a == sysModules) = false) (rel : KV kvs vs) (dd : h'.DictOf (mixKind P w) a vs) :
    ObjOk P w H' h' a (.dK kvs) := ⟨z, hd, vs, rel, dd⟩
theorem d_setItem {H' : Hp} {Q : Unit → Shared → Prop} (hu : A.units + 1 < cLine) (I : Inv X pins σ H s) (g : DPut H a y v H') (ry : RelV y u) (rv : RelV v r) (h : ∀ s', Inv X pins σ H' s' → Q () s') :
    wpAny (model X.prog X.w) A (setItem (.ref a) u r) Q E s := by
  rcases g with ⟨kvs, k, e, ey, l, eH⟩ | ⟨kvs, k, b, e, ey, eb, l, eH⟩
  · subst ey eH
    obtain ⟨z, hd, vs, rel, dd⟩ := dk_of I.hok e
    have hz : vs.length ≤ sizeLine := by rw [← rel.length]; exact z
    have hl : (putK kvs k v).length ≤ sizeLine := by have := length_putK kvs k v; omega
    refine wpAny_setItem_pairs (hsz := hz) (kV_is ry) dd fun h' dd' hs => h _ ?_
    have he : ∃ q, h'.get? a = some q := let ⟨q, _, _, hq, _⟩ := dd'; ⟨q, hq⟩
    exact d_write I (by rw [e]; exact True.intro) hs he (dk_new hl hd (rel.put k rv) dd')
  · subst ey eH
    cases (show u = Value.ref b from ry)
    obtain ⟨z, hd, xs, rel, dd⟩ := dt_of I.hok e
    have hz : xs.length ≤ sizeLine := by rw [← Paired.length rel]; exact z
    have hl : (putK kvs k v).length ≤ sizeLine := by have := length_putK kvs k v; omega
    refine wpAny_setItem_heap (hsz := hz) (tupleKind_room_in1 hu) (key_of I.hok eb) dd fun h' dd' hs => h _ ?_
    obtain ⟨q, es, ep, hq, h2, h3, h4, _, h5⟩ := dd'
    refine d_write I (by rw [e]; exact True.intro) hs ⟨q, hq⟩ ⟨hl, hd, _, (rel.put k eb rv).keeps fun c ys ec => ?_, q, es, ep, hq, h2, h3, h4, h5⟩
    rw [upd_ne (ne_of ec e (fun z => nomatch z))]
    exact ec
end
section
variable {X : Cx} {pins : List (Addr × Obj)} {σ : St} {H : Hp} {s : Shared} {a : Addr} {kvs : List (Key × V)} {k : Key} {u : Value} {A : Around} {E : Value → Shared → Prop}
theorem d_len {Q : Value → Shared → Prop} (I : Inv X pins σ H s) (e : Rd H a (.dK kvs)) (h : ∀ t s', Inv X pins σ H s' → Q (.int kvs.length t) s') : wpAny (model X.prog X.w) A (call (.builtin "len") [.ref a]) Q E s := by
  obtain ⟨z, hd, vs, rel, dd⟩ := dk_rd I.hok e
  refine call_len_dict hd dd (by rw [← rel.length]; rw [sizeLine_eq] at z; omega) ?_
  rw [← rel.length]
  exact h _ _ (I.tok _)
end
section
variable {X : Cx} {o i e value : Expr} {pos pos' tpos : Pos} {td ty tv : TE}
end
theorem dk_empty {P : Program} {w : World} {H : Hp} (h : Heap) (hb : sysModules < h.objs.size) : ObjOk P w H (h.push { cls := .type "dict", data := .dict #[] }) h.objs.size (.dK []) :=
  ⟨Nat.zero_le _, beq_eq_false_iff_ne.mpr (Ne.symm (Nat.ne_of_lt hb)), [], .nil, Heap.DictOf.new h⟩
def tDNewK : TE := fun _ H Q => ∀ p, H p = none → Q (.ref p) (upd H p (.dK []))
section
variable {X : Cx} {pos : Pos}
theorem pe_dnewK : PE X (.Dict [] [] pos) tDNewK := fun pins s σ H Q I h =>
  wpAny_Dict_empty ⟨.ref s.heap.objs.size, _, I.laid (a := s.heap.objs.size) (o := .dK []) (t' := s.toks) (fun _ _ q => Heap.get?_push_of_some _ q) (Nat.le_refl _) (dk_empty s.heap I.big), rfl, h _ (I.hok.fresh (Nat.le_refl _))⟩
end
section
variable {X : Cx} {pins : List (Addr × Obj)} {σ : St} {H : Hp} {s : Shared} {a : Addr} {y d : V} {u r : Value} {o : Option V} {A : Around} {E : Value → Shared → Prop}
end
section
variable {X : Cx} {o e f : Expr} {apos cpos : Pos} {td ty tx : TE}
end
section
variable {X : Cx} {pins : List (Addr × Obj)} {σ : St} {H : Hp} {s : Shared} {a : Addr} {kvs : List (Key × V)} {A : Around} {E : Value → Shared → Prop}
end
section
variable {X : Cx} {pins : List (Addr × Obj)} {σ : St} {H : Hp} {s : Shared} {a : Addr} {y : V} {u : Value} {A : Around} {E : Value → Shared → Prop}
end
end L2
namespace L2
open PySem PySem.Spec PyProof.Rows
section
variable {X : Cx}
theorem call_lenD : CallR X (.builtin "len") (fun xs H Q => ∃ a kvs, xs = [V.ref a] ∧ H a = some (.dK kvs) ∧ Q (.int kvs.length) H) := by
  intro pins s σ H xs us Q I r h
  obtain ⟨a, kvs, rfl, ha, q⟩ := h
  obtain ⟨u, rfl, ru⟩ := vals1 r
  cases ru
  exact d_len I (.inl ha) fun t s' I' => ⟨.int kvs.length, H, I', ⟨t, rfl⟩, q⟩
end
section
variable {κ : Type} [DecidableEq κ]
end
end L2
namespace L2
open PySem PySem.Spec PyProof.Rows
namespace Rd
section
variable {σ : St} {H : Hp} {Q : VK} {D : Ends} {t u : TS} {ta tb te : TE} {r : R2}
theorem var {i : Nat} {v : V} (h : σ[i]? = some (some v)) (q : Q v H) : tVar i σ H Q := ⟨v, h, q⟩
theorem con {v : V} (q : Q v H) : tC v σ H Q := q
theorem op (h : ta σ H fun x H1 => tb σ H1 fun y H2 => r x y H2 Q) : tOp r ta tb σ H Q := h
theorem un {r : V → Hp → VK → Prop} (h : ta σ H fun x H1 => r x H1 Q) : tUn r ta σ H Q := h
theorem i0 {g : Int → Int → V} {i j : Int} (q : Q (g i j) H) : rI0 g (.int i) (.int j) H Q := ⟨i, j, rfl, rfl, q⟩
theorem iC {C : Int → Int → Prop} {g : Int → Int → V} {i j : Int} (c : C i j) (q : Q (g i j) H) : rI C g (.int i) (.int j) H Q := ⟨i, j, rfl, rfl, c, q⟩
theorem eqI {i j : Int} (q : Q (.bl (decide (i = j))) H) : rEq (.int i) (.int j) H Q := ⟨rfl, by
  have e : decide (V.int i = V.int j) = decide (i = j) := by
    by_cases h : i = j
    · rw [h]; simp
    · rw [decide_eq_false h, decide_eq_false (fun z => h (V.int.inj z))]
  rw [e]; exact q⟩
theorem neI {i j : Int} (q : Q (.bl (!decide (i = j))) H) : rNe (.int i) (.int j) H Q := ⟨rfl, by
  have e : decide (V.int i = V.int j) = decide (i = j) := by
    by_cases h : i = j
    · rw [h]; simp
    · rw [decide_eq_false h, decide_eq_false (fun z => h (V.int.inj z))]
  rw [e]; exact q⟩
theorem test {Q : Bool → Hp → Prop} (h : te σ H fun x H' => ∃ k, x = .bl k ∧ Q k H') : tTest te σ H Q := h
theorem bl {k : Bool} {Q : Bool → Prop} (q : Q k) : ∃ k', V.bl k = .bl k' ∧ Q k' := ⟨k, rfl, q⟩
theorem seq (h : t { D with nx := u D } σ H) : tSeq t u D σ H := h
theorem asg {g : TG} (h : te σ H fun x H1 => g x σ H1 D.nx) : tAsg te g D σ H := h
theorem ifs {c : TT} (h : c σ H fun b H1 => if b = true then t D σ H1 else u D σ H1) : tIfS c t u D σ H := h
theorem ret (h : te σ H D.rt) : tRet te D σ H := h
theorem next (h : D.nx σ H) : tNext D σ H := h
theorem drop (h : te σ H fun _ H1 => D.nx σ H1) : tDrop te D σ H := h
theorem nil {Q : List V → Hp → Prop} (h : Q [] H) : tNil σ H Q := h
theorem cons {tr : TA} {Q : List V → Hp → Prop} (h : ta σ H fun x H1 => tr σ H1 fun xs H2 => Q (x :: xs) H2) : tCons ta tr σ H Q := h
theorem call {sp : Sp} {dvs : List V} {E : XK} {ts : TA} (h : ts σ H fun vs H1 => sp (vs ++ dvs) H1 Q E) : tCall sp dvs E ts σ H Q := h
theorem cb {r : List V → Hp → VK → Prop} {ts : TA} (h : ts σ H fun vs H1 => r vs H1 Q) : tCB r ts σ H Q := h
theorem tup {ts : TA} (h : ts σ H fun xs H1 => xs.length ≤ sizeLine ∧ ∀ p, H1 p = none → Q (.ref p) (upd H1 p (.tup xs))) : tTup ts σ H Q := h
theorem lst {ts : TA} (h : ts σ H fun xs H1 => xs.length ≤ sizeLine ∧ ∀ p, H1 p = none → Q (.ref p) (upd H1 p (.lst xs))) : tLst ts σ H Q := h
theorem and_ {t u : TT} {Q : Bool → Hp → Prop} (h : t σ H fun c H1 => if c = true then u σ H1 Q else Q false H1) : tAnd t u σ H Q := h
theorem or_ {t u : TT} {Q : Bool → Hp → Prop} (h : t σ H fun c H1 => if c = true then Q true H1 else u σ H1 Q) : tOr t u σ H Q := h
theorem not_ {t : TT} {Q : Bool → Hp → Prop} (h : t σ H fun c H1 => Q (!c) H1) : tNot t σ H Q := h
theorem andV (h : ta σ H fun x H1 => ∃ c, x = .bl c ∧ if c = true then tb σ H1 Q else Q (.bl false) H1) : tAndV ta tb σ H Q := h
theorem notV (h : ta σ H fun x H1 => ∃ c, x = .bl c ∧ Q (.bl (!c)) H1) : tNotV ta σ H Q := h
end
end Rd
end L2
namespace L2
open PySem PySem.Spec PyProof.Rows
section
variable {X : Cx}
theorem op_mulG : OpR X (binaryOp .Mult) (rI (fun i j => IntMulOk i j) fun i j => .int (i * j)) := opI fun _ _ _ _ _ _ _ hc q => mul_int q hc
theorem op_fdivG : OpR X (binaryOp .FloorDiv) (rI (fun _ j => 0 < j ∧ j.natAbs.log2 < 9000) fun i j => .int (i / j)) := opI fun i j _ _ _ _ _ hc q => by
  rw [← Int.fdiv_eq_ediv_of_nonneg i (Int.le_of_lt hc.1)] at q
  exact floordiv_int (by have := hc.1; omega) q (.inl (PyProof.noPylong_of_log2 hc.2))
theorem call_isinst : CallR X (.builtin "isinstance") (fun xs H Q => ∃ x n t b, xs = [x, .ty n] ∧ TyOf X.K H x t ∧ PySem.W.kitOne X.K t (.type n) = some b ∧ Q (.bl b) H) := by
  intro pins s σ H xs us Q I r h
  obtain ⟨x, n, t, b, rfl, ty, e, q⟩ := h
  obtain ⟨u, v, rfl, ru, rv⟩ := r.two
  obtain rfl : v = Value.type n := rv
  exact isinst_ok I ru ty e fun tk => ⟨.bl b, H, I.tok tk, rfl, q⟩
def tCut (t : TS) : TS := fun D σ H => ∃ J : St → Hp → Prop, (∀ σ' H', J σ' H' → D.nx σ' H') ∧ t { D with nx := J } σ H
theorem ps_cut {st : Stmt} {t : TS} (h : PS X st t) : PS X st (tCut t) := by
  intro pins s σ H D I hq
  obtain ⟨J, hJ, q⟩ := hq
  refine thn (h pins s σ H _ I q) fun f s1 q1 => ?_
  cases f with
  | next => obtain ⟨σ', H', I', j⟩ := q1; exact ⟨σ', H', I', hJ _ _ j⟩
  | brk => exact q1
  | cont => exact q1
  | ret v => exact q1
end
namespace Rd
theorem iteNT {A B : Prop} (h : B) : if (!true) = true then A else B := iteF h
theorem iteNF {A B : Prop} (h : A) : if (!false) = true then A else B := iteT h
section
variable {σ : St} {H : Hp} {Q : VK} {D : Ends} {t u : TS} {ta tb te : TE}
theorem cut (J : St → Hp → Prop) (hJ : ∀ σ' H', J σ' H' → D.nx σ' H') (h : t { D with nx := J } σ H) : tCut t D σ H := ⟨J, hJ, h⟩
theorem for_ {wi : TI} {g : TG} {tb : TS} (h : wi σ H fun J H1 => ∃ W : Nat → Nat → St → Hp → Prop, (∃ m, W 0 m σ H1) ∧ ∀ i m σ H, W i m σ H →
    (J.stop i H ∧ D.nx σ H) ∨ (J.go i H ∧ ∃ N : St → Hp → Prop, (∀ σ' H', N σ' H' → ∃ m', m' < m ∧ W (i + 1) m' σ' H') ∧ ∀ x H', J.yld i H x H' → g x σ H' fun σ2 H2 => tb { D with nx := N, ct := N, bk := D.nx } σ2 H2)) : tFor wi g tb D σ H := h
theorem rng1 {ts : TA} {R : It → Hp → Prop} (h : ts σ H fun vs H1 => ∃ j : Int, vs = [.int j] ∧ -(2 ^ 62) ≤ j ∧ j < 2 ^ 62 ∧ R (Itr 0 j.toNat) H1) : iRng1 ts σ H R := h
theorem gtup {K : PySem.W.Frag} {n : Nat} {ts : TGs} {a : Addr} {xs : List V} {Q : St → Hp → Prop} (hs : SqT K H a xs) (hn : xs.length = n) (h : ts xs σ H Q) : gTup K n ts (.ref a) σ H Q := ⟨a, xs, rfl, hs, hn, h⟩
theorem gnil {Q : St → Hp → Prop} (h : Q σ H) : gNil [] σ H Q := ⟨rfl, h⟩
theorem gcons {g : TG} {gs : TGs} {v : V} {r : List V} {Q : St → Hp → Prop} (h : g v σ H fun σ' H' => gs r σ' H' Q) : gCons g gs (v :: r) σ H Q := ⟨v, r, rfl, h⟩
end
end Rd
end L2
namespace L2
open PySem PySem.Spec PyProof.Rows
theorem same_new {H : Hp} {p : Addr} {o : HO} (hp : H p = none) : Same H (upd H p o) := fun c u e => by rw [upd_ne (ne_of_none e hp)]; exact e
theorem Same.new {H H' : Hp} {q : Addr} {o : HO} (sm : Same H H') (hq : H q = none) : Same H (upd H' q o) := fun c u e => by rw [upd_ne (ne_of_none e hq)]; exact sm c u e
namespace Rd
section
variable {σ : St} {H : Hp} {Q : VK} {D : Ends} {K : PySem.W.Frag}
theorem ixt {p : Addr} {xs : List V} {i : Int} {v : V} (h : SqT K H p xs) (e : atI xs i = some v) (q : Q v H) : rIxT K (.ref p) (.int i) H Q := ⟨p, xs, i, v, rfl, rfl, h, e, q⟩
theorem ixl {p : Addr} {xs : List V} {i : Int} {v : V} (h : SqL K H p xs) (e : atI xs i = some v) (q : Q v H) : rIxL K (.ref p) (.int i) H Q := ⟨p, xs, i, v, rfl, rfl, h, e, q⟩
theorem bm {T : String} {r : V → List V → Hp → VK → Prop} {to : TE} {t : TA} (h : to σ H fun x H1 => tyV K T x H1 ∧ t σ H1 fun xs H2 => r x xs H2 Q) : tBM K T r to t σ H Q := h
theorem tyl {p : Addr} {xs : List V} {B : Prop} (h : H p = some (.lst xs)) (q : B) : tyV K "list" (.ref p) H ∧ B := ⟨.inl ⟨rfl, xs, .of h⟩, q⟩
theorem app {p : Addr} {xs : List V} {y : V} (h : H p = some (.lst xs)) (hl : xs.length < sizeLine) (q : Q .non (upd H p (.lst (xs ++ [y])))) : rAppend (.ref p) [y] H Q := ⟨p, xs, y, rfl, rfl, h, hl, q⟩
end
end Rd
end L2
namespace L2
open PySem PySem.Spec PyProof.Rows
def emb (ix : List Nat) (σ : St) : St := none :: ix.map fun j => (σ[j]?).join
def cxComp (X : Cx) (sc : Scope) (cl : List (Str × Addr)) (C : Addr) (N : List Str) (s : Shared) (H : Hp) (fp : List Addr) : Cx where
  prog := X.prog
  w := X.w
  K := X.K
  mg := X.mg
  base := X.base
  A := X.A
  N := N
  s₀ := s
  H₀ := H
  env := compEnvC sc cl C X.env
  outer := X.stack
  stack := X.stack
  ex := fp
  fn := fun _ => false
  calm := X.calm
  pn := []
  xe := fun _ _ => False
structure CompScope (X : Cx) (sc : Scope) (x : Str) (zs : List Str) (ix : List Nat) : Prop where
  kind : sc.kind = .function
  nocell : ∀ y ∈ sc.names, y.2 ≠ .cell
  names : ∀ y ∈ sc.names, y.2 = .local → sc.names.lookup y.1 = some .local
  free : ∀ y ∈ sc.names, y.2 = .free → X.env.kindOf y.1 = some .cell ∨ X.env.kindOf y.1 = some .free
  zfree : ∀ z ∈ zs, sc.names.lookup z = some .free
  at_ : ix.map (fun j => X.N[j]?) = zs.map some
theorem lookup_relabel {env : Env} {x : Str} : ∀ {names : List (Str × NameKind)} {k : NameKind},
    (names.map fun (n, k) => if (k == NameKind.free && env.scope.kind == .function && env.kindOf n == some .cell) then (n, NameKind.cell) else (n, k)).lookup x = some k →
    ∃ k', names.lookup x = some k' ∧ (k = k' ∨ (k' = .free ∧ k = .cell))
  | [], _, h => by simp at h
  | (n, j) :: r, k, h => by
    have h' : List.lookup x ((if (j == NameKind.free && env.scope.kind == .function && env.kindOf n == some .cell) = true then (n, NameKind.cell) else (n, j)) :: (r.map fun (n, k) => if (k == NameKind.free && env.scope.kind == .function && env.kindOf n == some .cell) then (n, NameKind.cell) else (n, k))) = some k := h
    cases hx : x == n with
    | true =>
      refine ⟨j, by simp [List.lookup_cons, hx], ?_⟩
      by_cases hc : (j == NameKind.free && env.scope.kind == .function && env.kindOf n == some .cell) = true
      · rw [if_pos hc] at h'
        simp only [List.lookup_cons, hx] at h'
        cases h'
        simp only [Bool.and_eq_true, beq_iff_eq] at hc
        exact .inr ⟨hc.1.1, rfl⟩
      · rw [if_neg hc] at h'
        simp only [List.lookup_cons, hx] at h'
        cases h'
        exact .inl rfl
    | false =>
      have h2 : List.lookup x (r.map fun (n, k) => if (k == NameKind.free && env.scope.kind == .function && env.kindOf n == some .cell) then (n, NameKind.cell) else (n, k)) = some k := by
        by_cases hc : (j == NameKind.free && env.scope.kind == .function && env.kindOf n == some .cell) = true
        · rw [if_pos hc] at h'
          simpa only [List.lookup_cons, hx] using h'
        · rw [if_neg hc] at h'
          simpa only [List.lookup_cons, hx] using h'
      obtain ⟨k', e, q⟩ := lookup_relabel h2
      exact ⟨k', by simp only [List.lookup_cons, hx]; exact e, q⟩
theorem lookup_mem {x : Str} {k : NameKind} : ∀ {names : List (Str × NameKind)}, names.lookup x = some k → (x, k) ∈ names := fun h => PySem.mem_of_lookup h
theorem closure_of (env : Env) : ∀ (names : List (Str × NameKind)) (acc : List (Str × Addr)),
    (∀ y ∈ names, y.2 = .free → ∃ c, env.cells.lookup y.1 = some c) → (∀ y c, acc.lookup y = some c → env.cells.lookup y = some c) →
    ∃ cl : List (Str × Addr), (forIn names acc (fun x (r : List (Str × Addr)) => if x.2 == NameKind.free then (do let a ← cellOf env x.1; pure (ForInStep.yield ((x.1, a) :: r))) else pure (ForInStep.yield r)) : Sem (List (Str × Addr))) = pure cl ∧
      (∀ y c, cl.lookup y = some c → env.cells.lookup y = some c) ∧ (∀ y, (∃ c, acc.lookup y = some c) ∨ (y, NameKind.free) ∈ names → ∃ c, cl.lookup y = some c)
  | [], acc, _, ha => ⟨acc, rfl, ha, fun y h => h.elim id fun z => absurd z (by simp)⟩
  | (n, k) :: r, acc, hf, ha => by
    have hr : ∀ y ∈ r, y.2 = .free → ∃ c, env.cells.lookup y.1 = some c := fun y hy => hf y (List.mem_cons_of_mem _ hy)
    by_cases hk : k = .free
    · subst hk
      obtain ⟨c, hc⟩ := hf (n, .free) List.mem_cons_self rfl
      have ha' : ∀ y c', ((n, c) :: acc).lookup y = some c' → env.cells.lookup y = some c' := fun y c' h => by
        cases hy : y == n with
        | true =>
          simp only [List.lookup_cons, hy] at h
          cases h
          rw [beq_iff_eq.mp hy]
          exact hc
        | false =>
          simp only [List.lookup_cons, hy] at h
          exact ha y c' h
      obtain ⟨cl, e, h1, h2⟩ := closure_of env r ((n, c) :: acc) hr ha'
      refine ⟨cl, ?_, h1, fun y h => h2 y ?_⟩
      · rw [List.forIn_cons]
        have : cellOf env n = pure c := by unfold cellOf; rw [hc]
        simp only [beq_self_eq_true, if_true, this]
        exact e
      · rcases h with ⟨c', h⟩ | h
        · cases hy : y == n with
          | true => exact .inl ⟨c, by simp only [List.lookup_cons, hy]⟩
          | false => exact .inl ⟨c', by simp only [List.lookup_cons, hy]; exact h⟩
        · rcases List.mem_cons.mp h with h | h
          · cases h
            exact .inl ⟨c, by simp⟩
          · exact .inr h
    · obtain ⟨cl, e, h1, h2⟩ := closure_of env r acc hr ha
      refine ⟨cl, ?_, h1, fun y h => h2 y ?_⟩
      · rw [List.forIn_cons]
        have hb : (k == NameKind.free) = false := by simpa using hk
        simp only [hb, Bool.false_eq_true, if_false]
        exact e
      · rcases h with h | h
        · exact .inl h
        · rcases List.mem_cons.mp h with h | h
          · cases h
            exact absurd rfl hk
          · exact .inr h
def PIf (X : Cx) (ifs : List Expr) (t : TT) : Prop :=
  ∀ (pins : List (Addr × Obj)) (s : Shared) (σ : St) (H : Hp) (Q : Bool → Hp → Prop), Inv X pins σ H s → t σ H Q →
    wpAny (model X.prog X.w) X.A (forIn ifs true fun c r => if r = true then do let ok ← isTrue c X.env (eval c X.env); pure (ForInStep.yield ok) else pure (ForInStep.yield r)) (TP X pins σ Q) X.xe s
def tAll : TT := fun _ H Q => Q true H
section
variable {X : Cx}
theorem pif_nil : PIf X [] tAll := fun _ _ _ H _ I h => wpAny_pure ⟨H, I, h⟩
theorem pif_one {c : Expr} {t : TT} (hc : PT X c t) : PIf X [c] t := by
  intro pins s σ H Q I h
  rw [List.forIn_cons]
  simp only [if_true]
  refine wpAny_bind (wpAny_bind (thn (hc pins s σ H _ I h) fun b s1 q => wpAny_pure ?_))
  exact wpAny_pure q
end
section
variable {prog : Program} {w : World} {A : Around} {R : Result → Shared → Prop} {s : Shared}
theorem compLoop_any {elt target iter : Expr} {ifs : List Expr} {scope : Scope} {pos : Pos} {it acc : Value} {env : Env} (I : Nat → Shared → Prop)
    (turn : ∀ n s, I n s → wpAny (model prog w) A (pyNext it) (fun r s₁ => match r with
      | none => R (.ok .next) s₁
      | some v => wpAny (model prog w) A (letOwnedTupleGo target it v) (fun _ s₀ => wpAny (model prog w) A (assign target env v) (fun _ s₂ =>
          wpAny (model prog w) A (forIn ifs true fun c r => if r = true then do let ok ← isTrue c env (eval c env); pure (ForInStep.yield ok) else pure (ForInStep.yield r)) (fun ok s₃ =>
            if ok = true then wpAny (model prog w) A (eval elt env) (fun x s₄ =>
              wpAny (model prog w) A (call (.builtin "list.append") [acc, x]) (fun _ s₅ => ∃ m, m < n ∧ I m s₅) (fun _ _ => False) s₄) (fun _ _ => False) s₃
            else ∃ m, m < n ∧ I m s₃) (fun _ _ => False) s₂) (fun _ _ => False) s₀) (fun _ _ => False) s₁) (fun _ _ => False) s)
    (n : Nat) (h : I n s) :
    codeAny (model prog w) A (.compLoop (.ListComp elt [⟨target, iter, ifs, 0⟩] scope pos) 0 it acc env) R s := by
  refine codeAny_loop rfl I (fun n s hI => ?_) n h
  show wpAny _ A ((compTurn (.ListComp elt [⟨target, iter, ifs, 0⟩] scope pos) 0 it acc env).onRaise (fun x => do noteFrame x env; theTreesLotGoes x)) _ _ s
  refine wpAny_noted ?_
  rw [compTurn_list]
  refine wpAny_bind (wpAny_standAt (wpAny_bind (wpAny_mono (turn n s hI) (fun r s₁ h₁ => ?_) fun _ _ z => z.elim)))
  cases r with
  | none => exact wpAny_pure h₁
  | some v =>
    refine wpAny_bind (wpAny_mono h₁ (fun _ s₀ h₀ => ?_) fun _ _ z => z.elim)
    refine wpAny_bind (wpAny_mono h₀ (fun _ s₂ h₂ => wpAny_bind (wpAny_mono h₂ (fun ok s₃ h₃ => ?_) fun _ _ z => z.elim)) fun _ _ z => z.elim)
    cases ok with
    | false => exact wpAny_pure ⟨rfl, h₃⟩
    | true =>
      exact wpAny_bind (wpAny_bind (wpAny_mono h₃ (fun x s₄ h₄ => wpAny_bind (wpAny_mono h₄ (fun _ s₅ h₅ => wpAny_pure (wpAny_pure ⟨rfl, h₅⟩)) fun _ _ z => z.elim)) fun _ _ z => z.elim))
end
def tComp (ix : List Nat) (wi : TI) (g : TG) (tc : TT) (te : TE) : TE := fun σ H Q => wi σ H fun J H1 => ∀ p, H1 p = none →
  ∃ W : Nat → Nat → List V → St → Hp → Prop, (∃ m, W 0 m [] (emb ix σ) (upd H1 p (.lst []))) ∧ ∀ i m ys σ' H', W i m ys σ' H' →
    (J.stop i H' ∧ Q (.ref p) H') ∨ (J.go i H' ∧ ∀ x H2, J.yld i H' x H2 → g x σ' H2 fun σ2 H3 => tc σ2 H3 fun b H4 =>
      if b = true then te σ2 H4 fun v H5 => H5 p = some (.lst ys) ∧ ys.length < sizeLine ∧ ∃ m', m' < m ∧ W (i + 1) m' (ys ++ [v]) σ2 (upd H5 p (.lst (ys ++ [v])))
      else ∃ m', m' < m ∧ W (i + 1) m' ys σ2 H4)
section
variable {X : Cx}
theorem comp_start {pins : List (Addr × Obj)} {σ : St} {H : Hp} {s : Shared} {sc : Scope} {x : Str} {zs : List Str} {ix : List Nat} {cl : List (Str × Addr)} {fp : List Addr} {h₁ : Heap} {tk : Nat}
    (S : CompScope X sc x zs ix) (I : Inv X pins σ H s) (hcl : ∀ y c, cl.lookup y = some c → X.env.cells.lookup y = some c) (hhas : ∀ y, (y, NameKind.free) ∈ sc.names → ∃ c, cl.lookup y = some c)
    (hfp : ∀ b ∈ fp, FpOk X pins H b ∧ b < s.heap.objs.size) (hns : h₁.Ns s.heap.objs.size fun _ => none) (hk : ∀ b o, s.heap.get? b = some o → h₁.get? b = some o) :
    Inv (cxComp X sc cl s.heap.objs.size (x :: zs) s H fp) [] (emb ix σ) H { s with heap := h₁, toks := tk } := by
  have sub : ∀ b ∈ frs X.stack, b ∈ X.env.locals :: X.fs := I.stkSub
  have nfs : ∀ b ∈ fp, b ∉ frs X.stack := fun b hb z => by
    obtain ⟨⟨_, f1, f2, _⟩, _⟩ := hfp b hb
    rcases List.mem_cons.mp (sub b z) with e | e
    · exact f1 e
    · exact f2 e
  have cut : ∀ y, (cxComp X sc cl s.heap.objs.size (x :: zs) s H fp).env.kindOf y = some .cell ∨ (cxComp X sc cl s.heap.objs.size (x :: zs) s H fp).env.kindOf y = some .free → ∃ c, cl.lookup y = some c := fun y hy => by
    have q : ∃ k, (relabel sc X.env).names.lookup y = some k ∧ (k = .cell ∨ k = .free) := by
      rcases hy with hy | hy
      · exact ⟨_, hy, .inl rfl⟩
      · exact ⟨_, hy, .inr rfl⟩
    obtain ⟨k, e, hk⟩ := q
    obtain ⟨k', e', q⟩ := lookup_relabel e
    have : k' = .free := by
      rcases q with q | ⟨q, _⟩
      · rcases hk with z | z
        · exact absurd (q.symm.trans z) (S.nocell _ (lookup_mem e'))
        · exact q.symm.trans z
      · exact q
    subst this
    exact hhas y (lookup_mem e')
  refine ⟨⟨I.ok.mod, S.kind, I.ok.glob, I.ok.blt, Nat.le_refl _, fun y z c h1 h2 => I.ok.inj y z c (hcl _ _ h1) (hcl _ _ h2), cut, fun y c hf _ => ?_, I.ok.hd, I.ok.frames, .inl rfl, fun b hb => ?_, I.bs, Nat.le_trans I.ok.bsz I.sz, fun b o e hb => ?_, nfs, I.stack, I.stkFree⟩,
    rfl, I.bare, Un.kept hk, ⟨_, hns, fun i y v h1 h2 h3 => ?_⟩, fun y c h => ?_, I.hok.fresh (Nat.le_refl _), fun y c h => I.freeC y c (hcl y c h), fun p hp => absurd (show p ∈ ([] : List (Addr × Obj)) from hp) (by simp), I.hok.kept hk, ?_⟩
  · exact absurd (show false = true from hf) (by decide)
  · obtain ⟨⟨f0, f1, f2, f3, f4, f5⟩, hl⟩ := hfp b hb
    exact ⟨Nat.ne_of_lt hl, fun y c h => f4 y c (hcl y c h)⟩
  · obtain ⟨⟨f0, f1, f2, f3, f4, f5⟩, hl⟩ := hfp b hb
    rcases f3 with z | z
    · exact I.ok.noex b o e z
    · exact absurd (Nat.lt_of_lt_of_le (Heap.lt_size e) (Nat.le_trans I.ok.bsz z)) (Nat.lt_irrefl _)
  ·
    cases i with
    | zero =>
      have : (none : Option (Option V)) = some (some v) ∨ (some none : Option (Option V)) = some (some v) := .inr h2
      rcases this with z | z <;> cases z
    | succ i =>
      have h1' : zs[i]? = some y := h1
      have h2' : (ix.map fun j => (σ[j]?).join)[i]? = some (some v) := h2
      have ha : (ix.map fun j => X.N[j]?)[i]? = some (some y) := by rw [S.at_, List.getElem?_map, h1']; rfl
      rw [List.getElem?_map] at h2' ha
      cases e : ix[i]? with
      | none => rw [e] at h2'; cases h2'
      | some j =>
        rw [e] at h2' ha
        have ha' : X.N[j]? = some y := Option.some.inj ha
        have hj : (σ[j]?).join = some v := Option.some.inj h2'
        have hσ : σ[j]? = some (some v) := by
          cases q : σ[j]? with
          | none => rw [q] at hj; cases hj
          | some o => rw [q] at hj; exact congrArg some hj
        obtain ⟨m, hn, hl⟩ := I.loc
        have hfr := S.zfree y (List.mem_of_getElem? h1')
        have hkind := S.free _ (lookup_mem hfr) rfl
        have hv : Vis X.env.scope y := by
          rcases hkind with z | z
          · exact .inr (.inl z)
          · exact .inr (.inr z)
        obtain ⟨u, r, q⟩ := hl j y v ha' hσ hv
        refine ⟨u, r, ?_⟩
        rcases q with ⟨kl, _⟩ | ⟨_, c, hc, hcell⟩
        · have kl' : X.env.kindOf y = some .local := kl
          rcases hkind with z | z <;> (rw [z] at kl'; cases kl')
        · obtain ⟨c', hc'⟩ := hhas y (lookup_mem hfr)
          have ec : c' = c := by have := hcl y c' hc'; rw [hc] at this; exact (Option.some.inj this).symm
          subst ec
          refine .inr ⟨?_, c', hc', ?_⟩
          · have hvis : Vis (relabel sc X.env) y := h3
            rcases hvis with z | z | z
            · obtain ⟨k', e', q⟩ := lookup_relabel z
              rw [hfr] at e'
              cases e'
              rcases q with q | ⟨_, q⟩ <;> cases q
            · exact .inl z
            · exact .inr z
          · obtain ⟨o, ho, hd⟩ := hcell
            exact ⟨o, hk _ _ ho, hd⟩
  · obtain ⟨v, o, ho, hd⟩ := I.cell y c (hcl y c h)
    exact ⟨v, o, hk _ _ ho, hd⟩
  · show (none :: ix.map fun j => (σ[j]?).join).length = (x :: zs).length
    have := congrArg List.length S.at_
    simp only [List.length_map] at this
    simp only [List.length_cons, List.length_map, this]
def CompEnd (X : Cx) (pins : List (Addr × Obj)) (σ : St) (Q : VK) (acc : Value) (C : Addr) (s' : Shared) : Prop :=
  ∃ p H' m, acc = Value.ref p ∧ s'.heap.Ns C m ∧ Inv X pins σ H' s' ∧ FpOk X pins H' C ∧ Q (.ref p) H'
theorem comp_block {pins : List (Addr × Obj)} {σ : St} {H : Hp} {s : Shared} {sc : Scope} {x : Str} {zs : List Str} {ix : List Nat} {cl : List (Str × Addr)} {fp : List Addr} {it : Addr} {tn : Nat → Heap → Prop} {J : It}
    {elt tg iter : Expr} {ifs : List Expr} {pos : Pos} {g : TG} {tc : TT} {te : TE} {Q : VK} {E : Value → Shared → Prop} {RR : Value → Addr → Result → Shared → Prop}
    (hc : X.calm = true) (S : CompScope X sc x zs ix) (I : Inv X pins σ H s) (hcl : ∀ y c, cl.lookup y = some c → X.env.cells.lookup y = some c) (hhas : ∀ y, (y, NameKind.free) ∈ sc.names → ∃ c, cl.lookup y = some c)
    (T : Turn X.prog X.w X.K tg J fp it tn) (st : tn 0 s.heap) (hfp : ∀ b ∈ fp, FpOk X pins H b)
    (hin : ∀ C s H, PG (cxComp X sc cl C (x :: zs) s H fp) tg g ∧ PIf (cxComp X sc cl C (x :: zs) s H fp) ifs tc ∧ PE (cxComp X sc cl C (x :: zs) s H fp) elt te)
    (hq : ∀ p, H p = none → ∃ W : Nat → Nat → List V → St → Hp → Prop, (∃ m, W 0 m [] (emb ix σ) (upd H p (.lst []))) ∧ ∀ i m ys σ' H', W i m ys σ' H' →
      (J.stop i H' ∧ Q (.ref p) H') ∨ (J.go i H' ∧ ∀ x H2, J.yld i H' x H2 → g x σ' H2 fun σ2 H3 => tc σ2 H3 fun b H4 =>
        if b = true then te σ2 H4 fun v H5 => H5 p = some (.lst ys) ∧ ys.length < sizeLine ∧ ∃ m', m' < m ∧ W (i + 1) m' (ys ++ [v]) σ2 (upd H5 p (.lst (ys ++ [v])))
        else ∃ m', m' < m ∧ W (i + 1) m' ys σ2 H4))
    (hR : ∀ acc C f s', CompEnd X pins σ Q acc C s' → RR acc C (.ok f) s') :
    wpAny (model X.prog X.w) X.A (newList []) (fun acc s₃ => wpAny (model X.prog X.w) X.A (newFunctionEnv sc X.env.globals cl [] X.env.qual none .none (some X.env)) (fun cenv s₄ =>
      codeAny (model X.prog X.w) X.A (.compStart (.ListComp elt [⟨tg, iter, ifs, 0⟩] sc pos) 0 (.ref it) acc { cenv with scope := relabel sc X.env }) (RR acc cenv.locals) s₄) E s₃) E s := by
  refine wpAny_newObj_type (wpAny_newFunctionEnv S.nocell (by intro y hy; simp at hy) (fun h₁ hns₁ hsb₁ => ?_) S.kind)
  have I3 : Inv X pins σ (upd H s.heap.objs.size (.lst [])) { s with heap := s.heap.push { cls := .type "list", dict := none, data := .seq ([] : List Value).toArray } } := I.lnew (its := []) (ys := []) (t' := s.toks) .nil (Nat.zero_le _)
  dsimp only at hns₁ hsb₁ ⊢
  obtain ⟨W, ⟨m0, w0⟩, turn⟩ := hq s.heap.objs.size (I.hok.fresh (Nat.le_refl _))
  have lt : ∀ b ∈ fp, b < s.heap.objs.size := fun b hb => by
    obtain ⟨o, e, _⟩ := T.obj 0 s.heap st b hb
    exact Heap.lt_size e
  have up : ∀ b ∈ fp, ∀ o, (upd H s.heap.objs.size o) b = H b := fun b hb o => upd_ne (Nat.ne_of_lt (lt b hb))
  have kp : ∀ b o, (s.heap.push { cls := .type "list", dict := none, data := .seq ([] : List Value).toArray }).get? b = some o → h₁.get? b = some o := fun b o e =>
    hsb₁.extBut b o (Nat.ne_of_lt (Heap.lt_size e)) (Heap.get?_push_of_some _ e)
  have f3 : ∀ b ∈ fp, FpOk X pins (upd H s.heap.objs.size (.lst [])) b ∧ b < (s.heap.push { cls := .type "list", dict := none, data := .seq ([] : List Value).toArray }).objs.size := fun b hb => by
    obtain ⟨q0, q⟩ := hfp b hb
    refine ⟨⟨(up b hb _).trans q0, q⟩, ?_⟩
    rw [Heap.size_push]
    exact Nat.lt_succ_of_lt (lt b hb)
  generalize hS3 : ({ s with heap := s.heap.push { cls := .type "list", dict := none, data := .seq ([] : List Value).toArray } } : Shared) = s3 at I3
  have hH3 : s.heap.push { cls := .type "list", dict := none, data := .seq ([] : List Value).toArray } = s3.heap := by rw [← hS3]
  rw [hH3] at kp f3 hns₁ ⊢
  have st3 : tn 0 h₁ := T.keep 0 _ _ st fun b _ o e => kp b o (by rw [← hH3]; exact Heap.get?_push_of_some _ e)
  have J0 : Inv (cxComp X sc cl s3.heap.objs.size (x :: zs) s3 (upd H s.heap.objs.size (.lst [])) fp) [] (emb ix σ) (upd H s.heap.objs.size (.lst [])) { s3 with heap := h₁, toks := s3.toks } :=
    comp_start S I3 hcl hhas f3 hns₁ kp
  obtain ⟨hg, hif, he⟩ := hin s3.heap.objs.size s3 (upd H s.heap.objs.size (.lst []))
  have fpo : ∀ {H' : Hp}, (∀ b ∈ fp, H' b = none) → ∀ b ∈ fp, FpOk (cxComp X sc cl s3.heap.objs.size (x :: zs) s3 (upd H s.heap.objs.size (.lst [])) fp) [] H' b := fun {H'} hn b hb =>
    ⟨hn b hb, (J0.ok.exf b hb).1, J0.ok.exfs b hb, .inl hb, (J0.ok.exf b hb).2, fun p hp => absurd (show p ∈ ([] : List (Addr × Obj)) from hp) (by simp)⟩
  have loop : ∀ s4 : Shared, s4 = { s3 with heap := h₁, toks := s3.toks } →
      codeAny (model X.prog X.w) X.A (.compLoop (.ListComp elt [⟨tg, iter, ifs, 0⟩] sc pos) 0 (.ref it) (.ref s.heap.objs.size) (compEnvC sc cl s3.heap.objs.size X.env)) (RR (.ref s.heap.objs.size) s3.heap.objs.size) s4 := by
    rintro s4 rfl
    refine compLoop_any (fun n s' => ∃ i ys σ' H', Inv (cxComp X sc cl s3.heap.objs.size (x :: zs) s3 (upd H s.heap.objs.size (.lst [])) fp) [] σ' H' s' ∧ tn i s'.heap ∧ (∀ b ∈ fp, H' b = none) ∧ W i n ys σ' H') ?_ m0
      ⟨0, [], emb ix σ, _, J0, st3, fun b hb => (f3 b hb).1.1, w0⟩
    rintro n s5 ⟨i, ys, σ5, H5, I5, st5, fr5, w5⟩
    rcases turn i n ys σ5 H5 w5 with ⟨stop, qn⟩ | ⟨go, step⟩
    · refine thn (T.done (cxComp X sc cl s3.heap.objs.size (x :: zs) s3 (upd H s.heap.objs.size (.lst [])) fp) rfl rfl rfl hc i [] s5 σ5 H5 _ I5 (fpo fr5) st5 stop) fun r s6 ⟨hr, I6⟩ => ?_
      subst hr
      obtain ⟨m6, hm6, _⟩ := I6.loc
      refine hR _ _ _ _ ⟨s.heap.objs.size, H5, m6, rfl, hm6, ?_, I3.fpOk (Nat.le_refl _) I6.free, qn⟩
      exact I3.call' I6.os I6.base I6.hok I6.bare fun b hb => by
        obtain ⟨⟨f0, f1, f2, f3, f4, f5⟩, _⟩ := f3 b hb
        exact ⟨f3, f1, f4, f5⟩
    · refine thn (T.item (cxComp X sc cl s3.heap.objs.size (x :: zs) s3 (upd H s.heap.objs.size (.lst [])) fp) rfl rfl rfl hc i [] s5 σ5 H5 _ I5 (fpo fr5) st5 go) fun r s6 ⟨u, hr, h6⟩ => ?_
      subst hr
      refine thn h6 fun _ s7 ⟨x7, H7, I7, r7, y7, st7, fr7⟩ => ?_
      have I7' := I7.pinned (fpo fr7) (T.obj _ _ st7)
      refine thn (hg _ s7 σ5 H7 x7 u _ I7' r7 (step x7 H7 y7)) fun _ s8 ⟨σ8, H8, I8, q8⟩ => ?_
      refine thn (hif _ s8 σ8 H8 _ I8 q8) fun b s9 ⟨H9, I9, q9⟩ => ?_
      have again : ∀ {ys' : List V} {σ' : St} {H' : Hp} {m' : Nat} {s' : Shared}, Inv (cxComp X sc cl s3.heap.objs.size (x :: zs) s3 (upd H s.heap.objs.size (.lst [])) fp) ([] ++ pinsAt fp s7.heap) σ' H' s' → W (i + 1) m' ys' σ' H' → m' < n →
          ∃ m, m < n ∧ ∃ i ys σ' H', Inv (cxComp X sc cl s3.heap.objs.size (x :: zs) s3 (upd H s.heap.objs.size (.lst [])) fp) [] σ' H' s' ∧ tn i s'.heap ∧ (∀ b ∈ fp, H' b = none) ∧ W i m ys σ' H' := fun {ys' σ' H' m' s'} Iz wz hm => by
        refine ⟨m', hm, i + 1, ys', σ', H', Iz.unpinned, T.keep _ _ _ st7 fun b hb o e => (Iz.pin (b, o) (List.mem_append_right _ (List.mem_append_right _ (mem_pinsAt hb e)))).1, fun b hb => ?_, wz⟩
        obtain ⟨o, e, d⟩ := T.obj _ _ st7 b hb
        exact (Iz.pin (b, o) (List.mem_append_right _ (List.mem_append_right _ (mem_pinsAt hb e)))).2.1
      cases b with
      | false =>
        rw [if_neg Bool.false_ne_true] at q9 ⊢
        obtain ⟨m', hm, wz⟩ := q9
        exact again I9 wz hm
      | true =>
        rw [if_pos rfl] at q9 ⊢
        refine thn (he _ s9 σ8 H9 _ I9 q9) fun v s10 ⟨y, H10, I10, r10, hl, hz, m', hm, wz⟩ => ?_
        refine thn (mt_append _ s10 σ8 H10 (.ref s.heap.objs.size) [y] (.ref s.heap.objs.size) [v] (fun z H' => z = .non ∧ H' = upd H10 s.heap.objs.size (.lst (ys ++ [y]))) I10 rfl (.cons r10 .nil) ⟨_, ys, y, rfl, rfl, hl, hz, rfl, rfl⟩) fun _ s11 ⟨z, H11, I11, _, _, e11⟩ => ?_
        subst e11
        exact again I11 wz hm
  exact codeAny_compStart_list (loop _ (by subst hS3; rfl)) (T.self _ 0 _ _ _ st3 (loop _ (by subst hS3; rfl)))
theorem comp_closure {sc : Scope} {x : Str} {zs : List Str} {ix : List Nat} (ok : X.Ok) (S : CompScope X sc x zs ix) :
    ∃ cl, closureFor sc X.env = pure cl ∧ (∀ y c, cl.lookup y = some c → X.env.cells.lookup y = some c) ∧ ∀ y, (y, NameKind.free) ∈ sc.names → ∃ c, cl.lookup y = some c := by
  obtain ⟨cl, e, h1, h2⟩ := closure_of X.env sc.names [] (fun y hy hf => ok.has y.1 (S.free y hy hf)) (fun y c h => by simp at h)
  refine ⟨cl, ?_, h1, fun y hy => h2 y (.inr hy)⟩
  unfold closureFor
  simp only
  rw [e]
  rfl
theorem pe_comp {elt tg iter : Expr} {ifs : List Expr} {sc : Scope} {pos : Pos} {x : Str} {zs : List Str} {ix : List Nat} {wi : TI} {g : TG} {tc : TT} {te : TE}
    (hc : X.calm = true) (S : CompScope X sc x zs ix) (hi : PI X tg iter wi)
    (hin : ∀ cl C s H fp, PG (cxComp X sc cl C (x :: zs) s H fp) tg g ∧ PIf (cxComp X sc cl C (x :: zs) s H fp) ifs tc ∧ PE (cxComp X sc cl C (x :: zs) s H fp) elt te)
    (hs : ∀ x, foldedSetIterable iter X.env x = pure x := by intro _; rfl) :
    PE X (.ListComp elt [⟨tg, iter, ifs, 0⟩] sc pos) (tComp ix wi g tc te) := by
  intro pins s σ H Q I h
  obtain ⟨cl, hclos, hcl, hhas⟩ := comp_closure I.ok S
  rw [eval_ListComp]
  refine wpAny_comprehension_free (use := none) rfl hs hclos S.kind S.names (thn (hi pins s σ H _ I h) fun v s1 h1 => thn h1 fun itv s2 h2 => ?_)
  obtain ⟨it, fp, tn, J, H2, e, I2, T, st2, f2, hq⟩ := h2
  subst e
  refine comp_block (RR := fun acc C => compPost (model X.prog X.w) X.A X.xe none (EP X pins σ Q) acc C) hc S I2 hcl hhas T st2 f2 (fun C s H => hin cl C s H fp) hq fun acc C f s' h => ?_
  obtain ⟨p, H', m, rfl, hm, I', ⟨g0, g1, g2, g3, g4, g5⟩, q⟩ := h
  exact ⟨m, hm, fun h' hb => ⟨.ref p, H', I'.turned (t' := s'.toks) (fun b o hne e => (hb.2 b hne).trans e) g0 g1 g3 g4 g5, rfl, q⟩⟩
theorem ps_comp {elt tg iter : Expr} {ifs : List Expr} {sc : Scope} {pos py spos : Pos} {x y : Str} {zs : List Str} {ix : List Nat} {wi : TI} {g : TG} {tc : TT} {te : TE} {j : Nat}
    (hc : X.calm = true) (S : CompScope X sc x zs ix) (hi : PI X tg iter wi)
    (hin : ∀ cl C s H fp, PG (cxComp X sc cl C (x :: zs) s H fp) tg g ∧ PIf (cxComp X sc cl C (x :: zs) s H fp) ifs tc ∧ PE (cxComp X sc cl C (x :: zs) s H fp) elt te)
    (hN : X.N.Nodup) (hj : X.N[j]? = some y) (hy : Loc X.env.scope y)
    (hsw : swapsWith (.ListComp elt [⟨tg, iter, ifs, 0⟩] sc pos) (some (.Name y py)) spos.line X.env = pure true := by rfl)
    (hf : X.fn y = true ∨ X.env.scope.names.lookup y = some .local := by first | exact .inl rfl | exact .inr rfl | assumption)
    (hs : ∀ x, foldedSetIterable iter X.env x = pure x := by intro _; rfl) :
    PS X (.Assign [.Name y py] (.ListComp elt [⟨tg, iter, ifs, 0⟩] sc pos) spos) (tAsg (tComp ix wi g tc te) (gName j)) := by
  intro pins s σ H D I h
  obtain ⟨cl, hclos, hcl, hhas⟩ := comp_closure I.ok S
  rw [exec_Assign_Name_used _ _ _ _ hsw]
  refine wpAny_bind (wpAny_standAt (wpAny_bind ?_))
  show wpAny _ X.A (do let _ ← comprehension (.ListComp elt [⟨tg, iter, ifs, 0⟩] sc pos) sc X.env _ (newList []) false (eval iter X.env) (some (assign (.Name y py) X.env))) _ _ s
  refine wpAny_bind (wpAny_mono (wpAny_comprehension_free (use := some (assign (.Name y py) X.env)) (Q := fun _ s' => SP X pins D .next s') rfl hs hclos S.kind S.names
    (thn (hi pins s σ H _ I h) fun v s1 h1 => thn h1 fun itv s2 h2 => ?_)) (fun _ s' hq => wpAny_pure (wpAny_pure hq)) fun _ _ e => e)
  obtain ⟨it, fp, tn, J, H2, e, I2, T, st2, f2, hq⟩ := h2
  subst e
  refine comp_block (Q := fun x H1 => gName j x σ H1 D.nx) (RR := fun acc C => compPost (model X.prog X.w) X.A X.xe (some (assign (.Name y py) X.env)) (fun _ s' => SP X pins D .next s') acc C) hc S I2 hcl hhas T st2 f2 (fun C s H => hin cl C s H fp) hq fun acc C f s' h => ?_
  obtain ⟨p, H', m, rfl, hm, I', ⟨g0, g1, g2, g3, g4, g5⟩, q⟩ := h
  show wpAny _ X.A (assign (.Name y py) X.env (.ref p)) _ _ _
  refine wpAny_assign_Name (store_ok2 I' hN hj hy (show RelV (.ref p) (.ref p) from rfl) (fun s'' I'' ⟨c, hsb, hcc⟩ => ?_) hf)
  have hne : C ≠ c := by
    rcases hcc with z | z
    · rw [z]; exact g1
    · exact Ne.symm (g4 _ _ z)
  exact ⟨m, hm.sameBut hsb hne, fun h' hb => ⟨_, H', I''.turned (t' := s''.toks) (fun b o hne e => (hb.2 b hne).trans e) g0 g1 g3 g4 g5, q⟩⟩
end
end L2
namespace L2
open PySem PySem.Spec PyProof.Rows
def CXX (P : Program) (w : World) : CXT := fun outer H s E e s' =>
  ∃ (ea : Addr) (cls a0 : Value) (H' : Hp) (B : Heap), e = .ref ea ∧ s'.os = s.os ∧ AllBare s'.gens ∧ Un (frs outer) [] H H' s.heap s'.heap ∧ HOk P w H' s'.heap ∧
    Heap.FlyingW B outer ea cls a0 s'.heap ∧ (∀ b o, s'.heap.get? b = some o → (H' b ≠ none ∨ ((∃ o', s.heap.get? b = some o') ∧ b ∉ frs outer)) → B.get? b = some o) ∧ E cls none H'
theorem HOk.stays {P : Program} {w : World} {H : Hp} {h h' B : Heap} (ok : HOk P w H h) (hB : ∀ b o, h.get? b = some o → H b ≠ none → B.get? b = some o) (st : B.StaysIn h') : HOk P w H h' := fun a o e =>
  (ok a o e).stay (fun b u hb q => st b u (hB b u q (by
    rcases hb with rfl | hb
    · rw [e]; exact fun z => nomatch z
    · rw [hb]; exact fun z => nomatch z))) (fun _ q => q) fun _ _ q => q
theorem ObjOk.got {P : Program} {w : World} {H : Hp} {h : Heap} {a : Addr} {o : HO} (x : ObjOk P w H h a o) : ∃ ob, h.get? a = some ob := by
  cases o with
  | lst xs => obtain ⟨_, _, _, _, e⟩ := x; exact ⟨_, e⟩
  | tup xs => obtain ⟨_, _, _, p⟩ := x; obtain ⟨ob, e, _⟩ := p; exact ⟨ob, e⟩
  | dK kvs => obtain ⟨_, _, _, _, o, _, _, e, _⟩ := x; exact ⟨o, e⟩
  | dT kvs => obtain ⟨_, _, _, _, o, _, _, e, _⟩ := x; exact ⟨o, e⟩
  | set S n => obtain ⟨o, _, _, _, e, _⟩ := x; exact ⟨o, e⟩
  | ins C dx fs => obtain ⟨_, _, _, e, _⟩ := x; exact ⟨_, e⟩
  | own y => exact x
  | xd fs => obtain ⟨_, ⟨o, _, _, e, _⟩, _⟩ := x; exact ⟨o, e⟩
  | rng lo hi => obtain ⟨_, _, _, e⟩ := x; exact ⟨_, e⟩
  | frz ob u => obtain ⟨e, _⟩ := x; exact ⟨ob, e⟩
  | tbl ps => exact ⟨_, (show h.get? a = some _ from x)⟩
  | met f y => exact ⟨_, (show h.get? a = some _ from x)⟩
  | ext φ => obtain ⟨_, e, _⟩ := x; exact e
theorem Un.fly {fs : List Addr} {H H' : Hp} {h h1 h2 B : Heap} (u : Un fs [] H H' h h1) (hB : ∀ b o, h1.get? b = some o → (H' b ≠ none ∨ ((∃ o', h.get? b = some o') ∧ b ∉ fs)) → B.get? b = some o)
    (st : B.StaysIn h2) (sl : h1.UpToSlots h2) (hf : ∀ b ∈ fs, ∀ o, h.get? b = some o → ∀ vs, o.data ≠ .fields vs) (hfn : ∀ b ∈ fs, H b = none) : Un fs [] H H' h h2 where
  keep := fun b o e n hb hx => st b o (hB b o (u.keep b o e n hb hx) (.inr ⟨⟨_, e⟩, hb⟩))
  slot := fun b o e n hb hx => by
    obtain ⟨s1, e1⟩ := u.slot b o e n hb hx
    obtain ⟨s2, e2⟩ := sl b _ e1 (hf b hb o e)
    exact ⟨s2, e2⟩
  free := u.free
  there := fun b o e hx => by
    by_cases hb : b ∈ fs
    · obtain ⟨s1, e1⟩ := u.slot b o e (hfn b hb) hb hx
      obtain ⟨s2, e2⟩ := sl b _ e1 (hf b hb o e)
      exact ⟨_, e2⟩
    · obtain ⟨o', e1⟩ := u.there b o e hx
      exact ⟨o', st b o' (hB b o' e1 (.inr ⟨⟨_, e⟩, hb⟩))⟩
  tups := u.tups
  frzs := u.frzs
  tbls := u.tbls
section
variable {P : Program} {w : World} {K : PySem.W.Frag} {mg : Str → Option Value} {base : Heap} {N : List Str} {qual : Str} {scope : Scope} {f : Addr} {cd : Value} {A : Around} {outer : List Env} {s₀ : Shared} {H₀ : Hp} {E : XK}
abbrev cxX (P : Program) (w : World) (K : PySem.W.Frag) (mg : Str → Option Value) (base : Heap) (N : List Str) (qual : Str) (scope : Scope) (f : Addr) (cd : Value) (A : Around) (outer : List Env) (s₀ : Shared) (H₀ : Hp) (E : XK) : Cx :=
  cxOf (CXX P w) P w K mg base N qual scope f cd A outer s₀ H₀ E
theorem leave_on {pins : List (Addr × Obj)} {σ : St} {H H' : Hp} {s s' : Shared} {ea : Addr} {cls a0 : Value} {B : Heap} (I : Inv (cxX P w K mg base N qual scope f cd A outer s₀ H₀ E) pins σ H s)
    (os : s'.os = s.os) (bare : AllBare s'.gens) (u : Un (frs (cxX P w K mg base N qual scope f cd A outer s₀ H₀ E).stack) [] H H' s.heap s'.heap) (ok : HOk P w H' s'.heap)
    (fl : Heap.FlyingW B (cxX P w K mg base N qual scope f cd A outer s₀ H₀ E).stack ea cls a0 s'.heap)
    (hB : ∀ b o, s'.heap.get? b = some o → (H' b ≠ none ∨ ((∃ o', s.heap.get? b = some o') ∧ b ∉ frs (cxX P w K mg base N qual scope f cd A outer s₀ H₀ E).stack)) → B.get? b = some o) (q : E cls none H') :
    (cxX P w K mg base N qual scope f cd A outer s₀ H₀ E).xe (.ref ea) s' := by
  have hfr : (A.deeper (envOfC qual scope s₀.heap.objs.size f cd)).frames = some (envOfC qual scope s₀.heap.objs.size f cd :: outer) := I.ok.frames
  refine wpAny_leaves_onW (L := s₀.heap.objs.size) hfr rfl fl fun h2 fl2 sl => ?_
  have below : ∀ b o, s₀.heap.get? b = some o → b ∉ frs outer → (∃ o', s.heap.get? b = some o') ∧ b ∉ frs (cxX P w K mg base N qual scope f cd A outer s₀ H₀ E).stack := fun b o e hn =>
    ⟨I.base.there b o e (by intro z; exact absurd (show b ∈ ([] : List Addr) from z) (by simp)), fun z => by
      rcases List.mem_cons.mp (I.stkSub b z) with q | q
      · have hb := Heap.lt_size e
        have q' : b = s₀.heap.objs.size := q
        rw [q'] at hb
        exact Nat.lt_irrefl _ hb
      · exact hn q⟩
  have u2 : Un (frs outer) [] H₀ H' s₀.heap s'.heap := by
    have b0 : Un (frs outer) [] H₀ H s₀.heap s.heap := I.base
    refine ⟨fun b o e n hb hx => ?_, fun b o e n hb hx => ?_, fun b o e n hx => ?_, fun b o e hx => ?_, fun b xs e => u.tups b xs (b0.tups b xs e), fun b o v e => u.frzs b o v (b0.frzs b o v e), fun b ps e => ?_⟩
    · exact u.keep b o (b0.keep b o e n hb hx) (b0.free b o e n hx) (below b o e hb).2 hx
    · obtain ⟨s1, e1⟩ := b0.slot b o e n hb hx
      obtain ⟨s2, e2⟩ := u.any e1 (b0.free b o e n hx) hx
      exact ⟨s2, e2⟩
    · obtain ⟨o', e1⟩ := b0.there b o e hx
      exact u.free b o' e1 (b0.free b o e n hx) hx
    · obtain ⟨o', e1⟩ := b0.there b o e hx
      exact u.there b o' e1 hx
    · obtain ⟨m1, e1⟩ := b0.tbls b ps e
      obtain ⟨m2, e2⟩ := u.tbls b _ e1
      exact ⟨m1 ++ m2, by rw [e2, Array.append_assoc]⟩
  have hB2 : ∀ b o, s'.heap.get? b = some o → (H' b ≠ none ∨ ((∃ o', s₀.heap.get? b = some o') ∧ b ∉ frs outer)) → B.get? b = some o := fun b o e h => hB b o e (h.imp id fun ⟨⟨o', z⟩, hn⟩ => below b o' z hn)
  have ok2 : HOk P w H' h2 := ok.stays (fun b o e n => hB b o e (.inl n)) fl2.1
  refine ⟨ea, cls, a0, H', B, rfl, os.trans I.os, bare, u2.fly hB2 fl2.1 sl (fun b hb o e => ?_) (I.ok.frf), ok2, fl2, fun b o e h => ?_, q⟩
  · obtain ⟨_, o', e', d⟩ := I.ok.funs.mem hb
    have e'' : s₀.heap.get? b = some o' := e'
    rw [e] at e''
    cases e''
    exact d
  · have ex : ∃ o', s'.heap.get? b = some o' := by
      rcases h with h | ⟨h, hn⟩
      · cases q2 : H' b with
        | none => exact absurd q2 h
        | some v => exact (ok b v q2).got
      · obtain ⟨o5, q5⟩ := h
        exact u2.there b o5 q5 (by simp)
    obtain ⟨o', e'⟩ := ex
    have e2 := hB2 b o' e' h
    have e3 := fl2.1 b o' e2
    have e4 : h2.get? b = some o := e
    rw [e3] at e4
    cases e4
    exact e2
theorem pass_on : Passes (CXX P w) (cxX P w K mg base N qual scope f cd A outer s₀ H₀ E) E := by
  intro pins σ H s e s' I h
  obtain ⟨ea, cls, a0, H', B, rfl, os, bare, u, ok, fl, hB, q⟩ := h
  exact leave_on I os bare u ok fl hB q
def tRaise (cls : Value) (E : XK) (t : TA) : TS := fun _ σ H => t σ H fun vs H1 => vs.length ≤ sizeLine ∧ E cls none H1
theorem raise_end {pins : List (Addr × Obj)} {σ : St} {H : Hp} {s : Shared} {h' : Heap} {ea : Addr} {cls : Value} {us : List Value} (I : Inv (cxX P w K mg base N qual scope f cd A outer s₀ H₀ E) pins σ H s)
    (hx : Heap.MadeExcOf s.heap h' ea cls us) (q : E cls none H) : (cxX P w K mg base N qual scope f cd A outer s₀ H₀ E).xe (.ref ea) { s with heap := h' } := by
  have hfr : (A.deeper (envOfC qual scope s₀.heap.objs.size f cd)).frames = some (envOfC qual scope s₀.heap.objs.size f cd :: outer) := I.ok.frames
  have hin : ∀ env ∈ (cxX P w K mg base N qual scope f cd A outer s₀ H₀ E).stack, ∀ b, env.frame = some b → b ∈ frs (cxX P w K mg base N qual scope f cd A outer s₀ H₀ E).stack := fun env he b hb => List.mem_filterMap.mpr ⟨env, he, hb⟩
  have inB : ∀ b o, s.heap.get? b = some o → (H b ≠ none ∨ ((∃ o', s₀.heap.get? b = some o') ∧ b ∉ frs outer)) → (PySem.W.hideAll s.heap (frs (cxX P w K mg base N qual scope f cd A outer s₀ H₀ E).stack)).get? b = some o := fun b o e h =>
    PySem.W.hideAll_get _ e fun z => by
      rcases h with h | ⟨⟨o', e'⟩, hn⟩
      · exact h (I.stkFree b z)
      · rcases List.mem_cons.mp (I.stkSub b z) with q | q
        · have hb := Heap.lt_size e'
          have q' : b = s₀.heap.objs.size := q
          rw [q'] at hb
          exact Nat.lt_irrefl _ hb
        · exact hn q
  refine wpAny_leaves_madeW (base := PySem.W.hideAll s.heap (frs (cxX P w K mg base N qual scope f cd A outer s₀ H₀ E).stack)) (h := s.heap) (L := s₀.heap.objs.size) hfr rfl (fun b o e => PySem.W.of_hideAll _ e) (PySem.W.funFrames_hide I.stack hin) hx fun h3 t fl _ _ sl => ?_
  have sl' : s.heap.UpToSlots h3 := (Heap.UpToSlots.of_keeps hx.keeps).trans sl
  have b0 : Un (frs outer) [] H₀ H s₀.heap s.heap := I.base
  have ok3 : HOk P w H h3 := I.hok.stays (fun b o e n => inB b o e (.inl n)) fl.1
  refine ⟨ea, cls, _, H, _, rfl, I.os, I.bare, b0.fly inB fl.1 sl' (fun b hb o e => ?_) I.ok.frf, ok3, fl, fun b o e h => ?_, q⟩
  · obtain ⟨_, o', e', d⟩ := I.ok.funs.mem hb
    have e'' : s₀.heap.get? b = some o' := e'
    rw [e] at e''
    cases e''
    exact d
  · have ex : ∃ o', s.heap.get? b = some o' := by
      rcases h with h | ⟨⟨o5, q5⟩, _⟩
      · cases q2 : H b with
        | none => exact absurd q2 h
        | some v => exact (I.hok b v q2).got
      · exact b0.there b o5 q5 (by simp)
    obtain ⟨o', e'⟩ := ex
    have e2 := inB b o' e' h
    have e3 := fl.1 b o' e2
    have e4 : h3.get? b = some o := e
    rw [e3] at e4
    cases e4
    exact e2
theorem ps_raise {x : Str} {np cpos pos : Pos} {e₀ : Expr} {rest : List Expr} {t : TA} {C : Addr} {B newId initId : String} {bm : List Value} (O : OwnCls x C bm newId mg base) (FB : ExcBaseFacts B newId initId bm)
    (hg : Gl (cxX P w K mg base N qual scope f cd A outer s₀ H₀ E) x) (ha : PA (cxX P w K mg base N qual scope f cd A outer s₀ H₀ E) (e₀ :: rest) t)
    (he : starEach (e₀ :: rest) (cxX P w K mg base N qual scope f cd A outer s₀ H₀ E).env = (false, eval e₀ (cxX P w K mg base N qual scope f cd A outer s₀ H₀ E).env) :: starEach rest (cxX P w K mg base N qual scope f cd A outer s₀ H₀ E).env := by rfl)
    (hplain : (backTo cpos (starEach rest (cxX P w K mg base N qual scope f cd A outer s₀ H₀ E).env)).any (·.1) = false := by rfl) (hdb : (x == ("__debug__" : Str)) = false := by decide) :
    PS (cxX P w K mg base N qual scope f cd A outer s₀ H₀ E) (.Raise (some (.Call (.Name x np) (e₀ :: rest) [] cpos)) none pos) (tRaise (.ref C) E t) := by
  intro pins s σ H D I h
  obtain ⟨tl, N', nm, q, bs, hdct, sn, sub, ab, col, dd, k0, k1, k2, k3, k5, mN, hC, hN, hni, T⟩ := O.obj
  refine wpAny_Raise_call_subT (C := C) (nm := nm) (q := q) (N := N') (bs := bs) (bm := tl) (hdct := hdct) (sn := sn) (sub := sub) (ab := ab) (col := col) (dd := dd) (k0 := k0) (k1 := k1) (k2 := k2) (k3 := k3) (k5 := k5)
    FB (mN := mN) (T.hasType FB.hasBase) (I.ok.hd rfl) (by rw [he]; show (false || (backTo cpos (starEach rest (cxX P w K mg base N qual scope f cd A outer s₀ H₀ E).env)).any (·.1)) = false; rw [hplain]; rfl) hni (ld_glob I hg O.bound ⟨rfl, ?_⟩ hdb)
  have h' := ha cpos pins s σ H _ I h
  rw [he] at h' ⊢
  refine Calls.evalArgs_plain (thn h' fun us s2 ⟨vs, H2, I2, r, hz, q2⟩ => ⟨rfl, by rw [← r.length]; exact hz, I2.bk _ _ hC, hN.keeps I2.bk, T.keeps I2.bk, fun h3 e hm => raise_end I2 hm q2⟩)
end
end L2
namespace L2
open PySem PySem.Spec PyProof.Rows
mutual
inductive DRel (K : PySem.W.Frag) (H : Hp) : V → PyData → Prop
  | non : DRel K H .non .none
  | bl (b : Bool) : DRel K H (.bl b) (.bool b)
  | int (i : Int) : DRel K H (.int i) (.int i)
  | str (x : Str) : DRel K H (.str x) (.str x)
  | lst {a : Addr} {xs : List V} {ds : List PyData} (h : SqL K H a xs) (r : DRels K H xs ds) : DRel K H (.ref a) (.list ds)
  | tup {a : Addr} {xs : List V} {ds : List PyData} (h : SqT K H a xs) (r : DRels K H xs ds) : DRel K H (.ref a) (.tuple ds)
inductive DRels (K : PySem.W.Frag) (H : Hp) : List V → List PyData → Prop
  | nil : DRels K H [] []
  | cons {x : V} {d : PyData} {xs : List V} {ds : List PyData} (h : DRel K H x d) (r : DRels K H xs ds) : DRels K H (x :: xs) (d :: ds)
end
theorem DRels.ints {K : PySem.W.Frag} {H : Hp} : ∀ ns : List Int, DRels K H (ns.map V.int) (ns.map PyData.int)
  | [] => .nil
  | n :: ns => .cons (.int n) (DRels.ints ns)
section
variable {X : Cx} {pins : List (Addr × Obj)} {σ : St} {H : Hp} {s : Shared}
mutual
theorem DRel.reads (I : Inv X pins σ H s) : ∀ {x : V} {d : PyData} {v : Value}, DRel X.K H x d → RelV x v → ∃ as, Reads s.heap v d as
  | _, _, _, .non, r => by cases (show _ = Value.none from r); exact ⟨_, .none⟩
  | _, _, _, .bl b, r => by cases (show _ = Value.bool b from r); exact ⟨_, .bool b⟩
  | _, _, _, .int i, r => by obtain ⟨t, e⟩ := r; cases e; exact ⟨_, .int i t⟩
  | _, _, _, .str x, r => by obtain ⟨t, e⟩ := r; cases e; exact ⟨_, .str x t⟩
  | _, _, _, .lst (a := a) h rs, r => by
    cases (show _ = Value.ref a from r)
    obtain ⟨its, rv, p, hz⟩ := I.list h
    obtain ⟨o, ho, hc, n, hd⟩ := p.isList
    obtain ⟨as, q⟩ := DRels.reads I rs rv
    exact ⟨_, .list ho hc hd (by simpa using q)⟩
  | _, _, _, .tup (a := a) h rs, r => by
    cases (show _ = Value.ref a from r)
    obtain ⟨its, rv, p, hz⟩ := I.tuple h
    obtain ⟨o, ho, hc, n, hd⟩ := (show s.heap.IsTuple a its.toArray from p)
    obtain ⟨as, q⟩ := DRels.reads I rs rv
    exact ⟨_, .tuple ho hc hd (by simpa using q)⟩
theorem DRels.reads (I : Inv X pins σ H s) : ∀ {xs : List V} {ds : List PyData} {vs : List Value}, DRels X.K H xs ds → Vals xs vs → ∃ as, ReadsAll s.heap vs ds as
  | _, _, _, .nil, .nil => ⟨_, .nil⟩
  | _, _, _, .cons h r, .cons q t => by
    obtain ⟨as, e⟩ := DRel.reads I h q
    obtain ⟨bs, e'⟩ := DRels.reads I r t
    exact ⟨_, .cons e e'⟩
end
end
def rEqD (K : PySem.W.Frag) (neg : Bool) : R2 := fun x y H Q => ∃ dx dy, DRel K H x dx ∧ DRel K H y dy ∧ dx.canLay0 = true ∧ dy.canLay0 = true ∧ dx.depth ≤ 60 ∧ Q (.bl (if neg then !PyData.eqv dx dy else PyData.eqv dx dy)) H
section
variable {X : Cx}
theorem op_eqD (hu : X.A.units + 64 < cLine) : OpR X (compareOp .Eq) (rEqD X.K false) := by
  intro pins s σ H x y v u Q I rx ry h
  obtain ⟨dx, dy, h1, h2, c1, c2, dp, q⟩ := h
  obtain ⟨as, r1⟩ := h1.reads I rx
  obtain ⟨bs, r2⟩ := h2.reads I ry
  exact SeqAt.compareEq_reads r1 r2 c1 c2 (by have : min dx.depth dy.depth ≤ dx.depth := Nat.min_le_left _ _; omega) ⟨.bl _, H, I, rfl, q⟩
theorem op_neD (hu : X.A.units + 64 < cLine) : OpR X (compareOp .NotEq) (rEqD X.K true) := by
  intro pins s σ H x y v u Q I rx ry h
  obtain ⟨dx, dy, h1, h2, c1, c2, dp, q⟩ := h
  obtain ⟨as, r1⟩ := h1.reads I rx
  obtain ⟨bs, r2⟩ := h2.reads I ry
  exact SeqAt.compareNe_reads r1 r2 c1 c2 (by have : min dx.depth dy.depth ≤ dx.depth := Nat.min_le_left _ _; omega) ⟨.bl _, H, I, rfl, q⟩
end
end L2
namespace L2
open PySem PySem.Spec PyProof.Rows
section
variable {prog : Program} {w : World} {A : Around} {E : Value → Shared → Prop}
variable {s : Shared}
end
section
variable {X : Cx} {pos : Pos}
end
end L2
namespace L2
open PySem PySem.Spec PyProof.Rows
section
variable {P : Program} {w : World} {K : PySem.W.Frag} {mg : Str → Option Value} {base : Heap}
theorem Fun.okX {x qual : Str} {st : Stmt} {f : Addr} {fd : FuncData} {N ps : List Str} {k : Nat} {sp : Sp} (F : Fun K x qual st f fd) (S : FnScope N ps (defScope st)) (len : ∀ vs H Q E, sp vs H Q E → vs.length = ps.length)
    (hbody : ∀ (cdv : Value) (A : Around) (outer : List Env) (s : Shared) (H : Hp) (vs : List V) (Q : VK) (E : XK), Room k (A.deeper (envOfC qual (defScope st) s.heap.objs.size f cdv)) → sp vs H Q E →
      ∃ t, PSs (cxX P w K mg base N qual (defScope st) f cdv A outer s H E) (defBody st) t ∧ t { nx := fun _ H' => Q .non H', rt := Q } (start N vs) H) : FnOk P w K mg base (CXX P w) (k + 1) f fd ps sp := by
  obtain ⟨oc, od, kV, doc, pm, an, cdv, ct, osl, rfl, lk, hcd⟩ := F.ex
  exact fn_of lk hcd S len fun A outer s H vs Q E hr hsp => hbody cdv A outer s H vs Q E hr hsp
theorem passX0 {X : Cx} : Passes (CXX X.prog X.w) X E0 := by
  intro pins σ H s e s' I h
  obtain ⟨ea, cls, a0, H', B, _, _, _, _, _, _, _, z⟩ := h
  exact z.elim
end
section
variable {X : Cx}
def rOr (r r' : R2) : R2 := fun x y H Q => r x y H Q ∨ r' x y H Q
def rAddS : R2 := fun x y H Q => ∃ i j, x = .str i ∧ y = .str j ∧ i.length + j.length ≤ sizeLine ∧ Q (.str (i ++ j)) H
def rAddI : R2 := rI0 fun i j => .int (i + j)
def rMulI : R2 := rI (fun i j => IntMulOk i j) fun i j => .int (i * j)
theorem op_addU : OpR X (binaryOp .Add) (rOr rAddI (rOr rAddS (rOr rCat (rCatT X.K)))) := op_add.or (op_add_str.or (op_cat.or op_catT))
theorem op_mulU : OpR X (binaryOp .Mult) (rOr rMulI rRep) := op_mulG.or op_rep
theorem op_eqU (hu : X.A.units + 64 < cLine) : OpR X (compareOp .Eq) (rOr rEq (rEqD X.K false)) := op_eq.or (op_eqD hu)
theorem op_neU (hu : X.A.units + 64 < cLine) : OpR X (compareOp .NotEq) (rOr rNe (rEqD X.K true)) := op_ne.or (op_neD hu)
end
namespace Rd
section
variable {σ : St} {H : Hp} {Q : VK} {D : Ends} {K : PySem.W.Frag} {r' : R2}
theorem addI {i j : Int} (q : Q (.int (i + j)) H) : rOr rAddI r' (.int i) (.int j) H Q := .inl ⟨i, j, rfl, rfl, q⟩
theorem addS {r1 : R2} {i j : Str} (hl : i.length + j.length ≤ sizeLine) (q : Q (.str (i ++ j)) H) : rOr r1 (rOr rAddS r') (.str i) (.str j) H Q := .inr (.inl ⟨i, j, rfl, rfl, hl, q⟩)
theorem addL {r1 r2 : R2} {a b : Addr} {xs ys : List V} (ha : H a = some (.lst xs)) (hb : H b = some (.lst ys)) (hl : xs.length + ys.length ≤ sizeLine) (q : ∀ p, H p = none → Q (.ref p) (upd H p (.lst (xs ++ ys)))) :
    rOr r1 (rOr r2 (rOr rCat r')) (.ref a) (.ref b) H Q := .inr (.inr (.inl ⟨a, b, xs, ys, rfl, rfl, ha, hb, hl, q⟩))
theorem mulI {i j : Int} (c : IntMulOk i j) (q : Q (.int (i * j)) H) : rOr rMulI r' (.int i) (.int j) H Q := .inl ⟨i, j, rfl, rfl, c, q⟩
theorem eqUI {i j : Int} (q : Q (.bl (decide (i = j))) H) : rOr rEq r' (.int i) (.int j) H Q := .inl (eqI q)
theorem neUI {i j : Int} (q : Q (.bl (!decide (i = j))) H) : rOr rNe r' (.int i) (.int j) H Q := .inl (neI q)
theorem eqUD {x y : V} {dx dy : PyData} (hx : DRel K H x dx) (hy : DRel K H y dy) (cx : dx.canLay0 = true) (cy : dy.canLay0 = true) (dp : dx.depth ≤ 60) (q : Q (.bl (PyData.eqv dx dy)) H) : rOr rEq (rEqD K false) x y H Q :=
  .inr ⟨dx, dy, hx, hy, cx, cy, dp, q⟩
theorem neUD {x y : V} {dx dy : PyData} (hx : DRel K H x dx) (hy : DRel K H y dy) (cx : dx.canLay0 = true) (cy : dy.canLay0 = true) (dp : dx.depth ≤ 60) (q : Q (.bl (!PyData.eqv dx dy)) H) : rOr rNe (rEqD K true) x y H Q :=
  .inr ⟨dx, dy, hx, hy, cx, cy, dp, q⟩
theorem ixuL {p : Addr} {xs : List V} {i : Int} {v : V} (h : SqL K H p xs) (e : atI xs i = some v) (q : Q v H) : rIx K (.ref p) (.int i) H Q := .inl (ixl h e q)
theorem ixuT {p : Addr} {xs : List V} {i : Int} {v : V} (h : SqT K H p xs) (e : atI xs i = some v) (q : Q v H) : rIx K (.ref p) (.int i) H Q := .inr (.inl (ixt h e q))
theorem lenL {C : Nat → Prop} {p : Addr} {xs : List V} (h : SqL K H p xs) (q : C xs.length) : ∃ x n, [V.ref p] = [x] ∧ LenV K x H n ∧ C n := ⟨_, _, rfl, .inl ⟨xs, h, rfl⟩, q⟩
theorem lenS {C : Nat → Prop} {y : Str} (h : y.length ≤ sizeLine) (q : C y.length) : ∃ x n, [V.str y] = [x] ∧ LenV K x H n ∧ C n := ⟨_, _, rfl, ⟨h, rfl⟩, q⟩
theorem nameS {i : Nat} {v : V} {σ' : St} {Q : St → Hp → Prop} (e : σ.set i (some v) = σ') (h : Q σ' H) : gName i v σ H Q := by
  subst e
  exact h
theorem ifP {c A B : Prop} [Decidable c] (h : c) (a : A) : if decide c = true then A else B := by rw [decide_eq_true h]; exact iteT a
theorem ifN {c A B : Prop} [Decidable c] (h : ¬ c) (b : B) : if decide c = true then A else B := by rw [decide_eq_false h]; exact iteF b
theorem ifNP {c A B : Prop} [Decidable c] (h : c) (b : B) : if (!decide c) = true then A else B := by rw [decide_eq_true h]; exact iteF b
theorem ifNN {c A B : Prop} [Decidable c] (h : ¬ c) (a : A) : if (!decide c) = true then A else B := by rw [decide_eq_false h]; exact iteT a
theorem truB {b : Bool} {C : Bool → Prop} (q : C b) : ∃ k, TruV K (.bl b) H k ∧ C k := ⟨b, rfl, q⟩
end
end Rd
end L2
namespace L2
open PySem PySem.Spec PyProof.Rows
namespace Rd
section
variable {H : Hp} {C : Bool → Prop} {K : PySem.W.Frag}
theorem is_int_int {i : Int} (q : C true) : ∃ x n' t b, [V.int i, .ty "int"] = [x, .ty n'] ∧ TyOf K H x t ∧ PySem.W.kitOne K t (.type n') = some b ∧ C b := ⟨_, _, _, true, rfl, .int i, rfl, q⟩
theorem is_int_bool {i : Int} (q : C false) : ∃ x n' t b, [V.int i, .ty "bool"] = [x, .ty n'] ∧ TyOf K H x t ∧ PySem.W.kitOne K t (.type n') = some b ∧ C b := ⟨_, _, _, false, rfl, .int i, rfl, q⟩
theorem is_str_str {i : Str} (q : C true) : ∃ x n' t b, [V.str i, .ty "str"] = [x, .ty n'] ∧ TyOf K H x t ∧ PySem.W.kitOne K t (.type n') = some b ∧ C b := ⟨_, _, _, true, rfl, .str i, rfl, q⟩
theorem is_lst_list {p : Addr} {xs : List V} (h : H p = some (.lst xs)) (q : C true) : ∃ x n' t b, [V.ref p, .ty "list"] = [x, .ty n'] ∧ TyOf K H x t ∧ PySem.W.kitOne K t (.type n') = some b ∧ C b := ⟨_, _, _, true, rfl, .lst h, rfl, q⟩
end
end Rd
end L2
namespace L2
open PySem PySem.Spec PyProof.Rows
def chkComp (scX sc : Scope) (N zs : List Str) (ix : List Nat) : Bool :=
  decide (sc.kind = .function) && (sc.names.all fun y => decide (y.2 ≠ .cell)) && (sc.names.all fun y => decide (y.2 = .local → sc.names.lookup y.1 = some .local)) &&
  (sc.names.all fun y => decide (y.2 = .free → scX.names.lookup y.1 = some .cell ∨ scX.names.lookup y.1 = some .free)) && (zs.all fun z => decide (sc.names.lookup z = some .free)) && decide (ix.map (fun j => N[j]?) = zs.map some)
theorem cscope {X : Cx} {sc : Scope} {x : Str} {zs : List Str} {ix : List Nat} (scX : Scope) (N : List Str) (e1 : X.env.scope = scX) (e2 : X.N = N) (h : chkComp scX sc N zs ix = true) : CompScope X sc x zs ix := by
  unfold chkComp at h
  simp only [Bool.and_eq_true, List.all_eq_true, decide_eq_true_eq] at h
  obtain ⟨⟨⟨⟨⟨h1, h2⟩, h3⟩, h4⟩, h5⟩, h6⟩ := h
  subst e1 e2
  exact ⟨h1, h2, h3, h4, h5, h6⟩
end L2
namespace L2
open PySem PySem.Spec PyProof.Rows
def PassesJ (CX : CXT) (X : Cx) (J : St → Prop) (E : XK) : Prop := ∀ (pins : List (Addr × Obj)) (σ : St) (H : Hp) (s : Shared) (e : Value) (s' : Shared), J σ → Inv X pins σ H s → CX X.stack H s E e s' → X.xe e s'
def tCallJ (J : St → Prop) (sp : Sp) (dvs : List V) (E : XK) (t : TA) : TE := fun σ H Q => J σ ∧ t σ H fun vs H1 => sp (vs ++ dvs) H1 Q E
section
variable {X : Cx} {CX : CXT} {k : Nat} {f C : Addr} {fd : FuncData} {ps : List Str} {sp : Sp} {dvs : List V} {ds : List Value} {E : XK} {J : St → Prop} {x m : Str} {p pos apos : Pos} {e o : Expr} {es : List Expr} {ta : TE} {t : TA}
def PassAt (CX : CXT) (X : Cx) (σ : St) (E : XK) : Prop := ∀ (pins : List (Addr × Obj)) (H : Hp) (s : Shared) (e : Value) (s' : Shared), Inv X pins σ H s → CX X.stack H s E e s' → X.xe e s'
theorem runJ {pins : List (Addr × Obj)} {σ : St} {H : Hp} {s : Shared} {Q : VK} {us : List Value} {vs : List V} (F : FnOk X.prog X.w X.K X.mg X.base CX k f fd ps sp) (hr : Room k X.A) (hb : Binds X.K fd ps ds) (hd : Vals dvs ds) (hx : PassAt CX X σ E)
    (I : Inv X pins σ H s) (r : Vals vs us) (h : sp (vs ++ dvs) H Q E) : wpAny (model X.prog X.w) X.A (call (.ref f) us) (EP X pins σ Q) X.xe s := by
  have r2 : Vals (vs ++ dvs) (us ++ ds) := r.append hd
  have hl : (us ++ ds).length = ps.length := by rw [← r2.length]; exact F.len _ _ _ _ h
  refine wpAny_call (codeAny_mono (F.run X.A X.stack s H ⟨us, []⟩ (us ++ ds) (vs ++ dvs) Q E hr I.env0 (hb s us I.kIn hl) r2 h) fun r s' hq => ?_)
  cases r with
  | error e => exact hx pins H s e s' I hq
  | ok fl =>
    cases fl with
    | ret u => exact I.after hq
    | next => exact False.elim hq
    | brk => exact False.elim hq
    | cont => exact False.elim hq
theorem pe_callJ (F : FnOk X.prog X.w X.K X.mg X.base CX k f fd ps sp) (hr : Room k X.A) (hg : Gl X x) (hm : X.mg x = some (.ref f)) (hk : PySem.W.keepIn X.K (.ref f) = true) (hb : Binds X.K fd ps ds) (hd : Vals dvs ds) (hx : PassesJ CX X J E)
    (ha : PA X (e :: es) t) (hdb : (x == ("__debug__" : Str)) = false := by decide) (he : starEach (e :: es) X.env = (false, eval e X.env) :: starEach es X.env := by rfl) (hpl : (backTo pos (starEach es X.env)).any (·.1) = false := by rfl) :
    PE X (.Call (.Name x p) (e :: es) [] pos) (tCallJ J sp dvs E t) := by
  intro pins s σ H Q I h
  obtain ⟨hJ, h⟩ := h
  refine wpAny_Call_Name_kw (ld_glob I hg hm ?_ hdb)
  refine PySem.W.callWith_K (h₀ := X.base) I.ok.mod.kin hk (thn (ha pos pins s σ H _ I h) fun us s1 ⟨vs, H1, I1, r, q⟩ => ⟨I1.kIn, ?_⟩) he hpl
  exact runJ F hr hb hd (fun pins H s e s' => hx pins σ H s e s' hJ) I1 r q
def PTry (X : Cx) (body : List Stmt) (tb : (St → Prop) → XK → TS) : Prop := ∀ (J : St → Prop) (E1 : XK) (pn : List (Addr × Obj)) (xe1 : Value → Shared → Prop), PassesOwn (model X.prog X.w) X.A X.env xe1 →
  PassesJ (CXX X.prog X.w) { X with pn := pn, xe := xe1 } J E1 → PSs { X with pn := pn, xe := xe1 } body (tb J E1)
def PSuite (X : Cx) (suite : List Stmt) (th : TS) : Prop := ∀ (A' : Around), PSs { X with A := A', calm := false, xe := fun _ _ => False } suite th
end
end L2
namespace L2
open PySem PySem.Spec PyProof.Rows
section
variable {K : PySem.W.Frag} {H : Hp}
theorem DRel.ints {p : Addr} {ns : List Int} (h : SqL K H p (ns.map V.int)) : DRel K H (.ref p) (.list (ns.map PyData.int)) := .lst h (DRels.ints ns)
namespace Rd
variable {Q : VK}
end Rd
end
end L2
namespace L2
open PySem PySem.Spec PyProof.Rows
structure Walks (J : It) (n : Nat) (f : Nat → V) (H : Hp) : Prop where
  go : ∀ H' i, Same H H' → i < n → J.go i H'
  yld : ∀ H' i x H2, Same H H' → i < n → J.yld i H' x H2 → H2 = H' ∧ x = f i
  stop : ∀ H', Same H H' → J.stop n H'
theorem walks_rng {lo : Int} {n : Nat} {H : Hp} : Walks (Itr lo n) n (fun i => .int (lo + i)) H := ⟨fun _ _ _ h => h, fun _ _ _ _ _ _ h => h, fun _ _ => Nat.le_refl _⟩
theorem walks_lst {K : PySem.W.Frag} {a : Addr} {xs : List V} {H : Hp} (h : SqL K H a xs) : Walks (Itl K a) xs.length (fun i => xs.getD i .non) H :=
  ⟨fun H' i e hi => ⟨xs, xs[i], e.seq h, by simp [hi]⟩, fun H' i x H2 e hi y => ⟨y.1, by
    have := y.2 xs (e.seq h)
    simp [List.getD, this]⟩, fun H' e => ⟨xs, e.seq h, Nat.le_refl _⟩⟩
theorem for_walk {J : It} {n : Nat} {f : Nat → V} {H0 : Hp} (w : Walks J n f H0) {g : TG} {tb : TS} {D : Ends} {σ : St} {H : Hp} (Pv : Nat → St → Hp → Prop) (h0 : Pv 0 σ H) (hk : ∀ i σ H, Pv i σ H → Same H0 H)
    (hs : ∀ i σ H, i < n → Pv i σ H → g (f i) σ H fun σ2 H2 => tb { D with nx := Pv (i + 1), ct := Pv (i + 1), bk := D.nx } σ2 H2) (hd : ∀ σ H, Pv n σ H → D.nx σ H) :
    ∃ W : Nat → Nat → St → Hp → Prop, (∃ m, W 0 m σ H) ∧ ∀ i m σ H, W i m σ H →
      (J.stop i H ∧ D.nx σ H) ∨ (J.go i H ∧ ∃ N : St → Hp → Prop, (∀ σ' H', N σ' H' → ∃ m', m' < m ∧ W (i + 1) m' σ' H') ∧ ∀ x H', J.yld i H x H' → g x σ H' fun σ2 H2 => tb { D with nx := N, ct := N, bk := D.nx } σ2 H2) := by
  refine ⟨fun i m σ H => m = n - i ∧ i ≤ n ∧ Pv i σ H, ⟨n, by simp, Nat.zero_le _, h0⟩, ?_⟩
  rintro i m σ H ⟨rfl, hi, p⟩
  have sm := hk i σ H p
  by_cases hlt : i < n
  · refine .inr ⟨w.go H i sm hlt, Pv (i + 1), fun σ' H' p' => ⟨n - (i + 1), by omega, rfl, hlt, p'⟩, fun x H' y => ?_⟩
    obtain ⟨rfl, rfl⟩ := w.yld H i x H' sm hlt y
    exact hs i σ _ hlt p
  · have e : i = n := by omega
    subst e
    exact .inl ⟨w.stop H sm, hd σ H p⟩
theorem comp_walk {ix : List Nat} {tc : TT} {te : TE} {Q : Addr → Hp → Prop} {σ : St} {H : Hp} {J : It} {n : Nat} {f : Nat → V} (w : Walks J n f H) (hn : n < sizeLine) (c : Nat → Bool) (r : Nat → V)
    (hc : ∀ i H' (Kc : Bool → Hp → Prop), i < n → Same H H' → (∀ H4, Same H' H4 → Kc (c i) H4) → tc (some (f i) :: ix.map fun j => (σ[j]?).join) H' Kc)
    (he : ∀ i H' (Kc : VK), i < n → c i = true → Same H H' → (∀ H5, Same H' H5 → Kc (r i) H5) → te (some (f i) :: ix.map fun j => (σ[j]?).join) H' Kc)
    (q : ∀ p H', H p = none → Same H H' → H' p = some (.lst (((List.range n).filter c).map r)) → Q p H') :
    ∀ p, H p = none → ∃ W : Nat → Nat → List V → St → Hp → Prop, (∃ m, W 0 m [] (emb ix σ) (upd H p (.lst []))) ∧ ∀ i m ys σ' H', W i m ys σ' H' →
      (J.stop i H' ∧ Q p H') ∨ (J.go i H' ∧ ∀ x H2, J.yld i H' x H2 → gName 0 x σ' H2 fun σ2 H3 => tc σ2 H3 fun b H4 =>
        if b = true then te σ2 H4 fun v H5 => H5 p = some (.lst ys) ∧ ys.length < sizeLine ∧ ∃ m', m' < m ∧ W (i + 1) m' (ys ++ [v]) σ2 (upd H5 p (.lst (ys ++ [v])))
        else ∃ m', m' < m ∧ W (i + 1) m' ys σ2 H4) := by
  intro p hp
  refine ⟨fun i m ys σ' H' => m = n - i ∧ i ≤ n ∧ (∃ a, σ' = a :: ix.map fun j => (σ[j]?).join) ∧ Same H H' ∧ H' p = some (.lst ys) ∧ ys = ((List.range i).filter c).map r,
    ⟨n, by simp, Nat.zero_le _, ⟨none, rfl⟩, same_new hp, upd_same, rfl⟩, ?_⟩
  rintro i m ys σ' H' ⟨rfl, hi, ⟨a, rfl⟩, sm, hy, hl⟩
  by_cases hlt : i < n
  · refine .inr ⟨w.go H' i sm hlt, fun x H2 y => ?_⟩
    obtain ⟨rfl, rfl⟩ := w.yld H' i x H2 sm hlt y
    show tc ((a :: ix.map fun j => (σ[j]?).join).set 0 (some (f i))) H2 _
    have hlen : ys.length ≤ i := by
      rw [hl, List.length_map]
      exact Nat.le_trans (List.length_filter_le _ _) (by simp)
    refine hc i H2 _ hlt sm fun H4 s4 => ?_
    have sm4 := sm.trans s4
    have hy4 := s4 _ _ hy
    have step : (List.range (i + 1)).filter c = (List.range i).filter c ++ (if c i = true then [i] else []) := by
      rw [List.range_succ, List.filter_append]
      congr 1
      by_cases h : c i = true <;> simp [h]
    by_cases hci : c i = true
    · rw [hci, if_pos rfl]
      refine he i H4 _ hlt hci sm4 fun H5 s5 => ⟨s5 _ _ hy4, by omega, n - (i + 1), by omega, rfl, hlt, ⟨_, rfl⟩, (sm4.trans s5).new hp, upd_same, ?_⟩
      rw [step, if_pos hci, List.map_append, hl]
      rfl
    · have hcf : c i = false := by simpa using hci
      rw [hcf, if_neg Bool.false_ne_true]
      refine ⟨n - (i + 1), by omega, rfl, hlt, ⟨_, rfl⟩, sm4, hy4, ?_⟩
      rw [step, if_neg hci, List.append_nil, hl]
  · have e : i = n := by omega
    subst e
    exact .inl ⟨w.stop H' sm, q p H' hp sm (by rw [← hl]; exact hy)⟩
end L2
namespace L2
open PySem PySem.Spec PyProof.Rows
structure Frame (A : List Addr) (H H' : Hp) : Prop where
  keep : ∀ b o, H b = some o → b ∉ A → H' b = some o
  tups : ∀ b xs, H b = some (.tup xs) → H' b = some (.tup xs)
theorem Same.frame {A : List Addr} {H H' : Hp} (e : Same H H') : Frame A H H' := ⟨fun b o h _ => e b o h, fun b xs h => e b _ h⟩
theorem Frame.trans {A : List Addr} {H H1 H2 : Hp} (a : Frame A H H1) (b : Frame A H1 H2) : Frame A H H2 := ⟨fun c o h n => b.keep c o (a.keep c o h n) n, fun c xs h => b.tups c xs (a.tups c xs h)⟩
theorem Frame.mono {A B : List Addr} {H H' : Hp} (a : Frame A H H') (h : ∀ x ∈ A, x ∈ B) : Frame B H H' := ⟨fun c o e n => a.keep c o e fun z => n (h c z), a.tups⟩
theorem frame_upd {A : List Addr} {H : Hp} {p : Addr} {o o' : HO} (hp : p ∈ A) (h : H p = some o) (ht : ∀ xs, o ≠ .tup xs) : Frame A H (upd H p o') := by
  refine ⟨fun b u e n => ?_, fun b xs e => ?_⟩
  · have z : b ≠ p := fun z => n (by rw [z]; exact hp)
    rw [upd_ne z]
    exact e
  · have z : b ≠ p := fun z => ht xs (by rw [z, h] at e; exact Option.some.inj e)
    rw [upd_ne z]
    exact e
def Grows (A A' : List Addr) (H : Hp) : Prop := ∀ a ∈ A', a ∈ A ∨ H a = none
theorem Grows.refl {A : List Addr} {H : Hp} : Grows A A H := fun _ h => .inl h
section
variable {K : PySem.W.Frag} {H H' : Hp} {A A' : List Addr}
namespace Rd
variable {Q : VK}
end Rd
end
end L2
namespace L2
open PySem PySem.Spec PyProof.Rows
def Its (x : Str) : It := ⟨fun i _ => i < x.cps.size, fun i H v H' => H' = H ∧ ∃ c, x.cps[i]? = some c ∧ v = .str ⟨#[c]⟩, fun i _ => x.cps.size ≤ i⟩
theorem turn_str {P : Program} {w : World} {K : PySem.W.Frag} {tg : Expr} (it : Addr) (x : Str) (t : Tok) (ty : String) (hty : ty = "str_ascii_iterator" ∨ ty = "str_iterator") : Turn P w K tg (Its x) [it] it (fun i h => h.IsStrIter it ty x t i) where
  mem := by simp
  obj := fun i h st b hb => by
    have e : b = it := by simpa using hb
    subst e
    obtain ⟨o, e, c, d⟩ := st
    exact ⟨o, e, fun v z => by rw [d] at z; cases z⟩
  keep := fun i h h' st k => let ⟨o, ho, r⟩ := st; ⟨o, k it (by simp) o ho, r⟩
  item := by
    intro X hP hw hK hc i pins s σ H E I hf st hg
    subst hP hw hK
    obtain ⟨f0, f1, f2, f3, f4, f5⟩ := hf it (by simp)
    have hi : i < x.cps.size := hg
    have fin : ∀ h' : Heap, h'.IsStrIter it ty x t (i + 1) → Heap.SameBut it s.heap h' → ∃ u, some (Value.str ⟨#[x.cps[i]]⟩ s.toks) = some u ∧
        wpAny (model X.prog X.w) X.A (letOwnedTupleGo tg (.ref it) u) (fun _ s2 => ∃ y H', Inv X pins σ H' s2 ∧ RelV y u ∧ (Its x).yld i H y H' ∧ s2.heap.IsStrIter it ty x t (i + 1) ∧ ∀ b ∈ [it], H' b = none) E { s with heap := h', toks := s.toks + 1 } := fun h' st' sb => by
      have I1 : Inv X pins σ H { s with heap := h', toks := s.toks + 1 } := I.turned (t' := s.toks + 1) (fun b o hb e => (sb.2 b hb).trans e) f0 f1 f3 f4 f5
      obtain ⟨o, e, c, d⟩ := id st'
      refine ⟨_, rfl, go_of (s := { s with heap := h', toks := s.toks + 1 }) e c d (by rcases hty with rfl | rfl <;> decide) ⟨.str ⟨#[x.cps[i]]⟩, H, I1, ⟨_, rfl⟩, ⟨rfl, x.cps[i], by simp [hi], rfl⟩, st', fun b hb => (hf b hb).1⟩⟩
    rcases hty with rfl | rfl
    · exact wpAny_pyNext_ascii_item st (c := x.cps[i]) (by simp [hi]) fin
    · exact wpAny_pyNext_wide_item st (c := x.cps[i]) (by simp [hi]) fin
  done := by
    intro X hP hw hK hc i pins s σ H E I hf st hg
    subst hP hw hK
    obtain ⟨f0, f1, f2, f3, f4, f5⟩ := hf it (by simp)
    have hi : x.cps.size ≤ i := hg
    rcases hty with rfl | rfl
    · exact wpAny_pyNext_ascii_end (I.ok.hd hc) st (by simp [hi]) fun h' eb => ⟨rfl, I.turned (t' := s.toks) (fun b o hb e => eb b o hb e) f0 f1 f3 f4 f5⟩
    · exact wpAny_pyNext_wide_end (I.ok.hd hc) st (by simp [hi]) fun h' eb => ⟨rfl, I.turned (t' := s.toks) (fun b o hb e => eb b o hb e) f0 f1 f3 f4 f5⟩
  self := fun _ _ _ _ _ st h => by
    rcases hty with rfl | rfl
    · exact wpAny_pyIter_striter_ascii st h
    · exact wpAny_pyIter_striter_wide st h
section
variable {X : Cx} {tg : Expr}
def iStr (tl : TE) : TI := fun σ H R => tl σ H fun x H1 => ∃ y, x = .str y ∧ R (Its y) H1
theorem pi_str {l : Expr} {tl : TE} (hl : PE X l tl) : PI X tg l (iStr tl) := by
  intro pins s σ H R I h
  refine thn (hl pins s σ H _ I h) fun v s1 ⟨x, H1, I1, r1, q1⟩ => ?_
  obtain ⟨y, e, q⟩ := q1
  subst e
  obtain ⟨t, rfl⟩ := r1
  have fin : ∀ ty : String, (ty = "str_ascii_iterator" ∨ ty = "str_iterator") → PIE X pins σ tg R (.ref s1.heap.objs.size) { s1 with heap := s1.heap.push { cls := .type ty, data := .fields #[.str y t, .int 0 0] } } := fun ty hty => by
    refine ⟨s1.heap.objs.size, [s1.heap.objs.size], _, _, H1, rfl, I1.kept (t' := s1.toks) fun b o e => Heap.get?_push_of_some _ e, turn_str _ y t ty hty, ⟨_, Heap.get?_push_size _ rfl, rfl, rfl⟩, fun b hb => ?_, q⟩
    have e : b = s1.heap.objs.size := by simpa using hb
    subst e
    exact I1.fpOk (Nat.le_refl _) (I1.hok.fresh (Nat.le_refl _))
  cases ha : y.cps.all (· < 128)
  · exact wpAny_pyIter_wide ha (fin _ (.inr rfl))
  · exact wpAny_pyIter_ascii ha (fin _ (.inl rfl))
theorem walks_str {x : Str} {H : Hp} : Walks (Its x) x.cps.size (fun i => .str ⟨#[x.cps.getD i 0]⟩) H :=
  ⟨fun _ _ _ h => h, fun H' i v H2 _ hi ⟨e, c, hc, hv⟩ => ⟨e, by rw [hv]; simp [Array.getD, hi] at hc ⊢; exact hc.symm⟩, fun _ _ => Nat.le_refl _⟩
def rLeS : R2 := fun x y H Q => ∃ i j, x = .str i ∧ y = .str j ∧ Q (.bl (!decide (j.cps.toList < i.cps.toList))) H
theorem op_le_str : OpR X (compareOp .LtE) rLeS := by
  intro pins s σ H x y v u Q I rx ry h
  obtain ⟨i, j, rfl, rfl, q⟩ := h
  obtain ⟨t, rfl⟩ := rx
  obtain ⟨t', rfl⟩ := ry
  exact PySem.P.le_str ⟨.bl _, H, I, rfl, q⟩
theorem vals_bools {s : Shared} : ∀ {bs : List Bool} {us : List Value}, Vals (bs.map V.bl) us → us = bs.map Value.bool
  | [], _, r => by cases r; rfl
  | b :: bs, _, r => by
    cases r with
    | cons r1 r2 =>
      have e : _ = Value.bool b := r1
      rw [e, vals_bools (s := s) r2]
      rfl
theorem kept_it {s : Shared} {h' : Heap} {o : Obj} (hk : ∀ b x, b ∉ [s.heap.objs.size] → (s.heap.push o).get? b = some x → h'.get? b = some x) : ∀ b x, s.heap.get? b = some x → h'.get? b = some x :=
  fun b x e => hk b x (fun hm => by rw [List.mem_singleton.mp hm] at e; exact Nat.lt_irrefl _ (Heap.lt_size e)) (Heap.get?_push_of_some _ e)
theorem range_all' (bs : List Bool) : ((List.range bs.length).all fun i => (bs[i]?).getD true) = bs.all id := by
  rw [Bool.eq_iff_iff, List.all_eq_true, List.all_eq_true]
  constructor
  · intro h b hb
    obtain ⟨i, hi, rfl⟩ := List.getElem_of_mem hb
    have := h i (List.mem_range.mpr hi)
    simpa [List.getElem?_eq_getElem hi] using this
  · intro h i hi
    have hi' := List.mem_range.mp hi
    simp only [List.getElem?_eq_getElem hi', Option.getD_some]
    exact h _ (List.getElem_mem hi')
theorem call_allB (hc : X.calm = true) : CallR X (.builtin "all") (fun xs H Q => ∃ (p : Addr) (bs : List Bool), xs = [.ref p] ∧ SqL X.K H p (bs.map V.bl) ∧ Q (.bl (bs.all id)) H) := by
  intro pins s σ H xs us Q I r h
  obtain ⟨p, bs, rfl, hq, q⟩ := h
  obtain ⟨u, rfl, rx⟩ := vals1 r
  cases rx
  obtain ⟨its, rv, pl, hz⟩ := I.list hq
  have ev := vals_bools (s := s) rv
  subst ev
  have hl := pl.isList
  have hlt : p < s.heap.objs.size := by obtain ⟨_, e, _⟩ := hl; exact Heap.lt_size e
  refine call_all_walk (wpAny_pyIter_list hl ?_)
  refine ⟨s.heap.objs.size, [s.heap.objs.size, p], [s.heap.objs.size], (bs.map Value.bool).toArray.size, _, _, fun i => (bs[i]?).getD true, rfl, PySem.Walks.list (A := X.A.in1) (I.ok.hd hc) _ p (Nat.ne_of_lt hlt) (bs.map Value.bool).toArray,
    ⟨⟨_, Heap.get?_push_size _ rfl, rfl, rfl⟩, hl.push _⟩, fun i v s' Q' E' hP hQ => ?_, fun h' tk hk => ?_⟩
  · have hP' : (bs.map Value.bool)[i]? = some v := by simpa using hP
    rw [List.getElem?_map] at hP'
    cases e : bs[i]? with
    | none => rw [e] at hP'; cases hP'
    | some b =>
      rw [e] at hP'
      cases hP'
      have hQ' : Q' ((bs[i]?).getD true) s' := hQ
      rw [e] at hQ'
      exact wpAny_truthy_bool hQ'
  · have e : ((List.range (bs.map Value.bool).toArray.size).all fun i => (bs[i]?).getD true) = bs.all id := by
      rw [List.size_toArray, List.length_map]; exact range_all' bs
    rw [e]
    exact ⟨.bl (bs.all id), H, I.kept (kept_it hk), rfl, q⟩
end
end L2
namespace L2
open PySem PySem.Spec PyProof.Rows
structure FunD (K : PySem.W.Frag) (x qual : Str) (st : Stmt) (dT : Addr) (f : Addr) (fd : FuncData) : Prop where
  ex : ∃ (oc : Value) (od : Option Addr) (kV doc pm : Value) (an : Option Addr) (cdv ct : Value) (osl : Array (Option Value)),
    fd = PySem.W.fnOf x qual (defArgs st) (defBody st) (defScope st) (.ref dT) kV doc pm an cdv ct ∧ K.lookup f = some ⟨oc, od, .func fd, osl⟩ ∧ PySem.W.codeIn K cdv qual = true
  kp : PySem.W.keepIn K (.ref f) = true
section
variable {P : Program} {w : World} {K : PySem.W.Frag} {mg : Str → Option Value} {base : Heap}
theorem FunD.okX {x qual : Str} {st : Stmt} {dT f : Addr} {fd : FuncData} {N ps : List Str} {k : Nat} {sp : Sp} (F : FunD K x qual st dT f fd) (S : FnScope N ps (defScope st)) (len : ∀ vs H Q E, sp vs H Q E → vs.length = ps.length)
    (hbody : ∀ (cdv : Value) (A : Around) (outer : List Env) (s : Shared) (H : Hp) (vs : List V) (Q : VK) (E : XK), Room k (A.deeper (envOfC qual (defScope st) s.heap.objs.size f cdv)) → sp vs H Q E →
      ∃ t, PSs (cxX P w K mg base N qual (defScope st) f cdv A outer s H E) (defBody st) t ∧ t { nx := fun _ H' => Q .non H', rt := Q } (start N vs) H) : FnOk P w K mg base (CXX P w) (k + 1) f fd ps sp := by
  obtain ⟨oc, od, kV, doc, pm, an, cdv, ct, osl, rfl, lk, hcd⟩ := F.ex
  exact fn_of lk hcd S len fun A outer s H vs Q E hr hsp => hbody cdv A outer s H vs Q E hr hsp
theorem funD_mk {x qual : Str} {st : Stmt} {dT f : Addr} {oc : Value} {od an : Option Addr} {osl : Array (Option Value)} {kV doc pm cdv ct : Value} (l : K.lookup f = some ⟨oc, od, .func (PySem.W.fnOf x qual (defArgs st) (defBody st) (defScope st) (.ref dT) kV doc pm an cdv ct), osl⟩)
    (c : PySem.W.codeIn K cdv qual = true) (k : PySem.W.keepIn K (.ref f) = true) : FunD K x qual st dT f (PySem.W.fnOf x qual (defArgs st) (defBody st) (defScope st) (.ref dT) kV doc pm an cdv ct) := ⟨⟨oc, od, kV, doc, pm, an, cdv, ct, osl, rfl, l, c⟩, k⟩
theorem own_of {h₀ : Heap} {x : Str} {C : Addr} {bmB : List Value} {newId : String} (X : K.In h₀) (g : h₀.Ns mainGlobals mg) (e : PySem.W.nsIn K mainGlobals x = some (some (.ref C))) (q : PySem.W.excIn K C bmB newId = true) : OwnCls x C bmB newId mg h₀ := by
  refine ⟨PySem.W.mg_of X g e, ?_⟩
  unfold PySem.W.excIn at q
  split at q
  · rename_i dd cd sl ho
    split at q
    · rename_i C' bm k0 k1 k2 k3 n k5 hm hs
      simp only [Bool.and_eq_true, beq_iff_eq, Bool.not_eq_true'] at q
      obtain ⟨⟨⟨⟨⟨rfl, rfl⟩, hdel⟩, ht⟩, hok⟩, hni⟩ := q
      obtain ⟨nm, bs, mro, ns, qn, hd, sn, sub, ab, col, del⟩ := cd
      dsimp only at hm hdel hok hni
      subst hm hdel
      have hsl : sl = #[k0, k1, k2, k3, some (.builtin n), k5] := by
        obtain ⟨l⟩ := sl
        simp only at hs
        rw [hs]
      subst hsl
      exact ⟨bm, ns, nm, qn, bs, hd, sn, sub, ab, col, dd, k0, k1, k2, k3, k5, _, X _ _ ho, .of_isNs (PySem.W.isNs_of_in X hok), PySem.W.nsMap_none_of_in X hok hni, PySem.W.tail_of_in X ht⟩
    · cases q
  · cases q
section
variable {N : List Str} {qual : Str} {scope : Scope} {f : Addr} {cd : Value} {A : Around} {outer : List Env} {s₀ : Shared} {H₀ : Hp} {E : XK}
theorem ps_raiseK {x : Str} {np cpos pos : Pos} {e₀ : Expr} {rest : List Expr} {t : TA} {C : Addr} {B newId initId : String} {bm : List Value} (e : PySem.W.nsIn K mainGlobals x = some (some (.ref C))) (q : PySem.W.excIn K C bm newId = true) (FB : ExcBaseFacts B newId initId bm)
    (hg : Gl (cxX P w K mg base N qual scope f cd A outer s₀ H₀ E) x) (ha : PA (cxX P w K mg base N qual scope f cd A outer s₀ H₀ E) (e₀ :: rest) t)
    (he : starEach (e₀ :: rest) (cxX P w K mg base N qual scope f cd A outer s₀ H₀ E).env = (false, eval e₀ (cxX P w K mg base N qual scope f cd A outer s₀ H₀ E).env) :: starEach rest (cxX P w K mg base N qual scope f cd A outer s₀ H₀ E).env := by rfl)
    (hplain : (backTo cpos (starEach rest (cxX P w K mg base N qual scope f cd A outer s₀ H₀ E).env)).any (·.1) = false := by rfl) (hdb : (x == ("__debug__" : Str)) = false := by decide) :
    PS (cxX P w K mg base N qual scope f cd A outer s₀ H₀ E) (.Raise (some (.Call (.Name x np) (e₀ :: rest) [] cpos)) none pos) (tRaise (.ref C) E t) := by
  intro pins s σ H D I h
  exact ps_raise (own_of I.ok.mod.kin I.ok.mod.glob e q) FB hg ha he hplain hdb pins s σ H D I h
end
end
section
variable {X : Cx}
def rSlS : V → Option Int → Option Int → Hp → VK → Prop := fun x lo hi H Q => ∃ z, x = .str z ∧ z.length ≤ sizeLine ∧ Q (.str (Txt.slice z lo hi)) H
theorem sl_str : SlR X rSlS := by
  intro pins s σ H x v vl vu lo hi sl Q I rx hs pl pu h
  obtain ⟨z, rfl, hz, q⟩ := h
  obtain ⟨t, rfl⟩ := rx
  refine ⟨"str", _, F.slot_str_getitem.lookup, typeIs_str _ _ _, ?_⟩
  have fin : ∀ l u : Option (Int × Tok), l.map (·.1) = lo → u.map (·.1) = hi → partValue l = vl → partValue u = vu → wpAny (model X.prog X.w) X.A (getItem (.str z t) (.ref sl)) (EP X pins σ Q) X.xe s := fun l u e1 e2 e3 e4 => by
    obtain ⟨o, ho, hc, hd⟩ := hs
    subst e1 e2 e3 e4
    exact wpAny_getItem_str_slice (l := l) (u := u) (st := none) ⟨o, ho, hc, hd⟩ rfl (post_val_or_str ⟨Nat.le_trans (Txt.slice_le z _ _) hz, fun t' k => ⟨.str _, H, I.tok k, ⟨_, rfl⟩, q⟩⟩)
  cases pl with
  | none =>
    cases pu with
    | none => exact fin none none rfl rfl rfl rfl
    | int j t' => exact fin none (some (j, t')) rfl rfl rfl rfl
  | int i ti =>
    cases pu with
    | none => exact fin (some (i, ti)) none rfl rfl rfl rfl
    | int j t' => exact fin (some (i, ti)) (some (j, t')) rfl rfl rfl rfl
def rSlU (K : PySem.W.Frag) : V → Option Int → Option Int → Hp → VK → Prop := fun x lo hi H Q => rSlL K x lo hi H Q ∨ (rSlT K x lo hi H Q ∨ rSlS x lo hi H Q)
theorem sl_U : SlR X (rSlU X.K) := sl_list.or (sl_tup.or sl_str)
end
structure NoAttrs (K : PySem.W.Frag) (C : Addr) (fs : List Str) : Prop where
  out : ∀ f ∈ fs, NoAttr K C f
theorem NoAttrs.get {K : PySem.W.Frag} {C : Addr} {fs : List Str} {f : Str} (h : NoAttrs K C fs) (m : fs.contains f = true) : NoAttr K C f := h.out f (by simpa using m)
namespace Rd
section
variable {σ : St} {H : Hp} {Q : VK} {D : Ends} {K : PySem.W.Frag}
theorem slL {a : Addr} {xs : List V} {lo hi : Option Int} (h : SqL K H a xs) (q : ∀ p, H p = none → Q (.ref p) (upd H p (.lst (cutV xs lo hi)))) : rSlU K (.ref a) lo hi H Q := .inl ⟨a, xs, rfl, h, q⟩
theorem sl {r : V → Option Int → Option Int → Hp → VK → Prop} {te : TE} {tl th : TO} (h : te σ H fun x H1 => tl σ H1 fun l H2 => th σ H2 fun u H3 => r x l u H3 Q) : tSl r te tl th σ H Q := h
theorem part {te : TE} {Q : Option Int → Hp → Prop} (h : te σ H fun x H1 => ∃ i, x = .int i ∧ Q (some i) H1) : tPart te σ H Q := h
theorem partI {i : Int} {C : Int → Prop} (h : C i) : ∃ j, V.int i = .int j ∧ C j := ⟨i, rfl, h⟩
theorem fldE {ta : TE} {f : Str} (h : ta σ H fun x H1 => ∃ a C dx fs v, x = .ref a ∧ H1 a = some (.ins C dx fs) ∧ Cls K C ∧ NoAttr K C f ∧ fs.lookup f = some v ∧ Q v H1) : tFld K ta f σ H Q := h
theorem fld {a C dx : Addr} {fs : List (Str × V)} {f : Str} {v : V} {G : V → Prop} (h : H a = some (.ins C dx fs)) (c : Cls K C) (n : NoAttr K C f) (l : fs.lookup f = some v) (q : G v) :
    ∃ a' C dx fs v, V.ref a = .ref a' ∧ H a' = some (.ins C dx fs) ∧ Cls K C ∧ NoAttr K C f ∧ fs.lookup f = some v ∧ G v := ⟨a, C, dx, fs, v, rfl, h, c, n, l, q⟩
theorem methE {C : Addr} {m : Str} {sp : Sp} {dvs : List V} {E : XK} {ta : TE} {t : TA} (h : ta σ H fun x H1 => ∃ a dx fs, x = .ref a ∧ H1 a = some (.ins C dx fs) ∧ fs.lookup m = none ∧ t σ H1 fun vs H2 => sp (x :: (vs ++ dvs)) H2 Q E) : tMeth C m sp dvs E ta t σ H Q := h
theorem makeE {C : Addr} {sp : Sp} {dvs : List V} {E : XK} {t : TA} (h : t σ H fun vs H1 => ∀ x dx, H1 x = none → H1 dx = none → dx ≠ x →
    sp (.ref x :: (vs ++ dvs)) (upd (upd H1 dx (.own x)) x (.ins C dx [])) (fun v H2 => v = .non ∧ Q (.ref x) H2) E) : tMake C sp dvs E t σ H Q := h
theorem sfld {ta tv : TE} {f : Str} (h : tv σ H fun y H1 => ta σ H1 fun x H2 => ∃ a C dx fs, x = .ref a ∧ H2 a = some (.ins C dx fs) ∧ Cls K C ∧ NoAttr K C f ∧ fs.length < 1000 ∧ D.nx σ (upd H2 a (.ins C dx (putF f y fs)))) : sFld K ta tv f D σ H := h
theorem sfld3 {a C dx : Addr} {fs fs' : List (Str × V)} {f : Str} {y : V} (h : H a = some (.ins C dx fs)) (c : Cls K C) (n : NoAttr K C f) (l : fs.length < 1000) (e : putF f y fs = fs') (q : D.nx σ (upd H a (.ins C dx fs'))) :
    ∃ a' C dx fs, V.ref a = .ref a' ∧ H a' = some (.ins C dx fs) ∧ Cls K C ∧ NoAttr K C f ∧ fs.length < 1000 ∧ D.nx σ (upd H a' (.ins C dx (putF f y fs))) := ⟨a, C, dx, fs, rfl, h, c, n, l, by rw [e]; exact q⟩
theorem raise {cls : Value} {E : XK} {t : TA} (h : t σ H fun vs H1 => vs.length ≤ sizeLine ∧ E cls none H1) : tRaise cls E t D σ H := h
theorem raise2 {v : V} {G : Prop} (q : G) : [v].length ≤ sizeLine ∧ G := ⟨by show 1 ≤ sizeLine; decide, q⟩
theorem ilist {te : TE} {R : It → Hp → Prop} (h : te σ H fun x H1 => ∃ a, x = .ref a ∧ (∃ xs, SqL K H1 a xs) ∧ R (Itl K a) H1) : iList K te σ H R := h
theorem istr {te : TE} {R : It → Hp → Prop} (h : te σ H fun x H1 => ∃ y, x = .str y ∧ R (Its y) H1) : iStr te σ H R := h
theorem istr2 {y : Str} {G : Str → Prop} (h : G y) : ∃ z, V.str y = .str z ∧ G z := ⟨y, rfl, h⟩
theorem compE {ix : List Nat} {wi : TI} {g : TG} {tc : TT} {te : TE} (h : wi σ H fun J H1 => ∀ p, H1 p = none →
  ∃ W : Nat → Nat → List V → St → Hp → Prop, (∃ m, W 0 m [] (emb ix σ) (upd H1 p (.lst []))) ∧ ∀ i m ys σ' H', W i m ys σ' H' →
    (J.stop i H' ∧ Q (.ref p) H') ∨ (J.go i H' ∧ ∀ x H2, J.yld i H' x H2 → g x σ' H2 fun σ2 H3 => tc σ2 H3 fun b H4 =>
      if b = true then te σ2 H4 fun v H5 => H5 p = some (.lst ys) ∧ ys.length < sizeLine ∧ ∃ m', m' < m ∧ W (i + 1) m' (ys ++ [v]) σ2 (upd H5 p (.lst (ys ++ [v])))
      else ∃ m', m' < m ∧ W (i + 1) m' ys σ2 H4)) : tComp ix wi g tc te σ H Q := h
theorem all_ {Q : Bool → Hp → Prop} (h : Q true H) : tAll σ H Q := h
theorem lk0 {f : Str} {v : V} {r : List (Str × V)} : ((f, v) :: r).lookup f = some v := by simp
theorem lk1 {f g : Str} {v : V} {o : Option V} {r : List (Str × V)} (n : (f == g) = false) (h : r.lookup f = o) : ((g, v) :: r).lookup f = o := by rw [List.lookup_cons, n]; exact h
theorem lkN {f : Str} : ([] : List (Str × V)).lookup f = none := rfl
theorem pf0 {f : Str} {v x : V} {r : List (Str × V)} : putF f v ((f, x) :: r) = (f, v) :: r := by simp [putF]
theorem pf1 {f g : Str} {v x : V} {r r' : List (Str × V)} (n : (g == f) = false) (h : putF f v r = r') : putF f v ((g, x) :: r) = (g, x) :: r' := by
  have : ¬ g = f := by simpa using n
  simp [putF, this, h]
theorem pfN {f : Str} {v : V} : putF f v [] = [(f, v)] := rfl
end
end Rd
end L2
namespace L2
open PySem PySem.Spec PyProof.Rows
namespace Rd
section
variable {H : Hp} {Q : VK} {K : PySem.W.Frag}
theorem ifD {c A B : Prop} [Decidable c] (a : c → A) (b : ¬ c → B) : if decide c = true then A else B := by
  by_cases h : c
  · exact ifP h (a h)
  · exact ifN h (b h)
theorem allB {p : Addr} {bs : List Bool} {G : List Bool → Prop} (h : SqL K H p (bs.map V.bl)) (q : G bs) : ∃ (p' : Addr) (bs' : List Bool), [V.ref p] = [.ref p'] ∧ SqL K H p' (bs'.map V.bl) ∧ G bs' := ⟨p, bs, rfl, h, q⟩
theorem leS {x y : Str} (q : Q (.bl (!decide (y.cps.toList < x.cps.toList))) H) : rLeS (.str x) (.str y) H Q := ⟨x, y, rfl, rfl, q⟩
theorem chain {σ : St} {r r' : R2} {ta tb tc : TE} (h : ta σ H fun x H1 => tb σ H1 fun y H2 => r x y H2 fun z H3 => ∃ k, z = .bl k ∧ (if k = true then tc σ H3 fun w' H4 => r' y w' H4 Q else Q (.bl false) H3)) : tChain r r' ta tb tc σ H Q := h
end
end Rd
end L2
namespace L2
open PySem PySem.Spec PyProof.Rows
namespace Rd
section
variable {H : Hp} {Q : VK} {K : PySem.W.Frag}
theorem un1 {g : Int → V} {i : Int} (q : Q (g i) H) : rU g (.int i) H Q := ⟨i, rfl, q⟩
theorem ixuS {z : Str} {i : Int} {c : Nat} (h : z.length ≤ sizeLine) (e : atI z.cps.toList i = some c) (q : Q (.str ⟨#[c]⟩) H) : rIx K (.str z) (.int i) H Q := .inr (.inr ⟨z, i, c, rfl, rfl, h, e, q⟩)
theorem ilist2 {a : Addr} {xs : List V} {G : Addr → Prop} (h : SqL K H a xs) (q : G a) : ∃ a', V.ref a = .ref a' ∧ (∃ xs, SqL K H a' xs) ∧ G a' := ⟨a, rfl, ⟨xs, h⟩, q⟩
theorem rng1' {j : Int} {G : Int → Prop} (h1 : -(2 ^ 62) ≤ j) (h2 : j < 2 ^ 62) (q : G j) : ∃ k, [V.int j] = [.int k] ∧ -(2 ^ 62) ≤ k ∧ k < 2 ^ 62 ∧ G k := ⟨j, rfl, h1, h2, q⟩
theorem min2 {i j : Int} {G : Int → Int → Prop} (q : G i j) : ∃ i' j', [V.int i, .int j] = [.int i', .int j'] ∧ G i' j' := ⟨i, j, rfl, q⟩
end
end Rd
end L2
namespace L2
open PySem PySem.Spec PyProof.Rows
def hid (H : Hp) (r : Addr) : Hp := fun b => if b = r then none else H b
theorem hid_self {H : Hp} {r : Addr} : hid H r r = none := by unfold hid; rw [if_pos rfl]
theorem hid_ne {H : Hp} {r b : Addr} (h : b ≠ r) : hid H r b = H b := by unfold hid; rw [if_neg h]
theorem hid_same {H : Hp} {r : Addr} : Same (hid H r) H := fun b o e => by
  by_cases h : b = r
  · rw [h, hid_self] at e; cases e
  · rw [hid_ne h] at e; exact e
end L2
namespace L2
open PySem PySem.Spec PyProof.Rows
theorem lay_ints : ∀ ns : List Int, PyData.canLayAll0 (ns.map PyData.int) = true
  | [] => by simp [PyData.canLayAll0]
  | n :: ns => by
    have := lay_ints ns
    simp [PyData.canLayAll0, PyData.canLay0] at this ⊢
    exact this
theorem layL_ints (ns : List Int) : (PyData.list (ns.map PyData.int)).canLay0 = true := by
  have := lay_ints ns
  simp [PyData.canLay0]
  simpa using this
theorem depth_ints : ∀ ns : List Int, PyData.depthAll (ns.map PyData.int) ≤ 1
  | [] => by simp [PyData.depthAll]
  | n :: ns => by
    have := depth_ints ns
    simp [PyData.depthAll, PyData.depth] at this ⊢
    exact this
theorem depthL_ints (ns : List Int) : (PyData.list (ns.map PyData.int)).depth ≤ 60 := by
  have := depth_ints ns
  simp only [PyData.depth]
  omega
end L2
namespace L2
open PySem PySem.Spec PyProof.Rows
namespace Rd
section
variable {H : Hp} {Q : VK} {K : PySem.W.Frag}
theorem neInts {p q : Addr} {ns : List Int} (h1 : SqL K H p (ns.map V.int)) (h2 : SqL K H q (ns.map V.int)) (k : Q (.bl false) H) : rOr rNe (rEqD K true) (.ref p) (.ref q) H Q :=
  neUD (DRel.ints h1) (DRel.ints h2) (layL_ints ns) (layL_ints ns) (depthL_ints ns) (by rw [SeqAt.eqv_refl _ (layL_ints ns)]; exact k)
end
end Rd
end L2
namespace L2
open PySem PySem.Spec PyProof.Rows
namespace Rd
section
variable {σ : St} {H : Hp} {Q : VK} {K : PySem.W.Frag} {J : St → Prop} {E : XK} {sp : Sp} {dvs : List V} {t : TA} {ta : TE}
theorem callJ (hj : J σ) (h : t σ H fun vs H1 => sp (vs ++ dvs) H1 Q E) : tCallJ J sp dvs E t σ H Q := ⟨hj, h⟩
end
end Rd
end L2
namespace L2
open PySem PySem.Spec PyProof.Rows
namespace Rd
section
variable {σ : St} {H : Hp}
theorem gsub {to ti : TE} {t : TSet} {v : V} {Q : St → Hp → Prop} (h : to σ H fun o H1 => ti σ H1 fun i H2 => t o i v H2 fun H3 => Q σ H3) : gSub to ti t v σ H Q := h
theorem setL {p : Addr} {xs : List V} {k : Int} {v : V} {Q : Hp → Prop} (hp : H p = some (.lst xs)) (h0 : 0 ≤ k) (h1 : k < xs.length) (q : Q (upd H p (.lst (xs.set k.toNat v)))) : rSetL (.ref p) (.int k) v H Q :=
  ⟨p, xs, k, k.toNat, rfl, rfl, hp, by unfold ixN; rw [if_pos h0, if_pos h1], q⟩
end
end Rd
def mid (X hs : List Int) (i : Nat) (v : Int) : List V := (X.take i ++ v :: hs.drop (i + 1)).map V.int
section
variable {X hs : List Int} {i : Nat} {v u : Int}
theorem mid_start (h : i < hs.length) : (X.take i ++ hs.drop i).map V.int = mid X hs i hs[i] := by unfold mid; rw [List.drop_eq_getElem_cons h]
theorem mid_end (h : i < X.length) : mid X hs i X[i] = (X.take (i + 1) ++ hs.drop (i + 1)).map V.int := by
  unfold mid
  rw [List.take_succ_eq_append_getElem h, List.append_assoc]; rfl
theorem mid_len (h : i < hs.length) (e : X.length = hs.length) : (mid X hs i v).length = hs.length := by
  unfold mid
  simp only [List.length_map, List.length_append, List.length_take, List.length_cons, List.length_drop]
  omega
theorem mid_at (h : i < hs.length) (e : X.length = hs.length) : (mid X hs i v)[i]? = some (.int v) := by
  unfold mid
  have l : (X.take i).length = i := by rw [List.length_take]; omega
  rw [List.getElem?_map, List.getElem?_append_right (by omega), l, Nat.sub_self]
  rfl
theorem mid_set (h : i < hs.length) (e : X.length = hs.length) : (mid X hs i v).set i (.int u) = mid X hs i u := by
  unfold mid
  have l : (X.take i).length = i := by rw [List.length_take]; omega
  rw [List.map_append, List.map_append, List.set_append_right _ _ (by rw [List.length_map]; omega), List.length_map, l, Nat.sub_self]
  rfl
end
end L2
namespace L2
open PySem PySem.Spec PyProof.Rows
def only (q : Addr) (o : HO) : Hp := fun a => if a = q then some o else none
theorem only_self {q : Addr} {o : HO} : only q o q = some o := by unfold only; rw [if_pos rfl]
theorem only_same {q : Addr} {o : HO} {H : Hp} (h : H q = some o) : Same (only q o) H := fun b x e => by
  unfold only at e
  by_cases c : b = q
  · rw [if_pos c] at e; rw [c]; cases e; exact h
  · rw [if_neg c] at e; cases e
end L2
namespace L2
open PySem PySem.Spec PyProof.Rows
section
variable {X : Cx} {K : PySem.W.Frag}
theorem op_addK (e : X.K = K) : OpR X (binaryOp .Add) (rOr rAddI (rOr rAddS (rOr rCat (rCatT K)))) := e ▸ op_addU
theorem op_eqK (e : X.K = K) (hu : X.A.units + 64 < cLine) : OpR X (compareOp .Eq) (rOr rEq (rEqD K false)) := e ▸ op_eqU hu
theorem op_neK (e : X.K = K) (hu : X.A.units + 64 < cLine) : OpR X (compareOp .NotEq) (rOr rNe (rEqD K true)) := e ▸ op_neU hu
theorem ix_K (e : X.K = K) : IxR X (rIx K) := e ▸ ix_seq
theorem sl_K (e : X.K = K) : SlR X (rSlU K) := e ▸ sl_U
def rLen (K : PySem.W.Frag) : List V → Hp → VK → Prop := fun xs H Q => ∃ x n, xs = [x] ∧ LenV K x H n ∧ Q (.int n) H
theorem len_K (e : X.K = K) : CallR X (.builtin "len") (rLen K) := e ▸ call_len
theorem pe_fldK {e : Expr} {ta : TE} {f : Str} {pos : Pos} (ek : X.K = K) (he : PE X e ta) (hb : attributeBase e f X.env (eval e X.env) = eval e X.env) : PE X (.Attribute e f pos) (tFld K ta f) := ek ▸ pe_fld he hb
theorem ps_fldK {o value : Expr} {ta tv : TE} {f : Str} {pos pos' : Pos} (ek : X.K = K) (ha : PE X o ta) (hv : PE X value tv) (hs : swapsWith value (some (.Attribute o f pos')) pos.line X.env = pure false) :
    PS X (.Assign [.Attribute o f pos'] value pos) (sFld K ta tv f) := ek ▸ ps_fld ha hv hs
theorem pi_listK {tg l : Expr} {tl : TE} (ek : X.K = K) (hl : PE X l tl) : PI X tg l (iList K tl) := ek ▸ pi_list hl
def tTru (K : PySem.W.Frag) (ta : TE) : TT := fun σ H Q => ta σ H fun x H' => ∃ k, TruV K x H' k ∧ Q k H'
theorem pt_truK {a : Expr} {ta : TE} (ek : X.K = K) (ha : PE X a ta) (he : ∀ whole, isTrue a X.env whole = (do let v ← whole; standAt a.pos; holding [v] (truthy v))) : PT X a (tTru K ta) := ek ▸ pt_truth ha he
def rIsi (K : PySem.W.Frag) : List V → Hp → VK → Prop := fun xs H Q => ∃ x n t b, xs = [x, .ty n] ∧ TyOf K H x t ∧ PySem.W.kitOne K t (.type n) = some b ∧ Q (.bl b) H
theorem isi_K (e : X.K = K) : CallR X (.builtin "isinstance") (rIsi K) := e ▸ call_isinst
def rListOf (K : PySem.W.Frag) : List V → Hp → VK → Prop := fun xs H Q => ∃ p ys, xs = [.ref p] ∧ (SqL K H p ys ∨ SqT K H p ys) ∧ ∀ l, H l = none → Q (.ref l) (upd H l (.lst ys))
theorem listOf_K (e : X.K = K) : CallR X (.type "list") (rListOf K) := e ▸ call_list_of
def rAllB (K : PySem.W.Frag) : List V → Hp → VK → Prop := fun xs H Q => ∃ (p : Addr) (bs : List Bool), xs = [.ref p] ∧ SqL K H p (bs.map V.bl) ∧ Q (.bl (bs.all id)) H
theorem all_K (e : X.K = K) (hc : X.calm = true) : CallR X (.builtin "all") (rAllB K) := e ▸ call_allB hc
theorem pe_bmK {o e : Expr} {es : List Expr} {to : TE} {t : TA} {name : Str} {apos cpos : Pos} {T id : String} {r : V → List V → Hp → VK → Prop} (ek : X.K = K) (pa : PlainAttrs T) (slot : Slot T name id) (hty : typeOf (.builtin id) = pure (.type "method_descriptor")) (hm : MtR X id r) (ho : PE X o to) (ha : PA X (e :: es) t)
    (hbase : attributeBase o name X.env (eval o X.env) = eval o X.env := by rfl)
    (hfew : ((backTo cpos (starEach (e :: es) X.env)).all (fun x => !x.1) && (backToKw cpos (keywordEach [] X.env)).all (fun x => x.1.isSome)
      && decide ((e :: es).length + ([] : List Keyword).length + (if ([] : List Keyword).isEmpty then 0 else 1) < 30)) = true := by rfl)
    (hline : (apos.endLine == cpos.line) = true := by rfl) (hs : starEach (e :: es) X.env = (false, eval e X.env) :: starEach es X.env := by rfl) (hplain : (backTo cpos (starEach es X.env)).any (·.1) = false := by rfl) :
    PE X (.Call (.Attribute o name apos) (e :: es) [] cpos) (tBM K T r to t) := ek ▸ pe_bm pa slot hty hm ho ha hbase hfew hline hs hplain
theorem pg_tupK {es : List Expr} {k : Nat} {t : TGs} {n : Nat} {pos : Pos} (ek : X.K = K) (hc : X.calm = true) (h : PGs X es t) (hn : (assignEach es X.env).length = n := by rfl) (hst : (assignEach es X.env).findIdx? (·.1) = none := by rfl) :
    PG X (.Tuple es k pos) (gTup K n t) := ek ▸ pg_tup hc h hn hst
end
namespace Rd
section
variable {σ : St} {H : Hp} {Q : VK} {K : PySem.W.Frag}
theorem tru {ta : TE} {Q : Bool → Hp → Prop} (h : ta σ H fun x H' => ∃ k, TruV K x H' k ∧ Q k H') : tTru K ta σ H Q := h
theorem rlen {xs : List V} (h : ∃ x n, xs = [x] ∧ LenV K x H n ∧ Q (.int n) H) : rLen K xs H Q := h
theorem risi {xs : List V} (h : ∃ x n t b, xs = [x, .ty n] ∧ TyOf K H x t ∧ PySem.W.kitOne K t (.type n) = some b ∧ Q (.bl b) H) : rIsi K xs H Q := h
theorem rall {xs : List V} (h : ∃ (p : Addr) (bs : List Bool), xs = [.ref p] ∧ SqL K H p (bs.map V.bl) ∧ Q (.bl (bs.all id)) H) : rAllB K xs H Q := h
theorem listOfL {p : Addr} {xs : List V} (h : SqL K H p xs) (q : ∀ l, H l = none → Q (.ref l) (upd H l (.lst xs))) : rListOf K [.ref p] H Q := ⟨p, xs, rfl, .inl h, q⟩
end
end Rd
end L2
namespace L2
open PySem PySem.Spec PyProof.Rows
section
variable {X : Cx}
def rDIn : R2 := fun y x H Q => ∃ a o, x = .ref a ∧ DGet H a y o ∧ Q (.bl o.isSome) H
def rDNotIn : R2 := fun y x H Q => ∃ a o, x = .ref a ∧ DGet H a y o ∧ Q (.bl (!o.isSome)) H
theorem op_dIn (hu : X.A.units + 64 < cLine) : OpR X (compareOp .In) rDIn := by
  intro pins s σ H x y v u Q I rx ry h
  obtain ⟨a, o, rfl, g, q⟩ := h
  cases ry
  exact d_in (by omega) I g rx fun s' I' => ⟨.bl o.isSome, H, I', rfl, q⟩
theorem op_dNotIn (hu : X.A.units + 64 < cLine) : OpR X (compareOp .NotIn) rDNotIn := by
  intro pins s σ H x y v u Q I rx ry h
  obtain ⟨a, o, rfl, g, q⟩ := h
  cases ry
  exact d_notIn (by omega) I g rx fun s' I' => ⟨.bl (!o.isSome), H, I', rfl, q⟩
def rSetD : V → V → V → Hp → (Hp → Prop) → Prop := fun o i v H Q => ∃ a H4, o = .ref a ∧ DPut H a i v H4 ∧ Q H4
theorem set_dict (hu : X.A.units + 64 < cLine) : PSet X rSetD := by
  intro pins s σ H o i v ov iv u Q I ro ri rv h
  obtain ⟨a, H4, rfl, g, q⟩ := h
  cases ro
  exact d_setItem (by omega) I g ri rv fun s' I' => ⟨H4, I', q⟩
theorem is_kV {P : Program} {w : World} {k : Key} {u : Value} (h : (mixKind P w).is k u = true) : RelV (kV k) u := by
  cases k with
  | inl i => exact Value.isInt_shape h
  | inr x => exact Value.isStrOf_shape h
theorem vals_pt : ∀ {xs : List V} {us : List Value}, us.length = xs.length → (∀ (j : Nat) (v : V) (u : Value), xs[j]? = some v → us[j]? = some u → RelV v u) → Vals xs us
  | [], [], _, _ => .nil
  | x :: xs, u :: us, hl, h => .cons (h 0 x u rfl rfl) (vals_pt (by simpa using hl) fun j v w e1 e2 => h (j + 1) v w (by simpa using e1) (by simpa using e2))
  | [], _ :: _, hl, _ => by simp at hl
  | _ :: _, [], hl, _ => by simp at hl
theorem KV.at {kvs : List (Key × V)} {vs : List (Key × Value)} (r : KV kvs vs) : ∀ {j : Nat} {k : Key} {x : Value}, vs[j]? = some (k, x) → ∃ v, kvs[j]? = some (k, v) := by
  unfold KV at r
  induction r with
  | nil => intro j k x e; simp at e
  | @cons p q ps qs h t ih =>
    intro j k x e
    cases j with
    | zero =>
      simp at e
      subst e
      have h1 : p.1 = k := h.1
      exact ⟨p.2, by simp [← h1]⟩
    | succ j =>
      obtain ⟨v, z⟩ := ih (j := j) (k := k) (x := x) (by simpa using e)
      exact ⟨v, by simpa using z⟩
def rListD : List V → Hp → VK → Prop := fun xs H Q => ∃ a kvs, xs = [V.ref a] ∧ H a = some (.dK kvs) ∧ ∀ l, H l = none → Q (.ref l) (upd H l (.lst (kvs.map fun kv => kV kv.1)))
theorem call_listD (hc : X.calm = true) : CallR X (.type "list") rListD := by
  intro pins s σ H xs us Q I r h
  obtain ⟨a, kvs, rfl, ha, q⟩ := h
  obtain ⟨u, rfl, ru⟩ := vals1 r
  cases ru
  obtain ⟨z, hd, vs, rel, dd⟩ := dk_of I.hok ha
  obtain ⟨ep, hat⟩ := dd.dictAt
  refine PySem.W.kdl_call (PySem.W.kdl_dict (knd := mixKind X.prog X.w) (kvs := vs) (ep := ep) hd) (I.ok.hd hc) hat (by rw [← rel.length]; exact z) fun h' tk acc c hk hD hacc => ?_
  refine ⟨.ref s.heap.objs.size, _, I.laid (a := s.heap.objs.size) (o := .lst (kvs.map fun kv => kV kv.1)) (t' := tk) hk (Nat.le_refl _) ⟨by rw [List.length_map]; exact z, acc.toList, c, ?_, by simpa using hD⟩, rfl, q _ (I.hok.fresh (Nat.le_refl _))⟩
  refine vals_pt (by rw [Array.length_toList, hacc.1, List.length_map, rel.length]) fun j v u e1 e2 => ?_
  obtain ⟨k, x, hx, hk'⟩ := hacc.2 j u (by rw [← Array.getElem?_toList]; exact e2)
  obtain ⟨v', hv'⟩ := rel.at hx
  rw [List.getElem?_map, hv'] at e1
  cases e1
  exact is_kV hk'
end
section
variable {X : Cx} {pins : List (Addr × Obj)} {σ : List (Option V)} {H H' : Hp} {s : Shared} {h' : Heap}
theorem Inv.turnedL {t' : Nat} {fp : List Addr} (I : Inv X pins σ H s) (k : ∀ b o, b ∉ fp → s.heap.get? b = some o → h'.get? b = some o) (hf : ∀ b ∈ fp, FpOk X pins H b) : Inv X pins σ H { s with heap := h', toks := t' } := by
  have nit : ∀ b u, H b = some u → b ∉ fp := fun b u e z => by rw [(hf b z).1] at e; cases e
  refine I.step (g' := s.gens) (d' := s.drawn) (ch := fp) (fun b hb => ?_) (fun b o _ _ hc e _ => k b o hc e) (fun b o _ _ hc e _ => ⟨o.slots, k b o hc e⟩) (fun _ _ _ _ n => n)
    (fun b o hc e => ⟨o, k b o hc e⟩) (fun _ _ e => e) (fun _ _ _ e => e) (fun b ps e => ⟨#[], by rw [e]; simp⟩) (fun m hm => ?_) (fun b u e => ?_) I.bare
  · obtain ⟨f0, f1, f2, f3, f4, f5⟩ := hf b hb
    exact ⟨f3, f1, f4, f5⟩
  · obtain ⟨o, es, ep, ho, r⟩ := hm
    exact ⟨o, es, ep, k _ o (fun z => (hf _ z).2.1 rfl) ho, r⟩
  · refine (I.hok b u e).stay (fun c v hc q => k c v ?_ q) (fun _ q => q) fun _ _ q => q
    rcases hc with z | z
    · rw [z]; exact nit b u e
    · exact nit c _ z
theorem Inv.turnedNew {t' : Nat} {fp : List Addr} {T : Addr} {o : HO} (I : Inv X pins σ H s) (k : ∀ b o, b ∉ fp → s.heap.get? b = some o → h'.get? b = some o) (hf : ∀ b ∈ fp, FpOk X pins H b) (hp : s.heap.objs.size ≤ T) (new : ObjOk X.prog X.w (upd H T o) h' T o) :
    Inv X pins σ (upd H T o) { s with heap := h', toks := t' } := by
  have J : Inv X pins σ H { s with heap := h', toks := t' } := I.turnedL k hf
  have hn := I.hok.fresh hp
  obtain ⟨f0, f1, f2, f3, f4, f5⟩ := I.fpOk hp hn
  refine Inv.step (s := { s with heap := h', toks := t' }) (h' := h') (g' := s.gens) (d' := s.drawn) (t' := t') (ch := [T]) J (fun b hb => ?_) (fun b o _ _ hc e _ => e) (fun b o _ _ hc e _ => ⟨o.slots, e⟩) (fun b o hc e n => ?_)
    (fun b o hc e => ⟨o, e⟩) (fun b xs e => ?_) (fun b o u e => ?_) (fun b ps e => ⟨#[], ?_⟩) (fun m hm => hm) (fun b u e => ?_) I.bare
  · have e : b = T := by simpa using hb
    subst e
    exact ⟨f3, f1, f4, f5⟩
  · rw [upd_ne (fun z => hc (by simp [z]))]; exact n
  · rw [upd_ne (ne_of_none e hn)]; exact e
  · rw [upd_ne (ne_of_none e hn)]; exact e
  · rw [upd_ne (ne_of_none e hn)]; simpa using e
  · by_cases hb : b = T
    · subst hb; rw [upd_same] at e; cases e; exact new
    · rw [upd_ne hb] at e
      exact (J.hok b u e).stay (fun c v _ q => q) (fun c q => by rw [upd_ne (ne_of_none q hn)]; exact q) fun c xs q => by rw [upd_ne (ne_of_none q hn)]; exact q
end
def Ite (K : PySem.W.Frag) (a : Addr) : It :=
  ⟨fun i H => ∃ xs x, SqL K H a xs ∧ xs[i]? = some x, fun i H v H' => ∃ t x, H t = none ∧ v = .ref t ∧ H' = upd H t (.tup [.int i, x]) ∧ ∀ xs, SqL K H a xs → xs[i]? = some x, fun i H => ∃ xs, SqL K H a xs ∧ xs.length ≤ i⟩
theorem turn_enum {P : Program} {w : World} {K : PySem.W.Frag} {elts : List Expr} {k1 : Nat} {pos : Pos} (a e it : Addr) (hei : e ≠ it) : Turn P w K (.Tuple elts k1 pos) (Ite K a) [e, it] e (fun i h => (∃ old, IsEnum h e it i old) ∧ h.IsListIter it a i) where
  mem := by simp
  obj := fun i h st b hb => by
    obtain ⟨⟨old, he⟩, o, h1, h2, h3⟩ := st
    rcases List.mem_cons.mp hb with rfl | hb
    · exact ⟨_, he, fun v z => by
        have z' : Data.fields _ = Data.cell v := z
        cases z'⟩
    · rw [List.mem_singleton.mp hb]
      exact ⟨o, h1, fun v z => by rw [h3] at z; cases z⟩
  keep := fun i h h' st k => ⟨let ⟨old, he⟩ := st.1; ⟨old, k e (by simp) _ he⟩, st.2.at fun o q => k it (by simp) o q⟩
  item := by
    intro X hP hw hK hc i pins s σ H E I hf st hg
    subst hP hw hK
    obtain ⟨xs, x, hq, hx⟩ := hg
    obtain ⟨its, rv, p, hz⟩ := I.list hq
    obtain ⟨u, hu, ru⟩ := rv.get hx
    obtain ⟨⟨old, he⟩, hit⟩ := st
    refine wpAny_pyNext_enum_item he hit p.isList (x := u) (by simpa using hu) hei fun h' ho hit' hT hsz hk => ?_
    have hfr := I.hok.fresh (Nat.le_refl s.heap.objs.size)
    have helt : e < s.heap.objs.size := Heap.lt_size he
    have hilt : it < s.heap.objs.size := by obtain ⟨_, y, _⟩ := hit; exact Heap.lt_size y
    refine ⟨_, rfl, wpAny_letOwnedTupleGo_enum ho fun h2 he2 hs2 => ?_⟩
    have hT2 : h2.get? s.heap.objs.size = some { cls := .type "tuple", data := .seq #[.int i s.toks, u] } := hs2.extBut _ _ (Nat.ne_of_gt helt) hT
    have I1 : Inv X pins σ (upd H s.heap.objs.size (.tup [.int i, x])) { s with heap := h2, toks := s.toks + 1 } :=
      I.turnedNew (fp := [e, it]) (fun b o hb q => by
        have n1 : b ≠ e := fun z => hb (by simp [z])
        have n2 : b ≠ it := fun z => hb (by simp [z])
        exact hs2.extBut b o n1 (hk b o n1 n2 q)) hf (Nat.le_refl _) ⟨by show 2 ≤ sizeLine; decide, [.int i s.toks, u], .cons ⟨_, rfl⟩ (.cons ru .nil), _, hT2, rfl, _, rfl⟩
    refine ⟨.ref s.heap.objs.size, _, I1, rfl, ⟨_, x, hfr, rfl, rfl, fun ys hy => by rw [I.list_inj hy hq]; exact hx⟩, ⟨⟨_, he2⟩, hit'.at fun o q => hs2.extBut _ _ hei.symm q⟩, fun b hb => ?_⟩
    have nb : b ≠ s.heap.objs.size := by
      rcases List.mem_cons.mp hb with rfl | hb
      · exact Nat.ne_of_lt helt
      · rw [List.mem_singleton.mp hb]; exact Nat.ne_of_lt hilt
    rw [upd_ne nb]
    exact (hf b hb).1
  done := by
    intro X hP hw hK hc i pins s σ H E I hf st hg
    subst hP hw hK
    obtain ⟨xs, hq, hx⟩ := hg
    obtain ⟨its, rv, p, hz⟩ := I.list hq
    obtain ⟨⟨old, he⟩, hit⟩ := st
    have hl := rv.length
    exact wpAny_pyNext_enum_end (I.ok.hd hc) he hit p.isList (by simp; omega) fun h' eb => ⟨rfl, I.turnedL (t' := s.toks) (fp := [e, it]) (fun b o hb q => eb b o (fun z => hb (by simp [z])) q) hf⟩
  self := fun _ _ _ _ _ st h => wpAny_pyIter_enum st.1.choose_spec h
section
variable {X : Cx}
def iEnum (K : PySem.W.Frag) (ta : TA) : TI := fun σ H R => ta σ H fun vs H1 => ∃ a, vs = [.ref a] ∧ (∃ xs, SqL K H1 a xs) ∧ R (Ite K a) H1
theorem pi_enum {K : PySem.W.Frag} {a : Expr} {ta : TA} {p pos tpos : Pos} {elts : List Expr} {k1 : Nat} (ek : X.K = K) (hg : Gl X "enumerate") (hm : X.mg "enumerate" = none) (ha : PA X [a] ta) (hs : starEach [a] X.env = [(false, eval a X.env)] := by rfl) :
    PI X (.Tuple elts k1 tpos) (.Call (.Name "enumerate" p) [a] [] pos) (iEnum K ta) := by
  subst ek
  intro pins s σ H R I h
  refine Call_ (ld_blt I hg hm boot_enumerate (PyProof.Rows.callWith_type1 (thn (ha pos pins s σ H _ I h) fun us s1 ⟨vs, H1, I1, r1, q1⟩ => ?_) hs rfl))
  obtain ⟨b, rfl, ⟨xs, hq⟩, q⟩ := q1
  obtain ⟨u, rfl, ru⟩ := vals1 r1
  cases ru
  obtain ⟨its, rv, pl, hz⟩ := I1.list hq
  refine call_enumerate_list pl.isList fun h' he hit hsz hk => ?_
  refine wpAny_pyIter_enum he ?_
  have I2 : Inv X pins σ H1 { s1 with heap := h' } := I1.kept (t' := s1.toks) hk
  refine ⟨s1.heap.objs.size + 1, [s1.heap.objs.size + 1, s1.heap.objs.size], _, _, H1, rfl, I2, turn_enum b _ _ (Nat.succ_ne_self _), ⟨⟨_, he⟩, hit⟩, fun c hc => ?_, q⟩
  rcases List.mem_cons.mp hc with rfl | hc
  · exact I1.fpOk (Nat.le_succ _) (I1.hok.fresh (Nat.le_succ _))
  · rw [List.mem_singleton.mp hc]
    exact I1.fpOk (Nat.le_refl _) (I1.hok.fresh (Nat.le_refl _))
end
end L2
namespace L2
open PySem PySem.Spec PyProof.Rows
def rLenD : List V → Hp → VK → Prop := fun xs H Q => ∃ a kvs, xs = [V.ref a] ∧ H a = some (.dK kvs) ∧ Q (.int kvs.length) H
theorem len_D {X : Cx} : CallR X (.builtin "len") rLenD := call_lenD
def embN (n : Nat) (ix : List Nat) (σ : St) : St := List.replicate n none ++ ix.map fun j => (σ[j]?).join
def tCompN (n : Nat) (ix : List Nat) (wi : TI) (g : TG) (tc : TT) (te : TE) : TE := fun σ H Q => wi σ H fun J H1 => ∀ p, H1 p = none →
  ∃ W : Nat → Nat → List V → St → Hp → Prop, (∃ m, W 0 m [] (embN n ix σ) (upd H1 p (.lst []))) ∧ ∀ i m ys σ' H', W i m ys σ' H' →
    (J.stop i H' ∧ Q (.ref p) H') ∨ (J.go i H' ∧ ∀ x H2, J.yld i H' x H2 → g x σ' H2 fun σ2 H3 => tc σ2 H3 fun b H4 =>
      if b = true then te σ2 H4 fun v H5 => H5 p = some (.lst ys) ∧ ys.length < sizeLine ∧ ∃ m', m' < m ∧ W (i + 1) m' (ys ++ [v]) σ2 (upd H5 p (.lst (ys ++ [v])))
      else ∃ m', m' < m ∧ W (i + 1) m' ys σ2 H4)
section
variable {X : Cx}
theorem compN_start {pins : List (Addr × Obj)} {σ : St} {H : Hp} {s : Shared} {sc : Scope} {x : Str} {xs : List Str} {zs : List Str} {ix : List Nat} {cl : List (Str × Addr)} {fp : List Addr} {h₁ : Heap} {tk : Nat}
    (S : CompScope X sc x zs ix) (I : Inv X pins σ H s) (hcl : ∀ y c, cl.lookup y = some c → X.env.cells.lookup y = some c) (hhas : ∀ y, (y, NameKind.free) ∈ sc.names → ∃ c, cl.lookup y = some c)
    (hfp : ∀ b ∈ fp, FpOk X pins H b ∧ b < s.heap.objs.size) (hns : h₁.Ns s.heap.objs.size fun _ => none) (hk : ∀ b o, s.heap.get? b = some o → h₁.get? b = some o) :
    Inv (cxComp X sc cl s.heap.objs.size (xs ++ zs) s H fp) [] (embN xs.length ix σ) H { s with heap := h₁, toks := tk } := by
  have sub : ∀ b ∈ frs X.stack, b ∈ X.env.locals :: X.fs := I.stkSub
  have nfs : ∀ b ∈ fp, b ∉ frs X.stack := fun b hb z => by
    obtain ⟨⟨_, f1, f2, _⟩, _⟩ := hfp b hb
    rcases List.mem_cons.mp (sub b z) with e | e
    · exact f1 e
    · exact f2 e
  have cut : ∀ y, (cxComp X sc cl s.heap.objs.size (xs ++ zs) s H fp).env.kindOf y = some .cell ∨ (cxComp X sc cl s.heap.objs.size (xs ++ zs) s H fp).env.kindOf y = some .free → ∃ c, cl.lookup y = some c := fun y hy => by
    have q : ∃ k, (relabel sc X.env).names.lookup y = some k ∧ (k = .cell ∨ k = .free) := by
      rcases hy with hy | hy
      · exact ⟨_, hy, .inl rfl⟩
      · exact ⟨_, hy, .inr rfl⟩
    obtain ⟨k, e, hk⟩ := q
    obtain ⟨k', e', q⟩ := lookup_relabel e
    have : k' = .free := by
      rcases q with q | ⟨q, _⟩
      · rcases hk with z | z
        · exact absurd (q.symm.trans z) (S.nocell _ (lookup_mem e'))
        · exact q.symm.trans z
      · exact q
    subst this
    exact hhas y (lookup_mem e')
  refine ⟨⟨I.ok.mod, S.kind, I.ok.glob, I.ok.blt, Nat.le_refl _, fun y z c h1 h2 => I.ok.inj y z c (hcl _ _ h1) (hcl _ _ h2), cut, fun y c hf _ => ?_, I.ok.hd, I.ok.frames, .inl rfl, fun b hb => ?_, I.bs, Nat.le_trans I.ok.bsz I.sz, fun b o e hb => ?_, nfs, I.stack, I.stkFree⟩,
    rfl, I.bare, Un.kept hk, ⟨_, hns, fun i y v h1 h2 h3 => ?_⟩, fun y c h => ?_, I.hok.fresh (Nat.le_refl _), fun y c h => I.freeC y c (hcl y c h), fun p hp => absurd (show p ∈ ([] : List (Addr × Obj)) from hp) (by simp), I.hok.kept hk, ?_⟩
  · exact absurd (show false = true from hf) (by decide)
  · obtain ⟨⟨f0, f1, f2, f3, f4, f5⟩, hl⟩ := hfp b hb
    exact ⟨Nat.ne_of_lt hl, fun y c h => f4 y c (hcl y c h)⟩
  · obtain ⟨⟨f0, f1, f2, f3, f4, f5⟩, hl⟩ := hfp b hb
    rcases f3 with z | z
    · exact I.ok.noex b o e z
    · exact absurd (Nat.lt_of_lt_of_le (Heap.lt_size e) (Nat.le_trans I.ok.bsz z)) (Nat.lt_irrefl _)
  ·
    have hlen : xs.length ≤ i := by
      rcases Nat.lt_or_ge i xs.length with z | z
      · have h2' : (List.replicate xs.length none ++ ix.map fun j => (σ[j]?).join)[i]? = some (some v) := h2
        rw [List.getElem?_append_left (by rw [List.length_replicate]; exact z), List.getElem?_replicate, if_pos z] at h2'
        cases h2'
      · exact z
    · obtain ⟨i, rfl⟩ : ∃ i', i = xs.length + i' := ⟨i - xs.length, by omega⟩
      have h1' : zs[i]? = some y := by
        have h1' : (xs ++ zs)[xs.length + i]? = some y := h1
        rw [List.getElem?_append_right (Nat.le_add_right _ _), Nat.add_sub_cancel_left] at h1'
        exact h1'
      have h2' : (ix.map fun j => (σ[j]?).join)[i]? = some (some v) := by
        have h2' : (List.replicate xs.length none ++ ix.map fun j => (σ[j]?).join)[xs.length + i]? = some (some v) := h2
        rw [List.getElem?_append_right (by rw [List.length_replicate]; exact Nat.le_add_right _ _), List.length_replicate, Nat.add_sub_cancel_left] at h2'
        exact h2'
      have ha : (ix.map fun j => X.N[j]?)[i]? = some (some y) := by rw [S.at_, List.getElem?_map, h1']; rfl
      rw [List.getElem?_map] at h2' ha
      cases e : ix[i]? with
      | none => rw [e] at h2'; cases h2'
      | some j =>
        rw [e] at h2' ha
        have ha' : X.N[j]? = some y := Option.some.inj ha
        have hj : (σ[j]?).join = some v := Option.some.inj h2'
        have hσ : σ[j]? = some (some v) := by
          cases q : σ[j]? with
          | none => rw [q] at hj; cases hj
          | some o => rw [q] at hj; exact congrArg some hj
        obtain ⟨m, hn, hl⟩ := I.loc
        have hfr := S.zfree y (List.mem_of_getElem? h1')
        have hkind := S.free _ (lookup_mem hfr) rfl
        have hv : Vis X.env.scope y := by
          rcases hkind with z | z
          · exact .inr (.inl z)
          · exact .inr (.inr z)
        obtain ⟨u, r, q⟩ := hl j y v ha' hσ hv
        refine ⟨u, r, ?_⟩
        rcases q with ⟨kl, _⟩ | ⟨_, c, hc, hcell⟩
        · have kl' : X.env.kindOf y = some .local := kl
          rcases hkind with z | z <;> (rw [z] at kl'; cases kl')
        · obtain ⟨c', hc'⟩ := hhas y (lookup_mem hfr)
          have ec : c' = c := by have := hcl y c' hc'; rw [hc] at this; exact (Option.some.inj this).symm
          subst ec
          refine .inr ⟨?_, c', hc', ?_⟩
          · have hvis : Vis (relabel sc X.env) y := h3
            rcases hvis with z | z | z
            · obtain ⟨k', e', q⟩ := lookup_relabel z
              rw [hfr] at e'
              cases e'
              rcases q with q | ⟨_, q⟩ <;> cases q
            · exact .inl z
            · exact .inr z
          · obtain ⟨o, ho, hd⟩ := hcell
            exact ⟨o, hk _ _ ho, hd⟩
  · obtain ⟨v, o, ho, hd⟩ := I.cell y c (hcl y c h)
    exact ⟨v, o, hk _ _ ho, hd⟩
  · show (List.replicate xs.length none ++ ix.map fun j => (σ[j]?).join).length = (xs ++ zs).length
    have := congrArg List.length S.at_
    simp only [List.length_map] at this
    simp only [List.length_append, List.length_replicate, List.length_map, this]
theorem compN_block {pins : List (Addr × Obj)} {σ : St} {H : Hp} {s : Shared} {sc : Scope} {x : Str} {xs : List Str} {zs : List Str} {ix : List Nat} {cl : List (Str × Addr)} {fp : List Addr} {it : Addr} {tn : Nat → Heap → Prop} {J : It}
    {elt tg iter : Expr} {ifs : List Expr} {pos : Pos} {g : TG} {tc : TT} {te : TE} {Q : VK} {E : Value → Shared → Prop} {RR : Value → Addr → Result → Shared → Prop}
    (hc : X.calm = true) (S : CompScope X sc x zs ix) (I : Inv X pins σ H s) (hcl : ∀ y c, cl.lookup y = some c → X.env.cells.lookup y = some c) (hhas : ∀ y, (y, NameKind.free) ∈ sc.names → ∃ c, cl.lookup y = some c)
    (T : Turn X.prog X.w X.K tg J fp it tn) (st : tn 0 s.heap) (hfp : ∀ b ∈ fp, FpOk X pins H b)
    (hin : ∀ C s H, PG (cxComp X sc cl C (xs ++ zs) s H fp) tg g ∧ PIf (cxComp X sc cl C (xs ++ zs) s H fp) ifs tc ∧ PE (cxComp X sc cl C (xs ++ zs) s H fp) elt te)
    (hq : ∀ p, H p = none → ∃ W : Nat → Nat → List V → St → Hp → Prop, (∃ m, W 0 m [] (embN xs.length ix σ) (upd H p (.lst []))) ∧ ∀ i m ys σ' H', W i m ys σ' H' →
      (J.stop i H' ∧ Q (.ref p) H') ∨ (J.go i H' ∧ ∀ x H2, J.yld i H' x H2 → g x σ' H2 fun σ2 H3 => tc σ2 H3 fun b H4 =>
        if b = true then te σ2 H4 fun v H5 => H5 p = some (.lst ys) ∧ ys.length < sizeLine ∧ ∃ m', m' < m ∧ W (i + 1) m' (ys ++ [v]) σ2 (upd H5 p (.lst (ys ++ [v])))
        else ∃ m', m' < m ∧ W (i + 1) m' ys σ2 H4))
    (hR : ∀ acc C f s', CompEnd X pins σ Q acc C s' → RR acc C (.ok f) s') :
    wpAny (model X.prog X.w) X.A (newList []) (fun acc s₃ => wpAny (model X.prog X.w) X.A (newFunctionEnv sc X.env.globals cl [] X.env.qual none .none (some X.env)) (fun cenv s₄ =>
      codeAny (model X.prog X.w) X.A (.compStart (.ListComp elt [⟨tg, iter, ifs, 0⟩] sc pos) 0 (.ref it) acc { cenv with scope := relabel sc X.env }) (RR acc cenv.locals) s₄) E s₃) E s := by
  refine wpAny_newObj_type (wpAny_newFunctionEnv S.nocell (by intro y hy; simp at hy) (fun h₁ hns₁ hsb₁ => ?_) S.kind)
  have I3 : Inv X pins σ (upd H s.heap.objs.size (.lst [])) { s with heap := s.heap.push { cls := .type "list", dict := none, data := .seq ([] : List Value).toArray } } := I.lnew (its := []) (ys := []) (t' := s.toks) .nil (Nat.zero_le _)
  dsimp only at hns₁ hsb₁ ⊢
  obtain ⟨W, ⟨m0, w0⟩, turn⟩ := hq s.heap.objs.size (I.hok.fresh (Nat.le_refl _))
  have lt : ∀ b ∈ fp, b < s.heap.objs.size := fun b hb => by
    obtain ⟨o, e, _⟩ := T.obj 0 s.heap st b hb
    exact Heap.lt_size e
  have up : ∀ b ∈ fp, ∀ o, (upd H s.heap.objs.size o) b = H b := fun b hb o => upd_ne (Nat.ne_of_lt (lt b hb))
  have kp : ∀ b o, (s.heap.push { cls := .type "list", dict := none, data := .seq ([] : List Value).toArray }).get? b = some o → h₁.get? b = some o := fun b o e =>
    hsb₁.extBut b o (Nat.ne_of_lt (Heap.lt_size e)) (Heap.get?_push_of_some _ e)
  have f3 : ∀ b ∈ fp, FpOk X pins (upd H s.heap.objs.size (.lst [])) b ∧ b < (s.heap.push { cls := .type "list", dict := none, data := .seq ([] : List Value).toArray }).objs.size := fun b hb => by
    obtain ⟨q0, q⟩ := hfp b hb
    refine ⟨⟨(up b hb _).trans q0, q⟩, ?_⟩
    rw [Heap.size_push]
    exact Nat.lt_succ_of_lt (lt b hb)
  generalize hS3 : ({ s with heap := s.heap.push { cls := .type "list", dict := none, data := .seq ([] : List Value).toArray } } : Shared) = s3 at I3
  have hH3 : s.heap.push { cls := .type "list", dict := none, data := .seq ([] : List Value).toArray } = s3.heap := by rw [← hS3]
  rw [hH3] at kp f3 hns₁ ⊢
  have st3 : tn 0 h₁ := T.keep 0 _ _ st fun b _ o e => kp b o (by rw [← hH3]; exact Heap.get?_push_of_some _ e)
  have J0 : Inv (cxComp X sc cl s3.heap.objs.size (xs ++ zs) s3 (upd H s.heap.objs.size (.lst [])) fp) [] (embN xs.length ix σ) (upd H s.heap.objs.size (.lst [])) { s3 with heap := h₁, toks := s3.toks } :=
    compN_start S I3 hcl hhas f3 hns₁ kp
  obtain ⟨hg, hif, he⟩ := hin s3.heap.objs.size s3 (upd H s.heap.objs.size (.lst []))
  have fpo : ∀ {H' : Hp}, (∀ b ∈ fp, H' b = none) → ∀ b ∈ fp, FpOk (cxComp X sc cl s3.heap.objs.size (xs ++ zs) s3 (upd H s.heap.objs.size (.lst [])) fp) [] H' b := fun {H'} hn b hb =>
    ⟨hn b hb, (J0.ok.exf b hb).1, J0.ok.exfs b hb, .inl hb, (J0.ok.exf b hb).2, fun p hp => absurd (show p ∈ ([] : List (Addr × Obj)) from hp) (by simp)⟩
  have loop : ∀ s4 : Shared, s4 = { s3 with heap := h₁, toks := s3.toks } →
      codeAny (model X.prog X.w) X.A (.compLoop (.ListComp elt [⟨tg, iter, ifs, 0⟩] sc pos) 0 (.ref it) (.ref s.heap.objs.size) (compEnvC sc cl s3.heap.objs.size X.env)) (RR (.ref s.heap.objs.size) s3.heap.objs.size) s4 := by
    rintro s4 rfl
    refine compLoop_any (fun n s' => ∃ i ys σ' H', Inv (cxComp X sc cl s3.heap.objs.size (xs ++ zs) s3 (upd H s.heap.objs.size (.lst [])) fp) [] σ' H' s' ∧ tn i s'.heap ∧ (∀ b ∈ fp, H' b = none) ∧ W i n ys σ' H') ?_ m0
      ⟨0, [], embN xs.length ix σ, _, J0, st3, fun b hb => (f3 b hb).1.1, w0⟩
    rintro n s5 ⟨i, ys, σ5, H5, I5, st5, fr5, w5⟩
    rcases turn i n ys σ5 H5 w5 with ⟨stop, qn⟩ | ⟨go, step⟩
    · refine thn (T.done (cxComp X sc cl s3.heap.objs.size (xs ++ zs) s3 (upd H s.heap.objs.size (.lst [])) fp) rfl rfl rfl hc i [] s5 σ5 H5 _ I5 (fpo fr5) st5 stop) fun r s6 ⟨hr, I6⟩ => ?_
      subst hr
      obtain ⟨m6, hm6, _⟩ := I6.loc
      refine hR _ _ _ _ ⟨s.heap.objs.size, H5, m6, rfl, hm6, ?_, I3.fpOk (Nat.le_refl _) I6.free, qn⟩
      exact I3.call' I6.os I6.base I6.hok I6.bare fun b hb => by
        obtain ⟨⟨f0, f1, f2, f3, f4, f5⟩, _⟩ := f3 b hb
        exact ⟨f3, f1, f4, f5⟩
    · refine thn (T.item (cxComp X sc cl s3.heap.objs.size (xs ++ zs) s3 (upd H s.heap.objs.size (.lst [])) fp) rfl rfl rfl hc i [] s5 σ5 H5 _ I5 (fpo fr5) st5 go) fun r s6 ⟨u, hr, h6⟩ => ?_
      subst hr
      refine thn h6 fun _ s7 ⟨x7, H7, I7, r7, y7, st7, fr7⟩ => ?_
      have I7' := I7.pinned (fpo fr7) (T.obj _ _ st7)
      refine thn (hg _ s7 σ5 H7 x7 u _ I7' r7 (step x7 H7 y7)) fun _ s8 ⟨σ8, H8, I8, q8⟩ => ?_
      refine thn (hif _ s8 σ8 H8 _ I8 q8) fun b s9 ⟨H9, I9, q9⟩ => ?_
      have again : ∀ {ys' : List V} {σ' : St} {H' : Hp} {m' : Nat} {s' : Shared}, Inv (cxComp X sc cl s3.heap.objs.size (xs ++ zs) s3 (upd H s.heap.objs.size (.lst [])) fp) ([] ++ pinsAt fp s7.heap) σ' H' s' → W (i + 1) m' ys' σ' H' → m' < n →
          ∃ m, m < n ∧ ∃ i ys σ' H', Inv (cxComp X sc cl s3.heap.objs.size (xs ++ zs) s3 (upd H s.heap.objs.size (.lst [])) fp) [] σ' H' s' ∧ tn i s'.heap ∧ (∀ b ∈ fp, H' b = none) ∧ W i m ys σ' H' := fun {ys' σ' H' m' s'} Iz wz hm => by
        refine ⟨m', hm, i + 1, ys', σ', H', Iz.unpinned, T.keep _ _ _ st7 fun b hb o e => (Iz.pin (b, o) (List.mem_append_right _ (List.mem_append_right _ (mem_pinsAt hb e)))).1, fun b hb => ?_, wz⟩
        obtain ⟨o, e, d⟩ := T.obj _ _ st7 b hb
        exact (Iz.pin (b, o) (List.mem_append_right _ (List.mem_append_right _ (mem_pinsAt hb e)))).2.1
      cases b with
      | false =>
        rw [if_neg Bool.false_ne_true] at q9 ⊢
        obtain ⟨m', hm, wz⟩ := q9
        exact again I9 wz hm
      | true =>
        rw [if_pos rfl] at q9 ⊢
        refine thn (he _ s9 σ8 H9 _ I9 q9) fun v s10 ⟨y, H10, I10, r10, hl, hz, m', hm, wz⟩ => ?_
        refine thn (mt_append _ s10 σ8 H10 (.ref s.heap.objs.size) [y] (.ref s.heap.objs.size) [v] (fun z H' => z = .non ∧ H' = upd H10 s.heap.objs.size (.lst (ys ++ [y]))) I10 rfl (.cons r10 .nil) ⟨_, ys, y, rfl, rfl, hl, hz, rfl, rfl⟩) fun _ s11 ⟨z, H11, I11, _, _, e11⟩ => ?_
        subst e11
        exact again I11 wz hm
  exact codeAny_compStart_list (loop _ (by subst hS3; rfl)) (T.self _ 0 _ _ _ st3 (loop _ (by subst hS3; rfl)))
theorem pe_compN {elt tg iter : Expr} {ifs : List Expr} {sc : Scope} {pos : Pos} {x : Str} {xs : List Str} {zs : List Str} {ix : List Nat} {wi : TI} {g : TG} {tc : TT} {te : TE}
    (hc : X.calm = true) (S : CompScope X sc x zs ix) (hi : PI X tg iter wi)
    (hin : ∀ cl C s H fp, PG (cxComp X sc cl C (xs ++ zs) s H fp) tg g ∧ PIf (cxComp X sc cl C (xs ++ zs) s H fp) ifs tc ∧ PE (cxComp X sc cl C (xs ++ zs) s H fp) elt te)
    (hs : ∀ x, foldedSetIterable iter X.env x = pure x := by intro _; rfl) :
    PE X (.ListComp elt [⟨tg, iter, ifs, 0⟩] sc pos) (tCompN xs.length ix wi g tc te) := by
  intro pins s σ H Q I h
  obtain ⟨cl, hclos, hcl, hhas⟩ := comp_closure I.ok S
  rw [eval_ListComp]
  refine wpAny_comprehension_free (use := none) rfl hs hclos S.kind S.names (thn (hi pins s σ H _ I h) fun v s1 h1 => thn h1 fun itv s2 h2 => ?_)
  obtain ⟨it, fp, tn, J, H2, e, I2, T, st2, f2, hq⟩ := h2
  subst e
  refine compN_block (RR := fun acc C => compPost (model X.prog X.w) X.A X.xe none (EP X pins σ Q) acc C) hc S I2 hcl hhas T st2 f2 (fun C s H => hin cl C s H fp) hq fun acc C f s' h => ?_
  obtain ⟨p, H', m, rfl, hm, I', ⟨g0, g1, g2, g3, g4, g5⟩, q⟩ := h
  exact ⟨m, hm, fun h' hb => ⟨.ref p, H', I'.turned (t' := s'.toks) (fun b o hne e => (hb.2 b hne).trans e) g0 g1 g3 g4 g5, rfl, q⟩⟩
end
structure WalksY (J : It) (n : Nat) (y : Nat → Hp → V → Hp → Prop) (H : Hp) : Prop where
  go : ∀ H' i, Same H H' → i < n → J.go i H'
  yld : ∀ H' i x H2, Same H H' → i < n → J.yld i H' x H2 → y i H' x H2
  stop : ∀ H', Same H H' → J.stop n H'
theorem Walks.y {J : It} {n : Nat} {f : Nat → V} {H : Hp} (w : Walks J n f H) : WalksY J n (fun i H' v H2 => H2 = H' ∧ v = f i) H := ⟨w.go, w.yld, w.stop⟩
theorem walks_enum {K : PySem.W.Frag} {a : Addr} {xs : List V} {H : Hp} (h : SqL K H a xs) : WalksY (Ite K a) xs.length (fun i H' v H2 => ∃ t, H' t = none ∧ v = .ref t ∧ H2 = upd H' t (.tup [.int i, xs.getD i .non])) H :=
  ⟨fun H' i e hi => ⟨xs, xs[i], e.seq h, by simp [hi]⟩, fun H' i x H2 e hi ⟨t, z, ht, hv, h2, hz⟩ => ⟨t, ht, hv, by
    have := hz xs (e.seq h)
    rw [h2]; simp [List.getD, this]⟩, fun H' e => ⟨xs, e.seq h, Nat.le_refl _⟩⟩
theorem compN_walk {own : Nat} {ix : List Nat} {g : TG} {tc : TT} {te : TE} {Q : Addr → Hp → Prop} {σ : St} {H : Hp} {J : It} {n : Nat} {y : Nat → Hp → V → Hp → Prop} (w : WalksY J n y H) (hn : n < sizeLine) (s : Nat → List (Option V)) (hs : ∀ i, (s i).length = own) (c : Nat → Bool) (R : Nat → V → Hp → Prop)
    (mono : ∀ i v H1 H2, Same H1 H2 → R i v H1 → R i v H2)
    (hg : ∀ i a H' v H2 (Kg : St → Hp → Prop), i < n → Same H H' → y i H' v H2 → a.length = own → (∀ H3, Same H' H3 → Kg (s i ++ ix.map fun j => (σ[j]?).join) H3) → g v (a ++ ix.map fun j => (σ[j]?).join) H2 Kg)
    (hc : ∀ i H' (Kc : Bool → Hp → Prop), i < n → Same H H' → (∀ H4, Same H' H4 → Kc (c i) H4) → tc (s i ++ ix.map fun j => (σ[j]?).join) H' Kc)
    (he : ∀ p i H' (Kc : VK), i < n → c i = true → H p = none → (∃ ys, H' p = some (.lst ys)) → Same H H' → (∀ v H5, Same H' H5 → R i v (hid H5 p) → Kc v H5) → te (s i ++ ix.map fun j => (σ[j]?).join) H' Kc)
    (q : ∀ p H' ys, H p = none → Same H H' → H' p = some (.lst ys) → Paired (fun i v => R i v (hid H' p)) ((List.range n).filter c) ys → Q p H') :
    ∀ p, H p = none → ∃ W : Nat → Nat → List V → St → Hp → Prop, (∃ m, W 0 m [] (embN own ix σ) (upd H p (.lst []))) ∧ ∀ i m ys σ' H', W i m ys σ' H' →
      (J.stop i H' ∧ Q p H') ∨ (J.go i H' ∧ ∀ x H2, J.yld i H' x H2 → g x σ' H2 fun σ2 H3 => tc σ2 H3 fun b H4 =>
        if b = true then te σ2 H4 fun v H5 => H5 p = some (.lst ys) ∧ ys.length < sizeLine ∧ ∃ m', m' < m ∧ W (i + 1) m' (ys ++ [v]) σ2 (upd H5 p (.lst (ys ++ [v])))
        else ∃ m', m' < m ∧ W (i + 1) m' ys σ2 H4) := by
  intro p hp
  have hidS : ∀ {H1 H2 : Hp}, Same H1 H2 → Same (hid H1 p) (hid H2 p) := fun {H1 H2} e b o z => by
    by_cases h : b = p
    · rw [h, hid_self] at z; cases z
    · rw [hid_ne h] at z ⊢; exact e b o z
  have hidU : ∀ {H1 : Hp} {o : HO}, Same (hid H1 p) (hid (upd H1 p o) p) := fun {H1 o} b u z => by
    by_cases h : b = p
    · rw [h, hid_self] at z; cases z
    · rw [hid_ne h] at z ⊢; rw [upd_ne h]; exact z
  refine ⟨fun i m ys σ' H' => m = n - i ∧ i ≤ n ∧ (∃ a, a.length = own ∧ σ' = a ++ ix.map fun j => (σ[j]?).join) ∧ Same H H' ∧ H' p = some (.lst ys) ∧ Paired (fun i v => R i v (hid H' p)) ((List.range i).filter c) ys,
    ⟨n, by simp, Nat.zero_le _, ⟨List.replicate own none, List.length_replicate, rfl⟩, same_new hp, upd_same, .nil⟩, ?_⟩
  rintro i m ys σ' H' ⟨rfl, hi, ⟨a, ha, rfl⟩, sm, hy, hl⟩
  by_cases hlt : i < n
  · refine .inr ⟨w.go H' i sm hlt, fun x H2 yl => ?_⟩
    have hlen : ys.length ≤ i := by
      rw [← Paired.length hl]
      exact Nat.le_trans (List.length_filter_le _ _) (by simp)
    refine hg i a H' x H2 _ hlt sm (w.yld H' i x H2 sm hlt yl) ha fun H3 s3 => ?_
    refine hc i H3 _ hlt (sm.trans s3) fun H4 s4 => ?_
    have sm4 := (sm.trans s3).trans s4
    have hy4 := s4 _ _ (s3 _ _ hy)
    have step : (List.range (i + 1)).filter c = (List.range i).filter c ++ (if c i = true then [i] else []) := by
      rw [List.range_succ, List.filter_append]
      congr 1
      by_cases h : c i = true <;> simp [h]
    have hl4 : Paired (fun i v => R i v (hid H4 p)) ((List.range i).filter c) ys := Paired.mapP hl fun _ _ z => mono _ _ _ _ (hidS (s3.trans s4)) z
    by_cases hci : c i = true
    · rw [hci, if_pos rfl]
      refine he p i H4 _ hlt hci hp ⟨ys, hy4⟩ sm4 fun v H5 s5 r5 => ⟨s5 _ _ hy4, by omega, n - (i + 1), by omega, rfl, hlt, ⟨s i, hs i, rfl⟩, (sm4.trans s5).new hp, upd_same, ?_⟩
      rw [step, if_pos hci]
      exact Paired.snoc (Paired.mapP hl4 fun _ _ z => mono _ _ _ _ ((hidS s5).trans hidU) z) (mono _ _ _ _ hidU r5)
    · have hcf : c i = false := by simpa using hci
      rw [hcf, if_neg Bool.false_ne_true]
      refine ⟨n - (i + 1), by omega, rfl, hlt, ⟨s i, hs i, rfl⟩, sm4, hy4, ?_⟩
      rw [step, if_neg hci, List.append_nil]
      exact hl4
  · have e : i = n := by omega
    subst e
    exact .inl ⟨w.stop H' sm, q p H' ys hp sm hy hl⟩
theorem hid_new {H : Hp} {p u : Addr} {o : HO} (h : ∃ ys, H p = some (.lst ys)) (hu : H u = none) : hid (upd H u o) p u = some o := by
  have n : u ≠ p := fun z => by
    obtain ⟨ys, e⟩ := h
    rw [← z, hu] at e
    cases e
  rw [hid_ne n, upd_same]
theorem hid_at {H H' : Hp} {p u : Addr} {o : HO} (h : ∃ ys, H p = some (.lst ys)) (hu : H u = none) (hu' : H' u = some o) : hid H' p u = some o := by
  have n : u ≠ p := fun z => by
    obtain ⟨ys, e⟩ := h
    rw [← z, hu] at e
    cases e
  rw [hid_ne n, hu']
theorem hid_tups {H H' : Hp} {p b : Addr} {xs : List V} (h : ∃ ys, H p = some (.lst ys)) (s : Same H H') (e : H' b = some (.tup xs)) : hid H' p b = some (.tup xs) := by
  have n : b ≠ p := fun z => by
    obtain ⟨ys, e'⟩ := h
    rw [z, s _ _ e'] at e
    cases e
  rw [hid_ne n, e]
theorem paired_map {R : Nat → V → Hp → Prop} {H : Hp} {r : Nat → V} (h : ∀ i v, R i v H → v = r i) : ∀ {is : List Nat} {ys : List V}, Paired (fun i v => R i v H) is ys → ys = is.map r
  | _, _, .nil => rfl
  | _, _, .cons a t => by rw [h _ _ a, paired_map h t]; rfl
theorem for_walkY {J : It} {n : Nat} {y : Nat → Hp → V → Hp → Prop} {H0 : Hp} (w : WalksY J n y H0) {g : TG} {tb : TS} {D : Ends} {σ : St} {H : Hp} (Pv : Nat → St → Hp → Prop) (h0 : Pv 0 σ H) (hk : ∀ i σ H, Pv i σ H → Same H0 H)
    (hs : ∀ i σ H v H', i < n → Pv i σ H → y i H v H' → g v σ H' fun σ2 H2 => tb { D with nx := Pv (i + 1), ct := Pv (i + 1), bk := D.nx } σ2 H2) (hd : ∀ σ H, Pv n σ H → D.nx σ H) :
    ∃ W : Nat → Nat → St → Hp → Prop, (∃ m, W 0 m σ H) ∧ ∀ i m σ H, W i m σ H →
      (J.stop i H ∧ D.nx σ H) ∨ (J.go i H ∧ ∃ N : St → Hp → Prop, (∀ σ' H', N σ' H' → ∃ m', m' < m ∧ W (i + 1) m' σ' H') ∧ ∀ x H', J.yld i H x H' → g x σ H' fun σ2 H2 => tb { D with nx := N, ct := N, bk := D.nx } σ2 H2) := by
  refine ⟨fun i m σ H => m = n - i ∧ i ≤ n ∧ Pv i σ H, ⟨n, by simp, Nat.zero_le _, h0⟩, ?_⟩
  rintro i m σ H ⟨rfl, hi, p⟩
  have sm := hk i σ H p
  by_cases hlt : i < n
  · exact .inr ⟨w.go H i sm hlt, Pv (i + 1), fun σ' H' p' => ⟨n - (i + 1), by omega, rfl, hlt, p'⟩, fun x H' yl => hs i σ H x H' hlt p (w.yld H i x H' sm hlt yl)⟩
  · have e : i = n := by omega
    subst e
    exact .inl ⟨w.stop H sm, hd σ H p⟩
namespace Rd
section
variable {σ : St} {H : Hp} {Q : VK} {D : Ends} {K : PySem.W.Frag}
theorem compNE {n : Nat} {ix : List Nat} {wi : TI} {g : TG} {tc : TT} {te : TE} (h : wi σ H fun J H1 => ∀ p, H1 p = none →
  ∃ W : Nat → Nat → List V → St → Hp → Prop, (∃ m, W 0 m [] (embN n ix σ) (upd H1 p (.lst []))) ∧ ∀ i m ys σ' H', W i m ys σ' H' →
    (J.stop i H' ∧ Q (.ref p) H') ∨ (J.go i H' ∧ ∀ x H2, J.yld i H' x H2 → g x σ' H2 fun σ2 H3 => tc σ2 H3 fun b H4 =>
      if b = true then te σ2 H4 fun v H5 => H5 p = some (.lst ys) ∧ ys.length < sizeLine ∧ ∃ m', m' < m ∧ W (i + 1) m' (ys ++ [v]) σ2 (upd H5 p (.lst (ys ++ [v])))
      else ∃ m', m' < m ∧ W (i + 1) m' ys σ2 H4)) : tCompN n ix wi g tc te σ H Q := h
theorem ienum {ts : TA} {R : It → Hp → Prop} (h : ts σ H fun vs H1 => ∃ a, vs = [.ref a] ∧ (∃ xs, SqL K H1 a xs) ∧ R (Ite K a) H1) : iEnum K ts σ H R := h
theorem ienum2 {a : Addr} {xs : List V} {G : Addr → Prop} (h : SqL K H a xs) (q : G a) : ∃ a', [V.ref a] = [.ref a'] ∧ (∃ xs, SqL K H a' xs) ∧ G a' := ⟨a, rfl, ⟨xs, h⟩, q⟩
theorem dnew (h : ∀ p, H p = none → Q (.ref p) (upd H p (.dK []))) : tDNewK σ H Q := h
theorem dinS {a : Addr} {kvs : List (Key × V)} {x : Str} (h : H a = some (.dK kvs)) (q : Q (.bl (valV kvs (Sum.inr x)).isSome) H) : rDIn (.str x) (.ref a) H Q := ⟨a, _, rfl, DGet.k (k := Sum.inr x) h, q⟩
theorem dninI {a : Addr} {kvs : List (Key × V)} {x : Int} (h : H a = some (.dK kvs)) (q : Q (.bl (!(valV kvs (Sum.inl x)).isSome)) H) : rDNotIn (.int x) (.ref a) H Q := ⟨a, _, rfl, DGet.k (k := Sum.inl x) h, q⟩
theorem dsetS {a : Addr} {kvs : List (Key × V)} {x : Str} {v : V} {Q : Hp → Prop} (h : H a = some (.dK kvs)) (hl : kvs.length < sizeLine) (q : Q (upd H a (.dK (putK kvs (Sum.inr x) v)))) : rSetD (.ref a) (.str x) v H Q := ⟨a, _, rfl, DPut.k (k := Sum.inr x) h hl, q⟩
theorem dsetI {a : Addr} {kvs : List (Key × V)} {x : Int} {v : V} {Q : Hp → Prop} (h : H a = some (.dK kvs)) (hl : kvs.length < sizeLine) (q : Q (upd H a (.dK (putK kvs (Sum.inl x) v)))) : rSetD (.ref a) (.int x) v H Q := ⟨a, _, rfl, DPut.k (k := Sum.inl x) h hl, q⟩
theorem dlen {a : Addr} {kvs : List (Key × V)} (h : H a = some (.dK kvs)) (q : Q (.int kvs.length) H) : rLenD [.ref a] H Q := ⟨a, kvs, rfl, h, q⟩
theorem dlist {a : Addr} {kvs : List (Key × V)} (h : H a = some (.dK kvs)) (q : ∀ l, H l = none → Q (.ref l) (upd H l (.lst (kvs.map fun kv => kV kv.1)))) : rListD [.ref a] H Q := ⟨a, kvs, rfl, h, q⟩
theorem augS {to ti te : TE} {tget : V → V → Hp → VK → Prop} {tip : TIp} {tset : TSet} (h : to σ H fun o H1 => ti σ H1 fun i H2 => tget o i H2 fun x H3 => te σ H3 fun y H4 => tip x y H4 fun z H5 => tset o i z H5 fun H6 => D.nx σ H6) : tAugS to ti te tget tip tset D σ H := h
theorem ipi {f : Int → Int → Int} {i j : Int} (q : Q (.int (f i j)) H) : ipI f (.int i) (.int j) H Q := ⟨i, j, rfl, rfl, q⟩
end
end Rd
section
variable {X : Cx}
theorem get_list : PGet X (rIxL X.K) := by
  intro pins s σ H o i ov iv Q I ro ri h
  obtain ⟨p, xs, k, z, rfl, rfl, hq, he, q⟩ := h
  cases ro
  obtain ⟨t, rfl⟩ := ri
  obtain ⟨its, r, pl, hz⟩ := I.list hq
  obtain ⟨j, h1, h2, h3, h4, h5⟩ := atI_get he
  obtain ⟨w, ew, rw'⟩ := r.get h2
  have hl := r.length
  have hn := line63
  have fin : EP X pins σ Q w s := ⟨z, H, I, rw', q⟩
  by_cases h0 : 0 ≤ k
  · have hj : k.toNat = j := by
      rw [seqIndex_of h0 h5] at h1
      exact Option.some.inj h1
    exact wpAny_getItem_list pl.isList h0 (by omega) (by rw [hj]; simpa using ew) fin
  · have hj : (k + (its.toArray.size : Int)).toNat = j := by
      rw [seqIndex_neg (by omega) h4] at h1
      rw [List.size_toArray, ← hl]
      exact Option.some.inj h1
    exact wpAny_getItem_list_neg pl.isList (by omega) (by rw [List.size_toArray] <;> omega) (by omega) (by rw [hj]; simpa using ew) fin
theorem get_listK {K : PySem.W.Frag} (e : X.K = K) : PGet X (rIxL K) := e ▸ get_list
end
end L2
namespace L2
open PySem PySem.Spec PyProof.Rows
section
variable {X : Cx} {K : PySem.W.Frag}
def rMulS : R2 := fun x y H Q => ∃ (z : Str) (n : Int), x = .str z ∧ y = .int n ∧ MulOk z n ∧ Q (.str (Txt.mul z n)) H
theorem op_mulS : OpR X (binaryOp .Mult) rMulS := by
  intro pins s σ H x y v u Q I rx ry h
  obtain ⟨z, n, rfl, rfl, ok, q⟩ := h
  obtain ⟨t, rfl⟩ := rx
  obtain ⟨t', rfl⟩ := ry
  exact SB.mul ok fun t' k => ⟨.str _, H, I.tok _, ⟨_, rfl⟩, q⟩
end
namespace Rd
section
variable {σ : St} {H : Hp} {Q : VK} {K : PySem.W.Frag}
theorem mulS {z : Str} {n : Int} (h : MulOk z n) (q : Q (.str (Txt.mul z n)) H) : rMulS (.str z) (.int n) H Q := ⟨z, n, rfl, rfl, h, q⟩
theorem rep {r : R2} {l : Addr} {k : Int} {xs : List V} (h : H l = some (.lst xs)) (h0 : 0 ≤ k) (h1 : k < 1000) (hz : xs.length * k.toNat ≤ sizeLine) (q : ∀ p, H p = none → Q (.ref p) (upd H p (.lst (List.replicate k.toNat xs).flatten))) : rOr r rRep (.ref l) (.int k) H Q :=
  .inr ⟨l, k, xs, rfl, rfl, h, by omega, by omega, hz, q⟩
end
end Rd
theorem ints_getD {xs : List Int} {i : Nat} (h : i < xs.length) : (xs.map V.int).getD i .non = .int (xs.getD i 0) := by simp [List.getD, h]
end L2
namespace L2
open PySem PySem.Spec PyProof.Rows
section
variable {X : Cx}
end
namespace Rd
end Rd
end L2
namespace L2
open PySem PySem.Spec PySem.W PyProof.Rows Builtin Builtin.ObjectAttr Builtin.Getset_descriptor
def ExcAt (x C : Addr) (h : Heap) : Prop := ∃ o, h.get? x = some o ∧ o.cls = .ref C
theorem ExcAt.type {M : Model} {h : Heap} {x C : Addr} (I : ExcAt x C h) : Looks M h (typeOf (.ref x)) (.ref C) := by
  obtain ⟨o, h1, h2⟩ := I
  exact h2 ▸ (Looks.ld h1).andThen .now
structure ExcCls (K : Frag) (C : Addr) : Prop where
  cl : (clsIn K C).isSome = true
  ga : findIn K (.ref C) "__getattribute__" = some (some (.builtin "BaseException.__getattribute__"))
  gk : findIn K (.ref C) "__getattr__" = some none
  ca : findIn K (.ref C) "__class__" = some (some (.builtin "object.__class__"))
  cg : specialIn K (.builtin "object.__class__") "__get__" = some (some (.builtin "getset_descriptor.__get__"))
  ct : takesIn K (.builtin "object.__class__") = some true
  sub : subIn K (.ref C) (.type "BaseException") = some true
  mr : mroIn K C (.type "object") = some true
section
variable {prog : Program} {w : World} {A : Around} {E : Value → Shared → Prop} {s : Shared} {K : Frag} {x C : Addr}
theorem exc_find {M : Model} {h : Heap} (X : K.In h) (c : ExcCls K C) : Looks M h (Builtin.ObjectAttr.find (.ref x) (.ref C) "__class__") (.bind (.builtin "getset_descriptor.__get__") (.builtin "object.__class__")) := by
  have L1 := looks_findIn (M := M) X c.ca
  have L2 : Looks M h (Builtin.ObjectAttr.getOf (some (.builtin "object.__class__"))) (some (.builtin "getset_descriptor.__get__")) := looks_specialIn X c.cg
  have L3 := looks_takesIn (M := M) X c.ct
  exact L1.andThen (L2.andThen ((show Looks M h (Builtin.ObjectAttr.dataDescriptor? (some (.builtin "object.__class__")) (some (.builtin "getset_descriptor.__get__"))) (some (.builtin "getset_descriptor.__get__", .builtin "object.__class__")) from L3.andThen .now).andThen (Looks.tag .now)))
theorem exc_get {tp : Value} {R : Result → Shared → Prop} (X : K.In s.heap) (I : ExcAt x C s.heap) (c : ExcCls K C) (h : R (.ok (.ret (.ref C))) s) : codeAny (model prog w) A (.call (.builtin "getset_descriptor.__get__") ⟨[.builtin "object.__class__", .ref x, tp], []⟩) R s := by
  obtain ⟨hh, g, dr, t, os⟩ := s
  have L0 := I.type (M := model prog w)
  have L1 := looks_mroIn (M := model prog w) X c.mr
  refine codeAny_call_builtin KF.slot_gs.plain KF.entry_gs (KF.slot_gs.check _ _ _ _ _ _ _ _ KF.type_class (KF.args_gs _ _ _) ?_)
  unfold Builtin.«getset_descriptor.__get__» descrGet
  rw [dga_obj]
  refine wpAny_bind (wpAny_pure ?_)
  unfold descrGetter descrCheckInstance descrNameAndClass isInstance
  simp only [KF.owner_class]
  repeat lk
  refine ⟨Code.quiet_builtin _ (by decide +kernel), codeAny_builtin KF.entry_class ?_⟩
  unfold Builtin.«object.__class__» shownTypeOf
  repeat lk
  exact h
theorem exc_entry {tk : Tok} {Q : Fin → Shared → Prop} (X : K.In s.heap) (I : ExcAt x C s.heap) (c : ExcCls K C)
    (h : Q (.done (.ret (.ref C))) s) : wpAny (model prog w) A (Builtin.«object.__getattribute__» ⟨[.ref x, .str "__class__" tk], []⟩) Q E s := by
  obtain ⟨hh, g, d, t, os⟩ := s
  have L0 := I.type (M := model prog w)
  have L3 := exc_find (M := model prog w) (x := x) X c
  show wpAny _ _ (typeOf (.ref x) >>= _) _ _ _
  refine wpAny_bind (L0.at (wpAny_bind (L3.at ?_)))
  show wpAny _ _ (holding [Value.builtin "object.__class__"] (call (.builtin "getset_descriptor.__get__") [.builtin "object.__class__", .ref x, .ref C]) >>= ret) _ _ _
  exact wpAny_bind (wpAny_holding (wpAny_call (exc_get (s := ⟨hh, g, d, t, os⟩) X I c (wpAny_pure h))))
theorem exc_class {Q : Option Value → Shared → Prop} (X : K.In s.heap) (I : ExcAt x C s.heap) (c : ExcCls K C) (h : Q (some (.ref C)) { s with toks := s.toks + 1 }) : wpAny (model prog w) A (getAttr? (.ref x) "__class__") Q E s := by
  obtain ⟨hh, g, d, t, os⟩ := s
  have L0 := I.type (M := model prog w)
  have L1 := looks_findIn (M := model prog w) X c.ga
  have L2 := looks_findIn (M := model prog w) X c.gk
  have L4 : Looks (model prog w) hh (isSubtype (.ref C) (.type "BaseException")) true := looks_subIn X c.sub
  have LI : Looks (model prog w) hh (isInstance (.ref x) (.type "BaseException")) true := L0.andThen L4
  unfold getAttr? getAttrBy? getAttrBy
  refine wpAny_bind (wpAny_mkText (wpAny_bind (wpAny_attempt (wpAny_holding (wpAny_bind (L0.at (wpAny_bind (L1.at ?_))))))))
  show wpAny _ _ (getAttrByItsOwn _ _ _ _ _ _) _ _ _
  unfold getAttrByItsOwn hookBefore
  refine wpAny_bind (L2.at (wpAny_bind (wpAny_attempt (wpAny_holding ?_))))
  show wpAny _ _ (bindSpecial _ _ >>= _) _ _ _
  rw [F.excAttr_ValueError.ga.bind (.ref x)]
  refine wpAny_bind (wpAny_pure (wpAny_call (codeAny_call_builtin F.excAttr_ValueError.ga.plain F.entry_bexc_ga ?_)))
  have hk : builtinKind "BaseException.__getattribute__" = some .slot := by decide +kernel
  have hsp : splitId "BaseException.__getattribute__" = some ("BaseException", "__getattribute__") := by decide +kernel
  have ha := F.args_bexc_ga (.ref x) (.str "__class__" t)
  have chk : ∀ (Q : Unit → Shared → Prop) (E : Value → Shared → Prop), Q () ⟨hh, g, d, t + 1, os⟩ → wpAny (model prog w) A.in1 (checkBuiltinCall "BaseException.__getattribute__" ⟨[.ref x, .str "__class__" t], []⟩) Q E ⟨hh, g, d, t + 1, os⟩ := fun Q E hQ => by
    simp only [checkBuiltinCall, hk, hsp]
    refine wpAny_bind (LI.at ?_)
    simp only [Bool.not_true, Bool.false_eq_true, if_false]
    cases hsig : Manifest.signature? "BaseException.__getattribute__" with
    | none => exact wpAny_pure hQ
    | some sig =>
      simp only [argsOk, hsig] at ha
      have h2 : Bind.checkArgs "BaseException.__getattribute__" sig ⟨[.ref x, .str "__class__" t], []⟩ = pure () := ha
      show wpAny _ _ (Bind.checkArgs "BaseException.__getattribute__" sig ⟨[.ref x, .str "__class__" t], []⟩) Q E _
      rw [h2]; exact wpAny_pure hQ
  refine chk _ _ ?_
  refine exc_entry (s := ⟨hh, g, d, t + 1, os⟩) (A := A.in1) X I c ?_
  exact handed_on rfl (wpAny_pure h)
theorem kitx_exc (c : ExcCls K C) : KitX K (.ref x) (.ref C) (ExcAt x C) where
  ty := fun _ _ _ I => I.type
  it := fun _ _ X _ => by
    obtain ⟨cdD, hcD⟩ := Option.isSome_iff_exists.mp c.cl
    unfold clsIn at hcD
    split at hcD
    · rename_i c' d' cd' sl' ho
      intro A' Q' E' s' k q
      unfold isType loadHead
      exact wpAny_bind (wpAny_loadPart (k _ _ (X _ _ ho)) (wpAny_pure q))
    · cases hcD
  ne := fun h tp dd its n sl X htp => by
    obtain ⟨cdD, hcD⟩ := Option.isSome_iff_exists.mp c.cl
    refine Bool.eq_false_iff.mpr fun q => ?_
    have e : C = tp := Value.ref.inj (beq_iff_eq.mp q)
    subst e
    unfold clsIn at hcD
    split at hcD
    · rename_i c' d' cd' sl' ho
      have z := (X _ _ ho).symm.trans htp
      cases z
    · cases hcD
  ca := fun X I k => exc_class X I c k
end
def excO (x C : Addr) : HO := .ext (ExcAt x C)
section
variable {X : Cx}
def rIsE (K : Frag) : List V → Hp → VK → Prop := fun xs H Q => ∃ (x C : Addr) (c : V) (u : Value) (b : Bool), xs = [.ref x, c] ∧ H x = some (excO x C) ∧ ExcCls K C ∧ (∀ v, RelV c v → v = u) ∧ kitOne K (.ref C) u = some b ∧ Q (.bl b) H
theorem isE_K {K : Frag} (e : X.K = K) : CallR X (.builtin "isinstance") (rIsE K) := by
  subst e
  intro pins s σ H xs us Q I r h
  obtain ⟨x, C, c, u, b, rfl, hx, ec, hu, hk, q⟩ := h
  cases r with
  | cons r1 rr =>
    obtain ⟨v, rfl, rv⟩ := vals1 rr
    cases (show _ = Value.ref x from r1)
    have ev := hu v rv
    subst ev
    obtain ⟨hφ, _, _⟩ := (show ObjOk X.prog X.w H s.heap x (excO x C) from I.hok x _ hx)
    exact kia_one (kitx_exc ec) I.kIn hφ hk (fun z => nomatch z) fun tk => ⟨.bl b, H, I.tok tk, rfl, q⟩
end
end L2
namespace L2
open PySem PySem.Spec PyProof.Rows
section
variable {X : Cx} {pins : List (Addr × Obj)} {σ : List (Option V)} {H : Hp} {s : Shared}
theorem Inv.track {ea : Addr} {o : HO} (I : Inv X pins σ H s) (h0 : ∀ ob, X.s₀.heap.get? ea = some ob → ea ∈ X.ex) (hL : ea ≠ X.env.locals) (hc : ∀ x c, X.env.cells.lookup x = some c → c ≠ ea) (hp : ∀ p ∈ X.pn ++ pins, p.1 ≠ ea) (hn : H ea = none)
    (new : ObjOk X.prog X.w (upd H ea o) s.heap ea o) : Inv X pins σ (upd H ea o) s := by
  refine ⟨I.ok, I.os, I.bare, ⟨I.base.keep, I.base.slot, fun b ob e n hx => ?_, I.base.there, fun b xs e => ?_, fun b ob u e => ?_, fun b ps e => ?_⟩, I.loc, I.cell, ?_, fun x c e => ?_, fun p hp' => ?_, fun b u e => ?_, I.len⟩
  · rw [upd_ne (fun z => hx (by rw [z]; exact h0 ob (by rw [← z]; exact e)))]
    exact I.base.free b ob e n hx
  · rw [upd_ne (ne_of_none (I.base.tups b xs e) hn)]; exact I.base.tups b xs e
  · rw [upd_ne (ne_of_none (I.base.frzs b ob u e) hn)]; exact I.base.frzs b ob u e
  · obtain ⟨more, q⟩ := I.base.tbls b ps e
    exact ⟨more, by rw [upd_ne (ne_of_none q hn)]; exact q⟩
  · rw [upd_ne (Ne.symm hL)]; exact I.free
  · rw [upd_ne (hc x c e)]; exact I.freeC x c e
  · obtain ⟨a, b, r⟩ := I.pin p hp'
    exact ⟨a, by rw [upd_ne (hp p hp')]; exact b, r⟩
  · by_cases hb : b = ea
    · subst hb; rw [upd_same] at e; cases e; exact new
    · rw [upd_ne hb] at e
      exact (I.hok b u e).stay (fun c v _ q => q) (fun c q => by rw [upd_ne (ne_of_none q hn)]; exact q) fun c xs q => by rw [upd_ne (ne_of_none q hn)]; exact q
theorem Inv.dropName {h' : Heap} {t' : Nat} {j : Nat} {n : Str} {m : Str → Option Value} {v : Option Value} (I : Inv X pins σ H s) (hN : X.N.Nodup) (hj : X.N[j]? = some n) (hs : Heap.SameBut X.env.locals s.heap h')
    (hm : ∀ (i : Nat) x w, X.N[i]? = some x → σ[i]? = some (some w) → Vis X.env.scope x → ∃ u, RelV w u ∧ Look X.env s.heap m x u) (hn : h'.Ns X.env.locals (fun x => if x = n then v else m x)) : Inv X pins (σ.set j none) H { s with heap := h', toks := t' } := by
  have neL : ∀ b o, X.s₀.heap.get? b = some o → b ≠ X.env.locals := fun b o e => Nat.ne_of_lt (Nat.lt_of_lt_of_le (Heap.lt_size e) I.ok.above)
  have k : ∀ b o, b ≠ X.env.locals → s.heap.get? b = some o → h'.get? b = some o := fun b o hb e => (hs.2 b hb).trans e
  refine ⟨I.ok, I.os, I.bare, ⟨fun b o e n' hb hx => k b o (neL b o e) (I.base.keep b o e n' hb hx), fun b o e n' hb hx => ?_, I.base.free, fun b o e hx => ?_, I.base.tups, I.base.frzs, I.base.tbls⟩, ⟨_, hn, fun i x w e1 e2 e3 => ?_⟩, fun x c e => ?_, I.free, I.freeC, fun p hp => ?_, fun b u e => ?_, by rw [List.length_set]; exact I.len⟩
  · obtain ⟨sl, q⟩ := I.base.slot b o e n' hb hx
    exact ⟨sl, k b _ (neL b o e) q⟩
  · obtain ⟨o', q⟩ := I.base.there b o e hx
    exact ⟨o', k b o' (neL b o e) q⟩
  · by_cases ij : i = j
    · subst ij
      have : (σ.set i none)[i]? = some none ∨ (σ.set i none)[i]? = none := by
        rcases Nat.lt_or_ge i σ.length with z | z
        · exact .inl (by rw [List.getElem?_set_self z])
        · exact .inr (List.getElem?_eq_none (by rw [List.length_set]; exact z))
      rcases this with z | z <;> (rw [z] at e2; cases e2)
    · rw [List.getElem?_set_ne (fun z => ij z.symm)] at e2
      obtain ⟨u, r, l⟩ := hm i x w e1 e2 e3
      have nx : x ≠ n := fun z => ij (nodup_ix hN (by rw [e1, z]) hj)
      refine ⟨u, r, ?_⟩
      rcases l with ⟨a, b⟩ | ⟨a, c, e, o, ho, hd⟩
      · exact .inl ⟨a, by simp only [if_neg nx]; exact b⟩
      · exact .inr ⟨a, c, e, o, k c o (I.cne x c e) ho, hd⟩
  · obtain ⟨w, o, ho, hd⟩ := I.cell x c e
    exact ⟨w, o, k c o (I.cne x c e) ho, hd⟩
  · obtain ⟨a, b, c, r⟩ := I.pin p hp
    exact ⟨k _ _ c a, b, c, r⟩
  · refine (I.hok b u e).stay (fun c v' hc q => k c v' ?_ q) (fun _ q => q) fun _ _ q => q
    rcases hc with z | z
    · rw [z]; exact ne_of_none e I.free
    · exact ne_of_none z I.free
end
section
variable {X : Cx}
def tTryAs (K : PySem.W.Frag) (c : Value) (j : Nat) (tb : (St → Prop) → XK → TS) (th : TS) : TS := fun D σ H => ∃ (J : St → Prop) (E1 : XK), tb J E1 D σ H ∧ ∀ σ' cls H', J σ' → E1 cls none H' → PySem.W.exmOne K cls c = some true ∧ ∃ C, cls = .ref C ∧ ∀ ea, H' ea = none →
  th { D with nx := fun σ2 H2 => D.nx (σ2.set j none) H2, bk := fun σ2 H2 => D.bk (σ2.set j none) H2, ct := fun σ2 H2 => D.ct (σ2.set j none) H2 } (σ'.set j (some (.ref ea))) (upd H' ea (excO ea C))
theorem ps_tryAs {n : Str} {j : Nat} {body : List Stmt} {b₀ : Stmt} {suite : List Stmt} {x : Str} {np hpos pos : Pos} {tb : (St → Prop) → XK → TS} {th : TS} {C : Addr}
    (hst : X.stack = X.env :: X.outer) (hfr : X.env.frame = some X.env.locals) (hg : Gl X x) (hm : X.mg x = some (.ref C)) (hb : PTry X body tb) (hs : PSuite X (b₀ :: suite) th) (hN : X.N.Nodup) (hj : X.N[j]? = some n) (hloc : X.env.scope.names.lookup n = some .local) (hdb : (x == ("__debug__" : Str)) = false := by decide) :
    PS X (.Try body [.ExceptHandler (some (.Name x np)) (some n) (b₀ :: suite) hpos] [] [] pos) (tTryAs X.K (.ref C) j tb th) := by
  intro pins s σ H D I h
  obtain ⟨J, E1, hb1, hh⟩ := h
  have hfra : X.A.frames = some (X.env :: X.outer) := by rw [I.ok.frames, hst]
  refine wpAny_Try_except ?_
  let xe1 : Value → Shared → Prop := fun e s₁ => wpAny (model X.prog X.w) X.A (noteFrame e X.env) (fun _ s₂ => wpAny (model X.prog X.w) X.A (setFlight e none) (fun _ s₃ => wpAny (model X.prog X.w) X.A (handleBy e X.env [.ExceptHandler (some (.Name x np)) (some n) (b₀ :: suite) hpos]) (SP X pins D) X.xe s₃) X.xe s₂) X.xe s₁
  have own : PassesOwn (model X.prog X.w) X.A X.env xe1 := PassesOwn.looking
  have back : ∀ {xe : Value → Shared → Prop} {pins' : List (Addr × Obj)} {σ' : St} {H' : Hp} {s' : Shared}, Inv { X with pn := X.pn ++ pins, xe := xe } pins' σ' H' s' → Inv X pins σ' H' s' := fun {xe pins' σ' H' s'} J => by
    have o := J.ok
    exact ⟨⟨o.mod, o.kind, o.glob, o.blt, o.above, o.inj, o.has, o.cab, o.hd, o.frames, o.stk, o.exf, o.bs, o.bsz, o.noex, o.exfs, o.funs, o.frf⟩, J.os, J.bare, J.base, J.loc, J.cell, J.free, J.freeC, fun p hp => J.pin p (List.mem_append_left _ hp), J.hok, J.len⟩
  have forth : Inv { X with pn := X.pn ++ pins, xe := xe1 } [] σ H s := by
    have o := I.ok
    exact ⟨⟨o.mod, o.kind, o.glob, o.blt, o.above, o.inj, o.has, o.cab, o.hd, o.frames, o.stk, o.exf, o.bs, o.bsz, o.noex, o.exfs, o.funs, o.frf⟩, I.os, I.bare, I.base, I.loc, I.cell, I.free, I.freeC, fun p hp => I.pin p (by simpa using hp), I.hok, I.len⟩
  have pas : PassesJ (CXX X.prog X.w) { X with pn := X.pn ++ pins, xe := xe1 } J E1 := by
    intro pins' σ' H1 s1 e s' hJ I1 hcx
    obtain ⟨ea, cls, a0, H', B, rfl, os, bare, un, ok, fl, hB, q⟩ := hcx
    have I' := back I1
    obtain ⟨hmt, Ce, rfl, hth⟩ := hh σ' cls H' hJ q
    have fl0 : Heap.FlyingW B (X.env :: X.outer) ea (.ref Ce) a0 s'.heap := by rw [← hst]; exact fl
    show wpAny _ _ _ _ _ _
    refine wpAny_looks_onW hfra hfr fl0 fun h₄ held₄ sl₄ => ?_
    refine wpAny_landsW held₄ fun h₅ fl₅ sl₅ => ?_
    have there : ∀ {h6 : Heap}, Heap.FlyingW B (X.env :: X.outer) ea (.ref Ce) a0 h6 → s'.heap.UpToSlots h6 → Inv X pins σ' H' { s' with heap := h6 } := fun {h6} f6 sl => by
      have u6 : Un (frs X.stack) [] H1 H' s1.heap h6 := un.fly hB f6.1 sl (fun b hb o e => by
        obtain ⟨_, o', e', d⟩ := I'.stack.mem hb
        rw [e] at e'
        cases e'
        exact d) I'.stkFree
      exact I'.call' (s' := { s' with heap := h6 }) os u6 (ok.stays (fun b o e n => hB b o e (.inl n)) f6.1) bare (fun b z => absurd z (by simp))
    have held : ∀ {s6 : Shared}, Inv X pins σ' H' s6 → Inv { X with A := X.A.mark (some (.ref ea)), calm := false, xe := fun _ _ => False } pins σ' H' s6 := fun {s6} J => by
      have o := J.ok
      exact ⟨⟨o.mod, o.kind, o.glob, o.blt, o.above, o.inj, o.has, o.cab, fun z => absurd (show false = true from z) Bool.false_ne_true, o.frames, o.stk, o.exf, o.bs, o.bsz, o.noex, o.exfs, o.funs, o.frf⟩, J.os, J.bare, J.base, J.loc, J.cell, J.free, J.freeC, J.pin, J.hok, J.len⟩
    have I5 := held (there fl₅ (sl₄.trans sl₅))
    refine wpAny_handleBy_cons (codeAny_handlers_test ?_) (by intro q; cases q)
    refine ld_glob I5 hg hm ?_ hdb
    obtain ⟨ob, hob, hobc⟩ := fl₅.there
    have LT : PySem.W.Looks (model X.prog X.w) h₅ (typeOf (.ref ea)) (.ref Ce) := by
      exact hobc ▸ (PySem.W.Looks.ld hob).andThen .now
    refine (PySem.W.exm_one I5.kIn LT hmt).here ?_
    refine codeAny_handlers_suite_as ?_
    refine lands_againW fl₅ fun h₆ fl₆ sl₆ => ?_
    have I6 := held (there fl₆ ((sl₄.trans sl₅).trans sl₆))
    obtain ⟨oe, heo, hec⟩ := fl.there
    have old : ∀ b o, s1.heap.get? b = some o → b ≠ ea := fun b o e z => by
      subst z
      by_cases hf : b ∈ frs X.stack
      · obtain ⟨_, o', e', d⟩ := I'.stack.mem hf
        obtain ⟨sl, q'⟩ := un.any e' (I'.stkFree b hf) (by simp)
        obtain ⟨ox, vs, hx1, _, hx3, _⟩ := fl.first
        rw [q'] at hx1
        cases hx1
        exact d vs hx3
      · have := hB b oe heo (.inr ⟨⟨o, e⟩, hf⟩)
        rw [fl.2.1] at this
        cases this
    have hne : H' ea = none := by
      cases e : H' ea with
      | none => rfl
      | some o =>
        have := hB ea oe heo (.inl (by rw [e]; simp))
        rw [fl.2.1] at this
        cases this
    have h0 : ∀ ob, X.s₀.heap.get? ea = some ob → ea ∈ X.ex := fun ob e => by
      by_cases hx : ea ∈ X.ex
      · exact hx
      · obtain ⟨o', q'⟩ := I'.base.there ea ob e hx
        exact absurd rfl (old ea o' q')
    obtain ⟨om, heo6, hec6⟩ := fl₆.there
    have I7 := Inv.track (o := excO ea Ce) I6 h0 (fun z => by
      obtain ⟨m, ⟨o, es, ep, ho, _⟩, _⟩ := I'.loc
      exact old _ o ho z.symm) (fun y c e => by
      obtain ⟨v, o, ho, _⟩ := I'.cell y c e
      exact old c o ho) (fun p' hp' => old _ _ (I'.pin p' hp').1) hne ⟨⟨om, heo6, hec6⟩, ⟨om, heo6⟩, fun h1 h2 ⟨o, a1, a2⟩ k => ⟨o, k o a1, a2⟩⟩
    refine store_ok (X := { X with A := X.A.mark (some (.ref ea)), calm := false, xe := fun _ _ => False }) I7 hN hj (.inl hloc) (show RelV (.ref ea) (.ref ea) from rfl) (fun s7 I8 => ?_) (.inr hloc)
    refine wpAny_mono (hs (X.A.mark (some (.ref ea))) pins s7 _ _ _ I8 (hth ea hne)) (fun f s2 h2 => ?_) fun _ _ z => False.elim z
    have un2 : ∀ {σ2 : St} {H2 : Hp} {s2 : Shared}, Inv { X with A := X.A.mark (some (.ref ea)), calm := false, xe := fun _ _ => False } pins σ2 H2 s2 → Inv X pins σ2 H2 s2 := fun {σ2 H2 s2} J => by
      have o := J.ok
      exact ⟨⟨o.mod, o.kind, o.glob, o.blt, o.above, o.inj, o.has, o.cab, I.ok.hd, I.ok.frames, o.stk, o.exf, o.bs, o.bsz, o.noex, o.exfs, o.funs, o.frf⟩, J.os, J.bare, J.base, J.loc, J.cell, J.free, J.freeC, J.pin, J.hok, J.len⟩
    have goes : ∀ {σ2 : St} {H2 : Hp} {s2 : Shared} {Q : Unit → Shared → Prop}, Inv X pins σ2 H2 s2 → (∀ s3, Inv X pins (σ2.set j none) H2 s3 → Q () s3) → wpAny (model X.prog X.w) X.A (do bindName X.env n .none; unbindBehindTheSuite X.env n hpos) Q X.xe s2 := fun {σ2 H2 s2 Q} J hq => by
      refine wpAny_bind (wpAny_bindName (store_ok (u := .none) J hN hj (.inl hloc) (show RelV .non .none from rfl) (fun s3 J3 => ?_) (.inr hloc)))
      obtain ⟨m, hn, hl⟩ := J3.loc
      have hcls : (X.env.scope.kind == .class || (X.env.scope.kind == .module && X.env.locals != X.env.globals)) = false := by rw [J3.ok.kind]; rfl
      have hkn : X.env.kindOf n = some .local := hloc
      unfold unbindBehindTheSuite
      refine wpAny_onRaise ?_
      unfold unbindName
      refine wpAny_bind (wpAny_point (wpAny_bind ?_))
      unfold deleteName
      simp only [hkn, hcls]
      rw [if_neg (by decide)]
      refine wpAny_bind (wpAny_nsDel_keeps hn fun h₂ v hn₂ hs₂ => ?_)
      have J4 : Inv X pins ((σ2.set j (some .non)).set j none) H2 { s3 with heap := h₂, toks := s3.toks } := J3.dropName hN hj hs₂ hl hn₂
      rw [List.set_set] at J4
      have hjl : j < σ2.length := by rw [J.len]; exact (List.getElem?_eq_some_iff.mp hj).1
      have hmn : (m n).isSome = true := by
        obtain ⟨u, r, l⟩ := hl j n .non hj (by rw [List.getElem?_set_self hjl]) (.inl hloc)
        rcases l with ⟨_, b⟩ | ⟨a, _⟩
        · rw [b]; rfl
        · rcases a with a | a <;> (rw [hkn] at a; cases a)
      rw [hmn]
      simp only [if_true, Bool.not_true, Bool.false_eq_true, if_false]
      exact wpAny_pure (wpAny_point (hq _ J4))
    show wpAny (model X.prog X.w) X.A (do bindName X.env n .none; unbindBehindTheSuite X.env n hpos) (fun _ s₃ => SP X pins D f s₃) X.xe s2
    cases f with
    | next => obtain ⟨σ2, H2, J2, q2⟩ := h2; exact goes (un2 J2) fun s3 J3 => ⟨_, H2, J3, q2⟩
    | brk => obtain ⟨σ2, H2, J2, q2⟩ := h2; exact goes (un2 J2) fun s3 J3 => ⟨_, H2, J3, q2⟩
    | cont => obtain ⟨σ2, H2, J2, q2⟩ := h2; exact goes (un2 J2) fun s3 J3 => ⟨_, H2, J3, q2⟩
    | ret u => obtain ⟨v, σ2, H2, J2, r2, q2⟩ := h2; exact goes (un2 J2) fun s3 J3 => ⟨v, _, H2, J3, r2, q2⟩
  refine wpAny_mono (hb J E1 (X.pn ++ pins) xe1 own pas [] s σ H D forth hb1) (fun f s1 h1 => ?_) fun e s1 h1 => h1
  cases f with
  | next =>
    obtain ⟨σ2, H2, J2, q2⟩ := h1
    show wpAny _ _ (execs [] X.env) _ _ _
    exact wpAny_pure ⟨σ2, H2, back J2, q2⟩
  | brk => obtain ⟨σ2, H2, J2, q2⟩ := h1; exact ⟨σ2, H2, back J2, q2⟩
  | cont => obtain ⟨σ2, H2, J2, q2⟩ := h1; exact ⟨σ2, H2, back J2, q2⟩
  | ret u => obtain ⟨v, σ2, H2, J2, r2, q2⟩ := h1; exact ⟨v, σ2, H2, back J2, r2, q2⟩
end
end L2
namespace L2
open PySem PySem.Spec PyProof.Rows
namespace Rd
section
variable {σ : St} {H : Hp} {Q : VK} {K : PySem.W.Frag}
theorem tryAs {c : Value} {j : Nat} {tb : (St → Prop) → XK → TS} {th : TS} {D : Ends} (E1 : XK) (hb : tb (fun s => s = σ) E1 D σ H) (hh : ∀ cls H', E1 cls none H' → PySem.W.exmOne K cls c = some true ∧ ∃ C, cls = .ref C ∧ ∀ ea, H' ea = none →
    th { D with nx := fun σ2 H2 => D.nx (σ2.set j none) H2, bk := fun σ2 H2 => D.bk (σ2.set j none) H2, ct := fun σ2 H2 => D.ct (σ2.set j none) H2 } (σ.set j (some (.ref ea))) (upd H' ea (excO ea C))) : tTryAs K c j tb th D σ H :=
  ⟨fun s => s = σ, E1, hb, fun _ cls H' e h => e ▸ hh cls H' h⟩
theorem isER {x C B : Addr} {b : Bool} (h : H x = some (excO x C)) (ec : ExcCls K C) (k : PySem.W.kitOne K (.ref C) (.ref B) = some b) (q : Q (.bl b) H) : rIsE K [.ref x, .ref B] H Q := ⟨x, C, .ref B, .ref B, b, rfl, h, ec, fun v r => r, k, q⟩
theorem isET {x C : Addr} {n : String} {b : Bool} (h : H x = some (excO x C)) (ec : ExcCls K C) (k : PySem.W.kitOne K (.ref C) (.type n) = some b) (q : Q (.bl b) H) : rIsE K [.ref x, .ty n] H Q := ⟨x, C, .ty n, .type n, b, rfl, h, ec, fun v r => r, k, q⟩
end
end Rd
theorem excIn_cls {K : PySem.W.Frag} {C : Addr} {bm : List Value} {n : String} (h : PySem.W.excIn K C bm n = true) : (PySem.W.clsIn K C).isSome = true := by
  unfold PySem.W.excIn at h
  split at h
  · rename_i dd cd sl ho
    unfold PySem.W.clsIn
    rw [ho]
    rfl
  · cases h
end L2
namespace My
structure S (k : Nat) (x : Int) : Prop where
  lo : 0 ≤ x
  hi : x.toNat < 2 ^ (2048 * 2 ^ k)
theorem two_le {j k : Nat} (h : j ≤ k) : 2 ^ (2048 * 2 ^ j) ≤ 2 ^ (2048 * 2 ^ k) :=
  Nat.pow_le_pow_right (by decide) (Nat.mul_le_mul_left _ (Nat.pow_le_pow_right (by decide) h))
theorem S.mono {j k : Nat} {x : Int} (h : S j x) (hj : j ≤ k) : S k x := ⟨h.lo, Nat.lt_of_lt_of_le h.hi (two_le hj)⟩
theorem S.small {k : Nat} {x : Int} (h0 : 0 ≤ x) (h1 : x ≤ 10 ^ 31) : S k x := by
  refine S.mono (j := 0) ⟨h0, ?_⟩ (Nat.zero_le k)
  have a : x.toNat < 2 ^ 128 := by omega
  have b : 2 ^ 128 ≤ 2 ^ (2048 * 2 ^ 0) := Nat.pow_le_pow_right (by decide) (by decide)
  omega
end My
set_option Elab.async false
set_option linter.all false
set_option maxRecDepth 100000
set_option maxHeartbeats 4000000
local macro_rules | `(tactic| walk_at "mul") => `(tactic| k_dflt (first | with_reducible assumption | exact L2.CMul.ok (Or.inr ⟨by omega, by omega⟩) | exact L2.CMul.ok (Or.inl ⟨by omega, by omega⟩)))
local macro_rules | `(tactic| walk_at "lk") => `(tactic| first | exact L2.Rd.lk0 | exact L2.Rd.lkN | (refine L2.Rd.lk1 (by decide +kernel) ?_; walk_at "lk"))
local macro_rules | `(tactic| walk_at "pf") => `(tactic| first | exact L2.Rd.pf0 | exact L2.Rd.pfN | (apply L2.Rd.pf1; (decide +kernel); walk_at "pf"))
local macro_rules | `(tactic| walk_at "na") => `(tactic| exact L2.NoAttrs.get (by with_reducible assumption) (by decide +kernel))
local macro_rules | `(tactic| walk_at "cond") => `(tactic| k_dflt (first | with_reducible assumption | decide | omega | (simp; done) | (simp only [List.length_cons, List.length_nil, List.length_map, List.length_append]; omega)))
local macro_rules | `(tactic| walk_at "rdis") => `(tactic| ((with_reducible show ∃ x n t b, _ = _ ∧ L2.TyOf _ _ x t ∧ _); first | with_reducible apply L2.Rd.is_int_int | with_reducible apply L2.Rd.is_int_bool | with_reducible apply L2.Rd.is_int_str | with_reducible apply L2.Rd.is_int_list | with_reducible apply L2.Rd.is_int_tuple | with_reducible apply L2.Rd.is_int_dict | with_reducible apply L2.Rd.is_bl_int | with_reducible apply L2.Rd.is_bl_bool | with_reducible apply L2.Rd.is_bl_str | with_reducible apply L2.Rd.is_bl_list | with_reducible apply L2.Rd.is_bl_tuple | with_reducible apply L2.Rd.is_bl_dict | with_reducible apply L2.Rd.is_str_int | with_reducible apply L2.Rd.is_str_bool | with_reducible apply L2.Rd.is_str_str | with_reducible apply L2.Rd.is_str_list | with_reducible apply L2.Rd.is_str_tuple | with_reducible apply L2.Rd.is_str_dict | with_reducible apply L2.Rd.is_non_int | with_reducible apply L2.Rd.is_non_bool | with_reducible apply L2.Rd.is_non_str | with_reducible apply L2.Rd.is_non_list | with_reducible apply L2.Rd.is_non_tuple | with_reducible apply L2.Rd.is_non_dict | with_reducible refine L2.Rd.is_lst_int (by with_reducible assumption) ?_ | with_reducible refine L2.Rd.is_lst_bool (by with_reducible assumption) ?_ | with_reducible refine L2.Rd.is_lst_str (by with_reducible assumption) ?_ | with_reducible refine L2.Rd.is_lst_list (by with_reducible assumption) ?_ | with_reducible refine L2.Rd.is_lst_tuple (by with_reducible assumption) ?_ | with_reducible refine L2.Rd.is_lst_dict (by with_reducible assumption) ?_ | with_reducible refine L2.Rd.is_tup_int (by with_reducible assumption) ?_ | with_reducible refine L2.Rd.is_tup_bool (by with_reducible assumption) ?_ | with_reducible refine L2.Rd.is_tup_str (by with_reducible assumption) ?_ | with_reducible refine L2.Rd.is_tup_list (by with_reducible assumption) ?_ | with_reducible refine L2.Rd.is_tup_tuple (by with_reducible assumption) ?_ | with_reducible refine L2.Rd.is_tup_dict (by with_reducible assumption) ?_ | with_reducible refine L2.Rd.is_dK_int (by with_reducible assumption) ?_ | with_reducible refine L2.Rd.is_dK_bool (by with_reducible assumption) ?_ | with_reducible refine L2.Rd.is_dK_str (by with_reducible assumption) ?_ | with_reducible refine L2.Rd.is_dK_list (by with_reducible assumption) ?_ | with_reducible refine L2.Rd.is_dK_tuple (by with_reducible assumption) ?_ | with_reducible refine L2.Rd.is_dK_dict (by with_reducible assumption) ?_))
local macro_rules | `(tactic| walk_at "side") => `(tactic| k_dflt (first | with_reducible assumption | decide | (dsimp only; decide) | (dsimp only [L2.CPow]; decide) | omega | (dsimp only; omega)))
local macro_rules | `(tactic| walk_at "hp") => `(tactic| with_reducible (first | assumption | ((show L2.SqL _ _ _ _); (first | exact L2.SqL.of (by assumption) | exact L2.OffL.sq (by assumption) | exact L2.Same.seq (by assumption) (by assumption))) | ((show L2.SqT _ _ _ _); (first | exact L2.SqT.of (by assumption) | exact L2.OffT.sq (by assumption) | exact L2.Same.seqT (by assumption) (by assumption)))))
local macro_rules | `(tactic| walk_at "rd") => `(tactic| first
  | with_reducible apply L2.Rd.seq | with_reducible apply L2.Rd.asg | with_reducible apply L2.Rd.ret | with_reducible apply L2.Rd.ifs | with_reducible apply L2.Rd.next | with_reducible apply L2.Rd.drop
  | with_reducible apply L2.Rd.op | with_reducible apply L2.Rd.un | with_reducible apply L2.Rd.test | with_reducible apply L2.Rd.con | ((with_reducible show L2.tVar _ _ _ _); with_reducible refine L2.Rd.var (by k_dflt rfl) ?_) | ((with_reducible show L2.gName _ _ _ _ _); with_reducible refine L2.Rd.nameS (by k_dflt (dsimp only [L2.start, List.map_cons, List.map_nil, List.cons_append, List.nil_append, List.length_cons, List.length_nil, Nat.reduceAdd, Nat.reduceSub, List.replicate, List.set]; (try rfl))) ?_) | with_reducible apply L2.Rd.name
  | with_reducible apply L2.Rd.call | with_reducible apply L2.Rd.cons | with_reducible apply L2.Rd.nil | with_reducible apply L2.Rd.cb | with_reducible apply L2.Rd.tup | with_reducible apply L2.Rd.lst
  | with_reducible apply L2.Rd.and_ | with_reducible apply L2.Rd.or_ | with_reducible apply L2.Rd.not_ | with_reducible apply L2.Rd.andV | with_reducible apply L2.Rd.orV | with_reducible apply L2.Rd.notV
  | with_reducible apply L2.Rd.par | with_reducible apply L2.Rd.i0 | ((with_reducible show L2.rI _ _ _ _ _ _); with_reducible refine L2.Rd.iC (by walk_at "side") ?_) | with_reducible apply L2.Rd.bl | with_reducible apply L2.Rd.two
  | with_reducible apply L2.Rd.addI | ((with_reducible show L2.rOr L2.rMulI _ _ _ _ _); with_reducible refine L2.Rd.mulI (by walk_at "mul") ?_) | with_reducible apply L2.Rd.eqUI | with_reducible apply L2.Rd.neUI | with_reducible apply L2.Rd.eqUS | with_reducible apply L2.Rd.neUS | with_reducible apply L2.Rd.eqUB | with_reducible apply L2.Rd.neUB
  | with_reducible refine L2.Rd.addS (by walk_at "side") ?_
  | ((with_reducible show L2.rIx _ _ _ _ _); with_reducible refine L2.Rd.ixuT (by walk_at "hp") (by k_dflt rfl) ?_) | ((with_reducible show L2.rIx _ _ _ _ _); with_reducible refine L2.Rd.ixuL (by walk_at "hp") (by k_dflt (first | rfl | with_reducible assumption)) ?_)
  | with_reducible apply L2.Rd.un1 | with_reducible refine L2.Rd.ilist2 (by walk_at "hp") ?_ | with_reducible refine L2.Rd.rng1' (by k_dflt omega) (by k_dflt omega) ?_ | with_reducible refine L2.Rd.rng2' (by k_dflt omega) ?_ | with_reducible apply L2.Rd.min2
  | ((with_reducible show ∃ x n, _ = _ ∧ L2.LenV _ x _ n ∧ _); with_reducible refine L2.Rd.lenT' (by walk_at "hp") ?_) | ((with_reducible show ∃ x n, _ = _ ∧ L2.LenV _ x _ n ∧ _); with_reducible refine L2.Rd.lenL (by walk_at "hp") ?_) | ((with_reducible show ∃ x n, _ = _ ∧ L2.LenV _ x _ n ∧ _); with_reducible refine L2.Rd.lenS (by walk_at "side") ?_)
  | walk_at "rdis"
  | with_reducible apply L2.Rd.truB | with_reducible apply L2.Rd.tru | with_reducible apply L2.Rd.rlen | with_reducible apply L2.Rd.risi | with_reducible apply L2.Rd.rall
  | with_reducible apply L2.Rd.bm | with_reducible apply L2.Rd.bm0 | ((with_reducible show L2.tyV _ _ _ _ ∧ _); with_reducible refine L2.Rd.tyl (by with_reducible assumption) ?_) | ((with_reducible show L2.rAppend _ _ _ _); with_reducible refine L2.Rd.app (by with_reducible assumption) (by walk_at "side") ?_)
  | with_reducible apply L2.iteT | with_reducible apply L2.iteF | with_reducible apply L2.Rd.iteNT | with_reducible apply L2.Rd.iteNF
  | ((with_reducible show if decide _ = true then _ else _); with_reducible refine L2.Rd.ifP (by walk_at "cond") ?_) | ((with_reducible show if decide _ = true then _ else _); with_reducible refine L2.Rd.ifN (by walk_at "cond") ?_) | ((with_reducible show if (!decide _) = true then _ else _); with_reducible refine L2.Rd.ifNP (by walk_at "cond") ?_) | ((with_reducible show if (!decide _) = true then _ else _); with_reducible refine L2.Rd.ifNN (by walk_at "cond") ?_)
  | with_reducible apply L2.Rd.sl | with_reducible apply L2.Rd.noPart | with_reducible apply L2.Rd.part | with_reducible apply L2.Rd.partI | ((with_reducible show L2.rSlU _ _ _ _ _ _); with_reducible refine L2.Rd.slS (by walk_at "side") ?_)
  | with_reducible apply L2.Rd.fldE | with_reducible refine L2.Rd.fld (by with_reducible assumption) (by with_reducible assumption) (by k_dflt (walk_at "na")) (by k_dflt (walk_at "lk")) ?_
  | ((with_reducible show L2.tMethJ _ _ _ _ _ _ _ _ _ _ _); with_reducible refine L2.Rd.methJ (by k_dflt rfl) ?_) | ((with_reducible show L2.tCallJ _ _ _ _ _ _ _ _); with_reducible refine L2.Rd.callJ (by k_dflt rfl) ?_) | ((with_reducible show L2.tMakeJ _ _ _ _ _ _ _ _ _); with_reducible refine L2.Rd.makeJ (by k_dflt rfl) ?_)
  | with_reducible apply L2.Rd.gsub | ((with_reducible show L2.rSetL _ _ _ _ _); with_reducible refine L2.Rd.setL (by with_reducible assumption) (by k_dflt omega) (by walk_at "cond") ?_)
  | with_reducible apply L2.Rd.methE | with_reducible refine L2.Rd.meth (by with_reducible assumption) (by k_dflt (walk_at "lk")) ?_ | with_reducible apply L2.Rd.makeE
  | with_reducible apply L2.Rd.sfld | with_reducible refine L2.Rd.sfld3 (by with_reducible (first | assumption | exact L2.upd_same)) (by with_reducible assumption) (by k_dflt (walk_at "na")) (by k_dflt (simp only [List.length_cons, List.length_nil]; decide)) (by k_dflt (walk_at "pf")) ?_
  | with_reducible apply L2.Rd.raise | with_reducible apply L2.Rd.raise2 | with_reducible apply L2.Rd.ilist | with_reducible apply L2.Rd.istr | with_reducible apply L2.Rd.istr2 | with_reducible apply L2.Rd.all_
  | with_reducible apply L2.Rd.compE | ((with_reducible show L2.rIn _ _ _ _ _ _); with_reducible refine L2.Rd.inS (by walk_at "hp") ?_) | ((with_reducible show L2.rIn _ _ _ _ _ _); with_reducible refine L2.Rd.ninS (by walk_at "hp") ?_) | ((with_reducible show L2.rIn _ _ _ _ _ _); with_reducible refine L2.Rd.inI (by walk_at "hp") ?_) | ((with_reducible show L2.rIn _ _ _ _ _ _); with_reducible refine L2.Rd.ninI (by walk_at "hp") ?_)
  | with_reducible refine L2.Rd.allB (by walk_at "hp") ?_ | with_reducible apply L2.Rd.leS | with_reducible apply L2.Rd.chain
  | ((with_reducible show if (!(_ == _)) = true then _ else _); first | refine L2.Rd.iteNT ?_ | refine L2.Rd.iteNF ?_) | ((with_reducible show if (_ == _) = true then _ else _); first | refine L2.iteT ?_ | refine L2.iteF ?_)
  | with_reducible apply L2.Rd.compNE | with_reducible apply L2.Rd.ienum | ((with_reducible show ∃ a, _ = _ ∧ (∃ xs, L2.SqL _ _ a xs) ∧ _); with_reducible refine L2.Rd.ienum2 (by walk_at "hp") ?_) | with_reducible apply L2.Rd.dnew
  | ((with_reducible show L2.rDIn _ _ _ _); first | with_reducible refine L2.Rd.dinS (by with_reducible assumption) ?_ | with_reducible refine L2.Rd.dinI (by with_reducible assumption) ?_) | ((with_reducible show L2.rDNotIn _ _ _ _); first | with_reducible refine L2.Rd.dninS (by with_reducible assumption) ?_ | with_reducible refine L2.Rd.dninI (by with_reducible assumption) ?_)
  | ((with_reducible show L2.rIxD _ _ _ _); first | with_reducible refine L2.Rd.dgetS (by with_reducible assumption) (by with_reducible assumption) ?_ | with_reducible refine L2.Rd.dgetI (by with_reducible assumption) (by with_reducible assumption) ?_)
  | ((with_reducible show L2.rSetD _ _ _ _ _); first | with_reducible refine L2.Rd.dsetS (by with_reducible assumption) (by walk_at "side") ?_ | with_reducible refine L2.Rd.dsetI (by with_reducible assumption) (by walk_at "side") ?_)
  | ((with_reducible show L2.rLenD _ _ _); with_reducible refine L2.Rd.dlen (by with_reducible assumption) ?_) | ((with_reducible show L2.rListD _ _ _); with_reducible refine L2.Rd.dlist (by with_reducible assumption) ?_)
  | with_reducible apply L2.Rd.augS | with_reducible apply L2.Rd.ipi | ((with_reducible show L2.rIxL _ _ _ _ _); with_reducible refine L2.Rd.ixl (by walk_at "hp") (by k_dflt (first | rfl | with_reducible assumption)) ?_)
  | with_reducible apply L2.Rd.tb_ | with_reducible apply L2.Rd.for_ | with_reducible apply L2.Rd.rng1 | with_reducible apply L2.Rd.rng2 | with_reducible apply L2.Rd.gnil | with_reducible apply L2.Rd.gcons)
local macro_rules | `(tactic| walk_at "rds") => `(tactic| repeat' (walk_at "rd"))
namespace Nm
open PySem L2
def top (i : Nat) : Stmt := PySem.Challenge.pw_ratehall_k17_peaks.main.body.getD i (.Pass ⟨0, 0, 0, 0⟩)
abbrev s_l_mix : Stmt := top 32
abbrev s_l_cell : Stmt := top 31
abbrev s_l_lines : Stmt := top 37
abbrev s_is_name : Stmt := top 21
abbrev s_Hall_work : Stmt := inClass (top 25) 1
abbrev s_is_whole : Stmt := top 11
abbrev s_is_from : Stmt := top 12
abbrev s_need_start : Stmt := top 26
abbrev s_is_number_below : Stmt := top 13
abbrev s_Hall_need_work : Stmt := inClass (top 25) 11
abbrev s_Hall_lay : Stmt := inClass (top 25) 3
abbrev s_Hall_belt : Stmt := inClass (top 25) 2
abbrev s_Hall_init : Stmt := inClass (top 25) 0
abbrev s_l_made : Stmt := top 34
abbrev s_l_turn : Stmt := top 36
abbrev s_l_ready : Stmt := top 35
abbrev s_l_drawn_row : Stmt := top 38
abbrev s_peak_of : Stmt := top 29
abbrev s_enough : Stmt := top 18
abbrev s_Floor_need_work : Stmt := inClass (top 15) 5
abbrev s_Floor_go : Stmt := inClass (top 15) 3
abbrev s_Hall_belts : Stmt := inClass (top 25) 7
abbrev s_Hall_entering : Stmt := inClass (top 25) 9
abbrev s_Hall_need_belt : Stmt := inClass (top 25) 12
abbrev s_Hall_belt_at : Stmt := inClass (top 25) 8
abbrev s_takes_of : Stmt := top 16
abbrev s_Hall_leaving : Stmt := inClass (top 25) 10
abbrev s_gives_of : Stmt := top 17
abbrev s_Hall_names : Stmt := inClass (top 25) 5
abbrev s_Floor_init : Stmt := inClass (top 15) 0
abbrev s_peaks : Stmt := top 28
abbrev s_l_filled : Stmt := top 39
abbrev s_l_refused : Stmt := top 40
abbrev s_l_whole : Stmt := top 33
abbrev s_law : Stmt := top 41
theorem sc_l_mix : FnScope ["_law_cell_here", "_law_way", "_law_first"] ["_law_cell_here", "_law_way"] (defScope s_l_mix) := ⟨rfl, rfl, rfl, by decide +kernel, rfl, by decide +kernel, by decide +kernel⟩
theorem sc_l_cell : FnScope ["_law_script", "_law_k"] ["_law_script", "_law_k"] (defScope s_l_cell) := ⟨rfl, rfl, rfl, by decide +kernel, rfl, by decide +kernel, by decide +kernel⟩
theorem sc_l_lines : FnScope ["_law_script", "_law_many", "_law_scale", "_law_lines_here", "_law_size", "_law_k", "_law_draw", "_law_give", "_law_take"] ["_law_script", "_law_many"] (defScope s_l_lines) := ⟨rfl, rfl, rfl, by decide +kernel, rfl, by decide +kernel, by decide +kernel⟩
theorem sc_is_name : FnScope ["thing"] ["thing"] (defScope s_is_name) := ⟨rfl, rfl, rfl, by decide +kernel, rfl, by decide +kernel, by decide +kernel⟩
theorem sc_Hall_work : FnScope ["self", "name", "number"] ["self", "name"] (defScope s_Hall_work) := ⟨rfl, rfl, rfl, by decide +kernel, rfl, by decide +kernel, by decide +kernel⟩
theorem sc_is_whole : FnScope ["thing"] ["thing"] (defScope s_is_whole) := ⟨rfl, rfl, rfl, by decide +kernel, rfl, by decide +kernel, by decide +kernel⟩
theorem sc_is_from : FnScope ["thing", "least"] ["thing", "least"] (defScope s_is_from) := ⟨rfl, rfl, rfl, by decide +kernel, rfl, by decide +kernel, by decide +kernel⟩
theorem sc_need_start : FnScope ["start"] ["start"] (defScope s_need_start) := ⟨rfl, rfl, rfl, by decide +kernel, rfl, by decide +kernel, by decide +kernel⟩
theorem sc_is_number_below : FnScope ["thing", "bound"] ["thing", "bound"] (defScope s_is_number_below) := ⟨rfl, rfl, rfl, by decide +kernel, rfl, by decide +kernel, by decide +kernel⟩
theorem sc_Hall_need_work : FnScope ["self", "work"] ["self", "work"] (defScope s_Hall_need_work) := ⟨rfl, rfl, rfl, by decide +kernel, rfl, by decide +kernel, by decide +kernel⟩
theorem sc_Hall_lay : FnScope ["self", "row"] ["self", "row"] (defScope s_Hall_lay) := ⟨rfl, rfl, rfl, by decide +kernel, rfl, by decide +kernel, by decide +kernel⟩
theorem sc_Hall_belt : FnScope ["self", "giver", "taker", "give", "take", "start"] ["self", "giver", "taker", "give", "take", "start"] (defScope s_Hall_belt) := ⟨rfl, rfl, rfl, by decide +kernel, rfl, by decide +kernel, by decide +kernel⟩
theorem sc_Hall_init : FnScope ["self"] ["self"] (defScope s_Hall_init) := ⟨rfl, rfl, rfl, by decide +kernel, rfl, by decide +kernel, by decide +kernel⟩
theorem sc_l_made : FnScope ["_law_many", "_law_lines_here", "_law_letters", "_law_hall", "_law_k", "_law_line"] ["_law_many", "_law_lines_here"] (defScope s_l_made) := ⟨rfl, rfl, rfl, by decide +kernel, rfl, by decide +kernel, by decide +kernel⟩
theorem sc_l_turn : FnScope ["_law_lines_here", "_law_lying", "_law_work", "_law_behind", "_law_k", "_law_line"] ["_law_lines_here", "_law_lying", "_law_work"] (defScope s_l_turn) := ⟨rfl, rfl, rfl, by decide +kernel, rfl, by decide +kernel, by decide +kernel⟩
theorem sc_l_ready : FnScope ["_law_lines_here", "_law_lying", "_law_rooms", "_law_work", "_law_k", "_law_line"] ["_law_lines_here", "_law_lying", "_law_rooms", "_law_work"] (defScope s_l_ready) := ⟨rfl, rfl, rfl, by decide +kernel, rfl, by decide +kernel, by decide +kernel⟩
theorem sc_l_drawn_row : FnScope ["_law_script", "_law_many", "_law_lines_here", "_law_lying", "_law_row", "_law_cells", "_law_k", "_law_cell_here", "_law_some"] ["_law_script", "_law_many", "_law_lines_here"] (defScope s_l_drawn_row) := ⟨rfl, rfl, rfl, by decide +kernel, rfl, by decide +kernel, by decide +kernel⟩
theorem sc_peak_of : FnScope ["row", "works", "peak", "lying", "work"] ["row", "works"] (defScope s_peak_of) := ⟨rfl, rfl, rfl, by decide +kernel, rfl, by decide +kernel, by decide +kernel⟩
theorem sc_enough : FnScope ["heaps", "takes"] ["heaps", "takes"] (defScope s_enough) := ⟨rfl, rfl, rfl, by decide +kernel, rfl, by decide +kernel, by decide +kernel⟩
theorem sc_Floor_need_work : FnScope ["self", "work"] ["self", "work"] (defScope s_Floor_need_work) := ⟨rfl, rfl, rfl, by decide +kernel, rfl, by decide +kernel, by decide +kernel⟩
theorem sc_Floor_go : FnScope ["self", "row", "heaps", "work", "belt", "take", "give"] ["self", "row"] (defScope s_Floor_go) := ⟨rfl, rfl, rfl, by decide +kernel, rfl, by decide +kernel, by decide +kernel⟩
theorem sc_Hall_belts : FnScope ["self"] ["self"] (defScope s_Hall_belts) := ⟨rfl, rfl, rfl, by decide +kernel, rfl, by decide +kernel, by decide +kernel⟩
theorem sc_Hall_entering : FnScope ["self", "work"] ["self", "work"] (defScope s_Hall_entering) := ⟨rfl, rfl, rfl, by decide +kernel, rfl, by decide +kernel, by decide +kernel⟩
theorem sc_Hall_need_belt : FnScope ["self", "belt"] ["self", "belt"] (defScope s_Hall_need_belt) := ⟨rfl, rfl, rfl, by decide +kernel, rfl, by decide +kernel, by decide +kernel⟩
theorem sc_Hall_belt_at : FnScope ["self", "belt"] ["self", "belt"] (defScope s_Hall_belt_at) := ⟨rfl, rfl, rfl, by decide +kernel, rfl, by decide +kernel, by decide +kernel⟩
theorem sc_takes_of : FnScope ["hall", "work"] ["hall", "work"] (defScope s_takes_of) := ⟨rfl, rfl, rfl, by decide +kernel, rfl, by decide +kernel, by decide +kernel⟩
theorem sc_Hall_leaving : FnScope ["self", "work"] ["self", "work"] (defScope s_Hall_leaving) := ⟨rfl, rfl, rfl, by decide +kernel, rfl, by decide +kernel, by decide +kernel⟩
theorem sc_gives_of : FnScope ["hall", "work"] ["hall", "work"] (defScope s_gives_of) := ⟨rfl, rfl, rfl, by decide +kernel, rfl, by decide +kernel, by decide +kernel⟩
theorem sc_Hall_names : FnScope ["self"] ["self"] (defScope s_Hall_names) := ⟨rfl, rfl, rfl, by decide +kernel, rfl, by decide +kernel, by decide +kernel⟩
theorem sc_Floor_init : FnScope ["self", "hall", "works"] ["self", "hall"] (defScope s_Floor_init) := ⟨rfl, rfl, rfl, by decide +kernel, rfl, by decide +kernel, by decide +kernel⟩
theorem sc_peaks : FnScope ["hall", "row"] ["hall", "row"] (defScope s_peaks) := ⟨rfl, rfl, rfl, by decide +kernel, rfl, by decide +kernel, by decide +kernel⟩
theorem sc_l_filled : FnScope ["_law_lines_here", "_law_row", "_law_rooms", "_law_lying", "_law_full", "_law_work", "_law_k", "_law_line"] ["_law_lines_here", "_law_row", "_law_rooms"] (defScope s_l_filled) := ⟨rfl, rfl, rfl, by decide +kernel, rfl, by decide +kernel, by decide +kernel⟩
theorem sc_l_refused : FnScope ["_law_hall", "_law_row", "e"] ["_law_hall", "_law_row"] (defScope s_l_refused) := ⟨rfl, rfl, rfl, by decide +kernel, rfl, by decide +kernel, by decide +kernel⟩
theorem sc_l_whole : FnScope ["_law_found"] ["_law_found"] (defScope s_l_whole) := ⟨rfl, rfl, rfl, by decide +kernel, rfl, by decide +kernel, by decide +kernel⟩
theorem sc_law : FnScope ["_law_script", "_law_many", "_law_lines_here", "_law_hall", "_law_row", "_law_lying", "_law_handed", "_law_found", "_law_room", "_law_far", "_law_still"] ["_law_script"] (defScope s_law) := ⟨rfl, rfl, rfl, by decide +kernel, rfl, by decide +kernel, by decide +kernel⟩
set_option genInjectivity false in
set_option genSizeOf false in
structure Tp (K : PySem.W.Frag) (mg : Str → Option Value) where
  f_l_mix : Addr
  d_l_mix : FuncData
  F_l_mix : Fun K "_law_mix" "_law_mix" s_l_mix f_l_mix d_l_mix
  b_l_mix : Binds K d_l_mix ["_law_cell_here", "_law_way"] []
  m_l_mix : mg "_law_mix" = some (.ref f_l_mix)
  f_l_cell : Addr
  d_l_cell : FuncData
  F_l_cell : Fun K "_law_cell" "_law_cell" s_l_cell f_l_cell d_l_cell
  b_l_cell : Binds K d_l_cell ["_law_script", "_law_k"] []
  m_l_cell : mg "_law_cell" = some (.ref f_l_cell)
  f_l_lines : Addr
  d_l_lines : FuncData
  F_l_lines : Fun K "_law_lines" "_law_lines" s_l_lines f_l_lines d_l_lines
  b_l_lines : Binds K d_l_lines ["_law_script", "_law_many"] []
  m_l_lines : mg "_law_lines" = some (.ref f_l_lines)
  f_is_name : Addr
  d_is_name : FuncData
  F_is_name : Fun K "is_name" "is_name" s_is_name f_is_name d_is_name
  b_is_name : Binds K d_is_name ["thing"] []
  m_is_name : mg "is_name" = some (.ref f_is_name)
  f_Hall_work : Addr
  d_Hall_work : FuncData
  F_Hall_work : Fun K "work" "Hall.work" s_Hall_work f_Hall_work d_Hall_work
  b_Hall_work : Binds K d_Hall_work ["self", "name"] []
  f_is_whole : Addr
  d_is_whole : FuncData
  F_is_whole : Fun K "is_whole" "is_whole" s_is_whole f_is_whole d_is_whole
  b_is_whole : Binds K d_is_whole ["thing"] []
  m_is_whole : mg "is_whole" = some (.ref f_is_whole)
  f_is_from : Addr
  d_is_from : FuncData
  F_is_from : Fun K "is_from" "is_from" s_is_from f_is_from d_is_from
  b_is_from : Binds K d_is_from ["thing", "least"] []
  m_is_from : mg "is_from" = some (.ref f_is_from)
  f_need_start : Addr
  d_need_start : FuncData
  F_need_start : Fun K "need_start" "need_start" s_need_start f_need_start d_need_start
  b_need_start : Binds K d_need_start ["start"] []
  m_need_start : mg "need_start" = some (.ref f_need_start)
  f_is_number_below : Addr
  d_is_number_below : FuncData
  F_is_number_below : Fun K "is_number_below" "is_number_below" s_is_number_below f_is_number_below d_is_number_below
  b_is_number_below : Binds K d_is_number_below ["thing", "bound"] []
  m_is_number_below : mg "is_number_below" = some (.ref f_is_number_below)
  f_Hall_need_work : Addr
  d_Hall_need_work : FuncData
  F_Hall_need_work : Fun K "need_work" "Hall.need_work" s_Hall_need_work f_Hall_need_work d_Hall_need_work
  b_Hall_need_work : Binds K d_Hall_need_work ["self", "work"] []
  f_Hall_lay : Addr
  d_Hall_lay : FuncData
  F_Hall_lay : Fun K "lay" "Hall.lay" s_Hall_lay f_Hall_lay d_Hall_lay
  b_Hall_lay : Binds K d_Hall_lay ["self", "row"] []
  f_Hall_belt : Addr
  d_Hall_belt : FuncData
  dT_Hall_belt : Addr
  dk0_Hall_belt : Tok
  F_Hall_belt : FunD K "belt" "Hall.belt" s_Hall_belt dT_Hall_belt f_Hall_belt d_Hall_belt
  b_Hall_belt : Binds K d_Hall_belt ["self", "giver", "taker", "give", "take", "start"] []
  b1_Hall_belt : Binds K d_Hall_belt ["self", "giver", "taker", "give", "take", "start"] [.int 0 dk0_Hall_belt]
  v1_Hall_belt : Vals [.int 0] [.int 0 dk0_Hall_belt]
  f_Hall_init : Addr
  d_Hall_init : FuncData
  F_Hall_init : Fun K "__init__" "Hall.__init__" s_Hall_init f_Hall_init d_Hall_init
  b_Hall_init : Binds K d_Hall_init ["self"] []
  f_l_made : Addr
  d_l_made : FuncData
  F_l_made : Fun K "_law_made" "_law_made" s_l_made f_l_made d_l_made
  b_l_made : Binds K d_l_made ["_law_many", "_law_lines_here"] []
  m_l_made : mg "_law_made" = some (.ref f_l_made)
  f_l_turn : Addr
  d_l_turn : FuncData
  F_l_turn : Fun K "_law_turn" "_law_turn" s_l_turn f_l_turn d_l_turn
  b_l_turn : Binds K d_l_turn ["_law_lines_here", "_law_lying", "_law_work"] []
  m_l_turn : mg "_law_turn" = some (.ref f_l_turn)
  f_l_ready : Addr
  d_l_ready : FuncData
  F_l_ready : Fun K "_law_ready" "_law_ready" s_l_ready f_l_ready d_l_ready
  b_l_ready : Binds K d_l_ready ["_law_lines_here", "_law_lying", "_law_rooms", "_law_work"] []
  m_l_ready : mg "_law_ready" = some (.ref f_l_ready)
  f_l_drawn_row : Addr
  d_l_drawn_row : FuncData
  F_l_drawn_row : Fun K "_law_drawn_row" "_law_drawn_row" s_l_drawn_row f_l_drawn_row d_l_drawn_row
  b_l_drawn_row : Binds K d_l_drawn_row ["_law_script", "_law_many", "_law_lines_here"] []
  m_l_drawn_row : mg "_law_drawn_row" = some (.ref f_l_drawn_row)
  f_peak_of : Addr
  d_peak_of : FuncData
  F_peak_of : Fun K "peak_of" "peak_of" s_peak_of f_peak_of d_peak_of
  b_peak_of : Binds K d_peak_of ["row", "works"] []
  m_peak_of : mg "peak_of" = some (.ref f_peak_of)
  f_enough : Addr
  d_enough : FuncData
  F_enough : Fun K "enough" "enough" s_enough f_enough d_enough
  b_enough : Binds K d_enough ["heaps", "takes"] []
  m_enough : mg "enough" = some (.ref f_enough)
  f_Floor_need_work : Addr
  d_Floor_need_work : FuncData
  F_Floor_need_work : Fun K "need_work" "Floor.need_work" s_Floor_need_work f_Floor_need_work d_Floor_need_work
  b_Floor_need_work : Binds K d_Floor_need_work ["self", "work"] []
  f_Floor_go : Addr
  d_Floor_go : FuncData
  F_Floor_go : Fun K "go" "Floor.go" s_Floor_go f_Floor_go d_Floor_go
  b_Floor_go : Binds K d_Floor_go ["self", "row"] []
  f_Hall_belts : Addr
  d_Hall_belts : FuncData
  F_Hall_belts : Fun K "belts" "Hall.belts" s_Hall_belts f_Hall_belts d_Hall_belts
  b_Hall_belts : Binds K d_Hall_belts ["self"] []
  f_Hall_entering : Addr
  d_Hall_entering : FuncData
  F_Hall_entering : Fun K "entering" "Hall.entering" s_Hall_entering f_Hall_entering d_Hall_entering
  b_Hall_entering : Binds K d_Hall_entering ["self", "work"] []
  f_Hall_need_belt : Addr
  d_Hall_need_belt : FuncData
  F_Hall_need_belt : Fun K "need_belt" "Hall.need_belt" s_Hall_need_belt f_Hall_need_belt d_Hall_need_belt
  b_Hall_need_belt : Binds K d_Hall_need_belt ["self", "belt"] []
  f_Hall_belt_at : Addr
  d_Hall_belt_at : FuncData
  F_Hall_belt_at : Fun K "belt_at" "Hall.belt_at" s_Hall_belt_at f_Hall_belt_at d_Hall_belt_at
  b_Hall_belt_at : Binds K d_Hall_belt_at ["self", "belt"] []
  f_takes_of : Addr
  d_takes_of : FuncData
  F_takes_of : Fun K "takes_of" "takes_of" s_takes_of f_takes_of d_takes_of
  b_takes_of : Binds K d_takes_of ["hall", "work"] []
  m_takes_of : mg "takes_of" = some (.ref f_takes_of)
  f_Hall_leaving : Addr
  d_Hall_leaving : FuncData
  F_Hall_leaving : Fun K "leaving" "Hall.leaving" s_Hall_leaving f_Hall_leaving d_Hall_leaving
  b_Hall_leaving : Binds K d_Hall_leaving ["self", "work"] []
  f_gives_of : Addr
  d_gives_of : FuncData
  F_gives_of : Fun K "gives_of" "gives_of" s_gives_of f_gives_of d_gives_of
  b_gives_of : Binds K d_gives_of ["hall", "work"] []
  m_gives_of : mg "gives_of" = some (.ref f_gives_of)
  f_Hall_names : Addr
  d_Hall_names : FuncData
  F_Hall_names : Fun K "names" "Hall.names" s_Hall_names f_Hall_names d_Hall_names
  b_Hall_names : Binds K d_Hall_names ["self"] []
  f_Floor_init : Addr
  d_Floor_init : FuncData
  F_Floor_init : Fun K "__init__" "Floor.__init__" s_Floor_init f_Floor_init d_Floor_init
  b_Floor_init : Binds K d_Floor_init ["self", "hall"] []
  f_peaks : Addr
  d_peaks : FuncData
  F_peaks : Fun K "peaks" "peaks" s_peaks f_peaks d_peaks
  b_peaks : Binds K d_peaks ["hall", "row"] []
  m_peaks : mg "peaks" = some (.ref f_peaks)
  f_l_filled : Addr
  d_l_filled : FuncData
  F_l_filled : Fun K "_law_filled" "_law_filled" s_l_filled f_l_filled d_l_filled
  b_l_filled : Binds K d_l_filled ["_law_lines_here", "_law_row", "_law_rooms"] []
  m_l_filled : mg "_law_filled" = some (.ref f_l_filled)
  f_l_refused : Addr
  d_l_refused : FuncData
  F_l_refused : Fun K "_law_refused" "_law_refused" s_l_refused f_l_refused d_l_refused
  b_l_refused : Binds K d_l_refused ["_law_hall", "_law_row"] []
  m_l_refused : mg "_law_refused" = some (.ref f_l_refused)
  f_l_whole : Addr
  d_l_whole : FuncData
  F_l_whole : Fun K "_law_whole" "_law_whole" s_l_whole f_l_whole d_l_whole
  b_l_whole : Binds K d_l_whole ["_law_found"] []
  m_l_whole : mg "_law_whole" = some (.ref f_l_whole)
  f_law : Addr
  d_law : FuncData
  F_law : Fun K "law" "law" s_law f_law d_law
  b_law : Binds K d_law ["_law_script"] []
  m_law : mg "law" = some (.ref f_law)
  C_Floor : Addr
  cl_Floor : Cls K C_Floor
  g_Floor : mg "Floor" = some (.ref C_Floor)
  na_Floor : NoAttrs K C_Floor ["takes", "gives", "heaps"]
  M_Floor_need_work : Meth K C_Floor "need_work" f_Floor_need_work
  M_Floor_go : Meth K C_Floor "go" f_Floor_go
  mk_Floor : Mk K C_Floor f_Floor_init
  C_Hall : Addr
  cl_Hall : Cls K C_Hall
  g_Hall : mg "Hall" = some (.ref C_Hall)
  na_Hall : NoAttrs K C_Hall ["numbers", "rows"]
  M_Hall_work : Meth K C_Hall "work" f_Hall_work
  M_Hall_need_work : Meth K C_Hall "need_work" f_Hall_need_work
  M_Hall_lay : Meth K C_Hall "lay" f_Hall_lay
  M_Hall_belt : Meth K C_Hall "belt" f_Hall_belt
  mk_Hall : Mk K C_Hall f_Hall_init
  M_Hall_belts : Meth K C_Hall "belts" f_Hall_belts
  M_Hall_entering : Meth K C_Hall "entering" f_Hall_entering
  M_Hall_need_belt : Meth K C_Hall "need_belt" f_Hall_need_belt
  M_Hall_belt_at : Meth K C_Hall "belt_at" f_Hall_belt_at
  M_Hall_leaving : Meth K C_Hall "leaving" f_Hall_leaving
  M_Hall_names : Meth K C_Hall "names" f_Hall_names
  n_ValueError : mg "ValueError" = none
  n_all : mg "all" = none
  n_bool : mg "bool" = none
  n_enumerate : mg "enumerate" = none
  n_int : mg "int" = none
  n_isinstance : mg "isinstance" = none
  n_len : mg "len" = none
  n_list : mg "list" = none
  n_max : mg "max" = none
  n_range : mg "range" = none
  n_str : mg "str" = none
  X_RateError : Addr
  gx_RateError : PySem.W.nsIn K mainGlobals "RateError" = some (some (.ref X_RateError))
  mx_RateError : mg "RateError" = some (.ref X_RateError)
  ex_RateError : PySem.W.excIn K X_RateError [.type "ValueError", .type "Exception", .type "BaseException", .type "object"] "ValueError.__new__" = true
  X_NoName : Addr
  gx_NoName : PySem.W.nsIn K mainGlobals "NoName" = some (some (.ref X_NoName))
  mx_NoName : mg "NoName" = some (.ref X_NoName)
  ex_NoName : PySem.W.excIn K X_NoName [.type "ValueError", .type "Exception", .type "BaseException", .type "object"] "ValueError.__new__" = true
  X_Twice : Addr
  gx_Twice : PySem.W.nsIn K mainGlobals "Twice" = some (some (.ref X_Twice))
  mx_Twice : mg "Twice" = some (.ref X_Twice)
  ex_Twice : PySem.W.excIn K X_Twice [.type "ValueError", .type "Exception", .type "BaseException", .type "object"] "ValueError.__new__" = true
  X_TooMuch : Addr
  gx_TooMuch : PySem.W.nsIn K mainGlobals "TooMuch" = some (some (.ref X_TooMuch))
  mx_TooMuch : mg "TooMuch" = some (.ref X_TooMuch)
  ex_TooMuch : PySem.W.excIn K X_TooMuch [.type "ValueError", .type "Exception", .type "BaseException", .type "object"] "ValueError.__new__" = true
  X_NoWork : Addr
  gx_NoWork : PySem.W.nsIn K mainGlobals "NoWork" = some (some (.ref X_NoWork))
  mx_NoWork : mg "NoWork" = some (.ref X_NoWork)
  ex_NoWork : PySem.W.excIn K X_NoWork [.type "ValueError", .type "Exception", .type "BaseException", .type "object"] "ValueError.__new__" = true
  X_NoBelt : Addr
  gx_NoBelt : PySem.W.nsIn K mainGlobals "NoBelt" = some (some (.ref X_NoBelt))
  mx_NoBelt : mg "NoBelt" = some (.ref X_NoBelt)
  ex_NoBelt : PySem.W.excIn K X_NoBelt [.type "ValueError", .type "Exception", .type "BaseException", .type "object"] "ValueError.__new__" = true
  X_NoRate : Addr
  gx_NoRate : PySem.W.nsIn K mainGlobals "NoRate" = some (some (.ref X_NoRate))
  mx_NoRate : mg "NoRate" = some (.ref X_NoRate)
  ex_NoRate : PySem.W.excIn K X_NoRate [.type "ValueError", .type "Exception", .type "BaseException", .type "object"] "ValueError.__new__" = true
  X_Empty : Addr
  gx_Empty : PySem.W.nsIn K mainGlobals "Empty" = some (some (.ref X_Empty))
  mx_Empty : mg "Empty" = some (.ref X_Empty)
  ex_Empty : PySem.W.excIn K X_Empty [.type "ValueError", .type "Exception", .type "BaseException", .type "object"] "ValueError.__new__" = true
  em_RateError_RateError : PySem.W.exmOne K (.ref X_RateError) (.ref X_RateError) = some true
  em_NoName_RateError : PySem.W.exmOne K (.ref X_NoName) (.ref X_RateError) = some true
  em_Twice_RateError : PySem.W.exmOne K (.ref X_Twice) (.ref X_RateError) = some true
  em_TooMuch_RateError : PySem.W.exmOne K (.ref X_TooMuch) (.ref X_RateError) = some true
  em_NoWork_RateError : PySem.W.exmOne K (.ref X_NoWork) (.ref X_RateError) = some true
  em_NoBelt_RateError : PySem.W.exmOne K (.ref X_NoBelt) (.ref X_RateError) = some true
  em_NoRate_RateError : PySem.W.exmOne K (.ref X_NoRate) (.ref X_RateError) = some true
  em_Empty_RateError : PySem.W.exmOne K (.ref X_Empty) (.ref X_RateError) = some true
  xc_NoName : ExcCls K X_NoName
  xc_Twice : ExcCls K X_Twice
  xc_TooMuch : ExcCls K X_TooMuch
  xc_NoWork : ExcCls K X_NoWork
  xc_NoBelt : ExcCls K X_NoBelt
  xc_NoRate : ExcCls K X_NoRate
  xc_Empty : ExcCls K X_Empty
  ki_NoName_Empty : PySem.W.kitOne K (.ref X_NoName) (.ref X_Empty) = some false
  ki_NoName_NoWork : PySem.W.kitOne K (.ref X_NoName) (.ref X_NoWork) = some false
  ki_NoName_ValueError : PySem.W.kitOne K (.ref X_NoName) (.type "ValueError") = some true
  ki_Twice_Empty : PySem.W.kitOne K (.ref X_Twice) (.ref X_Empty) = some false
  ki_Twice_NoWork : PySem.W.kitOne K (.ref X_Twice) (.ref X_NoWork) = some false
  ki_Twice_ValueError : PySem.W.kitOne K (.ref X_Twice) (.type "ValueError") = some true
  ki_TooMuch_Empty : PySem.W.kitOne K (.ref X_TooMuch) (.ref X_Empty) = some false
  ki_TooMuch_NoWork : PySem.W.kitOne K (.ref X_TooMuch) (.ref X_NoWork) = some false
  ki_TooMuch_ValueError : PySem.W.kitOne K (.ref X_TooMuch) (.type "ValueError") = some true
  ki_NoWork_Empty : PySem.W.kitOne K (.ref X_NoWork) (.ref X_Empty) = some false
  ki_NoWork_NoWork : PySem.W.kitOne K (.ref X_NoWork) (.ref X_NoWork) = some true
  ki_NoWork_ValueError : PySem.W.kitOne K (.ref X_NoWork) (.type "ValueError") = some true
  ki_NoBelt_Empty : PySem.W.kitOne K (.ref X_NoBelt) (.ref X_Empty) = some false
  ki_NoBelt_NoWork : PySem.W.kitOne K (.ref X_NoBelt) (.ref X_NoWork) = some false
  ki_NoBelt_ValueError : PySem.W.kitOne K (.ref X_NoBelt) (.type "ValueError") = some true
  ki_NoRate_Empty : PySem.W.kitOne K (.ref X_NoRate) (.ref X_Empty) = some false
  ki_NoRate_NoWork : PySem.W.kitOne K (.ref X_NoRate) (.ref X_NoWork) = some false
  ki_NoRate_ValueError : PySem.W.kitOne K (.ref X_NoRate) (.type "ValueError") = some true
  ki_Empty_Empty : PySem.W.kitOne K (.ref X_Empty) (.ref X_Empty) = some true
  ki_Empty_NoWork : PySem.W.kitOne K (.ref X_Empty) (.ref X_NoWork) = some false
  ki_Empty_ValueError : PySem.W.kitOne K (.ref X_Empty) (.type "ValueError") = some true
  tk_MOST_LETTERS : Tok
  c_MOST_LETTERS : mg "MOST_LETTERS" = some (.int 8 tk_MOST_LETTERS)
  tk_MOST_WORKS : Tok
  c_MOST_WORKS : mg "MOST_WORKS" = some (.int 30 tk_MOST_WORKS)
  tk_MOST_BELTS : Tok
  c_MOST_BELTS : mg "MOST_BELTS" = some (.int 60 tk_MOST_BELTS)
  bl_law : ∀ (s : Shared) (v : Value), BindsTo s d_law ⟨[v], []⟩ [("_law_script", v)]
theorem bits {k : Nat} {x : Int} (h : My.S k x) : Builtin.Int.intBits x ≤ 2048 * 2 ^ k := by
  unfold Builtin.Int.intBits
  split
  · exact Nat.zero_le _
  · rename_i hz
    have h0 : x.natAbs ≠ 0 := by
      intro e
      apply hz
      have : x = 0 := by omega
      rw [this]
      rfl
    have e : x.natAbs = x.toNat := by have := h.lo; omega
    have := (Nat.log2_lt h0).mpr (by rw [e]; exact h.hi)
    omega
theorem mulOk {j k : Nat} {x y : Int} (hx : My.S j x) (hy : My.S k y) (hj : j ≤ 4) (hk : k ≤ 4) : IntMulOk x y := by
  have b1 := bits hx
  have b2 := bits hy
  have m1 : 2048 * 2 ^ j ≤ 2048 * 2 ^ 4 := Nat.mul_le_mul_left _ (Nat.pow_le_pow_right (by decide) hj)
  have m2 : 2048 * 2 ^ k ≤ 2048 * 2 ^ 4 := Nat.mul_le_mul_left _ (Nat.pow_le_pow_right (by decide) hk)
  have n : Builtin.Int.intTooBig ((Builtin.Int.intBits x : Int) + (Builtin.Int.intBits y : Int)) = false := by
    unfold Builtin.Int.intTooBig
    rw [PySem.bitsLine_eq]
    exact decide_eq_false (by omega)
  unfold IntMulOk
  rw [n]
  simp
def spLaw (K : PySem.W.Frag) : Sp := fun vs H Q _ => ∃ (a : Addr) (ns : List Int), vs = [.ref a] ∧ SqL K H a (ns.map V.int) ∧ ns.length ≤ 63 ∧ ∀ H', Q (.bl true) H'
def sp_law {K : PySem.W.Frag} {mg : Str → Option Value} (T : Tp K mg) : Sp := spLaw K
def isName (x : Str) : Bool := decide (1 ≤ x.length) && decide (x.length ≤ 8) && x.cps.toList.all fun c => decide (97 ≤ c) && decide (c ≤ 122)
structure B5 where
  giver : Int
  taker : Int
  give : Int
  take : Int
  start : Int
def B5.v (b : B5) : List V := [.int b.giver, .int b.taker, .int b.give, .int b.take, .int b.start]
def B5.d (b : B5) : PyData := .tuple [.int b.giver, .int b.taker, .int b.give, .int b.take, .int b.start]
structure HM where
  names : List Str
  belts : List B5
def Tups (H : Hp) : List V → List B5 → Prop := Paired fun v b => ∃ t, v = .ref t ∧ H t = some (.tup b.v)
def numsOf (ns : List Str) : List (Key × V) := ns.zipIdx.map fun p => (Sum.inr p.1, V.int p.2)
theorem numsOf_len (ns : List Str) : (numsOf ns).length = ns.length := by unfold numsOf; simp
theorem numsOf_snoc (ns : List Str) (x : Str) : numsOf (ns ++ [x]) = numsOf ns ++ [(Sum.inr x, .int ns.length)] := by
  unfold numsOf
  rw [List.zipIdx_append]
  simp
theorem numsOf_keys (ns : List Str) : ((numsOf ns).map fun kv => kV kv.1) = ns.map V.str := by
  unfold numsOf
  rw [List.map_map]
  have : ((fun kv : Key × V => kV kv.1) ∘ fun p : Str × Nat => ((Sum.inr p.1 : Key), V.int p.2)) = (V.str ∘ fun p : Str × Nat => p.1) := rfl
  rw [this, ← List.map_map, List.zipIdx_map_fst]
theorem numsOf_in (ns : List Str) (x : Str) : (valV (numsOf ns) (Sum.inr x)).isSome = decide (x ∈ ns) := by
  rw [← valV_any]
  rw [Bool.eq_iff_iff, List.any_eq_true, decide_eq_true_eq]
  have e : x ∈ ns ↔ V.str x ∈ ns.map V.str := by
    constructor
    · exact List.mem_map_of_mem
    · intro h
      obtain ⟨y, hy, e⟩ := List.mem_map.mp h
      cases e
      exact hy
  rw [e, ← numsOf_keys, List.mem_map]
  constructor
  · rintro ⟨p, hp, h⟩
    exact ⟨p, hp, by rw [of_decide_eq_true h]; rfl⟩
  · rintro ⟨p, hp, h⟩
    exact ⟨p, hp, decide_eq_true (kV_inj h)⟩
theorem numsOf_none {ns : List Str} {x : Str} (h : x ∉ ns) : valV (numsOf ns) (Sum.inr x) = none := by
  have := numsOf_in ns x
  rw [decide_eq_false h] at this
  cases e : valV (numsOf ns) (Sum.inr x) with
  | none => rfl
  | some v => rw [e] at this; cases this
theorem numsOf_put {ns : List Str} {x : Str} (h : x ∉ ns) : putK (numsOf ns) (Sum.inr x) (.int ns.length) = numsOf (ns ++ [x]) := by
  rw [putK_new _ (numsOf_none h), numsOf_snoc]
def HallAt {K : PySem.W.Frag} {mg : Str → Option Value} (T : Tp K mg) (H : Hp) (p : Addr) (hl : HM) (fp : List Addr) : Prop :=
  ∃ (dx a b : Addr) (bs : List V), fp = [p, dx, a, b] ∧ H p = some (.ins T.C_Hall dx [("numbers", .ref a), ("rows", .ref b)]) ∧ H dx = some (.own p) ∧ H a = some (.dK (numsOf hl.names)) ∧ H b = some (.lst bs) ∧ a ≠ b ∧ Tups H bs hl.belts
theorem Tups.keep {H H' : Hp} (t : ∀ b xs, H b = some (.tup xs) → H' b = some (.tup xs)) : ∀ {bs : List V} {ls : List B5}, Tups H bs ls → Tups H' bs ls
  | _, _, .nil => .nil
  | _, _, .cons ⟨a, e, h⟩ r => .cons ⟨a, e, t _ _ h⟩ (Tups.keep t r)
theorem Tups.length {H : Hp} {bs : List V} {ls : List B5} (h : Tups H bs ls) : bs.length = ls.length := Paired.length h
theorem Tups.snoc {H : Hp} : ∀ {bs : List V} {ls : List B5} {t : Addr} {b : B5}, Tups H bs ls → H t = some (.tup b.v) → Tups H (bs ++ [.ref t]) (ls ++ [b])
  | _, _, _, _, .nil, h => .cons ⟨_, rfl, h⟩ .nil
  | _, _, _, _, .cons x r, h => .cons x (Tups.snoc r h)
theorem Tups.at {H : Hp} : ∀ {bs : List V} {ls : List B5} {i : Nat} {b : B5}, Tups H bs ls → ls[i]? = some b → ∃ t, bs[i]? = some (.ref t) ∧ H t = some (.tup b.v)
  | _, _, _, _, .nil, e => by simp at e
  | _, _, 0, _, .cons ⟨t, e1, h⟩ _, e => by simp at e; subst e; exact ⟨t, by simp [e1], h⟩
  | _, _, i + 1, b, .cons _ r, e => by
    obtain ⟨t, h1, h2⟩ := Tups.at (i := i) (b := b) r (by simpa using e)
    exact ⟨t, by simpa using h1, h2⟩
section
variable {K : PySem.W.Frag} {mg : Str → Option Value} {T : Tp K mg} {H H' : Hp} {p : Addr} {hl : HM} {fp : List Addr}
theorem HallAt.dom (h : HallAt T H p hl fp) : ∀ x ∈ fp, H x ≠ none := by
  obtain ⟨dx, a, b, bs, rfl, h1, h2, h3, h4, _⟩ := h
  intro x hx
  simp only [List.mem_cons, List.not_mem_nil, or_false] at hx
  rcases hx with rfl | rfl | rfl | rfl
  · rw [h1]; simp
  · rw [h2]; simp
  · rw [h3]; simp
  · rw [h4]; simp
theorem HallAt.keep (h : HallAt T H p hl fp) (k : ∀ x ∈ fp, H' x = H x) (t : ∀ b xs, H b = some (.tup xs) → H' b = some (.tup xs)) : HallAt T H' p hl fp := by
  obtain ⟨dx, a, b, bs, rfl, h1, h2, h3, h4, h5, h6⟩ := h
  exact ⟨dx, a, b, bs, rfl, (k p (by simp)).trans h1, (k dx (by simp)).trans h2, (k a (by simp)).trans h3, (k b (by simp)).trans h4, h5, h6.keep t⟩
theorem HallAt.off {A : List Addr} (h : HallAt T H p hl fp) (f : Frame A H H') (d : ∀ x ∈ fp, x ∉ A) : HallAt T H' p hl fp := by
  refine h.keep (fun x hx => ?_) f.tups
  cases q : H x with
  | none => exact absurd q (h.dom x hx)
  | some o => exact f.keep x o q (d x hx)
theorem Hall_meth {m : Str} {G : Prop} (h : HallAt T H p hl fp) (m1 : (m == "numbers") = false) (m2 : (m == "rows") = false) (q : G) : ∃ a dx fs, V.ref p = .ref a ∧ H a = some (.ins T.C_Hall dx fs) ∧ fs.lookup m = none ∧ G := by
  obtain ⟨dx, a, b, bs, rfl, h1, _⟩ := h
  exact ⟨p, dx, _, rfl, h1, Rd.lk1 m1 (Rd.lk1 m2 Rd.lkN), q⟩
theorem HallAt.same (h : HallAt T H p hl fp) (e : Same H H') : HallAt T H' p hl fp := h.off (A := []) e.frame (by simp)
end
def dB : B5 := ⟨0, 0, 0, 0, 0⟩
def enterL (ls : List B5) (w : Int) : List Nat := (List.range ls.length).filter fun i => decide ((ls.getD i dB).taker = w)
def leaveL (ls : List B5) (w : Int) : List Nat := (List.range ls.length).filter fun i => decide ((ls.getD i dB).giver = w)
theorem Tups.getD {H : Hp} {bs : List V} {ls : List B5} {i : Nat} (h : Tups H bs ls) (hi : i < ls.length) : ∃ t, bs.getD i .non = .ref t ∧ H t = some (.tup (ls.getD i dB).v) := by
  obtain ⟨t, h1, h2⟩ := h.at (List.getElem?_eq_getElem hi)
  exact ⟨t, by simp [List.getD, h1], by simpa [List.getD, hi] using h2⟩
theorem at_ints {ns : List Int} {k : Int} (h0 : 0 ≤ k) (h1 : k < ns.length) : atI (ns.map V.int) k = some (.int (ns.getD k.toNat 0)) := by
  obtain ⟨n, rfl⟩ := Int.eq_ofNat_of_zero_le h0
  have hn : n < ns.length := by omega
  refine atI_nat ?_
  simp [List.getD, hn]
theorem Paired.get {α β : Type} {P : α → β → Prop} : ∀ {xs : List α} {ys : List β} {i : Nat} {x : α}, Paired P xs ys → xs[i]? = some x → ∃ y, ys[i]? = some y ∧ P x y
  | _, _, _, _, .nil, e => by simp at e
  | _, _, 0, _, .cons h _, e => by simp at e; subst e; exact ⟨_, rfl, h⟩
  | _, _, i + 1, x, .cons _ r, e => by
    obtain ⟨y, h1, h2⟩ := Paired.get (i := i) (x := x) r (by simpa using e)
    exact ⟨y, by simpa using h1, h2⟩
theorem paired_of {α β : Type} {P : α → β → Prop} : ∀ {xs : List α} {ys : List β}, xs.length = ys.length → (∀ (i : Nat) x y, xs[i]? = some x → ys[i]? = some y → P x y) → Paired P xs ys
  | [], [], _, _ => .nil
  | x :: xs, y :: ys, hl, h => .cons (h 0 x y rfl rfl) (paired_of (by simpa using hl) fun i a b e1 e2 => h (i + 1) a b (by simpa using e1) (by simpa using e2))
  | [], _ :: _, hl, _ => by simp at hl
  | _ :: _, [], hl, _ => by simp at hl
theorem paired_range {β γ : Type} {S : γ → β → Prop} {L : List γ} {d : γ} {ys : List β} (h : Paired (fun i v => S (L.getD i d) v) ((List.range L.length).filter fun _ => true) ys) : Paired S L ys := by
  rw [List.filter_eq_self.mpr (by simp)] at h
  refine paired_of (by rw [← Paired.length h, List.length_range]) fun i x y e1 e2 => ?_
  have hi : i < L.length := (List.getElem?_eq_some_iff.mp e1).1
  obtain ⟨y', h1, h2⟩ := Paired.get (i := i) (x := i) h (by simp [hi])
  rw [e2] at h1
  cases h1
  simpa [List.getD, e1] using h2
def Pairs (H : Hp) : List (Int × Int) → List V → Prop := Paired fun x v => ∃ t, v = .ref t ∧ H t = some (.tup [.int x.1, .int x.2])
theorem Pairs.keep {H H' : Hp} (t : ∀ b xs, H b = some (.tup xs) → H' b = some (.tup xs)) {vs : List V} {l : List (Int × Int)} (h : Pairs H l vs) : Pairs H' l vs := Paired.mapP h fun _ _ ⟨a, e, z⟩ => ⟨a, e, t _ _ z⟩
def LL (H : Hp) : List (List (Int × Int)) → List Addr → Prop := Paired fun l a => ∃ vs, H a = some (.lst vs) ∧ Pairs H l vs
theorem LL.dom {H : Hp} : ∀ {ls : List (List (Int × Int))} {as : List Addr}, LL H ls as → ∀ x ∈ as, H x ≠ none
  | _, _, .nil, _, hx => by simp at hx
  | _, _, .cons ⟨vs, h, _⟩ r, x, hx => by
    rcases List.mem_cons.mp hx with rfl | hx
    · rw [h]; simp
    · exact LL.dom r x hx
theorem LL.keep {H H' : Hp} (t : ∀ b xs, H b = some (.tup xs) → H' b = some (.tup xs)) : ∀ {ls : List (List (Int × Int))} {as : List Addr}, LL H ls as → (∀ x ∈ as, H' x = H x) → LL H' ls as
  | _, _, .nil, _ => .nil
  | _, _, .cons ⟨vs, h, p⟩ r, k => .cons ⟨vs, (k _ (by simp)).trans h, p.keep t⟩ (LL.keep t r fun x hx => k x (List.mem_cons_of_mem _ hx))
def takeRow (ls : List B5) (w : Int) : List (Int × Int) := (enterL ls w).map fun i : Nat => ((i : Int), (ls.getD i dB).take)
def giveRow (ls : List B5) (w : Int) : List (Int × Int) := (leaveL ls w).map fun i : Nat => ((i : Int), (ls.getD i dB).give)
structure FM where
  many : Int
  rows : List B5
  heaps : List Int
def takesL (fl : FM) : List (List (Int × Int)) := (List.range fl.many.toNat).map fun w : Nat => takeRow fl.rows w
def givesL (fl : FM) : List (List (Int × Int)) := (List.range fl.many.toNat).map fun w : Nat => giveRow fl.rows w
def FloorAt {K : PySem.W.Frag} {mg : Str → Option Value} (T : Tp K mg) (H : Hp) (p : Addr) (fl : FM) (fp : List Addr) : Prop :=
  ∃ (dx a b c : Addr) (ia ib : List Addr), fp = p :: dx :: a :: b :: c :: (ia ++ ib) ∧ H p = some (.ins T.C_Floor dx [("takes", .ref a), ("gives", .ref b), ("heaps", .ref c)]) ∧ H dx = some (.own p) ∧ H a = some (.lst (ia.map V.ref)) ∧ H b = some (.lst (ib.map V.ref)) ∧
    H c = some (.lst (fl.heaps.map V.int)) ∧ LL H (takesL fl) ia ∧ LL H (givesL fl) ib ∧ fl.heaps.length = fl.rows.length ∧ 0 ≤ fl.many
section
variable {K : PySem.W.Frag} {mg : Str → Option Value} {T : Tp K mg} {H H' : Hp} {p : Addr} {fl : FM} {fp : List Addr}
theorem FloorAt.dom (h : FloorAt T H p fl fp) : ∀ x ∈ fp, H x ≠ none := by
  obtain ⟨dx, a, b, c, ia, ib, rfl, h1, h2, h3, h4, h5, h6, h7, h8, h9⟩ := h
  intro x hx
  simp only [List.mem_cons, List.mem_append] at hx
  rcases hx with rfl | rfl | rfl | rfl | rfl | hx | hx
  · rw [h1]; simp
  · rw [h2]; simp
  · rw [h3]; simp
  · rw [h4]; simp
  · rw [h5]; simp
  · exact h6.dom x hx
  · exact h7.dom x hx
theorem FloorAt.off {A : List Addr} (h : FloorAt T H p fl fp) (f : Frame A H H') (d : ∀ x ∈ fp, x ∉ A) : FloorAt T H' p fl fp := by
  have k : ∀ x ∈ fp, H' x = H x := fun x hx => by
    cases q : H x with
    | none => exact absurd q (h.dom x hx)
    | some o => exact f.keep x o q (d x hx)
  obtain ⟨dx, a, b, c, ia, ib, rfl, h1, h2, h3, h4, h5, h6, h7, h8, h9⟩ := h
  exact ⟨dx, a, b, c, ia, ib, rfl, (k p (by simp)).trans h1, (k dx (by simp)).trans h2, (k a (by simp)).trans h3, (k b (by simp)).trans h4, (k c (by simp)).trans h5,
    h6.keep f.tups (fun x hx => k x (by simp [hx])), h7.keep f.tups (fun x hx => k x (by simp [hx])), h8, h9⟩
theorem FloorAt.same (h : FloorAt T H p fl fp) (e : Same H H') : FloorAt T H' p fl fp := h.off (A := []) e.frame (by simp)
theorem Floor_meth {m : Str} {G : Prop} (h : FloorAt T H p fl fp) (m1 : (m == "takes") = false) (m2 : (m == "gives") = false) (m3 : (m == "heaps") = false) (q : G) : ∃ a dx fs, V.ref p = .ref a ∧ H a = some (.ins T.C_Floor dx fs) ∧ fs.lookup m = none ∧ G := by
  obtain ⟨dx, a, b, c, ia, ib, rfl, h1, _⟩ := h
  exact ⟨p, dx, _, rfl, h1, Rd.lk1 m1 (Rd.lk1 m2 (Rd.lk1 m3 Rd.lkN)), q⟩
end
def readyL (rows : List B5) (hs : List Int) (w : Int) : Bool := (rows.zip hs).all fun x => !(decide (x.1.taker = w)) || decide (x.1.take ≤ x.2)
theorem readyL_true {w : Int} : ∀ {rows : List B5} {hs : List Int}, (∀ (i : Nat) (r : B5) (h : Int), rows[i]? = some r → hs[i]? = some h → r.taker = w → r.take ≤ h) → readyL rows hs w = true
  | [], _, _ => by simp [readyL]
  | _ :: _, [], _ => by simp [readyL]
  | r :: rs, h :: hs, q => by
    have e := readyL_true (rows := rs) (hs := hs) (w := w) fun i r' h' a b => q (i + 1) r' h' (by simpa using a) (by simpa using b)
    unfold readyL at e ⊢
    rw [List.zip_cons_cons, List.all_cons, e, Bool.and_true]
    by_cases c : r.taker = w
    · rw [decide_eq_true (q 0 r h rfl rfl c), Bool.or_true]
    · rw [decide_eq_false c]; rfl
theorem readyL_false {w : Int} : ∀ {rows : List B5} {hs : List Int} (i : Nat) {r : B5} {h : Int}, rows[i]? = some r → hs[i]? = some h → r.taker = w → h < r.take → readyL rows hs w = false
  | [], _, _, _, _, a, _, _, _ => by simp at a
  | _ :: _, [], _, _, _, _, a, _, _ => by simp at a
  | r :: rs, h :: hs, 0, r', h', a, b, c, d => by
    simp only [List.getElem?_cons_zero, Option.some.injEq] at a b
    subst a b
    unfold readyL
    rw [List.zip_cons_cons, List.all_cons, decide_eq_true c, decide_eq_false (show ¬ r.take ≤ h by omega)]
    rfl
  | r :: rs, h :: hs, i + 1, r', h', a, b, c, d => by
    have e := readyL_false (rows := rs) (hs := hs) (w := w) i (r := r') (h := h') (by simpa using a) (by simpa using b) c d
    unfold readyL at e ⊢
    rw [List.zip_cons_cons, List.all_cons, e, Bool.and_false]
def shiftL (rows : List B5) (hs : List Int) (w : Int) : List Int := (rows.zip hs).map fun x => x.2 - (if x.1.taker = w then x.1.take else 0) + (if x.1.giver = w then x.1.give else 0)
theorem shiftL_len {rows : List B5} {hs : List Int} {w : Int} (h : hs.length = rows.length) : (shiftL rows hs w).length = hs.length := by unfold shiftL; simp; omega
theorem shiftL_at {rows : List B5} {hs : List Int} {w : Int} {i : Nat} (h1 : i < rows.length) (h2 : i < hs.length) (h3 : i < (shiftL rows hs w).length) : (shiftL rows hs w)[i] = hs[i] - (if rows[i].taker = w then rows[i].take else 0) + (if rows[i].giver = w then rows[i].give else 0) := by
  have e : (shiftL rows hs w)[i]? = some (hs[i] - (if rows[i].taker = w then rows[i].take else 0) + (if rows[i].giver = w then rows[i].give else 0)) := by
    unfold shiftL
    rw [List.getElem?_map, List.getElem?_eq_getElem (by rw [List.length_zip]; omega)]
    simp
  rw [List.getElem?_eq_getElem h3] at e
  exact Option.some.inj e
def enoughL (hs : List Int) (l : List (Int × Int)) : Bool := l.all fun x => decide (x.2 ≤ hs.getD x.1.toNat 0)
theorem enoughL_eq {rows : List B5} {hs : List Int} {w : Int} (h : hs.length = rows.length) : enoughL hs (takeRow rows w) = readyL rows hs w := by
  cases e : enoughL hs (takeRow rows w) with
  | true =>
    refine (readyL_true fun i r x a b c => ?_).symm
    have hi : i < rows.length := (List.getElem?_eq_some_iff.mp a).1
    have er : rows.getD i dB = r := by simp [List.getD, a]
    have m : ((i : Int), r.take) ∈ takeRow rows w := by
      unfold takeRow enterL
      refine List.mem_map.mpr ⟨i, List.mem_filter.mpr ⟨List.mem_range.mpr hi, decide_eq_true (by rw [er]; exact c)⟩, by rw [er]⟩
    have := of_decide_eq_true (List.all_eq_true.mp e _ m)
    simpa [List.getD, b] using this
  | false =>
    unfold enoughL at e
    rw [List.all_eq_false] at e
    obtain ⟨x, hx, d⟩ := e
    unfold takeRow enterL at hx
    obtain ⟨i, hi, rfl⟩ := List.mem_map.mp hx
    obtain ⟨h1, h2⟩ := List.mem_filter.mp hi
    have hr := List.mem_range.mp h1
    have ei := List.getElem?_eq_getElem hr
    have eh := List.getElem?_eq_getElem (show i < hs.length by omega)
    have er : rows.getD i dB = rows[i] := by simp [List.getD, ei]
    rw [er] at h2 d
    refine (readyL_false i ei eh (of_decide_eq_true h2) ?_).symm
    have d' : ¬ rows[i].take ≤ hs.getD (i : Int).toNat 0 := fun z => d (decide_eq_true z)
    have eg : hs.getD (i : Int).toNat 0 = hs[i] := by simp [List.getD, eh]
    rw [eg] at d'
    omega
theorem enterL_lt {ls : List B5} {w : Int} {i : Nat} (h : i ∈ enterL ls w) : i < ls.length := List.mem_range.mp (List.mem_filter.mp h).1
theorem leaveL_lt {ls : List B5} {w : Int} {i : Nat} (h : i ∈ leaveL ls w) : i < ls.length := List.mem_range.mp (List.mem_filter.mp h).1
theorem enterL_len {ls : List B5} {w : Int} : (enterL ls w).length ≤ ls.length := Nat.le_trans (List.length_filter_le _ _) (by simp)
theorem leaveL_len {ls : List B5} {w : Int} : (leaveL ls w).length ≤ ls.length := Nat.le_trans (List.length_filter_le _ _) (by simp)
def bump (f : Nat → Int) (hs : List Int) (is : List Nat) : List Int := is.foldl (fun hs i => hs.set i (hs.getD i 0 + f i)) hs
theorem bump_len (f : Nat → Int) : ∀ (is : List Nat) (hs : List Int), (bump f hs is).length = hs.length
  | [], _ => rfl
  | i :: is, hs => by
    show (bump f (hs.set i _) is).length = _
    rw [bump_len f is, List.length_set]
theorem bump_at (f : Nat → Int) : ∀ (is : List Nat) (hs : List Int) (j : Nat), is.Nodup → j < hs.length → (bump f hs is).getD j 0 = hs.getD j 0 + if j ∈ is then f j else 0
  | [], hs, j, _, _ => by simp [bump]
  | i :: is, hs, j, nd, hj => by
    obtain ⟨n1, n2⟩ := List.nodup_cons.mp nd
    show (bump f (hs.set i (hs.getD i 0 + f i)) is).getD j 0 = _
    rw [bump_at f is _ j n2 (by rw [List.length_set]; exact hj)]
    by_cases e : i = j
    · subst e
      have e1 : (hs.set i (hs.getD i 0 + f i)).getD i 0 = hs.getD i 0 + f i := by rw [List.getD_eq_getElem?_getD, List.getElem?_set_self hj]; rfl
      rw [e1, if_neg n1, if_pos List.mem_cons_self, Int.add_zero]
    · have e1 : (hs.set i (hs.getD i 0 + f i)).getD j 0 = hs.getD j 0 := by rw [List.getD_eq_getElem?_getD, List.getElem?_set_ne e, List.getD_eq_getElem?_getD]
      rw [e1]
      have : (j ∈ i :: is) ↔ j ∈ is := by simp [Ne.symm e]
      simp only [this]
theorem nodup_filter_range (n : Nat) (c : Nat → Bool) : ((List.range n).filter c).Nodup := List.nodup_range.filter c
theorem shift_bump {rows : List B5} {hs : List Int} {w : Int} (h : hs.length = rows.length) :
    bump (fun i => (rows.getD i dB).give) (bump (fun i => - (rows.getD i dB).take) hs (enterL rows w)) (leaveL rows w) = shiftL rows hs w := by
  have l1 := bump_len (fun i => - (rows.getD i dB).take) (enterL rows w) hs
  refine List.ext_getElem (by rw [bump_len, l1, shiftL_len h]) fun i h1 h2 => ?_
  rw [bump_len, l1] at h1
  have hr : i < rows.length := by omega
  rw [shiftL_at hr h1 h2]
  have e0 : ∀ (xs : List Int) (hx : i < xs.length), xs[i] = xs.getD i 0 := fun xs hx => by simp [List.getD, hx]
  rw [e0 _ (by rw [bump_len, l1]; exact h1), bump_at _ (leaveL rows w) _ _ (nodup_filter_range _ _) (by rw [l1]; exact h1), bump_at _ (enterL rows w) _ _ (nodup_filter_range _ _) h1, ← e0 hs h1]
  have er : rows.getD i dB = rows[i] := by simp [List.getD, hr]
  have m1 : i ∈ enterL rows w ↔ rows[i].taker = w := by
    unfold enterL
    rw [List.mem_filter, List.mem_range, er, decide_eq_true_eq]
    exact ⟨fun z => z.2, fun z => ⟨hr, z⟩⟩
  have m2 : i ∈ leaveL rows w ↔ rows[i].giver = w := by
    unfold leaveL
    rw [List.mem_filter, List.mem_range, er, decide_eq_true_eq]
    exact ⟨fun z => z.2, fun z => ⟨hr, z⟩⟩
  simp only [m1, m2, er]
  split <;> split <;> omega
def turnR (many : Int) (rows : List B5) (hs : List Int) (w : Int) : Except Bool (List Int) := if 0 ≤ w ∧ w < many then (if readyL rows hs w = true then .ok (shiftL rows hs w) else .error false) else .error true
def goR (many : Int) (rows : List B5) : List Int → List Int → Except Bool (List Int)
  | hs, [] => .ok hs
  | hs, w :: ws => match turnR many rows hs w with
    | .ok hs' => goR many rows hs' ws
    | .error e => .error e
theorem goR_append {many : Int} {rows : List B5} : ∀ {xs : List Int} {hs hs' : List Int} {ys : List Int}, goR many rows hs xs = .ok hs' → goR many rows hs (xs ++ ys) = goR many rows hs' ys
  | [], hs, hs', ys, h => by
    have : hs = hs' := by simpa [goR] using h
    rw [this]; rfl
  | x :: xs, hs, hs', ys, h => by
    show (match turnR many rows hs x with | .ok hs' => goR many rows hs' (xs ++ ys) | .error e => .error e) = _
    have h' : (match turnR many rows hs x with | .ok hs' => goR many rows hs' xs | .error e => .error e) = .ok hs' := h
    cases e : turnR many rows hs x with
    | ok h1 =>
      rw [e] at h'
      exact goR_append (xs := xs) h'
    | error b => rw [e] at h'; cases h'
theorem goR_err {many : Int} {rows : List B5} : ∀ {xs : List Int} {hs : List Int} {b : Bool} {ys : List Int}, goR many rows hs xs = .error b → goR many rows hs (xs ++ ys) = .error b
  | [], hs, b, ys, h => by cases h
  | x :: xs, hs, b, ys, h => by
    show (match turnR many rows hs x with | .ok hs' => goR many rows hs' (xs ++ ys) | .error e => .error e) = _
    have h' : (match turnR many rows hs x with | .ok hs' => goR many rows hs' xs | .error e => .error e) = .error b := h
    cases e : turnR many rows hs x with
    | ok h1 =>
      rw [e] at h'
      exact goR_err (xs := xs) h'
    | error c => rw [e] at h'; exact h'
theorem goR_step {many : Int} {rows : List B5} {hs0 hs : List Int} {ws : List Int} {i : Nat} {w : Int} (h : goR many rows hs0 (ws.take i) = .ok hs) (e : ws[i]? = some w) : goR many rows hs0 (ws.take (i + 1)) = turnR many rows hs w := by
  have hi := (List.getElem?_eq_some_iff.mp e)
  rw [List.take_succ, e]
  show goR many rows hs0 (ws.take i ++ [w]) = _
  rw [goR_append h]
  show (match turnR many rows hs w with | .ok hs' => goR many rows hs' [] | .error e => .error e) = _
  cases turnR many rows hs w <;> rfl
theorem goR_stop {many : Int} {rows : List B5} {hs0 hs : List Int} {ws : List Int} {i : Nat} {w : Int} {b : Bool} (h : goR many rows hs0 (ws.take i) = .ok hs) (e : ws[i]? = some w) (t : turnR many rows hs w = .error b) : goR many rows hs0 ws = .error b := by
  have := goR_err (ys := ws.drop (i + 1)) ((goR_step h e).trans t)
  rwa [List.take_append_drop] at this
theorem turnR_len {many : Int} {rows : List B5} {hs hs' : List Int} {w : Int} (h : hs.length = rows.length) (e : turnR many rows hs w = .ok hs') : hs'.length = rows.length := by
  unfold turnR at e
  split at e
  · split at e
    · cases e
      rw [shiftL_len h, h]
    · cases e
  · cases e
theorem goR_len {many : Int} {rows : List B5} : ∀ {ws : List Int} {hs hs' : List Int}, hs.length = rows.length → goR many rows hs ws = .ok hs' → hs'.length = rows.length
  | [], hs, hs', h, e => by
    have : hs = hs' := by simpa [goR] using e
    rw [← this]; exact h
  | w :: ws, hs, hs', h, e => by
    have e' : (match turnR many rows hs w with | .ok hs' => goR many rows hs' ws | .error e => .error e) = .ok hs' := e
    cases q : turnR many rows hs w with
    | ok h1 =>
      rw [q] at e'
      exact goR_len (turnR_len h q) e'
    | error b => rw [q] at e'; cases e'
theorem takesL_at {fl : FM} {w : Int} (h0 : 0 ≤ w) (h1 : w < fl.many) : (takesL fl)[w.toNat]? = some (takeRow fl.rows w) := by
  unfold takesL
  have : w.toNat < fl.many.toNat := by omega
  rw [List.getElem?_map, List.getElem?_range this]
  show some (takeRow fl.rows (w.toNat : Int)) = _
  rw [Int.toNat_of_nonneg h0]
theorem givesL_at {fl : FM} {w : Int} (h0 : 0 ≤ w) (h1 : w < fl.many) : (givesL fl)[w.toNat]? = some (giveRow fl.rows w) := by
  unfold givesL
  have : w.toNat < fl.many.toNat := by omega
  rw [List.getElem?_map, List.getElem?_range this]
  show some (giveRow fl.rows (w.toNat : Int)) = _
  rw [Int.toNat_of_nonneg h0]
theorem LL.at {H : Hp} {ls : List (List (Int × Int))} {ia : List Addr} {w : Int} {l : List (Int × Int)} (h : LL H ls ia) (h0 : 0 ≤ w) (e : ls[w.toNat]? = some l) : ∃ x vs, atI (ia.map V.ref) w = some (.ref x) ∧ H x = some (.lst vs) ∧ Pairs H l vs := by
  obtain ⟨x, h1, vs, h2, h3⟩ := Paired.get h e
  refine ⟨x, vs, ?_, h2, h3⟩
  have := atI_nat (xs := ia.map V.ref) (j := w.toNat) (v := .ref x) (by rw [List.getElem?_map, h1]; rfl)
  rwa [Int.toNat_of_nonneg h0] at this
theorem LL.len {H : Hp} {ls : List (List (Int × Int))} {ia : List Addr} (h : LL H ls ia) : ia.length = ls.length := (Paired.length h).symm
theorem pairs_row {H : Hp} {js : List Nat} {f : Nat → Int} {ys : List V} (h : Paired (fun i v => ∃ t, v = V.ref t ∧ H t = some (.tup [.int (js.getD i 0 : Nat), .int (f (js.getD i 0))])) ((List.range (js.map fun i : Nat => V.int i).length).filter fun _ => true) ys) : Pairs H (js.map fun i : Nat => ((i : Int), f i)) ys := by
  rw [List.length_map] at h
  have h1 : Paired (fun (j : Nat) v => ∃ t, v = V.ref t ∧ H t = some (.tup [.int (j : Nat), .int (f j)])) js ys := paired_range (L := js) (d := 0) h
  refine paired_of (by rw [List.length_map]; exact Paired.length h1) fun i x y e1 e2 => ?_
  rw [List.getElem?_map] at e1
  cases e : js[i]? with
  | none => rw [e] at e1; cases e1
  | some j =>
    rw [e] at e1
    cases e1
    obtain ⟨y', e3, h3⟩ := Paired.get h1 e
    rw [e2] at e3
    cases e3
    exact h3
theorem takeRow_rg {ls : List B5} {w : Int} {n : Nat} (h : n = ls.length) : ∀ x ∈ takeRow ls w, 0 ≤ x.1 ∧ x.1 < n := by
  intro x hx
  obtain ⟨i, hi, rfl⟩ := List.mem_map.mp hx
  have := enterL_lt hi
  show 0 ≤ (i : Int) ∧ (i : Int) < n
  omega
theorem takeRow_len {ls : List B5} {w : Int} : (takeRow ls w).length ≤ ls.length := by unfold takeRow; rw [List.length_map]; exact enterL_len
theorem lay_b5 (b : B5) : b.d.canLay0 = true := by simp [B5.d, PyData.canLay0, PyData.canLayAll0]
theorem depth_b5 (b : B5) : b.d.depth ≤ 2 := by simp [B5.d, PyData.depth, PyData.depthAll]
theorem lay_b5s : ∀ ls : List B5, PyData.canLayAll0 (ls.map B5.d) = true
  | [] => by simp [PyData.canLayAll0]
  | b :: ls => by
    have := lay_b5s ls
    simp only [List.map_cons, PyData.canLayAll0, lay_b5 b, Bool.true_and]
    exact this
theorem layL_b5s (ls : List B5) : (PyData.list (ls.map B5.d)).canLay0 = true := by
  have := lay_b5s ls
  simp [PyData.canLay0]
  simpa using this
theorem depth_b5s : ∀ ls : List B5, PyData.depthAll (ls.map B5.d) ≤ 3
  | [] => by simp [PyData.depthAll]
  | b :: ls => by
    have h1 := depth_b5s ls
    have h2 := depth_b5 b
    simp only [List.map_cons, PyData.depthAll]
    omega
theorem depthL_b5s (ls : List B5) : (PyData.list (ls.map B5.d)).depth ≤ 60 := by
  have := depth_b5s ls
  simp only [PyData.depth]
  omega
theorem rel_b5 {K : PySem.W.Frag} {H : Hp} {t : Addr} {b : B5} (h : H t = some (.tup b.v)) : DRel K H (.ref t) b.d := .tup (.of h) (.cons (.int _) (.cons (.int _) (.cons (.int _) (.cons (.int _) (.cons (.int _) .nil)))))
theorem rel_b5s {K : PySem.W.Frag} {H : Hp} : ∀ {bs : List V} {ls : List B5}, Tups H bs ls → DRels K H bs (ls.map B5.d)
  | _, _, .nil => .nil
  | _, _, .cons ⟨t, e, h⟩ r => by rw [e]; exact .cons (rel_b5 h) (rel_b5s r)
theorem neB5s {K : PySem.W.Frag} {H : Hp} {Q : VK} {p q : Addr} {bs cs : List V} {ls : List B5} (h1 : SqL K H p bs) (t1 : Tups H bs ls) (h2 : SqL K H q cs) (t2 : Tups H cs ls) (k : Q (.bl false) H) : rOr rNe (rEqD K true) (.ref p) (.ref q) H Q :=
  Rd.neUD (.lst h1 (rel_b5s t1)) (.lst h2 (rel_b5s t2)) (layL_b5s ls) (layL_b5s ls) (depthL_b5s ls) (by rw [SeqAt.eqv_refl _ (layL_b5s ls)]; exact k)
theorem mul30 {x y : Int} (hx : 0 ≤ x ∧ x ≤ 10 ^ 30) (hy : 0 ≤ y ∧ y ≤ 10 ^ 30) : IntMulOk x y := mulOk (My.S.small (k := 0) hx.1 (by omega)) (My.S.small (k := 0) hy.1 (by omega)) (by decide) (by decide)
structure Drawn17 (m : Int) (b : B5) : Prop where
  rg : 0 ≤ b.giver ∧ b.giver < m ∧ 0 ≤ b.taker ∧ b.taker < m
  sz : 1 ≤ b.give ∧ 1 ≤ b.take
  st : 0 ≤ b.start
theorem same_none {H H' : Hp} {x : Addr} (s : Same H H') (h : H' x = none) : H x = none := by
  cases e : H x with
  | none => rfl
  | some o => rw [s _ _ e] at h; cases h
theorem getD_of {α : Type} {xs : List α} {i : Nat} {d : α} (h : i < xs.length) : xs.getD i d = xs[i] := by simp [List.getD, h]
def pkStep (b : B5) (s : Int × Int) (w : Int) : Int × Int := (if w = b.giver then (if s.2 + b.give > s.1 then s.2 + b.give else s.1) else s.1, s.2 + (if w = b.giver then b.give else 0) - (if w = b.taker then b.take else 0))
def pkAll (b : B5) (ws : List Int) : Int × Int := ws.foldl (pkStep b) (b.start, b.start)
def pkM (ws : List Int) (b : B5) : Int := (pkAll b ws).1
theorem pkStep_le (b : B5) (s : Int × Int) (w : Int) : s.1 ≤ (pkStep b s w).1 := by
  unfold pkStep
  dsimp only
  split
  · split <;> omega
  · omega
theorem pkFold_le (b : B5) : ∀ (ws : List Int) (s : Int × Int), s.1 ≤ (ws.foldl (pkStep b) s).1
  | [], _ => Int.le_refl _
  | w :: ws, s => Int.le_trans (pkStep_le b s w) (pkFold_le b ws _)
theorem pk_take {b : B5} {ws : List Int} {i : Nat} (h : i < ws.length) : pkAll b (ws.take (i + 1)) = pkStep b (pkAll b (ws.take i)) ws[i] := by
  unfold pkAll
  rw [List.take_succ_eq_append_getElem h, List.foldl_append]
  rfl
theorem pk_le {b : B5} {ws : List Int} (i : Nat) : (pkAll b (ws.take i)).1 ≤ pkM ws b := by
  unfold pkM pkAll
  conv => rhs; rw [← List.take_append_drop i ws, List.foldl_append]
  exact pkFold_le b _ _
theorem pk_start {b : B5} {ws : List Int} : b.start ≤ pkM ws b := pk_le (i := 0)
theorem pk_lies {many : Int} {rows : List B5} : ∀ {ws : List Int} {hs hs' : List Int}, hs.length = rows.length → goR many rows hs ws = .ok hs' → ∀ (k : Nat) (hk : k < rows.length) (a : Int), hs'.getD k 0 = (ws.foldl (pkStep rows[k]) (a, hs.getD k 0)).2
  | [], hs, hs', h, e, k, hk, a => by
    have : hs = hs' := by simpa [goR] using e
    rw [this]; rfl
  | w :: ws, hs, hs', h, e, k, hk, a => by
    have e' : (match turnR many rows hs w with | .ok hs' => goR many rows hs' ws | .error e => .error e) = .ok hs' := e
    cases q : turnR many rows hs w with
    | ok h1 =>
      rw [q] at e'
      have hl1 := turnR_len h q
      have e1 : h1 = shiftL rows hs w := by
        unfold turnR at q
        split at q
        · split at q
          · cases q; rfl
          · cases q
        · cases q
      have e2 : h1.getD k 0 = hs.getD k 0 + (if w = rows[k].giver then rows[k].give else 0) - (if w = rows[k].taker then rows[k].take else 0) := by
        rw [getD_of (show k < h1.length by omega), getD_of (show k < hs.length by omega)]
        subst e1
        rw [shiftL_at hk (by omega) (by omega)]
        have s1 : (rows[k].taker = w) ↔ (w = rows[k].taker) := ⟨Eq.symm, Eq.symm⟩
        have s2 : (rows[k].giver = w) ↔ (w = rows[k].giver) := ⟨Eq.symm, Eq.symm⟩
        simp only [s1, s2]
        omega
      rw [pk_lies hl1 e' k hk (pkStep rows[k] (a, hs.getD k 0) w).1, e2]
      rfl
    | error b => rw [q] at e'; cases e'
theorem pk_at {many : Int} {rows : List B5} {ws hs : List Int} {i k : Nat} (h : goR many rows (rows.map B5.start) (ws.take i) = .ok hs) (hk : k < rows.length) : hs.getD k 0 = (pkAll rows[k] (ws.take i)).2 := by
  have := pk_lies (by simp) h k hk rows[k].start
  rw [this]
  unfold pkAll
  have e : (rows.map B5.start).getD k 0 = rows[k].start := by simp [List.getD, hk]
  rw [e]
theorem pk_room {many : Int} {rows : List B5} {ws hs : List Int} {i k : Nat} (h : goR many rows (rows.map B5.start) (ws.take i) = .ok hs) (hi : i < ws.length) (hk : k < rows.length) (hg : rows[k].giver = ws[i]) : hs.getD k 0 + rows[k].give ≤ pkM ws rows[k] := by
  have h1 := pk_at h hk
  have h2 := pk_le (b := rows[k]) (ws := ws) (i + 1)
  rw [pk_take hi] at h2
  unfold pkStep at h2
  dsimp only at h2
  rw [if_pos hg.symm, ← h1] at h2
  split at h2 <;> omega
theorem pk_next {many : Int} {rows : List B5} {ws hs : List Int} {i k : Nat} (h : goR many rows (rows.map B5.start) (ws.take i) = .ok hs) (hi : i < ws.length) (hk : k < rows.length) (he : (pkAll rows[k] (ws.take (i + 1))).1 = pkM ws rows[k]) :
    (pkAll rows[k] (ws.take i)).1 = pkM ws rows[k] ∨ (rows[k].giver = ws[i] ∧ hs.getD k 0 + rows[k].give = pkM ws rows[k]) := by
  have h1 := pk_at h hk
  rw [pk_take hi] at he
  unfold pkStep at he
  dsimp only at he
  rw [← h1] at he
  split at he
  · rename_i c
    split at he
    · exact .inr ⟨c.symm, he⟩
    · exact .inl he
  · exact .inl he
def nm17 (i : Nat) : Str := (⟨#[97 + 7 * i % 26]⟩ ++ ⟨#[97 + 11 * i % 26]⟩) ++ Txt.mul "x" ((i : Int) / 26)
theorem nm17_ok : ∀ i < 30, isName (nm17 i) = true := by decide +kernel
theorem nm17_new : ∀ i < 30, nm17 i ∉ (List.range i).map nm17 := by decide +kernel
theorem abc_at : ∀ i < 26, ("abcdefghijklmnopqrstuvwxyz" : Str).cps.toList[i]? = some (97 + i) := by decide +kernel
theorem abc_len : ("abcdefghijklmnopqrstuvwxyz" : Str).length ≤ sizeLine := by decide +kernel
theorem mulx {n : Int} (h : n = 0 ∨ n = 1) : MulOk "x" n ∧ (Txt.mul "x" n).length ≤ 1 := by
  rcases h with rfl | rfl
  · exact ⟨⟨by decide, fun h => absurd (by decide) h, fun h => absurd (by decide) h⟩, by decide +kernel⟩
  · exact ⟨⟨by decide, fun _ h => absurd h (by decide), fun _ h => absurd h (by decide)⟩, by decide +kernel⟩
local macro_rules | `(tactic| walk_at "rd") => `(tactic| first | with_reducible refine Nm.Hall_meth (by with_reducible assumption) (by k_dflt (decide +kernel)) (by k_dflt (decide +kernel)) ?_ | with_reducible refine Nm.Floor_meth (by with_reducible assumption) (by k_dflt (decide +kernel)) (by k_dflt (decide +kernel)) (by k_dflt (decide +kernel)) ?_ | with_reducible refine L2.Rd.isER (by with_reducible assumption) (by with_reducible assumption) (by with_reducible assumption) ?_ | with_reducible refine L2.Rd.isET (by with_reducible assumption) (by with_reducible assumption) (by with_reducible assumption) ?_ | fail "none here")
def sp_l_mix {K : PySem.W.Frag} {mg : Str → Option Value} (T : Tp K mg) : Sp := fun vs H Q _ => ∃ c w : Int, vs = [.int c, .int w] ∧ 0 ≤ w ∧ w ≤ 1000 ∧ ∀ r : Int, 0 ≤ r → r < 1000003 → Q (.int r) H
theorem rd_l_mix {K : PySem.W.Frag} {mg : Str → Option Value} {T : Tp K mg} {H : Hp} {Q : VK} {E : XK} {c w : Int} (h0 : 0 ≤ w) (h1 : w ≤ 1000) (q : ∀ r : Int, 0 ≤ r → r < 1000003 → Q (.int r) H) : sp_l_mix T ([.int c, .int w] ++ []) H Q E := ⟨c, w, rfl, h0, h1, q⟩
local macro_rules | `(tactic| walk_at "rd") => `(tactic| first | with_reducible refine Nm.rd_l_mix (by walk_at "side") (by walk_at "side") (fun _ _ _ => ?_) | fail "none here")
section
variable {P : Program} {w : World} {K : PySem.W.Frag} {mg : Str → Option Value} {base : Heap}
theorem ok_l_mix (T : Tp K mg) : FnOk P w K mg base (CXX P w) 1 T.f_l_mix T.d_l_mix ["_law_cell_here", "_law_way"] (sp_l_mix T) := by
  refine T.F_l_mix.okX sc_l_mix (fun vs H Q E h => ?_) (fun cdv A outer s H vs Q E hr h => ?_)
  · obtain ⟨c, w, rfl, _⟩ := h
    rfl
  · have hu := hr.units
    obtain ⟨c, w, rfl, w0, w1, q⟩ := h
    refine ⟨_, (pss_cons (ps_set (i := 2) sc_l_mix.nd rfl (Or.inl rfl) (pe_op op_mod (pe_op (op_addK (K := K) rfl) (pe_op op_mulU (pv 0) pe_int) (pe_op op_mulU (pv 1) pe_int)) pe_int))
          (pss_one (ps_ret (pe_op op_mod (pe_op op_mulU (pv 2) (pe_op (op_addK (K := K) rfl) pe_int (pe_op op_mulU pe_int (pv 1)))) pe_int)))), ?_⟩
    try dsimp only [L2.cxX, L2.cxOf, L2.cxComp]
    walk_at "rds"
    exact q _ (Int.emod_nonneg _ (by decide)) (Int.emod_lt_of_pos _ (by decide))
end
def sp_l_cell {K : PySem.W.Frag} {mg : Str → Option Value} (T : Tp K mg) : Sp := fun vs H Q _ => ∃ (p : Addr) (ns : List Int) (k : Int), vs = [.ref p, .int k] ∧ SqL K H p (ns.map V.int) ∧ 0 ≤ k ∧ ∀ c : Int, Q (.int c) H
theorem rd_l_cell {K : PySem.W.Frag} {mg : Str → Option Value} {T : Tp K mg} {H : Hp} {Q : VK} {E : XK} {p : Addr} {ns : List Int} {k : Int} (hS : SqL K H p (ns.map V.int)) (hk : 0 ≤ k) (q : ∀ c : Int, Q (.int c) H) : sp_l_cell T ([.ref p, .int k] ++ []) H Q E := ⟨p, ns, k, rfl, hS, hk, q⟩
local macro_rules | `(tactic| walk_at "rd") => `(tactic| first | with_reducible refine Nm.rd_l_cell (by walk_at "hp") (by walk_at "side") (fun _ => ?_) | fail "none here")
section
variable {P : Program} {w : World} {K : PySem.W.Frag} {mg : Str → Option Value} {base : Heap}
theorem ok_l_cell (T : Tp K mg) : FnOk P w K mg base (CXX P w) 1 T.f_l_cell T.d_l_cell ["_law_script", "_law_k"] (sp_l_cell T) := by
  refine T.F_l_cell.okX sc_l_cell (fun vs H Q E h => ?_) (fun cdv A outer s H vs Q E hr h => ?_)
  · obtain ⟨p, ns, k, rfl, _⟩ := h
    rfl
  · have hu := hr.units
    obtain ⟨p, ns, k, rfl, hS, hk, q⟩ := h
    refine ⟨_, (pss_cons (ps_if (pt_cmpR op_lt (pv 1) (pe_callB (len_K (K := K) rfl) (by rfl) T.n_len PySem.boot_len (pa_cons (pv 0) pa_nil)) (nomark _)) (pss_one (ps_ret (pe_ix (ix_K (K := K) rfl) (pv 0) (pv 1) (fun _ _ => rfl)))) pss_nil)
          (pss_one (ps_ret pe_int))), ?_⟩
    try dsimp only [L2.cxX, L2.cxOf, L2.cxComp]
    walk_at "rds"
    refine Rd.ifD (fun c => ?_) (fun c => ?_)
    · have c' : k < ns.length := by simpa using c
      have ha := at_ints hk c'
      walk_at "rds"
      exact q _
    · walk_at "rds"
      exact q _
end
def sp_l_lines {K : PySem.W.Frag} {mg : Str → Option Value} (T : Tp K mg) : Sp := fun vs H Q _ => ∃ (p : Addr) (m : Int) (ns : List Int), vs = [.ref p, .int m] ∧ SqL K H p (ns.map V.int) ∧ 1 ≤ m ∧
  ∀ (q : Addr) (H' : Hp) (bs : List V) (ls : List B5), H q = none → Same H H' → H' q = some (.lst bs) → Tups H' bs ls → ls.length ≤ 60 → (∀ l ∈ ls, Drawn17 m l) → Q (.ref q) H'
section
variable {P : Program} {w : World} {K : PySem.W.Frag} {mg : Str → Option Value} {base : Heap}
theorem ok_l_lines (T : Tp K mg) : FnOk P w K mg base (CXX P w) 2 T.f_l_lines T.d_l_lines ["_law_script", "_law_many"] (sp_l_lines T) := by
  have G_l_mix : FnOk P w K mg base (CXX P w) 1 T.f_l_mix T.d_l_mix ["_law_cell_here", "_law_way"] (sp_l_mix T) := (ok_l_mix T).mono (by decide)
  have G_l_cell : FnOk P w K mg base (CXX P w) 1 T.f_l_cell T.d_l_cell ["_law_script", "_law_k"] (sp_l_cell T) := (ok_l_cell T).mono (by decide)
  refine T.F_l_lines.okX sc_l_lines (fun vs H Q E h => ?_) (fun cdv A outer s H vs Q E hr h => ?_)
  · obtain ⟨p, m, ns, rfl, _⟩ := h
    rfl
  · have hu := hr.units
    obtain ⟨p, m, ns, rfl, hS, m1, k⟩ := h
    have e20 : (10 : Int) ^ Int.toNat 20 = 10 ^ 20 := rfl
    refine ⟨_, (pss_cons (ps_set (i := 2) sc_l_lines.nd rfl (Or.inl rfl) pe_int)
          (pss_cons (ps_cut (ps_if (pt_cmpR (op_eqK (K := K) rfl hu) (pe_op op_mod (pe_call G_l_cell hr rfl T.m_l_cell T.F_l_cell.kp T.b_l_cell .nil pass_on (pa_cons (pv 0) (pa_cons pe_int pa_nil))) pe_int) pe_int (nomark _)) (pss_one (ps_set (i := 2) sc_l_lines.nd rfl (Or.inl rfl) (pe_op (op_addK (K := K) rfl) pe_int (pe_op op_mod (pe_call G_l_cell hr rfl T.m_l_cell T.F_l_cell.kp T.b_l_cell .nil pass_on (pa_cons (pv 0) (pa_cons pe_int pa_nil))) (pe_op op_pow pe_int pe_int))))) pss_nil))
          (pss_cons (ps_set (i := 3) sc_l_lines.nd rfl (Or.inl rfl) (pe_lst pa_nil))
          (pss_cons (ps_set (i := 4) sc_l_lines.nd rfl (Or.inl rfl) (pe_op op_mod (pe_call G_l_mix hr rfl T.m_l_mix T.F_l_mix.kp T.b_l_mix .nil pass_on (pa_cons (pe_call G_l_cell hr rfl T.m_l_cell T.F_l_cell.kp T.b_l_cell .nil pass_on (pa_cons (pv 0) (pa_cons pe_int pa_nil))) (pa_cons pe_int pa_nil))) pe_int))
          (pss_cons (ps_cut (ps_if (pt_cmpR (op_eqK (K := K) rfl hu) (pe_op op_mod (pe_op op_fdivG (pe_call G_l_mix hr rfl T.m_l_mix T.F_l_mix.kp T.b_l_mix .nil pass_on (pa_cons (pe_call G_l_cell hr rfl T.m_l_cell T.F_l_cell.kp T.b_l_cell .nil pass_on (pa_cons (pv 0) (pa_cons pe_int pa_nil))) (pa_cons pe_int pa_nil))) pe_int) pe_int) pe_int (nomark _)) (pss_one (ps_set (i := 4) sc_l_lines.nd rfl (Or.inl rfl) (pe_op (op_addK (K := K) rfl) pe_int (pe_op op_mod (pe_op op_fdivG (pe_call G_l_mix hr rfl T.m_l_mix T.F_l_mix.kp T.b_l_mix .nil pass_on (pa_cons (pe_call G_l_cell hr rfl T.m_l_cell T.F_l_cell.kp T.b_l_cell .nil pass_on (pa_cons (pv 0) (pa_cons pe_int pa_nil))) (pa_cons pe_int pa_nil))) pe_int) pe_int)))) pss_nil))
          (pss_cons (ps_for PassesOwn.leaving rfl (pi_range1 rfl T.n_range (pa_cons (pv 4) pa_nil)) (pg_name (i := 5) sc_l_lines.nd rfl (Or.inl rfl)) (pss_cons (ps_set (i := 6) sc_l_lines.nd rfl (Or.inl rfl) (pe_call G_l_mix hr rfl T.m_l_mix T.F_l_mix.kp T.b_l_mix .nil pass_on (pa_cons (pe_call G_l_cell hr rfl T.m_l_cell T.F_l_cell.kp T.b_l_cell .nil pass_on (pa_cons (pv 0) (pa_cons (pe_op (op_addK (K := K) rfl) pe_int (pv 5)) pa_nil))) (pa_cons (pv 5) pa_nil))))
          (pss_cons (ps_set (i := 7) sc_l_lines.nd rfl (Or.inl rfl) (pe_op op_mulU (pe_op (op_addK (K := K) rfl) pe_int (pe_op op_mod (pe_op op_fdivG (pv 6) pe_int) pe_int)) (pv 2)))
          (pss_cons (ps_set (i := 8) sc_l_lines.nd rfl (Or.inl rfl) (pe_op op_mulU (pe_op (op_addK (K := K) rfl) pe_int (pe_op op_mod (pe_op op_fdivG (pv 6) pe_int) pe_int)) (pv 2)))
          (pss_one (ps_expr (pe_bmK (K := K) rfl PySem.F.plainAttrs_list PySem.F.slot_list_append PySem.F.type_list_append mt_append (pv 3) (pa_cons (pe_tup (pa_cons (pe_op op_mod (pv 6) (pv 1)) (pa_cons (pe_op op_mod (pe_op op_fdivG (pv 6) pe_int) (pv 1)) (pa_cons (pv 7) (pa_cons (pv 8) (pa_cons (pe_op op_mulU (pe_op op_mod (pe_op op_fdivG (pv 6) pe_int) pe_int) (pv 2)) pa_nil)))))) pa_nil))))))))
          (pss_one (ps_ret (pv 3))))))))), ?_⟩
    try dsimp only [L2.cxX, L2.cxOf, L2.cxComp]
    walk_at "rds"
    refine Rd.cut (fun σ' H' => H' = H ∧ ∃ sc : Int, σ' = [some (.ref p), some (.int m), some (.int sc), none, none, none, none, none, none] ∧ 1 ≤ sc ∧ sc ≤ 10 ^ 20) ?k1 ?i1
    case i1 =>
      walk_at "rds"
      refine Rd.ifD (fun c => ?_) (fun c => ?_)
      · walk_at "rds"
        rw [e20]
        exact ⟨rfl, _, rfl, by omega, by omega⟩
      · walk_at "rds"
        exact ⟨rfl, _, rfl, by omega, by omega⟩
    case k1 =>
      rintro σ' H' ⟨rfl, sc, rfl, sc1, sc2⟩
      walk_at "rds"
      refine ⟨Nat.zero_le _, fun q hq => ?_⟩
      have s0 : Same H' (upd H' q (.lst [])) := same_new hq
      have hS1 := s0.seq hS
      have hq1 : (upd H' q (.lst [])) q = some (.lst []) := upd_same
      generalize upd H' q (.lst []) = H1 at *
      walk_at "rds"
      refine Rd.cut (fun σ' H2 => H2 = H1 ∧ ∃ z : Int, σ' = [some (.ref p), some (.int m), some (.int sc), some (.ref q), some (.int z), none, none, none, none] ∧ 0 ≤ z ∧ z ≤ 60) ?k2 ?i2
      case i2 =>
        walk_at "rds"
        refine Rd.ifD (fun c => ?_) (fun c => ?_)
        · walk_at "rds"
          exact ⟨rfl, _, rfl, by omega, by omega⟩
        · walk_at "rds"
          exact ⟨rfl, _, rfl, by omega, by omega⟩
      case k2 =>
        rintro σ' H2 ⟨rfl, z, rfl, z0, z1⟩
        walk_at "rds"
        refine for_range (n := z.toNat) (fun i σ H3 => ∃ (bs : List V) (ls : List B5) (a1 a2 a3 a4 : Option V), σ = [some (.ref p), some (.int m), some (.int sc), some (.ref q), some (.int z), a1, a2, a3, a4] ∧
          H3 q = some (.lst bs) ∧ Tups H3 bs ls ∧ ls.length = i ∧ (∀ l ∈ ls, Drawn17 m l) ∧ Same H' H3) ⟨[], [], _, _, _, _, rfl, hq1, .nil, rfl, by simp, s0⟩ ?_ ?_
        · rintro i σ H3 hi ⟨bs, ls, a1, a2, a3, a4, rfl, hq2, hT2, hl2, hd2, s2⟩
          have hS2 := s2.seq hS
          have hbl := hT2.length
          have hbz : bs.length < sizeLine := small1000 (by omega)
          have m0' : 0 < m := by omega
          have mu : ∀ y : Int, 0 ≤ y → y ≤ 100 → IntMulOk y sc := fun y y0 y1 => mul30 ⟨y0, by omega⟩ ⟨by omega, by omega⟩
          walk_at "rds"
          rename_i c0 dr dr0 dr1
          have r1 := Int.emod_nonneg dr (show m ≠ 0 by omega)
          have r2 := Int.emod_lt_of_pos dr m0'
          have r3 := Int.emod_nonneg (dr / 5) (show m ≠ 0 by omega)
          have r4 := Int.emod_lt_of_pos (dr / 5) m0'
          have gv : 1 ≤ (1 + dr / 25 % 7) * sc := by have := Int.mul_pos (show 0 < 1 + dr / 25 % 7 by omega) (show 0 < sc by omega); omega
          have tk : 1 ≤ (1 + dr / 175 % 7) * sc := by have := Int.mul_pos (show 0 < 1 + dr / 175 % 7 by omega) (show 0 < sc by omega); omega
          have st : 0 ≤ dr / 1225 % 31 * sc := Int.mul_nonneg (by omega) (by omega)
          generalize (1 + dr / 25 % 7) * sc = gvv at *
          generalize (1 + dr / 175 % 7) * sc = tkv at *
          generalize dr / 1225 % 31 * sc = sr at *
          generalize dr % m = g at *
          generalize dr / 5 % m = t at *
          walk_at "rds"
          refine ⟨by show 5 ≤ sizeLine; decide, fun u hu' => ?_⟩
          have su : Same H3 (upd H3 u (.tup [.int g, .int t, .int gvv, .int tkv, .int sr])) := same_new hu'
          have hu3 : (upd H3 u (.tup [.int g, .int t, .int gvv, .int tkv, .int sr])) u = some (.tup (B5.mk g t gvv tkv sr).v) := upd_same
          have hq3 := su _ _ hq2
          generalize upd H3 u (.tup [.int g, .int t, .int gvv, .int tkv, .int sr]) = H4 at *
          walk_at "rds"
          have fr4 : Frame [q] H4 (upd H4 q (.lst (bs ++ [.ref u]))) := frame_upd (by simp) hq3 (by intro _ z; cases z)
          refine ⟨bs ++ [.ref u], ls ++ [⟨g, t, gvv, tkv, sr⟩], _, _, _, _, rfl, upd_same, ((hT2.keep fun b xs e => su _ _ e).keep fr4.tups).snoc (fr4.tups _ _ hu3), by simp [hl2], fun l hl => ?_, (s2.trans su).new hq⟩
          rcases List.mem_append.mp hl with z | z
          · exact hd2 l z
          · rw [List.mem_singleton.mp z]
            exact ⟨⟨r1, r2, r3, r4⟩, ⟨gv, tk⟩, st⟩
        · rintro σ H3 ⟨bs, ls, a1, a2, a3, a4, rfl, hq2, hT2, hl2, hd2, s2⟩
          walk_at "rds"
          exact k q H3 bs ls hq s2 hq2 hT2 (by omega) hd2
end
def sp_is_name {K : PySem.W.Frag} {mg : Str → Option Value} (T : Tp K mg) : Sp := fun vs H Q _ => ∃ x : Str, vs = [.str x] ∧ x.length ≤ sizeLine ∧ ∀ H', Same H H' → Q (.bl (isName x)) H'
def letter (c : Nat) : Bool := decide (97 ≤ c) && decide (c ≤ 122)
theorem letter_lt (c d : Nat) : decide ((⟨#[c]⟩ : Str).cps.toList < (⟨#[d]⟩ : Str).cps.toList) = decide (c < d) := by
  show decide ([c] < [d]) = decide (c < d)
  have e : ([c] < [d]) ↔ c < d := by
    constructor
    · intro h
      cases h with
      | rel h => exact h
      | cons h => cases h
    · exact fun h => .rel h
  by_cases h : c < d
  · rw [decide_eq_true h, decide_eq_true (e.mpr h)]
  · rw [decide_eq_false h, decide_eq_false (fun z => h (e.mp z))]
theorem str_a : ("a" : Str) = ⟨#[97]⟩ := by decide +kernel
theorem str_z : ("z" : Str) = ⟨#[122]⟩ := by decide +kernel
theorem letters_eq (x : Str) : (((List.range x.cps.size).map fun i => letter (x.cps.getD i 0)).all id) = x.cps.toList.all letter := by
  rw [List.all_map, Bool.eq_iff_iff, List.all_eq_true, List.all_eq_true]
  constructor
  · intro h c hc
    obtain ⟨i, hi, rfl⟩ := List.getElem_of_mem hc
    have hi' : i < x.cps.size := by simpa using hi
    have := h i (List.mem_range.mpr hi')
    simpa [Array.getD, hi'] using this
  · intro h i hi
    have hi' := List.mem_range.mp hi
    have := h x.cps[i] (by simp)
    simpa [Array.getD, hi'] using this
theorem isName_eq (x : Str) : isName x = (decide (1 ≤ x.length) && decide (x.length ≤ 8) && x.cps.toList.all letter) := rfl
section
variable {P : Program} {w : World} {K : PySem.W.Frag} {mg : Str → Option Value} {base : Heap}
theorem ok_is_name (T : Tp K mg) : FnOk P w K mg base (CXX P w) 1 T.f_is_name T.d_is_name ["thing"] (sp_is_name T) := by
  refine T.F_is_name.okX sc_is_name (fun vs H Q E h => ?_) (fun cdv A outer s H vs Q E hr h => ?_)
  · obtain ⟨x, rfl, _⟩ := h
    rfl
  · have hu := hr.units
    obtain ⟨x, rfl, hx, q⟩ := h
    refine ⟨_, (pss_cons (ps_if (pt_not (pt_truK (K := K) rfl (pe_callB (isi_K (K := K) rfl) (by rfl) T.n_isinstance PyProof.Rows.boot_isinstance (pa_cons (pv 0) (pa_cons (pe_bltn (v := .ty "str") (by rfl) T.n_str PyProof.Rows.boot_str rfl) pa_nil))) (fun _ => rfl))) (pss_one (ps_ret pe_bl)) pss_nil)
          (pss_cons (ps_if (PW.pt (pw_or (pt_cmpR op_lt (pe_callB (len_K (K := K) rfl) (by rfl) T.n_len PySem.boot_len (pa_cons (pv 0) pa_nil)) pe_int (nomark _)) (pw_or1 (pt_cmpR op_gt (pe_callB (len_K (K := K) rfl) (by rfl) T.n_len PySem.boot_len (pa_cons (pv 0) pa_nil)) (pe_glob (v := .int 8) rfl T.c_MOST_LETTERS ⟨_, rfl⟩) (nomark _))))) (pss_one (ps_ret pe_bl)) pss_nil)
          (pss_one (ps_ret (pe_callB (all_K (K := K) rfl rfl) (by rfl) T.n_all PyProof.Rows.boot_all (pa_cons (pe_comp rfl (cscope (x := "sign") (zs := []) (ix := []) (defScope s_is_name) ["thing"] rfl rfl (by decide +kernel)) (pi_str (pv 0)) (fun cl C s H fp => ⟨(pg_name (i := 0) (show (["sign"] : List Str).Nodup by decide +kernel) rfl (Or.inl rfl)), pif_nil, (pe_chain op_le_str op_le_str pe_str (pv 0) pe_str)⟩)) pa_nil)))))), ?_⟩
    try dsimp only [L2.cxX, L2.cxOf, L2.cxComp]
    walk_at "rds"
    refine ite2 (fun c => ?_) (fun c => ?_)
    · have c' : ¬ 1 ≤ x.length := by simp at c; omega
      walk_at "rds"
      have e : isName x = false := by rw [isName_eq, decide_eq_false c']; rfl
      rw [← e]
      exact q H (Same.refl H)
    · have c' : 1 ≤ x.length := by simp at c; omega
      walk_at "rds"
      refine ite2 (fun d => ?_) (fun d => ?_)
      · have d' : ¬ x.length ≤ 8 := by simp at d; omega
        walk_at "rds"
        have e : isName x = false := by rw [isName_eq, decide_eq_false d', Bool.and_false]; rfl
        rw [← e]
        exact q H (Same.refl H)
      · have d' : x.length ≤ 8 := by simp at d; omega
        have hn : x.cps.size < sizeLine := small1000 (by have : x.cps.size = x.length := rfl; omega)
        walk_at "rds"
        refine comp_walk walks_str hn (fun _ => true) (fun i => .bl (letter (x.cps.getD i 0))) (fun i H' Kc hi sm k => ?_) (fun i H' Kc hi _ sm k => ?_) (fun p H' hp sm hl => ?_)
        · walk_at "rds"
          exact k H' (Same.refl H')
        · walk_at "rds"
          rw [str_a, str_z, letter_lt]
          generalize x.cps.getD i 0 = cc at k ⊢
          refine ite2 (fun z => ?_) (fun z => ?_)
          · walk_at "rds"
            have e : (!decide (122 < cc)) = letter cc := by
              have z' : 97 ≤ cc := by simpa using z
              unfold letter
              rw [decide_eq_true z', Bool.true_and]
              by_cases y : cc ≤ 122
              · rw [decide_eq_true y, decide_eq_false (by omega)]; rfl
              · rw [decide_eq_false y, decide_eq_true (by omega)]; rfl
            rw [letter_lt, e]
            exact k H' (Same.refl H')
          · have e : false = letter cc := by
              have z' : ¬ 97 ≤ cc := by simpa using z
              unfold letter
              rw [decide_eq_false z']; rfl
            rw [e]
            exact k H' (Same.refl H')
        · have hl' : H' p = some (.lst (((List.range x.cps.size).map fun i => letter (x.cps.getD i 0)).map V.bl)) := by
            rw [hl, List.filter_eq_self.mpr (by simp), List.map_map]; rfl
          walk_at "rds"
          rw [letters_eq]
          have e : x.cps.toList.all letter = isName x := by rw [isName_eq, decide_eq_true c', decide_eq_true d']; rfl
          rw [e]
          exact q H' sm
end
def sp_Hall_work {K : PySem.W.Frag} {mg : Str → Option Value} (T : Tp K mg) : Sp := fun vs H Q E => ∃ (p : Addr) (x : Str) (hl : HM) (fp : List Addr), vs = [.ref p, .str x] ∧ HallAt T H p hl fp ∧ x.length ≤ sizeLine ∧ hl.names.length ≤ 1000 ∧
  (isName x = false → ∀ H', Same H H' → E (.ref T.X_NoName) none H') ∧ (isName x = true → x ∈ hl.names → ∀ H', Same H H' → E (.ref T.X_Twice) none H') ∧
  (isName x = true → x ∉ hl.names → 30 ≤ hl.names.length → ∀ H', Same H H' → E (.ref T.X_TooMuch) none H') ∧
  (isName x = true → x ∉ hl.names → hl.names.length < 30 → ∀ (H' : Hp) (fp' : List Addr), HallAt T H' p ⟨hl.names ++ [x], hl.belts⟩ fp' → Frame fp H H' → Grows fp fp' H → Q (.int hl.names.length) H')
theorem rd_Hall_work {K : PySem.W.Frag} {mg : Str → Option Value} {T : Tp K mg} {H : Hp} {Q : VK} {E : XK} {p : Addr} {x : Str} {hl : HM} {fp : List Addr} (h : HallAt T H p hl fp) (hn : isName x = true) (hx : x ∉ hl.names) (hlen : hl.names.length < 30)
    (q : ∀ (H' : Hp) (fp' : List Addr), HallAt T H' p ⟨hl.names ++ [x], hl.belts⟩ fp' → Frame fp H H' → Grows fp fp' H → Q (.int hl.names.length) H') : sp_Hall_work T (.ref p :: ([.str x] ++ [])) H Q E := by
  have l8 : x.length ≤ sizeLine := by
    have : x.length ≤ 8 := by
      have e := hn
      unfold isName at e
      simp only [Bool.and_eq_true, decide_eq_true_eq] at e
      exact e.1.2
    exact Nat.le_of_lt (small1000 (by omega))
  exact ⟨p, x, hl, fp, rfl, h, l8, by omega, fun z => (by rw [hn] at z; cases z), fun _ z => absurd z hx, fun _ _ z => absurd z (by omega), fun _ _ _ => q⟩
section
variable {P : Program} {w : World} {K : PySem.W.Frag} {mg : Str → Option Value} {base : Heap}
theorem ok_Hall_work (T : Tp K mg) : FnOk P w K mg base (CXX P w) 2 T.f_Hall_work T.d_Hall_work ["self", "name"] (sp_Hall_work T) := by
  have G_is_name : FnOk P w K mg base (CXX P w) 1 T.f_is_name T.d_is_name ["thing"] (sp_is_name T) := (ok_is_name T).mono (by decide)
  have cl_Hall := T.cl_Hall
  have na_Hall := T.na_Hall
  refine T.F_Hall_work.okX sc_Hall_work (fun vs H Q E h => ?_) (fun cdv A outer s H vs Q E hr h => ?_)
  · obtain ⟨p, x, hl, fp, rfl, _⟩ := h
    rfl
  · have hu := hr.units
    obtain ⟨p, x, hl, fp, rfl, hh, hx, hz, e1, e2, e3, q⟩ := h
    obtain ⟨dx, a, b, bs, rfl, h1, h2, h3, h4, nab, h6⟩ := id hh
    have npa : p ≠ a := ne_of h1 h3 (by intro z; cases z)
    have nda : dx ≠ a := ne_of h2 h3 (by intro z; cases z)
    refine ⟨_, (pss_cons (ps_if (pt_not (pt_truK (K := K) rfl (pe_call G_is_name hr rfl T.m_is_name T.F_is_name.kp T.b_is_name .nil pass_on (pa_cons (pv 1) pa_nil)) (fun _ => rfl))) (pss_one (ps_raiseK T.gx_NoName T.ex_NoName PySem.F.excBase_ValueError rfl (pa_cons pe_str pa_nil))) pss_nil)
          (pss_cons (ps_if (pt_cmpR (op_dIn hu) (pv 1) (pe_fldK (K := K) rfl (pv 0) rfl) (by with_unfolding_all rfl)) (pss_one (ps_raiseK T.gx_Twice T.ex_Twice PySem.F.excBase_ValueError rfl (pa_cons pe_str pa_nil))) pss_nil)
          (pss_cons (ps_if (pt_cmpR op_ge (pe_callB len_D (by rfl) T.n_len PySem.boot_len (pa_cons (pe_fldK (K := K) rfl (pv 0) rfl) pa_nil)) (pe_glob (v := .int 30) rfl T.c_MOST_WORKS ⟨_, rfl⟩) (nomark _)) (pss_one (ps_raiseK T.gx_TooMuch T.ex_TooMuch PySem.F.excBase_ValueError rfl (pa_cons pe_str pa_nil))) pss_nil)
          (pss_cons (ps_set (i := 2) sc_Hall_work.nd rfl (Or.inl rfl) (pe_callB len_D (by rfl) T.n_len PySem.boot_len (pa_cons (pe_fldK (K := K) rfl (pv 0) rfl) pa_nil)))
          (pss_cons (ps_asg (pv 2) (pg_sub (pe_fldK (K := K) rfl (pv 0) rfl) (pv 1) (set_dict hu)))
          (pss_one (ps_ret (pv 2)))))))), ?_⟩
    try dsimp only [L2.cxX, L2.cxOf, L2.cxComp]
    walk_at "rds"
    refine ⟨x, rfl, hx, fun H1 sm1 => ?_⟩
    have g1 := sm1 _ _ h1
    have g3 := sm1 _ _ h3
    have hz' : (numsOf hl.names).length < sizeLine := small1000 (by rw [numsOf_len]; exact hz)
    walk_at "rds"
    cases hn : isName x with
    | false =>
      walk_at "rds"
      exact e1 hn H1 sm1
    | true =>
      walk_at "rds"
      rw [numsOf_in]
      refine ite2 (fun c => ?_) (fun c => ?_)
      · walk_at "rds"
        exact e2 hn (of_decide_eq_true c) H1 sm1
      · have c' : x ∉ hl.names := fun z => c (decide_eq_true z)
        walk_at "rds"
        rw [numsOf_len]
        refine ite2 (fun d => ?_) (fun d => ?_)
        · have d' : 30 ≤ hl.names.length := by simp at d; omega
          walk_at "rds"
          exact e3 hn c' d' H1 sm1
        · have d' : hl.names.length < 30 := by simp at d; omega
          walk_at "rds"
          rw [numsOf_len, numsOf_put c']
          have fr : Frame [p, dx, a, b] H (upd H1 a (.dK (numsOf (hl.names ++ [x])))) := sm1.frame.trans (frame_upd (by simp) g3 (by intro _ z; cases z))
          refine q hn c' d' _ [p, dx, a, b] ⟨dx, a, b, bs, rfl, ?_, ?_, upd_same, ?_, nab, h6.keep fr.tups⟩ fr Grows.refl
          · rw [upd_ne npa]; exact g1
          · rw [upd_ne nda]; exact sm1 _ _ h2
          · rw [upd_ne nab.symm]; exact sm1 _ _ h4
end
def sp_is_whole {K : PySem.W.Frag} {mg : Str → Option Value} (T : Tp K mg) : Sp := fun vs H Q _ => ∃ i : Int, vs = [.int i] ∧ Q (.bl true) H
theorem rd_is_whole {K : PySem.W.Frag} {mg : Str → Option Value} {T : Tp K mg} {H : Hp} {Q : VK} {E : XK} {i : Int} (q : Q (.bl true) H) : sp_is_whole T ([.int i] ++ []) H Q E := ⟨i, rfl, q⟩
local macro_rules | `(tactic| walk_at "rd") => `(tactic| first | with_reducible refine Nm.rd_is_whole ?_ | fail "none here")
section
variable {P : Program} {w : World} {K : PySem.W.Frag} {mg : Str → Option Value} {base : Heap}
theorem ok_is_whole (T : Tp K mg) : FnOk P w K mg base (CXX P w) 1 T.f_is_whole T.d_is_whole ["thing"] (sp_is_whole T) := by
  refine T.F_is_whole.okX sc_is_whole (fun vs H Q E h => ?_) (fun cdv A outer s H vs Q E hr h => ?_)
  · obtain ⟨i, rfl, _⟩ := h
    rfl
  · have hu := hr.units
    obtain ⟨i, rfl, q⟩ := h
    refine ⟨_, (pss_one (ps_ret (pe_and (pe_callB (isi_K (K := K) rfl) (by rfl) T.n_isinstance PyProof.Rows.boot_isinstance (pa_cons (pv 0) (pa_cons (pe_bltn (v := .ty "int") (by rfl) T.n_int PyProof.Rows.boot_int rfl) pa_nil))) (pe_one (pe_not (pe_callB (isi_K (K := K) rfl) (by rfl) T.n_isinstance PyProof.Rows.boot_isinstance (pa_cons (pv 0) (pa_cons (pe_bltn (v := .ty "bool") (by rfl) T.n_bool PyProof.Rows.boot_bool rfl) pa_nil)))))))), ?_⟩
    try dsimp only [L2.cxX, L2.cxOf, L2.cxComp]
    walk_at "rds"
    exact q
end
def sp_is_from {K : PySem.W.Frag} {mg : Str → Option Value} (T : Tp K mg) : Sp := fun vs H Q _ => ∃ i l : Int, vs = [.int i, .int l] ∧ Q (.bl (decide (l ≤ i))) H
theorem rd_is_from {K : PySem.W.Frag} {mg : Str → Option Value} {T : Tp K mg} {H : Hp} {Q : VK} {E : XK} {i l : Int} (q : Q (.bl (decide (l ≤ i))) H) : sp_is_from T ([.int i, .int l] ++ []) H Q E := ⟨i, l, rfl, q⟩
local macro_rules | `(tactic| walk_at "rd") => `(tactic| first | with_reducible refine Nm.rd_is_from ?_ | fail "none here")
section
variable {P : Program} {w : World} {K : PySem.W.Frag} {mg : Str → Option Value} {base : Heap}
theorem ok_is_from (T : Tp K mg) : FnOk P w K mg base (CXX P w) 2 T.f_is_from T.d_is_from ["thing", "least"] (sp_is_from T) := by
  have G_is_whole : FnOk P w K mg base (CXX P w) 1 T.f_is_whole T.d_is_whole ["thing"] (sp_is_whole T) := (ok_is_whole T).mono (by decide)
  refine T.F_is_from.okX sc_is_from (fun vs H Q E h => ?_) (fun cdv A outer s H vs Q E hr h => ?_)
  · obtain ⟨i, l, rfl, _⟩ := h
    rfl
  · have hu := hr.units
    obtain ⟨i, l, rfl, q⟩ := h
    refine ⟨_, (pss_one (ps_ret (pe_and (pe_call G_is_whole hr rfl T.m_is_whole T.F_is_whole.kp T.b_is_whole .nil pass_on (pa_cons (pv 0) pa_nil)) (pe_one (pe_cmpR op_ge (pv 0) (pv 1) (nomark _)))))), ?_⟩
    try dsimp only [L2.cxX, L2.cxOf, L2.cxComp]
    walk_at "rds"
    exact q
end
def sp_need_start {K : PySem.W.Frag} {mg : Str → Option Value} (T : Tp K mg) : Sp := fun vs H Q E => ∃ i : Int, vs = [.int i] ∧ (¬ 0 ≤ i → E (.ref T.X_NoRate) none H) ∧ (0 ≤ i → Q .non H)
section
variable {P : Program} {w : World} {K : PySem.W.Frag} {mg : Str → Option Value} {base : Heap}
theorem ok_need_start (T : Tp K mg) : FnOk P w K mg base (CXX P w) 3 T.f_need_start T.d_need_start ["start"] (sp_need_start T) := by
  have G_is_from : FnOk P w K mg base (CXX P w) 2 T.f_is_from T.d_is_from ["thing", "least"] (sp_is_from T) := (ok_is_from T).mono (by decide)
  refine T.F_need_start.okX sc_need_start (fun vs H Q E h => ?_) (fun cdv A outer s H vs Q E hr h => ?_)
  · obtain ⟨i, rfl, _⟩ := h
    rfl
  · have hu := hr.units
    obtain ⟨i, rfl, e1, q⟩ := h
    refine ⟨_, (pss_one (ps_if (pt_not (pt_truK (K := K) rfl (pe_call G_is_from hr rfl T.m_is_from T.F_is_from.kp T.b_is_from .nil pass_on (pa_cons (pv 0) (pa_cons pe_int pa_nil))) (fun _ => rfl))) (pss_one (ps_raiseK T.gx_NoRate T.ex_NoRate PySem.F.excBase_ValueError rfl (pa_cons pe_str pa_nil))) pss_nil)), ?_⟩
    try dsimp only [L2.cxX, L2.cxOf, L2.cxComp]
    walk_at "rds"
    by_cases c : 0 ≤ i
    · rw [decide_eq_true c]
      walk_at "rds"
      exact q c
    · rw [decide_eq_false c]
      walk_at "rds"
      exact e1 c
end
def sp_is_number_below {K : PySem.W.Frag} {mg : Str → Option Value} (T : Tp K mg) : Sp := fun vs H Q _ => ∃ i b : Int, vs = [.int i, .int b] ∧ Q (.bl (decide (0 ≤ i ∧ i < b))) H
theorem rd_is_number_below {K : PySem.W.Frag} {mg : Str → Option Value} {T : Tp K mg} {H : Hp} {Q : VK} {E : XK} {i b : Int} (q : Q (.bl (decide (0 ≤ i ∧ i < b))) H) : sp_is_number_below T ([.int i, .int b] ++ []) H Q E := ⟨i, b, rfl, q⟩
local macro_rules | `(tactic| walk_at "rd") => `(tactic| first | with_reducible refine Nm.rd_is_number_below ?_ | fail "none here")
section
variable {P : Program} {w : World} {K : PySem.W.Frag} {mg : Str → Option Value} {base : Heap}
theorem ok_is_number_below (T : Tp K mg) : FnOk P w K mg base (CXX P w) 3 T.f_is_number_below T.d_is_number_below ["thing", "bound"] (sp_is_number_below T) := by
  have G_is_from : FnOk P w K mg base (CXX P w) 2 T.f_is_from T.d_is_from ["thing", "least"] (sp_is_from T) := (ok_is_from T).mono (by decide)
  refine T.F_is_number_below.okX sc_is_number_below (fun vs H Q E h => ?_) (fun cdv A outer s H vs Q E hr h => ?_)
  · obtain ⟨i, b, rfl, _⟩ := h
    rfl
  · have hu := hr.units
    obtain ⟨i, b, rfl, q⟩ := h
    refine ⟨_, (pss_one (ps_ret (pe_and (pe_call G_is_from hr rfl T.m_is_from T.F_is_from.kp T.b_is_from .nil pass_on (pa_cons (pv 0) (pa_cons pe_int pa_nil))) (pe_one (pe_cmpR op_lt (pv 0) (pv 1) (nomark _)))))), ?_⟩
    try dsimp only [L2.cxX, L2.cxOf, L2.cxComp]
    walk_at "rds"
    refine ite2 (fun c => ?_) (fun c => ?_)
    · have c' : 0 ≤ i := of_decide_eq_true c
      walk_at "rds"
      have e : decide (i < b) = decide (0 ≤ i ∧ i < b) := by rw [decide_eq_decide]; exact ⟨fun z => ⟨c', z⟩, fun z => z.2⟩
      rw [e]
      exact q
    · have c' : ¬ 0 ≤ i := fun z => c (decide_eq_true z)
      walk_at "rds"
      have e : false = decide (0 ≤ i ∧ i < b) := (decide_eq_false (fun z => c' z.1)).symm
      rw [e]
      exact q
end
def sp_Hall_need_work {K : PySem.W.Frag} {mg : Str → Option Value} (T : Tp K mg) : Sp := fun vs H Q E => ∃ (p : Addr) (i : Int) (hl : HM) (fp : List Addr), vs = [.ref p, .int i] ∧ HallAt T H p hl fp ∧
  (¬ (0 ≤ i ∧ i < hl.names.length) → E (.ref T.X_NoWork) none H) ∧ (0 ≤ i → i < hl.names.length → Q .non H)
section
variable {P : Program} {w : World} {K : PySem.W.Frag} {mg : Str → Option Value} {base : Heap}
theorem ok_Hall_need_work (T : Tp K mg) : FnOk P w K mg base (CXX P w) 4 T.f_Hall_need_work T.d_Hall_need_work ["self", "work"] (sp_Hall_need_work T) := by
  have G_is_number_below : FnOk P w K mg base (CXX P w) 3 T.f_is_number_below T.d_is_number_below ["thing", "bound"] (sp_is_number_below T) := (ok_is_number_below T).mono (by decide)
  have cl_Hall := T.cl_Hall
  have na_Hall := T.na_Hall
  refine T.F_Hall_need_work.okX sc_Hall_need_work (fun vs H Q E h => ?_) (fun cdv A outer s H vs Q E hr h => ?_)
  · obtain ⟨p, i, hl, fp, rfl, _⟩ := h
    rfl
  · have hu := hr.units
    obtain ⟨p, i, hl, fp, rfl, hh, e1, q⟩ := h
    obtain ⟨dx, a, b, bs, rfl, h1, h2, h3, h4, nab, h6⟩ := id hh
    refine ⟨_, (pss_one (ps_if (pt_not (pt_truK (K := K) rfl (pe_call G_is_number_below hr rfl T.m_is_number_below T.F_is_number_below.kp T.b_is_number_below .nil pass_on (pa_cons (pv 1) (pa_cons (pe_callB len_D (by rfl) T.n_len PySem.boot_len (pa_cons (pe_fldK (K := K) rfl (pv 0) rfl) pa_nil)) pa_nil))) (fun _ => rfl))) (pss_one (ps_raiseK T.gx_NoWork T.ex_NoWork PySem.F.excBase_ValueError rfl (pa_cons pe_str pa_nil))) pss_nil)), ?_⟩
    try dsimp only [L2.cxX, L2.cxOf, L2.cxComp]
    walk_at "rds"
    rw [numsOf_len]
    by_cases c : 0 ≤ i ∧ i < hl.names.length
    · rw [decide_eq_true c]
      walk_at "rds"
      exact q c.1 c.2
    · rw [decide_eq_false c]
      walk_at "rds"
      exact e1 c
end
def sp_Hall_lay {K : PySem.W.Frag} {mg : Str → Option Value} (T : Tp K mg) : Sp := fun vs H Q E => ∃ (p u : Addr) (b : B5) (hl : HM) (fp : List Addr), vs = [.ref p, .ref u] ∧ HallAt T H p hl fp ∧ H u = some (.tup b.v) ∧ hl.belts.length ≤ 1000 ∧
  ∀ (H' : Hp) (fp' : List Addr), HallAt T H' p ⟨hl.names, hl.belts ++ [b]⟩ fp' → Frame fp H H' → Grows fp fp' H → Q (.int hl.belts.length) H'
section
variable {P : Program} {w : World} {K : PySem.W.Frag} {mg : Str → Option Value} {base : Heap}
theorem ok_Hall_lay (T : Tp K mg) : FnOk P w K mg base (CXX P w) 1 T.f_Hall_lay T.d_Hall_lay ["self", "row"] (sp_Hall_lay T) := by
  have cl_Hall := T.cl_Hall
  have na_Hall := T.na_Hall
  refine T.F_Hall_lay.okX sc_Hall_lay (fun vs H Q E h => ?_) (fun cdv A outer s H vs Q E hr h => ?_)
  · obtain ⟨p, u, b, hl, fp, rfl, _⟩ := h
    rfl
  · have hu := hr.units
    obtain ⟨p, u, b, hl, fp, rfl, hh, hu', hz, q⟩ := h
    obtain ⟨dx, a, bb, bs, rfl, h1, h2, h3, h4, nab, h6⟩ := id hh
    have npb : p ≠ bb := ne_of h1 h4 (by intro z; cases z)
    have ndb : dx ≠ bb := ne_of h2 h4 (by intro z; cases z)
    have nub : u ≠ bb := ne_of hu' h4 (by intro z; cases z)
    have hz' : bs.length < sizeLine := small1000 (by rw [h6.length]; exact hz)
    have hlb := h6.length
    refine ⟨_, (pss_cons (ps_expr (pe_bmK (K := K) rfl PySem.F.plainAttrs_list PySem.F.slot_list_append PySem.F.type_list_append mt_append (pe_fldK (K := K) rfl (pv 0) rfl) (pa_cons (pv 1) pa_nil)))
          (pss_one (ps_ret (pe_op op_sub (pe_callB (len_K (K := K) rfl) (by rfl) T.n_len PySem.boot_len (pa_cons (pe_fldK (K := K) rfl (pv 0) rfl) pa_nil)) pe_int)))), ?_⟩
    try dsimp only [L2.cxX, L2.cxOf, L2.cxComp]
    walk_at "rds"
    have k1 : (upd H bb (.lst (bs ++ [.ref u]))) p = some (.ins T.C_Hall dx [("numbers", .ref a), ("rows", .ref bb)]) := by rw [upd_ne npb]; exact h1
    have k4 : (upd H bb (.lst (bs ++ [.ref u]))) bb = some (.lst (bs ++ [.ref u])) := upd_same
    walk_at "rds"
    have el : ((bs ++ [V.ref u]).length : Int) - 1 = hl.belts.length := by simp [hlb]
    rw [el]
    have fr : Frame [p, dx, a, bb] H (upd H bb (.lst (bs ++ [.ref u]))) := frame_upd (by simp) h4 (by intro _ z; cases z)
    refine q _ [p, dx, a, bb] ⟨dx, a, bb, _, rfl, k1, ?_, ?_, k4, nab, (h6.keep fr.tups).snoc (fr.tups _ _ hu')⟩ fr Grows.refl
    · rw [upd_ne ndb]; exact h2
    · rw [upd_ne nab]; exact h3
end
def sp_Hall_belt {K : PySem.W.Frag} {mg : Str → Option Value} (T : Tp K mg) : Sp := fun vs H Q E => ∃ (p : Addr) (b : B5) (hl : HM) (fp : List Addr), vs = .ref p :: b.v ∧ HallAt T H p hl fp ∧ hl.belts.length ≤ 1000 ∧
  (¬ (0 ≤ b.giver ∧ b.giver < hl.names.length ∧ 0 ≤ b.taker ∧ b.taker < hl.names.length) → ∀ H', Same H H' → E (.ref T.X_NoWork) none H') ∧
  ((0 ≤ b.giver ∧ b.giver < hl.names.length ∧ 0 ≤ b.taker ∧ b.taker < hl.names.length) → ¬ (1 ≤ b.give ∧ 1 ≤ b.take ∧ 0 ≤ b.start) → ∀ H', Same H H' → E (.ref T.X_NoRate) none H') ∧
  ((0 ≤ b.giver ∧ b.giver < hl.names.length ∧ 0 ≤ b.taker ∧ b.taker < hl.names.length) → (1 ≤ b.give ∧ 1 ≤ b.take ∧ 0 ≤ b.start) → 60 ≤ hl.belts.length → ∀ H', Same H H' → E (.ref T.X_TooMuch) none H') ∧
  ((0 ≤ b.giver ∧ b.giver < hl.names.length ∧ 0 ≤ b.taker ∧ b.taker < hl.names.length) → (1 ≤ b.give ∧ 1 ≤ b.take ∧ 0 ≤ b.start) → hl.belts.length < 60 → ∀ (H' : Hp) (fp' : List Addr), HallAt T H' p ⟨hl.names, hl.belts ++ [b]⟩ fp' → Frame fp H H' → Grows fp fp' H → Q (.int hl.belts.length) H')
theorem rd_Hall_belt {K : PySem.W.Frag} {mg : Str → Option Value} {T : Tp K mg} {H : Hp} {Q : VK} {E : XK} {p : Addr} {g t gv tk st : Int} {hl : HM} {fp : List Addr} (h : HallAt T H p hl fp)
    (h1 : 0 ≤ g) (h2 : g < hl.names.length) (h3 : 0 ≤ t) (h4 : t < hl.names.length) (h5 : 1 ≤ gv) (h6 : 1 ≤ tk) (h7 : 0 ≤ st) (hlen : hl.belts.length < 60)
    (q : ∀ (H' : Hp) (fp' : List Addr), HallAt T H' p ⟨hl.names, hl.belts ++ [⟨g, t, gv, tk, st⟩]⟩ fp' → Frame fp H H' → Grows fp fp' H → Q (.int hl.belts.length) H') : sp_Hall_belt T [.ref p, .int g, .int t, .int gv, .int tk, .int st] H Q E :=
  ⟨p, ⟨g, t, gv, tk, st⟩, hl, fp, rfl, h, by omega, fun z => absurd ⟨h1, h2, h3, h4⟩ z, fun _ z => absurd ⟨h5, h6, h7⟩ z, fun _ _ z => absurd z (by omega), fun _ _ _ => q⟩
section
variable {P : Program} {w : World} {K : PySem.W.Frag} {mg : Str → Option Value} {base : Heap}
theorem ok_Hall_belt (T : Tp K mg) : FnOk P w K mg base (CXX P w) 5 T.f_Hall_belt T.d_Hall_belt ["self", "giver", "taker", "give", "take", "start"] (sp_Hall_belt T) := by
  have G_need_start : FnOk P w K mg base (CXX P w) 4 T.f_need_start T.d_need_start ["start"] (sp_need_start T) := (ok_need_start T).mono (by decide)
  have G_is_from : FnOk P w K mg base (CXX P w) 4 T.f_is_from T.d_is_from ["thing", "least"] (sp_is_from T) := (ok_is_from T).mono (by decide)
  have G_Hall_need_work : FnOk P w K mg base (CXX P w) 4 T.f_Hall_need_work T.d_Hall_need_work ["self", "work"] (sp_Hall_need_work T) := (ok_Hall_need_work T).mono (by decide)
  have G_Hall_lay : FnOk P w K mg base (CXX P w) 4 T.f_Hall_lay T.d_Hall_lay ["self", "row"] (sp_Hall_lay T) := (ok_Hall_lay T).mono (by decide)
  have cl_Hall := T.cl_Hall
  have na_Hall := T.na_Hall
  refine T.F_Hall_belt.okX sc_Hall_belt (fun vs H Q E h => ?_) (fun cdv A outer s H vs Q E hr h => ?_)
  · obtain ⟨p, b, hl, fp, rfl, _⟩ := h
    rfl
  · have hu := hr.units
    obtain ⟨p, b, hl, fp, rfl, hh, hz, e1, e2, e3, q⟩ := h
    obtain ⟨dx, a, bb, bs, rfl, h1, h2, h3, h4, nab, h6⟩ := id hh
    obtain ⟨g, t, gv, tk, st⟩ := b
    have hlb := h6.length
    refine ⟨_, (pss_cons (ps_expr (pe_meth (pv 0) T.cl_Hall T.M_Hall_need_work G_Hall_need_work hr T.b_Hall_need_work .nil pass_on (pa_cons (pv 1) pa_nil)))
          (pss_cons (ps_expr (pe_meth (pv 0) T.cl_Hall T.M_Hall_need_work G_Hall_need_work hr T.b_Hall_need_work .nil pass_on (pa_cons (pv 2) pa_nil)))
          (pss_cons (ps_if (PW.pt (pw_or (pt_not (pt_truK (K := K) rfl (pe_call G_is_from hr rfl T.m_is_from T.F_is_from.kp T.b_is_from .nil pass_on (pa_cons (pv 3) (pa_cons pe_int pa_nil))) (fun _ => rfl))) (pw_or1 (pt_not (pt_truK (K := K) rfl (pe_call G_is_from hr rfl T.m_is_from T.F_is_from.kp T.b_is_from .nil pass_on (pa_cons (pv 4) (pa_cons pe_int pa_nil))) (fun _ => rfl)))))) (pss_one (ps_raiseK T.gx_NoRate T.ex_NoRate PySem.F.excBase_ValueError rfl (pa_cons pe_str pa_nil))) pss_nil)
          (pss_cons (ps_expr (pe_call G_need_start hr rfl T.m_need_start T.F_need_start.kp T.b_need_start .nil pass_on (pa_cons (pv 5) pa_nil)))
          (pss_cons (ps_if (pt_cmpR op_ge (pe_callB (len_K (K := K) rfl) (by rfl) T.n_len PySem.boot_len (pa_cons (pe_fldK (K := K) rfl (pv 0) rfl) pa_nil)) (pe_glob (v := .int 60) rfl T.c_MOST_BELTS ⟨_, rfl⟩) (nomark _)) (pss_one (ps_raiseK T.gx_TooMuch T.ex_TooMuch PySem.F.excBase_ValueError rfl (pa_cons pe_str pa_nil))) pss_nil)
          (pss_one (ps_ret (pe_meth (pv 0) T.cl_Hall T.M_Hall_lay G_Hall_lay hr T.b_Hall_lay .nil pass_on (pa_cons (pe_tup (pa_cons (pv 1) (pa_cons (pv 2) (pa_cons (pv 3) (pa_cons (pv 4) (pa_cons (pv 5) pa_nil)))))) pa_nil))))))))), ?_⟩
    try dsimp only [L2.cxX, L2.cxOf, L2.cxComp]
    dsimp only [B5.v] at *
    walk_at "rds"
    refine ⟨p, g, hl, _, rfl, hh, fun z => e1 (by omega) H (Same.refl H), fun g0 g1 => ?_⟩
    walk_at "rds"
    refine ⟨p, t, hl, _, rfl, hh, fun z => e1 (by omega) H (Same.refl H), fun t0 t1 => ?_⟩
    have ws : 0 ≤ g ∧ g < hl.names.length ∧ 0 ≤ t ∧ t < hl.names.length := ⟨g0, g1, t0, t1⟩
    walk_at "rds"
    by_cases c : 1 ≤ gv
    · rw [decide_eq_true c]
      walk_at "rds"
      by_cases d : 1 ≤ tk
      · rw [decide_eq_true d]
        walk_at "rds"
        refine ⟨st, rfl, fun z => e2 ws (by omega) H (Same.refl H), fun f => ?_⟩
        walk_at "rds"
        refine Rd.ifD (fun l => ?_) (fun l => ?_)
        · walk_at "rds"
          exact e3 ws (by omega) (by omega) H (Same.refl H)
        walk_at "rds"
        refine ⟨by show 5 ≤ sizeLine; decide, fun u hu' => ?_⟩
        have sn : Same H (upd H u (.tup [.int g, .int t, .int gv, .int tk, .int st])) := same_new hu'
        have hh' := hh.same sn
        walk_at "rds"
        refine ⟨p, u, ⟨g, t, gv, tk, st⟩, hl, _, rfl, hh', upd_same, hz, fun H' fp' hh2 fr gr => ?_⟩
        refine q ws (by omega) (by omega) H' fp' hh2 (sn.frame.trans fr) (fun x hx => ?_)
        rcases gr x hx with z | z
        · exact .inl z
        · refine .inr ?_
          cases e : H x with
          | none => rfl
          | some o => rw [sn _ _ e] at z; cases z
      · rw [decide_eq_false d]
        walk_at "rds"
        exact e2 ws (by omega) H (Same.refl H)
    · rw [decide_eq_false c]
      walk_at "rds"
      exact e2 ws (by omega) H (Same.refl H)
end
def sp_Hall_init {K : PySem.W.Frag} {mg : Str → Option Value} (T : Tp K mg) : Sp := fun vs H Q _ => ∃ p dx : Addr, vs = [.ref p] ∧ H p = some (.ins T.C_Hall dx []) ∧ H dx = some (.own p) ∧
  ∀ (H' : Hp) (fp : List Addr), HallAt T H' p ⟨[], []⟩ fp → (∀ x ∈ fp, x = p ∨ x = dx ∨ H x = none) → (∀ b o, H b = some o → b ≠ p → H' b = some o) → Q .non H'
theorem rd_Hall_init {K : PySem.W.Frag} {mg : Str → Option Value} {T : Tp K mg} {H : Hp} {Q : Addr → Hp → Prop} {E : XK}
    (q : ∀ (p : Addr) (fp : List Addr) (H' : Hp), HallAt T H' p ⟨[], []⟩ fp → (∀ x ∈ fp, H x = none) → Same H H' → Q p H') :
    ∀ x dx, H x = none → H dx = none → dx ≠ x → sp_Hall_init T (.ref x :: ([] ++ [])) (upd (upd H dx (.own x)) x (.ins T.C_Hall dx [])) (fun v H2 => v = .non ∧ Q x H2) E := by
  intro x dx hx hdx ne
  refine ⟨x, dx, rfl, upd_same, by rw [upd_ne ne, upd_same], fun H' fp hh hf hk => ⟨rfl, q x fp H' hh (fun y hy => ?_) (fun b o e => hk b o ?_ (ne_of_none e hx))⟩⟩
  · rcases hf y hy with rfl | rfl | h
    · exact hx
    · exact hdx
    · by_cases h1 : y = x
      · rw [h1]; exact hx
      · by_cases h2 : y = dx
        · rw [h2]; exact hdx
        · rw [upd_ne h1, upd_ne h2] at h
          exact h
  · rw [upd_ne (ne_of_none e hx), upd_ne (ne_of_none e hdx)]
    exact e
local macro_rules | `(tactic| walk_at "rd") => `(tactic| first | with_reducible refine Nm.rd_Hall_init ?_ | fail "none here")
section
variable {P : Program} {w : World} {K : PySem.W.Frag} {mg : Str → Option Value} {base : Heap}
theorem ok_Hall_init (T : Tp K mg) : FnOk P w K mg base (CXX P w) 1 T.f_Hall_init T.d_Hall_init ["self"] (sp_Hall_init T) := by
  have cl_Hall := T.cl_Hall
  have na_Hall := T.na_Hall
  refine T.F_Hall_init.okX sc_Hall_init (fun vs H Q E h => ?_) (fun cdv A outer s H vs Q E hr h => ?_)
  · obtain ⟨p, dx, rfl, _⟩ := h
    rfl
  · have hu := hr.units
    obtain ⟨p, dx, rfl, hp, hdx, q⟩ := h
    refine ⟨_, (pss_cons (ps_fldK (K := K) rfl (pv 0) pe_dnewK rfl)
          (pss_one (ps_fldK (K := K) rfl (pv 0) (pe_lst pa_nil) rfl))), ?_⟩
    try dsimp only [L2.cxX, L2.cxOf, L2.cxComp]
    walk_at "rds"
    intro a ha
    have npa : p ≠ a := ne_of_none hp ha
    have nda : dx ≠ a := ne_of_none hdx ha
    have npd : p ≠ dx := ne_of hp hdx (by intro z; cases z)
    have hp1 : (upd H a (.dK [])) p = some (.ins T.C_Hall dx []) := by rw [upd_ne npa]; exact hp
    walk_at "rds"
    refine ⟨Nat.zero_le _, fun b hb => ?_⟩
    have hb0 : H b = none := by
      by_cases h1 : b = p
      · rw [h1, upd_same] at hb; cases hb
      · by_cases h2 : b = a
        · rw [h2]; exact ha
        · rw [upd_ne h1, upd_ne h2] at hb; exact hb
    have npb : p ≠ b := ne_of_none hp hb0
    have ndb : dx ≠ b := ne_of_none hdx hb0
    have nab : a ≠ b := by
      intro z
      rw [← z, upd_ne npa.symm, upd_same] at hb
      cases hb
    have hp2 : (upd (upd (upd H a (.dK [])) p (.ins T.C_Hall dx [("numbers", .ref a)])) b (.lst [])) p = some (.ins T.C_Hall dx [("numbers", .ref a)]) := by rw [upd_ne npb, upd_same]
    walk_at "rds"
    refine q _ [p, dx, a, b] ⟨dx, a, b, [], rfl, upd_same, ?_, ?_, ?_, nab, .nil⟩ (fun x hx => ?_) (fun c o e hc => ?_)
    · rw [upd_ne npd.symm, upd_ne ndb, upd_ne npd.symm, upd_ne nda]; exact hdx
    · rw [upd_ne npa.symm, upd_ne nab, upd_ne npa.symm, upd_same]; rfl
    · rw [upd_ne npb.symm, upd_same]
    · simp only [List.mem_cons, List.not_mem_nil, or_false] at hx
      rcases hx with rfl | rfl | rfl | rfl
      · exact .inl rfl
      · exact .inr (.inl rfl)
      · exact .inr (.inr ha)
      · exact .inr (.inr hb0)
    · rw [upd_ne hc, upd_ne (ne_of_none e hb0), upd_ne hc, upd_ne (ne_of_none e ha)]; exact e
end
def sp_l_made {K : PySem.W.Frag} {mg : Str → Option Value} (T : Tp K mg) : Sp := fun vs H Q _ => ∃ (m : Int) (q : Addr) (bs : List V) (ls : List B5), vs = [.int m, .ref q] ∧ 1 ≤ m ∧ m ≤ 30 ∧ H q = some (.lst bs) ∧ Tups H bs ls ∧ ls.length ≤ 60 ∧ (∀ l ∈ ls, Drawn17 m l) ∧
  ∀ (hp : Addr) (fp : List Addr) (H' : Hp), HallAt T H' hp ⟨(List.range m.toNat).map nm17, ls⟩ fp → Same H H' → Q (.ref hp) H'
theorem new_step {H H1 H2 : Hp} {fp fp2 : List Addr} (s : Same H H1) (n : ∀ x ∈ fp, H x = none) (fr : Frame fp H1 H2) (gr : Grows fp fp2 H1) : Same H H2 ∧ ∀ x ∈ fp2, H x = none := by
  refine ⟨fun b o e => fr.keep _ _ (s _ _ e) (fun z => by have := n b z; rw [e] at this; cases this), fun x hx => ?_⟩
  rcases gr x hx with z | z
  · exact n x z
  · exact same_none s z
section
variable {P : Program} {w : World} {K : PySem.W.Frag} {mg : Str → Option Value} {base : Heap}
theorem ok_l_made (T : Tp K mg) : FnOk P w K mg base (CXX P w) 6 T.f_l_made T.d_l_made ["_law_many", "_law_lines_here"] (sp_l_made T) := by
  have G_Hall_work : FnOk P w K mg base (CXX P w) 5 T.f_Hall_work T.d_Hall_work ["self", "name"] (sp_Hall_work T) := (ok_Hall_work T).mono (by decide)
  have G_Hall_belt : FnOk P w K mg base (CXX P w) 5 T.f_Hall_belt T.d_Hall_belt ["self", "giver", "taker", "give", "take", "start"] (sp_Hall_belt T) := (ok_Hall_belt T).mono (by decide)
  have G_Hall_init : FnOk P w K mg base (CXX P w) 4 T.f_Hall_init T.d_Hall_init ["self"] (sp_Hall_init T) := (ok_Hall_init T).mono (by decide)
  have cl_Hall := T.cl_Hall
  have na_Hall := T.na_Hall
  refine T.F_l_made.okX sc_l_made (fun vs H Q E h => ?_) (fun cdv A outer s H vs Q E hr h => ?_)
  · obtain ⟨m, q, bs, ls, rfl, _⟩ := h
    rfl
  · have hu := hr.units
    obtain ⟨m, qa, bs, ls, rfl, m1, m2, hq, hT, hz, hd, q⟩ := h
    have al := abc_len
    have hbl := hT.length
    refine ⟨_, (pss_cons (ps_set (i := 2) sc_l_made.nd rfl (Or.inl rfl) pe_str)
          (pss_cons (ps_set (i := 3) sc_l_made.nd rfl (Or.inl rfl) (pe_make0 T.mk_Hall G_Hall_init hr rfl T.g_Hall T.b_Hall_init .nil pass_on))
          (pss_cons (ps_for PassesOwn.leaving rfl (pi_range1 rfl T.n_range (pa_cons (pv 0) pa_nil)) (pg_name (i := 4) sc_l_made.nd rfl (Or.inl rfl)) (pss_one (ps_expr (pe_meth (pv 3) T.cl_Hall T.M_Hall_work G_Hall_work hr T.b_Hall_work .nil pass_on (pa_cons (pe_op (op_addK (K := K) rfl) (pe_op (op_addK (K := K) rfl) (pe_ix (ix_K (K := K) rfl) (pv 2) (pe_op op_mod (pe_op op_mulU pe_int (pv 4)) pe_int) (fun _ _ => rfl)) (pe_ix (ix_K (K := K) rfl) (pv 2) (pe_op op_mod (pe_op op_mulU pe_int (pv 4)) pe_int) (fun _ _ => rfl))) (pe_op op_mulS pe_str (pe_op op_fdivG (pv 4) pe_int))) pa_nil)))))
          (pss_cons (ps_for PassesOwn.leaving rfl (pi_listK (K := K) rfl (pv 1)) (pg_name (i := 5) sc_l_made.nd rfl (Or.inl rfl)) (pss_one (ps_expr (pe_meth (pv 3) T.cl_Hall T.M_Hall_belt G_Hall_belt hr T.b_Hall_belt .nil pass_on (pa_cons (pe_ix (ix_K (K := K) rfl) (pv 5) pe_int (fun _ _ => rfl)) (pa_cons (pe_ix (ix_K (K := K) rfl) (pv 5) pe_int (fun _ _ => rfl)) (pa_cons (pe_ix (ix_K (K := K) rfl) (pv 5) pe_int (fun _ _ => rfl)) (pa_cons (pe_ix (ix_K (K := K) rfl) (pv 5) pe_int (fun _ _ => rfl)) (pa_cons (pe_ix (ix_K (K := K) rfl) (pv 5) pe_int (fun _ _ => rfl)) pa_nil)))))))))
          (pss_one (ps_ret (pv 3))))))), ?_⟩
    try dsimp only [L2.cxX, L2.cxOf, L2.cxComp]
    walk_at "rds"
    intro hp fp H1 hh hf sm
    walk_at "rds"
    refine for_range (n := m.toNat) (fun i σ H' => ∃ fp' k0, σ = [some (.int m), some (.ref qa), some (.str "abcdefghijklmnopqrstuvwxyz"), some (.ref hp), k0, none] ∧ HallAt T H' hp ⟨(List.range i).map nm17, []⟩ fp' ∧ Same H H' ∧ ∀ x ∈ fp', H x = none) ⟨fp, none, rfl, hh, sm, hf⟩ ?_ ?_
    · rintro i σ H' hi ⟨fp', k0, rfl, hh', s', n'⟩
      walk_at "rds"
      have e1 : (7 * (0 + (i : Int))) % 26 = ((7 * i % 26 : Nat) : Int) := by omega
      have e2 : (11 * (0 + (i : Int))) % 26 = ((11 * i % 26 : Nat) : Int) := by omega
      have e3 : (0 + (i : Int)) / 26 = (i : Int) / 26 := by rw [Int.zero_add]
      rw [e1]
      refine Rd.ixuS al (atI_nat (abc_at (7 * i % 26) (Nat.mod_lt _ (by decide)))) ?_
      walk_at "rds"
      rw [e2]
      refine Rd.ixuS al (atI_nat (abc_at (11 * i % 26) (Nat.mod_lt _ (by decide)))) ?_
      refine Rd.addS (by show 1 + 1 ≤ sizeLine; decide) ?_
      walk_at "rds"
      rw [e3]
      obtain ⟨mo, ml⟩ := mulx (n := (i : Int) / 26) (by omega)
      refine Rd.mulS mo ?_
      refine Rd.addS (by show 2 + (Txt.mul "x" ((i : Int) / 26)).length ≤ sizeLine; have : (3 : Nat) ≤ sizeLine := by decide
                         omega) ?_
      walk_at "rds"
      refine rd_Hall_work hh' (nm17_ok i (by omega)) (nm17_new i (by omega)) (by simp; omega) (fun H2 fp2 hh2 fr gr => ?_)
      obtain ⟨s2, n2⟩ := new_step s' n' fr gr
      refine ⟨fp2, _, rfl, ?_, s2, n2⟩
      rw [List.range_succ, List.map_append]
      exact hh2
    · rintro σ H' ⟨fp', k0, rfl, hh', s', n'⟩
      have hq' := s' _ _ hq
      walk_at "rds"
      refine for_walk (walks_lst (SqL.of hq)) (fun i σ H' => ∃ (fp' : List Addr) (a1 : Option V), σ = [some (.int m), some (.ref qa), some (.str "abcdefghijklmnopqrstuvwxyz"), some (.ref hp), k0, a1] ∧ HallAt T H' hp ⟨(List.range m.toNat).map nm17, ls.take i⟩ fp' ∧ Same H H' ∧ ∀ x ∈ fp', H x = none)
        ⟨fp', _, rfl, hh', s', n'⟩ (fun i σ H' ⟨_, _, _, _, s, _⟩ => s) ?_ ?_
      · rintro i σ H4 hi ⟨fp4, a1, rfl, hh4, s4, n4⟩
        have hil : i < ls.length := by omega
        obtain ⟨t, ht1, ht2⟩ := hT.at (List.getElem?_eq_getElem hil)
        have eb : bs.getD i .non = .ref t := by simp [List.getD, ht1]
        rw [eb]
        have hm := hd _ (List.getElem_mem hil)
        have et := List.take_succ_eq_append_getElem hil
        have ht4 := s4 _ _ ht2
        generalize ls[i] = l at *
        obtain ⟨r1, r2, r3, r4⟩ := hm.rg
        obtain ⟨z1, z3⟩ := hm.sz
        dsimp only [B5.v] at ht4
        walk_at "rds"
        refine rd_Hall_belt hh4 r1 (by simp; omega) r3 (by simp; omega) z1 z3 hm.st (by simp; omega) (fun H5 fp5 hh5 fr5 gr5 => ?_)
        obtain ⟨s5, n5⟩ := new_step s4 n4 fr5 gr5
        refine ⟨fp5, _, rfl, ?_, s5, n5⟩
        rw [et]
        exact hh5
      · rintro σ H4 ⟨fp4, a1, rfl, hh4, s4, n4⟩
        rw [hbl, List.take_length] at hh4
        walk_at "rds"
        exact q hp fp4 H4 hh4 s4
end
def sp_l_turn {K : PySem.W.Frag} {mg : Str → Option Value} (T : Tp K mg) : Sp := fun vs H Q _ => ∃ (a b : Addr) (w : Int) (bs : List V) (rows : List B5) (hs : List Int), vs = [.ref a, .ref b, .int w] ∧ SqL K H a bs ∧ Tups H bs rows ∧ SqL K H b (hs.map V.int) ∧ hs.length = rows.length ∧ rows.length ≤ 1000 ∧
  ∀ r H', H r = none → Same H H' → H' r = some (.lst ((shiftL rows hs w).map V.int)) → Q (.ref r) H'
section
variable {P : Program} {w : World} {K : PySem.W.Frag} {mg : Str → Option Value} {base : Heap}
theorem ok_l_turn (T : Tp K mg) : FnOk P w K mg base (CXX P w) 1 T.f_l_turn T.d_l_turn ["_law_lines_here", "_law_lying", "_law_work"] (sp_l_turn T) := by
  refine T.F_l_turn.okX sc_l_turn (fun vs H Q E h => ?_) (fun cdv A outer s H vs Q E hr h => ?_)
  · obtain ⟨a, b, w, bs, rows, hs, rfl, _⟩ := h
    rfl
  · have hu := hr.units
    obtain ⟨a, b, w, bs, rows, hs, rfl, ha, hT, hb, hl, hz, q⟩ := h
    have hbl := hT.length
    refine ⟨_, (pss_cons (ps_set (i := 3) sc_l_turn.nd rfl (Or.inl rfl) (pe_callTy (listOf_K (K := K) rfl) (by rfl) T.n_list PyProof.Rows.boot_list (pa_cons (pv 1) pa_nil)))
          (pss_cons (ps_for PassesOwn.leaving rfl (pi_enum (K := K) rfl rfl T.n_enumerate (pa_cons (pv 0) pa_nil)) (pg_tupK (K := K) (n := 2) rfl rfl (pgs_cons (pg_name (i := 4) sc_l_turn.nd rfl (Or.inl rfl)) (pgs_cons (pg_name (i := 5) sc_l_turn.nd rfl (Or.inl rfl)) pgs_nil))) (pss_cons (ps_cut (ps_if (pt_cmpR (op_eqK (K := K) rfl hu) (pe_ix (ix_K (K := K) rfl) (pv 5) pe_int (fun _ _ => rfl)) (pv 2) (nomark _)) (pss_one (ps_asg (pe_op op_sub (pe_ix (ix_K (K := K) rfl) (pv 3) (pv 4) (fun _ _ => rfl)) (pe_ix (ix_K (K := K) rfl) (pv 5) pe_int (fun _ _ => rfl))) (pg_sub (pv 3) (pv 4) set_list))) pss_nil))
          (pss_one (ps_if (pt_cmpR (op_eqK (K := K) rfl hu) (pe_ix (ix_K (K := K) rfl) (pv 5) pe_int (fun _ _ => rfl)) (pv 2) (nomark _)) (pss_one (ps_asg (pe_op (op_addK (K := K) rfl) (pe_ix (ix_K (K := K) rfl) (pv 3) (pv 4) (fun _ _ => rfl)) (pe_ix (ix_K (K := K) rfl) (pv 5) pe_int (fun _ _ => rfl))) (pg_sub (pv 3) (pv 4) set_list))) pss_nil))))
          (pss_one (ps_ret (pv 3))))), ?_⟩
    try dsimp only [L2.cxX, L2.cxOf, L2.cxComp]
    walk_at "rds"
    refine Rd.listOfL hb (fun c hc => ?_)
    have s0 : Same H (upd H c (.lst (hs.map V.int))) := same_new hc
    have hc1 : (upd H c (.lst (hs.map V.int))) c = some (.lst (hs.map V.int)) := upd_same
    generalize upd H c (.lst (hs.map V.int)) = H1 at *
    have ha1 := s0.seq ha
    generalize hX : shiftL rows hs w = X at *
    have xl : X.length = hs.length := by rw [← hX]; exact shiftL_len hl
    walk_at "rds"
    refine for_walkY (walks_enum ha) (fun i σ H' => Same H H' ∧ (∃ a1 a2, σ = [some (.ref a), some (.ref b), some (.int w), some (.ref c), a1, a2]) ∧ H' c = some (.lst ((X.take i ++ hs.drop i).map V.int))) ⟨s0, ⟨_, _, rfl⟩, by simpa using hc1⟩ (fun i σ H' h => h.1) ?_ ?_
    · rintro i σ H2 v H3 hi ⟨sm, ⟨a1, a2, rfl⟩, hc2⟩ ⟨t, ht, rfl, rfl⟩
      have hil : i < rows.length := by omega
      have hih : i < hs.length := by omega
      have hix : i < X.length := by omega
      have ex : X[i] = hs[i] - (if rows[i].taker = w then rows[i].take else 0) + (if rows[i].giver = w then rows[i].give else 0) := by subst hX; exact shiftL_at hil hih hix
      rw [mid_start hih] at hc2
      obtain ⟨u, hu1, hu2⟩ := hT.at (List.getElem?_eq_getElem hil)
      have eb : bs.getD i .non = .ref u := by simp [List.getD, hu1]
      have at2 : ∀ v, atI (mid X hs i v) (i:Int) = some (.int v) := fun v => atI_nat (mid_at hih xl)
      have ml : ∀ v, (i : Int) < (mid X hs i v).length := fun v => by rw [mid_len hih xl]; omega
      have ti : (i : Int).toNat = i := by omega
      have em := mid_end (X := X) (hs := hs) hix
      rw [eb]
      refine Rd.gtup (.of upd_same) rfl ?_
      have su : Same H2 (upd H2 t (.tup [.int i, .ref u])) := same_new ht
      have s3 := sm.trans su
      have hc3 := su _ _ hc2
      generalize upd H2 t (.tup [.int i, .ref u]) = H3 at *
      generalize X[i] = xi at *
      generalize rows[i] = r at *
      generalize hs[i] = hh at *
      dsimp only [B5.v] at hu2
      have hu3 := s3 _ _ hu2
      walk_at "rds"
      refine Rd.cut (fun σ' H4 => Same H H4 ∧ σ' = [some (.ref a), some (.ref b), some (.int w), some (.ref c), some (.int (i : Int)), some (.ref u)] ∧ H4 c = some (.lst (mid X hs i (hh - if r.taker = w then r.take else 0)))) ?k2 ?i2
      case i2 =>
        walk_at "rds"
        refine Rd.ifD (fun d => ?_) (fun d => ?_)
        · have sc : SqL K H3 c _ := .of hc3
          have at2' := at2 hh
          have ml' := ml hh
          walk_at "rds"
          refine ⟨s3.new hc, rfl, ?_⟩
          rw [upd_same, ti, mid_set hih xl, if_pos d]
        · walk_at "rds"
          refine ⟨s3, rfl, ?_⟩
          rw [if_neg d, Int.sub_zero]
          exact hc3
      case k2 =>
        rintro σ' H4 ⟨sm4, rfl, hc4⟩
        have hu4 := sm4 _ _ hu2
        generalize hh - (if r.taker = w then r.take else 0) = v1 at *
        have sc : SqL K H4 c _ := .of hc4
        have at2' := at2 v1
        have ml' := ml v1
        walk_at "rds"
        refine Rd.ifD (fun d => ?_) (fun d => ?_)
        · walk_at "rds"
          refine ⟨sm4.new hc, ⟨_, _, rfl⟩, ?_⟩
          rw [upd_same, ti, mid_set hih xl, ← em, ex, if_pos d]
        · walk_at "rds"
          refine ⟨sm4, ⟨_, _, rfl⟩, ?_⟩
          rw [← em, ex, if_neg d, Int.add_zero]
          exact hc4
    · rintro σ H' ⟨sm, ⟨a1, a2, rfl⟩, hc2⟩
      walk_at "rds"
      refine q c H' hc sm ?_
      rw [hc2, List.take_of_length_le (by omega), List.drop_eq_nil_of_le (by omega), List.append_nil]
end
def sp_l_ready {K : PySem.W.Frag} {mg : Str → Option Value} (T : Tp K mg) : Sp := fun vs H Q _ => ∃ (a b : Addr) (v : V) (w : Int) (bs : List V) (rows : List B5) (hs : List Int), vs = [.ref a, .ref b, v, .int w] ∧ SqL K H a bs ∧ Tups H bs rows ∧ SqL K H b (hs.map V.int) ∧ hs.length = rows.length ∧ rows.length ≤ 1000 ∧
  ((v = .non ∧ ∀ H', Same H H' → Q (.bl (readyL rows hs w)) H') ∨
   (∃ (r : Addr) (rs : List Int), v = .ref r ∧ SqL K H r (rs.map V.int) ∧ rs.length = rows.length ∧ readyL rows hs w = true ∧ (∀ (i : Nat) (h : i < rows.length), rows[i].giver = w → hs.getD i 0 + rows[i].give ≤ rs.getD i 0) ∧ ∀ H', Same H H' → Q (.bl true) H'))
theorem readyL_at {w : Int} {rows : List B5} {hs : List Int} (h : readyL rows hs w = true) {i : Nat} (h1 : i < rows.length) (h2 : i < hs.length) (e : rows[i].taker = w) : rows[i].take ≤ hs[i] := by
  by_cases c : rows[i].take ≤ hs[i]
  · exact c
  · have := readyL_false i (List.getElem?_eq_getElem h1) (List.getElem?_eq_getElem h2) e (by omega)
    rw [this] at h; cases h
section
variable {P : Program} {w : World} {K : PySem.W.Frag} {mg : Str → Option Value} {base : Heap}
theorem ok_l_ready (T : Tp K mg) : FnOk P w K mg base (CXX P w) 1 T.f_l_ready T.d_l_ready ["_law_lines_here", "_law_lying", "_law_rooms", "_law_work"] (sp_l_ready T) := by
  refine T.F_l_ready.okX sc_l_ready (fun vs H Q E h => ?_) (fun cdv A outer s H vs Q E hr h => ?_)
  · obtain ⟨a, b, v, w, bs, rows, hs, rfl, _⟩ := h
    rfl
  · have hu := hr.units
    obtain ⟨a, b, v, w, bs, rows, hs, rfl, ha, hT, hb, hl, hz, hv⟩ := h
    have hbl := hT.length
    rcases hv with ⟨rfl, q⟩ | ⟨r, rs, rfl, hr, hrl, hrd, hrm, q⟩
    · skip
      refine ⟨_, (pss_cons (ps_for PassesOwn.leaving rfl (pi_enum (K := K) rfl rfl T.n_enumerate (pa_cons (pv 0) pa_nil)) (pg_tupK (K := K) (n := 2) rfl rfl (pgs_cons (pg_name (i := 4) sc_l_ready.nd rfl (Or.inl rfl)) (pgs_cons (pg_name (i := 5) sc_l_ready.nd rfl (Or.inl rfl)) pgs_nil))) (pss_cons (ps_if (PW.pt (pw_and (pt_cmpR (op_eqK (K := K) rfl hu) (pe_ix (ix_K (K := K) rfl) (pv 5) pe_int (fun _ _ => rfl)) (pv 3) (nomark _)) (pw_and1 (pt_cmpR op_lt (pe_ix (ix_K (K := K) rfl) (pv 1) (pv 4) (fun _ _ => rfl)) (pe_ix (ix_K (K := K) rfl) (pv 5) pe_int (fun _ _ => rfl)) (nomark _))))) (pss_one (ps_ret pe_bl)) pss_nil)
          (pss_one (ps_if (PW.pt (pw_and (pt_cmpR (op_eqK (K := K) rfl hu) (pe_ix (ix_K (K := K) rfl) (pv 5) pe_int (fun _ _ => rfl)) (pv 3) (nomark _)) (pw_and (pt_cmpR op_notN (pv 2) pe_non (nomark _)) (pw_and1 (pt_cmpR op_gt (pe_op (op_addK (K := K) rfl) (pe_ix (ix_K (K := K) rfl) (pv 1) (pv 4) (fun _ _ => rfl)) (pe_ix (ix_K (K := K) rfl) (pv 5) pe_int (fun _ _ => rfl))) (pe_ix (ix_K (K := K) rfl) (pv 2) (pv 4) (fun _ _ => rfl)) (nomark _)))))) (pss_one (ps_ret pe_bl)) pss_nil))))
          (pss_one (ps_ret pe_bl))), ?_⟩
      try dsimp only [L2.cxX, L2.cxOf, L2.cxComp]
      walk_at "rds"
      refine for_walkY (walks_enum ha) (fun i σ H' => Same H H' ∧ (∃ a1 a2, σ = [some (.ref a), some (.ref b), some .non, some (.int w), a1, a2]) ∧ ∀ j r h, j < i → rows[j]? = some r → hs[j]? = some h → r.taker = w → r.take ≤ h) ⟨Same.refl H, ⟨_, _, rfl⟩, by intro j r h z; omega⟩ (fun i σ H' h => h.1) ?_ ?_
      · rintro i σ H1 v H2 hi ⟨s1, ⟨a1, a2, rfl⟩, hp⟩ ⟨t, ht, rfl, rfl⟩
        have hil : i < rows.length := by omega
        have hih : i < hs.length := by omega
        have er : rows[i]? = some rows[i] := List.getElem?_eq_getElem hil
        have eh : hs[i]? = some hs[i] := List.getElem?_eq_getElem hih
        obtain ⟨u, hu1, hu2⟩ := hT.at er
        have eb : bs.getD i .non = .ref u := by simp [List.getD, hu1]
        have at2 : atI (hs.map V.int) (i : Int) = some (.int hs[i]) := atI_nat (by simp [hih])
        rw [eb]
        refine Rd.gtup (.of upd_same) rfl ?_
        have s2 : Same H (upd H1 t (.tup [.int i, .ref u])) := s1.trans (same_new ht)
        generalize upd H1 t (.tup [.int i, .ref u]) = H2 at *
        have hb2 := s2.seq hb
        have hu3 := s2 _ _ hu2
        generalize rows[i] = r at *
        generalize hs[i] = hh at *
        dsimp only [B5.v] at hu3
        have step : (r.taker = w → r.take ≤ hh) → ∀ (j : Nat) (r : B5) (h : Int), j < i + 1 → rows[j]? = some r → hs[j]? = some h → r.taker = w → r.take ≤ h := fun g j r' h' hj a b => by
          rcases Nat.lt_succ_iff_lt_or_eq.mp hj with z | rfl
          · exact hp j r' h' z a b
          · rw [er] at a; rw [eh] at b
            cases a; cases b
            exact g
        walk_at "rds"
        refine Rd.ifD (fun c => ?_) (fun c => ?_)
        · walk_at "rds"
          refine Rd.ifD (fun d => ?_) (fun d => ?_)
          · walk_at "rds"
            rw [← readyL_false i er eh c d]
            exact q _ s2
          · walk_at "rds"
            refine Rd.ifD (fun d2 => ?_) (fun d2 => ?_)
            · walk_at "rds"
              refine ⟨rfl, ?_⟩
              walk_at "rds"
              exact ⟨s2, ⟨_, _, rfl⟩, step (fun _ => by omega)⟩
            · walk_at "rds"
              exact ⟨s2, ⟨_, _, rfl⟩, step (fun _ => by omega)⟩
        · walk_at "rds"
          refine Rd.ifD (fun d2 => ?_) (fun d2 => ?_)
          · walk_at "rds"
            refine ⟨rfl, ?_⟩
            walk_at "rds"
            exact ⟨s2, ⟨_, _, rfl⟩, step (fun z => absurd z c)⟩
          · walk_at "rds"
            exact ⟨s2, ⟨_, _, rfl⟩, step (fun z => absurd z c)⟩
      · rintro σ H' ⟨s1, ⟨a1, a2, rfl⟩, hp⟩
        walk_at "rds"
        rw [← readyL_true (rows := rows) (hs := hs) (w := w) fun j r h a b => hp j r h (by have := (List.getElem?_eq_some_iff.mp a).1; omega) a b]
        exact q _ s1
    · skip
      refine ⟨_, (pss_cons (ps_for PassesOwn.leaving rfl (pi_enum (K := K) rfl rfl T.n_enumerate (pa_cons (pv 0) pa_nil)) (pg_tupK (K := K) (n := 2) rfl rfl (pgs_cons (pg_name (i := 4) sc_l_ready.nd rfl (Or.inl rfl)) (pgs_cons (pg_name (i := 5) sc_l_ready.nd rfl (Or.inl rfl)) pgs_nil))) (pss_cons (ps_if (PW.pt (pw_and (pt_cmpR (op_eqK (K := K) rfl hu) (pe_ix (ix_K (K := K) rfl) (pv 5) pe_int (fun _ _ => rfl)) (pv 3) (nomark _)) (pw_and1 (pt_cmpR op_lt (pe_ix (ix_K (K := K) rfl) (pv 1) (pv 4) (fun _ _ => rfl)) (pe_ix (ix_K (K := K) rfl) (pv 5) pe_int (fun _ _ => rfl)) (nomark _))))) (pss_one (ps_ret pe_bl)) pss_nil)
          (pss_one (ps_if (PW.pt (pw_and (pt_cmpR (op_eqK (K := K) rfl hu) (pe_ix (ix_K (K := K) rfl) (pv 5) pe_int (fun _ _ => rfl)) (pv 3) (nomark _)) (pw_and (pt_cmpR op_notN (pv 2) pe_non (nomark _)) (pw_and1 (pt_cmpR op_gt (pe_op (op_addK (K := K) rfl) (pe_ix (ix_K (K := K) rfl) (pv 1) (pv 4) (fun _ _ => rfl)) (pe_ix (ix_K (K := K) rfl) (pv 5) pe_int (fun _ _ => rfl))) (pe_ix (ix_K (K := K) rfl) (pv 2) (pv 4) (fun _ _ => rfl)) (nomark _)))))) (pss_one (ps_ret pe_bl)) pss_nil))))
          (pss_one (ps_ret pe_bl))), ?_⟩
      try dsimp only [L2.cxX, L2.cxOf, L2.cxComp]
      walk_at "rds"
      refine for_walkY (walks_enum ha) (fun i σ H' => Same H H' ∧ ∃ a1 a2, σ = [some (.ref a), some (.ref b), some (.ref r), some (.int w), a1, a2]) ⟨Same.refl H, _, _, rfl⟩ (fun i σ H' h => h.1) ?_ ?_
      · rintro i σ H1 v H2 hi ⟨s1, a1, a2, rfl⟩ ⟨t, ht, rfl, rfl⟩
        have hil : i < rows.length := by omega
        have hih : i < hs.length := by omega
        obtain ⟨u, hu1, hu2⟩ := hT.at (List.getElem?_eq_getElem hil)
        have eb : bs.getD i .non = .ref u := by simp [List.getD, hu1]
        have at2 : atI (hs.map V.int) (i : Int) = some (.int hs[i]) := atI_nat (by simp [hih])
        have at3 : atI (rs.map V.int) (i : Int) = some (.int (rs.getD i 0)) := atI_nat (by simp [List.getD, show i < rs.length by omega])
        have k1 := readyL_at hrd hil hih
        have k2 := hrm i hil
        rw [getD_of hih] at k2
        rw [eb]
        refine Rd.gtup (.of upd_same) rfl ?_
        have s2 : Same H (upd H1 t (.tup [.int i, .ref u])) := s1.trans (same_new ht)
        generalize upd H1 t (.tup [.int i, .ref u]) = H2 at *
        have hb2 := s2.seq hb
        have hr2 := s2.seq hr
        have hu3 := s2 _ _ hu2
        generalize rows[i] = rr0 at *
        generalize hs[i] = hh at *
        generalize rs.getD i 0 = rr at *
        dsimp only [B5.v] at hu3
        walk_at "rds"
        refine Rd.ifD (fun c => ?_) (fun c => ?_)
        · walk_at "rds"
          have kk1 := k1 c
          walk_at "rds"
          refine Rd.ifD (fun d2 => ?_) (fun d2 => ?_)
          · have kk2 := k2 d2
            walk_at "rds"
            refine ⟨rfl, ?_⟩
            walk_at "rds"
            exact ⟨s2, _, _, rfl⟩
          · walk_at "rds"
            exact ⟨s2, _, _, rfl⟩
        · walk_at "rds"
          refine Rd.ifD (fun d2 => ?_) (fun d2 => ?_)
          · have kk2 := k2 d2
            walk_at "rds"
            refine ⟨rfl, ?_⟩
            walk_at "rds"
            exact ⟨s2, _, _, rfl⟩
          · walk_at "rds"
            exact ⟨s2, _, _, rfl⟩
      · rintro σ H' ⟨s1, a1, a2, rfl⟩
        walk_at "rds"
        exact q _ s1
end
def sp_l_drawn_row {K : PySem.W.Frag} {mg : Str → Option Value} (T : Tp K mg) : Sp := fun vs H Q _ => ∃ (p : Addr) (m : Int) (q : Addr) (ns : List Int) (bs : List V) (ls : List B5), vs = [.ref p, .int m, .ref q] ∧ SqL K H p (ns.map V.int) ∧ ns.length ≤ 63 ∧ 1 ≤ m ∧ m ≤ 30 ∧ H q = some (.lst bs) ∧ Tups H bs ls ∧ ls.length ≤ 1000 ∧
  ∀ (r y t : Addr) (ws hs : List Int) (H' : Hp), Same H H' → H' t = some (.tup [.ref r, .ref y]) → H' r = some (.lst (ws.map V.int)) → H' y = some (.lst (hs.map V.int)) → ws.length ≤ 600 → goR m ls (ls.map B5.start) ws = .ok hs → Q (.ref t) H'
theorem cut_ints (ns : List Int) (lo hi : Option Int) : ∃ cs : List Int, cutV (ns.map V.int) lo hi = cs.map V.int ∧ cs.length ≤ ns.length := by
  unfold cutV
  rw [← List.map_drop, ← List.map_take]
  exact ⟨_, rfl, by rw [List.length_take, List.length_drop]; omega⟩
theorem rep_ints (cs : List Int) (k : Nat) : (List.replicate k (cs.map V.int)).flatten = (List.replicate k cs).flatten.map V.int := by rw [List.map_flatten, List.map_replicate]
theorem turn_ok {m : Int} {ls : List B5} {hs : List Int} {w : Int} (h0 : 0 ≤ w) (h1 : w < m) (h2 : readyL ls hs w = true) : turnR m ls hs w = .ok (shiftL ls hs w) := by unfold turnR; rw [if_pos ⟨h0, h1⟩, if_pos h2]
theorem goR_one {m : Int} {ls : List B5} {hs : List Int} {w : Int} : goR m ls hs [w] = turnR m ls hs w := by
  show (match turnR m ls hs w with | .ok hs' => goR m ls hs' [] | .error e => .error e) = _
  cases turnR m ls hs w <;> rfl
section
variable {P : Program} {w : World} {K : PySem.W.Frag} {mg : Str → Option Value} {base : Heap}
theorem ok_l_drawn_row (T : Tp K mg) : FnOk P w K mg base (CXX P w) 2 T.f_l_drawn_row T.d_l_drawn_row ["_law_script", "_law_many", "_law_lines_here"] (sp_l_drawn_row T) := by
  have G_l_turn : FnOk P w K mg base (CXX P w) 1 T.f_l_turn T.d_l_turn ["_law_lines_here", "_law_lying", "_law_work"] (sp_l_turn T) := (ok_l_turn T).mono (by decide)
  have G_l_mix : FnOk P w K mg base (CXX P w) 1 T.f_l_mix T.d_l_mix ["_law_cell_here", "_law_way"] (sp_l_mix T) := (ok_l_mix T).mono (by decide)
  have G_l_ready : FnOk P w K mg base (CXX P w) 1 T.f_l_ready T.d_l_ready ["_law_lines_here", "_law_lying", "_law_rooms", "_law_work"] (sp_l_ready T) := (ok_l_ready T).mono (by decide)
  have G_l_cell : FnOk P w K mg base (CXX P w) 1 T.f_l_cell T.d_l_cell ["_law_script", "_law_k"] (sp_l_cell T) := (ok_l_cell T).mono (by decide)
  refine T.F_l_drawn_row.okX sc_l_drawn_row (fun vs H Q E h => ?_) (fun cdv A outer s H vs Q E hr h => ?_)
  · obtain ⟨p, m, q, ns, bs, ls, rfl, _⟩ := h
    rfl
  · have hu := hr.units
    obtain ⟨p, m, qa, ns, bs, ls, rfl, hS, hnl, m1, m2, hq, hT, hz, k⟩ := h
    have hbl := hT.length
    refine ⟨_, (pss_cons (ps_set (i := 3) sc_l_drawn_row.nd rfl (Or.inr rfl) (pe_comp rfl (cscope (x := "_law_line") (zs := []) (ix := []) (defScope s_l_drawn_row) ["_law_script", "_law_many", "_law_lines_here", "_law_lying", "_law_row", "_law_cells", "_law_k", "_law_cell_here", "_law_some"] rfl rfl (by decide +kernel)) (pi_listK (K := K) rfl (pv 2)) (fun cl C s H fp => ⟨(pg_name (i := 0) (show (["_law_line"] : List Str).Nodup by decide +kernel) rfl (Or.inl rfl)), pif_nil, (pe_ix (ix_K (K := K) rfl) (pv 0) pe_int (fun _ _ => rfl))⟩)))
          (pss_cons (ps_set (i := 4) sc_l_drawn_row.nd rfl (Or.inl rfl) (pe_lst pa_nil))
          (pss_cons (ps_set (i := 5) sc_l_drawn_row.nd rfl (Or.inl rfl) (pe_slice (sl_K (K := K) rfl) (pv 0) (po_some pe_int) (po_some pe_int)))
          (pss_cons (ps_cut (ps_if (PW.pt (pw_and (pt_cmpR (op_eqK (K := K) rfl hu) (pe_op op_mod (pe_call G_l_mix hr rfl T.m_l_mix T.F_l_mix.kp T.b_l_mix .nil pass_on (pa_cons (pe_call G_l_cell hr rfl T.m_l_cell T.F_l_cell.kp T.b_l_cell .nil pass_on (pa_cons (pv 0) (pa_cons pe_int pa_nil))) (pa_cons pe_int pa_nil))) pe_int) pe_int (nomark _)) (pw_and (pt_cmpR op_lt (pv 1) pe_int (nomark _)) (pw_and1 (pt_cmpR op_lt (pe_callB (len_K (K := K) rfl) (by rfl) T.n_len PySem.boot_len (pa_cons (pv 2) pa_nil)) pe_int (nomark _)))))) (pss_one (ps_set (i := 5) sc_l_drawn_row.nd rfl (Or.inl rfl) (pe_op op_mulU (pv 5) pe_int))) pss_nil))
          (pss_cons (ps_for PassesOwn.leaving rfl (pi_enum (K := K) rfl rfl T.n_enumerate (pa_cons (pv 5) pa_nil)) (pg_tupK (K := K) (n := 2) rfl rfl (pgs_cons (pg_name (i := 6) sc_l_drawn_row.nd rfl (Or.inl rfl)) (pgs_cons (pg_name (i := 7) sc_l_drawn_row.nd rfl (Or.inl rfl)) pgs_nil))) (pss_cons (ps_comp (j := 8) rfl (cscope (x := "_law_work") (zs := ["_law_lines_here", "_law_lying"]) (ix := [2, 3]) (defScope s_l_drawn_row) ["_law_script", "_law_many", "_law_lines_here", "_law_lying", "_law_row", "_law_cells", "_law_k", "_law_cell_here", "_law_some"] rfl rfl (by decide +kernel)) (pi_range1 rfl T.n_range (pa_cons (pv 1) pa_nil)) (fun cl C s H fp => ⟨(pg_name (i := 0) (show (["_law_work", "_law_lines_here", "_law_lying"] : List Str).Nodup by decide +kernel) rfl (Or.inl rfl)), (pif_one (pt_truK (K := K) rfl (pe_call G_l_ready hr rfl T.m_l_ready T.F_l_ready.kp T.b_l_ready .nil passX0 (pa_cons (pv 1) (pa_cons (pv 2) (pa_cons pe_non (pa_cons (pv 0) pa_nil))))) (fun _ => rfl))), (pv 0)⟩) sc_l_drawn_row.nd rfl (Or.inl rfl))
          (pss_one (ps_if (pt_cmpR op_gt (pe_callB (len_K (K := K) rfl) (by rfl) T.n_len PySem.boot_len (pa_cons (pv 8) pa_nil)) pe_int (nomark _)) (pss_cons (ps_expr (pe_bmK (K := K) rfl PySem.F.plainAttrs_list PySem.F.slot_list_append PySem.F.type_list_append mt_append (pv 4) (pa_cons (pe_ix (ix_K (K := K) rfl) (pv 8) (pe_op op_mod (pe_call G_l_mix hr rfl T.m_l_mix T.F_l_mix.kp T.b_l_mix .nil pass_on (pa_cons (pv 7) (pa_cons (pv 6) pa_nil))) (pe_callB (len_K (K := K) rfl) (by rfl) T.n_len PySem.boot_len (pa_cons (pv 8) pa_nil))) (fun _ _ => rfl)) pa_nil)))
          (pss_one (ps_set (i := 3) sc_l_drawn_row.nd rfl (Or.inr rfl) (pe_call G_l_turn hr rfl T.m_l_turn T.F_l_turn.kp T.b_l_turn .nil pass_on (pa_cons (pv 2) (pa_cons (pv 3) (pa_cons (pe_ix (ix_K (K := K) rfl) (pv 4) (pe_un un_neg pe_int) (fun _ _ => rfl)) pa_nil))))))) pss_nil))))
          (pss_one (ps_ret (pe_tup (pa_cons (pv 4) (pa_cons (pv 3) pa_nil)))))))))), ?_⟩
    try dsimp only [L2.cxX, L2.cxOf, L2.cxComp]
    walk_at "rds"
    refine comp_walk (walks_lst (SqL.of hq)) (small1000 (by omega)) (fun _ => true) (fun i => .int ((ls.map B5.start).getD i 0)) (fun i H' Kc hi sm k => ?_) (fun i H' Kc hi _ sm k => ?_) (fun y0 H1 hy0 s1 hy1 => ?_)
    · walk_at "rds"
      exact k H' (Same.refl H')
    · have hil : i < ls.length := by omega
      obtain ⟨t, ht1, ht2⟩ := hT.at (List.getElem?_eq_getElem hil)
      have eb : bs.getD i .non = .ref t := by simp [List.getD, ht1]
      have ed : (ls.map B5.start).getD i 0 = ls[i].start := by simp [List.getD, hil]
      rw [eb]
      rw [ed] at k
      have ht3 := sm _ _ ht2
      generalize ls[i] = bb at *
      dsimp only [B5.v] at ht3
      walk_at "rds"
      exact k H' (Same.refl H')
    have hy2 : H1 y0 = some (.lst ((ls.map B5.start).map V.int)) := by
      rw [hy1, List.filter_eq_self.mpr (by simp), hbl]
      congr 2
      refine List.ext_getElem (by simp) fun i h1 h2 => ?_
      have : i < ls.length := by simpa using h1
      simp [List.getD, this]
    clear hy1
    have hS1 := s1.seq hS
    walk_at "rds"
    refine ⟨Nat.zero_le _, fun r hr => ?_⟩
    have s2 : Same H1 (upd H1 r (.lst [])) := same_new hr
    have hr2 : (upd H1 r (.lst [])) r = some (.lst (([] : List Int).map V.int)) := upd_same
    have hy3 := s2 _ _ hy2
    have nyr : y0 ≠ r := ne_of_none hy2 hr
    have hr0 : H r = none := same_none s1 hr
    generalize upd H1 r (.lst []) = H2 at *
    have hS2 := s2.seq hS1
    walk_at "rds"
    refine Rd.slL hS2 (fun c hc => ?_)
    obtain ⟨cs, ecs, hcl⟩ := cut_ints ns (some 13) (some 53)
    rw [ecs]
    have s3 : Same H2 (upd H2 c (.lst (cs.map V.int))) := same_new hc
    have hc3 : (upd H2 c (.lst (cs.map V.int))) c = some (.lst (cs.map V.int)) := upd_same
    have ncr : c ≠ r := (ne_of_none hr2 hc).symm
    have hr3 := s3 _ _ hr2
    have hy4 := s3 _ _ hy3
    generalize upd H2 c (.lst (cs.map V.int)) = H3 at *
    have s13 := (s1.trans s2).trans s3
    have hS3 := s13.seq hS
    have hq3 := s13 _ _ hq
    walk_at "rds"
    refine Rd.cut (fun σ' H' => ∃ (c' : Addr) (cs' : List Int), σ' = [some (.ref p), some (.int m), some (.ref qa), some (.ref y0), some (.ref r), some (.ref c'), none, none, none] ∧ Same H3 H' ∧ H' c' = some (.lst (cs'.map V.int)) ∧ cs'.length ≤ 600 ∧ c' ≠ r) ?k1 ?i1
    case i1 =>
      walk_at "rds"
      refine Rd.ifD (fun d1 => ?_) (fun d1 => ?_)
      · walk_at "rds"
        refine Rd.ifD (fun d2 => ?_) (fun d2 => ?_)
        · walk_at "rds"
          refine Rd.ifD (fun d3 => ?_) (fun d3 => ?_)
          · walk_at "rds"
            refine Rd.rep hc3 (by decide) (by decide) ?_ (fun c2 hc2 => ?_)
            · have : (8 : Int).toNat = 8 := rfl
              rw [this, List.length_map]
              exact Nat.le_of_lt (small1000 (by omega))
            rw [rep_ints]
            refine ⟨c2, (List.replicate (8 : Int).toNat cs).flatten, rfl, same_new hc2, upd_same, ?_, (ne_of_none hr3 hc2).symm⟩
            have : (8 : Int).toNat = 8 := rfl
            rw [this, len_rep]
            omega
          · walk_at "rds"
            exact ⟨c, cs, rfl, Same.refl _, hc3, by omega, ncr⟩
        · walk_at "rds"
          exact ⟨c, cs, rfl, Same.refl _, hc3, by omega, ncr⟩
      · walk_at "rds"
        exact ⟨c, cs, rfl, Same.refl _, hc3, by omega, ncr⟩
    case k1 =>
      rintro σ' H4 ⟨c2, ds, rfl, s4, hc4, hdl, nc2⟩
      have hr4 := s4 _ _ hr3
      have hy5 := s4 _ _ hy4
      have s14 := s13.trans s4
      clear hS1 hS2 hS3 hq3 hc3 hcl ecs hy2 hy3 hy4 hr2 hr3 s1 s2 s3 s13 hc ncr
      walk_at "rds"
      refine for_walkY (walks_enum (SqL.of (only_self (q := c2) (o := .lst (ds.map V.int))))) (fun i σ H' => ∃ (y : Addr) (ws hs : List Int) (a1 a2 a3 : Option V), σ = [some (.ref p), some (.int m), some (.ref qa), some (.ref y), some (.ref r), some (.ref c2), a1, a2, a3] ∧ Same H H' ∧ H' c2 = some (.lst (ds.map V.int)) ∧
        H' r = some (.lst (ws.map V.int)) ∧ H' y = some (.lst (hs.map V.int)) ∧ y ≠ r ∧ ws.length ≤ i ∧ goR m ls (ls.map B5.start) ws = .ok hs) ⟨y0, [], _, _, _, _, rfl, s14, hc4, hr4, hy5, nyr, Nat.le_refl _, rfl⟩ ?_ ?_ ?_
      · rintro i σ H' ⟨_, _, _, _, _, _, _, _, h, _⟩
        exact only_same h
      · rintro i σ H5 v H6 hi ⟨y, ws, hs, a1, a2, a3, rfl, s5, hc5, hr5, hy6, nyr', hwl, hgo⟩ ⟨t, ht, rfl, rfl⟩
        have hi' : i < ds.length := by simpa using hi
        have hlen : hs.length = ls.length := goR_len (by simp) hgo
        rw [ints_getD hi']
        refine Rd.gtup (.of upd_same) rfl ?_
        have s6 : Same H5 (upd H5 t (.tup [.int i, .int (ds.getD i 0)])) := same_new ht
        generalize upd H5 t (.tup [.int i, .int (ds.getD i 0)]) = H6 at *
        generalize ds.getD i 0 = cell at *
        have h56 := s5.trans s6
        have hq6 := h56 _ _ hq
        have hT6 : Tups H6 bs ls := hT.keep fun b xs e => h56 _ _ e
        have hy7 := s6 _ _ hy6
        have hr6 := s6 _ _ hr5
        have hc6 := s6 _ _ hc5
        walk_at "rds"
        refine comp_walk walks_rng (small1000 (by omega)) (fun j => readyL ls hs (0 + (j : Int))) (fun j => .int (0 + (j : Int))) (fun j H' Kc hj sm k => ?_) (fun j H' Kc hj hcj sm k => ?_) (fun so H7 hso s7 hso7 => ?_)
        · walk_at "rds"
          refine ⟨qa, y, .non, _, bs, ls, hs, rfl, .of (sm _ _ hq6), hT6.keep fun b xs e => sm _ _ e, .of (sm _ _ hy7), hlen, hz, .inl ⟨rfl, fun H' s => ?_⟩⟩
          walk_at "rds"
          exact k H' s
        · walk_at "rds"
          exact k H' (Same.refl H')
        generalize hsm : ((List.range m.toNat).filter fun j : Nat => readyL ls hs (0 + (j : Int))).map (fun j : Nat => 0 + (j : Int)) = som
        have hso8 : H7 so = some (.lst (som.map V.int)) := by rw [hso7, ← hsm, List.map_map]; rfl
        have hsome : ∀ x ∈ som, 0 ≤ x ∧ x < m ∧ readyL ls hs x = true := by
          intro x hx
          rw [← hsm] at hx
          obtain ⟨j, hj, rfl⟩ := List.mem_map.mp hx
          obtain ⟨j1, j2⟩ := List.mem_filter.mp hj
          have := List.mem_range.mp j1
          exact ⟨by omega, by omega, j2⟩
        clear hso7
        have s57 := h56.trans s7
        have hr7 := s7 _ _ hr6
        have hy8 := s7 _ _ hy7
        have hc7 := s7 _ _ hc6
        walk_at "rds"
        refine Rd.ifD (fun d => ?_) (fun d => ?_)
        · have lp : 0 < (som.map V.int).length := by omega
          have lpi : 0 < ((som.map V.int).length : Int) := by omega
          walk_at "rds"
          rename_i mr mr0 mr1
          have k1 : 0 ≤ mr % ((som.map V.int).length : Int) := Int.emod_nonneg _ (by omega)
          have k2 : mr % ((som.map V.int).length : Int) < ((som.map V.int).length : Int) := Int.emod_lt_of_pos _ lpi
          generalize mr % ((som.map V.int).length : Int) = ix at *
          rw [List.length_map] at k2
          have at1 := at_ints k1 k2
          have hm : som.getD ix.toNat 0 ∈ som := by
            rw [getD_of (show ix.toNat < som.length by omega)]; exact List.getElem_mem _
          obtain ⟨x0, x1, x2⟩ := hsome _ hm
          generalize som.getD ix.toNat 0 = x at *
          refine Rd.ixuL (.of hso8) at1 ?_
          have hwz : (ws.map V.int).length < sizeLine := small1000 (by rw [List.length_map]; omega)
          walk_at "rds"
          have hr8 : (upd H7 r (.lst (ws.map V.int ++ [.int x]))) r = some (.lst (ws.map V.int ++ [.int x])) := upd_same
          have hy9 : (upd H7 r (.lst (ws.map V.int ++ [.int x]))) y = some (.lst (hs.map V.int)) := by rw [upd_ne nyr']; exact hy8
          have hc8 : (upd H7 r (.lst (ws.map V.int ++ [.int x]))) c2 = some (.lst (ds.map V.int)) := by rw [upd_ne nc2]; exact hc7
          have s8 : Same H (upd H7 r (.lst (ws.map V.int ++ [.int x]))) := s57.new hr0
          generalize upd H7 r (.lst (ws.map V.int ++ [.int x])) = H8 at *
          have al : atI (ws.map V.int ++ [V.int x]) (-1) = some (.int x) := atI_last _ _
          walk_at "rds"
          refine ⟨qa, y, x, bs, ls, hs, rfl, .of (s8 _ _ hq), hT.keep fun b xs e => s8 _ _ e, .of hy9, hlen, hz, fun y2 H9 hy0' s9 hy' => ?_⟩
          have hr9 := s9 _ _ hr8
          refine ⟨y2, ws ++ [x], shiftL ls hs x, _, _, _, rfl, s8.trans s9, s9 _ _ hc8, by rw [hr9, List.map_append]; rfl, hy', (ne_of_none hr8 hy0').symm, by simp; omega, ?_⟩
          rw [goR_append hgo, goR_one, turn_ok x0 x1 x2]
        · walk_at "rds"
          exact ⟨y, ws, hs, _, _, _, rfl, s57, hc7, hr7, hy8, nyr', by omega, hgo⟩
      · rintro σ H5 ⟨y, ws, hs, a1, a2, a3, rfl, s5, hc5, hr5, hy6, nyr', hwl, hgo⟩
        rw [List.length_map] at hwl
        walk_at "rds"
        refine ⟨by show 2 ≤ sizeLine; decide, fun t ht => ?_⟩
        exact k r y t ws hs _ (s5.trans (same_new ht)) upd_same (same_new ht _ _ hr5) (same_new ht _ _ hy6) (by omega) hgo
end
def sp_peak_of {K : PySem.W.Frag} {mg : Str → Option Value} (T : Tp K mg) : Sp := fun vs H Q _ => ∃ (t r : Addr) (b : B5) (ws : List Int), vs = [.ref t, .ref r] ∧ H t = some (.tup b.v) ∧ SqL K H r (ws.map V.int) ∧ Q (.int (pkM ws b)) H
section
variable {P : Program} {w : World} {K : PySem.W.Frag} {mg : Str → Option Value} {base : Heap}
theorem ok_peak_of (T : Tp K mg) : FnOk P w K mg base (CXX P w) 1 T.f_peak_of T.d_peak_of ["row", "works"] (sp_peak_of T) := by
  refine T.F_peak_of.okX sc_peak_of (fun vs H Q E h => ?_) (fun cdv A outer s H vs Q E hr h => ?_)
  · obtain ⟨t, r, b, ws, rfl, _⟩ := h
    rfl
  · have hu := hr.units
    obtain ⟨t, r, b, ws, rfl, ht, hr, q⟩ := h
    dsimp only [B5.v] at ht
    refine ⟨_, (pss_cons (ps_set (i := 2) sc_peak_of.nd rfl (Or.inl rfl) (pe_ix (ix_K (K := K) rfl) (pv 0) pe_int (fun _ _ => rfl)))
          (pss_cons (ps_set (i := 3) sc_peak_of.nd rfl (Or.inl rfl) (pe_ix (ix_K (K := K) rfl) (pv 0) pe_int (fun _ _ => rfl)))
          (pss_cons (ps_for PassesOwn.leaving rfl (pi_listK (K := K) rfl (pv 1)) (pg_name (i := 4) sc_peak_of.nd rfl (Or.inl rfl)) (pss_cons (ps_cut (ps_if (pt_cmpR (op_eqK (K := K) rfl hu) (pv 4) (pe_ix (ix_K (K := K) rfl) (pv 0) pe_int (fun _ _ => rfl)) (nomark _)) (pss_cons (ps_set (i := 2) sc_peak_of.nd rfl (Or.inl rfl) (pe_callB (call_max2 rfl) (by rfl) T.n_max PyProof.Rows.boot_max (pa_cons (pv 2) (pa_cons (pe_op (op_addK (K := K) rfl) (pv 3) (pe_ix (ix_K (K := K) rfl) (pv 0) pe_int (fun _ _ => rfl))) pa_nil))))
          (pss_one (ps_aug (i := 3) sc_peak_of.nd rfl (Or.inl rfl) (pe_ix (ix_K (K := K) rfl) (pv 0) pe_int (fun _ _ => rfl)) ip_add))) pss_nil))
          (pss_one (ps_if (pt_cmpR (op_eqK (K := K) rfl hu) (pv 4) (pe_ix (ix_K (K := K) rfl) (pv 0) pe_int (fun _ _ => rfl)) (nomark _)) (pss_one (ps_aug (i := 3) sc_peak_of.nd rfl (Or.inl rfl) (pe_ix (ix_K (K := K) rfl) (pv 0) pe_int (fun _ _ => rfl)) ip_sub)) pss_nil))))
          (pss_one (ps_ret (pv 2)))))), ?_⟩
    try dsimp only [L2.cxX, L2.cxOf, L2.cxComp]
    walk_at "rds"
    refine for_walk (walks_lst hr) (fun i σ H' => H' = H ∧ ∃ a1 : Option V, σ = [some (.ref t), some (.ref r), some (.int (pkAll b (ws.take i)).1), some (.int (pkAll b (ws.take i)).2), a1]) ⟨rfl, _, rfl⟩ (fun i σ H' h => h.1 ▸ Same.refl H) ?_ ?_
    · rintro i σ H' hi ⟨rfl, a1, rfl⟩
      have hi' : i < ws.length := by simpa using hi
      rw [ints_getD hi', getD_of hi', pk_take hi']
      generalize pkAll b (ws.take i) = s at *
      generalize ws[i] = w at *
      walk_at "rds"
      refine Rd.cut (fun σ' H3 => H3 = H' ∧ σ' = [some (.ref t), some (.ref r), some (.int (pkStep b s w).1), some (.int (s.2 + (if w = b.giver then b.give else 0))), some (.int w)]) ?k2 ?i2
      case i2 =>
        walk_at "rds"
        refine Rd.ifD (fun d => ?_) (fun d => ?_)
        · walk_at "rds"
          refine ⟨_, rfl, ?_⟩
          walk_at "rds"
          refine ⟨rfl, ?_⟩
          unfold pkStep
          rw [if_pos d, if_pos d]
          rfl
        · walk_at "rds"
          refine ⟨rfl, ?_⟩
          unfold pkStep
          rw [if_neg d, if_neg d, Int.add_zero]
      case k2 =>
        rintro σ' H3 ⟨rfl, rfl⟩
        walk_at "rds"
        refine Rd.ifD (fun d => ?_) (fun d => ?_)
        · walk_at "rds"
          refine ⟨_, rfl, ?_⟩
          walk_at "rds"
          refine ⟨rfl, some (.int w), ?_⟩
          have e : (pkStep b s w).2 = s.2 + (if w = b.giver then b.give else 0) - b.take := by unfold pkStep; rw [if_pos d]
          rw [e]
          rfl
        · walk_at "rds"
          refine ⟨rfl, some (.int w), ?_⟩
          have e : (pkStep b s w).2 = s.2 + (if w = b.giver then b.give else 0) := by unfold pkStep; rw [if_neg d, Int.sub_zero]
          rw [e]
    · rintro σ H' ⟨rfl, a1, rfl⟩
      rw [List.length_map, List.take_length]
      walk_at "rds"
      exact q
end
def sp_enough {K : PySem.W.Frag} {mg : Str → Option Value} (T : Tp K mg) : Sp := fun vs H Q _ => ∃ (a b : Addr) (hs : List Int) (l : List (Int × Int)) (xs : List V), vs = [.ref a, .ref b] ∧ SqL K H a (hs.map V.int) ∧ SqL K H b xs ∧ Pairs H l xs ∧ (∀ x ∈ l, 0 ≤ x.1 ∧ x.1 < hs.length) ∧ l.length ≤ 1000 ∧ ∀ H', Same H H' → Q (.bl (enoughL hs l)) H'
section
variable {P : Program} {w : World} {K : PySem.W.Frag} {mg : Str → Option Value} {base : Heap}
theorem ok_enough (T : Tp K mg) : FnOk P w K mg base (CXX P w) 1 T.f_enough T.d_enough ["heaps", "takes"] (sp_enough T) := by
  refine T.F_enough.okX sc_enough (fun vs H Q E h => ?_) (fun cdv A outer s H vs Q E hr h => ?_)
  · obtain ⟨a, b, hs, l, xs, rfl, _⟩ := h
    rfl
  · have hu := hr.units
    obtain ⟨a, b, hs, l, xs, rfl, ha, hb, hp, hr, hz, q⟩ := h
    have hxl : l.length = xs.length := Paired.length hp
    refine ⟨_, (pss_one (ps_ret (pe_callB (all_K (K := K) rfl rfl) (by rfl) T.n_all PyProof.Rows.boot_all (pa_cons (pe_compN (xs := ["belt", "take"]) rfl (cscope (x := "belt") (zs := ["heaps"]) (ix := [0]) (defScope s_enough) ["heaps", "takes"] rfl rfl (by decide +kernel)) (pi_listK (K := K) rfl (pv 1)) (fun cl C s H fp => ⟨(pg_tupK (K := K) (n := 2) rfl rfl (pgs_cons (pg_name (i := 0) (show (["belt", "take", "heaps"] : List Str).Nodup by decide +kernel) rfl (Or.inl rfl)) (pgs_cons (pg_name (i := 1) (show (["belt", "take", "heaps"] : List Str).Nodup by decide +kernel) rfl (Or.inl rfl)) pgs_nil))), pif_nil, (pe_cmpR op_ge (pe_ix (ix_K (K := K) rfl) (pv 2) (pv 0) (fun _ _ => rfl)) (pv 1) (nomark _))⟩)) pa_nil)))), ?_⟩
    try dsimp only [L2.cxX, L2.cxOf, L2.cxComp]
    walk_at "rds"
    refine compN_walk (own := 2) (walks_lst hb).y (small1000 (by omega)) (fun i => [some (.int (l.getD i (0, 0)).1), some (.int (l.getD i (0, 0)).2)]) (fun _ => rfl) (fun _ => true) (fun i v _ => v = .bl (decide ((l.getD i (0, 0)).2 ≤ hs.getD (l.getD i (0, 0)).1.toNat 0))) (fun _ _ _ _ _ z => z) (fun i a' H' v H2 Kg hi sm y ha' k => ?_) (fun i H' Kc hi sm k => ?_) (fun pp i H' Kc hi hc hp0 hp1 sm k => ?_) (fun r H' ys hr' sm hl' hR => ?_)
    · obtain ⟨rfl, rfl⟩ := y
      obtain ⟨x1, x2, rfl⟩ : ∃ x1 x2, a' = [x1, x2] := by
        match a', ha' with
        | [x1, x2], _ => exact ⟨x1, x2, rfl⟩
      obtain ⟨v, hv, t, rfl, ht⟩ := Paired.get hp (List.getElem?_eq_getElem (show i < l.length by omega))
      have eb : xs.getD i .non = .ref t := by simp [List.getD, hv]
      have el : l.getD i (0, 0) = l[i] := by simp [List.getD, show i < l.length by omega]
      rw [eb]
      rw [el] at k
      refine Rd.gtup (.of (sm _ _ ht)) rfl ?_
      walk_at "rds"
      exact k _ (Same.refl _)
    · walk_at "rds"
      exact k H' (Same.refl H')
    · have el : l.getD i (0, 0) = l[i] := by simp [List.getD, show i < l.length by omega]
      obtain ⟨r0, r1⟩ := hr _ (List.getElem_mem (show i < l.length by omega))
      rw [el] at k ⊢
      generalize l[i] = x at *
      have hs' := sm.seq ha
      have at1 := at_ints r0 r1
      walk_at "rds"
      exact k _ H' (Same.refl H') rfl
    · have e : ys = (l.map fun x => decide (x.2 ≤ hs.getD x.1.toNat 0)).map V.bl := by
        rw [paired_map (R := fun i v _ => v = V.bl (decide ((l.getD i (0, 0)).2 ≤ hs.getD (l.getD i (0, 0)).1.toNat 0))) (H := H') (r := fun i => V.bl (decide ((l.getD i (0, 0)).2 ≤ hs.getD (l.getD i (0, 0)).1.toNat 0))) (fun _ _ z => z) hR, List.filter_eq_self.mpr (by simp), ← hxl]
        refine List.ext_getElem (by simp) fun i h1 h2 => ?_
        have hi : i < l.length := by simpa using h1
        have el : l.getD i (0, 0) = l[i] := by simp [List.getD, hi]
        rw [List.getElem_map, List.getElem_map, List.getElem_map, List.getElem_range, el]
      rw [e] at hl'
      walk_at "rds"
      have e2 : (l.map fun x => decide (x.2 ≤ hs.getD x.1.toNat 0)).all id = enoughL hs l := by rw [List.all_map]; rfl
      rw [e2]
      exact q H' sm
end
def sp_Floor_need_work {K : PySem.W.Frag} {mg : Str → Option Value} (T : Tp K mg) : Sp := fun vs H Q E => ∃ (p : Addr) (w : Int) (fl : FM) (fp : List Addr), vs = [.ref p, .int w] ∧ FloorAt T H p fl fp ∧
  (¬ (0 ≤ w ∧ w < fl.many) → E (.ref T.X_NoWork) none H) ∧ (0 ≤ w → w < fl.many → Q .non H)
section
variable {P : Program} {w : World} {K : PySem.W.Frag} {mg : Str → Option Value} {base : Heap}
theorem ok_Floor_need_work (T : Tp K mg) : FnOk P w K mg base (CXX P w) 4 T.f_Floor_need_work T.d_Floor_need_work ["self", "work"] (sp_Floor_need_work T) := by
  have G_is_number_below : FnOk P w K mg base (CXX P w) 3 T.f_is_number_below T.d_is_number_below ["thing", "bound"] (sp_is_number_below T) := (ok_is_number_below T).mono (by decide)
  have cl_Floor := T.cl_Floor
  have na_Floor := T.na_Floor
  refine T.F_Floor_need_work.okX sc_Floor_need_work (fun vs H Q E h => ?_) (fun cdv A outer s H vs Q E hr h => ?_)
  · obtain ⟨p, w, fl, fp, rfl, _⟩ := h
    rfl
  · have hu := hr.units
    obtain ⟨p, w, fl, fp, rfl, hf, e1, q⟩ := h
    obtain ⟨dx, a, b, c, ia, ib, rfl, h1, h2, h3, h4, h5, h6, h7, h8, h9⟩ := id hf
    refine ⟨_, (pss_one (ps_if (pt_not (pt_truK (K := K) rfl (pe_call G_is_number_below hr rfl T.m_is_number_below T.F_is_number_below.kp T.b_is_number_below .nil pass_on (pa_cons (pv 1) (pa_cons (pe_callB (len_K (K := K) rfl) (by rfl) T.n_len PySem.boot_len (pa_cons (pe_fldK (K := K) rfl (pv 0) rfl) pa_nil)) pa_nil))) (fun _ => rfl))) (pss_one (ps_raiseK T.gx_NoWork T.ex_NoWork PySem.F.excBase_ValueError rfl (pa_cons pe_str pa_nil))) pss_nil)), ?_⟩
    try dsimp only [L2.cxX, L2.cxOf, L2.cxComp]
    walk_at "rds"
    have el : ((ia.map V.ref).length : Int) = fl.many := by
      rw [List.length_map, h6.len]
      unfold takesL
      simp only [List.length_map, List.length_range]
      omega
    rw [el]
    by_cases c : 0 ≤ w ∧ w < fl.many
    · rw [decide_eq_true c]
      walk_at "rds"
      exact q c.1 c.2
    · rw [decide_eq_false c]
      walk_at "rds"
      exact e1 c
end
def sp_Floor_go {K : PySem.W.Frag} {mg : Str → Option Value} (T : Tp K mg) : Sp := fun vs H Q E => ∃ (p q : Addr) (ws : List Int) (fl : FM) (fp : List Addr), vs = [.ref p, .ref q] ∧ FloorAt T H p fl fp ∧ SqL K H q (ws.map V.int) ∧ fl.rows.length ≤ 1000 ∧
  (goR fl.many fl.rows fl.heaps ws = .error true → ∀ H', Same H H' → E (.ref T.X_NoWork) none H') ∧ (goR fl.many fl.rows fl.heaps ws = .error false → ∀ H', Same H H' → E (.ref T.X_Empty) none H') ∧
  (∀ hs, goR fl.many fl.rows fl.heaps ws = .ok hs → ∀ (H' : Hp) (fp' : List Addr), FloorAt T H' p ⟨fl.many, fl.rows, hs⟩ fp' → Frame fp H H' → Grows fp fp' H → Q .non H')
theorem bump_step {f : Nat → Int} {hs : List Int} {is : List Nat} {i : Nat} (h : i < is.length) : bump f hs (is.take (i + 1)) = (bump f hs (is.take i)).set is[i] ((bump f hs (is.take i)).getD is[i] 0 + f is[i]) := by
  unfold bump
  rw [List.take_succ_eq_append_getElem h, List.foldl_append]
  rfl
theorem row_at {js : List Nat} {f : Nat → Int} {H : Hp} {vs : List V} {i : Nat} (h : Pairs H (js.map fun i : Nat => ((i : Int), f i)) vs) (hi : i < js.length) : ∃ t, vs.getD i .non = .ref t ∧ H t = some (.tup [.int (js[i] : Nat), .int (f js[i])]) := by
  obtain ⟨v, hv, t, rfl, ht⟩ := Paired.get h (i := i) (x := ((js[i] : Int), f js[i])) (by rw [List.getElem?_map, List.getElem?_eq_getElem hi]; rfl)
  exact ⟨t, by simp [List.getD, hv], ht⟩
section
variable {P : Program} {w : World} {K : PySem.W.Frag} {mg : Str → Option Value} {base : Heap}
theorem ok_Floor_go (T : Tp K mg) : FnOk P w K mg base (CXX P w) 5 T.f_Floor_go T.d_Floor_go ["self", "row"] (sp_Floor_go T) := by
  have G_enough : FnOk P w K mg base (CXX P w) 4 T.f_enough T.d_enough ["heaps", "takes"] (sp_enough T) := (ok_enough T).mono (by decide)
  have G_Floor_need_work : FnOk P w K mg base (CXX P w) 4 T.f_Floor_need_work T.d_Floor_need_work ["self", "work"] (sp_Floor_need_work T) := (ok_Floor_need_work T).mono (by decide)
  have cl_Floor := T.cl_Floor
  have na_Floor := T.na_Floor
  refine T.F_Floor_go.okX sc_Floor_go (fun vs H Q E h => ?_) (fun cdv A outer s H vs Q E hr h => ?_)
  · obtain ⟨p, q, ws, fl, fp, rfl, _⟩ := h
    rfl
  · have hu := hr.units
    obtain ⟨p, qa, ws, fl, fp, rfl, hf, hq, hz, e1, e2, q⟩ := h
    obtain ⟨dx, a, b, c, ia, ib, rfl, h1, h2, h3, h4, h5, h6, h7, h8, h9⟩ := id hf
    refine ⟨_, (pss_cons (ps_set (i := 2) sc_Floor_go.nd rfl (Or.inl rfl) (pe_callTy (listOf_K (K := K) rfl) (by rfl) T.n_list PyProof.Rows.boot_list (pa_cons (pe_fldK (K := K) rfl (pv 0) rfl) pa_nil)))
          (pss_cons (ps_for PassesOwn.leaving rfl (pi_listK (K := K) rfl (pv 1)) (pg_name (i := 3) sc_Floor_go.nd rfl (Or.inl rfl)) (pss_cons (ps_expr (pe_meth (pv 0) T.cl_Floor T.M_Floor_need_work G_Floor_need_work hr T.b_Floor_need_work .nil pass_on (pa_cons (pv 3) pa_nil)))
          (pss_cons (ps_if (pt_not (pt_truK (K := K) rfl (pe_call G_enough hr rfl T.m_enough T.F_enough.kp T.b_enough .nil pass_on (pa_cons (pv 2) (pa_cons (pe_ix (ix_K (K := K) rfl) (pe_fldK (K := K) rfl (pv 0) rfl) (pv 3) (fun _ _ => rfl)) pa_nil))) (fun _ => rfl))) (pss_one (ps_raiseK T.gx_Empty T.ex_Empty PySem.F.excBase_ValueError rfl (pa_cons pe_str pa_nil))) pss_nil)
          (pss_cons (ps_for PassesOwn.leaving rfl (pi_listK (K := K) rfl (pe_ix (ix_K (K := K) rfl) (pe_fldK (K := K) rfl (pv 0) rfl) (pv 3) (fun _ _ => rfl))) (pg_tupK (K := K) (n := 2) rfl rfl (pgs_cons (pg_name (i := 4) sc_Floor_go.nd rfl (Or.inl rfl)) (pgs_cons (pg_name (i := 5) sc_Floor_go.nd rfl (Or.inl rfl)) pgs_nil))) (pss_one (ps_augS (pv 2) (pv 4) (get_listK (K := K) rfl) (pv 5) ip_sub set_list)))
          (pss_one (ps_for PassesOwn.leaving rfl (pi_listK (K := K) rfl (pe_ix (ix_K (K := K) rfl) (pe_fldK (K := K) rfl (pv 0) rfl) (pv 3) (fun _ _ => rfl))) (pg_tupK (K := K) (n := 2) rfl rfl (pgs_cons (pg_name (i := 4) sc_Floor_go.nd rfl (Or.inl rfl)) (pgs_cons (pg_name (i := 6) sc_Floor_go.nd rfl (Or.inl rfl)) pgs_nil))) (pss_one (ps_augS (pv 2) (pv 4) (get_listK (K := K) rfl) (pv 6) ip_add set_list))))))))
          (pss_one (ps_fldK (K := K) rfl (pv 0) (pv 2) rfl)))), ?_⟩
    try dsimp only [L2.cxX, L2.cxOf, L2.cxComp]
    walk_at "rds"
    refine Rd.listOfL (.of h5) (fun r hr => ?_)
    have s1 : Same H (upd H r (.lst (fl.heaps.map V.int))) := same_new hr
    have hr1 : (upd H r (.lst (fl.heaps.map V.int))) r = some (.lst (fl.heaps.map V.int)) := upd_same
    generalize upd H r (.lst (fl.heaps.map V.int)) = H1 at *
    have hq1 := s1.seq hq
    walk_at "rds"
    refine for_walk (walks_lst hq) (fun i σ H' => Same H H' ∧ (∃ a1 a2 a3 a4, σ = [some (.ref p), some (.ref qa), some (.ref r), a1, a2, a3, a4]) ∧ ∃ hs, goR fl.many fl.rows fl.heaps (ws.take i) = .ok hs ∧ H' r = some (.lst (hs.map V.int))) ⟨s1, ⟨_, _, _, _, rfl⟩, fl.heaps, rfl, hr1⟩ (fun i σ H' h => h.1) ?_ ?_
    · rintro i σ H2 hi ⟨s2, ⟨a1, a2, a3, a4, rfl⟩, hs, hg, hr2⟩
      have hiw : i < ws.length := by simpa using hi
      have ew := List.getElem?_eq_getElem hiw
      have ev : (ws.map V.int).getD i .non = .int ws[i] := by simp [List.getD, hiw]
      rw [ev]
      have hgs := goR_step hg ew
      have hst := fun b => goR_stop (b := b) hg ew
      generalize ws[i] = w at *
      have hf2 := hf.same s2
      have hlen : hs.length = fl.rows.length := goR_len h8 hg
      walk_at "rds"
      refine ⟨p, w, fl, _, rfl, hf2, fun z => e1 (hst true (by unfold turnR; rw [if_neg z])) H2 s2, fun w0 w1 => ?_⟩
      have g1 := s2 _ _ h1
      have g3 := s2 _ _ h3
      have g4 := s2 _ _ h4
      obtain ⟨x, vs, at1, hx, hpx⟩ := h6.at w0 (takesL_at w0 w1)
      obtain ⟨y, vs', at2, hy, hpy⟩ := h7.at w0 (givesL_at w0 w1)
      have gx := s2 _ _ hx
      have gy := s2 _ _ hy
      have tl := takeRow_len (ls := fl.rows) (w := w)
      walk_at "rds"
      refine ⟨r, x, hs, takeRow fl.rows w, vs, rfl, .of hr2, .of gx, hpx.keep fun _ _ z => s2 _ _ z, takeRow_rg hlen, by omega, fun H3 s3 => ?_⟩
      rw [enoughL_eq hlen]
      cases hrd : readyL fl.rows hs w with
      | false =>
        walk_at "rds"
        exact e2 (hst false (by unfold turnR; rw [if_pos ⟨w0, w1⟩, hrd]; rfl)) H3 (s2.trans s3)
      | true =>
        have hok : goR fl.many fl.rows fl.heaps (ws.take (i + 1)) = .ok (shiftL fl.rows hs w) := by
          rw [hgs]; unfold turnR; rw [if_pos ⟨w0, w1⟩, hrd, if_pos rfl]
        have s13 := s2.trans s3
        have k1 := s13 _ _ h1
        have k3 := s13 _ _ h3
        have kx := s13 _ _ hx
        have hr3 := s3 _ _ hr2
        have nxr : x ≠ r := ne_of_none hx hr
        have nyr : y ≠ r := ne_of_none hy hr
        have vl : vs.length = (enterL fl.rows w).length := by rw [← Paired.length hpx]; unfold takeRow; simp
        have vl' : vs'.length = (leaveL fl.rows w).length := by rw [← Paired.length hpy]; unfold giveRow; simp
        walk_at "rds"
        refine for_walk (walks_lst (SqL.of hx)) (fun j σ H' => Same H H' ∧ (∃ a2 a3 a4, σ = [some (.ref p), some (.ref qa), some (.ref r), some (.int w), a2, a3, a4]) ∧ H' r = some (.lst ((bump (fun i => - (fl.rows.getD i dB).take) hs ((enterL fl.rows w).take j)).map V.int))) ⟨s13, ⟨_, _, _, rfl⟩, hr3⟩ (fun i σ H' h => h.1) ?_ ?_
        · rintro j σ H4 hj ⟨s4, ⟨a2, a3, a4, rfl⟩, hr4⟩
          have hj' : j < (enterL fl.rows w).length := by omega
          obtain ⟨t, ht1, ht2⟩ := row_at hpx hj'
          have hlt := enterL_lt (List.getElem_mem hj')
          have bs' := bump_step (f := fun i => - (fl.rows.getD i dB).take) (hs := hs) hj'
          rw [ht1]
          refine Rd.gtup (.of (s4 _ _ ht2)) rfl ?_
          generalize (enterL fl.rows w)[j] = m at *
          have bl := bump_len (fun i => - (fl.rows.getD i dB).take) ((enterL fl.rows w).take j) hs
          generalize bump (fun i => - (fl.rows.getD i dB).take) hs ((enterL fl.rows w).take j) = us at *
          have at3 := at_ints (ns := us) (k := (m : Int)) (Int.natCast_nonneg m) (by omega)
          have ml : (m : Int) < ((us.map V.int).length : Int) := by simp; omega
          walk_at "rds"
          refine ⟨s4.new hr, ⟨_, _, _, rfl⟩, ?_⟩
          rw [upd_same, bs', List.map_set]
          rfl
        · rintro σ H4 ⟨s4, ⟨a2, a3, a4, rfl⟩, hr4⟩
          have m1 := s4 _ _ h1
          have m4 := s4 _ _ h4
          have my := s4 _ _ hy
          rw [vl, List.take_length] at hr4
          walk_at "rds"
          have bl := bump_len (fun i => - (fl.rows.getD i dB).take) (enterL fl.rows w) hs
          refine for_walk (walks_lst (SqL.of hy)) (fun j σ H' => Same H H' ∧ (∃ a2 a3 a4, σ = [some (.ref p), some (.ref qa), some (.ref r), some (.int w), a2, a3, a4]) ∧ H' r = some (.lst ((bump (fun i => (fl.rows.getD i dB).give) (bump (fun i => - (fl.rows.getD i dB).take) hs (enterL fl.rows w)) ((leaveL fl.rows w).take j)).map V.int))) ⟨s4, ⟨_, _, _, rfl⟩, hr4⟩ (fun i σ H' h => h.1) ?_ ?_
          · rintro j σ H5 hj ⟨s5, ⟨a2, a3, a4, rfl⟩, hr5⟩
            have hj' : j < (leaveL fl.rows w).length := by omega
            obtain ⟨t, ht1, ht2⟩ := row_at hpy hj'
            have hlt := leaveL_lt (List.getElem_mem hj')
            have bs' := bump_step (f := fun i => (fl.rows.getD i dB).give) (hs := bump (fun i => - (fl.rows.getD i dB).take) hs (enterL fl.rows w)) hj'
            rw [ht1]
            refine Rd.gtup (.of (s5 _ _ ht2)) rfl ?_
            generalize (leaveL fl.rows w)[j] = m at *
            have bl2 := bump_len (fun i => (fl.rows.getD i dB).give) ((leaveL fl.rows w).take j) (bump (fun i => - (fl.rows.getD i dB).take) hs (enterL fl.rows w))
            generalize bump (fun i => (fl.rows.getD i dB).give) (bump (fun i => - (fl.rows.getD i dB).take) hs (enterL fl.rows w)) ((leaveL fl.rows w).take j) = us at *
            have at3 := at_ints (ns := us) (k := (m : Int)) (Int.natCast_nonneg m) (by omega)
            have ml : (m : Int) < ((us.map V.int).length : Int) := by simp; omega
            walk_at "rds"
            refine ⟨s5.new hr, ⟨_, _, _, rfl⟩, ?_⟩
            rw [upd_same, bs', List.map_set]
            rfl
          · rintro σ H5 ⟨s5, ⟨a2, a3, a4, rfl⟩, hr5⟩
            rw [vl', List.take_length, shift_bump hlen] at hr5
            walk_at "rds"
            exact ⟨s5, ⟨_, _, _, _, rfl⟩, _, hok, hr5⟩
    · rintro σ H2 ⟨s2, ⟨a1, a2, a3, a4, rfl⟩, hs, hg, hr2⟩
      rw [List.length_map, List.take_length] at hg
      have g1 := s2 _ _ h1
      have npr : p ≠ r := ne_of_none h1 hr
      walk_at "rds"
      have f3 : Frame [p] H2 (upd H2 p (.ins T.C_Floor dx [("takes", .ref a), ("gives", .ref b), ("heaps", .ref r)])) := frame_upd (by simp) g1 (by intro _ z; cases z)
      have kk : ∀ x, x ≠ p → H x ≠ none → (upd H2 p (.ins T.C_Floor dx [("takes", .ref a), ("gives", .ref b), ("heaps", .ref r)])) x = H x := fun x n d => by
        rw [upd_ne n]
        cases e : H x with
        | none => exact absurd e d
        | some o => exact s2 _ _ e
      have tt : ∀ b' xs, H b' = some (.tup xs) → (upd H2 p (.ins T.C_Floor dx [("takes", .ref a), ("gives", .ref b), ("heaps", .ref r)])) b' = some (.tup xs) := fun b' xs z => f3.tups _ _ (s2 _ _ z)
      have nl : ∀ {ls : List (List (Int × Int))} {is : List Addr}, LL H ls is → ∀ x ∈ is, x ≠ p := fun {ls is} l x hx z => by
        obtain ⟨i, hi, rfl⟩ := List.getElem_of_mem hx
        have hi2 : i < ls.length := by rw [← l.len]; exact hi
        obtain ⟨y, e3, vs, e4, _⟩ := Paired.get l (List.getElem?_eq_getElem hi2)
        rw [List.getElem?_eq_getElem hi] at e3
        cases e3
        rw [z, h1] at e4
        cases e4
      have fp1 : Frame (p :: dx :: a :: b :: c :: (ia ++ ib)) H (upd H2 p (.ins T.C_Floor dx [("takes", .ref a), ("gives", .ref b), ("heaps", .ref r)])) := s2.frame.trans (f3.mono (by simp))
      refine q hs hg _ (p :: dx :: a :: b :: r :: (ia ++ ib)) ⟨dx, a, b, r, ia, ib, rfl, upd_same, ?_, ?_, ?_, ?_, h6.keep tt (fun x hx => kk x (nl h6 x hx) (h6.dom x hx)), h7.keep tt (fun x hx => kk x (nl h7 x hx) (h7.dom x hx)), goR_len h8 hg, h9⟩ fp1 (fun x hx => ?_)
      · exact (kk _ (ne_of h2 h1 (by intro z; cases z)) (by rw [h2]; simp)).trans h2
      · exact (kk _ (ne_of h3 h1 (by intro z; cases z)) (by rw [h3]; simp)).trans h3
      · exact (kk _ (ne_of h4 h1 (by intro z; cases z)) (by rw [h4]; simp)).trans h4
      · rw [upd_ne npr.symm]; exact hr2
      · simp only [List.mem_cons, List.mem_append] at hx ⊢
        rcases hx with rfl | rfl | rfl | rfl | rfl | hx | hx
        · exact .inl (.inl rfl)
        · exact .inl (.inr (.inl rfl))
        · exact .inl (.inr (.inr (.inl rfl)))
        · exact .inl (.inr (.inr (.inr (.inl rfl))))
        · exact .inr hr
        · exact .inl (.inr (.inr (.inr (.inr (.inr (.inl hx))))))
        · exact .inl (.inr (.inr (.inr (.inr (.inr (.inr hx))))))
end
def sp_Hall_belts {K : PySem.W.Frag} {mg : Str → Option Value} (T : Tp K mg) : Sp := fun vs H Q _ => ∃ (p : Addr) (hl : HM) (fp : List Addr), vs = [.ref p] ∧ HallAt T H p hl fp ∧
  ∀ (q : Addr) (H' : Hp) (bs : List V), H q = none → Same H H' → H' q = some (.lst bs) → Tups H' bs hl.belts → Q (.ref q) H'
theorem rd_Hall_belts {K : PySem.W.Frag} {mg : Str → Option Value} {T : Tp K mg} {H : Hp} {Q : VK} {E : XK} {p : Addr} {hl : HM} {fp : List Addr} (h : HallAt T H p hl fp)
    (q : ∀ (q : Addr) (H' : Hp) (bs : List V), H q = none → Same H H' → H' q = some (.lst bs) → Tups H' bs hl.belts → Q (.ref q) H') : sp_Hall_belts T (.ref p :: ([] ++ [])) H Q E := ⟨p, hl, fp, rfl, h, q⟩
local macro_rules | `(tactic| walk_at "rd") => `(tactic| first | with_reducible refine Nm.rd_Hall_belts (by with_reducible assumption) ?_ | fail "none here")
section
variable {P : Program} {w : World} {K : PySem.W.Frag} {mg : Str → Option Value} {base : Heap}
theorem ok_Hall_belts (T : Tp K mg) : FnOk P w K mg base (CXX P w) 1 T.f_Hall_belts T.d_Hall_belts ["self"] (sp_Hall_belts T) := by
  have cl_Hall := T.cl_Hall
  have na_Hall := T.na_Hall
  refine T.F_Hall_belts.okX sc_Hall_belts (fun vs H Q E h => ?_) (fun cdv A outer s H vs Q E hr h => ?_)
  · obtain ⟨p, hl, fp, rfl, _⟩ := h
    rfl
  · have hu := hr.units
    obtain ⟨p, hl, fp, rfl, hh, q⟩ := h
    obtain ⟨dx, a, b, bs, rfl, h1, h2, h3, h4, nab, h6⟩ := id hh
    refine ⟨_, (pss_one (ps_ret (pe_callTy (listOf_K (K := K) rfl) (by rfl) T.n_list PyProof.Rows.boot_list (pa_cons (pe_fldK (K := K) rfl (pv 0) rfl) pa_nil)))), ?_⟩
    try dsimp only [L2.cxX, L2.cxOf, L2.cxComp]
    walk_at "rds"
    refine Rd.listOfL (.of h4) (fun l hl' => ?_)
    exact q l _ bs hl' (same_new hl') upd_same (h6.keep ((same_new hl').frame (A := [])).tups)
end
def sp_Hall_entering {K : PySem.W.Frag} {mg : Str → Option Value} (T : Tp K mg) : Sp := fun vs H Q E => ∃ (p : Addr) (w : Int) (hl : HM) (fp : List Addr), vs = [.ref p, .int w] ∧ HallAt T H p hl fp ∧ hl.belts.length ≤ 1000 ∧
  (¬ (0 ≤ w ∧ w < hl.names.length) → E (.ref T.X_NoWork) none H) ∧ (0 ≤ w → w < hl.names.length → ∀ r H', H r = none → Same H H' → H' r = some (.lst ((enterL hl.belts w).map fun i : Nat => V.int i)) → Q (.ref r) H')
section
variable {P : Program} {w : World} {K : PySem.W.Frag} {mg : Str → Option Value} {base : Heap}
theorem ok_Hall_entering (T : Tp K mg) : FnOk P w K mg base (CXX P w) 5 T.f_Hall_entering T.d_Hall_entering ["self", "work"] (sp_Hall_entering T) := by
  have G_Hall_need_work : FnOk P w K mg base (CXX P w) 4 T.f_Hall_need_work T.d_Hall_need_work ["self", "work"] (sp_Hall_need_work T) := (ok_Hall_need_work T).mono (by decide)
  have cl_Hall := T.cl_Hall
  have na_Hall := T.na_Hall
  refine T.F_Hall_entering.okX sc_Hall_entering (fun vs H Q E h => ?_) (fun cdv A outer s H vs Q E hr h => ?_)
  · obtain ⟨p, w, hl, fp, rfl, _⟩ := h
    rfl
  · have hu := hr.units
    obtain ⟨p, w, hl, fp, rfl, hh, hz, e1, q⟩ := h
    obtain ⟨dx, a, b, bs, rfl, h1, h2, h3, h4, nab, h6⟩ := id hh
    have hb := h6.length
    refine ⟨_, (pss_cons (ps_expr (pe_meth (pv 0) T.cl_Hall T.M_Hall_need_work G_Hall_need_work hr T.b_Hall_need_work .nil pass_on (pa_cons (pv 1) pa_nil)))
          (pss_one (ps_ret (pe_compN (xs := ["belt", "row"]) rfl (cscope (x := "belt") (zs := ["work"]) (ix := [1]) (defScope s_Hall_entering) ["self", "work"] rfl rfl (by decide +kernel)) (pi_enum (K := K) rfl rfl T.n_enumerate (pa_cons (pe_fldK (K := K) rfl (pv 0) rfl) pa_nil)) (fun cl C s H fp => ⟨(pg_tupK (K := K) (n := 2) rfl rfl (pgs_cons (pg_name (i := 0) (show (["belt", "row", "work"] : List Str).Nodup by decide +kernel) rfl (Or.inl rfl)) (pgs_cons (pg_name (i := 1) (show (["belt", "row", "work"] : List Str).Nodup by decide +kernel) rfl (Or.inl rfl)) pgs_nil))), (pif_one (pt_cmpR (op_eqK (K := K) rfl hu) (pe_ix (ix_K (K := K) rfl) (pv 1) pe_int (fun _ _ => rfl)) (pv 2) (nomark _))), (pv 0)⟩))))), ?_⟩
    try dsimp only [L2.cxX, L2.cxOf, L2.cxComp]
    walk_at "rds"
    refine ⟨p, w, hl, _, rfl, hh, e1, fun w0 w1 => ?_⟩
    walk_at "rds"
    refine compN_walk (own := 2) (walks_enum (SqL.of h4)) (small1000 (by omega)) (fun i => [some (.int i), some (bs.getD i .non)]) (fun _ => rfl) (fun i => decide ((hl.belts.getD i dB).taker = w)) (fun i v _ => v = .int i) (fun _ _ _ _ _ z => z) (fun i a' H' v H2 Kg hi sm y ha k => ?_) (fun i H' Kc hi sm k => ?_) (fun pp i H' Kc hi hc hp0 hp1 sm k => ?_) (fun r H' ys hr sm hl' hR => ?_)
    · obtain ⟨t, ht, rfl, rfl⟩ := y
      obtain ⟨x1, x2, rfl⟩ : ∃ x1 x2, a' = [x1, x2] := by
        match a', ha with
        | [x1, x2], _ => exact ⟨x1, x2, rfl⟩
      refine Rd.gtup (.of upd_same) rfl ?_
      walk_at "rds"
      exact k _ (same_new ht)
    · obtain ⟨t, ht1, ht2⟩ := h6.getD (i := i) (by omega)
      rw [ht1]
      have ht3 := sm _ _ ht2
      generalize hl.belts.getD i dB = bb at *
      dsimp only [B5.v] at ht3
      walk_at "rds"
      exact k H' (Same.refl H')
    · walk_at "rds"
      exact k _ H' (Same.refl H') rfl
    · refine q w0 w1 r H' hr sm ?_
      rw [hl', paired_map (R := fun i v _ => v = V.int (i : Nat)) (H := H') (r := fun i : Nat => V.int i) (fun _ _ z => z) hR, hb]
      rfl
end
def sp_Hall_need_belt {K : PySem.W.Frag} {mg : Str → Option Value} (T : Tp K mg) : Sp := fun vs H Q E => ∃ (p : Addr) (i : Int) (hl : HM) (fp : List Addr), vs = [.ref p, .int i] ∧ HallAt T H p hl fp ∧
  (¬ (0 ≤ i ∧ i < hl.belts.length) → E (.ref T.X_NoBelt) none H) ∧ (0 ≤ i → i < hl.belts.length → Q .non H)
section
variable {P : Program} {w : World} {K : PySem.W.Frag} {mg : Str → Option Value} {base : Heap}
theorem ok_Hall_need_belt (T : Tp K mg) : FnOk P w K mg base (CXX P w) 4 T.f_Hall_need_belt T.d_Hall_need_belt ["self", "belt"] (sp_Hall_need_belt T) := by
  have G_is_number_below : FnOk P w K mg base (CXX P w) 3 T.f_is_number_below T.d_is_number_below ["thing", "bound"] (sp_is_number_below T) := (ok_is_number_below T).mono (by decide)
  have cl_Hall := T.cl_Hall
  have na_Hall := T.na_Hall
  refine T.F_Hall_need_belt.okX sc_Hall_need_belt (fun vs H Q E h => ?_) (fun cdv A outer s H vs Q E hr h => ?_)
  · obtain ⟨p, i, hl, fp, rfl, _⟩ := h
    rfl
  · have hu := hr.units
    obtain ⟨p, i, hl, fp, rfl, hh, e1, q⟩ := h
    obtain ⟨dx, a, b, bs, rfl, h1, h2, h3, h4, nab, h6⟩ := id hh
    refine ⟨_, (pss_one (ps_if (pt_not (pt_truK (K := K) rfl (pe_call G_is_number_below hr rfl T.m_is_number_below T.F_is_number_below.kp T.b_is_number_below .nil pass_on (pa_cons (pv 1) (pa_cons (pe_callB (len_K (K := K) rfl) (by rfl) T.n_len PySem.boot_len (pa_cons (pe_fldK (K := K) rfl (pv 0) rfl) pa_nil)) pa_nil))) (fun _ => rfl))) (pss_one (ps_raiseK T.gx_NoBelt T.ex_NoBelt PySem.F.excBase_ValueError rfl (pa_cons pe_str pa_nil))) pss_nil)), ?_⟩
    try dsimp only [L2.cxX, L2.cxOf, L2.cxComp]
    walk_at "rds"
    rw [h6.length]
    by_cases c : 0 ≤ i ∧ i < hl.belts.length
    · rw [decide_eq_true c]
      walk_at "rds"
      exact q c.1 c.2
    · rw [decide_eq_false c]
      walk_at "rds"
      exact e1 c
end
def sp_Hall_belt_at {K : PySem.W.Frag} {mg : Str → Option Value} (T : Tp K mg) : Sp := fun vs H Q E => ∃ (p : Addr) (i : Int) (hl : HM) (fp : List Addr), vs = [.ref p, .int i] ∧ HallAt T H p hl fp ∧
  (¬ (0 ≤ i ∧ i < hl.belts.length) → E (.ref T.X_NoBelt) none H) ∧ (0 ≤ i → i < hl.belts.length → ∀ (t : Addr) (b : B5), hl.belts[i.toNat]? = some b → H t = some (.tup b.v) → Q (.ref t) H)
section
variable {P : Program} {w : World} {K : PySem.W.Frag} {mg : Str → Option Value} {base : Heap}
theorem ok_Hall_belt_at (T : Tp K mg) : FnOk P w K mg base (CXX P w) 5 T.f_Hall_belt_at T.d_Hall_belt_at ["self", "belt"] (sp_Hall_belt_at T) := by
  have G_Hall_need_belt : FnOk P w K mg base (CXX P w) 4 T.f_Hall_need_belt T.d_Hall_need_belt ["self", "belt"] (sp_Hall_need_belt T) := (ok_Hall_need_belt T).mono (by decide)
  have cl_Hall := T.cl_Hall
  have na_Hall := T.na_Hall
  refine T.F_Hall_belt_at.okX sc_Hall_belt_at (fun vs H Q E h => ?_) (fun cdv A outer s H vs Q E hr h => ?_)
  · obtain ⟨p, i, hl, fp, rfl, _⟩ := h
    rfl
  · have hu := hr.units
    obtain ⟨p, i, hl, fp, rfl, hh, e1, q⟩ := h
    obtain ⟨dx, a, b, bs, rfl, h1, h2, h3, h4, nab, h6⟩ := id hh
    refine ⟨_, (pss_cons (ps_expr (pe_meth (pv 0) T.cl_Hall T.M_Hall_need_belt G_Hall_need_belt hr T.b_Hall_need_belt .nil pass_on (pa_cons (pv 1) pa_nil)))
          (pss_one (ps_ret (pe_ix (ix_K (K := K) rfl) (pe_fldK (K := K) rfl (pv 0) rfl) (pv 1) (fun _ _ => rfl))))), ?_⟩
    try dsimp only [L2.cxX, L2.cxOf, L2.cxComp]
    walk_at "rds"
    refine ⟨p, i, hl, _, rfl, hh, e1, fun i0 i1 => ?_⟩
    have hi : i.toNat < hl.belts.length := by omega
    have ei := List.getElem?_eq_getElem hi
    obtain ⟨t, ht1, ht2⟩ := h6.at ei
    have at1 : atI bs i = some (.ref t) := by
      have := atI_nat ht1
      rwa [Int.toNat_of_nonneg i0] at this
    walk_at "rds"
    exact q i0 i1 t _ ei ht2
end
def sp_takes_of {K : PySem.W.Frag} {mg : Str → Option Value} (T : Tp K mg) : Sp := fun vs H Q E => ∃ (p : Addr) (w : Int) (hl : HM) (fp : List Addr), vs = [.ref p, .int w] ∧ HallAt T H p hl fp ∧ hl.belts.length ≤ 1000 ∧ 0 ≤ w ∧ w < hl.names.length ∧
  ∀ r H' ys, H r = none → Same H H' → H' r = some (.lst ys) → Pairs H' (takeRow hl.belts w) ys → Q (.ref r) H'
section
variable {P : Program} {w : World} {K : PySem.W.Frag} {mg : Str → Option Value} {base : Heap}
theorem ok_takes_of (T : Tp K mg) : FnOk P w K mg base (CXX P w) 6 T.f_takes_of T.d_takes_of ["hall", "work"] (sp_takes_of T) := by
  have G_Hall_entering : FnOk P w K mg base (CXX P w) 5 T.f_Hall_entering T.d_Hall_entering ["self", "work"] (sp_Hall_entering T) := (ok_Hall_entering T).mono (by decide)
  have G_Hall_belt_at : FnOk P w K mg base (CXX P w) 5 T.f_Hall_belt_at T.d_Hall_belt_at ["self", "belt"] (sp_Hall_belt_at T) := (ok_Hall_belt_at T).mono (by decide)
  have cl_Hall := T.cl_Hall
  have na_Hall := T.na_Hall
  refine T.F_takes_of.okX sc_takes_of (fun vs H Q E h => ?_) (fun cdv A outer s H vs Q E hr h => ?_)
  · obtain ⟨p, w, hl, fp, rfl, _⟩ := h
    rfl
  · have hu := hr.units
    obtain ⟨p, w, hl, fp, rfl, hh, hz, w0, w1, q⟩ := h
    refine ⟨_, (pss_one (ps_ret (pe_compN (xs := ["belt"]) rfl (cscope (x := "belt") (zs := ["hall"]) (ix := [0]) (defScope s_takes_of) ["hall", "work"] rfl rfl (by decide +kernel)) (pi_listK (K := K) rfl (pe_meth (pv 0) T.cl_Hall T.M_Hall_entering G_Hall_entering hr T.b_Hall_entering .nil pass_on (pa_cons (pv 1) pa_nil))) (fun cl C s H fp => ⟨(pg_name (i := 0) (show (["belt", "hall"] : List Str).Nodup by decide +kernel) rfl (Or.inl rfl)), pif_nil, (pe_tup (pa_cons (pv 0) (pa_cons (pe_ix (ix_K (K := K) rfl) (pe_meth (pv 1) T.cl_Hall T.M_Hall_belt_at G_Hall_belt_at hr T.b_Hall_belt_at .nil passX0 (pa_cons (pv 0) pa_nil)) pe_int (fun _ _ => rfl)) pa_nil)))⟩)))), ?_⟩
    try dsimp only [L2.cxX, L2.cxOf, L2.cxComp]
    walk_at "rds"
    refine ⟨p, w, hl, fp, rfl, hh, hz, fun z => absurd ⟨w0, w1⟩ z, fun _ _ e H1 he s1 he1 => ?_⟩
    have hh1 := hh.same s1
    have el := enterL_len (ls := hl.belts) (w := w)
    walk_at "rds"
    refine compN_walk (own := 1) (walks_lst (SqL.of he1)).y (small1000 (by rw [List.length_map]; omega)) (fun i => [some (.int ((enterL hl.belts w).getD i 0 : Nat))]) (fun _ => rfl) (fun _ => true) (fun i v H => ∃ t, v = V.ref t ∧ H t = some (.tup [.int ((enterL hl.belts w).getD i 0 : Nat), .int (hl.belts.getD ((enterL hl.belts w).getD i 0) dB).take])) (fun _ _ _ _ e ⟨t, z1, z2⟩ => ⟨t, z1, e _ _ z2⟩) (fun i a' H' v H2 Kg hi sm y ha' k => ?_) (fun i H' Kc hi sm k => ?_) (fun pp i H' Kc hi hc hp0 hp1 sm k => ?_) (fun r H' ys hr' sm hl' hR => ?_)
    · obtain ⟨rfl, rfl⟩ := y
      obtain ⟨x1, rfl⟩ : ∃ x1, a' = [x1] := by
        match a', ha' with
        | [x1], _ => exact ⟨x1, rfl⟩
      have hi' : i < (enterL hl.belts w).length := by simpa using hi
      have ev : ((enterL hl.belts w).map fun i : Nat => V.int i).getD i .non = .int ((enterL hl.belts w).getD i 0 : Nat) := by simp [List.getD, hi']
      rw [ev]
      walk_at "rds"
      exact k _ (Same.refl _)
    · walk_at "rds"
      exact k H' (Same.refl H')
    · have hi' : i < (enterL hl.belts w).length := by simpa using hi
      have hm : (enterL hl.belts w).getD i 0 ∈ enterL hl.belts w := by
        have : (enterL hl.belts w).getD i 0 = (enterL hl.belts w)[i] := by simp [List.getD, hi']
        rw [this]; exact List.getElem_mem hi'
      have hlt := enterL_lt hm
      generalize (enterL hl.belts w).getD i 0 = j at *
      have hh2 := hh1.same sm
      walk_at "rds"
      refine ⟨p, (j : Int), hl, fp, rfl, hh2, fun z => absurd ⟨Int.natCast_nonneg j, by omega⟩ z, fun _ _ t b hb ht => ?_⟩
      have hb' : hl.belts[j]? = some b := hb
      have eb : hl.belts.getD j dB = b := by simp [List.getD, hb']
      rw [eb] at k
      dsimp only [B5.v] at ht
      walk_at "rds"
      refine ⟨by show 2 ≤ sizeLine; decide, fun u hu' => ?_⟩
      exact k _ _ (same_new hu') ⟨u, rfl, hid_new hp1 hu'⟩
    · refine q r H' ys ?_ (s1.trans sm) hl' ?_
      · cases e : H r with
        | none => rfl
        | some o => rw [s1 _ _ e] at hr'; cases hr'
      · exact (pairs_row hR).keep fun b xs z => hid_same _ _ z
end
def sp_Hall_leaving {K : PySem.W.Frag} {mg : Str → Option Value} (T : Tp K mg) : Sp := fun vs H Q E => ∃ (p : Addr) (w : Int) (hl : HM) (fp : List Addr), vs = [.ref p, .int w] ∧ HallAt T H p hl fp ∧ hl.belts.length ≤ 1000 ∧
  (¬ (0 ≤ w ∧ w < hl.names.length) → E (.ref T.X_NoWork) none H) ∧ (0 ≤ w → w < hl.names.length → ∀ r H', H r = none → Same H H' → H' r = some (.lst ((leaveL hl.belts w).map fun i : Nat => V.int i)) → Q (.ref r) H')
section
variable {P : Program} {w : World} {K : PySem.W.Frag} {mg : Str → Option Value} {base : Heap}
theorem ok_Hall_leaving (T : Tp K mg) : FnOk P w K mg base (CXX P w) 5 T.f_Hall_leaving T.d_Hall_leaving ["self", "work"] (sp_Hall_leaving T) := by
  have G_Hall_need_work : FnOk P w K mg base (CXX P w) 4 T.f_Hall_need_work T.d_Hall_need_work ["self", "work"] (sp_Hall_need_work T) := (ok_Hall_need_work T).mono (by decide)
  have cl_Hall := T.cl_Hall
  have na_Hall := T.na_Hall
  refine T.F_Hall_leaving.okX sc_Hall_leaving (fun vs H Q E h => ?_) (fun cdv A outer s H vs Q E hr h => ?_)
  · obtain ⟨p, w, hl, fp, rfl, _⟩ := h
    rfl
  · have hu := hr.units
    obtain ⟨p, w, hl, fp, rfl, hh, hz, e1, q⟩ := h
    obtain ⟨dx, a, b, bs, rfl, h1, h2, h3, h4, nab, h6⟩ := id hh
    have hb := h6.length
    refine ⟨_, (pss_cons (ps_expr (pe_meth (pv 0) T.cl_Hall T.M_Hall_need_work G_Hall_need_work hr T.b_Hall_need_work .nil pass_on (pa_cons (pv 1) pa_nil)))
          (pss_one (ps_ret (pe_compN (xs := ["belt", "row"]) rfl (cscope (x := "belt") (zs := ["work"]) (ix := [1]) (defScope s_Hall_leaving) ["self", "work"] rfl rfl (by decide +kernel)) (pi_enum (K := K) rfl rfl T.n_enumerate (pa_cons (pe_fldK (K := K) rfl (pv 0) rfl) pa_nil)) (fun cl C s H fp => ⟨(pg_tupK (K := K) (n := 2) rfl rfl (pgs_cons (pg_name (i := 0) (show (["belt", "row", "work"] : List Str).Nodup by decide +kernel) rfl (Or.inl rfl)) (pgs_cons (pg_name (i := 1) (show (["belt", "row", "work"] : List Str).Nodup by decide +kernel) rfl (Or.inl rfl)) pgs_nil))), (pif_one (pt_cmpR (op_eqK (K := K) rfl hu) (pe_ix (ix_K (K := K) rfl) (pv 1) pe_int (fun _ _ => rfl)) (pv 2) (nomark _))), (pv 0)⟩))))), ?_⟩
    try dsimp only [L2.cxX, L2.cxOf, L2.cxComp]
    walk_at "rds"
    refine ⟨p, w, hl, _, rfl, hh, e1, fun w0 w1 => ?_⟩
    walk_at "rds"
    refine compN_walk (own := 2) (walks_enum (SqL.of h4)) (small1000 (by omega)) (fun i => [some (.int i), some (bs.getD i .non)]) (fun _ => rfl) (fun i => decide ((hl.belts.getD i dB).giver = w)) (fun i v _ => v = .int i) (fun _ _ _ _ _ z => z) (fun i a' H' v H2 Kg hi sm y ha k => ?_) (fun i H' Kc hi sm k => ?_) (fun pp i H' Kc hi hc hp0 hp1 sm k => ?_) (fun r H' ys hr sm hl' hR => ?_)
    · obtain ⟨t, ht, rfl, rfl⟩ := y
      obtain ⟨x1, x2, rfl⟩ : ∃ x1 x2, a' = [x1, x2] := by
        match a', ha with
        | [x1, x2], _ => exact ⟨x1, x2, rfl⟩
      refine Rd.gtup (.of upd_same) rfl ?_
      walk_at "rds"
      exact k _ (same_new ht)
    · obtain ⟨t, ht1, ht2⟩ := h6.getD (i := i) (by omega)
      rw [ht1]
      have ht3 := sm _ _ ht2
      generalize hl.belts.getD i dB = bb at *
      dsimp only [B5.v] at ht3
      walk_at "rds"
      exact k H' (Same.refl H')
    · walk_at "rds"
      exact k _ H' (Same.refl H') rfl
    · refine q w0 w1 r H' hr sm ?_
      rw [hl', paired_map (R := fun i v _ => v = V.int (i : Nat)) (H := H') (r := fun i : Nat => V.int i) (fun _ _ z => z) hR, hb]
      rfl
end
def sp_gives_of {K : PySem.W.Frag} {mg : Str → Option Value} (T : Tp K mg) : Sp := fun vs H Q E => ∃ (p : Addr) (w : Int) (hl : HM) (fp : List Addr), vs = [.ref p, .int w] ∧ HallAt T H p hl fp ∧ hl.belts.length ≤ 1000 ∧ 0 ≤ w ∧ w < hl.names.length ∧
  ∀ r H' ys, H r = none → Same H H' → H' r = some (.lst ys) → Pairs H' (giveRow hl.belts w) ys → Q (.ref r) H'
section
variable {P : Program} {w : World} {K : PySem.W.Frag} {mg : Str → Option Value} {base : Heap}
theorem ok_gives_of (T : Tp K mg) : FnOk P w K mg base (CXX P w) 6 T.f_gives_of T.d_gives_of ["hall", "work"] (sp_gives_of T) := by
  have G_Hall_leaving : FnOk P w K mg base (CXX P w) 5 T.f_Hall_leaving T.d_Hall_leaving ["self", "work"] (sp_Hall_leaving T) := (ok_Hall_leaving T).mono (by decide)
  have G_Hall_belt_at : FnOk P w K mg base (CXX P w) 5 T.f_Hall_belt_at T.d_Hall_belt_at ["self", "belt"] (sp_Hall_belt_at T) := (ok_Hall_belt_at T).mono (by decide)
  have cl_Hall := T.cl_Hall
  have na_Hall := T.na_Hall
  refine T.F_gives_of.okX sc_gives_of (fun vs H Q E h => ?_) (fun cdv A outer s H vs Q E hr h => ?_)
  · obtain ⟨p, w, hl, fp, rfl, _⟩ := h
    rfl
  · have hu := hr.units
    obtain ⟨p, w, hl, fp, rfl, hh, hz, w0, w1, q⟩ := h
    refine ⟨_, (pss_one (ps_ret (pe_compN (xs := ["belt"]) rfl (cscope (x := "belt") (zs := ["hall"]) (ix := [0]) (defScope s_gives_of) ["hall", "work"] rfl rfl (by decide +kernel)) (pi_listK (K := K) rfl (pe_meth (pv 0) T.cl_Hall T.M_Hall_leaving G_Hall_leaving hr T.b_Hall_leaving .nil pass_on (pa_cons (pv 1) pa_nil))) (fun cl C s H fp => ⟨(pg_name (i := 0) (show (["belt", "hall"] : List Str).Nodup by decide +kernel) rfl (Or.inl rfl)), pif_nil, (pe_tup (pa_cons (pv 0) (pa_cons (pe_ix (ix_K (K := K) rfl) (pe_meth (pv 1) T.cl_Hall T.M_Hall_belt_at G_Hall_belt_at hr T.b_Hall_belt_at .nil passX0 (pa_cons (pv 0) pa_nil)) pe_int (fun _ _ => rfl)) pa_nil)))⟩)))), ?_⟩
    try dsimp only [L2.cxX, L2.cxOf, L2.cxComp]
    walk_at "rds"
    refine ⟨p, w, hl, fp, rfl, hh, hz, fun z => absurd ⟨w0, w1⟩ z, fun _ _ e H1 he s1 he1 => ?_⟩
    have hh1 := hh.same s1
    have el := leaveL_len (ls := hl.belts) (w := w)
    walk_at "rds"
    refine compN_walk (own := 1) (walks_lst (SqL.of he1)).y (small1000 (by rw [List.length_map]; omega)) (fun i => [some (.int ((leaveL hl.belts w).getD i 0 : Nat))]) (fun _ => rfl) (fun _ => true) (fun i v H => ∃ t, v = V.ref t ∧ H t = some (.tup [.int ((leaveL hl.belts w).getD i 0 : Nat), .int (hl.belts.getD ((leaveL hl.belts w).getD i 0) dB).give])) (fun _ _ _ _ e ⟨t, z1, z2⟩ => ⟨t, z1, e _ _ z2⟩) (fun i a' H' v H2 Kg hi sm y ha' k => ?_) (fun i H' Kc hi sm k => ?_) (fun pp i H' Kc hi hc hp0 hp1 sm k => ?_) (fun r H' ys hr' sm hl' hR => ?_)
    · obtain ⟨rfl, rfl⟩ := y
      obtain ⟨x1, rfl⟩ : ∃ x1, a' = [x1] := by
        match a', ha' with
        | [x1], _ => exact ⟨x1, rfl⟩
      have hi' : i < (leaveL hl.belts w).length := by simpa using hi
      have ev : ((leaveL hl.belts w).map fun i : Nat => V.int i).getD i .non = .int ((leaveL hl.belts w).getD i 0 : Nat) := by simp [List.getD, hi']
      rw [ev]
      walk_at "rds"
      exact k _ (Same.refl _)
    · walk_at "rds"
      exact k H' (Same.refl H')
    · have hi' : i < (leaveL hl.belts w).length := by simpa using hi
      have hm : (leaveL hl.belts w).getD i 0 ∈ leaveL hl.belts w := by
        have : (leaveL hl.belts w).getD i 0 = (leaveL hl.belts w)[i] := by simp [List.getD, hi']
        rw [this]; exact List.getElem_mem hi'
      have hlt := leaveL_lt hm
      generalize (leaveL hl.belts w).getD i 0 = j at *
      have hh2 := hh1.same sm
      walk_at "rds"
      refine ⟨p, (j : Int), hl, fp, rfl, hh2, fun z => absurd ⟨Int.natCast_nonneg j, by omega⟩ z, fun _ _ t b hb ht => ?_⟩
      have hb' : hl.belts[j]? = some b := hb
      have eb : hl.belts.getD j dB = b := by simp [List.getD, hb']
      rw [eb] at k
      dsimp only [B5.v] at ht
      walk_at "rds"
      refine ⟨by show 2 ≤ sizeLine; decide, fun u hu' => ?_⟩
      exact k _ _ (same_new hu') ⟨u, rfl, hid_new hp1 hu'⟩
    · refine q r H' ys ?_ (s1.trans sm) hl' ?_
      · cases e : H r with
        | none => rfl
        | some o => rw [s1 _ _ e] at hr'; cases hr'
      · exact (pairs_row hR).keep fun b xs z => hid_same _ _ z
end
def sp_Hall_names {K : PySem.W.Frag} {mg : Str → Option Value} (T : Tp K mg) : Sp := fun vs H Q E => ∃ (p : Addr) (hl : HM) (fp : List Addr), vs = [.ref p] ∧ HallAt T H p hl fp ∧
  ∀ r H', H r = none → Same H H' → H' r = some (.lst (hl.names.map V.str)) → Q (.ref r) H'
section
variable {P : Program} {w : World} {K : PySem.W.Frag} {mg : Str → Option Value} {base : Heap}
theorem ok_Hall_names (T : Tp K mg) : FnOk P w K mg base (CXX P w) 1 T.f_Hall_names T.d_Hall_names ["self"] (sp_Hall_names T) := by
  have cl_Hall := T.cl_Hall
  have na_Hall := T.na_Hall
  refine T.F_Hall_names.okX sc_Hall_names (fun vs H Q E h => ?_) (fun cdv A outer s H vs Q E hr h => ?_)
  · obtain ⟨p, hl, fp, rfl, _⟩ := h
    rfl
  · have hu := hr.units
    obtain ⟨p, hl, fp, rfl, hh, q⟩ := h
    obtain ⟨dx, a, b, bs, rfl, h1, h2, h3, h4, nab, h6⟩ := id hh
    refine ⟨_, (pss_one (ps_ret (pe_callTy (call_listD rfl) (by rfl) T.n_list PyProof.Rows.boot_list (pa_cons (pe_fldK (K := K) rfl (pv 0) rfl) pa_nil)))), ?_⟩
    try dsimp only [L2.cxX, L2.cxOf, L2.cxComp]
    walk_at "rds"
    intro l hl'
    rw [numsOf_keys]
    exact q l _ hl' (same_new hl') upd_same
end
def sp_Floor_init {K : PySem.W.Frag} {mg : Str → Option Value} (T : Tp K mg) : Sp := fun vs H Q E => ∃ (p dx h : Addr) (hl : HM) (fp : List Addr), vs = [.ref p, .ref h] ∧ H p = some (.ins T.C_Floor dx []) ∧ H dx = some (.own p) ∧ HallAt T H h hl fp ∧ hl.names.length ≤ 1000 ∧ hl.belts.length ≤ 1000 ∧
  ∀ (H' : Hp) (fp' : List Addr), FloorAt T H' p ⟨hl.names.length, hl.belts, hl.belts.map B5.start⟩ fp' → (∀ x ∈ fp', x = p ∨ x = dx ∨ H x = none) → (∀ b o, H b = some o → b ≠ p → H' b = some o) → Q .non H'
theorem rd_Floor_init {K : PySem.W.Frag} {mg : Str → Option Value} {T : Tp K mg} {H : Hp} {h : Addr} {hl : HM} {fp : List Addr} {Q : Addr → Hp → Prop} {E : XK} (hh : HallAt T H h hl fp) (hn : hl.names.length ≤ 1000) (hb : hl.belts.length ≤ 1000)
    (q : ∀ (p : Addr) (fp' : List Addr) (H' : Hp), FloorAt T H' p ⟨hl.names.length, hl.belts, hl.belts.map B5.start⟩ fp' → (∀ x ∈ fp', H x = none) → Same H H' → Q p H') :
    ∀ x dx, H x = none → H dx = none → dx ≠ x → sp_Floor_init T (.ref x :: ([.ref h] ++ [])) (upd (upd H dx (.own x)) x (.ins T.C_Floor dx [])) (fun v H2 => v = .non ∧ Q x H2) E := by
  intro x dx hx hdx ne
  have sm : Same H (upd (upd H dx (.own x)) x (.ins T.C_Floor dx [])) := fun b o e => by rw [upd_ne (ne_of_none e hx), upd_ne (ne_of_none e hdx)]; exact e
  refine ⟨x, dx, h, hl, fp, rfl, upd_same, by rw [upd_ne ne, upd_same], hh.same sm, hn, hb, fun H' fp' hh hf hk => ⟨rfl, q x fp' H' hh (fun y hy => ?_) (fun b o e => hk b o (sm b o e) (ne_of_none e hx))⟩⟩
  rcases hf y hy with rfl | rfl | h
  · exact hx
  · exact hdx
  · by_cases h1 : y = x
    · rw [h1]; exact hx
    · by_cases h2 : y = dx
      · rw [h2]; exact hdx
      · rw [upd_ne h1, upd_ne h2] at h
        exact h
theorem ll_of {H0 H : Hp} {n : Nat} {r : Addr} {f : Int → List (Int × Int)} {ys : List V} (h : Paired (fun (i : Nat) v => ∃ x vs, v = V.ref x ∧ H0 x = none ∧ (hid H r) x = some (.lst vs) ∧ Pairs (hid H r) (f (0 + (i : Int))) vs) ((List.range n).filter fun _ => true) ys) :
    ∃ ia : List Addr, ys = ia.map V.ref ∧ (∀ x ∈ ia, H0 x = none ∧ x ≠ r) ∧ LL H ((List.range n).map fun w : Nat => f w) ia := by
  rw [List.filter_eq_self.mpr (by simp)] at h
  generalize List.range n = is at h
  induction h with
  | nil => exact ⟨[], rfl, by simp, .nil⟩
  | @cons i v is ys hh t ih =>
    obtain ⟨ia, e, d, l⟩ := ih
    obtain ⟨x, vs, rfl, h0, h1, h2⟩ := hh
    rw [Int.zero_add] at h2
    have nx : x ≠ r := fun z => by rw [z, hid_self] at h1; cases h1
    refine ⟨x :: ia, by rw [e]; rfl, fun y hy => ?_, .cons ⟨vs, hid_same _ _ h1, h2.keep fun b xs z => hid_same _ _ z⟩ l⟩
    rcases List.mem_cons.mp hy with rfl | hy
    · exact ⟨h0, nx⟩
    · exact d y hy
section
variable {P : Program} {w : World} {K : PySem.W.Frag} {mg : Str → Option Value} {base : Heap}
theorem ok_Floor_init (T : Tp K mg) : FnOk P w K mg base (CXX P w) 7 T.f_Floor_init T.d_Floor_init ["self", "hall"] (sp_Floor_init T) := by
  have G_takes_of : FnOk P w K mg base (CXX P w) 6 T.f_takes_of T.d_takes_of ["hall", "work"] (sp_takes_of T) := (ok_takes_of T).mono (by decide)
  have G_gives_of : FnOk P w K mg base (CXX P w) 6 T.f_gives_of T.d_gives_of ["hall", "work"] (sp_gives_of T) := (ok_gives_of T).mono (by decide)
  have G_Hall_names : FnOk P w K mg base (CXX P w) 6 T.f_Hall_names T.d_Hall_names ["self"] (sp_Hall_names T) := (ok_Hall_names T).mono (by decide)
  have G_Hall_belts : FnOk P w K mg base (CXX P w) 6 T.f_Hall_belts T.d_Hall_belts ["self"] (sp_Hall_belts T) := (ok_Hall_belts T).mono (by decide)
  have cl_Floor := T.cl_Floor
  have na_Floor := T.na_Floor
  have cl_Hall := T.cl_Hall
  have na_Hall := T.na_Hall
  refine T.F_Floor_init.okX sc_Floor_init (fun vs H Q E h => ?_) (fun cdv A outer s H vs Q E hr h => ?_)
  · obtain ⟨p, dx, h, hl, fp, rfl, _⟩ := h
    rfl
  · have hu := hr.units
    obtain ⟨p, dx, ha, hl, fp, rfl, hp, hdx, hh, hn, hbz, q⟩ := h
    have nph : p ∉ fp := by
      intro z
      obtain ⟨dx', a, b, bs, rfl, h1, h2, h3, h4, nab, h6⟩ := hh
      simp only [List.mem_cons, List.not_mem_nil, or_false] at z
      rcases z with rfl | rfl | rfl | rfl
      · rw [h1] at hp
        injection hp with e
        injection e with e1 e2 e3
        cases e3
      · rw [h2] at hp; cases hp
      · rw [h3] at hp; cases hp
      · rw [h4] at hp; cases hp
    refine ⟨_, (pss_cons (ps_set (i := 2) sc_Floor_init.nd rfl (Or.inl rfl) (pe_callB (len_K (K := K) rfl) (by rfl) T.n_len PySem.boot_len (pa_cons (pe_meth0 (pv 1) T.cl_Hall T.M_Hall_names G_Hall_names hr T.b_Hall_names .nil pass_on) pa_nil)))
          (pss_cons (ps_fldK (K := K) rfl (pv 0) (pe_compN (xs := ["work"]) rfl (cscope (x := "work") (zs := ["hall"]) (ix := [1]) (defScope s_Floor_init) ["self", "hall", "works"] rfl rfl (by decide +kernel)) (pi_range1 rfl T.n_range (pa_cons (pv 2) pa_nil)) (fun cl C s H fp => ⟨(pg_name (i := 0) (show (["work", "hall"] : List Str).Nodup by decide +kernel) rfl (Or.inl rfl)), pif_nil, (pe_call G_takes_of hr rfl T.m_takes_of T.F_takes_of.kp T.b_takes_of .nil passX0 (pa_cons (pv 1) (pa_cons (pv 0) pa_nil)))⟩)) rfl)
          (pss_cons (ps_fldK (K := K) rfl (pv 0) (pe_compN (xs := ["work"]) rfl (cscope (x := "work") (zs := ["hall"]) (ix := [1]) (defScope s_Floor_init) ["self", "hall", "works"] rfl rfl (by decide +kernel)) (pi_range1 rfl T.n_range (pa_cons (pv 2) pa_nil)) (fun cl C s H fp => ⟨(pg_name (i := 0) (show (["work", "hall"] : List Str).Nodup by decide +kernel) rfl (Or.inl rfl)), pif_nil, (pe_call G_gives_of hr rfl T.m_gives_of T.F_gives_of.kp T.b_gives_of .nil passX0 (pa_cons (pv 1) (pa_cons (pv 0) pa_nil)))⟩)) rfl)
          (pss_one (ps_fldK (K := K) rfl (pv 0) (pe_comp rfl (cscope (x := "row") (zs := []) (ix := []) (defScope s_Floor_init) ["self", "hall", "works"] rfl rfl (by decide +kernel)) (pi_listK (K := K) rfl (pe_meth0 (pv 1) T.cl_Hall T.M_Hall_belts G_Hall_belts hr T.b_Hall_belts .nil pass_on)) (fun cl C s H fp => ⟨(pg_name (i := 0) (show (["row"] : List Str).Nodup by decide +kernel) rfl (Or.inl rfl)), pif_nil, (pe_ix (ix_K (K := K) rfl) (pv 0) pe_int (fun _ _ => rfl))⟩)) rfl))))), ?_⟩
    try dsimp only [L2.cxX, L2.cxOf, L2.cxComp]
    walk_at "rds"
    refine ⟨ha, hl, fp, rfl, hh, fun nm H1 hnm s1 hnm1 => ?_⟩
    have hh1 := hh.same s1
    have hp1 := s1 _ _ hp
    have hd1 := s1 _ _ hdx
    have nml : (hl.names.map V.str).length = hl.names.length := by simp
    walk_at "rds"
    refine compN_walk (own := 1) walks_rng.y (small1000 (by rw [nml]; exact hn)) (fun i => [some (.int (0 + (i : Int)))]) (fun _ => rfl) (fun _ => true) (fun (i : Nat) v H2 => ∃ x vs, v = V.ref x ∧ H1 x = none ∧ H2 x = some (.lst vs) ∧ Pairs H2 (takeRow hl.belts (0 + (i : Int))) vs) (fun _ _ _ _ e ⟨x, vs, z1, z2, z3, z4⟩ => ⟨x, vs, z1, z2, e _ _ z3, z4.keep fun _ _ z => e _ _ z⟩) (fun i a' H' v H2 Kg hi sm y ha' k => ?_) (fun i H' Kc hi sm k => ?_) (fun pp i H' Kc hi hc hp0 hp1' sm k => ?_) (fun ra H2 ys hra s2 hra2 hR => ?_)
    · obtain ⟨rfl, rfl⟩ := y
      obtain ⟨x1, rfl⟩ : ∃ x1, a' = [x1] := by
        match a', ha' with
        | [x1], _ => exact ⟨x1, rfl⟩
      walk_at "rds"
      exact k _ (Same.refl _)
    · walk_at "rds"
      exact k H' (Same.refl H')
    · walk_at "rds"
      refine ⟨ha, 0 + (i : Int), hl, fp, rfl, hh1.same sm, hbz, by omega, by omega, fun x H3 vs hx s3 hx3 hP => ?_⟩
      refine k _ H3 s3 ⟨x, vs, rfl, ?_, hid_at hp1' hx hx3, hP.keep fun b xs z => hid_tups hp1' s3 z⟩
      cases e : H1 x with
      | none => rfl
      | some o => rw [sm _ _ e] at hx; cases hx
    obtain ⟨ia, rfl, hia, hLa⟩ := ll_of hR
    rw [nml, Int.toNat_natCast] at hLa
    have hp2 := s2 _ _ hp1
    have hd2 := s2 _ _ hd1
    have hh2 := hh1.same s2
    have npd : p ≠ dx := ne_of hp hdx (by intro z; cases z)
    have npra : p ≠ ra := ne_of hp2 hra2 (by intro z; cases z)
    have fr0 : ∀ {x : Addr}, H1 x = none → H x = none := fun {x} hx => by
      cases e : H x with
      | none => rfl
      | some o => rw [s1 _ _ e] at hx; cases hx
    walk_at "rds"
    have f3 : Frame [p] H2 (upd H2 p (.ins T.C_Floor dx [("takes", .ref ra)])) := frame_upd (by simp) hp2 (by intro _ z; cases z)
    have hp3 : (upd H2 p (.ins T.C_Floor dx [("takes", .ref ra)])) p = some (.ins T.C_Floor dx [("takes", .ref ra)]) := upd_same
    have hd3 := f3.keep _ _ hd2 (by simpa using npd.symm)
    have hra3 := f3.keep _ _ hra2 (by simpa using npra.symm)
    have hh3 := hh2.off f3 (fun x hx z => nph (by rw [← List.mem_singleton.mp z]; exact hx))
    have nia : ∀ x ∈ ia, x ≠ p := fun x hx z => by
      have := (hia x hx).1
      rw [z, hp1] at this
      cases this
    have hLa3 : LL (upd H2 p (.ins T.C_Floor dx [("takes", .ref ra)])) _ ia := hLa.keep f3.tups (fun x hx => upd_ne (nia x hx))
    have k3 : ∀ b o, H b = some o → b ≠ p → (upd H2 p (.ins T.C_Floor dx [("takes", .ref ra)])) b = some o := fun b o e n => f3.keep _ _ (s2 _ _ (s1 _ _ e)) (by simpa using n)
    generalize upd H2 p (.ins T.C_Floor dx [("takes", .ref ra)]) = H3 at *
    clear f3
    walk_at "rds"
    refine compN_walk (own := 1) walks_rng.y (small1000 (by rw [nml]; exact hn)) (fun i => [some (.int (0 + (i : Int)))]) (fun _ => rfl) (fun _ => true) (fun (i : Nat) v H2 => ∃ x vs, v = V.ref x ∧ H3 x = none ∧ H2 x = some (.lst vs) ∧ Pairs H2 (giveRow hl.belts (0 + (i : Int))) vs) (fun _ _ _ _ e ⟨x, vs, z1, z2, z3, z4⟩ => ⟨x, vs, z1, z2, e _ _ z3, z4.keep fun _ _ z => e _ _ z⟩) (fun i a' H' v H2 Kg hi sm y ha' k => ?_) (fun i H' Kc hi sm k => ?_) (fun pp i H' Kc hi hc hp0 hp1' sm k => ?_) (fun rb H4 ys hrb s4 hrb4 hR4 => ?_)
    · obtain ⟨rfl, rfl⟩ := y
      obtain ⟨x1, rfl⟩ : ∃ x1, a' = [x1] := by
        match a', ha' with
        | [x1], _ => exact ⟨x1, rfl⟩
      walk_at "rds"
      exact k _ (Same.refl _)
    · walk_at "rds"
      exact k H' (Same.refl H')
    · walk_at "rds"
      refine ⟨ha, 0 + (i : Int), hl, fp, rfl, hh3.same sm, hbz, by omega, by omega, fun x H5 vs hx s5 hx5 hP => ?_⟩
      refine k _ H5 s5 ⟨x, vs, rfl, ?_, hid_at hp1' hx hx5, hP.keep fun b xs z => hid_tups hp1' s5 z⟩
      cases e : H3 x with
      | none => rfl
      | some o => rw [sm _ _ e] at hx; cases hx
    obtain ⟨ib, rfl, hib, hLb⟩ := ll_of hR4
    rw [nml, Int.toNat_natCast] at hLb
    have hp4 := s4 _ _ hp3
    have hd4 := s4 _ _ hd3
    have hra4 := s4 _ _ hra3
    have hh4 := hh3.same s4
    have hLa4 : LL H4 _ ia := hLa3.keep (fun b xs z => s4 _ _ z) (fun x hx => by
      cases e : H3 x with
      | none => exact absurd e (hLa3.dom x hx)
      | some o => exact s4 _ _ e)
    have npra4 : p ≠ rb := ne_of hp4 hrb4 (by intro z; cases z)
    have fr3 : ∀ {x : Addr}, H3 x = none → H x = none := fun {x} hx => by
      cases e : H x with
      | none => rfl
      | some o =>
        by_cases n : x = p
        · rw [n, hp3] at hx; cases hx
        · rw [k3 _ _ e n] at hx; cases hx
    walk_at "rds"
    have f5 : Frame [p] H4 (upd H4 p (.ins T.C_Floor dx [("takes", .ref ra), ("gives", .ref rb)])) := frame_upd (by simp) hp4 (by intro _ z; cases z)
    have hp5 : (upd H4 p (.ins T.C_Floor dx [("takes", .ref ra), ("gives", .ref rb)])) p = some (.ins T.C_Floor dx [("takes", .ref ra), ("gives", .ref rb)]) := upd_same
    have hd5 := f5.keep _ _ hd4 (by simpa using npd.symm)
    have hra5 := f5.keep _ _ hra4 (by simpa using npra.symm)
    have hrb5 := f5.keep _ _ hrb4 (by simpa using npra4.symm)
    have hh5 := hh4.off f5 (fun x hx z => nph (by rw [← List.mem_singleton.mp z]; exact hx))
    have nib : ∀ x ∈ ib, x ≠ p := fun x hx z => by
      have := (hib x hx).1
      rw [z, hp3] at this
      cases this
    have hLa5 : LL (upd H4 p (.ins T.C_Floor dx [("takes", .ref ra), ("gives", .ref rb)])) _ ia := hLa4.keep f5.tups (fun x hx => upd_ne (nia x hx))
    have hLb5 : LL (upd H4 p (.ins T.C_Floor dx [("takes", .ref ra), ("gives", .ref rb)])) _ ib := hLb.keep f5.tups (fun x hx => upd_ne (nib x hx))
    have k5 : ∀ b o, H b = some o → b ≠ p → (upd H4 p (.ins T.C_Floor dx [("takes", .ref ra), ("gives", .ref rb)])) b = some o := fun b o e n => f5.keep _ _ (s4 _ _ (k3 _ _ e n)) (by simpa using n)
    generalize upd H4 p (.ins T.C_Floor dx [("takes", .ref ra), ("gives", .ref rb)]) = H5 at *
    clear f5
    walk_at "rds"
    intro u H6 bs hu0 s6 hu6 hT
    have hl6 := hT.length
    have hb6 : bs.length < sizeLine := small1000 (by rw [hl6]; exact hbz)
    walk_at "rds"
    refine comp_walk (walks_lst (SqL.of hu6)) hb6 (fun _ => true) (fun i => .int ((hl.belts.map B5.start).getD i 0)) (fun i H' Kc hi sm k => ?_) (fun i H' Kc hi _ sm k => ?_) (fun rc H7 hrc s7 hrc7 => ?_)
    · walk_at "rds"
      exact k H' (Same.refl H')
    · have hil : i < hl.belts.length := by omega
      obtain ⟨t, ht1, ht2⟩ := hT.at (List.getElem?_eq_getElem hil)
      have eb : bs.getD i .non = .ref t := by simp [List.getD, ht1]
      have ed : (hl.belts.map B5.start).getD i 0 = hl.belts[i].start := by simp [List.getD, hil]
      rw [eb]
      rw [ed] at k
      have ht3 := sm _ _ ht2
      generalize hl.belts[i] = bb at *
      dsimp only [B5.v] at ht3
      walk_at "rds"
      exact k H' (Same.refl H')
    have hrc8 : H7 rc = some (.lst ((hl.belts.map B5.start).map V.int)) := by
      rw [hrc7, List.filter_eq_self.mpr (by simp), hl6]
      congr 2
      refine List.ext_getElem (by simp) fun i h1 h2 => ?_
      have : i < hl.belts.length := by simpa using h1
      simp [List.getD, this]
    have s57 := s6.trans s7
    have hp7 := s57 _ _ hp5
    have nprc : p ≠ rc := ne_of hp7 hrc8 (by intro z; cases z)
    walk_at "rds"
    have f8 : Frame [p] H7 (upd H7 p (.ins T.C_Floor dx [("takes", .ref ra), ("gives", .ref rb), ("heaps", .ref rc)])) := frame_upd (by simp) hp7 (by intro _ z; cases z)
    have kk : ∀ x, x ≠ p → H5 x ≠ none → (upd H7 p (.ins T.C_Floor dx [("takes", .ref ra), ("gives", .ref rb), ("heaps", .ref rc)])) x = H5 x := fun x n d => by
      rw [upd_ne n]
      cases e : H5 x with
      | none => exact absurd e d
      | some o => exact s57 _ _ e
    have tt : ∀ b xs, H5 b = some (.tup xs) → (upd H7 p (.ins T.C_Floor dx [("takes", .ref ra), ("gives", .ref rb), ("heaps", .ref rc)])) b = some (.tup xs) := fun b xs z => f8.tups _ _ (s57 _ _ z)
    have k8 : ∀ b o, H b = some o → b ≠ p → (upd H7 p (.ins T.C_Floor dx [("takes", .ref ra), ("gives", .ref rb), ("heaps", .ref rc)])) b = some o := fun b o e n => f8.keep _ _ (s57 _ _ (k5 _ _ e n)) (by simpa using n)
    have fr5 : ∀ {x : Addr}, H5 x = none → H x = none := fun {x} hx => by
      cases e : H x with
      | none => rfl
      | some o =>
        by_cases n : x = p
        · rw [n, hp5] at hx; cases hx
        · rw [k5 _ _ e n] at hx; cases hx
    have fr6 : H6 rc = none → H rc = none := fun hx => fr5 (by
      cases e : H5 rc with
      | none => rfl
      | some o => rw [s6 _ _ e] at hx; cases hx)
    refine q _ (p :: dx :: ra :: rb :: rc :: (ia ++ ib)) ⟨dx, ra, rb, rc, ia, ib, rfl, upd_same, ?_, ?_, ?_, ?_, hLa5.keep tt (fun x hx => kk x (nia x hx) (hLa5.dom x hx)), hLb5.keep tt (fun x hx => kk x (nib x hx) (hLb5.dom x hx)), by simp, Int.natCast_nonneg _⟩ (fun x hx => ?_) k8
    · exact (kk _ npd.symm (by rw [hd5]; simp)).trans hd5
    · exact (kk _ npra.symm (by rw [hra5]; simp)).trans hra5
    · exact (kk _ npra4.symm (by rw [hrb5]; simp)).trans hrb5
    · rw [upd_ne nprc.symm]; exact hrc8
    · simp only [List.mem_cons, List.mem_append] at hx
      rcases hx with rfl | rfl | rfl | rfl | rfl | hx | hx
      · exact .inl rfl
      · exact .inr (.inl rfl)
      · exact .inr (.inr (fr0 hra))
      · exact .inr (.inr (fr3 hrb))
      · exact .inr (.inr (fr6 hrc))
      · exact .inr (.inr (fr0 (hia x hx).1))
      · exact .inr (.inr (fr3 (hib x hx).1))
end
def sp_peaks {K : PySem.W.Frag} {mg : Str → Option Value} (T : Tp K mg) : Sp := fun vs H Q E => ∃ (p r : Addr) (hl : HM) (fp : List Addr) (ws : List Int), vs = [.ref p, .ref r] ∧ HallAt T H p hl fp ∧ hl.names.length ≤ 1000 ∧ hl.belts.length ≤ 1000 ∧ SqL K H r (ws.map V.int) ∧
  (goR hl.names.length hl.belts (hl.belts.map B5.start) ws = .error true → ∀ H', Same H H' → E (.ref T.X_NoWork) none H') ∧ (goR hl.names.length hl.belts (hl.belts.map B5.start) ws = .error false → ∀ H', Same H H' → E (.ref T.X_Empty) none H') ∧
  (∀ hs, goR hl.names.length hl.belts (hl.belts.map B5.start) ws = .ok hs → ∀ f H', H f = none → Same H H' → H' f = some (.lst ((hl.belts.map (pkM ws)).map V.int)) → Q (.ref f) H')
section
variable {P : Program} {w : World} {K : PySem.W.Frag} {mg : Str → Option Value} {base : Heap}
theorem ok_peaks (T : Tp K mg) : FnOk P w K mg base (CXX P w) 9 T.f_peaks T.d_peaks ["hall", "row"] (sp_peaks T) := by
  have G_peak_of : FnOk P w K mg base (CXX P w) 8 T.f_peak_of T.d_peak_of ["row", "works"] (sp_peak_of T) := (ok_peak_of T).mono (by decide)
  have G_Floor_go : FnOk P w K mg base (CXX P w) 8 T.f_Floor_go T.d_Floor_go ["self", "row"] (sp_Floor_go T) := (ok_Floor_go T).mono (by decide)
  have G_Hall_belts : FnOk P w K mg base (CXX P w) 8 T.f_Hall_belts T.d_Hall_belts ["self"] (sp_Hall_belts T) := (ok_Hall_belts T).mono (by decide)
  have G_Floor_init : FnOk P w K mg base (CXX P w) 7 T.f_Floor_init T.d_Floor_init ["self", "hall"] (sp_Floor_init T) := (ok_Floor_init T).mono (by decide)
  have cl_Floor := T.cl_Floor
  have na_Floor := T.na_Floor
  have cl_Hall := T.cl_Hall
  have na_Hall := T.na_Hall
  refine T.F_peaks.okX sc_peaks (fun vs H Q E h => ?_) (fun cdv A outer s H vs Q E hr h => ?_)
  · obtain ⟨p, r, hl, fp, ws, rfl, _⟩ := h
    rfl
  · have hu := hr.units
    obtain ⟨p, r, hl, fp, ws, rfl, hh, hn, hz, hW, e1, e2, q⟩ := h
    refine ⟨_, (pss_cons (ps_expr (pe_meth (pe_make T.mk_Floor G_Floor_init hr rfl T.g_Floor T.b_Floor_init .nil pass_on (pa_cons (pv 0) pa_nil)) T.cl_Floor T.M_Floor_go G_Floor_go hr T.b_Floor_go .nil pass_on (pa_cons (pv 1) pa_nil)))
          (pss_one (ps_ret (pe_comp rfl (cscope (x := "belt_row") (zs := ["row"]) (ix := [1]) (defScope s_peaks) ["hall", "row"] rfl rfl (by decide +kernel)) (pi_listK (K := K) rfl (pe_meth0 (pv 0) T.cl_Hall T.M_Hall_belts G_Hall_belts hr T.b_Hall_belts .nil pass_on)) (fun cl C s H fp => ⟨(pg_name (i := 0) (show (["belt_row", "row"] : List Str).Nodup by decide +kernel) rfl (Or.inl rfl)), pif_nil, (pe_call G_peak_of hr rfl T.m_peak_of T.F_peak_of.kp T.b_peak_of .nil passX0 (pa_cons (pv 0) (pa_cons (pv 1) pa_nil)))⟩))))), ?_⟩
    try dsimp only [L2.cxX, L2.cxOf, L2.cxComp]
    walk_at "rds"
    refine rd_Floor_init hh hn hz (fun f fp1 H1 hf nf s1 => ?_)
    refine Floor_meth hf (by decide +kernel) (by decide +kernel) (by decide +kernel) ?_
    have hr1 := s1.seq hW
    walk_at "rds"
    refine ⟨f, r, ws, _, fp1, rfl, hf, hr1, hz, fun z H' s => e1 z H' (s1.trans s), fun z H' s => e2 z H' (s1.trans s), fun hs z H2 fp2 hf2 fr gr => ?_⟩
    have s2 : Same H H2 := fun b o e => fr.keep _ _ (s1 _ _ e) (fun y => by have := nf b y; rw [e] at this; cases this)
    have hh2 := hh.same s2
    have hr2 := s2.seq hW
    walk_at "rds"
    intro u H3 bs hu0 s3 hu3 hT
    have hl3 := hT.length
    have hb : bs.length < sizeLine := small1000 (by rw [hl3]; exact hz)
    have hr3 := s3.seq hr2
    walk_at "rds"
    refine comp_walk (walks_lst (SqL.of hu3)) hb (fun _ => true) (fun i => .int (pkM ws (hl.belts.getD i dB))) (fun i H' Kc hi sm k => ?_) (fun i H' Kc hi _ sm k => ?_) (fun g H4 hg sm hg' => ?_)
    · walk_at "rds"
      exact k H' (Same.refl H')
    · obtain ⟨t, ht1, ht2⟩ := hT.getD (i := i) (by omega)
      rw [ht1]
      walk_at "rds"
      exact ⟨t, r, _, ws, rfl, sm _ _ ht2, sm.seq hr3, k H' (Same.refl H')⟩
    · refine q hs z g H4 (same_none (s2.trans s3) hg) ((s2.trans s3).trans sm) ?_
      rw [hg', List.filter_eq_self.mpr (by simp), hl3]
      refine congrArg (fun z => some (HO.lst z)) ?_
      refine List.ext_getElem (by simp) fun i h1 h2 => ?_
      have : i < hl.belts.length := by simpa using h1
      simp [List.getD, this]
end
def sp_l_filled {K : PySem.W.Frag} {mg : Str → Option Value} (T : Tp K mg) : Sp := fun vs H Q _ => ∃ (q r f : Addr) (m : Int) (bs : List V) (ls : List B5) (ws hs : List Int), vs = [.ref q, .ref r, .ref f] ∧ H q = some (.lst bs) ∧ Tups H bs ls ∧ ls.length ≤ 1000 ∧ SqL K H r (ws.map V.int) ∧ ws.length ≤ 1000 ∧ SqL K H f ((ls.map (pkM ws)).map V.int) ∧
  goR m ls (ls.map B5.start) ws = .ok hs ∧ ∀ H', Same H H' → Q (.bl true) H'
theorem goR_part {m : Int} {ls : List B5} {st ws hs : List Int} (h : goR m ls st ws = .ok hs) (i : Nat) : ∃ hi, goR m ls st (ws.take i) = .ok hi := by
  cases e : goR m ls st (ws.take i) with
  | ok x => exact ⟨x, rfl⟩
  | error b =>
    have := goR_err (ys := ws.drop i) e
    rw [List.take_append_drop, h] at this
    cases this
theorem goR_ready {m : Int} {ls : List B5} {st ws hs hi : List Int} {i : Nat} (h : goR m ls st ws = .ok hs) (e : goR m ls st (ws.take i) = .ok hi) (hl : i < ws.length) : readyL ls hi ws[i] = true ∧ goR m ls st (ws.take (i + 1)) = .ok (shiftL ls hi ws[i]) := by
  obtain ⟨x, hx⟩ := goR_part h (i + 1)
  have hs' := goR_step e (List.getElem?_eq_getElem hl)
  rw [hx] at hs'
  unfold turnR at hs'
  split at hs'
  · split at hs'
    · rename_i d
      refine ⟨d, ?_⟩
      rw [hx, hs']
    · cases hs'
  · cases hs'
section
variable {P : Program} {w : World} {K : PySem.W.Frag} {mg : Str → Option Value} {base : Heap}
theorem ok_l_filled (T : Tp K mg) : FnOk P w K mg base (CXX P w) 2 T.f_l_filled T.d_l_filled ["_law_lines_here", "_law_row", "_law_rooms"] (sp_l_filled T) := by
  have G_l_turn : FnOk P w K mg base (CXX P w) 1 T.f_l_turn T.d_l_turn ["_law_lines_here", "_law_lying", "_law_work"] (sp_l_turn T) := (ok_l_turn T).mono (by decide)
  have G_l_ready : FnOk P w K mg base (CXX P w) 1 T.f_l_ready T.d_l_ready ["_law_lines_here", "_law_lying", "_law_rooms", "_law_work"] (sp_l_ready T) := (ok_l_ready T).mono (by decide)
  refine T.F_l_filled.okX sc_l_filled (fun vs H Q E h => ?_) (fun cdv A outer s H vs Q E hr h => ?_)
  · obtain ⟨q, r, f, m, bs, ls, ws, hs, rfl, _⟩ := h
    rfl
  · have hu := hr.units
    obtain ⟨qa, r, f, m, bs, ls, ws, hsN, rfl, hq, hT, hz, hW, hwz, hf, hgo, q⟩ := h
    have hbl := hT.length
    refine ⟨_, (pss_cons (ps_comp (j := 3) rfl (cscope (x := "_law_line") (zs := []) (ix := []) (defScope s_l_filled) ["_law_lines_here", "_law_row", "_law_rooms", "_law_lying", "_law_full", "_law_work", "_law_k", "_law_line"] rfl rfl (by decide +kernel)) (pi_listK (K := K) rfl (pv 0)) (fun cl C s H fp => ⟨(pg_name (i := 0) (show (["_law_line"] : List Str).Nodup by decide +kernel) rfl (Or.inl rfl)), pif_nil, (pe_ix (ix_K (K := K) rfl) (pv 0) pe_int (fun _ _ => rfl))⟩) sc_l_filled.nd rfl (Or.inl rfl))
          (pss_cons (ps_set (i := 4) sc_l_filled.nd rfl (Or.inl rfl) pe_dnewK)
          (pss_cons (ps_for PassesOwn.leaving rfl (pi_listK (K := K) rfl (pv 1)) (pg_name (i := 5) sc_l_filled.nd rfl (Or.inl rfl)) (pss_cons (ps_if (pt_not (pt_truK (K := K) rfl (pe_call G_l_ready hr rfl T.m_l_ready T.F_l_ready.kp T.b_l_ready .nil pass_on (pa_cons (pv 0) (pa_cons (pv 3) (pa_cons (pv 2) (pa_cons (pv 5) pa_nil))))) (fun _ => rfl))) (pss_one (ps_ret pe_bl)) pss_nil)
          (pss_cons (ps_for PassesOwn.leaving rfl (pi_enum (K := K) rfl rfl T.n_enumerate (pa_cons (pv 0) pa_nil)) (pg_tupK (K := K) (n := 2) rfl rfl (pgs_cons (pg_name (i := 6) sc_l_filled.nd rfl (Or.inl rfl)) (pgs_cons (pg_name (i := 7) sc_l_filled.nd rfl (Or.inl rfl)) pgs_nil))) (pss_one (ps_if (PW.pt (pw_and (pt_cmpR (op_eqK (K := K) rfl hu) (pe_ix (ix_K (K := K) rfl) (pv 7) pe_int (fun _ _ => rfl)) (pv 5) (nomark _)) (pw_and1 (pt_cmpR (op_eqK (K := K) rfl hu) (pe_op (op_addK (K := K) rfl) (pe_ix (ix_K (K := K) rfl) (pv 3) (pv 6) (fun _ _ => rfl)) (pe_ix (ix_K (K := K) rfl) (pv 7) pe_int (fun _ _ => rfl))) (pe_ix (ix_K (K := K) rfl) (pv 2) (pv 6) (fun _ _ => rfl)) (nomark _))))) (pss_one (ps_asg pe_bl (pg_sub (pv 4) (pv 6) (set_dict hu)))) pss_nil)))
          (pss_one (ps_set (i := 3) sc_l_filled.nd rfl (Or.inl rfl) (pe_call G_l_turn hr rfl T.m_l_turn T.F_l_turn.kp T.b_l_turn .nil pass_on (pa_cons (pv 0) (pa_cons (pv 3) (pa_cons (pv 5) pa_nil)))))))))
          (pss_cons (ps_for PassesOwn.leaving rfl (pi_enum (K := K) rfl rfl T.n_enumerate (pa_cons (pv 0) pa_nil)) (pg_tupK (K := K) (n := 2) rfl rfl (pgs_cons (pg_name (i := 6) sc_l_filled.nd rfl (Or.inl rfl)) (pgs_cons (pg_name (i := 7) sc_l_filled.nd rfl (Or.inl rfl)) pgs_nil))) (pss_one (ps_if (PW.pt (pw_or (pt_cmpR op_lt (pe_ix (ix_K (K := K) rfl) (pv 2) (pv 6) (fun _ _ => rfl)) (pe_ix (ix_K (K := K) rfl) (pv 7) pe_int (fun _ _ => rfl)) (nomark _)) (pw_or1 (PW.pt (pw_and (pt_cmpR op_gt (pe_ix (ix_K (K := K) rfl) (pv 2) (pv 6) (fun _ _ => rfl)) (pe_ix (ix_K (K := K) rfl) (pv 7) pe_int (fun _ _ => rfl)) (nomark _)) (pw_and1 (pt_cmpR (op_dNotIn hu) (pv 6) (pv 4) (by with_unfolding_all rfl)))))))) (pss_one (ps_ret pe_bl)) pss_nil)))
          (pss_one (ps_ret pe_bl)))))), ?_⟩
    try dsimp only [L2.cxX, L2.cxOf, L2.cxComp]
    walk_at "rds"
    refine comp_walk (walks_lst (SqL.of hq)) (small1000 (by omega)) (fun _ => true) (fun i => .int ((ls.map B5.start).getD i 0)) (fun i H' Kc hi sm k => ?_) (fun i H' Kc hi _ sm k => ?_) (fun y0 H1 hy0 s1 hy1 => ?_)
    · walk_at "rds"
      exact k H' (Same.refl H')
    · have hil : i < ls.length := by omega
      obtain ⟨t, ht1, ht2⟩ := hT.at (List.getElem?_eq_getElem hil)
      have eb : bs.getD i .non = .ref t := by simp [List.getD, ht1]
      have ed : (ls.map B5.start).getD i 0 = ls[i].start := by simp [List.getD, hil]
      rw [eb]
      rw [ed] at k
      have ht3 := sm _ _ ht2
      generalize ls[i] = bb at *
      dsimp only [B5.v] at ht3
      walk_at "rds"
      exact k H' (Same.refl H')
    have hy2 : H1 y0 = some (.lst ((ls.map B5.start).map V.int)) := by
      rw [hy1, List.filter_eq_self.mpr (by simp), hbl]
      congr 2
      refine List.ext_getElem (by simp) fun i h1 h2 => ?_
      have : i < ls.length := by simpa using h1
      simp [List.getD, this]
    clear hy1
    walk_at "rds"
    intro d hd
    have s2 : Same H1 (upd H1 d (.dK [])) := same_new hd
    have hd2 : (upd H1 d (.dK [])) d = some (.dK []) := upd_same
    have hd0 : H d = none := same_none s1 hd
    have hy3 := s2 _ _ hy2
    generalize upd H1 d (.dK []) = H2 at *
    have s12 := s1.trans s2
    have hr2 := s12.seq hW
    walk_at "rds"
    refine for_walk (walks_lst hW) (fun i σ H' => ∃ (y : Addr) (hs : List Int) (kvs : List (Key × V)) (a1 a2 a3 : Option V), σ = [some (.ref qa), some (.ref r), some (.ref f), some (.ref y), some (.ref d), a1, a2, a3] ∧ Same H H' ∧ H' y = some (.lst (hs.map V.int)) ∧ H' d = some (.dK kvs) ∧ kvs.length ≤ 1000 * i ∧
      goR m ls (ls.map B5.start) (ws.take i) = .ok hs ∧ ∀ (k : Nat) (hk : k < ls.length), ls[k].start < pkM ws ls[k] → (pkAll ls[k] (ws.take i)).1 = pkM ws ls[k] → (valV kvs (Sum.inl (k : Int))).isSome = true)
      ⟨y0, _, [], _, _, _, rfl, s12, hy3, hd2, Nat.zero_le _, rfl, fun k hk h1 h2 => by rw [← h2] at h1; exact absurd h1 (Int.lt_irrefl _)⟩ (fun i σ H' ⟨_, _, _, _, _, _, _, s, _⟩ => s) ?_ ?_
    · rintro i σ H3 hi ⟨y, hs, kvs, a1, a2, a3, rfl, s3, hy4, hd3, hkl, hgi, hinv⟩
      have hiw : i < ws.length := by simpa using hi
      rw [ints_getD hiw, getD_of hiw]
      have hlen : hs.length = ls.length := goR_len (by simp) hgi
      obtain ⟨rdy, gnext⟩ := goR_ready hgo hgi hiw
      have hroom := fun (k : Nat) (hk : k < ls.length) => pk_room hgi hiw hk
      have hnext := fun (k : Nat) (hk : k < ls.length) => pk_next hgi hiw hk
      generalize ws[i] = w at *
      have hq3 := s3 _ _ hq
      have hT3 : Tups H3 bs ls := hT.keep fun b xs e => s3 _ _ e
      have hf3 := s3.seq hf
      walk_at "rds"
      refine ⟨qa, y, .ref f, w, bs, ls, hs, rfl, .of hq3, hT3, .of hy4, hlen, hz, .inr ⟨f, ls.map (pkM ws), rfl, hf3, by simp, rdy, fun k hk hg => ?_, fun H4 s4 => ?_⟩⟩
      · have e : (ls.map (pkM ws)).getD k 0 = pkM ws ls[k] := by simp [List.getD, hk]
        rw [e]
        exact hroom k hk hg
      have s34 := s3.trans s4
      have hq4 := s34 _ _ hq
      have hy5 := s4 _ _ hy4
      have hd4 := s4 _ _ hd3
      walk_at "rds"
      refine for_walkY (walks_enum (SqL.of hq)) (fun j σ H' => ∃ (kvs' : List (Key × V)) (a2 a3 : Option V), σ = [some (.ref qa), some (.ref r), some (.ref f), some (.ref y), some (.ref d), some (.int w), a2, a3] ∧ Same H H' ∧ H' y = some (.lst (hs.map V.int)) ∧ H' d = some (.dK kvs') ∧ kvs'.length ≤ 1000 * i + j ∧
        (∀ k : Int, (valV kvs (Sum.inl k)).isSome = true → (valV kvs' (Sum.inl k)).isSome = true) ∧ ∀ (k : Nat) (hk : k < ls.length), k < j → ls[k].giver = w → hs.getD k 0 + ls[k].give = pkM ws ls[k] → (valV kvs' (Sum.inl (k : Int))).isSome = true)
        ⟨kvs, _, _, rfl, s34, hy5, hd4, by omega, fun _ h => h, fun k hk h => absurd h (Nat.not_lt_zero _)⟩ (fun i σ H' ⟨_, _, _, _, s, _⟩ => s) ?_ ?_
      · rintro j σ H5 v H6 hj ⟨kvs', a2, a3, rfl, s5, hy6, hd5, hkl', hmono, hin⟩ ⟨t, ht, rfl, rfl⟩
        have hjl : j < ls.length := by omega
        have hjh : j < hs.length := by omega
        obtain ⟨u, hu1, hu2⟩ := hT.at (List.getElem?_eq_getElem hjl)
        have eb : bs.getD j .non = .ref u := by simp [List.getD, hu1]
        have at2 : atI (hs.map V.int) (j : Int) = some (.int (hs.getD j 0)) := atI_nat (by simp [List.getD, hjh])
        have at3 : atI ((ls.map (pkM ws)).map V.int) (j : Int) = some (.int (pkM ws ls[j])) := atI_nat (by simp [hjl])
        rw [eb]
        refine Rd.gtup (.of upd_same) rfl ?_
        have su : Same H5 (upd H5 t (.tup [.int j, .ref u])) := same_new ht
        have hd6 := su _ _ hd5
        have hy7 := su _ _ hy6
        have s6 := s5.trans su
        generalize upd H5 t (.tup [.int j, .ref u]) = H6 at *
        have hf6 := s6.seq hf
        have hu3 := s6 _ _ hu2
        have ndy : y ≠ d := ne_of hy7 hd6 (by intro z; cases z)
        have split : ∀ {kk : List (Key × V)}, (∀ k : Int, (valV kvs' (Sum.inl k)).isSome = true → (valV kk (Sum.inl k)).isSome = true) → (ls[j].giver = w → hs.getD j 0 + ls[j].give = pkM ws ls[j] → (valV kk (Sum.inl (j : Int))).isSome = true) →
            ∀ (k : Nat) (hk : k < ls.length), k < j + 1 → ls[k].giver = w → hs.getD k 0 + ls[k].give = pkM ws ls[k] → (valV kk (Sum.inl (k : Int))).isSome = true := fun {kk} h1 h2 k hk hkj g1 g2 => by
          rcases Nat.lt_succ_iff_lt_or_eq.mp hkj with z | rfl
          · exact h1 _ (hin k hk z g1 g2)
          · exact h2 g1 g2
        have kz : kvs'.length < sizeLine := by
          have h1 : i ≤ 1000 := by omega
          have : (1002000 : Nat) < sizeLine := by decide
          omega
        generalize hL : ls[j] = l at *
        generalize pkM ws l = rm at *
        generalize hs.getD j 0 = hh at *
        dsimp only [B5.v] at hu3
        walk_at "rds"
        refine Rd.ifD (fun c => ?_) (fun c => ?_)
        · walk_at "rds"
          refine Rd.ifD (fun c2 => ?_) (fun c2 => ?_)
          · walk_at "rds"
            refine ⟨putK kvs' (Sum.inl (j : Int)) (.bl true), _, _, rfl, s6.new hd0, by rw [upd_ne ndy]; exact hy7, upd_same, ?_, fun k h => ?_, split (fun k h => ?_) (fun _ _ => ?_)⟩
            · have := length_putK kvs' (Sum.inl (j : Int) : Key) (.bl true)
              omega
            · rw [valV_put]; split; rfl; exact hmono k h
            · rw [valV_put]; split; rfl; exact h
            · rw [valV_put, if_pos rfl]; rfl
          · walk_at "rds"
            exact ⟨kvs', _, _, rfl, s6, hy7, hd6, by omega, hmono, split (fun _ h => h) (fun _ z => absurd z c2)⟩
        · walk_at "rds"
          exact ⟨kvs', _, _, rfl, s6, hy7, hd6, by omega, hmono, split (fun _ h => h) (fun z => absurd z c)⟩
      · rintro σ H5 ⟨kvs', a2, a3, rfl, s5, hy6, hd5, hkl', hmono, hin⟩
        rw [hbl] at hkl' hin
        walk_at "rds"
        refine ⟨qa, y, w, bs, ls, hs, rfl, .of (s5 _ _ hq), hT.keep fun b xs e => s5 _ _ e, .of hy6, hlen, hz, fun y2 H6 hy20 s6 hy26 => ?_⟩
        refine ⟨y2, shiftL ls hs w, kvs', _, _, _, rfl, s5.trans s6, hy26, s6 _ _ hd5, by omega, gnext, fun k hk h1 h2 => ?_⟩
        rcases hnext k hk h2 with z | ⟨z1, z2⟩
        · exact hmono _ (hinv k hk h1 z)
        · exact hin k hk hk z1 z2
    · rintro σ H3 ⟨y, hs, kvs, a1, a2, a3, rfl, s3, hy4, hd3, hkl, hgi, hinv⟩
      rw [List.length_map, List.take_length] at hgi hinv
      have hq3 := s3 _ _ hq
      walk_at "rds"
      refine for_walkY (walks_enum (SqL.of hq)) (fun j σ H' => ∃ (a2 a3 : Option V), σ = [some (.ref qa), some (.ref r), some (.ref f), some (.ref y), some (.ref d), a1, a2, a3] ∧ Same H H' ∧ H' d = some (.dK kvs)) ⟨_, _, rfl, s3, hd3⟩ (fun i σ H' ⟨_, _, _, s, _⟩ => s) ?_ ?_
      · rintro j σ H5 v H6 hj ⟨a2, a3, rfl, s5, hd5⟩ ⟨t, ht, rfl, rfl⟩
        have hjl : j < ls.length := by omega
        obtain ⟨u, hu1, hu2⟩ := hT.at (List.getElem?_eq_getElem hjl)
        have eb : bs.getD j .non = .ref u := by simp [List.getD, hu1]
        have at3 : atI ((ls.map (pkM ws)).map V.int) (j : Int) = some (.int (pkM ws ls[j])) := atI_nat (by simp [hjl])
        rw [eb]
        refine Rd.gtup (.of upd_same) rfl ?_
        have su : Same H5 (upd H5 t (.tup [.int j, .ref u])) := same_new ht
        have hd6 := su _ _ hd5
        have s6 := s5.trans su
        generalize upd H5 t (.tup [.int j, .ref u]) = H6 at *
        have hf6 := s6.seq hf
        have hu3 := s6 _ _ hu2
        have hst := pk_start (b := ls[j]) (ws := ws)
        have hin := hinv j hjl
        have hin2 : ls[j].start < pkM ws ls[j] → (valV kvs (Sum.inl (j : Int))).isSome = true := fun h => hin h rfl
        generalize ls[j] = l at *
        generalize pkM ws l = rm at *
        dsimp only [B5.v] at hu3
        walk_at "rds"
        refine Rd.ifD (fun c2 => ?_) (fun c2 => ?_)
        · walk_at "rds"
          rw [hin2 (by omega)]
          walk_at "rds"
          exact ⟨_, _, rfl, s6, hd6⟩
        · walk_at "rds"
          exact ⟨_, _, rfl, s6, hd6⟩
      · rintro σ H5 ⟨a2, a3, rfl, s5, hd5⟩
        walk_at "rds"
        exact q _ s5
end
def sp_l_refused {K : PySem.W.Frag} {mg : Str → Option Value} (T : Tp K mg) : Sp := fun vs H Q E => ∃ (p r : Addr) (hl : HM) (fp : List Addr) (ws : List Int) (b : Bool), vs = [.ref p, .ref r] ∧ HallAt T H p hl fp ∧ hl.names.length ≤ 1000 ∧ hl.belts.length ≤ 1000 ∧ SqL K H r (ws.map V.int) ∧
  goR hl.names.length hl.belts (hl.belts.map B5.start) ws = .error b ∧ ∀ l H', Same H H' → H' l = some (.lst [.bl (!b), .bl b, .bl true]) → Q (.ref l) H'
section
variable {P : Program} {w : World} {K : PySem.W.Frag} {mg : Str → Option Value} {base : Heap}
theorem ok_l_refused (T : Tp K mg) : FnOk P w K mg base (CXX P w) 10 T.f_l_refused T.d_l_refused ["_law_hall", "_law_row"] (sp_l_refused T) := by
  have G_peaks : FnOk P w K mg base (CXX P w) 9 T.f_peaks T.d_peaks ["hall", "row"] (sp_peaks T) := (ok_peaks T).mono (by decide)
  refine T.F_l_refused.okX sc_l_refused (fun vs H Q E h => ?_) (fun cdv A outer s H vs Q E hr h => ?_)
  · obtain ⟨p, r, hl, fp, ws, b, rfl, _⟩ := h
    rfl
  · have hu := hr.units
    obtain ⟨p, r, hl, fp, ws, b, rfl, hh, hn, hz, hW, hg, q⟩ := h
    have xn := T.xc_NoWork
    have xe := T.xc_Empty
    have k1 := T.ki_NoWork_ValueError
    have k3 := T.ki_NoWork_NoWork
    have k4 := T.ki_NoWork_Empty
    have k5 := T.ki_Empty_ValueError
    have k7 := T.ki_Empty_NoWork
    have k8 := T.ki_Empty_Empty
    refine ⟨_, (pss_cons (ps_tryAs (j := 2) rfl rfl rfl T.mx_RateError (fun J E1 pn xe1 ownT pasT => (pss_one (ps_expr (pe_callJ G_peaks hr rfl T.m_peaks T.F_peaks.kp T.b_peaks .nil pasT (pa_cons (pv 0) (pa_cons (pv 1) pa_nil)))))) (fun A' => (pss_one (ps_ret (pe_lst (pa_cons (pe_callB (isE_K (K := K) rfl) (by rfl) T.n_isinstance PyProof.Rows.boot_isinstance (pa_cons (pv 2) (pa_cons (pe_glob (v := .ref T.X_Empty) rfl T.mx_Empty rfl) pa_nil))) (pa_cons (pe_callB (isE_K (K := K) rfl) (by rfl) T.n_isinstance PyProof.Rows.boot_isinstance (pa_cons (pv 2) (pa_cons (pe_glob (v := .ref T.X_NoWork) rfl T.mx_NoWork rfl) pa_nil))) (pa_cons (pe_callB (isE_K (K := K) rfl) (by rfl) T.n_isinstance PyProof.Rows.boot_isinstance (pa_cons (pv 2) (pa_cons (pe_bltn (v := .ty "ValueError") (by rfl) T.n_ValueError (by first | rfl | decide +kernel) rfl) pa_nil))) pa_nil))))))) sc_l_refused.nd rfl rfl)
          (pss_one (ps_ret (pe_lst pa_nil)))), ?_⟩
    try dsimp only [L2.cxX, L2.cxOf, L2.cxComp]
    walk_at "rds"
    refine L2.Rd.tryAs (fun cls _ H' => Same H H' ∧ ((cls = .ref T.X_NoWork ∧ b = true) ∨ (cls = .ref T.X_Empty ∧ b = false))) ?_ ?_
    · walk_at "rds"
      refine ⟨p, r, hl, fp, ws, rfl, hh, hn, hz, hW, fun z H' s => ⟨s, .inl ⟨rfl, ?_⟩⟩, fun z H' s => ⟨s, .inr ⟨rfl, ?_⟩⟩, fun hs z => ?_⟩
      · rw [hg] at z; injection z
      · rw [hg] at z; injection z
      · rw [hg] at z; cases z
    · rintro cls H1 ⟨s1, ⟨rfl, rfl⟩ | ⟨rfl, rfl⟩⟩
      · refine ⟨T.em_NoWork_RateError, _, rfl, fun ea hea => ?_⟩
        have hex : (upd H1 ea (excO ea T.X_NoWork)) ea = some (excO ea T.X_NoWork) := upd_same
        have s2 : Same H (upd H1 ea (excO ea T.X_NoWork)) := s1.trans (same_new hea)
        generalize upd H1 ea (excO ea T.X_NoWork) = H2 at *
        walk_at "rds"
        refine ⟨by show 3 ≤ sizeLine; decide, fun l hl0 => ?_⟩
        exact q l _ (s2.trans (same_new hl0)) upd_same
      · refine ⟨T.em_Empty_RateError, _, rfl, fun ea hea => ?_⟩
        have hex : (upd H1 ea (excO ea T.X_Empty)) ea = some (excO ea T.X_Empty) := upd_same
        have s2 : Same H (upd H1 ea (excO ea T.X_Empty)) := s1.trans (same_new hea)
        generalize upd H1 ea (excO ea T.X_Empty) = H2 at *
        walk_at "rds"
        refine ⟨by show 3 ≤ sizeLine; decide, fun l hl0 => ?_⟩
        exact q l _ (s2.trans (same_new hl0)) upd_same
end
def sp_l_whole {K : PySem.W.Frag} {mg : Str → Option Value} (T : Tp K mg) : Sp := fun vs H Q _ => ∃ i : Int, vs = [.int i] ∧ Q (.bl true) H
theorem rd_l_whole {K : PySem.W.Frag} {mg : Str → Option Value} {T : Tp K mg} {H : Hp} {Q : VK} {E : XK} {i : Int} (q : Q (.bl true) H) : sp_l_whole T ([.int i] ++ []) H Q E := ⟨i, rfl, q⟩
local macro_rules | `(tactic| walk_at "rd") => `(tactic| first | with_reducible refine Nm.rd_l_whole ?_ | fail "none here")
section
variable {P : Program} {w : World} {K : PySem.W.Frag} {mg : Str → Option Value} {base : Heap}
theorem ok_l_whole (T : Tp K mg) : FnOk P w K mg base (CXX P w) 1 T.f_l_whole T.d_l_whole ["_law_found"] (sp_l_whole T) := by
  refine T.F_l_whole.okX sc_l_whole (fun vs H Q E h => ?_) (fun cdv A outer s H vs Q E hr h => ?_)
  · obtain ⟨i, rfl, _⟩ := h
    rfl
  · have hu := hr.units
    obtain ⟨i, rfl, q⟩ := h
    refine ⟨_, (pss_one (ps_ret (pe_and (pe_callB (isi_K (K := K) rfl) (by rfl) T.n_isinstance PyProof.Rows.boot_isinstance (pa_cons (pv 0) (pa_cons (pe_bltn (v := .ty "int") (by rfl) T.n_int PyProof.Rows.boot_int rfl) pa_nil))) (pe_one (pe_not (pe_callB (isi_K (K := K) rfl) (by rfl) T.n_isinstance PyProof.Rows.boot_isinstance (pa_cons (pv 0) (pa_cons (pe_bltn (v := .ty "bool") (by rfl) T.n_bool PyProof.Rows.boot_bool rfl) pa_nil)))))))), ?_⟩
    try dsimp only [L2.cxX, L2.cxOf, L2.cxComp]
    walk_at "rds"
    exact q
end
theorem at3 {a b c i : Int} (h0 : 0 ≤ i) (h1 : i < 3) : ∃ v, atI [V.int a, V.int b, V.int c] i = some (.int v) ∧ (v = a ∨ v = b ∨ v = c) := by
  have h : i = 0 ∨ i = 1 ∨ i = 2 := by omega
  rcases h with rfl | rfl | rfl
  · exact ⟨a, atI_nat (j := 0) rfl, .inl rfl⟩
  · exact ⟨b, atI_nat (j := 1) rfl, .inr (.inl rfl)⟩
  · exact ⟨c, atI_nat (j := 2) rfl, .inr (.inr rfl)⟩
theorem lay_b3 (a b c : Bool) : (PyData.list [.bool a, .bool b, .bool c]).canLay0 = true := by simp [PyData.canLay0, PyData.canLayAll0]
theorem depth_b3 (a b c : Bool) : (PyData.list [.bool a, .bool b, .bool c]).depth ≤ 60 := by simp [PyData.depth, PyData.depthAll]
section
variable {P : Program} {w : World} {K : PySem.W.Frag} {mg : Str → Option Value} {base : Heap}
theorem ok_law (T : Tp K mg) : FnOk P w K mg base (CXX P w) 11 T.f_law T.d_law ["_law_script"] (sp_law T) := by
  have G_l_lines : FnOk P w K mg base (CXX P w) 10 T.f_l_lines T.d_l_lines ["_law_script", "_law_many"] (sp_l_lines T) := (ok_l_lines T).mono (by decide)
  have G_l_made : FnOk P w K mg base (CXX P w) 10 T.f_l_made T.d_l_made ["_law_many", "_law_lines_here"] (sp_l_made T) := (ok_l_made T).mono (by decide)
  have G_l_drawn_row : FnOk P w K mg base (CXX P w) 10 T.f_l_drawn_row T.d_l_drawn_row ["_law_script", "_law_many", "_law_lines_here"] (sp_l_drawn_row T) := (ok_l_drawn_row T).mono (by decide)
  have G_peaks : FnOk P w K mg base (CXX P w) 10 T.f_peaks T.d_peaks ["hall", "row"] (sp_peaks T) := (ok_peaks T).mono (by decide)
  have G_l_filled : FnOk P w K mg base (CXX P w) 10 T.f_l_filled T.d_l_filled ["_law_lines_here", "_law_row", "_law_rooms"] (sp_l_filled T) := (ok_l_filled T).mono (by decide)
  have G_l_refused : FnOk P w K mg base (CXX P w) 10 T.f_l_refused T.d_l_refused ["_law_hall", "_law_row"] (sp_l_refused T) := (ok_l_refused T).mono (by decide)
  have G_l_cell : FnOk P w K mg base (CXX P w) 10 T.f_l_cell T.d_l_cell ["_law_script", "_law_k"] (sp_l_cell T) := (ok_l_cell T).mono (by decide)
  have G_l_mix : FnOk P w K mg base (CXX P w) 10 T.f_l_mix T.d_l_mix ["_law_cell_here", "_law_way"] (sp_l_mix T) := (ok_l_mix T).mono (by decide)
  have G_l_whole : FnOk P w K mg base (CXX P w) 10 T.f_l_whole T.d_l_whole ["_law_found"] (sp_l_whole T) := (ok_l_whole T).mono (by decide)
  have G_l_ready : FnOk P w K mg base (CXX P w) 10 T.f_l_ready T.d_l_ready ["_law_lines_here", "_law_lying", "_law_rooms", "_law_work"] (sp_l_ready T) := (ok_l_ready T).mono (by decide)
  have G_Hall_belts : FnOk P w K mg base (CXX P w) 10 T.f_Hall_belts T.d_Hall_belts ["self"] (sp_Hall_belts T) := (ok_Hall_belts T).mono (by decide)
  have cl_Hall := T.cl_Hall
  have na_Hall := T.na_Hall
  refine T.F_law.okX sc_law (fun vs H Q E h => ?_) (fun cdv A outer s H vs Q E hr h => ?_)
  · obtain ⟨a, ns, rfl, _⟩ := h
    rfl
  · have hu := hr.units
    obtain ⟨p, ns, rfl, hS, hlen, k⟩ := h
    have e29 : (10 : Int) ^ Int.toNat 29 = 10 ^ 29 := rfl
    refine ⟨_, (pss_cons (ps_set (i := 1) sc_law.nd rfl (Or.inl rfl) (pe_op (op_addK (K := K) rfl) pe_int (pe_op op_mod (pe_call G_l_cell hr rfl T.m_l_cell T.F_l_cell.kp T.b_l_cell .nil pass_on (pa_cons (pv 0) (pa_cons pe_int pa_nil))) pe_int)))
          (pss_cons (ps_cut (ps_if (pt_cmpR (op_eqK (K := K) rfl hu) (pe_op op_mod (pe_call G_l_mix hr rfl T.m_l_mix T.F_l_mix.kp T.b_l_mix .nil pass_on (pa_cons (pe_call G_l_cell hr rfl T.m_l_cell T.F_l_cell.kp T.b_l_cell .nil pass_on (pa_cons (pv 0) (pa_cons pe_int pa_nil))) (pa_cons pe_int pa_nil))) pe_int) pe_int (nomark _)) (pss_one (ps_set (i := 1) sc_law.nd rfl (Or.inl rfl) (pe_op (op_addK (K := K) rfl) pe_int (pe_op op_mod (pe_op op_fdivG (pe_call G_l_mix hr rfl T.m_l_mix T.F_l_mix.kp T.b_l_mix .nil pass_on (pa_cons (pe_call G_l_cell hr rfl T.m_l_cell T.F_l_cell.kp T.b_l_cell .nil pass_on (pa_cons (pv 0) (pa_cons pe_int pa_nil))) (pa_cons pe_int pa_nil))) pe_int) pe_int)))) pss_nil))
          (pss_cons (ps_set (i := 2) sc_law.nd rfl (Or.inr rfl) (pe_call G_l_lines hr rfl T.m_l_lines T.F_l_lines.kp T.b_l_lines .nil pass_on (pa_cons (pv 0) (pa_cons (pv 1) pa_nil))))
          (pss_cons (ps_set (i := 3) sc_law.nd rfl (Or.inl rfl) (pe_call G_l_made hr rfl T.m_l_made T.F_l_made.kp T.b_l_made .nil pass_on (pa_cons (pv 1) (pa_cons (pv 2) pa_nil))))
          (pss_cons (ps_asg (pe_call G_l_drawn_row hr rfl T.m_l_drawn_row T.F_l_drawn_row.kp T.b_l_drawn_row .nil pass_on (pa_cons (pv 0) (pa_cons (pv 1) (pa_cons (pv 2) pa_nil)))) (pg_tupK (K := K) (n := 2) rfl rfl (pgs_cons (pg_name (i := 4) sc_law.nd rfl (Or.inl rfl)) (pgs_cons (pg_name (i := 5) sc_law.nd rfl (Or.inr rfl)) pgs_nil))))
          (pss_cons (ps_set (i := 6) sc_law.nd rfl (Or.inl rfl) (pe_callTy (listOf_K (K := K) rfl) (by rfl) T.n_list PyProof.Rows.boot_list (pa_cons (pv 4) pa_nil)))
          (pss_cons (ps_set (i := 7) sc_law.nd rfl (Or.inl rfl) (pe_call G_peaks hr rfl T.m_peaks T.F_peaks.kp T.b_peaks .nil pass_on (pa_cons (pv 3) (pa_cons (pv 6) pa_nil))))
          (pss_cons (ps_if (PW.pt (pw_or (pt_not (pt_truK (K := K) rfl (pe_callB (isi_K (K := K) rfl) (by rfl) T.n_isinstance PyProof.Rows.boot_isinstance (pa_cons (pv 7) (pa_cons (pe_bltn (v := .ty "list") (by rfl) T.n_list PyProof.Rows.boot_list rfl) pa_nil))) (fun _ => rfl))) (pw_or (pt_cmpR (op_neK (K := K) rfl hu) (pe_callB (len_K (K := K) rfl) (by rfl) T.n_len PySem.boot_len (pa_cons (pv 7) pa_nil)) (pe_callB (len_K (K := K) rfl) (by rfl) T.n_len PySem.boot_len (pa_cons (pv 2) pa_nil)) (nomark _)) (pw_or (pt_cmpR (op_neK (K := K) rfl hu) (pv 6) (pv 4) (nomark _)) (pw_or1 (pt_cmpR (op_neK (K := K) rfl hu) (pe_meth0 (pv 3) T.cl_Hall T.M_Hall_belts G_Hall_belts hr T.b_Hall_belts .nil pass_on) (pv 2) (nomark _))))))) (pss_one (ps_ret pe_bl)) pss_nil)
          (pss_cons (ps_for PassesOwn.leaving rfl (pi_listK (K := K) rfl (pv 7)) (pg_name (i := 8) sc_law.nd rfl (Or.inl rfl)) (pss_one (ps_if (pt_not (pt_truK (K := K) rfl (pe_call G_l_whole hr rfl T.m_l_whole T.F_l_whole.kp T.b_l_whole .nil pass_on (pa_cons (pv 8) pa_nil)) (fun _ => rfl))) (pss_one (ps_ret pe_bl)) pss_nil)))
          (pss_cons (ps_if (pt_not (pt_truK (K := K) rfl (pe_call G_l_filled hr rfl T.m_l_filled T.F_l_filled.kp T.b_l_filled .nil pass_on (pa_cons (pv 2) (pa_cons (pv 4) (pa_cons (pv 7) pa_nil)))) (fun _ => rfl))) (pss_one (ps_ret pe_bl)) pss_nil)
          (pss_cons (ps_set (i := 9) sc_law.nd rfl (Or.inl rfl) (pe_ix (ix_K (K := K) rfl) (pe_lst (pa_cons (pv 1) (pa_cons (pe_un un_neg pe_int) (pa_cons (pe_op (op_addK (K := K) rfl) (pv 1) (pe_op op_mod (pe_call G_l_cell hr rfl T.m_l_cell T.F_l_cell.kp T.b_l_cell .nil pass_on (pa_cons (pv 0) (pa_cons pe_int pa_nil))) (pe_op op_pow pe_int pe_int))) pa_nil)))) (pe_op op_mod (pe_call G_l_cell hr rfl T.m_l_cell T.F_l_cell.kp T.b_l_cell .nil pass_on (pa_cons (pv 0) (pa_cons pe_int pa_nil))) pe_int) (fun _ _ => rfl)))
          (pss_cons (ps_if (pt_cmpR (op_neK (K := K) rfl hu) (pe_call G_l_refused hr rfl T.m_l_refused T.F_l_refused.kp T.b_l_refused .nil pass_on (pa_cons (pv 3) (pa_cons (pe_op (op_addK (K := K) rfl) (pv 4) (pe_lst (pa_cons (pv 9) pa_nil))) pa_nil))) (pe_lst (pa_cons pe_bl (pa_cons pe_bl (pa_cons pe_bl pa_nil)))) (nomark _)) (pss_one (ps_ret pe_bl)) pss_nil)
          (pss_cons (ps_comp (j := 10) rfl (cscope (x := "_law_work") (zs := ["_law_lines_here", "_law_lying"]) (ix := [2, 5]) (defScope s_law) ["_law_script", "_law_many", "_law_lines_here", "_law_hall", "_law_row", "_law_lying", "_law_handed", "_law_found", "_law_room", "_law_far", "_law_still"] rfl rfl (by decide +kernel)) (pi_range1 rfl T.n_range (pa_cons (pv 1) pa_nil)) (fun cl C s H fp => ⟨(pg_name (i := 0) (show (["_law_work", "_law_lines_here", "_law_lying"] : List Str).Nodup by decide +kernel) rfl (Or.inl rfl)), (pif_one (pt_not (pt_truK (K := K) rfl (pe_call G_l_ready hr rfl T.m_l_ready T.F_l_ready.kp T.b_l_ready .nil passX0 (pa_cons (pv 1) (pa_cons (pv 2) (pa_cons pe_non (pa_cons (pv 0) pa_nil))))) (fun _ => rfl)))), (pv 0)⟩) sc_law.nd rfl (Or.inl rfl))
          (pss_cons (ps_if (pt_cmpR (op_eqK (K := K) rfl hu) (pe_callB (len_K (K := K) rfl) (by rfl) T.n_len PySem.boot_len (pa_cons (pv 10) pa_nil)) pe_int (nomark _)) (pss_one (ps_ret pe_bl)) pss_nil)
          (pss_one (ps_ret (pe_cmpR (op_eqK (K := K) rfl hu) (pe_call G_l_refused hr rfl T.m_l_refused T.F_l_refused.kp T.b_l_refused .nil pass_on (pa_cons (pv 3) (pa_cons (pe_op (op_addK (K := K) rfl) (pv 4) (pe_lst (pa_cons (pe_ix (ix_K (K := K) rfl) (pv 10) (pe_op op_mod (pe_call G_l_cell hr rfl T.m_l_cell T.F_l_cell.kp T.b_l_cell .nil pass_on (pa_cons (pv 0) (pa_cons pe_int pa_nil))) (pe_callB (len_K (K := K) rfl) (by rfl) T.n_len PySem.boot_len (pa_cons (pv 10) pa_nil))) (fun _ _ => rfl)) (pa_cons pe_int pa_nil)))) pa_nil))) (pe_lst (pa_cons pe_bl (pa_cons pe_bl (pa_cons pe_bl pa_nil)))) (nomark _)))))))))))))))))), ?_⟩
    try dsimp only [L2.cxX, L2.cxOf, L2.cxComp]
    walk_at "rds"
    refine Rd.cut (fun σ' H' => H' = H ∧ ∃ m : Int, σ' = [some (.ref p), some (.int m), none, none, none, none, none, none, none, none, none] ∧ 1 ≤ m ∧ m ≤ 30) ?k1 ?i1
    case i1 =>
      walk_at "rds"
      refine Rd.ifD (fun c => ?_) (fun c => ?_)
      · walk_at "rds"
        exact ⟨rfl, _, rfl, by omega, by omega⟩
      · walk_at "rds"
        exact ⟨rfl, _, rfl, by omega, by omega⟩
    case k1 =>
      rintro σ' H' ⟨rfl, m, rfl, m1, m2⟩
      walk_at "rds"
      refine ⟨p, m, ns, rfl, hS, m1, fun q H1 bs ls hq0 s1 hq1 hT1 hl hd => ?_⟩
      have hbl := hT1.length
      walk_at "rds"
      refine ⟨m, q, bs, ls, rfl, m1, m2, hq1, hT1, hl, hd, fun hp fp H2 hh s2 => ?_⟩
      have s12 := s1.trans s2
      have hq2 := s2 _ _ hq1
      have hT2 : Tups H2 bs ls := hT1.keep fun b xs e => s2 _ _ e
      have em : (((List.range m.toNat).map nm17).length : Int) = m := by simp; omega
      have emn : ((List.range m.toNat).map nm17).length ≤ 1000 := by simp; omega
      have hz : ls.length ≤ 1000 := by omega
      walk_at "rds"
      refine ⟨p, m, q, ns, bs, ls, rfl, s12.seq hS, hlen, m1, m2, hq2, hT2, hz, fun r y t ws hs H3 s3 ht3 hr3 hy3 hwl hgo => ?_⟩
      refine Rd.gtup (.of ht3) rfl ?_
      have hhl : hs.length = ls.length := goR_len (by simp) hgo
      have sqr3 : SqL K H3 r (ws.map V.int) := .of hr3
      walk_at "rds"
      refine Rd.listOfL sqr3 (fun d hd0 => ?_)
      have s4 : Same H3 (upd H3 d (.lst (ws.map V.int))) := same_new hd0
      have hd4 : (upd H3 d (.lst (ws.map V.int))) d = some (.lst (ws.map V.int)) := upd_same
      generalize upd H3 d (.lst (ws.map V.int)) = H4 at *
      have s24 := s3.trans s4
      have hh4 := hh.same s24
      walk_at "rds"
      refine ⟨hp, d, _, fp, ws, rfl, hh4, emn, hz, .of hd4, fun z => (by dsimp only at z; rw [em, hgo] at z; cases z), fun z => (by dsimp only at z; rw [em, hgo] at z; cases z), fun hs' z f H5 hf0 s5 hf5 => ?_⟩
      clear z hs'
      have hf6 : H5 f = some (.lst ((ls.map (pkM ws)).map V.int)) := hf5
      clear hf5
      have s25 := s24.trans s5
      have s45 := s4.trans s5
      have hq5 := s25 _ _ hq2
      have hT5 : Tups H5 bs ls := hT2.keep fun b xs e => s25 _ _ e
      have elen : (((ls.map (pkM ws)).map V.int).length : Int) = (bs.length : Int) := by simp [hbl]
      have hh5 := hh.same s25
      walk_at "rds"
      refine Rd.neInts (.of (s5 _ _ hd4)) (.of (s45 _ _ hr3)) ?_
      walk_at "rds"
      intro u H6 bs2 hu0 s6 hu6 hT6
      walk_at "rds"
      refine neB5s (.of hu6) hT6 (.of (s6 _ _ hq5)) (hT5.keep fun b xs e => s6 _ _ e) ?_
      have s26 := s25.trans s6
      have hf7 := s6 _ _ hf6
      walk_at "rds"
      refine for_walk (walks_lst (SqL.of hf7)) (fun i σ H' => H' = H6 ∧ ∃ a1, σ = [some (.ref p), some (.int m), some (.ref q), some (.ref hp), some (.ref r), some (.ref y), some (.ref d), some (.ref f), a1, none, none]) ⟨rfl, _, rfl⟩ (fun i σ H' h => h.1 ▸ Same.refl H6) ?_ ?_
      · rintro i σ H' hi ⟨rfl, a1, rfl⟩
        have hi' : i < (ls.map (pkM ws)).length := by simpa using hi
        rw [ints_getD hi']
        walk_at "rds"
        exact ⟨rfl, _, rfl⟩
      · rintro σ H' ⟨rfl, a1, rfl⟩
        have hq6 := s26 _ _ hq2
        have s36 := s45.trans s6
        have hr6 := s36 _ _ hr3
        have hT6b : Tups H' bs ls := hT2.keep fun b xs e => s26 _ _ e
        walk_at "rds"
        refine ⟨q, r, f, m, bs, ls, ws, hs, rfl, hq6, hT6b, hz, .of hr6, by omega, .of hf7, hgo, fun H7 s7 => ?_⟩
        have s27 := s26.trans s7
        have s37 := s36.trans s7
        have hS7 := (s12.trans s27).seq hS
        have hr7 := s37 _ _ hr3
        have hy7 := s37 _ _ hy3
        have hq7 := s27 _ _ hq2
        have hh7 := hh.same s27
        have hT7 : Tups H7 bs ls := hT2.keep fun b xs e => s27 _ _ e
        clear hq6 hr6 hT6b hh5 hh4 hT6 hu6 hT5 hq5 hf7 hf6 hd4 sqr3 hu0 s6 s26 s36 s25 s45 s24 s4 s5
        walk_at "rds"
        rename_i c3
        refine ⟨by show 3 ≤ sizeLine; decide, fun o ho => ?_⟩
        rw [e29] at *
        have so : Same H7 (upd H7 o (.lst [V.int m, V.int (-1), V.int (m + c3 % 10 ^ 29)])) := same_new ho
        have ho8 : (upd H7 o (.lst [V.int m, V.int (-1), V.int (m + c3 % 10 ^ 29)])) o = some (.lst [V.int m, V.int (-1), V.int (m + c3 % 10 ^ 29)]) := upd_same
        generalize upd H7 o (.lst [V.int m, V.int (-1), V.int (m + c3 % 10 ^ 29)]) = H8 at *
        have hS8 := so.seq hS7
        walk_at "rds"
        rename_i c4
        obtain ⟨v, hv, hv2⟩ := at3 (a := m) (b := -1) (c := m + c3 % 10 ^ 29) (i := c4 % 3) (by omega) (by omega)
        have hv3 : ¬ (0 ≤ v ∧ v < m) := by omega
        refine Rd.ixuL (.of ho8) hv ?_
        have hr8 := so _ _ hr7
        walk_at "rds"
        refine (fun e1 he1 => ?_)
        have t1 : Same H8 (upd H8 e1 (.lst [V.int v])) := same_new he1
        have g1 : (upd H8 e1 (.lst [V.int v])) e1 = some (.lst ([v].map V.int)) := upd_same
        generalize upd H8 e1 (.lst [V.int v]) = H9 at *
        have hr9 := t1 _ _ hr8
        refine Rd.addL hr9 g1 (Nat.le_of_lt (small1000 (by simp; omega))) (fun e2 he2 => ?_)
        rw [← List.map_append]
        have t2 : Same H9 (upd H9 e2 (.lst ((ws ++ [v]).map V.int))) := same_new he2
        have g2 : (upd H9 e2 (.lst ((ws ++ [v]).map V.int))) e2 = some (.lst ((ws ++ [v]).map V.int)) := upd_same
        generalize upd H9 e2 (.lst ((ws ++ [v]).map V.int)) = HA at *
        have s7A := (so.trans t1).trans t2
        have hhA := hh7.same s7A
        walk_at "rds"
        refine ⟨hp, e2, _, fp, ws ++ [v], true, rfl, hhA, emn, hz, .of g2, ?_, fun l HB sB hlB => ?_⟩
        · dsimp only
          rw [em, goR_append hgo, goR_one]
          unfold turnR
          rw [if_neg hv3]
        walk_at "rds"
        refine ⟨by show 3 ≤ sizeLine; decide, fun e3 he3 => ?_⟩
        have t3 : Same HB (upd HB e3 (.lst [.bl false, .bl true, .bl true])) := same_new he3
        have g3 : (upd HB e3 (.lst [.bl false, .bl true, .bl true])) e3 = some (.lst [.bl false, .bl true, .bl true]) := upd_same
        have hlC := t3 _ _ hlB
        generalize upd HB e3 (.lst [.bl false, .bl true, .bl true]) = HC at *
        refine Rd.neUD (dx := .list [.bool false, .bool true, .bool true]) (dy := .list [.bool false, .bool true, .bool true]) (.lst (.of hlC) (.cons (.bl _) (.cons (.bl _) (.cons (.bl _) .nil)))) (.lst (.of g3) (.cons (.bl _) (.cons (.bl _) (.cons (.bl _) .nil)))) (lay_b3 _ _ _) (lay_b3 _ _ _) (depth_b3 _ _ _) ?_
        rw [SeqAt.eqv_refl _ (lay_b3 _ _ _)]
        have s7C := (s7A.trans sB).trans t3
        have hSC := s7C.seq hS7
        have hrC := s7C _ _ hr7
        have hyC := s7C _ _ hy7
        have hqC := s7C _ _ hq7
        have hTC : Tups HC bs ls := hT7.keep fun b xs e => s7C _ _ e
        have hhC := hh7.same s7C
        clear hlC g3 hlB g2 g1 hr9 hhA hr8 ho8 hS8 s7A t3 sB t2 t1 so
        walk_at "rds"
        refine comp_walk walks_rng (small1000 (by omega)) (fun j => !readyL ls hs (0 + (j : Int))) (fun j => .int (0 + (j : Int))) (fun j H' Kc hj sm k => ?_) (fun j H' Kc hj hcj sm k => ?_) (fun so HD hso sD hso7 => ?_)
        · walk_at "rds"
          refine ⟨q, y, .non, _, bs, ls, hs, rfl, .of (sm _ _ hqC), hTC.keep fun b xs e => sm _ _ e, .of (sm _ _ hyC), hhl, hz, .inl ⟨rfl, fun H' s => ?_⟩⟩
          walk_at "rds"
          exact k H' s
        · walk_at "rds"
          exact k H' (Same.refl H')
        generalize hsm : ((List.range m.toNat).filter fun j : Nat => !readyL ls hs (0 + (j : Int))).map (fun j : Nat => 0 + (j : Int)) = som
        have hso8 : HD so = some (.lst (som.map V.int)) := by rw [hso7, ← hsm, List.map_map]; rfl
        have hsome : ∀ x ∈ som, 0 ≤ x ∧ x < m ∧ readyL ls hs x = false := by
          intro x hx
          rw [← hsm] at hx
          obtain ⟨j, hj, rfl⟩ := List.mem_map.mp hx
          obtain ⟨j1, j2⟩ := List.mem_filter.mp hj
          have := List.mem_range.mp j1
          exact ⟨by omega, by omega, by simpa using j2⟩
        clear hso7
        have hSD := sD.seq hSC
        have hrD := sD _ _ hrC
        have hhD := hhC.same sD
        walk_at "rds"
        refine Rd.ifD (fun c => ?_) (fun c => ?_)
        · walk_at "rds"
          exact k _
        · have lpi : 0 < ((som.map V.int).length : Int) := by omega
          walk_at "rds"
          rename_i c5
          have k1 : 0 ≤ c5 % ((som.map V.int).length : Int) := Int.emod_nonneg _ (by omega)
          have k2 : c5 % ((som.map V.int).length : Int) < ((som.map V.int).length : Int) := Int.emod_lt_of_pos _ lpi
          generalize c5 % ((som.map V.int).length : Int) = ix at *
          rw [List.length_map] at k2
          have at1 := at_ints k1 k2
          have hm : som.getD ix.toNat 0 ∈ som := by
            rw [getD_of (show ix.toNat < som.length by omega)]; exact List.getElem_mem _
          obtain ⟨x0, x1, x2⟩ := hsome _ hm
          generalize som.getD ix.toNat 0 = x at *
          refine Rd.ixuL (.of hso8) at1 ?_
          walk_at "rds"
          refine ⟨by show 2 ≤ sizeLine; decide, fun e1 he1 => ?_⟩
          have t1 : Same HD (upd HD e1 (.lst [V.int x, V.int 0])) := same_new he1
          have g1 : (upd HD e1 (.lst [V.int x, V.int 0])) e1 = some (.lst ([x, 0].map V.int)) := upd_same
          generalize upd HD e1 (.lst [V.int x, V.int 0]) = H9 at *
          have hr9 := t1 _ _ hrD
          refine Rd.addL hr9 g1 (Nat.le_of_lt (small1000 (by simp; omega))) (fun e2 he2 => ?_)
          rw [← List.map_append]
          have t2 : Same H9 (upd H9 e2 (.lst ((ws ++ [x, 0]).map V.int))) := same_new he2
          have g2 : (upd H9 e2 (.lst ((ws ++ [x, 0]).map V.int))) e2 = some (.lst ((ws ++ [x, 0]).map V.int)) := upd_same
          generalize upd H9 e2 (.lst ((ws ++ [x, 0]).map V.int)) = HA at *
          have hhA := hhD.same (t1.trans t2)
          walk_at "rds"
          refine ⟨hp, e2, _, fp, ws ++ [x, 0], false, rfl, hhA, emn, hz, .of g2, ?_, fun l HB sB hlB => ?_⟩
          · dsimp only
            rw [em, goR_append hgo]
            show (match turnR m ls hs x with | .ok hs' => goR m ls hs' [0] | .error e => .error e) = _
            have : turnR m ls hs x = .error false := by
              unfold turnR
              rw [if_pos ⟨x0, x1⟩, x2]
              rfl
            rw [this]
          walk_at "rds"
          refine ⟨by show 3 ≤ sizeLine; decide, fun e3 he3 => ?_⟩
          have t3 : Same HB (upd HB e3 (.lst [.bl true, .bl false, .bl true])) := same_new he3
          have g3 : (upd HB e3 (.lst [.bl true, .bl false, .bl true])) e3 = some (.lst [.bl true, .bl false, .bl true]) := upd_same
          have hlC := t3 _ _ hlB
          generalize upd HB e3 (.lst [.bl true, .bl false, .bl true]) = HE at *
          refine Rd.eqUD (dx := .list [.bool true, .bool false, .bool true]) (dy := .list [.bool true, .bool false, .bool true]) (.lst (.of hlC) (.cons (.bl _) (.cons (.bl _) (.cons (.bl _) .nil)))) (.lst (.of g3) (.cons (.bl _) (.cons (.bl _) (.cons (.bl _) .nil)))) (lay_b3 _ _ _) (lay_b3 _ _ _) (depth_b3 _ _ _) ?_
          rw [SeqAt.eqv_refl _ (lay_b3 _ _ _)]
          exact k _
end
theorem bd_l_mix {K : PySem.W.Frag} {f : Addr} {fd : FuncData} (F : Fun K "_law_mix" "_law_mix" s_l_mix f fd) : Binds K fd ["_law_cell_here", "_law_way"] [] := F.binds fun _ _ _ _ _ _ us hl => (match us, hl with | [_, _], _ => rfl)
theorem bd_l_cell {K : PySem.W.Frag} {f : Addr} {fd : FuncData} (F : Fun K "_law_cell" "_law_cell" s_l_cell f fd) : Binds K fd ["_law_script", "_law_k"] [] := F.binds fun _ _ _ _ _ _ us hl => (match us, hl with | [_, _], _ => rfl)
theorem bd_l_lines {K : PySem.W.Frag} {f : Addr} {fd : FuncData} (F : Fun K "_law_lines" "_law_lines" s_l_lines f fd) : Binds K fd ["_law_script", "_law_many"] [] := F.binds fun _ _ _ _ _ _ us hl => (match us, hl with | [_, _], _ => rfl)
theorem bd_is_name {K : PySem.W.Frag} {f : Addr} {fd : FuncData} (F : Fun K "is_name" "is_name" s_is_name f fd) : Binds K fd ["thing"] [] := F.binds fun _ _ _ _ _ _ us hl => (match us, hl with | [_], _ => rfl)
theorem bd_Hall_work {K : PySem.W.Frag} {f : Addr} {fd : FuncData} (F : Fun K "work" "Hall.work" s_Hall_work f fd) : Binds K fd ["self", "name"] [] := F.binds fun _ _ _ _ _ _ us hl => (match us, hl with | [_, _], _ => rfl)
theorem bd_is_whole {K : PySem.W.Frag} {f : Addr} {fd : FuncData} (F : Fun K "is_whole" "is_whole" s_is_whole f fd) : Binds K fd ["thing"] [] := F.binds fun _ _ _ _ _ _ us hl => (match us, hl with | [_], _ => rfl)
theorem bd_is_from {K : PySem.W.Frag} {f : Addr} {fd : FuncData} (F : Fun K "is_from" "is_from" s_is_from f fd) : Binds K fd ["thing", "least"] [] := F.binds fun _ _ _ _ _ _ us hl => (match us, hl with | [_, _], _ => rfl)
theorem bd_need_start {K : PySem.W.Frag} {f : Addr} {fd : FuncData} (F : Fun K "need_start" "need_start" s_need_start f fd) : Binds K fd ["start"] [] := F.binds fun _ _ _ _ _ _ us hl => (match us, hl with | [_], _ => rfl)
theorem bd_is_number_below {K : PySem.W.Frag} {f : Addr} {fd : FuncData} (F : Fun K "is_number_below" "is_number_below" s_is_number_below f fd) : Binds K fd ["thing", "bound"] [] := F.binds fun _ _ _ _ _ _ us hl => (match us, hl with | [_, _], _ => rfl)
theorem bd_Hall_need_work {K : PySem.W.Frag} {f : Addr} {fd : FuncData} (F : Fun K "need_work" "Hall.need_work" s_Hall_need_work f fd) : Binds K fd ["self", "work"] [] := F.binds fun _ _ _ _ _ _ us hl => (match us, hl with | [_, _], _ => rfl)
theorem bd_Hall_lay {K : PySem.W.Frag} {f : Addr} {fd : FuncData} (F : Fun K "lay" "Hall.lay" s_Hall_lay f fd) : Binds K fd ["self", "row"] [] := F.binds fun _ _ _ _ _ _ us hl => (match us, hl with | [_, _], _ => rfl)
theorem bd_Hall_init {K : PySem.W.Frag} {f : Addr} {fd : FuncData} (F : Fun K "__init__" "Hall.__init__" s_Hall_init f fd) : Binds K fd ["self"] [] := F.binds fun _ _ _ _ _ _ us hl => (match us, hl with | [_], _ => rfl)
theorem bd_l_made {K : PySem.W.Frag} {f : Addr} {fd : FuncData} (F : Fun K "_law_made" "_law_made" s_l_made f fd) : Binds K fd ["_law_many", "_law_lines_here"] [] := F.binds fun _ _ _ _ _ _ us hl => (match us, hl with | [_, _], _ => rfl)
theorem bd_l_turn {K : PySem.W.Frag} {f : Addr} {fd : FuncData} (F : Fun K "_law_turn" "_law_turn" s_l_turn f fd) : Binds K fd ["_law_lines_here", "_law_lying", "_law_work"] [] := F.binds fun _ _ _ _ _ _ us hl => (match us, hl with | [_, _, _], _ => rfl)
theorem bd_l_ready {K : PySem.W.Frag} {f : Addr} {fd : FuncData} (F : Fun K "_law_ready" "_law_ready" s_l_ready f fd) : Binds K fd ["_law_lines_here", "_law_lying", "_law_rooms", "_law_work"] [] := F.binds fun _ _ _ _ _ _ us hl => (match us, hl with | [_, _, _, _], _ => rfl)
theorem bd_l_drawn_row {K : PySem.W.Frag} {f : Addr} {fd : FuncData} (F : Fun K "_law_drawn_row" "_law_drawn_row" s_l_drawn_row f fd) : Binds K fd ["_law_script", "_law_many", "_law_lines_here"] [] := F.binds fun _ _ _ _ _ _ us hl => (match us, hl with | [_, _, _], _ => rfl)
theorem bd_peak_of {K : PySem.W.Frag} {f : Addr} {fd : FuncData} (F : Fun K "peak_of" "peak_of" s_peak_of f fd) : Binds K fd ["row", "works"] [] := F.binds fun _ _ _ _ _ _ us hl => (match us, hl with | [_, _], _ => rfl)
theorem bd_enough {K : PySem.W.Frag} {f : Addr} {fd : FuncData} (F : Fun K "enough" "enough" s_enough f fd) : Binds K fd ["heaps", "takes"] [] := F.binds fun _ _ _ _ _ _ us hl => (match us, hl with | [_, _], _ => rfl)
theorem bd_Floor_need_work {K : PySem.W.Frag} {f : Addr} {fd : FuncData} (F : Fun K "need_work" "Floor.need_work" s_Floor_need_work f fd) : Binds K fd ["self", "work"] [] := F.binds fun _ _ _ _ _ _ us hl => (match us, hl with | [_, _], _ => rfl)
theorem bd_Floor_go {K : PySem.W.Frag} {f : Addr} {fd : FuncData} (F : Fun K "go" "Floor.go" s_Floor_go f fd) : Binds K fd ["self", "row"] [] := F.binds fun _ _ _ _ _ _ us hl => (match us, hl with | [_, _], _ => rfl)
theorem bd_Hall_belts {K : PySem.W.Frag} {f : Addr} {fd : FuncData} (F : Fun K "belts" "Hall.belts" s_Hall_belts f fd) : Binds K fd ["self"] [] := F.binds fun _ _ _ _ _ _ us hl => (match us, hl with | [_], _ => rfl)
theorem bd_Hall_entering {K : PySem.W.Frag} {f : Addr} {fd : FuncData} (F : Fun K "entering" "Hall.entering" s_Hall_entering f fd) : Binds K fd ["self", "work"] [] := F.binds fun _ _ _ _ _ _ us hl => (match us, hl with | [_, _], _ => rfl)
theorem bd_Hall_need_belt {K : PySem.W.Frag} {f : Addr} {fd : FuncData} (F : Fun K "need_belt" "Hall.need_belt" s_Hall_need_belt f fd) : Binds K fd ["self", "belt"] [] := F.binds fun _ _ _ _ _ _ us hl => (match us, hl with | [_, _], _ => rfl)
theorem bd_Hall_belt_at {K : PySem.W.Frag} {f : Addr} {fd : FuncData} (F : Fun K "belt_at" "Hall.belt_at" s_Hall_belt_at f fd) : Binds K fd ["self", "belt"] [] := F.binds fun _ _ _ _ _ _ us hl => (match us, hl with | [_, _], _ => rfl)
theorem bd_takes_of {K : PySem.W.Frag} {f : Addr} {fd : FuncData} (F : Fun K "takes_of" "takes_of" s_takes_of f fd) : Binds K fd ["hall", "work"] [] := F.binds fun _ _ _ _ _ _ us hl => (match us, hl with | [_, _], _ => rfl)
theorem bd_Hall_leaving {K : PySem.W.Frag} {f : Addr} {fd : FuncData} (F : Fun K "leaving" "Hall.leaving" s_Hall_leaving f fd) : Binds K fd ["self", "work"] [] := F.binds fun _ _ _ _ _ _ us hl => (match us, hl with | [_, _], _ => rfl)
theorem bd_gives_of {K : PySem.W.Frag} {f : Addr} {fd : FuncData} (F : Fun K "gives_of" "gives_of" s_gives_of f fd) : Binds K fd ["hall", "work"] [] := F.binds fun _ _ _ _ _ _ us hl => (match us, hl with | [_, _], _ => rfl)
theorem bd_Hall_names {K : PySem.W.Frag} {f : Addr} {fd : FuncData} (F : Fun K "names" "Hall.names" s_Hall_names f fd) : Binds K fd ["self"] [] := F.binds fun _ _ _ _ _ _ us hl => (match us, hl with | [_], _ => rfl)
theorem bd_Floor_init {K : PySem.W.Frag} {f : Addr} {fd : FuncData} (F : Fun K "__init__" "Floor.__init__" s_Floor_init f fd) : Binds K fd ["self", "hall"] [] := F.binds fun _ _ _ _ _ _ us hl => (match us, hl with | [_, _], _ => rfl)
theorem bd_peaks {K : PySem.W.Frag} {f : Addr} {fd : FuncData} (F : Fun K "peaks" "peaks" s_peaks f fd) : Binds K fd ["hall", "row"] [] := F.binds fun _ _ _ _ _ _ us hl => (match us, hl with | [_, _], _ => rfl)
theorem bd_l_filled {K : PySem.W.Frag} {f : Addr} {fd : FuncData} (F : Fun K "_law_filled" "_law_filled" s_l_filled f fd) : Binds K fd ["_law_lines_here", "_law_row", "_law_rooms"] [] := F.binds fun _ _ _ _ _ _ us hl => (match us, hl with | [_, _, _], _ => rfl)
theorem bd_l_refused {K : PySem.W.Frag} {f : Addr} {fd : FuncData} (F : Fun K "_law_refused" "_law_refused" s_l_refused f fd) : Binds K fd ["_law_hall", "_law_row"] [] := F.binds fun _ _ _ _ _ _ us hl => (match us, hl with | [_, _], _ => rfl)
theorem bd_l_whole {K : PySem.W.Frag} {f : Addr} {fd : FuncData} (F : Fun K "_law_whole" "_law_whole" s_l_whole f fd) : Binds K fd ["_law_found"] [] := F.binds fun _ _ _ _ _ _ us hl => (match us, hl with | [_], _ => rfl)
theorem bd_law {K : PySem.W.Frag} {f : Addr} {fd : FuncData} (F : Fun K "law" "law" s_law f fd) : Binds K fd ["_law_script"] [] := F.binds fun _ _ _ _ _ _ us hl => (match us, hl with | [_], _ => rfl)
theorem tp_mk {K : PySem.W.Frag} {h : Heap} {mg : Str → Option Value} (X : K.In h) (G : h.Ns mainGlobals mg)
    {C_Floor : Addr}
    {C_Hall : Addr}
    {X_RateError : Addr}
    {X_NoName : Addr}
    {X_Twice : Addr}
    {X_TooMuch : Addr}
    {X_NoWork : Addr}
    {X_NoBelt : Addr}
    {X_NoRate : Addr}
    {X_Empty : Addr}
    {tk_MOST_LETTERS : Tok}
    {tk_MOST_WORKS : Tok}
    {tk_MOST_BELTS : Tok}
    {dT_Hall_belt : Addr} {od2_Hall_belt : Option Addr} {sl2_Hall_belt : Array (Option Value)} {n2_Hall_belt : Nat} {oc2_Hall_belt : Value} {dk0_Hall_belt : Tok}
    {f_l_mix : Addr} {od_l_mix an_l_mix : Option Addr} {sl_l_mix : Array (Option Value)} {oc_l_mix kV_l_mix dc_l_mix pm_l_mix cd_l_mix ct_l_mix : Value}
    {f_l_cell : Addr} {od_l_cell an_l_cell : Option Addr} {sl_l_cell : Array (Option Value)} {oc_l_cell kV_l_cell dc_l_cell pm_l_cell cd_l_cell ct_l_cell : Value}
    {f_l_lines : Addr} {od_l_lines an_l_lines : Option Addr} {sl_l_lines : Array (Option Value)} {oc_l_lines kV_l_lines dc_l_lines pm_l_lines cd_l_lines ct_l_lines : Value}
    {f_is_name : Addr} {od_is_name an_is_name : Option Addr} {sl_is_name : Array (Option Value)} {oc_is_name kV_is_name dc_is_name pm_is_name cd_is_name ct_is_name : Value}
    {f_Hall_work : Addr} {od_Hall_work an_Hall_work : Option Addr} {sl_Hall_work : Array (Option Value)} {oc_Hall_work kV_Hall_work dc_Hall_work pm_Hall_work cd_Hall_work ct_Hall_work : Value}
    {f_is_whole : Addr} {od_is_whole an_is_whole : Option Addr} {sl_is_whole : Array (Option Value)} {oc_is_whole kV_is_whole dc_is_whole pm_is_whole cd_is_whole ct_is_whole : Value}
    {f_is_from : Addr} {od_is_from an_is_from : Option Addr} {sl_is_from : Array (Option Value)} {oc_is_from kV_is_from dc_is_from pm_is_from cd_is_from ct_is_from : Value}
    {f_need_start : Addr} {od_need_start an_need_start : Option Addr} {sl_need_start : Array (Option Value)} {oc_need_start kV_need_start dc_need_start pm_need_start cd_need_start ct_need_start : Value}
    {f_is_number_below : Addr} {od_is_number_below an_is_number_below : Option Addr} {sl_is_number_below : Array (Option Value)} {oc_is_number_below kV_is_number_below dc_is_number_below pm_is_number_below cd_is_number_below ct_is_number_below : Value}
    {f_Hall_need_work : Addr} {od_Hall_need_work an_Hall_need_work : Option Addr} {sl_Hall_need_work : Array (Option Value)} {oc_Hall_need_work kV_Hall_need_work dc_Hall_need_work pm_Hall_need_work cd_Hall_need_work ct_Hall_need_work : Value}
    {f_Hall_lay : Addr} {od_Hall_lay an_Hall_lay : Option Addr} {sl_Hall_lay : Array (Option Value)} {oc_Hall_lay kV_Hall_lay dc_Hall_lay pm_Hall_lay cd_Hall_lay ct_Hall_lay : Value}
    {f_Hall_belt : Addr} {od_Hall_belt an_Hall_belt : Option Addr} {sl_Hall_belt : Array (Option Value)} {oc_Hall_belt kV_Hall_belt dc_Hall_belt pm_Hall_belt cd_Hall_belt ct_Hall_belt : Value}
    {f_Hall_init : Addr} {od_Hall_init an_Hall_init : Option Addr} {sl_Hall_init : Array (Option Value)} {oc_Hall_init kV_Hall_init dc_Hall_init pm_Hall_init cd_Hall_init ct_Hall_init : Value}
    {f_l_made : Addr} {od_l_made an_l_made : Option Addr} {sl_l_made : Array (Option Value)} {oc_l_made kV_l_made dc_l_made pm_l_made cd_l_made ct_l_made : Value}
    {f_l_turn : Addr} {od_l_turn an_l_turn : Option Addr} {sl_l_turn : Array (Option Value)} {oc_l_turn kV_l_turn dc_l_turn pm_l_turn cd_l_turn ct_l_turn : Value}
    {f_l_ready : Addr} {od_l_ready an_l_ready : Option Addr} {sl_l_ready : Array (Option Value)} {oc_l_ready kV_l_ready dc_l_ready pm_l_ready cd_l_ready ct_l_ready : Value}
    {f_l_drawn_row : Addr} {od_l_drawn_row an_l_drawn_row : Option Addr} {sl_l_drawn_row : Array (Option Value)} {oc_l_drawn_row kV_l_drawn_row dc_l_drawn_row pm_l_drawn_row cd_l_drawn_row ct_l_drawn_row : Value}
    {f_peak_of : Addr} {od_peak_of an_peak_of : Option Addr} {sl_peak_of : Array (Option Value)} {oc_peak_of kV_peak_of dc_peak_of pm_peak_of cd_peak_of ct_peak_of : Value}
    {f_enough : Addr} {od_enough an_enough : Option Addr} {sl_enough : Array (Option Value)} {oc_enough kV_enough dc_enough pm_enough cd_enough ct_enough : Value}
    {f_Floor_need_work : Addr} {od_Floor_need_work an_Floor_need_work : Option Addr} {sl_Floor_need_work : Array (Option Value)} {oc_Floor_need_work kV_Floor_need_work dc_Floor_need_work pm_Floor_need_work cd_Floor_need_work ct_Floor_need_work : Value}
    {f_Floor_go : Addr} {od_Floor_go an_Floor_go : Option Addr} {sl_Floor_go : Array (Option Value)} {oc_Floor_go kV_Floor_go dc_Floor_go pm_Floor_go cd_Floor_go ct_Floor_go : Value}
    {f_Hall_belts : Addr} {od_Hall_belts an_Hall_belts : Option Addr} {sl_Hall_belts : Array (Option Value)} {oc_Hall_belts kV_Hall_belts dc_Hall_belts pm_Hall_belts cd_Hall_belts ct_Hall_belts : Value}
    {f_Hall_entering : Addr} {od_Hall_entering an_Hall_entering : Option Addr} {sl_Hall_entering : Array (Option Value)} {oc_Hall_entering kV_Hall_entering dc_Hall_entering pm_Hall_entering cd_Hall_entering ct_Hall_entering : Value}
    {f_Hall_need_belt : Addr} {od_Hall_need_belt an_Hall_need_belt : Option Addr} {sl_Hall_need_belt : Array (Option Value)} {oc_Hall_need_belt kV_Hall_need_belt dc_Hall_need_belt pm_Hall_need_belt cd_Hall_need_belt ct_Hall_need_belt : Value}
    {f_Hall_belt_at : Addr} {od_Hall_belt_at an_Hall_belt_at : Option Addr} {sl_Hall_belt_at : Array (Option Value)} {oc_Hall_belt_at kV_Hall_belt_at dc_Hall_belt_at pm_Hall_belt_at cd_Hall_belt_at ct_Hall_belt_at : Value}
    {f_takes_of : Addr} {od_takes_of an_takes_of : Option Addr} {sl_takes_of : Array (Option Value)} {oc_takes_of kV_takes_of dc_takes_of pm_takes_of cd_takes_of ct_takes_of : Value}
    {f_Hall_leaving : Addr} {od_Hall_leaving an_Hall_leaving : Option Addr} {sl_Hall_leaving : Array (Option Value)} {oc_Hall_leaving kV_Hall_leaving dc_Hall_leaving pm_Hall_leaving cd_Hall_leaving ct_Hall_leaving : Value}
    {f_gives_of : Addr} {od_gives_of an_gives_of : Option Addr} {sl_gives_of : Array (Option Value)} {oc_gives_of kV_gives_of dc_gives_of pm_gives_of cd_gives_of ct_gives_of : Value}
    {f_Hall_names : Addr} {od_Hall_names an_Hall_names : Option Addr} {sl_Hall_names : Array (Option Value)} {oc_Hall_names kV_Hall_names dc_Hall_names pm_Hall_names cd_Hall_names ct_Hall_names : Value}
    {f_Floor_init : Addr} {od_Floor_init an_Floor_init : Option Addr} {sl_Floor_init : Array (Option Value)} {oc_Floor_init kV_Floor_init dc_Floor_init pm_Floor_init cd_Floor_init ct_Floor_init : Value}
    {f_peaks : Addr} {od_peaks an_peaks : Option Addr} {sl_peaks : Array (Option Value)} {oc_peaks kV_peaks dc_peaks pm_peaks cd_peaks ct_peaks : Value}
    {f_l_filled : Addr} {od_l_filled an_l_filled : Option Addr} {sl_l_filled : Array (Option Value)} {oc_l_filled kV_l_filled dc_l_filled pm_l_filled cd_l_filled ct_l_filled : Value}
    {f_l_refused : Addr} {od_l_refused an_l_refused : Option Addr} {sl_l_refused : Array (Option Value)} {oc_l_refused kV_l_refused dc_l_refused pm_l_refused cd_l_refused ct_l_refused : Value}
    {f_l_whole : Addr} {od_l_whole an_l_whole : Option Addr} {sl_l_whole : Array (Option Value)} {oc_l_whole kV_l_whole dc_l_whole pm_l_whole cd_l_whole ct_l_whole : Value}
    {f_law : Addr} {od_law an_law : Option Addr} {sl_law : Array (Option Value)} {oc_law kV_law dc_law pm_law cd_law ct_law : Value}
    (a_Floor : PySem.W.nsIn K mainGlobals "Floor" = some (some (.ref C_Floor)))
    (a_Hall : PySem.W.nsIn K mainGlobals "Hall" = some (some (.ref C_Hall)))
    (a_l_mix : PySem.W.nsIn K mainGlobals "_law_mix" = some (some (.ref f_l_mix)))
    (l_l_mix : K.lookup f_l_mix = some ⟨oc_l_mix, od_l_mix, .func (PySem.W.fnOf "_law_mix" "_law_mix" (defArgs s_l_mix) (defBody s_l_mix) (defScope s_l_mix) .none kV_l_mix dc_l_mix pm_l_mix an_l_mix cd_l_mix ct_l_mix), sl_l_mix⟩)
    (c_l_mix : PySem.W.codeIn K cd_l_mix "_law_mix" = true)
    (k_l_mix : PySem.W.keepIn K (.ref f_l_mix) = true)
    (a_l_cell : PySem.W.nsIn K mainGlobals "_law_cell" = some (some (.ref f_l_cell)))
    (l_l_cell : K.lookup f_l_cell = some ⟨oc_l_cell, od_l_cell, .func (PySem.W.fnOf "_law_cell" "_law_cell" (defArgs s_l_cell) (defBody s_l_cell) (defScope s_l_cell) .none kV_l_cell dc_l_cell pm_l_cell an_l_cell cd_l_cell ct_l_cell), sl_l_cell⟩)
    (c_l_cell : PySem.W.codeIn K cd_l_cell "_law_cell" = true)
    (k_l_cell : PySem.W.keepIn K (.ref f_l_cell) = true)
    (a_l_lines : PySem.W.nsIn K mainGlobals "_law_lines" = some (some (.ref f_l_lines)))
    (l_l_lines : K.lookup f_l_lines = some ⟨oc_l_lines, od_l_lines, .func (PySem.W.fnOf "_law_lines" "_law_lines" (defArgs s_l_lines) (defBody s_l_lines) (defScope s_l_lines) .none kV_l_lines dc_l_lines pm_l_lines an_l_lines cd_l_lines ct_l_lines), sl_l_lines⟩)
    (c_l_lines : PySem.W.codeIn K cd_l_lines "_law_lines" = true)
    (k_l_lines : PySem.W.keepIn K (.ref f_l_lines) = true)
    (a_is_name : PySem.W.nsIn K mainGlobals "is_name" = some (some (.ref f_is_name)))
    (l_is_name : K.lookup f_is_name = some ⟨oc_is_name, od_is_name, .func (PySem.W.fnOf "is_name" "is_name" (defArgs s_is_name) (defBody s_is_name) (defScope s_is_name) .none kV_is_name dc_is_name pm_is_name an_is_name cd_is_name ct_is_name), sl_is_name⟩)
    (c_is_name : PySem.W.codeIn K cd_is_name "is_name" = true)
    (k_is_name : PySem.W.keepIn K (.ref f_is_name) = true)
    (a_Hall_work : PySem.W.findIn K (.ref C_Hall) "work" = some (some (.ref f_Hall_work)))
    (i_Hall_work : PySem.W.isFn K (.ref f_Hall_work) = true)
    (l_Hall_work : K.lookup f_Hall_work = some ⟨oc_Hall_work, od_Hall_work, .func (PySem.W.fnOf "work" "Hall.work" (defArgs s_Hall_work) (defBody s_Hall_work) (defScope s_Hall_work) .none kV_Hall_work dc_Hall_work pm_Hall_work an_Hall_work cd_Hall_work ct_Hall_work), sl_Hall_work⟩)
    (c_Hall_work : PySem.W.codeIn K cd_Hall_work "Hall.work" = true)
    (k_Hall_work : PySem.W.keepIn K (.ref f_Hall_work) = true)
    (a_is_whole : PySem.W.nsIn K mainGlobals "is_whole" = some (some (.ref f_is_whole)))
    (l_is_whole : K.lookup f_is_whole = some ⟨oc_is_whole, od_is_whole, .func (PySem.W.fnOf "is_whole" "is_whole" (defArgs s_is_whole) (defBody s_is_whole) (defScope s_is_whole) .none kV_is_whole dc_is_whole pm_is_whole an_is_whole cd_is_whole ct_is_whole), sl_is_whole⟩)
    (c_is_whole : PySem.W.codeIn K cd_is_whole "is_whole" = true)
    (k_is_whole : PySem.W.keepIn K (.ref f_is_whole) = true)
    (a_is_from : PySem.W.nsIn K mainGlobals "is_from" = some (some (.ref f_is_from)))
    (l_is_from : K.lookup f_is_from = some ⟨oc_is_from, od_is_from, .func (PySem.W.fnOf "is_from" "is_from" (defArgs s_is_from) (defBody s_is_from) (defScope s_is_from) .none kV_is_from dc_is_from pm_is_from an_is_from cd_is_from ct_is_from), sl_is_from⟩)
    (c_is_from : PySem.W.codeIn K cd_is_from "is_from" = true)
    (k_is_from : PySem.W.keepIn K (.ref f_is_from) = true)
    (a_need_start : PySem.W.nsIn K mainGlobals "need_start" = some (some (.ref f_need_start)))
    (l_need_start : K.lookup f_need_start = some ⟨oc_need_start, od_need_start, .func (PySem.W.fnOf "need_start" "need_start" (defArgs s_need_start) (defBody s_need_start) (defScope s_need_start) .none kV_need_start dc_need_start pm_need_start an_need_start cd_need_start ct_need_start), sl_need_start⟩)
    (c_need_start : PySem.W.codeIn K cd_need_start "need_start" = true)
    (k_need_start : PySem.W.keepIn K (.ref f_need_start) = true)
    (a_is_number_below : PySem.W.nsIn K mainGlobals "is_number_below" = some (some (.ref f_is_number_below)))
    (l_is_number_below : K.lookup f_is_number_below = some ⟨oc_is_number_below, od_is_number_below, .func (PySem.W.fnOf "is_number_below" "is_number_below" (defArgs s_is_number_below) (defBody s_is_number_below) (defScope s_is_number_below) .none kV_is_number_below dc_is_number_below pm_is_number_below an_is_number_below cd_is_number_below ct_is_number_below), sl_is_number_below⟩)
    (c_is_number_below : PySem.W.codeIn K cd_is_number_below "is_number_below" = true)
    (k_is_number_below : PySem.W.keepIn K (.ref f_is_number_below) = true)
    (a_Hall_need_work : PySem.W.findIn K (.ref C_Hall) "need_work" = some (some (.ref f_Hall_need_work)))
    (i_Hall_need_work : PySem.W.isFn K (.ref f_Hall_need_work) = true)
    (l_Hall_need_work : K.lookup f_Hall_need_work = some ⟨oc_Hall_need_work, od_Hall_need_work, .func (PySem.W.fnOf "need_work" "Hall.need_work" (defArgs s_Hall_need_work) (defBody s_Hall_need_work) (defScope s_Hall_need_work) .none kV_Hall_need_work dc_Hall_need_work pm_Hall_need_work an_Hall_need_work cd_Hall_need_work ct_Hall_need_work), sl_Hall_need_work⟩)
    (c_Hall_need_work : PySem.W.codeIn K cd_Hall_need_work "Hall.need_work" = true)
    (k_Hall_need_work : PySem.W.keepIn K (.ref f_Hall_need_work) = true)
    (a_Hall_lay : PySem.W.findIn K (.ref C_Hall) "lay" = some (some (.ref f_Hall_lay)))
    (i_Hall_lay : PySem.W.isFn K (.ref f_Hall_lay) = true)
    (l_Hall_lay : K.lookup f_Hall_lay = some ⟨oc_Hall_lay, od_Hall_lay, .func (PySem.W.fnOf "lay" "Hall.lay" (defArgs s_Hall_lay) (defBody s_Hall_lay) (defScope s_Hall_lay) .none kV_Hall_lay dc_Hall_lay pm_Hall_lay an_Hall_lay cd_Hall_lay ct_Hall_lay), sl_Hall_lay⟩)
    (c_Hall_lay : PySem.W.codeIn K cd_Hall_lay "Hall.lay" = true)
    (k_Hall_lay : PySem.W.keepIn K (.ref f_Hall_lay) = true)
    (a_Hall_belt : PySem.W.findIn K (.ref C_Hall) "belt" = some (some (.ref f_Hall_belt)))
    (i_Hall_belt : PySem.W.isFn K (.ref f_Hall_belt) = true)
    (l_Hall_belt : K.lookup f_Hall_belt = some ⟨oc_Hall_belt, od_Hall_belt, .func (PySem.W.fnOf "belt" "Hall.belt" (defArgs s_Hall_belt) (defBody s_Hall_belt) (defScope s_Hall_belt) (.ref dT_Hall_belt) kV_Hall_belt dc_Hall_belt pm_Hall_belt an_Hall_belt cd_Hall_belt ct_Hall_belt), sl_Hall_belt⟩)
    (t_Hall_belt : K.lookup dT_Hall_belt = some ⟨oc2_Hall_belt, od2_Hall_belt, .seq #[.int 0 dk0_Hall_belt] n2_Hall_belt, sl2_Hall_belt⟩)
    (c_Hall_belt : PySem.W.codeIn K cd_Hall_belt "Hall.belt" = true)
    (k_Hall_belt : PySem.W.keepIn K (.ref f_Hall_belt) = true)
    (a_Hall_init : PySem.W.findIn K (.ref C_Hall) "__init__" = some (some (.ref f_Hall_init)))
    (i_Hall_init : PySem.W.isFn K (.ref f_Hall_init) = true)
    (l_Hall_init : K.lookup f_Hall_init = some ⟨oc_Hall_init, od_Hall_init, .func (PySem.W.fnOf "__init__" "Hall.__init__" (defArgs s_Hall_init) (defBody s_Hall_init) (defScope s_Hall_init) .none kV_Hall_init dc_Hall_init pm_Hall_init an_Hall_init cd_Hall_init ct_Hall_init), sl_Hall_init⟩)
    (c_Hall_init : PySem.W.codeIn K cd_Hall_init "Hall.__init__" = true)
    (k_Hall_init : PySem.W.keepIn K (.ref f_Hall_init) = true)
    (a_l_made : PySem.W.nsIn K mainGlobals "_law_made" = some (some (.ref f_l_made)))
    (l_l_made : K.lookup f_l_made = some ⟨oc_l_made, od_l_made, .func (PySem.W.fnOf "_law_made" "_law_made" (defArgs s_l_made) (defBody s_l_made) (defScope s_l_made) .none kV_l_made dc_l_made pm_l_made an_l_made cd_l_made ct_l_made), sl_l_made⟩)
    (c_l_made : PySem.W.codeIn K cd_l_made "_law_made" = true)
    (k_l_made : PySem.W.keepIn K (.ref f_l_made) = true)
    (a_l_turn : PySem.W.nsIn K mainGlobals "_law_turn" = some (some (.ref f_l_turn)))
    (l_l_turn : K.lookup f_l_turn = some ⟨oc_l_turn, od_l_turn, .func (PySem.W.fnOf "_law_turn" "_law_turn" (defArgs s_l_turn) (defBody s_l_turn) (defScope s_l_turn) .none kV_l_turn dc_l_turn pm_l_turn an_l_turn cd_l_turn ct_l_turn), sl_l_turn⟩)
    (c_l_turn : PySem.W.codeIn K cd_l_turn "_law_turn" = true)
    (k_l_turn : PySem.W.keepIn K (.ref f_l_turn) = true)
    (a_l_ready : PySem.W.nsIn K mainGlobals "_law_ready" = some (some (.ref f_l_ready)))
    (l_l_ready : K.lookup f_l_ready = some ⟨oc_l_ready, od_l_ready, .func (PySem.W.fnOf "_law_ready" "_law_ready" (defArgs s_l_ready) (defBody s_l_ready) (defScope s_l_ready) .none kV_l_ready dc_l_ready pm_l_ready an_l_ready cd_l_ready ct_l_ready), sl_l_ready⟩)
    (c_l_ready : PySem.W.codeIn K cd_l_ready "_law_ready" = true)
    (k_l_ready : PySem.W.keepIn K (.ref f_l_ready) = true)
    (a_l_drawn_row : PySem.W.nsIn K mainGlobals "_law_drawn_row" = some (some (.ref f_l_drawn_row)))
    (l_l_drawn_row : K.lookup f_l_drawn_row = some ⟨oc_l_drawn_row, od_l_drawn_row, .func (PySem.W.fnOf "_law_drawn_row" "_law_drawn_row" (defArgs s_l_drawn_row) (defBody s_l_drawn_row) (defScope s_l_drawn_row) .none kV_l_drawn_row dc_l_drawn_row pm_l_drawn_row an_l_drawn_row cd_l_drawn_row ct_l_drawn_row), sl_l_drawn_row⟩)
    (c_l_drawn_row : PySem.W.codeIn K cd_l_drawn_row "_law_drawn_row" = true)
    (k_l_drawn_row : PySem.W.keepIn K (.ref f_l_drawn_row) = true)
    (a_peak_of : PySem.W.nsIn K mainGlobals "peak_of" = some (some (.ref f_peak_of)))
    (l_peak_of : K.lookup f_peak_of = some ⟨oc_peak_of, od_peak_of, .func (PySem.W.fnOf "peak_of" "peak_of" (defArgs s_peak_of) (defBody s_peak_of) (defScope s_peak_of) .none kV_peak_of dc_peak_of pm_peak_of an_peak_of cd_peak_of ct_peak_of), sl_peak_of⟩)
    (c_peak_of : PySem.W.codeIn K cd_peak_of "peak_of" = true)
    (k_peak_of : PySem.W.keepIn K (.ref f_peak_of) = true)
    (a_enough : PySem.W.nsIn K mainGlobals "enough" = some (some (.ref f_enough)))
    (l_enough : K.lookup f_enough = some ⟨oc_enough, od_enough, .func (PySem.W.fnOf "enough" "enough" (defArgs s_enough) (defBody s_enough) (defScope s_enough) .none kV_enough dc_enough pm_enough an_enough cd_enough ct_enough), sl_enough⟩)
    (c_enough : PySem.W.codeIn K cd_enough "enough" = true)
    (k_enough : PySem.W.keepIn K (.ref f_enough) = true)
    (a_Floor_need_work : PySem.W.findIn K (.ref C_Floor) "need_work" = some (some (.ref f_Floor_need_work)))
    (i_Floor_need_work : PySem.W.isFn K (.ref f_Floor_need_work) = true)
    (l_Floor_need_work : K.lookup f_Floor_need_work = some ⟨oc_Floor_need_work, od_Floor_need_work, .func (PySem.W.fnOf "need_work" "Floor.need_work" (defArgs s_Floor_need_work) (defBody s_Floor_need_work) (defScope s_Floor_need_work) .none kV_Floor_need_work dc_Floor_need_work pm_Floor_need_work an_Floor_need_work cd_Floor_need_work ct_Floor_need_work), sl_Floor_need_work⟩)
    (c_Floor_need_work : PySem.W.codeIn K cd_Floor_need_work "Floor.need_work" = true)
    (k_Floor_need_work : PySem.W.keepIn K (.ref f_Floor_need_work) = true)
    (a_Floor_go : PySem.W.findIn K (.ref C_Floor) "go" = some (some (.ref f_Floor_go)))
    (i_Floor_go : PySem.W.isFn K (.ref f_Floor_go) = true)
    (l_Floor_go : K.lookup f_Floor_go = some ⟨oc_Floor_go, od_Floor_go, .func (PySem.W.fnOf "go" "Floor.go" (defArgs s_Floor_go) (defBody s_Floor_go) (defScope s_Floor_go) .none kV_Floor_go dc_Floor_go pm_Floor_go an_Floor_go cd_Floor_go ct_Floor_go), sl_Floor_go⟩)
    (c_Floor_go : PySem.W.codeIn K cd_Floor_go "Floor.go" = true)
    (k_Floor_go : PySem.W.keepIn K (.ref f_Floor_go) = true)
    (a_Hall_belts : PySem.W.findIn K (.ref C_Hall) "belts" = some (some (.ref f_Hall_belts)))
    (i_Hall_belts : PySem.W.isFn K (.ref f_Hall_belts) = true)
    (l_Hall_belts : K.lookup f_Hall_belts = some ⟨oc_Hall_belts, od_Hall_belts, .func (PySem.W.fnOf "belts" "Hall.belts" (defArgs s_Hall_belts) (defBody s_Hall_belts) (defScope s_Hall_belts) .none kV_Hall_belts dc_Hall_belts pm_Hall_belts an_Hall_belts cd_Hall_belts ct_Hall_belts), sl_Hall_belts⟩)
    (c_Hall_belts : PySem.W.codeIn K cd_Hall_belts "Hall.belts" = true)
    (k_Hall_belts : PySem.W.keepIn K (.ref f_Hall_belts) = true)
    (a_Hall_entering : PySem.W.findIn K (.ref C_Hall) "entering" = some (some (.ref f_Hall_entering)))
    (i_Hall_entering : PySem.W.isFn K (.ref f_Hall_entering) = true)
    (l_Hall_entering : K.lookup f_Hall_entering = some ⟨oc_Hall_entering, od_Hall_entering, .func (PySem.W.fnOf "entering" "Hall.entering" (defArgs s_Hall_entering) (defBody s_Hall_entering) (defScope s_Hall_entering) .none kV_Hall_entering dc_Hall_entering pm_Hall_entering an_Hall_entering cd_Hall_entering ct_Hall_entering), sl_Hall_entering⟩)
    (c_Hall_entering : PySem.W.codeIn K cd_Hall_entering "Hall.entering" = true)
    (k_Hall_entering : PySem.W.keepIn K (.ref f_Hall_entering) = true)
    (a_Hall_need_belt : PySem.W.findIn K (.ref C_Hall) "need_belt" = some (some (.ref f_Hall_need_belt)))
    (i_Hall_need_belt : PySem.W.isFn K (.ref f_Hall_need_belt) = true)
    (l_Hall_need_belt : K.lookup f_Hall_need_belt = some ⟨oc_Hall_need_belt, od_Hall_need_belt, .func (PySem.W.fnOf "need_belt" "Hall.need_belt" (defArgs s_Hall_need_belt) (defBody s_Hall_need_belt) (defScope s_Hall_need_belt) .none kV_Hall_need_belt dc_Hall_need_belt pm_Hall_need_belt an_Hall_need_belt cd_Hall_need_belt ct_Hall_need_belt), sl_Hall_need_belt⟩)
    (c_Hall_need_belt : PySem.W.codeIn K cd_Hall_need_belt "Hall.need_belt" = true)
    (k_Hall_need_belt : PySem.W.keepIn K (.ref f_Hall_need_belt) = true)
    (a_Hall_belt_at : PySem.W.findIn K (.ref C_Hall) "belt_at" = some (some (.ref f_Hall_belt_at)))
    (i_Hall_belt_at : PySem.W.isFn K (.ref f_Hall_belt_at) = true)
    (l_Hall_belt_at : K.lookup f_Hall_belt_at = some ⟨oc_Hall_belt_at, od_Hall_belt_at, .func (PySem.W.fnOf "belt_at" "Hall.belt_at" (defArgs s_Hall_belt_at) (defBody s_Hall_belt_at) (defScope s_Hall_belt_at) .none kV_Hall_belt_at dc_Hall_belt_at pm_Hall_belt_at an_Hall_belt_at cd_Hall_belt_at ct_Hall_belt_at), sl_Hall_belt_at⟩)
    (c_Hall_belt_at : PySem.W.codeIn K cd_Hall_belt_at "Hall.belt_at" = true)
    (k_Hall_belt_at : PySem.W.keepIn K (.ref f_Hall_belt_at) = true)
    (a_takes_of : PySem.W.nsIn K mainGlobals "takes_of" = some (some (.ref f_takes_of)))
    (l_takes_of : K.lookup f_takes_of = some ⟨oc_takes_of, od_takes_of, .func (PySem.W.fnOf "takes_of" "takes_of" (defArgs s_takes_of) (defBody s_takes_of) (defScope s_takes_of) .none kV_takes_of dc_takes_of pm_takes_of an_takes_of cd_takes_of ct_takes_of), sl_takes_of⟩)
    (c_takes_of : PySem.W.codeIn K cd_takes_of "takes_of" = true)
    (k_takes_of : PySem.W.keepIn K (.ref f_takes_of) = true)
    (a_Hall_leaving : PySem.W.findIn K (.ref C_Hall) "leaving" = some (some (.ref f_Hall_leaving)))
    (i_Hall_leaving : PySem.W.isFn K (.ref f_Hall_leaving) = true)
    (l_Hall_leaving : K.lookup f_Hall_leaving = some ⟨oc_Hall_leaving, od_Hall_leaving, .func (PySem.W.fnOf "leaving" "Hall.leaving" (defArgs s_Hall_leaving) (defBody s_Hall_leaving) (defScope s_Hall_leaving) .none kV_Hall_leaving dc_Hall_leaving pm_Hall_leaving an_Hall_leaving cd_Hall_leaving ct_Hall_leaving), sl_Hall_leaving⟩)
    (c_Hall_leaving : PySem.W.codeIn K cd_Hall_leaving "Hall.leaving" = true)
    (k_Hall_leaving : PySem.W.keepIn K (.ref f_Hall_leaving) = true)
    (a_gives_of : PySem.W.nsIn K mainGlobals "gives_of" = some (some (.ref f_gives_of)))
    (l_gives_of : K.lookup f_gives_of = some ⟨oc_gives_of, od_gives_of, .func (PySem.W.fnOf "gives_of" "gives_of" (defArgs s_gives_of) (defBody s_gives_of) (defScope s_gives_of) .none kV_gives_of dc_gives_of pm_gives_of an_gives_of cd_gives_of ct_gives_of), sl_gives_of⟩)
    (c_gives_of : PySem.W.codeIn K cd_gives_of "gives_of" = true)
    (k_gives_of : PySem.W.keepIn K (.ref f_gives_of) = true)
    (a_Hall_names : PySem.W.findIn K (.ref C_Hall) "names" = some (some (.ref f_Hall_names)))
    (i_Hall_names : PySem.W.isFn K (.ref f_Hall_names) = true)
    (l_Hall_names : K.lookup f_Hall_names = some ⟨oc_Hall_names, od_Hall_names, .func (PySem.W.fnOf "names" "Hall.names" (defArgs s_Hall_names) (defBody s_Hall_names) (defScope s_Hall_names) .none kV_Hall_names dc_Hall_names pm_Hall_names an_Hall_names cd_Hall_names ct_Hall_names), sl_Hall_names⟩)
    (c_Hall_names : PySem.W.codeIn K cd_Hall_names "Hall.names" = true)
    (k_Hall_names : PySem.W.keepIn K (.ref f_Hall_names) = true)
    (a_Floor_init : PySem.W.findIn K (.ref C_Floor) "__init__" = some (some (.ref f_Floor_init)))
    (i_Floor_init : PySem.W.isFn K (.ref f_Floor_init) = true)
    (l_Floor_init : K.lookup f_Floor_init = some ⟨oc_Floor_init, od_Floor_init, .func (PySem.W.fnOf "__init__" "Floor.__init__" (defArgs s_Floor_init) (defBody s_Floor_init) (defScope s_Floor_init) .none kV_Floor_init dc_Floor_init pm_Floor_init an_Floor_init cd_Floor_init ct_Floor_init), sl_Floor_init⟩)
    (c_Floor_init : PySem.W.codeIn K cd_Floor_init "Floor.__init__" = true)
    (k_Floor_init : PySem.W.keepIn K (.ref f_Floor_init) = true)
    (a_peaks : PySem.W.nsIn K mainGlobals "peaks" = some (some (.ref f_peaks)))
    (l_peaks : K.lookup f_peaks = some ⟨oc_peaks, od_peaks, .func (PySem.W.fnOf "peaks" "peaks" (defArgs s_peaks) (defBody s_peaks) (defScope s_peaks) .none kV_peaks dc_peaks pm_peaks an_peaks cd_peaks ct_peaks), sl_peaks⟩)
    (c_peaks : PySem.W.codeIn K cd_peaks "peaks" = true)
    (k_peaks : PySem.W.keepIn K (.ref f_peaks) = true)
    (a_l_filled : PySem.W.nsIn K mainGlobals "_law_filled" = some (some (.ref f_l_filled)))
    (l_l_filled : K.lookup f_l_filled = some ⟨oc_l_filled, od_l_filled, .func (PySem.W.fnOf "_law_filled" "_law_filled" (defArgs s_l_filled) (defBody s_l_filled) (defScope s_l_filled) .none kV_l_filled dc_l_filled pm_l_filled an_l_filled cd_l_filled ct_l_filled), sl_l_filled⟩)
    (c_l_filled : PySem.W.codeIn K cd_l_filled "_law_filled" = true)
    (k_l_filled : PySem.W.keepIn K (.ref f_l_filled) = true)
    (a_l_refused : PySem.W.nsIn K mainGlobals "_law_refused" = some (some (.ref f_l_refused)))
    (l_l_refused : K.lookup f_l_refused = some ⟨oc_l_refused, od_l_refused, .func (PySem.W.fnOf "_law_refused" "_law_refused" (defArgs s_l_refused) (defBody s_l_refused) (defScope s_l_refused) .none kV_l_refused dc_l_refused pm_l_refused an_l_refused cd_l_refused ct_l_refused), sl_l_refused⟩)
    (c_l_refused : PySem.W.codeIn K cd_l_refused "_law_refused" = true)
    (k_l_refused : PySem.W.keepIn K (.ref f_l_refused) = true)
    (a_l_whole : PySem.W.nsIn K mainGlobals "_law_whole" = some (some (.ref f_l_whole)))
    (l_l_whole : K.lookup f_l_whole = some ⟨oc_l_whole, od_l_whole, .func (PySem.W.fnOf "_law_whole" "_law_whole" (defArgs s_l_whole) (defBody s_l_whole) (defScope s_l_whole) .none kV_l_whole dc_l_whole pm_l_whole an_l_whole cd_l_whole ct_l_whole), sl_l_whole⟩)
    (c_l_whole : PySem.W.codeIn K cd_l_whole "_law_whole" = true)
    (k_l_whole : PySem.W.keepIn K (.ref f_l_whole) = true)
    (a_law : PySem.W.nsIn K mainGlobals "law" = some (some (.ref f_law)))
    (l_law : K.lookup f_law = some ⟨oc_law, od_law, .func (PySem.W.fnOf "law" "law" (defArgs s_law) (defBody s_law) (defScope s_law) .none kV_law dc_law pm_law an_law cd_law ct_law), sl_law⟩)
    (c_law : PySem.W.codeIn K cd_law "law" = true)
    (k_law : PySem.W.keepIn K (.ref f_law) = true)
    (pg_Floor : PySem.W.plainGet K C_Floor Str.empty = true)
    (hd_Floor : PySem.W.hasDictIn K C_Floor = true)
    (po_Floor : PySem.W.plainOver K C_Floor = true)
    (sa_Floor : PySem.W.findIn K (.ref C_Floor) "__setattr__" = some (some (.builtin "object.__setattr__")))
    (mk_Floor : PySem.W.makesIn K C_Floor = true)
    (kc_Floor : PySem.W.keepIn K (.ref C_Floor) = true)
    (na_Floor_takes : PySem.W.findIn K (.ref C_Floor) "takes" = some none)
    (na_Floor_gives : PySem.W.findIn K (.ref C_Floor) "gives" = some none)
    (na_Floor_heaps : PySem.W.findIn K (.ref C_Floor) "heaps" = some none)
    (pg_Hall : PySem.W.plainGet K C_Hall Str.empty = true)
    (hd_Hall : PySem.W.hasDictIn K C_Hall = true)
    (po_Hall : PySem.W.plainOver K C_Hall = true)
    (sa_Hall : PySem.W.findIn K (.ref C_Hall) "__setattr__" = some (some (.builtin "object.__setattr__")))
    (mk_Hall : PySem.W.makesIn K C_Hall = true)
    (kc_Hall : PySem.W.keepIn K (.ref C_Hall) = true)
    (na_Hall_numbers : PySem.W.findIn K (.ref C_Hall) "numbers" = some none)
    (na_Hall_rows : PySem.W.findIn K (.ref C_Hall) "rows" = some none)
    (gx_RateError : PySem.W.nsIn K mainGlobals "RateError" = some (some (.ref X_RateError)))
    (ex_RateError : PySem.W.excIn K X_RateError [.type "ValueError", .type "Exception", .type "BaseException", .type "object"] "ValueError.__new__" = true)
    (gx_NoName : PySem.W.nsIn K mainGlobals "NoName" = some (some (.ref X_NoName)))
    (ex_NoName : PySem.W.excIn K X_NoName [.type "ValueError", .type "Exception", .type "BaseException", .type "object"] "ValueError.__new__" = true)
    (gx_Twice : PySem.W.nsIn K mainGlobals "Twice" = some (some (.ref X_Twice)))
    (ex_Twice : PySem.W.excIn K X_Twice [.type "ValueError", .type "Exception", .type "BaseException", .type "object"] "ValueError.__new__" = true)
    (gx_TooMuch : PySem.W.nsIn K mainGlobals "TooMuch" = some (some (.ref X_TooMuch)))
    (ex_TooMuch : PySem.W.excIn K X_TooMuch [.type "ValueError", .type "Exception", .type "BaseException", .type "object"] "ValueError.__new__" = true)
    (gx_NoWork : PySem.W.nsIn K mainGlobals "NoWork" = some (some (.ref X_NoWork)))
    (ex_NoWork : PySem.W.excIn K X_NoWork [.type "ValueError", .type "Exception", .type "BaseException", .type "object"] "ValueError.__new__" = true)
    (gx_NoBelt : PySem.W.nsIn K mainGlobals "NoBelt" = some (some (.ref X_NoBelt)))
    (ex_NoBelt : PySem.W.excIn K X_NoBelt [.type "ValueError", .type "Exception", .type "BaseException", .type "object"] "ValueError.__new__" = true)
    (gx_NoRate : PySem.W.nsIn K mainGlobals "NoRate" = some (some (.ref X_NoRate)))
    (ex_NoRate : PySem.W.excIn K X_NoRate [.type "ValueError", .type "Exception", .type "BaseException", .type "object"] "ValueError.__new__" = true)
    (gx_Empty : PySem.W.nsIn K mainGlobals "Empty" = some (some (.ref X_Empty)))
    (ex_Empty : PySem.W.excIn K X_Empty [.type "ValueError", .type "Exception", .type "BaseException", .type "object"] "ValueError.__new__" = true)
    (em_RateError_RateError : PySem.W.exmOne K (.ref X_RateError) (.ref X_RateError) = some true)
    (em_NoName_RateError : PySem.W.exmOne K (.ref X_NoName) (.ref X_RateError) = some true)
    (em_Twice_RateError : PySem.W.exmOne K (.ref X_Twice) (.ref X_RateError) = some true)
    (em_TooMuch_RateError : PySem.W.exmOne K (.ref X_TooMuch) (.ref X_RateError) = some true)
    (em_NoWork_RateError : PySem.W.exmOne K (.ref X_NoWork) (.ref X_RateError) = some true)
    (em_NoBelt_RateError : PySem.W.exmOne K (.ref X_NoBelt) (.ref X_RateError) = some true)
    (em_NoRate_RateError : PySem.W.exmOne K (.ref X_NoRate) (.ref X_RateError) = some true)
    (em_Empty_RateError : PySem.W.exmOne K (.ref X_Empty) (.ref X_RateError) = some true)
    (xg : PySem.W.specialIn K (.builtin "object.__class__") "__get__" = some (some (.builtin "getset_descriptor.__get__")))
    (xt : PySem.W.takesIn K (.builtin "object.__class__") = some true)
    (x1_NoName : PySem.W.findIn K (.ref X_NoName) "__getattribute__" = some (some (.builtin "BaseException.__getattribute__")))
    (x2_NoName : PySem.W.findIn K (.ref X_NoName) "__getattr__" = some none)
    (x3_NoName : PySem.W.findIn K (.ref X_NoName) "__class__" = some (some (.builtin "object.__class__")))
    (x4_NoName : PySem.W.subIn K (.ref X_NoName) (.type "BaseException") = some true)
    (x5_NoName : PySem.W.mroIn K X_NoName (.type "object") = some true)
    (x1_Twice : PySem.W.findIn K (.ref X_Twice) "__getattribute__" = some (some (.builtin "BaseException.__getattribute__")))
    (x2_Twice : PySem.W.findIn K (.ref X_Twice) "__getattr__" = some none)
    (x3_Twice : PySem.W.findIn K (.ref X_Twice) "__class__" = some (some (.builtin "object.__class__")))
    (x4_Twice : PySem.W.subIn K (.ref X_Twice) (.type "BaseException") = some true)
    (x5_Twice : PySem.W.mroIn K X_Twice (.type "object") = some true)
    (x1_TooMuch : PySem.W.findIn K (.ref X_TooMuch) "__getattribute__" = some (some (.builtin "BaseException.__getattribute__")))
    (x2_TooMuch : PySem.W.findIn K (.ref X_TooMuch) "__getattr__" = some none)
    (x3_TooMuch : PySem.W.findIn K (.ref X_TooMuch) "__class__" = some (some (.builtin "object.__class__")))
    (x4_TooMuch : PySem.W.subIn K (.ref X_TooMuch) (.type "BaseException") = some true)
    (x5_TooMuch : PySem.W.mroIn K X_TooMuch (.type "object") = some true)
    (x1_NoWork : PySem.W.findIn K (.ref X_NoWork) "__getattribute__" = some (some (.builtin "BaseException.__getattribute__")))
    (x2_NoWork : PySem.W.findIn K (.ref X_NoWork) "__getattr__" = some none)
    (x3_NoWork : PySem.W.findIn K (.ref X_NoWork) "__class__" = some (some (.builtin "object.__class__")))
    (x4_NoWork : PySem.W.subIn K (.ref X_NoWork) (.type "BaseException") = some true)
    (x5_NoWork : PySem.W.mroIn K X_NoWork (.type "object") = some true)
    (x1_NoBelt : PySem.W.findIn K (.ref X_NoBelt) "__getattribute__" = some (some (.builtin "BaseException.__getattribute__")))
    (x2_NoBelt : PySem.W.findIn K (.ref X_NoBelt) "__getattr__" = some none)
    (x3_NoBelt : PySem.W.findIn K (.ref X_NoBelt) "__class__" = some (some (.builtin "object.__class__")))
    (x4_NoBelt : PySem.W.subIn K (.ref X_NoBelt) (.type "BaseException") = some true)
    (x5_NoBelt : PySem.W.mroIn K X_NoBelt (.type "object") = some true)
    (x1_NoRate : PySem.W.findIn K (.ref X_NoRate) "__getattribute__" = some (some (.builtin "BaseException.__getattribute__")))
    (x2_NoRate : PySem.W.findIn K (.ref X_NoRate) "__getattr__" = some none)
    (x3_NoRate : PySem.W.findIn K (.ref X_NoRate) "__class__" = some (some (.builtin "object.__class__")))
    (x4_NoRate : PySem.W.subIn K (.ref X_NoRate) (.type "BaseException") = some true)
    (x5_NoRate : PySem.W.mroIn K X_NoRate (.type "object") = some true)
    (x1_Empty : PySem.W.findIn K (.ref X_Empty) "__getattribute__" = some (some (.builtin "BaseException.__getattribute__")))
    (x2_Empty : PySem.W.findIn K (.ref X_Empty) "__getattr__" = some none)
    (x3_Empty : PySem.W.findIn K (.ref X_Empty) "__class__" = some (some (.builtin "object.__class__")))
    (x4_Empty : PySem.W.subIn K (.ref X_Empty) (.type "BaseException") = some true)
    (x5_Empty : PySem.W.mroIn K X_Empty (.type "object") = some true)
    (ki_NoName_Empty : PySem.W.kitOne K (.ref X_NoName) (.ref X_Empty) = some false)
    (ki_NoName_NoWork : PySem.W.kitOne K (.ref X_NoName) (.ref X_NoWork) = some false)
    (ki_NoName_ValueError : PySem.W.kitOne K (.ref X_NoName) (.type "ValueError") = some true)
    (ki_Twice_Empty : PySem.W.kitOne K (.ref X_Twice) (.ref X_Empty) = some false)
    (ki_Twice_NoWork : PySem.W.kitOne K (.ref X_Twice) (.ref X_NoWork) = some false)
    (ki_Twice_ValueError : PySem.W.kitOne K (.ref X_Twice) (.type "ValueError") = some true)
    (ki_TooMuch_Empty : PySem.W.kitOne K (.ref X_TooMuch) (.ref X_Empty) = some false)
    (ki_TooMuch_NoWork : PySem.W.kitOne K (.ref X_TooMuch) (.ref X_NoWork) = some false)
    (ki_TooMuch_ValueError : PySem.W.kitOne K (.ref X_TooMuch) (.type "ValueError") = some true)
    (ki_NoWork_Empty : PySem.W.kitOne K (.ref X_NoWork) (.ref X_Empty) = some false)
    (ki_NoWork_NoWork : PySem.W.kitOne K (.ref X_NoWork) (.ref X_NoWork) = some true)
    (ki_NoWork_ValueError : PySem.W.kitOne K (.ref X_NoWork) (.type "ValueError") = some true)
    (ki_NoBelt_Empty : PySem.W.kitOne K (.ref X_NoBelt) (.ref X_Empty) = some false)
    (ki_NoBelt_NoWork : PySem.W.kitOne K (.ref X_NoBelt) (.ref X_NoWork) = some false)
    (ki_NoBelt_ValueError : PySem.W.kitOne K (.ref X_NoBelt) (.type "ValueError") = some true)
    (ki_NoRate_Empty : PySem.W.kitOne K (.ref X_NoRate) (.ref X_Empty) = some false)
    (ki_NoRate_NoWork : PySem.W.kitOne K (.ref X_NoRate) (.ref X_NoWork) = some false)
    (ki_NoRate_ValueError : PySem.W.kitOne K (.ref X_NoRate) (.type "ValueError") = some true)
    (ki_Empty_Empty : PySem.W.kitOne K (.ref X_Empty) (.ref X_Empty) = some true)
    (ki_Empty_NoWork : PySem.W.kitOne K (.ref X_Empty) (.ref X_NoWork) = some false)
    (ki_Empty_ValueError : PySem.W.kitOne K (.ref X_Empty) (.type "ValueError") = some true)
    (c_MOST_LETTERS : PySem.W.nsIn K mainGlobals "MOST_LETTERS" = some (some (.int 8 tk_MOST_LETTERS)))
    (c_MOST_WORKS : PySem.W.nsIn K mainGlobals "MOST_WORKS" = some (some (.int 30 tk_MOST_WORKS)))
    (c_MOST_BELTS : PySem.W.nsIn K mainGlobals "MOST_BELTS" = some (some (.int 60 tk_MOST_BELTS)))
    (z_ValueError : PySem.W.nsIn K mainGlobals "ValueError" = some none)
    (z_all : PySem.W.nsIn K mainGlobals "all" = some none)
    (z_bool : PySem.W.nsIn K mainGlobals "bool" = some none)
    (z_enumerate : PySem.W.nsIn K mainGlobals "enumerate" = some none)
    (z_int : PySem.W.nsIn K mainGlobals "int" = some none)
    (z_isinstance : PySem.W.nsIn K mainGlobals "isinstance" = some none)
    (z_len : PySem.W.nsIn K mainGlobals "len" = some none)
    (z_list : PySem.W.nsIn K mainGlobals "list" = some none)
    (z_max : PySem.W.nsIn K mainGlobals "max" = some none)
    (z_range : PySem.W.nsIn K mainGlobals "range" = some none)
    (z_str : PySem.W.nsIn K mainGlobals "str" = some none)
    : ∃ T : Tp K mg, True := by
  have F_l_mix := fun_mk (st := s_l_mix) l_l_mix c_l_mix k_l_mix
  have F_l_cell := fun_mk (st := s_l_cell) l_l_cell c_l_cell k_l_cell
  have F_l_lines := fun_mk (st := s_l_lines) l_l_lines c_l_lines k_l_lines
  have F_is_name := fun_mk (st := s_is_name) l_is_name c_is_name k_is_name
  have F_Hall_work := fun_mk (st := s_Hall_work) l_Hall_work c_Hall_work k_Hall_work
  have F_is_whole := fun_mk (st := s_is_whole) l_is_whole c_is_whole k_is_whole
  have F_is_from := fun_mk (st := s_is_from) l_is_from c_is_from k_is_from
  have F_need_start := fun_mk (st := s_need_start) l_need_start c_need_start k_need_start
  have F_is_number_below := fun_mk (st := s_is_number_below) l_is_number_below c_is_number_below k_is_number_below
  have F_Hall_need_work := fun_mk (st := s_Hall_need_work) l_Hall_need_work c_Hall_need_work k_Hall_need_work
  have F_Hall_lay := fun_mk (st := s_Hall_lay) l_Hall_lay c_Hall_lay k_Hall_lay
  have F_Hall_belt := funD_mk (st := s_Hall_belt) l_Hall_belt c_Hall_belt k_Hall_belt
  have F_Hall_init := fun_mk (st := s_Hall_init) l_Hall_init c_Hall_init k_Hall_init
  have F_l_made := fun_mk (st := s_l_made) l_l_made c_l_made k_l_made
  have F_l_turn := fun_mk (st := s_l_turn) l_l_turn c_l_turn k_l_turn
  have F_l_ready := fun_mk (st := s_l_ready) l_l_ready c_l_ready k_l_ready
  have F_l_drawn_row := fun_mk (st := s_l_drawn_row) l_l_drawn_row c_l_drawn_row k_l_drawn_row
  have F_peak_of := fun_mk (st := s_peak_of) l_peak_of c_peak_of k_peak_of
  have F_enough := fun_mk (st := s_enough) l_enough c_enough k_enough
  have F_Floor_need_work := fun_mk (st := s_Floor_need_work) l_Floor_need_work c_Floor_need_work k_Floor_need_work
  have F_Floor_go := fun_mk (st := s_Floor_go) l_Floor_go c_Floor_go k_Floor_go
  have F_Hall_belts := fun_mk (st := s_Hall_belts) l_Hall_belts c_Hall_belts k_Hall_belts
  have F_Hall_entering := fun_mk (st := s_Hall_entering) l_Hall_entering c_Hall_entering k_Hall_entering
  have F_Hall_need_belt := fun_mk (st := s_Hall_need_belt) l_Hall_need_belt c_Hall_need_belt k_Hall_need_belt
  have F_Hall_belt_at := fun_mk (st := s_Hall_belt_at) l_Hall_belt_at c_Hall_belt_at k_Hall_belt_at
  have F_takes_of := fun_mk (st := s_takes_of) l_takes_of c_takes_of k_takes_of
  have F_Hall_leaving := fun_mk (st := s_Hall_leaving) l_Hall_leaving c_Hall_leaving k_Hall_leaving
  have F_gives_of := fun_mk (st := s_gives_of) l_gives_of c_gives_of k_gives_of
  have F_Hall_names := fun_mk (st := s_Hall_names) l_Hall_names c_Hall_names k_Hall_names
  have F_Floor_init := fun_mk (st := s_Floor_init) l_Floor_init c_Floor_init k_Floor_init
  have F_peaks := fun_mk (st := s_peaks) l_peaks c_peaks k_peaks
  have F_l_filled := fun_mk (st := s_l_filled) l_l_filled c_l_filled k_l_filled
  have F_l_refused := fun_mk (st := s_l_refused) l_l_refused c_l_refused k_l_refused
  have F_l_whole := fun_mk (st := s_l_whole) l_l_whole c_l_whole k_l_whole
  have F_law := fun_mk (st := s_law) l_law c_law k_law
  exact ⟨{
    f_l_mix := f_l_mix, d_l_mix := _, F_l_mix := F_l_mix,
    b_l_mix := bd_l_mix F_l_mix,
    m_l_mix := PySem.W.mg_of X G a_l_mix,
    f_l_cell := f_l_cell, d_l_cell := _, F_l_cell := F_l_cell,
    b_l_cell := bd_l_cell F_l_cell,
    m_l_cell := PySem.W.mg_of X G a_l_cell,
    f_l_lines := f_l_lines, d_l_lines := _, F_l_lines := F_l_lines,
    b_l_lines := bd_l_lines F_l_lines,
    m_l_lines := PySem.W.mg_of X G a_l_lines,
    f_is_name := f_is_name, d_is_name := _, F_is_name := F_is_name,
    b_is_name := bd_is_name F_is_name,
    m_is_name := PySem.W.mg_of X G a_is_name,
    f_Hall_work := f_Hall_work, d_Hall_work := _, F_Hall_work := F_Hall_work,
    b_Hall_work := bd_Hall_work F_Hall_work,
    f_is_whole := f_is_whole, d_is_whole := _, F_is_whole := F_is_whole,
    b_is_whole := bd_is_whole F_is_whole,
    m_is_whole := PySem.W.mg_of X G a_is_whole,
    f_is_from := f_is_from, d_is_from := _, F_is_from := F_is_from,
    b_is_from := bd_is_from F_is_from,
    m_is_from := PySem.W.mg_of X G a_is_from,
    f_need_start := f_need_start, d_need_start := _, F_need_start := F_need_start,
    b_need_start := bd_need_start F_need_start,
    m_need_start := PySem.W.mg_of X G a_need_start,
    f_is_number_below := f_is_number_below, d_is_number_below := _, F_is_number_below := F_is_number_below,
    b_is_number_below := bd_is_number_below F_is_number_below,
    m_is_number_below := PySem.W.mg_of X G a_is_number_below,
    f_Hall_need_work := f_Hall_need_work, d_Hall_need_work := _, F_Hall_need_work := F_Hall_need_work,
    b_Hall_need_work := bd_Hall_need_work F_Hall_need_work,
    f_Hall_lay := f_Hall_lay, d_Hall_lay := _, F_Hall_lay := F_Hall_lay,
    b_Hall_lay := bd_Hall_lay F_Hall_lay,
    f_Hall_belt := f_Hall_belt, d_Hall_belt := _, F_Hall_belt := F_Hall_belt,
    dT_Hall_belt := dT_Hall_belt,
    dk0_Hall_belt := dk0_Hall_belt,
    b_Hall_belt := fun s us X hl => (match us, (show us.length = 6 by simpa using hl) with | [_, _, _, _, _, _], _ => PySem.W.binds_K X rfl t_Hall_belt rfl rfl rfl),
    b1_Hall_belt := fun s us X hl => (match us, (show us.length = 5 by simpa using hl) with | [_, _, _, _, _], _ => PySem.W.binds_K X rfl t_Hall_belt rfl rfl rfl),
    v1_Hall_belt := (.cons ⟨_, rfl⟩ .nil),
    f_Hall_init := f_Hall_init, d_Hall_init := _, F_Hall_init := F_Hall_init,
    b_Hall_init := bd_Hall_init F_Hall_init,
    f_l_made := f_l_made, d_l_made := _, F_l_made := F_l_made,
    b_l_made := bd_l_made F_l_made,
    m_l_made := PySem.W.mg_of X G a_l_made,
    f_l_turn := f_l_turn, d_l_turn := _, F_l_turn := F_l_turn,
    b_l_turn := bd_l_turn F_l_turn,
    m_l_turn := PySem.W.mg_of X G a_l_turn,
    f_l_ready := f_l_ready, d_l_ready := _, F_l_ready := F_l_ready,
    b_l_ready := bd_l_ready F_l_ready,
    m_l_ready := PySem.W.mg_of X G a_l_ready,
    f_l_drawn_row := f_l_drawn_row, d_l_drawn_row := _, F_l_drawn_row := F_l_drawn_row,
    b_l_drawn_row := bd_l_drawn_row F_l_drawn_row,
    m_l_drawn_row := PySem.W.mg_of X G a_l_drawn_row,
    f_peak_of := f_peak_of, d_peak_of := _, F_peak_of := F_peak_of,
    b_peak_of := bd_peak_of F_peak_of,
    m_peak_of := PySem.W.mg_of X G a_peak_of,
    f_enough := f_enough, d_enough := _, F_enough := F_enough,
    b_enough := bd_enough F_enough,
    m_enough := PySem.W.mg_of X G a_enough,
    f_Floor_need_work := f_Floor_need_work, d_Floor_need_work := _, F_Floor_need_work := F_Floor_need_work,
    b_Floor_need_work := bd_Floor_need_work F_Floor_need_work,
    f_Floor_go := f_Floor_go, d_Floor_go := _, F_Floor_go := F_Floor_go,
    b_Floor_go := bd_Floor_go F_Floor_go,
    f_Hall_belts := f_Hall_belts, d_Hall_belts := _, F_Hall_belts := F_Hall_belts,
    b_Hall_belts := bd_Hall_belts F_Hall_belts,
    f_Hall_entering := f_Hall_entering, d_Hall_entering := _, F_Hall_entering := F_Hall_entering,
    b_Hall_entering := bd_Hall_entering F_Hall_entering,
    f_Hall_need_belt := f_Hall_need_belt, d_Hall_need_belt := _, F_Hall_need_belt := F_Hall_need_belt,
    b_Hall_need_belt := bd_Hall_need_belt F_Hall_need_belt,
    f_Hall_belt_at := f_Hall_belt_at, d_Hall_belt_at := _, F_Hall_belt_at := F_Hall_belt_at,
    b_Hall_belt_at := bd_Hall_belt_at F_Hall_belt_at,
    f_takes_of := f_takes_of, d_takes_of := _, F_takes_of := F_takes_of,
    b_takes_of := bd_takes_of F_takes_of,
    m_takes_of := PySem.W.mg_of X G a_takes_of,
    f_Hall_leaving := f_Hall_leaving, d_Hall_leaving := _, F_Hall_leaving := F_Hall_leaving,
    b_Hall_leaving := bd_Hall_leaving F_Hall_leaving,
    f_gives_of := f_gives_of, d_gives_of := _, F_gives_of := F_gives_of,
    b_gives_of := bd_gives_of F_gives_of,
    m_gives_of := PySem.W.mg_of X G a_gives_of,
    f_Hall_names := f_Hall_names, d_Hall_names := _, F_Hall_names := F_Hall_names,
    b_Hall_names := bd_Hall_names F_Hall_names,
    f_Floor_init := f_Floor_init, d_Floor_init := _, F_Floor_init := F_Floor_init,
    b_Floor_init := bd_Floor_init F_Floor_init,
    f_peaks := f_peaks, d_peaks := _, F_peaks := F_peaks,
    b_peaks := bd_peaks F_peaks,
    m_peaks := PySem.W.mg_of X G a_peaks,
    f_l_filled := f_l_filled, d_l_filled := _, F_l_filled := F_l_filled,
    b_l_filled := bd_l_filled F_l_filled,
    m_l_filled := PySem.W.mg_of X G a_l_filled,
    f_l_refused := f_l_refused, d_l_refused := _, F_l_refused := F_l_refused,
    b_l_refused := bd_l_refused F_l_refused,
    m_l_refused := PySem.W.mg_of X G a_l_refused,
    f_l_whole := f_l_whole, d_l_whole := _, F_l_whole := F_l_whole,
    b_l_whole := bd_l_whole F_l_whole,
    m_l_whole := PySem.W.mg_of X G a_l_whole,
    f_law := f_law, d_law := _, F_law := F_law,
    b_law := bd_law F_law,
    m_law := PySem.W.mg_of X G a_law,
    C_Floor := C_Floor, cl_Floor := ⟨pg_Floor, hd_Floor, po_Floor, sa_Floor⟩, g_Floor := PySem.W.mg_of X G a_Floor,
    na_Floor := ⟨fun f hf => (by
      simp only [List.mem_cons, List.not_mem_nil, or_false] at hf
      rcases hf with rfl | rfl | rfl
      · exact na_Floor_takes
      · exact na_Floor_gives
      · exact na_Floor_heaps)⟩,
    M_Floor_need_work := ⟨a_Floor_need_work, i_Floor_need_work, k_Floor_need_work⟩,
    M_Floor_go := ⟨a_Floor_go, i_Floor_go, k_Floor_go⟩,
    mk_Floor := ⟨mk_Floor, a_Floor_init, i_Floor_init, kc_Floor⟩,
    C_Hall := C_Hall, cl_Hall := ⟨pg_Hall, hd_Hall, po_Hall, sa_Hall⟩, g_Hall := PySem.W.mg_of X G a_Hall,
    na_Hall := ⟨fun f hf => (by
      simp only [List.mem_cons, List.not_mem_nil, or_false] at hf
      rcases hf with rfl | rfl
      · exact na_Hall_numbers
      · exact na_Hall_rows)⟩,
    M_Hall_work := ⟨a_Hall_work, i_Hall_work, k_Hall_work⟩,
    M_Hall_need_work := ⟨a_Hall_need_work, i_Hall_need_work, k_Hall_need_work⟩,
    M_Hall_lay := ⟨a_Hall_lay, i_Hall_lay, k_Hall_lay⟩,
    M_Hall_belt := ⟨a_Hall_belt, i_Hall_belt, k_Hall_belt⟩,
    mk_Hall := ⟨mk_Hall, a_Hall_init, i_Hall_init, kc_Hall⟩,
    M_Hall_belts := ⟨a_Hall_belts, i_Hall_belts, k_Hall_belts⟩,
    M_Hall_entering := ⟨a_Hall_entering, i_Hall_entering, k_Hall_entering⟩,
    M_Hall_need_belt := ⟨a_Hall_need_belt, i_Hall_need_belt, k_Hall_need_belt⟩,
    M_Hall_belt_at := ⟨a_Hall_belt_at, i_Hall_belt_at, k_Hall_belt_at⟩,
    M_Hall_leaving := ⟨a_Hall_leaving, i_Hall_leaving, k_Hall_leaving⟩,
    M_Hall_names := ⟨a_Hall_names, i_Hall_names, k_Hall_names⟩,
    n_ValueError := PySem.W.mg_none_of X G z_ValueError,
    n_all := PySem.W.mg_none_of X G z_all,
    n_bool := PySem.W.mg_none_of X G z_bool,
    n_enumerate := PySem.W.mg_none_of X G z_enumerate,
    n_int := PySem.W.mg_none_of X G z_int,
    n_isinstance := PySem.W.mg_none_of X G z_isinstance,
    n_len := PySem.W.mg_none_of X G z_len,
    n_list := PySem.W.mg_none_of X G z_list,
    n_max := PySem.W.mg_none_of X G z_max,
    n_range := PySem.W.mg_none_of X G z_range,
    n_str := PySem.W.mg_none_of X G z_str,
    X_RateError := X_RateError, gx_RateError := gx_RateError, mx_RateError := PySem.W.mg_of X G gx_RateError, ex_RateError := ex_RateError,
    X_NoName := X_NoName, gx_NoName := gx_NoName, mx_NoName := PySem.W.mg_of X G gx_NoName, ex_NoName := ex_NoName,
    X_Twice := X_Twice, gx_Twice := gx_Twice, mx_Twice := PySem.W.mg_of X G gx_Twice, ex_Twice := ex_Twice,
    X_TooMuch := X_TooMuch, gx_TooMuch := gx_TooMuch, mx_TooMuch := PySem.W.mg_of X G gx_TooMuch, ex_TooMuch := ex_TooMuch,
    X_NoWork := X_NoWork, gx_NoWork := gx_NoWork, mx_NoWork := PySem.W.mg_of X G gx_NoWork, ex_NoWork := ex_NoWork,
    X_NoBelt := X_NoBelt, gx_NoBelt := gx_NoBelt, mx_NoBelt := PySem.W.mg_of X G gx_NoBelt, ex_NoBelt := ex_NoBelt,
    X_NoRate := X_NoRate, gx_NoRate := gx_NoRate, mx_NoRate := PySem.W.mg_of X G gx_NoRate, ex_NoRate := ex_NoRate,
    X_Empty := X_Empty, gx_Empty := gx_Empty, mx_Empty := PySem.W.mg_of X G gx_Empty, ex_Empty := ex_Empty,
    em_RateError_RateError := em_RateError_RateError,
    em_NoName_RateError := em_NoName_RateError,
    em_Twice_RateError := em_Twice_RateError,
    em_TooMuch_RateError := em_TooMuch_RateError,
    em_NoWork_RateError := em_NoWork_RateError,
    em_NoBelt_RateError := em_NoBelt_RateError,
    em_NoRate_RateError := em_NoRate_RateError,
    em_Empty_RateError := em_Empty_RateError,
    xc_NoName := ⟨excIn_cls ex_NoName, x1_NoName, x2_NoName, x3_NoName, xg, xt, x4_NoName, x5_NoName⟩,
    xc_Twice := ⟨excIn_cls ex_Twice, x1_Twice, x2_Twice, x3_Twice, xg, xt, x4_Twice, x5_Twice⟩,
    xc_TooMuch := ⟨excIn_cls ex_TooMuch, x1_TooMuch, x2_TooMuch, x3_TooMuch, xg, xt, x4_TooMuch, x5_TooMuch⟩,
    xc_NoWork := ⟨excIn_cls ex_NoWork, x1_NoWork, x2_NoWork, x3_NoWork, xg, xt, x4_NoWork, x5_NoWork⟩,
    xc_NoBelt := ⟨excIn_cls ex_NoBelt, x1_NoBelt, x2_NoBelt, x3_NoBelt, xg, xt, x4_NoBelt, x5_NoBelt⟩,
    xc_NoRate := ⟨excIn_cls ex_NoRate, x1_NoRate, x2_NoRate, x3_NoRate, xg, xt, x4_NoRate, x5_NoRate⟩,
    xc_Empty := ⟨excIn_cls ex_Empty, x1_Empty, x2_Empty, x3_Empty, xg, xt, x4_Empty, x5_Empty⟩,
    ki_NoName_Empty := ki_NoName_Empty,
    ki_NoName_NoWork := ki_NoName_NoWork,
    ki_NoName_ValueError := ki_NoName_ValueError,
    ki_Twice_Empty := ki_Twice_Empty,
    ki_Twice_NoWork := ki_Twice_NoWork,
    ki_Twice_ValueError := ki_Twice_ValueError,
    ki_TooMuch_Empty := ki_TooMuch_Empty,
    ki_TooMuch_NoWork := ki_TooMuch_NoWork,
    ki_TooMuch_ValueError := ki_TooMuch_ValueError,
    ki_NoWork_Empty := ki_NoWork_Empty,
    ki_NoWork_NoWork := ki_NoWork_NoWork,
    ki_NoWork_ValueError := ki_NoWork_ValueError,
    ki_NoBelt_Empty := ki_NoBelt_Empty,
    ki_NoBelt_NoWork := ki_NoBelt_NoWork,
    ki_NoBelt_ValueError := ki_NoBelt_ValueError,
    ki_NoRate_Empty := ki_NoRate_Empty,
    ki_NoRate_NoWork := ki_NoRate_NoWork,
    ki_NoRate_ValueError := ki_NoRate_ValueError,
    ki_Empty_Empty := ki_Empty_Empty,
    ki_Empty_NoWork := ki_Empty_NoWork,
    ki_Empty_ValueError := ki_Empty_ValueError,
    tk_MOST_LETTERS := tk_MOST_LETTERS, c_MOST_LETTERS := PySem.W.mg_of X G c_MOST_LETTERS,
    tk_MOST_WORKS := tk_MOST_WORKS, c_MOST_WORKS := PySem.W.mg_of X G c_MOST_WORKS,
    tk_MOST_BELTS := tk_MOST_BELTS, c_MOST_BELTS := PySem.W.mg_of X G c_MOST_BELTS,
    bl_law := fun s v => .of_eq rfl }, trivial⟩
theorem walk {l : PySem.W.OpenLaw} {q : Program} {loose : List Str} {XP : (Str → Option Value) → Heap → Prop} {YP : World → Heap → Prop} {d : DefRec} {K : Params → PySem.W.Frag} (hn : l.most = some 63) (hdf : d.params.defaults = []) (hdn : d.name = "law")
    (hY : ∀ (w : World) (h : Heap), YP w h → (K w.params).In h)
    (F : ∀ (w : World) (mg : Str → Option Value) (h : Heap), (K w.params).In h → h.Ns mainGlobals mg → ∃ T : Tp (K w.params) mg, True) :
    PySem.W.WalkO q loose XP YP l.row.toRowW d [] (fun f vs => PySem.call f vs) := by
  refine L2.walk_of (n := 63) (k := 11) (x := "_law_script") (CX := fun w => CXX l.prog w) (sp := fun w => spLaw (K w.params)) hn (by decide) hdf ⟨rfl, by decide, by decide⟩ hY (fun w mg fa h KX G hmg => ?_) (fun _ _ a ns hl _ hS => ⟨a, ns, rfl, hS, hl, fun _ => rfl⟩) ?_
  · obtain ⟨T, _⟩ := F w mg h KX G
    rw [hdn, T.m_law] at hmg
    cases hmg
    exact ⟨T.d_law, T.bl_law, fun base _ _ => ok_law T⟩
  · intro w H s e s' z
    obtain ⟨_, _, _, _, _, _, _, _, _, _, _, _, z⟩ := z
    exact z
end Nm
def PySem.W.Fast.tw17497723787630794160 : Nat := 0
def PySem.W.Fast.tw6165847520431317962 : Nat := 0
def PySem.W.Fast.tw4172160019936226557 : Nat := 0
def PySem.W.Fast.tw11385086048247155841 : Nat := 0
def PySem.W.Fast.tw16721078391036802134 : Nat := 0
def PySem.W.Fast.tw14873470815237109812 : Nat := 0
def PySem.W.Fast.tw5444077877268767873 : Nat := 0
open PySem PySem.W PyProof.Rows
set_option maxRecDepth 100000 in
set_option maxHeartbeats 0 in
theorem PySem.Challenge.cw_ratehall_k17_peaks_holds : PySem.Challenge.rw_ratehall_k17_peaks.Holds := by
  w_on; o_law; k_head; (case hw => w_witness2)
  k_fill
  refine Nm.walk (l := PySem.Challenge.rw_ratehall_k17_peaks) rfl rfl rfl (fun w h Y => PySem.W.kIn_of Y) ?F
  case F =>
    intro w mg h KX G
    refine' Nm.tp_mk KX G ?a_Floor ?a_Hall ?a_l_mix ?l_l_mix ?c_l_mix ?k_l_mix ?a_l_cell ?l_l_cell ?c_l_cell ?k_l_cell ?a_l_lines ?l_l_lines ?c_l_lines ?k_l_lines ?a_is_name ?l_is_name ?c_is_name ?k_is_name ?a_Hall_work ?i_Hall_work ?l_Hall_work ?c_Hall_work ?k_Hall_work ?a_is_whole ?l_is_whole ?c_is_whole ?k_is_whole ?a_is_from ?l_is_from ?c_is_from ?k_is_from ?a_need_start ?l_need_start ?c_need_start ?k_need_start ?a_is_number_below ?l_is_number_below ?c_is_number_below ?k_is_number_below ?a_Hall_need_work ?i_Hall_need_work ?l_Hall_need_work ?c_Hall_need_work ?k_Hall_need_work ?a_Hall_lay ?i_Hall_lay ?l_Hall_lay ?c_Hall_lay ?k_Hall_lay ?a_Hall_belt ?i_Hall_belt ?l_Hall_belt ?t_Hall_belt ?c_Hall_belt ?k_Hall_belt ?a_Hall_init ?i_Hall_init ?l_Hall_init ?c_Hall_init ?k_Hall_init ?a_l_made ?l_l_made ?c_l_made ?k_l_made ?a_l_turn ?l_l_turn ?c_l_turn ?k_l_turn ?a_l_ready ?l_l_ready ?c_l_ready ?k_l_ready ?a_l_drawn_row ?l_l_drawn_row ?c_l_drawn_row ?k_l_drawn_row ?a_peak_of ?l_peak_of ?c_peak_of ?k_peak_of ?a_enough ?l_enough ?c_enough ?k_enough ?a_Floor_need_work ?i_Floor_need_work ?l_Floor_need_work ?c_Floor_need_work ?k_Floor_need_work ?a_Floor_go ?i_Floor_go ?l_Floor_go ?c_Floor_go ?k_Floor_go ?a_Hall_belts ?i_Hall_belts ?l_Hall_belts ?c_Hall_belts ?k_Hall_belts ?a_Hall_entering ?i_Hall_entering ?l_Hall_entering ?c_Hall_entering ?k_Hall_entering ?a_Hall_need_belt ?i_Hall_need_belt ?l_Hall_need_belt ?c_Hall_need_belt ?k_Hall_need_belt ?a_Hall_belt_at ?i_Hall_belt_at ?l_Hall_belt_at ?c_Hall_belt_at ?k_Hall_belt_at ?a_takes_of ?l_takes_of ?c_takes_of ?k_takes_of ?a_Hall_leaving ?i_Hall_leaving ?l_Hall_leaving ?c_Hall_leaving ?k_Hall_leaving ?a_gives_of ?l_gives_of ?c_gives_of ?k_gives_of ?a_Hall_names ?i_Hall_names ?l_Hall_names ?c_Hall_names ?k_Hall_names ?a_Floor_init ?i_Floor_init ?l_Floor_init ?c_Floor_init ?k_Floor_init ?a_peaks ?l_peaks ?c_peaks ?k_peaks ?a_l_filled ?l_l_filled ?c_l_filled ?k_l_filled ?a_l_refused ?l_l_refused ?c_l_refused ?k_l_refused ?a_l_whole ?l_l_whole ?c_l_whole ?k_l_whole ?a_law ?l_law ?c_law ?k_law ?pg_Floor ?hd_Floor ?po_Floor ?sa_Floor ?mk_Floor ?kc_Floor ?na_Floor_takes ?na_Floor_gives ?na_Floor_heaps ?pg_Hall ?hd_Hall ?po_Hall ?sa_Hall ?mk_Hall ?kc_Hall ?na_Hall_numbers ?na_Hall_rows ?gx_RateError ?ex_RateError ?gx_NoName ?ex_NoName ?gx_Twice ?ex_Twice ?gx_TooMuch ?ex_TooMuch ?gx_NoWork ?ex_NoWork ?gx_NoBelt ?ex_NoBelt ?gx_NoRate ?ex_NoRate ?gx_Empty ?ex_Empty ?em_RateError_RateError ?em_NoName_RateError ?em_Twice_RateError ?em_TooMuch_RateError ?em_NoWork_RateError ?em_NoBelt_RateError ?em_NoRate_RateError ?em_Empty_RateError ?xg ?xt ?x1_NoName ?x2_NoName ?x3_NoName ?x4_NoName ?x5_NoName ?x1_Twice ?x2_Twice ?x3_Twice ?x4_Twice ?x5_Twice ?x1_TooMuch ?x2_TooMuch ?x3_TooMuch ?x4_TooMuch ?x5_TooMuch ?x1_NoWork ?x2_NoWork ?x3_NoWork ?x4_NoWork ?x5_NoWork ?x1_NoBelt ?x2_NoBelt ?x3_NoBelt ?x4_NoBelt ?x5_NoBelt ?x1_NoRate ?x2_NoRate ?x3_NoRate ?x4_NoRate ?x5_NoRate ?x1_Empty ?x2_Empty ?x3_Empty ?x4_Empty ?x5_Empty ?ki_NoName_Empty ?ki_NoName_NoWork ?ki_NoName_ValueError ?ki_Twice_Empty ?ki_Twice_NoWork ?ki_Twice_ValueError ?ki_TooMuch_Empty ?ki_TooMuch_NoWork ?ki_TooMuch_ValueError ?ki_NoWork_Empty ?ki_NoWork_NoWork ?ki_NoWork_ValueError ?ki_NoBelt_Empty ?ki_NoBelt_NoWork ?ki_NoBelt_ValueError ?ki_NoRate_Empty ?ki_NoRate_NoWork ?ki_NoRate_ValueError ?ki_Empty_Empty ?ki_Empty_NoWork ?ki_Empty_ValueError ?c_MOST_LETTERS ?c_MOST_WORKS ?c_MOST_BELTS ?z_ValueError ?z_all ?z_bool ?z_enumerate ?z_int ?z_isinstance ?z_len ?z_list ?z_max ?z_range ?z_str
    (case a_Floor => k_is)
    (case a_Hall => k_is)
    (case a_l_mix => k_is)
    (case l_l_mix => k_is)
    (case c_l_mix => k_is)
    (case k_l_mix => k_is)
    (case a_l_cell => k_is)
    (case l_l_cell => k_is)
    (case c_l_cell => k_is)
    (case k_l_cell => k_is)
    (case a_l_lines => k_is)
    (case l_l_lines => k_is)
    (case c_l_lines => k_is)
    (case k_l_lines => k_is)
    (case a_is_name => k_is)
    (case l_is_name => k_is)
    (case c_is_name => k_is)
    (case k_is_name => k_is)
    (case a_Hall_work => k_is)
    (case i_Hall_work => k_is)
    (case l_Hall_work => k_is)
    (case c_Hall_work => k_is)
    (case k_Hall_work => k_is)
    (case a_is_whole => k_is)
    (case l_is_whole => k_is)
    (case c_is_whole => k_is)
    (case k_is_whole => k_is)
    (case a_is_from => k_is)
    (case l_is_from => k_is)
    (case c_is_from => k_is)
    (case k_is_from => k_is)
    (case a_need_start => k_is)
    (case l_need_start => k_is)
    (case c_need_start => k_is)
    (case k_need_start => k_is)
    (case a_is_number_below => k_is)
    (case l_is_number_below => k_is)
    (case c_is_number_below => k_is)
    (case k_is_number_below => k_is)
    (case a_Hall_need_work => k_is)
    (case i_Hall_need_work => k_is)
    (case l_Hall_need_work => k_is)
    (case c_Hall_need_work => k_is)
    (case k_Hall_need_work => k_is)
    (case a_Hall_lay => k_is)
    (case i_Hall_lay => k_is)
    (case l_Hall_lay => k_is)
    (case c_Hall_lay => k_is)
    (case k_Hall_lay => k_is)
    (case a_Hall_belt => k_is)
    (case i_Hall_belt => k_is)
    (case l_Hall_belt => k_is)
    (case t_Hall_belt => k_is)
    (case c_Hall_belt => k_is)
    (case k_Hall_belt => k_is)
    (case a_Hall_init => k_is)
    (case i_Hall_init => k_is)
    (case l_Hall_init => k_is)
    (case c_Hall_init => k_is)
    (case k_Hall_init => k_is)
    (case a_l_made => k_is)
    (case l_l_made => k_is)
    (case c_l_made => k_is)
    (case k_l_made => k_is)
    (case a_l_turn => k_is)
    (case l_l_turn => k_is)
    (case c_l_turn => k_is)
    (case k_l_turn => k_is)
    (case a_l_ready => k_is)
    (case l_l_ready => k_is)
    (case c_l_ready => k_is)
    (case k_l_ready => k_is)
    (case a_l_drawn_row => k_is)
    (case l_l_drawn_row => k_is)
    (case c_l_drawn_row => k_is)
    (case k_l_drawn_row => k_is)
    (case a_peak_of => k_is)
    (case l_peak_of => k_is)
    (case c_peak_of => k_is)
    (case k_peak_of => k_is)
    (case a_enough => k_is)
    (case l_enough => k_is)
    (case c_enough => k_is)
    (case k_enough => k_is)
    (case a_Floor_need_work => k_is)
    (case i_Floor_need_work => k_is)
    (case l_Floor_need_work => k_is)
    (case c_Floor_need_work => k_is)
    (case k_Floor_need_work => k_is)
    (case a_Floor_go => k_is)
    (case i_Floor_go => k_is)
    (case l_Floor_go => k_is)
    (case c_Floor_go => k_is)
    (case k_Floor_go => k_is)
    (case a_Hall_belts => k_is)
    (case i_Hall_belts => k_is)
    (case l_Hall_belts => k_is)
    (case c_Hall_belts => k_is)
    (case k_Hall_belts => k_is)
    (case a_Hall_entering => k_is)
    (case i_Hall_entering => k_is)
    (case l_Hall_entering => k_is)
    (case c_Hall_entering => k_is)
    (case k_Hall_entering => k_is)
    (case a_Hall_need_belt => k_is)
    (case i_Hall_need_belt => k_is)
    (case l_Hall_need_belt => k_is)
    (case c_Hall_need_belt => k_is)
    (case k_Hall_need_belt => k_is)
    (case a_Hall_belt_at => k_is)
    (case i_Hall_belt_at => k_is)
    (case l_Hall_belt_at => k_is)
    (case c_Hall_belt_at => k_is)
    (case k_Hall_belt_at => k_is)
    (case a_takes_of => k_is)
    (case l_takes_of => k_is)
    (case c_takes_of => k_is)
    (case k_takes_of => k_is)
    (case a_Hall_leaving => k_is)
    (case i_Hall_leaving => k_is)
    (case l_Hall_leaving => k_is)
    (case c_Hall_leaving => k_is)
    (case k_Hall_leaving => k_is)
    (case a_gives_of => k_is)
    (case l_gives_of => k_is)
    (case c_gives_of => k_is)
    (case k_gives_of => k_is)
    (case a_Hall_names => k_is)
    (case i_Hall_names => k_is)
    (case l_Hall_names => k_is)
    (case c_Hall_names => k_is)
    (case k_Hall_names => k_is)
    (case a_Floor_init => k_is)
    (case i_Floor_init => k_is)
    (case l_Floor_init => k_is)
    (case c_Floor_init => k_is)
    (case k_Floor_init => k_is)
    (case a_peaks => k_is)
    (case l_peaks => k_is)
    (case c_peaks => k_is)
    (case k_peaks => k_is)
    (case a_l_filled => k_is)
    (case l_l_filled => k_is)
    (case c_l_filled => k_is)
    (case k_l_filled => k_is)
    (case a_l_refused => k_is)
    (case l_l_refused => k_is)
    (case c_l_refused => k_is)
    (case k_l_refused => k_is)
    (case a_l_whole => k_is)
    (case l_l_whole => k_is)
    (case c_l_whole => k_is)
    (case k_l_whole => k_is)
    (case a_law => k_is)
    (case l_law => k_is)
    (case c_law => k_is)
    (case k_law => k_is)
    (case pg_Floor => k_is)
    (case hd_Floor => k_is)
    (case po_Floor => k_is)
    (case sa_Floor => k_is)
    (case mk_Floor => k_is)
    (case kc_Floor => k_is)
    (case na_Floor_takes => k_is)
    (case na_Floor_gives => k_is)
    (case na_Floor_heaps => k_is)
    (case pg_Hall => k_is)
    (case hd_Hall => k_is)
    (case po_Hall => k_is)
    (case sa_Hall => k_is)
    (case mk_Hall => k_is)
    (case kc_Hall => k_is)
    (case na_Hall_numbers => k_is)
    (case na_Hall_rows => k_is)
    (case gx_RateError => k_is)
    (case ex_RateError => k_exc)
    (case gx_NoName => k_is)
    (case ex_NoName => k_exc)
    (case gx_Twice => k_is)
    (case ex_Twice => k_exc)
    (case gx_TooMuch => k_is)
    (case ex_TooMuch => k_exc)
    (case gx_NoWork => k_is)
    (case ex_NoWork => k_exc)
    (case gx_NoBelt => k_is)
    (case ex_NoBelt => k_exc)
    (case gx_NoRate => k_is)
    (case ex_NoRate => k_exc)
    (case gx_Empty => k_is)
    (case ex_Empty => k_exc)
    (case em_RateError_RateError => kts_exm)
    (case em_NoName_RateError => kts_exm)
    (case em_Twice_RateError => kts_exm)
    (case em_TooMuch_RateError => kts_exm)
    (case em_NoWork_RateError => kts_exm)
    (case em_NoBelt_RateError => kts_exm)
    (case em_NoRate_RateError => kts_exm)
    (case em_Empty_RateError => kts_exm)
    (case xg => k_is)
    (case xt => k_is)
    (case x1_NoName => k_is)
    (case x2_NoName => k_is)
    (case x3_NoName => k_is)
    (case x4_NoName => k_is)
    (case x5_NoName => k_is)
    (case x1_Twice => k_is)
    (case x2_Twice => k_is)
    (case x3_Twice => k_is)
    (case x4_Twice => k_is)
    (case x5_Twice => k_is)
    (case x1_TooMuch => k_is)
    (case x2_TooMuch => k_is)
    (case x3_TooMuch => k_is)
    (case x4_TooMuch => k_is)
    (case x5_TooMuch => k_is)
    (case x1_NoWork => k_is)
    (case x2_NoWork => k_is)
    (case x3_NoWork => k_is)
    (case x4_NoWork => k_is)
    (case x5_NoWork => k_is)
    (case x1_NoBelt => k_is)
    (case x2_NoBelt => k_is)
    (case x3_NoBelt => k_is)
    (case x4_NoBelt => k_is)
    (case x5_NoBelt => k_is)
    (case x1_NoRate => k_is)
    (case x2_NoRate => k_is)
    (case x3_NoRate => k_is)
    (case x4_NoRate => k_is)
    (case x5_NoRate => k_is)
    (case x1_Empty => k_is)
    (case x2_Empty => k_is)
    (case x3_Empty => k_is)
    (case x4_Empty => k_is)
    (case x5_Empty => k_is)
    (case ki_NoName_Empty => kit_is)
    (case ki_NoName_NoWork => kit_is)
    (case ki_NoName_ValueError => kit_is)
    (case ki_Twice_Empty => kit_is)
    (case ki_Twice_NoWork => kit_is)
    (case ki_Twice_ValueError => kit_is)
    (case ki_TooMuch_Empty => kit_is)
    (case ki_TooMuch_NoWork => kit_is)
    (case ki_TooMuch_ValueError => kit_is)
    (case ki_NoWork_Empty => kit_is)
    (case ki_NoWork_NoWork => kit_is)
    (case ki_NoWork_ValueError => kit_is)
    (case ki_NoBelt_Empty => kit_is)
    (case ki_NoBelt_NoWork => kit_is)
    (case ki_NoBelt_ValueError => kit_is)
    (case ki_NoRate_Empty => kit_is)
    (case ki_NoRate_NoWork => kit_is)
    (case ki_NoRate_ValueError => kit_is)
    (case ki_Empty_Empty => kit_is)
    (case ki_Empty_NoWork => kit_is)
    (case ki_Empty_ValueError => kit_is)
    (case c_MOST_LETTERS => k_is)
    (case c_MOST_WORKS => k_is)
    (case c_MOST_BELTS => k_is)
    (case z_ValueError => k_is)
    (case z_all => k_is)
    (case z_bool => k_is)
    (case z_enumerate => k_is)
    (case z_int => k_is)
    (case z_isinstance => k_is)
    (case z_len => k_is)
    (case z_list => k_is)
    (case z_max => k_is)
    (case z_range => k_is)
    (case z_str => k_is)
#print axioms PySem.Challenge.cw_ratehall_k17_peaks_holds
