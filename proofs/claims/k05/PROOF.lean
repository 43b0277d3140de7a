import PyProof.Rows.All
import Wide.All
import OpenK.AllK
import Wide.FinOn
import Lean
import PyProof.EqAt
import PyProof.EqKinds
import PyProof.TupleCall
import PySem.Challenge.RW_ratehall_k05_pieces
set_option maxHeartbeats 4000000
set_option Elab.async false
set_option linter.all false
set_option maxRecDepth 100000
namespace L2
open PySem PySem.Spec PyProof.Rows
abbrev Key := Sum Int Str
def keyIs : Key → Value → Bool
  | .inl k, v => Value.isInt k v
  | .inr x, v => Value.isStrOf x v
def keyH (w : World) : Key → Int
  | .inl k => hashInt k
  | .inr x => hashStr w x
theorem keyIs_shape : ∀ {k : Key} {v : Value}, keyIs k v = true → (∃ i t, k = Sum.inl i ∧ v = Value.int i t) ∨ (∃ x t, k = Sum.inr x ∧ v = Value.str x t)
  | .inl i, v, h => by
    obtain ⟨t, e⟩ := Value.isInt_shape (k := i) (v := v) h
    exact .inl ⟨i, t, rfl, e⟩
  | .inr x, v, h => by
    obtain ⟨t, e⟩ := Value.isStrOf_shape (x := x) (v := v) h
    exact .inr ⟨x, t, rfl, e⟩
theorem keyIs_int (i : Int) (t : Tok) : keyIs (.inl i) (.int i t) = true := by simp [keyIs, Value.isInt]
theorem keyIs_str (x : Str) (t : Tok) : keyIs (.inr x) (.str x t) = true := by simp [keyIs, Value.isStrOf]
theorem key_ll (a b : Int) : decide ((Sum.inl a : Key) = Sum.inl b) = (a == b) := by
  by_cases e : a = b
  · subst e; simp
  · have h : ¬ (Sum.inl a : Key) = Sum.inl b := fun q => e (Sum.inl.inj q)
    rw [decide_eq_false h]
    exact (beq_eq_false_iff_ne.mpr e).symm
theorem key_rr (a b : Str) : decide ((Sum.inr a : Key) = Sum.inr b) = decide (a = b) := by
  by_cases e : a = b
  · subst e; simp
  · have h : ¬ (Sum.inr a : Key) = Sum.inr b := fun q => e (Sum.inr.inj q)
    rw [decide_eq_false h, decide_eq_false e]
theorem key_lr (a : Int) (b : Str) : decide ((Sum.inl a : Key) = Sum.inr b) = false := decide_eq_false (fun q => nomatch q)
theorem key_rl (a : Str) (b : Int) : decide ((Sum.inr a : Key) = Sum.inl b) = false := decide_eq_false (fun q => nomatch q)
def mixKind (prog : Program) (w : World) : PySem.KeyKind prog w Key where
  is := keyIs
  hash := keyH w
  inj := fun v a b ha hb => by
    rcases keyIs_shape ha with ⟨i, t, rfl, rfl⟩ | ⟨x, t, rfl, rfl⟩
    · rcases keyIs_shape hb with ⟨j, u, rfl, e⟩ | ⟨y, u, rfl, e⟩
      · injection e with e1 _; rw [e1]
      · exact nomatch e
    · rcases keyIs_shape hb with ⟨j, u, rfl, e⟩ | ⟨y, u, rfl, e⟩
      · exact nomatch e
      · injection e with e1 _; rw [e1]
  byValue := fun k v h => by
    rcases keyIs_shape h with ⟨i, t, rfl, rfl⟩ | ⟨x, t, rfl, rfl⟩ <;> rfl
  pyHash := fun hv h => by
    rcases keyIs_shape hv with ⟨i, t, rfl, rfl⟩ | ⟨x, t, rfl, rfl⟩
    · exact wpAny_pyHash_int h
    · exact wpAny_pyHash_str h
  eqBool := fun hu hv h => by
    rcases keyIs_shape hu with ⟨i, t, rfl, rfl⟩ | ⟨x, t, rfl, rfl⟩
    · rcases keyIs_shape hv with ⟨j, u, rfl, rfl⟩ | ⟨y, u, rfl, rfl⟩
      · rw [key_ll] at h; exact wpAny_eqBool_int h
      · rw [key_lr] at h; exact SeqAt.EqAt.int_str i t y u _ _ _ _ h
    · rcases keyIs_shape hv with ⟨j, u, rfl, rfl⟩ | ⟨y, u, rfl, rfl⟩
      · rw [key_rl] at h; exact SeqAt.EqAt.str_int x t j u _ _ _ _ h
      · rw [key_rr] at h; exact wpAny_eqBool_str h
  «strs» := fun k x t v h => by
    rcases keyIs_shape h with ⟨i, u, rfl, e⟩ | ⟨y, u, rfl, e⟩
    · exact nomatch e
    · injection e with e1 _
      subst e1
      cases v <;> rfl
theorem mixKind_int (prog : Program) (w : World) (i : Int) (t : Tok) : (mixKind prog w).is (.inl i) (.int i t) = true := keyIs_int i t
theorem mixKind_str (prog : Program) (w : World) (x : Str) (t : Tok) : (mixKind prog w).is (.inr x) (.str x t) = true := keyIs_str x t
end L2
namespace L2
open PySem PySem.Spec PyProof.Rows
inductive V where
  | non | bl (b : Bool) | int (i : Int) | str (x : Str) | byt (b : Array UInt8) | flt (b : UInt64) | ref (a : Addr) | ty (n : String)
  deriving DecidableEq
def RelV : V → Value → Prop
  | .non, u => u = Value.none
  | .bl b, u => u = Value.bool b
  | .int i, u => ∃ t, u = Value.int i t
  | .str x, u => ∃ t, u = Value.str x t
  | .byt b, u => ∃ t, u = Value.bytes b t
  | .flt b, u => ∃ t, u = Value.float b t
  | .ref a, u => u = Value.ref a
  | .ty n, u => u = Value.type n
abbrev Vals : List V → List Value → Prop := Paired RelV
theorem Vals.length {xs : List V} {us : List Value} (r : Vals xs us) : xs.length = us.length := Paired.length r
theorem Vals.get : ∀ {xs : List V} {us : List Value} {i : Nat} {x : V}, Vals xs us → xs[i]? = some x → ∃ u, us[i]? = some u ∧ RelV x u
  | _, _, _, _, .nil, e => by simp at e
  | _, _, 0, _, .cons r _, e => by simp at e; subst e; exact ⟨_, rfl, r⟩
  | _, _, i + 1, x, .cons _ t, e => by
    obtain ⟨u, h1, h2⟩ := Vals.get (i := i) (x := x) t (by simpa using e)
    exact ⟨u, by simpa using h1, h2⟩
theorem Vals.set {x : V} {u : Value} (r : RelV x u) : ∀ {xs : List V} {us : List Value} (i : Nat), Vals xs us → Vals (xs.set i x) (us.set i u)
  | _, _, _, .nil => .nil
  | _, _, 0, .cons _ t => .cons r t
  | _, _, i + 1, .cons q t => .cons q (Vals.set r i t)
theorem Vals.append : ∀ {xs ys : List V} {us ws : List Value}, Vals xs us → Vals ys ws → Vals (xs ++ ys) (us ++ ws)
  | _, _, _, _, .nil, s => s
  | _, _, _, _, .cons r t, s => .cons r (Vals.append t s)
theorem Vals.take : ∀ {xs : List V} {us : List Value} (n : Nat), Vals xs us → Vals (xs.take n) (us.take n)
  | _, _, 0, _ => .nil
  | _, _, _ + 1, .nil => .nil
  | _, _, n + 1, .cons r t => .cons r (Vals.take n t)
theorem Vals.drop : ∀ {xs : List V} {us : List Value} (n : Nat), Vals xs us → Vals (xs.drop n) (us.drop n)
  | _, _, 0, r => r
  | _, _, _ + 1, .nil => .nil
  | _, _, n + 1, .cons _ t => Vals.drop n t
def RelO : Option V → Option Value → Prop
  | some v, some u => RelV v u
  | none, none => True
  | _, _ => False
def KV {κ : Type} : List (κ × V) → List (κ × Value) → Prop := Paired fun (p : κ × V) (q : κ × Value) => p.1 = q.1 ∧ RelV p.2 q.2
def kV : Key → V
  | .inl i => .int i
  | .inr x => .str x
inductive HO where
  | lst (xs : List V)
  | tup (xs : List V)
  | dK (kvs : List (Key × V)) | dT (kvs : List (List Key × V))
  | set (S : Int → Bool) (n : Nat)
  | ins (C dx : Addr) (fs : List (Str × V))
  | own (x : Addr)
  | xd (fs : List (Str × V))
  | met (f x : Addr)
  | rng (lo hi : Int)
  | frz (o : Obj) (u : HO)
  | tbl (ps : Array Value)
  | ext (φ : Heap → Prop)
abbrev Hp := Addr → Option HO
def upd (H : Hp) (a : Addr) (o : HO) : Hp := fun b => if b = a then some o else H b
theorem upd_same {H : Hp} {a : Addr} {o : HO} : upd H a o a = some o := by unfold upd; rw [if_pos rfl]
theorem upd_ne {H : Hp} {a b : Addr} {o : HO} (h : b ≠ a) : upd H a o b = H b := by unfold upd; rw [if_neg h]
theorem ne_of {H : Hp} {a b : Addr} {o u : HO} (h : H a = some o) (h' : H b = some u) (d : o ≠ u) : a ≠ b := by
  intro e; subst e; rw [h] at h'; exact d (Option.some.inj h')
theorem ne_of_none {H : Hp} {a b : Addr} {o : HO} (h : H a = some o) (h' : H b = none) : a ≠ b := by
  intro e; subst e; rw [h] at h'; cases h'
section
variable (P : Program) (w : World)
def ObjOk (H : Hp) (h : Heap) (a : Addr) : HO → Prop
  | .lst xs => xs.length ≤ sizeLine ∧ ∃ (its : List Value) (n : Nat), Vals xs its ∧ h.get? a = some { cls := .type "list", data := .seq its.toArray n }
  | .tup xs => xs.length ≤ sizeLine ∧ ∃ its : List Value, Vals xs its ∧ IsTup h a its.toArray
  | .dK kvs => kvs.length ≤ sizeLine ∧ (a == sysModules) = false ∧ ∃ vs, KV kvs vs ∧ h.DictOf (mixKind P w) a vs
  | .dT kvs => kvs.length ≤ sizeLine ∧ (a == sysModules) = false ∧ ∃ xs : List (List Key × Addr × Value),
      Paired (fun (p : List Key × V) (q : List Key × Addr × Value) => p.1 = q.1 ∧ H q.2.1 = some (.tup (p.1.map kV)) ∧ RelV p.2 q.2.2) kvs xs ∧
      ∃ o es ep, h.get? a = some o ∧ o.ExactDict ∧ o.data = .dict es ep ∧ es.toList = xs.map (entryOfKey (tupleKind (mixKind P w))) ∧ (xs.map (·.1)).Nodup
  | .set S n => h.SetOf (intKind P w) a S n
  | .ins C dx fs => H dx = some (.own a) ∧ fs.length ≤ 1000 ∧ dx ≠ a ∧ h.get? a = some (PySem.W.instObj C dx) ∧
      ∃ mA, h.Ns1 dx mA ∧ (∀ f, RelO (fs.lookup f) (mA f)) ∧ PySem.Within mA (fs.map (·.1))
  | .own _ => ∃ o, h.get? a = some o
  | .xd fs => ∃ mA, h.Ns1 a mA ∧ ∀ f, RelO (fs.lookup f) (mA f)
  | .rng lo hi => ∃ t u v, h.get? a = some { cls := .type "range", data := .fields #[.int lo t, .int hi u, .int 1 v] }
  | .frz o u => h.get? a = some o ∧ ObjOk H h a u
  | .tbl ps => h.get? a = some { cls := .none, data := .fields ps }
  | .met f x => h.get? a = some (PySem.W.methodObj (.ref f) (.ref x))
  | .ext φ => φ h ∧ (∃ o, h.get? a = some o) ∧ ∀ h1 h2 : Heap, φ h1 → (∀ o, h1.get? a = some o → h2.get? a = some o) → φ h2
def HOk (H : Hp) (h : Heap) : Prop := ∀ a o, H a = some o → ObjOk P w H h a o
end
section
variable {P : Program} {w : World} {H H' : Hp} {h h' : Heap} {a : Addr} {o : HO}
theorem ObjOk.lt (x : ObjOk P w H h a o) : a < h.objs.size := by
  cases o with
  | lst xs => obtain ⟨_, _, _, _, e⟩ := x; exact Heap.lt_size e
  | tup xs => obtain ⟨_, _, _, p⟩ := x; exact p.lt
  | dK kvs => obtain ⟨_, _, _, _, o, _, _, e, _⟩ := x; exact Heap.lt_size e
  | dT kvs => obtain ⟨_, _, _, _, o, _, _, e, _⟩ := x; exact Heap.lt_size e
  | set S n => obtain ⟨o, _, _, _, e, _⟩ := x; exact Heap.lt_size e
  | ins C dx fs => obtain ⟨_, _, _, e, _⟩ := x; exact Heap.lt_size e
  | own y => obtain ⟨_, e⟩ := x; exact Heap.lt_size e
  | xd fs => obtain ⟨_, ⟨_, _, _, e, _⟩, _⟩ := x; exact Heap.lt_size e
  | rng lo hi => obtain ⟨_, _, _, e⟩ := x; exact Heap.lt_size e
  | frz ob u => obtain ⟨e, _⟩ := x; exact Heap.lt_size e
  | tbl ps => exact Heap.lt_size (show h.get? a = some _ from x)
  | met f y => exact Heap.lt_size (show h.get? a = some _ from x)
  | ext φ => obtain ⟨_, ⟨_, e⟩, _⟩ := x; exact Heap.lt_size e
theorem Paired.mapP {α β : Type} {F G : α → β → Prop} : ∀ {l₁ : List α} {l₂ : List β}, Paired F l₁ l₂ → (∀ a b, F a b → G a b) → Paired G l₁ l₂
  | _, _, .nil, _ => .nil
  | _, _, .cons r t, f => .cons (f _ _ r) (Paired.mapP t f)
theorem ObjOk.stay (x : ObjOk P w H h a o) (k : ∀ b u, (b = a ∨ H b = some (.own a)) → h.get? b = some u → h'.get? b = some u)
    (ho : ∀ b, H b = some (.own a) → H' b = some (.own a)) (ht : ∀ b xs, H b = some (.tup xs) → H' b = some (.tup xs)) : ObjOk P w H' h' a o := by
  induction o with
  | lst xs => obtain ⟨z, its, n, r, e⟩ := x; exact ⟨z, its, n, r, k _ _ (.inl rfl) e⟩
  | tup xs => obtain ⟨z, its, r, ob, e, c⟩ := x; exact ⟨z, its, r, ob, k _ _ (.inl rfl) e, c⟩
  | dK kvs => obtain ⟨z, y, vs, r, ob, es, ep, e, c⟩ := x; exact ⟨z, y, vs, r, ob, es, ep, k _ _ (.inl rfl) e, c⟩
  | dT kvs =>
    obtain ⟨z, y, xs, r, ob, es, ep, e, c⟩ := x
    exact ⟨z, y, xs, Paired.mapP r fun p q z => ⟨z.1, ht _ _ z.2.1, z.2.2⟩, ob, es, ep, k _ _ (.inl rfl) e, c⟩
  | set S n => obtain ⟨ob, es, ep, t, e, c⟩ := x; exact ⟨ob, es, ep, t, k _ _ (.inl rfl) e, c⟩
  | ins C dx fs =>
    obtain ⟨d, z, ne, e, mA, ⟨od, es, ep, e2, c⟩, r⟩ := x
    exact ⟨ho _ d, z, ne, k _ _ (.inl rfl) e, mA, ⟨od, es, ep, k _ _ (.inr d) e2, c⟩, r⟩
  | own y => obtain ⟨ob, e⟩ := x; exact ⟨ob, k _ _ (.inl rfl) e⟩
  | xd fs => obtain ⟨mA, ⟨od, es, ep, e, c⟩, r⟩ := x; exact ⟨mA, ⟨od, es, ep, k _ _ (.inl rfl) e, c⟩, r⟩
  | rng lo hi => obtain ⟨t, u, v, e⟩ := x; exact ⟨t, u, v, k _ _ (.inl rfl) e⟩
  | frz ob u ih => obtain ⟨e, q⟩ := x; exact ⟨k _ _ (.inl rfl) e, ih q⟩
  | tbl ps =>
    have e : h.get? a = some { cls := .none, data := .fields ps } := x
    show h'.get? a = some { cls := .none, data := .fields ps }
    exact k a _ (.inl rfl) e
  | met f y =>
    have e : h.get? a = some (PySem.W.methodObj (.ref f) (.ref y)) := x
    show h'.get? a = some (PySem.W.methodObj (.ref f) (.ref y))
    exact k a _ (.inl rfl) e
  | ext φ => obtain ⟨p, ⟨o, e⟩, st⟩ := x; exact ⟨st _ _ p fun o q => k _ _ (.inl rfl) q, ⟨o, k _ _ (.inl rfl) e⟩, st⟩
theorem HOk.lt (x : HOk P w H h) (e : H a = some o) : a < h.objs.size := (x a o e).lt
theorem HOk.fresh (x : HOk P w H h) (e : h.objs.size ≤ a) : H a = none := by
  cases q : H a with
  | none => rfl
  | some u => exact absurd (Nat.lt_of_lt_of_le (x.lt q) e) (Nat.lt_irrefl _)
theorem HOk.kept (x : HOk P w H h) (k : ∀ b u, h.get? b = some u → h'.get? b = some u) : HOk P w H h' := fun a o e =>
  (x a o e).stay (fun b u _ q => k b u q) (fun _ q => q) fun _ _ q => q
theorem HOk.laid (x : HOk P w H h) (k : ∀ b u, h.get? b = some u → h'.get? b = some u) (hp : h.objs.size ≤ a) (new : ObjOk P w (upd H a o) h' a o) : HOk P w (upd H a o) h' := fun b u e => by
  have hn := x.fresh hp
  by_cases hb : b = a
  · subst hb; rw [upd_same] at e; cases e; exact new
  · rw [upd_ne hb] at e
    exact (x b u e).stay (fun c v _ q => k c v q) (fun c q => by rw [upd_ne (ne_of_none q hn)]; exact q) fun c xs q => by rw [upd_ne (ne_of_none q hn)]; exact q
end
def Rd (H : Hp) (a : Addr) (u : HO) : Prop := H a = some u ∨ ∃ o, H a = some (.frz o u)
theorem Rd.ok {P : Program} {w : World} {H : Hp} {h : Heap} {a : Addr} {u : HO} (r : Rd H a u) (x : HOk P w H h) : ObjOk P w H h a u := by
  rcases r with r | ⟨o, r⟩
  · exact x a u r
  · obtain ⟨_, q⟩ := x a _ r
    exact q
def Mut : Option HO → Prop
  | some (.lst _) => True
  | some (.dK _) => True
  | some (.dT _) => True
  | some (.set _ _) => True
  | some (.ins _ _ _) => True
  | some (.ext _) => True
  | _ => False
section
variable {P : Program} {w : World} {H : Hp} {h h' : Heap} {x e : Addr} {o' : HO}
theorem HOk.write (ok : HOk P w H h) (mu : Mut (H x)) (he : e = x ∨ H e = some (.own x)) (k : ∀ b u, b ≠ e → h.get? b = some u → h'.get? b = some u) (heo : ∃ u, h'.get? e = some u)
    (new : ObjOk P w (upd H x o') h' x o') : HOk P w (upd H x o') h' := fun b u q => by
  have nown : ∀ c y, H c = some (.own y) → c ≠ x := fun c y r z => by subst z; rw [r] at mu; exact mu
  have ntup : ∀ c xs, H c = some (.tup xs) → c ≠ x := fun c xs r z => by subst z; rw [r] at mu; exact mu
  by_cases hb : b = x
  · subst hb; rw [upd_same] at q; cases q; exact new
  · rw [upd_ne hb] at q
    by_cases hbe : b = e
    · have q' : H b = some (.own x) := by
        rcases he with z | z
        · exact absurd (hbe.trans z) hb
        · rw [hbe]; exact z
      rw [q] at q'; cases q'
      obtain ⟨v, hv⟩ := heo
      exact ⟨v, by rw [hbe]; exact hv⟩
    · refine (ok b u q).stay (fun c v hc r => k c v ?_ r) (fun c r => by rw [upd_ne (nown c b r)]; exact r) fun c xs r => by rw [upd_ne (ntup c xs r)]; exact r
      rcases hc with rfl | hc
      · exact hbe
      · rintro rfl
        rcases he with z | z
        · exact nown c b hc z
        · rw [hc] at z; cases z; exact hb rfl
end
structure Un (fs ex : List Addr) (H H' : Hp) (h h' : Heap) : Prop where
  keep : ∀ b o, h.get? b = some o → H b = none → b ∉ fs → b ∉ ex → h'.get? b = some o
  slot : ∀ b o, h.get? b = some o → H b = none → b ∈ fs → b ∉ ex → ∃ sl, h'.get? b = some { o with slots := sl }
  free : ∀ b o, h.get? b = some o → H b = none → b ∉ ex → H' b = none
  there : ∀ b o, h.get? b = some o → b ∉ ex → ∃ o', h'.get? b = some o'
  tups : ∀ b xs, H b = some (.tup xs) → H' b = some (.tup xs)
  frzs : ∀ b o u, H b = some (.frz o u) → H' b = some (.frz o u)
  tbls : ∀ b ps, H b = some (.tbl ps) → ∃ more, H' b = some (.tbl (ps ++ more))
section
variable {fs fs' ex ex' : List Addr} {H H1 H2 : Hp} {h h1 h2 h' : Heap} {a x e : Addr} {o : HO}
theorem Un.any (u : Un fs ex H H1 h h1) {b : Addr} {ob : Obj} (q : h.get? b = some ob) (n : H b = none) (hx : b ∉ ex) : ∃ sl, h1.get? b = some { ob with slots := sl } := by
  by_cases hb : b ∈ fs
  · exact u.slot b ob q n hb hx
  · exact ⟨ob.slots, u.keep b ob q n hb hx⟩
theorem Un.kept (k : ∀ b u, h.get? b = some u → h'.get? b = some u) : Un fs ex H H h h' :=
  ⟨fun b ob q _ _ _ => k b ob q, fun b ob q _ _ _ => ⟨ob.slots, k b ob q⟩, fun _ _ _ n _ => n, fun b ob q _ => ⟨ob, k b ob q⟩, fun _ _ q => q, fun _ _ _ q => q, fun _ ps q => ⟨#[], by rw [q]; simp⟩⟩
theorem Un.refl : Un fs ex H H h h := Un.kept fun _ _ q => q
theorem Un.laid (k : ∀ b u, h.get? b = some u → h'.get? b = some u) (hp : h.objs.size ≤ a) (hn : H a = none) : Un fs ex H (upd H a o) h h' where
  keep := fun b u q _ _ _ => k b u q
  slot := fun b u q _ _ _ => ⟨u.slots, k b u q⟩
  free := fun b u q n _ => by rw [upd_ne (Nat.ne_of_lt (Nat.lt_of_lt_of_le (Heap.lt_size q) hp))]; exact n
  there := fun b u q _ => ⟨u, k b u q⟩
  tups := fun b xs q => by rw [upd_ne (ne_of_none q hn)]; exact q
  frzs := fun b u xs q => by rw [upd_ne (ne_of_none q hn)]; exact q
  tbls := fun b ps q => ⟨#[], by rw [upd_ne (ne_of_none q hn), q]; simp⟩
theorem Un.write (mu : Mut (H x)) (he : e = x ∨ H e = some (.own x)) (k : ∀ b u, b ≠ e → h.get? b = some u → h'.get? b = some u) (heo : ∃ u, h'.get? e = some u) : Un fs ex H (upd H x o) h h' := by
  have hx : ∀ b, H b = none → b ≠ x := fun b n z => by subst z; rw [n] at mu; exact mu
  have hb : ∀ b, H b = none → b ≠ e := fun b n z => by
    subst z
    rcases he with r | r
    · exact hx b n r
    · rw [n] at r; cases r
  have hm : ∀ b u, H b = some u → ¬ Mut (some u) → b ≠ x := fun b u q nm z => by subst z; rw [q] at mu; exact nm mu
  refine ⟨fun b u q n _ _ => k b u (hb b n) q, fun b u q n _ _ => ⟨u.slots, k b u (hb b n) q⟩, fun b u q n _ => by rw [upd_ne (hx b n)]; exact n, fun b u q _ => ?_,
    fun b xs q => by rw [upd_ne (hm b _ q fun z => z)]; exact q, fun b u xs q => by rw [upd_ne (hm b _ q fun z => z)]; exact q, fun b ps q => ⟨#[], by rw [upd_ne (hm b _ q fun z => z), q]; simp⟩⟩
  by_cases hbe : b = e
  · subst hbe; exact heo
  · exact ⟨u, k b u hbe q⟩
end
def trk (h : Heap) (H : Hp) : List Addr := (List.range h.objs.size).filter fun a => (H a).isSome
def hidT (h : Heap) (H : Hp) : Heap := PySem.W.hideAll h (trk h H)
theorem hidT_size (h : Heap) (H : Hp) : (hidT h H).objs.size = h.objs.size := PySem.W.hideAll_size _ _
theorem hidT_get {h : Heap} {H : Hp} {b : Addr} {o : Obj} (e : h.get? b = some o) (n : H b = none) : (hidT h H).get? b = some o :=
  PySem.W.hideAll_get _ e fun hm => by
    have q : (H b).isSome = true := (List.mem_filter.mp hm).2
    rw [n] at q; simp at q
theorem of_hidT {h : Heap} {H : Hp} {b : Addr} {o : Obj} (e : (hidT h H).get? b = some o) : h.get? b = some o ∧ H b = none := by
  have e' : h.get? b = some o := PySem.W.of_hideAll (trk h H) e
  refine ⟨e', ?_⟩
  cases q : H b with
  | none => rfl
  | some x =>
    have hm : b ∈ trk h H := List.mem_filter.mpr ⟨List.mem_range.mpr (Heap.lt_size e'), by simp [q]⟩
    have z : (hidT h H).get? b = none := PySem.W.hideAll_none (trk h H) hm
    rw [z] at e; cases e
end L2
namespace L2
open PySem PySem.Spec PyProof.Rows
structure Mod (K : PySem.W.Frag) (mg : Str → Option Value) (base : Heap) : Prop where
  kin : K.In base
  glob : base.Ns mainGlobals mg
  blt : ∃ mb, base.Ns builtinsNs mb ∧ ∀ x : Str, x ≠ "__name__" → mb x = bootBuiltins x
  nolimit : base.NoLimit
structure Cx where
  prog : Program
  w : World
  K : PySem.W.Frag
  mg : Str → Option Value
  base : Heap
  A : Around
  N : List Str
  s₀ : Shared
  H₀ : Hp
  env : Env
  outer : List Env
  stack : List Env
  ex : List Addr
  fn : Str → Bool
  calm : Bool
  pn : List (Addr × Obj)
  xe : Value → Shared → Prop
def frs (l : List Env) : List Addr := l.filterMap (·.frame)
abbrev Cx.fs (X : Cx) : List Addr := frs X.outer
def Vis (sc : Scope) (x : Str) : Prop := sc.names.lookup x = some .local ∨ sc.names.lookup x = some .cell ∨ sc.names.lookup x = some .free
def Loc (sc : Scope) (x : Str) : Prop := sc.names.lookup x = some .local ∨ sc.names.lookup x = some .cell
def Look (env : Env) (h : Heap) (m : Str → Option Value) (x : Str) (u : Value) : Prop :=
  (env.kindOf x = some .local ∧ m x = some u) ∨ ((env.kindOf x = some .cell ∨ env.kindOf x = some .free) ∧ ∃ c, env.cells.lookup x = some c ∧ h.IsCell c (some u))
structure Cx.Ok (X : Cx) : Prop where
  mod : Mod X.K X.mg X.base
  kind : X.env.scope.kind = .function
  glob : X.env.globals = mainGlobals
  blt : X.env.builtins = builtinsNs
  above : X.s₀.heap.objs.size ≤ X.env.locals
  inj : ∀ x y c, X.env.cells.lookup x = some c → X.env.cells.lookup y = some c → x = y
  has : ∀ x, (X.env.kindOf x = some .cell ∨ X.env.kindOf x = some .free) → ∃ c, X.env.cells.lookup x = some c
  cab : ∀ x c, X.fn x = true → X.env.cells.lookup x = some c → X.s₀.heap.objs.size ≤ c
  hd : X.calm = true → X.A.handled = none
  frames : X.A.frames = some X.stack
  stk : X.stack = X.outer ∨ (X.stack = X.env :: X.outer ∧ X.env.frame = some X.env.locals)
  exf : ∀ b ∈ X.ex, b ≠ X.env.locals ∧ ∀ x c, X.env.cells.lookup x = some c → c ≠ b
  bs : ∀ b o, X.base.get? b = some o → X.s₀.heap.get? b = some o ∧ X.H₀ b = none
  bsz : X.base.objs.size ≤ X.s₀.heap.objs.size
  noex : ∀ b o, X.base.get? b = some o → b ∉ X.ex
  exfs : ∀ b ∈ X.ex, b ∉ X.fs
  funs : X.s₀.heap.FunFrames X.base X.outer
  frf : ∀ b ∈ X.fs, X.H₀ b = none
structure Inv (X : Cx) (pins : List (Addr × Obj)) (σ : List (Option V)) (H : Hp) (s : Shared) : Prop where
  ok : X.Ok
  os : s.os = X.s₀.os
  bare : AllBare s.gens
  base : Un X.fs X.ex X.H₀ H X.s₀.heap s.heap
  loc : ∃ m, s.heap.Ns X.env.locals m ∧ ∀ (i : Nat) (x : Str) (v : V), X.N[i]? = some x → σ[i]? = some (some v) → Vis X.env.scope x → ∃ u, RelV v u ∧ Look X.env s.heap m x u
  cell : ∀ x c, X.env.cells.lookup x = some c → ∃ v, s.heap.IsCell c v
  free : H X.env.locals = none
  freeC : ∀ x c, X.env.cells.lookup x = some c → H c = none
  pin : ∀ p ∈ X.pn ++ pins, s.heap.get? p.1 = some p.2 ∧ H p.1 = none ∧ p.1 ≠ X.env.locals ∧ p.1 ∉ X.fs ∧ ∀ v, p.2.data ≠ .cell v
  hok : HOk X.prog X.w H s.heap
  len : σ.length = X.N.length
section
variable {X : Cx} {pins : List (Addr × Obj)} {σ : List (Option V)} {H H' : Hp} {s : Shared} {h' : Heap}
theorem Cx.Ok.nofr (ok : X.Ok) {b : Addr} {o : Obj} (e : X.base.get? b = some o) : b ∉ X.fs := fun hb => by
  have := (ok.funs.mem hb).1
  rw [e] at this; cases this
theorem Inv.bs (I : Inv X pins σ H s) : ∀ b o, X.base.get? b = some o → s.heap.get? b = some o ∧ H b = none := fun b o e =>
  ⟨I.base.keep b o (I.ok.bs b o e).1 (I.ok.bs b o e).2 (I.ok.nofr e) (I.ok.noex b o e), I.base.free b o (I.ok.bs b o e).1 (I.ok.bs b o e).2 (I.ok.noex b o e)⟩
theorem Inv.bk (I : Inv X pins σ H s) : ∀ b o, X.base.get? b = some o → s.heap.get? b = some o := fun b o e => (I.bs b o e).1
theorem Inv.mod (I : Inv X pins σ H s) : Mod X.K X.mg X.base := I.ok.mod
theorem Inv.kIn (I : Inv X pins σ H s) : X.K.In s.heap := I.ok.mod.kin.keeps I.bk
theorem Inv.lt (I : Inv X pins σ H s) : X.env.locals < s.heap.objs.size := let ⟨_, hn, _⟩ := I.loc; hn.lt
theorem Inv.sz (I : Inv X pins σ H s) : X.s₀.heap.objs.size ≤ s.heap.objs.size := Nat.le_trans I.ok.above (Nat.le_of_lt I.lt)
theorem Inv.nofs (I : Inv X pins σ H s) {a : Addr} (h : s.heap.objs.size ≤ a) : a ∉ X.fs := fun hb => by
  obtain ⟨_, o, ho, _⟩ := I.ok.funs.mem hb
  exact absurd (Nat.lt_of_lt_of_le (Heap.lt_size ho) (Nat.le_trans I.sz h)) (Nat.lt_irrefl _)
theorem Inv.cne (I : Inv X pins σ H s) : ∀ x c, X.env.cells.lookup x = some c → c ≠ X.env.locals := fun x c e z => by
  obtain ⟨v, o, ho, hd⟩ := I.cell x c e
  obtain ⟨m, ⟨o', es, ep, ho', hd', _⟩, _⟩ := I.loc
  rw [z, ho'] at ho; cases ho; rw [hd'] at hd; cases hd
theorem Inv.funs (I : Inv X pins σ H s) : s.heap.FunFrames X.base X.outer := by
  have all : ∀ (l : List Env), (∀ b ∈ frs l, b ∈ X.fs) → X.s₀.heap.FunFrames X.base l → s.heap.FunFrames X.base l := by
    intro l
    induction l with
    | nil => intro _ _; trivial
    | cons env r ih =>
      intro hs hl
      obtain ⟨hk, ⟨L, o, hf, hn, ho, hd⟩, hr⟩ := hl
      have hL : L ∈ X.fs := hs L (by unfold frs; rw [List.filterMap_cons, hf]; exact List.mem_cons_self)
      obtain ⟨sl, e⟩ := I.base.slot L o ho (I.ok.frf L hL) hL fun z => I.ok.exfs L z hL
      exact ⟨hk, ⟨L, _, hf, hn, e, hd⟩, ih (fun b hb => hs b (by unfold frs; rw [List.filterMap_cons, hf]; exact List.mem_cons_of_mem _ hb)) hr⟩
  exact all X.outer (fun _ hb => hb) I.ok.funs
theorem Inv.stack (I : Inv X pins σ H s) : s.heap.FunFrames X.base X.stack := by
  rcases I.ok.stk with e | ⟨e, hf⟩
  · rw [e]; exact I.funs
  · rw [e]
    obtain ⟨m, hn, _⟩ := I.loc
    refine .cons (by rw [I.ok.kind]; decide) hf hn ?_ I.funs
    exact Heap.get?_none_of_le (Nat.le_trans I.ok.bsz I.ok.above)
theorem Inv.stkSub (I : Inv X pins σ H s) : ∀ b ∈ frs X.stack, b ∈ X.env.locals :: X.fs := fun b hb => by
  rcases I.ok.stk with e | ⟨e, hf⟩
  · rw [e] at hb; exact List.mem_cons_of_mem _ hb
  · rw [e] at hb
    unfold frs at hb
    rw [List.filterMap_cons, hf] at hb
    exact hb
theorem Inv.stkFree (I : Inv X pins σ H s) : ∀ b ∈ frs X.stack, H b = none := fun b hb => by
  rcases List.mem_cons.mp (I.stkSub b hb) with e | hb
  · rw [e]; exact I.free
  · obtain ⟨_, o, ho, _⟩ := I.ok.funs.mem hb
    exact I.base.free b o ho (I.ok.frf b hb) fun z => I.ok.exfs b z hb
theorem Inv.step {g' : Array GenState} {t' : Nat} {d' : Drawn} {ch : List Addr} (I : Inv X pins σ H s)
    (hch : ∀ b ∈ ch, (b ∈ X.ex ∨ X.s₀.heap.objs.size ≤ b) ∧ b ≠ X.env.locals ∧ (∀ x c, X.env.cells.lookup x = some c → c ≠ b) ∧ ∀ p ∈ X.pn ++ pins, p.1 ≠ b)
    (keep : ∀ b o, b ≠ X.env.locals → b ∉ X.fs → b ∉ ch → s.heap.get? b = some o → H b = none → h'.get? b = some o)
    (slot : ∀ b o, b ≠ X.env.locals → b ∈ X.fs → b ∉ ch → s.heap.get? b = some o → H b = none → ∃ sl, h'.get? b = some { o with slots := sl }) (free : ∀ b o, b ∉ ch → s.heap.get? b = some o → H b = none → H' b = none)
    (there : ∀ b o, b ∉ ch → s.heap.get? b = some o → ∃ o', h'.get? b = some o')
    (tups : ∀ b xs, H b = some (.tup xs) → H' b = some (.tup xs)) (frzs : ∀ b o u, H b = some (.frz o u) → H' b = some (.frz o u)) (tbls : ∀ b ps, H b = some (.tbl ps) → ∃ more, H' b = some (.tbl (ps ++ more)))
    (ns : ∀ m, s.heap.Ns X.env.locals m → h'.Ns X.env.locals m) (hok : HOk X.prog X.w H' h') (hg : AllBare g') :
    Inv X pins σ H' { s with heap := h', gens := g', drawn := d', toks := t' } := by
  have neL : ∀ b o, X.s₀.heap.get? b = some o → b ≠ X.env.locals := fun b o e => Nat.ne_of_lt (Nat.lt_of_lt_of_le (Heap.lt_size e) I.ok.above)
  have neC : ∀ b o, X.s₀.heap.get? b = some o → b ∉ X.ex → b ∉ ch := fun b o e hx hb => by
    rcases (hch b hb).1 with z | z
    · exact hx z
    · exact absurd (Nat.lt_of_lt_of_le (Heap.lt_size e) z) (Nat.lt_irrefl _)
  have cellK : ∀ x c, X.env.cells.lookup x = some c → ∀ v, s.heap.IsCell c v → h'.IsCell c v := fun x c e v ⟨o, ho, hd⟩ => by
    have nch : c ∉ ch := fun z => (hch c z).2.2.1 x c e rfl
    by_cases hc : c ∈ X.fs
    · obtain ⟨sl, q⟩ := slot c o (I.cne x c e) hc nch ho (I.freeC x c e)
      exact ⟨_, q, hd⟩
    · exact ⟨o, keep c o (I.cne x c e) hc nch ho (I.freeC x c e), hd⟩
  refine ⟨I.ok, I.os, hg, ⟨fun b o e n hb hx => ?_, fun b o e n hb hx => ?_, fun b o e n hx => ?_, fun b o e hx => ?_, fun b xs e => tups b xs (I.base.tups b xs e), fun b o xs e => frzs b o xs (I.base.frzs b o xs e), fun b ps e => ?_⟩, ?_, fun x c e => ?_, ?_, fun x c e => ?_, fun p hp => ?_, hok, I.len⟩
  · exact keep b o (neL b o e) hb (neC b o e hx) (I.base.keep b o e n hb hx) (I.base.free b o e n hx)
  · obtain ⟨sl, e1⟩ := I.base.slot b o e n hb hx
    obtain ⟨sl', e2⟩ := slot b _ (neL b o e) hb (neC b o e hx) e1 (I.base.free b o e n hx)
    exact ⟨sl', e2⟩
  · obtain ⟨o', e1⟩ := I.base.there b o e hx
    exact free b o' (neC b o e hx) e1 (I.base.free b o e n hx)
  · obtain ⟨o', e1⟩ := I.base.there b o e hx
    exact there b o' (neC b o e hx) e1
  · obtain ⟨m1, e1⟩ := I.base.tbls b ps e
    obtain ⟨m2, e2⟩ := tbls b _ e1
    exact ⟨m1 ++ m2, by rw [e2, Array.append_assoc]⟩
  · obtain ⟨m, hn, hl⟩ := I.loc
    refine ⟨m, ns m hn, fun i x v e1 e2 e3 => ?_⟩
    obtain ⟨u, r, l⟩ := hl i x v e1 e2 e3
    refine ⟨u, r, ?_⟩
    rcases l with l | ⟨k, c, e, z⟩
    · exact .inl l
    · exact .inr ⟨k, c, e, cellK x c e _ z⟩
  · obtain ⟨v, z⟩ := I.cell x c e
    exact ⟨v, cellK x c e v z⟩
  · obtain ⟨m, ⟨o, _, _, ho, _⟩, _⟩ := I.loc
    exact free _ o (fun z => (hch _ z).2.1 rfl) ho I.free
  · obtain ⟨v, o, ho, hd⟩ := I.cell x c e
    exact free c o (fun z => (hch c z).2.2.1 x c e rfl) ho (I.freeC x c e)
  · obtain ⟨e, n, ne, nf, d⟩ := I.pin p hp
    have nch : p.1 ∉ ch := fun z => (hch p.1 z).2.2.2 p hp rfl
    exact ⟨keep p.1 p.2 ne nf nch e n, free p.1 p.2 nch e n, ne, nf, d⟩
theorem Inv.un {t' : Nat} (I : Inv X pins σ H s) (u : Un X.fs [] H H' s.heap h') (hok : HOk X.prog X.w H' h') : Inv X pins σ H' { s with heap := h', toks := t' } := by
  obtain ⟨m, ⟨o, es, ep, ho, r⟩, _⟩ := id I.loc
  obtain ⟨sl, hL⟩ := u.any ho I.free (by simp)
  exact I.step (g' := s.gens) (d' := s.drawn) (ch := []) (fun _ z => nomatch z) (fun b o _ hb _ e n => u.keep b o e n hb (by simp)) (fun b o _ hb _ e n => u.slot b o e n hb (by simp)) (fun b o _ e n => u.free b o e n (by simp)) (fun b o _ e => u.there b o e (by simp)) u.tups u.frzs u.tbls (fun m' hm => by
    obtain ⟨o', es', ep', ho', r'⟩ := hm
    rw [ho] at ho'; cases ho'
    exact ⟨_, es', ep', hL, r'⟩) hok I.bare
theorem Inv.call {g' : Array GenState} {t' : Nat} {d' : Drawn} {ch : List Addr} (I : Inv X pins σ H s) (u : Un (frs X.stack) ch H H' s.heap h') (hok : HOk X.prog X.w H' h') (hg : AllBare g')
    (hch : ∀ b ∈ ch, (b ∈ X.ex ∨ X.s₀.heap.objs.size ≤ b) ∧ b ≠ X.env.locals ∧ (∀ x c, X.env.cells.lookup x = some c → c ≠ b) ∧ ∀ p ∈ X.pn ++ pins, p.1 ≠ b) :
    Inv X pins σ H' { s with heap := h', gens := g', drawn := d', toks := t' } := by
  obtain ⟨m, ⟨o, es, ep, ho, r⟩, _⟩ := id I.loc
  obtain ⟨sl, hL⟩ := u.any ho I.free fun z => (hch _ z).2.1 rfl
  exact I.step (ch := ch) hch (fun b o hL hb hc e n => u.keep b o e n (fun z => (List.mem_cons.mp (I.stkSub b z)).elim hL hb) hc) (fun b o _ _ hc e n => u.any e n hc) (fun b o hc e n => u.free b o e n hc) (fun b o hc e => u.there b o e hc) u.tups u.frzs u.tbls (fun m' hm => by
    obtain ⟨o', es', ep', ho', r'⟩ := hm
    rw [ho] at ho'; cases ho'
    exact ⟨_, es', ep', hL, r'⟩) hok hg
theorem Inv.turned {t' : Nat} {it : Addr} (I : Inv X pins σ H s) (k : ∀ b o, b ≠ it → s.heap.get? b = some o → h'.get? b = some o) (hn : H it = none) (hL : it ≠ X.env.locals)
    (h1 : it ∈ X.ex ∨ X.s₀.heap.objs.size ≤ it) (h2 : ∀ x c, X.env.cells.lookup x = some c → c ≠ it) (h3 : ∀ p ∈ X.pn ++ pins, p.1 ≠ it) : Inv X pins σ H { s with heap := h', toks := t' } := by
  have nit : ∀ b u, H b = some u → b ≠ it := fun b u e z => by rw [z, hn] at e; cases e
  refine I.step (g' := s.gens) (d' := s.drawn) (ch := [it]) (fun b hb => ?_) (fun b o _ _ hc e _ => k b o (fun z => hc (by simp [z])) e) (fun b o _ _ hc e _ => ⟨o.slots, k b o (fun z => hc (by simp [z])) e⟩) (fun _ _ _ _ n => n)
    (fun b o hc e => ⟨o, k b o (fun z => hc (by simp [z])) e⟩) (fun _ _ e => e) (fun _ _ _ e => e) (fun b ps e => ⟨#[], by rw [e]; simp⟩) (fun m hm => ?_) (fun b u e => ?_) I.bare
  · have e : b = it := by simpa using hb
    subst e
    exact ⟨h1, hL, h2, h3⟩
  · obtain ⟨o, es, ep, ho, r⟩ := hm
    exact ⟨o, es, ep, k _ o (Ne.symm hL) ho, r⟩
  · refine (I.hok b u e).stay (fun c v hc q => k c v ?_ q) (fun _ q => q) fun _ _ q => q
    rcases hc with z | z
    · rw [z]; exact nit b u e
    · exact nit c _ z
theorem Inv.tok (I : Inv X pins σ H s) (t : Nat) : Inv X pins σ H { s with toks := t } := I.un (h' := s.heap) (t' := t) Un.refl I.hok
theorem Inv.kept {t' : Nat} (I : Inv X pins σ H s) (k : ∀ b u, s.heap.get? b = some u → h'.get? b = some u) : Inv X pins σ H { s with heap := h', toks := t' } := I.un (Un.kept k) (I.hok.kept k)
theorem Inv.laid {a : Addr} {o : HO} {t' : Nat} (I : Inv X pins σ H s) (k : ∀ b u, s.heap.get? b = some u → h'.get? b = some u) (hp : s.heap.objs.size ≤ a) (new : ObjOk X.prog X.w (upd H a o) h' a o) :
    Inv X pins σ (upd H a o) { s with heap := h', toks := t' } := I.un (Un.laid k hp (I.hok.fresh hp)) (I.hok.laid k hp new)
theorem Inv.write {x e : Addr} {o : HO} {t' : Nat} (I : Inv X pins σ H s) (mu : Mut (H x)) (he : e = x ∨ H e = some (.own x)) (k : ∀ b u, b ≠ e → s.heap.get? b = some u → h'.get? b = some u) (heo : ∃ u, h'.get? e = some u)
    (new : ObjOk X.prog X.w (upd H x o) h' x o) : Inv X pins σ (upd H x o) { s with heap := h', toks := t' } := I.un (Un.write mu he k heo) (I.hok.write mu he k heo new)
theorem Inv.pins_of {pins' : List (Addr × Obj)} (I : Inv X pins σ H s) (h : ∀ p ∈ pins', s.heap.get? p.1 = some p.2 ∧ H p.1 = none ∧ p.1 ≠ X.env.locals ∧ p.1 ∉ X.fs ∧ ∀ v, p.2.data ≠ .cell v) : Inv X pins' σ H s :=
  ⟨I.ok, I.os, I.bare, I.base, I.loc, I.cell, I.free, I.freeC, fun p hp => (List.mem_append.mp hp).elim (fun z => I.pin p (List.mem_append_left _ z)) (h p), I.hok, I.len⟩
theorem nodup_ix {N : List Str} (hN : N.Nodup) {i j : Nat} {x : Str} (a : N[i]? = some x) (b : N[j]? = some x) : i = j := by
  obtain ⟨h1, e1⟩ := List.getElem?_eq_some_iff.mp a
  obtain ⟨h2, e2⟩ := List.getElem?_eq_some_iff.mp b
  exact (List.getElem_inj hN).mp (e1.trans e2.symm)
theorem store_ok2 {M : Model} {A : Around} {E : Value → Shared → Prop} {i : Nat} {x : Str} {v : V} {u : Value} {Q : Unit → Shared → Prop} (I : Inv X pins σ H s) (hN : X.N.Nodup) (hi : X.N[i]? = some x) (hx : Loc X.env.scope x) (r : RelV v u)
    (h : ∀ s', Inv X pins (σ.set i (some v)) H s' → (∃ a, Heap.SameBut a s.heap s'.heap ∧ (a = X.env.locals ∨ X.env.cells.lookup x = some a)) → Q () s') (hf : X.fn x = true ∨ X.env.scope.names.lookup x = some .local := by first | exact .inl rfl | exact .inr rfl | assumption) : wpAny M A (storeName X.env x u) Q E s := by
  obtain ⟨m, hn, hl⟩ := id I.loc
  have hcls : (X.env.scope.kind == .class || (X.env.scope.kind == .module && X.env.locals != X.env.globals)) = false := by rw [I.ok.kind]; rfl
  have hiσ : i < σ.length := by rw [I.len]; exact (List.getElem?_eq_some_iff.mp hi).1
  have cne := I.cne
  have tracked : ∀ {a : Addr} {h' : Heap}, (∃ o, s.heap.get? a = some o ∧ H a = none) → Heap.SameBut a s.heap h' → HOk X.prog X.w H h' := fun {a h'} ha hs b ob e => by
    obtain ⟨_, _, hfree⟩ := ha
    refine (I.hok b ob e).stay (fun c w' hc q => (hs.2 c ?_).trans q) (fun _ q => q) fun _ _ q => q
    rintro rfl
    rcases hc with rfl | hc
    · rw [hfree] at e; cases e
    · rw [hfree] at hc; cases hc
  rcases hx with hk | hk
  · refine wpAny_storeName_local hk hn (fun h' hn' hs => ?_) hcls
    obtain ⟨oL, _, _, hoL, _⟩ := id hn
    refine h _ ⟨I.ok, I.os, I.bare, ⟨fun b o e n hb hx => ?_, fun b o e n hb hx => ?_, I.base.free, fun b o e hx => ?_, I.base.tups, I.base.frzs, I.base.tbls⟩, ⟨_, hn', fun j y v' e1 e2 e3 => ?_⟩, fun y c e => ?_, I.free, I.freeC, fun p hp => ?_, tracked ⟨oL, hoL, I.free⟩ hs, by simpa using I.len⟩ ⟨_, hs, .inl rfl⟩
    · exact (hs.2 b (Nat.ne_of_lt (Nat.lt_of_lt_of_le (Heap.lt_size e) I.ok.above))).trans (I.base.keep b o e n hb hx)
    · obtain ⟨sl, e1⟩ := I.base.slot b o e n hb hx
      exact ⟨sl, (hs.2 b (Nat.ne_of_lt (Nat.lt_of_lt_of_le (Heap.lt_size e) I.ok.above))).trans e1⟩
    · obtain ⟨o', e1⟩ := I.base.there b o e hx
      exact ⟨o', (hs.2 b (Nat.ne_of_lt (Nat.lt_of_lt_of_le (Heap.lt_size e) I.ok.above))).trans e1⟩
    · by_cases hj : j = i
      · subst hj
        rw [hi] at e1; cases e1
        rw [List.getElem?_set_self hiσ] at e2
        cases e2
        exact ⟨u, r, .inl ⟨hk, by simp⟩⟩
      · rw [List.getElem?_set_ne (Ne.symm hj)] at e2
        obtain ⟨u', r', q⟩ := hl j y v' e1 e2 e3
        refine ⟨u', r', ?_⟩
        rcases q with ⟨k, e⟩ | ⟨k, c, e, z⟩
        · refine .inl ⟨k, ?_⟩
          have : y ≠ x := fun e => hj (nodup_ix hN e1 (e ▸ hi))
          simp [this, e]
        · exact .inr ⟨k, c, e, z.sameBut hs (cne y c e)⟩
    · obtain ⟨w', z⟩ := I.cell y c e
      exact ⟨w', z.sameBut hs (cne y c e)⟩
    · obtain ⟨e, n, ne, nf, d⟩ := I.pin p hp
      exact ⟨(hs.2 p.1 ne).trans e, n, ne, nf, d⟩
  · have hfn : X.fn x = true := by
      rcases hf with z | z
      · exact z
      · rw [z] at hk; cases hk
    obtain ⟨c, hc⟩ := I.ok.has x (.inl hk)
    obtain ⟨w', z⟩ := I.cell x c hc
    refine wpAny_storeName_cell I.ok.kind hk hc z (fun h' hc' hs => ?_)
    obtain ⟨oc, hoc, hocd⟩ := id z
    refine h { s with heap := h' } ⟨I.ok, I.os, I.bare, ⟨fun b o e n hb hx => ?_, fun b o e n hb hx => ?_, I.base.free, fun b o e hx => ?_, I.base.tups, I.base.frzs, I.base.tbls⟩, ⟨m, hn.sameBut hs (Ne.symm (cne x c hc)), fun j y v' e1 e2 e3 => ?_⟩, fun y c' e => ?_, I.free, I.freeC, fun p hp => ?_, tracked ⟨oc, hoc, I.freeC x c hc⟩ hs, by simpa using I.len⟩ ⟨c, hs, .inr hc⟩
    · exact (hs.2 b (Nat.ne_of_lt (Nat.lt_of_lt_of_le (Heap.lt_size e) (I.ok.cab x c hfn hc)))).trans (I.base.keep b o e n hb hx)
    · obtain ⟨sl, e1⟩ := I.base.slot b o e n hb hx
      exact ⟨sl, (hs.2 b (Nat.ne_of_lt (Nat.lt_of_lt_of_le (Heap.lt_size e) (I.ok.cab x c hfn hc)))).trans e1⟩
    · obtain ⟨o', e1⟩ := I.base.there b o e hx
      exact ⟨o', (hs.2 b (Nat.ne_of_lt (Nat.lt_of_lt_of_le (Heap.lt_size e) (I.ok.cab x c hfn hc)))).trans e1⟩
    · by_cases hj : j = i
      · subst hj
        rw [hi] at e1; cases e1
        rw [List.getElem?_set_self hiσ] at e2
        cases e2
        exact ⟨u, r, .inr ⟨.inl hk, c, hc, hc'⟩⟩
      · rw [List.getElem?_set_ne (Ne.symm hj)] at e2
        obtain ⟨u', r', q⟩ := hl j y v' e1 e2 e3
        refine ⟨u', r', ?_⟩
        rcases q with q | ⟨k, c', e, z'⟩
        · exact .inl q
        · refine .inr ⟨k, c', e, z'.sameBut hs ?_⟩
          rintro rfl
          exact hj (nodup_ix hN e1 (I.ok.inj _ _ _ e hc ▸ hi))
    · by_cases hcc : c' = c
      · subst hcc; exact ⟨_, hc'⟩
      · obtain ⟨w2, z2⟩ := I.cell y c' e
        exact ⟨w2, z2.sameBut hs hcc⟩
    · obtain ⟨e, n, ne, nf, d⟩ := I.pin p hp
      refine ⟨(hs.2 p.1 ?_).trans e, n, ne, nf, d⟩
      intro q
      rw [q, hoc] at e
      have q' : oc = p.2 := Option.some.inj e
      exact d w' (by rw [← q']; exact hocd)
theorem store_ok {M : Model} {A : Around} {E : Value → Shared → Prop} {i : Nat} {x : Str} {v : V} {u : Value} {Q : Unit → Shared → Prop} (I : Inv X pins σ H s) (hN : X.N.Nodup) (hi : X.N[i]? = some x) (hx : Loc X.env.scope x) (r : RelV v u)
    (h : ∀ s', Inv X pins (σ.set i (some v)) H s' → Q () s') (hf : X.fn x = true ∨ X.env.scope.names.lookup x = some .local := by first | exact .inl rfl | exact .inr rfl | assumption) : wpAny M A (storeName X.env x u) Q E s :=
  store_ok2 I hN hi hx r (fun s' I' _ => h s' I') hf
theorem Inv.call' {s' : Shared} {ch : List Addr} (I : Inv X pins σ H s) (ho : s'.os = s.os) (u : Un (frs X.stack) ch H H' s.heap s'.heap) (hok : HOk X.prog X.w H' s'.heap) (hg : AllBare s'.gens)
    (hch : ∀ b ∈ ch, (b ∈ X.ex ∨ X.s₀.heap.objs.size ≤ b) ∧ b ≠ X.env.locals ∧ (∀ x c, X.env.cells.lookup x = some c → c ≠ b) ∧ ∀ p ∈ X.pn ++ pins, p.1 ≠ b) : Inv X pins σ H' s' := by
  obtain ⟨h', g', d', t', o'⟩ := s'
  have e : o' = s.os := ho
  subst e
  exact I.call (g' := g') (t' := t') (d' := d') u hok hg hch
end
abbrev XK := Value → Option Addr → Hp → Prop
abbrev St := List (Option V)
abbrev VK := V → Hp → Prop
abbrev TE := St → Hp → VK → Prop
abbrev TT := St → Hp → (Bool → Hp → Prop) → Prop
abbrev TA := St → Hp → (List V → Hp → Prop) → Prop
structure Ends where
  nx : St → Hp → Prop
  rt : VK
  bk : St → Hp → Prop := fun _ _ => False
  ct : St → Hp → Prop := fun _ _ => False
abbrev TS := Ends → St → Hp → Prop
def EP (X : Cx) (pins : List (Addr × Obj)) (σ : St) (Q : VK) (u : Value) (s' : Shared) : Prop := ∃ v H', Inv X pins σ H' s' ∧ RelV v u ∧ Q v H'
def TP (X : Cx) (pins : List (Addr × Obj)) (σ : St) (Q : Bool → Hp → Prop) (b : Bool) (s' : Shared) : Prop := ∃ H', Inv X pins σ H' s' ∧ Q b H'
def AP (X : Cx) (pins : List (Addr × Obj)) (σ : St) (Q : List V → Hp → Prop) (us : List Value) (s' : Shared) : Prop := ∃ vs H', Inv X pins σ H' s' ∧ Vals vs us ∧ Q vs H'
def SP (X : Cx) (pins : List (Addr × Obj)) (D : Ends) (f : Flow) (s' : Shared) : Prop :=
  match f with
  | .next => ∃ σ' H', Inv X pins σ' H' s' ∧ D.nx σ' H'
  | .brk => ∃ σ' H', Inv X pins σ' H' s' ∧ D.bk σ' H'
  | .cont => ∃ σ' H', Inv X pins σ' H' s' ∧ D.ct σ' H'
  | .ret u => ∃ v σ' H', Inv X pins σ' H' s' ∧ RelV v u ∧ D.rt v H'
def PE (X : Cx) (e : Expr) (t : TE) : Prop :=
  ∀ (pins : List (Addr × Obj)) (s : Shared) (σ : St) (H : Hp) (Q : VK), Inv X pins σ H s → t σ H Q → wpAny (model X.prog X.w) X.A (eval e X.env) (EP X pins σ Q) X.xe s
def PT (X : Cx) (e : Expr) (t : TT) : Prop :=
  ∀ (pins : List (Addr × Obj)) (s : Shared) (σ : St) (H : Hp) (Q : Bool → Hp → Prop), Inv X pins σ H s → t σ H Q → wpAny (model X.prog X.w) X.A (isTrue e X.env (eval e X.env)) (TP X pins σ Q) X.xe s
def PW (X : Cx) (e : Expr) (t : TT) : Prop :=
  ∀ (whole : Sem Value) (pins : List (Addr × Obj)) (s : Shared) (σ : St) (H : Hp) (Q : Bool → Hp → Prop), Inv X pins σ H s → t σ H Q → wpAny (model X.prog X.w) X.A (isTrue e X.env whole) (TP X pins σ Q) X.xe s
theorem PW.pt {X : Cx} {e : Expr} {t : TT} (h : PW X e t) : PT X e t := h _
def PA (X : Cx) (es : List Expr) (t : TA) : Prop :=
  ∀ (pos : Pos) (pins : List (Addr × Obj)) (s : Shared) (σ : St) (H : Hp) (Q : List V → Hp → Prop), Inv X pins σ H s → t σ H Q → wpAny (model X.prog X.w) X.A (spliced (backTo pos (starEach es X.env))) (AP X pins σ Q) X.xe s
def PS (X : Cx) (st : Stmt) (t : TS) : Prop :=
  ∀ (pins : List (Addr × Obj)) (s : Shared) (σ : St) (H : Hp) (D : Ends), Inv X pins σ H s → t D σ H → wpAny (model X.prog X.w) X.A (exec st X.env) (SP X pins D) X.xe s
def PSs (X : Cx) (st : List Stmt) (t : TS) : Prop :=
  ∀ (pins : List (Addr × Obj)) (s : Shared) (σ : St) (H : Hp) (D : Ends), Inv X pins σ H s → t D σ H → wpAny (model X.prog X.w) X.A (execs st X.env) (SP X pins D) X.xe s
theorem thn {α : Type} {t : Sem α} {Q Q' : α → Shared → Prop} {M : Model} {A : Around} {E : Value → Shared → Prop} {s : Shared} (h : wpAny M A t Q E s) (hQ : ∀ a s, Q a s → Q' a s) : wpAny M A t Q' E s := wpAny_mono h hQ fun _ _ x => x
end L2
namespace L2
open PySem PySem.Spec PyProof.Rows
section
variable {X : Cx}
theorem bin {a b : Expr} {ta tb : TE} (ha : PE X a ta) (hb : PE X b tb) {pins : List (Addr × Obj)} {s : Shared} {σ : St} {H : Hp} {R : V → V → Hp → Prop} (I : Inv X pins σ H s) (h : ta σ H fun x H1 => tb σ H1 fun y H2 => R x y H2)
    {α : Type} {Q : α → Shared → Prop} {f : Value → Value → Sem α}
    (hf : ∀ v u s2 x y H2, Inv X pins σ H2 s2 → RelV x v → RelV y u → R x y H2 → wpAny (model X.prog X.w) X.A (f v u) Q X.xe s2) :
    wpAny (model X.prog X.w) X.A (eval a X.env) (fun v s₁ => wpAny (model X.prog X.w) X.A (eval b X.env) (fun u s₂ => wpAny (model X.prog X.w) X.A (f v u) Q X.xe s₂) X.xe s₁) X.xe s := by
  refine thn (ha pins s σ H _ I h) fun v s1 ⟨x, H1, I1, r1, q1⟩ => ?_
  refine thn (hb pins s1 σ H1 _ I1 q1) fun u s2 ⟨y, H2, I2, r2, q2⟩ => ?_
  exact hf v u s2 x y H2 I2 r1 r2 q2
def tVar (i : Nat) : TE := fun σ H Q => ∃ v, σ[i]? = some (some v) ∧ Q v H
def tC (v : V) : TE := fun _ H Q => Q v H
theorem pe_var {i : Nat} {x : Str} {pos : Pos} (hN : X.N[i]? = some x) (hv : Vis X.env.scope x) (hd : (x == ("__debug__" : Str)) = false := by decide) (hcd : (x == ("__classdict__" : Str)) = false := by decide) : PE X (.Name x pos) (tVar i) := by
  intro pins s σ H Q I h
  obtain ⟨v, e, h⟩ := h
  obtain ⟨m, hn, hl⟩ := I.loc
  obtain ⟨u, r, l⟩ := hl i x v hN e hv
  have fin : EP X pins σ Q u s := ⟨v, H, I, r, h⟩
  rcases l with ⟨hk, hm⟩ | ⟨hk, c, hc, hcell⟩
  · exact wpAny_Name (wpAny_loadName_local I.ok.kind hk hn hm fin) hd
  · rcases hk with hk | hk
    · exact wpAny_Name (wpAny_loadName_cell I.ok.kind hk hc hcell fin) hd
    · exact wpAny_Name (wpAny_loadName_free I.ok.kind hk hc hcell fin hcd) hd
theorem pe_int {i j pos} : PE X (.Constant (.int i) j pos) (tC (.int i)) := fun _ _ _ H _ I h => wpAny_Constant_int ⟨.int i, H, I.tok _, ⟨_, rfl⟩, h⟩
theorem pe_bl {b j pos} : PE X (.Constant (.bool b) j pos) (tC (.bl b)) := fun _ _ _ H _ I h => Constant_bool ⟨.bl b, H, I, rfl, h⟩
theorem pe_non {j pos} : PE X (.Constant .none j pos) (tC .non) := fun _ _ _ H _ I h => Constant_none ⟨.non, H, I, rfl, h⟩
theorem pe_str {x j pos} : PE X (.Constant (.str x) j pos) (tC (.str x)) := fun _ _ _ H _ I h => Calls.Constant_str ⟨.str x, H, I.tok _, ⟨_, rfl⟩, h⟩
def Gl (X : Cx) (x : Str) : Prop := X.env.kindOf x = some .globalImplicit
theorem ld_glob {E : Value → Shared → Prop} {pins : List (Addr × Obj)} {s : Shared} {σ : St} {H : Hp} {x : Str} {u : Value} {pos : Pos} {Q : Value → Shared → Prop} (I : Inv X pins σ H s) (hg : Gl X x) (hm : X.mg x = some u) (h : Q u s)
    (hd : (x == ("__debug__" : Str)) = false := by decide) : wpAny (model X.prog X.w) X.A (eval (.Name x pos) X.env) Q E s :=
  Calls.Name_function_global I.ok.kind hg (Calls.loadGlobal_global (by rw [I.ok.glob]; exact I.mod.glob.keeps I.bk) hm h) hd
theorem ld_blt {E : Value → Shared → Prop} {pins : List (Addr × Obj)} {s : Shared} {σ : St} {H : Hp} {x : Str} {u : Value} {pos : Pos} {Q : Value → Shared → Prop} (I : Inv X pins σ H s) (hg : Gl X x) (hm : X.mg x = none) (hv : bootBuiltins x = some u) (h : Q u s)
    (hn : x ≠ "__name__" := by decide) (hd : (x == ("__debug__" : Str)) = false := by decide) : wpAny (model X.prog X.w) X.A (eval (.Name x pos) X.env) Q E s := by
  obtain ⟨mb, h1, h2⟩ := I.mod.blt
  exact Calls.Name_function_global I.ok.kind hg (Calls.loadGlobal_builtin (by rw [I.ok.glob]; exact I.mod.glob.keeps I.bk) hm (by rw [I.ok.blt]; exact h1.keeps I.bk) ((h2 x hn).trans hv) h) hd
theorem pe_glob {x : Str} {v : V} {u : Value} {pos : Pos} (hg : Gl X x) (hm : X.mg x = some u) (r : RelV v u) (hd : (x == ("__debug__" : Str)) = false := by decide) : PE X (.Name x pos) (tC v) :=
  fun _ _ _ H _ I h => ld_glob I hg hm ⟨v, H, I, r, h⟩ hd
theorem pe_bltn {x : Str} {v : V} {u : Value} {pos : Pos} (hg : Gl X x) (hm : X.mg x = none) (hv : bootBuiltins x = some u) (r : RelV v u) (hn : x ≠ "__name__" := by decide) (hd : (x == ("__debug__" : Str)) = false := by decide) : PE X (.Name x pos) (tC v) :=
  fun _ _ _ H _ I h => ld_blt I hg hm hv ⟨v, H, I, r, h⟩ hn hd
variable {a b : Expr} {ta tb : TE} {pos : Pos}
variable {tA tB' : TT} {rest : List Expr}
def tAnd (t u : TT) : TT := fun σ H Q => t σ H fun c H1 => if c = true then u σ H1 Q else Q false H1
def tOr (t u : TT) : TT := fun σ H Q => t σ H fun c H1 => if c = true then Q true H1 else u σ H1 Q
def tNot (t : TT) : TT := fun σ H Q => t σ H fun c H1 => Q (!c) H1
theorem pw_and1 (ha : PT X a tA) : PW X (.BoolOp .And [a] pos) tA := by
  intro wh pins s σ H Q I h
  refine isTrue_and (thn (ha pins s σ H Q I h) fun c s1 e => ?_)
  cases c with
  | true => exact isTrue_and_nil e
  | false => exact e
theorem pw_or1 (ha : PT X a tA) : PW X (.BoolOp .Or [a] pos) tA := by
  intro wh pins s σ H Q I h
  refine isTrue_or (thn (ha pins s σ H Q I h) fun c s1 e => ?_)
  cases c with
  | false => exact isTrue_or_nil e
  | true => exact e
theorem pw_and (ha : PT X a tA) (hb : PW X (.BoolOp .And (b :: rest) pos) tB') : PW X (.BoolOp .And (a :: b :: rest) pos) (tAnd tA tB') := by
  intro wh pins s σ H Q I h
  refine isTrue_and (thn (ha pins s σ H _ I h) fun c s1 ⟨H1, I1, q1⟩ => ?_)
  cases c with
  | true => exact hb wh pins s1 σ H1 Q I1 q1
  | false => exact ⟨H1, I1, q1⟩
theorem pw_or (ha : PT X a tA) (hb : PW X (.BoolOp .Or (b :: rest) pos) tB') : PW X (.BoolOp .Or (a :: b :: rest) pos) (tOr tA tB') := by
  intro wh pins s σ H Q I h
  refine isTrue_or (thn (ha pins s σ H _ I h) fun c s1 ⟨H1, I1, q1⟩ => ?_)
  cases c with
  | true => exact ⟨H1, I1, q1⟩
  | false => exact hb wh pins s1 σ H1 Q I1 q1
theorem pt_not (ha : PT X a tA) : PT X (.UnaryOp .Not a pos) (tNot tA) := by
  intro pins s σ H Q I h
  exact isTrue_not (ha pins s σ H (fun c H1 => Q (!c) H1) I h)
def tAndV (ta tb : TE) : TE := fun σ H Q => ta σ H fun x H1 => ∃ c, x = .bl c ∧ if c = true then tb σ H1 Q else Q (.bl false) H1
def tNotV (ta : TE) : TE := fun σ H Q => ta σ H fun x H1 => ∃ c, x = .bl c ∧ Q (.bl (!c)) H1
theorem pe_one {op} {t : TE} (h : PE X a t) : PE X (.BoolOp op [a] pos) t := fun pins s σ H Q I hw => BoolOp_one (h pins s σ H Q I hw)
theorem pe_and (ha : PE X a ta) (hb : PE X (.BoolOp .And (b :: rest) pos) tb) : PE X (.BoolOp .And (a :: b :: rest) pos) (tAndV ta tb) := by
  intro pins s σ H Q I h
  refine BoolOp_and (thn (ha pins s σ H _ I h) fun v s1 ⟨x, H1, I1, r1, q1⟩ => ?_)
  obtain ⟨c, rfl, q1⟩ := q1
  cases r1
  refine wpAny_truthy_bool ?_
  cases c with
  | true => exact hb pins s1 σ H1 Q I1 q1
  | false => exact ⟨.bl false, H1, I1, rfl, q1⟩
theorem pe_not (ha : PE X a ta) : PE X (.UnaryOp .Not a pos) (tNotV ta) := by
  intro pins s σ H Q I h
  refine UnaryOp_ (thn (ha pins s σ H _ I h) fun v s1 ⟨x, H1, I1, r1, q1⟩ => ?_)
  obtain ⟨c, rfl, q1⟩ := q1
  cases r1
  exact not_of (wpAny_truthy_bool ⟨.bl (!c), H1, I1, rfl, q1⟩)
end
end L2
namespace L2
open PySem PySem.Spec PyProof.Rows
def SqL (K : PySem.W.Frag) (H : Hp) (a : Addr) (xs : List V) : Prop :=
  Rd H a (.lst xs) ∨
    ∃ (o : Obj) (its : Array Value) (n : Nat), K.lookup a = some o ∧ o.cls = .type "list" ∧ o.dict = none ∧ o.data = .seq its n ∧ its.size ≤ sizeLine ∧ Vals xs its.toList
def SqT (K : PySem.W.Frag) (H : Hp) (a : Addr) (xs : List V) : Prop :=
  Rd H a (.tup xs) ∨
    ∃ (o : Obj) (its : Array Value) (n : Nat), K.lookup a = some o ∧ o.cls = .type "tuple" ∧ o.data = .seq its n ∧ its.size ≤ sizeLine ∧ Vals xs its.toList
def absV : Value → Option V
  | .none => some .non
  | .bool b => some (.bl b)
  | .int i _ => some (.int i)
  | .str x _ => some (.str x)
  | .bytes b _ => some (.byt b)
  | .float b _ => some (.flt b)
  | .ref a => some (.ref a)
  | .type n => some (.ty n)
  | _ => none
theorem RelV.abs {x : V} {u : Value} (r : RelV x u) : absV u = some x := by
  cases x with
  | non => cases r; rfl
  | bl _ => cases r; rfl
  | int _ => obtain ⟨t, rfl⟩ := r; rfl
  | str _ => obtain ⟨t, rfl⟩ := r; rfl
  | byt _ => obtain ⟨t, rfl⟩ := r; rfl
  | flt _ => obtain ⟨t, rfl⟩ := r; rfl
  | ref _ => cases r; rfl
  | ty _ => cases r; rfl
theorem RelV.inj {x y : V} {u : Value} (r : RelV x u) (q : RelV y u) : x = y := Option.some.inj (r.abs.symm.trans q.abs)
theorem Vals.inj : ∀ {xs ys : List V} {us : List Value}, Vals xs us → Vals ys us → xs = ys
  | _, _, _, .nil, .nil => rfl
  | _, _, _, .cons r t, .cons r' t' => by rw [r.inj r', Vals.inj t t']
section
variable {X : Cx} {pins : List (Addr × Obj)} {σ : St} {H : Hp} {s : Shared} {a : Addr} {xs ys : List V}
theorem SqL.of {K : PySem.W.Frag} (h : H a = some (.lst xs)) : SqL K H a xs := .inl (.inl h)
theorem SqT.of {K : PySem.W.Frag} (h : H a = some (.tup xs)) : SqT K H a xs := .inl (.inl h)
theorem Inv.list (I : Inv X pins σ H s) (h : SqL X.K H a xs) : ∃ its : List Value, Vals xs its ∧ PlainL s.heap a its.toArray ∧ xs.length ≤ sizeLine := by
  rcases h with h | ⟨o, its, n, hk, hc, hd, hs, hz, r⟩
  · obtain ⟨z, its, n, r, e⟩ := h.ok I.hok
    exact ⟨its, r, ⟨_, n, e, rfl, rfl, rfl⟩, z⟩
  · refine ⟨its.toList, r, ⟨o, n, I.kIn a o hk, hc, hd, by simpa using hs⟩, ?_⟩
    have e := r.length
    simp only [Array.length_toList] at e
    omega
theorem Inv.tuple (I : Inv X pins σ H s) (h : SqT X.K H a xs) : ∃ its : List Value, Vals xs its ∧ IsTup s.heap a its.toArray ∧ xs.length ≤ sizeLine := by
  rcases h with h | ⟨o, its, n, hk, hc, hs, hz, r⟩
  · obtain ⟨z, its, r, p⟩ := h.ok I.hok
    exact ⟨its, r, p, z⟩
  · refine ⟨its.toList, r, ⟨o, I.kIn a o hk, hc, n, by simpa using hs⟩, ?_⟩
    have e := r.length
    simp only [Array.length_toList] at e
    omega
theorem Inv.list_inj (I : Inv X pins σ H s) (h : SqL X.K H a xs) (h' : SqL X.K H a ys) : xs = ys := by
  obtain ⟨its, r, ⟨o, n, e, _, _, d⟩, _⟩ := I.list h
  obtain ⟨its', r', ⟨o', n', e', _, _, d'⟩, _⟩ := I.list h'
  rw [e] at e'; cases e'
  rw [d] at d'
  injection d' with d1 _
  have : its = its' := by simpa using congrArg Array.toList d1
  subst this
  exact r.inj r'
end
section
variable {X : Cx} {pins : List (Addr × Obj)} {σ : St} {H : Hp} {s : Shared} {E : Value → Shared → Prop}
end
section
variable {X : Cx} {st : Stmt} {rest : List Stmt} {t u : TS} {e : Expr} {te : TE} {pos : Pos}
def tNext : TS := fun D σ H => D.nx σ H
def tSeq (t u : TS) : TS := fun D σ H => t { D with nx := u D } σ H
theorem pss_nil : PSs X [] tNext := fun _ _ σ H _ I h => wpAny_execs_nil ⟨σ, H, I, h⟩
theorem pss_cons (h1 : PS X st t) (h2 : PSs X rest u) : PSs X (st :: rest) (tSeq t u) := by
  intro pins s σ H D I h
  refine wpAny_execs_cons (thn (h1 pins s σ H { D with nx := u D } I h) fun f s1 q => ?_)
  cases f with
  | next =>
    obtain ⟨σ', H', I', q⟩ := q
    exact h2 pins s1 σ' H' D I' q
  | ret v => exact q
  | brk => exact q
  | cont => exact q
theorem pss_one (h1 : PS X st t) : PSs X [st] t := by
  intro pins s σ H D I h
  refine wpAny_execs_cons (thn (h1 pins s σ H D I h) fun f s1 q => ?_)
  cases f with
  | next => exact wpAny_execs_nil q
  | ret v => exact q
  | brk => exact q
  | cont => exact q
theorem Inv.quiet {pins : List (Addr × Obj)} {σ : St} {H : Hp} {s : Shared} (I : Inv X pins σ H s) : interactive X.env = false := by simp [interactive, I.ok.kind]
def tDrop (te : TE) : TS := fun D σ H => te σ H fun _ H1 => D.nx σ H1
theorem ps_expr (he : PE X e te) (hs : swapsWith e none pos.line X.env = pure false := by rfl) : PS X (.Expr e pos) (tDrop te) := by
  intro pins s σ H D I h
  exact wpAny_Expr_any (thn (he pins s σ H _ I h) fun v s1 ⟨x, H1, I1, r1, q1⟩ => ⟨σ, H1, I1, q1⟩) I.quiet hs
def tRet (te : TE) : TS := fun D σ H => te σ H D.rt
theorem ps_ret (he : PE X e te) : PS X (.Return (some e) pos) (tRet te) := by
  intro pins s σ H D I h
  exact wpAny_Return_some (thn (he pins s σ H _ I h) fun v s1 ⟨x, H1, I1, r1, q1⟩ => ⟨x, σ, H1, I1, r1, q1⟩)
def tIfS (c : TT) (t u : TS) : TS := fun D σ H => c σ H fun b H1 => if b = true then t D σ H1 else u D σ H1
theorem ps_if {c : Expr} {a b : List Stmt} {tc : TT} (hc : PT X c tc) (ha : PSs X a t) (hb : PSs X b u) : PS X (.If c a b pos) (tIfS tc t u) := by
  intro pins s σ H D I h
  refine wpAny_If (thn (hc pins s σ H _ I h) fun d s1 ⟨H1, I1, q1⟩ => ?_)
  cases d with
  | true => exact ha pins s1 σ H1 D I1 q1
  | false => exact hb pins s1 σ H1 D I1 q1
end
abbrev TG := V → St → Hp → (St → Hp → Prop) → Prop
abbrev TGs := List V → St → Hp → (St → Hp → Prop) → Prop
def PG (X : Cx) (target : Expr) (t : TG) : Prop :=
  ∀ (pins : List (Addr × Obj)) (s : Shared) (σ : St) (H : Hp) (v : V) (u : Value) (Q : St → Hp → Prop), Inv X pins σ H s → RelV v u → t v σ H Q →
    wpAny (model X.prog X.w) X.A (assign target X.env u) (fun _ s' => ∃ σ' H', Inv X pins σ' H' s' ∧ Q σ' H') X.xe s
def PGs (X : Cx) (ts : List Expr) (t : TGs) : Prop :=
  ∀ (pins : List (Addr × Obj)) (s : Shared) (σ : St) (H : Hp) (vs : List V) (us : List Value) (Q : St → Hp → Prop), Inv X pins σ H s → Vals vs us → t vs σ H Q →
    wpAny (model X.prog X.w) X.A (assignInOrder ((assignEach ts X.env).map (·.2)) us) (fun _ s' => ∃ σ' H', Inv X pins σ' H' s' ∧ Q σ' H') X.xe s
abbrev TSet := V → V → V → Hp → (Hp → Prop) → Prop
def PSet (X : Cx) (t : TSet) : Prop :=
  ∀ (pins : List (Addr × Obj)) (s : Shared) (σ : St) (H : Hp) (o i v : V) (ov iv u : Value) (Q : Hp → Prop), Inv X pins σ H s → RelV o ov → RelV i iv → RelV v u → t o i v H Q →
    wpAny (model X.prog X.w) X.A (setItem ov iv u) (fun _ s' => ∃ H', Inv X pins σ H' s' ∧ Q H') X.xe s
abbrev TIp := V → V → Hp → VK → Prop
def PIp (X : Cx) (op : Operator) (t : TIp) : Prop :=
  ∀ (pins : List (Addr × Obj)) (s : Shared) (σ : St) (H : Hp) (x y : V) (v u : Value) (Q : VK), Inv X pins σ H s → RelV x v → RelV y u → t x y H Q →
    wpAny (model X.prog X.w) X.A (inplaceOp op v u) (EP X pins σ Q) X.xe s
section
variable {X : Cx} {pos : Pos}
def gName (i : Nat) : TG := fun v σ H Q => Q (σ.set i (some v)) H
theorem pg_name {i : Nat} {x : Str} (hN : X.N.Nodup) (hi : X.N[i]? = some x) (hx : Loc X.env.scope x) (hf : X.fn x = true ∨ X.env.scope.names.lookup x = some .local := by first | exact .inl rfl | exact .inr rfl | assumption) : PG X (.Name x pos) (gName i) := by
  intro pins s σ H v u Q I r h
  exact wpAny_assign_Name (store_ok I hN hi hx r (fun s' I' => ⟨_, H, I', h⟩) hf)
def gNil : TGs := fun vs σ H Q => vs = [] ∧ Q σ H
def gCons (t : TG) (u : TGs) : TGs := fun vs σ H Q => ∃ v r, vs = v :: r ∧ t v σ H fun σ' H' => u r σ' H' Q
theorem pgs_nil : PGs X [] gNil := by
  intro pins s σ H vs us Q I r h
  obtain ⟨e, h⟩ := h
  subst e
  cases r
  exact assignInOrder_nil ⟨σ, H, I, h⟩
theorem pgs_cons {e : Expr} {es : List Expr} {t : TG} {u : TGs} (h1 : PG X e t) (h2 : PGs X es u)
    (hs : (assignEach (e :: es) X.env).map (·.2) = assign e X.env :: (assignEach es X.env).map (·.2) := by rfl) : PGs X (e :: es) (gCons t u) := by
  intro pins s σ H vs us Q I r h
  obtain ⟨v, vr, e1, h⟩ := h
  subst e1
  cases r with
  | cons r rr =>
    rw [hs]
    refine assignInOrder_cons (thn (h1 pins s σ H _ _ _ I r h) fun _ s1 ⟨σ1, H1, I1, q1⟩ => ?_)
    exact h2 pins s1 σ1 H1 _ _ Q I1 rr q1
def gTup (K : PySem.W.Frag) (n : Nat) (t : TGs) : TG := fun v σ H Q => ∃ a xs, v = .ref a ∧ SqT K H a xs ∧ xs.length = n ∧ t xs σ H Q
theorem pg_tup {es : List Expr} {k : Nat} {t : TGs} {n : Nat} (hc : X.calm = true) (h : PGs X es t)
    (hn : (assignEach es X.env).length = n := by rfl) (hst : (assignEach es X.env).findIdx? (·.1) = none := by rfl) : PG X (.Tuple es k pos) (gTup X.K n t) := by
  intro pins s σ H v u Q I r hw
  obtain ⟨a, xs, e1, hq, hl, hw⟩ := hw
  subst e1
  cases r
  obtain ⟨its, rv, ht, hz⟩ := I.tuple hq
  refine assign_Tuple_tuple (I.ok.hd hc) ht (by simp [hn, ← hl, rv.length]) hst fun h' hx => ?_
  have I1 : Inv X pins σ H { s with heap := h' } := I.kept (t' := s.toks) fun b o e => hx b o (Nat.ne_of_lt (Heap.lt_size e)) e
  exact h pins _ σ H xs _ Q I1 (by simpa using rv) hw
def gSub (to ti : TE) (t : TSet) : TG := fun v σ H Q => to σ H fun o H1 => ti σ H1 fun i H2 => t o i v H2 fun H3 => Q σ H3
theorem pg_sub {o i : Expr} {to ti : TE} {t : TSet} (ho : PE X o to) (hi : PE X i ti) (hs : PSet X t)
    (ha : ∀ v, assign (.Subscript o i pos) X.env v = (do
      let ov ← holding [v] (eval o X.env)
      let iv ← holding [v, ov] (eval i X.env)
      standAt pos
      holding [v, ov, iv] (setItem ov iv v)
      release [v, ov, iv] []) := by intro _; rfl) : PG X (.Subscript o i pos) (gSub to ti t) := by
  intro pins s σ H v u Q I r h
  rw [ha]
  refine wpAny_bind (wpAny_holding (thn (ho pins s σ H _ I h) fun ov s1 ⟨x, H1, I1, r1, q1⟩ => ?_))
  refine wpAny_bind (wpAny_holding (thn (hi pins s1 σ H1 _ I1 q1) fun iv s2 ⟨y, H2, I2, r2, q2⟩ => ?_))
  refine wpAny_bind (wpAny_standAt (wpAny_bind (wpAny_holding (thn (hs pins s2 σ H2 x y v ov iv u _ I2 r1 r2 r q2) fun _ s3 ⟨H3, I3, q3⟩ => ?_))))
  exact wpAny_release ⟨σ, H3, I3, q3⟩
def tAsg (te : TE) (g : TG) : TS := fun D σ H => te σ H fun x H1 => g x σ H1 D.nx
theorem ps_asg {tg e : Expr} {te : TE} {g : TG} (he : PE X e te) (hg : PG X tg g) (hs : swapsWithSole [tg] e pos.line X.env = pure false := by rfl) (hw : swappedStores [tg] e X.env = pure none := by rfl)
    (h1 : (assignEach [tg] X.env).map (·.2) = [assign tg X.env] := by rfl) : PS X (.Assign [tg] e pos) (tAsg te g) := by
  intro pins s σ H D I h
  refine wpAny_Assign_stores (thn (he pins s σ H _ I h) fun v s1 ⟨x, H1, I1, r1, q1⟩ => ?_) hs hw
  rw [h1]
  exact thn (hg pins s1 σ H1 x v _ I1 r1 q1) fun _ s2 q => q
theorem ps_set {i : Nat} {x : Str} {e : Expr} {te : TE} {pos' : Pos} (hN : X.N.Nodup) (hi : X.N[i]? = some x) (hx : Loc X.env.scope x) (he : PE X e te) (hs : swapsWith e (some (.Name x pos')) pos.line X.env = pure false := by rfl) (hf : X.fn x = true ∨ X.env.scope.names.lookup x = some .local := by first | exact .inl rfl | exact .inr rfl | assumption) :
    PS X (.Assign [.Name x pos'] e pos) (tAsg te (gName i)) := by
  intro pins s σ H D I h
  refine wpAny_Assign_Name (thn (he pins s σ H _ I h) fun v s1 ⟨y, H1, I1, r1, q1⟩ => ?_) hs
  exact store_ok I1 hN hi hx r1 (fun s2 I2 => ⟨_, H1, I2, q1⟩) hf
def tAug (i : Nat) (te : TE) (ti : TIp) : TS := fun D σ H => ∃ x, σ[i]? = some (some x) ∧ te σ H fun y H1 => ti x y H1 fun z H2 => D.nx (σ.set i (some z)) H2
theorem ps_aug {i : Nat} {x : Str} {e : Expr} {te : TE} {op : Operator} {ti : TIp} {pos' : Pos} (hN : X.N.Nodup) (hi : X.N[i]? = some x) (hx : Loc X.env.scope x) (he : PE X e te) (ho : PIp X op ti) (hf : X.fn x = true ∨ X.env.scope.names.lookup x = some .local := by first | exact .inl rfl | exact .inr rfl | assumption) :
    PS X (.AugAssign (.Name x pos') op e pos) (tAug i te ti) := by
  intro pins s σ H D I h
  obtain ⟨v, e1, h⟩ := h
  obtain ⟨m, hn, hl⟩ := I.loc
  have vis : Vis X.env.scope x := by rcases hx with k | k; exact .inl k; exact .inr (.inl k)
  obtain ⟨u, r, l⟩ := hl i x v hi e1 vis
  refine wpAny_AugAssign_Name ?_
  have go : wpAny (model X.prog X.w) X.A (eval e X.env) (fun w s₂ => wpAny (model X.prog X.w) X.A (inplaceOp op u w) (fun r s₃ => wpAny (model X.prog X.w) X.A (storeName X.env x r) (fun _ => SP X pins D .next) X.xe s₃) X.xe s₂) X.xe s := by
    refine thn (he pins s σ H _ I h) fun w s1 ⟨y, H1, I1, r1, q1⟩ => ?_
    refine thn (ho pins s1 σ H1 v y u w _ I1 r r1 q1) fun z s2 ⟨zv, H2, I2, r2, q2⟩ => ?_
    exact store_ok I2 hN hi hx r2 (fun s3 I3 => ⟨_, H2, I3, q2⟩) hf
  rcases l with ⟨hk, hm⟩ | ⟨hk, c, hc, hcell⟩
  · exact wpAny_loadName_local I.ok.kind hk hn hm go
  · rcases hk with hk | hk
    · exact wpAny_loadName_cell I.ok.kind hk hc hcell go
    · rcases hx with k | k
      · have : X.env.scope.names.lookup x = some .free := hk
        rw [k] at this; cases this
      · have : X.env.scope.names.lookup x = some .free := hk
        rw [k] at this; cases this
def ipI (f : Int → Int → Int) : TIp := fun x y H Q => ∃ i j, x = .int i ∧ y = .int j ∧ Q (.int (f i j)) H
theorem ip_add : PIp X .Add (ipI fun i j => i + j) := by
  intro pins s σ H x y v u Q I r1 r2 h
  obtain ⟨i, j, e1, e2, q⟩ := h
  subst e1; subst e2
  obtain ⟨t, rfl⟩ := r1
  obtain ⟨t', rfl⟩ := r2
  exact iadd_int ⟨.int _, H, I.tok _, ⟨_, rfl⟩, q⟩
end
section
variable {X : Cx} {pos : Pos}
def tWhile (c : TT) (tb : TS) : TS := fun D σ H => ∃ W : Nat → St → Hp → Prop, (∃ m, W m σ H) ∧ ∀ m σ H, W m σ H →
  c σ H fun b H1 => if b = true then ∃ N : St → Hp → Prop, (∀ σ' H', N σ' H' → ∃ m', m' < m ∧ W m' σ' H') ∧ tb { D with nx := N, ct := N, bk := D.nx } σ H1 else D.nx σ H1
theorem ps_while {c : Expr} {body : List Stmt} {tc : TT} {tb : TS} (hp : PassesOwn (model X.prog X.w) X.A X.env X.xe) (hc : PT X c tc) (hb : PSs X body tb) : PS X (.While c body [] pos) (tWhile tc tb) := by
  intro pins s σ H D I h
  obtain ⟨W, ⟨m0, w0⟩, turn⟩ := h
  refine wpAny_While (codeAny_whileLoop (fun n s' => ∃ σ' H', Inv X pins σ' H' s' ∧ W n σ' H') ?_ m0 ⟨σ, H, I, w0⟩)
  rintro n s1 ⟨σ1, H1, I1, w1⟩
  refine wpAny_passesOwn hp (thn (hc pins s1 σ1 H1 _ I1 (turn n σ1 H1 w1)) fun b s2 ⟨H2, I2, q2⟩ => ?_)
  cases b with
  | true =>
    obtain ⟨N, hN, q2⟩ := q2
    rw [if_pos rfl]
    refine wpAny_passesOwn hp (thn (hb pins s2 σ1 H2 _ I2 q2) fun f s3 q3 => ?_)
    cases f with
    | next =>
      obtain ⟨σ3, H3, I3, n3⟩ := q3
      obtain ⟨m', hm, w3⟩ := hN σ3 H3 n3
      exact ⟨m', hm, σ3, H3, I3, w3⟩
    | cont =>
      obtain ⟨σ3, H3, I3, n3⟩ := q3
      obtain ⟨m', hm, w3⟩ := hN σ3 H3 n3
      exact ⟨m', hm, σ3, H3, I3, w3⟩
    | brk => exact q3
    | ret v => exact q3
  | false =>
    rw [if_neg Bool.false_ne_true]
    exact wpAny_execs_nil ⟨σ1, H2, I2, q2⟩
end
structure It where
  go : Nat → Hp → Prop
  yld : Nat → Hp → V → Hp → Prop
  stop : Nat → Hp → Prop
def FpOk (X : Cx) (pins : List (Addr × Obj)) (H : Hp) (b : Addr) : Prop :=
  H b = none ∧ b ≠ X.env.locals ∧ b ∉ X.fs ∧ (b ∈ X.ex ∨ X.s₀.heap.objs.size ≤ b) ∧ (∀ x c, X.env.cells.lookup x = some c → c ≠ b) ∧ ∀ p ∈ X.pn ++ pins, p.1 ≠ b
theorem Inv.fpOk {X : Cx} {pins : List (Addr × Obj)} {σ : St} {H H' : Hp} {s : Shared} {b : Addr} (I : Inv X pins σ H s) (hb : s.heap.objs.size ≤ b) (hn : H' b = none) : FpOk X pins H' b := by
  refine ⟨hn, Nat.ne_of_gt (Nat.lt_of_lt_of_le I.lt hb), I.nofs hb, .inr (Nat.le_trans I.sz hb), fun x c e z => ?_, fun p hp z => ?_⟩
  · obtain ⟨v, q⟩ := I.cell x c e
    exact absurd (Nat.lt_of_lt_of_le q.lt (by rw [z]; exact hb)) (Nat.lt_irrefl _)
  · exact absurd (Nat.lt_of_lt_of_le (Heap.lt_size (I.pin p hp).1) (by rw [z]; exact hb)) (Nat.lt_irrefl _)
structure Turn (P : Program) (w : World) (K : PySem.W.Frag) (tg : Expr) (J : It) (fp : List Addr) (it : Addr) (tn : Nat → Heap → Prop) : Prop where
  mem : it ∈ fp
  obj : ∀ i h, tn i h → ∀ b ∈ fp, ∃ o, h.get? b = some o ∧ ∀ v, o.data ≠ .cell v
  keep : ∀ i h h', tn i h → (∀ b ∈ fp, ∀ o, h.get? b = some o → h'.get? b = some o) → tn i h'
  item : ∀ (X : Cx), X.prog = P → X.w = w → X.K = K → X.calm = true → ∀ (i : Nat) (pins : List (Addr × Obj)) (s : Shared) (σ : St) (H : Hp) (E : Value → Shared → Prop), Inv X pins σ H s → (∀ b ∈ fp, FpOk X pins H b) → tn i s.heap → J.go i H →
    wpAny (model P w) X.A (pyNext (.ref it)) (fun r s1 => ∃ u, r = some u ∧
      wpAny (model P w) X.A (letOwnedTupleGo tg (.ref it) u) (fun _ s2 => ∃ x H', Inv X pins σ H' s2 ∧ RelV x u ∧ J.yld i H x H' ∧ tn (i + 1) s2.heap ∧ ∀ b ∈ fp, H' b = none) E s1) E s
  done : ∀ (X : Cx), X.prog = P → X.w = w → X.K = K → X.calm = true → ∀ (i : Nat) (pins : List (Addr × Obj)) (s : Shared) (σ : St) (H : Hp) (E : Value → Shared → Prop), Inv X pins σ H s → (∀ b ∈ fp, FpOk X pins H b) → tn i s.heap → J.stop i H →
    wpAny (model P w) X.A (pyNext (.ref it)) (fun r s1 => r = none ∧ Inv X pins σ H s1) E s
  self : ∀ (A : Around) (i : Nat) (s : Shared) (Q : Value → Shared → Prop) (E : Value → Shared → Prop), tn i s.heap → Q (.ref it) s → wpAny (model P w) A (pyIter (.ref it)) Q E s
abbrev TI := St → Hp → (It → Hp → Prop) → Prop
def PIE (X : Cx) (pins : List (Addr × Obj)) (σ : St) (tg : Expr) (R : It → Hp → Prop) (itv : Value) (s2 : Shared) : Prop :=
  ∃ (it : Addr) (fp : List Addr) (tn : Nat → Heap → Prop) (J : It) (H' : Hp), itv = .ref it ∧ Inv X pins σ H' s2 ∧ Turn X.prog X.w X.K tg J fp it tn ∧ tn 0 s2.heap ∧ (∀ b ∈ fp, FpOk X pins H' b) ∧ R J H'
def PI (X : Cx) (tg iter : Expr) (wi : TI) : Prop :=
  ∀ (pins : List (Addr × Obj)) (s : Shared) (σ : St) (H : Hp) (R : It → Hp → Prop), Inv X pins σ H s → wi σ H R →
    wpAny (model X.prog X.w) X.A (eval iter X.env) (fun v s1 => wpAny (model X.prog X.w) X.A (pyIter v) (PIE X pins σ tg R) X.xe s1) X.xe s
theorem go_of {M : Model} {A : Around} {E : Value → Shared → Prop} {s : Shared} {tg : Expr} {it : Addr} {u : Value} {o : Obj} {n : String} {vs : Array Value} {Q : Unit → Shared → Prop} (ho : s.heap.get? it = some o) (hc : o.cls = .type n) (hd : o.data = .fields vs)
    (hn : ["enumerate", "zip", "dict_itemiterator", "dict_reverseitemiterator", "odict_iterator", "itertools.zip_longest", "itertools.pairwise"].contains n = false) (hQ : Q () s) : wpAny M A (letOwnedTupleGo tg (.ref it) u) Q E s := by
  unfold letOwnedTupleGo
  cases tg <;> first
    | exact wpAny_pure hQ
    | (cases u <;> first
        | exact wpAny_pure hQ
        | (refine wpAny_bind (wpAny_load ho ?_)
           rw [hc, hd]
           show wpAny M A (if (["enumerate", "zip", "dict_itemiterator", "dict_reverseitemiterator", "odict_iterator", "itertools.zip_longest", "itertools.pairwise"].contains n && vs[0]? == some (rawInt _)) = true then _ else _) Q E s
           rw [if_neg (by intro h; rw [hn, Bool.false_and] at h; cases h)]
           exact wpAny_pure hQ))
def Itl (K : PySem.W.Frag) (a : Addr) : It :=
  ⟨fun i H => ∃ xs x, SqL K H a xs ∧ xs[i]? = some x, fun i H x H' => H' = H ∧ ∀ xs, SqL K H a xs → xs[i]? = some x, fun i H => ∃ xs, SqL K H a xs ∧ xs.length ≤ i⟩
def Itr (lo : Int) (n : Nat) : It := ⟨fun i _ => i < n, fun i H x H' => H' = H ∧ x = .int (lo + i), fun i _ => n ≤ i⟩
theorem turn_list {P : Program} {w : World} {K : PySem.W.Frag} {tg : Expr} (a it : Addr) : Turn P w K tg (Itl K a) [it] it (fun i h => h.IsListIter it a i) where
  mem := by simp
  obj := fun i h st b hb => by
    have e : b = it := by simpa using hb
    subst e
    obtain ⟨o, e, c, d⟩ := st
    exact ⟨o, e, fun v z => by rw [d] at z; cases z⟩
  keep := fun i h h' st k => st.at fun o e => k it (by simp) o e
  item := by
    intro X hP hw hK hc i pins s σ H E I hf st hg
    subst hP hw hK
    obtain ⟨xs, x, hq, hx⟩ := hg
    obtain ⟨its, rv, p, hz⟩ := I.list hq
    obtain ⟨u, hu, ru⟩ := rv.get hx
    obtain ⟨f0, f1, f2, f3, f4, f5⟩ := hf it (by simp)
    refine wpAny_pyNext_list_item st p.isList (x := u) (by simpa using hu) fun h' st' sb => ?_
    have I1 : Inv X pins σ H { s with heap := h' } := I.turned (t' := s.toks) (fun b o hb e => (sb.2 b hb).trans e) f0 f1 f3 f4 f5
    obtain ⟨o, e, c, d⟩ := id st'
    exact ⟨u, rfl, go_of (s := { s with heap := h' }) e c d (by decide) ⟨x, H, I1, ru, ⟨rfl, fun ys hy => by rw [I.list_inj hy hq]; exact hx⟩, st', fun b hb => (hf b hb).1⟩⟩
  done := by
    intro X hP hw hK hc i pins s σ H E I hf st hg
    subst hP hw hK
    obtain ⟨xs, hq, hx⟩ := hg
    obtain ⟨its, rv, p, hz⟩ := I.list hq
    obtain ⟨f0, f1, f2, f3, f4, f5⟩ := hf it (by simp)
    have hl := rv.length
    exact wpAny_pyNext_list_end (I.ok.hd hc) st p.isList (by simp; omega) fun h' eb => ⟨rfl, I.turned (t' := s.toks) (fun b o hb e => eb b o hb e) f0 f1 f3 f4 f5⟩
  self := fun _ _ _ _ _ st h => wpAny_pyIter_listiter st h
theorem turn_range {P : Program} {w : World} {K : PySem.W.Frag} {tg : Expr} (it : Addr) (lo : Int) (n : Nat) : Turn P w K tg (Itr lo n) [it] it (fun i h => IsRangeIter h it (lo + (i : Nat) * 1) ((n : Int) - (i : Nat)) 1) where
  mem := by simp
  obj := fun i h st b hb => by
    have e : b = it := by simpa using hb
    subst e
    exact ⟨_, st, fun v z => by
      have z' : Data.fields _ = Data.cell v := z
      cases z'⟩
  keep := fun i h h' st k => k it (by simp) _ st
  item := by
    intro X hP hw hK hc i pins s σ H E I hf st hg
    subst hP hw hK
    obtain ⟨f0, f1, f2, f3, f4, f5⟩ := hf it (by simp)
    have W := Walks.range (prog := X.prog) (w := X.w) (I.ok.hd hc) it lo 1 n
    refine W.item i s _ _ hg st fun v h' tk hv st' kk => ?_
    obtain ⟨t, rfl⟩ := hv
    have I1 : Inv X pins σ H { s with heap := h', toks := tk } := I.turned (fun b o hb e => kk b o (by simpa using hb) e) f0 f1 f3 f4 f5
    refine ⟨_, rfl, go_of (s := { s with heap := h', toks := tk }) (n := "range_iterator") st' rfl rfl (by decide) ⟨.int (lo + i), H, I1, ⟨t, ?_⟩, ⟨rfl, rfl⟩, st', fun b hb => (hf b hb).1⟩⟩
    rw [Int.mul_one]
  done := by
    intro X hP hw hK hc i pins s σ H E I hf st hg
    subst hP hw hK
    obtain ⟨f0, f1, f2, f3, f4, f5⟩ := hf it (by simp)
    exact wpAny_pyNext_range_end (I.ok.hd hc) st (by have : n ≤ i := hg; omega) fun h' eb => ⟨rfl, I.turned (t' := s.toks) (fun b o hb e => eb b o hb e) f0 f1 f3 f4 f5⟩
  self := fun _ _ _ _ _ st h => wpAny_pyIter_rangeiter st h
end L2
namespace L2
open PySem PySem.Spec PyProof.Rows
section
variable {X : Cx} {tg : Expr}
def iList (K : PySem.W.Frag) (tl : TE) : TI := fun σ H R => tl σ H fun x H1 => ∃ a, x = .ref a ∧ (∃ xs, SqL K H1 a xs) ∧ R (Itl K a) H1
theorem pi_list {l : Expr} {tl : TE} (hl : PE X l tl) : PI X tg l (iList X.K tl) := by
  intro pins s σ H R I h
  refine thn (hl pins s σ H _ I h) fun v s1 ⟨x, H1, I1, r1, q1⟩ => ?_
  obtain ⟨a, e, ⟨xs, hq⟩, q⟩ := q1
  subst e
  cases r1
  obtain ⟨its, rv, p, hz⟩ := I1.list hq
  refine wpAny_pyIter_list p.isList ?_
  refine ⟨s1.heap.objs.size, [s1.heap.objs.size], _, _, H1, rfl, I1.kept (t' := s1.toks) fun b o e => Heap.get?_push_of_some _ e, turn_list a _, ⟨_, Heap.get?_push_size _ rfl, rfl, rfl⟩, fun b hb => ?_, q⟩
  have e : b = s1.heap.objs.size := by simpa using hb
  subst e
  exact I1.fpOk (Nat.le_refl _) (I1.hok.fresh (Nat.le_refl _))
theorem range_it {pins : List (Addr × Obj)} {σ : St} {H : Hp} {s : Shared} {R : It → Hp → Prop} {E : Value → Shared → Prop} {lo hi : Int} {t u v : Tok} {tk : Nat} (I : Inv X pins σ H s) (h1 : -(2 ^ 62) ≤ lo) (h2 : lo < 2 ^ 62) (h3 : -(2 ^ 62) ≤ hi) (h4 : hi < 2 ^ 62)
    (q : R (Itr lo (hi - lo).toNat) H) : wpAny (model X.prog X.w) X.A (pyIter (.ref s.heap.objs.size)) (PIE X pins σ tg R) E { s with heap := s.heap.push { cls := .type "range", data := .fields #[.int lo t, .int hi u, .int 1 v] }, toks := tk } := by
  refine wpAny_pyIter_range (IsRange.new ..) (small_one h1 h2 h3 h4) ?_
  have I1 : Inv X pins σ H { s with heap := s.heap.push { cls := .type "range", data := .fields #[.int lo t, .int hi u, .int 1 v] }, toks := tk } := I.kept fun b o e => Heap.get?_push_of_some _ e
  refine ⟨(s.heap.push { cls := .type "range", data := .fields #[.int lo t, .int hi u, .int 1 v] }).objs.size, [(s.heap.push { cls := .type "range", data := .fields #[.int lo t, .int hi u, .int 1 v] }).objs.size], _, _, H, rfl,
    I1.kept (t' := tk) fun b o e => Heap.get?_push_of_some _ e, turn_range _ lo (hi - lo).toNat, ?_, fun b hb => ?_, q⟩
  · have e1 : lo + ((0 : Nat) : Int) * 1 = lo := by simp
    have e2 : (((hi - lo).toNat : Nat) : Int) - ((0 : Nat) : Int) = Builtin.Range.rangeSize lo hi 1 := by rw [rangeSize_one]; split <;> omega
    show IsRangeIter _ _ (lo + ((0 : Nat) : Int) * 1) ((((hi - lo).toNat : Nat) : Int) - ((0 : Nat) : Int)) 1
    rw [e1, e2]
    exact Heap.get?_push_size _ rfl
  · have e : b = (s.heap.push { cls := .type "range", data := .fields #[.int lo t, .int hi u, .int 1 v] }).objs.size := by simpa using hb
    subst e
    exact I1.fpOk (Nat.le_refl _) (I1.hok.fresh (Nat.le_refl _))
def iRng1 (ta : TA) : TI := fun σ H R => ta σ H fun vs H1 => ∃ j : Int, vs = [.int j] ∧ -(2 ^ 62) ≤ j ∧ j < 2 ^ 62 ∧ R (Itr 0 j.toNat) H1
def iRng2 (ta : TA) : TI := fun σ H R => ta σ H fun vs H1 => ∃ i j : Int, vs = [.int i, .int j] ∧ (-(2 ^ 62) ≤ i ∧ i < 2 ^ 62 ∧ -(2 ^ 62) ≤ j ∧ j < 2 ^ 62) ∧ R (Itr i (j - i).toNat) H1
theorem pi_range1 {a : Expr} {ta : TA} {p pos : Pos} (hg : Gl X "range") (hm : X.mg "range" = none) (ha : PA X [a] ta) (hs : starEach [a] X.env = [(false, eval a X.env)] := by rfl) : PI X tg (.Call (.Name "range" p) [a] [] pos) (iRng1 ta) := by
  intro pins s σ H R I h
  refine Call_ (ld_blt I hg hm boot_range (PyProof.Rows.callWith_type1 (thn (ha pos pins s σ H _ I h) fun us s1 ⟨vs, H1, I1, r1, q1⟩ => ?_) hs rfl))
  obtain ⟨j, e, q1, q2, q⟩ := q1
  subst e
  cases r1 with
  | cons r rr =>
    cases rr
    obtain ⟨t, rfl⟩ := r
    exact call_range_1 (range_it I1 (by omega) (by omega) q1 q2 (by simpa using q))
theorem pi_range2 {a b : Expr} {ta : TA} {p pos : Pos} (hg : Gl X "range") (hm : X.mg "range" = none) (ha : PA X [a, b] ta) (hs : starEach [a, b] X.env = [(false, eval a X.env), (false, eval b X.env)] := by rfl) (hs2 : starEach [b] X.env = [(false, eval b X.env)] := by rfl) :
    PI X tg (.Call (.Name "range" p) [a, b] [] pos) (iRng2 ta) := by
  intro pins s σ H R I h
  refine Call_ (ld_blt I hg hm boot_range (PyProof.Rows.callWith_type1 (thn (ha pos pins s σ H _ I h) fun us s1 ⟨vs, H1, I1, r1, q1⟩ => ?_) (by rw [hs, hs2]) (by rw [hs2]; rfl)))
  obtain ⟨i, j, e, ⟨q1, q2, q3, q4⟩, q⟩ := q1
  subst e
  cases r1 with
  | cons r rr =>
    cases rr with
    | cons r' rr =>
      cases rr
      obtain ⟨t, rfl⟩ := r
      obtain ⟨t', rfl⟩ := r'
      exact call_range_2 (range_it I1 q1 q2 q3 q4 q)
def tFor (wi : TI) (g : TG) (tb : TS) : TS := fun D σ H => wi σ H fun J H1 => ∃ W : Nat → Nat → St → Hp → Prop, (∃ m, W 0 m σ H1) ∧ ∀ i m σ H, W i m σ H →
  (J.stop i H ∧ D.nx σ H) ∨ (J.go i H ∧ ∃ N : St → Hp → Prop, (∀ σ' H', N σ' H' → ∃ m', m' < m ∧ W (i + 1) m' σ' H') ∧ ∀ x H', J.yld i H x H' → g x σ H' fun σ2 H2 => tb { D with nx := N, ct := N, bk := D.nx } σ2 H2)
def pinsAt (fp : List Addr) (h : Heap) : List (Addr × Obj) := fp.filterMap fun b => (h.get? b).map fun o => (b, o)
theorem mem_pinsAt {fp : List Addr} {h : Heap} {b : Addr} {o : Obj} (hb : b ∈ fp) (e : h.get? b = some o) : (b, o) ∈ pinsAt fp h := List.mem_filterMap.mpr ⟨b, hb, by rw [e]; rfl⟩
theorem of_pinsAt {fp : List Addr} {h : Heap} {p : Addr × Obj} (hp : p ∈ pinsAt fp h) : p.1 ∈ fp ∧ h.get? p.1 = some p.2 := by
  obtain ⟨b, hb, e⟩ := List.mem_filterMap.mp hp
  cases q : h.get? b with
  | none => rw [q] at e; cases e
  | some o =>
    rw [q] at e
    have e' : (b, o) = p := Option.some.inj e
    subst e'
    exact ⟨hb, q⟩
theorem Inv.pinned {pins : List (Addr × Obj)} {σ : St} {H : Hp} {s : Shared} {fp : List Addr} (I : Inv X pins σ H s) (hf : ∀ b ∈ fp, FpOk X pins H b) (ho : ∀ b ∈ fp, ∃ o, s.heap.get? b = some o ∧ ∀ v, o.data ≠ .cell v) : Inv X (pins ++ pinsAt fp s.heap) σ H s :=
  I.pins_of fun p hp => (List.mem_append.mp hp).elim (fun z => I.pin p (List.mem_append_right _ z)) fun z => by
    obtain ⟨hb, e⟩ := of_pinsAt z
    obtain ⟨f0, f1, f2, _⟩ := hf p.1 hb
    obtain ⟨o, e', d⟩ := ho p.1 hb
    rw [e] at e'; cases e'
    exact ⟨e, f0, f1, f2, d⟩
theorem Inv.unpinned {pins pl : List (Addr × Obj)} {σ : St} {H : Hp} {s : Shared} (I : Inv X (pins ++ pl) σ H s) : Inv X pins σ H s := I.pins_of fun p hp => I.pin p (List.mem_append_right _ (List.mem_append_left _ hp))
theorem ps_for {iter : Expr} {body : List Stmt} {wi : TI} {g : TG} {tb : TS} {pos : Pos} (hp : PassesOwn (model X.prog X.w) X.A X.env X.xe) (hc : X.calm = true) (hi : PI X tg iter wi) (hg : PG X tg g) (hb : PSs X body tb)
    (hs : ∀ x, foldedSetIterable iter X.env x = pure x := by intro _; rfl) : PS X (.For tg iter body [] pos) (tFor wi g tb) := by
  intro pins s σ H D I h
  refine wpAny_For (thn (hi pins s σ H _ I h) fun v s1 h1 => thn h1 fun itv s2 h2 => ?_) hs
  obtain ⟨it, fp, tn, J, H2, e, I2, T, st2, f2, W, ⟨m0, w0⟩, turn⟩ := h2
  subst e
  have stat : ∀ {H' : Hp}, (∀ b ∈ fp, H' b = none) → ∀ b ∈ fp, FpOk X pins H' b := fun hn b hb => ⟨hn b hb, (f2 b hb).2⟩
  refine codeAny_forLoop_any (fun n s' => ∃ i σ' H', Inv X pins σ' H' s' ∧ tn i s'.heap ∧ (∀ b ∈ fp, H' b = none) ∧ W i n σ' H') ?_ m0 ⟨0, σ, H2, I2, st2, fun b hb => (f2 b hb).1, w0⟩
  rintro n s3 ⟨i, σ3, H3, I3, st3, fr3, w3⟩
  rcases turn i n σ3 H3 w3 with ⟨stop, qn⟩ | ⟨go, N, hN, step⟩
  · refine wpAny_passesOwn hp (thn (T.done X rfl rfl rfl hc i pins s3 σ3 H3 X.xe I3 (stat fr3) st3 stop) fun r s4 ⟨hr, I4⟩ => ?_)
    subst hr
    exact wpAny_execs_nil ⟨σ3, H3, I4, qn⟩
  · refine wpAny_passesOwn hp (thn (T.item X rfl rfl rfl hc i pins s3 σ3 H3 X.xe I3 (stat fr3) st3 go) fun r s4 ⟨u, hr, h4⟩ => ?_)
    subst hr
    refine wpAny_passesOwn hp (thn h4 fun _ s5 ⟨x, H5, I5, r5, y5, st5, fr5⟩ => ?_)
    have I5' := I5.pinned (stat fr5) (T.obj _ _ st5)
    refine wpAny_passesOwn hp (thn (hg _ s5 σ3 H5 x u _ I5' r5 (step x H5 y5)) fun _ s6 ⟨σ6, H6, I6, q6⟩ => ?_)
    refine wpAny_passesOwn hp (thn (hb _ s6 σ6 H6 _ I6 q6) fun f s7 q7 => ?_)
    have again : ∀ {σ7 : St} {H7 : Hp}, Inv X (pins ++ pinsAt fp s5.heap) σ7 H7 s7 → N σ7 H7 → ∃ m, m < n ∧ ∃ i σ' H', Inv X pins σ' H' s7 ∧ tn i s7.heap ∧ (∀ b ∈ fp, H' b = none) ∧ W i m σ' H' := fun {σ7 H7} I7 n7 => by
      obtain ⟨m', hm, w7⟩ := hN σ7 H7 n7
      refine ⟨m', hm, i + 1, σ7, H7, I7.unpinned, T.keep _ _ _ st5 fun b hb o e => (I7.pin (b, o) (List.mem_append_right _ (List.mem_append_right _ (mem_pinsAt hb e)))).1, fun b hb => ?_, w7⟩
      obtain ⟨o, e, d⟩ := T.obj _ _ st5 b hb
      exact (I7.pin (b, o) (List.mem_append_right _ (List.mem_append_right _ (mem_pinsAt hb e)))).2.1
    cases f with
    | next => obtain ⟨σ7, H7, I7, n7⟩ := q7; exact again I7 n7
    | cont => obtain ⟨σ7, H7, I7, n7⟩ := q7; exact again I7 n7
    | brk => obtain ⟨σ7, H7, I7, q7⟩ := q7; exact ⟨σ7, H7, I7.unpinned, q7⟩
    | ret v => obtain ⟨x7, σ7, H7, I7, r7, q7⟩ := q7; exact ⟨x7, σ7, H7, I7.unpinned, r7, q7⟩
end
theorem for_range {lo : Int} {n : Nat} {g : TG} {tb : TS} {D : Ends} {σ : St} {H : Hp} (Pv : Nat → St → Hp → Prop) (h0 : Pv 0 σ H)
    (hs : ∀ i σ H, i < n → Pv i σ H → g (.int (lo + i)) σ H fun σ2 H2 => tb { D with nx := Pv (i + 1), ct := Pv (i + 1), bk := D.nx } σ2 H2) (hd : ∀ σ H, Pv n σ H → D.nx σ H) :
    ∃ W : Nat → Nat → St → Hp → Prop, (∃ m, W 0 m σ H) ∧ ∀ i m σ H, W i m σ H →
      ((Itr lo n).stop i H ∧ D.nx σ H) ∨ ((Itr lo n).go i H ∧ ∃ N : St → Hp → Prop, (∀ σ' H', N σ' H' → ∃ m', m' < m ∧ W (i + 1) m' σ' H') ∧ ∀ x H', (Itr lo n).yld i H x H' → g x σ H' fun σ2 H2 => tb { D with nx := N, ct := N, bk := D.nx } σ2 H2) := by
  refine ⟨fun i m σ H => m = n - i ∧ i ≤ n ∧ Pv i σ H, ⟨n, by simp, Nat.zero_le _, h0⟩, ?_⟩
  rintro i m σ H ⟨rfl, hi, p⟩
  by_cases hlt : i < n
  · refine .inr ⟨hlt, Pv (i + 1), fun σ' H' p' => ⟨n - (i + 1), by omega, rfl, hlt, p'⟩, fun x H' y => ?_⟩
    obtain ⟨e, y⟩ := y
    subst e y
    exact hs i σ _ hlt p
  · have e : i = n := by omega
    subst e
    exact .inl ⟨Nat.le_refl _, hd σ H p⟩
end L2
namespace L2
open PySem PySem.Spec PyProof.Rows
abbrev R2 := V → V → Hp → VK → Prop
def OpR (X : Cx) (f : Value → Value → Sem Value) (r : R2) : Prop :=
  ∀ (pins : List (Addr × Obj)) (s : Shared) (σ : St) (H : Hp) (x y : V) (v u : Value) (Q : VK), Inv X pins σ H s → RelV x v → RelV y u → r x y H Q →
    wpAny (model X.prog X.w) X.A (f v u) (EP X pins σ Q) X.xe s
def UnR (X : Cx) (f : Value → Sem Value) (r : V → Hp → VK → Prop) : Prop :=
  ∀ (pins : List (Addr × Obj)) (s : Shared) (σ : St) (H : Hp) (x : V) (v : Value) (Q : VK), Inv X pins σ H s → RelV x v → r x H Q →
    wpAny (model X.prog X.w) X.A (f v) (EP X pins σ Q) X.xe s
def CallR (X : Cx) (f : Value) (r : List V → Hp → VK → Prop) : Prop :=
  ∀ (pins : List (Addr × Obj)) (s : Shared) (σ : St) (H : Hp) (xs : List V) (us : List Value) (Q : VK), Inv X pins σ H s → Vals xs us → r xs H Q →
    wpAny (model X.prog X.w) X.A (call f us) (EP X pins σ Q) X.xe s
def TruR (X : Cx) (r : V → Hp → (Bool → Hp → Prop) → Prop) : Prop :=
  ∀ (pins : List (Addr × Obj)) (s : Shared) (σ : St) (H : Hp) (x : V) (v : Value) (Q : Bool → Hp → Prop), Inv X pins σ H s → RelV x v → r x H Q →
    wpAny (model X.prog X.w) X.A (truthy v) (TP X pins σ Q) X.xe s
def tOp (r : R2) (ta tb : TE) : TE := fun σ H Q => ta σ H fun x H1 => tb σ H1 fun y H2 => r x y H2 Q
def tUn (r : V → Hp → VK → Prop) (ta : TE) : TE := fun σ H Q => ta σ H fun x H1 => r x H1 Q
def rI (C : Int → Int → Prop) (g : Int → Int → V) : R2 := fun x y H Q => ∃ i j, x = .int i ∧ y = .int j ∧ C i j ∧ Q (g i j) H
def rI0 (g : Int → Int → V) : R2 := fun x y H Q => ∃ i j, x = .int i ∧ y = .int j ∧ Q (g i j) H
def rU (g : Int → V) : V → Hp → VK → Prop := fun x H Q => ∃ i, x = .int i ∧ Q (g i) H
section
variable {X : Cx} {a b c : Expr} {ta tb tc : TE} {pos : Pos}
theorem binT (ha : PE X a ta) (hb : PE X b tb) {pins : List (Addr × Obj)} {s : Shared} {σ : St} {H : Hp} {R : V → V → Hp → Prop} (I : Inv X pins σ H s)
    (h : ta σ H fun x H1 => tb σ H1 fun y H2 => R x y H2) {Q : Value → Shared → Prop} {f : Value → Value → Sem Value}
    (hf : ∀ v u s2 x y H2, Inv X pins σ H2 s2 → RelV x v → RelV y u → R x y H2 → wpAny (model X.prog X.w) X.A (f v u) Q X.xe s2) :
    wpAny (model X.prog X.w) X.A (eval a X.env) (fun v s₁ => wpAny (model X.prog X.w) X.A (eval b X.env) (fun u s₂ => wpAny (model X.prog X.w) X.A (f v u) Q X.xe s₂) X.xe s₁) X.xe s := by
  refine thn (ha pins s σ H _ I h) fun v s1 ⟨x, H1, I1, r1, q1⟩ => ?_
  refine thn (hb pins s1 σ H1 _ I1 q1) fun u s2 ⟨y, H2, I2, r2, q2⟩ => ?_
  exact hf v u s2 x y H2 I2 r1 r2 q2
theorem pe_op {op : Operator} {r : R2} (ho : OpR X (binaryOp op) r) (ha : PE X a ta) (hb : PE X b tb) : PE X (.BinOp a op b pos) (tOp r ta tb) := by
  intro pins s σ H Q I h
  exact wpAny_BinOp (binT ha hb I h fun v u s2 x y H2 I2 rx ry q => ho pins s2 σ H2 x y v u Q I2 rx ry q)
theorem pe_un {op : UnaryOp} {r : V → Hp → VK → Prop} (ho : UnR X (unaryOp op) r) (ha : PE X a ta) : PE X (.UnaryOp op a pos) (tUn r ta) := by
  intro pins s σ H Q I h
  exact UnaryOp_ (thn (ha pins s σ H _ I h) fun v s1 ⟨x, H1, I1, r1, q1⟩ => ho pins s1 σ H1 x v Q I1 r1 q1)
theorem opI {f : Value → Value → Sem Value} {C : Int → Int → Prop} {g : Int → Int → Int}
    (rule : ∀ (i j : Int) (t u : Tok) (s : Shared) (Q : Value → Shared → Prop) (E : Value → Shared → Prop), C i j → Q (.int (g i j) s.toks) { s with toks := s.toks + 1 } → wpAny (model X.prog X.w) X.A (f (.int i t) (.int j u)) Q E s) :
    OpR X f (rI C fun i j => .int (g i j)) := by
  intro pins s σ H x y v u Q I rx ry h
  obtain ⟨i, j, rfl, rfl, hc, q⟩ := h
  obtain ⟨t, rfl⟩ := rx
  obtain ⟨t', rfl⟩ := ry
  exact rule i j t t' s _ _ hc ⟨.int (g i j), H, I.tok _, ⟨_, rfl⟩, q⟩
theorem opI0 {f : Value → Value → Sem Value} {g : Int → Int → Int}
    (rule : ∀ (i j : Int) (t u : Tok) (s : Shared) (Q : Value → Shared → Prop) (E : Value → Shared → Prop), Q (.int (g i j) s.toks) { s with toks := s.toks + 1 } → wpAny (model X.prog X.w) X.A (f (.int i t) (.int j u)) Q E s) :
    OpR X f (rI0 fun i j => .int (g i j)) := by
  intro pins s σ H x y v u Q I rx ry h
  obtain ⟨i, j, rfl, rfl, q⟩ := h
  obtain ⟨t, rfl⟩ := rx
  obtain ⟨t', rfl⟩ := ry
  exact rule i j t t' s _ _ ⟨.int (g i j), H, I.tok _, ⟨_, rfl⟩, q⟩
theorem opB0 {f : Value → Value → Sem Value} {g : Int → Int → Bool}
    (rule : ∀ (i j : Int) (t u : Tok) (s : Shared) (Q : Value → Shared → Prop) (E : Value → Shared → Prop), Q (.bool (g i j)) s → wpAny (model X.prog X.w) X.A (f (.int i t) (.int j u)) Q E s) :
    OpR X f (rI0 fun i j => .bl (g i j)) := by
  intro pins s σ H x y v u Q I rx ry h
  obtain ⟨i, j, rfl, rfl, q⟩ := h
  obtain ⟨t, rfl⟩ := rx
  obtain ⟨t', rfl⟩ := ry
  exact rule i j t t' s _ _ ⟨.bl (g i j), H, I, rfl, q⟩
def CPow (i j : Int) : Prop := 0 ≤ j ∧ j ≤ 1000000 ∧ i.natAbs < 2 ^ 64
def CMul (i j : Int) : Prop := (-(2 ^ 64) < i ∧ i < 2 ^ 64) ∨ (-(2 ^ 64) < j ∧ j < 2 ^ 64)
theorem CMul.ok {i j : Int} (h : CMul i j) : IntMulOk i j := by
  rcases h with ⟨h1, h2⟩ | ⟨h1, h2⟩
  · exact .of_left (intBits_le_64 h1 h2)
  · exact .of_right (intBits_le_64 h1 h2)
theorem op_add : OpR X (binaryOp .Add) (rI0 fun i j => .int (i + j)) := opI0 fun _ _ _ _ _ _ _ q => add_int q
theorem op_sub : OpR X (binaryOp .Sub) (rI0 fun i j => .int (i - j)) := opI0 fun _ _ _ _ _ _ _ q => sub_int q
theorem op_mod : OpR X (binaryOp .Mod) (rI (fun _ j => 0 < j) fun i j => .int (i % j)) := opI fun i j _ _ _ _ _ hc q => by
  have h1 : (0 : Int) < j := hc
  exact mod_int' (by omega) (by rw [Int.fmod_eq_emod_of_nonneg i (by omega)]; exact q)
theorem op_pow : OpR X (binaryOp .Pow) (rI CPow fun i j => .int (i ^ j.toNat)) := opI fun _ _ _ _ _ _ _ hc q => pow_int_small hc.1 hc.2.1 hc.2.2 q
theorem unI {f : Value → Sem Value} {g : Int → Int}
    (rule : ∀ (i : Int) (t : Tok) (s : Shared) (Q : Value → Shared → Prop) (E : Value → Shared → Prop), Q (.int (g i) s.toks) { s with toks := s.toks + 1 } → wpAny (model X.prog X.w) X.A (f (.int i t)) Q E s) :
    UnR X f (rU fun i => .int (g i)) := by
  intro pins s σ H x v Q I rx h
  obtain ⟨i, rfl, q⟩ := h
  obtain ⟨t, rfl⟩ := rx
  exact rule i t s _ _ ⟨.int (g i), H, I.tok _, ⟨_, rfl⟩, q⟩
theorem un_neg : UnR X (unaryOp .USub) (rU fun i => .int (-i)) := unI fun _ _ _ _ _ q => neg_int q
end
def scal : V → V → Bool
  | .non, .non => true | .non, .int _ => true | .int _, .non => true | .non, .bl _ => true | .bl _, .non => true | .non, .str _ => true | .str _, .non => true
  | .int _, .int _ => true | .bl _, .bl _ => true | .str _, .str _ => true | .byt _, .byt _ => true
  | .int _, .str _ => true | .str _, .int _ => true | .bl _, .str _ => true | .str _, .bl _ => true
  | _, _ => false
def rEq : R2 := fun x y H Q => scal x y = true ∧ Q (.bl (decide (x = y))) H
def rNe : R2 := fun x y H Q => scal x y = true ∧ Q (.bl (!decide (x = y))) H
theorem dec_int {i j : Int} : decide (V.int i = V.int j) = (i == j) := by
  rw [Bool.eq_iff_iff]
  simp
theorem dec_bl {i j : Bool} : decide (V.bl i = V.bl j) = (i == j) := by
  rw [Bool.eq_iff_iff]
  simp
theorem dec_str {i j : Str} : decide (V.str i = V.str j) = (i == j) := by
  rw [Bool.eq_iff_iff]
  simp
theorem dec_byt {i j : Array UInt8} : decide (V.byt i = V.byt j) = (i.toList == j.toList) := by
  rw [Bool.eq_iff_iff]
  cases i
  cases j
  simp
section
variable {X : Cx} {a b c : Expr} {ta tb tc : TE} {pos : Pos}
theorem fin_bl {pins : List (Addr × Obj)} {σ : St} {H : Hp} {s : Shared} {Q : VK} {k k' : Bool} (I : Inv X pins σ H s) (q : Q (.bl k) H) (e : k = k') : EP X pins σ Q (.bool k') s := by
  subst e
  exact ⟨.bl k, H, I, rfl, q⟩
theorem op_eq : OpR X (compareOp .Eq) rEq := by
  intro pins s σ H x y v u Q I rx ry h
  obtain ⟨hs, q⟩ := h
  cases x with
  | non =>
    cases rx
    cases y with
    | non => cases ry; exact PySem.EqNone.eq_none_none (fin_bl I q (by simp))
    | bl j => cases ry; exact PySem.EqNone.eq_none_bool (fin_bl I q (by simp))
    | int j => obtain ⟨t', rfl⟩ := ry; exact PySem.EqNone.eq_none_int (fin_bl I q (by simp))
    | str j => obtain ⟨t', rfl⟩ := ry; exact PySem.EqNone.eq_none_str (fin_bl I q (by simp))
    | _ => exact absurd (show false = true from hs) Bool.false_ne_true
  | bl i =>
    cases rx
    cases y with
    | non => cases ry; exact PySem.EqNone.eq_bool_none (fin_bl I q (by simp))
    | bl j => cases ry; exact eq_bool (fin_bl I q dec_bl)
    | str j => obtain ⟨t', rfl⟩ := ry; exact PySem.EqMixed.eq_bool_str (fin_bl I q (by simp))
    | _ => exact absurd (show false = true from hs) Bool.false_ne_true
  | int i =>
    obtain ⟨t, rfl⟩ := rx
    cases y with
    | non => cases ry; exact PySem.EqNone.eq_int_none (fin_bl I q (by simp))
    | int j => obtain ⟨t', rfl⟩ := ry; exact eq_int (fin_bl I q dec_int)
    | str j => obtain ⟨t', rfl⟩ := ry; exact PySem.EqMixed.eq_int_str (fin_bl I q (by simp))
    | _ => exact absurd (show false = true from hs) Bool.false_ne_true
  | str i =>
    obtain ⟨t, rfl⟩ := rx
    cases y with
    | non => cases ry; exact PySem.EqNone.eq_str_none (fin_bl I q (by simp))
    | bl j => cases ry; exact PySem.EqMixed.eq_str_bool (fin_bl I q (by simp))
    | int j => obtain ⟨t', rfl⟩ := ry; exact PySem.EqMixed.eq_str_int (fin_bl I q (by simp))
    | str j => obtain ⟨t', rfl⟩ := ry; exact eq_str (fin_bl I q dec_str)
    | _ => exact absurd (show false = true from hs) Bool.false_ne_true
  | byt i =>
    obtain ⟨t, rfl⟩ := rx
    cases y with
    | byt j => obtain ⟨t', rfl⟩ := ry; exact PySem.W.eq_bytes (fin_bl I q dec_byt)
    | _ => exact absurd (show false = true from hs) Bool.false_ne_true
  | _ => cases y <;> exact absurd (show false = true from hs) Bool.false_ne_true
theorem op_ne : OpR X (compareOp .NotEq) rNe := by
  intro pins s σ H x y v u Q I rx ry h
  obtain ⟨hs, q⟩ := h
  cases x with
  | non =>
    cases rx
    cases y with
    | non => cases ry; exact PySem.EqNone.ne_none_none (fin_bl I q (by simp))
    | bl j => cases ry; exact PySem.EqNone.ne_none_bool (fin_bl I q (by simp))
    | int j => obtain ⟨t', rfl⟩ := ry; exact PySem.EqNone.ne_none_int (fin_bl I q (by simp))
    | str j => obtain ⟨t', rfl⟩ := ry; exact PySem.EqNone.ne_none_str (fin_bl I q (by simp))
    | _ => exact absurd (show false = true from hs) Bool.false_ne_true
  | bl i =>
    cases rx
    cases y with
    | non => cases ry; exact PySem.EqNone.ne_bool_none (fin_bl I q (by simp))
    | bl j => cases ry; exact ne_bool (fin_bl I q (congrArg not dec_bl))
    | str j => obtain ⟨t', rfl⟩ := ry; exact PySem.EqMixed.ne_bool_str (fin_bl I q (by simp))
    | _ => exact absurd (show false = true from hs) Bool.false_ne_true
  | int i =>
    obtain ⟨t, rfl⟩ := rx
    cases y with
    | non => cases ry; exact PySem.EqNone.ne_int_none (fin_bl I q (by simp))
    | int j => obtain ⟨t', rfl⟩ := ry; exact ne_int (fin_bl I q (congrArg not dec_int))
    | str j => obtain ⟨t', rfl⟩ := ry; exact PySem.EqMixed.ne_int_str (fin_bl I q (by simp))
    | _ => exact absurd (show false = true from hs) Bool.false_ne_true
  | str i =>
    obtain ⟨t, rfl⟩ := rx
    cases y with
    | non => cases ry; exact PySem.EqNone.ne_str_none (fin_bl I q (by simp))
    | bl j => cases ry; exact PySem.EqMixed.ne_str_bool (fin_bl I q (by simp))
    | int j => obtain ⟨t', rfl⟩ := ry; exact PySem.EqMixed.ne_str_int (fin_bl I q (by simp))
    | str j => obtain ⟨t', rfl⟩ := ry; exact ne_str (fin_bl I q (congrArg not dec_str))
    | _ => exact absurd (show false = true from hs) Bool.false_ne_true
  | byt i =>
    obtain ⟨t, rfl⟩ := rx
    cases y with
    | byt j => obtain ⟨t', rfl⟩ := ry; exact PySem.W.ne_bytes (fin_bl I q (congrArg not dec_byt))
    | _ => exact absurd (show false = true from hs) Bool.false_ne_true
  | _ => cases y <;> exact absurd (show false = true from hs) Bool.false_ne_true
theorem op_lt : OpR X (compareOp .Lt) (rI0 fun i j => .bl (decide (i < j))) := opB0 fun _ _ _ _ _ _ _ q => lt_int q
theorem op_gt : OpR X (compareOp .Gt) (rI0 fun i j => .bl (decide (j < i))) := opB0 fun _ _ _ _ _ _ _ q => gt_int q
theorem op_ge : OpR X (compareOp .GtE) (rI0 fun i j => .bl (decide (j ≤ i))) := opB0 fun _ _ _ _ _ _ _ q => ge_int q
theorem OpR.or {f : Value → Value → Sem Value} {r r' : R2} (h : OpR X f r) (h' : OpR X f r') : OpR X f (fun x y H Q => r x y H Q ∨ r' x y H Q) := by
  intro pins s σ H x y v u Q I rx ry q
  rcases q with q | q
  · exact h pins s σ H x y v u Q I rx ry q
  · exact h' pins s σ H x y v u Q I rx ry q
theorem nomark (b : Expr) {op : CmpOp} (h : op ≠ .In := by decide) (h2 : op ≠ .NotIn := by decide) : behindInMarks op b = false := by
  have e1 : (op == CmpOp.In) = false := by cases op <;> first | rfl | exact absurd rfl h
  have e2 : (op == CmpOp.NotIn) = false := by cases op <;> first | rfl | exact absurd rfl h2
  cases b <;> simp [behindInMarks, e1, e2]
theorem pe_cmpR {op : CmpOp} {r : R2} (ho : OpR X (compareOp op) r) (ha : PE X a ta) (hb : PE X b tb) (hm : behindInMarks op b = false) : PE X (.Compare a [op] [b] pos) (tOp r ta tb) := by
  intro pins s σ H Q I h
  exact wpAny_Compare1 (binT ha hb I h fun v u s2 x y H2 I2 rx ry q => ho pins s2 σ H2 x y v u Q I2 rx ry q) hm
def tTest (t : TE) : TT := fun σ H Q => t σ H fun x H' => ∃ k, x = .bl k ∧ Q k H'
theorem pt_cmpR {op : CmpOp} {r : R2} (ho : OpR X (compareOp op) r) (ha : PE X a ta) (hb : PE X b tb) (hm : behindInMarks op b = false) : PT X (.Compare a [op] [b] pos) (tTest (tOp r ta tb)) := by
  intro pins s σ H Q I h
  refine wpAny_isTrue_Compare1 (thn (ha pins s σ H _ I h) fun v s1 ⟨x, H1, I1, r1, q1⟩ => thn (hb pins s1 σ H1 _ I1 q1) fun u s2 ⟨y, H2, I2, r2, q2⟩ =>
    thn (ho pins s2 σ H2 x y v u _ I2 r1 r2 q2) fun c s3 ⟨z, H3, I3, r3, k, e, q3⟩ => ?_) hm
  subst e
  cases r3
  exact wpAny_truthy_bool ⟨H3, I3, q3⟩
def tChain (r r' : R2) (ta tb tc : TE) : TE := fun σ H Q => ta σ H fun x H1 => tb σ H1 fun y H2 => r x y H2 fun z H3 => ∃ k, z = .bl k ∧
  (if k = true then tc σ H3 fun w' H4 => r' y w' H4 Q else Q (.bl false) H3)
theorem pe_chain {op op' : CmpOp} {r r' : R2} (ho : OpR X (compareOp op) r) (ho' : OpR X (compareOp op') r') (ha : PE X a ta) (hb : PE X b tb) (hc : PE X c tc)
    (hm : lastMarks [op, op'] [b, c] = false := by with_unfolding_all rfl) : PE X (.Compare a [op, op'] [b, c] pos) (tChain r r' ta tb tc) := by
  intro pins s σ H Q I h
  refine Compare_chain (thn (ha pins s σ H _ I h) fun v s1 ⟨x, H1, I1, r1, q1⟩ => chain_link (thn (hb pins s1 σ H1 _ I1 q1) fun u s2 ⟨y, H2, I2, r2, q2⟩ =>
    thn (ho pins s2 σ H2 x y v u _ I2 r1 r2 q2) fun d s3 ⟨z, H3, I3, r3, k, e, q3⟩ => ?_)) hm
  subst e
  cases r3
  refine wpAny_truthy_bool ?_
  cases k with
  | false => exact ite_ff ⟨.bl false, H3, I3, rfl, q3⟩
  | true => exact ite_tt (chain_last (thn (hc pins s3 σ H3 _ I3 q3) fun w' s4 ⟨z', H4, I4, r4, q4⟩ => ho' pins s4 σ H4 y z' u w' Q I4 r2 r4 q4))
def TruV (K : PySem.W.Frag) (x : V) (H : Hp) (k : Bool) : Prop :=
  match x with
  | .non => k = false
  | .bl b => k = b
  | .int i => k = (i != 0)
  | .str y => y.length ≤ sizeLine ∧ k = ((y.length : Int) != 0)
  | .byt y => y.size ≤ sizeLine ∧ k = ((y.size : Int) != 0)
  | .ref p => (∃ xs, SqL K H p xs ∧ k = !xs.isEmpty) ∨ (∃ xs, SqT K H p xs ∧ k = !xs.isEmpty) ∨ ∃ kvs, H p = some (.dK kvs) ∧ k = !kvs.isEmpty
  | _ => False
theorem isEmpty_kv {κ : Type} {kvs : List (κ × V)} {vs : List (κ × Value)} (r : KV kvs vs) : (!vs.isEmpty) = !kvs.isEmpty := by
  cases r <;> rfl
theorem isEmpty_of {xs : List V} {its : List Value} (r : Vals xs its) : (!its.toArray.isEmpty) = !xs.isEmpty := by
  cases r <;> simp
theorem line63 : (sizeLine : Nat) < 2 ^ 63 := by rw [sizeLine_eq]; decide
theorem tru_ok : TruR X (fun x H Q => ∃ k, TruV X.K x H k ∧ Q k H) := by
  intro pins s σ H x v Q I rx h
  obtain ⟨k, e, q⟩ := h
  have hl := line63
  have hs : sizeLine = 16777216 := sizeLine_eq
  cases x with
  | non =>
    cases rx
    have e' : k = false := e
    subst e'
    exact truthy_none ⟨H, I, q⟩
  | bl b =>
    cases rx
    have e' : k = b := e
    subst e'
    exact wpAny_truthy_bool ⟨H, I, q⟩
  | int i =>
    obtain ⟨t, rfl⟩ := rx
    have e' : k = (i != 0) := e
    subst e'
    exact PySem.P.truthy_int ⟨H, I, q⟩
  | str y =>
    obtain ⟨t, rfl⟩ := rx
    obtain ⟨hy, e'⟩ : y.length ≤ sizeLine ∧ k = ((y.length : Int) != 0) := e
    subst e'
    exact PySem.P.truthy_str (by omega) ⟨H, I.tok _, q⟩
  | byt y =>
    obtain ⟨t, rfl⟩ := rx
    obtain ⟨hy, e'⟩ : y.size ≤ sizeLine ∧ k = ((y.size : Int) != 0) := e
    subst e'
    exact PySem.W.truthy_bytes (by omega) ⟨H, I.tok _, q⟩
  | ref p =>
    cases rx
    have e' : (∃ xs, SqL X.K H p xs ∧ k = !xs.isEmpty) ∨ (∃ xs, SqT X.K H p xs ∧ k = !xs.isEmpty) ∨ ∃ kvs, H p = some (.dK kvs) ∧ k = !kvs.isEmpty := e
    rcases e' with ⟨xs, hx, e'⟩ | ⟨xs, hx, e'⟩ | ⟨kvs, hx, e'⟩
    · subst e'
      obtain ⟨its, r, pl, hz⟩ := I.list hx
      have hlen := r.length
      exact wpAny_truthy_list pl.isList (by simp only [List.size_toArray]; omega) ⟨H, I.tok _, by rw [isEmpty_of r]; exact q⟩
    · subst e'
      obtain ⟨its, r, pl, hz⟩ := I.tuple hx
      have hlen := r.length
      exact truthy_tuple pl (by simp only [List.size_toArray]; omega) ⟨H, I.tok _, by rw [isEmpty_of r]; exact q⟩
    · subst e'
      obtain ⟨hz, hS, vs, r, m⟩ : kvs.length ≤ sizeLine ∧ (p == sysModules) = false ∧ ∃ vs, KV kvs vs ∧ s.heap.DictOf (mixKind X.prog X.w) p vs := I.hok p _ hx
      have hlen : kvs.length = vs.length := Paired.length r
      exact wpAny_truthy_dict hS m (by omega) ⟨H, I.tok _, by rw [isEmpty_kv r]; exact q⟩
  | _ => exact (show False from e).elim
theorem pt_truth (ha : PE X a ta) (he : ∀ whole, isTrue a X.env whole = (do let v ← whole; standAt a.pos; holding [v] (truthy v))) :
    PT X a (fun σ H Q => ta σ H fun x H' => ∃ k, TruV X.K x H' k ∧ Q k H') := by
  intro pins s σ H Q I h
  exact isTrue_plain (thn (ha pins s σ H _ I h) fun v s1 ⟨x, H1, I1, r1, q1⟩ => tru_ok pins s1 σ H1 x v Q I1 r1 q1) (he _)
theorem op_add_str : OpR X (binaryOp .Add) (fun x y H Q => ∃ i j, x = .str i ∧ y = .str j ∧ i.length + j.length ≤ sizeLine ∧ Q (.str (i ++ j)) H) := by
  intro pins s σ H x y v u Q I rx ry h
  obtain ⟨i, j, rfl, rfl, hz, q⟩ := h
  obtain ⟨t, rfl⟩ := rx
  obtain ⟨t', rfl⟩ := ry
  exact add_str (fun t' tk => ⟨.str (i ++ j), H, I.tok _, ⟨_, rfl⟩, q⟩) hz
theorem vals1 {x : V} {us : List Value} (r : Vals [x] us) : ∃ u, us = [u] ∧ RelV x u := by
  cases r with
  | cons r1 r2 => cases r2; exact ⟨_, rfl, r1⟩
theorem vals2 {x y : V} {us : List Value} (r : Vals [x, y] us) : ∃ u w', us = [u, w'] ∧ RelV x u ∧ RelV y w' := by
  cases r with
  | cons r1 r2 =>
    cases r2 with
    | cons r3 r4 => cases r4; exact ⟨_, _, rfl, r1, r3⟩
theorem call_max2 (hc : X.calm = true) : CallR X (.builtin "max") (fun xs H Q => ∃ i j, xs = [.int i, .int j] ∧ Q (.int (if j > i then j else i)) H) := by
  intro pins s σ H xs us Q I r h
  obtain ⟨i, j, rfl, q⟩ := h
  obtain ⟨u, w', rfl, ⟨t, rfl⟩, ⟨t', rfl⟩⟩ := vals2 r
  refine max_two_ints (I.ok.hd hc) fun h' tk k => ⟨_, H, I.kept k, ?_, q⟩
  by_cases hj : j > i
  · rw [if_pos hj, if_pos hj]; exact ⟨_, rfl⟩
  · rw [if_neg hj, if_neg hj]; exact ⟨_, rfl⟩
theorem call_min2 (hc : X.calm = true) : CallR X (.builtin "min") (fun xs H Q => ∃ i j, xs = [.int i, .int j] ∧ Q (.int (if j < i then j else i)) H) := by
  intro pins s σ H xs us Q I r h
  obtain ⟨i, j, rfl, q⟩ := h
  obtain ⟨u, w', rfl, ⟨t, rfl⟩, ⟨t', rfl⟩⟩ := vals2 r
  refine min_two_ints (I.ok.hd hc) fun h' tk k => ⟨_, H, I.kept k, ?_, q⟩
  by_cases hj : j < i
  · rw [if_pos hj, if_pos hj]; exact ⟨_, rfl⟩
  · rw [if_neg hj, if_neg hj]; exact ⟨_, rfl⟩
def LenV (K : PySem.W.Frag) (x : V) (H : Hp) (n : Nat) : Prop :=
  match x with
  | .str y => y.length ≤ sizeLine ∧ n = y.length
  | .byt y => y.size ≤ sizeLine ∧ n = y.size
  | .ref p => (∃ xs, SqL K H p xs ∧ n = xs.length) ∨ ∃ xs, SqT K H p xs ∧ n = xs.length
  | _ => False
theorem call_len : CallR X (.builtin "len") (fun xs H Q => ∃ x n, xs = [x] ∧ LenV X.K x H n ∧ Q (.int n) H) := by
  intro pins s σ H xs us Q I r h
  obtain ⟨x, n, rfl, e, q⟩ := h
  obtain ⟨u, rfl, rx⟩ := vals1 r
  have hl := line63
  have hs : sizeLine = 16777216 := sizeLine_eq
  cases x with
  | str y =>
    obtain ⟨t, rfl⟩ := rx
    obtain ⟨hy, e'⟩ : y.length ≤ sizeLine ∧ n = y.length := e
    subst e'
    exact len_str (by omega) ⟨.int _, H, I.tok _, ⟨_, rfl⟩, q⟩
  | byt y =>
    obtain ⟨t, rfl⟩ := rx
    obtain ⟨hy, e'⟩ : y.size ≤ sizeLine ∧ n = y.size := e
    subst e'
    exact PySem.W.len_bytes (by omega) ⟨.int _, H, I.tok _, ⟨_, rfl⟩, q⟩
  | ref p =>
    cases rx
    have e' : (∃ xs, SqL X.K H p xs ∧ n = xs.length) ∨ ∃ xs, SqT X.K H p xs ∧ n = xs.length := e
    rcases e' with ⟨xs, hx, e'⟩ | ⟨xs, hx, e'⟩
    · subst e'
      obtain ⟨its, r', pl, hz⟩ := I.list hx
      have hlen := r'.length
      exact Calls.call_len_list pl.isList (by simp only [List.size_toArray]; omega) ⟨.int xs.length, H, I.tok _, ⟨_, by simp only [List.size_toArray]; rw [hlen]⟩, q⟩
    · subst e'
      obtain ⟨its, r', pl, hz⟩ := I.tuple hx
      have hlen := r'.length
      exact len_tuple pl (by simp only [List.size_toArray]; omega) ⟨.int xs.length, H, I.tok _, ⟨_, by simp only [List.size_toArray]; rw [hlen]⟩, q⟩
  | _ => exact (show False from e).elim
end
end L2
namespace L2
open PySem PySem.Spec PyProof.Rows
structure ObjM (h : Heap) (x dx C : Addr) (mA : Str → Option Value) : Prop where
  obj : h.get? x = some (PySem.W.instObj C dx)
  ns : h.Ns1 dx mA
  ne : dx ≠ x
theorem lookIn_ns {h : Heap} {dx : Addr} {mA : Str → Option Value} (n : h.Ns1 dx mA) : ∃ od, h.get? dx = some od ∧ ∀ name, PySem.W.lookIn name od = some (mA name) := by
  obtain ⟨o, es, ep, ho, hd, hk, _, hm⟩ := n
  refine ⟨o, ho, fun name => ?_⟩
  have e := hm name
  unfold nsFind findBy at e
  rw [← Array.find?_toList] at e
  unfold PySem.W.lookIn
  rw [hd]
  dsimp only
  split
  · rename_i y q
    rw [q] at e
    exact congrArg some e
  · rename_i q
    rw [q] at e
    have a : es.toList.any (·.refKey) = false := by
      rw [List.any_eq_false]
      intro y hy
      obtain ⟨z, t, hkey⟩ := hk y (Array.mem_toList_iff.mp hy)
      simp [DictEntry.refKey, hkey]
    have a' : ¬ es.toList.any (·.refKey) = true := by rw [a]; exact Bool.false_ne_true
    rw [if_neg a']
    exact congrArg some e
theorem ObjM.look {h : Heap} {x dx C : Addr} {mA : Str → Option Value} (I : ObjM h x dx C mA) : ∃ od, PySem.W.InstAt h x (PySem.W.instObj C dx) C (some od) ∧ ∀ name, PySem.W.lookIn name od = some (mA name) :=
  let ⟨od, ho, hl⟩ := lookIn_ns I.ns
  ⟨od, ⟨I.obj, rfl, rfl, ho⟩, hl⟩
section
variable {prog : Program} {w : World} {A : Around} {E : Value → Shared → Prop} {s : Shared} {K : PySem.W.Frag} {x dx C f : Addr} {mA : Str → Option Value} {name : Str} {v : Value}
theorem get_map {expr : Bool} {Q : Value → Shared → Prop} (X : K.In s.heap) (I : ObjM s.heap x dx C mA) (hg : PySem.W.plainGet K C name = true) (hh : PySem.W.hasDictIn K C = true)
    (ha : PySem.W.findIn K (.ref C) name = some none) (hv : mA name = some v) (hv' : PySem.W.handedIn v = true) (h : Q v { s with toks := s.toks + 1 }) :
    wpAny (model prog w) A (getAttr (.ref x) name expr) Q E s := by
  obtain ⟨od, J, hl⟩ := I.look
  exact PySem.W.get_value X J (PySem.W.plainGet_of hg).1 (PySem.W.findObj_own hh ha rfl (by rw [hl, hv])) hv' h
theorem get_meth {pl : Sem Bool} {Q : Value × List Value → Shared → Prop} (X : K.In s.heap) (I : ObjM s.heap x dx C mA) (hg : PySem.W.plainGet K C name = true)
    (hf : PySem.W.findIn K (.ref C) name = some (some (.ref f))) (ht : PySem.W.isFn K (.ref f) = true) (hv : mA name = none) (h : Q (.ref f, [.ref x]) s) :
    wpAny (model prog w) A (getMethod (.ref x) name pl) Q E s := by
  obtain ⟨od, J, hl⟩ := I.look
  exact PySem.W.method_fn X J (PySem.W.plainGet_of hg).1 (PySem.W.plainGet_of hg).2 hf (beq_iff_eq.mp ht) (by show (PySem.W.lookIn name od).map (·.isSome) = some false; rw [hl, hv]; rfl) h
theorem set_map {ns : List Str} {Q : Unit → Shared → Prop} (X : K.In s.heap) (I : ObjM s.heap x dx C mA)
    (hs : PySem.W.findIn K (.ref C) "__setattr__" = some (some (.builtin "object.__setattr__"))) (hp : PySem.W.plainOver K C = true) (ht : PySem.W.takerIn K C name = some none) (hh : PySem.W.hasDictIn K C = true)
    (hw : PySem.Within mA ns) (hsz : ns.length ≤ sizeLine)
    (h : ∀ h', ObjM h' x dx C (fun y => if y = name then some v else mA y) → Heap.SameBut dx s.heap h' → Q () { s with heap := h', toks := s.toks + 2 }) :
    wpAny (model prog w) A (setAttr (.ref x) name v) Q E s := by
  obtain ⟨od, J, hl⟩ := I.look
  refine PySem.W.set_plain X J hs (PySem.W.osa_open (s := { s with toks := s.toks + 1 }) (r := none) X J hp ht fun b => ?_)
  obtain ⟨cd, hc, hd'⟩ := PySem.W.any_some hh
  have hx : s.heap.get? x = some ⟨.ref C, some dx, .plain, #[]⟩ := I.obj
  refine wpAny_bind (wpAny_pure (wpAny_bind (wpAny_bind (wpAny_loadPart hx (wpAny_bind (PySem.W.Looks.here (s := { s with toks := s.toks + 1 }) (PySem.W.looks_clsIn X hc) ?_))))))
  rw [hd']
  refine wpAny_pure (a := some dx) (wpAny_bind (wpAny_pure (wpAny_bind ?_)))
  refine wpAny_nsSet1 (s := { s with toks := s.toks + 1 }) I.ns fun h' hn2 hs2 => ?_
  obtain ⟨oD, esD, epD, hoD, hdD, hcD⟩ := hn2.count (PySem.Within.cons name v hw)
  refine wpAny_bind (wpAny_lookBehind hoD (by rw [hdD]; exact pastItsLine_dict (Nat.le_trans hcD (by rw [List.length_cons]; omega))) ?_)
  exact wpAny_pure (h _ ⟨(hs2.2 _ (Ne.symm I.ne)).trans I.obj, hn2, I.ne⟩ hs2)
theorem make_map {R : Result → Shared → Prop} {vs : List Value} {kw : List (Str × Value)} (X : K.In s.heap) (hm : PySem.W.makesIn K C = true)
    (hi : PySem.W.findIn K (.ref C) "__init__" = some (some (.ref f))) (hf : PySem.W.typeIn K (.ref f) = some (.type "function"))
    (h : codeAny (model prog w) (A.under (.builtin "type.__call__" ⟨.ref C :: vs, kw⟩)) (.call (.ref f) ⟨.ref (s.heap.objs.size + 1) :: vs, kw⟩) (PySem.W.InitBack (s.heap.objs.size + 1) R)
      { s with heap := (s.heap.push PySem.W.emptyDict).push (PySem.W.instObj C s.heap.objs.size) }) :
    codeAny (model prog w) A (.call (.ref C) ⟨vs, kw⟩) R s := by
  obtain ⟨hh, g, d, t, os⟩ := s
  exact PySem.W.make_core (PySem.W.makes_of X hm) (PySem.W.looks_findIn X hi) (fun self => PySem.W.bind_fn X self hf) (.inl rfl) h
end
def putF (f : Str) (v : V) : List (Str × V) → List (Str × V)
  | [] => [(f, v)]
  | (g, x) :: r => if g = f then (g, v) :: r else (g, x) :: putF f v r
theorem lookup_putF (f g : Str) (v : V) : ∀ fs : List (Str × V), (putF f v fs).lookup g = if g = f then some v else fs.lookup g
  | [] => by
    show List.lookup g [(f, v)] = _
    by_cases h : g = f
    · have hb : (g == f) = true := beq_iff_eq.mpr h
      simp only [List.lookup, hb, if_pos h]
    · have hb : (g == f) = false := beq_eq_false_iff_ne.mpr h
      simp only [List.lookup, hb, if_neg h]
  | (k, x) :: r => by
    have ih := lookup_putF f g v r
    rw [show putF f v ((k, x) :: r) = (if k = f then (k, v) :: r else (k, x) :: putF f v r) from rfl]
    by_cases hk : k = f
    · rw [if_pos hk]
      by_cases h : g = k
      · have hb : (g == k) = true := beq_iff_eq.mpr h
        simp only [List.lookup, hb, if_pos (h.trans hk)]
      · have hb : (g == k) = false := beq_eq_false_iff_ne.mpr h
        simp only [List.lookup, hb, if_neg (fun e : g = f => h (e.trans hk.symm))]
    · rw [if_neg hk]
      by_cases h : g = k
      · have hb : (g == k) = true := beq_iff_eq.mpr h
        simp only [List.lookup, hb, if_neg (fun e : g = f => hk (h.symm.trans e))]
      · have hb : (g == k) = false := beq_eq_false_iff_ne.mpr h
        simp only [List.lookup, hb]
        exact ih
theorem keys_putF (f : Str) (v : V) : ∀ fs : List (Str × V), f ∈ (putF f v fs).map (·.1) ∧ ∀ g, g ∈ fs.map (·.1) → g ∈ (putF f v fs).map (·.1)
  | [] => ⟨by simp [putF], fun g h => by simp at h⟩
  | (k, x) :: r => by
    obtain ⟨i1, i2⟩ := keys_putF f v r
    rw [show putF f v ((k, x) :: r) = (if k = f then (k, v) :: r else (k, x) :: putF f v r) from rfl]
    by_cases hk : k = f
    · rw [if_pos hk]
      subst hk
      exact ⟨by simp, fun g h => by simpa using h⟩
    · rw [if_neg hk]
      refine ⟨?_, fun g h => ?_⟩
      · rw [List.map_cons]
        exact List.mem_cons_of_mem _ i1
      · rw [List.map_cons] at h ⊢
        rcases List.mem_cons.mp h with e | e
        · exact List.mem_cons.mpr (.inl e)
        · exact List.mem_cons_of_mem _ (i2 g e)
theorem length_putF (f : Str) (v : V) : ∀ fs : List (Str × V), (putF f v fs).length ≤ fs.length + 1
  | [] => by simp [putF]
  | (k, x) :: r => by
    have ih := length_putF f v r
    rw [show putF f v ((k, x) :: r) = (if k = f then (k, v) :: r else (k, x) :: putF f v r) from rfl]
    by_cases hk : k = f
    · rw [if_pos hk, List.length_cons, List.length_cons]; omega
    · rw [if_neg hk, List.length_cons, List.length_cons]; omega
theorem RelO.some_of {v : V} {o : Option Value} (r : RelO (some v) o) : ∃ u, o = some u ∧ RelV v u := by
  cases o with
  | none => exact (show False from r).elim
  | some u => exact ⟨u, rfl, r⟩
theorem RelO.none_of {o : Option Value} (r : RelO none o) : o = none := by
  cases o with
  | none => rfl
  | some u => exact (show False from r).elim
theorem handed_of {v : V} {u : Value} (r : RelV v u) : PySem.W.handedIn u = true := by
  cases v with
  | non => cases (show u = Value.none from r); rfl
  | bl b => cases (show u = Value.bool b from r); rfl
  | int i => obtain ⟨t, e⟩ := (show ∃ t, u = Value.int i t from r); cases e; rfl
  | str x => obtain ⟨t, e⟩ := (show ∃ t, u = Value.str x t from r); cases e; rfl
  | byt b => obtain ⟨t, e⟩ := (show ∃ t, u = Value.bytes b t from r); cases e; rfl
  | flt b => obtain ⟨t, e⟩ := (show ∃ t, u = Value.float b t from r); cases e; rfl
  | ref a => cases (show u = Value.ref a from r); rfl
  | ty n => cases (show u = Value.type n from r); rfl
section
variable {P : Program} {w : World} {H H' : Hp} {h h' : Heap} {a C dx : Addr} {fs fs' : List (Str × V)}
theorem ins_get (hok : HOk P w H h) (e : H a = some (.ins C dx fs)) : ∃ mA, ObjM h a dx C mA ∧ (∀ f, RelO (fs.lookup f) (mA f)) ∧ PySem.Within mA (fs.map (·.1)) ∧ fs.length ≤ 1000 ∧ H dx = some (.own a) := by
  obtain ⟨d, z, ne, ob, mA, n, r, q⟩ := (show ObjOk P w H h a (.ins C dx fs) from hok a _ e)
  exact ⟨mA, ⟨ob, n, ne⟩, r, q, z, d⟩
end
structure Cls (K : PySem.W.Frag) (C : Addr) : Prop where
  pg : PySem.W.plainGet K C Str.empty = true
  hd : PySem.W.hasDictIn K C = true
  po : PySem.W.plainOver K C = true
  sa : PySem.W.findIn K (.ref C) "__setattr__" = some (some (.builtin "object.__setattr__"))
theorem Cls.get {K : PySem.W.Frag} {C : Addr} (c : Cls K C) (f : Str) : PySem.W.plainGet K C f = true := c.pg
def NoAttr (K : PySem.W.Frag) (C : Addr) (f : Str) : Prop := PySem.W.findIn K (.ref C) f = some none
theorem NoAttr.taker {K : PySem.W.Frag} {C : Addr} {f : Str} (n : NoAttr K C f) : PySem.W.takerIn K C f = some none := by
  unfold PySem.W.takerIn
  rw [show PySem.W.findIn K (.ref C) f = some none from n]
  rfl
structure Meth (K : PySem.W.Frag) (C : Addr) (m : Str) (f : Addr) : Prop where
  at_ : PySem.W.findIn K (.ref C) m = some (some (.ref f))
  fn : PySem.W.isFn K (.ref f) = true
  kp : PySem.W.keepIn K (.ref f) = true
section
variable {X : Cx} {pins : List (Addr × Obj)} {σ : St} {H : Hp} {s : Shared} {a C dx : Addr} {fs : List (Str × V)} {f : Str} {v : V} {A : Around} {E : Value → Shared → Prop}
theorem getattr_ok {b : Bool} {Q : Value → Shared → Prop} (I : Inv X pins σ H s) (e : H a = some (.ins C dx fs)) (c : Cls X.K C) (n : NoAttr X.K C f) (l : fs.lookup f = some v)
    (h : ∀ u s', Inv X pins σ H s' → RelV v u → Q u s') : wpAny (model X.prog X.w) A (getAttr (.ref a) f b) Q E s := by
  obtain ⟨mA, O, r, _, _, _⟩ := ins_get I.hok e
  obtain ⟨u, hu, ru⟩ := RelO.some_of (v := v) (o := mA f) (by rw [← l]; exact r f)
  exact get_map I.kIn O (c.get f) c.hd n hu (handed_of ru) (h u _ (I.tok _) ru)
theorem getmeth_ok {m : Str} {g : Addr} {pl : Sem Bool} {Q : Value × List Value → Shared → Prop} (I : Inv X pins σ H s) (e : H a = some (.ins C dx fs)) (c : Cls X.K C) (k : Meth X.K C m g) (l : fs.lookup m = none)
    (h : Q (.ref g, [.ref a]) s) : wpAny (model X.prog X.w) A (getMethod (.ref a) m pl) Q E s := by
  obtain ⟨mA, O, r, _, _, _⟩ := ins_get I.hok e
  have hn : mA m = none := RelO.none_of (by rw [← l]; exact r m)
  exact get_meth I.kIn O (c.get m) k.at_ k.fn hn h
theorem setattr_ok {y : V} {u : Value} {Q : Unit → Shared → Prop} (I : Inv X pins σ H s) (e : H a = some (.ins C dx fs)) (c : Cls X.K C) (n : NoAttr X.K C f) (hl : fs.length < 1000) (ry : RelV y u)
    (h : ∀ s', Inv X pins σ (upd H a (.ins C dx (putF f y fs))) s' → Q () s') : wpAny (model X.prog X.w) A (setAttr (.ref a) f u) Q E s := by
  obtain ⟨mA, O, r, wi, _, ho⟩ := ins_get I.hok e
  have hz : (fs.map (·.1)).length ≤ sizeLine := by rw [List.length_map, sizeLine_eq]; omega
  refine set_map I.kIn O c.sa c.po n.taker c.hd wi hz fun h' O' sb => h _ ?_
  have hd : ∃ o, h'.get? dx = some o := let ⟨o, _, _, e', _⟩ := O'.ns; ⟨o, e'⟩
  refine I.write (x := a) (e := dx) (by rw [e]; exact True.intro) (.inr ho) (fun b q hb z => (sb.2 b hb).trans z) hd ?_
  refine ⟨by rw [upd_ne O.ne]; exact ho, ?_, O.ne, O'.obj, _, O'.ns, fun g => ?_, fun g hg => ?_⟩
  · have := length_putF f y fs; omega
  · show RelO ((putF f y fs).lookup g) (if g = f then some u else mA g)
    rw [lookup_putF]
    by_cases q : g = f
    · rw [if_pos q, if_pos q]; exact ry
    · rw [if_neg q, if_neg q]; exact r g
  · by_cases q : g = f
    · rw [q]; exact (keys_putF f y fs).1
    · refine (keys_putF f y fs).2 g (wi g fun z => hg ?_)
      show (if g = f then some u else mA g) = none
      rw [if_neg q]; exact z
theorem Inv.made (I : Inv X pins σ H s) : Inv X pins σ (upd (upd H s.heap.objs.size (.own (s.heap.objs.size + 1))) (s.heap.objs.size + 1) (.ins C s.heap.objs.size []))
    { s with heap := (s.heap.push PySem.W.emptyDict).push (PySem.W.instObj C s.heap.objs.size) } := by
  have e1 : (s.heap.push PySem.W.emptyDict).get? s.heap.objs.size = some PySem.W.emptyDict := Heap.get?_push_size s.heap rfl
  have e2 : ((s.heap.push PySem.W.emptyDict).push (PySem.W.instObj C s.heap.objs.size)).get? (s.heap.objs.size + 1) = some (PySem.W.instObj C s.heap.objs.size) := by
    have := Heap.get?_push_size (s.heap.push PySem.W.emptyDict) (o := PySem.W.instObj C s.heap.objs.size) rfl
    rwa [Heap.size_push] at this
  have e3 : (s.heap.push PySem.W.emptyDict).Ns s.heap.objs.size (fun _ => none) := ⟨PySem.W.emptyDict, #[], _, e1, rfl, (fun e he => absurd he (by simp)), fun _ => rfl⟩
  have I1 := I.laid (a := s.heap.objs.size) (o := .own (s.heap.objs.size + 1)) (h' := s.heap.push PySem.W.emptyDict) (t' := s.toks) (fun b u q => Heap.get?_push_of_some _ q) (Nat.le_refl _) ⟨_, e1⟩
  refine I1.laid (a := s.heap.objs.size + 1) (o := .ins C s.heap.objs.size []) (t' := s.toks) (fun b u q => Heap.get?_push_of_some _ q) (Nat.le_of_eq (Heap.size_push _ _)) ?_
  have ne : s.heap.objs.size ≠ s.heap.objs.size + 1 := Nat.ne_of_lt (Nat.lt_succ_self _)
  refine ⟨by rw [upd_ne ne, upd_same], Nat.zero_le _, ne, e2, fun _ => none, (Heap.Ns1.of_empty e3).at fun o q => Heap.get?_push_of_some _ q, fun _ => True.intro, fun y hy => absurd rfl hy⟩
theorem attr_of {prog : Program} {w : World} {env : Env} {e : Expr} {f : Str} {pos : Pos} {s : Shared} {Q : Value → Shared → Prop} (hb : attributeBase e f env (eval e env) = eval e env)
    (h : wpAny (model prog w) A (eval e env) (fun o s₁ => wpAny (model prog w) A (getAttr o f true) Q E s₁) E s) : wpAny (model prog w) A (eval (.Attribute e f pos) env) Q E s :=
  Attribute_any_ h (by rw [arm_eval_Attribute, hb])
end
def tFld (K : PySem.W.Frag) (ta : TE) (f : Str) : TE := fun σ H Q => ta σ H fun x H1 => ∃ a C dx fs v, x = .ref a ∧ H1 a = some (.ins C dx fs) ∧ Cls K C ∧ NoAttr K C f ∧ fs.lookup f = some v ∧ Q v H1
def sFld (K : PySem.W.Frag) (ta tv : TE) (f : Str) : TS := fun D σ H => tv σ H fun y H1 => ta σ H1 fun x H2 => ∃ a C dx fs, x = .ref a ∧ H2 a = some (.ins C dx fs) ∧ Cls K C ∧ NoAttr K C f ∧ fs.length < 1000 ∧
  D.nx σ (upd H2 a (.ins C dx (putF f y fs)))
section
variable {X : Cx} {o e value : Expr} {f : Str} {pos pos' tpos : Pos} {ta tv : TE}
theorem pe_fld (he : PE X e ta) (hb : attributeBase e f X.env (eval e X.env) = eval e X.env) : PE X (.Attribute e f pos) (tFld X.K ta f) := by
  intro pins s σ H Q I h
  refine attr_of hb (thn (he pins s σ H _ I h) fun u s1 ⟨x, H1, I1, rx, a, C, dx, fs, v, ex, ea, c, n, l, q⟩ => ?_)
  subst ex
  obtain rfl : u = Value.ref a := rx
  exact getattr_ok I1 ea c n l fun u' s2 I2 ru => ⟨v, H1, I2, ru, q⟩
theorem ps_fld (ha : PE X o ta) (hv : PE X value tv) (hs : swapsWith value (some (.Attribute o f pos')) pos.line X.env = pure false) : PS X (.Assign [.Attribute o f pos'] value pos) (sFld X.K ta tv f) := by
  intro pins s σ H D I h
  refine plainObj_wpAny_Assign_Attribute (thn (hv pins s σ H _ I h) fun u s1 ⟨y, H1, I1, ry, q⟩ => thn (ha pins s1 σ H1 _ I1 q) fun ov s2 ⟨x, H2, I2, rx, a, C, dx, fs, ex, ea, c, n, l, q2⟩ => ?_) hs
  subst ex
  obtain rfl : ov = Value.ref a := rx
  exact setattr_ok I2 ea c n l ry fun s3 I3 => ⟨σ, _, I3, q2⟩
theorem methcall_of {pl : Sem Bool} {m : Str} {apos : Pos} {args : List Expr} {pins : List (Addr × Obj)} {s : Shared} {σ : St} {H : Hp} {Q : Value → Shared → Prop} {te : TE} (he : PE X e te) (I : Inv X pins σ H s)
    (h : te σ H fun x H1 => ∃ a C dx fs g, x = .ref a ∧ H1 a = some (.ins C dx fs) ∧ Cls X.K C ∧ Meth X.K C m g ∧ fs.lookup m = none ∧
      ∀ s1, Inv X pins σ H1 s1 → wpAny (model X.prog X.w) X.A (callWith pos (.ref g) [.ref a] (backTo pos (starEach args X.env)) (backToKw pos (keywordEach [] X.env))) Q X.xe s1)
    (ht : eval (.Call (.Attribute e m apos) args [] pos) X.env = (do
      let ov ← eval e X.env
      standAt apos.atName
      let (f, first) ← holding [ov] (getMethod ov m pl)
      callWith pos f first (backTo pos (starEach args X.env)) (backToKw pos (keywordEach [] X.env)))) :
    wpAny (model X.prog X.w) X.A (eval (.Call (.Attribute e m apos) args [] pos) X.env) Q X.xe s := by
  refine PySem.W.methodCall_KW (pl := pl) (thn (he pins s σ H _ I h) fun u s1 ⟨x, H1, I1, rx, a, C, dx, fs, g, ex, ea, c, k, l, q⟩ => ?_) ht
  subst ex
  obtain rfl : u = Value.ref a := rx
  exact getmeth_ok I1 ea c k l (q s1 I1)
end
section
variable {X : Cx} {pins : List (Addr × Obj)} {σ : St} {H : Hp} {s : Shared} {A : Around} {E : Value → Shared → Prop} {Q : Value → Shared → Prop} {c : Value} {b : Bool}
inductive TyOf (K : PySem.W.Frag) (H : Hp) : V → Value → Prop where
  | non : TyOf K H .non (.type "NoneType")
  | bl (x : Bool) : TyOf K H (.bl x) (.type "bool")
  | int (i : Int) : TyOf K H (.int i) (.type "int")
  | str (x : Str) : TyOf K H (.str x) (.type "str")
  | flt (x : UInt64) : TyOf K H (.flt x) (.type "float")
  | lst {a : Addr} {xs : List V} (e : H a = some (.lst xs)) : TyOf K H (.ref a) (.type "list")
  | frz {a : Addr} {o : Obj} {xs : List V} (e : H a = some (.frz o (.lst xs))) : TyOf K H (.ref a) (.type "list")
  | tup {a : Addr} {xs : List V} (e : H a = some (.tup xs)) : TyOf K H (.ref a) (.type "tuple")
  | dK {a : Addr} {kvs : List (Key × V)} (e : H a = some (.dK kvs)) : TyOf K H (.ref a) (.type "dict")
  | dT {a : Addr} {kvs : List (List Key × V)} (e : H a = some (.dT kvs)) : TyOf K H (.ref a) (.type "dict")
  | ins {a C dx : Addr} {fs : List (Str × V)} (e : H a = some (.ins C dx fs)) (cl : Cls K C) (ha : PySem.W.findIn K (.ref C) "__class__" = some (some (.builtin "object.__class__")))
      (hn : PySem.W.specialIn K (.builtin "object.__class__") "__get__" = some (some (.builtin "getset_descriptor.__get__"))) (htk : PySem.W.takesIn K (.builtin "object.__class__") = some true)
      (hm : PySem.W.mroIn K C (.type "object") = some true) : TyOf K H (.ref a) (.ref C)
theorem isinst_ok {x : V} {u t : Value} (I : Inv X pins σ H s) (rx : RelV x u) (ty : TyOf X.K H x t) (e : PySem.W.kitOne X.K t c = some b) (h : ∀ tk, Q (.bool b) { s with toks := tk }) :
    wpAny (model X.prog X.w) A (call (.builtin "isinstance") [u, c]) Q E s := by
  cases ty with
  | non => cases (show u = Value.none from rx); exact PySem.W.kia_one PySem.W.kitx_none I.kIn True.intro e (fun z => nomatch z) h
  | bl y => cases (show u = Value.bool y from rx); exact PySem.W.kia_one PySem.W.kitx_bool I.kIn True.intro e (fun z => nomatch z) h
  | int i => obtain ⟨t, q⟩ := (show ∃ t, u = Value.int i t from rx); cases q; exact PySem.W.kia_one PySem.W.kitx_int I.kIn True.intro e (fun z => nomatch z) h
  | str y => obtain ⟨t, q⟩ := (show ∃ t, u = Value.str y t from rx); cases q; exact PySem.W.kia_one PySem.W.kitx_str I.kIn True.intro e (fun z => nomatch z) h
  | flt y => obtain ⟨t, q⟩ := (show ∃ t, u = Value.float y t from rx); cases q; exact PySem.W.kia_one PySem.W.kitx_float I.kIn True.intro e (fun z => nomatch z) h
  | @lst a xs ea =>
    cases (show u = Value.ref a from rx)
    obtain ⟨_, _, n, _, h1⟩ := (show ObjOk X.prog X.w H s.heap a (.lst xs) from I.hok a _ ea)
    exact PySem.W.kia_one PySem.W.kitx_list I.kIn ⟨_, h1, rfl⟩ e (fun z => nomatch z) h
  | @frz a ob xs ea =>
    cases (show u = Value.ref a from rx)
    obtain ⟨_, _, _, n, _, h1⟩ := (show ObjOk X.prog X.w H s.heap a (.frz ob (.lst xs)) from I.hok a _ ea)
    exact PySem.W.kia_one PySem.W.kitx_list I.kIn ⟨_, h1, rfl⟩ e (fun z => nomatch z) h
  | @tup a xs ea =>
    cases (show u = Value.ref a from rx)
    obtain ⟨_, _, _, p⟩ := (show ObjOk X.prog X.w H s.heap a (.tup xs) from I.hok a _ ea)
    obtain ⟨o, h1, h2, _⟩ := p
    exact PySem.W.kia_one PySem.W.kitx_tuple I.kIn ⟨o, h1, h2⟩ e (fun z => nomatch z) h
  | @dK a kvs ea =>
    cases (show u = Value.ref a from rx)
    obtain ⟨_, _, vs, _, p⟩ := (show ObjOk X.prog X.w H s.heap a (.dK kvs) from I.hok a _ ea)
    obtain ⟨o, es, ep, h1, h2, _⟩ := p
    exact PySem.W.kia_one PySem.W.kitx_dict I.kIn ⟨o, h1, h2.1⟩ e (fun z => nomatch z) h
  | @dT a kvs ea =>
    cases (show u = Value.ref a from rx)
    obtain ⟨_, _, xs, _, o, es, ep, h1, h2, _⟩ := (show ObjOk X.prog X.w H s.heap a (.dT kvs) from I.hok a _ ea)
    exact PySem.W.kia_one PySem.W.kitx_dict I.kIn ⟨o, h1, h2.1⟩ e (fun z => nomatch z) h
  | @ins a C dx fs ea cl ha hn htk hm =>
    cases (show u = Value.ref a from rx)
    obtain ⟨mA, O, _⟩ := ins_get I.hok ea
    obtain ⟨od, J, _⟩ := O.look
    exact PySem.W.kia_one (PySem.W.kitx_own (cl.get _) cl.hd ha hn htk hm) I.kIn J e (fun z => nomatch z) h
end
end L2
namespace L2
open PySem PySem.Spec PyProof.Rows
structure Room (k : Nat) (A : Around) : Prop where
  hd : A.handled = none
  dp : A.depth + 3 * k + 5 < recursionLimit
  un : A.units + 16 * k + 200 < cLine
theorem Room.mono {j k : Nat} {A : Around} (r : Room k A) (h : j ≤ k) : Room j A := ⟨r.hd, by have := r.dp; omega, by have := r.un; omega⟩
theorem Room.deeper {k : Nat} {A : Around} (r : Room (k + 1) A) (env : Env) : Room k (A.deeper env) :=
  ⟨r.hd, by have := r.dp; show A.depth + 1 + 3 * k + 5 < _; omega, by have := r.un; show A.units + 3 + 16 * k + 200 < _; omega⟩
theorem make_depth {A : Around} {C : Addr} {us : List Value} {kw : List (Str × Value)} : (A.under (.builtin "type.__call__" ⟨.ref C :: us, kw⟩)).depth = A.depth + 1 := by
  first | rfl | simp [Around.under, Code.weight, Code.isCreation, Code.isGuard, Code.isCaller, Code.frames, Code.isFrame, guardIds]
theorem make_units {A : Around} {C : Addr} {us : List Value} {kw : List (Str × Value)} : (A.under (.builtin "type.__call__" ⟨.ref C :: us, kw⟩)).units = A.units + 1 := by
  first | rfl | simp [Around.under, Code.cUnits, Code.frames, Code.isFrame]
theorem Room.make {k : Nat} {A : Around} (r : Room (k + 1) A) (C : Addr) (us : List Value) (kw : List (Str × Value)) : Room k (A.under (.builtin "type.__call__" ⟨.ref C :: us, kw⟩)) :=
  ⟨r.hd, by have := r.dp; rw [make_depth]; omega, by have := r.un; rw [make_units]; omega⟩
theorem Room.depth {k : Nat} {A : Around} (r : Room k A) : A.depth < recursionLimit := by have := r.dp; omega
theorem Room.units {k : Nat} {A : Around} (r : Room k A) : A.units + 64 < cLine := by have := r.un; omega
def tNil : TA := fun _ H Q => Q [] H
def tCons (ta : TE) (tr : TA) : TA := fun σ H Q => ta σ H fun x H1 => tr σ H1 fun xs H2 => Q (x :: xs) H2
section
variable {X : Cx} {e : Expr} {es : List Expr} {te : TE} {t : TA} {pos : Pos}
theorem pa_nil : PA X [] tNil := fun _ _ _ _ H Q I h => Calls.spliced_nil ⟨[], H, I, .nil, h⟩
theorem pa_cons (ha : PE X e te) (hr : PA X es t) (hs : starEach (e :: es) X.env = (false, eval e X.env) :: starEach es X.env := by rfl) : PA X (e :: es) (tCons te t) := by
  intro pos pins s σ H Q I h
  rw [hs]
  show wpAny _ _ (spliced ((false, eval e X.env) :: backTo pos (starEach es X.env))) _ _ s
  refine Calls.spliced_cons (thn (ha pins s σ H _ I h) fun u s1 ⟨x, H1, I1, r1, q1⟩ => ?_)
  exact thn (hr pos pins s1 σ H1 _ I1 q1) fun us s2 ⟨xs, H2, I2, r2, q2⟩ => ⟨x :: xs, H2, I2, .cons r1 r2, q2⟩
def tTup (t : TA) : TE := fun σ H Q => t σ H fun xs H1 => xs.length ≤ sizeLine ∧ ∀ p, H1 p = none → Q (.ref p) (upd H1 p (.tup xs))
def tLst (t : TA) : TE := fun σ H Q => t σ H fun xs H1 => xs.length ≤ sizeLine ∧ ∀ p, H1 p = none → Q (.ref p) (upd H1 p (.lst xs))
theorem pe_tup {x1} (h : PA X es t) : PE X (.Tuple es x1 pos) (tTup t) := by
  intro pins s σ H Q I hq
  refine wpAny_Tuple_spliced (thn (h pos pins s σ H _ I hq) fun us s1 ⟨xs, H1, I1, r, z, q⟩ => ⟨by rw [← r.length]; exact z, ?_⟩)
  have hf : H1 s1.heap.objs.size = none := I1.hok.fresh (Nat.le_refl _)
  refine ⟨.ref s1.heap.objs.size, upd H1 s1.heap.objs.size (.tup xs), I1.laid (t' := s1.toks) (fun b u e => Heap.get?_push_of_some _ e) (Nat.le_refl _) ?_, rfl, q _ hf⟩
  exact ⟨z, us, r, ⟨_, Heap.get?_push_size _ rfl, rfl, _, rfl⟩⟩
theorem pe_lst (h : PA X es t) : PE X (.List es pos) (tLst t) := by
  intro pins s σ H Q I hq
  refine wpAny_List_spliced (thn (h pos pins s σ H _ I hq) fun us s1 ⟨xs, H1, I1, r, z, q⟩ => ⟨by rw [← r.length]; exact z, ?_⟩)
  have hf : H1 s1.heap.objs.size = none := I1.hok.fresh (Nat.le_refl _)
  refine ⟨.ref s1.heap.objs.size, upd H1 s1.heap.objs.size (.lst xs), I1.laid (t' := s1.toks) (fun b u e => Heap.get?_push_of_some _ e) (Nat.le_refl _) ?_, rfl, q _ hf⟩
  exact ⟨z, us, 0, r, Heap.get?_push_size _ rfl⟩
end
abbrev Sp := List V → Hp → VK → XK → Prop
abbrev CXT := List Env → Hp → Shared → XK → Value → Shared → Prop
structure Env0 (P : Program) (w : World) (K : PySem.W.Frag) (mg : Str → Option Value) (base : Heap) (A : Around) (outer : List Env) (s : Shared) (H : Hp) : Prop where
  frames : A.frames = some outer
  mod : Mod K mg base
  bs : ∀ b o, base.get? b = some o → s.heap.get? b = some o ∧ H b = none
  bsz : base.objs.size ≤ s.heap.objs.size
  funs : s.heap.FunFrames base outer
  frf : ∀ b ∈ frs outer, H b = none
  hok : HOk P w H s.heap
  bare : AllBare s.gens
def CE (outer : List Env) (P : Program) (w : World) (H : Hp) (s : Shared) (Q : VK) (u : Value) (s' : Shared) : Prop :=
  ∃ v H', s'.os = s.os ∧ AllBare s'.gens ∧ Un (frs outer) [] H H' s.heap s'.heap ∧ HOk P w H' s'.heap ∧ RelV v u ∧ Q v H'
def CR (CX : CXT) (outer : List Env) (P : Program) (w : World) (H : Hp) (s : Shared) (Q : VK) (E : XK) (r : Result) (s' : Shared) : Prop :=
  match r with
  | .ok (.ret u) => CE outer P w H s Q u s'
  | .ok _ => False
  | .error e => CX outer H s E e s'
structure FnOk (P : Program) (w : World) (K : PySem.W.Frag) (mg : Str → Option Value) (base : Heap) (CX : CXT) (k : Nat) (f : Addr) (fd : FuncData) (ps : List Str) (sp : Sp) : Prop where
  len : ∀ vs H Q E, sp vs H Q E → vs.length = ps.length
  run : ∀ (A : Around) (outer : List Env) (s : Shared) (H : Hp) (args : Args) (us : List Value) (vs : List V) (Q : VK) (E : XK), Room k A → Env0 P w K mg base A outer s H → BindsTo s fd args (ps.zip us) → Vals vs us → sp vs H Q E →
    codeAny (model P w) A (.call (.ref f) args) (CR CX outer P w H s Q E) s
theorem FnOk.mono {P : Program} {w : World} {K : PySem.W.Frag} {mg : Str → Option Value} {base : Heap} {CX : CXT} {j k : Nat} {f : Addr} {fd : FuncData} {ps : List Str} {sp : Sp} (F : FnOk P w K mg base CX j f fd ps sp) (h : j ≤ k) :
    FnOk P w K mg base CX k f fd ps sp := ⟨F.len, fun A outer s H args us vs Q E hr => F.run A outer s H args us vs Q E (hr.mono h)⟩
theorem Env0.make {P : Program} {w : World} {K : PySem.W.Frag} {mg : Str → Option Value} {base : Heap} {A : Around} {outer : List Env} {s : Shared} {H : Hp} (e : Env0 P w K mg base A outer s H) (C : Addr) (us : List Value) (kw : List (Str × Value)) :
    Env0 P w K mg base (A.under (.builtin "type.__call__" ⟨.ref C :: us, kw⟩)) outer s H := ⟨by first | exact e.frames | (simpa [Around.under, Code.envs, Code.isFrame, pushEnvs] using e.frames), e.mod, e.bs, e.bsz, e.funs, e.frf, e.hok, e.bare⟩
section
variable {X : Cx} {pins : List (Addr × Obj)} {σ : St} {H : Hp} {s s' : Shared}
theorem Inv.env0 (I : Inv X pins σ H s) : Env0 X.prog X.w X.K X.mg X.base X.A X.stack s H :=
  ⟨I.ok.frames, I.ok.mod, I.bs, Nat.le_trans I.ok.bsz I.sz, I.stack, I.stkFree, I.hok, I.bare⟩
theorem Inv.after {Q : VK} {u : Value} (I : Inv X pins σ H s) (h : CE X.stack X.prog X.w H s Q u s') : EP X pins σ Q u s' := by
  obtain ⟨v, H', os, bare, un, hok, r, q⟩ := h
  obtain ⟨hh, g, d, t, os'⟩ := s'
  obtain rfl : os' = s.os := os
  exact ⟨v, H', I.call (h' := hh) (g' := g) (d' := d) (t' := t) (ch := []) un hok bare (fun b z => absurd z (by simp)), r, q⟩
end
def tCall (sp : Sp) (dvs : List V) (E : XK) (t : TA) : TE := fun σ H Q => t σ H fun vs H1 => sp (vs ++ dvs) H1 Q E
def tMeth (C : Addr) (m : Str) (sp : Sp) (dvs : List V) (E : XK) (ta : TE) (t : TA) : TE := fun σ H Q => ta σ H fun x H1 => ∃ a dx fs, x = .ref a ∧ H1 a = some (.ins C dx fs) ∧ fs.lookup m = none ∧
  t σ H1 fun vs H2 => sp (x :: (vs ++ dvs)) H2 Q E
def tMake (C : Addr) (sp : Sp) (dvs : List V) (E : XK) (t : TA) : TE := fun σ H Q => t σ H fun vs H1 => ∀ x dx, H1 x = none → H1 dx = none → dx ≠ x →
  sp (.ref x :: (vs ++ dvs)) (upd (upd H1 dx (.own x)) x (.ins C dx [])) (fun v H2 => v = .non ∧ Q (.ref x) H2) E
def Binds (K : PySem.W.Frag) (fd : FuncData) (ps : List Str) (ds : List Value) : Prop :=
  ∀ (s : Shared) (us : List Value), K.In s.heap → (us ++ ds).length = ps.length → BindsTo s fd ⟨us, []⟩ (ps.zip (us ++ ds))
theorem Binds.all {K : PySem.W.Frag} {fd : FuncData} {ps : List Str} (h : ∀ us : List Value, us.length = ps.length → bindArgs fd ⟨us, []⟩ = pure (ps.zip us)) : Binds K fd ps [] := fun s us _ hl => by
  rw [List.append_nil] at hl ⊢
  exact .of_eq (h us hl)
def Passes (CX : CXT) (X : Cx) (E : XK) : Prop := ∀ (pins : List (Addr × Obj)) (σ : St) (H : Hp) (s : Shared) (e : Value) (s' : Shared), Inv X pins σ H s → CX X.stack H s E e s' → X.xe e s'
section
variable {X : Cx} {CX : CXT} {k : Nat} {f C : Addr} {fd : FuncData} {ps : List Str} {sp : Sp} {dvs : List V} {ds : List Value} {E : XK} {x m : Str} {p pos apos : Pos} {e o : Expr} {es : List Expr} {ta : TE} {t : TA}
theorem run_fn {pins : List (Addr × Obj)} {σ : St} {H : Hp} {s : Shared} {Q : VK} {us : List Value} {vs : List V} (F : FnOk X.prog X.w X.K X.mg X.base CX k f fd ps sp) (hr : Room k X.A) (hb : Binds X.K fd ps ds) (hd : Vals dvs ds) (hx : Passes CX X E)
    (I : Inv X pins σ H s) (r : Vals vs us) (h : sp (vs ++ dvs) H Q E) : wpAny (model X.prog X.w) X.A (call (.ref f) us) (EP X pins σ Q) X.xe s := by
  have r2 : Vals (vs ++ dvs) (us ++ ds) := r.append hd
  have hl : (us ++ ds).length = ps.length := by rw [← r2.length]; exact F.len _ _ _ _ h
  refine wpAny_call (codeAny_mono (F.run X.A X.stack s H ⟨us, []⟩ (us ++ ds) (vs ++ dvs) Q E hr I.env0 (hb s us I.kIn hl) r2 h) fun r s' hq => ?_)
  cases r with
  | error e => exact hx pins σ H s e s' I hq
  | ok fl =>
    cases fl with
    | ret u => exact I.after hq
    | next => exact False.elim hq
    | brk => exact False.elim hq
    | cont => exact False.elim hq
theorem pe_call (F : FnOk X.prog X.w X.K X.mg X.base CX k f fd ps sp) (hr : Room k X.A) (hg : Gl X x) (hm : X.mg x = some (.ref f)) (hk : PySem.W.keepIn X.K (.ref f) = true) (hb : Binds X.K fd ps ds) (hd : Vals dvs ds) (hx : Passes CX X E)
    (ha : PA X (e :: es) t) (hdb : (x == ("__debug__" : Str)) = false := by decide) (he : starEach (e :: es) X.env = (false, eval e X.env) :: starEach es X.env := by rfl) (hpl : (backTo pos (starEach es X.env)).any (·.1) = false := by rfl) :
    PE X (.Call (.Name x p) (e :: es) [] pos) (tCall sp dvs E t) := by
  intro pins s σ H Q I h
  refine wpAny_Call_Name_kw (ld_glob I hg hm ?_ hdb)
  refine PySem.W.callWith_K (h₀ := X.base) I.ok.mod.kin hk (thn (ha pos pins s σ H _ I h) fun us s1 ⟨vs, H1, I1, r, q⟩ => ⟨I1.kIn, ?_⟩) he hpl
  exact run_fn F hr hb hd hx I1 r q
theorem pe_meth {pl : Sem Bool} (he : PE X o ta) (c : Cls X.K C) (hm : Meth X.K C m f) (F : FnOk X.prog X.w X.K X.mg X.base CX k f fd ps sp) (hr : Room k X.A) (hb : Binds X.K fd ps ds) (hd : Vals dvs ds) (hx : Passes CX X E) (ha : PA X (e :: es) t)
    (hst : starEach (e :: es) X.env = (false, eval e X.env) :: starEach es X.env := by rfl) (hpl : (backTo pos (starEach es X.env)).any (·.1) = false := by rfl)
    (ht : eval (.Call (.Attribute o m apos) (e :: es) [] pos) X.env = (do
      let ov ← eval o X.env
      standAt apos.atName
      let (f, first) ← holding [ov] (getMethod ov m pl)
      callWith pos f first (backTo pos (starEach (e :: es) X.env)) (backToKw pos (keywordEach [] X.env))) := by rfl) :
    PE X (.Call (.Attribute o m apos) (e :: es) [] pos) (tMeth C m sp dvs E ta t) := by
  intro pins s σ H Q I h
  refine PySem.W.methodCall_KW (pl := pl) (thn (he pins s σ H _ I h) fun u s1 ⟨x, H1, I1, rx, a, dx, fs, ex, ea, l, q⟩ => ?_) ht
  subst ex
  obtain rfl : u = Value.ref a := rx
  refine getmeth_ok I1 ea c hm l ?_
  refine PySem.W.callWith_K (first := [.ref a]) (h₀ := X.base) I.ok.mod.kin hm.kp (thn (ha pos pins s1 σ H1 _ I1 q) fun us s2 ⟨vs, H2, I2, r, q2⟩ => ⟨I2.kIn, ?_⟩) hst hpl
  exact run_fn (us := .ref a :: us) (vs := .ref a :: vs) F hr hb hd hx I2 (.cons rfl r) q2
theorem pe_meth0 {pl : Sem Bool} (he : PE X o ta) (c : Cls X.K C) (hm : Meth X.K C m f) (F : FnOk X.prog X.w X.K X.mg X.base CX k f fd ps sp) (hr : Room k X.A) (hb : Binds X.K fd ps ds) (hd : Vals dvs ds) (hx : Passes CX X E)
    (ht : eval (.Call (.Attribute o m apos) [] [] pos) X.env = (do
      let ov ← eval o X.env
      standAt apos.atName
      let (f, first) ← holding [ov] (getMethod ov m pl)
      callWith pos f first (backTo pos (starEach [] X.env)) (backToKw pos (keywordEach [] X.env))) := by rfl) :
    PE X (.Call (.Attribute o m apos) [] [] pos) (tMeth C m sp dvs E ta tNil) := by
  intro pins s σ H Q I h
  refine PySem.W.methodCall_KW (pl := pl) (thn (he pins s σ H _ I h) fun u s1 ⟨x, H1, I1, rx, a, dx, fs, ex, ea, l, q⟩ => ?_) ht
  subst ex
  obtain rfl : u = Value.ref a := rx
  refine getmeth_ok I1 ea c hm l ?_
  exact PySem.W.callWith_K0 (first := [.ref a]) I1.kIn hm.kp (run_fn (us := [.ref a]) (vs := [.ref a]) F hr hb hd hx I1 (.cons rfl .nil) q)
structure Mk (K : PySem.W.Frag) (C f : Addr) : Prop where
  makes : PySem.W.makesIn K C = true
  init : PySem.W.findIn K (.ref C) "__init__" = some (some (.ref f))
  fn : PySem.W.isFn K (.ref f) = true
  kp : PySem.W.keepIn K (.ref C) = true
theorem run_make {pins : List (Addr × Obj)} {σ : St} {H : Hp} {s : Shared} {Q : VK} {us : List Value} {vs : List V} (M : Mk X.K C f) (F : FnOk X.prog X.w X.K X.mg X.base CX k f fd ps sp) (hr : Room (k + 1) X.A) (hb : Binds X.K fd ps ds) (hd : Vals dvs ds)
    (hx : Passes CX X E) (I : Inv X pins σ H s) (r : Vals vs us)
    (h : ∀ x dx, H x = none → H dx = none → dx ≠ x → sp (.ref x :: (vs ++ dvs)) (upd (upd H dx (.own x)) x (.ins C dx [])) (fun v H2 => v = .non ∧ Q (.ref x) H2) E) :
    wpAny (model X.prog X.w) X.A (call (.ref C) us) (EP X pins σ Q) X.xe s := by
  have hq := h (s.heap.objs.size + 1) s.heap.objs.size (I.hok.fresh (Nat.le_succ _)) (I.hok.fresh (Nat.le_refl _)) (Nat.ne_of_lt (Nat.lt_succ_self _))
  have I2 := Inv.made (C := C) I
  have r2 : Vals (V.ref (s.heap.objs.size + 1) :: (vs ++ dvs)) (Value.ref (s.heap.objs.size + 1) :: (us ++ ds)) := .cons rfl (r.append hd)
  have hl : (Value.ref (s.heap.objs.size + 1) :: us ++ ds).length = ps.length := by
    have e := r2.length
    rw [F.len _ _ _ _ hq] at e
    exact e.symm
  refine wpAny_call (make_map (f := f) I.kIn M.makes M.init (beq_iff_eq.mp M.fn) (codeAny_mono (F.run _ X.stack _ _ ⟨Value.ref (s.heap.objs.size + 1) :: us, []⟩ (Value.ref (s.heap.objs.size + 1) :: (us ++ ds)) _ _ E (hr.make C us [])
    (I2.env0.make C us []) (hb _ (Value.ref (s.heap.objs.size + 1) :: us) I2.kIn hl) r2 hq) fun r s' hq' => ?_))
  cases r with
  | error e => exact hx pins σ _ _ e s' I2 hq'
  | ok fl =>
    cases fl with
    | ret u =>
      obtain ⟨v, H', I3, rv, ev, q3⟩ := I2.after hq'
      subst ev
      exact ⟨rv, ⟨V.ref (s.heap.objs.size + 1), H', I3, rfl, q3⟩⟩
    | next => exact False.elim hq'
    | brk => exact False.elim hq'
    | cont => exact False.elim hq'
theorem pe_make0 (M : Mk X.K C f) (F : FnOk X.prog X.w X.K X.mg X.base CX k f fd ps sp) (hr : Room (k + 1) X.A) (hg : Gl X x) (hm : X.mg x = some (.ref C)) (hb : Binds X.K fd ps ds) (hd : Vals dvs ds) (hx : Passes CX X E)
    (hdb : (x == ("__debug__" : Str)) = false := by decide) : PE X (.Call (.Name x p) [] [] pos) (tMake C sp dvs E tNil) := by
  intro pins s σ H Q I h
  refine wpAny_Call_Name_kw (ld_glob I hg hm ?_ hdb)
  exact PySem.W.callWith_K0 I.kIn M.kp (run_make (us := []) M F hr hb hd hx I .nil h)
end
section
variable {X : Cx} {CX : CXT} {k : Nat} {f C : Addr} {fd : FuncData} {ps ks : List Str} {sp : Sp} {E : XK} {x m : Str} {p pos apos kpos : Pos} {e o : Expr} {es : List Expr} {kws : List Keyword} {te ta : TE} {t tk : TA} {nm : Option Str}
variable {g : List Value → List Value → List Value} {gV : List V → List V → List V}
end
structure FnScope (N P : List Str) (sc : Scope) : Prop where
  kind : sc.kind = .function
  co : sc.isCoroutine = false
  gen : sc.isGenerator = false
  nd : N.Nodup
  pre : N.take P.length = P
  par : ∀ x ∈ P, sc.names.lookup x = some .local ∨ sc.names.lookup x = some .cell
  nofree : ∀ y ∈ sc.names, y.2 ≠ .free
theorem bindL_out {kindOf : Str → Option NameKind} {x : Str} : ∀ {binds : List (Str × Value)} {m : Str → Option Value}, (∀ v, (x, v) ∉ binds) → bindL kindOf binds m x = m x
  | [], _, _ => rfl
  | (n, v) :: r, m, h => by
    unfold bindL
    rw [bindL_out fun w hw => h w (List.mem_cons_of_mem _ hw)]
    split
    · have : x ≠ n := by rintro rfl; exact h v List.mem_cons_self
      simp [this]
    · rfl
theorem bindC_out {kindOf : Str → Option NameKind} {x : Str} : ∀ {binds : List (Str × Value)} {m : Str → Option Value}, (∀ v, (x, v) ∉ binds) → bindC kindOf binds m x = m x
  | [], _, _ => rfl
  | (n, v) :: r, m, h => by
    unfold bindC
    rw [bindC_out fun w hw => h w (List.mem_cons_of_mem _ hw)]
    split
    · rfl
    · have : x ≠ n := by rintro rfl; exact h v List.mem_cons_self
      simp [this]
theorem bindL_get {kindOf : Str → Option NameKind} {x : Str} {v : Value} : ∀ {P : List Str} {vs : List Value} {i : Nat} {m : Str → Option Value}, P.Nodup → P[i]? = some x → vs[i]? = some v → kindOf x = some .local →
    bindL kindOf (P.zip vs) m x = some v
  | [], _, _, _, _, h, _, _ => by simp at h
  | _ :: _, [], _, _, _, _, h, _ => by simp at h
  | p :: P, w :: vs, 0, m, nd, h1, h2, hk => by
    simp at h1 h2; subst h1; subst h2
    show bindL kindOf ((p, w) :: P.zip vs) m p = _
    unfold bindL
    rw [bindL_out fun v hv => (List.nodup_cons.mp nd).1 (List.of_mem_zip hv).1, if_pos hk]
    simp
  | p :: P, w :: vs, i + 1, m, nd, h1, h2, hk => by
    show bindL kindOf ((p, w) :: P.zip vs) m x = _
    unfold bindL
    exact bindL_get (i := i) (List.nodup_cons.mp nd).2 (by simpa using h1) (by simpa using h2) hk
theorem bindC_get {kindOf : Str → Option NameKind} {x : Str} {v : Value} : ∀ {P : List Str} {vs : List Value} {i : Nat} {m : Str → Option Value}, P.Nodup → P[i]? = some x → vs[i]? = some v → kindOf x ≠ some .local →
    bindC kindOf (P.zip vs) m x = some v
  | [], _, _, _, _, h, _, _ => by simp at h
  | _ :: _, [], _, _, _, _, h, _ => by simp at h
  | p :: P, w :: vs, 0, m, nd, h1, h2, hk => by
    simp at h1 h2; subst h1; subst h2
    show bindC kindOf ((p, w) :: P.zip vs) m p = _
    unfold bindC
    rw [bindC_out fun v hv => (List.nodup_cons.mp nd).1 (List.of_mem_zip hv).1, if_neg hk]
    simp
  | p :: P, w :: vs, i + 1, m, nd, h1, h2, hk => by
    show bindC kindOf ((p, w) :: P.zip vs) m x = _
    unfold bindC
    exact bindC_get (i := i) (List.nodup_cons.mp nd).2 (by simpa using h1) (by simpa using h2) hk
def start (N : List Str) (vs : List V) : St := vs.map some ++ List.replicate (N.length - vs.length) none
def cxOf (CX : CXT) (P : Program) (w : World) (K : PySem.W.Frag) (mg : Str → Option Value) (base : Heap) (N : List Str) (qual : Str) (scope : Scope) (f : Addr) (cd : Value) (A : Around) (outer : List Env) (s : Shared) (H : Hp) (E : XK) : Cx where
  prog := P
  w := w
  K := K
  mg := mg
  base := base
  A := A.deeper (envOfC qual scope s.heap.objs.size f cd)
  N := N
  s₀ := s
  H₀ := H
  env := envOfC qual scope s.heap.objs.size f cd
  outer := outer
  stack := envOfC qual scope s.heap.objs.size f cd :: outer
  ex := []
  calm := true
  fn := fun _ => true
  pn := []
  xe := fun e s' => wpAny (model P w) (A.deeper (envOfC qual scope s.heap.objs.size f cd)) (leaving (envOfC qual scope s.heap.objs.size f cd) e) (fun _ s'' => CX outer H s E e s'') (fun e' s'' => CX outer H s E e' s'') s'
theorem cell_has {sc : Scope} {n : Nat} {x : Str} (h : sc.names.lookup x = some .cell) : ∃ c, (cellsFrom n sc.names []).lookup x = some c := by
  have q := PySem.W.cellsFrom_some sc.names n [] (.inl h)
  exact Option.isSome_iff_exists.mp q
theorem inv_start {CX : CXT} {P : Program} {w : World} {K : PySem.W.Frag} {mg : Str → Option Value} {base : Heap} {N ps : List Str} {qual : Str} {scope : Scope} {f : Addr} {cd : Value} {A : Around} {outer : List Env} {s s1 : Shared} {H : Hp} {E : XK} {us : List Value} {vs : List V}
    (S : FnScope N ps scope) (hd : A.handled = none) (e0 : Env0 P w K mg base A outer s H) (hl : vs.length = ps.length) (r : Vals vs us)
    (x : InCallC s s.heap.objs.size (bindL (envOfC qual scope s.heap.objs.size f cd).kindOf (ps.zip us) fun _ => none) (cellsFrom (s.heap.objs.size + 1) scope.names []) (bindC (envOfC qual scope s.heap.objs.size f cd).kindOf (ps.zip us) fun _ => none) s1) :
    Inv (cxOf CX P w K mg base N qual scope f cd A outer s H E) [] (start N vs) H s1 := by
  have hpl : ps.length ≤ N.length := by have := congrArg List.length S.pre; rw [List.length_take] at this; omega
  obtain ⟨h1, tk, rfl, hk⟩ := x.done
  have noA : ∀ b : Addr, b ∉ (cxOf CX P w K mg base N qual scope f cd A outer s H E).ex := fun b z => absurd (show b ∈ ([] : List Addr) from z) (by simp)
  refine ⟨⟨e0.mod, S.kind, rfl, rfl, Nat.le_refl _, fun y z c h1 h2 => ?_, fun y hy => ?_, fun y c _ h => ?_, fun _ => hd, Around.frames_deeper e0.frames, .inr ⟨rfl, rfl⟩, fun b z => absurd z (noA b), e0.bs, e0.bsz, fun b _ _ => noA b, fun b z => absurd z (noA b), e0.funs, e0.frf⟩,
    rfl, e0.bare, Un.kept hk, ⟨_, x.toInCall.ns, fun i y v h1 h2 h3 => ?_⟩, fun y c h => ⟨_, x.cell y c h⟩, e0.hok.fresh (Nat.le_refl _), fun y c h => ?_, fun p hp => absurd (show p ∈ ([] : List (Addr × Obj)) from hp) (by simp), e0.hok.kept hk, ?_⟩
  · exact name_of_addr x.apart (PySem.mem_of_lookup h1) (PySem.mem_of_lookup h2)
  · have hy : scope.names.lookup y = some .cell ∨ scope.names.lookup y = some .free := hy
    rcases hy with hy | hy
    · exact cell_has hy
    · exact absurd rfl (S.nofree _ (PySem.mem_of_lookup hy))
  · exact Nat.le_of_lt (x.above y c (PySem.mem_of_lookup h))
  · have hi : i < vs.length := by
      unfold start at h2
      by_cases hi : i < vs.length
      · exact hi
      · rw [List.getElem?_append_right (by simpa using hi)] at h2
        rw [List.getElem?_replicate] at h2
        split at h2 <;> cases h2
    have ha : vs[i]? = some v := by
      unfold start at h2
      rw [List.getElem?_append_left (by simpa using hi), List.getElem?_map] at h2
      cases e : vs[i]? with
      | none => rw [e] at h2; cases h2
      | some a => rw [e] at h2; cases h2; rfl
    obtain ⟨u, hu, rv⟩ := r.get ha
    have hp : ps[i]? = some y := by
      rw [← S.pre, List.getElem?_take_of_lt (by omega)]; exact h1
    have ndP : ps.Nodup := by rw [← S.pre]; exact S.nd.sublist (List.take_sublist _ _)
    refine ⟨u, rv, ?_⟩
    rcases S.par y (List.mem_of_getElem? hp) with k | k
    · exact .inl ⟨k, bindL_get ndP hp hu k⟩
    · obtain ⟨c, e⟩ := cell_has (n := s.heap.objs.size + 1) k
      refine .inr ⟨.inl k, c, e, ?_⟩
      have q := x.cell y c e
      rw [bindC_get ndP hp hu (by show scope.names.lookup y ≠ _; rw [k]; decide)] at q
      exact q
  · exact e0.hok.fresh (Nat.le_of_lt (x.above y c (PySem.mem_of_lookup h)))
  · unfold start
    show _ = N.length
    rw [List.length_append, List.length_map, List.length_replicate]
    omega
theorem fn_of {CX : CXT} {P : Program} {w : World} {K : PySem.W.Frag} {mg : Str → Option Value} {base : Heap} {k : Nat} {f : Addr} {name qual : Str} {params : Arguments} {body : List Stmt} {scope : Scope} {dV kV doc pm cdv ct oc : Value} {an od : Option Addr}
    {osl : Array (Option Value)} {N ps : List Str} {sp : Sp} (lk : K.lookup f = some ⟨oc, od, .func (PySem.W.fnOf name qual params body scope dV kV doc pm an cdv ct), osl⟩) (hcd : PySem.W.codeIn K cdv qual = true) (S : FnScope N ps scope)
    (len : ∀ vs H Q E, sp vs H Q E → vs.length = ps.length)
    (hbody : ∀ (A : Around) (outer : List Env) (s : Shared) (H : Hp) (vs : List V) (Q : VK) (E : XK), Room k (A.deeper (envOfC qual scope s.heap.objs.size f cdv)) → sp vs H Q E →
      ∃ t, PSs (cxOf CX P w K mg base N qual scope f cdv A outer s H E) body t ∧ t { nx := fun _ H' => Q .non H', rt := Q } (start N vs) H) :
    FnOk P w K mg base CX (k + 1) f (PySem.W.fnOf name qual params body scope dV kV doc pm an cdv ct) ps sp := by
  refine ⟨len, fun A outer s H args us vs Q E hr e0 hb r hsp => ?_⟩
  have hl := len _ _ _ _ hsp
  have KX : K.In s.heap := e0.mod.kin.keeps fun b o e => (e0.bs b o e).1
  have lim : s.heap.NoLimit := e0.mod.nolimit.keeps fun b o e => (e0.bs b o e).1
  have hkind : ∀ y ∈ ps.zip us, scope.names.lookup y.1 = some .local ∨ (scope.names.lookup y.1 = some .cell ∧ ((cellsFrom (s.heap.objs.size + 1) scope.names []).lookup y.1).isSome = true) := fun ⟨n, v⟩ hy => by
    rcases S.par n (List.of_mem_zip hy).1 with q | q
    · exact .inl q
    · exact .inr ⟨q, PySem.W.cellsFrom_some _ _ _ (.inl q)⟩
  refine codeAny_call_function hr.depth (KX _ _ lk) rfl S.co S.gen rfl (PySem.W.codeRec_of KX hcd) (hb _ _ _ _ ?_)
  refine wpAny_newFunctionEnv_cells S.kind hkind fun env he s1 x => ?_
  subst he
  refine ⟨lim.keeps x.toInCall.keep, codeAny_func ?_⟩
  obtain ⟨t, ht, hq⟩ := hbody A outer s H vs Q E (hr.deeper _) hsp
  have I : Inv (cxOf CX P w K mg base N qual scope f cdv A outer s H E) [] (start N vs) H s1 := inv_start S hr.hd e0 hl r x
  refine wpAny_mono (ht [] s1 (start N vs) H _ I hq) (fun fl s' hs => ?_) fun e s' hs => hs
  have fin : ∀ {σ' : St} {H' : Hp} {v : V} {u : Value}, Inv (cxOf CX P w K mg base N qual scope f cdv A outer s H E) [] σ' H' s' → RelV v u → Q v H' → CE outer P w H s Q u s' :=
    fun {σ' H' v u} J rv q => ⟨v, H', J.os, J.bare, J.base, J.hok, rv, q⟩
  cases fl with
  | ret u =>
    obtain ⟨v, σ', H', J, rv, q⟩ := hs
    exact fin J rv q
  | next =>
    obtain ⟨σ', H', J, q⟩ := hs
    exact fin (v := V.non) (u := Value.none) J rfl q
  | brk =>
    obtain ⟨_, _, _, q⟩ := hs
    exact False.elim q
  | cont =>
    obtain ⟨_, _, _, q⟩ := hs
    exact False.elim q
end L2
namespace L2
open PySem PySem.Spec PyProof.Rows
section
variable {X : Cx} {x : Str} {p pos : Pos} {e : Expr} {es : List Expr} {t : TA} {id T : String} {r : List V → Hp → VK → Prop}
def tCB (r : List V → Hp → VK → Prop) (t : TA) : TE := fun σ H Q => t σ H fun vs H1 => r vs H1 Q
theorem pe_callB (hc : CallR X (.builtin id) r) (hg : Gl X x) (hm : X.mg x = none) (hv : bootBuiltins x = some (.builtin id)) (ha : PA X (e :: es) t) (hn : x ≠ "__name__" := by decide) (hdb : (x == ("__debug__" : Str)) = false := by decide)
    (he : starEach (e :: es) X.env = (false, eval e X.env) :: starEach es X.env := by rfl) (hpl : (backTo pos (starEach es X.env)).any (·.1) = false := by rfl) : PE X (.Call (.Name x p) (e :: es) [] pos) (tCB r t) := by
  intro pins s σ H Q I h
  refine wpAny_Call_Name_kw (ld_blt I hg hm hv ?_ hn hdb)
  exact PyProof.Rows.callWith_builtin1 (thn (ha pos pins s σ H _ I h) fun us s1 ⟨vs, H1, I1, r1, q1⟩ => hc pins s1 σ H1 vs us Q I1 r1 q1) he hpl
theorem pe_callTy (hc : CallR X (.type T) r) (hg : Gl X x) (hm : X.mg x = none) (hv : bootBuiltins x = some (.type T)) (ha : PA X (e :: es) t) (hn : x ≠ "__name__" := by decide) (hdb : (x == ("__debug__" : Str)) = false := by decide)
    (he : starEach (e :: es) X.env = (false, eval e X.env) :: starEach es X.env := by rfl) (hpl : (backTo pos (starEach es X.env)).any (·.1) = false := by rfl) : PE X (.Call (.Name x p) (e :: es) [] pos) (tCB r t) := by
  intro pins s σ H Q I h
  refine wpAny_Call_Name_kw (ld_blt I hg hm hv ?_ hn hdb)
  exact PyProof.Rows.callWith_type1 (thn (ha pos pins s σ H _ I h) fun us s1 ⟨vs, H1, I1, r1, q1⟩ => hc pins s1 σ H1 vs us Q I1 r1 q1) he hpl
end
end L2
namespace HT
open PySem PyProof.Rows
section
open PySem.SeqAt
open PySem.AutoSeq1 (wpAny_loadPart')
open PySem.MeetsSeq PySem.MeetsSeq2 PySem.MeetsSeq3
end
section
variable {prog : Program} {w : World} {A : Around} {E : Value → Shared → Prop} {s : Shared}
theorem cat_tup {t b : Addr} {vs ws : List Value} {Q : Value → Shared → Prop} (ht : IsTup s.heap t vs.toArray) (hb : IsTup s.heap b ws.toArray) (hv : vs ≠ [])
    (h1 : ws = [] → Q (.ref t) s) (h2 : ws ≠ [] → Q (.ref s.heap.objs.size) { s with heap := s.heap.push { cls := .type "tuple", data := .seq (vs ++ ws).toArray } })
    (hsz : vs.length + ws.length ≤ sizeLine) : wpAny (model prog w) A (binaryOp .Add (.ref t) (.ref b)) Q E s := by
  obtain ⟨⟨cls, dd, data, sl⟩, ho, hc, n, hd⟩ := id ht
  obtain ⟨⟨cls2, dd2, data2, sl2⟩, ho2, hc2, n2, hd2⟩ := id hb
  simp only at hc hd hc2 hd2
  subst hc hd hc2 hd2
  have e : vs.toArray ++ ws.toArray = (vs ++ ws).toArray := by simp
  by_cases hw : ws = []
  · exact concat_meets ⟨_, ho, rfl⟩ ⟨_, ho2, rfl⟩ noFill_tuple_add seq_tuple_add PySem.F.slot_tuple_add PySem.F.entry_tuple_add (PySem.F.args_tuple_add_2 _ _)
      (tuple_addW1 t b vs.toArray ws.toArray n n2 dd dd2 sl sl2 (by simpa using hv) (by simp [hw])) ⟨ho, ho2, h1 hw⟩
  · refine concat_meets ⟨_, ho, rfl⟩ ⟨_, ho2, rfl⟩ noFill_tuple_add seq_tuple_add PySem.F.slot_tuple_add PySem.F.entry_tuple_add (PySem.F.args_tuple_add_2 _ _)
      (tuple_addW2 t b vs.toArray ws.toArray n n2 dd dd2 sl sl2 (by simpa using hv) (by simpa using hw) (by rw [List.size_toArray, List.size_toArray]; exact hsz)) ⟨ho, ho2, ?_⟩
    rw [e]
    exact h2 hw
def sIx (n d : Nat) : Option Int → Nat
  | none => d
  | some v => if v < 0 then (v + (n : Int)).toNat else min v.toNat n
theorem sIx_le (n d : Nat) (hd : d ≤ n) (o : Option Int) : sIx n d o ≤ n := by
  cases o with
  | none => exact hd
  | some v =>
    show (if v < 0 then (v + (n : Int)).toNat else min v.toNat n) ≤ n
    by_cases hv : v < 0
    · rw [if_pos hv]; omega
    · rw [if_neg hv]; exact Nat.min_le_right _ _
theorem clip_eq (v : Int) (n d : Nat) : (if v < 0 then max (v + (n : Int)) 0 else min v (n : Int)) = ((sIx n d (some v) : Nat) : Int) := by
  show (if v < 0 then max (v + (n : Int)) 0 else min v (n : Int)) = (((if v < 0 then (v + (n : Int)).toNat else min v.toNat n) : Nat) : Int)
  by_cases hv : v < 0
  · simp only [if_pos hv]; omega
  · simp only [if_neg hv]; omega
theorem adjust_gen (lo hi : Option Int) (n : Nat) : Builtin.Slice.sliceAdjust lo hi 1 (n : Int) = (((sIx n 0 lo : Nat) : Int), ((sIx n n hi : Nat) : Int)) := by
  have h1 : ¬ ((1 : Int) < 0) := by omega
  unfold Builtin.Slice.sliceAdjust
  simp only [h1, if_false]
  refine Prod.ext ?_ ?_
  · cases lo with
    | none => rfl
    | some v => exact clip_eq v n 0
  · cases hi with
    | none => rfl
    | some v => exact clip_eq v n n
theorem places_gen (i j : Nat) : Builtin.Slice.slicePlaces (i : Int) (j : Int) 1 = j - i := by
  unfold Builtin.Slice.slicePlaces
  have h1 : (1 : Int) > 0 := by omega
  simp only [h1, if_true, Int.ediv_one]
  split <;> omega
theorem slicePart_ {v : Value} {o : Option Int} {Q : Option Int → Shared → Prop} (p : IsPart v o) (h : Q o s) : wpAny (model prog w) A (Builtin.Slice.slicePartIndex v) Q E s := by
  cases p with
  | none => exact slicePart_none h
  | int i t => exact slicePart_int h
theorem sliceApplied_gen {sl : Addr} {vl vu : Value} {lo hi : Option Int} {n : Nat} {Q : Int × Int × Nat → Shared → Prop} (hs : s.heap.IsSliceOf sl vl vu .none) (pl : IsPart vl lo) (pu : IsPart vu hi)
    (h : Q (((sIx n 0 lo : Nat) : Int), 1, sIx n n hi - sIx n 0 lo) s) : wpAny (model prog w) A (Builtin.Slice.sliceApplied (.ref sl) (pure (n : Int))) Q E s := by
  obtain ⟨os, hos, hcs, hds⟩ := id hs
  unfold Builtin.Slice.sliceApplied Builtin.Slice.sliceFields
  refine wpAny_bind (wpAny_bind (wpAny_field hos hds (x := vl) rfl (wpAny_bind (wpAny_field hos hds (x := vu) rfl (wpAny_bind (wpAny_field hos hds (x := .none) rfl (wpAny_pure ?_)))))))
  refine wpAny_bind (slicePart_none ?_)
  show wpAny _ _ (if ((1 : Int) == 0) = true then _ else _) _ _ s
  rw [if_neg (by decide)]
  refine wpAny_bind (slicePart_ pl (wpAny_bind (slicePart_ pu (wpAny_bind (wpAny_pure ?_)))))
  show wpAny _ _ (match Builtin.Slice.sliceAdjust lo hi 1 (n : Int) with | (lo, hi) => pure (lo, (1 : Int), Builtin.Slice.slicePlaces lo hi 1)) _ _ s
  rw [adjust_gen lo hi n]
  show wpAny _ _ (pure (((sIx n 0 lo : Nat) : Int), (1 : Int), Builtin.Slice.slicePlaces ((sIx n 0 lo : Nat) : Int) ((sIx n n hi : Nat) : Int) 1)) _ _ s
  rw [places_gen]
  exact wpAny_pure h
theorem pick_gen (xs : Array Value) (i k : Nat) : ((List.range k).filterMap fun (m : Nat) => xs[((i : Int) + (m : Int) * 1).toNat]?).toArray = ((xs.toList.drop i).take k).toArray := by
  have e : (fun (m : Nat) => xs[((i : Int) + (m : Int) * 1).toNat]?) = fun m => xs[i + m]? := by
    funext m
    have : ((i : Int) + (m : Int) * 1).toNat = i + m := by omega
    rw [this]
  rw [e]
  have := pick_run xs i k
  rw [List.filterMap_map] at this
  have e2 : ((fun x => xs[x]?) ∘ fun x => i + x) = fun m => xs[i + m]? := rfl
  rw [e2] at this
  rw [this]
theorem getItem_tuple_cut {t sl : Addr} {items : Array Value} {vl vu : Value} {lo hi : Option Int} {Q : Value → Shared → Prop} (ht : IsTup s.heap t items) (hs : s.heap.IsSliceOf sl vl vu .none) (pl : IsPart vl lo) (pu : IsPart vu hi)
    (hw : ¬ (sIx items.size 0 lo = 0 ∧ sIx items.size items.size hi = items.size))
    (h : Q (.ref s.heap.objs.size) { s with heap := s.heap.push { cls := .type "tuple", data := .seq ((items.toList.drop (sIx items.size 0 lo)).take (sIx items.size items.size hi - sIx items.size 0 lo)).toArray } })
    (hsz : items.size ≤ sizeLine) : wpAny (model prog w) A (getItem (.ref t) (.ref sl)) Q E s := by
  have htake : sizeOk (.seq ((items.toList.drop (sIx items.size 0 lo)).take (sIx items.size items.size hi - sIx items.size 0 lo)).toArray) := by
    show ((items.toList.drop (sIx items.size 0 lo)).take (sIx items.size items.size hi - sIx items.size 0 lo)).toArray.size ≤ sizeLine
    rw [List.size_toArray, List.length_take, List.length_drop, Array.length_toList]
    omega
  have hj : sIx items.size items.size hi ≤ items.size := sIx_le _ _ (Nat.le_refl _) hi
  obtain ⟨os, hos, hcs, hds⟩ := id hs
  have hTs : s.TypeIs (.ref sl) "slice" := ⟨os, hos, hcs⟩
  unfold getItem
  try with_reducible refine wpAny_holding ?_
  first | refine wpAny_bind (wpAny_pure ?_) | skip
  refine wpAny_bind (wpAny_sequenceKey ht.typeIs (by decide) ?_)
  refine wpAny_bind (wpAny_callSpecial?_slot (name := Str.ofString "__getitem__") ht.typeIs PyProof.Rows.slot_tuple_getitem
    (wpAny_call_entry PyProof.Rows.slot_tuple_getitem ht.typeIs entry_tuple_getitem ?_ (args_tuple_getitem _ _)))
  show wpAny _ _ (Builtin.Tuple.tupleItemsOf (.ref t) >>= _) _ _ s
  refine wpAny_bind (tupleItemsOf_ ht ?_)
  refine wpAny_bind (wpAny_typeOf hTs ?_)
  rw [if_pos (by decide)]
  refine wpAny_bind (sliceApplied_gen hs pl pu ?_)
  have hno : ¬ ((((sIx items.size 0 lo : Nat) : Int) == 0 && (1 : Int) == 1 && (sIx items.size items.size hi - sIx items.size 0 lo) == items.size) = true) := by
    intro q
    rw [Bool.and_eq_true, Bool.and_eq_true] at q
    have q1 : ((sIx items.size 0 lo : Nat) : Int) = 0 := eq_of_beq q.1.1
    have q2 : sIx items.size items.size hi - sIx items.size 0 lo = items.size := eq_of_beq q.2
    exact hw ⟨by omega, by omega⟩
  show wpAny _ _ (if (((sIx items.size 0 lo : Nat) : Int) == 0 && (1 : Int) == 1 && (sIx items.size items.size hi - sIx items.size 0 lo) == items.size) = true then _ else _) _ _ s
  rw [if_neg hno, pick_gen]
  first
    | exact wpAny_bind (m := Builtin.Tuple.tupleExact _) (wpAny_newObj_type (wpAny_pure ⟨_, rfl, wpAny_pure h⟩) htake)
    | exact wpAny_bind (m := Builtin.Tuple.tupleExact _) (wpAny_newObj_type (wpAny_bind (wpAny_pure (wpAny_pure ⟨_, rfl, wpAny_pure h⟩))) htake)
    | exact wpAny_bind (wpAny_bind (m := Builtin.Tuple.tupleExact _) (wpAny_newObj_type (wpAny_pure (wpAny_pure ⟨_, rfl, wpAny_pure h⟩)) htake))
    | exact wpAny_bind (wpAny_bind (m := Builtin.Tuple.tupleExact _) (wpAny_newObj_type (wpAny_pure ⟨_, rfl, wpAny_pure h⟩) htake))
end
end HT
namespace L2
open PySem PySem.Spec PyProof.Rows
abbrev TO := St → Hp → (Option Int → Hp → Prop) → Prop
def PO (X : Cx) (e : Option Expr) (t : TO) : Prop :=
  ∀ (pins : List (Addr × Obj)) (s : Shared) (σ : St) (H : Hp) (Q : Option Int → Hp → Prop), Inv X pins σ H s → t σ H Q →
    wpAny (model X.prog X.w) X.A (evalPart e X.env) (fun u s' => ∃ o H', Inv X pins σ H' s' ∧ IsPart u o ∧ Q o H') X.xe s
def tNoPart : TO := fun _ H Q => Q none H
def tPart (t : TE) : TO := fun σ H Q => t σ H fun x H1 => ∃ i, x = .int i ∧ Q (some i) H1
theorem intsAre_of {ns : List Int} : ∀ {us : List Value}, Vals (ns.map V.int) us → IntsAre us ns := by
  induction ns with
  | nil => intro us r; rw [List.map_nil] at r; cases r; exact .nil
  | cons n ns ih =>
    intro us r
    rw [List.map_cons] at r
    cases r with
    | cons r1 r2 =>
      obtain ⟨t, e⟩ := r1
      subst e
      exact .cons n t (ih r2)
section
variable {X : Cx} {e : Expr} {te : TE} {lo hi : Option Expr} {tl th : TO} {pos p2 : Pos}
theorem po_none : PO X none tNoPart := by
  intro pins s σ H Q I h
  rw [evalPart_none]
  exact wpAny_pure ⟨none, H, I, .none, h⟩
theorem po_some (h : PE X e te) : PO X (some e) (tPart te) := by
  intro pins s σ H Q I hw
  rw [evalPart_some]
  refine thn (h pins s σ H _ I hw) fun u s1 ⟨x, H1, I1, r1, q1⟩ => ?_
  obtain ⟨i, rfl, q⟩ := q1
  obtain ⟨t, rfl⟩ := r1
  exact ⟨some i, H1, I1, .int i t, q⟩
def SlR (X : Cx) (r : V → Option Int → Option Int → Hp → VK → Prop) : Prop :=
  ∀ (pins : List (Addr × Obj)) (s : Shared) (σ : St) (H : Hp) (x : V) (v vl vu : Value) (lo hi : Option Int) (sl : Addr) (Q : VK), Inv X pins σ H s → RelV x v → s.heap.IsSliceOf sl vl vu .none → IsPart vl lo → IsPart vu hi → r x lo hi H Q →
    ∃ T id, typeLookup (.type T) "__getitem__" = pure (some (.builtin id)) ∧ s.TypeIs v T ∧ wpAny (model X.prog X.w) X.A (getItem v (.ref sl)) (EP X pins σ Q) X.xe s
theorem SlR.or {r r' : V → Option Int → Option Int → Hp → VK → Prop} (h : SlR X r) (h' : SlR X r') : SlR X (fun x lo hi H Q => r x lo hi H Q ∨ r' x lo hi H Q) := by
  intro pins s σ H x v vl vu lo hi sl Q I rx hs pl pu q
  rcases q with q | q
  · exact h pins s σ H x v vl vu lo hi sl Q I rx hs pl pu q
  · exact h' pins s σ H x v vl vu lo hi sl Q I rx hs pl pu q
def tSl (r : V → Option Int → Option Int → Hp → VK → Prop) (te : TE) (tl th : TO) : TE := fun σ H Q => te σ H fun x H1 => tl σ H1 fun l H2 => th σ H2 fun u H3 => r x l u H3 Q
theorem pe_slice {r : V → Option Int → Option Int → Hp → VK → Prop} (hr : SlR X r) (he : PE X e te) (hl : PO X lo tl) (hu : PO X hi th) : PE X (.Subscript e (.Slice lo hi none p2) pos) (tSl r te tl th) := by
  intro pins s σ H Q I h
  refine Subscript_ (thn (he pins s σ H _ I h) fun v s1 ⟨x, H1, I1, r1, q1⟩ => ?_)
  refine wpAny_Slice (thn (hl pins s1 σ H1 _ I1 q1) fun vl s2 ⟨l, H2, I2, pl, q2⟩ => thn (hu pins s2 σ H2 _ I2 q2) fun vu s3 ⟨u, H3, I3, pu, q3⟩ => ?_)
  rw [evalPart_none]
  refine wpAny_pure ?_
  have I4 : Inv X pins σ H3 { s3 with heap := s3.heap.push { cls := .type "slice", data := .fields #[vl, vu, .none] } } := I3.kept (t' := s3.toks) fun b ob q => Heap.get?_push_of_some _ q
  obtain ⟨T, id, hT, ht, hg⟩ := hr pins { s3 with heap := s3.heap.push { cls := .type "slice", data := .fields #[vl, vu, .none] } } σ H3 x v vl vu l u s3.heap.objs.size Q I4 r1 (Heap.IsSliceOf.new ..) pl pu q3
  show wpAny (model X.prog X.w) X.A (subscriptTail e (.Slice lo hi none p2) v (.ref s3.heap.objs.size)) (EP X pins σ Q) X.xe { s3 with heap := s3.heap.push { cls := .type "slice", data := .fields #[vl, vu, .none] } }
  exact tail_any (ops := [.ref s3.heap.objs.size, v]) ht hT hg (by with_unfolding_all rfl)
def cutV (xs : List V) (lo hi : Option Int) : List V := (xs.drop (HT.sIx xs.length 0 lo)).take (HT.sIx xs.length xs.length hi - HT.sIx xs.length 0 lo)
theorem cutV_length (xs : List V) (lo hi : Option Int) : (cutV xs lo hi).length ≤ xs.length := by
  unfold cutV
  rw [List.length_take, List.length_drop]
  omega
def rSlT (K : PySem.W.Frag) : V → Option Int → Option Int → Hp → VK → Prop := fun x lo hi H Q => ∃ a xs, x = .ref a ∧ SqT K H a xs ∧
  ¬ (HT.sIx xs.length 0 lo = 0 ∧ HT.sIx xs.length xs.length hi = xs.length) ∧ ∀ p, H p = none → Q (.ref p) (upd H p (.tup (cutV xs lo hi)))
theorem sl_tup : SlR X (rSlT X.K) := by
  intro pins s σ H x v vl vu lo hi sl Q I rx hs pl pu h
  obtain ⟨a, xs, rfl, hx, hw, q⟩ := h
  cases rx
  obtain ⟨its, r, ht, hz⟩ := I.tuple hx
  have hlen : its.toArray.size = xs.length := by rw [List.size_toArray]; exact r.length.symm
  refine ⟨"tuple", _, PyProof.Rows.slot_tuple_getitem.lookup, ht.typeIs, ?_⟩
  refine HT.getItem_tuple_cut ht hs pl pu (by rw [hlen]; exact hw) ?_ (by rw [hlen]; exact hz)
  rw [hlen]
  refine ⟨.ref s.heap.objs.size, _, I.laid (t' := s.toks) (o := .tup (cutV xs lo hi)) (fun b ob q => Heap.get?_push_of_some _ q) (Nat.le_refl _) ?_, rfl, q _ (I.hok.fresh (Nat.le_refl _))⟩
  exact ⟨Nat.le_trans (cutV_length xs lo hi) hz, _, (r.drop (HT.sIx xs.length 0 lo)).take (HT.sIx xs.length xs.length hi - HT.sIx xs.length 0 lo), IsTup.new _ _⟩
def rCatT (K : PySem.W.Frag) : R2 := fun x y H Q => ∃ a b xs ys, x = .ref a ∧ y = .ref b ∧ SqT K H a xs ∧ SqT K H b ys ∧ xs ≠ [] ∧ xs.length + ys.length ≤ sizeLine ∧
  (ys = [] → Q (.ref a) H) ∧ (ys ≠ [] → ∀ p, H p = none → Q (.ref p) (upd H p (.tup (xs ++ ys))))
theorem Vals.nil_iff {xs : List V} {us : List Value} (r : Vals xs us) : us = [] ↔ xs = [] := by
  cases r with
  | nil => simp
  | cons _ _ => simp
theorem op_catT : OpR X (binaryOp .Add) (rCatT X.K) := by
  intro pins s σ H x y v u Q I rx ry h
  obtain ⟨a, b, xs, ys, rfl, rfl, ha, hb, hx, hz, q1, q2⟩ := h
  cases rx
  cases ry
  obtain ⟨its, r1, p1, _⟩ := I.tuple ha
  obtain ⟨its2, r2, p2, _⟩ := I.tuple hb
  refine HT.cat_tup p1 p2 (fun z => hx (r1.nil_iff.mp z)) (fun z => ⟨.ref a, H, I, rfl, q1 (r2.nil_iff.mp z)⟩) (fun z => ?_) (by rw [← r1.length, ← r2.length]; exact hz)
  refine ⟨.ref s.heap.objs.size, _, I.laid (t' := s.toks) (o := .tup (xs ++ ys)) (fun b ob q => Heap.get?_push_of_some _ q) (Nat.le_refl _) ?_, rfl, q2 (fun w => z (r2.nil_iff.mpr w)) _ (I.hok.fresh (Nat.le_refl _))⟩
  exact ⟨by rw [List.length_append]; exact hz, _, r1.append r2, IsTup.new _ _⟩
end
end L2
namespace L2
open PySem PySem.Spec PyProof.Rows
def ixN (n : Nat) (i : Int) : Option Nat := if 0 ≤ i then (if i < n then some i.toNat else none) else if -(n : Int) ≤ i then some (i + n).toNat else none
def atI {α : Type} (xs : List α) (i : Int) : Option α := (ixN xs.length i).bind fun j => xs[j]?
theorem ixN_seq {n : Nat} {i : Int} {j : Nat} (h : ixN n i = some j) : seqIndex? i n = some j ∧ j < n ∧ -(n : Int) ≤ i ∧ i < n := by
  unfold ixN at h
  by_cases h0 : 0 ≤ i
  · rw [if_pos h0] at h
    by_cases h1 : i < n
    · rw [if_pos h1] at h
      have e : i.toNat = j := Option.some.inj h
      exact ⟨by rw [seqIndex_of h0 h1, e], by omega, by omega, h1⟩
    · rw [if_neg h1] at h; cases h
  · rw [if_neg h0] at h
    by_cases h1 : -(n : Int) ≤ i
    · rw [if_pos h1] at h
      have e : (i + n).toNat = j := Option.some.inj h
      exact ⟨by rw [seqIndex_neg (by omega) h1, e], by omega, h1, by omega⟩
    · rw [if_neg h1] at h; cases h
theorem atI_get {α : Type} {xs : List α} {i : Int} {v : α} (h : atI xs i = some v) : ∃ j, seqIndex? i xs.length = some j ∧ xs[j]? = some v ∧ j < xs.length ∧ -(xs.length : Int) ≤ i ∧ i < xs.length := by
  unfold atI at h
  cases e : ixN xs.length i with
  | none => rw [e] at h; cases h
  | some j =>
    rw [e] at h
    obtain ⟨h1, h2, h3, h4⟩ := ixN_seq e
    exact ⟨j, h1, h, h2, h3, h4⟩
theorem atI_nat {α : Type} {xs : List α} {j : Nat} {v : α} (h : xs[j]? = some v) : atI xs (j : Int) = some v := by
  have hj : j < xs.length := (List.getElem?_eq_some_iff.mp h).1
  have e : ixN xs.length (j : Int) = some j := by
    unfold ixN
    rw [if_pos (by omega), if_pos (by omega)]; simp
  unfold atI; rw [e]; exact h
theorem atI_last {α : Type} (xs : List α) (v : α) : atI (xs ++ [v]) (-1) = some v := by
  have hl : (xs ++ [v]).length = xs.length + 1 := by simp
  have e : ixN (xs ++ [v]).length (-1) = some xs.length := by
    unfold ixN
    rw [hl, if_neg (by decide), if_pos (by omega)]
    congr 1
    omega
  unfold atI
  rw [e]
  show (xs ++ [v])[xs.length]? = some v
  simp
def PlainIx (b : Expr) : Prop := ∀ o i, subscripted b false o i = operate [o, i] (getItem o i)
def IxR (X : Cx) (r : R2) : Prop :=
  ∀ (value slice : Expr) (pins : List (Addr × Obj)) (s : Shared) (σ : St) (H : Hp) (x y : V) (v u : Value) (Q : VK), Inv X pins σ H s → RelV x v → RelV y u → r x y H Q →
    subscripted slice false v u = operate [v, u] (getItem v u) → wpAny (model X.prog X.w) X.A (subscriptTail value slice v u) (EP X pins σ Q) X.xe s
def MtR (X : Cx) (id : String) (r : V → List V → Hp → VK → Prop) : Prop :=
  ∀ (pins : List (Addr × Obj)) (s : Shared) (σ : St) (H : Hp) (x : V) (xs : List V) (v : Value) (us : List Value) (Q : VK), Inv X pins σ H s → RelV x v → Vals xs us → r x xs H Q →
    wpAny (model X.prog X.w) X.A (call (.builtin id) (v :: us)) (EP X pins σ Q) X.xe s
section
variable {X : Cx} {a b : Expr} {ta tb : TE} {pos : Pos}
theorem IxR.or {r r' : R2} (h : IxR X r) (h' : IxR X r') : IxR X (fun x y H Q => r x y H Q ∨ r' x y H Q) := by
  intro value slice pins s σ H x y v u Q I rx ry q hs
  rcases q with q | q
  · exact h value slice pins s σ H x y v u Q I rx ry q hs
  · exact h' value slice pins s σ H x y v u Q I rx ry q hs
theorem pe_ix {r : R2} (hr : IxR X r) (ha : PE X a ta) (hb : PE X b tb) (hs : PlainIx b) : PE X (.Subscript a b pos) (tOp r ta tb) := by
  intro pins s σ H Q I h
  exact Subscript_ (binT ha hb I h fun v u s2 x y H2 I2 rx ry q => hr a b pins s2 σ H2 x y v u Q I2 rx ry q (hs _ _))
def rIxL (K : PySem.W.Frag) : R2 := fun x y H Q => ∃ p xs i v, x = .ref p ∧ y = .int i ∧ SqL K H p xs ∧ atI xs i = some v ∧ Q v H
def rIxT (K : PySem.W.Frag) : R2 := fun x y H Q => ∃ p xs i v, x = .ref p ∧ y = .int i ∧ SqT K H p xs ∧ atI xs i = some v ∧ Q v H
def rIxS : R2 := fun x y H Q => ∃ z i c, x = .str z ∧ y = .int i ∧ z.length ≤ sizeLine ∧ atI z.cps.toList i = some c ∧ Q (.str ⟨#[c]⟩) H
theorem ix_list : IxR X (rIxL X.K) := by
  intro value slice pins s σ H x y v u Q I rx ry h hs
  obtain ⟨p, xs, i, z, rfl, rfl, hq, he, q⟩ := h
  cases rx
  obtain ⟨t, rfl⟩ := ry
  obtain ⟨its, r, pl, hz⟩ := I.list hq
  obtain ⟨j, h1, h2, h3, h4, h5⟩ := atI_get he
  obtain ⟨w, ew, rw'⟩ := r.get h2
  have hl := r.length
  have hn := line63
  have fin : EP X pins σ Q w s := ⟨z, H, I, rw', q⟩
  by_cases h0 : 0 ≤ i
  · have hj : i.toNat = j := by
      rw [seqIndex_of h0 h5] at h1
      exact Option.some.inj h1
    exact item_listR pl.isList h0 (by omega) (by rw [hj]; simpa using ew) fin hs
  · have hj : (i + (its.toArray.size : Int)).toNat = j := by
      rw [seqIndex_neg (by omega) h4] at h1
      rw [List.size_toArray, ← hl]
      exact Option.some.inj h1
    exact subscriptTail_builtinR (x := w) pl.isList.typeIs slot_list_getitem.lookup
      (wpAny_getItem_list_neg (Q := fun r s' => r = w ∧ EP X pins σ Q r s') pl.isList (by omega) (by rw [List.size_toArray] <;> omega) (by omega) (by rw [hj]; simpa using ew) ⟨rfl, fin⟩) hs
theorem ix_tup : IxR X (rIxT X.K) := by
  intro value slice pins s σ H x y v u Q I rx ry h hs
  obtain ⟨p, xs, i, z, rfl, rfl, hq, he, q⟩ := h
  cases rx
  obtain ⟨t, rfl⟩ := ry
  obtain ⟨its, r, pl, hz⟩ := I.tuple hq
  obtain ⟨j, h1, h2, h3, h4, h5⟩ := atI_get he
  obtain ⟨w, ew, rw'⟩ := r.get h2
  have hl := r.length
  have hn := line63
  have fin : EP X pins σ Q w s := ⟨z, H, I, rw', q⟩
  exact subscriptTail_builtinR (x := w) pl.typeIs slot_tuple_getitem.lookup
    (getItem_tuple (j := j) (Q := fun r s' => r = w ∧ EP X pins σ Q r s') pl (by omega) (by omega) (by rw [List.size_toArray, ← hl]; exact h1) (by simpa using ew) ⟨rfl, fin⟩) hs
theorem ix_str : IxR X rIxS := by
  intro value slice pins s σ H x y v u Q I rx ry h hs
  obtain ⟨z, i, c, rfl, rfl, hz, he, q⟩ := h
  obtain ⟨t, rfl⟩ := rx
  obtain ⟨t', rfl⟩ := ry
  obtain ⟨j, h1, h2, h3, h4, h5⟩ := atI_get he
  have hl : z.cps.toList.length = z.length := by simp [Str.length]
  rw [hl] at h1 h4 h5
  have hn := line63
  exact tail_any (typeIs_str s z t) slot_str_getitem.lookup (getItem_str (c := c) (by
    have e1 : decide (i < -(2 ^ 63 : Int)) = false := decide_eq_false (by omega)
    have e2 : decide (i ≥ 2 ^ 63) = false := decide_eq_false (by omega)
    rw [e1, e2, Bool.or_false]) (by rw [h1]; simpa using h2) ⟨.str ⟨#[c]⟩, H, I.tok _, ⟨_, rfl⟩, q⟩) hs
def rIx (K : PySem.W.Frag) : R2 := fun x y H Q => rIxL K x y H Q ∨ rIxT K x y H Q ∨ rIxS x y H Q
theorem ix_seq : IxR X (rIx X.K) := ix_list.or (ix_tup.or ix_str)
theorem mapSeq_set (its : List Value) (n j : Nat) (u : Value) : Obj.mapSeq (·.setIfInBounds j u) { cls := .type "list", data := .seq its.toArray n } = { cls := .type "list", data := .seq (its.set j u).toArray n } := by
  simp [Obj.mapSeq]
theorem Inv.lst {pins : List (Addr × Obj)} {σ : St} {H : Hp} {s : Shared} {p : Addr} {xs : List V} (I : Inv X pins σ H s) (h : H p = some (.lst xs)) :
    ∃ (its : List Value) (n : Nat), Vals xs its ∧ s.heap.get? p = some { cls := .type "list", data := .seq its.toArray n } ∧ xs.length ≤ sizeLine := by
  obtain ⟨z, its, n, r, e⟩ := I.hok p _ h
  exact ⟨its, n, r, e, z⟩
theorem Inv.lstUpd {pins : List (Addr × Obj)} {σ : St} {H : Hp} {s : Shared} {p : Addr} {xs ys : List V} {its its' : List Value} {n n' : Nat} {f : Obj → Obj} (I : Inv X pins σ H s) (h : H p = some (.lst xs))
    (ho : s.heap.get? p = some { cls := .type "list", data := .seq its.toArray n }) (hf : f { cls := .type "list", data := .seq its.toArray n } = { cls := .type "list", data := .seq its'.toArray n' }) (r : Vals ys its') (hz : ys.length ≤ sizeLine) (t : Nat) :
    Inv X pins σ (upd H p (.lst ys)) { s with heap := s.heap.update p f, toks := t } := by
  have e : (s.heap.update p f).get? p = some { cls := .type "list", data := .seq its'.toArray n' } := by
    rw [Heap.get?_update_self f ho (by rw [hf] <;> rfl), hf]
  refine I.write (x := p) (e := p) (by rw [h]; trivial) (.inl rfl) (fun b u hb q => (Heap.get?_update_other _ _ (Ne.symm hb)).trans q) ⟨_, e⟩ ?_
  exact ⟨hz, its', n', r, e⟩
def rSetL : V → V → V → Hp → (Hp → Prop) → Prop := fun o i v H Q => ∃ p xs k j, o = .ref p ∧ i = .int k ∧ H p = some (.lst xs) ∧ ixN xs.length k = some j ∧ Q (upd H p (.lst (xs.set j v)))
theorem set_list : PSet X rSetL := by
  intro pins s σ H o i v ov iv u Q I ro ri rv h
  obtain ⟨p, xs, k, j, rfl, rfl, hp, hj, q⟩ := h
  cases ro
  obtain ⟨t, rfl⟩ := ri
  obtain ⟨its, n, r, ho, hz⟩ := I.lst hp
  obtain ⟨h1, h2, h3, h4⟩ := ixN_seq hj
  have hl := r.length
  have hn := line63
  have I' : Inv X pins σ (upd H p (.lst (xs.set j v))) { s with heap := s.heap.update p (Obj.mapSeq (·.setIfInBounds j u)) } :=
    I.lstUpd hp ho (mapSeq_set its n j u) (r.set rv j) (by rw [List.length_set]; exact hz) s.toks
  by_cases h0 : 0 ≤ k
  · have hk : k.toNat = j := by
      rw [seqIndex_of h0 h4] at h1
      exact Option.some.inj h1
    exact PySem.W.ki_setAt ho h0 (by omega) (by rw [List.size_toArray, ← hl]; exact h4) (by rw [hk]; exact ⟨_, I', q⟩)
  · have hk : (k + (its.toArray.size : Int)).toNat = j := by
      rw [seqIndex_neg (by omega) h3] at h1
      rw [List.size_toArray, ← hl]
      exact Option.some.inj h1
    exact PySem.W.ki_setBack ho (by omega) (by rw [List.size_toArray, ← hl]; exact h3) (by omega) (by rw [hk]; exact ⟨_, I', q⟩)
theorem slice_bounds (lo hi : Option Int) (n : Nat) : (sliceBounds lo hi none n).1 = ((HT.sIx n 0 lo : Nat) : Int) ∧ (sliceBounds lo hi none n).2.1 = ((HT.sIx n n hi : Nat) : Int) ∧ (sliceBounds lo hi none n).2.2 = 1 := by
  refine ⟨?_, ?_, rfl⟩
  · cases lo with
    | none => simp [sliceBounds, HT.sIx]
    | some i =>
      simp only [sliceBounds, HT.sIx, Option.getD_none, show (1 : Int) > 0 by decide, if_true]
      by_cases h : i < 0
      · simp only [h, if_true] <;> omega
      · simp only [h, if_false] <;> omega
  · cases hi with
    | none => simp [sliceBounds, HT.sIx]
    | some i =>
      simp only [sliceBounds, HT.sIx, Option.getD_none, show (1 : Int) > 0 by decide, if_true]
      by_cases h : i < 0
      · simp only [h, if_true] <;> omega
      · simp only [h, if_false] <;> omega
theorem slicePick_cut (its : List Value) (lo hi : Option Int) : slicePick its.toArray lo hi none = ((its.drop (HT.sIx its.length 0 lo)).take (HT.sIx its.length its.length hi - HT.sIx its.length 0 lo)).toArray := by
  obtain ⟨h1, h2, h3⟩ := slice_bounds lo hi its.toArray.size
  unfold slicePick
  rw [h1, h2, h3]
  simp only [sliceRange_one, pick_run, List.size_toArray] <;> rfl
def rSlL (K : PySem.W.Frag) : V → Option Int → Option Int → Hp → VK → Prop := fun x lo hi H Q => ∃ a xs, x = .ref a ∧ SqL K H a xs ∧ ∀ p, H p = none → Q (.ref p) (upd H p (.lst (cutV xs lo hi)))
theorem sl_list : SlR X (rSlL X.K) := by
  intro pins s σ H x v vl vu lo hi sl Q I rx hs pl pu h
  obtain ⟨a, xs, rfl, hx, q⟩ := h
  cases rx
  obtain ⟨its, r, ht, hz⟩ := I.list hx
  have hlen := r.length
  refine ⟨"list", _, slot_list_getitem.lookup, ht.isList.typeIs, ?_⟩
  refine wpAny_getItem_list_slice ht.isList hs pl pu .none (by simp) ?_ (by rw [List.size_toArray] <;> omega)
  rw [slicePick_cut, ← hlen]
  refine ⟨.ref s.heap.objs.size, _, I.laid (t' := s.toks) (o := .lst (cutV xs lo hi)) (fun b ob q => Heap.get?_push_of_some _ q) (Nat.le_refl _) ?_, rfl, q _ (I.hok.fresh (Nat.le_refl _))⟩
  exact ⟨Nat.le_trans (cutV_length xs lo hi) hz, _, 0, (r.drop (HT.sIx xs.length 0 lo)).take (HT.sIx xs.length xs.length hi - HT.sIx xs.length 0 lo), Heap.get?_push_size _ rfl⟩
theorem call_list_of : CallR X (.type "list") (fun xs H Q => ∃ p ys, xs = [.ref p] ∧ (SqL X.K H p ys ∨ SqT X.K H p ys) ∧ ∀ l, H l = none → Q (.ref l) (upd H l (.lst ys))) := by
  intro pins s σ H xs us Q I r h
  obtain ⟨p, ys, rfl, hq, q⟩ := h
  obtain ⟨u, rfl, rx⟩ := vals1 r
  cases rx
  have fin : ∀ (its : List Value), Vals ys its → ys.length ≤ sizeLine → ∀ (h' : Heap) (c' : Nat), (∀ b o', s.heap.get? b = some o' → h'.get? b = some o') →
      h'.get? s.heap.objs.size = some { cls := .type "list", dict := none, data := .seq its.toArray c', slots := #[] } → EP X pins σ Q (.ref s.heap.objs.size) { s with heap := h' } := fun its r' hz h' c' kp e =>
    ⟨.ref s.heap.objs.size, _, I.laid (t' := s.toks) kp (Nat.le_refl _) (show ObjOk X.prog X.w _ h' _ (.lst ys) from ⟨hz, its, c', r', e⟩), rfl, q _ (I.hok.fresh (Nat.le_refl _))⟩
  rcases hq with hq | hq
  · obtain ⟨its, r', pl, hz⟩ := I.list hq
    have hlen := r'.length
    obtain ⟨o, ho, hc, n, hd⟩ := pl.isList
    exact call_list_seq p (.inl rfl) ho hc hd (fun h' c' kp e => fin its r' hz h' c' kp e) (by simp only [List.size_toArray] <;> omega)
  · obtain ⟨its, r', pl, hz⟩ := I.tuple hq
    have hlen := r'.length
    obtain ⟨o, ho, hc, n, hd⟩ := pl
    exact call_list_seq p (.inr rfl) ho hc hd (fun h' c' kp e => fin its r' hz h' c' kp e) (by simp only [List.size_toArray] <;> omega)
def tyV (K : PySem.W.Frag) (T : String) (x : V) (H : Hp) : Prop := match x with
  | .str _ => T = "str"
  | .int _ => T = "int"
  | .ref p => (T = "list" ∧ ∃ xs, SqL K H p xs) ∨ (T = "tuple" ∧ ∃ o, K.lookup p = some o ∧ o.cls = .type "tuple" ∧ o.dict = none) ∨
      (T = "dict" ∧ ((∃ kvs, H p = some (.dK kvs)) ∨ ∃ kvs, H p = some (.dT kvs))) ∨ (T = "set" ∧ ∃ S n, H p = some (.set S n))
  | _ => False
theorem tyV_is {pins : List (Addr × Obj)} {σ : St} {H : Hp} {s : Shared} {T : String} {x : V} {v : Value} (I : Inv X pins σ H s) (r : RelV x v) (ty : tyV X.K T x H) :
    s.TypeIs v T ∧ ∀ a, v = .ref a → ∃ ob, s.heap.get? a = some ob ∧ ob.dict = none := by
  cases x with
  | str z =>
    obtain ⟨t, rfl⟩ := r
    cases (show T = "str" from ty)
    exact ⟨typeIs_str s z t, fun _ e => nomatch e⟩
  | int i =>
    obtain ⟨t, rfl⟩ := r
    cases (show T = "int" from ty)
    exact ⟨typeIs_int s i t, fun _ e => nomatch e⟩
  | ref p =>
    cases r
    rcases ty with ⟨rfl, xs, hq⟩ | ⟨rfl, o, hk, hc, hd⟩ | ⟨rfl, hk⟩ | ⟨rfl, S, n, hk⟩
    · obtain ⟨its, _, pl, _⟩ := I.list hq
      refine ⟨pl.isList.typeIs, fun a e => ?_⟩
      cases e
      obtain ⟨o, n, e, c, hd, _⟩ := pl
      exact ⟨o, e, hd⟩
    · refine ⟨⟨o, I.kIn p o hk, hc⟩, fun a e => ?_⟩
      cases e
      exact ⟨o, I.kIn _ o hk, hd⟩
    · have z : ∃ o, s.heap.get? p = some o ∧ o.ExactDict := by
        rcases hk with ⟨kvs, hk⟩ | ⟨kvs, hk⟩
        · obtain ⟨_, _, _, _, o, _, _, e, ex, _⟩ := I.hok p _ hk
          exact ⟨o, e, ex⟩
        · obtain ⟨_, _, _, _, o, _, _, e, ex, _⟩ := I.hok p _ hk
          exact ⟨o, e, ex⟩
      obtain ⟨o, e, ex⟩ := z
      refine ⟨⟨o, e, ex.1⟩, fun a e2 => ?_⟩
      cases e2
      exact ⟨o, e, ex.2.1⟩
    · obtain ⟨o, _, _, _, e, ex, _⟩ := I.hok p _ hk
      refine ⟨⟨o, e, ex.1⟩, fun a e2 => ?_⟩
      cases e2
      exact ⟨o, e, ex.2.1⟩
  | _ => exact False.elim ty
def tBM (K : PySem.W.Frag) (T : String) (r : V → List V → Hp → VK → Prop) (to : TE) (t : TA) : TE := fun σ H Q => to σ H fun x H1 => tyV K T x H1 ∧ t σ H1 fun xs H2 => r x xs H2 Q
variable {o e : Expr} {es : List Expr} {to : TE} {t : TA} {name : Str} {apos cpos : Pos} {T id : String} {r : V → List V → Hp → VK → Prop}
theorem pe_bm (pa : PlainAttrs T) (slot : Slot T name id) (hty : typeOf (.builtin id) = pure (.type "method_descriptor")) (hm : MtR X id r) (ho : PE X o to) (ha : PA X (e :: es) t)
    (hbase : attributeBase o name X.env (eval o X.env) = eval o X.env := by rfl)
    (hfew : ((backTo cpos (starEach (e :: es) X.env)).all (fun x => !x.1) && (backToKw cpos (keywordEach [] X.env)).all (fun x => x.1.isSome)
      && decide ((e :: es).length + ([] : List Keyword).length + (if ([] : List Keyword).isEmpty then 0 else 1) < 30)) = true := by rfl)
    (hline : (apos.endLine == cpos.line) = true := by rfl) (hs : starEach (e :: es) X.env = (false, eval e X.env) :: starEach es X.env := by rfl) (hplain : (backTo cpos (starEach es X.env)).any (·.1) = false := by rfl) :
    PE X (.Call (.Attribute o name apos) (e :: es) [] cpos) (tBM X.K T r to t) := by
  intro pins s σ H Q I h
  refine wpAny_Call_method_late hbase hfew hline rfl (thn (ho pins s σ H _ I h) fun v s1 ⟨x, H1, I1, r1, ty, q1⟩ => ?_)
  obtain ⟨h1, h2⟩ := tyV_is I1 r1 ty
  refine ⟨T, id, pa, slot, hty, h1, h2, ?_⟩
  have hA := ha cpos pins s1 σ H1 _ I1 q1
  rw [hs] at hA ⊢
  refine Calls.callWith_builtin (by show (false || (backTo cpos (starEach es X.env)).any (·.1)) = false; rw [hplain] <;> rfl) (Calls.evalArgs_plain ?_)
  exact thn hA fun us s2 ⟨vs, H2, I2, r2, q2⟩ => hm pins s2 σ H2 x vs v us Q I2 r1 r2 q2
end
end L2
namespace L2
open PySem PySem.Spec PyProof.Rows
def MtM (X : Cx) (id : String) (r : V → List V → Hp → VK → Prop) : Prop :=
  ∀ (pins : List (Addr × Obj)) (s : Shared) (σ : St) (H : Hp) (x : V) (xs : List V) (v : Value) (us : List Value) (Q : VK), Inv X pins σ H s → RelV x v → Vals xs us → r x xs H Q →
    wpAny (model X.prog X.w) X.A (call (.builtin id) (v :: us)) (EP X pins σ Q) X.xe s
theorem Vals.one : ∀ {x : V} {us : List Value}, Vals [x] us → ∃ u, us = [u] ∧ RelV x u
  | _, _, .cons r .nil => ⟨_, rfl, r⟩
theorem Vals.two : ∀ {x y : V} {us : List Value}, Vals [x, y] us → ∃ u v, us = [u, v] ∧ RelV x u ∧ RelV y v
  | _, _, _, .cons r (.cons q .nil) => ⟨_, _, rfl, r, q⟩
theorem Vals.rep {xs : List V} {us : List Value} (h : Vals xs us) : ∀ k : Nat, Vals (List.replicate k xs).flatten (List.replicate k us).flatten
  | 0 => .nil
  | k + 1 => by
    rw [List.replicate_succ, List.replicate_succ, List.flatten_cons, List.flatten_cons]
    exact Vals.append h (Vals.rep h k)
theorem foldl_rep (its : List Value) : ∀ (k : Nat) (acc : List Value),
    List.foldl (fun x1 x2 => x1 ++ x2) acc.toArray (List.replicate k its.toArray) = (acc ++ (List.replicate k its).flatten).toArray
  | 0, acc => by simp
  | k + 1, acc => by
    have e : acc.toArray ++ its.toArray = (acc ++ its).toArray := by simp
    have e2 : (acc ++ its) ++ (List.replicate k its).flatten = acc ++ (List.replicate (k + 1) its).flatten := by
      rw [List.replicate_succ, List.flatten_cons, List.append_assoc]
    rw [← e2, ← foldl_rep its k (acc ++ its), ← e, List.replicate_succ, List.foldl_cons]
section
variable {X : Cx} {pins : List (Addr × Obj)} {σ : St} {H : Hp} {s : Shared} {l b : Addr} {xs ys zs : List V}
theorem Inv.lset {its its' : List Value} {n : Nat} {f : Array Value → Array Value} {t' : Nat} (I : Inv X pins σ H s) (hH : H l = some (.lst xs))
    (e : s.heap.get? l = some { cls := .type "list", data := .seq its.toArray n }) (hf : f its.toArray = its'.toArray) (hv : Vals ys its') (hz : ys.length ≤ sizeLine) :
    Inv X pins σ (upd H l (.lst ys)) { s with heap := s.heap.update l (Obj.mapSeq f), toks := t' } := by
  have q := PySem.IsL.update e f
  rw [hf] at q
  refine I.write (x := l) (e := l) (by rw [hH]; exact trivial) (.inl rfl) (fun b' u hb hu => (Heap.get?_update_other s.heap (Obj.mapSeq f) (Ne.symm hb)).trans hu) ⟨_, q⟩ ?_
  exact ⟨hz, its', _, hv, q⟩
theorem Inv.lnew {its : List Value} {t' : Nat} (I : Inv X pins σ H s) (hv : Vals ys its) (hz : ys.length ≤ sizeLine) :
    Inv X pins σ (upd H s.heap.objs.size (.lst ys)) { s with heap := s.heap.push { cls := .type "list", data := .seq its.toArray }, toks := t' } :=
  I.laid (fun _ _ q => Heap.get?_push_of_some _ q) (Nat.le_refl _) ⟨hz, its, 0, hv, Heap.get?_push_size _ rfl⟩
theorem Inv.fresh (I : Inv X pins σ H s) : H s.heap.objs.size = none := I.hok.fresh (Nat.le_refl _)
theorem Inv.lstM (I : Inv X pins σ H s) (hH : H l = some (.lst xs)) : xs.length ≤ sizeLine ∧ ∃ (its : List Value) (n : Nat), Vals xs its ∧ xs.length = its.length ∧ s.heap.get? l = some { cls := .type "list", data := .seq its.toArray n } := by
  obtain ⟨z, its, n, r, e⟩ := I.hok l _ hH
  exact ⟨z, its, n, r, r.length, e⟩
theorem notLongL {n : Nat} (h : n ≤ sizeLine) : Builtin.List.listTooLong n = false := by
  unfold Builtin.List.listTooLong
  exact decide_eq_false (by omega)
end
section
variable {X : Cx}
def rAppend : V → List V → Hp → VK → Prop := fun x vs H Q => ∃ l xs y, x = .ref l ∧ vs = [y] ∧ H l = some (.lst xs) ∧ xs.length < sizeLine ∧ Q .non (upd H l (.lst (xs ++ [y])))
theorem mt_append : MtM X "list.append" rAppend := by
  intro pins s σ H x vs v us Q I rx rv h
  obtain ⟨l, xs, y, rfl, rfl, hH, hz, q⟩ := h
  cases rx
  obtain ⟨u, rfl, ru⟩ := rv.one
  obtain ⟨z, its, n, r, hl, e⟩ := I.lstM hH
  refine call_meets F.slot_list_append ⟨_, e, rfl⟩ F.entry_list_append (F.args_list_append_2 _ _) (PySem.list_append l its.toArray n u (by rw [List.size_toArray]; omega)) ⟨e, ?_⟩
  refine ⟨.non, _, I.lset (its' := its ++ [u]) hH e (by simp) (r.append (.cons ru .nil)) ?_, rfl, q⟩
  rw [List.length_append, List.length_singleton]
  omega
def rExtend : V → List V → Hp → VK → Prop := fun x vs H Q => ∃ l b xs zs, x = .ref l ∧ vs = [.ref b] ∧ H l = some (.lst xs) ∧ H b = some (.lst zs) ∧ xs.length + zs.length ≤ sizeLine ∧ Q .non (upd H l (.lst (xs ++ zs)))
theorem mt_extend : MtM X "list.extend" rExtend := by
  intro pins s σ H x vs v us Q I rx rv h
  obtain ⟨l, b, xs, zs, rfl, rfl, hH, hB, hz, q⟩ := h
  cases rx
  obtain ⟨u, rfl, ru⟩ := rv.one
  cases ru
  obtain ⟨z, its, n, r, hl, e⟩ := I.lstM hH
  obtain ⟨z2, its2, n2, r2, hl2, e2⟩ := I.lstM hB
  have hsz : its.toArray.size + its2.toArray.size ≤ sizeLine := by rw [List.size_toArray, List.size_toArray]; omega
  have hlong : ¬ (!its.toArray.isEmpty && Builtin.List.listTooLong (its.toArray.size + its2.toArray.size)) = true := by
    rw [notLongL hsz, Bool.and_false]
    exact Bool.false_ne_true
  refine call_meets F.slot_list_extend ⟨_, e, rfl⟩ F.entry_list_extend (F.args_list_extend_2 _ _)
    (AutoSeq1.list_extend_list_list_0 l its.toArray n b its2.toArray n2 hlong (by rw [List.size_toArray]; omega) (by omega)) ⟨e, e2, ?_⟩
  refine ⟨.non, _, I.lset (its' := its ++ its2) hH e (by simp) (r.append r2) ?_, rfl, q⟩
  rw [List.length_append]
  omega
def rCat : R2 := fun x y H Q => ∃ l b xs zs, x = .ref l ∧ y = .ref b ∧ H l = some (.lst xs) ∧ H b = some (.lst zs) ∧ xs.length + zs.length ≤ sizeLine ∧ ∀ p, H p = none → Q (.ref p) (upd H p (.lst (xs ++ zs)))
theorem op_cat : OpR X (binaryOp .Add) rCat := by
  intro pins s σ H x y v u Q I rx ry h
  obtain ⟨l, b, xs, zs, rfl, rfl, hH, hB, hz, q⟩ := h
  cases rx
  cases ry
  obtain ⟨z, its, n, r, hl, e⟩ := I.lstM hH
  obtain ⟨z2, its2, n2, r2, hl2, e2⟩ := I.lstM hB
  refine PySem.P.add_list e e2 ?_ (by rw [List.size_toArray, List.size_toArray]; omega)
  have ea : its.toArray ++ its2.toArray = (its ++ its2).toArray := by simp
  rw [ea]
  exact ⟨.ref _, _, I.lnew (t' := s.toks) (r.append r2) (by rw [List.length_append]; omega), rfl, q _ I.fresh⟩
def rRep : R2 := fun x y H Q => ∃ l k xs, x = .ref l ∧ y = .int k ∧ H l = some (.lst xs) ∧ -(2 ^ 63) ≤ k ∧ k < 2 ^ 63 ∧ xs.length * k.toNat ≤ sizeLine ∧
  ∀ p, H p = none → Q (.ref p) (upd H p (.lst (List.replicate k.toNat xs).flatten))
theorem len_rep {α : Type} (xs : List α) (k : Nat) : (List.replicate k xs).flatten.length = k * xs.length := by
  induction k with
  | zero => simp
  | succ k ih => rw [List.replicate_succ, List.flatten_cons, List.length_append, ih, Nat.succ_mul, Nat.add_comm]
theorem op_rep : OpR X (binaryOp .Mult) rRep := by
  intro pins s σ H x y v u Q I rx ry h
  obtain ⟨l, k, xs, rfl, rfl, hH, h1, h2, hz, q⟩ := h
  cases rx
  obtain ⟨t, rfl⟩ := ry
  obtain ⟨z, its, n, r, hl, e⟩ := I.lstM hH
  have hlen : its.toArray.size * k.toNat ≤ sizeLine := by rw [List.size_toArray, ← hl]; exact hz
  have hcap : ¬ its.toArray.size * k.toNat > (2 ^ 63 - 1) / 8 := by
    have : (sizeLine : Nat) ≤ (2 ^ 63 - 1) / 8 := by decide
    omega
  have hfit : ¬ (!Builtin.List.listFitsIndex k) = true := by
    rw [fitsIndex_both h1 h2]
    exact Bool.false_ne_true
  have hlong : ¬ Builtin.List.listTooLong (its.toArray.size * k.toNat) = true := by
    rw [notLongL hlen]
    exact Bool.false_ne_true
  have hnew : List.foldl (fun x1 x2 => x1 ++ x2) #[] (List.replicate (if its.toArray.isEmpty = true then 0 else k.toNat) its.toArray) = (List.replicate k.toNat its).flatten.toArray := by
    have f0 : ∀ m : Nat, List.foldl (fun x1 x2 => x1 ++ x2) #[] (List.replicate m its.toArray) = (List.replicate m its).flatten.toArray := fun m => by
      have := foldl_rep its m []
      rw [List.nil_append] at this
      exact this
    rw [f0]
    cases its with
    | nil => simp
    | cons a r' => rw [if_neg (by simp)]
  refine wpAny_binaryOp_repeat_ref (T := "list") (U := "int") (by decide) ⟨_, e, rfl⟩ (fun s' => typeIs_int s' k t) noFill_list_mul F.fills_int_mul F.slot_int_rmul repeat_list F.slot_int_index.lookup
    (call_meets F.slot_int_rmul (typeIs_int s k t) F.entry_int_rmul (F.args_int_rmul_2 _ _) (int___rmul___int_list k t l its.toArray n)
      ⟨e, rfl, ⟨_, e, rfl⟩, call_meets F.slot_list_mul ⟨_, e, rfl⟩ F.entry_list_mul (F.args_list_mul_2 _ _) (AutoListH.list___mul___list_int_3 l its.toArray n k t hfit hcap hlong) ⟨e, ?_⟩⟩)
  rw [hnew]
  exact ⟨.ref _, _, I.lnew (t' := s.toks) (r.rep k.toNat) (by rw [len_rep, Nat.mul_comm]; exact hz), rfl, q _ I.fresh⟩
end
section
variable {prog : Program} {w : World} {A : Around} {E : Value → Shared → Prop} {s : Shared}
end
section
variable {X : Cx}
end
end L2
namespace Att
open PySem PySem.W PySem.Calls PyProof.Rows
theorem ints_of_wellAll {P : Params} {h : Heap} : ∀ (ns : List Int) (vs : List Value), WellAll P h vs (ns.map WData.int) → IntsAre vs ns := by
  intro ns
  induction ns with
  | nil =>
    intro vs w
    rw [List.map_nil] at w
    cases w
    exact .nil
  | cons n ns ih =>
    intro vs w
    rw [List.map_cons] at w
    cases w with
    | cons a b =>
      cases a
      exact .cons _ _ (ih _ b)
theorem script_of {l : OpenLaw} {n : Nat} (hn : l.most = some n) {P : Params} {h : Heap} {args : List WData} {vals : List Value}
    (hpre : l.row.toRowW.claim.pre args = true) (hwl : WellAll P h vals args) :
    ∃ a vs ns, vals = [Value.ref a] ∧ args = [WData.list (ns.map WData.int)] ∧ h.get? a = some { cls := .type "list", data := .seq vs.toArray } ∧ IntsAre vs ns ∧ ns.length ≤ n := by
  have hsh : WShape.hasAll [] args [.list .int] = true := (pre_splitW hpre).1
  have hc : l.pre.holds [] { args := args } = true := (pre_splitW hpre).2
  obtain ⟨d, r, rfl, h1, h2⟩ := hasAllW_cons hsh
  obtain rfl := hasAllW_nil h2
  obtain ⟨xs, rfl, h3⟩ := hasW_list h1
  obtain ⟨ns, rfl⟩ := items_int h3
  have hlen : ns.length ≤ n := by
    unfold OpenLaw.pre at hc
    have h4 : (WTm.not (.lt (.lit (.int (n : Int))) (.len (.arg 0)))).holds [] { args := [.list (ns.map .int)] } = true := by
      have h4 := (holds_andW hc).1
      rw [hn] at h4
      exact h4
    have h5 := condW_of h4 (w_not (w_lt w_lit (w_len_list (w_arg rfl))))
    rw [List.length_map] at h5
    refine Nat.le_of_not_lt fun q => ?_
    have q' : (n : Int) < ((ns.length : Nat) : Int) := by omega
    first
      | (rw [decide_eq_true q'] at h5; exact absurd h5 (by decide))
      | (simp at h5; omega)
  cases hwl with
  | cons w1 w2 =>
    cases w2
    cases w1 with
    | list ho hall => exact ⟨_, _, ns, rfl, rfl, ho, ints_of_wellAll ns _ hall, hlen⟩
theorem post_true (l : OpenLaw) (args : List WData) : l.row.toRowW.claim.post args (.bool true) args = true :=
  postW_of (r := l.row.toRowW) (X := (true == true))
    (show WShape.has [] (.bool true) .bool = true by first | rfl | decide | simp [WShape.has, WShape.arms, WShape.armsAll])
    (show (WTm.eq .res (.lit (.bool true))).value [] { args := args, res := some (.bool true), after := args } = some (.bool (true == true)) from w_eq_bool (w_res rfl) w_lit) rfl
theorem attach_call {l : OpenLaw} {n : Nat} {q : Program} {loose : List Str} {XP : (Str → Option Value) → Heap → Prop} {YP : World → Heap → Prop} {d : DefRec}
    (hn : l.most = some n) (hdf : d.params.defaults = [])
    (call : ∀ (w : World) (s₀ s₁ : Shared) (mg mb : Str → Option Value) (fa : Addr) (o : Obj) (pm cd doc : Value) (a : Addr) (vs : List Value) (ns : List Int),
      Ground q loose [] XP w s₀ mg mb s₁.heap → YP w s₁.heap →
      s₁.heap.get? fa = some o → o.data = .func (docDef d.name d.params d.body d.scope pm cd doc) → s₁.heap.CodeRec cd d.name → mg d.name = some (.ref fa) →
      s₁.heap.get? a = some { cls := .type "list", data := .seq vs.toArray } → IntsAre vs ns → ns.length ≤ n → s₁.gens = #[] →
      codeAny (model l.prog w) callerA (.call (.ref fa) ⟨[.ref a], []⟩) (fun r s' => r = .ok (.ret (.bool true)) ∧ OldK s₁.heap s'.heap ∧ s'.os = s₁.os ∧ AllBare s'.gens) s₁) :
    WalkO q loose XP YP l.row.toRowW d [] (fun f vs => PySem.call f vs) := by
  intro w s₀ s₁ mg mb G Y fa o pm cd doc dV kV ho hd hcd hD hmg hg args vals as hpre hlay hrd hwl hlo
  obtain rfl : dV = .none := Dflts.none hD hdf
  obtain rfl : kV = .none := Dflts.noKw hD
  obtain ⟨a, vs, ns, rfl, rfl, hobj, hints, hlen⟩ := script_of hn hpre hwl
  refine enter_call (codeAny_mono (call w s₀ s₁ mg mb fa o pm cd doc a vs ns G Y ho (fd_plain hd) hcd hmg hobj hints hlen hg) fun r s' hq => ?_)
  obtain ⟨rfl, h2, h3, h4⟩ := hq
  exact ⟨.inl ⟨.bool true, .bool true, [], rfl, fun _ => rfl, .bool true, post_true l _, fun _ => ⟨List.Pairwise.nil, fun _ hm => (nomatch hm)⟩⟩, h2, h3, h4⟩
section
variable {prog : Program} {w : World} {A : Around} {E : Value → Shared → Prop} {s : Shared} {K : Frag}
end
end Att
namespace L2
open PySem PySem.Spec PyProof.Rows
theorem vals_ints : ∀ {vs : List Value} {ns : List Int}, IntsAre vs ns → Vals (ns.map V.int) vs
  | _, _, .nil => .nil
  | _, _, .cons n t h => .cons ⟨t, rfl⟩ (vals_ints h)
def Only (H : Hp) : Prop := ∀ b, H b = none ∨ ∃ o xs, H b = some (.frz o (.lst xs))
theorem law_call {P : Program} {w : World} {K : PySem.W.Frag} {mg mb : Str → Option Value} {CX : CXT} {k : Nat} {fa a : Addr} {fd : FuncData} {x : Str} {sp : Sp} {s₁ : Shared} {vs : List Value} {ns : List Int}
    (KX : K.In s₁.heap) (hns : s₁.heap.Ns mainGlobals mg) (hb : s₁.heap.Ns builtinsNs mb) (hbb : ∀ x : Str, x ≠ "__name__" → mb x = bootBuiltins x) (hlim : s₁.heap.NoLimit) (hg : s₁.gens = #[])
    (ha : s₁.heap.get? a = some { cls := .type "list", data := .seq vs.toArray }) (hi : IntsAre vs ns) (hl : ns.length ≤ sizeLine) (hr : Room k callerA)
    (F : ∀ base : Heap, K.In base → base.Ns mainGlobals mg → FnOk P w K mg base CX k fa fd [x] sp) (hbind : ∀ (s : Shared) (u : Value), BindsTo s fd ⟨[u], []⟩ [(x, u)])
    (hsp : ∀ H : Hp, Only H → SqL K H a (ns.map V.int) → sp [.ref a] H (fun v _ => v = .bl true) fun _ _ _ => False)
    (hCX : ∀ H e s', CX [] H s₁ (fun _ _ _ => False) e s' → False) :
    codeAny (model P w) callerA (.call (.ref fa) ⟨[.ref a], []⟩) (fun r s' => r = .ok (.ret (.bool true)) ∧ OldK s₁.heap s'.heap ∧ s'.os = s₁.os ∧ AllBare s'.gens) s₁ := by
  have rv := vals_ints hi
  have lenV := hi.length
  have core : ∀ H : Hp, Only H → SqL K H a (ns.map V.int) → HOk P w H s₁.heap → (∀ b, H b ≠ none → b = a) → (H a ≠ none → K.lookup a = none) →
      codeAny (model P w) callerA (.call (.ref fa) ⟨[.ref a], []⟩) (fun r s' => r = .ok (.ret (.bool true)) ∧ OldK s₁.heap s'.heap ∧ s'.os = s₁.os ∧ AllBare s'.gens) s₁ := by
    intro H hO hS hok hA hK
    have base_of : ∀ {b : Addr} {o : Obj}, s₁.heap.get? b = some o → H b = none → (hidT s₁.heap H).get? b = some o := fun e n => hidT_get e n
    have noA : ∀ {b : Addr} {o : Obj} {es : Array DictEntry} {ep : Nat}, s₁.heap.get? b = some o → o.data = .dict es ep → H b = none := fun {b o es ep} e d => by
      cases q : H b with
      | none => rfl
      | some u =>
        have e' : b = a := hA b (by rw [q]; simp)
        subst e'
        rw [ha] at e; cases e
        have d' : Data.seq vs.toArray _ = Data.dict es ep := d
        cases d'
    have nsK : ∀ {b : Addr} {m : Str → Option Value}, s₁.heap.Ns b m → (hidT s₁.heap H).Ns b m := fun {b m} ⟨o, es, ep, e, d, r⟩ => ⟨o, es, ep, base_of e (noA e d), d, r⟩
    have hKb : K.In (hidT s₁.heap H) := fun b o e => base_of (KX b o e) (by
      cases q : H b with
      | none => rfl
      | some u =>
        have e' : b = a := hA b (by rw [q]; simp)
        subst e'
        rw [hK (by rw [q]; simp)] at e; cases e)
    have hM : Mod K mg (hidT s₁.heap H) := ⟨hKb, nsK hns, ⟨mb, nsK hb, hbb⟩, let ⟨mc, h1, h2⟩ := hlim; ⟨mc, nsK h1, h2⟩⟩
    have e0 : Env0 P w K mg (hidT s₁.heap H) callerA [] s₁ H := ⟨rfl, hM, fun b o e => of_hidT e, Nat.le_of_eq (hidT_size _ _), trivial, fun b hb => absurd (show b ∈ ([] : List Addr) from hb) (by simp), hok, .of_eq hg⟩
    refine codeAny_mono ((F _ hKb (nsK hns)).run callerA [] s₁ H ⟨[.ref a], []⟩ [.ref a] [.ref a] _ _ hr e0 (hbind s₁ (.ref a)) (.cons rfl .nil) (hsp H hO hS)) fun r s' h => ?_
    cases r with
    | error e => exact (hCX H e s' h).elim
    | ok fl =>
      cases fl with
      | next => exact False.elim h
      | brk => exact False.elim h
      | cont => exact False.elim h
      | ret u =>
        obtain ⟨v, H', os, bare, un, hok', r', q⟩ := h
        have q' : v = .bl true := q
        subst q'
        obtain rfl : u = Value.bool true := r'
        refine ⟨rfl, OldK.of_keep fun b o e => ?_, os, bare⟩
        cases q : H b with
        | none => exact un.keep b o e q (by intro z; exact absurd (show b ∈ ([] : List Addr) from z) (by simp)) (by simp)
        | some u =>
          rcases hO b with z | ⟨ob, xs, z⟩
          · rw [q] at z; cases z
          · have z2 := un.frzs b ob _ z
            obtain ⟨e1, _⟩ := hok b _ z
            obtain ⟨e2, _⟩ := hok' b _ z2
            rw [e] at e1; cases e1
            exact e2
  cases hk : K.lookup a with
  | some o =>
    have e := KX a o hk
    rw [ha] at e
    cases e
    refine core (fun _ => none) (fun _ => .inl rfl) (.inr ⟨_, vs.toArray, _, hk, rfl, rfl, rfl, by rw [List.size_toArray, lenV]; exact hl, by simpa using rv⟩) (fun b u z => by have z' : (none : Option HO) = some u := z; cases z') (fun b z => absurd rfl z) fun z => absurd rfl z
  | none =>
    refine core (fun b => if b = a then some (.frz { cls := .type "list", data := .seq vs.toArray } (.lst (ns.map V.int))) else none) (fun b => ?_) (.inl (.inr ⟨{ cls := .type "list", data := .seq vs.toArray }, if_pos rfl⟩)) (fun b u z => ?_) (fun b z => ?_) fun _ => hk
    · by_cases hb : b = a
      · exact .inr ⟨_, _, if_pos hb⟩
      · exact .inl (if_neg hb)
    · by_cases hb : b = a
      · have z' := (if_pos hb).symm.trans z
        cases z'
        subst hb
        exact ⟨ha, by rw [List.length_map]; exact hl, vs, _, rv, ha⟩
      · have z' := (if_neg hb).symm.trans z
        cases z'
    · by_cases hb : b = a
      · exact hb
      · exact absurd (if_neg hb) z
end L2
namespace L2
open PySem PySem.Spec PyProof.Rows
theorem walk_of {l : PySem.W.OpenLaw} {n k : Nat} {q : Program} {loose : List Str} {XP : (Str → Option Value) → Heap → Prop} {YP : World → Heap → Prop} {d : DefRec} {K : Params → PySem.W.Frag} {CX : World → CXT} {sp : World → Sp} {x : Str}
    (hn : l.most = some n) (hn2 : n ≤ sizeLine) (hdf : d.params.defaults = []) (hr : Room k callerA)
    (hY : ∀ (w : World) (h : Heap), YP w h → (K w.params).In h)
    (F : ∀ (w : World) (mg : Str → Option Value) (fa : Addr) (h : Heap), (K w.params).In h → h.Ns mainGlobals mg → mg d.name = some (.ref fa) →
      ∃ fd : FuncData, (∀ (s : Shared) (u : Value), BindsTo s fd ⟨[u], []⟩ [(x, u)]) ∧
        ∀ base : Heap, (K w.params).In base → base.Ns mainGlobals mg → FnOk l.prog w (K w.params) mg base (CX w) k fa fd [x] (sp w))
    (hsp : ∀ (w : World) (H : Hp) (a : Addr) (ns : List Int), ns.length ≤ n → Only H → SqL (K w.params) H a (ns.map V.int) → sp w [.ref a] H (fun v _ => v = .bl true) fun _ _ _ => False)
    (hCX : ∀ (w : World) (H : Hp) (s : Shared) (e : Value) (s' : Shared), CX w [] H s (fun _ _ _ => False) e s' → False) :
    PySem.W.WalkO q loose XP YP l.row.toRowW d [] (fun f vs => PySem.call f vs) := by
  refine Att.attach_call hn hdf fun w s₀ s₁ mg mb fa o pm cd doc a vs ns G Y ho hd hcd hmg hobj hints hlen hg => ?_
  have KX := hY w _ Y
  obtain ⟨fd, hb, hF⟩ := F w mg fa _ KX G.T.g hmg
  exact law_call KX G.T.g G.T.b G.T.builtins G.T.nolimit hg hobj hints (Nat.le_trans hlen hn2) hr hF hb (fun H hO hS => hsp w H a ns hlen hO hS) fun H e s' => hCX w H s₁ e s'
end L2
namespace L2
open PySem PySem.Spec PyProof.Rows
def inClass (s : Stmt) (j : Nat) : Stmt := match s with
  | .ClassDef _ _ _ body _ _ _ _ _ _ _ => body.getD j (.Pass ⟨0, 0, 0, 0⟩)
  | _ => .Pass ⟨0, 0, 0, 0⟩
def defArgs (s : Stmt) : Arguments := match s with
  | .FunctionDef _ a _ _ _ _ _ _ _ _ => a
  | _ => { posonlyargs := [], args := [], vararg := none, kwonlyargs := [], kw_defaults := [], kwarg := none, defaults := [] }
def defBody (s : Stmt) : List Stmt := match s with
  | .FunctionDef _ _ b _ _ _ _ _ _ _ => b
  | _ => []
def defScope (s : Stmt) : Scope := match s with
  | .FunctionDef _ _ _ _ _ _ sc _ _ _ => sc
  | _ => { kind := .function, names := [], isGenerator := false, isCoroutine := false }
structure Fun (K : PySem.W.Frag) (x qual : Str) (st : Stmt) (f : Addr) (fd : FuncData) : Prop where
  ex : ∃ (oc : Value) (od : Option Addr) (kV doc pm : Value) (an : Option Addr) (cdv ct : Value) (osl : Array (Option Value)),
    fd = PySem.W.fnOf x qual (defArgs st) (defBody st) (defScope st) .none kV doc pm an cdv ct ∧ K.lookup f = some ⟨oc, od, .func fd, osl⟩ ∧ PySem.W.codeIn K cdv qual = true
  kp : PySem.W.keepIn K (.ref f) = true
section
variable {P : Program} {w : World} {K : PySem.W.Frag} {mg : Str → Option Value} {base : Heap}
theorem Fun.binds {x qual : Str} {st : Stmt} {f : Addr} {fd : FuncData} {ps : List Str} (F : Fun K x qual st f fd)
    (h : ∀ (kV doc pm : Value) (an : Option Addr) (cdv ct : Value) (us : List Value), us.length = ps.length → bindArgs (PySem.W.fnOf x qual (defArgs st) (defBody st) (defScope st) .none kV doc pm an cdv ct) ⟨us, []⟩ = pure (ps.zip us)) : Binds K fd ps [] := by
  obtain ⟨oc, od, kV, doc, pm, an, cdv, ct, osl, rfl, lk, hcd⟩ := F.ex
  exact .all (h kV doc pm an cdv ct)
theorem fun_mk {x qual : Str} {st : Stmt} {f : Addr} {oc : Value} {od an : Option Addr} {osl : Array (Option Value)} {kV doc pm cdv ct : Value} (l : K.lookup f = some ⟨oc, od, .func (PySem.W.fnOf x qual (defArgs st) (defBody st) (defScope st) .none kV doc pm an cdv ct), osl⟩)
    (c : PySem.W.codeIn K cdv qual = true) (k : PySem.W.keepIn K (.ref f) = true) : Fun K x qual st f (PySem.W.fnOf x qual (defArgs st) (defBody st) (defScope st) .none kV doc pm an cdv ct) := ⟨⟨oc, od, kV, doc, pm, an, cdv, ct, osl, rfl, l, c⟩, k⟩
end
theorem small1000 {n : Nat} (h : n ≤ 1000) : n < sizeLine := Nat.lt_of_le_of_lt h (by decide)
section
variable {X : Cx}
theorem pv (i : Nat) {x : Str} {pos : Pos} (hN : X.N[i]? = some x := by rfl) (hv : Vis X.env.scope x := by first | exact Or.inl rfl | exact Or.inr (Or.inl rfl) | exact Or.inr (Or.inr rfl)) (hd : (x == ("__debug__" : Str)) = false := by decide)
    (hcd : (x == ("__classdict__" : Str)) = false := by decide) : PE X (.Name x pos) (tVar i) := pe_var hN hv hd hcd
end
theorem iteF {A B : Prop} (h : B) : if false = true then A else B := by
  rw [if_neg Bool.false_ne_true]
  exact h
theorem iteT {A B : Prop} (h : A) : if true = true then A else B := by
  rw [if_pos rfl]
  exact h
theorem ite2 {c A B : Prop} [Decidable c] (h1 : c → A) (h2 : ¬ c → B) : if c then A else B := by
  by_cases h : c
  · rw [if_pos h]
    exact h1 h
  · rw [if_neg h]
    exact h2 h
def Same (H H' : Hp) : Prop := ∀ b o, H b = some o → H' b = some o
theorem Same.refl (H : Hp) : Same H H := fun _ _ h => h
theorem Same.trans {H H1 H2 : Hp} (a : Same H H1) (b : Same H1 H2) : Same H H2 := fun c o h => b c o (a c o h)
theorem Same.seq {K : PySem.W.Frag} {H H' : Hp} {a : Addr} {xs : List V} (e : Same H H') (h : SqL K H a xs) : SqL K H' a xs := by
  rcases h with (h | ⟨o, h⟩) | h
  · exact .inl (.inl (e _ _ h))
  · exact .inl (.inr ⟨o, e _ _ h⟩)
  · exact .inr h
end L2
namespace L2
open PySem PySem.Spec PyProof.Rows
section
variable {κ : Type} [DecidableEq κ]
def valV (kvs : List (κ × V)) (k : κ) : Option V := (kvs.find? fun kv => decide (kv.1 = k)).map (·.2)
def putK (kvs : List (κ × V)) (k : κ) (v : V) : List (κ × V) :=
  if (kvs.any fun kv => decide (kv.1 = k)) = true then kvs.map (fun kv => if kv.1 = k then (kv.1, v) else kv) else kvs ++ [(k, v)]
theorem valV_pos {p : κ × V} {r : List (κ × V)} {k : κ} (e : p.1 = k) : valV (p :: r) k = some p.2 := by simp [valV, List.find?_cons, e]
theorem valV_neg {p : κ × V} {r : List (κ × V)} {k : κ} (e : ¬ p.1 = k) : valV (p :: r) k = valV r k := by simp [valV, List.find?_cons, e]
theorem valV_any (k : κ) : ∀ kvs : List (κ × V), (kvs.any fun kv => decide (kv.1 = k)) = (valV kvs k).isSome
  | [] => rfl
  | p :: r => by
    rw [List.any_cons]
    by_cases e : p.1 = k
    · simp only [valV_pos e, decide_eq_true e, Bool.true_or, Option.isSome_some]
    · rw [valV_neg e, decide_eq_false e, Bool.false_or]; exact valV_any k r
theorem valV_map (k j : κ) (y : V) : ∀ kvs : List (κ × V), valV (kvs.map fun kv => if kv.1 = k then (kv.1, y) else kv) j = (valV kvs j).map fun x => if j = k then y else x
  | [] => rfl
  | p :: r => by
    have ih := valV_map k j y r
    rw [List.map_cons]
    by_cases h : p.1 = k
    · rw [if_pos h]
      by_cases e : p.1 = j
      · rw [valV_pos (p := (p.1, y)) e, valV_pos e, Option.map_some, if_pos (e.symm.trans h)]
      · rw [valV_neg (p := (p.1, y)) e, valV_neg e, ih]
    · rw [if_neg h]
      by_cases e : p.1 = j
      · rw [valV_pos (p := p) e, valV_pos e, Option.map_some, if_neg (fun z => h (e.trans z))]
      · rw [valV_neg (p := p) e, valV_neg e, ih]
theorem valV_snoc (k j : κ) (y : V) : ∀ kvs : List (κ × V), valV kvs k = none → valV (kvs ++ [(k, y)]) j = if j = k then some y else valV kvs j
  | [], _ => by
    by_cases e : k = j
    · rw [if_pos e.symm]; exact valV_pos (p := (k, y)) e
    · rw [if_neg (fun z => e z.symm)]; exact valV_neg (p := (k, y)) e
  | p :: r, hn => by
    rw [List.cons_append]
    have hk : ¬ p.1 = k := fun z => by rw [valV_pos z] at hn; cases hn
    rw [valV_neg hk] at hn
    have ih := valV_snoc k j y r hn
    by_cases e : p.1 = j
    · rw [valV_pos e, valV_pos e, if_neg (fun z => hk (e.trans z))]
    · rw [valV_neg e, valV_neg e, ih]
theorem valV_put (kvs : List (κ × V)) (k j : κ) (y : V) : valV (putK kvs k y) j = if j = k then some y else valV kvs j := by
  unfold putK
  by_cases a : (kvs.any fun kv => decide (kv.1 = k)) = true
  · rw [if_pos a, valV_map]
    rw [valV_any] at a
    by_cases e : j = k
    · obtain ⟨x, hx⟩ := Option.isSome_iff_exists.mp a
      rw [if_pos e, e, hx, Option.map_some, if_pos rfl]
    · rw [if_neg e]
      cases valV kvs j with
      | none => rfl
      | some x => rw [Option.map_some, if_neg e]
  · rw [if_neg a]
    refine valV_snoc k j y kvs ?_
    rw [valV_any] at a
    cases q : valV kvs k with
    | none => rfl
    | some x => rw [q] at a; exact (a rfl).elim
theorem length_putK (kvs : List (κ × V)) (k : κ) (v : V) : (putK kvs k v).length ≤ kvs.length + 1 := by
  unfold putK
  split
  · rw [List.length_map]; omega
  · rw [List.length_append, List.length_cons, List.length_nil]; omega
theorem putK_new {kvs : List (κ × V)} {k : κ} (v : V) (h : valV kvs k = none) : putK kvs k v = kvs ++ [(k, v)] := by
  unfold putK
  rw [valV_any, h]
  exact if_neg (by decide)
theorem RelO.isSome_eq {o : Option V} {u : Option Value} (r : RelO o u) : o.isSome = u.isSome := by
  cases o with
  | none => cases u with
    | none => rfl
    | some _ => exact (show False from r).elim
  | some _ => cases u with
    | none => exact (show False from r).elim
    | some _ => rfl
theorem KV.val {kvs : List (κ × V)} {vs : List (κ × Value)} (r : KV kvs vs) (k : κ) : RelO (valV kvs k) (valueAt vs k) := by
  unfold KV at r
  induction r with
  | nil => exact True.intro
  | @cons p q ps qs h t ih =>
    obtain ⟨h1, h2⟩ := h
    by_cases e : p.1 = k
    · have e' : q.1 = k := h1.symm.trans e
      have b : valueAt (q :: qs) k = some q.2 := by simp [valueAt, List.find?_cons, e']
      rw [valV_pos e, b]; exact h2
    · have e' : ¬ q.1 = k := fun z => e (h1.trans z)
      have b : valueAt (q :: qs) k = valueAt qs k := by simp [valueAt, List.find?_cons, e']
      rw [valV_neg e, b]; exact ih
theorem KV.any {kvs : List (κ × V)} {vs : List (κ × Value)} (r : KV kvs vs) (k : κ) : (kvs.any fun kv => decide (kv.1 = k)) = vs.any fun kv => decide (kv.1 = k) := by
  unfold KV at r
  induction r with
  | nil => rfl
  | cons h t ih => rw [List.any_cons, List.any_cons, ih, h.1]
theorem KV.repl {kvs : List (κ × V)} {vs : List (κ × Value)} (r : KV kvs vs) (k : κ) {y : V} {u : Value} (ry : RelV y u) :
    KV (kvs.map fun kv => if kv.1 = k then (kv.1, y) else kv) (vs.map fun kv => if kv.1 = k then (kv.1, u) else kv) := by
  unfold KV at r ⊢
  induction r with
  | nil => exact .nil
  | @cons p q ps qs h t ih =>
    rw [List.map_cons, List.map_cons]
    refine .cons ?_ ih
    obtain ⟨h1, h2⟩ := h
    by_cases e : p.1 = k
    · rw [if_pos e, if_pos (h1.symm.trans e)]; exact ⟨h1, ry⟩
    · rw [if_neg e, if_neg (fun z => e (h1.trans z))]; exact ⟨h1, h2⟩
theorem KV.put {kvs : List (κ × V)} {vs : List (κ × Value)} (r : KV kvs vs) (k : κ) {y : V} {u : Value} (ry : RelV y u) : KV (putK kvs k y) (stored vs k u) := by
  unfold putK stored
  rw [r.any k]
  by_cases e : (vs.any fun kv => decide (kv.1 = k)) = true
  · rw [if_pos e, if_pos e]; exact r.repl k ry
  · rw [if_neg e, if_neg e]; exact Paired.snoc r ⟨rfl, ry⟩
theorem KV.length {kvs : List (κ × V)} {vs : List (κ × Value)} (r : KV kvs vs) : kvs.length = vs.length := Paired.length r
end
theorem kV_is {P : Program} {w : World} {k : Key} {u : Value} (r : RelV (kV k) u) : (mixKind P w).is k u = true := by
  cases k with
  | inl i => obtain ⟨t, e⟩ := (show ∃ t, u = Value.int i t from r); subst e; exact mixKind_int P w i t
  | inr x => obtain ⟨t, e⟩ := (show ∃ t, u = Value.str x t from r); subst e; exact mixKind_str P w x t
theorem kV_inj {a b : Key} (e : kV a = kV b) : a = b := by
  cases a with
  | inl i => cases b with
    | inl j => have e' : V.int i = V.int j := e; injection e' with e'; rw [e']
    | inr y => exact nomatch (show V.int i = V.str y from e)
  | inr x => cases b with
    | inl j => exact nomatch (show V.str x = V.int j from e)
    | inr y => have e' : V.str x = V.str y := e; injection e' with e'; rw [e']
theorem items_are {P : Program} {w : World} : ∀ {ks : List Key} {us : List Value}, Vals (ks.map kV) us → ItemsAre (mixKind P w) ks us
  | [], _, r => by rw [List.map_nil] at r; cases r; exact .nil
  | k :: ks, _, r => by
    rw [List.map_cons] at r
    cases r with
    | cons h t => exact .cons (kV_is h) (items_are t)
abbrev KT (H : Hp) : List (List Key × V) → List (List Key × Addr × Value) → Prop := Paired fun p q => p.1 = q.1 ∧ H q.2.1 = some (.tup (p.1.map kV)) ∧ RelV p.2 q.2.2
theorem KT.val {H : Hp} {kvs : List (List Key × V)} {xs : List (List Key × Addr × Value)} (r : KT H kvs xs) (k : List Key) : RelO (valV kvs k) ((atKey xs k).map (·.2)) := by
  induction r with
  | nil => exact True.intro
  | @cons p q ps qs h t ih =>
    obtain ⟨h1, _, h2⟩ := h
    by_cases e : p.1 = k
    · have e' : q.1 = k := h1.symm.trans e
      have b : atKey (q :: qs) k = some q.2 := by simp [atKey, List.find?_cons, e']
      rw [valV_pos e, b]; exact h2
    · have e' : ¬ q.1 = k := fun z => e (h1.trans z)
      have b : atKey (q :: qs) k = atKey qs k := by simp [atKey, List.find?_cons, e']
      rw [valV_neg e, b]; exact ih
theorem KT.repl {H : Hp} {kvs : List (List Key × V)} {xs : List (List Key × Addr × Value)} (r : KT H kvs xs) (k : List Key) {y : V} {u : Value} (ry : RelV y u) :
    KT H (kvs.map fun kv => if kv.1 = k then (kv.1, y) else kv) (xs.map (putAt k u)) := by
  induction r with
  | nil => exact .nil
  | @cons p q ps qs h t ih =>
    rw [List.map_cons, List.map_cons]
    refine .cons ?_ ih
    obtain ⟨h1, h2, h3⟩ := h
    unfold putAt
    by_cases e : p.1 = k
    · rw [if_pos e, if_pos (h1.symm.trans e)]; exact ⟨h1, h2, ry⟩
    · rw [if_neg e, if_neg (fun z => e (h1.trans z))]; exact ⟨h1, h2, h3⟩
theorem KT.put {H : Hp} {kvs : List (List Key × V)} {xs : List (List Key × Addr × Value)} (r : KT H kvs xs) (k : List Key) {b : Addr} {y : V} {u : Value} (hb : H b = some (.tup (k.map kV))) (ry : RelV y u) :
    KT H (putK kvs k y) (storedH xs k b u) := by
  have e : (kvs.any fun kv => decide (kv.1 = k)) = (atKey xs k).isSome := by
    rw [valV_any, (r.val k).isSome_eq, Option.isSome_map]
  unfold putK storedH
  rw [e]
  by_cases q : (atKey xs k).isSome = true
  · rw [if_pos q, if_pos q]; exact r.repl k ry
  · rw [if_neg q, if_neg q]; exact Paired.snoc r ⟨rfl, hb, ry⟩
theorem KT.keeps {H H' : Hp} {kvs : List (List Key × V)} {xs : List (List Key × Addr × Value)} (r : KT H kvs xs) (ht : ∀ b ys, H b = some (.tup ys) → H' b = some (.tup ys)) : KT H' kvs xs :=
  Paired.mapP r fun _ _ z => ⟨z.1, ht _ _ z.2.1, z.2.2⟩
section
variable {P : Program} {w : World} {H : Hp} {h : Heap} {a : Addr}
theorem rd_of {u : HO} (ok : HOk P w H h) (e : Rd H a u) : ObjOk P w H h a u := e.ok ok
theorem dk_rd {kvs : List (Key × V)} (ok : HOk P w H h) (e : Rd H a (.dK kvs)) : kvs.length ≤ sizeLine ∧ (a == sysModules) = false ∧ ∃ vs, KV kvs vs ∧ h.DictOf (mixKind P w) a vs :=
  show ObjOk P w H h a (.dK kvs) from rd_of ok e
theorem dk_of {kvs : List (Key × V)} (ok : HOk P w H h) (e : H a = some (.dK kvs)) : kvs.length ≤ sizeLine ∧ (a == sysModules) = false ∧ ∃ vs, KV kvs vs ∧ h.DictOf (mixKind P w) a vs := dk_rd ok (.inl e)
theorem key_of {ks : List Key} (ok : HOk P w H h) (e : H a = some (.tup (ks.map kV))) : (tupleKind (mixKind P w)).is h ks a := by
  obtain ⟨_, its, r, o, h1, h2, n, h3⟩ := (show ObjOk P w H h a (.tup (ks.map kV)) from ok a _ e)
  exact ⟨o, its.toArray, n, h1, h2, h3, by simpa using items_are r⟩
theorem dt_rd {kvs : List (List Key × V)} (ok : HOk P w H h) (e : Rd H a (.dT kvs)) : kvs.length ≤ sizeLine ∧ (a == sysModules) = false ∧
    ∃ xs, KT H kvs xs ∧ h.DictOfH (tupleKind (mixKind P w)) a xs := by
  obtain ⟨z, y, xs, r, o, es, ep, h1, h2, h3, h4, h5⟩ := (show ObjOk P w H h a (.dT kvs) from rd_of ok e)
  refine ⟨z, y, xs, r, o, es, ep, h1, h2, h3, h4, fun x hx => ?_, h5⟩
  have all : ∀ {l : List (List Key × V)} {m : List (List Key × Addr × Value)}, KT H l m → ∀ x ∈ m, (tupleKind (mixKind P w)).is h x.1 x.2.1 := by
    intro l m q
    induction q with
    | nil => intro x hx; exact nomatch hx
    | @cons p q ps qs hq t ih =>
      intro x hx
      rcases List.mem_cons.mp hx with e | hx
      · subst e
        exact key_of ok (by rw [← hq.1]; exact hq.2.1)
      · exact ih x hx
  exact all r x hx
theorem dt_of {kvs : List (List Key × V)} (ok : HOk P w H h) (e : H a = some (.dT kvs)) : kvs.length ≤ sizeLine ∧ (a == sysModules) = false ∧
    ∃ xs, KT H kvs xs ∧ h.DictOfH (tupleKind (mixKind P w)) a xs := dt_rd ok (.inl e)
end
def DGet (H : Hp) (a : Addr) (y : V) (r : Option V) : Prop :=
  (∃ kvs k, Rd H a (.dK kvs) ∧ y = kV k ∧ r = valV kvs k) ∨ ∃ kvs k b, Rd H a (.dT kvs) ∧ y = .ref b ∧ H b = some (.tup (k.map kV)) ∧ r = valV kvs k
def DPut (H : Hp) (a : Addr) (y v : V) (H' : Hp) : Prop :=
  (∃ kvs k, H a = some (.dK kvs) ∧ y = kV k ∧ kvs.length < sizeLine ∧ H' = upd H a (.dK (putK kvs k v))) ∨
  ∃ kvs k b, H a = some (.dT kvs) ∧ y = .ref b ∧ H b = some (.tup (k.map kV)) ∧ kvs.length < sizeLine ∧ H' = upd H a (.dT (putK kvs k v))
theorem DGet.k {H : Hp} {a : Addr} {kvs : List (Key × V)} {k : Key} (e : H a = some (.dK kvs)) : DGet H a (kV k) (valV kvs k) := .inl ⟨kvs, k, .inl e, rfl, rfl⟩
theorem DPut.k {H : Hp} {a : Addr} {kvs : List (Key × V)} {k : Key} {v : V} (e : H a = some (.dK kvs)) (hl : kvs.length < sizeLine) : DPut H a (kV k) v (upd H a (.dK (putK kvs k v))) := .inl ⟨kvs, k, e, rfl, hl, rfl⟩
section
variable {X : Cx} {pins : List (Addr × Obj)} {σ : St} {H : Hp} {s : Shared} {a : Addr} {y v : V} {u r : Value} {o : Option V} {A : Around} {E : Value → Shared → Prop}
theorem Inv.big (I : Inv X pins σ H s) : sysModules < s.heap.objs.size := by
  have h : mainGlobals < s.heap.objs.size := (I.mod.glob.keeps I.bk).lt
  exact Nat.lt_trans (by decide) h
theorem d_in {Q : Value → Shared → Prop} (hu : A.units + 1 < cLine) (I : Inv X pins σ H s) (g : DGet H a y o) (ry : RelV y u) (h : ∀ s', Inv X pins σ H s' → Q (.bool o.isSome) s') :
    wpAny (model X.prog X.w) A (compareOp .In u (.ref a)) Q E s := by
  rcases g with ⟨kvs, k, e, ey, l⟩ | ⟨kvs, k, b, e, ey, eb, l⟩
  · subst ey
    obtain ⟨z, hd, vs, rel, dd⟩ := dk_rd I.hok e
    refine wpAny_in_of (kV_is ry) hd dd.mapOf ?_
    rw [← (rel.val k).isSome_eq, ← l]
    exact h _ (I.tok _)
  · subst ey
    cases (show u = Value.ref b from ry)
    obtain ⟨z, hd, xs, rel, dd⟩ := dt_rd I.hok e
    refine wpAny_in_heap (tupleKind_room_in1 hu) (key_of I.hok eb) hd dd ?_
    have q := (rel.val k).isSome_eq
    rw [Option.isSome_map] at q
    rw [← q, ← l]
    exact h _ (I.tok _)
theorem d_notIn {Q : Value → Shared → Prop} (hu : A.units + 1 < cLine) (I : Inv X pins σ H s) (g : DGet H a y o) (ry : RelV y u) (h : ∀ s', Inv X pins σ H s' → Q (.bool (!o.isSome)) s') :
    wpAny (model X.prog X.w) A (compareOp .NotIn u (.ref a)) Q E s := by
  rcases g with ⟨kvs, k, e, ey, l⟩ | ⟨kvs, k, b, e, ey, eb, l⟩
  · subst ey
    obtain ⟨z, hd, vs, rel, dd⟩ := dk_rd I.hok e
    refine wpAny_notIn_of (kV_is ry) hd dd.mapOf ?_
    rw [← (rel.val k).isSome_eq, ← l]
    exact h _ (I.tok _)
  · subst ey
    cases (show u = Value.ref b from ry)
    obtain ⟨z, hd, xs, rel, dd⟩ := dt_rd I.hok e
    refine wpAny_notIn_heap (tupleKind_room_in1 hu) (key_of I.hok eb) hd dd ?_
    have q := (rel.val k).isSome_eq
    rw [Option.isSome_map] at q
    rw [← q, ← l]
    exact h _ (I.tok _)
theorem d_write {h' : Heap} {t' : Nat} {ob : HO} (I : Inv X pins σ H s) (mu : Mut (H a)) (hs : Heap.SameBut a s.heap h') (he : ∃ q, h'.get? a = some q) (new : ObjOk X.prog X.w (upd H a ob) h' a ob) :
    Inv X pins σ (upd H a ob) { s with heap := h', toks := t' } :=
  I.write (x := a) (e := a) mu (.inl rfl) (fun b q hb z => (hs.2 b hb).trans z) he new
theorem dk_new {P : Program} {w : World} {H' : Hp} {h' : Heap} {kvs : List (Key × V)} {vs : List (Key × Value)} (z : kvs.length ≤ sizeLine) (hd : (a == sysModules) = false) (rel : KV kvs vs) (dd : h'.DictOf (mixKind P w) a vs) :
    ObjOk P w H' h' a (.dK kvs) := ⟨z, hd, vs, rel, dd⟩
theorem d_setItem {H' : Hp} {Q : Unit → Shared → Prop} (hu : A.units + 1 < cLine) (I : Inv X pins σ H s) (g : DPut H a y v H') (ry : RelV y u) (rv : RelV v r) (h : ∀ s', Inv X pins σ H' s' → Q () s') :
    wpAny (model X.prog X.w) A (setItem (.ref a) u r) Q E s := by
  rcases g with ⟨kvs, k, e, ey, l, eH⟩ | ⟨kvs, k, b, e, ey, eb, l, eH⟩
  · subst ey eH
    obtain ⟨z, hd, vs, rel, dd⟩ := dk_of I.hok e
    have hz : vs.length ≤ sizeLine := by rw [← rel.length]; exact z
    have hl : (putK kvs k v).length ≤ sizeLine := by have := length_putK kvs k v; omega
    refine wpAny_setItem_pairs (hsz := hz) (kV_is ry) dd fun h' dd' hs => h _ ?_
    have he : ∃ q, h'.get? a = some q := let ⟨q, _, _, hq, _⟩ := dd'; ⟨q, hq⟩
    exact d_write I (by rw [e]; exact True.intro) hs he (dk_new hl hd (rel.put k rv) dd')
  · subst ey eH
    cases (show u = Value.ref b from ry)
    obtain ⟨z, hd, xs, rel, dd⟩ := dt_of I.hok e
    have hz : xs.length ≤ sizeLine := by rw [← Paired.length rel]; exact z
    have hl : (putK kvs k v).length ≤ sizeLine := by have := length_putK kvs k v; omega
    refine wpAny_setItem_heap (hsz := hz) (tupleKind_room_in1 hu) (key_of I.hok eb) dd fun h' dd' hs => h _ ?_
    obtain ⟨q, es, ep, hq, h2, h3, h4, _, h5⟩ := dd'
    refine d_write I (by rw [e]; exact True.intro) hs ⟨q, hq⟩ ⟨hl, hd, _, (rel.put k eb rv).keeps fun c ys ec => ?_, q, es, ep, hq, h2, h3, h4, h5⟩
    rw [upd_ne (ne_of ec e (fun z => nomatch z))]
    exact ec
end
section
variable {X : Cx} {pins : List (Addr × Obj)} {σ : St} {H : Hp} {s : Shared} {a : Addr} {kvs : List (Key × V)} {k : Key} {u : Value} {A : Around} {E : Value → Shared → Prop}
theorem d_len {Q : Value → Shared → Prop} (I : Inv X pins σ H s) (e : Rd H a (.dK kvs)) (h : ∀ t s', Inv X pins σ H s' → Q (.int kvs.length t) s') : wpAny (model X.prog X.w) A (call (.builtin "len") [.ref a]) Q E s := by
  obtain ⟨z, hd, vs, rel, dd⟩ := dk_rd I.hok e
  refine call_len_dict hd dd (by rw [← rel.length]; rw [sizeLine_eq] at z; omega) ?_
  rw [← rel.length]
  exact h _ _ (I.tok _)
end
section
variable {X : Cx} {o i e value : Expr} {pos pos' tpos : Pos} {td ty tv : TE}
end
theorem dk_empty {P : Program} {w : World} {H : Hp} (h : Heap) (hb : sysModules < h.objs.size) : ObjOk P w H (h.push { cls := .type "dict", data := .dict #[] }) h.objs.size (.dK []) :=
  ⟨Nat.zero_le _, beq_eq_false_iff_ne.mpr (Ne.symm (Nat.ne_of_lt hb)), [], .nil, Heap.DictOf.new h⟩
def tDNewK : TE := fun _ H Q => ∀ p, H p = none → Q (.ref p) (upd H p (.dK []))
section
variable {X : Cx} {pos : Pos}
theorem pe_dnewK : PE X (.Dict [] [] pos) tDNewK := fun pins s σ H Q I h =>
  wpAny_Dict_empty ⟨.ref s.heap.objs.size, _, I.laid (a := s.heap.objs.size) (o := .dK []) (t' := s.toks) (fun _ _ q => Heap.get?_push_of_some _ q) (Nat.le_refl _) (dk_empty s.heap I.big), rfl, h _ (I.hok.fresh (Nat.le_refl _))⟩
end
def tPairs : List (TE × TE) → St → Hp → (List (V × V) → Hp → Prop) → Prop
  | [], _, H, Q => Q [] H
  | (tk, tv) :: r, σ, H, Q => tk σ H fun x H1 => tv σ H1 fun y H2 => tPairs r σ H2 fun ps H3 => Q ((x, y) :: ps) H3
abbrev VV : List (V × V) → List (Value × Value) → Prop := Paired fun p q => RelV p.1 q.1 ∧ RelV p.2 q.2
def PPs (X : Cx) (pos : Pos) (keys : List (Option Expr)) (values : List Expr) (trs : List (TE × TE)) : Prop :=
  ∀ (pins : List (Addr × Obj)) (s : Shared) (σ : St) (H : Hp) (Q : List (V × V) → Hp → Prop), Inv X pins σ H s → tPairs trs σ H Q →
    wpAny (model X.prog X.w) X.A (evalPairs (pairTrees keys values X.env pos)) (fun vs s' => ∃ ps H', Inv X pins σ H' s' ∧ VV ps vs ∧ Q ps H') X.xe s
theorem pps_nil {X : Cx} {pos : Pos} : PPs X pos [] [] [] := fun pins s σ H Q I h => pairTrees_nil_walk ⟨[], H, I, .nil, h⟩
theorem pps_cons {X : Cx} {pos : Pos} {k v : Expr} {ks : List (Option Expr)} {vs : List Expr} {tk tv : TE} {trs : List (TE × TE)} (hk : PE X k tk) (hv : PE X v tv) (hr : PPs X pos ks vs trs) :
    PPs X pos (some k :: ks) (v :: vs) ((tk, tv) :: trs) := fun pins s σ H Q I h =>
  pairTrees_cons_walk (thn (hk pins s σ H _ I h) fun u s1 ⟨x, H1, I1, rx, q1⟩ => thn (hv pins s1 σ H1 _ I1 q1) fun w2 s2 ⟨y, H2, I2, ry, q2⟩ =>
    thn (hr pins s2 σ H2 _ I2 q2) fun ws s3 ⟨ps, H3, I3, rel, q3⟩ => ⟨(x, y) :: ps, H3, I3, .cons ⟨rx, ry⟩ rel, q3⟩)
def mergeK (kvs more : List (Key × V)) : List (Key × V) := more.foldl (fun acc kv => putK acc kv.1 kv.2) kvs
theorem KV.merge : ∀ {more : List (Key × V)} {rs : List (Key × Value)} {kvs : List (Key × V)} {vs : List (Key × Value)}, KV more rs → KV kvs vs → KV (mergeK kvs more) (merged vs rs) := by
  intro more rs kvs vs r
  unfold KV at r
  induction r generalizing kvs vs with
  | nil => intro q; exact q
  | @cons p q ps qs h t ih =>
    intro r0
    have e : KV (putK kvs p.1 p.2) (stored vs q.1 q.2) := by
      have := r0.put p.1 h.2
      rw [← h.1]; exact this
    exact ih e
theorem length_mergeK : ∀ (more kvs : List (Key × V)), (mergeK kvs more).length ≤ kvs.length + more.length
  | [], kvs => by show kvs.length ≤ kvs.length + 0; omega
  | p :: r, kvs => by
    have h1 := length_mergeK r (putK kvs p.1 p.2)
    have h2 := length_putK kvs p.1 p.2
    show (mergeK (putK kvs p.1 p.2) r).length ≤ _
    rw [List.length_cons]; omega
theorem carries_of {P : Program} {w : World} : ∀ {kvs : List (Key × V)} {ws : List (Value × Value)}, VV (kvs.map fun kv => (kV kv.1, kv.2)) ws → ∃ rs, Carries (mixKind P w) ws rs ∧ KV kvs rs
  | [], _, r => by rw [List.map_nil] at r; cases r; exact ⟨[], True.intro, .nil⟩
  | p :: kvs, _, r => by
    rw [List.map_cons] at r
    cases r with
    | @cons a b as bs h t =>
      obtain ⟨rs, c, q⟩ := carries_of (P := P) (w := w) t
      obtain ⟨b1, b2⟩ := b
      exact ⟨(p.1, b2) :: rs, ⟨kV_is h.1, rfl, c⟩, .cons ⟨rfl, h.2⟩ q⟩
def tDisp (trs : List (TE × TE)) : TE := fun σ H Q => ∀ p, H p = none → tPairs trs σ (upd H p (.dK [])) fun ps H2 => H2 p = some (.dK []) ∧ ∃ kvs : List (Key × V), ps = kvs.map (fun kv => (kV kv.1, kv.2)) ∧ kvs.length ≤ 15 ∧ Q (.ref p) (upd H2 p (.dK (mergeK [] kvs)))
theorem pe_disp {X : Cx} {pos : Pos} {keys : List (Option Expr)} {values : List Expr} {trs : List (TE × TE)} (h : PPs X pos keys values trs) (hall : keys.all (·.isSome) = true) (hl : keys.length = values.length) (h0 : keys ≠ [])
    (h15 : keys.length ≤ 15) : PE X (.Dict keys values pos) (tDisp trs) := by
  intro pins s σ H Q I q
  have hn := I.hok.fresh (Nat.le_refl s.heap.objs.size)
  have I1 := I.laid (a := s.heap.objs.size) (o := .dK []) (h' := s.heap.push { cls := .type "dict", data := .dict #[] }) (t' := s.toks) (fun _ _ q => Heap.get?_push_of_some _ q) (Nat.le_refl _) (dk_empty s.heap I.big)
  refine wpAny_Dict_walk (knd := mixKind X.prog X.w) hall hl h0 h15 (thn (h pins _ σ _ _ I1 (q _ hn)) fun ws s2 ⟨ps, H2, I2, rel, e, kvs, ep, lk, q2⟩ => ?_)
  subst ep
  obtain ⟨rs, c, rk⟩ := carries_of (P := X.prog) (w := X.w) rel
  obtain ⟨z, hd, vs0, r0, dd⟩ := dk_of I2.hok e
  cases r0
  refine ⟨rs, c, dd, fun h' dd' hs => ⟨.ref s.heap.objs.size, _, ?_, rfl, q2⟩⟩
  have hz : (mergeK [] kvs).length ≤ sizeLine := by
    have h1 := length_mergeK kvs []
    rw [List.length_nil] at h1
    rw [sizeLine_eq]; omega
  have he : ∃ q, h'.get? s.heap.objs.size = some q := let ⟨q, _, _, hq, _⟩ := dd'; ⟨q, hq⟩
  exact d_write I2 (by rw [e]; exact True.intro) hs he (dk_new hz hd (rk.merge .nil) dd')
section
variable {X : Cx} {pins : List (Addr × Obj)} {σ : St} {H : Hp} {s : Shared} {a : Addr} {y d : V} {u r : Value} {o : Option V} {A : Around} {E : Value → Shared → Prop}
end
section
variable {X : Cx} {o e f : Expr} {apos cpos : Pos} {td ty tx : TE}
end
section
variable {X : Cx} {pins : List (Addr × Obj)} {σ : St} {H : Hp} {s : Shared} {a : Addr} {kvs : List (Key × V)} {A : Around} {E : Value → Shared → Prop}
end
section
variable {X : Cx} {pins : List (Addr × Obj)} {σ : St} {H : Hp} {s : Shared} {a : Addr} {y : V} {u : Value} {A : Around} {E : Value → Shared → Prop}
end
end L2
namespace L2
open PySem PySem.Spec PyProof.Rows
section
variable {X : Cx}
theorem call_lenD : CallR X (.builtin "len") (fun xs H Q => ∃ a kvs, xs = [V.ref a] ∧ H a = some (.dK kvs) ∧ Q (.int kvs.length) H) := by
  intro pins s σ H xs us Q I r h
  obtain ⟨a, kvs, rfl, ha, q⟩ := h
  obtain ⟨u, rfl, ru⟩ := vals1 r
  cases ru
  exact d_len I (.inl ha) fun t s' I' => ⟨.int kvs.length, H, I', ⟨t, rfl⟩, q⟩
end
section
variable {κ : Type} [DecidableEq κ]
end
end L2
namespace L2
open PySem PySem.Spec PyProof.Rows
namespace Rd
section
variable {σ : St} {H : Hp} {Q : VK} {D : Ends} {t u : TS} {ta tb te : TE} {r : R2}
theorem var {i : Nat} {v : V} (h : σ[i]? = some (some v)) (q : Q v H) : tVar i σ H Q := ⟨v, h, q⟩
theorem con {v : V} (q : Q v H) : tC v σ H Q := q
theorem op (h : ta σ H fun x H1 => tb σ H1 fun y H2 => r x y H2 Q) : tOp r ta tb σ H Q := h
theorem un {r : V → Hp → VK → Prop} (h : ta σ H fun x H1 => r x H1 Q) : tUn r ta σ H Q := h
theorem i0 {g : Int → Int → V} {i j : Int} (q : Q (g i j) H) : rI0 g (.int i) (.int j) H Q := ⟨i, j, rfl, rfl, q⟩
theorem iC {C : Int → Int → Prop} {g : Int → Int → V} {i j : Int} (c : C i j) (q : Q (g i j) H) : rI C g (.int i) (.int j) H Q := ⟨i, j, rfl, rfl, c, q⟩
theorem eqI {i j : Int} (q : Q (.bl (decide (i = j))) H) : rEq (.int i) (.int j) H Q := ⟨rfl, by
  have e : decide (V.int i = V.int j) = decide (i = j) := by
    by_cases h : i = j
    · rw [h]; simp
    · rw [decide_eq_false h, decide_eq_false (fun z => h (V.int.inj z))]
  rw [e]; exact q⟩
theorem test {Q : Bool → Hp → Prop} (h : te σ H fun x H' => ∃ k, x = .bl k ∧ Q k H') : tTest te σ H Q := h
theorem bl {k : Bool} {Q : Bool → Prop} (q : Q k) : ∃ k', V.bl k = .bl k' ∧ Q k' := ⟨k, rfl, q⟩
theorem seq (h : t { D with nx := u D } σ H) : tSeq t u D σ H := h
theorem asg {g : TG} (h : te σ H fun x H1 => g x σ H1 D.nx) : tAsg te g D σ H := h
theorem ifs {c : TT} (h : c σ H fun b H1 => if b = true then t D σ H1 else u D σ H1) : tIfS c t u D σ H := h
theorem ret (h : te σ H D.rt) : tRet te D σ H := h
theorem next (h : D.nx σ H) : tNext D σ H := h
theorem drop (h : te σ H fun _ H1 => D.nx σ H1) : tDrop te D σ H := h
theorem nil {Q : List V → Hp → Prop} (h : Q [] H) : tNil σ H Q := h
theorem cons {tr : TA} {Q : List V → Hp → Prop} (h : ta σ H fun x H1 => tr σ H1 fun xs H2 => Q (x :: xs) H2) : tCons ta tr σ H Q := h
theorem call {sp : Sp} {dvs : List V} {E : XK} {ts : TA} (h : ts σ H fun vs H1 => sp (vs ++ dvs) H1 Q E) : tCall sp dvs E ts σ H Q := h
theorem cb {r : List V → Hp → VK → Prop} {ts : TA} (h : ts σ H fun vs H1 => r vs H1 Q) : tCB r ts σ H Q := h
theorem tup {ts : TA} (h : ts σ H fun xs H1 => xs.length ≤ sizeLine ∧ ∀ p, H1 p = none → Q (.ref p) (upd H1 p (.tup xs))) : tTup ts σ H Q := h
theorem lst {ts : TA} (h : ts σ H fun xs H1 => xs.length ≤ sizeLine ∧ ∀ p, H1 p = none → Q (.ref p) (upd H1 p (.lst xs))) : tLst ts σ H Q := h
theorem and_ {t u : TT} {Q : Bool → Hp → Prop} (h : t σ H fun c H1 => if c = true then u σ H1 Q else Q false H1) : tAnd t u σ H Q := h
theorem or_ {t u : TT} {Q : Bool → Hp → Prop} (h : t σ H fun c H1 => if c = true then Q true H1 else u σ H1 Q) : tOr t u σ H Q := h
theorem not_ {t : TT} {Q : Bool → Hp → Prop} (h : t σ H fun c H1 => Q (!c) H1) : tNot t σ H Q := h
theorem andV (h : ta σ H fun x H1 => ∃ c, x = .bl c ∧ if c = true then tb σ H1 Q else Q (.bl false) H1) : tAndV ta tb σ H Q := h
theorem notV (h : ta σ H fun x H1 => ∃ c, x = .bl c ∧ Q (.bl (!c)) H1) : tNotV ta σ H Q := h
end
end Rd
end L2
namespace L2
open PySem PySem.Spec PyProof.Rows
section
variable {X : Cx}
theorem op_mulG : OpR X (binaryOp .Mult) (rI (fun i j => IntMulOk i j) fun i j => .int (i * j)) := opI fun _ _ _ _ _ _ _ hc q => mul_int q hc
theorem op_fdivG : OpR X (binaryOp .FloorDiv) (rI (fun _ j => 0 < j ∧ j.natAbs.log2 < 9000) fun i j => .int (i / j)) := opI fun i j _ _ _ _ _ hc q => by
  rw [← Int.fdiv_eq_ediv_of_nonneg i (Int.le_of_lt hc.1)] at q
  exact floordiv_int (by have := hc.1; omega) q (.inl (PyProof.noPylong_of_log2 hc.2))
theorem call_isinst : CallR X (.builtin "isinstance") (fun xs H Q => ∃ x n t b, xs = [x, .ty n] ∧ TyOf X.K H x t ∧ PySem.W.kitOne X.K t (.type n) = some b ∧ Q (.bl b) H) := by
  intro pins s σ H xs us Q I r h
  obtain ⟨x, n, t, b, rfl, ty, e, q⟩ := h
  obtain ⟨u, v, rfl, ru, rv⟩ := r.two
  obtain rfl : v = Value.type n := rv
  exact isinst_ok I ru ty e fun tk => ⟨.bl b, H, I.tok tk, rfl, q⟩
theorem while3 {c : TT} {tb : TS} {D : Ends} {σ : St} {H : Hp} (W : Nat → St → Hp → Prop) (m : Nat) (h0 : W m σ H)
    (hs : ∀ m σ H, W m σ H → c σ H fun b H1 => if b = true then ∃ N : St → Hp → Prop, (∀ σ' H', N σ' H' → ∃ m', m' < m ∧ W m' σ' H') ∧ tb { D with nx := N, ct := N, bk := D.nx } σ H1 else D.nx σ H1) : tWhile c tb D σ H :=
  ⟨W, ⟨m, h0⟩, hs⟩
theorem turn3 {W : Nat → St → Hp → Prop} {m : Nat} {tb : TS} {D : Ends} {σ : St} {H1 : Hp}
    (h : tb { D with nx := fun σ' H' => ∃ m', m' < m ∧ W m' σ' H', ct := fun σ' H' => ∃ m', m' < m ∧ W m' σ' H', bk := D.nx } σ H1) :
    ∃ N : St → Hp → Prop, (∀ σ' H', N σ' H' → ∃ m', m' < m ∧ W m' σ' H') ∧ tb { D with nx := N, ct := N, bk := D.nx } σ H1 := ⟨_, fun _ _ z => z, h⟩
def tCut (t : TS) : TS := fun D σ H => ∃ J : St → Hp → Prop, (∀ σ' H', J σ' H' → D.nx σ' H') ∧ t { D with nx := J } σ H
theorem ps_cut {st : Stmt} {t : TS} (h : PS X st t) : PS X st (tCut t) := by
  intro pins s σ H D I hq
  obtain ⟨J, hJ, q⟩ := hq
  refine thn (h pins s σ H _ I q) fun f s1 q1 => ?_
  cases f with
  | next => obtain ⟨σ', H', I', j⟩ := q1; exact ⟨σ', H', I', hJ _ _ j⟩
  | brk => exact q1
  | cont => exact q1
  | ret v => exact q1
end
namespace Rd
theorem iteNT {A B : Prop} (h : B) : if (!true) = true then A else B := iteF h
theorem iteNF {A B : Prop} (h : A) : if (!false) = true then A else B := iteT h
section
variable {σ : St} {H : Hp} {Q : VK} {D : Ends} {t u : TS} {ta tb te : TE}
theorem cut (J : St → Hp → Prop) (hJ : ∀ σ' H', J σ' H' → D.nx σ' H') (h : t { D with nx := J } σ H) : tCut t D σ H := ⟨J, hJ, h⟩
theorem for_ {wi : TI} {g : TG} {tb : TS} (h : wi σ H fun J H1 => ∃ W : Nat → Nat → St → Hp → Prop, (∃ m, W 0 m σ H1) ∧ ∀ i m σ H, W i m σ H →
    (J.stop i H ∧ D.nx σ H) ∨ (J.go i H ∧ ∃ N : St → Hp → Prop, (∀ σ' H', N σ' H' → ∃ m', m' < m ∧ W (i + 1) m' σ' H') ∧ ∀ x H', J.yld i H x H' → g x σ H' fun σ2 H2 => tb { D with nx := N, ct := N, bk := D.nx } σ2 H2)) : tFor wi g tb D σ H := h
theorem rng1 {ts : TA} {R : It → Hp → Prop} (h : ts σ H fun vs H1 => ∃ j : Int, vs = [.int j] ∧ -(2 ^ 62) ≤ j ∧ j < 2 ^ 62 ∧ R (Itr 0 j.toNat) H1) : iRng1 ts σ H R := h
theorem rng2 {ts : TA} {R : It → Hp → Prop} (h : ts σ H fun vs H1 => ∃ i j : Int, vs = [.int i, .int j] ∧ (-(2 ^ 62) ≤ i ∧ i < 2 ^ 62 ∧ -(2 ^ 62) ≤ j ∧ j < 2 ^ 62) ∧ R (Itr i (j - i).toNat) H1) : iRng2 ts σ H R := h
theorem gtup {K : PySem.W.Frag} {n : Nat} {ts : TGs} {a : Addr} {xs : List V} {Q : St → Hp → Prop} (hs : SqT K H a xs) (hn : xs.length = n) (h : ts xs σ H Q) : gTup K n ts (.ref a) σ H Q := ⟨a, xs, rfl, hs, hn, h⟩
theorem gnil {Q : St → Hp → Prop} (h : Q σ H) : gNil [] σ H Q := ⟨rfl, h⟩
theorem gcons {g : TG} {gs : TGs} {v : V} {r : List V} {Q : St → Hp → Prop} (h : g v σ H fun σ' H' => gs r σ' H' Q) : gCons g gs (v :: r) σ H Q := ⟨v, r, rfl, h⟩
end
end Rd
end L2
namespace L2
open PySem PySem.Spec PyProof.Rows
theorem same_new {H : Hp} {p : Addr} {o : HO} (hp : H p = none) : Same H (upd H p o) := fun c u e => by rw [upd_ne (ne_of_none e hp)]; exact e
theorem Same.new {H H' : Hp} {q : Addr} {o : HO} (sm : Same H H') (hq : H q = none) : Same H (upd H' q o) := fun c u e => by rw [upd_ne (ne_of_none e hq)]; exact sm c u e
namespace Rd
section
variable {σ : St} {H : Hp} {Q : VK} {D : Ends} {K : PySem.W.Frag}
theorem ixt {p : Addr} {xs : List V} {i : Int} {v : V} (h : SqT K H p xs) (e : atI xs i = some v) (q : Q v H) : rIxT K (.ref p) (.int i) H Q := ⟨p, xs, i, v, rfl, rfl, h, e, q⟩
theorem ixl {p : Addr} {xs : List V} {i : Int} {v : V} (h : SqL K H p xs) (e : atI xs i = some v) (q : Q v H) : rIxL K (.ref p) (.int i) H Q := ⟨p, xs, i, v, rfl, rfl, h, e, q⟩
theorem bm {T : String} {r : V → List V → Hp → VK → Prop} {to : TE} {t : TA} (h : to σ H fun x H1 => tyV K T x H1 ∧ t σ H1 fun xs H2 => r x xs H2 Q) : tBM K T r to t σ H Q := h
theorem tyl {p : Addr} {xs : List V} {B : Prop} (h : H p = some (.lst xs)) (q : B) : tyV K "list" (.ref p) H ∧ B := ⟨.inl ⟨rfl, xs, .of h⟩, q⟩
theorem app {p : Addr} {xs : List V} {y : V} (h : H p = some (.lst xs)) (hl : xs.length < sizeLine) (q : Q .non (upd H p (.lst (xs ++ [y])))) : rAppend (.ref p) [y] H Q := ⟨p, xs, y, rfl, rfl, h, hl, q⟩
end
end Rd
end L2
namespace L2
open PySem PySem.Spec PyProof.Rows
def emb (ix : List Nat) (σ : St) : St := none :: ix.map fun j => (σ[j]?).join
def cxComp (X : Cx) (sc : Scope) (cl : List (Str × Addr)) (C : Addr) (N : List Str) (s : Shared) (H : Hp) (fp : List Addr) : Cx where
  prog := X.prog
  w := X.w
  K := X.K
  mg := X.mg
  base := X.base
  A := X.A
  N := N
  s₀ := s
  H₀ := H
  env := compEnvC sc cl C X.env
  outer := X.stack
  stack := X.stack
  ex := fp
  fn := fun _ => false
  calm := X.calm
  pn := []
  xe := fun _ _ => False
structure CompScope (X : Cx) (sc : Scope) (x : Str) (zs : List Str) (ix : List Nat) : Prop where
  kind : sc.kind = .function
  nocell : ∀ y ∈ sc.names, y.2 ≠ .cell
  names : ∀ y ∈ sc.names, y.2 = .local → sc.names.lookup y.1 = some .local
  free : ∀ y ∈ sc.names, y.2 = .free → X.env.kindOf y.1 = some .cell ∨ X.env.kindOf y.1 = some .free
  zfree : ∀ z ∈ zs, sc.names.lookup z = some .free
  at_ : ix.map (fun j => X.N[j]?) = zs.map some
theorem lookup_relabel {env : Env} {x : Str} : ∀ {names : List (Str × NameKind)} {k : NameKind},
    (names.map fun (n, k) => if (k == NameKind.free && env.scope.kind == .function && env.kindOf n == some .cell) then (n, NameKind.cell) else (n, k)).lookup x = some k →
    ∃ k', names.lookup x = some k' ∧ (k = k' ∨ (k' = .free ∧ k = .cell))
  | [], _, h => by simp at h
  | (n, j) :: r, k, h => by
    have h' : List.lookup x ((if (j == NameKind.free && env.scope.kind == .function && env.kindOf n == some .cell) = true then (n, NameKind.cell) else (n, j)) :: (r.map fun (n, k) => if (k == NameKind.free && env.scope.kind == .function && env.kindOf n == some .cell) then (n, NameKind.cell) else (n, k))) = some k := h
    cases hx : x == n with
    | true =>
      refine ⟨j, by simp [List.lookup_cons, hx], ?_⟩
      by_cases hc : (j == NameKind.free && env.scope.kind == .function && env.kindOf n == some .cell) = true
      · rw [if_pos hc] at h'
        simp only [List.lookup_cons, hx] at h'
        cases h'
        simp only [Bool.and_eq_true, beq_iff_eq] at hc
        exact .inr ⟨hc.1.1, rfl⟩
      · rw [if_neg hc] at h'
        simp only [List.lookup_cons, hx] at h'
        cases h'
        exact .inl rfl
    | false =>
      have h2 : List.lookup x (r.map fun (n, k) => if (k == NameKind.free && env.scope.kind == .function && env.kindOf n == some .cell) then (n, NameKind.cell) else (n, k)) = some k := by
        by_cases hc : (j == NameKind.free && env.scope.kind == .function && env.kindOf n == some .cell) = true
        · rw [if_pos hc] at h'
          simpa only [List.lookup_cons, hx] using h'
        · rw [if_neg hc] at h'
          simpa only [List.lookup_cons, hx] using h'
      obtain ⟨k', e, q⟩ := lookup_relabel h2
      exact ⟨k', by simp only [List.lookup_cons, hx]; exact e, q⟩
theorem lookup_mem {x : Str} {k : NameKind} : ∀ {names : List (Str × NameKind)}, names.lookup x = some k → (x, k) ∈ names := fun h => PySem.mem_of_lookup h
theorem closure_of (env : Env) : ∀ (names : List (Str × NameKind)) (acc : List (Str × Addr)),
    (∀ y ∈ names, y.2 = .free → ∃ c, env.cells.lookup y.1 = some c) → (∀ y c, acc.lookup y = some c → env.cells.lookup y = some c) →
    ∃ cl : List (Str × Addr), (forIn names acc (fun x (r : List (Str × Addr)) => if x.2 == NameKind.free then (do let a ← cellOf env x.1; pure (ForInStep.yield ((x.1, a) :: r))) else pure (ForInStep.yield r)) : Sem (List (Str × Addr))) = pure cl ∧
      (∀ y c, cl.lookup y = some c → env.cells.lookup y = some c) ∧ (∀ y, (∃ c, acc.lookup y = some c) ∨ (y, NameKind.free) ∈ names → ∃ c, cl.lookup y = some c)
  | [], acc, _, ha => ⟨acc, rfl, ha, fun y h => h.elim id fun z => absurd z (by simp)⟩
  | (n, k) :: r, acc, hf, ha => by
    have hr : ∀ y ∈ r, y.2 = .free → ∃ c, env.cells.lookup y.1 = some c := fun y hy => hf y (List.mem_cons_of_mem _ hy)
    by_cases hk : k = .free
    · subst hk
      obtain ⟨c, hc⟩ := hf (n, .free) List.mem_cons_self rfl
      have ha' : ∀ y c', ((n, c) :: acc).lookup y = some c' → env.cells.lookup y = some c' := fun y c' h => by
        cases hy : y == n with
        | true =>
          simp only [List.lookup_cons, hy] at h
          cases h
          rw [beq_iff_eq.mp hy]
          exact hc
        | false =>
          simp only [List.lookup_cons, hy] at h
          exact ha y c' h
      obtain ⟨cl, e, h1, h2⟩ := closure_of env r ((n, c) :: acc) hr ha'
      refine ⟨cl, ?_, h1, fun y h => h2 y ?_⟩
      · rw [List.forIn_cons]
        have : cellOf env n = pure c := by unfold cellOf; rw [hc]
        simp only [beq_self_eq_true, if_true, this]
        exact e
      · rcases h with ⟨c', h⟩ | h
        · cases hy : y == n with
          | true => exact .inl ⟨c, by simp only [List.lookup_cons, hy]⟩
          | false => exact .inl ⟨c', by simp only [List.lookup_cons, hy]; exact h⟩
        · rcases List.mem_cons.mp h with h | h
          · cases h
            exact .inl ⟨c, by simp⟩
          · exact .inr h
    · obtain ⟨cl, e, h1, h2⟩ := closure_of env r acc hr ha
      refine ⟨cl, ?_, h1, fun y h => h2 y ?_⟩
      · rw [List.forIn_cons]
        have hb : (k == NameKind.free) = false := by simpa using hk
        simp only [hb, Bool.false_eq_true, if_false]
        exact e
      · rcases h with h | h
        · exact .inl h
        · rcases List.mem_cons.mp h with h | h
          · cases h
            exact absurd rfl hk
          · exact .inr h
def PIf (X : Cx) (ifs : List Expr) (t : TT) : Prop :=
  ∀ (pins : List (Addr × Obj)) (s : Shared) (σ : St) (H : Hp) (Q : Bool → Hp → Prop), Inv X pins σ H s → t σ H Q →
    wpAny (model X.prog X.w) X.A (forIn ifs true fun c r => if r = true then do let ok ← isTrue c X.env (eval c X.env); pure (ForInStep.yield ok) else pure (ForInStep.yield r)) (TP X pins σ Q) X.xe s
def tAll : TT := fun _ H Q => Q true H
section
variable {X : Cx}
theorem pif_nil : PIf X [] tAll := fun _ _ _ H _ I h => wpAny_pure ⟨H, I, h⟩
theorem pif_one {c : Expr} {t : TT} (hc : PT X c t) : PIf X [c] t := by
  intro pins s σ H Q I h
  rw [List.forIn_cons]
  simp only [if_true]
  refine wpAny_bind (wpAny_bind (thn (hc pins s σ H _ I h) fun b s1 q => wpAny_pure ?_))
  exact wpAny_pure q
end
section
variable {prog : Program} {w : World} {A : Around} {R : Result → Shared → Prop} {s : Shared}
theorem compLoop_any {elt target iter : Expr} {ifs : List Expr} {scope : Scope} {pos : Pos} {it acc : Value} {env : Env} (I : Nat → Shared → Prop)
    (turn : ∀ n s, I n s → wpAny (model prog w) A (pyNext it) (fun r s₁ => match r with
      | none => R (.ok .next) s₁
      | some v => wpAny (model prog w) A (letOwnedTupleGo target it v) (fun _ s₀ => wpAny (model prog w) A (assign target env v) (fun _ s₂ =>
          wpAny (model prog w) A (forIn ifs true fun c r => if r = true then do let ok ← isTrue c env (eval c env); pure (ForInStep.yield ok) else pure (ForInStep.yield r)) (fun ok s₃ =>
            if ok = true then wpAny (model prog w) A (eval elt env) (fun x s₄ =>
              wpAny (model prog w) A (call (.builtin "list.append") [acc, x]) (fun _ s₅ => ∃ m, m < n ∧ I m s₅) (fun _ _ => False) s₄) (fun _ _ => False) s₃
            else ∃ m, m < n ∧ I m s₃) (fun _ _ => False) s₂) (fun _ _ => False) s₀) (fun _ _ => False) s₁) (fun _ _ => False) s)
    (n : Nat) (h : I n s) :
    codeAny (model prog w) A (.compLoop (.ListComp elt [⟨target, iter, ifs, 0⟩] scope pos) 0 it acc env) R s := by
  refine codeAny_loop rfl I (fun n s hI => ?_) n h
  show wpAny _ A ((compTurn (.ListComp elt [⟨target, iter, ifs, 0⟩] scope pos) 0 it acc env).onRaise (fun x => do noteFrame x env; theTreesLotGoes x)) _ _ s
  refine wpAny_noted ?_
  rw [compTurn_list]
  refine wpAny_bind (wpAny_standAt (wpAny_bind (wpAny_mono (turn n s hI) (fun r s₁ h₁ => ?_) fun _ _ z => z.elim)))
  cases r with
  | none => exact wpAny_pure h₁
  | some v =>
    refine wpAny_bind (wpAny_mono h₁ (fun _ s₀ h₀ => ?_) fun _ _ z => z.elim)
    refine wpAny_bind (wpAny_mono h₀ (fun _ s₂ h₂ => wpAny_bind (wpAny_mono h₂ (fun ok s₃ h₃ => ?_) fun _ _ z => z.elim)) fun _ _ z => z.elim)
    cases ok with
    | false => exact wpAny_pure ⟨rfl, h₃⟩
    | true =>
      exact wpAny_bind (wpAny_bind (wpAny_mono h₃ (fun x s₄ h₄ => wpAny_bind (wpAny_mono h₄ (fun _ s₅ h₅ => wpAny_pure (wpAny_pure ⟨rfl, h₅⟩)) fun _ _ z => z.elim)) fun _ _ z => z.elim))
end
def tComp (ix : List Nat) (wi : TI) (g : TG) (tc : TT) (te : TE) : TE := fun σ H Q => wi σ H fun J H1 => ∀ p, H1 p = none →
  ∃ W : Nat → Nat → List V → St → Hp → Prop, (∃ m, W 0 m [] (emb ix σ) (upd H1 p (.lst []))) ∧ ∀ i m ys σ' H', W i m ys σ' H' →
    (J.stop i H' ∧ Q (.ref p) H') ∨ (J.go i H' ∧ ∀ x H2, J.yld i H' x H2 → g x σ' H2 fun σ2 H3 => tc σ2 H3 fun b H4 =>
      if b = true then te σ2 H4 fun v H5 => H5 p = some (.lst ys) ∧ ys.length < sizeLine ∧ ∃ m', m' < m ∧ W (i + 1) m' (ys ++ [v]) σ2 (upd H5 p (.lst (ys ++ [v])))
      else ∃ m', m' < m ∧ W (i + 1) m' ys σ2 H4)
section
variable {X : Cx}
theorem comp_start {pins : List (Addr × Obj)} {σ : St} {H : Hp} {s : Shared} {sc : Scope} {x : Str} {zs : List Str} {ix : List Nat} {cl : List (Str × Addr)} {fp : List Addr} {h₁ : Heap} {tk : Nat}
    (S : CompScope X sc x zs ix) (I : Inv X pins σ H s) (hcl : ∀ y c, cl.lookup y = some c → X.env.cells.lookup y = some c) (hhas : ∀ y, (y, NameKind.free) ∈ sc.names → ∃ c, cl.lookup y = some c)
    (hfp : ∀ b ∈ fp, FpOk X pins H b ∧ b < s.heap.objs.size) (hns : h₁.Ns s.heap.objs.size fun _ => none) (hk : ∀ b o, s.heap.get? b = some o → h₁.get? b = some o) :
    Inv (cxComp X sc cl s.heap.objs.size (x :: zs) s H fp) [] (emb ix σ) H { s with heap := h₁, toks := tk } := by
  have sub : ∀ b ∈ frs X.stack, b ∈ X.env.locals :: X.fs := I.stkSub
  have nfs : ∀ b ∈ fp, b ∉ frs X.stack := fun b hb z => by
    obtain ⟨⟨_, f1, f2, _⟩, _⟩ := hfp b hb
    rcases List.mem_cons.mp (sub b z) with e | e
    · exact f1 e
    · exact f2 e
  have cut : ∀ y, (cxComp X sc cl s.heap.objs.size (x :: zs) s H fp).env.kindOf y = some .cell ∨ (cxComp X sc cl s.heap.objs.size (x :: zs) s H fp).env.kindOf y = some .free → ∃ c, cl.lookup y = some c := fun y hy => by
    have q : ∃ k, (relabel sc X.env).names.lookup y = some k ∧ (k = .cell ∨ k = .free) := by
      rcases hy with hy | hy
      · exact ⟨_, hy, .inl rfl⟩
      · exact ⟨_, hy, .inr rfl⟩
    obtain ⟨k, e, hk⟩ := q
    obtain ⟨k', e', q⟩ := lookup_relabel e
    have : k' = .free := by
      rcases q with q | ⟨q, _⟩
      · rcases hk with z | z
        · exact absurd (q.symm.trans z) (S.nocell _ (lookup_mem e'))
        · exact q.symm.trans z
      · exact q
    subst this
    exact hhas y (lookup_mem e')
  refine ⟨⟨I.ok.mod, S.kind, I.ok.glob, I.ok.blt, Nat.le_refl _, fun y z c h1 h2 => I.ok.inj y z c (hcl _ _ h1) (hcl _ _ h2), cut, fun y c hf _ => ?_, I.ok.hd, I.ok.frames, .inl rfl, fun b hb => ?_, I.bs, Nat.le_trans I.ok.bsz I.sz, fun b o e hb => ?_, nfs, I.stack, I.stkFree⟩,
    rfl, I.bare, Un.kept hk, ⟨_, hns, fun i y v h1 h2 h3 => ?_⟩, fun y c h => ?_, I.hok.fresh (Nat.le_refl _), fun y c h => I.freeC y c (hcl y c h), fun p hp => absurd (show p ∈ ([] : List (Addr × Obj)) from hp) (by simp), I.hok.kept hk, ?_⟩
  · exact absurd (show false = true from hf) (by decide)
  · obtain ⟨⟨f0, f1, f2, f3, f4, f5⟩, hl⟩ := hfp b hb
    exact ⟨Nat.ne_of_lt hl, fun y c h => f4 y c (hcl y c h)⟩
  · obtain ⟨⟨f0, f1, f2, f3, f4, f5⟩, hl⟩ := hfp b hb
    rcases f3 with z | z
    · exact I.ok.noex b o e z
    · exact absurd (Nat.lt_of_lt_of_le (Heap.lt_size e) (Nat.le_trans I.ok.bsz z)) (Nat.lt_irrefl _)
  ·
    cases i with
    | zero =>
      have : (none : Option (Option V)) = some (some v) ∨ (some none : Option (Option V)) = some (some v) := .inr h2
      rcases this with z | z <;> cases z
    | succ i =>
      have h1' : zs[i]? = some y := h1
      have h2' : (ix.map fun j => (σ[j]?).join)[i]? = some (some v) := h2
      have ha : (ix.map fun j => X.N[j]?)[i]? = some (some y) := by rw [S.at_, List.getElem?_map, h1']; rfl
      rw [List.getElem?_map] at h2' ha
      cases e : ix[i]? with
      | none => rw [e] at h2'; cases h2'
      | some j =>
        rw [e] at h2' ha
        have ha' : X.N[j]? = some y := Option.some.inj ha
        have hj : (σ[j]?).join = some v := Option.some.inj h2'
        have hσ : σ[j]? = some (some v) := by
          cases q : σ[j]? with
          | none => rw [q] at hj; cases hj
          | some o => rw [q] at hj; exact congrArg some hj
        obtain ⟨m, hn, hl⟩ := I.loc
        have hfr := S.zfree y (List.mem_of_getElem? h1')
        have hkind := S.free _ (lookup_mem hfr) rfl
        have hv : Vis X.env.scope y := by
          rcases hkind with z | z
          · exact .inr (.inl z)
          · exact .inr (.inr z)
        obtain ⟨u, r, q⟩ := hl j y v ha' hσ hv
        refine ⟨u, r, ?_⟩
        rcases q with ⟨kl, _⟩ | ⟨_, c, hc, hcell⟩
        · have kl' : X.env.kindOf y = some .local := kl
          rcases hkind with z | z <;> (rw [z] at kl'; cases kl')
        · obtain ⟨c', hc'⟩ := hhas y (lookup_mem hfr)
          have ec : c' = c := by have := hcl y c' hc'; rw [hc] at this; exact (Option.some.inj this).symm
          subst ec
          refine .inr ⟨?_, c', hc', ?_⟩
          · have hvis : Vis (relabel sc X.env) y := h3
            rcases hvis with z | z | z
            · obtain ⟨k', e', q⟩ := lookup_relabel z
              rw [hfr] at e'
              cases e'
              rcases q with q | ⟨_, q⟩ <;> cases q
            · exact .inl z
            · exact .inr z
          · obtain ⟨o, ho, hd⟩ := hcell
            exact ⟨o, hk _ _ ho, hd⟩
  · obtain ⟨v, o, ho, hd⟩ := I.cell y c (hcl y c h)
    exact ⟨v, o, hk _ _ ho, hd⟩
  · show (none :: ix.map fun j => (σ[j]?).join).length = (x :: zs).length
    have := congrArg List.length S.at_
    simp only [List.length_map] at this
    simp only [List.length_cons, List.length_map, this]
def CompEnd (X : Cx) (pins : List (Addr × Obj)) (σ : St) (Q : VK) (acc : Value) (C : Addr) (s' : Shared) : Prop :=
  ∃ p H' m, acc = Value.ref p ∧ s'.heap.Ns C m ∧ Inv X pins σ H' s' ∧ FpOk X pins H' C ∧ Q (.ref p) H'
theorem comp_block {pins : List (Addr × Obj)} {σ : St} {H : Hp} {s : Shared} {sc : Scope} {x : Str} {zs : List Str} {ix : List Nat} {cl : List (Str × Addr)} {fp : List Addr} {it : Addr} {tn : Nat → Heap → Prop} {J : It}
    {elt tg iter : Expr} {ifs : List Expr} {pos : Pos} {g : TG} {tc : TT} {te : TE} {Q : VK} {E : Value → Shared → Prop} {RR : Value → Addr → Result → Shared → Prop}
    (hc : X.calm = true) (S : CompScope X sc x zs ix) (I : Inv X pins σ H s) (hcl : ∀ y c, cl.lookup y = some c → X.env.cells.lookup y = some c) (hhas : ∀ y, (y, NameKind.free) ∈ sc.names → ∃ c, cl.lookup y = some c)
    (T : Turn X.prog X.w X.K tg J fp it tn) (st : tn 0 s.heap) (hfp : ∀ b ∈ fp, FpOk X pins H b)
    (hin : ∀ C s H, PG (cxComp X sc cl C (x :: zs) s H fp) tg g ∧ PIf (cxComp X sc cl C (x :: zs) s H fp) ifs tc ∧ PE (cxComp X sc cl C (x :: zs) s H fp) elt te)
    (hq : ∀ p, H p = none → ∃ W : Nat → Nat → List V → St → Hp → Prop, (∃ m, W 0 m [] (emb ix σ) (upd H p (.lst []))) ∧ ∀ i m ys σ' H', W i m ys σ' H' →
      (J.stop i H' ∧ Q (.ref p) H') ∨ (J.go i H' ∧ ∀ x H2, J.yld i H' x H2 → g x σ' H2 fun σ2 H3 => tc σ2 H3 fun b H4 =>
        if b = true then te σ2 H4 fun v H5 => H5 p = some (.lst ys) ∧ ys.length < sizeLine ∧ ∃ m', m' < m ∧ W (i + 1) m' (ys ++ [v]) σ2 (upd H5 p (.lst (ys ++ [v])))
        else ∃ m', m' < m ∧ W (i + 1) m' ys σ2 H4))
    (hR : ∀ acc C f s', CompEnd X pins σ Q acc C s' → RR acc C (.ok f) s') :
    wpAny (model X.prog X.w) X.A (newList []) (fun acc s₃ => wpAny (model X.prog X.w) X.A (newFunctionEnv sc X.env.globals cl [] X.env.qual none .none (some X.env)) (fun cenv s₄ =>
      codeAny (model X.prog X.w) X.A (.compStart (.ListComp elt [⟨tg, iter, ifs, 0⟩] sc pos) 0 (.ref it) acc { cenv with scope := relabel sc X.env }) (RR acc cenv.locals) s₄) E s₃) E s := by
  refine wpAny_newObj_type (wpAny_newFunctionEnv S.nocell (by intro y hy; simp at hy) (fun h₁ hns₁ hsb₁ => ?_) S.kind)
  have I3 : Inv X pins σ (upd H s.heap.objs.size (.lst [])) { s with heap := s.heap.push { cls := .type "list", dict := none, data := .seq ([] : List Value).toArray } } := I.lnew (its := []) (ys := []) (t' := s.toks) .nil (Nat.zero_le _)
  dsimp only at hns₁ hsb₁ ⊢
  obtain ⟨W, ⟨m0, w0⟩, turn⟩ := hq s.heap.objs.size (I.hok.fresh (Nat.le_refl _))
  have lt : ∀ b ∈ fp, b < s.heap.objs.size := fun b hb => by
    obtain ⟨o, e, _⟩ := T.obj 0 s.heap st b hb
    exact Heap.lt_size e
  have up : ∀ b ∈ fp, ∀ o, (upd H s.heap.objs.size o) b = H b := fun b hb o => upd_ne (Nat.ne_of_lt (lt b hb))
  have kp : ∀ b o, (s.heap.push { cls := .type "list", dict := none, data := .seq ([] : List Value).toArray }).get? b = some o → h₁.get? b = some o := fun b o e =>
    hsb₁.extBut b o (Nat.ne_of_lt (Heap.lt_size e)) (Heap.get?_push_of_some _ e)
  have f3 : ∀ b ∈ fp, FpOk X pins (upd H s.heap.objs.size (.lst [])) b ∧ b < (s.heap.push { cls := .type "list", dict := none, data := .seq ([] : List Value).toArray }).objs.size := fun b hb => by
    obtain ⟨q0, q⟩ := hfp b hb
    refine ⟨⟨(up b hb _).trans q0, q⟩, ?_⟩
    rw [Heap.size_push]
    exact Nat.lt_succ_of_lt (lt b hb)
  generalize hS3 : ({ s with heap := s.heap.push { cls := .type "list", dict := none, data := .seq ([] : List Value).toArray } } : Shared) = s3 at I3
  have hH3 : s.heap.push { cls := .type "list", dict := none, data := .seq ([] : List Value).toArray } = s3.heap := by rw [← hS3]
  rw [hH3] at kp f3 hns₁ ⊢
  have st3 : tn 0 h₁ := T.keep 0 _ _ st fun b _ o e => kp b o (by rw [← hH3]; exact Heap.get?_push_of_some _ e)
  have J0 : Inv (cxComp X sc cl s3.heap.objs.size (x :: zs) s3 (upd H s.heap.objs.size (.lst [])) fp) [] (emb ix σ) (upd H s.heap.objs.size (.lst [])) { s3 with heap := h₁, toks := s3.toks } :=
    comp_start S I3 hcl hhas f3 hns₁ kp
  obtain ⟨hg, hif, he⟩ := hin s3.heap.objs.size s3 (upd H s.heap.objs.size (.lst []))
  have fpo : ∀ {H' : Hp}, (∀ b ∈ fp, H' b = none) → ∀ b ∈ fp, FpOk (cxComp X sc cl s3.heap.objs.size (x :: zs) s3 (upd H s.heap.objs.size (.lst [])) fp) [] H' b := fun {H'} hn b hb =>
    ⟨hn b hb, (J0.ok.exf b hb).1, J0.ok.exfs b hb, .inl hb, (J0.ok.exf b hb).2, fun p hp => absurd (show p ∈ ([] : List (Addr × Obj)) from hp) (by simp)⟩
  have loop : ∀ s4 : Shared, s4 = { s3 with heap := h₁, toks := s3.toks } →
      codeAny (model X.prog X.w) X.A (.compLoop (.ListComp elt [⟨tg, iter, ifs, 0⟩] sc pos) 0 (.ref it) (.ref s.heap.objs.size) (compEnvC sc cl s3.heap.objs.size X.env)) (RR (.ref s.heap.objs.size) s3.heap.objs.size) s4 := by
    rintro s4 rfl
    refine compLoop_any (fun n s' => ∃ i ys σ' H', Inv (cxComp X sc cl s3.heap.objs.size (x :: zs) s3 (upd H s.heap.objs.size (.lst [])) fp) [] σ' H' s' ∧ tn i s'.heap ∧ (∀ b ∈ fp, H' b = none) ∧ W i n ys σ' H') ?_ m0
      ⟨0, [], emb ix σ, _, J0, st3, fun b hb => (f3 b hb).1.1, w0⟩
    rintro n s5 ⟨i, ys, σ5, H5, I5, st5, fr5, w5⟩
    rcases turn i n ys σ5 H5 w5 with ⟨stop, qn⟩ | ⟨go, step⟩
    · refine thn (T.done (cxComp X sc cl s3.heap.objs.size (x :: zs) s3 (upd H s.heap.objs.size (.lst [])) fp) rfl rfl rfl hc i [] s5 σ5 H5 _ I5 (fpo fr5) st5 stop) fun r s6 ⟨hr, I6⟩ => ?_
      subst hr
      obtain ⟨m6, hm6, _⟩ := I6.loc
      refine hR _ _ _ _ ⟨s.heap.objs.size, H5, m6, rfl, hm6, ?_, I3.fpOk (Nat.le_refl _) I6.free, qn⟩
      exact I3.call' I6.os I6.base I6.hok I6.bare fun b hb => by
        obtain ⟨⟨f0, f1, f2, f3, f4, f5⟩, _⟩ := f3 b hb
        exact ⟨f3, f1, f4, f5⟩
    · refine thn (T.item (cxComp X sc cl s3.heap.objs.size (x :: zs) s3 (upd H s.heap.objs.size (.lst [])) fp) rfl rfl rfl hc i [] s5 σ5 H5 _ I5 (fpo fr5) st5 go) fun r s6 ⟨u, hr, h6⟩ => ?_
      subst hr
      refine thn h6 fun _ s7 ⟨x7, H7, I7, r7, y7, st7, fr7⟩ => ?_
      have I7' := I7.pinned (fpo fr7) (T.obj _ _ st7)
      refine thn (hg _ s7 σ5 H7 x7 u _ I7' r7 (step x7 H7 y7)) fun _ s8 ⟨σ8, H8, I8, q8⟩ => ?_
      refine thn (hif _ s8 σ8 H8 _ I8 q8) fun b s9 ⟨H9, I9, q9⟩ => ?_
      have again : ∀ {ys' : List V} {σ' : St} {H' : Hp} {m' : Nat} {s' : Shared}, Inv (cxComp X sc cl s3.heap.objs.size (x :: zs) s3 (upd H s.heap.objs.size (.lst [])) fp) ([] ++ pinsAt fp s7.heap) σ' H' s' → W (i + 1) m' ys' σ' H' → m' < n →
          ∃ m, m < n ∧ ∃ i ys σ' H', Inv (cxComp X sc cl s3.heap.objs.size (x :: zs) s3 (upd H s.heap.objs.size (.lst [])) fp) [] σ' H' s' ∧ tn i s'.heap ∧ (∀ b ∈ fp, H' b = none) ∧ W i m ys σ' H' := fun {ys' σ' H' m' s'} Iz wz hm => by
        refine ⟨m', hm, i + 1, ys', σ', H', Iz.unpinned, T.keep _ _ _ st7 fun b hb o e => (Iz.pin (b, o) (List.mem_append_right _ (List.mem_append_right _ (mem_pinsAt hb e)))).1, fun b hb => ?_, wz⟩
        obtain ⟨o, e, d⟩ := T.obj _ _ st7 b hb
        exact (Iz.pin (b, o) (List.mem_append_right _ (List.mem_append_right _ (mem_pinsAt hb e)))).2.1
      cases b with
      | false =>
        rw [if_neg Bool.false_ne_true] at q9 ⊢
        obtain ⟨m', hm, wz⟩ := q9
        exact again I9 wz hm
      | true =>
        rw [if_pos rfl] at q9 ⊢
        refine thn (he _ s9 σ8 H9 _ I9 q9) fun v s10 ⟨y, H10, I10, r10, hl, hz, m', hm, wz⟩ => ?_
        refine thn (mt_append _ s10 σ8 H10 (.ref s.heap.objs.size) [y] (.ref s.heap.objs.size) [v] (fun z H' => z = .non ∧ H' = upd H10 s.heap.objs.size (.lst (ys ++ [y]))) I10 rfl (.cons r10 .nil) ⟨_, ys, y, rfl, rfl, hl, hz, rfl, rfl⟩) fun _ s11 ⟨z, H11, I11, _, _, e11⟩ => ?_
        subst e11
        exact again I11 wz hm
  exact codeAny_compStart_list (loop _ (by subst hS3; rfl)) (T.self _ 0 _ _ _ st3 (loop _ (by subst hS3; rfl)))
theorem comp_closure {sc : Scope} {x : Str} {zs : List Str} {ix : List Nat} (ok : X.Ok) (S : CompScope X sc x zs ix) :
    ∃ cl, closureFor sc X.env = pure cl ∧ (∀ y c, cl.lookup y = some c → X.env.cells.lookup y = some c) ∧ ∀ y, (y, NameKind.free) ∈ sc.names → ∃ c, cl.lookup y = some c := by
  obtain ⟨cl, e, h1, h2⟩ := closure_of X.env sc.names [] (fun y hy hf => ok.has y.1 (S.free y hy hf)) (fun y c h => by simp at h)
  refine ⟨cl, ?_, h1, fun y hy => h2 y (.inr hy)⟩
  unfold closureFor
  simp only
  rw [e]
  rfl
theorem pe_comp {elt tg iter : Expr} {ifs : List Expr} {sc : Scope} {pos : Pos} {x : Str} {zs : List Str} {ix : List Nat} {wi : TI} {g : TG} {tc : TT} {te : TE}
    (hc : X.calm = true) (S : CompScope X sc x zs ix) (hi : PI X tg iter wi)
    (hin : ∀ cl C s H fp, PG (cxComp X sc cl C (x :: zs) s H fp) tg g ∧ PIf (cxComp X sc cl C (x :: zs) s H fp) ifs tc ∧ PE (cxComp X sc cl C (x :: zs) s H fp) elt te)
    (hs : ∀ x, foldedSetIterable iter X.env x = pure x := by intro _; rfl) :
    PE X (.ListComp elt [⟨tg, iter, ifs, 0⟩] sc pos) (tComp ix wi g tc te) := by
  intro pins s σ H Q I h
  obtain ⟨cl, hclos, hcl, hhas⟩ := comp_closure I.ok S
  rw [eval_ListComp]
  refine wpAny_comprehension_free (use := none) rfl hs hclos S.kind S.names (thn (hi pins s σ H _ I h) fun v s1 h1 => thn h1 fun itv s2 h2 => ?_)
  obtain ⟨it, fp, tn, J, H2, e, I2, T, st2, f2, hq⟩ := h2
  subst e
  refine comp_block (RR := fun acc C => compPost (model X.prog X.w) X.A X.xe none (EP X pins σ Q) acc C) hc S I2 hcl hhas T st2 f2 (fun C s H => hin cl C s H fp) hq fun acc C f s' h => ?_
  obtain ⟨p, H', m, rfl, hm, I', ⟨g0, g1, g2, g3, g4, g5⟩, q⟩ := h
  exact ⟨m, hm, fun h' hb => ⟨.ref p, H', I'.turned (t' := s'.toks) (fun b o hne e => (hb.2 b hne).trans e) g0 g1 g3 g4 g5, rfl, q⟩⟩
theorem ps_comp {elt tg iter : Expr} {ifs : List Expr} {sc : Scope} {pos py spos : Pos} {x y : Str} {zs : List Str} {ix : List Nat} {wi : TI} {g : TG} {tc : TT} {te : TE} {j : Nat}
    (hc : X.calm = true) (S : CompScope X sc x zs ix) (hi : PI X tg iter wi)
    (hin : ∀ cl C s H fp, PG (cxComp X sc cl C (x :: zs) s H fp) tg g ∧ PIf (cxComp X sc cl C (x :: zs) s H fp) ifs tc ∧ PE (cxComp X sc cl C (x :: zs) s H fp) elt te)
    (hN : X.N.Nodup) (hj : X.N[j]? = some y) (hy : Loc X.env.scope y)
    (hsw : swapsWith (.ListComp elt [⟨tg, iter, ifs, 0⟩] sc pos) (some (.Name y py)) spos.line X.env = pure true := by rfl)
    (hf : X.fn y = true ∨ X.env.scope.names.lookup y = some .local := by first | exact .inl rfl | exact .inr rfl | assumption)
    (hs : ∀ x, foldedSetIterable iter X.env x = pure x := by intro _; rfl) :
    PS X (.Assign [.Name y py] (.ListComp elt [⟨tg, iter, ifs, 0⟩] sc pos) spos) (tAsg (tComp ix wi g tc te) (gName j)) := by
  intro pins s σ H D I h
  obtain ⟨cl, hclos, hcl, hhas⟩ := comp_closure I.ok S
  rw [exec_Assign_Name_used _ _ _ _ hsw]
  refine wpAny_bind (wpAny_standAt (wpAny_bind ?_))
  show wpAny _ X.A (do let _ ← comprehension (.ListComp elt [⟨tg, iter, ifs, 0⟩] sc pos) sc X.env _ (newList []) false (eval iter X.env) (some (assign (.Name y py) X.env))) _ _ s
  refine wpAny_bind (wpAny_mono (wpAny_comprehension_free (use := some (assign (.Name y py) X.env)) (Q := fun _ s' => SP X pins D .next s') rfl hs hclos S.kind S.names
    (thn (hi pins s σ H _ I h) fun v s1 h1 => thn h1 fun itv s2 h2 => ?_)) (fun _ s' hq => wpAny_pure (wpAny_pure hq)) fun _ _ e => e)
  obtain ⟨it, fp, tn, J, H2, e, I2, T, st2, f2, hq⟩ := h2
  subst e
  refine comp_block (Q := fun x H1 => gName j x σ H1 D.nx) (RR := fun acc C => compPost (model X.prog X.w) X.A X.xe (some (assign (.Name y py) X.env)) (fun _ s' => SP X pins D .next s') acc C) hc S I2 hcl hhas T st2 f2 (fun C s H => hin cl C s H fp) hq fun acc C f s' h => ?_
  obtain ⟨p, H', m, rfl, hm, I', ⟨g0, g1, g2, g3, g4, g5⟩, q⟩ := h
  show wpAny _ X.A (assign (.Name y py) X.env (.ref p)) _ _ _
  refine wpAny_assign_Name (store_ok2 I' hN hj hy (show RelV (.ref p) (.ref p) from rfl) (fun s'' I'' ⟨c, hsb, hcc⟩ => ?_) hf)
  have hne : C ≠ c := by
    rcases hcc with z | z
    · rw [z]; exact g1
    · exact Ne.symm (g4 _ _ z)
  exact ⟨m, hm.sameBut hsb hne, fun h' hb => ⟨_, H', I''.turned (t' := s''.toks) (fun b o hne e => (hb.2 b hne).trans e) g0 g1 g3 g4 g5, q⟩⟩
end
end L2
namespace L2
open PySem PySem.Spec PyProof.Rows
def CXX (P : Program) (w : World) : CXT := fun outer H s E e s' =>
  ∃ (ea : Addr) (cls a0 : Value) (H' : Hp) (B : Heap), e = .ref ea ∧ s'.os = s.os ∧ AllBare s'.gens ∧ Un (frs outer) [] H H' s.heap s'.heap ∧ HOk P w H' s'.heap ∧
    Heap.FlyingW B outer ea cls a0 s'.heap ∧ (∀ b o, s'.heap.get? b = some o → (H' b ≠ none ∨ ((∃ o', s.heap.get? b = some o') ∧ b ∉ frs outer)) → B.get? b = some o) ∧ E cls none H'
theorem HOk.stays {P : Program} {w : World} {H : Hp} {h h' B : Heap} (ok : HOk P w H h) (hB : ∀ b o, h.get? b = some o → H b ≠ none → B.get? b = some o) (st : B.StaysIn h') : HOk P w H h' := fun a o e =>
  (ok a o e).stay (fun b u hb q => st b u (hB b u q (by
    rcases hb with rfl | hb
    · rw [e]; exact fun z => nomatch z
    · rw [hb]; exact fun z => nomatch z))) (fun _ q => q) fun _ _ q => q
theorem ObjOk.got {P : Program} {w : World} {H : Hp} {h : Heap} {a : Addr} {o : HO} (x : ObjOk P w H h a o) : ∃ ob, h.get? a = some ob := by
  cases o with
  | lst xs => obtain ⟨_, _, _, _, e⟩ := x; exact ⟨_, e⟩
  | tup xs => obtain ⟨_, _, _, p⟩ := x; obtain ⟨ob, e, _⟩ := p; exact ⟨ob, e⟩
  | dK kvs => obtain ⟨_, _, _, _, o, _, _, e, _⟩ := x; exact ⟨o, e⟩
  | dT kvs => obtain ⟨_, _, _, _, o, _, _, e, _⟩ := x; exact ⟨o, e⟩
  | set S n => obtain ⟨o, _, _, _, e, _⟩ := x; exact ⟨o, e⟩
  | ins C dx fs => obtain ⟨_, _, _, e, _⟩ := x; exact ⟨_, e⟩
  | own y => exact x
  | xd fs => obtain ⟨_, ⟨o, _, _, e, _⟩, _⟩ := x; exact ⟨o, e⟩
  | rng lo hi => obtain ⟨_, _, _, e⟩ := x; exact ⟨_, e⟩
  | frz ob u => obtain ⟨e, _⟩ := x; exact ⟨ob, e⟩
  | tbl ps => exact ⟨_, (show h.get? a = some _ from x)⟩
  | met f y => exact ⟨_, (show h.get? a = some _ from x)⟩
  | ext φ => obtain ⟨_, e, _⟩ := x; exact e
theorem Un.fly {fs : List Addr} {H H' : Hp} {h h1 h2 B : Heap} (u : Un fs [] H H' h h1) (hB : ∀ b o, h1.get? b = some o → (H' b ≠ none ∨ ((∃ o', h.get? b = some o') ∧ b ∉ fs)) → B.get? b = some o)
    (st : B.StaysIn h2) (sl : h1.UpToSlots h2) (hf : ∀ b ∈ fs, ∀ o, h.get? b = some o → ∀ vs, o.data ≠ .fields vs) (hfn : ∀ b ∈ fs, H b = none) : Un fs [] H H' h h2 where
  keep := fun b o e n hb hx => st b o (hB b o (u.keep b o e n hb hx) (.inr ⟨⟨_, e⟩, hb⟩))
  slot := fun b o e n hb hx => by
    obtain ⟨s1, e1⟩ := u.slot b o e n hb hx
    obtain ⟨s2, e2⟩ := sl b _ e1 (hf b hb o e)
    exact ⟨s2, e2⟩
  free := u.free
  there := fun b o e hx => by
    by_cases hb : b ∈ fs
    · obtain ⟨s1, e1⟩ := u.slot b o e (hfn b hb) hb hx
      obtain ⟨s2, e2⟩ := sl b _ e1 (hf b hb o e)
      exact ⟨_, e2⟩
    · obtain ⟨o', e1⟩ := u.there b o e hx
      exact ⟨o', st b o' (hB b o' e1 (.inr ⟨⟨_, e⟩, hb⟩))⟩
  tups := u.tups
  frzs := u.frzs
  tbls := u.tbls
section
variable {P : Program} {w : World} {K : PySem.W.Frag} {mg : Str → Option Value} {base : Heap} {N : List Str} {qual : Str} {scope : Scope} {f : Addr} {cd : Value} {A : Around} {outer : List Env} {s₀ : Shared} {H₀ : Hp} {E : XK}
abbrev cxX (P : Program) (w : World) (K : PySem.W.Frag) (mg : Str → Option Value) (base : Heap) (N : List Str) (qual : Str) (scope : Scope) (f : Addr) (cd : Value) (A : Around) (outer : List Env) (s₀ : Shared) (H₀ : Hp) (E : XK) : Cx :=
  cxOf (CXX P w) P w K mg base N qual scope f cd A outer s₀ H₀ E
theorem leave_on {pins : List (Addr × Obj)} {σ : St} {H H' : Hp} {s s' : Shared} {ea : Addr} {cls a0 : Value} {B : Heap} (I : Inv (cxX P w K mg base N qual scope f cd A outer s₀ H₀ E) pins σ H s)
    (os : s'.os = s.os) (bare : AllBare s'.gens) (u : Un (frs (cxX P w K mg base N qual scope f cd A outer s₀ H₀ E).stack) [] H H' s.heap s'.heap) (ok : HOk P w H' s'.heap)
    (fl : Heap.FlyingW B (cxX P w K mg base N qual scope f cd A outer s₀ H₀ E).stack ea cls a0 s'.heap)
    (hB : ∀ b o, s'.heap.get? b = some o → (H' b ≠ none ∨ ((∃ o', s.heap.get? b = some o') ∧ b ∉ frs (cxX P w K mg base N qual scope f cd A outer s₀ H₀ E).stack)) → B.get? b = some o) (q : E cls none H') :
    (cxX P w K mg base N qual scope f cd A outer s₀ H₀ E).xe (.ref ea) s' := by
  have hfr : (A.deeper (envOfC qual scope s₀.heap.objs.size f cd)).frames = some (envOfC qual scope s₀.heap.objs.size f cd :: outer) := I.ok.frames
  refine wpAny_leaves_onW (L := s₀.heap.objs.size) hfr rfl fl fun h2 fl2 sl => ?_
  have below : ∀ b o, s₀.heap.get? b = some o → b ∉ frs outer → (∃ o', s.heap.get? b = some o') ∧ b ∉ frs (cxX P w K mg base N qual scope f cd A outer s₀ H₀ E).stack := fun b o e hn =>
    ⟨I.base.there b o e (by intro z; exact absurd (show b ∈ ([] : List Addr) from z) (by simp)), fun z => by
      rcases List.mem_cons.mp (I.stkSub b z) with q | q
      · have hb := Heap.lt_size e
        have q' : b = s₀.heap.objs.size := q
        rw [q'] at hb
        exact Nat.lt_irrefl _ hb
      · exact hn q⟩
  have u2 : Un (frs outer) [] H₀ H' s₀.heap s'.heap := by
    have b0 : Un (frs outer) [] H₀ H s₀.heap s.heap := I.base
    refine ⟨fun b o e n hb hx => ?_, fun b o e n hb hx => ?_, fun b o e n hx => ?_, fun b o e hx => ?_, fun b xs e => u.tups b xs (b0.tups b xs e), fun b o v e => u.frzs b o v (b0.frzs b o v e), fun b ps e => ?_⟩
    · exact u.keep b o (b0.keep b o e n hb hx) (b0.free b o e n hx) (below b o e hb).2 hx
    · obtain ⟨s1, e1⟩ := b0.slot b o e n hb hx
      obtain ⟨s2, e2⟩ := u.any e1 (b0.free b o e n hx) hx
      exact ⟨s2, e2⟩
    · obtain ⟨o', e1⟩ := b0.there b o e hx
      exact u.free b o' e1 (b0.free b o e n hx) hx
    · obtain ⟨o', e1⟩ := b0.there b o e hx
      exact u.there b o' e1 hx
    · obtain ⟨m1, e1⟩ := b0.tbls b ps e
      obtain ⟨m2, e2⟩ := u.tbls b _ e1
      exact ⟨m1 ++ m2, by rw [e2, Array.append_assoc]⟩
  have hB2 : ∀ b o, s'.heap.get? b = some o → (H' b ≠ none ∨ ((∃ o', s₀.heap.get? b = some o') ∧ b ∉ frs outer)) → B.get? b = some o := fun b o e h => hB b o e (h.imp id fun ⟨⟨o', z⟩, hn⟩ => below b o' z hn)
  have ok2 : HOk P w H' h2 := ok.stays (fun b o e n => hB b o e (.inl n)) fl2.1
  refine ⟨ea, cls, a0, H', B, rfl, os.trans I.os, bare, u2.fly hB2 fl2.1 sl (fun b hb o e => ?_) (I.ok.frf), ok2, fl2, fun b o e h => ?_, q⟩
  · obtain ⟨_, o', e', d⟩ := I.ok.funs.mem hb
    have e'' : s₀.heap.get? b = some o' := e'
    rw [e] at e''
    cases e''
    exact d
  · have ex : ∃ o', s'.heap.get? b = some o' := by
      rcases h with h | ⟨h, hn⟩
      · cases q2 : H' b with
        | none => exact absurd q2 h
        | some v => exact (ok b v q2).got
      · obtain ⟨o5, q5⟩ := h
        exact u2.there b o5 q5 (by simp)
    obtain ⟨o', e'⟩ := ex
    have e2 := hB2 b o' e' h
    have e3 := fl2.1 b o' e2
    have e4 : h2.get? b = some o := e
    rw [e3] at e4
    cases e4
    exact e2
theorem pass_on : Passes (CXX P w) (cxX P w K mg base N qual scope f cd A outer s₀ H₀ E) E := by
  intro pins σ H s e s' I h
  obtain ⟨ea, cls, a0, H', B, rfl, os, bare, u, ok, fl, hB, q⟩ := h
  exact leave_on I os bare u ok fl hB q
def tRaise (cls : Value) (E : XK) (t : TA) : TS := fun _ σ H => t σ H fun vs H1 => vs.length ≤ sizeLine ∧ E cls none H1
theorem raise_end {pins : List (Addr × Obj)} {σ : St} {H : Hp} {s : Shared} {h' : Heap} {ea : Addr} {cls : Value} {us : List Value} (I : Inv (cxX P w K mg base N qual scope f cd A outer s₀ H₀ E) pins σ H s)
    (hx : Heap.MadeExcOf s.heap h' ea cls us) (q : E cls none H) : (cxX P w K mg base N qual scope f cd A outer s₀ H₀ E).xe (.ref ea) { s with heap := h' } := by
  have hfr : (A.deeper (envOfC qual scope s₀.heap.objs.size f cd)).frames = some (envOfC qual scope s₀.heap.objs.size f cd :: outer) := I.ok.frames
  have hin : ∀ env ∈ (cxX P w K mg base N qual scope f cd A outer s₀ H₀ E).stack, ∀ b, env.frame = some b → b ∈ frs (cxX P w K mg base N qual scope f cd A outer s₀ H₀ E).stack := fun env he b hb => List.mem_filterMap.mpr ⟨env, he, hb⟩
  have inB : ∀ b o, s.heap.get? b = some o → (H b ≠ none ∨ ((∃ o', s₀.heap.get? b = some o') ∧ b ∉ frs outer)) → (PySem.W.hideAll s.heap (frs (cxX P w K mg base N qual scope f cd A outer s₀ H₀ E).stack)).get? b = some o := fun b o e h =>
    PySem.W.hideAll_get _ e fun z => by
      rcases h with h | ⟨⟨o', e'⟩, hn⟩
      · exact h (I.stkFree b z)
      · rcases List.mem_cons.mp (I.stkSub b z) with q | q
        · have hb := Heap.lt_size e'
          have q' : b = s₀.heap.objs.size := q
          rw [q'] at hb
          exact Nat.lt_irrefl _ hb
        · exact hn q
  refine wpAny_leaves_madeW (base := PySem.W.hideAll s.heap (frs (cxX P w K mg base N qual scope f cd A outer s₀ H₀ E).stack)) (h := s.heap) (L := s₀.heap.objs.size) hfr rfl (fun b o e => PySem.W.of_hideAll _ e) (PySem.W.funFrames_hide I.stack hin) hx fun h3 t fl _ _ sl => ?_
  have sl' : s.heap.UpToSlots h3 := (Heap.UpToSlots.of_keeps hx.keeps).trans sl
  have b0 : Un (frs outer) [] H₀ H s₀.heap s.heap := I.base
  have ok3 : HOk P w H h3 := I.hok.stays (fun b o e n => inB b o e (.inl n)) fl.1
  refine ⟨ea, cls, _, H, _, rfl, I.os, I.bare, b0.fly inB fl.1 sl' (fun b hb o e => ?_) I.ok.frf, ok3, fl, fun b o e h => ?_, q⟩
  · obtain ⟨_, o', e', d⟩ := I.ok.funs.mem hb
    have e'' : s₀.heap.get? b = some o' := e'
    rw [e] at e''
    cases e''
    exact d
  · have ex : ∃ o', s.heap.get? b = some o' := by
      rcases h with h | ⟨⟨o5, q5⟩, _⟩
      · cases q2 : H b with
        | none => exact absurd q2 h
        | some v => exact (I.hok b v q2).got
      · exact b0.there b o5 q5 (by simp)
    obtain ⟨o', e'⟩ := ex
    have e2 := inB b o' e' h
    have e3 := fl.1 b o' e2
    have e4 : h3.get? b = some o := e
    rw [e3] at e4
    cases e4
    exact e2
theorem ps_raise {x : Str} {np cpos pos : Pos} {e₀ : Expr} {rest : List Expr} {t : TA} {C : Addr} {B newId initId : String} {bm : List Value} (O : OwnCls x C bm newId mg base) (FB : ExcBaseFacts B newId initId bm)
    (hg : Gl (cxX P w K mg base N qual scope f cd A outer s₀ H₀ E) x) (ha : PA (cxX P w K mg base N qual scope f cd A outer s₀ H₀ E) (e₀ :: rest) t)
    (he : starEach (e₀ :: rest) (cxX P w K mg base N qual scope f cd A outer s₀ H₀ E).env = (false, eval e₀ (cxX P w K mg base N qual scope f cd A outer s₀ H₀ E).env) :: starEach rest (cxX P w K mg base N qual scope f cd A outer s₀ H₀ E).env := by rfl)
    (hplain : (backTo cpos (starEach rest (cxX P w K mg base N qual scope f cd A outer s₀ H₀ E).env)).any (·.1) = false := by rfl) (hdb : (x == ("__debug__" : Str)) = false := by decide) :
    PS (cxX P w K mg base N qual scope f cd A outer s₀ H₀ E) (.Raise (some (.Call (.Name x np) (e₀ :: rest) [] cpos)) none pos) (tRaise (.ref C) E t) := by
  intro pins s σ H D I h
  obtain ⟨tl, N', nm, q, bs, hdct, sn, sub, ab, col, dd, k0, k1, k2, k3, k5, mN, hC, hN, hni, T⟩ := O.obj
  refine wpAny_Raise_call_subT (C := C) (nm := nm) (q := q) (N := N') (bs := bs) (bm := tl) (hdct := hdct) (sn := sn) (sub := sub) (ab := ab) (col := col) (dd := dd) (k0 := k0) (k1 := k1) (k2 := k2) (k3 := k3) (k5 := k5)
    FB (mN := mN) (T.hasType FB.hasBase) (I.ok.hd rfl) (by rw [he]; show (false || (backTo cpos (starEach rest (cxX P w K mg base N qual scope f cd A outer s₀ H₀ E).env)).any (·.1)) = false; rw [hplain]; rfl) hni (ld_glob I hg O.bound ⟨rfl, ?_⟩ hdb)
  have h' := ha cpos pins s σ H _ I h
  rw [he] at h' ⊢
  refine Calls.evalArgs_plain (thn h' fun us s2 ⟨vs, H2, I2, r, hz, q2⟩ => ⟨rfl, by rw [← r.length]; exact hz, I2.bk _ _ hC, hN.keeps I2.bk, T.keeps I2.bk, fun h3 e hm => raise_end I2 hm q2⟩)
end
end L2
namespace L2
open PySem PySem.Spec PyProof.Rows
mutual
inductive DRel (K : PySem.W.Frag) (H : Hp) : V → PyData → Prop
  | non : DRel K H .non .none
  | bl (b : Bool) : DRel K H (.bl b) (.bool b)
  | int (i : Int) : DRel K H (.int i) (.int i)
  | str (x : Str) : DRel K H (.str x) (.str x)
  | lst {a : Addr} {xs : List V} {ds : List PyData} (h : SqL K H a xs) (r : DRels K H xs ds) : DRel K H (.ref a) (.list ds)
  | tup {a : Addr} {xs : List V} {ds : List PyData} (h : SqT K H a xs) (r : DRels K H xs ds) : DRel K H (.ref a) (.tuple ds)
inductive DRels (K : PySem.W.Frag) (H : Hp) : List V → List PyData → Prop
  | nil : DRels K H [] []
  | cons {x : V} {d : PyData} {xs : List V} {ds : List PyData} (h : DRel K H x d) (r : DRels K H xs ds) : DRels K H (x :: xs) (d :: ds)
end
theorem DRels.ints {K : PySem.W.Frag} {H : Hp} : ∀ ns : List Int, DRels K H (ns.map V.int) (ns.map PyData.int)
  | [] => .nil
  | n :: ns => .cons (.int n) (DRels.ints ns)
section
variable {X : Cx} {pins : List (Addr × Obj)} {σ : St} {H : Hp} {s : Shared}
mutual
theorem DRel.reads (I : Inv X pins σ H s) : ∀ {x : V} {d : PyData} {v : Value}, DRel X.K H x d → RelV x v → ∃ as, Reads s.heap v d as
  | _, _, _, .non, r => by cases (show _ = Value.none from r); exact ⟨_, .none⟩
  | _, _, _, .bl b, r => by cases (show _ = Value.bool b from r); exact ⟨_, .bool b⟩
  | _, _, _, .int i, r => by obtain ⟨t, e⟩ := r; cases e; exact ⟨_, .int i t⟩
  | _, _, _, .str x, r => by obtain ⟨t, e⟩ := r; cases e; exact ⟨_, .str x t⟩
  | _, _, _, .lst (a := a) h rs, r => by
    cases (show _ = Value.ref a from r)
    obtain ⟨its, rv, p, hz⟩ := I.list h
    obtain ⟨o, ho, hc, n, hd⟩ := p.isList
    obtain ⟨as, q⟩ := DRels.reads I rs rv
    exact ⟨_, .list ho hc hd (by simpa using q)⟩
  | _, _, _, .tup (a := a) h rs, r => by
    cases (show _ = Value.ref a from r)
    obtain ⟨its, rv, p, hz⟩ := I.tuple h
    obtain ⟨o, ho, hc, n, hd⟩ := (show s.heap.IsTuple a its.toArray from p)
    obtain ⟨as, q⟩ := DRels.reads I rs rv
    exact ⟨_, .tuple ho hc hd (by simpa using q)⟩
theorem DRels.reads (I : Inv X pins σ H s) : ∀ {xs : List V} {ds : List PyData} {vs : List Value}, DRels X.K H xs ds → Vals xs vs → ∃ as, ReadsAll s.heap vs ds as
  | _, _, _, .nil, .nil => ⟨_, .nil⟩
  | _, _, _, .cons h r, .cons q t => by
    obtain ⟨as, e⟩ := DRel.reads I h q
    obtain ⟨bs, e'⟩ := DRels.reads I r t
    exact ⟨_, .cons e e'⟩
end
end
def rEqD (K : PySem.W.Frag) (neg : Bool) : R2 := fun x y H Q => ∃ dx dy, DRel K H x dx ∧ DRel K H y dy ∧ dx.canLay0 = true ∧ dy.canLay0 = true ∧ dx.depth ≤ 60 ∧ Q (.bl (if neg then !PyData.eqv dx dy else PyData.eqv dx dy)) H
section
variable {X : Cx}
theorem op_eqD (hu : X.A.units + 64 < cLine) : OpR X (compareOp .Eq) (rEqD X.K false) := by
  intro pins s σ H x y v u Q I rx ry h
  obtain ⟨dx, dy, h1, h2, c1, c2, dp, q⟩ := h
  obtain ⟨as, r1⟩ := h1.reads I rx
  obtain ⟨bs, r2⟩ := h2.reads I ry
  exact SeqAt.compareEq_reads r1 r2 c1 c2 (by have : min dx.depth dy.depth ≤ dx.depth := Nat.min_le_left _ _; omega) ⟨.bl _, H, I, rfl, q⟩
theorem op_neD (hu : X.A.units + 64 < cLine) : OpR X (compareOp .NotEq) (rEqD X.K true) := by
  intro pins s σ H x y v u Q I rx ry h
  obtain ⟨dx, dy, h1, h2, c1, c2, dp, q⟩ := h
  obtain ⟨as, r1⟩ := h1.reads I rx
  obtain ⟨bs, r2⟩ := h2.reads I ry
  exact SeqAt.compareNe_reads r1 r2 c1 c2 (by have : min dx.depth dy.depth ≤ dx.depth := Nat.min_le_left _ _; omega) ⟨.bl _, H, I, rfl, q⟩
end
end L2
namespace L2
open PySem PySem.Spec PyProof.Rows
section
variable {prog : Program} {w : World} {A : Around} {E : Value → Shared → Prop}
variable {s : Shared}
end
section
variable {X : Cx} {pos : Pos}
end
end L2
namespace L2
open PySem PySem.Spec PyProof.Rows
section
variable {P : Program} {w : World} {K : PySem.W.Frag} {mg : Str → Option Value} {base : Heap}
theorem Fun.okX {x qual : Str} {st : Stmt} {f : Addr} {fd : FuncData} {N ps : List Str} {k : Nat} {sp : Sp} (F : Fun K x qual st f fd) (S : FnScope N ps (defScope st)) (len : ∀ vs H Q E, sp vs H Q E → vs.length = ps.length)
    (hbody : ∀ (cdv : Value) (A : Around) (outer : List Env) (s : Shared) (H : Hp) (vs : List V) (Q : VK) (E : XK), Room k (A.deeper (envOfC qual (defScope st) s.heap.objs.size f cdv)) → sp vs H Q E →
      ∃ t, PSs (cxX P w K mg base N qual (defScope st) f cdv A outer s H E) (defBody st) t ∧ t { nx := fun _ H' => Q .non H', rt := Q } (start N vs) H) : FnOk P w K mg base (CXX P w) (k + 1) f fd ps sp := by
  obtain ⟨oc, od, kV, doc, pm, an, cdv, ct, osl, rfl, lk, hcd⟩ := F.ex
  exact fn_of lk hcd S len fun A outer s H vs Q E hr hsp => hbody cdv A outer s H vs Q E hr hsp
end
section
variable {X : Cx}
def rOr (r r' : R2) : R2 := fun x y H Q => r x y H Q ∨ r' x y H Q
def rAddS : R2 := fun x y H Q => ∃ i j, x = .str i ∧ y = .str j ∧ i.length + j.length ≤ sizeLine ∧ Q (.str (i ++ j)) H
def rAddI : R2 := rI0 fun i j => .int (i + j)
def rMulI : R2 := rI (fun i j => IntMulOk i j) fun i j => .int (i * j)
theorem op_addU : OpR X (binaryOp .Add) (rOr rAddI (rOr rAddS (rOr rCat (rCatT X.K)))) := op_add.or (op_add_str.or (op_cat.or op_catT))
theorem op_mulU : OpR X (binaryOp .Mult) (rOr rMulI rRep) := op_mulG.or op_rep
theorem op_eqU (hu : X.A.units + 64 < cLine) : OpR X (compareOp .Eq) (rOr rEq (rEqD X.K false)) := op_eq.or (op_eqD hu)
theorem op_neU (hu : X.A.units + 64 < cLine) : OpR X (compareOp .NotEq) (rOr rNe (rEqD X.K true)) := op_ne.or (op_neD hu)
end
namespace Rd
section
variable {σ : St} {H : Hp} {Q : VK} {D : Ends} {K : PySem.W.Frag} {r' : R2}
theorem addI {i j : Int} (q : Q (.int (i + j)) H) : rOr rAddI r' (.int i) (.int j) H Q := .inl ⟨i, j, rfl, rfl, q⟩
theorem addS {r1 : R2} {i j : Str} (hl : i.length + j.length ≤ sizeLine) (q : Q (.str (i ++ j)) H) : rOr r1 (rOr rAddS r') (.str i) (.str j) H Q := .inr (.inl ⟨i, j, rfl, rfl, hl, q⟩)
theorem mulI {i j : Int} (c : IntMulOk i j) (q : Q (.int (i * j)) H) : rOr rMulI r' (.int i) (.int j) H Q := .inl ⟨i, j, rfl, rfl, c, q⟩
theorem eqUI {i j : Int} (q : Q (.bl (decide (i = j))) H) : rOr rEq r' (.int i) (.int j) H Q := .inl (eqI q)
theorem neUD {x y : V} {dx dy : PyData} (hx : DRel K H x dx) (hy : DRel K H y dy) (cx : dx.canLay0 = true) (cy : dy.canLay0 = true) (dp : dx.depth ≤ 60) (q : Q (.bl (!PyData.eqv dx dy)) H) : rOr rNe (rEqD K true) x y H Q :=
  .inr ⟨dx, dy, hx, hy, cx, cy, dp, q⟩
theorem ixuL {p : Addr} {xs : List V} {i : Int} {v : V} (h : SqL K H p xs) (e : atI xs i = some v) (q : Q v H) : rIx K (.ref p) (.int i) H Q := .inl (ixl h e q)
theorem ixuT {p : Addr} {xs : List V} {i : Int} {v : V} (h : SqT K H p xs) (e : atI xs i = some v) (q : Q v H) : rIx K (.ref p) (.int i) H Q := .inr (.inl (ixt h e q))
theorem lenL {C : Nat → Prop} {p : Addr} {xs : List V} (h : SqL K H p xs) (q : C xs.length) : ∃ x n, [V.ref p] = [x] ∧ LenV K x H n ∧ C n := ⟨_, _, rfl, .inl ⟨xs, h, rfl⟩, q⟩
theorem lenS {C : Nat → Prop} {y : Str} (h : y.length ≤ sizeLine) (q : C y.length) : ∃ x n, [V.str y] = [x] ∧ LenV K x H n ∧ C n := ⟨_, _, rfl, ⟨h, rfl⟩, q⟩
theorem nameS {i : Nat} {v : V} {σ' : St} {Q : St → Hp → Prop} (e : σ.set i (some v) = σ') (h : Q σ' H) : gName i v σ H Q := by
  subst e
  exact h
theorem ifP {c A B : Prop} [Decidable c] (h : c) (a : A) : if decide c = true then A else B := by rw [decide_eq_true h]; exact iteT a
theorem ifN {c A B : Prop} [Decidable c] (h : ¬ c) (b : B) : if decide c = true then A else B := by rw [decide_eq_false h]; exact iteF b
theorem truB {b : Bool} {C : Bool → Prop} (q : C b) : ∃ k, TruV K (.bl b) H k ∧ C k := ⟨b, rfl, q⟩
end
end Rd
end L2
namespace L2
open PySem PySem.Spec PyProof.Rows
namespace Rd
section
variable {H : Hp} {C : Bool → Prop} {K : PySem.W.Frag}
theorem is_int_int {i : Int} (q : C true) : ∃ x n' t b, [V.int i, .ty "int"] = [x, .ty n'] ∧ TyOf K H x t ∧ PySem.W.kitOne K t (.type n') = some b ∧ C b := ⟨_, _, _, true, rfl, .int i, rfl, q⟩
theorem is_int_bool {i : Int} (q : C false) : ∃ x n' t b, [V.int i, .ty "bool"] = [x, .ty n'] ∧ TyOf K H x t ∧ PySem.W.kitOne K t (.type n') = some b ∧ C b := ⟨_, _, _, false, rfl, .int i, rfl, q⟩
theorem is_str_str {i : Str} (q : C true) : ∃ x n' t b, [V.str i, .ty "str"] = [x, .ty n'] ∧ TyOf K H x t ∧ PySem.W.kitOne K t (.type n') = some b ∧ C b := ⟨_, _, _, true, rfl, .str i, rfl, q⟩
theorem is_lst_list {p : Addr} {xs : List V} (h : H p = some (.lst xs)) (q : C true) : ∃ x n' t b, [V.ref p, .ty "list"] = [x, .ty n'] ∧ TyOf K H x t ∧ PySem.W.kitOne K t (.type n') = some b ∧ C b := ⟨_, _, _, true, rfl, .lst h, rfl, q⟩
end
end Rd
end L2
namespace L2
open PySem PySem.Spec PyProof.Rows
def chkComp (scX sc : Scope) (N zs : List Str) (ix : List Nat) : Bool :=
  decide (sc.kind = .function) && (sc.names.all fun y => decide (y.2 ≠ .cell)) && (sc.names.all fun y => decide (y.2 = .local → sc.names.lookup y.1 = some .local)) &&
  (sc.names.all fun y => decide (y.2 = .free → scX.names.lookup y.1 = some .cell ∨ scX.names.lookup y.1 = some .free)) && (zs.all fun z => decide (sc.names.lookup z = some .free)) && decide (ix.map (fun j => N[j]?) = zs.map some)
theorem cscope {X : Cx} {sc : Scope} {x : Str} {zs : List Str} {ix : List Nat} (scX : Scope) (N : List Str) (e1 : X.env.scope = scX) (e2 : X.N = N) (h : chkComp scX sc N zs ix = true) : CompScope X sc x zs ix := by
  unfold chkComp at h
  simp only [Bool.and_eq_true, List.all_eq_true, decide_eq_true_eq] at h
  obtain ⟨⟨⟨⟨⟨h1, h2⟩, h3⟩, h4⟩, h5⟩, h6⟩ := h
  subst e1 e2
  exact ⟨h1, h2, h3, h4, h5, h6⟩
end L2
namespace L2
open PySem PySem.Spec PyProof.Rows
section
variable {X : Cx} {CX : CXT} {k : Nat} {f C : Addr} {fd : FuncData} {ps : List Str} {sp : Sp} {dvs : List V} {ds : List Value} {E : XK} {J : St → Prop} {x m : Str} {p pos apos : Pos} {e o : Expr} {es : List Expr} {ta : TE} {t : TA}
end
end L2
namespace L2
open PySem PySem.Spec PyProof.Rows
section
variable {K : PySem.W.Frag} {H : Hp}
theorem DRel.ints {p : Addr} {ns : List Int} (h : SqL K H p (ns.map V.int)) : DRel K H (.ref p) (.list (ns.map PyData.int)) := .lst h (DRels.ints ns)
namespace Rd
variable {Q : VK}
end Rd
end
end L2
namespace L2
open PySem PySem.Spec PyProof.Rows
structure Walks (J : It) (n : Nat) (f : Nat → V) (H : Hp) : Prop where
  go : ∀ H' i, Same H H' → i < n → J.go i H'
  yld : ∀ H' i x H2, Same H H' → i < n → J.yld i H' x H2 → H2 = H' ∧ x = f i
  stop : ∀ H', Same H H' → J.stop n H'
theorem walks_rng {lo : Int} {n : Nat} {H : Hp} : Walks (Itr lo n) n (fun i => .int (lo + i)) H := ⟨fun _ _ _ h => h, fun _ _ _ _ _ _ h => h, fun _ _ => Nat.le_refl _⟩
theorem walks_lst {K : PySem.W.Frag} {a : Addr} {xs : List V} {H : Hp} (h : SqL K H a xs) : Walks (Itl K a) xs.length (fun i => xs.getD i .non) H :=
  ⟨fun H' i e hi => ⟨xs, xs[i], e.seq h, by simp [hi]⟩, fun H' i x H2 e hi y => ⟨y.1, by
    have := y.2 xs (e.seq h)
    simp [List.getD, this]⟩, fun H' e => ⟨xs, e.seq h, Nat.le_refl _⟩⟩
theorem for_walk {J : It} {n : Nat} {f : Nat → V} {H0 : Hp} (w : Walks J n f H0) {g : TG} {tb : TS} {D : Ends} {σ : St} {H : Hp} (Pv : Nat → St → Hp → Prop) (h0 : Pv 0 σ H) (hk : ∀ i σ H, Pv i σ H → Same H0 H)
    (hs : ∀ i σ H, i < n → Pv i σ H → g (f i) σ H fun σ2 H2 => tb { D with nx := Pv (i + 1), ct := Pv (i + 1), bk := D.nx } σ2 H2) (hd : ∀ σ H, Pv n σ H → D.nx σ H) :
    ∃ W : Nat → Nat → St → Hp → Prop, (∃ m, W 0 m σ H) ∧ ∀ i m σ H, W i m σ H →
      (J.stop i H ∧ D.nx σ H) ∨ (J.go i H ∧ ∃ N : St → Hp → Prop, (∀ σ' H', N σ' H' → ∃ m', m' < m ∧ W (i + 1) m' σ' H') ∧ ∀ x H', J.yld i H x H' → g x σ H' fun σ2 H2 => tb { D with nx := N, ct := N, bk := D.nx } σ2 H2) := by
  refine ⟨fun i m σ H => m = n - i ∧ i ≤ n ∧ Pv i σ H, ⟨n, by simp, Nat.zero_le _, h0⟩, ?_⟩
  rintro i m σ H ⟨rfl, hi, p⟩
  have sm := hk i σ H p
  by_cases hlt : i < n
  · refine .inr ⟨w.go H i sm hlt, Pv (i + 1), fun σ' H' p' => ⟨n - (i + 1), by omega, rfl, hlt, p'⟩, fun x H' y => ?_⟩
    obtain ⟨rfl, rfl⟩ := w.yld H i x H' sm hlt y
    exact hs i σ _ hlt p
  · have e : i = n := by omega
    subst e
    exact .inl ⟨w.stop H sm, hd σ H p⟩
theorem comp_walk {ix : List Nat} {tc : TT} {te : TE} {Q : Addr → Hp → Prop} {σ : St} {H : Hp} {J : It} {n : Nat} {f : Nat → V} (w : Walks J n f H) (hn : n < sizeLine) (c : Nat → Bool) (r : Nat → V)
    (hc : ∀ i H' (Kc : Bool → Hp → Prop), i < n → Same H H' → (∀ H4, Same H' H4 → Kc (c i) H4) → tc (some (f i) :: ix.map fun j => (σ[j]?).join) H' Kc)
    (he : ∀ i H' (Kc : VK), i < n → c i = true → Same H H' → (∀ H5, Same H' H5 → Kc (r i) H5) → te (some (f i) :: ix.map fun j => (σ[j]?).join) H' Kc)
    (q : ∀ p H', H p = none → Same H H' → H' p = some (.lst (((List.range n).filter c).map r)) → Q p H') :
    ∀ p, H p = none → ∃ W : Nat → Nat → List V → St → Hp → Prop, (∃ m, W 0 m [] (emb ix σ) (upd H p (.lst []))) ∧ ∀ i m ys σ' H', W i m ys σ' H' →
      (J.stop i H' ∧ Q p H') ∨ (J.go i H' ∧ ∀ x H2, J.yld i H' x H2 → gName 0 x σ' H2 fun σ2 H3 => tc σ2 H3 fun b H4 =>
        if b = true then te σ2 H4 fun v H5 => H5 p = some (.lst ys) ∧ ys.length < sizeLine ∧ ∃ m', m' < m ∧ W (i + 1) m' (ys ++ [v]) σ2 (upd H5 p (.lst (ys ++ [v])))
        else ∃ m', m' < m ∧ W (i + 1) m' ys σ2 H4) := by
  intro p hp
  refine ⟨fun i m ys σ' H' => m = n - i ∧ i ≤ n ∧ (∃ a, σ' = a :: ix.map fun j => (σ[j]?).join) ∧ Same H H' ∧ H' p = some (.lst ys) ∧ ys = ((List.range i).filter c).map r,
    ⟨n, by simp, Nat.zero_le _, ⟨none, rfl⟩, same_new hp, upd_same, rfl⟩, ?_⟩
  rintro i m ys σ' H' ⟨rfl, hi, ⟨a, rfl⟩, sm, hy, hl⟩
  by_cases hlt : i < n
  · refine .inr ⟨w.go H' i sm hlt, fun x H2 y => ?_⟩
    obtain ⟨rfl, rfl⟩ := w.yld H' i x H2 sm hlt y
    show tc ((a :: ix.map fun j => (σ[j]?).join).set 0 (some (f i))) H2 _
    have hlen : ys.length ≤ i := by
      rw [hl, List.length_map]
      exact Nat.le_trans (List.length_filter_le _ _) (by simp)
    refine hc i H2 _ hlt sm fun H4 s4 => ?_
    have sm4 := sm.trans s4
    have hy4 := s4 _ _ hy
    have step : (List.range (i + 1)).filter c = (List.range i).filter c ++ (if c i = true then [i] else []) := by
      rw [List.range_succ, List.filter_append]
      congr 1
      by_cases h : c i = true <;> simp [h]
    by_cases hci : c i = true
    · rw [hci, if_pos rfl]
      refine he i H4 _ hlt hci sm4 fun H5 s5 => ⟨s5 _ _ hy4, by omega, n - (i + 1), by omega, rfl, hlt, ⟨_, rfl⟩, (sm4.trans s5).new hp, upd_same, ?_⟩
      rw [step, if_pos hci, List.map_append, hl]
      rfl
    · have hcf : c i = false := by simpa using hci
      rw [hcf, if_neg Bool.false_ne_true]
      refine ⟨n - (i + 1), by omega, rfl, hlt, ⟨_, rfl⟩, sm4, hy4, ?_⟩
      rw [step, if_neg hci, List.append_nil, hl]
  · have e : i = n := by omega
    subst e
    exact .inl ⟨w.stop H' sm, q p H' hp sm (by rw [← hl]; exact hy)⟩
end L2
namespace L2
open PySem PySem.Spec PyProof.Rows
structure Frame (A : List Addr) (H H' : Hp) : Prop where
  keep : ∀ b o, H b = some o → b ∉ A → H' b = some o
  tups : ∀ b xs, H b = some (.tup xs) → H' b = some (.tup xs)
theorem Same.frame {A : List Addr} {H H' : Hp} (e : Same H H') : Frame A H H' := ⟨fun b o h _ => e b o h, fun b xs h => e b _ h⟩
theorem Frame.refl {A : List Addr} {H : Hp} : Frame A H H := (Same.refl H).frame
theorem Frame.trans {A : List Addr} {H H1 H2 : Hp} (a : Frame A H H1) (b : Frame A H1 H2) : Frame A H H2 := ⟨fun c o h n => b.keep c o (a.keep c o h n) n, fun c xs h => b.tups c xs (a.tups c xs h)⟩
theorem Frame.mono {A B : List Addr} {H H' : Hp} (a : Frame A H H') (h : ∀ x ∈ A, x ∈ B) : Frame B H H' := ⟨fun c o e n => a.keep c o e fun z => n (h c z), a.tups⟩
theorem frame_upd {A : List Addr} {H : Hp} {p : Addr} {o o' : HO} (hp : p ∈ A) (h : H p = some o) (ht : ∀ xs, o ≠ .tup xs) : Frame A H (upd H p o') := by
  refine ⟨fun b u e n => ?_, fun b xs e => ?_⟩
  · have z : b ≠ p := fun z => n (by rw [z]; exact hp)
    rw [upd_ne z]
    exact e
  · have z : b ≠ p := fun z => ht xs (by rw [z, h] at e; exact Option.some.inj e)
    rw [upd_ne z]
    exact e
def Grows (A A' : List Addr) (H : Hp) : Prop := ∀ a ∈ A', a ∈ A ∨ H a = none
theorem Grows.refl {A : List Addr} {H : Hp} : Grows A A H := fun _ h => .inl h
def OffL (K : PySem.W.Frag) (H : Hp) (A : List Addr) (a : Addr) (xs : List V) : Prop :=
  (Rd H a (.lst xs) ∧ a ∉ A) ∨ ∃ (o : Obj) (its : Array Value) (n : Nat), K.lookup a = some o ∧ o.cls = .type "list" ∧ o.dict = none ∧ o.data = .seq its n ∧ its.size ≤ sizeLine ∧ Vals xs its.toList
theorem OffL.sq {K : PySem.W.Frag} {H : Hp} {A : List Addr} {a : Addr} {xs : List V} (h : OffL K H A a xs) : SqL K H a xs := h.imp And.left id
theorem OffL.frame {K : PySem.W.Frag} {H H' : Hp} {A : List Addr} {a : Addr} {xs : List V} (h : OffL K H A a xs) (f : Frame A H H') : OffL K H' A a xs := by
  rcases h with ⟨h | ⟨o, h⟩, n⟩ | h
  · exact .inl ⟨.inl (f.keep _ _ h n), n⟩
  · exact .inl ⟨.inr ⟨o, f.keep _ _ h n⟩, n⟩
  · exact .inr h
theorem OffL.more {K : PySem.W.Frag} {H : Hp} {A A' : List Addr} {a : Addr} {xs : List V} (h : OffL K H A a xs) (g : Grows A A' H) : OffL K H A' a xs := by
  rcases h with ⟨h, n⟩ | h
  · refine .inl ⟨h, fun z => ?_⟩
    rcases g a z with z | z
    · exact n z
    · rcases h with h | ⟨o, h⟩ <;> (rw [h] at z; cases z)
  · exact .inr h
theorem OffL.sub {K : PySem.W.Frag} {H : Hp} {A A' : List Addr} {a : Addr} {xs : List V} (h : OffL K H A a xs) (g : ∀ x ∈ A', x ∈ A) : OffL K H A' a xs := h.imp (fun ⟨h, n⟩ => ⟨h, fun z => n (g a z)⟩) id
theorem SqL.off {K : PySem.W.Frag} {H : Hp} {A : List Addr} {a : Addr} {xs : List V} (h : SqL K H a xs) (g : ∀ x ∈ A, H x = none) : OffL K H A a xs := by
  rcases h with h | h
  · refine .inl ⟨h, fun z => ?_⟩
    have := g a z
    rcases h with h | ⟨o, h⟩ <;> (rw [h] at this; cases this)
  · exact .inr h
section
variable {K : PySem.W.Frag} {H H' : Hp} {A A' : List Addr}
namespace Rd
variable {Q : VK}
end Rd
end
end L2
namespace L2
open PySem PySem.Spec PyProof.Rows
def Its (x : Str) : It := ⟨fun i _ => i < x.cps.size, fun i H v H' => H' = H ∧ ∃ c, x.cps[i]? = some c ∧ v = .str ⟨#[c]⟩, fun i _ => x.cps.size ≤ i⟩
theorem turn_str {P : Program} {w : World} {K : PySem.W.Frag} {tg : Expr} (it : Addr) (x : Str) (t : Tok) (ty : String) (hty : ty = "str_ascii_iterator" ∨ ty = "str_iterator") : Turn P w K tg (Its x) [it] it (fun i h => h.IsStrIter it ty x t i) where
  mem := by simp
  obj := fun i h st b hb => by
    have e : b = it := by simpa using hb
    subst e
    obtain ⟨o, e, c, d⟩ := st
    exact ⟨o, e, fun v z => by rw [d] at z; cases z⟩
  keep := fun i h h' st k => let ⟨o, ho, r⟩ := st; ⟨o, k it (by simp) o ho, r⟩
  item := by
    intro X hP hw hK hc i pins s σ H E I hf st hg
    subst hP hw hK
    obtain ⟨f0, f1, f2, f3, f4, f5⟩ := hf it (by simp)
    have hi : i < x.cps.size := hg
    have fin : ∀ h' : Heap, h'.IsStrIter it ty x t (i + 1) → Heap.SameBut it s.heap h' → ∃ u, some (Value.str ⟨#[x.cps[i]]⟩ s.toks) = some u ∧
        wpAny (model X.prog X.w) X.A (letOwnedTupleGo tg (.ref it) u) (fun _ s2 => ∃ y H', Inv X pins σ H' s2 ∧ RelV y u ∧ (Its x).yld i H y H' ∧ s2.heap.IsStrIter it ty x t (i + 1) ∧ ∀ b ∈ [it], H' b = none) E { s with heap := h', toks := s.toks + 1 } := fun h' st' sb => by
      have I1 : Inv X pins σ H { s with heap := h', toks := s.toks + 1 } := I.turned (t' := s.toks + 1) (fun b o hb e => (sb.2 b hb).trans e) f0 f1 f3 f4 f5
      obtain ⟨o, e, c, d⟩ := id st'
      refine ⟨_, rfl, go_of (s := { s with heap := h', toks := s.toks + 1 }) e c d (by rcases hty with rfl | rfl <;> decide) ⟨.str ⟨#[x.cps[i]]⟩, H, I1, ⟨_, rfl⟩, ⟨rfl, x.cps[i], by simp [hi], rfl⟩, st', fun b hb => (hf b hb).1⟩⟩
    rcases hty with rfl | rfl
    · exact wpAny_pyNext_ascii_item st (c := x.cps[i]) (by simp [hi]) fin
    · exact wpAny_pyNext_wide_item st (c := x.cps[i]) (by simp [hi]) fin
  done := by
    intro X hP hw hK hc i pins s σ H E I hf st hg
    subst hP hw hK
    obtain ⟨f0, f1, f2, f3, f4, f5⟩ := hf it (by simp)
    have hi : x.cps.size ≤ i := hg
    rcases hty with rfl | rfl
    · exact wpAny_pyNext_ascii_end (I.ok.hd hc) st (by simp [hi]) fun h' eb => ⟨rfl, I.turned (t' := s.toks) (fun b o hb e => eb b o hb e) f0 f1 f3 f4 f5⟩
    · exact wpAny_pyNext_wide_end (I.ok.hd hc) st (by simp [hi]) fun h' eb => ⟨rfl, I.turned (t' := s.toks) (fun b o hb e => eb b o hb e) f0 f1 f3 f4 f5⟩
  self := fun _ _ _ _ _ st h => by
    rcases hty with rfl | rfl
    · exact wpAny_pyIter_striter_ascii st h
    · exact wpAny_pyIter_striter_wide st h
section
variable {X : Cx} {tg : Expr}
def iStr (tl : TE) : TI := fun σ H R => tl σ H fun x H1 => ∃ y, x = .str y ∧ R (Its y) H1
theorem pi_str {l : Expr} {tl : TE} (hl : PE X l tl) : PI X tg l (iStr tl) := by
  intro pins s σ H R I h
  refine thn (hl pins s σ H _ I h) fun v s1 ⟨x, H1, I1, r1, q1⟩ => ?_
  obtain ⟨y, e, q⟩ := q1
  subst e
  obtain ⟨t, rfl⟩ := r1
  have fin : ∀ ty : String, (ty = "str_ascii_iterator" ∨ ty = "str_iterator") → PIE X pins σ tg R (.ref s1.heap.objs.size) { s1 with heap := s1.heap.push { cls := .type ty, data := .fields #[.str y t, .int 0 0] } } := fun ty hty => by
    refine ⟨s1.heap.objs.size, [s1.heap.objs.size], _, _, H1, rfl, I1.kept (t' := s1.toks) fun b o e => Heap.get?_push_of_some _ e, turn_str _ y t ty hty, ⟨_, Heap.get?_push_size _ rfl, rfl, rfl⟩, fun b hb => ?_, q⟩
    have e : b = s1.heap.objs.size := by simpa using hb
    subst e
    exact I1.fpOk (Nat.le_refl _) (I1.hok.fresh (Nat.le_refl _))
  cases ha : y.cps.all (· < 128)
  · exact wpAny_pyIter_wide ha (fin _ (.inr rfl))
  · exact wpAny_pyIter_ascii ha (fin _ (.inl rfl))
theorem walks_str {x : Str} {H : Hp} : Walks (Its x) x.cps.size (fun i => .str ⟨#[x.cps.getD i 0]⟩) H :=
  ⟨fun _ _ _ h => h, fun H' i v H2 _ hi ⟨e, c, hc, hv⟩ => ⟨e, by rw [hv]; simp [Array.getD, hi] at hc ⊢; exact hc.symm⟩, fun _ _ => Nat.le_refl _⟩
def rLeS : R2 := fun x y H Q => ∃ i j, x = .str i ∧ y = .str j ∧ Q (.bl (!decide (j.cps.toList < i.cps.toList))) H
theorem op_le_str : OpR X (compareOp .LtE) rLeS := by
  intro pins s σ H x y v u Q I rx ry h
  obtain ⟨i, j, rfl, rfl, q⟩ := h
  obtain ⟨t, rfl⟩ := rx
  obtain ⟨t', rfl⟩ := ry
  exact PySem.P.le_str ⟨.bl _, H, I, rfl, q⟩
theorem vals_bools {s : Shared} : ∀ {bs : List Bool} {us : List Value}, Vals (bs.map V.bl) us → us = bs.map Value.bool
  | [], _, r => by cases r; rfl
  | b :: bs, _, r => by
    cases r with
    | cons r1 r2 =>
      have e : _ = Value.bool b := r1
      rw [e, vals_bools (s := s) r2]
      rfl
theorem kept_it {s : Shared} {h' : Heap} {o : Obj} (hk : ∀ b x, b ∉ [s.heap.objs.size] → (s.heap.push o).get? b = some x → h'.get? b = some x) : ∀ b x, s.heap.get? b = some x → h'.get? b = some x :=
  fun b x e => hk b x (fun hm => by rw [List.mem_singleton.mp hm] at e; exact Nat.lt_irrefl _ (Heap.lt_size e)) (Heap.get?_push_of_some _ e)
theorem range_all' (bs : List Bool) : ((List.range bs.length).all fun i => (bs[i]?).getD true) = bs.all id := by
  rw [Bool.eq_iff_iff, List.all_eq_true, List.all_eq_true]
  constructor
  · intro h b hb
    obtain ⟨i, hi, rfl⟩ := List.getElem_of_mem hb
    have := h i (List.mem_range.mpr hi)
    simpa [List.getElem?_eq_getElem hi] using this
  · intro h i hi
    have hi' := List.mem_range.mp hi
    simp only [List.getElem?_eq_getElem hi', Option.getD_some]
    exact h _ (List.getElem_mem hi')
theorem call_allB (hc : X.calm = true) : CallR X (.builtin "all") (fun xs H Q => ∃ (p : Addr) (bs : List Bool), xs = [.ref p] ∧ SqL X.K H p (bs.map V.bl) ∧ Q (.bl (bs.all id)) H) := by
  intro pins s σ H xs us Q I r h
  obtain ⟨p, bs, rfl, hq, q⟩ := h
  obtain ⟨u, rfl, rx⟩ := vals1 r
  cases rx
  obtain ⟨its, rv, pl, hz⟩ := I.list hq
  have ev := vals_bools (s := s) rv
  subst ev
  have hl := pl.isList
  have hlt : p < s.heap.objs.size := by obtain ⟨_, e, _⟩ := hl; exact Heap.lt_size e
  refine call_all_walk (wpAny_pyIter_list hl ?_)
  refine ⟨s.heap.objs.size, [s.heap.objs.size, p], [s.heap.objs.size], (bs.map Value.bool).toArray.size, _, _, fun i => (bs[i]?).getD true, rfl, PySem.Walks.list (A := X.A.in1) (I.ok.hd hc) _ p (Nat.ne_of_lt hlt) (bs.map Value.bool).toArray,
    ⟨⟨_, Heap.get?_push_size _ rfl, rfl, rfl⟩, hl.push _⟩, fun i v s' Q' E' hP hQ => ?_, fun h' tk hk => ?_⟩
  · have hP' : (bs.map Value.bool)[i]? = some v := by simpa using hP
    rw [List.getElem?_map] at hP'
    cases e : bs[i]? with
    | none => rw [e] at hP'; cases hP'
    | some b =>
      rw [e] at hP'
      cases hP'
      have hQ' : Q' ((bs[i]?).getD true) s' := hQ
      rw [e] at hQ'
      exact wpAny_truthy_bool hQ'
  · have e : ((List.range (bs.map Value.bool).toArray.size).all fun i => (bs[i]?).getD true) = bs.all id := by
      rw [List.size_toArray, List.length_map]; exact range_all' bs
    rw [e]
    exact ⟨.bl (bs.all id), H, I.kept (kept_it hk), rfl, q⟩
end
end L2
namespace L2
open PySem PySem.Spec PyProof.Rows
structure FunD (K : PySem.W.Frag) (x qual : Str) (st : Stmt) (dT : Addr) (f : Addr) (fd : FuncData) : Prop where
  ex : ∃ (oc : Value) (od : Option Addr) (kV doc pm : Value) (an : Option Addr) (cdv ct : Value) (osl : Array (Option Value)),
    fd = PySem.W.fnOf x qual (defArgs st) (defBody st) (defScope st) (.ref dT) kV doc pm an cdv ct ∧ K.lookup f = some ⟨oc, od, .func fd, osl⟩ ∧ PySem.W.codeIn K cdv qual = true
  kp : PySem.W.keepIn K (.ref f) = true
section
variable {P : Program} {w : World} {K : PySem.W.Frag} {mg : Str → Option Value} {base : Heap}
theorem FunD.okX {x qual : Str} {st : Stmt} {dT f : Addr} {fd : FuncData} {N ps : List Str} {k : Nat} {sp : Sp} (F : FunD K x qual st dT f fd) (S : FnScope N ps (defScope st)) (len : ∀ vs H Q E, sp vs H Q E → vs.length = ps.length)
    (hbody : ∀ (cdv : Value) (A : Around) (outer : List Env) (s : Shared) (H : Hp) (vs : List V) (Q : VK) (E : XK), Room k (A.deeper (envOfC qual (defScope st) s.heap.objs.size f cdv)) → sp vs H Q E →
      ∃ t, PSs (cxX P w K mg base N qual (defScope st) f cdv A outer s H E) (defBody st) t ∧ t { nx := fun _ H' => Q .non H', rt := Q } (start N vs) H) : FnOk P w K mg base (CXX P w) (k + 1) f fd ps sp := by
  obtain ⟨oc, od, kV, doc, pm, an, cdv, ct, osl, rfl, lk, hcd⟩ := F.ex
  exact fn_of lk hcd S len fun A outer s H vs Q E hr hsp => hbody cdv A outer s H vs Q E hr hsp
theorem funD_mk {x qual : Str} {st : Stmt} {dT f : Addr} {oc : Value} {od an : Option Addr} {osl : Array (Option Value)} {kV doc pm cdv ct : Value} (l : K.lookup f = some ⟨oc, od, .func (PySem.W.fnOf x qual (defArgs st) (defBody st) (defScope st) (.ref dT) kV doc pm an cdv ct), osl⟩)
    (c : PySem.W.codeIn K cdv qual = true) (k : PySem.W.keepIn K (.ref f) = true) : FunD K x qual st dT f (PySem.W.fnOf x qual (defArgs st) (defBody st) (defScope st) (.ref dT) kV doc pm an cdv ct) := ⟨⟨oc, od, kV, doc, pm, an, cdv, ct, osl, rfl, l, c⟩, k⟩
theorem own_of {h₀ : Heap} {x : Str} {C : Addr} {bmB : List Value} {newId : String} (X : K.In h₀) (g : h₀.Ns mainGlobals mg) (e : PySem.W.nsIn K mainGlobals x = some (some (.ref C))) (q : PySem.W.excIn K C bmB newId = true) : OwnCls x C bmB newId mg h₀ := by
  refine ⟨PySem.W.mg_of X g e, ?_⟩
  unfold PySem.W.excIn at q
  split at q
  · rename_i dd cd sl ho
    split at q
    · rename_i C' bm k0 k1 k2 k3 n k5 hm hs
      simp only [Bool.and_eq_true, beq_iff_eq, Bool.not_eq_true'] at q
      obtain ⟨⟨⟨⟨⟨rfl, rfl⟩, hdel⟩, ht⟩, hok⟩, hni⟩ := q
      obtain ⟨nm, bs, mro, ns, qn, hd, sn, sub, ab, col, del⟩ := cd
      dsimp only at hm hdel hok hni
      subst hm hdel
      have hsl : sl = #[k0, k1, k2, k3, some (.builtin n), k5] := by
        obtain ⟨l⟩ := sl
        simp only at hs
        rw [hs]
      subst hsl
      exact ⟨bm, ns, nm, qn, bs, hd, sn, sub, ab, col, dd, k0, k1, k2, k3, k5, _, X _ _ ho, .of_isNs (PySem.W.isNs_of_in X hok), PySem.W.nsMap_none_of_in X hok hni, PySem.W.tail_of_in X ht⟩
    · cases q
  · cases q
section
variable {N : List Str} {qual : Str} {scope : Scope} {f : Addr} {cd : Value} {A : Around} {outer : List Env} {s₀ : Shared} {H₀ : Hp} {E : XK}
theorem ps_raiseK {x : Str} {np cpos pos : Pos} {e₀ : Expr} {rest : List Expr} {t : TA} {C : Addr} {B newId initId : String} {bm : List Value} (e : PySem.W.nsIn K mainGlobals x = some (some (.ref C))) (q : PySem.W.excIn K C bm newId = true) (FB : ExcBaseFacts B newId initId bm)
    (hg : Gl (cxX P w K mg base N qual scope f cd A outer s₀ H₀ E) x) (ha : PA (cxX P w K mg base N qual scope f cd A outer s₀ H₀ E) (e₀ :: rest) t)
    (he : starEach (e₀ :: rest) (cxX P w K mg base N qual scope f cd A outer s₀ H₀ E).env = (false, eval e₀ (cxX P w K mg base N qual scope f cd A outer s₀ H₀ E).env) :: starEach rest (cxX P w K mg base N qual scope f cd A outer s₀ H₀ E).env := by rfl)
    (hplain : (backTo cpos (starEach rest (cxX P w K mg base N qual scope f cd A outer s₀ H₀ E).env)).any (·.1) = false := by rfl) (hdb : (x == ("__debug__" : Str)) = false := by decide) :
    PS (cxX P w K mg base N qual scope f cd A outer s₀ H₀ E) (.Raise (some (.Call (.Name x np) (e₀ :: rest) [] cpos)) none pos) (tRaise (.ref C) E t) := by
  intro pins s σ H D I h
  exact ps_raise (own_of I.ok.mod.kin I.ok.mod.glob e q) FB hg ha he hplain hdb pins s σ H D I h
end
end
section
variable {X : Cx}
def rSlS : V → Option Int → Option Int → Hp → VK → Prop := fun x lo hi H Q => ∃ z, x = .str z ∧ z.length ≤ sizeLine ∧ Q (.str (Txt.slice z lo hi)) H
theorem sl_str : SlR X rSlS := by
  intro pins s σ H x v vl vu lo hi sl Q I rx hs pl pu h
  obtain ⟨z, rfl, hz, q⟩ := h
  obtain ⟨t, rfl⟩ := rx
  refine ⟨"str", _, F.slot_str_getitem.lookup, typeIs_str _ _ _, ?_⟩
  have fin : ∀ l u : Option (Int × Tok), l.map (·.1) = lo → u.map (·.1) = hi → partValue l = vl → partValue u = vu → wpAny (model X.prog X.w) X.A (getItem (.str z t) (.ref sl)) (EP X pins σ Q) X.xe s := fun l u e1 e2 e3 e4 => by
    obtain ⟨o, ho, hc, hd⟩ := hs
    subst e1 e2 e3 e4
    exact wpAny_getItem_str_slice (l := l) (u := u) (st := none) ⟨o, ho, hc, hd⟩ rfl (post_val_or_str ⟨Nat.le_trans (Txt.slice_le z _ _) hz, fun t' k => ⟨.str _, H, I.tok k, ⟨_, rfl⟩, q⟩⟩)
  cases pl with
  | none =>
    cases pu with
    | none => exact fin none none rfl rfl rfl rfl
    | int j t' => exact fin none (some (j, t')) rfl rfl rfl rfl
  | int i ti =>
    cases pu with
    | none => exact fin (some (i, ti)) none rfl rfl rfl rfl
    | int j t' => exact fin (some (i, ti)) (some (j, t')) rfl rfl rfl rfl
def rSlU (K : PySem.W.Frag) : V → Option Int → Option Int → Hp → VK → Prop := fun x lo hi H Q => rSlL K x lo hi H Q ∨ (rSlT K x lo hi H Q ∨ rSlS x lo hi H Q)
theorem sl_U : SlR X (rSlU X.K) := sl_list.or (sl_tup.or sl_str)
end
structure NoAttrs (K : PySem.W.Frag) (C : Addr) (fs : List Str) : Prop where
  out : ∀ f ∈ fs, NoAttr K C f
theorem NoAttrs.get {K : PySem.W.Frag} {C : Addr} {fs : List Str} {f : Str} (h : NoAttrs K C fs) (m : fs.contains f = true) : NoAttr K C f := h.out f (by simpa using m)
namespace Rd
section
variable {σ : St} {H : Hp} {Q : VK} {D : Ends} {K : PySem.W.Frag}
theorem slS {z : Str} {lo hi : Option Int} (h : z.length ≤ sizeLine) (q : Q (.str (Txt.slice z lo hi)) H) : rSlU K (.str z) lo hi H Q := .inr (.inr ⟨z, rfl, h, q⟩)
theorem sl {r : V → Option Int → Option Int → Hp → VK → Prop} {te : TE} {tl th : TO} (h : te σ H fun x H1 => tl σ H1 fun l H2 => th σ H2 fun u H3 => r x l u H3 Q) : tSl r te tl th σ H Q := h
theorem noPart {Q : Option Int → Hp → Prop} (h : Q none H) : tNoPart σ H Q := h
theorem part {te : TE} {Q : Option Int → Hp → Prop} (h : te σ H fun x H1 => ∃ i, x = .int i ∧ Q (some i) H1) : tPart te σ H Q := h
theorem partI {i : Int} {C : Int → Prop} (h : C i) : ∃ j, V.int i = .int j ∧ C j := ⟨i, rfl, h⟩
theorem fldE {ta : TE} {f : Str} (h : ta σ H fun x H1 => ∃ a C dx fs v, x = .ref a ∧ H1 a = some (.ins C dx fs) ∧ Cls K C ∧ NoAttr K C f ∧ fs.lookup f = some v ∧ Q v H1) : tFld K ta f σ H Q := h
theorem fld {a C dx : Addr} {fs : List (Str × V)} {f : Str} {v : V} {G : V → Prop} (h : H a = some (.ins C dx fs)) (c : Cls K C) (n : NoAttr K C f) (l : fs.lookup f = some v) (q : G v) :
    ∃ a' C dx fs v, V.ref a = .ref a' ∧ H a' = some (.ins C dx fs) ∧ Cls K C ∧ NoAttr K C f ∧ fs.lookup f = some v ∧ G v := ⟨a, C, dx, fs, v, rfl, h, c, n, l, q⟩
theorem methE {C : Addr} {m : Str} {sp : Sp} {dvs : List V} {E : XK} {ta : TE} {t : TA} (h : ta σ H fun x H1 => ∃ a dx fs, x = .ref a ∧ H1 a = some (.ins C dx fs) ∧ fs.lookup m = none ∧ t σ H1 fun vs H2 => sp (x :: (vs ++ dvs)) H2 Q E) : tMeth C m sp dvs E ta t σ H Q := h
theorem makeE {C : Addr} {sp : Sp} {dvs : List V} {E : XK} {t : TA} (h : t σ H fun vs H1 => ∀ x dx, H1 x = none → H1 dx = none → dx ≠ x →
    sp (.ref x :: (vs ++ dvs)) (upd (upd H1 dx (.own x)) x (.ins C dx [])) (fun v H2 => v = .non ∧ Q (.ref x) H2) E) : tMake C sp dvs E t σ H Q := h
theorem sfld {ta tv : TE} {f : Str} (h : tv σ H fun y H1 => ta σ H1 fun x H2 => ∃ a C dx fs, x = .ref a ∧ H2 a = some (.ins C dx fs) ∧ Cls K C ∧ NoAttr K C f ∧ fs.length < 1000 ∧ D.nx σ (upd H2 a (.ins C dx (putF f y fs)))) : sFld K ta tv f D σ H := h
theorem sfld3 {a C dx : Addr} {fs fs' : List (Str × V)} {f : Str} {y : V} (h : H a = some (.ins C dx fs)) (c : Cls K C) (n : NoAttr K C f) (l : fs.length < 1000) (e : putF f y fs = fs') (q : D.nx σ (upd H a (.ins C dx fs'))) :
    ∃ a' C dx fs, V.ref a = .ref a' ∧ H a' = some (.ins C dx fs) ∧ Cls K C ∧ NoAttr K C f ∧ fs.length < 1000 ∧ D.nx σ (upd H a' (.ins C dx (putF f y fs))) := ⟨a, C, dx, fs, rfl, h, c, n, l, by rw [e]; exact q⟩
theorem raise {cls : Value} {E : XK} {t : TA} (h : t σ H fun vs H1 => vs.length ≤ sizeLine ∧ E cls none H1) : tRaise cls E t D σ H := h
theorem raise2 {v : V} {G : Prop} (q : G) : [v].length ≤ sizeLine ∧ G := ⟨by show 1 ≤ sizeLine; decide, q⟩
theorem ilist {te : TE} {R : It → Hp → Prop} (h : te σ H fun x H1 => ∃ a, x = .ref a ∧ (∃ xs, SqL K H1 a xs) ∧ R (Itl K a) H1) : iList K te σ H R := h
theorem istr {te : TE} {R : It → Hp → Prop} (h : te σ H fun x H1 => ∃ y, x = .str y ∧ R (Its y) H1) : iStr te σ H R := h
theorem istr2 {y : Str} {G : Str → Prop} (h : G y) : ∃ z, V.str y = .str z ∧ G z := ⟨y, rfl, h⟩
theorem compE {ix : List Nat} {wi : TI} {g : TG} {tc : TT} {te : TE} (h : wi σ H fun J H1 => ∀ p, H1 p = none →
  ∃ W : Nat → Nat → List V → St → Hp → Prop, (∃ m, W 0 m [] (emb ix σ) (upd H1 p (.lst []))) ∧ ∀ i m ys σ' H', W i m ys σ' H' →
    (J.stop i H' ∧ Q (.ref p) H') ∨ (J.go i H' ∧ ∀ x H2, J.yld i H' x H2 → g x σ' H2 fun σ2 H3 => tc σ2 H3 fun b H4 =>
      if b = true then te σ2 H4 fun v H5 => H5 p = some (.lst ys) ∧ ys.length < sizeLine ∧ ∃ m', m' < m ∧ W (i + 1) m' (ys ++ [v]) σ2 (upd H5 p (.lst (ys ++ [v])))
      else ∃ m', m' < m ∧ W (i + 1) m' ys σ2 H4)) : tComp ix wi g tc te σ H Q := h
theorem all_ {Q : Bool → Hp → Prop} (h : Q true H) : tAll σ H Q := h
theorem lk0 {f : Str} {v : V} {r : List (Str × V)} : ((f, v) :: r).lookup f = some v := by simp
theorem lk1 {f g : Str} {v : V} {o : Option V} {r : List (Str × V)} (n : (f == g) = false) (h : r.lookup f = o) : ((g, v) :: r).lookup f = o := by rw [List.lookup_cons, n]; exact h
theorem lkN {f : Str} : ([] : List (Str × V)).lookup f = none := rfl
theorem pf1 {f g : Str} {v x : V} {r r' : List (Str × V)} (n : (g == f) = false) (h : putF f v r = r') : putF f v ((g, x) :: r) = (g, x) :: r' := by
  have : ¬ g = f := by simpa using n
  simp [putF, this, h]
theorem pfN {f : Str} {v : V} : putF f v [] = [(f, v)] := rfl
end
end Rd
end L2
namespace L2
open PySem PySem.Spec PyProof.Rows
namespace Rd
section
variable {H : Hp} {Q : VK} {K : PySem.W.Frag}
theorem ifD {c A B : Prop} [Decidable c] (a : c → A) (b : ¬ c → B) : if decide c = true then A else B := by
  by_cases h : c
  · exact ifP h (a h)
  · exact ifN h (b h)
theorem allB {p : Addr} {bs : List Bool} {G : List Bool → Prop} (h : SqL K H p (bs.map V.bl)) (q : G bs) : ∃ (p' : Addr) (bs' : List Bool), [V.ref p] = [.ref p'] ∧ SqL K H p' (bs'.map V.bl) ∧ G bs' := ⟨p, bs, rfl, h, q⟩
theorem leS {x y : Str} (q : Q (.bl (!decide (y.cps.toList < x.cps.toList))) H) : rLeS (.str x) (.str y) H Q := ⟨x, y, rfl, rfl, q⟩
theorem chain {σ : St} {r r' : R2} {ta tb tc : TE} (h : ta σ H fun x H1 => tb σ H1 fun y H2 => r x y H2 fun z H3 => ∃ k, z = .bl k ∧ (if k = true then tc σ H3 fun w' H4 => r' y w' H4 Q else Q (.bl false) H3)) : tChain r r' ta tb tc σ H Q := h
end
end Rd
end L2
namespace L2
open PySem PySem.Spec PyProof.Rows
theorem OffL.step {K : PySem.W.Frag} {H H' : Hp} {A A' : List Addr} {a : Addr} {xs : List V} (h : OffL K H A a xs) (f : Frame A H H') (g : Grows A A' H) : OffL K H' A' a xs := by
  have h1 := h.more (A' := A ++ A') fun a z => (List.mem_append.mp z).elim .inl (g a)
  exact (h1.frame (f.mono fun a z => List.mem_append_left _ z)).sub fun a z => List.mem_append_right _ z
theorem Grows.cons {A A' : List Addr} {H : Hp} {q : Addr} (g : Grows A A' H) : Grows (q :: A) (q :: A') H := fun a z => by
  rcases List.mem_cons.mp z with rfl | z
  · exact .inl List.mem_cons_self
  · rcases g a z with y | y
    · exact .inl (List.mem_cons_of_mem _ y)
    · exact .inr y
theorem Frame.cons {A : List Addr} {H H' : Hp} {q : Addr} (f : Frame A H H') : Frame (q :: A) H H' := f.mono fun _ z => List.mem_cons_of_mem _ z
theorem Grows.off {A A' : List Addr} {H : Hp} {q : Addr} (g : Grows A A' H) (n : q ∉ A) (h : H q ≠ none) : q ∉ A' := fun z => (g q z).elim n h
namespace Rd
section
variable {H : Hp} {Q : VK} {K : PySem.W.Frag}
theorem un1 {g : Int → V} {i : Int} (q : Q (g i) H) : rU g (.int i) H Q := ⟨i, rfl, q⟩
theorem ixuS {z : Str} {i : Int} {c : Nat} (h : z.length ≤ sizeLine) (e : atI z.cps.toList i = some c) (q : Q (.str ⟨#[c]⟩) H) : rIx K (.str z) (.int i) H Q := .inr (.inr ⟨z, i, c, rfl, rfl, h, e, q⟩)
theorem ilist2 {a : Addr} {xs : List V} {G : Addr → Prop} (h : SqL K H a xs) (q : G a) : ∃ a', V.ref a = .ref a' ∧ (∃ xs, SqL K H a' xs) ∧ G a' := ⟨a, rfl, ⟨xs, h⟩, q⟩
theorem rng1' {j : Int} {G : Int → Prop} (h1 : -(2 ^ 62) ≤ j) (h2 : j < 2 ^ 62) (q : G j) : ∃ k, [V.int j] = [.int k] ∧ -(2 ^ 62) ≤ k ∧ k < 2 ^ 62 ∧ G k := ⟨j, rfl, h1, h2, q⟩
theorem rng2' {i j : Int} {G : Int → Int → Prop} (h1 : -(2 ^ 62) ≤ i ∧ i < 2 ^ 62 ∧ -(2 ^ 62) ≤ j ∧ j < 2 ^ 62) (q : G i j) : ∃ i' j', [V.int i, .int j] = [.int i', .int j'] ∧ (-(2 ^ 62) ≤ i' ∧ i' < 2 ^ 62 ∧ -(2 ^ 62) ≤ j' ∧ j' < 2 ^ 62) ∧ G i' j' := ⟨i, j, rfl, h1, q⟩
theorem min2 {i j : Int} {G : Int → Int → Prop} (q : G i j) : ∃ i' j', [V.int i, .int j] = [.int i', .int j'] ∧ G i' j' := ⟨i, j, rfl, q⟩
end
end Rd
end L2
namespace L2
open PySem PySem.Spec PyProof.Rows
def hid (H : Hp) (r : Addr) : Hp := fun b => if b = r then none else H b
theorem hid_self {H : Hp} {r : Addr} : hid H r r = none := by unfold hid; rw [if_pos rfl]
theorem hid_ne {H : Hp} {r b : Addr} (h : b ≠ r) : hid H r b = H b := by unfold hid; rw [if_neg h]
theorem hid_same {H : Hp} {r : Addr} : Same (hid H r) H := fun b o e => by
  by_cases h : b = r
  · rw [h, hid_self] at e; cases e
  · rw [hid_ne h] at e; exact e
end L2
namespace L2
open PySem PySem.Spec PyProof.Rows
theorem lay_ints : ∀ ns : List Int, PyData.canLayAll0 (ns.map PyData.int) = true
  | [] => by simp [PyData.canLayAll0]
  | n :: ns => by
    have := lay_ints ns
    simp [PyData.canLayAll0, PyData.canLay0] at this ⊢
    exact this
theorem layL_ints (ns : List Int) : (PyData.list (ns.map PyData.int)).canLay0 = true := by
  have := lay_ints ns
  simp [PyData.canLay0]
  simpa using this
theorem depth_ints : ∀ ns : List Int, PyData.depthAll (ns.map PyData.int) ≤ 1
  | [] => by simp [PyData.depthAll]
  | n :: ns => by
    have := depth_ints ns
    simp [PyData.depthAll, PyData.depth] at this ⊢
    exact this
theorem depthL_ints (ns : List Int) : (PyData.list (ns.map PyData.int)).depth ≤ 60 := by
  have := depth_ints ns
  simp only [PyData.depth]
  omega
end L2
namespace L2
open PySem PySem.Spec PyProof.Rows
namespace Rd
section
variable {H : Hp} {Q : VK} {K : PySem.W.Frag}
end
end Rd
end L2
namespace L2
open PySem PySem.Spec PyProof.Rows
namespace Rd
section
variable {σ : St} {H : Hp} {Q : VK} {K : PySem.W.Frag} {J : St → Prop} {E : XK} {sp : Sp} {dvs : List V} {t : TA} {ta : TE}
end
end Rd
end L2
namespace L2
open PySem PySem.Spec PyProof.Rows
namespace Rd
section
variable {σ : St} {H : Hp}
theorem gsub {to ti : TE} {t : TSet} {v : V} {Q : St → Hp → Prop} (h : to σ H fun o H1 => ti σ H1 fun i H2 => t o i v H2 fun H3 => Q σ H3) : gSub to ti t v σ H Q := h
theorem setL {p : Addr} {xs : List V} {k : Int} {v : V} {Q : Hp → Prop} (hp : H p = some (.lst xs)) (h0 : 0 ≤ k) (h1 : k < xs.length) (q : Q (upd H p (.lst (xs.set k.toNat v)))) : rSetL (.ref p) (.int k) v H Q :=
  ⟨p, xs, k, k.toNat, rfl, rfl, hp, by unfold ixN; rw [if_pos h0, if_pos h1], q⟩
end
end Rd
section
variable {X hs : List Int} {i : Nat} {v u : Int}
end
end L2
namespace L2
open PySem PySem.Spec PyProof.Rows
def only (q : Addr) (o : HO) : Hp := fun a => if a = q then some o else none
theorem only_self {q : Addr} {o : HO} : only q o q = some o := by unfold only; rw [if_pos rfl]
theorem only_same {q : Addr} {o : HO} {H : Hp} (h : H q = some o) : Same (only q o) H := fun b x e => by
  unfold only at e
  by_cases c : b = q
  · rw [if_pos c] at e; rw [c]; cases e; exact h
  · rw [if_neg c] at e; cases e
end L2
namespace L2
open PySem PySem.Spec PyProof.Rows
section
variable {X : Cx} {K : PySem.W.Frag}
theorem op_addK (e : X.K = K) : OpR X (binaryOp .Add) (rOr rAddI (rOr rAddS (rOr rCat (rCatT K)))) := e ▸ op_addU
theorem op_eqK (e : X.K = K) (hu : X.A.units + 64 < cLine) : OpR X (compareOp .Eq) (rOr rEq (rEqD K false)) := e ▸ op_eqU hu
theorem op_neK (e : X.K = K) (hu : X.A.units + 64 < cLine) : OpR X (compareOp .NotEq) (rOr rNe (rEqD K true)) := e ▸ op_neU hu
theorem ix_K (e : X.K = K) : IxR X (rIx K) := e ▸ ix_seq
theorem sl_K (e : X.K = K) : SlR X (rSlU K) := e ▸ sl_U
def rLen (K : PySem.W.Frag) : List V → Hp → VK → Prop := fun xs H Q => ∃ x n, xs = [x] ∧ LenV K x H n ∧ Q (.int n) H
theorem len_K (e : X.K = K) : CallR X (.builtin "len") (rLen K) := e ▸ call_len
theorem pe_fldK {e : Expr} {ta : TE} {f : Str} {pos : Pos} (ek : X.K = K) (he : PE X e ta) (hb : attributeBase e f X.env (eval e X.env) = eval e X.env) : PE X (.Attribute e f pos) (tFld K ta f) := ek ▸ pe_fld he hb
theorem ps_fldK {o value : Expr} {ta tv : TE} {f : Str} {pos pos' : Pos} (ek : X.K = K) (ha : PE X o ta) (hv : PE X value tv) (hs : swapsWith value (some (.Attribute o f pos')) pos.line X.env = pure false) :
    PS X (.Assign [.Attribute o f pos'] value pos) (sFld K ta tv f) := ek ▸ ps_fld ha hv hs
theorem pi_listK {tg l : Expr} {tl : TE} (ek : X.K = K) (hl : PE X l tl) : PI X tg l (iList K tl) := ek ▸ pi_list hl
def tTru (K : PySem.W.Frag) (ta : TE) : TT := fun σ H Q => ta σ H fun x H' => ∃ k, TruV K x H' k ∧ Q k H'
theorem pt_truK {a : Expr} {ta : TE} (ek : X.K = K) (ha : PE X a ta) (he : ∀ whole, isTrue a X.env whole = (do let v ← whole; standAt a.pos; holding [v] (truthy v))) : PT X a (tTru K ta) := ek ▸ pt_truth ha he
def rIsi (K : PySem.W.Frag) : List V → Hp → VK → Prop := fun xs H Q => ∃ x n t b, xs = [x, .ty n] ∧ TyOf K H x t ∧ PySem.W.kitOne K t (.type n) = some b ∧ Q (.bl b) H
theorem isi_K (e : X.K = K) : CallR X (.builtin "isinstance") (rIsi K) := e ▸ call_isinst
def rListOf (K : PySem.W.Frag) : List V → Hp → VK → Prop := fun xs H Q => ∃ p ys, xs = [.ref p] ∧ (SqL K H p ys ∨ SqT K H p ys) ∧ ∀ l, H l = none → Q (.ref l) (upd H l (.lst ys))
theorem listOf_K (e : X.K = K) : CallR X (.type "list") (rListOf K) := e ▸ call_list_of
def rAllB (K : PySem.W.Frag) : List V → Hp → VK → Prop := fun xs H Q => ∃ (p : Addr) (bs : List Bool), xs = [.ref p] ∧ SqL K H p (bs.map V.bl) ∧ Q (.bl (bs.all id)) H
theorem all_K (e : X.K = K) (hc : X.calm = true) : CallR X (.builtin "all") (rAllB K) := e ▸ call_allB hc
theorem pe_bmK {o e : Expr} {es : List Expr} {to : TE} {t : TA} {name : Str} {apos cpos : Pos} {T id : String} {r : V → List V → Hp → VK → Prop} (ek : X.K = K) (pa : PlainAttrs T) (slot : Slot T name id) (hty : typeOf (.builtin id) = pure (.type "method_descriptor")) (hm : MtR X id r) (ho : PE X o to) (ha : PA X (e :: es) t)
    (hbase : attributeBase o name X.env (eval o X.env) = eval o X.env := by rfl)
    (hfew : ((backTo cpos (starEach (e :: es) X.env)).all (fun x => !x.1) && (backToKw cpos (keywordEach [] X.env)).all (fun x => x.1.isSome)
      && decide ((e :: es).length + ([] : List Keyword).length + (if ([] : List Keyword).isEmpty then 0 else 1) < 30)) = true := by rfl)
    (hline : (apos.endLine == cpos.line) = true := by rfl) (hs : starEach (e :: es) X.env = (false, eval e X.env) :: starEach es X.env := by rfl) (hplain : (backTo cpos (starEach es X.env)).any (·.1) = false := by rfl) :
    PE X (.Call (.Attribute o name apos) (e :: es) [] cpos) (tBM K T r to t) := ek ▸ pe_bm pa slot hty hm ho ha hbase hfew hline hs hplain
theorem pg_tupK {es : List Expr} {k : Nat} {t : TGs} {n : Nat} {pos : Pos} (ek : X.K = K) (hc : X.calm = true) (h : PGs X es t) (hn : (assignEach es X.env).length = n := by rfl) (hst : (assignEach es X.env).findIdx? (·.1) = none := by rfl) :
    PG X (.Tuple es k pos) (gTup K n t) := ek ▸ pg_tup hc h hn hst
end
namespace Rd
section
variable {σ : St} {H : Hp} {Q : VK} {K : PySem.W.Frag}
theorem tru {ta : TE} {Q : Bool → Hp → Prop} (h : ta σ H fun x H' => ∃ k, TruV K x H' k ∧ Q k H') : tTru K ta σ H Q := h
theorem rlen {xs : List V} (h : ∃ x n, xs = [x] ∧ LenV K x H n ∧ Q (.int n) H) : rLen K xs H Q := h
theorem risi {xs : List V} (h : ∃ x n t b, xs = [x, .ty n] ∧ TyOf K H x t ∧ PySem.W.kitOne K t (.type n) = some b ∧ Q (.bl b) H) : rIsi K xs H Q := h
theorem rall {xs : List V} (h : ∃ (p : Addr) (bs : List Bool), xs = [.ref p] ∧ SqL K H p (bs.map V.bl) ∧ Q (.bl (bs.all id)) H) : rAllB K xs H Q := h
theorem listOfL {p : Addr} {xs : List V} (h : SqL K H p xs) (q : ∀ l, H l = none → Q (.ref l) (upd H l (.lst xs))) : rListOf K [.ref p] H Q := ⟨p, xs, rfl, .inl h, q⟩
end
end Rd
end L2
namespace L2
open PySem PySem.Spec PyProof.Rows
section
variable {X : Cx}
def rDIn : R2 := fun y x H Q => ∃ a o, x = .ref a ∧ DGet H a y o ∧ Q (.bl o.isSome) H
def rDNotIn : R2 := fun y x H Q => ∃ a o, x = .ref a ∧ DGet H a y o ∧ Q (.bl (!o.isSome)) H
theorem op_dIn (hu : X.A.units + 64 < cLine) : OpR X (compareOp .In) rDIn := by
  intro pins s σ H x y v u Q I rx ry h
  obtain ⟨a, o, rfl, g, q⟩ := h
  cases ry
  exact d_in (by omega) I g rx fun s' I' => ⟨.bl o.isSome, H, I', rfl, q⟩
theorem op_dNotIn (hu : X.A.units + 64 < cLine) : OpR X (compareOp .NotIn) rDNotIn := by
  intro pins s σ H x y v u Q I rx ry h
  obtain ⟨a, o, rfl, g, q⟩ := h
  cases ry
  exact d_notIn (by omega) I g rx fun s' I' => ⟨.bl (!o.isSome), H, I', rfl, q⟩
def rSetD : V → V → V → Hp → (Hp → Prop) → Prop := fun o i v H Q => ∃ a H4, o = .ref a ∧ DPut H a i v H4 ∧ Q H4
theorem set_dict (hu : X.A.units + 64 < cLine) : PSet X rSetD := by
  intro pins s σ H o i v ov iv u Q I ro ri rv h
  obtain ⟨a, H4, rfl, g, q⟩ := h
  cases ro
  exact d_setItem (by omega) I g ri rv fun s' I' => ⟨H4, I', q⟩
theorem is_kV {P : Program} {w : World} {k : Key} {u : Value} (h : (mixKind P w).is k u = true) : RelV (kV k) u := by
  cases k with
  | inl i => exact Value.isInt_shape h
  | inr x => exact Value.isStrOf_shape h
theorem vals_pt : ∀ {xs : List V} {us : List Value}, us.length = xs.length → (∀ (j : Nat) (v : V) (u : Value), xs[j]? = some v → us[j]? = some u → RelV v u) → Vals xs us
  | [], [], _, _ => .nil
  | x :: xs, u :: us, hl, h => .cons (h 0 x u rfl rfl) (vals_pt (by simpa using hl) fun j v w e1 e2 => h (j + 1) v w (by simpa using e1) (by simpa using e2))
  | [], _ :: _, hl, _ => by simp at hl
  | _ :: _, [], hl, _ => by simp at hl
theorem KV.at {kvs : List (Key × V)} {vs : List (Key × Value)} (r : KV kvs vs) : ∀ {j : Nat} {k : Key} {x : Value}, vs[j]? = some (k, x) → ∃ v, kvs[j]? = some (k, v) := by
  unfold KV at r
  induction r with
  | nil => intro j k x e; simp at e
  | @cons p q ps qs h t ih =>
    intro j k x e
    cases j with
    | zero =>
      simp at e
      subst e
      have h1 : p.1 = k := h.1
      exact ⟨p.2, by simp [← h1]⟩
    | succ j =>
      obtain ⟨v, z⟩ := ih (j := j) (k := k) (x := x) (by simpa using e)
      exact ⟨v, by simpa using z⟩
def rListD : List V → Hp → VK → Prop := fun xs H Q => ∃ a kvs, xs = [V.ref a] ∧ H a = some (.dK kvs) ∧ ∀ l, H l = none → Q (.ref l) (upd H l (.lst (kvs.map fun kv => kV kv.1)))
theorem call_listD (hc : X.calm = true) : CallR X (.type "list") rListD := by
  intro pins s σ H xs us Q I r h
  obtain ⟨a, kvs, rfl, ha, q⟩ := h
  obtain ⟨u, rfl, ru⟩ := vals1 r
  cases ru
  obtain ⟨z, hd, vs, rel, dd⟩ := dk_of I.hok ha
  obtain ⟨ep, hat⟩ := dd.dictAt
  refine PySem.W.kdl_call (PySem.W.kdl_dict (knd := mixKind X.prog X.w) (kvs := vs) (ep := ep) hd) (I.ok.hd hc) hat (by rw [← rel.length]; exact z) fun h' tk acc c hk hD hacc => ?_
  refine ⟨.ref s.heap.objs.size, _, I.laid (a := s.heap.objs.size) (o := .lst (kvs.map fun kv => kV kv.1)) (t' := tk) hk (Nat.le_refl _) ⟨by rw [List.length_map]; exact z, acc.toList, c, ?_, by simpa using hD⟩, rfl, q _ (I.hok.fresh (Nat.le_refl _))⟩
  refine vals_pt (by rw [Array.length_toList, hacc.1, List.length_map, rel.length]) fun j v u e1 e2 => ?_
  obtain ⟨k, x, hx, hk'⟩ := hacc.2 j u (by rw [← Array.getElem?_toList]; exact e2)
  obtain ⟨v', hv'⟩ := rel.at hx
  rw [List.getElem?_map, hv'] at e1
  cases e1
  exact is_kV hk'
end
section
variable {X : Cx} {pins : List (Addr × Obj)} {σ : List (Option V)} {H H' : Hp} {s : Shared} {h' : Heap}
theorem Inv.turnedL {t' : Nat} {fp : List Addr} (I : Inv X pins σ H s) (k : ∀ b o, b ∉ fp → s.heap.get? b = some o → h'.get? b = some o) (hf : ∀ b ∈ fp, FpOk X pins H b) : Inv X pins σ H { s with heap := h', toks := t' } := by
  have nit : ∀ b u, H b = some u → b ∉ fp := fun b u e z => by rw [(hf b z).1] at e; cases e
  refine I.step (g' := s.gens) (d' := s.drawn) (ch := fp) (fun b hb => ?_) (fun b o _ _ hc e _ => k b o hc e) (fun b o _ _ hc e _ => ⟨o.slots, k b o hc e⟩) (fun _ _ _ _ n => n)
    (fun b o hc e => ⟨o, k b o hc e⟩) (fun _ _ e => e) (fun _ _ _ e => e) (fun b ps e => ⟨#[], by rw [e]; simp⟩) (fun m hm => ?_) (fun b u e => ?_) I.bare
  · obtain ⟨f0, f1, f2, f3, f4, f5⟩ := hf b hb
    exact ⟨f3, f1, f4, f5⟩
  · obtain ⟨o, es, ep, ho, r⟩ := hm
    exact ⟨o, es, ep, k _ o (fun z => (hf _ z).2.1 rfl) ho, r⟩
  · refine (I.hok b u e).stay (fun c v hc q => k c v ?_ q) (fun _ q => q) fun _ _ q => q
    rcases hc with z | z
    · rw [z]; exact nit b u e
    · exact nit c _ z
theorem Inv.turnedNew {t' : Nat} {fp : List Addr} {T : Addr} {o : HO} (I : Inv X pins σ H s) (k : ∀ b o, b ∉ fp → s.heap.get? b = some o → h'.get? b = some o) (hf : ∀ b ∈ fp, FpOk X pins H b) (hp : s.heap.objs.size ≤ T) (new : ObjOk X.prog X.w (upd H T o) h' T o) :
    Inv X pins σ (upd H T o) { s with heap := h', toks := t' } := by
  have J : Inv X pins σ H { s with heap := h', toks := t' } := I.turnedL k hf
  have hn := I.hok.fresh hp
  obtain ⟨f0, f1, f2, f3, f4, f5⟩ := I.fpOk hp hn
  refine Inv.step (s := { s with heap := h', toks := t' }) (h' := h') (g' := s.gens) (d' := s.drawn) (t' := t') (ch := [T]) J (fun b hb => ?_) (fun b o _ _ hc e _ => e) (fun b o _ _ hc e _ => ⟨o.slots, e⟩) (fun b o hc e n => ?_)
    (fun b o hc e => ⟨o, e⟩) (fun b xs e => ?_) (fun b o u e => ?_) (fun b ps e => ⟨#[], ?_⟩) (fun m hm => hm) (fun b u e => ?_) I.bare
  · have e : b = T := by simpa using hb
    subst e
    exact ⟨f3, f1, f4, f5⟩
  · rw [upd_ne (fun z => hc (by simp [z]))]; exact n
  · rw [upd_ne (ne_of_none e hn)]; exact e
  · rw [upd_ne (ne_of_none e hn)]; exact e
  · rw [upd_ne (ne_of_none e hn)]; simpa using e
  · by_cases hb : b = T
    · subst hb; rw [upd_same] at e; cases e; exact new
    · rw [upd_ne hb] at e
      exact (J.hok b u e).stay (fun c v _ q => q) (fun c q => by rw [upd_ne (ne_of_none q hn)]; exact q) fun c xs q => by rw [upd_ne (ne_of_none q hn)]; exact q
end
def Ite (K : PySem.W.Frag) (a : Addr) : It :=
  ⟨fun i H => ∃ xs x, SqL K H a xs ∧ xs[i]? = some x, fun i H v H' => ∃ t x, H t = none ∧ v = .ref t ∧ H' = upd H t (.tup [.int i, x]) ∧ ∀ xs, SqL K H a xs → xs[i]? = some x, fun i H => ∃ xs, SqL K H a xs ∧ xs.length ≤ i⟩
theorem turn_enum {P : Program} {w : World} {K : PySem.W.Frag} {elts : List Expr} {k1 : Nat} {pos : Pos} (a e it : Addr) (hei : e ≠ it) : Turn P w K (.Tuple elts k1 pos) (Ite K a) [e, it] e (fun i h => (∃ old, IsEnum h e it i old) ∧ h.IsListIter it a i) where
  mem := by simp
  obj := fun i h st b hb => by
    obtain ⟨⟨old, he⟩, o, h1, h2, h3⟩ := st
    rcases List.mem_cons.mp hb with rfl | hb
    · exact ⟨_, he, fun v z => by
        have z' : Data.fields _ = Data.cell v := z
        cases z'⟩
    · rw [List.mem_singleton.mp hb]
      exact ⟨o, h1, fun v z => by rw [h3] at z; cases z⟩
  keep := fun i h h' st k => ⟨let ⟨old, he⟩ := st.1; ⟨old, k e (by simp) _ he⟩, st.2.at fun o q => k it (by simp) o q⟩
  item := by
    intro X hP hw hK hc i pins s σ H E I hf st hg
    subst hP hw hK
    obtain ⟨xs, x, hq, hx⟩ := hg
    obtain ⟨its, rv, p, hz⟩ := I.list hq
    obtain ⟨u, hu, ru⟩ := rv.get hx
    obtain ⟨⟨old, he⟩, hit⟩ := st
    refine wpAny_pyNext_enum_item he hit p.isList (x := u) (by simpa using hu) hei fun h' ho hit' hT hsz hk => ?_
    have hfr := I.hok.fresh (Nat.le_refl s.heap.objs.size)
    have helt : e < s.heap.objs.size := Heap.lt_size he
    have hilt : it < s.heap.objs.size := by obtain ⟨_, y, _⟩ := hit; exact Heap.lt_size y
    refine ⟨_, rfl, wpAny_letOwnedTupleGo_enum ho fun h2 he2 hs2 => ?_⟩
    have hT2 : h2.get? s.heap.objs.size = some { cls := .type "tuple", data := .seq #[.int i s.toks, u] } := hs2.extBut _ _ (Nat.ne_of_gt helt) hT
    have I1 : Inv X pins σ (upd H s.heap.objs.size (.tup [.int i, x])) { s with heap := h2, toks := s.toks + 1 } :=
      I.turnedNew (fp := [e, it]) (fun b o hb q => by
        have n1 : b ≠ e := fun z => hb (by simp [z])
        have n2 : b ≠ it := fun z => hb (by simp [z])
        exact hs2.extBut b o n1 (hk b o n1 n2 q)) hf (Nat.le_refl _) ⟨by show 2 ≤ sizeLine; decide, [.int i s.toks, u], .cons ⟨_, rfl⟩ (.cons ru .nil), _, hT2, rfl, _, rfl⟩
    refine ⟨.ref s.heap.objs.size, _, I1, rfl, ⟨_, x, hfr, rfl, rfl, fun ys hy => by rw [I.list_inj hy hq]; exact hx⟩, ⟨⟨_, he2⟩, hit'.at fun o q => hs2.extBut _ _ hei.symm q⟩, fun b hb => ?_⟩
    have nb : b ≠ s.heap.objs.size := by
      rcases List.mem_cons.mp hb with rfl | hb
      · exact Nat.ne_of_lt helt
      · rw [List.mem_singleton.mp hb]; exact Nat.ne_of_lt hilt
    rw [upd_ne nb]
    exact (hf b hb).1
  done := by
    intro X hP hw hK hc i pins s σ H E I hf st hg
    subst hP hw hK
    obtain ⟨xs, hq, hx⟩ := hg
    obtain ⟨its, rv, p, hz⟩ := I.list hq
    obtain ⟨⟨old, he⟩, hit⟩ := st
    have hl := rv.length
    exact wpAny_pyNext_enum_end (I.ok.hd hc) he hit p.isList (by simp; omega) fun h' eb => ⟨rfl, I.turnedL (t' := s.toks) (fp := [e, it]) (fun b o hb q => eb b o (fun z => hb (by simp [z])) q) hf⟩
  self := fun _ _ _ _ _ st h => wpAny_pyIter_enum st.1.choose_spec h
section
variable {X : Cx}
def iEnum (K : PySem.W.Frag) (ta : TA) : TI := fun σ H R => ta σ H fun vs H1 => ∃ a, vs = [.ref a] ∧ (∃ xs, SqL K H1 a xs) ∧ R (Ite K a) H1
theorem pi_enum {K : PySem.W.Frag} {a : Expr} {ta : TA} {p pos tpos : Pos} {elts : List Expr} {k1 : Nat} (ek : X.K = K) (hg : Gl X "enumerate") (hm : X.mg "enumerate" = none) (ha : PA X [a] ta) (hs : starEach [a] X.env = [(false, eval a X.env)] := by rfl) :
    PI X (.Tuple elts k1 tpos) (.Call (.Name "enumerate" p) [a] [] pos) (iEnum K ta) := by
  subst ek
  intro pins s σ H R I h
  refine Call_ (ld_blt I hg hm boot_enumerate (PyProof.Rows.callWith_type1 (thn (ha pos pins s σ H _ I h) fun us s1 ⟨vs, H1, I1, r1, q1⟩ => ?_) hs rfl))
  obtain ⟨b, rfl, ⟨xs, hq⟩, q⟩ := q1
  obtain ⟨u, rfl, ru⟩ := vals1 r1
  cases ru
  obtain ⟨its, rv, pl, hz⟩ := I1.list hq
  refine call_enumerate_list pl.isList fun h' he hit hsz hk => ?_
  refine wpAny_pyIter_enum he ?_
  have I2 : Inv X pins σ H1 { s1 with heap := h' } := I1.kept (t' := s1.toks) hk
  refine ⟨s1.heap.objs.size + 1, [s1.heap.objs.size + 1, s1.heap.objs.size], _, _, H1, rfl, I2, turn_enum b _ _ (Nat.succ_ne_self _), ⟨⟨_, he⟩, hit⟩, fun c hc => ?_, q⟩
  rcases List.mem_cons.mp hc with rfl | hc
  · exact I1.fpOk (Nat.le_succ _) (I1.hok.fresh (Nat.le_succ _))
  · rw [List.mem_singleton.mp hc]
    exact I1.fpOk (Nat.le_refl _) (I1.hok.fresh (Nat.le_refl _))
end
end L2
namespace L2
open PySem PySem.Spec PyProof.Rows
def rLenD : List V → Hp → VK → Prop := fun xs H Q => ∃ a kvs, xs = [V.ref a] ∧ H a = some (.dK kvs) ∧ Q (.int kvs.length) H
theorem len_D {X : Cx} : CallR X (.builtin "len") rLenD := call_lenD
def embN (n : Nat) (ix : List Nat) (σ : St) : St := List.replicate n none ++ ix.map fun j => (σ[j]?).join
def tCompN (n : Nat) (ix : List Nat) (wi : TI) (g : TG) (tc : TT) (te : TE) : TE := fun σ H Q => wi σ H fun J H1 => ∀ p, H1 p = none →
  ∃ W : Nat → Nat → List V → St → Hp → Prop, (∃ m, W 0 m [] (embN n ix σ) (upd H1 p (.lst []))) ∧ ∀ i m ys σ' H', W i m ys σ' H' →
    (J.stop i H' ∧ Q (.ref p) H') ∨ (J.go i H' ∧ ∀ x H2, J.yld i H' x H2 → g x σ' H2 fun σ2 H3 => tc σ2 H3 fun b H4 =>
      if b = true then te σ2 H4 fun v H5 => H5 p = some (.lst ys) ∧ ys.length < sizeLine ∧ ∃ m', m' < m ∧ W (i + 1) m' (ys ++ [v]) σ2 (upd H5 p (.lst (ys ++ [v])))
      else ∃ m', m' < m ∧ W (i + 1) m' ys σ2 H4)
section
variable {X : Cx}
theorem compN_start {pins : List (Addr × Obj)} {σ : St} {H : Hp} {s : Shared} {sc : Scope} {x : Str} {xs : List Str} {zs : List Str} {ix : List Nat} {cl : List (Str × Addr)} {fp : List Addr} {h₁ : Heap} {tk : Nat}
    (S : CompScope X sc x zs ix) (I : Inv X pins σ H s) (hcl : ∀ y c, cl.lookup y = some c → X.env.cells.lookup y = some c) (hhas : ∀ y, (y, NameKind.free) ∈ sc.names → ∃ c, cl.lookup y = some c)
    (hfp : ∀ b ∈ fp, FpOk X pins H b ∧ b < s.heap.objs.size) (hns : h₁.Ns s.heap.objs.size fun _ => none) (hk : ∀ b o, s.heap.get? b = some o → h₁.get? b = some o) :
    Inv (cxComp X sc cl s.heap.objs.size (xs ++ zs) s H fp) [] (embN xs.length ix σ) H { s with heap := h₁, toks := tk } := by
  have sub : ∀ b ∈ frs X.stack, b ∈ X.env.locals :: X.fs := I.stkSub
  have nfs : ∀ b ∈ fp, b ∉ frs X.stack := fun b hb z => by
    obtain ⟨⟨_, f1, f2, _⟩, _⟩ := hfp b hb
    rcases List.mem_cons.mp (sub b z) with e | e
    · exact f1 e
    · exact f2 e
  have cut : ∀ y, (cxComp X sc cl s.heap.objs.size (xs ++ zs) s H fp).env.kindOf y = some .cell ∨ (cxComp X sc cl s.heap.objs.size (xs ++ zs) s H fp).env.kindOf y = some .free → ∃ c, cl.lookup y = some c := fun y hy => by
    have q : ∃ k, (relabel sc X.env).names.lookup y = some k ∧ (k = .cell ∨ k = .free) := by
      rcases hy with hy | hy
      · exact ⟨_, hy, .inl rfl⟩
      · exact ⟨_, hy, .inr rfl⟩
    obtain ⟨k, e, hk⟩ := q
    obtain ⟨k', e', q⟩ := lookup_relabel e
    have : k' = .free := by
      rcases q with q | ⟨q, _⟩
      · rcases hk with z | z
        · exact absurd (q.symm.trans z) (S.nocell _ (lookup_mem e'))
        · exact q.symm.trans z
      · exact q
    subst this
    exact hhas y (lookup_mem e')
  refine ⟨⟨I.ok.mod, S.kind, I.ok.glob, I.ok.blt, Nat.le_refl _, fun y z c h1 h2 => I.ok.inj y z c (hcl _ _ h1) (hcl _ _ h2), cut, fun y c hf _ => ?_, I.ok.hd, I.ok.frames, .inl rfl, fun b hb => ?_, I.bs, Nat.le_trans I.ok.bsz I.sz, fun b o e hb => ?_, nfs, I.stack, I.stkFree⟩,
    rfl, I.bare, Un.kept hk, ⟨_, hns, fun i y v h1 h2 h3 => ?_⟩, fun y c h => ?_, I.hok.fresh (Nat.le_refl _), fun y c h => I.freeC y c (hcl y c h), fun p hp => absurd (show p ∈ ([] : List (Addr × Obj)) from hp) (by simp), I.hok.kept hk, ?_⟩
  · exact absurd (show false = true from hf) (by decide)
  · obtain ⟨⟨f0, f1, f2, f3, f4, f5⟩, hl⟩ := hfp b hb
    exact ⟨Nat.ne_of_lt hl, fun y c h => f4 y c (hcl y c h)⟩
  · obtain ⟨⟨f0, f1, f2, f3, f4, f5⟩, hl⟩ := hfp b hb
    rcases f3 with z | z
    · exact I.ok.noex b o e z
    · exact absurd (Nat.lt_of_lt_of_le (Heap.lt_size e) (Nat.le_trans I.ok.bsz z)) (Nat.lt_irrefl _)
  ·
    have hlen : xs.length ≤ i := by
      rcases Nat.lt_or_ge i xs.length with z | z
      · have h2' : (List.replicate xs.length none ++ ix.map fun j => (σ[j]?).join)[i]? = some (some v) := h2
        rw [List.getElem?_append_left (by rw [List.length_replicate]; exact z), List.getElem?_replicate, if_pos z] at h2'
        cases h2'
      · exact z
    · obtain ⟨i, rfl⟩ : ∃ i', i = xs.length + i' := ⟨i - xs.length, by omega⟩
      have h1' : zs[i]? = some y := by
        have h1' : (xs ++ zs)[xs.length + i]? = some y := h1
        rw [List.getElem?_append_right (Nat.le_add_right _ _), Nat.add_sub_cancel_left] at h1'
        exact h1'
      have h2' : (ix.map fun j => (σ[j]?).join)[i]? = some (some v) := by
        have h2' : (List.replicate xs.length none ++ ix.map fun j => (σ[j]?).join)[xs.length + i]? = some (some v) := h2
        rw [List.getElem?_append_right (by rw [List.length_replicate]; exact Nat.le_add_right _ _), List.length_replicate, Nat.add_sub_cancel_left] at h2'
        exact h2'
      have ha : (ix.map fun j => X.N[j]?)[i]? = some (some y) := by rw [S.at_, List.getElem?_map, h1']; rfl
      rw [List.getElem?_map] at h2' ha
      cases e : ix[i]? with
      | none => rw [e] at h2'; cases h2'
      | some j =>
        rw [e] at h2' ha
        have ha' : X.N[j]? = some y := Option.some.inj ha
        have hj : (σ[j]?).join = some v := Option.some.inj h2'
        have hσ : σ[j]? = some (some v) := by
          cases q : σ[j]? with
          | none => rw [q] at hj; cases hj
          | some o => rw [q] at hj; exact congrArg some hj
        obtain ⟨m, hn, hl⟩ := I.loc
        have hfr := S.zfree y (List.mem_of_getElem? h1')
        have hkind := S.free _ (lookup_mem hfr) rfl
        have hv : Vis X.env.scope y := by
          rcases hkind with z | z
          · exact .inr (.inl z)
          · exact .inr (.inr z)
        obtain ⟨u, r, q⟩ := hl j y v ha' hσ hv
        refine ⟨u, r, ?_⟩
        rcases q with ⟨kl, _⟩ | ⟨_, c, hc, hcell⟩
        · have kl' : X.env.kindOf y = some .local := kl
          rcases hkind with z | z <;> (rw [z] at kl'; cases kl')
        · obtain ⟨c', hc'⟩ := hhas y (lookup_mem hfr)
          have ec : c' = c := by have := hcl y c' hc'; rw [hc] at this; exact (Option.some.inj this).symm
          subst ec
          refine .inr ⟨?_, c', hc', ?_⟩
          · have hvis : Vis (relabel sc X.env) y := h3
            rcases hvis with z | z | z
            · obtain ⟨k', e', q⟩ := lookup_relabel z
              rw [hfr] at e'
              cases e'
              rcases q with q | ⟨_, q⟩ <;> cases q
            · exact .inl z
            · exact .inr z
          · obtain ⟨o, ho, hd⟩ := hcell
            exact ⟨o, hk _ _ ho, hd⟩
  · obtain ⟨v, o, ho, hd⟩ := I.cell y c (hcl y c h)
    exact ⟨v, o, hk _ _ ho, hd⟩
  · show (List.replicate xs.length none ++ ix.map fun j => (σ[j]?).join).length = (xs ++ zs).length
    have := congrArg List.length S.at_
    simp only [List.length_map] at this
    simp only [List.length_append, List.length_replicate, List.length_map, this]
theorem compN_block {pins : List (Addr × Obj)} {σ : St} {H : Hp} {s : Shared} {sc : Scope} {x : Str} {xs : List Str} {zs : List Str} {ix : List Nat} {cl : List (Str × Addr)} {fp : List Addr} {it : Addr} {tn : Nat → Heap → Prop} {J : It}
    {elt tg iter : Expr} {ifs : List Expr} {pos : Pos} {g : TG} {tc : TT} {te : TE} {Q : VK} {E : Value → Shared → Prop} {RR : Value → Addr → Result → Shared → Prop}
    (hc : X.calm = true) (S : CompScope X sc x zs ix) (I : Inv X pins σ H s) (hcl : ∀ y c, cl.lookup y = some c → X.env.cells.lookup y = some c) (hhas : ∀ y, (y, NameKind.free) ∈ sc.names → ∃ c, cl.lookup y = some c)
    (T : Turn X.prog X.w X.K tg J fp it tn) (st : tn 0 s.heap) (hfp : ∀ b ∈ fp, FpOk X pins H b)
    (hin : ∀ C s H, PG (cxComp X sc cl C (xs ++ zs) s H fp) tg g ∧ PIf (cxComp X sc cl C (xs ++ zs) s H fp) ifs tc ∧ PE (cxComp X sc cl C (xs ++ zs) s H fp) elt te)
    (hq : ∀ p, H p = none → ∃ W : Nat → Nat → List V → St → Hp → Prop, (∃ m, W 0 m [] (embN xs.length ix σ) (upd H p (.lst []))) ∧ ∀ i m ys σ' H', W i m ys σ' H' →
      (J.stop i H' ∧ Q (.ref p) H') ∨ (J.go i H' ∧ ∀ x H2, J.yld i H' x H2 → g x σ' H2 fun σ2 H3 => tc σ2 H3 fun b H4 =>
        if b = true then te σ2 H4 fun v H5 => H5 p = some (.lst ys) ∧ ys.length < sizeLine ∧ ∃ m', m' < m ∧ W (i + 1) m' (ys ++ [v]) σ2 (upd H5 p (.lst (ys ++ [v])))
        else ∃ m', m' < m ∧ W (i + 1) m' ys σ2 H4))
    (hR : ∀ acc C f s', CompEnd X pins σ Q acc C s' → RR acc C (.ok f) s') :
    wpAny (model X.prog X.w) X.A (newList []) (fun acc s₃ => wpAny (model X.prog X.w) X.A (newFunctionEnv sc X.env.globals cl [] X.env.qual none .none (some X.env)) (fun cenv s₄ =>
      codeAny (model X.prog X.w) X.A (.compStart (.ListComp elt [⟨tg, iter, ifs, 0⟩] sc pos) 0 (.ref it) acc { cenv with scope := relabel sc X.env }) (RR acc cenv.locals) s₄) E s₃) E s := by
  refine wpAny_newObj_type (wpAny_newFunctionEnv S.nocell (by intro y hy; simp at hy) (fun h₁ hns₁ hsb₁ => ?_) S.kind)
  have I3 : Inv X pins σ (upd H s.heap.objs.size (.lst [])) { s with heap := s.heap.push { cls := .type "list", dict := none, data := .seq ([] : List Value).toArray } } := I.lnew (its := []) (ys := []) (t' := s.toks) .nil (Nat.zero_le _)
  dsimp only at hns₁ hsb₁ ⊢
  obtain ⟨W, ⟨m0, w0⟩, turn⟩ := hq s.heap.objs.size (I.hok.fresh (Nat.le_refl _))
  have lt : ∀ b ∈ fp, b < s.heap.objs.size := fun b hb => by
    obtain ⟨o, e, _⟩ := T.obj 0 s.heap st b hb
    exact Heap.lt_size e
  have up : ∀ b ∈ fp, ∀ o, (upd H s.heap.objs.size o) b = H b := fun b hb o => upd_ne (Nat.ne_of_lt (lt b hb))
  have kp : ∀ b o, (s.heap.push { cls := .type "list", dict := none, data := .seq ([] : List Value).toArray }).get? b = some o → h₁.get? b = some o := fun b o e =>
    hsb₁.extBut b o (Nat.ne_of_lt (Heap.lt_size e)) (Heap.get?_push_of_some _ e)
  have f3 : ∀ b ∈ fp, FpOk X pins (upd H s.heap.objs.size (.lst [])) b ∧ b < (s.heap.push { cls := .type "list", dict := none, data := .seq ([] : List Value).toArray }).objs.size := fun b hb => by
    obtain ⟨q0, q⟩ := hfp b hb
    refine ⟨⟨(up b hb _).trans q0, q⟩, ?_⟩
    rw [Heap.size_push]
    exact Nat.lt_succ_of_lt (lt b hb)
  generalize hS3 : ({ s with heap := s.heap.push { cls := .type "list", dict := none, data := .seq ([] : List Value).toArray } } : Shared) = s3 at I3
  have hH3 : s.heap.push { cls := .type "list", dict := none, data := .seq ([] : List Value).toArray } = s3.heap := by rw [← hS3]
  rw [hH3] at kp f3 hns₁ ⊢
  have st3 : tn 0 h₁ := T.keep 0 _ _ st fun b _ o e => kp b o (by rw [← hH3]; exact Heap.get?_push_of_some _ e)
  have J0 : Inv (cxComp X sc cl s3.heap.objs.size (xs ++ zs) s3 (upd H s.heap.objs.size (.lst [])) fp) [] (embN xs.length ix σ) (upd H s.heap.objs.size (.lst [])) { s3 with heap := h₁, toks := s3.toks } :=
    compN_start S I3 hcl hhas f3 hns₁ kp
  obtain ⟨hg, hif, he⟩ := hin s3.heap.objs.size s3 (upd H s.heap.objs.size (.lst []))
  have fpo : ∀ {H' : Hp}, (∀ b ∈ fp, H' b = none) → ∀ b ∈ fp, FpOk (cxComp X sc cl s3.heap.objs.size (xs ++ zs) s3 (upd H s.heap.objs.size (.lst [])) fp) [] H' b := fun {H'} hn b hb =>
    ⟨hn b hb, (J0.ok.exf b hb).1, J0.ok.exfs b hb, .inl hb, (J0.ok.exf b hb).2, fun p hp => absurd (show p ∈ ([] : List (Addr × Obj)) from hp) (by simp)⟩
  have loop : ∀ s4 : Shared, s4 = { s3 with heap := h₁, toks := s3.toks } →
      codeAny (model X.prog X.w) X.A (.compLoop (.ListComp elt [⟨tg, iter, ifs, 0⟩] sc pos) 0 (.ref it) (.ref s.heap.objs.size) (compEnvC sc cl s3.heap.objs.size X.env)) (RR (.ref s.heap.objs.size) s3.heap.objs.size) s4 := by
    rintro s4 rfl
    refine compLoop_any (fun n s' => ∃ i ys σ' H', Inv (cxComp X sc cl s3.heap.objs.size (xs ++ zs) s3 (upd H s.heap.objs.size (.lst [])) fp) [] σ' H' s' ∧ tn i s'.heap ∧ (∀ b ∈ fp, H' b = none) ∧ W i n ys σ' H') ?_ m0
      ⟨0, [], embN xs.length ix σ, _, J0, st3, fun b hb => (f3 b hb).1.1, w0⟩
    rintro n s5 ⟨i, ys, σ5, H5, I5, st5, fr5, w5⟩
    rcases turn i n ys σ5 H5 w5 with ⟨stop, qn⟩ | ⟨go, step⟩
    · refine thn (T.done (cxComp X sc cl s3.heap.objs.size (xs ++ zs) s3 (upd H s.heap.objs.size (.lst [])) fp) rfl rfl rfl hc i [] s5 σ5 H5 _ I5 (fpo fr5) st5 stop) fun r s6 ⟨hr, I6⟩ => ?_
      subst hr
      obtain ⟨m6, hm6, _⟩ := I6.loc
      refine hR _ _ _ _ ⟨s.heap.objs.size, H5, m6, rfl, hm6, ?_, I3.fpOk (Nat.le_refl _) I6.free, qn⟩
      exact I3.call' I6.os I6.base I6.hok I6.bare fun b hb => by
        obtain ⟨⟨f0, f1, f2, f3, f4, f5⟩, _⟩ := f3 b hb
        exact ⟨f3, f1, f4, f5⟩
    · refine thn (T.item (cxComp X sc cl s3.heap.objs.size (xs ++ zs) s3 (upd H s.heap.objs.size (.lst [])) fp) rfl rfl rfl hc i [] s5 σ5 H5 _ I5 (fpo fr5) st5 go) fun r s6 ⟨u, hr, h6⟩ => ?_
      subst hr
      refine thn h6 fun _ s7 ⟨x7, H7, I7, r7, y7, st7, fr7⟩ => ?_
      have I7' := I7.pinned (fpo fr7) (T.obj _ _ st7)
      refine thn (hg _ s7 σ5 H7 x7 u _ I7' r7 (step x7 H7 y7)) fun _ s8 ⟨σ8, H8, I8, q8⟩ => ?_
      refine thn (hif _ s8 σ8 H8 _ I8 q8) fun b s9 ⟨H9, I9, q9⟩ => ?_
      have again : ∀ {ys' : List V} {σ' : St} {H' : Hp} {m' : Nat} {s' : Shared}, Inv (cxComp X sc cl s3.heap.objs.size (xs ++ zs) s3 (upd H s.heap.objs.size (.lst [])) fp) ([] ++ pinsAt fp s7.heap) σ' H' s' → W (i + 1) m' ys' σ' H' → m' < n →
          ∃ m, m < n ∧ ∃ i ys σ' H', Inv (cxComp X sc cl s3.heap.objs.size (xs ++ zs) s3 (upd H s.heap.objs.size (.lst [])) fp) [] σ' H' s' ∧ tn i s'.heap ∧ (∀ b ∈ fp, H' b = none) ∧ W i m ys σ' H' := fun {ys' σ' H' m' s'} Iz wz hm => by
        refine ⟨m', hm, i + 1, ys', σ', H', Iz.unpinned, T.keep _ _ _ st7 fun b hb o e => (Iz.pin (b, o) (List.mem_append_right _ (List.mem_append_right _ (mem_pinsAt hb e)))).1, fun b hb => ?_, wz⟩
        obtain ⟨o, e, d⟩ := T.obj _ _ st7 b hb
        exact (Iz.pin (b, o) (List.mem_append_right _ (List.mem_append_right _ (mem_pinsAt hb e)))).2.1
      cases b with
      | false =>
        rw [if_neg Bool.false_ne_true] at q9 ⊢
        obtain ⟨m', hm, wz⟩ := q9
        exact again I9 wz hm
      | true =>
        rw [if_pos rfl] at q9 ⊢
        refine thn (he _ s9 σ8 H9 _ I9 q9) fun v s10 ⟨y, H10, I10, r10, hl, hz, m', hm, wz⟩ => ?_
        refine thn (mt_append _ s10 σ8 H10 (.ref s.heap.objs.size) [y] (.ref s.heap.objs.size) [v] (fun z H' => z = .non ∧ H' = upd H10 s.heap.objs.size (.lst (ys ++ [y]))) I10 rfl (.cons r10 .nil) ⟨_, ys, y, rfl, rfl, hl, hz, rfl, rfl⟩) fun _ s11 ⟨z, H11, I11, _, _, e11⟩ => ?_
        subst e11
        exact again I11 wz hm
  exact codeAny_compStart_list (loop _ (by subst hS3; rfl)) (T.self _ 0 _ _ _ st3 (loop _ (by subst hS3; rfl)))
theorem pe_compN {elt tg iter : Expr} {ifs : List Expr} {sc : Scope} {pos : Pos} {x : Str} {xs : List Str} {zs : List Str} {ix : List Nat} {wi : TI} {g : TG} {tc : TT} {te : TE}
    (hc : X.calm = true) (S : CompScope X sc x zs ix) (hi : PI X tg iter wi)
    (hin : ∀ cl C s H fp, PG (cxComp X sc cl C (xs ++ zs) s H fp) tg g ∧ PIf (cxComp X sc cl C (xs ++ zs) s H fp) ifs tc ∧ PE (cxComp X sc cl C (xs ++ zs) s H fp) elt te)
    (hs : ∀ x, foldedSetIterable iter X.env x = pure x := by intro _; rfl) :
    PE X (.ListComp elt [⟨tg, iter, ifs, 0⟩] sc pos) (tCompN xs.length ix wi g tc te) := by
  intro pins s σ H Q I h
  obtain ⟨cl, hclos, hcl, hhas⟩ := comp_closure I.ok S
  rw [eval_ListComp]
  refine wpAny_comprehension_free (use := none) rfl hs hclos S.kind S.names (thn (hi pins s σ H _ I h) fun v s1 h1 => thn h1 fun itv s2 h2 => ?_)
  obtain ⟨it, fp, tn, J, H2, e, I2, T, st2, f2, hq⟩ := h2
  subst e
  refine compN_block (RR := fun acc C => compPost (model X.prog X.w) X.A X.xe none (EP X pins σ Q) acc C) hc S I2 hcl hhas T st2 f2 (fun C s H => hin cl C s H fp) hq fun acc C f s' h => ?_
  obtain ⟨p, H', m, rfl, hm, I', ⟨g0, g1, g2, g3, g4, g5⟩, q⟩ := h
  exact ⟨m, hm, fun h' hb => ⟨.ref p, H', I'.turned (t' := s'.toks) (fun b o hne e => (hb.2 b hne).trans e) g0 g1 g3 g4 g5, rfl, q⟩⟩
theorem ps_compN {elt tg iter : Expr} {ifs : List Expr} {sc : Scope} {pos py spos : Pos} {x y : Str} {xs : List Str} {zs : List Str} {ix : List Nat} {wi : TI} {g : TG} {tc : TT} {te : TE} {j : Nat}
    (hc : X.calm = true) (S : CompScope X sc x zs ix) (hi : PI X tg iter wi)
    (hin : ∀ cl C s H fp, PG (cxComp X sc cl C (xs ++ zs) s H fp) tg g ∧ PIf (cxComp X sc cl C (xs ++ zs) s H fp) ifs tc ∧ PE (cxComp X sc cl C (xs ++ zs) s H fp) elt te)
    (hN : X.N.Nodup) (hj : X.N[j]? = some y) (hy : Loc X.env.scope y)
    (hsw : swapsWith (.ListComp elt [⟨tg, iter, ifs, 0⟩] sc pos) (some (.Name y py)) spos.line X.env = pure true := by rfl)
    (hf : X.fn y = true ∨ X.env.scope.names.lookup y = some .local := by first | exact .inl rfl | exact .inr rfl | assumption)
    (hs : ∀ x, foldedSetIterable iter X.env x = pure x := by intro _; rfl) :
    PS X (.Assign [.Name y py] (.ListComp elt [⟨tg, iter, ifs, 0⟩] sc pos) spos) (tAsg (tCompN xs.length ix wi g tc te) (gName j)) := by
  intro pins s σ H D I h
  obtain ⟨cl, hclos, hcl, hhas⟩ := comp_closure I.ok S
  rw [exec_Assign_Name_used _ _ _ _ hsw]
  refine wpAny_bind (wpAny_standAt (wpAny_bind ?_))
  show wpAny _ X.A (do let _ ← comprehension (.ListComp elt [⟨tg, iter, ifs, 0⟩] sc pos) sc X.env _ (newList []) false (eval iter X.env) (some (assign (.Name y py) X.env))) _ _ s
  refine wpAny_bind (wpAny_mono (wpAny_comprehension_free (use := some (assign (.Name y py) X.env)) (Q := fun _ s' => SP X pins D .next s') rfl hs hclos S.kind S.names
    (thn (hi pins s σ H _ I h) fun v s1 h1 => thn h1 fun itv s2 h2 => ?_)) (fun _ s' hq => wpAny_pure (wpAny_pure hq)) fun _ _ e => e)
  obtain ⟨it, fp, tn, J, H2, e, I2, T, st2, f2, hq⟩ := h2
  subst e
  refine compN_block (Q := fun x H1 => gName j x σ H1 D.nx) (RR := fun acc C => compPost (model X.prog X.w) X.A X.xe (some (assign (.Name y py) X.env)) (fun _ s' => SP X pins D .next s') acc C) hc S I2 hcl hhas T st2 f2 (fun C s H => hin cl C s H fp) hq fun acc C f s' h => ?_
  obtain ⟨p, H', m, rfl, hm, I', ⟨g0, g1, g2, g3, g4, g5⟩, q⟩ := h
  show wpAny _ X.A (assign (.Name y py) X.env (.ref p)) _ _ _
  refine wpAny_assign_Name (store_ok2 I' hN hj hy (show RelV (.ref p) (.ref p) from rfl) (fun s'' I'' ⟨c, hsb, hcc⟩ => ?_) hf)
  have hne : C ≠ c := by
    rcases hcc with z | z
    · rw [z]; exact g1
    · exact Ne.symm (g4 _ _ z)
  exact ⟨m, hm.sameBut hsb hne, fun h' hb => ⟨_, H', I''.turned (t' := s''.toks) (fun b o hne e => (hb.2 b hne).trans e) g0 g1 g3 g4 g5, q⟩⟩
end
structure WalksY (J : It) (n : Nat) (y : Nat → Hp → V → Hp → Prop) (H : Hp) : Prop where
  go : ∀ H' i, Same H H' → i < n → J.go i H'
  yld : ∀ H' i x H2, Same H H' → i < n → J.yld i H' x H2 → y i H' x H2
  stop : ∀ H', Same H H' → J.stop n H'
theorem Walks.y {J : It} {n : Nat} {f : Nat → V} {H : Hp} (w : Walks J n f H) : WalksY J n (fun i H' v H2 => H2 = H' ∧ v = f i) H := ⟨w.go, w.yld, w.stop⟩
theorem walks_enum {K : PySem.W.Frag} {a : Addr} {xs : List V} {H : Hp} (h : SqL K H a xs) : WalksY (Ite K a) xs.length (fun i H' v H2 => ∃ t, H' t = none ∧ v = .ref t ∧ H2 = upd H' t (.tup [.int i, xs.getD i .non])) H :=
  ⟨fun H' i e hi => ⟨xs, xs[i], e.seq h, by simp [hi]⟩, fun H' i x H2 e hi ⟨t, z, ht, hv, h2, hz⟩ => ⟨t, ht, hv, by
    have := hz xs (e.seq h)
    rw [h2]; simp [List.getD, this]⟩, fun H' e => ⟨xs, e.seq h, Nat.le_refl _⟩⟩
theorem compN_walk {own : Nat} {ix : List Nat} {g : TG} {tc : TT} {te : TE} {Q : Addr → Hp → Prop} {σ : St} {H : Hp} {J : It} {n : Nat} {y : Nat → Hp → V → Hp → Prop} (w : WalksY J n y H) (hn : n < sizeLine) (s : Nat → List (Option V)) (hs : ∀ i, (s i).length = own) (c : Nat → Bool) (R : Nat → V → Hp → Prop)
    (mono : ∀ i v H1 H2, Same H1 H2 → R i v H1 → R i v H2)
    (hg : ∀ i a H' v H2 (Kg : St → Hp → Prop), i < n → Same H H' → y i H' v H2 → a.length = own → (∀ H3, Same H' H3 → Kg (s i ++ ix.map fun j => (σ[j]?).join) H3) → g v (a ++ ix.map fun j => (σ[j]?).join) H2 Kg)
    (hc : ∀ i H' (Kc : Bool → Hp → Prop), i < n → Same H H' → (∀ H4, Same H' H4 → Kc (c i) H4) → tc (s i ++ ix.map fun j => (σ[j]?).join) H' Kc)
    (he : ∀ p i H' (Kc : VK), i < n → c i = true → H p = none → (∃ ys, H' p = some (.lst ys)) → Same H H' → (∀ v H5, Same H' H5 → R i v (hid H5 p) → Kc v H5) → te (s i ++ ix.map fun j => (σ[j]?).join) H' Kc)
    (q : ∀ p H' ys, H p = none → Same H H' → H' p = some (.lst ys) → Paired (fun i v => R i v (hid H' p)) ((List.range n).filter c) ys → Q p H') :
    ∀ p, H p = none → ∃ W : Nat → Nat → List V → St → Hp → Prop, (∃ m, W 0 m [] (embN own ix σ) (upd H p (.lst []))) ∧ ∀ i m ys σ' H', W i m ys σ' H' →
      (J.stop i H' ∧ Q p H') ∨ (J.go i H' ∧ ∀ x H2, J.yld i H' x H2 → g x σ' H2 fun σ2 H3 => tc σ2 H3 fun b H4 =>
        if b = true then te σ2 H4 fun v H5 => H5 p = some (.lst ys) ∧ ys.length < sizeLine ∧ ∃ m', m' < m ∧ W (i + 1) m' (ys ++ [v]) σ2 (upd H5 p (.lst (ys ++ [v])))
        else ∃ m', m' < m ∧ W (i + 1) m' ys σ2 H4) := by
  intro p hp
  have hidS : ∀ {H1 H2 : Hp}, Same H1 H2 → Same (hid H1 p) (hid H2 p) := fun {H1 H2} e b o z => by
    by_cases h : b = p
    · rw [h, hid_self] at z; cases z
    · rw [hid_ne h] at z ⊢; exact e b o z
  have hidU : ∀ {H1 : Hp} {o : HO}, Same (hid H1 p) (hid (upd H1 p o) p) := fun {H1 o} b u z => by
    by_cases h : b = p
    · rw [h, hid_self] at z; cases z
    · rw [hid_ne h] at z ⊢; rw [upd_ne h]; exact z
  refine ⟨fun i m ys σ' H' => m = n - i ∧ i ≤ n ∧ (∃ a, a.length = own ∧ σ' = a ++ ix.map fun j => (σ[j]?).join) ∧ Same H H' ∧ H' p = some (.lst ys) ∧ Paired (fun i v => R i v (hid H' p)) ((List.range i).filter c) ys,
    ⟨n, by simp, Nat.zero_le _, ⟨List.replicate own none, List.length_replicate, rfl⟩, same_new hp, upd_same, .nil⟩, ?_⟩
  rintro i m ys σ' H' ⟨rfl, hi, ⟨a, ha, rfl⟩, sm, hy, hl⟩
  by_cases hlt : i < n
  · refine .inr ⟨w.go H' i sm hlt, fun x H2 yl => ?_⟩
    have hlen : ys.length ≤ i := by
      rw [← Paired.length hl]
      exact Nat.le_trans (List.length_filter_le _ _) (by simp)
    refine hg i a H' x H2 _ hlt sm (w.yld H' i x H2 sm hlt yl) ha fun H3 s3 => ?_
    refine hc i H3 _ hlt (sm.trans s3) fun H4 s4 => ?_
    have sm4 := (sm.trans s3).trans s4
    have hy4 := s4 _ _ (s3 _ _ hy)
    have step : (List.range (i + 1)).filter c = (List.range i).filter c ++ (if c i = true then [i] else []) := by
      rw [List.range_succ, List.filter_append]
      congr 1
      by_cases h : c i = true <;> simp [h]
    have hl4 : Paired (fun i v => R i v (hid H4 p)) ((List.range i).filter c) ys := Paired.mapP hl fun _ _ z => mono _ _ _ _ (hidS (s3.trans s4)) z
    by_cases hci : c i = true
    · rw [hci, if_pos rfl]
      refine he p i H4 _ hlt hci hp ⟨ys, hy4⟩ sm4 fun v H5 s5 r5 => ⟨s5 _ _ hy4, by omega, n - (i + 1), by omega, rfl, hlt, ⟨s i, hs i, rfl⟩, (sm4.trans s5).new hp, upd_same, ?_⟩
      rw [step, if_pos hci]
      exact Paired.snoc (Paired.mapP hl4 fun _ _ z => mono _ _ _ _ ((hidS s5).trans hidU) z) (mono _ _ _ _ hidU r5)
    · have hcf : c i = false := by simpa using hci
      rw [hcf, if_neg Bool.false_ne_true]
      refine ⟨n - (i + 1), by omega, rfl, hlt, ⟨s i, hs i, rfl⟩, sm4, hy4, ?_⟩
      rw [step, if_neg hci, List.append_nil]
      exact hl4
  · have e : i = n := by omega
    subst e
    exact .inl ⟨w.stop H' sm, q p H' ys hp sm hy hl⟩
theorem hid_new {H : Hp} {p u : Addr} {o : HO} (h : ∃ ys, H p = some (.lst ys)) (hu : H u = none) : hid (upd H u o) p u = some o := by
  have n : u ≠ p := fun z => by
    obtain ⟨ys, e⟩ := h
    rw [← z, hu] at e
    cases e
  rw [hid_ne n, upd_same]
theorem for_walkY {J : It} {n : Nat} {y : Nat → Hp → V → Hp → Prop} {H0 : Hp} (w : WalksY J n y H0) {g : TG} {tb : TS} {D : Ends} {σ : St} {H : Hp} (Pv : Nat → St → Hp → Prop) (h0 : Pv 0 σ H) (hk : ∀ i σ H, Pv i σ H → Same H0 H)
    (hs : ∀ i σ H v H', i < n → Pv i σ H → y i H v H' → g v σ H' fun σ2 H2 => tb { D with nx := Pv (i + 1), ct := Pv (i + 1), bk := D.nx } σ2 H2) (hd : ∀ σ H, Pv n σ H → D.nx σ H) :
    ∃ W : Nat → Nat → St → Hp → Prop, (∃ m, W 0 m σ H) ∧ ∀ i m σ H, W i m σ H →
      (J.stop i H ∧ D.nx σ H) ∨ (J.go i H ∧ ∃ N : St → Hp → Prop, (∀ σ' H', N σ' H' → ∃ m', m' < m ∧ W (i + 1) m' σ' H') ∧ ∀ x H', J.yld i H x H' → g x σ H' fun σ2 H2 => tb { D with nx := N, ct := N, bk := D.nx } σ2 H2) := by
  refine ⟨fun i m σ H => m = n - i ∧ i ≤ n ∧ Pv i σ H, ⟨n, by simp, Nat.zero_le _, h0⟩, ?_⟩
  rintro i m σ H ⟨rfl, hi, p⟩
  have sm := hk i σ H p
  by_cases hlt : i < n
  · exact .inr ⟨w.go H i sm hlt, Pv (i + 1), fun σ' H' p' => ⟨n - (i + 1), by omega, rfl, hlt, p'⟩, fun x H' yl => hs i σ H x H' hlt p (w.yld H i x H' sm hlt yl)⟩
  · have e : i = n := by omega
    subst e
    exact .inl ⟨w.stop H sm, hd σ H p⟩
namespace Rd
section
variable {σ : St} {H : Hp} {Q : VK} {D : Ends} {K : PySem.W.Frag}
theorem compNE {n : Nat} {ix : List Nat} {wi : TI} {g : TG} {tc : TT} {te : TE} (h : wi σ H fun J H1 => ∀ p, H1 p = none →
  ∃ W : Nat → Nat → List V → St → Hp → Prop, (∃ m, W 0 m [] (embN n ix σ) (upd H1 p (.lst []))) ∧ ∀ i m ys σ' H', W i m ys σ' H' →
    (J.stop i H' ∧ Q (.ref p) H') ∨ (J.go i H' ∧ ∀ x H2, J.yld i H' x H2 → g x σ' H2 fun σ2 H3 => tc σ2 H3 fun b H4 =>
      if b = true then te σ2 H4 fun v H5 => H5 p = some (.lst ys) ∧ ys.length < sizeLine ∧ ∃ m', m' < m ∧ W (i + 1) m' (ys ++ [v]) σ2 (upd H5 p (.lst (ys ++ [v])))
      else ∃ m', m' < m ∧ W (i + 1) m' ys σ2 H4)) : tCompN n ix wi g tc te σ H Q := h
theorem ienum {ts : TA} {R : It → Hp → Prop} (h : ts σ H fun vs H1 => ∃ a, vs = [.ref a] ∧ (∃ xs, SqL K H1 a xs) ∧ R (Ite K a) H1) : iEnum K ts σ H R := h
theorem ienum2 {a : Addr} {xs : List V} {G : Addr → Prop} (h : SqL K H a xs) (q : G a) : ∃ a', [V.ref a] = [.ref a'] ∧ (∃ xs, SqL K H a' xs) ∧ G a' := ⟨a, rfl, ⟨xs, h⟩, q⟩
theorem dnew (h : ∀ p, H p = none → Q (.ref p) (upd H p (.dK []))) : tDNewK σ H Q := h
theorem dinS {a : Addr} {kvs : List (Key × V)} {x : Str} (h : H a = some (.dK kvs)) (q : Q (.bl (valV kvs (Sum.inr x)).isSome) H) : rDIn (.str x) (.ref a) H Q := ⟨a, _, rfl, DGet.k (k := Sum.inr x) h, q⟩
theorem dninI {a : Addr} {kvs : List (Key × V)} {x : Int} (h : H a = some (.dK kvs)) (q : Q (.bl (!(valV kvs (Sum.inl x)).isSome)) H) : rDNotIn (.int x) (.ref a) H Q := ⟨a, _, rfl, DGet.k (k := Sum.inl x) h, q⟩
theorem dsetS {a : Addr} {kvs : List (Key × V)} {x : Str} {v : V} {Q : Hp → Prop} (h : H a = some (.dK kvs)) (hl : kvs.length < sizeLine) (q : Q (upd H a (.dK (putK kvs (Sum.inr x) v)))) : rSetD (.ref a) (.str x) v H Q := ⟨a, _, rfl, DPut.k (k := Sum.inr x) h hl, q⟩
theorem dsetI {a : Addr} {kvs : List (Key × V)} {x : Int} {v : V} {Q : Hp → Prop} (h : H a = some (.dK kvs)) (hl : kvs.length < sizeLine) (q : Q (upd H a (.dK (putK kvs (Sum.inl x) v)))) : rSetD (.ref a) (.int x) v H Q := ⟨a, _, rfl, DPut.k (k := Sum.inl x) h hl, q⟩
theorem dlen {a : Addr} {kvs : List (Key × V)} (h : H a = some (.dK kvs)) (q : Q (.int kvs.length) H) : rLenD [.ref a] H Q := ⟨a, kvs, rfl, h, q⟩
theorem dlist {a : Addr} {kvs : List (Key × V)} (h : H a = some (.dK kvs)) (q : ∀ l, H l = none → Q (.ref l) (upd H l (.lst (kvs.map fun kv => kV kv.1)))) : rListD [.ref a] H Q := ⟨a, kvs, rfl, h, q⟩
theorem ipi {f : Int → Int → Int} {i j : Int} (q : Q (.int (f i j)) H) : ipI f (.int i) (.int j) H Q := ⟨i, j, rfl, rfl, q⟩
end
end Rd
section
variable {X : Cx}
end
end L2
namespace L2
open PySem PySem.Spec PyProof.Rows
section
variable {X : Cx} {K : PySem.W.Frag}
def rMulS : R2 := fun x y H Q => ∃ (z : Str) (n : Int), x = .str z ∧ y = .int n ∧ MulOk z n ∧ Q (.str (Txt.mul z n)) H
theorem op_mulS : OpR X (binaryOp .Mult) rMulS := by
  intro pins s σ H x y v u Q I rx ry h
  obtain ⟨z, n, rfl, rfl, ok, q⟩ := h
  obtain ⟨t, rfl⟩ := rx
  obtain ⟨t', rfl⟩ := ry
  exact SB.mul ok fun t' k => ⟨.str _, H, I.tok _, ⟨_, rfl⟩, q⟩
def tLRng (ta : TA) : TE := fun σ H Q => ta σ H fun vs H1 => ∃ n : Nat, vs = [.int n] ∧ n ≤ 2 ^ 24 ∧ ∀ l, H1 l = none → Q (.ref l) (upd H1 l (.lst ((List.range n).map fun i : Nat => V.int i)))
theorem pe_lrng {a : Expr} {ta : TA} {p p1 pos pos1 : Pos} (hc : X.calm = true) (hgl : Gl X "list") (hml : X.mg "list" = none) (hg : Gl X "range") (hm : X.mg "range" = none) (ha : PA X [a] ta)
    (hs : starEach [a] X.env = [(false, eval a X.env)] := by rfl)
    (he : starEach [Expr.Call (.Name "range" p) [a] [] pos] X.env = (false, eval (.Call (.Name "range" p) [a] [] pos) X.env) :: starEach [] X.env := by rfl) :
    PE X (.Call (.Name "list" p1) [.Call (.Name "range" p) [a] [] pos] [] pos1) (tLRng ta) := by
  intro pins s σ H Q I h
  refine wpAny_Call_Name_kw (ld_blt I hgl hml boot_list ?_)
  refine PyProof.Rows.callWith_type1 ?_ he rfl
  rw [he]
  show wpAny _ _ (spliced ((false, eval (.Call (.Name "range" p) [a] [] pos) X.env) :: [])) _ _ s
  refine Calls.spliced_cons (Call_ (ld_blt I hg hm boot_range (PyProof.Rows.callWith_type1 (thn (ha pos pins s σ H _ I h) fun us s1 ⟨vs, H1, I1, r1, q1⟩ => ?_) hs rfl)))
  obtain ⟨n, e, hn, q⟩ := q1
  subst e
  obtain ⟨u, rfl, t, rfl⟩ := vals1 r1
  refine call_range_1 (Calls.spliced_nil ?_)
  refine call_list_range (I1.ok.hd hc) (IsRange.new ..) (small_one (by omega) (by omega) (by omega) (by omega)) (n := n) (by rw [rangeSize_one]; split <;> omega) hn fun h' tk acc c' hk hS hacc => ?_
  have I2 : Inv X pins σ H1 { s1 with heap := s1.heap.push { cls := .type "range", data := .fields #[.int 0 s1.toks, .int n t, .int 1 (s1.toks + 1)] }, toks := s1.toks + 1 + 1 } := I1.kept fun b o e => Heap.get?_push_of_some _ e
  have hz : ((List.range n).map fun i : Nat => V.int i).length ≤ sizeLine := by
    rw [List.length_map, List.length_range, sizeLine_eq]; omega
  refine ⟨.ref (s1.heap.push { cls := .type "range", data := .fields #[.int 0 s1.toks, .int n t, .int 1 (s1.toks + 1)] }).objs.size, _, I2.laid (a := (s1.heap.push { cls := .type "range", data := .fields #[.int 0 s1.toks, .int n t, .int 1 (s1.toks + 1)] }).objs.size) (o := .lst ((List.range n).map fun i : Nat => V.int i)) (t' := tk) hk (Nat.le_refl _) ⟨hz, acc.toList, c', ?_, by simpa using hS⟩, rfl, q _ (I2.hok.fresh (Nat.le_refl _))⟩
  refine vals_pt (by rw [Array.length_toList, hacc.1, List.length_map, List.length_range]) fun j v u e1 e2 => ?_
  obtain ⟨tj, hj⟩ := hacc.2 j u (by rw [← Array.getElem?_toList]; exact e2)
  have hjn : j < n := by
    have := (List.getElem?_eq_some_iff.mp e1).1
    simpa using this
  rw [List.getElem?_map, List.getElem?_range hjn] at e1
  cases e1
  rw [hj]
  exact ⟨tj, by simp⟩
end
namespace Rd
section
variable {σ : St} {H : Hp} {Q : VK} {K : PySem.W.Frag}
theorem lrng {ta : TA} (h : ta σ H fun vs H1 => ∃ n : Nat, vs = [.int n] ∧ n ≤ 2 ^ 24 ∧ ∀ l, H1 l = none → Q (.ref l) (upd H1 l (.lst ((List.range n).map fun i : Nat => V.int i)))) : tLRng ta σ H Q := h
theorem mulS {z : Str} {n : Int} (h : MulOk z n) (q : Q (.str (Txt.mul z n)) H) : rMulS (.str z) (.int n) H Q := ⟨z, n, rfl, rfl, h, q⟩
end
end Rd
def RowsAt (H : Hp) : List V → List (List Int) → Prop := Paired fun v xs => ∃ t, v = .ref t ∧ H t = some (.lst (xs.map V.int))
theorem RowsAt.same {H H' : Hp} {ys : List V} {xss : List (List Int)} (h : RowsAt H ys xss) (e : Same H H') : RowsAt H' ys xss := Paired.mapP h fun _ _ ⟨t, a, b⟩ => ⟨t, a, e _ _ b⟩
theorem RowsAt.length {H : Hp} {ys : List V} {xss : List (List Int)} (h : RowsAt H ys xss) : ys.length = xss.length := Paired.length h
theorem RowsAt.at {H : Hp} : ∀ {ys : List V} {xss : List (List Int)} {i : Nat} {xs : List Int}, RowsAt H ys xss → xss[i]? = some xs → ∃ t, ys[i]? = some (.ref t) ∧ H t = some (.lst (xs.map V.int))
  | _, _, _, _, .nil, e => by simp at e
  | _, _, 0, _, .cons ⟨t, e1, h⟩ _, e => by simp at e; subst e; exact ⟨t, by simp [e1], h⟩
  | _, _, i + 1, b, .cons _ r, e => by
    obtain ⟨t, h1, h2⟩ := RowsAt.at (i := i) (xs := b) r (by simpa using e)
    exact ⟨t, by simpa using h1, h2⟩
theorem RowsAt.snoc {H : Hp} : ∀ {ys : List V} {xss : List (List Int)} {t : Addr} {xs : List Int}, RowsAt H ys xss → H t = some (.lst (xs.map V.int)) → RowsAt H (ys ++ [.ref t]) (xss ++ [xs])
  | _, _, _, _, .nil, h => .cons ⟨_, rfl, h⟩ .nil
  | _, _, _, _, .cons x r, h => .cons x (RowsAt.snoc r h)
theorem hid_sames {H H' : Hp} {p : Addr} (e : Same H H') : Same (hid H p) (hid H' p) := fun b o z => by
  by_cases h : b = p
  · rw [h, hid_self] at z; cases z
  · rw [hid_ne h] at z ⊢; exact e b o z
theorem hid_upd {H : Hp} {p : Addr} {o : HO} : Same (hid H p) (hid (upd H p o) p) := fun b u z => by
  by_cases h : b = p
  · rw [h, hid_self] at z; cases z
  · rw [hid_ne h] at z ⊢; rw [upd_ne h]; exact z
theorem ints_getD {xs : List Int} {i : Nat} (h : i < xs.length) : (xs.map V.int).getD i .non = .int (xs.getD i 0) := by simp [List.getD, h]
theorem eqv_ints (ns ms : List Int) : PyData.eqv (.list (ns.map PyData.int)) (.list (ms.map PyData.int)) = decide (ns = ms) := by
  have h : ∀ ns ms : List Int, PyData.eqvAll (ns.map PyData.int) (ms.map PyData.int) = decide (ns = ms) := by
    intro ns
    induction ns with
    | nil => intro ms; cases ms <;> simp [PyData.eqvAll]
    | cons n ns ih =>
      intro ms
      cases ms with
      | nil => simp [PyData.eqvAll]
      | cons m ms =>
        simp only [List.map_cons, PyData.eqvAll, PyData.eqv, ih]
        by_cases e : n = m
        · subst e; simp
        · simp [e]
  simp only [PyData.eqv]
  exact h ns ms
end L2
namespace L2
open PySem PySem.Spec PyProof.Rows
section
variable {X : Cx}
def rUpdD : V → List V → Hp → VK → Prop := fun x vs H Q => ∃ a b kvs more, x = .ref a ∧ vs = [.ref b] ∧ a ≠ b ∧ H a = some (.dK kvs) ∧ H b = some (.dK more) ∧ kvs.length + more.length ≤ sizeLine ∧ Q .non (upd H a (.dK (mergeK kvs more)))
theorem mt_updD : MtR X "dict.update" rUpdD := by
  intro pins s σ H x xs v us Q I rx rs h
  obtain ⟨a, b, kvs, more, rfl, rfl, ne, ha, hb, hl, q⟩ := h
  cases rx
  obtain ⟨u, rfl, ru⟩ := vals1 rs
  cases ru
  obtain ⟨z, hd, vs, rel, dd⟩ := dk_of I.hok ha
  obtain ⟨z2, hd2, rs2, rel2, dd2⟩ := dk_of I.hok hb
  refine call_meetsIn PySem.F.slot_dict_update dd.typeIs PySem.F.entry_dict_update (PySem.F.args_dict_update_2 _ _) (meets_dict_update (mixKind X.prog X.w) a b ne hd2) ⟨vs, rs2, dd, dd2, by rw [← rel.length, ← rel2.length]; exact hl, fun h' dd' _ hs => ?_⟩
  have hm := length_mergeK more kvs
  have he : ∃ q, h'.get? a = some q := let ⟨q, _, _, hq, _⟩ := dd'; ⟨q, hq⟩
  exact ⟨.non, _, d_write (t' := s.toks) I (by rw [ha]; exact True.intro) hs he (dk_new (by omega) hd (rel2.merge rel) dd'), rfl, q⟩
end
end L2
namespace L2
open PySem PySem.Spec PyProof.Rows
section
variable {X : Cx}
def rSortD : List V → Hp → VK → Prop := fun xs H Q => ∃ (a : Addr) (kvs : List (Key × V)) (ks : List Int), xs = [V.ref a] ∧ H a = some (.dK kvs) ∧ kvs.map (·.1) = ks.map Sum.inl ∧ kvs.length < 64 ∧ ∀ (l : Addr) (ns : List Int), H l = none → ns.Perm ks → ns.Pairwise (· ≤ ·) → Q (.ref l) (upd H l (.lst (ns.map V.int)))
theorem call_sortedD (hc : X.calm = true) : CallR X (.builtin "sorted") rSortD := by
  intro pins s σ H xs us Q I r h
  obtain ⟨a, kvs, ks, rfl, ha, hks, h64, q⟩ := h
  obtain ⟨u, rfl, ru⟩ := vals1 r
  cases ru
  obtain ⟨z, hd, vs, rel, dd⟩ := dk_of I.hok ha
  obtain ⟨ep, hat⟩ := dd.dictAt
  refine Calls.call_function_entry kind_sorted plain_sorted entry_sorted (args_sorted1 _) ?_
  unfold Builtin.«sorted»
  refine wpAny_bind (m := checkCount "sorted" 1 1 _) (wpAny_pure ?_)
  refine wpAny_bind (PySem.W.kdu_collect (A := X.A.in1) (PySem.W.kdl_dict (knd := mixKind X.prog X.w) (kvs := vs) (ep := ep) hd) (I.ok.hd hc) hat (by rw [← rel.length]; exact z) fun h' tk acc hkp hacc => ?_)
  have hl : acc.toList.length = vs.length := by rw [Array.length_toList]; exact hacc.1
  have hkl : kvs.length = ks.length := by have := congrArg List.length hks; simpa using this
  have hv : Vals (ks.map V.int) acc.toList := by
    refine vals_pt (by rw [hl, ← rel.length, hkl, List.length_map]) fun j v u e1 e2 => ?_
    obtain ⟨k, x, hx, hk'⟩ := hacc.2 j u (by rw [← Array.getElem?_toList]; exact e2)
    obtain ⟨v', hv'⟩ := rel.at hx
    have hj : (kvs.map (·.1))[j]? = some k := by rw [List.getElem?_map, hv']; rfl
    rw [hks, List.getElem?_map] at hj
    rw [List.getElem?_map] at e1
    cases e : ks[j]? with
    | none => rw [e] at e1; cases e1
    | some n =>
      rw [e] at e1 hj
      cases e1
      cases hj
      exact is_kV hk'
  have hI := intsAre_of hv
  refine wpAny_bind (wpAny_newList ?_ (by rw [hl, ← rel.length]; exact z))
  have hoL : (h'.push (seqObj "list" acc.toList.toArray 0)).get? h'.objs.size = some (seqObj "list" acc.toList.toArray 0) := Heap.get?_push_size _ rfl
  have I1 : Inv X pins σ H { s with heap := h', toks := tk } := I.kept hkp
  refine wpAny_bind (wpAny_holding (wpAny_call_entry slot_list_sort ⟨_, hoL, rfl⟩ entry_list_sort (list_sort_tree hoL hI (by rw [hl, ← rel.length]; exact h64) fun out ns' a1 a2 a3 => ⟨_, rfl, ?_⟩) (args_list_sort _)))
  refine wpAny_pure ⟨_, rfl, ?_⟩
  obtain ⟨e, he⟩ := sortedHeap_at (out := out) hoL
  have hv' := vals_ints a1
  refine ⟨.ref h'.objs.size, _, I1.laid (a := h'.objs.size) (o := .lst (ns'.map V.int)) (t' := tk) (fun b o hb' => ?_) (Nat.le_refl _) ⟨by rw [List.length_map, a2.length_eq, ← hkl]; exact z, out.toList, e, hv', by simpa using he⟩, rfl, q _ ns' (I1.hok.fresh (Nat.le_refl _)) a2 a3⟩
  have hlt := Heap.lt_size hb'
  rw [sortedHeap_old (Nat.ne_of_lt hlt) (by rw [size_push']; exact Nat.lt_succ_of_lt hlt)]
  exact Heap.get?_push_of_some _ hb'
end
theorem comp_lists {own : Nat} {ix : List Nat} {g : TG} {tc : TT} {Q : Addr → Hp → Prop} {σ : St} {H : Hp} {J : It} {n : Nat} {y : Nat → Hp → V → Hp → Prop} (w : WalksY J n y H) (hn : n < sizeLine) (s : Nat → List (Option V)) (hs : ∀ i, (s i).length = own)
    (hg : ∀ i a H' v H2 (Kg : St → Hp → Prop), i < n → Same H H' → y i H' v H2 → a.length = own → (∀ H3, Same H' H3 → Kg (s i ++ ix.map fun j => (σ[j]?).join) H3) → g v (a ++ ix.map fun j => (σ[j]?).join) H2 Kg)
    (hc : ∀ i H' (Kc : Bool → Hp → Prop), i < n → Same H H' → Kc true H' → tc (s i ++ ix.map fun j => (σ[j]?).join) H' Kc)
    (q : ∀ p H' (ia : List Addr), H p = none → Same H H' → H' p = some (.lst (ia.map V.ref)) → ia.length = n → ia.Nodup → (∀ x ∈ ia, H x = none ∧ x ≠ p ∧ H' x = some (.lst [])) → Q p H') :
    ∀ p, H p = none → ∃ W : Nat → Nat → List V → St → Hp → Prop, (∃ m, W 0 m [] (embN own ix σ) (upd H p (.lst []))) ∧ ∀ i m ys σ' H', W i m ys σ' H' →
      (J.stop i H' ∧ Q p H') ∨ (J.go i H' ∧ ∀ x H2, J.yld i H' x H2 → g x σ' H2 fun σ2 H3 => tc σ2 H3 fun b H4 =>
        if b = true then tLst tNil σ2 H4 fun v H5 => H5 p = some (.lst ys) ∧ ys.length < sizeLine ∧ ∃ m', m' < m ∧ W (i + 1) m' (ys ++ [v]) σ2 (upd H5 p (.lst (ys ++ [v])))
        else ∃ m', m' < m ∧ W (i + 1) m' ys σ2 H4) := by
  intro p hp
  refine ⟨fun i m ys σ' H' => m = n - i ∧ i ≤ n ∧ (∃ a, a.length = own ∧ σ' = a ++ ix.map fun j => (σ[j]?).join) ∧ Same H H' ∧ ∃ ia : List Addr, ys = ia.map V.ref ∧ H' p = some (.lst (ia.map V.ref)) ∧ ia.length = i ∧ ia.Nodup ∧ ∀ x ∈ ia, H x = none ∧ x ≠ p ∧ H' x = some (.lst []),
    ⟨n, by simp, Nat.zero_le _, ⟨List.replicate own none, List.length_replicate, rfl⟩, same_new hp, [], rfl, upd_same, rfl, .nil, by simp⟩, ?_⟩
  rintro i m ys σ' H' ⟨rfl, hi, ⟨a, ha, rfl⟩, sm, ia, rfl, hy, hil, hnd, hia⟩
  by_cases hlt : i < n
  · refine .inr ⟨w.go H' i sm hlt, fun x H2 yl => ?_⟩
    refine hg i a H' x H2 _ hlt sm (w.yld H' i x H2 sm hlt yl) ha fun H3 s3 => ?_
    refine hc i H3 _ hlt (sm.trans s3) ?_
    rw [if_pos rfl]
    show (0 : Nat) ≤ sizeLine ∧ _
    refine ⟨Nat.zero_le _, fun u hu => ?_⟩
    have sm3 := sm.trans s3
    have hy3 := s3 _ _ hy
    have nup : u ≠ p := fun z => by rw [z, hy3] at hu; cases hu
    have s4 : Same H3 (upd H3 u (.lst [])) := same_new hu
    refine ⟨s4 _ _ hy3, by rw [List.length_map]; omega, n - (i + 1), by omega, rfl, hlt, ⟨s i, hs i, rfl⟩, (sm3.trans s4).new hp, ia ++ [u], by simp, by rw [upd_same]; simp, by simp [hil], ?_, fun x hx => ?_⟩
    · refine List.nodup_append.mpr ⟨hnd, by simp, fun x hx z hz => ?_⟩
      rw [List.mem_singleton.mp hz]
      intro e
      have := s3 _ _ (hia x hx).2.2
      rw [e, hu] at this
      cases this
    · rcases List.mem_append.mp hx with z | z
      · obtain ⟨h1, h2, h3⟩ := hia x z
        exact ⟨h1, h2, by rw [upd_ne h2]; exact s4 _ _ (s3 _ _ h3)⟩
      · rw [List.mem_singleton.mp z]
        refine ⟨?_, nup, by rw [upd_ne nup, upd_same]⟩
        cases e : H u with
        | none => rfl
        | some o => rw [sm3 _ _ e] at hu; cases hu
  · have e : i = n := by omega
    subst e
    exact .inl ⟨w.stop H' sm, q p H' ia hp sm hy hil hnd hia⟩
namespace Rd
section
variable {H : Hp} {Q : VK}
theorem sortD {a : Addr} {kvs : List (Key × V)} {ks : List Int} (h : H a = some (.dK kvs)) (e : kvs.map (·.1) = ks.map Sum.inl) (hl : kvs.length < 64) (q : ∀ (l : Addr) (ns : List Int), H l = none → ns.Perm ks → ns.Pairwise (· ≤ ·) → Q (.ref l) (upd H l (.lst (ns.map V.int)))) : rSortD [.ref a] H Q := ⟨a, kvs, ks, rfl, h, e, hl, q⟩
theorem updD {a b : Addr} {kvs more : List (Key × V)} (ne : a ≠ b) (ha : H a = some (.dK kvs)) (hb : H b = some (.dK more)) (hl : kvs.length + more.length ≤ sizeLine) (q : Q .non (upd H a (.dK (mergeK kvs more)))) : rUpdD (.ref a) [.ref b] H Q := ⟨a, b, kvs, more, rfl, rfl, ne, ha, hb, hl, q⟩
end
end Rd
end L2
namespace My
structure S (k : Nat) (x : Int) : Prop where
  lo : 0 ≤ x
  hi : x.toNat < 2 ^ (2048 * 2 ^ k)
theorem two_le {j k : Nat} (h : j ≤ k) : 2 ^ (2048 * 2 ^ j) ≤ 2 ^ (2048 * 2 ^ k) :=
  Nat.pow_le_pow_right (by decide) (Nat.mul_le_mul_left _ (Nat.pow_le_pow_right (by decide) h))
theorem S.mono {j k : Nat} {x : Int} (h : S j x) (hj : j ≤ k) : S k x := ⟨h.lo, Nat.lt_of_lt_of_le h.hi (two_le hj)⟩
theorem S.small {k : Nat} {x : Int} (h0 : 0 ≤ x) (h1 : x ≤ 10 ^ 31) : S k x := by
  refine S.mono (j := 0) ⟨h0, ?_⟩ (Nat.zero_le k)
  have a : x.toNat < 2 ^ 128 := by omega
  have b : 2 ^ 128 ≤ 2 ^ (2048 * 2 ^ 0) := Nat.pow_le_pow_right (by decide) (by decide)
  omega
end My
namespace Fo
abbrev Trip := Int × Int × Bool
abbrev Tree := List (Int × Option Trip)
def keys (tr : Tree) : List Int := tr.map (·.1)
theorem keys_snoc (tr : Tree) (w : Int) (s : Option Trip) : keys (tr ++ [(w, s)]) = keys tr ++ [w] := by simp [keys]
theorem mem_keys {tr : Tree} {i : Nat} {w : Int} {s : Option Trip} (h : tr[i]? = some (w, s)) : w ∈ keys tr := List.mem_map.mpr ⟨(w, s), List.mem_of_getElem? h, rfl⟩
theorem keys_at {tr : Tree} {w : Int} (h : w ∈ keys tr) : ∃ (i : Nat) (s : Option Trip), tr[i]? = some (w, s) := by
  obtain ⟨⟨w', s⟩, hm, rfl⟩ := List.mem_map.mp h
  obtain ⟨i, hi⟩ := List.getElem?_of_mem hm
  exact ⟨i, s, hi⟩
structure Grown (ways : Int → List Trip) (first : Int) (tr : Tree) : Prop where
  head : tr[0]? = some (first, none)
  nodup : (keys tr).Nodup
  steps : ∀ (i : Nat) (w p b : Int) (al : Bool), tr[i]? = some (w, some (p, b, al)) → (w, b, al) ∈ ways p ∧ ∃ (j : Nat) (s : Option Trip), j < i ∧ tr[j]? = some (p, s)
  only : ∀ (i : Nat) (w : Int), tr[i]? = some (w, none) → i = 0
def Gone (ways : Int → List Trip) (tr : Tree) (d : Nat) : Prop := ∀ (j : Nat) (w : Int) (s : Option Trip), j < d → tr[j]? = some (w, s) → ∀ t ∈ ways w, t.1 ∈ keys tr
section
variable {ways : Int → List Trip} {first : Int} {tr : Tree}
theorem grown_one : Grown ways first [(first, none)] := by
  refine ⟨rfl, by simp [keys], fun i w p b al h => ?_, fun i w h => ?_⟩
  · cases i with
    | zero => simp at h
    | succ i => simp at h
  · cases i with
    | zero => rfl
    | succ i => simp at h
theorem at_snoc {tr : Tree} {x y : Int × Option Trip} {i : Nat} (h : (tr ++ [x])[i]? = some y) : tr[i]? = some y ∨ (i = tr.length ∧ y = x) := by
  rcases Nat.lt_or_ge i tr.length with c | c
  · rw [List.getElem?_append_left c] at h; exact .inl h
  · rw [List.getElem?_append_right c] at h
    have : i - tr.length = 0 := by
      rcases Nat.eq_zero_or_pos (i - tr.length) with z | z
      · exact z
      · rw [List.getElem?_eq_none (by simp; omega)] at h; cases h
    rw [this] at h
    simp at h
    exact .inr ⟨by omega, h.symm⟩
theorem snoc_at {tr : Tree} {x y : Int × Option Trip} {i : Nat} (h : tr[i]? = some y) : (tr ++ [x])[i]? = some y := by
  rw [List.getElem?_append_left (List.getElem?_eq_some_iff.mp h).1]; exact h
theorem Grown.snoc (g : Grown ways first tr) {w p b : Int} {al : Bool} {j : Nat} {s : Option Trip} (hp : tr[j]? = some (p, s)) (hw : (w, b, al) ∈ ways p) (hn : w ∉ keys tr) : Grown ways first (tr ++ [(w, some (p, b, al))]) := by
  have hj := (List.getElem?_eq_some_iff.mp hp).1
  refine ⟨snoc_at g.head, ?_, fun i w' p' b' al' h => ?_, fun i w' h => ?_⟩
  · rw [keys_snoc]
    refine List.nodup_append.mpr ⟨g.nodup, by simp, fun x hx y hy => ?_⟩
    rw [List.mem_singleton.mp hy]
    intro e
    exact hn (e ▸ hx)
  · rcases at_snoc h with z | ⟨rfl, z⟩
    · obtain ⟨h1, j', s', h2, h3⟩ := g.steps i w' p' b' al' z
      exact ⟨h1, j', s', h2, snoc_at h3⟩
    · cases z
      exact ⟨hw, j, s, hj, snoc_at hp⟩
  · rcases at_snoc h with z | ⟨rfl, z⟩
    · exact g.only i w' z
    · cases z
theorem Gone.snoc {d : Nat} (h : Gone ways tr d) (hd : d ≤ tr.length) (w : Int) (s : Option Trip) : Gone ways (tr ++ [(w, s)]) d := fun j w' s' hj e t ht => by
  rw [keys_snoc]
  refine List.mem_append_left _ ?_
  rcases at_snoc e with z | ⟨rfl, _⟩
  · exact h j w' s' hj z t ht
  · omega
theorem Gone.next {d : Nat} {w : Int} {s : Option Trip} (h : Gone ways tr d) (e : tr[d]? = some (w, s)) (all : ∀ t ∈ ways w, t.1 ∈ keys tr) : Gone ways tr (d + 1) := fun j w' s' hj e' t ht => by
  rcases Nat.lt_succ_iff_lt_or_eq.mp hj with z | rfl
  · exact h j w' s' z e' t ht
  · rw [e] at e'
    cases e'
    exact all t ht
inductive Hang (ways : Int → List Trip) (a : Int) : Int → Prop
  | refl : Hang ways a a
  | step {b c : Int} {t : Int} {al : Bool} : Hang ways a b → (c, t, al) ∈ ways b → Hang ways a c
theorem Hang.trans {a b c : Int} (h : Hang ways a b) (k : Hang ways b c) : Hang ways a c := by
  induction k with
  | refl => exact h
  | step _ e ih => exact .step ih e
def Both (ways : Int → List Trip) : Prop := ∀ (a b t : Int) (al : Bool), (b, t, al) ∈ ways a → (a, t, !al) ∈ ways b
theorem Hang.symm (hb : Both ways) {a b : Int} (h : Hang ways a b) : Hang ways b a := by
  induction h with
  | refl => exact .refl
  | step _ e ih => exact (Hang.step .refl (hb _ _ _ _ e)).trans ih
theorem Grown.hang (g : Grown ways first tr) : ∀ (i : Nat) (w : Int) (s : Option Trip), tr[i]? = some (w, s) → Hang ways first w := by
  intro i
  induction i using Nat.strongRecOn with
  | _ i ih =>
    intro w s h
    cases s with
    | none =>
      have := g.only i w h
      subst this
      rw [g.head] at h
      cases h
      exact .refl
    | some x =>
      obtain ⟨p, b, al⟩ := x
      obtain ⟨h1, j, s', h2, h3⟩ := g.steps i w p b al h
      exact .step (ih j h2 p s' h3) h1
theorem Grown.keys_iff (g : Grown ways first tr) (c : Gone ways tr tr.length) (w : Int) : w ∈ keys tr ↔ Hang ways first w := by
  constructor
  · intro h
    obtain ⟨i, s, hi⟩ := keys_at h
    exact g.hang i w s hi
  · intro h
    induction h with
    | refl => exact mem_keys g.head
    | step _ e ih =>
      obtain ⟨i, s, hi⟩ := keys_at ih
      exact c i _ s (List.getElem?_eq_some_iff.mp hi).1 hi _ e
theorem Grown.rg (g : Grown ways first tr) {n : Int} (h0 : 0 ≤ first ∧ first < n) (hw : ∀ a, ∀ t ∈ ways a, 0 ≤ t.1 ∧ t.1 < n) : ∀ w ∈ keys tr, 0 ≤ w ∧ w < n := by
  intro w h
  obtain ⟨i, s, hi⟩ := keys_at h
  have := g.hang i w s hi
  cases this with
  | refl => exact h0
  | step _ e => exact hw _ _ e
theorem len_le {ks : List Int} {n : Nat} (nd : ks.Nodup) (h : ∀ w ∈ ks, 0 ≤ w ∧ w < (n : Int)) : ks.length ≤ n := by
  have h1 := nd.length_le_of_subset (l₂ := (List.range n).map fun i : Nat => (i : Int)) (fun w hw => by
    obtain ⟨a, b⟩ := h w hw
    exact List.mem_map.mpr ⟨w.toNat, List.mem_range.mpr (by omega), by omega⟩)
  simpa using h1
end
structure Wood (ways : Int → List Trip) (n : Nat) (F : List (Int × Tree)) (i : Nat) : Prop where
  tree : ∀ x ∈ F, Grown ways x.1 x.2 ∧ Gone ways x.2 x.2.length ∧ 0 ≤ x.1 ∧ x.1 < (i : Int)
  all : ∀ w : Int, 0 ≤ w → w < (i : Int) → ∃ x ∈ F, w ∈ keys x.2
  rise : F.Pairwise fun x y => x.1 < y.1
  least : ∀ x ∈ F, ∀ w ∈ keys x.2, x.1 ≤ w
section
variable {ways : Int → List Trip} {n i : Nat} {F : List (Int × Tree)}
theorem wood_nil : Wood ways n [] 0 := ⟨by simp, fun w h0 h1 => by omega, .nil, by simp⟩
theorem Wood.skip (h : Wood ways n F i) (hi : ∃ x ∈ F, (i : Int) ∈ keys x.2) : Wood ways n F (i + 1) :=
  ⟨fun x hx => by obtain ⟨a, b, c, d⟩ := h.tree x hx; exact ⟨a, b, c, by omega⟩, fun w h0 h1 => by
    by_cases e : w = (i : Int)
    · rw [e]; exact hi
    · exact h.all w h0 (by omega), h.rise, h.least⟩
theorem Wood.grow (hb : Both ways) (hw : ∀ a, ∀ t ∈ ways a, 0 ≤ t.1 ∧ t.1 < (n : Int)) (hin : i < n) (h : Wood ways n F i) (hi : ∀ x ∈ F, (i : Int) ∉ keys x.2) {tr : Tree} (g : Grown ways i tr) (c : Gone ways tr tr.length) : Wood ways n (F ++ [((i : Int), tr)]) (i + 1) := by
  refine ⟨fun x hx => ?_, fun w h0 h1 => ?_, List.pairwise_append.mpr ⟨h.rise, by simp, fun x hx y hy => ?_⟩, fun x hx => ?_⟩
  · rcases List.mem_append.mp hx with z | z
    · obtain ⟨a, b, c, d⟩ := h.tree x z; exact ⟨a, b, c, by omega⟩
    · rw [List.mem_singleton.mp z]; exact ⟨g, c, by simp, by simp; omega⟩
  · by_cases e : w = (i : Int)
    · exact ⟨_, List.mem_append_right _ (List.mem_singleton.mpr rfl), by rw [e]; exact mem_keys g.head⟩
    · obtain ⟨x, hx, hk⟩ := h.all w h0 (by omega)
      exact ⟨x, List.mem_append_left _ hx, hk⟩
  · rw [List.mem_singleton.mp hy]; exact (h.tree x hx).2.2.2
  · rcases List.mem_append.mp hx with z | z
    · exact h.least x z
    · rw [List.mem_singleton.mp z]
      intro w hk
      rcases Int.lt_or_le w (i : Int) with y | y
      · exfalso
        have hr := g.rg ⟨by omega, by omega⟩ hw w hk
        obtain ⟨x', hx', hk'⟩ := h.all w hr.1 y
        obtain ⟨g', c', _, _⟩ := h.tree x' hx'
        have h1 := (g'.keys_iff c' w).mp hk'
        have h2 := ((g.keys_iff c w).mp hk).symm hb
        exact hi x' hx' ((g'.keys_iff c' _).mpr (h1.trans h2))
      · exact y
end
end Fo
namespace Pc
inductive Conn (E : List (Nat × Nat)) : Nat → Nat → Prop where
  | refl (a : Nat) : Conn E a a
  | fwd {a b c : Nat} : Conn E a b → (b, c) ∈ E → Conn E a c
  | bwd {a b c : Nat} : Conn E a b → (c, b) ∈ E → Conn E a c
theorem Conn.trans {E : List (Nat × Nat)} {a b c : Nat} (h : Conn E a b) (k : Conn E b c) : Conn E a c := by
  induction k with
  | refl => exact h
  | fwd _ e ih => exact .fwd ih e
  | bwd _ e ih => exact .bwd ih e
theorem Conn.symm {E : List (Nat × Nat)} {a b : Nat} (h : Conn E a b) : Conn E b a := by
  induction h with
  | refl => exact .refl _
  | fwd _ e ih => exact (Conn.bwd (.refl _) e).trans ih
  | bwd _ e ih => exact (Conn.fwd (.refl _) e).trans ih
theorem Conn.lt {E : List (Nat × Nat)} {n a b : Nat} (hE : ∀ e ∈ E, e.1 < n ∧ e.2 < n) (h : Conn E a b) (ha : a < n) : b < n := by
  induction h with
  | refl => exact ha
  | fwd _ e ih => exact (hE _ e).2
  | bwd _ e ih => exact (hE _ e).1
def step (l : Nat → Nat) (e : Nat × Nat) : Nat → Nat := fun w => if w = e.1 ∨ w = e.2 then min (l e.1) (l e.2) else l w
def lap (E : List (Nat × Nat)) (l : Nat → Nat) : Nat → Nat := E.foldl step l
def laps (E : List (Nat × Nat)) : Nat → (Nat → Nat) → Nat → Nat
  | 0, l => l
  | k + 1, l => lap E (laps E k l)
theorem step_le (l : Nat → Nat) (e : Nat × Nat) (w : Nat) : step l e w ≤ l w := by
  unfold step
  split
  · rename_i h
    rcases h with rfl | rfl
    · exact Nat.min_le_left _ _
    · exact Nat.min_le_right _ _
  · exact Nat.le_refl _
theorem foldl_le (F : List (Nat × Nat)) : ∀ (l : Nat → Nat) (w : Nat), F.foldl step l w ≤ l w := by
  induction F with
  | nil => intro l w; exact Nat.le_refl _
  | cons e F ih => intro l w; exact Nat.le_trans (ih (step l e) w) (step_le l e w)
theorem foldl_edge (F : List (Nat × Nat)) : ∀ (l : Nat → Nat) (e : Nat × Nat), e ∈ F → F.foldl step l e.1 ≤ l e.2 ∧ F.foldl step l e.2 ≤ l e.1 := by
  induction F with
  | nil => intro l e h; cases h
  | cons f F ih =>
    intro l e h
    rcases List.mem_cons.mp h with rfl | h
    · have a := foldl_le F (step l e) e.1
      have b := foldl_le F (step l e) e.2
      have c : step l e e.1 ≤ l e.2 := by unfold step; rw [if_pos (.inl rfl)]; exact Nat.min_le_right _ _
      have d : step l e e.2 ≤ l e.1 := by unfold step; rw [if_pos (.inr rfl)]; exact Nat.min_le_left _ _
      exact ⟨Nat.le_trans a c, Nat.le_trans b d⟩
    · have := ih (step l f) e h
      exact ⟨Nat.le_trans this.1 (step_le l f e.2), Nat.le_trans this.2 (step_le l f e.1)⟩
def Sound (E : List (Nat × Nat)) (l : Nat → Nat) : Prop := ∀ w, Conn E w (l w)
theorem step_sound {E : List (Nat × Nat)} {l : Nat → Nat} {e : Nat × Nat} (h : Sound E l) (he : e ∈ E) : Sound E (step l e) := by
  intro w
  unfold step
  split
  · rename_i hw
    have ab : Conn E e.1 e.2 := .fwd (.refl _) he
    have wa : Conn E w e.1 := by
      rcases hw with rfl | rfl
      · exact .refl _
      · exact ab.symm
    rcases Nat.le_total (l e.1) (l e.2) with q | q
    · rw [Nat.min_eq_left q]; exact wa.trans (h e.1)
    · rw [Nat.min_eq_right q]; exact (wa.trans ab).trans (h e.2)
  · exact h w
theorem foldl_sound {E : List (Nat × Nat)} (F : List (Nat × Nat)) : ∀ (l : Nat → Nat), Sound E l → (∀ e ∈ F, e ∈ E) → Sound E (F.foldl step l) := by
  induction F with
  | nil => intro l h _; exact h
  | cons e F ih => intro l h k; exact ih _ (step_sound h (k e List.mem_cons_self)) fun x hx => k x (List.mem_cons_of_mem _ hx)
theorem laps_sound {E : List (Nat × Nat)} {l : Nat → Nat} (h : Sound E l) : ∀ k, Sound E (laps E k l)
  | 0 => h
  | k + 1 => foldl_sound E _ (laps_sound h k) fun _ x => x
theorem count_lt {p q : Nat → Bool} : ∀ {xs : List Nat} {a : Nat}, (∀ x ∈ xs, p x = true → q x = true) → a ∈ xs → p a = false → q a = true → xs.countP p + 1 ≤ xs.countP q
  | [], _, _, h, _, _ => by cases h
  | x :: xs, a, s, h, pa, qa => by
    have mono : xs.countP p ≤ xs.countP q := List.countP_mono_left fun y hy => s y (List.mem_cons_of_mem _ hy)
    rw [List.countP_cons, List.countP_cons]
    rcases List.mem_cons.mp h with rfl | h'
    · rw [pa, qa]; simp; omega
    · have ih := count_lt (fun y hy => s y (List.mem_cons_of_mem _ hy)) h' pa qa
      by_cases px : p x = true
      · rw [px, s x List.mem_cons_self px]; simp; omega
      · have px' : p x = false := by simpa using px
        rw [px']; simp; omega
theorem leaves {E : List (Nat × Nat)} {m w : Nat} {p : Nat → Bool} (h : Conn E m w) (hm : p m = true) (hw : p w = false) :
    ∃ a b, Conn E m a ∧ p a = true ∧ p b = false ∧ ((a, b) ∈ E ∨ (b, a) ∈ E) := by
  induction h with
  | refl => rw [hm] at hw; cases hw
  | @fwd b c hb e ih =>
    by_cases q : p b = true
    · exact ⟨b, c, hb, q, hw, .inl e⟩
    · exact ih (by simpa using q)
  | @bwd b c hb e ih =>
    by_cases q : p b = true
    · exact ⟨b, c, hb, q, hw, .inr e⟩
    · exact ih (by simpa using q)
theorem reach {E : List (Nat × Nat)} {n m : Nat} (hE : ∀ e ∈ E, e.1 < n ∧ e.2 < n) (hm : m < n) (least : ∀ v, Conn E m v → m ≤ v) :
    ∀ k, (∀ w, Conn E m w → laps E k (fun i => i) w = m) ∨ k + 1 ≤ (List.range n).countP (fun w => laps E k (fun i => i) w == m)
  | 0 => by
    right
    show 0 + 1 ≤ (List.range n).countP (fun w => w == m)
    exact List.countP_pos_iff.mpr ⟨m, List.mem_range.mpr hm, by simp⟩
  | k + 1 => by
    have snd : Sound E (laps E k (fun i => i)) := laps_sound (fun w => .refl w) k
    have snd' : Sound E (laps E (k + 1) (fun i => i)) := laps_sound (fun w => .refl w) (k + 1)
    have down : ∀ w, laps E (k + 1) (fun i => i) w ≤ laps E k (fun i => i) w := fun w => foldl_le E _ w
    have stays : ∀ w, Conn E m w → laps E k (fun i => i) w = m → laps E (k + 1) (fun i => i) w = m := fun w hw e => by
      have a := down w
      have b := least _ (hw.trans (snd' w))
      omega
    have self : ∀ k, laps E k (fun i => i) m = m := fun k => by
      have s2 : Sound E (laps E k (fun i => i)) := laps_sound (fun w => .refl w) k
      have b := least _ (s2 m)
      have c : ∀ j, laps E j (fun i => i) m ≤ m := fun j => by
        induction j with
        | zero => exact Nat.le_refl _
        | succ j ih => exact Nat.le_trans (foldl_le E _ m) ih
      have := c k
      omega
    rcases reach hE hm least k with h | h
    · left
      exact fun w hw => stays w hw (h w hw)
    · by_cases all : ∀ w, Conn E m w → laps E k (fun i => i) w = m
      · left
        exact fun w hw => stays w hw (all w hw)
      · right
        obtain ⟨w, hw⟩ := Classical.not_forall.mp all
        obtain ⟨cw, nw⟩ := Classical.not_imp.mp hw
        obtain ⟨a, b, ca, pa, pb, e⟩ := leaves (p := fun w => laps E k (fun i => i) w == m) cw (by simp [self k]) (by simpa using nw)
        have pa' : laps E k (fun i => i) a = m := by simpa using pa
        have cb : Conn E m b := by
          rcases e with e | e
          · exact .fwd ca e
          · exact .bwd ca e
        have nb : laps E (k + 1) (fun i => i) b = m := by
          have l1 := least _ (cb.trans (snd' b))
          have l2 : laps E (k + 1) (fun i => i) b ≤ laps E k (fun i => i) a := by
            rcases e with e | e
            · exact (foldl_edge E _ (a, b) e).2
            · exact (foldl_edge E _ (b, a) e).1
          omega
        have hb : b < n := cb.lt hE hm
        have := count_lt (p := fun w => laps E k (fun i => i) w == m) (q := fun w => laps E (k + 1) (fun i => i) w == m) (xs := List.range n) (a := b)
          (fun x hx px => ?_) (List.mem_range.mpr hb) pb (by simp [nb])
        · omega
        · have px' : laps E k (fun i => i) x = m := by simpa using px
          have cx : Conn E m x := by have := snd x; rw [px'] at this; exact this.symm
          simp [stays x cx px']
theorem has_least {E : List (Nat × Nat)} : ∀ (k w : Nat), w ≤ k → ∃ m, Conn E w m ∧ ∀ v, Conn E w v → m ≤ v
  | 0, w, h => ⟨w, .refl w, fun v _ => by omega⟩
  | k + 1, w, h => by
    by_cases q : ∃ v, Conn E w v ∧ v < w
    · obtain ⟨v, cv, lv⟩ := q
      obtain ⟨m, cm, lm⟩ := has_least (E := E) k v (by omega)
      exact ⟨m, cv.trans cm, fun u cu => lm u (cv.symm.trans cu)⟩
    · exact ⟨w, .refl w, fun v cv => by
        by_cases hv : v < w
        · exact absurd ⟨v, cv, hv⟩ q
        · omega⟩
theorem laps_least {E : List (Nat × Nat)} {n : Nat} (hE : ∀ e ∈ E, e.1 < n ∧ e.2 < n) {w : Nat} (hw : w < n) :
    Conn E w (laps E n (fun i => i) w) ∧ ∀ v, Conn E w v → laps E n (fun i => i) w ≤ v := by
  obtain ⟨m, cm, lm⟩ := has_least (E := E) w w (Nat.le_refl _)
  have hm : m < n := cm.lt hE hw
  have least : ∀ v, Conn E m v → m ≤ v := fun v cv => lm v (cm.trans cv)
  rcases reach hE hm least n with h | h
  · have e := h w cm.symm
    rw [e]
    exact ⟨cm, lm⟩
  · have := List.countP_le_length (p := fun w => laps E n (fun i => i) w == m) (l := List.range n)
    rw [List.length_range] at this
    omega
end Pc
set_option Elab.async false
set_option linter.all false
set_option maxRecDepth 100000
set_option maxHeartbeats 4000000
local macro_rules | `(tactic| walk_at "mul") => `(tactic| k_dflt (first | with_reducible assumption | exact L2.CMul.ok (Or.inr ⟨by omega, by omega⟩) | exact L2.CMul.ok (Or.inl ⟨by omega, by omega⟩)))
local macro_rules | `(tactic| walk_at "lk") => `(tactic| first | exact L2.Rd.lk0 | exact L2.Rd.lkN | (refine L2.Rd.lk1 (by decide +kernel) ?_; walk_at "lk"))
local macro_rules | `(tactic| walk_at "pf") => `(tactic| first | exact L2.Rd.pf0 | exact L2.Rd.pfN | (apply L2.Rd.pf1; (decide +kernel); walk_at "pf"))
local macro_rules | `(tactic| walk_at "na") => `(tactic| exact L2.NoAttrs.get (by with_reducible assumption) (by decide +kernel))
local macro_rules | `(tactic| walk_at "cond") => `(tactic| k_dflt (first | with_reducible assumption | decide | omega | (simp; done) | (simp only [List.length_cons, List.length_nil, List.length_map, List.length_append]; omega)))
local macro_rules | `(tactic| walk_at "rdis") => `(tactic| ((with_reducible show ∃ x n t b, _ = _ ∧ L2.TyOf _ _ x t ∧ _); first | with_reducible apply L2.Rd.is_int_int | with_reducible apply L2.Rd.is_int_bool | with_reducible apply L2.Rd.is_int_str | with_reducible apply L2.Rd.is_int_list | with_reducible apply L2.Rd.is_int_tuple | with_reducible apply L2.Rd.is_int_dict | with_reducible apply L2.Rd.is_bl_int | with_reducible apply L2.Rd.is_bl_bool | with_reducible apply L2.Rd.is_bl_str | with_reducible apply L2.Rd.is_bl_list | with_reducible apply L2.Rd.is_bl_tuple | with_reducible apply L2.Rd.is_bl_dict | with_reducible apply L2.Rd.is_str_int | with_reducible apply L2.Rd.is_str_bool | with_reducible apply L2.Rd.is_str_str | with_reducible apply L2.Rd.is_str_list | with_reducible apply L2.Rd.is_str_tuple | with_reducible apply L2.Rd.is_str_dict | with_reducible apply L2.Rd.is_non_int | with_reducible apply L2.Rd.is_non_bool | with_reducible apply L2.Rd.is_non_str | with_reducible apply L2.Rd.is_non_list | with_reducible apply L2.Rd.is_non_tuple | with_reducible apply L2.Rd.is_non_dict | with_reducible refine L2.Rd.is_lst_int (by with_reducible assumption) ?_ | with_reducible refine L2.Rd.is_lst_bool (by with_reducible assumption) ?_ | with_reducible refine L2.Rd.is_lst_str (by with_reducible assumption) ?_ | with_reducible refine L2.Rd.is_lst_list (by with_reducible assumption) ?_ | with_reducible refine L2.Rd.is_lst_tuple (by with_reducible assumption) ?_ | with_reducible refine L2.Rd.is_lst_dict (by with_reducible assumption) ?_ | with_reducible refine L2.Rd.is_tup_int (by with_reducible assumption) ?_ | with_reducible refine L2.Rd.is_tup_bool (by with_reducible assumption) ?_ | with_reducible refine L2.Rd.is_tup_str (by with_reducible assumption) ?_ | with_reducible refine L2.Rd.is_tup_list (by with_reducible assumption) ?_ | with_reducible refine L2.Rd.is_tup_tuple (by with_reducible assumption) ?_ | with_reducible refine L2.Rd.is_tup_dict (by with_reducible assumption) ?_ | with_reducible refine L2.Rd.is_dK_int (by with_reducible assumption) ?_ | with_reducible refine L2.Rd.is_dK_bool (by with_reducible assumption) ?_ | with_reducible refine L2.Rd.is_dK_str (by with_reducible assumption) ?_ | with_reducible refine L2.Rd.is_dK_list (by with_reducible assumption) ?_ | with_reducible refine L2.Rd.is_dK_tuple (by with_reducible assumption) ?_ | with_reducible refine L2.Rd.is_dK_dict (by with_reducible assumption) ?_))
local macro_rules | `(tactic| walk_at "side") => `(tactic| k_dflt (first | with_reducible assumption | decide | (dsimp only; decide) | (dsimp only [L2.CPow]; decide) | omega | (dsimp only; omega)))
local macro_rules | `(tactic| walk_at "hp") => `(tactic| with_reducible (first | assumption | ((show L2.SqL _ _ _ _); (first | exact L2.SqL.of (by assumption) | exact L2.OffL.sq (by assumption) | exact L2.Same.seq (by assumption) (by assumption))) | ((show L2.SqT _ _ _ _); (first | exact L2.SqT.of (by assumption) | exact L2.OffT.sq (by assumption) | exact L2.Same.seqT (by assumption) (by assumption)))))
local macro_rules | `(tactic| walk_at "rd") => `(tactic| first
  | with_reducible apply L2.Rd.seq | with_reducible apply L2.Rd.asg | with_reducible apply L2.Rd.ret | with_reducible apply L2.Rd.ifs | with_reducible apply L2.Rd.next | with_reducible apply L2.Rd.drop
  | with_reducible apply L2.Rd.op | with_reducible apply L2.Rd.un | with_reducible apply L2.Rd.test | with_reducible apply L2.Rd.con | ((with_reducible show L2.tVar _ _ _ _); with_reducible refine L2.Rd.var (by k_dflt rfl) ?_) | ((with_reducible show L2.gName _ _ _ _ _); with_reducible refine L2.Rd.nameS (by k_dflt (dsimp only [L2.start, List.map_cons, List.map_nil, List.cons_append, List.nil_append, List.length_cons, List.length_nil, Nat.reduceAdd, Nat.reduceSub, List.replicate, List.set]; (try rfl))) ?_) | with_reducible apply L2.Rd.name
  | with_reducible apply L2.Rd.call | with_reducible apply L2.Rd.cons | with_reducible apply L2.Rd.nil | with_reducible apply L2.Rd.cb | with_reducible apply L2.Rd.tup | with_reducible apply L2.Rd.lst
  | with_reducible apply L2.Rd.and_ | with_reducible apply L2.Rd.or_ | with_reducible apply L2.Rd.not_ | with_reducible apply L2.Rd.andV | with_reducible apply L2.Rd.orV | with_reducible apply L2.Rd.notV
  | with_reducible apply L2.Rd.par | with_reducible apply L2.Rd.i0 | ((with_reducible show L2.rI _ _ _ _ _ _); with_reducible refine L2.Rd.iC (by walk_at "side") ?_) | with_reducible apply L2.Rd.bl | with_reducible apply L2.Rd.two
  | with_reducible apply L2.Rd.addI | ((with_reducible show L2.rOr L2.rMulI _ _ _ _ _); with_reducible refine L2.Rd.mulI (by walk_at "mul") ?_) | with_reducible apply L2.Rd.eqUI | with_reducible apply L2.Rd.neUI | with_reducible apply L2.Rd.eqUS | with_reducible apply L2.Rd.neUS | with_reducible apply L2.Rd.eqUB | with_reducible apply L2.Rd.neUB
  | with_reducible refine L2.Rd.addS (by walk_at "side") ?_
  | ((with_reducible show L2.rIx _ _ _ _ _); with_reducible refine L2.Rd.ixuT (by walk_at "hp") (by k_dflt rfl) ?_) | ((with_reducible show L2.rIx _ _ _ _ _); with_reducible refine L2.Rd.ixuL (by walk_at "hp") (by k_dflt (first | rfl | with_reducible assumption)) ?_)
  | with_reducible apply L2.Rd.un1 | with_reducible refine L2.Rd.ilist2 (by walk_at "hp") ?_ | with_reducible refine L2.Rd.rng1' (by k_dflt omega) (by k_dflt omega) ?_ | with_reducible refine L2.Rd.rng2' (by k_dflt omega) ?_ | with_reducible apply L2.Rd.min2
  | ((with_reducible show ∃ x n, _ = _ ∧ L2.LenV _ x _ n ∧ _); with_reducible refine L2.Rd.lenT' (by walk_at "hp") ?_) | ((with_reducible show ∃ x n, _ = _ ∧ L2.LenV _ x _ n ∧ _); with_reducible refine L2.Rd.lenL (by walk_at "hp") ?_) | ((with_reducible show ∃ x n, _ = _ ∧ L2.LenV _ x _ n ∧ _); with_reducible refine L2.Rd.lenS (by walk_at "side") ?_)
  | walk_at "rdis"
  | with_reducible apply L2.Rd.truB | with_reducible apply L2.Rd.tru | with_reducible apply L2.Rd.rlen | with_reducible apply L2.Rd.risi | with_reducible apply L2.Rd.rall
  | with_reducible apply L2.Rd.bm | with_reducible apply L2.Rd.bm0 | ((with_reducible show L2.tyV _ _ _ _ ∧ _); with_reducible refine L2.Rd.tyl (by with_reducible assumption) ?_) | ((with_reducible show L2.rAppend _ _ _ _); with_reducible refine L2.Rd.app (by with_reducible assumption) (by walk_at "side") ?_)
  | with_reducible apply L2.iteT | with_reducible apply L2.iteF | with_reducible apply L2.Rd.iteNT | with_reducible apply L2.Rd.iteNF
  | ((with_reducible show if decide _ = true then _ else _); with_reducible refine L2.Rd.ifP (by walk_at "cond") ?_) | ((with_reducible show if decide _ = true then _ else _); with_reducible refine L2.Rd.ifN (by walk_at "cond") ?_) | ((with_reducible show if (!decide _) = true then _ else _); with_reducible refine L2.Rd.ifNP (by walk_at "cond") ?_) | ((with_reducible show if (!decide _) = true then _ else _); with_reducible refine L2.Rd.ifNN (by walk_at "cond") ?_)
  | with_reducible apply L2.Rd.sl | with_reducible apply L2.Rd.noPart | with_reducible apply L2.Rd.part | with_reducible apply L2.Rd.partI | ((with_reducible show L2.rSlU _ _ _ _ _ _); with_reducible refine L2.Rd.slS (by walk_at "side") ?_)
  | with_reducible apply L2.Rd.fldE | with_reducible refine L2.Rd.fld (by with_reducible assumption) (by with_reducible assumption) (by k_dflt (walk_at "na")) (by k_dflt (walk_at "lk")) ?_
  | ((with_reducible show L2.tMethJ _ _ _ _ _ _ _ _ _ _ _); with_reducible refine L2.Rd.methJ (by k_dflt rfl) ?_) | ((with_reducible show L2.tCallJ _ _ _ _ _ _ _ _); with_reducible refine L2.Rd.callJ (by k_dflt rfl) ?_) | ((with_reducible show L2.tMakeJ _ _ _ _ _ _ _ _ _); with_reducible refine L2.Rd.makeJ (by k_dflt rfl) ?_)
  | with_reducible apply L2.Rd.gsub | ((with_reducible show L2.rSetL _ _ _ _ _); with_reducible refine L2.Rd.setL (by with_reducible assumption) (by k_dflt omega) (by walk_at "cond") ?_)
  | with_reducible apply L2.Rd.methE | with_reducible refine L2.Rd.meth (by with_reducible assumption) (by k_dflt (walk_at "lk")) ?_ | with_reducible apply L2.Rd.makeE
  | with_reducible apply L2.Rd.sfld | with_reducible refine L2.Rd.sfld3 (by with_reducible (first | assumption | exact L2.upd_same)) (by with_reducible assumption) (by k_dflt (walk_at "na")) (by k_dflt (simp only [List.length_cons, List.length_nil]; decide)) (by k_dflt (walk_at "pf")) ?_
  | with_reducible apply L2.Rd.raise | with_reducible apply L2.Rd.raise2 | with_reducible apply L2.Rd.ilist | with_reducible apply L2.Rd.istr | with_reducible apply L2.Rd.istr2 | with_reducible apply L2.Rd.all_
  | with_reducible apply L2.Rd.compE | ((with_reducible show L2.rIn _ _ _ _ _ _); with_reducible refine L2.Rd.inS (by walk_at "hp") ?_) | ((with_reducible show L2.rIn _ _ _ _ _ _); with_reducible refine L2.Rd.ninS (by walk_at "hp") ?_) | ((with_reducible show L2.rIn _ _ _ _ _ _); with_reducible refine L2.Rd.inI (by walk_at "hp") ?_) | ((with_reducible show L2.rIn _ _ _ _ _ _); with_reducible refine L2.Rd.ninI (by walk_at "hp") ?_)
  | with_reducible refine L2.Rd.allB (by walk_at "hp") ?_ | with_reducible apply L2.Rd.leS | with_reducible apply L2.Rd.chain
  | ((with_reducible show if (!(_ == _)) = true then _ else _); first | refine L2.Rd.iteNT ?_ | refine L2.Rd.iteNF ?_) | ((with_reducible show if (_ == _) = true then _ else _); first | refine L2.iteT ?_ | refine L2.iteF ?_)
  | with_reducible apply L2.Rd.compNE | with_reducible apply L2.Rd.ienum | ((with_reducible show ∃ a, _ = _ ∧ (∃ xs, L2.SqL _ _ a xs) ∧ _); with_reducible refine L2.Rd.ienum2 (by walk_at "hp") ?_) | with_reducible apply L2.Rd.dnew
  | ((with_reducible show L2.rDIn _ _ _ _); first | with_reducible refine L2.Rd.dinS (by with_reducible assumption) ?_ | with_reducible refine L2.Rd.dinI (by with_reducible assumption) ?_) | ((with_reducible show L2.rDNotIn _ _ _ _); first | with_reducible refine L2.Rd.dninS (by with_reducible assumption) ?_ | with_reducible refine L2.Rd.dninI (by with_reducible assumption) ?_)
  | ((with_reducible show L2.rIxD _ _ _ _); first | with_reducible refine L2.Rd.dgetS (by with_reducible assumption) (by with_reducible assumption) ?_ | with_reducible refine L2.Rd.dgetI (by with_reducible assumption) (by with_reducible assumption) ?_)
  | ((with_reducible show L2.rSetD _ _ _ _ _); first | with_reducible refine L2.Rd.dsetS (by with_reducible assumption) (by walk_at "side") ?_ | with_reducible refine L2.Rd.dsetI (by with_reducible assumption) (by walk_at "side") ?_)
  | ((with_reducible show L2.rLenD _ _ _); with_reducible refine L2.Rd.dlen (by with_reducible assumption) ?_) | ((with_reducible show L2.rListD _ _ _); with_reducible refine L2.Rd.dlist (by with_reducible assumption) ?_)
  | with_reducible apply L2.Rd.augS | with_reducible apply L2.Rd.ipi | ((with_reducible show L2.rIxL _ _ _ _ _); with_reducible refine L2.Rd.ixl (by walk_at "hp") (by k_dflt (first | rfl | with_reducible assumption)) ?_)
  | with_reducible apply L2.Rd.tb_ | with_reducible apply L2.Rd.for_ | with_reducible apply L2.Rd.rng1 | with_reducible apply L2.Rd.rng2 | with_reducible apply L2.Rd.gnil | with_reducible apply L2.Rd.gcons)
local macro_rules | `(tactic| walk_at "rds") => `(tactic| repeat' (walk_at "rd"))
namespace Nm
open PySem L2
def top (i : Nat) : Stmt := PySem.Challenge.pw_ratehall_k05_pieces.main.body.getD i (.Pass ⟨0, 0, 0, 0⟩)
abbrev s_l_names : Stmt := top 28
abbrev s_l_cell : Stmt := top 26
abbrev s_l_mixed : Stmt := top 27
abbrev s_Hall_belts : Stmt := inClass (top 23) 7
abbrev s_Hall_names : Stmt := inClass (top 23) 5
abbrev s_ways_of : Stmt := top 4
abbrev s_tree_from : Stmt := top 5
abbrev s_forest_of : Stmt := top 3
abbrev s_pieces_of : Stmt := top 2
abbrev s_l_due : Stmt := top 29
abbrev s_l_asked : Stmt := top 30
abbrev s_is_name : Stmt := top 15
abbrev s_Hall_work : Stmt := inClass (top 23) 1
abbrev s_l_built : Stmt := top 31
abbrev s_is_whole : Stmt := top 17
abbrev s_is_from : Stmt := top 18
abbrev s_need_start : Stmt := top 24
abbrev s_is_number_below : Stmt := top 19
abbrev s_Hall_need_work : Stmt := inClass (top 23) 11
abbrev s_Hall_lay : Stmt := inClass (top 23) 3
abbrev s_Hall_belt : Stmt := inClass (top 23) 2
abbrev s_Hall_init : Stmt := inClass (top 23) 0
abbrev s_law : Stmt := top 32
theorem sc_l_names : FnScope ["_law_cell_here", "_law_many", "_law_letters", "_law_word", "_law_k", "_law_at", "_law_names_here", "_law_sign"] ["_law_cell_here", "_law_many"] (defScope s_l_names) := ⟨rfl, rfl, rfl, by decide +kernel, rfl, by decide +kernel, by decide +kernel⟩
theorem sc_l_cell : FnScope ["_law_script", "_law_k"] ["_law_script", "_law_k"] (defScope s_l_cell) := ⟨rfl, rfl, rfl, by decide +kernel, rfl, by decide +kernel, by decide +kernel⟩
theorem sc_l_mixed : FnScope ["_law_script", "_law_k"] ["_law_script", "_law_k"] (defScope s_l_mixed) := ⟨rfl, rfl, rfl, by decide +kernel, rfl, by decide +kernel, by decide +kernel⟩
theorem sc_Hall_belts : FnScope ["self"] ["self"] (defScope s_Hall_belts) := ⟨rfl, rfl, rfl, by decide +kernel, rfl, by decide +kernel, by decide +kernel⟩
theorem sc_Hall_names : FnScope ["self"] ["self"] (defScope s_Hall_names) := ⟨rfl, rfl, rfl, by decide +kernel, rfl, by decide +kernel, by decide +kernel⟩
theorem sc_ways_of : FnScope ["hall", "ways", "belt", "row"] ["hall"] (defScope s_ways_of) := ⟨rfl, rfl, rfl, by decide +kernel, rfl, by decide +kernel, by decide +kernel⟩
theorem sc_tree_from : FnScope ["ways", "first", "tree", "reached", "done", "work", "other", "belt", "along"] ["ways", "first"] (defScope s_tree_from) := ⟨rfl, rfl, rfl, by decide +kernel, rfl, by decide +kernel, by decide +kernel⟩
theorem sc_forest_of : FnScope ["hall", "ways", "seen", "forest", "work", "tree"] ["hall"] (defScope s_forest_of) := ⟨rfl, rfl, rfl, by decide +kernel, rfl, by decide +kernel, by decide +kernel⟩
theorem sc_pieces_of : FnScope ["hall"] ["hall"] (defScope s_pieces_of) := ⟨rfl, rfl, rfl, by decide +kernel, rfl, by decide +kernel, by decide +kernel⟩
theorem sc_l_due : FnScope ["_law_lines", "_law_many", "_law_labels", "_law_lap", "_law_giver", "_law_taker", "_law_low", "_law_told", "_law_first", "_law_piece"] ["_law_lines", "_law_many"] (defScope s_l_due) := ⟨rfl, rfl, rfl, by decide +kernel, rfl, by decide +kernel, by decide +kernel⟩
theorem sc_l_asked : FnScope ["_law_hall", "_law_lines", "_law_many", "_law_found", "_law_piece", "_law_work"] ["_law_hall", "_law_lines", "_law_many"] (defScope s_l_asked) := ⟨rfl, rfl, rfl, by decide +kernel, rfl, by decide +kernel, by decide +kernel⟩
theorem sc_is_name : FnScope ["thing"] ["thing"] (defScope s_is_name) := ⟨rfl, rfl, rfl, by decide +kernel, rfl, by decide +kernel, by decide +kernel⟩
theorem sc_Hall_work : FnScope ["self", "name", "number"] ["self", "name"] (defScope s_Hall_work) := ⟨rfl, rfl, rfl, by decide +kernel, rfl, by decide +kernel, by decide +kernel⟩
theorem sc_l_built : FnScope ["_law_script", "_law_hall", "_law_names_here", "_law_many", "_law_k"] ["_law_script", "_law_hall", "_law_names_here", "_law_many"] (defScope s_l_built) := ⟨rfl, rfl, rfl, by decide +kernel, rfl, by decide +kernel, by decide +kernel⟩
theorem sc_is_whole : FnScope ["thing"] ["thing"] (defScope s_is_whole) := ⟨rfl, rfl, rfl, by decide +kernel, rfl, by decide +kernel, by decide +kernel⟩
theorem sc_is_from : FnScope ["thing", "least"] ["thing", "least"] (defScope s_is_from) := ⟨rfl, rfl, rfl, by decide +kernel, rfl, by decide +kernel, by decide +kernel⟩
theorem sc_need_start : FnScope ["start"] ["start"] (defScope s_need_start) := ⟨rfl, rfl, rfl, by decide +kernel, rfl, by decide +kernel, by decide +kernel⟩
theorem sc_is_number_below : FnScope ["thing", "bound"] ["thing", "bound"] (defScope s_is_number_below) := ⟨rfl, rfl, rfl, by decide +kernel, rfl, by decide +kernel, by decide +kernel⟩
theorem sc_Hall_need_work : FnScope ["self", "work"] ["self", "work"] (defScope s_Hall_need_work) := ⟨rfl, rfl, rfl, by decide +kernel, rfl, by decide +kernel, by decide +kernel⟩
theorem sc_Hall_lay : FnScope ["self", "row"] ["self", "row"] (defScope s_Hall_lay) := ⟨rfl, rfl, rfl, by decide +kernel, rfl, by decide +kernel, by decide +kernel⟩
theorem sc_Hall_belt : FnScope ["self", "giver", "taker", "give", "take", "start"] ["self", "giver", "taker", "give", "take", "start"] (defScope s_Hall_belt) := ⟨rfl, rfl, rfl, by decide +kernel, rfl, by decide +kernel, by decide +kernel⟩
theorem sc_Hall_init : FnScope ["self"] ["self"] (defScope s_Hall_init) := ⟨rfl, rfl, rfl, by decide +kernel, rfl, by decide +kernel, by decide +kernel⟩
theorem sc_law : FnScope ["_law_script", "_law_many", "_law_belts", "_law_hall", "_law_names_here", "_law_there", "_law_reach", "_law_lines", "_law_k", "_law_mixed_here", "_law_give", "_law_start"] ["_law_script"] (defScope s_law) := ⟨rfl, rfl, rfl, by decide +kernel, rfl, by decide +kernel, by decide +kernel⟩
set_option genInjectivity false in
set_option genSizeOf false in
structure Tp (K : PySem.W.Frag) (mg : Str → Option Value) where
  f_l_names : Addr
  d_l_names : FuncData
  F_l_names : Fun K "_law_names" "_law_names" s_l_names f_l_names d_l_names
  b_l_names : Binds K d_l_names ["_law_cell_here", "_law_many"] []
  m_l_names : mg "_law_names" = some (.ref f_l_names)
  f_l_cell : Addr
  d_l_cell : FuncData
  F_l_cell : Fun K "_law_cell" "_law_cell" s_l_cell f_l_cell d_l_cell
  b_l_cell : Binds K d_l_cell ["_law_script", "_law_k"] []
  m_l_cell : mg "_law_cell" = some (.ref f_l_cell)
  f_l_mixed : Addr
  d_l_mixed : FuncData
  F_l_mixed : Fun K "_law_mixed" "_law_mixed" s_l_mixed f_l_mixed d_l_mixed
  b_l_mixed : Binds K d_l_mixed ["_law_script", "_law_k"] []
  m_l_mixed : mg "_law_mixed" = some (.ref f_l_mixed)
  f_Hall_belts : Addr
  d_Hall_belts : FuncData
  F_Hall_belts : Fun K "belts" "Hall.belts" s_Hall_belts f_Hall_belts d_Hall_belts
  b_Hall_belts : Binds K d_Hall_belts ["self"] []
  f_Hall_names : Addr
  d_Hall_names : FuncData
  F_Hall_names : Fun K "names" "Hall.names" s_Hall_names f_Hall_names d_Hall_names
  b_Hall_names : Binds K d_Hall_names ["self"] []
  f_ways_of : Addr
  d_ways_of : FuncData
  F_ways_of : Fun K "ways_of" "ways_of" s_ways_of f_ways_of d_ways_of
  b_ways_of : Binds K d_ways_of ["hall"] []
  m_ways_of : mg "ways_of" = some (.ref f_ways_of)
  f_tree_from : Addr
  d_tree_from : FuncData
  F_tree_from : Fun K "tree_from" "tree_from" s_tree_from f_tree_from d_tree_from
  b_tree_from : Binds K d_tree_from ["ways", "first"] []
  m_tree_from : mg "tree_from" = some (.ref f_tree_from)
  f_forest_of : Addr
  d_forest_of : FuncData
  F_forest_of : Fun K "forest_of" "forest_of" s_forest_of f_forest_of d_forest_of
  b_forest_of : Binds K d_forest_of ["hall"] []
  m_forest_of : mg "forest_of" = some (.ref f_forest_of)
  f_pieces_of : Addr
  d_pieces_of : FuncData
  F_pieces_of : Fun K "pieces_of" "pieces_of" s_pieces_of f_pieces_of d_pieces_of
  b_pieces_of : Binds K d_pieces_of ["hall"] []
  m_pieces_of : mg "pieces_of" = some (.ref f_pieces_of)
  f_l_due : Addr
  d_l_due : FuncData
  F_l_due : Fun K "_law_due" "_law_due" s_l_due f_l_due d_l_due
  b_l_due : Binds K d_l_due ["_law_lines", "_law_many"] []
  m_l_due : mg "_law_due" = some (.ref f_l_due)
  f_l_asked : Addr
  d_l_asked : FuncData
  F_l_asked : Fun K "_law_asked" "_law_asked" s_l_asked f_l_asked d_l_asked
  b_l_asked : Binds K d_l_asked ["_law_hall", "_law_lines", "_law_many"] []
  m_l_asked : mg "_law_asked" = some (.ref f_l_asked)
  f_is_name : Addr
  d_is_name : FuncData
  F_is_name : Fun K "is_name" "is_name" s_is_name f_is_name d_is_name
  b_is_name : Binds K d_is_name ["thing"] []
  m_is_name : mg "is_name" = some (.ref f_is_name)
  f_Hall_work : Addr
  d_Hall_work : FuncData
  F_Hall_work : Fun K "work" "Hall.work" s_Hall_work f_Hall_work d_Hall_work
  b_Hall_work : Binds K d_Hall_work ["self", "name"] []
  f_l_built : Addr
  d_l_built : FuncData
  F_l_built : Fun K "_law_built" "_law_built" s_l_built f_l_built d_l_built
  b_l_built : Binds K d_l_built ["_law_script", "_law_hall", "_law_names_here", "_law_many"] []
  m_l_built : mg "_law_built" = some (.ref f_l_built)
  f_is_whole : Addr
  d_is_whole : FuncData
  F_is_whole : Fun K "is_whole" "is_whole" s_is_whole f_is_whole d_is_whole
  b_is_whole : Binds K d_is_whole ["thing"] []
  m_is_whole : mg "is_whole" = some (.ref f_is_whole)
  f_is_from : Addr
  d_is_from : FuncData
  F_is_from : Fun K "is_from" "is_from" s_is_from f_is_from d_is_from
  b_is_from : Binds K d_is_from ["thing", "least"] []
  m_is_from : mg "is_from" = some (.ref f_is_from)
  f_need_start : Addr
  d_need_start : FuncData
  F_need_start : Fun K "need_start" "need_start" s_need_start f_need_start d_need_start
  b_need_start : Binds K d_need_start ["start"] []
  m_need_start : mg "need_start" = some (.ref f_need_start)
  f_is_number_below : Addr
  d_is_number_below : FuncData
  F_is_number_below : Fun K "is_number_below" "is_number_below" s_is_number_below f_is_number_below d_is_number_below
  b_is_number_below : Binds K d_is_number_below ["thing", "bound"] []
  m_is_number_below : mg "is_number_below" = some (.ref f_is_number_below)
  f_Hall_need_work : Addr
  d_Hall_need_work : FuncData
  F_Hall_need_work : Fun K "need_work" "Hall.need_work" s_Hall_need_work f_Hall_need_work d_Hall_need_work
  b_Hall_need_work : Binds K d_Hall_need_work ["self", "work"] []
  f_Hall_lay : Addr
  d_Hall_lay : FuncData
  F_Hall_lay : Fun K "lay" "Hall.lay" s_Hall_lay f_Hall_lay d_Hall_lay
  b_Hall_lay : Binds K d_Hall_lay ["self", "row"] []
  f_Hall_belt : Addr
  d_Hall_belt : FuncData
  dT_Hall_belt : Addr
  dk0_Hall_belt : Tok
  F_Hall_belt : FunD K "belt" "Hall.belt" s_Hall_belt dT_Hall_belt f_Hall_belt d_Hall_belt
  b_Hall_belt : Binds K d_Hall_belt ["self", "giver", "taker", "give", "take", "start"] []
  b1_Hall_belt : Binds K d_Hall_belt ["self", "giver", "taker", "give", "take", "start"] [.int 0 dk0_Hall_belt]
  v1_Hall_belt : Vals [.int 0] [.int 0 dk0_Hall_belt]
  f_Hall_init : Addr
  d_Hall_init : FuncData
  F_Hall_init : Fun K "__init__" "Hall.__init__" s_Hall_init f_Hall_init d_Hall_init
  b_Hall_init : Binds K d_Hall_init ["self"] []
  f_law : Addr
  d_law : FuncData
  F_law : Fun K "law" "law" s_law f_law d_law
  b_law : Binds K d_law ["_law_script"] []
  m_law : mg "law" = some (.ref f_law)
  C_Hall : Addr
  cl_Hall : Cls K C_Hall
  g_Hall : mg "Hall" = some (.ref C_Hall)
  na_Hall : NoAttrs K C_Hall ["numbers", "rows"]
  M_Hall_belts : Meth K C_Hall "belts" f_Hall_belts
  M_Hall_names : Meth K C_Hall "names" f_Hall_names
  M_Hall_work : Meth K C_Hall "work" f_Hall_work
  M_Hall_need_work : Meth K C_Hall "need_work" f_Hall_need_work
  M_Hall_lay : Meth K C_Hall "lay" f_Hall_lay
  M_Hall_belt : Meth K C_Hall "belt" f_Hall_belt
  mk_Hall : Mk K C_Hall f_Hall_init
  n_all : mg "all" = none
  n_bool : mg "bool" = none
  n_enumerate : mg "enumerate" = none
  n_int : mg "int" = none
  n_isinstance : mg "isinstance" = none
  n_len : mg "len" = none
  n_list : mg "list" = none
  n_max : mg "max" = none
  n_min : mg "min" = none
  n_range : mg "range" = none
  n_sorted : mg "sorted" = none
  n_str : mg "str" = none
  X_NoName : Addr
  gx_NoName : PySem.W.nsIn K mainGlobals "NoName" = some (some (.ref X_NoName))
  mx_NoName : mg "NoName" = some (.ref X_NoName)
  ex_NoName : PySem.W.excIn K X_NoName [.type "ValueError", .type "Exception", .type "BaseException", .type "object"] "ValueError.__new__" = true
  X_Twice : Addr
  gx_Twice : PySem.W.nsIn K mainGlobals "Twice" = some (some (.ref X_Twice))
  mx_Twice : mg "Twice" = some (.ref X_Twice)
  ex_Twice : PySem.W.excIn K X_Twice [.type "ValueError", .type "Exception", .type "BaseException", .type "object"] "ValueError.__new__" = true
  X_TooMuch : Addr
  gx_TooMuch : PySem.W.nsIn K mainGlobals "TooMuch" = some (some (.ref X_TooMuch))
  mx_TooMuch : mg "TooMuch" = some (.ref X_TooMuch)
  ex_TooMuch : PySem.W.excIn K X_TooMuch [.type "ValueError", .type "Exception", .type "BaseException", .type "object"] "ValueError.__new__" = true
  X_NoWork : Addr
  gx_NoWork : PySem.W.nsIn K mainGlobals "NoWork" = some (some (.ref X_NoWork))
  mx_NoWork : mg "NoWork" = some (.ref X_NoWork)
  ex_NoWork : PySem.W.excIn K X_NoWork [.type "ValueError", .type "Exception", .type "BaseException", .type "object"] "ValueError.__new__" = true
  X_NoRate : Addr
  gx_NoRate : PySem.W.nsIn K mainGlobals "NoRate" = some (some (.ref X_NoRate))
  mx_NoRate : mg "NoRate" = some (.ref X_NoRate)
  ex_NoRate : PySem.W.excIn K X_NoRate [.type "ValueError", .type "Exception", .type "BaseException", .type "object"] "ValueError.__new__" = true
  tk_MOST_LETTERS : Tok
  c_MOST_LETTERS : mg "MOST_LETTERS" = some (.int 8 tk_MOST_LETTERS)
  tk_MOST_WORKS : Tok
  c_MOST_WORKS : mg "MOST_WORKS" = some (.int 30 tk_MOST_WORKS)
  tk_MOST_BELTS : Tok
  c_MOST_BELTS : mg "MOST_BELTS" = some (.int 60 tk_MOST_BELTS)
  bl_law : ∀ (s : Shared) (v : Value), BindsTo s d_law ⟨[v], []⟩ [("_law_script", v)]
theorem log_of {k : Nat} {x : Int} (h : My.S k x) (hk : k ≤ 2) : x.natAbs.log2 < 9000 := by
  by_cases h0 : x.natAbs = 0
  · rw [h0]; decide +kernel
  · have e : x.natAbs = x.toNat := by have := h.lo; omega
    have l := (Nat.log2_lt h0).mpr (by rw [e]; exact (h.mono hk).hi)
    omega
def spLaw (K : PySem.W.Frag) : Sp := fun vs H Q _ => ∃ (a : Addr) (ns : List Int), vs = [.ref a] ∧ SqL K H a (ns.map V.int) ∧ ns.length ≤ 63 ∧ ∀ H', Q (.bl true) H'
def sp_law {K : PySem.W.Frag} {mg : Str → Option Value} (T : Tp K mg) : Sp := spLaw K
def isName (x : Str) : Bool := decide (1 ≤ x.length) && decide (x.length ≤ 8) && x.cps.toList.all fun c => decide (97 ≤ c) && decide (c ≤ 122)
structure B5 where
  giver : Int
  taker : Int
  give : Int
  take : Int
  start : Int
def B5.v (b : B5) : List V := [.int b.giver, .int b.taker, .int b.give, .int b.take, .int b.start]
structure HM where
  names : List Str
  belts : List B5
def Tups (H : Hp) : List V → List B5 → Prop := Paired fun v b => ∃ t, v = .ref t ∧ H t = some (.tup b.v)
def numsOf (ns : List Str) : List (Key × V) := ns.zipIdx.map fun p => (Sum.inr p.1, V.int p.2)
theorem numsOf_len (ns : List Str) : (numsOf ns).length = ns.length := by unfold numsOf; simp
theorem numsOf_snoc (ns : List Str) (x : Str) : numsOf (ns ++ [x]) = numsOf ns ++ [(Sum.inr x, .int ns.length)] := by
  unfold numsOf
  rw [List.zipIdx_append]
  simp
theorem numsOf_keys (ns : List Str) : ((numsOf ns).map fun kv => kV kv.1) = ns.map V.str := by
  unfold numsOf
  rw [List.map_map]
  have : ((fun kv : Key × V => kV kv.1) ∘ fun p : Str × Nat => ((Sum.inr p.1 : Key), V.int p.2)) = (V.str ∘ fun p : Str × Nat => p.1) := rfl
  rw [this, ← List.map_map, List.zipIdx_map_fst]
theorem numsOf_in (ns : List Str) (x : Str) : (valV (numsOf ns) (Sum.inr x)).isSome = decide (x ∈ ns) := by
  rw [← valV_any]
  rw [Bool.eq_iff_iff, List.any_eq_true, decide_eq_true_eq]
  have e : x ∈ ns ↔ V.str x ∈ ns.map V.str := by
    constructor
    · exact List.mem_map_of_mem
    · intro h
      obtain ⟨y, hy, e⟩ := List.mem_map.mp h
      cases e
      exact hy
  rw [e, ← numsOf_keys, List.mem_map]
  constructor
  · rintro ⟨p, hp, h⟩
    exact ⟨p, hp, by rw [of_decide_eq_true h]; rfl⟩
  · rintro ⟨p, hp, h⟩
    exact ⟨p, hp, decide_eq_true (kV_inj h)⟩
theorem numsOf_none {ns : List Str} {x : Str} (h : x ∉ ns) : valV (numsOf ns) (Sum.inr x) = none := by
  have := numsOf_in ns x
  rw [decide_eq_false h] at this
  cases e : valV (numsOf ns) (Sum.inr x) with
  | none => rfl
  | some v => rw [e] at this; cases this
theorem numsOf_put {ns : List Str} {x : Str} (h : x ∉ ns) : putK (numsOf ns) (Sum.inr x) (.int ns.length) = numsOf (ns ++ [x]) := by
  rw [putK_new _ (numsOf_none h), numsOf_snoc]
def HallAt {K : PySem.W.Frag} {mg : Str → Option Value} (T : Tp K mg) (H : Hp) (p : Addr) (hl : HM) (fp : List Addr) : Prop :=
  ∃ (dx a b : Addr) (bs : List V), fp = [p, dx, a, b] ∧ H p = some (.ins T.C_Hall dx [("numbers", .ref a), ("rows", .ref b)]) ∧ H dx = some (.own p) ∧ H a = some (.dK (numsOf hl.names)) ∧ H b = some (.lst bs) ∧ a ≠ b ∧ Tups H bs hl.belts
theorem Tups.keep {H H' : Hp} (t : ∀ b xs, H b = some (.tup xs) → H' b = some (.tup xs)) : ∀ {bs : List V} {ls : List B5}, Tups H bs ls → Tups H' bs ls
  | _, _, .nil => .nil
  | _, _, .cons ⟨a, e, h⟩ r => .cons ⟨a, e, t _ _ h⟩ (Tups.keep t r)
theorem Tups.length {H : Hp} {bs : List V} {ls : List B5} (h : Tups H bs ls) : bs.length = ls.length := Paired.length h
theorem Tups.snoc {H : Hp} : ∀ {bs : List V} {ls : List B5} {t : Addr} {b : B5}, Tups H bs ls → H t = some (.tup b.v) → Tups H (bs ++ [.ref t]) (ls ++ [b])
  | _, _, _, _, .nil, h => .cons ⟨_, rfl, h⟩ .nil
  | _, _, _, _, .cons x r, h => .cons x (Tups.snoc r h)
theorem Tups.at {H : Hp} : ∀ {bs : List V} {ls : List B5} {i : Nat} {b : B5}, Tups H bs ls → ls[i]? = some b → ∃ t, bs[i]? = some (.ref t) ∧ H t = some (.tup b.v)
  | _, _, _, _, .nil, e => by simp at e
  | _, _, 0, _, .cons ⟨t, e1, h⟩ _, e => by simp at e; subst e; exact ⟨t, by simp [e1], h⟩
  | _, _, i + 1, b, .cons _ r, e => by
    obtain ⟨t, h1, h2⟩ := Tups.at (i := i) (b := b) r (by simpa using e)
    exact ⟨t, by simpa using h1, h2⟩
section
variable {K : PySem.W.Frag} {mg : Str → Option Value} {T : Tp K mg} {H H' : Hp} {p : Addr} {hl : HM} {fp : List Addr}
theorem HallAt.dom (h : HallAt T H p hl fp) : ∀ x ∈ fp, H x ≠ none := by
  obtain ⟨dx, a, b, bs, rfl, h1, h2, h3, h4, _⟩ := h
  intro x hx
  simp only [List.mem_cons, List.not_mem_nil, or_false] at hx
  rcases hx with rfl | rfl | rfl | rfl
  · rw [h1]; simp
  · rw [h2]; simp
  · rw [h3]; simp
  · rw [h4]; simp
theorem HallAt.keep (h : HallAt T H p hl fp) (k : ∀ x ∈ fp, H' x = H x) (t : ∀ b xs, H b = some (.tup xs) → H' b = some (.tup xs)) : HallAt T H' p hl fp := by
  obtain ⟨dx, a, b, bs, rfl, h1, h2, h3, h4, h5, h6⟩ := h
  exact ⟨dx, a, b, bs, rfl, (k p (by simp)).trans h1, (k dx (by simp)).trans h2, (k a (by simp)).trans h3, (k b (by simp)).trans h4, h5, h6.keep t⟩
theorem HallAt.off {A : List Addr} (h : HallAt T H p hl fp) (f : Frame A H H') (d : ∀ x ∈ fp, x ∉ A) : HallAt T H' p hl fp := by
  refine h.keep (fun x hx => ?_) f.tups
  cases q : H x with
  | none => exact absurd q (h.dom x hx)
  | some o => exact f.keep x o q (d x hx)
theorem Hall_meth {m : Str} {G : Prop} (h : HallAt T H p hl fp) (m1 : (m == "numbers") = false) (m2 : (m == "rows") = false) (q : G) : ∃ a dx fs, V.ref p = .ref a ∧ H a = some (.ins T.C_Hall dx fs) ∧ fs.lookup m = none ∧ G := by
  obtain ⟨dx, a, b, bs, rfl, h1, _⟩ := h
  exact ⟨p, dx, _, rfl, h1, Rd.lk1 m1 (Rd.lk1 m2 Rd.lkN), q⟩
theorem HallAt.same (h : HallAt T H p hl fp) (e : Same H H') : HallAt T H' p hl fp := h.off (A := []) e.frame (by simp)
end
def dB : B5 := ⟨0, 0, 0, 0, 0⟩
theorem Tups.getD {H : Hp} {bs : List V} {ls : List B5} {i : Nat} (h : Tups H bs ls) (hi : i < ls.length) : ∃ t, bs.getD i .non = .ref t ∧ H t = some (.tup (ls.getD i dB).v) := by
  obtain ⟨t, h1, h2⟩ := h.at (List.getElem?_eq_getElem hi)
  exact ⟨t, by simp [List.getD, h1], by simpa [List.getD, hi] using h2⟩
def cellM (ns : List Int) (k : Int) : Int := if k < ns.length then ns.getD k.toNat 0 else if (ns.length : Int) = 0 then k else ns.getD (k % ns.length).toNat 0 * 31 + k
@[irreducible] def mixed (ns : List Int) (k : Int) : Int := (cellM ns k % 2147483647 * 48271 + 12345) % 2147483647
theorem mixed_eq (ns : List Int) (k : Int) : (cellM ns k % 2147483647 * 48271 + 12345) % 2147483647 = mixed ns k := by unfold mixed; rfl
theorem mixed_lo (ns : List Int) (k : Int) : 0 ≤ mixed ns k := by unfold mixed; omega
theorem mixed_hi (ns : List Int) (k : Int) : mixed ns k < 2147483647 := by unfold mixed; omega
theorem at_ints {ns : List Int} {k : Int} (h0 : 0 ≤ k) (h1 : k < ns.length) : atI (ns.map V.int) k = some (.int (ns.getD k.toNat 0)) := by
  obtain ⟨n, rfl⟩ := Int.eq_ofNat_of_zero_le h0
  have hn : n < ns.length := by omega
  refine atI_nat ?_
  simp [List.getD, hn]
theorem small1000' {n : Nat} (h : n ≤ 10000) : n < sizeLine := Nat.lt_of_le_of_lt h (by decide)
def wayAt (ls : List B5) (i : Nat) (w : Int) : List Fo.Trip := (if (ls.getD i dB).giver = w then [((ls.getD i dB).taker, (i : Int), true)] else []) ++ (if (ls.getD i dB).taker = w then [((ls.getD i dB).giver, (i : Int), false)] else [])
def waysTo (ls : List B5) (k : Nat) (w : Int) : List Fo.Trip := (List.range k).flatMap fun i => wayAt ls i w
def waysL (ls : List B5) : Int → List Fo.Trip := waysTo ls ls.length
theorem waysTo_succ (ls : List B5) (k : Nat) (w : Int) : waysTo ls (k + 1) w = waysTo ls k w ++ wayAt ls k w := by
  unfold waysTo
  rw [List.range_succ, List.flatMap_append]
  simp
theorem nd_inj {α : Type} {xs : List α} (nd : xs.Nodup) {i j : Nat} (hi : i < xs.length) (hj : j < xs.length) (e : xs[i] = xs[j]) : i = j := by
  rcases Nat.lt_trichotomy i j with h | h | h
  · exact absurd e (List.pairwise_iff_getElem.mp nd i j hi hj h)
  · exact h
  · exact absurd e.symm (List.pairwise_iff_getElem.mp nd j i hj hi h)
theorem same_none {H H' : Hp} {x : Addr} (s : Same H H') (h : H' x = none) : H x = none := by
  cases e : H x with
  | none => rfl
  | some o => rw [s _ _ e] at h; cases h
theorem getD_of {α : Type} {xs : List α} {i : Nat} {d : α} (h : i < xs.length) : xs.getD i d = xs[i] := by simp [List.getD, h]
theorem mem_ways {ls : List B5} {w : Int} {t : Fo.Trip} (h : t ∈ waysL ls w) : ∃ (i : Nat) (hi : i < ls.length), t ∈ wayAt ls i w := by
  unfold waysL waysTo at h
  obtain ⟨i, hi, ht⟩ := List.mem_flatMap.mp h
  exact ⟨i, List.mem_range.mp hi, ht⟩
theorem ways_mem {ls : List B5} {w : Int} {t : Fo.Trip} {i : Nat} (hi : i < ls.length) (h : t ∈ wayAt ls i w) : t ∈ waysL ls w := by
  unfold waysL waysTo
  exact List.mem_flatMap.mpr ⟨i, List.mem_range.mpr hi, h⟩
theorem mem_wayAt {ls : List B5} {i : Nat} {w : Int} {t : Fo.Trip} : t ∈ wayAt ls i w ↔ ((ls.getD i dB).giver = w ∧ t = ((ls.getD i dB).taker, (i : Int), true)) ∨ ((ls.getD i dB).taker = w ∧ t = ((ls.getD i dB).giver, (i : Int), false)) := by
  unfold wayAt
  rw [List.mem_append]
  by_cases h1 : (ls.getD i dB).giver = w <;> by_cases h2 : (ls.getD i dB).taker = w <;> simp [h1, h2]
theorem ways_both (ls : List B5) : Fo.Both (waysL ls) := by
  intro a b t al h
  obtain ⟨i, hi, ht⟩ := mem_ways h
  refine ways_mem hi ?_
  rw [mem_wayAt] at ht ⊢
  rcases ht with ⟨h1, h2⟩ | ⟨h1, h2⟩
  · injection h2 with e1 e2
    injection e2 with e2 e3
    exact .inr ⟨e1.symm, by rw [← h1, e2, e3]; rfl⟩
  · injection h2 with e1 e2
    injection e2 with e2 e3
    exact .inl ⟨e1.symm, by rw [← h1, e2, e3]; rfl⟩
def Between (ls : List B5) (n : Nat) : Prop := ∀ b ∈ ls, 0 ≤ b.giver ∧ b.giver < (n : Int) ∧ 0 ≤ b.taker ∧ b.taker < (n : Int)
theorem Between.at {ls : List B5} {n i : Nat} (h : Between ls n) (hi : i < ls.length) : 0 ≤ (ls.getD i dB).giver ∧ (ls.getD i dB).giver < (n : Int) ∧ 0 ≤ (ls.getD i dB).taker ∧ (ls.getD i dB).taker < (n : Int) := by
  rw [getD_of hi]; exact h _ (List.getElem_mem hi)
theorem ways_rg {ls : List B5} {n : Nat} (h : Between ls n) : ∀ a, ∀ t ∈ waysL ls a, 0 ≤ t.1 ∧ t.1 < (n : Int) := by
  intro a t ht
  obtain ⟨i, hi, hm⟩ := mem_ways ht
  have := h.at hi
  rw [mem_wayAt] at hm
  rcases hm with ⟨_, rfl⟩ | ⟨_, rfl⟩ <;> (dsimp only; omega)
def Trips (H : Hp) : List Fo.Trip → List V → Prop := Paired fun x v => ∃ t, v = .ref t ∧ H t = some (.tup [.int x.1, .int x.2.1, .bl x.2.2])
theorem Trips.keep {H H' : Hp} (t : ∀ b xs, H b = some (.tup xs) → H' b = some (.tup xs)) {vs : List V} {l : List Fo.Trip} (h : Trips H l vs) : Trips H' l vs := Paired.mapP h fun _ _ ⟨a, e, z⟩ => ⟨a, e, t _ _ z⟩
theorem Trips.snoc {H : Hp} : ∀ {l : List Fo.Trip} {vs : List V} {x : Fo.Trip} {t : Addr}, Trips H l vs → H t = some (.tup [.int x.1, .int x.2.1, .bl x.2.2]) → Trips H (l ++ [x]) (vs ++ [.ref t])
  | _, _, _, _, .nil, h => .cons ⟨_, rfl, h⟩ .nil
  | _, _, _, _, .cons y r, h => .cons y (Trips.snoc r h)
theorem Trips.length {H : Hp} {l : List Fo.Trip} {vs : List V} (h : Trips H l vs) : l.length = vs.length := Paired.length h
theorem Trips.at {H : Hp} : ∀ {l : List Fo.Trip} {vs : List V} {i : Nat} {x : Fo.Trip}, Trips H l vs → l[i]? = some x → ∃ t, vs[i]? = some (.ref t) ∧ H t = some (.tup [.int x.1, .int x.2.1, .bl x.2.2])
  | _, _, _, _, .nil, e => by simp at e
  | _, _, 0, _, .cons ⟨t, e1, h⟩ _, e => by simp at e; subst e; exact ⟨t, by simp [e1], h⟩
  | _, _, i + 1, b, .cons _ r, e => by
    obtain ⟨t, h1, h2⟩ := Trips.at (i := i) (x := b) r (by simpa using e)
    exact ⟨t, by simpa using h1, h2⟩
def WA (H : Hp) (ia : List Addr) (W : Int → List Fo.Trip) : Prop := ∀ (j : Nat) (h : j < ia.length), ∃ vs, H ia[j] = some (.lst vs) ∧ Trips H (W (j : Int)) vs
theorem WA.same {H H' : Hp} {ia : List Addr} {W : Int → List Fo.Trip} (h : WA H ia W) (s : Same H H') : WA H' ia W := fun j hj => by
  obtain ⟨vs, h1, h2⟩ := h j hj
  exact ⟨vs, s _ _ h1, h2.keep fun _ _ e => s _ _ e⟩
theorem WA.add {H : Hp} {ia : List Addr} {W : Int → List Fo.Trip} (h : WA H ia W) (nd : ia.Nodup) {g : Nat} (hg : g < ia.length) {vs : List V} (hv : H ia[g] = some (.lst vs)) (ht : Trips H (W (g : Int)) vs) {t : Addr} {x : Fo.Trip} (htt : H t = some (.tup [.int x.1, .int x.2.1, .bl x.2.2])) :
    WA (upd H ia[g] (.lst (vs ++ [.ref t]))) ia (fun j => W j ++ (if (g : Int) = j then [x] else [])) := by
  have fr : ∀ b xs, H b = some (.tup xs) → (upd H ia[g] (.lst (vs ++ [.ref t]))) b = some (.tup xs) := fun b xs e => by rw [upd_ne (ne_of e hv (by intro z; cases z))]; exact e
  intro j hj
  by_cases e : j = g
  · subst e
    refine ⟨vs ++ [.ref t], upd_same, ?_⟩
    dsimp only
    rw [if_pos rfl]
    exact (ht.keep fr).snoc (fr _ _ htt)
  · obtain ⟨us, h1, h2⟩ := h j hj
    have ne : ia[j] ≠ ia[g] := fun z => e (nd_inj nd hj hg z)
    refine ⟨us, by rw [upd_ne ne]; exact h1, ?_⟩
    dsimp only
    rw [if_neg (by omega), List.append_nil]
    exact h2.keep fr
structure WaysAt (H : Hp) (r : Addr) (ia : List Addr) (n : Nat) (W : Int → List Fo.Trip) : Prop where
  at_ : H r = some (.lst (ia.map V.ref))
  len : ia.length = n
  nd : ia.Nodup
  wa : WA H ia W
theorem WaysAt.same {H H' : Hp} {r : Addr} {ia : List Addr} {n : Nat} {W : Int → List Fo.Trip} (h : WaysAt H r ia n W) (s : Same H H') : WaysAt H' r ia n W := ⟨s _ _ h.at_, h.len, h.nd, h.wa.same s⟩
theorem at_refs {ia : List Addr} {g : Int} (h0 : 0 ≤ g) (h1 : g.toNat < ia.length) : atI (ia.map V.ref) g = some (.ref ia[g.toNat]) := by
  have := atI_nat (xs := ia.map V.ref) (j := g.toNat) (v := .ref ia[g.toNat]) (by simp [h1])
  rwa [Int.toNat_of_nonneg h0] at this
def StepAt (H : Hp) (v : V) : Option Fo.Trip → Prop
  | none => v = .non
  | some (p, b, al) => ∃ t, v = .ref t ∧ H t = some (.tup [.int p, .int b, .bl al])
theorem StepAt.keep {H H' : Hp} (t : ∀ b xs, H b = some (.tup xs) → H' b = some (.tup xs)) {v : V} : ∀ {s : Option Fo.Trip}, StepAt H v s → StepAt H' v s
  | none, h => h
  | some (_, _, _), ⟨a, e, z⟩ => ⟨a, e, t _ _ z⟩
def Ent (H : Hp) : List (Key × V) → Fo.Tree → Prop := Paired fun kv x => kv.1 = Sum.inl x.1 ∧ StepAt H kv.2 x.2
theorem Ent.keep {H H' : Hp} (t : ∀ b xs, H b = some (.tup xs) → H' b = some (.tup xs)) {kvs : List (Key × V)} {tr : Fo.Tree} (h : Ent H kvs tr) : Ent H' kvs tr := Paired.mapP h fun _ _ ⟨a, z⟩ => ⟨a, z.keep t⟩
theorem Ent.snoc {H : Hp} : ∀ {kvs : List (Key × V)} {tr : Fo.Tree} {w : Int} {v : V} {s : Option Fo.Trip}, Ent H kvs tr → StepAt H v s → Ent H (kvs ++ [(Sum.inl w, v)]) (tr ++ [(w, s)])
  | _, _, _, _, _, .nil, h => .cons ⟨rfl, h⟩ .nil
  | _, _, _, _, _, .cons y r, h => .cons y (Ent.snoc r h)
theorem Ent.length {H : Hp} {kvs : List (Key × V)} {tr : Fo.Tree} (h : Ent H kvs tr) : kvs.length = tr.length := Paired.length h
theorem Ent.keys {H : Hp} : ∀ {kvs : List (Key × V)} {tr : Fo.Tree}, Ent H kvs tr → kvs.map (·.1) = (Fo.keys tr).map Sum.inl
  | _, _, .nil => rfl
  | _, _, .cons ⟨a, _⟩ r => by
    have := Ent.keys r
    unfold Fo.keys at this ⊢
    rw [List.map_cons, List.map_cons, List.map_cons, a, this]
theorem Ent.some {H : Hp} : ∀ {kvs : List (Key × V)} {tr : Fo.Tree} {w : Int}, Ent H kvs tr → ((valV kvs (Sum.inl w)).isSome = true ↔ w ∈ Fo.keys tr) := by
  intro kvs tr w h
  rw [← valV_any, List.any_eq_true]
  have hk := h.keys
  constructor
  · rintro ⟨kv, hm, e⟩
    have e1 : kv.1 = Sum.inl w := of_decide_eq_true e
    have : kv.1 ∈ kvs.map (·.1) := List.mem_map_of_mem hm
    rw [hk, e1] at this
    obtain ⟨w', hw', e2⟩ := List.mem_map.mp this
    cases e2
    exact hw'
  · intro hw
    have : (Sum.inl w : Key) ∈ (Fo.keys tr).map Sum.inl := List.mem_map_of_mem hw
    rw [← hk] at this
    obtain ⟨kv, hm, e⟩ := List.mem_map.mp this
    exact ⟨kv, hm, decide_eq_true e⟩
def TreeAt (H : Hp) (d : Addr) (tr : Fo.Tree) : Prop := ∃ kvs, H d = some (.dK kvs) ∧ Ent H kvs tr
theorem TreeAt.same {H H' : Hp} {d : Addr} {tr : Fo.Tree} (h : TreeAt H d tr) (s : Same H H') : TreeAt H' d tr := by
  obtain ⟨kvs, h1, h2⟩ := h
  exact ⟨kvs, s _ _ h1, h2.keep fun _ _ e => s _ _ e⟩
theorem merge_some : ∀ (more kvs : List (Key × V)) (k : Key), (valV (mergeK kvs more) k).isSome = ((valV kvs k).isSome || (valV more k).isSome)
  | [], kvs, k => by
    show (valV kvs k).isSome = ((valV kvs k).isSome || (valV ([] : List (Key × V)) k).isSome)
    have : valV ([] : List (Key × V)) k = none := rfl
    rw [this, Option.isSome_none, Bool.or_false]
  | (j, v) :: r, kvs, k => by
    show (valV (mergeK (putK kvs j v) r) k).isSome = _
    rw [merge_some r (putK kvs j v) k, valV_put]
    by_cases e : j = k
    · subst e
      rw [if_pos rfl, valV_pos rfl]
      simp
    · rw [if_neg (fun z => e z.symm), valV_neg e]
theorem Paired.get' {α β : Type} {P : α → β → Prop} : ∀ {xs : List α} {ys : List β} {i : Nat} {x : α}, Paired P xs ys → xs[i]? = some x → ∃ y, ys[i]? = some y ∧ P x y
  | _, _, _, _, .nil, e => by simp at e
  | _, _, 0, _, .cons h _, e => by simp at e; subst e; exact ⟨_, rfl, h⟩
  | _, _, i + 1, x, .cons _ r, e => by
    obtain ⟨y, h1, h2⟩ := Paired.get' (i := i) (x := x) r (by simpa using e)
    exact ⟨y, by simpa using h1, h2⟩
def Trees (H : Hp) : List Addr → List (Int × Fo.Tree) → Prop := Paired fun d x => TreeAt H d x.2
theorem Trees.same {H H' : Hp} {ds : List Addr} {F : List (Int × Fo.Tree)} (h : Trees H ds F) (s : Same H H') : Trees H' ds F := Paired.mapP h fun _ _ z => z.same s
theorem Trees.snoc {H : Hp} : ∀ {ds : List Addr} {F : List (Int × Fo.Tree)} {d : Addr} {x : Int × Fo.Tree}, Trees H ds F → TreeAt H d x.2 → Trees H (ds ++ [d]) (F ++ [x])
  | _, _, _, _, .nil, h => .cons h .nil
  | _, _, _, _, .cons y r, h => .cons y (Trees.snoc r h)
theorem Trees.keep {H H' : Hp} (t : ∀ b xs, H b = some (.tup xs) → H' b = some (.tup xs)) : ∀ {ds : List Addr} {F : List (Int × Fo.Tree)}, Trees H ds F → (∀ d ∈ ds, ∀ kvs, H d = some (.dK kvs) → H' d = some (.dK kvs)) → Trees H' ds F
  | _, _, .nil, _ => .nil
  | _, _, .cons ⟨kvs, h1, h2⟩ r, k => .cons ⟨kvs, k _ (by simp) _ h1, h2.keep t⟩ (Trees.keep t r fun d hd => k d (List.mem_cons_of_mem _ hd))
theorem Trees.length {H : Hp} {ds : List Addr} {F : List (Int × Fo.Tree)} (h : Trees H ds F) : ds.length = F.length := Paired.length h
def Sorts : List (List Int) → List (Int × Fo.Tree) → Prop := Paired fun xs x => xs.Perm (Fo.keys x.2) ∧ xs.Pairwise (· ≤ ·)
structure ForestAt (H : Hp) (f : Addr) (ds : List Addr) (F : List (Int × Fo.Tree)) : Prop where
  at_ : H f = some (.lst (ds.map V.ref))
  trees : Trees H ds F
theorem abc_at : ∀ i < 26, ("abcdefghijklmnopqrstuvwxyz" : Str).cps.toList[i]? = some (97 + i) := by decide +kernel
theorem abc_len : ("abcdefghijklmnopqrstuvwxyz" : Str).length ≤ sizeLine := by decide +kernel
theorem abc_ix {i : Int} (h0 : 0 ≤ i) (h1 : i < 26) : atI ("abcdefghijklmnopqrstuvwxyz" : Str).cps.toList i = some (97 + i.toNat) := by
  have := atI_nat (abc_at i.toNat (by omega))
  rwa [Int.toNat_of_nonneg h0] at this
theorem isName_iff (x : Str) : isName x = true ↔ 1 ≤ x.length ∧ x.length ≤ 8 ∧ ∀ c ∈ x.cps.toList, 97 ≤ c ∧ c ≤ 122 := by
  unfold isName
  simp only [Bool.and_eq_true, decide_eq_true_eq, List.all_eq_true]
  exact ⟨fun h => ⟨h.1.1, h.1.2, h.2⟩, fun h => ⟨⟨h.1, h.2.1⟩, h.2.2⟩⟩
theorem cps_append (x y : Str) : (x ++ y).cps.toList = x.cps.toList ++ y.cps.toList := by
  show (x.cps ++ y.cps).toList = _
  simp
theorem len_cps (x : Str) : x.length = x.cps.toList.length := by simp [Str.length]
theorem slice_mem {x : Str} {l u : Option Int} {c : Nat} (h : c ∈ (Txt.slice x l u).cps.toList) : c ∈ x.cps.toList := by
  unfold Txt.slice at h
  split at h
  · exact h
  · simp only at h
    obtain ⟨i, _, hi⟩ := List.mem_filterMap.mp h
    exact List.mem_of_getElem? (by simpa using hi)
theorem slice_len {x : Str} {l u : Option Int} : (Txt.slice x l u).length ≤ (Builtin.Str.strSliceIndices l u 1 x.length).length := by
  unfold Txt.slice
  split
  · rename_i h
    simp only [Bool.and_eq_true, beq_iff_eq] at h
    omega
  · show (List.filterMap _ _).toArray.size ≤ _
    rw [List.size_toArray]
    exact List.length_filterMap_le _ _
def labT (E : List (Nat × Nat)) (n w : Nat) : Nat := Pc.laps E n (fun i => i) w
def clsT (E : List (Nat × Nat)) (n f : Nat) : List Int := ((List.range n).filter fun w => decide (labT E n w = f)).map fun w : Nat => (w : Int)
def dueT (E : List (Nat × Nat)) (n : Nat) : List (List Int) := ((List.range n).map (clsT E n)).filter fun xs => decide (xs ≠ [])
def pairsT (ls : List B5) : List (Nat × Nat) := ls.map fun b => (b.giver.toNat, b.taker.toNat)
theorem pairs_lt {ls : List B5} {n : Nat} (h : Between ls n) : ∀ e ∈ pairsT ls, e.1 < n ∧ e.2 < n := by
  intro e he
  obtain ⟨b, hb, rfl⟩ := List.mem_map.mp he
  have := h b hb
  dsimp only
  omega
theorem hang_conn {ls : List B5} {n : Nat} (hb : Between ls n) {a b : Int} (ha : 0 ≤ a) (h : Fo.Hang (waysL ls) a b) : Pc.Conn (pairsT ls) a.toNat b.toNat := by
  induction h with
  | refl => exact .refl _
  | step _ e ih =>
    obtain ⟨i, hi, hm⟩ := mem_ways e
    have hr := hb.at hi
    have hmem : ((ls.getD i dB).giver.toNat, (ls.getD i dB).taker.toNat) ∈ pairsT ls := List.mem_map.mpr ⟨ls.getD i dB, by rw [getD_of hi]; exact List.getElem_mem hi, rfl⟩
    rw [mem_wayAt] at hm
    rcases hm with ⟨h1, h2⟩ | ⟨h1, h2⟩
    · injection h2 with e1 _
      rw [e1]
      rw [← h1] at ih
      exact .fwd ih hmem
    · injection h2 with e1 _
      rw [e1]
      rw [← h1] at ih
      exact .bwd ih hmem
theorem conn_hang {ls : List B5} {n : Nat} (hb : Between ls n) {a b : Nat} (h : Pc.Conn (pairsT ls) a b) : Fo.Hang (waysL ls) (a : Int) (b : Int) := by
  induction h with
  | refl => exact .refl
  | fwd _ e ih =>
    obtain ⟨x, hx, e2⟩ := List.mem_map.mp e
    obtain ⟨i, hi, rfl⟩ := List.getElem_of_mem hx
    have hr := hb _ hx
    injection e2 with e3 e4
    refine .step (t := (i : Int)) (al := true) ih (ways_mem hi ?_)
    rw [mem_wayAt, getD_of hi]
    exact .inl ⟨by omega, by congr 1; omega⟩
  | bwd _ e ih =>
    obtain ⟨x, hx, e2⟩ := List.mem_map.mp e
    obtain ⟨i, hi, rfl⟩ := List.getElem_of_mem hx
    have hr := hb _ hx
    injection e2 with e3 e4
    refine .step (t := (i : Int)) (al := false) ih (ways_mem hi ?_)
    rw [mem_wayAt, getD_of hi]
    exact .inr ⟨by omega, by congr 1; omega⟩
theorem lab_eq {E : List (Nat × Nat)} {n : Nat} (hE : ∀ e ∈ E, e.1 < n ∧ e.2 < n) {a b : Nat} (ha : a < n) (hb : b < n) (h : Pc.Conn E a b) : labT E n a = labT E n b := by
  obtain ⟨c1, l1⟩ := Pc.laps_least hE ha
  obtain ⟨c2, l2⟩ := Pc.laps_least hE hb
  have h1 := l1 _ (h.trans c2)
  have h2 := l2 _ (h.symm.trans c1)
  unfold labT
  omega
theorem lab_lt {E : List (Nat × Nat)} {n : Nat} (hE : ∀ e ∈ E, e.1 < n ∧ e.2 < n) {a : Nat} (ha : a < n) : labT E n a < n := (Pc.laps_least hE ha).1.lt hE ha
theorem lab_lab {E : List (Nat × Nat)} {n : Nat} (hE : ∀ e ∈ E, e.1 < n ∧ e.2 < n) {a : Nat} (ha : a < n) : labT E n (labT E n a) = labT E n a := (lab_eq hE ha (lab_lt hE ha) (Pc.laps_least hE ha).1).symm
theorem cls_ne {E : List (Nat × Nat)} {n f : Nat} (hE : ∀ e ∈ E, e.1 < n ∧ e.2 < n) (hf : f < n) : decide (clsT E n f ≠ []) = decide (labT E n f = f) := by
  rw [decide_eq_decide]
  constructor
  · intro h
    obtain ⟨x, hx⟩ := List.exists_mem_of_ne_nil _ h
    obtain ⟨w, hw, _⟩ := List.mem_map.mp hx
    obtain ⟨h1, h2⟩ := List.mem_filter.mp hw
    have h3 : labT E n w = f := of_decide_eq_true h2
    rw [← h3]
    exact lab_lab hE (List.mem_range.mp h1)
  · intro h
    refine List.ne_nil_of_mem (a := (f : Int)) (List.mem_map.mpr ⟨f, List.mem_filter.mpr ⟨List.mem_range.mpr hf, decide_eq_true h⟩, rfl⟩)
theorem dueT_eq {E : List (Nat × Nat)} {n : Nat} (hE : ∀ e ∈ E, e.1 < n ∧ e.2 < n) : dueT E n = ((List.range n).filter fun f => decide (labT E n f = f)).map (clsT E n) := by
  unfold dueT
  rw [List.filter_map]
  congr 1
  refine List.filter_congr fun f hf => ?_
  exact cls_ne hE (List.mem_range.mp hf)
theorem rise_cast {xs : List Nat} (h : xs.Pairwise (· < ·)) : (xs.map fun w : Nat => (w : Int)).Pairwise (· ≤ ·) := by
  rw [List.pairwise_map]
  exact h.imp fun h => by omega
theorem rise_filter (n : Nat) (c : Nat → Bool) : ((List.range n).filter c).Pairwise (· < ·) := List.Pairwise.sublist List.filter_sublist List.pairwise_lt_range
theorem nodup_of_rise {xs : List Nat} (h : xs.Pairwise (· < ·)) : xs.Nodup := h.imp fun h => Nat.ne_of_lt h
theorem sorted_eq {xs ys : List Int} (h1 : xs.Pairwise (· ≤ ·)) (h2 : ys.Pairwise (· ≤ ·)) (p : xs.Perm ys) : xs = ys := List.Perm.eq_of_pairwise (le := (· ≤ ·)) (fun a b _ _ h k => Int.le_antisymm h k) h1 h2 p
theorem first_lab {ls : List B5} {n : Nat} (hb : Between ls n) {F : List (Int × Fo.Tree)} (hw : Fo.Wood (waysL ls) n F n) {x : Int × Fo.Tree} (hx : x ∈ F) : labT (pairsT ls) n x.1.toNat = x.1.toNat := by
  have hE := pairs_lt hb
  obtain ⟨g, gg, g0, g1⟩ := hw.tree x hx
  have hl := Pc.laps_least hE (w := x.1.toNat) (by omega)
  have h1 := hl.2 _ (.refl _)
  have h2 := hw.least x hx ((labT (pairsT ls) n x.1.toNat : Nat) : Int) ((g.keys_iff gg _).mpr (by
    have := conn_hang hb hl.1
    rw [Int.toNat_of_nonneg g0] at this
    exact this))
  unfold labT at h2 ⊢
  omega
theorem tree_cls {ls : List B5} {n : Nat} (hb : Between ls n) {F : List (Int × Fo.Tree)} (hw : Fo.Wood (waysL ls) n F n) {x : Int × Fo.Tree} (hx : x ∈ F) {xs : List Int} (hp : xs.Perm (Fo.keys x.2)) (hr : xs.Pairwise (· ≤ ·)) : xs = clsT (pairsT ls) n x.1.toNat := by
  have hE := pairs_lt hb
  obtain ⟨g, gg, g0, g1⟩ := hw.tree x hx
  refine sorted_eq hr (rise_cast (rise_filter _ _)) (hp.trans ?_)
  refine (List.perm_ext_iff_of_nodup g.nodup (List.Pairwise.map _ (fun a b h => by omega) (rise_filter _ _))).mpr fun w => ?_
  rw [g.keys_iff gg w]
  constructor
  · intro h
    have hr := (g.rg ⟨g0, g1⟩ (ways_rg hb)) w ((g.keys_iff gg w).mpr h)
    refine List.mem_map.mpr ⟨w.toNat, List.mem_filter.mpr ⟨List.mem_range.mpr (by omega), decide_eq_true ?_⟩, by omega⟩
    rw [← lab_eq hE (by omega) (by omega) (hang_conn hb g0 h)]
    exact first_lab hb hw hx
  · intro h
    obtain ⟨v, hv, rfl⟩ := List.mem_map.mp h
    obtain ⟨h1, h2⟩ := List.mem_filter.mp hv
    have h3 : labT (pairsT ls) n v = x.1.toNat := of_decide_eq_true h2
    have hc := (Pc.laps_least hE (List.mem_range.mp h1)).1
    have hc2 : Pc.Conn (pairsT ls) v x.1.toNat := by rw [← h3]; exact hc
    have := conn_hang hb hc2.symm
    rw [Int.toNat_of_nonneg g0] at this
    exact this
theorem sorts_map {f : Int × Fo.Tree → List Int} : ∀ {xss : List (List Int)} {F : List (Int × Fo.Tree)}, Sorts xss F → (∀ x ∈ F, ∀ xs : List Int, xs.Perm (Fo.keys x.2) → xs.Pairwise (· ≤ ·) → xs = f x) → xss = F.map f
  | _, _, .nil, _ => rfl
  | _, _, .cons ⟨h1, h2⟩ r, h => by rw [h _ (by simp) _ h1 h2, sorts_map r fun x hx => h x (List.mem_cons_of_mem _ hx)]; rfl
theorem pieces_due {ls : List B5} {n : Nat} (hb : Between ls n) {F : List (Int × Fo.Tree)} (hw : Fo.Wood (waysL ls) n F n) {xss : List (List Int)} (hs : Sorts xss F) : xss = dueT (pairsT ls) n := by
  have hE := pairs_lt hb
  rw [dueT_eq hE, sorts_map hs fun x hx xs hp hr => tree_cls hb hw hx hp hr]
  have e : F.map (fun x => clsT (pairsT ls) n x.1.toNat) = (F.map fun x => x.1.toNat).map (clsT (pairsT ls) n) := by rw [List.map_map]; rfl
  rw [e]
  congr 1
  have p1 : (F.map fun x => x.1.toNat).Pairwise (· < ·) := by
    rw [List.pairwise_map]
    refine List.Pairwise.imp_of_mem (fun {x y} hx hy h => ?_) hw.rise
    have h1 := (hw.tree x hx).2.2.1
    omega
  refine List.Perm.eq_of_pairwise (le := (· < ·)) (fun a b _ _ h k => absurd h (by omega)) p1 (rise_filter _ _) ((List.perm_ext_iff_of_nodup (nodup_of_rise p1) (nodup_of_rise (rise_filter _ _))).mpr fun f => ?_)
  constructor
  · intro h
    obtain ⟨x, hx, rfl⟩ := List.mem_map.mp h
    obtain ⟨_, _, g0, g1⟩ := hw.tree x hx
    exact List.mem_filter.mpr ⟨List.mem_range.mpr (by omega), decide_eq_true (first_lab hb hw hx)⟩
  · intro h
    obtain ⟨h1, h2⟩ := List.mem_filter.mp h
    have hf := List.mem_range.mp h1
    have h3 : labT (pairsT ls) n f = f := of_decide_eq_true h2
    obtain ⟨x, hx, hk⟩ := hw.all (f : Int) (by omega) (by omega)
    obtain ⟨g, gg, g0, g1⟩ := hw.tree x hx
    have hc := hang_conn hb g0 ((g.keys_iff gg _).mp hk)
    rw [Int.toNat_natCast] at hc
    have := lab_eq hE (by omega) hf hc
    rw [first_lab hb hw hx, h3] at this
    exact List.mem_map.mpr ⟨x, hx, this⟩
theorem near_len : ∀ n : Nat, n ≤ 6 → ∀ a : Nat, a ≤ n → (Builtin.Str.strSliceIndices none (some (a : Int)) 1 n).length + (Builtin.Str.strSliceIndices (some (a : Int)) none 1 n).length ≤ 6 := by decide +kernel
theorem mulq {n : Int} (h : n = 0 ∨ n = 1) : MulOk "q" n ∧ (Txt.mul "q" n).length ≤ 1 := by
  rcases h with rfl | rfl
  · exact ⟨⟨by decide, fun h => absurd (by decide) h, fun h => absurd (by decide) h⟩, by decide +kernel⟩
  · exact ⟨⟨by decide, fun _ h => absurd h (by decide), fun _ h => absurd h (by decide)⟩, by decide +kernel⟩
def sgT (d : Nat) (k : Nat) : Str := ⟨#[97 + (k + d) % 26]⟩ ++ Txt.mul "q" ((k : Int) / 26)
theorem q_cps : ∀ k : Nat, k < 30 → (Txt.mul "q" ((k : Int) / 26)).cps.toList = if k < 26 then [] else [113] := by decide +kernel
theorem sg_cps {d k : Nat} (h : k < 30) : (sgT d k).cps.toList = (97 + (k + d) % 26) :: (if k < 26 then [] else [113]) := by
  unfold sgT
  rw [cps_append, q_cps k h]
  rfl
theorem sg_inj {d i j : Nat} (hi : i < 30) (hj : j < 30) (e : (sgT d i).cps.toList = (sgT d j).cps.toList) : i = j := by
  rw [sg_cps hi, sg_cps hj] at e
  injection e with e1 e2
  by_cases c1 : i < 26 <;> by_cases c2 : j < 26
  · omega
  · rw [if_pos c1, if_neg c2] at e2; cases e2
  · rw [if_neg c1, if_pos c2] at e2; cases e2
  · omega
def nmT (w : Str) (a : Nat) (d : Nat) (k : Nat) : Str := (Txt.slice w none (some (a : Int)) ++ sgT d k) ++ Txt.slice w (some (a : Int)) none
theorem nm_ok {w : Str} {a d k : Nat} (hl : w.length ≤ 6) (hw : ∀ c ∈ w.cps.toList, 97 ≤ c ∧ c ≤ 122) (ha : a ≤ w.length) (hk : k < 30) : isName (nmT w a d k) = true := by
  have l1 := slice_len (x := w) (l := none) (u := some (a : Int))
  have l2 := slice_len (x := w) (l := some (a : Int)) (u := none)
  have l3 := near_len w.length hl a ha
  have e := sg_cps (d := d) hk
  unfold nmT
  rw [isName_iff, len_cps, cps_append, cps_append, e]
  rw [len_cps] at l1 l2
  have l4 : (if k < 26 then ([] : List Nat) else [113]).length ≤ 1 := by split <;> simp
  refine ⟨?_, ?_, fun c hc => ?_⟩
  · simp only [List.length_append, List.length_cons]; omega
  · simp only [List.length_append, List.length_cons]; omega
  · rcases List.mem_append.mp hc with z | z
    · rcases List.mem_append.mp z with y | y
      · exact hw c (slice_mem y)
      · rcases List.mem_cons.mp y with rfl | y
        · omega
        · split at y
          · simp at y
          · rw [List.mem_singleton.mp y]; omega
    · exact hw c (slice_mem z)
theorem nm_inj {w : Str} {a d i j : Nat} (hi : i < 30) (hj : j < 30) (e : nmT w a d i = nmT w a d j) : i = j := by
  have e1 := congrArg (fun x : Str => x.cps.toList) e
  unfold nmT at e1
  rw [cps_append, cps_append, cps_append, cps_append] at e1
  exact sg_inj hi hj (List.append_cancel_left (List.append_cancel_right e1))
def labs (f : Nat → Nat) (m : Nat) : List Int := (List.range m).map fun w => ((f w : Nat) : Int)
theorem labs_len (f : Nat → Nat) (m : Nat) : (labs f m).length = m := by simp [labs]
theorem labs_at {f : Nat → Nat} {m g : Nat} (h : g < m) : atI ((labs f m).map V.int) (g : Int) = some (.int (f g : Nat)) := atI_nat (by simp [labs, h])
theorem labs_step {f : Nat → Nat} {m : Nat} {e : Nat × Nat} (h1 : e.1 < m) (h2 : e.2 < m) : ((labs f m).set e.1 ((min (f e.1) (f e.2) : Nat) : Int)).set e.2 ((min (f e.1) (f e.2) : Nat) : Int) = labs (Pc.step f e) m := by
  refine List.ext_getElem (by simp [labs]) fun j a1 a2 => ?_
  have hj : j < m := by simpa [labs] using a2
  rw [List.getElem_set, List.getElem_set]
  simp only [labs, List.getElem_map, List.getElem_range, Pc.step]
  by_cases c2 : e.2 = j
  · rw [if_pos c2, if_pos (.inr c2.symm)]
  · rw [if_neg c2]
    by_cases c1 : e.1 = j
    · rw [if_pos c1, if_pos (.inl c1.symm)]
    · rw [if_neg c1, if_neg (fun z => z.elim (fun y => c1 y.symm) (fun y => c2 y.symm))]
def Twos (H : Hp) : List (Nat × Nat) → List V → Prop := Paired fun x v => ∃ t, v = .ref t ∧ H t = some (.tup [.int (x.1 : Nat), .int (x.2 : Nat)])
theorem Twos.keep {H H' : Hp} (t : ∀ b xs, H b = some (.tup xs) → H' b = some (.tup xs)) {vs : List V} {l : List (Nat × Nat)} (h : Twos H l vs) : Twos H' l vs := Paired.mapP h fun _ _ ⟨a, e, z⟩ => ⟨a, e, t _ _ z⟩
theorem Twos.snoc {H : Hp} : ∀ {l : List (Nat × Nat)} {vs : List V} {x : Nat × Nat} {t : Addr}, Twos H l vs → H t = some (.tup [.int (x.1 : Nat), .int (x.2 : Nat)]) → Twos H (l ++ [x]) (vs ++ [.ref t])
  | _, _, _, _, .nil, h => .cons ⟨_, rfl, h⟩ .nil
  | _, _, _, _, .cons y r, h => .cons y (Twos.snoc r h)
theorem Twos.length {H : Hp} {l : List (Nat × Nat)} {vs : List V} (h : Twos H l vs) : l.length = vs.length := Paired.length h
theorem dueT_step {E : List (Nat × Nat)} {m i : Nat} : (((List.range (i + 1)).map (clsT E m)).filter fun xs => decide (xs ≠ [])) = (((List.range i).map (clsT E m)).filter fun xs => decide (xs ≠ [])) ++ (if clsT E m i ≠ [] then [clsT E m i] else []) := by
  rw [List.range_succ, List.map_append, List.filter_append]
  congr 1
  by_cases h : clsT E m i = []
  · simp [h]
  · simp [h]
def rowsD (xss : List (List Int)) : List PyData := xss.map fun xs => .list (xs.map PyData.int)
theorem lay_rows : ∀ xss : List (List Int), PyData.canLayAll0 (rowsD xss) = true
  | [] => by simp [rowsD, PyData.canLayAll0]
  | xs :: xss => by
    have h1 := lay_rows xss
    have h2 := layL_ints xs
    unfold rowsD at h1 ⊢
    rw [List.map_cons, PyData.canLayAll0, h2, h1]
    rfl
theorem layL_rows (xss : List (List Int)) : (PyData.list (rowsD xss)).canLay0 = true := by
  rw [PyData.canLay0]
  exact lay_rows xss
theorem depth_rows : ∀ xss : List (List Int), PyData.depthAll (rowsD xss) ≤ 3
  | [] => by simp [rowsD, PyData.depthAll]
  | xs :: xss => by
    have h1 := depth_rows xss
    have h2 := depth_ints xs
    unfold rowsD at h1 ⊢
    simp only [List.map_cons, PyData.depthAll, PyData.depth] at h1 ⊢
    omega
theorem depthL_rows (xss : List (List Int)) : (PyData.list (rowsD xss)).depth ≤ 60 := by
  have := depth_rows xss
  simp only [PyData.depth]
  omega
theorem rel_rows {K : PySem.W.Frag} {H : Hp} : ∀ {ys : List V} {xss : List (List Int)}, RowsAt H ys xss → DRels K H ys (rowsD xss)
  | _, _, .nil => .nil
  | _, _, .cons ⟨t, e, h⟩ r => by rw [e]; exact .cons (DRel.ints (.of h)) (rel_rows r)
local macro_rules | `(tactic| walk_at "rd") => `(tactic| first | with_reducible refine Nm.Hall_meth (by with_reducible assumption) (by k_dflt (decide +kernel)) (by k_dflt (decide +kernel)) ?_ | fail "none here")
def sp_l_names {K : PySem.W.Frag} {mg : Str → Option Value} (T : Tp K mg) : Sp := fun vs H Q _ => ∃ c m : Int, vs = [.int c, .int m] ∧ 0 ≤ c ∧ 0 ≤ m ∧ m ≤ 30 ∧
  ∀ (r : Addr) (H' : Hp) (nms : List Str), H r = none → Same H H' → H' r = some (.lst (nms.map V.str)) → nms.length = m.toNat → (∀ x ∈ nms, isName x = true) → nms.Nodup → Q (.ref r) H'
section
variable {P : Program} {w : World} {K : PySem.W.Frag} {mg : Str → Option Value} {base : Heap}
theorem ok_l_names (T : Tp K mg) : FnOk P w K mg base (CXX P w) 1 T.f_l_names T.d_l_names ["_law_cell_here", "_law_many"] (sp_l_names T) := by
  refine T.F_l_names.okX sc_l_names (fun vs H Q E h => ?_) (fun cdv A outer s H vs Q E hr h => ?_)
  · obtain ⟨c, m, rfl, _⟩ := h
    rfl
  · have hu := hr.units
    obtain ⟨c, m, rfl, c0, m0, m1, q⟩ := h
    have al := abc_len
    have cr : ∀ x : Int, 0 ≤ x % 26 ∧ x % 26 < 26 := fun x => by omega
    refine ⟨_, (pss_cons (ps_set (i := 2) sc_l_names.nd rfl (Or.inl rfl) pe_str)
          (pss_cons (ps_set (i := 3) sc_l_names.nd rfl (Or.inl rfl) pe_str)
          (pss_cons (ps_for PassesOwn.leaving rfl (pi_range1 rfl T.n_range (pa_cons (pe_op op_mod (pv 0) pe_int) pa_nil)) (pg_name (i := 4) sc_l_names.nd rfl (Or.inl rfl)) (pss_one (ps_set (i := 3) sc_l_names.nd rfl (Or.inl rfl) (pe_op (op_addK (K := K) rfl) (pv 3) (pe_ix (ix_K (K := K) rfl) (pv 2) (pe_op op_mod (pe_op op_fdivG (pe_op op_fdivG (pv 0) pe_int) (pe_op (op_addK (K := K) rfl) (pv 4) pe_int)) pe_int) (fun _ _ => rfl))))))
          (pss_cons (ps_set (i := 5) sc_l_names.nd rfl (Or.inl rfl) (pe_op op_mod (pe_op op_fdivG (pv 0) pe_int) (pe_op (op_addK (K := K) rfl) (pe_callB (len_K (K := K) rfl) (by rfl) T.n_len PySem.boot_len (pa_cons (pv 3) pa_nil)) pe_int)))
          (pss_cons (ps_set (i := 6) sc_l_names.nd rfl (Or.inl rfl) (pe_lst pa_nil))
          (pss_cons (ps_for PassesOwn.leaving rfl (pi_range1 rfl T.n_range (pa_cons (pv 1) pa_nil)) (pg_name (i := 4) sc_l_names.nd rfl (Or.inl rfl)) (pss_cons (ps_set (i := 7) sc_l_names.nd rfl (Or.inl rfl) (pe_op (op_addK (K := K) rfl) (pe_ix (ix_K (K := K) rfl) (pv 2) (pe_op op_mod (pe_op (op_addK (K := K) rfl) (pv 4) (pe_op op_fdivG (pv 0) pe_int)) pe_int) (fun _ _ => rfl)) (pe_op op_mulS pe_str (pe_op op_fdivG (pv 4) pe_int))))
          (pss_one (ps_expr (pe_bmK (K := K) rfl PySem.F.plainAttrs_list PySem.F.slot_list_append PySem.F.type_list_append mt_append (pv 6) (pa_cons (pe_op (op_addK (K := K) rfl) (pe_op (op_addK (K := K) rfl) (pe_slice (sl_K (K := K) rfl) (pv 3) po_none (po_some (pv 5))) (pv 7)) (pe_slice (sl_K (K := K) rfl) (pv 3) (po_some (pv 5)) po_none)) pa_nil))))))
          (pss_one (ps_ret (pv 6))))))))), ?_⟩
    try dsimp only [L2.cxX, L2.cxOf, L2.cxComp]
    walk_at "rds"
    refine for_range (n := (c % 7).toNat) (fun i σ H' => H' = H ∧ ∃ (w : Str) (k0 : Option V), σ = [some (.int c), some (.int m), some (.str "abcdefghijklmnopqrstuvwxyz"), some (.str w), k0, none, none, none] ∧ w.length = i ∧ ∀ x ∈ w.cps.toList, 97 ≤ x ∧ x ≤ 122) ⟨rfl, "", _, rfl, rfl, by intro x hx; cases hx⟩ ?_ ?_
    · rintro i σ H' hi ⟨rfl, w, k0, rfl, hwl, hw⟩
      have hdv : 0 < (0 + (i : Int) + 3) ∧ (0 + (i : Int) + 3).natAbs.log2 < 9000 := ⟨by omega, log_of (My.S.small (k := 0) (by omega) (by omega)) (by decide)⟩
      walk_at "rds"
      obtain ⟨x0, x1⟩ := cr (c / 8 / (0 + (i : Int) + 3))
      generalize c / 8 / (0 + (i : Int) + 3) % 26 = x at *
      refine Rd.ixuS al (abc_ix x0 x1) ?_
      refine Rd.addS (by show w.length + 1 ≤ sizeLine; have : (8 : Nat) ≤ sizeLine := by decide
                         omega) ?_
      walk_at "rds"
      refine ⟨rfl, _, _, rfl, ?_, fun y hy => ?_⟩
      · rw [len_cps, cps_append, List.length_append, ← len_cps, hwl]; rfl
      · rw [cps_append] at hy
        rcases List.mem_append.mp hy with z | z
        · exact hw y z
        · have e : y = 97 + x.toNat := by simpa using z
          omega
    · rintro σ H' ⟨rfl, w, k0, rfl, hwl, hw⟩
      have hw6 : w.length ≤ 6 := by omega
      have hwz : w.length ≤ sizeLine := Nat.le_of_lt (small1000 (by omega))
      have hp : 0 < (w.length : Int) + 1 := by omega
      walk_at "rds"
      have a0 := Int.emod_nonneg (c / 5) (show (w.length : Int) + 1 ≠ 0 by omega)
      have a1 := Int.emod_lt_of_pos (c / 5) hp
      obtain ⟨a, ea⟩ : ∃ a : Nat, c / 5 % ((w.length : Int) + 1) = (a : Int) := ⟨(c / 5 % ((w.length : Int) + 1)).toNat, (Int.toNat_of_nonneg a0).symm⟩
      have ha : a ≤ w.length := by rw [ea] at a1; omega
      rw [ea]
      obtain ⟨d, ed⟩ : ∃ d : Nat, c / 16 = (d : Int) := ⟨(c / 16).toNat, (Int.toNat_of_nonneg (by omega)).symm⟩
      refine ⟨Nat.zero_le _, fun r hr => ?_⟩
      have s1 : Same H' (upd H' r (.lst [])) := same_new hr
      have hr1 : (upd H' r (.lst [])) r = some (.lst (((List.range 0).map (nmT w a d)).map V.str)) := upd_same
      generalize upd H' r (.lst []) = H1 at *
      walk_at "rds"
      refine for_range (n := m.toNat) (fun i σ H2 => Same H' H2 ∧ (∃ k0 a1 : Option V, σ = [some (.int c), some (.int m), some (.str "abcdefghijklmnopqrstuvwxyz"), some (.str w), k0, some (.int a), some (.ref r), a1]) ∧ H2 r = some (.lst (((List.range i).map (nmT w a d)).map V.str))) ⟨s1, ⟨_, _, rfl⟩, hr1⟩ ?_ ?_
      · rintro i σ H2 hi ⟨s2, ⟨k0, a1, rfl⟩, hr2⟩
        have hi30 : i < 30 := by omega
        have hl1 := Txt.slice_le w none (some (a : Int))
        have hl2 := Txt.slice_le w (some (a : Int)) none
        have ei : (0 + (i : Int)) / 26 = (i : Int) / 26 := by rw [Int.zero_add]
        have e26 : (0 + (i : Int) + c / 16) % 26 = (((i + d) % 26 : Nat) : Int) := by rw [ed]; omega
        walk_at "rds"
        rw [e26]
        refine Rd.ixuS al (abc_ix (by omega) (by omega)) ?_
        rw [Int.toNat_natCast]
        walk_at "rds"
        rw [ei]
        obtain ⟨mo, ml⟩ := mulq (n := (i : Int) / 26) (by omega)
        refine Rd.mulS mo ?_
        refine Rd.addS (by show 1 + (Txt.mul "q" ((i : Int) / 26)).length ≤ sizeLine; have : (3 : Nat) ≤ sizeLine := by decide
                           omega) ?_
        have es : (⟨#[97 + (i + d) % 26]⟩ ++ Txt.mul "q" ((i : Int) / 26) : Str) = sgT d i := rfl
        rw [es]
        have hsl : (sgT d i).length ≤ 2 := by
          rw [len_cps, sg_cps hi30]
          split <;> simp
        have hrz : (((List.range i).map (nmT w a d)).map V.str).length < sizeLine := small1000 (by simp; omega)
        have z20 : (20 : Nat) ≤ sizeLine := by decide
        walk_at "rds"
        refine Rd.addS ?_ ?_
        · rw [len_cps, cps_append, List.length_append, ← len_cps, ← len_cps]; omega
        have en : (Txt.slice w none (some (a : Int)) ++ sgT d i) ++ Txt.slice w (some (a : Int)) none = nmT w a d i := rfl
        rw [en]
        walk_at "rds"
        refine ⟨s2.new hr, ⟨_, _, rfl⟩, ?_⟩
        rw [upd_same, List.range_succ, List.map_append, List.map_append]
        rfl
      · rintro σ H2 ⟨s2, ⟨k0, a1, rfl⟩, hr2⟩
        walk_at "rds"
        refine q r H2 ((List.range m.toNat).map (nmT w a d)) hr s2 hr2 (by simp) (fun x hx => ?_) ?_
        · obtain ⟨i, hi, rfl⟩ := List.mem_map.mp hx
          have := List.mem_range.mp hi
          exact nm_ok hw6 hw ha (by omega)
        · refine List.pairwise_map.mpr (List.Pairwise.imp_of_mem (fun {x y} hx hy h => ?_) List.nodup_range)
          have h1 := List.mem_range.mp hx
          have h2 := List.mem_range.mp hy
          exact fun e => h (nm_inj (by omega) (by omega) e)
end
def sp_l_cell {K : PySem.W.Frag} {mg : Str → Option Value} (T : Tp K mg) : Sp := fun vs H Q _ => ∃ (p : Addr) (ns : List Int) (k : Int), vs = [.ref p, .int k] ∧ SqL K H p (ns.map V.int) ∧ 0 ≤ k ∧ Q (.int (cellM ns k)) H
theorem rd_l_cell {K : PySem.W.Frag} {mg : Str → Option Value} {T : Tp K mg} {H : Hp} {Q : VK} {E : XK} {p : Addr} {ns : List Int} {k : Int} (hS : SqL K H p (ns.map V.int)) (hk : 0 ≤ k) (q : Q (.int (cellM ns k)) H) : sp_l_cell T ([.ref p, .int k] ++ []) H Q E := ⟨p, ns, k, rfl, hS, hk, q⟩
local macro_rules | `(tactic| walk_at "rd") => `(tactic| first | with_reducible refine Nm.rd_l_cell (by walk_at "hp") (by walk_at "side") ?_ | fail "none here")
section
variable {P : Program} {w : World} {K : PySem.W.Frag} {mg : Str → Option Value} {base : Heap}
theorem ok_l_cell (T : Tp K mg) : FnOk P w K mg base (CXX P w) 1 T.f_l_cell T.d_l_cell ["_law_script", "_law_k"] (sp_l_cell T) := by
  refine T.F_l_cell.okX sc_l_cell (fun vs H Q E h => ?_) (fun cdv A outer s H vs Q E hr h => ?_)
  · obtain ⟨p, ns, k, rfl, _⟩ := h
    rfl
  · have hu := hr.units
    obtain ⟨p, ns, k, rfl, hS, hk, q⟩ := h
    unfold cellM at q
    refine ⟨_, (pss_cons (ps_if (pt_cmpR op_lt (pv 1) (pe_callB (len_K (K := K) rfl) (by rfl) T.n_len PySem.boot_len (pa_cons (pv 0) pa_nil)) (nomark _)) (pss_one (ps_ret (pe_ix (ix_K (K := K) rfl) (pv 0) (pv 1) (fun _ _ => rfl)))) pss_nil)
          (pss_cons (ps_if (pt_cmpR (op_eqK (K := K) rfl hu) (pe_callB (len_K (K := K) rfl) (by rfl) T.n_len PySem.boot_len (pa_cons (pv 0) pa_nil)) pe_int (nomark _)) (pss_one (ps_ret (pv 1))) pss_nil)
          (pss_one (ps_ret (pe_op (op_addK (K := K) rfl) (pe_op op_mulU (pe_ix (ix_K (K := K) rfl) (pv 0) (pe_op op_mod (pv 1) (pe_callB (len_K (K := K) rfl) (by rfl) T.n_len PySem.boot_len (pa_cons (pv 0) pa_nil))) (fun _ _ => rfl)) pe_int) (pv 1)))))), ?_⟩
    try dsimp only [L2.cxX, L2.cxOf, L2.cxComp]
    walk_at "rds"
    refine Rd.ifD (fun c => ?_) (fun c => ?_)
    · have c' : k < ns.length := by simpa using c
      have ha := at_ints hk c'
      rw [if_pos c'] at q
      walk_at "rds"
      exact q
    · have c' : ¬ k < ns.length := by simpa using c
      rw [if_neg c'] at q
      walk_at "rds"
      refine Rd.ifD (fun d => ?_) (fun d => ?_)
      · have d' : (ns.length : Int) = 0 := by simpa using d
        rw [if_pos d'] at q
        walk_at "rds"
        exact q
      · have d' : ¬ (ns.length : Int) = 0 := by simpa using d
        rw [if_neg d'] at q
        have e : ((ns.map V.int).length : Int) = ns.length := by simp
        have l0 : 0 < ((ns.map V.int).length : Int) := by omega
        have ha := at_ints (ns := ns) (k := k % (ns.map V.int).length) (Int.emod_nonneg _ (by omega)) (by rw [e]; exact Int.emod_lt_of_pos _ (by omega))
        walk_at "rds"
        rw [e]
        exact q
end
def sp_l_mixed {K : PySem.W.Frag} {mg : Str → Option Value} (T : Tp K mg) : Sp := fun vs H Q _ => ∃ (p : Addr) (ns : List Int) (k : Int), vs = [.ref p, .int k] ∧ SqL K H p (ns.map V.int) ∧ 0 ≤ k ∧ Q (.int (mixed ns k)) H
theorem rd_l_mixed {K : PySem.W.Frag} {mg : Str → Option Value} {T : Tp K mg} {H : Hp} {Q : VK} {E : XK} {p : Addr} {ns : List Int} {k : Int} (hS : SqL K H p (ns.map V.int)) (hk : 0 ≤ k) (q : ∀ m, m = mixed ns k → 0 ≤ m → m < 2147483647 → Q (.int m) H) : sp_l_mixed T ([.ref p, .int k] ++ []) H Q E :=
  ⟨p, ns, k, rfl, hS, hk, q _ rfl (mixed_lo ns k) (mixed_hi ns k)⟩
local macro_rules | `(tactic| walk_at "rd") => `(tactic| first | with_reducible refine Nm.rd_l_mixed (by walk_at "hp") (by walk_at "side") (fun _ _ _ _ => ?_) | fail "none here")
section
variable {P : Program} {w : World} {K : PySem.W.Frag} {mg : Str → Option Value} {base : Heap}
theorem ok_l_mixed (T : Tp K mg) : FnOk P w K mg base (CXX P w) 2 T.f_l_mixed T.d_l_mixed ["_law_script", "_law_k"] (sp_l_mixed T) := by
  have G_l_cell : FnOk P w K mg base (CXX P w) 1 T.f_l_cell T.d_l_cell ["_law_script", "_law_k"] (sp_l_cell T) := (ok_l_cell T).mono (by decide)
  refine T.F_l_mixed.okX sc_l_mixed (fun vs H Q E h => ?_) (fun cdv A outer s H vs Q E hr h => ?_)
  · obtain ⟨p, ns, k, rfl, _⟩ := h
    rfl
  · have hu := hr.units
    obtain ⟨p, ns, k, rfl, hS, hk, q⟩ := h
    refine ⟨_, (pss_one (ps_ret (pe_op op_mod (pe_op (op_addK (K := K) rfl) (pe_op op_mulU (pe_op op_mod (pe_call G_l_cell hr rfl T.m_l_cell T.F_l_cell.kp T.b_l_cell .nil pass_on (pa_cons (pv 0) (pa_cons (pv 1) pa_nil))) pe_int) pe_int) pe_int) pe_int))), ?_⟩
    try dsimp only [L2.cxX, L2.cxOf, L2.cxComp]
    walk_at "rds"
    rw [mixed_eq]
    exact q
end
def sp_Hall_belts {K : PySem.W.Frag} {mg : Str → Option Value} (T : Tp K mg) : Sp := fun vs H Q _ => ∃ (p : Addr) (hl : HM) (fp : List Addr), vs = [.ref p] ∧ HallAt T H p hl fp ∧
  ∀ (q : Addr) (H' : Hp) (bs : List V), H q = none → Same H H' → H' q = some (.lst bs) → Tups H' bs hl.belts → Q (.ref q) H'
theorem rd_Hall_belts {K : PySem.W.Frag} {mg : Str → Option Value} {T : Tp K mg} {H : Hp} {Q : VK} {E : XK} {p : Addr} {hl : HM} {fp : List Addr} (h : HallAt T H p hl fp)
    (q : ∀ (q : Addr) (H' : Hp) (bs : List V), H q = none → Same H H' → H' q = some (.lst bs) → Tups H' bs hl.belts → Q (.ref q) H') : sp_Hall_belts T (.ref p :: ([] ++ [])) H Q E := ⟨p, hl, fp, rfl, h, q⟩
local macro_rules | `(tactic| walk_at "rd") => `(tactic| first | with_reducible refine Nm.rd_Hall_belts (by with_reducible assumption) ?_ | fail "none here")
section
variable {P : Program} {w : World} {K : PySem.W.Frag} {mg : Str → Option Value} {base : Heap}
theorem ok_Hall_belts (T : Tp K mg) : FnOk P w K mg base (CXX P w) 1 T.f_Hall_belts T.d_Hall_belts ["self"] (sp_Hall_belts T) := by
  have cl_Hall := T.cl_Hall
  have na_Hall := T.na_Hall
  refine T.F_Hall_belts.okX sc_Hall_belts (fun vs H Q E h => ?_) (fun cdv A outer s H vs Q E hr h => ?_)
  · obtain ⟨p, hl, fp, rfl, _⟩ := h
    rfl
  · have hu := hr.units
    obtain ⟨p, hl, fp, rfl, hh, q⟩ := h
    obtain ⟨dx, a, b, bs, rfl, h1, h2, h3, h4, nab, h6⟩ := id hh
    refine ⟨_, (pss_one (ps_ret (pe_callTy (listOf_K (K := K) rfl) (by rfl) T.n_list PyProof.Rows.boot_list (pa_cons (pe_fldK (K := K) rfl (pv 0) rfl) pa_nil)))), ?_⟩
    try dsimp only [L2.cxX, L2.cxOf, L2.cxComp]
    walk_at "rds"
    refine Rd.listOfL (.of h4) (fun l hl' => ?_)
    exact q l _ bs hl' (same_new hl') upd_same (h6.keep ((same_new hl').frame (A := [])).tups)
end
def sp_Hall_names {K : PySem.W.Frag} {mg : Str → Option Value} (T : Tp K mg) : Sp := fun vs H Q E => ∃ (p : Addr) (hl : HM) (fp : List Addr), vs = [.ref p] ∧ HallAt T H p hl fp ∧
  ∀ r H', H r = none → Same H H' → H' r = some (.lst (hl.names.map V.str)) → Q (.ref r) H'
section
variable {P : Program} {w : World} {K : PySem.W.Frag} {mg : Str → Option Value} {base : Heap}
theorem ok_Hall_names (T : Tp K mg) : FnOk P w K mg base (CXX P w) 1 T.f_Hall_names T.d_Hall_names ["self"] (sp_Hall_names T) := by
  have cl_Hall := T.cl_Hall
  have na_Hall := T.na_Hall
  refine T.F_Hall_names.okX sc_Hall_names (fun vs H Q E h => ?_) (fun cdv A outer s H vs Q E hr h => ?_)
  · obtain ⟨p, hl, fp, rfl, _⟩ := h
    rfl
  · have hu := hr.units
    obtain ⟨p, hl, fp, rfl, hh, q⟩ := h
    obtain ⟨dx, a, b, bs, rfl, h1, h2, h3, h4, nab, h6⟩ := id hh
    refine ⟨_, (pss_one (ps_ret (pe_callTy (call_listD rfl) (by rfl) T.n_list PyProof.Rows.boot_list (pa_cons (pe_fldK (K := K) rfl (pv 0) rfl) pa_nil)))), ?_⟩
    try dsimp only [L2.cxX, L2.cxOf, L2.cxComp]
    walk_at "rds"
    intro l hl'
    rw [numsOf_keys]
    exact q l _ hl' (same_new hl') upd_same
end
def sp_ways_of {K : PySem.W.Frag} {mg : Str → Option Value} (T : Tp K mg) : Sp := fun vs H Q _ => ∃ (p : Addr) (hl : HM) (fp : List Addr), vs = [.ref p] ∧ HallAt T H p hl fp ∧ hl.names.length ≤ 1000 ∧ hl.belts.length ≤ 1000 ∧ Between hl.belts hl.names.length ∧
  ∀ (r : Addr) (ia : List Addr) (H' : Hp), H r = none → Same H H' → WaysAt H' r ia hl.names.length (waysL hl.belts) → Q (.ref r) H'
section
variable {P : Program} {w : World} {K : PySem.W.Frag} {mg : Str → Option Value} {base : Heap}
theorem ok_ways_of (T : Tp K mg) : FnOk P w K mg base (CXX P w) 2 T.f_ways_of T.d_ways_of ["hall"] (sp_ways_of T) := by
  have G_Hall_belts : FnOk P w K mg base (CXX P w) 1 T.f_Hall_belts T.d_Hall_belts ["self"] (sp_Hall_belts T) := (ok_Hall_belts T).mono (by decide)
  have G_Hall_names : FnOk P w K mg base (CXX P w) 1 T.f_Hall_names T.d_Hall_names ["self"] (sp_Hall_names T) := (ok_Hall_names T).mono (by decide)
  have cl_Hall := T.cl_Hall
  have na_Hall := T.na_Hall
  refine T.F_ways_of.okX sc_ways_of (fun vs H Q E h => ?_) (fun cdv A outer s H vs Q E hr h => ?_)
  · obtain ⟨p, hl, fp, rfl, _⟩ := h
    rfl
  · have hu := hr.units
    obtain ⟨p, hl, fp, rfl, hh, hn, hz, hbt, q⟩ := h
    refine ⟨_, (pss_cons (ps_compN (j := 1) (xs := ["name"]) rfl (cscope (x := "name") (zs := []) (ix := []) (defScope s_ways_of) ["hall", "ways", "belt", "row"] rfl rfl (by decide +kernel)) (pi_listK (K := K) rfl (pe_meth0 (pv 0) T.cl_Hall T.M_Hall_names G_Hall_names hr T.b_Hall_names .nil pass_on)) (fun cl C s H fp => ⟨(pg_name (i := 0) (show (["name"] : List Str).Nodup by decide +kernel) rfl (Or.inl rfl)), pif_nil, (pe_lst pa_nil)⟩) sc_ways_of.nd rfl (Or.inl rfl))
          (pss_cons (ps_for PassesOwn.leaving rfl (pi_enum (K := K) rfl rfl T.n_enumerate (pa_cons (pe_meth0 (pv 0) T.cl_Hall T.M_Hall_belts G_Hall_belts hr T.b_Hall_belts .nil pass_on) pa_nil)) (pg_tupK (K := K) (n := 2) rfl rfl (pgs_cons (pg_name (i := 2) sc_ways_of.nd rfl (Or.inl rfl)) (pgs_cons (pg_name (i := 3) sc_ways_of.nd rfl (Or.inl rfl)) pgs_nil))) (pss_cons (ps_expr (pe_bmK (K := K) rfl PySem.F.plainAttrs_list PySem.F.slot_list_append PySem.F.type_list_append mt_append (pe_ix (ix_K (K := K) rfl) (pv 1) (pe_ix (ix_K (K := K) rfl) (pv 3) pe_int (fun _ _ => rfl)) (fun _ _ => rfl)) (pa_cons (pe_tup (pa_cons (pe_ix (ix_K (K := K) rfl) (pv 3) pe_int (fun _ _ => rfl)) (pa_cons (pv 2) (pa_cons pe_bl pa_nil)))) pa_nil)))
          (pss_one (ps_expr (pe_bmK (K := K) rfl PySem.F.plainAttrs_list PySem.F.slot_list_append PySem.F.type_list_append mt_append (pe_ix (ix_K (K := K) rfl) (pv 1) (pe_ix (ix_K (K := K) rfl) (pv 3) pe_int (fun _ _ => rfl)) (fun _ _ => rfl)) (pa_cons (pe_tup (pa_cons (pe_ix (ix_K (K := K) rfl) (pv 3) pe_int (fun _ _ => rfl)) (pa_cons (pv 2) (pa_cons pe_bl pa_nil)))) pa_nil))))))
          (pss_one (ps_ret (pv 1))))), ?_⟩
    try dsimp only [L2.cxX, L2.cxOf, L2.cxComp]
    walk_at "rds"
    refine ⟨p, hl, fp, rfl, hh, fun nm H1 hnm s1 hnm1 => ?_⟩
    walk_at "rds"
    refine comp_lists (own := 1) (walks_lst (SqL.of hnm1)).y (small1000 (by rw [List.length_map]; exact hn)) (fun i => [some ((hl.names.map V.str).getD i .non)]) (fun _ => rfl) (fun i a' H' v H2 Kg hi sm y hal k => ?_) (fun i H' Kc hi sm k => ?_) (fun r H2 ia hr s2 hr2 hil hnd hia => ?_)
    · obtain ⟨rfl, rfl⟩ := y
      obtain ⟨x1, rfl⟩ : ∃ x1, a' = [x1] := by
        match a', hal with
        | [x1], _ => exact ⟨x1, rfl⟩
      walk_at "rds"
      exact k _ (Same.refl _)
    · exact k
    rw [List.length_map] at hil
    have s12 := s1.trans s2
    have hh2 := hh.same s12
    have hr0 : H r = none := same_none s1 hr
    have hia0 : ∀ x ∈ ia, H x = none := fun x hx => same_none s1 (hia x hx).1
    have nri : ∀ x ∈ ia, r ≠ x := fun x hx z => (hia x hx).2.1 z.symm
    walk_at "rds"
    intro u H3 bs hu0 s3 hu3 hT
    have hbl := hT.length
    have nui : ∀ x ∈ ia, u ≠ x := fun x hx z => by
      have := (hia x hx).2.2
      rw [← z, hu0] at this
      cases this
    walk_at "rds"
    refine for_walkY (walks_enum (SqL.of (only_self (q := u) (o := .lst bs)))) (fun k σ H' => ∃ (a1 a2 : Option V), σ = [some (.ref p), some (.ref r), a1, a2] ∧ Same H H' ∧ H' u = some (.lst bs) ∧ H' r = some (.lst (ia.map V.ref)) ∧ Tups H' bs hl.belts ∧ WA H' ia (waysTo hl.belts k) ∧ ∀ (j : Nat) (h : j < ia.length) vs, H' ia[j] = some (.lst vs) → vs.length ≤ 2 * k)
      ⟨_, _, rfl, s12.trans s3, hu3, s3 _ _ hr2, hT, fun j hj => ⟨[], s3 _ _ (hia _ (List.getElem_mem hj)).2.2, .nil⟩, fun j hj vs e => ?_⟩ ?_ ?_ ?_
    · rw [s3 _ _ (hia _ (List.getElem_mem hj)).2.2] at e
      cases e
      exact Nat.zero_le _
    · rintro k σ H' ⟨_, _, _, _, h, _⟩
      exact only_same h
    · rintro k σ H4 v H5 hk ⟨a1, a2, rfl, s4, hu4, hr4, hT4, hWA, hsz⟩ ⟨t, ht, rfl, rfl⟩
      have hkl : k < hl.belts.length := by omega
      obtain ⟨g0, g1, t0, t1⟩ := hbt.at hkl
      obtain ⟨tb, hb1, hb2⟩ := hT4.getD hkl
      rw [hb1]
      refine Rd.gtup (.of upd_same) rfl ?_
      have s5 : Same H4 (upd H4 t (.tup [.int k, .ref tb])) := same_new ht
      generalize upd H4 t (.tup [.int k, .ref tb]) = H5 at *
      have hW1 : ∀ j : Int, waysTo hl.belts (k + 1) j = (waysTo hl.belts k j ++ (if (hl.belts.getD k dB).giver = j then [((hl.belts.getD k dB).taker, (k : Int), true)] else [])) ++ (if (hl.belts.getD k dB).taker = j then [((hl.belts.getD k dB).giver, (k : Int), false)] else []) := fun j => by
        rw [waysTo_succ, wayAt, List.append_assoc]
      generalize hl.belts.getD k dB = b at *
      have hbt5 := s5 _ _ hb2
      dsimp only [B5.v] at hbt5
      have hr5 := s5 _ _ hr4
      have hWA5 := hWA.same s5
      have gl : b.giver.toNat < ia.length := by omega
      have tl : b.taker.toNat < ia.length := by omega
      have atg := at_refs g0 gl
      have att := at_refs t0 tl
      have eg : ((b.giver.toNat : Nat) : Int) = b.giver := Int.toNat_of_nonneg g0
      have et : ((b.taker.toNat : Nat) : Int) = b.taker := Int.toNat_of_nonneg t0
      obtain ⟨vs, hv1, hv2⟩ := hWA5 b.giver.toNat gl
      have hsz5 : ∀ (j : Nat) (h : j < ia.length) vs, H5 ia[j] = some (.lst vs) → vs.length ≤ 2 * k := fun j hj us e => by
        obtain ⟨us', h1, _⟩ := hWA j hj
        have := s5 _ _ h1
        rw [e] at this
        cases this
        exact hsz j hj _ h1
      have vz : vs.length < sizeLine := small1000' (by have := hsz5 _ gl _ hv1; omega)
      walk_at "rds"
      refine ⟨by show 3 ≤ sizeLine; decide, fun t2 ht2 => ?_⟩
      have s6 : Same H5 (upd H5 t2 (.tup [.int b.taker, .int k, .bl true])) := same_new ht2
      have ht6 : (upd H5 t2 (.tup [.int b.taker, .int k, .bl true])) t2 = some (.tup [.int b.taker, .int k, .bl true]) := upd_same
      generalize upd H5 t2 (.tup [.int b.taker, .int k, .bl true]) = H6 at *
      have hv6 := s6 _ _ hv1
      walk_at "rds"
      have hWA7 := (hWA5.same s6).add hnd gl hv6 (hv2.keep fun _ _ e => s6 _ _ e) (x := (b.taker, (k : Int), true)) ht6
      have ng : r ≠ ia[b.giver.toNat] := nri _ (List.getElem_mem gl)
      have nug : u ≠ ia[b.giver.toNat] := nui _ (List.getElem_mem gl)
      have hr7 : (upd H6 ia[b.giver.toNat] (.lst (vs ++ [.ref t2]))) r = some (.lst (ia.map V.ref)) := by rw [upd_ne ng]; exact s6 _ _ hr5
      have hu7 : (upd H6 ia[b.giver.toNat] (.lst (vs ++ [.ref t2]))) u = some (.lst bs) := by rw [upd_ne nug]; exact s6 _ _ (s5 _ _ hu4)
      have tk7 : ∀ c xs, H6 c = some (.tup xs) → (upd H6 ia[b.giver.toNat] (.lst (vs ++ [.ref t2]))) c = some (.tup xs) := fun c xs e => by rw [upd_ne (ne_of e hv6 (by intro z; cases z))]; exact e
      have hb7 := tk7 _ _ (s6 _ _ hbt5)
      have hT7 : Tups (upd H6 ia[b.giver.toNat] (.lst (vs ++ [.ref t2]))) bs hl.belts := ((hT4.keep fun _ _ e => s5 _ _ e).keep fun _ _ e => s6 _ _ e).keep tk7
      have sm7 : Same H (upd H6 ia[b.giver.toNat] (.lst (vs ++ [.ref t2]))) := ((s4.trans s5).trans s6).new (hia0 _ (List.getElem_mem gl))
      have hsz7 : ∀ (j : Nat) (h : j < ia.length) us, (upd H6 ia[b.giver.toNat] (.lst (vs ++ [.ref t2]))) ia[j] = some (.lst us) → us.length ≤ 2 * k + 1 := fun j hj us e => by
        by_cases z : j = b.giver.toNat
        · subst z
          rw [upd_same] at e
          cases e
          have := hsz5 _ gl _ hv1
          simp; omega
        · have ne : ia[j] ≠ ia[b.giver.toNat] := fun y => z (nd_inj hnd hj gl y)
          rw [upd_ne ne] at e
          obtain ⟨us', h1, _⟩ := hWA5 j hj
          have := s6 _ _ h1
          rw [e] at this
          cases this
          have := hsz5 j hj _ h1
          omega
      generalize upd H6 ia[b.giver.toNat] (.lst (vs ++ [.ref t2])) = H7 at *
      obtain ⟨us, hq1, hq2⟩ := hWA7 b.taker.toNat tl
      have uz : us.length < sizeLine := small1000' (by have := hsz7 _ tl _ hq1; omega)
      walk_at "rds"
      refine ⟨by show 3 ≤ sizeLine; decide, fun t3 ht3 => ?_⟩
      have s8 : Same H7 (upd H7 t3 (.tup [.int b.giver, .int k, .bl false])) := same_new ht3
      have ht8 : (upd H7 t3 (.tup [.int b.giver, .int k, .bl false])) t3 = some (.tup [.int b.giver, .int k, .bl false]) := upd_same
      generalize upd H7 t3 (.tup [.int b.giver, .int k, .bl false]) = H8 at *
      have hq8 := s8 _ _ hq1
      walk_at "rds"
      have hWA9 := (hWA7.same s8).add hnd tl hq8 (hq2.keep fun _ _ e => s8 _ _ e) (x := (b.giver, (k : Int), false)) ht8
      have ng2 : r ≠ ia[b.taker.toNat] := nri _ (List.getElem_mem tl)
      have nug2 : u ≠ ia[b.taker.toNat] := nui _ (List.getElem_mem tl)
      have tk9 : ∀ c xs, H8 c = some (.tup xs) → (upd H8 ia[b.taker.toNat] (.lst (us ++ [.ref t3]))) c = some (.tup xs) := fun c xs e => by rw [upd_ne (ne_of e hq8 (by intro z; cases z))]; exact e
      refine ⟨_, _, rfl, (sm7.trans s8).new (hia0 _ (List.getElem_mem tl)), by rw [upd_ne nug2]; exact s8 _ _ hu7, by rw [upd_ne ng2]; exact s8 _ _ hr7, (hT7.keep fun _ _ e => s8 _ _ e).keep tk9, ?_, fun j hj ws e => ?_⟩
      · have eW : (fun j => (fun j => waysTo hl.belts k j ++ (if ((b.giver.toNat : Nat) : Int) = j then [(b.taker, (k : Int), true)] else [])) j ++ (if ((b.taker.toNat : Nat) : Int) = j then [(b.giver, (k : Int), false)] else [])) = waysTo hl.belts (k + 1) := by
          funext j
          rw [hW1 j, eg, et]
        rw [eW] at hWA9
        exact hWA9
      · by_cases z : j = b.taker.toNat
        · subst z
          rw [upd_same] at e
          cases e
          have := hsz7 _ tl _ hq1
          simp; omega
        · have ne : ia[j] ≠ ia[b.taker.toNat] := fun y => z (nd_inj hnd hj tl y)
          rw [upd_ne ne] at e
          obtain ⟨us', h1, _⟩ := hWA7 j hj
          have := s8 _ _ h1
          rw [e] at this
          cases this
          have := hsz7 j hj _ h1
          omega
    · rintro σ H4 ⟨a1, a2, rfl, s4, hu4, hr4, hT4, hWA, hsz⟩
      rw [hbl] at hWA
      walk_at "rds"
      exact q r ia H4 hr0 s4 ⟨hr4, hil, hnd, hWA⟩
end
def sp_tree_from {K : PySem.W.Frag} {mg : Str → Option Value} (T : Tp K mg) : Sp := fun vs H Q _ => ∃ (r : Addr) (ia : List Addr) (n : Nat) (W : Int → List Fo.Trip) (first : Int), vs = [.ref r, .int first] ∧ WaysAt H r ia n W ∧ n ≤ 1000 ∧ (∀ a, ∀ t ∈ W a, 0 ≤ t.1 ∧ t.1 < (n : Int)) ∧ 0 ≤ first ∧ first < (n : Int) ∧
  ∀ (d : Addr) (H' : Hp) (tr : Fo.Tree), H d = none → Same H H' → TreeAt H' d tr → Fo.Grown W first tr → Fo.Gone W tr tr.length → Q (.ref d) H'
section
variable {P : Program} {w : World} {K : PySem.W.Frag} {mg : Str → Option Value} {base : Heap}
theorem ok_tree_from (T : Tp K mg) : FnOk P w K mg base (CXX P w) 1 T.f_tree_from T.d_tree_from ["ways", "first"] (sp_tree_from T) := by
  refine T.F_tree_from.okX sc_tree_from (fun vs H Q E h => ?_) (fun cdv A outer s H vs Q E hr h => ?_)
  · obtain ⟨r, ia, n, W, first, rfl, _⟩ := h
    rfl
  · have hu := hr.units
    obtain ⟨r, ia, n, W, first, rfl, hw, hn, hrg, f0, f1, q⟩ := h
    have hil := hw.len
    refine ⟨_, (pss_cons (ps_set (i := 2) sc_tree_from.nd rfl (Or.inl rfl) (pe_disp (pps_cons (pv 1) pe_non pps_nil) rfl rfl (by simp) (by decide)))
          (pss_cons (ps_set (i := 3) sc_tree_from.nd rfl (Or.inl rfl) (pe_lst (pa_cons (pv 1) pa_nil)))
          (pss_cons (ps_set (i := 4) sc_tree_from.nd rfl (Or.inl rfl) pe_int)
          (pss_cons (ps_while PassesOwn.leaving (pt_cmpR op_lt (pv 4) (pe_callB (len_K (K := K) rfl) (by rfl) T.n_len PySem.boot_len (pa_cons (pv 3) pa_nil)) (nomark _)) (pss_cons (ps_set (i := 5) sc_tree_from.nd rfl (Or.inl rfl) (pe_ix (ix_K (K := K) rfl) (pv 3) (pv 4) (fun _ _ => rfl)))
          (pss_cons (ps_aug (i := 4) sc_tree_from.nd rfl (Or.inl rfl) pe_int ip_add)
          (pss_one (ps_for PassesOwn.leaving rfl (pi_listK (K := K) rfl (pe_ix (ix_K (K := K) rfl) (pv 0) (pv 5) (fun _ _ => rfl))) (pg_tupK (K := K) (n := 3) rfl rfl (pgs_cons (pg_name (i := 6) sc_tree_from.nd rfl (Or.inl rfl)) (pgs_cons (pg_name (i := 7) sc_tree_from.nd rfl (Or.inl rfl)) (pgs_cons (pg_name (i := 8) sc_tree_from.nd rfl (Or.inl rfl)) pgs_nil)))) (pss_one (ps_if (pt_cmpR (op_dNotIn hu) (pv 6) (pv 2) (by with_unfolding_all rfl)) (pss_cons (ps_asg (pe_tup (pa_cons (pv 5) (pa_cons (pv 7) (pa_cons (pv 8) pa_nil)))) (pg_sub (pv 2) (pv 6) (set_dict hu)))
          (pss_one (ps_expr (pe_bmK (K := K) rfl PySem.F.plainAttrs_list PySem.F.slot_list_append PySem.F.type_list_append mt_append (pv 3) (pa_cons (pv 6) pa_nil))))) pss_nil)))))))
          (pss_one (ps_ret (pv 2))))))), ?_⟩
    try dsimp only [L2.cxX, L2.cxOf, L2.cxComp]
    walk_at "rds"
    intro d hd
    dsimp only [tPairs]
    walk_at "rds"
    refine ⟨upd_same, [(Sum.inl first, .non)], rfl, by simp, ?_⟩
    have hd1 : (upd (upd H d (.dK [])) d (.dK (mergeK [] [(Sum.inl first, .non)]))) d = some (.dK [(Sum.inl first, .non)]) := upd_same
    have s1 : Same H (upd (upd H d (.dK [])) d (.dK (mergeK [] [(Sum.inl first, .non)]))) := (same_new hd).new hd
    generalize upd (upd H d (.dK [])) d (.dK (mergeK [] [(Sum.inl first, .non)])) = H1 at *
    walk_at "rds"
    refine (fun c hc => ?_)
    have s2 : Same H1 (upd H1 c (.lst [V.int first])) := same_new hc
    have hc2 : (upd H1 c (.lst [V.int first])) c = some (.lst ((Fo.keys [(first, none)]).map V.int)) := upd_same
    have hd2 := s2 _ _ hd1
    have hc0 : H c = none := same_none s1 hc
    have ncd : c ≠ d := fun z => by rw [z, hd1] at hc; cases hc
    generalize upd H1 c (.lst [V.int first]) = H2 at *
    have s02 := s1.trans s2
    have ht2 : TreeAt H2 d [(first, none)] := ⟨_, hd2, .cons ⟨rfl, rfl⟩ .nil⟩
    clear hd1 hd2 s1 s2 hc
    walk_at "rds"
    refine while3 (fun m σ H' => ∃ (tr : Fo.Tree) (dn : Nat) (a1 a2 a3 a4 : Option V), σ = [some (.ref r), some (.int first), some (.ref d), some (.ref c), some (.int dn), a1, a2, a3, a4] ∧ Same H H' ∧ TreeAt H' d tr ∧ H' c = some (.lst ((Fo.keys tr).map V.int)) ∧ dn ≤ tr.length ∧ Fo.Grown W first tr ∧ Fo.Gone W tr dn ∧ m = n + 1 - dn) (n + 1)
      ⟨[(first, none)], 0, _, _, _, _, rfl, s02, ht2, hc2, Nat.zero_le _, Fo.grown_one, fun j w s hj => absurd hj (Nat.not_lt_zero _), rfl⟩ ?_
    rintro m σ H3 ⟨tr, dn, a1, a2, a3, a4, rfl, s3, ht3, hc3, hdn, hg, hgo, rfl⟩
    have hkl : ((Fo.keys tr).map V.int).length = tr.length := by simp [Fo.keys]
    have htn : tr.length ≤ n := by
      have := Fo.len_le (n := n) hg.nodup (hg.rg ⟨f0, f1⟩ hrg)
      simpa [Fo.keys] using this
    walk_at "rds"
    rw [hkl]
    refine Rd.ifD (fun z => ?_) (fun z => ?_)
    · have hdl : dn < tr.length := by omega
      obtain ⟨⟨w, st⟩, ew⟩ : ∃ x, tr[dn]? = some x := ⟨tr[dn], List.getElem?_eq_getElem hdl⟩
      have hwk := Fo.mem_keys ew
      obtain ⟨w0, w1⟩ := hg.rg ⟨f0, f1⟩ hrg w hwk
      have at1 : atI ((Fo.keys tr).map V.int) (dn : Int) = some (.int w) := atI_nat (by rw [List.getElem?_map]; unfold Fo.keys; rw [List.getElem?_map, ew]; rfl)
      have hwl : w.toNat < ia.length := by omega
      have atw := at_refs w0 hwl
      have hw3 := hw.same s3
      have hwr := hw3.at_
      obtain ⟨vs, hv0, hv1⟩ := hw.wa w.toNat hwl
      rw [Int.toNat_of_nonneg w0] at hv1
      have hv3 := s3 _ _ hv0
      have hvl := hv1.length
      refine turn3 ?_
      walk_at "rds"
      refine ⟨_, rfl, ?_⟩
      walk_at "rds"
      refine for_walk (walks_lst (SqL.of hv0)) (fun j σ H' => ∃ (tr : Fo.Tree) (a2 a3 a4 : Option V), σ = [some (.ref r), some (.int first), some (.ref d), some (.ref c), some (.int (dn + 1)), some (.int w), a2, a3, a4] ∧ Same H H' ∧ TreeAt H' d tr ∧ H' c = some (.lst ((Fo.keys tr).map V.int)) ∧ Fo.Grown W first tr ∧ Fo.Gone W tr dn ∧ tr[dn]? = some (w, st) ∧ ∀ t ∈ (W w).take j, t.1 ∈ Fo.keys tr)
        ⟨tr, _, _, _, rfl, s3, ht3, hc3, hg, hgo, ew, by simp⟩ (fun j σ H' ⟨_, _, _, _, _, s, _⟩ => s) ?_ ?_
      · rintro j σ H4 hj ⟨tr, a2, a3, a4, rfl, s4, ⟨kvs, hd4, hen⟩, hc4, hg, hgo, ew, hall⟩
        have hjl : j < (W w).length := by omega
        obtain ⟨t, ht1, ht4⟩ := hv1.at (List.getElem?_eq_getElem hjl)
        have eb : vs.getD j .non = .ref t := by simp [List.getD, ht1]
        rw [eb]
        have hmem : (W w)[j] ∈ W w := List.getElem_mem hjl
        have htk : (W w).take (j + 1) = (W w).take j ++ [(W w)[j]] := List.take_succ_eq_append_getElem hjl
        have ht5 := s4 _ _ ht4
        have hrr := hrg w _ hmem
        generalize (W w)[j] = x at *
        obtain ⟨o, b, al⟩ := x
        refine Rd.gtup (.of ht5) rfl ?_
        dsimp only at *
        have htn : tr.length ≤ n := by
          have := Fo.len_le (n := n) hg.nodup (hg.rg ⟨f0, f1⟩ hrg)
          simpa [Fo.keys] using this
        have hkz : kvs.length < sizeLine := small1000 (by rw [hen.length]; omega)
        have hcz : ((Fo.keys tr).map V.int).length < sizeLine := small1000 (by simp [Fo.keys]; omega)
        walk_at "rds"
        have hs := hen.some (w := o)
        by_cases ho : o ∈ Fo.keys tr
        · rw [hs.mpr ho]
          walk_at "rds"
          refine ⟨tr, _, _, _, rfl, s4, ⟨kvs, hd4, hen⟩, hc4, hg, hgo, ew, ?_⟩
          rw [htk]
          intro t' ht'
          rcases List.mem_append.mp ht' with y | y
          · exact hall t' y
          · rw [List.mem_singleton.mp y]; exact ho
        · have hno : valV kvs (Sum.inl o) = none := by
            cases e : valV kvs (Sum.inl o) with
            | none => rfl
            | some v => exact absurd (hs.mp (by rw [e]; rfl)) ho
          rw [hno, Option.isSome_none]
          walk_at "rds"
          refine ⟨by show 3 ≤ sizeLine; decide, fun t2 ht2 => ?_⟩
          have s5 : Same H4 (upd H4 t2 (.tup [.int w, .int b, .bl al])) := same_new ht2
          have hn5 : (upd H4 t2 (.tup [.int w, .int b, .bl al])) t2 = some (.tup [.int w, .int b, .bl al]) := upd_same
          have hd5 := s5 _ _ hd4
          have hc5 := s5 _ _ hc4
          have hen5 : Ent (upd H4 t2 (.tup [.int w, .int b, .bl al])) kvs tr := hen.keep fun _ _ e => s5 _ _ e
          generalize upd H4 t2 (.tup [.int w, .int b, .bl al]) = H5 at *
          walk_at "rds"
          rw [putK_new _ hno]
          have tk6 : ∀ a xs, H5 a = some (.tup xs) → (upd H5 d (.dK (kvs ++ [(Sum.inl o, .ref t2)]))) a = some (.tup xs) := fun a xs e => by rw [upd_ne (ne_of e hd5 (by intro z; cases z))]; exact e
          have hc6 : (upd H5 d (.dK (kvs ++ [(Sum.inl o, .ref t2)]))) c = some (.lst ((Fo.keys tr).map V.int)) := by rw [upd_ne ncd]; exact hc5
          have hd6 : (upd H5 d (.dK (kvs ++ [(Sum.inl o, .ref t2)]))) d = some (.dK (kvs ++ [(Sum.inl o, .ref t2)])) := upd_same
          have hen6 := (hen5.keep tk6).snoc (w := o) (v := .ref t2) (s := some (w, b, al)) ⟨t2, rfl, tk6 _ _ hn5⟩
          have s6 : Same H (upd H5 d (.dK (kvs ++ [(Sum.inl o, .ref t2)]))) := (s4.trans s5).new hd
          generalize upd H5 d (.dK (kvs ++ [(Sum.inl o, .ref t2)])) = H6 at *
          walk_at "rds"
          have hdl2 := (List.getElem?_eq_some_iff.mp ew).1
          refine ⟨tr ++ [(o, some (w, b, al))], _, _, _, rfl, s6.new hc0, ⟨_, by rw [upd_ne ncd.symm]; exact hd6, hen6.keep fun a xs e => by rw [upd_ne (ne_of e hc6 (by intro z; cases z))]; exact e⟩, ?_, hg.snoc ew hmem ho, hgo.snoc (by omega) _ _, Fo.snoc_at ew, ?_⟩
          · rw [upd_same, Fo.keys_snoc, List.map_append]; rfl
          · rw [htk, Fo.keys_snoc]
            intro t' ht'
            rcases List.mem_append.mp ht' with y | y
            · exact List.mem_append_left _ (hall t' y)
            · rw [List.mem_singleton.mp y]; exact List.mem_append_right _ (List.mem_singleton.mpr rfl)
      · rintro σ H4 ⟨tr, a2, a3, a4, rfl, s4, ht4, hc4, hg, hgo, ew, hall⟩
        rw [← hvl, List.take_length] at hall
        have hdl2 := (List.getElem?_eq_some_iff.mp ew).1
        walk_at "rds"
        exact ⟨n + 1 - (dn + 1), by omega, tr, dn + 1, _, _, _, _, rfl, s4, ht4, hc4, hdl2, hg, hgo.next ew hall, rfl⟩
    · have e : dn = tr.length := by omega
      subst e
      walk_at "rds"
      exact q d H3 tr hd s3 ht3 hg hgo
end
def sp_forest_of {K : PySem.W.Frag} {mg : Str → Option Value} (T : Tp K mg) : Sp := fun vs H Q _ => ∃ (p : Addr) (hl : HM) (fp : List Addr), vs = [.ref p] ∧ HallAt T H p hl fp ∧ hl.names.length ≤ 60 ∧ hl.belts.length ≤ 1000 ∧ Between hl.belts hl.names.length ∧
  ∀ (f : Addr) (ds : List Addr) (H' : Hp) (F : List (Int × Fo.Tree)), H f = none → Same H H' → ForestAt H' f ds F → Fo.Wood (waysL hl.belts) hl.names.length F hl.names.length → F.length ≤ hl.names.length → Q (.ref f) H'
section
variable {P : Program} {w : World} {K : PySem.W.Frag} {mg : Str → Option Value} {base : Heap}
theorem ok_forest_of (T : Tp K mg) : FnOk P w K mg base (CXX P w) 3 T.f_forest_of T.d_forest_of ["hall"] (sp_forest_of T) := by
  have G_ways_of : FnOk P w K mg base (CXX P w) 2 T.f_ways_of T.d_ways_of ["hall"] (sp_ways_of T) := (ok_ways_of T).mono (by decide)
  have G_tree_from : FnOk P w K mg base (CXX P w) 2 T.f_tree_from T.d_tree_from ["ways", "first"] (sp_tree_from T) := (ok_tree_from T).mono (by decide)
  refine T.F_forest_of.okX sc_forest_of (fun vs H Q E h => ?_) (fun cdv A outer s H vs Q E hr h => ?_)
  · obtain ⟨p, hl, fp, rfl, _⟩ := h
    rfl
  · have hu := hr.units
    obtain ⟨p, hl, fp, rfl, hh, hn, hz, hbt, q⟩ := h
    refine ⟨_, (pss_cons (ps_set (i := 1) sc_forest_of.nd rfl (Or.inl rfl) (pe_call G_ways_of hr rfl T.m_ways_of T.F_ways_of.kp T.b_ways_of .nil pass_on (pa_cons (pv 0) pa_nil)))
          (pss_cons (ps_set (i := 2) sc_forest_of.nd rfl (Or.inl rfl) pe_dnewK)
          (pss_cons (ps_set (i := 3) sc_forest_of.nd rfl (Or.inl rfl) (pe_lst pa_nil))
          (pss_cons (ps_for PassesOwn.leaving rfl (pi_range1 rfl T.n_range (pa_cons (pe_callB (len_K (K := K) rfl) (by rfl) T.n_len PySem.boot_len (pa_cons (pv 1) pa_nil)) pa_nil)) (pg_name (i := 4) sc_forest_of.nd rfl (Or.inl rfl)) (pss_one (ps_if (pt_cmpR (op_dNotIn hu) (pv 4) (pv 2) (by with_unfolding_all rfl)) (pss_cons (ps_set (i := 5) sc_forest_of.nd rfl (Or.inl rfl) (pe_call G_tree_from hr rfl T.m_tree_from T.F_tree_from.kp T.b_tree_from .nil pass_on (pa_cons (pv 1) (pa_cons (pv 4) pa_nil))))
          (pss_cons (ps_expr (pe_bmK (K := K) rfl PySem.F.plainAttrs_dict PySem.F.slot_dict_update PySem.F.type_dict_update mt_updD (pv 2) (pa_cons (pv 5) pa_nil)))
          (pss_one (ps_expr (pe_bmK (K := K) rfl PySem.F.plainAttrs_list PySem.F.slot_list_append PySem.F.type_list_append mt_append (pv 3) (pa_cons (pv 5) pa_nil)))))) pss_nil)))
          (pss_one (ps_ret (pv 3))))))), ?_⟩
    try dsimp only [L2.cxX, L2.cxOf, L2.cxComp]
    walk_at "rds"
    refine ⟨p, hl, fp, rfl, hh, by omega, hz, hbt, fun r ia H1 hr s1 hw1 => ?_⟩
    walk_at "rds"
    intro se hse
    have s2 : Same H1 (upd H1 se (.dK [])) := same_new hse
    have hs2 : (upd H1 se (.dK [])) se = some (.dK []) := upd_same
    have hse0 : H se = none := same_none s1 hse
    generalize upd H1 se (.dK []) = H2 at *
    walk_at "rds"
    refine ⟨Nat.zero_le _, fun f hf => ?_⟩
    have s3 : Same H2 (upd H2 f (.lst [])) := same_new hf
    have hf3 : (upd H2 f (.lst [])) f = some (.lst (([] : List Addr).map V.ref)) := upd_same
    have hs3 := s3 _ _ hs2
    have hf1 : H1 f = none := same_none s2 hf
    have hf0 : H f = none := same_none s1 hf1
    generalize upd H2 f (.lst []) = H3 at *
    have s13 := s2.trans s3
    have hw3 := hw1.same s13
    have hwr := hw3.at_
    have hwl : ((ia.map V.ref).length : Int) = (hl.names.length : Int) := by rw [List.length_map, hw1.len]
    walk_at "rds"
    rw [hwl]
    refine for_range (n := hl.names.length) (fun i σ H' => ∃ (kvs : List (Key × V)) (ds : List Addr) (F : List (Int × Fo.Tree)) (a1 a2 : Option V), σ = [some (.ref p), some (.ref r), some (.ref se), some (.ref f), a1, a2] ∧ Same H1 H' ∧ H' se = some (.dK kvs) ∧ H' f = some (.lst (ds.map V.ref)) ∧ Trees H' ds F ∧
      (∀ d ∈ ds, d ≠ se) ∧ kvs.length ≤ 60 * i ∧ (∀ w : Int, (valV kvs (Sum.inl w)).isSome = true ↔ ∃ x ∈ F, w ∈ Fo.keys x.2) ∧ Fo.Wood (waysL hl.belts) hl.names.length F i ∧ F.length ≤ i)
      ⟨[], [], [], _, _, rfl, s13, hs3, hf3, .nil, by simp, Nat.zero_le _, fun w => ⟨fun z => (by cases z), fun ⟨x, hx, _⟩ => (by cases hx)⟩, Fo.wood_nil, Nat.le_refl _⟩ ?_ ?_
    · rintro i σ H4 hi ⟨kvs, ds, F, a1, a2, rfl, s4, hs4, hf4, hT4, hds, hkl, hin, hwd, hFl⟩
      rw [Int.zero_add]
      walk_at "rds"
      have hs := hin (i : Int)
      by_cases hx : ∃ x ∈ F, (i : Int) ∈ Fo.keys x.2
      · rw [hs.mpr hx]
        walk_at "rds"
        exact ⟨kvs, ds, F, _, _, rfl, s4, hs4, hf4, hT4, hds, by omega, hin, hwd.skip hx, by omega⟩
      · have hno : (valV kvs (Sum.inl (i : Int))).isSome = false := by
          cases e : (valV kvs (Sum.inl (i : Int))).isSome with
          | false => rfl
          | true => exact absurd (hs.mp e) hx
        rw [hno]
        walk_at "rds"
        refine ⟨r, ia, hl.names.length, waysL hl.belts, (i : Int), rfl, hw1.same s4, by omega, ways_rg hbt, by omega, by omega, fun d H5 tr hd0 s5 ht5 hg hgo => ?_⟩
        obtain ⟨more, hd5, hen⟩ := id ht5
        have nds : se ≠ d := ne_of_none hs4 hd0
        have hs5 := s5 _ _ hs4
        have hf5 := s5 _ _ hf4
        have hT5 := hT4.same s5
        have hrg5 := hg.rg (n := (hl.names.length : Int)) ⟨by omega, by omega⟩ (ways_rg hbt)
        have htl : tr.length ≤ hl.names.length := by
          have := Fo.len_le (n := hl.names.length) hg.nodup hrg5
          simpa [Fo.keys] using this
        have hml : more.length ≤ 60 := by rw [hen.length]; omega
        walk_at "rds"
        refine ⟨.inr (.inr (.inl ⟨rfl, .inl ⟨_, hs5⟩⟩)), ?_⟩
        walk_at "rds"
        refine Rd.updD nds hs5 hd5 (Nat.le_of_lt (small1000' (by omega))) ?_
        have hme := merge_some more kvs
        have hmk := length_mergeK more kvs
        have tk6 : ∀ a xs, H5 a = some (.tup xs) → (upd H5 se (.dK (mergeK kvs more))) a = some (.tup xs) := fun a xs e => by rw [upd_ne (ne_of e hs5 (by intro z; cases z))]; exact e
        have hs6 : (upd H5 se (.dK (mergeK kvs more))) se = some (.dK (mergeK kvs more)) := upd_same
        have hf6 : (upd H5 se (.dK (mergeK kvs more))) f = some (.lst (ds.map V.ref)) := by rw [upd_ne (ne_of hf5 hs5 (by intro z; cases z))]; exact hf5
        have hd6 : TreeAt (upd H5 se (.dK (mergeK kvs more))) d tr := ⟨more, by rw [upd_ne nds.symm]; exact hd5, hen.keep tk6⟩
        have hT6 : Trees (upd H5 se (.dK (mergeK kvs more))) ds F := hT5.keep tk6 (fun d' hd' ks e => by rw [upd_ne (hds d' hd')]; exact e)
        have s6 : Same H1 (upd H5 se (.dK (mergeK kvs more))) := (s4.trans s5).new hse
        generalize upd H5 se (.dK (mergeK kvs more)) = H6 at *
        have hdz : (ds.map V.ref).length < sizeLine := small1000 (by rw [List.length_map, hT4.length]; omega)
        walk_at "rds"
        have tk7 : ∀ a xs, H6 a = some (.tup xs) → (upd H6 f (.lst (ds.map V.ref ++ [.ref d]))) a = some (.tup xs) := fun a xs e => by rw [upd_ne (ne_of e hf6 (by intro z; cases z))]; exact e
        have dk7 : ∀ a ks, H6 a = some (.dK ks) → (upd H6 f (.lst (ds.map V.ref ++ [.ref d]))) a = some (.dK ks) := fun a ks e => by rw [upd_ne (ne_of e hf6 (by intro z; cases z))]; exact e
        obtain ⟨more', hd6', hen6⟩ := hd6
        refine ⟨mergeK kvs more, ds ++ [d], F ++ [((i : Int), tr)], _, _, rfl, s6.new hf1, dk7 _ _ hs6, by rw [upd_same, List.map_append]; rfl, (hT6.keep tk7 fun d' _ ks e => dk7 _ _ e).snoc ⟨more', dk7 _ _ hd6', hen6.keep tk7⟩, fun d' hd' => ?_, by omega, fun w => ?_, hwd.grow (ways_both _) (ways_rg hbt) hi (fun x hx' hk => hx ⟨x, hx', hk⟩) hg hgo, by simp; omega⟩
        · rcases List.mem_append.mp hd' with z | z
          · exact hds d' z
          · rw [List.mem_singleton.mp z]; exact nds.symm
        · rw [hme, Bool.or_eq_true, hin w, hen.some]
          constructor
          · rintro (⟨x, hx1, hx2⟩ | z)
            · exact ⟨x, List.mem_append_left _ hx1, hx2⟩
            · exact ⟨_, List.mem_append_right _ (List.mem_singleton.mpr rfl), z⟩
          · rintro ⟨x, hx1, hx2⟩
            rcases List.mem_append.mp hx1 with z | z
            · exact .inl ⟨x, z, hx2⟩
            · rw [List.mem_singleton.mp z] at hx2; exact .inr hx2
    · rintro σ H4 ⟨kvs, ds, F, a1, a2, rfl, s4, hs4, hf4, hT4, hds, hkl, hin, hwd, hFl⟩
      walk_at "rds"
      exact q f ds H4 F hf0 (s1.trans s4) ⟨hf4, hT4⟩ hwd hFl
end
def sp_pieces_of {K : PySem.W.Frag} {mg : Str → Option Value} (T : Tp K mg) : Sp := fun vs H Q _ => ∃ (p : Addr) (hl : HM) (fp : List Addr), vs = [.ref p] ∧ HallAt T H p hl fp ∧ hl.names.length ≤ 60 ∧ hl.belts.length ≤ 1000 ∧ Between hl.belts hl.names.length ∧
  ∀ (r : Addr) (ys : List V) (xss : List (List Int)) (H' : Hp) (F : List (Int × Fo.Tree)), H r = none → Same H H' → H' r = some (.lst ys) → RowsAt (hid H' r) ys xss → (∀ v ∈ ys, ∃ t, v = .ref t ∧ H t = none) → Sorts xss F → Fo.Wood (waysL hl.belts) hl.names.length F hl.names.length → F.length ≤ hl.names.length → Q (.ref r) H'
theorem sorts_of {H0 H : Hp} {F : List (Int × Fo.Tree)} : ∀ {zs : List Nat} {ys : List V}, (∀ z ∈ zs, z < F.length) → Paired (fun i v => ∃ t xs, v = V.ref t ∧ H0 t = none ∧ H t = some (.lst ((xs : List Int).map V.int)) ∧ xs.Perm (Fo.keys (F.getD i (0, [])).2) ∧ xs.Pairwise (· ≤ ·)) zs ys → ∃ xss, RowsAt H ys xss ∧ Sorts xss (zs.map fun i => F.getD i (0, [])) ∧ ∀ v ∈ ys, ∃ t, v = V.ref t ∧ H0 t = none
  | _, _, _, .nil => ⟨[], .nil, .nil, by simp⟩
  | _, _, hz, .cons ⟨t, xs, e, h0, h1, h2, h3⟩ r => by
    obtain ⟨xss, h4, h5, h6⟩ := sorts_of (fun z hz' => hz z (List.mem_cons_of_mem _ hz')) r
    refine ⟨xs :: xss, .cons ⟨t, e, h1⟩ h4, .cons ⟨h2, h3⟩ h5, fun v hv => ?_⟩
    rcases List.mem_cons.mp hv with rfl | hv
    · exact ⟨t, e, h0⟩
    · exact h6 v hv
section
variable {P : Program} {w : World} {K : PySem.W.Frag} {mg : Str → Option Value} {base : Heap}
theorem ok_pieces_of (T : Tp K mg) : FnOk P w K mg base (CXX P w) 4 T.f_pieces_of T.d_pieces_of ["hall"] (sp_pieces_of T) := by
  have G_forest_of : FnOk P w K mg base (CXX P w) 3 T.f_forest_of T.d_forest_of ["hall"] (sp_forest_of T) := (ok_forest_of T).mono (by decide)
  refine T.F_pieces_of.okX sc_pieces_of (fun vs H Q E h => ?_) (fun cdv A outer s H vs Q E hr h => ?_)
  · obtain ⟨p, hl, fp, rfl, _⟩ := h
    rfl
  · have hu := hr.units
    obtain ⟨p, hl, fp, rfl, hh, hn, hz, hbt, q⟩ := h
    refine ⟨_, (pss_one (ps_ret (pe_compN (xs := ["tree"]) rfl (cscope (x := "tree") (zs := []) (ix := []) (defScope s_pieces_of) ["hall"] rfl rfl (by decide +kernel)) (pi_listK (K := K) rfl (pe_call G_forest_of hr rfl T.m_forest_of T.F_forest_of.kp T.b_forest_of .nil pass_on (pa_cons (pv 0) pa_nil))) (fun cl C s H fp => ⟨(pg_name (i := 0) (show (["tree"] : List Str).Nodup by decide +kernel) rfl (Or.inl rfl)), pif_nil, (pe_callB (call_sortedD rfl) (by rfl) T.n_sorted PyProof.Rows.boot_sorted (pa_cons (pv 0) pa_nil))⟩)))), ?_⟩
    try dsimp only [L2.cxX, L2.cxOf, L2.cxComp]
    walk_at "rds"
    refine ⟨p, hl, fp, rfl, hh, hn, hz, hbt, fun f ds H1 F hf0 s1 hF hwd hFl => ?_⟩
    have hdl := hF.trees.length
    have hfa := hF.at_
    walk_at "rds"
    refine compN_walk (own := 1) (walks_lst (SqL.of hfa)).y (small1000 (by rw [List.length_map, hdl]; omega)) (fun i => [some ((ds.map V.ref).getD i .non)]) (fun _ => rfl) (fun _ => true) (fun i v H' => ∃ t xs, v = .ref t ∧ H t = none ∧ H' t = some (.lst ((xs : List Int).map V.int)) ∧ xs.Perm (Fo.keys (F.getD i (0, [])).2) ∧ xs.Pairwise (· ≤ ·)) (fun i v G1 G2 e z => ?_) (fun i a' H' v H3 Kg hi sm y hal k => ?_) (fun i H' Kc hi sm k => ?_) (fun pp i H' Kc hi hci hp0 hp1 sm k => ?_) (fun r H3 ys hr sm hl' hR => ?_)
    · obtain ⟨t, xs, e1, e0, e2, e3⟩ := z
      exact ⟨t, xs, e1, e0, e _ _ e2, e3⟩
    · obtain ⟨rfl, rfl⟩ := y
      obtain ⟨x1, rfl⟩ : ∃ x1, a' = [x1] := by
        match a', hal with
        | [x1], _ => exact ⟨x1, rfl⟩
      walk_at "rds"
      exact k _ (Same.refl _)
    · walk_at "rds"
      exact k H' (Same.refl H')
    · have hi' : i < ds.length := by simpa using hi
      have hiF : i < F.length := by omega
      have ei : (ds.map V.ref).getD i .non = .ref ds[i] := by simp [List.getD, hi']
      rw [ei]
      obtain ⟨x, hx, ht⟩ := Paired.get' hF.trees (List.getElem?_eq_getElem hi')
      have ex : F.getD i (0, []) = x := by simp [List.getD, hx]
      rw [ex] at k
      obtain ⟨kvs, hd, hen⟩ := ht.same sm
      obtain ⟨g, gg, g0, g1⟩ := hwd.tree x (List.mem_of_getElem? hx)
      have htl : (Fo.keys x.2).length ≤ hl.names.length := Fo.len_le (n := hl.names.length) g.nodup (g.rg ⟨g0, g1⟩ (ways_rg hbt))
      have hkl : kvs.length < 64 := by
        rw [hen.length]
        have : (Fo.keys x.2).length = x.2.length := by simp [Fo.keys]
        omega
      walk_at "rds"
      refine Rd.sortD hd hen.keys hkl (fun l ns hl0 hp hs => ?_)
      exact k _ _ (same_new hl0) ⟨l, ns, rfl, same_none (s1.trans sm) hl0, hid_new hp1 hl0, hp, hs⟩
    · rw [List.filter_eq_self.mpr (by simp), List.length_map, hdl] at hR
      obtain ⟨xss, h1, h2, h3⟩ := sorts_of (fun z hz => List.mem_range.mp hz) hR
      have e3 : (List.range F.length).map (fun i => F.getD i (0, [])) = F := by
        refine List.ext_getElem (by simp) fun j h1 h2 => ?_
        simp [List.getD, h2]
      rw [e3] at h2
      exact q r ys xss H3 F (same_none s1 hr) (s1.trans sm) hl' h1 h3 h2 hwd hFl
end
def sp_l_due {K : PySem.W.Frag} {mg : Str → Option Value} (T : Tp K mg) : Sp := fun vs H Q _ => ∃ (qa : Addr) (m : Nat) (pw : List V) (E : List (Nat × Nat)), vs = [.ref qa, .int m] ∧ H qa = some (.lst pw) ∧ Twos H E pw ∧ (∀ e ∈ E, e.1 < m ∧ e.2 < m) ∧ m ≤ 60 ∧
  ∀ (r : Addr) (H' : Hp) (ys : List V), H r = none → Same H H' → H' r = some (.lst ys) → RowsAt (hid H' r) ys (dueT E m) → Q (.ref r) H'
section
variable {P : Program} {w : World} {K : PySem.W.Frag} {mg : Str → Option Value} {base : Heap}
theorem ok_l_due (T : Tp K mg) : FnOk P w K mg base (CXX P w) 1 T.f_l_due T.d_l_due ["_law_lines", "_law_many"] (sp_l_due T) := by
  refine T.F_l_due.okX sc_l_due (fun vs H Q E h => ?_) (fun cdv A outer s H vs Q E hr h => ?_)
  · obtain ⟨qa, m, pw, E, rfl, _⟩ := h
    rfl
  · have hu := hr.units
    obtain ⟨qa, m, pw, E, rfl, hq, hE2, hE, hm, q⟩ := h
    have hpl := hE2.length
    refine ⟨_, (pss_cons (ps_set (i := 2) sc_l_due.nd rfl (Or.inr rfl) (pe_lrng rfl (by rfl) T.n_list (by rfl) T.n_range (pa_cons (pv 1) pa_nil)))
          (pss_cons (ps_for PassesOwn.leaving rfl (pi_range1 rfl T.n_range (pa_cons (pv 1) pa_nil)) (pg_name (i := 3) sc_l_due.nd rfl (Or.inl rfl)) (pss_one (ps_for PassesOwn.leaving rfl (pi_listK (K := K) rfl (pv 0)) (pg_tupK (K := K) (n := 2) rfl rfl (pgs_cons (pg_name (i := 4) sc_l_due.nd rfl (Or.inl rfl)) (pgs_cons (pg_name (i := 5) sc_l_due.nd rfl (Or.inl rfl)) pgs_nil))) (pss_cons (ps_set (i := 6) sc_l_due.nd rfl (Or.inl rfl) (pe_callB (call_min2 rfl) (by rfl) T.n_min PyProof.Rows.boot_min (pa_cons (pe_ix (ix_K (K := K) rfl) (pv 2) (pv 4) (fun _ _ => rfl)) (pa_cons (pe_ix (ix_K (K := K) rfl) (pv 2) (pv 5) (fun _ _ => rfl)) pa_nil))))
          (pss_cons (ps_asg (pv 6) (pg_sub (pv 2) (pv 4) set_list))
          (pss_one (ps_asg (pv 6) (pg_sub (pv 2) (pv 5) set_list))))))))
          (pss_cons (ps_set (i := 7) sc_l_due.nd rfl (Or.inl rfl) (pe_lst pa_nil))
          (pss_cons (ps_for PassesOwn.leaving rfl (pi_range1 rfl T.n_range (pa_cons (pv 1) pa_nil)) (pg_name (i := 8) sc_l_due.nd rfl (Or.inr rfl)) (pss_cons (ps_comp (j := 9) rfl (cscope (x := "_law_work") (zs := ["_law_labels", "_law_first"]) (ix := [2, 8]) (defScope s_l_due) ["_law_lines", "_law_many", "_law_labels", "_law_lap", "_law_giver", "_law_taker", "_law_low", "_law_told", "_law_first", "_law_piece"] rfl rfl (by decide +kernel)) (pi_range1 rfl T.n_range (pa_cons (pv 1) pa_nil)) (fun cl C s H fp => ⟨(pg_name (i := 0) (show (["_law_work", "_law_labels", "_law_first"] : List Str).Nodup by decide +kernel) rfl (Or.inl rfl)), (pif_one (pt_cmpR (op_eqK (K := K) rfl hu) (pe_ix (ix_K (K := K) rfl) (pv 1) (pv 0) (fun _ _ => rfl)) (pv 2) (nomark _))), (pv 0)⟩) sc_l_due.nd rfl (Or.inl rfl))
          (pss_one (ps_if (pt_cmpR (op_neK (K := K) rfl hu) (pv 9) (pe_lst pa_nil) (nomark _)) (pss_one (ps_expr (pe_bmK (K := K) rfl PySem.F.plainAttrs_list PySem.F.slot_list_append PySem.F.type_list_append mt_append (pv 7) (pa_cons (pv 9) pa_nil)))) pss_nil))))
          (pss_one (ps_ret (pv 7))))))), ?_⟩
    try dsimp only [L2.cxX, L2.cxOf, L2.cxComp]
    walk_at "rds"
    refine Rd.lrng ?_
    walk_at "rds"
    refine ⟨m, rfl, by omega, fun l hl => ?_⟩
    have eL : ((List.range m).map fun i : Nat => V.int i) = (labs (Pc.laps E 0 fun i => i) m).map V.int := by unfold labs; rw [List.map_map]; rfl
    rw [eL]
    have hl1 : (upd H l (.lst ((labs (Pc.laps E 0 fun i => i) m).map V.int))) l = some (.lst ((labs (Pc.laps E 0 fun i => i) m).map V.int)) := upd_same
    have s1 : Same H (upd H l (.lst ((labs (Pc.laps E 0 fun i => i) m).map V.int))) := same_new hl
    generalize upd H l (.lst ((labs (Pc.laps E 0 fun i => i) m).map V.int)) = H1 at *
    have hq1 := s1 _ _ hq
    walk_at "rds"
    refine for_range (n := m) (fun i σ H' => Same H H' ∧ (∃ a1 a2 a3 a4, σ = [some (.ref qa), some (.int m), some (.ref l), a1, a2, a3, a4, none, none, none]) ∧ H' l = some (.lst ((labs (Pc.laps E i fun i => i) m).map V.int))) ⟨s1, ⟨_, _, _, _, rfl⟩, hl1⟩ ?_ ?_
    · rintro i σ H2 hi ⟨s2, ⟨a1, a2, a3, a4, rfl⟩, hl2⟩
      have hq2 := s2 _ _ hq
      walk_at "rds"
      refine for_walk (walks_lst (SqL.of hq)) (fun j σ H' => Same H H' ∧ (∃ a2 a3 a4, σ = [some (.ref qa), some (.int m), some (.ref l), some (.int (0 + (i : Int))), a2, a3, a4, none, none, none]) ∧ H' l = some (.lst ((labs ((E.take j).foldl Pc.step (Pc.laps E i fun i => i)) m).map V.int))) ⟨s2, ⟨_, _, _, rfl⟩, hl2⟩ (fun j σ H' h => h.1) ?_ ?_
      · rintro j σ H3 hj ⟨s3, ⟨a2, a3, a4, rfl⟩, hl3⟩
        have hjl : j < E.length := by omega
        obtain ⟨v, hv, t, rfl, ht⟩ := Paired.get' hE2 (List.getElem?_eq_getElem hjl)
        have eb : pw.getD j .non = .ref t := by simp [List.getD, hv]
        rw [eb]
        obtain ⟨e1, e2⟩ := hE _ (List.getElem_mem hjl)
        have et : (E.take (j + 1)).foldl Pc.step (Pc.laps E i fun i => i) = Pc.step ((E.take j).foldl Pc.step (Pc.laps E i fun i => i)) E[j] := by
          rw [List.take_succ_eq_append_getElem hjl, List.foldl_append]; rfl
        rw [et]
        generalize (E.take j).foldl Pc.step (Pc.laps E i fun i => i) = f at *
        generalize E[j] = e at *
        refine Rd.gtup (.of (s3 _ _ ht)) rfl ?_
        have at1 := labs_at (f := f) e1
        have at2 := labs_at (f := f) e2
        have hst := labs_step (f := f) e1 e2
        have hll := labs_len f m
        walk_at "rds"
        have emin : (if ((f e.2 : Nat) : Int) < ((f e.1 : Nat) : Int) then ((f e.2 : Nat) : Int) else ((f e.1 : Nat) : Int)) = ((min (f e.1) (f e.2) : Nat) : Int) := by split <;> omega
        rw [emin]
        walk_at "rds"
        have hl4 : (upd H3 l (.lst (((labs f m).map V.int).set (e.1 : Int).toNat (.int ((min (f e.1) (f e.2) : Nat) : Int))))) l = some (.lst (((labs f m).map V.int).set (e.1 : Int).toNat (.int ((min (f e.1) (f e.2) : Nat) : Int)))) := upd_same
        have s4 : Same H (upd H3 l (.lst (((labs f m).map V.int).set (e.1 : Int).toNat (.int ((min (f e.1) (f e.2) : Nat) : Int))))) := s3.new hl
        generalize upd H3 l (.lst (((labs f m).map V.int).set (e.1 : Int).toNat (.int ((min (f e.1) (f e.2) : Nat) : Int)))) = H4 at *
        walk_at "rds"
        refine Rd.setL hl4 (by omega) (by rw [List.length_set, List.length_map, hll]; omega) ?_
        walk_at "rds"
        refine ⟨s4.new hl, ⟨_, _, _, rfl⟩, ?_⟩
        rw [upd_same, Int.toNat_natCast, Int.toNat_natCast, ← hst, List.map_set, List.map_set]
      · rintro σ H3 ⟨s3, ⟨a2, a3, a4, rfl⟩, hl3⟩
        rw [← hpl, List.take_length] at hl3
        walk_at "rds"
        exact ⟨s3, ⟨_, _, _, _, rfl⟩, hl3⟩
    · rintro σ H2 ⟨s2, ⟨a1, a2, a3, a4, rfl⟩, hl2⟩
      walk_at "rds"
      refine ⟨Nat.zero_le _, fun r hr => ?_⟩
      have s3 : Same H2 (upd H2 r (.lst [])) := same_new hr
      have hr3 : (upd H2 r (.lst [])) r = some (.lst []) := upd_same
      have hr0 : H r = none := same_none s2 hr
      have hl3 := s3 _ _ hl2
      have nlr : l ≠ r := ne_of_none hl2 hr
      generalize upd H2 r (.lst []) = H3 at *
      walk_at "rds"
      refine for_range (n := m) (fun i σ H' => Same H H' ∧ (∃ a5 a6, σ = [some (.ref qa), some (.int m), some (.ref l), a1, a2, a3, a4, some (.ref r), a5, a6]) ∧ H' l = some (.lst ((labs (labT E m) m).map V.int)) ∧ ∃ ys, H' r = some (.lst ys) ∧ RowsAt (hid H' r) ys (((List.range i).map (clsT E m)).filter fun xs => decide (xs ≠ [])) ∧ ys.length ≤ i)
        ⟨s2.trans s3, ⟨_, _, rfl⟩, hl3, [], hr3, .nil, Nat.le_refl _⟩ ?_ ?_
      · rintro i σ H4 hi ⟨s4, ⟨a5, a6, rfl⟩, hl4, ys, hr4, hR, hyl⟩
        walk_at "rds"
        refine comp_walk walks_rng (small1000 (by omega)) (fun w => decide (labT E m w = i)) (fun w => .int (0 + (w : Int))) (fun w H' Kc hw sm k => ?_) (fun w H' Kc hw hcj sm k => ?_) (fun c H5 hc s5 hc5 => ?_)
        · have at1 := labs_at (f := labT E m) (m := m) (g := w) (by omega)
          have hl5 := sm _ _ hl4
          have e0 : (0 + (w : Int)) = (w : Int) := Int.zero_add _
          walk_at "rds"
          rw [e0]
          refine Rd.ixuL (.of hl5) at1 ?_
          walk_at "rds"
          have ed : decide (((labT E m w : Nat) : Int) = 0 + (i : Int)) = decide (labT E m w = i) := by rw [decide_eq_decide]; omega
          rw [ed]
          exact k H' (Same.refl H')
        · walk_at "rds"
          exact k H' (Same.refl H')
        have hc6 : H5 c = some (.lst ((clsT E m i).map V.int)) := by
          rw [hc5]
          unfold clsT
          rw [List.map_map]
          have e1 : ((m : Int).toNat) = m := Int.toNat_natCast m
          have e2 : (fun w : Nat => V.int (0 + (w : Int))) = (V.int ∘ fun w : Nat => (w : Int)) := by funext w; simp
          rw [e2]
          simp only [e1]
        clear hc5
        have hr5 := s5 _ _ hr4
        have hl5 := s5 _ _ hl4
        have hR5 := hR.same (hid_sames (p := r) s5)
        have s45 := s4.trans s5
        have ncr : c ≠ r := (ne_of_none hr4 hc).symm
        walk_at "rds"
        refine ⟨Nat.zero_le _, fun e he => ?_⟩
        have se : Same H5 (upd H5 e (.lst [])) := same_new he
        have he1 : (upd H5 e (.lst [])) e = some (.lst (([] : List Int).map V.int)) := upd_same
        have hc7 := se _ _ hc6
        have hr7 := se _ _ hr5
        have hl7 := se _ _ hl5
        have hR7 := hR5.same (hid_sames (p := r) se)
        have s7 := s45.trans se
        generalize upd H5 e (.lst []) = H7 at *
        refine Rd.neUD (DRel.ints (SqL.of hc7)) (DRel.ints (SqL.of he1)) (layL_ints _) (layL_ints _) (depthL_ints _) ?_
        rw [eqv_ints]
        refine Rd.bl ?_
        rw [dueT_step]
        by_cases z : clsT E m i = []
        · have eN : (if clsT E m i ≠ [] then [clsT E m i] else []) = [] := if_neg (fun y => y z)
          rw [decide_eq_true z, eN, List.append_nil]
          walk_at "rds"
          exact ⟨s7, ⟨_, _, rfl⟩, hl7, ys, hr7, hR7, by omega⟩
        · have eN : (if clsT E m i ≠ [] then [clsT E m i] else []) = [clsT E m i] := if_pos z
          rw [decide_eq_false z, eN]
          have yz : ys.length < sizeLine := small1000 (by omega)
          walk_at "rds"
          refine ⟨s7.new hr0, ⟨_, _, rfl⟩, by rw [upd_ne nlr]; exact hl7, ys ++ [.ref c], upd_same, RowsAt.snoc (hR7.same hid_upd) ?_, by simp; omega⟩
          rw [hid_ne ncr, upd_ne ncr]
          exact hc7
      · rintro σ H4 ⟨s4, ⟨a5, a6, rfl⟩, hl4, ys, hr4, hR, hyl⟩
        walk_at "rds"
        exact q r H4 ys hr0 s4 hr4 hR
end
def sp_l_asked {K : PySem.W.Frag} {mg : Str → Option Value} (T : Tp K mg) : Sp := fun vs H Q _ => ∃ (p qa : Addr) (hl : HM) (fp : List Addr) (pw : List V), vs = [.ref p, .ref qa, .int hl.names.length] ∧ HallAt T H p hl fp ∧ hl.names.length ≤ 60 ∧ hl.belts.length ≤ 1000 ∧ Between hl.belts hl.names.length ∧
  H qa = some (.lst pw) ∧ Twos H (pairsT hl.belts) pw ∧ ∀ H', Same H H' → Q (.bl true) H'
section
variable {P : Program} {w : World} {K : PySem.W.Frag} {mg : Str → Option Value} {base : Heap}
theorem ok_l_asked (T : Tp K mg) : FnOk P w K mg base (CXX P w) 5 T.f_l_asked T.d_l_asked ["_law_hall", "_law_lines", "_law_many"] (sp_l_asked T) := by
  have G_pieces_of : FnOk P w K mg base (CXX P w) 4 T.f_pieces_of T.d_pieces_of ["hall"] (sp_pieces_of T) := (ok_pieces_of T).mono (by decide)
  have G_l_due : FnOk P w K mg base (CXX P w) 4 T.f_l_due T.d_l_due ["_law_lines", "_law_many"] (sp_l_due T) := (ok_l_due T).mono (by decide)
  refine T.F_l_asked.okX sc_l_asked (fun vs H Q E h => ?_) (fun cdv A outer s H vs Q E hr h => ?_)
  · obtain ⟨p, qa, hl, fp, pw, rfl, _⟩ := h
    rfl
  · have hu := hr.units
    obtain ⟨p, qa, hl, fp, pw, rfl, hh, hn, hz, hbt, hq, h2, q⟩ := h
    refine ⟨_, (pss_cons (ps_set (i := 3) sc_l_asked.nd rfl (Or.inl rfl) (pe_call G_pieces_of hr rfl T.m_pieces_of T.F_pieces_of.kp T.b_pieces_of .nil pass_on (pa_cons (pv 0) pa_nil)))
          (pss_cons (ps_if (pt_not (pt_truK (K := K) rfl (pe_callB (isi_K (K := K) rfl) (by rfl) T.n_isinstance PyProof.Rows.boot_isinstance (pa_cons (pv 3) (pa_cons (pe_bltn (v := .ty "list") (by rfl) T.n_list PyProof.Rows.boot_list rfl) pa_nil))) (fun _ => rfl))) (pss_one (ps_ret pe_bl)) pss_nil)
          (pss_cons (ps_for PassesOwn.leaving rfl (pi_listK (K := K) rfl (pv 3)) (pg_name (i := 4) sc_l_asked.nd rfl (Or.inl rfl)) (pss_cons (ps_if (pt_not (pt_truK (K := K) rfl (pe_callB (isi_K (K := K) rfl) (by rfl) T.n_isinstance PyProof.Rows.boot_isinstance (pa_cons (pv 4) (pa_cons (pe_bltn (v := .ty "list") (by rfl) T.n_list PyProof.Rows.boot_list rfl) pa_nil))) (fun _ => rfl))) (pss_one (ps_ret pe_bl)) pss_nil)
          (pss_one (ps_for PassesOwn.leaving rfl (pi_listK (K := K) rfl (pv 4)) (pg_name (i := 5) sc_l_asked.nd rfl (Or.inl rfl)) (pss_one (ps_if (PW.pt (pw_or (pt_not (pt_truK (K := K) rfl (pe_callB (isi_K (K := K) rfl) (by rfl) T.n_isinstance PyProof.Rows.boot_isinstance (pa_cons (pv 5) (pa_cons (pe_bltn (v := .ty "int") (by rfl) T.n_int PyProof.Rows.boot_int rfl) pa_nil))) (fun _ => rfl))) (pw_or1 (pt_truK (K := K) rfl (pe_callB (isi_K (K := K) rfl) (by rfl) T.n_isinstance PyProof.Rows.boot_isinstance (pa_cons (pv 5) (pa_cons (pe_bltn (v := .ty "bool") (by rfl) T.n_bool PyProof.Rows.boot_bool rfl) pa_nil))) (fun _ => rfl))))) (pss_one (ps_ret pe_bl)) pss_nil))))))
          (pss_cons (ps_if (pt_cmpR (op_neK (K := K) rfl hu) (pv 3) (pe_call G_l_due hr rfl T.m_l_due T.F_l_due.kp T.b_l_due .nil pass_on (pa_cons (pv 1) (pa_cons (pv 2) pa_nil))) (nomark _)) (pss_one (ps_ret pe_bl)) pss_nil)
          (pss_cons (ps_for PassesOwn.leaving rfl (pi_listK (K := K) rfl (pv 3)) (pg_name (i := 4) sc_l_asked.nd rfl (Or.inl rfl)) (pss_one (ps_expr (pe_bmK (K := K) rfl PySem.F.plainAttrs_list PySem.F.slot_list_append PySem.F.type_list_append mt_append (pv 4) (pa_cons pe_int pa_nil)))))
          (pss_cons (ps_expr (pe_bmK (K := K) rfl PySem.F.plainAttrs_list PySem.F.slot_list_append PySem.F.type_list_append mt_append (pv 3) (pa_cons (pe_lst pa_nil) pa_nil)))
          (pss_one (ps_ret pe_bl)))))))), ?_⟩
    try dsimp only [L2.cxX, L2.cxOf, L2.cxComp]
    walk_at "rds"
    refine ⟨p, hl, fp, rfl, hh, hn, hz, hbt, fun r ys xss H1 F hr0 s1 hr1 hR hnew hS hwd hFl => ?_⟩
    have exs := pieces_due hbt hwd hS
    have hyl : ys.length = F.length := by rw [hR.length]; exact Paired.length hS
    have hxs : ∀ xs ∈ xss, xs.length ≤ 60 := by
      intro xs hx
      obtain ⟨i, hi, rfl⟩ := List.getElem_of_mem hx
      obtain ⟨x, hx1, hp, _⟩ := Paired.get' hS (List.getElem?_eq_getElem hi)
      obtain ⟨g, gg, g0, g1⟩ := hwd.tree x (List.mem_of_getElem? hx1)
      have := Fo.len_le (n := hl.names.length) g.nodup (g.rg ⟨g0, g1⟩ (ways_rg hbt))
      rw [hp.length_eq]
      omega
    have hrow : ∀ v ∈ ys, ∃ (t : Addr) (xs : List Int), v = .ref t ∧ H t = none ∧ t ≠ r ∧ H1 t = some (.lst (xs.map V.int)) ∧ xs.length ≤ 60 := by
      intro v hv
      obtain ⟨i, hi, rfl⟩ := List.getElem_of_mem hv
      have hix : i < xss.length := by rw [← hR.length]; exact hi
      obtain ⟨t, ht1, ht2⟩ := hR.at (List.getElem?_eq_getElem hix)
      rw [List.getElem?_eq_getElem hi] at ht1
      have ht1' := Option.some.inj ht1
      obtain ⟨t', e', hn'⟩ := hnew _ (List.getElem_mem hi)
      rw [ht1'] at e'
      cases e'
      have nr : t ≠ r := fun z => by rw [z, hid_self] at ht2; cases ht2
      exact ⟨t, xss[i], ht1', hn', nr, hid_same _ _ ht2, hxs _ (List.getElem_mem hix)⟩
    have hyz : ys.length < sizeLine := small1000 (by omega)
    walk_at "rds"
    refine for_walk (walks_lst (SqL.of hr1)) (fun i σ H' => H' = H1 ∧ ∃ a1 a2, σ = [some (.ref p), some (.ref qa), some (.int hl.names.length), some (.ref r), a1, a2]) ⟨rfl, _, _, rfl⟩ (fun i σ H' h => h.1 ▸ Same.refl H1) ?_ ?_
    · rintro i σ H' hi ⟨rfl, a1, a2, rfl⟩
      have em : ys.getD i .non ∈ ys := by rw [getD_of hi]; exact List.getElem_mem hi
      obtain ⟨t, xs, e, hn0, hnr, ht, hxl⟩ := hrow _ em
      rw [e]
      walk_at "rds"
      refine for_walk (walks_lst (SqL.of ht)) (fun j σ H2 => H2 = H' ∧ ∃ a2, σ = [some (.ref p), some (.ref qa), some (.int hl.names.length), some (.ref r), some (.ref t), a2]) ⟨rfl, _, rfl⟩ (fun i σ H2 h => h.1 ▸ Same.refl H') ?_ ?_
      · rintro j σ H2 hj ⟨rfl, a2, rfl⟩
        have hj' : j < xs.length := by simpa using hj
        rw [ints_getD hj']
        walk_at "rds"
        exact ⟨rfl, _, rfl⟩
      · rintro σ H2 ⟨rfl, a2, rfl⟩
        exact ⟨rfl, _, _, rfl⟩
    · rintro σ H' ⟨rfl, a1, a2, rfl⟩
      walk_at "rds"
      refine ⟨qa, hl.names.length, pw, pairsT hl.belts, rfl, s1 _ _ hq, h2.keep fun _ _ e => s1 _ _ e, pairs_lt hbt, hn, fun r2 H2 ys2 hr2 s2 hrr hR2 => ?_⟩
      rw [← exs] at hR2
      refine Rd.neUD (.lst (.of (s2 _ _ hr1)) (rel_rows ((hR.same hid_same).same s2))) (.lst (.of hrr) (rel_rows (hR2.same hid_same))) (layL_rows xss) (layL_rows xss) (depthL_rows xss) ?_
      rw [SeqAt.eqv_refl _ (layL_rows xss)]
      have s12 := s1.trans s2
      have hr3 := s2 _ _ hr1
      walk_at "rds"
      refine for_walk (walks_lst (SqL.of (only_self (q := r) (o := .lst ys)))) (fun i σ H' => ∃ a1 a2, σ = [some (.ref p), some (.ref qa), some (.int hl.names.length), some (.ref r), a1, a2] ∧ Same H H' ∧ H' r = some (.lst ys) ∧ ∀ v ∈ ys, ∃ (t : Addr) (zs : List V), v = .ref t ∧ H t = none ∧ t ≠ r ∧ H' t = some (.lst zs) ∧ zs.length ≤ 60 + i)
        ⟨_, _, rfl, s12, hr3, fun v hv => ?_⟩ ?_ ?_ ?_
      · obtain ⟨t, xs, e, h0, h1, h2, h3⟩ := hrow v hv
        exact ⟨t, _, e, h0, h1, s2 _ _ h2, by rw [List.length_map]; omega⟩
      · rintro i σ H' ⟨_, _, _, _, h, _⟩
        exact only_same h
      · rintro i σ H3 hi ⟨a1, a2, rfl, s3, hr4, hrw⟩
        have em : ys.getD i .non ∈ ys := by rw [getD_of hi]; exact List.getElem_mem hi
        obtain ⟨t, zs, e, h0, h1, ht, hzl⟩ := hrw _ em
        rw [e]
        have hzz : zs.length < sizeLine := small1000 (by omega)
        walk_at "rds"
        refine ⟨_, _, rfl, s3.new h0, by rw [upd_ne h1.symm]; exact hr4, fun v hv => ?_⟩
        obtain ⟨t', zs', e', h0', h1', ht', hzl'⟩ := hrw v hv
        by_cases z : t' = t
        · subst z
          exact ⟨t', zs ++ [.int 99], e', h0', h1', upd_same, by simp; omega⟩
        · exact ⟨t', zs', e', h0', h1', by rw [upd_ne z]; exact ht', by omega⟩
      · rintro σ H3 ⟨a1, a2, rfl, s3, hr4, hrw⟩
        walk_at "rds"
        refine ⟨Nat.zero_le _, fun e he => ?_⟩
        have se : Same H3 (upd H3 e (.lst [])) := same_new he
        have hr5 := se _ _ hr4
        generalize upd H3 e (.lst []) = H4 at *
        walk_at "rds"
        exact q _ ((s3.trans se).new hr0)
end
def sp_is_name {K : PySem.W.Frag} {mg : Str → Option Value} (T : Tp K mg) : Sp := fun vs H Q _ => ∃ x : Str, vs = [.str x] ∧ x.length ≤ sizeLine ∧ ∀ H', Same H H' → Q (.bl (isName x)) H'
def letter (c : Nat) : Bool := decide (97 ≤ c) && decide (c ≤ 122)
theorem letter_lt (c d : Nat) : decide ((⟨#[c]⟩ : Str).cps.toList < (⟨#[d]⟩ : Str).cps.toList) = decide (c < d) := by
  show decide ([c] < [d]) = decide (c < d)
  have e : ([c] < [d]) ↔ c < d := by
    constructor
    · intro h
      cases h with
      | rel h => exact h
      | cons h => cases h
    · exact fun h => .rel h
  by_cases h : c < d
  · rw [decide_eq_true h, decide_eq_true (e.mpr h)]
  · rw [decide_eq_false h, decide_eq_false (fun z => h (e.mp z))]
theorem str_a : ("a" : Str) = ⟨#[97]⟩ := by decide +kernel
theorem str_z : ("z" : Str) = ⟨#[122]⟩ := by decide +kernel
theorem letters_eq (x : Str) : (((List.range x.cps.size).map fun i => letter (x.cps.getD i 0)).all id) = x.cps.toList.all letter := by
  rw [List.all_map, Bool.eq_iff_iff, List.all_eq_true, List.all_eq_true]
  constructor
  · intro h c hc
    obtain ⟨i, hi, rfl⟩ := List.getElem_of_mem hc
    have hi' : i < x.cps.size := by simpa using hi
    have := h i (List.mem_range.mpr hi')
    simpa [Array.getD, hi'] using this
  · intro h i hi
    have hi' := List.mem_range.mp hi
    have := h x.cps[i] (by simp)
    simpa [Array.getD, hi'] using this
theorem isName_eq (x : Str) : isName x = (decide (1 ≤ x.length) && decide (x.length ≤ 8) && x.cps.toList.all letter) := rfl
section
variable {P : Program} {w : World} {K : PySem.W.Frag} {mg : Str → Option Value} {base : Heap}
theorem ok_is_name (T : Tp K mg) : FnOk P w K mg base (CXX P w) 1 T.f_is_name T.d_is_name ["thing"] (sp_is_name T) := by
  refine T.F_is_name.okX sc_is_name (fun vs H Q E h => ?_) (fun cdv A outer s H vs Q E hr h => ?_)
  · obtain ⟨x, rfl, _⟩ := h
    rfl
  · have hu := hr.units
    obtain ⟨x, rfl, hx, q⟩ := h
    refine ⟨_, (pss_cons (ps_if (pt_not (pt_truK (K := K) rfl (pe_callB (isi_K (K := K) rfl) (by rfl) T.n_isinstance PyProof.Rows.boot_isinstance (pa_cons (pv 0) (pa_cons (pe_bltn (v := .ty "str") (by rfl) T.n_str PyProof.Rows.boot_str rfl) pa_nil))) (fun _ => rfl))) (pss_one (ps_ret pe_bl)) pss_nil)
          (pss_cons (ps_if (PW.pt (pw_or (pt_cmpR op_lt (pe_callB (len_K (K := K) rfl) (by rfl) T.n_len PySem.boot_len (pa_cons (pv 0) pa_nil)) pe_int (nomark _)) (pw_or1 (pt_cmpR op_gt (pe_callB (len_K (K := K) rfl) (by rfl) T.n_len PySem.boot_len (pa_cons (pv 0) pa_nil)) (pe_glob (v := .int 8) rfl T.c_MOST_LETTERS ⟨_, rfl⟩) (nomark _))))) (pss_one (ps_ret pe_bl)) pss_nil)
          (pss_one (ps_ret (pe_callB (all_K (K := K) rfl rfl) (by rfl) T.n_all PyProof.Rows.boot_all (pa_cons (pe_comp rfl (cscope (x := "sign") (zs := []) (ix := []) (defScope s_is_name) ["thing"] rfl rfl (by decide +kernel)) (pi_str (pv 0)) (fun cl C s H fp => ⟨(pg_name (i := 0) (show (["sign"] : List Str).Nodup by decide +kernel) rfl (Or.inl rfl)), pif_nil, (pe_chain op_le_str op_le_str pe_str (pv 0) pe_str)⟩)) pa_nil)))))), ?_⟩
    try dsimp only [L2.cxX, L2.cxOf, L2.cxComp]
    walk_at "rds"
    refine ite2 (fun c => ?_) (fun c => ?_)
    · have c' : ¬ 1 ≤ x.length := by simp at c; omega
      walk_at "rds"
      have e : isName x = false := by rw [isName_eq, decide_eq_false c']; rfl
      rw [← e]
      exact q H (Same.refl H)
    · have c' : 1 ≤ x.length := by simp at c; omega
      walk_at "rds"
      refine ite2 (fun d => ?_) (fun d => ?_)
      · have d' : ¬ x.length ≤ 8 := by simp at d; omega
        walk_at "rds"
        have e : isName x = false := by rw [isName_eq, decide_eq_false d', Bool.and_false]; rfl
        rw [← e]
        exact q H (Same.refl H)
      · have d' : x.length ≤ 8 := by simp at d; omega
        have hn : x.cps.size < sizeLine := small1000 (by have : x.cps.size = x.length := rfl; omega)
        walk_at "rds"
        refine comp_walk walks_str hn (fun _ => true) (fun i => .bl (letter (x.cps.getD i 0))) (fun i H' Kc hi sm k => ?_) (fun i H' Kc hi _ sm k => ?_) (fun p H' hp sm hl => ?_)
        · walk_at "rds"
          exact k H' (Same.refl H')
        · walk_at "rds"
          rw [str_a, str_z, letter_lt]
          generalize x.cps.getD i 0 = cc at k ⊢
          refine ite2 (fun z => ?_) (fun z => ?_)
          · walk_at "rds"
            have e : (!decide (122 < cc)) = letter cc := by
              have z' : 97 ≤ cc := by simpa using z
              unfold letter
              rw [decide_eq_true z', Bool.true_and]
              by_cases y : cc ≤ 122
              · rw [decide_eq_true y, decide_eq_false (by omega)]; rfl
              · rw [decide_eq_false y, decide_eq_true (by omega)]; rfl
            rw [letter_lt, e]
            exact k H' (Same.refl H')
          · have e : false = letter cc := by
              have z' : ¬ 97 ≤ cc := by simpa using z
              unfold letter
              rw [decide_eq_false z']; rfl
            rw [e]
            exact k H' (Same.refl H')
        · have hl' : H' p = some (.lst (((List.range x.cps.size).map fun i => letter (x.cps.getD i 0)).map V.bl)) := by
            rw [hl, List.filter_eq_self.mpr (by simp), List.map_map]; rfl
          walk_at "rds"
          rw [letters_eq]
          have e : x.cps.toList.all letter = isName x := by rw [isName_eq, decide_eq_true c', decide_eq_true d']; rfl
          rw [e]
          exact q H' sm
end
def sp_Hall_work {K : PySem.W.Frag} {mg : Str → Option Value} (T : Tp K mg) : Sp := fun vs H Q E => ∃ (p : Addr) (x : Str) (hl : HM) (fp : List Addr), vs = [.ref p, .str x] ∧ HallAt T H p hl fp ∧ x.length ≤ sizeLine ∧ hl.names.length ≤ 1000 ∧
  (isName x = false → ∀ H', Same H H' → E (.ref T.X_NoName) none H') ∧ (isName x = true → x ∈ hl.names → ∀ H', Same H H' → E (.ref T.X_Twice) none H') ∧
  (isName x = true → x ∉ hl.names → 30 ≤ hl.names.length → ∀ H', Same H H' → E (.ref T.X_TooMuch) none H') ∧
  (isName x = true → x ∉ hl.names → hl.names.length < 30 → ∀ (H' : Hp) (fp' : List Addr), HallAt T H' p ⟨hl.names ++ [x], hl.belts⟩ fp' → Frame fp H H' → Grows fp fp' H → Q (.int hl.names.length) H')
theorem rd_Hall_work {K : PySem.W.Frag} {mg : Str → Option Value} {T : Tp K mg} {H : Hp} {Q : VK} {E : XK} {p : Addr} {x : Str} {hl : HM} {fp : List Addr} (h : HallAt T H p hl fp) (hn : isName x = true) (hx : x ∉ hl.names) (hlen : hl.names.length < 30)
    (q : ∀ (H' : Hp) (fp' : List Addr), HallAt T H' p ⟨hl.names ++ [x], hl.belts⟩ fp' → Frame fp H H' → Grows fp fp' H → Q (.int hl.names.length) H') : sp_Hall_work T (.ref p :: ([.str x] ++ [])) H Q E := by
  have l8 : x.length ≤ sizeLine := by
    have : x.length ≤ 8 := by
      have e := hn
      unfold isName at e
      simp only [Bool.and_eq_true, decide_eq_true_eq] at e
      exact e.1.2
    exact Nat.le_of_lt (small1000 (by omega))
  exact ⟨p, x, hl, fp, rfl, h, l8, by omega, fun z => (by rw [hn] at z; cases z), fun _ z => absurd z hx, fun _ _ z => absurd z (by omega), fun _ _ _ => q⟩
section
variable {P : Program} {w : World} {K : PySem.W.Frag} {mg : Str → Option Value} {base : Heap}
theorem ok_Hall_work (T : Tp K mg) : FnOk P w K mg base (CXX P w) 2 T.f_Hall_work T.d_Hall_work ["self", "name"] (sp_Hall_work T) := by
  have G_is_name : FnOk P w K mg base (CXX P w) 1 T.f_is_name T.d_is_name ["thing"] (sp_is_name T) := (ok_is_name T).mono (by decide)
  have cl_Hall := T.cl_Hall
  have na_Hall := T.na_Hall
  refine T.F_Hall_work.okX sc_Hall_work (fun vs H Q E h => ?_) (fun cdv A outer s H vs Q E hr h => ?_)
  · obtain ⟨p, x, hl, fp, rfl, _⟩ := h
    rfl
  · have hu := hr.units
    obtain ⟨p, x, hl, fp, rfl, hh, hx, hz, e1, e2, e3, q⟩ := h
    obtain ⟨dx, a, b, bs, rfl, h1, h2, h3, h4, nab, h6⟩ := id hh
    have npa : p ≠ a := ne_of h1 h3 (by intro z; cases z)
    have nda : dx ≠ a := ne_of h2 h3 (by intro z; cases z)
    refine ⟨_, (pss_cons (ps_if (pt_not (pt_truK (K := K) rfl (pe_call G_is_name hr rfl T.m_is_name T.F_is_name.kp T.b_is_name .nil pass_on (pa_cons (pv 1) pa_nil)) (fun _ => rfl))) (pss_one (ps_raiseK T.gx_NoName T.ex_NoName PySem.F.excBase_ValueError rfl (pa_cons pe_str pa_nil))) pss_nil)
          (pss_cons (ps_if (pt_cmpR (op_dIn hu) (pv 1) (pe_fldK (K := K) rfl (pv 0) rfl) (by with_unfolding_all rfl)) (pss_one (ps_raiseK T.gx_Twice T.ex_Twice PySem.F.excBase_ValueError rfl (pa_cons pe_str pa_nil))) pss_nil)
          (pss_cons (ps_if (pt_cmpR op_ge (pe_callB len_D (by rfl) T.n_len PySem.boot_len (pa_cons (pe_fldK (K := K) rfl (pv 0) rfl) pa_nil)) (pe_glob (v := .int 30) rfl T.c_MOST_WORKS ⟨_, rfl⟩) (nomark _)) (pss_one (ps_raiseK T.gx_TooMuch T.ex_TooMuch PySem.F.excBase_ValueError rfl (pa_cons pe_str pa_nil))) pss_nil)
          (pss_cons (ps_set (i := 2) sc_Hall_work.nd rfl (Or.inl rfl) (pe_callB len_D (by rfl) T.n_len PySem.boot_len (pa_cons (pe_fldK (K := K) rfl (pv 0) rfl) pa_nil)))
          (pss_cons (ps_asg (pv 2) (pg_sub (pe_fldK (K := K) rfl (pv 0) rfl) (pv 1) (set_dict hu)))
          (pss_one (ps_ret (pv 2)))))))), ?_⟩
    try dsimp only [L2.cxX, L2.cxOf, L2.cxComp]
    walk_at "rds"
    refine ⟨x, rfl, hx, fun H1 sm1 => ?_⟩
    have g1 := sm1 _ _ h1
    have g3 := sm1 _ _ h3
    have hz' : (numsOf hl.names).length < sizeLine := small1000 (by rw [numsOf_len]; exact hz)
    walk_at "rds"
    cases hn : isName x with
    | false =>
      walk_at "rds"
      exact e1 hn H1 sm1
    | true =>
      walk_at "rds"
      rw [numsOf_in]
      refine ite2 (fun c => ?_) (fun c => ?_)
      · walk_at "rds"
        exact e2 hn (of_decide_eq_true c) H1 sm1
      · have c' : x ∉ hl.names := fun z => c (decide_eq_true z)
        walk_at "rds"
        rw [numsOf_len]
        refine ite2 (fun d => ?_) (fun d => ?_)
        · have d' : 30 ≤ hl.names.length := by simp at d; omega
          walk_at "rds"
          exact e3 hn c' d' H1 sm1
        · have d' : hl.names.length < 30 := by simp at d; omega
          walk_at "rds"
          rw [numsOf_len, numsOf_put c']
          have fr : Frame [p, dx, a, b] H (upd H1 a (.dK (numsOf (hl.names ++ [x])))) := sm1.frame.trans (frame_upd (by simp) g3 (by intro _ z; cases z))
          refine q hn c' d' _ [p, dx, a, b] ⟨dx, a, b, bs, rfl, ?_, ?_, upd_same, ?_, nab, h6.keep fr.tups⟩ fr Grows.refl
          · rw [upd_ne npa]; exact g1
          · rw [upd_ne nda]; exact sm1 _ _ h2
          · rw [upd_ne nab.symm]; exact sm1 _ _ h4
end
theorem frame_comp {A A' : List Addr} {H H1 H2 : Hp} (f : Frame A H H1) (g : Grows A A' H) (f2 : Frame A' H1 H2) : Frame A H H2 :=
  ⟨fun b o e n => f2.keep _ _ (f.keep _ _ e n) (fun z => (g b z).elim n (fun y => by rw [e] at y; cases y)), fun b xs e => f2.tups _ _ (f.tups _ _ e)⟩
theorem grows_comp {A A' A2 : List Addr} {H H1 : Hp} (f : Frame A H H1) (g : Grows A A' H) (g2 : Grows A' A2 H1) : Grows A A2 H := fun a z => by
  rcases g2 a z with y | y
  · exact g a y
  · by_cases c : a ∈ A
    · exact .inl c
    · refine .inr ?_
      cases e : H a with
      | none => rfl
      | some o => rw [f.keep _ _ e c] at y; cases y
def sp_l_built {K : PySem.W.Frag} {mg : Str → Option Value} (T : Tp K mg) : Sp := fun vs H Q _ => ∃ (v0 : V) (hp nl : Addr) (m : Int) (fp : List Addr) (nms : List Str), vs = [v0, .ref hp, .ref nl, .int m] ∧ HallAt T H hp ⟨[], []⟩ fp ∧ H nl = some (.lst (nms.map V.str)) ∧ nl ∉ fp ∧ 0 ≤ m ∧ m ≤ 30 ∧ nms.length = m.toNat ∧ (∀ x ∈ nms, isName x = true) ∧ nms.Nodup ∧
  ∀ (H' : Hp) (fp' : List Addr), HallAt T H' hp ⟨nms.take (m.toNat - 1), []⟩ fp' → Frame fp H H' → Grows fp fp' H → Q (.bl true) H'
section
variable {P : Program} {w : World} {K : PySem.W.Frag} {mg : Str → Option Value} {base : Heap}
theorem ok_l_built (T : Tp K mg) : FnOk P w K mg base (CXX P w) 6 T.f_l_built T.d_l_built ["_law_script", "_law_hall", "_law_names_here", "_law_many"] (sp_l_built T) := by
  have G_l_asked : FnOk P w K mg base (CXX P w) 5 T.f_l_asked T.d_l_asked ["_law_hall", "_law_lines", "_law_many"] (sp_l_asked T) := (ok_l_asked T).mono (by decide)
  have G_Hall_work : FnOk P w K mg base (CXX P w) 5 T.f_Hall_work T.d_Hall_work ["self", "name"] (sp_Hall_work T) := (ok_Hall_work T).mono (by decide)
  have cl_Hall := T.cl_Hall
  have na_Hall := T.na_Hall
  refine T.F_l_built.okX sc_l_built (fun vs H Q E h => ?_) (fun cdv A outer s H vs Q E hr h => ?_)
  · obtain ⟨v0, hp, nl, m, fp, nms, rfl, _⟩ := h
    rfl
  · have hu := hr.units
    obtain ⟨v0, hp, nl, m, fp, nms, rfl, hh, hnl, nnl, m0, m1, hlen, hok, hnd, q⟩ := h
    refine ⟨_, (pss_cons (ps_for PassesOwn.leaving rfl (pi_range1 rfl T.n_range (pa_cons (pe_op op_sub (pv 3) pe_int) pa_nil)) (pg_name (i := 4) sc_l_built.nd rfl (Or.inl rfl)) (pss_cons (ps_if (PW.pt (pw_and (pt_cmpR (op_eqK (K := K) rfl hu) (pe_op op_mod (pv 4) pe_int) pe_int (nomark _)) (pw_and1 (pt_not (pt_truK (K := K) rfl (pe_call G_l_asked hr rfl T.m_l_asked T.F_l_asked.kp T.b_l_asked .nil pass_on (pa_cons (pv 1) (pa_cons (pe_lst pa_nil) (pa_cons (pv 4) pa_nil)))) (fun _ => rfl)))))) (pss_one (ps_ret pe_bl)) pss_nil)
          (pss_one (ps_expr (pe_meth (pv 1) T.cl_Hall T.M_Hall_work G_Hall_work hr T.b_Hall_work .nil pass_on (pa_cons (pe_ix (ix_K (K := K) rfl) (pv 2) (pv 4) (fun _ _ => rfl)) pa_nil))))))
          (pss_one (ps_ret (pe_call G_l_asked hr rfl T.m_l_asked T.F_l_asked.kp T.b_l_asked .nil pass_on (pa_cons (pv 1) (pa_cons (pe_lst pa_nil) (pa_cons (pe_callB (call_max2 rfl) (by rfl) T.n_max PyProof.Rows.boot_max (pa_cons pe_int (pa_cons (pe_op op_sub (pv 3) pe_int) pa_nil))) pa_nil))))))), ?_⟩
    try dsimp only [L2.cxX, L2.cxOf, L2.cxComp]
    walk_at "rds"
    refine for_range (n := (m - 1).toNat) (fun i σ H' => ∃ (fp' : List Addr) (k0 : Option V), σ = [some v0, some (.ref hp), some (.ref nl), some (.int m), k0] ∧ HallAt T H' hp ⟨nms.take i, []⟩ fp' ∧ Frame fp H H' ∧ Grows fp fp' H) ⟨fp, _, rfl, hh, Frame.refl, Grows.refl⟩ ?_ ?_
    · rintro i σ H1 hi ⟨fp1, k0, rfl, hh1, fr1, gr1⟩
      have hil : i < nms.length := by omega
      have hnl1 := fr1.keep _ _ hnl nnl
      have at1 : atI (nms.map V.str) (0 + (i : Int)) = some (.str nms[i]) := by rw [Int.zero_add]; exact atI_nat (by simp [hil])
      have etl : (nms.take i).length = i := by rw [List.length_take]; omega
      have go : ∀ H2, Same H1 H2 → ∀ (Q2 : VK), (∀ (H3 : Hp) (fp3 : List Addr), HallAt T H3 hp ⟨nms.take (i + 1), []⟩ fp3 → Frame fp H H3 → Grows fp fp3 H → Q2 (.int (nms.take i).length) H3) → ∀ E, sp_Hall_work T [.ref hp, .str nms[i]] H2 Q2 E := fun H2 s2 Q2 k E => by
        refine rd_Hall_work (hh1.same s2) (hok _ (List.getElem_mem hil)) (fun z => ?_) (by show (nms.take i).length < 30; omega) (fun H3 fp3 hh3 fr3 gr3 => ?_)
        · obtain ⟨j, hj, e⟩ := List.getElem_of_mem z
          rw [List.getElem_take] at e
          have hj2 : j < i := by rw [etl] at hj; exact hj
          have := nd_inj hnd (by omega) hil e
          omega
        · have f2 : Frame fp H H2 := fr1.trans s2.frame
          refine k H3 fp3 ?_ (frame_comp f2 gr1 fr3) (grows_comp f2 gr1 gr3)
          rw [List.take_succ_eq_append_getElem hil]
          exact hh3
      walk_at "rds"
      refine Rd.ifD (fun c => ?_) (fun c => ?_)
      · walk_at "rds"
        refine ⟨Nat.zero_le _, fun e he => ?_⟩
        have se : Same H1 (upd H1 e (.lst [])) := same_new he
        have he1 : (upd H1 e (.lst [])) e = some (.lst []) := upd_same
        generalize upd H1 e (.lst []) = H2 at *
        walk_at "rds"
        refine ⟨hp, e, ⟨nms.take i, []⟩, fp1, [], ?_, hh1.same se, by show (nms.take i).length ≤ 60; omega, Nat.zero_le _, (fun b hb => by cases hb), he1, .nil, fun H3 s3 => ?_⟩
        · show [V.ref hp, V.ref e, V.int (0 + (i : Int))] = [V.ref hp, V.ref e, V.int ((nms.take i).length : Nat)]
          rw [etl, Int.zero_add]
        have s13 := se.trans s3
        have hh3 := hh1.same s13
        have hnl3 := s13 _ _ hnl1
        walk_at "rds"
        exact go H3 s13 _ (fun H4 fp4 h1 h2 h3 => ⟨fp4, _, rfl, h1, h2, h3⟩) _
      · walk_at "rds"
        exact go H1 (Same.refl _) _ (fun H4 fp4 h1 h2 h3 => ⟨fp4, _, rfl, h1, h2, h3⟩) _
    · rintro σ H1 ⟨fp1, k0, rfl, hh1, fr1, gr1⟩
      have etl : (nms.take (m - 1).toNat).length = (m - 1).toNat := by rw [List.length_take]; omega
      walk_at "rds"
      refine ⟨Nat.zero_le _, fun e he => ?_⟩
      have se : Same H1 (upd H1 e (.lst [])) := same_new he
      have he1 : (upd H1 e (.lst [])) e = some (.lst []) := upd_same
      generalize upd H1 e (.lst []) = H2 at *
      walk_at "rds"
      refine ⟨hp, e, ⟨nms.take (m - 1).toNat, []⟩, fp1, [], ?_, hh1.same se, by show (nms.take (m - 1).toNat).length ≤ 60; omega, Nat.zero_le _, (fun b hb => by cases hb), he1, .nil, fun H3 s3 => ?_⟩
      · show [V.ref hp, V.ref e, V.int (if m - 1 > 0 then m - 1 else 0)] = [V.ref hp, V.ref e, V.int ((nms.take (m - 1).toNat).length : Nat)]
        have e9 : (if m - 1 > 0 then m - 1 else 0) = (((m - 1).toNat : Nat) : Int) := by split <;> omega
        rw [etl, e9]
      have s13 := se.trans s3
      refine q H3 fp1 ?_ (fr1.trans s13.frame) gr1
      have em : m.toNat - 1 = (m - 1).toNat := by omega
      rw [em]
      exact hh1.same s13
end
def sp_is_whole {K : PySem.W.Frag} {mg : Str → Option Value} (T : Tp K mg) : Sp := fun vs H Q _ => ∃ i : Int, vs = [.int i] ∧ Q (.bl true) H
theorem rd_is_whole {K : PySem.W.Frag} {mg : Str → Option Value} {T : Tp K mg} {H : Hp} {Q : VK} {E : XK} {i : Int} (q : Q (.bl true) H) : sp_is_whole T ([.int i] ++ []) H Q E := ⟨i, rfl, q⟩
local macro_rules | `(tactic| walk_at "rd") => `(tactic| first | with_reducible refine Nm.rd_is_whole ?_ | fail "none here")
section
variable {P : Program} {w : World} {K : PySem.W.Frag} {mg : Str → Option Value} {base : Heap}
theorem ok_is_whole (T : Tp K mg) : FnOk P w K mg base (CXX P w) 1 T.f_is_whole T.d_is_whole ["thing"] (sp_is_whole T) := by
  refine T.F_is_whole.okX sc_is_whole (fun vs H Q E h => ?_) (fun cdv A outer s H vs Q E hr h => ?_)
  · obtain ⟨i, rfl, _⟩ := h
    rfl
  · have hu := hr.units
    obtain ⟨i, rfl, q⟩ := h
    refine ⟨_, (pss_one (ps_ret (pe_and (pe_callB (isi_K (K := K) rfl) (by rfl) T.n_isinstance PyProof.Rows.boot_isinstance (pa_cons (pv 0) (pa_cons (pe_bltn (v := .ty "int") (by rfl) T.n_int PyProof.Rows.boot_int rfl) pa_nil))) (pe_one (pe_not (pe_callB (isi_K (K := K) rfl) (by rfl) T.n_isinstance PyProof.Rows.boot_isinstance (pa_cons (pv 0) (pa_cons (pe_bltn (v := .ty "bool") (by rfl) T.n_bool PyProof.Rows.boot_bool rfl) pa_nil)))))))), ?_⟩
    try dsimp only [L2.cxX, L2.cxOf, L2.cxComp]
    walk_at "rds"
    exact q
end
def sp_is_from {K : PySem.W.Frag} {mg : Str → Option Value} (T : Tp K mg) : Sp := fun vs H Q _ => ∃ i l : Int, vs = [.int i, .int l] ∧ Q (.bl (decide (l ≤ i))) H
theorem rd_is_from {K : PySem.W.Frag} {mg : Str → Option Value} {T : Tp K mg} {H : Hp} {Q : VK} {E : XK} {i l : Int} (q : Q (.bl (decide (l ≤ i))) H) : sp_is_from T ([.int i, .int l] ++ []) H Q E := ⟨i, l, rfl, q⟩
local macro_rules | `(tactic| walk_at "rd") => `(tactic| first | with_reducible refine Nm.rd_is_from ?_ | fail "none here")
section
variable {P : Program} {w : World} {K : PySem.W.Frag} {mg : Str → Option Value} {base : Heap}
theorem ok_is_from (T : Tp K mg) : FnOk P w K mg base (CXX P w) 2 T.f_is_from T.d_is_from ["thing", "least"] (sp_is_from T) := by
  have G_is_whole : FnOk P w K mg base (CXX P w) 1 T.f_is_whole T.d_is_whole ["thing"] (sp_is_whole T) := (ok_is_whole T).mono (by decide)
  refine T.F_is_from.okX sc_is_from (fun vs H Q E h => ?_) (fun cdv A outer s H vs Q E hr h => ?_)
  · obtain ⟨i, l, rfl, _⟩ := h
    rfl
  · have hu := hr.units
    obtain ⟨i, l, rfl, q⟩ := h
    refine ⟨_, (pss_one (ps_ret (pe_and (pe_call G_is_whole hr rfl T.m_is_whole T.F_is_whole.kp T.b_is_whole .nil pass_on (pa_cons (pv 0) pa_nil)) (pe_one (pe_cmpR op_ge (pv 0) (pv 1) (nomark _)))))), ?_⟩
    try dsimp only [L2.cxX, L2.cxOf, L2.cxComp]
    walk_at "rds"
    exact q
end
def sp_need_start {K : PySem.W.Frag} {mg : Str → Option Value} (T : Tp K mg) : Sp := fun vs H Q E => ∃ i : Int, vs = [.int i] ∧ (¬ 0 ≤ i → E (.ref T.X_NoRate) none H) ∧ (0 ≤ i → Q .non H)
section
variable {P : Program} {w : World} {K : PySem.W.Frag} {mg : Str → Option Value} {base : Heap}
theorem ok_need_start (T : Tp K mg) : FnOk P w K mg base (CXX P w) 3 T.f_need_start T.d_need_start ["start"] (sp_need_start T) := by
  have G_is_from : FnOk P w K mg base (CXX P w) 2 T.f_is_from T.d_is_from ["thing", "least"] (sp_is_from T) := (ok_is_from T).mono (by decide)
  refine T.F_need_start.okX sc_need_start (fun vs H Q E h => ?_) (fun cdv A outer s H vs Q E hr h => ?_)
  · obtain ⟨i, rfl, _⟩ := h
    rfl
  · have hu := hr.units
    obtain ⟨i, rfl, e1, q⟩ := h
    refine ⟨_, (pss_one (ps_if (pt_not (pt_truK (K := K) rfl (pe_call G_is_from hr rfl T.m_is_from T.F_is_from.kp T.b_is_from .nil pass_on (pa_cons (pv 0) (pa_cons pe_int pa_nil))) (fun _ => rfl))) (pss_one (ps_raiseK T.gx_NoRate T.ex_NoRate PySem.F.excBase_ValueError rfl (pa_cons pe_str pa_nil))) pss_nil)), ?_⟩
    try dsimp only [L2.cxX, L2.cxOf, L2.cxComp]
    walk_at "rds"
    by_cases c : 0 ≤ i
    · rw [decide_eq_true c]
      walk_at "rds"
      exact q c
    · rw [decide_eq_false c]
      walk_at "rds"
      exact e1 c
end
def sp_is_number_below {K : PySem.W.Frag} {mg : Str → Option Value} (T : Tp K mg) : Sp := fun vs H Q _ => ∃ i b : Int, vs = [.int i, .int b] ∧ Q (.bl (decide (0 ≤ i ∧ i < b))) H
theorem rd_is_number_below {K : PySem.W.Frag} {mg : Str → Option Value} {T : Tp K mg} {H : Hp} {Q : VK} {E : XK} {i b : Int} (q : Q (.bl (decide (0 ≤ i ∧ i < b))) H) : sp_is_number_below T ([.int i, .int b] ++ []) H Q E := ⟨i, b, rfl, q⟩
local macro_rules | `(tactic| walk_at "rd") => `(tactic| first | with_reducible refine Nm.rd_is_number_below ?_ | fail "none here")
section
variable {P : Program} {w : World} {K : PySem.W.Frag} {mg : Str → Option Value} {base : Heap}
theorem ok_is_number_below (T : Tp K mg) : FnOk P w K mg base (CXX P w) 3 T.f_is_number_below T.d_is_number_below ["thing", "bound"] (sp_is_number_below T) := by
  have G_is_from : FnOk P w K mg base (CXX P w) 2 T.f_is_from T.d_is_from ["thing", "least"] (sp_is_from T) := (ok_is_from T).mono (by decide)
  refine T.F_is_number_below.okX sc_is_number_below (fun vs H Q E h => ?_) (fun cdv A outer s H vs Q E hr h => ?_)
  · obtain ⟨i, b, rfl, _⟩ := h
    rfl
  · have hu := hr.units
    obtain ⟨i, b, rfl, q⟩ := h
    refine ⟨_, (pss_one (ps_ret (pe_and (pe_call G_is_from hr rfl T.m_is_from T.F_is_from.kp T.b_is_from .nil pass_on (pa_cons (pv 0) (pa_cons pe_int pa_nil))) (pe_one (pe_cmpR op_lt (pv 0) (pv 1) (nomark _)))))), ?_⟩
    try dsimp only [L2.cxX, L2.cxOf, L2.cxComp]
    walk_at "rds"
    refine ite2 (fun c => ?_) (fun c => ?_)
    · have c' : 0 ≤ i := of_decide_eq_true c
      walk_at "rds"
      have e : decide (i < b) = decide (0 ≤ i ∧ i < b) := by rw [decide_eq_decide]; exact ⟨fun z => ⟨c', z⟩, fun z => z.2⟩
      rw [e]
      exact q
    · have c' : ¬ 0 ≤ i := fun z => c (decide_eq_true z)
      walk_at "rds"
      have e : false = decide (0 ≤ i ∧ i < b) := (decide_eq_false (fun z => c' z.1)).symm
      rw [e]
      exact q
end
def sp_Hall_need_work {K : PySem.W.Frag} {mg : Str → Option Value} (T : Tp K mg) : Sp := fun vs H Q E => ∃ (p : Addr) (i : Int) (hl : HM) (fp : List Addr), vs = [.ref p, .int i] ∧ HallAt T H p hl fp ∧
  (¬ (0 ≤ i ∧ i < hl.names.length) → E (.ref T.X_NoWork) none H) ∧ (0 ≤ i → i < hl.names.length → Q .non H)
section
variable {P : Program} {w : World} {K : PySem.W.Frag} {mg : Str → Option Value} {base : Heap}
theorem ok_Hall_need_work (T : Tp K mg) : FnOk P w K mg base (CXX P w) 4 T.f_Hall_need_work T.d_Hall_need_work ["self", "work"] (sp_Hall_need_work T) := by
  have G_is_number_below : FnOk P w K mg base (CXX P w) 3 T.f_is_number_below T.d_is_number_below ["thing", "bound"] (sp_is_number_below T) := (ok_is_number_below T).mono (by decide)
  have cl_Hall := T.cl_Hall
  have na_Hall := T.na_Hall
  refine T.F_Hall_need_work.okX sc_Hall_need_work (fun vs H Q E h => ?_) (fun cdv A outer s H vs Q E hr h => ?_)
  · obtain ⟨p, i, hl, fp, rfl, _⟩ := h
    rfl
  · have hu := hr.units
    obtain ⟨p, i, hl, fp, rfl, hh, e1, q⟩ := h
    obtain ⟨dx, a, b, bs, rfl, h1, h2, h3, h4, nab, h6⟩ := id hh
    refine ⟨_, (pss_one (ps_if (pt_not (pt_truK (K := K) rfl (pe_call G_is_number_below hr rfl T.m_is_number_below T.F_is_number_below.kp T.b_is_number_below .nil pass_on (pa_cons (pv 1) (pa_cons (pe_callB len_D (by rfl) T.n_len PySem.boot_len (pa_cons (pe_fldK (K := K) rfl (pv 0) rfl) pa_nil)) pa_nil))) (fun _ => rfl))) (pss_one (ps_raiseK T.gx_NoWork T.ex_NoWork PySem.F.excBase_ValueError rfl (pa_cons pe_str pa_nil))) pss_nil)), ?_⟩
    try dsimp only [L2.cxX, L2.cxOf, L2.cxComp]
    walk_at "rds"
    rw [numsOf_len]
    by_cases c : 0 ≤ i ∧ i < hl.names.length
    · rw [decide_eq_true c]
      walk_at "rds"
      exact q c.1 c.2
    · rw [decide_eq_false c]
      walk_at "rds"
      exact e1 c
end
def sp_Hall_lay {K : PySem.W.Frag} {mg : Str → Option Value} (T : Tp K mg) : Sp := fun vs H Q E => ∃ (p u : Addr) (b : B5) (hl : HM) (fp : List Addr), vs = [.ref p, .ref u] ∧ HallAt T H p hl fp ∧ H u = some (.tup b.v) ∧ hl.belts.length ≤ 1000 ∧
  ∀ (H' : Hp) (fp' : List Addr), HallAt T H' p ⟨hl.names, hl.belts ++ [b]⟩ fp' → Frame fp H H' → Grows fp fp' H → Q (.int hl.belts.length) H'
section
variable {P : Program} {w : World} {K : PySem.W.Frag} {mg : Str → Option Value} {base : Heap}
theorem ok_Hall_lay (T : Tp K mg) : FnOk P w K mg base (CXX P w) 1 T.f_Hall_lay T.d_Hall_lay ["self", "row"] (sp_Hall_lay T) := by
  have cl_Hall := T.cl_Hall
  have na_Hall := T.na_Hall
  refine T.F_Hall_lay.okX sc_Hall_lay (fun vs H Q E h => ?_) (fun cdv A outer s H vs Q E hr h => ?_)
  · obtain ⟨p, u, b, hl, fp, rfl, _⟩ := h
    rfl
  · have hu := hr.units
    obtain ⟨p, u, b, hl, fp, rfl, hh, hu', hz, q⟩ := h
    obtain ⟨dx, a, bb, bs, rfl, h1, h2, h3, h4, nab, h6⟩ := id hh
    have npb : p ≠ bb := ne_of h1 h4 (by intro z; cases z)
    have ndb : dx ≠ bb := ne_of h2 h4 (by intro z; cases z)
    have nub : u ≠ bb := ne_of hu' h4 (by intro z; cases z)
    have hz' : bs.length < sizeLine := small1000 (by rw [h6.length]; exact hz)
    have hlb := h6.length
    refine ⟨_, (pss_cons (ps_expr (pe_bmK (K := K) rfl PySem.F.plainAttrs_list PySem.F.slot_list_append PySem.F.type_list_append mt_append (pe_fldK (K := K) rfl (pv 0) rfl) (pa_cons (pv 1) pa_nil)))
          (pss_one (ps_ret (pe_op op_sub (pe_callB (len_K (K := K) rfl) (by rfl) T.n_len PySem.boot_len (pa_cons (pe_fldK (K := K) rfl (pv 0) rfl) pa_nil)) pe_int)))), ?_⟩
    try dsimp only [L2.cxX, L2.cxOf, L2.cxComp]
    walk_at "rds"
    have k1 : (upd H bb (.lst (bs ++ [.ref u]))) p = some (.ins T.C_Hall dx [("numbers", .ref a), ("rows", .ref bb)]) := by rw [upd_ne npb]; exact h1
    have k4 : (upd H bb (.lst (bs ++ [.ref u]))) bb = some (.lst (bs ++ [.ref u])) := upd_same
    walk_at "rds"
    have el : ((bs ++ [V.ref u]).length : Int) - 1 = hl.belts.length := by simp [hlb]
    rw [el]
    have fr : Frame [p, dx, a, bb] H (upd H bb (.lst (bs ++ [.ref u]))) := frame_upd (by simp) h4 (by intro _ z; cases z)
    refine q _ [p, dx, a, bb] ⟨dx, a, bb, _, rfl, k1, ?_, ?_, k4, nab, (h6.keep fr.tups).snoc (fr.tups _ _ hu')⟩ fr Grows.refl
    · rw [upd_ne ndb]; exact h2
    · rw [upd_ne nab]; exact h3
end
def sp_Hall_belt {K : PySem.W.Frag} {mg : Str → Option Value} (T : Tp K mg) : Sp := fun vs H Q E => ∃ (p : Addr) (b : B5) (hl : HM) (fp : List Addr), vs = .ref p :: b.v ∧ HallAt T H p hl fp ∧ hl.belts.length ≤ 1000 ∧
  (¬ (0 ≤ b.giver ∧ b.giver < hl.names.length ∧ 0 ≤ b.taker ∧ b.taker < hl.names.length) → ∀ H', Same H H' → E (.ref T.X_NoWork) none H') ∧
  ((0 ≤ b.giver ∧ b.giver < hl.names.length ∧ 0 ≤ b.taker ∧ b.taker < hl.names.length) → ¬ (1 ≤ b.give ∧ 1 ≤ b.take ∧ 0 ≤ b.start) → ∀ H', Same H H' → E (.ref T.X_NoRate) none H') ∧
  ((0 ≤ b.giver ∧ b.giver < hl.names.length ∧ 0 ≤ b.taker ∧ b.taker < hl.names.length) → (1 ≤ b.give ∧ 1 ≤ b.take ∧ 0 ≤ b.start) → 60 ≤ hl.belts.length → ∀ H', Same H H' → E (.ref T.X_TooMuch) none H') ∧
  ((0 ≤ b.giver ∧ b.giver < hl.names.length ∧ 0 ≤ b.taker ∧ b.taker < hl.names.length) → (1 ≤ b.give ∧ 1 ≤ b.take ∧ 0 ≤ b.start) → hl.belts.length < 60 → ∀ (H' : Hp) (fp' : List Addr), HallAt T H' p ⟨hl.names, hl.belts ++ [b]⟩ fp' → Frame fp H H' → Grows fp fp' H → Q (.int hl.belts.length) H')
theorem rd_Hall_belt {K : PySem.W.Frag} {mg : Str → Option Value} {T : Tp K mg} {H : Hp} {Q : VK} {E : XK} {p : Addr} {g t gv tk st : Int} {hl : HM} {fp : List Addr} (h : HallAt T H p hl fp)
    (h1 : 0 ≤ g) (h2 : g < hl.names.length) (h3 : 0 ≤ t) (h4 : t < hl.names.length) (h5 : 1 ≤ gv) (h6 : 1 ≤ tk) (h7 : 0 ≤ st) (hlen : hl.belts.length < 60)
    (q : ∀ (H' : Hp) (fp' : List Addr), HallAt T H' p ⟨hl.names, hl.belts ++ [⟨g, t, gv, tk, st⟩]⟩ fp' → Frame fp H H' → Grows fp fp' H → Q (.int hl.belts.length) H') : sp_Hall_belt T [.ref p, .int g, .int t, .int gv, .int tk, .int st] H Q E :=
  ⟨p, ⟨g, t, gv, tk, st⟩, hl, fp, rfl, h, by omega, fun z => absurd ⟨h1, h2, h3, h4⟩ z, fun _ z => absurd ⟨h5, h6, h7⟩ z, fun _ _ z => absurd z (by omega), fun _ _ _ => q⟩
section
variable {P : Program} {w : World} {K : PySem.W.Frag} {mg : Str → Option Value} {base : Heap}
theorem ok_Hall_belt (T : Tp K mg) : FnOk P w K mg base (CXX P w) 5 T.f_Hall_belt T.d_Hall_belt ["self", "giver", "taker", "give", "take", "start"] (sp_Hall_belt T) := by
  have G_need_start : FnOk P w K mg base (CXX P w) 4 T.f_need_start T.d_need_start ["start"] (sp_need_start T) := (ok_need_start T).mono (by decide)
  have G_is_from : FnOk P w K mg base (CXX P w) 4 T.f_is_from T.d_is_from ["thing", "least"] (sp_is_from T) := (ok_is_from T).mono (by decide)
  have G_Hall_need_work : FnOk P w K mg base (CXX P w) 4 T.f_Hall_need_work T.d_Hall_need_work ["self", "work"] (sp_Hall_need_work T) := (ok_Hall_need_work T).mono (by decide)
  have G_Hall_lay : FnOk P w K mg base (CXX P w) 4 T.f_Hall_lay T.d_Hall_lay ["self", "row"] (sp_Hall_lay T) := (ok_Hall_lay T).mono (by decide)
  have cl_Hall := T.cl_Hall
  have na_Hall := T.na_Hall
  refine T.F_Hall_belt.okX sc_Hall_belt (fun vs H Q E h => ?_) (fun cdv A outer s H vs Q E hr h => ?_)
  · obtain ⟨p, b, hl, fp, rfl, _⟩ := h
    rfl
  · have hu := hr.units
    obtain ⟨p, b, hl, fp, rfl, hh, hz, e1, e2, e3, q⟩ := h
    obtain ⟨dx, a, bb, bs, rfl, h1, h2, h3, h4, nab, h6⟩ := id hh
    obtain ⟨g, t, gv, tk, st⟩ := b
    have hlb := h6.length
    refine ⟨_, (pss_cons (ps_expr (pe_meth (pv 0) T.cl_Hall T.M_Hall_need_work G_Hall_need_work hr T.b_Hall_need_work .nil pass_on (pa_cons (pv 1) pa_nil)))
          (pss_cons (ps_expr (pe_meth (pv 0) T.cl_Hall T.M_Hall_need_work G_Hall_need_work hr T.b_Hall_need_work .nil pass_on (pa_cons (pv 2) pa_nil)))
          (pss_cons (ps_if (PW.pt (pw_or (pt_not (pt_truK (K := K) rfl (pe_call G_is_from hr rfl T.m_is_from T.F_is_from.kp T.b_is_from .nil pass_on (pa_cons (pv 3) (pa_cons pe_int pa_nil))) (fun _ => rfl))) (pw_or1 (pt_not (pt_truK (K := K) rfl (pe_call G_is_from hr rfl T.m_is_from T.F_is_from.kp T.b_is_from .nil pass_on (pa_cons (pv 4) (pa_cons pe_int pa_nil))) (fun _ => rfl)))))) (pss_one (ps_raiseK T.gx_NoRate T.ex_NoRate PySem.F.excBase_ValueError rfl (pa_cons pe_str pa_nil))) pss_nil)
          (pss_cons (ps_expr (pe_call G_need_start hr rfl T.m_need_start T.F_need_start.kp T.b_need_start .nil pass_on (pa_cons (pv 5) pa_nil)))
          (pss_cons (ps_if (pt_cmpR op_ge (pe_callB (len_K (K := K) rfl) (by rfl) T.n_len PySem.boot_len (pa_cons (pe_fldK (K := K) rfl (pv 0) rfl) pa_nil)) (pe_glob (v := .int 60) rfl T.c_MOST_BELTS ⟨_, rfl⟩) (nomark _)) (pss_one (ps_raiseK T.gx_TooMuch T.ex_TooMuch PySem.F.excBase_ValueError rfl (pa_cons pe_str pa_nil))) pss_nil)
          (pss_one (ps_ret (pe_meth (pv 0) T.cl_Hall T.M_Hall_lay G_Hall_lay hr T.b_Hall_lay .nil pass_on (pa_cons (pe_tup (pa_cons (pv 1) (pa_cons (pv 2) (pa_cons (pv 3) (pa_cons (pv 4) (pa_cons (pv 5) pa_nil)))))) pa_nil))))))))), ?_⟩
    try dsimp only [L2.cxX, L2.cxOf, L2.cxComp]
    dsimp only [B5.v] at *
    walk_at "rds"
    refine ⟨p, g, hl, _, rfl, hh, fun z => e1 (by omega) H (Same.refl H), fun g0 g1 => ?_⟩
    walk_at "rds"
    refine ⟨p, t, hl, _, rfl, hh, fun z => e1 (by omega) H (Same.refl H), fun t0 t1 => ?_⟩
    have ws : 0 ≤ g ∧ g < hl.names.length ∧ 0 ≤ t ∧ t < hl.names.length := ⟨g0, g1, t0, t1⟩
    walk_at "rds"
    by_cases c : 1 ≤ gv
    · rw [decide_eq_true c]
      walk_at "rds"
      by_cases d : 1 ≤ tk
      · rw [decide_eq_true d]
        walk_at "rds"
        refine ⟨st, rfl, fun z => e2 ws (by omega) H (Same.refl H), fun f => ?_⟩
        walk_at "rds"
        refine Rd.ifD (fun l => ?_) (fun l => ?_)
        · walk_at "rds"
          exact e3 ws (by omega) (by omega) H (Same.refl H)
        walk_at "rds"
        refine ⟨by show 5 ≤ sizeLine; decide, fun u hu' => ?_⟩
        have sn : Same H (upd H u (.tup [.int g, .int t, .int gv, .int tk, .int st])) := same_new hu'
        have hh' := hh.same sn
        walk_at "rds"
        refine ⟨p, u, ⟨g, t, gv, tk, st⟩, hl, _, rfl, hh', upd_same, hz, fun H' fp' hh2 fr gr => ?_⟩
        refine q ws (by omega) (by omega) H' fp' hh2 (sn.frame.trans fr) (fun x hx => ?_)
        rcases gr x hx with z | z
        · exact .inl z
        · refine .inr ?_
          cases e : H x with
          | none => rfl
          | some o => rw [sn _ _ e] at z; cases z
      · rw [decide_eq_false d]
        walk_at "rds"
        exact e2 ws (by omega) H (Same.refl H)
    · rw [decide_eq_false c]
      walk_at "rds"
      exact e2 ws (by omega) H (Same.refl H)
end
def sp_Hall_init {K : PySem.W.Frag} {mg : Str → Option Value} (T : Tp K mg) : Sp := fun vs H Q _ => ∃ p dx : Addr, vs = [.ref p] ∧ H p = some (.ins T.C_Hall dx []) ∧ H dx = some (.own p) ∧
  ∀ (H' : Hp) (fp : List Addr), HallAt T H' p ⟨[], []⟩ fp → (∀ x ∈ fp, x = p ∨ x = dx ∨ H x = none) → (∀ b o, H b = some o → b ≠ p → H' b = some o) → Q .non H'
theorem rd_Hall_init {K : PySem.W.Frag} {mg : Str → Option Value} {T : Tp K mg} {H : Hp} {Q : Addr → Hp → Prop} {E : XK}
    (q : ∀ (p : Addr) (fp : List Addr) (H' : Hp), HallAt T H' p ⟨[], []⟩ fp → (∀ x ∈ fp, H x = none) → Same H H' → Q p H') :
    ∀ x dx, H x = none → H dx = none → dx ≠ x → sp_Hall_init T (.ref x :: ([] ++ [])) (upd (upd H dx (.own x)) x (.ins T.C_Hall dx [])) (fun v H2 => v = .non ∧ Q x H2) E := by
  intro x dx hx hdx ne
  refine ⟨x, dx, rfl, upd_same, by rw [upd_ne ne, upd_same], fun H' fp hh hf hk => ⟨rfl, q x fp H' hh (fun y hy => ?_) (fun b o e => hk b o ?_ (ne_of_none e hx))⟩⟩
  · rcases hf y hy with rfl | rfl | h
    · exact hx
    · exact hdx
    · by_cases h1 : y = x
      · rw [h1]; exact hx
      · by_cases h2 : y = dx
        · rw [h2]; exact hdx
        · rw [upd_ne h1, upd_ne h2] at h
          exact h
  · rw [upd_ne (ne_of_none e hx), upd_ne (ne_of_none e hdx)]
    exact e
local macro_rules | `(tactic| walk_at "rd") => `(tactic| first | with_reducible refine Nm.rd_Hall_init ?_ | fail "none here")
section
variable {P : Program} {w : World} {K : PySem.W.Frag} {mg : Str → Option Value} {base : Heap}
theorem ok_Hall_init (T : Tp K mg) : FnOk P w K mg base (CXX P w) 1 T.f_Hall_init T.d_Hall_init ["self"] (sp_Hall_init T) := by
  have cl_Hall := T.cl_Hall
  have na_Hall := T.na_Hall
  refine T.F_Hall_init.okX sc_Hall_init (fun vs H Q E h => ?_) (fun cdv A outer s H vs Q E hr h => ?_)
  · obtain ⟨p, dx, rfl, _⟩ := h
    rfl
  · have hu := hr.units
    obtain ⟨p, dx, rfl, hp, hdx, q⟩ := h
    refine ⟨_, (pss_cons (ps_fldK (K := K) rfl (pv 0) pe_dnewK rfl)
          (pss_one (ps_fldK (K := K) rfl (pv 0) (pe_lst pa_nil) rfl))), ?_⟩
    try dsimp only [L2.cxX, L2.cxOf, L2.cxComp]
    walk_at "rds"
    intro a ha
    have npa : p ≠ a := ne_of_none hp ha
    have nda : dx ≠ a := ne_of_none hdx ha
    have npd : p ≠ dx := ne_of hp hdx (by intro z; cases z)
    have hp1 : (upd H a (.dK [])) p = some (.ins T.C_Hall dx []) := by rw [upd_ne npa]; exact hp
    walk_at "rds"
    refine ⟨Nat.zero_le _, fun b hb => ?_⟩
    have hb0 : H b = none := by
      by_cases h1 : b = p
      · rw [h1, upd_same] at hb; cases hb
      · by_cases h2 : b = a
        · rw [h2]; exact ha
        · rw [upd_ne h1, upd_ne h2] at hb; exact hb
    have npb : p ≠ b := ne_of_none hp hb0
    have ndb : dx ≠ b := ne_of_none hdx hb0
    have nab : a ≠ b := by
      intro z
      rw [← z, upd_ne npa.symm, upd_same] at hb
      cases hb
    have hp2 : (upd (upd (upd H a (.dK [])) p (.ins T.C_Hall dx [("numbers", .ref a)])) b (.lst [])) p = some (.ins T.C_Hall dx [("numbers", .ref a)]) := by rw [upd_ne npb, upd_same]
    walk_at "rds"
    refine q _ [p, dx, a, b] ⟨dx, a, b, [], rfl, upd_same, ?_, ?_, ?_, nab, .nil⟩ (fun x hx => ?_) (fun c o e hc => ?_)
    · rw [upd_ne npd.symm, upd_ne ndb, upd_ne npd.symm, upd_ne nda]; exact hdx
    · rw [upd_ne npa.symm, upd_ne nab, upd_ne npa.symm, upd_same]; rfl
    · rw [upd_ne npb.symm, upd_same]
    · simp only [List.mem_cons, List.not_mem_nil, or_false] at hx
      rcases hx with rfl | rfl | rfl | rfl
      · exact .inl rfl
      · exact .inr (.inl rfl)
      · exact .inr (.inr ha)
      · exact .inr (.inr hb0)
    · rw [upd_ne hc, upd_ne (ne_of_none e hb0), upd_ne hc, upd_ne (ne_of_none e ha)]; exact e
end
theorem between_snoc {ls : List B5} {n : Nat} {b : B5} (h : Between ls n) (hb : 0 ≤ b.giver ∧ b.giver < (n : Int) ∧ 0 ≤ b.taker ∧ b.taker < (n : Int)) : Between (ls ++ [b]) n := by
  intro x hx
  rcases List.mem_append.mp hx with z | z
  · exact h x z
  · rw [List.mem_singleton.mp z]; exact hb
theorem between_more {ls : List B5} {n k : Nat} (h : Between ls n) (hk : n ≤ k) : Between ls k := fun x hx => by have := h x hx; omega
theorem pairs_snoc (ls : List B5) (b : B5) : pairsT (ls ++ [b]) = pairsT ls ++ [(b.giver.toNat, b.taker.toNat)] := by unfold pairsT; rw [List.map_append]; rfl
section
variable {P : Program} {w : World} {K : PySem.W.Frag} {mg : Str → Option Value} {base : Heap}
theorem ok_law (T : Tp K mg) : FnOk P w K mg base (CXX P w) 7 T.f_law T.d_law ["_law_script"] (sp_law T) := by
  have G_l_names : FnOk P w K mg base (CXX P w) 6 T.f_l_names T.d_l_names ["_law_cell_here", "_law_many"] (sp_l_names T) := (ok_l_names T).mono (by decide)
  have G_l_mixed : FnOk P w K mg base (CXX P w) 6 T.f_l_mixed T.d_l_mixed ["_law_script", "_law_k"] (sp_l_mixed T) := (ok_l_mixed T).mono (by decide)
  have G_l_asked : FnOk P w K mg base (CXX P w) 6 T.f_l_asked T.d_l_asked ["_law_hall", "_law_lines", "_law_many"] (sp_l_asked T) := (ok_l_asked T).mono (by decide)
  have G_l_built : FnOk P w K mg base (CXX P w) 6 T.f_l_built T.d_l_built ["_law_script", "_law_hall", "_law_names_here", "_law_many"] (sp_l_built T) := (ok_l_built T).mono (by decide)
  have G_l_cell : FnOk P w K mg base (CXX P w) 6 T.f_l_cell T.d_l_cell ["_law_script", "_law_k"] (sp_l_cell T) := (ok_l_cell T).mono (by decide)
  have G_Hall_work : FnOk P w K mg base (CXX P w) 6 T.f_Hall_work T.d_Hall_work ["self", "name"] (sp_Hall_work T) := (ok_Hall_work T).mono (by decide)
  have G_Hall_belt : FnOk P w K mg base (CXX P w) 6 T.f_Hall_belt T.d_Hall_belt ["self", "giver", "taker", "give", "take", "start"] (sp_Hall_belt T) := (ok_Hall_belt T).mono (by decide)
  have G_Hall_init : FnOk P w K mg base (CXX P w) 5 T.f_Hall_init T.d_Hall_init ["self"] (sp_Hall_init T) := (ok_Hall_init T).mono (by decide)
  have cl_Hall := T.cl_Hall
  have na_Hall := T.na_Hall
  refine T.F_law.okX sc_law (fun vs H Q E h => ?_) (fun cdv A outer s H vs Q E hr h => ?_)
  · obtain ⟨a, ns, rfl, _⟩ := h
    rfl
  · have hu := hr.units
    obtain ⟨p, ns, rfl, hS, hlen, k⟩ := h
    have e30 : (10 : Int) ^ Int.toNat 30 = 10 ^ 30 := rfl
    have e9 : (10 : Int) ^ Int.toNat 9 = 1000000000 := rfl
    have q30 : 0 < (10 : Int) ^ Int.toNat 30 - 1 := by rw [e30]; decide
    refine ⟨_, (pss_cons (ps_set (i := 1) sc_law.nd rfl (Or.inl rfl) (pe_op op_mod (pe_call G_l_mixed hr rfl T.m_l_mixed T.F_l_mixed.kp T.b_l_mixed .nil pass_on (pa_cons (pv 0) (pa_cons pe_int pa_nil))) pe_int))
          (pss_cons (ps_set (i := 2) sc_law.nd rfl (Or.inl rfl) (pe_op op_sub (pe_callB (call_min2 rfl) (by rfl) T.n_min PyProof.Rows.boot_min (pa_cons (pe_callB (len_K (K := K) rfl) (by rfl) T.n_len PySem.boot_len (pa_cons (pv 0) pa_nil)) (pa_cons pe_int pa_nil))) pe_int))
          (pss_cons (ps_cut (ps_if (pt_cmpR (op_eqK (K := K) rfl hu) (pe_op op_mod (pe_op op_fdivG (pe_call G_l_mixed hr rfl T.m_l_mixed T.F_l_mixed.kp T.b_l_mixed .nil pass_on (pa_cons (pv 0) (pa_cons pe_int pa_nil))) pe_int) pe_int) pe_int (nomark _)) (pss_cons (ps_set (i := 1) sc_law.nd rfl (Or.inl rfl) (pe_op (op_addK (K := K) rfl) pe_int (pe_op op_mod (pe_op op_fdivG (pe_call G_l_mixed hr rfl T.m_l_mixed T.F_l_mixed.kp T.b_l_mixed .nil pass_on (pa_cons (pv 0) (pa_cons pe_int pa_nil))) pe_int) pe_int)))
          (pss_one (ps_set (i := 2) sc_law.nd rfl (Or.inl rfl) (pe_op op_mod (pe_op op_fdivG (pe_call G_l_mixed hr rfl T.m_l_mixed T.F_l_mixed.kp T.b_l_mixed .nil pass_on (pa_cons (pv 0) (pa_cons pe_int pa_nil))) pe_int) pe_int)))) pss_nil))
          (pss_cons (ps_set (i := 3) sc_law.nd rfl (Or.inl rfl) (pe_make0 T.mk_Hall G_Hall_init hr rfl T.g_Hall T.b_Hall_init .nil pass_on))
          (pss_cons (ps_set (i := 4) sc_law.nd rfl (Or.inl rfl) (pe_call G_l_names hr rfl T.m_l_names T.F_l_names.kp T.b_l_names .nil pass_on (pa_cons (pe_call G_l_mixed hr rfl T.m_l_mixed T.F_l_mixed.kp T.b_l_mixed .nil pass_on (pa_cons (pv 0) (pa_cons pe_int pa_nil))) (pa_cons (pv 1) pa_nil))))
          (pss_cons (ps_if (pt_not (pt_truK (K := K) rfl (pe_call G_l_built hr rfl T.m_l_built T.F_l_built.kp T.b_l_built .nil pass_on (pa_cons (pv 0) (pa_cons (pv 3) (pa_cons (pv 4) (pa_cons (pv 1) pa_nil))))) (fun _ => rfl))) (pss_one (ps_ret pe_bl)) pss_nil)
          (pss_cons (ps_set (i := 5) sc_law.nd rfl (Or.inl rfl) (pe_callB (call_max2 rfl) (by rfl) T.n_max PyProof.Rows.boot_max (pa_cons pe_int (pa_cons (pe_op op_sub (pv 1) pe_int) pa_nil))))
          (pss_cons (ps_set (i := 6) sc_law.nd rfl (Or.inl rfl) (pv 5))
          (pss_cons (ps_cut (ps_if (pt_cmpR (op_eqK (K := K) rfl hu) (pe_op op_mod (pe_op op_fdivG (pe_call G_l_mixed hr rfl T.m_l_mixed T.F_l_mixed.kp T.b_l_mixed .nil pass_on (pa_cons (pv 0) (pa_cons pe_int pa_nil))) pe_int) pe_int) pe_int (nomark _)) (pss_one (ps_set (i := 6) sc_law.nd rfl (Or.inl rfl) (pe_op op_fdivG (pe_op (op_addK (K := K) rfl) (pv 5) pe_int) pe_int))) pss_nil))
          (pss_cons (ps_set (i := 7) sc_law.nd rfl (Or.inl rfl) (pe_lst pa_nil))
          (pss_cons (ps_for PassesOwn.leaving rfl (pi_range2 rfl T.n_range (pa_cons pe_int (pa_cons (pe_op (op_addK (K := K) rfl) pe_int (pv 2)) pa_nil))) (pg_name (i := 8) sc_law.nd rfl (Or.inl rfl)) (pss_cons (ps_set (i := 9) sc_law.nd rfl (Or.inl rfl) (pe_call G_l_mixed hr rfl T.m_l_mixed T.F_l_mixed.kp T.b_l_mixed .nil pass_on (pa_cons (pv 0) (pa_cons (pv 8) pa_nil))))
          (pss_one (ps_if (pt_cmpR op_gt (pv 6) pe_int (nomark _)) (pss_cons (ps_expr (pe_bmK (K := K) rfl PySem.F.plainAttrs_list PySem.F.slot_list_append PySem.F.type_list_append mt_append (pv 7) (pa_cons (pe_tup (pa_cons (pe_op op_mod (pv 9) (pv 6)) (pa_cons (pe_op op_mod (pe_op op_fdivG (pv 9) pe_int) (pv 6)) pa_nil))) pa_nil)))
          (pss_cons (ps_set (i := 10) sc_law.nd rfl (Or.inl rfl) (pe_op (op_addK (K := K) rfl) pe_int (pe_op op_mod (pe_call G_l_cell hr rfl T.m_l_cell T.F_l_cell.kp T.b_l_cell .nil pass_on (pa_cons (pv 0) (pa_cons (pv 8) pa_nil))) (pe_op op_sub (pe_op op_pow pe_int pe_int) pe_int))))
          (pss_cons (ps_set (i := 11) sc_law.nd rfl (Or.inl rfl) (pe_op op_mod (pe_op op_fdivG (pe_call G_l_cell hr rfl T.m_l_cell T.F_l_cell.kp T.b_l_cell .nil pass_on (pa_cons (pv 0) (pa_cons (pv 8) pa_nil))) pe_int) (pe_op op_pow pe_int pe_int)))
          (pss_one (ps_expr (pe_meth (pv 3) T.cl_Hall T.M_Hall_belt G_Hall_belt hr T.b_Hall_belt .nil pass_on (pa_cons (pe_ix (ix_K (K := K) rfl) (pe_ix (ix_K (K := K) rfl) (pv 7) (pe_un un_neg pe_int) (fun _ _ => rfl)) pe_int (fun _ _ => rfl)) (pa_cons (pe_ix (ix_K (K := K) rfl) (pe_ix (ix_K (K := K) rfl) (pv 7) (pe_un un_neg pe_int) (fun _ _ => rfl)) pe_int (fun _ _ => rfl)) (pa_cons (pv 10) (pa_cons (pe_op (op_addK (K := K) rfl) pe_int (pe_op op_mod (pe_op op_fdivG (pv 9) pe_int) (pe_op op_pow pe_int pe_int))) (pa_cons (pv 11) pa_nil))))))))))) pss_nil))))
          (pss_cons (ps_if (pt_not (pt_truK (K := K) rfl (pe_call G_l_asked hr rfl T.m_l_asked T.F_l_asked.kp T.b_l_asked .nil pass_on (pa_cons (pv 3) (pa_cons (pv 7) (pa_cons (pv 5) pa_nil)))) (fun _ => rfl))) (pss_one (ps_ret pe_bl)) pss_nil)
          (pss_cons (ps_if (pt_cmpR (op_eqK (K := K) rfl hu) (pv 1) pe_int (nomark _)) (pss_one (ps_ret pe_bl)) pss_nil)
          (pss_cons (ps_expr (pe_meth (pv 3) T.cl_Hall T.M_Hall_work G_Hall_work hr T.b_Hall_work .nil pass_on (pa_cons (pe_ix (ix_K (K := K) rfl) (pv 4) (pe_un un_neg pe_int) (fun _ _ => rfl)) pa_nil)))
          (pss_cons (ps_if (pt_not (pt_truK (K := K) rfl (pe_call G_l_asked hr rfl T.m_l_asked T.F_l_asked.kp T.b_l_asked .nil pass_on (pa_cons (pv 3) (pa_cons (pv 7) (pa_cons (pv 1) pa_nil)))) (fun _ => rfl))) (pss_one (ps_ret pe_bl)) pss_nil)
          (pss_cons (ps_set (i := 9) sc_law.nd rfl (Or.inl rfl) (pe_call G_l_mixed hr rfl T.m_l_mixed T.F_l_mixed.kp T.b_l_mixed .nil pass_on (pa_cons (pv 0) (pa_cons pe_int pa_nil))))
          (pss_cons (ps_expr (pe_bmK (K := K) rfl PySem.F.plainAttrs_list PySem.F.slot_list_append PySem.F.type_list_append mt_append (pv 7) (pa_cons (pe_tup (pa_cons (pe_op op_mod (pv 9) (pv 1)) (pa_cons (pe_op op_mod (pe_op op_fdivG (pv 9) pe_int) (pv 1)) pa_nil))) pa_nil)))
          (pss_cons (ps_expr (pe_meth (pv 3) T.cl_Hall T.M_Hall_belt G_Hall_belt hr T.b1_Hall_belt T.v1_Hall_belt pass_on (pa_cons (pe_ix (ix_K (K := K) rfl) (pe_ix (ix_K (K := K) rfl) (pv 7) (pe_un un_neg pe_int) (fun _ _ => rfl)) pe_int (fun _ _ => rfl)) (pa_cons (pe_ix (ix_K (K := K) rfl) (pe_ix (ix_K (K := K) rfl) (pv 7) (pe_un un_neg pe_int) (fun _ _ => rfl)) pe_int (fun _ _ => rfl)) (pa_cons pe_int (pa_cons pe_int pa_nil))))))
          (pss_one (ps_ret (pe_call G_l_asked hr rfl T.m_l_asked T.F_l_asked.kp T.b_l_asked .nil pass_on (pa_cons (pv 3) (pa_cons (pv 7) (pa_cons (pv 1) pa_nil)))))))))))))))))))))))), ?_⟩
    try dsimp only [L2.cxX, L2.cxOf, L2.cxComp]
    walk_at "rds"
    refine Rd.cut (fun σ' H' => H' = H ∧ ∃ m b : Int, σ' = [some (.ref p), some (.int m), some (.int b), none, none, none, none, none, none, none, none, none] ∧ 0 ≤ m ∧ m ≤ 30 ∧ -2 ≤ b ∧ b < 60) ?k1 ?i1
    case i1 =>
      walk_at "rds"
      refine Rd.ifD (fun c => ?_) (fun c => ?_)
      · walk_at "rds"
        exact ⟨rfl, _, _, rfl, by omega, by omega, by omega, by omega⟩
      · walk_at "rds"
        refine ⟨rfl, _, _, rfl, by omega, by omega, ?_, ?_⟩
        · split <;> omega
        · split <;> omega
    case k1 =>
      rintro σ' H' ⟨rfl, m, b, rfl, m0, m1, b0, b1⟩
      walk_at "rds"
      intro hp fp H1 hh hf sm
      have hS1 := sm.seq hS
      walk_at "rds"
      rename_i mx hmx mx0 mx1
      refine ⟨mx, m, rfl, mx0, m0, m1, fun nl H2 nms hnl0 s2 hnl2 hnlen hnok hnnd => ?_⟩
      have hh2 := hh.same s2
      have hO2 : OffL K H2 fp p (ns.map V.int) := ((hS.off hf).frame sm.frame).frame s2.frame
      have nnl : nl ∉ fp := fun z => hh.dom nl z hnl0
      clear hmx mx0 mx1
      walk_at "rds"
      refine ⟨.ref p, hp, nl, m, fp, nms, rfl, hh2, hnl2, nnl, m0, m1, hnlen, hnok, hnnd, fun H3 fp3 hh3 fr3 gr3 => ?_⟩
      have hO3 : OffL K H3 fp3 p (ns.map V.int) := hO2.step fr3 gr3
      have hnl3 := fr3.keep _ _ hnl2 nnl
      have nnl3 : nl ∉ fp3 := gr3.off nnl (by rw [hnl2]; simp)
      have hS3 := hO3.sq
      clear hh hh2 hO2 hf sm s2 hS1 fr3 gr3 hnl2 nnl hnl0
      walk_at "rds"
      obtain ⟨th, eth⟩ : ∃ th : Nat, (if m - 1 > 0 then m - 1 else 0) = (th : Int) := ⟨m.toNat - 1, by split <;> omega⟩
      have hth : th = m.toNat - 1 := by split at eth <;> omega
      rw [eth]
      refine Rd.cut (fun σ' H' => H' = H3 ∧ ∃ rc : Int, σ' = [some (.ref p), some (.int m), some (.int b), some (.ref hp), some (.ref nl), some (.int th), some (.int rc), none, none, none, none, none] ∧ 0 ≤ rc ∧ rc ≤ (th : Int)) ?k2 ?i2
      case i2 =>
        walk_at "rds"
        refine Rd.ifD (fun c => ?_) (fun c => ?_)
        · walk_at "rds"
          exact ⟨rfl, _, rfl, by omega, by omega⟩
        · walk_at "rds"
          exact ⟨rfl, _, rfl, by omega, by omega⟩
      case k2 =>
        rintro σ' H' ⟨rfl, rc, rfl, rc0, rc1⟩
        walk_at "rds"
        refine ⟨Nat.zero_le _, fun q hq => ?_⟩
        have sq : Same H' (upd H' q (.lst [])) := same_new hq
        have hhq := hh3.same sq
        have hq1 : (upd H' q (.lst [])) q = some (.lst []) := upd_same
        have hnlq := sq _ _ hnl3
        have nq : q ∉ fp3 := fun z => hh3.dom q z hq
        have nlq : nl ≠ q := ne_of_none hnl3 hq
        have hOq : OffL K (upd H' q (.lst [])) (q :: fp3) p (ns.map V.int) := hO3.step sq.frame (fun a z => by
          rcases List.mem_cons.mp z with rfl | z
          · exact .inr hq
          · exact .inl z)
        have etl : (nms.take (m.toNat - 1)).length = th := by rw [List.length_take]; omega
        generalize upd H' q (.lst []) = H4 at *
        walk_at "rds"
        refine for_range (lo := 2) (n := (2 + b - 2).toNat) (fun i σ H' => ∃ (fp' : List Addr) (pw : List V) (ls : List B5) (a1 a2 a3 a4 : Option V), σ = [some (.ref p), some (.int m), some (.int b), some (.ref hp), some (.ref nl), some (.int th), some (.int rc), some (.ref q), a1, a2, a3, a4] ∧
          HallAt T H' hp ⟨nms.take (m.toNat - 1), ls⟩ fp' ∧ ls.length ≤ i ∧ Between ls th ∧ H' q = some (.lst pw) ∧ Twos H' (pairsT ls) pw ∧ q ∉ fp' ∧ H' nl = some (.lst (nms.map V.str)) ∧ nl ∉ fp' ∧ OffL K H' (q :: fp') p (ns.map V.int))
          ⟨fp3, [], [], _, _, _, _, rfl, hhq, Nat.le_refl _, (fun x hx => by cases hx), hq1, .nil, nq, hnlq, nnl3, hOq⟩ ?_ ?_
        · rintro i σ H5 hi ⟨fp5, pw, ls, a1, a2, a3, a4, rfl, hh5, hll, hbt, hq5, h25, nq5, hnl5, nnl5, hO5⟩
          have hS5 := hO5.sq
          have hpl := h25.length
          have hpz : pw.length < sizeLine := small1000 (by have : (pairsT ls).length = ls.length := by simp [pairsT]
                                                           omega)
          walk_at "rds"
          rename_i mx hmx mx0 mx1
          refine Rd.ifD (fun c => ?_) (fun c => ?_)
          · have r1 := Int.emod_nonneg mx (show rc ≠ 0 by omega)
            have r2 := Int.emod_lt_of_pos mx c
            have r3 := Int.emod_nonneg (mx / 89) (show rc ≠ 0 by omega)
            have r4 := Int.emod_lt_of_pos (mx / 89) c
            walk_at "rds"
            obtain ⟨g, eg⟩ : ∃ g : Nat, mx % rc = (g : Int) := ⟨(mx % rc).toNat, (Int.toNat_of_nonneg r1).symm⟩
            obtain ⟨t, et⟩ : ∃ t : Nat, mx / 89 % rc = (t : Int) := ⟨(mx / 89 % rc).toNat, (Int.toNat_of_nonneg r3).symm⟩
            have g2 : (g : Int) < rc := by rw [← eg]; exact r2
            have t2 : (t : Int) < rc := by rw [← et]; exact r4
            rw [eg, et]
            refine ⟨by show 2 ≤ sizeLine; decide, fun u hu' => ?_⟩
            have su : Same H5 (upd H5 u (.tup [.int g, .int t])) := same_new hu'
            have hu6 : (upd H5 u (.tup [.int g, .int t])) u = some (.tup [.int g, .int t]) := upd_same
            have hq6 := su _ _ hq5
            have hh6 := hh5.same su
            have h26 := h25.keep fun _ _ e => su _ _ e
            have hnl6 := su _ _ hnl5
            have hO6 := hO5.frame su.frame
            have nqu : u ≠ q := (ne_of_none hq5 hu').symm
            generalize upd H5 u (.tup [.int g, .int t]) = H6 at *
            walk_at "rds"
            have fr7 : Frame [q] H6 (upd H6 q (.lst (pw ++ [.ref u]))) := frame_upd (by simp) hq6 (by intro _ z; cases z)
            have hq7 : (upd H6 q (.lst (pw ++ [.ref u]))) q = some (.lst (pw ++ [.ref u])) := upd_same
            have hu7 := fr7.tups _ _ hu6
            have hh7 := hh6.off fr7 (fun x hx z => nq5 (by rw [← List.mem_singleton.mp z]; exact hx))
            have h27 := (h26.keep fr7.tups).snoc (x := (g, t)) hu7
            have hnl7 := fr7.keep _ _ hnl6 (by simpa using nlq)
            have hO7 := hO6.frame (fr7.mono (by simp))
            have hS7 := hO7.sq
            generalize upd H6 q (.lst (pw ++ [.ref u])) = H7 at *
            have al : atI (pw ++ [V.ref u]) (-1) = some (.ref u) := atI_last pw _
            walk_at "rds"
            have z1 : 1 ≤ 1 + cellM ns (2 + (i : Int)) % ((10 : Int) ^ Int.toNat 30 - 1) := by
              have := Int.emod_nonneg (cellM ns (2 + (i : Int))) (show (10 : Int) ^ Int.toNat 30 - 1 ≠ 0 by omega)
              omega
            have z2 : 1 ≤ 1 + mx / 7 % (10 : Int) ^ Int.toNat 9 := by rw [e9]; omega
            have z3 : 0 ≤ cellM ns (2 + (i : Int)) / 3 % (10 : Int) ^ Int.toNat 30 := by rw [e30]; omega
            generalize 1 + cellM ns (2 + (i : Int)) % ((10 : Int) ^ Int.toNat 30 - 1) = gv at *
            generalize 1 + mx / 7 % (10 : Int) ^ Int.toNat 9 = tk at *
            generalize cellM ns (2 + (i : Int)) / 3 % (10 : Int) ^ Int.toNat 30 = st at *
            refine rd_Hall_belt hh7 (by omega) (by show (g : Int) < ((nms.take (m.toNat - 1)).length : Nat); omega) (by omega) (by show (t : Int) < ((nms.take (m.toNat - 1)).length : Nat); omega) z1 z2 z3 (by show ls.length < 60; omega) (fun H8 fp8 hh8 fr8 gr8 => ?_)
            have hq8 := fr8.keep _ _ hq7 nq5
            refine ⟨fp8, _, _, _, _, _, _, rfl, hh8, by simp; omega, between_snoc hbt ⟨by dsimp only; omega, by dsimp only; omega, by dsimp only; omega, by dsimp only; omega⟩, hq8, ?_, gr8.off nq5 (by rw [hq7]; simp), fr8.keep _ _ hnl7 nnl5, gr8.off nnl5 (by rw [hnl7]; simp), hO7.step fr8.cons gr8.cons⟩
            rw [pairs_snoc]
            exact h27.keep fr8.tups
          · walk_at "rds"
            exact ⟨fp5, pw, ls, _, _, _, _, rfl, hh5, by omega, hbt, hq5, h25, nq5, hnl5, nnl5, hO5⟩
        · rintro σ H5 ⟨fp5, pw, ls, a1, a2, a3, a4, rfl, hh5, hll, hbt, hq5, h25, nq5, hnl5, nnl5, hO5⟩
          have hpl := h25.length
          have hpl2 : (pairsT ls).length = ls.length := by simp [pairsT]
          have hpz : pw.length < sizeLine := small1000 (by omega)
          walk_at "rds"
          refine ⟨hp, q, ⟨nms.take (m.toNat - 1), ls⟩, fp5, pw, ?_, hh5, by show (nms.take (m.toNat - 1)).length ≤ 60; omega, by show ls.length ≤ 1000; omega, (by show Between ls (nms.take (m.toNat - 1)).length; rw [etl]; exact hbt), hq5, h25, fun H6 s6 => ?_⟩
          · show [V.ref hp, V.ref q, V.int (th : Int)] = [V.ref hp, V.ref q, V.int ((nms.take (m.toNat - 1)).length : Nat)]
            rw [etl]
          walk_at "rds"
          refine Rd.ifD (fun c => ?_) (fun c => ?_)
          · walk_at "rds"
            exact k _
          · have hml : m.toNat - 1 < nms.length := by omega
            have hnl6 := s6 _ _ hnl5
            have hh6 := hh5.same s6
            have hq6 := s6 _ _ hq5
            have h26 := h25.keep fun _ _ e => s6 _ _ e
            have hO6 := hO5.frame s6.frame
            have ell : nms.map V.str = (nms.take (m.toNat - 1)).map V.str ++ [V.str nms[m.toNat - 1]] := by
              have h1 := List.take_succ_eq_append_getElem hml
              have h2 : nms.take (m.toNat - 1 + 1) = nms := List.take_of_length_le (by omega)
              rw [h2] at h1
              conv => lhs; rw [h1]
              rw [List.map_append]; rfl
            have al : atI (nms.map V.str) (-1) = some (.str nms[m.toNat - 1]) := by rw [ell]; exact atI_last _ _
            walk_at "rds"
            refine rd_Hall_work hh6 (hnok _ (List.getElem_mem hml)) (fun z => ?_) (by show (nms.take (m.toNat - 1)).length < 30; omega) (fun H7 fp7 hh7 fr7 gr7 => ?_)
            · obtain ⟨j, hj, e⟩ := List.getElem_of_mem z
              rw [List.getElem_take] at e
              have hj2 : j < m.toNat - 1 := by rw [etl] at hj; omega
              have := nd_inj hnnd (by omega) hml e
              omega
            have etk : nms.take (m.toNat - 1) ++ [nms[m.toNat - 1]] = nms := by
              rw [← List.take_succ_eq_append_getElem hml]
              exact List.take_of_length_le (by omega)
            have hh7b : HallAt T H7 hp ⟨nms, ls⟩ fp7 := by
              have := hh7
              dsimp only at this
              rw [etk] at this
              exact this
            clear hh7
            have hq7 := fr7.keep _ _ hq6 nq5
            have h27 := h26.keep fr7.tups
            have hO7 : OffL K H7 (q :: fp7) p (ns.map V.int) := hO6.step fr7.cons gr7.cons
            have nq7 := gr7.off nq5 (by rw [hq6]; simp)
            have hS7 := hO7.sq
            have hbn : Between ls nms.length := between_more hbt (by omega)
            walk_at "rds"
            refine ⟨hp, q, ⟨nms, ls⟩, fp7, pw, ?_, hh7b, by show nms.length ≤ 60; omega, by show ls.length ≤ 1000; omega, hbn, hq7, h27, fun H8 s8 => ?_⟩
            · show [V.ref hp, V.ref q, V.int m] = [V.ref hp, V.ref q, V.int (nms.length : Nat)]
              have : m = ((nms.length : Nat) : Int) := by omega
              rw [← this]
            have hh8 := hh7b.same s8
            have hq8 := s8 _ _ hq7
            have h28 := h27.keep fun _ _ e => s8 _ _ e
            have hO8 := hO7.frame s8.frame
            have hS8 := hO8.sq
            have mp : 0 < m := by omega
            walk_at "rds"
            rename_i mx hmx mx0 mx1
            have r1 := Int.emod_nonneg mx (show m ≠ 0 by omega)
            have r2 := Int.emod_lt_of_pos mx mp
            have r3 := Int.emod_nonneg (mx / 89) (show m ≠ 0 by omega)
            have r4 := Int.emod_lt_of_pos (mx / 89) mp
            obtain ⟨g, eg⟩ : ∃ g : Nat, mx % m = (g : Int) := ⟨(mx % m).toNat, (Int.toNat_of_nonneg r1).symm⟩
            obtain ⟨t, et⟩ : ∃ t : Nat, mx / 89 % m = (t : Int) := ⟨(mx / 89 % m).toNat, (Int.toNat_of_nonneg r3).symm⟩
            have g2 : (g : Int) < m := by rw [← eg]; exact r2
            have t2 : (t : Int) < m := by rw [← et]; exact r4
            rw [eg, et]
            refine ⟨by show 2 ≤ sizeLine; decide, fun u hu' => ?_⟩
            have su : Same H8 (upd H8 u (.tup [.int g, .int t])) := same_new hu'
            have hu9 : (upd H8 u (.tup [.int g, .int t])) u = some (.tup [.int g, .int t]) := upd_same
            have hq9 := su _ _ hq8
            have hh9 := hh8.same su
            have h29 := h28.keep fun _ _ e => su _ _ e
            generalize upd H8 u (.tup [.int g, .int t]) = H9 at *
            walk_at "rds"
            have fr7 : Frame [q] H9 (upd H9 q (.lst (pw ++ [.ref u]))) := frame_upd (by simp) hq9 (by intro _ z; cases z)
            have hqA : (upd H9 q (.lst (pw ++ [.ref u]))) q = some (.lst (pw ++ [.ref u])) := upd_same
            have huA := fr7.tups _ _ hu9
            have hhA := hh9.off fr7 (fun x hx z => nq7 (by rw [← List.mem_singleton.mp z]; exact hx))
            have h2A := (h29.keep fr7.tups).snoc (x := (g, t)) huA
            generalize upd H9 q (.lst (pw ++ [.ref u])) = HA at *
            have al2 : atI (pw ++ [V.ref u]) (-1) = some (.ref u) := atI_last pw _
            walk_at "rds"
            refine rd_Hall_belt hhA (by omega) (by show (g : Int) < (nms.length : Nat); omega) (by omega) (by show (t : Int) < (nms.length : Nat); omega) (by decide) (by decide) (by decide) (by show ls.length < 60; omega) (fun HB fpB hhB frB grB => ?_)
            have hqB := frB.keep _ _ hqA nq7
            walk_at "rds"
            refine ⟨hp, q, ⟨nms, ls ++ [⟨g, t, 2, 3, 0⟩]⟩, fpB, _, ?_, hhB, by show nms.length ≤ 60; omega, by simp; omega, between_snoc hbn ⟨by dsimp only; omega, by dsimp only; omega, by dsimp only; omega, by dsimp only; omega⟩, hqB, ?_, fun HC sC => k _⟩
            · show [V.ref hp, V.ref q, V.int m] = [V.ref hp, V.ref q, V.int (nms.length : Nat)]
              have : m = ((nms.length : Nat) : Int) := by omega
              rw [← this]
            · rw [pairs_snoc]
              exact h2A.keep frB.tups
end
theorem bd_l_names {K : PySem.W.Frag} {f : Addr} {fd : FuncData} (F : Fun K "_law_names" "_law_names" s_l_names f fd) : Binds K fd ["_law_cell_here", "_law_many"] [] := F.binds fun _ _ _ _ _ _ us hl => (match us, hl with | [_, _], _ => rfl)
theorem bd_l_cell {K : PySem.W.Frag} {f : Addr} {fd : FuncData} (F : Fun K "_law_cell" "_law_cell" s_l_cell f fd) : Binds K fd ["_law_script", "_law_k"] [] := F.binds fun _ _ _ _ _ _ us hl => (match us, hl with | [_, _], _ => rfl)
theorem bd_l_mixed {K : PySem.W.Frag} {f : Addr} {fd : FuncData} (F : Fun K "_law_mixed" "_law_mixed" s_l_mixed f fd) : Binds K fd ["_law_script", "_law_k"] [] := F.binds fun _ _ _ _ _ _ us hl => (match us, hl with | [_, _], _ => rfl)
theorem bd_Hall_belts {K : PySem.W.Frag} {f : Addr} {fd : FuncData} (F : Fun K "belts" "Hall.belts" s_Hall_belts f fd) : Binds K fd ["self"] [] := F.binds fun _ _ _ _ _ _ us hl => (match us, hl with | [_], _ => rfl)
theorem bd_Hall_names {K : PySem.W.Frag} {f : Addr} {fd : FuncData} (F : Fun K "names" "Hall.names" s_Hall_names f fd) : Binds K fd ["self"] [] := F.binds fun _ _ _ _ _ _ us hl => (match us, hl with | [_], _ => rfl)
theorem bd_ways_of {K : PySem.W.Frag} {f : Addr} {fd : FuncData} (F : Fun K "ways_of" "ways_of" s_ways_of f fd) : Binds K fd ["hall"] [] := F.binds fun _ _ _ _ _ _ us hl => (match us, hl with | [_], _ => rfl)
theorem bd_tree_from {K : PySem.W.Frag} {f : Addr} {fd : FuncData} (F : Fun K "tree_from" "tree_from" s_tree_from f fd) : Binds K fd ["ways", "first"] [] := F.binds fun _ _ _ _ _ _ us hl => (match us, hl with | [_, _], _ => rfl)
theorem bd_forest_of {K : PySem.W.Frag} {f : Addr} {fd : FuncData} (F : Fun K "forest_of" "forest_of" s_forest_of f fd) : Binds K fd ["hall"] [] := F.binds fun _ _ _ _ _ _ us hl => (match us, hl with | [_], _ => rfl)
theorem bd_pieces_of {K : PySem.W.Frag} {f : Addr} {fd : FuncData} (F : Fun K "pieces_of" "pieces_of" s_pieces_of f fd) : Binds K fd ["hall"] [] := F.binds fun _ _ _ _ _ _ us hl => (match us, hl with | [_], _ => rfl)
theorem bd_l_due {K : PySem.W.Frag} {f : Addr} {fd : FuncData} (F : Fun K "_law_due" "_law_due" s_l_due f fd) : Binds K fd ["_law_lines", "_law_many"] [] := F.binds fun _ _ _ _ _ _ us hl => (match us, hl with | [_, _], _ => rfl)
theorem bd_l_asked {K : PySem.W.Frag} {f : Addr} {fd : FuncData} (F : Fun K "_law_asked" "_law_asked" s_l_asked f fd) : Binds K fd ["_law_hall", "_law_lines", "_law_many"] [] := F.binds fun _ _ _ _ _ _ us hl => (match us, hl with | [_, _, _], _ => rfl)
theorem bd_is_name {K : PySem.W.Frag} {f : Addr} {fd : FuncData} (F : Fun K "is_name" "is_name" s_is_name f fd) : Binds K fd ["thing"] [] := F.binds fun _ _ _ _ _ _ us hl => (match us, hl with | [_], _ => rfl)
theorem bd_Hall_work {K : PySem.W.Frag} {f : Addr} {fd : FuncData} (F : Fun K "work" "Hall.work" s_Hall_work f fd) : Binds K fd ["self", "name"] [] := F.binds fun _ _ _ _ _ _ us hl => (match us, hl with | [_, _], _ => rfl)
theorem bd_l_built {K : PySem.W.Frag} {f : Addr} {fd : FuncData} (F : Fun K "_law_built" "_law_built" s_l_built f fd) : Binds K fd ["_law_script", "_law_hall", "_law_names_here", "_law_many"] [] := F.binds fun _ _ _ _ _ _ us hl => (match us, hl with | [_, _, _, _], _ => rfl)
theorem bd_is_whole {K : PySem.W.Frag} {f : Addr} {fd : FuncData} (F : Fun K "is_whole" "is_whole" s_is_whole f fd) : Binds K fd ["thing"] [] := F.binds fun _ _ _ _ _ _ us hl => (match us, hl with | [_], _ => rfl)
theorem bd_is_from {K : PySem.W.Frag} {f : Addr} {fd : FuncData} (F : Fun K "is_from" "is_from" s_is_from f fd) : Binds K fd ["thing", "least"] [] := F.binds fun _ _ _ _ _ _ us hl => (match us, hl with | [_, _], _ => rfl)
theorem bd_need_start {K : PySem.W.Frag} {f : Addr} {fd : FuncData} (F : Fun K "need_start" "need_start" s_need_start f fd) : Binds K fd ["start"] [] := F.binds fun _ _ _ _ _ _ us hl => (match us, hl with | [_], _ => rfl)
theorem bd_is_number_below {K : PySem.W.Frag} {f : Addr} {fd : FuncData} (F : Fun K "is_number_below" "is_number_below" s_is_number_below f fd) : Binds K fd ["thing", "bound"] [] := F.binds fun _ _ _ _ _ _ us hl => (match us, hl with | [_, _], _ => rfl)
theorem bd_Hall_need_work {K : PySem.W.Frag} {f : Addr} {fd : FuncData} (F : Fun K "need_work" "Hall.need_work" s_Hall_need_work f fd) : Binds K fd ["self", "work"] [] := F.binds fun _ _ _ _ _ _ us hl => (match us, hl with | [_, _], _ => rfl)
theorem bd_Hall_lay {K : PySem.W.Frag} {f : Addr} {fd : FuncData} (F : Fun K "lay" "Hall.lay" s_Hall_lay f fd) : Binds K fd ["self", "row"] [] := F.binds fun _ _ _ _ _ _ us hl => (match us, hl with | [_, _], _ => rfl)
theorem bd_Hall_init {K : PySem.W.Frag} {f : Addr} {fd : FuncData} (F : Fun K "__init__" "Hall.__init__" s_Hall_init f fd) : Binds K fd ["self"] [] := F.binds fun _ _ _ _ _ _ us hl => (match us, hl with | [_], _ => rfl)
theorem bd_law {K : PySem.W.Frag} {f : Addr} {fd : FuncData} (F : Fun K "law" "law" s_law f fd) : Binds K fd ["_law_script"] [] := F.binds fun _ _ _ _ _ _ us hl => (match us, hl with | [_], _ => rfl)
theorem tp_mk {K : PySem.W.Frag} {h : Heap} {mg : Str → Option Value} (X : K.In h) (G : h.Ns mainGlobals mg)
    {C_Hall : Addr}
    {X_NoName : Addr}
    {X_Twice : Addr}
    {X_TooMuch : Addr}
    {X_NoWork : Addr}
    {X_NoRate : Addr}
    {tk_MOST_LETTERS : Tok}
    {tk_MOST_WORKS : Tok}
    {tk_MOST_BELTS : Tok}
    {dT_Hall_belt : Addr} {od2_Hall_belt : Option Addr} {sl2_Hall_belt : Array (Option Value)} {n2_Hall_belt : Nat} {oc2_Hall_belt : Value} {dk0_Hall_belt : Tok}
    {f_l_names : Addr} {od_l_names an_l_names : Option Addr} {sl_l_names : Array (Option Value)} {oc_l_names kV_l_names dc_l_names pm_l_names cd_l_names ct_l_names : Value}
    {f_l_cell : Addr} {od_l_cell an_l_cell : Option Addr} {sl_l_cell : Array (Option Value)} {oc_l_cell kV_l_cell dc_l_cell pm_l_cell cd_l_cell ct_l_cell : Value}
    {f_l_mixed : Addr} {od_l_mixed an_l_mixed : Option Addr} {sl_l_mixed : Array (Option Value)} {oc_l_mixed kV_l_mixed dc_l_mixed pm_l_mixed cd_l_mixed ct_l_mixed : Value}
    {f_Hall_belts : Addr} {od_Hall_belts an_Hall_belts : Option Addr} {sl_Hall_belts : Array (Option Value)} {oc_Hall_belts kV_Hall_belts dc_Hall_belts pm_Hall_belts cd_Hall_belts ct_Hall_belts : Value}
    {f_Hall_names : Addr} {od_Hall_names an_Hall_names : Option Addr} {sl_Hall_names : Array (Option Value)} {oc_Hall_names kV_Hall_names dc_Hall_names pm_Hall_names cd_Hall_names ct_Hall_names : Value}
    {f_ways_of : Addr} {od_ways_of an_ways_of : Option Addr} {sl_ways_of : Array (Option Value)} {oc_ways_of kV_ways_of dc_ways_of pm_ways_of cd_ways_of ct_ways_of : Value}
    {f_tree_from : Addr} {od_tree_from an_tree_from : Option Addr} {sl_tree_from : Array (Option Value)} {oc_tree_from kV_tree_from dc_tree_from pm_tree_from cd_tree_from ct_tree_from : Value}
    {f_forest_of : Addr} {od_forest_of an_forest_of : Option Addr} {sl_forest_of : Array (Option Value)} {oc_forest_of kV_forest_of dc_forest_of pm_forest_of cd_forest_of ct_forest_of : Value}
    {f_pieces_of : Addr} {od_pieces_of an_pieces_of : Option Addr} {sl_pieces_of : Array (Option Value)} {oc_pieces_of kV_pieces_of dc_pieces_of pm_pieces_of cd_pieces_of ct_pieces_of : Value}
    {f_l_due : Addr} {od_l_due an_l_due : Option Addr} {sl_l_due : Array (Option Value)} {oc_l_due kV_l_due dc_l_due pm_l_due cd_l_due ct_l_due : Value}
    {f_l_asked : Addr} {od_l_asked an_l_asked : Option Addr} {sl_l_asked : Array (Option Value)} {oc_l_asked kV_l_asked dc_l_asked pm_l_asked cd_l_asked ct_l_asked : Value}
    {f_is_name : Addr} {od_is_name an_is_name : Option Addr} {sl_is_name : Array (Option Value)} {oc_is_name kV_is_name dc_is_name pm_is_name cd_is_name ct_is_name : Value}
    {f_Hall_work : Addr} {od_Hall_work an_Hall_work : Option Addr} {sl_Hall_work : Array (Option Value)} {oc_Hall_work kV_Hall_work dc_Hall_work pm_Hall_work cd_Hall_work ct_Hall_work : Value}
    {f_l_built : Addr} {od_l_built an_l_built : Option Addr} {sl_l_built : Array (Option Value)} {oc_l_built kV_l_built dc_l_built pm_l_built cd_l_built ct_l_built : Value}
    {f_is_whole : Addr} {od_is_whole an_is_whole : Option Addr} {sl_is_whole : Array (Option Value)} {oc_is_whole kV_is_whole dc_is_whole pm_is_whole cd_is_whole ct_is_whole : Value}
    {f_is_from : Addr} {od_is_from an_is_from : Option Addr} {sl_is_from : Array (Option Value)} {oc_is_from kV_is_from dc_is_from pm_is_from cd_is_from ct_is_from : Value}
    {f_need_start : Addr} {od_need_start an_need_start : Option Addr} {sl_need_start : Array (Option Value)} {oc_need_start kV_need_start dc_need_start pm_need_start cd_need_start ct_need_start : Value}
    {f_is_number_below : Addr} {od_is_number_below an_is_number_below : Option Addr} {sl_is_number_below : Array (Option Value)} {oc_is_number_below kV_is_number_below dc_is_number_below pm_is_number_below cd_is_number_below ct_is_number_below : Value}
    {f_Hall_need_work : Addr} {od_Hall_need_work an_Hall_need_work : Option Addr} {sl_Hall_need_work : Array (Option Value)} {oc_Hall_need_work kV_Hall_need_work dc_Hall_need_work pm_Hall_need_work cd_Hall_need_work ct_Hall_need_work : Value}
    {f_Hall_lay : Addr} {od_Hall_lay an_Hall_lay : Option Addr} {sl_Hall_lay : Array (Option Value)} {oc_Hall_lay kV_Hall_lay dc_Hall_lay pm_Hall_lay cd_Hall_lay ct_Hall_lay : Value}
    {f_Hall_belt : Addr} {od_Hall_belt an_Hall_belt : Option Addr} {sl_Hall_belt : Array (Option Value)} {oc_Hall_belt kV_Hall_belt dc_Hall_belt pm_Hall_belt cd_Hall_belt ct_Hall_belt : Value}
    {f_Hall_init : Addr} {od_Hall_init an_Hall_init : Option Addr} {sl_Hall_init : Array (Option Value)} {oc_Hall_init kV_Hall_init dc_Hall_init pm_Hall_init cd_Hall_init ct_Hall_init : Value}
    {f_law : Addr} {od_law an_law : Option Addr} {sl_law : Array (Option Value)} {oc_law kV_law dc_law pm_law cd_law ct_law : Value}
    (a_Hall : PySem.W.nsIn K mainGlobals "Hall" = some (some (.ref C_Hall)))
    (a_l_names : PySem.W.nsIn K mainGlobals "_law_names" = some (some (.ref f_l_names)))
    (l_l_names : K.lookup f_l_names = some ⟨oc_l_names, od_l_names, .func (PySem.W.fnOf "_law_names" "_law_names" (defArgs s_l_names) (defBody s_l_names) (defScope s_l_names) .none kV_l_names dc_l_names pm_l_names an_l_names cd_l_names ct_l_names), sl_l_names⟩)
    (c_l_names : PySem.W.codeIn K cd_l_names "_law_names" = true)
    (k_l_names : PySem.W.keepIn K (.ref f_l_names) = true)
    (a_l_cell : PySem.W.nsIn K mainGlobals "_law_cell" = some (some (.ref f_l_cell)))
    (l_l_cell : K.lookup f_l_cell = some ⟨oc_l_cell, od_l_cell, .func (PySem.W.fnOf "_law_cell" "_law_cell" (defArgs s_l_cell) (defBody s_l_cell) (defScope s_l_cell) .none kV_l_cell dc_l_cell pm_l_cell an_l_cell cd_l_cell ct_l_cell), sl_l_cell⟩)
    (c_l_cell : PySem.W.codeIn K cd_l_cell "_law_cell" = true)
    (k_l_cell : PySem.W.keepIn K (.ref f_l_cell) = true)
    (a_l_mixed : PySem.W.nsIn K mainGlobals "_law_mixed" = some (some (.ref f_l_mixed)))
    (l_l_mixed : K.lookup f_l_mixed = some ⟨oc_l_mixed, od_l_mixed, .func (PySem.W.fnOf "_law_mixed" "_law_mixed" (defArgs s_l_mixed) (defBody s_l_mixed) (defScope s_l_mixed) .none kV_l_mixed dc_l_mixed pm_l_mixed an_l_mixed cd_l_mixed ct_l_mixed), sl_l_mixed⟩)
    (c_l_mixed : PySem.W.codeIn K cd_l_mixed "_law_mixed" = true)
    (k_l_mixed : PySem.W.keepIn K (.ref f_l_mixed) = true)
    (a_Hall_belts : PySem.W.findIn K (.ref C_Hall) "belts" = some (some (.ref f_Hall_belts)))
    (i_Hall_belts : PySem.W.isFn K (.ref f_Hall_belts) = true)
    (l_Hall_belts : K.lookup f_Hall_belts = some ⟨oc_Hall_belts, od_Hall_belts, .func (PySem.W.fnOf "belts" "Hall.belts" (defArgs s_Hall_belts) (defBody s_Hall_belts) (defScope s_Hall_belts) .none kV_Hall_belts dc_Hall_belts pm_Hall_belts an_Hall_belts cd_Hall_belts ct_Hall_belts), sl_Hall_belts⟩)
    (c_Hall_belts : PySem.W.codeIn K cd_Hall_belts "Hall.belts" = true)
    (k_Hall_belts : PySem.W.keepIn K (.ref f_Hall_belts) = true)
    (a_Hall_names : PySem.W.findIn K (.ref C_Hall) "names" = some (some (.ref f_Hall_names)))
    (i_Hall_names : PySem.W.isFn K (.ref f_Hall_names) = true)
    (l_Hall_names : K.lookup f_Hall_names = some ⟨oc_Hall_names, od_Hall_names, .func (PySem.W.fnOf "names" "Hall.names" (defArgs s_Hall_names) (defBody s_Hall_names) (defScope s_Hall_names) .none kV_Hall_names dc_Hall_names pm_Hall_names an_Hall_names cd_Hall_names ct_Hall_names), sl_Hall_names⟩)
    (c_Hall_names : PySem.W.codeIn K cd_Hall_names "Hall.names" = true)
    (k_Hall_names : PySem.W.keepIn K (.ref f_Hall_names) = true)
    (a_ways_of : PySem.W.nsIn K mainGlobals "ways_of" = some (some (.ref f_ways_of)))
    (l_ways_of : K.lookup f_ways_of = some ⟨oc_ways_of, od_ways_of, .func (PySem.W.fnOf "ways_of" "ways_of" (defArgs s_ways_of) (defBody s_ways_of) (defScope s_ways_of) .none kV_ways_of dc_ways_of pm_ways_of an_ways_of cd_ways_of ct_ways_of), sl_ways_of⟩)
    (c_ways_of : PySem.W.codeIn K cd_ways_of "ways_of" = true)
    (k_ways_of : PySem.W.keepIn K (.ref f_ways_of) = true)
    (a_tree_from : PySem.W.nsIn K mainGlobals "tree_from" = some (some (.ref f_tree_from)))
    (l_tree_from : K.lookup f_tree_from = some ⟨oc_tree_from, od_tree_from, .func (PySem.W.fnOf "tree_from" "tree_from" (defArgs s_tree_from) (defBody s_tree_from) (defScope s_tree_from) .none kV_tree_from dc_tree_from pm_tree_from an_tree_from cd_tree_from ct_tree_from), sl_tree_from⟩)
    (c_tree_from : PySem.W.codeIn K cd_tree_from "tree_from" = true)
    (k_tree_from : PySem.W.keepIn K (.ref f_tree_from) = true)
    (a_forest_of : PySem.W.nsIn K mainGlobals "forest_of" = some (some (.ref f_forest_of)))
    (l_forest_of : K.lookup f_forest_of = some ⟨oc_forest_of, od_forest_of, .func (PySem.W.fnOf "forest_of" "forest_of" (defArgs s_forest_of) (defBody s_forest_of) (defScope s_forest_of) .none kV_forest_of dc_forest_of pm_forest_of an_forest_of cd_forest_of ct_forest_of), sl_forest_of⟩)
    (c_forest_of : PySem.W.codeIn K cd_forest_of "forest_of" = true)
    (k_forest_of : PySem.W.keepIn K (.ref f_forest_of) = true)
    (a_pieces_of : PySem.W.nsIn K mainGlobals "pieces_of" = some (some (.ref f_pieces_of)))
    (l_pieces_of : K.lookup f_pieces_of = some ⟨oc_pieces_of, od_pieces_of, .func (PySem.W.fnOf "pieces_of" "pieces_of" (defArgs s_pieces_of) (defBody s_pieces_of) (defScope s_pieces_of) .none kV_pieces_of dc_pieces_of pm_pieces_of an_pieces_of cd_pieces_of ct_pieces_of), sl_pieces_of⟩)
    (c_pieces_of : PySem.W.codeIn K cd_pieces_of "pieces_of" = true)
    (k_pieces_of : PySem.W.keepIn K (.ref f_pieces_of) = true)
    (a_l_due : PySem.W.nsIn K mainGlobals "_law_due" = some (some (.ref f_l_due)))
    (l_l_due : K.lookup f_l_due = some ⟨oc_l_due, od_l_due, .func (PySem.W.fnOf "_law_due" "_law_due" (defArgs s_l_due) (defBody s_l_due) (defScope s_l_due) .none kV_l_due dc_l_due pm_l_due an_l_due cd_l_due ct_l_due), sl_l_due⟩)
    (c_l_due : PySem.W.codeIn K cd_l_due "_law_due" = true)
    (k_l_due : PySem.W.keepIn K (.ref f_l_due) = true)
    (a_l_asked : PySem.W.nsIn K mainGlobals "_law_asked" = some (some (.ref f_l_asked)))
    (l_l_asked : K.lookup f_l_asked = some ⟨oc_l_asked, od_l_asked, .func (PySem.W.fnOf "_law_asked" "_law_asked" (defArgs s_l_asked) (defBody s_l_asked) (defScope s_l_asked) .none kV_l_asked dc_l_asked pm_l_asked an_l_asked cd_l_asked ct_l_asked), sl_l_asked⟩)
    (c_l_asked : PySem.W.codeIn K cd_l_asked "_law_asked" = true)
    (k_l_asked : PySem.W.keepIn K (.ref f_l_asked) = true)
    (a_is_name : PySem.W.nsIn K mainGlobals "is_name" = some (some (.ref f_is_name)))
    (l_is_name : K.lookup f_is_name = some ⟨oc_is_name, od_is_name, .func (PySem.W.fnOf "is_name" "is_name" (defArgs s_is_name) (defBody s_is_name) (defScope s_is_name) .none kV_is_name dc_is_name pm_is_name an_is_name cd_is_name ct_is_name), sl_is_name⟩)
    (c_is_name : PySem.W.codeIn K cd_is_name "is_name" = true)
    (k_is_name : PySem.W.keepIn K (.ref f_is_name) = true)
    (a_Hall_work : PySem.W.findIn K (.ref C_Hall) "work" = some (some (.ref f_Hall_work)))
    (i_Hall_work : PySem.W.isFn K (.ref f_Hall_work) = true)
    (l_Hall_work : K.lookup f_Hall_work = some ⟨oc_Hall_work, od_Hall_work, .func (PySem.W.fnOf "work" "Hall.work" (defArgs s_Hall_work) (defBody s_Hall_work) (defScope s_Hall_work) .none kV_Hall_work dc_Hall_work pm_Hall_work an_Hall_work cd_Hall_work ct_Hall_work), sl_Hall_work⟩)
    (c_Hall_work : PySem.W.codeIn K cd_Hall_work "Hall.work" = true)
    (k_Hall_work : PySem.W.keepIn K (.ref f_Hall_work) = true)
    (a_l_built : PySem.W.nsIn K mainGlobals "_law_built" = some (some (.ref f_l_built)))
    (l_l_built : K.lookup f_l_built = some ⟨oc_l_built, od_l_built, .func (PySem.W.fnOf "_law_built" "_law_built" (defArgs s_l_built) (defBody s_l_built) (defScope s_l_built) .none kV_l_built dc_l_built pm_l_built an_l_built cd_l_built ct_l_built), sl_l_built⟩)
    (c_l_built : PySem.W.codeIn K cd_l_built "_law_built" = true)
    (k_l_built : PySem.W.keepIn K (.ref f_l_built) = true)
    (a_is_whole : PySem.W.nsIn K mainGlobals "is_whole" = some (some (.ref f_is_whole)))
    (l_is_whole : K.lookup f_is_whole = some ⟨oc_is_whole, od_is_whole, .func (PySem.W.fnOf "is_whole" "is_whole" (defArgs s_is_whole) (defBody s_is_whole) (defScope s_is_whole) .none kV_is_whole dc_is_whole pm_is_whole an_is_whole cd_is_whole ct_is_whole), sl_is_whole⟩)
    (c_is_whole : PySem.W.codeIn K cd_is_whole "is_whole" = true)
    (k_is_whole : PySem.W.keepIn K (.ref f_is_whole) = true)
    (a_is_from : PySem.W.nsIn K mainGlobals "is_from" = some (some (.ref f_is_from)))
    (l_is_from : K.lookup f_is_from = some ⟨oc_is_from, od_is_from, .func (PySem.W.fnOf "is_from" "is_from" (defArgs s_is_from) (defBody s_is_from) (defScope s_is_from) .none kV_is_from dc_is_from pm_is_from an_is_from cd_is_from ct_is_from), sl_is_from⟩)
    (c_is_from : PySem.W.codeIn K cd_is_from "is_from" = true)
    (k_is_from : PySem.W.keepIn K (.ref f_is_from) = true)
    (a_need_start : PySem.W.nsIn K mainGlobals "need_start" = some (some (.ref f_need_start)))
    (l_need_start : K.lookup f_need_start = some ⟨oc_need_start, od_need_start, .func (PySem.W.fnOf "need_start" "need_start" (defArgs s_need_start) (defBody s_need_start) (defScope s_need_start) .none kV_need_start dc_need_start pm_need_start an_need_start cd_need_start ct_need_start), sl_need_start⟩)
    (c_need_start : PySem.W.codeIn K cd_need_start "need_start" = true)
    (k_need_start : PySem.W.keepIn K (.ref f_need_start) = true)
    (a_is_number_below : PySem.W.nsIn K mainGlobals "is_number_below" = some (some (.ref f_is_number_below)))
    (l_is_number_below : K.lookup f_is_number_below = some ⟨oc_is_number_below, od_is_number_below, .func (PySem.W.fnOf "is_number_below" "is_number_below" (defArgs s_is_number_below) (defBody s_is_number_below) (defScope s_is_number_below) .none kV_is_number_below dc_is_number_below pm_is_number_below an_is_number_below cd_is_number_below ct_is_number_below), sl_is_number_below⟩)
    (c_is_number_below : PySem.W.codeIn K cd_is_number_below "is_number_below" = true)
    (k_is_number_below : PySem.W.keepIn K (.ref f_is_number_below) = true)
    (a_Hall_need_work : PySem.W.findIn K (.ref C_Hall) "need_work" = some (some (.ref f_Hall_need_work)))
    (i_Hall_need_work : PySem.W.isFn K (.ref f_Hall_need_work) = true)
    (l_Hall_need_work : K.lookup f_Hall_need_work = some ⟨oc_Hall_need_work, od_Hall_need_work, .func (PySem.W.fnOf "need_work" "Hall.need_work" (defArgs s_Hall_need_work) (defBody s_Hall_need_work) (defScope s_Hall_need_work) .none kV_Hall_need_work dc_Hall_need_work pm_Hall_need_work an_Hall_need_work cd_Hall_need_work ct_Hall_need_work), sl_Hall_need_work⟩)
    (c_Hall_need_work : PySem.W.codeIn K cd_Hall_need_work "Hall.need_work" = true)
    (k_Hall_need_work : PySem.W.keepIn K (.ref f_Hall_need_work) = true)
    (a_Hall_lay : PySem.W.findIn K (.ref C_Hall) "lay" = some (some (.ref f_Hall_lay)))
    (i_Hall_lay : PySem.W.isFn K (.ref f_Hall_lay) = true)
    (l_Hall_lay : K.lookup f_Hall_lay = some ⟨oc_Hall_lay, od_Hall_lay, .func (PySem.W.fnOf "lay" "Hall.lay" (defArgs s_Hall_lay) (defBody s_Hall_lay) (defScope s_Hall_lay) .none kV_Hall_lay dc_Hall_lay pm_Hall_lay an_Hall_lay cd_Hall_lay ct_Hall_lay), sl_Hall_lay⟩)
    (c_Hall_lay : PySem.W.codeIn K cd_Hall_lay "Hall.lay" = true)
    (k_Hall_lay : PySem.W.keepIn K (.ref f_Hall_lay) = true)
    (a_Hall_belt : PySem.W.findIn K (.ref C_Hall) "belt" = some (some (.ref f_Hall_belt)))
    (i_Hall_belt : PySem.W.isFn K (.ref f_Hall_belt) = true)
    (l_Hall_belt : K.lookup f_Hall_belt = some ⟨oc_Hall_belt, od_Hall_belt, .func (PySem.W.fnOf "belt" "Hall.belt" (defArgs s_Hall_belt) (defBody s_Hall_belt) (defScope s_Hall_belt) (.ref dT_Hall_belt) kV_Hall_belt dc_Hall_belt pm_Hall_belt an_Hall_belt cd_Hall_belt ct_Hall_belt), sl_Hall_belt⟩)
    (t_Hall_belt : K.lookup dT_Hall_belt = some ⟨oc2_Hall_belt, od2_Hall_belt, .seq #[.int 0 dk0_Hall_belt] n2_Hall_belt, sl2_Hall_belt⟩)
    (c_Hall_belt : PySem.W.codeIn K cd_Hall_belt "Hall.belt" = true)
    (k_Hall_belt : PySem.W.keepIn K (.ref f_Hall_belt) = true)
    (a_Hall_init : PySem.W.findIn K (.ref C_Hall) "__init__" = some (some (.ref f_Hall_init)))
    (i_Hall_init : PySem.W.isFn K (.ref f_Hall_init) = true)
    (l_Hall_init : K.lookup f_Hall_init = some ⟨oc_Hall_init, od_Hall_init, .func (PySem.W.fnOf "__init__" "Hall.__init__" (defArgs s_Hall_init) (defBody s_Hall_init) (defScope s_Hall_init) .none kV_Hall_init dc_Hall_init pm_Hall_init an_Hall_init cd_Hall_init ct_Hall_init), sl_Hall_init⟩)
    (c_Hall_init : PySem.W.codeIn K cd_Hall_init "Hall.__init__" = true)
    (k_Hall_init : PySem.W.keepIn K (.ref f_Hall_init) = true)
    (a_law : PySem.W.nsIn K mainGlobals "law" = some (some (.ref f_law)))
    (l_law : K.lookup f_law = some ⟨oc_law, od_law, .func (PySem.W.fnOf "law" "law" (defArgs s_law) (defBody s_law) (defScope s_law) .none kV_law dc_law pm_law an_law cd_law ct_law), sl_law⟩)
    (c_law : PySem.W.codeIn K cd_law "law" = true)
    (k_law : PySem.W.keepIn K (.ref f_law) = true)
    (pg_Hall : PySem.W.plainGet K C_Hall Str.empty = true)
    (hd_Hall : PySem.W.hasDictIn K C_Hall = true)
    (po_Hall : PySem.W.plainOver K C_Hall = true)
    (sa_Hall : PySem.W.findIn K (.ref C_Hall) "__setattr__" = some (some (.builtin "object.__setattr__")))
    (mk_Hall : PySem.W.makesIn K C_Hall = true)
    (kc_Hall : PySem.W.keepIn K (.ref C_Hall) = true)
    (na_Hall_numbers : PySem.W.findIn K (.ref C_Hall) "numbers" = some none)
    (na_Hall_rows : PySem.W.findIn K (.ref C_Hall) "rows" = some none)
    (gx_NoName : PySem.W.nsIn K mainGlobals "NoName" = some (some (.ref X_NoName)))
    (ex_NoName : PySem.W.excIn K X_NoName [.type "ValueError", .type "Exception", .type "BaseException", .type "object"] "ValueError.__new__" = true)
    (gx_Twice : PySem.W.nsIn K mainGlobals "Twice" = some (some (.ref X_Twice)))
    (ex_Twice : PySem.W.excIn K X_Twice [.type "ValueError", .type "Exception", .type "BaseException", .type "object"] "ValueError.__new__" = true)
    (gx_TooMuch : PySem.W.nsIn K mainGlobals "TooMuch" = some (some (.ref X_TooMuch)))
    (ex_TooMuch : PySem.W.excIn K X_TooMuch [.type "ValueError", .type "Exception", .type "BaseException", .type "object"] "ValueError.__new__" = true)
    (gx_NoWork : PySem.W.nsIn K mainGlobals "NoWork" = some (some (.ref X_NoWork)))
    (ex_NoWork : PySem.W.excIn K X_NoWork [.type "ValueError", .type "Exception", .type "BaseException", .type "object"] "ValueError.__new__" = true)
    (gx_NoRate : PySem.W.nsIn K mainGlobals "NoRate" = some (some (.ref X_NoRate)))
    (ex_NoRate : PySem.W.excIn K X_NoRate [.type "ValueError", .type "Exception", .type "BaseException", .type "object"] "ValueError.__new__" = true)
    (c_MOST_LETTERS : PySem.W.nsIn K mainGlobals "MOST_LETTERS" = some (some (.int 8 tk_MOST_LETTERS)))
    (c_MOST_WORKS : PySem.W.nsIn K mainGlobals "MOST_WORKS" = some (some (.int 30 tk_MOST_WORKS)))
    (c_MOST_BELTS : PySem.W.nsIn K mainGlobals "MOST_BELTS" = some (some (.int 60 tk_MOST_BELTS)))
    (z_all : PySem.W.nsIn K mainGlobals "all" = some none)
    (z_bool : PySem.W.nsIn K mainGlobals "bool" = some none)
    (z_enumerate : PySem.W.nsIn K mainGlobals "enumerate" = some none)
    (z_int : PySem.W.nsIn K mainGlobals "int" = some none)
    (z_isinstance : PySem.W.nsIn K mainGlobals "isinstance" = some none)
    (z_len : PySem.W.nsIn K mainGlobals "len" = some none)
    (z_list : PySem.W.nsIn K mainGlobals "list" = some none)
    (z_max : PySem.W.nsIn K mainGlobals "max" = some none)
    (z_min : PySem.W.nsIn K mainGlobals "min" = some none)
    (z_range : PySem.W.nsIn K mainGlobals "range" = some none)
    (z_sorted : PySem.W.nsIn K mainGlobals "sorted" = some none)
    (z_str : PySem.W.nsIn K mainGlobals "str" = some none)
    : ∃ T : Tp K mg, True := by
  have F_l_names := fun_mk (st := s_l_names) l_l_names c_l_names k_l_names
  have F_l_cell := fun_mk (st := s_l_cell) l_l_cell c_l_cell k_l_cell
  have F_l_mixed := fun_mk (st := s_l_mixed) l_l_mixed c_l_mixed k_l_mixed
  have F_Hall_belts := fun_mk (st := s_Hall_belts) l_Hall_belts c_Hall_belts k_Hall_belts
  have F_Hall_names := fun_mk (st := s_Hall_names) l_Hall_names c_Hall_names k_Hall_names
  have F_ways_of := fun_mk (st := s_ways_of) l_ways_of c_ways_of k_ways_of
  have F_tree_from := fun_mk (st := s_tree_from) l_tree_from c_tree_from k_tree_from
  have F_forest_of := fun_mk (st := s_forest_of) l_forest_of c_forest_of k_forest_of
  have F_pieces_of := fun_mk (st := s_pieces_of) l_pieces_of c_pieces_of k_pieces_of
  have F_l_due := fun_mk (st := s_l_due) l_l_due c_l_due k_l_due
  have F_l_asked := fun_mk (st := s_l_asked) l_l_asked c_l_asked k_l_asked
  have F_is_name := fun_mk (st := s_is_name) l_is_name c_is_name k_is_name
  have F_Hall_work := fun_mk (st := s_Hall_work) l_Hall_work c_Hall_work k_Hall_work
  have F_l_built := fun_mk (st := s_l_built) l_l_built c_l_built k_l_built
  have F_is_whole := fun_mk (st := s_is_whole) l_is_whole c_is_whole k_is_whole
  have F_is_from := fun_mk (st := s_is_from) l_is_from c_is_from k_is_from
  have F_need_start := fun_mk (st := s_need_start) l_need_start c_need_start k_need_start
  have F_is_number_below := fun_mk (st := s_is_number_below) l_is_number_below c_is_number_below k_is_number_below
  have F_Hall_need_work := fun_mk (st := s_Hall_need_work) l_Hall_need_work c_Hall_need_work k_Hall_need_work
  have F_Hall_lay := fun_mk (st := s_Hall_lay) l_Hall_lay c_Hall_lay k_Hall_lay
  have F_Hall_belt := funD_mk (st := s_Hall_belt) l_Hall_belt c_Hall_belt k_Hall_belt
  have F_Hall_init := fun_mk (st := s_Hall_init) l_Hall_init c_Hall_init k_Hall_init
  have F_law := fun_mk (st := s_law) l_law c_law k_law
  exact ⟨{
    f_l_names := f_l_names, d_l_names := _, F_l_names := F_l_names,
    b_l_names := bd_l_names F_l_names,
    m_l_names := PySem.W.mg_of X G a_l_names,
    f_l_cell := f_l_cell, d_l_cell := _, F_l_cell := F_l_cell,
    b_l_cell := bd_l_cell F_l_cell,
    m_l_cell := PySem.W.mg_of X G a_l_cell,
    f_l_mixed := f_l_mixed, d_l_mixed := _, F_l_mixed := F_l_mixed,
    b_l_mixed := bd_l_mixed F_l_mixed,
    m_l_mixed := PySem.W.mg_of X G a_l_mixed,
    f_Hall_belts := f_Hall_belts, d_Hall_belts := _, F_Hall_belts := F_Hall_belts,
    b_Hall_belts := bd_Hall_belts F_Hall_belts,
    f_Hall_names := f_Hall_names, d_Hall_names := _, F_Hall_names := F_Hall_names,
    b_Hall_names := bd_Hall_names F_Hall_names,
    f_ways_of := f_ways_of, d_ways_of := _, F_ways_of := F_ways_of,
    b_ways_of := bd_ways_of F_ways_of,
    m_ways_of := PySem.W.mg_of X G a_ways_of,
    f_tree_from := f_tree_from, d_tree_from := _, F_tree_from := F_tree_from,
    b_tree_from := bd_tree_from F_tree_from,
    m_tree_from := PySem.W.mg_of X G a_tree_from,
    f_forest_of := f_forest_of, d_forest_of := _, F_forest_of := F_forest_of,
    b_forest_of := bd_forest_of F_forest_of,
    m_forest_of := PySem.W.mg_of X G a_forest_of,
    f_pieces_of := f_pieces_of, d_pieces_of := _, F_pieces_of := F_pieces_of,
    b_pieces_of := bd_pieces_of F_pieces_of,
    m_pieces_of := PySem.W.mg_of X G a_pieces_of,
    f_l_due := f_l_due, d_l_due := _, F_l_due := F_l_due,
    b_l_due := bd_l_due F_l_due,
    m_l_due := PySem.W.mg_of X G a_l_due,
    f_l_asked := f_l_asked, d_l_asked := _, F_l_asked := F_l_asked,
    b_l_asked := bd_l_asked F_l_asked,
    m_l_asked := PySem.W.mg_of X G a_l_asked,
    f_is_name := f_is_name, d_is_name := _, F_is_name := F_is_name,
    b_is_name := bd_is_name F_is_name,
    m_is_name := PySem.W.mg_of X G a_is_name,
    f_Hall_work := f_Hall_work, d_Hall_work := _, F_Hall_work := F_Hall_work,
    b_Hall_work := bd_Hall_work F_Hall_work,
    f_l_built := f_l_built, d_l_built := _, F_l_built := F_l_built,
    b_l_built := bd_l_built F_l_built,
    m_l_built := PySem.W.mg_of X G a_l_built,
    f_is_whole := f_is_whole, d_is_whole := _, F_is_whole := F_is_whole,
    b_is_whole := bd_is_whole F_is_whole,
    m_is_whole := PySem.W.mg_of X G a_is_whole,
    f_is_from := f_is_from, d_is_from := _, F_is_from := F_is_from,
    b_is_from := bd_is_from F_is_from,
    m_is_from := PySem.W.mg_of X G a_is_from,
    f_need_start := f_need_start, d_need_start := _, F_need_start := F_need_start,
    b_need_start := bd_need_start F_need_start,
    m_need_start := PySem.W.mg_of X G a_need_start,
    f_is_number_below := f_is_number_below, d_is_number_below := _, F_is_number_below := F_is_number_below,
    b_is_number_below := bd_is_number_below F_is_number_below,
    m_is_number_below := PySem.W.mg_of X G a_is_number_below,
    f_Hall_need_work := f_Hall_need_work, d_Hall_need_work := _, F_Hall_need_work := F_Hall_need_work,
    b_Hall_need_work := bd_Hall_need_work F_Hall_need_work,
    f_Hall_lay := f_Hall_lay, d_Hall_lay := _, F_Hall_lay := F_Hall_lay,
    b_Hall_lay := bd_Hall_lay F_Hall_lay,
    f_Hall_belt := f_Hall_belt, d_Hall_belt := _, F_Hall_belt := F_Hall_belt,
    dT_Hall_belt := dT_Hall_belt,
    dk0_Hall_belt := dk0_Hall_belt,
    b_Hall_belt := fun s us X hl => (match us, (show us.length = 6 by simpa using hl) with | [_, _, _, _, _, _], _ => PySem.W.binds_K X rfl t_Hall_belt rfl rfl rfl),
    b1_Hall_belt := fun s us X hl => (match us, (show us.length = 5 by simpa using hl) with | [_, _, _, _, _], _ => PySem.W.binds_K X rfl t_Hall_belt rfl rfl rfl),
    v1_Hall_belt := (.cons ⟨_, rfl⟩ .nil),
    f_Hall_init := f_Hall_init, d_Hall_init := _, F_Hall_init := F_Hall_init,
    b_Hall_init := bd_Hall_init F_Hall_init,
    f_law := f_law, d_law := _, F_law := F_law,
    b_law := bd_law F_law,
    m_law := PySem.W.mg_of X G a_law,
    C_Hall := C_Hall, cl_Hall := ⟨pg_Hall, hd_Hall, po_Hall, sa_Hall⟩, g_Hall := PySem.W.mg_of X G a_Hall,
    na_Hall := ⟨fun f hf => (by
      simp only [List.mem_cons, List.not_mem_nil, or_false] at hf
      rcases hf with rfl | rfl
      · exact na_Hall_numbers
      · exact na_Hall_rows)⟩,
    M_Hall_belts := ⟨a_Hall_belts, i_Hall_belts, k_Hall_belts⟩,
    M_Hall_names := ⟨a_Hall_names, i_Hall_names, k_Hall_names⟩,
    M_Hall_work := ⟨a_Hall_work, i_Hall_work, k_Hall_work⟩,
    M_Hall_need_work := ⟨a_Hall_need_work, i_Hall_need_work, k_Hall_need_work⟩,
    M_Hall_lay := ⟨a_Hall_lay, i_Hall_lay, k_Hall_lay⟩,
    M_Hall_belt := ⟨a_Hall_belt, i_Hall_belt, k_Hall_belt⟩,
    mk_Hall := ⟨mk_Hall, a_Hall_init, i_Hall_init, kc_Hall⟩,
    n_all := PySem.W.mg_none_of X G z_all,
    n_bool := PySem.W.mg_none_of X G z_bool,
    n_enumerate := PySem.W.mg_none_of X G z_enumerate,
    n_int := PySem.W.mg_none_of X G z_int,
    n_isinstance := PySem.W.mg_none_of X G z_isinstance,
    n_len := PySem.W.mg_none_of X G z_len,
    n_list := PySem.W.mg_none_of X G z_list,
    n_max := PySem.W.mg_none_of X G z_max,
    n_min := PySem.W.mg_none_of X G z_min,
    n_range := PySem.W.mg_none_of X G z_range,
    n_sorted := PySem.W.mg_none_of X G z_sorted,
    n_str := PySem.W.mg_none_of X G z_str,
    X_NoName := X_NoName, gx_NoName := gx_NoName, mx_NoName := PySem.W.mg_of X G gx_NoName, ex_NoName := ex_NoName,
    X_Twice := X_Twice, gx_Twice := gx_Twice, mx_Twice := PySem.W.mg_of X G gx_Twice, ex_Twice := ex_Twice,
    X_TooMuch := X_TooMuch, gx_TooMuch := gx_TooMuch, mx_TooMuch := PySem.W.mg_of X G gx_TooMuch, ex_TooMuch := ex_TooMuch,
    X_NoWork := X_NoWork, gx_NoWork := gx_NoWork, mx_NoWork := PySem.W.mg_of X G gx_NoWork, ex_NoWork := ex_NoWork,
    X_NoRate := X_NoRate, gx_NoRate := gx_NoRate, mx_NoRate := PySem.W.mg_of X G gx_NoRate, ex_NoRate := ex_NoRate,
    tk_MOST_LETTERS := tk_MOST_LETTERS, c_MOST_LETTERS := PySem.W.mg_of X G c_MOST_LETTERS,
    tk_MOST_WORKS := tk_MOST_WORKS, c_MOST_WORKS := PySem.W.mg_of X G c_MOST_WORKS,
    tk_MOST_BELTS := tk_MOST_BELTS, c_MOST_BELTS := PySem.W.mg_of X G c_MOST_BELTS,
    bl_law := fun s v => .of_eq rfl }, trivial⟩
theorem walk {l : PySem.W.OpenLaw} {q : Program} {loose : List Str} {XP : (Str → Option Value) → Heap → Prop} {YP : World → Heap → Prop} {d : DefRec} {K : Params → PySem.W.Frag} (hn : l.most = some 63) (hdf : d.params.defaults = []) (hdn : d.name = "law")
    (hY : ∀ (w : World) (h : Heap), YP w h → (K w.params).In h)
    (F : ∀ (w : World) (mg : Str → Option Value) (h : Heap), (K w.params).In h → h.Ns mainGlobals mg → ∃ T : Tp (K w.params) mg, True) :
    PySem.W.WalkO q loose XP YP l.row.toRowW d [] (fun f vs => PySem.call f vs) := by
  refine L2.walk_of (n := 63) (k := 7) (x := "_law_script") (CX := fun w => CXX l.prog w) (sp := fun w => spLaw (K w.params)) hn (by decide) hdf ⟨rfl, by decide, by decide⟩ hY (fun w mg fa h KX G hmg => ?_) (fun _ _ a ns hl _ hS => ⟨a, ns, rfl, hS, hl, fun _ => rfl⟩) ?_
  · obtain ⟨T, _⟩ := F w mg h KX G
    rw [hdn, T.m_law] at hmg
    cases hmg
    exact ⟨T.d_law, T.bl_law, fun base _ _ => ok_law T⟩
  · intro w H s e s' z
    obtain ⟨_, _, _, _, _, _, _, _, _, _, _, _, z⟩ := z
    exact z
end Nm
def PySem.W.Fast.tw16456183936684321370 : Nat := 0
def PySem.W.Fast.tw15563815098393381010 : Nat := 0
def PySem.W.Fast.tw16698561853870239697 : Nat := 0
open PySem PySem.W PyProof.Rows
set_option maxRecDepth 100000 in
set_option maxHeartbeats 0 in
theorem PySem.Challenge.cw_ratehall_k05_pieces_holds : PySem.Challenge.rw_ratehall_k05_pieces.Holds := by
  w_on; o_law; k_head; (case hw => w_witness2)
  k_fill
  refine Nm.walk (l := PySem.Challenge.rw_ratehall_k05_pieces) rfl rfl rfl (fun w h Y => PySem.W.kIn_of Y) ?F
  case F =>
    intro w mg h KX G
    refine' Nm.tp_mk KX G ?a_Hall ?a_l_names ?l_l_names ?c_l_names ?k_l_names ?a_l_cell ?l_l_cell ?c_l_cell ?k_l_cell ?a_l_mixed ?l_l_mixed ?c_l_mixed ?k_l_mixed ?a_Hall_belts ?i_Hall_belts ?l_Hall_belts ?c_Hall_belts ?k_Hall_belts ?a_Hall_names ?i_Hall_names ?l_Hall_names ?c_Hall_names ?k_Hall_names ?a_ways_of ?l_ways_of ?c_ways_of ?k_ways_of ?a_tree_from ?l_tree_from ?c_tree_from ?k_tree_from ?a_forest_of ?l_forest_of ?c_forest_of ?k_forest_of ?a_pieces_of ?l_pieces_of ?c_pieces_of ?k_pieces_of ?a_l_due ?l_l_due ?c_l_due ?k_l_due ?a_l_asked ?l_l_asked ?c_l_asked ?k_l_asked ?a_is_name ?l_is_name ?c_is_name ?k_is_name ?a_Hall_work ?i_Hall_work ?l_Hall_work ?c_Hall_work ?k_Hall_work ?a_l_built ?l_l_built ?c_l_built ?k_l_built ?a_is_whole ?l_is_whole ?c_is_whole ?k_is_whole ?a_is_from ?l_is_from ?c_is_from ?k_is_from ?a_need_start ?l_need_start ?c_need_start ?k_need_start ?a_is_number_below ?l_is_number_below ?c_is_number_below ?k_is_number_below ?a_Hall_need_work ?i_Hall_need_work ?l_Hall_need_work ?c_Hall_need_work ?k_Hall_need_work ?a_Hall_lay ?i_Hall_lay ?l_Hall_lay ?c_Hall_lay ?k_Hall_lay ?a_Hall_belt ?i_Hall_belt ?l_Hall_belt ?t_Hall_belt ?c_Hall_belt ?k_Hall_belt ?a_Hall_init ?i_Hall_init ?l_Hall_init ?c_Hall_init ?k_Hall_init ?a_law ?l_law ?c_law ?k_law ?pg_Hall ?hd_Hall ?po_Hall ?sa_Hall ?mk_Hall ?kc_Hall ?na_Hall_numbers ?na_Hall_rows ?gx_NoName ?ex_NoName ?gx_Twice ?ex_Twice ?gx_TooMuch ?ex_TooMuch ?gx_NoWork ?ex_NoWork ?gx_NoRate ?ex_NoRate ?c_MOST_LETTERS ?c_MOST_WORKS ?c_MOST_BELTS ?z_all ?z_bool ?z_enumerate ?z_int ?z_isinstance ?z_len ?z_list ?z_max ?z_min ?z_range ?z_sorted ?z_str
    (case a_Hall => k_is)
    (case a_l_names => k_is)
    (case l_l_names => k_is)
    (case c_l_names => k_is)
    (case k_l_names => k_is)
    (case a_l_cell => k_is)
    (case l_l_cell => k_is)
    (case c_l_cell => k_is)
    (case k_l_cell => k_is)
    (case a_l_mixed => k_is)
    (case l_l_mixed => k_is)
    (case c_l_mixed => k_is)
    (case k_l_mixed => k_is)
    (case a_Hall_belts => k_is)
    (case i_Hall_belts => k_is)
    (case l_Hall_belts => k_is)
    (case c_Hall_belts => k_is)
    (case k_Hall_belts => k_is)
    (case a_Hall_names => k_is)
    (case i_Hall_names => k_is)
    (case l_Hall_names => k_is)
    (case c_Hall_names => k_is)
    (case k_Hall_names => k_is)
    (case a_ways_of => k_is)
    (case l_ways_of => k_is)
    (case c_ways_of => k_is)
    (case k_ways_of => k_is)
    (case a_tree_from => k_is)
    (case l_tree_from => k_is)
    (case c_tree_from => k_is)
    (case k_tree_from => k_is)
    (case a_forest_of => k_is)
    (case l_forest_of => k_is)
    (case c_forest_of => k_is)
    (case k_forest_of => k_is)
    (case a_pieces_of => k_is)
    (case l_pieces_of => k_is)
    (case c_pieces_of => k_is)
    (case k_pieces_of => k_is)
    (case a_l_due => k_is)
    (case l_l_due => k_is)
    (case c_l_due => k_is)
    (case k_l_due => k_is)
    (case a_l_asked => k_is)
    (case l_l_asked => k_is)
    (case c_l_asked => k_is)
    (case k_l_asked => k_is)
    (case a_is_name => k_is)
    (case l_is_name => k_is)
    (case c_is_name => k_is)
    (case k_is_name => k_is)
    (case a_Hall_work => k_is)
    (case i_Hall_work => k_is)
    (case l_Hall_work => k_is)
    (case c_Hall_work => k_is)
    (case k_Hall_work => k_is)
    (case a_l_built => k_is)
    (case l_l_built => k_is)
    (case c_l_built => k_is)
    (case k_l_built => k_is)
    (case a_is_whole => k_is)
    (case l_is_whole => k_is)
    (case c_is_whole => k_is)
    (case k_is_whole => k_is)
    (case a_is_from => k_is)
    (case l_is_from => k_is)
    (case c_is_from => k_is)
    (case k_is_from => k_is)
    (case a_need_start => k_is)
    (case l_need_start => k_is)
    (case c_need_start => k_is)
    (case k_need_start => k_is)
    (case a_is_number_below => k_is)
    (case l_is_number_below => k_is)
    (case c_is_number_below => k_is)
    (case k_is_number_below => k_is)
    (case a_Hall_need_work => k_is)
    (case i_Hall_need_work => k_is)
    (case l_Hall_need_work => k_is)
    (case c_Hall_need_work => k_is)
    (case k_Hall_need_work => k_is)
    (case a_Hall_lay => k_is)
    (case i_Hall_lay => k_is)
    (case l_Hall_lay => k_is)
    (case c_Hall_lay => k_is)
    (case k_Hall_lay => k_is)
    (case a_Hall_belt => k_is)
    (case i_Hall_belt => k_is)
    (case l_Hall_belt => k_is)
    (case t_Hall_belt => k_is)
    (case c_Hall_belt => k_is)
    (case k_Hall_belt => k_is)
    (case a_Hall_init => k_is)
    (case i_Hall_init => k_is)
    (case l_Hall_init => k_is)
    (case c_Hall_init => k_is)
    (case k_Hall_init => k_is)
    (case a_law => k_is)
    (case l_law => k_is)
    (case c_law => k_is)
    (case k_law => k_is)
    (case pg_Hall => k_is)
    (case hd_Hall => k_is)
    (case po_Hall => k_is)
    (case sa_Hall => k_is)
    (case mk_Hall => k_is)
    (case kc_Hall => k_is)
    (case na_Hall_numbers => k_is)
    (case na_Hall_rows => k_is)
    (case gx_NoName => k_is)
    (case ex_NoName => k_exc)
    (case gx_Twice => k_is)
    (case ex_Twice => k_exc)
    (case gx_TooMuch => k_is)
    (case ex_TooMuch => k_exc)
    (case gx_NoWork => k_is)
    (case ex_NoWork => k_exc)
    (case gx_NoRate => k_is)
    (case ex_NoRate => k_exc)
    (case c_MOST_LETTERS => k_is)
    (case c_MOST_WORKS => k_is)
    (case c_MOST_BELTS => k_is)
    (case z_all => k_is)
    (case z_bool => k_is)
    (case z_enumerate => k_is)
    (case z_int => k_is)
    (case z_isinstance => k_is)
    (case z_len => k_is)
    (case z_list => k_is)
    (case z_max => k_is)
    (case z_min => k_is)
    (case z_range => k_is)
    (case z_sorted => k_is)
    (case z_str => k_is)
#print axioms PySem.Challenge.cw_ratehall_k05_pieces_holds
