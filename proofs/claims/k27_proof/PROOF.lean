import PyProof.Rows.All
import Wide.All
import OpenK.AllK
import Wide.FinOn
import Lean
import PyProof.EqAt
import PyProof.EqKinds
import PyProof.TupleCall
import PyProof.NeData
import PyProof.FactsAll.tuple_2
import PySem.Challenge.RW_pulsebook_k27_nothing_is_kept
set_option Elab.async false
set_option linter.all false
set_option maxRecDepth 100000
set_option genSizeOf false

namespace L2
open PySem PySem.Spec PyProof.Rows
noncomputable abbrev Key := Sum Int Str
noncomputable def keyIs : Key → Value → Bool
  | .inl k, v => Value.isInt k v
  | .inr x, v => Value.isStrOf x v
noncomputable def keyH (w : World) : Key → Int
  | .inl k => hashInt k
  | .inr x => hashStr w x
theorem keyIs_shape : ∀ {k : Key} {v : Value}, keyIs k v = true → (∃ i t, k = Sum.inl i ∧ v = Value.int i t) ∨ (∃ x t, k = Sum.inr x ∧ v = Value.str x t)
  | .inl i, v, h => by
    obtain ⟨t, e⟩ := Value.isInt_shape (k := i) (v := v) h
    exact .inl ⟨i, t, rfl, e⟩
  | .inr x, v, h => by
    obtain ⟨t, e⟩ := Value.isStrOf_shape (x := x) (v := v) h
    exact .inr ⟨x, t, rfl, e⟩
theorem keyIs_int (i : Int) (t : Tok) : keyIs (.inl i) (.int i t) = true := by simp [keyIs, Value.isInt]
theorem keyIs_str (x : Str) (t : Tok) : keyIs (.inr x) (.str x t) = true := by simp [keyIs, Value.isStrOf]
theorem key_ll (a b : Int) : decide ((Sum.inl a : Key) = Sum.inl b) = (a == b) := by
  by_cases e : a = b
  · subst e; simp
  · have h : ¬ (Sum.inl a : Key) = Sum.inl b := fun q => e (Sum.inl.inj q)
    rw [decide_eq_false h]
    exact (beq_eq_false_iff_ne.mpr e).symm
theorem key_rr (a b : Str) : decide ((Sum.inr a : Key) = Sum.inr b) = decide (a = b) := by
  by_cases e : a = b
  · subst e; simp
  · have h : ¬ (Sum.inr a : Key) = Sum.inr b := fun q => e (Sum.inr.inj q)
    rw [decide_eq_false h, decide_eq_false e]
theorem key_lr (a : Int) (b : Str) : decide ((Sum.inl a : Key) = Sum.inr b) = false := decide_eq_false (fun q => nomatch q)
theorem key_rl (a : Str) (b : Int) : decide ((Sum.inr a : Key) = Sum.inl b) = false := decide_eq_false (fun q => nomatch q)
noncomputable def mixKind (prog : Program) (w : World) : PySem.KeyKind prog w Key where
  is := keyIs
  hash := keyH w
  inj := fun v a b ha hb => by
    rcases keyIs_shape ha with ⟨i, t, rfl, rfl⟩ | ⟨x, t, rfl, rfl⟩
    · rcases keyIs_shape hb with ⟨j, u, rfl, e⟩ | ⟨y, u, rfl, e⟩
      · injection e with e1 _; rw [e1]
      · exact nomatch e
    · rcases keyIs_shape hb with ⟨j, u, rfl, e⟩ | ⟨y, u, rfl, e⟩
      · exact nomatch e
      · injection e with e1 _; rw [e1]
  byValue := fun k v h => by
    rcases keyIs_shape h with ⟨i, t, rfl, rfl⟩ | ⟨x, t, rfl, rfl⟩ <;> rfl
  pyHash := fun hv h => by
    rcases keyIs_shape hv with ⟨i, t, rfl, rfl⟩ | ⟨x, t, rfl, rfl⟩
    · exact wpAny_pyHash_int h
    · exact wpAny_pyHash_str h
  eqBool := fun hu hv h => by
    rcases keyIs_shape hu with ⟨i, t, rfl, rfl⟩ | ⟨x, t, rfl, rfl⟩
    · rcases keyIs_shape hv with ⟨j, u, rfl, rfl⟩ | ⟨y, u, rfl, rfl⟩
      · rw [key_ll] at h; exact wpAny_eqBool_int h
      · rw [key_lr] at h; exact SeqAt.EqAt.int_str i t y u _ _ _ _ h
    · rcases keyIs_shape hv with ⟨j, u, rfl, rfl⟩ | ⟨y, u, rfl, rfl⟩
      · rw [key_rl] at h; exact SeqAt.EqAt.str_int x t j u _ _ _ _ h
      · rw [key_rr] at h; exact wpAny_eqBool_str h
  «strs» := fun k x t v h => by
    rcases keyIs_shape h with ⟨i, u, rfl, e⟩ | ⟨y, u, rfl, e⟩
    · exact nomatch e
    · injection e with e1 _
      subst e1
      cases v <;> rfl
theorem mixKind_int (prog : Program) (w : World) (i : Int) (t : Tok) : (mixKind prog w).is (.inl i) (.int i t) = true := keyIs_int i t
theorem mixKind_str (prog : Program) (w : World) (x : Str) (t : Tok) : (mixKind prog w).is (.inr x) (.str x t) = true := keyIs_str x t
end L2
namespace L2
open PySem PySem.Spec PyProof.Rows
inductive V where
  | non | bl (b : Bool) | int (i : Int) | str (x : Str) | byt (b : Array UInt8) | flt (b : UInt64) | ref (a : Addr) | ty (n : String)
  deriving DecidableEq
noncomputable def RelV : V → Value → Prop
  | .non, u => u = Value.none
  | .bl b, u => u = Value.bool b
  | .int i, u => ∃ t, u = Value.int i t
  | .str x, u => ∃ t, u = Value.str x t
  | .byt b, u => ∃ t, u = Value.bytes b t
  | .flt b, u => ∃ t, u = Value.float b t
  | .ref a, u => u = Value.ref a
  | .ty n, u => u = Value.type n
noncomputable abbrev Vals : List V → List Value → Prop := Paired RelV
theorem Vals.length {xs : List V} {us : List Value} (r : Vals xs us) : xs.length = us.length := Paired.length r
theorem Vals.get : ∀ {xs : List V} {us : List Value} {i : Nat} {x : V}, Vals xs us → xs[i]? = some x → ∃ u, us[i]? = some u ∧ RelV x u
  | _, _, _, _, .nil, e => by simp at e
  | _, _, 0, _, .cons r _, e => by simp at e; subst e; exact ⟨_, rfl, r⟩
  | _, _, i + 1, x, .cons _ t, e => by
    obtain ⟨u, h1, h2⟩ := Vals.get (i := i) (x := x) t (by simpa using e)
    exact ⟨u, by simpa using h1, h2⟩
theorem Vals.set {x : V} {u : Value} (r : RelV x u) : ∀ {xs : List V} {us : List Value} (i : Nat), Vals xs us → Vals (xs.set i x) (us.set i u)
  | _, _, _, .nil => .nil
  | _, _, 0, .cons _ t => .cons r t
  | _, _, i + 1, .cons q t => .cons q (Vals.set r i t)
theorem Vals.append : ∀ {xs ys : List V} {us ws : List Value}, Vals xs us → Vals ys ws → Vals (xs ++ ys) (us ++ ws)
  | _, _, _, _, .nil, s => s
  | _, _, _, _, .cons r t, s => .cons r (Vals.append t s)
theorem Vals.take : ∀ {xs : List V} {us : List Value} (n : Nat), Vals xs us → Vals (xs.take n) (us.take n)
  | _, _, 0, _ => .nil
  | _, _, _ + 1, .nil => .nil
  | _, _, n + 1, .cons r t => .cons r (Vals.take n t)
theorem Vals.drop : ∀ {xs : List V} {us : List Value} (n : Nat), Vals xs us → Vals (xs.drop n) (us.drop n)
  | _, _, 0, r => r
  | _, _, _ + 1, .nil => .nil
  | _, _, n + 1, .cons _ t => Vals.drop n t
noncomputable def RelO : Option V → Option Value → Prop
  | some v, some u => RelV v u
  | none, none => True
  | _, _ => False
noncomputable def KV {κ : Type} : List (κ × V) → List (κ × Value) → Prop := Paired fun (p : κ × V) (q : κ × Value) => p.1 = q.1 ∧ RelV p.2 q.2
noncomputable def kV : Key → V
  | .inl i => .int i
  | .inr x => .str x
inductive HO where
  | lst (xs : List V)
  | tup (xs : List V)
  | dK (kvs : List (Key × V)) | dT (kvs : List (List Key × V))
  | set (S : Int → Bool) (n : Nat)
  | ins (C dx : Addr) (fs : List (Str × V))
  | own (x : Addr)
  | xd (fs : List (Str × V))
  | met (f x : Addr)
  | rng (lo hi : Int)
  | frz (o : Obj) (u : HO)
  | tbl (ps : Array Value)
  | ext (φ : Heap → Prop)
noncomputable abbrev Hp := Addr → Option HO
noncomputable def upd (H : Hp) (a : Addr) (o : HO) : Hp := fun b => if b = a then some o else H b
theorem upd_same {H : Hp} {a : Addr} {o : HO} : upd H a o a = some o := by unfold upd; rw [if_pos rfl]
theorem upd_ne {H : Hp} {a b : Addr} {o : HO} (h : b ≠ a) : upd H a o b = H b := by unfold upd; rw [if_neg h]
theorem ne_of {H : Hp} {a b : Addr} {o u : HO} (h : H a = some o) (h' : H b = some u) (d : o ≠ u) : a ≠ b := by
  intro e; subst e; rw [h] at h'; exact d (Option.some.inj h')
theorem ne_of_none {H : Hp} {a b : Addr} {o : HO} (h : H a = some o) (h' : H b = none) : a ≠ b := by
  intro e; subst e; rw [h] at h'; cases h'
section
variable (P : Program) (w : World)
noncomputable def ObjOk (H : Hp) (h : Heap) (a : Addr) : HO → Prop
  | .lst xs => xs.length ≤ sizeLine ∧ ∃ (its : List Value) (n : Nat), Vals xs its ∧ h.get? a = some { cls := .type "list", data := .seq its.toArray n }
  | .tup xs => xs.length ≤ sizeLine ∧ ∃ its : List Value, Vals xs its ∧ IsTup h a its.toArray
  | .dK kvs => kvs.length ≤ sizeLine ∧ (a == sysModules) = false ∧ ∃ vs, KV kvs vs ∧ h.DictOf (mixKind P w) a vs
  | .dT kvs => kvs.length ≤ sizeLine ∧ (a == sysModules) = false ∧ ∃ xs : List (List Key × Addr × Value),
      Paired (fun (p : List Key × V) (q : List Key × Addr × Value) => p.1 = q.1 ∧ H q.2.1 = some (.tup (p.1.map kV)) ∧ RelV p.2 q.2.2) kvs xs ∧
      ∃ o es ep, h.get? a = some o ∧ o.ExactDict ∧ o.data = .dict es ep ∧ es.toList = xs.map (entryOfKey (tupleKind (mixKind P w))) ∧ (xs.map (·.1)).Nodup
  | .set S n => h.SetOf (intKind P w) a S n
  | .ins C dx fs => H dx = some (.own a) ∧ fs.length ≤ 1000 ∧ dx ≠ a ∧ h.get? a = some (PySem.W.instObj C dx) ∧
      ∃ mA, h.Ns1 dx mA ∧ (∀ f, RelO (fs.lookup f) (mA f)) ∧ PySem.Within mA (fs.map (·.1))
  | .own _ => ∃ o, h.get? a = some o
  | .xd fs => ∃ mA, h.Ns1 a mA ∧ ∀ f, RelO (fs.lookup f) (mA f)
  | .rng lo hi => ∃ t u v, h.get? a = some { cls := .type "range", data := .fields #[.int lo t, .int hi u, .int 1 v] }
  | .frz o u => h.get? a = some o ∧ ObjOk H h a u
  | .tbl ps => h.get? a = some { cls := .none, data := .fields ps }
  | .met f x => h.get? a = some (PySem.W.methodObj (.ref f) (.ref x))
  | .ext φ => φ h ∧ (∃ o, h.get? a = some o) ∧ ∀ h1 h2 : Heap, φ h1 → (∀ o, h1.get? a = some o → h2.get? a = some o) → φ h2
noncomputable def HOk (H : Hp) (h : Heap) : Prop := ∀ a o, H a = some o → ObjOk P w H h a o
end
section
variable {P : Program} {w : World} {H H' : Hp} {h h' : Heap} {a : Addr} {o : HO}
theorem ObjOk.lt (x : ObjOk P w H h a o) : a < h.objs.size := by
  cases o with
  | lst xs => obtain ⟨_, _, _, _, e⟩ := x; exact Heap.lt_size e
  | tup xs => obtain ⟨_, _, _, p⟩ := x; exact p.lt
  | dK kvs => obtain ⟨_, _, _, _, o, _, _, e, _⟩ := x; exact Heap.lt_size e
  | dT kvs => obtain ⟨_, _, _, _, o, _, _, e, _⟩ := x; exact Heap.lt_size e
  | set S n => obtain ⟨o, _, _, _, e, _⟩ := x; exact Heap.lt_size e
  | ins C dx fs => obtain ⟨_, _, _, e, _⟩ := x; exact Heap.lt_size e
  | own y => obtain ⟨_, e⟩ := x; exact Heap.lt_size e
  | xd fs => obtain ⟨_, ⟨_, _, _, e, _⟩, _⟩ := x; exact Heap.lt_size e
  | rng lo hi => obtain ⟨_, _, _, e⟩ := x; exact Heap.lt_size e
  | frz ob u => obtain ⟨e, _⟩ := x; exact Heap.lt_size e
  | tbl ps => exact Heap.lt_size (show h.get? a = some _ from x)
  | met f y => exact Heap.lt_size (show h.get? a = some _ from x)
  | ext φ => obtain ⟨_, ⟨_, e⟩, _⟩ := x; exact Heap.lt_size e
theorem Paired.mapP {α β : Type} {F G : α → β → Prop} : ∀ {l₁ : List α} {l₂ : List β}, Paired F l₁ l₂ → (∀ a b, F a b → G a b) → Paired G l₁ l₂
  | _, _, .nil, _ => .nil
  | _, _, .cons r t, f => .cons (f _ _ r) (Paired.mapP t f)
theorem ObjOk.stay (x : ObjOk P w H h a o) (k : ∀ b u, (b = a ∨ H b = some (.own a)) → h.get? b = some u → h'.get? b = some u)
    (ho : ∀ b, H b = some (.own a) → H' b = some (.own a)) (ht : ∀ b xs, H b = some (.tup xs) → H' b = some (.tup xs)) : ObjOk P w H' h' a o := by
  induction o with
  | lst xs => obtain ⟨z, its, n, r, e⟩ := x; exact ⟨z, its, n, r, k _ _ (.inl rfl) e⟩
  | tup xs => obtain ⟨z, its, r, ob, e, c⟩ := x; exact ⟨z, its, r, ob, k _ _ (.inl rfl) e, c⟩
  | dK kvs => obtain ⟨z, y, vs, r, ob, es, ep, e, c⟩ := x; exact ⟨z, y, vs, r, ob, es, ep, k _ _ (.inl rfl) e, c⟩
  | dT kvs =>
    obtain ⟨z, y, xs, r, ob, es, ep, e, c⟩ := x
    exact ⟨z, y, xs, Paired.mapP r fun p q z => ⟨z.1, ht _ _ z.2.1, z.2.2⟩, ob, es, ep, k _ _ (.inl rfl) e, c⟩
  | set S n => obtain ⟨ob, es, ep, t, e, c⟩ := x; exact ⟨ob, es, ep, t, k _ _ (.inl rfl) e, c⟩
  | ins C dx fs =>
    obtain ⟨d, z, ne, e, mA, ⟨od, es, ep, e2, c⟩, r⟩ := x
    exact ⟨ho _ d, z, ne, k _ _ (.inl rfl) e, mA, ⟨od, es, ep, k _ _ (.inr d) e2, c⟩, r⟩
  | own y => obtain ⟨ob, e⟩ := x; exact ⟨ob, k _ _ (.inl rfl) e⟩
  | xd fs => obtain ⟨mA, ⟨od, es, ep, e, c⟩, r⟩ := x; exact ⟨mA, ⟨od, es, ep, k _ _ (.inl rfl) e, c⟩, r⟩
  | rng lo hi => obtain ⟨t, u, v, e⟩ := x; exact ⟨t, u, v, k _ _ (.inl rfl) e⟩
  | frz ob u ih => obtain ⟨e, q⟩ := x; exact ⟨k _ _ (.inl rfl) e, ih q⟩
  | tbl ps =>
    have e : h.get? a = some { cls := .none, data := .fields ps } := x
    show h'.get? a = some { cls := .none, data := .fields ps }
    exact k a _ (.inl rfl) e
  | met f y =>
    have e : h.get? a = some (PySem.W.methodObj (.ref f) (.ref y)) := x
    show h'.get? a = some (PySem.W.methodObj (.ref f) (.ref y))
    exact k a _ (.inl rfl) e
  | ext φ => obtain ⟨p, ⟨o, e⟩, st⟩ := x; exact ⟨st _ _ p fun o q => k _ _ (.inl rfl) q, ⟨o, k _ _ (.inl rfl) e⟩, st⟩
theorem HOk.lt (x : HOk P w H h) (e : H a = some o) : a < h.objs.size := (x a o e).lt
theorem HOk.fresh (x : HOk P w H h) (e : h.objs.size ≤ a) : H a = none := by
  cases q : H a with
  | none => rfl
  | some u => exact absurd (Nat.lt_of_lt_of_le (x.lt q) e) (Nat.lt_irrefl _)
theorem HOk.kept (x : HOk P w H h) (k : ∀ b u, h.get? b = some u → h'.get? b = some u) : HOk P w H h' := fun a o e =>
  (x a o e).stay (fun b u _ q => k b u q) (fun _ q => q) fun _ _ q => q
theorem HOk.laid (x : HOk P w H h) (k : ∀ b u, h.get? b = some u → h'.get? b = some u) (hp : h.objs.size ≤ a) (new : ObjOk P w (upd H a o) h' a o) : HOk P w (upd H a o) h' := fun b u e => by
  have hn := x.fresh hp
  by_cases hb : b = a
  · subst hb; rw [upd_same] at e; cases e; exact new
  · rw [upd_ne hb] at e
    exact (x b u e).stay (fun c v _ q => k c v q) (fun c q => by rw [upd_ne (ne_of_none q hn)]; exact q) fun c xs q => by rw [upd_ne (ne_of_none q hn)]; exact q
end
noncomputable def Rd (H : Hp) (a : Addr) (u : HO) : Prop := H a = some u ∨ ∃ o, H a = some (.frz o u)
theorem Rd.ok {P : Program} {w : World} {H : Hp} {h : Heap} {a : Addr} {u : HO} (r : Rd H a u) (x : HOk P w H h) : ObjOk P w H h a u := by
  rcases r with r | ⟨o, r⟩
  · exact x a u r
  · obtain ⟨_, q⟩ := x a _ r
    exact q
noncomputable def Mut : Option HO → Prop
  | some (.lst _) => True
  | some (.dK _) => True
  | some (.dT _) => True
  | some (.set _ _) => True
  | some (.ins _ _ _) => True
  | some (.ext _) => True
  | _ => False
section
variable {P : Program} {w : World} {H : Hp} {h h' : Heap} {x e : Addr} {o' : HO}
theorem HOk.write (ok : HOk P w H h) (mu : Mut (H x)) (he : e = x ∨ H e = some (.own x)) (k : ∀ b u, b ≠ e → h.get? b = some u → h'.get? b = some u) (heo : ∃ u, h'.get? e = some u)
    (new : ObjOk P w (upd H x o') h' x o') : HOk P w (upd H x o') h' := fun b u q => by
  have nown : ∀ c y, H c = some (.own y) → c ≠ x := fun c y r z => by subst z; rw [r] at mu; exact mu
  have ntup : ∀ c xs, H c = some (.tup xs) → c ≠ x := fun c xs r z => by subst z; rw [r] at mu; exact mu
  by_cases hb : b = x
  · subst hb; rw [upd_same] at q; cases q; exact new
  · rw [upd_ne hb] at q
    by_cases hbe : b = e
    · have q' : H b = some (.own x) := by
        rcases he with z | z
        · exact absurd (hbe.trans z) hb
        · rw [hbe]; exact z
      rw [q] at q'; cases q'
      obtain ⟨v, hv⟩ := heo
      exact ⟨v, by rw [hbe]; exact hv⟩
    · refine (ok b u q).stay (fun c v hc r => k c v ?_ r) (fun c r => by rw [upd_ne (nown c b r)]; exact r) fun c xs r => by rw [upd_ne (ntup c xs r)]; exact r
      rcases hc with rfl | hc
      · exact hbe
      · rintro rfl
        rcases he with z | z
        · exact nown c b hc z
        · rw [hc] at z; cases z; exact hb rfl
end
structure Un (fs ex : List Addr) (H H' : Hp) (h h' : Heap) : Prop where
  keep : ∀ b o, h.get? b = some o → H b = none → b ∉ fs → b ∉ ex → h'.get? b = some o
  slot : ∀ b o, h.get? b = some o → H b = none → b ∈ fs → b ∉ ex → ∃ sl, h'.get? b = some { o with slots := sl }
  free : ∀ b o, h.get? b = some o → H b = none → b ∉ ex → H' b = none
  there : ∀ b o, h.get? b = some o → b ∉ ex → ∃ o', h'.get? b = some o'
  tups : ∀ b xs, H b = some (.tup xs) → H' b = some (.tup xs)
  frzs : ∀ b o u, H b = some (.frz o u) → H' b = some (.frz o u)
  tbls : ∀ b ps, H b = some (.tbl ps) → ∃ more, H' b = some (.tbl (ps ++ more))
section
variable {fs fs' ex ex' : List Addr} {H H1 H2 : Hp} {h h1 h2 h' : Heap} {a x e : Addr} {o : HO}
theorem Un.any (u : Un fs ex H H1 h h1) {b : Addr} {ob : Obj} (q : h.get? b = some ob) (n : H b = none) (hx : b ∉ ex) : ∃ sl, h1.get? b = some { ob with slots := sl } := by
  by_cases hb : b ∈ fs
  · exact u.slot b ob q n hb hx
  · exact ⟨ob.slots, u.keep b ob q n hb hx⟩
theorem Un.kept (k : ∀ b u, h.get? b = some u → h'.get? b = some u) : Un fs ex H H h h' :=
  ⟨fun b ob q _ _ _ => k b ob q, fun b ob q _ _ _ => ⟨ob.slots, k b ob q⟩, fun _ _ _ n _ => n, fun b ob q _ => ⟨ob, k b ob q⟩, fun _ _ q => q, fun _ _ _ q => q, fun _ ps q => ⟨#[], by rw [q]; simp⟩⟩
theorem Un.refl : Un fs ex H H h h := Un.kept fun _ _ q => q
theorem Un.laid (k : ∀ b u, h.get? b = some u → h'.get? b = some u) (hp : h.objs.size ≤ a) (hn : H a = none) : Un fs ex H (upd H a o) h h' where
  keep := fun b u q _ _ _ => k b u q
  slot := fun b u q _ _ _ => ⟨u.slots, k b u q⟩
  free := fun b u q n _ => by rw [upd_ne (Nat.ne_of_lt (Nat.lt_of_lt_of_le (Heap.lt_size q) hp))]; exact n
  there := fun b u q _ => ⟨u, k b u q⟩
  tups := fun b xs q => by rw [upd_ne (ne_of_none q hn)]; exact q
  frzs := fun b u xs q => by rw [upd_ne (ne_of_none q hn)]; exact q
  tbls := fun b ps q => ⟨#[], by rw [upd_ne (ne_of_none q hn), q]; simp⟩
theorem Un.write (mu : Mut (H x)) (he : e = x ∨ H e = some (.own x)) (k : ∀ b u, b ≠ e → h.get? b = some u → h'.get? b = some u) (heo : ∃ u, h'.get? e = some u) : Un fs ex H (upd H x o) h h' := by
  have hx : ∀ b, H b = none → b ≠ x := fun b n z => by subst z; rw [n] at mu; exact mu
  have hb : ∀ b, H b = none → b ≠ e := fun b n z => by
    subst z
    rcases he with r | r
    · exact hx b n r
    · rw [n] at r; cases r
  have hm : ∀ b u, H b = some u → ¬ Mut (some u) → b ≠ x := fun b u q nm z => by subst z; rw [q] at mu; exact nm mu
  refine ⟨fun b u q n _ _ => k b u (hb b n) q, fun b u q n _ _ => ⟨u.slots, k b u (hb b n) q⟩, fun b u q n _ => by rw [upd_ne (hx b n)]; exact n, fun b u q _ => ?_,
    fun b xs q => by rw [upd_ne (hm b _ q fun z => z)]; exact q, fun b u xs q => by rw [upd_ne (hm b _ q fun z => z)]; exact q, fun b ps q => ⟨#[], by rw [upd_ne (hm b _ q fun z => z), q]; simp⟩⟩
  by_cases hbe : b = e
  · subst hbe; exact heo
  · exact ⟨u, k b u hbe q⟩
end
noncomputable def trk (h : Heap) (H : Hp) : List Addr := (List.range h.objs.size).filter fun a => (H a).isSome
noncomputable def hidT (h : Heap) (H : Hp) : Heap := PySem.W.hideAll h (trk h H)
theorem hidT_size (h : Heap) (H : Hp) : (hidT h H).objs.size = h.objs.size := PySem.W.hideAll_size _ _
theorem hidT_get {h : Heap} {H : Hp} {b : Addr} {o : Obj} (e : h.get? b = some o) (n : H b = none) : (hidT h H).get? b = some o :=
  PySem.W.hideAll_get _ e fun hm => by
    have q : (H b).isSome = true := (List.mem_filter.mp hm).2
    rw [n] at q; simp at q
theorem of_hidT {h : Heap} {H : Hp} {b : Addr} {o : Obj} (e : (hidT h H).get? b = some o) : h.get? b = some o ∧ H b = none := by
  have e' : h.get? b = some o := PySem.W.of_hideAll (trk h H) e
  refine ⟨e', ?_⟩
  cases q : H b with
  | none => rfl
  | some x =>
    have hm : b ∈ trk h H := List.mem_filter.mpr ⟨List.mem_range.mpr (Heap.lt_size e'), by simp [q]⟩
    have z : (hidT h H).get? b = none := PySem.W.hideAll_none (trk h H) hm
    rw [z] at e; cases e
noncomputable def allNews (g h : Heap) (L : Addr) : List (Addr × Obj) := (List.range h.objs.size).filterMap fun a => if a = L ∨ (g.get? a).isSome = true then none else (h.get? a).map fun o => (a, o)
noncomputable def rest (g h : Heap) (L d : Addr) : List (Addr × Obj) := (allNews g h L).filter fun p => decide (p.1 ≠ d)
end L2
namespace L2
open PySem PySem.Spec PyProof.Rows
structure Mod (K : PySem.W.Frag) (mg : Str → Option Value) (base : Heap) : Prop where
  kin : K.In base
  glob : base.Ns mainGlobals mg
  blt : ∃ mb, base.Ns builtinsNs mb ∧ ∀ x : Str, x ≠ "__name__" → mb x = bootBuiltins x
  nolimit : base.NoLimit
structure Cx where
  prog : Program
  w : World
  K : PySem.W.Frag
  mg : Str → Option Value
  base : Heap
  A : Around
  N : List Str
  s₀ : Shared
  H₀ : Hp
  env : Env
  outer : List Env
  stack : List Env
  ex : List Addr
  fn : Str → Bool
  calm : Bool
  pn : List (Addr × Obj)
  xe : Value → Shared → Prop
noncomputable def frs (l : List Env) : List Addr := l.filterMap (·.frame)
noncomputable abbrev Cx.fs (X : Cx) : List Addr := frs X.outer
noncomputable def Vis (sc : Scope) (x : Str) : Prop := sc.names.lookup x = some .local ∨ sc.names.lookup x = some .cell ∨ sc.names.lookup x = some .free
noncomputable def Loc (sc : Scope) (x : Str) : Prop := sc.names.lookup x = some .local ∨ sc.names.lookup x = some .cell
noncomputable def Look (env : Env) (h : Heap) (m : Str → Option Value) (x : Str) (u : Value) : Prop :=
  (env.kindOf x = some .local ∧ m x = some u) ∨ ((env.kindOf x = some .cell ∨ env.kindOf x = some .free) ∧ ∃ c, env.cells.lookup x = some c ∧ h.IsCell c (some u))
structure Cx.Ok (X : Cx) : Prop where
  mod : Mod X.K X.mg X.base
  kind : X.env.scope.kind = .function
  glob : X.env.globals = mainGlobals
  blt : X.env.builtins = builtinsNs
  above : X.s₀.heap.objs.size ≤ X.env.locals
  inj : ∀ x y c, X.env.cells.lookup x = some c → X.env.cells.lookup y = some c → x = y
  has : ∀ x, (X.env.kindOf x = some .cell ∨ X.env.kindOf x = some .free) → ∃ c, X.env.cells.lookup x = some c
  cab : ∀ x c, X.fn x = true → X.env.cells.lookup x = some c → X.s₀.heap.objs.size ≤ c
  hd : X.calm = true → X.A.handled = none
  frames : X.A.frames = some X.stack
  stk : X.stack = X.outer ∨ (X.stack = X.env :: X.outer ∧ X.env.frame = some X.env.locals)
  exf : ∀ b ∈ X.ex, b ≠ X.env.locals ∧ ∀ x c, X.env.cells.lookup x = some c → c ≠ b
  bs : ∀ b o, X.base.get? b = some o → X.s₀.heap.get? b = some o ∧ X.H₀ b = none
  bsz : X.base.objs.size ≤ X.s₀.heap.objs.size
  noex : ∀ b o, X.base.get? b = some o → b ∉ X.ex
  exfs : ∀ b ∈ X.ex, b ∉ X.fs
  funs : X.s₀.heap.FunFrames X.base X.outer
  frf : ∀ b ∈ X.fs, X.H₀ b = none
structure Inv (X : Cx) (pins : List (Addr × Obj)) (σ : List (Option V)) (H : Hp) (s : Shared) : Prop where
  ok : X.Ok
  os : s.os = X.s₀.os
  bare : AllBare s.gens
  base : Un X.fs X.ex X.H₀ H X.s₀.heap s.heap
  loc : ∃ m, s.heap.Ns X.env.locals m ∧ ∀ (i : Nat) (x : Str) (v : V), X.N[i]? = some x → σ[i]? = some (some v) → Vis X.env.scope x → ∃ u, RelV v u ∧ Look X.env s.heap m x u
  cell : ∀ x c, X.env.cells.lookup x = some c → ∃ v, s.heap.IsCell c v
  free : H X.env.locals = none
  freeC : ∀ x c, X.env.cells.lookup x = some c → H c = none
  pin : ∀ p ∈ X.pn ++ pins, s.heap.get? p.1 = some p.2 ∧ H p.1 = none ∧ p.1 ≠ X.env.locals ∧ p.1 ∉ X.fs ∧ ∀ v, p.2.data ≠ .cell v
  hok : HOk X.prog X.w H s.heap
  len : σ.length = X.N.length
section
variable {X : Cx} {pins : List (Addr × Obj)} {σ : List (Option V)} {H H' : Hp} {s : Shared} {h' : Heap}
theorem Cx.Ok.nofr (ok : X.Ok) {b : Addr} {o : Obj} (e : X.base.get? b = some o) : b ∉ X.fs := fun hb => by
  have := (ok.funs.mem hb).1
  rw [e] at this; cases this
theorem Inv.bs (I : Inv X pins σ H s) : ∀ b o, X.base.get? b = some o → s.heap.get? b = some o ∧ H b = none := fun b o e =>
  ⟨I.base.keep b o (I.ok.bs b o e).1 (I.ok.bs b o e).2 (I.ok.nofr e) (I.ok.noex b o e), I.base.free b o (I.ok.bs b o e).1 (I.ok.bs b o e).2 (I.ok.noex b o e)⟩
theorem Inv.bk (I : Inv X pins σ H s) : ∀ b o, X.base.get? b = some o → s.heap.get? b = some o := fun b o e => (I.bs b o e).1
theorem Inv.mod (I : Inv X pins σ H s) : Mod X.K X.mg X.base := I.ok.mod
theorem Inv.kIn (I : Inv X pins σ H s) : X.K.In s.heap := I.ok.mod.kin.keeps I.bk
theorem Inv.lt (I : Inv X pins σ H s) : X.env.locals < s.heap.objs.size := let ⟨_, hn, _⟩ := I.loc; hn.lt
theorem Inv.sz (I : Inv X pins σ H s) : X.s₀.heap.objs.size ≤ s.heap.objs.size := Nat.le_trans I.ok.above (Nat.le_of_lt I.lt)
theorem Inv.nofs (I : Inv X pins σ H s) {a : Addr} (h : s.heap.objs.size ≤ a) : a ∉ X.fs := fun hb => by
  obtain ⟨_, o, ho, _⟩ := I.ok.funs.mem hb
  exact absurd (Nat.lt_of_lt_of_le (Heap.lt_size ho) (Nat.le_trans I.sz h)) (Nat.lt_irrefl _)
theorem Inv.cne (I : Inv X pins σ H s) : ∀ x c, X.env.cells.lookup x = some c → c ≠ X.env.locals := fun x c e z => by
  obtain ⟨v, o, ho, hd⟩ := I.cell x c e
  obtain ⟨m, ⟨o', es, ep, ho', hd', _⟩, _⟩ := I.loc
  rw [z, ho'] at ho; cases ho; rw [hd'] at hd; cases hd
theorem Inv.funs (I : Inv X pins σ H s) : s.heap.FunFrames X.base X.outer := by
  have all : ∀ (l : List Env), (∀ b ∈ frs l, b ∈ X.fs) → X.s₀.heap.FunFrames X.base l → s.heap.FunFrames X.base l := by
    intro l
    induction l with
    | nil => intro _ _; trivial
    | cons env r ih =>
      intro hs hl
      obtain ⟨hk, ⟨L, o, hf, hn, ho, hd⟩, hr⟩ := hl
      have hL : L ∈ X.fs := hs L (by unfold frs; rw [List.filterMap_cons, hf]; exact List.mem_cons_self)
      obtain ⟨sl, e⟩ := I.base.slot L o ho (I.ok.frf L hL) hL fun z => I.ok.exfs L z hL
      exact ⟨hk, ⟨L, _, hf, hn, e, hd⟩, ih (fun b hb => hs b (by unfold frs; rw [List.filterMap_cons, hf]; exact List.mem_cons_of_mem _ hb)) hr⟩
  exact all X.outer (fun _ hb => hb) I.ok.funs
theorem Inv.stack (I : Inv X pins σ H s) : s.heap.FunFrames X.base X.stack := by
  rcases I.ok.stk with e | ⟨e, hf⟩
  · rw [e]; exact I.funs
  · rw [e]
    obtain ⟨m, hn, _⟩ := I.loc
    refine .cons (by rw [I.ok.kind]; decide) hf hn ?_ I.funs
    exact Heap.get?_none_of_le (Nat.le_trans I.ok.bsz I.ok.above)
theorem Inv.stkSub (I : Inv X pins σ H s) : ∀ b ∈ frs X.stack, b ∈ X.env.locals :: X.fs := fun b hb => by
  rcases I.ok.stk with e | ⟨e, hf⟩
  · rw [e] at hb; exact List.mem_cons_of_mem _ hb
  · rw [e] at hb
    unfold frs at hb
    rw [List.filterMap_cons, hf] at hb
    exact hb
theorem Inv.stkFree (I : Inv X pins σ H s) : ∀ b ∈ frs X.stack, H b = none := fun b hb => by
  rcases List.mem_cons.mp (I.stkSub b hb) with e | hb
  · rw [e]; exact I.free
  · obtain ⟨_, o, ho, _⟩ := I.ok.funs.mem hb
    exact I.base.free b o ho (I.ok.frf b hb) fun z => I.ok.exfs b z hb
theorem Inv.step {g' : Array GenState} {t' : Nat} {d' : Drawn} {ch : List Addr} (I : Inv X pins σ H s)
    (hch : ∀ b ∈ ch, (b ∈ X.ex ∨ X.s₀.heap.objs.size ≤ b) ∧ b ≠ X.env.locals ∧ (∀ x c, X.env.cells.lookup x = some c → c ≠ b) ∧ ∀ p ∈ X.pn ++ pins, p.1 ≠ b)
    (keep : ∀ b o, b ≠ X.env.locals → b ∉ X.fs → b ∉ ch → s.heap.get? b = some o → H b = none → h'.get? b = some o)
    (slot : ∀ b o, b ≠ X.env.locals → b ∈ X.fs → b ∉ ch → s.heap.get? b = some o → H b = none → ∃ sl, h'.get? b = some { o with slots := sl }) (free : ∀ b o, b ∉ ch → s.heap.get? b = some o → H b = none → H' b = none)
    (there : ∀ b o, b ∉ ch → s.heap.get? b = some o → ∃ o', h'.get? b = some o')
    (tups : ∀ b xs, H b = some (.tup xs) → H' b = some (.tup xs)) (frzs : ∀ b o u, H b = some (.frz o u) → H' b = some (.frz o u)) (tbls : ∀ b ps, H b = some (.tbl ps) → ∃ more, H' b = some (.tbl (ps ++ more)))
    (ns : ∀ m, s.heap.Ns X.env.locals m → h'.Ns X.env.locals m) (hok : HOk X.prog X.w H' h') (hg : AllBare g') :
    Inv X pins σ H' { s with heap := h', gens := g', drawn := d', toks := t' } := by
  have neL : ∀ b o, X.s₀.heap.get? b = some o → b ≠ X.env.locals := fun b o e => Nat.ne_of_lt (Nat.lt_of_lt_of_le (Heap.lt_size e) I.ok.above)
  have neC : ∀ b o, X.s₀.heap.get? b = some o → b ∉ X.ex → b ∉ ch := fun b o e hx hb => by
    rcases (hch b hb).1 with z | z
    · exact hx z
    · exact absurd (Nat.lt_of_lt_of_le (Heap.lt_size e) z) (Nat.lt_irrefl _)
  have cellK : ∀ x c, X.env.cells.lookup x = some c → ∀ v, s.heap.IsCell c v → h'.IsCell c v := fun x c e v ⟨o, ho, hd⟩ => by
    have nch : c ∉ ch := fun z => (hch c z).2.2.1 x c e rfl
    by_cases hc : c ∈ X.fs
    · obtain ⟨sl, q⟩ := slot c o (I.cne x c e) hc nch ho (I.freeC x c e)
      exact ⟨_, q, hd⟩
    · exact ⟨o, keep c o (I.cne x c e) hc nch ho (I.freeC x c e), hd⟩
  refine ⟨I.ok, I.os, hg, ⟨fun b o e n hb hx => ?_, fun b o e n hb hx => ?_, fun b o e n hx => ?_, fun b o e hx => ?_, fun b xs e => tups b xs (I.base.tups b xs e), fun b o xs e => frzs b o xs (I.base.frzs b o xs e), fun b ps e => ?_⟩, ?_, fun x c e => ?_, ?_, fun x c e => ?_, fun p hp => ?_, hok, I.len⟩
  · exact keep b o (neL b o e) hb (neC b o e hx) (I.base.keep b o e n hb hx) (I.base.free b o e n hx)
  · obtain ⟨sl, e1⟩ := I.base.slot b o e n hb hx
    obtain ⟨sl', e2⟩ := slot b _ (neL b o e) hb (neC b o e hx) e1 (I.base.free b o e n hx)
    exact ⟨sl', e2⟩
  · obtain ⟨o', e1⟩ := I.base.there b o e hx
    exact free b o' (neC b o e hx) e1 (I.base.free b o e n hx)
  · obtain ⟨o', e1⟩ := I.base.there b o e hx
    exact there b o' (neC b o e hx) e1
  · obtain ⟨m1, e1⟩ := I.base.tbls b ps e
    obtain ⟨m2, e2⟩ := tbls b _ e1
    exact ⟨m1 ++ m2, by rw [e2, Array.append_assoc]⟩
  · obtain ⟨m, hn, hl⟩ := I.loc
    refine ⟨m, ns m hn, fun i x v e1 e2 e3 => ?_⟩
    obtain ⟨u, r, l⟩ := hl i x v e1 e2 e3
    refine ⟨u, r, ?_⟩
    rcases l with l | ⟨k, c, e, z⟩
    · exact .inl l
    · exact .inr ⟨k, c, e, cellK x c e _ z⟩
  · obtain ⟨v, z⟩ := I.cell x c e
    exact ⟨v, cellK x c e v z⟩
  · obtain ⟨m, ⟨o, _, _, ho, _⟩, _⟩ := I.loc
    exact free _ o (fun z => (hch _ z).2.1 rfl) ho I.free
  · obtain ⟨v, o, ho, hd⟩ := I.cell x c e
    exact free c o (fun z => (hch c z).2.2.1 x c e rfl) ho (I.freeC x c e)
  · obtain ⟨e, n, ne, nf, d⟩ := I.pin p hp
    have nch : p.1 ∉ ch := fun z => (hch p.1 z).2.2.2 p hp rfl
    exact ⟨keep p.1 p.2 ne nf nch e n, free p.1 p.2 nch e n, ne, nf, d⟩
theorem Inv.un {t' : Nat} (I : Inv X pins σ H s) (u : Un X.fs [] H H' s.heap h') (hok : HOk X.prog X.w H' h') : Inv X pins σ H' { s with heap := h', toks := t' } := by
  obtain ⟨m, ⟨o, es, ep, ho, r⟩, _⟩ := id I.loc
  obtain ⟨sl, hL⟩ := u.any ho I.free (by simp)
  exact I.step (g' := s.gens) (d' := s.drawn) (ch := []) (fun _ z => nomatch z) (fun b o _ hb _ e n => u.keep b o e n hb (by simp)) (fun b o _ hb _ e n => u.slot b o e n hb (by simp)) (fun b o _ e n => u.free b o e n (by simp)) (fun b o _ e => u.there b o e (by simp)) u.tups u.frzs u.tbls (fun m' hm => by
    obtain ⟨o', es', ep', ho', r'⟩ := hm
    rw [ho] at ho'; cases ho'
    exact ⟨_, es', ep', hL, r'⟩) hok I.bare
theorem Inv.call {g' : Array GenState} {t' : Nat} {d' : Drawn} {ch : List Addr} (I : Inv X pins σ H s) (u : Un (frs X.stack) ch H H' s.heap h') (hok : HOk X.prog X.w H' h') (hg : AllBare g')
    (hch : ∀ b ∈ ch, (b ∈ X.ex ∨ X.s₀.heap.objs.size ≤ b) ∧ b ≠ X.env.locals ∧ (∀ x c, X.env.cells.lookup x = some c → c ≠ b) ∧ ∀ p ∈ X.pn ++ pins, p.1 ≠ b) :
    Inv X pins σ H' { s with heap := h', gens := g', drawn := d', toks := t' } := by
  obtain ⟨m, ⟨o, es, ep, ho, r⟩, _⟩ := id I.loc
  obtain ⟨sl, hL⟩ := u.any ho I.free fun z => (hch _ z).2.1 rfl
  exact I.step (ch := ch) hch (fun b o hL hb hc e n => u.keep b o e n (fun z => (List.mem_cons.mp (I.stkSub b z)).elim hL hb) hc) (fun b o _ _ hc e n => u.any e n hc) (fun b o hc e n => u.free b o e n hc) (fun b o hc e => u.there b o e hc) u.tups u.frzs u.tbls (fun m' hm => by
    obtain ⟨o', es', ep', ho', r'⟩ := hm
    rw [ho] at ho'; cases ho'
    exact ⟨_, es', ep', hL, r'⟩) hok hg
theorem Inv.turned {t' : Nat} {it : Addr} (I : Inv X pins σ H s) (k : ∀ b o, b ≠ it → s.heap.get? b = some o → h'.get? b = some o) (hn : H it = none) (hL : it ≠ X.env.locals)
    (h1 : it ∈ X.ex ∨ X.s₀.heap.objs.size ≤ it) (h2 : ∀ x c, X.env.cells.lookup x = some c → c ≠ it) (h3 : ∀ p ∈ X.pn ++ pins, p.1 ≠ it) : Inv X pins σ H { s with heap := h', toks := t' } := by
  have nit : ∀ b u, H b = some u → b ≠ it := fun b u e z => by rw [z, hn] at e; cases e
  refine I.step (g' := s.gens) (d' := s.drawn) (ch := [it]) (fun b hb => ?_) (fun b o _ _ hc e _ => k b o (fun z => hc (by simp [z])) e) (fun b o _ _ hc e _ => ⟨o.slots, k b o (fun z => hc (by simp [z])) e⟩) (fun _ _ _ _ n => n)
    (fun b o hc e => ⟨o, k b o (fun z => hc (by simp [z])) e⟩) (fun _ _ e => e) (fun _ _ _ e => e) (fun b ps e => ⟨#[], by rw [e]; simp⟩) (fun m hm => ?_) (fun b u e => ?_) I.bare
  · have e : b = it := by simpa using hb
    subst e
    exact ⟨h1, hL, h2, h3⟩
  · obtain ⟨o, es, ep, ho, r⟩ := hm
    exact ⟨o, es, ep, k _ o (Ne.symm hL) ho, r⟩
  · refine (I.hok b u e).stay (fun c v hc q => k c v ?_ q) (fun _ q => q) fun _ _ q => q
    rcases hc with z | z
    · rw [z]; exact nit b u e
    · exact nit c _ z
theorem Inv.tok (I : Inv X pins σ H s) (t : Nat) : Inv X pins σ H { s with toks := t } := I.un (h' := s.heap) (t' := t) Un.refl I.hok
theorem Inv.kept {t' : Nat} (I : Inv X pins σ H s) (k : ∀ b u, s.heap.get? b = some u → h'.get? b = some u) : Inv X pins σ H { s with heap := h', toks := t' } := I.un (Un.kept k) (I.hok.kept k)
theorem Inv.laid {a : Addr} {o : HO} {t' : Nat} (I : Inv X pins σ H s) (k : ∀ b u, s.heap.get? b = some u → h'.get? b = some u) (hp : s.heap.objs.size ≤ a) (new : ObjOk X.prog X.w (upd H a o) h' a o) :
    Inv X pins σ (upd H a o) { s with heap := h', toks := t' } := I.un (Un.laid k hp (I.hok.fresh hp)) (I.hok.laid k hp new)
theorem Inv.write {x e : Addr} {o : HO} {t' : Nat} (I : Inv X pins σ H s) (mu : Mut (H x)) (he : e = x ∨ H e = some (.own x)) (k : ∀ b u, b ≠ e → s.heap.get? b = some u → h'.get? b = some u) (heo : ∃ u, h'.get? e = some u)
    (new : ObjOk X.prog X.w (upd H x o) h' x o) : Inv X pins σ (upd H x o) { s with heap := h', toks := t' } := I.un (Un.write mu he k heo) (I.hok.write mu he k heo new)
theorem Inv.pins_of {pins' : List (Addr × Obj)} (I : Inv X pins σ H s) (h : ∀ p ∈ pins', s.heap.get? p.1 = some p.2 ∧ H p.1 = none ∧ p.1 ≠ X.env.locals ∧ p.1 ∉ X.fs ∧ ∀ v, p.2.data ≠ .cell v) : Inv X pins' σ H s :=
  ⟨I.ok, I.os, I.bare, I.base, I.loc, I.cell, I.free, I.freeC, fun p hp => (List.mem_append.mp hp).elim (fun z => I.pin p (List.mem_append_left _ z)) (h p), I.hok, I.len⟩
theorem nodup_ix {N : List Str} (hN : N.Nodup) {i j : Nat} {x : Str} (a : N[i]? = some x) (b : N[j]? = some x) : i = j := by
  obtain ⟨h1, e1⟩ := List.getElem?_eq_some_iff.mp a
  obtain ⟨h2, e2⟩ := List.getElem?_eq_some_iff.mp b
  exact (List.getElem_inj hN).mp (e1.trans e2.symm)
theorem store_ok2 {M : Model} {A : Around} {E : Value → Shared → Prop} {i : Nat} {x : Str} {v : V} {u : Value} {Q : Unit → Shared → Prop} (I : Inv X pins σ H s) (hN : X.N.Nodup) (hi : X.N[i]? = some x) (hx : Loc X.env.scope x) (r : RelV v u)
    (h : ∀ s', Inv X pins (σ.set i (some v)) H s' → (∃ a, Heap.SameBut a s.heap s'.heap ∧ (a = X.env.locals ∨ X.env.cells.lookup x = some a)) → Q () s') (hf : X.fn x = true ∨ X.env.scope.names.lookup x = some .local := by first | exact .inl rfl | exact .inr rfl | assumption) : wpAny M A (storeName X.env x u) Q E s := by
  obtain ⟨m, hn, hl⟩ := id I.loc
  have hcls : (X.env.scope.kind == .class || (X.env.scope.kind == .module && X.env.locals != X.env.globals)) = false := by rw [I.ok.kind]; rfl
  have hiσ : i < σ.length := by rw [I.len]; exact (List.getElem?_eq_some_iff.mp hi).1
  have cne := I.cne
  have tracked : ∀ {a : Addr} {h' : Heap}, (∃ o, s.heap.get? a = some o ∧ H a = none) → Heap.SameBut a s.heap h' → HOk X.prog X.w H h' := fun {a h'} ha hs b ob e => by
    obtain ⟨_, _, hfree⟩ := ha
    refine (I.hok b ob e).stay (fun c w' hc q => (hs.2 c ?_).trans q) (fun _ q => q) fun _ _ q => q
    rintro rfl
    rcases hc with rfl | hc
    · rw [hfree] at e; cases e
    · rw [hfree] at hc; cases hc
  rcases hx with hk | hk
  · refine wpAny_storeName_local hk hn (fun h' hn' hs => ?_) hcls
    obtain ⟨oL, _, _, hoL, _⟩ := id hn
    refine h _ ⟨I.ok, I.os, I.bare, ⟨fun b o e n hb hx => ?_, fun b o e n hb hx => ?_, I.base.free, fun b o e hx => ?_, I.base.tups, I.base.frzs, I.base.tbls⟩, ⟨_, hn', fun j y v' e1 e2 e3 => ?_⟩, fun y c e => ?_, I.free, I.freeC, fun p hp => ?_, tracked ⟨oL, hoL, I.free⟩ hs, by simpa using I.len⟩ ⟨_, hs, .inl rfl⟩
    · exact (hs.2 b (Nat.ne_of_lt (Nat.lt_of_lt_of_le (Heap.lt_size e) I.ok.above))).trans (I.base.keep b o e n hb hx)
    · obtain ⟨sl, e1⟩ := I.base.slot b o e n hb hx
      exact ⟨sl, (hs.2 b (Nat.ne_of_lt (Nat.lt_of_lt_of_le (Heap.lt_size e) I.ok.above))).trans e1⟩
    · obtain ⟨o', e1⟩ := I.base.there b o e hx
      exact ⟨o', (hs.2 b (Nat.ne_of_lt (Nat.lt_of_lt_of_le (Heap.lt_size e) I.ok.above))).trans e1⟩
    · by_cases hj : j = i
      · subst hj
        rw [hi] at e1; cases e1
        rw [List.getElem?_set_self hiσ] at e2
        cases e2
        exact ⟨u, r, .inl ⟨hk, by simp⟩⟩
      · rw [List.getElem?_set_ne (Ne.symm hj)] at e2
        obtain ⟨u', r', q⟩ := hl j y v' e1 e2 e3
        refine ⟨u', r', ?_⟩
        rcases q with ⟨k, e⟩ | ⟨k, c, e, z⟩
        · refine .inl ⟨k, ?_⟩
          have : y ≠ x := fun e => hj (nodup_ix hN e1 (e ▸ hi))
          simp [this, e]
        · exact .inr ⟨k, c, e, z.sameBut hs (cne y c e)⟩
    · obtain ⟨w', z⟩ := I.cell y c e
      exact ⟨w', z.sameBut hs (cne y c e)⟩
    · obtain ⟨e, n, ne, nf, d⟩ := I.pin p hp
      exact ⟨(hs.2 p.1 ne).trans e, n, ne, nf, d⟩
  · have hfn : X.fn x = true := by
      rcases hf with z | z
      · exact z
      · rw [z] at hk; cases hk
    obtain ⟨c, hc⟩ := I.ok.has x (.inl hk)
    obtain ⟨w', z⟩ := I.cell x c hc
    refine wpAny_storeName_cell I.ok.kind hk hc z (fun h' hc' hs => ?_)
    obtain ⟨oc, hoc, hocd⟩ := id z
    refine h { s with heap := h' } ⟨I.ok, I.os, I.bare, ⟨fun b o e n hb hx => ?_, fun b o e n hb hx => ?_, I.base.free, fun b o e hx => ?_, I.base.tups, I.base.frzs, I.base.tbls⟩, ⟨m, hn.sameBut hs (Ne.symm (cne x c hc)), fun j y v' e1 e2 e3 => ?_⟩, fun y c' e => ?_, I.free, I.freeC, fun p hp => ?_, tracked ⟨oc, hoc, I.freeC x c hc⟩ hs, by simpa using I.len⟩ ⟨c, hs, .inr hc⟩
    · exact (hs.2 b (Nat.ne_of_lt (Nat.lt_of_lt_of_le (Heap.lt_size e) (I.ok.cab x c hfn hc)))).trans (I.base.keep b o e n hb hx)
    · obtain ⟨sl, e1⟩ := I.base.slot b o e n hb hx
      exact ⟨sl, (hs.2 b (Nat.ne_of_lt (Nat.lt_of_lt_of_le (Heap.lt_size e) (I.ok.cab x c hfn hc)))).trans e1⟩
    · obtain ⟨o', e1⟩ := I.base.there b o e hx
      exact ⟨o', (hs.2 b (Nat.ne_of_lt (Nat.lt_of_lt_of_le (Heap.lt_size e) (I.ok.cab x c hfn hc)))).trans e1⟩
    · by_cases hj : j = i
      · subst hj
        rw [hi] at e1; cases e1
        rw [List.getElem?_set_self hiσ] at e2
        cases e2
        exact ⟨u, r, .inr ⟨.inl hk, c, hc, hc'⟩⟩
      · rw [List.getElem?_set_ne (Ne.symm hj)] at e2
        obtain ⟨u', r', q⟩ := hl j y v' e1 e2 e3
        refine ⟨u', r', ?_⟩
        rcases q with q | ⟨k, c', e, z'⟩
        · exact .inl q
        · refine .inr ⟨k, c', e, z'.sameBut hs ?_⟩
          rintro rfl
          exact hj (nodup_ix hN e1 (I.ok.inj _ _ _ e hc ▸ hi))
    · by_cases hcc : c' = c
      · subst hcc; exact ⟨_, hc'⟩
      · obtain ⟨w2, z2⟩ := I.cell y c' e
        exact ⟨w2, z2.sameBut hs hcc⟩
    · obtain ⟨e, n, ne, nf, d⟩ := I.pin p hp
      refine ⟨(hs.2 p.1 ?_).trans e, n, ne, nf, d⟩
      intro q
      rw [q, hoc] at e
      have q' : oc = p.2 := Option.some.inj e
      exact d w' (by rw [← q']; exact hocd)
theorem store_ok {M : Model} {A : Around} {E : Value → Shared → Prop} {i : Nat} {x : Str} {v : V} {u : Value} {Q : Unit → Shared → Prop} (I : Inv X pins σ H s) (hN : X.N.Nodup) (hi : X.N[i]? = some x) (hx : Loc X.env.scope x) (r : RelV v u)
    (h : ∀ s', Inv X pins (σ.set i (some v)) H s' → Q () s') (hf : X.fn x = true ∨ X.env.scope.names.lookup x = some .local := by first | exact .inl rfl | exact .inr rfl | assumption) : wpAny M A (storeName X.env x u) Q E s :=
  store_ok2 I hN hi hx r (fun s' I' _ => h s' I') hf
theorem Inv.call' {s' : Shared} {ch : List Addr} (I : Inv X pins σ H s) (ho : s'.os = s.os) (u : Un (frs X.stack) ch H H' s.heap s'.heap) (hok : HOk X.prog X.w H' s'.heap) (hg : AllBare s'.gens)
    (hch : ∀ b ∈ ch, (b ∈ X.ex ∨ X.s₀.heap.objs.size ≤ b) ∧ b ≠ X.env.locals ∧ (∀ x c, X.env.cells.lookup x = some c → c ≠ b) ∧ ∀ p ∈ X.pn ++ pins, p.1 ≠ b) : Inv X pins σ H' s' := by
  obtain ⟨h', g', d', t', o'⟩ := s'
  have e : o' = s.os := ho
  subst e
  exact I.call (g' := g') (t' := t') (d' := d') u hok hg hch
end
noncomputable abbrev XK := Value → Option Addr → Hp → Prop
noncomputable abbrev St := List (Option V)
noncomputable abbrev VK := V → Hp → Prop
noncomputable abbrev TE := St → Hp → VK → Prop
noncomputable abbrev TT := St → Hp → (Bool → Hp → Prop) → Prop
noncomputable abbrev TA := St → Hp → (List V → Hp → Prop) → Prop
structure Ends where
  nx : St → Hp → Prop
  rt : VK
  bk : St → Hp → Prop := fun _ _ => False
  ct : St → Hp → Prop := fun _ _ => False
noncomputable abbrev TS := Ends → St → Hp → Prop
noncomputable def EP (X : Cx) (pins : List (Addr × Obj)) (σ : St) (Q : VK) (u : Value) (s' : Shared) : Prop := ∃ v H', Inv X pins σ H' s' ∧ RelV v u ∧ Q v H'
noncomputable def TP (X : Cx) (pins : List (Addr × Obj)) (σ : St) (Q : Bool → Hp → Prop) (b : Bool) (s' : Shared) : Prop := ∃ H', Inv X pins σ H' s' ∧ Q b H'
noncomputable def AP (X : Cx) (pins : List (Addr × Obj)) (σ : St) (Q : List V → Hp → Prop) (us : List Value) (s' : Shared) : Prop := ∃ vs H', Inv X pins σ H' s' ∧ Vals vs us ∧ Q vs H'
noncomputable def SP (X : Cx) (pins : List (Addr × Obj)) (D : Ends) (f : Flow) (s' : Shared) : Prop :=
  match f with
  | .next => ∃ σ' H', Inv X pins σ' H' s' ∧ D.nx σ' H'
  | .brk => ∃ σ' H', Inv X pins σ' H' s' ∧ D.bk σ' H'
  | .cont => ∃ σ' H', Inv X pins σ' H' s' ∧ D.ct σ' H'
  | .ret u => ∃ v σ' H', Inv X pins σ' H' s' ∧ RelV v u ∧ D.rt v H'
noncomputable def PE (X : Cx) (e : Expr) (t : TE) : Prop :=
  ∀ (pins : List (Addr × Obj)) (s : Shared) (σ : St) (H : Hp) (Q : VK), Inv X pins σ H s → t σ H Q → wpAny (model X.prog X.w) X.A (eval e X.env) (EP X pins σ Q) X.xe s
noncomputable def PT (X : Cx) (e : Expr) (t : TT) : Prop :=
  ∀ (pins : List (Addr × Obj)) (s : Shared) (σ : St) (H : Hp) (Q : Bool → Hp → Prop), Inv X pins σ H s → t σ H Q → wpAny (model X.prog X.w) X.A (isTrue e X.env (eval e X.env)) (TP X pins σ Q) X.xe s
noncomputable def PW (X : Cx) (e : Expr) (t : TT) : Prop :=
  ∀ (whole : Sem Value) (pins : List (Addr × Obj)) (s : Shared) (σ : St) (H : Hp) (Q : Bool → Hp → Prop), Inv X pins σ H s → t σ H Q → wpAny (model X.prog X.w) X.A (isTrue e X.env whole) (TP X pins σ Q) X.xe s
theorem PW.pt {X : Cx} {e : Expr} {t : TT} (h : PW X e t) : PT X e t := h _
noncomputable def PA (X : Cx) (es : List Expr) (t : TA) : Prop :=
  ∀ (pos : Pos) (pins : List (Addr × Obj)) (s : Shared) (σ : St) (H : Hp) (Q : List V → Hp → Prop), Inv X pins σ H s → t σ H Q → wpAny (model X.prog X.w) X.A (spliced (backTo pos (starEach es X.env))) (AP X pins σ Q) X.xe s
noncomputable def PS (X : Cx) (st : Stmt) (t : TS) : Prop :=
  ∀ (pins : List (Addr × Obj)) (s : Shared) (σ : St) (H : Hp) (D : Ends), Inv X pins σ H s → t D σ H → wpAny (model X.prog X.w) X.A (exec st X.env) (SP X pins D) X.xe s
noncomputable def PSs (X : Cx) (st : List Stmt) (t : TS) : Prop :=
  ∀ (pins : List (Addr × Obj)) (s : Shared) (σ : St) (H : Hp) (D : Ends), Inv X pins σ H s → t D σ H → wpAny (model X.prog X.w) X.A (execs st X.env) (SP X pins D) X.xe s
theorem thn {α : Type} {t : Sem α} {Q Q' : α → Shared → Prop} {M : Model} {A : Around} {E : Value → Shared → Prop} {s : Shared} (h : wpAny M A t Q E s) (hQ : ∀ a s, Q a s → Q' a s) : wpAny M A t Q' E s := wpAny_mono h hQ fun _ _ x => x
end L2
namespace L2
open PySem PySem.Spec PyProof.Rows
section
variable {X : Cx}
noncomputable def tVar (i : Nat) : TE := fun σ H Q => ∃ v, σ[i]? = some (some v) ∧ Q v H
noncomputable def tC (v : V) : TE := fun _ H Q => Q v H
theorem pe_var {i : Nat} {x : Str} {pos : Pos} (hN : X.N[i]? = some x) (hv : Vis X.env.scope x) (hd : (x == ("__debug__" : Str)) = false := by decide) (hcd : (x == ("__classdict__" : Str)) = false := by decide) : PE X (.Name x pos) (tVar i) := by
  intro pins s σ H Q I h
  obtain ⟨v, e, h⟩ := h
  obtain ⟨m, hn, hl⟩ := I.loc
  obtain ⟨u, r, l⟩ := hl i x v hN e hv
  have fin : EP X pins σ Q u s := ⟨v, H, I, r, h⟩
  rcases l with ⟨hk, hm⟩ | ⟨hk, c, hc, hcell⟩
  · exact wpAny_Name (wpAny_loadName_local I.ok.kind hk hn hm fin) hd
  · rcases hk with hk | hk
    · exact wpAny_Name (wpAny_loadName_cell I.ok.kind hk hc hcell fin) hd
    · exact wpAny_Name (wpAny_loadName_free I.ok.kind hk hc hcell fin hcd) hd
theorem pe_int {i j pos} : PE X (.Constant (.int i) j pos) (tC (.int i)) := fun _ _ _ H _ I h => wpAny_Constant_int ⟨.int i, H, I.tok _, ⟨_, rfl⟩, h⟩
theorem pe_bl {b j pos} : PE X (.Constant (.bool b) j pos) (tC (.bl b)) := fun _ _ _ H _ I h => Constant_bool ⟨.bl b, H, I, rfl, h⟩
theorem pe_non {j pos} : PE X (.Constant .none j pos) (tC .non) := fun _ _ _ H _ I h => Constant_none ⟨.non, H, I, rfl, h⟩
noncomputable def Gl (X : Cx) (x : Str) : Prop := X.env.kindOf x = some .globalImplicit
theorem ld_glob {E : Value → Shared → Prop} {pins : List (Addr × Obj)} {s : Shared} {σ : St} {H : Hp} {x : Str} {u : Value} {pos : Pos} {Q : Value → Shared → Prop} (I : Inv X pins σ H s) (hg : Gl X x) (hm : X.mg x = some u) (h : Q u s)
    (hd : (x == ("__debug__" : Str)) = false := by decide) : wpAny (model X.prog X.w) X.A (eval (.Name x pos) X.env) Q E s :=
  Calls.Name_function_global I.ok.kind hg (Calls.loadGlobal_global (by rw [I.ok.glob]; exact I.mod.glob.keeps I.bk) hm h) hd
theorem ld_blt {E : Value → Shared → Prop} {pins : List (Addr × Obj)} {s : Shared} {σ : St} {H : Hp} {x : Str} {u : Value} {pos : Pos} {Q : Value → Shared → Prop} (I : Inv X pins σ H s) (hg : Gl X x) (hm : X.mg x = none) (hv : bootBuiltins x = some u) (h : Q u s)
    (hn : x ≠ "__name__" := by decide) (hd : (x == ("__debug__" : Str)) = false := by decide) : wpAny (model X.prog X.w) X.A (eval (.Name x pos) X.env) Q E s := by
  obtain ⟨mb, h1, h2⟩ := I.mod.blt
  exact Calls.Name_function_global I.ok.kind hg (Calls.loadGlobal_builtin (by rw [I.ok.glob]; exact I.mod.glob.keeps I.bk) hm (by rw [I.ok.blt]; exact h1.keeps I.bk) ((h2 x hn).trans hv) h) hd
theorem pe_glob {x : Str} {v : V} {u : Value} {pos : Pos} (hg : Gl X x) (hm : X.mg x = some u) (r : RelV v u) (hd : (x == ("__debug__" : Str)) = false := by decide) : PE X (.Name x pos) (tC v) :=
  fun _ _ _ H _ I h => ld_glob I hg hm ⟨v, H, I, r, h⟩ hd
theorem pe_bltn {x : Str} {v : V} {u : Value} {pos : Pos} (hg : Gl X x) (hm : X.mg x = none) (hv : bootBuiltins x = some u) (r : RelV v u) (hn : x ≠ "__name__" := by decide) (hd : (x == ("__debug__" : Str)) = false := by decide) : PE X (.Name x pos) (tC v) :=
  fun _ _ _ H _ I h => ld_blt I hg hm hv ⟨v, H, I, r, h⟩ hn hd
variable {a b : Expr} {ta tb : TE} {pos : Pos}
noncomputable def PC (X : Cx) (op : CmpOp) (a b : Expr) (t : TE) : Prop :=
  ∀ (pins : List (Addr × Obj)) (s : Shared) (σ : St) (H : Hp) (Q : VK), Inv X pins σ H s → t σ H Q →
    wpAny (model X.prog X.w) X.A (eval a X.env) (fun v s₁ => wpAny (model X.prog X.w) X.A (eval b X.env) (fun u s₂ => wpAny (model X.prog X.w) X.A (compareOp op v u) (EP X pins σ Q) X.xe s₂) X.xe s₁) X.xe s
noncomputable def tB (t : TE) : TT := fun σ H Q => t σ H fun x H1 => ∃ c, x = .bl c ∧ Q c H1
theorem pt_cmp {op : CmpOp} {t : TE} (h : PC X op a b t) (h1 : behindInMarks op b = false := by first | exact nobehind _ (by decide) (by decide) | rfl) : PT X (.Compare a [op] [b] pos) (tB t) := by
  intro pins s σ H Q I hw
  refine wpAny_isTrue_Compare1 (thn (h pins s σ H _ I hw) fun v s1 h1 => thn h1 fun u s2 h2 => thn h2 fun c s3 ⟨x, H1, I1, r1, q1⟩ => ?_) h1
  obtain ⟨d, rfl, q⟩ := q1
  cases r1
  exact wpAny_truthy_bool ⟨H1, I1, q⟩
theorem pt_val {e : Expr} {t : TE} (h : PE X e t) (he : ∀ whole, isTrue e X.env whole = (do let v ← whole; standAt e.pos; holding [v] (truthy v)) := by intro _; rfl) : PT X e (tB t) := by
  intro pins s σ H Q I hw
  refine isTrue_plain (thn (h pins s σ H _ I hw) fun v s1 ⟨x, H1, I1, r1, q1⟩ => ?_) (he _)
  obtain ⟨d, rfl, q⟩ := q1
  cases r1
  exact wpAny_truthy_bool ⟨H1, I1, q⟩
variable {tA tB' : TT} {rest : List Expr}
noncomputable def tAnd (t u : TT) : TT := fun σ H Q => t σ H fun c H1 => if c = true then u σ H1 Q else Q false H1
noncomputable def tOr (t u : TT) : TT := fun σ H Q => t σ H fun c H1 => if c = true then Q true H1 else u σ H1 Q
noncomputable def tNot (t : TT) : TT := fun σ H Q => t σ H fun c H1 => Q (!c) H1
theorem pw_and1 (ha : PT X a tA) : PW X (.BoolOp .And [a] pos) tA := by
  intro wh pins s σ H Q I h
  refine isTrue_and (thn (ha pins s σ H Q I h) fun c s1 e => ?_)
  cases c with
  | true => exact isTrue_and_nil e
  | false => exact e
theorem pw_or1 (ha : PT X a tA) : PW X (.BoolOp .Or [a] pos) tA := by
  intro wh pins s σ H Q I h
  refine isTrue_or (thn (ha pins s σ H Q I h) fun c s1 e => ?_)
  cases c with
  | false => exact isTrue_or_nil e
  | true => exact e
theorem pw_and (ha : PT X a tA) (hb : PW X (.BoolOp .And (b :: rest) pos) tB') : PW X (.BoolOp .And (a :: b :: rest) pos) (tAnd tA tB') := by
  intro wh pins s σ H Q I h
  refine isTrue_and (thn (ha pins s σ H _ I h) fun c s1 ⟨H1, I1, q1⟩ => ?_)
  cases c with
  | true => exact hb wh pins s1 σ H1 Q I1 q1
  | false => exact ⟨H1, I1, q1⟩
theorem pw_or (ha : PT X a tA) (hb : PW X (.BoolOp .Or (b :: rest) pos) tB') : PW X (.BoolOp .Or (a :: b :: rest) pos) (tOr tA tB') := by
  intro wh pins s σ H Q I h
  refine isTrue_or (thn (ha pins s σ H _ I h) fun c s1 ⟨H1, I1, q1⟩ => ?_)
  cases c with
  | true => exact ⟨H1, I1, q1⟩
  | false => exact hb wh pins s1 σ H1 Q I1 q1
theorem pt_not (ha : PT X a tA) : PT X (.UnaryOp .Not a pos) (tNot tA) := by
  intro pins s σ H Q I h
  exact isTrue_not (ha pins s σ H (fun c H1 => Q (!c) H1) I h)
noncomputable def tAndV (ta tb : TE) : TE := fun σ H Q => ta σ H fun x H1 => ∃ c, x = .bl c ∧ if c = true then tb σ H1 Q else Q (.bl false) H1
noncomputable def tOrV (ta tb : TE) : TE := fun σ H Q => ta σ H fun x H1 => ∃ c, x = .bl c ∧ if c = true then Q (.bl true) H1 else tb σ H1 Q
noncomputable def tNotV (ta : TE) : TE := fun σ H Q => ta σ H fun x H1 => ∃ c, x = .bl c ∧ Q (.bl (!c)) H1
theorem pe_one {op} {t : TE} (h : PE X a t) : PE X (.BoolOp op [a] pos) t := fun pins s σ H Q I hw => BoolOp_one (h pins s σ H Q I hw)
theorem pe_and (ha : PE X a ta) (hb : PE X (.BoolOp .And (b :: rest) pos) tb) : PE X (.BoolOp .And (a :: b :: rest) pos) (tAndV ta tb) := by
  intro pins s σ H Q I h
  refine BoolOp_and (thn (ha pins s σ H _ I h) fun v s1 ⟨x, H1, I1, r1, q1⟩ => ?_)
  obtain ⟨c, rfl, q1⟩ := q1
  cases r1
  refine wpAny_truthy_bool ?_
  cases c with
  | true => exact hb pins s1 σ H1 Q I1 q1
  | false => exact ⟨.bl false, H1, I1, rfl, q1⟩
theorem pe_or (ha : PE X a ta) (hb : PE X (.BoolOp .Or (b :: rest) pos) tb) : PE X (.BoolOp .Or (a :: b :: rest) pos) (tOrV ta tb) := by
  intro pins s σ H Q I h
  refine BoolOp_or (thn (ha pins s σ H _ I h) fun v s1 ⟨x, H1, I1, r1, q1⟩ => ?_)
  obtain ⟨c, rfl, q1⟩ := q1
  cases r1
  refine wpAny_truthy_bool ?_
  cases c with
  | false => exact hb pins s1 σ H1 Q I1 q1
  | true => exact ⟨.bl true, H1, I1, rfl, q1⟩
theorem pe_not (ha : PE X a ta) : PE X (.UnaryOp .Not a pos) (tNotV ta) := by
  intro pins s σ H Q I h
  refine UnaryOp_ (thn (ha pins s σ H _ I h) fun v s1 ⟨x, H1, I1, r1, q1⟩ => ?_)
  obtain ⟨c, rfl, q1⟩ := q1
  cases r1
  exact not_of (wpAny_truthy_bool ⟨.bl (!c), H1, I1, rfl, q1⟩)
end
end L2
namespace L2
open PySem PySem.Spec PyProof.Rows
noncomputable def SqL (K : PySem.W.Frag) (H : Hp) (a : Addr) (xs : List V) : Prop :=
  Rd H a (.lst xs) ∨
    ∃ (o : Obj) (its : Array Value) (n : Nat), K.lookup a = some o ∧ o.cls = .type "list" ∧ o.dict = none ∧ o.data = .seq its n ∧ its.size ≤ sizeLine ∧ Vals xs its.toList
noncomputable def SqT (K : PySem.W.Frag) (H : Hp) (a : Addr) (xs : List V) : Prop :=
  Rd H a (.tup xs) ∨
    ∃ (o : Obj) (its : Array Value) (n : Nat), K.lookup a = some o ∧ o.cls = .type "tuple" ∧ o.data = .seq its n ∧ its.size ≤ sizeLine ∧ Vals xs its.toList
noncomputable def absV : Value → Option V
  | .none => some .non
  | .bool b => some (.bl b)
  | .int i _ => some (.int i)
  | .str x _ => some (.str x)
  | .bytes b _ => some (.byt b)
  | .float b _ => some (.flt b)
  | .ref a => some (.ref a)
  | .type n => some (.ty n)
  | _ => none
theorem RelV.abs {x : V} {u : Value} (r : RelV x u) : absV u = some x := by
  cases x with
  | non => cases r; rfl
  | bl _ => cases r; rfl
  | int _ => obtain ⟨t, rfl⟩ := r; rfl
  | str _ => obtain ⟨t, rfl⟩ := r; rfl
  | byt _ => obtain ⟨t, rfl⟩ := r; rfl
  | flt _ => obtain ⟨t, rfl⟩ := r; rfl
  | ref _ => cases r; rfl
  | ty _ => cases r; rfl
theorem RelV.inj {x y : V} {u : Value} (r : RelV x u) (q : RelV y u) : x = y := Option.some.inj (r.abs.symm.trans q.abs)
theorem Vals.inj : ∀ {xs ys : List V} {us : List Value}, Vals xs us → Vals ys us → xs = ys
  | _, _, _, .nil, .nil => rfl
  | _, _, _, .cons r t, .cons r' t' => by rw [r.inj r', Vals.inj t t']
section
variable {X : Cx} {pins : List (Addr × Obj)} {σ : St} {H : Hp} {s : Shared} {a : Addr} {xs ys : List V}
theorem SqL.of {K : PySem.W.Frag} (h : H a = some (.lst xs)) : SqL K H a xs := .inl (.inl h)
theorem SqT.of {K : PySem.W.Frag} (h : H a = some (.tup xs)) : SqT K H a xs := .inl (.inl h)
theorem Inv.list (I : Inv X pins σ H s) (h : SqL X.K H a xs) : ∃ its : List Value, Vals xs its ∧ PlainL s.heap a its.toArray ∧ xs.length ≤ sizeLine := by
  rcases h with h | ⟨o, its, n, hk, hc, hd, hs, hz, r⟩
  · obtain ⟨z, its, n, r, e⟩ := h.ok I.hok
    exact ⟨its, r, ⟨_, n, e, rfl, rfl, rfl⟩, z⟩
  · refine ⟨its.toList, r, ⟨o, n, I.kIn a o hk, hc, hd, by simpa using hs⟩, ?_⟩
    have e := r.length
    simp only [Array.length_toList] at e
    (first | lia | omega)
theorem Inv.tuple (I : Inv X pins σ H s) (h : SqT X.K H a xs) : ∃ its : List Value, Vals xs its ∧ IsTup s.heap a its.toArray ∧ xs.length ≤ sizeLine := by
  rcases h with h | ⟨o, its, n, hk, hc, hs, hz, r⟩
  · obtain ⟨z, its, r, p⟩ := h.ok I.hok
    exact ⟨its, r, p, z⟩
  · refine ⟨its.toList, r, ⟨o, I.kIn a o hk, hc, n, by simpa using hs⟩, ?_⟩
    have e := r.length
    simp only [Array.length_toList] at e
    (first | lia | omega)
theorem Inv.list_inj (I : Inv X pins σ H s) (h : SqL X.K H a xs) (h' : SqL X.K H a ys) : xs = ys := by
  obtain ⟨its, r, ⟨o, n, e, _, _, d⟩, _⟩ := I.list h
  obtain ⟨its', r', ⟨o', n', e', _, _, d'⟩, _⟩ := I.list h'
  rw [e] at e'; cases e'
  rw [d] at d'
  injection d' with d1 _
  have : its = its' := by simpa using congrArg Array.toList d1
  subst this
  exact r.inj r'
end
noncomputable abbrev Cx.wish (X : Cx) (E : Value → Shared → Prop) : Cx := { X with xe := E }
noncomputable abbrev Cx.nox (X : Cx) : Cx := X.wish fun _ _ => False
theorem Cx.Ok.wish {X : Cx} (ok : X.Ok) (E : Value → Shared → Prop) : (X.wish E).Ok :=
  ⟨ok.mod, ok.kind, ok.glob, ok.blt, ok.above, ok.inj, ok.has, ok.cab, ok.hd, ok.frames, ok.stk, ok.exf, ok.bs, ok.bsz, ok.noex, ok.exfs, ok.funs, ok.frf⟩
theorem Cx.Ok.unwish {X : Cx} {E : Value → Shared → Prop} (ok : (X.wish E).Ok) : X.Ok :=
  ⟨ok.mod, ok.kind, ok.glob, ok.blt, ok.above, ok.inj, ok.has, ok.cab, ok.hd, ok.frames, ok.stk, ok.exf, ok.bs, ok.bsz, ok.noex, ok.exfs, ok.funs, ok.frf⟩
section
variable {X : Cx} {pins : List (Addr × Obj)} {σ : St} {H : Hp} {s : Shared} {E : Value → Shared → Prop}
theorem Inv.wish (I : Inv X pins σ H s) (E : Value → Shared → Prop) : Inv (X.wish E) pins σ H s := ⟨I.ok.wish E, I.os, I.bare, I.base, I.loc, I.cell, I.free, I.freeC, I.pin, I.hok, I.len⟩
theorem Inv.unwish (I : Inv (X.wish E) pins σ H s) : Inv X pins σ H s := ⟨I.ok.unwish, I.os, I.bare, I.base, I.loc, I.cell, I.free, I.freeC, I.pin, I.hok, I.len⟩
theorem SP.unwish {D : Ends} {f : Flow} {s' : Shared} (h : SP (X.wish E) pins D f s') : SP X pins D f s' := by
  cases f with
  | next => obtain ⟨σ', H', I, q⟩ := h; exact ⟨σ', H', I.unwish, q⟩
  | brk => obtain ⟨σ', H', I, q⟩ := h; exact ⟨σ', H', I.unwish, q⟩
  | cont => obtain ⟨σ', H', I, q⟩ := h; exact ⟨σ', H', I.unwish, q⟩
  | ret u => obtain ⟨v, σ', H', I, r, q⟩ := h; exact ⟨v, σ', H', I.unwish, r, q⟩
theorem PSs.nox {st : List Stmt} {t : TS} (h : PSs X.nox st t) : PSs X st t := fun pins s σ H D I hw =>
  wpAny_mono (h pins s σ H D (I.wish _) hw) (fun _ _ q => q.unwish) fun _ _ z => False.elim z
end
section
variable {X : Cx} {st : Stmt} {rest : List Stmt} {t u : TS} {e : Expr} {te : TE} {pos : Pos}
noncomputable def tNext : TS := fun D σ H => D.nx σ H
noncomputable def tSeq (t u : TS) : TS := fun D σ H => t { D with nx := u D } σ H
theorem pss_nil : PSs X [] tNext := fun _ _ σ H _ I h => wpAny_execs_nil ⟨σ, H, I, h⟩
theorem pss_cons (h1 : PS X st t) (h2 : PSs X rest u) : PSs X (st :: rest) (tSeq t u) := by
  intro pins s σ H D I h
  refine wpAny_execs_cons (thn (h1 pins s σ H { D with nx := u D } I h) fun f s1 q => ?_)
  cases f with
  | next =>
    obtain ⟨σ', H', I', q⟩ := q
    exact h2 pins s1 σ' H' D I' q
  | ret v => exact q
  | brk => exact q
  | cont => exact q
theorem pss_one (h1 : PS X st t) : PSs X [st] t := by
  intro pins s σ H D I h
  refine wpAny_execs_cons (thn (h1 pins s σ H D I h) fun f s1 q => ?_)
  cases f with
  | next => exact wpAny_execs_nil q
  | ret v => exact q
  | brk => exact q
  | cont => exact q
theorem Inv.quiet {pins : List (Addr × Obj)} {σ : St} {H : Hp} {s : Shared} (I : Inv X pins σ H s) : interactive X.env = false := by simp [interactive, I.ok.kind]
noncomputable def tDrop (te : TE) : TS := fun D σ H => te σ H fun _ H1 => D.nx σ H1
theorem ps_expr (he : PE X e te) (hs : swapsWith e none pos.line X.env = pure false := by rfl) : PS X (.Expr e pos) (tDrop te) := by
  intro pins s σ H D I h
  exact wpAny_Expr_any (thn (he pins s σ H _ I h) fun v s1 ⟨x, H1, I1, r1, q1⟩ => ⟨σ, H1, I1, q1⟩) I.quiet hs
noncomputable def tRet (te : TE) : TS := fun D σ H => te σ H D.rt
theorem ps_ret (he : PE X e te) : PS X (.Return (some e) pos) (tRet te) := by
  intro pins s σ H D I h
  exact wpAny_Return_some (thn (he pins s σ H _ I h) fun v s1 ⟨x, H1, I1, r1, q1⟩ => ⟨x, σ, H1, I1, r1, q1⟩)
noncomputable def tIfS (c : TT) (t u : TS) : TS := fun D σ H => c σ H fun b H1 => if b = true then t D σ H1 else u D σ H1
theorem ps_if {c : Expr} {a b : List Stmt} {tc : TT} (hc : PT X c tc) (ha : PSs X a t) (hb : PSs X b u) : PS X (.If c a b pos) (tIfS tc t u) := by
  intro pins s σ H D I h
  refine wpAny_If (thn (hc pins s σ H _ I h) fun d s1 ⟨H1, I1, q1⟩ => ?_)
  cases d with
  | true => exact ha pins s1 σ H1 D I1 q1
  | false => exact hb pins s1 σ H1 D I1 q1
noncomputable def tNever : TS := fun _ _ _ => False
theorem ps_never : PS X st tNever := fun _ _ _ _ _ _ h => h.elim
end
noncomputable abbrev TG := V → St → Hp → (St → Hp → Prop) → Prop
noncomputable abbrev TGs := List V → St → Hp → (St → Hp → Prop) → Prop
noncomputable def PG (X : Cx) (target : Expr) (t : TG) : Prop :=
  ∀ (pins : List (Addr × Obj)) (s : Shared) (σ : St) (H : Hp) (v : V) (u : Value) (Q : St → Hp → Prop), Inv X pins σ H s → RelV v u → t v σ H Q →
    wpAny (model X.prog X.w) X.A (assign target X.env u) (fun _ s' => ∃ σ' H', Inv X pins σ' H' s' ∧ Q σ' H') X.xe s
noncomputable def PGs (X : Cx) (ts : List Expr) (t : TGs) : Prop :=
  ∀ (pins : List (Addr × Obj)) (s : Shared) (σ : St) (H : Hp) (vs : List V) (us : List Value) (Q : St → Hp → Prop), Inv X pins σ H s → Vals vs us → t vs σ H Q →
    wpAny (model X.prog X.w) X.A (assignInOrder ((assignEach ts X.env).map (·.2)) us) (fun _ s' => ∃ σ' H', Inv X pins σ' H' s' ∧ Q σ' H') X.xe s
noncomputable abbrev TSet := V → V → V → Hp → (Hp → Prop) → Prop
noncomputable def PSet (X : Cx) (t : TSet) : Prop :=
  ∀ (pins : List (Addr × Obj)) (s : Shared) (σ : St) (H : Hp) (o i v : V) (ov iv u : Value) (Q : Hp → Prop), Inv X pins σ H s → RelV o ov → RelV i iv → RelV v u → t o i v H Q →
    wpAny (model X.prog X.w) X.A (setItem ov iv u) (fun _ s' => ∃ H', Inv X pins σ H' s' ∧ Q H') X.xe s
section
variable {X : Cx} {pos : Pos}
noncomputable def gName (i : Nat) : TG := fun v σ H Q => Q (σ.set i (some v)) H
theorem pg_name {i : Nat} {x : Str} (hN : X.N.Nodup) (hi : X.N[i]? = some x) (hx : Loc X.env.scope x) (hf : X.fn x = true ∨ X.env.scope.names.lookup x = some .local := by first | exact .inl rfl | exact .inr rfl | assumption) : PG X (.Name x pos) (gName i) := by
  intro pins s σ H v u Q I r h
  exact wpAny_assign_Name (store_ok I hN hi hx r (fun s' I' => ⟨_, H, I', h⟩) hf)
noncomputable def gNil : TGs := fun vs σ H Q => vs = [] ∧ Q σ H
noncomputable def gCons (t : TG) (u : TGs) : TGs := fun vs σ H Q => ∃ v r, vs = v :: r ∧ t v σ H fun σ' H' => u r σ' H' Q
theorem pgs_nil : PGs X [] gNil := by
  intro pins s σ H vs us Q I r h
  obtain ⟨e, h⟩ := h
  subst e
  cases r
  exact assignInOrder_nil ⟨σ, H, I, h⟩
theorem pgs_cons {e : Expr} {es : List Expr} {t : TG} {u : TGs} (h1 : PG X e t) (h2 : PGs X es u)
    (hs : (assignEach (e :: es) X.env).map (·.2) = assign e X.env :: (assignEach es X.env).map (·.2) := by rfl) : PGs X (e :: es) (gCons t u) := by
  intro pins s σ H vs us Q I r h
  obtain ⟨v, vr, e1, h⟩ := h
  subst e1
  cases r with
  | cons r rr =>
    rw [hs]
    refine assignInOrder_cons (thn (h1 pins s σ H _ _ _ I r h) fun _ s1 ⟨σ1, H1, I1, q1⟩ => ?_)
    exact h2 pins s1 σ1 H1 _ _ Q I1 rr q1
noncomputable def gTup (K : PySem.W.Frag) (n : Nat) (t : TGs) : TG := fun v σ H Q => ∃ a xs, v = .ref a ∧ SqT K H a xs ∧ xs.length = n ∧ t xs σ H Q
theorem pg_tup {es : List Expr} {k : Nat} {t : TGs} {n : Nat} (hc : X.calm = true) (h : PGs X es t)
    (hn : (assignEach es X.env).length = n := by rfl) (hst : (assignEach es X.env).findIdx? (·.1) = none := by rfl) : PG X (.Tuple es k pos) (gTup X.K n t) := by
  intro pins s σ H v u Q I r hw
  obtain ⟨a, xs, e1, hq, hl, hw⟩ := hw
  subst e1
  cases r
  obtain ⟨its, rv, ht, hz⟩ := I.tuple hq
  refine assign_Tuple_tuple (I.ok.hd hc) ht (by simp [hn, ← hl, rv.length]) hst fun h' hx => ?_
  have I1 : Inv X pins σ H { s with heap := h' } := I.kept (t' := s.toks) fun b o e => hx b o (Nat.ne_of_lt (Heap.lt_size e)) e
  exact h pins _ σ H xs _ Q I1 (by simpa using rv) hw
noncomputable def gSub (to ti : TE) (t : TSet) : TG := fun v σ H Q => to σ H fun o H1 => ti σ H1 fun i H2 => t o i v H2 fun H3 => Q σ H3
theorem pg_sub {o i : Expr} {to ti : TE} {t : TSet} (ho : PE X o to) (hi : PE X i ti) (hs : PSet X t)
    (ha : ∀ v, assign (.Subscript o i pos) X.env v = (do
      let ov ← holding [v] (eval o X.env)
      let iv ← holding [v, ov] (eval i X.env)
      standAt pos
      holding [v, ov, iv] (setItem ov iv v)
      release [v, ov, iv] []) := by intro _; rfl) : PG X (.Subscript o i pos) (gSub to ti t) := by
  intro pins s σ H v u Q I r h
  rw [ha]
  refine wpAny_bind (wpAny_holding (thn (ho pins s σ H _ I h) fun ov s1 ⟨x, H1, I1, r1, q1⟩ => ?_))
  refine wpAny_bind (wpAny_holding (thn (hi pins s1 σ H1 _ I1 q1) fun iv s2 ⟨y, H2, I2, r2, q2⟩ => ?_))
  refine wpAny_bind (wpAny_standAt (wpAny_bind (wpAny_holding (thn (hs pins s2 σ H2 x y v ov iv u _ I2 r1 r2 r q2) fun _ s3 ⟨H3, I3, q3⟩ => ?_))))
  exact wpAny_release ⟨σ, H3, I3, q3⟩
noncomputable def tAsg (te : TE) (g : TG) : TS := fun D σ H => te σ H fun x H1 => g x σ H1 D.nx
theorem ps_asg {tg e : Expr} {te : TE} {g : TG} (he : PE X e te) (hg : PG X tg g) (hs : swapsWithSole [tg] e pos.line X.env = pure false := by rfl) (hw : swappedStores [tg] e X.env = pure none := by rfl)
    (h1 : (assignEach [tg] X.env).map (·.2) = [assign tg X.env] := by rfl) : PS X (.Assign [tg] e pos) (tAsg te g) := by
  intro pins s σ H D I h
  refine wpAny_Assign_stores (thn (he pins s σ H _ I h) fun v s1 ⟨x, H1, I1, r1, q1⟩ => ?_) hs hw
  rw [h1]
  exact thn (hg pins s1 σ H1 x v _ I1 r1 q1) fun _ s2 q => q
theorem ps_set {i : Nat} {x : Str} {e : Expr} {te : TE} {pos' : Pos} (hN : X.N.Nodup) (hi : X.N[i]? = some x) (hx : Loc X.env.scope x) (he : PE X e te) (hs : swapsWith e (some (.Name x pos')) pos.line X.env = pure false := by rfl) (hf : X.fn x = true ∨ X.env.scope.names.lookup x = some .local := by first | exact .inl rfl | exact .inr rfl | assumption) :
    PS X (.Assign [.Name x pos'] e pos) (tAsg te (gName i)) := by
  intro pins s σ H D I h
  refine wpAny_Assign_Name (thn (he pins s σ H _ I h) fun v s1 ⟨y, H1, I1, r1, q1⟩ => ?_) hs
  exact store_ok I1 hN hi hx r1 (fun s2 I2 => ⟨_, H1, I2, q1⟩) hf
end
section
variable {X : Cx} {pos : Pos}
noncomputable def tWhile (c : TT) (tb : TS) : TS := fun D σ H => ∃ W : Nat → St → Hp → Prop, (∃ m, W m σ H) ∧ ∀ m σ H, W m σ H →
  c σ H fun b H1 => if b = true then ∃ N : St → Hp → Prop, (∀ σ' H', N σ' H' → ∃ m', m' < m ∧ W m' σ' H') ∧ tb { D with nx := N, ct := N, bk := D.nx } σ H1 else D.nx σ H1
theorem ps_while {c : Expr} {body : List Stmt} {tc : TT} {tb : TS} (hp : PassesOwn (model X.prog X.w) X.A X.env X.xe) (hc : PT X c tc) (hb : PSs X body tb) : PS X (.While c body [] pos) (tWhile tc tb) := by
  intro pins s σ H D I h
  obtain ⟨W, ⟨m0, w0⟩, turn⟩ := h
  refine wpAny_While (codeAny_whileLoop (fun n s' => ∃ σ' H', Inv X pins σ' H' s' ∧ W n σ' H') ?_ m0 ⟨σ, H, I, w0⟩)
  rintro n s1 ⟨σ1, H1, I1, w1⟩
  refine wpAny_passesOwn hp (thn (hc pins s1 σ1 H1 _ I1 (turn n σ1 H1 w1)) fun b s2 ⟨H2, I2, q2⟩ => ?_)
  cases b with
  | true =>
    obtain ⟨N, hN, q2⟩ := q2
    rw [if_pos rfl]
    refine wpAny_passesOwn hp (thn (hb pins s2 σ1 H2 _ I2 q2) fun f s3 q3 => ?_)
    cases f with
    | next =>
      obtain ⟨σ3, H3, I3, n3⟩ := q3
      obtain ⟨m', hm, w3⟩ := hN σ3 H3 n3
      exact ⟨m', hm, σ3, H3, I3, w3⟩
    | cont =>
      obtain ⟨σ3, H3, I3, n3⟩ := q3
      obtain ⟨m', hm, w3⟩ := hN σ3 H3 n3
      exact ⟨m', hm, σ3, H3, I3, w3⟩
    | brk => exact q3
    | ret v => exact q3
  | false =>
    rw [if_neg Bool.false_ne_true]
    exact wpAny_execs_nil ⟨σ1, H2, I2, q2⟩
end
structure It where
  go : Nat → Hp → Prop
  yld : Nat → Hp → V → Hp → Prop
  stop : Nat → Hp → Prop
noncomputable def FpOk (X : Cx) (pins : List (Addr × Obj)) (H : Hp) (b : Addr) : Prop :=
  H b = none ∧ b ≠ X.env.locals ∧ b ∉ X.fs ∧ (b ∈ X.ex ∨ X.s₀.heap.objs.size ≤ b) ∧ (∀ x c, X.env.cells.lookup x = some c → c ≠ b) ∧ ∀ p ∈ X.pn ++ pins, p.1 ≠ b
theorem Inv.fpOk {X : Cx} {pins : List (Addr × Obj)} {σ : St} {H H' : Hp} {s : Shared} {b : Addr} (I : Inv X pins σ H s) (hb : s.heap.objs.size ≤ b) (hn : H' b = none) : FpOk X pins H' b := by
  refine ⟨hn, Nat.ne_of_gt (Nat.lt_of_lt_of_le I.lt hb), I.nofs hb, .inr (Nat.le_trans I.sz hb), fun x c e z => ?_, fun p hp z => ?_⟩
  · obtain ⟨v, q⟩ := I.cell x c e
    exact absurd (Nat.lt_of_lt_of_le q.lt (by rw [z]; exact hb)) (Nat.lt_irrefl _)
  · exact absurd (Nat.lt_of_lt_of_le (Heap.lt_size (I.pin p hp).1) (by rw [z]; exact hb)) (Nat.lt_irrefl _)
structure Turn (P : Program) (w : World) (K : PySem.W.Frag) (tg : Expr) (J : It) (fp : List Addr) (it : Addr) (tn : Nat → Heap → Prop) : Prop where
  mem : it ∈ fp
  obj : ∀ i h, tn i h → ∀ b ∈ fp, ∃ o, h.get? b = some o ∧ ∀ v, o.data ≠ .cell v
  keep : ∀ i h h', tn i h → (∀ b ∈ fp, ∀ o, h.get? b = some o → h'.get? b = some o) → tn i h'
  item : ∀ (X : Cx), X.prog = P → X.w = w → X.K = K → X.calm = true → ∀ (i : Nat) (pins : List (Addr × Obj)) (s : Shared) (σ : St) (H : Hp) (E : Value → Shared → Prop), Inv X pins σ H s → (∀ b ∈ fp, FpOk X pins H b) → tn i s.heap → J.go i H →
    wpAny (model P w) X.A (pyNext (.ref it)) (fun r s1 => ∃ u, r = some u ∧
      wpAny (model P w) X.A (letOwnedTupleGo tg (.ref it) u) (fun _ s2 => ∃ x H', Inv X pins σ H' s2 ∧ RelV x u ∧ J.yld i H x H' ∧ tn (i + 1) s2.heap ∧ ∀ b ∈ fp, H' b = none) E s1) E s
  done : ∀ (X : Cx), X.prog = P → X.w = w → X.K = K → X.calm = true → ∀ (i : Nat) (pins : List (Addr × Obj)) (s : Shared) (σ : St) (H : Hp) (E : Value → Shared → Prop), Inv X pins σ H s → (∀ b ∈ fp, FpOk X pins H b) → tn i s.heap → J.stop i H →
    wpAny (model P w) X.A (pyNext (.ref it)) (fun r s1 => r = none ∧ Inv X pins σ H s1) E s
  self : ∀ (A : Around) (i : Nat) (s : Shared) (Q : Value → Shared → Prop) (E : Value → Shared → Prop), tn i s.heap → Q (.ref it) s → wpAny (model P w) A (pyIter (.ref it)) Q E s
noncomputable abbrev TI := St → Hp → (It → Hp → Prop) → Prop
noncomputable def PIE (X : Cx) (pins : List (Addr × Obj)) (σ : St) (tg : Expr) (R : It → Hp → Prop) (itv : Value) (s2 : Shared) : Prop :=
  ∃ (it : Addr) (fp : List Addr) (tn : Nat → Heap → Prop) (J : It) (H' : Hp), itv = .ref it ∧ Inv X pins σ H' s2 ∧ Turn X.prog X.w X.K tg J fp it tn ∧ tn 0 s2.heap ∧ (∀ b ∈ fp, FpOk X pins H' b) ∧ R J H'
noncomputable def PI (X : Cx) (tg iter : Expr) (wi : TI) : Prop :=
  ∀ (pins : List (Addr × Obj)) (s : Shared) (σ : St) (H : Hp) (R : It → Hp → Prop), Inv X pins σ H s → wi σ H R →
    wpAny (model X.prog X.w) X.A (eval iter X.env) (fun v s1 => wpAny (model X.prog X.w) X.A (pyIter v) (PIE X pins σ tg R) X.xe s1) X.xe s
theorem go_of {M : Model} {A : Around} {E : Value → Shared → Prop} {s : Shared} {tg : Expr} {it : Addr} {u : Value} {o : Obj} {n : String} {vs : Array Value} {Q : Unit → Shared → Prop} (ho : s.heap.get? it = some o) (hc : o.cls = .type n) (hd : o.data = .fields vs)
    (hn : ["enumerate", "zip", "dict_itemiterator", "dict_reverseitemiterator", "odict_iterator", "itertools.zip_longest", "itertools.pairwise"].contains n = false) (hQ : Q () s) : wpAny M A (letOwnedTupleGo tg (.ref it) u) Q E s := by
  unfold letOwnedTupleGo
  cases tg <;> first
    | exact wpAny_pure hQ
    | (cases u <;> first
        | exact wpAny_pure hQ
        | (refine wpAny_bind (wpAny_load ho ?_)
           rw [hc, hd]
           show wpAny M A (if (["enumerate", "zip", "dict_itemiterator", "dict_reverseitemiterator", "odict_iterator", "itertools.zip_longest", "itertools.pairwise"].contains n && vs[0]? == some (rawInt _)) = true then _ else _) Q E s
           rw [if_neg (by intro h; rw [hn, Bool.false_and] at h; cases h)]
           exact wpAny_pure hQ))
noncomputable def Itl (K : PySem.W.Frag) (a : Addr) : It :=
  ⟨fun i H => ∃ xs x, SqL K H a xs ∧ xs[i]? = some x, fun i H x H' => H' = H ∧ ∀ xs, SqL K H a xs → xs[i]? = some x, fun i H => ∃ xs, SqL K H a xs ∧ xs.length ≤ i⟩
noncomputable def Itr (lo : Int) (n : Nat) : It := ⟨fun i _ => i < n, fun i H x H' => H' = H ∧ x = .int (lo + i), fun i _ => n ≤ i⟩
theorem turn_list {P : Program} {w : World} {K : PySem.W.Frag} {tg : Expr} (a it : Addr) : Turn P w K tg (Itl K a) [it] it (fun i h => h.IsListIter it a i) where
  mem := by simp
  obj := fun i h st b hb => by
    have e : b = it := by simpa using hb
    subst e
    obtain ⟨o, e, c, d⟩ := st
    exact ⟨o, e, fun v z => by rw [d] at z; cases z⟩
  keep := fun i h h' st k => st.at fun o e => k it (by simp) o e
  item := by
    intro X hP hw hK hc i pins s σ H E I hf st hg
    subst hP hw hK
    obtain ⟨xs, x, hq, hx⟩ := hg
    obtain ⟨its, rv, p, hz⟩ := I.list hq
    obtain ⟨u, hu, ru⟩ := rv.get hx
    obtain ⟨f0, f1, f2, f3, f4, f5⟩ := hf it (by simp)
    refine wpAny_pyNext_list_item st p.isList (x := u) (by simpa using hu) fun h' st' sb => ?_
    have I1 : Inv X pins σ H { s with heap := h' } := I.turned (t' := s.toks) (fun b o hb e => (sb.2 b hb).trans e) f0 f1 f3 f4 f5
    obtain ⟨o, e, c, d⟩ := id st'
    exact ⟨u, rfl, go_of (s := { s with heap := h' }) e c d (by decide) ⟨x, H, I1, ru, ⟨rfl, fun ys hy => by rw [I.list_inj hy hq]; exact hx⟩, st', fun b hb => (hf b hb).1⟩⟩
  done := by
    intro X hP hw hK hc i pins s σ H E I hf st hg
    subst hP hw hK
    obtain ⟨xs, hq, hx⟩ := hg
    obtain ⟨its, rv, p, hz⟩ := I.list hq
    obtain ⟨f0, f1, f2, f3, f4, f5⟩ := hf it (by simp)
    have hl := rv.length
    exact wpAny_pyNext_list_end (I.ok.hd hc) st p.isList (by simp; (first | lia | omega)) fun h' eb => ⟨rfl, I.turned (t' := s.toks) (fun b o hb e => eb b o hb e) f0 f1 f3 f4 f5⟩
  self := fun _ _ _ _ _ st h => wpAny_pyIter_listiter st h
theorem turn_range {P : Program} {w : World} {K : PySem.W.Frag} {tg : Expr} (it : Addr) (lo : Int) (n : Nat) : Turn P w K tg (Itr lo n) [it] it (fun i h => IsRangeIter h it (lo + (i : Nat) * 1) ((n : Int) - (i : Nat)) 1) where
  mem := by simp
  obj := fun i h st b hb => by
    have e : b = it := by simpa using hb
    subst e
    exact ⟨_, st, fun v z => by
      have z' : Data.fields _ = Data.cell v := z
      cases z'⟩
  keep := fun i h h' st k => k it (by simp) _ st
  item := by
    intro X hP hw hK hc i pins s σ H E I hf st hg
    subst hP hw hK
    obtain ⟨f0, f1, f2, f3, f4, f5⟩ := hf it (by simp)
    have W := Walks.range (prog := X.prog) (w := X.w) (I.ok.hd hc) it lo 1 n
    refine W.item i s _ _ hg st fun v h' tk hv st' kk => ?_
    obtain ⟨t, rfl⟩ := hv
    have I1 : Inv X pins σ H { s with heap := h', toks := tk } := I.turned (fun b o hb e => kk b o (by simpa using hb) e) f0 f1 f3 f4 f5
    refine ⟨_, rfl, go_of (s := { s with heap := h', toks := tk }) (n := "range_iterator") st' rfl rfl (by decide) ⟨.int (lo + i), H, I1, ⟨t, ?_⟩, ⟨rfl, rfl⟩, st', fun b hb => (hf b hb).1⟩⟩
    rw [Int.mul_one]
  done := by
    intro X hP hw hK hc i pins s σ H E I hf st hg
    subst hP hw hK
    obtain ⟨f0, f1, f2, f3, f4, f5⟩ := hf it (by simp)
    exact wpAny_pyNext_range_end (I.ok.hd hc) st (by have : n ≤ i := hg; (first | lia | omega)) fun h' eb => ⟨rfl, I.turned (t' := s.toks) (fun b o hb e => eb b o hb e) f0 f1 f3 f4 f5⟩
  self := fun _ _ _ _ _ st h => wpAny_pyIter_rangeiter st h
end L2
namespace L2
open PySem PySem.Spec PyProof.Rows
section
variable {X : Cx} {tg : Expr}
noncomputable def iList (K : PySem.W.Frag) (tl : TE) : TI := fun σ H R => tl σ H fun x H1 => ∃ a, x = .ref a ∧ (∃ xs, SqL K H1 a xs) ∧ R (Itl K a) H1
theorem pi_list {l : Expr} {tl : TE} (hl : PE X l tl) : PI X tg l (iList X.K tl) := by
  intro pins s σ H R I h
  refine thn (hl pins s σ H _ I h) fun v s1 ⟨x, H1, I1, r1, q1⟩ => ?_
  obtain ⟨a, e, ⟨xs, hq⟩, q⟩ := q1
  subst e
  cases r1
  obtain ⟨its, rv, p, hz⟩ := I1.list hq
  refine wpAny_pyIter_list p.isList ?_
  refine ⟨s1.heap.objs.size, [s1.heap.objs.size], _, _, H1, rfl, I1.kept (t' := s1.toks) fun b o e => Heap.get?_push_of_some _ e, turn_list a _, ⟨_, Heap.get?_push_size _ rfl, rfl, rfl⟩, fun b hb => ?_, q⟩
  have e : b = s1.heap.objs.size := by simpa using hb
  subst e
  exact I1.fpOk (Nat.le_refl _) (I1.hok.fresh (Nat.le_refl _))
theorem range_it {pins : List (Addr × Obj)} {σ : St} {H : Hp} {s : Shared} {R : It → Hp → Prop} {E : Value → Shared → Prop} {lo hi : Int} {t u v : Tok} {tk : Nat} (I : Inv X pins σ H s) (h1 : -(2 ^ 62) ≤ lo) (h2 : lo < 2 ^ 62) (h3 : -(2 ^ 62) ≤ hi) (h4 : hi < 2 ^ 62)
    (q : R (Itr lo (hi - lo).toNat) H) : wpAny (model X.prog X.w) X.A (pyIter (.ref s.heap.objs.size)) (PIE X pins σ tg R) E { s with heap := s.heap.push { cls := .type "range", data := .fields #[.int lo t, .int hi u, .int 1 v] }, toks := tk } := by
  refine wpAny_pyIter_range (IsRange.new ..) (small_one h1 h2 h3 h4) ?_
  have I1 : Inv X pins σ H { s with heap := s.heap.push { cls := .type "range", data := .fields #[.int lo t, .int hi u, .int 1 v] }, toks := tk } := I.kept fun b o e => Heap.get?_push_of_some _ e
  refine ⟨(s.heap.push { cls := .type "range", data := .fields #[.int lo t, .int hi u, .int 1 v] }).objs.size, [(s.heap.push { cls := .type "range", data := .fields #[.int lo t, .int hi u, .int 1 v] }).objs.size], _, _, H, rfl,
    I1.kept (t' := tk) fun b o e => Heap.get?_push_of_some _ e, turn_range _ lo (hi - lo).toNat, ?_, fun b hb => ?_, q⟩
  · have e1 : lo + ((0 : Nat) : Int) * 1 = lo := by simp
    have e2 : (((hi - lo).toNat : Nat) : Int) - ((0 : Nat) : Int) = Builtin.Range.rangeSize lo hi 1 := by rw [rangeSize_one]; split <;> (first | lia | omega)
    show IsRangeIter _ _ (lo + ((0 : Nat) : Int) * 1) ((((hi - lo).toNat : Nat) : Int) - ((0 : Nat) : Int)) 1
    rw [e1, e2]
    exact Heap.get?_push_size _ rfl
  · have e : b = (s.heap.push { cls := .type "range", data := .fields #[.int lo t, .int hi u, .int 1 v] }).objs.size := by simpa using hb
    subst e
    exact I1.fpOk (Nat.le_refl _) (I1.hok.fresh (Nat.le_refl _))
noncomputable def iRng1 (ta : TA) : TI := fun σ H R => ta σ H fun vs H1 => ∃ j : Int, vs = [.int j] ∧ -(2 ^ 62) ≤ j ∧ j < 2 ^ 62 ∧ R (Itr 0 j.toNat) H1
noncomputable def iRng2 (ta : TA) : TI := fun σ H R => ta σ H fun vs H1 => ∃ i j : Int, vs = [.int i, .int j] ∧ (-(2 ^ 62) ≤ i ∧ i < 2 ^ 62 ∧ -(2 ^ 62) ≤ j ∧ j < 2 ^ 62) ∧ R (Itr i (j - i).toNat) H1
theorem pi_range1 {a : Expr} {ta : TA} {p pos : Pos} (hg : Gl X "range") (hm : X.mg "range" = none) (ha : PA X [a] ta) (hs : starEach [a] X.env = [(false, eval a X.env)] := by rfl) : PI X tg (.Call (.Name "range" p) [a] [] pos) (iRng1 ta) := by
  intro pins s σ H R I h
  refine Call_ (ld_blt I hg hm boot_range (PyProof.Rows.callWith_type1 (thn (ha pos pins s σ H _ I h) fun us s1 ⟨vs, H1, I1, r1, q1⟩ => ?_) hs rfl))
  obtain ⟨j, e, q1, q2, q⟩ := q1
  subst e
  cases r1 with
  | cons r rr =>
    cases rr
    obtain ⟨t, rfl⟩ := r
    exact call_range_1 (range_it I1 (by (first | lia | omega)) (by (first | lia | omega)) q1 q2 (by simpa using q))
theorem pi_range2 {a b : Expr} {ta : TA} {p pos : Pos} (hg : Gl X "range") (hm : X.mg "range" = none) (ha : PA X [a, b] ta) (hs : starEach [a, b] X.env = [(false, eval a X.env), (false, eval b X.env)] := by rfl) (hs2 : starEach [b] X.env = [(false, eval b X.env)] := by rfl) :
    PI X tg (.Call (.Name "range" p) [a, b] [] pos) (iRng2 ta) := by
  intro pins s σ H R I h
  refine Call_ (ld_blt I hg hm boot_range (PyProof.Rows.callWith_type1 (thn (ha pos pins s σ H _ I h) fun us s1 ⟨vs, H1, I1, r1, q1⟩ => ?_) (by rw [hs, hs2]) (by rw [hs2]; rfl)))
  obtain ⟨i, j, e, ⟨q1, q2, q3, q4⟩, q⟩ := q1
  subst e
  cases r1 with
  | cons r rr =>
    cases rr with
    | cons r' rr =>
      cases rr
      obtain ⟨t, rfl⟩ := r
      obtain ⟨t', rfl⟩ := r'
      exact call_range_2 (range_it I1 q1 q2 q3 q4 q)
noncomputable def tFor (wi : TI) (g : TG) (tb : TS) : TS := fun D σ H => wi σ H fun J H1 => ∃ W : Nat → Nat → St → Hp → Prop, (∃ m, W 0 m σ H1) ∧ ∀ i m σ H, W i m σ H →
  (J.stop i H ∧ D.nx σ H) ∨ (J.go i H ∧ ∃ N : St → Hp → Prop, (∀ σ' H', N σ' H' → ∃ m', m' < m ∧ W (i + 1) m' σ' H') ∧ ∀ x H', J.yld i H x H' → g x σ H' fun σ2 H2 => tb { D with nx := N, ct := N, bk := D.nx } σ2 H2)
noncomputable def pinsAt (fp : List Addr) (h : Heap) : List (Addr × Obj) := fp.filterMap fun b => (h.get? b).map fun o => (b, o)
theorem mem_pinsAt {fp : List Addr} {h : Heap} {b : Addr} {o : Obj} (hb : b ∈ fp) (e : h.get? b = some o) : (b, o) ∈ pinsAt fp h := List.mem_filterMap.mpr ⟨b, hb, by rw [e]; rfl⟩
theorem of_pinsAt {fp : List Addr} {h : Heap} {p : Addr × Obj} (hp : p ∈ pinsAt fp h) : p.1 ∈ fp ∧ h.get? p.1 = some p.2 := by
  obtain ⟨b, hb, e⟩ := List.mem_filterMap.mp hp
  cases q : h.get? b with
  | none => rw [q] at e; cases e
  | some o =>
    rw [q] at e
    have e' : (b, o) = p := Option.some.inj e
    subst e'
    exact ⟨hb, q⟩
theorem Inv.pinned {pins : List (Addr × Obj)} {σ : St} {H : Hp} {s : Shared} {fp : List Addr} (I : Inv X pins σ H s) (hf : ∀ b ∈ fp, FpOk X pins H b) (ho : ∀ b ∈ fp, ∃ o, s.heap.get? b = some o ∧ ∀ v, o.data ≠ .cell v) : Inv X (pins ++ pinsAt fp s.heap) σ H s :=
  I.pins_of fun p hp => (List.mem_append.mp hp).elim (fun z => I.pin p (List.mem_append_right _ z)) fun z => by
    obtain ⟨hb, e⟩ := of_pinsAt z
    obtain ⟨f0, f1, f2, _⟩ := hf p.1 hb
    obtain ⟨o, e', d⟩ := ho p.1 hb
    rw [e] at e'; cases e'
    exact ⟨e, f0, f1, f2, d⟩
theorem Inv.unpinned {pins pl : List (Addr × Obj)} {σ : St} {H : Hp} {s : Shared} (I : Inv X (pins ++ pl) σ H s) : Inv X pins σ H s := I.pins_of fun p hp => I.pin p (List.mem_append_right _ (List.mem_append_left _ hp))
theorem ps_for {iter : Expr} {body : List Stmt} {wi : TI} {g : TG} {tb : TS} {pos : Pos} (hp : PassesOwn (model X.prog X.w) X.A X.env X.xe) (hc : X.calm = true) (hi : PI X tg iter wi) (hg : PG X tg g) (hb : PSs X body tb)
    (hs : ∀ x, foldedSetIterable iter X.env x = pure x := by intro _; rfl) : PS X (.For tg iter body [] pos) (tFor wi g tb) := by
  intro pins s σ H D I h
  refine wpAny_For (thn (hi pins s σ H _ I h) fun v s1 h1 => thn h1 fun itv s2 h2 => ?_) hs
  obtain ⟨it, fp, tn, J, H2, e, I2, T, st2, f2, W, ⟨m0, w0⟩, turn⟩ := h2
  subst e
  have stat : ∀ {H' : Hp}, (∀ b ∈ fp, H' b = none) → ∀ b ∈ fp, FpOk X pins H' b := fun hn b hb => ⟨hn b hb, (f2 b hb).2⟩
  refine codeAny_forLoop_any (fun n s' => ∃ i σ' H', Inv X pins σ' H' s' ∧ tn i s'.heap ∧ (∀ b ∈ fp, H' b = none) ∧ W i n σ' H') ?_ m0 ⟨0, σ, H2, I2, st2, fun b hb => (f2 b hb).1, w0⟩
  rintro n s3 ⟨i, σ3, H3, I3, st3, fr3, w3⟩
  rcases turn i n σ3 H3 w3 with ⟨stop, qn⟩ | ⟨go, N, hN, step⟩
  · refine wpAny_passesOwn hp (thn (T.done X rfl rfl rfl hc i pins s3 σ3 H3 X.xe I3 (stat fr3) st3 stop) fun r s4 ⟨hr, I4⟩ => ?_)
    subst hr
    exact wpAny_execs_nil ⟨σ3, H3, I4, qn⟩
  · refine wpAny_passesOwn hp (thn (T.item X rfl rfl rfl hc i pins s3 σ3 H3 X.xe I3 (stat fr3) st3 go) fun r s4 ⟨u, hr, h4⟩ => ?_)
    subst hr
    refine wpAny_passesOwn hp (thn h4 fun _ s5 ⟨x, H5, I5, r5, y5, st5, fr5⟩ => ?_)
    have I5' := I5.pinned (stat fr5) (T.obj _ _ st5)
    refine wpAny_passesOwn hp (thn (hg _ s5 σ3 H5 x u _ I5' r5 (step x H5 y5)) fun _ s6 ⟨σ6, H6, I6, q6⟩ => ?_)
    refine wpAny_passesOwn hp (thn (hb _ s6 σ6 H6 _ I6 q6) fun f s7 q7 => ?_)
    have again : ∀ {σ7 : St} {H7 : Hp}, Inv X (pins ++ pinsAt fp s5.heap) σ7 H7 s7 → N σ7 H7 → ∃ m, m < n ∧ ∃ i σ' H', Inv X pins σ' H' s7 ∧ tn i s7.heap ∧ (∀ b ∈ fp, H' b = none) ∧ W i m σ' H' := fun {σ7 H7} I7 n7 => by
      obtain ⟨m', hm, w7⟩ := hN σ7 H7 n7
      refine ⟨m', hm, i + 1, σ7, H7, I7.unpinned, T.keep _ _ _ st5 fun b hb o e => (I7.pin (b, o) (List.mem_append_right _ (List.mem_append_right _ (mem_pinsAt hb e)))).1, fun b hb => ?_, w7⟩
      obtain ⟨o, e, d⟩ := T.obj _ _ st5 b hb
      exact (I7.pin (b, o) (List.mem_append_right _ (List.mem_append_right _ (mem_pinsAt hb e)))).2.1
    cases f with
    | next => obtain ⟨σ7, H7, I7, n7⟩ := q7; exact again I7 n7
    | cont => obtain ⟨σ7, H7, I7, n7⟩ := q7; exact again I7 n7
    | brk => obtain ⟨σ7, H7, I7, q7⟩ := q7; exact ⟨σ7, H7, I7.unpinned, q7⟩
    | ret v => obtain ⟨x7, σ7, H7, I7, r7, q7⟩ := q7; exact ⟨x7, σ7, H7, I7.unpinned, r7, q7⟩
end
theorem for_list {K : PySem.W.Frag} {a : Addr} {xs : List V} {g : TG} {tb : TS} {D : Ends} {σ : St} {H : Hp} (Pv : Nat → St → Hp → Prop) (h0 : Pv 0 σ H) (hl : ∀ i σ H, i ≤ xs.length → Pv i σ H → SqL K H a xs)
    (hs : ∀ i x σ H, xs[i]? = some x → Pv i σ H → g x σ H fun σ2 H2 => tb { D with nx := Pv (i + 1), ct := Pv (i + 1), bk := D.nx } σ2 H2) (hd : ∀ σ H, Pv xs.length σ H → D.nx σ H) :
    ∃ W : Nat → Nat → St → Hp → Prop, (∃ m, W 0 m σ H) ∧ ∀ i m σ H, W i m σ H →
      ((Itl K a).stop i H ∧ D.nx σ H) ∨ ((Itl K a).go i H ∧ ∃ N : St → Hp → Prop, (∀ σ' H', N σ' H' → ∃ m', m' < m ∧ W (i + 1) m' σ' H') ∧ ∀ x H', (Itl K a).yld i H x H' → g x σ H' fun σ2 H2 => tb { D with nx := N, ct := N, bk := D.nx } σ2 H2) := by
  refine ⟨fun i m σ H => m = xs.length - i ∧ i ≤ xs.length ∧ Pv i σ H, ⟨xs.length, by simp, Nat.zero_le _, h0⟩, ?_⟩
  rintro i m σ H ⟨rfl, hi, p⟩
  have q := hl i σ H hi p
  by_cases hlt : i < xs.length
  · refine .inr ⟨⟨xs, xs[i], q, by simp [hlt]⟩, Pv (i + 1), fun σ' H' p' => ⟨xs.length - (i + 1), by (first | lia | omega), rfl, hlt, p'⟩, fun x H' y => ?_⟩
    obtain ⟨e, y⟩ := y
    subst e
    exact hs i x σ _ (y xs q) p
  · have e : i = xs.length := by (first | lia | omega)
    subst e
    exact .inl ⟨⟨xs, q, Nat.le_refl _⟩, hd σ H p⟩
theorem for_range {lo : Int} {n : Nat} {g : TG} {tb : TS} {D : Ends} {σ : St} {H : Hp} (Pv : Nat → St → Hp → Prop) (h0 : Pv 0 σ H)
    (hs : ∀ i σ H, i < n → Pv i σ H → g (.int (lo + i)) σ H fun σ2 H2 => tb { D with nx := Pv (i + 1), ct := Pv (i + 1), bk := D.nx } σ2 H2) (hd : ∀ σ H, Pv n σ H → D.nx σ H) :
    ∃ W : Nat → Nat → St → Hp → Prop, (∃ m, W 0 m σ H) ∧ ∀ i m σ H, W i m σ H →
      ((Itr lo n).stop i H ∧ D.nx σ H) ∨ ((Itr lo n).go i H ∧ ∃ N : St → Hp → Prop, (∀ σ' H', N σ' H' → ∃ m', m' < m ∧ W (i + 1) m' σ' H') ∧ ∀ x H', (Itr lo n).yld i H x H' → g x σ H' fun σ2 H2 => tb { D with nx := N, ct := N, bk := D.nx } σ2 H2) := by
  refine ⟨fun i m σ H => m = n - i ∧ i ≤ n ∧ Pv i σ H, ⟨n, by simp, Nat.zero_le _, h0⟩, ?_⟩
  rintro i m σ H ⟨rfl, hi, p⟩
  by_cases hlt : i < n
  · refine .inr ⟨hlt, Pv (i + 1), fun σ' H' p' => ⟨n - (i + 1), by (first | lia | omega), rfl, hlt, p'⟩, fun x H' y => ?_⟩
    obtain ⟨e, y⟩ := y
    subst e y
    exact hs i σ _ hlt p
  · have e : i = n := by (first | lia | omega)
    subst e
    exact .inl ⟨Nat.le_refl _, hd σ H p⟩
end L2
namespace L2
open PySem PySem.Spec PyProof.Rows
noncomputable abbrev R2 := V → V → Hp → VK → Prop
noncomputable def OpR (X : Cx) (f : Value → Value → Sem Value) (r : R2) : Prop :=
  ∀ (pins : List (Addr × Obj)) (s : Shared) (σ : St) (H : Hp) (x y : V) (v u : Value) (Q : VK), Inv X pins σ H s → RelV x v → RelV y u → r x y H Q →
    wpAny (model X.prog X.w) X.A (f v u) (EP X pins σ Q) X.xe s
noncomputable def UnR (X : Cx) (f : Value → Sem Value) (r : V → Hp → VK → Prop) : Prop :=
  ∀ (pins : List (Addr × Obj)) (s : Shared) (σ : St) (H : Hp) (x : V) (v : Value) (Q : VK), Inv X pins σ H s → RelV x v → r x H Q →
    wpAny (model X.prog X.w) X.A (f v) (EP X pins σ Q) X.xe s
noncomputable def CallR (X : Cx) (f : Value) (r : List V → Hp → VK → Prop) : Prop :=
  ∀ (pins : List (Addr × Obj)) (s : Shared) (σ : St) (H : Hp) (xs : List V) (us : List Value) (Q : VK), Inv X pins σ H s → Vals xs us → r xs H Q →
    wpAny (model X.prog X.w) X.A (call f us) (EP X pins σ Q) X.xe s
noncomputable def TruR (X : Cx) (r : V → Hp → (Bool → Hp → Prop) → Prop) : Prop :=
  ∀ (pins : List (Addr × Obj)) (s : Shared) (σ : St) (H : Hp) (x : V) (v : Value) (Q : Bool → Hp → Prop), Inv X pins σ H s → RelV x v → r x H Q →
    wpAny (model X.prog X.w) X.A (truthy v) (TP X pins σ Q) X.xe s
noncomputable def tOp (r : R2) (ta tb : TE) : TE := fun σ H Q => ta σ H fun x H1 => tb σ H1 fun y H2 => r x y H2 Q
noncomputable def tUn (r : V → Hp → VK → Prop) (ta : TE) : TE := fun σ H Q => ta σ H fun x H1 => r x H1 Q
noncomputable def rI (C : Int → Int → Prop) (g : Int → Int → V) : R2 := fun x y H Q => ∃ i j, x = .int i ∧ y = .int j ∧ C i j ∧ Q (g i j) H
noncomputable def rI0 (g : Int → Int → V) : R2 := fun x y H Q => ∃ i j, x = .int i ∧ y = .int j ∧ Q (g i j) H
noncomputable def rU (g : Int → V) : V → Hp → VK → Prop := fun x H Q => ∃ i, x = .int i ∧ Q (g i) H
section
variable {X : Cx} {a b c : Expr} {ta tb tc : TE} {pos : Pos}
theorem binT (ha : PE X a ta) (hb : PE X b tb) {pins : List (Addr × Obj)} {s : Shared} {σ : St} {H : Hp} {R : V → V → Hp → Prop} (I : Inv X pins σ H s)
    (h : ta σ H fun x H1 => tb σ H1 fun y H2 => R x y H2) {Q : Value → Shared → Prop} {f : Value → Value → Sem Value}
    (hf : ∀ v u s2 x y H2, Inv X pins σ H2 s2 → RelV x v → RelV y u → R x y H2 → wpAny (model X.prog X.w) X.A (f v u) Q X.xe s2) :
    wpAny (model X.prog X.w) X.A (eval a X.env) (fun v s₁ => wpAny (model X.prog X.w) X.A (eval b X.env) (fun u s₂ => wpAny (model X.prog X.w) X.A (f v u) Q X.xe s₂) X.xe s₁) X.xe s := by
  refine thn (ha pins s σ H _ I h) fun v s1 ⟨x, H1, I1, r1, q1⟩ => ?_
  refine thn (hb pins s1 σ H1 _ I1 q1) fun u s2 ⟨y, H2, I2, r2, q2⟩ => ?_
  exact hf v u s2 x y H2 I2 r1 r2 q2
theorem pe_op {op : Operator} {r : R2} (ho : OpR X (binaryOp op) r) (ha : PE X a ta) (hb : PE X b tb) : PE X (.BinOp a op b pos) (tOp r ta tb) := by
  intro pins s σ H Q I h
  exact wpAny_BinOp (binT ha hb I h fun v u s2 x y H2 I2 rx ry q => ho pins s2 σ H2 x y v u Q I2 rx ry q)
theorem pe_un {op : UnaryOp} {r : V → Hp → VK → Prop} (ho : UnR X (unaryOp op) r) (ha : PE X a ta) : PE X (.UnaryOp op a pos) (tUn r ta) := by
  intro pins s σ H Q I h
  exact UnaryOp_ (thn (ha pins s σ H _ I h) fun v s1 ⟨x, H1, I1, r1, q1⟩ => ho pins s1 σ H1 x v Q I1 r1 q1)
theorem opI {f : Value → Value → Sem Value} {C : Int → Int → Prop} {g : Int → Int → Int}
    (rule : ∀ (i j : Int) (t u : Tok) (s : Shared) (Q : Value → Shared → Prop) (E : Value → Shared → Prop), C i j → Q (.int (g i j) s.toks) { s with toks := s.toks + 1 } → wpAny (model X.prog X.w) X.A (f (.int i t) (.int j u)) Q E s) :
    OpR X f (rI C fun i j => .int (g i j)) := by
  intro pins s σ H x y v u Q I rx ry h
  obtain ⟨i, j, rfl, rfl, hc, q⟩ := h
  obtain ⟨t, rfl⟩ := rx
  obtain ⟨t', rfl⟩ := ry
  exact rule i j t t' s _ _ hc ⟨.int (g i j), H, I.tok _, ⟨_, rfl⟩, q⟩
theorem opI0 {f : Value → Value → Sem Value} {g : Int → Int → Int}
    (rule : ∀ (i j : Int) (t u : Tok) (s : Shared) (Q : Value → Shared → Prop) (E : Value → Shared → Prop), Q (.int (g i j) s.toks) { s with toks := s.toks + 1 } → wpAny (model X.prog X.w) X.A (f (.int i t) (.int j u)) Q E s) :
    OpR X f (rI0 fun i j => .int (g i j)) := by
  intro pins s σ H x y v u Q I rx ry h
  obtain ⟨i, j, rfl, rfl, q⟩ := h
  obtain ⟨t, rfl⟩ := rx
  obtain ⟨t', rfl⟩ := ry
  exact rule i j t t' s _ _ ⟨.int (g i j), H, I.tok _, ⟨_, rfl⟩, q⟩
theorem opB0 {f : Value → Value → Sem Value} {g : Int → Int → Bool}
    (rule : ∀ (i j : Int) (t u : Tok) (s : Shared) (Q : Value → Shared → Prop) (E : Value → Shared → Prop), Q (.bool (g i j)) s → wpAny (model X.prog X.w) X.A (f (.int i t) (.int j u)) Q E s) :
    OpR X f (rI0 fun i j => .bl (g i j)) := by
  intro pins s σ H x y v u Q I rx ry h
  obtain ⟨i, j, rfl, rfl, q⟩ := h
  obtain ⟨t, rfl⟩ := rx
  obtain ⟨t', rfl⟩ := ry
  exact rule i j t t' s _ _ ⟨.bl (g i j), H, I, rfl, q⟩
noncomputable def CDiv (i j : Int) : Prop := 0 < j ∧ j < 1073741824
noncomputable def CMul (i j : Int) : Prop := (-(2 ^ 64) < i ∧ i < 2 ^ 64) ∨ (-(2 ^ 64) < j ∧ j < 2 ^ 64)
theorem CMul.ok {i j : Int} (h : CMul i j) : IntMulOk i j := by
  rcases h with ⟨h1, h2⟩ | ⟨h1, h2⟩
  · exact .of_left (intBits_le_64 h1 h2)
  · exact .of_right (intBits_le_64 h1 h2)
theorem op_add : OpR X (binaryOp .Add) (rI0 fun i j => .int (i + j)) := opI0 fun _ _ _ _ _ _ _ q => add_int q
theorem op_sub : OpR X (binaryOp .Sub) (rI0 fun i j => .int (i - j)) := opI0 fun _ _ _ _ _ _ _ q => sub_int q
theorem op_mul : OpR X (binaryOp .Mult) (rI CMul fun i j => .int (i * j)) := opI fun _ _ _ _ _ _ _ hc q => mul_int q hc.ok
theorem op_fdiv : OpR X (binaryOp .FloorDiv) (rI CDiv fun i j => .int (i / j)) := opI fun i j _ _ _ _ _ hc q => by
  have h1 : (0 : Int) < j := hc.1
  have h2 : j < 1073741824 := hc.2
  exact floordiv_int (by (first | lia | omega)) (by rw [Int.fdiv_eq_ediv_of_nonneg i (by (first | lia | omega))]; exact q) (.inl (PyProof.noPylong_small (by (first | lia | omega))))
theorem op_mod : OpR X (binaryOp .Mod) (rI (fun _ j => 0 < j) fun i j => .int (i % j)) := opI fun i j _ _ _ _ _ hc q => by
  have h1 : (0 : Int) < j := hc
  exact mod_int' (by (first | lia | omega)) (by rw [Int.fmod_eq_emod_of_nonneg i (by (first | lia | omega))]; exact q)
theorem unI {f : Value → Sem Value} {g : Int → Int}
    (rule : ∀ (i : Int) (t : Tok) (s : Shared) (Q : Value → Shared → Prop) (E : Value → Shared → Prop), Q (.int (g i) s.toks) { s with toks := s.toks + 1 } → wpAny (model X.prog X.w) X.A (f (.int i t)) Q E s) :
    UnR X f (rU fun i => .int (g i)) := by
  intro pins s σ H x v Q I rx h
  obtain ⟨i, rfl, q⟩ := h
  obtain ⟨t, rfl⟩ := rx
  exact rule i t s _ _ ⟨.int (g i), H, I.tok _, ⟨_, rfl⟩, q⟩
theorem un_neg : UnR X (unaryOp .USub) (rU fun i => .int (-i)) := unI fun _ _ _ _ _ q => neg_int q
end
noncomputable def scal : V → V → Bool
  | .non, .non => true | .non, .int _ => true | .int _, .non => true | .non, .bl _ => true | .bl _, .non => true | .non, .str _ => true | .str _, .non => true
  | .int _, .int _ => true | .bl _, .bl _ => true | .str _, .str _ => true | .byt _, .byt _ => true
  | .int _, .str _ => true | .str _, .int _ => true | .bl _, .str _ => true | .str _, .bl _ => true
  | _, _ => false
noncomputable def rEq : R2 := fun x y H Q => scal x y = true ∧ Q (.bl (decide (x = y))) H
noncomputable def rNe : R2 := fun x y H Q => scal x y = true ∧ Q (.bl (!decide (x = y))) H
theorem dec_int {i j : Int} : decide (V.int i = V.int j) = (i == j) := by
  rw [Bool.eq_iff_iff]
  simp
theorem dec_bl {i j : Bool} : decide (V.bl i = V.bl j) = (i == j) := by
  rw [Bool.eq_iff_iff]
  simp
theorem dec_str {i j : Str} : decide (V.str i = V.str j) = (i == j) := by
  rw [Bool.eq_iff_iff]
  simp
theorem dec_byt {i j : Array UInt8} : decide (V.byt i = V.byt j) = (i.toList == j.toList) := by
  rw [Bool.eq_iff_iff]
  cases i
  cases j
  simp
section
variable {X : Cx} {a b c : Expr} {ta tb tc : TE} {pos : Pos}
theorem fin_bl {pins : List (Addr × Obj)} {σ : St} {H : Hp} {s : Shared} {Q : VK} {k k' : Bool} (I : Inv X pins σ H s) (q : Q (.bl k) H) (e : k = k') : EP X pins σ Q (.bool k') s := by
  subst e
  exact ⟨.bl k, H, I, rfl, q⟩
theorem op_eq : OpR X (compareOp .Eq) rEq := by
  intro pins s σ H x y v u Q I rx ry h
  obtain ⟨hs, q⟩ := h
  cases x with
  | non =>
    cases rx
    cases y with
    | non => cases ry; exact PySem.EqNone.eq_none_none (fin_bl I q (by simp))
    | bl j => cases ry; exact PySem.EqNone.eq_none_bool (fin_bl I q (by simp))
    | int j => obtain ⟨t', rfl⟩ := ry; exact PySem.EqNone.eq_none_int (fin_bl I q (by simp))
    | str j => obtain ⟨t', rfl⟩ := ry; exact PySem.EqNone.eq_none_str (fin_bl I q (by simp))
    | _ => exact absurd (show false = true from hs) Bool.false_ne_true
  | bl i =>
    cases rx
    cases y with
    | non => cases ry; exact PySem.EqNone.eq_bool_none (fin_bl I q (by simp))
    | bl j => cases ry; exact eq_bool (fin_bl I q dec_bl)
    | str j => obtain ⟨t', rfl⟩ := ry; exact PySem.EqMixed.eq_bool_str (fin_bl I q (by simp))
    | _ => exact absurd (show false = true from hs) Bool.false_ne_true
  | int i =>
    obtain ⟨t, rfl⟩ := rx
    cases y with
    | non => cases ry; exact PySem.EqNone.eq_int_none (fin_bl I q (by simp))
    | int j => obtain ⟨t', rfl⟩ := ry; exact eq_int (fin_bl I q dec_int)
    | str j => obtain ⟨t', rfl⟩ := ry; exact PySem.EqMixed.eq_int_str (fin_bl I q (by simp))
    | _ => exact absurd (show false = true from hs) Bool.false_ne_true
  | str i =>
    obtain ⟨t, rfl⟩ := rx
    cases y with
    | non => cases ry; exact PySem.EqNone.eq_str_none (fin_bl I q (by simp))
    | bl j => cases ry; exact PySem.EqMixed.eq_str_bool (fin_bl I q (by simp))
    | int j => obtain ⟨t', rfl⟩ := ry; exact PySem.EqMixed.eq_str_int (fin_bl I q (by simp))
    | str j => obtain ⟨t', rfl⟩ := ry; exact eq_str (fin_bl I q dec_str)
    | _ => exact absurd (show false = true from hs) Bool.false_ne_true
  | byt i =>
    obtain ⟨t, rfl⟩ := rx
    cases y with
    | byt j => obtain ⟨t', rfl⟩ := ry; exact PySem.W.eq_bytes (fin_bl I q dec_byt)
    | _ => exact absurd (show false = true from hs) Bool.false_ne_true
  | _ => cases y <;> exact absurd (show false = true from hs) Bool.false_ne_true
theorem op_ne : OpR X (compareOp .NotEq) rNe := by
  intro pins s σ H x y v u Q I rx ry h
  obtain ⟨hs, q⟩ := h
  cases x with
  | non =>
    cases rx
    cases y with
    | non => cases ry; exact PySem.EqNone.ne_none_none (fin_bl I q (by simp))
    | bl j => cases ry; exact PySem.EqNone.ne_none_bool (fin_bl I q (by simp))
    | int j => obtain ⟨t', rfl⟩ := ry; exact PySem.EqNone.ne_none_int (fin_bl I q (by simp))
    | str j => obtain ⟨t', rfl⟩ := ry; exact PySem.EqNone.ne_none_str (fin_bl I q (by simp))
    | _ => exact absurd (show false = true from hs) Bool.false_ne_true
  | bl i =>
    cases rx
    cases y with
    | non => cases ry; exact PySem.EqNone.ne_bool_none (fin_bl I q (by simp))
    | bl j => cases ry; exact ne_bool (fin_bl I q (congrArg not dec_bl))
    | str j => obtain ⟨t', rfl⟩ := ry; exact PySem.EqMixed.ne_bool_str (fin_bl I q (by simp))
    | _ => exact absurd (show false = true from hs) Bool.false_ne_true
  | int i =>
    obtain ⟨t, rfl⟩ := rx
    cases y with
    | non => cases ry; exact PySem.EqNone.ne_int_none (fin_bl I q (by simp))
    | int j => obtain ⟨t', rfl⟩ := ry; exact ne_int (fin_bl I q (congrArg not dec_int))
    | str j => obtain ⟨t', rfl⟩ := ry; exact PySem.EqMixed.ne_int_str (fin_bl I q (by simp))
    | _ => exact absurd (show false = true from hs) Bool.false_ne_true
  | str i =>
    obtain ⟨t, rfl⟩ := rx
    cases y with
    | non => cases ry; exact PySem.EqNone.ne_str_none (fin_bl I q (by simp))
    | bl j => cases ry; exact PySem.EqMixed.ne_str_bool (fin_bl I q (by simp))
    | int j => obtain ⟨t', rfl⟩ := ry; exact PySem.EqMixed.ne_str_int (fin_bl I q (by simp))
    | str j => obtain ⟨t', rfl⟩ := ry; exact ne_str (fin_bl I q (congrArg not dec_str))
    | _ => exact absurd (show false = true from hs) Bool.false_ne_true
  | byt i =>
    obtain ⟨t, rfl⟩ := rx
    cases y with
    | byt j => obtain ⟨t', rfl⟩ := ry; exact PySem.W.ne_bytes (fin_bl I q (congrArg not dec_byt))
    | _ => exact absurd (show false = true from hs) Bool.false_ne_true
  | _ => cases y <;> exact absurd (show false = true from hs) Bool.false_ne_true
theorem op_lt : OpR X (compareOp .Lt) (rI0 fun i j => .bl (decide (i < j))) := opB0 fun _ _ _ _ _ _ _ q => lt_int q
theorem op_le : OpR X (compareOp .LtE) (rI0 fun i j => .bl (decide (i ≤ j))) := opB0 fun _ _ _ _ _ _ _ q => le_int q
theorem op_gt : OpR X (compareOp .Gt) (rI0 fun i j => .bl (decide (j < i))) := opB0 fun _ _ _ _ _ _ _ q => gt_int q
theorem op_isN : OpR X (compareOp .Is) (fun x y H Q => y = .non ∧ Q (.bl (decide (x = .non))) H) := by
  intro pins s σ H x y v u Q I rx ry h
  obtain ⟨rfl, q⟩ := h
  cases ry
  refine is_none_gen (fin_bl I q ?_)
  cases x <;> first
    | (cases rx; rfl)
    | (obtain ⟨t, rfl⟩ := rx; rfl)
theorem nomark (b : Expr) {op : CmpOp} (h : op ≠ .In := by decide) (h2 : op ≠ .NotIn := by decide) : behindInMarks op b = false := by
  have e1 : (op == CmpOp.In) = false := by cases op <;> first | rfl | exact absurd rfl h
  have e2 : (op == CmpOp.NotIn) = false := by cases op <;> first | rfl | exact absurd rfl h2
  cases b <;> simp [behindInMarks, e1, e2]
theorem pe_cmpR {op : CmpOp} {r : R2} (ho : OpR X (compareOp op) r) (ha : PE X a ta) (hb : PE X b tb) (hm : behindInMarks op b = false) : PE X (.Compare a [op] [b] pos) (tOp r ta tb) := by
  intro pins s σ H Q I h
  exact wpAny_Compare1 (binT ha hb I h fun v u s2 x y H2 I2 rx ry q => ho pins s2 σ H2 x y v u Q I2 rx ry q) hm
noncomputable def tTest (t : TE) : TT := fun σ H Q => t σ H fun x H' => ∃ k, x = .bl k ∧ Q k H'
theorem pt_cmpR {op : CmpOp} {r : R2} (ho : OpR X (compareOp op) r) (ha : PE X a ta) (hb : PE X b tb) (hm : behindInMarks op b = false) : PT X (.Compare a [op] [b] pos) (tTest (tOp r ta tb)) := by
  intro pins s σ H Q I h
  refine wpAny_isTrue_Compare1 (thn (ha pins s σ H _ I h) fun v s1 ⟨x, H1, I1, r1, q1⟩ => thn (hb pins s1 σ H1 _ I1 q1) fun u s2 ⟨y, H2, I2, r2, q2⟩ =>
    thn (ho pins s2 σ H2 x y v u _ I2 r1 r2 q2) fun c s3 ⟨z, H3, I3, r3, k, e, q3⟩ => ?_) hm
  subst e
  cases r3
  exact wpAny_truthy_bool ⟨H3, I3, q3⟩
noncomputable def tChain (r r' : R2) (ta tb tc : TE) : TE := fun σ H Q => ta σ H fun x H1 => tb σ H1 fun y H2 => r x y H2 fun z H3 => ∃ k, z = .bl k ∧
  (if k = true then tc σ H3 fun w' H4 => r' y w' H4 Q else Q (.bl false) H3)
theorem pe_chain {op op' : CmpOp} {r r' : R2} (ho : OpR X (compareOp op) r) (ho' : OpR X (compareOp op') r') (ha : PE X a ta) (hb : PE X b tb) (hc : PE X c tc)
    (hm : lastMarks [op, op'] [b, c] = false := by with_unfolding_all rfl) : PE X (.Compare a [op, op'] [b, c] pos) (tChain r r' ta tb tc) := by
  intro pins s σ H Q I h
  refine Compare_chain (thn (ha pins s σ H _ I h) fun v s1 ⟨x, H1, I1, r1, q1⟩ => chain_link (thn (hb pins s1 σ H1 _ I1 q1) fun u s2 ⟨y, H2, I2, r2, q2⟩ =>
    thn (ho pins s2 σ H2 x y v u _ I2 r1 r2 q2) fun d s3 ⟨z, H3, I3, r3, k, e, q3⟩ => ?_)) hm
  subst e
  cases r3
  refine wpAny_truthy_bool ?_
  cases k with
  | false => exact ite_ff ⟨.bl false, H3, I3, rfl, q3⟩
  | true => exact ite_tt (chain_last (thn (hc pins s3 σ H3 _ I3 q3) fun w' s4 ⟨z', H4, I4, r4, q4⟩ => ho' pins s4 σ H4 y z' u w' Q I4 r2 r4 q4))
noncomputable def TruV (K : PySem.W.Frag) (x : V) (H : Hp) (k : Bool) : Prop :=
  match x with
  | .non => k = false
  | .bl b => k = b
  | .int i => k = (i != 0)
  | .str y => y.length ≤ sizeLine ∧ k = ((y.length : Int) != 0)
  | .byt y => y.size ≤ sizeLine ∧ k = ((y.size : Int) != 0)
  | .ref p => (∃ xs, SqL K H p xs ∧ k = !xs.isEmpty) ∨ (∃ xs, SqT K H p xs ∧ k = !xs.isEmpty) ∨ ∃ kvs, H p = some (.dK kvs) ∧ k = !kvs.isEmpty
  | _ => False
theorem isEmpty_kv {κ : Type} {kvs : List (κ × V)} {vs : List (κ × Value)} (r : KV kvs vs) : (!vs.isEmpty) = !kvs.isEmpty := by
  cases r <;> rfl
theorem isEmpty_of {xs : List V} {its : List Value} (r : Vals xs its) : (!its.toArray.isEmpty) = !xs.isEmpty := by
  cases r <;> simp
theorem line63 : (sizeLine : Nat) < 2 ^ 63 := by rw [sizeLine_eq]; decide
theorem tru_ok : TruR X (fun x H Q => ∃ k, TruV X.K x H k ∧ Q k H) := by
  intro pins s σ H x v Q I rx h
  obtain ⟨k, e, q⟩ := h
  have hl := line63
  have hs : sizeLine = 16777216 := sizeLine_eq
  cases x with
  | non =>
    cases rx
    have e' : k = false := e
    subst e'
    exact truthy_none ⟨H, I, q⟩
  | bl b =>
    cases rx
    have e' : k = b := e
    subst e'
    exact wpAny_truthy_bool ⟨H, I, q⟩
  | int i =>
    obtain ⟨t, rfl⟩ := rx
    have e' : k = (i != 0) := e
    subst e'
    exact PySem.P.truthy_int ⟨H, I, q⟩
  | str y =>
    obtain ⟨t, rfl⟩ := rx
    obtain ⟨hy, e'⟩ : y.length ≤ sizeLine ∧ k = ((y.length : Int) != 0) := e
    subst e'
    exact PySem.P.truthy_str (by (first | lia | omega)) ⟨H, I.tok _, q⟩
  | byt y =>
    obtain ⟨t, rfl⟩ := rx
    obtain ⟨hy, e'⟩ : y.size ≤ sizeLine ∧ k = ((y.size : Int) != 0) := e
    subst e'
    exact PySem.W.truthy_bytes (by (first | lia | omega)) ⟨H, I.tok _, q⟩
  | ref p =>
    cases rx
    have e' : (∃ xs, SqL X.K H p xs ∧ k = !xs.isEmpty) ∨ (∃ xs, SqT X.K H p xs ∧ k = !xs.isEmpty) ∨ ∃ kvs, H p = some (.dK kvs) ∧ k = !kvs.isEmpty := e
    rcases e' with ⟨xs, hx, e'⟩ | ⟨xs, hx, e'⟩ | ⟨kvs, hx, e'⟩
    · subst e'
      obtain ⟨its, r, pl, hz⟩ := I.list hx
      have hlen := r.length
      exact wpAny_truthy_list pl.isList (by simp only [List.size_toArray]; (first | lia | omega)) ⟨H, I.tok _, by rw [isEmpty_of r]; exact q⟩
    · subst e'
      obtain ⟨its, r, pl, hz⟩ := I.tuple hx
      have hlen := r.length
      exact truthy_tuple pl (by simp only [List.size_toArray]; (first | lia | omega)) ⟨H, I.tok _, by rw [isEmpty_of r]; exact q⟩
    · subst e'
      obtain ⟨hz, hS, vs, r, m⟩ : kvs.length ≤ sizeLine ∧ (p == sysModules) = false ∧ ∃ vs, KV kvs vs ∧ s.heap.DictOf (mixKind X.prog X.w) p vs := I.hok p _ hx
      have hlen : kvs.length = vs.length := Paired.length r
      exact wpAny_truthy_dict hS m (by (first | lia | omega)) ⟨H, I.tok _, by rw [isEmpty_kv r]; exact q⟩
  | _ => exact (show False from e).elim
theorem pt_truth (ha : PE X a ta) (he : ∀ whole, isTrue a X.env whole = (do let v ← whole; standAt a.pos; holding [v] (truthy v))) :
    PT X a (fun σ H Q => ta σ H fun x H' => ∃ k, TruV X.K x H' k ∧ Q k H') := by
  intro pins s σ H Q I h
  exact isTrue_plain (thn (ha pins s σ H _ I h) fun v s1 ⟨x, H1, I1, r1, q1⟩ => tru_ok pins s1 σ H1 x v Q I1 r1 q1) (he _)
theorem vals1 {x : V} {us : List Value} (r : Vals [x] us) : ∃ u, us = [u] ∧ RelV x u := by
  cases r with
  | cons r1 r2 => cases r2; exact ⟨_, rfl, r1⟩
theorem vals2 {x y : V} {us : List Value} (r : Vals [x, y] us) : ∃ u w', us = [u, w'] ∧ RelV x u ∧ RelV y w' := by
  cases r with
  | cons r1 r2 =>
    cases r2 with
    | cons r3 r4 => cases r4; exact ⟨_, _, rfl, r1, r3⟩
theorem call_max2 (hc : X.calm = true) : CallR X (.builtin "max") (fun xs H Q => ∃ i j, xs = [.int i, .int j] ∧ Q (.int (if j > i then j else i)) H) := by
  intro pins s σ H xs us Q I r h
  obtain ⟨i, j, rfl, q⟩ := h
  obtain ⟨u, w', rfl, ⟨t, rfl⟩, ⟨t', rfl⟩⟩ := vals2 r
  refine max_two_ints (I.ok.hd hc) fun h' tk k => ⟨_, H, I.kept k, ?_, q⟩
  by_cases hj : j > i
  · rw [if_pos hj, if_pos hj]; exact ⟨_, rfl⟩
  · rw [if_neg hj, if_neg hj]; exact ⟨_, rfl⟩
end
end L2
namespace L2
open PySem PySem.Spec PyProof.Rows
structure ObjM (h : Heap) (x dx C : Addr) (mA : Str → Option Value) : Prop where
  obj : h.get? x = some (PySem.W.instObj C dx)
  ns : h.Ns1 dx mA
  ne : dx ≠ x
theorem lookIn_ns {h : Heap} {dx : Addr} {mA : Str → Option Value} (n : h.Ns1 dx mA) : ∃ od, h.get? dx = some od ∧ ∀ name, PySem.W.lookIn name od = some (mA name) := by
  obtain ⟨o, es, ep, ho, hd, hk, _, hm⟩ := n
  refine ⟨o, ho, fun name => ?_⟩
  have e := hm name
  unfold nsFind findBy at e
  rw [← Array.find?_toList] at e
  unfold PySem.W.lookIn
  rw [hd]
  dsimp only
  split
  · rename_i y q
    rw [q] at e
    exact congrArg some e
  · rename_i q
    rw [q] at e
    have a : es.toList.any (·.refKey) = false := by
      rw [List.any_eq_false]
      intro y hy
      obtain ⟨z, t, hkey⟩ := hk y (Array.mem_toList_iff.mp hy)
      simp [DictEntry.refKey, hkey]
    have a' : ¬ es.toList.any (·.refKey) = true := by rw [a]; exact Bool.false_ne_true
    rw [if_neg a']
    exact congrArg some e
theorem ObjM.look {h : Heap} {x dx C : Addr} {mA : Str → Option Value} (I : ObjM h x dx C mA) : ∃ od, PySem.W.InstAt h x (PySem.W.instObj C dx) C (some od) ∧ ∀ name, PySem.W.lookIn name od = some (mA name) :=
  let ⟨od, ho, hl⟩ := lookIn_ns I.ns
  ⟨od, ⟨I.obj, rfl, rfl, ho⟩, hl⟩
section
variable {prog : Program} {w : World} {A : Around} {E : Value → Shared → Prop} {s : Shared} {K : PySem.W.Frag} {x dx C f : Addr} {mA : Str → Option Value} {name : Str} {v : Value}
end
theorem RelO.some_of {v : V} {o : Option Value} (r : RelO (some v) o) : ∃ u, o = some u ∧ RelV v u := by
  cases o with
  | none => exact (show False from r).elim
  | some u => exact ⟨u, rfl, r⟩
section
variable {P : Program} {w : World} {H H' : Hp} {h h' : Heap} {a C dx : Addr} {fs fs' : List (Str × V)}
theorem ins_get (hok : HOk P w H h) (e : H a = some (.ins C dx fs)) : ∃ mA, ObjM h a dx C mA ∧ (∀ f, RelO (fs.lookup f) (mA f)) ∧ PySem.Within mA (fs.map (·.1)) ∧ fs.length ≤ 1000 ∧ H dx = some (.own a) := by
  obtain ⟨d, z, ne, ob, mA, n, r, q⟩ := (show ObjOk P w H h a (.ins C dx fs) from hok a _ e)
  exact ⟨mA, ⟨ob, n, ne⟩, r, q, z, d⟩
end
structure Cls (K : PySem.W.Frag) (C : Addr) : Prop where
  pg : PySem.W.plainGet K C Str.empty = true
  hd : PySem.W.hasDictIn K C = true
  po : PySem.W.plainOver K C = true
  sa : PySem.W.findIn K (.ref C) "__setattr__" = some (some (.builtin "object.__setattr__"))
theorem Cls.get {K : PySem.W.Frag} {C : Addr} (c : Cls K C) (f : Str) : PySem.W.plainGet K C f = true := c.pg
section
variable {X : Cx} {pins : List (Addr × Obj)} {σ : St} {H : Hp} {s : Shared} {a C dx : Addr} {fs : List (Str × V)} {f : Str} {v : V} {A : Around} {E : Value → Shared → Prop}
end
section
variable {X : Cx} {o e value : Expr} {f : Str} {pos pos' tpos : Pos} {ta tv : TE}
end
section
variable {X : Cx} {pins : List (Addr × Obj)} {σ : St} {H : Hp} {s : Shared} {A : Around} {E : Value → Shared → Prop} {Q : Value → Shared → Prop} {c : Value} {b : Bool}
inductive TyOf (K : PySem.W.Frag) (H : Hp) : V → Value → Prop where
  | non : TyOf K H .non (.type "NoneType")
  | bl (x : Bool) : TyOf K H (.bl x) (.type "bool")
  | int (i : Int) : TyOf K H (.int i) (.type "int")
  | str (x : Str) : TyOf K H (.str x) (.type "str")
  | flt (x : UInt64) : TyOf K H (.flt x) (.type "float")
  | lst {a : Addr} {xs : List V} (e : H a = some (.lst xs)) : TyOf K H (.ref a) (.type "list")
  | frz {a : Addr} {o : Obj} {xs : List V} (e : H a = some (.frz o (.lst xs))) : TyOf K H (.ref a) (.type "list")
  | tup {a : Addr} {xs : List V} (e : H a = some (.tup xs)) : TyOf K H (.ref a) (.type "tuple")
  | dK {a : Addr} {kvs : List (Key × V)} (e : H a = some (.dK kvs)) : TyOf K H (.ref a) (.type "dict")
  | dT {a : Addr} {kvs : List (List Key × V)} (e : H a = some (.dT kvs)) : TyOf K H (.ref a) (.type "dict")
  | ins {a C dx : Addr} {fs : List (Str × V)} (e : H a = some (.ins C dx fs)) (cl : Cls K C) (ha : PySem.W.findIn K (.ref C) "__class__" = some (some (.builtin "object.__class__")))
      (hn : PySem.W.specialIn K (.builtin "object.__class__") "__get__" = some (some (.builtin "getset_descriptor.__get__"))) (htk : PySem.W.takesIn K (.builtin "object.__class__") = some true)
      (hm : PySem.W.mroIn K C (.type "object") = some true) : TyOf K H (.ref a) (.ref C)
theorem isinst_ok {x : V} {u t : Value} (I : Inv X pins σ H s) (rx : RelV x u) (ty : TyOf X.K H x t) (e : PySem.W.kitOne X.K t c = some b) (h : ∀ tk, Q (.bool b) { s with toks := tk }) :
    wpAny (model X.prog X.w) A (call (.builtin "isinstance") [u, c]) Q E s := by
  cases ty with
  | non => cases (show u = Value.none from rx); exact PySem.W.kia_one PySem.W.kitx_none I.kIn True.intro e (fun z => nomatch z) h
  | bl y => cases (show u = Value.bool y from rx); exact PySem.W.kia_one PySem.W.kitx_bool I.kIn True.intro e (fun z => nomatch z) h
  | int i => obtain ⟨t, q⟩ := (show ∃ t, u = Value.int i t from rx); cases q; exact PySem.W.kia_one PySem.W.kitx_int I.kIn True.intro e (fun z => nomatch z) h
  | str y => obtain ⟨t, q⟩ := (show ∃ t, u = Value.str y t from rx); cases q; exact PySem.W.kia_one PySem.W.kitx_str I.kIn True.intro e (fun z => nomatch z) h
  | flt y => obtain ⟨t, q⟩ := (show ∃ t, u = Value.float y t from rx); cases q; exact PySem.W.kia_one PySem.W.kitx_float I.kIn True.intro e (fun z => nomatch z) h
  | @lst a xs ea =>
    cases (show u = Value.ref a from rx)
    obtain ⟨_, _, n, _, h1⟩ := (show ObjOk X.prog X.w H s.heap a (.lst xs) from I.hok a _ ea)
    exact PySem.W.kia_one PySem.W.kitx_list I.kIn ⟨_, h1, rfl⟩ e (fun z => nomatch z) h
  | @frz a ob xs ea =>
    cases (show u = Value.ref a from rx)
    obtain ⟨_, _, _, n, _, h1⟩ := (show ObjOk X.prog X.w H s.heap a (.frz ob (.lst xs)) from I.hok a _ ea)
    exact PySem.W.kia_one PySem.W.kitx_list I.kIn ⟨_, h1, rfl⟩ e (fun z => nomatch z) h
  | @tup a xs ea =>
    cases (show u = Value.ref a from rx)
    obtain ⟨_, _, _, p⟩ := (show ObjOk X.prog X.w H s.heap a (.tup xs) from I.hok a _ ea)
    obtain ⟨o, h1, h2, _⟩ := p
    exact PySem.W.kia_one PySem.W.kitx_tuple I.kIn ⟨o, h1, h2⟩ e (fun z => nomatch z) h
  | @dK a kvs ea =>
    cases (show u = Value.ref a from rx)
    obtain ⟨_, _, vs, _, p⟩ := (show ObjOk X.prog X.w H s.heap a (.dK kvs) from I.hok a _ ea)
    obtain ⟨o, es, ep, h1, h2, _⟩ := p
    exact PySem.W.kia_one PySem.W.kitx_dict I.kIn ⟨o, h1, h2.1⟩ e (fun z => nomatch z) h
  | @dT a kvs ea =>
    cases (show u = Value.ref a from rx)
    obtain ⟨_, _, xs, _, o, es, ep, h1, h2, _⟩ := (show ObjOk X.prog X.w H s.heap a (.dT kvs) from I.hok a _ ea)
    exact PySem.W.kia_one PySem.W.kitx_dict I.kIn ⟨o, h1, h2.1⟩ e (fun z => nomatch z) h
  | @ins a C dx fs ea cl ha hn htk hm =>
    cases (show u = Value.ref a from rx)
    obtain ⟨mA, O, _⟩ := ins_get I.hok ea
    obtain ⟨od, J, _⟩ := O.look
    exact PySem.W.kia_one (PySem.W.kitx_own (cl.get _) cl.hd ha hn htk hm) I.kIn J e (fun z => nomatch z) h
end
end L2
namespace L2
open PySem PySem.Spec PyProof.Rows
structure Room (k : Nat) (A : Around) : Prop where
  hd : A.handled = none
  dp : A.depth + 3 * k + 5 < recursionLimit
  un : A.units + 16 * k + 200 < cLine
theorem Room.mono {j k : Nat} {A : Around} (r : Room k A) (h : j ≤ k) : Room j A := ⟨r.hd, by have := r.dp; (first | lia | omega), by have := r.un; (first | lia | omega)⟩
theorem Room.deeper {k : Nat} {A : Around} (r : Room (k + 1) A) (env : Env) : Room k (A.deeper env) :=
  ⟨r.hd, by have := r.dp; show A.depth + 1 + 3 * k + 5 < _; (first | lia | omega), by have := r.un; show A.units + 3 + 16 * k + 200 < _; (first | lia | omega)⟩
theorem Room.depth {k : Nat} {A : Around} (r : Room k A) : A.depth < recursionLimit := by have := r.dp; (first | lia | omega)
theorem Room.units {k : Nat} {A : Around} (r : Room k A) : A.units + 64 < cLine := by have := r.un; (first | lia | omega)
noncomputable def tNil : TA := fun _ H Q => Q [] H
noncomputable def tCons (ta : TE) (tr : TA) : TA := fun σ H Q => ta σ H fun x H1 => tr σ H1 fun xs H2 => Q (x :: xs) H2
section
variable {X : Cx} {e : Expr} {es : List Expr} {te : TE} {t : TA} {pos : Pos}
theorem pa_nil : PA X [] tNil := fun _ _ _ _ H Q I h => Calls.spliced_nil ⟨[], H, I, .nil, h⟩
theorem pa_cons (ha : PE X e te) (hr : PA X es t) (hs : starEach (e :: es) X.env = (false, eval e X.env) :: starEach es X.env := by rfl) : PA X (e :: es) (tCons te t) := by
  intro pos pins s σ H Q I h
  rw [hs]
  show wpAny _ _ (spliced ((false, eval e X.env) :: backTo pos (starEach es X.env))) _ _ s
  refine Calls.spliced_cons (thn (ha pins s σ H _ I h) fun u s1 ⟨x, H1, I1, r1, q1⟩ => ?_)
  exact thn (hr pos pins s1 σ H1 _ I1 q1) fun us s2 ⟨xs, H2, I2, r2, q2⟩ => ⟨x :: xs, H2, I2, .cons r1 r2, q2⟩
noncomputable def tTup (t : TA) : TE := fun σ H Q => t σ H fun xs H1 => xs.length ≤ sizeLine ∧ ∀ p, H1 p = none → Q (.ref p) (upd H1 p (.tup xs))
noncomputable def tLst (t : TA) : TE := fun σ H Q => t σ H fun xs H1 => xs.length ≤ sizeLine ∧ ∀ p, H1 p = none → Q (.ref p) (upd H1 p (.lst xs))
theorem pe_tup {x1} (h : PA X es t) : PE X (.Tuple es x1 pos) (tTup t) := by
  intro pins s σ H Q I hq
  refine wpAny_Tuple_spliced (thn (h pos pins s σ H _ I hq) fun us s1 ⟨xs, H1, I1, r, z, q⟩ => ⟨by rw [← r.length]; exact z, ?_⟩)
  have hf : H1 s1.heap.objs.size = none := I1.hok.fresh (Nat.le_refl _)
  refine ⟨.ref s1.heap.objs.size, upd H1 s1.heap.objs.size (.tup xs), I1.laid (t' := s1.toks) (fun b u e => Heap.get?_push_of_some _ e) (Nat.le_refl _) ?_, rfl, q _ hf⟩
  exact ⟨z, us, r, ⟨_, Heap.get?_push_size _ rfl, rfl, _, rfl⟩⟩
theorem pe_lst (h : PA X es t) : PE X (.List es pos) (tLst t) := by
  intro pins s σ H Q I hq
  refine wpAny_List_spliced (thn (h pos pins s σ H _ I hq) fun us s1 ⟨xs, H1, I1, r, z, q⟩ => ⟨by rw [← r.length]; exact z, ?_⟩)
  have hf : H1 s1.heap.objs.size = none := I1.hok.fresh (Nat.le_refl _)
  refine ⟨.ref s1.heap.objs.size, upd H1 s1.heap.objs.size (.lst xs), I1.laid (t' := s1.toks) (fun b u e => Heap.get?_push_of_some _ e) (Nat.le_refl _) ?_, rfl, q _ hf⟩
  exact ⟨z, us, 0, r, Heap.get?_push_size _ rfl⟩
end
noncomputable abbrev Sp := List V → Hp → VK → XK → Prop
noncomputable abbrev CXT := List Env → Hp → Shared → XK → Value → Shared → Prop
structure Env0 (P : Program) (w : World) (K : PySem.W.Frag) (mg : Str → Option Value) (base : Heap) (A : Around) (outer : List Env) (s : Shared) (H : Hp) : Prop where
  frames : A.frames = some outer
  mod : Mod K mg base
  bs : ∀ b o, base.get? b = some o → s.heap.get? b = some o ∧ H b = none
  bsz : base.objs.size ≤ s.heap.objs.size
  funs : s.heap.FunFrames base outer
  frf : ∀ b ∈ frs outer, H b = none
  hok : HOk P w H s.heap
  bare : AllBare s.gens
noncomputable def CE (outer : List Env) (P : Program) (w : World) (H : Hp) (s : Shared) (Q : VK) (u : Value) (s' : Shared) : Prop :=
  ∃ v H', s'.os = s.os ∧ AllBare s'.gens ∧ Un (frs outer) [] H H' s.heap s'.heap ∧ HOk P w H' s'.heap ∧ RelV v u ∧ Q v H'
noncomputable def CR (CX : CXT) (outer : List Env) (P : Program) (w : World) (H : Hp) (s : Shared) (Q : VK) (E : XK) (r : Result) (s' : Shared) : Prop :=
  match r with
  | .ok (.ret u) => CE outer P w H s Q u s'
  | .ok _ => False
  | .error e => CX outer H s E e s'
structure FnOk (P : Program) (w : World) (K : PySem.W.Frag) (mg : Str → Option Value) (base : Heap) (CX : CXT) (k : Nat) (f : Addr) (fd : FuncData) (ps : List Str) (sp : Sp) : Prop where
  len : ∀ vs H Q E, sp vs H Q E → vs.length = ps.length
  run : ∀ (A : Around) (outer : List Env) (s : Shared) (H : Hp) (args : Args) (us : List Value) (vs : List V) (Q : VK) (E : XK), Room k A → Env0 P w K mg base A outer s H → BindsTo s fd args (ps.zip us) → Vals vs us → sp vs H Q E →
    codeAny (model P w) A (.call (.ref f) args) (CR CX outer P w H s Q E) s
theorem FnOk.mono {P : Program} {w : World} {K : PySem.W.Frag} {mg : Str → Option Value} {base : Heap} {CX : CXT} {j k : Nat} {f : Addr} {fd : FuncData} {ps : List Str} {sp : Sp} (F : FnOk P w K mg base CX j f fd ps sp) (h : j ≤ k) :
    FnOk P w K mg base CX k f fd ps sp := ⟨F.len, fun A outer s H args us vs Q E hr => F.run A outer s H args us vs Q E (hr.mono h)⟩
section
variable {X : Cx} {pins : List (Addr × Obj)} {σ : St} {H : Hp} {s s' : Shared}
theorem Inv.env0 (I : Inv X pins σ H s) : Env0 X.prog X.w X.K X.mg X.base X.A X.stack s H :=
  ⟨I.ok.frames, I.ok.mod, I.bs, Nat.le_trans I.ok.bsz I.sz, I.stack, I.stkFree, I.hok, I.bare⟩
theorem Inv.after {Q : VK} {u : Value} (I : Inv X pins σ H s) (h : CE X.stack X.prog X.w H s Q u s') : EP X pins σ Q u s' := by
  obtain ⟨v, H', os, bare, un, hok, r, q⟩ := h
  obtain ⟨hh, g, d, t, os'⟩ := s'
  obtain rfl : os' = s.os := os
  exact ⟨v, H', I.call (h' := hh) (g' := g) (d' := d) (t' := t) (ch := []) un hok bare (fun b z => absurd z (by simp)), r, q⟩
end
noncomputable def tCall (sp : Sp) (dvs : List V) (E : XK) (t : TA) : TE := fun σ H Q => t σ H fun vs H1 => sp (vs ++ dvs) H1 Q E
noncomputable def Binds (K : PySem.W.Frag) (fd : FuncData) (ps : List Str) (ds : List Value) : Prop :=
  ∀ (s : Shared) (us : List Value), K.In s.heap → (us ++ ds).length = ps.length → BindsTo s fd ⟨us, []⟩ (ps.zip (us ++ ds))
theorem Binds.all {K : PySem.W.Frag} {fd : FuncData} {ps : List Str} (h : ∀ us : List Value, us.length = ps.length → bindArgs fd ⟨us, []⟩ = pure (ps.zip us)) : Binds K fd ps [] := fun s us _ hl => by
  rw [List.append_nil] at hl ⊢
  exact .of_eq (h us hl)
noncomputable def Passes (CX : CXT) (X : Cx) (E : XK) : Prop := ∀ (pins : List (Addr × Obj)) (σ : St) (H : Hp) (s : Shared) (e : Value) (s' : Shared), Inv X pins σ H s → CX X.stack H s E e s' → X.xe e s'
section
variable {X : Cx} {CX : CXT} {k : Nat} {f C : Addr} {fd : FuncData} {ps : List Str} {sp : Sp} {dvs : List V} {ds : List Value} {E : XK} {x m : Str} {p pos apos : Pos} {e o : Expr} {es : List Expr} {ta : TE} {t : TA}
theorem run_fn {pins : List (Addr × Obj)} {σ : St} {H : Hp} {s : Shared} {Q : VK} {us : List Value} {vs : List V} (F : FnOk X.prog X.w X.K X.mg X.base CX k f fd ps sp) (hr : Room k X.A) (hb : Binds X.K fd ps ds) (hd : Vals dvs ds) (hx : Passes CX X E)
    (I : Inv X pins σ H s) (r : Vals vs us) (h : sp (vs ++ dvs) H Q E) : wpAny (model X.prog X.w) X.A (call (.ref f) us) (EP X pins σ Q) X.xe s := by
  have r2 : Vals (vs ++ dvs) (us ++ ds) := r.append hd
  have hl : (us ++ ds).length = ps.length := by rw [← r2.length]; exact F.len _ _ _ _ h
  refine wpAny_call (codeAny_mono (F.run X.A X.stack s H ⟨us, []⟩ (us ++ ds) (vs ++ dvs) Q E hr I.env0 (hb s us I.kIn hl) r2 h) fun r s' hq => ?_)
  cases r with
  | error e => exact hx pins σ H s e s' I hq
  | ok fl =>
    cases fl with
    | ret u => exact I.after hq
    | next => exact False.elim hq
    | brk => exact False.elim hq
    | cont => exact False.elim hq
theorem pe_call (F : FnOk X.prog X.w X.K X.mg X.base CX k f fd ps sp) (hr : Room k X.A) (hg : Gl X x) (hm : X.mg x = some (.ref f)) (hk : PySem.W.keepIn X.K (.ref f) = true) (hb : Binds X.K fd ps ds) (hd : Vals dvs ds) (hx : Passes CX X E)
    (ha : PA X (e :: es) t) (hdb : (x == ("__debug__" : Str)) = false := by decide) (he : starEach (e :: es) X.env = (false, eval e X.env) :: starEach es X.env := by rfl) (hpl : (backTo pos (starEach es X.env)).any (·.1) = false := by rfl) :
    PE X (.Call (.Name x p) (e :: es) [] pos) (tCall sp dvs E t) := by
  intro pins s σ H Q I h
  refine wpAny_Call_Name_kw (ld_glob I hg hm ?_ hdb)
  refine PySem.W.callWith_K (h₀ := X.base) I.ok.mod.kin hk (thn (ha pos pins s σ H _ I h) fun us s1 ⟨vs, H1, I1, r, q⟩ => ⟨I1.kIn, ?_⟩) he hpl
  exact run_fn F hr hb hd hx I1 r q
theorem pe_call0 (F : FnOk X.prog X.w X.K X.mg X.base CX k f fd ps sp) (hr : Room k X.A) (hg : Gl X x) (hm : X.mg x = some (.ref f)) (hk : PySem.W.keepIn X.K (.ref f) = true) (hb : Binds X.K fd ps ds) (hd : Vals dvs ds) (hx : Passes CX X E)
    (hdb : (x == ("__debug__" : Str)) = false := by decide) : PE X (.Call (.Name x p) [] [] pos) (tCall sp dvs E tNil) := by
  intro pins s σ H Q I h
  refine wpAny_Call_Name_kw (ld_glob I hg hm ?_ hdb)
  exact PySem.W.callWith_K0 I.kIn hk (run_fn (us := []) F hr hb hd hx I .nil h)
end
section
variable {X : Cx} {CX : CXT} {k : Nat} {f C : Addr} {fd : FuncData} {ps ks : List Str} {sp : Sp} {E : XK} {x m : Str} {p pos apos kpos : Pos} {e o : Expr} {es : List Expr} {kws : List Keyword} {te ta : TE} {t tk : TA} {nm : Option Str}
variable {g : List Value → List Value → List Value} {gV : List V → List V → List V}
end
structure FnScope (N P : List Str) (sc : Scope) : Prop where
  kind : sc.kind = .function
  co : sc.isCoroutine = false
  gen : sc.isGenerator = false
  nd : N.Nodup
  pre : N.take P.length = P
  par : ∀ x ∈ P, sc.names.lookup x = some .local ∨ sc.names.lookup x = some .cell
  nofree : ∀ y ∈ sc.names, y.2 ≠ .free
theorem bindL_out {kindOf : Str → Option NameKind} {x : Str} : ∀ {binds : List (Str × Value)} {m : Str → Option Value}, (∀ v, (x, v) ∉ binds) → bindL kindOf binds m x = m x
  | [], _, _ => rfl
  | (n, v) :: r, m, h => by
    unfold bindL
    rw [bindL_out fun w hw => h w (List.mem_cons_of_mem _ hw)]
    split
    · have : x ≠ n := by rintro rfl; exact h v List.mem_cons_self
      simp [this]
    · rfl
theorem bindC_out {kindOf : Str → Option NameKind} {x : Str} : ∀ {binds : List (Str × Value)} {m : Str → Option Value}, (∀ v, (x, v) ∉ binds) → bindC kindOf binds m x = m x
  | [], _, _ => rfl
  | (n, v) :: r, m, h => by
    unfold bindC
    rw [bindC_out fun w hw => h w (List.mem_cons_of_mem _ hw)]
    split
    · rfl
    · have : x ≠ n := by rintro rfl; exact h v List.mem_cons_self
      simp [this]
theorem bindL_get {kindOf : Str → Option NameKind} {x : Str} {v : Value} : ∀ {P : List Str} {vs : List Value} {i : Nat} {m : Str → Option Value}, P.Nodup → P[i]? = some x → vs[i]? = some v → kindOf x = some .local →
    bindL kindOf (P.zip vs) m x = some v
  | [], _, _, _, _, h, _, _ => by simp at h
  | _ :: _, [], _, _, _, _, h, _ => by simp at h
  | p :: P, w :: vs, 0, m, nd, h1, h2, hk => by
    simp at h1 h2; subst h1; subst h2
    show bindL kindOf ((p, w) :: P.zip vs) m p = _
    unfold bindL
    rw [bindL_out fun v hv => (List.nodup_cons.mp nd).1 (List.of_mem_zip hv).1, if_pos hk]
    simp
  | p :: P, w :: vs, i + 1, m, nd, h1, h2, hk => by
    show bindL kindOf ((p, w) :: P.zip vs) m x = _
    unfold bindL
    exact bindL_get (i := i) (List.nodup_cons.mp nd).2 (by simpa using h1) (by simpa using h2) hk
theorem bindC_get {kindOf : Str → Option NameKind} {x : Str} {v : Value} : ∀ {P : List Str} {vs : List Value} {i : Nat} {m : Str → Option Value}, P.Nodup → P[i]? = some x → vs[i]? = some v → kindOf x ≠ some .local →
    bindC kindOf (P.zip vs) m x = some v
  | [], _, _, _, _, h, _, _ => by simp at h
  | _ :: _, [], _, _, _, _, h, _ => by simp at h
  | p :: P, w :: vs, 0, m, nd, h1, h2, hk => by
    simp at h1 h2; subst h1; subst h2
    show bindC kindOf ((p, w) :: P.zip vs) m p = _
    unfold bindC
    rw [bindC_out fun v hv => (List.nodup_cons.mp nd).1 (List.of_mem_zip hv).1, if_neg hk]
    simp
  | p :: P, w :: vs, i + 1, m, nd, h1, h2, hk => by
    show bindC kindOf ((p, w) :: P.zip vs) m x = _
    unfold bindC
    exact bindC_get (i := i) (List.nodup_cons.mp nd).2 (by simpa using h1) (by simpa using h2) hk
noncomputable def start (N : List Str) (vs : List V) : St := vs.map some ++ List.replicate (N.length - vs.length) none
noncomputable def cxOf (CX : CXT) (P : Program) (w : World) (K : PySem.W.Frag) (mg : Str → Option Value) (base : Heap) (N : List Str) (qual : Str) (scope : Scope) (f : Addr) (cd : Value) (A : Around) (outer : List Env) (s : Shared) (H : Hp) (E : XK) : Cx where
  prog := P
  w := w
  K := K
  mg := mg
  base := base
  A := A.deeper (envOfC qual scope s.heap.objs.size f cd)
  N := N
  s₀ := s
  H₀ := H
  env := envOfC qual scope s.heap.objs.size f cd
  outer := outer
  stack := envOfC qual scope s.heap.objs.size f cd :: outer
  ex := []
  calm := true
  fn := fun _ => true
  pn := []
  xe := fun e s' => wpAny (model P w) (A.deeper (envOfC qual scope s.heap.objs.size f cd)) (leaving (envOfC qual scope s.heap.objs.size f cd) e) (fun _ s'' => CX outer H s E e s'') (fun e' s'' => CX outer H s E e' s'') s'
theorem cell_has {sc : Scope} {n : Nat} {x : Str} (h : sc.names.lookup x = some .cell) : ∃ c, (cellsFrom n sc.names []).lookup x = some c := by
  have q := PySem.W.cellsFrom_some sc.names n [] (.inl h)
  exact Option.isSome_iff_exists.mp q
theorem inv_start {CX : CXT} {P : Program} {w : World} {K : PySem.W.Frag} {mg : Str → Option Value} {base : Heap} {N ps : List Str} {qual : Str} {scope : Scope} {f : Addr} {cd : Value} {A : Around} {outer : List Env} {s s1 : Shared} {H : Hp} {E : XK} {us : List Value} {vs : List V}
    (S : FnScope N ps scope) (hd : A.handled = none) (e0 : Env0 P w K mg base A outer s H) (hl : vs.length = ps.length) (r : Vals vs us)
    (x : InCallC s s.heap.objs.size (bindL (envOfC qual scope s.heap.objs.size f cd).kindOf (ps.zip us) fun _ => none) (cellsFrom (s.heap.objs.size + 1) scope.names []) (bindC (envOfC qual scope s.heap.objs.size f cd).kindOf (ps.zip us) fun _ => none) s1) :
    Inv (cxOf CX P w K mg base N qual scope f cd A outer s H E) [] (start N vs) H s1 := by
  have hpl : ps.length ≤ N.length := by have := congrArg List.length S.pre; rw [List.length_take] at this; (first | lia | omega)
  obtain ⟨h1, tk, rfl, hk⟩ := x.done
  have noA : ∀ b : Addr, b ∉ (cxOf CX P w K mg base N qual scope f cd A outer s H E).ex := fun b z => absurd (show b ∈ ([] : List Addr) from z) (by simp)
  refine ⟨⟨e0.mod, S.kind, rfl, rfl, Nat.le_refl _, fun y z c h1 h2 => ?_, fun y hy => ?_, fun y c _ h => ?_, fun _ => hd, Around.frames_deeper e0.frames, .inr ⟨rfl, rfl⟩, fun b z => absurd z (noA b), e0.bs, e0.bsz, fun b _ _ => noA b, fun b z => absurd z (noA b), e0.funs, e0.frf⟩,
    rfl, e0.bare, Un.kept hk, ⟨_, x.toInCall.ns, fun i y v h1 h2 h3 => ?_⟩, fun y c h => ⟨_, x.cell y c h⟩, e0.hok.fresh (Nat.le_refl _), fun y c h => ?_, fun p hp => absurd (show p ∈ ([] : List (Addr × Obj)) from hp) (by simp), e0.hok.kept hk, ?_⟩
  · exact name_of_addr x.apart (PySem.mem_of_lookup h1) (PySem.mem_of_lookup h2)
  · have hy : scope.names.lookup y = some .cell ∨ scope.names.lookup y = some .free := hy
    rcases hy with hy | hy
    · exact cell_has hy
    · exact absurd rfl (S.nofree _ (PySem.mem_of_lookup hy))
  · exact Nat.le_of_lt (x.above y c (PySem.mem_of_lookup h))
  · have hi : i < vs.length := by
      unfold start at h2
      by_cases hi : i < vs.length
      · exact hi
      · rw [List.getElem?_append_right (by simpa using hi)] at h2
        rw [List.getElem?_replicate] at h2
        split at h2 <;> cases h2
    have ha : vs[i]? = some v := by
      unfold start at h2
      rw [List.getElem?_append_left (by simpa using hi), List.getElem?_map] at h2
      cases e : vs[i]? with
      | none => rw [e] at h2; cases h2
      | some a => rw [e] at h2; cases h2; rfl
    obtain ⟨u, hu, rv⟩ := r.get ha
    have hp : ps[i]? = some y := by
      rw [← S.pre, List.getElem?_take_of_lt (by (first | lia | omega))]; exact h1
    have ndP : ps.Nodup := by rw [← S.pre]; exact S.nd.sublist (List.take_sublist _ _)
    refine ⟨u, rv, ?_⟩
    rcases S.par y (List.mem_of_getElem? hp) with k | k
    · exact .inl ⟨k, bindL_get ndP hp hu k⟩
    · obtain ⟨c, e⟩ := cell_has (n := s.heap.objs.size + 1) k
      refine .inr ⟨.inl k, c, e, ?_⟩
      have q := x.cell y c e
      rw [bindC_get ndP hp hu (by show scope.names.lookup y ≠ _; rw [k]; decide)] at q
      exact q
  · exact e0.hok.fresh (Nat.le_of_lt (x.above y c (PySem.mem_of_lookup h)))
  · unfold start
    show _ = N.length
    rw [List.length_append, List.length_map, List.length_replicate]
    (first | lia | omega)
theorem fn_of {CX : CXT} {P : Program} {w : World} {K : PySem.W.Frag} {mg : Str → Option Value} {base : Heap} {k : Nat} {f : Addr} {name qual : Str} {params : Arguments} {body : List Stmt} {scope : Scope} {dV kV doc pm cdv ct oc : Value} {an od : Option Addr}
    {osl : Array (Option Value)} {N ps : List Str} {sp : Sp} (lk : K.lookup f = some ⟨oc, od, .func (PySem.W.fnOf name qual params body scope dV kV doc pm an cdv ct), osl⟩) (hcd : PySem.W.codeIn K cdv qual = true) (S : FnScope N ps scope)
    (len : ∀ vs H Q E, sp vs H Q E → vs.length = ps.length)
    (hbody : ∀ (A : Around) (outer : List Env) (s : Shared) (H : Hp) (vs : List V) (Q : VK) (E : XK), Room k (A.deeper (envOfC qual scope s.heap.objs.size f cdv)) → sp vs H Q E →
      ∃ t, PSs (cxOf CX P w K mg base N qual scope f cdv A outer s H E) body t ∧ t { nx := fun _ H' => Q .non H', rt := Q } (start N vs) H) :
    FnOk P w K mg base CX (k + 1) f (PySem.W.fnOf name qual params body scope dV kV doc pm an cdv ct) ps sp := by
  refine ⟨len, fun A outer s H args us vs Q E hr e0 hb r hsp => ?_⟩
  have hl := len _ _ _ _ hsp
  have KX : K.In s.heap := e0.mod.kin.keeps fun b o e => (e0.bs b o e).1
  have lim : s.heap.NoLimit := e0.mod.nolimit.keeps fun b o e => (e0.bs b o e).1
  have hkind : ∀ y ∈ ps.zip us, scope.names.lookup y.1 = some .local ∨ (scope.names.lookup y.1 = some .cell ∧ ((cellsFrom (s.heap.objs.size + 1) scope.names []).lookup y.1).isSome = true) := fun ⟨n, v⟩ hy => by
    rcases S.par n (List.of_mem_zip hy).1 with q | q
    · exact .inl q
    · exact .inr ⟨q, PySem.W.cellsFrom_some _ _ _ (.inl q)⟩
  refine codeAny_call_function hr.depth (KX _ _ lk) rfl S.co S.gen rfl (PySem.W.codeRec_of KX hcd) (hb _ _ _ _ ?_)
  refine wpAny_newFunctionEnv_cells S.kind hkind fun env he s1 x => ?_
  subst he
  refine ⟨lim.keeps x.toInCall.keep, codeAny_func ?_⟩
  obtain ⟨t, ht, hq⟩ := hbody A outer s H vs Q E (hr.deeper _) hsp
  have I : Inv (cxOf CX P w K mg base N qual scope f cdv A outer s H E) [] (start N vs) H s1 := inv_start S hr.hd e0 hl r x
  refine wpAny_mono (ht [] s1 (start N vs) H _ I hq) (fun fl s' hs => ?_) fun e s' hs => hs
  have fin : ∀ {σ' : St} {H' : Hp} {v : V} {u : Value}, Inv (cxOf CX P w K mg base N qual scope f cdv A outer s H E) [] σ' H' s' → RelV v u → Q v H' → CE outer P w H s Q u s' :=
    fun {σ' H' v u} J rv q => ⟨v, H', J.os, J.bare, J.base, J.hok, rv, q⟩
  cases fl with
  | ret u =>
    obtain ⟨v, σ', H', J, rv, q⟩ := hs
    exact fin J rv q
  | next =>
    obtain ⟨σ', H', J, q⟩ := hs
    exact fin (v := V.non) (u := Value.none) J rfl q
  | brk =>
    obtain ⟨_, _, _, q⟩ := hs
    exact False.elim q
  | cont =>
    obtain ⟨_, _, _, q⟩ := hs
    exact False.elim q
end L2
namespace L2
open PySem PySem.Spec PyProof.Rows
section
variable {X : Cx} {x : Str} {p pos : Pos} {e : Expr} {es : List Expr} {t : TA} {id T : String} {r : List V → Hp → VK → Prop}
noncomputable def tCB (r : List V → Hp → VK → Prop) (t : TA) : TE := fun σ H Q => t σ H fun vs H1 => r vs H1 Q
theorem pe_callB (hc : CallR X (.builtin id) r) (hg : Gl X x) (hm : X.mg x = none) (hv : bootBuiltins x = some (.builtin id)) (ha : PA X (e :: es) t) (hn : x ≠ "__name__" := by decide) (hdb : (x == ("__debug__" : Str)) = false := by decide)
    (he : starEach (e :: es) X.env = (false, eval e X.env) :: starEach es X.env := by rfl) (hpl : (backTo pos (starEach es X.env)).any (·.1) = false := by rfl) : PE X (.Call (.Name x p) (e :: es) [] pos) (tCB r t) := by
  intro pins s σ H Q I h
  refine wpAny_Call_Name_kw (ld_blt I hg hm hv ?_ hn hdb)
  exact PyProof.Rows.callWith_builtin1 (thn (ha pos pins s σ H _ I h) fun us s1 ⟨vs, H1, I1, r1, q1⟩ => hc pins s1 σ H1 vs us Q I1 r1 q1) he hpl
theorem pe_callTy (hc : CallR X (.type T) r) (hg : Gl X x) (hm : X.mg x = none) (hv : bootBuiltins x = some (.type T)) (ha : PA X (e :: es) t) (hn : x ≠ "__name__" := by decide) (hdb : (x == ("__debug__" : Str)) = false := by decide)
    (he : starEach (e :: es) X.env = (false, eval e X.env) :: starEach es X.env := by rfl) (hpl : (backTo pos (starEach es X.env)).any (·.1) = false := by rfl) : PE X (.Call (.Name x p) (e :: es) [] pos) (tCB r t) := by
  intro pins s σ H Q I h
  refine wpAny_Call_Name_kw (ld_blt I hg hm hv ?_ hn hdb)
  exact PyProof.Rows.callWith_type1 (thn (ha pos pins s σ H _ I h) fun us s1 ⟨vs, H1, I1, r1, q1⟩ => hc pins s1 σ H1 vs us Q I1 r1 q1) he hpl
end
end L2
namespace HT
open PySem PyProof.Rows
section
open PySem.SeqAt
open PySem.AutoSeq1 (wpAny_loadPart')
open PySem.MeetsSeq PySem.MeetsSeq2 PySem.MeetsSeq3
end
section
variable {prog : Program} {w : World} {A : Around} {E : Value → Shared → Prop} {s : Shared}
theorem cat_tup {t b : Addr} {vs ws : List Value} {Q : Value → Shared → Prop} (ht : IsTup s.heap t vs.toArray) (hb : IsTup s.heap b ws.toArray) (hv : vs ≠ [])
    (h1 : ws = [] → Q (.ref t) s) (h2 : ws ≠ [] → Q (.ref s.heap.objs.size) { s with heap := s.heap.push { cls := .type "tuple", data := .seq (vs ++ ws).toArray } })
    (hsz : vs.length + ws.length ≤ sizeLine) : wpAny (model prog w) A (binaryOp .Add (.ref t) (.ref b)) Q E s := by
  obtain ⟨⟨cls, dd, data, sl⟩, ho, hc, n, hd⟩ := id ht
  obtain ⟨⟨cls2, dd2, data2, sl2⟩, ho2, hc2, n2, hd2⟩ := id hb
  simp only at hc hd hc2 hd2
  subst hc hd hc2 hd2
  have e : vs.toArray ++ ws.toArray = (vs ++ ws).toArray := by simp
  by_cases hw : ws = []
  · exact concat_meets ⟨_, ho, rfl⟩ ⟨_, ho2, rfl⟩ noFill_tuple_add seq_tuple_add PySem.F.slot_tuple_add PySem.F.entry_tuple_add (PySem.F.args_tuple_add_2 _ _)
      (tuple_addW1 t b vs.toArray ws.toArray n n2 dd dd2 sl sl2 (by simpa using hv) (by simp [hw])) ⟨ho, ho2, h1 hw⟩
  · refine concat_meets ⟨_, ho, rfl⟩ ⟨_, ho2, rfl⟩ noFill_tuple_add seq_tuple_add PySem.F.slot_tuple_add PySem.F.entry_tuple_add (PySem.F.args_tuple_add_2 _ _)
      (tuple_addW2 t b vs.toArray ws.toArray n n2 dd dd2 sl sl2 (by simpa using hv) (by simpa using hw) (by rw [List.size_toArray, List.size_toArray]; exact hsz)) ⟨ho, ho2, ?_⟩
    rw [e]
    exact h2 hw
noncomputable def sIx (n d : Nat) : Option Int → Nat
  | none => d
  | some v => if v < 0 then (v + (n : Int)).toNat else min v.toNat n
theorem sIx_none (n d : Nat) : sIx n d none = d := rfl
theorem sIx_nat (n d k : Nat) : sIx n d (some (k : Int)) = min k n := by
  show (if (k : Int) < 0 then ((k : Int) + (n : Int)).toNat else min (k : Int).toNat n) = min k n
  rw [if_neg (by (first | lia | omega)), Int.toNat_natCast]
theorem sIx_le (n d : Nat) (hd : d ≤ n) (o : Option Int) : sIx n d o ≤ n := by
  cases o with
  | none => exact hd
  | some v =>
    show (if v < 0 then (v + (n : Int)).toNat else min v.toNat n) ≤ n
    by_cases hv : v < 0
    · rw [if_pos hv]; (first | lia | omega)
    · rw [if_neg hv]; exact Nat.min_le_right _ _
theorem clip_eq (v : Int) (n d : Nat) : (if v < 0 then max (v + (n : Int)) 0 else min v (n : Int)) = ((sIx n d (some v) : Nat) : Int) := by
  show (if v < 0 then max (v + (n : Int)) 0 else min v (n : Int)) = (((if v < 0 then (v + (n : Int)).toNat else min v.toNat n) : Nat) : Int)
  by_cases hv : v < 0
  · simp only [if_pos hv]; (first | lia | omega)
  · simp only [if_neg hv]; (first | lia | omega)
theorem adjust_gen (lo hi : Option Int) (n : Nat) : Builtin.Slice.sliceAdjust lo hi 1 (n : Int) = (((sIx n 0 lo : Nat) : Int), ((sIx n n hi : Nat) : Int)) := by
  have h1 : ¬ ((1 : Int) < 0) := by (first | lia | omega)
  unfold Builtin.Slice.sliceAdjust
  simp only [h1, if_false]
  refine Prod.ext ?_ ?_
  · cases lo with
    | none => rfl
    | some v => exact clip_eq v n 0
  · cases hi with
    | none => rfl
    | some v => exact clip_eq v n n
theorem places_gen (i j : Nat) : Builtin.Slice.slicePlaces (i : Int) (j : Int) 1 = j - i := by
  unfold Builtin.Slice.slicePlaces
  have h1 : (1 : Int) > 0 := by (first | lia | omega)
  simp only [h1, if_true, Int.ediv_one]
  split <;> (first | lia | omega)
theorem slicePart_ {v : Value} {o : Option Int} {Q : Option Int → Shared → Prop} (p : IsPart v o) (h : Q o s) : wpAny (model prog w) A (Builtin.Slice.slicePartIndex v) Q E s := by
  cases p with
  | none => exact slicePart_none h
  | int i t => exact slicePart_int h
theorem sliceApplied_gen {sl : Addr} {vl vu : Value} {lo hi : Option Int} {n : Nat} {Q : Int × Int × Nat → Shared → Prop} (hs : s.heap.IsSliceOf sl vl vu .none) (pl : IsPart vl lo) (pu : IsPart vu hi)
    (h : Q (((sIx n 0 lo : Nat) : Int), 1, sIx n n hi - sIx n 0 lo) s) : wpAny (model prog w) A (Builtin.Slice.sliceApplied (.ref sl) (pure (n : Int))) Q E s := by
  obtain ⟨os, hos, hcs, hds⟩ := id hs
  unfold Builtin.Slice.sliceApplied Builtin.Slice.sliceFields
  refine wpAny_bind (wpAny_bind (wpAny_field hos hds (x := vl) rfl (wpAny_bind (wpAny_field hos hds (x := vu) rfl (wpAny_bind (wpAny_field hos hds (x := .none) rfl (wpAny_pure ?_)))))))
  refine wpAny_bind (slicePart_none ?_)
  show wpAny _ _ (if ((1 : Int) == 0) = true then _ else _) _ _ s
  rw [if_neg (by decide)]
  refine wpAny_bind (slicePart_ pl (wpAny_bind (slicePart_ pu (wpAny_bind (wpAny_pure ?_)))))
  show wpAny _ _ (match Builtin.Slice.sliceAdjust lo hi 1 (n : Int) with | (lo, hi) => pure (lo, (1 : Int), Builtin.Slice.slicePlaces lo hi 1)) _ _ s
  rw [adjust_gen lo hi n]
  show wpAny _ _ (pure (((sIx n 0 lo : Nat) : Int), (1 : Int), Builtin.Slice.slicePlaces ((sIx n 0 lo : Nat) : Int) ((sIx n n hi : Nat) : Int) 1)) _ _ s
  rw [places_gen]
  exact wpAny_pure h
theorem pick_gen (xs : Array Value) (i k : Nat) : ((List.range k).filterMap fun (m : Nat) => xs[((i : Int) + (m : Int) * 1).toNat]?).toArray = ((xs.toList.drop i).take k).toArray := by
  have e : (fun (m : Nat) => xs[((i : Int) + (m : Int) * 1).toNat]?) = fun m => xs[i + m]? := by
    funext m
    have : ((i : Int) + (m : Int) * 1).toNat = i + m := by (first | lia | omega)
    rw [this]
  rw [e]
  have := pick_run xs i k
  rw [List.filterMap_map] at this
  have e2 : ((fun x => xs[x]?) ∘ fun x => i + x) = fun m => xs[i + m]? := rfl
  rw [e2] at this
  rw [this]
theorem getItem_tuple_cut {t sl : Addr} {items : Array Value} {vl vu : Value} {lo hi : Option Int} {Q : Value → Shared → Prop} (ht : IsTup s.heap t items) (hs : s.heap.IsSliceOf sl vl vu .none) (pl : IsPart vl lo) (pu : IsPart vu hi)
    (hw : ¬ (sIx items.size 0 lo = 0 ∧ sIx items.size items.size hi = items.size))
    (h : Q (.ref s.heap.objs.size) { s with heap := s.heap.push { cls := .type "tuple", data := .seq ((items.toList.drop (sIx items.size 0 lo)).take (sIx items.size items.size hi - sIx items.size 0 lo)).toArray } })
    (hsz : items.size ≤ sizeLine) : wpAny (model prog w) A (getItem (.ref t) (.ref sl)) Q E s := by
  have htake : sizeOk (.seq ((items.toList.drop (sIx items.size 0 lo)).take (sIx items.size items.size hi - sIx items.size 0 lo)).toArray) := by
    show ((items.toList.drop (sIx items.size 0 lo)).take (sIx items.size items.size hi - sIx items.size 0 lo)).toArray.size ≤ sizeLine
    rw [List.size_toArray, List.length_take, List.length_drop, Array.length_toList]
    (first | lia | omega)
  have hj : sIx items.size items.size hi ≤ items.size := sIx_le _ _ (Nat.le_refl _) hi
  obtain ⟨os, hos, hcs, hds⟩ := id hs
  have hTs : s.TypeIs (.ref sl) "slice" := ⟨os, hos, hcs⟩
  unfold getItem
  try with_reducible refine wpAny_holding ?_
  first | refine wpAny_bind (wpAny_pure ?_) | skip
  refine wpAny_bind (wpAny_sequenceKey ht.typeIs (by decide) ?_)
  refine wpAny_bind (wpAny_callSpecial?_slot (name := Str.ofString "__getitem__") ht.typeIs PyProof.Rows.slot_tuple_getitem
    (wpAny_call_entry PyProof.Rows.slot_tuple_getitem ht.typeIs entry_tuple_getitem ?_ (args_tuple_getitem _ _)))
  show wpAny _ _ (Builtin.Tuple.tupleItemsOf (.ref t) >>= _) _ _ s
  refine wpAny_bind (tupleItemsOf_ ht ?_)
  refine wpAny_bind (wpAny_typeOf hTs ?_)
  rw [if_pos (by decide)]
  refine wpAny_bind (sliceApplied_gen hs pl pu ?_)
  have hno : ¬ ((((sIx items.size 0 lo : Nat) : Int) == 0 && (1 : Int) == 1 && (sIx items.size items.size hi - sIx items.size 0 lo) == items.size) = true) := by
    intro q
    rw [Bool.and_eq_true, Bool.and_eq_true] at q
    have q1 : ((sIx items.size 0 lo : Nat) : Int) = 0 := eq_of_beq q.1.1
    have q2 : sIx items.size items.size hi - sIx items.size 0 lo = items.size := eq_of_beq q.2
    exact hw ⟨by (first | lia | omega), by (first | lia | omega)⟩
  show wpAny _ _ (if (((sIx items.size 0 lo : Nat) : Int) == 0 && (1 : Int) == 1 && (sIx items.size items.size hi - sIx items.size 0 lo) == items.size) = true then _ else _) _ _ s
  rw [if_neg hno, pick_gen]
  first
    | exact wpAny_bind (m := Builtin.Tuple.tupleExact _) (wpAny_newObj_type (wpAny_pure ⟨_, rfl, wpAny_pure h⟩) htake)
    | exact wpAny_bind (m := Builtin.Tuple.tupleExact _) (wpAny_newObj_type (wpAny_bind (wpAny_pure (wpAny_pure ⟨_, rfl, wpAny_pure h⟩))) htake)
    | exact wpAny_bind (wpAny_bind (m := Builtin.Tuple.tupleExact _) (wpAny_newObj_type (wpAny_pure (wpAny_pure ⟨_, rfl, wpAny_pure h⟩)) htake))
    | exact wpAny_bind (wpAny_bind (m := Builtin.Tuple.tupleExact _) (wpAny_newObj_type (wpAny_pure ⟨_, rfl, wpAny_pure h⟩) htake))
end
end HT
namespace L2
open PySem PySem.Spec PyProof.Rows
noncomputable abbrev TO := St → Hp → (Option Int → Hp → Prop) → Prop
noncomputable def PO (X : Cx) (e : Option Expr) (t : TO) : Prop :=
  ∀ (pins : List (Addr × Obj)) (s : Shared) (σ : St) (H : Hp) (Q : Option Int → Hp → Prop), Inv X pins σ H s → t σ H Q →
    wpAny (model X.prog X.w) X.A (evalPart e X.env) (fun u s' => ∃ o H', Inv X pins σ H' s' ∧ IsPart u o ∧ Q o H') X.xe s
noncomputable def tNoPart : TO := fun _ H Q => Q none H
noncomputable def tPart (t : TE) : TO := fun σ H Q => t σ H fun x H1 => ∃ i, x = .int i ∧ Q (some i) H1
section
variable {X : Cx} {e : Expr} {te : TE} {lo hi : Option Expr} {tl th : TO} {pos p2 : Pos}
theorem po_none : PO X none tNoPart := by
  intro pins s σ H Q I h
  rw [evalPart_none]
  exact wpAny_pure ⟨none, H, I, .none, h⟩
theorem po_some (h : PE X e te) : PO X (some e) (tPart te) := by
  intro pins s σ H Q I hw
  rw [evalPart_some]
  refine thn (h pins s σ H _ I hw) fun u s1 ⟨x, H1, I1, r1, q1⟩ => ?_
  obtain ⟨i, rfl, q⟩ := q1
  obtain ⟨t, rfl⟩ := r1
  exact ⟨some i, H1, I1, .int i t, q⟩
noncomputable def SlR (X : Cx) (r : V → Option Int → Option Int → Hp → VK → Prop) : Prop :=
  ∀ (pins : List (Addr × Obj)) (s : Shared) (σ : St) (H : Hp) (x : V) (v vl vu : Value) (lo hi : Option Int) (sl : Addr) (Q : VK), Inv X pins σ H s → RelV x v → s.heap.IsSliceOf sl vl vu .none → IsPart vl lo → IsPart vu hi → r x lo hi H Q →
    ∃ T id, typeLookup (.type T) "__getitem__" = pure (some (.builtin id)) ∧ s.TypeIs v T ∧ wpAny (model X.prog X.w) X.A (getItem v (.ref sl)) (EP X pins σ Q) X.xe s
noncomputable def tSl (r : V → Option Int → Option Int → Hp → VK → Prop) (te : TE) (tl th : TO) : TE := fun σ H Q => te σ H fun x H1 => tl σ H1 fun l H2 => th σ H2 fun u H3 => r x l u H3 Q
theorem pe_slice {r : V → Option Int → Option Int → Hp → VK → Prop} (hr : SlR X r) (he : PE X e te) (hl : PO X lo tl) (hu : PO X hi th) : PE X (.Subscript e (.Slice lo hi none p2) pos) (tSl r te tl th) := by
  intro pins s σ H Q I h
  refine Subscript_ (thn (he pins s σ H _ I h) fun v s1 ⟨x, H1, I1, r1, q1⟩ => ?_)
  refine wpAny_Slice (thn (hl pins s1 σ H1 _ I1 q1) fun vl s2 ⟨l, H2, I2, pl, q2⟩ => thn (hu pins s2 σ H2 _ I2 q2) fun vu s3 ⟨u, H3, I3, pu, q3⟩ => ?_)
  rw [evalPart_none]
  refine wpAny_pure ?_
  have I4 : Inv X pins σ H3 { s3 with heap := s3.heap.push { cls := .type "slice", data := .fields #[vl, vu, .none] } } := I3.kept (t' := s3.toks) fun b ob q => Heap.get?_push_of_some _ q
  obtain ⟨T, id, hT, ht, hg⟩ := hr pins { s3 with heap := s3.heap.push { cls := .type "slice", data := .fields #[vl, vu, .none] } } σ H3 x v vl vu l u s3.heap.objs.size Q I4 r1 (Heap.IsSliceOf.new ..) pl pu q3
  show wpAny (model X.prog X.w) X.A (subscriptTail e (.Slice lo hi none p2) v (.ref s3.heap.objs.size)) (EP X pins σ Q) X.xe { s3 with heap := s3.heap.push { cls := .type "slice", data := .fields #[vl, vu, .none] } }
  exact tail_any (ops := [.ref s3.heap.objs.size, v]) ht hT hg (by with_unfolding_all rfl)
noncomputable def cutV (xs : List V) (lo hi : Option Int) : List V := (xs.drop (HT.sIx xs.length 0 lo)).take (HT.sIx xs.length xs.length hi - HT.sIx xs.length 0 lo)
theorem cutV_length (xs : List V) (lo hi : Option Int) : (cutV xs lo hi).length ≤ xs.length := by
  unfold cutV
  rw [List.length_take, List.length_drop]
  (first | lia | omega)
noncomputable def rSlT (K : PySem.W.Frag) : V → Option Int → Option Int → Hp → VK → Prop := fun x lo hi H Q => ∃ a xs, x = .ref a ∧ SqT K H a xs ∧
  ¬ (HT.sIx xs.length 0 lo = 0 ∧ HT.sIx xs.length xs.length hi = xs.length) ∧ ∀ p, H p = none → Q (.ref p) (upd H p (.tup (cutV xs lo hi)))
theorem sl_tup : SlR X (rSlT X.K) := by
  intro pins s σ H x v vl vu lo hi sl Q I rx hs pl pu h
  obtain ⟨a, xs, rfl, hx, hw, q⟩ := h
  cases rx
  obtain ⟨its, r, ht, hz⟩ := I.tuple hx
  have hlen : its.toArray.size = xs.length := by rw [List.size_toArray]; exact r.length.symm
  refine ⟨"tuple", _, PyProof.Rows.slot_tuple_getitem.lookup, ht.typeIs, ?_⟩
  refine HT.getItem_tuple_cut ht hs pl pu (by rw [hlen]; exact hw) ?_ (by rw [hlen]; exact hz)
  rw [hlen]
  refine ⟨.ref s.heap.objs.size, _, I.laid (t' := s.toks) (o := .tup (cutV xs lo hi)) (fun b ob q => Heap.get?_push_of_some _ q) (Nat.le_refl _) ?_, rfl, q _ (I.hok.fresh (Nat.le_refl _))⟩
  exact ⟨Nat.le_trans (cutV_length xs lo hi) hz, _, (r.drop (HT.sIx xs.length 0 lo)).take (HT.sIx xs.length xs.length hi - HT.sIx xs.length 0 lo), IsTup.new _ _⟩
noncomputable def rCatT (K : PySem.W.Frag) : R2 := fun x y H Q => ∃ a b xs ys, x = .ref a ∧ y = .ref b ∧ SqT K H a xs ∧ SqT K H b ys ∧ xs ≠ [] ∧ xs.length + ys.length ≤ sizeLine ∧
  (ys = [] → Q (.ref a) H) ∧ (ys ≠ [] → ∀ p, H p = none → Q (.ref p) (upd H p (.tup (xs ++ ys))))
theorem Vals.nil_iff {xs : List V} {us : List Value} (r : Vals xs us) : us = [] ↔ xs = [] := by
  cases r with
  | nil => simp
  | cons _ _ => simp
theorem op_catT : OpR X (binaryOp .Add) (rCatT X.K) := by
  intro pins s σ H x y v u Q I rx ry h
  obtain ⟨a, b, xs, ys, rfl, rfl, ha, hb, hx, hz, q1, q2⟩ := h
  cases rx
  cases ry
  obtain ⟨its, r1, p1, _⟩ := I.tuple ha
  obtain ⟨its2, r2, p2, _⟩ := I.tuple hb
  refine HT.cat_tup p1 p2 (fun z => hx (r1.nil_iff.mp z)) (fun z => ⟨.ref a, H, I, rfl, q1 (r2.nil_iff.mp z)⟩) (fun z => ?_) (by rw [← r1.length, ← r2.length]; exact hz)
  refine ⟨.ref s.heap.objs.size, _, I.laid (t' := s.toks) (o := .tup (xs ++ ys)) (fun b ob q => Heap.get?_push_of_some _ q) (Nat.le_refl _) ?_, rfl, q2 (fun w => z (r2.nil_iff.mpr w)) _ (I.hok.fresh (Nat.le_refl _))⟩
  exact ⟨by rw [List.length_append]; exact hz, _, r1.append r2, IsTup.new _ _⟩
end
end L2
namespace L2
open PySem PySem.Spec PyProof.Rows
noncomputable def ixN (n : Nat) (i : Int) : Option Nat := if 0 ≤ i then (if i < n then some i.toNat else none) else if -(n : Int) ≤ i then some (i + n).toNat else none
noncomputable def atI {α : Type} (xs : List α) (i : Int) : Option α := (ixN xs.length i).bind fun j => xs[j]?
theorem ixN_seq {n : Nat} {i : Int} {j : Nat} (h : ixN n i = some j) : seqIndex? i n = some j ∧ j < n ∧ -(n : Int) ≤ i ∧ i < n := by
  unfold ixN at h
  by_cases h0 : 0 ≤ i
  · rw [if_pos h0] at h
    by_cases h1 : i < n
    · rw [if_pos h1] at h
      have e : i.toNat = j := Option.some.inj h
      exact ⟨by rw [seqIndex_of h0 h1, e], by (first | lia | omega), by (first | lia | omega), h1⟩
    · rw [if_neg h1] at h; cases h
  · rw [if_neg h0] at h
    by_cases h1 : -(n : Int) ≤ i
    · rw [if_pos h1] at h
      have e : (i + n).toNat = j := Option.some.inj h
      exact ⟨by rw [seqIndex_neg (by (first | lia | omega)) h1, e], by (first | lia | omega), h1, by (first | lia | omega)⟩
    · rw [if_neg h1] at h; cases h
theorem atI_get {α : Type} {xs : List α} {i : Int} {v : α} (h : atI xs i = some v) : ∃ j, seqIndex? i xs.length = some j ∧ xs[j]? = some v ∧ j < xs.length ∧ -(xs.length : Int) ≤ i ∧ i < xs.length := by
  unfold atI at h
  cases e : ixN xs.length i with
  | none => rw [e] at h; cases h
  | some j =>
    rw [e] at h
    obtain ⟨h1, h2, h3, h4⟩ := ixN_seq e
    exact ⟨j, h1, h, h2, h3, h4⟩
theorem atI_nat {α : Type} {xs : List α} {j : Nat} {v : α} (h : xs[j]? = some v) : atI xs (j : Int) = some v := by
  have hj : j < xs.length := (List.getElem?_eq_some_iff.mp h).1
  have e : ixN xs.length (j : Int) = some j := by
    unfold ixN
    rw [if_pos (by (first | lia | omega)), if_pos (by (first | lia | omega))]; simp
  unfold atI; rw [e]; exact h
noncomputable def PlainIx (b : Expr) : Prop := ∀ o i, subscripted b false o i = operate [o, i] (getItem o i)
noncomputable def IxR (X : Cx) (r : R2) : Prop :=
  ∀ (value slice : Expr) (pins : List (Addr × Obj)) (s : Shared) (σ : St) (H : Hp) (x y : V) (v u : Value) (Q : VK), Inv X pins σ H s → RelV x v → RelV y u → r x y H Q →
    subscripted slice false v u = operate [v, u] (getItem v u) → wpAny (model X.prog X.w) X.A (subscriptTail value slice v u) (EP X pins σ Q) X.xe s
noncomputable def MtR (X : Cx) (id : String) (r : V → List V → Hp → VK → Prop) : Prop :=
  ∀ (pins : List (Addr × Obj)) (s : Shared) (σ : St) (H : Hp) (x : V) (xs : List V) (v : Value) (us : List Value) (Q : VK), Inv X pins σ H s → RelV x v → Vals xs us → r x xs H Q →
    wpAny (model X.prog X.w) X.A (call (.builtin id) (v :: us)) (EP X pins σ Q) X.xe s
section
variable {X : Cx} {a b : Expr} {ta tb : TE} {pos : Pos}
theorem pe_ix {r : R2} (hr : IxR X r) (ha : PE X a ta) (hb : PE X b tb) (hs : PlainIx b) : PE X (.Subscript a b pos) (tOp r ta tb) := by
  intro pins s σ H Q I h
  exact Subscript_ (binT ha hb I h fun v u s2 x y H2 I2 rx ry q => hr a b pins s2 σ H2 x y v u Q I2 rx ry q (hs _ _))
noncomputable def rIxL (K : PySem.W.Frag) : R2 := fun x y H Q => ∃ p xs i v, x = .ref p ∧ y = .int i ∧ SqL K H p xs ∧ atI xs i = some v ∧ Q v H
noncomputable def rIxT (K : PySem.W.Frag) : R2 := fun x y H Q => ∃ p xs i v, x = .ref p ∧ y = .int i ∧ SqT K H p xs ∧ atI xs i = some v ∧ Q v H
theorem ix_list : IxR X (rIxL X.K) := by
  intro value slice pins s σ H x y v u Q I rx ry h hs
  obtain ⟨p, xs, i, z, rfl, rfl, hq, he, q⟩ := h
  cases rx
  obtain ⟨t, rfl⟩ := ry
  obtain ⟨its, r, pl, hz⟩ := I.list hq
  obtain ⟨j, h1, h2, h3, h4, h5⟩ := atI_get he
  obtain ⟨w, ew, rw'⟩ := r.get h2
  have hl := r.length
  have hn := line63
  have fin : EP X pins σ Q w s := ⟨z, H, I, rw', q⟩
  by_cases h0 : 0 ≤ i
  · have hj : i.toNat = j := by
      rw [seqIndex_of h0 h5] at h1
      exact Option.some.inj h1
    exact item_listR pl.isList h0 (by (first | lia | omega)) (by rw [hj]; simpa using ew) fin hs
  · have hj : (i + (its.toArray.size : Int)).toNat = j := by
      rw [seqIndex_neg (by (first | lia | omega)) h4] at h1
      rw [List.size_toArray, ← hl]
      exact Option.some.inj h1
    exact subscriptTail_builtinR (x := w) pl.isList.typeIs slot_list_getitem.lookup
      (wpAny_getItem_list_neg (Q := fun r s' => r = w ∧ EP X pins σ Q r s') pl.isList (by (first | lia | omega)) (by rw [List.size_toArray] <;> (first | lia | omega)) (by (first | lia | omega)) (by rw [hj]; simpa using ew) ⟨rfl, fin⟩) hs
theorem ix_tup : IxR X (rIxT X.K) := by
  intro value slice pins s σ H x y v u Q I rx ry h hs
  obtain ⟨p, xs, i, z, rfl, rfl, hq, he, q⟩ := h
  cases rx
  obtain ⟨t, rfl⟩ := ry
  obtain ⟨its, r, pl, hz⟩ := I.tuple hq
  obtain ⟨j, h1, h2, h3, h4, h5⟩ := atI_get he
  obtain ⟨w, ew, rw'⟩ := r.get h2
  have hl := r.length
  have hn := line63
  have fin : EP X pins σ Q w s := ⟨z, H, I, rw', q⟩
  exact subscriptTail_builtinR (x := w) pl.typeIs slot_tuple_getitem.lookup
    (getItem_tuple (j := j) (Q := fun r s' => r = w ∧ EP X pins σ Q r s') pl (by (first | lia | omega)) (by (first | lia | omega)) (by rw [List.size_toArray, ← hl]; exact h1) (by simpa using ew) ⟨rfl, fin⟩) hs
theorem mapSeq_set (its : List Value) (n j : Nat) (u : Value) : Obj.mapSeq (·.setIfInBounds j u) { cls := .type "list", data := .seq its.toArray n } = { cls := .type "list", data := .seq (its.set j u).toArray n } := by
  simp [Obj.mapSeq]
theorem Inv.lst {pins : List (Addr × Obj)} {σ : St} {H : Hp} {s : Shared} {p : Addr} {xs : List V} (I : Inv X pins σ H s) (h : H p = some (.lst xs)) :
    ∃ (its : List Value) (n : Nat), Vals xs its ∧ s.heap.get? p = some { cls := .type "list", data := .seq its.toArray n } ∧ xs.length ≤ sizeLine := by
  obtain ⟨z, its, n, r, e⟩ := I.hok p _ h
  exact ⟨its, n, r, e, z⟩
theorem Inv.lstUpd {pins : List (Addr × Obj)} {σ : St} {H : Hp} {s : Shared} {p : Addr} {xs ys : List V} {its its' : List Value} {n n' : Nat} {f : Obj → Obj} (I : Inv X pins σ H s) (h : H p = some (.lst xs))
    (ho : s.heap.get? p = some { cls := .type "list", data := .seq its.toArray n }) (hf : f { cls := .type "list", data := .seq its.toArray n } = { cls := .type "list", data := .seq its'.toArray n' }) (r : Vals ys its') (hz : ys.length ≤ sizeLine) (t : Nat) :
    Inv X pins σ (upd H p (.lst ys)) { s with heap := s.heap.update p f, toks := t } := by
  have e : (s.heap.update p f).get? p = some { cls := .type "list", data := .seq its'.toArray n' } := by
    rw [Heap.get?_update_self f ho (by rw [hf] <;> rfl), hf]
  refine I.write (x := p) (e := p) (by rw [h]; trivial) (.inl rfl) (fun b u hb q => (Heap.get?_update_other _ _ (Ne.symm hb)).trans q) ⟨_, e⟩ ?_
  exact ⟨hz, its', n', r, e⟩
noncomputable def rSetL : V → V → V → Hp → (Hp → Prop) → Prop := fun o i v H Q => ∃ p xs k j, o = .ref p ∧ i = .int k ∧ H p = some (.lst xs) ∧ ixN xs.length k = some j ∧ Q (upd H p (.lst (xs.set j v)))
theorem set_list : PSet X rSetL := by
  intro pins s σ H o i v ov iv u Q I ro ri rv h
  obtain ⟨p, xs, k, j, rfl, rfl, hp, hj, q⟩ := h
  cases ro
  obtain ⟨t, rfl⟩ := ri
  obtain ⟨its, n, r, ho, hz⟩ := I.lst hp
  obtain ⟨h1, h2, h3, h4⟩ := ixN_seq hj
  have hl := r.length
  have hn := line63
  have I' : Inv X pins σ (upd H p (.lst (xs.set j v))) { s with heap := s.heap.update p (Obj.mapSeq (·.setIfInBounds j u)) } :=
    I.lstUpd hp ho (mapSeq_set its n j u) (r.set rv j) (by rw [List.length_set]; exact hz) s.toks
  by_cases h0 : 0 ≤ k
  · have hk : k.toNat = j := by
      rw [seqIndex_of h0 h4] at h1
      exact Option.some.inj h1
    exact PySem.W.ki_setAt ho h0 (by (first | lia | omega)) (by rw [List.size_toArray, ← hl]; exact h4) (by rw [hk]; exact ⟨_, I', q⟩)
  · have hk : (k + (its.toArray.size : Int)).toNat = j := by
      rw [seqIndex_neg (by (first | lia | omega)) h3] at h1
      rw [List.size_toArray, ← hl]
      exact Option.some.inj h1
    exact PySem.W.ki_setBack ho (by (first | lia | omega)) (by rw [List.size_toArray, ← hl]; exact h3) (by (first | lia | omega)) (by rw [hk]; exact ⟨_, I', q⟩)
theorem slice_bounds (lo hi : Option Int) (n : Nat) : (sliceBounds lo hi none n).1 = ((HT.sIx n 0 lo : Nat) : Int) ∧ (sliceBounds lo hi none n).2.1 = ((HT.sIx n n hi : Nat) : Int) ∧ (sliceBounds lo hi none n).2.2 = 1 := by
  refine ⟨?_, ?_, rfl⟩
  · cases lo with
    | none => simp [sliceBounds, HT.sIx]
    | some i =>
      simp only [sliceBounds, HT.sIx, Option.getD_none, show (1 : Int) > 0 by decide, if_true]
      by_cases h : i < 0
      · simp only [h, if_true] <;> (first | lia | omega)
      · simp only [h, if_false] <;> (first | lia | omega)
  · cases hi with
    | none => simp [sliceBounds, HT.sIx]
    | some i =>
      simp only [sliceBounds, HT.sIx, Option.getD_none, show (1 : Int) > 0 by decide, if_true]
      by_cases h : i < 0
      · simp only [h, if_true] <;> (first | lia | omega)
      · simp only [h, if_false] <;> (first | lia | omega)
theorem slicePick_cut (its : List Value) (lo hi : Option Int) : slicePick its.toArray lo hi none = ((its.drop (HT.sIx its.length 0 lo)).take (HT.sIx its.length its.length hi - HT.sIx its.length 0 lo)).toArray := by
  obtain ⟨h1, h2, h3⟩ := slice_bounds lo hi its.toArray.size
  unfold slicePick
  rw [h1, h2, h3]
  simp only [sliceRange_one, pick_run, List.size_toArray] <;> rfl
noncomputable def rSlL (K : PySem.W.Frag) : V → Option Int → Option Int → Hp → VK → Prop := fun x lo hi H Q => ∃ a xs, x = .ref a ∧ SqL K H a xs ∧ ∀ p, H p = none → Q (.ref p) (upd H p (.lst (cutV xs lo hi)))
theorem sl_list : SlR X (rSlL X.K) := by
  intro pins s σ H x v vl vu lo hi sl Q I rx hs pl pu h
  obtain ⟨a, xs, rfl, hx, q⟩ := h
  cases rx
  obtain ⟨its, r, ht, hz⟩ := I.list hx
  have hlen := r.length
  refine ⟨"list", _, slot_list_getitem.lookup, ht.isList.typeIs, ?_⟩
  refine wpAny_getItem_list_slice ht.isList hs pl pu .none (by simp) ?_ (by rw [List.size_toArray] <;> (first | lia | omega))
  rw [slicePick_cut, ← hlen]
  refine ⟨.ref s.heap.objs.size, _, I.laid (t' := s.toks) (o := .lst (cutV xs lo hi)) (fun b ob q => Heap.get?_push_of_some _ q) (Nat.le_refl _) ?_, rfl, q _ (I.hok.fresh (Nat.le_refl _))⟩
  exact ⟨Nat.le_trans (cutV_length xs lo hi) hz, _, 0, (r.drop (HT.sIx xs.length 0 lo)).take (HT.sIx xs.length xs.length hi - HT.sIx xs.length 0 lo), Heap.get?_push_size _ rfl⟩
noncomputable def flatV : V → Bool
  | .non => true
  | .bl _ => true
  | .int _ => true
  | .str _ => true
  | _ => false
theorem call_len_seq : CallR X (.builtin "len") (fun xs H Q => ∃ p ys, xs = [.ref p] ∧ (SqL X.K H p ys ∨ SqT X.K H p ys) ∧ Q (.int ys.length) H) := by
  intro pins s σ H xs us Q I r h
  obtain ⟨p, ys, rfl, hq, q⟩ := h
  obtain ⟨u, rfl, rx⟩ := vals1 r
  cases rx
  have hn := line63
  rcases hq with hq | hq
  · obtain ⟨its, r', pl, hz⟩ := I.list hq
    have hlen := r'.length
    exact Calls.call_len_list pl.isList (by simp only [List.size_toArray] <;> (first | lia | omega)) ⟨.int ys.length, H, I.tok _, ⟨s.toks + 1, by rw [List.size_toArray, hlen]⟩, q⟩
  · obtain ⟨its, r', pl, hz⟩ := I.tuple hq
    have hlen := r'.length
    exact len_tuple pl (by simp only [List.size_toArray] <;> (first | lia | omega)) ⟨.int ys.length, H, I.tok _, ⟨s.toks + 1, by rw [List.size_toArray, hlen]⟩, q⟩
theorem call_list_of : CallR X (.type "list") (fun xs H Q => ∃ p ys, xs = [.ref p] ∧ (SqL X.K H p ys ∨ SqT X.K H p ys) ∧ ∀ l, H l = none → Q (.ref l) (upd H l (.lst ys))) := by
  intro pins s σ H xs us Q I r h
  obtain ⟨p, ys, rfl, hq, q⟩ := h
  obtain ⟨u, rfl, rx⟩ := vals1 r
  cases rx
  have fin : ∀ (its : List Value), Vals ys its → ys.length ≤ sizeLine → ∀ (h' : Heap) (c' : Nat), (∀ b o', s.heap.get? b = some o' → h'.get? b = some o') →
      h'.get? s.heap.objs.size = some { cls := .type "list", dict := none, data := .seq its.toArray c', slots := #[] } → EP X pins σ Q (.ref s.heap.objs.size) { s with heap := h' } := fun its r' hz h' c' kp e =>
    ⟨.ref s.heap.objs.size, _, I.laid (t' := s.toks) kp (Nat.le_refl _) (show ObjOk X.prog X.w _ h' _ (.lst ys) from ⟨hz, its, c', r', e⟩), rfl, q _ (I.hok.fresh (Nat.le_refl _))⟩
  rcases hq with hq | hq
  · obtain ⟨its, r', pl, hz⟩ := I.list hq
    have hlen := r'.length
    obtain ⟨o, ho, hc, n, hd⟩ := pl.isList
    exact call_list_seq p (.inl rfl) ho hc hd (fun h' c' kp e => fin its r' hz h' c' kp e) (by simp only [List.size_toArray] <;> (first | lia | omega))
  · obtain ⟨its, r', pl, hz⟩ := I.tuple hq
    have hlen := r'.length
    obtain ⟨o, ho, hc, n, hd⟩ := pl
    exact call_list_seq p (.inr rfl) ho hc hd (fun h' c' kp e => fin its r' hz h' c' kp e) (by simp only [List.size_toArray] <;> (first | lia | omega))
theorem call_tuple_of : CallR X (.type "tuple") (fun xs H Q => ∃ p ys, xs = [.ref p] ∧ ((SqL X.K H p ys ∧ ∀ l, H l = none → Q (.ref l) (upd H l (.tup ys))) ∨ (SqT X.K H p ys ∧ Q (.ref p) H))) := by
  intro pins s σ H xs us Q I r h
  obtain ⟨p, ys, rfl, h⟩ := h
  obtain ⟨u, rfl, rx⟩ := vals1 r
  cases rx
  rcases h with ⟨hq, q⟩ | ⟨hq, q⟩
  · obtain ⟨its, r', pl, hz⟩ := I.list hq
    have hlen := r'.length
    refine call_tuple_list pl.isList (fun h' kp => ?_) (by simp only [List.size_toArray] <;> (first | lia | omega))
    have I1 : Inv X pins σ H { s with heap := h' } := I.kept (t' := s.toks) kp
    have I2 : Inv X pins σ (upd H h'.objs.size (.tup ys)) { s with heap := h'.push { cls := .type "tuple", data := .seq its.toArray } } :=
      I1.laid (t' := s.toks) (fun b o e => Heap.get?_push_of_some _ e) (Nat.le_refl _) (show ObjOk X.prog X.w _ _ _ (.tup ys) from ⟨hz, its, r', IsTup.new _ _⟩)
    exact ⟨.ref h'.objs.size, _, I2, rfl, q _ (I1.hok.fresh (Nat.le_refl _))⟩
  · obtain ⟨its, r', pl, hz⟩ := I.tuple hq
    exact call_tuple_same pl ⟨.ref p, H, I, rfl, q⟩
noncomputable def tyV (K : PySem.W.Frag) (T : String) (x : V) (H : Hp) : Prop := match x with
  | .str _ => T = "str"
  | .int _ => T = "int"
  | .ref p => (T = "list" ∧ ∃ xs, SqL K H p xs) ∨ (T = "tuple" ∧ ∃ o, K.lookup p = some o ∧ o.cls = .type "tuple" ∧ o.dict = none) ∨
      (T = "dict" ∧ ((∃ kvs, H p = some (.dK kvs)) ∨ ∃ kvs, H p = some (.dT kvs))) ∨ (T = "set" ∧ ∃ S n, H p = some (.set S n))
  | _ => False
theorem tyV_is {pins : List (Addr × Obj)} {σ : St} {H : Hp} {s : Shared} {T : String} {x : V} {v : Value} (I : Inv X pins σ H s) (r : RelV x v) (ty : tyV X.K T x H) :
    s.TypeIs v T ∧ ∀ a, v = .ref a → ∃ ob, s.heap.get? a = some ob ∧ ob.dict = none := by
  cases x with
  | str z =>
    obtain ⟨t, rfl⟩ := r
    cases (show T = "str" from ty)
    exact ⟨typeIs_str s z t, fun _ e => nomatch e⟩
  | int i =>
    obtain ⟨t, rfl⟩ := r
    cases (show T = "int" from ty)
    exact ⟨typeIs_int s i t, fun _ e => nomatch e⟩
  | ref p =>
    cases r
    rcases ty with ⟨rfl, xs, hq⟩ | ⟨rfl, o, hk, hc, hd⟩ | ⟨rfl, hk⟩ | ⟨rfl, S, n, hk⟩
    · obtain ⟨its, _, pl, _⟩ := I.list hq
      refine ⟨pl.isList.typeIs, fun a e => ?_⟩
      cases e
      obtain ⟨o, n, e, c, hd, _⟩ := pl
      exact ⟨o, e, hd⟩
    · refine ⟨⟨o, I.kIn p o hk, hc⟩, fun a e => ?_⟩
      cases e
      exact ⟨o, I.kIn _ o hk, hd⟩
    · have z : ∃ o, s.heap.get? p = some o ∧ o.ExactDict := by
        rcases hk with ⟨kvs, hk⟩ | ⟨kvs, hk⟩
        · obtain ⟨_, _, _, _, o, _, _, e, ex, _⟩ := I.hok p _ hk
          exact ⟨o, e, ex⟩
        · obtain ⟨_, _, _, _, o, _, _, e, ex, _⟩ := I.hok p _ hk
          exact ⟨o, e, ex⟩
      obtain ⟨o, e, ex⟩ := z
      refine ⟨⟨o, e, ex.1⟩, fun a e2 => ?_⟩
      cases e2
      exact ⟨o, e, ex.2.1⟩
    · obtain ⟨o, _, _, _, e, ex, _⟩ := I.hok p _ hk
      refine ⟨⟨o, e, ex.1⟩, fun a e2 => ?_⟩
      cases e2
      exact ⟨o, e, ex.2.1⟩
  | _ => exact False.elim ty
noncomputable def tBM0 (K : PySem.W.Frag) (T : String) (r : V → List V → Hp → VK → Prop) (to : TE) : TE := fun σ H Q => to σ H fun x H1 => tyV K T x H1 ∧ r x [] H1 Q
noncomputable def tBM (K : PySem.W.Frag) (T : String) (r : V → List V → Hp → VK → Prop) (to : TE) (t : TA) : TE := fun σ H Q => to σ H fun x H1 => tyV K T x H1 ∧ t σ H1 fun xs H2 => r x xs H2 Q
variable {o e : Expr} {es : List Expr} {to : TE} {t : TA} {name : Str} {apos cpos : Pos} {T id : String} {r : V → List V → Hp → VK → Prop}
theorem pe_bm0 (pa : PlainAttrs T) (slot : Slot T name id) (hty : typeOf (.builtin id) = pure (.type "method_descriptor")) (hm : MtR X id r) (ho : PE X o to)
    (hbase : attributeBase o name X.env (eval o X.env) = eval o X.env := by rfl) (hline : (apos.endLine == cpos.line) = true := by rfl) : PE X (.Call (.Attribute o name apos) [] [] cpos) (tBM0 X.K T r to) := by
  intro pins s σ H Q I h
  refine wpAny_Call_method0_late hbase hline (thn (ho pins s σ H _ I h) fun v s1 ⟨x, H1, I1, r1, ty, q1⟩ => ?_)
  obtain ⟨h1, h2⟩ := tyV_is I1 r1 ty
  exact ⟨T, id, pa, slot, hty, h1, h2, Calls.callWith_builtin rfl (PySem.evalArgs_none (hm pins s1 σ H1 x [] v [] Q I1 r1 .nil q1))⟩
theorem pe_bm (pa : PlainAttrs T) (slot : Slot T name id) (hty : typeOf (.builtin id) = pure (.type "method_descriptor")) (hm : MtR X id r) (ho : PE X o to) (ha : PA X (e :: es) t)
    (hbase : attributeBase o name X.env (eval o X.env) = eval o X.env := by rfl)
    (hfew : ((backTo cpos (starEach (e :: es) X.env)).all (fun x => !x.1) && (backToKw cpos (keywordEach [] X.env)).all (fun x => x.1.isSome)
      && decide ((e :: es).length + ([] : List Keyword).length + (if ([] : List Keyword).isEmpty then 0 else 1) < 30)) = true := by rfl)
    (hline : (apos.endLine == cpos.line) = true := by rfl) (hs : starEach (e :: es) X.env = (false, eval e X.env) :: starEach es X.env := by rfl) (hplain : (backTo cpos (starEach es X.env)).any (·.1) = false := by rfl) :
    PE X (.Call (.Attribute o name apos) (e :: es) [] cpos) (tBM X.K T r to t) := by
  intro pins s σ H Q I h
  refine wpAny_Call_method_late hbase hfew hline rfl (thn (ho pins s σ H _ I h) fun v s1 ⟨x, H1, I1, r1, ty, q1⟩ => ?_)
  obtain ⟨h1, h2⟩ := tyV_is I1 r1 ty
  refine ⟨T, id, pa, slot, hty, h1, h2, ?_⟩
  have hA := ha cpos pins s1 σ H1 _ I1 q1
  rw [hs] at hA ⊢
  refine Calls.callWith_builtin (by show (false || (backTo cpos (starEach es X.env)).any (·.1)) = false; rw [hplain] <;> rfl) (Calls.evalArgs_plain ?_)
  exact thn hA fun us s2 ⟨vs, H2, I2, r2, q2⟩ => hm pins s2 σ H2 x vs v us Q I2 r1 r2 q2
end
end L2
namespace L2
open PySem PySem.Spec PyProof.Rows
noncomputable def MtM (X : Cx) (id : String) (r : V → List V → Hp → VK → Prop) : Prop :=
  ∀ (pins : List (Addr × Obj)) (s : Shared) (σ : St) (H : Hp) (x : V) (xs : List V) (v : Value) (us : List Value) (Q : VK), Inv X pins σ H s → RelV x v → Vals xs us → r x xs H Q →
    wpAny (model X.prog X.w) X.A (call (.builtin id) (v :: us)) (EP X pins σ Q) X.xe s
theorem Vals.one : ∀ {x : V} {us : List Value}, Vals [x] us → ∃ u, us = [u] ∧ RelV x u
  | _, _, .cons r .nil => ⟨_, rfl, r⟩
theorem Vals.zero : ∀ {us : List Value}, Vals [] us → us = []
  | _, .nil => rfl
theorem Vals.dropLast {xs : List V} {us : List Value} (h : Vals xs us) : Vals xs.dropLast us.dropLast := by
  induction h with
  | nil => exact .nil
  | cons r t ih =>
    cases t with
    | nil => exact .nil
    | cons q t' => exact .cons r ih
theorem Vals.rep {xs : List V} {us : List Value} (h : Vals xs us) : ∀ k : Nat, Vals (List.replicate k xs).flatten (List.replicate k us).flatten
  | 0 => .nil
  | k + 1 => by
    rw [List.replicate_succ, List.replicate_succ, List.flatten_cons, List.flatten_cons]
    exact Vals.append h (Vals.rep h k)
theorem erase_last {α : Type} (l : List α) : l.eraseIdx (l.length - 1) = l.dropLast := by
  induction l with
  | nil => rfl
  | cons a r ih =>
    cases r with
    | nil => rfl
    | cons b r =>
      have e : (a :: b :: r).length - 1 = ((b :: r).length - 1) + 1 := by
        have h1 : (a :: b :: r).length = r.length + 2 := rfl
        have h2 : (b :: r).length = r.length + 1 := rfl
        (first | lia | omega)
      rw [e, List.eraseIdx_cons_succ, ih]
      all_goals rfl
theorem foldl_rep (its : List Value) : ∀ (k : Nat) (acc : List Value),
    List.foldl (fun x1 x2 => x1 ++ x2) acc.toArray (List.replicate k its.toArray) = (acc ++ (List.replicate k its).flatten).toArray
  | 0, acc => by simp
  | k + 1, acc => by
    have e : acc.toArray ++ its.toArray = (acc ++ its).toArray := by simp
    have e2 : (acc ++ its) ++ (List.replicate k its).flatten = acc ++ (List.replicate (k + 1) its).flatten := by
      rw [List.replicate_succ, List.flatten_cons, List.append_assoc]
    rw [← e2, ← foldl_rep its k (acc ++ its), ← e, List.replicate_succ, List.foldl_cons]
section
variable {X : Cx} {pins : List (Addr × Obj)} {σ : St} {H : Hp} {s : Shared} {l b : Addr} {xs ys zs : List V}
theorem Inv.lset {its its' : List Value} {n : Nat} {f : Array Value → Array Value} {t' : Nat} (I : Inv X pins σ H s) (hH : H l = some (.lst xs))
    (e : s.heap.get? l = some { cls := .type "list", data := .seq its.toArray n }) (hf : f its.toArray = its'.toArray) (hv : Vals ys its') (hz : ys.length ≤ sizeLine) :
    Inv X pins σ (upd H l (.lst ys)) { s with heap := s.heap.update l (Obj.mapSeq f), toks := t' } := by
  have q := PySem.IsL.update e f
  rw [hf] at q
  refine I.write (x := l) (e := l) (by rw [hH]; exact trivial) (.inl rfl) (fun b' u hb hu => (Heap.get?_update_other s.heap (Obj.mapSeq f) (Ne.symm hb)).trans hu) ⟨_, q⟩ ?_
  exact ⟨hz, its', _, hv, q⟩
theorem Inv.lnew {its : List Value} {t' : Nat} (I : Inv X pins σ H s) (hv : Vals ys its) (hz : ys.length ≤ sizeLine) :
    Inv X pins σ (upd H s.heap.objs.size (.lst ys)) { s with heap := s.heap.push { cls := .type "list", data := .seq its.toArray }, toks := t' } :=
  I.laid (fun _ _ q => Heap.get?_push_of_some _ q) (Nat.le_refl _) ⟨hz, its, 0, hv, Heap.get?_push_size _ rfl⟩
theorem Inv.fresh (I : Inv X pins σ H s) : H s.heap.objs.size = none := I.hok.fresh (Nat.le_refl _)
theorem Inv.lstM (I : Inv X pins σ H s) (hH : H l = some (.lst xs)) : xs.length ≤ sizeLine ∧ ∃ (its : List Value) (n : Nat), Vals xs its ∧ xs.length = its.length ∧ s.heap.get? l = some { cls := .type "list", data := .seq its.toArray n } := by
  obtain ⟨z, its, n, r, e⟩ := I.hok l _ hH
  exact ⟨z, its, n, r, r.length, e⟩
theorem notLongL {n : Nat} (h : n ≤ sizeLine) : Builtin.List.listTooLong n = false := by
  unfold Builtin.List.listTooLong
  exact decide_eq_false (by (first | lia | omega))
end
section
variable {X : Cx}
noncomputable def rAppend : V → List V → Hp → VK → Prop := fun x vs H Q => ∃ l xs y, x = .ref l ∧ vs = [y] ∧ H l = some (.lst xs) ∧ xs.length < sizeLine ∧ Q .non (upd H l (.lst (xs ++ [y])))
theorem mt_append : MtM X "list.append" rAppend := by
  intro pins s σ H x vs v us Q I rx rv h
  obtain ⟨l, xs, y, rfl, rfl, hH, hz, q⟩ := h
  cases rx
  obtain ⟨u, rfl, ru⟩ := rv.one
  obtain ⟨z, its, n, r, hl, e⟩ := I.lstM hH
  refine call_meets F.slot_list_append ⟨_, e, rfl⟩ F.entry_list_append (F.args_list_append_2 _ _) (PySem.list_append l its.toArray n u (by rw [List.size_toArray]; (first | lia | omega))) ⟨e, ?_⟩
  refine ⟨.non, _, I.lset (its' := its ++ [u]) hH e (by simp) (r.append (.cons ru .nil)) ?_, rfl, q⟩
  rw [List.length_append, List.length_singleton]
  (first | lia | omega)
noncomputable def rPop : V → List V → Hp → VK → Prop := fun x vs H Q => ∃ l xs y, x = .ref l ∧ vs = [] ∧ H l = some (.lst xs) ∧ xs[xs.length - 1]? = some y ∧ Q y (upd H l (.lst xs.dropLast))
theorem mt_pop : MtM X "list.pop" rPop := by
  intro pins s σ H x vs v us Q I rx rv h
  obtain ⟨l, xs, y, rfl, rfl, hH, hy, q⟩ := h
  cases rx
  have hus := rv.zero
  subst hus
  obtain ⟨z, its, n, r, hl, e⟩ := I.lstM hH
  obtain ⟨u, hu, ru⟩ := r.get hy
  have hy' : its.toArray[its.toArray.size - 1]? = some u := by
    show its.toArray[its.length - 1]? = some u
    rw [← Array.getElem?_toList, ← hl]
    exact hu
  refine call_meets F.slot_list_pop ⟨_, e, rfl⟩ F.entry_list_pop (F.args_list_pop_1 _) (MeetsSeq.list_pop_last l its.toArray n u hy' (by rw [List.size_toArray]; (first | lia | omega))) ⟨e, ?_⟩
  refine ⟨y, _, I.lset (its' := its.dropLast) hH e ?_ r.dropLast ?_, ru, q⟩
  · show its.toArray.eraseIdxIfInBounds (its.toArray.size - 1) = its.dropLast.toArray
    rw [List.size_toArray, List.eraseIdxIfInBounds_toArray, erase_last]
  · rw [List.length_dropLast]
    (first | lia | omega)
noncomputable def rClear : V → List V → Hp → VK → Prop := fun x vs H Q => ∃ l xs, x = .ref l ∧ vs = [] ∧ H l = some (.lst xs) ∧ Q .non (upd H l (.lst []))
theorem mt_clear : MtM X "list.clear" rClear := by
  intro pins s σ H x vs v us Q I rx rv h
  obtain ⟨l, xs, rfl, rfl, hH, q⟩ := h
  cases rx
  have hus := rv.zero
  subst hus
  obtain ⟨z, its, n, r, hl, e⟩ := I.lstM hH
  refine call_meets F.slot_list_clear ⟨_, e, rfl⟩ F.entry_list_clear (F.args_list_clear_1 _) (AutoSeq1.list_clear_list_0 l its.toArray n (by rw [List.size_toArray]; (first | lia | omega))) ⟨e, ?_⟩
  exact ⟨.non, _, I.lset (its' := []) (ys := []) hH e rfl .nil (Nat.zero_le _), rfl, q⟩
noncomputable def rCat : R2 := fun x y H Q => ∃ l b xs zs, x = .ref l ∧ y = .ref b ∧ H l = some (.lst xs) ∧ H b = some (.lst zs) ∧ xs.length + zs.length ≤ sizeLine ∧ ∀ p, H p = none → Q (.ref p) (upd H p (.lst (xs ++ zs)))
theorem op_cat : OpR X (binaryOp .Add) rCat := by
  intro pins s σ H x y v u Q I rx ry h
  obtain ⟨l, b, xs, zs, rfl, rfl, hH, hB, hz, q⟩ := h
  cases rx
  cases ry
  obtain ⟨z, its, n, r, hl, e⟩ := I.lstM hH
  obtain ⟨z2, its2, n2, r2, hl2, e2⟩ := I.lstM hB
  refine PySem.P.add_list e e2 ?_ (by rw [List.size_toArray, List.size_toArray]; (first | lia | omega))
  have ea : its.toArray ++ its2.toArray = (its ++ its2).toArray := by simp
  rw [ea]
  exact ⟨.ref _, _, I.lnew (t' := s.toks) (r.append r2) (by rw [List.length_append]; (first | lia | omega)), rfl, q _ I.fresh⟩
noncomputable def rRep : R2 := fun x y H Q => ∃ l k xs, x = .ref l ∧ y = .int k ∧ H l = some (.lst xs) ∧ -(2 ^ 63) ≤ k ∧ k < 2 ^ 63 ∧ xs.length * k.toNat ≤ sizeLine ∧
  ∀ p, H p = none → Q (.ref p) (upd H p (.lst (List.replicate k.toNat xs).flatten))
theorem len_rep {α : Type} (xs : List α) (k : Nat) : (List.replicate k xs).flatten.length = k * xs.length := by
  induction k with
  | zero => simp
  | succ k ih => rw [List.replicate_succ, List.flatten_cons, List.length_append, ih, Nat.succ_mul, Nat.add_comm]
theorem op_rep : OpR X (binaryOp .Mult) rRep := by
  intro pins s σ H x y v u Q I rx ry h
  obtain ⟨l, k, xs, rfl, rfl, hH, h1, h2, hz, q⟩ := h
  cases rx
  obtain ⟨t, rfl⟩ := ry
  obtain ⟨z, its, n, r, hl, e⟩ := I.lstM hH
  have hlen : its.toArray.size * k.toNat ≤ sizeLine := by rw [List.size_toArray, ← hl]; exact hz
  have hcap : ¬ its.toArray.size * k.toNat > (2 ^ 63 - 1) / 8 := by
    have : (sizeLine : Nat) ≤ (2 ^ 63 - 1) / 8 := by decide
    (first | lia | omega)
  have hfit : ¬ (!Builtin.List.listFitsIndex k) = true := by
    rw [fitsIndex_both h1 h2]
    exact Bool.false_ne_true
  have hlong : ¬ Builtin.List.listTooLong (its.toArray.size * k.toNat) = true := by
    rw [notLongL hlen]
    exact Bool.false_ne_true
  have hnew : List.foldl (fun x1 x2 => x1 ++ x2) #[] (List.replicate (if its.toArray.isEmpty = true then 0 else k.toNat) its.toArray) = (List.replicate k.toNat its).flatten.toArray := by
    have f0 : ∀ m : Nat, List.foldl (fun x1 x2 => x1 ++ x2) #[] (List.replicate m its.toArray) = (List.replicate m its).flatten.toArray := fun m => by
      have := foldl_rep its m []
      rw [List.nil_append] at this
      exact this
    rw [f0]
    cases its with
    | nil => simp
    | cons a r' => rw [if_neg (by simp)]
  refine wpAny_binaryOp_repeat_ref (T := "list") (U := "int") (by decide) ⟨_, e, rfl⟩ (fun s' => typeIs_int s' k t) noFill_list_mul F.fills_int_mul F.slot_int_rmul repeat_list F.slot_int_index.lookup
    (call_meets F.slot_int_rmul (typeIs_int s k t) F.entry_int_rmul (F.args_int_rmul_2 _ _) (int___rmul___int_list k t l its.toArray n)
      ⟨e, rfl, ⟨_, e, rfl⟩, call_meets F.slot_list_mul ⟨_, e, rfl⟩ F.entry_list_mul (F.args_list_mul_2 _ _) (AutoListH.list___mul___list_int_3 l its.toArray n k t hfit hcap hlong) ⟨e, ?_⟩⟩)
  rw [hnew]
  exact ⟨.ref _, _, I.lnew (t' := s.toks) (r.rep k.toNat) (by rw [len_rep, Nat.mul_comm]; exact hz), rfl, q _ I.fresh⟩
end
section
variable {prog : Program} {w : World} {A : Around} {E : Value → Shared → Prop} {s : Shared}
end
section
variable {X : Cx}
end
end L2
namespace Att
open PySem PySem.W PySem.Calls PyProof.Rows
theorem ints_of_wellAll {P : Params} {h : Heap} : ∀ (ns : List Int) (vs : List Value), WellAll P h vs (ns.map WData.int) → IntsAre vs ns := by
  intro ns
  induction ns with
  | nil =>
    intro vs w
    rw [List.map_nil] at w
    cases w
    exact .nil
  | cons n ns ih =>
    intro vs w
    rw [List.map_cons] at w
    cases w with
    | cons a b =>
      cases a
      exact .cons _ _ (ih _ b)
theorem script_of {l : OpenLaw} {n : Nat} (hn : l.most = some n) {P : Params} {h : Heap} {args : List WData} {vals : List Value}
    (hpre : l.row.toRowW.claim.pre args = true) (hwl : WellAll P h vals args) :
    ∃ a vs ns, vals = [Value.ref a] ∧ args = [WData.list (ns.map WData.int)] ∧ h.get? a = some { cls := .type "list", data := .seq vs.toArray } ∧ IntsAre vs ns ∧ ns.length ≤ n := by
  have hsh : WShape.hasAll [] args [.list .int] = true := (pre_splitW hpre).1
  have hc : l.pre.holds [] { args := args } = true := (pre_splitW hpre).2
  obtain ⟨d, r, rfl, h1, h2⟩ := hasAllW_cons hsh
  obtain rfl := hasAllW_nil h2
  obtain ⟨xs, rfl, h3⟩ := hasW_list h1
  obtain ⟨ns, rfl⟩ := items_int h3
  have hlen : ns.length ≤ n := by
    unfold OpenLaw.pre at hc
    have h4 : (WTm.not (.lt (.lit (.int (n : Int))) (.len (.arg 0)))).holds [] { args := [.list (ns.map .int)] } = true := by
      have h4 := (holds_andW hc).1
      rw [hn] at h4
      exact h4
    have h5 := condW_of h4 (w_not (w_lt w_lit (w_len_list (w_arg rfl))))
    rw [List.length_map] at h5
    refine Nat.le_of_not_lt fun q => ?_
    have q' : (n : Int) < ((ns.length : Nat) : Int) := by (first | lia | omega)
    first
      | (rw [decide_eq_true q'] at h5; exact absurd h5 (by decide))
      | (simp at h5; (first | lia | omega))
  cases hwl with
  | cons w1 w2 =>
    cases w2
    cases w1 with
    | list ho hall => exact ⟨_, _, ns, rfl, rfl, ho, ints_of_wellAll ns _ hall, hlen⟩
theorem post_true (l : OpenLaw) (args : List WData) : l.row.toRowW.claim.post args (.bool true) args = true :=
  postW_of (r := l.row.toRowW) (X := (true == true))
    (show WShape.has [] (.bool true) .bool = true by first | rfl | decide | simp [WShape.has, WShape.arms, WShape.armsAll])
    (show (WTm.eq .res (.lit (.bool true))).value [] { args := args, res := some (.bool true), after := args } = some (.bool (true == true)) from w_eq_bool (w_res rfl) w_lit) rfl
theorem attach_call {l : OpenLaw} {n : Nat} {q : Program} {loose : List Str} {XP : (Str → Option Value) → Heap → Prop} {YP : World → Heap → Prop} {d : DefRec}
    (hn : l.most = some n) (hdf : d.params.defaults = [])
    (call : ∀ (w : World) (s₀ s₁ : Shared) (mg mb : Str → Option Value) (fa : Addr) (o : Obj) (pm cd doc : Value) (a : Addr) (vs : List Value) (ns : List Int),
      Ground q loose [] XP w s₀ mg mb s₁.heap → YP w s₁.heap →
      s₁.heap.get? fa = some o → o.data = .func (docDef d.name d.params d.body d.scope pm cd doc) → s₁.heap.CodeRec cd d.name → mg d.name = some (.ref fa) →
      s₁.heap.get? a = some { cls := .type "list", data := .seq vs.toArray } → IntsAre vs ns → ns.length ≤ n → s₁.gens = #[] →
      codeAny (model l.prog w) callerA (.call (.ref fa) ⟨[.ref a], []⟩) (fun r s' => r = .ok (.ret (.bool true)) ∧ OldK s₁.heap s'.heap ∧ s'.os = s₁.os ∧ AllBare s'.gens) s₁) :
    WalkO q loose XP YP l.row.toRowW d [] (fun f vs => PySem.call f vs) := by
  intro w s₀ s₁ mg mb G Y fa o pm cd doc dV kV ho hd hcd hD hmg hg args vals as hpre hlay hrd hwl hlo
  obtain rfl : dV = .none := Dflts.none hD hdf
  obtain rfl : kV = .none := Dflts.noKw hD
  obtain ⟨a, vs, ns, rfl, rfl, hobj, hints, hlen⟩ := script_of hn hpre hwl
  refine enter_call (codeAny_mono (call w s₀ s₁ mg mb fa o pm cd doc a vs ns G Y ho (fd_plain hd) hcd hmg hobj hints hlen hg) fun r s' hq => ?_)
  obtain ⟨rfl, h2, h3, h4⟩ := hq
  exact ⟨.inl ⟨.bool true, .bool true, [], rfl, fun _ => rfl, .bool true, post_true l _, fun _ => ⟨List.Pairwise.nil, fun _ hm => (nomatch hm)⟩⟩, h2, h3, h4⟩
section
variable {prog : Program} {w : World} {A : Around} {E : Value → Shared → Prop} {s : Shared} {K : Frag}
end
end Att
namespace L2
open PySem PySem.Spec PyProof.Rows
theorem vals_ints : ∀ {vs : List Value} {ns : List Int}, IntsAre vs ns → Vals (ns.map V.int) vs
  | _, _, .nil => .nil
  | _, _, .cons n t h => .cons ⟨t, rfl⟩ (vals_ints h)
noncomputable def Only (H : Hp) : Prop := ∀ b, H b = none ∨ ∃ o xs, H b = some (.frz o (.lst xs))
theorem law_call {P : Program} {w : World} {K : PySem.W.Frag} {mg mb : Str → Option Value} {CX : CXT} {k : Nat} {fa a : Addr} {fd : FuncData} {x : Str} {sp : Sp} {s₁ : Shared} {vs : List Value} {ns : List Int}
    (KX : K.In s₁.heap) (hns : s₁.heap.Ns mainGlobals mg) (hb : s₁.heap.Ns builtinsNs mb) (hbb : ∀ x : Str, x ≠ "__name__" → mb x = bootBuiltins x) (hlim : s₁.heap.NoLimit) (hg : s₁.gens = #[])
    (ha : s₁.heap.get? a = some { cls := .type "list", data := .seq vs.toArray }) (hi : IntsAre vs ns) (hl : ns.length ≤ sizeLine) (hr : Room k callerA)
    (F : ∀ base : Heap, K.In base → base.Ns mainGlobals mg → FnOk P w K mg base CX k fa fd [x] sp) (hbind : ∀ (s : Shared) (u : Value), BindsTo s fd ⟨[u], []⟩ [(x, u)])
    (hsp : ∀ H : Hp, Only H → SqL K H a (ns.map V.int) → sp [.ref a] H (fun v _ => v = .bl true) fun _ _ _ => False)
    (hCX : ∀ H e s', CX [] H s₁ (fun _ _ _ => False) e s' → False) :
    codeAny (model P w) callerA (.call (.ref fa) ⟨[.ref a], []⟩) (fun r s' => r = .ok (.ret (.bool true)) ∧ OldK s₁.heap s'.heap ∧ s'.os = s₁.os ∧ AllBare s'.gens) s₁ := by
  have rv := vals_ints hi
  have lenV := hi.length
  have core : ∀ H : Hp, Only H → SqL K H a (ns.map V.int) → HOk P w H s₁.heap → (∀ b, H b ≠ none → b = a) → (H a ≠ none → K.lookup a = none) →
      codeAny (model P w) callerA (.call (.ref fa) ⟨[.ref a], []⟩) (fun r s' => r = .ok (.ret (.bool true)) ∧ OldK s₁.heap s'.heap ∧ s'.os = s₁.os ∧ AllBare s'.gens) s₁ := by
    intro H hO hS hok hA hK
    have base_of : ∀ {b : Addr} {o : Obj}, s₁.heap.get? b = some o → H b = none → (hidT s₁.heap H).get? b = some o := fun e n => hidT_get e n
    have noA : ∀ {b : Addr} {o : Obj} {es : Array DictEntry} {ep : Nat}, s₁.heap.get? b = some o → o.data = .dict es ep → H b = none := fun {b o es ep} e d => by
      cases q : H b with
      | none => rfl
      | some u =>
        have e' : b = a := hA b (by rw [q]; simp)
        subst e'
        rw [ha] at e; cases e
        have d' : Data.seq vs.toArray _ = Data.dict es ep := d
        cases d'
    have nsK : ∀ {b : Addr} {m : Str → Option Value}, s₁.heap.Ns b m → (hidT s₁.heap H).Ns b m := fun {b m} ⟨o, es, ep, e, d, r⟩ => ⟨o, es, ep, base_of e (noA e d), d, r⟩
    have hKb : K.In (hidT s₁.heap H) := fun b o e => base_of (KX b o e) (by
      cases q : H b with
      | none => rfl
      | some u =>
        have e' : b = a := hA b (by rw [q]; simp)
        subst e'
        rw [hK (by rw [q]; simp)] at e; cases e)
    have hM : Mod K mg (hidT s₁.heap H) := ⟨hKb, nsK hns, ⟨mb, nsK hb, hbb⟩, let ⟨mc, h1, h2⟩ := hlim; ⟨mc, nsK h1, h2⟩⟩
    have e0 : Env0 P w K mg (hidT s₁.heap H) callerA [] s₁ H := ⟨rfl, hM, fun b o e => of_hidT e, Nat.le_of_eq (hidT_size _ _), trivial, fun b hb => absurd (show b ∈ ([] : List Addr) from hb) (by simp), hok, .of_eq hg⟩
    refine codeAny_mono ((F _ hKb (nsK hns)).run callerA [] s₁ H ⟨[.ref a], []⟩ [.ref a] [.ref a] _ _ hr e0 (hbind s₁ (.ref a)) (.cons rfl .nil) (hsp H hO hS)) fun r s' h => ?_
    cases r with
    | error e => exact (hCX H e s' h).elim
    | ok fl =>
      cases fl with
      | next => exact False.elim h
      | brk => exact False.elim h
      | cont => exact False.elim h
      | ret u =>
        obtain ⟨v, H', os, bare, un, hok', r', q⟩ := h
        have q' : v = .bl true := q
        subst q'
        obtain rfl : u = Value.bool true := r'
        refine ⟨rfl, OldK.of_keep fun b o e => ?_, os, bare⟩
        cases q : H b with
        | none => exact un.keep b o e q (by intro z; exact absurd (show b ∈ ([] : List Addr) from z) (by simp)) (by simp)
        | some u =>
          rcases hO b with z | ⟨ob, xs, z⟩
          · rw [q] at z; cases z
          · have z2 := un.frzs b ob _ z
            obtain ⟨e1, _⟩ := hok b _ z
            obtain ⟨e2, _⟩ := hok' b _ z2
            rw [e] at e1; cases e1
            exact e2
  cases hk : K.lookup a with
  | some o =>
    have e := KX a o hk
    rw [ha] at e
    cases e
    refine core (fun _ => none) (fun _ => .inl rfl) (.inr ⟨_, vs.toArray, _, hk, rfl, rfl, rfl, by rw [List.size_toArray, lenV]; exact hl, by simpa using rv⟩) (fun b u z => by have z' : (none : Option HO) = some u := z; cases z') (fun b z => absurd rfl z) fun z => absurd rfl z
  | none =>
    refine core (fun b => if b = a then some (.frz { cls := .type "list", data := .seq vs.toArray } (.lst (ns.map V.int))) else none) (fun b => ?_) (.inl (.inr ⟨{ cls := .type "list", data := .seq vs.toArray }, if_pos rfl⟩)) (fun b u z => ?_) (fun b z => ?_) fun _ => hk
    · by_cases hb : b = a
      · exact .inr ⟨_, _, if_pos hb⟩
      · exact .inl (if_neg hb)
    · by_cases hb : b = a
      · have z' := (if_pos hb).symm.trans z
        cases z'
        subst hb
        exact ⟨ha, by rw [List.length_map]; exact hl, vs, _, rv, ha⟩
      · have z' := (if_neg hb).symm.trans z
        cases z'
    · by_cases hb : b = a
      · exact hb
      · exact absurd (if_neg hb) z
end L2
namespace L2
open PySem PySem.Spec PyProof.Rows
theorem walk_of {l : PySem.W.OpenLaw} {n k : Nat} {q : Program} {loose : List Str} {XP : (Str → Option Value) → Heap → Prop} {YP : World → Heap → Prop} {d : DefRec} {K : Params → PySem.W.Frag} {CX : World → CXT} {sp : World → Sp} {x : Str}
    (hn : l.most = some n) (hn2 : n ≤ sizeLine) (hdf : d.params.defaults = []) (hr : Room k callerA)
    (hY : ∀ (w : World) (h : Heap), YP w h → (K w.params).In h)
    (F : ∀ (w : World) (mg : Str → Option Value) (fa : Addr) (h : Heap), (K w.params).In h → h.Ns mainGlobals mg → mg d.name = some (.ref fa) →
      ∃ fd : FuncData, (∀ (s : Shared) (u : Value), BindsTo s fd ⟨[u], []⟩ [(x, u)]) ∧
        ∀ base : Heap, (K w.params).In base → base.Ns mainGlobals mg → FnOk l.prog w (K w.params) mg base (CX w) k fa fd [x] (sp w))
    (hsp : ∀ (w : World) (H : Hp) (a : Addr) (ns : List Int), ns.length ≤ n → Only H → SqL (K w.params) H a (ns.map V.int) → sp w [.ref a] H (fun v _ => v = .bl true) fun _ _ _ => False)
    (hCX : ∀ (w : World) (H : Hp) (s : Shared) (e : Value) (s' : Shared), CX w [] H s (fun _ _ _ => False) e s' → False) :
    PySem.W.WalkO q loose XP YP l.row.toRowW d [] (fun f vs => PySem.call f vs) := by
  refine Att.attach_call hn hdf fun w s₀ s₁ mg mb fa o pm cd doc a vs ns G Y ho hd hcd hmg hobj hints hlen hg => ?_
  have KX := hY w _ Y
  obtain ⟨fd, hb, hF⟩ := F w mg fa _ KX G.T.g hmg
  exact law_call KX G.T.g G.T.b G.T.builtins G.T.nolimit hg hobj hints (Nat.le_trans hlen hn2) hr hF hb (fun H hO hS => hsp w H a ns hlen hO hS) fun H e s' => hCX w H s₁ e s'
end L2
namespace L2
open PySem PySem.Spec PyProof.Rows
noncomputable def defArgs (s : Stmt) : Arguments := match s with
  | .FunctionDef _ a _ _ _ _ _ _ _ _ => a
  | _ => { posonlyargs := [], args := [], vararg := none, kwonlyargs := [], kw_defaults := [], kwarg := none, defaults := [] }
noncomputable def defBody (s : Stmt) : List Stmt := match s with
  | .FunctionDef _ _ b _ _ _ _ _ _ _ => b
  | _ => []
noncomputable def defScope (s : Stmt) : Scope := match s with
  | .FunctionDef _ _ _ _ _ _ sc _ _ _ => sc
  | _ => { kind := .function, names := [], isGenerator := false, isCoroutine := false }
noncomputable abbrev CX0 : CXT := fun _ _ _ _ _ _ => False
noncomputable abbrev E0 : XK := fun _ _ _ => False
theorem pass0 {X : Cx} : Passes CX0 X E0 := fun _ _ _ _ _ _ _ h => h.elim
structure Fun (K : PySem.W.Frag) (x qual : Str) (st : Stmt) (f : Addr) (fd : FuncData) : Prop where
  ex : ∃ (oc : Value) (od : Option Addr) (kV doc pm : Value) (an : Option Addr) (cdv ct : Value) (osl : Array (Option Value)),
    fd = PySem.W.fnOf x qual (defArgs st) (defBody st) (defScope st) .none kV doc pm an cdv ct ∧ K.lookup f = some ⟨oc, od, .func fd, osl⟩ ∧ PySem.W.codeIn K cdv qual = true
  kp : PySem.W.keepIn K (.ref f) = true
section
variable {P : Program} {w : World} {K : PySem.W.Frag} {mg : Str → Option Value} {base : Heap}
theorem Fun.ok {x qual : Str} {st : Stmt} {f : Addr} {fd : FuncData} {N ps : List Str} {k : Nat} {sp : Sp} (F : Fun K x qual st f fd) (S : FnScope N ps (defScope st)) (len : ∀ vs H Q E, sp vs H Q E → vs.length = ps.length)
    (hbody : ∀ (cdv : Value) (A : Around) (outer : List Env) (s : Shared) (H : Hp) (vs : List V) (Q : VK) (E : XK), Room k (A.deeper (envOfC qual (defScope st) s.heap.objs.size f cdv)) → sp vs H Q E →
      ∃ t, PSs (cxOf CX0 P w K mg base N qual (defScope st) f cdv A outer s H E).nox (defBody st) t ∧ t { nx := fun _ H' => Q .non H', rt := Q } (start N vs) H) : FnOk P w K mg base CX0 (k + 1) f fd ps sp := by
  obtain ⟨oc, od, kV, doc, pm, an, cdv, ct, osl, rfl, lk, hcd⟩ := F.ex
  refine fn_of lk hcd S len fun A outer s H vs Q E hr hsp => ?_
  obtain ⟨t, h, q⟩ := hbody cdv A outer s H vs Q E hr hsp
  exact ⟨t, h.nox, q⟩
theorem Fun.binds {x qual : Str} {st : Stmt} {f : Addr} {fd : FuncData} {ps : List Str} (F : Fun K x qual st f fd)
    (h : ∀ (kV doc pm : Value) (an : Option Addr) (cdv ct : Value) (us : List Value), us.length = ps.length → bindArgs (PySem.W.fnOf x qual (defArgs st) (defBody st) (defScope st) .none kV doc pm an cdv ct) ⟨us, []⟩ = pure (ps.zip us)) : Binds K fd ps [] := by
  obtain ⟨oc, od, kV, doc, pm, an, cdv, ct, osl, rfl, lk, hcd⟩ := F.ex
  exact .all (h kV doc pm an cdv ct)
theorem fun_mk {x qual : Str} {st : Stmt} {f : Addr} {oc : Value} {od an : Option Addr} {osl : Array (Option Value)} {kV doc pm cdv ct : Value} (l : K.lookup f = some ⟨oc, od, .func (PySem.W.fnOf x qual (defArgs st) (defBody st) (defScope st) .none kV doc pm an cdv ct), osl⟩)
    (c : PySem.W.codeIn K cdv qual = true) (k : PySem.W.keepIn K (.ref f) = true) : Fun K x qual st f (PySem.W.fnOf x qual (defArgs st) (defBody st) (defScope st) .none kV doc pm an cdv ct) := ⟨⟨oc, od, kV, doc, pm, an, cdv, ct, osl, rfl, l, c⟩, k⟩
end
theorem hu_of {A : Around} {k : Nat} (hr : Room k A) : A.units + 1 < cLine := Nat.lt_of_le_of_lt (Nat.add_le_add_left (by decide : 1 ≤ 64) _) hr.units
theorem small1000 {n : Nat} (h : n ≤ 1000) : n < sizeLine := Nat.lt_of_le_of_lt h (by decide)
section
variable {X : Cx}
theorem pv (i : Nat) {x : Str} {pos : Pos} (hN : X.N[i]? = some x := by rfl) (hv : Vis X.env.scope x := by first | exact Or.inl rfl | exact Or.inr (Or.inl rfl) | exact Or.inr (Or.inr rfl)) (hd : (x == ("__debug__" : Str)) = false := by decide)
    (hcd : (x == ("__classdict__" : Str)) = false := by decide) : PE X (.Name x pos) (tVar i) := pe_var hN hv hd hcd
end
theorem iteF {A B : Prop} (h : B) : if false = true then A else B := by
  rw [if_neg Bool.false_ne_true]
  exact h
theorem iteT {A B : Prop} (h : A) : if true = true then A else B := by
  rw [if_pos rfl]
  exact h
theorem ite2 {c A B : Prop} [Decidable c] (h1 : c → A) (h2 : ¬ c → B) : if c then A else B := by
  by_cases h : c
  · rw [if_pos h]
    exact h1 h
  · rw [if_neg h]
    exact h2 h
noncomputable def Same (H H' : Hp) : Prop := ∀ b o, H b = some o → H' b = some o
theorem Same.refl (H : Hp) : Same H H := fun _ _ h => h
theorem Same.trans {H H1 H2 : Hp} (a : Same H H1) (b : Same H1 H2) : Same H H2 := fun c o h => b c o (a c o h)
theorem Same.seq {K : PySem.W.Frag} {H H' : Hp} {a : Addr} {xs : List V} (e : Same H H') (h : SqL K H a xs) : SqL K H' a xs := by
  rcases h with (h | ⟨o, h⟩) | h
  · exact .inl (.inl (e _ _ h))
  · exact .inl (.inr ⟨o, e _ _ h⟩)
  · exact .inr h
end L2
namespace Pm
noncomputable def fig (h b : List Int) (d : Nat) : Int := if d < h.length then h.getD d 0 else b.getD ((d - h.length) % b.length) 0
noncomputable def Again (b : List Int) (n : Nat) : Prop := ∀ i, i + n < b.length → b.getD (i + n) 0 = b.getD i 0
structure T (h b : List Int) : Prop where
  pos : 0 < b.length
  least : ∀ n, 0 < n → n < b.length → b.length % n = 0 → ¬ Again b n
  last : 0 < h.length → h.getD (h.length - 1) 0 ≠ b.getD (b.length - 1) 0
noncomputable def Alike (h b h' b' : List Int) : Prop := ∀ d, fig h b d = fig h' b' d
theorem Alike.symm {h b h' b' : List Int} (a : Alike h b h' b') : Alike h' b' h b := fun d => (a d).symm
theorem Alike.trans {h b h' b' h2 b2 : List Int} (a : Alike h b h' b') (c : Alike h' b' h2 b2) : Alike h b h2 b2 := fun d => (a d).trans (c d)
theorem fig_head {h b : List Int} {d : Nat} (hd : d < h.length) : fig h b d = h.getD d 0 := by unfold fig; rw [if_pos hd]
theorem fig_bar {h b : List Int} {d : Nat} (hd : h.length ≤ d) : fig h b d = b.getD ((d - h.length) % b.length) 0 := by unfold fig; rw [if_neg (by (first | lia | omega))]
theorem fig_at {h b : List Int} {i : Nat} (hi : i < b.length) : fig h b (h.length + i) = b.getD i 0 := by
  rw [fig_bar (by (first | lia | omega)), Nat.add_sub_cancel_left, Nat.mod_eq_of_lt hi]
theorem fig_add {h b : List Int} {d : Nat} (hd : h.length ≤ d) : fig h b (d + b.length) = fig h b d := by
  rw [fig_bar hd, fig_bar (by (first | lia | omega))]
  have e : d + b.length - h.length = (d - h.length) + b.length := by (first | lia | omega)
  rw [e, Nat.add_mod_right]
noncomputable def Per (f : Nat → Int) (p n0 : Nat) : Prop := ∀ n, n0 ≤ n → f (n + p) = f n
theorem Per.mul {f : Nat → Int} {p n0 : Nat} (hp : Per f p n0) : ∀ k n, n0 ≤ n → f (n + k * p) = f n
  | 0, n, _ => by simp
  | k + 1, n, h => by
    have e : n + (k + 1) * p = (n + k * p) + p := by rw [Nat.add_mul]; (first | lia | omega)
    rw [e, hp _ (by (first | lia | omega)), Per.mul hp k n h]
theorem Per.up {f : Nat → Int} {p n0 n1 : Nat} (hp : Per f p n0) (h : n0 ≤ n1) : Per f p n1 := fun n hn => hp n (by (first | lia | omega))
theorem Per.sub {f : Nat → Int} {p q n0 : Nat} (hp : Per f p n0) (hq : Per f q n0) (h : p ≤ q) : Per f (q - p) n0 := fun n hn => by
  have e1 := hp (n + (q - p)) (by (first | lia | omega))
  have e2 := hq n hn
  have e : n + (q - p) + p = n + q := by (first | lia | omega)
  rw [e] at e1
  rw [← e1, e2]
theorem Per.gcd {f : Nat → Int} {n0 : Nat} : ∀ (m p q : Nat), p + q ≤ m → 0 < p → 0 < q → Per f p n0 → Per f q n0 → Per f (Nat.gcd p q) n0
  | 0, p, q, h, h1, h2, _, _ => by (first | lia | omega)
  | m + 1, p, q, h, h1, h2, hp, hq => by
    by_cases e : p = q
    · subst e; rw [Nat.gcd_self]; exact hp
    · by_cases l : p < q
      · have g := Per.gcd m p (q - p) (by (first | lia | omega)) h1 (by (first | lia | omega)) hp (hp.sub hq (by (first | lia | omega)))
        rwa [Nat.gcd_sub_self_right (by (first | lia | omega))] at g
      · have g := Per.gcd m (p - q) q (by (first | lia | omega)) (by (first | lia | omega)) h2 (hq.sub hp (by (first | lia | omega))) hq
        rwa [Nat.gcd_sub_self_left (by (first | lia | omega))] at g
theorem per_fig (h b : List Int) : Per (fig h b) b.length h.length := fun _ hn => fig_add hn
theorem per_back {h b : List Int} {g n1 : Nat} (hb : 0 < b.length) (hg : Per (fig h b) g n1) : Per (fig h b) g h.length := fun n hn => by
  have k := (per_fig h b).mul n1 (n + g) (by (first | lia | omega))
  have k2 := (per_fig h b).mul n1 n hn
  have hle : n1 ≤ n + n1 * b.length := by
    have : n1 * 1 ≤ n1 * b.length := Nat.mul_le_mul_left _ hb
    (first | lia | omega)
  have e := hg (n + n1 * b.length) hle
  have e2 : n + n1 * b.length + g = n + g + n1 * b.length := by (first | lia | omega)
  rw [e2, k, k2] at e
  exact e
theorem per_again {h b : List Int} {g : Nat} (hg : Per (fig h b) g h.length) : Again b g := fun i hi => by
  have e := hg (h.length + i) (by (first | lia | omega))
  have e2 : h.length + i + g = h.length + (i + g) := by (first | lia | omega)
  rw [e2, fig_at hi, fig_at (by (first | lia | omega))] at e
  exact e
theorem again_per {h b : List Int} {g : Nat} (h0 : 0 < g) (hd : b.length % g = 0) (hb : 0 < b.length) (a : Again b g) : Per (fig h b) g h.length := fun n hn => by
  have stp : ∀ k i, i + k * g < b.length → b.getD (i + k * g) 0 = b.getD i 0 := by
    intro k
    induction k with
    | zero => intro i _; simp
    | succ k ih =>
      intro i hi
      have e : i + (k + 1) * g = (i + k * g) + g := by rw [Nat.add_mul]; (first | lia | omega)
      rw [e] at hi ⊢
      rw [a _ hi, ih i (by (first | lia | omega))]
  have low : ∀ i, i < b.length → b.getD i 0 = b.getD (i % g) 0 := fun i hi => by
    have e := Nat.mod_add_div i g
    have q := stp (i / g) (i % g) (by rw [Nat.mul_comm]; (first | lia | omega))
    rw [Nat.mul_comm, e] at q
    exact q
  rw [fig_bar hn, fig_bar (by (first | lia | omega))]
  have hlt : 0 < b.length := hb
  rw [low _ (Nat.mod_lt _ hlt), low ((n - h.length) % b.length) (Nat.mod_lt _ hlt)]
  have hdv : g ∣ b.length := Nat.dvd_of_mod_eq_zero hd
  rw [Nat.mod_mod_of_dvd _ hdv, Nat.mod_mod_of_dvd _ hdv]
  have e : n + g - h.length = (n - h.length) + g := by (first | lia | omega)
  rw [e, Nat.add_mod_right]
theorem T.dvd {h b h' b' : List Int} (t : T h b) (hb' : 0 < b'.length) (a : Alike h b h' b') : b'.length % b.length = 0 := by
  have hf : fig h b = fig h' b' := funext a
  have p1 : Per (fig h b) b.length (h.length + h'.length) := (per_fig h b).up (by (first | lia | omega))
  have p2 : Per (fig h b) b'.length (h.length + h'.length) := by rw [hf]; exact (per_fig h' b').up (by (first | lia | omega))
  have g := Per.gcd _ b.length b'.length (Nat.le_refl _) t.pos hb' p1 p2
  have ag := per_again (per_back t.pos g)
  have hg0 : 0 < Nat.gcd b.length b'.length := Nat.gcd_pos_of_pos_left _ t.pos
  have hle : Nat.gcd b.length b'.length ≤ b.length := Nat.gcd_le_left _ t.pos
  have hdv : b.length % Nat.gcd b.length b'.length = 0 := Nat.mod_eq_zero_of_dvd (Nat.gcd_dvd_left _ _)
  by_cases e : Nat.gcd b.length b'.length = b.length
  · exact Nat.mod_eq_zero_of_dvd (by rw [← e]; exact Nat.gcd_dvd_right _ _)
  · exact absurd ag (t.least _ hg0 (by (first | lia | omega)) hdv)
theorem T.bar_le {h b h' b' : List Int} (t : T h b) (hb' : 0 < b'.length) (a : Alike h b h' b') : b.length ≤ b'.length :=
  Nat.le_of_dvd hb' (Nat.dvd_of_mod_eq_zero (t.dvd hb' a))
theorem T.head_le {h b h' b' : List Int} (t : T h b) (hb' : 0 < b'.length) (a : Alike h b h' b') : h.length ≤ h'.length := by
  by_cases hl : h.length ≤ h'.length
  · exact hl
  · exfalso
    have h0 : 0 < h.length := by (first | lia | omega)
    refine t.last h0 ?_
    have hf : fig h b = fig h' b' := funext a
    have pb : Per (fig h b) b'.length h'.length := by rw [hf]; exact per_fig h' b'
    have hdv := t.dvd hb' a
    obtain ⟨k, hk⟩ := Nat.dvd_of_mod_eq_zero hdv
    have e1 := pb (h.length - 1) (by (first | lia | omega))
    rw [fig_head (d := h.length - 1) (by (first | lia | omega))] at e1
    have hk0 : 0 < k := by
      cases k with
      | zero => (first | lia | omega)
      | succ k => (first | lia | omega)
    have hbl : 0 < b.length := t.pos
    have e2 : h.length - 1 + b'.length = (h.length + (b.length - 1)) + (k - 1) * b.length := by
      rw [hk]
      have : b.length * k = (k - 1) * b.length + b.length := by
        have e : k = (k - 1) + 1 := by (first | lia | omega)
        conv => lhs; rw [e, Nat.mul_add, Nat.mul_one, Nat.mul_comm]
      (first | lia | omega)
    rw [e2, (per_fig h b).mul _ _ (by (first | lia | omega)), fig_at (by (first | lia | omega))] at e1
    exact e1.symm
theorem ext_getD {a b : List Int} (hl : a.length = b.length) (h : ∀ i, i < a.length → a.getD i 0 = b.getD i 0) : a = b := by
  apply List.ext_getElem hl
  intro i h1 h2
  have := h i h1
  rw [List.getD_eq_getElem?_getD, List.getD_eq_getElem?_getD, List.getElem?_eq_getElem h1, List.getElem?_eq_getElem h2] at this
  exact this
theorem T.uniq {h b h' b' : List Int} (t : T h b) (t' : T h' b') (a : Alike h b h' b') : h = h' ∧ b = b' := by
  have hb := Nat.le_antisymm (t.bar_le t'.pos a) (t'.bar_le t.pos a.symm)
  have hh := Nat.le_antisymm (t.head_le t'.pos a) (t'.head_le t.pos a.symm)
  refine ⟨ext_getD hh fun i hi => ?_, ext_getD hb fun i hi => ?_⟩
  · have e := a i
    rwa [fig_head hi, fig_head (by (first | lia | omega))] at e
  · have e := a (h.length + i)
    rw [fig_at hi, hh, fig_at (by (first | lia | omega))] at e
    exact e
theorem getD_app {a b : List Int} {i : Nat} (h : i < a.length) : (a ++ b).getD i 0 = a.getD i 0 := by
  rw [List.getD_eq_getElem?_getD, List.getD_eq_getElem?_getD, List.getElem?_append_left h]
theorem getD_app_right {a b : List Int} {i : Nat} (h : a.length ≤ i) : (a ++ b).getD i 0 = b.getD (i - a.length) 0 := by
  rw [List.getD_eq_getElem?_getD, List.getD_eq_getElem?_getD, List.getElem?_append_right h]
noncomputable def rep (k : Nat) (xs : List Int) : List Int := (List.replicate k xs).flatten
theorem rep_length (k : Nat) (xs : List Int) : (rep k xs).length = k * xs.length := by
  unfold rep
  induction k with
  | zero => simp
  | succ k ih => rw [List.replicate_succ, List.flatten_cons, List.length_append, ih, Nat.add_mul]; (first | lia | omega)
theorem rep_getD {xs : List Int} (hx : 0 < xs.length) : ∀ (k i : Nat), i < k * xs.length → (rep k xs).getD i 0 = xs.getD (i % xs.length) 0
  | 0, i, h => by (first | lia | omega)
  | k + 1, i, h => by
    have e : rep (k + 1) xs = xs ++ rep k xs := by unfold rep; rw [List.replicate_succ, List.flatten_cons]
    rw [e]
    by_cases hi : i < xs.length
    · rw [getD_app hi, Nat.mod_eq_of_lt hi]
    · rw [getD_app_right (by (first | lia | omega)), rep_getD hx k (i - xs.length) (by rw [Nat.add_mul] at h; (first | lia | omega))]
      have e2 : i = (i - xs.length) + xs.length := by (first | lia | omega)
      conv => rhs; rw [e2, Nat.add_mod_right]
theorem getD_take {xs : List Int} {n i : Nat} (h : i < n) : (xs.take n).getD i 0 = xs.getD i 0 := by
  rw [List.getD_eq_getElem?_getD, List.getD_eq_getElem?_getD, List.getElem?_take_of_lt h]
theorem rep_iff {b : List Int} {n : Nat} (h0 : 0 < n) (hn : n ≤ b.length) (hd : b.length % n = 0) : rep (b.length / n) (b.take n) = b ↔ Again b n := by
  have hl : (b.take n).length = n := by rw [List.length_take]; (first | lia | omega)
  have hL : (rep (b.length / n) (b.take n)).length = b.length := by
    rw [rep_length, hl]; exact Nat.div_mul_cancel (Nat.dvd_of_mod_eq_zero hd)
  have key : ∀ i, i < b.length → (rep (b.length / n) (b.take n)).getD i 0 = b.getD (i % n) 0 := fun i hi => by
    rw [rep_getD (by (first | lia | omega)) _ _ (by rw [← rep_length, hL]; exact hi), hl, getD_take (Nat.mod_lt _ h0)]
  constructor
  · intro e i hi
    have a1 := key (i + n) hi
    have a2 := key i (by (first | lia | omega))
    rw [e] at a1 a2
    rw [a1, a2, Nat.add_mod_right]
  · intro a
    refine ext_getD hL fun i hi => ?_
    rw [hL] at hi
    rw [key i hi]
    have p := again_per (h := []) h0 hd (by (first | lia | omega)) a
    have e := p.mul (i / n) (i % n) (by simp)
    rw [Nat.mul_comm, Nat.mod_add_div] at e
    rw [← fig_at (h := []) (b := b) hi, ← fig_at (h := []) (b := b) (i := i % n) (by have := Nat.mod_le i n; (first | lia | omega))]
    simp only [List.length_nil, Nat.zero_add]
    exact e.symm
theorem fig_short {h b : List Int} {n : Nat} (h0 : 0 < n) (hn : n ≤ b.length) (hd : b.length % n = 0) (a : Again b n) : Alike h (b.take n) h b := fun d => by
  have hl : (b.take n).length = n := by rw [List.length_take]; (first | lia | omega)
  by_cases hd' : d < h.length
  · rw [fig_head hd', fig_head hd']
  · rw [fig_bar (by (first | lia | omega)), fig_bar (by (first | lia | omega)), hl, getD_take (Nat.mod_lt _ h0)]
    have hb : 0 < b.length := by (first | lia | omega)
    have p := again_per (h := []) h0 hd hb a
    have e := p.mul ((d - h.length) % b.length / n) ((d - h.length) % b.length % n) (by simp)
    rw [Nat.mul_comm, Nat.mod_add_div, Nat.mod_mod_of_dvd _ (Nat.dvd_of_mod_eq_zero hd)] at e
    have l1 : (d - h.length) % n < b.length := by have := Nat.mod_lt (d - h.length) h0; (first | lia | omega)
    have l2 : (d - h.length) % b.length < b.length := Nat.mod_lt _ hb
    have f1 := fig_at (h := []) (b := b) l1
    have f2 := fig_at (h := []) (b := b) l2
    simp only [List.length_nil, Nat.zero_add] at f1 f2
    rw [← f1, ← f2, e]
structure Short (b : List Int) (n : Nat) : Prop where
  pos : 0 < n
  le : n ≤ b.length
  dv : b.length % n = 0
  ag : Again b n
  least : ∀ m, 0 < m → m < n → b.length % m = 0 → ¬ Again b m
theorem Short.self {b : List Int} {n : Nat} (s : Short b n) : ∀ m, 0 < m → m < (b.take n).length → (b.take n).length % m = 0 → ¬ Again (b.take n) m := by
  intro m m0 hm hd a
  have hl : (b.take n).length = n := by have := s.le; rw [List.length_take]; (first | lia | omega)
  rw [hl] at hm hd
  have hdv : b.length % m = 0 := Nat.mod_eq_zero_of_dvd (Nat.dvd_trans (Nat.dvd_of_mod_eq_zero hd) (Nat.dvd_of_mod_eq_zero s.dv))
  refine s.least m m0 hm hdv ?_
  have p := again_per (h := []) m0 (by rw [hl]; exact hd) (by rw [hl]; exact s.pos) a
  have f : fig [] (b.take n) = fig [] b := funext (fig_short s.pos s.le s.dv s.ag)
  rw [f] at p
  exact per_again p
noncomputable def turn (s : List Int) (k : Nat) : List Int := (List.range s.length).map fun j : Nat => s.getD ((((j : Int) - (k : Int)) % (s.length : Int)).toNat) 0
theorem turn_length (s : List Int) (k : Nat) : (turn s k).length = s.length := by unfold turn; rw [List.length_map, List.length_range]
theorem turn_getD {s : List Int} {k j : Nat} (hj : j < s.length) : (turn s k).getD j 0 = s.getD ((((j : Int) - (k : Int)) % (s.length : Int)).toNat) 0 := by
  unfold turn
  rw [List.getD_eq_getElem?_getD, List.getElem?_map, List.getElem?_range hj]; rfl
theorem turn_zero (s : List Int) : turn s 0 = s := by
  refine ext_getD (turn_length s 0) fun j hj => ?_
  rw [turn_length] at hj
  rw [turn_getD hj]
  have : (((j : Int) - ((0 : Nat) : Int)) % (s.length : Int)).toNat = j := by
    rw [Int.emod_eq_of_lt (by (first | lia | omega)) (by (first | lia | omega))]; (first | lia | omega)
  rw [this]
theorem turn_succ {s : List Int} (hs : 0 < s.length) (k : Nat) : (turn s k).getD (s.length - 1) 0 :: (turn s k).dropLast = turn s (k + 1) := by
  refine ext_getD ?_ fun j hj => ?_
  · rw [List.length_cons, List.length_dropLast, turn_length, turn_length]; (first | lia | omega)
  · rw [List.length_cons, List.length_dropLast, turn_length] at hj
    have hj' : j < s.length := by (first | lia | omega)
    rw [turn_getD hj']
    cases j with
    | zero =>
      rw [List.getD_cons_zero, turn_getD (by (first | lia | omega))]
      congr 2
      have e : ((s.length - 1 : Nat) : Int) - (k : Int) = (((0 : Nat) : Int) - ((k + 1 : Nat) : Int)) + (s.length : Int) := by (first | lia | omega)
      rw [e, Int.add_emod_right]
    | succ j =>
      rw [List.getD_cons_succ]
      have e : (turn s k).dropLast.getD j 0 = (turn s k).getD j 0 := by
        rw [List.dropLast_eq_take, getD_take (by rw [turn_length]; (first | lia | omega))]
      rw [e, turn_getD (by (first | lia | omega))]
      congr 2
      have e : (j : Int) - (k : Int) = ((j + 1 : Nat) : Int) - ((k + 1 : Nat) : Int) := by (first | lia | omega)
      rw [e]
theorem turn_last {s : List Int} (hs : 0 < s.length) (k : Nat) : (turn s k).getD (s.length - 1) 0 = s.getD (((-1 - (k : Int)) % (s.length : Int)).toNat) 0 := by
  rw [turn_getD (by (first | lia | omega))]
  have e : ((s.length - 1 : Nat) : Int) - (k : Int) = (-1 - (k : Int)) + (s.length : Int) := by (first | lia | omega)
  rw [e, Int.add_emod_right]
theorem fig_turn {h s : List Int} {k : Nat} (hs : 0 < s.length) (hk : k ≤ h.length)
    (e : ∀ j, h.length - k ≤ j → j < h.length → h.getD j 0 = s.getD ((((j : Int) - (h.length : Int)) % (s.length : Int)).toNat) 0) :
    Alike (h.take (h.length - k)) (turn s k) h s := fun d => by
  have hl : (h.take (h.length - k)).length = h.length - k := by rw [List.length_take]; (first | lia | omega)
  by_cases hd : d < h.length - k
  · rw [fig_head (by (first | lia | omega)), fig_head (by (first | lia | omega)), getD_take hd]
  · rw [fig_bar (by (first | lia | omega)), hl, turn_length, turn_getD (Nat.mod_lt _ hs)]
    have hs' : (0 : Int) < (s.length : Int) := by (first | lia | omega)
    have e1 : ((((d - (h.length - k)) % s.length : Nat) : Int) - (k : Int)) % (s.length : Int) = ((d : Int) - (h.length : Int)) % (s.length : Int) := by
      rw [Int.natCast_emod, Int.emod_sub_emod]
      congr 1
      (first | lia | omega)
    rw [e1]
    by_cases hd2 : d < h.length
    · rw [fig_head hd2, e d (by (first | lia | omega)) hd2]
    · rw [fig_bar (by (first | lia | omega))]
      congr 1
      have : ((d : Int) - (h.length : Int)) = ((d - h.length : Nat) : Int) := by (first | lia | omega)
      rw [this, ← Int.natCast_emod, Int.toNat_natCast]
theorem again_turn {s : List Int} {k m : Nat} (hs : 0 < s.length) (m0 : 0 < m) (hd : s.length % m = 0) (a : Again (turn s k) m) : Again s m := by
  have p := again_per (h := []) m0 (by rw [turn_length]; exact hd) (by rw [turn_length]; exact hs) a
  have q : ∀ n, fig [] s n = fig [] (turn s k) (n + k) := fun n => by
    rw [fig_bar (by simp), fig_bar (by simp), turn_length]
    simp only [List.length_nil, Nat.sub_zero]
    rw [turn_getD (Nat.mod_lt _ hs)]
    have e1 : ((((n + k) % s.length : Nat) : Int) - (k : Int)) % (s.length : Int) = (n : Int) % (s.length : Int) := by
      rw [Int.natCast_emod, Int.emod_sub_emod]
      congr 1
      (first | lia | omega)
    rw [e1, ← Int.natCast_emod, Int.toNat_natCast]
  refine per_again (h := []) fun n hn => ?_
  rw [q, q, show n + m + k = n + k + m by (first | lia | omega)]
  exact p _ (by simp)
theorem tight_end {h b : List Int} {n k : Nat} (s : Short b n) (hk : k ≤ h.length)
    (e : ∀ j, h.length - k ≤ j → j < h.length → h.getD j 0 = (b.take n).getD ((((j : Int) - (h.length : Int)) % (n : Int)).toNat) 0)
    (stop : k < h.length → h.getD (h.length - k - 1) 0 ≠ (b.take n).getD (((-1 - (k : Int)) % (n : Int)).toNat) 0) :
    T (h.take (h.length - k)) (turn (b.take n) k) ∧ Alike (h.take (h.length - k)) (turn (b.take n) k) h b := by
  have hl : (b.take n).length = n := by have := s.le; rw [List.length_take]; (first | lia | omega)
  have hp : 0 < (b.take n).length := by rw [hl]; exact s.pos
  have hh : (h.take (h.length - k)).length = h.length - k := by rw [List.length_take]; (first | lia | omega)
  refine ⟨⟨by rw [turn_length]; exact hp, fun m m0 hm hd a => ?_, fun h0 => ?_⟩, (fig_turn hp hk (by rw [hl]; exact e)).trans (fig_short s.pos s.le s.dv s.ag)⟩
  · rw [turn_length] at hm hd
    exact s.self m m0 hm hd (again_turn hp m0 hd a)
  · rw [hh] at h0 ⊢
    rw [getD_take (by (first | lia | omega)), turn_length, turn_last hp, hl]
    exact stop (by (first | lia | omega))
end Pm
namespace Pm
end Pm
namespace Pm
theorem getD_drop {xs : List Int} {n i : Nat} : (xs.drop n).getD i 0 = xs.getD (n + i) 0 := by
  rw [List.getD_eq_getElem?_getD, List.getD_eq_getElem?_getD, List.getElem?_drop]
theorem turn_cut {s : List Int} {k f : Nat} (hs : 0 < s.length) (hf : f = ((-(k : Int)) % (s.length : Int)).toNat) : s.drop f ++ s.take f = turn s k := by
  have f1 := Int.emod_nonneg (-(k : Int)) (show (s.length : Int) ≠ 0 by (first | lia | omega))
  have f2 := Int.emod_lt_of_pos (-(k : Int)) (show 0 < (s.length : Int) by (first | lia | omega))
  have ef : (f : Int) = (-(k : Int)) % (s.length : Int) := by (first | lia | omega)
  have hlt : f < s.length := by (first | lia | omega)
  refine ext_getD ?_ fun j hj => ?_
  · rw [List.length_append, List.length_drop, List.length_take, turn_length]; (first | lia | omega)
  · rw [List.length_append, List.length_drop, List.length_take] at hj
    have hj' : j < s.length := by (first | lia | omega)
    rw [turn_getD hj']
    have e : ((j : Int) - (k : Int)) % (s.length : Int) = ((j : Int) + (f : Int)) % (s.length : Int) := by
      rw [ef, Int.add_emod_emod, Int.sub_eq_add_neg]
    rw [e]
    by_cases h : j < s.length - f
    · rw [getD_app (by rw [List.length_drop]; exact h), getD_drop, Int.emod_eq_of_lt (by (first | lia | omega)) (by (first | lia | omega))]
      congr 1; (first | lia | omega)
    · rw [getD_app_right (by rw [List.length_drop]; (first | lia | omega)), List.length_drop, getD_take (by (first | lia | omega))]
      have e2 : (j : Int) + (f : Int) = ((j + f - s.length : Nat) : Int) + (s.length : Int) := by (first | lia | omega)
      rw [e2, Int.add_emod_right, Int.emod_eq_of_lt (by (first | lia | omega)) (by (first | lia | omega))]
      congr 1; (first | lia | omega)
theorem fig_cyc {g : Nat → Int} {M L : Nat} (hL : 0 < L) (hp : Per g L M) (d : Nat) : fig ((List.range M).map g) ((List.range L).map fun i => g (M + i)) d = g d := by
  have l1 : ((List.range M).map g).length = M := by rw [List.length_map, List.length_range]
  have l2 : ((List.range L).map fun i => g (M + i)).length = L := by rw [List.length_map, List.length_range]
  have gd : ∀ (f : Nat → Int) (n i : Nat), i < n → ((List.range n).map f).getD i 0 = f i := fun f n i hi => by
    rw [List.getD_eq_getElem?_getD, List.getElem?_map, List.getElem?_range hi]; rfl
  by_cases hd : d < M
  · rw [fig_head (by rw [l1]; exact hd), gd _ _ _ hd]
  · rw [fig_bar (by rw [l1]; (first | lia | omega)), l1, l2, gd _ _ _ (Nat.mod_lt _ hL)]
    have e := hp.mul ((d - M) / L) (M + (d - M) % L) (by (first | lia | omega))
    have e2 : M + (d - M) % L + (d - M) / L * L = d := by
      have := Nat.mod_add_div (d - M) L
      rw [Nat.mul_comm] at this
      (first | lia | omega)
    rw [e2] at e
    exact e.symm
theorem Per.of_dvd {f : Nat → Int} {p q n0 : Nat} (hp : Per f p n0) (h : p ∣ q) : Per f q n0 := fun n hn => by
  obtain ⟨k, rfl⟩ := h
  rw [Nat.mul_comm]
  exact hp.mul k n hn
end Pm
namespace Pm
theorem put_per {h b h' b' : List Int} (f : Int → Int → Int) {L : Nat} (h1 : b.length ∣ L) (h2 : b'.length ∣ L) : Per (fun d => f (fig h b d) (fig h' b' d)) L (max h.length h'.length) := fun n hn => by
  have e1 := ((per_fig h b).of_dvd h1) n (by (first | lia | omega))
  have e2 := ((per_fig h' b').of_dvd h2) n (by (first | lia | omega))
  show f (fig h b (n + L)) (fig h' b' (n + L)) = f (fig h b n) (fig h' b' n)
  rw [e1, e2]
theorem range_take (g : Nat → Int) (M L : Nat) : ((List.range (M + L)).map g).take M = (List.range M).map g := by
  rw [← List.map_take]
  congr 1
  apply List.ext_getElem?
  intro i
  by_cases hi : i < M
  · rw [List.getElem?_take_of_lt hi, List.getElem?_range (by (first | lia | omega)), List.getElem?_range hi]
  · rw [List.getElem?_eq_none (by rw [List.length_take, List.length_range]; (first | lia | omega)), List.getElem?_eq_none (by rw [List.length_range]; (first | lia | omega))]
theorem range_drop (g : Nat → Int) (M L : Nat) : ((List.range (M + L)).map g).drop M = (List.range L).map fun i => g (M + i) := by
  apply List.ext_getElem?
  intro i
  rw [List.getElem?_drop, List.getElem?_map, List.getElem?_map]
  by_cases hi : i < L
  · rw [List.getElem?_range (by (first | lia | omega)), List.getElem?_range hi]; rfl
  · rw [List.getElem?_eq_none (by rw [List.length_range]; (first | lia | omega)), List.getElem?_eq_none (by rw [List.length_range]; (first | lia | omega))]; rfl
noncomputable def wv (ws : List Int) (x y : Int) : Int := ws.getD (2 * x + y).toNat 0
end Pm
namespace Pm
end Pm
namespace Pm
end Pm
namespace L2
open PySem PySem.Spec PyProof.Rows
theorem Same.rd {H H' : Hp} {a : Addr} {u : HO} (e : Same H H') (h : Rd H a u) : Rd H' a u := by
  rcases h with q | ⟨o, q⟩
  · exact .inl (e _ _ q)
  · exact .inr ⟨o, e _ _ q⟩
theorem Same.tup {K : PySem.W.Frag} {H H' : Hp} {a : Addr} {xs : List V} (e : Same H H') (h : SqT K H a xs) : SqT K H' a xs := by
  rcases h with q | q
  · exact .inl (e.rd q)
  · exact .inr q
theorem Same.new {H : Hp} {p : Addr} (h : H p = none) (o : HO) : Same H (upd H p o) := fun b u q => by rw [upd_ne (ne_of_none q h)]; exact q
theorem small {n : Nat} (h : n ≤ 1000) : n ≤ sizeLine := Nat.le_of_lt (small1000 h)
theorem getItem_tuple_whole {prog : Program} {w : World} {A : Around} {E : Value → Shared → Prop} {s : Shared} {t sl : Addr} {items : Array Value} {vl vu : Value} {lo hi : Option Int} {Q : Value → Shared → Prop} (ht : IsTup s.heap t items) (hs : s.heap.IsSliceOf sl vl vu .none) (pl : IsPart vl lo) (pu : IsPart vu hi)
    (hw : HT.sIx items.size 0 lo = 0 ∧ HT.sIx items.size items.size hi = items.size) (h : Q (.ref t) s) : wpAny (model prog w) A (getItem (.ref t) (.ref sl)) Q E s := by
  obtain ⟨os, hos, hcs, hds⟩ := id hs
  have hTs : s.TypeIs (.ref sl) "slice" := ⟨os, hos, hcs⟩
  unfold getItem
  try with_reducible refine wpAny_holding ?_
  first | refine wpAny_bind (wpAny_pure ?_) | skip
  refine wpAny_bind (wpAny_sequenceKey ht.typeIs (by decide) ?_)
  refine wpAny_bind (wpAny_callSpecial?_slot (name := Str.ofString "__getitem__") ht.typeIs PyProof.Rows.slot_tuple_getitem
    (wpAny_call_entry PyProof.Rows.slot_tuple_getitem ht.typeIs entry_tuple_getitem ?_ (args_tuple_getitem _ _)))
  show wpAny _ _ (Builtin.Tuple.tupleItemsOf (.ref t) >>= _) _ _ s
  refine wpAny_bind (tupleItemsOf_ ht ?_)
  refine wpAny_bind (wpAny_typeOf hTs ?_)
  rw [if_pos (by decide)]
  refine wpAny_bind (HT.sliceApplied_gen hs pl pu ?_)
  have hyes : (((HT.sIx items.size 0 lo : Nat) : Int) == 0 && (1 : Int) == 1 && (HT.sIx items.size items.size hi - HT.sIx items.size 0 lo) == items.size) = true := by
    rw [hw.1, hw.2]; simp
  show wpAny _ _ (if (((HT.sIx items.size 0 lo : Nat) : Int) == 0 && (1 : Int) == 1 && (HT.sIx items.size items.size hi - HT.sIx items.size 0 lo) == items.size) = true then _ else _) _ _ s
  rw [if_pos hyes]
  unfold Builtin.Tuple.tupleIsExact
  refine wpAny_bind (wpAny_bind (wpAny_typeOf ht.typeIs (wpAny_pure ?_)))
  rw [if_pos (by decide)]
  refine wpAny_bind (wpAny_rule ?_)
  first
    | exact wpAny_pure ⟨_, rfl, wpAny_pure h⟩
    | exact wpAny_bind (wpAny_pure (wpAny_pure ⟨_, rfl, wpAny_pure h⟩))
section
variable {X : Cx}
noncomputable def rSlU (K : PySem.W.Frag) : V → Option Int → Option Int → Hp → VK → Prop := fun x lo hi H Q => ∃ a xs, x = .ref a ∧ SqT K H a xs ∧ ∀ p H', Same H H' → SqT K H' p (cutV xs lo hi) → Q (.ref p) H'
theorem cutV_whole {xs : List V} {lo hi : Option Int} (hw : HT.sIx xs.length 0 lo = 0 ∧ HT.sIx xs.length xs.length hi = xs.length) : cutV xs lo hi = xs := by
  unfold cutV; rw [hw.1, hw.2]; simp
theorem sl_tupU : SlR X (rSlU X.K) := by
  intro pins s σ H x v vl vu lo hi sl Q I rx hs pl pu h
  obtain ⟨a, xs, rfl, hx, q⟩ := h
  by_cases hw : HT.sIx xs.length 0 lo = 0 ∧ HT.sIx xs.length xs.length hi = xs.length
  · cases rx
    obtain ⟨its, r, ht, hz⟩ := I.tuple hx
    have hlen : its.toArray.size = xs.length := by rw [List.size_toArray]; exact r.length.symm
    refine ⟨"tuple", _, PyProof.Rows.slot_tuple_getitem.lookup, ht.typeIs, ?_⟩
    refine getItem_tuple_whole ht hs pl pu (by rw [hlen]; exact hw) ?_
    exact ⟨.ref a, H, I, rfl, q a H (Same.refl _) (by rw [cutV_whole hw]; exact hx)⟩
  · exact sl_tup pins s σ H (.ref a) v vl vu lo hi sl Q I rx hs pl pu ⟨a, xs, rfl, hx, hw, fun p hp => q p _ (Same.new hp _) (SqT.of upd_same)⟩
noncomputable def rSlLU (K : PySem.W.Frag) : V → Option Int → Option Int → Hp → VK → Prop := fun x lo hi H Q => ∃ a xs, x = .ref a ∧ SqL K H a xs ∧ ∀ p H', Same H H' → H p = none → H' p = some (.lst (cutV xs lo hi)) → Q (.ref p) H'
theorem sl_listU : SlR X (rSlLU X.K) := by
  intro pins s σ H x v vl vu lo hi sl Q I rx hs pl pu h
  obtain ⟨a, xs, rfl, hx, q⟩ := h
  exact sl_list pins s σ H (.ref a) v vl vu lo hi sl Q I rx hs pl pu ⟨a, xs, rfl, hx, fun p hp => q p _ (Same.new hp _) hp upd_same⟩
noncomputable def rCatU (K : PySem.W.Frag) : R2 := fun x y H Q => ∃ a b xs ys, x = .ref a ∧ y = .ref b ∧ SqT K H a xs ∧ SqT K H b ys ∧ xs.length + ys.length ≤ sizeLine ∧ ∀ p H', Same H H' → SqT K H' p (xs ++ ys) → Q (.ref p) H'
theorem cat_tup0 {prog : Program} {w : World} {A : Around} {E : Value → Shared → Prop} {s : Shared} {t b : Addr} {ws : List Value} {Q : Value → Shared → Prop} (ht : IsTup s.heap t #[]) (hb : IsTup s.heap b ws.toArray) (h1 : Q (.ref b) s) : wpAny (model prog w) A (binaryOp .Add (.ref t) (.ref b)) Q E s := by
  obtain ⟨⟨cls, dd, data, sl⟩, ho, hc, n, hd⟩ := id ht
  obtain ⟨⟨cls2, dd2, data2, sl2⟩, ho2, hc2, n2, hd2⟩ := id hb
  simp only at hc hd hc2 hd2
  subst hc hd hc2 hd2
  exact concat_meets ⟨_, ho, rfl⟩ ⟨_, ho2, rfl⟩ noFill_tuple_add seq_tuple_add PySem.F.slot_tuple_add PySem.F.entry_tuple_add (PySem.F.args_tuple_add_2 _ _)
    (tuple_addW0 t b #[] ws.toArray n n2 dd dd2 sl sl2 (by simp)) ⟨ho, ho2, h1⟩
theorem op_catU : OpR X (binaryOp .Add) (rCatU X.K) := by
  intro pins s σ H x y v u Q I rx ry h
  obtain ⟨a, b, xs, ys, rfl, rfl, ha, hb, hz, q⟩ := h
  by_cases hx : xs = []
  · subst hx
    cases rx
    cases ry
    obtain ⟨its, r1, p1, _⟩ := I.tuple ha
    obtain ⟨its2, r2, p2, _⟩ := I.tuple hb
    have e1 : its = [] := r1.nil_iff.mpr rfl
    subst e1
    exact cat_tup0 p1 p2 ⟨.ref b, H, I, rfl, q b H (Same.refl _) hb⟩
  · refine op_catT pins s σ H (.ref a) (.ref b) v u Q I rx ry ⟨a, b, xs, ys, rfl, rfl, ha, hb, hx, hz, fun z => ?_, fun z p hp => q p _ (Same.new hp _) (SqT.of upd_same)⟩
    subst z
    exact q a H (Same.refl _) (by rw [List.append_nil]; exact ha)
noncomputable def rCatL (K : PySem.W.Frag) : R2 := fun x y H Q => ∃ l b xs zs, x = .ref l ∧ y = .ref b ∧ H l = some (.lst xs) ∧ H b = some (.lst zs) ∧ xs.length + zs.length ≤ sizeLine ∧ ∀ p H', Same H H' → H p = none → H' p = some (.lst (xs ++ zs)) → Q (.ref p) H'
theorem op_catL : OpR X (binaryOp .Add) (rCatL X.K) := by
  intro pins s σ H x y v u Q I rx ry h
  obtain ⟨l, b, xs, zs, rfl, rfl, hl, hb, hz, q⟩ := h
  exact op_cat pins s σ H (.ref l) (.ref b) v u Q I rx ry ⟨l, b, xs, zs, rfl, rfl, hl, hb, hz, fun p hp => q p _ (Same.new hp _) hp upd_same⟩
noncomputable def rRepL (K : PySem.W.Frag) : R2 := fun x y H Q => ∃ l k xs, x = .ref l ∧ y = .int k ∧ H l = some (.lst xs) ∧ 0 ≤ k ∧ k < 2 ^ 63 ∧ xs.length * k.toNat ≤ sizeLine ∧ ∀ p H', Same H H' → H p = none → H' p = some (.lst (List.replicate k.toNat xs).flatten) → Q (.ref p) H'
theorem op_repL : OpR X (binaryOp .Mult) (rRepL X.K) := by
  intro pins s σ H x y v u Q I rx ry h
  obtain ⟨l, k, xs, rfl, rfl, hl, h0, h1, hz, q⟩ := h
  exact op_rep pins s σ H (.ref l) (.int k) v u Q I rx ry ⟨l, k, xs, rfl, rfl, hl, by (first | lia | omega), h1, hz, fun p hp => q p _ (Same.new hp _) hp upd_same⟩
end
end L2
namespace L2
open PySem PySem.Spec PyProof.Rows
mutual
inductive Rep (K : PySem.W.Frag) (H : Hp) : Nat → V → PyData → Prop where
  | non {n : Nat} : Rep K H n .non .none
  | bl {n : Nat} (b : Bool) : Rep K H n (.bl b) (.bool b)
  | int {n : Nat} (i : Int) : Rep K H n (.int i) (.int i)
  | str {n : Nat} (x : Str) (hx : PyData.strOk x = true) : Rep K H n (.str x) (.str x)
  | tup {n : Nat} {a : Addr} {xs : List V} {ds : List PyData} : SqT K H a xs → RepAll K H n xs ds → Rep K H (n + 1) (.ref a) (.tuple ds)
  | lst {n : Nat} {a : Addr} {xs : List V} {ds : List PyData} : SqL K H a xs → RepAll K H n xs ds → Rep K H (n + 1) (.ref a) (.list ds)
inductive RepAll (K : PySem.W.Frag) (H : Hp) : Nat → List V → List PyData → Prop where
  | nil {n : Nat} : RepAll K H n [] []
  | cons {n : Nat} {x : V} {xs : List V} {d : PyData} {ds : List PyData} : Rep K H n x d → RepAll K H n xs ds → RepAll K H n (x :: xs) (d :: ds)
end
section
variable {X : Cx} {pins : List (Addr × Obj)} {σ : St} {H : Hp} {s : Shared}
mutual
theorem Rep.reads (I : Inv X pins σ H s) : ∀ {n : Nat} {x : V} {d : PyData} {u : Value}, Rep X.K H n x d → RelV x u → (∃ as, Reads s.heap u d as) ∧ d.canLay0 = true ∧ d.depth ≤ n
  | _, _, _, _, .non, r => by
    cases r
    exact ⟨⟨_, .none⟩, rfl, by simp [PyData.depth]⟩
  | _, _, _, _, .bl b, r => by
    cases r
    exact ⟨⟨_, .bool b⟩, rfl, by simp [PyData.depth]⟩
  | _, _, _, _, .int i, r => by
    obtain ⟨t, rfl⟩ := r
    exact ⟨⟨_, .int i t⟩, rfl, by simp [PyData.depth]⟩
  | _, _, _, _, .str x hx, r => by
    obtain ⟨t, rfl⟩ := r
    exact ⟨⟨_, .str x t⟩, by simp [PyData.canLay0, hx], by simp [PyData.depth]⟩
  | _, _, _, _, .tup (xs := xs) (ds := ds) hs ha, r => by
    cases r
    obtain ⟨its, rv, ⟨o, ho, hc, m, hd⟩, _⟩ := I.tuple hs
    obtain ⟨⟨as, h1⟩, h2, h3⟩ := RepAll.reads I ha rv
    exact ⟨⟨as, .tuple ho hc hd (by simpa using h1)⟩, by simp [PyData.canLay0, h2], by simp [PyData.depth]; exact h3⟩
  | _, _, _, _, .lst (xs := xs) (ds := ds) hs ha, r => by
    cases r
    obtain ⟨its, rv, pl, _⟩ := I.list hs
    obtain ⟨o, ho, hc, m, hd⟩ := pl.isList
    obtain ⟨⟨as, h1⟩, h2, h3⟩ := RepAll.reads I ha rv
    exact ⟨⟨_, .list ho hc hd (by simpa using h1)⟩, by simp [PyData.canLay0, h2], by simp [PyData.depth]; exact h3⟩
theorem RepAll.reads (I : Inv X pins σ H s) : ∀ {n : Nat} {xs : List V} {ds : List PyData} {us : List Value}, RepAll X.K H n xs ds → Vals xs us → (∃ as, ReadsAll s.heap us ds as) ∧ PyData.canLayAll0 ds = true ∧ PyData.depthAll ds ≤ n
  | _, _, _, _, .nil, .nil => ⟨⟨_, .nil⟩, rfl, by simp [PyData.depthAll]⟩
  | _, _, _, _, .cons h t, .cons r rs => by
    obtain ⟨⟨as, h1⟩, h2, h3⟩ := Rep.reads I h r
    obtain ⟨⟨bs, k1⟩, k2, k3⟩ := RepAll.reads I t rs
    exact ⟨⟨_, .cons h1 k1⟩, by simp [PyData.canLayAll0, h2, k2], by simp only [PyData.depthAll]; (first | lia | omega)⟩
end
noncomputable def rEqD (K : PySem.W.Frag) : R2 := fun x y H Q => ∃ dx dy, Rep K H 9 x dx ∧ Rep K H 9 y dy ∧ Q (.bl (PyData.eqv dx dy)) H
noncomputable def rNeD (K : PySem.W.Frag) : R2 := fun x y H Q => ∃ dx dy, Rep K H 9 x dx ∧ Rep K H 9 y dy ∧ Q (.bl (!PyData.eqv dx dy)) H
theorem op_eqD (hu : X.A.units + 64 < cLine) : OpR X (compareOp .Eq) (rEqD X.K) := by
  intro pins s σ H x y v u Q I rx ry h
  obtain ⟨dx, dy, h1, h2, q⟩ := h
  obtain ⟨⟨as, r1⟩, l1, d1⟩ := Rep.reads I h1 rx
  obtain ⟨⟨bs, r2⟩, l2, d2⟩ := Rep.reads I h2 ry
  exact SeqAt.compareEq_reads r1 r2 l1 l2 (by (first | lia | omega)) ⟨.bl _, H, I, rfl, q⟩
theorem op_neD (hu : X.A.units + 64 < cLine) : OpR X (compareOp .NotEq) (rNeD X.K) := by
  intro pins s σ H x y v u Q I rx ry h
  obtain ⟨dx, dy, h1, h2, q⟩ := h
  obtain ⟨⟨as, r1⟩, l1, d1⟩ := Rep.reads I h1 rx
  obtain ⟨⟨bs, r2⟩, l2, d2⟩ := Rep.reads I h2 ry
  exact SeqAt.compareNe_reads r1 r2 l1 l2 (by (first | lia | omega)) ⟨.bl _, H, I, rfl, q⟩
end
noncomputable abbrev dInts (xs : List Int) : List PyData := xs.map PyData.int
noncomputable abbrev dT (xs : List Int) : PyData := .tuple (dInts xs)
noncomputable abbrev dP (h b : List Int) : PyData := .tuple [dT h, dT b]
theorem eqvAll_ints : ∀ xs ys : List Int, PyData.eqvAll (dInts xs) (dInts ys) = decide (xs = ys)
  | [], [] => by simp [PyData.eqvAll]
  | [], y :: ys => by simp [PyData.eqvAll]
  | x :: xs, [] => by simp [PyData.eqvAll]
  | x :: xs, y :: ys => by
    have ih := eqvAll_ints xs ys
    simp only [dInts, List.map_cons, PyData.eqvAll, PyData.eqv] at ih ⊢
    rw [ih]
    by_cases h1 : x = y <;> by_cases h2 : xs = ys <;> simp [h1, h2]
theorem eqv_dT (xs ys : List Int) : PyData.eqv (dT xs) (dT ys) = decide (xs = ys) := by
  simp only [PyData.eqv]; exact eqvAll_ints xs ys
theorem eqv_dP (h b h' b' : List Int) : PyData.eqv (dP h b) (dP h' b') = decide (h = h' ∧ b = b') := by
  have e1 := eqvAll_ints h h'
  have e2 := eqvAll_ints b b'
  simp only [dP, dT, PyData.eqv, PyData.eqvAll, e1, e2]
  by_cases h1 : h = h' <;> by_cases h2 : b = b' <;> simp [h1, h2]
section
variable {K : PySem.W.Frag} {H : Hp}
theorem RepAll.ints {n : Nat} : ∀ xs : List Int, RepAll K H n (xs.map V.int) (dInts xs)
  | [] => .nil
  | x :: xs => .cons (.int x) (RepAll.ints xs)
theorem Rep.intsT {n : Nat} {a : Addr} {xs : List Int} (h : SqT K H a (xs.map V.int)) : Rep K H (n + 1) (.ref a) (dT xs) := .tup h (RepAll.ints xs)
theorem Rep.intsL {n : Nat} {a : Addr} {xs : List Int} (h : SqL K H a (xs.map V.int)) : Rep K H (n + 1) (.ref a) (.list (dInts xs)) := .lst h (RepAll.ints xs)
end
noncomputable def Pl (K : PySem.W.Frag) (H : Hp) (p : Addr) (h b : List Int) : Prop := ∃ a c, SqT K H p [.ref a, .ref c] ∧ SqT K H a (h.map V.int) ∧ SqT K H c (b.map V.int)
theorem Pl.same {K : PySem.W.Frag} {H H' : Hp} {p : Addr} {h b : List Int} (e : Same H H') : Pl K H p h b → Pl K H' p h b := fun ⟨a, c, h1, h2, h3⟩ => ⟨a, c, e.tup h1, e.tup h2, e.tup h3⟩
theorem Pl.rep {K : PySem.W.Frag} {H : Hp} {n : Nat} {p : Addr} {h b : List Int} : Pl K H p h b → Rep K H (n + 2) (.ref p) (dP h b) := fun ⟨_, _, h1, h2, h3⟩ => .tup h1 (.cons (.intsT h2) (.cons (.intsT h3) .nil))
end L2
namespace L2
open PySem PySem.Spec PyProof.Rows
theorem noFill_tuple_mul : fillsNumberSlot (.type "tuple") "mul" = pure false :=
  PySem.fillsNumberSlot_seq (id := "tuple.__mul__") (r := some (.builtin "tuple.__rmul__")) F.slot_tuple_mul.lookup (by decide +kernel) F.slot_tuple_rmul.lookup (by decide +kernel)
theorem repeat_tuple : seqRepeat? (.type "tuple") = pure (some (.builtin "tuple.__mul__")) := by
  unfold seqRepeat?
  rw [PySem.seqSlot_of (T := "tuple") (name := "__mul__") (id := "tuple.__mul__") F.slot_tuple_mul.lookup (by decide +kernel), PySem.seqSlot_of (T := "tuple") (name := "__rmul__") (id := "tuple.__rmul__") F.slot_tuple_rmul.lookup (by decide +kernel)]
  rfl
theorem int_rmul_tuple (a : Int) (t : Tok) (l : Addr) (items : Array Value) (n : Nat) (dd : Option Addr) (sl : Array (Option Value)) :
    Meets (Builtin.«int.__rmul__» ⟨[.int a t, .ref l], []⟩) (fun _ R s => s.heap.get? l = some { cls := .type "tuple", dict := dd, data := .seq items n, slots := sl } ∧ R (.ok (.ret Value.notImplemented)) s) :=
  .of_wp fun prog w A R s h => by obtain ⟨hp, g, d, tk, os⟩ := s; obtain ⟨hl, h⟩ := h; wp_walk; exact ⟨_, rfl, h⟩
theorem tuple_mulW (l : Addr) (items : Array Value) (n : Nat) (dd : Option Addr) (sl : Array (Option Value)) (x : Int) (u : Tok) (h0 : 0 ≤ x) (h1 : x < 2 ^ 63) (hz : items.size * x.toNat ≤ sizeLine) :
    Meets (Builtin.«tuple.__mul__» ⟨[.ref l, .int x u], []⟩) (fun _ R s => s.heap.get? l = some { cls := .type "tuple", dict := dd, data := .seq items n, slots := sl } ∧
      (if (items.isEmpty || x == 1) = true then R (.ok (.ret (.ref l))) s
       else R (.ok (.ret (Value.ref s.heap.objs.size))) { s with heap := s.heap.push { cls := Value.type "tuple", data := Data.seq (List.foldl (fun x1 x2 => x1 ++ x2) #[] (List.replicate x.toNat items)) }, toks := s.toks })) :=
  .of_wp fun prog w A R s h => by
    obtain ⟨hp, g, d, tk, os⟩ := s; obtain ⟨hl, h⟩ := h
    have ht : IsTup hp l items := ⟨_, hl, rfl, _, rfl⟩
    wp_walk
    refine wpAny_ite_false (decide_eq_false (show ¬ (decide (x < -2 ^ 63) || decide (x ≥ 2 ^ 63)) = true by rw [decide_eq_false (by (first | lia | omega)), decide_eq_false (by (first | lia | omega))]; decide)) ?_
    show wpAny _ _ (Builtin.Tuple.tupleItemsOf (.ref l) >>= _) _ _ _
    refine wpAny_bind (tupleItemsOf_ ht ?_)
    have exact_ : ∀ {xs : Array Value} {P : PySem.Fin → Shared → Prop} {E : Value → Shared → Prop}, xs.size ≤ sizeLine → P (.done (.ret (.ref hp.objs.size))) ⟨hp.push { cls := .type "tuple", data := .seq xs }, g, d, tk, os⟩ →
        wpAny (model prog w) A.in1 (Builtin.Tuple.tupleExact xs >>= fun v => ret v) P E ⟨hp, g, d, tk, os⟩ := fun {xs P E} hs q => by
      refine wpAny_bind (m := Builtin.Tuple.tupleExact _) (wpAny_newObj_type (wpAny_pure ?_) hs)
      exact q
    by_cases he : (items.isEmpty || x == 1) = true
    · rw [if_pos he] at h
      show wpAny _ _ (if (items.isEmpty || x == 1) = true then _ else _) _ _ _
      rw [if_pos he]
      unfold Builtin.Tuple.tupleIsExact
      refine wpAny_bind (wpAny_bind (wpAny_typeOf ht.typeIs (wpAny_pure ?_)))
      rw [if_pos (by decide)]
      refine wpAny_bind (wpAny_rule (wpAny_pure ?_))
      exact ⟨_, rfl, h⟩
    · rw [if_neg he] at h
      show wpAny _ _ (if (items.isEmpty || x == 1) = true then _ else _) _ _ _
      rw [if_neg he]
      have hne : items.isEmpty = false := by
        cases hx : items.isEmpty with
        | false => rfl
        | true => rw [hx] at he; exact absurd rfl he
      by_cases hx0 : x ≤ 0
      · have hx : x = 0 := by (first | lia | omega)
        subst hx
        show wpAny _ _ (if (decide ((0 : Int) ≤ 0) || items.isEmpty) = true then _ else _) _ _ _
        rw [if_pos (by rw [hne]; decide)]
        exact exact_ (by decide) ⟨_, rfl, h⟩
      · show wpAny _ _ (if (decide (x ≤ 0) || items.isEmpty) = true then _ else _) _ _ _
        rw [if_neg (by rw [hne, decide_eq_false hx0]; decide)]
        have hx : x = ((x.toNat : Nat) : Int) := by (first | lia | omega)
        have hz2 : (items.size : Int) * x ≤ (sizeLine : Int) := by rw [hx]; exact_mod_cast hz
        have big : (sizeLine : Int) ≤ (2 ^ 63 - 1) / 8 := by decide
        show wpAny _ _ (if (items.size : Int) * x > (2 ^ 63 - 1) / 8 then _ else _) _ _ _
        rw [if_neg (by (first | lia | omega))]
        show wpAny _ _ (if Builtin.Tuple.tupleTooMany ((items.size : Int) * x) = true then _ else _) _ _ _
        rw [if_neg (by unfold Builtin.Tuple.tupleTooMany; intro q; have := of_decide_eq_true q; (first | lia | omega))]
        refine exact_ ?_ ⟨_, rfl, h⟩
        have f0 : List.foldl (fun x1 x2 => x1 ++ x2) #[] (List.replicate x.toNat items) = (List.replicate x.toNat items.toList).flatten.toArray := by
          have := foldl_rep items.toList x.toNat []
          rw [List.nil_append] at this
          simpa using this
        rw [f0, List.size_toArray, len_rep, Array.length_toList, Nat.mul_comm]
        exact hz
section
variable {X : Cx}
noncomputable def rRepT (K : PySem.W.Frag) : R2 := fun x y H Q => ∃ l k xs, x = .ref l ∧ y = .int k ∧ SqT K H l xs ∧ 0 ≤ k ∧ k < 2 ^ 63 ∧ xs.length * k.toNat ≤ sizeLine ∧ ∀ p H', Same H H' → SqT K H' p (List.replicate k.toNat xs).flatten → Q (.ref p) H'
theorem op_repT : OpR X (binaryOp .Mult) (rRepT X.K) := by
  intro pins s σ H x y v u Q I rx ry h
  obtain ⟨l, k, xs, rfl, rfl, hH, h0, h1, hz, q⟩ := h
  cases rx
  obtain ⟨t, rfl⟩ := ry
  obtain ⟨its, r, ⟨⟨cls, dd, data, sl⟩, e, hc, n, hd⟩, hl⟩ := I.tuple hH
  simp only at hc hd
  subst hc hd
  have hlen : its.toArray.size * k.toNat ≤ sizeLine := by rw [List.size_toArray, ← r.length]; exact hz
  refine wpAny_binaryOp_repeat_ref (T := "tuple") (U := "int") (by decide) ⟨_, e, rfl⟩ (fun s' => typeIs_int s' k t) noFill_tuple_mul F.fills_int_mul F.slot_int_rmul repeat_tuple F.slot_int_index.lookup
    (call_meets F.slot_int_rmul (typeIs_int s k t) F.entry_int_rmul (F.args_int_rmul_2 _ _) (int_rmul_tuple k t l its.toArray n dd sl)
      ⟨e, rfl, ⟨_, e, rfl⟩, call_meets F.slot_tuple_mul ⟨_, e, rfl⟩ F.entry_tuple_mul (F.args_tuple_mul_2 _ _) (tuple_mulW l its.toArray n dd sl k t h0 h1 hlen) ⟨e, ?_⟩⟩)
  by_cases he : (its.toArray.isEmpty || k == 1) = true
  · rw [if_pos he]
    refine ⟨.ref l, H, I, rfl, q l H (Same.refl _) ?_⟩
    have ex : (List.replicate k.toNat xs).flatten = xs := by
      rw [Bool.or_eq_true] at he
      rcases he with z | z
      · have e0 : its = [] := by simpa using z
        have e1 : xs = [] := r.nil_iff.mp e0
        rw [e1]
        have : ∀ m : Nat, (List.replicate m ([] : List V)).flatten = [] := fun m => by
          induction m with
          | zero => rfl
          | succ m ih => rw [List.replicate_succ, List.flatten_cons, ih]; rfl
        exact this _
      · have ek : k = 1 := eq_of_beq z
        rw [ek]
        show (List.replicate 1 xs).flatten = xs
        simp
    rw [ex]; exact hH
  · rw [if_neg he]
    have hnew : List.foldl (fun x1 x2 => x1 ++ x2) #[] (List.replicate k.toNat its.toArray) = (List.replicate k.toNat its).flatten.toArray := by
      have := foldl_rep its k.toNat []
      rw [List.nil_append] at this
      exact this
    rw [hnew]
    refine ⟨.ref s.heap.objs.size, _, I.laid (t' := s.toks) (o := .tup (List.replicate k.toNat xs).flatten) (fun b ob q => Heap.get?_push_of_some _ q) (Nat.le_refl _) ?_, rfl, q _ _ (Same.new (I.hok.fresh (Nat.le_refl _)) _) (SqT.of upd_same)⟩
    exact ⟨by rw [len_rep, Nat.mul_comm]; exact hz, _, r.rep k.toNat, IsTup.new _ _⟩
end
end L2
namespace L2
open PySem PySem.Spec PyProof.Rows
section
variable {prog : Program} {w : World} {A : Around} {R : Result → Shared → Prop} {s : Shared}
theorem compLoop_any {elt target iter : Expr} {ifs : List Expr} {scope : Scope} {pos : Pos} {it acc : Value} {env : Env} (I : Nat → Shared → Prop)
    (turn : ∀ n s, I n s → wpAny (model prog w) A (pyNext it) (fun r s1 => match r with
      | none => R (.ok .next) s1
      | some v => wpAny (model prog w) A (letOwnedTupleGo target it v) (fun _ s1' => wpAny (model prog w) A (assign target env v) (fun _ s2 =>
          wpAny (model prog w) A (forIn ifs true fun c r => if r = true then do let ok ← isTrue c env (eval c env); pure (ForInStep.yield ok) else pure (ForInStep.yield r)) (fun ok s3 =>
            if ok = true then wpAny (model prog w) A (eval elt env) (fun x s4 =>
              wpAny (model prog w) A (call (.builtin "list.append") [acc, x]) (fun _ s5 => ∃ m, m < n ∧ I m s5) (fun _ _ => False) s4) (fun _ _ => False) s3
            else ∃ m, m < n ∧ I m s3) (fun _ _ => False) s2) (fun _ _ => False) s1') (fun _ _ => False) s1) (fun _ _ => False) s)
    (n : Nat) (h : I n s) :
    codeAny (model prog w) A (.compLoop (.ListComp elt [⟨target, iter, ifs, 0⟩] scope pos) 0 it acc env) R s := by
  refine codeAny_loop rfl I (fun n s hI => ?_) n h
  show wpAny _ A ((compTurn (.ListComp elt [⟨target, iter, ifs, 0⟩] scope pos) 0 it acc env).onRaise (fun x => do noteFrame x env; theTreesLotGoes x)) _ _ s
  refine wpAny_noted ?_
  rw [compTurn_list]
  refine wpAny_bind (wpAny_standAt (wpAny_bind (wpAny_mono (turn n s hI) (fun r s1 h1 => ?_) fun _ _ h' => h'.elim)))
  cases r with
  | none => exact wpAny_pure h1
  | some v =>
    refine wpAny_bind (wpAny_mono h1 (fun _ s1' h1' => ?_) fun _ _ h' => h'.elim)
    refine wpAny_bind (wpAny_mono h1' (fun _ s2 h2 => wpAny_bind (wpAny_mono h2 (fun ok s3 h3 => ?_) fun _ _ h' => h'.elim)) fun _ _ h' => h'.elim)
    cases ok with
    | false => exact wpAny_pure ⟨rfl, h3⟩
    | true =>
      exact wpAny_bind (wpAny_bind (wpAny_mono h3 (fun x s4 h4 => wpAny_bind (wpAny_mono h4 (fun _ s5 h5 => wpAny_pure (wpAny_pure ⟨rfl, h5⟩)) fun _ _ h' => h'.elim)) fun _ _ h' => h'.elim))
end
noncomputable def clOf (env : Env) : List (Str × NameKind) → List (Str × Addr) → List (Str × Addr)
  | [], acc => acc
  | (n, k) :: r, acc => clOf env r (if (k == .free) = true then (match env.cells.lookup n with | some c => (n, c) :: acc | none => acc) else acc)
theorem closureFor_clOf {scope : Scope} {env : Env} (h : ∀ p ∈ scope.names, p.2 = .free → ∃ c, env.cells.lookup p.1 = some c) : closureFor scope env = pure (clOf env scope.names []) := by
  have key : ∀ (l : List (Str × NameKind)) (acc : List (Str × Addr)), (∀ p ∈ l, p.2 = .free → ∃ c, env.cells.lookup p.1 = some c) →
      (forIn l acc fun (p : Str × NameKind) (cs : List (Str × Addr)) => (if (p.2 == .free) = true then do let a ← cellOf env p.1; pure (ForInStep.yield ((p.1, a) :: cs)) else pure (ForInStep.yield cs) : Sem (ForInStep (List (Str × Addr))))) = pure (clOf env l acc) := by
    intro l
    induction l with
    | nil => intro acc _; rfl
    | cons p r ih =>
      intro acc hl
      obtain ⟨n, k⟩ := p
      rw [List.forIn_cons]
      by_cases hk : (k == NameKind.free) = true
      · have hk' : k = .free := eq_of_beq hk
        obtain ⟨c, hc⟩ := hl (n, k) List.mem_cons_self hk'
        simp only [hk, if_true, cellOf, hc, pure_bind, clOf]
        exact ih _ fun p hp => hl p (List.mem_cons_of_mem _ hp)
      · simp only [hk, pure_bind, clOf]
        simp only [Bool.false_eq_true, if_false, pure_bind]
        exact ih _ fun p hp => hl p (List.mem_cons_of_mem _ hp)
  have e := key scope.names [] h
  unfold closureFor
  first
    | exact e
    | (simp only [bind_pure]; exact e)
    | (rw [show (forIn scope.names [] _ : Sem (List (Str × Addr))) = _ from e]; rfl)
theorem clOf_sub {env : Env} : ∀ (l : List (Str × NameKind)) (acc : List (Str × Addr)), (∀ p ∈ acc, env.cells.lookup p.1 = some p.2) → ∀ p ∈ clOf env l acc, env.cells.lookup p.1 = some p.2
  | [], acc, h => h
  | (n, k) :: r, acc, h => by
    unfold clOf
    refine clOf_sub r _ ?_
    by_cases hk : (k == NameKind.free) = true
    · rw [if_pos hk]
      cases hc : env.cells.lookup n with
      | none => exact h
      | some c => exact fun p hp => (List.mem_cons.mp hp).elim (fun e => by rw [e]; exact hc) (h p)
    · rw [if_neg hk]; exact h
theorem clOf_mono {env : Env} : ∀ (l : List (Str × NameKind)) (acc : List (Str × Addr)) p, p ∈ acc → p ∈ clOf env l acc
  | [], acc, p, h => h
  | (n, k) :: r, acc, p, h => by
    unfold clOf
    refine clOf_mono r _ p ?_
    by_cases hk : (k == NameKind.free) = true
    · rw [if_pos hk]
      cases hc : env.cells.lookup n with
      | none => exact h
      | some c => exact List.mem_cons_of_mem _ h
    · rw [if_neg hk]; exact h
theorem clOf_has {env : Env} {n : Str} {c : Addr} (hc : env.cells.lookup n = some c) : ∀ (l : List (Str × NameKind)) (acc : List (Str × Addr)), (n, NameKind.free) ∈ l → (n, c) ∈ clOf env l acc
  | [], acc, h => by cases h
  | (m, k) :: r, acc, h => by
    unfold clOf
    rcases List.mem_cons.mp h with e | h
    · cases e
      refine clOf_mono r _ _ ?_
      rw [if_pos (show (NameKind.free == NameKind.free) = true by decide), hc]
      exact List.mem_cons_self
    · exact clOf_has hc r _ h
theorem lookup_of_mem_fun {l : List (Str × Addr)} {f : Str → Option Addr} (hs : ∀ p ∈ l, f p.1 = some p.2) {n : Str} {c : Addr} (hm : (n, c) ∈ l) : l.lookup n = some c := by
  induction l with
  | nil => cases hm
  | cons p r ih =>
    obtain ⟨m, d⟩ := p
    rw [List.lookup_cons]
    by_cases e : (n == m) = true
    · rw [e]
      have e' : n = m := eq_of_beq e
      have h1 := hs (m, d) List.mem_cons_self
      have h2 := hs (n, c) hm
      subst e'
      rw [h1] at h2
      exact h2
    · rw [Bool.not_eq_true] at e
      rw [e]
      rcases List.mem_cons.mp hm with q | q
      · cases q; rw [beq_self_eq_true] at e; cases e
      · exact ih (fun p hp => hs p (List.mem_cons_of_mem _ hp)) q
noncomputable def compCx (X : Cx) (scope : Scope) (N : List Str) (C : Addr) (s : Shared) (H : Hp) (fp : List Addr) : Cx where
  prog := X.prog
  w := X.w
  K := X.K
  mg := X.mg
  base := X.base
  A := X.A
  N := N
  s₀ := s
  H₀ := H
  env := compEnvC scope (clOf X.env scope.names []) C X.env
  outer := X.stack
  stack := X.stack
  ex := fp
  fn := fun _ => false
  calm := X.calm
  pn := []
  xe := fun _ _ => False
structure CompOk (sc scope : Scope) (XN : List Str) (x : Str) (ys : List Str) (js : List Nat) : Prop where
  kind : scope.kind = .function
  cell : ∀ p ∈ scope.names, p.2 ≠ .cell
  loc : ∀ p ∈ scope.names, p.2 = .local → scope.names.lookup p.1 = some .local
  free : ∀ p ∈ scope.names, p.2 = .free → sc.names.lookup p.1 = some .cell ∧ scope.names.lookup p.1 = some .free
  here : scope.names.lookup x = some .local
  nd : (x :: ys).Nodup
  len : js.length = ys.length
  cap : ∀ k : Nat, k < ys.length → XN[js.getD k 0]? = some (ys.getD k Str.empty) ∧ (ys.getD k Str.empty, NameKind.free) ∈ scope.names
theorem lookup_relabel {env : Env} : ∀ (names : List (Str × NameKind)) (x : Str), (names.map fun (n, k) => if (k == NameKind.free && env.scope.kind == .function && env.kindOf n == some .cell) then (n, NameKind.cell) else (n, k)).lookup x =
    (names.lookup x).map fun k => if (k == NameKind.free && env.scope.kind == .function && env.kindOf x == some .cell) then NameKind.cell else k
  | [], x => rfl
  | (n, k) :: r, x => by
    have ih := @lookup_relabel env r x
    show List.lookup x ((if (k == NameKind.free && env.scope.kind == .function && env.kindOf n == some .cell) = true then (n, NameKind.cell) else (n, k)) :: _) = _
    cases hx : x == n with
    | true =>
      have e : x = n := eq_of_beq hx
      subst e
      by_cases hc : (k == NameKind.free && env.scope.kind == .function && env.kindOf x == some .cell) = true
      · rw [if_pos hc]; simp only [List.lookup_cons, hx, Option.map_some]; rw [if_pos hc]
      · rw [if_neg hc]; simp only [List.lookup_cons, hx, Option.map_some]; rw [if_neg hc]
    | false =>
      by_cases hc : (k == NameKind.free && env.scope.kind == .function && env.kindOf n == some .cell) = true
      · rw [if_pos hc]; simp only [List.lookup_cons, hx]; exact ih
      · rw [if_neg hc]; simp only [List.lookup_cons, hx]; exact ih
noncomputable def compSt (σ : St) (js : List Nat) (o : Option V) : St := o :: js.map fun j => (σ[j]?).join
noncomputable def CompB (J : It) (H1 : Hp) (js : List Nat) (tt : TT) (te : TE) (σ : St) (Q : VK) : Prop := ∃ (n : Nat) (out : Nat → Option V), n ≤ sizeLine ∧
  (∀ i H', i < n → Same H1 H' → J.go i H' ∧ ∀ x H'', J.yld i H' x H'' → Same H' H'' ∧ tt (compSt σ js (some x)) H'' fun ok H2 => if ok = true then te (compSt σ js (some x)) H2 fun y H3 => Same H'' H3 ∧ out i = some y else Same H'' H2 ∧ out i = none) ∧
  (∀ H', Same H1 H' → J.stop n H') ∧ ∀ p H', Same H1 H' → H1 p = none → H' p = some (.lst ((List.range n).filterMap out)) → Q (.ref p) H'
noncomputable def tComp (wi : TI) (js : List Nat) (tt : TT) (te : TE) : TE := fun σ H Q => wi σ H fun J H1 => CompB J H1 js tt te σ Q
noncomputable def PTs (X : Cx) (ifs : List Expr) (t : TT) : Prop :=
  ∀ (pins : List (Addr × Obj)) (s : Shared) (σ : St) (H : Hp) (Q : Bool → Hp → Prop), Inv X pins σ H s → t σ H Q →
    wpAny (model X.prog X.w) X.A (forIn ifs true fun c r => if r = true then do let ok ← isTrue c X.env (eval c X.env); pure (ForInStep.yield ok) else pure (ForInStep.yield r)) (TP X pins σ Q) X.xe s
noncomputable def tYes : TT := fun _ H Q => Q true H
theorem pts_nil {X : Cx} : PTs X [] tYes := fun pins s σ H Q I h => wpAny_tests_nil ⟨H, I, h⟩
theorem pts_one {X : Cx} {c : Expr} {t : TT} (h : PT X c t) : PTs X [c] t := fun pins s σ H Q I q => wpAny_tests_one (h pins s σ H Q I q)
theorem filterMap_range_succ (out : Nat → Option V) (i : Nat) : (List.range (i + 1)).filterMap out = (List.range i).filterMap out ++ (out i).toList := by
  rw [List.range_succ, List.filterMap_append]
  cases h : out i <;> simp [h]
section
variable {X : Cx} {pins : List (Addr × Obj)} {σ : St} {H : Hp} {s : Shared}
theorem comp_enter {scope : Scope} {x : Str} {ys : List Str} {js : List Nat} {fp : List Addr} {h4 : Heap} {m : Str → Option Value} (ok : CompOk X.env.scope scope X.N x ys js) (I : Inv X pins σ H s) (hf : ∀ b ∈ fp, FpOk X pins H b) (ho : ∀ b ∈ fp, ∃ o, s.heap.get? b = some o)
    (k : ∀ b o, s.heap.get? b = some o → h4.get? b = some o) (hn : h4.Ns s.heap.objs.size m) : Inv (compCx X scope (x :: ys) s.heap.objs.size s H fp) [] (compSt σ js none) H { s with heap := h4 } := by
  have sub := clOf_sub (env := X.env) scope.names [] (fun p hp => by cases hp)
  have lk : ∀ y c, (clOf X.env scope.names []).lookup y = some c → X.env.cells.lookup y = some c := fun y c e => sub (y, c) (PySem.mem_of_lookup e)
  have rl : ∀ y, (relabel scope X.env).names.lookup y = (scope.names.lookup y).map fun k => if (k == NameKind.free && X.env.scope.kind == .function && X.env.kindOf y == some .cell) then NameKind.cell else k := fun y => lookup_relabel scope.names y
  have capd : ∀ y, (y, NameKind.free) ∈ scope.names → ∃ c, X.env.cells.lookup y = some c ∧ (clOf X.env scope.names []).lookup y = some c := fun y hy => by
    obtain ⟨c, hc⟩ := I.ok.has y (.inl (ok.free _ hy rfl).1)
    exact ⟨c, hc, lookup_of_mem_fun (f := fun n => X.env.cells.lookup n) sub (clOf_has hc _ _ hy)⟩
  have Y : (compCx X scope (x :: ys) s.heap.objs.size s H fp).Ok := by
    refine ⟨I.ok.mod, ok.kind, I.ok.glob, I.ok.blt, Nat.le_refl _, fun a b c e1 e2 => I.ok.inj a b c (lk a c e1) (lk b c e2), fun y hy => ?_, fun _ _ z => (by cases z), I.ok.hd, I.ok.frames, .inl rfl, fun b hb => ⟨?_, fun y c e => (hf b hb).2.2.2.2.1 y c (lk y c e)⟩, I.bs, Nat.le_trans I.ok.bsz I.sz, fun b o e hb => ?_, fun b hb z => ?_, I.stack, I.stkFree⟩
    · have hy : (relabel scope X.env).names.lookup y = some .cell ∨ (relabel scope X.env).names.lookup y = some .free := hy
      rw [rl y] at hy
      cases e : scope.names.lookup y with
      | none => rw [e] at hy; rcases hy with z | z <;> cases z
      | some kd =>
        have hm := PySem.mem_of_lookup e
        by_cases hk : kd = .free
        · subst hk
          obtain ⟨c, _, h2⟩ := capd y hm
          exact ⟨c, h2⟩
        · exfalso
          rw [e] at hy
          have hk2 : (kd == NameKind.free) = false := by
            cases hb : kd == NameKind.free with
            | false => rfl
            | true => exact absurd (eq_of_beq hb) hk
          simp only [Option.map_some, hk2, Bool.false_and, Bool.false_eq_true, if_false, Option.some.injEq] at hy
          rcases hy with z | z
          · exact ok.cell _ hm z
          · exact hk z
    · obtain ⟨o, e⟩ := ho b hb
      exact Nat.ne_of_lt (Heap.lt_size e)
    · rcases (hf b hb).2.2.2.1 with z | z
      · exact I.ok.noex b o e z
      · exact absurd (Nat.lt_of_lt_of_le (Heap.lt_size e) (Nat.le_trans I.ok.bsz z)) (Nat.lt_irrefl _)
    · exact (List.mem_cons.mp (I.stkSub b z)).elim (hf b hb).2.1 (hf b hb).2.2.1
  have I4 : Inv X pins σ H { s with heap := h4 } := I.kept (t' := s.toks) k
  refine ⟨Y, rfl, I.bare, Un.kept k, ⟨m, hn, fun i y v h1 h2 h3 => ?_⟩, fun y c e => I4.cell y c (lk y c e), I.hok.fresh (Nat.le_refl _), fun y c e => I.freeC y c (lk y c e), fun p hp => absurd (show p ∈ ([] : List (Addr × Obj)) from hp) (by simp), I4.hok, ?_⟩
  · cases i with
    | zero => cases h2
    | succ i =>
      have h1 : ys[i]? = some y := h1
      have hi : i < ys.length := (List.getElem?_eq_some_iff.mp h1).1
      have hy : ys.getD i Str.empty = y := by rw [List.getD_eq_getElem?_getD, h1]; rfl
      obtain ⟨c1, c2⟩ := ok.cap i hi
      rw [hy] at c1 c2
      have hj : i < js.length := by rw [ok.len]; exact hi
      have h2' : (js.map fun j => (σ[j]?).join)[i]? = some (some v) := h2
      rw [List.getElem?_map, List.getElem?_eq_getElem hj] at h2'
      have hjd : js.getD i 0 = js[i] := by rw [List.getD_eq_getElem?_getD, List.getElem?_eq_getElem hj]; rfl
      rw [hjd] at c1
      have h3' : σ[js[i]]? = some (some v) := by
        have q : (σ[js[i]]?).join = some v := Option.some.inj h2'
        cases e : σ[js[i]]? with
        | none => rw [e] at q; cases q
        | some o => rw [e] at q; exact congrArg some q
      have kc : X.env.scope.names.lookup y = some .cell := (ok.free _ c2 rfl).1
      obtain ⟨mX, hX, hl⟩ := I4.loc
      obtain ⟨u, ru, lu⟩ := hl _ y v c1 h3' (.inr (.inl kc))
      refine ⟨u, ru, ?_⟩
      rcases lu with ⟨z, _⟩ | ⟨_, c, ec, ic⟩
      · have z : X.env.scope.names.lookup y = some .local := z
        rw [kc] at z; cases z
      · obtain ⟨c', e1, e2⟩ := capd y c2
        rw [ec] at e1
        cases e1
        refine .inr ⟨.inl ?_, c, e2, ic⟩
        show (relabel scope X.env).names.lookup y = some .cell
        rw [rl y, (ok.free _ c2 rfl).2]
        have kk : X.env.kindOf y = some .cell := kc
        simp only [Option.map_some, kk, I.ok.kind]
        rfl
  · show (compSt σ js none).length = (x :: ys).length
    unfold compSt
    rw [List.length_cons, List.length_cons, List.length_map, ok.len]
theorem comp_block {elt iter : Expr} {ifs : List Expr} {x : Str} {px pos : Pos} {scope : Scope} {ys : List Str} {js : List Nat} {tt : TT} {te : TE} {it : Addr} {fp : List Addr} {tn : Nat → Heap → Prop} {J : It} {RR : Value → Addr → Result → Shared → Prop} {E : Value → Shared → Prop}
    (hc : X.calm = true) (ok : CompOk X.env.scope scope X.N x ys js) (hts : ∀ C s H fp, PTs (compCx X scope (x :: ys) C s H fp) ifs tt) (hel : ∀ C s H fp, PE (compCx X scope (x :: ys) C s H fp) elt te)
    (I : Inv X pins σ H s) (T : Turn X.prog X.w X.K (.Name x px) J fp it tn) (st : tn 0 s.heap) (hf : ∀ b ∈ fp, FpOk X pins H b)
    (n : Nat) (out : Nat → Option V) (hn : n ≤ sizeLine)
    (step : ∀ i H', i < n → Same H H' → J.go i H' ∧ ∀ x H'', J.yld i H' x H'' → Same H' H'' ∧ tt (compSt σ js (some x)) H'' fun ok H2 => if ok = true then te (compSt σ js (some x)) H2 fun y H3 => Same H'' H3 ∧ out i = some y else Same H'' H2 ∧ out i = none)
    (stop : ∀ H', Same H H' → J.stop n H')
    (fin : ∀ (C D : Addr) (H' : Hp) (s' : Shared), Same H H' → H D = none → H' D = some (.lst ((List.range n).filterMap out)) → Inv X pins σ H' s' → s.heap.objs.size ≤ C → C < s'.heap.objs.size → (∃ m, s'.heap.Ns C m) → H' C = none → RR (.ref D) C (.ok .next) s') :
    wpAny (model X.prog X.w) X.A (newList []) (fun acc s3 => wpAny (model X.prog X.w) X.A (newFunctionEnv scope X.env.globals (clOf X.env scope.names []) [] X.env.qual none .none (some X.env)) (fun cenv s4 =>
      codeAny (model X.prog X.w) X.A (.compStart (.ListComp elt [⟨.Name x px, iter, ifs, 0⟩] scope pos) 0 (.ref it) acc { cenv with scope := relabel scope X.env }) (RR acc cenv.locals) s4) E s3) E s := by
  refine wpAny_newObj_type ?_
  have I3 : Inv X pins σ (upd H s.heap.objs.size (.lst [])) { s with heap := s.heap.push { cls := .type "list", data := .seq ([] : List Value).toArray } } := I.lnew (its := []) (t' := s.toks) .nil (Nat.zero_le _)
  have hD : H s.heap.objs.size = none := I.fresh
  generalize hDd : s.heap.objs.size = D at I3 hD ⊢
  have old3 : ∀ b o, s.heap.get? b = some o → (s.heap.push { cls := .type "list", data := .seq ([] : List Value).toArray }).get? b = some o := fun b o e => Heap.get?_push_of_some _ e
  have sz3 : (s.heap.push { cls := .type "list", data := .seq ([] : List Value).toArray }).objs.size = s.heap.objs.size + 1 := Heap.size_push ..
  generalize hs3 : s.heap.push { cls := .type "list", data := .seq ([] : List Value).toArray } = h3 at I3 old3 sz3 ⊢
  generalize hss : ({ s with heap := h3 } : Shared) = s3 at I3 ⊢
  have e3 : s3.heap = h3 := by rw [← hss]
  have f3 : ∀ b ∈ fp, FpOk X pins (upd H D (.lst [])) b := fun b hb => by
    obtain ⟨o, e, _⟩ := T.obj 0 _ st b hb
    refine ⟨?_, (hf b hb).2⟩
    rw [upd_ne (by rw [← hDd]; exact Nat.ne_of_lt (Heap.lt_size e))]
    exact (hf b hb).1
  refine wpAny_newFunctionEnv ok.cell (fun y hy => by cases hy) (fun h4 hn4 hsb4 => ?_) ok.kind
  have k4 : ∀ b o, s3.heap.get? b = some o → h4.get? b = some o := fun b o e => by
    rw [hsb4.2 b (Nat.ne_of_lt (Heap.lt_size e))]
    exact Heap.get?_push_of_some _ e
  have o3 : ∀ b ∈ fp, ∃ o, s3.heap.get? b = some o := fun b hb => by
    obtain ⟨o, e, _⟩ := T.obj 0 _ st b hb
    exact ⟨o, by rw [e3]; exact old3 b o e⟩
  have I4 := comp_enter (x := x) ok I3 f3 o3 k4 hn4
  have st4 : tn 0 h4 := T.keep 0 s.heap h4 st fun b hb o e => k4 b o (by rw [e3]; exact old3 b o e)
  have nD3 : s3.heap.objs.size ≠ D := by rw [e3, sz3, hDd]; exact Nat.succ_ne_self _
  have Dfp : ∀ b ∈ fp, b ≠ D := fun b hb => by
    obtain ⟨o, e, _⟩ := T.obj 0 _ st b hb
    rw [← hDd]; exact Nat.ne_of_lt (Heap.lt_size e)
  show codeAny (model X.prog X.w) X.A (.compStart (.ListComp elt [⟨.Name x px, iter, ifs, 0⟩] scope pos) 0 (.ref it) (.ref D) (compCx X scope (x :: ys) s3.heap.objs.size s3 (upd H D (.lst [])) fp).env) (RR (.ref D) s3.heap.objs.size) { s3 with heap := h4, toks := s3.toks + 0 }
  have I4' : Inv (compCx X scope (x :: ys) s3.heap.objs.size s3 (upd H D (.lst [])) fp) [] (compSt σ js none) (upd H D (.lst [])) { s3 with heap := h4, toks := s3.toks + 0 } := I4.tok _
  have stat : ∀ {pp : List (Addr × Obj)} {H' : Hp}, (∀ b ∈ fp, H' b = none) → (∀ p ∈ pp, p.1 ∉ fp) → ∀ b ∈ fp, FpOk (compCx X scope (x :: ys) s3.heap.objs.size s3 (upd H D (.lst [])) fp) pp H' b := fun {pp H'} hn hp b hb =>
    ⟨hn b hb, (I4'.ok.exf b hb).1, I4'.ok.exfs b hb, .inl hb, (I4'.ok.exf b hb).2, fun p hq z => hp p (by have hq' : p ∈ ([] : List (Addr × Obj)) ++ pp := hq; simpa using hq') (by rw [z]; exact hb)⟩
  have g : X.prog = (compCx X scope (x :: ys) s3.heap.objs.size s3 (upd H D (.lst [])) fp).prog := rfl
  have loop : codeAny (model X.prog X.w) X.A (.compLoop (.ListComp elt [⟨.Name x px, iter, ifs, 0⟩] scope pos) 0 (.ref it) (.ref D) (compCx X scope (x :: ys) s3.heap.objs.size s3 (upd H D (.lst [])) fp).env) (RR (.ref D) s3.heap.objs.size) { s3 with heap := h4, toks := s3.toks + 0 } := by
    refine compLoop_any (fun k s' => ∃ i o H', k = n - i ∧ i ≤ n ∧ Inv (compCx X scope (x :: ys) s3.heap.objs.size s3 (upd H D (.lst [])) fp) [] (compSt σ js o) H' s' ∧ tn i s'.heap ∧ (∀ b ∈ fp, H' b = none) ∧ Same H H' ∧ H' D = some (.lst ((List.range i).filterMap out))) ?_ n
      ⟨0, none, _, rfl, Nat.zero_le _, I4', st4, fun b hb => (f3 b hb).1, Same.new hD _, upd_same⟩
    rintro k s5 ⟨i, o5, H5, rfl, hi, I5, st5, fr5, sm5, hD5⟩
    by_cases hlt : i < n
    · obtain ⟨go, yl⟩ := step i H5 hlt sm5
      refine thn (T.item (compCx X scope (x :: ys) s3.heap.objs.size s3 (upd H D (.lst [])) fp) rfl rfl rfl hc i [] s5 _ H5 (fun _ _ => False) I5 (stat fr5 fun p hp => by cases hp) st5 go) fun r s6 ⟨u, hr, h6⟩ => ?_
      subst hr
      refine thn h6 fun _ s7 ⟨v, H7, I7, r7, y7, st7, fr7⟩ => ?_
      obtain ⟨sm7, q7⟩ := yl v H7 y7
      have I7' := I7.pinned (stat fr7 fun p hp => by cases hp) (T.obj _ _ st7)
      have nfp : ∀ p ∈ pinsAt fp s7.heap, p.1 ∈ fp := fun p hp => (of_pinsAt hp).1
      refine wpAny_assign_Name ?_
      refine store_ok (i := 0) I7' ok.nd rfl (.inl (lookup_relabel_local ok.here)) r7 (fun s8 I8 => ?_) (.inr (lookup_relabel_local ok.here))
      have I8' : Inv (compCx X scope (x :: ys) s3.heap.objs.size s3 (upd H D (.lst [])) fp) ([] ++ pinsAt fp s7.heap) (compSt σ js (some v)) H7 s8 := I8
      have hD7 : H7 D = some (.lst ((List.range i).filterMap out)) := sm7 _ _ hD5
      refine thn (hts _ _ _ _ _ s8 _ H7 _ I8' q7) fun okb s9 ⟨H9, I9, q9⟩ => ?_
      have fin9 : ∀ {s10 : Shared} {H10 : Hp} (o : Option V), Inv (compCx X scope (x :: ys) s3.heap.objs.size s3 (upd H D (.lst [])) fp) ([] ++ pinsAt fp s7.heap) (compSt σ js o) H10 s10 → Same H H10 → H10 D = some (.lst ((List.range (i + 1)).filterMap out)) →
          ∃ m, m < n - i ∧ ∃ i o H', m = n - i ∧ i ≤ n ∧ Inv (compCx X scope (x :: ys) s3.heap.objs.size s3 (upd H D (.lst [])) fp) [] (compSt σ js o) H' s10 ∧ tn i s10.heap ∧ (∀ b ∈ fp, H' b = none) ∧ Same H H' ∧ H' D = some (.lst ((List.range i).filterMap out)) := fun {s10 H10} o I10 sm10 hD10 => by
        refine ⟨n - (i + 1), by (first | lia | omega), i + 1, o, H10, rfl, hlt, I10.unpinned, T.keep _ _ _ st7 fun b hb ob e => (I10.pin (b, ob) (List.mem_append_right _ (List.mem_append_right _ (mem_pinsAt hb e)))).1, fun b hb => ?_, sm10, hD10⟩
        obtain ⟨ob, e, d⟩ := T.obj _ _ st7 b hb
        exact (I10.pin (b, ob) (List.mem_append_right _ (List.mem_append_right _ (mem_pinsAt hb e)))).2.1
      cases okb with
      | false =>
        rw [if_neg (by decide)] at q9
        rw [if_neg (by decide)]
        refine fin9 _ I9 (sm5.trans (sm7.trans q9.1)) ?_
        rw [filterMap_range_succ, q9.2]
        simp only [Option.toList, List.append_nil]
        exact q9.1 _ _ hD7
      | true =>
        rw [if_pos rfl] at q9
        rw [if_pos rfl]
        refine thn (hel _ _ _ _ _ s9 _ H9 _ I9 q9) fun y s10 ⟨v10, H10, I10, r10, sm10, o10⟩ => ?_
        have hD10 := sm10 _ _ hD7
        have hlen : ((List.range i).filterMap out).length < sizeLine := Nat.lt_of_le_of_lt (List.length_filterMap_le _ _) (by rw [List.length_range]; (first | lia | omega))
        refine thn (mt_append _ s10 _ H10 (.ref D) [v10] (.ref D) [y] (fun _ H11 => Same H H11 ∧ H11 D = some (.lst ((List.range (i + 1)).filterMap out))) I10 rfl (.cons r10 .nil) ⟨D, _, v10, rfl, rfl, hD10, hlen, ?_, ?_⟩) fun _ s11 ⟨_, H11, I11, _, sm11, hD11⟩ => fin9 _ I11 sm11 hD11
        · intro b ob e
          rw [upd_ne (ne_of_none e hD)]
          exact sm10 _ _ (sm7 _ _ (sm5 _ _ e))
        · rw [upd_same, filterMap_range_succ, o10]
          rfl
    · have hin : i = n := by (first | lia | omega)
      subst hin
      refine thn (T.done (compCx X scope (x :: ys) s3.heap.objs.size s3 (upd H D (.lst [])) fp) rfl rfl rfl hc i [] s5 _ H5 (fun _ _ => False) I5 (stat fr5 fun p hp => by cases hp) st5 (stop H5 sm5)) fun r s6 ⟨hr, I6⟩ => ?_
      subst hr
      have J6 : Inv X pins σ H5 s6 := I3.call' (ch := fp) I6.os I6.base I6.hok I6.bare fun b hb => (f3 b hb).2.2.2 |> fun z => ⟨z.1, (f3 b hb).2.1, z.2.1, z.2.2⟩
      obtain ⟨m6, hn6, _⟩ := I6.loc
      exact fin s3.heap.objs.size D H5 s6 sm5 hD hD5 J6 (by rw [e3, sz3]; exact Nat.le_succ _) hn6.lt ⟨m6, hn6⟩ I6.free
  exact codeAny_compStart_list loop (T.self _ 0 _ _ _ st4 loop)
theorem pe_comp {elt iter : Expr} {ifs : List Expr} {x : Str} {px pos : Pos} {scope : Scope} {ys : List Str} {js : List Nat} {wi : TI} {tt : TT} {te : TE} (hc : X.calm = true) (ok : CompOk X.env.scope scope X.N x ys js) (hi : PI X (.Name x px) iter wi)
    (hts : ∀ C s H fp, PTs (compCx X scope (x :: ys) C s H fp) ifs tt) (hel : ∀ C s H fp, PE (compCx X scope (x :: ys) C s H fp) elt te) (hs : ∀ v, foldedSetIterable iter X.env v = pure v := by intro _; rfl) :
    PE X (.ListComp elt [⟨.Name x px, iter, ifs, 0⟩] scope pos) (tComp wi js tt te) := by
  intro pins s σ H Q I h
  rw [eval_ListComp]
  have hclos : closureFor scope X.env = pure (clOf X.env scope.names []) := closureFor_clOf fun p hp e => I.ok.has p.1 (.inl (ok.free p hp e).1)
  refine wpAny_comprehension_free (use := none) rfl hs hclos ok.kind ok.loc (thn (hi pins s σ H _ I h) fun v s1 h1 => thn h1 fun itv s2 h2 => ?_)
  obtain ⟨it, fp, tn, J, H2, e, I2, T, st2, f2, n, out, hn, step, stop, fin⟩ := h2
  subst e
  refine comp_block (RR := fun acc C => compPost (model X.prog X.w) X.A X.xe none (EP X pins σ Q) acc C) hc ok hts hel I2 T st2 f2 n out hn step stop fun C D H' s' sm hD hD' I' hC hC' hns hfree => ?_
  obtain ⟨m, hn'⟩ := hns
  refine ⟨m, hn', fun h' sb => ?_⟩
  have I'' : Inv X pins σ H' { s' with heap := h', toks := s'.toks } := by
    refine I'.turned (it := C) (fun b o hb e => ?_) hfree ?_ (.inr (Nat.le_trans I2.sz hC)) (fun y c e z => ?_) fun p hp z => ?_
    · rw [sb.2 b hb]; exact e
    · exact Ne.symm (Nat.ne_of_lt (Nat.lt_of_lt_of_le I2.lt hC))
    · obtain ⟨_, q⟩ := I2.cell y c e
      exact absurd (Nat.lt_of_lt_of_le q.lt (by rw [z]; exact hC)) (Nat.lt_irrefl _)
    · exact absurd (Nat.lt_of_lt_of_le (Heap.lt_size (I2.pin p hp).1) (by rw [z]; exact hC)) (Nat.lt_irrefl _)
  exact ⟨.ref D, H', I'', rfl, fin D H' sm hD hD'⟩
theorem ps_setC {elt iter : Expr} {ifs : List Expr} {x y : Str} {px py pos spos : Pos} {scope : Scope} {ys : List Str} {js : List Nat} {wi : TI} {tt : TT} {te : TE} {k : Nat} (hc : X.calm = true) (ok : CompOk X.env.scope scope X.N x ys js) (hi : PI X (.Name x px) iter wi)
    (hts : ∀ C s H fp, PTs (compCx X scope (x :: ys) C s H fp) ifs tt) (hel : ∀ C s H fp, PE (compCx X scope (x :: ys) C s H fp) elt te)
    (hN : X.N.Nodup) (hk : X.N[k]? = some y) (hy : Loc X.env.scope y)
    (hsw : swapsWith (.ListComp elt [⟨.Name x px, iter, ifs, 0⟩] scope pos) (some (.Name y py)) spos.line X.env = pure true := by rfl)
    (hf : X.fn y = true ∨ X.env.scope.names.lookup y = some .local := by first | exact .inl rfl | exact .inr rfl | assumption) (hs : ∀ v, foldedSetIterable iter X.env v = pure v := by intro _; rfl) :
    PS X (.Assign [.Name y py] (.ListComp elt [⟨.Name x px, iter, ifs, 0⟩] scope pos) spos) (fun D σ H => tComp wi js tt te σ H fun v H' => D.nx (σ.set k (some v)) H') := by
  intro pins s σ H D I h
  rw [exec_Assign_Name_used _ _ _ _ hsw]
  refine wpAny_bind (wpAny_standAt (wpAny_bind ?_))
  show wpAny _ X.A (do let _ ← comprehension (.ListComp elt [⟨.Name x px, iter, ifs, 0⟩] scope pos) scope X.env _ (newList []) false (eval iter X.env) (some (assign (.Name y py) X.env))) _ _ s
  have hclos : closureFor scope X.env = pure (clOf X.env scope.names []) := closureFor_clOf fun p hp e => I.ok.has p.1 (.inl (ok.free p hp e).1)
  refine wpAny_bind (wpAny_mono (wpAny_comprehension_free (use := some (assign (.Name y py) X.env)) (Q := fun _ s' => SP X pins D .next s') rfl hs hclos ok.kind ok.loc
    (thn (hi pins s σ H _ I h) fun v s1 h1 => thn h1 fun itv s2 h2 => ?_)) (fun _ s' hq => wpAny_pure (wpAny_pure hq)) fun _ _ e => e)
  obtain ⟨it, fp, tn, J, H2, e, I2, T, st2, f2, n, out, hn, step, stop, fin⟩ := h2
  subst e
  refine comp_block (RR := fun acc C => compPost (model X.prog X.w) X.A X.xe (some (assign (.Name y py) X.env)) (fun _ s' => SP X pins D .next s') acc C) hc ok hts hel I2 T st2 f2 n out hn step stop fun C Da H' s' sm hD hD' I' hC hC' hns hfree => ?_
  obtain ⟨m, hn'⟩ := hns
  show wpAny _ X.A (assign (.Name y py) X.env (.ref Da)) _ _ s'
  have nL : C ≠ X.env.locals := Ne.symm (Nat.ne_of_lt (Nat.lt_of_lt_of_le I2.lt hC))
  have nC : ∀ y c, X.env.cells.lookup y = some c → c ≠ C := fun y c e z => by
    obtain ⟨_, q⟩ := I2.cell y c e
    exact absurd (Nat.lt_of_lt_of_le q.lt (by rw [z]; exact hC)) (Nat.lt_irrefl _)
  refine wpAny_assign_Name (store_ok2 I' hN hk hy (show RelV (.ref Da) (.ref Da) from rfl) (fun s'' I'' ⟨a, sb, ha⟩ => ?_) hf)
  have naC : a ≠ C := by
    rcases ha with z | z
    · rw [z]; exact Ne.symm nL
    · exact nC _ _ z
  refine ⟨m, hn'.at' fun o e => ?_, fun h' sb' => ?_⟩
  · rw [sb.2 C (Ne.symm naC)]; exact e
  have I3 : Inv X pins (σ.set k (some (.ref Da))) H' { s'' with heap := h', toks := s''.toks } := by
    refine I''.turned (it := C) (fun b o hb e => ?_) hfree nL (.inr (Nat.le_trans I2.sz hC)) nC fun p hp z => ?_
    · rw [sb'.2 b hb]; exact e
    · exact absurd (Nat.lt_of_lt_of_le (Heap.lt_size (I2.pin p hp).1) (by rw [z]; exact hC)) (Nat.lt_irrefl _)
  exact ⟨_, H', I3, fin Da H' sm hD hD'⟩
end
end L2
namespace L2
open PySem PySem.Spec PyProof.Rows
noncomputable def DefOk (P : Program) (w : World) (K : PySem.W.Frag) (mg : Str → Option Value) (base : Heap) (k : Nat) (x : Str) (ps : List Str) (sp : Sp) : Prop :=
  ∃ f fd, FnOk P w K mg base CX0 k f fd ps sp ∧ Binds K fd ps [] ∧ PySem.W.keepIn K (.ref f) = true ∧ mg x = some (.ref f)
theorem DefOk.mono {P : Program} {w : World} {K : PySem.W.Frag} {mg : Str → Option Value} {base : Heap} {j k : Nat} {x : Str} {ps : List Str} {sp : Sp} (D : DefOk P w K mg base j x ps sp) (h : j ≤ k) : DefOk P w K mg base k x ps sp := by
  obtain ⟨f, fd, F, r⟩ := D
  exact ⟨f, fd, F.mono h, r⟩
structure Txt1 (K : PySem.W.Frag) (mg : Str → Option Value) (x : Str) (st : Stmt) (ps : List Str) : Prop where
  ex : ∃ f fd, Fun K x x st f fd ∧ Binds K fd ps [] ∧ mg x = some (.ref f)
theorem Txt1.ok {P : Program} {w : World} {K : PySem.W.Frag} {mg : Str → Option Value} {base : Heap} {x : Str} {st : Stmt} {N ps : List Str} {k : Nat} {sp : Sp} (F : Txt1 K mg x st ps) (S : FnScope N ps (defScope st)) (len : ∀ vs H Q E, sp vs H Q E → vs.length = ps.length)
    (hbody : ∀ (f : Addr) (cdv : Value) (A : Around) (outer : List Env) (s : Shared) (H : Hp) (vs : List V) (Q : VK) (E : XK), Room k (A.deeper (envOfC x (defScope st) s.heap.objs.size f cdv)) → sp vs H Q E →
      ∃ t, PSs (cxOf CX0 P w K mg base N x (defScope st) f cdv A outer s H E).nox (defBody st) t ∧ t { nx := fun _ H' => Q .non H', rt := Q } (start N vs) H) : DefOk P w K mg base (k + 1) x ps sp := by
  obtain ⟨f, fd, F, b, m⟩ := F.ex
  exact ⟨f, fd, F.ok S len (hbody f), b, F.kp, m⟩
section
variable {X : Cx} {k : Nat} {x : Str} {ps : List Str} {sp : Sp} {e : Expr} {es : List Expr} {t : TA} {te : TE} {p pos : Pos}
theorem pe_callD (D : DefOk X.prog X.w X.K X.mg X.base k x ps sp) (hr : Room k X.A) (hg : Gl X x) (ha : PA X (e :: es) t) (hdb : (x == ("__debug__" : Str)) = false := by decide) (he : starEach (e :: es) X.env = (false, eval e X.env) :: starEach es X.env := by rfl) (hpl : (backTo pos (starEach es X.env)).any (·.1) = false := by rfl) :
    PE X (.Call (.Name x p) (e :: es) [] pos) (tCall sp [] E0 t) := by
  obtain ⟨f, fd, F, b, kp, m⟩ := D
  exact pe_call F hr hg m kp b .nil pass0 ha hdb he hpl
theorem pe_callD0 (D : DefOk X.prog X.w X.K X.mg X.base k x ps sp) (hr : Room k X.A) (hg : Gl X x) (hdb : (x == ("__debug__" : Str)) = false := by decide) : PE X (.Call (.Name x p) [] [] pos) (tCall sp [] E0 tNil) := by
  obtain ⟨f, fd, F, b, kp, m⟩ := D
  exact pe_call0 F hr hg m kp b .nil pass0 hdb
theorem call_listU : CallR X (.type "list") (fun xs H Q => ∃ p ys, xs = [.ref p] ∧ (SqL X.K H p ys ∨ SqT X.K H p ys) ∧ ∀ l H', Same H H' → H l = none → H' l = some (.lst ys) → Q (.ref l) H') := by
  intro pins s σ H xs us Q I r h
  obtain ⟨p, ys, rfl, hq, q⟩ := h
  exact call_list_of pins s σ H _ us Q I r ⟨p, ys, rfl, hq, fun l hl => q l _ (Same.new hl _) hl upd_same⟩
theorem call_tupleU : CallR X (.type "tuple") (fun xs H Q => ∃ p ys, xs = [.ref p] ∧ (SqL X.K H p ys ∨ SqT X.K H p ys) ∧ ∀ l H', Same H H' → SqT X.K H' l ys → Q (.ref l) H') := by
  intro pins s σ H xs us Q I r h
  obtain ⟨p, ys, rfl, hq, q⟩ := h
  refine call_tuple_of pins s σ H _ us Q I r ⟨p, ys, rfl, ?_⟩
  rcases hq with hq | hq
  · exact .inl ⟨hq, fun l hl => q l _ (Same.new hl _) (SqT.of upd_same)⟩
  · exact .inr ⟨hq, q p H (Same.refl _) hq⟩
theorem pe_tyn {T : String} {c : Str} {p2 : Pos} (hgc : Gl X c) (hmc : X.mg c = none) (hv : bootBuiltins c = some (.type T)) (hn : c ≠ "__name__" := by decide) (hdb : (c == ("__debug__" : Str)) = false := by decide) : PE X (.Name c p2) (tC (.ty T)) := pe_bltn hgc hmc hv rfl hn hdb
theorem kit_yes {K : PySem.W.Frag} {t : Value} : PySem.W.kitOne K t t = some true := by unfold PySem.W.kitOne; rw [if_pos (beq_self_eq_true t)]
noncomputable def rAll (K : PySem.W.Frag) : List V → Hp → VK → Prop := fun xs H Q => ∃ (p : Addr) (bs : List Bool), xs = [.ref p] ∧ SqL K H p (bs.map V.bl) ∧ Q (.bl (bs.all id)) H
theorem vals_bools : ∀ {bs : List Bool} {us : List Value}, Vals (bs.map V.bl) us → us = bs.map Value.bool
  | [], _, .nil => rfl
  | b :: bs, _, .cons r t => by
    cases r
    rw [vals_bools t]
    rfl
theorem call_allL (hc : X.calm = true) : CallR X (.builtin "all") (rAll X.K) := by
  intro pins s σ H xs us Q I r h
  obtain ⟨p, bs, rfl, hq, q⟩ := h
  obtain ⟨u, rfl, ru⟩ := vals1 r
  cases ru
  obtain ⟨its, rv, pl, hz⟩ := I.list hq
  have e := vals_bools rv
  subst e
  have hh : X.A.in1.handled = none := I.ok.hd hc
  refine call_all_walk (wpAny_pyIter_list pl.isList ?_)
  have hlt : p < s.heap.objs.size := by
    obtain ⟨o, ho, _⟩ := pl.isList
    exact Heap.lt_size ho
  have hl2 : (s.heap.push { cls := .type "list_iterator", data := .fields #[.ref p, .int 0 0] }).IsList p (bs.map Value.bool).toArray := by
    obtain ⟨o, ho, r⟩ := pl.isList
    exact ⟨o, Heap.get?_push_of_some _ ho, r⟩
  refine ⟨s.heap.objs.size, [s.heap.objs.size, p], [s.heap.objs.size], _, _, _, fun i => bs.getD i false, rfl, Walks.list hh _ p (Nat.ne_of_lt hlt) (bs.map Value.bool).toArray, ⟨⟨_, Heap.get?_push_size _ rfl, rfl, rfl⟩, hl2⟩, fun i v s' Q' E' hP hQ => ?_, fun h' tk k => ?_⟩
  · have hv : v = .bool (bs.getD i false) := by
      have hP' : (bs.map Value.bool)[i]? = some v := by simpa using hP
      rw [List.getElem?_map] at hP'
      rw [List.getD_eq_getElem?_getD]
      cases e : bs[i]? with
      | none => rw [e] at hP'; cases hP'
      | some b => rw [e] at hP'; cases hP'; rfl
    subst hv
    exact wpAny_truthy_bool hQ
  · have I' : Inv X pins σ H { s with heap := h', toks := tk } := I.kept fun b o e => k b o (by simp; exact Nat.ne_of_lt (Heap.lt_size e)) (Heap.get?_push_of_some _ e)
    refine ⟨.bl (bs.all id), H, I', ?_, q⟩
    show Value.bool _ = Value.bool _
    congr 1
    have key : ∀ l : List Bool, ((List.range l.length).all fun i => l.getD i false) = l.all id := by
      intro l
      induction l with
      | nil => rfl
      | cons a r ih =>
        rw [List.length_cons, List.range_succ_eq_map, List.all_cons, List.all_map, List.all_cons, ← ih]
        rfl
    have := key bs
    simpa using this
end
end L2
namespace L2
open PySem PySem.Spec PyProof.Rows
inductive TyV (K : PySem.W.Frag) (H : Hp) : V → Value → Prop where
  | of {x : V} {t : Value} : TyOf K H x t → TyV K H x t
  | tup {a : Addr} {xs : List V} : SqT K H a xs → TyV K H (.ref a) (.type "tuple")
  | lst {a : Addr} {xs : List V} : SqL K H a xs → TyV K H (.ref a) (.type "list")
theorem TyV.int {K : PySem.W.Frag} {H : Hp} (i : Int) : TyV K H (.int i) (.type "int") := .of (.int i)
theorem TyV.bl {K : PySem.W.Frag} {H : Hp} (b : Bool) : TyV K H (.bl b) (.type "bool") := .of (.bl b)
theorem TyV.str {K : PySem.W.Frag} {H : Hp} (x : Str) : TyV K H (.str x) (.type "str") := .of (.str x)
theorem TyV.non {K : PySem.W.Frag} {H : Hp} : TyV K H .non (.type "NoneType") := .of .non
section
variable {X : Cx}
noncomputable def rIsV (K : PySem.W.Frag) (T : String) : List V → Hp → VK → Prop := fun xs H Q => ∃ x t b, xs = [x, .ty T] ∧ TyV K H x t ∧ PySem.W.kitOne K t (.type T) = some b ∧ Q (.bl b) H
theorem call_isv {T : String} : CallR X (.builtin "isinstance") (rIsV X.K T) := by
  intro pins s σ H xs us Q I r h
  obtain ⟨x, t, b, rfl, ty, e, q⟩ := h
  obtain ⟨u, w', rfl, r1, r2⟩ := vals2 r
  cases r2
  cases ty with
  | of ty => exact isinst_ok I r1 ty e fun tk => ⟨.bl b, H, I.tok _, rfl, q⟩
  | tup hx =>
    cases r1
    obtain ⟨_, _, ⟨o, h1, h2, _⟩, _⟩ := I.tuple hx
    exact PySem.W.kia_one PySem.W.kitx_tuple I.kIn ⟨o, h1, h2⟩ e (fun z => nomatch z) fun tk => ⟨.bl b, H, I.tok _, rfl, q⟩
  | lst hx =>
    cases r1
    obtain ⟨_, _, pl, _⟩ := I.list hx
    obtain ⟨o, h1, h2, _⟩ := pl.isList
    exact PySem.W.kia_one PySem.W.kitx_list I.kIn ⟨o, h1, h2⟩ e (fun z => nomatch z) fun tk => ⟨.bl b, H, I.tok _, rfl, q⟩
end
theorem kit_bool_int {K : PySem.W.Frag} : PySem.W.kitOne K (.type "bool") (.type "int") = some true := by rfl
theorem kit_int_bool {K : PySem.W.Frag} : PySem.W.kitOne K (.type "int") (.type "bool") = some false := by rfl
theorem kit_str_int {K : PySem.W.Frag} : PySem.W.kitOne K (.type "str") (.type "int") = some false := by rfl
theorem kit_non_int {K : PySem.W.Frag} : PySem.W.kitOne K (.type "NoneType") (.type "int") = some false := by rfl
theorem kit_list_tuple {K : PySem.W.Frag} : PySem.W.kitOne K (.type "list") (.type "tuple") = some false := by rfl
theorem kit_non_tuple {K : PySem.W.Frag} : PySem.W.kitOne K (.type "NoneType") (.type "tuple") = some false := by rfl
theorem filterMap_index {xs : List V} (f : V → Option V) : (List.range xs.length).filterMap (fun i => (xs[i]?).bind f) = xs.filterMap f := by
  induction xs with
  | nil => rfl
  | cons x r ih =>
    rw [List.length_cons, List.range_succ_eq_map, List.filterMap_cons, List.filterMap_map, List.filterMap_cons, ← ih]
    rfl
theorem comp_list {K : PySem.W.Frag} {a : Addr} {xs : List V} {H1 : Hp} {tt : TT} {te : TE} {σ : St} {js : List Nat} {Q : VK} (hx : SqL K H1 a xs) (hz : xs.length ≤ sizeLine) (f : V → Option V)
    (step : ∀ x H', x ∈ xs → Same H1 H' → tt (compSt σ js (some x)) H' fun ok H2 => if ok = true then te (compSt σ js (some x)) H2 fun y H3 => Same H' H3 ∧ f x = some y else Same H' H2 ∧ f x = none)
    (fin : ∀ p H', Same H1 H' → H1 p = none → H' p = some (.lst (xs.filterMap f)) → Q (.ref p) H') :
    CompB (Itl K a) H1 js tt te σ Q := by
  refine ⟨xs.length, fun i => (xs[i]?).bind f, hz, fun i H' hi sm => ⟨⟨xs, xs[i], sm.seq hx, by simp [hi]⟩, fun x H'' y => ?_⟩, fun H' sm => ⟨xs, sm.seq hx, Nat.le_refl _⟩, fun p H' sm hp e => fin p H' sm hp (by rw [← filterMap_index]; exact e)⟩
  obtain ⟨rfl, y⟩ := y
  have e := y xs (sm.seq hx)
  refine ⟨Same.refl _, ?_⟩
  have := step x H'' (List.mem_of_getElem? e) sm
  simpa only [e, Option.bind_some] using this
theorem comp_range {lo : Int} {n : Nat} {H1 : Hp} {tt : TT} {te : TE} {σ : St} {js : List Nat} {Q : VK} (hz : n ≤ sizeLine) (f : Nat → Option V)
    (step : ∀ i H', i < n → Same H1 H' → tt (compSt σ js (some (.int (lo + (i : Int))))) H' fun ok H2 => if ok = true then te (compSt σ js (some (.int (lo + (i : Int))))) H2 fun y H3 => Same H' H3 ∧ f i = some y else Same H' H2 ∧ f i = none)
    (fin : ∀ p H', Same H1 H' → H1 p = none → H' p = some (.lst ((List.range n).filterMap f)) → Q (.ref p) H') :
    CompB (Itr lo n) H1 js tt te σ Q := by
  refine ⟨n, f, hz, fun i H' hi sm => ⟨hi, fun x H'' y => ?_⟩, fun H' sm => Nat.le_refl _, fin⟩
  obtain ⟨rfl, rfl⟩ := y
  exact ⟨Same.refl _, step i _ hi sm⟩
theorem filterMap_some_map {α : Type} (xs : List α) (f : α → V) : xs.filterMap (fun x => some (f x)) = xs.map f := by
  induction xs with
  | nil => rfl
  | cons x r ih => rw [List.filterMap_cons, List.map_cons, ih]
section
variable {X : Cx} (K : PySem.W.Frag)
theorem ix_tupK (e : X.K = K := by rfl) : IxR X (rIxT K) := by subst e; exact ix_tup
theorem ix_listK (e : X.K = K := by rfl) : IxR X (rIxL K) := by subst e; exact ix_list
theorem sl_tupK (e : X.K = K := by rfl) : SlR X (rSlU K) := by subst e; exact sl_tupU
theorem sl_listK (e : X.K = K := by rfl) : SlR X (rSlLU K) := by subst e; exact sl_listU
theorem op_catK (e : X.K = K := by rfl) : OpR X (binaryOp .Add) (rCatU K) := by subst e; exact op_catU
theorem op_catLK (e : X.K = K := by rfl) : OpR X (binaryOp .Add) (rCatL K) := by subst e; exact op_catL
theorem op_repK (e : X.K = K := by rfl) : OpR X (binaryOp .Mult) (rRepT K) := by subst e; exact op_repT
theorem op_repLK (e : X.K = K := by rfl) : OpR X (binaryOp .Mult) (rRepL K) := by subst e; exact op_repL
theorem op_eqDK (hu : X.A.units + 64 < cLine) (e : X.K = K := by rfl) : OpR X (compareOp .Eq) (rEqD K) := by subst e; exact op_eqD hu
theorem op_neDK (hu : X.A.units + 64 < cLine) (e : X.K = K := by rfl) : OpR X (compareOp .NotEq) (rNeD K) := by subst e; exact op_neD hu
theorem call_isvK {T : String} (e : X.K = K := by rfl) : CallR X (.builtin "isinstance") (rIsV K T) := by subst e; exact call_isv
theorem call_lenK (e : X.K = K := by rfl) : CallR X (.builtin "len") (fun xs H Q => ∃ p ys, xs = [.ref p] ∧ (SqL K H p ys ∨ SqT K H p ys) ∧ Q (.int ys.length) H) := by subst e; exact call_len_seq
theorem call_listK (e : X.K = K := by rfl) : CallR X (.type "list") (fun xs H Q => ∃ p ys, xs = [.ref p] ∧ (SqL K H p ys ∨ SqT K H p ys) ∧ ∀ l H', Same H H' → H l = none → H' l = some (.lst ys) → Q (.ref l) H') := by subst e; exact call_listU
theorem call_tupleK (e : X.K = K := by rfl) : CallR X (.type "tuple") (fun xs H Q => ∃ p ys, xs = [.ref p] ∧ (SqL K H p ys ∨ SqT K H p ys) ∧ ∀ l H', Same H H' → SqT K H' l ys → Q (.ref l) H') := by subst e; exact call_tupleU
theorem pt_truthK {a : Expr} {ta : TE} (ha : PE X a ta) (he : ∀ whole, isTrue a X.env whole = (do let v ← whole; standAt a.pos; holding [v] (truthy v))) (e : X.K = K := by rfl) :
    PT X a (fun σ H Q => ta σ H fun x H' => ∃ k, TruV K x H' k ∧ Q k H') := by subst e; exact pt_truth ha he
end
end L2
namespace L2
open PySem PySem.Spec PyProof.Rows
section
variable {M : Model} {A : Around} {E : Value → Shared → Prop} {s : Shared} {base : Heap} {env : Env} {outer : List Env} {L e T : Addr} {cls : Value} {dd : Option Addr} {Q : Unit → Shared → Prop}
end
section
variable {X : Cx} {pins : List (Addr × Obj)} {σ : St} {H H' : Hp} {s s' : Shared} {b : Addr}
end
section
variable {X : Cx} {pins : List (Addr × Obj)} {σ : St} {H : Hp} {s : Shared}
end
section
variable {P : Program} {w : World} {K : PySem.W.Frag} {mg : Str → Option Value} {base : Heap} {N : List Str} {qual : Str} {scope : Scope} {f : Addr} {cd : Value} {A : Around} {outer : List Env} {s : Shared} {H : Hp} {E : XK}
end
section
variable {X : Cx} {k : Nat} {x : Str} {ps : List Str} {sp : Sp} {e : Expr} {es : List Expr} {t : TA} {te : TE} {p pos : Pos} {E : St → XK}
end
section
variable {X : Cx} {pins : List (Addr × Obj)} {σ : St} {H : Hp} {s : Shared} {a : Addr} {R : St → XK} {D : Ends} {f : Flow}
end
noncomputable abbrev TH := Ends → Value → Option Addr → St → Hp → Prop
section
variable {X : Cx} {pins : List (Addr × Obj)} {σ : St} {H : Hp} {s : Shared} {a T : Addr} {cls : Value} {dd : Option Addr}
end
section
variable {X : Cx} {C : Addr} {x n : Str} {i : Nat} {np pos : Pos} {b₀ : Stmt} {body : List Stmt} {rest : List ExceptHandler} {ts : TS} {thr : TH}
end
end L2
namespace L2
open PySem PySem.Spec PyProof.Rows
theorem vals_at {ns : List Int} {us : List Value} (r : Vals (ns.map V.int) us) {i : Nat} {v : Value} (h : us[i]? = some v) : ∃ t, v = .int (ns.getD i 0) t := by
  have hl := r.length
  rw [List.length_map] at hl
  have hi : i < us.length := (List.getElem?_eq_some_iff.mp h).1
  have hn : (ns.map V.int)[i]? = some (.int (ns.getD i 0)) := by
    rw [List.getElem?_map, List.getElem?_eq_getElem (by (first | lia | omega)), List.getD_eq_getElem?_getD, List.getElem?_eq_getElem (by (first | lia | omega))]
    rfl
  obtain ⟨u, hu, ru⟩ := r.get hn
  rw [h] at hu
  cases hu
  exact ru
section
variable {X : Cx} {pins : List (Addr × Obj)} {σ : St} {H : Hp} {s : Shared}
theorem walk_seq {A : Around} {E : Value → Shared → Prop} {p : Addr} {ns : List Int} {Q : Value → Shared → Prop} (I : Inv X pins σ H s) (hh : A.handled = none) (hq : SqL X.K H p (ns.map V.int) ∨ SqT X.K H p (ns.map V.int))
    (h : ∀ (it : Addr) (fp wr : List Addr) (n : Nat) (P : Nat → Value → Prop) (St : Nat → Heap → Prop) (s2 : Shared), n = ns.length → Walks X.prog X.w A it fp wr n P St → St 0 s2.heap → (∀ b ∈ fp, b < s2.heap.objs.size) → (∀ i v, P i v → ∃ t, v = .int (ns.getD i 0) t) →
      (∀ h' tk, (∀ b o, b ∉ wr → s2.heap.get? b = some o → h'.get? b = some o) → Inv X pins σ H { s2 with heap := h', toks := tk }) → Q (.ref it) s2) :
    wpAny (model X.prog X.w) A (pyIter (.ref p)) Q E s := by
  rcases hq with hq | hq
  · obtain ⟨its, rv, pl, hz⟩ := I.list hq
    refine wpAny_pyIter_list pl.isList ?_
    obtain ⟨o, ho, ro⟩ := pl.isList
    have hlt : p < s.heap.objs.size := Heap.lt_size ho
    refine h s.heap.objs.size [s.heap.objs.size, p] [s.heap.objs.size] its.toArray.size _ _ _ (by have := rv.length; rw [List.length_map] at this; simp [this]) (Walks.list hh _ p (Nat.ne_of_lt hlt) its.toArray) ⟨⟨_, Heap.get?_push_size _ rfl, rfl, rfl⟩, ⟨o, Heap.get?_push_of_some _ ho, ro⟩⟩ (fun b hb => ?_) (fun i v hv => vals_at rv (by simpa using hv)) fun h' tk k => ?_
    · simp only [List.mem_cons, List.not_mem_nil, or_false] at hb
      rw [Heap.size_push]
      rcases hb with rfl | rfl
      · exact Nat.lt_succ_self _
      · exact Nat.lt_succ_of_lt hlt
    · exact I.kept fun b o e => k b o (by simp; exact Nat.ne_of_lt (Heap.lt_size e)) (Heap.get?_push_of_some _ e)
  · obtain ⟨its, rv, pl, hz⟩ := I.tuple hq
    obtain ⟨o, ho, ro⟩ := pl
    refine wpAny_pyIter_tuple ⟨o, ho, ro⟩ ?_
    have hlt : p < s.heap.objs.size := Heap.lt_size ho
    refine h s.heap.objs.size [s.heap.objs.size, p] [s.heap.objs.size] its.toArray.size _ _ _ (by have := rv.length; rw [List.length_map] at this; simp [this]) (Walks.tuple hh _ p (Nat.ne_of_lt hlt) its.toArray) ⟨⟨_, Heap.get?_push_size _ rfl, rfl, rfl⟩, ⟨o, Heap.get?_push_of_some _ ho, ro⟩⟩ (fun b hb => ?_) (fun i v hv => vals_at rv (by simpa using hv)) fun h' tk k => ?_
    · simp only [List.mem_cons, List.not_mem_nil, or_false] at hb
      rw [Heap.size_push]
      rcases hb with rfl | rfl
      · exact Nat.lt_succ_self _
      · exact Nat.lt_succ_of_lt hlt
    · exact I.kept fun b o e => k b o (by simp; exact Nat.ne_of_lt (Heap.lt_size e)) (Heap.get?_push_of_some _ e)
noncomputable def rMax (K : PySem.W.Frag) : List V → Hp → VK → Prop := fun xs H Q => ∃ (p : Addr) (ns : List Int), xs = [.ref p] ∧ (SqL K H p (ns.map V.int) ∨ SqT K H p (ns.map V.int)) ∧ 0 < ns.length ∧ ∀ M, M ∈ ns → (∀ a, a ∈ ns → a ≤ M) → Q (.int M) H
theorem getD_in {ns : List Int} {i : Nat} (h : i < ns.length) : ns.getD i 0 ∈ ns := by
  rw [List.getD_eq_getElem?_getD, List.getElem?_eq_getElem h]; exact List.getElem_mem h
theorem call_maxS (hc : X.calm = true) : CallR X (.builtin "max") (rMax X.K) := by
  intro pins s σ H xs us Q I r h
  obtain ⟨p, ns, rfl, hq, h0, q⟩ := h
  obtain ⟨u, rfl, ru⟩ := vals1 r
  cases ru
  refine call_max_walk (walk_seq I (I.ok.hd hc) hq fun it fp wr n P St s2 en W st hfp hv k => ⟨it, fp, wr, n, P, St, _, rfl, W, st, hfp, by (first | lia | omega), CmpOf.ints_gt (fun i => ns.getD i 0) hv, fun v h' tk hP hk => ?_⟩)
  obtain ⟨t, rfl⟩ := hv _ _ hP
  obtain ⟨a1, a2⟩ := argBest_gt (fun i => ns.getD i 0) (n - 1)
  refine ⟨.int _, H, k h' tk hk, ⟨t, rfl⟩, q _ (getD_in (by (first | lia | omega))) fun a ha => ?_⟩
  obtain ⟨i, hi, e⟩ := List.getElem_of_mem ha
  have := a2 i (by (first | lia | omega))
  have e2 : ns.getD i 0 = a := by rw [List.getD_eq_getElem?_getD, List.getElem?_eq_getElem hi]; exact e
  rw [e2] at this
  exact this
end
end L2
namespace L2
open PySem PySem.Spec PyProof.Rows
section
variable {X : Cx} {pins : List (Addr × Obj)} {σ : St} {H : Hp} {s : Shared}
end
section
variable {X : Cx} (K : PySem.W.Frag)
theorem pi_listK {tg l : Expr} {tl : TE} (hl : PE X l tl) (e : X.K = K := by rfl) : PI X tg l (iList K tl) := by subst e; exact pi_list hl
end
end L2
namespace L2
open PySem PySem.Spec PyProof.Rows
noncomputable def CompB2 (J : It) (H1 : Hp) (js : List Nat) (tt : TT) (te : TE) (σ : St) (Q : VK) : Prop := ∃ (n : Nat) (Pv : Addr → Nat → List V → Hp → Prop), n ≤ sizeLine ∧
  (∀ D, H1 D = none → Pv D 0 [] (upd H1 D (.lst []))) ∧
  (∀ D i xs H', H1 D = none → i < n → Same H1 H' → H' D = some (.lst xs) → xs.length ≤ i → Pv D i xs H' → J.go i H' ∧ ∀ x H'', J.yld i H' x H'' → Same H' H'' ∧
    tt (compSt σ js (some x)) H'' fun ok H2 => if ok = true then te (compSt σ js (some x)) H2 fun y H3 => Same H'' H3 ∧ Pv D (i + 1) (xs ++ [y]) (upd H3 D (.lst (xs ++ [y]))) else Same H'' H2 ∧ Pv D (i + 1) xs H2) ∧
  (∀ H', Same H1 H' → J.stop n H') ∧ ∀ D xs H', Same H1 H' → H1 D = none → H' D = some (.lst xs) → Pv D n xs H' → Q (.ref D) H'
noncomputable def tComp2 (wi : TI) (js : List Nat) (tt : TT) (te : TE) : TE := fun σ H Q => wi σ H fun J H1 => CompB2 J H1 js tt te σ Q
section
variable {X : Cx} {pins : List (Addr × Obj)} {σ : St} {H : Hp} {s : Shared}
theorem comp_block2 {elt iter : Expr} {ifs : List Expr} {x : Str} {px pos : Pos} {scope : Scope} {ys : List Str} {js : List Nat} {tt : TT} {te : TE} {it : Addr} {fp : List Addr} {tn : Nat → Heap → Prop} {J : It} {RR : Value → Addr → Result → Shared → Prop} {E : Value → Shared → Prop}
    (hc : X.calm = true) (ok : CompOk X.env.scope scope X.N x ys js) (hts : ∀ C s H fp, PTs (compCx X scope (x :: ys) C s H fp) ifs tt) (hel : ∀ C s H fp, PE (compCx X scope (x :: ys) C s H fp) elt te)
    (I : Inv X pins σ H s) (T : Turn X.prog X.w X.K (.Name x px) J fp it tn) (st : tn 0 s.heap) (hf : ∀ b ∈ fp, FpOk X pins H b)
    (n : Nat) (Pv : Addr → Nat → List V → Hp → Prop) (hn : n ≤ sizeLine) (pv0 : ∀ D, H D = none → Pv D 0 [] (upd H D (.lst [])))
    (step : ∀ D i xs H', H D = none → i < n → Same H H' → H' D = some (.lst xs) → xs.length ≤ i → Pv D i xs H' → J.go i H' ∧ ∀ x H'', J.yld i H' x H'' → Same H' H'' ∧
      tt (compSt σ js (some x)) H'' fun ok H2 => if ok = true then te (compSt σ js (some x)) H2 fun y H3 => Same H'' H3 ∧ Pv D (i + 1) (xs ++ [y]) (upd H3 D (.lst (xs ++ [y]))) else Same H'' H2 ∧ Pv D (i + 1) xs H2)
    (stop : ∀ H', Same H H' → J.stop n H')
    (fin : ∀ (C D : Addr) (xs : List V) (H' : Hp) (s' : Shared), Same H H' → H D = none → H' D = some (.lst xs) → Pv D n xs H' → Inv X pins σ H' s' → s.heap.objs.size ≤ C → C < s'.heap.objs.size → (∃ m, s'.heap.Ns C m) → H' C = none → RR (.ref D) C (.ok .next) s') :
    wpAny (model X.prog X.w) X.A (newList []) (fun acc s3 => wpAny (model X.prog X.w) X.A (newFunctionEnv scope X.env.globals (clOf X.env scope.names []) [] X.env.qual none .none (some X.env)) (fun cenv s4 =>
      codeAny (model X.prog X.w) X.A (.compStart (.ListComp elt [⟨.Name x px, iter, ifs, 0⟩] scope pos) 0 (.ref it) acc { cenv with scope := relabel scope X.env }) (RR acc cenv.locals) s4) E s3) E s := by
  refine wpAny_newObj_type ?_
  have I3 : Inv X pins σ (upd H s.heap.objs.size (.lst [])) { s with heap := s.heap.push { cls := .type "list", data := .seq ([] : List Value).toArray } } := I.lnew (its := []) (t' := s.toks) .nil (Nat.zero_le _)
  have hD : H s.heap.objs.size = none := I.fresh
  generalize hDd : s.heap.objs.size = D at I3 hD ⊢
  have old3 : ∀ b o, s.heap.get? b = some o → (s.heap.push { cls := .type "list", data := .seq ([] : List Value).toArray }).get? b = some o := fun b o e => Heap.get?_push_of_some _ e
  have sz3 : (s.heap.push { cls := .type "list", data := .seq ([] : List Value).toArray }).objs.size = s.heap.objs.size + 1 := Heap.size_push ..
  generalize hs3 : s.heap.push { cls := .type "list", data := .seq ([] : List Value).toArray } = h3 at I3 old3 sz3 ⊢
  generalize hss : ({ s with heap := h3 } : Shared) = s3 at I3 ⊢
  have e3 : s3.heap = h3 := by rw [← hss]
  have f3 : ∀ b ∈ fp, FpOk X pins (upd H D (.lst [])) b := fun b hb => by
    obtain ⟨o, e, _⟩ := T.obj 0 _ st b hb
    refine ⟨?_, (hf b hb).2⟩
    rw [upd_ne (by rw [← hDd]; exact Nat.ne_of_lt (Heap.lt_size e))]
    exact (hf b hb).1
  refine wpAny_newFunctionEnv ok.cell (fun y hy => by cases hy) (fun h4 hn4 hsb4 => ?_) ok.kind
  have k4 : ∀ b o, s3.heap.get? b = some o → h4.get? b = some o := fun b o e => by
    rw [hsb4.2 b (Nat.ne_of_lt (Heap.lt_size e))]
    exact Heap.get?_push_of_some _ e
  have o3 : ∀ b ∈ fp, ∃ o, s3.heap.get? b = some o := fun b hb => by
    obtain ⟨o, e, _⟩ := T.obj 0 _ st b hb
    exact ⟨o, by rw [e3]; exact old3 b o e⟩
  have I4 := comp_enter (x := x) ok I3 f3 o3 k4 hn4
  have st4 : tn 0 h4 := T.keep 0 s.heap h4 st fun b hb o e => k4 b o (by rw [e3]; exact old3 b o e)
  have nD3 : s3.heap.objs.size ≠ D := by rw [e3, sz3, hDd]; exact Nat.succ_ne_self _
  have Dfp : ∀ b ∈ fp, b ≠ D := fun b hb => by
    obtain ⟨o, e, _⟩ := T.obj 0 _ st b hb
    rw [← hDd]; exact Nat.ne_of_lt (Heap.lt_size e)
  show codeAny (model X.prog X.w) X.A (.compStart (.ListComp elt [⟨.Name x px, iter, ifs, 0⟩] scope pos) 0 (.ref it) (.ref D) (compCx X scope (x :: ys) s3.heap.objs.size s3 (upd H D (.lst [])) fp).env) (RR (.ref D) s3.heap.objs.size) { s3 with heap := h4, toks := s3.toks + 0 }
  have I4' : Inv (compCx X scope (x :: ys) s3.heap.objs.size s3 (upd H D (.lst [])) fp) [] (compSt σ js none) (upd H D (.lst [])) { s3 with heap := h4, toks := s3.toks + 0 } := I4.tok _
  have stat : ∀ {pp : List (Addr × Obj)} {H' : Hp}, (∀ b ∈ fp, H' b = none) → (∀ p ∈ pp, p.1 ∉ fp) → ∀ b ∈ fp, FpOk (compCx X scope (x :: ys) s3.heap.objs.size s3 (upd H D (.lst [])) fp) pp H' b := fun {pp H'} hn hp b hb =>
    ⟨hn b hb, (I4'.ok.exf b hb).1, I4'.ok.exfs b hb, .inl hb, (I4'.ok.exf b hb).2, fun p hq z => hp p (by have hq' : p ∈ ([] : List (Addr × Obj)) ++ pp := hq; simpa using hq') (by rw [z]; exact hb)⟩
  have g : X.prog = (compCx X scope (x :: ys) s3.heap.objs.size s3 (upd H D (.lst [])) fp).prog := rfl
  have loop : codeAny (model X.prog X.w) X.A (.compLoop (.ListComp elt [⟨.Name x px, iter, ifs, 0⟩] scope pos) 0 (.ref it) (.ref D) (compCx X scope (x :: ys) s3.heap.objs.size s3 (upd H D (.lst [])) fp).env) (RR (.ref D) s3.heap.objs.size) { s3 with heap := h4, toks := s3.toks + 0 } := by
    refine compLoop_any (fun k s' => ∃ i o H', k = n - i ∧ i ≤ n ∧ Inv (compCx X scope (x :: ys) s3.heap.objs.size s3 (upd H D (.lst [])) fp) [] (compSt σ js o) H' s' ∧ tn i s'.heap ∧ (∀ b ∈ fp, H' b = none) ∧ Same H H' ∧ ∃ xs, H' D = some (.lst xs) ∧ xs.length ≤ i ∧ Pv D i xs H') ?_ n
      ⟨0, none, _, rfl, Nat.zero_le _, I4', st4, fun b hb => (f3 b hb).1, Same.new hD _, [], upd_same, Nat.le_refl _, pv0 D hD⟩
    rintro k s5 ⟨i, o5, H5, rfl, hi, I5, st5, fr5, sm5, xs, hD5, hxl, pv5⟩
    by_cases hlt : i < n
    · obtain ⟨go, yl⟩ := step D i xs H5 hD hlt sm5 hD5 hxl pv5
      refine thn (T.item (compCx X scope (x :: ys) s3.heap.objs.size s3 (upd H D (.lst [])) fp) rfl rfl rfl hc i [] s5 _ H5 (fun _ _ => False) I5 (stat fr5 fun p hp => by cases hp) st5 go) fun r s6 ⟨u, hr, h6⟩ => ?_
      subst hr
      refine thn h6 fun _ s7 ⟨v, H7, I7, r7, y7, st7, fr7⟩ => ?_
      obtain ⟨sm7, q7⟩ := yl v H7 y7
      have I7' := I7.pinned (stat fr7 fun p hp => by cases hp) (T.obj _ _ st7)
      have nfp : ∀ p ∈ pinsAt fp s7.heap, p.1 ∈ fp := fun p hp => (of_pinsAt hp).1
      refine wpAny_assign_Name ?_
      refine store_ok (i := 0) I7' ok.nd rfl (.inl (lookup_relabel_local ok.here)) r7 (fun s8 I8 => ?_) (.inr (lookup_relabel_local ok.here))
      have I8' : Inv (compCx X scope (x :: ys) s3.heap.objs.size s3 (upd H D (.lst [])) fp) ([] ++ pinsAt fp s7.heap) (compSt σ js (some v)) H7 s8 := I8
      have hD7 : H7 D = some (.lst xs) := sm7 _ _ hD5
      refine thn (hts _ _ _ _ _ s8 _ H7 _ I8' q7) fun okb s9 ⟨H9, I9, q9⟩ => ?_
      have fin9 : ∀ {s10 : Shared} {H10 : Hp} (o : Option V), Inv (compCx X scope (x :: ys) s3.heap.objs.size s3 (upd H D (.lst [])) fp) ([] ++ pinsAt fp s7.heap) (compSt σ js o) H10 s10 → Same H H10 → (∃ xs, H10 D = some (.lst xs) ∧ xs.length ≤ i + 1 ∧ Pv D (i + 1) xs H10) →
          ∃ m, m < n - i ∧ ∃ i o H', m = n - i ∧ i ≤ n ∧ Inv (compCx X scope (x :: ys) s3.heap.objs.size s3 (upd H D (.lst [])) fp) [] (compSt σ js o) H' s10 ∧ tn i s10.heap ∧ (∀ b ∈ fp, H' b = none) ∧ Same H H' ∧ ∃ xs, H' D = some (.lst xs) ∧ xs.length ≤ i ∧ Pv D i xs H' := fun {s10 H10} o I10 sm10 hD10 => by
        refine ⟨n - (i + 1), by (first | lia | omega), i + 1, o, H10, rfl, hlt, I10.unpinned, T.keep _ _ _ st7 fun b hb ob e => (I10.pin (b, ob) (List.mem_append_right _ (List.mem_append_right _ (mem_pinsAt hb e)))).1, fun b hb => ?_, sm10, hD10⟩
        obtain ⟨ob, e, d⟩ := T.obj _ _ st7 b hb
        exact (I10.pin (b, ob) (List.mem_append_right _ (List.mem_append_right _ (mem_pinsAt hb e)))).2.1
      cases okb with
      | false =>
        rw [if_neg (by decide)] at q9
        rw [if_neg (by decide)]
        exact fin9 _ I9 (sm5.trans (sm7.trans q9.1)) ⟨xs, q9.1 _ _ hD7, Nat.le_succ_of_le hxl, q9.2⟩
      | true =>
        rw [if_pos rfl] at q9
        rw [if_pos rfl]
        refine thn (hel _ _ _ _ _ s9 _ H9 _ I9 q9) fun y s10 ⟨v10, H10, I10, r10, sm10, o10⟩ => ?_
        have hD10 := sm10 _ _ hD7
        have hlen : xs.length < sizeLine := Nat.lt_of_le_of_lt hxl (Nat.lt_of_lt_of_le hlt hn)
        refine thn (mt_append _ s10 _ H10 (.ref D) [v10] (.ref D) [y] (fun _ H11 => Same H H11 ∧ ∃ xs, H11 D = some (.lst xs) ∧ xs.length ≤ i + 1 ∧ Pv D (i + 1) xs H11) I10 rfl (.cons r10 .nil) ⟨D, _, v10, rfl, rfl, hD10, hlen, ?_, ?_⟩) fun _ s11 ⟨_, H11, I11, _, sm11, hD11⟩ => fin9 _ I11 sm11 hD11
        · intro b ob e
          rw [upd_ne (ne_of_none e hD)]
          exact sm10 _ _ (sm7 _ _ (sm5 _ _ e))
        · exact ⟨_, upd_same, by rw [List.length_append]; exact Nat.succ_le_succ hxl, o10⟩
    · have hin : i = n := by (first | lia | omega)
      subst hin
      refine thn (T.done (compCx X scope (x :: ys) s3.heap.objs.size s3 (upd H D (.lst [])) fp) rfl rfl rfl hc i [] s5 _ H5 (fun _ _ => False) I5 (stat fr5 fun p hp => by cases hp) st5 (stop H5 sm5)) fun r s6 ⟨hr, I6⟩ => ?_
      subst hr
      have J6 : Inv X pins σ H5 s6 := I3.call' (ch := fp) I6.os I6.base I6.hok I6.bare fun b hb => (f3 b hb).2.2.2 |> fun z => ⟨z.1, (f3 b hb).2.1, z.2.1, z.2.2⟩
      obtain ⟨m6, hn6, _⟩ := I6.loc
      exact fin s3.heap.objs.size D xs H5 s6 sm5 hD hD5 pv5 J6 (by rw [e3, sz3]; exact Nat.le_succ _) hn6.lt ⟨m6, hn6⟩ I6.free
  exact codeAny_compStart_list loop (T.self _ 0 _ _ _ st4 loop)
theorem pe_comp2 {elt iter : Expr} {ifs : List Expr} {x : Str} {px pos : Pos} {scope : Scope} {ys : List Str} {js : List Nat} {wi : TI} {tt : TT} {te : TE} (hc : X.calm = true) (ok : CompOk X.env.scope scope X.N x ys js) (hi : PI X (.Name x px) iter wi)
    (hts : ∀ C s H fp, PTs (compCx X scope (x :: ys) C s H fp) ifs tt) (hel : ∀ C s H fp, PE (compCx X scope (x :: ys) C s H fp) elt te) (hs : ∀ v, foldedSetIterable iter X.env v = pure v := by intro _; rfl) :
    PE X (.ListComp elt [⟨.Name x px, iter, ifs, 0⟩] scope pos) (tComp2 wi js tt te) := by
  intro pins s σ H Q I h
  rw [eval_ListComp]
  have hclos : closureFor scope X.env = pure (clOf X.env scope.names []) := closureFor_clOf fun p hp e => I.ok.has p.1 (.inl (ok.free p hp e).1)
  refine wpAny_comprehension_free (use := none) rfl hs hclos ok.kind ok.loc (thn (hi pins s σ H _ I h) fun v s1 h1 => thn h1 fun itv s2 h2 => ?_)
  obtain ⟨it, fp, tn, J, H2, e, I2, T, st2, f2, n, Pv, hn, pv0, step, stop, fin⟩ := h2
  subst e
  refine comp_block2 (RR := fun acc C => compPost (model X.prog X.w) X.A X.xe none (EP X pins σ Q) acc C) hc ok hts hel I2 T st2 f2 n Pv hn pv0 step stop fun C D xs H' s' sm hD hD' pv I' hC hC' hns hfree => ?_
  obtain ⟨m, hn'⟩ := hns
  refine ⟨m, hn', fun h' sb => ?_⟩
  have I'' : Inv X pins σ H' { s' with heap := h', toks := s'.toks } := by
    refine I'.turned (it := C) (fun b o hb e => ?_) hfree ?_ (.inr (Nat.le_trans I2.sz hC)) (fun y c e z => ?_) fun p hp z => ?_
    · rw [sb.2 b hb]; exact e
    · exact Ne.symm (Nat.ne_of_lt (Nat.lt_of_lt_of_le I2.lt hC))
    · obtain ⟨_, q⟩ := I2.cell y c e
      exact absurd (Nat.lt_of_lt_of_le q.lt (by rw [z]; exact hC)) (Nat.lt_irrefl _)
    · exact absurd (Nat.lt_of_lt_of_le (Heap.lt_size (I2.pin p hp).1) (by rw [z]; exact hC)) (Nat.lt_irrefl _)
  exact ⟨.ref D, H', I'', rfl, fin D xs H' sm hD hD' pv⟩
theorem ps_setC2 {elt iter : Expr} {ifs : List Expr} {x y : Str} {px py pos spos : Pos} {scope : Scope} {ys : List Str} {js : List Nat} {wi : TI} {tt : TT} {te : TE} {k : Nat} (hc : X.calm = true) (ok : CompOk X.env.scope scope X.N x ys js) (hi : PI X (.Name x px) iter wi)
    (hts : ∀ C s H fp, PTs (compCx X scope (x :: ys) C s H fp) ifs tt) (hel : ∀ C s H fp, PE (compCx X scope (x :: ys) C s H fp) elt te)
    (hN : X.N.Nodup) (hk : X.N[k]? = some y) (hy : Loc X.env.scope y)
    (hsw : swapsWith (.ListComp elt [⟨.Name x px, iter, ifs, 0⟩] scope pos) (some (.Name y py)) spos.line X.env = pure true := by rfl)
    (hf : X.fn y = true ∨ X.env.scope.names.lookup y = some .local := by first | exact .inl rfl | exact .inr rfl | assumption) (hs : ∀ v, foldedSetIterable iter X.env v = pure v := by intro _; rfl) :
    PS X (.Assign [.Name y py] (.ListComp elt [⟨.Name x px, iter, ifs, 0⟩] scope pos) spos) (fun D σ H => tComp2 wi js tt te σ H fun v H' => D.nx (σ.set k (some v)) H') := by
  intro pins s σ H D I h
  rw [exec_Assign_Name_used _ _ _ _ hsw]
  refine wpAny_bind (wpAny_standAt (wpAny_bind ?_))
  show wpAny _ X.A (do let _ ← comprehension (.ListComp elt [⟨.Name x px, iter, ifs, 0⟩] scope pos) scope X.env _ (newList []) false (eval iter X.env) (some (assign (.Name y py) X.env))) _ _ s
  have hclos : closureFor scope X.env = pure (clOf X.env scope.names []) := closureFor_clOf fun p hp e => I.ok.has p.1 (.inl (ok.free p hp e).1)
  refine wpAny_bind (wpAny_mono (wpAny_comprehension_free (use := some (assign (.Name y py) X.env)) (Q := fun _ s' => SP X pins D .next s') rfl hs hclos ok.kind ok.loc
    (thn (hi pins s σ H _ I h) fun v s1 h1 => thn h1 fun itv s2 h2 => ?_)) (fun _ s' hq => wpAny_pure (wpAny_pure hq)) fun _ _ e => e)
  obtain ⟨it, fp, tn, J, H2, e, I2, T, st2, f2, n, Pv, hn, pv0, step, stop, fin⟩ := h2
  subst e
  refine comp_block2 (RR := fun acc C => compPost (model X.prog X.w) X.A X.xe (some (assign (.Name y py) X.env)) (fun _ s' => SP X pins D .next s') acc C) hc ok hts hel I2 T st2 f2 n Pv hn pv0 step stop fun C Da xs H' s' sm hD hD' pv I' hC hC' hns hfree => ?_
  obtain ⟨m, hn'⟩ := hns
  show wpAny _ X.A (assign (.Name y py) X.env (.ref Da)) _ _ s'
  have nL : C ≠ X.env.locals := Ne.symm (Nat.ne_of_lt (Nat.lt_of_lt_of_le I2.lt hC))
  have nC : ∀ y c, X.env.cells.lookup y = some c → c ≠ C := fun y c e z => by
    obtain ⟨_, q⟩ := I2.cell y c e
    exact absurd (Nat.lt_of_lt_of_le q.lt (by rw [z]; exact hC)) (Nat.lt_irrefl _)
  refine wpAny_assign_Name (store_ok2 I' hN hk hy (show RelV (.ref Da) (.ref Da) from rfl) (fun s'' I'' ⟨a, sb, ha⟩ => ?_) hf)
  have naC : a ≠ C := by
    rcases ha with z | z
    · rw [z]; exact Ne.symm nL
    · exact nC _ _ z
  refine ⟨m, hn'.at' fun o e => ?_, fun h' sb' => ?_⟩
  · rw [sb.2 C (Ne.symm naC)]; exact e
  have I3 : Inv X pins (σ.set k (some (.ref Da))) H' { s'' with heap := h', toks := s''.toks } := by
    refine I''.turned (it := C) (fun b o hb e => ?_) hfree nL (.inr (Nat.le_trans I2.sz hC)) nC fun p hp z => ?_
    · rw [sb'.2 b hb]; exact e
    · exact absurd (Nat.lt_of_lt_of_le (Heap.lt_size (I2.pin p hp).1) (by rw [z]; exact hC)) (Nat.lt_irrefl _)
  exact ⟨_, H', I3, fin Da xs H' sm hD hD' pv⟩
end
theorem comp2_list {K : PySem.W.Frag} {a : Addr} {ys : List V} {H1 : Hp} {tt : TT} {te : TE} {σ : St} {js : List Nat} {Q : VK} (hx : SqL K H1 a ys) (hz : ys.length ≤ sizeLine) (Pv : Addr → Nat → List V → Hp → Prop)
    (pv0 : ∀ D, H1 D = none → Pv D 0 [] (upd H1 D (.lst [])))
    (step : ∀ D i x xs H', H1 D = none → ys[i]? = some x → Same H1 H' → H' D = some (.lst xs) → xs.length ≤ i → Pv D i xs H' → tt (compSt σ js (some x)) H' fun ok H2 => if ok = true then te (compSt σ js (some x)) H2 fun y H3 => Same H' H3 ∧ Pv D (i + 1) (xs ++ [y]) (upd H3 D (.lst (xs ++ [y]))) else Same H' H2 ∧ Pv D (i + 1) xs H2)
    (fin : ∀ D xs H', Same H1 H' → H1 D = none → H' D = some (.lst xs) → Pv D ys.length xs H' → Q (.ref D) H') :
    CompB2 (Itl K a) H1 js tt te σ Q := by
  refine ⟨ys.length, Pv, hz, pv0, fun D i xs H' hD hi sm hd hl pv => ⟨⟨ys, ys[i], sm.seq hx, by simp [hi]⟩, fun x H'' y => ?_⟩, fun H' sm => ⟨ys, sm.seq hx, Nat.le_refl _⟩, fin⟩
  obtain ⟨rfl, y⟩ := y
  exact ⟨Same.refl _, step D i x xs _ hD (y ys (sm.seq hx)) sm hd hl pv⟩
end L2
namespace L2
open PySem
noncomputable abbrev Zip4 (h : Heap) (z ti tu : Addr) (f0 f1 : Value) : Prop :=
  h.get? z = some { cls := .type "zip", dict := none, data := .fields #[f0, f1, .bool false, .ref ti, .ref tu], slots := #[] }
noncomputable abbrev Tup4 (h : Heap) (t : Addr) (a b c d : Value) : Prop := h.get? t = some { cls := .type "tuple", data := .seq #[a, b, c, d] }
theorem typeCall_zip_4 (a b c d : Value) : checkTypeCall "zip" ⟨[a, b, c, d], []⟩ = pure () := by kernel_rfl
theorem newCall_zip_4 (a b c d : Value) : checkBuiltinCall "zip.__new__" ⟨[.type "zip", a, b, c, d], []⟩ = pure () := by kernel_rfl
theorem args_object_init_5 (o a b c d : Value) : argsOk "object.__init__" ⟨[o, a, b, c, d], []⟩ := by
  unfold argsOk
  rw [signature?_of (id := "object.__init__")
    (n := ['_', '_', 't', 'i', 'n', 'i', '_', '_'])
    (o := ['t', 'c', 'e', 'j', 'b', 'o']) (by kernel_rfl) PySem.F.owner_object]
  kernel_rfl
noncomputable abbrev iterOf (l : Addr) : Obj := { cls := .type "list_iterator", data := .fields #[.ref l, .int 0 0] }
noncomputable abbrev zh1 (h : Heap) (a : Addr) : Heap := h.push (iterOf a)
noncomputable abbrev zh2 (h : Heap) (a b : Addr) : Heap := (zh1 h a).push (iterOf b)
noncomputable abbrev zh3 (h : Heap) (a b c : Addr) : Heap := (zh2 h a b).push (iterOf c)
noncomputable abbrev zh4 (h : Heap) (a b c d : Addr) : Heap := (zh3 h a b c).push (iterOf d)
noncomputable abbrev zh5 (h : Heap) (a b c d : Addr) : Heap := (zh4 h a b c d).push { cls := .type "tuple", data := .seq #[.ref h.objs.size, .ref (zh1 h a).objs.size, .ref (zh2 h a b).objs.size, .ref (zh3 h a b c).objs.size] }
noncomputable abbrev zh6 (h : Heap) (a b c d : Addr) : Heap := (zh5 h a b c d).push { cls := .type "tuple", data := .seq #[.none, .none, .none, .none] }
noncomputable abbrev zh7 (h : Heap) (a b c d : Addr) : Heap := (zh6 h a b c d).push { cls := .type "zip", data := .fields #[.none, .bool false, .bool false, .ref (zh4 h a b c d).objs.size, .ref (zh5 h a b c d).objs.size] }
set_option maxHeartbeats 4000000 in
theorem meets_zip_new4 (l1 l2 l3 l4 : Addr) (x1 x2 x3 x4 : Array Value) :
    Meets (Builtin.«zip.__new__» ⟨[.type "zip", .ref l1, .ref l2, .ref l3, .ref l4], []⟩) (fun _ R s => s.heap.IsList l1 x1 ∧ s.heap.IsList l2 x2 ∧ s.heap.IsList l3 x3 ∧ s.heap.IsList l4 x4 ∧
      R (.ok (.ret (.ref (zh6 s.heap l1 l2 l3 l4).objs.size))) { s with heap := zh7 s.heap l1 l2 l3 l4 }) :=
  .of_wp fun prog w A R s h => by
    obtain ⟨hp, g, d, tk, os⟩ := s
    obtain ⟨hl1, hl2, hl3, hl4, h⟩ := h
    have hsub := sub_zip
    have hL1 : Heap.IsList (Shared.heap ⟨hp, g, d, tk, os⟩) l1 x1 := hl1
    have hL2 : Heap.IsList (Shared.heap ⟨hp.push (iterOf l1), g, d, tk, os⟩) l2 x2 := Heap.IsList.push hl2 _
    have hL3 : Heap.IsList (Shared.heap ⟨(hp.push (iterOf l1)).push (iterOf l2), g, d, tk, os⟩) l3 x3 := Heap.IsList.push (Heap.IsList.push hl3 _) _
    have hL4 : Heap.IsList (Shared.heap ⟨((hp.push (iterOf l1)).push (iterOf l2)).push (iterOf l3), g, d, tk, os⟩) l4 x4 := Heap.IsList.push (Heap.IsList.push (Heap.IsList.push hl4 _) _) _
    wp_walk using wpAny_pyIter_list hL1, wpAny_pyIter_list hL2, wpAny_pyIter_list hL3, wpAny_pyIter_list hL4
    exact ⟨_, rfl, h⟩
noncomputable def sel4 {α : Type} (a b c d : α) (q : Nat) : α := if q = 0 then a else if q = 1 then b else if q = 2 then c else d
theorem all4 {p : Nat → Prop} (p0 : p 0) (p1 : p 1) (p2 : p 2) (p3 : p 3) (q : Nat) (hq : q < 4) : p q := by
  obtain rfl | rfl | rfl | rfl : q = 0 ∨ q = 1 ∨ q = 2 ∨ q = 3 := by (first | lia | omega)
  · exact p0
  · exact p1
  · exact p2
  · exact p3
theorem pick4 {α : Type} {p : Nat → α → Prop} (h : ∀ q, q < 4 → ∃ u, p q u) : ∃ f : Nat → α, ∀ q, q < 4 → p q (f q) := by
  obtain ⟨u0, h0⟩ := h 0 (by decide)
  obtain ⟨u1, h1⟩ := h 1 (by decide)
  obtain ⟨u2, h2⟩ := h 2 (by decide)
  obtain ⟨u3, h3⟩ := h 3 (by decide)
  exact ⟨sel4 u0 u1 u2 u3, all4 h0 h1 h2 h3⟩
noncomputable def Keep (n : Nat) (h h' : Heap) : Prop := ∀ c o, (∀ k, k < 7 → c ≠ n + k) → h.get? c = some o → h'.get? c = some o
noncomputable def sti (i k q : Nat) : Nat := if q < k then i + 1 else i
structure ZS (n : Nat) (a : Nat → Addr) (i : Nat) (h0 h : Heap) (f0 f1 : Value) (vs : Array Value) (k : Nat) : Prop where
  z : Zip4 h (n + 6) (n + 4) (n + 5) f0 f1
  t : Tup4 h (n + 4) (.ref n) (.ref (n + 1)) (.ref (n + 2)) (.ref (n + 3))
  o : h.get? (n + 5) = some { cls := .type "tuple", data := .seq vs }
  j : ∀ q : Nat, q < 4 → h.IsListIter (n + q) (a q) (sti i k q)
  kp : Keep n h0 h
  sz : h.objs.size = h0.objs.size
noncomputable def tnZ (n : Nat) (a : Nat → Addr) (i : Nat) (h : Heap) : Prop := ∃ f0 f1 v0 v1 v2 v3, (f0 = .none ∨ ∃ j t, f0 = .int j t) ∧ ZS n a i h h f0 f1 #[v0, v1, v2, v3] 0
section
variable {n : Nat} {a : Nat → Addr} {i k p : Nat} {h0 h h' : Heap} {f0 f1 g0 g1 : Value} {vs ws : Array Value}
theorem nn {p q : Nat} (h : p ≠ q) : n + p ≠ n + q := fun e => h (Nat.add_left_cancel e)
theorem Keep.refl : Keep n h h := fun _ _ _ e => e
theorem Keep.but (kp : Keep n h0 h) (hp : p < 7) (sb : Heap.ExtBut (n + p) h h') : Keep n h0 h' := fun c o hc e => sb c o (hc p hp) (kp c o hc e)
theorem ZS.atZ (S : ZS n a i h0 h f0 f1 vs k) (hz : Zip4 h' (n + 6) (n + 4) (n + 5) g0 g1) (sb : Heap.SameBut (n + 6) h h') : ZS n a i h0 h' g0 g1 vs k :=
  ⟨hz, sb.extBut _ _ (nn (by decide)) S.t, sb.extBut _ _ (nn (by decide)) S.o, fun q hq => (S.j q hq).extBut sb.extBut (nn (by (first | lia | omega))), S.kp.but (by decide) sb.extBut, sb.1.trans S.sz⟩
theorem ZS.atO (S : ZS n a i h0 h f0 f1 vs k) (ho : h'.get? (n + 5) = some { cls := .type "tuple", data := .seq ws }) (sb : Heap.SameBut (n + 5) h h') : ZS n a i h0 h' f0 f1 ws k :=
  ⟨sb.extBut _ _ (nn (by decide)) S.z, sb.extBut _ _ (nn (by decide)) S.t, ho, fun q hq => (S.j q hq).extBut sb.extBut (nn (by (first | lia | omega))), S.kp.but (by decide) sb.extBut, sb.1.trans S.sz⟩
theorem ZS.atI (S : ZS n a i h0 h f0 f1 vs k) (hk : k < 4) (hi : h'.IsListIter (n + k) (a k) (i + 1)) (sb : Heap.SameBut (n + k) h h') : ZS n a i h0 h' f0 f1 vs (k + 1) := by
  refine ⟨sb.extBut _ _ (nn (by (first | lia | omega))) S.z, sb.extBut _ _ (nn (by (first | lia | omega))) S.t, sb.extBut _ _ (nn (by (first | lia | omega))) S.o, fun q hq => ?_, S.kp.but (by (first | lia | omega)) sb.extBut, sb.1.trans S.sz⟩
  by_cases e : q = k
  · subst e
    rw [sti, if_pos (Nat.lt_succ_self _)]
    exact hi
  · have : sti i (k + 1) q = sti i k q := by
      unfold sti
      by_cases z : q < k
      · rw [if_pos z, if_pos (Nat.lt_succ_of_lt z)]
      · rw [if_neg z, if_neg (by (first | lia | omega))]
    rw [this]
    exact (S.j q hq).extBut sb.extBut (nn e)
theorem ZS.at' (S : ZS n a i h0 h f0 f1 vs k) (hk : k < 4) : h.IsListIter (n + k) (a k) i := by
  have := S.j k hk
  rwa [sti, if_neg (Nat.lt_irrefl _)] at this
theorem ZS.next (S : ZS n a i h0 h f0 f1 vs 4) : ZS n a (i + 1) h h f0 f1 vs 0 :=
  ⟨S.z, S.t, S.o, fun q hq => by have := S.j q hq; rw [sti, if_pos hq] at this; rw [sti, if_neg (Nat.not_lt_zero _)]; exact this, Keep.refl, rfl⟩
theorem ZS.push (S : ZS n a i h0 h f0 f1 vs k) (o : Obj) : ZS n a i (h.push o) (h.push o) f0 f1 vs k :=
  ⟨Heap.get?_push_of_some _ S.z, Heap.get?_push_of_some _ S.t, Heap.get?_push_of_some _ S.o, fun q hq => (S.j q hq).at fun o e => Heap.get?_push_of_some _ e, Keep.refl, rfl⟩
theorem ZS.obj (S : ZS n a i h0 h f0 f1 vs k) (p : Nat) (hp : p < 7) : ∃ o, h.get? (n + p) = some o ∧ o.cls ≠ .type "list" ∧ ∀ v, o.data ≠ .cell v := by
  by_cases q : p < 4
  · obtain ⟨o, e, c, d⟩ := S.j p q
    exact ⟨o, e, by rw [c]; simp, fun v u => by rw [d] at u; cases u⟩
  obtain rfl | rfl | rfl : p = 4 ∨ p = 5 ∨ p = 6 := by (first | lia | omega)
  · exact ⟨_, S.t, by simp, fun v u => by cases u⟩
  · exact ⟨_, S.o, by simp, fun v u => by cases u⟩
  · exact ⟨_, S.z, by simp, fun v u => by cases u⟩
theorem ZS.list {x : Array Value} {b : Addr} (S : ZS n a i h0 h f0 f1 vs k) (L : h0.IsList b x) (ao : ∀ p, p < 7 → b ≠ n + p) : h.IsList b x :=
  let ⟨o, e, r⟩ := L; ⟨o, S.kp _ _ ao e, r⟩
theorem ZS.apart {x : Array Value} {b : Addr} (S : ZS n a i h0 h f0 f1 vs k) (L : h.IsList b x) (p : Nat) (hp : p < 7) : b ≠ n + p := fun e => by
  obtain ⟨o, ho, hc, _⟩ := S.obj p hp
  obtain ⟨u, hu, hcu, _⟩ := L
  rw [e, ho] at hu
  cases hu
  exact hc hcu
end
section
variable {prog : Program} {w : World} {A : Around} {E : Value → Shared → Prop} {s : Shared}
theorem call_zip_4 {l1 l2 l3 l4 : Addr} {x1 x2 x3 x4 : Array Value} {Q : Value → Shared → Prop} (hl1 : s.heap.IsList l1 x1) (hl2 : s.heap.IsList l2 x2) (hl3 : s.heap.IsList l3 x3) (hl4 : s.heap.IsList l4 x4)
    (h : ∀ h' n, n = s.heap.objs.size → (∀ b o, s.heap.get? b = some o → h'.get? b = some o) → tnZ n (sel4 l1 l2 l3 l4) 0 h' → Q (.ref (n + 6)) { s with heap := h' }) :
    wpAny (model prog w) A (call (.type "zip") [.ref l1, .ref l2, .ref l3, .ref l4]) Q E s := by
  refine callType_new PySem.F.called_zip (by decide) (typeCall_zip_4 _ _ _ _) (newCall_zip_4 _ _ _ _) (fun obj => args_object_init_5 obj _ _ _ _) PySem.F.entry_zip_new
    (meets_zip_new4 l1 l2 l3 l4 x1 x2 x3 x4) ⟨hl1, hl2, hl3, hl4, ?_⟩
  have z1 : (zh1 s.heap l1).objs.size = s.heap.objs.size + 1 := Heap.size_push ..
  have z2 : (zh2 s.heap l1 l2).objs.size = s.heap.objs.size + 2 := by rw [Heap.size_push, z1]
  have z3 : (zh3 s.heap l1 l2 l3).objs.size = s.heap.objs.size + 3 := by rw [Heap.size_push, z2]
  have z4 : (zh4 s.heap l1 l2 l3 l4).objs.size = s.heap.objs.size + 4 := by rw [Heap.size_push, z3]
  have z5 : (zh5 s.heap l1 l2 l3 l4).objs.size = s.heap.objs.size + 5 := by rw [Heap.size_push, z4]
  have z6 : (zh6 s.heap l1 l2 l3 l4).objs.size = s.heap.objs.size + 6 := by rw [Heap.size_push, z5]
  have up : ∀ {k : Heap} {o : Obj} {b : Addr} {u : Obj}, k.get? b = some u → (k.push o).get? b = some u := fun e => Heap.get?_push_of_some _ e
  have g7 : (zh7 s.heap l1 l2 l3 l4).get? (zh6 s.heap l1 l2 l3 l4).objs.size = some _ := Heap.get?_push_size _ rfl
  have g6 : (zh6 s.heap l1 l2 l3 l4).get? (zh5 s.heap l1 l2 l3 l4).objs.size = some _ := Heap.get?_push_size _ rfl
  have g5 : (zh5 s.heap l1 l2 l3 l4).get? (zh4 s.heap l1 l2 l3 l4).objs.size = some _ := Heap.get?_push_size _ rfl
  have g4 : (zh4 s.heap l1 l2 l3 l4).get? (zh3 s.heap l1 l2 l3).objs.size = some _ := Heap.get?_push_size _ rfl
  have g3 : (zh3 s.heap l1 l2 l3).get? (zh2 s.heap l1 l2).objs.size = some _ := Heap.get?_push_size _ rfl
  have g2 : (zh2 s.heap l1 l2).get? (zh1 s.heap l1).objs.size = some _ := Heap.get?_push_size _ rfl
  have g1 : (zh1 s.heap l1).get? s.heap.objs.size = some _ := Heap.get?_push_size _ rfl
  show _ ∧ _
  rw [z4, z5, z6] at g7
  rw [z5] at g6
  rw [z4, z1, z2, z3] at g5
  rw [z3] at g4
  rw [z2] at g3
  rw [z1] at g2
  rw [z6]
  have o4 : ∀ {b u}, (zh4 s.heap l1 l2 l3 l4).get? b = some u → (zh7 s.heap l1 l2 l3 l4).get? b = some u := fun e => up (up (up e))
  exact ⟨⟨_, g7, rfl⟩, h _ _ rfl (fun b o e => o4 (up (up (up (up e))))) ⟨_, _, _, _, _, _, .inl rfl, g7, up (up g5), up g6, all4 ⟨_, o4 (up (up (up g1))), rfl, rfl⟩ ⟨_, o4 (up (up g2)), rfl, rfl⟩ ⟨_, o4 (up g3), rfl, rfl⟩ ⟨_, o4 g4, rfl, rfl⟩, Keep.refl, rfl⟩⟩
theorem alive_any {a : Addr} {Q : Option Obj → Shared → Prop} (h : Q (s.heap.get? a) s) : wpAny (model prog w) A (loadIfAlive a) Q E s := fun _ _ _ => h
theorem updS {T : Addr} {vs : Array Value} {x : Value} {k : Nat} {Q : Unit → Shared → Prop} (hz : vs.size ≤ sizeLine) (hT : s.heap.get? T = some { cls := .type "tuple", data := .seq vs })
    (h : ∀ h', h'.get? T = some { cls := .type "tuple", data := .seq (vs.setIfInBounds k x) } → Heap.SameBut T s.heap h' → Q () { s with heap := h' }) :
    wpAny (model prog w) A (updateSeq T (·.setIfInBounds k x)) Q E s := by
  refine wpAny_updateSeq hT rfl (h _ ?_ (Heap.SameBut.update ..)) hz (by rw [Array.size_setIfInBounds]; exact Nat.le_succ_of_le hz)
  rw [Heap.get?_update_self _ hT rfl]
  simp [Obj.mapSeq]
theorem owned4 {n : Nat} {a : Nat → Addr} {i k : Nat} {h0 : Heap} {f0 f1 : Value} {vs : Array Value} {Q : Bool → Shared → Prop} (S : ZS n a i h0 s.heap f0 f1 vs k) (hf : f0 = .none ∨ ∃ j t, f0 = .int j t)
    (kk : ∀ b h' g1, ZS n a i h0 h' f0 g1 vs k → Q b { s with heap := h' }) :
    wpAny (model prog w) A (Builtin.SmallTypes.ownedTupleIsFree (.ref (n + 6))) Q E s := by
  unfold Builtin.SmallTypes.ownedTupleIsFree
  refine wpAny_bind (wpAny_field S.z rfl (x := f0) rfl ?_)
  have k0 : ∀ b, Q b s := fun b => kk b s.heap f1 S
  rcases hf with rfl | ⟨j, t, rfl⟩
  · exact wpAny_pure (k0 true)
  · refine wpAny_bind (alive_any ?_)
    cases s.heap.get? j.toNat with
    | none => exact wpAny_pure (k0 true)
    | some o =>
      refine wpAny_bind (wpAny_field S.z rfl (x := f1) rfl ?_)
      show wpAny _ _ (if (f1 != .bool true) = true then _ else _) _ _ _
      by_cases c : (f1 != .bool true) = true
      · rw [if_pos c]
        exact wpAny_bind (wpAny_setField_rec S.z (by simp) fun h₁ hz₁ hs₁ => wpAny_pure (kk false h₁ _ (S.atZ hz₁ hs₁)))
      · rw [if_neg c]
        exact wpAny_pure (k0 false)
theorem zloop {α β : Type} {B : α → β → Sem (ForInStep β)} (X : Nat → α) (r : Nat → β) (Iv : Nat → Heap → Prop) {Q : β → Shared → Prop}
    (step : ∀ k, k < 4 → ∀ (h : Heap) (Q' : ForInStep β → Shared → Prop), Iv k h → (∀ h', Iv (k + 1) h' → Q' (.yield (r (k + 1))) { s with heap := h' }) → wpAny (model prog w) A (B (X k) (r k)) Q' E { s with heap := h })
    (h0 : Iv 0 s.heap) (fin : ∀ h', Iv 4 h' → Q (r 4) { s with heap := h' }) : wpAny (model prog w) A (forIn [X 0, X 1, X 2, X 3] (r 0) B) Q E s := by
  rw [List.forIn_cons]
  refine wpAny_bind (step 0 (by decide) _ _ h0 fun h1 i1 => ?_)
  show wpAny _ _ (forIn [X 1, X 2, X 3] (r 1) B) _ _ _
  rw [List.forIn_cons]
  refine wpAny_bind (step 1 (by decide) _ _ i1 fun h2 i2 => ?_)
  show wpAny _ _ (forIn [X 2, X 3] (r 2) B) _ _ _
  rw [List.forIn_cons]
  refine wpAny_bind (step 2 (by decide) _ _ i2 fun h3 i3 => ?_)
  show wpAny _ _ (forIn [X 3] (r 3) B) _ _ _
  rw [List.forIn_cons]
  refine wpAny_bind (step 3 (by decide) _ _ i3 fun h4 i4 => ?_)
  show wpAny _ _ (forIn [] (r 4) B) _ _ _
  rw [List.forIn_nil]
  exact wpAny_pure (fin _ i4)
theorem zfirst {α β : Type} {B : α → β → Sem (ForInStep β)} {x : α} {xs : List α} {r : β} {Q : β → Shared → Prop} (h : ∀ Q', wpAny (model prog w) A (B x r) Q' E s) : wpAny (model prog w) A (forIn (x :: xs) r B) Q E s := by
  rw [List.forIn_cons]
  exact wpAny_bind (h _)
noncomputable def accY (y : Nat → Value) : Nat → Array Value := fun k => k.rec #[] fun k r => r.push (y k)
noncomputable def setY (v : Array Value) (y : Nat → Value) : Nat → Array Value := fun k => k.rec v fun k r => r.setIfInBounds k (y k)
theorem setY_size (v : Array Value) (y : Nat → Value) (k : Nat) : (setY v y k).size = v.size := by
  induction k with
  | zero => rfl
  | succ k ih => exact Array.size_setIfInBounds.trans ih
set_option maxHeartbeats 4000000 in
theorem zip4_item {n : Nat} {a : Nat → Addr} {i : Nat} {x : Nat → Array Value} {y : Nat → Value} {Q : Value → Shared → Prop} (st : tnZ n a i s.heap) (L : ∀ q, q < 4 → s.heap.IsList (a q) (x q)) (e : ∀ q, q < 4 → (x q)[i]? = some (y q))
    (hQ : ∀ h', tnZ n a (i + 1) h' → Tup4 h' s.heap.objs.size (y 0) (y 1) (y 2) (y 3) → Keep n s.heap h' → Q (.ref s.heap.objs.size) { s with heap := h' }) :
    wpAny (model prog w) A (Builtin.«zip.__next__» ⟨[.ref (n + 6)], []⟩) (fun fin s' => ∃ v, fin = .done (.ret v) ∧ Q v s') E s := by
  obtain ⟨f0, f1, v0, v1, v2, v3, hf, S⟩ := st
  have ao : ∀ q, q < 4 → ∀ p, p < 7 → a q ≠ n + p := fun q hq => S.apart (L q hq)
  show wpAny _ _ (field (.ref (n + 6)) 2 >>= _) _ _ _
  refine wpAny_bind (wpAny_field S.z rfl (x := .bool false) rfl ?_)
  show wpAny _ _ (field (.ref (n + 6)) 3 >>= _) _ _ _
  refine wpAny_bind (wpAny_field S.z rfl (x := .ref (n + 4)) rfl ?_)
  refine wpAny_bind (wpAny_seqItems S.t rfl ?_)
  show wpAny _ _ (Builtin.SmallTypes.ownedTupleIsFree (.ref (n + 6)) >>= _) _ _ _
  refine wpAny_bind (owned4 S hf fun b h₁ g1 S₁ => ?_)
  have fin : ∀ (hd : Heap) g0 g1 (w : Array Value), (∃ w0 w1 w2 w3, w = #[w0, w1, w2, w3]) → (g0 = .none ∨ ∃ j t, g0 = .int j t) → ZS n a (i + 1) hd hd g0 g1 w 0 → ∀ h : Heap, h.objs.size = s.heap.objs.size → Keep n s.heap hd → Tup4 hd h.objs.size (y 0) (y 1) (y 2) (y 3) →
      Q (.ref h.objs.size) { s with heap := hd } := fun hd g0 g1 w ⟨w0, w1, w2, w3, hw⟩ hg Sd h hsz kd td => by
    subst hw
    rw [hsz] at td ⊢
    exact hQ hd ⟨_, _, _, _, _, _, hg, Sd⟩ td kd
  cases b with
  | true =>
    simp only [if_true]
    refine wpAny_bind (wpAny_rule ?_)
    refine wpAny_bind (wpAny_field S₁.z rfl (x := .ref (n + 5)) rfl ?_)
    refine wpAny_bind (wpAny_setField_rec S₁.z (by simp) fun h₂ hz₂ hs₂ => ?_)
    have S₂ := S₁.atZ (g0 := .ellipsis) (g1 := g1) hz₂ hs₂
    refine wpAny_bind ?_
    refine zloop (fun k => (Value.ref (n + k), k)) (fun _ => _) (fun k h => ZS n a i s.heap h .ellipsis g1 (setY #[v0, v1, v2, v3] y k) k) (fun k hk h Q' Sk q => ?_) S₂ (fun ha Sa => ?_)
    · refine wpAny_bind (wpAny_onRaise ?_)
      show wpAny _ _ (Builtin.SmallTypes.nextOf (.ref (n + k)) >>= _) _ _ _
      refine wpAny_bind (wpAny_nextOf_list_item (Sk.at' hk) (Sk.list (L k hk) (ao k hk)) (e k hk) fun h₃ p₃ hs₃ => wpAny_pure ?_)
      have S₃ := Sk.atI hk p₃ hs₃
      refine wpAny_bind (wpAny_seqItems S₃.o rfl ?_)
      refine wpAny_bind (updS (by rw [setY_size]; exact (show (4 : Nat) ≤ sizeLine by decide)) S₃.o fun h₄ o₄ hs₄ => ?_)
      exact wpAny_bind (wpAny_letGo (wpAny_pure (q _ (S₃.atO o₄ hs₄))))
    have Sa : ZS n a i s.heap ha .ellipsis g1 #[y 0, y 1, y 2, y 3] 4 := Sa
    refine wpAny_bind (wpAny_seqItems Sa.o rfl ?_)
    refine wpAny_bind (wpAny_newTuple ?_)
    show wpAny _ _ (Builtin.SmallTypes.ownedTupleHandOut (.ref (n + 6)) (.ref ha.objs.size) >>= _) _ _ _
    refine wpAny_bind ?_
    unfold Builtin.SmallTypes.ownedTupleHandOut
    have Sb := Sa.next.push { cls := .type "tuple", data := .seq #[y 0, y 1, y 2, y 3] }
    have tb : Tup4 (ha.push { cls := .type "tuple", data := .seq #[y 0, y 1, y 2, y 3] }) ha.objs.size (y 0) (y 1) (y 2) (y 3) := Heap.get?_push_size _ rfl
    have zne : ha.objs.size ≠ n + 6 := Nat.ne_of_gt (Heap.lt_size Sa.z)
    refine wpAny_bind (wpAny_setField_rec Sb.z (by simp) fun hc zc hsc => ?_)
    have Sc := Sb.atZ (g0 := rawInt ha.objs.size) (g1 := g1) zc hsc
    refine wpAny_setField_rec Sc.z (by simp) fun hd zd hsd => ?_
    have Sd := Sc.atZ (g0 := rawInt ha.objs.size) (g1 := .bool false) zd hsd
    exact wpAny_pure ⟨_, rfl, fin hd _ _ _ ⟨_, _, _, _, rfl⟩ (.inr ⟨_, _, rfl⟩) ⟨Sd.z, Sd.t, Sd.o, Sd.j, Keep.refl, rfl⟩ ha Sa.sz (fun c o hc e => Sd.kp c o hc (Heap.get?_push_of_some _ (Sa.kp c o hc e))) (hsd.extBut _ _ zne (hsc.extBut _ _ zne tb))⟩
  | false =>
    simp only [Bool.false_eq_true, if_false]
    refine wpAny_bind ?_
    rw [← Array.forIn_toList]
    refine zloop (s := { s with heap := h₁ }) (fun k => Value.ref (n + k)) (fun k => ((none, accY y k) : Option PySem.Fin × Array Value)) (fun k h => ZS n a i s.heap h f0 g1 #[v0, v1, v2, v3] k) (fun k hk h Q' Sk q => ?_) S₁ (fun h₉ S₉ => ?_)
    · refine wpAny_bind (wpAny_holding ?_)
      show wpAny _ _ (Builtin.SmallTypes.nextOf (.ref (n + k)) >>= _) _ _ _
      exact wpAny_bind (wpAny_nextOf_list_item (Sk.at' hk) (Sk.list (L k hk) (ao k hk)) (e k hk) fun h₃ p₃ hs₃ => wpAny_pure (wpAny_pure (q _ (Sk.atI hk p₃ hs₃))))
    refine wpAny_bind (wpAny_newTuple ?_ (show (4 : Nat) ≤ sizeLine by decide))
    exact wpAny_pure ⟨_, rfl, fin _ _ _ _ ⟨_, _, _, _, rfl⟩ hf (S₉.next.push _) h₉ S₉.sz (fun c o hc e => Heap.get?_push_of_some _ (S₉.kp c o hc e)) (Heap.get?_push_size _ rfl)⟩
set_option maxHeartbeats 4000000 in
theorem zip4_end {n : Nat} {a : Nat → Addr} {i : Nat} {x : Array Value} {Q : PySem.Fin → Shared → Prop} (hh : A.handled = none) (st : tnZ n a i s.heap) (L : s.heap.IsList (a 0) x) (e1 : x[i]? = none)
    (hE : ∀ h' e, Keep n s.heap h' → (∃ o, h'.get? e = some o ∧ o.cls = .type "StopIteration") → E (.ref e) { s with heap := h' }) :
    wpAny (model prog w) A (Builtin.«zip.__next__» ⟨[.ref (n + 6)], []⟩) Q E s := by
  obtain ⟨f0, f1, v0, v1, v2, v3, hf, S⟩ := st
  have ao : ∀ p, p < 7 → a 0 ≠ n + p := S.apart L
  show wpAny _ _ (field (.ref (n + 6)) 2 >>= _) _ _ _
  refine wpAny_bind (wpAny_field S.z rfl (x := .bool false) rfl ?_)
  show wpAny _ _ (field (.ref (n + 6)) 3 >>= _) _ _ _
  refine wpAny_bind (wpAny_field S.z rfl (x := .ref (n + 4)) rfl ?_)
  refine wpAny_bind (wpAny_seqItems S.t rfl ?_)
  show wpAny _ _ (Builtin.SmallTypes.ownedTupleIsFree (.ref (n + 6)) >>= _) _ _ _
  refine wpAny_bind (owned4 S hf fun b h₁ g1 S₁ => ?_)
  cases b with
  | true =>
    simp only [if_true]
    refine wpAny_bind (wpAny_rule ?_)
    refine wpAny_bind (wpAny_field S₁.z rfl (x := .ref (n + 5)) rfl ?_)
    refine wpAny_bind (wpAny_setField_rec S₁.z (by simp) fun h₂ hz₂ hs₂ => ?_)
    have S₂ := S₁.atZ (g0 := .ellipsis) (g1 := g1) hz₂ hs₂
    refine wpAny_bind ?_
    refine zfirst fun Q' => ?_
    refine wpAny_bind (wpAny_onRaise ?_)
    show wpAny _ _ (Builtin.SmallTypes.nextOf (.ref n) >>= _) _ _ _
    refine wpAny_bind (wpAny_nextOf_list_end hh (S₂.at' (by decide)) (S₂.list L ao) e1 fun h₃ e hs₃ he => ?_)
    obtain ⟨oe, hoe, hce⟩ := he
    have z₃ : Zip4 h₃ (n + 6) (n + 4) (n + 5) .ellipsis g1 := hs₃ _ _ (nn (p := 6) (q := 0) (by decide)) S₂.z
    have hez : e ≠ n + 6 := fun x => by subst x; rw [z₃] at hoe; cases hoe; simp at hce
    exact wpAny_setField_rec z₃ (by simp) fun h₄ _ hs₄ => hE h₄ e ((S₂.kp.but (p := 0) (by decide) hs₃).but (by decide) hs₄.extBut) ⟨oe, hs₄.extBut _ _ hez hoe, hce⟩
  | false =>
    simp only [Bool.false_eq_true, if_false]
    refine wpAny_bind ?_
    rw [← Array.forIn_toList]
    refine zfirst fun Q' => ?_
    refine wpAny_bind (wpAny_holding ?_)
    show wpAny _ _ (Builtin.SmallTypes.nextOf (.ref n) >>= _) _ _ _
    exact wpAny_bind (wpAny_nextOf_list_end hh (S₁.at' (by decide)) (S₁.list L ao) e1 fun h₃ e hs₃ he => hE h₃ e (S₁.kp.but (p := 0) (by decide) hs₃) he)
theorem tnZ.ty {n : Nat} {a : Nat → Addr} {i : Nat} (st : tnZ n a i s.heap) : s.TypeIs (.ref (n + 6)) "zip" := by
  obtain ⟨_, _, _, _, _, _, _, S⟩ := st
  exact ⟨_, S.z, rfl⟩
theorem next_zip4_item {n : Nat} {a : Nat → Addr} {i : Nat} {x : Nat → Array Value} {y : Nat → Value} {Q : Option Value → Shared → Prop} (st : tnZ n a i s.heap) (L : ∀ q, q < 4 → s.heap.IsList (a q) (x q)) (e : ∀ q, q < 4 → (x q)[i]? = some (y q))
    (hQ : ∀ h', tnZ n a (i + 1) h' → Tup4 h' s.heap.objs.size (y 0) (y 1) (y 2) (y 3) → Keep n s.heap h' → Q (some (.ref s.heap.objs.size)) { s with heap := h' }) :
    wpAny (model prog w) A (pyNext (.ref (n + 6))) Q E s := by
  unfold pyNext
  refine wpAny_bind (wpAny_attempt (wpAny_callSpecial?_slot (name := Str.ofString "__next__") st.ty PySem.F.slot_zip_next ?_))
  exact wpAny_call_entry PySem.F.slot_zip_next st.ty PySem.F.entry_zip_next (zip4_item st L e fun h' b1 b2 b3 => wpAny_pure (hQ h' b1 b2 b3)) (PySem.F.args_zip_next_1 _)
theorem next_zip4_end {n : Nat} {a : Nat → Addr} {i : Nat} {x : Array Value} {Q : Option Value → Shared → Prop} (hh : A.handled = none) (st : tnZ n a i s.heap) (L : s.heap.IsList (a 0) x) (e1 : x[i]? = none)
    (hQ : ∀ h', Keep n s.heap h' → Q none { s with heap := h' }) :
    wpAny (model prog w) A (pyNext (.ref (n + 6))) Q E s := by
  unfold pyNext
  refine wpAny_bind (wpAny_attempt (wpAny_callSpecial?_slot (name := Str.ofString "__next__") st.ty PySem.F.slot_zip_next ?_))
  refine wpAny_call_entry PySem.F.slot_zip_next st.ty PySem.F.entry_zip_next (zip4_end hh st L e1 fun h' e hk he => ?_) (PySem.F.args_zip_next_1 _)
  obtain ⟨o, ho, hc⟩ := he
  refine wpAny_bind (wpAny_isInstance (T := "StopIteration") (b := true) ⟨o, ho, hc⟩ isSubtype_stop ?_)
  exact wpAny_pure (hQ _ hk)
theorem iter_zip4 {n : Nat} {a : Nat → Addr} {i : Nat} {Q : Value → Shared → Prop} (st : tnZ n a i s.heap) (h : Q (.ref (n + 6)) s) : wpAny (model prog w) A (pyIter (.ref (n + 6))) Q E s := by
  refine wpAny_pyIter_slot st.ty PySem.F.slot_zip_iter (wpAny_call_entry PySem.F.slot_zip_iter st.ty PySem.F.entry_zip_iter ?_ (PySem.F.args_zip_iter_1 _))
  show wpAny _ _ (ret (.ref (n + 6))) _ _ s
  exact wpAny_pure ⟨_, rfl, "zip", _, st.ty, PySem.F.slot_zip_next.lookup, h⟩
end
end L2
namespace L2
open PySem PySem.Spec PyProof.Rows
section
variable {X : Cx} {pins : List (Addr × Obj)} {σ : St} {H : Hp} {s : Shared} {h' : Heap}
theorem Inv.turnedL {t' : Nat} {fp : List Addr} (I : Inv X pins σ H s) (k : ∀ b o, b ∉ fp → s.heap.get? b = some o → h'.get? b = some o) (hf : ∀ b ∈ fp, FpOk X pins H b) : Inv X pins σ H { s with heap := h', toks := t' } := by
  have nit : ∀ b u, H b = some u → b ∉ fp := fun b u e z => by rw [(hf b z).1] at e; cases e
  refine I.step (g' := s.gens) (d' := s.drawn) (ch := fp) (fun b hb => ?_) (fun b o _ _ hc e _ => k b o hc e) (fun b o _ _ hc e _ => ⟨o.slots, k b o hc e⟩) (fun _ _ _ _ n => n)
    (fun b o hc e => ⟨o, k b o hc e⟩) (fun _ _ e => e) (fun _ _ _ e => e) (fun b ps e => ⟨#[], by rw [e]; simp⟩) (fun m hm => ?_) (fun b u e => ?_) I.bare
  · obtain ⟨f0, f1, f2, f3, f4, f5⟩ := hf b hb
    exact ⟨f3, f1, f4, f5⟩
  · obtain ⟨o, es, ep, ho, r⟩ := hm
    exact ⟨o, es, ep, k _ o (fun z => (hf _ z).2.1 rfl) ho, r⟩
  · refine (I.hok b u e).stay (fun c v hc q => k c v ?_ q) (fun _ q => q) fun _ _ q => q
    rcases hc with z | z
    · rw [z]; exact nit b u e
    · exact nit c _ z
end
noncomputable def Itz (K : PySem.W.Frag) (a : Nat → Addr) : It :=
  ⟨fun i H => ∃ (xs : Nat → List V) (y : Nat → V), ∀ q, q < 4 → SqL K H (a q) (xs q) ∧ (xs q)[i]? = some (y q),
   fun i H x H' => ∃ (T : Addr) (y : Nat → V), H T = none ∧ x = .ref T ∧ H' = upd H T (.tup [y 0, y 1, y 2, y 3]) ∧ ∀ q, q < 4 → ∀ xs, SqL K H (a q) xs → xs[i]? = some (y q),
   fun i H => ∃ xs, SqL K H (a 0) xs ∧ xs.length ≤ i⟩
noncomputable def fpZ (n : Nat) : List Addr := (List.range 7).map fun k => n + k
theorem fpZ_mem {n : Nat} {b : Addr} (h : b ∈ fpZ n) : ∃ k, k < 7 ∧ n + k = b := by
  obtain ⟨k, h1, h2⟩ := List.mem_map.1 h
  exact ⟨k, List.mem_range.1 h1, h2⟩
theorem fpZ_out {n : Nat} {b : Addr} (h : b ∉ fpZ n) (k : Nat) (hk : k < 7) : b ≠ n + k := fun e => h (List.mem_map.2 ⟨k, List.mem_range.2 hk, e.symm⟩)
theorem fpZ_in {n k : Nat} (hk : k < 7) : n + k ∈ fpZ n := List.mem_map.2 ⟨k, List.mem_range.2 hk, rfl⟩
theorem turn_zip4 {P : Program} {w : World} {K : PySem.W.Frag} {x : Str} {px : Pos} (n : Nat) (a : Nat → Addr) : Turn P w K (.Name x px) (Itz K a) (fpZ n) (n + 6) (tnZ n a) where
  mem := fpZ_in (by decide)
  obj := fun i h st b hb => by
    obtain ⟨_, _, _, _, _, _, _, S⟩ := st
    obtain ⟨k, hk, rfl⟩ := fpZ_mem hb
    obtain ⟨o, e, _, u⟩ := S.obj k hk
    exact ⟨o, e, u⟩
  keep := fun i h h' st k => by
    obtain ⟨f0, f1, v1, v2, v3, v4, hf, S⟩ := st
    exact ⟨f0, f1, v1, v2, v3, v4, hf, k _ (fpZ_in (by decide)) _ S.z, k _ (fpZ_in (by decide)) _ S.t, k _ (fpZ_in (by decide)) _ S.o, fun q hq => (S.j q hq).at fun o e => k _ (fpZ_in (Nat.lt_trans hq (by decide))) o e, Keep.refl, rfl⟩
  item := by
    intro X hP hw hK hc i pins s σ H E I hf st hg
    subst hP hw hK
    obtain ⟨xs, y, hq⟩ := hg
    obtain ⟨t, ht⟩ := pick4 (p := fun q (t : List Value × Value) => s.heap.IsList (a q) t.1.toArray ∧ t.1.toArray[i]? = some t.2 ∧ RelV (y q) t.2) fun q q4 => by
      obtain ⟨t1, r1, p1, _⟩ := I.list (hq q q4).1
      obtain ⟨u1, e1, ru1⟩ := r1.get (hq q q4).2
      exact ⟨(t1, u1), p1.isList, by simpa using e1, ru1⟩
    refine next_zip4_item (y := fun q => (t q).2) st (fun q h => (ht q h).1) (fun q h => (ht q h).2.1) fun h' st' tT kk => ?_
    refine ⟨_, rfl, ?_⟩
    have lt : ∀ b ∈ fpZ n, b ≠ s.heap.objs.size := fun b hb => by
      obtain ⟨_, _, _, _, _, _, _, S⟩ := st
      obtain ⟨k, hk, rfl⟩ := fpZ_mem hb
      obtain ⟨o, e, _⟩ := S.obj k hk
      exact Nat.ne_of_lt (Heap.lt_size e)
    have I1 : Inv X pins σ (upd H s.heap.objs.size (.tup [y 0, y 1, y 2, y 3])) { s with heap := s.heap.push { cls := .type "tuple", data := .seq #[(t 0).2, (t 1).2, (t 2).2, (t 3).2] }, toks := s.toks } :=
      I.laid (fun b u e => Heap.get?_push_of_some _ e) (Nat.le_refl _) ⟨(show (4 : Nat) ≤ sizeLine by decide), [(t 0).2, (t 1).2, (t 2).2, (t 3).2], .cons (ht 0 (by decide)).2.2 (.cons (ht 1 (by decide)).2.2 (.cons (ht 2 (by decide)).2.2 (.cons (ht 3 (by decide)).2.2 .nil))), ⟨_, Heap.get?_push_size _ rfl, rfl, _, rfl⟩⟩
    have I2 := Inv.turnedL (h' := h') (t' := s.toks) (fp := fpZ n) I1 (fun b o hb e => by
      rcases Heap.get?_push_cases e with ⟨c, d⟩ | e
      · rw [c, d]
        exact tT
      · exact kk b o (fpZ_out hb) e) fun b hb => by
        obtain ⟨k0, k1⟩ := hf b hb
        exact ⟨by rw [upd_ne (lt b hb)]; exact k0, k1⟩
    exact wpAny_pure ⟨.ref s.heap.objs.size, _, I2, rfl, ⟨_, y, I.fresh, rfl, rfl, fun q q4 ys hy => by rw [I.list_inj hy (hq q q4).1]; exact (hq q q4).2⟩, st', fun b hb => by rw [upd_ne (lt b hb)]; exact (hf b hb).1⟩
  done := by
    intro X hP hw hK hc i pins s σ H E I hf st hg
    subst hP hw hK
    obtain ⟨xs, q, le⟩ := hg
    obtain ⟨t, r, p, _⟩ := I.list q
    have hl := r.length
    exact next_zip4_end (I.ok.hd hc) st p.isList (by simp; (first | lia | omega)) fun h' kk => ⟨rfl, I.turnedL (t' := s.toks) (fp := fpZ n) (fun b o hb e => kk b o (fpZ_out hb) e) hf⟩
  self := fun _ _ _ _ _ st h => iter_zip4 st h
section
variable {X : Cx}
noncomputable def iZip4 (K : PySem.W.Frag) (ta : TA) : TI := fun σ H R => ta σ H fun vs H1 => ∃ a1 a2 a3 a4, vs = [.ref a1, .ref a2, .ref a3, .ref a4] ∧ (∃ xs, SqL K H1 a1 xs) ∧ (∃ xs, SqL K H1 a2 xs) ∧ (∃ xs, SqL K H1 a3 xs) ∧ (∃ xs, SqL K H1 a4 xs) ∧ R (Itz K (sel4 a1 a2 a3 a4)) H1
theorem pi_zip4 {e1 e2 e3 e4 : Expr} {ta : TA} {x : Str} {px p pos : Pos} (hg : Gl X "zip") (hm : X.mg "zip" = none) (ha : PA X [e1, e2, e3, e4] ta) (he : starEach [e1, e2, e3, e4] X.env = (false, eval e1 X.env) :: starEach [e2, e3, e4] X.env := by rfl)
    (hpl : (backTo pos (starEach [e2, e3, e4] X.env)).any (·.1) = false := by rfl) : PI X (.Name x px) (.Call (.Name "zip" p) [e1, e2, e3, e4] [] pos) (iZip4 X.K ta) := by
  intro pins s σ H R I h
  refine Call_ (ld_blt I hg hm boot_zip (PyProof.Rows.callWith_type1 (thn (ha pos pins s σ H _ I h) fun us s1 ⟨vs, H1, I1, r1, q1⟩ => ?_) he hpl))
  obtain ⟨a1, a2, a3, a4, rfl, ⟨xs1, q1⟩, ⟨xs2, q2⟩, ⟨xs3, q3⟩, ⟨xs4, q4⟩, q⟩ := q1
  obtain ⟨t1, r1', p1, _⟩ := I1.list q1
  obtain ⟨t2, r2', p2, _⟩ := I1.list q2
  obtain ⟨t3, r3', p3, _⟩ := I1.list q3
  obtain ⟨t4, r4', p4, _⟩ := I1.list q4
  have hus : us = [.ref a1, .ref a2, .ref a3, .ref a4] := by
    cases r1 with
    | cons k1 r1 =>
    cases r1 with
    | cons k2 r1 =>
    cases r1 with
    | cons k3 r1 =>
    cases r1 with
    | cons k4 r1 =>
    cases r1
    cases k1
    cases k2
    cases k3
    cases k4
    rfl
  subst hus
  refine call_zip_4 p1.isList p2.isList p3.isList p4.isList fun h' n en old st => ?_
  have I2 : Inv X pins σ H1 { s1 with heap := h', toks := s1.toks } := I1.kept fun b o e => old b o e
  refine iter_zip4 st ⟨n + 6, fpZ n, _, _, H1, rfl, I2, turn_zip4 n _, st, fun b hb => ?_, q⟩
  have hb : n ≤ b := by
    obtain ⟨k, _, rfl⟩ := fpZ_mem hb
    exact Nat.le_add_right _ _
  exact I1.fpOk (by rw [← en]; exact hb) (I1.hok.fresh (by rw [← en]; exact hb))
theorem call_maxSK (K : PySem.W.Frag) (hc : X.calm = true) (e : X.K = K := by rfl) : CallR X (.builtin "max") (rMax K) := by subst e; exact call_maxS hc
end
theorem comp_zip4 {K : PySem.W.Frag} {a1 a2 a3 a4 : Addr} {n : Nat} {c1 c2 c3 c4 : Nat → V} {H1 : Hp} {tt : TT} {te : TE} {σ : St} {js : List Nat} {Q : VK}
    (h1 : SqL K H1 a1 ((List.range n).map c1)) (h2 : SqL K H1 a2 ((List.range n).map c2)) (h3 : SqL K H1 a3 ((List.range n).map c3)) (h4 : SqL K H1 a4 ((List.range n).map c4)) (hz : n ≤ sizeLine) (f : Nat → Option V)
    (step : ∀ i T H', i < n → Same H1 H' → H' T = some (.tup [c1 i, c2 i, c3 i, c4 i]) → tt (compSt σ js (some (.ref T))) H' fun ok H2 => if ok = true then te (compSt σ js (some (.ref T))) H2 fun y H3 => Same H' H3 ∧ f i = some y else Same H' H2 ∧ f i = none)
    (fin : ∀ p H', Same H1 H' → H1 p = none → H' p = some (.lst ((List.range n).filterMap f)) → Q (.ref p) H') :
    CompB (Itz K (sel4 a1 a2 a3 a4)) H1 js tt te σ Q := by
  have at' : ∀ (c : Nat → V) i, i < n → ((List.range n).map c)[i]? = some (c i) := fun c i hi => by rw [List.getElem?_map, List.getElem?_range hi]; rfl
  have hq : ∀ q, q < 4 → SqL K H1 (sel4 a1 a2 a3 a4 q) ((List.range n).map (sel4 c1 c2 c3 c4 q)) := all4 h1 h2 h3 h4
  refine ⟨n, f, hz, fun i H' hi sm => ⟨⟨_, _, fun q h => ⟨sm.seq (hq q h), at' _ i hi⟩⟩, fun x H'' y => ?_⟩, fun H' sm => ⟨_, sm.seq h1, by rw [List.length_map, List.length_range]; exact Nat.le_refl _⟩, fin⟩
  obtain ⟨T, y, hT, rfl, rfl, g⟩ := y
  have e : ∀ q, q < 4 → y q = sel4 c1 c2 c3 c4 q i := fun q h => Option.some.inj ((g q h _ (sm.seq (hq q h))).symm.trans (at' _ i hi))
  rw [e 0 (by decide), e 1 (by decide), e 2 (by decide), e 3 (by decide)]
  exact ⟨Same.new hT _, step i T _ hi (sm.trans (Same.new hT _)) upd_same⟩
end L2
namespace Pb
open PySem L2 Pm
noncomputable def Bits (xs : List Int) : Prop := ∀ x ∈ xs, x = 0 ∨ x = 1
noncomputable def Sq (K : PySem.W.Frag) (H : Hp) (a : Addr) (xs : List V) : Prop := SqL K H a xs ∨ SqT K H a xs
theorem Sq.same {K : PySem.W.Frag} {H H' : Hp} {a : Addr} {xs : List V} (e : Same H H') (h : Sq K H a xs) : Sq K H' a xs := h.elim (fun q => .inl (e.seq q)) fun q => .inr (e.tup q)
theorem smallb {n : Nat} (h : Nat.ble n 1000 = true := by rfl) : n ≤ sizeLine := small (Nat.le_of_ble_eq_true h)
theorem iteN {c A B : Prop} [Decidable c] (h : ¬ c) (hb : B) : if c then A else B := by rw [if_neg h]; exact hb
theorem posl {b : List Int} (hb : 0 < b.length) : (0 : Int) < (((b.map V.int).length : Nat) : Int) := by rw [List.length_map]; (first | lia | omega)
theorem map_int (g : Nat → Int) (l : List Nat) : l.map (fun i => V.int (g i)) = (l.map g).map V.int := by rw [List.map_map]; rfl
theorem at0 {x y : V} : atI [x, y] 0 = some x := rfl
theorem at1 {x y : V} : atI [x, y] 1 = some y := rfl
theorem at_ints {xs : List Int} {i : Int} (h0 : 0 ≤ i) (h : i < (xs.length : Int)) : atI (xs.map V.int) i = some (.int (xs.getD i.toNat 0)) := by
  have e : i = ((i.toNat : Nat) : Int) := by (first | lia | omega)
  have hl : i.toNat < xs.length := by (first | lia | omega)
  rw [e, Int.toNat_natCast]
  refine atI_nat ?_
  rw [List.getElem?_map, List.getElem?_eq_getElem hl, List.getD_eq_getElem?_getD, List.getElem?_eq_getElem hl]
  rfl
theorem getD_out {xs : List Int} {i : Nat} (h : xs.length ≤ i) : xs.getD i 0 = 0 := by
  rw [List.getD_eq_getElem?_getD, List.getElem?_eq_none h]; rfl
theorem bar_nn {d : Int} {n : Nat} {b : List Int} (hb : 0 < b.length) : 0 ≤ (d - (n : Int)) % (b.length : Int) := Int.emod_nonneg _ (by (first | lia | omega))
theorem bar_lt {d : Int} {n : Nat} {b : List Int} (hb : 0 < b.length) : (d - (n : Int)) % (b.length : Int) < (b.length : Int) := Int.emod_lt_of_pos _ (by (first | lia | omega))
theorem bar_place {d : Int} {n m : Nat} (h : (n : Int) ≤ d) : ((d - (n : Int)) % (m : Int)).toNat = (d.toNat - n) % m := by
  have : d - (n : Int) = ((d.toNat - n : Nat) : Int) := by (first | lia | omega)
  rw [this, ← Int.natCast_emod, Int.toNat_natCast]
theorem dec_vint {i j : Int} : decide (V.int i = V.int j) = decide (i = j) := by
  by_cases h : i = j
  · subst h; simp
  · rw [decide_eq_false h, decide_eq_false (fun e => h (V.int.inj e))]
theorem _root_.L2.Same.over {H H' : Hp} {p : Addr} {o : HO} (e : Same H H') (h : H p = none) : Same H (upd H' p o) := fun b u q => by
  rw [upd_ne (ne_of_none q h)]; exact e b u q
theorem mod_le {x m M : Int} (h : 0 < m) (hm : m ≤ M + 1) : x % m ≤ M := by have := Int.emod_lt_of_pos x h; (first | lia | omega)
theorem mod1_nn {x m : Int} (h : 0 < m) : 0 ≤ 1 + x % m := by have := Int.emod_nonneg x (Int.ne_of_gt h); (first | lia | omega)
theorem mod1_le {x m M : Int} (h : 0 < m) (hm : m ≤ M) : 1 + x % m ≤ M := by have := Int.emod_lt_of_pos x h; (first | lia | omega)
theorem mod_len {n : Nat} {x m : Int} (e : (n : Int) = x % m) (h : 0 < m) (hm : m ≤ 15) : n ≤ 14 := by have := Int.emod_lt_of_pos x h; (first | lia | omega)
theorem mod1_len {n : Nat} {x m : Int} (e : (n : Int) = 1 + x % m) (h : 0 < m) (hm : m ≤ 14) : 0 < n ∧ n ≤ 14 := by have := Int.emod_lt_of_pos x h; have := Int.emod_nonneg x (Int.ne_of_gt h); (first | lia | omega)
theorem rep_one {n : Nat} {x : V} : (List.replicate n [x]).flatten = List.replicate n x := by
  induction n with
  | zero => rfl
  | succ n ih => rw [List.replicate_succ, List.flatten_cons, ih, List.replicate_succ]; rfl
theorem rep_ints (n : Nat) (xs : List Int) : (List.replicate n (xs.map V.int)).flatten = (rep n xs).map V.int := by
  unfold rep
  induction n with
  | zero => rfl
  | succ n ih => rw [List.replicate_succ, List.flatten_cons, ih, List.replicate_succ, List.flatten_cons, List.map_append]
theorem getD_mem {xs : List Int} {i : Nat} (h : i < xs.length) : xs.getD i 0 ∈ xs := by
  rw [List.getD_eq_getElem?_getD, List.getElem?_eq_getElem h]; exact List.getElem_mem h
theorem getD_some {xs : List Int} {i : Nat} (h : i < xs.length) : Option.map V.int xs[i]? = some (.int (xs.getD i 0)) := by
  rw [List.getD_eq_getElem?_getD, List.getElem?_eq_getElem h]; rfl
theorem eqv_dL (xs ys : List Int) : PyData.eqv (.list (dInts xs)) (.list (dInts ys)) = decide (xs = ys) := by
  simp only [PyData.eqv]; exact eqvAll_ints xs ys
theorem cut_to (xs : List Int) (n : Nat) : cutV (xs.map V.int) none (some (n : Int)) = (xs.take n).map V.int := by
  unfold cutV
  rw [HT.sIx_none, HT.sIx_nat, List.length_map, List.drop_zero, Nat.sub_zero, List.map_take]
  by_cases h : n ≤ xs.length
  · rw [Nat.min_eq_left h]
  · rw [Nat.min_eq_right (by (first | lia | omega)), List.take_of_length_le (by rw [List.length_map]; (first | lia | omega)), List.take_of_length_le (by rw [List.length_map]; (first | lia | omega))]
theorem cut_from (xs : List Int) (n : Nat) : cutV (xs.map V.int) (some (n : Int)) none = (xs.drop n).map V.int := by
  unfold cutV
  rw [HT.sIx_none, HT.sIx_nat, List.length_map, List.map_drop]
  by_cases h : n ≤ xs.length
  · rw [Nat.min_eq_left h, List.take_of_length_le (by rw [List.length_drop, List.length_map]; exact Nat.le_refl _)]
  · rw [Nat.min_eq_right (by (first | lia | omega)), Nat.sub_self, List.take_zero, List.drop_of_length_le (by rw [List.length_map]; (first | lia | omega))]
theorem cut_m1 (xs : List Int) : cutV (xs.map V.int) none (some (-1)) = xs.dropLast.map V.int := by
  unfold cutV
  rw [HT.sIx_none, List.length_map, List.drop_zero, Nat.sub_zero, List.dropLast_eq_take, List.map_take]
  congr 1
  show (if (-1 : Int) < 0 then ((-1 : Int) + (xs.length : Int)).toNat else min (-1 : Int).toNat xs.length) = xs.length - 1
  rw [if_pos (by decide)]
  (first | lia | omega)
theorem at_last {xs : List Int} (h : 0 < xs.length) : atI (xs.map V.int) (-1) = some (.int (xs.getD (xs.length - 1) 0)) := by
  unfold atI ixN
  rw [List.length_map, if_neg (by decide), if_pos (by (first | lia | omega))]
  show (xs.map V.int)[((-1 : Int) + (xs.length : Int)).toNat]? = _
  have e : ((-1 : Int) + (xs.length : Int)).toNat = xs.length - 1 := by (first | lia | omega)
  rw [e, List.getElem?_map]
  exact getD_some (by (first | lia | omega))
theorem drop_last_take {h : List Int} {k : Nat} (hk : k < h.length) : ((h.take (h.length - k)).map V.int).dropLast = (h.take (h.length - (k + 1))).map V.int := by
  rw [List.dropLast_eq_take, ← List.map_take, List.take_take, List.length_map, List.length_take]
  congr 2
  (first | lia | omega)
theorem fig_bits {h b : List Int} (hb : 0 < b.length) (bh : Bits h) (bb : Bits b) (d : Nat) : fig h b d = 0 ∨ fig h b d = 1 := by
  by_cases hd : d < h.length
  · rw [fig_head hd]; exact bh _ (getD_mem hd)
  · rw [fig_bar (by (first | lia | omega))]; exact bb _ (getD_mem (Nat.mod_lt _ hb))
theorem alike_bits {h' b' h b : List Int} (hb' : 0 < b'.length) (al : Alike h' b' h b) (hb : 0 < b.length) (bh : Bits h) (bb : Bits b) : Bits h' ∧ Bits b' := by
  constructor
  · intro x hx
    obtain ⟨i, hi, e⟩ := List.getElem_of_mem hx
    have f := fig_bits hb bh bb i
    rw [← al i, fig_head hi, List.getD_eq_getElem?_getD, List.getElem?_eq_getElem hi] at f
    rw [← e]; exact f
  · intro x hx
    obtain ⟨i, hi, e⟩ := List.getElem_of_mem hx
    have f := fig_bits hb bh bb (h'.length + i)
    rw [← al _, fig_at hi, List.getD_eq_getElem?_getD, List.getElem?_eq_getElem hi] at f
    rw [← e]; exact f
theorem Pl.mk {K : PySem.W.Frag} {H : Hp} {p a c : Addr} {h b : List Int} (hp : H p = none) (ha : SqT K H a (h.map V.int)) (hc : SqT K H c (b.map V.int)) : Pl K (upd H p (.tup [.ref a, .ref c])) p h b :=
  ⟨a, c, SqT.of upd_same, (Same.new hp _).tup ha, (Same.new hp _).tup hc⟩
variable (K : PySem.W.Frag)
noncomputable def spPlace : Sp := fun vs H Q _ => ∃ (d : Int) (a c : Addr) (xs ys : List V), vs = [.int d, .ref a, .ref c] ∧ SqT K H a xs ∧ SqT K H c ys ∧ 0 < ys.length ∧ Q (.int ((d - (xs.length : Int)) % (ys.length : Int))) H
noncomputable def spFigure : Sp := fun vs H Q _ => ∃ (p : Addr) (d : Int) (h b : List Int), vs = [.ref p, .int d] ∧ Pl K H p h b ∧ 0 < b.length ∧ 0 ≤ d ∧ Q (.int (fig h b d.toNat)) H
noncomputable def spConst (h b : List Int) : Sp := fun vs H Q _ => vs = [] ∧ ∀ p H', Same H H' → Pl K H' p h b → Q (.ref p) H'
noncomputable def spCell : Sp := fun vs H Q _ => ∃ (a : Addr) (ns : List Int) (k : Int), vs = [.ref a, .int k] ∧ SqL K H a (ns.map V.int) ∧ 0 ≤ k ∧ Q (.int (ns.getD k.toNat 0)) H
noncomputable def spMix : Sp := fun vs H Q _ => ∃ c p m : Int, vs = [.int c, .int p, .int m] ∧ 0 < p ∧ 0 < m ∧ Q (.int (c * 48271 % p % m)) H
noncomputable def spLarge : Sp := fun vs H Q _ => ∃ (a : Addr) (ns : List Int), vs = [.ref a] ∧ SqL K H a (ns.map V.int) ∧ ns.length ≤ 63 ∧ ∀ b, Q (.bl b) H
noncomputable def spTightL : Sp := fun vs H Q _ => ∃ (a c : Addr) (h b : List Int), vs = [.ref a, .ref c] ∧ Sq K H a (h.map V.int) ∧ Sq K H c (b.map V.int) ∧ 0 < b.length ∧ h.length ≤ 200000 ∧ b.length ≤ 200000 ∧
  ∀ p h' b' H', Same H H' → Pl K H' p h' b' → T h' b' → Alike h' b' h b → Q (.ref p) H'
noncomputable def spTight : Sp := fun vs H Q _ => ∃ (a c : Addr) (h b : List Int), vs = [.ref a, .ref c] ∧ SqT K H a (h.map V.int) ∧ SqT K H c (b.map V.int) ∧ 0 < b.length ∧ h.length ≤ 200000 ∧ b.length ≤ 200000 ∧
  ∀ p h' b' H', Same H H' → Pl K H' p h' b' → T h' b' → Alike h' b' h b → Q (.ref p) H'
noncomputable def spShort : Sp := fun vs H Q _ => ∃ (c : Addr) (b : List Int), vs = [.ref c] ∧ SqT K H c (b.map V.int) ∧ 0 < b.length ∧ b.length ≤ 200000 ∧
  ∀ p n H', Same H H' → SqT K H' p ((b.take n).map V.int) → Short b n → Q (.ref p) H'
noncomputable def spNeeded : Sp := fun vs H Q _ => ∃ (a c : Addr) (h s : List Int), vs = [.ref a, .ref c] ∧ SqT K H a (h.map V.int) ∧ SqT K H c (s.map V.int) ∧ 0 < s.length ∧
  ∀ kk : Nat, kk ≤ h.length → (∀ j : Nat, h.length - kk ≤ j → j < h.length → h.getD j 0 = s.getD ((((j : Int) - (h.length : Int)) % (s.length : Int)).toNat) 0) →
    (kk < h.length → h.getD (h.length - kk - 1) 0 ≠ s.getD (((-1 - (kk : Int)) % (s.length : Int)).toNat) 0) → Q (.int ((h.length : Int) - (kk : Int))) H
noncomputable def spTold : Sp := fun vs H Q _ => ∃ (a c : Addr) (h b : List Int), vs = [.ref a, .ref c] ∧ Sq K H a (h.map V.int) ∧ Sq K H c (b.map V.int) ∧ 0 < b.length ∧ h.length ≤ 200000 ∧ b.length ≤ 200000 ∧
  (∀ h' b', T h' b' → Alike h' b' h b → h'.length ≤ 400 ∧ b'.length ≤ 200) ∧ ∀ p h' b' H', Same H H' → Pl K H' p h' b' → T h' b' → Alike h' b' h b → Q (.ref p) H'
noncomputable def Put (ws : List Int) (p q : Addr) (H : Hp) (Q : VK) : Prop := ∃ (h b h' b' : List Int), Pl K H p h b ∧ Pl K H q h' b' ∧ 0 < b.length ∧ 0 < b'.length ∧ Bits h ∧ Bits b ∧ Bits h' ∧ Bits b' ∧ h.length ≤ 1000 ∧ h'.length ≤ 1000 ∧ b.length ≤ 300 ∧ b'.length ≤ 300 ∧
  (∀ hh bb, T hh bb → (∀ d, fig hh bb d = wv ws (fig h b d) (fig h' b' d)) → hh.length ≤ 400 ∧ bb.length ≤ 200) ∧
  ∀ r hh bb H', Same H H' → Pl K H' r hh bb → T hh bb → (∀ d, fig hh bb d = wv ws (fig h b d) (fig h' b' d)) → Q (.ref r) H'
noncomputable def spPut : Sp := fun vs H Q _ => ∃ (p q w : Addr) (ws : List Int), vs = [.ref p, .ref q, .ref w] ∧ SqT K H w (ws.map V.int) ∧ ws.length = 4 ∧ Put K ws p q H Q
noncomputable def spBin (ws : List Int) : Sp := fun vs H Q _ => ∃ (p q : Addr), vs = [.ref p, .ref q] ∧ Put K ws p q H Q
noncomputable def spBits : Sp := fun vs H Q _ => ∃ (a : Addr) (ns : List Int) (at' n : Int), vs = [.ref a, .int at', .int n] ∧ SqL K H a (ns.map V.int) ∧ ns.length ≤ 63 ∧ 0 ≤ at' ∧ 0 ≤ n ∧ n ≤ 100 ∧
  ∀ p xs H', Same H H' → H' p = some (.lst (xs.map V.int)) → (xs.length : Int) = n → Bits xs → Q (.ref p) H'
noncomputable def spForm : Sp := fun vs H Q _ => ∃ (a : Addr) (ns : List Int) (at' : Int), vs = [.ref a, .int at'] ∧ SqL K H a (ns.map V.int) ∧ ns.length ≤ 63 ∧ 0 ≤ at' ∧
  ∀ p h b H', Same H H' → Pl K H' p h b → Bits h → Bits b → h.length ≤ 14 → 0 < b.length → b.length ≤ 14 → Q (.ref p) H'
noncomputable def spPulse : Sp := fun vs H Q _ => ∃ (a : Addr) (ns : List Int) (at' : Int), vs = [.ref a, .int at'] ∧ SqL K H a (ns.map V.int) ∧ ns.length ≤ 63 ∧ 0 ≤ at' ∧
  ∀ p h b H', Same H H' → Pl K H' p h b → T h b → Bits h → Bits b → h.length ≤ 14 → b.length ≤ 14 → Q (.ref p) H'
noncomputable def spLaw : Sp := fun vs H Q _ => ∃ (a : Addr) (ns : List Int), vs = [.ref a] ∧ SqL K H a (ns.map V.int) ∧ ns.length ≤ 63 ∧ ∀ H', Q (.bl true) H'
end Pb
namespace Pb
open PySem L2 Pm
noncomputable def G (K : PySem.W.Frag) (H : Hp) (p : Addr) (g : Nat → Int) : Prop := ∃ h b, Pl K H p h b ∧ T h b ∧ Bits h ∧ Bits b ∧ h.length ≤ 14 ∧ b.length ∣ 12 ∧ ∀ d, fig h b d = g d
section
variable {K : PySem.W.Frag} {H H' : Hp} {p q : Addr} {g g' : Nat → Int}
theorem bits_of {hh bb : List Int} (t : T hh bb) (e : ∀ d, fig hh bb d = 0 ∨ fig hh bb d = 1) : Bits hh ∧ Bits bb := by
  constructor
  · intro x hx
    obtain ⟨i, hi, e'⟩ := List.getElem_of_mem hx
    have f := e i
    rw [fig_head hi, List.getD_eq_getElem?_getD, List.getElem?_eq_getElem hi] at f
    rw [← e']; exact f
  · intro x hx
    obtain ⟨i, hi, e'⟩ := List.getElem_of_mem hx
    have f := e (hh.length + i)
    rw [fig_at hi, List.getD_eq_getElem?_getD, List.getElem?_eq_getElem hi] at f
    rw [← e']; exact f
theorem b4 {x y z w : Int} (h1 : x = 0 ∨ x = 1) (h2 : y = 0 ∨ y = 1) (h3 : z = 0 ∨ z = 1) (h4 : w = 0 ∨ w = 1) : Bits [x, y, z, w] := fun v hv => by
  simp only [List.mem_cons, List.not_mem_nil, or_false] at hv
  rcases hv with rfl | rfl | rfl | rfl <;> assumption
end
end Pb
namespace Pb
open PySem L2 Pm
noncomputable def isInt : V → Bool
  | .int _ => true
  | _ => false
noncomputable def isFig : V → Bool
  | .int i => decide (0 ≤ i) && decide (i ≤ 1)
  | _ => false
noncomputable def spIsWhole : Sp := fun vs H Q _ => ∃ x : V, vs = [x] ∧ flatV x = true ∧ Q (.bl (isInt x)) H
theorem flat_ints (xs : List Int) : (xs.map V.int).all flatV = true := by
  induction xs with
  | nil => rfl
  | cons x r ih => rw [List.map_cons, List.all_cons, ih]; rfl
theorem filterMap_ite {f : Nat → V} (c : Nat → Bool) (l : List Nat) : l.filterMap (fun i => if c i = true then some (f i) else none) = (l.filter c).map f := by
  induction l with
  | nil => rfl
  | cons x r ih =>
    rw [List.filterMap_cons, List.filter_cons]
    cases h : c x
    · simpa using ih
    · simp [ih]
theorem map_bl (f : V → Bool) (xs : List V) : xs.map (fun v => V.bl (f v)) = (xs.map f).map V.bl := by rw [List.map_map]; rfl
end Pb
namespace Pb
open PySem L2 Pm
theorem iteNot {c : Bool} {A B : Prop} (h : c = true) (hb : B) : if (!c) = true then A else B := by rw [h]; exact iteF hb
section
variable (K : PySem.W.Frag)
noncomputable def Fits (h b : List Int) : Prop := h.length ≤ 400 ∧ b.length ≤ 200
noncomputable instance (h b : List Int) : Decidable (Fits h b) := by unfold Fits; exact inferInstance
theorem heads {i : Int} (h0 : 0 ≤ i) (h1 : i < 5) : ∃ z : Int, atI [V.int 0, .int 1, .int 399, .int 400, .int 7] i = some (.int z) ∧ 0 ≤ z ∧ z ≤ 400 := by
  have c : i = 0 ∨ i = 1 ∨ i = 2 ∨ i = 3 ∨ i = 4 := by (first | lia | omega)
  rcases c with rfl | rfl | rfl | rfl | rfl <;> exact ⟨_, rfl, by decide, by decide⟩
theorem bits_rep {n : Nat} {x : Int} (h : x = 0 ∨ x = 1) : Bits (List.replicate n x) := fun y hy => by rw [(List.mem_replicate.mp hy).2]; exact h
end
end Pb
namespace Pm
theorem per_fits {hh bb : List Int} {g : Nat → Int} {p n0 : Nat} (t : T hh bb) (e : ∀ d, fig hh bb d = g d) (hp : 0 < p) (pr : Per g p n0) : hh.length ≤ n0 ∧ bb.length ∣ p := by
  have al : Alike hh bb ((List.range n0).map g) ((List.range p).map fun i => g (n0 + i)) := fun d => by rw [e d, fig_cyc hp pr]
  have l2 : ((List.range p).map fun i => g (n0 + i)).length = p := by rw [List.length_map, List.length_range]
  have a1 := t.head_le (by rw [l2]; exact hp) al
  have a2 := t.dvd (by rw [l2]; exact hp) al
  rw [l2] at a2
  rw [List.length_map, List.length_range] at a1
  exact ⟨a1, Nat.dvd_of_mod_eq_zero a2⟩
noncomputable def B01 (g : Nat → Int) : Prop := ∀ d, g d = 0 ∨ g d = 1
noncomputable def addB (g g' : Nat → Int) (d : Nat) : Bool := (List.range (d + 1)).any fun i => decide (g i = 1) && decide (g' (d - i) = 1)
noncomputable def addF (g g' : Nat → Int) (d : Nat) : Int := if addB g g' d = true then 1 else 0
theorem addB_iff {g g' : Nat → Int} {d : Nat} : addB g g' d = true ↔ ∃ i, i ≤ d ∧ g i = 1 ∧ g' (d - i) = 1 := by
  unfold addB
  rw [List.any_eq_true]
  constructor
  · rintro ⟨i, hi, h⟩
    rw [Bool.and_eq_true] at h
    exact ⟨i, by have := List.mem_range.mp hi; (first | lia | omega), of_decide_eq_true h.1, of_decide_eq_true h.2⟩
  · rintro ⟨i, hi, h1, h2⟩
    exact ⟨i, List.mem_range.mpr (by (first | lia | omega)), by rw [decide_eq_true h1, decide_eq_true h2]; rfl⟩
theorem addF_01 (g g' : Nat → Int) : B01 (addF g g') := fun d => by
  unfold addF
  split
  · exact .inr rfl
  · exact .inl rfl
theorem addF_iff {g g' : Nat → Int} {d : Nat} : addF g g' d = 1 ↔ ∃ i, i ≤ d ∧ g i = 1 ∧ g' (d - i) = 1 := by
  rw [← addB_iff]
  unfold addF
  split
  · rename_i h
    exact ⟨fun _ => h, fun _ => rfl⟩
  · rename_i h
    exact ⟨fun z => absurd z (by decide), fun z => absurd z h⟩
theorem eq_of_iff {f g : Nat → Int} (hf : B01 f) (hg : B01 g) {d e : Nat} (h : f d = 1 ↔ g e = 1) : f d = g e := by
  rcases hf d with a | a <;> rcases hg e with b | b
  · rw [a, b]
  · have := h.mpr b; (first | lia | omega)
  · have := h.mp a; (first | lia | omega)
  · rw [a, b]
theorem per_add {g g' : Nat → Int} {L n m : Nat} (hL : 0 < L) (p : Per g L n) (p' : Per g' L m) : Per (addF g g') L (n + m + L) := fun d hd => by
  refine eq_of_iff (addF_01 _ _) (addF_01 _ _) ?_
  rw [addF_iff, addF_iff]
  constructor
  · rintro ⟨i, hi, h1, h2⟩
    by_cases z : n + L ≤ i
    · refine ⟨i - L, by (first | lia | omega), ?_, ?_⟩
      · have := p (i - L) (by (first | lia | omega))
        rw [show i - L + L = i by (first | lia | omega)] at this
        rw [← this]; exact h1
      · rw [show d - (i - L) = d + L - i by (first | lia | omega)]; exact h2
    · refine ⟨i, by (first | lia | omega), h1, ?_⟩
      have := p' (d - i) (by (first | lia | omega))
      rw [show d - i + L = d + L - i by (first | lia | omega)] at this
      rw [← this]; exact h2
  · rintro ⟨i, hi, h1, h2⟩
    by_cases z : n ≤ i
    · refine ⟨i + L, by (first | lia | omega), by rw [p i z]; exact h1, ?_⟩
      rw [show d + L - (i + L) = d - i by (first | lia | omega)]; exact h2
    · refine ⟨i, by (first | lia | omega), h1, ?_⟩
      have := p' (d - i) (by (first | lia | omega))
      rw [show d - i + L = d + L - i by (first | lia | omega)] at this
      rw [this]; exact h2
noncomputable def daysTo (g : Nat → Int) (N : Nat) : List Nat := (List.range N).filter fun i => decide (g i = 1)
end Pm
namespace Pb
open PySem L2 Pm
section
variable (K : PySem.W.Frag)
structure Pu (H : Hp) (p : Addr) (h b : List Int) : Prop where
  pl : Pl K H p h b
  t : T h b
  bh : Bits h
  bb : Bits b
  lh : h.length ≤ 400
  lb : b.length ≤ 200
theorem Pu.same {K : PySem.W.Frag} {H H' : Hp} {p : Addr} {h b : List Int} (x : Pu K H p h b) (s : Same H H') : Pu K H' p h b := ⟨x.pl.same s, x.t, x.bh, x.bb, x.lh, x.lb⟩
theorem Pu.mk' {K : PySem.W.Frag} {H : Hp} {p : Addr} {h b : List Int} {g : Nat → Int} (pl : Pl K H p h b) (t : T h b) (e : ∀ d, fig h b d = g d) (z : B01 g) (f : Fits h b) : Pu K H p h b := by
  obtain ⟨b1, b2⟩ := bits_of t fun d => by rw [e d]; exact z d
  exact ⟨pl, t, b1, b2, f.1, f.2⟩
noncomputable def Within (h b h' b' : List Int) : Prop := ∀ d, fig h b d = 1 → fig h' b' d = 1
theorem bits_set {xs : List Int} (hb : Bits xs) {i : Nat} {v : Int} (hv : v = 0 ∨ v = 1) : Bits (xs.set i v) := fun x hx => by
  rcases List.mem_or_eq_of_mem_set hx with z | z
  · exact hb x z
  · rw [z]; exact hv
theorem ixN_nat {n i : Nat} (h : i < n) : ixN n (i : Int) = some i := by
  unfold ixN
  rw [if_pos (by (first | lia | omega))]
  first | rfl | simp [h] | (rw [if_pos (by (first | lia | omega))]; simp)
noncomputable abbrev vN (n : Nat) : V := .int (n : Int)
theorem at_nats {xs : List Nat} {i : Int} {k : Nat} (e : i = (k : Int)) (h : k < xs.length) : atI (xs.map vN) i = some (.int ((xs.getD k 0 : Nat) : Int)) := by
  subst e
  refine atI_nat ?_
  rw [List.getElem?_map, List.getElem?_eq_getElem h, List.getD_eq_getElem?_getD, List.getElem?_eq_getElem h]
  rfl
end
section
variable {K : PySem.W.Frag} {H H' : Hp} {r r' : Addr} {g g' : Nat → Int} {p n0 p' n0' : Nat}
end
end Pb
namespace Pm
inductive Sm (ns : List Nat) : Nat → Prop
  | z : Sm ns 0
  | s : ∀ n d, n ∈ ns → Sm ns d → Sm ns (d + n)
theorem Sm.add {ns : List Nat} {a b : Nat} (x : Sm ns a) (y : Sm ns b) : Sm ns (a + b) := by
  induction y with
  | z => exact x
  | s n d hn _ ih => rw [← Nat.add_assoc]; exact .s n _ hn ih
theorem Sm.mul {ns : List Nat} {a : Nat} (x : Sm ns a) : ∀ k, Sm ns (k * a)
  | 0 => by rw [Nat.zero_mul]; exact .z
  | k + 1 => by rw [Nat.succ_mul]; exact (x.mul k).add x
theorem Sm.one {ns : List Nat} {n : Nat} (h : n ∈ ns) : Sm ns n := by
  have := Sm.s n 0 h .z
  rwa [Nat.zero_add] at this
theorem Sm.dvd {ns : List Nat} {g d : Nat} (hg : ∀ n ∈ ns, g ∣ n) (x : Sm ns d) : g ∣ d := by
  induction x with
  | z => exact Nat.dvd_zero g
  | s n d hn _ ih => exact Nat.dvd_add ih (hg n hn)
inductive SmK (ns : List Nat) : Nat → Nat → Prop
  | z : ∀ k, SmK ns k 0
  | s : ∀ k n d, n ∈ ns → SmK ns k d → SmK ns (k + 1) (d + n)
theorem SmK.sm {ns : List Nat} {k d : Nat} (x : SmK ns k d) : Sm ns d := by
  induction x with
  | z => exact .z
  | s k n d hn _ ih => exact .s n d hn ih
theorem SmK.up {ns : List Nat} {k d : Nat} (x : SmK ns k d) : SmK ns (k + 1) d := by
  induction x with
  | z => exact .z _
  | s k n d hn _ ih => exact .s _ n d hn ih
theorem SmK.le {ns : List Nat} {m : Nat} (hm : ∀ n ∈ ns, n ≤ m) {k d : Nat} (x : SmK ns k d) : d ≤ k * m := by
  induction x with
  | z => exact Nat.zero_le _
  | s k n d hn _ ih => rw [Nat.succ_mul]; exact Nat.add_le_add ih (hm n hn)
theorem countP_lt {p q : Nat → Bool} {l : List Nat} (h : ∀ x, x ∈ l → p x = true → q x = true) {y : Nat} (hy : y ∈ l) (h1 : q y = true) (h2 : p y = false) : l.countP p < l.countP q := by
  induction l with
  | nil => cases hy
  | cons x r ih =>
    have hr : r.countP p ≤ r.countP q := List.countP_mono_left fun z hz => h z (List.mem_cons_of_mem _ hz)
    rw [List.countP_cons, List.countP_cons]
    rcases List.mem_cons.mp hy with e | hy
    · subst e
      rw [h1, h2]
      simp only [Bool.false_eq_true, if_false, if_true]
      (first | lia | omega)
    · have := ih (fun z hz => h z (List.mem_cons_of_mem _ hz)) hy
      have hx := h x List.mem_cons_self
      cases hp : p x with
      | false => simp only [Bool.false_eq_true, if_false]; split <;> (first | lia | omega)
      | true => rw [hx hp]; simp only [if_true]; (first | lia | omega)
theorem stands {a : Nat} (R : Nat → Nat → Prop) (mono : ∀ k r, R k r → R (k + 1) r) (h0 : ∃ r, r < a ∧ R 0 r) : ∃ k, k < a ∧ ∀ r, r < a → R (k + 1) r → R k r := by
  refine Classical.byContradiction fun no => ?_
  have no' : ∀ k, k < a → ∃ r, r < a ∧ R (k + 1) r ∧ ¬ R k r := fun k hk => Classical.byContradiction fun n2 => no ⟨k, hk, fun r hr x => Classical.byContradiction fun n3 => n2 ⟨r, hr, x, n3⟩⟩
  let P : Nat → Nat → Bool := fun k r => @decide (R k r) (Classical.propDecidable _)
  have hP : ∀ k r, P k r = true ↔ R k r := fun k r => by simp [P]
  have grow : ∀ k, k ≤ a → k + 1 ≤ (List.range a).countP (P k) := by
    intro k
    induction k with
    | zero =>
      intro _
      obtain ⟨r, hr, x⟩ := h0
      exact List.countP_pos_iff.mpr ⟨r, List.mem_range.mpr hr, (hP 0 r).mpr x⟩
    | succ k ih =>
      intro hk
      obtain ⟨r, hr, x, nx⟩ := no' k (by (first | lia | omega))
      have := countP_lt (p := P k) (q := P (k + 1)) (l := List.range a) (fun z _ hz => (hP _ _).mpr (mono _ _ ((hP _ _).mp hz))) (List.mem_range.mpr hr) ((hP _ _).mpr x) (by
        cases e : P k r with
        | false => rfl
        | true => exact absurd ((hP _ _).mp e) nx)
      have := ih (by (first | lia | omega))
      (first | lia | omega)
  have := grow a (Nat.le_refl _)
  have := List.countP_le_length (p := P a) (l := List.range a)
  rw [List.length_range] at this
  (first | lia | omega)
theorem gcd_in {ns : List Nat} {a : Nat} : ∀ m n : Nat, (∃ s, Sm ns s ∧ (a : Int) ∣ (s : Int) - m) → (∃ s, Sm ns s ∧ (a : Int) ∣ (s : Int) - n) → 0 < a → ∃ s, Sm ns s ∧ (a : Int) ∣ (s : Int) - (Nat.gcd m n : Nat) := by
  intro m n
  induction m, n using Nat.gcd.induction with
  | H0 n => intro _ h _; rw [Nat.gcd_zero_left]; exact h
  | H1 m n hm ih =>
    rintro ⟨sm, xm, v, hv⟩ ⟨sn, xn, u, hu⟩ ha
    rw [Nat.gcd_rec]
    refine ih ⟨sn + (a - 1) * (n / m) * sm, xn.add (xm.mul _), u + ((a : Int) - 1) * ((n / m : Nat) : Int) * v + ((n / m : Nat) : Int) * m, ?_⟩ ⟨sm, xm, v, hv⟩ ha
    have e : ((n % m : Nat) : Int) = (n : Int) - m * ((n / m : Nat) : Int) := by
      have := Nat.div_add_mod n m
      have h2 : ((m * (n / m) + n % m : Nat) : Int) = (n : Int) := by rw [this]
      rw [Int.natCast_add, Int.natCast_mul] at h2
      (first | lia | omega)
    have e2 : (((a - 1 : Nat)) : Int) = (a : Int) - 1 := by (first | lia | omega)
    rw [e, Int.natCast_add, Int.natCast_mul, Int.natCast_mul, e2]
    generalize ((n / m : Nat) : Int) = q
    grind
noncomputable def gcdL : List Nat → Nat
  | [] => 0
  | n :: r => Nat.gcd n (gcdL r)
theorem gcdL_dvd : ∀ {ns : List Nat} {n : Nat}, n ∈ ns → gcdL ns ∣ n
  | m :: r, n, h => by
    rcases List.mem_cons.mp h with e | h
    · subst e; exact Nat.gcd_dvd_left _ _
    · exact Nat.dvd_trans (Nat.gcd_dvd_right _ _) (gcdL_dvd h)
theorem gcdL_in {ns : List Nat} {a : Nat} (ha : 0 < a) : ∀ l : List Nat, (∀ n ∈ l, n ∈ ns) → ∃ s, Sm ns s ∧ (a : Int) ∣ (s : Int) - (gcdL l : Nat)
  | [], _ => ⟨0, .z, 0, by rfl⟩
  | n :: r, h => gcd_in _ _ ⟨n, .one (h n List.mem_cons_self), 0, by (first | lia | omega)⟩ (gcdL_in ha r fun m hm => h m (List.mem_cons_of_mem _ hm)) ha
theorem sm_farA {ns : List Nat} {m a : Nat} (hm : ∀ n ∈ ns, 1 ≤ n ∧ n ≤ m) (ha : a ∈ ns) {d : Nat} (hd : (a - 1) * m ≤ d) (hg : gcdL ns ∣ d) : Sm ns d := by
  have a1 := (hm a ha).1
  have a2 := (hm a ha).2
  obtain ⟨t, ht⟩ := hg
  obtain ⟨s0, x0, u, hu⟩ := gcdL_in (ns := ns) (a := a) a1 ns (fun _ h => h)
  have x1 : Sm ns (t * s0) := x0.mul t
  have c1 : (a : Int) ∣ ((t * s0 : Nat) : Int) - d := ⟨t * u, by rw [ht, Int.natCast_mul, Int.natCast_mul]; grind⟩
  let R : Nat → Nat → Prop := fun k r => ∃ s, SmK ns k s ∧ s % a = r
  obtain ⟨k, hk, st⟩ := stands (a := a) R (fun k r ⟨s, x, e⟩ => ⟨s, x.up, e⟩) ⟨0, a1, 0, .z 0, Nat.zero_mod a⟩
  have all : ∀ s, Sm ns s → R k (s % a) := fun s x => by
    induction x with
    | z => exact ⟨0, .z k, rfl⟩
    | s n d hn _ ih =>
      obtain ⟨s', x', e'⟩ := ih
      refine st _ (Nat.mod_lt _ a1) ⟨s' + n, .s k n s' hn x', ?_⟩
      rw [Nat.add_mod, e', ← Nat.add_mod]
  obtain ⟨s2, x2, e2⟩ := all _ x1
  have l2 : s2 ≤ k * m := x2.le fun n hn => (hm n hn).2
  have l3 : k * m ≤ (a - 1) * m := Nat.mul_le_mul_right m (by (first | lia | omega))
  have l4 : s2 ≤ d := by (first | lia | omega)
  have c2 : (a : Int) ∣ (d : Int) - s2 := by
    have c3 : (a : Int) ∣ ((t * s0 : Nat) : Int) - s2 := by
      have := Int.emod_emod_of_dvd
      rw [Int.dvd_iff_emod_eq_zero, Int.sub_emod, ← Int.natCast_emod, ← Int.natCast_emod, e2, Int.sub_self, Int.zero_emod]
    obtain ⟨p, hp⟩ := c1
    obtain ⟨q, hq⟩ := c3
    exact ⟨q - p, by rw [Int.mul_sub]; (first | lia | omega)⟩
  have c4 : a ∣ d - s2 := by
    have : ((d - s2 : Nat) : Int) = (d : Int) - s2 := by (first | lia | omega)
    exact Int.natCast_dvd_natCast.mp (by rw [this]; exact c2)
  obtain ⟨q, hq⟩ := c4
  have : d = s2 + q * a := by rw [Nat.mul_comm]; (first | lia | omega)
  rw [this]
  exact x2.sm.add ((Sm.one ha).mul q)
theorem sm_far {ns : List Nat} {m : Nat} (hm : ∀ n ∈ ns, 1 ≤ n ∧ n ≤ m) (ne : ns ≠ []) {d : Nat} (hd : (m - 1) * m ≤ d) (hg : gcdL ns ∣ d) : Sm ns d := by
  obtain ⟨a, ha⟩ : ∃ a, a ∈ ns := by
    cases ns with
    | nil => exact absurd rfl ne
    | cons a r => exact ⟨a, List.mem_cons_self⟩
  have := hm a ha
  exact sm_farA hm ha (Nat.le_trans (Nat.mul_le_mul_right m (show a - 1 ≤ m - 1 by (first | lia | omega))) hd) hg
open Classical in
noncomputable def sumF (ns : List Nat) (d : Nat) : Int := if Sm ns d then 1 else 0
theorem sumF_01 (ns : List Nat) : B01 (sumF ns) := fun d => by
  unfold sumF
  split
  · exact .inr rfl
  · exact .inl rfl
theorem sumF_iff {ns : List Nat} {d : Nat} : sumF ns d = 1 ↔ Sm ns d := by
  unfold sumF
  split
  · exact ⟨fun _ => by assumption, fun _ => rfl⟩
  · exact ⟨fun h => (by cases h), fun h => absurd h (by assumption)⟩
theorem sumF_far {ns : List Nat} {m : Nat} (hm : ∀ n ∈ ns, 1 ≤ n ∧ n ≤ m) (ne : ns ≠ []) {d : Nat} (hd : (m - 1) * m ≤ d) : sumF ns d = 1 ↔ gcdL ns ∣ d := by
  rw [sumF_iff]
  exact ⟨fun x => x.dvd fun n hn => gcdL_dvd hn, sm_far hm ne hd⟩
theorem per_sum {ns : List Nat} {m : Nat} (hm : ∀ n ∈ ns, 1 ≤ n ∧ n ≤ m) (ne : ns ≠ []) : Per (sumF ns) (gcdL ns) ((m - 1) * m) := fun d hd => by
  refine eq_of_iff (sumF_01 ns) (sumF_01 ns) ?_
  rw [sumF_far hm ne (by (first | lia | omega)), sumF_far hm ne hd]
  exact ⟨fun h => (Nat.dvd_add_iff_left (Nat.dvd_refl _)).mpr h, fun h => Nat.dvd_add h (Nat.dvd_refl _)⟩
end Pm
namespace Pb
open PySem L2 Pm
section
variable (K : PySem.W.Frag)
structure Nums (ns : List Nat) (most top : Nat) : Prop where
  ne : ns ≠ []
  len : ns.length ≤ most
  bnd : ∀ n ∈ ns, 1 ≤ n ∧ n ≤ top
noncomputable def spSums : Sp := fun vs H Q E => ∃ (a : Addr) (ns : List Nat), vs = [.ref a] ∧ SqL K H a (ns.map vN) ∧ Nums ns 6 20 ∧ ∀ r hh bb H', Same H H' → Pu K H' r hh bb → (∀ d, fig hh bb d = sumF ns d) → Q (.ref r) H'
end
theorem fm_nats (f : Nat → Nat) (g : V → Option V) (h : ∀ n, g (vN n) = some (vN (f n))) : ∀ ms : List Nat, (ms.map vN).filterMap g = (ms.map f).map vN
  | [] => rfl
  | n :: r => by
    rw [List.map_cons, List.filterMap_cons, h n, List.map_cons, List.map_cons, fm_nats f g h r]
theorem nats_ints (ms : List Nat) : ms.map vN = (ms.map fun n : Nat => (n : Int)).map V.int := by rw [List.map_map]; rfl
end Pb
namespace Pm
noncomputable abbrev Rul := Nat × Nat × Option Nat
noncomputable def tmOk (t : Option Nat) (k : Nat) : Bool := match t with | none => true | some n => decide (k < n)
noncomputable def ofRule (r : Rul) (d : Nat) : Bool := decide (r.1 ≤ d) && (decide ((d - r.1) % r.2.1 = 0) && tmOk r.2.2 ((d - r.1) / r.2.1))
noncomputable def ruleF (rs : List Rul) (d : Nat) : Int := if rs.any (ofRule · d) = true then 1 else 0
theorem ruleF_01 (rs : List Rul) : B01 (ruleF rs) := fun d => by
  unfold ruleF
  split
  · exact .inr rfl
  · exact .inl rfl
theorem ruleF_iff {rs : List Rul} {d : Nat} : ruleF rs d = 1 ↔ rs.any (ofRule · d) = true := by
  unfold ruleF
  split
  · exact ⟨fun _ => by assumption, fun _ => rfl⟩
  · exact ⟨fun h => (by cases h), fun h => absurd h (by assumption)⟩
theorem any_congr {rs : List Rul} {f g : Rul → Bool} (h : ∀ r ∈ rs, f r = g r) : rs.any f = rs.any g := by
  induction rs with
  | nil => rfl
  | cons r l ih => rw [List.any_cons, List.any_cons, h r List.mem_cons_self, ih fun x hx => h x (List.mem_cons_of_mem _ hx)]
theorem per_rules {rs : List Rul} {L N : Nat} (h : ∀ r ∈ rs, 0 < r.2.1 ∧ r.2.1 ∣ L ∧ r.1 ≤ N ∧ ∀ t, r.2.2 = some t → r.1 + r.2.1 * t ≤ N) : Per (ruleF rs) L N := fun d hd => by
  unfold ruleF
  rw [any_congr (f := (ofRule · (d + L))) (g := (ofRule · d)) fun r hr => ?_]
  obtain ⟨h1, h2, h3, h4⟩ := h r hr
  obtain ⟨s, st, t⟩ := r
  obtain ⟨q, rfl⟩ := h2
  have g1 : 0 < st := h1
  have h3 : s ≤ N := h3
  show ofRule (s, st, t) (d + st * q) = ofRule (s, st, t) d
  unfold ofRule
  have e1 : d + st * q - s = d - s + st * q := by (first | lia | omega)
  show (decide (s ≤ d + st * q) && (decide ((d + st * q - s) % st = 0) && tmOk t ((d + st * q - s) / st))) = (decide (s ≤ d) && (decide ((d - s) % st = 0) && tmOk t ((d - s) / st)))
  rw [e1, Nat.add_mul_mod_self_left, decide_eq_true (show s ≤ d + st * q by (first | lia | omega)), decide_eq_true (show s ≤ d by (first | lia | omega))]
  cases t with
  | none => rfl
  | some n =>
    have h4 : s + st * n ≤ N := h4 n rfl
    have a1 : n ≤ (d - s) / st := (Nat.le_div_iff_mul_le g1).mpr (by rw [Nat.mul_comm]; (first | lia | omega))
    have a2 : n ≤ (d - s + st * q) / st := (Nat.le_div_iff_mul_le g1).mpr (by rw [Nat.mul_comm]; (first | lia | omega))
    show (true && (decide ((d - s) % st = 0) && decide ((d - s + st * q) / st < n))) = (true && (decide ((d - s) % st = 0) && decide ((d - s) / st < n)))
    rw [decide_eq_false (show ¬ (d - s + st * q) / st < n by (first | lia | omega)), decide_eq_false (show ¬ (d - s) / st < n by (first | lia | omega))]
end Pm
namespace Pb
open PySem L2 Pm
theorem SqT.overL {K : PySem.W.Frag} {H : Hp} {p D : Addr} {ys xs : List V} {o : HO} (h : SqT K H p ys) (hD : H D = some (.lst xs)) : SqT K (upd H D o) p ys := by
  rcases h with (h | ⟨u, h⟩) | h
  · exact .inl (.inl (by rw [upd_ne (by rintro rfl; rw [hD] at h; cases h)]; exact h))
  · exact .inl (.inr ⟨u, by rw [upd_ne (by rintro rfl; rw [hD] at h; cases h)]; exact h⟩)
  · exact .inr h
noncomputable def tmV : Option Nat → V
  | none => .non
  | some t => vN t
noncomputable def tmD : Option Nat → PyData
  | none => .none
  | some t => .int (t : Int)
noncomputable def ruVs (r : Rul) : List V := [vN r.1, vN r.2.1, tmV r.2.2]
noncomputable def dRu (r : Rul) : PyData := .tuple [.int (r.1 : Int), .int (r.2.1 : Int), tmD r.2.2]
section
variable (K : PySem.W.Frag)
noncomputable def Rus (H : Hp) : List V → List Rul → Prop
  | [], [] => True
  | v :: vs, r :: rs => (∃ p, v = .ref p ∧ SqT K H p (ruVs r)) ∧ Rus H vs rs
  | _, _ => False
noncomputable def RuL (H : Hp) (a : Addr) (rs : List Rul) : Prop := ∃ xs, SqL K H a xs ∧ Rus K H xs rs
end
section
variable {K : PySem.W.Frag} {H H' : Hp}
theorem Rus.same (s : Same H H') : ∀ {vs : List V} {rs : List Rul}, Rus K H vs rs → Rus K H' vs rs
  | [], [], h => h
  | v :: vs, r :: rs, ⟨⟨p, e, h⟩, t⟩ => ⟨⟨p, e, s.tup h⟩, Rus.same s t⟩
  | [], _ :: _, h => h
  | _ :: _, [], h => h
theorem Rus.overL {D : Addr} {xs : List V} {o : HO} (hD : H D = some (.lst xs)) : ∀ {vs : List V} {rs : List Rul}, Rus K H vs rs → Rus K (upd H D o) vs rs
  | [], [], h => h
  | v :: vs, r :: rs, ⟨⟨p, e, h⟩, t⟩ => ⟨⟨p, e, SqT.overL h hD⟩, Rus.overL hD t⟩
  | [], _ :: _, h => h
  | _ :: _, [], h => h
theorem Rus.snoc {p : Addr} {r : Rul} (hp : SqT K H p (ruVs r)) : ∀ {vs : List V} {rs : List Rul}, Rus K H vs rs → Rus K H (vs ++ [.ref p]) (rs ++ [r])
  | [], [], _ => ⟨⟨p, rfl, hp⟩, trivial⟩
  | v :: vs, q :: rs, ⟨x, t⟩ => ⟨x, Rus.snoc hp t⟩
  | [], _ :: _, h => h.elim
  | _ :: _, [], h => h.elim
theorem Rus.len : ∀ {vs : List V} {rs : List Rul}, Rus K H vs rs → vs.length = rs.length
  | [], [], _ => rfl
  | _ :: _, _ :: _, ⟨_, t⟩ => congrArg (· + 1) (Rus.len t)
  | [], _ :: _, h => h.elim
  | _ :: _, [], h => h.elim
theorem Rus.at : ∀ {vs : List V} {rs : List Rul} {i : Nat} {v : V}, Rus K H vs rs → vs[i]? = some v → ∃ p r, rs[i]? = some r ∧ v = .ref p ∧ SqT K H p (ruVs r)
  | [], [], i, v, _, e => by cases i <;> cases e
  | _ :: _, r :: _, 0, v, ⟨⟨p, e1, h⟩, _⟩, e => ⟨p, r, rfl, by cases e; exact e1, h⟩
  | _ :: vs, _ :: rs, i + 1, v, ⟨_, t⟩, e => by
    obtain ⟨p, r, e1, e2, e3⟩ := Rus.at (i := i) t (by simpa using e)
    exact ⟨p, r, by simpa using e1, e2, e3⟩
  | [], _ :: _, _, _, h, _ => h.elim
  | _ :: _, [], _, _, h, _ => h.elim
theorem rep_tm {n : Nat} : ∀ t : Option Nat, Rep K H n (tmV t) (tmD t)
  | none => .non
  | some t => .int _
theorem Rus.rep {n : Nat} : ∀ {vs : List V} {rs : List Rul}, Rus K H vs rs → RepAll K H (n + 1) vs (rs.map dRu)
  | [], [], _ => .nil
  | v :: vs, r :: rs, ⟨⟨p, e, h⟩, t⟩ => by
    subst e
    exact .cons (.tup h (.cons (.int _) (.cons (.int _) (.cons (rep_tm _) .nil)))) (Rus.rep t)
  | [], _ :: _, h => h.elim
  | _ :: _, [], h => h.elim
theorem eqv_tm : ∀ t : Option Nat, PyData.eqv (tmD t) (tmD t) = true
  | none => by simp [tmD, PyData.eqv]
  | some t => by simp [tmD, PyData.eqv]
theorem eqv_rus : ∀ rs : List Rul, PyData.eqvAll (rs.map dRu) (rs.map dRu) = true
  | [] => by simp [PyData.eqvAll]
  | r :: rs => by
    have ih := eqv_rus rs
    have et := eqv_tm r.2.2
    simp [PyData.eqvAll, PyData.eqv, dRu, ih, et]
theorem RuL.same {a : Addr} {rs : List Rul} (s : Same H H') (h : RuL K H a rs) : RuL K H' a rs := by
  obtain ⟨xs, h1, h2⟩ := h
  exact ⟨xs, s.seq h1, h2.same s⟩
end
theorem cut_mid (xs : List Int) (n m : Nat) : ∃ ys : List Int, cutV (xs.map V.int) (some (n : Int)) (some ((n + m : Nat) : Int)) = ys.map V.int ∧ ys.length ≤ m ∧ ys.length ≤ xs.length := by
  unfold cutV
  generalize hA : HT.sIx (xs.map V.int).length 0 (some (n : Int)) = A
  generalize hB : HT.sIx (xs.map V.int).length (xs.map V.int).length (some ((n + m : Nat) : Int)) = B
  refine ⟨(xs.drop A).take (B - A), by rw [List.map_take, List.map_drop], ?_, ?_⟩
  · rw [List.length_take]
    refine Nat.le_trans (Nat.min_le_left _ _) ?_
    have e1 : A = min n xs.length := by rw [← hA, HT.sIx_nat, List.length_map]
    have e2 : B = min (n + m) xs.length := by rw [← hB, HT.sIx_nat, List.length_map]
    (first | lia | omega)
  · rw [List.length_take, List.length_drop]; (first | lia | omega)
section
variable (K : PySem.W.Frag)
noncomputable def FitsF (g : Nat → Int) : Prop := ∀ h b, T h b → (∀ d, fig h b d = g d) → Fits h b
theorem fitsF_per {g : Nat → Int} {p n0 : Nat} (pr : Per g p n0) (hp : 0 < p) (h1 : n0 ≤ 400) (h2 : p ≤ 200) : FitsF g := fun h b t e => by
  obtain ⟨a1, a2⟩ := per_fits t e hp pr
  exact ⟨by (first | lia | omega), Nat.le_trans (Nat.le_of_dvd hp a2) h2⟩
structure RulsOk (rs : List Rul) : Prop where
  len : rs.length ≤ 12
  one : ∀ r ∈ rs, FitsF (ruleF [r])
  pre : ∀ i, i < rs.length → FitsF (ruleF (rs.take i))
  bnd : ∀ r ∈ rs, r.1 ≤ 400 ∧ 1 ≤ r.2.1 ∧ r.2.1 ≤ 200 ∧ ∀ t, r.2.2 = some t → 1 ≤ t ∧ t ≤ 400
noncomputable def RuK (r : Rul) : Prop := r.1 ≤ 29 ∧ 0 < r.2.1 ∧ r.2.1 ∣ 12 ∧ ∀ t, r.2.2 = some t → 1 ≤ t ∧ t ≤ 9
noncomputable def spRuleL : Sp := fun vs H Q _ => ∃ c : Int, vs = [.int c] ∧ ∀ p r H', Same H H' → SqT K H' p (ruVs r) → RuK r → Q (.ref p) H'
noncomputable def spRulesL : Sp := fun vs H Q _ => ∃ (a : Addr) (ns : List Int), vs = [.ref a] ∧ SqL K H a (ns.map V.int) ∧ ns.length ≤ 63 ∧ ∀ l rs H', Same H H' → H' l ≠ none → RuL K H' l rs → rs.length ≤ 12 → (∀ r ∈ rs, RuK r) → Q (.ref l) H'
theorem RuK.per {rs : List Rul} (h : ∀ r ∈ rs, RuK r) : Per (ruleF rs) 12 137 := per_rules fun r hr => by
  obtain ⟨h1, h2, h3, h4⟩ := h r hr
  have l := Nat.le_of_dvd (by decide) h3
  refine ⟨h2, h3, by (first | lia | omega), fun t e => ?_⟩
  have := h4 t e
  have : r.2.1 * t ≤ 12 * 9 := Nat.mul_le_mul l this.2
  (first | lia | omega)
theorem RuK.ok {rs : List Rul} (hl : rs.length ≤ 12) (h : ∀ r ∈ rs, RuK r) : RulsOk rs := ⟨hl, fun r hr => fitsF_per (RuK.per fun q hq => by rw [List.mem_singleton.mp hq]; exact h r hr) (by decide) (by decide) (by decide), fun i _ => fitsF_per (RuK.per fun q hq => h q (List.mem_of_mem_take hq)) (by decide) (by decide) (by decide), fun r hr => by
  obtain ⟨h1, h2, h3, h4⟩ := h r hr
  have := Nat.le_of_dvd (by decide) h3
  exact ⟨by (first | lia | omega), h2, by (first | lia | omega), fun t e => by have := h4 t e; (first | lia | omega)⟩⟩
end
end Pb
namespace Pm
noncomputable def rulH (h : List Int) (i : Nat) : Option Rul := if h.getD i 0 = 1 then some (i, 1, some 1) else none
noncomputable def rulB (n : Nat) (b : List Int) (k : Nat) : Option Rul := if b.getD k 0 = 1 then some (n + k, b.length, none) else none
noncomputable def rulesOf (h b : List Int) : List Rul := (List.range h.length).filterMap (rulH h) ++ (List.range b.length).filterMap (rulB h.length b)
end Pm
namespace Pb
open PySem L2 Pm
theorem Rus.app {K : PySem.W.Frag} {H : Hp} {vs' : List V} {rs' : List Rul} (y : Rus K H vs' rs') : ∀ {vs : List V} {rs : List Rul}, Rus K H vs rs → Rus K H (vs ++ vs') (rs ++ rs')
  | [], [], _ => y
  | v :: vs, q :: rs, ⟨x, t⟩ => ⟨x, Rus.app y t⟩
  | [], _ :: _, h => h.elim
  | _ :: _, [], h => h.elim
noncomputable def spRulesOf (K : PySem.W.Frag) : Sp := fun vs H Q _ => ∃ (p : Addr) (h b : List Int), vs = [.ref p] ∧ Pu K H p h b ∧ ∀ l xs H', Same H H' → H l = none → H' l = some (.lst xs) → Rus K H' xs (rulesOf h b) → Q (.ref l) H'
end Pb
namespace Pm
theorem pigeon {N : Nat} (c : Nat → Nat) (h : ∀ i, c i < N) : ∃ i j, i < j ∧ j ≤ N ∧ c i = c j := by
  obtain ⟨k, hk, st⟩ := stands (a := N) (fun k r => ∃ i, i ≤ k ∧ c i = r) (fun k r ⟨i, hi, e⟩ => ⟨i, by (first | lia | omega), e⟩) ⟨c 0, h 0, 0, Nat.le_refl _, rfl⟩
  obtain ⟨i, hi, e⟩ := st (c (k + 1)) (h _) ⟨k + 1, Nat.le_refl _, rfl⟩
  exact ⟨i, k + 1, by (first | lia | omega), by (first | lia | omega), e⟩
end Pm
namespace Pb
open PySem L2 Pm
end Pb
namespace Pb
open PySem L2 Pm
end Pb
namespace Pb
open PySem L2 Pm
end Pb
namespace Pm
noncomputable def walkAt (st : List Nat) (s : Nat) : Nat → Nat
  | 0 => s
  | d + 1 => st.getD (walkAt st s d) 0
noncomputable def walkF (st mk : List Nat) (s d : Nat) : Int := ((mk.getD (walkAt st s d) 0 : Nat) : Int)
structure WalkOk (st mk : List Nat) (s : Nat) : Prop where
  len : mk.length = st.length
  max : st.length ≤ 400
  stp : ∀ x ∈ st, x < st.length
  mrk : ∀ m ∈ mk, m = 0 ∨ m = 1
  beg : s < st.length
theorem getN_mem {l : List Nat} {i : Nat} (h : i < l.length) : l.getD i 0 ∈ l := by
  rw [List.getD_eq_getElem?_getD, List.getElem?_eq_getElem h]
  exact List.getElem_mem h
theorem walk_lt {st : List Nat} {s : Nat} (hs : ∀ x ∈ st, x < st.length) (h0 : s < st.length) : ∀ d, walkAt st s d < st.length
  | 0 => h0
  | d + 1 => hs _ (getN_mem (walk_lt hs h0 d))
theorem walk_again {st : List Nat} {s i j : Nat} (e : walkAt st s i = walkAt st s j) : ∀ k, walkAt st s (i + k) = walkAt st s (j + k)
  | 0 => e
  | k + 1 => by
    show st.getD (walkAt st s (i + k)) 0 = st.getD (walkAt st s (j + k)) 0
    rw [walk_again e k]
theorem walk_per {st : List Nat} {s i j d : Nat} (hij : i < j) (e : walkAt st s i = walkAt st s j) (hd : i ≤ d) : walkAt st s (d + (j - i)) = walkAt st s d := by
  have := walk_again e (d - i)
  rw [show i + (d - i) = d by (first | lia | omega), show j + (d - i) = d + (j - i) by (first | lia | omega)] at this
  exact this.symm
theorem walk_twice {st : List Nat} {s : Nat} (hs : ∀ x ∈ st, x < st.length) (h0 : s < st.length) : ∃ i j, i < j ∧ j ≤ st.length ∧ walkAt st s i = walkAt st s j :=
  pigeon (walkAt st s) (walk_lt hs h0)
theorem walk_Per {st mk : List Nat} {s : Nat} (w : WalkOk st mk s) : ∃ p n0, 0 < p ∧ p + n0 ≤ st.length ∧ Per (walkF st mk s) p n0 := by
  obtain ⟨i, j, hij, hj, e⟩ := walk_twice w.stp w.beg
  refine ⟨j - i, i, by (first | lia | omega), by (first | lia | omega), fun d hd => ?_⟩
  unfold walkF
  rw [walk_per hij e hd]
end Pm
namespace Pb
open PySem L2 Pm
section
variable (K : PySem.W.Frag)
noncomputable def spWalkL : Sp := fun vs H Q _ => ∃ (a : Addr) (ns : List Int) (at' : Int), vs = [.ref a, .int at'] ∧ SqL K H a (ns.map V.int) ∧ ns.length ≤ 63 ∧ 0 ≤ at' ∧
  ∀ (p l c : Addr) (st mk : List Nat) (s : Nat) (H' : Hp), Same H H' → SqT K H' p [.ref l, .ref c, .int (s : Int)] → H' l = some (.lst (st.map vN)) → H' c = some (.lst (mk.map vN)) → l ≠ c → WalkOk st mk s → st.length ≤ 60 → Q (.ref p) H'
end
theorem walk_fits {st mk : List Nat} {s : Nat} (w : WalkOk st mk s) (hl : st.length ≤ 200) {hh bb : List Int} (t : T hh bb) (e : ∀ d, fig hh bb d = walkF st mk s d) : Fits hh bb := by
  obtain ⟨p, n0, hp, hn, pr⟩ := walk_Per w
  have sm := per_fits t e hp pr
  have := Nat.le_of_dvd hp sm.2
  exact ⟨by (first | lia | omega), by (first | lia | omega)⟩
theorem flat_nats (l : List Nat) : (l.map vN).all flatV = true := by rw [nats_ints]; exact flat_ints _
end Pb
namespace Pm
noncomputable def stepsOf (h b : List Int) : List Nat := (List.range (h.length + b.length - 1)).map (· + 1) ++ [h.length]
noncomputable def place (h b : List Int) (d : Nat) : Nat := if d < h.length then d else h.length + (d - h.length) % b.length
end Pm
namespace Pb
open PySem L2 Pm
noncomputable def spWalkOf (K : PySem.W.Frag) : Sp := fun vs H Q _ => ∃ (p : Addr) (h b : List Int), vs = [.ref p] ∧ Pu K H p h b ∧ ∀ (t l c : Addr) (H' : Hp), Same H H' → H l = none → H c = none → l ≠ c → SqT K H' t [.ref l, .ref c] → H' l = some (.lst ((stepsOf h b).map vN)) → H' c = some (.lst ((h ++ b).map V.int)) → Q (.ref t) H'
end Pb
namespace Pb
open PySem L2 Pm
noncomputable def DP (K : PySem.W.Frag) (H : Hp) (r : Addr) (g : Nat → Int) : Prop := ∃ hh bb, Pl K H r hh bb ∧ T hh bb ∧ ∀ d, fig hh bb d = g d
theorem DP.same {K : PySem.W.Frag} {H H' : Hp} {r : Addr} {g : Nat → Int} (x : DP K H r g) (s : Same H H') : DP K H' r g := by
  obtain ⟨hh, bb, p, t, e⟩ := x
  exact ⟨hh, bb, p.same s, t, e⟩
theorem DP.rep {K : PySem.W.Frag} {H : Hp} {r r' : Addr} {g : Nat → Int} (x : DP K H r g) (y : DP K H r' g) : ∃ dx dy, Rep K H 8 (.ref r) dx ∧ Rep K H 8 (.ref r') dy ∧ PyData.eqv dx dy = true := by
  obtain ⟨hh, bb, p, t, e⟩ := x
  obtain ⟨h', b', p', t', e'⟩ := y
  refine ⟨_, _, p.rep, p'.rep, ?_⟩
  rw [eqv_dP, decide_eq_true (t.uniq t' fun d => (e d).trans (e' d).symm)]
theorem pu_two {K : PySem.W.Frag} {H : Hp} {p : Addr} (pl : Pl K H p [1, 1] [0]) : Pu K H p [1, 1] [0] := by
  refine ⟨pl, ?_, fun y hy => ?_, fun y hy => ?_, by decide, by decide⟩
  · exact ⟨by decide, fun n h1 h2 _ => by have : n < 1 := h2; (first | lia | omega), fun _ => by decide⟩
  · simp at hy; exact .inr hy
  · simp at hy; exact .inl hy
theorem two_add {h b : List Int} (t : T h b) (hl : h.length ≤ 14) (bl : b.length ≤ 14) {hh bb : List Int} (t' : T hh bb) (e : ∀ d, fig hh bb d = addF (fig h b) (fig [1, 1] [0]) d) : Fits hh bb := by
  have p1 : Per (fig [1, 1] [0]) b.length ([1, 1] : List Int).length := (per_fig [1, 1] [0]).of_dvd (Nat.one_dvd _)
  have sm := per_fits t' e t.pos (per_add t.pos (per_fig h b) p1)
  have := Nat.le_of_dvd t.pos sm.2
  have l2 : ([1, 1] : List Int).length = 2 := rfl
  exact ⟨by (first | lia | omega), by (first | lia | omega)⟩
theorem eqv4 {a b c d a' b' c' d' : PyData} (h1 : PyData.eqv a a' = true) (h2 : PyData.eqv b b' = true) (h3 : PyData.eqv c c' = true) (h4 : PyData.eqv d d' = true) : PyData.eqv (.list [a, b, c, d]) (.list [a', b', c', d']) = true := by
  simp [PyData.eqv, PyData.eqvAll, h1, h2, h3, h4]
theorem eqv3 {a b c a' b' c' : PyData} (h1 : PyData.eqv a a' = true) (h2 : PyData.eqv b b' = true) (h3 : PyData.eqv c c' = true) : PyData.eqv (.list [a, b, c]) (.list [a', b', c']) = true := by
  simp [PyData.eqv, PyData.eqvAll, h1, h2, h3]
end Pb
namespace Pb
open PySem L2 Pm
end Pb
namespace Pb
open PySem L2 Pm
end Pb
namespace Pm
end Pm
namespace Pm
theorem getD_range {g : Nat → Int} {n i : Nat} (h : i < n) : ((List.range n).map g).getD i 0 = g i := by
  rw [List.getD_eq_getElem?_getD, List.getElem?_map, List.getElem?_range h]; rfl
theorem row01 {xs : List Int} (hb : ∀ x ∈ xs, x = 0 ∨ x = 1) : B01 (fun i => xs.getD i 0) := fun i => by
  show xs.getD i 0 = 0 ∨ xs.getD i 0 = 1
  by_cases h : i < xs.length
  · rw [List.getD_eq_getElem?_getD, List.getElem?_eq_getElem h]; exact hb _ (List.getElem_mem h)
  · rw [List.getD_eq_getElem?_getD, List.getElem?_eq_none (by (first | lia | omega))]; exact .inl rfl
noncomputable def ones (xs : List Int) : List Nat := daysTo (fun i => xs.getD i 0) xs.length
theorem ones_le (xs : List Int) : (ones xs).length ≤ xs.length := by
  unfold ones daysTo
  refine Nat.le_trans (List.length_filter_le _ _) ?_
  rw [List.length_range]; exact Nat.le_refl _
noncomputable def SumR (xs ys ss : List Nat) (d : Nat) : Prop := ∃ x ∈ xs, ∃ y ∈ ys, ∃ t, Sm ss t ∧ d = x + y + t
theorem Sm.nil {t : Nat} (h : Sm [] t) : t = 0 := by
  cases h with
  | z => rfl
  | s n d hn _ => cases hn
theorem Sm.snoc {ss : List Nat} {s t : Nat} : Sm (ss ++ [s]) t ↔ ∃ k u, Sm ss u ∧ t = u + k * s := by
  constructor
  · intro h
    induction h with
    | z => exact ⟨0, 0, .z, by (first | lia | omega)⟩
    | s n d hn _ ih =>
      obtain ⟨k, u, hu, e⟩ := ih
      rcases List.mem_append.mp hn with m | m
      · exact ⟨k, u + n, .s n u m hu, by (first | lia | omega)⟩
      · rw [List.mem_singleton.mp m]
        exact ⟨k + 1, u, hu, by rw [Nat.add_mul]; (first | lia | omega)⟩
  · rintro ⟨k, u, hu, rfl⟩
    have up : Sm (ss ++ [s]) u := by
      induction hu with
      | z => exact .z
      | s n d hn _ ih => exact .s n d (List.mem_append_left _ hn) ih
    exact up.add ((Sm.one (List.mem_append_right _ (List.mem_singleton.mpr rfl))).mul k)
theorem SumR.snoc {xs ys ss : List Nat} {s d : Nat} : SumR xs ys (ss ++ [s]) d ↔ ∃ k, k * s ≤ d ∧ SumR xs ys ss (d - k * s) := by
  constructor
  · rintro ⟨x, hx, y, hy, t, ht, rfl⟩
    obtain ⟨k, u, hu, rfl⟩ := Sm.snoc.mp ht
    exact ⟨k, by (first | lia | omega), x, hx, y, hy, u, hu, by (first | lia | omega)⟩
  · rintro ⟨k, hk, x, hx, y, hy, u, hu, e⟩
    exact ⟨x, hx, y, hy, u + k * s, Sm.snoc.mpr ⟨k, u, hu, rfl⟩, by (first | lia | omega)⟩
theorem go_on {R : Nat → Prop} {s d : Nat} (hs : 0 < s) : (∃ k, k * s ≤ d ∧ R (d - k * s)) ↔ R d ∨ (s ≤ d ∧ ∃ k, k * s ≤ d - s ∧ R (d - s - k * s)) := by
  constructor
  · rintro ⟨k, hk, r⟩
    cases k with
    | zero => exact .inl (by rw [Nat.zero_mul] at r; exact r)
    | succ k =>
      rw [Nat.succ_mul] at hk r
      exact .inr ⟨by (first | lia | omega), k, by (first | lia | omega), by rw [show d - s - k * s = d - (k * s + s) by (first | lia | omega)]; exact r⟩
  · rintro (r | ⟨h, k, hk, r⟩)
    · exact ⟨0, by (first | lia | omega), by rw [Nat.zero_mul]; exact r⟩
    · exact ⟨k + 1, by rw [Nat.succ_mul]; (first | lia | omega), by rw [Nat.succ_mul, show d - (k * s + s) = d - s - k * s by (first | lia | omega)]; exact r⟩
theorem Sm.one_iff {s t : Nat} : Sm [s] t ↔ ∃ k, t = k * s := by
  have e : ([s] : List Nat) = [] ++ [s] := rfl
  rw [e, Sm.snoc]
  constructor
  · rintro ⟨k, u, hu, rfl⟩
    exact ⟨k, by rw [hu.nil]; (first | lia | omega)⟩
  · rintro ⟨k, rfl⟩
    exact ⟨k, 0, .z, by (first | lia | omega)⟩
theorem Sm.two_iff {s r t : Nat} : Sm [s, r] t ↔ ∃ k m, t = k * s + m * r := by
  have e : ([s, r] : List Nat) = [s] ++ [r] := rfl
  rw [e, Sm.snoc]
  constructor
  · rintro ⟨m, u, hu, rfl⟩
    obtain ⟨k, rfl⟩ := Sm.one_iff.mp hu
    exact ⟨k, m, rfl⟩
  · rintro ⟨k, m, rfl⟩
    exact ⟨m, k * s, Sm.one_iff.mpr ⟨k, rfl⟩, rfl⟩
theorem mem_ones {xs : List Int} {i : Nat} : i ∈ ones xs ↔ i < xs.length ∧ xs.getD i 0 = 1 := by
  unfold ones daysTo
  rw [List.mem_filter, List.mem_range, decide_eq_true_iff]
theorem fig_parts {h b : List Int} (hb : 0 < b.length) {i : Nat} : fig h b i = 1 ↔ i ∈ ones h ∨ ∃ x k, x ∈ (ones b).map (fun p => h.length + p) ∧ i = x + k * b.length := by
  by_cases c : i < h.length
  · rw [fig_head c]
    constructor
    · exact fun e => .inl (mem_ones.mpr ⟨c, e⟩)
    · rintro (m | ⟨x, k, hx, rfl⟩)
      · exact (mem_ones.mp m).2
      · obtain ⟨p, _, rfl⟩ := List.mem_map.mp hx
        (first | lia | omega)
  · rw [fig_bar (by (first | lia | omega))]
    constructor
    · intro e
      refine .inr ⟨h.length + (i - h.length) % b.length, (i - h.length) / b.length, List.mem_map.mpr ⟨_, mem_ones.mpr ⟨Nat.mod_lt _ hb, e⟩, rfl⟩, ?_⟩
      have q := Nat.mod_add_div (i - h.length) b.length
      rw [Nat.mul_comm] at q
      (first | lia | omega)
    · rintro (m | ⟨x, k, hx, rfl⟩)
      · exact absurd (mem_ones.mp m).1 c
      · obtain ⟨p, hp, rfl⟩ := List.mem_map.mp hx
        obtain ⟨p1, p2⟩ := mem_ones.mp hp
        rw [show h.length + p + k * b.length - h.length = p + k * b.length by (first | lia | omega), Nat.add_mul_mod_self_right, Nat.mod_eq_of_lt p1]
        exact p2
theorem add_parts {h b h' b' : List Int} (hb : 0 < b.length) (hb' : 0 < b'.length) {d : Nat} :
    addF (fig h b) (fig h' b') d = 1 ↔ SumR (ones h) (ones h') [] d ∨ SumR (ones h) ((ones b').map fun p => h'.length + p) [b'.length] d ∨ SumR ((ones b).map fun p => h.length + p) (ones h') [b.length] d ∨ SumR ((ones b).map fun p => h.length + p) ((ones b').map fun p => h'.length + p) [b.length, b'.length] d := by
  rw [addF_iff]
  constructor
  · rintro ⟨i, hi, h1, h2⟩
    rcases (fig_parts hb).mp h1 with m | ⟨x, k, hx, e⟩
    · rcases (fig_parts hb').mp h2 with m' | ⟨x', k', hx', e'⟩
      · exact .inl ⟨i, m, d - i, m', 0, .z, by (first | lia | omega)⟩
      · exact .inr (.inl ⟨i, m, x', hx', k' * b'.length, Sm.one_iff.mpr ⟨k', rfl⟩, by (first | lia | omega)⟩)
    · rcases (fig_parts hb').mp h2 with m' | ⟨x', k', hx', e'⟩
      · exact .inr (.inr (.inl ⟨x, hx, d - i, m', k * b.length, Sm.one_iff.mpr ⟨k, rfl⟩, by (first | lia | omega)⟩))
      · exact .inr (.inr (.inr ⟨x, hx, x', hx', k * b.length + k' * b'.length, Sm.two_iff.mpr ⟨k, k', rfl⟩, by (first | lia | omega)⟩))
  · have one : ∀ {x : Nat}, x ∈ ones h → fig h b x = 1 := fun m => (fig_parts hb).mpr (.inl m)
    have one' : ∀ {x : Nat}, x ∈ ones h' → fig h' b' x = 1 := fun m => (fig_parts hb').mpr (.inl m)
    rintro (⟨x, hx, y, hy, t, ht, rfl⟩ | ⟨x, hx, y, hy, t, ht, rfl⟩ | ⟨x, hx, y, hy, t, ht, rfl⟩ | ⟨x, hx, y, hy, t, ht, rfl⟩)
    · have := ht.nil
      exact ⟨x, by (first | lia | omega), one hx, by rw [show x + y + t - x = y by (first | lia | omega)]; exact one' hy⟩
    · obtain ⟨k, rfl⟩ := Sm.one_iff.mp ht
      exact ⟨x, by (first | lia | omega), one hx, by rw [show x + y + k * b'.length - x = y + k * b'.length by (first | lia | omega)]; exact (fig_parts hb').mpr (.inr ⟨y, k, hy, rfl⟩)⟩
    · obtain ⟨k, rfl⟩ := Sm.one_iff.mp ht
      exact ⟨x + k * b.length, by (first | lia | omega), (fig_parts hb).mpr (.inr ⟨x, k, hx, rfl⟩), by rw [show x + y + k * b.length - (x + k * b.length) = y by (first | lia | omega)]; exact one' hy⟩
    · obtain ⟨k, m, rfl⟩ := Sm.two_iff.mp ht
      exact ⟨x + k * b.length, by (first | lia | omega), (fig_parts hb).mpr (.inr ⟨x, k, hx, rfl⟩), by rw [show x + y + (k * b.length + m * b'.length) - (x + k * b.length) = y + m * b'.length by (first | lia | omega)]; exact (fig_parts hb').mpr (.inr ⟨y, m, hy, rfl⟩)⟩
theorem sum_all {ns : List Nat} {d : Nat} : sumF ns d = 1 ↔ SumR [0] [0] ns d := by
  rw [sumF_iff]
  constructor
  · exact fun h => ⟨0, List.mem_singleton.mpr rfl, 0, List.mem_singleton.mpr rfl, d, h, by (first | lia | omega)⟩
  · rintro ⟨x, hx, y, hy, t, ht, rfl⟩
    rw [List.mem_singleton.mp hx, List.mem_singleton.mp hy, show 0 + 0 + t = t by (first | lia | omega)]
    exact ht
theorem per_sumA {ns : List Nat} {m a : Nat} (hm : ∀ n ∈ ns, 1 ≤ n ∧ n ≤ m) (ha : a ∈ ns) : Per (sumF ns) a ((m - 1) * m) :=
  (per_sum hm fun e => by rw [e] at ha; cases ha).of_dvd (gcdL_dvd ha)
end Pm
namespace Pb
open PySem L2 Pm
section
variable (K : PySem.W.Frag)
noncomputable def spLonger : Sp := fun vs H Q _ => ∃ (p q : Addr) (h b h' b' : List Int), vs = [.ref p, .ref q] ∧ Pl K H p h b ∧ Pl K H q h' b' ∧ Q (.int ((max h.length h'.length : Nat) : Int)) H
noncomputable def spComBar : Sp := fun vs H Q _ => ∃ (p q : Addr) (h b h' b' : List Int), vs = [.ref p, .ref q] ∧ Pl K H p h b ∧ Pl K H q h' b' ∧ 0 < b.length ∧ 0 < b'.length ∧ ∀ L : Nat, 0 < L → b.length ∣ L → b'.length ∣ L → L ≤ b.length * b'.length → Q (.int (L : Int)) H
noncomputable def spFigT : Sp := fun vs H Q _ => ∃ (p q w : Addr) (d : Int) (ws h b h' b' : List Int), vs = [.ref p, .ref q, .ref w, .int d] ∧ Pl K H p h b ∧ Pl K H q h' b' ∧ 0 < b.length ∧ 0 < b'.length ∧ Bits h ∧ Bits b ∧ Bits h' ∧ Bits b' ∧ SqT K H w (ws.map V.int) ∧ ws.length = 4 ∧ 0 ≤ d ∧ Q (.int (wv ws (fig h b d.toNat) (fig h' b' d.toNat))) H
noncomputable def spPlaces : Sp := fun vs H Q _ => ∃ (a : Addr) (xs : List Int), vs = [.ref a] ∧ SqT K H a (xs.map V.int) ∧ xs.length ≤ 1000 ∧ ∀ r H', Same H H' → H' r = some (.lst ((ones xs).map vN)) → Q (.ref r) H'
noncomputable def spDaysH : Sp := fun vs H Q _ => ∃ (p : Addr) (h b : List Int), vs = [.ref p] ∧ Pl K H p h b ∧ h.length ≤ 1000 ∧ ∀ r H', Same H H' → H' r = some (.lst ((ones h).map vN)) → Q (.ref r) H'
noncomputable def spDaysB : Sp := fun vs H Q _ => ∃ (p : Addr) (h b : List Int), vs = [.ref p] ∧ Pl K H p h b ∧ b.length ≤ 1000 ∧ ∀ r H', Same H H' → H' r = some (.lst (((ones b).map fun p => h.length + p).map vN)) → Q (.ref r) H'
noncomputable def spSummed : Sp := fun vs H Q _ => ∃ (a c e : Addr) (xs ys ss : List Nat) (L : Nat), vs = [.ref a, .ref c, .ref e, .int (L : Int)] ∧ SqL K H a (xs.map vN) ∧ SqL K H c (ys.map vN) ∧ SqL K H e (ss.map vN) ∧ (∀ x ∈ xs, ∀ y ∈ ys, x + y < L) ∧ (∀ s ∈ ss, 1 ≤ s ∧ s ≤ 1000) ∧ L ≤ 200000 ∧
  ∀ (r : Addr) (gs : List Int) (H' : Hp), Same H H' → H' r = some (.lst (gs.map V.int)) → gs.length = L → Bits gs → (∀ d, d < L → (gs.getD d 0 = 1 ↔ SumR xs ys ss d)) → Q (.ref r) H'
noncomputable def isNum (top : Int) : V → Bool
  | .int i => decide (1 ≤ i) && decide (i ≤ top)
  | _ => false
end
theorem kit_non_list {K : PySem.W.Frag} : PySem.W.kitOne K (.type "NoneType") (.type "list") = some false := by rfl
theorem kit_str_list {K : PySem.W.Frag} : PySem.W.kitOne K (.type "str") (.type "list") = some false := by rfl
theorem kit_tuple_list {K : PySem.W.Frag} : PySem.W.kitOne K (.type "tuple") (.type "list") = some false := by rfl
theorem len_pos {α : Type} {l : List α} (h : l ≠ []) : 0 < l.length := List.length_pos_iff.mpr h
theorem nums_nats {top : Nat} : ∀ {ms : List Nat}, (∀ n ∈ ms, 1 ≤ n ∧ n ≤ top) → (ms.map vN).all (isNum (top : Int)) = true
  | [], _ => rfl
  | n :: r, h => by
    rw [List.map_cons, List.all_cons, nums_nats fun m hm => h m (List.mem_cons_of_mem _ hm), Bool.and_true]
    have := h n List.mem_cons_self
    show (decide (1 ≤ (n : Int)) && decide ((n : Int) ≤ (top : Int))) = true
    rw [decide_eq_true (by (first | lia | omega)), decide_eq_true (by (first | lia | omega))]
    rfl
theorem nat_seq {xs : List Nat} {i : Nat} {v : V} (h : (xs.map vN)[i]? = some v) : i < xs.length ∧ v = .int ((xs.getD i 0 : Nat) : Int) ∧ xs.getD i 0 ∈ xs := by
  rw [List.getElem?_map] at h
  have hi : i < xs.length := by
    rcases Nat.lt_or_ge i xs.length with z | z
    · exact z
    · rw [List.getElem?_eq_none z] at h; cases h
  rw [List.getElem?_eq_getElem hi] at h
  rw [List.getD_eq_getElem?_getD, List.getElem?_eq_getElem hi]
  exact ⟨hi, (Option.some.inj h).symm, List.getElem_mem hi⟩
theorem set_getD {xs : List Int} {i j : Nat} {v : Int} (hi : i < xs.length) : (xs.set i v).getD j 0 = if j = i then v else xs.getD j 0 := by
  rw [List.getD_eq_getElem?_getD, List.getD_eq_getElem?_getD, List.getElem?_set]
  by_cases h : j = i
  · rw [if_pos h.symm, if_pos h, if_pos hi]; rfl
  · rw [if_neg (fun z => h z.symm), if_neg h]
end Pb
namespace L2
open PySem PySem.Spec PyProof.Rows
theorem dk_empty {P : Program} {w : World} {H : Hp} (h : Heap) (hb : sysModules < h.objs.size) : ObjOk P w H (h.push { cls := .type "dict", data := .dict #[] }) h.objs.size (.dK []) :=
  ⟨Nat.zero_le _, beq_eq_false_iff_ne.mpr (Ne.symm (Nat.ne_of_lt hb)), [], .nil, Heap.DictOf.new h⟩
theorem Inv.big {X : Cx} {pins : List (Addr × Obj)} {σ : St} {H : Hp} {s : Shared} (I : Inv X pins σ H s) : sysModules < s.heap.objs.size := by
  have h : mainGlobals < s.heap.objs.size := (I.mod.glob.keeps I.bk).lt
  exact Nat.lt_trans (by decide) h
noncomputable def tDNewK : TE := fun _ H Q => ∀ p, H p = none → Q (.ref p) (upd H p (.dK []))
theorem pe_dnewK {X : Cx} {pos : Pos} : PE X (.Dict [] [] pos) tDNewK := fun pins s σ H Q I h =>
  wpAny_Dict_empty ⟨.ref s.heap.objs.size, _, I.laid (a := s.heap.objs.size) (o := .dK []) (t' := s.toks) (fun _ _ q => Heap.get?_push_of_some _ q) (Nat.le_refl _) (dk_empty s.heap I.big), rfl, h _ (I.hok.fresh (Nat.le_refl _))⟩
end L2
namespace Pb
open PySem L2 Pm
theorem kit_int_list {K : PySem.W.Frag} : PySem.W.kitOne K (.type "int") (.type "list") = some false := by rfl
section
variable (K : PySem.W.Frag)
end
end Pb
namespace Pb
open PySem L2 Pm
noncomputable def isBelow (n : Int) : V → Bool
  | .int i => decide (0 ≤ i) && decide (i < n)
  | _ => false
noncomputable def isWalk : Option (List V) → Option (List V) → V → Bool
  | some xs, some ys, z => decide (1 ≤ (xs.length : Int)) && decide ((xs.length : Int) ≤ 400) && decide (ys.length = xs.length) && xs.all (isBelow xs.length) && ys.all isFig && isBelow xs.length z
  | _, _, _ => false
section
variable (K : PySem.W.Frag)
inductive LV (H : Hp) : V → Option (List V) → Prop where
  | lst {a : Addr} {xs : List V} : SqL K H a xs → xs.all flatV = true → xs.length ≤ 1000 → LV H (.ref a) (some xs)
  | tup {a : Addr} {xs : List V} : SqT K H a xs → LV H (.ref a) none
  | flat {x : V} : flatV x = true → LV H x none
end
section
variable {K : PySem.W.Frag} {H H' : Hp}
theorem LV.ty {x : V} (h : LV K H x none) : ∃ t, TyV K H x t ∧ PySem.W.kitOne K t (.type "list") = some false := by
  cases h with
  | tup h1 => exact ⟨_, .tup h1, kit_tuple_list⟩
  | flat h1 =>
    cases x with
    | int i => exact ⟨_, .int i, kit_int_list⟩
    | bl b => exact ⟨_, .bl b, by rfl⟩
    | str s => exact ⟨_, .str s, kit_str_list⟩
    | non => exact ⟨_, .non, kit_non_list⟩
    | _ => cases h1
end
end Pb
namespace L2
open PySem PySem.Spec PyProof.Rows
noncomputable abbrev tx (l : List Nat) : Str := ⟨l.toArray⟩
section
variable {X : Cx}
end
end L2
namespace L2
open PySem PySem.Spec PyProof.Rows
end L2
namespace Pb
open PySem L2 Pm
noncomputable def dg (i : Int) : Nat := 48 + i.toNat
section
variable (K : PySem.W.Frag)
end
end Pb
namespace Pm
end Pm
namespace Pb
open PySem L2 Pm
noncomputable def inB (lo hi : Int) : V → Bool
  | .int i => decide (lo ≤ i) && decide (i ≤ hi)
  | _ => false
noncomputable def tmB : V → Bool
  | .non => true
  | v => inB 1 400 v
noncomputable def isRule : List V → Bool
  | [s, t, n] => inB 0 400 s && inB 1 200 t && tmB n
  | _ => false
noncomputable def goodR : Option (List V) → Bool
  | some xs => isRule xs
  | none => false
section
variable (K : PySem.W.Frag)
inductive RV (H : Hp) : V → Option (List V) → Prop where
  | tup {a : Addr} {xs : List V} : SqT K H a xs → xs.all flatV = true → xs.length ≤ 1000 → RV H (.ref a) (some xs)
  | lst {a : Addr} {xs : List V} : SqL K H a xs → RV H (.ref a) none
  | flat {x : V} : flatV x = true → RV H x none
end
section
variable {K : PySem.W.Frag} {H H' : Hp}
theorem flat_tm : ∀ t : Option Nat, flatV (tmV t) = true
  | none => rfl
  | some _ => rfl
end
end Pb
namespace L2
open PySem
end L2
namespace Pb
open PySem L2 Pm
section
variable {K : PySem.W.Frag} {H H' : Hp}
end
end Pb
namespace Pb
open PySem L2 Pm
noncomputable def spIsNumber : Sp := fun vs H Q _ => ∃ (x : V) (lo hi : Int), vs = [x, .int lo, .int hi] ∧ flatV x = true ∧ Q (.bl (inB lo hi x)) H
noncomputable def inLen (lo hi : Int) : Option Nat → Bool
  | some n => decide (lo ≤ (n : Int)) && decide ((n : Int) ≤ hi)
  | none => false
section
variable (K : PySem.W.Frag)
noncomputable def spAreL : Sp := fun vs H Q _ => ∃ (a : Addr) (xs : List V) (lo hi : Int), vs = [.ref a, .int lo, .int hi] ∧ SqL K H a xs ∧ xs.all flatV = true ∧ xs.length ≤ 1000 ∧ ∀ H', Same H H' → Q (.bl (xs.all (inB lo hi))) H'
inductive LstN (H : Hp) : V → Option Nat → Prop where
  | lst {a : Addr} {xs : List V} : SqL K H a xs → LstN H (.ref a) (some xs.length)
  | oth {x : V} {t : Value} : TyV K H x t → PySem.W.kitOne K t (.type "list") = some false → LstN H x none
noncomputable def spIsList : Sp := fun vs H Q _ => ∃ (x : V) (lo hi : Int) (o : Option Nat), vs = [x, .int lo, .int hi] ∧ LstN K H x o ∧ Q (.bl (inLen lo hi o)) H
end
theorem inB_fig (v : V) : inB 0 1 v = isFig v := by cases v <;> rfl
theorem inB_figs (xs : List V) : xs.all (inB 0 1) = xs.all isFig := congrArg (fun f => xs.all f) (funext inB_fig)
theorem inB_num (top : Int) (v : V) : inB 1 top v = isNum top v := by cases v <;> rfl
theorem inB_nums (top : Int) (xs : List V) : xs.all (inB 1 top) = xs.all (isNum top) := congrArg (fun f => xs.all f) (funext (inB_num top))
theorem inLen_true {lo hi : Int} {n : Nat} (h1 : lo ≤ (n : Int)) (h2 : (n : Int) ≤ hi) : inLen lo hi (some n) = true := by
  show (decide (lo ≤ (n : Int)) && decide ((n : Int) ≤ hi)) = true
  rw [decide_eq_true h1, decide_eq_true h2]; rfl
theorem notF {c : Bool} (h : ¬ ((!c) = true)) : c = true := by cases c <;> simp at h ⊢
end Pb
namespace L2
open PySem PySem.Spec PyProof.Rows
end L2
namespace L2
open PySem PySem.Spec PyProof.Rows
section
variable (P : Program) (w : World)
end
section
variable {P : Program} {w : World} {H H' : Hp} {h h' : Heap} {a : Addr} {o : HO}
end
section
variable {P : Program} {w : World} {H : Hp} {h h' : Heap} {x e : Addr} {o' : HO}
end
section
variable {fs fs' ex ex' : List Addr} {H H1 H2 : Hp} {h h1 h2 h' : Heap} {a x e : Addr} {o : HO}
end
end L2
namespace L2
open PySem PySem.Spec PyProof.Rows
section
variable {X : Cx} {pins : List (Addr × Obj)} {σ : List (Option V)} {H H' : Hp} {s : Shared} {h' : Heap}
end
end L2
namespace L2
open PySem PySem.Spec PyProof.Rows
section
variable {X : Cx}
variable {a b : Expr} {ta tb : TE} {pos : Pos}
variable {tA tB' : TT} {rest : List Expr}
end
end L2
namespace L2
open PySem PySem.Spec PyProof.Rows
section
variable {X : Cx} {pins : List (Addr × Obj)} {σ : St} {H : Hp} {s : Shared} {a : Addr} {xs ys : List V}
end
section
variable {X : Cx} {pins : List (Addr × Obj)} {σ : St} {H : Hp} {s : Shared} {E : Value → Shared → Prop}
end
section
variable {X : Cx} {st : Stmt} {rest : List Stmt} {t u : TS} {e : Expr} {te : TE} {pos : Pos}
end
section
variable {X : Cx} {pos : Pos}
end
section
variable {X : Cx} {pos : Pos}
end
end L2
namespace L2
open PySem PySem.Spec PyProof.Rows
section
variable {X : Cx} {tg : Expr}
end
end L2
namespace L2
open PySem PySem.Spec PyProof.Rows
section
variable {X : Cx} {a b c : Expr} {ta tb tc : TE} {pos : Pos}
end
section
variable {X : Cx} {a b c : Expr} {ta tb tc : TE} {pos : Pos}
end
end L2
namespace L2
open PySem PySem.Spec PyProof.Rows
section
variable {prog : Program} {w : World} {A : Around} {E : Value → Shared → Prop} {s : Shared} {K : PySem.W.Frag} {x dx C f : Addr} {mA : Str → Option Value} {name : Str} {v : Value}
end
section
variable {P : Program} {w : World} {H H' : Hp} {h h' : Heap} {a C dx : Addr} {fs fs' : List (Str × V)}
end
section
variable {X : Cx} {pins : List (Addr × Obj)} {σ : St} {H : Hp} {s : Shared} {a C dx : Addr} {fs : List (Str × V)} {f : Str} {v : V} {A : Around} {E : Value → Shared → Prop}
end
section
variable {X : Cx} {o e value : Expr} {f : Str} {pos pos' tpos : Pos} {ta tv : TE}
end
section
variable {X : Cx} {pins : List (Addr × Obj)} {σ : St} {H : Hp} {s : Shared} {A : Around} {E : Value → Shared → Prop} {Q : Value → Shared → Prop} {c : Value} {b : Bool}
end
end L2
namespace L2
open PySem PySem.Spec PyProof.Rows
section
variable {X : Cx} {e : Expr} {es : List Expr} {te : TE} {t : TA} {pos : Pos}
end
section
variable {X : Cx} {pins : List (Addr × Obj)} {σ : St} {H : Hp} {s s' : Shared}
end
section
variable {X : Cx} {CX : CXT} {k : Nat} {f C : Addr} {fd : FuncData} {ps : List Str} {sp : Sp} {dvs : List V} {ds : List Value} {E : XK} {x m : Str} {p pos apos : Pos} {e o : Expr} {es : List Expr} {ta : TE} {t : TA}
end
section
variable {X : Cx} {CX : CXT} {k : Nat} {f C : Addr} {fd : FuncData} {ps ks : List Str} {sp : Sp} {E : XK} {x m : Str} {p pos apos kpos : Pos} {e o : Expr} {es : List Expr} {kws : List Keyword} {te ta : TE} {t tk : TA} {nm : Option Str}
variable {g : List Value → List Value → List Value} {gV : List V → List V → List V}
end
end L2
namespace L2
open PySem PySem.Spec PyProof.Rows
section
variable {X : Cx} {x : Str} {p pos : Pos} {e : Expr} {es : List Expr} {t : TA} {id T : String} {r : List V → Hp → VK → Prop}
end
end L2
namespace L2
open PySem PySem.Spec PyProof.Rows
section
variable {κ : Type} [DecidableEq κ]
noncomputable def valV (kvs : List (κ × V)) (k : κ) : Option V := (kvs.find? fun kv => decide (kv.1 = k)).map (·.2)
noncomputable def putK (kvs : List (κ × V)) (k : κ) (v : V) : List (κ × V) :=
  if (kvs.any fun kv => decide (kv.1 = k)) = true then kvs.map (fun kv => if kv.1 = k then (kv.1, v) else kv) else kvs ++ [(k, v)]
theorem valV_pos {p : κ × V} {r : List (κ × V)} {k : κ} (e : p.1 = k) : valV (p :: r) k = some p.2 := by simp [valV, List.find?_cons, e]
theorem valV_neg {p : κ × V} {r : List (κ × V)} {k : κ} (e : ¬ p.1 = k) : valV (p :: r) k = valV r k := by simp [valV, List.find?_cons, e]
theorem valV_any (k : κ) : ∀ kvs : List (κ × V), (kvs.any fun kv => decide (kv.1 = k)) = (valV kvs k).isSome
  | [] => rfl
  | p :: r => by
    rw [List.any_cons]
    by_cases e : p.1 = k
    · simp only [valV_pos e, decide_eq_true e, Bool.true_or, Option.isSome_some]
    · rw [valV_neg e, decide_eq_false e, Bool.false_or]; exact valV_any k r
theorem length_putK (kvs : List (κ × V)) (k : κ) (v : V) : (putK kvs k v).length ≤ kvs.length + 1 := by
  unfold putK
  split
  · rw [List.length_map]; (first | lia | omega)
  · rw [List.length_append, List.length_cons, List.length_nil]; (first | lia | omega)
theorem putK_new {kvs : List (κ × V)} {k : κ} (v : V) (h : valV kvs k = none) : putK kvs k v = kvs ++ [(k, v)] := by
  unfold putK
  rw [valV_any, h]
  exact if_neg (by decide)
theorem RelO.isSome_eq {o : Option V} {u : Option Value} (r : RelO o u) : o.isSome = u.isSome := by
  cases o with
  | none => cases u with
    | none => rfl
    | some _ => exact (show False from r).elim
  | some _ => cases u with
    | none => exact (show False from r).elim
    | some _ => rfl
theorem KV.val {kvs : List (κ × V)} {vs : List (κ × Value)} (r : KV kvs vs) (k : κ) : RelO (valV kvs k) (valueAt vs k) := by
  unfold KV at r
  induction r with
  | nil => exact True.intro
  | @cons p q ps qs h t ih =>
    obtain ⟨h1, h2⟩ := h
    by_cases e : p.1 = k
    · have e' : q.1 = k := h1.symm.trans e
      have b : valueAt (q :: qs) k = some q.2 := by simp [valueAt, List.find?_cons, e']
      rw [valV_pos e, b]; exact h2
    · have e' : ¬ q.1 = k := fun z => e (h1.trans z)
      have b : valueAt (q :: qs) k = valueAt qs k := by simp [valueAt, List.find?_cons, e']
      rw [valV_neg e, b]; exact ih
theorem KV.any {kvs : List (κ × V)} {vs : List (κ × Value)} (r : KV kvs vs) (k : κ) : (kvs.any fun kv => decide (kv.1 = k)) = vs.any fun kv => decide (kv.1 = k) := by
  unfold KV at r
  induction r with
  | nil => rfl
  | cons h t ih => rw [List.any_cons, List.any_cons, ih, h.1]
theorem KV.repl {kvs : List (κ × V)} {vs : List (κ × Value)} (r : KV kvs vs) (k : κ) {y : V} {u : Value} (ry : RelV y u) :
    KV (kvs.map fun kv => if kv.1 = k then (kv.1, y) else kv) (vs.map fun kv => if kv.1 = k then (kv.1, u) else kv) := by
  unfold KV at r ⊢
  induction r with
  | nil => exact .nil
  | @cons p q ps qs h t ih =>
    rw [List.map_cons, List.map_cons]
    refine .cons ?_ ih
    obtain ⟨h1, h2⟩ := h
    by_cases e : p.1 = k
    · rw [if_pos e, if_pos (h1.symm.trans e)]; exact ⟨h1, ry⟩
    · rw [if_neg e, if_neg (fun z => e (h1.trans z))]; exact ⟨h1, h2⟩
theorem KV.put {kvs : List (κ × V)} {vs : List (κ × Value)} (r : KV kvs vs) (k : κ) {y : V} {u : Value} (ry : RelV y u) : KV (putK kvs k y) (stored vs k u) := by
  unfold putK stored
  rw [r.any k]
  by_cases e : (vs.any fun kv => decide (kv.1 = k)) = true
  · rw [if_pos e, if_pos e]; exact r.repl k ry
  · rw [if_neg e, if_neg e]; exact Paired.snoc r ⟨rfl, ry⟩
theorem KV.keys {kvs : List (κ × V)} {vs : List (κ × Value)} (r : KV kvs vs) : kvs.map (·.1) = vs.map (·.1) := by
  unfold KV at r
  induction r with
  | nil => rfl
  | cons h t ih => rw [List.map_cons, List.map_cons, ih, h.1]
theorem KV.length {kvs : List (κ × V)} {vs : List (κ × Value)} (r : KV kvs vs) : kvs.length = vs.length := Paired.length r
end
theorem kV_is {P : Program} {w : World} {k : Key} {u : Value} (r : RelV (kV k) u) : (mixKind P w).is k u = true := by
  cases k with
  | inl i => obtain ⟨t, e⟩ := (show ∃ t, u = Value.int i t from r); subst e; exact mixKind_int P w i t
  | inr x => obtain ⟨t, e⟩ := (show ∃ t, u = Value.str x t from r); subst e; exact mixKind_str P w x t
theorem items_are {P : Program} {w : World} : ∀ {ks : List Key} {us : List Value}, Vals (ks.map kV) us → ItemsAre (mixKind P w) ks us
  | [], _, r => by rw [List.map_nil] at r; cases r; exact .nil
  | k :: ks, _, r => by
    rw [List.map_cons] at r
    cases r with
    | cons h t => exact .cons (kV_is h) (items_are t)
noncomputable abbrev KT (H : Hp) : List (List Key × V) → List (List Key × Addr × Value) → Prop := Paired fun p q => p.1 = q.1 ∧ H q.2.1 = some (.tup (p.1.map kV)) ∧ RelV p.2 q.2.2
theorem KT.val {H : Hp} {kvs : List (List Key × V)} {xs : List (List Key × Addr × Value)} (r : KT H kvs xs) (k : List Key) : RelO (valV kvs k) ((atKey xs k).map (·.2)) := by
  induction r with
  | nil => exact True.intro
  | @cons p q ps qs h t ih =>
    obtain ⟨h1, _, h2⟩ := h
    by_cases e : p.1 = k
    · have e' : q.1 = k := h1.symm.trans e
      have b : atKey (q :: qs) k = some q.2 := by simp [atKey, List.find?_cons, e']
      rw [valV_pos e, b]; exact h2
    · have e' : ¬ q.1 = k := fun z => e (h1.trans z)
      have b : atKey (q :: qs) k = atKey qs k := by simp [atKey, List.find?_cons, e']
      rw [valV_neg e, b]; exact ih
theorem KT.repl {H : Hp} {kvs : List (List Key × V)} {xs : List (List Key × Addr × Value)} (r : KT H kvs xs) (k : List Key) {y : V} {u : Value} (ry : RelV y u) :
    KT H (kvs.map fun kv => if kv.1 = k then (kv.1, y) else kv) (xs.map (putAt k u)) := by
  induction r with
  | nil => exact .nil
  | @cons p q ps qs h t ih =>
    rw [List.map_cons, List.map_cons]
    refine .cons ?_ ih
    obtain ⟨h1, h2, h3⟩ := h
    unfold putAt
    by_cases e : p.1 = k
    · rw [if_pos e, if_pos (h1.symm.trans e)]; exact ⟨h1, h2, ry⟩
    · rw [if_neg e, if_neg (fun z => e (h1.trans z))]; exact ⟨h1, h2, h3⟩
theorem KT.put {H : Hp} {kvs : List (List Key × V)} {xs : List (List Key × Addr × Value)} (r : KT H kvs xs) (k : List Key) {b : Addr} {y : V} {u : Value} (hb : H b = some (.tup (k.map kV))) (ry : RelV y u) :
    KT H (putK kvs k y) (storedH xs k b u) := by
  have e : (kvs.any fun kv => decide (kv.1 = k)) = (atKey xs k).isSome := by
    rw [valV_any, (r.val k).isSome_eq, Option.isSome_map]
  unfold putK storedH
  rw [e]
  by_cases q : (atKey xs k).isSome = true
  · rw [if_pos q, if_pos q]; exact r.repl k ry
  · rw [if_neg q, if_neg q]; exact Paired.snoc r ⟨rfl, hb, ry⟩
theorem KT.keeps {H H' : Hp} {kvs : List (List Key × V)} {xs : List (List Key × Addr × Value)} (r : KT H kvs xs) (ht : ∀ b ys, H b = some (.tup ys) → H' b = some (.tup ys)) : KT H' kvs xs :=
  Paired.mapP r fun _ _ z => ⟨z.1, ht _ _ z.2.1, z.2.2⟩
section
variable {P : Program} {w : World} {H : Hp} {h : Heap} {a : Addr}
theorem rd_of {u : HO} (ok : HOk P w H h) (e : Rd H a u) : ObjOk P w H h a u := e.ok ok
theorem dk_rd {kvs : List (Key × V)} (ok : HOk P w H h) (e : Rd H a (.dK kvs)) : kvs.length ≤ sizeLine ∧ (a == sysModules) = false ∧ ∃ vs, KV kvs vs ∧ h.DictOf (mixKind P w) a vs :=
  show ObjOk P w H h a (.dK kvs) from rd_of ok e
theorem dk_of {kvs : List (Key × V)} (ok : HOk P w H h) (e : H a = some (.dK kvs)) : kvs.length ≤ sizeLine ∧ (a == sysModules) = false ∧ ∃ vs, KV kvs vs ∧ h.DictOf (mixKind P w) a vs := dk_rd ok (.inl e)
theorem key_of {ks : List Key} (ok : HOk P w H h) (e : H a = some (.tup (ks.map kV))) : (tupleKind (mixKind P w)).is h ks a := by
  obtain ⟨_, its, r, o, h1, h2, n, h3⟩ := (show ObjOk P w H h a (.tup (ks.map kV)) from ok a _ e)
  exact ⟨o, its.toArray, n, h1, h2, h3, by simpa using items_are r⟩
theorem dt_rd {kvs : List (List Key × V)} (ok : HOk P w H h) (e : Rd H a (.dT kvs)) : kvs.length ≤ sizeLine ∧ (a == sysModules) = false ∧
    ∃ xs, KT H kvs xs ∧ h.DictOfH (tupleKind (mixKind P w)) a xs := by
  obtain ⟨z, y, xs, r, o, es, ep, h1, h2, h3, h4, h5⟩ := (show ObjOk P w H h a (.dT kvs) from rd_of ok e)
  refine ⟨z, y, xs, r, o, es, ep, h1, h2, h3, h4, fun x hx => ?_, h5⟩
  have all : ∀ {l : List (List Key × V)} {m : List (List Key × Addr × Value)}, KT H l m → ∀ x ∈ m, (tupleKind (mixKind P w)).is h x.1 x.2.1 := by
    intro l m q
    induction q with
    | nil => intro x hx; exact nomatch hx
    | @cons p q ps qs hq t ih =>
      intro x hx
      rcases List.mem_cons.mp hx with e | hx
      · subst e
        exact key_of ok (by rw [← hq.1]; exact hq.2.1)
      · exact ih x hx
  exact all r x hx
theorem dt_of {kvs : List (List Key × V)} (ok : HOk P w H h) (e : H a = some (.dT kvs)) : kvs.length ≤ sizeLine ∧ (a == sysModules) = false ∧
    ∃ xs, KT H kvs xs ∧ h.DictOfH (tupleKind (mixKind P w)) a xs := dt_rd ok (.inl e)
end
noncomputable def DGet (H : Hp) (a : Addr) (y : V) (r : Option V) : Prop :=
  (∃ kvs k, Rd H a (.dK kvs) ∧ y = kV k ∧ r = valV kvs k) ∨ ∃ kvs k b, Rd H a (.dT kvs) ∧ y = .ref b ∧ H b = some (.tup (k.map kV)) ∧ r = valV kvs k
noncomputable def DPut (H : Hp) (a : Addr) (y v : V) (H' : Hp) : Prop :=
  (∃ kvs k, H a = some (.dK kvs) ∧ y = kV k ∧ kvs.length < sizeLine ∧ H' = upd H a (.dK (putK kvs k v))) ∨
  ∃ kvs k b, H a = some (.dT kvs) ∧ y = .ref b ∧ H b = some (.tup (k.map kV)) ∧ kvs.length < sizeLine ∧ H' = upd H a (.dT (putK kvs k v))
theorem DGet.k {H : Hp} {a : Addr} {kvs : List (Key × V)} {k : Key} (e : H a = some (.dK kvs)) : DGet H a (kV k) (valV kvs k) := .inl ⟨kvs, k, .inl e, rfl, rfl⟩
theorem DPut.k {H : Hp} {a : Addr} {kvs : List (Key × V)} {k : Key} {v : V} (e : H a = some (.dK kvs)) (hl : kvs.length < sizeLine) : DPut H a (kV k) v (upd H a (.dK (putK kvs k v))) := .inl ⟨kvs, k, e, rfl, hl, rfl⟩
section
variable {X : Cx} {pins : List (Addr × Obj)} {σ : St} {H : Hp} {s : Shared} {a : Addr} {y v : V} {u r : Value} {o : Option V} {A : Around} {E : Value → Shared → Prop}
theorem d_getItem {Q : Value → Shared → Prop} (hu : A.units + 1 < cLine) (I : Inv X pins σ H s) (g : DGet H a y (some v)) (ry : RelV y u) (h : ∀ w' s', Inv X pins σ H s' → RelV v w' → Q w' s') :
    wpAny (model X.prog X.w) A (getItem (.ref a) u) Q E s := by
  rcases g with ⟨kvs, k, e, ey, l⟩ | ⟨kvs, k, b, e, ey, eb, l⟩
  · subst ey
    obtain ⟨z, hd, vs, rel, dd⟩ := dk_rd I.hok e
    obtain ⟨w', hw, rw'⟩ := RelO.some_of (v := v) (o := valueAt vs k) (by rw [l]; exact rel.val k)
    exact wpAny_getItem_of (kV_is ry) dd.mapOf hw (h w' _ (I.tok _) rw')
  · subst ey
    cases (show u = Value.ref b from ry)
    obtain ⟨z, hd, xs, rel, dd⟩ := dt_rd I.hok e
    obtain ⟨w', hw, rw'⟩ := RelO.some_of (v := v) (o := (atKey xs k).map (·.2)) (by rw [l]; exact rel.val k)
    obtain ⟨p, hp, hp2⟩ := Option.map_eq_some_iff.mp hw
    refine wpAny_getItem_heap (tupleKind_room_in1 hu) (key_of I.hok eb) dd hp ?_
    rw [hp2]
    exact h w' _ (I.tok _) rw'
theorem d_notIn {Q : Value → Shared → Prop} (hu : A.units + 1 < cLine) (I : Inv X pins σ H s) (g : DGet H a y o) (ry : RelV y u) (h : ∀ s', Inv X pins σ H s' → Q (.bool (!o.isSome)) s') :
    wpAny (model X.prog X.w) A (compareOp .NotIn u (.ref a)) Q E s := by
  rcases g with ⟨kvs, k, e, ey, l⟩ | ⟨kvs, k, b, e, ey, eb, l⟩
  · subst ey
    obtain ⟨z, hd, vs, rel, dd⟩ := dk_rd I.hok e
    refine wpAny_notIn_of (kV_is ry) hd dd.mapOf ?_
    rw [← (rel.val k).isSome_eq, ← l]
    exact h _ (I.tok _)
  · subst ey
    cases (show u = Value.ref b from ry)
    obtain ⟨z, hd, xs, rel, dd⟩ := dt_rd I.hok e
    refine wpAny_notIn_heap (tupleKind_room_in1 hu) (key_of I.hok eb) hd dd ?_
    have q := (rel.val k).isSome_eq
    rw [Option.isSome_map] at q
    rw [← q, ← l]
    exact h _ (I.tok _)
theorem d_write {h' : Heap} {t' : Nat} {ob : HO} (I : Inv X pins σ H s) (mu : Mut (H a)) (hs : Heap.SameBut a s.heap h') (he : ∃ q, h'.get? a = some q) (new : ObjOk X.prog X.w (upd H a ob) h' a ob) :
    Inv X pins σ (upd H a ob) { s with heap := h', toks := t' } :=
  I.write (x := a) (e := a) mu (.inl rfl) (fun b q hb z => (hs.2 b hb).trans z) he new
theorem dk_new {P : Program} {w : World} {H' : Hp} {h' : Heap} {kvs : List (Key × V)} {vs : List (Key × Value)} (z : kvs.length ≤ sizeLine) (hd : (a == sysModules) = false) (rel : KV kvs vs) (dd : h'.DictOf (mixKind P w) a vs) :
    ObjOk P w H' h' a (.dK kvs) := ⟨z, hd, vs, rel, dd⟩
theorem d_setItem {H' : Hp} {Q : Unit → Shared → Prop} (hu : A.units + 1 < cLine) (I : Inv X pins σ H s) (g : DPut H a y v H') (ry : RelV y u) (rv : RelV v r) (h : ∀ s', Inv X pins σ H' s' → Q () s') :
    wpAny (model X.prog X.w) A (setItem (.ref a) u r) Q E s := by
  rcases g with ⟨kvs, k, e, ey, l, eH⟩ | ⟨kvs, k, b, e, ey, eb, l, eH⟩
  · subst ey eH
    obtain ⟨z, hd, vs, rel, dd⟩ := dk_of I.hok e
    have hz : vs.length ≤ sizeLine := by rw [← rel.length]; exact z
    have hl : (putK kvs k v).length ≤ sizeLine := by have := length_putK kvs k v; (first | lia | omega)
    refine wpAny_setItem_pairs (hsz := hz) (kV_is ry) dd fun h' dd' hs => h _ ?_
    have he : ∃ q, h'.get? a = some q := let ⟨q, _, _, hq, _⟩ := dd'; ⟨q, hq⟩
    exact d_write I (by rw [e]; exact True.intro) hs he (dk_new hl hd (rel.put k rv) dd')
  · subst ey eH
    cases (show u = Value.ref b from ry)
    obtain ⟨z, hd, xs, rel, dd⟩ := dt_of I.hok e
    have hz : xs.length ≤ sizeLine := by rw [← Paired.length rel]; exact z
    have hl : (putK kvs k v).length ≤ sizeLine := by have := length_putK kvs k v; (first | lia | omega)
    refine wpAny_setItem_heap (hsz := hz) (tupleKind_room_in1 hu) (key_of I.hok eb) dd fun h' dd' hs => h _ ?_
    obtain ⟨q, es, ep, hq, h2, h3, h4, _, h5⟩ := dd'
    refine d_write I (by rw [e]; exact True.intro) hs ⟨q, hq⟩ ⟨hl, hd, _, (rel.put k eb rv).keeps fun c ys ec => ?_, q, es, ep, hq, h2, h3, h4, h5⟩
    rw [upd_ne (ne_of ec e (fun z => nomatch z))]
    exact ec
end
section
variable {X : Cx} {pins : List (Addr × Obj)} {σ : St} {H : Hp} {s : Shared} {a : Addr} {kvs : List (Key × V)} {k : Key} {u : Value} {A : Around} {E : Value → Shared → Prop}
theorem d_len {Q : Value → Shared → Prop} (I : Inv X pins σ H s) (e : Rd H a (.dK kvs)) (h : ∀ t s', Inv X pins σ H s' → Q (.int kvs.length t) s') : wpAny (model X.prog X.w) A (call (.builtin "len") [.ref a]) Q E s := by
  obtain ⟨z, hd, vs, rel, dd⟩ := dk_rd I.hok e
  refine call_len_dict hd dd (by rw [← rel.length]; rw [sizeLine_eq] at z; (first | lia | omega)) ?_
  rw [← rel.length]
  exact h _ _ (I.tok _)
end
noncomputable def NoSl (i : Expr) : Prop := ∀ ov iv, subscripted i false ov iv = operate [ov, iv] (getItem ov iv)
theorem subD_of {prog : Program} {w : World} {A : Around} {E : Value → Shared → Prop} {s : Shared} {env : Env} {value slice : Expr} {pos : Pos} {T id : String} {Q : Value → Shared → Prop}
    (hl : typeLookup (.type T) "__getitem__" = pure (some (.builtin id))) (hs : NoSl slice)
    (h : wpAny (model prog w) A (eval value env) (fun o s₁ => wpAny (model prog w) A (eval slice env) (fun i s₂ => s₂.TypeIs o T ∧ wpAny (model prog w) A (getItem o i) Q E s₂) E s₁) E s) :
    wpAny (model prog w) A (eval (.Subscript value slice pos) env) Q E s := by
  refine Subscript_ (wpAny_mono h (fun o s₁ h₁ => wpAny_mono h₁ (fun i s₂ h₂ => ?_) fun _ _ x => x) fun _ _ x => x)
  obtain ⟨hT, h₂⟩ := h₂
  unfold subscriptTail
  refine wpAny_bind ?_
  rw [getitemInPython_of_ne hT.not_modules]
  refine wpAny_bind (wpAny_specialOf hT hl ?_)
  have fin : wpAny (model prog w) A (subscripted slice false o i) (fun r s₃ => wpAny (model prog w) A (letTemporaryGo value o r >>= fun _ => pure r) Q E s₃) E s₂ := by
    rw [hs o i]
    exact wpAny_operating (wpAny_mono h₂ (fun r s₃ h₃ => wpAny_bind (wpAny_letTemporaryGo (wpAny_pure h₃))) fun _ _ x => x)
  first
    | exact wpAny_pure (wpAny_bind fin)
    | exact wpAny_bind (wpAny_pure (wpAny_bind fin))
    | exact wpAny_bind fin
theorem dict_typeIs {X : Cx} {pins : List (Addr × Obj)} {σ : St} {H : Hp} {s : Shared} {a : Addr} {y : V} {o : Option V} (I : Inv X pins σ H s) (g : DGet H a y o) : s.TypeIs (.ref a) "dict" := by
  rcases g with ⟨kvs, k, e, _, _⟩ | ⟨kvs, k, b, e, _, _, _⟩
  · obtain ⟨_, _, vs, _, dd⟩ := dk_rd I.hok e
    exact dd.typeIs
  · obtain ⟨_, _, xs, _, dd⟩ := dt_rd I.hok e
    exact dd.typeIs
noncomputable def tDGet (td ty : TE) : TE := fun σ H Q => td σ H fun x H1 => ty σ H1 fun y H2 => ∃ a v, x = .ref a ∧ DGet H2 a y (some v) ∧ Q v H2
noncomputable def tDNotIn (ty td : TE) : TE := fun σ H Q => ty σ H fun y H1 => td σ H1 fun x H2 => ∃ a o, x = .ref a ∧ DGet H2 a y o ∧ Q (.bl (!o.isSome)) H2
noncomputable def sDPut (td ty tv : TE) : TS := fun D σ H => tv σ H fun v H1 => td σ H1 fun x H2 => ty σ H2 fun y H3 => ∃ a H4, x = .ref a ∧ DPut H3 a y v H4 ∧ D.nx σ H4
section
variable {X : Cx} {o i e value : Expr} {pos pos' tpos : Pos} {td ty tv : TE}
theorem pe_dget (hu : X.A.units + 1 < cLine) (ho : PE X o td) (hi : PE X i ty) (hs : NoSl i) : PE X (.Subscript o i pos) (tDGet td ty) := by
  intro pins s σ H Q I h
  refine subD_of PySem.F.slot_dict_getitem.lookup hs (thn (ho pins s σ H _ I h) fun u s1 ⟨x, H1, I1, rx, q1⟩ => thn (hi pins s1 σ H1 _ I1 q1) fun iv s2 ⟨y, H2, I2, ry, a, v, ex, g, q2⟩ => ?_)
  subst ex
  obtain rfl : u = Value.ref a := rx
  exact ⟨dict_typeIs I2 g, d_getItem hu I2 g ry fun w' s3 I3 rw' => ⟨v, H2, I3, rw', q2⟩⟩
theorem pc_dnotin (hu : X.A.units + 1 < cLine) (hi : PE X i ty) (ho : PE X o td) : PC X .NotIn i o (tDNotIn ty td) := by
  intro pins s σ H Q I h
  refine thn (hi pins s σ H _ I h) fun iv s1 ⟨y, H1, I1, ry, q1⟩ => thn (ho pins s1 σ H1 _ I1 q1) fun u s2 ⟨x, H2, I2, rx, a, ov, ex, g, q2⟩ => ?_
  subst ex
  obtain rfl : u = Value.ref a := rx
  exact d_notIn hu I2 g ry fun s3 I3 => ⟨.bl (!ov.isSome), H2, I3, rfl, q2⟩
theorem ps_dput (hu : X.A.units + 1 < cLine) (ho : PE X o td) (hi : PE X i ty) (hv : PE X value tv) (hs : swapsWith value (some (.Subscript o i pos')) pos.line X.env = pure false) :
    PS X (.Assign [.Subscript o i pos'] value pos) (sDPut td ty tv) := by
  intro pins s σ H D I h
  refine wpAny_Assign_Subscript (thn (hv pins s σ H _ I h) fun r s1 ⟨v, H1, I1, rv, q1⟩ => thn (ho pins s1 σ H1 _ I1 q1) fun u s2 ⟨x, H2, I2, rx, q2⟩ => thn (hi pins s2 σ H2 _ I2 q2) fun iv s3 ⟨y, H3, I3, ry, a, H4, ex, g, q3⟩ => ?_) hs
  subst ex
  obtain rfl : u = Value.ref a := rx
  exact d_setItem hu I3 g ry rv fun s4 I4 => ⟨σ, H4, I4, q3⟩
end
section
variable {X : Cx} {pos : Pos}
end
section
variable {X : Cx} {pins : List (Addr × Obj)} {σ : St} {H : Hp} {s : Shared} {a : Addr} {y d : V} {u r : Value} {o : Option V} {A : Around} {E : Value → Shared → Prop}
end
section
variable {X : Cx} {o e f : Expr} {apos cpos : Pos} {td ty tx : TE}
end
section
variable {X : Cx} {pins : List (Addr × Obj)} {σ : St} {H : Hp} {s : Shared} {a : Addr} {kvs : List (Key × V)} {A : Around} {E : Value → Shared → Prop}
end
section
variable {X : Cx} {pins : List (Addr × Obj)} {σ : St} {H : Hp} {s : Shared} {a : Addr} {y : V} {u : Value} {A : Around} {E : Value → Shared → Prop}
end
end L2
namespace Att
open PySem PySem.W PySem.Calls PyProof.Rows
section
variable {prog : Program} {w : World} {A : Around} {E : Value → Shared → Prop} {s : Shared} {K : Frag}
end
end Att
namespace L2
open PySem PySem.Spec PyProof.Rows
end L2
namespace L2
open PySem PySem.Spec PyProof.Rows
end L2
namespace L2
open PySem PySem.Spec PyProof.Rows
section
variable {P : Program} {w : World} {K : PySem.W.Frag} {mg : Str → Option Value} {base : Heap}
end
section
variable {X : Cx}
theorem call_lenD : CallR X (.builtin "len") (fun xs H Q => ∃ a kvs, xs = [V.ref a] ∧ H a = some (.dK kvs) ∧ Q (.int kvs.length) H) := by
  intro pins s σ H xs us Q I r h
  obtain ⟨a, kvs, rfl, ha, q⟩ := h
  obtain ⟨u, rfl, ru⟩ := vals1 r
  cases ru
  exact d_len I (.inl ha) fun t s' I' => ⟨.int kvs.length, H, I', ⟨t, rfl⟩, q⟩
end
section
variable {κ : Type} [DecidableEq κ]
end
end L2
namespace L2
open PySem PySem.Spec PyProof.Rows
noncomputable def Itd (a : Addr) (o : Obj) (kvs : List (Key × V)) : It :=
  ⟨fun i H => H a = some (.frz o (.dK kvs)) ∧ i < kvs.length, fun i H x H' => H' = H ∧ ∃ k v, kvs[i]? = some (k, v) ∧ x = kV k, fun i H => H a = some (.frz o (.dK kvs)) ∧ kvs.length ≤ i⟩
theorem rel_key {P : Program} {w : World} {k : Key} {u : Value} (h : (mixKind P w).is k u = true) : RelV (kV k) u := by
  cases k with
  | inl i => exact Value.isInt_shape h
  | inr x => exact Value.isStrOf_shape h
theorem frz_at {P : Program} {w : World} {H : Hp} {h : Heap} {a : Addr} {o : Obj} {kvs : List (Key × V)} {es : Array DictEntry} {ep : Nat} (ok : HOk P w H h) (e : H a = some (.frz o (.dK kvs))) (d : o.data = .dict es ep) :
    ∃ vs, KV kvs vs ∧ h.DictAt (mixKind P w) a vs ep := by
  obtain ⟨e1, z, y, vs, r, o', es', ep', e2, c, d', q⟩ := (show ObjOk P w H h a (.frz o (.dK kvs)) from ok a _ e)
  rw [e1] at e2
  cases e2
  rw [d] at d'
  cases d'
  exact ⟨vs, r, o, es, e1, c, d, q⟩
theorem turn_dict {P : Program} {w : World} {K : PySem.W.Frag} {tg : Expr} (a it : Addr) (o : Obj) (kvs : List (Key × V)) (es : Array DictEntry) (ep : Nat) (hd : o.data = .dict es ep) :
    Turn P w K tg (Itd a o kvs) [it] it (fun i h => h.IsKeyIter it a i kvs.length ep) where
  mem := by simp
  obj := fun i h st b hb => by
    have e : b = it := by simpa using hb
    subst e
    obtain ⟨o, e, c, d⟩ := st
    exact ⟨o, e, fun v z => by rw [d] at z; cases z⟩
  keep := fun i h h' st k => st.at fun o e => k it (by simp) o e
  item := by
    intro X hP hw hK hc i pins s σ H E I hf st hg
    subst hP hw hK
    obtain ⟨e, lt⟩ := hg
    obtain ⟨vs, rel, dat⟩ := frz_at I.hok e hd
    have ll : kvs.length = vs.length := rel.length
    obtain ⟨⟨k, x⟩, hx⟩ : ∃ p, vs[i]? = some p := ⟨vs[i]'(by (first | lia | omega)), by simp⟩
    obtain ⟨⟨k', y⟩, hy⟩ : ∃ p, kvs[i]? = some p := ⟨kvs[i]'lt, by simp⟩
    have kk : k' = k := by
      have e := congrArg (fun l => l[i]?) rel.keys
      simp only [List.getElem?_map, hy, hx, Option.map_some] at e
      exact Option.some.inj e
    subst kk
    obtain ⟨f0, f1, f2, f3, f4, f5⟩ := hf it (by simp)
    refine wpAny_pyNext_dict_item (by rw [← ll]; exact st) dat hx fun key h' hk st' sb => ?_
    rw [← ll] at st'
    have I1 : Inv X pins σ H { s with heap := h' } := I.turned (t' := s.toks) (fun b o hb e => (sb.2 b hb).trans e) f0 f1 f3 f4 f5
    obtain ⟨oo, e', c, d⟩ := id st'
    exact ⟨key, rfl, go_of (s := { s with heap := h' }) e' c d (by decide) ⟨kV k', H, I1, rel_key hk, ⟨rfl, k', y, hy, rfl⟩, st', fun b hb => (hf b hb).1⟩⟩
  done := by
    intro X hP hw hK hc i pins s σ H E I hf st hg
    subst hP hw hK
    obtain ⟨e, le⟩ := hg
    obtain ⟨vs, rel, dat⟩ := frz_at I.hok e hd
    have ll : kvs.length = vs.length := rel.length
    obtain ⟨f0, f1, f2, f3, f4, f5⟩ := hf it (by simp)
    exact wpAny_pyNext_dict_end (I.ok.hd hc) (by rw [← ll]; exact st) dat (by simp; (first | lia | omega)) fun h' eb => ⟨rfl, I.turned (t' := s.toks) (fun b o hb e => eb b o hb e) f0 f1 f3 f4 f5⟩
  self := fun _ _ _ _ _ st h => wpAny_pyIter_keyiter st h
section
variable {X : Cx} {tg : Expr}
noncomputable def iDict (tl : TE) : TI := fun σ H R => tl σ H fun x H1 => ∃ a kvs, x = .ref a ∧ H1 a = some (.dK kvs) ∧ ∀ o, R (Itd a o kvs) (upd H1 a (.frz o (.dK kvs)))
theorem pi_dict {l : Expr} {tl : TE} (hl : PE X l tl) : PI X tg l (iDict tl) := by
  intro pins s σ H R I h
  refine thn (hl pins s σ H _ I h) fun v s1 ⟨x, H1, I1, r1, q1⟩ => ?_
  obtain ⟨a, kvs, e, hq, q⟩ := q1
  subst e
  cases r1
  obtain ⟨z, hs, vs, rel, o, es, ep, e1, c, d, rest⟩ := (show ObjOk X.prog X.w H1 s1.heap a (.dK kvs) from I1.hok a _ hq)
  have dat : s1.heap.DictAt (mixKind X.prog X.w) a vs ep := ⟨o, es, e1, c, d, rest⟩
  have ll : kvs.length = vs.length := rel.length
  have I2 : Inv X pins σ (upd H1 a (.frz o (.dK kvs))) { s1 with heap := s1.heap, toks := s1.toks } := I1.write (x := a) (e := a) (by rw [hq]; exact True.intro) (.inl rfl) (fun _ _ _ q => q) ⟨o, e1⟩ ⟨e1, z, hs, vs, rel, o, es, ep, e1, c, d, rest⟩
  refine wpAny_pyIter_dict hs dat ?_
  refine ⟨s1.heap.objs.size, [s1.heap.objs.size], _, _, _, rfl, I2.kept (t' := s1.toks) fun b o e => Heap.get?_push_of_some _ e, turn_dict a _ o kvs es ep d, ⟨_, Heap.get?_push_size _ rfl, rfl, ?_⟩, fun b hb => ?_, q o⟩
  · rw [ll]; rfl
  have e : b = s1.heap.objs.size := by simpa using hb
  subst e
  exact I2.fpOk (Nat.le_refl _) (I2.hok.fresh (Nat.le_refl _))
end
theorem comp_dict {a : Addr} {o : Obj} {kvs : List (Key × V)} {H1 : Hp} {tt : TT} {te : TE} {σ : St} {js : List Nat} {Q : VK} (hx : H1 a = some (.frz o (.dK kvs))) (hz : kvs.length ≤ sizeLine) (f : V → Option V)
    (step : ∀ k v H', (k, v) ∈ kvs → Same H1 H' → tt (compSt σ js (some (kV k))) H' fun ok H2 => if ok = true then te (compSt σ js (some (kV k))) H2 fun y H3 => Same H' H3 ∧ f (kV k) = some y else Same H' H2 ∧ f (kV k) = none)
    (fin : ∀ p H', Same H1 H' → H1 p = none → H' p = some (.lst ((kvs.map fun p => kV p.1).filterMap f)) → Q (.ref p) H') :
    CompB (Itd a o kvs) H1 js tt te σ Q := by
  refine ⟨kvs.length, fun i => ((kvs.map fun p => kV p.1)[i]?).bind f, hz, fun i H' hi sm => ⟨⟨sm _ _ hx, hi⟩, fun x H'' y => ?_⟩, fun H' sm => ⟨sm _ _ hx, Nat.le_refl _⟩, fun p H' sm hp e => fin p H' sm hp ?_⟩
  · obtain ⟨rfl, k, v, e, rfl⟩ := y
    refine ⟨Same.refl _, ?_⟩
    have := step k v H'' (List.mem_of_getElem? e) sm
    have e2 : (kvs.map fun p => kV p.1)[i]? = some (kV k) := by rw [List.getElem?_map, e]; rfl
    simpa only [e2, Option.bind_some] using this
  · rw [← filterMap_index, List.length_map]; exact e
end L2
namespace L2
open PySem PySem.Spec PyProof.Rows
theorem vals_of_at : ∀ {xs : List V} {us : List Value}, xs.length = us.length → (∀ (i : Nat) (x : V) (u : Value), xs[i]? = some x → us[i]? = some u → RelV x u) → Vals xs us
  | [], [], _, _ => .nil
  | x :: xs, u :: us, l, h => .cons (h 0 x u rfl rfl) (vals_of_at (Nat.succ.inj l) fun i x u a b => h (i + 1) x u a b)
  | [], _ :: _, l, _ => nomatch l
  | _ :: _, [], l, _ => nomatch l
section
variable {X : Cx}
theorem call_rng2 : CallR X (.type "range") (fun xs H Q => ∃ i j : Int, xs = [.int i, .int j] ∧ ∀ p, H p = none → Q (.ref p) (upd H p (.rng i j))) := by
  intro pins s σ H xs us Q I r h
  obtain ⟨i, j, rfl, q⟩ := h
  obtain ⟨u, w', rfl, r1, r2⟩ := vals2 r
  obtain ⟨t, rfl⟩ := r1
  obtain ⟨t', rfl⟩ := r2
  exact call_range_2 ⟨.ref s.heap.objs.size, _, I.laid (a := s.heap.objs.size) (o := .rng i j) (t' := s.toks + 1) (fun _ _ q => Heap.get?_push_of_some _ q) (Nat.le_refl _) ⟨t, t', s.toks, Heap.get?_push_size _ rfl⟩, rfl, q _ (I.hok.fresh (Nat.le_refl _))⟩
theorem call_listR (hc : X.calm = true) : CallR X (.type "list") (fun xs H Q => ∃ (p : Addr) (i j : Int), xs = [.ref p] ∧ H p = some (.rng i j) ∧ -(2 ^ 62) ≤ i ∧ i < 2 ^ 62 ∧ -(2 ^ 62) ≤ j ∧ j < 2 ^ 62 ∧ (j - i).toNat ≤ 1000 ∧
    ∀ l H', Same H H' → H l = none → H' l = some (.lst ((List.range (j - i).toNat).map fun k : Nat => .int (i + (k : Int)))) → Q (.ref l) H') := by
  intro pins s σ H xs us Q I r h
  obtain ⟨p, i, j, rfl, hp, h1, h2, h3, h4, le, q⟩ := h
  obtain ⟨u, rfl, ru⟩ := vals1 r
  cases ru
  obtain ⟨t, t', t2, e⟩ := (show ObjOk X.prog X.w H s.heap p (.rng i j) from I.hok p _ hp)
  refine call_list_range (n := (j - i).toNat) (I.ok.hd hc) e (small_one h1 h2 h3 h4) (by rw [rangeSize_one]; split <;> (first | lia | omega)) (Nat.le_trans le (by decide)) fun h' tk acc c' kp at' its => ?_
  have sz : acc.size = (j - i).toNat := its.1
  have ll : ((List.range (j - i).toNat).map (fun k : Nat => V.int (i + (k : Int)))).length = (j - i).toNat := by rw [List.length_map, List.length_range]
  refine ⟨.ref s.heap.objs.size, _, I.laid (a := s.heap.objs.size) (o := .lst ((List.range (j - i).toNat).map fun k : Nat => .int (i + (k : Int)))) (t' := tk) kp (Nat.le_refl _) ⟨by rw [ll]; exact Nat.le_of_lt (small1000 le), acc.toList, c', vals_of_at (by rw [ll]; simp [sz]) fun k x u a b => ?_, by simpa using at'⟩, rfl, q _ _ (Same.new (I.hok.fresh (Nat.le_refl _)) _) (I.hok.fresh (Nat.le_refl _)) upd_same⟩
  rw [List.getElem?_map] at a
  have lt : k < (j - i).toNat := by
    rcases Nat.lt_or_ge k (j - i).toNat with z | z
    · exact z
    · rw [List.getElem?_eq_none (by rw [List.length_range]; exact z)] at a; cases a
  rw [List.getElem?_range lt] at a
  cases a
  obtain ⟨tt, rfl⟩ := its.2 k u (by simpa using b)
  exact ⟨tt, by rw [Int.mul_one]⟩
end
end L2
namespace Pm
noncomputable def stepL (st : Nat) : List Int := 1 :: List.replicate (st - 1) 0
theorem stepL_len {st : Nat} (h : 0 < st) : (stepL st).length = st := by unfold stepL; rw [List.length_cons, List.length_replicate]; (first | lia | omega)
theorem stepL_at {st i : Nat} : (stepL st).getD i 0 = if i = 0 then 1 else 0 := by
  unfold stepL
  cases i with
  | zero => rfl
  | succ i =>
    rw [if_neg (by (first | lia | omega)), List.getD_cons_succ, List.getD_eq_getElem?_getD]
    by_cases c : i < st - 1
    · rw [List.getElem?_replicate_of_lt c]; rfl
    · rw [List.getElem?_eq_none (by rw [List.length_replicate]; (first | lia | omega))]; rfl
theorem zeros_at {n i : Nat} : (List.replicate n (0 : Int)).getD i 0 = 0 := by
  rw [List.getD_eq_getElem?_getD]
  by_cases c : i < n
  · rw [List.getElem?_replicate_of_lt c]; rfl
  · rw [List.getElem?_eq_none (by rw [List.length_replicate]; (first | lia | omega))]; rfl
theorem ruleF_one {s st : Nat} {t : Option Nat} {d : Nat} : ruleF [(s, st, t)] d = if s ≤ d ∧ (d - s) % st = 0 ∧ tmOk t ((d - s) / st) = true then 1 else 0 := by
  unfold ruleF ofRule
  simp
theorem fig_ever {s st : Nat} (h : 0 < st) (d : Nat) : fig (List.replicate s 0) (stepL st) d = ruleF [(s, st, none)] d := by
  rw [ruleF_one]
  by_cases c : d < s
  · rw [fig_head (by rw [List.length_replicate]; exact c), zeros_at, if_neg (by (first | lia | omega))]
  · rw [fig_bar (by rw [List.length_replicate]; (first | lia | omega)), stepL_at, stepL_len h, List.length_replicate]
    by_cases z : (d - s) % st = 0
    · rw [if_pos z, if_pos ⟨by (first | lia | omega), z, rfl⟩]
    · rw [if_neg z, if_neg (fun u => z u.2.1)]
theorem fig_times {s st t : Nat} (h : 0 < st) (d : Nat) : fig (List.replicate s 0 ++ rep t (stepL st)) [0] d = ruleF [(s, st, some t)] d := by
  rw [ruleF_one]
  have l1 : (rep t (stepL st)).length = t * st := by rw [rep_length, stepL_len h]
  have ll : (List.replicate s (0 : Int) ++ rep t (stepL st)).length = s + t * st := by rw [List.length_append, l1, List.length_replicate]
  have one : fig (List.replicate s 0 ++ rep t (stepL st)) [0] d = if d < s + t * st then (List.replicate s (0 : Int) ++ rep t (stepL st)).getD d 0 else 0 := by
    unfold fig
    rw [ll]
    have : ((d - (s + t * st)) % [(0 : Int)].length) = 0 := Nat.mod_one _
    rw [this]
    rfl
  rw [one]
  by_cases c : d < s
  · rw [if_pos (by (first | lia | omega)), List.getD_eq_getElem?_getD, List.getElem?_append_left (by rw [List.length_replicate]; exact c), ← List.getD_eq_getElem?_getD, zeros_at, if_neg (by (first | lia | omega))]
  · by_cases c2 : d < s + t * st
    · have lt : d - s < t * st := by (first | lia | omega)
      have q : (d - s) / st < t := (Nat.div_lt_iff_lt_mul h).mpr lt
      rw [if_pos c2, List.getD_eq_getElem?_getD, List.getElem?_append_right (by rw [List.length_replicate]; (first | lia | omega)), ← List.getD_eq_getElem?_getD, List.length_replicate, rep_getD (by rw [stepL_len h]; exact h) _ _ (by rw [stepL_len h]; exact lt), stepL_len h, stepL_at]
      by_cases z : (d - s) % st = 0
      · rw [if_pos z, if_pos ⟨by (first | lia | omega), z, decide_eq_true q⟩]
      · rw [if_neg z, if_neg (fun u => z u.2.1)]
    · have q : ¬ (d - s) / st < t := fun u => c2 (by have := (Nat.div_lt_iff_lt_mul h).mp u; (first | lia | omega))
      rw [if_neg c2, if_neg (fun u => q (of_decide_eq_true u.2.2))]
theorem ruleF_snoc {rs : List Rul} {r : Rul} {d : Nat} : ruleF (rs ++ [r]) d = if ruleF rs d = 1 ∨ ruleF [r] d = 1 then 1 else 0 := by
  have e : ruleF (rs ++ [r]) d = 1 ↔ ruleF rs d = 1 ∨ ruleF [r] d = 1 := by
    rw [ruleF_iff, ruleF_iff, ruleF_iff, List.any_append, Bool.or_eq_true]
  by_cases c : ruleF rs d = 1 ∨ ruleF [r] d = 1
  · rw [if_pos c]; exact e.mpr c
  · rw [if_neg c]
    rcases ruleF_01 (rs ++ [r]) d with z | z
    · exact z
    · exact absurd (e.mp z) c
theorem wv_either {x y : Int} (hx : x = 0 ∨ x = 1) (hy : y = 0 ∨ y = 1) : wv [0, 1, 1, 1] x y = if x = 1 ∨ y = 1 then 1 else 0 := by
  rcases hx with rfl | rfl <;> rcases hy with rfl | rfl <;> decide
end Pm
namespace Pb
open PySem L2 Pm
noncomputable def RulB (r : Rul) : Prop := r.1 ≤ 400 ∧ 1 ≤ r.2.1 ∧ r.2.1 ≤ 200 ∧ ∀ t, r.2.2 = some t → 1 ≤ t ∧ t ≤ 400
theorem tm_good : ∀ t : Option Nat, (∀ n, t = some n → 1 ≤ n ∧ n ≤ 400) → tmB (tmV t) = true
  | none, _ => rfl
  | some n, h => by
    have := h n rfl
    show (decide ((1 : Int) ≤ (n : Int)) && decide ((n : Int) ≤ 400)) = true
    rw [decide_eq_true (show (1 : Int) ≤ (n : Int) by (first | lia | omega)), decide_eq_true (show (n : Int) ≤ 400 by (first | lia | omega))]; rfl
theorem good_rule {r : Rul} (h : RulB r) : isRule (ruVs r) = true := by
  obtain ⟨h1, h2, h3, h4⟩ := h
  show (inB 0 400 (.int (r.1 : Int)) && inB 1 200 (.int (r.2.1 : Int)) && tmB (tmV r.2.2)) = true
  rw [tm_good _ h4]
  show ((decide ((0 : Int) ≤ (r.1 : Int)) && decide ((r.1 : Int) ≤ 400)) && (decide ((1 : Int) ≤ (r.2.1 : Int)) && decide ((r.2.1 : Int) ≤ 200)) && true) = true
  rw [decide_eq_true (show (0 : Int) ≤ (r.1 : Int) by (first | lia | omega)), decide_eq_true (show (r.1 : Int) ≤ 400 by (first | lia | omega)), decide_eq_true (show (1 : Int) ≤ (r.2.1 : Int) by (first | lia | omega)), decide_eq_true (show (r.2.1 : Int) ≤ 200 by (first | lia | omega))]; rfl
theorem flat_tuple {K : PySem.W.Frag} {H : Hp} {x : V} (h : flatV x = true) : ∃ t, TyV K H x t ∧ PySem.W.kitOne K t (.type "tuple") = some false := by
  cases x with
  | int i => exact ⟨_, .int i, by rfl⟩
  | bl b => exact ⟨_, .bl b, by rfl⟩
  | str s => exact ⟨_, .str s, by rfl⟩
  | non => exact ⟨_, .non, kit_non_tuple⟩
  | _ => cases h
section
variable (K : PySem.W.Frag)
noncomputable def spIsRule : Sp := fun vs H Q _ => ∃ (x : V) (o : Option (List V)), vs = [x] ∧ RV K H x o ∧ Q (.bl (goodR o)) H
noncomputable def spCheckR : Sp := fun vs H Q _ => ∃ (a : Addr) (rs : List Rul), vs = [.ref a] ∧ RuL K H a rs ∧ rs.length ≤ 12 ∧ (∀ r ∈ rs, RulB r) ∧ Q .non H
end
theorem Rus.rv {K : PySem.W.Frag} {H : Hp} {p : Addr} {r : Rul} (h : SqT K H p (ruVs r)) : RV K H (.ref p) (some (ruVs r)) := by
  refine .tup h ?_ (by show 3 ≤ 1000; decide)
  show (true && (true && (flatV (tmV r.2.2) && true))) = true
  rw [flat_tm]; rfl
theorem t_never : T [] [0] := ⟨by decide, fun n h0 h1 => by have h1 : n < 1 := h1; (first | lia | omega), fun h => absurd h (by decide)⟩
theorem fig_never (d : Nat) : fig [] [0] d = 0 := by
  rw [fig_bar (Nat.zero_le _)]
  have : (d - ([] : List Int).length) % [(0 : Int)].length = 0 := Nat.mod_one _
  rw [this]; rfl
theorem rulesOf_ones (h b : List Int) : rulesOf h b = (ones h).map (fun i => ((i, 1, some 1) : Rul)) ++ ((ones b).map fun i => h.length + i).map (fun d => ((d, b.length, none) : Rul)) := by
  unfold rulesOf ones daysTo
  congr 1
  · rw [← List.filterMap_eq_map, List.filterMap_filter]
    refine congrArg (fun f => (List.range h.length).filterMap f) (funext fun i => ?_)
    unfold rulH
    by_cases c : h.getD i 0 = 1
    · rw [if_pos c, if_pos (decide_eq_true c)]; rfl
    · rw [if_neg c, if_neg (fun u => c (of_decide_eq_true u))]
  · rw [List.map_map, ← List.filterMap_eq_map, List.filterMap_filter]
    refine congrArg (fun f => (List.range b.length).filterMap f) (funext fun i => ?_)
    unfold rulB
    by_cases c : b.getD i 0 = 1
    · rw [if_pos c, if_pos (decide_eq_true c)]; rfl
    · rw [if_neg c, if_neg (fun u => c (of_decide_eq_true u))]
end Pb
namespace Pb
open PySem L2 Pm
theorem notT {c : Bool} (h : (!c) = true) : c = false := by cases c <;> simp at h ⊢
noncomputable def seenK (st : List Nat) (s n : Nat) : List (Key × V) := (List.range n).map fun i => (Sum.inl ((walkAt st s i : Nat) : Int), V.int (i : Int))
theorem seen_len (st : List Nat) (s n : Nat) : (seenK st s n).length = n := by unfold seenK; rw [List.length_map, List.length_range]
theorem seen_succ (st : List Nat) (s n : Nat) : seenK st s (n + 1) = seenK st s n ++ [(Sum.inl ((walkAt st s n : Nat) : Int), V.int (n : Int))] := by
  unfold seenK; rw [List.range_succ, List.map_append]; rfl
theorem seen_some {st : List Nat} {s n w : Nat} {v : V} (h : valV (seenK st s n) (Sum.inl (w : Int)) = some v) : ∃ i, i < n ∧ walkAt st s i = w ∧ v = .int (i : Int) := by
  obtain ⟨p, hp, rfl⟩ := Option.map_eq_some_iff.mp h
  have z := List.find?_some hp
  obtain ⟨i, hi, rfl⟩ := List.mem_map.mp (List.mem_of_find?_eq_some hp)
  have z : (Sum.inl ((walkAt st s i : Nat) : Int) : Key) = Sum.inl (w : Int) := of_decide_eq_true z
  injection z with z
  exact ⟨i, List.mem_range.mp hi, by (first | lia | omega), rfl⟩
theorem seen_none {st : List Nat} {s n w : Nat} (h : valV (seenK st s n) (Sum.inl (w : Int)) = none) {i : Nat} (hi : i < n) : walkAt st s i ≠ w := fun e => by
  have z := List.find?_eq_none.mp (Option.map_eq_none_iff.mp h) _ (List.mem_map.mpr ⟨i, List.mem_range.mpr hi, rfl⟩)
  exact z (decide_eq_true (by rw [e]))
theorem seen_max {st mk : List Nat} {s n : Nat} (w : WalkOk st mk s) (inj : ∀ i j, i < j → j < n → walkAt st s i ≠ walkAt st s j) : n ≤ st.length := by
  obtain ⟨i, j, ij, jn, e⟩ := walk_twice w.stp w.beg
  refine Nat.not_lt.mp fun u => inj i j ij (by (first | lia | omega)) e
theorem inB_below (n : Nat) (v : V) : inB 0 ((n : Int) - 1) v = isBelow (n : Int) v := by
  cases v with
  | int i =>
    show (decide (0 ≤ i) && decide (i ≤ (n : Int) - 1)) = (decide (0 ≤ i) && decide (i < (n : Int)))
    congr 1
    by_cases c : i < (n : Int)
    · rw [decide_eq_true c, decide_eq_true (by (first | lia | omega))]
    · rw [decide_eq_false c, decide_eq_false (by (first | lia | omega))]
  | _ => rfl
theorem inB_belows (n : Nat) (xs : List V) : xs.all (inB 0 ((n : Int) - 1)) = xs.all (isBelow (n : Int)) := congrArg (fun f => xs.all f) (funext (inB_below n))
theorem below_nats {n : Nat} {l : List Nat} (h : ∀ x ∈ l, x < n) : (l.map vN).all (isBelow (n : Int)) = true := by
  rw [List.all_eq_true]
  intro v hv
  obtain ⟨x, hx, rfl⟩ := List.mem_map.mp hv
  have := h x hx
  show (decide ((0 : Int) ≤ (x : Int)) && decide ((x : Int) < (n : Int))) = true
  rw [decide_eq_true (show (0 : Int) ≤ (x : Int) by (first | lia | omega)), decide_eq_true (show (x : Int) < (n : Int) by (first | lia | omega))]; rfl
theorem figs_nats {l : List Nat} (h : ∀ x ∈ l, x = 0 ∨ x = 1) : (l.map vN).all isFig = true := by
  rw [List.all_eq_true]
  intro v hv
  obtain ⟨x, hx, rfl⟩ := List.mem_map.mp hv
  rcases h x hx with rfl | rfl <;> rfl
theorem walk_is {st mk : List Nat} {s : Nat} (w : WalkOk st mk s) : isWalk (some (st.map vN)) (some (mk.map vN)) (.int (s : Int)) = true := by
  have h1 := w.beg
  have h2 := w.max
  have h3 := w.len
  show (decide _ && decide _ && decide _ && _ && _ && _) = true
  rw [List.length_map, List.length_map, below_nats w.stp, figs_nats w.mrk, decide_eq_true (show (1 : Int) ≤ (st.length : Int) by (first | lia | omega)), decide_eq_true (show (st.length : Int) ≤ 400 by (first | lia | omega)), decide_eq_true h3]
  show (decide ((0 : Int) ≤ (s : Int)) && decide ((s : Int) < (st.length : Int))) = true
  rw [decide_eq_true (show (0 : Int) ≤ (s : Int) by (first | lia | omega)), decide_eq_true (show (s : Int) < (st.length : Int) by (first | lia | omega))]; rfl
section
variable (K : PySem.W.Frag)
noncomputable def spIsWalk : Sp := fun vs H Q _ => ∃ (x y z : V) (ox oy : Option (List V)), vs = [x, y, z] ∧ LV K H x ox ∧ LV K H y oy ∧ flatV z = true ∧ ∀ H', Same H H' → Q (.bl (isWalk ox oy z)) H'
end
theorem LV.n {K : PySem.W.Frag} {H : Hp} {x : V} {o : Option (List V)} (h : LV K H x o) : LstN K H x (o.map List.length) := by
  cases o with
  | none =>
    obtain ⟨t, ty, kt⟩ := h.ty
    exact .oth ty kt
  | some xs =>
    cases h with
    | lst h1 h2 h3 => exact .lst h1
theorem walk_cyc {st mk : List Nat} {s i n : Nat} (lt : i < n) (e : walkAt st s i = walkAt st s n) (d : Nat) :
    fig ((List.range i).map (walkF st mk s)) ((List.range (n - i)).map fun k => walkF st mk s (i + k)) d = walkF st mk s d :=
  fig_cyc (by (first | lia | omega)) (fun d hd => by unfold walkF; rw [walk_per lt e hd]) d
theorem seen_figs {st mk : List Nat} {s n : Nat} {f : V → Option V} (h : ∀ i : Nat, f (.int (i : Int)) = some (.int ((mk.getD i 0 : Nat) : Int))) : ((seenK st s n).map fun p => kV p.1).filterMap f = ((List.range n).map (walkF st mk s)).map V.int := by
  unfold seenK
  rw [List.map_map, List.map_map, ← List.filterMap_eq_map, List.filterMap_filterMap]
  rw [← List.filterMap_eq_map]
  refine congrArg (fun g => (List.range n).filterMap g) (funext fun i => ?_)
  show f (.int ((walkAt st s i : Nat) : Int)) = _
  rw [h]; rfl
end Pb
namespace L2
open PySem PySem.Spec PyProof.Rows
theorem len_nil {α : Type} {us : List α} (h : us.length = 0) : us = [] := List.eq_nil_of_length_eq_zero h
theorem len_cons {α : Type} {us : List α} {n : Nat} (h : us.length = n + 1) : ∃ a r, us = a :: r ∧ r.length = n := by
  cases us with
  | nil => cases h
  | cons a r => exact ⟨a, r, rfl, Nat.succ.inj h⟩
section
variable {K : PySem.W.Frag} {x qual : Str} {st : Stmt} {f : Addr} {fd : FuncData}
theorem Fun.binds0 (F : Fun K x qual st f fd) (h : ∀ (kV doc pm : Value) (an : Option Addr) (cdv ct : Value), bindArgs (PySem.W.fnOf x qual (defArgs st) (defBody st) (defScope st) .none kV doc pm an cdv ct) ⟨[], []⟩ = pure (([] : List Str).zip [])) : Binds K fd [] [] :=
  F.binds fun kV doc pm an cdv ct us hl => by
    obtain rfl := len_nil hl
    exact h kV doc pm an cdv ct
theorem Fun.binds1 {p0 : Str} (F : Fun K x qual st f fd) (h : ∀ (kV doc pm : Value) (an : Option Addr) (cdv ct : Value) (u0 : Value), bindArgs (PySem.W.fnOf x qual (defArgs st) (defBody st) (defScope st) .none kV doc pm an cdv ct) ⟨[u0], []⟩ = pure (([p0] : List Str).zip [u0])) : Binds K fd [p0] [] :=
  F.binds fun kV doc pm an cdv ct us hl => by
    obtain ⟨u0, r0, rfl, h0⟩ := len_cons (n := 0) hl
    obtain rfl := len_nil h0
    exact h kV doc pm an cdv ct u0
theorem Fun.binds2 {p0 p1 : Str} (F : Fun K x qual st f fd) (h : ∀ (kV doc pm : Value) (an : Option Addr) (cdv ct : Value) (u0 u1 : Value), bindArgs (PySem.W.fnOf x qual (defArgs st) (defBody st) (defScope st) .none kV doc pm an cdv ct) ⟨[u0, u1], []⟩ = pure (([p0, p1] : List Str).zip [u0, u1])) : Binds K fd [p0, p1] [] :=
  F.binds fun kV doc pm an cdv ct us hl => by
    obtain ⟨u0, r0, rfl, h0⟩ := len_cons (n := 1) hl
    obtain ⟨u1, r1, rfl, h1⟩ := len_cons (n := 0) h0
    obtain rfl := len_nil h1
    exact h kV doc pm an cdv ct u0 u1
theorem Fun.binds3 {p0 p1 p2 : Str} (F : Fun K x qual st f fd) (h : ∀ (kV doc pm : Value) (an : Option Addr) (cdv ct : Value) (u0 u1 u2 : Value), bindArgs (PySem.W.fnOf x qual (defArgs st) (defBody st) (defScope st) .none kV doc pm an cdv ct) ⟨[u0, u1, u2], []⟩ = pure (([p0, p1, p2] : List Str).zip [u0, u1, u2])) : Binds K fd [p0, p1, p2] [] :=
  F.binds fun kV doc pm an cdv ct us hl => by
    obtain ⟨u0, r0, rfl, h0⟩ := len_cons (n := 2) hl
    obtain ⟨u1, r1, rfl, h1⟩ := len_cons (n := 1) h0
    obtain ⟨u2, r2, rfl, h2⟩ := len_cons (n := 0) h1
    obtain rfl := len_nil h2
    exact h kV doc pm an cdv ct u0 u1 u2
theorem Fun.binds4 {p0 p1 p2 p3 : Str} (F : Fun K x qual st f fd) (h : ∀ (kV doc pm : Value) (an : Option Addr) (cdv ct : Value) (u0 u1 u2 u3 : Value), bindArgs (PySem.W.fnOf x qual (defArgs st) (defBody st) (defScope st) .none kV doc pm an cdv ct) ⟨[u0, u1, u2, u3], []⟩ = pure (([p0, p1, p2, p3] : List Str).zip [u0, u1, u2, u3])) : Binds K fd [p0, p1, p2, p3] [] :=
  F.binds fun kV doc pm an cdv ct us hl => by
    obtain ⟨u0, r0, rfl, h0⟩ := len_cons (n := 3) hl
    obtain ⟨u1, r1, rfl, h1⟩ := len_cons (n := 2) h0
    obtain ⟨u2, r2, rfl, h2⟩ := len_cons (n := 1) h1
    obtain ⟨u3, r3, rfl, h3⟩ := len_cons (n := 0) h2
    obtain rfl := len_nil h3
    exact h kV doc pm an cdv ct u0 u1 u2 u3
end
end L2
namespace L2
open PySem PySem.Spec PyProof.Rows
theorem seqG {t1 t2 : TS} {D : Ends} {σ : St} {H : Hp} (h : ∀ N : St → Hp → Prop, (∀ σ' H', t2 D σ' H' → N σ' H') → t1 { D with nx := N } σ H) : tSeq t1 t2 D σ H := h (t2 D) fun _ _ z => z
theorem for_listG {K : PySem.W.Frag} {a : Addr} {xs : List V} {g : TG} {tb : TS} {D : Ends} {σ : St} {H : Hp} (Pv : Nat → St → Hp → Prop) (h0 : Pv 0 σ H) (hl : ∀ i σ H, i ≤ xs.length → Pv i σ H → SqL K H a xs)
    (hs : ∀ i x σ H, xs[i]? = some x → Pv i σ H → ∀ N : St → Hp → Prop, (∀ σ' H', Pv (i + 1) σ' H' → N σ' H') → g x σ H fun σ2 H2 => tb { D with nx := N, ct := N, bk := D.nx } σ2 H2) (hd : ∀ σ H, Pv xs.length σ H → D.nx σ H) :
    ∃ W : Nat → Nat → St → Hp → Prop, (∃ m, W 0 m σ H) ∧ ∀ i m σ H, W i m σ H →
      ((Itl K a).stop i H ∧ D.nx σ H) ∨ ((Itl K a).go i H ∧ ∃ N : St → Hp → Prop, (∀ σ' H', N σ' H' → ∃ m', m' < m ∧ W (i + 1) m' σ' H') ∧ ∀ x H', (Itl K a).yld i H x H' → g x σ H' fun σ2 H2 => tb { D with nx := N, ct := N, bk := D.nx } σ2 H2) :=
  for_list Pv h0 hl (fun i x σ H e p => hs i x σ H e p (Pv (i + 1)) fun _ _ z => z) hd
theorem for_rangeG {lo : Int} {n : Nat} {g : TG} {tb : TS} {D : Ends} {σ : St} {H : Hp} (Pv : Nat → St → Hp → Prop) (h0 : Pv 0 σ H)
    (hs : ∀ i σ H, i < n → Pv i σ H → ∀ N : St → Hp → Prop, (∀ σ' H', Pv (i + 1) σ' H' → N σ' H') → g (.int (lo + i)) σ H fun σ2 H2 => tb { D with nx := N, ct := N, bk := D.nx } σ2 H2) (hd : ∀ σ H, Pv n σ H → D.nx σ H) :
    ∃ W : Nat → Nat → St → Hp → Prop, (∃ m, W 0 m σ H) ∧ ∀ i m σ H, W i m σ H →
      ((Itr lo n).stop i H ∧ D.nx σ H) ∨ ((Itr lo n).go i H ∧ ∃ N : St → Hp → Prop, (∀ σ' H', N σ' H' → ∃ m', m' < m ∧ W (i + 1) m' σ' H') ∧ ∀ x H', (Itr lo n).yld i H x H' → g x σ H' fun σ2 H2 => tb { D with nx := N, ct := N, bk := D.nx } σ2 H2) :=
  for_range Pv h0 (fun i σ H e p => hs i σ H e p (Pv (i + 1)) fun _ _ z => z) hd
end L2
namespace L2
open PySem PySem.Spec PyProof.Rows
theorem walkX_of {q : Program} {loose : List Str} {XP : (Str → Option Value) → Heap → Prop} {K : Params → PySem.W.Frag} {as : List Addr} {n t : Nat} {r : PySem.W.RowW} {d : DefRec} {kwd : List (Str × Expr)} {run : Value → List Value → Sem Value} (e : ∀ P, as = (K P).map (·.1))
    (W : PySem.W.WalkO q loose XP (fun w h => (K w.params).In h) r d kwd run) : PySem.W.WalkX q loose XP (PySem.W.X.obsZ as) (PySem.W.X.valZ K n t) r d kwd run := by
  intro w s₀ s₁ mg mb G y a o pm cd doc dV kV ho hd hcd hdf hmg hg args vals as' L hpre hlay hrd hwl hsys
  exact W w s₀ s₁ mg mb G (PySem.W.InK.keeps w _ _ (PySem.W.X.z_facts e y).2.1 L.keeps) a o pm cd doc dV kV ho hd hcd hdf hmg hg args vals as' hpre hlay hrd hwl hsys
end L2
namespace Pb
open PySem L2 Pm
noncomputable def NR (K : PySem.W.Frag) (H : Hp) (Q : VK) (S : List Int → List Int → Prop) : Prop := (∀ hh bb, T hh bb → S hh bb → Fits hh bb) ∧ ∀ r hh bb H', Same H H' → Pl K H' r hh bb → T hh bb → S hh bb → Q (.ref r) H'
theorem NR.told {K : PySem.W.Frag} {H H1 : Hp} {Q : VK} {S S' : List Int → List Int → Prop} (k : NR K H Q S) (s : Same H H1) (i : ∀ hh bb, S' hh bb → S hh bb) :
    (∀ hh bb, T hh bb → S' hh bb → hh.length ≤ 400 ∧ bb.length ≤ 200) ∧ ∀ r hh bb H', Same H1 H' → Pl K H' r hh bb → T hh bb → S' hh bb → Q (.ref r) H' :=
  ⟨fun hh bb t a => k.1 hh bb t (i hh bb a), fun r hh bb H' s' pl t a => k.2 r hh bb H' (s.trans s') pl t (i hh bb a)⟩
section
variable (K : PySem.W.Frag)
noncomputable def spOfR0 : Sp := fun vs H Q _ => ∃ (p : Addr) (r : Rul), vs = [.ref p] ∧ SqT K H p (ruVs r) ∧ RulB r ∧ NR K H Q fun hh bb => ∀ d, fig hh bb d = ruleF [r] d
noncomputable def spRules0 : Sp := fun vs H Q _ => ∃ (a : Addr) (rs : List Rul), vs = [.ref a] ∧ RuL K H a rs ∧ RulsOk rs ∧ FitsF (ruleF rs) ∧ ∀ r hh bb H', Same H H' → Pl K H' r hh bb → T hh bb → (∀ d, fig hh bb d = ruleF rs d) → Q (.ref r) H'
noncomputable def spWalked0 : Sp := fun vs H Q _ => ∃ (a c : Addr) (st mk : List Nat) (s : Nat), vs = [.ref a, .ref c, .int (s : Int)] ∧ SqL K H a (st.map vN) ∧ SqL K H c (mk.map vN) ∧ WalkOk st mk s ∧ NR K H Q fun hh bb => ∀ d, fig hh bb d = walkF st mk s d
noncomputable def spAdded0 : Sp := fun vs H Q _ => ∃ (p q : Addr) (h b h' b' : List Int), vs = [.ref p, .ref q] ∧ Pu K H p h b ∧ Pu K H q h' b' ∧ NR K H Q fun hh bb => ∀ d, fig hh bb d = addF (fig h b) (fig h' b') d
end
theorem goodR_len {xs : List V} (h : xs.length ≠ 3) : goodR (some xs) = false := by
  cases xs with
  | nil => rfl
  | cons a r => cases r with
    | nil => rfl
    | cons b r => cases r with
      | nil => rfl
      | cons c r => cases r with
        | nil => exact absurd rfl h
        | cons d r => rfl
theorem len_three {α : Type} {xs : List α} (h : xs.length = 3) : ∃ a b c, xs = [a, b, c] := by
  obtain ⟨a, r1, rfl, h1⟩ := len_cons (n := 2) h
  obtain ⟨b, r2, rfl, h2⟩ := len_cons (n := 1) h1
  obtain ⟨c, r3, rfl, h3⟩ := len_cons (n := 0) h2
  obtain rfl := len_nil h3
  exact ⟨a, b, c, rfl⟩
end Pb
namespace Lk27
open PySem L2 Pm Pb
noncomputable def top (i : Nat) : Stmt := PySem.Challenge.pw_pulsebook_k27_nothing_is_kept.main.body.getD i (.Pass ⟨0, 0, 0, 0⟩)
structure Txt (K : PySem.W.Frag) (mg : Str → Option Value) : Prop where
  one : True
  b_len : mg "len" = none
  b_list : mg "list" = none
  b_tuple : mg "tuple" = none
  b_range : mg "range" = none
  b_max : mg "max" = none
  b_isinstance : mg "isinstance" = none
  b_bool : mg "bool" = none
  b_int : mg "int" = none
  b_all : mg "all" = none
  b_zip : mg "zip" = none
  g_LONGEST_HEAD : ∃ t, mg "LONGEST_HEAD" = some (.int 400 t)
  g_LONGEST_BAR : ∃ t, mg "LONGEST_BAR" = some (.int 200 t)
  g_OF_EITHER : ∃ a, mg "OF_EITHER" = some (.ref a) ∧ ∀ H, SqT K H a ([0, 1, 1, 1].map V.int)
  g_MOST_RULES : ∃ t, mg "MOST_RULES" = some (.int 12 t)
  g_LATEST_START : ∃ t, mg "LATEST_START" = some (.int 400 t)
  g_LONGEST_STEP : ∃ t, mg "LONGEST_STEP" = some (.int 200 t)
  g_MOST_TIMES : ∃ t, mg "MOST_TIMES" = some (.int 400 t)
  g_MOST_NUMBERS : ∃ t, mg "MOST_NUMBERS" = some (.int 6 t)
  g_GREATEST_NUMBER : ∃ t, mg "GREATEST_NUMBER" = some (.int 20 t)
  g_MOST_PLACES : ∃ t, mg "MOST_PLACES" = some (.int 400 t)
section
variable {P : Program} {w : World} {K : PySem.W.Frag} {mg : Str → Option Value} {base : Heap} {k : Nat}
noncomputable abbrev s_is_whole : Stmt := top 9
theorem sc_is_whole : FnScope ["value"] ["value"] (defScope s_is_whole) := ⟨rfl, rfl, rfl, by decide +kernel, rfl, by decide +kernel, by decide +kernel⟩
set_option maxHeartbeats 1000000 in
theorem ok_is_whole (TX : Txt K mg) (F : Txt1 K mg "is_whole" s_is_whole ["value"]) : DefOk P w K mg base (k + 1) "is_whole" ["value"] (spIsWhole) := by
  refine F.ok sc_is_whole (fun vs H Q E h => ?_) (fun f cdv A outer s H vs Q E hr h => ?_)
  · first | (obtain ⟨rfl, _⟩ := h; rfl) | (obtain ⟨_, rfl, _⟩ := h; rfl) | (obtain ⟨_, _, rfl, _⟩ := h; rfl) | (obtain ⟨_, _, _, rfl, _⟩ := h; rfl) | (obtain ⟨_, _, _, _, rfl, _⟩ := h; rfl) | (obtain ⟨_, _, _, _, _, rfl, _⟩ := h; rfl) | (obtain ⟨_, _, _, _, _, _, rfl, _⟩ := h; rfl) | (obtain ⟨_, _, _, _, _, _, _, rfl, _⟩ := h; rfl) | (obtain ⟨_, _, _, _, _, _, _, _, rfl, _⟩ := h; rfl) | (obtain ⟨_, _, _, _, _, _, _, _, _, rfl, _⟩ := h; rfl)
  obtain ⟨x, rfl, fx, q⟩ := h
  refine ⟨_, pss_one (ps_ret (pe_and (pe_callB (call_isvK K (T := "int")) rfl TX.b_isinstance PyProof.Rows.boot_isinstance (pa_cons (pv 0) (pa_cons (pe_tyn rfl TX.b_int PyProof.Rows.boot_int) pa_nil))) (pe_one (pe_not (pe_callB (call_isvK K (T := "bool")) rfl TX.b_isinstance PyProof.Rows.boot_isinstance (pa_cons (pv 0) (pa_cons (pe_tyn rfl TX.b_bool PyProof.Rows.boot_bool) pa_nil))))))), ?_⟩
  cases x with
  | int i => exact ⟨_, rfl, _, _, _, rfl, .int _, kit_yes, _, rfl, _, rfl, _, _, _, rfl, .int _, kit_int_bool, _, rfl, q⟩
  | bl b => exact ⟨_, rfl, _, _, _, rfl, .bl _, kit_bool_int, _, rfl, _, rfl, _, _, _, rfl, .bl _, kit_yes, _, rfl, q⟩
  | str x => exact ⟨_, rfl, _, _, _, rfl, .str _, kit_str_int, _, rfl, q⟩
  | non => exact ⟨_, rfl, _, _, _, rfl, .non, kit_non_int, _, rfl, q⟩
  | _ => cases fx
noncomputable abbrev s_is_number : Stmt := top 10
theorem sc_is_number : FnScope ["value", "least", "greatest"] ["value", "least", "greatest"] (defScope s_is_number) := ⟨rfl, rfl, rfl, by decide +kernel, rfl, by decide +kernel, by decide +kernel⟩
set_option maxHeartbeats 1000000 in
theorem ok_is_number (TX : Txt K mg) (D_is_whole : DefOk P w K mg base k "is_whole" ["value"] (spIsWhole)) (F : Txt1 K mg "is_number" s_is_number ["value", "least", "greatest"]) : DefOk P w K mg base (k + 1) "is_number" ["value", "least", "greatest"] (spIsNumber) := by
  refine F.ok sc_is_number (fun vs H Q E h => ?_) (fun f cdv A outer s H vs Q E hr h => ?_)
  · first | (obtain ⟨rfl, _⟩ := h; rfl) | (obtain ⟨_, rfl, _⟩ := h; rfl) | (obtain ⟨_, _, rfl, _⟩ := h; rfl) | (obtain ⟨_, _, _, rfl, _⟩ := h; rfl) | (obtain ⟨_, _, _, _, rfl, _⟩ := h; rfl) | (obtain ⟨_, _, _, _, _, rfl, _⟩ := h; rfl) | (obtain ⟨_, _, _, _, _, _, rfl, _⟩ := h; rfl) | (obtain ⟨_, _, _, _, _, _, _, rfl, _⟩ := h; rfl) | (obtain ⟨_, _, _, _, _, _, _, _, rfl, _⟩ := h; rfl) | (obtain ⟨_, _, _, _, _, _, _, _, _, rfl, _⟩ := h; rfl)
  obtain ⟨x, lo, hi, rfl, fx, q⟩ := h
  refine ⟨_, pss_one (ps_ret (pe_and (pe_callD D_is_whole hr rfl (pa_cons (pv 0) pa_nil)) (pe_one (pe_chain op_le op_le (pv 1) (pv 0) (pv 2))))), ?_⟩
  refine ⟨_, rfl, x, rfl, fx, _, rfl, ?_⟩
  cases x with
  | int i =>
    refine ⟨_, rfl, _, rfl, _, _, rfl, rfl, _, rfl, ?_⟩
    refine ite2 (fun h0 => ?_) (fun h0 => ?_)
    · refine ⟨_, rfl, _, _, rfl, rfl, ?_⟩
      have e : inB lo hi (.int i) = decide (i ≤ hi) := by show (decide (lo ≤ i) && decide (i ≤ hi)) = _; rw [h0]; rfl
      rw [e] at q
      exact q
    · have e : inB lo hi (.int i) = false := by show (decide (lo ≤ i) && decide (i ≤ hi)) = _; rw [Bool.eq_false_iff.mpr h0]; rfl
      rw [e] at q
      exact q
  | bl b => exact q
  | str x => exact q
  | non => exact q
  | _ => cases fx
noncomputable abbrev s_are_numbers : Stmt := top 11
theorem sc_are_numbers : FnScope ["entries", "least", "greatest"] ["entries", "least", "greatest"] (defScope s_are_numbers) := ⟨rfl, rfl, rfl, by decide +kernel, rfl, by decide +kernel, by decide +kernel⟩
noncomputable def cs_are_numbers_0 : Scope := { kind := .function, names := [(".0", .local), ("entry", .local), ("is_number", .globalImplicit), ("greatest", .free), ("least", .free)], isGenerator := false, isCoroutine := false, more := [] }
theorem co_are_numbers_0 : CompOk (defScope s_are_numbers) cs_are_numbers_0 ["entries", "least", "greatest"] "entry" ["greatest", "least"] [2, 1] := ⟨rfl, by decide +kernel, by decide +kernel, by decide +kernel, by decide +kernel, by decide +kernel, rfl, by decide +kernel⟩
set_option maxHeartbeats 1000000 in
theorem ok_are_numbers (TX : Txt K mg) (D_is_number : DefOk P w K mg base k "is_number" ["value", "least", "greatest"] (spIsNumber)) (F : Txt1 K mg "are_numbers" s_are_numbers ["entries", "least", "greatest"]) : DefOk P w K mg base (k + 1) "are_numbers" ["entries", "least", "greatest"] (spAreL K) := by
  refine F.ok sc_are_numbers (fun vs H Q E h => ?_) (fun f cdv A outer s H vs Q E hr h => ?_)
  · first | (obtain ⟨rfl, _⟩ := h; rfl) | (obtain ⟨_, rfl, _⟩ := h; rfl) | (obtain ⟨_, _, rfl, _⟩ := h; rfl) | (obtain ⟨_, _, _, rfl, _⟩ := h; rfl) | (obtain ⟨_, _, _, _, rfl, _⟩ := h; rfl) | (obtain ⟨_, _, _, _, _, rfl, _⟩ := h; rfl) | (obtain ⟨_, _, _, _, _, _, rfl, _⟩ := h; rfl) | (obtain ⟨_, _, _, _, _, _, _, rfl, _⟩ := h; rfl) | (obtain ⟨_, _, _, _, _, _, _, _, rfl, _⟩ := h; rfl) | (obtain ⟨_, _, _, _, _, _, _, _, _, rfl, _⟩ := h; rfl)
  obtain ⟨a, xs, lo, hi, rfl, h1, fl, lx, q⟩ := h
  refine ⟨_, pss_one (ps_ret (pe_callB (call_allL rfl) rfl TX.b_all PyProof.Rows.boot_all (pa_cons (pe_comp rfl co_are_numbers_0 (pi_listK K (pv 0)) (fun _ _ _ _ => pts_nil) (fun _ _ _ _ => (pe_callD D_is_number hr rfl (pa_cons (pv 0) (pa_cons (pv 2) (pa_cons (pv 1) pa_nil)))))) pa_nil))), ?_⟩
  refine ⟨_, rfl, a, rfl, ⟨_, h1⟩, ?_⟩
  refine comp_list h1 (small lx) (fun v => some (.bl (inB lo hi v))) (fun v H' hv sm => ?_) (fun r1 H3 s3 n1 r1e => ?_)
  · exact ⟨_, rfl, _, rfl, _, rfl, v, _, _, rfl, List.all_eq_true.mp fl v hv, Same.refl _, rfl⟩
  · rw [filterMap_some_map, map_bl] at r1e
    refine ⟨r1, xs.map (inB lo hi), rfl, SqL.of r1e, ?_⟩
    rw [List.all_map]
    exact q H3 s3
noncomputable abbrev s_is_list : Stmt := top 12
theorem sc_is_list : FnScope ["value", "fewest", "most"] ["value", "fewest", "most"] (defScope s_is_list) := ⟨rfl, rfl, rfl, by decide +kernel, rfl, by decide +kernel, by decide +kernel⟩
set_option maxHeartbeats 1000000 in
theorem ok_is_list (TX : Txt K mg) (F : Txt1 K mg "is_list" s_is_list ["value", "fewest", "most"]) : DefOk P w K mg base (k + 1) "is_list" ["value", "fewest", "most"] (spIsList K) := by
  refine F.ok sc_is_list (fun vs H Q E h => ?_) (fun f cdv A outer s H vs Q E hr h => ?_)
  · first | (obtain ⟨rfl, _⟩ := h; rfl) | (obtain ⟨_, rfl, _⟩ := h; rfl) | (obtain ⟨_, _, rfl, _⟩ := h; rfl) | (obtain ⟨_, _, _, rfl, _⟩ := h; rfl) | (obtain ⟨_, _, _, _, rfl, _⟩ := h; rfl) | (obtain ⟨_, _, _, _, _, rfl, _⟩ := h; rfl) | (obtain ⟨_, _, _, _, _, _, rfl, _⟩ := h; rfl) | (obtain ⟨_, _, _, _, _, _, _, rfl, _⟩ := h; rfl) | (obtain ⟨_, _, _, _, _, _, _, _, rfl, _⟩ := h; rfl) | (obtain ⟨_, _, _, _, _, _, _, _, _, rfl, _⟩ := h; rfl)
  obtain ⟨x, lo, hi, o, rfl, ls, q⟩ := h
  refine ⟨_, pss_one (ps_ret (pe_and (pe_callB (call_isvK K (T := "list")) rfl TX.b_isinstance PyProof.Rows.boot_isinstance (pa_cons (pv 0) (pa_cons (pe_tyn rfl TX.b_list PyProof.Rows.boot_list) pa_nil))) (pe_one (pe_chain op_le op_le (pv 1) (pe_callB (call_lenK K) rfl TX.b_len PySem.boot_len (pa_cons (pv 0) pa_nil)) (pv 2))))), ?_⟩
  cases ls with
  | oth ty kt => exact ⟨_, rfl, _, _, _, rfl, ty, kt, _, rfl, q⟩
  | @lst a xs h1 =>
    refine ⟨_, rfl, _, _, _, rfl, .lst h1, kit_yes, _, rfl, ?_⟩
    refine ⟨_, rfl, _, rfl, _, _, rfl, .inl h1, _, _, rfl, rfl, _, rfl, ?_⟩
    refine ite2 (fun h0 => ?_) (fun h0 => ?_)
    · refine ⟨_, rfl, _, _, rfl, rfl, ?_⟩
      have e : inLen lo hi (some xs.length) = decide ((xs.length : Int) ≤ hi) := by show (decide _ && decide _) = _; rw [h0]; rfl
      rw [e] at q
      exact q
    · have e : inLen lo hi (some xs.length) = false := by show (decide _ && decide _) = _; rw [Bool.eq_false_iff.mpr h0]; rfl
      rw [e] at q
      exact q
noncomputable abbrev s_place_in_bar : Stmt := top 13
theorem sc_place_in_bar : FnScope ["day", "head", "bar"] ["day", "head", "bar"] (defScope s_place_in_bar) := ⟨rfl, rfl, rfl, by decide +kernel, rfl, by decide +kernel, by decide +kernel⟩
set_option maxHeartbeats 1000000 in
theorem ok_place_in_bar (TX : Txt K mg) (F : Txt1 K mg "place_in_bar" s_place_in_bar ["day", "head", "bar"]) : DefOk P w K mg base (k + 1) "place_in_bar" ["day", "head", "bar"] (spPlace K) := by
  refine F.ok sc_place_in_bar (fun vs H Q E h => ?_) (fun f cdv A outer s H vs Q E hr h => ?_)
  · first | (obtain ⟨rfl, _⟩ := h; rfl) | (obtain ⟨_, rfl, _⟩ := h; rfl) | (obtain ⟨_, _, rfl, _⟩ := h; rfl) | (obtain ⟨_, _, _, rfl, _⟩ := h; rfl) | (obtain ⟨_, _, _, _, rfl, _⟩ := h; rfl) | (obtain ⟨_, _, _, _, _, rfl, _⟩ := h; rfl) | (obtain ⟨_, _, _, _, _, _, rfl, _⟩ := h; rfl) | (obtain ⟨_, _, _, _, _, _, _, rfl, _⟩ := h; rfl) | (obtain ⟨_, _, _, _, _, _, _, _, rfl, _⟩ := h; rfl) | (obtain ⟨_, _, _, _, _, _, _, _, _, rfl, _⟩ := h; rfl)
  obtain ⟨d, a, c, xs, ys, rfl, ha, hc, hy, q⟩ := h
  refine ⟨_, pss_one (ps_ret (pe_op op_mod (pe_op op_sub (pv 0) (pe_callB (call_lenK K) rfl TX.b_len PySem.boot_len (pa_cons (pv 1) pa_nil))) (pe_callB (call_lenK K) rfl TX.b_len PySem.boot_len (pa_cons (pv 2) pa_nil)))), ?_⟩
  exact ⟨_, rfl, _, rfl, _, _, rfl, .inr ha, _, _, rfl, rfl, _, rfl, _, _, rfl, .inr hc, _, _, rfl, rfl, by (first | lia | omega), q⟩
noncomputable abbrev s_figure_of : Stmt := top 14
theorem sc_figure_of : FnScope ["pulse", "day", "head", "bar"] ["pulse", "day"] (defScope s_figure_of) := ⟨rfl, rfl, rfl, by decide +kernel, rfl, by decide +kernel, by decide +kernel⟩
set_option maxHeartbeats 1000000 in
theorem ok_figure_of (TX : Txt K mg) (D_place_in_bar : DefOk P w K mg base k "place_in_bar" ["day", "head", "bar"] (spPlace K)) (F : Txt1 K mg "figure_of" s_figure_of ["pulse", "day"]) : DefOk P w K mg base (k + 1) "figure_of" ["pulse", "day"] (spFigure K) := by
  refine F.ok sc_figure_of (fun vs H Q E h => ?_) (fun f cdv A outer s H vs Q E hr h => ?_)
  · first | (obtain ⟨rfl, _⟩ := h; rfl) | (obtain ⟨_, rfl, _⟩ := h; rfl) | (obtain ⟨_, _, rfl, _⟩ := h; rfl) | (obtain ⟨_, _, _, rfl, _⟩ := h; rfl) | (obtain ⟨_, _, _, _, rfl, _⟩ := h; rfl) | (obtain ⟨_, _, _, _, _, rfl, _⟩ := h; rfl) | (obtain ⟨_, _, _, _, _, _, rfl, _⟩ := h; rfl) | (obtain ⟨_, _, _, _, _, _, _, rfl, _⟩ := h; rfl) | (obtain ⟨_, _, _, _, _, _, _, _, rfl, _⟩ := h; rfl) | (obtain ⟨_, _, _, _, _, _, _, _, _, rfl, _⟩ := h; rfl)
  obtain ⟨p, d, h, b, rfl, ⟨a, c, hp, ha, hc⟩, hb, hd, q⟩ := h
  refine ⟨_, pss_cons (ps_set (i := 2) sc_figure_of.nd rfl (Or.inl rfl) (pe_ix (ix_tupK K) (pv 0) pe_int (fun _ _ => rfl)))
      (pss_cons (ps_set (i := 3) sc_figure_of.nd rfl (Or.inl rfl) (pe_ix (ix_tupK K) (pv 0) pe_int (fun _ _ => rfl)))
      (pss_cons (ps_if (pt_cmpR op_lt (pv 1) (pe_callB (call_lenK K) rfl TX.b_len PySem.boot_len (pa_cons (pv 2) pa_nil)) (nomark _)) (pss_one (ps_ret (pe_ix (ix_tupK K) (pv 2) (pv 1) (fun _ _ => rfl)))) pss_nil)
      (pss_one (ps_ret (pe_ix (ix_tupK K) (pv 3) (pe_callD D_place_in_bar hr rfl (pa_cons (pv 1) (pa_cons (pv 2) (pa_cons (pv 3) pa_nil)))) (fun _ _ => rfl)))))), ?_⟩
  refine ⟨_, rfl, _, _, _, _, rfl, rfl, hp, at0, _, rfl, _, _, _, _, rfl, rfl, hp, at1, _, rfl, _, rfl, _, _, rfl, .inr ha, _, _, rfl, rfl, _, rfl, ?_⟩
  rw [List.length_map]
  refine ite2 (fun e => ?_) (fun e => ?_)
  · have e : d < (h.length : Int) := of_decide_eq_true e
    refine ⟨_, rfl, _, rfl, _, _, _, _, rfl, rfl, ha, at_ints hd e, ?_⟩
    rw [fig_head (by (first | lia | omega))] at q
    exact q
  · have e : ¬ d < (h.length : Int) := fun z => e (decide_eq_true z)
    refine ⟨_, rfl, _, rfl, _, rfl, _, rfl, d, a, c, _, _, rfl, ha, hc, by rw [List.length_map]; exact hb, ?_⟩
    rw [List.length_map, List.length_map]
    refine ⟨_, _, _, _, rfl, rfl, hc, at_ints (bar_nn hb) (bar_lt hb), ?_⟩
    rw [bar_place (by (first | lia | omega)), ← fig_bar (by (first | lia | omega))]
    exact q
noncomputable abbrev s_places_of_ones : Stmt := top 15
theorem sc_places_of_ones : FnScope ["figures"] ["figures"] (defScope s_places_of_ones) := ⟨rfl, rfl, rfl, by decide +kernel, rfl, by decide +kernel, by decide +kernel⟩
noncomputable def cs_places_of_ones_0 : Scope := { kind := .function, names := [(".0", .local), ("place", .local), ("figures", .free)], isGenerator := false, isCoroutine := false, more := [] }
theorem co_places_of_ones_0 : CompOk (defScope s_places_of_ones) cs_places_of_ones_0 ["figures"] "place" ["figures"] [0] := ⟨rfl, by decide +kernel, by decide +kernel, by decide +kernel, by decide +kernel, by decide +kernel, rfl, by decide +kernel⟩
set_option maxHeartbeats 1000000 in
theorem ok_places_of_ones (TX : Txt K mg) (F : Txt1 K mg "places_of_ones" s_places_of_ones ["figures"]) : DefOk P w K mg base (k + 1) "places_of_ones" ["figures"] (spPlaces K) := by
  refine F.ok sc_places_of_ones (fun vs H Q E h => ?_) (fun f cdv A outer s H vs Q E hr h => ?_)
  · first | (obtain ⟨rfl, _⟩ := h; rfl) | (obtain ⟨_, rfl, _⟩ := h; rfl) | (obtain ⟨_, _, rfl, _⟩ := h; rfl) | (obtain ⟨_, _, _, rfl, _⟩ := h; rfl) | (obtain ⟨_, _, _, _, rfl, _⟩ := h; rfl) | (obtain ⟨_, _, _, _, _, rfl, _⟩ := h; rfl) | (obtain ⟨_, _, _, _, _, _, rfl, _⟩ := h; rfl) | (obtain ⟨_, _, _, _, _, _, _, rfl, _⟩ := h; rfl) | (obtain ⟨_, _, _, _, _, _, _, _, rfl, _⟩ := h; rfl) | (obtain ⟨_, _, _, _, _, _, _, _, _, rfl, _⟩ := h; rfl)
  obtain ⟨a, xs, rfl, ha, lx, k⟩ := h
  refine ⟨_, pss_one (ps_ret (pe_comp rfl co_places_of_ones_0 (pi_range1 rfl TX.b_range (pa_cons (pe_callB (call_lenK K) rfl TX.b_len PySem.boot_len (pa_cons (pv 0) pa_nil)) pa_nil)) (fun _ _ _ _ => (pts_one (pt_cmpR op_eq (pe_ix (ix_tupK K) (pv 1) (pv 0) (fun _ _ => rfl)) pe_int (nomark _)))) (fun _ _ _ _ => (pv 0)))), ?_⟩
  refine ⟨_, rfl, _, _, rfl, .inr ha, _, rfl, by rw [List.length_map]; (first | lia | omega), by rw [List.length_map]; (first | lia | omega), ?_⟩
  rw [List.length_map, Int.toNat_natCast]
  refine comp_range (small lx) (fun i => if xs.getD i 0 = 1 then some (vN i) else none) (fun i H' hi sm => ?_) (fun r H1 s1 n1 er => ?_)
  · refine ⟨_, rfl, _, rfl, _, _, _, _, rfl, rfl, sm.tup ha, at_ints (by (first | lia | omega)) (by (first | lia | omega)), rfl, _, rfl, ?_⟩
    rw [dec_vint, show (0 + (i : Int)).toNat = i by (first | lia | omega)]
    by_cases z : xs.getD i 0 = 1
    · rw [decide_eq_true z, if_pos z]
      refine iteT ⟨_, rfl, Same.refl _, ?_⟩
      rw [Int.zero_add]
    · rw [decide_eq_false z, if_neg z]
      exact iteF ⟨Same.refl _, rfl⟩
  · refine k r H1 s1 ?_
    rw [er]
    unfold ones daysTo
    rw [← filterMap_ite]
    congr 3
    refine funext fun i => ?_
    by_cases z : xs.getD i 0 = 1
    · rw [if_pos z, if_pos (decide_eq_true z)]
    · rw [if_neg z, if_neg (fun u => z (of_decide_eq_true u))]
noncomputable abbrev s_days_of_head : Stmt := top 16
theorem sc_days_of_head : FnScope ["pulse"] ["pulse"] (defScope s_days_of_head) := ⟨rfl, rfl, rfl, by decide +kernel, rfl, by decide +kernel, by decide +kernel⟩
set_option maxHeartbeats 1000000 in
theorem ok_days_of_head (TX : Txt K mg) (D_places_of_ones : DefOk P w K mg base k "places_of_ones" ["figures"] (spPlaces K)) (F : Txt1 K mg "days_of_head" s_days_of_head ["pulse"]) : DefOk P w K mg base (k + 1) "days_of_head" ["pulse"] (spDaysH K) := by
  refine F.ok sc_days_of_head (fun vs H Q E h => ?_) (fun f cdv A outer s H vs Q E hr h => ?_)
  · first | (obtain ⟨rfl, _⟩ := h; rfl) | (obtain ⟨_, rfl, _⟩ := h; rfl) | (obtain ⟨_, _, rfl, _⟩ := h; rfl) | (obtain ⟨_, _, _, rfl, _⟩ := h; rfl) | (obtain ⟨_, _, _, _, rfl, _⟩ := h; rfl) | (obtain ⟨_, _, _, _, _, rfl, _⟩ := h; rfl) | (obtain ⟨_, _, _, _, _, _, rfl, _⟩ := h; rfl) | (obtain ⟨_, _, _, _, _, _, _, rfl, _⟩ := h; rfl) | (obtain ⟨_, _, _, _, _, _, _, _, rfl, _⟩ := h; rfl) | (obtain ⟨_, _, _, _, _, _, _, _, _, rfl, _⟩ := h; rfl)
  obtain ⟨p, h, b, rfl, ⟨x, y, e1, e2, e3⟩, lh, k⟩ := h
  refine ⟨_, pss_one (ps_ret (pe_callD D_places_of_ones hr rfl (pa_cons (pe_ix (ix_tupK K) (pv 0) pe_int (fun _ _ => rfl)) pa_nil))), ?_⟩
  exact ⟨_, rfl, _, _, _, _, rfl, rfl, e1, at0, x, h, rfl, e2, lh, k⟩
noncomputable abbrev s_first_days_of_bar : Stmt := top 17
theorem sc_first_days_of_bar : FnScope ["pulse"] ["pulse"] (defScope s_first_days_of_bar) := ⟨rfl, rfl, rfl, by decide +kernel, rfl, by decide +kernel, by decide +kernel⟩
noncomputable def cs_first_days_of_bar_0 : Scope := { kind := .function, names := [(".0", .local), ("place", .local), ("len", .globalImplicit), ("pulse", .free)], isGenerator := false, isCoroutine := false, more := [] }
theorem co_first_days_of_bar_0 : CompOk (defScope s_first_days_of_bar) cs_first_days_of_bar_0 ["pulse"] "place" ["pulse"] [0] := ⟨rfl, by decide +kernel, by decide +kernel, by decide +kernel, by decide +kernel, by decide +kernel, rfl, by decide +kernel⟩
set_option maxHeartbeats 1000000 in
theorem ok_first_days_of_bar (TX : Txt K mg) (D_places_of_ones : DefOk P w K mg base k "places_of_ones" ["figures"] (spPlaces K)) (F : Txt1 K mg "first_days_of_bar" s_first_days_of_bar ["pulse"]) : DefOk P w K mg base (k + 1) "first_days_of_bar" ["pulse"] (spDaysB K) := by
  refine F.ok sc_first_days_of_bar (fun vs H Q E h => ?_) (fun f cdv A outer s H vs Q E hr h => ?_)
  · first | (obtain ⟨rfl, _⟩ := h; rfl) | (obtain ⟨_, rfl, _⟩ := h; rfl) | (obtain ⟨_, _, rfl, _⟩ := h; rfl) | (obtain ⟨_, _, _, rfl, _⟩ := h; rfl) | (obtain ⟨_, _, _, _, rfl, _⟩ := h; rfl) | (obtain ⟨_, _, _, _, _, rfl, _⟩ := h; rfl) | (obtain ⟨_, _, _, _, _, _, rfl, _⟩ := h; rfl) | (obtain ⟨_, _, _, _, _, _, _, rfl, _⟩ := h; rfl) | (obtain ⟨_, _, _, _, _, _, _, _, rfl, _⟩ := h; rfl) | (obtain ⟨_, _, _, _, _, _, _, _, _, rfl, _⟩ := h; rfl)
  obtain ⟨p, h, b, rfl, ⟨x, y, e1, e2, e3⟩, lb, k⟩ := h
  refine ⟨_, pss_one (ps_ret (pe_comp rfl co_first_days_of_bar_0 (pi_listK K (pe_callD D_places_of_ones hr rfl (pa_cons (pe_ix (ix_tupK K) (pv 0) pe_int (fun _ _ => rfl)) pa_nil))) (fun _ _ _ _ => pts_nil) (fun _ _ _ _ => (pe_op op_add (pe_callB (call_lenK K) rfl TX.b_len PySem.boot_len (pa_cons (pe_ix (ix_tupK K) (pv 1) pe_int (fun _ _ => rfl)) pa_nil)) (pv 0))))), ?_⟩
  refine ⟨_, rfl, _, _, _, _, rfl, rfl, e1, at1, y, b, rfl, e3, lb, fun r H1 s1 f1 => ⟨r, rfl, ⟨_, SqL.of f1⟩, ?_⟩⟩
  have ol := ones_le b
  refine comp_list (SqL.of f1) (small (by rw [List.length_map]; (first | lia | omega))) (fun v => match v with | .int i => some (.int ((h.length : Int) + i)) | _ => none) (fun v H' hv sm => ?_) (fun r2 H2 s2 n2 er => ?_)
  · obtain ⟨n, hn, rfl⟩ := List.mem_map.mp hv
    have s12 := s1.trans sm
    refine ⟨_, rfl, _, _, _, _, rfl, rfl, s12.tup e1, at0, _, _, rfl, .inr (s12.tup e2), _, rfl, _, _, rfl, rfl, Same.refl _, ?_⟩
    rw [List.length_map]
  · rw [fm_nats (fun n => h.length + n) _ (fun n => by show some (V.int ((h.length : Int) + (n : Int))) = some (V.int ((h.length + n : Nat) : Int)); congr 2)] at er
    exact k r2 H2 (s1.trans s2) er
noncomputable abbrev s_longer_head : Stmt := top 18
theorem sc_longer_head : FnScope ["one", "other"] ["one", "other"] (defScope s_longer_head) := ⟨rfl, rfl, rfl, by decide +kernel, rfl, by decide +kernel, by decide +kernel⟩
set_option maxHeartbeats 1000000 in
theorem ok_longer_head (TX : Txt K mg) (F : Txt1 K mg "longer_head" s_longer_head ["one", "other"]) : DefOk P w K mg base (k + 1) "longer_head" ["one", "other"] (spLonger K) := by
  refine F.ok sc_longer_head (fun vs H Q E h => ?_) (fun f cdv A outer s H vs Q E hr h => ?_)
  · first | (obtain ⟨rfl, _⟩ := h; rfl) | (obtain ⟨_, rfl, _⟩ := h; rfl) | (obtain ⟨_, _, rfl, _⟩ := h; rfl) | (obtain ⟨_, _, _, rfl, _⟩ := h; rfl) | (obtain ⟨_, _, _, _, rfl, _⟩ := h; rfl) | (obtain ⟨_, _, _, _, _, rfl, _⟩ := h; rfl) | (obtain ⟨_, _, _, _, _, _, rfl, _⟩ := h; rfl) | (obtain ⟨_, _, _, _, _, _, _, rfl, _⟩ := h; rfl) | (obtain ⟨_, _, _, _, _, _, _, _, rfl, _⟩ := h; rfl) | (obtain ⟨_, _, _, _, _, _, _, _, _, rfl, _⟩ := h; rfl)
  obtain ⟨p, q, h, b, h', b', rfl, ⟨x, y, e1, e2, e3⟩, ⟨x', y', e1', e2', e3'⟩, k⟩ := h
  refine ⟨_, pss_one (ps_ret (pe_callB (call_max2 rfl) rfl TX.b_max PyProof.Rows.boot_max (pa_cons (pe_callB (call_lenK K) rfl TX.b_len PySem.boot_len (pa_cons (pe_ix (ix_tupK K) (pv 0) pe_int (fun _ _ => rfl)) pa_nil)) (pa_cons (pe_callB (call_lenK K) rfl TX.b_len PySem.boot_len (pa_cons (pe_ix (ix_tupK K) (pv 1) pe_int (fun _ _ => rfl)) pa_nil)) pa_nil)))), ?_⟩
  refine ⟨_, rfl, _, _, _, _, rfl, rfl, e1, at0, _, _, rfl, .inr e2, _, rfl, _, _, _, _, rfl, rfl, e1', at0, _, _, rfl, .inr e2', _, _, rfl, ?_⟩
  have mx : (if (((h'.map V.int).length : Nat) : Int) > (((h.map V.int).length : Nat) : Int) then (((h'.map V.int).length : Nat) : Int) else (((h.map V.int).length : Nat) : Int)) = ((max h.length h'.length : Nat) : Int) := by
    rw [List.length_map, List.length_map]
    split <;> (first | lia | omega)
  rw [mx]
  exact k
noncomputable abbrev s_common_bar : Stmt := top 19
theorem sc_common_bar : FnScope ["one", "other", "length"] ["one", "other"] (defScope s_common_bar) := ⟨rfl, rfl, rfl, by decide +kernel, rfl, by decide +kernel, by decide +kernel⟩
set_option maxHeartbeats 1000000 in
theorem ok_common_bar (TX : Txt K mg) (F : Txt1 K mg "common_bar" s_common_bar ["one", "other"]) : DefOk P w K mg base (k + 1) "common_bar" ["one", "other"] (spComBar K) := by
  refine F.ok sc_common_bar (fun vs H Q E h => ?_) (fun f cdv A outer s H vs Q E hr h => ?_)
  · first | (obtain ⟨rfl, _⟩ := h; rfl) | (obtain ⟨_, rfl, _⟩ := h; rfl) | (obtain ⟨_, _, rfl, _⟩ := h; rfl) | (obtain ⟨_, _, _, rfl, _⟩ := h; rfl) | (obtain ⟨_, _, _, _, rfl, _⟩ := h; rfl) | (obtain ⟨_, _, _, _, _, rfl, _⟩ := h; rfl) | (obtain ⟨_, _, _, _, _, _, rfl, _⟩ := h; rfl) | (obtain ⟨_, _, _, _, _, _, _, rfl, _⟩ := h; rfl) | (obtain ⟨_, _, _, _, _, _, _, _, rfl, _⟩ := h; rfl) | (obtain ⟨_, _, _, _, _, _, _, _, _, rfl, _⟩ := h; rfl)
  obtain ⟨p, q, h, b, h', b', rfl, ⟨x, y, e1, e2, e3⟩, ⟨x', y', e1', e2', e3'⟩, hx, hy, k⟩ := h
  refine ⟨_, pss_cons (ps_set (i := 2) sc_common_bar.nd rfl (Or.inl rfl) (pe_callB (call_lenK K) rfl TX.b_len PySem.boot_len (pa_cons (pe_ix (ix_tupK K) (pv 0) pe_int (fun _ _ => rfl)) pa_nil)))
      (pss_cons (ps_while PassesOwn.never (pt_cmpR op_ne (pe_op op_mod (pv 2) (pe_callB (call_lenK K) rfl TX.b_len PySem.boot_len (pa_cons (pe_ix (ix_tupK K) (pv 1) pe_int (fun _ _ => rfl)) pa_nil))) pe_int (nomark _)) (pss_one (ps_set (i := 2) sc_common_bar.nd rfl (Or.inl rfl) (pe_op op_add (pv 2) (pe_callB (call_lenK K) rfl TX.b_len PySem.boot_len (pa_cons (pe_ix (ix_tupK K) (pv 0) pe_int (fun _ _ => rfl)) pa_nil))))))
      (pss_one (ps_ret (pv 2)))), ?_⟩
  refine ⟨_, rfl, _, _, _, _, rfl, rfl, e1, at1, _, _, rfl, .inr e3, ?_⟩
  have z1 : (((b.map V.int).length : Nat) : Int) = (b.length : Int) := by rw [List.length_map]
  have z2 : (((b'.map V.int).length : Nat) : Int) = (b'.length : Int) := by rw [List.length_map]
  rw [z1]
  refine ⟨fun m σ H' => ∃ i : Nat, σ = [some (.ref p), some (.ref q), some (.int ((b.length * i : Nat) : Int))] ∧ H' = H ∧ 0 < i ∧ i ≤ b'.length ∧ m = b'.length - i, ⟨_, 1, by rw [Nat.mul_one]; rfl, rfl, by decide, hy, rfl⟩, ?_⟩
  rintro m σ H' ⟨i, rfl, rfl, h0, h1, rfl⟩
  refine ⟨_, rfl, _, rfl, _, _, _, _, rfl, rfl, e1', at1, _, _, rfl, .inr e3', _, _, rfl, rfl, posl hy, rfl, _, rfl, ?_⟩
  dsimp only
  rw [dec_vint, z2]
  by_cases hm : ((b.length * i : Nat) : Int) % (b'.length : Int) = 0
  · rw [decide_eq_true hm]
    refine iteF ⟨_, rfl, k (b.length * i) (Nat.mul_pos hx h0) ⟨i, rfl⟩ ?_ (Nat.mul_le_mul_left _ h1)⟩
    rw [← Int.natCast_emod] at hm
    exact Nat.dvd_of_mod_eq_zero (by (first | lia | omega))
  · rw [decide_eq_false hm]
    have hlt : i < b'.length := by
      rcases Nat.lt_or_eq_of_le h1 with z | z
      · exact z
      · refine absurd ?_ hm
        rw [z, ← Int.natCast_emod, Nat.mul_mod_left]; rfl
    refine iteT ⟨_, fun _ _ z => z, ?_⟩
    refine ⟨_, rfl, _, rfl, _, _, _, _, rfl, rfl, e1, at1, _, _, rfl, .inr e3, _, _, rfl, rfl, b'.length - (i + 1), by (first | lia | omega), i + 1, ?_, rfl, by (first | lia | omega), hlt, rfl⟩
    rw [show ((b.length * (i + 1) : Nat) : Int) = ((b.length * i : Nat) : Int) + (((b.map V.int).length : Nat) : Int) by rw [Nat.mul_add, Nat.mul_one, Int.natCast_add, List.length_map]]
    rfl
noncomputable abbrev s_shortest_bar : Stmt := top 20
theorem sc_shortest_bar : FnScope ["bar", "length"] ["bar"] (defScope s_shortest_bar) := ⟨rfl, rfl, rfl, by decide +kernel, rfl, by decide +kernel, by decide +kernel⟩
set_option maxHeartbeats 1000000 in
theorem ok_shortest_bar (TX : Txt K mg) (F : Txt1 K mg "shortest_bar" s_shortest_bar ["bar"]) : DefOk P w K mg base (k + 1) "shortest_bar" ["bar"] (spShort K) := by
  refine F.ok sc_shortest_bar (fun vs H Q E h => ?_) (fun f cdv A outer s H vs Q E hr h => ?_)
  · first | (obtain ⟨rfl, _⟩ := h; rfl) | (obtain ⟨_, rfl, _⟩ := h; rfl) | (obtain ⟨_, _, rfl, _⟩ := h; rfl) | (obtain ⟨_, _, _, rfl, _⟩ := h; rfl) | (obtain ⟨_, _, _, _, rfl, _⟩ := h; rfl) | (obtain ⟨_, _, _, _, _, rfl, _⟩ := h; rfl) | (obtain ⟨_, _, _, _, _, _, rfl, _⟩ := h; rfl) | (obtain ⟨_, _, _, _, _, _, _, rfl, _⟩ := h; rfl) | (obtain ⟨_, _, _, _, _, _, _, _, rfl, _⟩ := h; rfl) | (obtain ⟨_, _, _, _, _, _, _, _, _, rfl, _⟩ := h; rfl)
  have hu := hr.units
  obtain ⟨c, b, rfl, hc, hb, lb, q⟩ := h
  refine ⟨_, pss_cons (ps_for PassesOwn.never rfl (pi_range2 rfl TX.b_range (pa_cons pe_int (pa_cons (pe_callB (call_lenK K) rfl TX.b_len PySem.boot_len (pa_cons (pv 0) pa_nil)) pa_nil))) (pg_name (i := 1) sc_shortest_bar.nd rfl (Or.inl rfl)) (pss_one (ps_if (PW.pt (pw_and (pt_cmpR op_eq (pe_op op_mod (pe_callB (call_lenK K) rfl TX.b_len PySem.boot_len (pa_cons (pv 0) pa_nil)) (pv 1)) pe_int (nomark _)) (pw_and1 (pt_cmpR (op_eqDK K hu) (pe_op (op_repK K) (pe_slice (sl_tupK K) (pv 0) po_none (po_some (pv 1))) (pe_op op_fdiv (pe_callB (call_lenK K) rfl TX.b_len PySem.boot_len (pa_cons (pv 0) pa_nil)) (pv 1))) (pv 0) (nomark _))))) (pss_one (ps_ret (pe_slice (sl_tupK K) (pv 0) po_none (po_some (pv 1))))) pss_nil)))
      (pss_one (ps_ret (pv 0))), ?_⟩
  have hz : (((b.map V.int).length : Nat) : Int) = (b.length : Int) := by rw [List.length_map]
  refine ⟨_, rfl, _, _, rfl, .inr hc, 1, _, rfl, ⟨by decide, by decide, by (first | lia | omega), by (first | lia | omega)⟩, for_range (lo := 1) (fun i σ H2 => ∃ v : Option V, σ = [some (.ref c), v] ∧ Same H H2 ∧ ∀ j, 0 < j → j < i + 1 → b.length % j = 0 → ¬ Again b j) ⟨none, rfl, Same.refl _, fun j h1 h2 => by (first | lia | omega)⟩ ?_ ?_⟩
  · rintro i σ H2 hi ⟨v, rfl, s2, least⟩
    rw [hz] at hi
    have hi2 : i + 1 < b.length := by (first | lia | omega)
    have c2 := s2.tup hc
    have ei : (1 : Int) + (i : Int) = ((i + 1 : Nat) : Int) := by (first | lia | omega)
    rw [ei]
    refine ⟨_, rfl, _, _, rfl, .inr c2, _, rfl, _, _, rfl, rfl, by (first | lia | omega), rfl, _, rfl, ?_⟩
    rw [hz, dec_vint]
    have nx : (b.length % (i + 1) = 0 → ¬ Again b (i + 1)) → ∀ j, 0 < j → j < i + 1 + 1 → b.length % j = 0 → ¬ Again b j := fun no j h1 h2 h3 => by
      by_cases z : j = i + 1
      · subst z; exact no h3
      · exact least j h1 (by (first | lia | omega)) h3
    refine ite2 (fun hm => ?_) (fun hm => ?_)
    · have hm : b.length % (i + 1) = 0 := by
        have := of_decide_eq_true hm
        rw [← Int.natCast_emod] at this
        (first | lia | omega)
      have hr := rep_iff (b := b) (n := i + 1) (by (first | lia | omega)) (by (first | lia | omega)) hm
      have fd : (b.length : Int) / ((i + 1 : Nat) : Int) = ((b.length / (i + 1) : Nat) : Int) := by rw [Int.natCast_ediv]
      have dvm : (i + 1) * (b.length / (i + 1)) = b.length := Nat.mul_div_cancel' (Nat.dvd_of_mod_eq_zero hm)
      have dle : b.length / (i + 1) ≤ b.length := Nat.div_le_self _ _
      generalize b.length / (i + 1) = dd at hr fd dvm dle
      refine ⟨_, rfl, _, rfl, _, rfl, c, _, rfl, c2, fun p1 H4 s4 e4 => ?_⟩
      rw [cut_to] at e4
      refine ⟨_, rfl, _, _, rfl, .inr (s4.tup c2), _, rfl, _, _, rfl, rfl, ⟨by (first | lia | omega), by (first | lia | omega)⟩, p1, _, _, rfl, rfl, e4, by rw [hz, fd]; (first | lia | omega), by rw [hz, fd]; (first | lia | omega), ?_, fun p2 H5 s5 e5 => ?_⟩
      · rw [hz, List.length_map, fd, Int.toNat_natCast, List.length_take, Nat.min_eq_left (by (first | lia | omega)), dvm]; exact Nat.le_trans lb (by decide)
      rw [hz, fd, Int.toNat_natCast, rep_ints] at e5
      have c5 := s5.tup (s4.tup c2)
      refine ⟨_, rfl, _, _, Rep.intsT e5, Rep.intsT c5, _, rfl, ?_⟩
      rw [eqv_dT]
      refine ite2 (fun he => ?_) (fun he => ?_)
      · have he := of_decide_eq_true he
        refine ⟨_, rfl, _, rfl, _, rfl, c, _, rfl, c5, fun p3 H6 s6 e6 => ?_⟩
        rw [cut_to] at e6
        exact q p3 (i + 1) H6 (s2.trans (s4.trans (s5.trans s6))) e6 ⟨by (first | lia | omega), by (first | lia | omega), hm, hr.mp he, least⟩
      · have he : ¬ _ := fun z => he (decide_eq_true z)
        exact ⟨_, rfl, s2.trans (s4.trans s5), nx fun _ ag => he (hr.mpr ag)⟩
    · have hm : b.length % (i + 1) ≠ 0 := fun z => hm (decide_eq_true (by rw [← Int.natCast_emod, z]; rfl))
      exact iteF ⟨_, rfl, s2, nx fun z => absurd z hm⟩
  · rintro σ H2 ⟨v, rfl, s2, least⟩
    rw [hz] at least
    refine ⟨_, rfl, q c b.length H2 s2 (by rw [List.take_length]; exact s2.tup hc) ⟨hb, Nat.le_refl _, Nat.mod_self _, fun i hi => by (first | lia | omega), fun j h1 h2 h3 => least j h1 (by (first | lia | omega)) h3⟩⟩
noncomputable abbrev s_needed_of_head : Stmt := top 21
theorem sc_needed_of_head : FnScope ["head", "bar", "needed"] ["head", "bar"] (defScope s_needed_of_head) := ⟨rfl, rfl, rfl, by decide +kernel, rfl, by decide +kernel, by decide +kernel⟩
set_option maxHeartbeats 1000000 in
theorem ok_needed_of_head (TX : Txt K mg) (D_place_in_bar : DefOk P w K mg base k "place_in_bar" ["day", "head", "bar"] (spPlace K)) (F : Txt1 K mg "needed_of_head" s_needed_of_head ["head", "bar"]) : DefOk P w K mg base (k + 1) "needed_of_head" ["head", "bar"] (spNeeded K) := by
  refine F.ok sc_needed_of_head (fun vs H Q E h => ?_) (fun f cdv A outer s H vs Q E hr h => ?_)
  · first | (obtain ⟨rfl, _⟩ := h; rfl) | (obtain ⟨_, rfl, _⟩ := h; rfl) | (obtain ⟨_, _, rfl, _⟩ := h; rfl) | (obtain ⟨_, _, _, rfl, _⟩ := h; rfl) | (obtain ⟨_, _, _, _, rfl, _⟩ := h; rfl) | (obtain ⟨_, _, _, _, _, rfl, _⟩ := h; rfl) | (obtain ⟨_, _, _, _, _, _, rfl, _⟩ := h; rfl) | (obtain ⟨_, _, _, _, _, _, _, rfl, _⟩ := h; rfl) | (obtain ⟨_, _, _, _, _, _, _, _, rfl, _⟩ := h; rfl) | (obtain ⟨_, _, _, _, _, _, _, _, _, rfl, _⟩ := h; rfl)
  obtain ⟨a, c, h, s', rfl, ha, hc, hs, q⟩ := h
  refine ⟨_, pss_cons (ps_set (i := 2) sc_needed_of_head.nd rfl (Or.inl rfl) (pe_callB (call_lenK K) rfl TX.b_len PySem.boot_len (pa_cons (pv 0) pa_nil)))
      (pss_cons (ps_while PassesOwn.never (PW.pt (pw_and (pt_cmpR op_gt (pv 2) pe_int (nomark _)) (pw_and1 (pt_cmpR op_eq (pe_ix (ix_tupK K) (pv 0) (pe_op op_sub (pv 2) pe_int) (fun _ _ => rfl)) (pe_ix (ix_tupK K) (pv 1) (pe_callD D_place_in_bar hr rfl (pa_cons (pe_op op_sub (pv 2) pe_int) (pa_cons (pv 0) (pa_cons (pv 1) pa_nil)))) (fun _ _ => rfl)) (nomark _))))) (pss_one (ps_set (i := 2) sc_needed_of_head.nd rfl (Or.inl rfl) (pe_op op_sub (pv 2) pe_int))))
      (pss_one (ps_ret (pv 2)))), ?_⟩
  refine ⟨_, rfl, _, _, rfl, .inr ha, ?_⟩
  rw [List.length_map]
  refine ⟨fun m σ H' => ∃ kk : Nat, σ = [some (.ref a), some (.ref c), some (.int ((h.length : Int) - (kk : Int)))] ∧ H' = H ∧ kk ≤ h.length ∧ m = h.length - kk ∧
    ∀ j, h.length - kk ≤ j → j < h.length → h.getD j 0 = s'.getD ((((j : Int) - (h.length : Int)) % (s'.length : Int)).toNat) 0, ⟨_, 0, by rw [show (h.length : Int) - ((0 : Nat) : Int) = (h.length : Int) by (first | lia | omega)]; rfl, rfl, Nat.zero_le _, rfl, fun j h1 h2 => by (first | lia | omega)⟩, ?_⟩
  rintro m σ H' ⟨kk, rfl, rfl, hk, rfl, hj⟩
  refine ⟨_, rfl, _, _, rfl, rfl, _, rfl, ?_⟩
  refine ite2 (fun hp => ?_) (fun hp => ?_)
  · have hp : (0 : Int) < (h.length : Int) - (kk : Int) := of_decide_eq_true hp
    have hkl : kk < h.length := by (first | lia | omega)
    have i1 : (h.length : Int) - (kk : Int) - 1 < (h.length : Int) := by (first | lia | omega)
    refine ⟨_, rfl, _, rfl, _, _, rfl, rfl, a, _, _, _, rfl, rfl, ha, at_ints (by (first | lia | omega)) i1, _, rfl, _, rfl, _, _, rfl, rfl, _, rfl, _, rfl, _, a, c, _, _, rfl, ha, hc, by rw [List.length_map]; exact hs, ?_⟩
    rw [List.length_map, List.length_map]
    refine ⟨c, _, _, _, rfl, rfl, hc, at_ints (bar_nn hs) (bar_lt hs), rfl, _, rfl, ?_⟩
    rw [dec_vint]
    have t1 : ((h.length : Int) - (kk : Int) - 1).toNat = h.length - kk - 1 := by (first | lia | omega)
    have t2 : (h.length : Int) - (kk : Int) - 1 - (h.length : Int) = -1 - (kk : Int) := by (first | lia | omega)
    rw [t1, t2]
    refine ite2 (fun eq => ?_) (fun neq => ?_)
    · have eq := of_decide_eq_true eq
      refine ⟨_, fun _ _ z => z, ?_⟩
      refine ⟨_, rfl, _, _, rfl, rfl, h.length - (kk + 1), by (first | lia | omega), kk + 1, ?_, rfl, by (first | lia | omega), rfl, fun j j1 j2 => ?_⟩
      · rw [show (h.length : Int) - ((kk + 1 : Nat) : Int) = (h.length : Int) - (kk : Int) - 1 by (first | lia | omega)]; rfl
      · by_cases z : h.length - kk ≤ j
        · exact hj j z j2
        · have z : j = h.length - kk - 1 := by (first | lia | omega)
          have e : (j : Int) - (h.length : Int) = -1 - (kk : Int) := by (first | lia | omega)
          rw [e, z]
          exact eq
    · have neq : ¬ _ := fun z => neq (decide_eq_true z)
      exact ⟨_, rfl, q kk hk hj fun _ => neq⟩
  · have hp : ¬ (0 : Int) < (h.length : Int) - (kk : Int) := fun z => hp (decide_eq_true z)
    exact iteF ⟨_, rfl, q kk hk hj fun z => absurd z (by (first | lia | omega))⟩
noncomputable abbrev s_tight : Stmt := top 22
theorem sc_tight : FnScope ["head", "bar", "short", "needed", "first"] ["head", "bar"] (defScope s_tight) := ⟨rfl, rfl, rfl, by decide +kernel, rfl, by decide +kernel, by decide +kernel⟩
set_option maxHeartbeats 1000000 in
theorem ok_tight (TX : Txt K mg) (D_shortest_bar : DefOk P w K mg base k "shortest_bar" ["bar"] (spShort K)) (D_needed_of_head : DefOk P w K mg base k "needed_of_head" ["head", "bar"] (spNeeded K)) (D_place_in_bar : DefOk P w K mg base k "place_in_bar" ["day", "head", "bar"] (spPlace K)) (F : Txt1 K mg "tight" s_tight ["head", "bar"]) : DefOk P w K mg base (k + 1) "tight" ["head", "bar"] (spTight K) := by
  refine F.ok sc_tight (fun vs H Q E h => ?_) (fun f cdv A outer s H vs Q E hr h => ?_)
  · first | (obtain ⟨rfl, _⟩ := h; rfl) | (obtain ⟨_, rfl, _⟩ := h; rfl) | (obtain ⟨_, _, rfl, _⟩ := h; rfl) | (obtain ⟨_, _, _, rfl, _⟩ := h; rfl) | (obtain ⟨_, _, _, _, rfl, _⟩ := h; rfl) | (obtain ⟨_, _, _, _, _, rfl, _⟩ := h; rfl) | (obtain ⟨_, _, _, _, _, _, rfl, _⟩ := h; rfl) | (obtain ⟨_, _, _, _, _, _, _, rfl, _⟩ := h; rfl) | (obtain ⟨_, _, _, _, _, _, _, _, rfl, _⟩ := h; rfl) | (obtain ⟨_, _, _, _, _, _, _, _, _, rfl, _⟩ := h; rfl)
  obtain ⟨a, c, h, b, rfl, ha, hc, hb, lh, lb, q⟩ := h
  refine ⟨_, pss_cons (ps_set (i := 2) sc_tight.nd rfl (Or.inl rfl) (pe_callD D_shortest_bar hr rfl (pa_cons (pv 1) pa_nil)))
      (pss_cons (ps_set (i := 3) sc_tight.nd rfl (Or.inl rfl) (pe_callD D_needed_of_head hr rfl (pa_cons (pv 0) (pa_cons (pv 2) pa_nil))))
      (pss_cons (ps_set (i := 4) sc_tight.nd rfl (Or.inl rfl) (pe_callD D_place_in_bar hr rfl (pa_cons (pv 3) (pa_cons (pv 0) (pa_cons (pv 2) pa_nil)))))
      (pss_one (ps_ret (pe_tup (pa_cons (pe_slice (sl_tupK K) (pv 0) po_none (po_some (pv 3))) (pa_cons (pe_op (op_catK K) (pe_slice (sl_tupK K) (pv 2) (po_some (pv 4)) po_none) (pe_slice (sl_tupK K) (pv 2) po_none (po_some (pv 4)))) pa_nil))))))), ?_⟩
  refine ⟨_, rfl, c, b, rfl, hc, hb, lb, fun p n H1 s1 e1 sh => ?_⟩
  have ln : (b.take n).length = n := by have := sh.le; rw [List.length_take]; (first | lia | omega)
  have a1 := s1.tup ha
  refine ⟨_, rfl, _, rfl, a, p, h, b.take n, rfl, a1, e1, by rw [ln]; exact sh.pos, fun kk hk hj stop => ?_⟩
  rw [ln] at hj stop
  refine ⟨_, rfl, _, rfl, _, rfl, _, a, p, _, _, rfl, a1, e1, by rw [List.length_map, ln]; exact sh.pos, ?_⟩
  rw [List.length_map, List.length_map, ln]
  have e0 : (h.length : Int) - (kk : Int) - (h.length : Int) = -(kk : Int) := by (first | lia | omega)
  rw [e0]
  have f1 := Int.emod_nonneg (-(kk : Int)) (show (n : Int) ≠ 0 by have := sh.pos; (first | lia | omega))
  have f2 := Int.emod_lt_of_pos (-(kk : Int)) (show 0 < (n : Int) by have := sh.pos; (first | lia | omega))
  have ef : (-(kk : Int)) % (n : Int) = (((-(kk : Int)) % (n : Int)).toNat : Int) := by (first | lia | omega)
  have eh : (h.length : Int) - (kk : Int) = ((h.length - kk : Nat) : Int) := by (first | lia | omega)
  rw [ef, eh]
  refine ⟨_, rfl, _, rfl, _, rfl, a, _, rfl, a1, fun p1 H2 s2 e2 => ?_⟩
  rw [cut_to] at e2
  refine ⟨_, rfl, _, rfl, _, rfl, p, _, rfl, s2.tup e1, fun p2 H3 s3 e3 => ?_⟩
  rw [cut_from] at e3
  refine ⟨_, rfl, _, rfl, _, rfl, p, _, rfl, s3.tup (s2.tup e1), fun p3 H4 s4 e4 => ?_⟩
  rw [cut_to] at e4
  refine ⟨p2, p3, _, _, rfl, rfl, s4.tup e3, e4, ?_, fun p4 H5 s5 e5 => ⟨smallb, fun p5 hp5 => ?_⟩⟩
  · rw [List.length_map, List.length_map, List.length_drop, ln, List.length_take, ln]
    exact Nat.le_trans (show n - _ + min _ n ≤ 400000 by have := sh.le; (first | lia | omega)) (by decide)
  rw [← List.map_append, turn_cut (by rw [ln]; exact sh.pos) (by rw [ln])] at e5
  have t := tight_end sh hk hj stop
  exact q p5 _ _ _ (s1.trans (s2.trans (s3.trans (s4.trans (s5.trans (Same.new hp5 _)))))) (Pl.mk hp5 (s5.tup (s4.tup (s3.tup e2))) e5) t.1 t.2
noncomputable abbrev s_told : Stmt := top 23
theorem sc_told : FnScope ["head", "bar", "pulse"] ["head", "bar"] (defScope s_told) := ⟨rfl, rfl, rfl, by decide +kernel, rfl, by decide +kernel, by decide +kernel⟩
set_option maxHeartbeats 1000000 in
theorem ok_told (TX : Txt K mg) (D_tight : DefOk P w K mg base k "tight" ["head", "bar"] (spTight K)) (F : Txt1 K mg "told" s_told ["head", "bar"]) : DefOk P w K mg base (k + 1) "told" ["head", "bar"] (spTold K) := by
  refine F.ok sc_told (fun vs H Q E h => ?_) (fun f cdv A outer s H vs Q E hr h => ?_)
  · first | (obtain ⟨rfl, _⟩ := h; rfl) | (obtain ⟨_, rfl, _⟩ := h; rfl) | (obtain ⟨_, _, rfl, _⟩ := h; rfl) | (obtain ⟨_, _, _, rfl, _⟩ := h; rfl) | (obtain ⟨_, _, _, _, rfl, _⟩ := h; rfl) | (obtain ⟨_, _, _, _, _, rfl, _⟩ := h; rfl) | (obtain ⟨_, _, _, _, _, _, rfl, _⟩ := h; rfl) | (obtain ⟨_, _, _, _, _, _, _, rfl, _⟩ := h; rfl) | (obtain ⟨_, _, _, _, _, _, _, _, rfl, _⟩ := h; rfl) | (obtain ⟨_, _, _, _, _, _, _, _, _, rfl, _⟩ := h; rfl)
  obtain ⟨t_LONGEST_HEAD, g_LONGEST_HEAD⟩ := TX.g_LONGEST_HEAD
  obtain ⟨t_LONGEST_BAR, g_LONGEST_BAR⟩ := TX.g_LONGEST_BAR
  obtain ⟨a, c, h, b, rfl, ha, hc, hb, lh, lb, nl, q⟩ := h
  refine ⟨_, pss_cons (ps_set (i := 2) sc_told.nd rfl (Or.inl rfl) (pe_callD D_tight hr rfl (pa_cons (pe_callTy (call_tupleK K) rfl TX.b_tuple PyProof.Rows.boot_tuple (pa_cons (pv 0) pa_nil)) (pa_cons (pe_callTy (call_tupleK K) rfl TX.b_tuple PyProof.Rows.boot_tuple (pa_cons (pv 1) pa_nil)) pa_nil))))
      (pss_cons (ps_if (pt_cmpR op_gt (pe_callB (call_lenK K) rfl TX.b_len PySem.boot_len (pa_cons (pe_ix (ix_tupK K) (pv 2) pe_int (fun _ _ => rfl)) pa_nil)) (pe_glob (v := .int 400) rfl g_LONGEST_HEAD ⟨_, rfl⟩) (nomark _)) (pss_one (ps_never)) pss_nil)
      (pss_cons (ps_if (pt_cmpR op_gt (pe_callB (call_lenK K) rfl TX.b_len PySem.boot_len (pa_cons (pe_ix (ix_tupK K) (pv 2) pe_int (fun _ _ => rfl)) pa_nil)) (pe_glob (v := .int 200) rfl g_LONGEST_BAR ⟨_, rfl⟩) (nomark _)) (pss_one (ps_never)) pss_nil)
      (pss_one (ps_ret (pv 2))))), ?_⟩
  refine ⟨_, rfl, a, _, rfl, ha, fun a' H1 s1 e1 => ⟨_, rfl, c, _, rfl, hc.same s1, fun c' H2 s2 e2 => ?_⟩⟩
  refine ⟨a', c', h, b, rfl, s2.tup e1, e2, hb, lh, lb, fun p h' b' H3 s3 e3 t al => ?_⟩
  obtain ⟨x, y, f1, f2, f3⟩ := id e3
  obtain ⟨m1, m2⟩ := nl h' b' t al
  refine ⟨_, rfl, _, _, _, _, rfl, rfl, f1, at0, _, _, rfl, .inr f2, _, _, rfl, rfl, _, rfl, ?_⟩
  refine iteN (by rw [List.length_map]; intro z; have := of_decide_eq_true z; (first | lia | omega)) ?_
  refine ⟨_, rfl, _, _, _, _, rfl, rfl, f1, at1, _, _, rfl, .inr f3, _, _, rfl, rfl, _, rfl, ?_⟩
  refine iteN (by rw [List.length_map]; intro z; have := of_decide_eq_true z; (first | lia | omega)) ?_
  exact ⟨_, rfl, q p h' b' H3 (s1.trans (s2.trans s3)) e3 t al⟩
noncomputable abbrev s_never : Stmt := top 25
theorem sc_never : FnScope [] [] (defScope s_never) := ⟨rfl, rfl, rfl, by decide +kernel, rfl, by decide +kernel, by decide +kernel⟩
set_option maxHeartbeats 1000000 in
theorem ok_never (TX : Txt K mg) (F : Txt1 K mg "never" s_never []) : DefOk P w K mg base (k + 1) "never" [] (spConst K [] [0]) := by
  refine F.ok sc_never (fun vs H Q E h => ?_) (fun f cdv A outer s H vs Q E hr h => ?_)
  · first | (obtain ⟨rfl, _⟩ := h; rfl) | (obtain ⟨_, rfl, _⟩ := h; rfl) | (obtain ⟨_, _, rfl, _⟩ := h; rfl) | (obtain ⟨_, _, _, rfl, _⟩ := h; rfl) | (obtain ⟨_, _, _, _, rfl, _⟩ := h; rfl) | (obtain ⟨_, _, _, _, _, rfl, _⟩ := h; rfl) | (obtain ⟨_, _, _, _, _, _, rfl, _⟩ := h; rfl) | (obtain ⟨_, _, _, _, _, _, _, rfl, _⟩ := h; rfl) | (obtain ⟨_, _, _, _, _, _, _, _, rfl, _⟩ := h; rfl) | (obtain ⟨_, _, _, _, _, _, _, _, _, rfl, _⟩ := h; rfl)
  obtain ⟨rfl, q⟩ := h
  refine ⟨_, pss_one (ps_ret (pe_tup (pa_cons (pe_tup pa_nil) (pa_cons (pe_tup (pa_cons pe_int pa_nil)) pa_nil)))), ?_⟩
  refine ⟨Nat.zero_le _, fun a ha => ⟨smallb, fun c hc => ⟨smallb, fun p hp => ?_⟩⟩⟩
  have s1 := Same.new ha (.tup [])
  have s2 := Same.new hc (.tup [.int 0])
  have s3 := Same.new hp (.tup [.ref a, .ref c])
  exact q p _ (s1.trans (s2.trans s3)) ⟨a, c, SqT.of upd_same, s3.tup (s2.tup (SqT.of upd_same)), s3.tup (SqT.of upd_same)⟩
noncomputable abbrev s_figure_together : Stmt := top 28
theorem sc_figure_together : FnScope ["one", "other", "wanted", "day"] ["one", "other", "wanted", "day"] (defScope s_figure_together) := ⟨rfl, rfl, rfl, by decide +kernel, rfl, by decide +kernel, by decide +kernel⟩
set_option maxHeartbeats 1000000 in
theorem ok_figure_together (TX : Txt K mg) (D_figure_of : DefOk P w K mg base k "figure_of" ["pulse", "day"] (spFigure K)) (F : Txt1 K mg "figure_together" s_figure_together ["one", "other", "wanted", "day"]) : DefOk P w K mg base (k + 1) "figure_together" ["one", "other", "wanted", "day"] (spFigT K) := by
  refine F.ok sc_figure_together (fun vs H Q E h => ?_) (fun f cdv A outer s H vs Q E hr h => ?_)
  · first | (obtain ⟨rfl, _⟩ := h; rfl) | (obtain ⟨_, rfl, _⟩ := h; rfl) | (obtain ⟨_, _, rfl, _⟩ := h; rfl) | (obtain ⟨_, _, _, rfl, _⟩ := h; rfl) | (obtain ⟨_, _, _, _, rfl, _⟩ := h; rfl) | (obtain ⟨_, _, _, _, _, rfl, _⟩ := h; rfl) | (obtain ⟨_, _, _, _, _, _, rfl, _⟩ := h; rfl) | (obtain ⟨_, _, _, _, _, _, _, rfl, _⟩ := h; rfl) | (obtain ⟨_, _, _, _, _, _, _, _, rfl, _⟩ := h; rfl) | (obtain ⟨_, _, _, _, _, _, _, _, _, rfl, _⟩ := h; rfl)
  obtain ⟨p, q, w', d, ws, h, b, h', b', rfl, pl, pl', hb, hb', bh, bb, bh', bb', hw, lw, hd, k⟩ := h
  refine ⟨_, pss_one (ps_ret (pe_ix (ix_tupK K) (pv 2) (pe_op op_add (pe_op op_mul pe_int (pe_callD D_figure_of hr rfl (pa_cons (pv 0) (pa_cons (pv 3) pa_nil)))) (pe_callD D_figure_of hr rfl (pa_cons (pv 1) (pa_cons (pv 3) pa_nil)))) (fun _ _ => rfl))), ?_⟩
  have f1 := fig_bits hb bh bb d.toNat
  have f2 := fig_bits hb' bh' bb' d.toNat
  exact ⟨_, rfl, _, rfl, _, rfl, p, _, h, b, rfl, pl, hb, hd, _, _, rfl, rfl, .inl ⟨by decide, by decide⟩, _, rfl, _, rfl, q, _, h', b', rfl, pl', hb', hd, _, _, rfl, rfl, w', _, _, _, rfl, rfl, hw, at_ints (by (first | lia | omega)) (by (first | lia | omega)), k⟩
noncomputable abbrev s_put_together : Stmt := top 29
theorem sc_put_together : FnScope ["one", "other", "wanted", "head", "length", "days"] ["one", "other", "wanted"] (defScope s_put_together) := ⟨rfl, rfl, rfl, by decide +kernel, rfl, by decide +kernel, by decide +kernel⟩
noncomputable def cs_put_together_0 : Scope := { kind := .function, names := [(".0", .local), ("day", .local), ("figure_together", .globalImplicit), ("one", .free), ("other", .free), ("wanted", .free)], isGenerator := false, isCoroutine := false, more := [] }
theorem co_put_together_0 : CompOk (defScope s_put_together) cs_put_together_0 ["one", "other", "wanted", "head", "length", "days"] "day" ["one", "other", "wanted"] [0, 1, 2] := ⟨rfl, by decide +kernel, by decide +kernel, by decide +kernel, by decide +kernel, by decide +kernel, rfl, by decide +kernel⟩
set_option maxHeartbeats 1000000 in
theorem ok_put_together (TX : Txt K mg) (D_longer_head : DefOk P w K mg base k "longer_head" ["one", "other"] (spLonger K)) (D_told : DefOk P w K mg base k "told" ["head", "bar"] (spTold K)) (D_common_bar : DefOk P w K mg base k "common_bar" ["one", "other"] (spComBar K)) (D_figure_together : DefOk P w K mg base k "figure_together" ["one", "other", "wanted", "day"] (spFigT K)) (F : Txt1 K mg "put_together" s_put_together ["one", "other", "wanted"]) : DefOk P w K mg base (k + 1) "put_together" ["one", "other", "wanted"] (spPut K) := by
  refine F.ok sc_put_together (fun vs H Q E h => ?_) (fun f cdv A outer s H vs Q E hr h => ?_)
  · first | (obtain ⟨rfl, _⟩ := h; rfl) | (obtain ⟨_, rfl, _⟩ := h; rfl) | (obtain ⟨_, _, rfl, _⟩ := h; rfl) | (obtain ⟨_, _, _, rfl, _⟩ := h; rfl) | (obtain ⟨_, _, _, _, rfl, _⟩ := h; rfl) | (obtain ⟨_, _, _, _, _, rfl, _⟩ := h; rfl) | (obtain ⟨_, _, _, _, _, _, rfl, _⟩ := h; rfl) | (obtain ⟨_, _, _, _, _, _, _, rfl, _⟩ := h; rfl) | (obtain ⟨_, _, _, _, _, _, _, _, rfl, _⟩ := h; rfl) | (obtain ⟨_, _, _, _, _, _, _, _, _, rfl, _⟩ := h; rfl)
  obtain ⟨p, q, w', ws, rfl, hw, lw, h, b, h', b', pl, pl', hb, hb', bh, bb, bh', bb', l1, l2, l3, l4, nl, qq⟩ := h
  refine ⟨_, pss_cons (ps_set (i := 3) sc_put_together.nd rfl (Or.inl rfl) (pe_callD D_longer_head hr rfl (pa_cons (pv 0) (pa_cons (pv 1) pa_nil))))
      (pss_cons (ps_set (i := 4) sc_put_together.nd rfl (Or.inl rfl) (pe_op op_add (pv 3) (pe_callD D_common_bar hr rfl (pa_cons (pv 0) (pa_cons (pv 1) pa_nil)))))
      (pss_cons (ps_setC (k := 5) rfl co_put_together_0 (pi_range1 rfl TX.b_range (pa_cons (pv 4) pa_nil)) (fun _ _ _ _ => pts_nil) (fun _ _ _ _ => (pe_callD D_figure_together hr rfl (pa_cons (pv 1) (pa_cons (pv 2) (pa_cons (pv 3) (pa_cons (pv 0) pa_nil)))))) sc_put_together.nd rfl (Or.inl rfl))
      (pss_one (ps_ret (pe_callD D_told hr rfl (pa_cons (pe_slice (sl_listK K) (pv 5) po_none (po_some (pv 3))) (pa_cons (pe_slice (sl_listK K) (pv 5) (po_some (pv 3)) po_none) pa_nil))))))), ?_⟩
  refine ⟨_, rfl, _, rfl, p, q, h, b, h', b', rfl, pl, pl', ?_⟩
  obtain ⟨M, hM⟩ : ∃ M, max h.length h'.length = M := ⟨_, rfl⟩
  rw [hM]
  have lM : M ≤ 1000 := by (first | lia | omega)
  refine ⟨_, rfl, _, rfl, _, rfl, p, q, h, b, h', b', rfl, pl, pl', hb, hb', fun L hL dv1 dv2 lL => ?_⟩
  have lL2 : L ≤ 90000 := by have := Nat.mul_le_mul l3 l4; (first | lia | omega)
  refine ⟨_, _, rfl, rfl, _, rfl, _, rfl, by (first | lia | omega), by (first | lia | omega), ?_⟩
  have tn : ((M : Int) + (L : Int)).toNat = M + L := by (first | lia | omega)
  rw [tn]
  refine comp_range (Nat.le_trans (show M + L ≤ 91000 by (first | lia | omega)) (by decide)) (fun i => some (.int (wv ws (fig h b i) (fig h' b' i)))) (fun i H' hi sm => ?_) (fun r H3 s3 n3 er => ?_)
  · have i0 : (0 : Int) ≤ 0 + (i : Int) := by (first | lia | omega)
    have it : (0 + (i : Int)).toNat = i := by (first | lia | omega)
    refine ⟨_, rfl, _, rfl, _, rfl, _, rfl, p, q, w', _, ws, h, b, h', b', rfl, pl.same sm, pl'.same sm, hb, hb', bh, bb, bh', bb', sm.tup hw, lw, i0, Same.refl _, ?_⟩
    rw [it]
  rw [filterMap_some_map, map_int (fun i => wv ws (fig h b i) (fig h' b' i))] at er
  refine ⟨_, rfl, _, rfl, _, rfl, r, _, rfl, SqL.of er, fun p1 H4 s4 n4 e4 => ⟨_, rfl, _, rfl, _, rfl, r, _, rfl, SqL.of (s4 _ _ er), fun p2 H5 s5 n5 e5 => ?_⟩⟩
  rw [cut_to, Pm.range_take] at e4
  rw [cut_from, Pm.range_drop] at e5
  have pr := put_per (h := h) (b := b) (h' := h') (b' := b') (wv ws) dv1 dv2
  rw [hM] at pr
  have al : ∀ d, fig ((List.range M).map fun i => wv ws (fig h b i) (fig h' b' i)) ((List.range L).map fun i => wv ws (fig h b (M + i)) (fig h' b' (M + i))) d = wv ws (fig h b d) (fig h' b' d) := fun d => fig_cyc (g := fun i => wv ws (fig h b i) (fig h' b' i)) hL pr d
  refine ⟨p1, p2, _, _, rfl, .inl (SqL.of (s5 _ _ e4)), .inl (SqL.of e5), by rw [List.length_map, List.length_range]; exact hL, by rw [List.length_map, List.length_range]; (first | lia | omega), by rw [List.length_map, List.length_range]; (first | lia | omega), fun hh bb t a => nl hh bb t fun d => (a d).trans (al d), fun r' hh bb H6 s6 e6 t a => ?_⟩
  exact qq r' hh bb H6 (s3.trans (s4.trans (s5.trans s6))) e6 t fun d => (a d).trans (al d)
noncomputable abbrev s_either : Stmt := top 30
theorem sc_either : FnScope ["one", "other"] ["one", "other"] (defScope s_either) := ⟨rfl, rfl, rfl, by decide +kernel, rfl, by decide +kernel, by decide +kernel⟩
set_option maxHeartbeats 1000000 in
theorem ok_either (TX : Txt K mg) (D_put_together : DefOk P w K mg base k "put_together" ["one", "other", "wanted"] (spPut K)) (F : Txt1 K mg "either" s_either ["one", "other"]) : DefOk P w K mg base (k + 1) "either" ["one", "other"] (spBin K [0, 1, 1, 1]) := by
  refine F.ok sc_either (fun vs H Q E h => ?_) (fun f cdv A outer s H vs Q E hr h => ?_)
  · first | (obtain ⟨rfl, _⟩ := h; rfl) | (obtain ⟨_, rfl, _⟩ := h; rfl) | (obtain ⟨_, _, rfl, _⟩ := h; rfl) | (obtain ⟨_, _, _, rfl, _⟩ := h; rfl) | (obtain ⟨_, _, _, _, rfl, _⟩ := h; rfl) | (obtain ⟨_, _, _, _, _, rfl, _⟩ := h; rfl) | (obtain ⟨_, _, _, _, _, _, rfl, _⟩ := h; rfl) | (obtain ⟨_, _, _, _, _, _, _, rfl, _⟩ := h; rfl) | (obtain ⟨_, _, _, _, _, _, _, _, rfl, _⟩ := h; rfl) | (obtain ⟨_, _, _, _, _, _, _, _, _, rfl, _⟩ := h; rfl)
  obtain ⟨a_OF_EITHER, g_OF_EITHER, s_OF_EITHER⟩ := TX.g_OF_EITHER
  obtain ⟨p, q, rfl, hq⟩ := h
  refine ⟨_, pss_one (ps_ret (pe_callD D_put_together hr rfl (pa_cons (pv 0) (pa_cons (pv 1) (pa_cons (pe_glob (v := .ref a_OF_EITHER) rfl g_OF_EITHER rfl) pa_nil))))), ?_⟩
  exact ⟨_, rfl, _, rfl, p, q, a_OF_EITHER, [0, 1, 1, 1], rfl, s_OF_EITHER H, rfl, hq⟩
noncomputable abbrev s_is_rule : Stmt := top 36
theorem sc_is_rule : FnScope ["value"] ["value"] (defScope s_is_rule) := ⟨rfl, rfl, rfl, by decide +kernel, rfl, by decide +kernel, by decide +kernel⟩
set_option maxHeartbeats 1000000 in
theorem ok_is_rule (TX : Txt K mg) (D_is_number : DefOk P w K mg base k "is_number" ["value", "least", "greatest"] (spIsNumber)) (F : Txt1 K mg "is_rule" s_is_rule ["value"]) : DefOk P w K mg base (k + 1) "is_rule" ["value"] (spIsRule K) := by
  refine F.ok sc_is_rule (fun vs H Q E h => ?_) (fun f cdv A outer s H vs Q E hr h => ?_)
  · first | (obtain ⟨rfl, _⟩ := h; rfl) | (obtain ⟨_, rfl, _⟩ := h; rfl) | (obtain ⟨_, _, rfl, _⟩ := h; rfl) | (obtain ⟨_, _, _, rfl, _⟩ := h; rfl) | (obtain ⟨_, _, _, _, rfl, _⟩ := h; rfl) | (obtain ⟨_, _, _, _, _, rfl, _⟩ := h; rfl) | (obtain ⟨_, _, _, _, _, _, rfl, _⟩ := h; rfl) | (obtain ⟨_, _, _, _, _, _, _, rfl, _⟩ := h; rfl) | (obtain ⟨_, _, _, _, _, _, _, _, rfl, _⟩ := h; rfl) | (obtain ⟨_, _, _, _, _, _, _, _, _, rfl, _⟩ := h; rfl)
  obtain ⟨t_LATEST_START, g_LATEST_START⟩ := TX.g_LATEST_START
  obtain ⟨t_LONGEST_STEP, g_LONGEST_STEP⟩ := TX.g_LONGEST_STEP
  obtain ⟨t_MOST_TIMES, g_MOST_TIMES⟩ := TX.g_MOST_TIMES
  obtain ⟨x, o, rfl, rv, q⟩ := h
  refine ⟨_, pss_cons (ps_if (PW.pt (pw_or (pt_not (pt_val (pe_callB (call_isvK K (T := "tuple")) rfl TX.b_isinstance PyProof.Rows.boot_isinstance (pa_cons (pv 0) (pa_cons (pe_tyn rfl TX.b_tuple PyProof.Rows.boot_tuple) pa_nil))) (fun _ => rfl))) (pw_or1 (pt_cmpR op_ne (pe_callB (call_lenK K) rfl TX.b_len PySem.boot_len (pa_cons (pv 0) pa_nil)) pe_int (nomark _))))) (pss_one (ps_ret pe_bl)) pss_nil)
      (pss_cons (ps_if (PW.pt (pw_or (pt_not (pt_val (pe_callD D_is_number hr rfl (pa_cons (pe_ix (ix_tupK K) (pv 0) pe_int (fun _ _ => rfl)) (pa_cons pe_int (pa_cons (pe_glob (v := .int 400) rfl g_LATEST_START ⟨_, rfl⟩) pa_nil)))) (fun _ => rfl))) (pw_or1 (pt_not (pt_val (pe_callD D_is_number hr rfl (pa_cons (pe_ix (ix_tupK K) (pv 0) pe_int (fun _ _ => rfl)) (pa_cons pe_int (pa_cons (pe_glob (v := .int 200) rfl g_LONGEST_STEP ⟨_, rfl⟩) pa_nil)))) (fun _ => rfl)))))) (pss_one (ps_ret pe_bl)) pss_nil)
      (pss_one (ps_ret (pe_or (pe_cmpR op_isN (pe_ix (ix_tupK K) (pv 0) pe_int (fun _ _ => rfl)) pe_non (nomark _)) (pe_one (pe_callD D_is_number hr rfl (pa_cons (pe_ix (ix_tupK K) (pv 0) pe_int (fun _ _ => rfl)) (pa_cons pe_int (pa_cons (pe_glob (v := .int 400) rfl g_MOST_TIMES ⟨_, rfl⟩) pa_nil))))))))), ?_⟩
  cases rv with
  | lst h1 => exact ⟨_, rfl, _, _, _, rfl, .lst h1, kit_list_tuple, _, rfl, q⟩
  | flat fx =>
    obtain ⟨t, ty, kt⟩ := flat_tuple (K := K) (H := H) fx
    exact ⟨_, rfl, _, _, _, rfl, ty, kt, _, rfl, q⟩
  | @tup a xs h1 fl lx =>
    refine ⟨_, rfl, _, _, _, rfl, .tup h1, kit_yes, _, rfl, ?_⟩
    refine iteF ?_
    refine ⟨_, rfl, _, _, rfl, .inr h1, rfl, _, rfl, ?_⟩
    refine ite2 (fun z => ?_) (fun z => ?_)
    · have n3 : xs.length ≠ 3 := fun u => by
        have z : (!decide (V.int (xs.length : Int) = V.int 3)) = true := z
        rw [u] at z
        exact absurd z (by decide)
      rw [goodR_len n3] at q
      exact q
    · have l3 : xs.length = 3 := by
        have z : ¬ (!decide (V.int (xs.length : Int) = V.int 3)) = true := z
        by_cases c : xs.length = 3
        · exact c
        · refine absurd ?_ z
          rw [decide_eq_false (fun u => c (by injection u with u; (first | lia | omega)))]; rfl
      obtain ⟨v0, v1, v2, rfl⟩ := len_three l3
      have f0 : flatV v0 = true := List.all_eq_true.mp fl v0 (by simp)
      have f1 : flatV v1 = true := List.all_eq_true.mp fl v1 (by simp)
      have f2 : flatV v2 = true := List.all_eq_true.mp fl v2 (by simp)
      have q : Q (.bl (inB 0 400 v0 && inB 1 200 v1 && tmB v2)) H := q
      refine ⟨_, rfl, _, _, _, _, rfl, rfl, h1, rfl, v0, _, _, rfl, f0, _, rfl, ?_⟩
      cases e0 : inB 0 400 v0 with
      | false =>
        rw [e0] at q
        exact q
      | true =>
        refine iteF ?_
        refine ⟨_, rfl, _, _, _, _, rfl, rfl, h1, rfl, v1, _, _, rfl, f1, _, rfl, ?_⟩
        rw [e0] at q
        cases e1 : inB 1 200 v1 with
        | false =>
          rw [e1] at q
          exact q
        | true =>
          rw [e1] at q
          refine iteF ?_
          refine ⟨_, rfl, _, _, _, _, rfl, rfl, h1, rfl, rfl, _, rfl, ?_⟩
          refine ite2 (fun z => ?_) (fun z => ?_)
          · have z : v2 = .non := of_decide_eq_true z
            subst z
            exact q
          · refine ⟨_, rfl, _, _, _, _, rfl, rfl, h1, rfl, v2, _, _, rfl, f2, ?_⟩
            have e2 : tmB v2 = inB 1 400 v2 := by
              cases v2 with
              | non => exact absurd (decide_eq_true rfl) z
              | _ => rfl
            rw [e2] at q
            exact q
noncomputable abbrev s_check_rules : Stmt := top 37
theorem sc_check_rules : FnScope ["rules", "place"] ["rules"] (defScope s_check_rules) := ⟨rfl, rfl, rfl, by decide +kernel, rfl, by decide +kernel, by decide +kernel⟩
set_option maxHeartbeats 1000000 in
theorem ok_check_rules (TX : Txt K mg) (D_is_list : DefOk P w K mg base k "is_list" ["value", "fewest", "most"] (spIsList K)) (D_is_rule : DefOk P w K mg base k "is_rule" ["value"] (spIsRule K)) (F : Txt1 K mg "check_rules" s_check_rules ["rules"]) : DefOk P w K mg base (k + 1) "check_rules" ["rules"] (spCheckR K) := by
  refine F.ok sc_check_rules (fun vs H Q E h => ?_) (fun f cdv A outer s H vs Q E hr h => ?_)
  · first | (obtain ⟨rfl, _⟩ := h; rfl) | (obtain ⟨_, rfl, _⟩ := h; rfl) | (obtain ⟨_, _, rfl, _⟩ := h; rfl) | (obtain ⟨_, _, _, rfl, _⟩ := h; rfl) | (obtain ⟨_, _, _, _, rfl, _⟩ := h; rfl) | (obtain ⟨_, _, _, _, _, rfl, _⟩ := h; rfl) | (obtain ⟨_, _, _, _, _, _, rfl, _⟩ := h; rfl) | (obtain ⟨_, _, _, _, _, _, _, rfl, _⟩ := h; rfl) | (obtain ⟨_, _, _, _, _, _, _, _, rfl, _⟩ := h; rfl) | (obtain ⟨_, _, _, _, _, _, _, _, _, rfl, _⟩ := h; rfl)
  obtain ⟨t_MOST_RULES, g_MOST_RULES⟩ := TX.g_MOST_RULES
  obtain ⟨a, rs, rfl, ⟨xs, hx, ru⟩, l12, bnd, q⟩ := h
  refine ⟨_, pss_cons (ps_if (pt_not (pt_val (pe_callD D_is_list hr rfl (pa_cons (pv 0) (pa_cons pe_int (pa_cons (pe_glob (v := .int 12) rfl g_MOST_RULES ⟨_, rfl⟩) pa_nil)))) (fun _ => rfl))) (pss_one (ps_never)) pss_nil)
      (pss_one (ps_for PassesOwn.never rfl (pi_range1 rfl TX.b_range (pa_cons (pe_callB (call_lenK K) rfl TX.b_len PySem.boot_len (pa_cons (pv 0) pa_nil)) pa_nil)) (pg_name (i := 1) sc_check_rules.nd rfl (Or.inl rfl)) (pss_one (ps_if (pt_not (pt_val (pe_callD D_is_rule hr rfl (pa_cons (pe_ix (ix_listK K) (pv 0) (pv 1) (fun _ _ => rfl)) pa_nil)) (fun _ => rfl))) (pss_one (ps_never)) pss_nil)))), ?_⟩
  have ll := ru.len
  refine ⟨_, rfl, _, _, _, _, rfl, .lst hx, ?_⟩
  rw [inLen_true (by (first | lia | omega)) (by (first | lia | omega))]
  refine ⟨_, rfl, ?_⟩
  refine iteF ?_
  refine ⟨_, rfl, _, _, rfl, .inl hx, _, rfl, by (first | lia | omega), by (first | lia | omega), ?_⟩
  rw [Int.toNat_natCast]
  refine for_range (n := xs.length) (fun i σ H2 => H2 = H ∧ ∃ v1, σ = [some (V.ref a), v1]) ⟨rfl, _, rfl⟩ ?_ ?_
  · rintro i σ H2 hi ⟨rfl, v1, rfl⟩
    have hv : xs[i]? = some xs[i] := by simp [hi]
    obtain ⟨p, r, e1, e2, hp⟩ := ru.at hv
    have er : atI xs (0 + (i : Int)) = some (V.ref p) := by rw [Int.zero_add]; exact atI_nat (hv.trans (congrArg some e2))
    refine ⟨_, rfl, _, rfl, a, _, _, _, rfl, rfl, hx, er, V.ref p, some (ruVs r), rfl, Rus.rv hp, _, rfl, ?_⟩
    rw [show goodR (some (ruVs r)) = true from good_rule (bnd r (List.mem_of_getElem? e1))]
    refine iteF ?_
    exact ⟨rfl, _, rfl⟩
  · rintro σ H2 ⟨rfl, v1, rfl⟩
    exact q
noncomputable abbrev s_pulse_of_rule : Stmt := top 38
theorem sc_pulse_of_rule : FnScope ["rule", "ahead", "one_step"] ["rule"] (defScope s_pulse_of_rule) := ⟨rfl, rfl, rfl, by decide +kernel, rfl, by decide +kernel, by decide +kernel⟩
set_option maxHeartbeats 1000000 in
theorem ok_pulse_of_rule (TX : Txt K mg) (D_told : DefOk P w K mg base k "told" ["head", "bar"] (spTold K)) (F : Txt1 K mg "pulse_of_rule" s_pulse_of_rule ["rule"]) : DefOk P w K mg base (k + 1) "pulse_of_rule" ["rule"] (spOfR0 K) := by
  refine F.ok sc_pulse_of_rule (fun vs H Q E h => ?_) (fun f cdv A outer s H vs Q E hr h => ?_)
  · first | (obtain ⟨rfl, _⟩ := h; rfl) | (obtain ⟨_, rfl, _⟩ := h; rfl) | (obtain ⟨_, _, rfl, _⟩ := h; rfl) | (obtain ⟨_, _, _, rfl, _⟩ := h; rfl) | (obtain ⟨_, _, _, _, rfl, _⟩ := h; rfl) | (obtain ⟨_, _, _, _, _, rfl, _⟩ := h; rfl) | (obtain ⟨_, _, _, _, _, _, rfl, _⟩ := h; rfl) | (obtain ⟨_, _, _, _, _, _, _, rfl, _⟩ := h; rfl) | (obtain ⟨_, _, _, _, _, _, _, _, rfl, _⟩ := h; rfl) | (obtain ⟨_, _, _, _, _, _, _, _, _, rfl, _⟩ := h; rfl)
  obtain ⟨p, ⟨s, st, t⟩, rfl, hp, ⟨b1, b2, b3, b4⟩, k⟩ := h
  refine ⟨_, pss_cons (ps_set (i := 1) sc_pulse_of_rule.nd rfl (Or.inl rfl) (pe_op (op_repK K) (pe_tup (pa_cons pe_int pa_nil)) (pe_ix (ix_tupK K) (pv 0) pe_int (fun _ _ => rfl))))
      (pss_cons (ps_set (i := 2) sc_pulse_of_rule.nd rfl (Or.inl rfl) (pe_op (op_catK K) (pe_tup (pa_cons pe_int pa_nil)) (pe_op (op_repK K) (pe_tup (pa_cons pe_int pa_nil)) (pe_op op_sub (pe_ix (ix_tupK K) (pv 0) pe_int (fun _ _ => rfl)) pe_int))))
      (pss_cons (ps_if (pt_cmpR op_isN (pe_ix (ix_tupK K) (pv 0) pe_int (fun _ _ => rfl)) pe_non (nomark _)) (pss_one (ps_ret (pe_callD D_told hr rfl (pa_cons (pv 1) (pa_cons (pv 2) pa_nil))))) pss_nil)
      (pss_one (ps_ret (pe_callD D_told hr rfl (pa_cons (pe_op (op_catK K) (pv 1) (pe_op (op_repK K) (pv 2) (pe_ix (ix_tupK K) (pv 0) pe_int (fun _ _ => rfl)))) (pa_cons (pe_tup (pa_cons pe_int pa_nil)) pa_nil))))))), ?_⟩
  have b1 : s ≤ 400 := b1
  have b2 : 1 ≤ st := b2
  have b3 : st ≤ 200 := b3
  refine ⟨smallb, fun p0 hp0 => ?_⟩
  have s0 := Same.new hp0 (.tup [.int 0])
  refine ⟨_, rfl, _, _, _, _, rfl, rfl, s0.tup hp, rfl, p0, _, _, rfl, rfl, SqT.of upd_same, by (first | lia | omega), by (first | lia | omega), by rw [Int.toNat_natCast]; exact Nat.le_trans (show 1 * s ≤ 400 by (first | lia | omega)) (by decide), fun pa H1 s1 e1 => ?_⟩
  rw [Int.toNat_natCast, rep_one] at e1
  have s01 := s0.trans s1
  refine ⟨smallb, fun p2 hp2 => ⟨smallb, fun p3 hp3 => ?_⟩⟩
  have s2 := Same.new hp2 (.tup [.int 1])
  have s3 := Same.new hp3 (.tup [.int 0])
  have s03 := s01.trans (s2.trans s3)
  refine ⟨_, rfl, _, _, _, _, rfl, rfl, s03.tup hp, rfl, _, _, rfl, rfl, p3, _, _, rfl, rfl, SqT.of upd_same, by (first | lia | omega), by (first | lia | omega), ?_, fun pb H4 s4 e4 => ?_⟩
  · exact Nat.le_trans (show 1 * ((st : Int) - 1).toNat ≤ 200 by (first | lia | omega)) (by decide)
  have e4 : SqT K H4 pb ((List.replicate (st - 1) (0 : Int)).map V.int) := by
    rw [rep_one] at e4
    have : ((st : Int) - 1).toNat = st - 1 := by (first | lia | omega)
    rw [this] at e4
    rw [List.map_replicate]; exact e4
  have e2 : SqT K H4 p2 ([(1 : Int)].map V.int) := s4.tup (s3.tup (SqT.of upd_same))
  refine ⟨p2, pb, _, _, rfl, rfl, e2, e4, ?_, fun pc H5 s5 e5 => ?_⟩
  · rw [List.length_map, List.length_map, List.length_replicate]
    exact Nat.le_trans (show 1 + (st - 1) ≤ 200 by (first | lia | omega)) (by decide)
  rw [← List.map_append] at e5
  have e5 : SqT K H5 pc ((stepL st).map V.int) := e5
  have s05 := s03.trans (s4.trans s5)
  have ea : SqT K H5 pa ((List.replicate s (0 : Int)).map V.int) := by
    rw [List.map_replicate]; exact s5.tup (s4.tup (s3.tup (s2.tup e1)))
  have lc := stepL_len b2
  refine ⟨_, rfl, _, _, _, _, rfl, rfl, s05.tup hp, rfl, rfl, _, rfl, ?_⟩
  cases t with
  | none =>
    refine iteT ?_
    refine ⟨_, rfl, _, rfl, pa, pc, _, _, rfl, .inr ea, .inr e5, by (first | lia | omega), by rw [List.length_replicate]; (first | lia | omega), by (first | lia | omega), k.told s05 fun hh bb z d => (z d).trans (fig_ever b2 d)⟩
  | some t =>
    obtain ⟨c1, c2⟩ := b4 t rfl
    refine iteF ?_
    have m1 : t * st ≤ 400 * 200 := Nat.mul_le_mul c2 b3
    refine ⟨_, rfl, _, rfl, _, rfl, _, _, _, _, rfl, rfl, s05.tup hp, rfl, pc, _, _, rfl, rfl, e5, by (first | lia | omega), by (first | lia | omega), ?_, fun pd H6 s6 e6 => ?_⟩
    · rw [List.length_map, lc, Int.toNat_natCast]
      exact Nat.le_trans (show st * t ≤ 80000 by rw [Nat.mul_comm]; exact m1) (by decide)
    rw [Int.toNat_natCast, rep_ints] at e6
    have lr : (rep t (stepL st)).length = t * st := by rw [rep_length, lc]
    refine ⟨pa, pd, _, _, rfl, rfl, s6.tup ea, e6, ?_, fun pe H7 s7 e7 => ?_⟩
    · rw [List.length_map, List.length_map, List.length_replicate, lr]
      exact Nat.le_trans (show s + t * st ≤ 80400 by (first | lia | omega)) (by decide)
    rw [← List.map_append] at e7
    refine ⟨smallb, fun p8 hp8 => ?_⟩
    have s8 := Same.new hp8 (.tup [.int 0])
    have e8 : SqT K (upd H7 p8 (.tup [.int 0])) p8 ([(0 : Int)].map V.int) := SqT.of upd_same
    have S := s05.trans (s6.trans (s7.trans s8))
    refine ⟨pe, p8, _, _, rfl, .inr (s8.tup e7), .inr e8, by decide, by rw [List.length_append, List.length_replicate, lr]; (first | lia | omega), by decide, k.told S fun hh bb z d => (z d).trans (fig_times b2 d)⟩
noncomputable abbrev s_from_rules : Stmt := top 39
theorem sc_from_rules : FnScope ["rules", "pulse", "rule"] ["rules"] (defScope s_from_rules) := ⟨rfl, rfl, rfl, by decide +kernel, rfl, by decide +kernel, by decide +kernel⟩
set_option maxHeartbeats 1000000 in
theorem ok_from_rules (TX : Txt K mg) (D_check_rules : DefOk P w K mg base k "check_rules" ["rules"] (spCheckR K)) (D_never : DefOk P w K mg base k "never" [] (spConst K [] [0])) (D_either : DefOk P w K mg base k "either" ["one", "other"] (spBin K [0, 1, 1, 1])) (D_pulse_of_rule : DefOk P w K mg base k "pulse_of_rule" ["rule"] (spOfR0 K)) (F : Txt1 K mg "from_rules" s_from_rules ["rules"]) : DefOk P w K mg base (k + 1) "from_rules" ["rules"] (spRules0 K) := by
  refine F.ok sc_from_rules (fun vs H Q E h => ?_) (fun f cdv A outer s H vs Q E hr h => ?_)
  · first | (obtain ⟨rfl, _⟩ := h; rfl) | (obtain ⟨_, rfl, _⟩ := h; rfl) | (obtain ⟨_, _, rfl, _⟩ := h; rfl) | (obtain ⟨_, _, _, rfl, _⟩ := h; rfl) | (obtain ⟨_, _, _, _, rfl, _⟩ := h; rfl) | (obtain ⟨_, _, _, _, _, rfl, _⟩ := h; rfl) | (obtain ⟨_, _, _, _, _, _, rfl, _⟩ := h; rfl) | (obtain ⟨_, _, _, _, _, _, _, rfl, _⟩ := h; rfl) | (obtain ⟨_, _, _, _, _, _, _, _, rfl, _⟩ := h; rfl) | (obtain ⟨_, _, _, _, _, _, _, _, _, rfl, _⟩ := h; rfl)
  obtain ⟨a, rs, rfl, ⟨xs, hx, ru⟩, ok, ff, k⟩ := h
  have pre : ∀ i, FitsF (ruleF (rs.take i)) := fun i => by
    by_cases c : i < rs.length
    · exact ok.pre i c
    · rw [List.take_of_length_le (by (first | lia | omega))]; exact ff
  have ll := ru.len
  refine ⟨_, pss_cons (ps_expr (pe_callD D_check_rules hr rfl (pa_cons (pv 0) pa_nil)))
      (pss_cons (ps_set (i := 1) sc_from_rules.nd rfl (Or.inl rfl) (pe_callD0 D_never hr rfl))
      (pss_cons (ps_for PassesOwn.never rfl (pi_listK K (pv 0)) (pg_name (i := 2) sc_from_rules.nd rfl (Or.inl rfl)) (pss_one (ps_set (i := 1) sc_from_rules.nd rfl (Or.inl rfl) (pe_callD D_either hr rfl (pa_cons (pv 1) (pa_cons (pe_callD D_pulse_of_rule hr rfl (pa_cons (pv 2) pa_nil)) pa_nil))))))
      (pss_one (ps_ret (pv 1))))), ?_⟩
  refine ⟨_, rfl, a, rs, rfl, ⟨xs, hx, ru⟩, ok.len, ok.bnd, ?_⟩
  refine ⟨rfl, fun p0 H1 s1 pl0 => ?_⟩
  refine ⟨_, rfl, a, rfl, ⟨_, s1.seq hx⟩, ?_⟩
  refine for_listG (xs := xs) (fun i σ H2 => ∃ (p : Addr) (hh bb : List Int) (v2 : Option V), σ = [some (V.ref a), some (V.ref p), v2] ∧ Same H H2 ∧ Pl K H2 p hh bb ∧ T hh bb ∧ ∀ d, fig hh bb d = ruleF (rs.take i) d)
    ⟨p0, [], [0], none, rfl, s1, pl0, t_never, fun d => by rw [fig_never]; rfl⟩ (fun i σ H2 hi ⟨_, _, _, _, _, s2, _⟩ => s2.seq hx) ?_ ?_
  · rintro i v σ H2 hv ⟨p, hh, bb, v2, rfl, s2, pl, t, e⟩ N2 k2'
    obtain ⟨pr, r, er, rfl, hp⟩ := ru.at hv
    have mr : r ∈ rs := List.mem_of_getElem? er
    have et : rs.take (i + 1) = rs.take i ++ [r] := by rw [List.take_add_one, er]; rfl
    obtain ⟨b1, b2⟩ := bits_of t (fun d => by rw [e d]; exact ruleF_01 _ d)
    obtain ⟨f1, f2⟩ := pre i hh bb t e
    refine ⟨_, rfl, _, rfl, pr, r, rfl, s2.tup hp, ok.bnd r mr, fun h2 bb2 t2 e2 => ok.one r mr h2 bb2 t2 e2, fun p2 h2 bb2 H3 s3 pl2 t2 e2 => ?_⟩
    obtain ⟨c1, c2⟩ := bits_of t2 (fun d => by rw [e2 d]; exact ruleF_01 _ d)
    obtain ⟨f3, f4⟩ := ok.one r mr h2 bb2 t2 e2
    have e4 : ∀ h3 bb3 : List Int, (∀ d, fig h3 bb3 d = wv [0, 1, 1, 1] (fig hh bb d) (fig h2 bb2 d)) → ∀ d, fig h3 bb3 d = ruleF (rs.take (i + 1)) d := fun h3 bb3 e3 d => by
      rw [e3 d, wv_either (by rw [e d]; exact ruleF_01 _ d) (by rw [e2 d]; exact ruleF_01 _ d), et, ruleF_snoc, e d, e2 d]
    refine ⟨p, p2, rfl, hh, bb, h2, bb2, pl.same s3, pl2, t.pos, t2.pos, b1, b2, c1, c2, by (first | lia | omega), by (first | lia | omega), by (first | lia | omega), by (first | lia | omega), fun h3 bb3 t3 e3 => pre (i + 1) h3 bb3 t3 (e4 h3 bb3 e3), fun p3 h3 bb3 H4 s4 pl3 t3 e3 => ?_⟩
    exact k2' _ _ ⟨p3, h3, bb3, _, rfl, s2.trans (s3.trans s4), pl3, t3, e4 h3 bb3 e3⟩
  · rintro σ H2 ⟨p, hh, bb, v2, rfl, s2, pl, t, e⟩
    rw [List.take_of_length_le (by (first | lia | omega))] at e
    exact ⟨_, rfl, k p hh bb H2 s2 pl t e⟩
noncomputable abbrev s_rules_of : Stmt := top 40
theorem sc_rules_of : FnScope ["pulse", "step"] ["pulse"] (defScope s_rules_of) := ⟨rfl, rfl, rfl, by decide +kernel, rfl, by decide +kernel, by decide +kernel⟩
noncomputable def cs_rules_of_0 : Scope := { kind := .function, names := [(".0", .local), ("day", .local)], isGenerator := false, isCoroutine := false, more := [] }
theorem co_rules_of_0 : CompOk (defScope s_rules_of) cs_rules_of_0 ["pulse", "step"] "day" [] [] := ⟨rfl, by decide +kernel, by decide +kernel, by decide +kernel, by decide +kernel, by decide +kernel, rfl, by decide +kernel⟩
noncomputable def cs_rules_of_1 : Scope := { kind := .function, names := [(".0", .local), ("day", .local), ("step", .free)], isGenerator := false, isCoroutine := false, more := [] }
theorem co_rules_of_1 : CompOk (defScope s_rules_of) cs_rules_of_1 ["pulse", "step"] "day" ["step"] [1] := ⟨rfl, by decide +kernel, by decide +kernel, by decide +kernel, by decide +kernel, by decide +kernel, rfl, by decide +kernel⟩
set_option maxHeartbeats 1000000 in
theorem ok_rules_of (TX : Txt K mg) (D_days_of_head : DefOk P w K mg base k "days_of_head" ["pulse"] (spDaysH K)) (D_first_days_of_bar : DefOk P w K mg base k "first_days_of_bar" ["pulse"] (spDaysB K)) (F : Txt1 K mg "rules_of" s_rules_of ["pulse"]) : DefOk P w K mg base (k + 1) "rules_of" ["pulse"] (spRulesOf K) := by
  refine F.ok sc_rules_of (fun vs H Q E h => ?_) (fun f cdv A outer s H vs Q E hr h => ?_)
  · first | (obtain ⟨rfl, _⟩ := h; rfl) | (obtain ⟨_, rfl, _⟩ := h; rfl) | (obtain ⟨_, _, rfl, _⟩ := h; rfl) | (obtain ⟨_, _, _, rfl, _⟩ := h; rfl) | (obtain ⟨_, _, _, _, rfl, _⟩ := h; rfl) | (obtain ⟨_, _, _, _, _, rfl, _⟩ := h; rfl) | (obtain ⟨_, _, _, _, _, _, rfl, _⟩ := h; rfl) | (obtain ⟨_, _, _, _, _, _, _, rfl, _⟩ := h; rfl) | (obtain ⟨_, _, _, _, _, _, _, _, rfl, _⟩ := h; rfl) | (obtain ⟨_, _, _, _, _, _, _, _, _, rfl, _⟩ := h; rfl)
  obtain ⟨p, h, b, rfl, pu, k⟩ := h
  refine ⟨_, pss_cons (ps_set (i := 1) sc_rules_of.nd rfl (Or.inr rfl) (pe_callB (call_lenK K) rfl TX.b_len PySem.boot_len (pa_cons (pe_ix (ix_tupK K) (pv 0) pe_int (fun _ _ => rfl)) pa_nil)))
      (pss_one (ps_ret (pe_op (op_catLK K) (pe_comp2 rfl co_rules_of_0 (pi_listK K (pe_callD D_days_of_head hr rfl (pa_cons (pv 0) pa_nil))) (fun _ _ _ _ => pts_nil) (fun _ _ _ _ => (pe_tup (pa_cons (pv 0) (pa_cons pe_int (pa_cons pe_int pa_nil)))))) (pe_comp2 rfl co_rules_of_1 (pi_listK K (pe_callD D_first_days_of_bar hr rfl (pa_cons (pv 0) pa_nil))) (fun _ _ _ _ => pts_nil) (fun _ _ _ _ => (pe_tup (pa_cons (pv 0) (pa_cons (pv 1) (pa_cons pe_non pa_nil))))))))), ?_⟩
  obtain ⟨x, y, e1, e2, e3⟩ := id pu.pl
  have lh := pu.lh
  have lb := pu.lb
  have oh := ones_le h
  have ob := ones_le b
  refine ⟨_, rfl, _, _, _, _, rfl, rfl, e1, at1, _, _, rfl, .inr e3, ?_⟩
  refine ⟨_, rfl, p, h, b, rfl, pu.pl, by (first | lia | omega), fun r H1 s1 f1 => ⟨r, rfl, ⟨_, SqL.of f1⟩, ?_⟩⟩
  refine comp2_list (SqL.of f1) (small (by rw [List.length_map]; (first | lia | omega))) (fun D i xs H' => Rus K H' xs (((ones h).take i).map fun i => ((i, 1, some 1) : Rul))) (fun D hD => trivial) (fun D i v xs H' hD hx sm hd hl pv => ?_) (fun D xs H2 s2 hD hd pv => ?_)
  · obtain ⟨n, hn, rfl⟩ : ∃ n, (ones h)[i]? = some n ∧ vN n = v := by rw [List.getElem?_map] at hx; exact Option.map_eq_some_iff.mp hx
    refine ⟨_, rfl, smallb, fun pp hpp => ⟨Same.new hpp _, ?_⟩⟩
    rw [List.take_add_one, hn, List.map_append]
    exact Rus.overL ((Same.new hpp _) _ _ hd) (Rus.snoc (r := (n, 1, some 1)) (SqT.of (by rw [upd_same]; rfl)) (pv.same (Same.new hpp _)))
  rw [List.length_map, List.take_of_length_le (Nat.le_refl _)] at pv
  have s12 := s1.trans s2
  have hD0 : H D = none := by
    cases u : H D with
    | none => rfl
    | some o => rw [s1 D o u] at hD; cases hD
  refine ⟨_, rfl, p, h, b, rfl, pu.pl.same s12, by (first | lia | omega), fun r3 H3 s3 f3 => ⟨r3, rfl, ⟨_, SqL.of f3⟩, ?_⟩⟩
  refine comp2_list (SqL.of f3) (small (by rw [List.length_map, List.length_map]; (first | lia | omega))) (fun D i xs H' => Rus K H' xs ((((ones b).map fun i => h.length + i).take i).map fun d => ((d, b.length, none) : Rul))) (fun D hD => trivial) (fun D4 i v ys H' hD4 hx sm hd4 hl pv4 => ?_) (fun D4 ys H4 s4 hD4 hd4 pv4 => ?_)
  · obtain ⟨n, hn, rfl⟩ : ∃ n, ((ones b).map fun i => h.length + i)[i]? = some n ∧ vN n = v := by rw [List.getElem?_map] at hx; exact Option.map_eq_some_iff.mp hx
    refine ⟨_, rfl, _, rfl, smallb, fun pp hpp => ⟨Same.new hpp _, ?_⟩⟩
    rw [List.take_add_one, hn, List.map_append]
    refine Rus.overL ((Same.new hpp _) _ _ hd4) (Rus.snoc (r := (n, b.length, none)) (SqT.of ?_) (pv4.same (Same.new hpp _)))
    rw [upd_same, List.length_map]
    rfl
  rw [List.length_map (as := (ones b).map _), List.take_of_length_le (Nat.le_refl _)] at pv4
  have s24 := s3.trans s4
  refine ⟨D, D4, _, _, rfl, rfl, s24 _ _ hd, hd4, ?_, fun l H5 s5 hl f5 => ?_⟩
  · have l1 := pv.len
    have l2 := pv4.len
    rw [l1, l2, List.length_map, List.length_map, List.length_map]
    exact Nat.le_trans (show _ ≤ 1000 by (first | lia | omega)) (by decide)
  have hl0 : H l = none := by
    cases u : H l with
    | none => rfl
    | some o => rw [(s12.trans s24) l o u] at hl; cases hl
  refine k l _ H5 (s12.trans (s24.trans s5)) hl0 f5 ?_
  rw [rulesOf_ones]
  exact Rus.app (pv4.same s5) (pv.same (s24.trans s5))
noncomputable abbrev s_summed : Stmt := top 44
theorem sc_summed : FnScope ["days", "others", "steps", "length", "figures", "day", "another", "step", "place"] ["days", "others", "steps", "length"] (defScope s_summed) := ⟨rfl, rfl, rfl, by decide +kernel, rfl, by decide +kernel, by decide +kernel⟩
set_option maxHeartbeats 1000000 in
theorem ok_summed (TX : Txt K mg) (F : Txt1 K mg "summed" s_summed ["days", "others", "steps", "length"]) : DefOk P w K mg base (k + 1) "summed" ["days", "others", "steps", "length"] (spSummed K) := by
  refine F.ok sc_summed (fun vs H Q E h => ?_) (fun f cdv A outer s H vs Q E hr h => ?_)
  · first | (obtain ⟨rfl, _⟩ := h; rfl) | (obtain ⟨_, rfl, _⟩ := h; rfl) | (obtain ⟨_, _, rfl, _⟩ := h; rfl) | (obtain ⟨_, _, _, rfl, _⟩ := h; rfl) | (obtain ⟨_, _, _, _, rfl, _⟩ := h; rfl) | (obtain ⟨_, _, _, _, _, rfl, _⟩ := h; rfl) | (obtain ⟨_, _, _, _, _, _, rfl, _⟩ := h; rfl) | (obtain ⟨_, _, _, _, _, _, _, rfl, _⟩ := h; rfl) | (obtain ⟨_, _, _, _, _, _, _, _, rfl, _⟩ := h; rfl) | (obtain ⟨_, _, _, _, _, _, _, _, _, rfl, _⟩ := h; rfl)
  obtain ⟨a, c, e, xs, ys, ss, L, rfl, ha, hc, he, lo, st, lL, k⟩ := h
  refine ⟨_, pss_cons (ps_set (i := 4) sc_summed.nd rfl (Or.inl rfl) (pe_op (op_repLK K) (pe_lst (pa_cons pe_int pa_nil)) (pv 3)))
      (pss_cons (ps_for PassesOwn.never rfl (pi_listK K (pv 0)) (pg_name (i := 5) sc_summed.nd rfl (Or.inl rfl)) (pss_one (ps_for PassesOwn.never rfl (pi_listK K (pv 1)) (pg_name (i := 6) sc_summed.nd rfl (Or.inl rfl)) (pss_one (ps_asg pe_int (pg_sub (pv 4) (pe_op op_add (pv 5) (pv 6)) set_list))))))
      (pss_cons (ps_for PassesOwn.never rfl (pi_listK K (pv 2)) (pg_name (i := 7) sc_summed.nd rfl (Or.inl rfl)) (pss_one (ps_for PassesOwn.never rfl (pi_range2 rfl TX.b_range (pa_cons (pv 7) (pa_cons (pv 3) pa_nil))) (pg_name (i := 8) sc_summed.nd rfl (Or.inl rfl)) (pss_one (ps_if (pt_cmpR op_eq (pe_ix (ix_listK K) (pv 4) (pe_op op_sub (pv 8) (pv 7)) (fun _ _ => rfl)) pe_int (nomark _)) (pss_one (ps_asg pe_int (pg_sub (pv 4) (pv 8) set_list))) pss_nil)))))
      (pss_one (ps_ret (pv 4))))), ?_⟩
  refine seqG fun N1 k1' => ?_
  refine ⟨smallb, fun p0 hp0 => ?_⟩
  have s0 := Same.new hp0 (.lst [.int 0])
  refine ⟨_, rfl, p0, _, _, rfl, rfl, upd_same, by (first | lia | omega), by (first | lia | omega), ?_, fun r H1 s1 n1 f1 => ?_⟩
  · rw [Int.toNat_natCast]; exact Nat.le_trans (show 1 * L ≤ 200000 by (first | lia | omega)) (by decide)
  rw [Int.toNat_natCast, rep_one] at f1
  have s01 := s0.trans s1
  have hr : H r = none := by
    cases u : H r with
    | none => rfl
    | some o => rw [s0 r o u] at n1; cases n1
  have f1 : H1 r = some (.lst ((List.replicate L (0 : Int)).map V.int)) := by rw [List.map_replicate]; exact f1
  refine k1' _ _ (seqG fun N2 k2' => ?_)
  refine ⟨_, rfl, a, rfl, ⟨_, s01.seq ha⟩, ?_⟩
  refine for_listG (xs := xs.map vN) (fun i σ H2 => ∃ (v5 v6 : Option V) (gs : List Int), σ = [some (.ref a), some (.ref c), some (.ref e), some (.int (L : Int)), some (.ref r), v5, v6, none, none] ∧ Same H H2 ∧ H2 r = some (.lst (gs.map V.int)) ∧ gs.length = L ∧ Bits gs ∧ ∀ d, d < L → (gs.getD d 0 = 1 ↔ ∃ m, m < i ∧ ∃ y ∈ ys, d = xs.getD m 0 + y))
    ⟨none, none, _, rfl, s01, f1, List.length_replicate, bits_rep (.inl rfl), fun d hd => ⟨fun u => ?_, fun ⟨m, hm, _⟩ => by (first | lia | omega)⟩⟩ (fun i σ H2 hi ⟨_, _, _, _, s2, _⟩ => s2.seq ha) ?_ ?_
  · rw [List.getD_eq_getElem?_getD, List.getElem?_replicate_of_lt hd] at u
    exact absurd u (by decide)
  · rintro i v σ H2 hv ⟨v5, v6, gs, rfl, s2, f2, lg, bg, dg⟩ N3 k3'
    obtain ⟨hi, rfl, hm⟩ := nat_seq hv
    refine ⟨_, rfl, c, rfl, ⟨_, s2.seq hc⟩, ?_⟩
    refine for_listG (xs := ys.map vN) (fun j σ H3 => ∃ (v6 : Option V) (gs : List Int), σ = [some (.ref a), some (.ref c), some (.ref e), some (.int (L : Int)), some (.ref r), some (.int ((xs.getD i 0 : Nat) : Int)), v6, none, none] ∧ Same H H3 ∧ H3 r = some (.lst (gs.map V.int)) ∧ gs.length = L ∧ Bits gs ∧ ∀ d, d < L → (gs.getD d 0 = 1 ↔ (∃ m, m < i ∧ ∃ y ∈ ys, d = xs.getD m 0 + y) ∨ ∃ m, m < j ∧ d = xs.getD i 0 + ys.getD m 0))
      ⟨v6, gs, rfl, s2, f2, lg, bg, fun d hd => ⟨fun u => .inl ((dg d hd).mp u), fun u => u.elim (dg d hd).mpr fun ⟨m, hm, _⟩ => by (first | lia | omega)⟩⟩ (fun i σ H2 hi ⟨_, _, _, s2, _⟩ => s2.seq hc) ?_ ?_
    · rintro j w' σ H3 hw ⟨v6, gs, rfl, s3, f3, lg, bg, dg⟩ N4 k4'
      obtain ⟨hj, rfl, hn⟩ := nat_seq hw
      have lt := lo _ hm _ hn
      refine ⟨_, rfl, _, rfl, _, rfl, _, _, rfl, rfl, r, _, _, xs.getD i 0 + ys.getD j 0, rfl, rfl, f3, by rw [List.length_map, lg]; exact ixN_nat lt, ?_⟩
      refine k4' _ _ ⟨_, gs.set (xs.getD i 0 + ys.getD j 0) 1, rfl, s3.over hr, ?_, by rw [List.length_set]; exact lg, bits_set bg (.inr rfl), fun d hd => ?_⟩
      · rw [upd_same, List.map_set]
      · rw [set_getD (by (first | lia | omega))]
        by_cases z : d = xs.getD i 0 + ys.getD j 0
        · rw [if_pos z]
          exact ⟨fun _ => .inr ⟨j, by (first | lia | omega), z⟩, fun _ => rfl⟩
        · rw [if_neg z, dg d hd]
          constructor
          · rintro (u | ⟨m, hm, u⟩)
            · exact .inl u
            · exact .inr ⟨m, by (first | lia | omega), u⟩
          · rintro (u | ⟨m, hm, u⟩)
            · exact .inl u
            · refine .inr ⟨m, ?_, u⟩
              by_cases c : m = j
              · rw [c] at u; exact absurd u z
              · (first | lia | omega)
    · rintro σ H3 ⟨v6, gs, rfl, s3, f3, lg, bg, dg⟩
      refine k3' _ _ ⟨_, v6, gs, rfl, s3, f3, lg, bg, fun d hd => ?_⟩
      rw [dg d hd, List.length_map]
      constructor
      · rintro (⟨m, hm, u⟩ | ⟨m, hm, u⟩)
        · exact ⟨m, by (first | lia | omega), u⟩
        · refine ⟨i, by (first | lia | omega), ys.getD m 0, ?_, u⟩
          rw [List.getD_eq_getElem?_getD, List.getElem?_eq_getElem hm]; exact List.getElem_mem hm
      · rintro ⟨m, hm, y, hy, u⟩
        by_cases z : m = i
        · obtain ⟨q, hq, rfl⟩ := List.getElem_of_mem hy
          refine .inr ⟨q, hq, ?_⟩
          rw [List.getD_eq_getElem?_getD (l := ys), List.getElem?_eq_getElem hq, ← z]; exact u
        · exact .inl ⟨m, by (first | lia | omega), y, hy, u⟩
  rintro σ H2 ⟨v5, v6, gs, rfl, s2, f2, lg, bg, dg⟩
  have dg : ∀ d, d < L → (gs.getD d 0 = 1 ↔ SumR xs ys (ss.take 0) d) := fun d hd => by
    rw [dg d hd, List.length_map]
    constructor
    · rintro ⟨m, hm, y, hy, u⟩
      refine ⟨xs.getD m 0, ?_, y, hy, 0, .z, by (first | lia | omega)⟩
      rw [List.getD_eq_getElem?_getD, List.getElem?_eq_getElem hm]; exact List.getElem_mem hm
    · rintro ⟨x, hx, y, hy, t, ht, u⟩
      obtain ⟨q, hq, rfl⟩ := List.getElem_of_mem hx
      have := ht.nil
      refine ⟨q, hq, y, hy, ?_⟩
      rw [List.getD_eq_getElem?_getD, List.getElem?_eq_getElem hq]
      show d = xs[q] + y
      (first | lia | omega)
  refine k2' _ _ (seqG fun N5 k5' => ?_)
  refine ⟨_, rfl, e, rfl, ⟨_, s2.seq he⟩, ?_⟩
  refine for_listG (xs := ss.map vN) (fun i σ H2 => ∃ (v7 v8 : Option V) (gs : List Int), σ = [some (.ref a), some (.ref c), some (.ref e), some (.int (L : Int)), some (.ref r), v5, v6, v7, v8] ∧ Same H H2 ∧ H2 r = some (.lst (gs.map V.int)) ∧ gs.length = L ∧ Bits gs ∧ ∀ d, d < L → (gs.getD d 0 = 1 ↔ SumR xs ys (ss.take i) d))
    ⟨none, none, gs, rfl, s2, f2, lg, bg, dg⟩ (fun i σ H2 hi ⟨_, _, _, _, s2, _⟩ => s2.seq he) ?_ ?_
  · clear dg bg lg f2 s2
    rintro i v σ H2 hv ⟨v7, v8, gs, rfl, s2, f2, lg, bg, dg⟩ N6 k6'
    obtain ⟨hi, rfl, hm⟩ := nat_seq hv
    have tk : ss.take (i + 1) = ss.take i ++ [ss.getD i 0] := by
      rw [List.take_succ, List.getD_eq_getElem?_getD, List.getElem?_eq_getElem hi]; rfl
    obtain ⟨st1, st2⟩ := st _ hm
    obtain ⟨R, hR⟩ : ∃ R : Nat → Prop, ∀ d, R d ↔ SumR xs ys (ss.take i) d := ⟨_, fun _ => Iff.rfl⟩
    have nx : ∀ d, SumR xs ys (ss.take (i + 1)) d ↔ ∃ q, q * ss.getD i 0 ≤ d ∧ R (d - q * ss.getD i 0) := fun d => by
      rw [tk, SumR.snoc]
      exact ⟨fun ⟨q, h1, h2⟩ => ⟨q, h1, (hR _).mpr h2⟩, fun ⟨q, h1, h2⟩ => ⟨q, h1, (hR _).mp h2⟩⟩
    generalize ss.getD i 0 = s' at st1 st2 nx
    refine ⟨_, rfl, _, rfl, _, _, rfl, ⟨by (first | lia | omega), by (first | lia | omega), by (first | lia | omega), by (first | lia | omega)⟩, ?_⟩
    refine for_rangeG (fun j σ H3 => ∃ (v8 : Option V) (gs : List Int), σ = [some (.ref a), some (.ref c), some (.ref e), some (.int (L : Int)), some (.ref r), v5, v6, some (.int (s' : Int)), v8] ∧ Same H H3 ∧ H3 r = some (.lst (gs.map V.int)) ∧ gs.length = L ∧ Bits gs ∧ ∀ d, d < L → (gs.getD d 0 = 1 ↔ if d < s' + j then ∃ q, q * s' ≤ d ∧ R (d - q * s') else R d))
      ⟨v8, gs, rfl, s2, f2, lg, bg, fun d hd => ?_⟩ ?_ ?_
    · rw [dg d hd, ← hR]
      by_cases z : d < s' + 0
      · rw [if_pos z, go_on (by (first | lia | omega))]
        exact ⟨.inl, fun u => u.elim id fun w => by (first | lia | omega)⟩
      · rw [if_neg z]
    · rintro j σ H3 hj ⟨v8, gs, rfl, s3, f3, lg, bg, dg⟩ N7 k7'
      have hj2 : s' + j < L := by (first | lia | omega)
      have ej : ((s' : Int) + (j : Int) - (s' : Int)) = (j : Int) := by (first | lia | omega)
      refine ⟨_, rfl, _, rfl, _, rfl, _, _, rfl, rfl, r, _, _, _, rfl, rfl, SqL.of f3, at_ints (by (first | lia | omega)) (by (first | lia | omega)), rfl, _, rfl, ?_⟩
      dsimp only
      rw [dec_vint, ej, Int.toNat_natCast]
      have key := dg j (by (first | lia | omega))
      rw [if_pos (by (first | lia | omega))] at key
      have go := go_on (R := R) (s := s') (d := s' + j) (by (first | lia | omega))
      rw [show s' + j - s' = j by (first | lia | omega)] at go
      refine ite2 (fun z => ?_) (fun z => ?_)
      · have z := of_decide_eq_true z
        refine ⟨_, rfl, _, rfl, r, _, _, s' + j, rfl, rfl, f3, by rw [List.length_map, lg, ← Int.natCast_add]; exact ixN_nat hj2, ?_⟩
        refine k7' _ _ ⟨_, gs.set (s' + j) 1, rfl, s3.over hr, ?_, by rw [List.length_set]; exact lg, bits_set bg (.inr rfl), fun d hd => ?_⟩
        · rw [upd_same, List.map_set]
        · rw [set_getD (by (first | lia | omega))]
          by_cases u : d = s' + j
          · rw [if_pos u, if_pos (by (first | lia | omega)), u]
            exact ⟨fun _ => go.mpr (.inr ⟨by (first | lia | omega), key.mp z⟩), fun _ => rfl⟩
          · rw [if_neg u, dg d hd]
            by_cases w' : d < s' + j
            · rw [if_pos w', if_pos (by (first | lia | omega))]
            · rw [if_neg w', if_neg (by (first | lia | omega))]
      · have z : ¬ _ := fun u => z (decide_eq_true u)
        refine k7' _ _ ⟨_, gs, rfl, s3, f3, lg, bg, fun d hd => ?_⟩
        rw [dg d hd]
        by_cases u : d = s' + j
        · rw [if_neg (by (first | lia | omega)), if_pos (by (first | lia | omega)), u, go]
          exact ⟨.inl, fun w' => w'.elim id fun w2 => absurd (key.mpr w2.2) z⟩
        · by_cases w' : d < s' + j
          · rw [if_pos w', if_pos (by (first | lia | omega))]
          · rw [if_neg w', if_neg (by (first | lia | omega))]
    · rintro σ H3 ⟨v8, gs, rfl, s3, f3, lg, bg, dg⟩
      refine k6' _ _ ⟨_, v8, gs, rfl, s3, f3, lg, bg, fun d hd => ?_⟩
      rw [dg d hd, nx, if_pos (by (first | lia | omega))]
  rintro σ H3 ⟨v7, v8, gs, rfl, s3, f3, lg, bg, dg⟩
  refine k5' _ _ ⟨_, rfl, k r gs H3 s3 f3 lg bg fun d hd => ?_⟩
  rw [dg d hd, List.length_map, List.take_of_length_le (Nat.le_refl _)]
noncomputable abbrev s_added : Stmt := top 45
theorem sc_added : FnScope ["one", "other", "step", "other_step", "common", "head", "length", "heads", "head_and_bar", "bar_and_head", "bars", "figures"] ["one", "other"] (defScope s_added) := ⟨rfl, rfl, rfl, by decide +kernel, rfl, by decide +kernel, by decide +kernel⟩
noncomputable def cs_added_0 : Scope := { kind := .function, names := [(".0", .local), ("entries", .local), ("max", .globalImplicit)], isGenerator := false, isCoroutine := false, more := [] }
theorem co_added_0 : CompOk (defScope s_added) cs_added_0 ["one", "other", "step", "other_step", "common", "head", "length", "heads", "head_and_bar", "bar_and_head", "bars", "figures"] "entries" [] [] := ⟨rfl, by decide +kernel, by decide +kernel, by decide +kernel, by decide +kernel, by decide +kernel, rfl, by decide +kernel⟩
set_option maxHeartbeats 1000000 in
theorem ok_added (TX : Txt K mg) (D_common_bar : DefOk P w K mg base k "common_bar" ["one", "other"] (spComBar K)) (D_summed : DefOk P w K mg base k "summed" ["days", "others", "steps", "length"] (spSummed K)) (D_told : DefOk P w K mg base k "told" ["head", "bar"] (spTold K)) (D_days_of_head : DefOk P w K mg base k "days_of_head" ["pulse"] (spDaysH K)) (D_first_days_of_bar : DefOk P w K mg base k "first_days_of_bar" ["pulse"] (spDaysB K)) (F : Txt1 K mg "added" s_added ["one", "other"]) : DefOk P w K mg base (k + 1) "added" ["one", "other"] (spAdded0 K) := by
  refine F.ok sc_added (fun vs H Q E h => ?_) (fun f cdv A outer s H vs Q E hr h => ?_)
  · first | (obtain ⟨rfl, _⟩ := h; rfl) | (obtain ⟨_, rfl, _⟩ := h; rfl) | (obtain ⟨_, _, rfl, _⟩ := h; rfl) | (obtain ⟨_, _, _, rfl, _⟩ := h; rfl) | (obtain ⟨_, _, _, _, rfl, _⟩ := h; rfl) | (obtain ⟨_, _, _, _, _, rfl, _⟩ := h; rfl) | (obtain ⟨_, _, _, _, _, _, rfl, _⟩ := h; rfl) | (obtain ⟨_, _, _, _, _, _, _, rfl, _⟩ := h; rfl) | (obtain ⟨_, _, _, _, _, _, _, _, rfl, _⟩ := h; rfl) | (obtain ⟨_, _, _, _, _, _, _, _, _, rfl, _⟩ := h; rfl)
  obtain ⟨p, q, h, b, h', b', rfl, pu, pu', res⟩ := h
  refine ⟨_, pss_cons (ps_set (i := 2) sc_added.nd rfl (Or.inl rfl) (pe_callB (call_lenK K) rfl TX.b_len PySem.boot_len (pa_cons (pe_ix (ix_tupK K) (pv 0) pe_int (fun _ _ => rfl)) pa_nil)))
      (pss_cons (ps_set (i := 3) sc_added.nd rfl (Or.inl rfl) (pe_callB (call_lenK K) rfl TX.b_len PySem.boot_len (pa_cons (pe_ix (ix_tupK K) (pv 1) pe_int (fun _ _ => rfl)) pa_nil)))
      (pss_cons (ps_set (i := 4) sc_added.nd rfl (Or.inl rfl) (pe_callD D_common_bar hr rfl (pa_cons (pv 0) (pa_cons (pv 1) pa_nil))))
      (pss_cons (ps_set (i := 5) sc_added.nd rfl (Or.inl rfl) (pe_op op_add (pe_op op_add (pe_op op_add (pe_op op_add (pe_callB (call_lenK K) rfl TX.b_len PySem.boot_len (pa_cons (pe_ix (ix_tupK K) (pv 0) pe_int (fun _ _ => rfl)) pa_nil)) (pe_callB (call_lenK K) rfl TX.b_len PySem.boot_len (pa_cons (pe_ix (ix_tupK K) (pv 1) pe_int (fun _ _ => rfl)) pa_nil))) (pv 2)) (pv 3)) (pv 4)))
      (pss_cons (ps_set (i := 6) sc_added.nd rfl (Or.inl rfl) (pe_op op_add (pv 5) (pv 4)))
      (pss_cons (ps_set (i := 7) sc_added.nd rfl (Or.inl rfl) (pe_callD D_summed hr rfl (pa_cons (pe_callD D_days_of_head hr rfl (pa_cons (pv 0) pa_nil)) (pa_cons (pe_callD D_days_of_head hr rfl (pa_cons (pv 1) pa_nil)) (pa_cons (pe_lst pa_nil) (pa_cons (pv 6) pa_nil))))))
      (pss_cons (ps_set (i := 8) sc_added.nd rfl (Or.inl rfl) (pe_callD D_summed hr rfl (pa_cons (pe_callD D_days_of_head hr rfl (pa_cons (pv 0) pa_nil)) (pa_cons (pe_callD D_first_days_of_bar hr rfl (pa_cons (pv 1) pa_nil)) (pa_cons (pe_lst (pa_cons (pv 3) pa_nil)) (pa_cons (pv 6) pa_nil))))))
      (pss_cons (ps_set (i := 9) sc_added.nd rfl (Or.inl rfl) (pe_callD D_summed hr rfl (pa_cons (pe_callD D_first_days_of_bar hr rfl (pa_cons (pv 0) pa_nil)) (pa_cons (pe_callD D_days_of_head hr rfl (pa_cons (pv 1) pa_nil)) (pa_cons (pe_lst (pa_cons (pv 2) pa_nil)) (pa_cons (pv 6) pa_nil))))))
      (pss_cons (ps_set (i := 10) sc_added.nd rfl (Or.inl rfl) (pe_callD D_summed hr rfl (pa_cons (pe_callD D_first_days_of_bar hr rfl (pa_cons (pv 0) pa_nil)) (pa_cons (pe_callD D_first_days_of_bar hr rfl (pa_cons (pv 1) pa_nil)) (pa_cons (pe_lst (pa_cons (pv 2) (pa_cons (pv 3) pa_nil))) (pa_cons (pv 6) pa_nil))))))
      (pss_cons (ps_setC (k := 11) rfl co_added_0 (pi_zip4 rfl TX.b_zip (pa_cons (pv 7) (pa_cons (pv 8) (pa_cons (pv 9) (pa_cons (pv 10) pa_nil))))) (fun _ _ _ _ => pts_nil) (fun _ _ _ _ => (pe_callB (call_maxSK K rfl) rfl TX.b_max PyProof.Rows.boot_max (pa_cons (pv 0) pa_nil))) sc_added.nd rfl (Or.inl rfl))
      (pss_one (ps_ret (pe_callD D_told hr rfl (pa_cons (pe_slice (sl_listK K) (pv 11) po_none (po_some (pv 5))) (pa_cons (pe_slice (sl_listK K) (pv 11) (po_some (pv 5)) po_none) pa_nil)))))))))))))), ?_⟩
  obtain ⟨x, y, e1, e2, e3⟩ := id pu.pl
  obtain ⟨x', y', e1', e2', e3'⟩ := id pu'.pl
  have hb := pu.t.pos
  have hb' := pu'.t.pos
  have l1 := pu.lh
  have l2 := pu'.lh
  have l3 := pu.lb
  have l4 := pu'.lb
  have z1 : (((h.map V.int).length : Nat) : Int) = (h.length : Int) := by rw [List.length_map]
  have z2 : (((h'.map V.int).length : Nat) : Int) = (h'.length : Int) := by rw [List.length_map]
  have z3 : (((b.map V.int).length : Nat) : Int) = (b.length : Int) := by rw [List.length_map]
  have z4 : (((b'.map V.int).length : Nat) : Int) = (b'.length : Int) := by rw [List.length_map]
  refine seqG fun N1 k1' => ?_
  refine ⟨_, rfl, _, _, _, _, rfl, rfl, e1, at1, _, _, rfl, .inr e3, ?_⟩
  refine k1' _ _ (seqG fun N2 k2' => ?_)
  refine ⟨_, rfl, _, _, _, _, rfl, rfl, e1', at1, _, _, rfl, .inr e3', ?_⟩
  rw [z3, z4]
  refine k2' _ _ (seqG fun N3 k3' => ?_)
  refine ⟨_, rfl, _, rfl, p, q, h, b, h', b', rfl, pu.pl, pu'.pl, hb, hb', fun L hL dv1 dv2 lL => ?_⟩
  have lL2 : L ≤ 40000 := Nat.le_trans lL (Nat.mul_le_mul l3 l4)
  refine k3' _ _ (seqG fun N4 k4' => ?_)
  refine ⟨_, rfl, _, _, _, _, rfl, rfl, e1, at0, _, _, rfl, .inr e2, _, rfl, _, _, _, _, rfl, rfl, e1', at0, _, _, rfl, .inr e2', _, _, rfl, rfl, _, rfl, _, _, rfl, rfl, _, rfl, _, _, rfl, rfl, _, rfl, _, _, rfl, rfl, ?_⟩
  dsimp -proj only
  obtain ⟨M, hM, eM⟩ : ∃ M : Nat, (((h.map V.int).length : Nat) : Int) + (((h'.map V.int).length : Nat) : Int) + (b.length : Int) + (b'.length : Int) + (L : Int) = (M : Int) ∧ M = h.length + h'.length + b.length + b'.length + L := ⟨_, by rw [z1, z2]; (first | lia | omega), rfl⟩
  rw [hM]
  refine k4' _ _ (seqG fun N5 k5' => ?_)
  refine ⟨_, rfl, _, rfl, _, _, rfl, rfl, ?_⟩
  dsimp -proj only
  obtain ⟨N, hN, eN⟩ : ∃ N : Nat, (M : Int) + (L : Int) = (N : Int) ∧ N = M + L := ⟨_, by (first | lia | omega), rfl⟩
  rw [hN]
  have lh : ∀ {u}, u ∈ ones h → u < h.length := fun m => (mem_ones.mp m).1
  have lh' : ∀ {u}, u ∈ ones h' → u < h'.length := fun m => (mem_ones.mp m).1
  have lb : ∀ {u}, u ∈ (ones b).map (fun p => h.length + p) → u < h.length + b.length := fun m => by
    obtain ⟨v, hv, rfl⟩ := List.mem_map.mp m
    have := (mem_ones.mp hv).1
    (first | lia | omega)
  have lb' : ∀ {u}, u ∈ (ones b').map (fun p => h'.length + p) → u < h'.length + b'.length := fun m => by
    obtain ⟨v, hv, rfl⟩ := List.mem_map.mp m
    have := (mem_ones.mp hv).1
    (first | lia | omega)
  refine k5' _ _ (seqG fun N6 k6' => ?_)
  refine ⟨_, rfl, p, h, b, rfl, pu.pl, by (first | lia | omega), fun r1 H1 s1 f1 => ⟨_, rfl, q, h', b', rfl, pu'.pl.same s1, by (first | lia | omega), fun r2 H2 s2 f2 => ⟨Nat.zero_le _, fun r3 n3 => ?_⟩⟩⟩
  have s3 := Same.new n3 (.lst [])
  refine ⟨_, rfl, r1, r2, r3, ones h, ones h', [], N, rfl, SqL.of (s3 _ _ (s2 _ _ f1)), SqL.of (s3 _ _ f2), SqL.of upd_same, fun u hu v hv => by have := lh hu; have := lh' hv; (first | lia | omega), fun _ u => (by cases u), by (first | lia | omega), fun g1 gs1 H4 s4 fg1 lg1 bg1 dg1 => ?_⟩
  have S4 := s1.trans (s2.trans (s3.trans s4))
  clear f1 f2 s1 s2 s3 n3
  refine k6' _ _ (seqG fun N7 k7' => ?_)
  refine ⟨_, rfl, p, h, b, rfl, pu.pl.same S4, by (first | lia | omega), fun r1 H1 s1 f1 => ⟨_, rfl, q, h', b', rfl, pu'.pl.same (S4.trans s1), by (first | lia | omega), fun r2 H2 s2 f2 => ⟨_, rfl, smallb, fun r3 n3 => ?_⟩⟩⟩
  have s3 := Same.new n3 (.lst [.int (b'.length : Int)])
  refine ⟨_, rfl, r1, r2, r3, ones h, (ones b').map (fun p => h'.length + p), [b'.length], N, rfl, SqL.of (s3 _ _ (s2 _ _ f1)), SqL.of (s3 _ _ f2), SqL.of upd_same, fun u hu v hv => by have := lh hu; have := lb' hv; (first | lia | omega), fun u hu => by rw [List.mem_singleton.mp hu]; (first | lia | omega), by (first | lia | omega), fun g2 gs2 H5 s5 fg2 lg2 bg2 dg2 => ?_⟩
  have S45 := s1.trans (s2.trans (s3.trans s5))
  have S5 := S4.trans S45
  have fg1 := S45 _ _ fg1
  clear f1 f2 s1 s2 s3 n3 s5 S45
  refine k7' _ _ (seqG fun N8 k8' => ?_)
  refine ⟨_, rfl, p, h, b, rfl, pu.pl.same S5, by (first | lia | omega), fun r1 H1 s1 f1 => ⟨_, rfl, q, h', b', rfl, pu'.pl.same (S5.trans s1), by (first | lia | omega), fun r2 H2 s2 f2 => ⟨_, rfl, smallb, fun r3 n3 => ?_⟩⟩⟩
  have s3 := Same.new n3 (.lst [.int (b.length : Int)])
  refine ⟨_, rfl, r1, r2, r3, (ones b).map (fun p => h.length + p), ones h', [b.length], N, rfl, SqL.of (s3 _ _ (s2 _ _ f1)), SqL.of (s3 _ _ f2), SqL.of upd_same, fun u hu v hv => by have := lb hu; have := lh' hv; (first | lia | omega), fun u hu => by rw [List.mem_singleton.mp hu]; (first | lia | omega), by (first | lia | omega), fun g3 gs3 H6 s6 fg3 lg3 bg3 dg3 => ?_⟩
  have S56 := s1.trans (s2.trans (s3.trans s6))
  have S6 := S5.trans S56
  have fg1 := S56 _ _ fg1
  have fg2 := S56 _ _ fg2
  clear f1 f2 s1 s2 s3 n3 s6 S56
  refine k8' _ _ (seqG fun N9 k9' => ?_)
  refine ⟨_, rfl, p, h, b, rfl, pu.pl.same S6, by (first | lia | omega), fun r1 H1 s1 f1 => ⟨_, rfl, q, h', b', rfl, pu'.pl.same (S6.trans s1), by (first | lia | omega), fun r2 H2 s2 f2 => ⟨_, rfl, _, rfl, smallb, fun r3 n3 => ?_⟩⟩⟩
  have s3 := Same.new n3 (.lst [.int (b.length : Int), .int (b'.length : Int)])
  refine ⟨_, rfl, r1, r2, r3, (ones b).map (fun p => h.length + p), (ones b').map (fun p => h'.length + p), [b.length, b'.length], N, rfl, SqL.of (s3 _ _ (s2 _ _ f1)), SqL.of (s3 _ _ f2), SqL.of upd_same, fun u hu v hv => by have := lb hu; have := lb' hv; (first | lia | omega), fun u hu => by
    simp only [List.mem_cons, List.not_mem_nil, or_false] at hu
    (first | lia | omega), by (first | lia | omega), fun g4 gs4 H7 s7 fg4 lg4 bg4 dg4 => ?_⟩
  have S67 := s1.trans (s2.trans (s3.trans s7))
  have S7 := S6.trans S67
  have fg1 := S67 _ _ fg1
  have fg2 := S67 _ _ fg2
  have fg3 := S67 _ _ fg3
  clear f1 f2 s1 s2 s3 n3 s7 S67
  have row : ∀ gs : List Int, gs.length = N → gs.map V.int = (List.range N).map fun i => V.int (gs.getD i 0) := fun gs lg => by
    have : gs = (List.range N).map fun i => gs.getD i 0 := Pm.ext_getD (by rw [lg, List.length_map, List.length_range]) fun i hi => by
      rw [getD_range (by (first | lia | omega))]
    conv => lhs; rw [this]
    rw [List.map_map]
    rfl
  rw [row gs1 lg1] at fg1
  rw [row gs2 lg2] at fg2
  rw [row gs3 lg3] at fg3
  rw [row gs4 lg4] at fg4
  refine k9' _ _ (seqG fun N10 k10' => ?_)
  refine ⟨_, rfl, _, rfl, _, rfl, _, rfl, g1, g2, g3, g4, rfl, ⟨_, SqL.of fg1⟩, ⟨_, SqL.of fg2⟩, ⟨_, SqL.of fg3⟩, ⟨_, SqL.of fg4⟩, ?_⟩
  refine comp_zip4 (SqL.of fg1) (SqL.of fg2) (SqL.of fg3) (SqL.of fg4) (Nat.le_trans (show N ≤ 90000 by (first | lia | omega)) (by decide)) (fun i => some (.int (addF (fig h b) (fig h' b') i))) (fun i T' H' hi sm hT => ?_) (fun r H8 s8 n8 er => ?_)
  · refine ⟨_, rfl, T', [gs1.getD i 0, gs2.getD i 0, gs3.getD i 0, gs4.getD i 0], rfl, .inr (SqT.of hT), by simp, fun Mx hm hall => ⟨Same.refl _, ?_⟩⟩
    have k1 := dg1 i hi
    have k2 := dg2 i hi
    have k3 := dg3 i hi
    have k4 := dg4 i hi
    have w1 := row01 bg1 i
    have w2 := row01 bg2 i
    have w3 := row01 bg3 i
    have w4 := row01 bg4 i
    have a1 := hall _ List.mem_cons_self
    have a2 := hall _ (List.mem_cons_of_mem _ List.mem_cons_self)
    have a3 := hall _ (List.mem_cons_of_mem _ (List.mem_cons_of_mem _ List.mem_cons_self))
    have a4 := hall _ (List.mem_cons_of_mem _ (List.mem_cons_of_mem _ (List.mem_cons_of_mem _ List.mem_cons_self)))
    have ap := add_parts (h := h) (h' := h') hb hb' (d := i)
    rw [← k1, ← k2, ← k3, ← k4] at ap
    have fd := addF_01 (fig h b) (fig h' b') i
    simp only [List.mem_cons, List.not_mem_nil, or_false] at hm
    dsimp only at w1 w2 w3 w4
    generalize gs1.getD i 0 = c1 at *
    generalize gs2.getD i 0 = c2 at *
    generalize gs3.getD i 0 = c3 at *
    generalize gs4.getD i 0 = c4 at *
    generalize addF (fig h b) (fig h' b') i = fd' at *
    congr 2
    (first | lia | omega)
  rw [filterMap_some_map, map_int (fun i => addF (fig h b) (fig h' b') i), eN] at er
  refine k10' _ _ ?_
  refine ⟨_, rfl, _, rfl, _, rfl, r, _, rfl, SqL.of er, fun p1 H9 s9 n9 e9 => ⟨_, rfl, _, rfl, _, rfl, r, _, rfl, SqL.of (s9 _ _ er), fun p2 Ha sa na ea => ?_⟩⟩
  rw [cut_to, Pm.range_take] at e9
  rw [cut_from, Pm.range_drop] at ea
  have pr : Per (addF (fig h b) (fig h' b')) L M := (per_add hL ((per_fig h b).of_dvd dv1) ((per_fig h' b').of_dvd dv2)).up (by (first | lia | omega))
  have al : ∀ d, fig ((List.range M).map fun i => addF (fig h b) (fig h' b') i) ((List.range L).map fun i => addF (fig h b) (fig h' b') (M + i)) d = addF (fig h b) (fig h' b') d := fun d => fig_cyc (g := fun i => addF (fig h b) (fig h' b') i) hL pr d
  refine ⟨p1, p2, _, _, rfl, .inl (SqL.of (sa _ _ e9)), .inl (SqL.of ea), by rw [List.length_map, List.length_range]; exact hL, by rw [List.length_map, List.length_range]; (first | lia | omega), by rw [List.length_map, List.length_range]; (first | lia | omega), res.told (S7.trans (s8.trans (s9.trans sa))) fun hh bb a d => (a d).trans (al d)⟩
noncomputable abbrev s_all_sums : Stmt := top 46
theorem sc_all_sums : FnScope ["numbers", "head", "figures"] ["numbers"] (defScope s_all_sums) := ⟨rfl, rfl, rfl, by decide +kernel, rfl, by decide +kernel, by decide +kernel⟩
set_option maxHeartbeats 1000000 in
theorem ok_all_sums (TX : Txt K mg) (D_summed : DefOk P w K mg base k "summed" ["days", "others", "steps", "length"] (spSummed K)) (D_told : DefOk P w K mg base k "told" ["head", "bar"] (spTold K)) (D_is_list : DefOk P w K mg base k "is_list" ["value", "fewest", "most"] (spIsList K)) (D_are_numbers : DefOk P w K mg base k "are_numbers" ["entries", "least", "greatest"] (spAreL K)) (F : Txt1 K mg "all_sums" s_all_sums ["numbers"]) : DefOk P w K mg base (k + 1) "all_sums" ["numbers"] (spSums K) := by
  refine F.ok sc_all_sums (fun vs H Q E h => ?_) (fun f cdv A outer s H vs Q E hr h => ?_)
  · first | (obtain ⟨rfl, _⟩ := h; rfl) | (obtain ⟨_, rfl, _⟩ := h; rfl) | (obtain ⟨_, _, rfl, _⟩ := h; rfl) | (obtain ⟨_, _, _, rfl, _⟩ := h; rfl) | (obtain ⟨_, _, _, _, rfl, _⟩ := h; rfl) | (obtain ⟨_, _, _, _, _, rfl, _⟩ := h; rfl) | (obtain ⟨_, _, _, _, _, _, rfl, _⟩ := h; rfl) | (obtain ⟨_, _, _, _, _, _, _, rfl, _⟩ := h; rfl) | (obtain ⟨_, _, _, _, _, _, _, _, rfl, _⟩ := h; rfl) | (obtain ⟨_, _, _, _, _, _, _, _, _, rfl, _⟩ := h; rfl)
  obtain ⟨t_MOST_NUMBERS, g_MOST_NUMBERS⟩ := TX.g_MOST_NUMBERS
  obtain ⟨t_GREATEST_NUMBER, g_GREATEST_NUMBER⟩ := TX.g_GREATEST_NUMBER
  obtain ⟨a, ns, rfl, ha, nm, k⟩ := h
  refine ⟨_, pss_cons (ps_if (PW.pt (pw_or (pt_not (pt_val (pe_callD D_is_list hr rfl (pa_cons (pv 0) (pa_cons pe_int (pa_cons (pe_glob (v := .int 6) rfl g_MOST_NUMBERS ⟨_, rfl⟩) pa_nil)))) (fun _ => rfl))) (pw_or1 (pt_not (pt_val (pe_callD D_are_numbers hr rfl (pa_cons (pv 0) (pa_cons pe_int (pa_cons (pe_glob (v := .int 20) rfl g_GREATEST_NUMBER ⟨_, rfl⟩) pa_nil)))) (fun _ => rfl)))))) (pss_one (ps_never)) pss_nil)
      (pss_cons (ps_set (i := 1) sc_all_sums.nd rfl (Or.inl rfl) (pe_op op_mul (pe_glob (v := .int 20) rfl g_GREATEST_NUMBER ⟨_, rfl⟩) (pe_glob (v := .int 20) rfl g_GREATEST_NUMBER ⟨_, rfl⟩)))
      (pss_cons (ps_set (i := 2) sc_all_sums.nd rfl (Or.inl rfl) (pe_callD D_summed hr rfl (pa_cons (pe_lst (pa_cons pe_int pa_nil)) (pa_cons (pe_lst (pa_cons pe_int pa_nil)) (pa_cons (pv 0) (pa_cons (pe_op op_add (pv 1) (pe_ix (ix_listK K) (pv 0) pe_int (fun _ _ => rfl))) pa_nil))))))
      (pss_one (ps_ret (pe_callD D_told hr rfl (pa_cons (pe_slice (sl_listK K) (pv 2) po_none (po_some (pv 1))) (pa_cons (pe_slice (sl_listK K) (pv 2) (po_some (pv 1)) po_none) pa_nil))))))), ?_⟩
  have n0 := len_pos nm.ne
  have il : inLen 1 6 (some (ns.map vN).length) = true := by
    have := nm.len
    show (decide _ && decide _) = true
    rw [List.length_map, decide_eq_true (show (1 : Int) ≤ (ns.length : Int) by (first | lia | omega)), decide_eq_true (show (ns.length : Int) ≤ 6 by (first | lia | omega))]; rfl
  refine ⟨_, rfl, _, _, _, _, rfl, .lst ha, ?_⟩
  rw [il]
  refine ⟨_, rfl, ?_⟩
  refine iteF ?_
  refine ⟨_, rfl, a, _, _, _, rfl, ha, flat_nats ns, by rw [List.length_map]; have := nm.len; (first | lia | omega), fun H1 s1 => ?_⟩
  have e20 : (ns.map vN).all (isNum 20) = true := nums_nats nm.bnd
  rw [inB_nums, e20]
  refine ⟨_, rfl, ?_⟩
  refine iteF ?_
  obtain ⟨m, hm⟩ : ∃ m, ns.getD 0 0 = m := ⟨_, rfl⟩
  have mem : m ∈ ns := by
    rw [← hm, List.getD_eq_getElem?_getD, List.getElem?_eq_getElem n0]; exact List.getElem_mem n0
  obtain ⟨m1, m20⟩ := nm.bnd m mem
  refine ⟨_, _, rfl, rfl, .inl ⟨by decide, by decide⟩, smallb, fun p1 hp1 => ⟨smallb, fun p2 hp2 => ?_⟩⟩
  have t1 := Same.new hp1 (.lst [.int 0])
  have t2 := Same.new hp2 (.lst [.int 0])
  have t12 := s1.trans (t1.trans t2)
  refine ⟨_, rfl, _, rfl, _, rfl, a, _, _, _, rfl, rfl, t12.seq ha, at_nats (k := 0) rfl n0, _, _, rfl, rfl, p1, p2, a, [0], [0], ns, 400 + m, ?_, SqL.of (t2 _ _ upd_same), SqL.of upd_same, t12.seq ha, ?_, fun n hn => ?_, by (first | lia | omega), fun r gs H2 s2 f2 lg bg dg => ?_⟩
  · rw [hm]; rfl
  · intro x hx y hy
    rw [List.mem_singleton.mp hx, List.mem_singleton.mp hy]; (first | lia | omega)
  · have := nm.bnd n hn; (first | lia | omega)
  have eg : gs = (List.range (400 + m)).map (sumF ns) := by
    refine Pm.ext_getD (by rw [lg, List.length_map, List.length_range]) fun i hi => ?_
    rw [lg] at hi
    rw [getD_range hi]
    have q := (dg i hi).trans sum_all.symm
    exact eq_of_iff (f := fun i => gs.getD i 0) (row01 bg) (sumF_01 ns) q
  rw [eg] at f2
  have pr : Per (sumF ns) m 400 := (per_sumA (m := 20) nm.bnd mem).up (by decide)
  refine ⟨_, rfl, _, rfl, _, rfl, r, _, rfl, SqL.of f2, fun p3 H4 s4 n4 e4 => ⟨_, rfl, _, rfl, _, rfl, r, _, rfl, SqL.of (s4 _ _ f2), fun p4 H5 s5 n5 e5 => ?_⟩⟩
  have e4 : H4 p3 = some (.lst (((List.range 400).map (sumF ns)).map V.int)) := by rw [← Pm.range_take (sumF ns) 400 m, ← cut_to]; exact e4
  have e5 : H5 p4 = some (.lst (((List.range m).map fun i => sumF ns (400 + i)).map V.int)) := by rw [← Pm.range_drop (sumF ns) 400 m, ← cut_from]; exact e5
  have al : ∀ d, fig ((List.range 400).map (sumF ns)) ((List.range m).map fun i => sumF ns (400 + i)) d = sumF ns d := fun d => fig_cyc (g := sumF ns) m1 pr d
  refine ⟨p3, p4, _, _, rfl, .inl (SqL.of (s5 _ _ e4)), .inl (SqL.of e5), by rw [List.length_map, List.length_range]; exact m1, by rw [List.length_map, List.length_range]; decide, by rw [List.length_map, List.length_range]; (first | lia | omega), (NR.told (K := K) (Q := Q) (S := fun hh bb => ∀ d, fig hh bb d = sumF ns d) ⟨fun hh bb t ef => ?_, fun r' hh bb H6 s6 pl t ef => ?_⟩ (t12.trans (s2.trans (s4.trans s5))) fun hh bb al2 d => (al2 d).trans (al d))⟩
  · obtain ⟨g1, g2⟩ := per_fits t ef m1 pr
    have g3 := Nat.le_of_dvd m1 g2
    exact ⟨g1, by (first | lia | omega)⟩
  · obtain ⟨g1, g2⟩ := per_fits t ef m1 pr
    have g3 := Nat.le_of_dvd m1 g2
    exact k r' hh bb H6 s6 (Pu.mk' pl t ef (sumF_01 ns) ⟨g1, by (first | lia | omega)⟩) ef
noncomputable abbrev s_is_walk : Stmt := top 49
theorem sc_is_walk : FnScope ["steps", "marks", "start", "last"] ["steps", "marks", "start"] (defScope s_is_walk) := ⟨rfl, rfl, rfl, by decide +kernel, rfl, by decide +kernel, by decide +kernel⟩
set_option maxHeartbeats 1000000 in
theorem ok_is_walk (TX : Txt K mg) (D_are_numbers : DefOk P w K mg base k "are_numbers" ["entries", "least", "greatest"] (spAreL K)) (D_is_number : DefOk P w K mg base k "is_number" ["value", "least", "greatest"] (spIsNumber)) (D_is_list : DefOk P w K mg base k "is_list" ["value", "fewest", "most"] (spIsList K)) (F : Txt1 K mg "is_walk" s_is_walk ["steps", "marks", "start"]) : DefOk P w K mg base (k + 1) "is_walk" ["steps", "marks", "start"] (spIsWalk K) := by
  refine F.ok sc_is_walk (fun vs H Q E h => ?_) (fun f cdv A outer s H vs Q E hr h => ?_)
  · first | (obtain ⟨rfl, _⟩ := h; rfl) | (obtain ⟨_, rfl, _⟩ := h; rfl) | (obtain ⟨_, _, rfl, _⟩ := h; rfl) | (obtain ⟨_, _, _, rfl, _⟩ := h; rfl) | (obtain ⟨_, _, _, _, rfl, _⟩ := h; rfl) | (obtain ⟨_, _, _, _, _, rfl, _⟩ := h; rfl) | (obtain ⟨_, _, _, _, _, _, rfl, _⟩ := h; rfl) | (obtain ⟨_, _, _, _, _, _, _, rfl, _⟩ := h; rfl) | (obtain ⟨_, _, _, _, _, _, _, _, rfl, _⟩ := h; rfl) | (obtain ⟨_, _, _, _, _, _, _, _, _, rfl, _⟩ := h; rfl)
  obtain ⟨t_MOST_PLACES, g_MOST_PLACES⟩ := TX.g_MOST_PLACES
  obtain ⟨x, y, z, ox, oy, rfl, hx, hy, fz, q⟩ := h
  refine ⟨_, pss_cons (ps_if (PW.pt (pw_or (pt_not (pt_val (pe_callD D_is_list hr rfl (pa_cons (pv 0) (pa_cons pe_int (pa_cons (pe_glob (v := .int 400) rfl g_MOST_PLACES ⟨_, rfl⟩) pa_nil)))) (fun _ => rfl))) (pw_or1 (pt_not (pt_val (pe_callD D_is_list hr rfl (pa_cons (pv 1) (pa_cons (pe_callB (call_lenK K) rfl TX.b_len PySem.boot_len (pa_cons (pv 0) pa_nil)) (pa_cons (pe_callB (call_lenK K) rfl TX.b_len PySem.boot_len (pa_cons (pv 0) pa_nil)) pa_nil)))) (fun _ => rfl)))))) (pss_one (ps_ret pe_bl)) pss_nil)
      (pss_cons (ps_set (i := 3) sc_is_walk.nd rfl (Or.inl rfl) (pe_op op_sub (pe_callB (call_lenK K) rfl TX.b_len PySem.boot_len (pa_cons (pv 0) pa_nil)) pe_int))
      (pss_one (ps_ret (pe_and (pe_callD D_are_numbers hr rfl (pa_cons (pv 0) (pa_cons pe_int (pa_cons (pv 3) pa_nil)))) (pe_and (pe_callD D_are_numbers hr rfl (pa_cons (pv 1) (pa_cons pe_int (pa_cons pe_int pa_nil)))) (pe_one (pe_callD D_is_number hr rfl (pa_cons (pv 2) (pa_cons pe_int (pa_cons (pv 3) pa_nil)))))))))), ?_⟩
  refine ⟨_, rfl, _, _, _, _, rfl, hx.n, _, rfl, ?_⟩
  cases ox with
  | none => exact q H (Same.refl _)
  | some xs =>
    cases hx with
    | @lst a _ h1 f1 l1 =>
      refine ite2 (fun c => ?_) (fun c => ?_)
      · have c : (!(decide (1 ≤ (xs.length : Int)) && decide ((xs.length : Int) ≤ 400))) = true := c
        have e : isWalk (some xs) oy z = false := by
          cases oy with
          | none => rfl
          | some ys =>
            show (decide _ && decide _ && _ && _ && _ && _) = false
            rw [notT c]; rfl
        rw [e] at q
        exact q H (Same.refl _)
      have c : (decide (1 ≤ (xs.length : Int)) && decide ((xs.length : Int) ≤ 400)) = true := notF c
      refine ⟨_, rfl, _, rfl, _, _, rfl, .inl h1, _, rfl, _, _, rfl, .inl h1, _, _, _, _, rfl, hy.n, _, rfl, ?_⟩
      cases oy with
      | none => exact q H (Same.refl _)
      | some ys =>
        cases hy with
        | @lst b _ h2 f2 l2 =>
          have e : isWalk (some xs) (some ys) z = (decide (ys.length = xs.length) && xs.all (isBelow xs.length) && ys.all isFig && isBelow xs.length z) := by
            show (decide (1 ≤ (xs.length : Int)) && decide ((xs.length : Int) ≤ 400) && _ && _ && _ && _) = _
            rw [c]; rfl
          rw [e] at q
          clear e
          refine ite2 (fun d => ?_) (fun d => ?_)
          · have d : (!(decide ((xs.length : Int) ≤ (ys.length : Int)) && decide ((ys.length : Int) ≤ (xs.length : Int)))) = true := d
            have n : ¬ ys.length = xs.length := fun u => by
              rw [u, decide_eq_true (Int.le_refl _)] at d
              exact absurd d (by decide)
            rw [decide_eq_false n] at q
            exact q H (Same.refl _)
          have d : (decide ((xs.length : Int) ≤ (ys.length : Int)) && decide ((ys.length : Int) ≤ (xs.length : Int))) = true := notF d
          have ee : ys.length = xs.length := by
            rw [Bool.and_eq_true, decide_eq_true_iff, decide_eq_true_iff] at d
            (first | lia | omega)
          rw [decide_eq_true ee, Bool.true_and] at q
          refine ⟨_, rfl, _, _, rfl, .inl h1, _, _, rfl, rfl, ?_⟩
          refine ⟨_, rfl, _, rfl, a, xs, _, _, rfl, h1, f1, l1, fun H1 s1 => ⟨_, rfl, ?_⟩⟩
          rw [inB_belows]
          cases e1 : xs.all (isBelow xs.length) with
          | false =>
            rw [e1] at q
            exact q H1 s1
          | true =>
            rw [e1] at q
            refine ⟨_, rfl, b, ys, _, _, rfl, s1.seq h2, f2, l2, fun H2 s2 => ⟨_, rfl, ?_⟩⟩
            rw [inB_figs]
            cases e2 : ys.all isFig with
            | false =>
              rw [e2] at q
              exact q H2 (s1.trans s2)
            | true =>
              rw [e2] at q
              refine ⟨_, rfl, _, rfl, z, _, _, rfl, fz, ?_⟩
              rw [inB_below]
              exact q H2 (s1.trans s2)
noncomputable abbrev s_walked : Stmt := top 50
theorem sc_walked : FnScope ["steps", "marks", "start", "days", "place", "figures"] ["steps", "marks", "start"] (defScope s_walked) := ⟨rfl, rfl, rfl, by decide +kernel, rfl, by decide +kernel, by decide +kernel⟩
noncomputable def cs_walked_0 : Scope := { kind := .function, names := [(".0", .local), ("seen", .local), ("marks", .free)], isGenerator := false, isCoroutine := false, more := [] }
theorem co_walked_0 : CompOk (defScope s_walked) cs_walked_0 ["steps", "marks", "start", "days", "place", "figures"] "seen" ["marks"] [1] := ⟨rfl, by decide +kernel, by decide +kernel, by decide +kernel, by decide +kernel, by decide +kernel, rfl, by decide +kernel⟩
set_option maxHeartbeats 1000000 in
theorem ok_walked (TX : Txt K mg) (D_told : DefOk P w K mg base k "told" ["head", "bar"] (spTold K)) (D_is_walk : DefOk P w K mg base k "is_walk" ["steps", "marks", "start"] (spIsWalk K)) (F : Txt1 K mg "walked" s_walked ["steps", "marks", "start"]) : DefOk P w K mg base (k + 1) "walked" ["steps", "marks", "start"] (spWalked0 K) := by
  refine F.ok sc_walked (fun vs H Q E h => ?_) (fun f cdv A outer s H vs Q E hr h => ?_)
  · first | (obtain ⟨rfl, _⟩ := h; rfl) | (obtain ⟨_, rfl, _⟩ := h; rfl) | (obtain ⟨_, _, rfl, _⟩ := h; rfl) | (obtain ⟨_, _, _, rfl, _⟩ := h; rfl) | (obtain ⟨_, _, _, _, rfl, _⟩ := h; rfl) | (obtain ⟨_, _, _, _, _, rfl, _⟩ := h; rfl) | (obtain ⟨_, _, _, _, _, _, rfl, _⟩ := h; rfl) | (obtain ⟨_, _, _, _, _, _, _, rfl, _⟩ := h; rfl) | (obtain ⟨_, _, _, _, _, _, _, _, rfl, _⟩ := h; rfl) | (obtain ⟨_, _, _, _, _, _, _, _, _, rfl, _⟩ := h; rfl)
  have hu := hr.units
  obtain ⟨a, c, st, mk, s, rfl, ha, hc, ok, k⟩ := h
  refine ⟨_, pss_cons (ps_if (pt_not (pt_val (pe_callD D_is_walk hr rfl (pa_cons (pv 0) (pa_cons (pv 1) (pa_cons (pv 2) pa_nil)))) (fun _ => rfl))) (pss_one (ps_never)) pss_nil)
      (pss_cons (ps_set (i := 3) sc_walked.nd rfl (Or.inl rfl) pe_dnewK)
      (pss_cons (ps_set (i := 4) sc_walked.nd rfl (Or.inl rfl) (pv 2))
      (pss_cons (ps_while PassesOwn.never (pt_cmp (pc_dnotin (hu_of hr) (pv 4) (pv 3))) (pss_cons (ps_dput (hu_of hr) (pv 3) (pv 4) (pe_callB call_lenD rfl TX.b_len PySem.boot_len (pa_cons (pv 3) pa_nil)) rfl)
        (pss_one (ps_set (i := 4) sc_walked.nd rfl (Or.inl rfl) (pe_ix (ix_listK K) (pv 0) (pv 4) (fun _ _ => rfl))))))
      (pss_cons (ps_setC (k := 5) rfl co_walked_0 (pi_dict (pv 3)) (fun _ _ _ _ => pts_nil) (fun _ _ _ _ => (pe_ix (ix_listK K) (pv 1) (pv 0) (fun _ _ => rfl))) sc_walked.nd rfl (Or.inl rfl))
      (pss_one (ps_ret (pe_callD D_told hr rfl (pa_cons (pe_slice (sl_listK K) (pv 5) po_none (po_some (pe_dget (hu_of hr) (pv 3) (pv 4) (fun _ _ => rfl)))) (pa_cons (pe_slice (sl_listK K) (pv 5) (po_some (pe_dget (hu_of hr) (pv 3) (pv 4) (fun _ _ => rfl))) po_none) pa_nil))))))))), ?_⟩
  have l4 := ok.max
  have lm := ok.len
  refine ⟨_, rfl, _, rfl, _, rfl, _, _, _, _, _, rfl, .lst ha (flat_nats st) (by rw [List.length_map]; (first | lia | omega)), .lst hc (flat_nats mk) (by rw [List.length_map]; (first | lia | omega)), rfl, fun H1 s1 => ⟨_, rfl, ?_⟩⟩
  rw [walk_is ok]
  refine iteF ?_
  intro p0 hp0
  refine ⟨_, rfl, ?_⟩
  have s2 := s1.trans (Same.new hp0 (.dK []))
  refine ⟨fun m σ H2 => ∃ n : Nat, σ = [some (V.ref a), some (V.ref c), some (V.int (s : Int)), some (V.ref p0), some (V.int ((walkAt st s n : Nat) : Int)), none] ∧ m = st.length - n ∧ Same H H2 ∧ H2 p0 = some (.dK (seenK st s n)) ∧ (∀ i j, i < j → j < n → walkAt st s i ≠ walkAt st s j), ⟨_, 0, rfl, rfl, s2, upd_same, fun i j h1 h2 => by (first | lia | omega)⟩, ?_⟩
  rintro m σ H2 ⟨n, rfl, rfl, s3, hd, inj⟩
  refine ⟨_, rfl, _, rfl, p0, _, rfl, DGet.k (k := Sum.inl ((walkAt st s n : Nat) : Int)) hd, _, rfl, ?_⟩
  cases e : valV (seenK st s n) (Sum.inl ((walkAt st s n : Nat) : Int)) with
  | none =>
    have inj2 : ∀ i j, i < j → j < n + 1 → walkAt st s i ≠ walkAt st s j := fun i j h1 h2 => by
      by_cases c : j < n
      · exact inj i j h1 c
      · obtain rfl : j = n := by (first | lia | omega)
        exact seen_none e h1
    have mx := seen_max ok inj2
    have hs : H p0 = none := by
      cases u : H p0 with
      | none => rfl
      | some o => rw [s1 p0 o u] at hp0; cases hp0
    have nl := seen_len st s n
    refine ⟨_, fun _ _ z => z, ?_⟩
    refine ⟨_, rfl, p0, _, rfl, hd, _, rfl, _, rfl, p0, _, rfl, DPut.k (k := Sum.inl ((walkAt st s n : Nat) : Int)) hd (by rw [nl]; exact small1000 (by (first | lia | omega))), ?_⟩
    have s4 : Same H (upd H2 p0 (.dK (putK (seenK st s n) (Sum.inl ((walkAt st s n : Nat) : Int)) (.int ((seenK st s n).length : Int))))) := s3.over hs
    have wl := walk_lt ok.stp ok.beg n
    refine ⟨_, rfl, _, rfl, a, _, _, _, rfl, rfl, s4.seq ha, at_nats rfl wl, ?_⟩
    refine ⟨st.length - (n + 1), by (first | lia | omega), n + 1, rfl, rfl, s4, ?_, inj2⟩
    rw [upd_same, putK_new _ e, seen_succ, nl]
  | some v =>
    obtain ⟨i0, lt0, e0, rfl⟩ := seen_some e
    have mx := seen_max ok inj
    have hs : H p0 = none := by
      cases u : H p0 with
      | none => rfl
      | some o => rw [s1 p0 o u] at hp0; cases hp0
    refine ⟨_, rfl, p0, _, rfl, hd, fun o => ?_⟩
    have s4 : Same H (upd H2 p0 (.frz o (.dK (seenK st s n)))) := s3.over hs
    have nl := seen_len st s n
    refine comp_dict upd_same (by rw [nl]; exact Nat.le_of_lt (small1000 (by (first | lia | omega)))) (fun v => match v with | .int i => some (.int ((mk.getD i.toNat 0 : Nat) : Int)) | _ => none) (fun q v H' hq sm => ?_) (fun r H3 s5 n5 f5 => ?_)
    · obtain ⟨i, hi, e⟩ := List.mem_map.mp hq
      cases e
      have wl := walk_lt ok.stp ok.beg i
      refine ⟨_, rfl, _, rfl, c, _, _, _, rfl, rfl, sm.seq (s4.seq hc), at_nats rfl (by (first | lia | omega)), Same.refl _, ?_⟩
      rfl
    have f5 : H3 r = some (.lst (((List.range n).map (walkF st mk s)).map V.int)) := by
      rw [← seen_figs (f := fun v => match v with | .int i => some (.int ((mk.getD i.toNat 0 : Nat) : Int)) | _ => none) (fun i => rfl)]; exact f5
    have dg : ∀ H', Same H3 H' → DGet H' p0 (.int ((walkAt st s n : Nat) : Int)) (some (.int (i0 : Int))) := fun H' s' => .inl ⟨_, Sum.inl ((walkAt st s n : Nat) : Int), .inr ⟨o, s' _ _ (s5 _ _ upd_same)⟩, rfl, e.symm⟩
    refine ⟨_, rfl, _, rfl, _, rfl, p0, _, rfl, dg H3 (Same.refl _), _, rfl, r, _, rfl, SqL.of f5, fun p3 H4 s6 n6 e6 => ?_⟩
    refine ⟨_, rfl, _, rfl, _, rfl, p0, _, rfl, dg H4 s6, _, rfl, r, _, rfl, SqL.of (s6 _ _ f5), fun p4 H5 s7 n7 e7 => ?_⟩
    obtain ⟨m, rfl⟩ : ∃ m, n = i0 + m := ⟨n - i0, by (first | lia | omega)⟩
    have e6 : H4 p3 = some (.lst (((List.range i0).map (walkF st mk s)).map V.int)) := by rw [← Pm.range_take (walkF st mk s) i0 m, ← cut_to]; exact e6
    have e7 : H5 p4 = some (.lst (((List.range m).map fun i => walkF st mk s (i0 + i)).map V.int)) := by rw [← Pm.range_drop (walkF st mk s) i0 m, ← cut_from]; exact e7
    refine ⟨p3, p4, _, _, rfl, .inl (SqL.of (s7 _ _ e6)), .inl (SqL.of e7), by rw [List.length_map, List.length_range]; (first | lia | omega), by rw [List.length_map, List.length_range]; (first | lia | omega), by rw [List.length_map, List.length_range]; (first | lia | omega), k.told (s4.trans (s5.trans (s6.trans s7))) fun hh bb z d => (z d).trans ?_⟩
    have cy := walk_cyc (mk := mk) lt0 e0 d
    rw [show i0 + m - i0 = m by (first | lia | omega)] at cy
    exact cy
noncomputable abbrev s_walk_of : Stmt := top 51
theorem sc_walk_of : FnScope ["pulse", "figures", "steps"] ["pulse"] (defScope s_walk_of) := ⟨rfl, rfl, rfl, by decide +kernel, rfl, by decide +kernel, by decide +kernel⟩
set_option maxHeartbeats 1000000 in
theorem ok_walk_of (TX : Txt K mg) (F : Txt1 K mg "walk_of" s_walk_of ["pulse"]) : DefOk P w K mg base (k + 1) "walk_of" ["pulse"] (spWalkOf K) := by
  refine F.ok sc_walk_of (fun vs H Q E h => ?_) (fun f cdv A outer s H vs Q E hr h => ?_)
  · first | (obtain ⟨rfl, _⟩ := h; rfl) | (obtain ⟨_, rfl, _⟩ := h; rfl) | (obtain ⟨_, _, rfl, _⟩ := h; rfl) | (obtain ⟨_, _, _, rfl, _⟩ := h; rfl) | (obtain ⟨_, _, _, _, rfl, _⟩ := h; rfl) | (obtain ⟨_, _, _, _, _, rfl, _⟩ := h; rfl) | (obtain ⟨_, _, _, _, _, _, rfl, _⟩ := h; rfl) | (obtain ⟨_, _, _, _, _, _, _, rfl, _⟩ := h; rfl) | (obtain ⟨_, _, _, _, _, _, _, _, rfl, _⟩ := h; rfl) | (obtain ⟨_, _, _, _, _, _, _, _, _, rfl, _⟩ := h; rfl)
  obtain ⟨p, h, b, rfl, pu, k⟩ := h
  refine ⟨_, pss_cons (ps_set (i := 1) sc_walk_of.nd rfl (Or.inl rfl) (pe_op (op_catK K) (pe_ix (ix_tupK K) (pv 0) pe_int (fun _ _ => rfl)) (pe_ix (ix_tupK K) (pv 0) pe_int (fun _ _ => rfl))))
      (pss_cons (ps_set (i := 2) sc_walk_of.nd rfl (Or.inl rfl) (pe_op (op_catLK K) (pe_callTy (call_listR rfl) rfl TX.b_list PyProof.Rows.boot_list (pa_cons (pe_callTy call_rng2 rfl TX.b_range PyProof.Rows.boot_range (pa_cons pe_int (pa_cons (pe_callB (call_lenK K) rfl TX.b_len PySem.boot_len (pa_cons (pv 1) pa_nil)) pa_nil))) pa_nil)) (pe_lst (pa_cons (pe_callB (call_lenK K) rfl TX.b_len PySem.boot_len (pa_cons (pe_ix (ix_tupK K) (pv 0) pe_int (fun _ _ => rfl)) pa_nil)) pa_nil))))
      (pss_one (ps_ret (pe_tup (pa_cons (pv 2) (pa_cons (pe_callTy (call_listK K) rfl TX.b_list PyProof.Rows.boot_list (pa_cons (pv 1) pa_nil)) pa_nil)))))), ?_⟩
  obtain ⟨x, y, e1, e2, e3⟩ := id pu.pl
  have lh := pu.lh
  have lb := pu.lb
  have b0 := pu.t.pos
  refine seqG fun N1 n1 => ?_
  refine ⟨_, rfl, _, _, _, _, rfl, rfl, e1, at0, _, rfl, _, _, _, _, rfl, rfl, e1, at1, x, y, _, _, rfl, rfl, e2, e3, ?_, fun pf H1 s1 f1 => ?_⟩
  · rw [List.length_map, List.length_map]; exact Nat.le_trans (show h.length + b.length ≤ 1000 by (first | lia | omega)) (by decide)
  rw [← List.map_append] at f1
  have lf : ((h ++ b).map V.int).length = h.length + b.length := by rw [List.length_map, List.length_append]
  refine n1 _ _ (seqG fun N2 n2 => ?_)
  refine ⟨_, rfl, _, _, rfl, .inr f1, ?_⟩
  rw [lf]
  refine ⟨_, _, rfl, fun pr nr => ?_⟩
  have s2 := Same.new nr (.rng 1 ((h.length + b.length : Nat) : Int))
  refine ⟨pr, _, _, rfl, upd_same, by decide, by decide, by (first | lia | omega), by (first | lia | omega), by (first | lia | omega), fun l H3 s3 nl fl => ?_⟩
  have fl : H3 l = some (.lst (((List.range (h.length + b.length - 1)).map (· + 1)).map vN)) := by
    rw [fl, show (((h.length + b.length : Nat) : Int) - 1).toNat = h.length + b.length - 1 by (first | lia | omega), List.map_map]
    congr 3
    refine funext fun k => ?_
    show V.int (1 + (k : Int)) = V.int ((k + 1 : Nat) : Int)
    congr 1
    (first | lia | omega)
  have s13 := s1.trans (s2.trans s3)
  refine ⟨_, rfl, _, _, _, _, rfl, rfl, s13.tup e1, at0, _, _, rfl, .inr (s13.tup e2), smallb, fun q nq => ?_⟩
  have s4 := Same.new nq (.lst [.int ((h.map V.int).length : Int)])
  have lq : l ≠ q := ne_of_none fl nq
  refine ⟨l, q, _, _, rfl, rfl, s4 _ _ fl, upd_same, ?_, fun g H5 s5 ng fg => ?_⟩
  · rw [List.length_map, List.length_map, List.length_range]; exact Nat.le_trans (show h.length + b.length - 1 + 1 ≤ 1000 by (first | lia | omega)) (by decide)
  have fg : H5 g = some (.lst ((stepsOf h b).map vN)) := by
    rw [fg]
    unfold stepsOf
    rw [List.map_append, List.length_map]
    rfl
  have s15 := s13.trans (s4.trans s5)
  have g0 : H g = none := by
    cases u : H g with
    | none => rfl
    | some o => rw [(s13.trans s4) g o u] at ng; cases ng
  refine n2 _ _ ?_
  refine ⟨_, rfl, _, rfl, pf, _, rfl, .inr (s5.tup (s4.tup (s3.tup (s2.tup f1)))), fun c H6 s6 nc fc => ?_⟩
  have c0 : H c = none := by
    cases u : H c with
    | none => rfl
    | some o => rw [s15 c o u] at nc; cases nc
  refine ⟨smallb, fun t nt => ?_⟩
  have s7 := Same.new nt (.tup [.ref g, .ref c])
  exact k t g c _ (s15.trans (s6.trans s7)) g0 c0 (ne_of_none fg nc) (SqT.of upd_same) (s7 _ _ (s6 _ _ fg)) (s7 _ _ fc)
noncomputable abbrev s_cell_l : Stmt := top 53
theorem sc_cell_l : FnScope ["_law_script", "_law_k"] ["_law_script", "_law_k"] (defScope s_cell_l) := ⟨rfl, rfl, rfl, by decide +kernel, rfl, by decide +kernel, by decide +kernel⟩
set_option maxHeartbeats 1000000 in
theorem ok_cell_l (TX : Txt K mg) (F : Txt1 K mg "_law_cell" s_cell_l ["_law_script", "_law_k"]) : DefOk P w K mg base (k + 1) "_law_cell" ["_law_script", "_law_k"] (spCell K) := by
  refine F.ok sc_cell_l (fun vs H Q E h => ?_) (fun f cdv A outer s H vs Q E hr h => ?_)
  · first | (obtain ⟨rfl, _⟩ := h; rfl) | (obtain ⟨_, rfl, _⟩ := h; rfl) | (obtain ⟨_, _, rfl, _⟩ := h; rfl) | (obtain ⟨_, _, _, rfl, _⟩ := h; rfl) | (obtain ⟨_, _, _, _, rfl, _⟩ := h; rfl) | (obtain ⟨_, _, _, _, _, rfl, _⟩ := h; rfl) | (obtain ⟨_, _, _, _, _, _, rfl, _⟩ := h; rfl) | (obtain ⟨_, _, _, _, _, _, _, rfl, _⟩ := h; rfl) | (obtain ⟨_, _, _, _, _, _, _, _, rfl, _⟩ := h; rfl) | (obtain ⟨_, _, _, _, _, _, _, _, _, rfl, _⟩ := h; rfl)
  obtain ⟨a, ns, i, rfl, ha, hi, q⟩ := h
  refine ⟨_, pss_cons (ps_if (pt_cmpR op_lt (pv 1) (pe_callB (call_lenK K) rfl TX.b_len PySem.boot_len (pa_cons (pv 0) pa_nil)) (nomark _)) (pss_one (ps_ret (pe_ix (ix_listK K) (pv 0) (pv 1) (fun _ _ => rfl)))) pss_nil)
      (pss_one (ps_ret pe_int)), ?_⟩
  refine ⟨_, rfl, _, rfl, _, _, rfl, .inl ha, _, _, rfl, rfl, _, rfl, ?_⟩
  rw [List.length_map]
  refine ite2 (fun e => ?_) (fun e => ?_)
  · have e : i < (ns.length : Int) := of_decide_eq_true e
    exact ⟨_, rfl, _, rfl, _, _, _, _, rfl, rfl, ha, at_ints hi e, q⟩
  · have e : ¬ i < (ns.length : Int) := fun z => e (decide_eq_true z)
    have z : ns.getD i.toNat 0 = 0 := getD_out (by (first | lia | omega))
    rw [z] at q
    exact q
noncomputable abbrev s_mix_l : Stmt := top 54
theorem sc_mix_l : FnScope ["_law_cell_here", "_law_prime", "_law_many"] ["_law_cell_here", "_law_prime", "_law_many"] (defScope s_mix_l) := ⟨rfl, rfl, rfl, by decide +kernel, rfl, by decide +kernel, by decide +kernel⟩
set_option maxHeartbeats 1000000 in
theorem ok_mix_l (TX : Txt K mg) (F : Txt1 K mg "_law_mix" s_mix_l ["_law_cell_here", "_law_prime", "_law_many"]) : DefOk P w K mg base (k + 1) "_law_mix" ["_law_cell_here", "_law_prime", "_law_many"] (spMix) := by
  refine F.ok sc_mix_l (fun vs H Q E h => ?_) (fun f cdv A outer s H vs Q E hr h => ?_)
  · first | (obtain ⟨rfl, _⟩ := h; rfl) | (obtain ⟨_, rfl, _⟩ := h; rfl) | (obtain ⟨_, _, rfl, _⟩ := h; rfl) | (obtain ⟨_, _, _, rfl, _⟩ := h; rfl) | (obtain ⟨_, _, _, _, rfl, _⟩ := h; rfl) | (obtain ⟨_, _, _, _, _, rfl, _⟩ := h; rfl) | (obtain ⟨_, _, _, _, _, _, rfl, _⟩ := h; rfl) | (obtain ⟨_, _, _, _, _, _, _, rfl, _⟩ := h; rfl) | (obtain ⟨_, _, _, _, _, _, _, _, rfl, _⟩ := h; rfl) | (obtain ⟨_, _, _, _, _, _, _, _, _, rfl, _⟩ := h; rfl)
  obtain ⟨c, p, m, rfl, hp, hm, q⟩ := h
  refine ⟨_, pss_one (ps_ret (pe_op op_mod (pe_op op_mod (pe_op op_mul (pv 0) pe_int) (pv 1)) (pv 2))), ?_⟩
  exact ⟨_, rfl, _, _, rfl, rfl, .inr ⟨by decide, by decide⟩, _, rfl, _, _, rfl, rfl, hp, _, rfl, _, _, rfl, rfl, hm, q⟩
noncomputable abbrev s_large_l : Stmt := top 55
theorem sc_large_l : FnScope ["_law_script"] ["_law_script"] (defScope s_large_l) := ⟨rfl, rfl, rfl, by decide +kernel, rfl, by decide +kernel, by decide +kernel⟩
set_option maxHeartbeats 1000000 in
theorem ok_large_l (TX : Txt K mg) (D_mix_l : DefOk P w K mg base k "_law_mix" ["_law_cell_here", "_law_prime", "_law_many"] (spMix)) (D_cell_l : DefOk P w K mg base k "_law_cell" ["_law_script", "_law_k"] (spCell K)) (F : Txt1 K mg "_law_large" s_large_l ["_law_script"]) : DefOk P w K mg base (k + 1) "_law_large" ["_law_script"] (spLarge K) := by
  refine F.ok sc_large_l (fun vs H Q E h => ?_) (fun f cdv A outer s H vs Q E hr h => ?_)
  · first | (obtain ⟨rfl, _⟩ := h; rfl) | (obtain ⟨_, rfl, _⟩ := h; rfl) | (obtain ⟨_, _, rfl, _⟩ := h; rfl) | (obtain ⟨_, _, _, rfl, _⟩ := h; rfl) | (obtain ⟨_, _, _, _, rfl, _⟩ := h; rfl) | (obtain ⟨_, _, _, _, _, rfl, _⟩ := h; rfl) | (obtain ⟨_, _, _, _, _, _, rfl, _⟩ := h; rfl) | (obtain ⟨_, _, _, _, _, _, _, rfl, _⟩ := h; rfl) | (obtain ⟨_, _, _, _, _, _, _, _, rfl, _⟩ := h; rfl) | (obtain ⟨_, _, _, _, _, _, _, _, _, rfl, _⟩ := h; rfl)
  obtain ⟨a, ns, rfl, ha, hl, q⟩ := h
  refine ⟨_, pss_one (ps_ret (pe_cmpR op_eq (pe_callD D_mix_l hr rfl (pa_cons (pe_op op_add (pe_callD D_cell_l hr rfl (pa_cons (pv 0) (pa_cons pe_int pa_nil))) (pe_op op_mul pe_int (pe_callB (call_lenK K) rfl TX.b_len PySem.boot_len (pa_cons (pv 0) pa_nil)))) (pa_cons pe_int (pa_cons pe_int pa_nil)))) pe_int (nomark _))), ?_⟩
  exact ⟨_, rfl, a, ns, 0, rfl, ha, Int.le_refl 0, _, rfl, _, _, rfl, .inl ha, _, _, rfl, rfl, .inl ⟨by decide, by decide⟩, _, _, rfl, rfl, _, _, _, rfl, by decide, by decide, rfl, q _⟩
noncomputable abbrev s_tight_l : Stmt := top 56
theorem sc_tight_l : FnScope ["_law_head", "_law_bar", "_law_size"] ["_law_head", "_law_bar"] (defScope s_tight_l) := ⟨rfl, rfl, rfl, by decide +kernel, rfl, by decide +kernel, by decide +kernel⟩
set_option maxHeartbeats 1000000 in
theorem ok_tight_l (TX : Txt K mg) (F : Txt1 K mg "_law_tight" s_tight_l ["_law_head", "_law_bar"]) : DefOk P w K mg base (k + 1) "_law_tight" ["_law_head", "_law_bar"] (spTightL K) := by
  refine F.ok sc_tight_l (fun vs H Q E h => ?_) (fun f cdv A outer s H vs Q E hr h => ?_)
  · first | (obtain ⟨rfl, _⟩ := h; rfl) | (obtain ⟨_, rfl, _⟩ := h; rfl) | (obtain ⟨_, _, rfl, _⟩ := h; rfl) | (obtain ⟨_, _, _, rfl, _⟩ := h; rfl) | (obtain ⟨_, _, _, _, rfl, _⟩ := h; rfl) | (obtain ⟨_, _, _, _, _, rfl, _⟩ := h; rfl) | (obtain ⟨_, _, _, _, _, _, rfl, _⟩ := h; rfl) | (obtain ⟨_, _, _, _, _, _, _, rfl, _⟩ := h; rfl) | (obtain ⟨_, _, _, _, _, _, _, _, rfl, _⟩ := h; rfl) | (obtain ⟨_, _, _, _, _, _, _, _, _, rfl, _⟩ := h; rfl)
  have hu := hr.units
  obtain ⟨a, c, h, b, rfl, ha, hc, hb, lh, lb, q⟩ := h
  refine ⟨_, pss_cons (ps_set (i := 0) sc_tight_l.nd rfl (Or.inl rfl) (pe_callTy (call_listK K) rfl TX.b_list PyProof.Rows.boot_list (pa_cons (pv 0) pa_nil)))
      (pss_cons (ps_set (i := 1) sc_tight_l.nd rfl (Or.inl rfl) (pe_callTy (call_listK K) rfl TX.b_list PyProof.Rows.boot_list (pa_cons (pv 1) pa_nil)))
      (pss_cons (ps_set (i := 2) sc_tight_l.nd rfl (Or.inl rfl) pe_int)
      (pss_cons (ps_while PassesOwn.never (PW.pt (pw_or (pt_cmpR op_gt (pe_op op_mod (pe_callB (call_lenK K) rfl TX.b_len PySem.boot_len (pa_cons (pv 1) pa_nil)) (pv 2)) pe_int (nomark _)) (pw_or1 (pt_cmpR (op_neDK K hu) (pe_op (op_repLK K) (pe_slice (sl_listK K) (pv 1) po_none (po_some (pv 2))) (pe_op op_fdiv (pe_callB (call_lenK K) rfl TX.b_len PySem.boot_len (pa_cons (pv 1) pa_nil)) (pv 2))) (pv 1) (nomark _))))) (pss_one (ps_set (i := 2) sc_tight_l.nd rfl (Or.inl rfl) (pe_op op_add (pv 2) pe_int))))
      (pss_cons (ps_set (i := 1) sc_tight_l.nd rfl (Or.inl rfl) (pe_slice (sl_listK K) (pv 1) po_none (po_some (pv 2))))
      (pss_cons (ps_while PassesOwn.never (PW.pt (pw_and (pt_truthK K (pv 0) (fun _ => rfl)) (pw_and1 (pt_cmpR op_eq (pe_ix (ix_listK K) (pv 0) (pe_un un_neg pe_int) (fun _ _ => rfl)) (pe_ix (ix_listK K) (pv 1) (pe_un un_neg pe_int) (fun _ _ => rfl)) (nomark _))))) (pss_one (ps_set (i := 1) sc_tight_l.nd rfl (Or.inl rfl) (pe_op (op_catLK K) (pe_lst (pa_cons (pe_bm0 PySem.F.plainAttrs_list PySem.F.slot_list_pop PySem.F.type_list_pop mt_pop (pv 0)) pa_nil)) (pe_slice (sl_listK K) (pv 1) po_none (po_some (pe_un un_neg pe_int)))))))
      (pss_one (ps_ret (pe_tup (pa_cons (pe_callTy (call_tupleK K) rfl TX.b_tuple PyProof.Rows.boot_tuple (pa_cons (pv 0) pa_nil)) (pa_cons (pe_callTy (call_tupleK K) rfl TX.b_tuple PyProof.Rows.boot_tuple (pa_cons (pv 1) pa_nil)) pa_nil)))))))))), ?_⟩
  refine seqG fun N1 k1' => ?_
  refine ⟨_, rfl, a, _, rfl, ha, fun l1 H1 s1 n1 e1 => k1' _ _ (seqG fun N2 k2' => ⟨_, rfl, c, _, rfl, hc.same s1, fun l2 H2 s2 n2 e2 => k2' _ _ (seqG fun N3 k3' => k3' _ _ (seqG fun N4 k4' => ?_))⟩)⟩
  have e1' := s2 _ _ e1
  have s12 := s1.trans s2
  refine ⟨fun m σ H' => ∃ sz : Nat, σ = [some (.ref l1), some (.ref l2), some (.int (sz : Int))] ∧ Same H2 H' ∧ 0 < sz ∧ sz ≤ b.length ∧ m = b.length - sz ∧ ∀ j, 0 < j → j < sz → b.length % j = 0 → ¬ Again b j, ⟨_, 1, rfl, Same.refl _, by decide, hb, rfl, fun j h1 h2 => by (first | lia | omega)⟩, ?_⟩
  rintro m σ H' ⟨sz, rfl, s3, p0, ple, rfl, least⟩
  have e2' := s3 _ _ e2
  refine ⟨_, rfl, _, _, rfl, .inl (SqL.of e2'), _, rfl, _, _, rfl, rfl, by (first | lia | omega), _, _, rfl, rfl, _, rfl, ?_⟩
  rw [List.length_map]
  refine ite2 (fun hm => ?_) (fun hm => ?_)
  · have hm : (0 : Int) < (b.length : Int) % (sz : Int) := of_decide_eq_true hm
    have hne : b.length % sz ≠ 0 := by rw [← Int.natCast_emod] at hm; (first | lia | omega)
    have hlt : sz < b.length := by
      rcases Nat.lt_or_eq_of_le ple with z | z
      · exact z
      · exact absurd (by rw [z]; exact Nat.mod_self _) hne
    refine iteT ⟨_, fun _ _ z => z, ?_⟩
    refine ⟨_, rfl, _, _, rfl, rfl, b.length - (sz + 1), by (first | lia | omega), sz + 1, by rw [Int.natCast_add]; rfl, s3, by (first | lia | omega), hlt, rfl, fun j h1 h2 h3 => ?_⟩
    by_cases z : j = sz
    · subst z; exact absurd h3 hne
    · exact least j h1 (by (first | lia | omega)) h3
  have hm : b.length % sz = 0 := by
    have : ¬ (0 : Int) < (b.length : Int) % (sz : Int) := fun z => hm (decide_eq_true z)
    rw [← Int.natCast_emod] at this
    (first | lia | omega)
  have hri := rep_iff (b := b) (n := sz) p0 ple hm
  have dvm : sz * (b.length / sz) = b.length := Nat.mul_div_cancel' (Nat.dvd_of_mod_eq_zero hm)
  have dle : b.length / sz ≤ b.length := Nat.div_le_self _ _
  have fd : (b.length : Int) / (sz : Int) = ((b.length / sz : Nat) : Int) := by rw [Int.natCast_ediv]
  generalize b.length / sz = dd at hri dvm dle fd
  refine ⟨_, rfl, _, rfl, _, rfl, l2, _, rfl, SqL.of e2', fun p1 H4 s4 n4 e4 => ?_⟩
  have e2'' := s4 _ _ e2'
  have ct : cutV (b.map V.int) none (some (sz : Int)) = (b.take sz).map V.int := cut_to b sz
  rw [ct] at e4
  refine ⟨_, rfl, _, _, rfl, .inl (SqL.of e2''), _, rfl, _, _, rfl, rfl, ⟨by (first | lia | omega), by (first | lia | omega)⟩, p1, _, _, rfl, rfl, e4, by rw [List.length_map, fd]; (first | lia | omega), by rw [List.length_map, fd]; (first | lia | omega), ?_, fun p2 H5 s5 n5 e5 => ?_⟩
  · rw [List.length_map, List.length_map, fd, Int.toNat_natCast, List.length_take, Nat.min_eq_left ple, dvm]; exact Nat.le_trans lb (by decide)
  rw [List.length_map, fd, Int.toNat_natCast, rep_ints] at e5
  have e25 := s5 _ _ e2''
  refine ⟨_, rfl, _, _, Rep.intsL (SqL.of e5), Rep.intsL (SqL.of e25), _, rfl, ?_⟩
  rw [eqv_dL]
  by_cases hr : rep dd (b.take sz) = b
  case neg =>
    have hlt : sz < b.length := by
      rcases Nat.lt_or_eq_of_le ple with z | z
      · exact z
      · exact absurd (hri.mpr (fun i hi => by (first | lia | omega))) hr
    rw [decide_eq_false hr]
    refine iteT ⟨_, fun _ _ z => z, ?_⟩
    refine ⟨_, rfl, _, _, rfl, rfl, b.length - (sz + 1), by (first | lia | omega), sz + 1, by rw [Int.natCast_add]; rfl, s3.trans (s4.trans s5), by (first | lia | omega), hlt, rfl, fun j h1 h2 h3 => ?_⟩
    by_cases z : j = sz
    · subst z; exact fun ag => hr (hri.mpr ag)
    · exact least j h1 (by (first | lia | omega)) h3
  rw [decide_eq_true hr]
  refine iteF ?_
  have sh : Short b sz := ⟨p0, ple, hm, hri.mp hr, least⟩
  have lsz : (b.take sz).length = sz := by rw [List.length_take]; (first | lia | omega)
  have psz : 0 < (b.take sz).length := by (first | lia | omega)
  refine k4' _ _ (seqG fun N5 k5' => ?_)
  refine ⟨_, rfl, _, rfl, _, rfl, l2, _, rfl, SqL.of e25, fun l3 H6 s6 n6 e6 => ?_⟩
  rw [ct] at e6
  have s26 := s3.trans (s4.trans (s5.trans s6))
  have e16 := s26 _ _ e1'
  refine k5' _ _ (seqG fun N6 k6' => ?_)
  refine ⟨fun m σ H' => ∃ (kk : Nat) (l3 : Addr), σ = [some (.ref l1), some (.ref l3), some (.int (sz : Int))] ∧ Same H H' ∧ H' l1 = some (.lst ((h.take (h.length - kk)).map V.int)) ∧ H' l3 = some (.lst ((turn (b.take sz) kk).map V.int)) ∧ kk ≤ h.length ∧ l1 ≠ l3 ∧ m = h.length - kk ∧
    ∀ j, h.length - kk ≤ j → j < h.length → h.getD j 0 = (b.take sz).getD ((((j : Int) - (h.length : Int)) % (sz : Int)).toNat) 0,
    ⟨_, 0, l3, rfl, s12.trans s26, by rw [Nat.sub_zero, List.take_length]; exact e16, by rw [turn_zero]; exact e6, Nat.zero_le _, ne_of_none (s5 _ _ (s4 _ _ (s3 _ _ e1'))) n6, rfl, fun j h1 h2 => by (first | lia | omega)⟩, ?_⟩
  rintro m σ H7 ⟨kk, l3, rfl, s7, f1, f3, hk, l13, rfl, hj⟩
  have tl : (h.take (h.length - kk)).length = h.length - kk := by rw [List.length_take]; (first | lia | omega)
  have fin : (kk < h.length → h.getD (h.length - kk - 1) 0 ≠ (b.take sz).getD (((-1 - (kk : Int)) % (sz : Int)).toNat) 0) → _ := fun stop => tight_end sh hk hj stop
  refine ⟨_, rfl, _, .inl ⟨_, SqL.of f1, rfl⟩, ?_⟩
  by_cases hkl : kk < h.length
  case neg =>
    have z : h.take (h.length - kk) = [] := List.eq_nil_of_length_eq_zero (by (first | lia | omega))
    rw [z]
    refine iteF ?_
    refine iteF ?_
    have t := fin fun z => absurd z hkl
    refine k6' _ _ ?_
    refine ⟨_, rfl, l1, _, rfl, .inl (SqL.of f1), fun q1 H8 s8 e8 => ⟨_, rfl, l3, _, rfl, .inl (SqL.of (s8 _ _ f3)), fun q2 H9 s9 e9 => ⟨smallb, fun p hp => ?_⟩⟩⟩
    exact q p _ _ _ (s7.trans (s8.trans (s9.trans (Same.new hp _)))) (Pl.mk hp (s9.tup e8) e9) t.1 t.2
  have ne : (!((h.take (h.length - kk)).map V.int).isEmpty) = true := by
    cases e : h.take (h.length - kk) with
    | nil => rw [e] at tl; simp at tl; (first | lia | omega)
    | cons x r => rfl
  rw [ne]
  refine iteT ?_
  refine ⟨_, rfl, _, rfl, l1, _, _, _, rfl, rfl, SqL.of f1, at_last (by (first | lia | omega)), _, rfl, _, rfl, l3, _, _, _, rfl, rfl, SqL.of f3, at_last (by rw [turn_length]; (first | lia | omega)), rfl, _, rfl, ?_⟩
  rw [dec_vint, tl, turn_length, lsz]
  have g1 : (h.take (h.length - kk)).getD (h.length - kk - 1) 0 = h.getD (h.length - kk - 1) 0 := getD_take (by (first | lia | omega))
  have g2 : (turn (b.take sz) kk).getD (sz - 1) 0 = (b.take sz).getD (((-1 - (kk : Int)) % (sz : Int)).toNat) 0 := by
    have := turn_last psz kk
    rwa [lsz] at this
  rw [g1, g2]
  refine ite2 (fun eq => ?_) (fun neq => ?_)
  · have eq := of_decide_eq_true eq
    refine ⟨_, fun _ _ z => z, ?_⟩
    have last1 : ((h.take (h.length - kk)).map V.int)[((h.take (h.length - kk)).map V.int).length - 1]? = some (.int (h.getD (h.length - kk - 1) 0)) := by
      rw [List.length_map, tl, List.getElem?_map, ← g1]
      exact getD_some (by (first | lia | omega))
    refine ⟨_, rfl, .inl ⟨rfl, _, SqL.of f1⟩, l1, _, _, rfl, rfl, f1, last1, smallb, fun p4 hp4 => ?_⟩
    have sb := Same.new hp4 (.lst [.int (h.getD (h.length - kk - 1) 0)])
    refine ⟨_, rfl, _, rfl, _, rfl, l3, _, rfl, SqL.of (sb _ _ (by rw [upd_ne (Ne.symm l13)]; exact f3)), fun p5 H9 s9 n9 e9 => ?_⟩
    rw [cut_m1] at e9
    refine ⟨p4, p5, _, _, rfl, rfl, s9 _ _ upd_same, e9, ?_, fun p6 H10 s10 n10 e10 => ?_⟩
    · rw [List.length_map, List.length_dropLast, turn_length, lsz, List.length_singleton]
      exact Nat.le_trans (show 1 + (sz - 1) ≤ 200000 by (first | lia | omega)) (by decide)
    have f1' := s9 _ _ (sb _ _ (upd_same (H := H7) (a := l1) (o := .lst ((h.take (h.length - kk)).map V.int).dropLast)))
    refine ⟨h.length - (kk + 1), by (first | lia | omega), kk + 1, p6, rfl, (s7.over n1).trans (sb.trans (s9.trans s10)), ?_, ?_, by (first | lia | omega), ne_of_none f1' n10, rfl, fun j j1 j2 => ?_⟩
    · rw [s10 _ _ f1', drop_last_take (by (first | lia | omega))]
    · rw [e10]
      have e : turn (b.take sz) (kk + 1) = h.getD (h.length - kk - 1) 0 :: (turn (b.take sz) kk).dropLast := by
        rw [← turn_succ psz kk, lsz, g2, eq]
      rw [e]
      rfl
    · by_cases z : h.length - kk ≤ j
      · exact hj j z j2
      · have z : j = h.length - kk - 1 := by (first | lia | omega)
        have e : (j : Int) - (h.length : Int) = -1 - (kk : Int) := by (first | lia | omega)
        rw [e, z]
        exact eq
  · have neq : ¬ _ := fun z => neq (decide_eq_true z)
    have t := fin fun _ => neq
    refine k6' _ _ ?_
    refine ⟨_, rfl, l1, _, rfl, .inl (SqL.of f1), fun q1 H8 s8 e8 => ⟨_, rfl, l3, _, rfl, .inl (SqL.of (s8 _ _ f3)), fun q2 H9 s9 e9 => ⟨smallb, fun p hp => ?_⟩⟩⟩
    exact q p _ _ _ (s7.trans (s8.trans (s9.trans (Same.new hp _)))) (Pl.mk hp (s9.tup e8) e9) t.1 t.2
noncomputable abbrev s_bits_l : Stmt := top 57
theorem sc_bits_l : FnScope ["_law_script", "_law_at", "_law_size", "_law_found", "_law_k"] ["_law_script", "_law_at", "_law_size"] (defScope s_bits_l) := ⟨rfl, rfl, rfl, by decide +kernel, rfl, by decide +kernel, by decide +kernel⟩
set_option maxHeartbeats 1000000 in
theorem ok_bits_l (TX : Txt K mg) (D_mix_l : DefOk P w K mg base k "_law_mix" ["_law_cell_here", "_law_prime", "_law_many"] (spMix)) (D_cell_l : DefOk P w K mg base k "_law_cell" ["_law_script", "_law_k"] (spCell K)) (F : Txt1 K mg "_law_bits" s_bits_l ["_law_script", "_law_at", "_law_size"]) : DefOk P w K mg base (k + 1) "_law_bits" ["_law_script", "_law_at", "_law_size"] (spBits K) := by
  refine F.ok sc_bits_l (fun vs H Q E h => ?_) (fun f cdv A outer s H vs Q E hr h => ?_)
  · first | (obtain ⟨rfl, _⟩ := h; rfl) | (obtain ⟨_, rfl, _⟩ := h; rfl) | (obtain ⟨_, _, rfl, _⟩ := h; rfl) | (obtain ⟨_, _, _, rfl, _⟩ := h; rfl) | (obtain ⟨_, _, _, _, rfl, _⟩ := h; rfl) | (obtain ⟨_, _, _, _, _, rfl, _⟩ := h; rfl) | (obtain ⟨_, _, _, _, _, _, rfl, _⟩ := h; rfl) | (obtain ⟨_, _, _, _, _, _, _, rfl, _⟩ := h; rfl) | (obtain ⟨_, _, _, _, _, _, _, _, rfl, _⟩ := h; rfl) | (obtain ⟨_, _, _, _, _, _, _, _, _, rfl, _⟩ := h; rfl)
  obtain ⟨a, ns, at', n, rfl, ha, hl, h0, n0, n1, q⟩ := h
  refine ⟨_, pss_cons (ps_set (i := 3) sc_bits_l.nd rfl (Or.inl rfl) (pe_lst pa_nil))
      (pss_cons (ps_for PassesOwn.never rfl (pi_range1 rfl TX.b_range (pa_cons (pv 2) pa_nil)) (pg_name (i := 4) sc_bits_l.nd rfl (Or.inl rfl)) (pss_one (ps_expr (pe_bm PySem.F.plainAttrs_list PySem.F.slot_list_append PySem.F.type_list_append mt_append (pv 3) (pa_cons (pe_callD D_mix_l hr rfl (pa_cons (pe_op op_add (pe_callD D_cell_l hr rfl (pa_cons (pv 0) (pa_cons (pe_op op_add (pv 1) (pe_op op_mod (pv 4) pe_int)) pa_nil))) (pe_op op_mul (pe_op op_mul pe_int (pv 4)) (pv 4))) (pa_cons pe_int (pa_cons pe_int pa_nil)))) pa_nil)))))
      (pss_one (ps_ret (pv 3)))), ?_⟩
  refine ⟨Nat.zero_le _, fun p hp => ?_⟩
  have s1 := Same.new hp (.lst [])
  refine ⟨_, rfl, n, rfl, by (first | lia | omega), by (first | lia | omega), for_range (fun i σ H2 => ∃ (xs : List Int) (v : Option V), σ = [some (.ref a), some (.int at'), some (.int n), some (.ref p), v] ∧ Same H H2 ∧ H2 p = some (.lst (xs.map V.int)) ∧ xs.length = i ∧ Bits xs) ⟨[], none, rfl, s1, upd_same, rfl, fun x hx => by cases hx⟩ ?_ ?_⟩
  · rintro i σ H2 hi ⟨xs, v, rfl, s2, h2, hx, hb⟩
    have hi' : (i : Int) < 100 := by (first | lia | omega)
    have nn := Int.emod_nonneg (0 + (i : Int)) (show (9 : Int) ≠ 0 by decide)
    refine ⟨_, rfl, .inl ⟨rfl, _, SqL.of h2⟩, _, rfl, _, rfl, _, rfl, _, _, rfl, rfl, (show (0 : Int) < 9 by decide), _, _, rfl, rfl, a, ns, _, rfl, s2.seq ha, by (first | lia | omega), _, rfl, _, _, rfl, rfl, .inl ⟨by decide, by decide⟩, _, rfl, _, _, rfl, rfl, .inr ⟨by (first | lia | omega), by (first | lia | omega)⟩, _, _, rfl, rfl, _, _, _, rfl, by decide, by decide, p, _, _, rfl, rfl, h2, small1000 (by rw [List.length_map]; (first | lia | omega)), ?_⟩
    refine ⟨xs ++ [(ns.getD (at' + (0 + (i : Int)) % 9).toNat 0 + 23 * (0 + (i : Int)) * (0 + (i : Int))) * 48271 % 9941 % 2], _, rfl, s2.over hp, ?_, by rw [List.length_append, hx]; rfl, ?_⟩
    · rw [upd_same, List.map_append]; rfl
    · intro x hm
      rcases List.mem_append.mp hm with z | z
      · exact hb x z
      · have z := List.mem_singleton.mp z
        rw [z]
        have g1 := Int.emod_nonneg ((ns.getD (at' + (0 + (i : Int)) % 9).toNat 0 + 23 * (0 + (i : Int)) * (0 + (i : Int))) * 48271 % 9941) (show (2 : Int) ≠ 0 by decide)
        have g2 := Int.emod_lt_of_pos ((ns.getD (at' + (0 + (i : Int)) % 9).toNat 0 + 23 * (0 + (i : Int)) * (0 + (i : Int))) * 48271 % 9941) (show (0 : Int) < 2 by decide)
        (first | lia | omega)
  · rintro σ H2 ⟨xs, v, rfl, s2, h2, hx, hb⟩
    exact ⟨_, rfl, q p xs H2 s2 h2 (by (first | lia | omega)) hb⟩
noncomputable abbrev s_form_l : Stmt := top 58
theorem sc_form_l : FnScope ["_law_script", "_law_at", "_law_most", "_law_cell_here", "_law_head", "_law_bar"] ["_law_script", "_law_at"] (defScope s_form_l) := ⟨rfl, rfl, rfl, by decide +kernel, rfl, by decide +kernel, by decide +kernel⟩
set_option maxHeartbeats 1000000 in
theorem ok_form_l (TX : Txt K mg) (D_large_l : DefOk P w K mg base k "_law_large" ["_law_script"] (spLarge K)) (D_cell_l : DefOk P w K mg base k "_law_cell" ["_law_script", "_law_k"] (spCell K)) (D_bits_l : DefOk P w K mg base k "_law_bits" ["_law_script", "_law_at", "_law_size"] (spBits K)) (D_mix_l : DefOk P w K mg base k "_law_mix" ["_law_cell_here", "_law_prime", "_law_many"] (spMix)) (F : Txt1 K mg "_law_form" s_form_l ["_law_script", "_law_at"]) : DefOk P w K mg base (k + 1) "_law_form" ["_law_script", "_law_at"] (spForm K) := by
  refine F.ok sc_form_l (fun vs H Q E h => ?_) (fun f cdv A outer s H vs Q E hr h => ?_)
  · first | (obtain ⟨rfl, _⟩ := h; rfl) | (obtain ⟨_, rfl, _⟩ := h; rfl) | (obtain ⟨_, _, rfl, _⟩ := h; rfl) | (obtain ⟨_, _, _, rfl, _⟩ := h; rfl) | (obtain ⟨_, _, _, _, rfl, _⟩ := h; rfl) | (obtain ⟨_, _, _, _, _, rfl, _⟩ := h; rfl) | (obtain ⟨_, _, _, _, _, _, rfl, _⟩ := h; rfl) | (obtain ⟨_, _, _, _, _, _, _, rfl, _⟩ := h; rfl) | (obtain ⟨_, _, _, _, _, _, _, _, rfl, _⟩ := h; rfl) | (obtain ⟨_, _, _, _, _, _, _, _, _, rfl, _⟩ := h; rfl)
  obtain ⟨a, ns, at', rfl, ha, hl, h0, q⟩ := h
  refine ⟨_, pss_cons (ps_set (i := 2) sc_form_l.nd rfl (Or.inl rfl) pe_int)
      (pss_cons (ps_if (pt_val (pe_callD D_large_l hr rfl (pa_cons (pv 0) pa_nil)) (fun _ => rfl)) (pss_one (ps_set (i := 2) sc_form_l.nd rfl (Or.inl rfl) pe_int)) pss_nil)
      (pss_cons (ps_if (pt_cmpR op_gt (pe_callB (call_lenK K) rfl TX.b_len PySem.boot_len (pa_cons (pv 0) pa_nil)) pe_int (nomark _)) (pss_one (ps_set (i := 2) sc_form_l.nd rfl (Or.inl rfl) pe_int)) pss_nil)
      (pss_cons (ps_set (i := 3) sc_form_l.nd rfl (Or.inl rfl) (pe_callD D_cell_l hr rfl (pa_cons (pv 0) (pa_cons (pv 1) pa_nil))))
      (pss_cons (ps_set (i := 4) sc_form_l.nd rfl (Or.inl rfl) (pe_callD D_bits_l hr rfl (pa_cons (pv 0) (pa_cons (pe_op op_add (pv 1) pe_int) (pa_cons (pe_callD D_mix_l hr rfl (pa_cons (pv 3) (pa_cons pe_int (pa_cons (pe_op op_add (pv 2) pe_int) pa_nil)))) pa_nil)))))
      (pss_cons (ps_set (i := 5) sc_form_l.nd rfl (Or.inl rfl) (pe_callD D_bits_l hr rfl (pa_cons (pv 0) (pa_cons (pe_op op_add (pv 1) pe_int) (pa_cons (pe_op op_add pe_int (pe_callD D_mix_l hr rfl (pa_cons (pv 3) (pa_cons pe_int (pa_cons (pv 2) pa_nil))))) pa_nil)))))
      (pss_cons (ps_if (pt_cmpR op_eq (pe_callD D_mix_l hr rfl (pa_cons (pv 3) (pa_cons pe_int (pa_cons pe_int pa_nil)))) pe_int (nomark _)) (pss_one (ps_set (i := 5) sc_form_l.nd rfl (Or.inl rfl) (pe_lst (pa_cons pe_int pa_nil)))) pss_nil)
      (pss_cons (ps_if (pt_cmpR op_eq (pe_callD D_mix_l hr rfl (pa_cons (pv 3) (pa_cons pe_int (pa_cons pe_int pa_nil)))) pe_int (nomark _)) (pss_one (ps_set (i := 5) sc_form_l.nd rfl (Or.inl rfl) (pe_op (op_repLK K) (pe_lst (pa_cons (pe_ix (ix_listK K) (pv 5) pe_int (fun _ _ => rfl)) pa_nil)) (pe_callB (call_lenK K) rfl TX.b_len PySem.boot_len (pa_cons (pv 5) pa_nil))))) pss_nil)
      (pss_one (ps_ret (pe_tup (pa_cons (pe_callTy (call_tupleK K) rfl TX.b_tuple PyProof.Rows.boot_tuple (pa_cons (pv 4) pa_nil)) (pa_cons (pe_callTy (call_tupleK K) rfl TX.b_tuple PyProof.Rows.boot_tuple (pa_cons (pv 5) pa_nil)) pa_nil)))))))))))), ?_⟩
  have big : ¬ (decide ((63 : Int) < (((ns.map V.int).length : Nat) : Int)) = true) := by
    rw [List.length_map]; intro z; have := of_decide_eq_true z; (first | lia | omega)
  refine seqG fun N1 k1' => ?_
  refine k1' _ _ (seqG fun N2 k2' => ?_)
  have all : ∀ mo : Int, 1 ≤ mo ∧ mo ≤ 14 → N2 [some (V.ref a), some (V.int at'), some (V.int mo), none, none, none] H := fun mo o1 => by
    refine k2' _ _ ?_
    refine ⟨_, rfl, _, _, rfl, .inl ha, _, _, rfl, rfl, _, rfl, ?_⟩
    refine iteN big ?_
    refine ⟨_, rfl, _, rfl, a, ns, at', rfl, ha, h0, ?_⟩
    generalize ns.getD at'.toNat 0 = c
    refine ⟨_, rfl, _, rfl, _, _, rfl, rfl, _, rfl, _, rfl, _, _, rfl, rfl, _, _, _, rfl, by decide, by (first | lia | omega), a, ns, _, _, rfl, ha, hl, by (first | lia | omega), Int.emod_nonneg _ (by (first | lia | omega)), mod_le (by (first | lia | omega)) (by (first | lia | omega)), fun p1 h H1 s1 e1 len1 b1 => ?_⟩
    refine ⟨_, rfl, _, rfl, _, _, rfl, rfl, _, rfl, _, rfl, _, _, _, rfl, by decide, by (first | lia | omega), _, _, rfl, rfl, a, ns, _, _, rfl, s1.seq ha, hl, by (first | lia | omega), mod1_nn (by (first | lia | omega)), mod1_le (by (first | lia | omega)) (by (first | lia | omega)), fun p2 b H2 s2 e2 len2 b2 => ?_⟩
    have l1 : h.length ≤ 14 := mod_len len1 (by (first | lia | omega)) (by (first | lia | omega))
    have l2 := mod1_len len2 (by (first | lia | omega)) (by (first | lia | omega))
    have e1' := s2 _ _ e1
    have s12 := s1.trans s2
    refine ⟨_, rfl, _, _, _, rfl, by decide, by decide, rfl, _, rfl, ?_⟩
    refine ite2 (fun _ => ?_) (fun _ => ?_)
    · refine ⟨smallb, fun p3 hp3 => ?_⟩
      have s3 := Same.new hp3 (.lst [.int 0])
      refine ⟨_, rfl, _, _, _, rfl, by decide, by decide, rfl, _, rfl, ?_⟩
      refine ite2 (fun _ => ?_) (fun _ => ?_)
      · refine ⟨_, rfl, _, _, _, _, rfl, rfl, SqL.of upd_same, rfl, smallb, fun p4 hp4 => ?_⟩
        have s4 := Same.new hp4 (.lst [.int 0])
        refine ⟨_, rfl, _, _, rfl, .inl (SqL.of (s4 _ _ upd_same)), p4, _, _, rfl, rfl, upd_same, by decide, by decide, smallb, fun p5 H5 s5 n5 e5 => ?_⟩
        refine ⟨_, rfl, p1, _, rfl, .inl (SqL.of (s5 _ _ (s4 _ _ (s3 _ _ e1')))), fun q1 H6 s6 e6 => ⟨_, rfl, p5, _, rfl, .inl (SqL.of (s6 _ _ e5)), fun q2 H7 s7 e7 => ⟨smallb, fun p hp => ?_⟩⟩⟩
        exact q p h [0] _ (s12.trans (s3.trans (s4.trans (s5.trans (s6.trans (s7.trans (Same.new hp _))))))) (Pl.mk hp (s7.tup e6) e7) b1 (by intro x hx; exact .inl (List.mem_singleton.mp hx)) l1 (by decide) (by decide)
      · refine ⟨_, rfl, p1, _, rfl, .inl (SqL.of (s3 _ _ e1')), fun q1 H6 s6 e6 => ⟨_, rfl, p3, _, rfl, .inl (SqL.of (s6 _ _ upd_same)), fun q2 H7 s7 e7 => ⟨smallb, fun p hp => ?_⟩⟩⟩
        exact q p h [0] _ (s12.trans (s3.trans (s6.trans (s7.trans (Same.new hp _))))) (Pl.mk hp (s7.tup e6) e7) b1 (by intro x hx; exact .inl (List.mem_singleton.mp hx)) l1 (by decide) (by decide)
    · refine ⟨_, rfl, _, _, _, rfl, by decide, by decide, rfl, _, rfl, ?_⟩
      refine ite2 (fun _ => ?_) (fun _ => ?_)
      · refine ⟨_, rfl, _, _, _, _, rfl, rfl, SqL.of e2, at_ints (by decide) (by (first | lia | omega)), smallb, fun p4 hp4 => ?_⟩
        have s4 := Same.new hp4 (.lst [.int (b.getD (0 : Int).toNat 0)])
        refine ⟨_, rfl, _, _, rfl, .inl (SqL.of (s4 _ _ e2)), p4, _, _, rfl, rfl, upd_same, by (first | lia | omega), by rw [List.length_map]; (first | lia | omega), small (by rw [List.length_map, Int.toNat_natCast]; show 1 * b.length ≤ 1000; (first | lia | omega)), fun p5 H5 s5 n5 e5 => ?_⟩
        rw [List.length_map, Int.toNat_natCast, rep_one] at e5
        refine ⟨_, rfl, p1, _, rfl, .inl (SqL.of (s5 _ _ (s4 _ _ e1'))), fun q1 H6 s6 e6 => ⟨_, rfl, p5, _, rfl, .inl (SqL.of (s6 _ _ e5)), fun q2 H7 s7 e7 => ⟨smallb, fun p hp => ?_⟩⟩⟩
        refine q p h (List.replicate b.length (b.getD 0 0)) _ (s12.trans (s4.trans (s5.trans (s6.trans (s7.trans (Same.new hp _)))))) (Pl.mk hp (s7.tup e6) (by rw [List.map_replicate]; exact e7)) b1 ?_ l1 (by rw [List.length_replicate]; (first | lia | omega)) (by rw [List.length_replicate]; (first | lia | omega))
        intro x hx
        rw [(List.mem_replicate.mp hx).2]
        exact b2 _ (Pb.getD_mem (by (first | lia | omega)))
      · refine ⟨_, rfl, p1, _, rfl, .inl (SqL.of e1'), fun q1 H6 s6 e6 => ⟨_, rfl, p2, _, rfl, .inl (SqL.of (s6 _ _ e2)), fun q2 H7 s7 e7 => ⟨smallb, fun p hp => ?_⟩⟩⟩
        exact q p h b _ (s12.trans (s6.trans (s7.trans (Same.new hp _)))) (Pl.mk hp (s7.tup e6) e7) b1 b2 l1 (by (first | lia | omega)) (by (first | lia | omega))
  exact ⟨_, rfl, a, ns, rfl, ha, hl, fun lg => ⟨_, rfl, ite2 (fun _ => all 14 (by decide)) (fun _ => all 12 (by decide))⟩⟩
noncomputable abbrev s_pulse_l : Stmt := top 59
theorem sc_pulse_l : FnScope ["_law_script", "_law_at", "_law_form_here"] ["_law_script", "_law_at"] (defScope s_pulse_l) := ⟨rfl, rfl, rfl, by decide +kernel, rfl, by decide +kernel, by decide +kernel⟩
set_option maxHeartbeats 1000000 in
theorem ok_pulse_l (TX : Txt K mg) (D_form_l : DefOk P w K mg base k "_law_form" ["_law_script", "_law_at"] (spForm K)) (D_tight_l : DefOk P w K mg base k "_law_tight" ["_law_head", "_law_bar"] (spTightL K)) (F : Txt1 K mg "_law_pulse" s_pulse_l ["_law_script", "_law_at"]) : DefOk P w K mg base (k + 1) "_law_pulse" ["_law_script", "_law_at"] (spPulse K) := by
  refine F.ok sc_pulse_l (fun vs H Q E h => ?_) (fun f cdv A outer s H vs Q E hr h => ?_)
  · first | (obtain ⟨rfl, _⟩ := h; rfl) | (obtain ⟨_, rfl, _⟩ := h; rfl) | (obtain ⟨_, _, rfl, _⟩ := h; rfl) | (obtain ⟨_, _, _, rfl, _⟩ := h; rfl) | (obtain ⟨_, _, _, _, rfl, _⟩ := h; rfl) | (obtain ⟨_, _, _, _, _, rfl, _⟩ := h; rfl) | (obtain ⟨_, _, _, _, _, _, rfl, _⟩ := h; rfl) | (obtain ⟨_, _, _, _, _, _, _, rfl, _⟩ := h; rfl) | (obtain ⟨_, _, _, _, _, _, _, _, rfl, _⟩ := h; rfl) | (obtain ⟨_, _, _, _, _, _, _, _, _, rfl, _⟩ := h; rfl)
  obtain ⟨a, ns, at', rfl, ha, hl, h0, q⟩ := h
  refine ⟨_, pss_cons (ps_set (i := 2) sc_pulse_l.nd rfl (Or.inl rfl) (pe_callD D_form_l hr rfl (pa_cons (pv 0) (pa_cons (pv 1) pa_nil))))
      (pss_one (ps_ret (pe_callD D_tight_l hr rfl (pa_cons (pe_ix (ix_tupK K) (pv 2) pe_int (fun _ _ => rfl)) (pa_cons (pe_ix (ix_tupK K) (pv 2) pe_int (fun _ _ => rfl)) pa_nil))))), ?_⟩
  refine ⟨_, rfl, _, rfl, a, ns, at', rfl, ha, hl, h0, fun p h b H1 s1 ⟨x, y, e1, e2, e3⟩ bh bb l1 l2 l3 => ?_⟩
  refine ⟨_, rfl, _, _, _, _, rfl, rfl, e1, at0, _, rfl, _, _, _, _, rfl, rfl, e1, at1, x, y, h, b, rfl, .inr e2, .inr e3, l2, by (first | lia | omega), by (first | lia | omega), fun p' h' b' H2 s2 e4 t al => ?_⟩
  have bt := alike_bits t.pos al l2 bh bb
  exact q p' h' b' H2 (s1.trans s2) e4 t bt.1 bt.2 (Nat.le_trans (t.head_le l2 al) l1) (Nat.le_trans (t.bar_le l2 al) l3)
noncomputable abbrev s_rule_l : Stmt := top 60
theorem sc_rule_l : FnScope ["_law_cell_here", "_law_start", "_law_step", "_law_times"] ["_law_cell_here"] (defScope s_rule_l) := ⟨rfl, rfl, rfl, by decide +kernel, rfl, by decide +kernel, by decide +kernel⟩
set_option maxHeartbeats 1000000 in
theorem ok_rule_l (TX : Txt K mg) (D_mix_l : DefOk P w K mg base k "_law_mix" ["_law_cell_here", "_law_prime", "_law_many"] (spMix)) (F : Txt1 K mg "_law_rule" s_rule_l ["_law_cell_here"]) : DefOk P w K mg base (k + 1) "_law_rule" ["_law_cell_here"] (spRuleL K) := by
  refine F.ok sc_rule_l (fun vs H Q E h => ?_) (fun f cdv A outer s H vs Q E hr h => ?_)
  · first | (obtain ⟨rfl, _⟩ := h; rfl) | (obtain ⟨_, rfl, _⟩ := h; rfl) | (obtain ⟨_, _, rfl, _⟩ := h; rfl) | (obtain ⟨_, _, _, rfl, _⟩ := h; rfl) | (obtain ⟨_, _, _, _, rfl, _⟩ := h; rfl) | (obtain ⟨_, _, _, _, _, rfl, _⟩ := h; rfl) | (obtain ⟨_, _, _, _, _, _, rfl, _⟩ := h; rfl) | (obtain ⟨_, _, _, _, _, _, _, rfl, _⟩ := h; rfl) | (obtain ⟨_, _, _, _, _, _, _, _, rfl, _⟩ := h; rfl) | (obtain ⟨_, _, _, _, _, _, _, _, _, rfl, _⟩ := h; rfl)
  obtain ⟨c, rfl, q⟩ := h
  refine ⟨_, pss_cons (ps_set (i := 1) sc_rule_l.nd rfl (Or.inl rfl) (pe_callD D_mix_l hr rfl (pa_cons (pv 0) (pa_cons pe_int (pa_cons pe_int pa_nil)))))
      (pss_cons (ps_set (i := 2) sc_rule_l.nd rfl (Or.inl rfl) (pe_ix (ix_listK K) (pe_lst (pa_cons pe_int (pa_cons pe_int (pa_cons pe_int (pa_cons pe_int (pa_cons pe_int (pa_cons pe_int pa_nil))))))) (pe_callD D_mix_l hr rfl (pa_cons (pv 0) (pa_cons pe_int (pa_cons pe_int pa_nil)))) (fun _ _ => rfl)))
      (pss_cons (ps_set (i := 3) sc_rule_l.nd rfl (Or.inl rfl) pe_non)
      (pss_cons (ps_if (pt_cmpR op_eq (pe_callD D_mix_l hr rfl (pa_cons (pv 0) (pa_cons pe_int (pa_cons pe_int pa_nil)))) pe_int (nomark _)) (pss_one (ps_set (i := 3) sc_rule_l.nd rfl (Or.inl rfl) (pe_op op_add pe_int (pe_callD D_mix_l hr rfl (pa_cons (pv 0) (pa_cons pe_int (pa_cons pe_int pa_nil))))))) pss_nil)
      (pss_one (ps_ret (pe_tup (pa_cons (pv 1) (pa_cons (pv 2) (pa_cons (pv 3) pa_nil))))))))), ?_⟩
  have a1 := Int.emod_nonneg (c * 48271 % 9973) (show (30 : Int) ≠ 0 by decide)
  have a2 := Int.emod_lt_of_pos (c * 48271 % 9973) (show (0 : Int) < 30 by decide)
  have b1 := Int.emod_nonneg (c * 48271 % 9967) (show (6 : Int) ≠ 0 by decide)
  have b2 := Int.emod_lt_of_pos (c * 48271 % 9967) (show (0 : Int) < 6 by decide)
  have c1 := Int.emod_nonneg (c * 48271 % 9941) (show (9 : Int) ≠ 0 by decide)
  have c2 := Int.emod_lt_of_pos (c * 48271 % 9941) (show (0 : Int) < 9 by decide)
  refine ⟨_, rfl, _, _, _, rfl, by decide, by decide, smallb, fun l hl => ⟨_, rfl, _, _, _, rfl, by decide, by decide, ?_⟩⟩
  have u1 := Same.new hl (.lst [.int 1, .int 2, .int 3, .int 4, .int 6, .int 12])
  obtain ⟨s, hs, s1⟩ : ∃ s : Nat, c * 48271 % 9973 % 30 = (s : Int) ∧ s ≤ 29 := ⟨(c * 48271 % 9973 % 30).toNat, by (first | lia | omega), by (first | lia | omega)⟩
  obtain ⟨t, ht, t1⟩ : ∃ t : Nat, 1 + c * 48271 % 9941 % 9 = (t : Int) ∧ 1 ≤ t ∧ t ≤ 9 := ⟨(1 + c * 48271 % 9941 % 9).toNat, by (first | lia | omega), by (first | lia | omega), by (first | lia | omega)⟩
  obtain ⟨st, hst, st0, st1⟩ : ∃ st : Nat, atI [V.int 1, .int 2, .int 3, .int 4, .int 6, .int 12] (c * 48271 % 9967 % 6) = some (vN st) ∧ 0 < st ∧ st ∣ 12 := by
    generalize c * 48271 % 9967 % 6 = i at b1 b2 ⊢
    have : i = 0 ∨ i = 1 ∨ i = 2 ∨ i = 3 ∨ i = 4 ∨ i = 5 := by (first | lia | omega)
    rcases this with rfl | rfl | rfl | rfl | rfl | rfl
    · exact ⟨1, rfl, by decide, by decide⟩
    · exact ⟨2, rfl, by decide, by decide⟩
    · exact ⟨3, rfl, by decide, by decide⟩
    · exact ⟨4, rfl, by decide, by decide⟩
    · exact ⟨6, rfl, by decide, by decide⟩
    · exact ⟨12, rfl, by decide, by decide⟩
  refine ⟨l, _, _, _, rfl, rfl, SqL.of upd_same, hst, ?_⟩
  refine ⟨_, rfl, _, _, _, rfl, by decide, by decide, rfl, _, rfl, ite2 (fun _ => ?_) (fun _ => ?_)⟩
  · refine ⟨_, rfl, _, _, _, rfl, by decide, by decide, _, _, rfl, rfl, _, rfl, _, rfl, _, rfl, smallb, fun p hp => ?_⟩
    refine q p (s, st, some t) _ (u1.trans (Same.new hp _)) (SqT.of ?_) ⟨s1, st0, st1, fun k e => by cases e; exact t1⟩
    dsimp only
    rw [upd_same, hs, ht]
    rfl
  · refine ⟨_, rfl, _, rfl, _, rfl, smallb, fun p hp => ?_⟩
    refine q p (s, st, none) _ (u1.trans (Same.new hp _)) (SqT.of ?_) ⟨s1, st0, st1, fun k e => by cases e⟩
    rw [upd_same, hs]
    rfl
noncomputable abbrev s_rules_l : Stmt := top 61
theorem sc_rules_l : FnScope ["_law_script"] ["_law_script"] (defScope s_rules_l) := ⟨rfl, rfl, rfl, by decide +kernel, rfl, by decide +kernel, by decide +kernel⟩
noncomputable def cs_rules_l_0 : Scope := { kind := .function, names := [(".0", .local), ("_law_cell_here", .local), ("_law_rule", .globalImplicit)], isGenerator := false, isCoroutine := false, more := [] }
theorem co_rules_l_0 : CompOk (defScope s_rules_l) cs_rules_l_0 ["_law_script"] "_law_cell_here" [] [] := ⟨rfl, by decide +kernel, by decide +kernel, by decide +kernel, by decide +kernel, by decide +kernel, rfl, by decide +kernel⟩
set_option maxHeartbeats 1000000 in
theorem ok_rules_l (TX : Txt K mg) (D_rule_l : DefOk P w K mg base k "_law_rule" ["_law_cell_here"] (spRuleL K)) (D_cell_l : DefOk P w K mg base k "_law_cell" ["_law_script", "_law_k"] (spCell K)) (F : Txt1 K mg "_law_rules" s_rules_l ["_law_script"]) : DefOk P w K mg base (k + 1) "_law_rules" ["_law_script"] (spRulesL K) := by
  refine F.ok sc_rules_l (fun vs H Q E h => ?_) (fun f cdv A outer s H vs Q E hr h => ?_)
  · first | (obtain ⟨rfl, _⟩ := h; rfl) | (obtain ⟨_, rfl, _⟩ := h; rfl) | (obtain ⟨_, _, rfl, _⟩ := h; rfl) | (obtain ⟨_, _, _, rfl, _⟩ := h; rfl) | (obtain ⟨_, _, _, _, rfl, _⟩ := h; rfl) | (obtain ⟨_, _, _, _, _, rfl, _⟩ := h; rfl) | (obtain ⟨_, _, _, _, _, _, rfl, _⟩ := h; rfl) | (obtain ⟨_, _, _, _, _, _, _, rfl, _⟩ := h; rfl) | (obtain ⟨_, _, _, _, _, _, _, _, rfl, _⟩ := h; rfl) | (obtain ⟨_, _, _, _, _, _, _, _, _, rfl, _⟩ := h; rfl)
  obtain ⟨a, ns, rfl, ha, hl, q⟩ := h
  refine ⟨_, pss_one (ps_ret (pe_comp2 rfl co_rules_l_0 (pi_listK K (pe_slice (sl_listK K) (pv 0) (po_some pe_int) (po_some (pe_op op_add pe_int (pe_op op_mod (pe_callD D_cell_l hr rfl (pa_cons (pv 0) (pa_cons pe_int pa_nil))) pe_int))))) (fun _ _ _ _ => pts_nil) (fun _ _ _ _ => (pe_callD D_rule_l hr rfl (pa_cons (pv 0) pa_nil))))), ?_⟩
  have m1 := Int.emod_nonneg (ns.getD (0 : Int).toNat 0) (show (13 : Int) ≠ 0 by decide)
  have m2 := Int.emod_lt_of_pos (ns.getD (0 : Int).toNat 0) (show (0 : Int) < 13 by decide)
  obtain ⟨m, hm, m3⟩ : ∃ m : Nat, 4 + ns.getD (0 : Int).toNat 0 % 13 = ((4 + m : Nat) : Int) ∧ m ≤ 12 := ⟨(ns.getD (0 : Int).toNat 0 % 13).toNat, by (first | lia | omega), by (first | lia | omega)⟩
  refine ⟨_, rfl, _, rfl, _, rfl, a, ns, 0, rfl, ha, by decide, _, _, rfl, rfl, (show (0 : Int) < 13 by decide), _, _, rfl, rfl, _, rfl, ?_⟩
  dsimp -proj only
  rw [hm]
  refine ⟨a, _, rfl, ha, fun l1 H1 s1 n1 e1 => ?_⟩
  obtain ⟨ys, hy, y1, y2⟩ := cut_mid ns 4 m
  have e1 : H1 l1 = some (.lst (ys.map V.int)) := by rw [← hy]; exact e1
  refine ⟨l1, rfl, ⟨_, SqL.of e1⟩, ?_⟩
  refine comp2_list (SqL.of e1) (small (by rw [List.length_map]; (first | lia | omega))) (fun D i xs H' => ∃ rs, Rus K H' xs rs ∧ xs.length = i ∧ ∀ r ∈ rs, RuK r) (fun D hD => ⟨[], trivial, rfl, fun r hr => by cases hr⟩) (fun D i x xs H' hD hx sm hd hl2 pv => ?_) (fun D xs H' sm hD hd pv => ?_)
  · obtain ⟨rs, ru, hi, hk⟩ := pv
    obtain ⟨c, _, rfl⟩ := List.mem_map.mp (List.mem_of_getElem? hx)
    refine ⟨_, rfl, c, rfl, fun p r H2 s2 hp kr => ⟨s2, rs ++ [r], ?_, by rw [List.length_append, hi]; rfl, fun z hz => ?_⟩⟩
    · exact Rus.overL (s2 _ _ hd) (Rus.snoc hp (ru.same s2))
    · rcases List.mem_append.mp hz with u | u
      · exact hk z u
      · rw [List.mem_singleton.mp u]; exact kr
  · obtain ⟨rs, ru, hi, hk⟩ := pv
    rw [List.length_map] at hi
    exact q D rs H' (s1.trans sm) (by rw [hd]; intro z; cases z) ⟨xs, SqL.of hd, ru⟩ (by rw [← ru.len]; (first | lia | omega)) hk
noncomputable abbrev s_walk_l : Stmt := top 62
theorem sc_walk_l : FnScope ["_law_script", "_law_at", "_law_most", "_law_many", "_law_steps", "_law_marks"] ["_law_script", "_law_at"] (defScope s_walk_l) := ⟨rfl, rfl, rfl, by decide +kernel, rfl, by decide +kernel, by decide +kernel⟩
noncomputable def cs_walk_l_0 : Scope := { kind := .function, names := [(".0", .local), ("_law_k", .local), ("_law_mix", .globalImplicit), ("_law_cell", .globalImplicit), ("_law_at", .free), ("_law_many", .free), ("_law_script", .free)], isGenerator := false, isCoroutine := false, more := [] }
theorem co_walk_l_0 : CompOk (defScope s_walk_l) cs_walk_l_0 ["_law_script", "_law_at", "_law_most", "_law_many", "_law_steps", "_law_marks"] "_law_k" ["_law_at", "_law_many", "_law_script"] [1, 3, 0] := ⟨rfl, by decide +kernel, by decide +kernel, by decide +kernel, by decide +kernel, by decide +kernel, rfl, by decide +kernel⟩
noncomputable def cs_walk_l_1 : Scope := { kind := .function, names := [(".0", .local), ("_law_k", .local), ("_law_mix", .globalImplicit), ("_law_cell", .globalImplicit), ("_law_at", .free), ("_law_script", .free)], isGenerator := false, isCoroutine := false, more := [] }
theorem co_walk_l_1 : CompOk (defScope s_walk_l) cs_walk_l_1 ["_law_script", "_law_at", "_law_most", "_law_many", "_law_steps", "_law_marks"] "_law_k" ["_law_at", "_law_script"] [1, 0] := ⟨rfl, by decide +kernel, by decide +kernel, by decide +kernel, by decide +kernel, by decide +kernel, rfl, by decide +kernel⟩
set_option maxHeartbeats 1000000 in
theorem ok_walk_l (TX : Txt K mg) (D_large_l : DefOk P w K mg base k "_law_large" ["_law_script"] (spLarge K)) (D_mix_l : DefOk P w K mg base k "_law_mix" ["_law_cell_here", "_law_prime", "_law_many"] (spMix)) (D_cell_l : DefOk P w K mg base k "_law_cell" ["_law_script", "_law_k"] (spCell K)) (F : Txt1 K mg "_law_walk" s_walk_l ["_law_script", "_law_at"]) : DefOk P w K mg base (k + 1) "_law_walk" ["_law_script", "_law_at"] (spWalkL K) := by
  refine F.ok sc_walk_l (fun vs H Q E h => ?_) (fun f cdv A outer s H vs Q E hr h => ?_)
  · first | (obtain ⟨rfl, _⟩ := h; rfl) | (obtain ⟨_, rfl, _⟩ := h; rfl) | (obtain ⟨_, _, rfl, _⟩ := h; rfl) | (obtain ⟨_, _, _, rfl, _⟩ := h; rfl) | (obtain ⟨_, _, _, _, rfl, _⟩ := h; rfl) | (obtain ⟨_, _, _, _, _, rfl, _⟩ := h; rfl) | (obtain ⟨_, _, _, _, _, _, rfl, _⟩ := h; rfl) | (obtain ⟨_, _, _, _, _, _, _, rfl, _⟩ := h; rfl) | (obtain ⟨_, _, _, _, _, _, _, _, rfl, _⟩ := h; rfl) | (obtain ⟨_, _, _, _, _, _, _, _, _, rfl, _⟩ := h; rfl)
  obtain ⟨a, ns, at', rfl, ha, hl, h0, q⟩ := h
  refine ⟨_, pss_cons (ps_set (i := 2) sc_walk_l.nd rfl (Or.inl rfl) pe_int)
      (pss_cons (ps_if (pt_val (pe_callD D_large_l hr rfl (pa_cons (pv 0) pa_nil)) (fun _ => rfl)) (pss_one (ps_set (i := 2) sc_walk_l.nd rfl (Or.inl rfl) pe_int)) pss_nil)
      (pss_cons (ps_if (pt_cmpR op_gt (pe_callB (call_lenK K) rfl TX.b_len PySem.boot_len (pa_cons (pv 0) pa_nil)) pe_int (nomark _)) (pss_one (ps_set (i := 2) sc_walk_l.nd rfl (Or.inl rfl) pe_int)) pss_nil)
      (pss_cons (ps_set (i := 3) sc_walk_l.nd rfl (Or.inr rfl) (pe_op op_add pe_int (pe_callD D_mix_l hr rfl (pa_cons (pe_callD D_cell_l hr rfl (pa_cons (pv 0) (pa_cons (pv 1) pa_nil))) (pa_cons pe_int (pa_cons (pv 2) pa_nil))))))
      (pss_cons (ps_setC (k := 4) rfl co_walk_l_0 (pi_range1 rfl TX.b_range (pa_cons (pv 3) pa_nil)) (fun _ _ _ _ => pts_nil) (fun _ _ _ _ => (pe_callD D_mix_l hr rfl (pa_cons (pe_op op_add (pe_callD D_cell_l hr rfl (pa_cons (pv 3) (pa_cons (pe_op op_add (pe_op op_add (pv 1) pe_int) (pe_op op_mod (pv 0) pe_int)) pa_nil))) (pe_op op_mul (pe_op op_mul pe_int (pv 0)) (pv 0))) (pa_cons pe_int (pa_cons (pv 2) pa_nil))))) sc_walk_l.nd rfl (Or.inl rfl))
      (pss_cons (ps_setC (k := 5) rfl co_walk_l_1 (pi_range1 rfl TX.b_range (pa_cons (pv 3) pa_nil)) (fun _ _ _ _ => pts_nil) (fun _ _ _ _ => (pe_callD D_mix_l hr rfl (pa_cons (pe_op op_add (pe_callD D_cell_l hr rfl (pa_cons (pv 2) (pa_cons (pe_op op_add (pe_op op_add (pv 1) pe_int) (pe_op op_mod (pv 0) pe_int)) pa_nil))) (pe_op op_mul (pe_op op_mul pe_int (pv 0)) (pv 0))) (pa_cons pe_int (pa_cons pe_int pa_nil))))) sc_walk_l.nd rfl (Or.inl rfl))
      (pss_one (ps_ret (pe_tup (pa_cons (pv 4) (pa_cons (pv 5) (pa_cons (pe_callD D_mix_l hr rfl (pa_cons (pe_callD D_cell_l hr rfl (pa_cons (pv 0) (pa_cons (pe_op op_add (pv 1) pe_int) pa_nil))) (pa_cons pe_int (pa_cons (pv 3) pa_nil)))) pa_nil))))))))))), ?_⟩
  have big : ¬ (decide ((63 : Int) < (((ns.map V.int).length : Nat) : Int)) = true) := by
    rw [List.length_map]; intro z; have := of_decide_eq_true z; (first | lia | omega)
  refine seqG fun N1 k1' => ?_
  refine k1' _ _ (seqG fun N2 k2' => ?_)
  have all : ∀ mo : Int, 1 ≤ mo ∧ mo ≤ 60 → N2 [some (V.ref a), some (V.int at'), some (V.int mo), none, none, none] H := fun mo o1 => by
    refine k2' _ _ ?_
    refine ⟨_, rfl, _, _, rfl, .inl ha, _, _, rfl, rfl, _, rfl, iteN big ?_⟩
    have u1 := Int.emod_nonneg (ns.getD at'.toNat 0 * 48271 % 9973) (show mo ≠ 0 by (first | lia | omega))
    have u2 := Int.emod_lt_of_pos (ns.getD at'.toNat 0 * 48271 % 9973) (show 0 < mo by (first | lia | omega))
    refine ⟨_, rfl, _, rfl, a, ns, at', rfl, ha, h0, _, rfl, _, _, _, rfl, by decide, by (first | lia | omega), _, _, rfl, rfl, ?_⟩
    dsimp -proj only
    obtain ⟨N, hN, N1, N2⟩ : ∃ N : Nat, 1 + ns.getD at'.toNat 0 * 48271 % 9973 % mo = (N : Int) ∧ 1 ≤ N ∧ N ≤ 60 := ⟨(1 + ns.getD at'.toNat 0 * 48271 % 9973 % mo).toNat, by (first | lia | omega), by (first | lia | omega), by (first | lia | omega)⟩
    rw [hN]
    refine ⟨_, rfl, _, rfl, by (first | lia | omega), by (first | lia | omega), ?_⟩
    rw [Int.toNat_natCast]
    have em : ∀ (x : Int) (M : Nat), 0 < M → ∃ g : Nat, x % (M : Int) = (g : Int) ∧ g < M := fun x M hM => by
      have g1 := Int.emod_nonneg x (show (M : Int) ≠ 0 by (first | lia | omega))
      have g2 := Int.emod_lt_of_pos x (show (0 : Int) < (M : Int) by (first | lia | omega))
      exact ⟨(x % (M : Int)).toNat, by (first | lia | omega), by (first | lia | omega)⟩
    obtain ⟨f1, hf1⟩ : ∃ f1 : Nat → Nat, ∀ k : Nat, ((ns.getD (at' + 1 + (0 + (k : Int)) % 9).toNat 0 + 13 * (0 + (k : Int)) * (0 + (k : Int))) * 48271 % 9967) % (N : Int) = (f1 k : Int) ∧ f1 k < N :=
      ⟨fun k => (((ns.getD (at' + 1 + (0 + (k : Int)) % 9).toNat 0 + 13 * (0 + (k : Int)) * (0 + (k : Int))) * 48271 % 9967) % (N : Int)).toNat, fun k => by
        obtain ⟨g, hg, g1⟩ := em ((ns.getD (at' + 1 + (0 + (k : Int)) % 9).toNat 0 + 13 * (0 + (k : Int)) * (0 + (k : Int))) * 48271 % 9967) N N1
        dsimp only
        rw [hg, Int.toNat_natCast]
        exact ⟨rfl, g1⟩⟩
    obtain ⟨f2, hf2⟩ : ∃ f2 : Nat → Nat, ∀ k : Nat, ((ns.getD (at' + 2 + (0 + (k : Int)) % 9).toNat 0 + 19 * (0 + (k : Int)) * (0 + (k : Int))) * 48271 % 9949) % (2 : Int) = (f2 k : Int) ∧ f2 k < 2 :=
      ⟨fun k => (((ns.getD (at' + 2 + (0 + (k : Int)) % 9).toNat 0 + 19 * (0 + (k : Int)) * (0 + (k : Int))) * 48271 % 9949) % (2 : Int)).toNat, fun k => by
        obtain ⟨g, hg, g1⟩ := em ((ns.getD (at' + 2 + (0 + (k : Int)) % 9).toNat 0 + 19 * (0 + (k : Int)) * (0 + (k : Int))) * 48271 % 9949) 2 (by decide)
        have hg : ((ns.getD (at' + 2 + (0 + (k : Int)) % 9).toNat 0 + 19 * (0 + (k : Int)) * (0 + (k : Int))) * 48271 % 9949) % (2 : Int) = (g : Int) := hg
        dsimp only
        rw [hg, Int.toNat_natCast]
        exact ⟨rfl, g1⟩⟩
    refine comp_range (small (by (first | lia | omega))) (fun k => some (vN (f1 k))) (fun k H' hk sm => ?_) (fun l H1 s1 n1 e1 => ?_)
    · have nn := Int.emod_nonneg (0 + (k : Int)) (show (9 : Int) ≠ 0 by decide)
      refine ⟨_, rfl, _, rfl, _, _, rfl, rfl, _, rfl, _, _, rfl, rfl, (show (0 : Int) < 9 by decide), _, _, rfl, rfl, a, ns, _, rfl, sm.seq ha, by (first | lia | omega), _, rfl, _, _, rfl, rfl, .inl ⟨by decide, by decide⟩, _, rfl, _, _, rfl, rfl, .inr ⟨by (first | lia | omega), by (first | lia | omega)⟩, _, _, rfl, rfl, _, rfl, _, _, _, rfl, by decide, by (first | lia | omega), Same.refl _, ?_⟩
      rw [(hf1 k).1]
    rw [filterMap_some_map] at e1
    refine ⟨_, rfl, _, rfl, by (first | lia | omega), by (first | lia | omega), ?_⟩
    rw [Int.toNat_natCast]
    have ha1 := s1.seq ha
    refine comp_range (small (by (first | lia | omega))) (fun k => some (vN (f2 k))) (fun k H' hk sm => ?_) (fun c H2 s2 n2 e2 => ?_)
    · have nn := Int.emod_nonneg (0 + (k : Int)) (show (9 : Int) ≠ 0 by decide)
      refine ⟨_, rfl, _, rfl, _, _, rfl, rfl, _, rfl, _, _, rfl, rfl, (show (0 : Int) < 9 by decide), _, _, rfl, rfl, a, ns, _, rfl, sm.seq ha1, by (first | lia | omega), _, rfl, _, _, rfl, rfl, .inl ⟨by decide, by decide⟩, _, rfl, _, _, rfl, rfl, .inr ⟨by (first | lia | omega), by (first | lia | omega)⟩, _, _, rfl, rfl, _, _, _, rfl, by decide, by decide, Same.refl _, ?_⟩
      rw [(hf2 k).1]
    rw [filterMap_some_map] at e2
    obtain ⟨S, hS, S1⟩ := em (ns.getD (at' + 1).toNat 0 * 48271 % 9941) N (by (first | lia | omega))
    refine ⟨_, rfl, _, rfl, _, rfl, _, rfl, _, _, rfl, rfl, a, ns, _, rfl, s2.seq ha1, by (first | lia | omega), _, rfl, _, _, _, rfl, by decide, by (first | lia | omega), smallb, fun p hp => ?_⟩
    rw [hS]
    have np := Same.new hp (.tup [.ref l, .ref c, .int (S : Int)])
    have el : H1 l = some (.lst (((List.range N).map f1).map vN)) := by rw [e1, List.map_map]; rfl
    have ec : H2 c = some (.lst (((List.range N).map f2).map vN)) := by rw [e2, List.map_map]; rfl
    have lN : ((List.range N).map f1).length = N := by rw [List.length_map, List.length_range]
    refine q p l c ((List.range N).map f1) ((List.range N).map f2) S _ (s1.trans (s2.trans np)) (SqT.of upd_same) (np _ _ (s2 _ _ el)) (np _ _ ec) ?_ ⟨by rw [List.length_map, List.length_map], by rw [lN]; (first | lia | omega), fun x hx => ?_, fun x hx => ?_, by rw [lN]; exact S1⟩ (by rw [lN]; exact N2)
    · rintro rfl
      rw [el] at n2
      cases n2
    · obtain ⟨k, _, rfl⟩ := List.mem_map.mp hx
      rw [lN]; exact (hf1 k).2
    · obtain ⟨k, _, rfl⟩ := List.mem_map.mp hx
      have := (hf2 k).2
      clear hf1 hf2
      (first | lia | omega)
  exact ⟨_, rfl, a, ns, rfl, ha, hl, fun lg => ⟨_, rfl, ite2 (fun _ => all 40 (by decide)) (fun _ => all 12 (by decide))⟩⟩
noncomputable abbrev s_law : Stmt := top 63
theorem sc_law : FnScope ["_law_script", "_law_pulse_here", "_law_rules_here", "_law_steps", "_law_marks", "_law_start", "_law_numbers", "_law_due", "_law_rows", "_law_kept", "_law_row"] ["_law_script"] (defScope s_law) := ⟨rfl, rfl, rfl, by decide +kernel, rfl, by decide +kernel, by decide +kernel⟩
noncomputable def cs_law_0 : Scope := { kind := .function, names := [(".0", .local), ("_law_row", .local), ("list", .globalImplicit)], isGenerator := false, isCoroutine := false, more := [] }
theorem co_law_0 : CompOk (defScope s_law) cs_law_0 ["_law_script", "_law_pulse_here", "_law_rules_here", "_law_steps", "_law_marks", "_law_start", "_law_numbers", "_law_due", "_law_rows", "_law_kept", "_law_row"] "_law_row" [] [] := ⟨rfl, by decide +kernel, by decide +kernel, by decide +kernel, by decide +kernel, by decide +kernel, rfl, by decide +kernel⟩
set_option maxHeartbeats 4000000 in
theorem ok_law (TX : Txt K mg) (D_pulse_l : DefOk P w K mg base k "_law_pulse" ["_law_script", "_law_at"] (spPulse K)) (D_rules_l : DefOk P w K mg base k "_law_rules" ["_law_script"] (spRulesL K)) (D_walk_l : DefOk P w K mg base k "_law_walk" ["_law_script", "_law_at"] (spWalkL K)) (D_from_rules : DefOk P w K mg base k "from_rules" ["rules"] (spRules0 K)) (D_all_sums : DefOk P w K mg base k "all_sums" ["numbers"] (spSums K)) (D_walked : DefOk P w K mg base k "walked" ["steps", "marks", "start"] (spWalked0 K)) (D_added : DefOk P w K mg base k "added" ["one", "other"] (spAdded0 K)) (D_rules_of : DefOk P w K mg base k "rules_of" ["pulse"] (spRulesOf K)) (D_walk_of : DefOk P w K mg base k "walk_of" ["pulse"] (spWalkOf K)) (D_cell_l : DefOk P w K mg base k "_law_cell" ["_law_script", "_law_k"] (spCell K)) {f : Addr} {fd : FuncData} (F : Fun K "law" "law" s_law f fd) : FnOk P w K mg base CX0 (k + 1) f fd ["_law_script"] (spLaw K) := by
  refine F.ok sc_law (fun vs H Q E h => ?_) (fun cdv A outer s H vs Q E hr h => ?_)
  · first | (obtain ⟨rfl, _⟩ := h; rfl) | (obtain ⟨_, rfl, _⟩ := h; rfl) | (obtain ⟨_, _, rfl, _⟩ := h; rfl) | (obtain ⟨_, _, _, rfl, _⟩ := h; rfl) | (obtain ⟨_, _, _, _, rfl, _⟩ := h; rfl) | (obtain ⟨_, _, _, _, _, rfl, _⟩ := h; rfl) | (obtain ⟨_, _, _, _, _, _, rfl, _⟩ := h; rfl) | (obtain ⟨_, _, _, _, _, _, _, rfl, _⟩ := h; rfl) | (obtain ⟨_, _, _, _, _, _, _, _, rfl, _⟩ := h; rfl) | (obtain ⟨_, _, _, _, _, _, _, _, _, rfl, _⟩ := h; rfl)
  have hu := hr.units
  obtain ⟨a, ns, rfl, ha, hl, q⟩ := h
  refine ⟨_, pss_cons (ps_set (i := 1) sc_law.nd rfl (Or.inl rfl) (pe_callD D_pulse_l hr rfl (pa_cons (pv 0) (pa_cons pe_int pa_nil))))
      (pss_cons (ps_set (i := 2) sc_law.nd rfl (Or.inl rfl) (pe_callD D_rules_l hr rfl (pa_cons (pv 0) pa_nil)))
      (pss_cons (ps_asg (pe_callD D_walk_l hr rfl (pa_cons (pv 0) (pa_cons pe_int pa_nil))) (pg_tup rfl (pgs_cons (pg_name (i := 3) sc_law.nd rfl (Or.inl rfl)) (pgs_cons (pg_name (i := 4) sc_law.nd rfl (Or.inl rfl)) (pgs_cons (pg_name (i := 5) sc_law.nd rfl (Or.inl rfl)) (pgs_nil))))))
      (pss_cons (ps_set (i := 6) sc_law.nd rfl (Or.inl rfl) (pe_lst (pa_cons (pe_op op_add pe_int (pe_op op_mod (pe_callD D_cell_l hr rfl (pa_cons (pv 0) (pa_cons pe_int pa_nil))) pe_int)) (pa_cons (pe_op op_add pe_int (pe_op op_mod (pe_callD D_cell_l hr rfl (pa_cons (pv 0) (pa_cons pe_int pa_nil))) pe_int)) pa_nil))))
      (pss_cons (ps_set (i := 7) sc_law.nd rfl (Or.inl rfl) (pe_lst (pa_cons (pe_callD D_from_rules hr rfl (pa_cons (pv 2) pa_nil)) (pa_cons (pe_callD D_all_sums hr rfl (pa_cons (pv 6) pa_nil)) (pa_cons (pe_callD D_walked hr rfl (pa_cons (pv 3) (pa_cons (pv 4) (pa_cons (pv 5) pa_nil)))) (pa_cons (pe_callD D_added hr rfl (pa_cons (pv 1) (pa_cons (pe_tup (pa_cons (pe_tup (pa_cons pe_int (pa_cons pe_int pa_nil))) (pa_cons (pe_tup (pa_cons pe_int pa_nil)) pa_nil))) pa_nil))) pa_nil))))))
      (pss_cons (ps_set (i := 8) sc_law.nd rfl (Or.inl rfl) (pe_lst (pa_cons (pe_callD D_rules_of hr rfl (pa_cons (pv 1) pa_nil)) (pa_cons (pe_ix (ix_tupK K) (pe_callD D_walk_of hr rfl (pa_cons (pv 1) pa_nil)) pe_int (fun _ _ => rfl)) (pa_cons (pe_ix (ix_tupK K) (pe_callD D_walk_of hr rfl (pa_cons (pv 1) pa_nil)) pe_int (fun _ _ => rfl)) pa_nil)))))
      (pss_cons (ps_setC2 (k := 9) rfl co_law_0 (pi_listK K (pv 8)) (fun _ _ _ _ => pts_nil) (fun _ _ _ _ => (pe_callTy (call_listK K) rfl TX.b_list PyProof.Rows.boot_list (pa_cons (pv 0) pa_nil))) sc_law.nd rfl (Or.inl rfl))
      (pss_cons (ps_for PassesOwn.never rfl (pi_listK K (pv 8)) (pg_name (i := 10) sc_law.nd rfl (Or.inl rfl)) (pss_one (ps_expr (pe_bm0 PySem.F.plainAttrs_list PySem.F.slot_list_clear PySem.F.type_list_clear mt_clear (pv 10)))))
      (pss_cons (ps_if (pt_cmpR (op_neDK K hu) (pe_lst (pa_cons (pe_callD D_rules_of hr rfl (pa_cons (pv 1) pa_nil)) (pa_cons (pe_ix (ix_tupK K) (pe_callD D_walk_of hr rfl (pa_cons (pv 1) pa_nil)) pe_int (fun _ _ => rfl)) (pa_cons (pe_ix (ix_tupK K) (pe_callD D_walk_of hr rfl (pa_cons (pv 1) pa_nil)) pe_int (fun _ _ => rfl)) pa_nil)))) (pv 9) (nomark _)) (pss_one (ps_ret pe_bl)) pss_nil)
      (pss_one (ps_ret (pe_cmpR (op_eqDK K hu) (pv 7) (pe_lst (pa_cons (pe_callD D_from_rules hr rfl (pa_cons (pv 2) pa_nil)) (pa_cons (pe_callD D_all_sums hr rfl (pa_cons (pv 6) pa_nil)) (pa_cons (pe_callD D_walked hr rfl (pa_cons (pv 3) (pa_cons (pv 4) (pa_cons (pv 5) pa_nil)))) (pa_cons (pe_callD D_added hr rfl (pa_cons (pv 1) (pa_cons (pe_tup (pa_cons (pe_tup (pa_cons pe_int (pa_cons pe_int pa_nil))) (pa_cons (pe_tup (pa_cons pe_int pa_nil)) pa_nil))) pa_nil))) pa_nil))))) (nomark _)))))))))))), ?_⟩
  refine seqG fun N1 k1 => ?_
  refine ⟨_, rfl, a, ns, 1, rfl, ha, hl, by decide, fun p h b H1 s1 pl t bh bb l1 l2 => ?_⟩
  have pu : Pu K H1 p h b := ⟨pl, t, bh, bb, by (first | lia | omega), by (first | lia | omega)⟩
  have hb := t.pos
  refine k1 _ _ (seqG fun N2 k2 => ?_)
  refine ⟨_, rfl, a, ns, rfl, s1.seq ha, hl, fun lr rs H2 s2 n2 rl rlen rk => ?_⟩
  refine k2 _ _ (seqG fun N3 k3 => ?_)
  refine ⟨_, rfl, a, ns, 5, rfl, s2.seq (s1.seq ha), hl, by decide, fun tw l c st mk s0 H3 s3 htw el ec lc ok l60 => ?_⟩
  refine ⟨tw, _, rfl, htw, rfl, _, _, rfl, _, _, rfl, _, _, rfl, rfl, ?_⟩
  have ha3 := s3.seq (s2.seq (s1.seq ha))
  have a1 := Int.emod_nonneg (ns.getD (2 : Int).toNat 0) (show (9 : Int) ≠ 0 by decide)
  have a2 := Int.emod_lt_of_pos (ns.getD (2 : Int).toNat 0) (show (0 : Int) < 9 by decide)
  have b1 := Int.emod_nonneg (ns.getD (3 : Int).toNat 0) (show (9 : Int) ≠ 0 by decide)
  have b2 := Int.emod_lt_of_pos (ns.getD (3 : Int).toNat 0) (show (0 : Int) < 9 by decide)
  obtain ⟨n1, hn1, m1⟩ : ∃ n : Nat, 1 + ns.getD (2 : Int).toNat 0 % 9 = (n : Int) ∧ 1 ≤ n ∧ n ≤ 9 := ⟨(1 + ns.getD (2 : Int).toNat 0 % 9).toNat, by (first | lia | omega), by (first | lia | omega), by (first | lia | omega)⟩
  obtain ⟨n2', hn2, m2⟩ : ∃ n : Nat, 1 + ns.getD (3 : Int).toNat 0 % 9 = (n : Int) ∧ 1 ≤ n ∧ n ≤ 9 := ⟨(1 + ns.getD (3 : Int).toNat 0 % 9).toNat, by (first | lia | omega), by (first | lia | omega), by (first | lia | omega)⟩
  refine k3 _ _ (seqG fun N4 k4 => ?_)
  refine ⟨_, rfl, a, ns, 2, rfl, ha3, by decide, _, _, rfl, rfl, (show (0 : Int) < 9 by decide), _, _, rfl, rfl, _, rfl, a, ns, 3, rfl, ha3, by decide, _, _, rfl, rfl, (show (0 : Int) < 9 by decide), _, _, rfl, rfl, smallb, fun ln hln => ?_⟩
  dsimp -proj only at hln ⊢
  rw [hn1, hn2]
  have n4 := Same.new hln (.lst [.int (n1 : Int), .int (n2' : Int)])
  have nu : Nums [n1, n2'] 6 20 := ⟨by simp, by simp, fun n hn => by simp at hn; (first | lia | omega)⟩
  generalize hH4 : upd H3 ln (.lst [.int (n1 : Int), .int (n2' : Int)]) = H4 at n4
  have eln : H4 ln = some (.lst ([n1, n2'].map vN)) := by rw [← hH4, upd_same]; rfl
  have pu4 := ((pu.same s2).same s3).same n4
  have rl4 := (rl.same s3).same n4
  have el4 := n4 _ _ el
  have ec4 := n4 _ _ ec
  have pr := RuK.per rk
  have rok := RuK.ok rlen rk
  have rfit : ∀ hh bb, T hh bb → (∀ d, fig hh bb d = ruleF rs d) → Fits hh bb := fun hh bb t ef => by
    have sm := per_fits t ef (by decide) pr
    exact ⟨by (first | lia | omega), Nat.le_trans (Nat.le_of_dvd (by decide) sm.2) (by decide)⟩
  refine k4 _ _ (seqG fun N5 k5 => ?_)
  refine ⟨_, rfl, lr, rs, rfl, rl4, rok, rfit, fun r1 h1 b1 G1 g1 p1 t1 f1 => ⟨_, rfl, ln, [n1, n2'], rfl, SqL.of (g1 _ _ eln), nu, fun r2 h2 b2 G2 g2 p2 f2 => ⟨_, rfl, _, rfl, _, rfl, l, c, st, mk, s0, rfl, SqL.of (g2 _ _ (g1 _ _ el4)), SqL.of (g2 _ _ (g1 _ _ ec4)), ok, fun h3 b3 t3 f3 => walk_fits ok (by (first | lia | omega)) t3 f3, fun r3 h3 b3 G3 g3 p3 t3 f3 => ?_⟩⟩⟩
  refine ⟨_, rfl, smallb, fun x1 hx1 => ⟨smallb, fun x2 hx2 => ⟨smallb, fun x3 hx3 => ?_⟩⟩⟩
  have o1 := Same.new hx1 (.tup [.int 1, .int 1])
  have o2 := Same.new hx2 (.tup [.int 0])
  have o3 := Same.new hx3 (.tup [.ref x1, .ref x2])
  have O3 := o1.trans (o2.trans o3)
  have S3 := g1.trans (g2.trans g3)
  refine ⟨p, x3, h, b, [1, 1], [0], rfl, (pu4.same S3).same O3, pu_two (Pl.mk (h := [1, 1]) (b := [0]) hx3 (o2.tup (SqT.of upd_same)) (SqT.of upd_same)), fun h4 b4 t4 f4 => two_add t l1 l2 t4 f4, fun r4 h4 b4 G4 g4 p4 t4 f4 => ⟨smallb, fun ld hld => ?_⟩⟩
  have n5 := Same.new hld (.lst [.ref r1, .ref r2, .ref r3, .ref r4])
  generalize hGA : upd G4 ld (.lst [.ref r1, .ref r2, .ref r3, .ref r4]) = GA at n5
  have eld : GA ld = some (.lst [.ref r1, .ref r2, .ref r3, .ref r4]) := by rw [← hGA, upd_same]
  have SA := S3.trans (O3.trans (g4.trans n5))
  have d1 : DP K GA r1 (ruleF rs) := ⟨h1, b1, p1.same (g2.trans (g3.trans (O3.trans (g4.trans n5)))), t1, f1⟩
  have d2 : DP K GA r2 (sumF [n1, n2']) := ⟨h2, b2, p2.pl.same (g3.trans (O3.trans (g4.trans n5))), p2.t, f2⟩
  have d3 : DP K GA r3 (walkF st mk s0) := ⟨h3, b3, p3.same (O3.trans (g4.trans n5)), t3, f3⟩
  have d4 : DP K GA r4 (addF (fig h b) (fig [1, 1] [0])) := ⟨h4, b4, p4.same n5, t4, f4⟩
  have puA := pu4.same SA
  have rlA := rl4.same SA
  have elA := SA _ _ el4
  have ecA := SA _ _ ec4
  have enA := SA _ _ eln
  refine k5 _ _ (seqG fun N6 k6 => ?_)
  refine ⟨_, rfl, p, h, b, rfl, puA, fun q1 xs1 B1 sB1 nq1 eq1 ru1 => ⟨_, rfl, p, h, b, rfl, puA.same sB1, fun tf lf cf B2 sB2 nlf ncf lcf htf elf ecf => ⟨_, _, _, _, rfl, rfl, htf, at0, _, rfl, p, h, b, rfl, (puA.same sB1).same sB2, fun tg lg cg B3 sB3 nlg ncg lcg htg elg ecg => ⟨_, _, _, _, rfl, rfl, htg, at1, smallb, fun lw hlw => ?_⟩⟩⟩⟩
  have nw := Same.new hlw (.lst [.ref q1, .ref lf, .ref cg])
  generalize hB4 : upd B3 lw (.lst [.ref q1, .ref lf, .ref cg]) = B4 at nw
  have elw : B4 lw = some (.lst [.ref q1, .ref lf, .ref cg]) := by rw [← hB4, upd_same]
  have c1 : B4 q1 = some (.lst xs1) := nw _ _ (sB3 _ _ (sB2 _ _ eq1))
  have c2 : B4 lf = some (.lst ((stepsOf h b).map vN)) := nw _ _ (sB3 _ _ elf)
  have c3 : B4 cg = some (.lst ((h ++ b).map V.int)) := nw _ _ ecg
  have ru4 : Rus K B4 xs1 (rulesOf h b) := ((ru1.same sB2).same sB3).same nw
  have SB := sB1.trans (sB2.trans (sB3.trans nw))
  have fr : ∀ {A B : Hp} {r : Addr}, Same A B → B r = none → A r = none := fun {A B r} s e => by
    cases u : A r with
    | none => rfl
    | some o => rw [s _ _ u] at e; cases e
  have z1 : GA q1 = none := nq1
  have z2 : GA lf = none := fr sB1 nlf
  have z3 : GA cg = none := fr (sB1.trans sB2) ncg
  refine k6 _ _ (seqG fun N7 k7 => ?_)
  refine ⟨_, rfl, lw, rfl, ⟨_, SqL.of elw⟩, ?_⟩
  refine comp2_list (ys := [.ref q1, .ref lf, .ref cg]) (SqL.of elw) smallb (fun D i xs H' => xs.length = i ∧ ∀ j v, xs[j]? = some v → ∃ k, v = .ref k ∧ H' k = some (.lst (([xs1, (stepsOf h b).map vN, (h ++ b).map V.int] : List (List V)).getD j [])) ∧ B4 k = none ∧ k ≠ D) (fun D hD => ⟨rfl, fun j v e => by cases j <;> cases e⟩) (fun D i x xs H' hD hx sm hd hl2 pv => ?_) (fun D xs Hk sk hD eD pv => ?_)
  · obtain ⟨pl1, pv⟩ := pv
    obtain ⟨k, ys, rfl, hy, hk⟩ : ∃ (k : Addr) (ys : List V), x = .ref k ∧ ys = ([xs1, (stepsOf h b).map vN, (h ++ b).map V.int] : List (List V)).getD i [] ∧ H' k = some (.lst ys) := by
      have i3 : i < 3 := (List.getElem?_eq_some_iff.mp hx).1
      have ci : i = 0 ∨ i = 1 ∨ i = 2 := by (first | lia | omega)
      rcases ci with rfl | rfl | rfl
      · cases hx; exact ⟨_, _, rfl, rfl, sm _ _ c1⟩
      · cases hx; exact ⟨_, _, rfl, rfl, sm _ _ c2⟩
      · cases hx; exact ⟨_, _, rfl, rfl, sm _ _ c3⟩
    refine ⟨_, rfl, k, ys, rfl, .inl (SqL.of hk), fun k2 H6 s6 n6 e6 => ⟨s6, by rw [List.length_append, pl1]; rfl, fun j v e => ?_⟩⟩
    have kD : k2 ≠ D := by rintro rfl; rw [hd] at n6; cases n6
    by_cases cj : j < xs.length
    · rw [List.getElem?_append_left cj] at e
      obtain ⟨k3, rfl, e3, f3, g3⟩ := pv j v e
      exact ⟨k3, rfl, by rw [upd_ne g3]; exact s6 _ _ e3, f3, g3⟩
    · rw [List.getElem?_append_right (by (first | lia | omega))] at e
      have ej : j = i := by
        have := (List.getElem?_eq_some_iff.mp e).1
        simp at this
        (first | lia | omega)
      subst ej
      rw [pl1, Nat.sub_self] at e
      cases e
      exact ⟨k2, rfl, by rw [upd_ne kD, e6, hy], fr sm n6, kD⟩
  obtain ⟨pl1, pv⟩ := pv
  obtain ⟨y0, y1, y2, rfl⟩ := len_three pl1
  obtain ⟨k0, rfl, w0, x0, _⟩ := pv 0 _ rfl
  obtain ⟨k1, rfl, w1, x1', _⟩ := pv 1 _ rfl
  obtain ⟨k2, rfl, w2, x2', _⟩ := pv 2 _ rfl
  have w0 : Hk k0 = some (.lst xs1) := w0
  have w1 : Hk k1 = some (.lst ((stepsOf h b).map vN)) := w1
  have w2 : Hk k2 = some (.lst ((h ++ b).map V.int)) := w2
  have away : ∀ r ys, B4 r = some (.lst ys) → r ≠ lw → r ≠ D ∧ r ≠ k0 ∧ r ≠ k1 ∧ r ≠ k2 := fun r ys e _ => ⟨(by rintro rfl; rw [e] at hD; cases hD), (by rintro rfl; rw [e] at x0; cases x0), (by rintro rfl; rw [e] at x1'; cases x1'), (by rintro rfl; rw [e] at x2'; cases x2')⟩
  have isrow : ∀ v, v ∈ ([.ref q1, .ref lf, .ref cg] : List V) → ∃ r, v = .ref r ∧ GA r = none ∧ r ≠ lw ∧ r ≠ D ∧ r ≠ k0 ∧ r ≠ k1 ∧ r ≠ k2 := fun v hv => by
    simp only [List.mem_cons, List.not_mem_nil, or_false] at hv
    rcases hv with e | e | e
    · have nlw : q1 ≠ lw := by rintro rfl; rw [sB3 _ _ (sB2 _ _ eq1)] at hlw; cases hlw
      exact ⟨q1, e, z1, nlw, away _ _ c1 nlw⟩
    · have nlw : lf ≠ lw := by rintro rfl; rw [sB3 _ _ elf] at hlw; cases hlw
      exact ⟨lf, e, z2, nlw, away _ _ c2 nlw⟩
    · have nlw : cg ≠ lw := by rintro rfl; rw [ecg] at hlw; cases hlw
      exact ⟨cg, e, z3, nlw, away _ _ c3 nlw⟩
  refine k7 _ _ (seqG fun N8 k8 => ?_)
  refine ⟨_, rfl, lw, rfl, ⟨_, SqL.of (sk _ _ elw)⟩, for_list (xs := [.ref q1, .ref lf, .ref cg]) (fun i σ H2 => ∃ v : Option V, σ = [some (.ref a), some (.ref p), some (.ref lr), some (.ref l), some (.ref c), some (.int (s0 : Int)), some (.ref ln), some (.ref ld), some (.ref lw), some (.ref D), v] ∧ Same GA H2 ∧ H2 lw = some (.lst [.ref q1, .ref lf, .ref cg]) ∧ H2 D = some (.lst [.ref k0, .ref k1, .ref k2]) ∧ H2 k0 = some (.lst xs1) ∧ H2 k1 = some (.lst ((stepsOf h b).map vN)) ∧ H2 k2 = some (.lst ((h ++ b).map V.int)) ∧ Rus K H2 xs1 (rulesOf h b) ∧ ∀ r, (.ref r) ∈ ([.ref q1, .ref lf, .ref cg] : List V) → ∃ ys, H2 r = some (.lst ys))
    ⟨none, rfl, SB.trans sk, sk _ _ elw, eD, w0, w1, w2, ru4.same sk, fun r hr => ?_⟩ (fun i σ H2 _ ⟨_, _, _, e, _⟩ => SqL.of e) ?_ ?_⟩
  · simp only [List.mem_cons, List.not_mem_nil, or_false, V.ref.injEq] at hr
    rcases hr with rfl | rfl | rfl
    · exact ⟨_, sk _ _ c1⟩
    · exact ⟨_, sk _ _ c2⟩
    · exact ⟨_, sk _ _ c3⟩
  · rintro i v σ H2 hi ⟨v1, rfl, S2, i1, i2, i3, i4, i5, i6, i7⟩
    obtain ⟨r, rfl, zr, j1, j2, j3, j4, j5⟩ := isrow v (List.mem_of_getElem? hi)
    obtain ⟨ys, hy⟩ := i7 r (List.mem_of_getElem? hi)
    refine ⟨_, rfl, .inl ⟨rfl, _, SqL.of hy⟩, r, ys, rfl, rfl, hy, ?_⟩
    refine ⟨_, rfl, S2.over zr, by rw [upd_ne (Ne.symm j1)]; exact i1, by rw [upd_ne (Ne.symm j2)]; exact i2, by rw [upd_ne (Ne.symm j3)]; exact i3, by rw [upd_ne (Ne.symm j4)]; exact i4, by rw [upd_ne (Ne.symm j5)]; exact i5, Rus.overL hy i6, fun r' hr' => ?_⟩
    by_cases e : r' = r
    · subst e; exact ⟨_, upd_same⟩
    · obtain ⟨ys', hy'⟩ := i7 r' hr'
      exact ⟨ys', by rw [upd_ne e]; exact hy'⟩
  · rintro σ H2 ⟨v1, rfl, S2, i1, i2, i3, i4, i5, i6, i7⟩
    have pu2 := puA.same S2
    refine k8 _ _ (seqG fun N9 k9 => ?_)
    refine ⟨_, rfl, p, h, b, rfl, pu2, fun q1 xs2 B1 sB1 nq1 eq1 ru2 => ⟨_, rfl, p, h, b, rfl, pu2.same sB1, fun tf lf cf B2 sB2 nlf ncf lcf htf elf ecf => ⟨_, _, _, _, rfl, rfl, htf, at0, _, rfl, p, h, b, rfl, (pu2.same sB1).same sB2, fun tg lg cg B3 sB3 nlg ncg lcg htg elg ecg => ⟨_, _, _, _, rfl, rfl, htg, at1, smallb, fun lx hlx => ?_⟩⟩⟩⟩
    have nx := Same.new hlx (.lst [.ref q1, .ref lf, .ref cg])
    have T3 := sB1.trans (sB2.trans (sB3.trans nx))
    have e1 := nx _ _ (sB3 _ _ (sB2 _ _ eq1))
    have e2 := nx _ _ (sB3 _ _ elf)
    have e3 := nx _ _ ecg
    have e5 := T3 _ _ i4
    rw [nats_ints] at e2 e5
    refine ⟨_, rfl, _, _, .lst (SqL.of upd_same) (.cons (.lst (SqL.of e1) (Rus.rep (n := 6) (((ru2.same sB2).same sB3).same nx))) (.cons (Rep.intsL (SqL.of e2)) (.cons (Rep.intsL (SqL.of e3)) .nil))), .lst (SqL.of (T3 _ _ i2)) (.cons (.lst (SqL.of (T3 _ _ i3)) (Rus.rep (n := 6) (i6.same T3))) (.cons (Rep.intsL (SqL.of e5)) (.cons (Rep.intsL (SqL.of (T3 _ _ i5))) .nil))), _, rfl, ?_⟩
    rw [eqv3 (by simp only [PyData.eqv]; exact eqv_rus _) (by rw [eqv_dL, decide_eq_true rfl]) (by rw [eqv_dL, decide_eq_true rfl])]
    refine iteNot rfl ?_
    refine k9 _ _ ?_
    have ST := S2.trans T3
    have puT := puA.same ST
    refine ⟨_, rfl, _, rfl, lr, rs, rfl, rlA.same ST, rok, rfit, fun r1' h1' b1' G1' g1' p1' t1' f1' => ⟨_, rfl, ln, [n1, n2'], rfl, SqL.of (g1' _ _ (ST _ _ enA)), nu, fun r2' h2' b2' G2' g2' p2' f2' => ⟨_, rfl, _, rfl, _, rfl, l, c, st, mk, s0, rfl, SqL.of (g2' _ _ (g1' _ _ (ST _ _ elA))), SqL.of (g2' _ _ (g1' _ _ (ST _ _ ecA))), ok, fun h3' b3' t3' f3' => walk_fits ok (by (first | lia | omega)) t3' f3', fun r3' h3' b3' G3' g3' p3' t3' f3' => ?_⟩⟩⟩
    refine ⟨_, rfl, smallb, fun x1 hx1 => ⟨smallb, fun x2 hx2 => ⟨smallb, fun x3 hx3 => ?_⟩⟩⟩
    have o1 := Same.new hx1 (.tup [.int 1, .int 1])
    have o2 := Same.new hx2 (.tup [.int 0])
    have o3 := Same.new hx3 (.tup [.ref x1, .ref x2])
    have O3 := o1.trans (o2.trans o3)
    have U3 := g1'.trans (g2'.trans g3')
    refine ⟨p, x3, h, b, [1, 1], [0], rfl, (puT.same U3).same O3, pu_two (Pl.mk (h := [1, 1]) (b := [0]) hx3 (o2.tup (SqT.of upd_same)) (SqT.of upd_same)), fun h4' b4' t4' f4' => two_add t l1 l2 t4' f4', fun r4' h4' b4' G4' g4' p4' t4' f4' => ⟨smallb, fun le hle => ?_⟩⟩
    have n5 := Same.new hle (.lst [.ref r1', .ref r2', .ref r3', .ref r4'])
    have d1' : DP K _ r1' (ruleF rs) := ⟨h1', b1', p1'.same (g2'.trans (g3'.trans (O3.trans (g4'.trans n5)))), t1', f1'⟩
    have d2' : DP K _ r2' (sumF [n1, n2']) := ⟨h2', b2', p2'.pl.same (g3'.trans (O3.trans (g4'.trans n5))), p2'.t, f2'⟩
    have d3' : DP K _ r3' (walkF st mk s0) := ⟨h3', b3', p3'.same (O3.trans (g4'.trans n5)), t3', f3'⟩
    have d4' : DP K _ r4' (addF (fig h b) (fig [1, 1] [0])) := ⟨h4', b4', p4'.same n5, t4', f4'⟩
    have UF := ST.trans (U3.trans (O3.trans (g4'.trans n5)))
    obtain ⟨u1, u1', v1, v1', y1⟩ := (d1.same UF).rep d1'
    obtain ⟨u2, u2', v2, v2', y2⟩ := (d2.same UF).rep d2'
    obtain ⟨u3, u3', v3, v3', y3⟩ := (d3.same UF).rep d3'
    obtain ⟨u4, u4', v4, v4', y4⟩ := (d4.same UF).rep d4'
    refine ⟨_, _, .lst (SqL.of (UF _ _ eld)) (.cons v1 (.cons v2 (.cons v3 (.cons v4 .nil)))), .lst (SqL.of upd_same) (.cons v1' (.cons v2' (.cons v3' (.cons v4' .nil)))), ?_⟩
    rw [eqv4 y1 y2 y3 y4]
    exact q _
end
set_option maxHeartbeats 4000000 in
theorem all_mk {l : PySem.W.OpenLaw} {w : World} {K : PySem.W.Frag} {h : Heap} {mg : Str → Option Value} {fa f0 f1 f2 f3 f4 f5 f6 f7 f8 f9 f10 f11 f12 f13 f14 f15 f16 f17 f18 f19 f20 f21 f22 f23 f24 f25 f26 f27 f28 f29 f30 f31 f32 f33 f34 f35 f36 f37 f38 f39 f40 : Addr} (X : K.In h) (G : h.Ns mainGlobals mg) (hfa : mg "law" = some (.ref fa))
    {od0 an0 od1 an1 od2 an2 od3 an3 od4 an4 od5 an5 od6 an6 od7 an7 od8 an8 od9 an9 od10 an10 od11 an11 od12 an12 od13 an13 od14 an14 od15 an15 od16 an16 od17 an17 od18 an18 od19 an19 od20 an20 od21 an21 od22 an22 od23 an23 od24 an24 od25 an25 od26 an26 od27 an27 od28 an28 od29 an29 od30 an30 od31 an31 od32 an32 od33 an33 od34 an34 od35 an35 od36 an36 od37 an37 od38 an38 od39 an39 od40 an40 : Option Addr} {sl0 sl1 sl2 sl3 sl4 sl5 sl6 sl7 sl8 sl9 sl10 sl11 sl12 sl13 sl14 sl15 sl16 sl17 sl18 sl19 sl20 sl21 sl22 sl23 sl24 sl25 sl26 sl27 sl28 sl29 sl30 sl31 sl32 sl33 sl34 sl35 sl36 sl37 sl38 sl39 sl40 : Array (Option Value)} {oc0 kV0 dc0 pm0 cd0 ct0 oc1 kV1 dc1 pm1 cd1 ct1 oc2 kV2 dc2 pm2 cd2 ct2 oc3 kV3 dc3 pm3 cd3 ct3 oc4 kV4 dc4 pm4 cd4 ct4 oc5 kV5 dc5 pm5 cd5 ct5 oc6 kV6 dc6 pm6 cd6 ct6 oc7 kV7 dc7 pm7 cd7 ct7 oc8 kV8 dc8 pm8 cd8 ct8 oc9 kV9 dc9 pm9 cd9 ct9 oc10 kV10 dc10 pm10 cd10 ct10 oc11 kV11 dc11 pm11 cd11 ct11 oc12 kV12 dc12 pm12 cd12 ct12 oc13 kV13 dc13 pm13 cd13 ct13 oc14 kV14 dc14 pm14 cd14 ct14 oc15 kV15 dc15 pm15 cd15 ct15 oc16 kV16 dc16 pm16 cd16 ct16 oc17 kV17 dc17 pm17 cd17 ct17 oc18 kV18 dc18 pm18 cd18 ct18 oc19 kV19 dc19 pm19 cd19 ct19 oc20 kV20 dc20 pm20 cd20 ct20 oc21 kV21 dc21 pm21 cd21 ct21 oc22 kV22 dc22 pm22 cd22 ct22 oc23 kV23 dc23 pm23 cd23 ct23 oc24 kV24 dc24 pm24 cd24 ct24 oc25 kV25 dc25 pm25 cd25 ct25 oc26 kV26 dc26 pm26 cd26 ct26 oc27 kV27 dc27 pm27 cd27 ct27 oc28 kV28 dc28 pm28 cd28 ct28 oc29 kV29 dc29 pm29 cd29 ct29 oc30 kV30 dc30 pm30 cd30 ct30 oc31 kV31 dc31 pm31 cd31 ct31 oc32 kV32 dc32 pm32 cd32 ct32 oc33 kV33 dc33 pm33 cd33 ct33 oc34 kV34 dc34 pm34 cd34 ct34 oc35 kV35 dc35 pm35 cd35 ct35 oc36 kV36 dc36 pm36 cd36 ct36 oc37 kV37 dc37 pm37 cd37 ct37 oc38 kV38 dc38 pm38 cd38 ct38 oc39 kV39 dc39 pm39 cd39 ct39 oc40 kV40 dc40 pm40 cd40 ct40 : Value}
    (a0 : PySem.W.nsIn K mainGlobals "is_whole" = some (some (.ref f0))) (l0 : K.lookup f0 = some ⟨oc0, od0, .func (PySem.W.fnOf "is_whole" "is_whole" (defArgs s_is_whole) (defBody s_is_whole) (defScope s_is_whole) .none kV0 dc0 pm0 an0 cd0 ct0), sl0⟩) (c0 : PySem.W.codeIn K cd0 "is_whole" = true) (k0 : PySem.W.keepIn K (.ref f0) = true)
    (a1 : PySem.W.nsIn K mainGlobals "is_number" = some (some (.ref f1))) (l1 : K.lookup f1 = some ⟨oc1, od1, .func (PySem.W.fnOf "is_number" "is_number" (defArgs s_is_number) (defBody s_is_number) (defScope s_is_number) .none kV1 dc1 pm1 an1 cd1 ct1), sl1⟩) (c1 : PySem.W.codeIn K cd1 "is_number" = true) (k1 : PySem.W.keepIn K (.ref f1) = true)
    (a2 : PySem.W.nsIn K mainGlobals "are_numbers" = some (some (.ref f2))) (l2 : K.lookup f2 = some ⟨oc2, od2, .func (PySem.W.fnOf "are_numbers" "are_numbers" (defArgs s_are_numbers) (defBody s_are_numbers) (defScope s_are_numbers) .none kV2 dc2 pm2 an2 cd2 ct2), sl2⟩) (c2 : PySem.W.codeIn K cd2 "are_numbers" = true) (k2 : PySem.W.keepIn K (.ref f2) = true)
    (a3 : PySem.W.nsIn K mainGlobals "is_list" = some (some (.ref f3))) (l3 : K.lookup f3 = some ⟨oc3, od3, .func (PySem.W.fnOf "is_list" "is_list" (defArgs s_is_list) (defBody s_is_list) (defScope s_is_list) .none kV3 dc3 pm3 an3 cd3 ct3), sl3⟩) (c3 : PySem.W.codeIn K cd3 "is_list" = true) (k3 : PySem.W.keepIn K (.ref f3) = true)
    (a4 : PySem.W.nsIn K mainGlobals "place_in_bar" = some (some (.ref f4))) (l4 : K.lookup f4 = some ⟨oc4, od4, .func (PySem.W.fnOf "place_in_bar" "place_in_bar" (defArgs s_place_in_bar) (defBody s_place_in_bar) (defScope s_place_in_bar) .none kV4 dc4 pm4 an4 cd4 ct4), sl4⟩) (c4 : PySem.W.codeIn K cd4 "place_in_bar" = true) (k4 : PySem.W.keepIn K (.ref f4) = true)
    (a5 : PySem.W.nsIn K mainGlobals "figure_of" = some (some (.ref f5))) (l5 : K.lookup f5 = some ⟨oc5, od5, .func (PySem.W.fnOf "figure_of" "figure_of" (defArgs s_figure_of) (defBody s_figure_of) (defScope s_figure_of) .none kV5 dc5 pm5 an5 cd5 ct5), sl5⟩) (c5 : PySem.W.codeIn K cd5 "figure_of" = true) (k5 : PySem.W.keepIn K (.ref f5) = true)
    (a6 : PySem.W.nsIn K mainGlobals "places_of_ones" = some (some (.ref f6))) (l6 : K.lookup f6 = some ⟨oc6, od6, .func (PySem.W.fnOf "places_of_ones" "places_of_ones" (defArgs s_places_of_ones) (defBody s_places_of_ones) (defScope s_places_of_ones) .none kV6 dc6 pm6 an6 cd6 ct6), sl6⟩) (c6 : PySem.W.codeIn K cd6 "places_of_ones" = true) (k6 : PySem.W.keepIn K (.ref f6) = true)
    (a7 : PySem.W.nsIn K mainGlobals "days_of_head" = some (some (.ref f7))) (l7 : K.lookup f7 = some ⟨oc7, od7, .func (PySem.W.fnOf "days_of_head" "days_of_head" (defArgs s_days_of_head) (defBody s_days_of_head) (defScope s_days_of_head) .none kV7 dc7 pm7 an7 cd7 ct7), sl7⟩) (c7 : PySem.W.codeIn K cd7 "days_of_head" = true) (k7 : PySem.W.keepIn K (.ref f7) = true)
    (a8 : PySem.W.nsIn K mainGlobals "first_days_of_bar" = some (some (.ref f8))) (l8 : K.lookup f8 = some ⟨oc8, od8, .func (PySem.W.fnOf "first_days_of_bar" "first_days_of_bar" (defArgs s_first_days_of_bar) (defBody s_first_days_of_bar) (defScope s_first_days_of_bar) .none kV8 dc8 pm8 an8 cd8 ct8), sl8⟩) (c8 : PySem.W.codeIn K cd8 "first_days_of_bar" = true) (k8 : PySem.W.keepIn K (.ref f8) = true)
    (a9 : PySem.W.nsIn K mainGlobals "longer_head" = some (some (.ref f9))) (l9 : K.lookup f9 = some ⟨oc9, od9, .func (PySem.W.fnOf "longer_head" "longer_head" (defArgs s_longer_head) (defBody s_longer_head) (defScope s_longer_head) .none kV9 dc9 pm9 an9 cd9 ct9), sl9⟩) (c9 : PySem.W.codeIn K cd9 "longer_head" = true) (k9 : PySem.W.keepIn K (.ref f9) = true)
    (a10 : PySem.W.nsIn K mainGlobals "common_bar" = some (some (.ref f10))) (l10 : K.lookup f10 = some ⟨oc10, od10, .func (PySem.W.fnOf "common_bar" "common_bar" (defArgs s_common_bar) (defBody s_common_bar) (defScope s_common_bar) .none kV10 dc10 pm10 an10 cd10 ct10), sl10⟩) (c10 : PySem.W.codeIn K cd10 "common_bar" = true) (k10 : PySem.W.keepIn K (.ref f10) = true)
    (a11 : PySem.W.nsIn K mainGlobals "shortest_bar" = some (some (.ref f11))) (l11 : K.lookup f11 = some ⟨oc11, od11, .func (PySem.W.fnOf "shortest_bar" "shortest_bar" (defArgs s_shortest_bar) (defBody s_shortest_bar) (defScope s_shortest_bar) .none kV11 dc11 pm11 an11 cd11 ct11), sl11⟩) (c11 : PySem.W.codeIn K cd11 "shortest_bar" = true) (k11 : PySem.W.keepIn K (.ref f11) = true)
    (a12 : PySem.W.nsIn K mainGlobals "needed_of_head" = some (some (.ref f12))) (l12 : K.lookup f12 = some ⟨oc12, od12, .func (PySem.W.fnOf "needed_of_head" "needed_of_head" (defArgs s_needed_of_head) (defBody s_needed_of_head) (defScope s_needed_of_head) .none kV12 dc12 pm12 an12 cd12 ct12), sl12⟩) (c12 : PySem.W.codeIn K cd12 "needed_of_head" = true) (k12 : PySem.W.keepIn K (.ref f12) = true)
    (a13 : PySem.W.nsIn K mainGlobals "tight" = some (some (.ref f13))) (l13 : K.lookup f13 = some ⟨oc13, od13, .func (PySem.W.fnOf "tight" "tight" (defArgs s_tight) (defBody s_tight) (defScope s_tight) .none kV13 dc13 pm13 an13 cd13 ct13), sl13⟩) (c13 : PySem.W.codeIn K cd13 "tight" = true) (k13 : PySem.W.keepIn K (.ref f13) = true)
    (a14 : PySem.W.nsIn K mainGlobals "told" = some (some (.ref f14))) (l14 : K.lookup f14 = some ⟨oc14, od14, .func (PySem.W.fnOf "told" "told" (defArgs s_told) (defBody s_told) (defScope s_told) .none kV14 dc14 pm14 an14 cd14 ct14), sl14⟩) (c14 : PySem.W.codeIn K cd14 "told" = true) (k14 : PySem.W.keepIn K (.ref f14) = true)
    (a15 : PySem.W.nsIn K mainGlobals "never" = some (some (.ref f15))) (l15 : K.lookup f15 = some ⟨oc15, od15, .func (PySem.W.fnOf "never" "never" (defArgs s_never) (defBody s_never) (defScope s_never) .none kV15 dc15 pm15 an15 cd15 ct15), sl15⟩) (c15 : PySem.W.codeIn K cd15 "never" = true) (k15 : PySem.W.keepIn K (.ref f15) = true)
    (a16 : PySem.W.nsIn K mainGlobals "figure_together" = some (some (.ref f16))) (l16 : K.lookup f16 = some ⟨oc16, od16, .func (PySem.W.fnOf "figure_together" "figure_together" (defArgs s_figure_together) (defBody s_figure_together) (defScope s_figure_together) .none kV16 dc16 pm16 an16 cd16 ct16), sl16⟩) (c16 : PySem.W.codeIn K cd16 "figure_together" = true) (k16 : PySem.W.keepIn K (.ref f16) = true)
    (a17 : PySem.W.nsIn K mainGlobals "put_together" = some (some (.ref f17))) (l17 : K.lookup f17 = some ⟨oc17, od17, .func (PySem.W.fnOf "put_together" "put_together" (defArgs s_put_together) (defBody s_put_together) (defScope s_put_together) .none kV17 dc17 pm17 an17 cd17 ct17), sl17⟩) (c17 : PySem.W.codeIn K cd17 "put_together" = true) (k17 : PySem.W.keepIn K (.ref f17) = true)
    (a18 : PySem.W.nsIn K mainGlobals "either" = some (some (.ref f18))) (l18 : K.lookup f18 = some ⟨oc18, od18, .func (PySem.W.fnOf "either" "either" (defArgs s_either) (defBody s_either) (defScope s_either) .none kV18 dc18 pm18 an18 cd18 ct18), sl18⟩) (c18 : PySem.W.codeIn K cd18 "either" = true) (k18 : PySem.W.keepIn K (.ref f18) = true)
    (a19 : PySem.W.nsIn K mainGlobals "is_rule" = some (some (.ref f19))) (l19 : K.lookup f19 = some ⟨oc19, od19, .func (PySem.W.fnOf "is_rule" "is_rule" (defArgs s_is_rule) (defBody s_is_rule) (defScope s_is_rule) .none kV19 dc19 pm19 an19 cd19 ct19), sl19⟩) (c19 : PySem.W.codeIn K cd19 "is_rule" = true) (k19 : PySem.W.keepIn K (.ref f19) = true)
    (a20 : PySem.W.nsIn K mainGlobals "check_rules" = some (some (.ref f20))) (l20 : K.lookup f20 = some ⟨oc20, od20, .func (PySem.W.fnOf "check_rules" "check_rules" (defArgs s_check_rules) (defBody s_check_rules) (defScope s_check_rules) .none kV20 dc20 pm20 an20 cd20 ct20), sl20⟩) (c20 : PySem.W.codeIn K cd20 "check_rules" = true) (k20 : PySem.W.keepIn K (.ref f20) = true)
    (a21 : PySem.W.nsIn K mainGlobals "pulse_of_rule" = some (some (.ref f21))) (l21 : K.lookup f21 = some ⟨oc21, od21, .func (PySem.W.fnOf "pulse_of_rule" "pulse_of_rule" (defArgs s_pulse_of_rule) (defBody s_pulse_of_rule) (defScope s_pulse_of_rule) .none kV21 dc21 pm21 an21 cd21 ct21), sl21⟩) (c21 : PySem.W.codeIn K cd21 "pulse_of_rule" = true) (k21 : PySem.W.keepIn K (.ref f21) = true)
    (a22 : PySem.W.nsIn K mainGlobals "from_rules" = some (some (.ref f22))) (l22 : K.lookup f22 = some ⟨oc22, od22, .func (PySem.W.fnOf "from_rules" "from_rules" (defArgs s_from_rules) (defBody s_from_rules) (defScope s_from_rules) .none kV22 dc22 pm22 an22 cd22 ct22), sl22⟩) (c22 : PySem.W.codeIn K cd22 "from_rules" = true) (k22 : PySem.W.keepIn K (.ref f22) = true)
    (a23 : PySem.W.nsIn K mainGlobals "rules_of" = some (some (.ref f23))) (l23 : K.lookup f23 = some ⟨oc23, od23, .func (PySem.W.fnOf "rules_of" "rules_of" (defArgs s_rules_of) (defBody s_rules_of) (defScope s_rules_of) .none kV23 dc23 pm23 an23 cd23 ct23), sl23⟩) (c23 : PySem.W.codeIn K cd23 "rules_of" = true) (k23 : PySem.W.keepIn K (.ref f23) = true)
    (a24 : PySem.W.nsIn K mainGlobals "summed" = some (some (.ref f24))) (l24 : K.lookup f24 = some ⟨oc24, od24, .func (PySem.W.fnOf "summed" "summed" (defArgs s_summed) (defBody s_summed) (defScope s_summed) .none kV24 dc24 pm24 an24 cd24 ct24), sl24⟩) (c24 : PySem.W.codeIn K cd24 "summed" = true) (k24 : PySem.W.keepIn K (.ref f24) = true)
    (a25 : PySem.W.nsIn K mainGlobals "added" = some (some (.ref f25))) (l25 : K.lookup f25 = some ⟨oc25, od25, .func (PySem.W.fnOf "added" "added" (defArgs s_added) (defBody s_added) (defScope s_added) .none kV25 dc25 pm25 an25 cd25 ct25), sl25⟩) (c25 : PySem.W.codeIn K cd25 "added" = true) (k25 : PySem.W.keepIn K (.ref f25) = true)
    (a26 : PySem.W.nsIn K mainGlobals "all_sums" = some (some (.ref f26))) (l26 : K.lookup f26 = some ⟨oc26, od26, .func (PySem.W.fnOf "all_sums" "all_sums" (defArgs s_all_sums) (defBody s_all_sums) (defScope s_all_sums) .none kV26 dc26 pm26 an26 cd26 ct26), sl26⟩) (c26 : PySem.W.codeIn K cd26 "all_sums" = true) (k26 : PySem.W.keepIn K (.ref f26) = true)
    (a27 : PySem.W.nsIn K mainGlobals "is_walk" = some (some (.ref f27))) (l27 : K.lookup f27 = some ⟨oc27, od27, .func (PySem.W.fnOf "is_walk" "is_walk" (defArgs s_is_walk) (defBody s_is_walk) (defScope s_is_walk) .none kV27 dc27 pm27 an27 cd27 ct27), sl27⟩) (c27 : PySem.W.codeIn K cd27 "is_walk" = true) (k27 : PySem.W.keepIn K (.ref f27) = true)
    (a28 : PySem.W.nsIn K mainGlobals "walked" = some (some (.ref f28))) (l28 : K.lookup f28 = some ⟨oc28, od28, .func (PySem.W.fnOf "walked" "walked" (defArgs s_walked) (defBody s_walked) (defScope s_walked) .none kV28 dc28 pm28 an28 cd28 ct28), sl28⟩) (c28 : PySem.W.codeIn K cd28 "walked" = true) (k28 : PySem.W.keepIn K (.ref f28) = true)
    (a29 : PySem.W.nsIn K mainGlobals "walk_of" = some (some (.ref f29))) (l29 : K.lookup f29 = some ⟨oc29, od29, .func (PySem.W.fnOf "walk_of" "walk_of" (defArgs s_walk_of) (defBody s_walk_of) (defScope s_walk_of) .none kV29 dc29 pm29 an29 cd29 ct29), sl29⟩) (c29 : PySem.W.codeIn K cd29 "walk_of" = true) (k29 : PySem.W.keepIn K (.ref f29) = true)
    (a30 : PySem.W.nsIn K mainGlobals "_law_cell" = some (some (.ref f30))) (l30 : K.lookup f30 = some ⟨oc30, od30, .func (PySem.W.fnOf "_law_cell" "_law_cell" (defArgs s_cell_l) (defBody s_cell_l) (defScope s_cell_l) .none kV30 dc30 pm30 an30 cd30 ct30), sl30⟩) (c30 : PySem.W.codeIn K cd30 "_law_cell" = true) (k30 : PySem.W.keepIn K (.ref f30) = true)
    (a31 : PySem.W.nsIn K mainGlobals "_law_mix" = some (some (.ref f31))) (l31 : K.lookup f31 = some ⟨oc31, od31, .func (PySem.W.fnOf "_law_mix" "_law_mix" (defArgs s_mix_l) (defBody s_mix_l) (defScope s_mix_l) .none kV31 dc31 pm31 an31 cd31 ct31), sl31⟩) (c31 : PySem.W.codeIn K cd31 "_law_mix" = true) (k31 : PySem.W.keepIn K (.ref f31) = true)
    (a32 : PySem.W.nsIn K mainGlobals "_law_large" = some (some (.ref f32))) (l32 : K.lookup f32 = some ⟨oc32, od32, .func (PySem.W.fnOf "_law_large" "_law_large" (defArgs s_large_l) (defBody s_large_l) (defScope s_large_l) .none kV32 dc32 pm32 an32 cd32 ct32), sl32⟩) (c32 : PySem.W.codeIn K cd32 "_law_large" = true) (k32 : PySem.W.keepIn K (.ref f32) = true)
    (a33 : PySem.W.nsIn K mainGlobals "_law_tight" = some (some (.ref f33))) (l33 : K.lookup f33 = some ⟨oc33, od33, .func (PySem.W.fnOf "_law_tight" "_law_tight" (defArgs s_tight_l) (defBody s_tight_l) (defScope s_tight_l) .none kV33 dc33 pm33 an33 cd33 ct33), sl33⟩) (c33 : PySem.W.codeIn K cd33 "_law_tight" = true) (k33 : PySem.W.keepIn K (.ref f33) = true)
    (a34 : PySem.W.nsIn K mainGlobals "_law_bits" = some (some (.ref f34))) (l34 : K.lookup f34 = some ⟨oc34, od34, .func (PySem.W.fnOf "_law_bits" "_law_bits" (defArgs s_bits_l) (defBody s_bits_l) (defScope s_bits_l) .none kV34 dc34 pm34 an34 cd34 ct34), sl34⟩) (c34 : PySem.W.codeIn K cd34 "_law_bits" = true) (k34 : PySem.W.keepIn K (.ref f34) = true)
    (a35 : PySem.W.nsIn K mainGlobals "_law_form" = some (some (.ref f35))) (l35 : K.lookup f35 = some ⟨oc35, od35, .func (PySem.W.fnOf "_law_form" "_law_form" (defArgs s_form_l) (defBody s_form_l) (defScope s_form_l) .none kV35 dc35 pm35 an35 cd35 ct35), sl35⟩) (c35 : PySem.W.codeIn K cd35 "_law_form" = true) (k35 : PySem.W.keepIn K (.ref f35) = true)
    (a36 : PySem.W.nsIn K mainGlobals "_law_pulse" = some (some (.ref f36))) (l36 : K.lookup f36 = some ⟨oc36, od36, .func (PySem.W.fnOf "_law_pulse" "_law_pulse" (defArgs s_pulse_l) (defBody s_pulse_l) (defScope s_pulse_l) .none kV36 dc36 pm36 an36 cd36 ct36), sl36⟩) (c36 : PySem.W.codeIn K cd36 "_law_pulse" = true) (k36 : PySem.W.keepIn K (.ref f36) = true)
    (a37 : PySem.W.nsIn K mainGlobals "_law_rule" = some (some (.ref f37))) (l37 : K.lookup f37 = some ⟨oc37, od37, .func (PySem.W.fnOf "_law_rule" "_law_rule" (defArgs s_rule_l) (defBody s_rule_l) (defScope s_rule_l) .none kV37 dc37 pm37 an37 cd37 ct37), sl37⟩) (c37 : PySem.W.codeIn K cd37 "_law_rule" = true) (k37 : PySem.W.keepIn K (.ref f37) = true)
    (a38 : PySem.W.nsIn K mainGlobals "_law_rules" = some (some (.ref f38))) (l38 : K.lookup f38 = some ⟨oc38, od38, .func (PySem.W.fnOf "_law_rules" "_law_rules" (defArgs s_rules_l) (defBody s_rules_l) (defScope s_rules_l) .none kV38 dc38 pm38 an38 cd38 ct38), sl38⟩) (c38 : PySem.W.codeIn K cd38 "_law_rules" = true) (k38 : PySem.W.keepIn K (.ref f38) = true)
    (a39 : PySem.W.nsIn K mainGlobals "_law_walk" = some (some (.ref f39))) (l39 : K.lookup f39 = some ⟨oc39, od39, .func (PySem.W.fnOf "_law_walk" "_law_walk" (defArgs s_walk_l) (defBody s_walk_l) (defScope s_walk_l) .none kV39 dc39 pm39 an39 cd39 ct39), sl39⟩) (c39 : PySem.W.codeIn K cd39 "_law_walk" = true) (k39 : PySem.W.keepIn K (.ref f39) = true)
    (a40 : PySem.W.nsIn K mainGlobals "law" = some (some (.ref f40))) (l40 : K.lookup f40 = some ⟨oc40, od40, .func (PySem.W.fnOf "law" "law" (defArgs s_law) (defBody s_law) (defScope s_law) .none kV40 dc40 pm40 an40 cd40 ct40), sl40⟩) (c40 : PySem.W.codeIn K cd40 "law" = true) (k40 : PySem.W.keepIn K (.ref f40) = true)
    (z0 : PySem.W.nsIn K mainGlobals "len" = some none)
    (z1 : PySem.W.nsIn K mainGlobals "list" = some none)
    (z2 : PySem.W.nsIn K mainGlobals "tuple" = some none)
    (z3 : PySem.W.nsIn K mainGlobals "range" = some none)
    (z4 : PySem.W.nsIn K mainGlobals "max" = some none)
    (z5 : PySem.W.nsIn K mainGlobals "isinstance" = some none)
    (z6 : PySem.W.nsIn K mainGlobals "bool" = some none)
    (z7 : PySem.W.nsIn K mainGlobals "int" = some none)
    (z8 : PySem.W.nsIn K mainGlobals "all" = some none)
    (z9 : PySem.W.nsIn K mainGlobals "zip" = some none)
    {t0 : Tok} (y0 : PySem.W.nsIn K mainGlobals "LONGEST_HEAD" = some (some (.int 400 t0)))
    {t1 : Tok} (y1 : PySem.W.nsIn K mainGlobals "LONGEST_BAR" = some (some (.int 200 t1)))
    {p2 : Addr} {v2 : Option Addr} {w2 : Array (Option Value)} {n2 : Nat} {tk2_0 tk2_1 tk2_2 tk2_3 : Tok} (y2 : PySem.W.nsIn K mainGlobals "OF_EITHER" = some (some (.ref p2))) (x2 : K.lookup p2 = some ⟨.type "tuple", v2, .seq #[.int 0 tk2_0, .int 1 tk2_1, .int 1 tk2_2, .int 1 tk2_3] n2, w2⟩)
    {t3 : Tok} (y3 : PySem.W.nsIn K mainGlobals "MOST_RULES" = some (some (.int 12 t3)))
    {t4 : Tok} (y4 : PySem.W.nsIn K mainGlobals "LATEST_START" = some (some (.int 400 t4)))
    {t5 : Tok} (y5 : PySem.W.nsIn K mainGlobals "LONGEST_STEP" = some (some (.int 200 t5)))
    {t6 : Tok} (y6 : PySem.W.nsIn K mainGlobals "MOST_TIMES" = some (some (.int 400 t6)))
    {t7 : Tok} (y7 : PySem.W.nsIn K mainGlobals "MOST_NUMBERS" = some (some (.int 6 t7)))
    {t8 : Tok} (y8 : PySem.W.nsIn K mainGlobals "GREATEST_NUMBER" = some (some (.int 20 t8)))
    {t9 : Tok} (y9 : PySem.W.nsIn K mainGlobals "MOST_PLACES" = some (some (.int 400 t9)))
    : ∃ fd : FuncData, (∀ (s : Shared) (v : Value), BindsTo s fd ⟨[v], []⟩ [("_law_script", v)]) ∧ ∀ base : Heap, K.In base → base.Ns mainGlobals mg → FnOk l.prog w K mg base CX0 8 fa fd ["_law_script"] (spLaw K) := by
  have e := hfa.symm.trans (PySem.W.mg_of X G a40)
  cases e
  have F0 : Txt1 K mg "is_whole" s_is_whole ["value"] := ⟨_, _, fun_mk (st := s_is_whole) l0 c0 k0, (fun_mk (st := s_is_whole) l0 c0 k0).binds1 (fun _ _ _ _ _ _ _ => rfl), PySem.W.mg_of X G a0⟩
  have F1 : Txt1 K mg "is_number" s_is_number ["value", "least", "greatest"] := ⟨_, _, fun_mk (st := s_is_number) l1 c1 k1, (fun_mk (st := s_is_number) l1 c1 k1).binds3 (fun _ _ _ _ _ _ _ _ _ => rfl), PySem.W.mg_of X G a1⟩
  have F2 : Txt1 K mg "are_numbers" s_are_numbers ["entries", "least", "greatest"] := ⟨_, _, fun_mk (st := s_are_numbers) l2 c2 k2, (fun_mk (st := s_are_numbers) l2 c2 k2).binds3 (fun _ _ _ _ _ _ _ _ _ => rfl), PySem.W.mg_of X G a2⟩
  have F3 : Txt1 K mg "is_list" s_is_list ["value", "fewest", "most"] := ⟨_, _, fun_mk (st := s_is_list) l3 c3 k3, (fun_mk (st := s_is_list) l3 c3 k3).binds3 (fun _ _ _ _ _ _ _ _ _ => rfl), PySem.W.mg_of X G a3⟩
  have F4 : Txt1 K mg "place_in_bar" s_place_in_bar ["day", "head", "bar"] := ⟨_, _, fun_mk (st := s_place_in_bar) l4 c4 k4, (fun_mk (st := s_place_in_bar) l4 c4 k4).binds3 (fun _ _ _ _ _ _ _ _ _ => rfl), PySem.W.mg_of X G a4⟩
  have F5 : Txt1 K mg "figure_of" s_figure_of ["pulse", "day"] := ⟨_, _, fun_mk (st := s_figure_of) l5 c5 k5, (fun_mk (st := s_figure_of) l5 c5 k5).binds2 (fun _ _ _ _ _ _ _ _ => rfl), PySem.W.mg_of X G a5⟩
  have F6 : Txt1 K mg "places_of_ones" s_places_of_ones ["figures"] := ⟨_, _, fun_mk (st := s_places_of_ones) l6 c6 k6, (fun_mk (st := s_places_of_ones) l6 c6 k6).binds1 (fun _ _ _ _ _ _ _ => rfl), PySem.W.mg_of X G a6⟩
  have F7 : Txt1 K mg "days_of_head" s_days_of_head ["pulse"] := ⟨_, _, fun_mk (st := s_days_of_head) l7 c7 k7, (fun_mk (st := s_days_of_head) l7 c7 k7).binds1 (fun _ _ _ _ _ _ _ => rfl), PySem.W.mg_of X G a7⟩
  have F8 : Txt1 K mg "first_days_of_bar" s_first_days_of_bar ["pulse"] := ⟨_, _, fun_mk (st := s_first_days_of_bar) l8 c8 k8, (fun_mk (st := s_first_days_of_bar) l8 c8 k8).binds1 (fun _ _ _ _ _ _ _ => rfl), PySem.W.mg_of X G a8⟩
  have F9 : Txt1 K mg "longer_head" s_longer_head ["one", "other"] := ⟨_, _, fun_mk (st := s_longer_head) l9 c9 k9, (fun_mk (st := s_longer_head) l9 c9 k9).binds2 (fun _ _ _ _ _ _ _ _ => rfl), PySem.W.mg_of X G a9⟩
  have F10 : Txt1 K mg "common_bar" s_common_bar ["one", "other"] := ⟨_, _, fun_mk (st := s_common_bar) l10 c10 k10, (fun_mk (st := s_common_bar) l10 c10 k10).binds2 (fun _ _ _ _ _ _ _ _ => rfl), PySem.W.mg_of X G a10⟩
  have F11 : Txt1 K mg "shortest_bar" s_shortest_bar ["bar"] := ⟨_, _, fun_mk (st := s_shortest_bar) l11 c11 k11, (fun_mk (st := s_shortest_bar) l11 c11 k11).binds1 (fun _ _ _ _ _ _ _ => rfl), PySem.W.mg_of X G a11⟩
  have F12 : Txt1 K mg "needed_of_head" s_needed_of_head ["head", "bar"] := ⟨_, _, fun_mk (st := s_needed_of_head) l12 c12 k12, (fun_mk (st := s_needed_of_head) l12 c12 k12).binds2 (fun _ _ _ _ _ _ _ _ => rfl), PySem.W.mg_of X G a12⟩
  have F13 : Txt1 K mg "tight" s_tight ["head", "bar"] := ⟨_, _, fun_mk (st := s_tight) l13 c13 k13, (fun_mk (st := s_tight) l13 c13 k13).binds2 (fun _ _ _ _ _ _ _ _ => rfl), PySem.W.mg_of X G a13⟩
  have F14 : Txt1 K mg "told" s_told ["head", "bar"] := ⟨_, _, fun_mk (st := s_told) l14 c14 k14, (fun_mk (st := s_told) l14 c14 k14).binds2 (fun _ _ _ _ _ _ _ _ => rfl), PySem.W.mg_of X G a14⟩
  have F15 : Txt1 K mg "never" s_never [] := ⟨_, _, fun_mk (st := s_never) l15 c15 k15, (fun_mk (st := s_never) l15 c15 k15).binds0 (fun _ _ _ _ _ _ => rfl), PySem.W.mg_of X G a15⟩
  have F16 : Txt1 K mg "figure_together" s_figure_together ["one", "other", "wanted", "day"] := ⟨_, _, fun_mk (st := s_figure_together) l16 c16 k16, (fun_mk (st := s_figure_together) l16 c16 k16).binds4 (fun _ _ _ _ _ _ _ _ _ _ => rfl), PySem.W.mg_of X G a16⟩
  have F17 : Txt1 K mg "put_together" s_put_together ["one", "other", "wanted"] := ⟨_, _, fun_mk (st := s_put_together) l17 c17 k17, (fun_mk (st := s_put_together) l17 c17 k17).binds3 (fun _ _ _ _ _ _ _ _ _ => rfl), PySem.W.mg_of X G a17⟩
  have F18 : Txt1 K mg "either" s_either ["one", "other"] := ⟨_, _, fun_mk (st := s_either) l18 c18 k18, (fun_mk (st := s_either) l18 c18 k18).binds2 (fun _ _ _ _ _ _ _ _ => rfl), PySem.W.mg_of X G a18⟩
  have F19 : Txt1 K mg "is_rule" s_is_rule ["value"] := ⟨_, _, fun_mk (st := s_is_rule) l19 c19 k19, (fun_mk (st := s_is_rule) l19 c19 k19).binds1 (fun _ _ _ _ _ _ _ => rfl), PySem.W.mg_of X G a19⟩
  have F20 : Txt1 K mg "check_rules" s_check_rules ["rules"] := ⟨_, _, fun_mk (st := s_check_rules) l20 c20 k20, (fun_mk (st := s_check_rules) l20 c20 k20).binds1 (fun _ _ _ _ _ _ _ => rfl), PySem.W.mg_of X G a20⟩
  have F21 : Txt1 K mg "pulse_of_rule" s_pulse_of_rule ["rule"] := ⟨_, _, fun_mk (st := s_pulse_of_rule) l21 c21 k21, (fun_mk (st := s_pulse_of_rule) l21 c21 k21).binds1 (fun _ _ _ _ _ _ _ => rfl), PySem.W.mg_of X G a21⟩
  have F22 : Txt1 K mg "from_rules" s_from_rules ["rules"] := ⟨_, _, fun_mk (st := s_from_rules) l22 c22 k22, (fun_mk (st := s_from_rules) l22 c22 k22).binds1 (fun _ _ _ _ _ _ _ => rfl), PySem.W.mg_of X G a22⟩
  have F23 : Txt1 K mg "rules_of" s_rules_of ["pulse"] := ⟨_, _, fun_mk (st := s_rules_of) l23 c23 k23, (fun_mk (st := s_rules_of) l23 c23 k23).binds1 (fun _ _ _ _ _ _ _ => rfl), PySem.W.mg_of X G a23⟩
  have F24 : Txt1 K mg "summed" s_summed ["days", "others", "steps", "length"] := ⟨_, _, fun_mk (st := s_summed) l24 c24 k24, (fun_mk (st := s_summed) l24 c24 k24).binds4 (fun _ _ _ _ _ _ _ _ _ _ => rfl), PySem.W.mg_of X G a24⟩
  have F25 : Txt1 K mg "added" s_added ["one", "other"] := ⟨_, _, fun_mk (st := s_added) l25 c25 k25, (fun_mk (st := s_added) l25 c25 k25).binds2 (fun _ _ _ _ _ _ _ _ => rfl), PySem.W.mg_of X G a25⟩
  have F26 : Txt1 K mg "all_sums" s_all_sums ["numbers"] := ⟨_, _, fun_mk (st := s_all_sums) l26 c26 k26, (fun_mk (st := s_all_sums) l26 c26 k26).binds1 (fun _ _ _ _ _ _ _ => rfl), PySem.W.mg_of X G a26⟩
  have F27 : Txt1 K mg "is_walk" s_is_walk ["steps", "marks", "start"] := ⟨_, _, fun_mk (st := s_is_walk) l27 c27 k27, (fun_mk (st := s_is_walk) l27 c27 k27).binds3 (fun _ _ _ _ _ _ _ _ _ => rfl), PySem.W.mg_of X G a27⟩
  have F28 : Txt1 K mg "walked" s_walked ["steps", "marks", "start"] := ⟨_, _, fun_mk (st := s_walked) l28 c28 k28, (fun_mk (st := s_walked) l28 c28 k28).binds3 (fun _ _ _ _ _ _ _ _ _ => rfl), PySem.W.mg_of X G a28⟩
  have F29 : Txt1 K mg "walk_of" s_walk_of ["pulse"] := ⟨_, _, fun_mk (st := s_walk_of) l29 c29 k29, (fun_mk (st := s_walk_of) l29 c29 k29).binds1 (fun _ _ _ _ _ _ _ => rfl), PySem.W.mg_of X G a29⟩
  have F30 : Txt1 K mg "_law_cell" s_cell_l ["_law_script", "_law_k"] := ⟨_, _, fun_mk (st := s_cell_l) l30 c30 k30, (fun_mk (st := s_cell_l) l30 c30 k30).binds2 (fun _ _ _ _ _ _ _ _ => rfl), PySem.W.mg_of X G a30⟩
  have F31 : Txt1 K mg "_law_mix" s_mix_l ["_law_cell_here", "_law_prime", "_law_many"] := ⟨_, _, fun_mk (st := s_mix_l) l31 c31 k31, (fun_mk (st := s_mix_l) l31 c31 k31).binds3 (fun _ _ _ _ _ _ _ _ _ => rfl), PySem.W.mg_of X G a31⟩
  have F32 : Txt1 K mg "_law_large" s_large_l ["_law_script"] := ⟨_, _, fun_mk (st := s_large_l) l32 c32 k32, (fun_mk (st := s_large_l) l32 c32 k32).binds1 (fun _ _ _ _ _ _ _ => rfl), PySem.W.mg_of X G a32⟩
  have F33 : Txt1 K mg "_law_tight" s_tight_l ["_law_head", "_law_bar"] := ⟨_, _, fun_mk (st := s_tight_l) l33 c33 k33, (fun_mk (st := s_tight_l) l33 c33 k33).binds2 (fun _ _ _ _ _ _ _ _ => rfl), PySem.W.mg_of X G a33⟩
  have F34 : Txt1 K mg "_law_bits" s_bits_l ["_law_script", "_law_at", "_law_size"] := ⟨_, _, fun_mk (st := s_bits_l) l34 c34 k34, (fun_mk (st := s_bits_l) l34 c34 k34).binds3 (fun _ _ _ _ _ _ _ _ _ => rfl), PySem.W.mg_of X G a34⟩
  have F35 : Txt1 K mg "_law_form" s_form_l ["_law_script", "_law_at"] := ⟨_, _, fun_mk (st := s_form_l) l35 c35 k35, (fun_mk (st := s_form_l) l35 c35 k35).binds2 (fun _ _ _ _ _ _ _ _ => rfl), PySem.W.mg_of X G a35⟩
  have F36 : Txt1 K mg "_law_pulse" s_pulse_l ["_law_script", "_law_at"] := ⟨_, _, fun_mk (st := s_pulse_l) l36 c36 k36, (fun_mk (st := s_pulse_l) l36 c36 k36).binds2 (fun _ _ _ _ _ _ _ _ => rfl), PySem.W.mg_of X G a36⟩
  have F37 : Txt1 K mg "_law_rule" s_rule_l ["_law_cell_here"] := ⟨_, _, fun_mk (st := s_rule_l) l37 c37 k37, (fun_mk (st := s_rule_l) l37 c37 k37).binds1 (fun _ _ _ _ _ _ _ => rfl), PySem.W.mg_of X G a37⟩
  have F38 : Txt1 K mg "_law_rules" s_rules_l ["_law_script"] := ⟨_, _, fun_mk (st := s_rules_l) l38 c38 k38, (fun_mk (st := s_rules_l) l38 c38 k38).binds1 (fun _ _ _ _ _ _ _ => rfl), PySem.W.mg_of X G a38⟩
  have F39 : Txt1 K mg "_law_walk" s_walk_l ["_law_script", "_law_at"] := ⟨_, _, fun_mk (st := s_walk_l) l39 c39 k39, (fun_mk (st := s_walk_l) l39 c39 k39).binds2 (fun _ _ _ _ _ _ _ _ => rfl), PySem.W.mg_of X G a39⟩
  have F40 : Txt1 K mg "law" s_law ["_law_script"] := ⟨_, _, fun_mk (st := s_law) l40 c40 k40, (fun_mk (st := s_law) l40 c40 k40).binds1 (fun _ _ _ _ _ _ _ => rfl), PySem.W.mg_of X G a40⟩
  have T : Txt K mg := ⟨trivial, PySem.W.mg_none_of X G z0, PySem.W.mg_none_of X G z1, PySem.W.mg_none_of X G z2, PySem.W.mg_none_of X G z3, PySem.W.mg_none_of X G z4, PySem.W.mg_none_of X G z5, PySem.W.mg_none_of X G z6, PySem.W.mg_none_of X G z7, PySem.W.mg_none_of X G z8, PySem.W.mg_none_of X G z9, ⟨_, PySem.W.mg_of X G y0⟩, ⟨_, PySem.W.mg_of X G y1⟩, ⟨_, PySem.W.mg_of X G y2, fun H => .inr ⟨_, _, _, x2, rfl, rfl, smallb, (.cons ⟨_, rfl⟩ (.cons ⟨_, rfl⟩ (.cons ⟨_, rfl⟩ (.cons ⟨_, rfl⟩ .nil))))⟩⟩, ⟨_, PySem.W.mg_of X G y3⟩, ⟨_, PySem.W.mg_of X G y4⟩, ⟨_, PySem.W.mg_of X G y5⟩, ⟨_, PySem.W.mg_of X G y6⟩, ⟨_, PySem.W.mg_of X G y7⟩, ⟨_, PySem.W.mg_of X G y8⟩, ⟨_, PySem.W.mg_of X G y9⟩⟩
  refine ⟨PySem.W.fnOf "law" "law" (defArgs s_law) (defBody s_law) (defScope s_law) .none kV40 dc40 pm40 an40 cd40 ct40, fun s v => .of_eq rfl, fun base _ _ => ?_⟩
  have D0 : DefOk l.prog w K mg base 1 "is_whole" ["value"] (spIsWhole) := ok_is_whole (k := 0) T F0
  have D1 : DefOk l.prog w K mg base 2 "is_number" ["value", "least", "greatest"] (spIsNumber) := ok_is_number (k := 1) T (D0.mono (by decide)) F1
  have D2 : DefOk l.prog w K mg base 3 "are_numbers" ["entries", "least", "greatest"] (spAreL K) := ok_are_numbers (k := 2) T (D1.mono (by decide)) F2
  have D3 : DefOk l.prog w K mg base 1 "is_list" ["value", "fewest", "most"] (spIsList K) := ok_is_list (k := 0) T F3
  have D4 : DefOk l.prog w K mg base 1 "place_in_bar" ["day", "head", "bar"] (spPlace K) := ok_place_in_bar (k := 0) T F4
  have D5 : DefOk l.prog w K mg base 2 "figure_of" ["pulse", "day"] (spFigure K) := ok_figure_of (k := 1) T (D4.mono (by decide)) F5
  have D6 : DefOk l.prog w K mg base 1 "places_of_ones" ["figures"] (spPlaces K) := ok_places_of_ones (k := 0) T F6
  have D7 : DefOk l.prog w K mg base 2 "days_of_head" ["pulse"] (spDaysH K) := ok_days_of_head (k := 1) T (D6.mono (by decide)) F7
  have D8 : DefOk l.prog w K mg base 2 "first_days_of_bar" ["pulse"] (spDaysB K) := ok_first_days_of_bar (k := 1) T (D6.mono (by decide)) F8
  have D9 : DefOk l.prog w K mg base 1 "longer_head" ["one", "other"] (spLonger K) := ok_longer_head (k := 0) T F9
  have D10 : DefOk l.prog w K mg base 1 "common_bar" ["one", "other"] (spComBar K) := ok_common_bar (k := 0) T F10
  have D11 : DefOk l.prog w K mg base 1 "shortest_bar" ["bar"] (spShort K) := ok_shortest_bar (k := 0) T F11
  have D12 : DefOk l.prog w K mg base 2 "needed_of_head" ["head", "bar"] (spNeeded K) := ok_needed_of_head (k := 1) T (D4.mono (by decide)) F12
  have D13 : DefOk l.prog w K mg base 3 "tight" ["head", "bar"] (spTight K) := ok_tight (k := 2) T (D11.mono (by decide)) (D12.mono (by decide)) (D4.mono (by decide)) F13
  have D14 : DefOk l.prog w K mg base 4 "told" ["head", "bar"] (spTold K) := ok_told (k := 3) T (D13.mono (by decide)) F14
  have D15 : DefOk l.prog w K mg base 1 "never" [] (spConst K [] [0]) := ok_never (k := 0) T F15
  have D16 : DefOk l.prog w K mg base 3 "figure_together" ["one", "other", "wanted", "day"] (spFigT K) := ok_figure_together (k := 2) T (D5.mono (by decide)) F16
  have D17 : DefOk l.prog w K mg base 5 "put_together" ["one", "other", "wanted"] (spPut K) := ok_put_together (k := 4) T (D9.mono (by decide)) (D14.mono (by decide)) (D10.mono (by decide)) (D16.mono (by decide)) F17
  have D18 : DefOk l.prog w K mg base 6 "either" ["one", "other"] (spBin K [0, 1, 1, 1]) := ok_either (k := 5) T (D17.mono (by decide)) F18
  have D19 : DefOk l.prog w K mg base 3 "is_rule" ["value"] (spIsRule K) := ok_is_rule (k := 2) T (D1.mono (by decide)) F19
  have D20 : DefOk l.prog w K mg base 4 "check_rules" ["rules"] (spCheckR K) := ok_check_rules (k := 3) T (D3.mono (by decide)) (D19.mono (by decide)) F20
  have D21 : DefOk l.prog w K mg base 5 "pulse_of_rule" ["rule"] (spOfR0 K) := ok_pulse_of_rule (k := 4) T (D14.mono (by decide)) F21
  have D22 : DefOk l.prog w K mg base 7 "from_rules" ["rules"] (spRules0 K) := ok_from_rules (k := 6) T (D20.mono (by decide)) (D15.mono (by decide)) (D18.mono (by decide)) (D21.mono (by decide)) F22
  have D23 : DefOk l.prog w K mg base 3 "rules_of" ["pulse"] (spRulesOf K) := ok_rules_of (k := 2) T (D7.mono (by decide)) (D8.mono (by decide)) F23
  have D24 : DefOk l.prog w K mg base 1 "summed" ["days", "others", "steps", "length"] (spSummed K) := ok_summed (k := 0) T F24
  have D25 : DefOk l.prog w K mg base 5 "added" ["one", "other"] (spAdded0 K) := ok_added (k := 4) T (D10.mono (by decide)) (D24.mono (by decide)) (D14.mono (by decide)) (D7.mono (by decide)) (D8.mono (by decide)) F25
  have D26 : DefOk l.prog w K mg base 5 "all_sums" ["numbers"] (spSums K) := ok_all_sums (k := 4) T (D24.mono (by decide)) (D14.mono (by decide)) (D3.mono (by decide)) (D2.mono (by decide)) F26
  have D27 : DefOk l.prog w K mg base 4 "is_walk" ["steps", "marks", "start"] (spIsWalk K) := ok_is_walk (k := 3) T (D2.mono (by decide)) (D1.mono (by decide)) (D3.mono (by decide)) F27
  have D28 : DefOk l.prog w K mg base 5 "walked" ["steps", "marks", "start"] (spWalked0 K) := ok_walked (k := 4) T (D14.mono (by decide)) (D27.mono (by decide)) F28
  have D29 : DefOk l.prog w K mg base 1 "walk_of" ["pulse"] (spWalkOf K) := ok_walk_of (k := 0) T F29
  have D30 : DefOk l.prog w K mg base 1 "_law_cell" ["_law_script", "_law_k"] (spCell K) := ok_cell_l (k := 0) T F30
  have D31 : DefOk l.prog w K mg base 1 "_law_mix" ["_law_cell_here", "_law_prime", "_law_many"] (spMix) := ok_mix_l (k := 0) T F31
  have D32 : DefOk l.prog w K mg base 2 "_law_large" ["_law_script"] (spLarge K) := ok_large_l (k := 1) T (D31.mono (by decide)) (D30.mono (by decide)) F32
  have D33 : DefOk l.prog w K mg base 1 "_law_tight" ["_law_head", "_law_bar"] (spTightL K) := ok_tight_l (k := 0) T F33
  have D34 : DefOk l.prog w K mg base 2 "_law_bits" ["_law_script", "_law_at", "_law_size"] (spBits K) := ok_bits_l (k := 1) T (D31.mono (by decide)) (D30.mono (by decide)) F34
  have D35 : DefOk l.prog w K mg base 3 "_law_form" ["_law_script", "_law_at"] (spForm K) := ok_form_l (k := 2) T (D32.mono (by decide)) (D30.mono (by decide)) (D34.mono (by decide)) (D31.mono (by decide)) F35
  have D36 : DefOk l.prog w K mg base 4 "_law_pulse" ["_law_script", "_law_at"] (spPulse K) := ok_pulse_l (k := 3) T (D35.mono (by decide)) (D33.mono (by decide)) F36
  have D37 : DefOk l.prog w K mg base 2 "_law_rule" ["_law_cell_here"] (spRuleL K) := ok_rule_l (k := 1) T (D31.mono (by decide)) F37
  have D38 : DefOk l.prog w K mg base 3 "_law_rules" ["_law_script"] (spRulesL K) := ok_rules_l (k := 2) T (D37.mono (by decide)) (D30.mono (by decide)) F38
  have D39 : DefOk l.prog w K mg base 3 "_law_walk" ["_law_script", "_law_at"] (spWalkL K) := ok_walk_l (k := 2) T (D32.mono (by decide)) (D31.mono (by decide)) (D30.mono (by decide)) F39
  exact ok_law (P := l.prog) (w := w) (base := base) (k := 7) T (D36.mono (by decide)) (D38.mono (by decide)) (D39.mono (by decide)) (D22.mono (by decide)) (D26.mono (by decide)) (D28.mono (by decide)) (D25.mono (by decide)) (D23.mono (by decide)) (D29.mono (by decide)) (D30.mono (by decide)) (fun_mk (st := s_law) l40 c40 k40)
theorem walk {l : PySem.W.OpenLaw} {q : Program} {loose : List Str} {XP : (Str → Option Value) → Heap → Prop} {YP : World → Heap → Prop} {d : DefRec} {K : Params → PySem.W.Frag} (hn : l.most = some 63) (hdf : d.params.defaults = [])
    (hY : ∀ (w : World) (h : Heap), YP w h → (K w.params).In h)
    (F : ∀ (w : World) (mg : Str → Option Value) (fa : Addr) (h : Heap), (K w.params).In h → h.Ns mainGlobals mg → mg d.name = some (.ref fa) →
      ∃ fd : FuncData, (∀ (s : Shared) (u : Value), BindsTo s fd ⟨[u], []⟩ [("_law_script", u)]) ∧ ∀ base : Heap, (K w.params).In base → base.Ns mainGlobals mg → FnOk l.prog w (K w.params) mg base CX0 8 fa fd ["_law_script"] (spLaw (K w.params))) :
    PySem.W.WalkO q loose XP YP l.row.toRowW d [] (fun f vs => PySem.call f vs) :=
  L2.walk_of (n := 63) (k := 8) (x := "_law_script") (CX := fun _ => CX0) (sp := fun w => spLaw (K w.params)) hn (by decide) hdf ⟨rfl, by decide, by decide⟩ hY F (fun _ _ a ns hl _ hS => ⟨a, ns, rfl, hS, hl, fun _ => rfl⟩) fun _ _ _ _ _ z => z
end Lk27
open PySem PySem.W PyProof.Rows
set_option maxRecDepth 100000 in
set_option maxHeartbeats 0 in
theorem PySem.Challenge.cw_pulsebook_k27_nothing_is_kept_holds : PySem.Challenge.rw_pulsebook_k27_nothing_is_kept.Holds := by
  w_on; o_law; z_head; (case hw => w_witness2)
  k_fill
  refine L2.walkX_of (fun _ => by kernel_rfl) ?_
  refine Lk27.walk (l := PySem.Challenge.rw_pulsebook_k27_nothing_is_kept) rfl rfl (fun w h Y => Y) ?F
  case F =>
    intro w mg fa h KX G hmg
    refine' Lk27.all_mk KX G hmg ?a0 ?l0 ?c0 ?k0 ?a1 ?l1 ?c1 ?k1 ?a2 ?l2 ?c2 ?k2 ?a3 ?l3 ?c3 ?k3 ?a4 ?l4 ?c4 ?k4 ?a5 ?l5 ?c5 ?k5 ?a6 ?l6 ?c6 ?k6 ?a7 ?l7 ?c7 ?k7 ?a8 ?l8 ?c8 ?k8 ?a9 ?l9 ?c9 ?k9 ?a10 ?l10 ?c10 ?k10 ?a11 ?l11 ?c11 ?k11 ?a12 ?l12 ?c12 ?k12 ?a13 ?l13 ?c13 ?k13 ?a14 ?l14 ?c14 ?k14 ?a15 ?l15 ?c15 ?k15 ?a16 ?l16 ?c16 ?k16 ?a17 ?l17 ?c17 ?k17 ?a18 ?l18 ?c18 ?k18 ?a19 ?l19 ?c19 ?k19 ?a20 ?l20 ?c20 ?k20 ?a21 ?l21 ?c21 ?k21 ?a22 ?l22 ?c22 ?k22 ?a23 ?l23 ?c23 ?k23 ?a24 ?l24 ?c24 ?k24 ?a25 ?l25 ?c25 ?k25 ?a26 ?l26 ?c26 ?k26 ?a27 ?l27 ?c27 ?k27 ?a28 ?l28 ?c28 ?k28 ?a29 ?l29 ?c29 ?k29 ?a30 ?l30 ?c30 ?k30 ?a31 ?l31 ?c31 ?k31 ?a32 ?l32 ?c32 ?k32 ?a33 ?l33 ?c33 ?k33 ?a34 ?l34 ?c34 ?k34 ?a35 ?l35 ?c35 ?k35 ?a36 ?l36 ?c36 ?k36 ?a37 ?l37 ?c37 ?k37 ?a38 ?l38 ?c38 ?k38 ?a39 ?l39 ?c39 ?k39 ?a40 ?l40 ?c40 ?k40 ?z0 ?z1 ?z2 ?z3 ?z4 ?z5 ?z6 ?z7 ?z8 ?z9 ?y0 ?y1 ?y2 ?x2 ?y3 ?y4 ?y5 ?y6 ?y7 ?y8 ?y9
    (case a0 => k_is)
    (case l0 => k_is)
    (case c0 => k_is)
    (case k0 => k_is)
    (case a1 => k_is)
    (case l1 => k_is)
    (case c1 => k_is)
    (case k1 => k_is)
    (case a2 => k_is)
    (case l2 => k_is)
    (case c2 => k_is)
    (case k2 => k_is)
    (case a3 => k_is)
    (case l3 => k_is)
    (case c3 => k_is)
    (case k3 => k_is)
    (case a4 => k_is)
    (case l4 => k_is)
    (case c4 => k_is)
    (case k4 => k_is)
    (case a5 => k_is)
    (case l5 => k_is)
    (case c5 => k_is)
    (case k5 => k_is)
    (case a6 => k_is)
    (case l6 => k_is)
    (case c6 => k_is)
    (case k6 => k_is)
    (case a7 => k_is)
    (case l7 => k_is)
    (case c7 => k_is)
    (case k7 => k_is)
    (case a8 => k_is)
    (case l8 => k_is)
    (case c8 => k_is)
    (case k8 => k_is)
    (case a9 => k_is)
    (case l9 => k_is)
    (case c9 => k_is)
    (case k9 => k_is)
    (case a10 => k_is)
    (case l10 => k_is)
    (case c10 => k_is)
    (case k10 => k_is)
    (case a11 => k_is)
    (case l11 => k_is)
    (case c11 => k_is)
    (case k11 => k_is)
    (case a12 => k_is)
    (case l12 => k_is)
    (case c12 => k_is)
    (case k12 => k_is)
    (case a13 => k_is)
    (case l13 => k_is)
    (case c13 => k_is)
    (case k13 => k_is)
    (case a14 => k_is)
    (case l14 => k_is)
    (case c14 => k_is)
    (case k14 => k_is)
    (case a15 => k_is)
    (case l15 => k_is)
    (case c15 => k_is)
    (case k15 => k_is)
    (case a16 => k_is)
    (case l16 => k_is)
    (case c16 => k_is)
    (case k16 => k_is)
    (case a17 => k_is)
    (case l17 => k_is)
    (case c17 => k_is)
    (case k17 => k_is)
    (case a18 => k_is)
    (case l18 => k_is)
    (case c18 => k_is)
    (case k18 => k_is)
    (case a19 => k_is)
    (case l19 => k_is)
    (case c19 => k_is)
    (case k19 => k_is)
    (case a20 => k_is)
    (case l20 => k_is)
    (case c20 => k_is)
    (case k20 => k_is)
    (case a21 => k_is)
    (case l21 => k_is)
    (case c21 => k_is)
    (case k21 => k_is)
    (case a22 => k_is)
    (case l22 => k_is)
    (case c22 => k_is)
    (case k22 => k_is)
    (case a23 => k_is)
    (case l23 => k_is)
    (case c23 => k_is)
    (case k23 => k_is)
    (case a24 => k_is)
    (case l24 => k_is)
    (case c24 => k_is)
    (case k24 => k_is)
    (case a25 => k_is)
    (case l25 => k_is)
    (case c25 => k_is)
    (case k25 => k_is)
    (case a26 => k_is)
    (case l26 => k_is)
    (case c26 => k_is)
    (case k26 => k_is)
    (case a27 => k_is)
    (case l27 => k_is)
    (case c27 => k_is)
    (case k27 => k_is)
    (case a28 => k_is)
    (case l28 => k_is)
    (case c28 => k_is)
    (case k28 => k_is)
    (case a29 => k_is)
    (case l29 => k_is)
    (case c29 => k_is)
    (case k29 => k_is)
    (case a30 => k_is)
    (case l30 => k_is)
    (case c30 => k_is)
    (case k30 => k_is)
    (case a31 => k_is)
    (case l31 => k_is)
    (case c31 => k_is)
    (case k31 => k_is)
    (case a32 => k_is)
    (case l32 => k_is)
    (case c32 => k_is)
    (case k32 => k_is)
    (case a33 => k_is)
    (case l33 => k_is)
    (case c33 => k_is)
    (case k33 => k_is)
    (case a34 => k_is)
    (case l34 => k_is)
    (case c34 => k_is)
    (case k34 => k_is)
    (case a35 => k_is)
    (case l35 => k_is)
    (case c35 => k_is)
    (case k35 => k_is)
    (case a36 => k_is)
    (case l36 => k_is)
    (case c36 => k_is)
    (case k36 => k_is)
    (case a37 => k_is)
    (case l37 => k_is)
    (case c37 => k_is)
    (case k37 => k_is)
    (case a38 => k_is)
    (case l38 => k_is)
    (case c38 => k_is)
    (case k38 => k_is)
    (case a39 => k_is)
    (case l39 => k_is)
    (case c39 => k_is)
    (case k39 => k_is)
    (case a40 => k_is)
    (case l40 => k_is)
    (case c40 => k_is)
    (case k40 => k_is)
    (case z0 => k_is)
    (case z1 => k_is)
    (case z2 => k_is)
    (case z3 => k_is)
    (case z4 => k_is)
    (case z5 => k_is)
    (case z6 => k_is)
    (case z7 => k_is)
    (case z8 => k_is)
    (case z9 => k_is)
    (case y0 => k_is)
    (case y1 => k_is)
    (case y2 => k_is)
    (case x2 => k_is)
    (case y3 => k_is)
    (case y4 => k_is)
    (case y5 => k_is)
    (case y6 => k_is)
    (case y7 => k_is)
    (case y8 => k_is)
    (case y9 => k_is)